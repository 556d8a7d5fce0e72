import PyProof.Rows.All
import Wide.All
import OpenK.AllK
import Wide.FinOn
import Lean
import PyProof.EqAt
import PyProof.EqKinds
import PyProof.TupleCall
import PyProof.NeKinds
import KE.KRevSl
import PyProof.FactsAll.bool_2
import PyProof.Rows.EqBoolInt
import PyProof.Rows.IntBool
import PySem.Challenge.RW_bankwalk_k49_dealings_by_images
-- CHANGE: your row's module here,as the last of these rows
set_option Elab.async false
set_option genSizeOf false
set_option genInjectivity false
noncomputable section
abbrev Frg:=PySem.W.Frag
open List (getElem_cons_zero length_cons getElem?_cons_succ getElem_cons_succ getElem?_cons_zero length_nil set_cons_zero set_cons_succ length_map not_mem_nil mem_append_right map_cons mem_cons getElem?_set getElem?_map cons_append size_toArray getElem?_eq_getElem map_map mem_of_getElem? mem_map length_append getD_eq_getElem?_getD mem_range length_range)
def obb{α β:Type _}{o:Option α}{f:α->Option β}{b:β}(h:o.bind f=some b):∃a,o=some a/\f a=some b:=Option.bind_eq_some_iff.mp h
set_option linter.all false
set_option maxRecDepth 100000
namespace L2
open PySem PySem.Spec PyProof.Rows
abbrev Key:=Sum Int Str
def qgG:Key->Value->Bool
 |.inl k,v=>Value.isInt k v
 |.inr x,v=>Value.isStrOf x v
def qlE (w:World):Key->Int
 |.inl k=>hashInt k
 |.inr x=>hashStr w x
def qY:∀ {k:Key} {v:Value},qgG k v=true->(∃ i t,k=Sum.inl i/\v=Value.int i t)\/(∃ x t,k=Sum.inr x/\v=Value.str x t)
 |.inl i,v,h=>by
  obtain ⟨t,e⟩:=Value.isInt_shape (k:=i) (v:=v) h;exact .inl ⟨i,t,rfl,e⟩
 |.inr x,v,h=>by
  obtain ⟨t,e⟩:=Value.isStrOf_shape (x:=x) (v:=v) h;exact .inr ⟨x,t,rfl,e⟩
def qhJ (a b:Int):decide ((Sum.inl a:Key)=Sum.inl b)=(a==b):=by
 by_cases e:a=b
 ·subst e;simp
 ·have h:¬ (Sum.inl a:Key)=Sum.inl b:=λq=>e (Sum.inl.inj q);rw [decide_eq_false h];exact (beq_eq_false_iff_ne.mpr e).symm
def qhG (a b:Str):decide ((Sum.inr a:Key)=Sum.inr b)=decide (a=b):=by
 by_cases e:a=b
 ·subst e;simp
 ·have h:¬ (Sum.inr a:Key)=Sum.inr b:=λq=>e (Sum.inr.inj q);rw [decide_eq_false h,decide_eq_false e]
def qhm (a:Int) (b:Str):decide ((Sum.inl a:Key)=Sum.inr b)=false:=decide_eq_false (λq=>nomatch q)
def qfe (a:Str) (b:Int):decide ((Sum.inr a:Key)=Sum.inl b)=false:=decide_eq_false (λq=>nomatch q)
def NF (prog:Program) (w:World):PySem.KeyKind prog w Key where
 is:=qgG
 hash:=qlE w
 inj:=λv a b ha hb=>by
  rcases qY ha with ⟨i,t,rfl,rfl⟩|⟨x,t,rfl,rfl⟩
  ·rcases qY hb with ⟨j,u,rfl,e⟩|⟨y,u,rfl,e⟩
   ·injection e with e1 _;rw [e1]
   ·exact nomatch e
  ·rcases qY hb with ⟨j,u,rfl,e⟩|⟨y,u,rfl,e⟩
   ·exact nomatch e
   ·injection e with e1 _;rw [e1]
 byValue:=λk v h=>by
  rcases qY h with ⟨i,t,rfl,rfl⟩|⟨x,t,rfl,rfl⟩<;>rfl
 pyHash:=λhv h=>by
  rcases qY hv with ⟨i,t,rfl,rfl⟩|⟨x,t,rfl,rfl⟩
  ·exact wpAny_pyHash_int h
  ·exact wpAny_pyHash_str h
 eqBool:=λhu hv h=>by
  rcases qY hu with ⟨i,t,rfl,rfl⟩|⟨x,t,rfl,rfl⟩
  ·rcases qY hv with ⟨j,u,rfl,rfl⟩|⟨y,u,rfl,rfl⟩
   ·rw [qhJ] at h;exact wpAny_eqBool_int h
   ·rw [qhm] at h;exact SeqAt.EqAt.int_str i t y u _ _ _ _ h
  ·rcases qY hv with ⟨j,u,rfl,rfl⟩|⟨y,u,rfl,rfl⟩
   ·rw [qfe] at h;exact SeqAt.EqAt.str_int x t j u _ _ _ _ h
   ·rw [qhG] at h;exact wpAny_eqBool_str h
 «strs»:=λk x t v h=>by
  rcases qY h with ⟨i,u,rfl,e⟩|⟨y,u,rfl,e⟩
  ·exact nomatch e
  ·injection e with e1 _;subst e1;cases v<;>rfl
set_option genInjectivity true in
inductive V where
 |non|bl (b:Bool)|int (i:Int)|str (x:Str)|byt (b:Array UInt8)|flt (b:UInt64)|ref (a:Addr)|ty (n:String)
 deriving DecidableEq
def jr:V->Value->Prop
 |.non,u=>u=Value.none
 |.bl b,u=>u=Value.bool b
 |.int i,u=>∃ t,u=Value.int i t
 |.str x,u=>∃ t,u=Value.str x t
 |.byt b,u=>∃ t,u=Value.bytes b t
 |.flt b,u=>∃ t,u=Value.float b t
 |.ref a,u=>u=Value.ref a
 |.ty n,u=>u=Value.type n
abbrev zt:List V->List Value->Prop:=Paired jr
def zt.length {xs:List V} {us:List Value} (r:zt xs us):xs.length=us.length:=Paired.length r
def zt.get:∀ {xs:List V} {us:List Value} {i:Nat} {x:V},zt xs us->xs[i]?=some x->∃ u,us[i]?=some u/\jr x u
 |_,_,_,_,.nil,e=>by simp at e
 |_,_,0,_,.cons r _,e=>by simp at e;subst e;exact ⟨_,rfl,r⟩
 |_,_,i+1,x,.cons _ t,e=>by
  obtain ⟨u,h1,h2⟩:=zt.get (i:=i) (x:=x) t (by simpa using e);exact ⟨u,by simpa using h1,h2⟩
def zt.set {x:V} {u:Value} (r:jr x u):∀ {xs:List V} {us:List Value} (i:Nat),zt xs us->zt (xs.set i x) (us.set i u)
 |_,_,_,.nil=>.nil
 |_,_,0,.cons _ t=>.cons r t
 |_,_,i+1,.cons q t=>.cons q (zt.set r i t)
def zt.append:∀ {xs ys:List V} {us ws:List Value},zt xs us->zt ys ws->zt (xs++ys) (us++ws)
 |_,_,_,_,.nil,s=>s
 |_,_,_,_,.cons r t,s=>.cons r (zt.append t s)
def zt.take:∀ {xs:List V} {us:List Value} (n:Nat),zt xs us->zt (xs.take n) (us.take n)
 |_,_,0,_=>.nil
 |_,_,_+1,.nil=>.nil
 |_,_,n+1,.cons r t=>.cons r (zt.take n t)
def zt.drop:∀ {xs:List V} {us:List Value} (n:Nat),zt xs us->zt (xs.drop n) (us.drop n)
 |_,_,0,r=>r
 |_,_,_+1,.nil=>.nil
 |_,_,n+1,.cons _ t=>zt.drop n t
def qk6:Option V->Option Value->Prop
 |some v,some u=>jr v u
 |none,none=>True
 |_,_=>False
def KV {κ:Type}:List (κ×V)->List (κ×Value)->Prop:=Paired λ(p:κ×V) (q:κ×Value)=>p.1=q.1/\jr p.2 q.2
def kV:Key->V
 |.inl i=>.int i
 |.inr x=>.str x
inductive HO where
 /-- a list -/
 |lst (xs:List V)
 /-- a tuple (never changes) -/
 |tup (xs:List V)
 /-- a dict whose keys are ints and texts;one whose keys are tuples of ints and texts (the empty one is both) -/
 |dK (kvs:List (Key×V))|dT (kvs:List (List Key×V))
 /-- a set of ints: its members,its size -/
 |set (S:Int->Bool) (n:Nat)
 /-- an instance of the class at C,its dict at dx,its attributes -/
 |ins (C dx:Addr) (fs:List (Str×V))
 /-- the dict of the instance at x -/
 |own (x:Addr)
 /-- the dict of an exception -/
 |xd (fs:List (Str×V))
 /-- a bound method,f of x -/
 |met (f x:Addr)
 /-- a range object lo,lo+1,.. below hi -/
 |rng (lo hi:Int)
 /-- a thing that is known to the object (the script;a dict while a loop walks it): read,never written while it is so -/
 |frz (o:Obj) (u:HO)
 /-- a code object's table -/
 |tbl (ps:Array Value)
 /-- any other thing,by what is true of its one object (a def of one's own: SetO a S n:=HO.ext λh=>..) -/
 |ext (φ:Heap->Prop)
abbrev Hp:=Addr->Option HO
def upd (H:Hp) (a:Addr) (o:HO):Hp:=λb=>if b=a then some o else H b
def qX {H:Hp} {a:Addr} {o:HO}:upd H a o a=some o:=by unfold upd;rw [if_pos rfl]
def qs {H:Hp} {a b:Addr} {o:HO} (h:b≠a):upd H a o b=H b:=by unfold upd;rw [if_neg h]
def qo {H:Hp} {a b:Addr} {o:HO} (h:H a=some o) (h':H b=none):a≠b:=by
 intro e;subst e;rw [h] at h';cases h'
section
variable (P:Program) (w:World)
def JI (H:Hp) (h:Heap) (a:Addr):HO->Prop
 |.lst xs=>xs.length<=sizeLine/\∃ (its:List Value) (n:Nat),zt xs its/\h.get? a=some { cls:=.type "list",data:=.seq its.toArray n }
 |.tup xs=>xs.length<=sizeLine/\∃ its:List Value,zt xs its/\IsTup h a its.toArray
 |.dK kvs=>kvs.length<=sizeLine/\(a==sysModules)=false/\∃ vs,KV kvs vs/\h.DictOf (NF P w) a vs
 |.dT kvs=>kvs.length<=sizeLine/\(a==sysModules)=false/\∃ xs:List (List Key×Addr×Value),
   Paired (λ(p:List Key×V) (q:List Key×Addr×Value)=>p.1=q.1/\H q.2.1=some (.tup (p.1.map kV))/\jr p.2 q.2.2) kvs xs /\
   ∃ o es ep,h.get? a=some o/\o.ExactDict/\o.data=.dict es ep/\es.toList=xs.map (entryOfKey (tupleKind (NF P w)))/\(xs.map (·.1)).Nodup
 |.set S n=>h.SetOf (intKind P w) a S n
 |.ins C dx fs=>H dx=some (.own a)/\fs.length<=1000/\dx≠a/\h.get? a=some (PySem.W.instObj C dx) /\
   ∃ mA,h.Ns1 dx mA/\(∀ f,qk6 (fs.lookup f) (mA f))/\PySem.Within mA (fs.map (·.1))
 |.own _=>∃ o,h.get? a=some o
 |.xd fs=>∃ mA,h.Ns1 a mA/\∀ f,qk6 (fs.lookup f) (mA f)
 |.rng lo hi=>∃ t u v,h.get? a=some { cls:=.type "range",data:=.fields #[.int lo t,.int hi u,.int 1 v] }
 |.frz o u=>h.get? a=some o/\JI H h a u
 |.tbl ps=>h.get? a=some { cls:=.none,data:=.fields ps }
 |.met f x=>h.get? a=some (PySem.W.methodObj (.ref f) (.ref x))
 |.ext φ=>φ h/\(∃ o,h.get? a=some o)/\∀ h1 h2:Heap,φ h1->(∀ o,h1.get? a=some o->h2.get? a=some o)->φ h2
def HOk (H:Hp) (h:Heap):Prop:=∀ a o,H a=some o->JI P w H h a o
end
section
variable {P:Program} {w:World} {H H':Hp} {h h':Heap} {a:Addr} {o:HO}
def JI.lt (x:JI P w H h a o):a<h.objs.size:=by
 cases o with
 |lst xs=>obtain ⟨_,_,_,_,e⟩:=x;exact Heap.lt_size e
 |tup xs=>obtain ⟨_,_,_,p⟩:=x;exact p.lt
 |dK kvs=>obtain ⟨_,_,_,_,o,_,_,e,_⟩:=x;exact Heap.lt_size e
 |dT kvs=>obtain ⟨_,_,_,_,o,_,_,e,_⟩:=x;exact Heap.lt_size e
 |set S n=>obtain ⟨o,_,_,_,e,_⟩:=x;exact Heap.lt_size e
 |ins C dx fs=>obtain ⟨_,_,_,e,_⟩:=x;exact Heap.lt_size e
 |own y=>obtain ⟨_,e⟩:=x;exact Heap.lt_size e
 |xd fs=>obtain ⟨_,⟨_,_,_,e,_⟩,_⟩:=x;exact Heap.lt_size e
 |rng lo hi=>obtain ⟨_,_,_,e⟩:=x;exact Heap.lt_size e
 |frz ob u=>obtain ⟨e,_⟩:=x;exact Heap.lt_size e
 |tbl ps=>exact Heap.lt_size (show h.get? a=some _ from x)
 |met f y=>exact Heap.lt_size (show h.get? a=some _ from x)
 |ext φ=>obtain ⟨_,⟨_,e⟩,_⟩:=x;exact Heap.lt_size e
def Paired.mapP {α β:Type} {F G:α->β->Prop}:∀ {l₁:List α} {l₂:List β},Paired F l₁ l₂->(∀ a b,F a b->G a b)->Paired G l₁ l₂
 |_,_,.nil,_=>.nil
 |_,_,.cons r t,f=>.cons (f _ _ r) (Paired.mapP t f)
def JI.stay (x:JI P w H h a o) (k:∀ b u,(b=a\/H b=some (.own a))->h.get? b=some u->h'.get? b=some u)
  (ho:∀ b,H b=some (.own a)->H' b=some (.own a)) (ht:∀ b xs,H b=some (.tup xs)->H' b=some (.tup xs)):JI P w H' h' a o:=by
 induction o with
 |lst xs=>obtain ⟨z,its,n,r,e⟩:=x;exact ⟨z,its,n,r,k _ _ (.inl rfl) e⟩
 |tup xs=>obtain ⟨z,its,r,ob,e,c⟩:=x;exact ⟨z,its,r,ob,k _ _ (.inl rfl) e,c⟩
 |dK kvs=>obtain ⟨z,y,vs,r,ob,es,ep,e,c⟩:=x;exact ⟨z,y,vs,r,ob,es,ep,k _ _ (.inl rfl) e,c⟩
 |dT kvs=>
  obtain ⟨z,y,xs,r,ob,es,ep,e,c⟩:=x;exact ⟨z,y,xs,Paired.mapP r λp q z=>⟨z.1,ht _ _ z.2.1,z.2.2⟩,ob,es,ep,k _ _ (.inl rfl) e,c⟩
 |set S n=>obtain ⟨ob,es,ep,t,e,c⟩:=x;exact ⟨ob,es,ep,t,k _ _ (.inl rfl) e,c⟩
 |ins C dx fs=>
  obtain ⟨d,z,ne,e,mA,⟨od,es,ep,e2,c⟩,r⟩:=x;exact ⟨ho _ d,z,ne,k _ _ (.inl rfl) e,mA,⟨od,es,ep,k _ _ (.inr d) e2,c⟩,r⟩
 |own y=>obtain ⟨ob,e⟩:=x;exact ⟨ob,k _ _ (.inl rfl) e⟩
 |xd fs=>obtain ⟨mA,⟨od,es,ep,e,c⟩,r⟩:=x;exact ⟨mA,⟨od,es,ep,k _ _ (.inl rfl) e,c⟩,r⟩
 |rng lo hi=>obtain ⟨t,u,v,e⟩:=x;exact ⟨t,u,v,k _ _ (.inl rfl) e⟩
 |frz ob u ih=>obtain ⟨e,q⟩:=x;exact ⟨k _ _ (.inl rfl) e,ih q⟩
 |tbl ps=>
  have e:h.get? a=some { cls:=.none,data:=.fields ps }:=x;show h'.get? a=some { cls:=.none,data:=.fields ps };exact k a _ (.inl rfl) e
 |met f y=>
  have e:h.get? a=some (PySem.W.methodObj (.ref f) (.ref y)):=x;show h'.get? a=some (PySem.W.methodObj (.ref f) (.ref y));exact k a _ (.inl rfl) e
 |ext φ=>obtain ⟨p,⟨o,e⟩,st⟩:=x;exact ⟨st _ _ p λo q=>k _ _ (.inl rfl) q,⟨o,k _ _ (.inl rfl) e⟩,st⟩
def HOk.lt (x:HOk P w H h) (e:H a=some o):a<h.objs.size:=(x a o e).lt
def HOk.fresh (x:HOk P w H h) (e:h.objs.size<=a):H a=none:=by
 cases q:H a with
 |none=>rfl
 |some u=>exact absurd (Nat.lt_of_lt_of_le (x.lt q) e) (Nat.lt_irrefl _)
def HOk.kept (x:HOk P w H h) (k:∀ b u,h.get? b=some u->h'.get? b=some u):HOk P w H h':=λa o e=>
 (x a o e).stay (λb u _ q=>k b u q) (λ_ q=>q) λ_ _ q=>q
def HOk.laid (x:HOk P w H h) (k:∀ b u,h.get? b=some u->h'.get? b=some u) (hp:h.objs.size<=a) (new:JI P w (upd H a o) h' a o):HOk P w (upd H a o) h':=λb u e=>by
 have hn:=x.fresh hp;by_cases hb:b=a
 ·subst hb;rw [qX] at e;cases e;exact new
 ·rw [qs hb] at e;exact (x b u e).stay (λc v _ q=>k c v q) (λc q=>by rw [qs (qo q hn)];exact q) λc xs q=>by rw [qs (qo q hn)];exact q
end
def Rd (H:Hp) (a:Addr) (u:HO):Prop:=H a=some u\/∃ o,H a=some (.frz o u)
def Rd.ok {P:Program} {w:World} {H:Hp} {h:Heap} {a:Addr} {u:HO} (r:Rd H a u) (x:HOk P w H h):JI P w H h a u:=by
 rcases r with r|⟨o,r⟩
 ·exact x a u r
 ·obtain ⟨_,q⟩:=x a _ r;exact q
def Mut:Option HO->Prop
 |some (.lst _)=>True
 |some (.dK _)=>True
 |some (.dT _)=>True
 |some (.set _ _)=>True
 |some (.ins _ _ _)=>True
 |some (.ext _)=>True
 |_=>False
section
variable {P:Program} {w:World} {H:Hp} {h h':Heap} {x e:Addr} {o':HO}
def HOk.write (ok:HOk P w H h) (mu:Mut (H x)) (he:e=x\/H e=some (.own x)) (k:∀ b u,b≠e->h.get? b=some u->h'.get? b=some u) (heo:∃ u,h'.get? e=some u)
  (new:JI P w (upd H x o') h' x o'):HOk P w (upd H x o') h':=λb u q=>by
 have nown:∀ c y,H c=some (.own y)->c≠x:=λc y r z=>by subst z;rw [r] at mu;exact mu
 have ntup:∀ c xs,H c=some (.tup xs)->c≠x:=λc xs r z=>by subst z;rw [r] at mu;exact mu
 by_cases hb:b=x
 ·subst hb;rw [qX] at q;cases q;exact new
 ·rw [qs hb] at q;by_cases hbe:b=e
  ·have q':H b=some (.own x):=by
    rcases he with z|z
    ·exact absurd (hbe.trans z) hb
    ·rw [hbe];exact z
   rw [q] at q';cases q';obtain ⟨v,hv⟩:=heo;exact ⟨v,by rw [hbe];exact hv⟩
  ·refine (ok b u q).stay (λc v hc r=>k c v ?_ r) (λc r=>by rw [qs (nown c b r)];exact r) λc xs r=>by rw [qs (ntup c xs r)];exact r
   rcases hc with rfl|hc
   ·exact hbe
   ·rintro rfl;rcases he with z|z
    ·exact nown c b hc z
    ·rw [hc] at z;cases z;exact hb rfl
end
structure Un (fs ex:List Addr) (H H':Hp) (h h':Heap):Prop where
 keep:∀ b o,h.get? b=some o->H b=none->b∉fs->b∉ex->h'.get? b=some o
 slot:∀ b o,h.get? b=some o->H b=none->b∈fs->b∉ex->∃ sl,h'.get? b=some { o with slots:=sl }
 free:∀ b o,h.get? b=some o->H b=none->b∉ex->H' b=none
 there:∀ b o,h.get? b=some o->b∉ex->∃ o',h'.get? b=some o'
 tups:∀ b xs,H b=some (.tup xs)->H' b=some (.tup xs)
 frzs:∀ b o u,H b=some (.frz o u)->H' b=some (.frz o u)
 tbls:∀ b ps,H b=some (.tbl ps)->∃ more,H' b=some (.tbl (ps++more))
section
variable {fs fs' ex ex':List Addr} {H H1 H2:Hp} {h h1 h2 h':Heap} {a x e:Addr} {o:HO}
def Un.any (u:Un fs ex H H1 h h1) {b:Addr} {ob:Obj} (q:h.get? b=some ob) (n:H b=none) (hx:b∉ex):∃ sl,h1.get? b=some { ob with slots:=sl }:=by
 by_cases hb:b∈fs
 ·exact u.slot b ob q n hb hx
 ·exact ⟨ob.slots,u.keep b ob q n hb hx⟩
def Un.kept (k:∀ b u,h.get? b=some u->h'.get? b=some u):Un fs ex H H h h':=
 ⟨λb ob q _ _ _=>k b ob q,λb ob q _ _ _=>⟨ob.slots,k b ob q⟩,λ_ _ _ n _=>n,λb ob q _=>⟨ob,k b ob q⟩,λ_ _ q=>q,λ_ _ _ q=>q,λ_ ps q=>⟨#[],by rw [q];simp⟩⟩
def Un.refl:Un fs ex H H h h:=Un.kept λ_ _ q=>q
def Un.laid (k:∀ b u,h.get? b=some u->h'.get? b=some u) (hp:h.objs.size<=a) (hn:H a=none):Un fs ex H (upd H a o) h h' where
 keep:=λb u q _ _ _=>k b u q
 slot:=λb u q _ _ _=>⟨u.slots,k b u q⟩
 free:=λb u q n _=>by rw [qs (Nat.ne_of_lt (Nat.lt_of_lt_of_le (Heap.lt_size q) hp))];exact n
 there:=λb u q _=>⟨u,k b u q⟩
 tups:=λb xs q=>by rw [qs (qo q hn)];exact q
 frzs:=λb u xs q=>by rw [qs (qo q hn)];exact q
 tbls:=λb ps q=>⟨#[],by rw [qs (qo q hn),q];simp⟩
def Un.write (mu:Mut (H x)) (he:e=x\/H e=some (.own x)) (k:∀ b u,b≠e->h.get? b=some u->h'.get? b=some u) (heo:∃ u,h'.get? e=some u):Un fs ex H (upd H x o) h h':=by
 have hx:∀ b,H b=none->b≠x:=λb n z=>by subst z;rw [n] at mu;exact mu
 have hb:∀ b,H b=none->b≠e:=λb n z=>by
  subst z;rcases he with r|r
  ·exact hx b n r
  ·rw [n] at r;cases r
 have hm:∀ b u,H b=some u->¬ Mut (some u)->b≠x:=λb u q nm z=>by subst z;rw [q] at mu;exact nm mu
 refine ⟨λb u q n _ _=>k b u (hb b n) q,λb u q n _ _=>⟨u.slots,k b u (hb b n) q⟩,λb u q n _=>by rw [qs (hx b n)];exact n,λb u q _=>?_,
  λb xs q=>by rw [qs (hm b _ q λz=>z)];exact q,λb u xs q=>by rw [qs (hm b _ q λz=>z)];exact q,λb ps q=>⟨#[],by rw [qs (hm b _ q λz=>z),q];simp⟩⟩
 by_cases hbe:b=e
 ·subst hbe;exact heo
 ·exact ⟨u,k b u hbe q⟩
end
def trk (h:Heap) (H:Hp):List Addr:=(List.range h.objs.size).filter λa=>(H a).isSome
def qae (h:Heap) (H:Hp):Heap:=PySem.W.hideAll h (trk h H)
def LW (h:Heap) (H:Hp):(qae h H).objs.size=h.objs.size:=PySem.W.hideAll_size _ _
def qar {h:Heap} {H:Hp} {b:Addr} {o:Obj} (e:h.get? b=some o) (n:H b=none):(qae h H).get? b=some o:=
 PySem.W.hideAll_get _ e λhm=>by
  have q:(H b).isSome=true:=(List.mem_filter.mp hm).2;rw [n] at q;simp at q
def qc5 {h:Heap} {H:Hp} {b:Addr} {o:Obj} (e:(qae h H).get? b=some o):h.get? b=some o/\H b=none:=by
 have e':h.get? b=some o:=PySem.W.of_hideAll (trk h H) e;refine ⟨e',?_⟩;cases q:H b with
 |none=>rfl
 |some x=>
  have hm:b∈trk h H:=List.mem_filter.mpr ⟨mem_range.mpr (Heap.lt_size e'),by simp [q]⟩;have z:(qae h H).get? b=none:=PySem.W.hideAll_none (trk h H) hm;rw [z] at e;cases e
def qc2 (g h:Heap) (L:Addr):List (Addr×Obj):=(List.range h.objs.size).filterMap λa=>if a=L\/(g.get? a).isSome=true then none else (h.get? a).map λo=>(a,o)
def YO (g h:Heap) (L d:Addr):List (Addr×Obj):=(qc2 g h L).filter λp=>decide (p.1≠d)
structure Mod (K:Frg) (mg:Str->Option Value) (base:Heap):Prop where
 kin:K.In base
 glob:base.Ns mainGlobals mg
 blt:∃ mb,base.Ns builtinsNs mb/\∀ x:Str,x≠"__name__" -> mb x=bootBuiltins x
 nolimit:base.NoLimit
structure Cx where
 prog:Program
 w:World
 K:PySem.W.Frag
 mg:Str->Option Value
 base:Heap
 A:Around
 N:List Str
 s₀:Shared
 H₀:Hp
 env:Env
 outer:List Env
 stack:List Env
 ex:List Addr
 fn:Str->Bool
 calm:Bool
 pn:List (Addr×Obj)
 xe:Value->Shared->Prop
def frs (l:List Env):List Addr:=l.filterMap (·.frame)
abbrev Cx.fs (X:Cx):List Addr:=frs X.outer
def Vis (sc:Scope) (x:Str):Prop:=sc.names.lookup x=some .local\/sc.names.lookup x=some .cell\/sc.names.lookup x=some .free
def Loc (sc:Scope) (x:Str):Prop:=sc.names.lookup x=some .local\/sc.names.lookup x=some .cell
def qlk (env:Env) (h:Heap) (m:Str->Option Value) (x:Str) (u:Value):Prop:=
 (env.kindOf x=some .local/\m x=some u)\/((env.kindOf x=some .cell\/env.kindOf x=some .free)/\∃ c,env.cells.lookup x=some c/\h.IsCell c (some u))
structure Cx.Ok (X:Cx):Prop where
 mod:Mod X.K X.mg X.base
 kind:X.env.scope.kind=.function
 glob:X.env.globals=mainGlobals
 blt:X.env.builtins=builtinsNs
 above:X.s₀.heap.objs.size<=X.env.locals
 inj:∀ x y c,X.env.cells.lookup x=some c->X.env.cells.lookup y=some c->x=y
 has:∀ x,(X.env.kindOf x=some .cell\/X.env.kindOf x=some .free)->∃ c,X.env.cells.lookup x=some c
 cab:∀ x c,X.fn x=true->X.env.cells.lookup x=some c->X.s₀.heap.objs.size<=c
 hd:X.calm=true->X.A.handled=none
 frames:X.A.frames=some X.stack
 stk:X.stack=X.outer\/(X.stack=X.env::X.outer/\X.env.frame=some X.env.locals)
 exf:∀ b∈X.ex,b≠X.env.locals/\∀ x c,X.env.cells.lookup x=some c->c≠b
 bs:∀ b o,X.base.get? b=some o->X.s₀.heap.get? b=some o/\X.H₀ b=none
 bsz:X.base.objs.size<=X.s₀.heap.objs.size
 noex:∀ b o,X.base.get? b=some o->b∉X.ex
 exfs:∀ b∈X.ex,b∉X.fs
 funs:X.s₀.heap.FunFrames X.base X.outer
 frf:∀ b∈X.fs,X.H₀ b=none
structure Inv (X:Cx) (pins:List (Addr×Obj)) (σ:List (Option V)) (H:Hp) (s:Shared):Prop where
 ok:X.Ok
 os:s.os=X.s₀.os
 bare:AllBare s.gens
 base:Un X.fs X.ex X.H₀ H X.s₀.heap s.heap
 loc:∃ m,s.heap.Ns X.env.locals m/\∀ (i:Nat) (x:Str) (v:V),X.N[i]?=some x->σ[i]?=some (some v)->Vis X.env.scope x->∃ u,jr v u/\qlk X.env s.heap m x u
 cell:∀ x c,X.env.cells.lookup x=some c->∃ v,s.heap.IsCell c v
 free:H X.env.locals=none
 freeC:∀ x c,X.env.cells.lookup x=some c->H c=none
 pin:∀ p∈X.pn++pins,s.heap.get? p.1=some p.2/\H p.1=none/\p.1≠X.env.locals/\p.1∉X.fs/\∀ v,p.2.data≠.cell v
 hok:HOk X.prog X.w H s.heap
 len:σ.length=X.N.length
section
variable {X:Cx} {pins:List (Addr×Obj)} {σ:List (Option V)} {H H':Hp} {s:Shared} {h':Heap}
def Cx.Ok.nofr (ok:X.Ok) {b:Addr} {o:Obj} (e:X.base.get? b=some o):b∉X.fs:=λhb=>by
 have:=(ok.funs.mem hb).1;rw [e] at this;cases this
def Inv.bs (I:Inv X pins σ H s):∀ b o,X.base.get? b=some o->s.heap.get? b=some o/\H b=none:=λb o e=>
 ⟨I.base.keep b o (I.ok.bs b o e).1 (I.ok.bs b o e).2 (I.ok.nofr e) (I.ok.noex b o e),I.base.free b o (I.ok.bs b o e).1 (I.ok.bs b o e).2 (I.ok.noex b o e)⟩
def Inv.bk (I:Inv X pins σ H s):∀ b o,X.base.get? b=some o->s.heap.get? b=some o:=λb o e=>(I.bs b o e).1
def Inv.mod (I:Inv X pins σ H s):Mod X.K X.mg X.base:=I.ok.mod
def Inv.kIn (I:Inv X pins σ H s):X.K.In s.heap:=I.ok.mod.kin.keeps I.bk
def Inv.nolimit (I:Inv X pins σ H s):s.heap.NoLimit:=I.ok.mod.nolimit.keeps I.bk
def Inv.fr (I:Inv X pins σ H s):∃ m,Fr X.base X.env.locals s.heap m:=
 let ⟨m,hn,_⟩:=I.loc
 ⟨m,hn,I.bk,Nat.le_trans I.ok.bsz I.ok.above⟩
def Inv.lt (I:Inv X pins σ H s):X.env.locals<s.heap.objs.size:=let ⟨_,hn,_⟩:=I.loc;hn.lt
def Inv.sz (I:Inv X pins σ H s):X.s₀.heap.objs.size<=s.heap.objs.size:=Nat.le_trans I.ok.above (Nat.le_of_lt I.lt)
def Inv.nofs (I:Inv X pins σ H s) {a:Addr} (h:s.heap.objs.size<=a):a∉X.fs:=λhb=>by
 obtain ⟨_,o,ho,_⟩:=I.ok.funs.mem hb;exact absurd (Nat.lt_of_lt_of_le (Heap.lt_size ho) (Nat.le_trans I.sz h)) (Nat.lt_irrefl _)
def Inv.cne (I:Inv X pins σ H s):∀ x c,X.env.cells.lookup x=some c->c≠X.env.locals:=λx c e z=>by
 obtain ⟨v,o,ho,hd⟩:=I.cell x c e;obtain ⟨m,⟨o',es,ep,ho',hd',_⟩,_⟩:=I.loc;rw [z,ho'] at ho;cases ho;rw [hd'] at hd;cases hd
def Inv.funs (I:Inv X pins σ H s):s.heap.FunFrames X.base X.outer:=by
 have all:∀ (l:List Env),(∀ b∈frs l,b∈X.fs)->X.s₀.heap.FunFrames X.base l->s.heap.FunFrames X.base l:=by
  intro l;induction l with
  |nil=>intro _ _;trivial
  |cons env r ih=>
   intro hs hl;obtain ⟨hk,⟨L,o,hf,hn,ho,hd⟩,hr⟩:=hl;have hL:L∈X.fs:=hs L (by unfold frs;rw [List.filterMap_cons,hf];exact List.mem_cons_self);obtain ⟨sl,e⟩:=I.base.slot L o ho (I.ok.frf L hL) hL λz=>I.ok.exfs L z hL;exact ⟨hk,⟨L,_,hf,hn,e,hd⟩,ih (λb hb=>hs b (by unfold frs;rw [List.filterMap_cons,hf];exact List.mem_cons_of_mem _ hb)) hr⟩
 exact all X.outer (λ_ hb=>hb) I.ok.funs
def Inv.stack (I:Inv X pins σ H s):s.heap.FunFrames X.base X.stack:=by
 rcases I.ok.stk with e|⟨e,hf⟩
 ·rw [e];exact I.funs
 ·rw [e];obtain ⟨m,hn,_⟩:=I.loc;refine .cons (by rw [I.ok.kind];decide) hf hn ?_ I.funs;exact Heap.get?_none_of_le (Nat.le_trans I.ok.bsz I.ok.above)
def Inv.stkSub (I:Inv X pins σ H s):∀ b∈frs X.stack,b∈X.env.locals::X.fs:=λb hb=>by
 rcases I.ok.stk with e|⟨e,hf⟩
 ·rw [e] at hb;exact List.mem_cons_of_mem _ hb
 ·rw [e] at hb;unfold frs at hb;rw [List.filterMap_cons,hf] at hb;exact hb
def Inv.stkFree (I:Inv X pins σ H s):∀ b∈frs X.stack,H b=none:=λb hb=>by
 rcases mem_cons.mp (I.stkSub b hb) with e|hb
 ·rw [e];exact I.free
 ·obtain ⟨_,o,ho,_⟩:=I.ok.funs.mem hb;exact I.base.free b o ho (I.ok.frf b hb) λz=>I.ok.exfs b z hb
def Inv.step {g':Array GenState} {t':Nat} {d':Drawn} {ch:List Addr} (I:Inv X pins σ H s)
  (hch:∀ b∈ch,(b∈X.ex\/X.s₀.heap.objs.size<=b)/\b≠X.env.locals/\(∀ x c,X.env.cells.lookup x=some c->c≠b)/\∀ p∈X.pn++pins,p.1≠b)
  (keep:∀ b o,b≠X.env.locals->b∉X.fs->b∉ch->s.heap.get? b=some o->H b=none->h'.get? b=some o)
  (slot:∀ b o,b≠X.env.locals->b∈X.fs->b∉ch->s.heap.get? b=some o->H b=none->∃ sl,h'.get? b=some { o with slots:=sl }) (free:∀ b o,b∉ch->s.heap.get? b=some o->H b=none->H' b=none)
  (there:∀ b o,b∉ch->s.heap.get? b=some o->∃ o',h'.get? b=some o')
  (tups:∀ b xs,H b=some (.tup xs)->H' b=some (.tup xs)) (frzs:∀ b o u,H b=some (.frz o u)->H' b=some (.frz o u)) (tbls:∀ b ps,H b=some (.tbl ps)->∃ more,H' b=some (.tbl (ps++more)))
  (ns:∀ m,s.heap.Ns X.env.locals m->h'.Ns X.env.locals m) (hok:HOk X.prog X.w H' h') (hg:AllBare g') :
  Inv X pins σ H' { s with heap:=h',gens:=g',drawn:=d',toks:=t' }:=by
 have neL:∀ b o,X.s₀.heap.get? b=some o->b≠X.env.locals:=λb o e=>Nat.ne_of_lt (Nat.lt_of_lt_of_le (Heap.lt_size e) I.ok.above);have neC:∀ b o,X.s₀.heap.get? b=some o->b∉X.ex->b∉ch:=λb o e hx hb=>by
  rcases (hch b hb).1 with z|z
  ·exact hx z
  ·exact absurd (Nat.lt_of_lt_of_le (Heap.lt_size e) z) (Nat.lt_irrefl _)
 have cellK:∀ x c,X.env.cells.lookup x=some c->∀ v,s.heap.IsCell c v->h'.IsCell c v:=λx c e v ⟨o,ho,hd⟩=>by
  have nch:c∉ch:=λz=>(hch c z).2.2.1 x c e rfl;by_cases hc:c∈X.fs
  ·obtain ⟨sl,q⟩:=slot c o (I.cne x c e) hc nch ho (I.freeC x c e);exact ⟨_,q,hd⟩
  ·exact ⟨o,keep c o (I.cne x c e) hc nch ho (I.freeC x c e),hd⟩
 refine ⟨I.ok,I.os,hg,⟨λb o e n hb hx=>?_,λb o e n hb hx=>?_,λb o e n hx=>?_,λb o e hx=>?_,λb xs e=>tups b xs (I.base.tups b xs e),λb o xs e=>frzs b o xs (I.base.frzs b o xs e),λb ps e=>?_⟩,?_,λx c e=>?_,?_,λx c e=>?_,λp hp=>?_,hok,I.len⟩
 ·exact keep b o (neL b o e) hb (neC b o e hx) (I.base.keep b o e n hb hx) (I.base.free b o e n hx)
 ·obtain ⟨sl,e1⟩:=I.base.slot b o e n hb hx;obtain ⟨sl',e2⟩:=slot b _ (neL b o e) hb (neC b o e hx) e1 (I.base.free b o e n hx);exact ⟨sl',e2⟩
 ·obtain ⟨o',e1⟩:=I.base.there b o e hx;exact free b o' (neC b o e hx) e1 (I.base.free b o e n hx)
 ·obtain ⟨o',e1⟩:=I.base.there b o e hx;exact there b o' (neC b o e hx) e1
 ·obtain ⟨m1,e1⟩:=I.base.tbls b ps e;obtain ⟨m2,e2⟩:=tbls b _ e1;exact ⟨m1++m2,by rw [e2,Array.append_assoc]⟩
 ·obtain ⟨m,hn,hl⟩:=I.loc;refine ⟨m,ns m hn,λi x v e1 e2 e3=>?_⟩;obtain ⟨u,r,l⟩:=hl i x v e1 e2 e3;refine ⟨u,r,?_⟩;rcases l with l|⟨k,c,e,z⟩
  ·exact .inl l
  ·exact .inr ⟨k,c,e,cellK x c e _ z⟩
 ·obtain ⟨v,z⟩:=I.cell x c e;exact ⟨v,cellK x c e v z⟩
 ·obtain ⟨m,⟨o,_,_,ho,_⟩,_⟩:=I.loc;exact free _ o (λz=>(hch _ z).2.1 rfl) ho I.free
 ·obtain ⟨v,o,ho,hd⟩:=I.cell x c e;exact free c o (λz=>(hch c z).2.2.1 x c e rfl) ho (I.freeC x c e)
 ·obtain ⟨e,n,ne,nf,d⟩:=I.pin p hp;have nch:p.1∉ch:=λz=>(hch p.1 z).2.2.2 p hp rfl;exact ⟨keep p.1 p.2 ne nf nch e n,free p.1 p.2 nch e n,ne,nf,d⟩
def Inv.un {t':Nat} (I:Inv X pins σ H s) (u:Un X.fs [] H H' s.heap h') (hok:HOk X.prog X.w H' h'):Inv X pins σ H' { s with heap:=h',toks:=t' }:=by
 obtain ⟨m,⟨o,es,ep,ho,r⟩,_⟩:=id I.loc;obtain ⟨sl,hL⟩:=u.any ho I.free (by simp);exact I.step (g':=s.gens) (d':=s.drawn) (ch:=[]) (λ_ z=>nomatch z) (λb o _ hb _ e n=>u.keep b o e n hb (by simp)) (λb o _ hb _ e n=>u.slot b o e n hb (by simp)) (λb o _ e n=>u.free b o e n (by simp)) (λb o _ e=>u.there b o e (by simp)) u.tups u.frzs u.tbls (λm' hm=>by
  obtain ⟨o',es',ep',ho',r'⟩:=hm;rw [ho] at ho';cases ho';exact ⟨_,es',ep',hL,r'⟩) hok I.bare
def Inv.call {g':Array GenState} {t':Nat} {d':Drawn} {ch:List Addr} (I:Inv X pins σ H s) (u:Un (frs X.stack) ch H H' s.heap h') (hok:HOk X.prog X.w H' h') (hg:AllBare g')
  (hch:∀ b∈ch,(b∈X.ex\/X.s₀.heap.objs.size<=b)/\b≠X.env.locals/\(∀ x c,X.env.cells.lookup x=some c->c≠b)/\∀ p∈X.pn++pins,p.1≠b) :
  Inv X pins σ H' { s with heap:=h',gens:=g',drawn:=d',toks:=t' }:=by
 obtain ⟨m,⟨o,es,ep,ho,r⟩,_⟩:=id I.loc;obtain ⟨sl,hL⟩:=u.any ho I.free λz=>(hch _ z).2.1 rfl;exact I.step (ch:=ch) hch (λb o hL hb hc e n=>u.keep b o e n (λz=>(mem_cons.mp (I.stkSub b z)).elim hL hb) hc) (λb o _ _ hc e n=>u.any e n hc) (λb o hc e n=>u.free b o e n hc) (λb o hc e=>u.there b o e hc) u.tups u.frzs u.tbls (λm' hm=>by
  obtain ⟨o',es',ep',ho',r'⟩:=hm;rw [ho] at ho';cases ho';exact ⟨_,es',ep',hL,r'⟩) hok hg
def Inv.turned {t':Nat} {it:Addr} (I:Inv X pins σ H s) (k:∀ b o,b≠it->s.heap.get? b=some o->h'.get? b=some o) (hn:H it=none) (hL:it≠X.env.locals)
  (h1:it∈X.ex\/X.s₀.heap.objs.size<=it) (h2:∀ x c,X.env.cells.lookup x=some c->c≠it) (h3:∀ p∈X.pn++pins,p.1≠it):Inv X pins σ H { s with heap:=h',toks:=t' }:=by
 have nit:∀ b u,H b=some u->b≠it:=λb u e z=>by rw [z,hn] at e;cases e
 refine I.step (g':=s.gens) (d':=s.drawn) (ch:=[it]) (λb hb=>?_) (λb o _ _ hc e _=>k b o (λz=>hc (by simp [z])) e) (λb o _ _ hc e _=>⟨o.slots,k b o (λz=>hc (by simp [z])) e⟩) (λ_ _ _ _ n=>n)
  (λb o hc e=>⟨o,k b o (λz=>hc (by simp [z])) e⟩) (λ_ _ e=>e) (λ_ _ _ e=>e) (λb ps e=>⟨#[],by rw [e];simp⟩) (λm hm=>?_) (λb u e=>?_) I.bare
 ·have e:b=it:=by simpa using hb
  subst e;exact ⟨h1,hL,h2,h3⟩
 ·obtain ⟨o,es,ep,ho,r⟩:=hm;exact ⟨o,es,ep,k _ o (Ne.symm hL) ho,r⟩
 ·refine (I.hok b u e).stay (λc v hc q=>k c v ?_ q) (λ_ q=>q) λ_ _ q=>q;rcases hc with z|z
  ·rw [z];exact nit b u e
  ·exact nit c _ z
def Inv.tok (I:Inv X pins σ H s) (t:Nat):Inv X pins σ H { s with toks:=t }:=I.un (h':=s.heap) (t':=t) Un.refl I.hok
def Inv.kept {t':Nat} (I:Inv X pins σ H s) (k:∀ b u,s.heap.get? b=some u->h'.get? b=some u):Inv X pins σ H { s with heap:=h',toks:=t' }:=I.un (Un.kept k) (I.hok.kept k)
def Inv.laid {a:Addr} {o:HO} {t':Nat} (I:Inv X pins σ H s) (k:∀ b u,s.heap.get? b=some u->h'.get? b=some u) (hp:s.heap.objs.size<=a) (new:JI X.prog X.w (upd H a o) h' a o) :
  Inv X pins σ (upd H a o) { s with heap:=h',toks:=t' }:=I.un (Un.laid k hp (I.hok.fresh hp)) (I.hok.laid k hp new)
def Inv.write {x e:Addr} {o:HO} {t':Nat} (I:Inv X pins σ H s) (mu:Mut (H x)) (he:e=x\/H e=some (.own x)) (k:∀ b u,b≠e->s.heap.get? b=some u->h'.get? b=some u) (heo:∃ u,h'.get? e=some u)
  (new:JI X.prog X.w (upd H x o) h' x o):Inv X pins σ (upd H x o) { s with heap:=h',toks:=t' }:=I.un (Un.write mu he k heo) (I.hok.write mu he k heo new)
def Inv.pins_of {pins':List (Addr×Obj)} (I:Inv X pins σ H s) (h:∀ p∈pins',s.heap.get? p.1=some p.2/\H p.1=none/\p.1≠X.env.locals/\p.1∉X.fs/\∀ v,p.2.data≠.cell v):Inv X pins' σ H s:=
 ⟨I.ok,I.os,I.bare,I.base,I.loc,I.cell,I.free,I.freeC,λp hp=>(List.mem_append.mp hp).elim (λz=>I.pin p (List.mem_append_left _ z)) (h p),I.hok,I.len⟩
def CY {N:List Str} (hN:N.Nodup) {i j:Nat} {x:Str} (a:N[i]?=some x) (b:N[j]?=some x):i=j:=by
 obtain ⟨h1,e1⟩:=List.getElem?_eq_some_iff.mp a;obtain ⟨h2,e2⟩:=List.getElem?_eq_some_iff.mp b;exact (List.getElem_inj hN).mp (e1.trans e2.symm)
def KU {M:Model} {A:Around} {E:Value->Shared->Prop} {i:Nat} {x:Str} {v:V} {u:Value} {Q:Unit->Shared->Prop} (I:Inv X pins σ H s) (hN:X.N.Nodup) (hi:X.N[i]?=some x) (hx:Loc X.env.scope x) (r:jr v u)
  (h:∀ s',Inv X pins (σ.set i (some v)) H s'->(∃ a,Heap.SameBut a s.heap s'.heap/\(a=X.env.locals\/X.env.cells.lookup x=some a))->Q () s') (hf:X.fn x=true\/X.env.scope.names.lookup x=some .local:=by first|exact .inl rfl|exact .inr rfl|assumption):wpAny M A (storeName X.env x u) Q E s:=by
 obtain ⟨m,hn,hl⟩:=id I.loc;have hcls:(X.env.scope.kind==.class||(X.env.scope.kind==.module&&X.env.locals != X.env.globals))=false:=by rw [I.ok.kind];rfl
 have hiσ:i<σ.length:=by rw [I.len];exact (List.getElem?_eq_some_iff.mp hi).1
 have cne:=I.cne;have tracked:∀ {a:Addr} {h':Heap},(∃ o,s.heap.get? a=some o/\H a=none)->Heap.SameBut a s.heap h'->HOk X.prog X.w H h':=λ{a h'} ha hs b ob e=>by
  obtain ⟨_,_,hfree⟩:=ha;refine (I.hok b ob e).stay (λc w' hc q=>(hs.2 c ?_).trans q) (λ_ q=>q) λ_ _ q=>q;rintro rfl;rcases hc with rfl|hc
  ·rw [hfree] at e;cases e
  ·rw [hfree] at hc;cases hc
 rcases hx with hk|hk
 ·refine wpAny_storeName_local hk hn (λh' hn' hs=>?_) hcls;obtain ⟨oL,_,_,hoL,_⟩:=id hn;refine h _ ⟨I.ok,I.os,I.bare,⟨λb o e n hb hx=>?_,λb o e n hb hx=>?_,I.base.free,λb o e hx=>?_,I.base.tups,I.base.frzs,I.base.tbls⟩,⟨_,hn',λj y v' e1 e2 e3=>?_⟩,λy c e=>?_,I.free,I.freeC,λp hp=>?_,tracked ⟨oL,hoL,I.free⟩ hs,by simpa using I.len⟩ ⟨_,hs,.inl rfl⟩
  ·exact (hs.2 b (Nat.ne_of_lt (Nat.lt_of_lt_of_le (Heap.lt_size e) I.ok.above))).trans (I.base.keep b o e n hb hx)
  ·obtain ⟨sl,e1⟩:=I.base.slot b o e n hb hx;exact ⟨sl,(hs.2 b (Nat.ne_of_lt (Nat.lt_of_lt_of_le (Heap.lt_size e) I.ok.above))).trans e1⟩
  ·obtain ⟨o',e1⟩:=I.base.there b o e hx;exact ⟨o',(hs.2 b (Nat.ne_of_lt (Nat.lt_of_lt_of_le (Heap.lt_size e) I.ok.above))).trans e1⟩
  ·by_cases hj:j=i
   ·subst hj;rw [hi] at e1;cases e1;rw [List.getElem?_set_self hiσ] at e2;cases e2;exact ⟨u,r,.inl ⟨hk,by simp⟩⟩
   ·rw [List.getElem?_set_ne (Ne.symm hj)] at e2;obtain ⟨u',r',q⟩:=hl j y v' e1 e2 e3;refine ⟨u',r',?_⟩;rcases q with ⟨k,e⟩|⟨k,c,e,z⟩
    ·refine .inl ⟨k,?_⟩;have:y≠x:=λe=>hj (CY hN e1 (e▸hi));simp [this,e]
    ·exact .inr ⟨k,c,e,z.sameBut hs (cne y c e)⟩
  ·obtain ⟨w',z⟩:=I.cell y c e;exact ⟨w',z.sameBut hs (cne y c e)⟩
  ·obtain ⟨e,n,ne,nf,d⟩:=I.pin p hp;exact ⟨(hs.2 p.1 ne).trans e,n,ne,nf,d⟩
 ·have hfn:X.fn x=true:=by
   rcases hf with z|z
   ·exact z
   ·rw [z] at hk;cases hk
  obtain ⟨c,hc⟩:=I.ok.has x (.inl hk);obtain ⟨w',z⟩:=I.cell x c hc;refine wpAny_storeName_cell I.ok.kind hk hc z (λh' hc' hs=>?_);obtain ⟨oc,hoc,hocd⟩:=id z;refine h { s with heap:=h' } ⟨I.ok,I.os,I.bare,⟨λb o e n hb hx=>?_,λb o e n hb hx=>?_,I.base.free,λb o e hx=>?_,I.base.tups,I.base.frzs,I.base.tbls⟩,⟨m,hn.sameBut hs (Ne.symm (cne x c hc)),λj y v' e1 e2 e3=>?_⟩,λy c' e=>?_,I.free,I.freeC,λp hp=>?_,tracked ⟨oc,hoc,I.freeC x c hc⟩ hs,by simpa using I.len⟩ ⟨c,hs,.inr hc⟩
  ·exact (hs.2 b (Nat.ne_of_lt (Nat.lt_of_lt_of_le (Heap.lt_size e) (I.ok.cab x c hfn hc)))).trans (I.base.keep b o e n hb hx)
  ·obtain ⟨sl,e1⟩:=I.base.slot b o e n hb hx;exact ⟨sl,(hs.2 b (Nat.ne_of_lt (Nat.lt_of_lt_of_le (Heap.lt_size e) (I.ok.cab x c hfn hc)))).trans e1⟩
  ·obtain ⟨o',e1⟩:=I.base.there b o e hx;exact ⟨o',(hs.2 b (Nat.ne_of_lt (Nat.lt_of_lt_of_le (Heap.lt_size e) (I.ok.cab x c hfn hc)))).trans e1⟩
  ·by_cases hj:j=i
   ·subst hj;rw [hi] at e1;cases e1;rw [List.getElem?_set_self hiσ] at e2;cases e2;exact ⟨u,r,.inr ⟨.inl hk,c,hc,hc'⟩⟩
   ·rw [List.getElem?_set_ne (Ne.symm hj)] at e2;obtain ⟨u',r',q⟩:=hl j y v' e1 e2 e3;refine ⟨u',r',?_⟩;rcases q with q|⟨k,c',e,z'⟩
    ·exact .inl q
    ·refine .inr ⟨k,c',e,z'.sameBut hs ?_⟩;rintro rfl;exact hj (CY hN e1 (I.ok.inj _ _ _ e hc▸hi))
  ·by_cases hcc:c'=c
   ·subst hcc;exact ⟨_,hc'⟩
   ·obtain ⟨w2,z2⟩:=I.cell y c' e;exact ⟨w2,z2.sameBut hs hcc⟩
  ·obtain ⟨e,n,ne,nf,d⟩:=I.pin p hp;refine ⟨(hs.2 p.1 ?_).trans e,n,ne,nf,d⟩;intro q;rw [q,hoc] at e;have q':oc=p.2:=Option.some.inj e;exact d w' (by rw [← q'];exact hocd)
def JK {M:Model} {A:Around} {E:Value->Shared->Prop} {i:Nat} {x:Str} {v:V} {u:Value} {Q:Unit->Shared->Prop} (I:Inv X pins σ H s) (hN:X.N.Nodup) (hi:X.N[i]?=some x) (hx:Loc X.env.scope x) (r:jr v u)
  (h:∀ s',Inv X pins (σ.set i (some v)) H s'->Q () s') (hf:X.fn x=true\/X.env.scope.names.lookup x=some .local:=by first|exact .inl rfl|exact .inr rfl|assumption):wpAny M A (storeName X.env x u) Q E s:=
 KU I hN hi hx r (λs' I' _=>h s' I') hf
def Inv.call' {s':Shared} {ch:List Addr} (I:Inv X pins σ H s) (ho:s'.os=s.os) (u:Un (frs X.stack) ch H H' s.heap s'.heap) (hok:HOk X.prog X.w H' s'.heap) (hg:AllBare s'.gens)
  (hch:∀ b∈ch,(b∈X.ex\/X.s₀.heap.objs.size<=b)/\b≠X.env.locals/\(∀ x c,X.env.cells.lookup x=some c->c≠b)/\∀ p∈X.pn++pins,p.1≠b):Inv X pins σ H' s':=by
 obtain ⟨h',g',d',t',o'⟩:=s';have e:o'=s.os:=ho;subst e;exact I.call (g':=g') (t':=t') (d':=d') u hok hg hch
end
abbrev XK:=Value->Option Addr->Hp->Prop
abbrev St:=List (Option V)
abbrev VK:=V->Hp->Prop
abbrev TE:=St->Hp->VK->Prop
abbrev TT:=St->Hp->(Bool->Hp->Prop)->Prop
abbrev TA:=St->Hp->(List V->Hp->Prop)->Prop
structure Ends where
 nx:St->Hp->Prop
 rt:VK
 bk:St->Hp->Prop:=λ_ _=>False
 ct:St->Hp->Prop:=λ_ _=>False
abbrev TS:=Ends->St->Hp->Prop
def EP (X:Cx) (pins:List (Addr×Obj)) (σ:St) (Q:VK) (u:Value) (s':Shared):Prop:=∃ v H',Inv X pins σ H' s'/\jr v u/\Q v H'
def TP (X:Cx) (pins:List (Addr×Obj)) (σ:St) (Q:Bool->Hp->Prop) (b:Bool) (s':Shared):Prop:=∃ H',Inv X pins σ H' s'/\Q b H'
def AP (X:Cx) (pins:List (Addr×Obj)) (σ:St) (Q:List V->Hp->Prop) (us:List Value) (s':Shared):Prop:=∃ vs H',Inv X pins σ H' s'/\zt vs us/\Q vs H'
def SP (X:Cx) (pins:List (Addr×Obj)) (D:Ends) (f:Flow) (s':Shared):Prop:=
 match f with
 |.next=>∃ σ' H',Inv X pins σ' H' s'/\D.nx σ' H'
 |.brk=>∃ σ' H',Inv X pins σ' H' s'/\D.bk σ' H'
 |.cont=>∃ σ' H',Inv X pins σ' H' s'/\D.ct σ' H'
 |.ret u=>∃ v σ' H',Inv X pins σ' H' s'/\jr v u/\D.rt v H'
def PE (X:Cx) (e:Expr) (t:TE):Prop:=
 ∀ (pins:List (Addr×Obj)) (s:Shared) (σ:St) (H:Hp) (Q:VK),Inv X pins σ H s->t σ H Q->wpAny (model X.prog X.w) X.A (eval e X.env) (EP X pins σ Q) X.xe s
def PT (X:Cx) (e:Expr) (t:TT):Prop:=
 ∀ (pins:List (Addr×Obj)) (s:Shared) (σ:St) (H:Hp) (Q:Bool->Hp->Prop),Inv X pins σ H s->t σ H Q->wpAny (model X.prog X.w) X.A (isTrue e X.env (eval e X.env)) (TP X pins σ Q) X.xe s
def PW (X:Cx) (e:Expr) (t:TT):Prop:=
 ∀ (whole:Sem Value) (pins:List (Addr×Obj)) (s:Shared) (σ:St) (H:Hp) (Q:Bool->Hp->Prop),Inv X pins σ H s->t σ H Q->wpAny (model X.prog X.w) X.A (isTrue e X.env whole) (TP X pins σ Q) X.xe s
def PW.pt {X:Cx} {e:Expr} {t:TT} (h:PW X e t):PT X e t:=h _
def PA (X:Cx) (es:List Expr) (t:TA):Prop:=
 ∀ (pos:Pos) (pins:List (Addr×Obj)) (s:Shared) (σ:St) (H:Hp) (Q:List V->Hp->Prop),Inv X pins σ H s->t σ H Q->wpAny (model X.prog X.w) X.A (spliced (backTo pos (starEach es X.env))) (AP X pins σ Q) X.xe s
def PS (X:Cx) (st:Stmt) (t:TS):Prop:=
 ∀ (pins:List (Addr×Obj)) (s:Shared) (σ:St) (H:Hp) (D:Ends),Inv X pins σ H s->t D σ H->wpAny (model X.prog X.w) X.A (exec st X.env) (SP X pins D) X.xe s
def PSs (X:Cx) (st:List Stmt) (t:TS):Prop:=
 ∀ (pins:List (Addr×Obj)) (s:Shared) (σ:St) (H:Hp) (D:Ends),Inv X pins σ H s->t D σ H->wpAny (model X.prog X.w) X.A (execs st X.env) (SP X pins D) X.xe s
def thn {α:Type} {t:Sem α} {Q Q':α->Shared->Prop} {M:Model} {A:Around} {E:Value->Shared->Prop} {s:Shared} (h:wpAny M A t Q E s) (hQ:∀ a s,Q a s->Q' a s):wpAny M A t Q' E s:=wpAny_mono h hQ λ_ _ x=>x
section
variable {X:Cx}
def qlw (i:Nat):TE:=λσ H Q=>∃ v,σ[i]?=some (some v)/\Q v H
def tC (v:V):TE:=λ_ H Q=>Q v H
def qex {i:Nat} {x:Str} {pos:Pos} (hN:X.N[i]?=some x) (hv:Vis X.env.scope x) (hd:(x==("__debug__" : Str))=false:=by decide) (hcd:(x==("__classdict__" : Str))=false:=by decide):PE X (.Name x pos) (qlw i):=by
 intro pins s σ H Q I h;obtain ⟨v,e,h⟩:=h;obtain ⟨m,hn,hl⟩:=I.loc;obtain ⟨u,r,l⟩:=hl i x v hN e hv;have fin:EP X pins σ Q u s:=⟨v,H,I,r,h⟩
 rcases l with ⟨hk,hm⟩|⟨hk,c,hc,hcell⟩
 ·exact wpAny_Name (wpAny_loadName_local I.ok.kind hk hn hm fin) hd
 ·rcases hk with hk|hk
  ·exact wpAny_Name (wpAny_loadName_cell I.ok.kind hk hc hcell fin) hd
  ·exact wpAny_Name (wpAny_loadName_free I.ok.kind hk hc hcell fin hcd) hd
def qfu {i j pos}:PE X (.Constant (.int i) j pos) (tC (.int i)):=λ_ _ _ H _ I h=>wpAny_Constant_int ⟨.int i,H,I.tok _,⟨_,rfl⟩,h⟩
def qke {b j pos}:PE X (.Constant (.bool b) j pos) (tC (.bl b)):=λ_ _ _ H _ I h=>Constant_bool ⟨.bl b,H,I,rfl,h⟩
def qfS {j pos}:PE X (.Constant .none j pos) (tC .non):=λ_ _ _ H _ I h=>Constant_none ⟨.non,H,I,rfl,h⟩
def qeZ {x j pos}:PE X (.Constant (.str x) j pos) (tC (.str x)):=λ_ _ _ H _ I h=>Calls.Constant_str ⟨.str x,H,I.tok _,⟨_,rfl⟩,h⟩
def Gl (X:Cx) (x:Str):Prop:=X.env.kindOf x=some .globalImplicit
def qdt {E:Value->Shared->Prop} {pins:List (Addr×Obj)} {s:Shared} {σ:St} {H:Hp} {x:Str} {u:Value} {pos:Pos} {Q:Value->Shared->Prop} (I:Inv X pins σ H s) (hg:Gl X x) (hm:X.mg x=some u) (h:Q u s)
  (hd:(x==("__debug__" : Str))=false:=by decide):wpAny (model X.prog X.w) X.A (eval (.Name x pos) X.env) Q E s:=
 Calls.Name_function_global I.ok.kind hg (Calls.loadGlobal_global (by rw [I.ok.glob];exact I.mod.glob.keeps I.bk) hm h) hd
def UM {E:Value->Shared->Prop} {pins:List (Addr×Obj)} {s:Shared} {σ:St} {H:Hp} {x:Str} {u:Value} {pos:Pos} {Q:Value->Shared->Prop} (I:Inv X pins σ H s) (hg:Gl X x) (hm:X.mg x=none) (hv:bootBuiltins x=some u) (h:Q u s)
  (hn:x≠"__name__" := by decide) (hd:(x==("__debug__" : Str))=false:=by decide):wpAny (model X.prog X.w) X.A (eval (.Name x pos) X.env) Q E s:=by
 obtain ⟨mb,h1,h2⟩:=I.mod.blt;exact Calls.Name_function_global I.ok.kind hg (Calls.loadGlobal_builtin (by rw [I.ok.glob];exact I.mod.glob.keeps I.bk) hm (by rw [I.ok.blt];exact h1.keeps I.bk) ((h2 x hn).trans hv) h) hd
def X4 {x:Str} {v:V} {u:Value} {pos:Pos} (hg:Gl X x) (hm:X.mg x=none) (hv:bootBuiltins x=some u) (r:jr v u) (hn:x≠"__name__" := by decide) (hd:(x==("__debug__" : Str))=false:=by decide):PE X (.Name x pos) (tC v):=
 λ_ _ _ H _ I h=>UM I hg hm hv ⟨v,H,I,r,h⟩ hn hd
variable {a b:Expr} {ta tb:TE} {pos:Pos}
def tB (t:TE):TT:=λσ H Q=>t σ H λx H1=>∃ c,x=.bl c/\Q c H1
def qe6 {e:Expr} {t:TE} (h:PE X e t) (he:∀ whole,isTrue e X.env whole=(do let v←whole;standAt e.pos;holding [v] (truthy v)):=by intro _;rfl):PT X e (tB t):=by
 intro pins s σ H Q I hw;refine isTrue_plain (thn (h pins s σ H _ I hw) λv s1 ⟨x,H1,I1,r1,q1⟩=>?_) (he _);obtain ⟨d,rfl,q⟩:=q1;cases r1;exact wpAny_truthy_bool ⟨H1,I1,q⟩
variable {tA tB':TT} {YO:List Expr}
def tOr (t u:TT):TT:=λσ H Q=>t σ H λc H1=>if c=true then Q true H1 else u σ H1 Q
def qlz (t:TT):TT:=λσ H Q=>t σ H λc H1=>Q (!c) H1
def qe4 (ha:PT X a tA):PW X (.BoolOp .Or [a] pos) tA:=by
 intro wh pins s σ H Q I h;refine isTrue_or (thn (ha pins s σ H Q I h) λc s1 e=>?_);cases c with
 |false=>exact isTrue_or_nil e
 |true=>exact e
def qjk (ha:PT X a tA) (hb:PW X (.BoolOp .Or (b::YO) pos) tB'):PW X (.BoolOp .Or (a::b::YO) pos) (tOr tA tB'):=by
 intro wh pins s σ H Q I h;refine isTrue_or (thn (ha pins s σ H _ I h) λc s1 ⟨H1,I1,q1⟩=>?_);cases c with
 |true=>exact ⟨H1,I1,q1⟩
 |false=>exact hb wh pins s1 σ H1 Q I1 q1
def qhZ (ha:PT X a tA):PT X (.UnaryOp .Not a pos) (qlz tA):=by
 intro pins s σ H Q I h;exact isTrue_not (ha pins s σ H (λc H1=>Q (!c) H1) I h)
def qjm (ta tb:TE):TE:=λσ H Q=>ta σ H λx H1=>∃ c,x=.bl c/\if c=true then tb σ H1 Q else Q (.bl false) H1
def qkB (ta:TE):TE:=λσ H Q=>ta σ H λx H1=>∃ c,x=.bl c/\Q (.bl (!c)) H1
def qfz {op} {t:TE} (h:PE X a t):PE X (.BoolOp op [a] pos) t:=λpins s σ H Q I hw=>BoolOp_one (h pins s σ H Q I hw)
def qee (ha:PE X a ta) (hb:PE X (.BoolOp .And (b::YO) pos) tb):PE X (.BoolOp .And (a::b::YO) pos) (qjm ta tb):=by
 intro pins s σ H Q I h;refine BoolOp_and (thn (ha pins s σ H _ I h) λv s1 ⟨x,H1,I1,r1,q1⟩=>?_);obtain ⟨c,rfl,q1⟩:=q1;cases r1;refine wpAny_truthy_bool ?_;cases c with
 |true=>exact hb pins s1 σ H1 Q I1 q1
 |false=>exact ⟨.bl false,H1,I1,rfl,q1⟩
def qhx (ha:PE X a ta):PE X (.UnaryOp .Not a pos) (qkB ta):=by
 intro pins s σ H Q I h;refine UnaryOp_ (thn (ha pins s σ H _ I h) λv s1 ⟨x,H1,I1,r1,q1⟩=>?_);obtain ⟨c,rfl,q1⟩:=q1;cases r1;exact not_of (wpAny_truthy_bool ⟨.bl (!c),H1,I1,rfl,q1⟩)
def tIf (t:TT) (ta tb:TE):TE:=λσ H Q=>t σ H λc H1=>if c=true then ta σ H1 Q else tb σ H1 Q
def qaO {c:Expr} (hc:PT X c tA) (ha:PE X a ta) (hb:PE X b tb):PE X (.IfExp c a b pos) (tIf tA ta tb):=by
 intro pins s σ H Q I h;refine wpAny_IfExp (thn (hc pins s σ H _ I h) λd s1 ⟨H1,I1,q1⟩=>?_);cases d with
 |true=>exact ha pins s1 σ H1 Q I1 q1
 |false=>exact hb pins s1 σ H1 Q I1 q1
end
def SqL (K:Frg) (H:Hp) (a:Addr) (xs:List V):Prop:=
 Rd H a (.lst xs) ∨
  ∃ (o:Obj) (its:Array Value) (n:Nat),K.lookup a=some o/\o.cls=.type "list"/\o.dict=none/\o.data=.seq its n/\its.size<=sizeLine/\zt xs its.toList
def SqT (K:Frg) (H:Hp) (a:Addr) (xs:List V):Prop:=
 Rd H a (.tup xs) ∨
  ∃ (o:Obj) (its:Array Value) (n:Nat),K.lookup a=some o/\o.cls=.type "tuple"/\o.data=.seq its n/\its.size<=sizeLine/\zt xs its.toList
def qlA:Value->Option V
 |.none=>some .non
 |.bool b=>some (.bl b)
 |.int i _=>some (.int i)
 |.str x _=>some (.str x)
 |.bytes b _=>some (.byt b)
 |.float b _=>some (.flt b)
 |.ref a=>some (.ref a)
 |.type n=>some (.ty n)
 |_=>none
def jr.abs {x:V} {u:Value} (r:jr x u):qlA u=some x:=by
 cases x with
 |non=>cases r;rfl
 |bl _=>cases r;rfl
 |int _=>obtain ⟨t,rfl⟩:=r;rfl
 |str _=>obtain ⟨t,rfl⟩:=r;rfl
 |byt _=>obtain ⟨t,rfl⟩:=r;rfl
 |flt _=>obtain ⟨t,rfl⟩:=r;rfl
 |ref _=>cases r;rfl
 |ty _=>cases r;rfl
def jr.inj {x y:V} {u:Value} (r:jr x u) (q:jr y u):x=y:=Option.some.inj (r.abs.symm.trans q.abs)
def zt.inj:∀ {xs ys:List V} {us:List Value},zt xs us->zt ys us->xs=ys
 |_,_,_,.nil,.nil=>rfl
 |_,_,_,.cons r t,.cons r' t'=>by rw [r.inj r',zt.inj t t']
section
variable {X:Cx} {pins:List (Addr×Obj)} {σ:St} {H:Hp} {s:Shared} {a:Addr} {xs ys:List V}
def SqL.of {K:Frg} (h:H a=some (.lst xs)):SqL K H a xs:=.inl (.inl h)
def SqT.of {K:Frg} (h:H a=some (.tup xs)):SqT K H a xs:=.inl (.inl h)
def Inv.list (I:Inv X pins σ H s) (h:SqL X.K H a xs):∃ its:List Value,zt xs its/\PlainL s.heap a its.toArray/\xs.length<=sizeLine:=by
 rcases h with h|⟨o,its,n,hk,hc,hd,hs,hz,r⟩
 ·obtain ⟨z,its,n,r,e⟩:=h.ok I.hok;exact ⟨its,r,⟨_,n,e,rfl,rfl,rfl⟩,z⟩
 ·refine ⟨its.toList,r,⟨o,n,I.kIn a o hk,hc,hd,by simpa using hs⟩,?_⟩;have e:=r.length;simp only [Array.length_toList] at e;omega
def Inv.tuple (I:Inv X pins σ H s) (h:SqT X.K H a xs):∃ its:List Value,zt xs its/\IsTup s.heap a its.toArray/\xs.length<=sizeLine:=by
 rcases h with h|⟨o,its,n,hk,hc,hs,hz,r⟩
 ·obtain ⟨z,its,r,p⟩:=h.ok I.hok;exact ⟨its,r,p,z⟩
 ·refine ⟨its.toList,r,⟨o,I.kIn a o hk,hc,n,by simpa using hs⟩,?_⟩;have e:=r.length;simp only [Array.length_toList] at e;omega
def Inv.list_inj (I:Inv X pins σ H s) (h:SqL X.K H a xs) (h':SqL X.K H a ys):xs=ys:=by
 obtain ⟨its,r,⟨o,n,e,_,_,d⟩,_⟩:=I.list h;obtain ⟨its',r',⟨o',n',e',_,_,d'⟩,_⟩:=I.list h';rw [e] at e';cases e';rw [d] at d';injection d' with d1 _;have:its=its':=by simpa using congrArg Array.toList d1
 subst this;exact r.inj r'
def Inv.tuple_inj (I:Inv X pins σ H s) (h:SqT X.K H a xs) (h':SqT X.K H a ys):xs=ys:=by
 obtain ⟨its,r,⟨o,e,_,n,d⟩,_⟩:=I.tuple h;obtain ⟨its',r',⟨o',e',_,n',d'⟩,_⟩:=I.tuple h';rw [e] at e';cases e';rw [d] at d';injection d' with d1 _;have:its=its':=by simpa using congrArg Array.toList d1
 subst this;exact r.inj r'
end
abbrev Cx.wish (X:Cx) (E:Value->Shared->Prop):Cx:={ X with xe:=E }
abbrev Cx.nox (X:Cx):Cx:=X.wish λ_ _=>False
def Cx.Ok.wish {X:Cx} (ok:X.Ok) (E:Value->Shared->Prop):(X.wish E).Ok:=
 ⟨ok.mod,ok.kind,ok.glob,ok.blt,ok.above,ok.inj,ok.has,ok.cab,ok.hd,ok.frames,ok.stk,ok.exf,ok.bs,ok.bsz,ok.noex,ok.exfs,ok.funs,ok.frf⟩
def Cx.Ok.unwish {X:Cx} {E:Value->Shared->Prop} (ok:(X.wish E).Ok):X.Ok:=
 ⟨ok.mod,ok.kind,ok.glob,ok.blt,ok.above,ok.inj,ok.has,ok.cab,ok.hd,ok.frames,ok.stk,ok.exf,ok.bs,ok.bsz,ok.noex,ok.exfs,ok.funs,ok.frf⟩
section
variable {X:Cx} {pins:List (Addr×Obj)} {σ:St} {H:Hp} {s:Shared} {E:Value->Shared->Prop}
def Inv.wish (I:Inv X pins σ H s) (E:Value->Shared->Prop):Inv (X.wish E) pins σ H s:=⟨I.ok.wish E,I.os,I.bare,I.base,I.loc,I.cell,I.free,I.freeC,I.pin,I.hok,I.len⟩
def Inv.unwish (I:Inv (X.wish E) pins σ H s):Inv X pins σ H s:=⟨I.ok.unwish,I.os,I.bare,I.base,I.loc,I.cell,I.free,I.freeC,I.pin,I.hok,I.len⟩
def SP.unwish {D:Ends} {f:Flow} {s':Shared} (h:SP (X.wish E) pins D f s'):SP X pins D f s':=by
 cases f with
 |next=>obtain ⟨σ',H',I,q⟩:=h;exact ⟨σ',H',I.unwish,q⟩
 |brk=>obtain ⟨σ',H',I,q⟩:=h;exact ⟨σ',H',I.unwish,q⟩
 |cont=>obtain ⟨σ',H',I,q⟩:=h;exact ⟨σ',H',I.unwish,q⟩
 |ret u=>obtain ⟨v,σ',H',I,r,q⟩:=h;exact ⟨v,σ',H',I.unwish,r,q⟩
def PSs.nox {st:List Stmt} {t:TS} (h:PSs X.nox st t):PSs X st t:=λpins s σ H D I hw=>
 wpAny_mono (h pins s σ H D (I.wish _) hw) (λ_ _ q=>q.unwish) λ_ _ z=>False.elim z
end
section
variable {X:Cx} {st:Stmt} {YO:List Stmt} {t u:TS} {e:Expr} {te:TE} {pos:Pos}
def qj7:TS:=λD σ H=>D.nx σ H
def qlp (t u:TS):TS:=λD σ H=>t { D with nx:=u D } σ H
def qcN:PSs X [] qj7:=λ_ _ σ H _ I h=>wpAny_execs_nil ⟨σ,H,I,h⟩
def qaN (h1:PS X st t) (h2:PSs X YO u):PSs X (st::YO) (qlp t u):=by
 intro pins s σ H D I h;refine wpAny_execs_cons (thn (h1 pins s σ H { D with nx:=u D } I h) λf s1 q=>?_);cases f with
 |next=>
  obtain ⟨σ',H',I',q⟩:=q;exact h2 pins s1 σ' H' D I' q
 |ret v=>exact q
 |brk=>exact q
 |cont=>exact q
def qdC (h1:PS X st t):PSs X [st] t:=by
 intro pins s σ H D I h;refine wpAny_execs_cons (thn (h1 pins s σ H D I h) λf s1 q=>?_);cases f with
 |next=>exact wpAny_execs_nil q
 |ret v=>exact q
 |brk=>exact q
 |cont=>exact q
def Inv.quiet {pins:List (Addr×Obj)} {σ:St} {H:Hp} {s:Shared} (I:Inv X pins σ H s):interactive X.env=false:=by simp [interactive,I.ok.kind]
def qjt (te:TE):TS:=λD σ H=>te σ H λ_ H1=>D.nx σ H1
def qdS (he:PE X e te) (hs:swapsWith e none pos.line X.env=pure false:=by rfl):PS X (.Expr e pos) (qjt te):=by
 intro pins s σ H D I h;exact wpAny_Expr_any (thn (he pins s σ H _ I h) λv s1 ⟨x,H1,I1,r1,q1⟩=>⟨σ,H1,I1,q1⟩) I.quiet hs
def qlW (te:TE):TS:=λD σ H=>te σ H D.rt
def qis (he:PE X e te):PS X (.Return (some e) pos) (qlW te):=by
 intro pins s σ H D I h;exact wpAny_Return_some (thn (he pins s σ H _ I h) λv s1 ⟨x,H1,I1,r1,q1⟩=>⟨x,σ,H1,I1,r1,q1⟩)
def qll (c:TT) (t u:TS):TS:=λD σ H=>c σ H λb H1=>if b=true then t D σ H1 else u D σ H1
def qkt {c:Expr} {a b:List Stmt} {tc:TT} (hc:PT X c tc) (ha:PSs X a t) (hb:PSs X b u):PS X (.If c a b pos) (qll tc t u):=by
 intro pins s σ H D I h;refine wpAny_If (thn (hc pins s σ H _ I h) λd s1 ⟨H1,I1,q1⟩=>?_);cases d with
 |true=>exact ha pins s1 σ H1 D I1 q1
 |false=>exact hb pins s1 σ H1 D I1 q1
end
abbrev TG:=V->St->Hp->(St->Hp->Prop)->Prop
abbrev TGs:=List V->St->Hp->(St->Hp->Prop)->Prop
def PG (X:Cx) (target:Expr) (t:TG):Prop:=
 ∀ (pins:List (Addr×Obj)) (s:Shared) (σ:St) (H:Hp) (v:V) (u:Value) (Q:St->Hp->Prop),Inv X pins σ H s->jr v u->t v σ H Q ->
  wpAny (model X.prog X.w) X.A (assign target X.env u) (λ_ s'=>∃ σ' H',Inv X pins σ' H' s'/\Q σ' H') X.xe s
def PGs (X:Cx) (ts:List Expr) (t:TGs):Prop:=
 ∀ (pins:List (Addr×Obj)) (s:Shared) (σ:St) (H:Hp) (vs:List V) (us:List Value) (Q:St->Hp->Prop),Inv X pins σ H s->zt vs us->t vs σ H Q ->
  wpAny (model X.prog X.w) X.A (assignInOrder ((assignEach ts X.env).map (·.2)) us) (λ_ s'=>∃ σ' H',Inv X pins σ' H' s'/\Q σ' H') X.xe s
abbrev qjQ:=V->V->V->Hp->(Hp->Prop)->Prop
def qkQ (X:Cx) (t:qjQ):Prop:=
 ∀ (pins:List (Addr×Obj)) (s:Shared) (σ:St) (H:Hp) (o i v:V) (ov iv u:Value) (Q:Hp->Prop),Inv X pins σ H s->jr o ov->jr i iv->jr v u->t o i v H Q ->
  wpAny (model X.prog X.w) X.A (setItem ov iv u) (λ_ s'=>∃ H',Inv X pins σ H' s'/\Q H') X.xe s
abbrev TIp:=V->V->Hp->VK->Prop
def PIp (X:Cx) (op:Operator) (t:TIp):Prop:=
 ∀ (pins:List (Addr×Obj)) (s:Shared) (σ:St) (H:Hp) (x y:V) (v u:Value) (Q:VK),Inv X pins σ H s->jr x v->jr y u->t x y H Q ->
  wpAny (model X.prog X.w) X.A (inplaceOp op v u) (EP X pins σ Q) X.xe s
section
variable {X:Cx} {pos:Pos}
def qiu (i:Nat):TG:=λv σ H Q=>Q (σ.set i (some v)) H
def qdU {i:Nat} {x:Str} (hN:X.N.Nodup) (hi:X.N[i]?=some x) (hx:Loc X.env.scope x) (hf:X.fn x=true\/X.env.scope.names.lookup x=some .local:=by first|exact .inl rfl|exact .inr rfl|assumption):PG X (.Name x pos) (qiu i):=by
 intro pins s σ H v u Q I r h;exact wpAny_assign_Name (JK I hN hi hx r (λs' I'=>⟨_,H,I',h⟩) hf)
def T0:TGs:=λvs σ H Q=>vs=[]/\Q σ H
def zX (t:TG) (u:TGs):TGs:=λvs σ H Q=>∃ v r,vs=v::r/\t v σ H λσ' H'=>u r σ' H' Q
def qdT:PGs X [] T0:=by
 intro pins s σ H vs us Q I r h;obtain ⟨e,h⟩:=h;subst e;cases r;exact assignInOrder_nil ⟨σ,H,I,h⟩
def N4 {e:Expr} {es:List Expr} {t:TG} {u:TGs} (h1:PG X e t) (h2:PGs X es u)
  (hs:(assignEach (e::es) X.env).map (·.2)=assign e X.env::(assignEach es X.env).map (·.2):=by rfl):PGs X (e::es) (zX t u):=by
 intro pins s σ H vs us Q I r h;obtain ⟨v,vr,e1,h⟩:=h;subst e1;cases r with
 |cons r rr=>
  rw [hs];refine assignInOrder_cons (thn (h1 pins s σ H _ _ _ I r h) λ_ s1 ⟨σ1,H1,I1,q1⟩=>?_);exact h2 pins s1 σ1 H1 _ _ Q I1 rr q1
def T4 (K:Frg) (n:Nat) (t:TGs):TG:=λv σ H Q=>∃ a xs,v=.ref a/\SqT K H a xs/\xs.length=n/\t xs σ H Q
def qhK {es:List Expr} {k:Nat} {t:TGs} {n:Nat} (hc:X.calm=true) (h:PGs X es t)
  (hn:(assignEach es X.env).length=n:=by rfl) (hst:(assignEach es X.env).findIdx? (·.1)=none:=by rfl):PG X (.Tuple es k pos) (T4 X.K n t):=by
 intro pins s σ H v u Q I r hw;obtain ⟨a,xs,e1,hq,hl,hw⟩:=hw;subst e1;cases r;obtain ⟨its,rv,ht,hz⟩:=I.tuple hq;refine assign_Tuple_tuple (I.ok.hd hc) ht (by simp [hn,← hl,rv.length]) hst λh' hx=>?_;have I1:Inv X pins σ H { s with heap:=h' }:=I.kept (t':=s.toks) λb o e=>hx b o (Nat.ne_of_lt (Heap.lt_size e)) e;exact h pins _ σ H xs _ Q I1 (by simpa using rv) hw
def qlO (to ti:TE) (t:qjQ):TG:=λv σ H Q=>to σ H λo H1=>ti σ H1 λi H2=>t o i v H2 λH3=>Q σ H3
def qeD {o i:Expr} {to ti:TE} {t:qjQ} (ho:PE X o to) (hi:PE X i ti) (hs:qkQ X t)
  (ha:∀ v,assign (.Subscript o i pos) X.env v=(do
   let ov←holding [v] (eval o X.env)
   let iv←holding [v,ov] (eval i X.env)
   standAt pos
   holding [v,ov,iv] (setItem ov iv v)
   release [v,ov,iv] []):=by intro _;rfl):PG X (.Subscript o i pos) (qlO to ti t):=by
 intro pins s σ H v u Q I r h;rw [ha];refine wpAny_bind (wpAny_holding (thn (ho pins s σ H _ I h) λov s1 ⟨x,H1,I1,r1,q1⟩=>?_));refine wpAny_bind (wpAny_holding (thn (hi pins s1 σ H1 _ I1 q1) λiv s2 ⟨y,H2,I2,r2,q2⟩=>?_));refine wpAny_bind (wpAny_standAt (wpAny_bind (wpAny_holding (thn (hs pins s2 σ H2 x y v ov iv u _ I2 r1 r2 r q2) λ_ s3 ⟨H3,I3,q3⟩=>?_))));exact wpAny_release ⟨σ,H3,I3,q3⟩
def qk8 (te:TE) (g:TG):TS:=λD σ H=>te σ H λx H1=>g x σ H1 D.nx
def qg3 {tg e:Expr} {te:TE} {g:TG} (he:PE X e te) (hg:PG X tg g) (hs:swapsWithSole [tg] e pos.line X.env=pure false:=by rfl) (hw:swappedStores [tg] e X.env=pure none:=by rfl)
  (h1:(assignEach [tg] X.env).map (·.2)=[assign tg X.env]:=by rfl):PS X (.Assign [tg] e pos) (qk8 te g):=by
 intro pins s σ H D I h;refine wpAny_Assign_stores (thn (he pins s σ H _ I h) λv s1 ⟨x,H1,I1,r1,q1⟩=>?_) hs hw;rw [h1];exact thn (hg pins s1 σ H1 x v _ I1 r1 q1) λ_ s2 q=>q
def qfh {i:Nat} {x:Str} {e:Expr} {te:TE} {pos':Pos} (hN:X.N.Nodup) (hi:X.N[i]?=some x) (hx:Loc X.env.scope x) (he:PE X e te) (hs:swapsWith e (some (.Name x pos')) pos.line X.env=pure false:=by rfl) (hf:X.fn x=true\/X.env.scope.names.lookup x=some .local:=by first|exact .inl rfl|exact .inr rfl|assumption) :
  PS X (.Assign [.Name x pos'] e pos) (qk8 te (qiu i)):=by
 intro pins s σ H D I h;refine wpAny_Assign_Name (thn (he pins s σ H _ I h) λv s1 ⟨y,H1,I1,r1,q1⟩=>?_) hs;exact JK I1 hN hi hx r1 (λs2 I2=>⟨_,H1,I2,q1⟩) hf
def qlr (i j:Nat) (ta:TA):TS:=λD σ H=>ta σ H λvs H1=>∃ v w,vs=[v,w]/\D.nx ((σ.set i (some v)).set j (some w)) H1
def qgR {i j:Nat} {x y:Str} {a b:Expr} {ta:TA} {px py pt:Pos} {kt k2 pt2} (hc:X.calm=true) (hN:X.N.Nodup) (hi:X.N[i]?=some x) (hj:X.N[j]?=some y) (hij:i≠j)
  (hx:X.env.scope.names.lookup x=some .local) (hy:X.env.scope.names.lookup y=some .local) (ha:PA X [a,b] ta)
  (hw:swappedStores [.Tuple [.Name x px,.Name y py] kt pt] (.Tuple [a,b] k2 pt2) X.env=pure (some [x,y]))
  (hs:swapsWithSole [.Tuple [.Name x px,.Name y py] kt pt] (.Tuple [a,b] k2 pt2) pos.line X.env=pure false:=by rfl) :
  PS X (.Assign [.Tuple [.Name x px,.Name y py] kt pt] (.Tuple [a,b] k2 pt2) pos) (qlr i j ta):=by
 intro pins s σ H D I h;rw [exec_Assign_arm];refine wpAny_bind (wpAny_standAt ?_);rw [hs];refine wpAny_bind (wpAny_pure ?_);rw [if_neg (by decide)];refine wpAny_bind (Tuple_ (thn (ha _ pins s σ H _ I h) λus s1 ⟨vs,H1,I1,r1,q1⟩=>?_));obtain ⟨v,w,e1,q1⟩:=q1;subst e1;obtain ⟨u1,u2,rfl,rv,rw'⟩:∃ u1 u2,us=[u1,u2]/\jr v u1/\jr w u2:=by
  cases r1 with
  |cons p q=>
   cases q with
   |cons p' q'=>
    cases q';exact ⟨_,_,rfl,p,p'⟩
 refine wpAny_newObj_type ?_ (by show 2<=sizeLine;decide);have I2:Inv X pins σ H1 { s1 with heap:=s1.heap.push { cls:=.type "tuple",data:=.seq [u1,u2].toArray } }:=I1.kept (t':=s1.toks) λb o e=>Heap.get?_push_of_some _ e;rw [hw];refine wpAny_bind (wpAny_pure ?_);show wpAny (model X.prog X.w) X.A (do rule "assign.swapped-stores";let items←unpackItems (.ref s1.heap.objs.size) 2 none;assignInOrder [λv=>bindName X.env y v,λv=>bindName X.env x v] items.reverse;pure Flow.next) _ _ _;refine wpAny_bind (wpAny_rule (wpAny_bind (unpackItems_tuple (items:=#[u1,u2]) (I.ok.hd hc) (IsTup.new s1.heap _) λh' hx'=>?_)));have I3:=I2.kept (h':=h') (t':=s1.toks) λb o e=>hx' b o (Nat.ne_of_lt (Heap.lt_size e)) e;show wpAny _ _ (assignInOrder [λv=>bindName X.env y v,λv=>bindName X.env x v] [u2,u1] >>= λ_=>pure Flow.next) _ _ _;refine wpAny_bind (assignInOrder_cons (wpAny_bindName (JK I3 hN hj (.inl hy) rw' (λs2 I4=>?_) (.inr hy))));refine assignInOrder_cons (wpAny_bindName (JK I4 hN hi (.inl hx) rv (λs3 I5=>assignInOrder_nil (wpAny_pure ?_)) (.inr hx)));rw [List.set_comm _ _ (Ne.symm hij)] at I5;exact ⟨_,H1,I5,q1⟩
def qlS (i:Nat) (te:TE) (ti:TIp):TS:=λD σ H=>∃ x,σ[i]?=some (some x)/\te σ H λy H1=>ti x y H1 λz H2=>D.nx (σ.set i (some z)) H2
def qei {i:Nat} {x:Str} {e:Expr} {te:TE} {op:Operator} {ti:TIp} {pos':Pos} (hN:X.N.Nodup) (hi:X.N[i]?=some x) (hx:Loc X.env.scope x) (he:PE X e te) (ho:PIp X op ti) (hf:X.fn x=true\/X.env.scope.names.lookup x=some .local:=by first|exact .inl rfl|exact .inr rfl|assumption) :
  PS X (.AugAssign (.Name x pos') op e pos) (qlS i te ti):=by
 intro pins s σ H D I h;obtain ⟨v,e1,h⟩:=h;obtain ⟨m,hn,hl⟩:=I.loc;have vis:Vis X.env.scope x:=by rcases hx with k|k;exact .inl k;exact .inr (.inl k)
 obtain ⟨u,r,l⟩:=hl i x v hi e1 vis;refine wpAny_AugAssign_Name ?_;have go:wpAny (model X.prog X.w) X.A (eval e X.env) (λw s₂=>wpAny (model X.prog X.w) X.A (inplaceOp op u w) (λr s₃=>wpAny (model X.prog X.w) X.A (storeName X.env x r) (λ_=>SP X pins D .next) X.xe s₃) X.xe s₂) X.xe s:=by
  refine thn (he pins s σ H _ I h) λw s1 ⟨y,H1,I1,r1,q1⟩=>?_;refine thn (ho pins s1 σ H1 v y u w _ I1 r r1 q1) λz s2 ⟨zv,H2,I2,r2,q2⟩=>?_;exact JK I2 hN hi hx r2 (λs3 I3=>⟨_,H2,I3,q2⟩) hf
 rcases l with ⟨hk,hm⟩|⟨hk,c,hc,hcell⟩
 ·exact wpAny_loadName_local I.ok.kind hk hn hm go
 ·rcases hk with hk|hk
  ·exact wpAny_loadName_cell I.ok.kind hk hc hcell go
  ·rcases hx with k|k
   ·have:X.env.scope.names.lookup x=some .free:=hk;rw [k] at this;cases this
   ·have:X.env.scope.names.lookup x=some .free:=hk;rw [k] at this;cases this
def ipI (f:Int->Int->Int):TIp:=λx y H Q=>∃ i j,x=.int i/\y=.int j/\Q (.int (f i j)) H
def qg6:PIp X .Add (ipI λi j=>i+j):=by
 intro pins s σ H x y v u Q I r1 r2 h;obtain ⟨i,j,e1,e2,q⟩:=h;subst e1;subst e2;obtain ⟨t,rfl⟩:=r1;obtain ⟨t',rfl⟩:=r2;exact iadd_int ⟨.int _,H,I.tok _,⟨_,rfl⟩,q⟩
end
section
variable {X:Cx} {pos:Pos}
def qgl (c:TT) (tb:TS):TS:=λD σ H=>∃ W:Nat->St->Hp->Prop,(∃ m,W m σ H)/\∀ m σ H,W m σ H ->
 c σ H λb H1=>if b=true then ∃ N:St->Hp->Prop,(∀ σ' H',N σ' H'->∃ m',m'<m/\W m' σ' H')/\tb { D with nx:=N,ct:=N,bk:=D.nx } σ H1 else D.nx σ H1
def qao {c:Expr} {body:List Stmt} {tc:TT} {tb:TS} (hp:PassesOwn (model X.prog X.w) X.A X.env X.xe) (hc:PT X c tc) (hb:PSs X body tb):PS X (.While c body [] pos) (qgl tc tb):=by
 intro pins s σ H D I h;obtain ⟨W,⟨m0,w0⟩,turn⟩:=h;refine wpAny_While (codeAny_whileLoop (λn s'=>∃ σ' H',Inv X pins σ' H' s'/\W n σ' H') ?_ m0 ⟨σ,H,I,w0⟩);rintro n s1 ⟨σ1,H1,I1,w1⟩;refine wpAny_passesOwn hp (thn (hc pins s1 σ1 H1 _ I1 (turn n σ1 H1 w1)) λb s2 ⟨H2,I2,q2⟩=>?_);cases b with
 |true=>
  obtain ⟨N,hN,q2⟩:=q2;rw [if_pos rfl];refine wpAny_passesOwn hp (thn (hb pins s2 σ1 H2 _ I2 q2) λf s3 q3=>?_);cases f with
  |next=>
   obtain ⟨σ3,H3,I3,n3⟩:=q3;obtain ⟨m',hm,w3⟩:=hN σ3 H3 n3;exact ⟨m',hm,σ3,H3,I3,w3⟩
  |cont=>
   obtain ⟨σ3,H3,I3,n3⟩:=q3;obtain ⟨m',hm,w3⟩:=hN σ3 H3 n3;exact ⟨m',hm,σ3,H3,I3,w3⟩
  |brk=>exact q3
  |ret v=>exact q3
 |false=>
  rw [if_neg Bool.false_ne_true];exact wpAny_execs_nil ⟨σ1,H2,I2,q2⟩
end
structure It where
 go:Nat->Hp->Prop
 yld:Nat->Hp->V->Hp->Prop
 stop:Nat->Hp->Prop
def NK (X:Cx) (pins:List (Addr×Obj)) (H:Hp) (b:Addr):Prop:=
 H b=none/\b≠X.env.locals/\b∉X.fs/\(b∈X.ex\/X.s₀.heap.objs.size<=b)/\(∀ x c,X.env.cells.lookup x=some c->c≠b)/\∀ p∈X.pn++pins,p.1≠b
def Inv.fpOk {X:Cx} {pins:List (Addr×Obj)} {σ:St} {H H':Hp} {s:Shared} {b:Addr} (I:Inv X pins σ H s) (hb:s.heap.objs.size<=b) (hn:H' b=none):NK X pins H' b:=by
 refine ⟨hn,Nat.ne_of_gt (Nat.lt_of_lt_of_le I.lt hb),I.nofs hb,.inr (Nat.le_trans I.sz hb),λx c e z=>?_,λp hp z=>?_⟩
 ·obtain ⟨v,q⟩:=I.cell x c e;exact absurd (Nat.lt_of_lt_of_le q.lt (by rw [z];exact hb)) (Nat.lt_irrefl _)
 ·exact absurd (Nat.lt_of_lt_of_le (Heap.lt_size (I.pin p hp).1) (by rw [z];exact hb)) (Nat.lt_irrefl _)
structure Turn (P:Program) (w:World) (K:Frg) (tg:Expr) (J:It) (fp:List Addr) (it:Addr) (tn:Nat->Heap->Prop):Prop where
 mem:it∈fp
 obj:∀ i h,tn i h->∀ b∈fp,∃ o,h.get? b=some o/\∀ v,o.data≠.cell v
 keep:∀ i h h',tn i h->(∀ b∈fp,∀ o,h.get? b=some o->h'.get? b=some o)->tn i h'
 item:∀ (X:Cx),X.prog=P->X.w=w->X.K=K->X.calm=true->∀ (i:Nat) (pins:List (Addr×Obj)) (s:Shared) (σ:St) (H:Hp) (E:Value->Shared->Prop),Inv X pins σ H s->(∀ b∈fp,NK X pins H b)->tn i s.heap->J.go i H ->
  wpAny (model P w) X.A (pyNext (.ref it)) (λr s1=>∃ u,r=some u /\
   wpAny (model P w) X.A (letOwnedTupleGo tg (.ref it) u) (λ_ s2=>∃ x H',Inv X pins σ H' s2/\jr x u/\J.yld i H x H'/\tn (i+1) s2.heap/\∀ b∈fp,H' b=none) E s1) E s
 done:∀ (X:Cx),X.prog=P->X.w=w->X.K=K->X.calm=true->∀ (i:Nat) (pins:List (Addr×Obj)) (s:Shared) (σ:St) (H:Hp) (E:Value->Shared->Prop),Inv X pins σ H s->(∀ b∈fp,NK X pins H b)->tn i s.heap->J.stop i H ->
  wpAny (model P w) X.A (pyNext (.ref it)) (λr s1=>r=none/\Inv X pins σ H s1) E s
 self:∀ (A:Around) (i:Nat) (s:Shared) (Q:Value->Shared->Prop) (E:Value->Shared->Prop),tn i s.heap->Q (.ref it) s->wpAny (model P w) A (pyIter (.ref it)) Q E s
abbrev TI:=St->Hp->(It->Hp->Prop)->Prop
def PIE (X:Cx) (pins:List (Addr×Obj)) (σ:St) (tg:Expr) (R:It->Hp->Prop) (itv:Value) (s2:Shared):Prop:=
 ∃ (it:Addr) (fp:List Addr) (tn:Nat->Heap->Prop) (J:It) (H':Hp),itv=.ref it/\Inv X pins σ H' s2/\Turn X.prog X.w X.K tg J fp it tn/\tn 0 s2.heap/\(∀ b∈fp,NK X pins H' b)/\R J H'
def PI (X:Cx) (tg iter:Expr) (wi:TI):Prop:=
 ∀ (pins:List (Addr×Obj)) (s:Shared) (σ:St) (H:Hp) (R:It->Hp->Prop),Inv X pins σ H s->wi σ H R ->
  wpAny (model X.prog X.w) X.A (eval iter X.env) (λv s1=>wpAny (model X.prog X.w) X.A (pyIter v) (PIE X pins σ tg R) X.xe s1) X.xe s
def qcV {M:Model} {A:Around} {E:Value->Shared->Prop} {s:Shared} {tg:Expr} {it:Addr} {u:Value} {o:Obj} {n:String} {vs:Array Value} {Q:Unit->Shared->Prop} (ho:s.heap.get? it=some o) (hc:o.cls=.type n) (hd:o.data=.fields vs)
    (hn:["enumerate","zip","dict_itemiterator","dict_reverseitemiterator","odict_iterator","itertools.zip_longest","itertools.pairwise"].contains n=false) (hQ:Q () s):wpAny M A (letOwnedTupleGo tg (.ref it) u) Q E s:=by
  unfold letOwnedTupleGo;cases tg<;>first
    |exact wpAny_pure hQ
    | (cases u<;>first
        |exact wpAny_pure hQ
        | (refine wpAny_bind (wpAny_load ho ?_)
           rw [hc,hd];show wpAny M A (if (["enumerate","zip","dict_itemiterator","dict_reverseitemiterator","odict_iterator","itertools.zip_longest","itertools.pairwise"].contains n&&vs[0]?==some (rawInt _))=true then _ else _) Q E s;rw [if_neg (by intro h;rw [hn,Bool.false_and] at h;cases h)];exact wpAny_pure hQ))
def Itl (K:Frg) (a:Addr):It:=
 ⟨λi H=>∃ xs x,SqL K H a xs/\xs[i]?=some x,λi H x H'=>H'=H/\∀ xs,SqL K H a xs->xs[i]?=some x,λi H=>∃ xs,SqL K H a xs/\xs.length<=i⟩
def Itt (K:Frg) (a:Addr):It:=
 ⟨λi H=>∃ xs x,SqT K H a xs/\xs[i]?=some x,λi H x H'=>H'=H/\∀ xs,SqT K H a xs->xs[i]?=some x,λi H=>∃ xs,SqT K H a xs/\xs.length<=i⟩
def Itr (lo:Int) (n:Nat):It:=⟨λi _=>i<n,λi H x H'=>H'=H/\x=.int (lo+i),λi _=>n<=i⟩
def KA {P:Program} {w:World} {K:Frg} {tg:Expr} (a it:Addr):Turn P w K tg (Itl K a) [it] it (λi h=>h.IsListIter it a i) where
 mem:=by simp
 obj:=λi h st b hb=>by
  have e:b=it:=by simpa using hb
  subst e;obtain ⟨o,e,c,d⟩:=st;exact ⟨o,e,λv z=>by rw [d] at z;cases z⟩
 keep:=λi h h' st k=>st.at λo e=>k it (by simp) o e
 item:=by
  intro X hP hw hK hc i pins s σ H E I hf st hg;subst hP hw hK;obtain ⟨xs,x,hq,hx⟩:=hg;obtain ⟨its,rv,p,hz⟩:=I.list hq;obtain ⟨u,hu,ru⟩:=rv.get hx;obtain ⟨f0,f1,f2,f3,f4,f5⟩:=hf it (by simp);refine wpAny_pyNext_list_item st p.isList (x:=u) (by simpa using hu) λh' st' sb=>?_;have I1:Inv X pins σ H { s with heap:=h' }:=I.turned (t':=s.toks) (λb o hb e=>(sb.2 b hb).trans e) f0 f1 f3 f4 f5;obtain ⟨o,e,c,d⟩:=id st';exact ⟨u,rfl,qcV (s:={ s with heap:=h' }) e c d (by decide) ⟨x,H,I1,ru,⟨rfl,λys hy=>by rw [I.list_inj hy hq];exact hx⟩,st',λb hb=>(hf b hb).1⟩⟩
 done:=by
  intro X hP hw hK hc i pins s σ H E I hf st hg;subst hP hw hK;obtain ⟨xs,hq,hx⟩:=hg;obtain ⟨its,rv,p,hz⟩:=I.list hq;obtain ⟨f0,f1,f2,f3,f4,f5⟩:=hf it (by simp);have hl:=rv.length;exact wpAny_pyNext_list_end (I.ok.hd hc) st p.isList (by simp;omega) λh' eb=>⟨rfl,I.turned (t':=s.toks) (λb o hb e=>eb b o hb e) f0 f1 f3 f4 f5⟩
 self:=λ_ _ _ _ _ st h=>wpAny_pyIter_listiter st h
def SL {P:Program} {w:World} {K:Frg} {tg:Expr} (a it:Addr):Turn P w K tg (Itt K a) [it] it (λi h=>h.IsTupleIter it a i) where
 mem:=by simp
 obj:=λi h st b hb=>by
  have e:b=it:=by simpa using hb
  subst e;obtain ⟨o,e,c,d⟩:=st;exact ⟨o,e,λv z=>by rw [d] at z;cases z⟩
 keep:=λi h h' st k=>st.at λo e=>k it (by simp) o e
 item:=by
  intro X hP hw hK hc i pins s σ H E I hf st hg;subst hP hw hK;obtain ⟨xs,x,hq,hx⟩:=hg;obtain ⟨its,rv,p,hz⟩:=I.tuple hq;obtain ⟨u,hu,ru⟩:=rv.get hx;obtain ⟨f0,f1,f2,f3,f4,f5⟩:=hf it (by simp);refine wpAny_pyNext_tuple_item st (show s.heap.IsTuple a its.toArray from p) (x:=u) (by simpa using hu) λh' st' sb=>?_;have I1:Inv X pins σ H { s with heap:=h' }:=I.turned (t':=s.toks) (λb o hb e=>(sb.2 b hb).trans e) f0 f1 f3 f4 f5;obtain ⟨o,e,c,d⟩:=id st';exact ⟨u,rfl,qcV (s:={ s with heap:=h' }) e c d (by decide) ⟨x,H,I1,ru,⟨rfl,λys hy=>by rw [I.tuple_inj hy hq];exact hx⟩,st',λb hb=>(hf b hb).1⟩⟩
 done:=by
  intro X hP hw hK hc i pins s σ H E I hf st hg;subst hP hw hK;obtain ⟨xs,hq,hx⟩:=hg;obtain ⟨its,rv,p,hz⟩:=I.tuple hq;obtain ⟨f0,f1,f2,f3,f4,f5⟩:=hf it (by simp);have hl:=rv.length;exact wpAny_pyNext_tuple_end (I.ok.hd hc) st (show s.heap.IsTuple a its.toArray from p) (by simp;omega) λh' eb=>⟨rfl,I.turned (t':=s.toks) (λb o hb e=>eb b o hb e) f0 f1 f3 f4 f5⟩
 self:=λ_ _ _ _ _ st h=>wpAny_pyIter_tupleiter st h
def SF {P:Program} {w:World} {K:Frg} {tg:Expr} (it:Addr) (lo:Int) (n:Nat):Turn P w K tg (Itr lo n) [it] it (λi h=>IsRangeIter h it (lo+(i:Nat)*1) ((n:Int)-(i:Nat)) 1) where
 mem:=by simp
 obj:=λi h st b hb=>by
  have e:b=it:=by simpa using hb
  subst e;exact ⟨_,st,λv z=>by
   have z':Data.fields _=Data.cell v:=z;cases z'⟩
 keep:=λi h h' st k=>k it (by simp) _ st
 item:=by
  intro X hP hw hK hc i pins s σ H E I hf st hg;subst hP hw hK;obtain ⟨f0,f1,f2,f3,f4,f5⟩:=hf it (by simp);have W:=Walks.range (prog:=X.prog) (w:=X.w) (I.ok.hd hc) it lo 1 n;refine W.item i s _ _ hg st λv h' tk hv st' kk=>?_;obtain ⟨t,rfl⟩:=hv;have I1:Inv X pins σ H { s with heap:=h',toks:=tk }:=I.turned (λb o hb e=>kk b o (by simpa using hb) e) f0 f1 f3 f4 f5;refine ⟨_,rfl,qcV (s:={ s with heap:=h',toks:=tk }) (n:="range_iterator") st' rfl rfl (by decide) ⟨.int (lo+i),H,I1,⟨t,?_⟩,⟨rfl,rfl⟩,st',λb hb=>(hf b hb).1⟩⟩;rw [Int.mul_one]
 done:=by
  intro X hP hw hK hc i pins s σ H E I hf st hg;subst hP hw hK;obtain ⟨f0,f1,f2,f3,f4,f5⟩:=hf it (by simp);exact wpAny_pyNext_range_end (I.ok.hd hc) st (by have:n<=i:=hg;omega) λh' eb=>⟨rfl,I.turned (t':=s.toks) (λb o hb e=>eb b o hb e) f0 f1 f3 f4 f5⟩
 self:=λ_ _ _ _ _ st h=>wpAny_pyIter_rangeiter st h
section
variable {X:Cx} {tg:Expr}
def qam {pins:List (Addr×Obj)} {σ:St} {H:Hp} {s:Shared} {R:It->Hp->Prop} {E:Value->Shared->Prop} {lo hi:Int} {t u v:Tok} {tk:Nat} (I:Inv X pins σ H s) (h1:-(2 ^ 62)<=lo) (h2:lo<2 ^ 62) (h3:-(2 ^ 62)<=hi) (h4:hi<2 ^ 62)
  (q:R (Itr lo (hi-lo).toNat) H):wpAny (model X.prog X.w) X.A (pyIter (.ref s.heap.objs.size)) (PIE X pins σ tg R) E { s with heap:=s.heap.push { cls:=.type "range",data:=.fields #[.int lo t,.int hi u,.int 1 v] },toks:=tk }:=by
 refine wpAny_pyIter_range (IsRange.new ..) (small_one h1 h2 h3 h4) ?_;have I1:Inv X pins σ H { s with heap:=s.heap.push { cls:=.type "range",data:=.fields #[.int lo t,.int hi u,.int 1 v] },toks:=tk }:=I.kept λb o e=>Heap.get?_push_of_some _ e;refine ⟨(s.heap.push { cls:=.type "range",data:=.fields #[.int lo t,.int hi u,.int 1 v] }).objs.size,[(s.heap.push { cls:=.type "range",data:=.fields #[.int lo t,.int hi u,.int 1 v] }).objs.size],_,_,H,rfl,
  I1.kept (t':=tk) λb o e=>Heap.get?_push_of_some _ e,SF _ lo (hi-lo).toNat,?_,λb hb=>?_,q⟩
 ·have e1:lo+((0:Nat):Int)*1=lo:=by simp
  have e2:(((hi-lo).toNat:Nat):Int)-((0:Nat):Int)=Builtin.Range.rangeSize lo hi 1:=by rw [rangeSize_one];split<;>omega
  show IsRangeIter _ _ (lo+((0:Nat):Int)*1) ((((hi-lo).toNat:Nat):Int)-((0:Nat):Int)) 1;rw [e1,e2];exact Heap.get?_push_size _ rfl
 ·have e:b=(s.heap.push { cls:=.type "range",data:=.fields #[.int lo t,.int hi u,.int 1 v] }).objs.size:=by simpa using hb
  subst e;exact I1.fpOk (Nat.le_refl _) (I1.hok.fresh (Nat.le_refl _))
def qkk (ta:TA):TI:=λσ H R=>ta σ H λvs H1=>∃ j:Int,vs=[.int j]/\-(2 ^ 62)<=j/\j<2 ^ 62/\R (Itr 0 j.toNat) H1
def LV {a:Expr} {ta:TA} {p pos:Pos} (hg:Gl X "range") (hm:X.mg "range" = none) (ha:PA X [a] ta) (hs:starEach [a] X.env=[(false,eval a X.env)]:=by rfl):PI X tg (.Call (.Name "range" p) [a] [] pos) (qkk ta):=by
 intro pins s σ H R I h;refine Call_ (UM I hg hm boot_range (PyProof.Rows.callWith_type1 (thn (ha pos pins s σ H _ I h) λus s1 ⟨vs,H1,I1,r1,q1⟩=>?_) hs rfl));obtain ⟨j,e,q1,q2,q⟩:=q1;subst e;cases r1 with
 |cons r rr=>
  cases rr;obtain ⟨t,rfl⟩:=r;exact call_range_1 (qam I1 (by omega) (by omega) q1 q2 (by simpa using q))
def qlo (wi:TI) (g:TG) (tb:TS):TS:=λD σ H=>wi σ H λJ H1=>∃ W:Nat->Nat->St->Hp->Prop,(∃ m,W 0 m σ H1)/\∀ i m σ H,W i m σ H ->
 (J.stop i H/\D.nx σ H)\/(J.go i H/\∃ N:St->Hp->Prop,(∀ σ' H',N σ' H'->∃ m',m'<m/\W (i+1) m' σ' H')/\∀ x H',J.yld i H x H'->g x σ H' λσ2 H2=>tb { D with nx:=N,ct:=N,bk:=D.nx } σ2 H2)
def WQ (fp:List Addr) (h:Heap):List (Addr×Obj):=fp.filterMap λb=>(h.get? b).map λo=>(b,o)
def ZT {fp:List Addr} {h:Heap} {b:Addr} {o:Obj} (hb:b∈fp) (e:h.get? b=some o):(b,o)∈WQ fp h:=List.mem_filterMap.mpr ⟨b,hb,by rw [e];rfl⟩
def LY {fp:List Addr} {h:Heap} {p:Addr×Obj} (hp:p∈WQ fp h):p.1∈fp/\h.get? p.1=some p.2:=by
 obtain ⟨b,hb,e⟩:=List.mem_filterMap.mp hp;cases q:h.get? b with
 |none=>rw [q] at e;cases e
 |some o=>
  rw [q] at e;have e':(b,o)=p:=Option.some.inj e;subst e';exact ⟨hb,q⟩
def Inv.pinned {pins:List (Addr×Obj)} {σ:St} {H:Hp} {s:Shared} {fp:List Addr} (I:Inv X pins σ H s) (hf:∀ b∈fp,NK X pins H b) (ho:∀ b∈fp,∃ o,s.heap.get? b=some o/\∀ v,o.data≠.cell v):Inv X (pins++WQ fp s.heap) σ H s:=
 I.pins_of λp hp=>(List.mem_append.mp hp).elim (λz=>I.pin p (mem_append_right _ z)) λz=>by
  obtain ⟨hb,e⟩:=LY z;obtain ⟨f0,f1,f2,_⟩:=hf p.1 hb;obtain ⟨o,e',d⟩:=ho p.1 hb;rw [e] at e';cases e';exact ⟨e,f0,f1,f2,d⟩
def Inv.unpinned {pins pl:List (Addr×Obj)} {σ:St} {H:Hp} {s:Shared} (I:Inv X (pins++pl) σ H s):Inv X pins σ H s:=I.pins_of λp hp=>I.pin p (mem_append_right _ (List.mem_append_left _ hp))
def qhT {iter:Expr} {body:List Stmt} {wi:TI} {g:TG} {tb:TS} {pos:Pos} (hp:PassesOwn (model X.prog X.w) X.A X.env X.xe) (hc:X.calm=true) (hi:PI X tg iter wi) (hg:PG X tg g) (hb:PSs X body tb)
  (hs:∀ x,foldedSetIterable iter X.env x=pure x:=by intro _;rfl):PS X (.For tg iter body [] pos) (qlo wi g tb):=by
 intro pins s σ H D I h;refine wpAny_For (thn (hi pins s σ H _ I h) λv s1 h1=>thn h1 λitv s2 h2=>?_) hs;obtain ⟨it,fp,tn,J,H2,e,I2,T,st2,f2,W,⟨m0,w0⟩,turn⟩:=h2;subst e
 -- what stays true of the iterator's objects through the loop
 have stat:∀ {H':Hp},(∀ b∈fp,H' b=none)->∀ b∈fp,NK X pins H' b:=λhn b hb=>⟨hn b hb,(f2 b hb).2⟩
 refine codeAny_forLoop_any (λn s'=>∃ i σ' H',Inv X pins σ' H' s'/\tn i s'.heap/\(∀ b∈fp,H' b=none)/\W i n σ' H') ?_ m0 ⟨0,σ,H2,I2,st2,λb hb=>(f2 b hb).1,w0⟩;rintro n s3 ⟨i,σ3,H3,I3,st3,fr3,w3⟩;rcases turn i n σ3 H3 w3 with ⟨stop,qn⟩|⟨go,N,hN,step⟩
 ·refine wpAny_passesOwn hp (thn (T.done X rfl rfl rfl hc i pins s3 σ3 H3 X.xe I3 (stat fr3) st3 stop) λr s4 ⟨hr,I4⟩=>?_);subst hr;exact wpAny_execs_nil ⟨σ3,H3,I4,qn⟩
 ·refine wpAny_passesOwn hp (thn (T.item X rfl rfl rfl hc i pins s3 σ3 H3 X.xe I3 (stat fr3) st3 go) λr s4 ⟨u,hr,h4⟩=>?_);subst hr;refine wpAny_passesOwn hp (thn h4 λ_ s5 ⟨x,H5,I5,r5,y5,st5,fr5⟩=>?_);have I5':=I5.pinned (stat fr5) (T.obj _ _ st5);refine wpAny_passesOwn hp (thn (hg _ s5 σ3 H5 x u _ I5' r5 (step x H5 y5)) λ_ s6 ⟨σ6,H6,I6,q6⟩=>?_);refine wpAny_passesOwn hp (thn (hb _ s6 σ6 H6 _ I6 q6) λf s7 q7=>?_);have again:∀ {σ7:St} {H7:Hp},Inv X (pins++WQ fp s5.heap) σ7 H7 s7->N σ7 H7->∃ m,m<n/\∃ i σ' H',Inv X pins σ' H' s7/\tn i s7.heap/\(∀ b∈fp,H' b=none)/\W i m σ' H':=λ{σ7 H7} I7 n7=>by
   obtain ⟨m',hm,w7⟩:=hN σ7 H7 n7;refine ⟨m',hm,i+1,σ7,H7,I7.unpinned,T.keep _ _ _ st5 λb hb o e=>(I7.pin (b,o) (mem_append_right _ (mem_append_right _ (ZT hb e)))).1,λb hb=>?_,w7⟩;obtain ⟨o,e,d⟩:=T.obj _ _ st5 b hb;exact (I7.pin (b,o) (mem_append_right _ (mem_append_right _ (ZT hb e)))).2.1
  cases f with
  |next=>obtain ⟨σ7,H7,I7,n7⟩:=q7;exact again I7 n7
  |cont=>obtain ⟨σ7,H7,I7,n7⟩:=q7;exact again I7 n7
  |brk=>obtain ⟨σ7,H7,I7,q7⟩:=q7;exact ⟨σ7,H7,I7.unpinned,q7⟩
  |ret v=>obtain ⟨x7,σ7,H7,I7,r7,q7⟩:=q7;exact ⟨x7,σ7,H7,I7.unpinned,r7,q7⟩
end
abbrev R2:=V->V->Hp->VK->Prop
def OpR (X:Cx) (f:Value->Value->Sem Value) (r:R2):Prop:=
 ∀ (pins:List (Addr×Obj)) (s:Shared) (σ:St) (H:Hp) (x y:V) (v u:Value) (Q:VK),Inv X pins σ H s->jr x v->jr y u->r x y H Q ->
  wpAny (model X.prog X.w) X.A (f v u) (EP X pins σ Q) X.xe s
def ZY (X:Cx) (f:Value) (r:List V->Hp->VK->Prop):Prop:=
 ∀ (pins:List (Addr×Obj)) (s:Shared) (σ:St) (H:Hp) (xs:List V) (us:List Value) (Q:VK),Inv X pins σ H s->zt xs us->r xs H Q ->
  wpAny (model X.prog X.w) X.A (call f us) (EP X pins σ Q) X.xe s
def tOp (r:R2) (ta tb:TE):TE:=λσ H Q=>ta σ H λx H1=>tb σ H1 λy H2=>r x y H2 Q
def rI (C:Int->Int->Prop) (g:Int->Int->V):R2:=λx y H Q=>∃ i j,x=.int i/\y=.int j/\C i j/\Q (g i j) H
def rI0 (g:Int->Int->V):R2:=λx y H Q=>∃ i j,x=.int i/\y=.int j/\Q (g i j) H
section
variable {X:Cx} {a b c:Expr} {ta tb tc:TE} {pos:Pos}
def qi5 (ha:PE X a ta) (hb:PE X b tb) {pins:List (Addr×Obj)} {s:Shared} {σ:St} {H:Hp} {R:V->V->Hp->Prop} (I:Inv X pins σ H s)
  (h:ta σ H λx H1=>tb σ H1 λy H2=>R x y H2) {Q:Value->Shared->Prop} {f:Value->Value->Sem Value}
  (hf:∀ v u s2 x y H2,Inv X pins σ H2 s2->jr x v->jr y u->R x y H2->wpAny (model X.prog X.w) X.A (f v u) Q X.xe s2) :
  wpAny (model X.prog X.w) X.A (eval a X.env) (λv s₁=>wpAny (model X.prog X.w) X.A (eval b X.env) (λu s₂=>wpAny (model X.prog X.w) X.A (f v u) Q X.xe s₂) X.xe s₁) X.xe s:=by
 refine thn (ha pins s σ H _ I h) λv s1 ⟨x,H1,I1,r1,q1⟩=>?_;refine thn (hb pins s1 σ H1 _ I1 q1) λu s2 ⟨y,H2,I2,r2,q2⟩=>?_;exact hf v u s2 x y H2 I2 r1 r2 q2
def qjg {op:Operator} {r:R2} (ho:OpR X (binaryOp op) r) (ha:PE X a ta) (hb:PE X b tb):PE X (.BinOp a op b pos) (tOp r ta tb):=by
 intro pins s σ H Q I h;exact wpAny_BinOp (qi5 ha hb I h λv u s2 x y H2 I2 rx ry q=>ho pins s2 σ H2 x y v u Q I2 rx ry q)
def opI {f:Value->Value->Sem Value} {C:Int->Int->Prop} {g:Int->Int->Int}
  (rule:∀ (i j:Int) (t u:Tok) (s:Shared) (Q:Value->Shared->Prop) (E:Value->Shared->Prop),C i j->Q (.int (g i j) s.toks) { s with toks:=s.toks+1 }->wpAny (model X.prog X.w) X.A (f (.int i t) (.int j u)) Q E s) :
  OpR X f (rI C λi j=>.int (g i j)):=by
 intro pins s σ H x y v u Q I rx ry h;obtain ⟨i,j,rfl,rfl,hc,q⟩:=h;obtain ⟨t,rfl⟩:=rx;obtain ⟨t',rfl⟩:=ry;exact rule i j t t' s _ _ hc ⟨.int (g i j),H,I.tok _,⟨_,rfl⟩,q⟩
def qj2 {f:Value->Value->Sem Value} {g:Int->Int->Int}
  (rule:∀ (i j:Int) (t u:Tok) (s:Shared) (Q:Value->Shared->Prop) (E:Value->Shared->Prop),Q (.int (g i j) s.toks) { s with toks:=s.toks+1 }->wpAny (model X.prog X.w) X.A (f (.int i t) (.int j u)) Q E s) :
  OpR X f (rI0 λi j=>.int (g i j)):=by
 intro pins s σ H x y v u Q I rx ry h;obtain ⟨i,j,rfl,rfl,q⟩:=h;obtain ⟨t,rfl⟩:=rx;obtain ⟨t',rfl⟩:=ry;exact rule i j t t' s _ _ ⟨.int (g i j),H,I.tok _,⟨_,rfl⟩,q⟩
def qiW {f:Value->Value->Sem Value} {g:Int->Int->Bool}
  (rule:∀ (i j:Int) (t u:Tok) (s:Shared) (Q:Value->Shared->Prop) (E:Value->Shared->Prop),Q (.bool (g i j)) s->wpAny (model X.prog X.w) X.A (f (.int i t) (.int j u)) Q E s) :
  OpR X f (rI0 λi j=>.bl (g i j)):=by
 intro pins s σ H x y v u Q I rx ry h;obtain ⟨i,j,rfl,rfl,q⟩:=h;obtain ⟨t,rfl⟩:=rx;obtain ⟨t',rfl⟩:=ry;exact rule i j t t' s _ _ ⟨.bl (g i j),H,I,rfl,q⟩
def T3 (i j:Int):Prop:=0<j/\j<1073741824
def ED (i j:Int):Prop:=0<=j/\j<=1000000/\i.natAbs<2 ^ 64
def YA (i j:Int):Prop:=(-(2 ^ 64)<i/\i<2 ^ 64)\/(-(2 ^ 64)<j/\j<2 ^ 64)
def YA.ok {i j:Int} (h:YA i j):IntMulOk i j:=by
 rcases h with ⟨h1,h2⟩|⟨h1,h2⟩
 ·exact .of_left (intBits_le_64 h1 h2)
 ·exact .of_right (intBits_le_64 h1 h2)
def S0 (k:Nat):(0:Int)<=2 ^ k:=by
 rw [two_pow_cast];exact Int.natCast_nonneg _
def qer:OpR X (binaryOp .Add) (rI0 λi j=>.int (i+j)):=qj2 λ_ _ _ _ _ _ _ q=>add_int q
def qho:OpR X (binaryOp .Mult) (rI YA λi j=>.int (i*j)):=opI λ_ _ _ _ _ _ _ hc q=>mul_int q hc.ok
def qd6:OpR X (binaryOp .FloorDiv) (rI T3 λi j=>.int (i/j)):=opI λi j _ _ _ _ _ hc q=>by
 have h1:(0:Int)<j:=hc.1;have h2:j<1073741824:=hc.2;exact floordiv_int (by omega) (by rw [Int.fdiv_eq_ediv_of_nonneg i (by omega)];exact q) (.inl (PyProof.noPylong_small (by omega)))
def qg0:OpR X (binaryOp .Mod) (rI (λ_ j=>0<j) λi j=>.int (i%j)):=opI λi j _ _ _ _ _ hc q=>by
 have h1:(0:Int)<j:=hc;exact mod_int' (by omega) (by rw [Int.fmod_eq_emod_of_nonneg i (by omega)];exact q)
def qh5:OpR X (binaryOp .Pow) (rI ED λi j=>.int (i ^ j.toNat)):=opI λ_ _ _ _ _ _ _ hc q=>pow_int_small hc.1 hc.2.1 hc.2.2 q
def qgm:OpR X (binaryOp .LShift) (rI ED λi j=>.int (i*2 ^ j.toNat)):=opI λ_ _ _ _ _ _ _ hc q=>lshift_int_small hc.1 hc.2.1 hc.2.2 q
def qeC:OpR X (binaryOp .RShift) (rI (λ_ j=>0<=j) λi j=>.int (i/2 ^ j.toNat)):=opI λi j _ _ _ _ _ hc q=>
 rshift_int hc (by rw [Int.fdiv_eq_ediv_of_nonneg i (S0 _)];exact q)
def qim:OpR X (binaryOp .BitAnd) (rI0 λi j=>.int (Builtin.bitAnd i j)):=qj2 λ_ _ _ _ _ _ _ q=>and_int q
def qg8:OpR X (binaryOp .BitXor) (rI0 λi j=>.int (Builtin.bitXor i j)):=qj2 λ_ _ _ _ _ _ _ q=>xor_int q
end
def qj3:V->V->Bool
 |.non,.non=>true|.non,.int _=>true|.int _,.non=>true|.non,.bl _=>true|.bl _,.non=>true|.non,.str _=>true|.str _,.non=>true
 |.int _,.int _=>true|.bl _,.bl _=>true|.str _,.str _=>true|.byt _,.byt _=>true
 |.int _,.str _=>true|.str _,.int _=>true|.bl _,.str _=>true|.str _,.bl _=>true
 |_,_=>false
def rEq:R2:=λx y H Q=>qj3 x y=true/\Q (.bl (decide (x=y))) H
def rNe:R2:=λx y H Q=>qj3 x y=true/\Q (.bl (!decide (x=y))) H
def K0 {i j:Int}:decide (V.int i=V.int j)=(i==j):=by
 rw [Bool.eq_iff_iff];simp
def qcm {i j:Bool}:decide (V.bl i=V.bl j)=(i==j):=by
 rw [Bool.eq_iff_iff];simp
def L6 {i j:Str}:decide (V.str i=V.str j)=(i==j):=by
 rw [Bool.eq_iff_iff];simp
def NC {i j:Array UInt8}:decide (V.byt i=V.byt j)=(i.toList==j.toList):=by
 rw [Bool.eq_iff_iff];cases i;cases j;simp
section
variable {X:Cx} {a b c:Expr} {ta tb tc:TE} {pos:Pos}
def qH {pins:List (Addr×Obj)} {σ:St} {H:Hp} {s:Shared} {Q:VK} {k k':Bool} (I:Inv X pins σ H s) (q:Q (.bl k) H) (e:k=k'):EP X pins σ Q (.bool k') s:=by
 subst e;exact ⟨.bl k,H,I,rfl,q⟩
def qjl:OpR X (compareOp .Eq) rEq:=by
 intro pins s σ H x y v u Q I rx ry h;obtain ⟨hs,q⟩:=h;cases x with
 |non=>
  cases rx;cases y with
  |non=>cases ry;exact PySem.EqNone.eq_none_none (qH I q (by simp))
  |bl j=>cases ry;exact PySem.EqNone.eq_none_bool (qH I q (by simp))
  |int j=>obtain ⟨t',rfl⟩:=ry;exact PySem.EqNone.eq_none_int (qH I q (by simp))
  |str j=>obtain ⟨t',rfl⟩:=ry;exact PySem.EqNone.eq_none_str (qH I q (by simp))
  |_=>exact absurd (show false=true from hs) Bool.false_ne_true
 |bl i=>
  cases rx;cases y with
  |non=>cases ry;exact PySem.EqNone.eq_bool_none (qH I q (by simp))
  |bl j=>cases ry;exact eq_bool (qH I q qcm)
  |str j=>obtain ⟨t',rfl⟩:=ry;exact PySem.EqMixed.eq_bool_str (qH I q (by simp))
  |_=>exact absurd (show false=true from hs) Bool.false_ne_true
 |int i=>
  obtain ⟨t,rfl⟩:=rx;cases y with
  |non=>cases ry;exact PySem.EqNone.eq_int_none (qH I q (by simp))
  |int j=>obtain ⟨t',rfl⟩:=ry;exact eq_int (qH I q K0)
  |str j=>obtain ⟨t',rfl⟩:=ry;exact PySem.EqMixed.eq_int_str (qH I q (by simp))
  |_=>exact absurd (show false=true from hs) Bool.false_ne_true
 |str i=>
  obtain ⟨t,rfl⟩:=rx;cases y with
  |non=>cases ry;exact PySem.EqNone.eq_str_none (qH I q (by simp))
  |bl j=>cases ry;exact PySem.EqMixed.eq_str_bool (qH I q (by simp))
  |int j=>obtain ⟨t',rfl⟩:=ry;exact PySem.EqMixed.eq_str_int (qH I q (by simp))
  |str j=>obtain ⟨t',rfl⟩:=ry;exact eq_str (qH I q L6)
  |_=>exact absurd (show false=true from hs) Bool.false_ne_true
 |byt i=>
  obtain ⟨t,rfl⟩:=rx;cases y with
  |byt j=>obtain ⟨t',rfl⟩:=ry;exact PySem.W.eq_bytes (qH I q NC)
  |_=>exact absurd (show false=true from hs) Bool.false_ne_true
 |_=>cases y<;>exact absurd (show false=true from hs) Bool.false_ne_true
def qky:OpR X (compareOp .NotEq) rNe:=by
 intro pins s σ H x y v u Q I rx ry h;obtain ⟨hs,q⟩:=h;cases x with
 |non=>
  cases rx;cases y with
  |non=>cases ry;exact PySem.EqNone.ne_none_none (qH I q (by simp))
  |bl j=>cases ry;exact PySem.EqNone.ne_none_bool (qH I q (by simp))
  |int j=>obtain ⟨t',rfl⟩:=ry;exact PySem.EqNone.ne_none_int (qH I q (by simp))
  |str j=>obtain ⟨t',rfl⟩:=ry;exact PySem.EqNone.ne_none_str (qH I q (by simp))
  |_=>exact absurd (show false=true from hs) Bool.false_ne_true
 |bl i=>
  cases rx;cases y with
  |non=>cases ry;exact PySem.EqNone.ne_bool_none (qH I q (by simp))
  |bl j=>cases ry;exact ne_bool (qH I q (congrArg not qcm))
  |str j=>obtain ⟨t',rfl⟩:=ry;exact PySem.EqMixed.ne_bool_str (qH I q (by simp))
  |_=>exact absurd (show false=true from hs) Bool.false_ne_true
 |int i=>
  obtain ⟨t,rfl⟩:=rx;cases y with
  |non=>cases ry;exact PySem.EqNone.ne_int_none (qH I q (by simp))
  |int j=>obtain ⟨t',rfl⟩:=ry;exact ne_int (qH I q (congrArg not K0))
  |str j=>obtain ⟨t',rfl⟩:=ry;exact PySem.EqMixed.ne_int_str (qH I q (by simp))
  |_=>exact absurd (show false=true from hs) Bool.false_ne_true
 |str i=>
  obtain ⟨t,rfl⟩:=rx;cases y with
  |non=>cases ry;exact PySem.EqNone.ne_str_none (qH I q (by simp))
  |bl j=>cases ry;exact PySem.EqMixed.ne_str_bool (qH I q (by simp))
  |int j=>obtain ⟨t',rfl⟩:=ry;exact PySem.EqMixed.ne_str_int (qH I q (by simp))
  |str j=>obtain ⟨t',rfl⟩:=ry;exact ne_str (qH I q (congrArg not L6))
  |_=>exact absurd (show false=true from hs) Bool.false_ne_true
 |byt i=>
  obtain ⟨t,rfl⟩:=rx;cases y with
  |byt j=>obtain ⟨t',rfl⟩:=ry;exact PySem.W.ne_bytes (qH I q (congrArg not NC))
  |_=>exact absurd (show false=true from hs) Bool.false_ne_true
 |_=>cases y<;>exact absurd (show false=true from hs) Bool.false_ne_true
def qdb:OpR X (compareOp .Lt) (rI0 λi j=>.bl (decide (i<j))):=qiW λ_ _ _ _ _ _ _ q=>lt_int q
def qdf:OpR X (compareOp .LtE) (rI0 λi j=>.bl (decide (i<=j))):=qiW λ_ _ _ _ _ _ _ q=>le_int q
def qhA:OpR X (compareOp .Gt) (rI0 λi j=>.bl (decide (j<i))):=qiW λ_ _ _ _ _ _ _ q=>gt_int q
def qc7:OpR X (compareOp .GtE) (rI0 λi j=>.bl (decide (j<=i))):=qiW λ_ _ _ _ _ _ _ q=>ge_int q
def LN:OpR X (compareOp .Is) (λx y H Q=>y=.non/\Q (.bl (decide (x=.non))) H):=by
 intro pins s σ H x y v u Q I rx ry h;obtain ⟨rfl,q⟩:=h;cases ry;refine is_none_gen (qH I q ?_);cases x<;>first
  | (cases rx;rfl)
  | (obtain ⟨t,rfl⟩:=rx;rfl)
def OpR.or {f:Value->Value->Sem Value} {r r':R2} (h:OpR X f r) (h':OpR X f r'):OpR X f (λx y H Q=>r x y H Q\/r' x y H Q):=by
 intro pins s σ H x y v u Q I rx ry q;rcases q with q|q
 ·exact h pins s σ H x y v u Q I rx ry q
 ·exact h' pins s σ H x y v u Q I rx ry q
def qv (b:Expr) {op:CmpOp} (h:op≠.In:=by decide) (h2:op≠.NotIn:=by decide):behindInMarks op b=false:=by
 have e1:(op==CmpOp.In)=false:=by cases op<;>first|rfl|exact absurd rfl h
 have e2:(op==CmpOp.NotIn)=false:=by cases op<;>first|rfl|exact absurd rfl h2
 cases b<;>simp [behindInMarks,e1,e2]
def qcF {op:CmpOp} {r:R2} (ho:OpR X (compareOp op) r) (ha:PE X a ta) (hb:PE X b tb) (hm:behindInMarks op b=false):PE X (.Compare a [op] [b] pos) (tOp r ta tb):=by
 intro pins s σ H Q I h;exact wpAny_Compare1 (qi5 ha hb I h λv u s2 x y H2 I2 rx ry q=>ho pins s2 σ H2 x y v u Q I2 rx ry q) hm
def qha (t:TE):TT:=λσ H Q=>t σ H λx H'=>∃ k,x=.bl k/\Q k H'
def qdP {op:CmpOp} {r:R2} (ho:OpR X (compareOp op) r) (ha:PE X a ta) (hb:PE X b tb) (hm:behindInMarks op b=false):PT X (.Compare a [op] [b] pos) (qha (tOp r ta tb)):=by
 intro pins s σ H Q I h;refine wpAny_isTrue_Compare1 (thn (ha pins s σ H _ I h) λv s1 ⟨x,H1,I1,r1,q1⟩=>thn (hb pins s1 σ H1 _ I1 q1) λu s2 ⟨y,H2,I2,r2,q2⟩=>
  thn (ho pins s2 σ H2 x y v u _ I2 r1 r2 q2) λc s3 ⟨z,H3,I3,r3,k,e,q3⟩=>?_) hm
 subst e;cases r3;exact wpAny_truthy_bool ⟨H3,I3,q3⟩
def qa9 (r r':R2) (ta tb tc:TE):TE:=λσ H Q=>ta σ H λx H1=>tb σ H1 λy H2=>r x y H2 λz H3=>∃ k,z=.bl k /\
 (if k=true then tc σ H3 λw' H4=>r' y w' H4 Q else Q (.bl false) H3)
def qak {op op':CmpOp} {r r':R2} (ho:OpR X (compareOp op) r) (ho':OpR X (compareOp op') r') (ha:PE X a ta) (hb:PE X b tb) (hc:PE X c tc)
  (hm:lastMarks [op,op'] [b,c]=false:=by with_unfolding_all rfl):PE X (.Compare a [op,op'] [b,c] pos) (qa9 r r' ta tb tc):=by
 intro pins s σ H Q I h;refine Compare_chain (thn (ha pins s σ H _ I h) λv s1 ⟨x,H1,I1,r1,q1⟩=>chain_link (thn (hb pins s1 σ H1 _ I1 q1) λu s2 ⟨y,H2,I2,r2,q2⟩=>
  thn (ho pins s2 σ H2 x y v u _ I2 r1 r2 q2) λd s3 ⟨z,H3,I3,r3,k,e,q3⟩=>?_)) hm
 subst e;cases r3;refine wpAny_truthy_bool ?_;cases k with
 |false=>exact ite_ff ⟨.bl false,H3,I3,rfl,q3⟩
 |true=>exact ite_tt (chain_last (thn (hc pins s3 σ H3 _ I3 q3) λw' s4 ⟨z',H4,I4,r4,q4⟩=>ho' pins s4 σ H4 y z' u w' Q I4 r2 r4 q4))
def XZ:(sizeLine:Nat)<2 ^ 63:=by rw [sizeLine_eq];decide
def W9 {x:V} {us:List Value} (r:zt [x] us):∃ u,us=[u]/\jr x u:=by
 cases r with
 |cons r1 r2=>cases r2;exact ⟨_,rfl,r1⟩
def MZ {x y:V} {us:List Value} (r:zt [x,y] us):∃ u w',us=[u,w']/\jr x u/\jr y w':=by
 cases r with
 |cons r1 r2=>
  cases r2 with
  |cons r3 r4=>cases r4;exact ⟨_,_,rfl,r1,r3⟩
def RI:ZY X (.builtin "abs") (λxs H Q=>∃ i,xs=[.int i]/\Q (.int (if i<0 then -i else i)) H):=by
 intro pins s σ H xs us Q I r h;obtain ⟨i,rfl,q⟩:=h;obtain ⟨u,rfl,t,rfl⟩:=W9 r;exact call_abs_int λu tk=>⟨.int (if i<0 then -i else i),H,I.tok _,⟨_,rfl⟩,q⟩
def M3 (hc:X.calm=true):ZY X (.builtin "min") (λxs H Q=>∃ i j,xs=[.int i,.int j]/\Q (.int (if j<i then j else i)) H):=by
 intro pins s σ H xs us Q I r h;obtain ⟨i,j,rfl,q⟩:=h;obtain ⟨u,w',rfl,⟨t,rfl⟩,⟨t',rfl⟩⟩:=MZ r;refine min_two_ints (I.ok.hd hc) λh' tk k=>⟨_,H,I.kept k,?_,q⟩
 by_cases hj:j<i
 ·rw [if_pos hj,if_pos hj];exact ⟨_,rfl⟩
 ·rw [if_neg hj,if_neg hj];exact ⟨_,rfl⟩
def qkY (K:Frg) (x:V) (H:Hp) (n:Nat):Prop:=
 match x with
 |.str y=>y.length<=sizeLine/\n=y.length
 |.byt y=>y.size<=sizeLine/\n=y.size
 |.ref p=>(∃ xs,SqL K H p xs/\n=xs.length)\/∃ xs,SqT K H p xs/\n=xs.length
 |_=>False
def zo:ZY X (.builtin "len") (λxs H Q=>∃ x n,xs=[x]/\qkY X.K x H n/\Q (.int n) H):=by
 intro pins s σ H xs us Q I r h;obtain ⟨x,n,rfl,e,q⟩:=h;obtain ⟨u,rfl,rx⟩:=W9 r;have hl:=XZ;have hs:sizeLine=16777216:=sizeLine_eq;cases x with
 |str y=>
  obtain ⟨t,rfl⟩:=rx;obtain ⟨hy,e'⟩:y.length<=sizeLine/\n=y.length:=e;subst e';exact len_str (by omega) ⟨.int _,H,I.tok _,⟨_,rfl⟩,q⟩
 |byt y=>
  obtain ⟨t,rfl⟩:=rx;obtain ⟨hy,e'⟩:y.size<=sizeLine/\n=y.size:=e;subst e';exact PySem.W.len_bytes (by omega) ⟨.int _,H,I.tok _,⟨_,rfl⟩,q⟩
 |ref p=>
  cases rx;have e':(∃ xs,SqL X.K H p xs/\n=xs.length)\/∃ xs,SqT X.K H p xs/\n=xs.length:=e;rcases e' with ⟨xs,hx,e'⟩|⟨xs,hx,e'⟩
  ·subst e';obtain ⟨its,r',pl,hz⟩:=I.list hx;have hlen:=r'.length;exact Calls.call_len_list pl.isList (by simp only [size_toArray];omega) ⟨.int xs.length,H,I.tok _,⟨_,by simp only [size_toArray];rw [hlen]⟩,q⟩
  ·subst e';obtain ⟨its,r',pl,hz⟩:=I.tuple hx;have hlen:=r'.length;exact len_tuple pl (by simp only [size_toArray];omega) ⟨.int xs.length,H,I.tok _,⟨_,by simp only [size_toArray];rw [hlen]⟩,q⟩
 |_=>exact (show False from e).elim
end
section
variable {prog:Program} {w:World} {A:Around} {E:Value->Shared->Prop} {s:Shared} {K:Frg} {x dx C f:Addr} {mA:Str->Option Value} {name:Str} {v:Value}
end
section
variable {P:Program} {w:World} {H H':Hp} {h h':Heap} {a C dx:Addr} {fs fs':List (Str×V)}
end
section
variable {X:Cx} {pins:List (Addr×Obj)} {σ:St} {H:Hp} {s:Shared} {a C dx:Addr} {fs:List (Str×V)} {f:Str} {v:V} {A:Around} {E:Value->Shared->Prop}
end
section
variable {X:Cx} {o e value:Expr} {f:Str} {pos pos' tpos:Pos} {ta tv:TE}
end
section
variable {X:Cx} {pins:List (Addr×Obj)} {σ:St} {H:Hp} {s:Shared} {A:Around} {E:Value->Shared->Prop} {Q:Value->Shared->Prop} {c:Value} {b:Bool}
end
structure Room (k:Nat) (A:Around):Prop where
 hd:A.handled=none
 dp:A.depth+3*k+5<recursionLimit
 un:A.units+16*k+200<cLine
 gd:A.guards=some []
def Room.mono {j k:Nat} {A:Around} (r:Room k A) (h:j<=k):Room j A:=⟨r.hd,by have:=r.dp;omega,by have:=r.un;omega,r.gd⟩
def Room.deeper {k:Nat} {A:Around} (r:Room (k+1) A) (env:Env):Room k (A.deeper env):=
 ⟨r.hd,by have:=r.dp;show A.depth+1+3*k+5<_;omega,by have:=r.un;show A.units+3+16*k+200<_;omega,r.gd⟩
def Room.in1 {k:Nat} {A:Around} (r:Room (k+1) A):Room k A.in1:=
 ⟨r.hd,by have:=r.dp;show A.depth+3*k+5<_;omega,by have:=r.un;show A.units+1+16*k+200<_;omega,r.gd⟩
def Room.depth {k:Nat} {A:Around} (r:Room k A):A.depth<recursionLimit:=by have:=r.dp;omega
def Room.units {k:Nat} {A:Around} (r:Room k A):A.units+64<cLine:=by have:=r.un;omega
def qlC:TA:=λ_ H Q=>Q [] H
def qjq (ta:TE) (tr:TA):TA:=λσ H Q=>ta σ H λx H1=>tr σ H1 λxs H2=>Q (x::xs) H2
section
variable {X:Cx} {e:Expr} {es:List Expr} {te:TE} {t:TA} {pos:Pos}
def CW:PA X [] qlC:=λ_ _ _ _ H Q I h=>Calls.spliced_nil ⟨[],H,I,.nil,h⟩
def Z7 (ha:PE X e te) (hr:PA X es t) (hs:starEach (e::es) X.env=(false,eval e X.env)::starEach es X.env:=by rfl):PA X (e::es) (qjq te t):=by
 intro pos pins s σ H Q I h;rw [hs];show wpAny _ _ (spliced ((false,eval e X.env)::backTo pos (starEach es X.env))) _ _ s;refine Calls.spliced_cons (thn (ha pins s σ H _ I h) λu s1 ⟨x,H1,I1,r1,q1⟩=>?_);exact thn (hr pos pins s1 σ H1 _ I1 q1) λus s2 ⟨xs,H2,I2,r2,q2⟩=>⟨x::xs,H2,I2,.cons r1 r2,q2⟩
def qln (t:TA):TE:=λσ H Q=>t σ H λxs H1=>xs.length<=sizeLine/\∀ p,H1 p=none->Q (.ref p) (upd H1 p (.tup xs))
def qlL (t:TA):TE:=λσ H Q=>t σ H λxs H1=>xs.length<=sizeLine/\∀ p,H1 p=none->Q (.ref p) (upd H1 p (.lst xs))
def qbG {x1} (h:PA X es t):PE X (.Tuple es x1 pos) (qln t):=by
 intro pins s σ H Q I hq;refine wpAny_Tuple_spliced (thn (h pos pins s σ H _ I hq) λus s1 ⟨xs,H1,I1,r,z,q⟩=>⟨by rw [← r.length];exact z,?_⟩);have hf:H1 s1.heap.objs.size=none:=I1.hok.fresh (Nat.le_refl _);refine ⟨.ref s1.heap.objs.size,upd H1 s1.heap.objs.size (.tup xs),I1.laid (t':=s1.toks) (λb u e=>Heap.get?_push_of_some _ e) (Nat.le_refl _) ?_,rfl,q _ hf⟩;exact ⟨z,us,r,⟨_,Heap.get?_push_size _ rfl,rfl,_,rfl⟩⟩
def qhi (h:PA X es t):PE X (.List es pos) (qlL t):=by
 intro pins s σ H Q I hq;refine wpAny_List_spliced (thn (h pos pins s σ H _ I hq) λus s1 ⟨xs,H1,I1,r,z,q⟩=>⟨by rw [← r.length];exact z,?_⟩);have hf:H1 s1.heap.objs.size=none:=I1.hok.fresh (Nat.le_refl _);refine ⟨.ref s1.heap.objs.size,upd H1 s1.heap.objs.size (.lst xs),I1.laid (t':=s1.toks) (λb u e=>Heap.get?_push_of_some _ e) (Nat.le_refl _) ?_,rfl,q _ hf⟩;exact ⟨z,us,0,r,Heap.get?_push_size _ rfl⟩
end
abbrev Sp:=List V->Hp->VK->XK->Prop
abbrev CXT:=List Env->Hp->Shared->XK->Value->Shared->Prop
structure Env0 (P:Program) (w:World) (K:Frg) (mg:Str->Option Value) (base:Heap) (A:Around) (outer:List Env) (s:Shared) (H:Hp):Prop where
 frames:A.frames=some outer
 mod:Mod K mg base
 bs:∀ b o,base.get? b=some o->s.heap.get? b=some o/\H b=none
 bsz:base.objs.size<=s.heap.objs.size
 funs:s.heap.FunFrames base outer
 frf:∀ b∈frs outer,H b=none
 hok:HOk P w H s.heap
 bare:AllBare s.gens
def CE (outer:List Env) (P:Program) (w:World) (H:Hp) (s:Shared) (Q:VK) (u:Value) (s':Shared):Prop:=
 ∃ v H',s'.os=s.os/\AllBare s'.gens/\Un (frs outer) [] H H' s.heap s'.heap/\HOk P w H' s'.heap/\jr v u/\Q v H'
def CR (CX:CXT) (outer:List Env) (P:Program) (w:World) (H:Hp) (s:Shared) (Q:VK) (E:XK) (r:Result) (s':Shared):Prop:=
 match r with
 |.ok (.ret u)=>CE outer P w H s Q u s'
 |.ok _=>False
 |.error e=>CX outer H s E e s'
structure FnOk (P:Program) (w:World) (K:Frg) (mg:Str->Option Value) (base:Heap) (CX:CXT) (k:Nat) (f:Addr) (fd:FuncData) (ps:List Str) (sp:Sp):Prop where
 len:∀ vs H Q E,sp vs H Q E->vs.length=ps.length
 run:∀ (A:Around) (outer:List Env) (s:Shared) (H:Hp) (args:Args) (us:List Value) (vs:List V) (Q:VK) (E:XK),Room k A->Env0 P w K mg base A outer s H->BindsTo s fd args (ps.zip us)->zt vs us->sp vs H Q E ->
  codeAny (model P w) A (.call (.ref f) args) (CR CX outer P w H s Q E) s
def FnOk.mono {P:Program} {w:World} {K:Frg} {mg:Str->Option Value} {base:Heap} {CX:CXT} {j k:Nat} {f:Addr} {fd:FuncData} {ps:List Str} {sp:Sp} (F:FnOk P w K mg base CX j f fd ps sp) (h:j<=k) :
  FnOk P w K mg base CX k f fd ps sp:=⟨F.len,λA outer s H args us vs Q E hr=>F.run A outer s H args us vs Q E (hr.mono h)⟩
def FnOk.imp {P:Program} {w:World} {K:Frg} {mg:Str->Option Value} {base:Heap} {CX:CXT} {k:Nat} {f:Addr} {fd:FuncData} {ps:List Str} {sp sp':Sp} (F:FnOk P w K mg base CX k f fd ps sp)
  (h:∀ vs H Q E,sp' vs H Q E->sp vs H Q E):FnOk P w K mg base CX k f fd ps sp':=
 ⟨λvs H Q E q=>F.len vs H Q E (h _ _ _ _ q),λA outer s H args us vs Q E hr he hb hv hs=>F.run A outer s H args us vs Q E hr he hb hv (h _ _ _ _ hs)⟩
def Env0.in1 {P:Program} {w:World} {K:Frg} {mg:Str->Option Value} {base:Heap} {A:Around} {outer:List Env} {s:Shared} {H:Hp} (e:Env0 P w K mg base A outer s H) :
  Env0 P w K mg base A.in1 outer s H:=⟨e.frames,e.mod,e.bs,e.bsz,e.funs,e.frf,e.hok,e.bare⟩
section
variable {X:Cx} {pins:List (Addr×Obj)} {σ:St} {H:Hp} {s s':Shared}
def Inv.env0 (I:Inv X pins σ H s):Env0 X.prog X.w X.K X.mg X.base X.A X.stack s H:=
 ⟨I.ok.frames,I.ok.mod,I.bs,Nat.le_trans I.ok.bsz I.sz,I.stack,I.stkFree,I.hok,I.bare⟩
def Inv.after {Q:VK} {u:Value} (I:Inv X pins σ H s) (h:CE X.stack X.prog X.w H s Q u s'):EP X pins σ Q u s':=by
 obtain ⟨v,H',os,bare,un,hok,r,q⟩:=h;obtain ⟨hh,g,d,t,os'⟩:=s';obtain rfl:os'=s.os:=os;exact ⟨v,H',I.call (h':=hh) (g':=g) (d':=d) (t':=t) (ch:=[]) un hok bare (λb z=>absurd z (by simp)),r,q⟩
end
def qkz (sp:Sp) (dvs:List V) (E:XK) (t:TA):TE:=λσ H Q=>t σ H λvs H1=>sp (vs++dvs) H1 Q E
def zn (K:Frg) (fd:FuncData) (ps:List Str) (ds:List Value):Prop:=
 ∀ (s:Shared) (us:List Value),K.In s.heap->(us++ds).length=ps.length->BindsTo s fd ⟨us,[]⟩ (ps.zip (us++ds))
def zn.all {K:Frg} {fd:FuncData} {ps:List Str} (h:∀ us:List Value,us.length=ps.length->bindArgs fd ⟨us,[]⟩=pure (ps.zip us)):zn K fd ps []:=λs us _ hl=>by
 rw [List.append_nil] at hl ⊢;exact .of_eq (h us hl)
def NE (CX:CXT) (X:Cx) (E:XK):Prop:=∀ (pins:List (Addr×Obj)) (σ:St) (H:Hp) (s:Shared) (e:Value) (s':Shared),Inv X pins σ H s->CX X.stack H s E e s'->X.xe e s'
section
variable {X:Cx} {CX:CXT} {k:Nat} {f C:Addr} {fd:FuncData} {ps:List Str} {sp:Sp} {dvs:List V} {ds:List Value} {E:XK} {x m:Str} {p pos apos:Pos} {e o:Expr} {es:List Expr} {ta:TE} {t:TA}
def qfa {pins:List (Addr×Obj)} {σ:St} {H:Hp} {s:Shared} {Q:VK} {us:List Value} {vs:List V} (F:FnOk X.prog X.w X.K X.mg X.base CX k f fd ps sp) (hr:Room k X.A) (hb:zn X.K fd ps ds) (hd:zt dvs ds) (hx:NE CX X E)
  (I:Inv X pins σ H s) (r:zt vs us) (h:sp (vs++dvs) H Q E):wpAny (model X.prog X.w) X.A (call (.ref f) us) (EP X pins σ Q) X.xe s:=by
 have r2:zt (vs++dvs) (us++ds):=r.append hd;have hl:(us++ds).length=ps.length:=by rw [← r2.length];exact F.len _ _ _ _ h
 refine wpAny_call (codeAny_mono (F.run X.A X.stack s H ⟨us,[]⟩ (us++ds) (vs++dvs) Q E hr I.env0 (hb s us I.kIn hl) r2 h) λr s' hq=>?_);cases r with
 |error e=>exact hx pins σ H s e s' I hq
 |ok fl=>
  cases fl with
  |ret u=>exact I.after hq
  |next=>exact False.elim hq
  |brk=>exact False.elim hq
  |cont=>exact False.elim hq
def qdN (F:FnOk X.prog X.w X.K X.mg X.base CX k f fd ps sp) (hr:Room k X.A) (hg:Gl X x) (hm:X.mg x=some (.ref f)) (hk:PySem.W.keepIn X.K (.ref f)=true) (hb:zn X.K fd ps ds) (hd:zt dvs ds) (hx:NE CX X E)
  (ha:PA X (e::es) t) (hdb:(x==("__debug__" : Str))=false:=by decide) (he:starEach (e::es) X.env=(false,eval e X.env)::starEach es X.env:=by rfl) (hpl:(backTo pos (starEach es X.env)).any (·.1)=false:=by rfl) :
  PE X (.Call (.Name x p) (e::es) [] pos) (qkz sp dvs E t):=by
 intro pins s σ H Q I h;refine wpAny_Call_Name_kw (qdt I hg hm ?_ hdb);refine PySem.W.callWith_K (h₀:=X.base) I.ok.mod.kin hk (thn (ha pos pins s σ H _ I h) λus s1 ⟨vs,H1,I1,r,q⟩=>⟨I1.kIn,?_⟩) he hpl;exact qfa F hr hb hd hx I1 r q
end
section
variable {X:Cx} {CX:CXT} {k:Nat} {f C:Addr} {fd:FuncData} {ps ks:List Str} {sp:Sp} {E:XK} {x m:Str} {p pos apos kpos:Pos} {e o:Expr} {es:List Expr} {kws:List Keyword} {te ta:TE} {t tk:TA} {nm:Option Str}
variable {g:List Value->List Value->List Value} {gV:List V->List V->List V}
end
structure FnScope (N P:List Str) (sc:Scope):Prop where
 kind:sc.kind=.function
 co:sc.isCoroutine=false
 gen:sc.isGenerator=false
 nd:N.Nodup
 pre:N.take P.length=P
 par:∀ x∈P,sc.names.lookup x=some .local\/sc.names.lookup x=some .cell
 nofree:∀ y∈sc.names,y.2≠.free
def W6 {kindOf:Str->Option NameKind} {x:Str}:∀ {binds:List (Str×Value)} {m:Str->Option Value},(∀ v,(x,v)∉binds)->bindL kindOf binds m x=m x
 |[],_,_=>rfl
 | (n,v)::r,m,h=>by
  unfold bindL;rw [W6 λw hw=>h w (List.mem_cons_of_mem _ hw)];split
  ·have:x≠n:=by rintro rfl;exact h v List.mem_cons_self
   simp [this]
  ·rfl
def XF {kindOf:Str->Option NameKind} {x:Str}:∀ {binds:List (Str×Value)} {m:Str->Option Value},(∀ v,(x,v)∉binds)->bindC kindOf binds m x=m x
 |[],_,_=>rfl
 | (n,v)::r,m,h=>by
  unfold bindC;rw [XF λw hw=>h w (List.mem_cons_of_mem _ hw)];split
  ·rfl
  ·have:x≠n:=by rintro rfl;exact h v List.mem_cons_self
   simp [this]
def W2 {kindOf:Str->Option NameKind} {x:Str} {v:Value}:∀ {P:List Str} {vs:List Value} {i:Nat} {m:Str->Option Value},P.Nodup->P[i]?=some x->vs[i]?=some v->kindOf x=some .local ->
  bindL kindOf (P.zip vs) m x=some v
 |[],_,_,_,_,h,_,_=>by simp at h
 |_::_,[],_,_,_,_,h,_=>by simp at h
 |p::P,w::vs,0,m,nd,h1,h2,hk=>by
  simp at h1 h2;subst h1;subst h2;show bindL kindOf ((p,w)::P.zip vs) m p=_;unfold bindL;rw [W6 λv hv=>(List.nodup_cons.mp nd).1 (List.of_mem_zip hv).1,if_pos hk];simp
 |p::P,w::vs,i+1,m,nd,h1,h2,hk=>by
  show bindL kindOf ((p,w)::P.zip vs) m x=_;unfold bindL;exact W2 (i:=i) (List.nodup_cons.mp nd).2 (by simpa using h1) (by simpa using h2) hk
def XI {kindOf:Str->Option NameKind} {x:Str} {v:Value}:∀ {P:List Str} {vs:List Value} {i:Nat} {m:Str->Option Value},P.Nodup->P[i]?=some x->vs[i]?=some v->kindOf x≠some .local ->
  bindC kindOf (P.zip vs) m x=some v
 |[],_,_,_,_,h,_,_=>by simp at h
 |_::_,[],_,_,_,_,h,_=>by simp at h
 |p::P,w::vs,0,m,nd,h1,h2,hk=>by
  simp at h1 h2;subst h1;subst h2;show bindC kindOf ((p,w)::P.zip vs) m p=_;unfold bindC;rw [XF λv hv=>(List.nodup_cons.mp nd).1 (List.of_mem_zip hv).1,if_neg hk];simp
 |p::P,w::vs,i+1,m,nd,h1,h2,hk=>by
  show bindC kindOf ((p,w)::P.zip vs) m x=_;unfold bindC;exact XI (i:=i) (List.nodup_cons.mp nd).2 (by simpa using h1) (by simpa using h2) hk
def U0 (N:List Str) (vs:List V):St:=vs.map some++List.replicate (N.length-vs.length) none
def NI (CX:CXT) (P:Program) (w:World) (K:Frg) (mg:Str->Option Value) (base:Heap) (N:List Str) (qual:Str) (scope:Scope) (f:Addr) (cd:Value) (A:Around) (outer:List Env) (s:Shared) (H:Hp) (E:XK):Cx where
 prog:=P
 w:=w
 K:=K
 mg:=mg
 base:=base
 A:=A.deeper (envOfC qual scope s.heap.objs.size f cd)
 N:=N
 s₀:=s
 H₀:=H
 env:=envOfC qual scope s.heap.objs.size f cd
 outer:=outer
 stack:=envOfC qual scope s.heap.objs.size f cd::outer
 ex:=[]
 calm:=true
 fn:=λ_=>true
 pn:=[]
 xe:=λe s'=>wpAny (model P w) (A.deeper (envOfC qual scope s.heap.objs.size f cd)) (leaving (envOfC qual scope s.heap.objs.size f cd) e) (λ_ s''=>CX outer H s E e s'') (λe' s''=>CX outer H s E e' s'') s'
def C0 {sc:Scope} {n:Nat} {x:Str} (h:sc.names.lookup x=some .cell):∃ c,(cellsFrom n sc.names []).lookup x=some c:=by
 have q:=PySem.W.cellsFrom_some sc.names n [] (.inl h);exact Option.isSome_iff_exists.mp q
def T9 {CX:CXT} {P:Program} {w:World} {K:Frg} {mg:Str->Option Value} {base:Heap} {N ps:List Str} {qual:Str} {scope:Scope} {f:Addr} {cd:Value} {A:Around} {outer:List Env} {s s1:Shared} {H:Hp} {E:XK} {us:List Value} {vs:List V}
  (S:FnScope N ps scope) (hd:A.handled=none) (e0:Env0 P w K mg base A outer s H) (hl:vs.length=ps.length) (r:zt vs us)
  (x:InCallC s s.heap.objs.size (bindL (envOfC qual scope s.heap.objs.size f cd).kindOf (ps.zip us) λ_=>none) (cellsFrom (s.heap.objs.size+1) scope.names []) (bindC (envOfC qual scope s.heap.objs.size f cd).kindOf (ps.zip us) λ_=>none) s1) :
  Inv (NI CX P w K mg base N qual scope f cd A outer s H E) [] (U0 N vs) H s1:=by
 have hpl:ps.length<=N.length:=by have:=congrArg List.length S.pre;rw [List.length_take] at this;omega
 obtain ⟨h1,tk,rfl,hk⟩:=x.done;have noA:∀ b:Addr,b∉(NI CX P w K mg base N qual scope f cd A outer s H E).ex:=λb z=>absurd (show b∈([]:List Addr) from z) (by simp);refine ⟨⟨e0.mod,S.kind,rfl,rfl,Nat.le_refl _,λy z c h1 h2=>?_,λy hy=>?_,λy c _ h=>?_,λ_=>hd,Around.frames_deeper e0.frames,.inr ⟨rfl,rfl⟩,λb z=>absurd z (noA b),e0.bs,e0.bsz,λb _ _=>noA b,λb z=>absurd z (noA b),e0.funs,e0.frf⟩,
  rfl,e0.bare,Un.kept hk,⟨_,x.toInCall.ns,λi y v h1 h2 h3=>?_⟩,λy c h=>⟨_,x.cell y c h⟩,e0.hok.fresh (Nat.le_refl _),λy c h=>?_,λp hp=>absurd (show p∈([]:List (Addr×Obj)) from hp) (by simp),e0.hok.kept hk,?_⟩
 ·exact name_of_addr x.apart (PySem.mem_of_lookup h1) (PySem.mem_of_lookup h2)
 ·have hy:scope.names.lookup y=some .cell\/scope.names.lookup y=some .free:=hy;rcases hy with hy|hy
  ·exact C0 hy
  ·exact absurd rfl (S.nofree _ (PySem.mem_of_lookup hy))
 ·exact Nat.le_of_lt (x.above y c (PySem.mem_of_lookup h))
 ·have hi:i<vs.length:=by
   unfold U0 at h2;by_cases hi:i<vs.length
   ·exact hi
   ·rw [List.getElem?_append_right (by simpa using hi)] at h2;rw [List.getElem?_replicate] at h2;split at h2<;>cases h2
  have ha:vs[i]?=some v:=by
   unfold U0 at h2;rw [List.getElem?_append_left (by simpa using hi),getElem?_map] at h2;cases e:vs[i]? with
   |none=>rw [e] at h2;cases h2
   |some a=>rw [e] at h2;cases h2;rfl
  obtain ⟨u,hu,rv⟩:=r.get ha;have hp:ps[i]?=some y:=by
   rw [← S.pre,List.getElem?_take_of_lt (by omega)];exact h1
  have ndP:ps.Nodup:=by rw [← S.pre];exact S.nd.sublist (List.take_sublist _ _)
  refine ⟨u,rv,?_⟩;rcases S.par y (mem_of_getElem? hp) with k|k
  ·exact .inl ⟨k,W2 ndP hp hu k⟩
  ·obtain ⟨c,e⟩:=C0 (n:=s.heap.objs.size+1) k;refine .inr ⟨.inl k,c,e,?_⟩;have q:=x.cell y c e;rw [XI ndP hp hu (by show scope.names.lookup y≠_;rw [k];decide)] at q;exact q
 ·exact e0.hok.fresh (Nat.le_of_lt (x.above y c (PySem.mem_of_lookup h)))
 ·unfold U0;show _=N.length;rw [length_append,length_map,List.length_replicate];omega
def qkm {CX:CXT} {P:Program} {w:World} {K:Frg} {mg:Str->Option Value} {base:Heap} {k:Nat} {f:Addr} {name qual:Str} {params:Arguments} {body:List Stmt} {scope:Scope} {dV kV doc pm cdv ct oc:Value} {an od:Option Addr}
  {osl:Array (Option Value)} {N ps:List Str} {sp:Sp} (lk:K.lookup f=some ⟨oc,od,.func (PySem.W.fnOf name qual params body scope dV kV doc pm an cdv ct),osl⟩) (hcd:PySem.W.codeIn K cdv qual=true) (S:FnScope N ps scope)
  (len:∀ vs H Q E,sp vs H Q E->vs.length=ps.length)
  (hbody:∀ (A:Around) (outer:List Env) (s:Shared) (H:Hp) (vs:List V) (Q:VK) (E:XK),Room k (A.deeper (envOfC qual scope s.heap.objs.size f cdv))->sp vs H Q E ->
   ∃ t,PSs (NI CX P w K mg base N qual scope f cdv A outer s H E) body t/\t { nx:=λ_ H'=>Q .non H',rt:=Q } (U0 N vs) H) :
  FnOk P w K mg base CX (k+1) f (PySem.W.fnOf name qual params body scope dV kV doc pm an cdv ct) ps sp:=by
 refine ⟨len,λA outer s H args us vs Q E hr e0 hb r hsp=>?_⟩;have hl:=len _ _ _ _ hsp;have KX:K.In s.heap:=e0.mod.kin.keeps λb o e=>(e0.bs b o e).1;have lim:s.heap.NoLimit:=e0.mod.nolimit.keeps λb o e=>(e0.bs b o e).1;have hkind:∀ y∈ps.zip us,scope.names.lookup y.1=some .local\/(scope.names.lookup y.1=some .cell/\((cellsFrom (s.heap.objs.size+1) scope.names []).lookup y.1).isSome=true):=λ⟨n,v⟩ hy=>by
  rcases S.par n (List.of_mem_zip hy).1 with q|q
  ·exact .inl q
  ·exact .inr ⟨q,PySem.W.cellsFrom_some _ _ _ (.inl q)⟩
 refine codeAny_call_function hr.depth (KX _ _ lk) rfl S.co S.gen rfl (PySem.W.codeRec_of KX hcd) (hb _ _ _ _ ?_);refine wpAny_newFunctionEnv_cells S.kind hkind λenv he s1 x=>?_;subst he;refine ⟨lim.keeps x.toInCall.keep,codeAny_func ?_⟩;obtain ⟨t,ht,hq⟩:=hbody A outer s H vs Q E (hr.deeper _) hsp;have I:Inv (NI CX P w K mg base N qual scope f cdv A outer s H E) [] (U0 N vs) H s1:=T9 S hr.hd e0 hl r x;refine wpAny_mono (ht [] s1 (U0 N vs) H _ I hq) (λfl s' hs=>?_) λe s' hs=>hs;have fin:∀ {σ':St} {H':Hp} {v:V} {u:Value},Inv (NI CX P w K mg base N qual scope f cdv A outer s H E) [] σ' H' s'->jr v u->Q v H'->CE outer P w H s Q u s':=
  λ{σ' H' v u} J rv q=>⟨v,H',J.os,J.bare,J.base,J.hok,rv,q⟩
 cases fl with
 |ret u=>
  obtain ⟨v,σ',H',J,rv,q⟩:=hs;exact fin J rv q
 |next=>
  obtain ⟨σ',H',J,q⟩:=hs;exact fin (v:=V.non) (u:=Value.none) J rfl q
 |brk=>
  obtain ⟨_,_,_,q⟩:=hs;exact False.elim q
 |cont=>
  obtain ⟨_,_,_,q⟩:=hs;exact False.elim q
section
variable {X:Cx} {x:Str} {p pos:Pos} {e:Expr} {es:List Expr} {t:TA} {id T:String} {r:List V->Hp->VK->Prop}
def tCB (r:List V->Hp->VK->Prop) (t:TA):TE:=λσ H Q=>t σ H λvs H1=>r vs H1 Q
def DU (hc:ZY X (.builtin id) r) (hg:Gl X x) (hm:X.mg x=none) (hv:bootBuiltins x=some (.builtin id)) (ha:PA X (e::es) t) (hn:x≠"__name__" := by decide) (hdb:(x==("__debug__" : Str))=false:=by decide)
  (he:starEach (e::es) X.env=(false,eval e X.env)::starEach es X.env:=by rfl) (hpl:(backTo pos (starEach es X.env)).any (·.1)=false:=by rfl):PE X (.Call (.Name x p) (e::es) [] pos) (tCB r t):=by
 intro pins s σ H Q I h;refine wpAny_Call_Name_kw (UM I hg hm hv ?_ hn hdb);exact PyProof.Rows.callWith_builtin1 (thn (ha pos pins s σ H _ I h) λus s1 ⟨vs,H1,I1,r1,q1⟩=>hc pins s1 σ H1 vs us Q I1 r1 q1) he hpl
def LZ (hc:ZY X (.type T) r) (hg:Gl X x) (hm:X.mg x=none) (hv:bootBuiltins x=some (.type T)) (ha:PA X (e::es) t) (hn:x≠"__name__" := by decide) (hdb:(x==("__debug__" : Str))=false:=by decide)
  (he:starEach (e::es) X.env=(false,eval e X.env)::starEach es X.env:=by rfl) (hpl:(backTo pos (starEach es X.env)).any (·.1)=false:=by rfl):PE X (.Call (.Name x p) (e::es) [] pos) (tCB r t):=by
 intro pins s σ H Q I h;refine wpAny_Call_Name_kw (UM I hg hm hv ?_ hn hdb);exact PyProof.Rows.callWith_type1 (thn (ha pos pins s σ H _ I h) λus s1 ⟨vs,H1,I1,r1,q1⟩=>hc pins s1 σ H1 vs us Q I1 r1 q1) he hpl
end
end L2
namespace HT
open PySem PyProof.Rows
section
open PySem.SeqAt
open PySem.MeetsSeq PySem.MeetsSeq2 PySem.MeetsSeq3
end
section
variable {prog:Program} {w:World} {A:Around} {E:Value->Shared->Prop} {s:Shared}
def qc3 {t b:Addr} {vs ws:List Value} {Q:Value->Shared->Prop} (ht:IsTup s.heap t vs.toArray) (hb:IsTup s.heap b ws.toArray) (hv:vs≠[])
  (h1:ws=[]->Q (.ref t) s) (h2:ws≠[]->Q (.ref s.heap.objs.size) { s with heap:=s.heap.push { cls:=.type "tuple",data:=.seq (vs++ws).toArray } })
  (hsz:vs.length+ws.length<=sizeLine):wpAny (model prog w) A (binaryOp .Add (.ref t) (.ref b)) Q E s:=by
 obtain ⟨⟨cls,dd,data,sl⟩,ho,hc,n,hd⟩:=id ht;obtain ⟨⟨cls2,dd2,data2,sl2⟩,ho2,hc2,n2,hd2⟩:=id hb;simp only at hc hd hc2 hd2;subst hc hd hc2 hd2;have e:vs.toArray++ws.toArray=(vs++ws).toArray:=by simp
 by_cases hw:ws=[]
 ·exact concat_meets ⟨_,ho,rfl⟩ ⟨_,ho2,rfl⟩ noFill_tuple_add seq_tuple_add PySem.F.slot_tuple_add PySem.F.entry_tuple_add (PySem.F.args_tuple_add_2 _ _)
   (tuple_addW1 t b vs.toArray ws.toArray n n2 dd dd2 sl sl2 (by simpa using hv) (by simp [hw])) ⟨ho,ho2,h1 hw⟩
 ·refine concat_meets ⟨_,ho,rfl⟩ ⟨_,ho2,rfl⟩ noFill_tuple_add seq_tuple_add PySem.F.slot_tuple_add PySem.F.entry_tuple_add (PySem.F.args_tuple_add_2 _ _)
   (tuple_addW2 t b vs.toArray ws.toArray n n2 dd dd2 sl sl2 (by simpa using hv) (by simpa using hw) (by rw [size_toArray,size_toArray];exact hsz)) ⟨ho,ho2,?_⟩
  rw [e];exact h2 hw
def sIx (n d:Nat):Option Int->Nat
 |none=>d
 |some v=>if v<0 then (v+(n:Int)).toNat else min v.toNat n
def qeg (n d:Nat) (hd:d<=n) (o:Option Int):sIx n d o<=n:=by
 cases o with
 |none=>exact hd
 |some v=>
  show (if v<0 then (v+(n:Int)).toNat else min v.toNat n)<=n;by_cases hv:v<0
  ·rw [if_pos hv];omega
  ·rw [if_neg hv];exact Nat.min_le_right _ _
def M8 (v:Int) (n d:Nat):(if v<0 then max (v+(n:Int)) 0 else min v (n:Int))=((sIx n d (some v):Nat):Int):=by
 show (if v<0 then max (v+(n:Int)) 0 else min v (n:Int))=(((if v<0 then (v+(n:Int)).toNat else min v.toNat n):Nat):Int);by_cases hv:v<0
 ·simp only [if_pos hv];omega
 ·simp only [if_neg hv];omega
def SO (lo hi:Option Int) (n:Nat):Builtin.Slice.sliceAdjust lo hi 1 (n:Int)=(((sIx n 0 lo:Nat):Int),((sIx n n hi:Nat):Int)):=by
 have h1:¬ ((1:Int)<0):=by omega
 unfold Builtin.Slice.sliceAdjust;simp only [h1,if_false];refine Prod.ext ?_ ?_
 ·cases lo with
  |none=>rfl
  |some v=>exact M8 v n 0
 ·cases hi with
  |none=>rfl
  |some v=>exact M8 v n n
def TK (i j:Nat):Builtin.Slice.slicePlaces (i:Int) (j:Int) 1=j-i:=by
 unfold Builtin.Slice.slicePlaces;have h1:(1:Int) > 0:=by omega
 simp only [h1,if_true,Int.ediv_one];split<;>omega
def EW {v:Value} {o:Option Int} {Q:Option Int->Shared->Prop} (p:IsPart v o) (h:Q o s):wpAny (model prog w) A (Builtin.Slice.slicePartIndex v) Q E s:=by
 cases p with
 |none=>exact slicePart_none h
 |int i t=>exact slicePart_int h
def VZ {sl:Addr} {vl vu:Value} {lo hi:Option Int} {n:Nat} {Q:Int×Int×Nat->Shared->Prop} (hs:s.heap.IsSliceOf sl vl vu .none) (pl:IsPart vl lo) (pu:IsPart vu hi)
  (h:Q (((sIx n 0 lo:Nat):Int),1,sIx n n hi-sIx n 0 lo) s):wpAny (model prog w) A (Builtin.Slice.sliceApplied (.ref sl) (pure (n:Int))) Q E s:=by
 obtain ⟨os,hos,hcs,hds⟩:=id hs;unfold Builtin.Slice.sliceApplied Builtin.Slice.sliceFields;refine wpAny_bind (wpAny_bind (wpAny_field hos hds (x:=vl) rfl (wpAny_bind (wpAny_field hos hds (x:=vu) rfl (wpAny_bind (wpAny_field hos hds (x:=.none) rfl (wpAny_pure ?_)))))));refine wpAny_bind (slicePart_none ?_);show wpAny _ _ (if ((1:Int)==0)=true then _ else _) _ _ s;rw [if_neg (by decide)];refine wpAny_bind (EW pl (wpAny_bind (EW pu (wpAny_bind (wpAny_pure ?_)))));show wpAny _ _ (match Builtin.Slice.sliceAdjust lo hi 1 (n:Int) with|(lo,hi)=>pure (lo,(1:Int),Builtin.Slice.slicePlaces lo hi 1)) _ _ s;rw [SO lo hi n];show wpAny _ _ (pure (((sIx n 0 lo:Nat):Int),(1:Int),Builtin.Slice.slicePlaces ((sIx n 0 lo:Nat):Int) ((sIx n n hi:Nat):Int) 1)) _ _ s;rw [TK];exact wpAny_pure h
def qaB (xs:Array Value) (i k:Nat):((List.range k).filterMap λ(m:Nat)=>xs[((i:Int)+(m:Int)*1).toNat]?).toArray=((xs.toList.drop i).take k).toArray:=by
 have e:(λ(m:Nat)=>xs[((i:Int)+(m:Int)*1).toNat]?)=λm=>xs[i+m]?:=by
  funext m;have:((i:Int)+(m:Int)*1).toNat=i+m:=by omega
  rw [this]
 rw [e];have:=pick_run xs i k;rw [List.filterMap_map] at this;have e2:((λx=>xs[x]?)∘λx=>i+x)=λm=>xs[i+m]?:=rfl;rw [e2] at this;rw [this]
def VE {t sl:Addr} {items:Array Value} {vl vu:Value} {lo hi:Option Int} {Q:Value->Shared->Prop} (ht:IsTup s.heap t items) (hs:s.heap.IsSliceOf sl vl vu .none) (pl:IsPart vl lo) (pu:IsPart vu hi)
  (hw:¬ (sIx items.size 0 lo=0/\sIx items.size items.size hi=items.size))
  (h:Q (.ref s.heap.objs.size) { s with heap:=s.heap.push { cls:=.type "tuple",data:=.seq ((items.toList.drop (sIx items.size 0 lo)).take (sIx items.size items.size hi-sIx items.size 0 lo)).toArray } })
  (hsz:items.size<=sizeLine):wpAny (model prog w) A (getItem (.ref t) (.ref sl)) Q E s:=by
 have htake:sizeOk (.seq ((items.toList.drop (sIx items.size 0 lo)).take (sIx items.size items.size hi-sIx items.size 0 lo)).toArray):=by
  show ((items.toList.drop (sIx items.size 0 lo)).take (sIx items.size items.size hi-sIx items.size 0 lo)).toArray.size<=sizeLine;rw [size_toArray,List.length_take,List.length_drop,Array.length_toList];omega
 have hj:sIx items.size items.size hi<=items.size:=qeg _ _ (Nat.le_refl _) hi;obtain ⟨os,hos,hcs,hds⟩:=id hs;have hTs:s.TypeIs (.ref sl) "slice" := ⟨os,hos,hcs⟩
 unfold getItem
 try with_reducible refine wpAny_holding ?_
 first|refine wpAny_bind (wpAny_pure ?_)|skip
 refine wpAny_bind (wpAny_sequenceKey ht.typeIs (by decide) ?_);refine wpAny_bind (wpAny_callSpecial?_slot (name:=Str.ofString "__getitem__") ht.typeIs PyProof.Rows.slot_tuple_getitem
  (wpAny_call_entry PyProof.Rows.slot_tuple_getitem ht.typeIs entry_tuple_getitem ?_ (args_tuple_getitem _ _)))
 show wpAny _ _ (Builtin.Tuple.tupleItemsOf (.ref t) >>= _) _ _ s;refine wpAny_bind (tupleItemsOf_ ht ?_);refine wpAny_bind (wpAny_typeOf hTs ?_);rw [if_pos (by decide)];refine wpAny_bind (VZ hs pl pu ?_);have hno:¬ ((((sIx items.size 0 lo:Nat):Int)==0&&(1:Int)==1&&(sIx items.size items.size hi-sIx items.size 0 lo)==items.size)=true):=by
  intro q;rw [Bool.and_eq_true,Bool.and_eq_true] at q;have q1:((sIx items.size 0 lo:Nat):Int)=0:=eq_of_beq q.1.1;have q2:sIx items.size items.size hi-sIx items.size 0 lo=items.size:=eq_of_beq q.2;exact hw ⟨by omega,by omega⟩
 show wpAny _ _ (if (((sIx items.size 0 lo:Nat):Int)==0&&(1:Int)==1&&(sIx items.size items.size hi-sIx items.size 0 lo)==items.size)=true then _ else _) _ _ s;rw [if_neg hno,qaB]
 first
  |exact wpAny_bind (m:=Builtin.Tuple.tupleExact _) (wpAny_newObj_type (wpAny_pure ⟨_,rfl,wpAny_pure h⟩) htake)
  |exact wpAny_bind (m:=Builtin.Tuple.tupleExact _) (wpAny_newObj_type (wpAny_bind (wpAny_pure (wpAny_pure ⟨_,rfl,wpAny_pure h⟩))) htake)
  |exact wpAny_bind (wpAny_bind (m:=Builtin.Tuple.tupleExact _) (wpAny_newObj_type (wpAny_pure (wpAny_pure ⟨_,rfl,wpAny_pure h⟩)) htake))
  |exact wpAny_bind (wpAny_bind (m:=Builtin.Tuple.tupleExact _) (wpAny_newObj_type (wpAny_pure ⟨_,rfl,wpAny_pure h⟩) htake))
end
end HT
namespace L2
open PySem PySem.Spec PyProof.Rows
abbrev TO:=St->Hp->(Option Int->Hp->Prop)->Prop
def PO (X:Cx) (e:Option Expr) (t:TO):Prop:=
 ∀ (pins:List (Addr×Obj)) (s:Shared) (σ:St) (H:Hp) (Q:Option Int->Hp->Prop),Inv X pins σ H s->t σ H Q ->
  wpAny (model X.prog X.w) X.A (evalPart e X.env) (λu s'=>∃ o H',Inv X pins σ H' s'/\IsPart u o/\Q o H') X.xe s
def qdu:TO:=λ_ H Q=>Q none H
def qkc (t:TE):TO:=λσ H Q=>t σ H λx H1=>∃ i,x=.int i/\Q (some i) H1
section
variable {X:Cx} {e:Expr} {te:TE} {lo hi:Option Expr} {tl th:TO} {pos p2:Pos}
def qda:PO X none qdu:=by
 intro pins s σ H Q I h;rw [evalPart_none];exact wpAny_pure ⟨none,H,I,.none,h⟩
def qdr (h:PE X e te):PO X (some e) (qkc te):=by
 intro pins s σ H Q I hw;rw [evalPart_some];refine thn (h pins s σ H _ I hw) λu s1 ⟨x,H1,I1,r1,q1⟩=>?_;obtain ⟨i,rfl,q⟩:=q1;obtain ⟨t,rfl⟩:=r1;exact ⟨some i,H1,I1,.int i t,q⟩
def SlR (X:Cx) (r:V->Option Int->Option Int->Hp->VK->Prop):Prop:=
 ∀ (pins:List (Addr×Obj)) (s:Shared) (σ:St) (H:Hp) (x:V) (v vl vu:Value) (lo hi:Option Int) (sl:Addr) (Q:VK),Inv X pins σ H s->jr x v->s.heap.IsSliceOf sl vl vu .none->IsPart vl lo->IsPart vu hi->r x lo hi H Q ->
  ∃ T id,typeLookup (.type T) "__getitem__" = pure (some (.builtin id))/\s.TypeIs v T/\wpAny (model X.prog X.w) X.A (getItem v (.ref sl)) (EP X pins σ Q) X.xe s
def SlR.or {r r':V->Option Int->Option Int->Hp->VK->Prop} (h:SlR X r) (h':SlR X r'):SlR X (λx lo hi H Q=>r x lo hi H Q\/r' x lo hi H Q):=by
 intro pins s σ H x v vl vu lo hi sl Q I rx hs pl pu q;rcases q with q|q
 ·exact h pins s σ H x v vl vu lo hi sl Q I rx hs pl pu q
 ·exact h' pins s σ H x v vl vu lo hi sl Q I rx hs pl pu q
def tSl (r:V->Option Int->Option Int->Hp->VK->Prop) (te:TE) (tl th:TO):TE:=λσ H Q=>te σ H λx H1=>tl σ H1 λl H2=>th σ H2 λu H3=>r x l u H3 Q
def qaq {r:V->Option Int->Option Int->Hp->VK->Prop} (hr:SlR X r) (he:PE X e te) (hl:PO X lo tl) (hu:PO X hi th):PE X (.Subscript e (.Slice lo hi none p2) pos) (tSl r te tl th):=by
 intro pins s σ H Q I h;refine Subscript_ (thn (he pins s σ H _ I h) λv s1 ⟨x,H1,I1,r1,q1⟩=>?_);refine wpAny_Slice (thn (hl pins s1 σ H1 _ I1 q1) λvl s2 ⟨l,H2,I2,pl,q2⟩=>thn (hu pins s2 σ H2 _ I2 q2) λvu s3 ⟨u,H3,I3,pu,q3⟩=>?_);rw [evalPart_none];refine wpAny_pure ?_;have I4:Inv X pins σ H3 { s3 with heap:=s3.heap.push { cls:=.type "slice",data:=.fields #[vl,vu,.none] } }:=I3.kept (t':=s3.toks) λb ob q=>Heap.get?_push_of_some _ q;obtain ⟨T,id,hT,ht,hg⟩:=hr pins { s3 with heap:=s3.heap.push { cls:=.type "slice",data:=.fields #[vl,vu,.none] } } σ H3 x v vl vu l u s3.heap.objs.size Q I4 r1 (Heap.IsSliceOf.new ..) pl pu q3;show wpAny (model X.prog X.w) X.A (subscriptTail e (.Slice lo hi none p2) v (.ref s3.heap.objs.size)) (EP X pins σ Q) X.xe { s3 with heap:=s3.heap.push { cls:=.type "slice",data:=.fields #[vl,vu,.none] } };exact tail_any (ops:=[.ref s3.heap.objs.size,v]) ht hT hg (by with_unfolding_all rfl)
def qbB (xs:List V) (lo hi:Option Int):List V:=(xs.drop (HT.sIx xs.length 0 lo)).take (HT.sIx xs.length xs.length hi-HT.sIx xs.length 0 lo)
def UQ (xs:List V) (lo hi:Option Int):(qbB xs lo hi).length<=xs.length:=by
 unfold qbB;rw [List.length_take,List.length_drop];omega
def qlt (K:Frg):V->Option Int->Option Int->Hp->VK->Prop:=λx lo hi H Q=>∃ a xs,x=.ref a/\SqT K H a xs /\
 ¬ (HT.sIx xs.length 0 lo=0/\HT.sIx xs.length xs.length hi=xs.length)/\∀ p,H p=none->Q (.ref p) (upd H p (.tup (qbB xs lo hi)))
def qhF:SlR X (qlt X.K):=by
 intro pins s σ H x v vl vu lo hi sl Q I rx hs pl pu h;obtain ⟨a,xs,rfl,hx,hw,q⟩:=h;cases rx;obtain ⟨its,r,ht,hz⟩:=I.tuple hx;have hlen:its.toArray.size=xs.length:=by rw [size_toArray];exact r.length.symm
 refine ⟨"tuple",_,PyProof.Rows.slot_tuple_getitem.lookup,ht.typeIs,?_⟩;refine HT.VE ht hs pl pu (by rw [hlen];exact hw) ?_ (by rw [hlen];exact hz);rw [hlen];refine ⟨.ref s.heap.objs.size,_,I.laid (t':=s.toks) (o:=.tup (qbB xs lo hi)) (λb ob q=>Heap.get?_push_of_some _ q) (Nat.le_refl _) ?_,rfl,q _ (I.hok.fresh (Nat.le_refl _))⟩;exact ⟨Nat.le_trans (UQ xs lo hi) hz,_,(r.drop (HT.sIx xs.length 0 lo)).take (HT.sIx xs.length xs.length hi-HT.sIx xs.length 0 lo),IsTup.new _ _⟩
def qg4 (K:Frg):R2:=λx y H Q=>∃ a b xs ys,x=.ref a/\y=.ref b/\SqT K H a xs/\SqT K H b ys/\xs≠[]/\xs.length+ys.length<=sizeLine /\
 (ys=[]->Q (.ref a) H)/\(ys≠[]->∀ p,H p=none->Q (.ref p) (upd H p (.tup (xs++ys))))
def zt.nil_iff {xs:List V} {us:List Value} (r:zt xs us):us=[]↔xs=[]:=by
 cases r with
 |nil=>simp
 |cons _ _=>simp
def qd0:OpR X (binaryOp .Add) (qg4 X.K):=by
 intro pins s σ H x y v u Q I rx ry h;obtain ⟨a,b,xs,ys,rfl,rfl,ha,hb,hx,hz,q1,q2⟩:=h;cases rx;cases ry;obtain ⟨its,r1,p1,_⟩:=I.tuple ha;obtain ⟨its2,r2,p2,_⟩:=I.tuple hb;refine HT.qc3 p1 p2 (λz=>hx (r1.nil_iff.mp z)) (λz=>⟨.ref a,H,I,rfl,q1 (r2.nil_iff.mp z)⟩) (λz=>?_) (by rw [← r1.length,← r2.length];exact hz);refine ⟨.ref s.heap.objs.size,_,I.laid (t':=s.toks) (o:=.tup (xs++ys)) (λb ob q=>Heap.get?_push_of_some _ q) (Nat.le_refl _) ?_,rfl,q2 (λw=>z (r2.nil_iff.mpr w)) _ (I.hok.fresh (Nat.le_refl _))⟩;exact ⟨by rw [length_append];exact hz,_,r1.append r2,IsTup.new _ _⟩
end
def ixN (n:Nat) (i:Int):Option Nat:=if 0<=i then (if i<n then some i.toNat else none) else if -(n:Int)<=i then some (i+n).toNat else none
def atI {α:Type} (xs:List α) (i:Int):Option α:=(ixN xs.length i).bind λj=>xs[j]?
def ML {n:Nat} {i:Int} {j:Nat} (h:ixN n i=some j):seqIndex? i n=some j/\j<n/\-(n:Int)<=i/\i<n:=by
 unfold ixN at h;by_cases h0:0<=i
 ·rw [if_pos h0] at h;by_cases h1:i<n
  ·rw [if_pos h1] at h;have e:i.toNat=j:=Option.some.inj h;exact ⟨by rw [seqIndex_of h0 h1,e],by omega,by omega,h1⟩
  ·rw [if_neg h1] at h;cases h
 ·rw [if_neg h0] at h;by_cases h1:-(n:Int)<=i
  ·rw [if_pos h1] at h;have e:(i+n).toNat=j:=Option.some.inj h;exact ⟨by rw [seqIndex_neg (by omega) h1,e],by omega,h1,by omega⟩
  ·rw [if_neg h1] at h;cases h
def CN {α:Type} {xs:List α} {i:Int} {v:α} (h:atI xs i=some v):∃ j,seqIndex? i xs.length=some j/\xs[j]?=some v/\j<xs.length/\-(xs.length:Int)<=i/\i<xs.length:=by
 unfold atI at h;cases e:ixN xs.length i with
 |none=>rw [e] at h;cases h
 |some j=>
  rw [e] at h;obtain ⟨h1,h2,h3,h4⟩:=ML e;exact ⟨j,h1,h,h2,h3,h4⟩
def CQ (b:Expr):Prop:=∀ o i,subscripted b false o i=operate [o,i] (getItem o i)
def IxR (X:Cx) (r:R2):Prop:=
 ∀ (value slice:Expr) (pins:List (Addr×Obj)) (s:Shared) (σ:St) (H:Hp) (x y:V) (v u:Value) (Q:VK),Inv X pins σ H s->jr x v->jr y u->r x y H Q ->
  subscripted slice false v u=operate [v,u] (getItem v u)->wpAny (model X.prog X.w) X.A (subscriptTail value slice v u) (EP X pins σ Q) X.xe s
def MtR (X:Cx) (id:String) (r:V->List V->Hp->VK->Prop):Prop:=
 ∀ (pins:List (Addr×Obj)) (s:Shared) (σ:St) (H:Hp) (x:V) (xs:List V) (v:Value) (us:List Value) (Q:VK),Inv X pins σ H s->jr x v->zt xs us->r x xs H Q ->
  wpAny (model X.prog X.w) X.A (call (.builtin id) (v::us)) (EP X pins σ Q) X.xe s
section
variable {X:Cx} {a b:Expr} {ta tb:TE} {pos:Pos}
def IxR.or {r r':R2} (h:IxR X r) (h':IxR X r'):IxR X (λx y H Q=>r x y H Q\/r' x y H Q):=by
 intro value slice pins s σ H x y v u Q I rx ry q hs;rcases q with q|q
 ·exact h value slice pins s σ H x y v u Q I rx ry q hs
 ·exact h' value slice pins s σ H x y v u Q I rx ry q hs
def qjX {r:R2} (hr:IxR X r) (ha:PE X a ta) (hb:PE X b tb) (hs:CQ b):PE X (.Subscript a b pos) (tOp r ta tb):=by
 intro pins s σ H Q I h;exact Subscript_ (qi5 ha hb I h λv u s2 x y H2 I2 rx ry q=>hr a b pins s2 σ H2 x y v u Q I2 rx ry q (hs _ _))
def qkS (K:Frg):R2:=λx y H Q=>∃ p xs i v,x=.ref p/\y=.int i/\SqL K H p xs/\atI xs i=some v/\Q v H
def qkV (K:Frg):R2:=λx y H Q=>∃ p xs i v,x=.ref p/\y=.int i/\SqT K H p xs/\atI xs i=some v/\Q v H
def qlf:R2:=λx y H Q=>∃ z i c,x=.str z/\y=.int i/\z.length<=sizeLine/\atI z.cps.toList i=some c/\Q (.str ⟨#[c]⟩) H
def qdx:IxR X (qkS X.K):=by
 intro value slice pins s σ H x y v u Q I rx ry h hs;obtain ⟨p,xs,i,z,rfl,rfl,hq,he,q⟩:=h;cases rx;obtain ⟨t,rfl⟩:=ry;obtain ⟨its,r,pl,hz⟩:=I.list hq;obtain ⟨j,h1,h2,h3,h4,h5⟩:=CN he;obtain ⟨w,ew,rw'⟩:=r.get h2;have hl:=r.length;have hn:=XZ;have fin:EP X pins σ Q w s:=⟨z,H,I,rw',q⟩
 by_cases h0:0<=i
 ·have hj:i.toNat=j:=by
   rw [seqIndex_of h0 h5] at h1;exact Option.some.inj h1
  exact item_listR pl.isList h0 (by omega) (by rw [hj];simpa using ew) fin hs
 ·have hj:(i+(its.toArray.size:Int)).toNat=j:=by
   rw [seqIndex_neg (by omega) h4] at h1;rw [size_toArray,← hl];exact Option.some.inj h1
  exact subscriptTail_builtinR (x:=w) pl.isList.typeIs slot_list_getitem.lookup
   (wpAny_getItem_list_neg (Q:=λr s'=>r=w/\EP X pins σ Q r s') pl.isList (by omega) (by rw [size_toArray]<;>omega) (by omega) (by rw [hj];simpa using ew) ⟨rfl,fin⟩) hs
def qfZ:IxR X (qkV X.K):=by
 intro value slice pins s σ H x y v u Q I rx ry h hs;obtain ⟨p,xs,i,z,rfl,rfl,hq,he,q⟩:=h;cases rx;obtain ⟨t,rfl⟩:=ry;obtain ⟨its,r,pl,hz⟩:=I.tuple hq;obtain ⟨j,h1,h2,h3,h4,h5⟩:=CN he;obtain ⟨w,ew,rw'⟩:=r.get h2;have hl:=r.length;have hn:=XZ;have fin:EP X pins σ Q w s:=⟨z,H,I,rw',q⟩
 exact subscriptTail_builtinR (x:=w) pl.typeIs slot_tuple_getitem.lookup
  (getItem_tuple (j:=j) (Q:=λr s'=>r=w/\EP X pins σ Q r s') pl (by omega) (by omega) (by rw [size_toArray,← hl];exact h1) (by simpa using ew) ⟨rfl,fin⟩) hs
def qgc:IxR X qlf:=by
 intro value slice pins s σ H x y v u Q I rx ry h hs;obtain ⟨z,i,c,rfl,rfl,hz,he,q⟩:=h;obtain ⟨t,rfl⟩:=rx;obtain ⟨t',rfl⟩:=ry;obtain ⟨j,h1,h2,h3,h4,h5⟩:=CN he;have hl:z.cps.toList.length=z.length:=by simp [Str.length]
 rw [hl] at h1 h4 h5;have hn:=XZ;exact tail_any (typeIs_str s z t) slot_str_getitem.lookup (getItem_str (c:=c) (by
  have e1:decide (i < -(2 ^ 63:Int))=false:=decide_eq_false (by omega);have e2:decide (i ≥ 2 ^ 63)=false:=decide_eq_false (by omega);rw [e1,e2,Bool.or_false]) (by rw [h1];simpa using h2) ⟨.str ⟨#[c]⟩,H,I.tok _,⟨_,rfl⟩,q⟩) hs
def rIx (K:Frg):R2:=λx y H Q=>qkS K x y H Q\/qkV K x y H Q\/qlf x y H Q
def qfJ:IxR X (rIx X.K):=qdx.or (qfZ.or qgc)
def R4 (its:List Value) (n j:Nat) (u:Value):Obj.mapSeq (·.setIfInBounds j u) { cls:=.type "list",data:=.seq its.toArray n }={ cls:=.type "list",data:=.seq (its.set j u).toArray n }:=by
 simp [Obj.mapSeq]
def Inv.lst {pins:List (Addr×Obj)} {σ:St} {H:Hp} {s:Shared} {p:Addr} {xs:List V} (I:Inv X pins σ H s) (h:H p=some (.lst xs)) :
  ∃ (its:List Value) (n:Nat),zt xs its/\s.heap.get? p=some { cls:=.type "list",data:=.seq its.toArray n }/\xs.length<=sizeLine:=by
 obtain ⟨z,its,n,r,e⟩:=I.hok p _ h;exact ⟨its,n,r,e,z⟩
def Inv.lstUpd {pins:List (Addr×Obj)} {σ:St} {H:Hp} {s:Shared} {p:Addr} {xs ys:List V} {its its':List Value} {n n':Nat} {f:Obj->Obj} (I:Inv X pins σ H s) (h:H p=some (.lst xs))
  (ho:s.heap.get? p=some { cls:=.type "list",data:=.seq its.toArray n }) (hf:f { cls:=.type "list",data:=.seq its.toArray n }={ cls:=.type "list",data:=.seq its'.toArray n' }) (r:zt ys its') (hz:ys.length<=sizeLine) (t:Nat) :
  Inv X pins σ (upd H p (.lst ys)) { s with heap:=s.heap.update p f,toks:=t }:=by
 have e:(s.heap.update p f).get? p=some { cls:=.type "list",data:=.seq its'.toArray n' }:=by
  rw [Heap.get?_update_self f ho (by rw [hf]<;>rfl),hf]
 refine I.write (x:=p) (e:=p) (by rw [h];trivial) (.inl rfl) (λb u hb q=>(Heap.get?_update_other _ _ (Ne.symm hb)).trans q) ⟨_,e⟩ ?_;exact ⟨hz,its',n',r,e⟩
def qje:V->V->V->Hp->(Hp->Prop)->Prop:=λo i v H Q=>∃ p xs k j,o=.ref p/\i=.int k/\H p=some (.lst xs)/\ixN xs.length k=some j/\Q (upd H p (.lst (xs.set j v)))
def NY:qkQ X qje:=by
 intro pins s σ H o i v ov iv u Q I ro ri rv h;obtain ⟨p,xs,k,j,rfl,rfl,hp,hj,q⟩:=h;cases ro;obtain ⟨t,rfl⟩:=ri;obtain ⟨its,n,r,ho,hz⟩:=I.lst hp;obtain ⟨h1,h2,h3,h4⟩:=ML hj;have hl:=r.length;have hn:=XZ;have I':Inv X pins σ (upd H p (.lst (xs.set j v))) { s with heap:=s.heap.update p (Obj.mapSeq (·.setIfInBounds j u)) }:=
  I.lstUpd hp ho (R4 its n j u) (r.set rv j) (by rw [List.length_set];exact hz) s.toks
 by_cases h0:0<=k
 ·have hk:k.toNat=j:=by
   rw [seqIndex_of h0 h4] at h1;exact Option.some.inj h1
  exact PySem.W.ki_setAt ho h0 (by omega) (by rw [size_toArray,← hl];exact h4) (by rw [hk];exact ⟨_,I',q⟩)
 ·have hk:(k+(its.toArray.size:Int)).toNat=j:=by
   rw [seqIndex_neg (by omega) h3] at h1;rw [size_toArray,← hl];exact Option.some.inj h1
  exact PySem.W.ki_setBack ho (by omega) (by rw [size_toArray,← hl];exact h3) (by omega) (by rw [hk];exact ⟨_,I',q⟩)
def WN (lo hi:Option Int) (n:Nat):(sliceBounds lo hi none n).1=((HT.sIx n 0 lo:Nat):Int)/\(sliceBounds lo hi none n).2.1=((HT.sIx n n hi:Nat):Int)/\(sliceBounds lo hi none n).2.2=1:=by
 refine ⟨?_,?_,rfl⟩
 ·cases lo with
  |none=>simp [sliceBounds,HT.sIx]
  |some i=>
   simp only [sliceBounds,HT.sIx,Option.getD_none,show (1:Int) > 0 by decide,if_true];by_cases h:i<0
   ·simp only [h,if_true]<;>omega
   ·simp only [h,if_false]<;>omega
 ·cases hi with
  |none=>simp [sliceBounds,HT.sIx]
  |some i=>
   simp only [sliceBounds,HT.sIx,Option.getD_none,show (1:Int) > 0 by decide,if_true];by_cases h:i<0
   ·simp only [h,if_true]<;>omega
   ·simp only [h,if_false]<;>omega
def DI (its:List Value) (lo hi:Option Int):slicePick its.toArray lo hi none=((its.drop (HT.sIx its.length 0 lo)).take (HT.sIx its.length its.length hi-HT.sIx its.length 0 lo)).toArray:=by
 obtain ⟨h1,h2,h3⟩:=WN lo hi its.toArray.size;unfold slicePick;rw [h1,h2,h3];simp only [sliceRange_one,pick_run,size_toArray]<;>rfl
def qlm (K:Frg):V->Option Int->Option Int->Hp->VK->Prop:=λx lo hi H Q=>∃ a xs,x=.ref a/\SqL K H a xs/\∀ p,H p=none->Q (.ref p) (upd H p (.lst (qbB xs lo hi)))
def qcS:SlR X (qlm X.K):=by
 intro pins s σ H x v vl vu lo hi sl Q I rx hs pl pu h;obtain ⟨a,xs,rfl,hx,q⟩:=h;cases rx;obtain ⟨its,r,ht,hz⟩:=I.list hx;have hlen:=r.length;refine ⟨"list",_,slot_list_getitem.lookup,ht.isList.typeIs,?_⟩;refine wpAny_getItem_list_slice ht.isList hs pl pu .none (by simp) ?_ (by rw [size_toArray]<;>omega);rw [DI,← hlen];refine ⟨.ref s.heap.objs.size,_,I.laid (t':=s.toks) (o:=.lst (qbB xs lo hi)) (λb ob q=>Heap.get?_push_of_some _ q) (Nat.le_refl _) ?_,rfl,q _ (I.hok.fresh (Nat.le_refl _))⟩;exact ⟨Nat.le_trans (UQ xs lo hi) hz,_,0,(r.drop (HT.sIx xs.length 0 lo)).take (HT.sIx xs.length xs.length hi-HT.sIx xs.length 0 lo),Heap.get?_push_size _ rfl⟩
def XY:ZY X (.type "list") (λxs H Q=>∃ p ys,xs=[.ref p]/\(SqL X.K H p ys\/SqT X.K H p ys)/\∀ l,H l=none->Q (.ref l) (upd H l (.lst ys))):=by
 intro pins s σ H xs us Q I r h;obtain ⟨p,ys,rfl,hq,q⟩:=h;obtain ⟨u,rfl,rx⟩:=W9 r;cases rx;have fin:∀ (its:List Value),zt ys its->ys.length<=sizeLine->∀ (h':Heap) (c':Nat),(∀ b o',s.heap.get? b=some o'->h'.get? b=some o') ->
   h'.get? s.heap.objs.size=some { cls:=.type "list",dict:=none,data:=.seq its.toArray c',slots:=#[] }->EP X pins σ Q (.ref s.heap.objs.size) { s with heap:=h' }:=λits r' hz h' c' kp e=>
  ⟨.ref s.heap.objs.size,_,I.laid (t':=s.toks) kp (Nat.le_refl _) (show JI X.prog X.w _ h' _ (.lst ys) from ⟨hz,its,c',r',e⟩),rfl,q _ (I.hok.fresh (Nat.le_refl _))⟩
 rcases hq with hq|hq
 ·obtain ⟨its,r',pl,hz⟩:=I.list hq;have hlen:=r'.length;obtain ⟨o,ho,hc,n,hd⟩:=pl.isList;exact call_list_seq p (.inl rfl) ho hc hd (λh' c' kp e=>fin its r' hz h' c' kp e) (by simp only [size_toArray]<;>omega)
 ·obtain ⟨its,r',pl,hz⟩:=I.tuple hq;have hlen:=r'.length;obtain ⟨o,ho,hc,n,hd⟩:=pl;exact call_list_seq p (.inr rfl) ho hc hd (λh' c' kp e=>fin its r' hz h' c' kp e) (by simp only [size_toArray]<;>omega)
def DQ:ZY X (.type "tuple") (λxs H Q=>∃ p ys,xs=[.ref p]/\((SqL X.K H p ys/\∀ l,H l=none->Q (.ref l) (upd H l (.tup ys)))\/(SqT X.K H p ys/\Q (.ref p) H))):=by
 intro pins s σ H xs us Q I r h;obtain ⟨p,ys,rfl,h⟩:=h;obtain ⟨u,rfl,rx⟩:=W9 r;cases rx;rcases h with ⟨hq,q⟩|⟨hq,q⟩
 ·obtain ⟨its,r',pl,hz⟩:=I.list hq;have hlen:=r'.length;refine call_tuple_list pl.isList (λh' kp=>?_) (by simp only [size_toArray]<;>omega);have I1:Inv X pins σ H { s with heap:=h' }:=I.kept (t':=s.toks) kp;have I2:Inv X pins σ (upd H h'.objs.size (.tup ys)) { s with heap:=h'.push { cls:=.type "tuple",data:=.seq its.toArray } }:=
   I1.laid (t':=s.toks) (λb o e=>Heap.get?_push_of_some _ e) (Nat.le_refl _) (show JI X.prog X.w _ _ _ (.tup ys) from ⟨hz,its,r',IsTup.new _ _⟩)
  exact ⟨.ref h'.objs.size,_,I2,rfl,q _ (I1.hok.fresh (Nat.le_refl _))⟩
 ·obtain ⟨its,r',pl,hz⟩:=I.tuple hq;exact call_tuple_same pl ⟨.ref p,H,I,rfl,q⟩
def tyV (K:Frg) (T:String) (x:V) (H:Hp):Prop:=match x with
 |.str _=>T="str"
 |.int _=>T="int"
 |.ref p=>(T="list"/\∃ xs,SqL K H p xs)\/(T="tuple"/\∃ o,K.lookup p=some o/\o.cls=.type "tuple"/\o.dict=none) ∨
   (T="dict"/\((∃ kvs,H p=some (.dK kvs))\/∃ kvs,H p=some (.dT kvs)))\/(T="set"/\∃ S n,H p=some (.set S n))
 |_=>False
def qf8 {pins:List (Addr×Obj)} {σ:St} {H:Hp} {s:Shared} {T:String} {x:V} {v:Value} (I:Inv X pins σ H s) (r:jr x v) (ty:tyV X.K T x H) :
  s.TypeIs v T/\∀ a,v=.ref a->∃ ob,s.heap.get? a=some ob/\ob.dict=none:=by
 cases x with
 |str z=>
  obtain ⟨t,rfl⟩:=r;cases (show T="str" from ty);exact ⟨typeIs_str s z t,λ_ e=>nomatch e⟩
 |int i=>
  obtain ⟨t,rfl⟩:=r;cases (show T="int" from ty);exact ⟨typeIs_int s i t,λ_ e=>nomatch e⟩
 |ref p=>
  cases r;rcases ty with ⟨rfl,xs,hq⟩|⟨rfl,o,hk,hc,hd⟩|⟨rfl,hk⟩|⟨rfl,S,n,hk⟩
  ·obtain ⟨its,_,pl,_⟩:=I.list hq;refine ⟨pl.isList.typeIs,λa e=>?_⟩;cases e;obtain ⟨o,n,e,c,hd,_⟩:=pl;exact ⟨o,e,hd⟩
  ·refine ⟨⟨o,I.kIn p o hk,hc⟩,λa e=>?_⟩;cases e;exact ⟨o,I.kIn _ o hk,hd⟩
  ·have z:∃ o,s.heap.get? p=some o/\o.ExactDict:=by
    rcases hk with ⟨kvs,hk⟩|⟨kvs,hk⟩
    ·obtain ⟨_,_,_,_,o,_,_,e,ex,_⟩:=I.hok p _ hk;exact ⟨o,e,ex⟩
    ·obtain ⟨_,_,_,_,o,_,_,e,ex,_⟩:=I.hok p _ hk;exact ⟨o,e,ex⟩
   obtain ⟨o,e,ex⟩:=z;refine ⟨⟨o,e,ex.1⟩,λa e2=>?_⟩;cases e2;exact ⟨o,e,ex.2.1⟩
  ·obtain ⟨o,_,_,_,e,ex,_⟩:=I.hok p _ hk;refine ⟨⟨o,e,ex.1⟩,λa e2=>?_⟩;cases e2;exact ⟨o,e,ex.2.1⟩
 |_=>exact False.elim ty
def qlM (K:Frg) (T:String) (r:V->List V->Hp->VK->Prop) (to:TE):TE:=λσ H Q=>to σ H λx H1=>tyV K T x H1/\r x [] H1 Q
variable {o e:Expr} {es:List Expr} {to:TE} {t:TA} {name:Str} {apos cpos:Pos} {T id:String} {r:V->List V->Hp->VK->Prop}
def qfN (pa:PlainAttrs T) (slot:Slot T name id) (hty:typeOf (.builtin id)=pure (.type "method_descriptor")) (hm:MtR X id r) (ho:PE X o to)
  (hbase:attributeBase o name X.env (eval o X.env)=eval o X.env:=by rfl) (hline:(apos.endLine==cpos.line)=true:=by rfl):PE X (.Call (.Attribute o name apos) [] [] cpos) (qlM X.K T r to):=by
 intro pins s σ H Q I h;refine wpAny_Call_method0_late hbase hline (thn (ho pins s σ H _ I h) λv s1 ⟨x,H1,I1,r1,ty,q1⟩=>?_);obtain ⟨h1,h2⟩:=qf8 I1 r1 ty;exact ⟨T,id,pa,slot,hty,h1,h2,Calls.callWith_builtin rfl (PySem.evalArgs_none (hm pins s1 σ H1 x [] v [] Q I1 r1 .nil q1))⟩
end
def MtM (X:Cx) (id:String) (r:V->List V->Hp->VK->Prop):Prop:=
 ∀ (pins:List (Addr×Obj)) (s:Shared) (σ:St) (H:Hp) (x:V) (xs:List V) (v:Value) (us:List Value) (Q:VK),Inv X pins σ H s->jr x v->zt xs us->r x xs H Q ->
  wpAny (model X.prog X.w) X.A (call (.builtin id) (v::us)) (EP X pins σ Q) X.xe s
def zt.one:∀ {x:V} {us:List Value},zt [x] us->∃ u,us=[u]/\jr x u
 |_,_,.cons r .nil=>⟨_,rfl,r⟩
def zt.zero:∀ {us:List Value},zt [] us->us=[]
 |_,.nil=>rfl
def zt.dropLast {xs:List V} {us:List Value} (h:zt xs us):zt xs.dropLast us.dropLast:=by
 induction h with
 |nil=>exact .nil
 |cons r t ih=>
  cases t with
  |nil=>exact .nil
  |cons q t'=>exact .cons r ih
def zt.reverse {xs:List V} {us:List Value} (h:zt xs us):zt xs.reverse us.reverse:=by
 induction h with
 |nil=>exact .nil
 |cons r t ih=>rw [List.reverse_cons,List.reverse_cons];exact zt.append ih (.cons r .nil)
section
variable {X:Cx} {pins:List (Addr×Obj)} {σ:St} {H:Hp} {s:Shared} {l b:Addr} {xs ys zs:List V}
def Inv.lset {its its':List Value} {n:Nat} {f:Array Value->Array Value} {t':Nat} (I:Inv X pins σ H s) (hH:H l=some (.lst xs))
  (e:s.heap.get? l=some { cls:=.type "list",data:=.seq its.toArray n }) (hf:f its.toArray=its'.toArray) (hv:zt ys its') (hz:ys.length<=sizeLine) :
  Inv X pins σ (upd H l (.lst ys)) { s with heap:=s.heap.update l (Obj.mapSeq f),toks:=t' }:=by
 have q:=PySem.IsL.update e f;rw [hf] at q;refine I.write (x:=l) (e:=l) (by rw [hH];exact trivial) (.inl rfl) (λb' u hb hu=>(Heap.get?_update_other s.heap (Obj.mapSeq f) (Ne.symm hb)).trans hu) ⟨_,q⟩ ?_;exact ⟨hz,its',_,hv,q⟩
def Inv.lnew {its:List Value} {t':Nat} (I:Inv X pins σ H s) (hv:zt ys its) (hz:ys.length<=sizeLine) :
  Inv X pins σ (upd H s.heap.objs.size (.lst ys)) { s with heap:=s.heap.push { cls:=.type "list",data:=.seq its.toArray },toks:=t' }:=
 I.laid (λ_ _ q=>Heap.get?_push_of_some _ q) (Nat.le_refl _) ⟨hz,its,0,hv,Heap.get?_push_size _ rfl⟩
def Inv.fresh (I:Inv X pins σ H s):H s.heap.objs.size=none:=I.hok.fresh (Nat.le_refl _)
def Inv.lstM (I:Inv X pins σ H s) (hH:H l=some (.lst xs)):xs.length<=sizeLine/\∃ (its:List Value) (n:Nat),zt xs its/\xs.length=its.length/\s.heap.get? l=some { cls:=.type "list",data:=.seq its.toArray n }:=by
 obtain ⟨z,its,n,r,e⟩:=I.hok l _ hH;exact ⟨z,its,n,r,r.length,e⟩
end
section
variable {X:Cx}
def qdR:V->List V->Hp->VK->Prop:=λx vs H Q=>∃ l xs y,x=.ref l/\vs=[y]/\H l=some (.lst xs)/\xs.length<sizeLine/\Q .non (upd H l (.lst (xs++[y])))
def LB:MtM X "list.append" qdR:=by
 intro pins s σ H x vs v us Q I rx rv h;obtain ⟨l,xs,y,rfl,rfl,hH,hz,q⟩:=h;cases rx;obtain ⟨u,rfl,ru⟩:=rv.one;obtain ⟨z,its,n,r,hl,e⟩:=I.lstM hH;refine call_meets F.slot_list_append ⟨_,e,rfl⟩ F.entry_list_append (F.args_list_append_2 _ _) (PySem.list_append l its.toArray n u (by rw [size_toArray];omega)) ⟨e,?_⟩;refine ⟨.non,_,I.lset (its':=its++[u]) hH e (by simp) (r.append (.cons ru .nil)) ?_,rfl,q⟩;rw [length_append,List.length_singleton];omega
def qkO:R2:=λx y H Q=>∃ l b xs zs,x=.ref l/\y=.ref b/\H l=some (.lst xs)/\H b=some (.lst zs)/\xs.length+zs.length<=sizeLine/\∀ p,H p=none->Q (.ref p) (upd H p (.lst (xs++zs)))
def qiw:OpR X (binaryOp .Add) qkO:=by
 intro pins s σ H x y v u Q I rx ry h;obtain ⟨l,b,xs,zs,rfl,rfl,hH,hB,hz,q⟩:=h;cases rx;cases ry;obtain ⟨z,its,n,r,hl,e⟩:=I.lstM hH;obtain ⟨z2,its2,n2,r2,hl2,e2⟩:=I.lstM hB;refine PySem.P.add_list e e2 ?_ (by rw [size_toArray,size_toArray];omega);have ea:its.toArray++its2.toArray=(its++its2).toArray:=by simp
 rw [ea];exact ⟨.ref _,_,I.lnew (t':=s.toks) (r.append r2) (by rw [length_append];omega),rfl,q _ I.fresh⟩
end
section
variable {prog:Program} {w:World} {A:Around} {E:Value->Shared->Prop} {s:Shared}
end
section
variable {X:Cx}
end
end L2
namespace Att
open PySem PySem.W PySem.Calls PyProof.Rows
def U1 {P:Params} {h:Heap}:∀ (ns:List Int) (vs:List Value),WellAll P h vs (ns.map WData.int)->IntsAre vs ns:=by
 intro ns;induction ns with
 |nil=>
  intro vs w;rw [List.map_nil] at w;cases w;exact .nil
 |cons n ns ih=>
  intro vs w;rw [map_cons] at w;cases w with
  |cons a b=>
   cases a;exact .cons _ _ (ih _ b)
def T7 {l:OpenLaw} {n:Nat} (hn:l.most=some n) {P:Params} {h:Heap} {args:List WData} {vals:List Value}
  (hpre:l.row.toRowW.claim.pre args=true) (hwl:WellAll P h vals args) :
  ∃ a vs ns,vals=[Value.ref a]/\args=[WData.list (ns.map WData.int)]/\h.get? a=some { cls:=.type "list",data:=.seq vs.toArray }/\IntsAre vs ns/\ns.length<=n:=by
 have hsh:WShape.hasAll [] args [.list .int]=true:=(pre_splitW hpre).1;have hc:l.pre.holds [] { args:=args }=true:=(pre_splitW hpre).2;obtain ⟨d,r,rfl,h1,h2⟩:=hasAllW_cons hsh;obtain rfl:=hasAllW_nil h2;obtain ⟨xs,rfl,h3⟩:=hasW_list h1;obtain ⟨ns,rfl⟩:=items_int h3;have hlen:ns.length<=n:=by
  unfold OpenLaw.pre at hc;have h4:(WTm.not (.lt (.lit (.int (n:Int))) (.len (.arg 0)))).holds [] { args:=[.list (ns.map .int)] }=true:=by
   have h4:=(holds_andW hc).1;rw [hn] at h4;exact h4
  have h5:=condW_of h4 (w_not (w_lt w_lit (w_len_list (w_arg rfl))));rw [length_map] at h5;refine Nat.le_of_not_lt λq=>?_;have q':(n:Int)<((ns.length:Nat):Int):=by omega
  first
   | (rw [decide_eq_true q'] at h5;exact absurd h5 (by decide))
   | (simp at h5;omega)
 cases hwl with
 |cons w1 w2=>
  cases w2;cases w1 with
  |list ho hall=>exact ⟨_,_,ns,rfl,rfl,ho,U1 ns _ hall,hlen⟩
def MO (l:OpenLaw) (args:List WData):l.row.toRowW.claim.post args (.bool true) args=true:=
 postW_of (r:=l.row.toRowW) (X:=(true==true))
  (show WShape.has [] (.bool true) .bool=true by first|rfl|decide|simp [WShape.has,WShape.arms,WShape.armsAll])
  (show (WTm.eq .res (.lit (.bool true))).value [] { args:=args,res:=some (.bool true),after:=args }=some (.bool (true==true)) from w_eq_bool (w_res rfl) w_lit) rfl
def X5 {l:OpenLaw} {n:Nat} {q:Program} {loose:List Str} {XP:(Str->Option Value)->Heap->Prop} {YP:World->Heap->Prop} {d:DefRec}
  (hn:l.most=some n) (hdf:d.params.defaults=[])
  (call:∀ (w:World) (s₀ s₁:Shared) (mg mb:Str->Option Value) (fa:Addr) (o:Obj) (pm cd doc:Value) (a:Addr) (vs:List Value) (ns:List Int),
   Ground q loose [] XP w s₀ mg mb s₁.heap->YP w s₁.heap ->
   s₁.heap.get? fa=some o->o.data=.func (docDef d.name d.params d.body d.scope pm cd doc)->s₁.heap.CodeRec cd d.name->mg d.name=some (.ref fa) ->
   s₁.heap.get? a=some { cls:=.type "list",data:=.seq vs.toArray }->IntsAre vs ns->ns.length<=n->s₁.gens=#[] ->
   codeAny (model l.prog w) callerA (.call (.ref fa) ⟨[.ref a],[]⟩) (λr s'=>r=.ok (.ret (.bool true))/\OldK s₁.heap s'.heap/\s'.os=s₁.os/\AllBare s'.gens) s₁) :
  WalkO q loose XP YP l.row.toRowW d [] (λf vs=>PySem.call f vs):=by
 intro w s₀ s₁ mg mb G Y fa o pm cd doc dV kV ho hd hcd hD hmg hg args vals as hpre hlay hrd hwl hlo;obtain rfl:dV=.none:=Dflts.none hD hdf;obtain rfl:kV=.none:=Dflts.noKw hD;obtain ⟨a,vs,ns,rfl,rfl,hobj,hints,hlen⟩:=T7 hn hpre hwl;refine enter_call (codeAny_mono (call w s₀ s₁ mg mb fa o pm cd doc a vs ns G Y ho (fd_plain hd) hcd hmg hobj hints hlen hg) λr s' hq=>?_);obtain ⟨rfl,h2,h3,h4⟩:=hq;exact ⟨.inl ⟨.bool true,.bool true,[],rfl,λ_=>rfl,.bool true,MO l _,λ_=>⟨List.Pairwise.nil,λ_ hm=>(nomatch hm)⟩⟩,h2,h3,h4⟩
section
variable {prog:Program} {w:World} {A:Around} {E:Value->Shared->Prop} {s:Shared} {K:Frag}
end
end Att
namespace L2
open PySem PySem.Spec PyProof.Rows
def XE:∀ {vs:List Value} {ns:List Int},IntsAre vs ns->zt (ns.map V.int) vs
 |_,_,.nil=>.nil
 |_,_,.cons n t h=>.cons ⟨t,rfl⟩ (XE h)
def qiM (H:Hp):Prop:=∀ b,H b=none\/∃ o xs,H b=some (.frz o (.lst xs))
def N2 {P:Program} {w:World} {K:Frg} {mg mb:Str->Option Value} {CX:CXT} {k:Nat} {fa a:Addr} {fd:FuncData} {x:Str} {sp:Sp} {s₁:Shared} {vs:List Value} {ns:List Int}
  (KX:K.In s₁.heap) (hns:s₁.heap.Ns mainGlobals mg) (hb:s₁.heap.Ns builtinsNs mb) (hbb:∀ x:Str,x≠"__name__" -> mb x=bootBuiltins x) (hlim:s₁.heap.NoLimit) (hg:s₁.gens=#[])
  (ha:s₁.heap.get? a=some { cls:=.type "list",data:=.seq vs.toArray }) (hi:IntsAre vs ns) (hl:ns.length<=sizeLine) (hr:Room k callerA)
  (F:∀ base:Heap,K.In base->base.Ns mainGlobals mg->FnOk P w K mg base CX k fa fd [x] sp) (hbind:∀ (s:Shared) (u:Value),BindsTo s fd ⟨[u],[]⟩ [(x,u)])
  (hsp:∀ H:Hp,qiM H->SqL K H a (ns.map V.int)->sp [.ref a] H (λv _=>v=.bl true) λ_ _ _=>False)
  (hCX:∀ H e s',CX [] H s₁ (λ_ _ _=>False) e s'->False) :
  codeAny (model P w) callerA (.call (.ref fa) ⟨[.ref a],[]⟩) (λr s'=>r=.ok (.ret (.bool true))/\OldK s₁.heap s'.heap/\s'.os=s₁.os/\AllBare s'.gens) s₁:=by
 have rv:=XE hi;have lenV:=hi.length
 -- from an abstract heap in which nothing but the script may be tracked
 have core:∀ H:Hp,qiM H->SqL K H a (ns.map V.int)->HOk P w H s₁.heap->(∀ b,H b≠none->b=a)->(H a≠none->K.lookup a=none) ->
   codeAny (model P w) callerA (.call (.ref fa) ⟨[.ref a],[]⟩) (λr s'=>r=.ok (.ret (.bool true))/\OldK s₁.heap s'.heap/\s'.os=s₁.os/\AllBare s'.gens) s₁:=by
  intro H hO hS hok hA hK;have base_of:∀ {b:Addr} {o:Obj},s₁.heap.get? b=some o->H b=none->(qae s₁.heap H).get? b=some o:=λe n=>qar e n;have noA:∀ {b:Addr} {o:Obj} {es:Array DictEntry} {ep:Nat},s₁.heap.get? b=some o->o.data=.dict es ep->H b=none:=λ{b o es ep} e d=>by
   cases q:H b with
   |none=>rfl
   |some u=>
    have e':b=a:=hA b (by rw [q];simp);subst e';rw [ha] at e;cases e;have d':Data.seq vs.toArray _=Data.dict es ep:=d;cases d'
  have nsK:∀ {b:Addr} {m:Str->Option Value},s₁.heap.Ns b m->(qae s₁.heap H).Ns b m:=λ{b m} ⟨o,es,ep,e,d,r⟩=>⟨o,es,ep,base_of e (noA e d),d,r⟩
  have hKb:K.In (qae s₁.heap H):=λb o e=>base_of (KX b o e) (by
   cases q:H b with
   |none=>rfl
   |some u=>
    have e':b=a:=hA b (by rw [q];simp);subst e';rw [hK (by rw [q];simp)] at e;cases e)
  have hM:Mod K mg (qae s₁.heap H):=⟨hKb,nsK hns,⟨mb,nsK hb,hbb⟩,let ⟨mc,h1,h2⟩:=hlim;⟨mc,nsK h1,h2⟩⟩
  have e0:Env0 P w K mg (qae s₁.heap H) callerA [] s₁ H:=⟨rfl,hM,λb o e=>qc5 e,Nat.le_of_eq (LW _ _),trivial,λb hb=>absurd (show b∈([]:List Addr) from hb) (by simp),hok,.of_eq hg⟩
  refine codeAny_mono ((F _ hKb (nsK hns)).run callerA [] s₁ H ⟨[.ref a],[]⟩ [.ref a] [.ref a] _ _ hr e0 (hbind s₁ (.ref a)) (.cons rfl .nil) (hsp H hO hS)) λr s' h=>?_;cases r with
  |error e=>exact (hCX H e s' h).elim
  |ok fl=>
   cases fl with
   |next=>exact False.elim h
   |brk=>exact False.elim h
   |cont=>exact False.elim h
   |ret u=>
    obtain ⟨v,H',os,bare,un,hok',r',q⟩:=h;have q':v=.bl true:=q;subst q';obtain rfl:u=Value.bool true:=r';refine ⟨rfl,OldK.of_keep λb o e=>?_,os,bare⟩;cases q:H b with
    |none=>exact un.keep b o e q (by intro z;exact absurd (show b∈([]:List Addr) from z) (by simp)) (by simp)
    |some u=>
     rcases hO b with z|⟨ob,xs,z⟩
     ·rw [q] at z;cases z
     ·have z2:=un.frzs b ob _ z;obtain ⟨e1,_⟩:=hok b _ z;obtain ⟨e2,_⟩:=hok' b _ z2;rw [e] at e1;cases e1;exact e2
 cases hk:K.lookup a with
 |some o=>
  -- the script is one of the module's own objects
  have e:=KX a o hk;rw [ha] at e;cases e;refine core (λ_=>none) (λ_=>.inl rfl) (.inr ⟨_,vs.toArray,_,hk,rfl,rfl,rfl,by rw [size_toArray,lenV];exact hl,by simpa using rv⟩) (λb u z=>by have z':(none:Option HO)=some u:=z;cases z') (λb z=>absurd rfl z) λz=>absurd rfl z
 |none=>
  refine core (λb=>if b=a then some (.frz { cls:=.type "list",data:=.seq vs.toArray } (.lst (ns.map V.int))) else none) (λb=>?_) (.inl (.inr ⟨{ cls:=.type "list",data:=.seq vs.toArray },if_pos rfl⟩)) (λb u z=>?_) (λb z=>?_) λ_=>hk
  ·by_cases hb:b=a
   ·exact .inr ⟨_,_,if_pos hb⟩
   ·exact .inl (if_neg hb)
  ·by_cases hb:b=a
   ·have z':=(if_pos hb).symm.trans z;cases z';subst hb;exact ⟨ha,by rw [length_map];exact hl,vs,_,rv,ha⟩
   ·have z':=(if_neg hb).symm.trans z;cases z'
  ·by_cases hb:b=a
   ·exact hb
   ·exact absurd (if_neg hb) z
def qc8 {l:PySem.W.OpenLaw} {n k:Nat} {q:Program} {loose:List Str} {XP:(Str->Option Value)->Heap->Prop} {YP:World->Heap->Prop} {d:DefRec} {K:Params->PySem.W.Frag} {CX:World->CXT} {sp:World->Sp} {x:Str}
  (hn:l.most=some n) (hn2:n<=sizeLine) (hdf:d.params.defaults=[]) (hr:Room k callerA)
  (hY:∀ (w:World) (h:Heap),YP w h->(K w.params).In h)
  (F:∀ (w:World) (mg:Str->Option Value) (fa:Addr) (h:Heap),(K w.params).In h->h.Ns mainGlobals mg->mg d.name=some (.ref fa) ->
   ∃ fd:FuncData,(∀ (s:Shared) (u:Value),BindsTo s fd ⟨[u],[]⟩ [(x,u)]) /\
    ∀ base:Heap,(K w.params).In base->base.Ns mainGlobals mg->FnOk l.prog w (K w.params) mg base (CX w) k fa fd [x] (sp w))
  (hsp:∀ (w:World) (H:Hp) (a:Addr) (ns:List Int),ns.length<=n->qiM H->SqL (K w.params) H a (ns.map V.int)->sp w [.ref a] H (λv _=>v=.bl true) λ_ _ _=>False)
  (hCX:∀ (w:World) (H:Hp) (s:Shared) (e:Value) (s':Shared),CX w [] H s (λ_ _ _=>False) e s'->False) :
  PySem.W.WalkO q loose XP YP l.row.toRowW d [] (λf vs=>PySem.call f vs):=by
 refine Att.X5 hn hdf λw s₀ s₁ mg mb fa o pm cd doc a vs ns G Y ho hd hcd hmg hobj hints hlen hg=>?_;have KX:=hY w _ Y;obtain ⟨fd,hb,hF⟩:=F w mg fa _ KX G.T.g hmg;exact N2 KX G.T.g G.T.b G.T.builtins G.T.nolimit hg hobj hints (Nat.le_trans hlen hn2) hr hF hb (λH hO hS=>hsp w H a ns hlen hO hS) λH e s'=>hCX w H s₁ e s'
def QX (s:Stmt):Arguments:=match s with
 |.FunctionDef _ a _ _ _ _ _ _ _ _=>a
 |_=>{ posonlyargs:=[],args:=[],vararg:=none,kwonlyargs:=[],kw_defaults:=[],kwarg:=none,defaults:=[] }
def zM (s:Stmt):List Stmt:=match s with
 |.FunctionDef _ _ b _ _ _ _ _ _ _=>b
 |_=>[]
def qf (s:Stmt):Scope:=match s with
 |.FunctionDef _ _ _ _ _ _ sc _ _ _=>sc
 |_=>{ kind:=.function,names:=[],isGenerator:=false,isCoroutine:=false }
abbrev CX0:CXT:=λ_ _ _ _ _ _=>False
abbrev E0:XK:=λ_ _ _=>False
def qjO {X:Cx}:NE CX0 X E0:=λ_ _ _ _ _ _ _ h=>h.elim
structure Fun (K:Frg) (x qual:Str) (st:Stmt) (f:Addr) (fd:FuncData):Prop where
 ex:∃ (oc:Value) (od:Option Addr) (kV doc pm:Value) (an:Option Addr) (cdv ct:Value) (osl:Array (Option Value)),
  fd=PySem.W.fnOf x qual (QX st) (zM st) (qf st) .none kV doc pm an cdv ct/\K.lookup f=some ⟨oc,od,.func fd,osl⟩/\PySem.W.codeIn K cdv qual=true
 kp:PySem.W.keepIn K (.ref f)=true
section
variable {P:Program} {w:World} {K:Frg} {mg:Str->Option Value} {base:Heap}
def Fun.ok {x qual:Str} {st:Stmt} {f:Addr} {fd:FuncData} {N ps:List Str} {k:Nat} {sp:Sp} (F:Fun K x qual st f fd) (S:FnScope N ps (qf st)) (len:∀ vs H Q E,sp vs H Q E->vs.length=ps.length)
  (hbody:∀ (cdv:Value) (A:Around) (outer:List Env) (s:Shared) (H:Hp) (vs:List V) (Q:VK) (E:XK),Room k (A.deeper (envOfC qual (qf st) s.heap.objs.size f cdv))->sp vs H Q E ->
   ∃ t,PSs (NI CX0 P w K mg base N qual (qf st) f cdv A outer s H E).nox (zM st) t/\t { nx:=λ_ H'=>Q .non H',rt:=Q } (U0 N vs) H):FnOk P w K mg base CX0 (k+1) f fd ps sp:=by
 obtain ⟨oc,od,kV,doc,pm,an,cdv,ct,osl,rfl,lk,hcd⟩:=F.ex;refine qkm lk hcd S len λA outer s H vs Q E hr hsp=>?_;obtain ⟨t,h,q⟩:=hbody cdv A outer s H vs Q E hr hsp;exact ⟨t,h.nox,q⟩
def Fun.binds {x qual:Str} {st:Stmt} {f:Addr} {fd:FuncData} {ps:List Str} (F:Fun K x qual st f fd)
  (h:∀ (kV doc pm:Value) (an:Option Addr) (cdv ct:Value) (us:List Value),us.length=ps.length->bindArgs (PySem.W.fnOf x qual (QX st) (zM st) (qf st) .none kV doc pm an cdv ct) ⟨us,[]⟩=pure (ps.zip us)):zn K fd ps []:=by
 obtain ⟨oc,od,kV,doc,pm,an,cdv,ct,osl,rfl,lk,hcd⟩:=F.ex;exact .all (h kV doc pm an cdv ct)
def qih {x qual:Str} {st:Stmt} {f:Addr} {oc:Value} {od an:Option Addr} {osl:Array (Option Value)} {kV doc pm cdv ct:Value} (l:K.lookup f=some ⟨oc,od,.func (PySem.W.fnOf x qual (QX st) (zM st) (qf st) .none kV doc pm an cdv ct),osl⟩)
  (c:PySem.W.codeIn K cdv qual=true) (k:PySem.W.keepIn K (.ref f)=true):Fun K x qual st f (PySem.W.fnOf x qual (QX st) (zM st) (qf st) .none kV doc pm an cdv ct):=⟨⟨oc,od,kV,doc,pm,an,cdv,ct,osl,rfl,l,c⟩,k⟩
end
section
variable {X:Cx}
end
def qlR {A B:Prop} (h:B):if false=true then A else B:=by
 rw [if_neg Bool.false_ne_true];exact h
def qlD {A B:Prop} (h:A):if true=true then A else B:=by
 rw [if_pos rfl];exact h
end L2
set_option maxHeartbeats 4000000
namespace L3
open PySem PySem.Spec PyProof.Rows L2
set_option genInjectivity true in
inductive T where
 |non|bl (b:Bool)|int (i:Int)|str (x:Str)|tup (xs:List T)|ref (a:Addr)
inductive O where
 |lst (xs:List T)
 |frz (xs:List T)
abbrev Gp:=Addr->Option O
def gu (G:Gp) (a:Addr) (o:O):Gp:=λb=>if b=a then some o else G b
def zl {G:Gp} {a:Addr} {o:O}:gu G a o a=some o:=by unfold gu;rw [if_pos rfl]
def ZX {G:Gp} {a b:Addr} {o:O} (h:b≠a):gu G a o b=G b:=by unfold gu;rw [if_neg h]
mutual
inductive Rp (K:Frg) (H:Hp):T->V->Prop
 |non:Rp K H .non .non
 |bl (b:Bool):Rp K H (.bl b) (.bl b)
 |int (i:Int):Rp K H (.int i) (.int i)
 |str (x:Str):Rp K H (.str x) (.str x)
 |ref (a:Addr):Rp K H (.ref a) (.ref a)
 |tup {xs:List T} {a:Addr} {vs:List V}:SqT K H a vs->Rps K H xs vs->Rp K H (.tup xs) (.ref a)
inductive Rps (K:Frg) (H:Hp):List T->List V->Prop
 |nil:Rps K H [] []
 |cons {x:T} {v:V} {xs:List T} {vs:List V}:Rp K H x v->Rps K H xs vs->Rps K H (x::xs) (v::vs)
end
def OR (K:Frg) (H:Hp) (a:Addr):O->Prop
 |.lst xs=>∃ vs,H a=some (.lst vs)/\Rps K H xs vs
 |.frz xs=>∃ vs,(∃ o,H a=some (.frz o (.lst vs)))/\Rps K H xs vs
def HR (K:Frg) (G:Gp) (H:Hp):Prop:=∀ a o,G a=some o->OR K H a o
def Kp (G:Gp) (H:Hp) (G':Gp) (H':Hp):Prop:=∀ a o,H a=some o->G a=none->H' a=some o/\G' a=none
def Kp.refl {G:Gp} {H:Hp}:Kp G H G H:=λ_ _ h g=>⟨h,g⟩
def Kp.trans {G G1 G2:Gp} {H H1 H2:Hp} (a:Kp G H G1 H1) (b:Kp G1 H1 G2 H2):Kp G H G2 H2:=λx o h g=>
 let ⟨h1,g1⟩:=a x o h g;b x o h1 g1
section
variable {K:Frg} {G G':Gp} {H H':Hp}
def HR.noneT (hr:HR K G H) {a:Addr} {vs:List V} (h:Rd H a (.tup vs)):G a=none:=by
 cases e:G a with
 |none=>rfl
 |some o=>
  have q:=hr a o e;cases o with
  |lst xs=>
   obtain ⟨us,q1,_⟩:=q;rcases h with h|⟨ob,h⟩<;>(rw [q1] at h;cases h)
  |frz xs=>
   obtain ⟨us,⟨o1,q1⟩,_⟩:=q;rcases h with h|⟨ob,h⟩<;>(rw [q1] at h;cases h)
def DL (hr:HR K G H) (k:Kp G H G' H') {a:Addr} {vs:List V} (h:SqT K H a vs):SqT K H' a vs:=by
 rcases h with h|h
 ·have g:=hr.noneT h;rcases h with h|⟨o,h⟩
  ·exact .inl (.inl (k a _ h g).1)
  ·exact .inl (.inr ⟨o,(k a _ h g).1⟩)
 ·exact .inr h
mutual
def Rp.keep (hr:HR K G H) (k:Kp G H G' H'):∀ {x:T} {v:V},Rp K H x v->Rp K H' x v
 |_,_,.non=>.non
 |_,_,.bl b=>.bl b
 |_,_,.int i=>.int i
 |_,_,.str x=>.str x
 |_,_,.ref a=>.ref a
 |_,_,.tup h hs=>.tup (DL hr k h) (Rps.keep hr k hs)
def Rps.keep (hr:HR K G H) (k:Kp G H G' H'):∀ {x:List T} {v:List V},Rps K H x v->Rps K H' x v
 |_,_,.nil=>.nil
 |_,_,.cons a b=>.cons (Rp.keep hr k a) (Rps.keep hr k b)
end
def Rps.length:∀ {xs:List T} {vs:List V},Rps K H xs vs->xs.length=vs.length
 |_,_,.nil=>rfl
 |_,_,.cons _ b=>by simp [Rps.length b]
def Rps.get:∀ {xs:List T} {vs:List V} {i:Nat} {x:T},Rps K H xs vs->xs[i]?=some x->∃ v,vs[i]?=some v/\Rp K H x v
 |_,_,_,_,.nil,e=>by simp at e
 |_,_,0,_,.cons r _,e=>by simp at e;subst e;exact ⟨_,rfl,r⟩
 |_,_,i+1,x,.cons _ t,e=>by
  obtain ⟨u,h1,h2⟩:=Rps.get (i:=i) (x:=x) t (by simpa using e);exact ⟨u,by simpa using h1,h2⟩
def Rps.append:∀ {xs ys:List T} {vs us:List V},Rps K H xs vs->Rps K H ys us->Rps K H (xs++ys) (vs++us)
 |_,_,_,_,.nil,s=>s
 |_,_,_,_,.cons r t,s=>.cons r (Rps.append t s)
def Rps.take:∀ {xs:List T} {vs:List V} (n:Nat),Rps K H xs vs->Rps K H (xs.take n) (vs.take n)
 |_,_,0,_=>.nil
 |_,_,_+1,.nil=>.nil
 |_,_,n+1,.cons r t=>.cons r (Rps.take n t)
def Rps.drop:∀ {xs:List T} {vs:List V} (n:Nat),Rps K H xs vs->Rps K H (xs.drop n) (vs.drop n)
 |_,_,0,r=>r
 |_,_,_+1,.nil=>.nil
 |_,_,n+1,.cons _ t=>Rps.drop n t
def Rps.set {x:T} {v:V} (r:Rp K H x v):∀ {xs:List T} {vs:List V} (i:Nat),Rps K H xs vs->Rps K H (xs.set i x) (vs.set i v)
 |_,_,_,.nil=>.nil
 |_,_,0,.cons _ t=>.cons r t
 |_,_,i+1,.cons q t=>.cons q (Rps.set r i t)
def Rps.ints:∀ (ns:List Int),Rps K H (ns.map T.int) (ns.map V.int)
 |[]=>.nil
 |n::r=>.cons (.int n) (Rps.ints r)
def Rps.reverse {xs:List T} {vs:List V} (h:Rps K H xs vs):Rps K H xs.reverse vs.reverse:=by
 induction xs generalizing vs with
 |nil=>cases h;exact .nil
 |cons x r ih=>
  cases h with
  |cons a b=>
   rw [List.reverse_cons,List.reverse_cons];exact (ih b).append (.cons a .nil)
def Kp.laid {p:Addr} {ho:HO} (hp:H p=none):Kp G H G (upd H p ho):=λa o h g=>⟨by rw [qs (qo h hp)];exact h,g⟩
def HR.free (hr:HR K G H) {p:Addr} (hp:H p=none):G p=none:=by
 cases e:G p with
 |none=>rfl
 |some o=>
  have q:=hr p o e;cases o with
  |lst xs=>obtain ⟨us,q1,_⟩:=q;rw [hp] at q1;cases q1
  |frz xs=>obtain ⟨us,⟨o1,q1⟩,_⟩:=q;rw [hp] at q1;cases q1
def OR.keep (hr:HR K G H) (k:Kp G H G' H') {a:Addr} {o:O} (h:OR K H a o) (e:∀ u,H a=some u->H' a=some u):OR K H' a o:=by
 cases o with
 |lst xs=>obtain ⟨vs,h1,h2⟩:=h;exact ⟨vs,e _ h1,h2.keep hr k⟩
 |frz xs=>obtain ⟨vs,⟨o,h1⟩,h2⟩:=h;exact ⟨vs,⟨o,e _ h1⟩,h2.keep hr k⟩
def HR.laid (hr:HR K G H) {p:Addr} {ho:HO} (hp:H p=none):HR K G (upd H p ho):=λa o e=>
 (hr a o e).keep hr (Kp.laid hp) λu h=>by rw [qs (qo h hp)];exact h
def Kp.newL {p:Addr} {ho:HO} {o':O} (hp:H p=none):Kp G H (gu G p o') (upd H p ho):=λa o h g=>
 ⟨by rw [qs (qo h hp)];exact h,by rw [ZX (qo h hp)];exact g⟩
def HR.newL (hr:HR K G H) {p:Addr} {xs:List T} {vs:List V} (hp:H p=none) (r:Rps K H xs vs):HR K (gu G p (.lst xs)) (upd H p (.lst vs)):=λa o e=>by
 by_cases ha:a=p
 ·subst ha;rw [zl] at e;cases e;exact ⟨vs,qX,r.keep hr (Kp.laid hp)⟩
 ·rw [ZX ha] at e;exact (hr a o e).keep hr (Kp.laid hp) λu h=>by rw [qs ha];exact h
def Kp.wr {p:Addr} {ho:HO} {o o':O} (g:G p=some o):Kp G H (gu G p o') (upd H p ho):=λa ob h ga=>by
 have ha:a≠p:=by intro e;subst e;rw [g] at ga;cases ga
 exact ⟨by rw [qs ha];exact h,by rw [ZX ha];exact ga⟩
def HR.wr (hr:HR K G H) {p:Addr} {ys xs:List T} {vs:List V} (g:G p=some (.lst ys)) (r:Rps K H xs vs):HR K (gu G p (.lst xs)) (upd H p (.lst vs)):=λa o e=>by
 have k:Kp G H (gu G p (.lst xs)) (upd H p (.lst vs)):=Kp.wr g;by_cases ha:a=p
 ·subst ha;rw [zl] at e;cases e;exact ⟨vs,qX,r.keep hr k⟩
 ·rw [ZX ha] at e;exact (hr a o e).keep hr k λu h=>by rw [qs ha];exact h
end
abbrev St3:=List (Option T)
structure Rel (K:Frg) (τ:St3) (G:Gp) (σ:L2.St) (H:Hp):Prop where
 hp:HR K G H
 len:τ.length=σ.length
 st:∀ (i:Nat) (t:T),τ[i]?=some (some t)->∃ v,σ[i]?=some (some v)/\Rp K H t v
def Rel.next {K:Frg} {τ:St3} {G G':Gp} {σ:L2.St} {H H':Hp} (r:Rel K τ G σ H) (hr:HR K G' H') (k:Kp G H G' H'):Rel K τ G' σ H':=
 ⟨hr,r.len,λi t e=>let ⟨v,h1,h2⟩:=r.st i t e;⟨v,h1,h2.keep r.hp k⟩⟩
def Rel.set {K:Frg} {τ:St3} {G:Gp} {σ:L2.St} {H:Hp} {t:T} {v:V} (r:Rel K τ G σ H) (i:Nat) (h:Rp K H t v):Rel K (τ.set i (some t)) G (σ.set i (some v)) H:=by
 refine ⟨r.hp,by simp [r.len],λj u e=>?_⟩;by_cases hij:i=j
 ·subst hij;rw [List.getElem?_set_self'] at e;have hl:i<τ.length:=by
   cases q:τ[i]? with
   |none=>rw [q] at e;cases e
   |some z=>exact (List.getElem?_eq_some_iff.mp q).1
  rw [getElem?_eq_getElem hl] at e;have e':t=u:=by simpa using e
  subst e';exact ⟨v,by rw [List.getElem?_set_self (by rw [← r.len];exact hl)],h⟩
 ·rw [List.getElem?_set_ne hij] at e;obtain ⟨w,h1,h2⟩:=r.st j u e;exact ⟨w,by rw [List.getElem?_set_ne hij];exact h1,h2⟩
abbrev Q3:=T->Gp->Prop
abbrev TE3:=St3->Gp->Q3->Prop
abbrev TT3:=St3->Gp->(Bool->Gp->Prop)->Prop
abbrev TA3:=St3->Gp->(List T->Gp->Prop)->Prop
def Aft (K:Frg) (G:Gp) (H:Hp) (q:Q3) (Q:VK):Prop:=∀ x G',q x G'->∀ v H',Rp K H' x v->HR K G' H'->Kp G H G' H'->Q v H'
def qi0 (K:Frg) (G:Gp) (H:Hp) (q:Bool->Gp->Prop) (Q:Bool->Hp->Prop):Prop:=∀ x G',q x G'->∀ H',HR K G' H'->Kp G H G' H'->Q x H'
def qlT (K:Frg) (G:Gp) (H:Hp) (q:List T->Gp->Prop) (Q:List V->Hp->Prop):Prop:=∀ x G',q x G'->∀ v H',Rps K H' x v->HR K G' H'->Kp G H G' H'->Q v H'
def lE (K:Frg) (t:TE3):TE:=λσ H Q=>∃ τ G q,Rel K τ G σ H/\t τ G q/\Aft K G H q Q
def lT (K:Frg) (t:TT3):TT:=λσ H Q=>∃ τ G q,Rel K τ G σ H/\t τ G q/\qi0 K G H q Q
def lA (K:Frg) (t:TA3):TA:=λσ H Q=>∃ τ G q,Rel K τ G σ H/\t τ G q/\qlT K G H q Q
abbrev E3 (X:Cx) (e:Expr) (t:TE3):Prop:=PE X e (lE X.K t)
abbrev C3 (X:Cx) (e:Expr) (t:TT3):Prop:=PT X e (lT X.K t)
abbrev W3 (X:Cx) (e:Expr) (t:TT3):Prop:=PW X e (lT X.K t)
abbrev A3 (X:Cx) (es:List Expr) (t:TA3):Prop:=PA X es (lA X.K t)
def Aft.back {K:Frg} {G G1:Gp} {H H1:Hp} {q:Q3} {Q:VK} (a:Aft K G H q Q) (k:Kp G H G1 H1):Aft K G1 H1 q Q:=λx G' h v H' r hr k'=>a x G' h v H' r hr (k.trans k')
def qi0.back {K:Frg} {G G1:Gp} {H H1:Hp} {q:Bool->Gp->Prop} {Q:Bool->Hp->Prop} (a:qi0 K G H q Q) (k:Kp G H G1 H1):qi0 K G1 H1 q Q:=λx G' h H' hr k'=>a x G' h H' hr (k.trans k')
def EZ {X:Cx} {e:Expr} {t t':TE} (h:PE X e t) (w:∀ σ H Q,t' σ H Q->t σ H Q):PE X e t':=λpins s σ H Q I q=>h pins s σ H Q I (w σ H Q q)
def qjv {X:Cx} {e:Expr} {t t':TT} (h:PT X e t) (w:∀ σ H Q,t' σ H Q->t σ H Q):PT X e t':=λpins s σ H Q I q=>h pins s σ H Q I (w σ H Q q)
def qlq {X:Cx} {e:Expr} {t t':TT} (h:PW X e t) (w:∀ σ H Q,t' σ H Q->t σ H Q):PW X e t':=λwh pins s σ H Q I q=>h wh pins s σ H Q I (w σ H Q q)
def qk7 {X:Cx} {e:List Expr} {t t':TA} (h:PA X e t) (w:∀ σ H Q,t' σ H Q->t σ H Q):PA X e t':=λpos pins s σ H Q I q=>h pos pins s σ H Q I (w σ H Q q)
def zx {K:Frg} {ta:TE3} {τ:St3} {G:Gp} {σ:L2.St} {H:Hp} {q:Q3} {Q:VK} (r:Rel K τ G σ H) (h:ta τ G q)
  (n:∀ x G1,q x G1->∀ v H1,Rp K H1 x v->HR K G1 H1->Kp G H G1 H1->Rel K τ G1 σ H1->Q v H1):lE K ta σ H Q:=
 ⟨τ,G,q,r,h,λx G1 hq v H1 rx hr k=>n x G1 hq v H1 rx hr k (r.next hr k)⟩
def XC {K:Frg} {ta:TT3} {τ:St3} {G:Gp} {σ:L2.St} {H:Hp} {q:Bool->Gp->Prop} {Q:Bool->Hp->Prop} (r:Rel K τ G σ H) (h:ta τ G q)
  (n:∀ x G1,q x G1->∀ H1,HR K G1 H1->Kp G H G1 H1->Rel K τ G1 σ H1->Q x H1):lT K ta σ H Q:=
 ⟨τ,G,q,r,h,λx G1 hq H1 hr k=>n x G1 hq H1 hr k (r.next hr k)⟩
def YG {K:Frg} {ta:TA3} {τ:St3} {G:Gp} {σ:L2.St} {H:Hp} {q:List T->Gp->Prop} {Q:List V->Hp->Prop} (r:Rel K τ G σ H) (h:ta τ G q)
  (n:∀ x G1,q x G1->∀ v H1,Rps K H1 x v->HR K G1 H1->Kp G H G1 H1->Rel K τ G1 σ H1->Q v H1):lA K ta σ H Q:=
 ⟨τ,G,q,r,h,λx G1 hq v H1 rx hr k=>n x G1 hq v H1 rx hr k (r.next hr k)⟩
section
variable {X:Cx} {a b c:Expr} {ta tb tc:TE3} {pos:Pos}
def v3 (i:Nat):TE3:=λτ G q=>match τ[i]? with|some (some t)=>q t G|_=>False
def qjI (i:Nat) {x:Str} {pos:Pos} (hN:X.N[i]?=some x:=by rfl) (hv:Vis X.env.scope x:=by first|exact Or.inl rfl|exact Or.inr (Or.inl rfl)|exact Or.inr (Or.inr rfl)) (hd:(x==("__debug__" : Str))=false:=by decide)
  (hcd:(x==("__classdict__" : Str))=false:=by decide):E3 X (.Name x pos) (v3 i):=by
 refine EZ (qex (i:=i) hN hv hd hcd) λσ H Q ⟨τ,G,q,r,h,af⟩=>?_;unfold v3 at h;split at h
 ·rename_i t e;obtain ⟨v,e2,rv⟩:=r.st i t e;exact ⟨v,e2,af t G h v H rv r.hp Kp.refl⟩
 ·exact h.elim
def c3 (t:T):TE3:=λ_ G q=>q t G
def e_c {t:T} {v:V} {e:Expr} (h:PE X e (tC v)) (hr:∀ H,Rp X.K H t v):E3 X e (c3 t):=EZ h λσ H Q ⟨τ,G,q,r,h,af⟩=>af t G h v H (hr H) r.hp Kp.refl
def qji {i:Int} {j pos}:E3 X (.Constant (.int i) j pos) (c3 (.int i)):=e_c qfu λ_=>.int i
def qlU {b:Bool} {j pos}:E3 X (.Constant (.bool b) j pos) (c3 (.bl b)):=e_c qke λ_=>.bl b
def qkJ {j pos}:E3 X (.Constant .none j pos) (c3 .non):=e_c qfS λ_=>.non
def qkx {x:Str} {j pos}:E3 X (.Constant (.str x) j pos) (c3 (.str x)):=e_c qeZ λ_=>.str x
def n3:TE3:=λ_ _ _=>False
abbrev R3:=T->T->Gp->Q3->Prop
def EC (K:Frg) (r3:R3) (r:R2):Prop:=∀ x y v u G H q Q,HR K G H->Rp K H x v->Rp K H y u->r3 x y G q->Aft K G H q Q->r v u H Q
def o3 (r:R3) (ta tb:TE3):TE3:=λτ G q=>ta τ G λx G1=>tb τ G1 λy G2=>r x y G2 q
def LJ {K:Frg} {r3:R3} {r:R2} (hr:EC K r3 r) {σ:L2.St} {H:Hp} {Q:VK} (h:lE K (o3 r3 ta tb) σ H Q):tOp r (lE K ta) (lE K tb) σ H Q:=by
 obtain ⟨τ,G,q,rl,h,af⟩:=h;refine zx rl h λx G1 h1 v H1 rx hr1 k1 rl1=>zx rl1 h1 λy G2 h2 u H2 ry hr2 k2 rl2=>?_;exact hr x y v u G2 H2 q Q hr2 (rx.keep hr1 k2) ry h2 (af.back (k1.trans k2))
def NQ {op:Operator} {r3:R3} {r:R2} (ho:OpR X (binaryOp op) r) (hr:EC X.K r3 r) (ha:E3 X a ta) (hb:E3 X b tb):E3 X (.BinOp a op b pos) (o3 r3 ta tb):=
 EZ (qjg ho ha hb) λ_ _ _ h=>LJ hr h
def qkG {op:CmpOp} {r3:R3} {r:R2} (ho:OpR X (compareOp op) r) (hr:EC X.K r3 r) (ha:E3 X a ta) (hb:E3 X b tb) (hm:behindInMarks op b=false):E3 X (.Compare a [op] [b] pos) (o3 r3 ta tb):=
 EZ (qcF ho ha hb hm) λ_ _ _ h=>LJ hr h
def tb3 (t:TE3):TT3:=λτ G q=>t τ G λx G'=>match x with|.bl k=>q k G'|_=>False
def qf5 {K:Frg} {t:TE3} {t2:TE} (hw:∀ σ H Q,lE K t σ H Q->t2 σ H Q) {σ:L2.St} {H:Hp} {Q:Bool->Hp->Prop} (h:lT K (tb3 t) σ H Q):qha t2 σ H Q:=by
 obtain ⟨τ,G,q,rl,h,af⟩:=h;refine hw _ _ _ (zx rl h λx G1 h1 v H1 rx hr1 k1 rl1=>?_);cases x with
 |bl k=>cases rx;exact ⟨k,rfl,af k G1 h1 H1 hr1 k1⟩
 |_=>exact h1.elim
def qi9 {op:CmpOp} {r3:R3} {r:R2} (ho:OpR X (compareOp op) r) (hr:EC X.K r3 r) (ha:E3 X a ta) (hb:E3 X b tb) (hm:behindInMarks op b=false):C3 X (.Compare a [op] [b] pos) (tb3 (o3 r3 ta tb)):=
 qjv (qdP ho ha hb hm) λ_ _ _ h=>qf5 (λ_ _ _=>LJ hr) h
def ch3 (r r':R3) (ta tb tc:TE3):TE3:=λτ G q=>ta τ G λx G1=>tb τ G1 λy G2=>r x y G2 λz G3=>match z with
 |.bl k=>if k=true then tc τ G3 λw G4=>r' y w G4 q else q (.bl false) G3
 |_=>False
def qkh {K:Frg} {r3 r3':R3} {r r':R2} (hr:EC K r3 r) (hr':EC K r3' r') {σ:L2.St} {H:Hp} {Q:VK} (h:lE K (ch3 r3 r3' ta tb tc) σ H Q):qa9 r r' (lE K ta) (lE K tb) (lE K tc) σ H Q:=by
 obtain ⟨τ,G,q,rl,h,af⟩:=h;refine zx rl h λx G1 h1 v H1 rx hr1 k1 rl1=>zx rl1 h1 λy G2 h2 u H2 ry hr2 k2 rl2=>?_;refine hr x y v u G2 H2 _ _ hr2 (rx.keep hr1 k2) ry h2 λz G3 h3 w H3 rz hr3 k3=>?_;cases z with
 |bl k=>
  cases rz;refine ⟨k,rfl,?_⟩;cases k with
  |false=>
   rw [if_neg Bool.false_ne_true];rw [show (match T.bl false with|.bl k=>if k=true then tc τ G3 λw G4=>r3' y w G4 q else q (.bl false) G3|_=>False)=q (.bl false) G3 from by simp] at h3;exact af _ G3 h3 _ H3 (.bl false) hr3 ((k1.trans k2).trans k3)
  |true=>
   rw [if_pos rfl];refine zx (rl2.next hr3 k3) (show tc τ G3 λw G4=>r3' y w G4 q from by simpa using h3) λw G4 h4 w' H4 rw' hr4 k4 rl4=>?_;exact hr' y w _ _ G4 H4 q Q hr4 ((ry.keep hr2 k3).keep hr3 k4) rw' h4 (af.back (((k1.trans k2).trans k3).trans k4))
 |_=>exact h3.elim
def qcJ {op op':CmpOp} {r3 r3':R3} {r r':R2} (ho:OpR X (compareOp op) r) (hr:EC X.K r3 r) (ho':OpR X (compareOp op') r') (hr':EC X.K r3' r') (ha:E3 X a ta) (hb:E3 X b tb) (hc:E3 X c tc)
  (hm:lastMarks [op,op'] [b,c]=false:=by with_unfolding_all rfl):E3 X (.Compare a [op,op'] [b,c] pos) (ch3 r3 r3' ta tb tc):=
 EZ (qak ho ho' ha hb hc hm) λ_ _ _ h=>qkh hr hr' h
def u3 (r:T->Gp->Q3->Prop) (ta:TE3):TE3:=λτ G q=>ta τ G λx G1=>r x G1 q
def iI (f:Int->Int->Int):R3:=λx y G q=>match x,y with|.int i,.int j=>q (.int (f i j)) G|_,_=>False
def iC (C:Int->Int->Prop) (f:Int->Int->Int):R3:=λx y G q=>match x,y with|.int i,.int j=>C i j/\q (.int (f i j)) G|_,_=>False
def iB (f:Int->Int->Bool):R3:=λx y G q=>match x,y with|.int i,.int j=>q (.bl (f i j)) G|_,_=>False
def qcg {K:Frg} {f:Int->Int->Int}:EC K (iI f) (rI0 λi j=>.int (f i j)):=λx y v u G H q Q hr rx ry h af=>by
 cases x<;>try exact h.elim
 cases y<;>try exact h.elim
 cases rx;cases ry;exact ⟨_,_,rfl,rfl,af _ G h _ H (.int _) hr Kp.refl⟩
def E7 {K:Frg} {C:Int->Int->Prop} {f:Int->Int->Int}:EC K (iC C f) (rI C λi j=>.int (f i j)):=λx y v u G H q Q hr rx ry h af=>by
 cases x<;>try exact h.elim
 cases y<;>try exact h.elim
 cases rx;cases ry;exact ⟨_,_,rfl,rfl,h.1,af _ G h.2 _ H (.int _) hr Kp.refl⟩
def Q7 {K:Frg} {f:Int->Int->Bool}:EC K (iB f) (rI0 λi j=>.bl (f i j)):=λx y v u G H q Q hr rx ry h af=>by
 cases x<;>try exact h.elim
 cases y<;>try exact h.elim
 cases rx;cases ry;exact ⟨_,_,rfl,rfl,af _ G h _ H (.bl _) hr Kp.refl⟩
def qkw (ha:E3 X a ta) (hb:E3 X b tb):E3 X (.BinOp a .Mult b pos) (o3 (iC YA (·*·)) ta tb):=NQ qho E7 ha hb
def qjZ (ha:E3 X a ta) (hb:E3 X b tb):E3 X (.BinOp a .Mod b pos) (o3 (iC (λ_ j=>0<j) (·%·)) ta tb):=NQ qg0 E7 ha hb
def qkf (ha:E3 X a ta) (hb:E3 X b tb):E3 X (.BinOp a .FloorDiv b pos) (o3 (iC T3 (·/·)) ta tb):=NQ qd6 E7 ha hb
def qjD (ha:E3 X a ta) (hb:E3 X b tb):E3 X (.BinOp a .Pow b pos) (o3 (iC ED (λi j=>i ^ j.toNat)) ta tb):=NQ qh5 E7 ha hb
def qkr (ha:E3 X a ta) (hb:E3 X b tb):E3 X (.BinOp a .BitXor b pos) (o3 (iI Builtin.bitXor) ta tb):=NQ qg8 qcg ha hb
def qgp (ha:E3 X a ta) (hb:E3 X b tb):E3 X (.BinOp a .BitAnd b pos) (o3 (iI Builtin.bitAnd) ta tb):=NQ qim qcg ha hb
def qj9 (ha:E3 X a ta) (hb:E3 X b tb):E3 X (.BinOp a .LShift b pos) (o3 (iC ED (λi j=>i*2 ^ j.toNat)) ta tb):=NQ qgm E7 ha hb
def qi6 (ha:E3 X a ta) (hb:E3 X b tb):E3 X (.BinOp a .RShift b pos) (o3 (iC (λ_ j=>0<=j) (λi j=>i/2 ^ j.toNat)) ta tb):=NQ qeC E7 ha hb
def VU:T->T->Option Bool
 |.non,.non=>some true|.non,.int _=>some false|.int _,.non=>some false|.non,.bl _=>some false|.bl _,.non=>some false|.non,.str _=>some false|.str _,.non=>some false
 |.int i,.int j=>some (decide (i=j))|.bl i,.bl j=>some (decide (i=j))|.str i,.str j=>some (decide (i=j))
 |.int _,.str _=>some false|.str _,.int _=>some false|.bl _,.str _=>some false|.str _,.bl _=>some false
 |_,_=>none
def RN {K:Frg} {H:Hp} {x y:T} {v u:V} {k:Bool} (rx:Rp K H x v) (ry:Rp K H y u) (h:VU x y=some k):qj3 v u=true/\decide (v=u)=k:=by
 cases rx<;>cases ry<;>simp [VU] at h<;>subst h<;>refine ⟨rfl,?_⟩<;>simp
def qiZ (neg:Bool):R3:=λx y G q=>match y with|.non=>q (.bl (match x with|.non=>!neg|_=>neg)) G|_=>False
def qhg {K:Frg} {H:Hp} {x:T} {v:V} (rx:Rp K H x v):decide (v=.non)=(match x with|.non=>true|_=>false):=by
 cases rx<;>simp
def CF {K:Frg}:EC K (qiZ false) (λx y H Q=>y=.non/\Q (.bl (decide (x=.non))) H):=λx y v u G H q Q hr rx ry h af=>by
 cases y<;>try exact h.elim
 cases ry;refine ⟨rfl,?_⟩;rw [qhg rx];refine af _ G h _ H ?_ hr Kp.refl;cases x<;>exact .bl _
variable {tA tB:TT3} {YO:List Expr}
def or3 (t u:TT3):TT3:=λτ G q=>t τ G λk G1=>if k=true then q true G1 else u τ G1 q
def CT (t:TT3):TT3:=λτ G q=>t τ G λk G1=>q (!k) G1
def qjP (ha:C3 X a tA):W3 X (.BoolOp .Or [a] pos) tA:=qe4 ha
def qlI (ha:C3 X a tA) (hb:W3 X (.BoolOp .Or (b::YO) pos) tB):W3 X (.BoolOp .Or (a::b::YO) pos) (or3 tA tB):=
 qlq (qjk ha hb) λ_ _ _ ⟨τ,G,q,rl,h,af⟩=>XC rl h λk G1 h1 H1 hr1 k1 rl1=>by
  cases k with
  |true=>rw [if_pos rfl] at h1 ⊢;exact af _ G1 h1 H1 hr1 k1
  |false=>rw [if_neg Bool.false_ne_true] at h1 ⊢;exact ⟨τ,G1,q,rl1,h1,af.back k1⟩
def qjE (ha:C3 X a tA):C3 X (.UnaryOp .Not a pos) (CT tA):=
 qjv (qhZ ha) λ_ _ _ ⟨τ,G,q,rl,h,af⟩=>XC rl h λk G1 h1 H1 hr1 k1 rl1=>af _ G1 h1 H1 hr1 k1
def qjz {e:Expr} {t:TE3} (h:E3 X e t) (he:∀ whole,isTrue e X.env whole=(do let v←whole;standAt e.pos;holding [v] (truthy v)):=by intro _;rfl):C3 X e (tb3 t):=
 qjv (qe6 h he) λ_ _ _ h=>qf5 (λ_ _ _ h=>h) h
def ZJ (ta tb:TE3):TE3:=λτ G q=>ta τ G λx G1=>match x with|.bl k=>if k=true then tb τ G1 q else q (.bl false) G1|_=>False
def K5 (ta:TE3):TE3:=λτ G q=>ta τ G λx G1=>match x with|.bl k=>q (.bl (!k)) G1|_=>False
def qkH {op} (h:E3 X a ta):E3 X (.BoolOp op [a] pos) ta:=qfz h
def qjW (ha:E3 X a ta) (hb:E3 X (.BoolOp .And (b::YO) pos) tb):E3 X (.BoolOp .And (a::b::YO) pos) (ZJ ta tb):=
 EZ (qee ha hb) λ_ _ _ ⟨τ,G,q,rl,h,af⟩=>zx rl h λx G1 h1 v H1 rx hr1 k1 rl1=>by
  cases x with
  |bl k=>
   cases rx;refine ⟨k,rfl,?_⟩;cases k with
   |true=>rw [if_pos rfl];exact ⟨τ,G1,q,rl1,(show tb τ G1 q from by simpa using h1),af.back k1⟩
   |false=>rw [if_neg Bool.false_ne_true];exact af _ G1 (by simpa using h1) _ H1 (.bl false) hr1 k1
  |_=>exact h1.elim
def qkC (ha:E3 X a ta):E3 X (.UnaryOp .Not a pos) (K5 ta):=
 EZ (qhx ha) λ_ _ _ ⟨τ,G,q,rl,h,af⟩=>zx rl h λx G1 h1 v H1 rx hr1 k1 rl1=>by
  cases x with
  |bl k=>cases rx;exact ⟨k,rfl,af _ G1 h1 _ H1 (.bl _) hr1 k1⟩
  |_=>exact h1.elim
def if3 (t:TT3) (ta tb:TE3):TE3:=λτ G q=>t τ G λk G1=>if k=true then ta τ G1 q else tb τ G1 q
def qlj {c:Expr} (hc:C3 X c tA) (ha:E3 X a ta) (hb:E3 X b tb):E3 X (.IfExp c a b pos) (if3 tA ta tb):=
 EZ (qaO hc ha hb) λ_ _ _ ⟨τ,G,q,rl,h,af⟩=>XC rl h λk G1 h1 H1 hr1 k1 rl1=>by
  cases k with
  |true=>rw [if_pos rfl] at h1 ⊢;exact ⟨τ,G1,q,rl1,h1,af.back k1⟩
  |false=>rw [if_neg Bool.false_ne_true] at h1 ⊢;exact ⟨τ,G1,q,rl1,h1,af.back k1⟩
variable {e:Expr} {es:List Expr} {te:TE3} {t:TA3}
def qr:TA3:=λ_ G q=>q [] G
def qc (ta:TE3) (tr:TA3):TA3:=λτ G q=>ta τ G λx G1=>tr τ G1 λxs G2=>q (x::xs) G2
def qkI:A3 X [] qr:=qk7 CW λ_ H _ ⟨τ,G,q,rl,h,af⟩=>af _ G h _ H .nil rl.hp Kp.refl
def qgw (ha:E3 X e te) (hr:A3 X es t) (hs:starEach (e::es) X.env=(false,eval e X.env)::starEach es X.env:=by rfl):A3 X (e::es) (qc te t):=
 qk7 (Z7 ha hr hs) λ_ _ _ ⟨τ,G,q,rl,h,af⟩=>zx rl h λx G1 h1 v H1 rx hr1 k1 rl1=>YG rl1 h1 λxs G2 h2 vs H2 rs hr2 k2 rl2=>
  af _ G2 h2 _ H2 (.cons (rx.keep hr1 k2) rs) hr2 (k1.trans k2)
def LS (t:TA3):TE3:=λτ G q=>t τ G λxs G1=>xs.length<=sizeLine/\q (.tup xs) G1
def NM (t:TA3):TE3:=λτ G q=>t τ G λxs G1=>xs.length<=sizeLine/\∀ p,G1 p=none->q (.ref p) (gu G1 p (.lst xs))
def qkj {x1} (h:A3 X es t):E3 X (.Tuple es x1 pos) (LS t):=
 EZ (qbG h) λ_ _ _ ⟨τ,G,q,rl,h,af⟩=>YG rl h λxs G1 h1 vs H1 rs hr1 k1 rl1=>⟨by rw [← rs.length];exact h1.1,λp hp=>
  af _ G1 h1.2 _ _ (.tup (SqT.of qX) (rs.keep hr1 (Kp.laid hp))) (hr1.laid hp) (k1.trans (Kp.laid hp))⟩
def qjT (h:A3 X es t):E3 X (.List es pos) (NM t):=
 EZ (qhi h) λ_ _ _ ⟨τ,G,q,rl,h,af⟩=>YG rl h λxs G1 h1 vs H1 rs hr1 k1 rl1=>⟨by rw [← rs.length];exact h1.1,λp hp=>
  af _ _ (h1.2 p (hr1.free hp)) _ _ (.ref p) (hr1.newL hp rs) (k1.trans (Kp.newL hp))⟩
def SJ (K:Frg) (r3:List T->Gp->Q3->Prop) (r:List V->Hp->VK->Prop):Prop:=∀ xs vs G H q Q,HR K G H->Rps K H xs vs->r3 xs G q->Aft K G H q Q->r vs H Q
def cb3 (r:List T->Gp->Q3->Prop) (t:TA3):TE3:=λτ G q=>t τ G λxs G1=>r xs G1 q
def qev {K:Frg} {r3:List T->Gp->Q3->Prop} {r:List V->Hp->VK->Prop} (hr:SJ K r3 r) {σ:L2.St} {H:Hp} {Q:VK} (h:lE K (cb3 r3 t) σ H Q):tCB r (lA K t) σ H Q:=by
 obtain ⟨τ,G,q,rl,h,af⟩:=h;exact YG rl h λxs G1 h1 vs H1 rs hr1 k1 rl1=>hr xs vs G1 H1 q Q hr1 rs h1 (af.back k1)
def qc0 {x:Str} {p:Pos} {id:String} {r3:List T->Gp->Q3->Prop} {r:List V->Hp->VK->Prop} (hc:ZY X (.builtin id) r) (hr:SJ X.K r3 r) (hg:Gl X x) (hm:X.mg x=none) (hv:bootBuiltins x=some (.builtin id)) (ha:A3 X (e::es) t) (hn:x≠"__name__" := by decide) (hdb:(x==("__debug__" : Str))=false:=by decide)
  (he:starEach (e::es) X.env=(false,eval e X.env)::starEach es X.env:=by rfl) (hpl:(backTo pos (starEach es X.env)).any (·.1)=false:=by rfl):E3 X (.Call (.Name x p) (e::es) [] pos) (cb3 r3 t):=
 EZ (DU hc hg hm hv ha hn hdb he hpl) λ_ _ _ h=>qev hr h
def N5 {x:Str} {p:Pos} {ty:String} {r3:List T->Gp->Q3->Prop} {r:List V->Hp->VK->Prop} (hc:ZY X (.type ty) r) (hr:SJ X.K r3 r) (hg:Gl X x) (hm:X.mg x=none) (hv:bootBuiltins x=some (.type ty)) (ha:A3 X (e::es) t) (hn:x≠"__name__" := by decide) (hdb:(x==("__debug__" : Str))=false:=by decide)
  (he:starEach (e::es) X.env=(false,eval e X.env)::starEach es X.env:=by rfl) (hpl:(backTo pos (starEach es X.env)).any (·.1)=false:=by rfl):E3 X (.Call (.Name x p) (e::es) [] pos) (cb3 r3 t):=
 EZ (LZ hc hg hm hv ha hn hdb he hpl) λ_ _ _ h=>qev hr h
end
def getL (G:Gp) (p:Addr):Option (List T):=match G p with|some (.lst xs)=>some xs|some (.frz xs)=>some xs|none=>none
section
variable {K:Frg} {G G':Gp} {H H':Hp}
def zE (hr:HR K G H) {p:Addr} {xs:List T} (h:getL G p=some xs):∃ vs,SqL K H p vs/\Rps K H xs vs:=by
 unfold getL at h;split at h
 ·rename_i ys e;cases h;obtain ⟨vs,h1,h2⟩:=hr p _ e;exact ⟨vs,SqL.of h1,h2⟩
 ·rename_i ys e;cases h;obtain ⟨vs,⟨o,h1⟩,h2⟩:=hr p _ e;exact ⟨vs,.inl (.inr ⟨o,h1⟩),h2⟩
 ·cases h
def HR.lst (hr:HR K G H) {p:Addr} {xs:List T} (h:G p=some (.lst xs)):∃ vs,H p=some (.lst vs)/\Rps K H xs vs:=hr p _ h
def Rps.atI {xs:List T} {vs:List V} {i:Int} {x:T} (r:Rps K H xs vs) (h:atI xs i=some x):∃ v,L2.atI vs i=some v/\Rp K H x v:=by
 unfold L2.atI at h ⊢;rw [← r.length];cases e:ixN xs.length i with
 |none=>rw [e] at h;cases h
 |some j=>
  rw [e] at h;exact r.get (by simpa using h)
end
def ix3:R3:=λx y G q=>match x,y with
 |.tup xs,.int i=>(match atI xs i with|some z=>q z G|none=>False)
 |.ref p,.int i=>(match getL G p with|some xs=>(match atI xs i with|some z=>q z G|none=>False)|none=>False)
 |_,_=>False
section
variable {X:Cx} {a b c e:Expr} {es:List Expr} {ta tb tc te:TE3} {t:TA3} {pos:Pos}
def qh8 {K:Frg}:EC K ix3 (rIx K):=λx y v u G H q Q hr rx ry h af=>by
 cases x<;>try exact h.elim
 case tup xs=>
  cases y<;>try exact h.elim
  case int i=>
   unfold ix3 at h;simp only at h;split at h
   ·rename_i z e;cases ry;cases rx with
    |tup hs rs=>
     obtain ⟨w,e2,rw'⟩:=rs.atI e;exact .inr (.inl ⟨_,_,i,w,rfl,rfl,hs,e2,af z G h w H rw' hr Kp.refl⟩)
   ·exact h.elim
 case ref p=>
  cases y<;>try exact h.elim
  case int i=>
   unfold ix3 at h;simp only at h;split at h
   ·rename_i xs e0;split at h
    ·rename_i z e;cases ry;cases rx;obtain ⟨vs,hs,rs⟩:=zE hr e0;obtain ⟨w,e2,rw'⟩:=rs.atI e;exact .inl ⟨p,vs,i,w,rfl,rfl,hs,e2,af z G h w H rw' hr Kp.refl⟩
    ·exact h.elim
   ·exact h.elim
def qlG (ha:E3 X a ta) (hb:E3 X b tb) (hs:CQ b:=by intro _ _;rfl):E3 X (.Subscript a b pos) (o3 ix3 ta tb):=EZ (qjX qfJ ha hb hs) λ_ _ _ h=>LJ qh8 h
def NS {α:Type} (xs:List α) (lo hi:Option Int):List α:=(xs.drop (HT.sIx xs.length 0 lo)).take (HT.sIx xs.length xs.length hi-HT.sIx xs.length 0 lo)
def Rps.cut {K:Frg} {H:Hp} {xs:List T} {vs:List V} (r:Rps K H xs vs) (lo hi:Option Int):Rps K H (NS xs lo hi) (qbB vs lo hi):=by
 unfold NS qbB;rw [r.length];exact (r.drop _).take _
abbrev TO3:=St3->Gp->(Option Int->Gp->Prop)->Prop
def lO (K:Frg) (t:TO3):TO:=λσ H Q=>∃ τ G q,Rel K τ G σ H/\t τ G q/\∀ x G',q x G'->∀ H',HR K G' H'->Kp G H G' H'->Q x H'
abbrev P3 (X:Cx) (e:Option Expr) (t:TO3):Prop:=PO X e (lO X.K t)
def np3:TO3:=λ_ G q=>q none G
def sp3 (t:TE3):TO3:=λτ G q=>t τ G λx G1=>match x with|.int i=>q (some i) G1|_=>False
def qkX {X:Cx} {e:Option Expr} {t t':TO} (h:PO X e t) (w:∀ σ H Q,t' σ H Q->t σ H Q):PO X e t':=λpins s σ H Q I q=>h pins s σ H Q I (w σ H Q q)
def qeQ:P3 X none np3:=qkX qda λ_ H _ ⟨τ,G,q,rl,h,af⟩=>af none G h H rl.hp Kp.refl
def qeE (h:E3 X e te):P3 X (some e) (sp3 te):=qkX (qdr h) λ_ _ _ ⟨τ,G,q,rl,h,af⟩=>zx rl h λx G1 h1 v H1 rx hr1 k1 rl1=>by
 cases x<;>try exact h1.elim
 cases rx;exact ⟨_,rfl,af _ G1 h1 H1 hr1 k1⟩
def sl3:T->Option Int->Option Int->Gp->Q3->Prop:=λx lo hi G q=>match x with
 |.tup xs=>¬ (HT.sIx xs.length 0 lo=0/\HT.sIx xs.length xs.length hi=xs.length)/\q (.tup (NS xs lo hi)) G
 |.ref p=>(match getL G p with|some xs=>∀ a,G a=none->q (.ref a) (gu G a (.lst (NS xs lo hi)))|none=>False)
 |_=>False
def qdn (te:TE3) (tl th:TO3):TE3:=λτ G q=>te τ G λx G1=>tl τ G1 λl G2=>th τ G2 λu G3=>sl3 x l u G3 q
def qcK {lo hi:Option Expr} {tl th:TO3} {p2:Pos} (he:E3 X e te) (hl:P3 X lo tl) (hu:P3 X hi th):E3 X (.Subscript e (.Slice lo hi none p2) pos) (qdn te tl th):=
 EZ (qaq (qhF.or qcS) he hl hu) λ_ _ _ ⟨τ,G,q,rl,h,af⟩=>zx rl h λx G1 h1 v H1 rx hr1 k1 rl1=>
  ⟨τ,G1,_,rl1,h1,λl G2 h2 H2 hr2 k2=>⟨τ,G2,_,rl1.next hr2 k2,h2,λu G3 h3 H3 hr3 k3=>by
   have kk:=(k1.trans k2).trans k3;have rx3:=(rx.keep hr1 k2).keep hr2 k3;cases x<;>try exact h3.elim
   case tup xs=>
    cases rx3 with
    |tup hs rs=>
     refine .inl ⟨_,_,rfl,hs,by rw [← rs.length];exact h3.1,λp hp=>?_⟩;exact af _ G3 h3.2 _ _ (.tup (SqT.of qX) ((rs.cut _ _).keep hr3 (Kp.laid hp))) (hr3.laid hp) (kk.trans (Kp.laid hp))
   case ref p=>
    unfold sl3 at h3;simp only at h3;split at h3
    ·rename_i xs e0;cases rx3;obtain ⟨vs,hs,rs⟩:=zE hr3 e0;refine .inr ⟨p,vs,rfl,hs,λa ha=>?_⟩;exact af _ _ (h3 a (hr3.free ha)) _ _ (.ref a) (hr3.newL ha (rs.cut _ _)) (kk.trans (Kp.newL ha))
    ·exact h3.elim⟩⟩
def LL {K:Frg} {H:Hp} {xs:List T} {vs:List V} (r:Rps K H xs vs):vs=[]↔xs=[]:=by
 cases r<;>simp
def JG:R3:=λx y G q=>match x,y with
 |.tup xs,.tup ys=>xs≠[]/\xs.length+ys.length<=sizeLine/\q (.tup (xs++ys)) G
 |.ref a,.ref b=>(match G a,G b with|some (.lst xs),some (.lst ys)=>xs.length+ys.length<=sizeLine/\∀ p,G p=none->q (.ref p) (gu G p (.lst (xs++ys)))|_,_=>False)
 |.int i,.int j=>q (.int (i+j)) G
 |_,_=>False
def qdo {K:Frg}:EC K JG (λx y H Q=>(rI0 (λi j=>.int (i+j)) x y H Q\/qg4 K x y H Q)\/qkO x y H Q):=λx y v u G H q Q hr rx ry h af=>by
 cases x<;>try exact h.elim
 case int i=>
  cases y<;>try exact h.elim
  cases rx;cases ry;exact .inl (.inl ⟨_,_,rfl,rfl,af _ G h _ H (.int _) hr Kp.refl⟩)
 case tup xs=>
  cases y<;>try exact h.elim
  case tup ys=>
   obtain ⟨h1,h2,h3⟩:=h;cases rx with
   |tup hs rs=>
    cases ry with
    |tup hs' rs'=>
     refine .inl (.inr ⟨_,_,_,_,rfl,rfl,hs,hs',λz=>h1 ((LL rs).mp z),by rw [← rs.length,← rs'.length];exact h2,λz=>?_,λz p hp=>?_⟩)
     ·have e:=(LL rs').mp z;subst e;rw [List.append_nil] at h3;exact af _ G h3 _ H (.tup hs rs) hr Kp.refl
     ·exact af _ G h3 _ _ (.tup (SqT.of qX) ((rs.append rs').keep hr (Kp.laid hp))) (hr.laid hp) (Kp.laid hp)
 case ref a=>
  cases y<;>try exact h.elim
  case ref b=>
   unfold JG at h;simp only at h;split at h
   ·rename_i xs ys e1 e2;cases rx;cases ry;obtain ⟨vs,g1,r1⟩:=hr.lst e1;obtain ⟨us,g2,r2⟩:=hr.lst e2;refine .inr ⟨a,b,vs,us,rfl,rfl,g1,g2,by rw [← r1.length,← r2.length];exact h.1,λp hp=>?_⟩;exact af _ _ (h.2 p (hr.free hp)) _ _ (.ref p) (hr.newL hp (r1.append r2)) (Kp.newL hp)
   ·exact h.elim
def qfg (ha:E3 X a ta) (hb:E3 X b tb):E3 X (.BinOp a .Add b pos) (o3 JG ta tb):=NQ ((qer.or qd0).or qiw) qdo ha hb
def V8:List T->Gp->Q3->Prop:=λxs G q=>match xs with
 |[.tup ys]=>q (.int ys.length) G
 |[.str y]=>y.length<=sizeLine/\q (.int y.length) G
 |[.ref p]=>(match getL G p with|some ys=>q (.int ys.length) G|none=>False)
 |_=>False
def SM {K:Frg} {H:Hp} {x:T} {vs:List V} (r:Rps K H [x] vs):∃ v,vs=[v]/\Rp K H x v:=by
 cases r with
 |cons a b=>cases b;exact ⟨_,rfl,a⟩
def qi7 {K:Frg} {H:Hp} {x y:T} {vs:List V} (r:Rps K H [x,y] vs):∃ v u,vs=[v,u]/\Rp K H x v/\Rp K H y u:=by
 cases r with
 |cons a b=>cases b with|cons c d=>cases d;exact ⟨_,_,rfl,a,c⟩
def zO {K:Frg}:SJ K V8 (λxs H Q=>∃ x n,xs=[x]/\qkY K x H n/\Q (.int n) H):=λxs vs G H q Q hr rs h af=>by
 unfold V8 at h;split at h
 ·obtain ⟨v,rfl,r⟩:=SM rs;cases r with
  |tup hs r2=>exact ⟨_,_,rfl,.inr ⟨_,hs,rfl⟩,by rw [← r2.length];exact af _ G h _ H (.int _) hr Kp.refl⟩
 ·obtain ⟨v,rfl,r⟩:=SM rs;cases r;exact ⟨_,_,rfl,⟨h.1,rfl⟩,af _ G h.2 _ H (.int _) hr Kp.refl⟩
 ·obtain ⟨v,rfl,r⟩:=SM rs;split at h
  ·rename_i ys e;cases r;obtain ⟨us,hs,r2⟩:=zE hr e;exact ⟨_,_,rfl,.inl ⟨_,hs,rfl⟩,by rw [← r2.length];exact af _ G h _ H (.int _) hr Kp.refl⟩
  ·exact h.elim
 ·exact h.elim
def qgU:List T->Gp->Q3->Prop:=λxs G q=>match xs with|[.int i]=>q (.int (if i<0 then -i else i)) G|_=>False
def L8 {K:Frg}:SJ K qgU (λxs H Q=>∃ i,xs=[.int i]/\Q (.int (if i<0 then -i else i)) H):=λxs vs G H q Q hr rs h af=>by
 unfold qgU at h;split at h
 ·obtain ⟨v,rfl,r⟩:=SM rs;cases r;exact ⟨_,rfl,af _ G h _ H (.int _) hr Kp.refl⟩
 ·exact h.elim
def qfQ:List T->Gp->Q3->Prop:=λxs G q=>match xs with|[.int i,.int j]=>q (.int (if j<i then j else i)) G|_=>False
def qdF {K:Frg}:SJ K qfQ (λxs H Q=>∃ i j,xs=[.int i,.int j]/\Q (.int (if j<i then j else i)) H):=λxs vs G H q Q hr rs h af=>by
 unfold qfQ at h;split at h
 ·obtain ⟨v,u,rfl,r,r'⟩:=qi7 rs;cases r;cases r';exact ⟨_,_,rfl,af _ G h _ H (.int _) hr Kp.refl⟩
 ·exact h.elim
def WV:List T->Gp->Q3->Prop:=λxs G q=>match xs with
 |[.tup ys]=>q (.tup ys) G
 |[.ref p]=>(match getL G p with|some ys=>q (.tup ys) G|none=>False)
 |_=>False
def K7 {K:Frg}:SJ K WV (λxs H Q=>∃ p ys,xs=[.ref p]/\((SqL K H p ys/\∀ l,H l=none->Q (.ref l) (upd H l (.tup ys)))\/(SqT K H p ys/\Q (.ref p) H))):=λxs vs G H q Q hr rs h af=>by
 unfold WV at h;split at h
 ·obtain ⟨v,rfl,r⟩:=SM rs;cases r with
  |tup hs r2=>exact ⟨_,_,rfl,.inr ⟨hs,af _ G h _ H (.tup hs r2) hr Kp.refl⟩⟩
 ·obtain ⟨v,rfl,r⟩:=SM rs;split at h
  ·rename_i ys e;cases r;obtain ⟨us,hs,r2⟩:=zE hr e;exact ⟨_,_,rfl,.inl ⟨hs,λl hl=>af _ G h _ _ (.tup (SqT.of qX) (r2.keep hr (Kp.laid hl))) (hr.laid hl) (Kp.laid hl)⟩⟩
  ·exact h.elim
 ·exact h.elim
def S6:List T->Gp->Q3->Prop:=λxs G q=>match xs with
 |[.tup ys]=>∀ p,G p=none->q (.ref p) (gu G p (.lst ys))
 |[.ref p]=>(match getL G p with|some ys=>∀ p,G p=none->q (.ref p) (gu G p (.lst ys))|none=>False)
 |_=>False
def qaD {K:Frg}:SJ K S6 (λxs H Q=>∃ p ys,xs=[.ref p]/\(SqL K H p ys\/SqT K H p ys)/\∀ l,H l=none->Q (.ref l) (upd H l (.lst ys))):=λxs vs G H q Q hr rs h af=>by
 unfold S6 at h;split at h
 ·obtain ⟨v,rfl,r⟩:=SM rs;cases r with
  |tup hs r2=>exact ⟨_,_,rfl,.inr hs,λl hl=>af _ _ (h l (hr.free hl)) _ _ (.ref l) (hr.newL hl r2) (Kp.newL hl)⟩
 ·obtain ⟨v,rfl,r⟩:=SM rs;split at h
  ·rename_i ys e;cases r;obtain ⟨us,hs,r2⟩:=zE hr e;exact ⟨_,_,rfl,.inl hs,λl hl=>af _ _ (h l (hr.free hl)) _ _ (.ref l) (hr.newL hl r2) (Kp.newL hl)⟩
  ·exact h.elim
 ·exact h.elim
end
def tyT (G:Gp):T->Option String
 |.non=>some "NoneType" |.bl _=>some "bool" |.int _=>some "int" |.str _=>some "str" |.tup _=>some "tuple"
 |.ref p=>if (getL G p).isSome then some "list" else none
def jD (t c:String):Bool:=t==c||(t == "bool" && c == "int")
def WD (K:Frg):∀ t∈["NoneType","bool","int","str","tuple","list"],∀ c∈["bool","int","str","tuple","list"],PySem.W.kitOne K (.type t) (.type c)=some (jD t c):=by
 intro t ht c hc;simp only [mem_cons,not_mem_nil,or_false] at ht hc;rcases ht with rfl|rfl|rfl|rfl|rfl|rfl<;>rcases hc with rfl|rfl|rfl|rfl|rfl<;>kernel_rfl
section
variable {X:Cx} {a b c e:Expr} {es:List Expr} {ta tb tc te:TE3} {t:TA3} {pos:Pos}
def TyS (K:Frg) (H:Hp) (x:V) (t:String):Prop:=match x with
 |.non=>t="NoneType" |.bl _=>t="bool" |.int _=>t="int" |.str _=>t="str"
 |.ref a=>(t="tuple"/\∃ vs,SqT K H a vs)\/(t="list"/\∃ vs,SqL K H a vs)
 |_=>False
def TyS.mem {K:Frg} {H:Hp} {x:V} {t:String} (h:TyS K H x t):t∈["NoneType","bool","int","str","tuple","list"]:=by
 cases x<;>simp [TyS] at h<;>first|(subst h;decide)|(rcases h with ⟨rfl,_⟩|⟨rfl,_⟩<;>decide)
def TyS.kitx {pins:List (Addr×Obj)} {σ:L2.St} {H:Hp} {s:Shared} {x:V} {u:Value} {t:String} (I:Inv X pins σ H s) (rx:jr x u) (h:TyS X.K H x t) :
  ∃ HH:Heap->Prop,PySem.W.KitX X.K u (.type t) HH/\HH s.heap/\u≠.builtin "__main__.__loader__#opaque" := by
 cases x with
 |non=>cases (show u=Value.none from rx);cases (show t=_ from h);exact ⟨_,PySem.W.kitx_none,True.intro,λz=>nomatch z⟩
 |bl y=>cases (show u=Value.bool y from rx);cases (show t=_ from h);exact ⟨_,PySem.W.kitx_bool,True.intro,λz=>nomatch z⟩
 |int i=>obtain ⟨tk,q⟩:=(show ∃ t,u=Value.int i t from rx);cases q;cases (show t=_ from h);exact ⟨_,PySem.W.kitx_int,True.intro,λz=>nomatch z⟩
 |str y=>obtain ⟨tk,q⟩:=(show ∃ t,u=Value.str y t from rx);cases q;cases (show t=_ from h);exact ⟨_,PySem.W.kitx_str,True.intro,λz=>nomatch z⟩
 |ref a=>
  cases (show u=Value.ref a from rx);rcases (show (t="tuple"/\∃ vs,SqT X.K H a vs)\/(t="list"/\∃ vs,SqL X.K H a vs) from h) with ⟨rfl,vs,hs⟩|⟨rfl,vs,hs⟩
  ·obtain ⟨its,_,p,_⟩:=I.tuple hs;obtain ⟨o,h1,h2,_⟩:=p;exact ⟨_,PySem.W.kitx_tuple,⟨o,h1,h2⟩,λz=>nomatch z⟩
  ·obtain ⟨its,_,p,_⟩:=I.list hs;obtain ⟨o,n,h1,h2,_⟩:=p;exact ⟨_,PySem.W.kitx_list,⟨o,h1,h2⟩,λz=>nomatch z⟩
 |_=>exact False.elim h
abbrev jA:List String:=["bool","int","str","tuple","list"]
def qaI:ZY X (.builtin "isinstance") (λxs H Q=>∃ x t c,xs=[x,.ty c]/\TyS X.K H x t/\c∈jA/\Q (.bl (jD t c)) H):=by
 intro pins s σ H xs us Q I r h;obtain ⟨x,t,c,rfl,ht,hc,q⟩:=h;obtain ⟨u,w,rfl,rx,rc⟩:=MZ r;cases (show w=Value.type c from rc);obtain ⟨HH,kx,hh,ne⟩:=ht.kitx I rx;exact PySem.W.kia_one kx I.kIn hh (WD X.K t ht.mem c hc) ne λtk=>⟨.bl _,H,I.tok tk,rfl,q⟩
def NT (K:Frg) {t c d:String} (ht:t∈["NoneType","bool","int","str","tuple","list"]) (hc:c∈jA) (hd:d∈jA):PySem.W.kitAny K (.type t) [.type c,.type d]=some (jD t c||jD t d):=by
 unfold PySem.W.kitAny;rw [WD K t ht c hc];cases jD t c with
 |true=>rfl
 |false=>
  show PySem.W.kitAny K (.type t) [.type d]=_;unfold PySem.W.kitAny;rw [WD K t ht d hd];cases jD t d<;>rfl
def K3:ZY X (.builtin "isinstance") (λxs H Q=>∃ x t c d p,xs=[x,.ref p]/\H p=some (.tup [.ty c,.ty d])/\TyS X.K H x t/\c∈jA/\d∈jA/\Q (.bl (jD t c||jD t d)) H):=by
 intro pins s σ H xs us Q I r h;obtain ⟨x,t,c,d,p,rfl,hp,ht,hc,hd,q⟩:=h;obtain ⟨u,w,rfl,rx,rc⟩:=MZ r;cases (show w=Value.ref p from rc);obtain ⟨HH,kx,hh,ne⟩:=ht.kitx I rx;obtain ⟨_,its,rv,⟨o,ho,hcl,n,hda⟩⟩:=(show JI X.prog X.w H s.heap p (.tup [.ty c,.ty d]) from I.hok p _ hp)
 obtain ⟨u1,u2,rfl,r1,r2⟩:=MZ rv;cases (show u1=Value.type c from r1);cases (show u2=Value.type d from r2);obtain ⟨cl,dd,da,sl⟩:=o;cases (show cl=_ from hcl);cases (show da=_ from hda);exact PySem.W.kia_tup kx I.kIn hh ho (NT X.K ht.mem hc hd) ne λtk=>⟨.bl _,H,I.tok tk,rfl,q⟩
def qbK {K:Frg} {G:Gp} {H:Hp} (hr:HR K G H) {x:T} {v:V} {t:String} (r:Rp K H x v) (h:tyT G x=some t):TyS K H v t:=by
 cases r with
 |non=>cases h;rfl
 |bl _=>cases h;rfl
 |int _=>cases h;rfl
 |str _=>cases h;rfl
 |tup hs rs=>cases h;exact .inl ⟨rfl,_,hs⟩
 |ref a=>
  have h:(if (getL G a).isSome then some "list" else none)=some t:=h;split at h
  ·rename_i e;cases h;obtain ⟨ys,e⟩:=Option.isSome_iff_exists.mp e;obtain ⟨us,hs,_⟩:=zE hr e;exact .inr ⟨rfl,us,hs⟩
  ·cases h
def V3 (f:String->Bool) (te:TE3):TE3:=λτ G q=>te τ G λx G1=>match tyT G1 x with|some t=>q (.bl (f t)) G1|none=>False
def qj4 {tn:Str} {ty:String} {p p2:Pos} (he:E3 X e te) (hg:Gl X "isinstance") (hm:X.mg "isinstance" = none) (hg2:Gl X tn) (hm2:X.mg tn=none) (hv:bootBuiltins tn=some (.type ty)) (hmem:ty∈jA:=by decide) (hn:tn≠"__name__" := by decide) (hdb:(tn==("__debug__" : Str))=false:=by decide)
  (hs:starEach [e,.Name tn p2] X.env=(false,eval e X.env)::starEach [.Name tn p2] X.env:=by rfl) (hs2:starEach [.Name tn p2] X.env=(false,eval (.Name tn p2) X.env)::starEach [] X.env:=by rfl) (hpl:(backTo pos (starEach [.Name tn p2] X.env)).any (·.1)=false:=by rfl) :
  E3 X (.Call (.Name "isinstance" p) [e,.Name tn p2] [] pos) (V3 (λt=>jD t ty) te):=
 EZ (DU qaI hg hm PyProof.Rows.boot_isinstance (Z7 he (Z7 (X4 (v:=.ty ty) hg2 hm2 hv rfl hn hdb) CW hs2) hs) (by decide) (by decide) hs hpl)
  λ_ _ _ ⟨τ,G,q,rl,h,af⟩=>zx rl h λx G1 h1 v H1 rx hr1 k1 rl1=>by
   split at h1
   ·rename_i t e1;exact ⟨_,t,ty,rfl,qbK hr1 rx e1,hmem,af _ G1 h1 _ H1 (.bl _) hr1 k1⟩
   ·exact h1.elim
def qgv {tn tn':Str} {ty ty':String} {p p2 p3 p4:Pos} {x1} (he:E3 X e te) (hg:Gl X "isinstance") (hm:X.mg "isinstance" = none) (hg2:Gl X tn) (hm2:X.mg tn=none) (hv:bootBuiltins tn=some (.type ty)) (hg3:Gl X tn') (hm3:X.mg tn'=none) (hv3:bootBuiltins tn'=some (.type ty'))
  (hmem:ty∈jA:=by decide) (hn:tn≠"__name__" := by decide) (hdb:(tn==("__debug__" : Str))=false:=by decide) (hmem3:ty'∈jA:=by decide) (hn3:tn'≠"__name__" := by decide) (hdb3:(tn'==("__debug__" : Str))=false:=by decide)
  (hs:starEach [e,.Tuple [.Name tn p2,.Name tn' p3] x1 p4] X.env=(false,eval e X.env)::starEach [.Tuple [.Name tn p2,.Name tn' p3] x1 p4] X.env:=by rfl) (hs2:starEach [.Tuple [.Name tn p2,.Name tn' p3] x1 p4] X.env=(false,eval (.Tuple [.Name tn p2,.Name tn' p3] x1 p4) X.env)::starEach [] X.env:=by rfl)
  (hs3:starEach [.Name tn p2,.Name tn' p3] X.env=(false,eval (.Name tn p2) X.env)::starEach [.Name tn' p3] X.env:=by rfl) (hs4:starEach [.Name tn' p3] X.env=(false,eval (.Name tn' p3) X.env)::starEach [] X.env:=by rfl)
  (hpl:(backTo pos (starEach [.Tuple [.Name tn p2,.Name tn' p3] x1 p4] X.env)).any (·.1)=false:=by rfl) :
  E3 X (.Call (.Name "isinstance" p) [e,.Tuple [.Name tn p2,.Name tn' p3] x1 p4] [] pos) (V3 (λt=>jD t ty||jD t ty') te):=
 EZ (DU K3 hg hm PyProof.Rows.boot_isinstance (Z7 he (Z7 (qbG (Z7 (X4 (v:=.ty ty) hg2 hm2 hv rfl hn hdb) (Z7 (X4 (v:=.ty ty') hg3 hm3 hv3 rfl hn3 hdb3) CW hs4) hs3)) CW hs2) hs) (by decide) (by decide) hs hpl)
  λ_ _ _ ⟨τ,G,q,rl,h,af⟩=>zx rl h λx G1 h1 v H1 rx hr1 k1 rl1=>by
   refine ⟨by show 2<=sizeLine;decide,λpp hp=>?_⟩;split at h1
   ·rename_i t e1;have hr2:=hr1.laid (ho:=.tup [.ty ty,.ty ty']) hp;have kk:Kp G1 H1 G1 (upd H1 pp (.tup [.ty ty,.ty ty'])):=Kp.laid hp;exact ⟨_,t,ty,ty',pp,rfl,qX,qbK hr2 (rx.keep hr1 kk) e1,hmem,hmem3,af _ G1 h1 _ _ (.bl _) hr2 (k1.trans kk)⟩
   ·exact h1.elim
structure Ends3 where
 nx:St3->Gp->Prop
 rt:Q3
 bk:St3->Gp->Prop:=λ_ _=>False
 ct:St3->Gp->Prop:=λ_ _=>False
abbrev TS3:=Ends3->St3->Gp->Prop
def qci (K:Frg) (G:Gp) (H:Hp) (q:St3->Gp->Prop) (Q:L2.St->Hp->Prop):Prop:=∀ τ G',q τ G'->∀ σ H',Rel K τ G' σ H'->Kp G H G' H'->Q σ H'
structure AftD (K:Frg) (G:Gp) (H:Hp) (d:Ends3) (D:Ends):Prop where
 nx:qci K G H d.nx D.nx
 rt:Aft K G H d.rt D.rt
 bk:qci K G H d.bk D.bk
 ct:qci K G H d.ct D.ct
def qci.back {K:Frg} {G G1:Gp} {H H1:Hp} {q:St3->Gp->Prop} {Q:L2.St->Hp->Prop} (a:qci K G H q Q) (k:Kp G H G1 H1):qci K G1 H1 q Q:=λx G' h v H' r k'=>a x G' h v H' r (k.trans k')
def AftD.back {K:Frg} {G G1:Gp} {H H1:Hp} {d:Ends3} {D:Ends} (a:AftD K G H d D) (k:Kp G H G1 H1):AftD K G1 H1 d D:=⟨a.nx.back k,a.rt.back k,a.bk.back k,a.ct.back k⟩
def lS (K:Frg) (t:TS3):TS:=λD σ H=>∃ τ G d,Rel K τ G σ H/\t d τ G/\AftD K G H d D
abbrev S3 (X:Cx) (st:Stmt) (t:TS3):Prop:=PS X st (lS X.K t)
abbrev B3 (X:Cx) (st:List Stmt) (t:TS3):Prop:=PSs X st (lS X.K t)
def NZ {X:Cx} {st:Stmt} {t t':TS} (h:PS X st t) (w:∀ D σ H,t' D σ H->t D σ H):PS X st t':=λpins s σ H D I q=>h pins s σ H D I (w D σ H q)
def qf4 {X:Cx} {st:List Stmt} {t t':TS} (h:PSs X st t) (w:∀ D σ H,t' D σ H->t D σ H):PSs X st t':=λpins s σ H D I q=>h pins s σ H D I (w D σ H q)
variable {st:Stmt} {YO:List Stmt} {t1 t2:TS3} {tA:TT3}
def zc:TS3:=λd τ G=>d.nx τ G
def za (t u:TS3):TS3:=λd τ G=>t { d with nx:=u d } τ G
def qj0:B3 X [] zc:=qf4 qcN λ_ σ H ⟨τ,G,d,rl,h,af⟩=>af.nx τ G h σ H rl Kp.refl
def qhH (h1:S3 X st t1) (h2:B3 X YO t2):B3 X (st::YO) (za t1 t2):=qf4 (qaN h1 h2) λD σ H ⟨τ,G,d,rl,h,af⟩=>
 ⟨τ,G,{ d with nx:=t2 d },rl,h,⟨λτ' G' h' σ' H' rl' k'=>⟨τ',G',d,rl',h',af.back k'⟩,af.rt,af.bk,af.ct⟩⟩
def qjG (h1:S3 X st t1):B3 X [st] t1:=qdC h1
def qaf (te:TE3):TS3:=λd τ G=>te τ G λ_ G1=>d.nx τ G1
def qgh (he:E3 X e te) (hs:swapsWith e none pos.line X.env=pure false:=by rfl):S3 X (.Expr e pos) (qaf te):=NZ (qdS he hs) λ_ σ H ⟨τ,G,d,rl,h,af⟩=>
 zx rl h λx G1 h1 v H1 rx hr1 k1 rl1=>af.nx τ G1 h1 σ H1 rl1 k1
def zu (te:TE3):TS3:=λd τ G=>te τ G d.rt
def qkA (he:E3 X e te):S3 X (.Return (some e) pos) (zu te):=NZ (qis he) λ_ σ H ⟨τ,G,d,rl,h,af⟩=>⟨τ,G,d.rt,rl,h,af.rt⟩
def Q2 (c:TT3) (t u:TS3):TS3:=λd τ G=>c τ G λk G1=>if k=true then t d τ G1 else u d τ G1
def qlu {c:Expr} {ba bb:List Stmt} (hc:C3 X c tA) (ha:B3 X ba t1) (hb:B3 X bb t2):S3 X (.If c ba bb pos) (Q2 tA t1 t2):=NZ (qkt hc ha hb) λ_ σ H ⟨τ,G,d,rl,h,af⟩=>
 XC rl h λk G1 h1 H1 hr1 k1 rl1=>by
  cases k with
  |true=>rw [if_pos rfl] at h1 ⊢;exact ⟨τ,G1,d,rl1,h1,af.back k1⟩
  |false=>rw [if_neg Bool.false_ne_true] at h1 ⊢;exact ⟨τ,G1,d,rl1,h1,af.back k1⟩
def qiX:TS3:=λ_ _ _=>False
def qd7 {sts:List Stmt}:B3 X sts qiX:=λ_ _ _ _ _ _ ⟨_,_,_,_,h,_⟩=>h.elim
abbrev TG3:=T->St3->Gp->(St3->Gp->Prop)->Prop
abbrev X3:=List T->St3->Gp->(St3->Gp->Prop)->Prop
def lG (K:Frg) (t:TG3):TG:=λv σ H Q=>∃ x τ G q,Rp K H x v/\Rel K τ G σ H/\t x τ G q/\qci K G H q Q
def lGs (K:Frg) (t:X3):TGs:=λv σ H Q=>∃ x τ G q,Rps K H x v/\Rel K τ G σ H/\t x τ G q/\qci K G H q Q
abbrev G3 (X:Cx) (e:Expr) (t:TG3):Prop:=PG X e (lG X.K t)
abbrev Gs3 (X:Cx) (es:List Expr) (t:X3):Prop:=PGs X es (lGs X.K t)
def qko {X:Cx} {e:Expr} {t t':TG} (h:PG X e t) (w:∀ v σ H Q,t' v σ H Q->t v σ H Q):PG X e t':=λpins s σ H v u Q I r q=>h pins s σ H v u Q I r (w v σ H Q q)
def qe9 {X:Cx} {e:List Expr} {t t':TGs} (h:PGs X e t) (w:∀ v σ H Q,t' v σ H Q->t v σ H Q):PGs X e t':=λpins s σ H v u Q I r q=>h pins s σ H v u Q I r (w v σ H Q q)
def gn3 (i:Nat):TG3:=λx τ G q=>q (τ.set i (some x)) G
def qgb {i:Nat} {x:Str} (hN:X.N.Nodup) (hi:X.N[i]?=some x:=by rfl) (hx:Loc X.env.scope x:=by first|exact Or.inl rfl|exact Or.inr rfl) (hf:X.fn x=true\/X.env.scope.names.lookup x=some .local:=by first|exact .inl rfl|exact .inr rfl):G3 X (.Name x pos) (gn3 i):=
 qko (qdU hN hi hx hf) λv σ H Q ⟨x,τ,G,q,rx,rl,h,af⟩=>af _ G h _ H (rl.set i rx) Kp.refl
def JB:X3:=λxs τ G q=>match xs with|[]=>q τ G|_=>False
def qI (t:TG3) (u:X3):X3:=λxs τ G q=>match xs with|x::r=>t x τ G λτ' G'=>u r τ' G' q|[]=>False
def qjY:Gs3 X [] JB:=qe9 qdT λv σ H Q ⟨x,τ,G,q,rx,rl,h,af⟩=>by
 cases rx with
 |nil=>exact ⟨rfl,af _ G h _ H rl Kp.refl⟩
 |cons _ _=>exact h.elim
def qf6 {tg:TG3} {tgs:X3} (h1:G3 X e tg) (h2:Gs3 X es tgs) (hs:(assignEach (e::es) X.env).map (·.2)=assign e X.env::(assignEach es X.env).map (·.2):=by rfl):Gs3 X (e::es) (qI tg tgs):=qe9 (N4 h1 h2 hs) λv σ H Q ⟨x,τ,G,q,rx,rl,h,af⟩=>by
 cases rx with
 |nil=>exact h.elim
 |cons r rs=>exact ⟨_,_,rfl,_,τ,G,_,r,rl,h,λτ' G' h' σ' H' rl' k'=>⟨_,τ',G',q,rs.keep rl.hp k',rl',h',af.back k'⟩⟩
def Z8 (n:Nat) (t:X3):TG3:=λx τ G q=>match x with|.tup xs=>xs.length=n/\t xs τ G q|_=>False
def qj8 {k:Nat} {tgs:X3} {n:Nat} (hc:X.calm=true) (h:Gs3 X es tgs) (hn:(assignEach es X.env).length=n:=by rfl) (hst:(assignEach es X.env).findIdx? (·.1)=none:=by rfl):G3 X (.Tuple es k pos) (Z8 n tgs):=
 qko (qhK hc h hn hst) λv σ H Q ⟨x,τ,G,q,rx,rl,h,af⟩=>by
  cases x<;>try exact h.elim
  case tup xs=>
   cases rx with
   |tup hs rs=>exact ⟨_,_,rfl,hs,by rw [← rs.length];exact h.1,_,τ,G,q,rs,rl,h.2,af⟩
def qcU:T->T->T->Gp->(Gp->Prop)->Prop:=λo i v G q=>match o,i with
 |.ref p,.int k=>(match G p with|some (.lst xs)=>(match ixN xs.length k with|some j=>q (gu G p (.lst (xs.set j v)))|none=>False)|_=>False)
 |_,_=>False
def D9 (to ti:TE3):TG3:=λx τ G q=>to τ G λo G1=>ti τ G1 λi G2=>qcU o i x G2 λG3=>q τ G3
def qkd {o i : Expr} {to ti : TE3} (ho : E3 X o to) (hi : E3 X i ti) (ha : ∀ v,assign (.Subscript o i pos) X.env v = (do
      let ov←holding [v] (eval o X.env)
      let iv←holding [v,ov] (eval i X.env)
      standAt pos
      holding [v,ov,iv] (setItem ov iv v)
      release [v,ov,iv] []):=by intro _;rfl):G3 X (.Subscript o i pos) (D9 to ti):=
  qko (qeD ho hi NY ha) λv σ H Q ⟨x,τ,G,q,rx,rl,h,af⟩=>zx rl h λy G1 h1 u H1 ry hr1 k1 rl1=>zx rl1 h1 λz G2 h2 w H2 rz hr2 k2 rl2=>by
    have rx2:=(rx.keep rl.hp k1).keep hr1 k2;have ry2:=ry.keep hr1 k2;unfold qcU at h2;split at h2
    · rename_i p k;split at h2
      · rename_i xs e;split at h2
        · rename_i j ej;cases ry2;cases rz;obtain ⟨vs,g1,r1⟩:=hr2.lst e;have kk:Kp G2 H2 (gu G2 p (.lst (xs.set j x))) (upd H2 p (.lst (vs.set j v))):=Kp.wr e;exact ⟨p,vs,k,j,rfl,rfl,g1,by rw [← r1.length];exact ej,af τ _ h2 σ _ (rl2.next (hr2.wr e (r1.set rx2 j)) kk) ((k1.trans k2).trans kk)⟩
        · exact h2.elim
      · exact h2.elim
    · exact h2.elim
def zT (te:TE3) (g:TG3):TS3:=λd τ G=>te τ G λx G1=>g x τ G1 d.nx
def qjF {tg e:Expr} {g:TG3} (he:E3 X e te) (hg:G3 X tg g) (hs:swapsWithSole [tg] e pos.line X.env=pure false:=by rfl) (hw:swappedStores [tg] e X.env=pure none:=by rfl)
  (h1:(assignEach [tg] X.env).map (·.2)=[assign tg X.env]:=by rfl):S3 X (.Assign [tg] e pos) (zT te g):=NZ (qg3 he hg hs hw h1) λ_ σ H ⟨τ,G,d,rl,h,af⟩=>
 zx rl h λx G1 h1 v H1 rx hr1 k1 rl1=>⟨x,τ,G1,d.nx,rx,rl1,h1,af.nx.back k1⟩
def qjr (i:Nat) {x:Str} {e:Expr} {pos':Pos} (hN:X.N.Nodup) (he:E3 X e te) (hi:X.N[i]?=some x:=by rfl) (hx:Loc X.env.scope x:=by first|exact Or.inl rfl|exact Or.inr rfl) (hs:swapsWith e (some (.Name x pos')) pos.line X.env=pure false:=by rfl) (hf:X.fn x=true\/X.env.scope.names.lookup x=some .local:=by first|exact .inl rfl|exact .inr rfl) :
  S3 X (.Assign [.Name x pos'] e pos) (zT te (gn3 i)):=NZ (qfh hN hi hx he hs hf) λ_ σ H ⟨τ,G,d,rl,h,af⟩=>
 zx rl h λx G1 h1 v H1 rx hr1 k1 rl1=>af.nx _ G1 h1 _ H1 (rl1.set i rx) k1
def qgz (i j:Nat) (ta:TA3):TS3:=λd τ G=>ta τ G λxs G1=>match xs with|[x,y]=>d.nx ((τ.set i (some x)).set j (some y)) G1|_=>False
def qjc {i j:Nat} {x y:Str} {a b:Expr} {tt:TA3} {px py pt:Pos} {kt k2 pt2} (hc:X.calm=true) (hN:X.N.Nodup) (hi:X.N[i]?=some x) (hj:X.N[j]?=some y) (hij:i≠j)
  (hx:X.env.scope.names.lookup x=some .local) (hy:X.env.scope.names.lookup y=some .local) (ha:A3 X [a,b] tt)
  (hw:swappedStores [.Tuple [.Name x px,.Name y py] kt pt] (.Tuple [a,b] k2 pt2) X.env=pure (some [x,y]):=by rfl)
  (hs:swapsWithSole [.Tuple [.Name x px,.Name y py] kt pt] (.Tuple [a,b] k2 pt2) pos.line X.env=pure false:=by rfl) :
  S3 X (.Assign [.Tuple [.Name x px,.Name y py] kt pt] (.Tuple [a,b] k2 pt2) pos) (qgz i j tt):=NZ (qgR hc hN hi hj hij hx hy ha hw hs) λ_ σ H ⟨τ,G,d,rl,h,af⟩=>
 YG rl h λxs G1 h1 vs H1 rs hr1 k1 rl1=>by
  split at h1
  ·obtain ⟨v,u,rfl,r,r'⟩:=qi7 rs;exact ⟨v,u,rfl,af.nx _ G1 h1 _ H1 ((rl1.set i r).set j r') k1⟩
  ·exact h1.elim
end
abbrev TI3:=St3->Gp->(List T->(Gp->Prop)->Gp->Prop)->Prop
def qec (K:Frg) (J:It) (items:List T) (stay:Gp->Prop) (G0:Gp) (H0:Hp):Prop:=∀ G H,HR K G H->Kp G0 H0 G H->stay G ->
 (∀ i x,items[i]?=some x->J.go i H)/\(∀ i x v H',items[i]?=some x->J.yld i H v H'->Rp K H' x v/\HR K G H'/\Kp G H G H')/\J.stop items.length H
def lI (K:Frg) (wi:TI3):TI:=λσ H R=>∃ τ G r,Rel K τ G σ H/\wi τ G r/\∀ items stay G',r items stay G'->∀ J H',HR K G' H'->Kp G H G' H'->qec K J items stay G' H'->R J H'
abbrev I3 (X:Cx) (tg iter:Expr) (wi:TI3):Prop:=PI X tg iter (lI X.K wi)
def qiL {X:Cx} {tg e:Expr} {t t':TI} (h:PI X tg e t) (w:∀ σ H R,t' σ H R->t σ H R):PI X tg e t':=λpins s σ H R I q=>h pins s σ H R I (w σ H R q)
section
variable {X:Cx} {a b c e l tg:Expr} {es:List Expr} {ta tb tc te:TE3} {t:TA3} {pos:Pos}
def qhb {tl:TE} (hl:PE X l tl):PI X tg l (λσ H R=>tl σ H λx H1=>∃ a,x=.ref a/\(((∃ xs,SqL X.K H1 a xs)/\R (Itl X.K a) H1)\/((∃ xs,SqT X.K H1 a xs)/\R (Itt X.K a) H1))):=by
 intro pins s σ H R I h;refine thn (hl pins s σ H _ I h) λv s1 ⟨x,H1,I1,r1,q1⟩=>?_;obtain ⟨a,e,⟨⟨xs,hq⟩,q⟩|⟨⟨xs,hq⟩,q⟩⟩:=q1
 ·subst e;cases r1;obtain ⟨its,rv,p,hz⟩:=I1.list hq;refine wpAny_pyIter_list p.isList ?_;refine ⟨s1.heap.objs.size,[s1.heap.objs.size],_,_,H1,rfl,I1.kept (t':=s1.toks) λb o e=>Heap.get?_push_of_some _ e,KA a _,⟨_,Heap.get?_push_size _ rfl,rfl,rfl⟩,λb hb=>?_,q⟩;have e:b=s1.heap.objs.size:=by simpa using hb
  subst e;exact I1.fpOk (Nat.le_refl _) (I1.hok.fresh (Nat.le_refl _))
 ·subst e;cases r1;obtain ⟨its,rv,p,hz⟩:=I1.tuple hq;refine wpAny_pyIter_tuple (show s1.heap.IsTuple a its.toArray from p) ?_;refine ⟨s1.heap.objs.size,[s1.heap.objs.size],_,_,H1,rfl,I1.kept (t':=s1.toks) λb o e=>Heap.get?_push_of_some _ e,SL a _,⟨_,Heap.get?_push_size _ rfl,rfl,rfl⟩,λb hb=>?_,q⟩;have e:b=s1.heap.objs.size:=by simpa using hb
  subst e;exact I1.fpOk (Nat.le_refl _) (I1.hok.fresh (Nat.le_refl _))
def KQ (tl:TE3):TI3:=λτ G r=>tl τ G λx G1=>match x with
 |.tup xs=>r xs (λ_=>True) G1
 |.ref p=>(match getL G1 p with|some xs=>r xs (λG=>getL G p=some xs) G1|none=>False)
 |_=>False
def qgT {K:Frg} {p:Addr} {xs:List T} {G0:Gp} {H0:Hp}:qec K (Itl K p) xs (λG=>getL G p=some xs) G0 H0:=by
 intro G H hr _ hs;obtain ⟨vs,sq,rs⟩:=zE hr hs;refine ⟨λi x hi=>?_,λi x v H' hi y=>?_,⟨vs,sq,by rw [rs.length];exact Nat.le_refl _⟩⟩
 ·obtain ⟨v,hv,_⟩:=rs.get hi;exact ⟨vs,v,sq,hv⟩
 ·obtain ⟨e,y⟩:=y;subst e;obtain ⟨w,hw,rw'⟩:=rs.get hi;have e2:=(y vs sq).symm.trans hw;cases e2;exact ⟨rw',hr,Kp.refl⟩
def qeX {K:Frg} {p:Addr} {xs:List T} {vs:List V} {G0:Gp} {H0:Hp} (hr0:HR K G0 H0) (sq0:SqT K H0 p vs) (rs0:Rps K H0 xs vs):qec K (Itt K p) xs (λ_=>True) G0 H0:=by
 intro G H hr k _;have sq:=DL hr0 k sq0;have rs:=rs0.keep hr0 k;refine ⟨λi x hi=>?_,λi x v H' hi y=>?_,⟨vs,sq,by rw [rs.length];exact Nat.le_refl _⟩⟩
 ·obtain ⟨v,hv,_⟩:=rs.get hi;exact ⟨vs,v,sq,hv⟩
 ·obtain ⟨e,y⟩:=y;subst e;obtain ⟨w,hw,rw'⟩:=rs.get hi;have e2:=(y vs sq).symm.trans hw;cases e2;exact ⟨rw',hr,Kp.refl⟩
def qkq (hl:E3 X l te):I3 X tg l (KQ te):=qiL (qhb hl) λσ H R ⟨τ,G,r,rl,h,af⟩=>zx rl h λx G1 h1 v H1 rx hr1 k1 rl1=>by
 cases x<;>try exact h1.elim
 case tup xs=>
  cases rx with
  |tup hs rs=>exact ⟨_,rfl,.inr ⟨⟨_,hs⟩,af _ _ G1 h1 _ H1 hr1 k1 (qeX hr1 hs rs)⟩⟩
 case ref p=>
  simp only at h1;split at h1
  ·rename_i xs e0;cases rx;obtain ⟨vs,hs,rs⟩:=zE hr1 e0;exact ⟨_,rfl,.inl ⟨⟨_,hs⟩,af _ _ G1 h1 _ H1 hr1 k1 qgT⟩⟩
  ·exact h1.elim
def LI (lo:Int) (n:Nat):List T:=(List.range n).map λ(i:Nat)=>T.int (lo+(i:Int))
def qgr {K:Frg} {lo:Int} {n:Nat} {G0:Gp} {H0:Hp}:qec K (Itr lo n) (LI lo n) (λ_=>True) G0 H0:=by
 intro G H hr k _;have hl:(LI lo n).length=n:=by simp [LI]
 refine ⟨λi x hi=>?_,λi x v H' hi y=>?_,(show n<=(LI lo n).length by rw [hl];exact Nat.le_refl n)⟩
 ·have:=(List.getElem?_eq_some_iff.mp hi).1;rw [hl] at this;exact this
 ·obtain ⟨e,y⟩:=y;subst e;subst y;have h1:=(List.getElem?_eq_some_iff.mp hi).1;rw [hl] at h1;unfold LI at hi;rw [getElem?_map,List.getElem?_range h1] at hi;have e:T.int (lo+(i:Int))=x:=by simpa using hi
  subst e;exact ⟨.int _,hr,Kp.refl⟩
def YR (ta:TA3):TI3:=λτ G r=>ta τ G λxs G1=>match xs with
 |[.int j]=>(-(2 ^ 62)<=j/\j<2 ^ 62)/\r (LI 0 j.toNat) (λ_=>True) G1
 |[.int i,.int j]=>(-(2 ^ 62)<=i/\i<2 ^ 62/\-(2 ^ 62)<=j/\j<2 ^ 62)/\r (LI i (j-i).toNat) (λ_=>True) G1
 |_=>False
def qaL {p:Pos} (hg:Gl X "range") (hm:X.mg "range" = none) (ha:A3 X [a] t) (hs:starEach [a] X.env=[(false,eval a X.env)]:=by rfl) (h1:∀ τ G q,t τ G q->t τ G λxs G=>q xs G/\xs.length=1):I3 X tg (.Call (.Name "range" p) [a] [] pos) (YR t):=
 qiL (LV hg hm ha hs) λσ H R ⟨τ,G,r,rl,h,af⟩=>YG rl (h1 _ _ _ h) λxs G1 h1 vs H1 rs hr1 k1 rl1=>by
  obtain ⟨h1,hl⟩:=h1;simp only at h1;split at h1
  ·obtain ⟨v,rfl,r1⟩:=SM rs;cases r1;exact ⟨_,rfl,h1.1.1,h1.1.2,af _ _ G1 h1.2 _ H1 hr1 k1 qgr⟩
  ·simp at hl
  ·exact h1.elim
def W5 (stay:Gp->Prop) (g:TG3) (tb:TS3) (d:Ends3):List T->St3->Gp->Prop
 |[],τ,G=>stay G/\d.nx τ G
 |x::r,τ,G=>stay G/\g x τ G λτ2 G2=>tb { d with nx:=W5 stay g tb d r,ct:=W5 stay g tb d r,bk:=d.nx } τ2 G2
def NH (wi:TI3) (g:TG3) (tb:TS3):TS3:=λd τ G=>wi τ G λitems stay G1=>W5 stay g tb d items τ G1
def qkb {iter:Expr} {body:List Stmt} {wi:TI3} {g:TG3} {tb:TS3} (hp:PassesOwn (model X.prog X.w) X.A X.env X.xe) (hc:X.calm=true) (hi:I3 X tg iter wi) (hg:G3 X tg g) (hb:B3 X body tb)
  (hs:∀ x,foldedSetIterable iter X.env x=pure x:=by intro _;rfl):S3 X (.For tg iter body [] pos) (NH wi g tb):=
 NZ (qhT hp hc hi hg hb hs) λD σ H ⟨τ,G,d,rl,h,af⟩=>by
  refine ⟨τ,G,_,rl,h,λitems stay G1 h1 J H1 hr1 k1 ok=>?_⟩;refine ⟨λi m σ' H'=>m=items.length-i/\i<=items.length/\∃ τ' G',Rel X.K τ' G' σ' H'/\Kp G1 H1 G' H'/\W5 stay g tb d (items.drop i) τ' G',⟨_,rfl,Nat.zero_le _,τ,G1,rl.next hr1 k1,Kp.refl,by simpa using h1⟩,?_⟩;rintro i m σ' H' ⟨rfl,hi,τ',G',rl',k',h'⟩;by_cases hlt:i<items.length
  ·rw [List.drop_eq_getElem_cons hlt] at h';obtain ⟨hst,h'⟩:=h';obtain ⟨go,yld,_⟩:=ok G' H' rl'.hp k' hst;have hx:items[i]?=some items[i]:=getElem?_eq_getElem hlt;refine .inr ⟨go i _ hx,λσ2 H2=>∃ τ2 G2,Rel X.K τ2 G2 σ2 H2/\Kp G1 H1 G2 H2/\W5 stay g tb d (items.drop (i+1)) τ2 G2,λσ2 H2 h2=>⟨_,by omega,rfl,hlt,h2⟩,λv H2 y=>?_⟩;obtain ⟨rv,hr2,k2⟩:=yld i _ v H2 hx y;have k3:Kp G1 H1 G' H2:=k'.trans k2;refine ⟨_,τ',G',_,rv,rl'.next hr2 k2,h',λτ3 G3 h3 σ3 H3 rl3 k4=>?_⟩;have k5:Kp G H G3 H3:=(k1.trans k3).trans k4;refine ⟨τ3,G3,_,rl3,h3,⟨λτ4 G4 h4 σ4 H4 rl4 k6=>⟨τ4,G4,rl4,(k3.trans k4).trans k6,h4⟩,af.rt.back k5,af.nx.back k5,λτ4 G4 h4 σ4 H4 rl4 k6=>⟨τ4,G4,rl4,(k3.trans k4).trans k6,h4⟩⟩⟩
  ·have e:i=items.length:=by omega
   subst e;rw [List.drop_length] at h';obtain ⟨_,_,stop⟩:=ok G' H' rl'.hp k' h'.1;exact .inl ⟨stop,af.nx τ' G' h'.2 σ' H' rl' (k1.trans k')⟩
def L4 {stay:Gp->Prop} {g:TG3} {tb:TS3} {d:Ends3} (items:List T) (Pv:Nat->St3->Gp->Prop) {τ:St3} {G:Gp} (h0:Pv 0 τ G) (hst:∀ i τ G,i<=items.length->Pv i τ G->stay G)
  (hs:∀ i x τ G (nx:St3->Gp->Prop),items[i]?=some x->Pv i τ G->(∀ τ G,Pv (i+1) τ G->nx τ G)->g x τ G λτ2 G2=>tb { d with nx:=nx,ct:=nx,bk:=d.nx } τ2 G2)
  (hd:∀ τ G,Pv items.length τ G->d.nx τ G):W5 stay g tb d items τ G:=by
 have key:∀ (r:List T) (i:Nat) τ G,items.drop i=r->i<=items.length->Pv i τ G->W5 stay g tb d r τ G:=by
  intro r;induction r with
  |nil=>
   intro i τ G e hi p;have:i=items.length:=by have:=congrArg List.length e;simp at this;omega
   subst this;exact ⟨hst _ τ G hi p,hd τ G p⟩
  |cons x r ih=>
   intro i τ G e hi p;have hl:i<items.length:=by
    apply Classical.byContradiction;intro z;rw [List.drop_eq_nil_of_le (by omega)] at e;cases e
   have e':=List.drop_eq_getElem_cons hl;rw [e] at e';injection e' with e1 e2;refine ⟨hst i τ G hi p,hs i x τ G _ (by rw [getElem?_eq_getElem hl,e1]) p λτ2 G2 p2=>ih (i+1) τ2 G2 e2.symm hl p2⟩
 exact key items 0 τ G (by simp) (Nat.zero_le _) h0
def RP (c:TT3) (tb:TS3):TS3:=λd τ G=>∃ W:Nat->St3->Gp->Prop,(∃ m,W m τ G)/\∀ m τ G,W m τ G ->
 c τ G λb G1=>if b=true then ∃ N:St3->Gp->Prop,(∀ τ' G',N τ' G'->∃ m',m'<m/\W m' τ' G')/\tb { d with nx:=N,ct:=N,bk:=d.nx } τ G1 else d.nx τ G1
def qdY {c:Expr} {body:List Stmt} {tc:TT3} {tb:TS3} (hp:PassesOwn (model X.prog X.w) X.A X.env X.xe) (hc:C3 X c tc) (hb:B3 X body tb):S3 X (.While c body [] pos) (RP tc tb):=
 NZ (qao hp hc hb) λD σ H ⟨τ,G,d,rl,⟨W,⟨m0,w0⟩,turn⟩,af⟩=>by
  refine ⟨λm σ' H'=>∃ τ' G',Rel X.K τ' G' σ' H'/\Kp G H G' H'/\W m τ' G',⟨m0,τ,G,rl,Kp.refl,w0⟩,?_⟩;rintro m σ' H' ⟨τ',G',rl',k',w'⟩;refine XC rl' (turn m τ' G' w') λb G1 h1 H1 hr1 k1 rl1=>?_;cases b with
  |true=>
   rw [if_pos rfl] at h1 ⊢;obtain ⟨N,hN,h1⟩:=h1;refine ⟨λσ2 H2=>∃ τ2 G2,Rel X.K τ2 G2 σ2 H2/\Kp G H G2 H2/\N τ2 G2,λσ2 H2 ⟨τ2,G2,r2,k2,n2⟩=>?_,τ',G1,_,rl1,h1,⟨λτ2 G2 h2 σ2 H2 r2 k2=>⟨τ2,G2,r2,(k'.trans k1).trans k2,h2⟩,af.rt.back (k'.trans k1),af.nx.back (k'.trans k1),λτ2 G2 h2 σ2 H2 r2 k2=>⟨τ2,G2,r2,(k'.trans k1).trans k2,h2⟩⟩⟩;obtain ⟨m',hm,w2⟩:=hN τ2 G2 n2;exact ⟨m',hm,τ2,G2,r2,k2,w2⟩
  |false=>
   rw [if_neg Bool.false_ne_true] at h1 ⊢;exact af.nx τ' G1 h1 σ' H1 rl1 (k'.trans k1)
abbrev Sp3:=List T->Gp->Q3->Prop
def lSp (K:Frg) (sp:Sp3):Sp:=λvs H Q _=>∃ ts G q,HR K G H/\Rps K H ts vs/\sp ts G q/\Aft K G H q Q
def Fn3 (P:Program) (w:World) (K:Frg) (mg:Str->Option Value) (base:Heap) (k:Nat) (x:Str) (sp:Sp3):Prop:=
 ∃ f fd ps,FnOk P w K mg base CX0 k f fd ps (lSp K sp)/\zn K fd ps []/\PySem.W.keepIn K (.ref f)=true/\mg x=some (.ref f)
def Fn3.mono {P:Program} {w:World} {K:Frg} {mg:Str->Option Value} {base:Heap} {j k:Nat} {x:Str} {sp:Sp3} (F:Fn3 P w K mg base j x sp) (h:j<=k):Fn3 P w K mg base k x sp:=
 let ⟨f,fd,ps,a,b,c,d⟩:=F;⟨f,fd,ps,a.mono h,b,c,d⟩
def Fn3.imp {P:Program} {w:World} {K:Frg} {mg:Str->Option Value} {base:Heap} {k:Nat} {x:Str} {sp sp':Sp3} (F:Fn3 P w K mg base k x sp) (h:∀ ts G q,sp' ts G q->sp ts G q):Fn3 P w K mg base k x sp':=
 let ⟨f,fd,ps,a,b,c,d⟩:=F;⟨f,fd,ps,a.imp λvs H Q E ⟨ts,G,q,h1,h2,h3,h4⟩=>⟨ts,G,q,h1,h2,h _ _ _ h3,h4⟩,b,c,d⟩
def qeq {k:Nat} {x:Str} {p:Pos} {sp:Sp3} (F:Fn3 X.prog X.w X.K X.mg X.base k x sp) (hr:Room k X.A) (hg:Gl X x) (ha:A3 X (e::es) t) (hdb:(x==("__debug__" : Str))=false:=by decide)
  (he:starEach (e::es) X.env=(false,eval e X.env)::starEach es X.env:=by rfl) (hpl:(backTo pos (starEach es X.env)).any (·.1)=false:=by rfl):E3 X (.Call (.Name x p) (e::es) [] pos) (cb3 sp t):=by
 obtain ⟨f,fd,ps,F,b,kp,m⟩:=F;refine EZ (qdN F hr hg m kp b .nil qjO ha hdb he hpl) λσ H Q ⟨τ,G,q,rl,h,af⟩=>YG rl h λxs G1 h1 vs H1 rs hr1 k1 rl1=>?_;rw [List.append_nil];exact ⟨xs,G1,q,hr1,rs,h1,af.back k1⟩
def qB (N:List Str) (ts:List T):St3:=ts.map some++List.replicate (N.length-ts.length) none
def WX {K:Frg} {N:List Str} {G:Gp} {H:Hp} {ts:List T} {vs:List V} (hr:HR K G H) (rs:Rps K H ts vs):Rel K (qB N ts) G (L2.U0 N vs) H:=by
 refine ⟨hr,by simp [qB,L2.U0,rs.length],λi t e=>?_⟩;unfold qB at e;by_cases hi:i<ts.length
 ·rw [List.getElem?_append_left (by simpa using hi),getElem?_map] at e;cases q:ts[i]? with
  |none=>rw [q] at e;cases e
  |some z=>
   rw [q] at e;have e':z=t:=by simpa using e
   subst e';obtain ⟨v,hv,r⟩:=rs.get q;refine ⟨v,?_,r⟩;unfold L2.U0;rw [List.getElem?_append_left (by rw [length_map,← rs.length];exact hi),getElem?_map,hv];rfl
 ·rw [List.getElem?_append_right (by simpa using hi),List.getElem?_replicate] at e;split at e<;>cases e
def qff {P:Program} {w:World} {K:Frg} {mg:Str->Option Value} {base:Heap} {x qual:Str} {st:Stmt} {f:Addr} {fd:FuncData} {N ps:List Str} {k:Nat} {sp:Sp3} {t3:TS3} (F:Fun K x qual st f fd) (S:FnScope N ps (qf st)) (bd:zn K fd ps []) (hm:mg x=some (.ref f))
  (body:∀ (cdv:Value) (A:Around) (outer:List Env) (s:Shared) (H:Hp) (E:XK),Room k (A.deeper (envOfC qual (qf st) s.heap.objs.size f cdv)) ->
   B3 (NI CX0 P w K mg base N qual (qf st) f cdv A outer s H E).nox (zM st) t3)
  (read:∀ ts G q,sp ts G q->ts.length=ps.length/\t3 { nx:=λ_ G'=>q .non G',rt:=q } (qB N ts) G):Fn3 P w K mg base (k+1) x sp:=by
 refine ⟨f,fd,ps,F.ok S (λvs H Q E ⟨ts,G,q,h1,h2,h3,h4⟩=>by rw [← h2.length];exact (read ts G q h3).1) λcdv A outer s H vs Q E hr ⟨ts,G,q,h1,h2,h3,h4⟩=>?_,bd,F.kp,hm⟩;refine ⟨_,body cdv A outer s H E hr,qB N ts,G,_,WX h1 h2,(read ts G q h3).2,⟨λτ' G' h' σ' H' rl' k'=>h4 _ G' h' _ H' .non rl'.hp k',h4,λ_ _ z=>z.elim,λ_ _ z=>z.elim⟩⟩
def qbv (xs:List T):Option Bool:=match xs with
 |[]=>some true
 |.bl k::r=>(match qbv r with|some j=>some (k&&j)|none=>none)
 |_=>none
def qkv (xs:List T):Option Bool:=match xs with
 |[]=>some false
 |.bl k::r=>(match qkv r with|some j=>some (k||j)|none=>none)
 |_=>none
def qag {P:Program} {w:World} {A:Around} {its:List Value} {ks:List Bool} (h:its=ks.map Value.bool):TruthOf P w A (λi v=>its.toArray[i]?=some v) (λi=>ks.getD i true):=by
 intro i v s Q E hp hq;subst h;have hp':ks[i]?.map Value.bool=some v:=by simpa using hp
 cases e:ks[i]? with
 |none=>rw [e] at hp';cases hp'
 |some k=>
  rw [e] at hp';cases hp';have:ks.getD i true=k:=by rw [getD_eq_getElem?_getD,e];rfl
  have hq:Q (ks.getD i true) s:=hq;rw [this] at hq;exact wpAny_truthy_bool hq
def EV:∀ {ks:List Bool} {us:List Value},zt (ks.map V.bl) us->us=ks.map Value.bool
 |[],_,r=>by cases r;rfl
 |k::ks,_,r=>by
  cases r with
  |cons a b=>rw [show _=Value.bool k from a,EV b];rfl
def KK (ks:List Bool):((List.range ks.length).all λi=>ks.getD i true)=ks.all id:=by
 induction ks with
 |nil=>rfl
 |cons k ks ih=>
  rw [length_cons,List.range_succ_eq_map,List.all_cons,List.all_map,List.all_cons];congr 1
def jS (hc:X.calm=true):ZY X (.builtin "all") (λxs H Q=>∃ (p:Addr) (ks:List Bool),xs=[.ref p]/\SqL X.K H p (ks.map V.bl)/\Q (.bl (ks.all id)) H):=by
 intro pins s σ H xs us Q I r h;obtain ⟨p,ks,rfl,hq,q⟩:=h;obtain ⟨u,rfl,rp⟩:=W9 r;cases (show u=Value.ref p from rp);obtain ⟨its,rv,pl,hz⟩:=I.list hq;have hb:=EV rv;have hlen:its.length=ks.length:=by rw [hb];simp
 have hp:p<s.heap.objs.size:=by obtain ⟨o,n,e,_⟩:=pl;exact Heap.lt_size e
 refine call_all_walk (wpAny_pyIter_list pl.isList ⟨s.heap.objs.size,_,_,_,_,_,λi=>ks.getD i true,rfl,Walks.list (A:=X.A.in1) (show X.A.in1.handled=none from I.ok.hd hc) s.heap.objs.size p (Nat.ne_of_lt hp) its.toArray,⟨⟨_,Heap.get?_push_size _ rfl,rfl,rfl⟩,?_⟩,qag hb,λh' tk hk=>?_⟩)
 ·obtain ⟨o,n,e,c,_,d⟩:=pl;exact ⟨o,Heap.get?_push_of_some _ e,c,n,d⟩
 ·refine ⟨.bl _,H,?_,rfl,by rw [size_toArray,hlen,KK];exact q⟩;exact I.kept (h':=h') (t':=tk) λb o e=>hk b o (by simp;exact Nat.ne_of_lt (Heap.lt_size e)) (Heap.get?_push_of_some _ e)
end
def EM (env:Env):List (Str×NameKind)->List (Str×Addr)->List (Str×Addr)
 |[],cs=>cs
 | (n,k)::r,cs=>if k=.free then EM env r ((n,(env.cells.lookup n).getD 0)::cs) else EM env r cs
def DJ {scope:Scope} {env:Env} (h:∀ y∈scope.names,y.2=.free->∃ c,env.cells.lookup y.1=some c):closureFor scope env=pure (EM env scope.names []):=by
 have key:∀ (l:List (Str×NameKind)) (cs:List (Str×Addr)),(∀ y∈l,y.2=.free->∃ c,env.cells.lookup y.1=some c) ->
   (forIn l cs λ(x:Str×NameKind) (r:List (Str×Addr))=>if (x.2==NameKind.free)=true then (do let a←cellOf env x.1;pure (ForInStep.yield ((x.1,a)::r))) else pure (ForInStep.yield r))=(pure (EM env l cs):Sem _):=by
  intro l;induction l with
  |nil=>intro cs _;rfl
  |cons y r ih=>
   intro cs hl;obtain ⟨n,k⟩:=y;rw [List.forIn_cons];by_cases hk:k=.free
   ·subst hk;obtain ⟨c,hc⟩:=hl (n,.free) List.mem_cons_self rfl;have e:cellOf env n=pure c:=by unfold cellOf;rw [show List.lookup n env.cells=some c from hc]
    simp only [beq_self_eq_true,if_true];rw [e,pure_bind,pure_bind];show forIn r ((n,c)::cs) _=_;rw [ih _ λz hz=>hl z (List.mem_cons_of_mem _ hz)];show _=(pure (if NameKind.free=NameKind.free then EM env r ((n,(env.cells.lookup n).getD 0)::cs) else EM env r cs):Sem _);rw [if_pos rfl,show List.lookup n env.cells=some c from hc];rfl
   ·have hb:(k==NameKind.free)=false:=by cases k<;>first|rfl|exact absurd rfl hk
    simp only [hb,Bool.false_eq_true,if_false];rw [pure_bind];show forIn r cs _=_;rw [ih _ λz hz=>hl z (List.mem_cons_of_mem _ hz)];show _=(pure (if k=NameKind.free then EM env r ((n,(env.cells.lookup n).getD 0)::cs) else EM env r cs):Sem _);rw [if_neg hk]
 have:=key scope.names [] h;unfold closureFor;refine Eq.trans ?_ this;exact bind_pure (m:=Sem) _
def JE {env:Env}:∀ (l:List (Str×NameKind)) (cs:List (Str×Addr)) (x:Str) (c:Addr),(∀ y∈l,y.2=.free->∃ c,env.cells.lookup y.1=some c) ->
  (∀ x c,cs.lookup x=some c->env.cells.lookup x=some c)->(EM env l cs).lookup x=some c->env.cells.lookup x=some c
 |[],_,_,_,_,h,e=>h _ _ e
 | (n,k)::r,cs,x,c,hl,h,e=>by
  unfold EM at e;split at e
  ·rename_i hk;refine JE r _ x c (λy hy=>hl y (List.mem_cons_of_mem _ hy)) (λx c e=>?_) e;rw [List.lookup_cons] at e;split at e
   ·rename_i hx;have hx':x=n:=by simpa using hx
    subst hx';obtain ⟨d,hd⟩:=hl (x,k) List.mem_cons_self hk;have hd:List.lookup x env.cells=some d:=hd;rw [hd] at e ⊢;exact e
   ·exact h _ _ e
  ·exact JE r cs x c (λy hy=>hl y (List.mem_cons_of_mem _ hy)) h e
def V2 {env:Env}:∀ (l:List (Str×NameKind)) (cs:List (Str×Addr)) (x:Str),((x,NameKind.free)∈l\/∃ c,cs.lookup x=some c)->∃ c,(EM env l cs).lookup x=some c
 |[],_,_,h=>by
  rcases h with h|h
  ·simp at h
  ·exact h
 | (n,k)::r,cs,x,h=>by
  unfold EM;have put:∀ d:Addr,(x=n\/∃ c,cs.lookup x=some c)->∃ c,((n,d)::cs).lookup x=some c:=λd z=>by
   rw [List.lookup_cons];cases hx:x==n with
   |true=>exact ⟨d,rfl⟩
   |false=>
    rcases z with z|z
    ·rw [z] at hx;simp at hx
    ·exact z
  split
  ·rename_i hk;refine V2 r _ x ?_;rcases h with h|h
   ·rcases mem_cons.mp h with e|e
    ·cases e;exact .inr (put _ (.inl rfl))
    ·exact .inl e
   ·exact .inr (put _ (.inr h))
  ·rename_i hk;refine V2 r _ x ?_;rcases h with h|h
   ·rcases mem_cons.mp h with e|e
    ·cases e;exact absurd rfl hk
    ·exact .inl e
   ·exact .inr h
def DD {env:Env}:∀ (l:List (Str×NameKind)) (cs:List (Str×Addr)) (x:Str) (c:Addr),(EM env l cs).lookup x=some c->(x,NameKind.free)∈l\/cs.lookup x=some c
 |[],_,_,_,e=>.inr e
 | (n,k)::r,cs,x,c,e=>by
  unfold EM at e;split at e
  ·rename_i hk;rcases DD r _ x c e with z|z
   ·exact .inl (List.mem_cons_of_mem _ z)
   ·rw [List.lookup_cons] at z;split at z
    ·rename_i hx;have hx':x=n:=by simpa using hx
     subst hx';subst hk;exact .inl List.mem_cons_self
    ·exact .inr z
  ·rcases DD r cs x c e with z|z
   ·exact .inl (List.mem_cons_of_mem _ z)
   ·exact .inr z
def VB {α:Type}:∀ (xs ys:List (Str×α)) (x:Str),(xs++ys).lookup x=(match xs.lookup x with|some c=>some c|none=>ys.lookup x)
 |[],ys,x=>rfl
 | (n,c)::xs,ys,x=>by
  rw [cons_append,List.lookup_cons,List.lookup_cons];cases x==n with
  |true=>rfl
  |false=>exact VB xs ys x
def zJ:∀ (l:List (Str×NameKind)) {n:Nat} {acc:List (Str×Addr)},cellsFrom n l acc=cellsFrom n l []++acc
 |[],_,_=>rfl
 | (x,k)::r,n,acc=>by
  unfold cellsFrom;split
  ·rw [zJ r (acc:=(x,n)::acc),zJ r (acc:=[(x,n)]),List.append_assoc];rfl
  ·exact zJ r
def QV:∀ (l:List (Str×NameKind)) (n:Nat) (acc:List (Str×Addr)) (x:Str) (c:Addr),(x,c)∈cellsFrom n l acc->(x,NameKind.cell)∈l\/(x,c)∈acc
 |[],_,_,_,_,h=>.inr h
 | (y,k)::r,n,acc,x,c,h=>by
  unfold cellsFrom at h;split at h
  ·rename_i hk;have hk:k=.cell:=by simpa using hk
   rcases QV r _ _ x c h with z|z
   ·exact .inl (List.mem_cons_of_mem _ z)
   ·rcases mem_cons.mp z with e|e
    ·cases e;subst hk;exact .inl List.mem_cons_self
    ·exact .inr e
  ·rcases QV r _ _ x c h with z|z
   ·exact .inl (List.mem_cons_of_mem _ z)
   ·exact .inr z
def jq:∀ (l:List (Str×NameKind)) (n:Nat) (acc:List (Str×Addr)) (x:Str),((x,NameKind.cell)∈l\/∃ c,acc.lookup x=some c)->∃ c,(cellsFrom n l acc).lookup x=some c
 |[],_,_,_,h=>by
  rcases h with h|h
  ·simp at h
  ·exact h
 | (y,k)::r,n,acc,x,h=>by
  unfold cellsFrom;have put:(x=y\/∃ c,acc.lookup x=some c)->∃ c,((y,n)::acc).lookup x=some c:=λz=>by
   rw [List.lookup_cons];cases hx:x==y with
   |true=>exact ⟨n,rfl⟩
   |false=>
    rcases z with z|z
    ·rw [z] at hx;simp at hx
    ·exact z
  split
  ·refine jq r _ _ x ?_;rcases h with h|h
   ·rcases mem_cons.mp h with e|e
    ·cases e;exact .inr (put (.inl rfl))
    ·exact .inl e
   ·exact .inr (put (.inr h))
  ·rename_i hk;refine jq r _ _ x ?_;rcases h with h|h
   ·rcases mem_cons.mp h with e|e
    ·cases e;exact absurd rfl hk
    ·exact .inl e
   ·exact .inr h
def VV {M:Model} {A:Around} {E:Value->Shared->Prop} {s:Shared} {scope:Scope} {globals:Addr} {cl:List (Str×Addr)} {qual:Str} {env:Env} {Q:Env->Shared->Prop}
  (hQ:∀ h₁:Heap,h₁.Ns s.heap.objs.size (λ_=>none)->(∀ b o,s.heap.get? b=some o->h₁.get? b=some o)->CellsOk h₁ (s.heap.objs.size+1) (cellsFrom (s.heap.objs.size+1) scope.names [])->Q (newEnv scope s.heap.objs.size globals (cellsFrom (s.heap.objs.size+1) scope.names cl) qual none .none (some env) builtinsNs) { s with heap:=h₁ }) :
  wpAny M A (newFunctionEnv scope globals cl [] qual none .none (some env)) Q E s:=by
 simp only [newFunctionEnv,Option.isSome_some,if_true];refine wpAny_bind (wpAny_alloc ?_);refine wpAny_bind (wpAny_layCells _ (λname kind cells=>by cases hkc:kind==NameKind.cell<;>simp [hkc]) _ _ _ _ ?_);have ok:=cellsFrom_ok scope.names (s.heap.push { cls:=.type "dict",data:=.dict #[] }) (s.heap.objs.size+1) [] ⟨λ_ _ hm=>(nomatch hm),List.Pairwise.nil⟩ (by rw [Heap.size_push];exact Nat.le_refl _);rw [Heap.size_push] at ok;rw [show ({ s with heap:=s.heap.push { cls:=.type "dict",data:=.dict #[] } }:Shared).heap.objs.size=s.heap.objs.size+1 from Heap.size_push ..];rw [List.forIn_nil];refine wpAny_bind (wpAny_pure (wpAny_pure ?_));exact hQ _ ((Heap.Ns.new s.heap (.type "dict")).keeps (pushCells_keeps _ _)) (λb o e=>pushCells_keeps _ _ b o (Heap.get?_push_of_some _ e)) ok
def zf (X:Cx) (N':List Str) (scope:Scope) (s:Shared) (H:Hp) (fp:List Addr):Cx where
 prog:=X.prog
 w:=X.w
 K:=X.K
 mg:=X.mg
 base:=X.base
 A:=X.A
 N:=N'
 s₀:=s
 H₀:=H
 env:=compEnvC scope (cellsFrom (s.heap.objs.size+1) scope.names (EM X.env scope.names [])) s.heap.objs.size X.env
 outer:=X.stack
 stack:=X.stack
 ex:=fp
 fn:=λx=>scope.names.lookup x==some .cell
 calm:=true
 pn:=[]
 xe:=λ_ _=>False
def qh4 (outer inner:Scope):Bool:=(inner.kind==.function)&&inner.names.all λy=>
 (y.2 != .cell||inner.names.lookup y.1==some .cell)&&(y.2 != .local||inner.names.lookup y.1==some .local)&&(y.2 != .free||(inner.names.lookup y.1==some .free&&(outer.names.lookup y.1==some .cell||outer.names.lookup y.1==some .free)))
def cap {α:Type} (m:List (Option Nat)) (σ:List (Option α)):List (Option α):=m.map λo=>match o with|some j=>(σ[j]?).join|none=>none
def W8 (N N':List Str) (scope:Scope) (m:List (Option Nat)):Bool:=(m.length==N'.length)&&(m.zip N').all λp=>match p.1 with
 |none=>true
 |some j=>N[j]?==some p.2&&scope.names.lookup p.2==some .free
def KN {α:Type} {m:List (Option Nat)} {σ:List (Option α)} {i:Nat} {v:α} (h:(cap m σ)[i]?=some (some v)):∃ j,m[i]?=some (some j)/\σ[j]?=some (some v):=by
 unfold cap at h;rw [getElem?_map] at h;cases e:m[i]? with
 |none=>rw [e] at h;cases h
 |some o=>
  rw [e] at h;cases o with
  |none=>cases h
  |some j=>
   refine ⟨j,rfl,?_⟩;have h':(σ[j]?).join=some v:=by simpa using h
   cases q:σ[j]? with
   |none=>rw [q] at h';cases h'
   |some z=>rw [q] at h';exact congrArg some h'
def MB {N N':List Str} {scope:Scope} {m:List (Option Nat)} (h:W8 N N' scope m=true) {i j:Nat} {x:Str} (e:m[i]?=some (some j)) (hx:N'[i]?=some x):N[j]?=some x/\scope.names.lookup x=some .free:=by
 unfold W8 at h;rw [Bool.and_eq_true] at h;have hm:(some j,x)∈m.zip N':=mem_of_getElem? (i:=i) (List.getElem?_zip_eq_some.mpr ⟨e,hx⟩);have:=List.all_eq_true.mp h.2 _ hm;simp only [Bool.and_eq_true,beq_iff_eq] at this;exact this
def qcY {N N':List Str} {scope:Scope} {m:List (Option Nat)} {α:Type} (σ:List (Option α)) (h:W8 N N' scope m=true):(cap m σ).length=N'.length:=by
 unfold W8 at h;rw [Bool.and_eq_true] at h;unfold cap;rw [length_map];simpa using h.1
structure ScFacts (outer inner:Scope):Prop where
 kind:inner.kind=.function
 own:∀ y∈inner.names,y.2=.cell->inner.names.lookup y.1=some .cell
 loc:∀ y∈inner.names,y.2=.local->inner.names.lookup y.1=some .local
 free:∀ y∈inner.names,y.2=.free->inner.names.lookup y.1=some .free/\(outer.names.lookup y.1=some .cell\/outer.names.lookup y.1=some .free)
def SB {outer inner:Scope} (h:qh4 outer inner=true):ScFacts outer inner:=by
 unfold qh4 at h;rw [Bool.and_eq_true] at h;have ha:=List.all_eq_true.mp h.2;refine ⟨by simpa using h.1,λy hy e=>?_,λy hy e=>?_,λy hy e=>?_⟩
 ·have:=ha y hy;rw [e] at this;simpa using this
 ·have:=ha y hy;rw [e] at this;simpa using this
 ·have:=ha y hy;rw [e] at this;simpa using this
def jT {scope:Scope} {env:Env} {x:Str} {k:NameKind} (h:(relabel scope env).names.lookup x=some k):scope.names.lookup x=some k\/(k=.cell/\scope.names.lookup x=some .free):=by
 have key:∀ (l:List (Str×NameKind)),(l.map λ(n,k)=>if (k==NameKind.free&&env.scope.kind==.function&&env.kindOf n==some .cell) then (n,NameKind.cell) else (n,k)).lookup x=some k->l.lookup x=some k\/(k=.cell/\l.lookup x=some .free):=by
  intro l;induction l with
  |nil=>intro h;simp at h
  |cons y r ih=>
   intro h;obtain ⟨n,j⟩:=y;rw [map_cons] at h;dsimp only at h;by_cases hc:(j==NameKind.free&&env.scope.kind==.function&&env.kindOf n==some .cell)=true
   ·rw [if_pos hc,List.lookup_cons] at h;rw [List.lookup_cons];cases hx:x==n with
    |true=>
     rw [hx] at h;have hk:NameKind.cell=k:=by simpa using h
     have hj:j=.free:=by simp only [Bool.and_eq_true,beq_iff_eq] at hc;exact hc.1.1
     exact .inr ⟨hk.symm,by rw [hj]⟩
    |false=>rw [hx] at h;exact ih h
   ·rw [if_neg hc,List.lookup_cons] at h;rw [List.lookup_cons];cases hx:x==n with
    |true=>rw [hx] at h;exact .inl h
    |false=>rw [hx] at h;exact ih h
 exact key scope.names h
def PF (X:Cx) (ifs:List Expr) (t:TT):Prop:=
 ∀ (pins:List (Addr×Obj)) (s:Shared) (σ:L2.St) (H:Hp) (Q:Bool->Hp->Prop),Inv X pins σ H s->t σ H Q ->
  wpAny (model X.prog X.w) X.A (forIn ifs true λc r=>if r=true then do let ok←isTrue c X.env (eval c X.env);pure (ForInStep.yield ok) else pure (ForInStep.yield r)) (TP X pins σ Q) X.xe s
def qhI {X:Cx}:PF X [] (λ_ H Q=>Q true H):=λ_ _ _ H _ I h=>wpAny_tests_nil ⟨H,I,h⟩
def qfm {X:Cx} {c:Expr} {t:TT} (h:PT X c t):PF X [c] t:=λpins s σ H Q I q=>wpAny_tests_one (h pins s σ H Q I q)
section
variable {X:Cx} {pins:List (Addr×Obj)} {σ:L2.St} {H:Hp} {s:Shared}
def NW {N':List Str} {scope:Scope} {fp:List Addr} {m:List (Option Nat)} {h1:Heap} {mm:Str->Option Value} (hc:X.calm=true) (I:Inv X pins σ H s) (sc:ScFacts X.env.scope scope) (hcap:W8 X.N N' scope m=true)
  (hfp:∀ b∈fp,NK X pins H b) (hob:∀ b∈fp,∃ o,s.heap.get? b=some o) (hns:h1.Ns s.heap.objs.size mm) (hk:∀ b o,s.heap.get? b=some o->h1.get? b=some o) (hown:CellsOk h1 (s.heap.objs.size+1) (cellsFrom (s.heap.objs.size+1) scope.names [])) :
  Inv (zf X N' scope s H fp) [] (cap m σ) H { s with heap:=h1 }:=by
 have hcl:∀ y∈scope.names,y.2=.free->∃ c,X.env.cells.lookup y.1=some c:=λy hy e=>by
  rcases (sc.free y hy e).2 with z|z
  ·exact I.ok.has y.1 (.inl z)
  ·exact I.ok.has y.1 (.inr z)
 have cl:∀ x c,(EM X.env scope.names []).lookup x=some c->X.env.cells.lookup x=some c:=λx c e=>JE scope.names [] x c hcl (λ_ _ z=>by simp at z) e;have clt:∀ x c,(EM X.env scope.names []).lookup x=some c->c<s.heap.objs.size:=λx c e=>by
  obtain ⟨v,q⟩:=I.cell x c (cl x c e);exact q.lt
 -- a cell of the block: its own,or one from around
 have cs:∀ x c,(cellsFrom (s.heap.objs.size+1) scope.names (EM X.env scope.names [])).lookup x=some c->((x,c)∈cellsFrom (s.heap.objs.size+1) scope.names []/\s.heap.objs.size+1<=c/\h1.IsCell c none)\/(EM X.env scope.names []).lookup x=some c:=λx c e=>by
  rw [zJ,VB] at e;cases q:(cellsFrom (s.heap.objs.size+1) scope.names []).lookup x with
  |none=>rw [q] at e;exact .inr e
  |some d=>
   rw [q] at e;cases e;have mem:=PySem.mem_of_lookup q;exact .inl ⟨mem,(hown.empty x _ mem).2,(hown.empty x _ mem).1⟩
 have fpne:∀ b∈fp,b≠s.heap.objs.size:=λb hb=>let ⟨o,e⟩:=hob b hb;Nat.ne_of_lt (Heap.lt_size e)
 refine ⟨⟨I.ok.mod,sc.kind,I.ok.glob,I.ok.blt,Nat.le_refl _,λx y c e1 e2=>?_,λx hx=>?_,λx c hf e=>?_,λ_=>I.ok.hd hc,I.ok.frames,.inl rfl,λb hb=>⟨fpne b hb,λx c e=>?_⟩,I.bs,Nat.le_trans I.ok.bsz I.sz,λb o e hb=>?_,λb hb z=>?_,I.stack,I.stkFree⟩,
  rfl,I.bare,Un.kept hk,⟨mm,hns,λi x v e1 e2 e3=>?_⟩,λx c e=>?_,I.fresh,λx c e=>?_,λp hp=>absurd (show p∈([]:List (Addr×Obj)) from hp) (by simp),I.hok.kept hk,qcY σ hcap⟩
 ·rcases cs x c e1 with ⟨m1,l1,_⟩|z1<;>rcases cs y c e2 with ⟨m2,l2,_⟩|z2
  ·exact PySem.name_of_addr hown.apart m1 m2
  ·exact absurd (clt y c z2) (Nat.not_lt.mpr (Nat.le_trans (Nat.le_succ _) l1))
  ·exact absurd (clt x c z1) (Nat.not_lt.mpr (Nat.le_trans (Nat.le_succ _) l2))
  ·exact I.ok.inj x y c (cl x c z1) (cl y c z2)
 ·have hx:(relabel scope X.env).names.lookup x=some .cell\/(relabel scope X.env).names.lookup x=some .free:=hx;have hf:scope.names.lookup x=some .cell\/scope.names.lookup x=some .free:=by
   rcases hx with z|z
   ·rcases jT z with q|⟨_,q⟩
    ·exact .inl q
    ·exact .inr q
   ·rcases jT z with q|⟨q,_⟩
    ·exact .inr q
    ·cases q
  show ∃ c,(cellsFrom (s.heap.objs.size+1) scope.names (EM X.env scope.names [])).lookup x=some c;rcases hf with hf|hf
  ·exact jq scope.names _ _ x (.inl (PySem.mem_of_lookup hf))
  ·exact jq scope.names _ _ x (.inr (V2 scope.names [] x (.inl (PySem.mem_of_lookup hf))))
 ·have hf:scope.names.lookup x=some .cell:=by simpa [zf] using hf
  rcases cs x c e with ⟨_,l1,_⟩|z1
  ·exact Nat.le_trans (Nat.le_succ _) l1
  ·rcases DD scope.names [] x c z1 with q|q
   ·rw [(sc.free _ q rfl).1] at hf;cases hf
   ·simp at q
 ·rcases cs x c e with ⟨_,l1,_⟩|z1
  ·obtain ⟨o,eo⟩:=hob b hb;exact Nat.ne_of_gt (Nat.lt_of_lt_of_le (Heap.lt_size eo) (Nat.le_trans (Nat.le_succ _) l1))
  ·exact (hfp b hb).2.2.2.2.1 x c (cl x c z1)
 ·rcases (hfp b hb).2.2.2.1 with z|z
  ·exact I.ok.noex b o e z
  ·exact absurd (Nat.lt_of_lt_of_le (Heap.lt_size e) (Nat.le_trans I.ok.bsz z)) (Nat.lt_irrefl _)
 ·rcases mem_cons.mp (I.stkSub b z) with q|q
  ·exact (hfp b hb).2.1 q
  ·exact (hfp b hb).2.2.1 q
 ·obtain ⟨j,ej,es⟩:=KN e2;obtain ⟨hN,hfr⟩:=MB hcap ej e1;have mem:=PySem.mem_of_lookup hfr;have ho:=(sc.free _ mem rfl).2;obtain ⟨m0,hn0,hl0⟩:=I.loc;obtain ⟨u,ru,lk⟩:=hl0 j x v hN es (ho.elim (λz=>.inr (.inl z)) λz=>.inr (.inr z));refine ⟨u,ru,.inr ⟨?_,?_⟩⟩
  ·rcases e3 with z|z|z
   ·rcases jT z with q|⟨q,_⟩
    ·rw [hfr] at q;cases q
    ·cases q
   ·exact .inl z
   ·exact .inr z
  ·rcases lk with ⟨z,_⟩|⟨_,c,hc',hcell⟩
   ·have z:X.env.scope.names.lookup x=some .local:=z;rcases ho with q|q<;>(rw [z] at q;cases q)
   ·obtain ⟨c',hc2⟩:=V2 (env:=X.env) scope.names [] x (.inl mem);have e:=cl x c' hc2;rw [hc'] at e;cases e;obtain ⟨o,eo,d⟩:=hcell;refine ⟨c,?_,o,hk c o eo,d⟩;show (cellsFrom (s.heap.objs.size+1) scope.names (EM X.env scope.names [])).lookup x=some c;rw [zJ,VB];cases q:(cellsFrom (s.heap.objs.size+1) scope.names []).lookup x with
    |none=>exact hc2
    |some d=>
     rcases QV scope.names _ [] x d (PySem.mem_of_lookup q) with z|z
     ·rw [sc.own _ z rfl] at hfr;cases hfr
     ·simp at z
 ·rcases cs x c e with ⟨_,_,z⟩|z1
  ·exact ⟨none,z⟩
  ·obtain ⟨v,o,eo,d⟩:=I.cell x c (cl x c z1);exact ⟨v,o,hk c o eo,d⟩
 ·rcases cs x c e with ⟨_,l1,_⟩|z1
  ·exact I.hok.fresh (Nat.le_trans (Nat.le_succ _) l1)
  ·exact I.freeC x c (cl x c z1)
def RR {N':List Str} {scope:Scope} {fp:List Addr} {pins':List (Addr×Obj)} {σ':L2.St} {H':Hp} {s':Shared} {h2:Heap} (I:Inv X pins σ H s) (hfp:∀ b∈fp,NK X pins H b) (J:Inv (zf X N' scope s H fp) pins' σ' H' s')
  (sb:Heap.SameBut s.heap.objs.size s'.heap h2):Inv X pins σ H' { s' with heap:=h2 }:=by
 have ne:∀ b o,s.heap.get? b=some o->b≠s.heap.objs.size:=λb o e=>Nat.ne_of_lt (Heap.lt_size e);have g:∀ b,b≠s.heap.objs.size->h2.get? b=s'.heap.get? b:=λb hb=>sb.2 b hb;have hn:H' s.heap.objs.size=none:=J.free;have u:Un (frs X.stack) fp H H' s.heap s'.heap:=J.base;refine I.call' (s':={ s' with heap:=h2 }) J.os ⟨λb o e n hb hx=>?_,λb o e n hb hx=>?_,u.free,λb o e hx=>?_,u.tups,u.frzs,u.tbls⟩ (λa o e=>?_) J.bare λb hb=>⟨(hfp b hb).2.2.2.1,(hfp b hb).2.1,(hfp b hb).2.2.2.2.1,(hfp b hb).2.2.2.2.2⟩
 ·show h2.get? b=_;rw [g b (ne b o e)];exact u.keep b o e n hb hx
 ·show ∃ sl,h2.get? b=_;rw [g b (ne b o e)];exact u.slot b o e n hb hx
 ·show ∃ o',h2.get? b=_;rw [g b (ne b o e)];exact u.there b o e hx
 ·refine (J.hok a o e).stay (λb v hb q=>?_) (λ_ q=>q) λ_ _ q=>q;have hb':b≠s.heap.objs.size:=by
   intro z;subst z;rcases hb with z|z
   ·rw [← z] at e;rw [hn] at e;cases e
   ·rw [hn] at z;cases z
  rw [g b hb'];exact q
end
def tLC (wi:TI) (g:TG) (tif:TT) (te:TE) (m:List (Option Nat)):TE:=λσ H Q=>wi σ H λJ H1=>∀ D,H1 D=none ->
 ∃ W:Nat->Nat->L2.St->Hp->Prop,(∃ n,W 0 n (cap m σ) (upd H1 D (.lst [])))/\∀ i n σ H,W i n σ H ->
  (J.stop i H/\Q (.ref D) H)\/(J.go i H/\∀ x H',J.yld i H x H'->g x σ H' λσ2 H2=>tif σ2 H2 λk H3=>
   if k=true then te σ2 H3 λy H4=>∃ zs,H4 D=some (.lst zs)/\zs.length<sizeLine/\∃ n',n'<n/\W (i+1) n' σ2 (upd H4 D (.lst (zs++[y])))
   else ∃ n',n'<n/\W (i+1) n' σ2 H3)
section
variable {X:Cx}
def qkl {elt tg iter:Expr} {ifs:List Expr} {scope:Scope} {pos:Pos} {N':List Str} {m:List (Option Nat)} {wi:TI} {g:TG} {tif:TT} {te:TE} (hc:X.calm=true) (hi:PI X tg iter wi)
  (hg:∀ s H fp,PG (zf X N' scope s H fp) tg g) (hf:∀ s H fp,PF (zf X N' scope s H fp) ifs tif) (he:∀ s H fp,PE (zf X N' scope s H fp) elt te)
  (hsc:qh4 X.env.scope scope=true) (hcap:W8 X.N N' scope m=true) (hs:∀ x,foldedSetIterable iter X.env x=pure x:=by intro _;rfl) :
  PE X (.ListComp elt [⟨tg,iter,ifs,0⟩] scope pos) (tLC wi g tif te m):=by
 intro pins s σ H Q I h;have sc:=SB hsc;have hcl:∀ y∈scope.names,y.2=.free->∃ c,X.env.cells.lookup y.1=some c:=λy hy e=>by
  rcases (sc.free y hy e).2 with z|z
  ·exact I.ok.has y.1 (.inl z)
  ·exact I.ok.has y.1 (.inr z)
 rw [eval_ListComp];refine wpAny_comprehension_free (use:=none) (g:=⟨tg,iter,ifs,0⟩) (gs:=[]) rfl hs (DJ hcl) sc.kind sc.loc ?_;show wpAny _ _ (eval iter X.env) _ _ s;refine thn (hi pins s σ H _ I h) λv s1 h1=>thn h1 λitv s2 h2=>?_;obtain ⟨it,fp,tn,J,H2,rfl,I2,T,st2,f2,hW⟩:=h2;refine wpAny_newObj_type ?_;have hD:H2 s2.heap.objs.size=none:=I2.fresh;obtain ⟨W,⟨n0,w0⟩,turn⟩:=hW _ hD;generalize hDe:s2.heap.objs.size=D at *;have I3:Inv X pins σ (upd H2 D (.lst [])) { s2 with heap:=s2.heap.push { cls:=.type "list",dict:=none,data:=.seq ([]:List Value).toArray } }:=by
  subst hDe;exact I2.laid (t':=s2.toks) (λb u e=>Heap.get?_push_of_some _ e) (Nat.le_refl _) ⟨Nat.zero_le _,[],0,.nil,Heap.get?_push_size _ rfl⟩
 have ob2:=T.obj 0 _ st2;have ob3:∀ b∈fp,∃ o,(s2.heap.push { cls:=.type "list",dict:=none,data:=.seq ([]:List Value).toArray }).get? b=some o:=λb hb=>let ⟨o,e,_⟩:=ob2 b hb;⟨o,Heap.get?_push_of_some _ e⟩
 have f3:∀ b∈fp,NK X pins (upd H2 D (.lst [])) b:=λb hb=>by
  obtain ⟨o,e,_⟩:=ob2 b hb;have:b≠D:=by rw [← hDe];exact Nat.ne_of_lt (Heap.lt_size e)
  exact ⟨by rw [qs this];exact (f2 b hb).1,(f2 b hb).2⟩
 have k23:∀ b o,s2.heap.get? b=some o->(s2.heap.push { cls:=.type "list",dict:=none,data:=.seq ([]:List Value).toArray }).get? b=some o:=λb o e=>Heap.get?_push_of_some _ e;generalize hH3:upd H2 D (.lst [])=H3 at *;generalize hs3:({ s2 with heap:=s2.heap.push { cls:=.type "list",dict:=none,data:=.seq ([]:List Value).toArray } }:Shared)=s3 at *;have ob3:∀ b∈fp,∃ o,s3.heap.get? b=some o:=by rw [← hs3];exact ob3
 have k23:∀ b o,s2.heap.get? b=some o->s3.heap.get? b=some o:=by rw [← hs3];exact k23
 refine VV λh₁ hns hk hown=>?_;have I4:Inv (zf X N' scope s3 H3 fp) [] (cap m σ) H3 { s3 with heap:=h₁ }:=NW hc I3 sc hcap f3 ob3 hns hk hown;have tn4:tn 0 h₁:=T.keep _ _ _ st2 λb hb o e=>hk b o (k23 b o e);have fr4:∀ b∈fp,H3 b=none:=λb hb=>(f3 b hb).1;have stat:∀ {H':Hp},(∀ b∈fp,H' b=none)->∀ b∈fp,NK (zf X N' scope s3 H3 fp) [] H' b:=λhn b hb=>by
  refine ⟨hn b hb,I4.ok.exf b hb |>.1,I4.ok.exfs b hb,.inl hb,λx c e=>(I4.ok.exf b hb).2 x c e,λp hp=>absurd (show p∈([]:List (Addr×Obj)) from hp) (by simp)⟩
 show codeAny (model X.prog X.w) X.A (.compStart (.ListComp elt [⟨tg,iter,ifs,0⟩] scope pos) 0 (.ref it) (.ref D) (zf X N' scope s3 H3 fp).env) (compPost (model X.prog X.w) X.A X.xe none (EP X pins σ Q) (.ref D) s3.heap.objs.size) { s3 with heap:=h₁ };have loop:codeAny (model X.prog X.w) X.A (.compLoop (.ListComp elt [⟨tg,iter,ifs,0⟩] scope pos) 0 (.ref it) (.ref D) (zf X N' scope s3 H3 fp).env) (compPost (model X.prog X.w) X.A X.xe none (EP X pins σ Q) (.ref D) s3.heap.objs.size) { s3 with heap:=h₁ }:=by
  refine codeAny_loop rfl (λn s'=>∃ i σ' H',Inv (zf X N' scope s3 H3 fp) [] σ' H' s'/\tn i s'.heap/\(∀ b∈fp,H' b=none)/\W i n σ' H') (λn s' hI=>?_) n0 ⟨0,cap m σ,H3,I4,tn4,fr4,w0⟩;show wpAny _ X.A ((compTurn (.ListComp elt [⟨tg,iter,ifs,0⟩] scope pos) 0 (.ref it) (.ref D) (zf X N' scope s3 H3 fp).env).onRaise (λx=>do noteFrame x (zf X N' scope s3 H3 fp).env;theTreesLotGoes x)) _ _ s';refine wpAny_noted ?_;rw [compTurn_list];refine wpAny_bind (wpAny_standAt (wpAny_bind ?_));obtain ⟨i,σ5,H5,I5,st5,fr5,w5⟩:=hI;rcases turn i n σ5 H5 w5 with ⟨stop,q⟩|⟨go,step⟩
  ·refine thn (T.done (zf X N' scope s3 H3 fp) rfl rfl rfl rfl i [] s' σ5 H5 _ I5 (stat fr5) st5 stop) λr s6 ⟨hr,I6⟩=>?_;subst hr;refine wpAny_pure ?_;obtain ⟨mm,hn6,_⟩:=I6.loc;exact ⟨mm,hn6,λh' sb=>⟨.ref D,H5,RR I3 f3 I6 sb,rfl,q⟩⟩
  ·refine thn (T.item (zf X N' scope s3 H3 fp) rfl rfl rfl rfl i [] s' σ5 H5 _ I5 (stat fr5) st5 go) λr s6 ⟨u,hr,h6⟩=>?_;subst hr;refine wpAny_bind (thn h6 λ_ s7 ⟨x,H7,I7,r7,y7,st7,fr7⟩=>?_);have I7':=I7.pinned (stat fr7) (T.obj _ _ st7);have again:∀ {σ8:L2.St} {H8:Hp} {s8:Shared},Inv (zf X N' scope s3 H3 fp) ([]++WQ fp s7.heap) σ8 H8 s8->(∃ n',n'<n/\W (i+1) n' σ8 H8) ->
     ∃ m',m'<n/\∃ i σ' H',Inv (zf X N' scope s3 H3 fp) [] σ' H' s8/\tn i s8.heap/\(∀ b∈fp,H' b=none)/\W i m' σ' H':=λ{σ8 H8 s8} I8 ⟨n',hn,w8⟩=>by
    refine ⟨n',hn,i+1,σ8,H8,I8.unpinned,T.keep _ _ _ st7 λb hb o e=>(I8.pin (b,o) (mem_append_right _ (mem_append_right _ (ZT hb e)))).1,λb hb=>?_,w8⟩;obtain ⟨o,e,d⟩:=T.obj _ _ st7 b hb;exact (I8.pin (b,o) (mem_append_right _ (mem_append_right _ (ZT hb e)))).2.1
   refine wpAny_bind (wpAny_mono (hg s3 H3 fp _ s7 σ5 H7 x u _ I7' r7 (step x H7 y7)) (λ_ s8 ⟨σ8,H8,I8,q8⟩=>?_) λ_ _ z=>z.elim);refine wpAny_bind (wpAny_mono (hf s3 H3 fp _ s8 σ8 H8 _ I8 q8) (λk s9 ⟨H9,I9,q9⟩=>?_) λ_ _ z=>z.elim);cases k with
   |false=>
    rw [if_neg Bool.false_ne_true] at q9;exact wpAny_pure ⟨rfl,again I9 q9⟩
   |true=>
    rw [if_pos rfl] at q9;refine wpAny_bind (wpAny_bind (wpAny_mono (he s3 H3 fp _ s9 σ8 H9 _ I9 q9) (λw s10 ⟨y,H10,I10,r10,q10⟩=>?_) λ_ _ z=>z.elim));obtain ⟨zs,hz,hl,q10⟩:=q10;refine wpAny_bind (wpAny_mono (LB (X:=zf X N' scope s3 H3 fp) _ s10 σ8 H10 (.ref D) [y] (.ref D) [w] (λ_ H11=>H11=upd H10 D (.lst (zs++[y]))) I10 rfl (.cons r10 .nil) ⟨D,zs,y,rfl,rfl,hz,hl,rfl⟩) (λ_ s11 ⟨_,H11,I11,_,e11⟩=>?_) λ_ _ z=>z.elim);subst e11;exact wpAny_pure (wpAny_pure ⟨rfl,again I11 q10⟩)
 exact codeAny_compStart_list loop (T.self X.A 0 _ _ _ tn4 loop)
end
section
variable {K:Frg} {G G':Gp} {H H':Hp}
def qd4 {D:Addr} {o:HO} {ws:List V} (hD:H D=some (.lst ws)) {a:Addr} {vs:List V} (h:SqT K H a vs):SqT K (upd H D o) a vs:=by
 rcases h with h|h
 ·refine .inl ?_;rcases h with h|⟨ob,h⟩
  ·have:a≠D:=by intro e;subst e;rw [hD] at h;cases h
   exact .inl (by rw [qs this];exact h)
  ·have:a≠D:=by intro e;subst e;rw [hD] at h;cases h
   exact .inr ⟨ob,by rw [qs this];exact h⟩
 ·exact .inr h
mutual
def Rp.wrD {D:Addr} {o:HO} {ws:List V} (hD:H D=some (.lst ws)):∀ {x:T} {v:V},Rp K H x v->Rp K (upd H D o) x v
 |_,_,.non=>.non
 |_,_,.bl b=>.bl b
 |_,_,.int i=>.int i
 |_,_,.str x=>.str x
 |_,_,.ref a=>.ref a
 |_,_,.tup h hs=>.tup (qd4 hD h) (Rps.wrD hD hs)
def Rps.wrD {D:Addr} {o:HO} {ws:List V} (hD:H D=some (.lst ws)):∀ {x:List T} {v:List V},Rps K H x v->Rps K (upd H D o) x v
 |_,_,.nil=>.nil
 |_,_,.cons a b=>.cons (Rp.wrD hD a) (Rps.wrD hD b)
end
def HR.wrD {D:Addr} {o:HO} {ws:List V} (hr:HR K G H) (hD:H D=some (.lst ws)) (g:G D=none):HR K G (upd H D o):=λa ob e=>by
 have ha:a≠D:=by intro z;subst z;rw [g] at e;cases e
 have q:=hr a ob e;cases ob with
 |lst xs=>obtain ⟨vs,h1,h2⟩:=q;exact ⟨vs,by rw [qs ha];exact h1,h2.wrD hD⟩
 |frz xs=>obtain ⟨vs,⟨o1,h1⟩,h2⟩:=q;exact ⟨vs,⟨o1,by rw [qs ha];exact h1⟩,h2.wrD hD⟩
def Rel.wrD {D:Addr} {o:HO} {ws:List V} {τ:St3} {σ:L2.St} (r:Rel K τ G σ H) (hD:H D=some (.lst ws)) (g:G D=none):Rel K τ G σ (upd H D o):=
 ⟨r.hp.wrD hD g,r.len,λi t e=>let ⟨v,h1,h2⟩:=r.st i t e;⟨v,h1,h2.wrD hD⟩⟩
def Kp.wrD {D:Addr} {o:HO} (k:Kp G H G' H') (hD:H D=none):Kp G H G' (upd H' D o):=λa ob h g=>by
 obtain ⟨h1,h2⟩:=k a ob h g;exact ⟨by rw [qs (qo h hD)];exact h1,h2⟩
def qaK {α:Type} {m:List (Option Nat)} {σ:List (Option α)} {i j:Nat} (h:m[i]?=some (some j)):(cap m σ)[i]?=some ((σ[j]?).join):=by
 unfold cap;rw [getElem?_map,h];rfl
def Rel.cap {τ:St3} {σ:L2.St} (r:Rel K τ G σ H) (m:List (Option Nat)):Rel K (cap m τ) G (L3.cap m σ) H:=by
 refine ⟨r.hp,by simp [L3.cap],λi t e=>?_⟩;obtain ⟨j,e1,e2⟩:=KN e;obtain ⟨v,h1,h2⟩:=r.st j t e2;exact ⟨v,by rw [qaK e1,h1];rfl,h2⟩
end
def KO (stay:Gp->Prop) (g:TG3) (tif:TT3) (te:TE3) (q:Q3):List T->List T->St3->Gp->Prop
 |[],ys,_,G=>stay G/\∀ p,G p=none->q (.ref p) (gu G p (.lst ys))
 |x::r,ys,τ,G=>stay G/\g x τ G λτ2 G2=>tif τ2 G2 λk G3=>if k=true then te τ2 G3 λy G4=>ys.length<sizeLine/\KO stay g tif te q r (ys++[y]) τ2 G4 else KO stay g tif te q r ys τ2 G3
def lc3 (wi:TI3) (g:TG3) (tif:TT3) (te:TE3) (m:List (Option Nat)):TE3:=λτ G q=>wi τ G λitems stay G1=>KO stay g tif te q items [] (cap m τ) G1
abbrev F3 (X:Cx) (ifs:List Expr) (t:TT3):Prop:=PF X ifs (lT X.K t)
def tt3:TT3:=λ_ G q=>q true G
def qjB {X:Cx}:F3 X [] tt3:=λpins s σ H Q I ⟨τ,G,q,rl,h,af⟩=>qhI pins s σ H Q I (af true G h H rl.hp Kp.refl)
def qka {X:Cx} {c:Expr} {t:TT3} (h:C3 X c t):F3 X [c] t:=qfm h
section
variable {X:Cx}
def qlh {elt tg iter:Expr} {ifs:List Expr} {scope:Scope} {pos:Pos} (N':List Str) (m:List (Option Nat)) {wi:TI3} {g:TG3} {tif:TT3} {te:TE3} (hc:X.calm=true) (hi:I3 X tg iter wi)
  (hg:∀ s H fp,G3 (zf X N' scope s H fp) tg g) (hf:∀ s H fp,F3 (zf X N' scope s H fp) ifs tif) (he:∀ s H fp,E3 (zf X N' scope s H fp) elt te)
  (hsc:qh4 X.env.scope scope=true) (hcap:W8 X.N N' scope m=true) (hs:∀ x,foldedSetIterable iter X.env x=pure x:=by intro _;rfl) :
  E3 X (.ListComp elt [⟨tg,iter,ifs,0⟩] scope pos) (lc3 wi g tif te m):=
 EZ (qkl (g:=lG X.K g) (tif:=lT X.K tif) (te:=lE X.K te) hc hi hg hf he hsc hcap hs) λσ H Q ⟨τ,G,q,rl,h,af⟩=>by
  refine ⟨τ,G,_,rl,h,λitems stay G1 h1 J H1 hr1 k1 ok D hD=>?_⟩;have gD:G1 D=none:=hr1.free hD;refine ⟨λi n σ' H'=>n=items.length-i/\i<=items.length/\∃ τ' G' ys vs,Rel X.K τ' G' σ' H'/\Kp G1 H1 G' H'/\H' D=some (.lst vs)/\Rps X.K H' ys vs/\G' D=none/\KO stay g tif te q (items.drop i) ys τ' G',
   ⟨_,rfl,Nat.zero_le _,cap m τ,G1,[],[],((rl.next hr1 k1).cap m).next (hr1.laid hD) (Kp.laid hD),Kp.laid hD,qX,.nil,gD,by simpa using h1⟩,?_⟩
  rintro i n σ' H' ⟨rfl,hi,τ',G',ys,vs,rl',k',hDl,rys,gD',h'⟩;by_cases hlt:i<items.length
  ·rw [List.drop_eq_getElem_cons hlt] at h';obtain ⟨hst,h'⟩:=h';obtain ⟨go,yld,_⟩:=ok G' H' rl'.hp k' hst;have hx:items[i]?=some items[i]:=getElem?_eq_getElem hlt;refine .inr ⟨go i _ hx,λv H2 y=>?_⟩;obtain ⟨rv,hr2,k2⟩:=yld i _ v H2 hx y;have nxt:∀ {τ4:St3} {G4:Gp} {σ4:L2.St} {H4:Hp} {ys4:List T} {vs4:List V},Rel X.K τ4 G4 σ4 H4->Kp G1 H1 G4 H4->H4 D=some (.lst vs4)->Rps X.K H4 ys4 vs4->G4 D=none->KO stay g tif te q (items.drop (i+1)) ys4 τ4 G4 ->
     ∃ n',n'<items.length-i/\(n'=items.length-(i+1)/\i+1<=items.length/\∃ τ' G' ys vs,Rel X.K τ' G' σ4 H4/\Kp G1 H1 G' H4/\H4 D=some (.lst vs)/\Rps X.K H4 ys vs/\G' D=none/\KO stay g tif te q (items.drop (i+1)) ys τ' G'):=
    λ{τ4 G4 σ4 H4 ys4 vs4} a b c d e f=>⟨_,by omega,rfl,hlt,τ4,G4,ys4,vs4,a,b,c,d,e,f⟩
   refine ⟨_,τ',G',_,rv,rl'.next hr2 k2,h',λτ3 G3 h3 σ3 H3 rl3 k3=>⟨τ3,G3,_,rl3,h3,λk G4 h4 H4 hr4 k4=>?_⟩⟩;have kk:=(k2.trans k3).trans k4;obtain ⟨hD4,gD4⟩:=kk D _ hDl gD';have rys4:=rys.keep rl'.hp kk;cases k with
   |false=>
    rw [if_neg Bool.false_ne_true] at h4;refine qlR ?_;exact nxt (rl3.next hr4 k4) (k'.trans kk) hD4 rys4 gD4 h4
   |true=>
    rw [if_pos rfl] at h4;refine qlD ?_;refine ⟨τ3,G4,_,rl3.next hr4 k4,h4,λz G5 h5 w H5 rw5 hr5 k5=>?_⟩;obtain ⟨hD5,gD5⟩:=k5 D _ hD4 gD4;have rys5:=rys4.keep hr4 k5;exact ⟨vs,hD5,by rw [← rys.length];exact h5.1,nxt (((rl3.next hr4 k4).next hr5 k5).wrD hD5 gD5) (((k'.trans kk).trans k5).wrD hD) qX ((rys5.append (.cons rw5 .nil)).wrD hD5) gD5 h5.2⟩
  ·have e:i=items.length:=by omega
   subst e;rw [List.drop_length] at h';obtain ⟨_,_,stop⟩:=ok G' H' rl'.hp k' h'.1;refine .inl ⟨stop,af _ _ (h'.2 D gD') _ H' (.ref D) (λa o e=>?_) λa o e ga=>?_⟩
   ·by_cases ha:a=D
    ·subst ha;rw [zl] at e;cases e;exact ⟨vs,hDl,rys⟩
    ·rw [ZX ha] at e;exact rl'.hp a o e
   ·obtain ⟨e1,g1⟩:=k1 a o e ga;obtain ⟨e2,g2⟩:=k' a o e1 g1;exact ⟨e2,by rw [ZX (qo e1 hD)];exact g2⟩
end
structure Src (P:Program) (w:World) (it c:Addr) (St:Nat->Heap->Prop) (Has:Array Value->Heap->Prop):Prop where
 obj:∀ {k h},St k h->∃ o,h.get? it=some o/\∀ v,o.data≠.cell v
 keep:∀ {k h h'},St k h->(∀ o,h.get? it=some o->h'.get? it=some o)->St k h'
 hkeep:∀ {xs h h'},Has xs h->(∀ o,h.get? c=some o->h'.get? c=some o)->Has xs h'
 item:∀ {A:Around} {s:Shared} {k:Nat} {xs:Array Value} {x:Value} {Q:Value->Shared->Prop} {E:Value->Shared->Prop},St k s.heap->Has xs s.heap->xs[k]?=some x ->
  (∀ h',St (k+1) h'->Heap.SameBut it s.heap h'->Q x { s with heap:=h' })->wpAny (model P w) A (Builtin.SmallTypes.nextOf (.ref it)) Q E s
 done:∀ {A:Around} {s:Shared} {k:Nat} {xs:Array Value} {Q:Value->Shared->Prop} {E:Value->Shared->Prop},A.handled=none->St k s.heap->Has xs s.heap->xs[k]?=none ->
  (∀ h' e,Heap.ExtBut it s.heap h'->(∃ o,h'.get? e=some o/\o.cls=.type "StopIteration")->E (.ref e) { s with heap:=h' })->wpAny (model P w) A (Builtin.SmallTypes.nextOf (.ref it)) Q E s
def NO {P:Program} {w:World} (it l:Addr):Src P w it l (λk h=>h.IsListIter it l k) (λxs h=>h.IsList l xs) where
 obj:=λst=>let ⟨o,e,_,d⟩:=st;⟨o,e,λv z=>by rw [d] at z;cases z⟩
 keep:=λst k=>st.at λo e=>k o e
 hkeep:=λst k=>st.at λo e=>k o e
 item:=λst hl hx hQ=>wpAny_nextOf_list_item st hl hx hQ
 done:=λhh st hl hx hE=>wpAny_nextOf_list_end hh st hl hx hE
def SG {P:Program} {w:World} {A:Around} {s:Shared} {it t:Addr} {i:Nat} {its:Array Value} {x:Value} {Q:Value->Shared->Prop} {E:Value->Shared->Prop} (hit:s.heap.IsTupleIter it t i) (ht:s.heap.IsTuple t its) (hx:its[i]?=some x)
  (hQ:∀ h',h'.IsTupleIter it t (i+1)->Heap.SameBut it s.heap h'->Q x { s with heap:=h' }):wpAny (model P w) A (Builtin.SmallTypes.nextOf (.ref it)) Q E s:=by
 obtain ⟨o1,e1,c1,d1⟩:=id hit;obtain ⟨o2,e2,_,n2,d2⟩:=ht;unfold Builtin.SmallTypes.nextOf;refine wpAny_bind (wpAny_callSpecial?_slot (name:=Str.ofString "__next__") hit.typeIs F.slot_tuple_iterator_next (wpAny_call_entry F.slot_tuple_iterator_next hit.typeIs F.entry_tuple_iterator_next ?_ (F.args_tuple_iterator_next_1 _)));refine wpAny_bind (m:=field (.ref it) 0) (wpAny_field e1 d1 (x:=.ref t) rfl ?_);rw [if_neg (show ¬ ((Value.ref t==Value.none)=true) by exact Bool.false_ne_true)];refine wpAny_bind (m:=field (.ref it) 1) (wpAny_field e1 d1 (x:=.int i 0) rfl ?_);refine wpAny_bind (m:=seqItems? (.ref t)) (wpAny_seqItems e2 d2 ?_);simp only [Int.toNat_natCast,hx];refine wpAny_bind (wpAny_setField e1 d1 (by simp) (wpAny_pure ⟨x,rfl,wpAny_pure (hQ _ ⟨_,Heap.get?_update_self _ e1 (Obj.isFreed_of_fields (Obj.data_mapFields d1 _)),(Obj.cls_mapFields ..).trans c1,?_⟩ (Heap.SameBut.update ..))⟩));rw [Obj.data_mapFields d1];simp [rawInt]
def EI {P:Program} {w:World} {A:Around} {s:Shared} {it t:Addr} {i:Nat} {its:Array Value} {Q:Value->Shared->Prop} {E:Value->Shared->Prop} (hh:A.handled=none) (hit:s.heap.IsTupleIter it t i) (ht:s.heap.IsTuple t its) (hx:its[i]?=none)
  (hE:∀ h' e,Heap.ExtBut it s.heap h'->(∃ o,h'.get? e=some o/\o.cls=.type "StopIteration")->E (.ref e) { s with heap:=h' }):wpAny (model P w) A (Builtin.SmallTypes.nextOf (.ref it)) Q E s:=by
 obtain ⟨o1,e1,c1,d1⟩:=id hit;obtain ⟨o2,e2,_,n2,d2⟩:=ht;unfold Builtin.SmallTypes.nextOf;refine wpAny_bind (wpAny_callSpecial?_slot (name:=Str.ofString "__next__") hit.typeIs F.slot_tuple_iterator_next (wpAny_call_entry F.slot_tuple_iterator_next hit.typeIs F.entry_tuple_iterator_next ?_ (F.args_tuple_iterator_next_1 _)));refine wpAny_bind (m:=field (.ref it) 0) (wpAny_field e1 d1 (x:=.ref t) rfl ?_);rw [if_neg (show ¬ ((Value.ref t==Value.none)=true) by exact Bool.false_ne_true)];refine wpAny_bind (m:=field (.ref it) 1) (wpAny_field e1 d1 (x:=.int i 0) rfl ?_);refine wpAny_bind (m:=seqItems? (.ref t)) (wpAny_seqItems e2 d2 ?_);simp only [Int.toNat_natCast,hx];refine wpAny_bind (wpAny_rule (wpAny_bind (wpAny_setField e1 d1 (by simp) ?_)));refine wpAny_bind (m:=newExc (.type "StopIteration") []) ?_;simp only [newExc,newTuple];refine wpAny_bind (wpAny_newObj_type ?_ (by size_fits));refine wpAny_bind (m:=firstArgMember _ _) (wpAny_of_eq (a:=Value.none) (by first|rfl|(simp only [firstArgMember]<;>rfl)) (wpAny_newObj_type ?_ (by size_fits)));simp only [raiseNew];refine wpAny_bind (wpAny_handled ?_)
 first|rw [show A.in1.handled=Option.none from hh]|rw [show A.handled=Option.none from hh]
 exact wpAny_bind (wpAny_pure (wpAny_throw (hE _ _ (((Heap.SameBut.update ..).extBut.push _).push _) ⟨_,Heap.get?_push_size _ rfl,rfl⟩)))
def qdD {P:Program} {w:World} (it t:Addr):Src P w it t (λk h=>h.IsTupleIter it t k) (λxs h=>h.IsTuple t xs) where
 obj:=λst=>let ⟨o,e,_,d⟩:=st;⟨o,e,λv z=>by rw [d] at z;cases z⟩
 keep:=λst k=>st.at λo e=>k o e
 hkeep:=λst k=>st.at λo e=>k o e
 item:=λst hl hx hQ=>SG st hl hx hQ
 done:=λhh st hl hx hE=>EI hh st hl hx hE
structure ZA (z ti to i1 i2 c1 c2:Addr):Prop where
 ne:([z,ti,to,i1,i2]:List Addr).Nodup
 a1:c1∉[z,to,i1,i2]
 a2:c2∉[z,to,i1,i2]
section
variable {P:Program} {w:World} {A:Around} {s:Shared} {z ti to i1 i2 c1 c2:Addr} {S1 S2:Nat->Heap->Prop} {H1 H2:Array Value->Heap->Prop} {k1 k2:Nat} {xs ys:Array Value} {x y a b:Value} {E:Value->Shared->Prop}
def NU {Q:Value->Shared->Prop} (R1:Src P w i1 c1 S1 H1) (R2:Src P w i2 c2 S2 H2) (D:ZA z ti to i1 i2 c1 c2) (hz:IsZip s.heap z ti to .none) (hi:IsPair s.heap ti (.ref i1) (.ref i2)) (ho:IsPair s.heap to a b)
  (p1:S1 k1 s.heap) (p2:S2 k2 s.heap) (l1:H1 xs s.heap) (l2:H2 ys s.heap) (hx:xs[k1]?=some x) (hy:ys[k2]?=some y)
  (hQ:∀ h',IsZip h' z ti to (rawInt s.heap.objs.size)->IsPair h' to x y->S1 (k1+1) h'->S2 (k2+1) h'->IsPair h' s.heap.objs.size x y->(∀ c o,c∉[z,to,i1,i2]->s.heap.get? c=some o->h'.get? c=some o)->Q (.ref s.heap.objs.size) { s with heap:=h' }) :
  wpAny (model P w) A (Builtin.«zip.__next__» ⟨[.ref z],[]⟩) (λfin s'=>∃ v,fin=.done (.ret v)/\Q v s') E s:=by
 have ne:=D.ne;simp only [List.nodup_cons,mem_cons,not_mem_nil,not_or,or_false] at ne;obtain ⟨⟨n1,n2,n3,n4⟩,⟨n5,n6,n7⟩,⟨n8,n9⟩,n10,_⟩:=ne;have a1:=D.a1;have a2:=D.a2;simp only [mem_cons,not_mem_nil,not_or,or_false] at a1 a2;obtain ⟨q1,q2,q3,q4⟩:=a1;obtain ⟨r1,r2,r3,r4⟩:=a2;refine wpAny_bind (m:=field (.ref z) 2) (wpAny_field hz rfl (x:=.bool false) rfl ?_);refine wpAny_bind (m:=field (.ref z) 3) (wpAny_field hz rfl (x:=.ref ti) rfl ?_);refine wpAny_bind (wpAny_seqItems hi rfl ?_);refine wpAny_bind (m:=Builtin.SmallTypes.ownedTupleIsFree (.ref z)) ?_;unfold Builtin.SmallTypes.ownedTupleIsFree;refine wpAny_bind (wpAny_field hz rfl (x:=Value.none) rfl (wpAny_pure ?_));simp only [if_true];refine wpAny_bind (wpAny_rule (wpAny_bind (wpAny_field hz rfl (x:=.ref to) rfl (wpAny_bind (wpAny_setField_rec hz (by simp) λg1 z1 s1=>?_)))))
 replace z1:IsZip g1 z ti to Value.ellipsis:=z1
 refine wpAny_bind ?_;simp only [List.zipIdx_cons,List.zipIdx_nil,List.forIn_cons,List.forIn_nil];refine wpAny_bind (wpAny_bind (wpAny_onRaise (wpAny_bind (m:=Builtin.SmallTypes.nextOf (.ref i1)) ?_)));refine R1.item (R1.keep p1 λo e=>s1.extBut _ _ (Ne.symm n3) e) (R1.hkeep l1 λo e=>s1.extBut _ _ q1 e) hx λg2 p12 s2=>wpAny_pure ?_;have t2:IsPair g2 to a b:=s2.extBut _ _ n8 (s1.extBut _ _ (Ne.symm n2) ho);refine wpAny_bind (wpAny_seqItems t2 rfl (wpAny_bind (wpAny_updateSeq_pair t2 λg3 t3 s3=>?_)))
 replace t3:IsPair g3 to x b:=t3
 refine wpAny_bind (wpAny_letGo (wpAny_pure (wpAny_bind (wpAny_bind (wpAny_onRaise (wpAny_bind (m:=Builtin.SmallTypes.nextOf (.ref i2)) ?_))))));refine R2.item (R2.keep p2 λo e=>s3.extBut _ _ (Ne.symm n9) (s2.extBut _ _ (Ne.symm n10) (s1.extBut _ _ (Ne.symm n4) e))) (R2.hkeep l2 λo e=>s3.extBut _ _ r2 (s2.extBut _ _ r3 (s1.extBut _ _ r1 e))) hy λg4 p24 s4=>wpAny_pure ?_;have t4:IsPair g4 to x b:=s4.extBut _ _ n9 t3;refine wpAny_bind (wpAny_seqItems t4 rfl (wpAny_bind (wpAny_updateSeq_pair t4 λg5 t5 s5=>?_)))
 replace t5:IsPair g5 to x y:=t5
 refine wpAny_bind (wpAny_letGo (wpAny_pure (wpAny_pure (wpAny_bind (wpAny_seqItems t5 rfl (wpAny_bind (wpAny_newTuple ?_)))))));have sz:g5.objs.size=s.heap.objs.size:=by rw [s5.1,s4.1,s3.1,s2.1,s1.1]
 have z5:IsZip g5 z ti to Value.ellipsis:=s5.extBut _ _ n2 (s4.extBut _ _ n4 (s3.extBut _ _ n2 (s2.extBut _ _ n3 z1)));have kk:∀ c o,c∉[z,to,i1,i2]->s.heap.get? c=some o->g5.get? c=some o:=λc o hc e=>by
  simp only [mem_cons,not_mem_nil,not_or,or_false] at hc;exact s5.extBut _ _ hc.2.1 (s4.extBut _ _ hc.2.2.2 (s3.extBut _ _ hc.2.1 (s2.extBut _ _ hc.2.2.1 (s1.extBut _ _ hc.1 e))))
 have p15:S1 (k1+1) g5:=R1.keep p12 λo e=>s5.extBut _ _ (Ne.symm n8) (s4.extBut _ _ n10 (s3.extBut _ _ (Ne.symm n8) e));have p25:S2 (k2+1) g5:=R2.keep p24 λo e=>s5.extBut _ _ (Ne.symm n9) e;have zlt:z<g5.objs.size:=Heap.lt_size z5;refine wpAny_bind (m:=Builtin.SmallTypes.ownedTupleHandOut (.ref z) (.ref g5.objs.size)) ?_;unfold Builtin.SmallTypes.ownedTupleHandOut;have z6:IsZip (g5.push { cls:=.type "tuple",data:=.seq #[x,y] }) z ti to Value.ellipsis:=Heap.get?_push_of_some _ z5;refine wpAny_bind (wpAny_setField_rec z6 (by simp) λg7 z7 s7=>?_)
 replace z7:IsZip g7 z ti to (rawInt g5.objs.size):=z7
 refine wpAny_setField_rec z7 (by simp) λg8 z8 s8=>?_
 replace z8:IsZip g8 z ti to (rawInt g5.objs.size):=z8
 have up:∀ c o,c≠z->g5.get? c=some o->g8.get? c=some o:=λc o hc e=>s8.extBut _ _ hc (s7.extBut _ _ hc (Heap.get?_push_of_some _ e));have t8:IsPair g8 g5.objs.size x y:=s8.extBut _ _ (Nat.ne_of_gt zlt) (s7.extBut _ _ (Nat.ne_of_gt zlt) (Heap.get?_push_size _ rfl));rw [sz] at z8 t8;refine wpAny_pure ⟨_,rfl,?_⟩;show Q (Value.ref g5.objs.size) _;rw [sz];exact hQ g8 z8 (up _ _ (Ne.symm n2) t5) (R1.keep p15 λo e=>up _ o (Ne.symm n3) e) (R2.keep p25 λo e=>up _ o (Ne.symm n4) e) t8 λc o hc e=>up c o (λq=>hc (by simp [q])) (kk c o hc e)
def qcI {Q:Fin->Shared->Prop} (hh:A.handled=none) (R1:Src P w i1 c1 S1 H1) (R2:Src P w i2 c2 S2 H2) (D:ZA z ti to i1 i2 c1 c2) (hz:IsZip s.heap z ti to .none) (hi:IsPair s.heap ti (.ref i1) (.ref i2)) (ho:IsPair s.heap to a b)
  (p1:S1 k1 s.heap) (p2:S2 k2 s.heap) (l1:H1 xs s.heap) (l2:H2 ys s.heap) (hend:xs[k1]?=none\/ys[k2]?=none)
  (hE:∀ h' e,(∀ c o,c∉[z,to,i1,i2]->s.heap.get? c=some o->h'.get? c=some o)->(∃ o,h'.get? e=some o/\o.cls=.type "StopIteration")->E (.ref e) { s with heap:=h' }) :
  wpAny (model P w) A (Builtin.«zip.__next__» ⟨[.ref z],[]⟩) Q E s:=by
 have ne:=D.ne;simp only [List.nodup_cons,mem_cons,not_mem_nil,not_or,or_false] at ne;obtain ⟨⟨n1,n2,n3,n4⟩,⟨n5,n6,n7⟩,⟨n8,n9⟩,n10,_⟩:=ne;have a1:=D.a1;have a2:=D.a2;simp only [mem_cons,not_mem_nil,not_or,or_false] at a1 a2;obtain ⟨q1,q2,q3,q4⟩:=a1;obtain ⟨r1,r2,r3,r4⟩:=a2;refine wpAny_bind (m:=field (.ref z) 2) (wpAny_field hz rfl (x:=.bool false) rfl ?_);refine wpAny_bind (m:=field (.ref z) 3) (wpAny_field hz rfl (x:=.ref ti) rfl ?_);refine wpAny_bind (wpAny_seqItems hi rfl ?_);refine wpAny_bind (m:=Builtin.SmallTypes.ownedTupleIsFree (.ref z)) ?_;unfold Builtin.SmallTypes.ownedTupleIsFree;refine wpAny_bind (wpAny_field hz rfl (x:=Value.none) rfl (wpAny_pure ?_));simp only [if_true];refine wpAny_bind (wpAny_rule (wpAny_bind (wpAny_field hz rfl (x:=.ref to) rfl (wpAny_bind (wpAny_setField_rec hz (by simp) λg1 z1 s1=>?_)))))
 replace z1:IsZip g1 z ti to Value.ellipsis:=z1
 refine wpAny_bind ?_;simp only [List.zipIdx_cons,List.zipIdx_nil,List.forIn_cons,List.forIn_nil];refine wpAny_bind (wpAny_bind (wpAny_onRaise (wpAny_bind (m:=Builtin.SmallTypes.nextOf (.ref i1)) ?_)));cases hx:xs[k1]? with
 |none=>
  refine R1.done hh (R1.keep p1 λo e=>s1.extBut _ _ (Ne.symm n3) e) (R1.hkeep l1 λo e=>s1.extBut _ _ q1 e) hx λg2 e s2 ⟨oe,he,ce⟩=>?_;have z2:IsZip g2 z ti to Value.ellipsis:=s2 _ _ n3 z1;have ez:e≠z:=λq=>by subst q;rw [z2] at he;cases he;simp at ce
  refine wpAny_setField_rec z2 (by simp) λg3 _ s3=>hE g3 e (λc o hc q=>?_) ⟨oe,s3.extBut _ _ ez he,ce⟩;simp only [mem_cons,not_mem_nil,not_or,or_false] at hc;exact s3.extBut _ _ hc.1 (s2 _ _ hc.2.2.1 (s1.extBut _ _ hc.1 q))
 |some x=>
  have hy:ys[k2]?=none:=by rcases hend with q|q;rw [hx] at q;cases q;exact q
  refine R1.item (R1.keep p1 λo e=>s1.extBut _ _ (Ne.symm n3) e) (R1.hkeep l1 λo e=>s1.extBut _ _ q1 e) hx λg2 p12 s2=>wpAny_pure ?_;have t2:IsPair g2 to a b:=s2.extBut _ _ n8 (s1.extBut _ _ (Ne.symm n2) ho);refine wpAny_bind (wpAny_seqItems t2 rfl (wpAny_bind (wpAny_updateSeq_pair t2 λg3 t3 s3=>?_)));refine wpAny_bind (wpAny_letGo (wpAny_pure (wpAny_bind (wpAny_bind (wpAny_onRaise (wpAny_bind (m:=Builtin.SmallTypes.nextOf (.ref i2)) ?_))))));refine R2.done hh (R2.keep p2 λo e=>s3.extBut _ _ (Ne.symm n9) (s2.extBut _ _ (Ne.symm n10) (s1.extBut _ _ (Ne.symm n4) e))) (R2.hkeep l2 λo e=>s3.extBut _ _ r2 (s2.extBut _ _ r3 (s1.extBut _ _ r1 e))) hy λg4 e s4 ⟨oe,he,ce⟩=>?_;have z4:IsZip g4 z ti to Value.ellipsis:=s4 _ _ n4 (s3.extBut _ _ n2 (s2.extBut _ _ n3 z1));have ez:e≠z:=λq=>by subst q;rw [z4] at he;cases he;simp at ce
  refine wpAny_setField_rec z4 (by simp) λg5 _ s5=>hE g5 e (λc o hc q=>?_) ⟨oe,s5.extBut _ _ ez he,ce⟩;simp only [mem_cons,not_mem_nil,not_or,or_false] at hc;exact s5.extBut _ _ hc.1 (s4 _ _ hc.2.2.2 (s3.extBut _ _ hc.2.1 (s2.extBut _ _ hc.2.2.1 (s1.extBut _ _ hc.1 q))))
end
abbrev qja (b:Bool):String:=if b then "list_iterator" else "tuple_iterator"
abbrev zh (b:Bool) (c:Addr):Obj:={ cls:=.type (qja b),data:=.fields #[.ref c,.int 0 0] }
def NX (b:Bool) (it c:Addr) (k:Nat) (h:Heap):Prop:=match b with|true=>h.IsListIter it c k|false=>h.IsTupleIter it c k
def X2 (b:Bool) (c:Addr) (xs:Array Value) (h:Heap):Prop:=match b with|true=>h.IsList c xs|false=>h.IsTuple c xs
def zi {P:Program} {w:World} (b:Bool) (it c:Addr):Src P w it c (NX b it c) (X2 b c):=by
 cases b
 ·exact qdD it c
 ·exact NO it c
def CK {P:Program} {w:World} {A:Around} {s:Shared} {b:Bool} {c:Addr} {xs:Array Value} {Q:Value->Shared->Prop} {E:Value->Shared->Prop} (h:X2 b c xs s.heap) (q:Q (.ref s.heap.objs.size) { s with heap:=s.heap.push (zh b c) }) :
  wpAny (model P w) A (pyIter (.ref c)) Q E s:=by
 cases b
 ·exact wpAny_pyIter_tuple (show s.heap.IsTuple c xs from h) q
 ·exact wpAny_pyIter_list (show s.heap.IsList c xs from h) q
def M5 {b:Bool} {c:Addr} {xs:Array Value} {h:Heap} {o:Obj} (q:X2 b c xs h):X2 b c xs (h.push o):=by
 cases b
 ·exact (show h.IsTuple c xs from q).at λ_ e=>Heap.get?_push_of_some _ e
 ·exact (show h.IsList c xs from q).at λ_ e=>Heap.get?_push_of_some _ e
abbrev zh1 (h:Heap) (o1:Obj):Heap:=h.push o1
abbrev zh2 (h:Heap) (o1 o2:Obj):Heap:=(zh1 h o1).push o2
abbrev zh3 (h:Heap) (o1 o2:Obj):Heap:=(zh2 h o1 o2).push { cls:=.type "tuple",data:=.seq #[.ref h.objs.size,.ref (zh1 h o1).objs.size] }
abbrev zh4 (h:Heap) (o1 o2:Obj):Heap:=(zh3 h o1 o2).push { cls:=.type "tuple",data:=.seq #[.none,.none] }
abbrev zh5 (h:Heap) (o1 o2:Obj):Heap:=(zh4 h o1 o2).push { cls:=.type "zip",data:=.fields #[.none,.bool false,.bool false,.ref (zh2 h o1 o2).objs.size,.ref (zh3 h o1 o2).objs.size] }
def L9 (c1 c2:Addr) (o1 o2:Obj) :
  Meets (Builtin.«zip.__new__» ⟨[.type "zip",.ref c1,.ref c2],[]⟩) (λ_ R s=>
   (∀ (P:Program) (w:World) (A:Around) (Q:Value->Shared->Prop) (E:Value->Shared->Prop),Q (.ref s.heap.objs.size) { s with heap:=zh1 s.heap o1 }->wpAny (model P w) A (pyIter (.ref c1)) Q E s) /\
   (∀ (P:Program) (w:World) (A:Around) (Q:Value->Shared->Prop) (E:Value->Shared->Prop),Q (.ref (zh1 s.heap o1).objs.size) { s with heap:=zh2 s.heap o1 o2 }->wpAny (model P w) A (pyIter (.ref c2)) Q E { s with heap:=zh1 s.heap o1 }) /\
   R (.ok (.ret (.ref (zh4 s.heap o1 o2).objs.size))) { s with heap:=zh5 s.heap o1 o2 }):=
 .of_wp λprog w A R s h=>by
  obtain ⟨hp,g,d,tk,os⟩:=s;obtain ⟨h1,h2,h⟩:=h;have hsub:=sub_zip;have k1:=λA Q E=>h1 prog w A Q E;have k2:=λA Q E=>h2 prog w A Q E
  wp_walk using k1 _ _ _,k2 _ _ _
  exact ⟨_,rfl,h⟩
def qai (b1 b2:Bool) (z ti to i1 i2 c1 c2:Addr) (k:Nat) (h:Heap):Prop:=
 IsZip h z ti to .none/\IsPair h ti (.ref i1) (.ref i2)/\(∃ a b,IsPair h to a b)/\NX b1 i1 c1 k h/\NX b2 i2 c2 k h
section
variable {P:Program} {w:World} {A:Around} {s:Shared} {E:Value->Shared->Prop}
def qap {b1 b2:Bool} {c1 c2:Addr} {xs ys:Array Value} {Q:Value->Shared->Prop} (h1:X2 b1 c1 xs s.heap) (h2:X2 b2 c2 ys s.heap)
  (q:∀ h',qai b1 b2 (s.heap.objs.size+4) (s.heap.objs.size+2) (s.heap.objs.size+3) s.heap.objs.size (s.heap.objs.size+1) c1 c2 0 h'->(∀ c o,s.heap.get? c=some o->h'.get? c=some o)->Q (.ref (s.heap.objs.size+4)) { s with heap:=h' }) :
  wpAny (model P w) A (call (.type "zip") [.ref c1,.ref c2]) Q E s:=by
 refine callType_new F.called_zip (by decide) (F.typeCall_zip_2 _ _) (F.newCall_zip_2 _ _) (λobj=>F.args_object_init_3 obj _ _) F.entry_zip_new
  (L9 c1 c2 (zh b1 c1) (zh b2 c2)) ⟨λP w A Q E q=>CK h1 q,λP w A Q E q=>CK (s:={ s with heap:=zh1 s.heap (zh b1 c1) }) (M5 h2) q,?_⟩
 have e1:(zh1 s.heap (zh b1 c1)).objs.size=s.heap.objs.size+1:=Heap.size_push ..;have e2:(zh2 s.heap (zh b1 c1) (zh b2 c2)).objs.size=s.heap.objs.size+2:=by rw [Heap.size_push,e1]
 have e3:(zh3 s.heap (zh b1 c1) (zh b2 c2)).objs.size=s.heap.objs.size+3:=by rw [Heap.size_push,e2]
 have e4:(zh4 s.heap (zh b1 c1) (zh b2 c2)).objs.size=s.heap.objs.size+4:=by rw [Heap.size_push,e3]
 have g5:(zh5 s.heap (zh b1 c1) (zh b2 c2)).get? (zh4 s.heap (zh b1 c1) (zh b2 c2)).objs.size=some _:=Heap.get?_push_size _ rfl;have g4:(zh5 s.heap (zh b1 c1) (zh b2 c2)).get? (zh3 s.heap (zh b1 c1) (zh b2 c2)).objs.size=some _:=Heap.get?_push_of_some _ (Heap.get?_push_size _ rfl);have g3:(zh5 s.heap (zh b1 c1) (zh b2 c2)).get? (zh2 s.heap (zh b1 c1) (zh b2 c2)).objs.size=some _:=Heap.get?_push_of_some _ (Heap.get?_push_of_some _ (Heap.get?_push_size _ rfl));have g2:(zh5 s.heap (zh b1 c1) (zh b2 c2)).get? (zh1 s.heap (zh b1 c1)).objs.size=some (zh b2 c2):=Heap.get?_push_of_some _ (Heap.get?_push_of_some _ (Heap.get?_push_of_some _ (Heap.get?_push_size _ rfl)));have g1:(zh5 s.heap (zh b1 c1) (zh b2 c2)).get? s.heap.objs.size=some (zh b1 c1):=Heap.get?_push_of_some _ (Heap.get?_push_of_some _ (Heap.get?_push_of_some _ (Heap.get?_push_of_some _ (Heap.get?_push_size _ rfl))));show _/\_;rw [e2,e3,e4] at g5;rw [e1,e2] at g3;rw [e3] at g4;rw [e1] at g2;rw [e4];refine ⟨⟨_,g5,rfl⟩,q _ ⟨g5,g3,⟨_,_,g4⟩,?_,?_⟩ λc o e=>Heap.get?_push_of_some _ (Heap.get?_push_of_some _ (Heap.get?_push_of_some _ (Heap.get?_push_of_some _ (Heap.get?_push_of_some _ e))))⟩
 ·cases b1<;>exact ⟨_,g1,rfl,rfl⟩
 ·cases b2<;>exact ⟨_,g2,rfl,rfl⟩
def qaH {b1 b2:Bool} {z ti to i1 i2 c1 c2:Addr} {k:Nat} {xs ys:Array Value} {x y:Value} {Q:Option Value->Shared->Prop} (D:ZA z ti to i1 i2 c1 c2) (st:qai b1 b2 z ti to i1 i2 c1 c2 k s.heap) (l1:X2 b1 c1 xs s.heap) (l2:X2 b2 c2 ys s.heap) (hx:xs[k]?=some x) (hy:ys[k]?=some y)
  (hQ:∀ h',IsZip h' z ti to (rawInt s.heap.objs.size)->IsPair h' ti (.ref i1) (.ref i2)->(∃ a b,IsPair h' to a b)->NX b1 i1 c1 (k+1) h'->NX b2 i2 c2 (k+1) h'->IsPair h' s.heap.objs.size x y->(∀ c o,c∉[z,to,i1,i2]->s.heap.get? c=some o->h'.get? c=some o)->Q (some (.ref s.heap.objs.size)) { s with heap:=h' }) :
  wpAny (model P w) A (pyNext (.ref z)) Q E s:=by
 obtain ⟨hz,hi,⟨a,b,ho⟩,p1,p2⟩:=st;have ty:s.TypeIs (.ref z) "zip" := ⟨_,hz,rfl⟩
 have nti:ti∉[z,to,i1,i2]:=by
  have ne:=D.ne;simp only [List.nodup_cons,mem_cons,not_mem_nil,not_or,or_false] at ne ⊢;exact ⟨Ne.symm ne.1.1,ne.2.1.1,ne.2.1.2.1,ne.2.1.2.2⟩
 unfold pyNext;exact wpAny_bind (wpAny_attempt (wpAny_callSpecial?_slot (name:=Str.ofString "__next__") ty F.slot_zip_next (wpAny_call_entry F.slot_zip_next ty F.entry_zip_next
  (NU (zi b1 i1 c1) (zi b2 i2 c2) D hz hi ho p1 p2 l1 l2 hx hy λh' u1 u2 u3 u4 u5 u6=>wpAny_pure (hQ h' u1 (u6 _ _ nti hi) ⟨_,_,u2⟩ u3 u4 u5 u6)) (F.args_zip_next_1 _))))
def XQ {b1 b2:Bool} {z ti to i1 i2 c1 c2:Addr} {k:Nat} {xs ys:Array Value} {Q:Option Value->Shared->Prop} (hh:A.handled=none) (D:ZA z ti to i1 i2 c1 c2) (st:qai b1 b2 z ti to i1 i2 c1 c2 k s.heap) (l1:X2 b1 c1 xs s.heap) (l2:X2 b2 c2 ys s.heap) (hend:xs[k]?=none\/ys[k]?=none)
  (hQ:∀ h',(∀ c o,c∉[z,to,i1,i2]->s.heap.get? c=some o->h'.get? c=some o)->Q none { s with heap:=h' }):wpAny (model P w) A (pyNext (.ref z)) Q E s:=by
 obtain ⟨hz,hi,⟨a,b,ho⟩,p1,p2⟩:=st;have ty:s.TypeIs (.ref z) "zip" := ⟨_,hz,rfl⟩
 unfold pyNext;refine wpAny_bind (wpAny_attempt (wpAny_callSpecial?_slot (name:=Str.ofString "__next__") ty F.slot_zip_next (wpAny_call_entry F.slot_zip_next ty F.entry_zip_next
  (qcI hh (zi b1 i1 c1) (zi b2 i2 c2) D hz hi ho p1 p2 l1 l2 hend λh' e hk ⟨o,q1,q2⟩=>?_) (F.args_zip_next_1 _))))
 exact wpAny_bind (wpAny_isInstance (T:="StopIteration") (b:=true) ⟨o,q1,q2⟩ isSubtype_stop (wpAny_pure (hQ _ hk)))
end
def SqB (K:Frg) (b:Bool) (H:Hp) (a:Addr) (xs:List V):Prop:=match b with|true=>SqL K H a xs|false=>SqT K H a xs
def SqB.get {X:Cx} {pins:List (Addr×Obj)} {σ:L2.St} {H:Hp} {s:Shared} {b:Bool} {a:Addr} {xs:List V} (I:Inv X pins σ H s) (h:SqB X.K b H a xs):∃ its:List Value,zt xs its/\X2 b a its.toArray s.heap/\xs.length<=sizeLine:=by
 cases b
 ·obtain ⟨its,r,p,hz⟩:=I.tuple (show SqT X.K H a xs from h);exact ⟨its,r,(show s.heap.IsTuple a its.toArray from p),hz⟩
 ·obtain ⟨its,r,p,hz⟩:=I.list (show SqL X.K H a xs from h);exact ⟨its,r,p.isList,hz⟩
def SqB.inj {X:Cx} {pins:List (Addr×Obj)} {σ:L2.St} {H:Hp} {s:Shared} {b:Bool} {a:Addr} {xs ys:List V} (I:Inv X pins σ H s) (h:SqB X.K b H a xs) (h':SqB X.K b H a ys):xs=ys:=by
 cases b
 ·exact I.tuple_inj h h'
 ·exact I.list_inj h h'
def Itz (K:Frg) (b1 b2:Bool) (c1 c2:Addr):It:=
  ⟨λi H=>∃ xs ys x y,SqB K b1 H c1 xs/\SqB K b2 H c2 ys/\xs[i]?=some x/\ys[i]?=some y,
   λi H v H'=>∃ p x y,H p=none/\v=.ref p/\H'=upd H p (.tup [x,y])/\(∀ xs,SqB K b1 H c1 xs->xs[i]?=some x)/\(∀ ys,SqB K b2 H c2 ys->ys[i]?=some y),
   λi H=>∃ xs ys,SqB K b1 H c1 xs/\SqB K b2 H c2 ys/\(xs.length<=i\/ys.length<=i)⟩
def qdq {b:Bool} {c:Addr} {xs:Array Value} {h:Heap} (q:X2 b c xs h):c<h.objs.size:=by
 cases b
 ·obtain ⟨o,e,_⟩:=(show h.IsTuple c xs from q);exact Heap.lt_size e
 ·obtain ⟨o,e,_⟩:=(show h.IsList c xs from q);exact Heap.lt_size e
def qaQ {P:Program} {w:World} {K:Frg} {es:List Expr} {k1:Nat} {pt:Pos} {b1 b2:Bool} {z ti to i1 i2 c1 c2:Addr} (D:ZA z ti to i1 i2 c1 c2):Turn P w K (.Tuple es k1 pt) (Itz K b1 b2 c1 c2) [z,ti,to,i1,i2] z (qai b1 b2 z ti to i1 i2 c1 c2) where
 mem:=by simp
 obj:=λi h ⟨hz,hi,⟨a,b,ho⟩,p1,p2⟩ c hc=>by
  simp only [mem_cons,not_mem_nil,or_false] at hc;rcases hc with rfl|rfl|rfl|rfl|rfl
  ·exact ⟨_,hz,λv q=>by cases q⟩
  ·exact ⟨_,hi,λv q=>by cases q⟩
  ·exact ⟨_,ho,λv q=>by cases q⟩
  ·exact (zi (P:=P) (w:=w) b1 c c1).obj p1
  ·exact (zi (P:=P) (w:=w) b2 c c2).obj p2
 keep:=λi h h' ⟨hz,hi,⟨a,b,ho⟩,p1,p2⟩ k=>
  ⟨k z (by simp) _ hz,k ti (by simp) _ hi,⟨a,b,k to (by simp) _ ho⟩,(zi (P:=P) (w:=w) b1 i1 c1).keep p1 λo e=>k i1 (by simp) o e,(zi (P:=P) (w:=w) b2 i2 c2).keep p2 λo e=>k i2 (by simp) o e⟩
 item:=by
  intro X hP hw hK hc i pins s σ H E I hf st hg;subst hP hw hK;obtain ⟨xs,ys,x,y,sq1,sq2,hx,hy⟩:=hg;obtain ⟨its1,rv1,l1,z1⟩:=sq1.get I;obtain ⟨its2,rv2,l2,z2⟩:=sq2.get I;obtain ⟨u1,hu1,ru1⟩:=rv1.get hx;obtain ⟨u2,hu2,ru2⟩:=rv2.get hy;refine qaH D st l1 l2 (x:=u1) (y:=u2) (by simpa using hu1) (by simpa using hu2) λh' hz hi ho p1 p2 hp hk=>?_;have hfr:H s.heap.objs.size=none:=I.fresh;have free:∀ b∈[z,ti,to,i1,i2],H b=none:=λb hb=>(hf b hb).1;refine ⟨_,rfl,wpAny_letOwnedTupleGo_zip hz λh2 hz2 s2=>?_⟩;have zlt:z<s.heap.objs.size:=Heap.lt_size st.1;have hp2:IsPair h2 s.heap.objs.size u1 u2:=(s2.2 _ (Nat.ne_of_gt zlt)).trans hp;have ne:=D.ne;simp only [List.nodup_cons,mem_cons,not_mem_nil,not_or,or_false] at ne;have up:∀ c o,c≠z->h'.get? c=some o->h2.get? c=some o:=λc o hc e=>(s2.2 c hc).trans e;have kk:∀ c o,c∉[z,to,i1,i2]->s.heap.get? c=some o->h2.get? c=some o:=λc o hc e=>up c o (λq=>hc (by simp [q])) (hk c o hc e);have I3:Inv X pins σ (upd H s.heap.objs.size (.tup [x,y])) { s with heap:=h2 }:=by
   refine I.step (g':=s.gens) (d':=s.drawn) (t':=s.toks) (ch:=[z,to,i1,i2]) (λb hb=>?_) (λb o _ _ hcb e _=>kk b o hcb e) (λb o _ _ hcb e _=>⟨o.slots,kk b o hcb e⟩) (λb o _ e n=>by rw [qs (Nat.ne_of_lt (Heap.lt_size e))];exact n) (λb o hcb e=>⟨o,kk b o hcb e⟩)
    (λb _ e=>by rw [qs (qo e hfr)];exact e) (λb _ _ e=>by rw [qs (qo e hfr)];exact e) (λb ps e=>⟨#[],by rw [qs (qo e hfr),e];simp⟩) (λm hm=>?_) (λb u e=>?_) I.bare
   ·obtain ⟨f0,f1,f2,f3,f4,f5⟩:=hf b (by simp only [mem_cons,not_mem_nil,or_false] at hb ⊢;rcases hb with q|q|q|q<;>simp [q]);exact ⟨f3,f1,f4,f5⟩
   ·obtain ⟨o,es',ep,ho',r⟩:=hm;refine ⟨o,es',ep,kk _ o (λq=>?_) ho',r⟩;obtain ⟨f0,f1,_⟩:=hf X.env.locals (by simp only [mem_cons,not_mem_nil,or_false] at q ⊢;rcases q with q|q|q|q<;>simp [q]);exact f1 rfl
   ·by_cases hb:b=s.heap.objs.size
    ·subst hb;rw [qX] at e;cases e;exact ⟨by show 2<=sizeLine;decide,[u1,u2],.cons ru1 (.cons ru2 .nil),⟨_,hp2,rfl,_,rfl⟩⟩
    ·rw [qs hb] at e;refine (I.hok b u e).stay (λc v hcb q=>kk c v (λm=>?_) q) (λ_ q=>by rw [qs (qo q hfr)];exact q) λ_ _ q=>by rw [qs (qo q hfr)];exact q
     have hn:=free c (by simp only [mem_cons,not_mem_nil,or_false] at m ⊢;rcases m with q|q|q|q<;>simp [q]);rcases hcb with q|q
     ·rw [q] at hn;rw [hn] at e;cases e
     ·rw [hn] at q;cases q
  refine ⟨.ref s.heap.objs.size,_,I3,rfl,⟨_,x,y,hfr,rfl,rfl,λzs q=>by rw [q.inj I sq1];exact hx,λzs q=>by rw [q.inj I sq2];exact hy⟩,⟨hz2,up _ _ (Ne.symm ne.1.1) hi,let ⟨a,b,q⟩:=ho;⟨a,b,up _ _ (Ne.symm ne.1.2.1) q⟩,(zi (P:=X.prog) (w:=X.w) b1 i1 c1).keep p1 λo e=>up _ o (Ne.symm ne.1.2.2.1) e,(zi (P:=X.prog) (w:=X.w) b2 i2 c2).keep p2 λo e=>up _ o (Ne.symm ne.1.2.2.2) e⟩,λb hb=>?_⟩;rw [qs (λq=>?_)]
  ·exact free b hb
  ·subst q;obtain ⟨hz0,hi0,⟨a0,b0,ho0⟩,q1,q2⟩:=st;simp only [mem_cons,not_mem_nil,or_false] at hb;rcases hb with q|q|q|q|q
   ·exact absurd q (Nat.ne_of_gt zlt)
   ·exact absurd q (Nat.ne_of_gt (Heap.lt_size hi0))
   ·exact absurd q (Nat.ne_of_gt (Heap.lt_size ho0))
   ·obtain ⟨o,e,_⟩:=(zi (P:=X.prog) (w:=X.w) b1 i1 c1).obj q1;exact absurd q (Nat.ne_of_gt (Heap.lt_size e))
   ·obtain ⟨o,e,_⟩:=(zi (P:=X.prog) (w:=X.w) b2 i2 c2).obj q2;exact absurd q (Nat.ne_of_gt (Heap.lt_size e))
 done:=by
  intro X hP hw hK hc i pins s σ H E I hf st hg;subst hP hw hK;obtain ⟨xs,ys,sq1,sq2,hend⟩:=hg;obtain ⟨its1,rv1,l1,z1⟩:=sq1.get I;obtain ⟨its2,rv2,l2,z2⟩:=sq2.get I;have e1:=rv1.length;have e2:=rv2.length;refine XQ (I.ok.hd hc) D st l1 l2 (by rcases hend with q|q;exact .inl (by simp;omega);exact .inr (by simp;omega)) λh' hk=>⟨rfl,?_⟩
  have free:∀ b∈[z,ti,to,i1,i2],H b=none:=λb hb=>(hf b hb).1;refine I.step (g':=s.gens) (d':=s.drawn) (t':=s.toks) (ch:=[z,to,i1,i2]) (λb hb=>?_) (λb o _ _ hcb e _=>hk b o hcb e) (λb o _ _ hcb e _=>⟨o.slots,hk b o hcb e⟩) (λ_ _ _ _ n=>n) (λb o hcb e=>⟨o,hk b o hcb e⟩) (λ_ _ e=>e) (λ_ _ _ e=>e) (λb ps e=>⟨#[],by rw [e];simp⟩) (λm hm=>?_) (λb u e=>?_) I.bare
  ·obtain ⟨f0,f1,f2,f3,f4,f5⟩:=hf b (by simp only [mem_cons,not_mem_nil,or_false] at hb ⊢;rcases hb with q|q|q|q<;>simp [q]);exact ⟨f3,f1,f4,f5⟩
  ·obtain ⟨o,es',ep,ho',r⟩:=hm;refine ⟨o,es',ep,hk _ o (λq=>?_) ho',r⟩;obtain ⟨f0,f1,_⟩:=hf X.env.locals (by simp only [mem_cons,not_mem_nil,or_false] at q ⊢;rcases q with q|q|q|q<;>simp [q]);exact f1 rfl
  ·refine (I.hok b u e).stay (λc v hcb q=>hk c v (λm=>?_) q) (λ_ q=>q) λ_ _ q=>q;have hn:=free c (by simp only [mem_cons,not_mem_nil,or_false] at m ⊢;rcases m with q|q|q|q<;>simp [q]);rcases hcb with q|q
   ·rw [q] at hn;rw [hn] at e;cases e
   ·rw [hn] at q;cases q
 self:=λA i s Q E st h=>wpAny_pyIter_zip st.1 h
def qe3 {n c1 c2:Addr} (h1:c1<n) (h2:c2<n):ZA (n+4) (n+2) (n+3) n (n+1) c1 c2:=by
 have k:∀ n c:Nat,c<n->c≠n+4/\c≠n+3/\c≠n/\c≠n+1:=λn c h=>by omega
 have d:∀ n:Nat,(([n+4,n+2,n+3,n,n+1]:List Nat)).Nodup:=λn=>by
  simp only [List.nodup_cons,mem_cons,not_mem_nil,not_or,or_false,List.nodup_nil,and_true,not_false_eq_true];omega
 refine ⟨d n,?_,?_⟩
 ·simp only [mem_cons,not_mem_nil,not_or,or_false];exact k n c1 h1
 ·simp only [mem_cons,not_mem_nil,not_or,or_false];exact k n c2 h2
section
variable {X:Cx} {a b e l:Expr} {es:List Expr} {pos:Pos}
def qgO {p pt:Pos} {k1:Nat} {ta:TA} (hg:Gl X "zip") (hm:X.mg "zip" = none) (ha:PA X [a,b] ta) (hs:starEach [a,b] X.env=[(false,eval a X.env),(false,eval b X.env)]:=by rfl) (hs2:starEach [b] X.env=[(false,eval b X.env)]:=by rfl) :
  PI X (.Tuple es k1 pt) (.Call (.Name "zip" p) [a,b] [] pos) (λσ H R=>ta σ H λvs H1=>∃ b1 b2 c1 c2 xs ys,vs=[.ref c1,.ref c2]/\SqB X.K b1 H1 c1 xs/\SqB X.K b2 H1 c2 ys/\R (Itz X.K b1 b2 c1 c2) H1):=by
 intro pins s σ H R I h;refine Call_ (UM I hg hm PyProof.Rows.boot_zip (PyProof.Rows.callWith_type1 (thn (ha pos pins s σ H _ I h) λus s1 ⟨vs,H1,I1,r1,q1⟩=>?_) (by rw [hs,hs2]) (by rw [hs2];rfl)));obtain ⟨b1,b2,c1,c2,xs,ys,rfl,sq1,sq2,q⟩:=q1;obtain ⟨u1,u2,rfl,e1,e2⟩:=MZ r1;cases (show u1=Value.ref c1 from e1);cases (show u2=Value.ref c2 from e2);obtain ⟨its1,rv1,l1,z1⟩:=sq1.get I1;obtain ⟨its2,rv2,l2,z2⟩:=sq2.get I1;refine qap l1 l2 λh' st hk=>wpAny_pyIter_zip st.1 ?_;refine ⟨s1.heap.objs.size+4,[s1.heap.objs.size+4,s1.heap.objs.size+2,s1.heap.objs.size+3,s1.heap.objs.size,s1.heap.objs.size+1],_,_,H1,rfl,I1.kept (t':=s1.toks) hk,qaQ (qe3 (qdq l1) (qdq l2)),st,λc hc=>?_,q⟩;have hle:s1.heap.objs.size<=c:=by
  simp only [mem_cons,not_mem_nil,or_false] at hc;rcases hc with rfl|rfl|rfl|rfl|rfl<;>first|exact Nat.le_refl _|exact Nat.le_add_right _ _
 exact I1.fpOk hle (I1.hok.fresh hle)
end
def jj (G:Gp):T->Option (List T)
 |.tup xs=>some xs
 |.ref p=>getL G p
 |_=>none
def MP {K:Frg} {G0:Gp} {H0:Hp} {x:T} {v:V} {us:List T} (hr0:HR K G0 H0) (rx:Rp K H0 x v) (h:jj G0 x=some us) :
  ∃ b c,v=.ref c/\∀ G H,HR K G H->Kp G0 H0 G H->jj G x=some us->∃ vs,SqB K b H c vs/\Rps K H us vs:=by
 cases rx with
 |tup hs rs=>
  cases h;exact ⟨false,_,rfl,λG H hr k _=>⟨_,(DL hr0 k hs:SqT K H _ _),rs.keep hr0 k⟩⟩
 |ref a=>exact ⟨true,a,rfl,λG H hr k hq=>let ⟨vs,h1,h2⟩:=zE hr (show getL G a=some us from hq);⟨vs,h1,h2⟩⟩
 |_=>cases h
def NN (us vs:List T):List T:=(us.zip vs).map λp=>.tup [p.1,p.2]
def WL {us vs:List T} {i:Nat} {x:T} (h:(NN us vs)[i]?=some x):∃ a b,us[i]?=some a/\vs[i]?=some b/\x=.tup [a,b]:=by
 unfold NN at h;rw [getElem?_map] at h;cases e:(us.zip vs)[i]? with
 |none=>rw [e] at h;cases h
 |some p=>
  rw [e] at h;have:=List.getElem?_zip_eq_some.mp e;exact ⟨p.1,p.2,this.1,this.2,by simpa using h.symm⟩
def qfi {K:Frg} {b1 b2:Bool} {c1 c2:Addr} {x y:T} {us vs:List T} {G0:Gp} {H0:Hp}
  (f1:∀ G H,HR K G H->Kp G0 H0 G H->jj G x=some us->∃ vs,SqB K b1 H c1 vs/\Rps K H us vs) (f2:∀ G H,HR K G H->Kp G0 H0 G H->jj G y=some vs->∃ ws,SqB K b2 H c2 ws/\Rps K H vs ws) :
  qec K (Itz K b1 b2 c1 c2) (NN us vs) (λG=>jj G x=some us/\jj G y=some vs) G0 H0:=by
 intro G H hr k ⟨h1,h2⟩;obtain ⟨p,sp,rp⟩:=f1 G H hr k h1;obtain ⟨q,sq,rq⟩:=f2 G H hr k h2;refine ⟨λi z hz=>?_,λi z v H' hz hy=>?_,⟨p,q,sp,sq,?_⟩⟩
 ·obtain ⟨a,b,ha,hb,_⟩:=WL hz;obtain ⟨v,hv,_⟩:=rp.get ha;obtain ⟨w,hw,_⟩:=rq.get hb;exact ⟨p,q,v,w,sp,sq,hv,hw⟩
 ·obtain ⟨a,b,ha,hb,rfl⟩:=WL hz;obtain ⟨t,v1,v2,ht,rfl,rfl,g1,g2⟩:=hy;obtain ⟨v,hv,rv⟩:=rp.get ha;obtain ⟨w,hw,rw'⟩:=rq.get hb;have e1:=(g1 p sp).symm.trans hv;have e2:=(g2 q sq).symm.trans hw;obtain rfl:v1=v:=Option.some.inj e1;obtain rfl:v2=w:=Option.some.inj e2;have kk:Kp G H G (upd H t (.tup [v1,v2])):=Kp.laid ht;exact ⟨.tup (SqT.of qX) (.cons (rv.keep hr kk) (.cons (rw'.keep hr kk) .nil)),hr.laid ht,kk⟩
 ·rw [← rp.length,← rq.length,show (NN us vs).length=min us.length vs.length by simp [NN]];omega
def qaC (ta:TA3):TI3:=λτ G r=>ta τ G λxs G1=>match xs with
 |[x,y]=>(match jj G1 x,jj G1 y with|some us,some vs=>r (NN us vs) (λG=>jj G x=some us/\jj G y=some vs) G1|_,_=>False)
 |_=>False
section
variable {X:Cx} {a b e l:Expr} {es:List Expr} {pos:Pos} {t:TA3}
def qjj {p pt:Pos} {k1:Nat} (hg:Gl X "zip") (hm:X.mg "zip" = none) (ha:A3 X [a,b] t) (hs:starEach [a,b] X.env=[(false,eval a X.env),(false,eval b X.env)]:=by rfl) (hs2:starEach [b] X.env=[(false,eval b X.env)]:=by rfl) :
  I3 X (.Tuple es k1 pt) (.Call (.Name "zip" p) [a,b] [] pos) (qaC t):=
 qiL (qgO hg hm ha hs hs2) λσ H R ⟨τ,G,r,rl,h,af⟩=>YG rl h λxs G1 h1 vs H1 rs hr1 k1 rl1=>by
  split at h1
  ·rename_i x y;split at h1
   ·rename_i us ws e1 e2;obtain ⟨v,u,rfl,r1,r2⟩:=qi7 rs;obtain ⟨b1,c1,rfl,f1⟩:=MP hr1 r1 e1;obtain ⟨b2,c2,rfl,f2⟩:=MP hr1 r2 e2;obtain ⟨p,sp,_⟩:=f1 G1 H1 hr1 Kp.refl e1;obtain ⟨q,sq,_⟩:=f2 G1 H1 hr1 Kp.refl e2;exact ⟨b1,b2,c1,c2,p,q,rfl,sp,sq,af _ _ G1 h1 _ H1 hr1 k1 (qfi f1 f2)⟩
   ·exact h1.elim
  ·exact h1.elim
def NJ:List T->Gp->Q3->Prop:=λxs G q=>match xs with
 |[.ref p]=>(match getL G p with|some ys=>(match qbv ys with|some k=>q (.bl k) G|none=>False)|none=>False)
 |_=>False
def KC {K:Frg} {H:Hp}:∀ {ys:List T} {vs:List V} {k:Bool},Rps K H ys vs->qbv ys=some k->∃ ks:List Bool,vs=ks.map V.bl/\ks.all id=k
 |_,_,_,.nil,h=>by cases h;exact ⟨[],rfl,rfl⟩
 |y::ys,_,k,.cons a b,h=>by
  unfold qbv at h;split at h
  ·rename_i e;cases e
  ·rename_i j r e;cases e;split at h
   ·rename_i i ei;obtain ⟨ks,rfl,hk⟩:=KC b ei;cases a;cases h;exact ⟨j::ks,rfl,by rw [List.all_cons,hk];rfl⟩
   ·cases h
  ·cases h
def CP {K:Frg}:SJ K NJ (λxs H Q=>∃ (p:Addr) (ks:List Bool),xs=[.ref p]/\SqL K H p (ks.map V.bl)/\Q (.bl (ks.all id)) H):=λxs vs G H q Q hr rs h af=>by
 unfold NJ at h;split at h
 ·rename_i p;obtain ⟨v,rfl,r⟩:=SM rs;cases r;split at h
  ·rename_i ys e0;split at h
   ·rename_i k e1;obtain ⟨us,hs,r2⟩:=zE hr e0;obtain ⟨ks,rfl,hk⟩:=KC r2 e1;exact ⟨p,ks,rfl,hs,by rw [hk];exact af _ G h _ H (.bl _) hr Kp.refl⟩
   ·exact h.elim
  ·exact h.elim
 ·exact h.elim
end
def qi4:Value->Bool
 |.type t=>t == "list"
 |_=>false
def Y0:List (Addr×Obj)->Bool
 |[]=>true
 |p::r=>if qi4 p.2.cls then false else Y0 r
def E9:∀ {K:List (Addr×Obj)} {a:Addr} {o:Obj},Y0 K=true->K.lookup a=some o->o.cls≠.type "list"
 |[],_,_,_,e=>by simp at e
 | (b,x)::r,a,o,h,e=>by
  unfold Y0 at h;split at h
  ·cases h
  ·rename_i hx;rw [List.lookup_cons] at e;split at e
   ·cases e;intro z;rw [z] at hx;exact hx rfl
   ·exact E9 h e
def RU {K:Frg} {H:Hp} {a:Addr} {ns:List Int} (hK:Y0 K=true) (hO:qiM H) (hS:SqL K H a (ns.map V.int)):∃ o,H a=some (.frz o (.lst (ns.map V.int))):=by
 rcases hS with (h|h)|⟨o,its,n,h1,h2,_⟩
 ·rcases hO a with z|⟨o,xs,z⟩<;>(rw [h] at z;cases z)
 ·exact h
 ·exact absurd h2 (E9 hK h1)
def only (a:Addr) (ns:List Int):Gp:=λb=>if b=a then some (.frz (ns.map T.int)) else none
def qd3 {K:Frg} {H:Hp} {a:Addr} {ns:List Int} (h:∃ o,H a=some (.frz o (.lst (ns.map V.int)))):HR K (only a ns) H:=λb o e=>by
 unfold only at e;split at e
 ·rename_i hb;subst hb;cases e;exact ⟨_,h,Rps.ints ns⟩
 ·cases e
def EY:Sp3:=λts G q=>∃ (a:Addr) (ns:List Int),ts=[.ref a]/\G a=some (.frz (ns.map T.int))/\ns.length<=63/\∀ G',q (.bl true) G'
def qjA {l:PySem.W.OpenLaw} {k:Nat} {q:Program} {loose:List Str} {XP:(Str->Option Value)->Heap->Prop} {YP:World->Heap->Prop} {d:DefRec} {K:Params->PySem.W.Frag} {x:Str} (hn:l.most=some 63) (hdf:d.params.defaults=[]) (hr:Room k callerA)
  (hY:∀ (w:World) (h:Heap),YP w h->(K w.params).In h) (hK:∀ w:World,Y0 (K w.params)=true)
  (F:∀ (w:World) (mg:Str->Option Value) (fa:Addr) (h:Heap),(K w.params).In h->h.Ns mainGlobals mg->mg d.name=some (.ref fa) ->
   ∃ fd:FuncData,(∀ (s:Shared) (u:Value),BindsTo s fd ⟨[u],[]⟩ [(x,u)])/\∀ base:Heap,(K w.params).In base->base.Ns mainGlobals mg->FnOk l.prog w (K w.params) mg base CX0 k fa fd [x] (lSp (K w.params) EY)) :
  PySem.W.WalkO q loose XP YP l.row.toRowW d [] (λf vs=>PySem.call f vs):=
 L2.qc8 (n:=63) (k:=k) (x:=x) (CX:=λ_=>CX0) (sp:=λw=>lSp (K w.params) EY) hn (by decide) hdf hr hY F
  (λw H a ns hl hO hS=>⟨[.ref a],only a ns,λt _=>t=.bl true,qd3 (RU (hK w) hO hS),.cons (.ref a) .nil,⟨a,ns,rfl,by simp [only],hl,λ_=>rfl⟩,λt G' e v H' r _ _=>by subst e;cases r;rfl⟩) λ_ _ _ _ _ z=>z
def qc6 {P:Program} {w:World} {K:Frg} {mg:Str->Option Value} {base:Heap} {x qual:Str} {st:Stmt} {f:Addr} {fd:FuncData} {N ps:List Str} {k:Nat} {sp:Sp3} {t3:TS3} (F:Fun K x qual st f fd) (S:FnScope N ps (qf st))
  (body:∀ (cdv:Value) (A:Around) (outer:List Env) (s:Shared) (H:Hp) (E:XK),Room k (A.deeper (envOfC qual (qf st) s.heap.objs.size f cdv)) ->
   B3 (NI CX0 P w K mg base N qual (qf st) f cdv A outer s H E).nox (zM st) t3)
  (read:∀ ts G q,sp ts G q->ts.length=ps.length/\t3 { nx:=λ_ G'=>q .non G',rt:=q } (qB N ts) G):FnOk P w K mg base CX0 (k+1) f fd ps (lSp K sp):=by
 refine F.ok S (λvs H Q E ⟨ts,G,q,h1,h2,h3,h4⟩=>by rw [← h2.length];exact (read ts G q h3).1) λcdv A outer s H vs Q E hr ⟨ts,G,q,h1,h2,h3,h4⟩=>?_;refine ⟨_,body cdv A outer s H E hr,qB N ts,G,_,WX h1 h2,(read ts G q h3).2,⟨λτ' G' h' σ' H' rl' k'=>h4 _ G' h' _ H' .non rl'.hp k',h4,λ_ _ z=>z.elim,λ_ _ z=>z.elim⟩⟩
abbrev eh1 (h:Heap) (o1:Obj):Heap:=h.push o1
abbrev eh2 (h:Heap) (o1:Obj):Heap:=(eh1 h o1).push { cls:=.type "enumerate",data:=.fields #[.none,.bool false,.ref h.objs.size,rawInt 0,.none,.none] }
def SY (c:Addr) (o1:Obj) (ob:Obj) :
  Meets (Builtin.«enumerate.__new__» ⟨[.type "enumerate",.ref c],[]⟩) (λ_ R s=>s.heap.get? c=some ob /\
   (∀ (P:Program) (w:World) (A:Around) (Q:Value->Shared->Prop) (E:Value->Shared->Prop),Q (.ref s.heap.objs.size) { s with heap:=eh1 s.heap o1 }->wpAny (model P w) A (pyIter (.ref c)) Q E s) /\
   R (.ok (.ret (.ref (eh1 s.heap o1).objs.size))) { s with heap:=eh2 s.heap o1 }):=
 .of_wp λprog w A R s h=>by
  obtain ⟨hp,g,d,tk,os⟩:=s;obtain ⟨hl,h1,h⟩:=h;have hsub:=sub_enumerate;have k1:=λA Q E=>h1 prog w A Q E
  wp_walk using wpAny_loadPart' hl
  refine wpAny_stack_any λst=>wpAny_pure ?_;split
  ·rename_i c _ _ _ _ _;cases (c==Value.type "enumerate")
   ·wp_walk using wpAny_loadPart' hl,k1 _ _ _
    exact ⟨_,rfl,h⟩
   ·wp_walk using wpAny_loadPart' hl,k1 _ _ _
    exact ⟨_,rfl,h⟩
  ·wp_walk using wpAny_loadPart' hl,k1 _ _ _
   exact ⟨_,rfl,h⟩
def N8 {b:Bool} {c:Addr} {xs:Array Value} {h:Heap} (q:X2 b c xs h):∃ o,h.get? c=some o:=by
 cases b
 ·obtain ⟨o,e,_⟩:=(show h.IsTuple c xs from q);exact ⟨o,e⟩
 ·obtain ⟨o,e,_⟩:=(show h.IsList c xs from q);exact ⟨o,e⟩
section
variable {P:Program} {w:World} {A:Around} {s:Shared} {E:Value->Shared->Prop}
def K6 {b:Bool} {c:Addr} {xs:Array Value} {Q:Value->Shared->Prop} (h1:X2 b c xs s.heap)
  (q:∀ h',IsEnum h' (s.heap.objs.size+1) s.heap.objs.size 0 .none->NX b s.heap.objs.size c 0 h'->(∀ c o,s.heap.get? c=some o->h'.get? c=some o)->Q (.ref (s.heap.objs.size+1)) { s with heap:=h' }) :
  wpAny (model P w) A (call (.type "enumerate") [.ref c]) Q E s:=by
 obtain ⟨ob,hob⟩:=N8 h1;refine callType_new F.called_enumerate (by decide) (F.typeCall_enumerate_1 _) (F.newCall_enumerate_1 _) (λobj=>F.args_object_init_2 obj _) F.entry_enumerate_new
  (SY c (zh b c) ob) ⟨hob,λP w A Q E q=>CK h1 q,?_⟩
 have e1:(eh1 s.heap (zh b c)).objs.size=s.heap.objs.size+1:=Heap.size_push ..;have g2:(eh2 s.heap (zh b c)).get? (eh1 s.heap (zh b c)).objs.size=some _:=Heap.get?_push_size _ rfl;have g1:(eh2 s.heap (zh b c)).get? s.heap.objs.size=some (zh b c):=Heap.get?_push_of_some _ (Heap.get?_push_size _ rfl);show _/\_;rw [e1] at g2 ⊢;refine ⟨⟨_,g2,rfl⟩,q _ g2 ?_ λc o e=>Heap.get?_push_of_some _ (Heap.get?_push_of_some _ e)⟩;cases b<;>exact ⟨_,g1,rfl,rfl⟩
end
def qas {P:Program} {w:World} {A:Around} (hh:A.handled=none) (b:Bool) (it c:Addr) (hne:c≠it) (xs:Array Value) :
  Draws P w A it [it,c] xs.size (λi v=>xs[i]?=some v) (λi h=>NX b it c i h/\X2 b c xs h) where
 live:=λi h st=>let ⟨o,e,_⟩:=(zi (P:=P) (w:=w) b it c).obj st.1;⟨o,e⟩
 frame:=λi h h' st hk=>⟨(zi (P:=P) (w:=w) b it c).keep st.1 λo e=>hk it (by simp) o e,(zi (P:=P) (w:=w) b it c).hkeep st.2 λo e=>hk c (by simp) o e⟩
 item:=λi s Q E hi st hQ=>by
  refine (zi (P:=P) (w:=w) b it c).item st.1 st.2 (x:=xs[i]) (by simp [hi]) λh' st' sb=>?_;exact hQ _ h' s.toks (by simp [hi]) ⟨st',(zi (P:=P) (w:=w) b it c).hkeep st.2 λo e=>(sb.2 c hne).trans e⟩ sb
 done:=λs Q E st hE=>(zi (P:=P) (w:=w) b it c).done hh st.1 st.2 (by simp) hE
def DG {P:Program} {w:World} {A:Around} {s:Shared} {E:Value->Shared->Prop} {b:Bool} {e it c:Addr} {i:Nat} {xs:Array Value} {old:Value} {Q:Option Value->Shared->Prop} (hh:A.handled=none) (he:IsEnum s.heap e it i old) (p1:NX b it c i s.heap) (l1:X2 b c xs s.heap) (hx:xs[i]?=none)
  (hQ:∀ h',Heap.ExtBut it s.heap h'->Q none { s with heap:=h' }):wpAny (model P w) A (pyNext (.ref e)) Q E s:=by
 have hT:s.TypeIs (.ref e) "enumerate" := ⟨_,he,rfl⟩
 unfold pyNext;refine wpAny_bind (wpAny_attempt (wpAny_callSpecial?_slot (name:=Str.ofString "__next__") hT F.slot_enumerate_next
  (wpAny_call_entry F.slot_enumerate_next hT F.entry_enumerate_next ?_ (F.args_enumerate_next_1 _))))
 show wpAny _ _ (field (.ref e) 2 >>= _) _ _ _;refine wpAny_bind (wpAny_field he rfl (x:=.ref it) rfl ?_);refine wpAny_bind ((zi (P:=P) (w:=w) b it c).done (show A.in1.handled=none from hh) p1 l1 hx λh' x he' hx'=>?_);obtain ⟨o,ho,hc⟩:=hx';refine wpAny_bind (wpAny_isInstance (T:="StopIteration") (b:=true) ⟨o,ho,hc⟩ isSubtype_stop ?_);exact wpAny_pure (hQ _ he')
def Ite (K:Frg) (b:Bool) (c:Addr):It:=
  ⟨λi H=>∃ xs x,SqB K b H c xs/\xs[i]?=some x,
   λi H v H'=>∃ p x,H p=none/\v=.ref p/\H'=upd H p (.tup [.int i,x])/\(∀ xs,SqB K b H c xs->xs[i]?=some x),
   λi H=>∃ xs,SqB K b H c xs/\xs.length<=i⟩
def qfj (b:Bool) (e it c:Addr) (k:Nat) (h:Heap):Prop:=(∃ old,IsEnum h e it k old)/\NX b it c k h
def MW {P:Program} {w:World} {K:Frg} {es:List Expr} {k1:Nat} {pt:Pos} {b:Bool} {e it c:Addr} (n1:e≠it) (n2:c≠e) (n3:c≠it):Turn P w K (.Tuple es k1 pt) (Ite K b c) [e,it] e (qfj b e it c) where
 mem:=by simp
 obj:=λi h ⟨⟨old,he⟩,p1⟩ d hd=>by
  simp only [mem_cons,not_mem_nil,or_false] at hd;rcases hd with rfl|rfl
  ·exact ⟨_,he,λv q=>by cases q⟩
  ·exact (zi (P:=P) (w:=w) b d c).obj p1
 keep:=λi h h' ⟨⟨old,he⟩,p1⟩ k=>⟨⟨old,k e (by simp) _ he⟩,(zi (P:=P) (w:=w) b it c).keep p1 λo e=>k it (by simp) o e⟩
 item:=by
  intro X hP hw hK hc i pins s σ H E I hf st hg;subst hP hw hK;obtain ⟨xs,x,sq,hx⟩:=hg;obtain ⟨its,rv,l1,z1⟩:=sq.get I;obtain ⟨u,hu,ru⟩:=rv.get hx;obtain ⟨⟨old,he⟩,p1⟩:=st;have hil:i<its.toArray.size:=by have:=(List.getElem?_eq_some_iff.mp hu).1;simpa using this
  refine wpAny_pyNext_enum_itemD (qas (show X.A.in1.handled=none from I.ok.hd hc) b it c n3 its.toArray) he ⟨p1,l1⟩ hil n1 (by simp only [mem_cons,not_mem_nil,or_false,not_or];exact ⟨n1,Ne.symm n2⟩) λy h' tk hy ho st' ht hsz hk=>?_;have hy':y=u:=by
   have:its.toArray[i]?=some u:=by simpa using hu
   rw [this] at hy;exact (Option.some.inj hy).symm
  subst hy';have hfr:H s.heap.objs.size=none:=I.fresh;have free:∀ b∈[e,it],H b=none:=λb hb=>(hf b hb).1;refine ⟨_,rfl,wpAny_letOwnedTupleGo_enum ho λh2 hz2 s2=>?_⟩;have elt:e<s.heap.objs.size:=Heap.lt_size he;have hp2:h2.get? s.heap.objs.size=some { cls:=.type "tuple",data:=.seq #[.int i tk,y] }:=(s2.2 _ (Nat.ne_of_gt elt)).trans ht;have up:∀ c o,c≠e->h'.get? c=some o->h2.get? c=some o:=λc o hc e=>(s2.2 c hc).trans e;have kk:∀ c o,c∉[e,it]->s.heap.get? c=some o->h2.get? c=some o:=λc o hc q=>by
   simp only [mem_cons,not_mem_nil,or_false,not_or] at hc;exact up c o hc.1 (hk c o hc.1 hc.2 q)
  have I3:Inv X pins σ (upd H s.heap.objs.size (.tup [.int i,x])) { s with heap:=h2,toks:=tk+1 }:=by
   refine I.step (g':=s.gens) (d':=s.drawn) (t':=tk+1) (ch:=[e,it]) (λb hb=>?_) (λb o _ _ hcb e _=>kk b o hcb e) (λb o _ _ hcb e _=>⟨o.slots,kk b o hcb e⟩) (λb o _ e n=>by rw [qs (Nat.ne_of_lt (Heap.lt_size e))];exact n) (λb o hcb e=>⟨o,kk b o hcb e⟩)
    (λb _ e=>by rw [qs (qo e hfr)];exact e) (λb _ _ e=>by rw [qs (qo e hfr)];exact e) (λb ps e=>⟨#[],by rw [qs (qo e hfr),e];simp⟩) (λm hm=>?_) (λb u e=>?_) I.bare
   ·obtain ⟨f0,f1,f2,f3,f4,f5⟩:=hf b hb;exact ⟨f3,f1,f4,f5⟩
   ·obtain ⟨o,es',ep,ho',r⟩:=hm;refine ⟨o,es',ep,kk _ o (λq=>?_) ho',r⟩;obtain ⟨f0,f1,_⟩:=hf X.env.locals q;exact f1 rfl
   ·by_cases hb:b=s.heap.objs.size
    ·subst hb;rw [qX] at e;cases e;exact ⟨by show 2<=sizeLine;decide,[.int i tk,y],.cons ⟨tk,rfl⟩ (.cons ru .nil),⟨_,hp2,rfl,_,rfl⟩⟩
    ·rw [qs hb] at e;refine (I.hok b u e).stay (λc v hcb q=>kk c v (λm=>?_) q) (λ_ q=>by rw [qs (qo q hfr)];exact q) λ_ _ q=>by rw [qs (qo q hfr)];exact q
     have hn:=free c m;rcases hcb with q|q
     ·rw [q] at hn;rw [hn] at e;cases e
     ·rw [hn] at q;cases q
  refine ⟨.ref s.heap.objs.size,_,I3,rfl,⟨_,x,hfr,rfl,rfl,λzs q=>by rw [q.inj I sq];exact hx⟩,⟨⟨_,by push_cast;exact hz2⟩,(zi (P:=X.prog) (w:=X.w) b it c).keep st'.1 λo e=>up _ o (Ne.symm n1) e⟩,λb hb=>?_⟩;rw [qs (λq=>?_)]
  ·exact free b hb
  ·subst q;simp only [mem_cons,not_mem_nil,or_false] at hb;rcases hb with q|q
   ·exact absurd q (Nat.ne_of_gt elt)
   ·obtain ⟨o,e,_⟩:=(zi (P:=X.prog) (w:=X.w) b it c).obj p1;exact absurd q (Nat.ne_of_gt (Heap.lt_size e))
 done:=by
  intro X hP hw hK hc i pins s σ H E I hf st hg;subst hP hw hK;obtain ⟨xs,sq,hend⟩:=hg;obtain ⟨its,rv,l1,z1⟩:=sq.get I;obtain ⟨⟨old,he⟩,p1⟩:=st;have e1:=rv.length;have free:∀ b∈[e,it],H b=none:=λb hb=>(hf b hb).1;refine DG (I.ok.hd hc) he p1 l1 (by simp;omega) λh' hk0=>⟨rfl,?_⟩
  have hk:∀ c o,c∉[e,it]->s.heap.get? c=some o->h'.get? c=some o:=λc o hcb q=>hk0 c o (by simp only [mem_cons,not_mem_nil,or_false,not_or] at hcb;exact hcb.2) q;refine I.step (g':=s.gens) (d':=s.drawn) (t':=s.toks) (ch:=[e,it]) (λb hb=>?_) (λb o _ _ hcb e _=>hk b o hcb e) (λb o _ _ hcb e _=>⟨o.slots,hk b o hcb e⟩) (λ_ _ _ _ n=>n) (λb o hcb e=>⟨o,hk b o hcb e⟩) (λ_ _ e=>e) (λ_ _ _ e=>e) (λb ps e=>⟨#[],by rw [e];simp⟩) (λm hm=>?_) (λb u e=>?_) I.bare
  ·obtain ⟨f0,f1,f2,f3,f4,f5⟩:=hf b hb;exact ⟨f3,f1,f4,f5⟩
  ·obtain ⟨o,es',ep,ho',r⟩:=hm;refine ⟨o,es',ep,hk _ o (λq=>?_) ho',r⟩;obtain ⟨f0,f1,_⟩:=hf X.env.locals q;exact f1 rfl
  ·refine (I.hok b u e).stay (λc v hcb q=>hk c v (λm=>?_) q) (λ_ q=>q) λ_ _ q=>q;have hn:=free c m;rcases hcb with q|q
   ·rw [q] at hn;rw [hn] at e;cases e
   ·rw [hn] at q;cases q
 self:=λA i s Q E st h=>let ⟨⟨old,he⟩,_⟩:=st;wpAny_pyIter_enum he h
section
variable {X:Cx} {a b e l:Expr} {es:List Expr} {pos:Pos}
def qdd {p pt:Pos} {k1:Nat} {ta:TA} (hg:Gl X "enumerate") (hm:X.mg "enumerate" = none) (ha:PA X [a] ta) (hs:starEach [a] X.env=[(false,eval a X.env)]:=by rfl) :
  PI X (.Tuple es k1 pt) (.Call (.Name "enumerate" p) [a] [] pos) (λσ H R=>ta σ H λvs H1=>∃ b1 c1 xs,vs=[.ref c1]/\SqB X.K b1 H1 c1 xs/\R (Ite X.K b1 c1) H1):=by
 intro pins s σ H R I h;refine Call_ (UM I hg hm PyProof.Rows.boot_enumerate (PyProof.Rows.callWith_type1 (thn (ha pos pins s σ H _ I h) λus s1 ⟨vs,H1,I1,r1,q1⟩=>?_) (by rw [hs];rfl) (by rfl)));obtain ⟨b1,c1,xs,rfl,sq1,q⟩:=q1;obtain ⟨u1,rfl,e1⟩:=W9 r1;cases (show u1=Value.ref c1 from e1);obtain ⟨its1,rv1,l1,z1⟩:=sq1.get I1;refine K6 l1 λh' he hit hk=>wpAny_pyIter_enum he ?_;have lt:=qdq l1;have ne3:∀ n c:Nat,c<n->n+1≠n/\c≠n+1/\c≠n:=λn c h=>by omega
 obtain ⟨m1,m2,m3⟩:=ne3 _ _ lt;refine ⟨s1.heap.objs.size+1,[s1.heap.objs.size+1,s1.heap.objs.size],_,_,H1,rfl,I1.kept (t':=s1.toks) hk,MW m1 m2 m3,⟨⟨_,he⟩,hit⟩,λc hc=>?_,q⟩;have hle:s1.heap.objs.size<=c:=by
  simp only [mem_cons,not_mem_nil,or_false] at hc;rcases hc with rfl|rfl<;>first|exact Nat.le_refl _|exact Nat.le_add_right _ _
 exact I1.fpOk hle (I1.hok.fresh hle)
end
def jn (k:Nat):List T->List T
 |[]=>[]
 |x::r=>.tup [.int (k:Int),x]::jn (k+1) r
def N7 (us:List T):List T:=jn 0 us
def VM:∀ {us:List T} {k i:Nat} {x:T},(jn k us)[i]?=some x->∃ a,us[i]?=some a/\x=.tup [.int ((k+i:Nat):Int),a]
 |[],_,_,_,h=>by simp [jn] at h
 |u::us,k,0,x,h=>by simp [jn] at h;exact ⟨u,rfl,by simp [← h]⟩
 |u::us,k,i+1,x,h=>by
  simp [jn] at h;obtain ⟨a,ha,hx⟩:=VM h;exact ⟨a,by simpa using ha,by rw [hx];congr 4;omega⟩
def VO:∀ (us:List T) (k:Nat),(jn k us).length=us.length
 |[],_=>rfl
 |u::us,k=>by simp [jn,VO us]
def MQ (us:List T):(N7 us).length=us.length:=VO us 0
def W4 {us:List T} {i:Nat} {x:T} (h:(N7 us)[i]?=some x):∃ a,us[i]?=some a/\x=.tup [.int (i:Int),a]:=by
 obtain ⟨a,ha,hx⟩:=VM h;exact ⟨a,ha,by rw [hx];congr 4;omega⟩
def qgu {K:Frg} {b1:Bool} {c1:Addr} {x:T} {us:List T} {G0:Gp} {H0:Hp}
  (f1:∀ G H,HR K G H->Kp G0 H0 G H->jj G x=some us->∃ vs,SqB K b1 H c1 vs/\Rps K H us vs) :
  qec K (Ite K b1 c1) (N7 us) (λG=>jj G x=some us) G0 H0:=by
 intro G H hr k h1;obtain ⟨p,sp,rp⟩:=f1 G H hr k h1;refine ⟨λi z hz=>?_,λi z v H' hz hy=>?_,⟨p,sp,?_⟩⟩
 ·obtain ⟨a,ha,_⟩:=W4 hz;obtain ⟨v,hv,_⟩:=rp.get ha;exact ⟨p,v,sp,hv⟩
 ·obtain ⟨a,ha,rfl⟩:=W4 hz;obtain ⟨t,v1,ht,rfl,rfl,g1⟩:=hy;obtain ⟨v,hv,rv⟩:=rp.get ha;have e1:=(g1 p sp).symm.trans hv;obtain rfl:v1=v:=Option.some.inj e1;have kk:Kp G H G (upd H t (.tup [.int i,v1])):=Kp.laid ht;exact ⟨.tup (SqT.of qX) (.cons (.int _) (.cons (rv.keep hr kk) .nil)),hr.laid ht,kk⟩
 ·rw [← rp.length,MQ];exact Nat.le_refl _
def UR (ta:TA3):TI3:=λτ G r=>ta τ G λxs G1=>match xs with
 |[x]=>(match jj G1 x with|some us=>r (N7 us) (λG=>jj G x=some us) G1|_=>False)
 |_=>False
section
variable {X:Cx} {a b e l:Expr} {es:List Expr} {pos:Pos} {t:TA3}
def qfC {p pt:Pos} {k1:Nat} (hg:Gl X "enumerate") (hm:X.mg "enumerate" = none) (ha:A3 X [a] t) (hs:starEach [a] X.env=[(false,eval a X.env)]:=by rfl) :
  I3 X (.Tuple es k1 pt) (.Call (.Name "enumerate" p) [a] [] pos) (UR t):=
 qiL (qdd hg hm ha hs) λσ H R ⟨τ,G,r,rl,h,af⟩=>YG rl h λxs G1 h1 vs H1 rs hr1 k1 rl1=>by
  split at h1
  ·rename_i x;split at h1
   ·rename_i us e1;obtain ⟨v,rfl,r1⟩:=SM rs;obtain ⟨b1,c1,rfl,f1⟩:=MP hr1 r1 e1;obtain ⟨p,sp,_⟩:=f1 G1 H1 hr1 Kp.refl e1;exact ⟨b1,c1,p,rfl,sp,af _ _ G1 h1 _ H1 hr1 k1 (qgu f1)⟩
   ·exact h1.elim
  ·exact h1.elim
end
section
variable {X:Cx} {a b c e:Expr} {es:List Expr} {ta tb tc te:TE3} {t:TA3} {pos:Pos}
def qd9 (i:Nat) (r:R3) (te:TE3):TS3:=λd τ G=>match τ[i]? with
 |some (some x)=>te τ G λy G1=>r x y G1 λz G2=>d.nx (τ.set i (some z)) G2
 |_=>False
def N9 (i:Nat) {x:Str} {pos':Pos} (hN:X.N.Nodup) (he:E3 X e te) (hi:X.N[i]?=some x:=by rfl) (hx:Loc X.env.scope x:=by first|exact Or.inl rfl|exact Or.inr rfl) (hf:X.fn x=true\/X.env.scope.names.lookup x=some .local:=by first|exact .inl rfl|exact .inr rfl) :
  S3 X (.AugAssign (.Name x pos') .Add e pos) (qd9 i (iI (·+·)) te):=
 NZ (qei (i:=i) hN hi hx he qg6 hf) λD σ H ⟨τ,G,d,rl,h,af⟩=>by
  unfold qd9 at h;split at h
  ·rename_i x e1;obtain ⟨v,e2,rv⟩:=rl.st i x e1;refine ⟨v,e2,zx rl h λy G1 h1 u H1 ry hr1 k1 rl1=>?_⟩;have rv1:=rv.keep rl.hp k1;cases x<;>try exact h1.elim
   cases y<;>try exact h1.elim
   cases rv1;cases ry;exact ⟨_,_,rfl,rfl,af.nx _ G1 h1 _ H1 (rl1.set i (.int _)) k1⟩
  ·exact h.elim
def CB (ns:List Int):Prop:=ns.length<=1000000/\∀ x∈ns,-1000000000000<=x/\x<=1000000000000
def CM (ns:List Int):∀ j,j<=ns.length->preSum (λi=>ns.getD i 0) j=(ns.take j).sum
 |0,_=>by simp [preSum]
 |j+1,h=>by
  have hj:j<ns.length:=h;unfold preSum;rw [CM ns j (by omega),List.take_succ_eq_append_getElem hj,List.sum_append,getD_eq_getElem?_getD,getElem?_eq_getElem hj];simp
def qbR:∀ (ns:List Int),(∀ x∈ns,-1000000000000<=x/\x<=1000000000000)->-1000000000000*(ns.length:Int)<=ns.sum/\ns.sum<=1000000000000*(ns.length:Int)
 |[],_=>by simp
 |n::r,h=>by
  have h1:=h n List.mem_cons_self;have h2:=qbR r λx hx=>h x (List.mem_cons_of_mem _ hx);rw [List.sum_cons,length_cons];omega
def YH (hc:X.calm=true):ZY X (.builtin "sum") (λxs H Q=>∃ (p:Addr) (ns:List Int),xs=[.ref p]/\SqL X.K H p (ns.map V.int)/\CB ns/\Q (.int ns.sum) H):=by
 intro pins s σ H xs us Q I r h;obtain ⟨p,ns,rfl,hq,ok,q⟩:=h;obtain ⟨u,rfl,rp⟩:=W9 r;cases (show u=Value.ref p from rp);obtain ⟨its,rv,pl,hz⟩:=I.list hq;have hlen:its.length=ns.length:=by have:=rv.length;simp at this;omega
 have hp:p<s.heap.objs.size:=by obtain ⟨o,n,e,_⟩:=pl;exact Heap.lt_size e
 have bd:∀ j,j<=ns.length->InLong (preSum (λi=>ns.getD i 0) j):=λj hj=>by
  rw [CM ns j hj];have:=qbR (ns.take j) λx hx=>ok.2 x (List.mem_of_mem_take hx);have hl:(ns.take j).length<=1000000:=Nat.le_trans (by rw [List.length_take];omega) ok.1;unfold InLong;omega
 refine call_sum_walk (wpAny_pyIter_list pl.isList ⟨s.heap.objs.size,_,_,_,_,_,λi=>ns.getD i 0,rfl,Walks.list (A:=X.A.in1) (show X.A.in1.handled=none from I.ok.hd hc) s.heap.objs.size p (Nat.ne_of_lt hp) its.toArray,⟨⟨_,Heap.get?_push_size _ rfl,rfl,rfl⟩,?_⟩,λb hb=>?_,λi v hv=>?_,λj hj=>?_,λh' tk t' hk=>?_⟩)
 ·obtain ⟨o,n,e,c,_,d⟩:=pl;exact ⟨o,Heap.get?_push_of_some _ e,c,n,d⟩
 ·have lt1:∀ n c:Nat,c<n->c<n+1:=λn c h=>by omega
  rw [show (({ s with heap:=s.heap.push _ }:Shared).heap.objs.size)=s.heap.objs.size+1 from Heap.size_push ..];simp only [mem_cons,not_mem_nil,or_false] at hb;rcases hb with rfl|rfl
  ·exact Nat.lt_succ_self _
  ·exact lt1 _ _ hp
 ·have hv':its[i]?=some v:=by simpa using hv
  obtain ⟨hi,_⟩:=List.getElem?_eq_some_iff.mp hv';have hi':i<ns.length:=by omega
  obtain ⟨u,hu,ru⟩:=rv.get (i:=i) (show (ns.map V.int)[i]?=some (V.int (ns[i])) by simp [hi']);rw [hv'] at hu;cases hu;obtain ⟨t,rfl⟩:=ru;exact ⟨t,by show Value.int ns[i] t=Value.int (ns.getD i 0) t;rw [getD_eq_getElem?_getD,getElem?_eq_getElem hi'];rfl⟩
 ·have hj':j<ns.length:=by rw [size_toArray] at hj;omega
  refine ⟨?_,bd _ hj'⟩;have:=ok.2 (ns.getD j 0) (by rw [getD_eq_getElem?_getD,getElem?_eq_getElem hj'];exact List.getElem_mem hj');show InLong (ns.getD j 0);unfold InLong;omega
 ·refine ⟨.int _,H,?_,⟨_,rfl⟩,by rw [size_toArray,hlen,CM ns _ (Nat.le_refl _),List.take_length];exact q⟩;exact I.kept (h':=h') (t':=tk) λb o e=>hk b o (by simp;exact Nat.ne_of_lt (Heap.lt_size e)) (Heap.get?_push_of_some _ e)
def D0:List T->Option (List Int)
 |[]=>some []
 |.int i::r=>(match D0 r with|some ns=>some (i::ns)|none=>none)
 |_=>none
def U8 (ns:List Int):D0 (ns.map T.int)=some ns:=by
 induction ns with
 |nil=>rfl
 |cons n r ih=>simp [D0,ih]
def V5:∀ {xs:List T} {ns:List Int},D0 xs=some ns->xs=ns.map T.int
 |[],_,h=>by simp [D0] at h;subst h;rfl
 |x::r,ns,h=>by
  unfold D0 at h;split at h
  ·rename_i e;cases e
  ·rename_i i r' e;cases e;split at h
   ·rename_i ms e2;cases h;rw [V5 e2];rfl
   ·cases h
  ·cases h
def qd8:List T->Gp->Q3->Prop:=λxs G q=>match xs with
 |[.ref p]=>(match getL G p with|some ys=>(match D0 ys with|some ns=>CB ns/\q (.int ns.sum) G|none=>False)|none=>False)
 |_=>False
def V1 {K:Frg} {H:Hp}:∀ {ns:List Int} {vs:List V},Rps K H (ns.map T.int) vs->vs=ns.map V.int
 |[],_,r=>by cases r;rfl
 |n::ns,_,r=>by
  cases r with
  |cons a b=>cases a;rw [V1 b];rfl
def NA {K:Frg}:SJ K qd8 (λxs H Q=>∃ (p:Addr) (ns:List Int),xs=[.ref p]/\SqL K H p (ns.map V.int)/\CB ns/\Q (.int ns.sum) H):=λxs vs G H q Q hr rs h af=>by
 unfold qd8 at h;split at h
 ·rename_i p;obtain ⟨v,rfl,r⟩:=SM rs;cases r;split at h
  ·rename_i ys e0;split at h
   ·rename_i ns e1;obtain ⟨us,hs,r2⟩:=zE hr e0;have:=V5 e1;subst this;have:=V1 r2;subst this;exact ⟨p,ns,rfl,hs,h.1,af _ G h.2 _ H (.int _) hr Kp.refl⟩
   ·exact h.elim
  ·exact h.elim
 ·exact h.elim
end
section
variable {X:Cx}
end
end L3
set_option autoImplicit true
namespace L3
open PySem PySem.Spec PyProof.Rows L2
structure jE3 (X:Cx) (e:Expr) (t:TE3):Prop where h:E3 X e t
structure jC3 (X:Cx) (e:Expr) (t:TT3):Prop where h:C3 X e t
structure jW3 (X:Cx) (e:Expr) (t:TT3):Prop where h:W3 X e t
structure jA3 (X:Cx) (e:List Expr) (t:TA3):Prop where h:A3 X e t
structure jP3 (X:Cx) (e:Option Expr) (t:TO3):Prop where h:P3 X e t
structure jS3 (X:Cx) (e:Stmt) (t:TS3):Prop where h:S3 X e t
structure jB3 (X:Cx) (e:List Stmt) (t:TS3):Prop where h:B3 X e t
structure jG3 (X:Cx) (e:Expr) (t:TG3):Prop where h:G3 X e t
structure jGs3 (X:Cx) (e:List Expr) (t:X3):Prop where h:Gs3 X e t
structure jI3 (X:Cx) (tg e:Expr) (t:TI3):Prop where h:I3 X tg e t
structure jF3 (X:Cx) (e:List Expr) (t:TT3):Prop where h:F3 X e t
def qa {X:Cx} (i:Nat) {x:Str} {pos:Pos} (hN:X.N[i]?=some x:=by rfl) (hv:Vis X.env.scope x:=by first|exact Or.inl rfl|exact Or.inr (Or.inl rfl)|exact Or.inr (Or.inr rfl)) (hd:(x==("__debug__" : Str))=false:=by decide)
  (hcd:(x==("__classdict__" : Str))=false:=by decide):jE3 X (.Name x pos) (v3 i):=
 ⟨qjI (i:=i) (hN:=hN) (hv:=hv) (hd:=hd) (hcd:=hcd)⟩
def qd {X:Cx} {i:Int} {j pos}:jE3 X (.Constant (.int i) j pos) (c3 (.int i)):=
 ⟨qji ⟩
def VR {X:Cx} {b:Bool} {j pos}:jE3 X (.Constant (.bool b) j pos) (c3 (.bl b)):=
 ⟨qlU ⟩
def MV {X:Cx} {j pos}:jE3 X (.Constant .none j pos) (c3 .non):=
 ⟨qkJ ⟩
def jL {X:Cx} {x:Str} {j pos}:jE3 X (.Constant (.str x) j pos) (c3 (.str x)):=
 ⟨qkx ⟩
def j2 {ta:TE3} {tb:TE3} {pos:Pos} {a:Expr} {b:Expr} {X:Cx} {op:CmpOp} {r3:R3} {r:R2} (ho:OpR X (compareOp op) r) (hr:EC X.K r3 r) (ha:jE3 X a ta) (hb:jE3 X b tb) (hm:behindInMarks op b=false):jE3 X (.Compare a [op] [b] pos) (o3 r3 ta tb):=
 ⟨qkG (ho:=ho) (hr:=hr) (ha:=ha.h) (hb:=hb.h) (hm:=hm)⟩
def qR {ta:TE3} {tb:TE3} {pos:Pos} {a:Expr} {b:Expr} {X:Cx} {op:CmpOp} {r3:R3} {r:R2} (ho:OpR X (compareOp op) r) (hr:EC X.K r3 r) (ha:jE3 X a ta) (hb:jE3 X b tb) (hm:behindInMarks op b=false):jC3 X (.Compare a [op] [b] pos) (tb3 (o3 r3 ta tb)):=
 ⟨qi9 (ho:=ho) (hr:=hr) (ha:=ha.h) (hb:=hb.h) (hm:=hm)⟩
def C4 {ta:TE3} {tb:TE3} {tc:TE3} {pos:Pos} {a:Expr} {b:Expr} {c:Expr} {X:Cx} {op op':CmpOp} {r3 r3':R3} {r r':R2} (ho:OpR X (compareOp op) r) (hr:EC X.K r3 r) (ho':OpR X (compareOp op') r') (hr':EC X.K r3' r') (ha:jE3 X a ta) (hb:jE3 X b tb) (hc:jE3 X c tc)
  (hm:lastMarks [op,op'] [b,c]=false:=by with_unfolding_all rfl):jE3 X (.Compare a [op,op'] [b,c] pos) (ch3 r3 r3' ta tb tc):=
 ⟨qcJ (ho:=ho) (hr:=hr) (ho':=ho') (hr':=hr') (ha:=ha.h) (hb:=hb.h) (hc:=hc.h) (hm:=hm)⟩
def QZ {ta:TE3} {tb:TE3} {pos:Pos} {a:Expr} {b:Expr} {X:Cx} (ha:jE3 X a ta) (hb:jE3 X b tb):jE3 X (.BinOp a .Mult b pos) (o3 (iC YA (·*·)) ta tb):=
 ⟨qkw (ha:=ha.h) (hb:=hb.h)⟩
def ZG {ta:TE3} {tb:TE3} {pos:Pos} {a:Expr} {b:Expr} {X:Cx} (ha:jE3 X a ta) (hb:jE3 X b tb):jE3 X (.BinOp a .Mod b pos) (o3 (iC (λ_ j=>0<j) (·%·)) ta tb):=
 ⟨qjZ (ha:=ha.h) (hb:=hb.h)⟩
def XA {ta:TE3} {tb:TE3} {pos:Pos} {a:Expr} {b:Expr} {X:Cx} (ha:jE3 X a ta) (hb:jE3 X b tb):jE3 X (.BinOp a .FloorDiv b pos) (o3 (iC T3 (·/·)) ta tb):=
 ⟨qkf (ha:=ha.h) (hb:=hb.h)⟩
def qe0 {ta:TE3} {tb:TE3} {pos:Pos} {a:Expr} {b:Expr} {X:Cx} (ha:jE3 X a ta) (hb:jE3 X b tb):jE3 X (.BinOp a .Pow b pos) (o3 (iC ED (λi j=>i ^ j.toNat)) ta tb):=
 ⟨qjD (ha:=ha.h) (hb:=hb.h)⟩
def qgV {ta:TE3} {tb:TE3} {pos:Pos} {a:Expr} {b:Expr} {X:Cx} (ha:jE3 X a ta) (hb:jE3 X b tb):jE3 X (.BinOp a .BitXor b pos) (o3 (iI Builtin.bitXor) ta tb):=
 ⟨qkr (ha:=ha.h) (hb:=hb.h)⟩
def UD {ta:TE3} {tb:TE3} {pos:Pos} {a:Expr} {b:Expr} {X:Cx} (ha:jE3 X a ta) (hb:jE3 X b tb):jE3 X (.BinOp a .BitAnd b pos) (o3 (iI Builtin.bitAnd) ta tb):=
 ⟨qgp (ha:=ha.h) (hb:=hb.h)⟩
def WM {ta:TE3} {tb:TE3} {pos:Pos} {a:Expr} {b:Expr} {X:Cx} (ha:jE3 X a ta) (hb:jE3 X b tb):jE3 X (.BinOp a .LShift b pos) (o3 (iC ED (λi j=>i*2 ^ j.toNat)) ta tb):=
 ⟨qj9 (ha:=ha.h) (hb:=hb.h)⟩
def qbP {ta:TE3} {tb:TE3} {pos:Pos} {a:Expr} {b:Expr} {X:Cx} (ha:jE3 X a ta) (hb:jE3 X b tb):jE3 X (.BinOp a .RShift b pos) (o3 (iC (λ_ j=>0<=j) (λi j=>i/2 ^ j.toNat)) ta tb):=
 ⟨qi6 (ha:=ha.h) (hb:=hb.h)⟩
def VN {tA:TT3} {pos:Pos} {a:Expr} {X:Cx} (ha:jC3 X a tA):jW3 X (.BoolOp .Or [a] pos) tA:=
 ⟨qjP (ha:=ha.h)⟩
def EJ {YO:List Expr} {tA:TT3} {tB:TT3} {pos:Pos} {a:Expr} {X:Cx} (ha:jC3 X a tA) (hb:jW3 X (.BoolOp .Or (b::YO) pos) tB):jW3 X (.BoolOp .Or (a::b::YO) pos) (or3 tA tB):=
 ⟨qlI (ha:=ha.h) (hb:=hb.h)⟩
def JQ {tA:TT3} {pos:Pos} {a:Expr} {X:Cx} (ha:jC3 X a tA):jC3 X (.UnaryOp .Not a pos) (CT tA):=
 ⟨qjE (ha:=ha.h)⟩
def jW {X:Cx} {e:Expr} {t:TE3} (h:jE3 X e t) (he:∀ whole,isTrue e X.env whole=(do let v←whole;standAt e.pos;holding [v] (truthy v)):=by intro _;rfl):jC3 X e (tb3 t):=
 ⟨qjz (h:=h.h) (he:=he)⟩
def VL {ta:TE3} {pos:Pos} {a:Expr} {X:Cx} {op} (h:jE3 X a ta):jE3 X (.BoolOp op [a] pos) ta:=
 ⟨qkH (h:=h.h)⟩
def Q0 {YO:List Expr} {ta:TE3} {tb:TE3} {pos:Pos} {a:Expr} {X:Cx} (ha:jE3 X a ta) (hb:jE3 X (.BoolOp .And (b::YO) pos) tb):jE3 X (.BoolOp .And (a::b::YO) pos) (ZJ ta tb):=
 ⟨qjW (ha:=ha.h) (hb:=hb.h)⟩
def qbE {ta:TE3} {pos:Pos} {a:Expr} {X:Cx} (ha:jE3 X a ta):jE3 X (.UnaryOp .Not a pos) (K5 ta):=
 ⟨qkC (ha:=ha.h)⟩
def qe5 {tA:TT3} {ta:TE3} {tb:TE3} {pos:Pos} {a:Expr} {b:Expr} {X:Cx} {c:Expr} (hc:jC3 X c tA) (ha:jE3 X a ta) (hb:jE3 X b tb):jE3 X (.IfExp c a b pos) (if3 tA ta tb):=
 ⟨qlj (hc:=hc.h) (ha:=ha.h) (hb:=hb.h)⟩
def qe {X:Cx} :jA3 X [] qr:=
 ⟨qkI ⟩
def qb {te:TE3} {t:TA3} {es:List Expr} {X:Cx} (ha:jE3 X e te) (hr:jA3 X es t) (hs:starEach (e::es) X.env=(false,eval e X.env)::starEach es X.env:=by rfl):jA3 X (e::es) (qc te t):=
 ⟨qgw (ha:=ha.h) (hr:=hr.h) (hs:=hs)⟩
def EA {t:TA3} {pos:Pos} {es:List Expr} {X:Cx} {x1} (h:jA3 X es t):jE3 X (.Tuple es x1 pos) (LS t):=
 ⟨qkj (h:=h.h)⟩
def RH {t:TA3} {pos:Pos} {es:List Expr} {X:Cx} (h:jA3 X es t):jE3 X (.List es pos) (NM t):=
 ⟨qjT (h:=h.h)⟩
def qA {t:TA3} {pos:Pos} {es:List Expr} {X:Cx} {x:Str} {p:Pos} {id:String} {r3:List T->Gp->Q3->Prop} {r:List V->Hp->VK->Prop} (hc:ZY X (.builtin id) r) (hr:SJ X.K r3 r) (hg:Gl X x) (hm:X.mg x=none) (hv:bootBuiltins x=some (.builtin id)) (ha:jA3 X (e::es) t) (hn:x≠"__name__" := by decide) (hdb:(x==("__debug__" : Str))=false:=by decide)
  (he:starEach (e::es) X.env=(false,eval e X.env)::starEach es X.env:=by rfl) (hpl:(backTo pos (starEach es X.env)).any (·.1)=false:=by rfl):jE3 X (.Call (.Name x p) (e::es) [] pos) (cb3 r3 t):=
 ⟨qc0 (hc:=hc) (hr:=hr) (hg:=hg) (hm:=hm) (hv:=hv) (ha:=ha.h) (hn:=hn) (hdb:=hdb) (he:=he) (hpl:=hpl)⟩
def XD {t:TA3} {pos:Pos} {es:List Expr} {X:Cx} {x:Str} {p:Pos} {ty:String} {r3:List T->Gp->Q3->Prop} {r:List V->Hp->VK->Prop} (hc:ZY X (.type ty) r) (hr:SJ X.K r3 r) (hg:Gl X x) (hm:X.mg x=none) (hv:bootBuiltins x=some (.type ty)) (ha:jA3 X (e::es) t) (hn:x≠"__name__" := by decide) (hdb:(x==("__debug__" : Str))=false:=by decide)
  (he:starEach (e::es) X.env=(false,eval e X.env)::starEach es X.env:=by rfl) (hpl:(backTo pos (starEach es X.env)).any (·.1)=false:=by rfl):jE3 X (.Call (.Name x p) (e::es) [] pos) (cb3 r3 t):=
 ⟨N5 (hc:=hc) (hr:=hr) (hg:=hg) (hm:=hm) (hv:=hv) (ha:=ha.h) (hn:=hn) (hdb:=hdb) (he:=he) (hpl:=hpl)⟩
def qE {ta:TE3} {tb:TE3} {pos:Pos} {a:Expr} {b:Expr} {X:Cx} (ha:jE3 X a ta) (hb:jE3 X b tb) (hs:CQ b:=by intro _ _;rfl):jE3 X (.Subscript a b pos) (o3 ix3 ta tb):=
 ⟨qlG (ha:=ha.h) (hb:=hb.h) (hs:=hs)⟩
def LF {X:Cx} :jP3 X none np3:=
 ⟨qeQ ⟩
def DC {te:TE3} {e:Expr} {X:Cx} (h:jE3 X e te):jP3 X (some e) (sp3 te):=
 ⟨qeE (h:=h.h)⟩
def WE {te:TE3} {pos:Pos} {e:Expr} {X:Cx} {lo hi:Option Expr} {tl th:TO3} {p2:Pos} (he:jE3 X e te) (hl:jP3 X lo tl) (hu:jP3 X hi th):jE3 X (.Subscript e (.Slice lo hi none p2) pos) (qdn te tl th):=
 ⟨qcK (he:=he.h) (hl:=hl.h) (hu:=hu.h)⟩
def zN {ta:TE3} {tb:TE3} {pos:Pos} {a:Expr} {b:Expr} {X:Cx} (ha:jE3 X a ta) (hb:jE3 X b tb):jE3 X (.BinOp a .Add b pos) (o3 JG ta tb):=
 ⟨qfg (ha:=ha.h) (hb:=hb.h)⟩
def jJ {te:TE3} {pos:Pos} {e:Expr} {X:Cx} {tn:Str} {ty:String} {p p2:Pos} (he:jE3 X e te) (hg:Gl X "isinstance") (hm:X.mg "isinstance" = none) (hg2:Gl X tn) (hm2:X.mg tn=none) (hv:bootBuiltins tn=some (.type ty)) (hmem:ty∈jA:=by decide) (hn:tn≠"__name__" := by decide) (hdb:(tn==("__debug__" : Str))=false:=by decide)
  (hs:starEach [e,.Name tn p2] X.env=(false,eval e X.env)::starEach [.Name tn p2] X.env:=by rfl) (hs2:starEach [.Name tn p2] X.env=(false,eval (.Name tn p2) X.env)::starEach [] X.env:=by rfl) (hpl:(backTo pos (starEach [.Name tn p2] X.env)).any (·.1)=false:=by rfl):jE3 X (.Call (.Name "isinstance" p) [e,.Name tn p2] [] pos) (V3 (λt=>jD t ty) te):=
 ⟨qj4 (he:=he.h) (hg:=hg) (hm:=hm) (hg2:=hg2) (hm2:=hm2) (hv:=hv) (hmem:=hmem) (hn:=hn) (hdb:=hdb) (hs:=hs) (hs2:=hs2) (hpl:=hpl)⟩
def T6 {te:TE3} {pos:Pos} {e:Expr} {X:Cx} {tn tn':Str} {ty ty':String} {p p2 p3 p4:Pos} {x1} (he:jE3 X e te) (hg:Gl X "isinstance") (hm:X.mg "isinstance" = none) (hg2:Gl X tn) (hm2:X.mg tn=none) (hv:bootBuiltins tn=some (.type ty)) (hg3:Gl X tn') (hm3:X.mg tn'=none) (hv3:bootBuiltins tn'=some (.type ty'))
  (hmem:ty∈jA:=by decide) (hn:tn≠"__name__" := by decide) (hdb:(tn==("__debug__" : Str))=false:=by decide) (hmem3:ty'∈jA:=by decide) (hn3:tn'≠"__name__" := by decide) (hdb3:(tn'==("__debug__" : Str))=false:=by decide)
  (hs:starEach [e,.Tuple [.Name tn p2,.Name tn' p3] x1 p4] X.env=(false,eval e X.env)::starEach [.Tuple [.Name tn p2,.Name tn' p3] x1 p4] X.env:=by rfl) (hs2:starEach [.Tuple [.Name tn p2,.Name tn' p3] x1 p4] X.env=(false,eval (.Tuple [.Name tn p2,.Name tn' p3] x1 p4) X.env)::starEach [] X.env:=by rfl)
  (hs3:starEach [.Name tn p2,.Name tn' p3] X.env=(false,eval (.Name tn p2) X.env)::starEach [.Name tn' p3] X.env:=by rfl) (hs4:starEach [.Name tn' p3] X.env=(false,eval (.Name tn' p3) X.env)::starEach [] X.env:=by rfl)
  (hpl:(backTo pos (starEach [.Tuple [.Name tn p2,.Name tn' p3] x1 p4] X.env)).any (·.1)=false:=by rfl):jE3 X (.Call (.Name "isinstance" p) [e,.Tuple [.Name tn p2,.Name tn' p3] x1 p4] [] pos) (V3 (λt=>jD t ty||jD t ty') te):=
 ⟨qgv (he:=he.h) (hg:=hg) (hm:=hm) (hg2:=hg2) (hm2:=hm2) (hv:=hv) (hg3:=hg3) (hm3:=hm3) (hv3:=hv3) (hmem:=hmem) (hn:=hn) (hdb:=hdb) (hmem3:=hmem3) (hn3:=hn3) (hdb3:=hdb3) (hs:=hs) (hs2:=hs2) (hs3:=hs3) (hs4:=hs4) (hpl:=hpl)⟩
def q5 {X:Cx} :jB3 X [] zc:=
 ⟨qj0 ⟩
def qh {YO:List Stmt} {st:Stmt} {t1:TS3} {t2:TS3} {X:Cx} (h1:jS3 X st t1) (h2:jB3 X YO t2):jB3 X (st::YO) (za t1 t2):=
 ⟨qhH (h1:=h1.h) (h2:=h2.h)⟩
def qk {st:Stmt} {t1:TS3} {X:Cx} (h1:jS3 X st t1):jB3 X [st] t1:=
 ⟨qjG (h1:=h1.h)⟩
def qdm {te:TE3} {pos:Pos} {e:Expr} {X:Cx} (he:jE3 X e te) (hs:swapsWith e none pos.line X.env=pure false:=by rfl):jS3 X (.Expr e pos) (qaf te):=
 ⟨qgh (he:=he.h) (hs:=hs)⟩
def qq {te:TE3} {pos:Pos} {e:Expr} {X:Cx} (he:jE3 X e te):jS3 X (.Return (some e) pos) (zu te):=
 ⟨qkA (he:=he.h)⟩
def jk {tA:TT3} {t1:TS3} {t2:TS3} {pos:Pos} {X:Cx} {c:Expr} {ba bb:List Stmt} (hc:jC3 X c tA) (ha:jB3 X ba t1) (hb:jB3 X bb t2):jS3 X (.If c ba bb pos) (Q2 tA t1 t2):=
 ⟨qlu (hc:=hc.h) (ha:=ha.h) (hb:=hb.h)⟩
def N6 {X:Cx} {sts:List Stmt}:jB3 X sts qiX:=
 ⟨qd7 ⟩
def qJ {pos:Pos} {X:Cx} {i:Nat} {x:Str} (hN:X.N.Nodup) (hi:X.N[i]?=some x:=by rfl) (hx:Loc X.env.scope x:=by first|exact Or.inl rfl|exact Or.inr rfl) (hf:X.fn x=true\/X.env.scope.names.lookup x=some .local:=by first|exact .inl rfl|exact .inr rfl):jG3 X (.Name x pos) (gn3 i):=
 ⟨qgb (hN:=hN) (hi:=hi) (hx:=hx) (hf:=hf)⟩
def ZZ {X:Cx} :jGs3 X [] JB:=
 ⟨qjY ⟩
def qC {es:List Expr} {X:Cx} {tg:TG3} {tgs:X3} (h1:jG3 X e tg) (h2:jGs3 X es tgs) (hs:(assignEach (e::es) X.env).map (·.2)=assign e X.env::(assignEach es X.env).map (·.2):=by rfl):jGs3 X (e::es) (qI tg tgs):=
 ⟨qf6 (h1:=h1.h) (h2:=h2.h) (hs:=hs)⟩
def Z0 {pos:Pos} {es:List Expr} {X:Cx} {k:Nat} {tgs:X3} {n:Nat} (hc:X.calm=true) (h:jGs3 X es tgs) (hn:(assignEach es X.env).length=n:=by rfl) (hst:(assignEach es X.env).findIdx? (·.1)=none:=by rfl):jG3 X (.Tuple es k pos) (Z8 n tgs):=
 ⟨qj8 (hc:=hc) (h:=h.h) (hn:=hn) (hst:=hst)⟩
def qcA {pos : Pos} {X : Cx} {o i : Expr} {to ti : TE3} (ho : jE3 X o to) (hi : jE3 X i ti) (ha : ∀ v,assign (.Subscript o i pos) X.env v = (do
      let ov←holding [v] (eval o X.env)
      let iv←holding [v,ov] (eval i X.env)
      standAt pos
      holding [v,ov,iv] (setItem ov iv v)
      release [v,ov,iv] []):=by intro _;rfl):jG3 X (.Subscript o i pos) (D9 to ti):=
  ⟨qkd (ho:=ho.h) (hi:=hi.h) (ha:=ha)⟩
def U2 {te:TE3} {pos:Pos} {X:Cx} {tg e:Expr} {g:TG3} (he:jE3 X e te) (hg:jG3 X tg g) (hs:swapsWithSole [tg] e pos.line X.env=pure false:=by rfl) (hw:swappedStores [tg] e X.env=pure none:=by rfl)
  (h1:(assignEach [tg] X.env).map (·.2)=[assign tg X.env]:=by rfl):jS3 X (.Assign [tg] e pos) (zT te g):=
 ⟨qjF (he:=he.h) (hg:=hg.h) (hs:=hs) (hw:=hw) (h1:=h1)⟩
def qZ {te:TE3} {pos:Pos} {X:Cx} (i:Nat) {x:Str} {e:Expr} {pos':Pos} (hN:X.N.Nodup) (he:jE3 X e te) (hi:X.N[i]?=some x:=by rfl) (hx:Loc X.env.scope x:=by first|exact Or.inl rfl|exact Or.inr rfl) (hs:swapsWith e (some (.Name x pos')) pos.line X.env=pure false:=by rfl) (hf:X.fn x=true\/X.env.scope.names.lookup x=some .local:=by first|exact .inl rfl|exact .inr rfl):jS3 X (.Assign [.Name x pos'] e pos) (zT te (gn3 i)):=
 ⟨qjr (i:=i) (hN:=hN) (he:=he.h) (hi:=hi) (hx:=hx) (hs:=hs) (hf:=hf)⟩
def qfE {pos:Pos} {X:Cx} {i j:Nat} {x y:Str} {a b:Expr} {tt:TA3} {px py pt:Pos} {kt k2 pt2} (hc:X.calm=true) (hN:X.N.Nodup) (hi:X.N[i]?=some x) (hj:X.N[j]?=some y) (hij:i≠j)
  (hx:X.env.scope.names.lookup x=some .local) (hy:X.env.scope.names.lookup y=some .local) (ha:jA3 X [a,b] tt)
  (hw:swappedStores [.Tuple [.Name x px,.Name y py] kt pt] (.Tuple [a,b] k2 pt2) X.env=pure (some [x,y]):=by rfl)
  (hs:swapsWithSole [.Tuple [.Name x px,.Name y py] kt pt] (.Tuple [a,b] k2 pt2) pos.line X.env=pure false:=by rfl):jS3 X (.Assign [.Tuple [.Name x px,.Name y py] kt pt] (.Tuple [a,b] k2 pt2) pos) (qgz i j tt):=
 ⟨qjc (hc:=hc) (hN:=hN) (hi:=hi) (hj:=hj) (hij:=hij) (hx:=hx) (hy:=hy) (ha:=ha.h) (hw:=hw) (hs:=hs)⟩
def qa8 {te:TE3} {X:Cx} {tg:Expr} {l:Expr} (hl:jE3 X l te):jI3 X tg l (KQ te):=
 ⟨qkq (hl:=hl.h)⟩
def j5 {t:TA3} {pos:Pos} {a:Expr} {X:Cx} {tg:Expr} {p:Pos} (hg:Gl X "range") (hm:X.mg "range" = none) (ha:jA3 X [a] t) (hs:starEach [a] X.env=[(false,eval a X.env)]:=by rfl) (h1:∀ τ G q,t τ G q->t τ G λxs G=>q xs G/\xs.length=1):jI3 X tg (.Call (.Name "range" p) [a] [] pos) (YR t):=
 ⟨qaL (hg:=hg) (hm:=hm) (ha:=ha.h) (hs:=hs) (h1:=h1)⟩
def XJ {pos:Pos} {X:Cx} {tg:Expr} {iter:Expr} {body:List Stmt} {wi:TI3} {g:TG3} {tb:TS3} (hp:PassesOwn (model X.prog X.w) X.A X.env X.xe) (hc:X.calm=true) (hi:jI3 X tg iter wi) (hg:jG3 X tg g) (hb:jB3 X body tb)
  (hs:∀ x,foldedSetIterable iter X.env x=pure x:=by intro _;rfl):jS3 X (.For tg iter body [] pos) (NH wi g tb):=
 ⟨qkb (hp:=hp) (hc:=hc) (hi:=hi.h) (hg:=hg.h) (hb:=hb.h) (hs:=hs)⟩
def qaA {pos:Pos} {X:Cx} {c:Expr} {body:List Stmt} {tc:TT3} {tb:TS3} (hp:PassesOwn (model X.prog X.w) X.A X.env X.xe) (hc:jC3 X c tc) (hb:jB3 X body tb):jS3 X (.While c body [] pos) (RP tc tb):=
 ⟨qdY (hp:=hp) (hc:=hc.h) (hb:=hb.h)⟩
def qj {t:TA3} {pos:Pos} {es:List Expr} {X:Cx} {k:Nat} {x:Str} {p:Pos} {sp:Sp3} (F:Fn3 X.prog X.w X.K X.mg X.base k x sp) (hr:Room k X.A) (hg:Gl X x) (ha:jA3 X (e::es) t) (hdb:(x==("__debug__" : Str))=false:=by decide)
  (he:starEach (e::es) X.env=(false,eval e X.env)::starEach es X.env:=by rfl) (hpl:(backTo pos (starEach es X.env)).any (·.1)=false:=by rfl):jE3 X (.Call (.Name x p) (e::es) [] pos) (cb3 sp t):=
 ⟨qeq (F:=F) (hr:=hr) (hg:=hg) (ha:=ha.h) (hdb:=hdb) (he:=he) (hpl:=hpl)⟩
def WP {X:Cx} {elt tg iter:Expr} {ifs:List Expr} {scope:Scope} {pos:Pos} (N':List Str) (m:List (Option Nat)) {wi:TI3} {g:TG3} {tif:TT3} {te:TE3} (hc:X.calm=true) (hi:jI3 X tg iter wi)
  (hg:∀ s H fp,jG3 (zf X N' scope s H fp) tg g) (hf:∀ s H fp,jF3 (zf X N' scope s H fp) ifs tif) (he:∀ s H fp,jE3 (zf X N' scope s H fp) elt te)
  (hsc:qh4 X.env.scope scope=true) (hcap:W8 X.N N' scope m=true) (hs:∀ x,foldedSetIterable iter X.env x=pure x:=by intro _;rfl):jE3 X (.ListComp elt [⟨tg,iter,ifs,0⟩] scope pos) (lc3 wi g tif te m):=
 ⟨qlh (N':=N') (m:=m) (hc:=hc) (hi:=hi.h) (hg:=(λs H fp=>(hg s H fp).h)) (hf:=(λs H fp=>(hf s H fp).h)) (he:=(λs H fp=>(he s H fp).h)) (hsc:=hsc) (hcap:=hcap) (hs:=hs)⟩
def WU {X:Cx}:jF3 X [] tt3:=
 ⟨qjB ⟩
def L5 {X:Cx} {c:Expr} {t:TT3} (h:jC3 X c t):jF3 X [c] t:=
 ⟨qka (h:=h.h)⟩
def qez {t:TA3} {pos:Pos} {es:List Expr} {a:Expr} {b:Expr} {X:Cx} {p pt:Pos} {k1:Nat} (hg:Gl X "zip") (hm:X.mg "zip" = none) (ha:jA3 X [a,b] t) (hs:starEach [a,b] X.env=[(false,eval a X.env),(false,eval b X.env)]:=by rfl) (hs2:starEach [b] X.env=[(false,eval b X.env)]:=by rfl):jI3 X (.Tuple es k1 pt) (.Call (.Name "zip" p) [a,b] [] pos) (qaC t):=
 ⟨qjj (hg:=hg) (hm:=hm) (ha:=ha.h) (hs:=hs) (hs2:=hs2)⟩
def DE {t:TA3} {pos:Pos} {es:List Expr} {a:Expr} {X:Cx} {p pt:Pos} {k1:Nat} (hg:Gl X "enumerate") (hm:X.mg "enumerate" = none) (ha:jA3 X [a] t) (hs:starEach [a] X.env=[(false,eval a X.env)]:=by rfl):jI3 X (.Tuple es k1 pt) (.Call (.Name "enumerate" p) [a] [] pos) (UR t):=
 ⟨qfC (hg:=hg) (hm:=hm) (ha:=ha.h) (hs:=hs)⟩
def NB {te:TE3} {pos:Pos} {e:Expr} {X:Cx} (i:Nat) {x:Str} {pos':Pos} (hN:X.N.Nodup) (he:jE3 X e te) (hi:X.N[i]?=some x:=by rfl) (hx:Loc X.env.scope x:=by first|exact Or.inl rfl|exact Or.inr rfl) (hf:X.fn x=true\/X.env.scope.names.lookup x=some .local:=by first|exact .inl rfl|exact .inr rfl):jS3 X (.AugAssign (.Name x pos') .Add e pos) (qd9 i (iI (·+·)) te):=
 ⟨N9 (i:=i) (hN:=hN) (he:=he.h) (hi:=hi) (hx:=hx) (hf:=hf)⟩
def jpt {X:Cx} {e:Expr} {t:TT3} (h:jW3 X e t):jC3 X e t:=⟨PW.pt h.h⟩
def qD {P:Program} {w:World} {K:Frg} {mg:Str->Option Value} {base:Heap} {x qual:Str} {st:Stmt} {f:Addr} {fd:FuncData} {N ps:List Str} {k:Nat} {sp:Sp3} {t3:TS3} (F:Fun K x qual st f fd) (S:FnScope N ps (qf st)) (bd:zn K fd ps []) (hm:mg x=some (.ref f))
  (body:∀ (cdv:Value) (A:Around) (outer:List Env) (s:Shared) (H:Hp) (E:XK),Room k (A.deeper (envOfC qual (qf st) s.heap.objs.size f cdv)) ->
   jB3 (NI CX0 P w K mg base N qual (qf st) f cdv A outer s H E).nox (zM st) t3)
  (read:∀ ts G q,sp ts G q->ts.length=ps.length/\t3 { nx:=λ_ G'=>q .non G',rt:=q } (qB N ts) G):Fn3 P w K mg base (k+1) x sp:=
 qff F S bd hm (λcdv A outer s H E hr=>(body cdv A outer s H E hr).h) read
def qal {P:Program} {w:World} {K:Frg} {mg:Str->Option Value} {base:Heap} {x qual:Str} {st:Stmt} {f:Addr} {fd:FuncData} {N ps:List Str} {k:Nat} {sp:Sp3} {t3:TS3} (F:Fun K x qual st f fd) (S:FnScope N ps (qf st))
  (body:∀ (cdv:Value) (A:Around) (outer:List Env) (s:Shared) (H:Hp) (E:XK),Room k (A.deeper (envOfC qual (qf st) s.heap.objs.size f cdv)) ->
   jB3 (NI CX0 P w K mg base N qual (qf st) f cdv A outer s H E).nox (zM st) t3)
  (read:∀ ts G q,sp ts G q->ts.length=ps.length/\t3 { nx:=λ_ G'=>q .non G',rt:=q } (qB N ts) G):FnOk P w K mg base CX0 (k+1) f fd ps (lSp K sp):=
 qc6 F S (λcdv A outer s H E hr=>(body cdv A outer s H E hr).h) read
open PySem.SeqAt
def Ex (G G':Gp):Prop:=∀ b o,G b=some o->G' b=some o
def Ex.refl {G:Gp}:Ex G G:=λ_ _ e=>e
def Ex.trans {G G1 G2:Gp} (a:Ex G G1) (b:Ex G1 G2):Ex G G2:=λx o e=>b x o (a x o e)
def QY {G:Gp} {p:Addr} {o:O} (hp:G p=none):Ex G (gu G p o):=λb ob e=>by
 rw [ZX (by rintro rfl;rw [hp] at e;cases e)];exact e
mutual
inductive Dp (G:Gp):T->PyData->Prop
 |non:Dp G .non .none
 |bl (b:Bool):Dp G (.bl b) (.bool b)
 |int (i:Int):Dp G (.int i) (.int i)
 |str (x:Str):Dp G (.str x) (.str x)
 |tup {xs:List T} {ds:List PyData}:Dps G xs ds->Dp G (.tup xs) (.tuple ds)
 |lst {p:Addr} {xs:List T} {ds:List PyData}:getL G p=some xs->Dps G xs ds->Dp G (.ref p) (.list ds)
inductive Dps (G:Gp):List T->List PyData->Prop
 |nil:Dps G [] []
 |cons {x:T} {d:PyData} {xs:List T} {ds:List PyData}:Dp G x d->Dps G xs ds->Dps G (x::xs) (d::ds)
end
def Ex.getL {G G':Gp} (e:Ex G G') {p:Addr} {xs:List T} (h:getL G p=some xs):getL G' p=some xs:=by
 unfold L3.getL at h ⊢;split at h
 ·rename_i ys g;cases h;rw [e _ _ g]
 ·rename_i ys g;cases h;rw [e _ _ g]
 ·cases h
mutual
def Dp.up {G G':Gp} (e:Ex G G'):∀ {x:T} {d:PyData},Dp G x d->Dp G' x d
 |_,_,.non=>.non
 |_,_,.bl b=>.bl b
 |_,_,.int i=>.int i
 |_,_,.str x=>.str x
 |_,_,.tup h=>.tup (Dps.up e h)
 |_,_,.lst h1 h2=>.lst (e.getL h1) (Dps.up e h2)
def Dps.up {G G':Gp} (e:Ex G G'):∀ {x:List T} {d:List PyData},Dps G x d->Dps G' x d
 |_,_,.nil=>.nil
 |_,_,.cons a b=>.cons (Dp.up e a) (Dps.up e b)
end
def Dps.length {G:Gp}:∀ {xs:List T} {ds:List PyData},Dps G xs ds->xs.length=ds.length
 |_,_,.nil=>rfl
 |_,_,.cons _ b=>by simp [Dps.length b]
def Dps.get {G:Gp}:∀ {xs:List T} {ds:List PyData} {i:Nat} {x:T},Dps G xs ds->xs[i]?=some x->∃ d,ds[i]?=some d/\Dp G x d
 |_,_,_,_,.nil,e=>by simp at e
 |_,_,0,_,.cons r _,e=>by simp at e;subst e;exact ⟨_,rfl,r⟩
 |_,_,i+1,x,.cons _ t,e=>by
  obtain ⟨u,h1,h2⟩:=Dps.get (i:=i) (x:=x) t (by simpa using e);exact ⟨u,by simpa using h1,h2⟩
mutual
inductive DV (K:Frg) (H:Hp):V->PyData->Prop
 |non:DV K H .non .none
 |bl (b:Bool):DV K H (.bl b) (.bool b)
 |int (i:Int):DV K H (.int i) (.int i)
 |str (x:Str):DV K H (.str x) (.str x)
 |tup {a:Addr} {vs:List V} {ds:List PyData}:SqT K H a vs->DVs K H vs ds->DV K H (.ref a) (.tuple ds)
 |lst {a:Addr} {vs:List V} {ds:List PyData}:SqL K H a vs->DVs K H vs ds->DV K H (.ref a) (.list ds)
inductive DVs (K:Frg) (H:Hp):List V->List PyData->Prop
 |nil:DVs K H [] []
 |cons {x:V} {d:PyData} {xs:List V} {ds:List PyData}:DV K H x d->DVs K H xs ds->DVs K H (x::xs) (d::ds)
end
mutual
def Dp.dv {K:Frg} {G:Gp} {H:Hp} (hr:HR K G H):∀ {x:T} {d:PyData} {v:V},Dp G x d->Rp K H x v->DV K H v d
 |_,_,_,.non,.non=>.non
 |_,_,_,.bl b,.bl _=>.bl b
 |_,_,_,.int i,.int _=>.int i
 |_,_,_,.str x,.str _=>.str x
 |_,_,_,.tup h,.tup hs rs=>.tup hs (Dps.dv hr h rs)
 |_,_,_,.lst g h,r=>by
  cases r;obtain ⟨_,hs,rs⟩:=zE hr g;exact .lst hs (Dps.dv hr h rs)
def Dps.dv {K:Frg} {G:Gp} {H:Hp} (hr:HR K G H):∀ {x:List T} {d:List PyData} {v:List V},Dps G x d->Rps K H x v->DVs K H v d
 |_,_,_,.nil,.nil=>.nil
 |_,_,_,.cons a b,.cons c d=>.cons (Dp.dv hr a c) (Dps.dv hr b d)
end
mutual
def QH:PyData->PyData->Option Bool
 |.none,.none=>some true
 |.bool a,.bool b=>some (a==b)
 |.int a,.int b=>some (a==b)
 |.str a,.str b=>some (a==b)
 |.list xs,.list ys=>Q1 xs ys
 |.tuple xs,.tuple ys=>Q1 xs ys
 |_,_=>none
def Q1:List PyData->List PyData->Option Bool
 |[],[]=>some true
 |x::xs,y::ys=>match QH x y,Q1 xs ys with|some a,some b=>some (a&&b)|_,_=>none
 |_,_=>some false
end
mutual
def dpt:PyData->Nat
 |.list xs=>qbc xs+1
 |.tuple xs=>qbc xs+1
 |_=>0
def qbc:List PyData->Nat
 |[]=>0
 |x::xs=>max (dpt x) (qbc xs)
end
section
variable {X:Cx} {pins:List (Addr×Obj)} {σ:L2.St} {H:Hp} {s:Shared}
mutual
def DV.inj (I:Inv X pins σ H s):∀ {v:V} {d e:PyData},DV X.K H v d->DV X.K H v e->d=e
 |_,_,_,.non,.non=>rfl
 |_,_,_,.bl _,.bl _=>rfl
 |_,_,_,.int _,.int _=>rfl
 |_,_,_,.str _,.str _=>rfl
 |_,_,_,.tup h hs,.tup k ks=>by
  have:=I.tuple_inj h k;subst this;rw [DVs.inj I hs ks]
 |_,_,_,.lst h hs,.lst k ks=>by
  have:=I.list_inj h k;subst this;rw [DVs.inj I hs ks]
 |_,_,_,.tup h hs,.lst k ks=>by
  obtain ⟨i1,_,p1,_⟩:=I.tuple h;obtain ⟨i2,_,p2,_⟩:=I.list k;exact absurd rfl (ne_of_list_tuple p2.isList (show s.heap.IsTuple _ i1.toArray from p1))
 |_,_,_,.lst k ks,.tup h hs=>by
  obtain ⟨i1,_,p1,_⟩:=I.tuple h;obtain ⟨i2,_,p2,_⟩:=I.list k;exact absurd rfl (ne_of_list_tuple p2.isList (show s.heap.IsTuple _ i1.toArray from p1))
def DVs.inj (I:Inv X pins σ H s):∀ {v:List V} {d e:List PyData},DVs X.K H v d->DVs X.K H v e->d=e
 |_,_,_,.nil,.nil=>rfl
 |_,_,_,.cons a b,.cons c d=>by rw [DV.inj I a c,DVs.inj I b d]
end
mutual
def WT:∀ {d:PyData} {b:Bool},QH d d=some b->b=true
 |.none,_,h=>by simp [QH] at h;exact h
 |.bool _,_,h=>by simp [QH] at h;exact h
 |.int _,_,h=>by simp [QH] at h;exact h
 |.str _,_,h=>by simp [QH] at h;exact h
 |.list xs,_,h=>by simp only [QH] at h;exact VD h
 |.tuple xs,_,h=>by simp only [QH] at h;exact VD h
 |.dict _,_,h=>by simp [QH] at h
def VD:∀ {d:List PyData} {b:Bool},Q1 d d=some b->b=true
 |[],_,h=>by simp [Q1] at h;exact h
 |x::xs,b,h=>by
  simp only [Q1] at h;split at h
  ·rename_i a c e1 e2;rw [WT e1,VD e2] at h;simpa using h.symm
  ·cases h
end
def Q6:∀ {xs ys:List PyData} {b:Bool},Q1 xs ys=some b->xs.length=ys.length->∃ e:Nat->Bool,(∀ (j:Nat) x y,xs[j]?=some x->ys[j]?=some y->QH x y=some (e j))/\b=(List.range xs.length).all e
 |[],[],b,h,_=>by simp [Q1] at h;exact ⟨λ_=>true,by simp,by simp [h]⟩
 |x::xs,y::ys,b,h,hl=>by
  simp only [Q1] at h;split at h
  ·rename_i a c e1 e2;obtain ⟨e,h1,h2⟩:=Q6 e2 (by simpa using hl);refine ⟨λj=>match j with|0=>a|j+1=>e j,λj u v hu hv=>?_,?_⟩
   ·cases j with
    |zero=>simp at hu hv;subst hu;subst hv;exact e1
    |succ j=>exact h1 j u v (by simpa using hu) (by simpa using hv)
   ·rw [length_cons,List.range_succ_eq_map,List.all_cons,List.all_map];cases h;rw [h2];rfl
  ·cases h
 |[],_::_,_,_,hl=>by simp at hl
 |_::_,[],_,_,hl=>by simp at hl
def Q9:∀ {xs ys:List PyData} {b:Bool},Q1 xs ys=some b->xs.length≠ys.length->b=false/\∃ e:Nat->Bool,∀ (j:Nat) x y,xs[j]?=some x->ys[j]?=some y->QH x y=some (e j)
 |[],[],_,_,hl=>by simp at hl
 |[],_::_,b,h,_=>by simp [Q1] at h;exact ⟨h,λ_=>true,by simp⟩
 |_::_,[],b,h,_=>by simp [Q1] at h;exact ⟨h,λ_=>true,by simp⟩
 |x::xs,y::ys,b,h,hl=>by
  simp only [Q1] at h;split at h
  ·rename_i a c e1 e2;obtain ⟨h0,e,h1⟩:=Q9 e2 (by simpa using hl);subst h0;refine ⟨by simpa using h.symm,λj=>match j with|0=>a|j+1=>e j,λj u v hu hv=>?_⟩;cases j with
   |zero=>simp at hu hv;subst hu;subst hv;exact e1
   |succ j=>exact h1 j u v (by simpa using hu) (by simpa using hv)
  ·cases h
def JP:∀ {xs:List PyData} {x:PyData},x∈xs->dpt x<=qbc xs
 |[],_,h=>by simp at h
 |y::ys,x,h=>by
  simp only [qbc];rcases mem_cons.mp h with e|e
  ·subst e;omega
  ·have:=JP e;omega
def DVs.get {K:Frg} {H:Hp}:∀ {xs:List V} {ds:List PyData} {i:Nat} {x:V},DVs K H xs ds->xs[i]?=some x->∃ d,ds[i]?=some d/\DV K H x d
 |_,_,_,_,.nil,e=>by simp at e
 |_,_,0,_,.cons r _,e=>by simp at e;subst e;exact ⟨_,rfl,r⟩
 |_,_,i+1,x,.cons _ t,e=>by
  obtain ⟨u,h1,h2⟩:=DVs.get (i:=i) (x:=x) t (by simpa using e);exact ⟨u,by simpa using h1,h2⟩
def DVs.length {K:Frg} {H:Hp}:∀ {xs:List V} {ds:List PyData},DVs K H xs ds->xs.length=ds.length
 |_,_,.nil=>rfl
 |_,_,.cons _ b=>by simp [DVs.length b]
def ZC {vs:List V} {us:List Value} (r:zt vs us) {j:Nat} (h:j<us.toArray.size):∃ v,vs[j]?=some v/\jr v us.toArray[j]:=by
 have hj:j<vs.length:=by rw [r.length];simpa using h
 obtain ⟨u,hu,ru⟩:=r.get (getElem?_eq_getElem hj);refine ⟨vs[j],getElem?_eq_getElem hj,?_⟩;have hj2:j<us.length:=by simpa using h
 rw [getElem?_eq_getElem hj2] at hu;have:us[j]=u:=Option.some.inj hu;simpa [this] using ru
def CJ (I:Inv X pins σ H s):∀ (n:Nat) {v u:V} {d e:PyData} {b:Bool} {x y:Value} {A:Around},DV X.K H v d->DV X.K H u e->QH d e=some b->dpt d<=n->A.units+n<cLine->jr v x->jr u y ->
  RcAt A s x y b/\EqAt A s x y b:=by
 intro n;induction n with
 |zero=>
  intro v u d e b x y A hv hu h hd hn rx ry;cases hv with
  |non=>cases hu<;>simp [QH] at h;subst h;cases (show x=Value.none from rx);cases (show y=Value.none from ry);exact ⟨RcAt.none_none,EqAt.same _⟩
  |bl a=>cases hu<;>simp [QH] at h;subst h;cases (show x=Value.bool _ from rx);cases (show y=Value.bool _ from ry);exact ⟨RcAt.bool_bool _ _,EqAt.bool_bool _ _⟩
  |int a=>cases hu<;>simp [QH] at h;subst h;obtain ⟨t,rfl⟩:=(show ∃ t,x=Value.int _ t from rx);obtain ⟨t',rfl⟩:=(show ∃ t,y=Value.int _ t from ry);exact ⟨RcAt.int_int _ _ _ _,EqAt.int_int _ _ _ _⟩
  |str a=>cases hu<;>simp [QH] at h;subst h;obtain ⟨t,rfl⟩:=(show ∃ t,x=Value.str _ t from rx);obtain ⟨t',rfl⟩:=(show ∃ t,y=Value.str _ t from ry);exact ⟨RcAt.str_str _ _ _ _,EqAt.str_str _ _ _ _⟩
  |tup=>simp [dpt] at hd
  |lst=>simp [dpt] at hd
 |succ n ih=>
  intro v u d e b x y A hv hu h hd hn rx ry;have fin:∀ {l l':Addr} {k:Bool},x=.ref l->y=.ref l'->v=.ref l->u=.ref l'->b=k->RcAt A s x y k->RcAt A s x y b/\EqAt A s x y b:=by
   rintro l l' k rfl rfl rfl rfl rfl rc;refine ⟨rc,?_⟩;by_cases hll:l=l'
   ·subst hll;have:=DV.inj I hv hu;subst this;rw [WT h];exact EqAt.same _
   ·exact EqAt.of_refs hll rc
  cases hv with
  |non=>cases hu<;>simp [QH] at h;subst h;cases (show x=Value.none from rx);cases (show y=Value.none from ry);exact ⟨RcAt.none_none,EqAt.same _⟩
  |bl a=>cases hu<;>simp [QH] at h;subst h;cases (show x=Value.bool _ from rx);cases (show y=Value.bool _ from ry);exact ⟨RcAt.bool_bool _ _,EqAt.bool_bool _ _⟩
  |int a=>cases hu<;>simp [QH] at h;subst h;obtain ⟨t,rfl⟩:=(show ∃ t,x=Value.int _ t from rx);obtain ⟨t',rfl⟩:=(show ∃ t,y=Value.int _ t from ry);exact ⟨RcAt.int_int _ _ _ _,EqAt.int_int _ _ _ _⟩
  |str a=>cases hu<;>simp [QH] at h;subst h;obtain ⟨t,rfl⟩:=(show ∃ t,x=Value.str _ t from rx);obtain ⟨t',rfl⟩:=(show ∃ t,y=Value.str _ t from ry);exact ⟨RcAt.str_str _ _ _ _,EqAt.str_str _ _ _ _⟩
  |tup hq hs=>
   cases hu with
   |tup kq ks=>
    rename_i a1 vs1 ds1 a2 vs2 ds2;simp only [QH] at h;obtain ⟨i1,r1,p1,z1⟩:=I.tuple hq;obtain ⟨i2,r2,p2,z2⟩:=I.tuple kq;have l1:=hs.length;have l2:=ks.length;have m1:=r1.length;have m2:=r2.length;have el:∀ (e:Nat->Bool),(∀ (j:Nat) x y,ds1[j]?=some x->ds2[j]?=some y->QH x y=some (e j))->∀ j (h1:j<i1.toArray.size) (h2:j<i2.toArray.size),EqAt A.in1 s i1.toArray[j] i2.toArray[j] (e j):=λe he j h1 h2=>by
     obtain ⟨w1,g1,q1⟩:=ZC r1 h1;obtain ⟨w2,g2,q2⟩:=ZC r2 h2;obtain ⟨d1,f1,dv1⟩:=hs.get g1;obtain ⟨d2,f2,dv2⟩:=ks.get g2;have:=JP (mem_of_getElem? f1);exact (ih dv1 dv2 (he j d1 d2 f1 f2) (by simp only [dpt] at hd;omega) (show A.units+1+n<cLine by omega) q1 q2).2
    cases (show x=Value.ref a1 from rx);cases (show y=Value.ref a2 from ry);by_cases hl:ds1.length=ds2.length
    ·obtain ⟨e,he,hb⟩:=Q6 h hl;refine fin rfl rfl rfl rfl (k:=(List.range (min i1.toArray.size i2.toArray.size)).all e&&i1.toArray.size==i2.toArray.size) ?_ (RcAt.tuples (show s.heap.IsTuple a1 i1.toArray from p1) (show s.heap.IsTuple a2 i2.toArray from p2) (by omega) (el e he));have e1:i1.toArray.size=ds1.length:=by rw [size_toArray];omega
     have e2:i2.toArray.size=ds1.length:=by rw [size_toArray];omega
     rw [e1,e2,hb];simp
    ·obtain ⟨hb,e,he⟩:=Q9 h hl;refine fin rfl rfl rfl rfl (k:=(List.range (min i1.toArray.size i2.toArray.size)).all e&&i1.toArray.size==i2.toArray.size) ?_ (RcAt.tuples (show s.heap.IsTuple a1 i1.toArray from p1) (show s.heap.IsTuple a2 i2.toArray from p2) (by omega) (el e he));have e1:i1.toArray.size≠i2.toArray.size:=by rw [size_toArray,size_toArray];omega
     rw [hb];simp [e1];intro;omega
   |_=>simp [QH] at h
  |lst hq hs=>
   cases hu with
   |lst kq ks=>
    rename_i a1 vs1 ds1 a2 vs2 ds2;simp only [QH] at h;obtain ⟨i1,r1,p1,z1⟩:=I.list hq;obtain ⟨i2,r2,p2,z2⟩:=I.list kq;have l1:=hs.length;have l2:=ks.length;have m1:=r1.length;have m2:=r2.length;have el:∀ (e:Nat->Bool),(∀ (j:Nat) x y,ds1[j]?=some x->ds2[j]?=some y->QH x y=some (e j))->∀ j (h1:j<i1.toArray.size) (h2:j<i2.toArray.size),EqAt A.in1 s i1.toArray[j] i2.toArray[j] (e j):=λe he j h1 h2=>by
     obtain ⟨w1,g1,q1⟩:=ZC r1 h1;obtain ⟨w2,g2,q2⟩:=ZC r2 h2;obtain ⟨d1,f1,dv1⟩:=hs.get g1;obtain ⟨d2,f2,dv2⟩:=ks.get g2;have:=JP (mem_of_getElem? f1);exact (ih dv1 dv2 (he j d1 d2 f1 f2) (by simp only [dpt] at hd;omega) (show A.units+1+n<cLine by omega) q1 q2).2
    cases (show x=Value.ref a1 from rx);cases (show y=Value.ref a2 from ry);by_cases hl:ds1.length=ds2.length
    ·obtain ⟨e,he,hb⟩:=Q6 h hl;refine fin rfl rfl rfl rfl (k:=(List.range i1.toArray.size).all e) ?_ (RcAt.lists p1.isList p2.isList (by rw [size_toArray,size_toArray];omega) (by omega) (el e he));have e1:i1.toArray.size=ds1.length:=by rw [size_toArray];omega
     rw [e1,hb]
    ·obtain ⟨hb,e,he⟩:=Q9 h hl;refine fin rfl rfl rfl rfl (k:=false) hb (RcAt.lists_lengths p1.isList p2.isList (by rw [size_toArray,size_toArray];simp;omega) (by omega))
   |_=>simp [QH] at h
def qc9 (I:Inv X pins σ H s) {n:Nat} {v u:V} {d e:PyData} {b:Bool} {x y:Value} {A:Around} (hv:DV X.K H v d) (hu:DV X.K H u e) (h:QH d e=some b) (hd:dpt d<=n+1) (hn:A.units+(n+1)<cLine) (rx:jr v x) (ry:jr u y) (hs:dpt d≠0):RcNeAt A s x y (!b):=by
 cases hv with
 |tup hq hs'=>
  cases hu with
  |tup kq ks=>
   rename_i a1 vs1 ds1 a2 vs2 ds2;simp only [QH] at h;obtain ⟨i1,r1,p1,z1⟩:=I.tuple hq;obtain ⟨i2,r2,p2,z2⟩:=I.tuple kq;have l1:=hs'.length;have l2:=ks.length;have m1:=r1.length;have m2:=r2.length;have el:∀ (e:Nat->Bool),(∀ (j:Nat) x y,ds1[j]?=some x->ds2[j]?=some y->QH x y=some (e j))->∀ j (h1:j<i1.toArray.size) (h2:j<i2.toArray.size),EqAt A.in1 s i1.toArray[j] i2.toArray[j] (e j):=λe he j h1 h2=>by
    obtain ⟨w1,g1,q1⟩:=ZC r1 h1;obtain ⟨w2,g2,q2⟩:=ZC r2 h2;obtain ⟨d1,f1,dv1⟩:=hs'.get g1;obtain ⟨d2,f2,dv2⟩:=ks.get g2;have:=JP (mem_of_getElem? f1);exact (CJ I n dv1 dv2 (he j d1 d2 f1 f2) (by simp only [dpt] at hd;omega) (show A.units+1+n<cLine by omega) q1 q2).2
   cases (show x=Value.ref a1 from rx);cases (show y=Value.ref a2 from ry);by_cases hl:ds1.length=ds2.length
   ·obtain ⟨e,he,hb⟩:=Q6 h hl;have:=RcNeAt.tuples (show s.heap.IsTuple a1 i1.toArray from p1) (show s.heap.IsTuple a2 i2.toArray from p2) (A:=A) (by omega) (el e he);have e1:i1.toArray.size=ds1.length:=by rw [size_toArray];omega
    have e2:i2.toArray.size=ds1.length:=by rw [size_toArray];omega
    rw [e1,e2] at this;rw [hb];simpa using this
   ·obtain ⟨hb,e,he⟩:=Q9 h hl;have:=RcNeAt.tuples (show s.heap.IsTuple a1 i1.toArray from p1) (show s.heap.IsTuple a2 i2.toArray from p2) (A:=A) (by omega) (el e he);have e1:(i1.toArray.size==i2.toArray.size)=false:=by rw [size_toArray,size_toArray];simp;omega
    rw [e1] at this;rw [hb];simpa using this
  |_=>simp [QH] at h
 |lst hq hs'=>
  cases hu with
  |lst kq ks=>
   rename_i a1 vs1 ds1 a2 vs2 ds2;simp only [QH] at h;obtain ⟨i1,r1,p1,z1⟩:=I.list hq;obtain ⟨i2,r2,p2,z2⟩:=I.list kq;have l1:=hs'.length;have l2:=ks.length;have m1:=r1.length;have m2:=r2.length;have el:∀ (e:Nat->Bool),(∀ (j:Nat) x y,ds1[j]?=some x->ds2[j]?=some y->QH x y=some (e j))->∀ j (h1:j<i1.toArray.size) (h2:j<i2.toArray.size),EqAt A.in1 s i1.toArray[j] i2.toArray[j] (e j):=λe he j h1 h2=>by
    obtain ⟨w1,g1,q1⟩:=ZC r1 h1;obtain ⟨w2,g2,q2⟩:=ZC r2 h2;obtain ⟨d1,f1,dv1⟩:=hs'.get g1;obtain ⟨d2,f2,dv2⟩:=ks.get g2;have:=JP (mem_of_getElem? f1);exact (CJ I n dv1 dv2 (he j d1 d2 f1 f2) (by simp only [dpt] at hd;omega) (show A.units+1+n<cLine by omega) q1 q2).2
   cases (show x=Value.ref a1 from rx);cases (show y=Value.ref a2 from ry);by_cases hl:ds1.length=ds2.length
   ·obtain ⟨e,he,hb⟩:=Q6 h hl;have:=RcNeAt.lists p1.isList p2.isList (A:=A) (by rw [size_toArray,size_toArray];omega) (by omega) (el e he);have e1:i1.toArray.size=ds1.length:=by rw [size_toArray];omega
    rw [e1] at this;rw [hb];exact this
   ·obtain ⟨hb,e,he⟩:=Q9 h hl;rw [hb];exact RcNeAt.lists_lengths p1.isList p2.isList (by rw [size_toArray,size_toArray];simp;omega) (by omega)
  |_=>simp [QH] at h
 |_=>simp [dpt] at hs
def qeb (K:Frg) (neg:Bool):R2:=λx y H Q=>∃ d e b,DV K H x d/\DV K H y e/\QH d e=some b/\dpt d<=40/\dpt d≠0/\Q (.bl (if neg then !b else b)) H
def qfY (hu:X.A.units+64<cLine):OpR X (compareOp .Eq) (qeb X.K false):=by
 intro pins s σ H x y v u Q I rx ry h;obtain ⟨d,e,b,hx,hy,hb,hd,_,q⟩:=h;exact (CJ I 40 hx hy hb hd (by omega) rx ry).1 X.prog X.w X.xe _ ⟨.bl b,H,I,rfl,q⟩
def qel (hu:X.A.units+64<cLine):OpR X (compareOp .NotEq) (qeb X.K true):=by
 intro pins s σ H x y v u Q I rx ry h;obtain ⟨d,e,b,hx,hy,hb,hd,hs,q⟩:=h;exact qc9 I (n:=40) hx hy hb (by omega) (by omega) rx ry hs X.prog X.w X.xe _ ⟨.bl (!b),H,I,rfl,q⟩
end
def jE (neg:Bool):R3:=λx y G q=>match VU x y with
 |some k=>q (.bl (if neg then !k else k)) G
 |none=>∃ d e b,Dp G x d/\Dp G y e/\QH d e=some b/\dpt d<=40/\dpt d≠0/\q (.bl (if neg then !b else b)) G
def qK {K:Frg}:EC K (jE false) (λx y H Q=>rEq x y H Q\/qeb K false x y H Q):=λx y v u G H q Q hr rx ry h af=>by
 unfold jE at h;split at h
 ·rename_i k e;obtain ⟨h1,h2⟩:=RN rx ry e;refine .inl ⟨h1,?_⟩;rw [h2];exact af _ G h _ H (.bl _) hr Kp.refl
 ·obtain ⟨d,e,b,h1,h2,h3,h4,h5,h6⟩:=h;exact .inr ⟨d,e,b,h1.dv hr rx,h2.dv hr ry,h3,h4,h5,af _ G h6 _ H (.bl _) hr Kp.refl⟩
def ZM {K:Frg}:EC K (jE true) (λx y H Q=>rNe x y H Q\/qeb K true x y H Q):=λx y v u G H q Q hr rx ry h af=>by
 unfold jE at h;split at h
 ·rename_i k e;obtain ⟨h1,h2⟩:=RN rx ry e;refine .inl ⟨h1,?_⟩;rw [h2];exact af _ G h _ H (.bl _) hr Kp.refl
 ·obtain ⟨d,e,b,h1,h2,h3,h4,h5,h6⟩:=h;exact .inr ⟨d,e,b,h1.dv hr rx,h2.dv hr ry,h3,h4,h5,af _ G h6 _ H (.bl _) hr Kp.refl⟩
def zw {X:Cx} (hu:X.A.units+64<cLine):OpR X (compareOp .Eq) (λx y H Q=>rEq x y H Q\/qeb X.K false x y H Q):=qjl.or (qfY hu)
def VP {X:Cx} (hu:X.A.units+64<cLine):OpR X (compareOp .NotEq) (λx y H Q=>rNe x y H Q\/qeb X.K true x y H Q):=qky.or (qel hu)
end L3
namespace L3
open PySem PySem.Spec PyProof.Rows L2
section
variable {X:Cx} {pins:List (Addr×Obj)} {σ:L2.St} {H:Hp} {s:Shared}
end
section
variable {X:Cx}
def qdG:V->List V->Hp->VK->Prop:=λx vs H Q=>∃ i,x=.int i/\vs=[]/\Q (.int (Builtin.Int.intBits i)) H
def M2:MtR X "int.bit_length" qdG:=by
 intro pins s σ H x vs v us Q I rx rv h;obtain ⟨i,rfl,rfl,q⟩:=h;obtain ⟨t,rfl⟩:=rx;have hus:=rv.zero;subst hus;exact call_int_bit_length ⟨.int _,_,I.tok _,⟨_,rfl⟩,q⟩
def bl3 (to:TE3):TE3:=λτ G q=>to τ G λx G1=>match x with|.int i=>q (.int (Builtin.Int.intBits i)) G1|_=>False
def XR {o:Expr} {to:TE3} {apos cpos:Pos} (ho:jE3 X o to) (hbase:attributeBase o "bit_length" X.env (eval o X.env)=eval o X.env:=by rfl) (hline:(apos.endLine==cpos.line)=true:=by rfl) :
  jE3 X (.Call (.Attribute o "bit_length" apos) [] [] cpos) (bl3 to):=
 ⟨EZ (qfN PySem.F.plainAttrs_int PySem.F.slot_int_bit_length PySem.F.type_int_bit_length M2 ho.h hbase hline) λ_ _ _ ⟨τ,G,q,rl,h,af⟩=>zx rl h λx G1 h1 v H1 rx hr1 k1 rl1=>by
  cases x<;>try exact h1.elim
  case int i=>
   cases rx;exact ⟨rfl,i,rfl,rfl,af.back k1 _ _ h1 _ _ (.int _) hr1 Kp.refl⟩⟩
end
section
variable {prog:Program} {w:World} {A:Around} {R:Result->Shared->Prop} {s:Shared}
end
section
variable {X:Cx}
end
section
variable {K:Frg}
end
section
variable {X:Cx}
end
section
variable {X:Cx}
def E6:∀ {its:List Value} {ns:List Int},zt (ns.map V.int) its->IntsAre its ns
 |_,[],h=>by cases h;exact .nil
 |_,n::ns,h=>by
  cases h with
  |cons r t=>
   obtain ⟨k,rfl⟩:=r;exact .cons n k (E6 t)
end
section
variable {X:Cx} {tg a b c:Expr} {pos:Pos}
end
section
variable {X:Cx}
end
section
variable {X:Cx} {a b:Expr} {ta tb:TE3} {pos:Pos}
def qcG:OpR X (compareOp .IsNot) (λx y H Q=>∃ i j,x=.bl i/\y=.bl j/\Q (.bl (i != j)) H):=by
 intro pins s σ H x y v u Q I rx ry h;obtain ⟨i,j,rfl,rfl,q⟩:=h;cases rx;cases ry;exact isnot_bool (qH I q rfl)
def qiY (neg:Bool):R3:=λx y G q=>match x,y with|.bl i,.bl j=>q (.bl (if neg then i != j else i==j)) G|_,_=>False
def qaF {K:Frg}:EC K (qiY true) (λx y H Q=>∃ i j,x=.bl i/\y=.bl j/\Q (.bl (i != j)) H):=λx y v u G H q Q hr rx ry h af=>by
 cases x<;>try exact h.elim
 cases y<;>try exact h.elim
 cases rx;cases ry;exact ⟨_,_,rfl,rfl,af _ G h _ H (.bl _) hr Kp.refl⟩
end
end L3
namespace HT
open PySem PySem.Spec PyProof.Rows
section
variable {prog:Program} {w:World} {A:Around} {E:Value->Shared->Prop} {s:Shared}
end
end HT
namespace L3
open PySem PySem.Spec PyProof.Rows L2
section
variable {X:Cx} {e ek:Expr} {p2 pos:Pos}
end
section
variable {X:Cx} {a b:Expr} {ta tb:TE3} {pos:Pos}
end
abbrev Rd (sp:Sp3) (n:Nat) (t:TS3) (N:List Str):Prop:=∀ ts G q,sp ts G q->ts.length=n/\t { nx:=λ_ G'=>q .non G',rt:=q } (qB N ts) G
def jgn {pos:Pos} {X:Cx} {x:Str} (i:Nat) (hN:decide X.N.Nodup=true:=by kernel_rfl) (hi:X.N[i]?=some x:=by rfl) (hx:Loc X.env.scope x:=by first|exact Or.inl rfl|exact Or.inr rfl) (hf:X.fn x=true\/X.env.scope.names.lookup x=some .local:=by first|exact .inl rfl|exact .inr rfl):jG3 X (.Name x pos) (gn3 i):=
 qJ (of_decide_eq_true hN) hi hx hf
end L3
namespace L2
open PySem PySem.Spec PyProof.Rows
section
variable {X:Cx} {pos:Pos}
end
end L2
namespace L3
open PySem PySem.Spec PyProof.Rows L2
section
variable {X:Cx} {pos:Pos}
end
end L3
namespace HT
open PySem PyProof.Rows
section
variable {prog:Program} {w:World} {A:Around} {E:Value->Shared->Prop} {s:Shared}
end
end HT
namespace L3
open PySem PySem.Spec PyProof.Rows L2
section
variable {X:Cx}
end
section
variable {X:Cx} {K:Frg} {w:World} {mg:Str->Option Value}
def KJ (hc:X.calm=true):ZY X (.builtin "max") (λxs H Q=>∃ (p:Addr) (ns:List Int),xs=[.ref p]/\SqL X.K H p (ns.map V.int)/\ns≠[]/\∀ m∈ns,(∀ a∈ns,a<=m)->Q (.int m) H):=by
 intro pins s σ H xs us Q I r h;obtain ⟨p,ns,rfl,hq,hne,q⟩:=h;obtain ⟨u,rfl,rp⟩:=W9 r;cases (show u=Value.ref p from rp);obtain ⟨its,rv,pl,hz⟩:=I.list hq;have hlen:its.length=ns.length:=by have:=rv.length;simp at this;omega
 have hpos:0<ns.length:=List.length_pos_iff.mpr hne;have hp:p<s.heap.objs.size:=by obtain ⟨o,n,e,_⟩:=pl;exact Heap.lt_size e
 have vals:∀ (i:Nat) (v:Value),its.toArray[i]?=some v->∃ t,v=Value.int (ns.getD i 0) t:=λi v hv=>by
  have hv':its[i]?=some v:=by simpa using hv
  obtain ⟨hi,_⟩:=List.getElem?_eq_some_iff.mp hv';have hi':i<ns.length:=by omega
  obtain ⟨u,hu,ru⟩:=rv.get (i:=i) (show (ns.map V.int)[i]?=some (V.int (ns[i])) by simp [hi']);rw [hv'] at hu;cases hu;obtain ⟨t,rfl⟩:=ru;exact ⟨t,by show Value.int ns[i] t=Value.int (ns.getD i 0) t;rw [getD_eq_getElem?_getD,getElem?_eq_getElem hi'];rfl⟩
 refine call_max_walk (wpAny_pyIter_list pl.isList ⟨s.heap.objs.size,_,_,_,_,_,_,rfl,Walks.list (A:=X.A.in1) (show X.A.in1.handled=none from I.ok.hd hc) s.heap.objs.size p (Nat.ne_of_lt hp) its.toArray,⟨⟨_,Heap.get?_push_size _ rfl,rfl,rfl⟩,?_⟩,λb hb=>?_,by rw [size_toArray];omega,CmpOf.ints_gt (λi=>ns.getD i 0) vals,λv h' tk hP hk=>?_⟩)
 ·obtain ⟨o,n,e,c,_,d⟩:=pl;exact ⟨o,Heap.get?_push_of_some _ e,c,n,d⟩
 ·have lt1:∀ n c:Nat,c<n->c<n+1:=λn c h=>by omega
  rw [show (({ s with heap:=s.heap.push _ }:Shared).heap.objs.size)=s.heap.objs.size+1 from Heap.size_push ..];simp only [mem_cons,not_mem_nil,or_false] at hb;rcases hb with rfl|rfl
  ·exact Nat.lt_succ_self _
  ·exact lt1 _ _ hp
 ·obtain ⟨b1,b2⟩:=argBest_gt (λi=>ns.getD i 0) (its.toArray.size-1);obtain ⟨t,rfl⟩:=vals _ _ hP;rw [size_toArray] at b1 b2 ⊢;have gd:∀ j,j<ns.length->ns.getD j 0∈ns:=λj hj=>by rw [getD_eq_getElem?_getD,getElem?_eq_getElem hj];exact List.getElem_mem hj
  refine ⟨.int _,H,I.kept (h':=h') (t':=tk) λb o e=>hk b o (by simp;exact Nat.ne_of_lt (Heap.lt_size e)) (Heap.get?_push_of_some _ e),⟨_,rfl⟩,q _ (gd _ (by omega)) λa ha=>?_⟩;obtain ⟨j,hj,rfl⟩:=List.mem_iff_getElem.mp ha;have:=b2 j (by omega);have e:ns.getD j 0=ns[j]:=by rw [getD_eq_getElem?_getD,getElem?_eq_getElem hj];rfl
  rw [e] at this;exact this
def RW:List T->Gp->Q3->Prop:=λxs G q=>match xs with
 |[.ref p]=>(match getL G p with|some ys=>(match D0 ys with|some ns=>ns≠[]/\∀ m∈ns,(∀ a∈ns,a<=m)->q (.int m) G|none=>False)|none=>False)
 |_=>False
def qaM {K:Frg}:SJ K RW (λxs H Q=>∃ (p:Addr) (ns:List Int),xs=[.ref p]/\SqL K H p (ns.map V.int)/\ns≠[]/\∀ m∈ns,(∀ a∈ns,a<=m)->Q (.int m) H):=λxs vs G H q Q hr rs h af=>by
 unfold RW at h;split at h
 ·rename_i p;obtain ⟨v,rfl,r⟩:=SM rs;cases r;split at h
  ·rename_i ys e0;split at h
   ·rename_i ns e1;obtain ⟨us,hs,r2⟩:=zE hr e0;have:=V5 e1;subst this;have:=V1 r2;subst this;exact ⟨p,ns,rfl,hs,h.1,λm hm ha=>af _ _ (h.2 m hm ha) _ _ (.int _) hr Kp.refl⟩
   ·exact h.elim
  ·exact h.elim
 ·exact h.elim
end
section
variable {X:Cx}
end
open PySem.SeqAt
section
variable {X:Cx} {pins:List (Addr×Obj)} {σ:L2.St} {H:Hp} {s:Shared}
end
end L3
namespace HT
open PySem PySem.Spec PyProof.Rows L2
section
open PySem.SeqAt
open PySem.MeetsSeq PySem.MeetsSeq2 PySem.MeetsSeq3
end
section
variable {prog:Program} {w:World} {A:Around} {E:Value->Shared->Prop} {s:Shared}
end
end HT
namespace L3
open PySem PySem.Spec PyProof.Rows L2
section
variable {X:Cx}
end
end L3
namespace HT
open PySem PyProof.Rows
abbrev oB (xs:Array Value) (c:Nat):Obj:={ cls:=.type "list",dict:=none,data:=.seq xs c,slots:=#[] }
def Bst (val:Nat->Int) (j:Nat) (xs:Array Value):Prop:=(j=0/\xs=#[])\/(0<j/\∃ m t,xs=#[.int m t,.int m t]/\(∃ i,i<j/\val i=m)/\∀ i,i<j->val i<=m)
def qk3 (val:Nat->Int) (n:Nat) (dv v:Value):Prop:=(n=0/\v=dv)\/(0<n/\∃ m t,v=.int m t/\(∃ i,i<n/\val i=m)/\∀ i,i<n->val i<=m)
section
variable {prog:Program} {w:World} {A:Around} {R:Result->Shared->Prop} {I:Addr} {fp wr:List Addr} {n:Nat} {P:Nat->Value->Prop} {St:Nat->Heap->Prop}
def T8 (W:Walks prog w A.in1 I fp wr n P St) (val:Nat->Int) (hval:∀ i v,P i v->∃ t,v=.int (val i) t) (S:Addr) (dv:Value) (hSf:S∉fp) :
  ∀ (k j:Nat) (s:Shared) (xs:Array Value) (c:Nat),n-j=k->j<=n->St j s.heap->Bst val j xs->s.heap.get? S=some (oB xs c) ->
  (∀ v h' tk,qk3 val n dv v->(∀ b o,b∉wr->b≠S->s.heap.get? b=some o->h'.get? b=some o)->R (.ok (.ret v)) { s with heap:=h',toks:=tk }) ->
  codeAny (model prog w) A (.builtin "max.loop" ⟨[.ref I,.none,.ref S],[("default",dv)]⟩) R s:=by
 have hSw:S∉wr:=λh=>hSf (W.sub _ h);have nm:(toString "max" ++ toString ".loop" : String)="max.loop" := by decide
 intro k;induction k with
 |zero=>
  intro j s xs c hk hj hst hb hS hR;obtain rfl:j=n:=by omega
  refine codeAny_builtin F.entry_max_loop ?_;rw [Around.under_plainId F.plain_max_loop _];show wpAny _ A.in1 (seqItems? (.ref S) >>= _) _ _ s;refine wpAny_bind (wpAny_seqItems hS rfl ?_);show wpAny _ A.in1 (tryCatch (pyNext (.ref I)) _ >>= _) _ _ s;refine wpAny_bind (wpAny_tryCatch (W.done s _ _ hst λh' tk kp=>?_));rcases hb with ⟨j0,rfl⟩|⟨j1,m,t,rfl,hm⟩
  ·show wpAny _ A.in1 (rule _ >>= _) _ _ _;refine wpAny_bind (wpAny_rule (wpAny_pure ?_));exact hR dv h' tk (.inl ⟨j0,rfl⟩) λb o hbw _ e=>kp b o hbw e
  ·show wpAny _ A.in1 (updateSeq S (λ_=>#[]) >>= _) _ _ _;refine wpAny_bind (wpAny_updateSeq (kp S _ hSw hS) rfl (wpAny_bind (wpAny_letGo (wpAny_pure ?_))));exact hR _ _ tk (.inr ⟨j1,m,t,rfl,hm⟩) λb o hbw hbS e=>(Heap.get?_update_other _ _ (Ne.symm hbS)).trans (kp b o hbw e)
 |succ k ih=>
  intro j s xs c hk hj hst hb hS hR;have lt:j<n:=by omega
  refine codeAny_builtin F.entry_max_loop ?_;rw [Around.under_plainId F.plain_max_loop _];show wpAny _ A.in1 (seqItems? (.ref S) >>= _) _ _ s;refine wpAny_bind (wpAny_seqItems hS rfl ?_);show wpAny _ A.in1 (tryCatch (pyNext (.ref I)) _ >>= _) _ _ s;refine wpAny_bind (wpAny_tryCatch (W.item j s _ _ lt hst λv h' tk hP hst' kp=>?_));have hS':=kp S _ hSw hS;obtain ⟨u,rfl⟩:=hval j v hP;rcases hb with ⟨j0,rfl⟩|⟨j1,m,t,rfl,⟨i0,hi0,e0⟩,hm⟩
  ·subst j0;show wpAny _ A.in1 (updateSeq S _ >>= _) _ _ _;refine wpAny_bind (wpAny_updateSeq hS' rfl ?_);rw [nm];refine wpAny_pure ⟨plainId_quiet F.plain_max_loop _,ih 1 _ _ _ (by omega) (by omega) (W.frame _ _ _ hst' λb hbf o e=>(Heap.get?_update_other _ _ (λh:S=b=>hSf (by rw [h];exact hbf))).trans e) (.inr ⟨by omega,_,u,rfl,⟨0,by omega,rfl⟩,λi hi=>?_⟩) (Heap.get?_update_self _ hS' rfl) λv' h'' tk'' hv kp'=>?_⟩
   ·obtain rfl:i=0:=by omega
    exact Int.le_refl _
   ·exact hR v' h'' tk'' hv λb o hbw hbS e=>kp' b o hbw hbS ((Heap.get?_update_other _ _ (Ne.symm hbS)).trans (kp b o hbw e))
  ·show wpAny _ A.in1 (tryCatch (holding _ (richCompare .Gt _ _ >>= _)) _ >>= _) _ _ _;refine wpAny_bind (wpAny_tryCatch (wpAny_holding (wpAny_bind (PyProof.Rows.gt_int (Q:=λv s=>_) ?_))));refine wpAny_bind (wpAny_holding (wpAny_truthy_bool ?_));refine wpAny_bind (wpAny_letGo (wpAny_pure ?_));by_cases hb:m<val j
   ·rw [decide_eq_true hb];simp only [if_true];refine wpAny_bind (wpAny_updateSeq hS' rfl (wpAny_bind (wpAny_letGo ?_)));rw [nm];refine wpAny_pure ⟨plainId_quiet F.plain_max_loop _,ih (j+1) _ _ _ (by omega) (by omega) (W.frame _ _ _ hst' λb hbf o e=>(Heap.get?_update_other _ _ (λh:S=b=>hSf (by rw [h];exact hbf))).trans e) (.inr ⟨by omega,_,u,rfl,⟨j,by omega,rfl⟩,λi hi=>?_⟩) (Heap.get?_update_self _ hS' rfl) λv' h'' tk'' hv kp'=>?_⟩
    ·rcases Nat.lt_or_ge i j with z|z
     ·have:=hm i z;omega
     ·obtain rfl:i=j:=by omega
      exact Int.le_refl _
    ·exact hR v' h'' tk'' hv λb o hbw hbS e=>kp' b o hbw hbS ((Heap.get?_update_other _ _ (Ne.symm hbS)).trans (kp b o hbw e))
   ·rw [decide_eq_false hb];simp only [Bool.false_eq_true,if_false];refine wpAny_bind (wpAny_letGo ?_);rw [nm];refine wpAny_pure ⟨plainId_quiet F.plain_max_loop _,ih (j+1) _ _ _ (by omega) (by omega) hst' (.inr ⟨by omega,m,t,rfl,⟨i0,by omega,e0⟩,λi hi=>?_⟩) hS' λv' h'' tk'' hv kp'=>?_⟩
    ·rcases Nat.lt_or_ge i j with z|z
     ·exact hm i z
     ·obtain rfl:i=j:=by omega
      omega
    ·exact hR v' h'' tk'' hv λb o hbw hbS e=>kp' b o hbw hbS (kp b o hbw e)
end
section
variable {prog:Program} {w:World} {A:Around} {E:Value->Shared->Prop} {s:Shared}
def qhW {id:String} {b:Builtin} {args:List Value} {kw:List (Str×Value)} {Q:Value->Shared->Prop} (hk:builtinKind id=none) (hp:plainId id=true) (hb:entryFor table id=some b) (ha:argsOk id ⟨args,kw⟩)
  (hc:wpAny (model prog w) A.in1 (b ⟨args,kw⟩) (λfin s'=>match fin with
   |.done f=>(match (Except.ok f:Result) with|.ok (.ret v)=>Q v s'|.ok _=>False|.error e=>E e s')
   |.again c'=>c'.quiet=true/\codeAny (model prog w) A c' (λr s'=>match r with|.ok (.ret v)=>Q v s'|.ok _=>False|.error e=>E e s') s') E s) :
  wpAny (model prog w) A (call (.builtin id) args kw) Q E s:=by
 refine wpAny_call (codeAny_call_builtin hp hb ?_);simp only [checkBuiltinCall,hk];cases e:Manifest.signature? id with
 |none=>exact wpAny_pure hc
 |some sig=>
  have z:Bind.checkArgs id sig ⟨args,kw⟩=pure ():=by simpa only [argsOk,e] using ha
  simp only [z];exact wpAny_pure hc
def M7 (a b:Value):argsOk "max" ⟨[a],[("default",b)]⟩:=by unfold argsOk;kernel_rfl
def MI {l:Addr} {its:List Value} {ns:List Int} {dv:Value} {Q:Value->Shared->Prop} (hh:A.handled=none) (hl:s.heap.IsList l its.toArray) (hv:IntsAre its ns)
  (h:∀ v h' tk,qk3 (λi=>ns.getD i 0) ns.length dv v->(∀ b o,s.heap.get? b=some o->h'.get? b=some o)->Q v { s with heap:=h',toks:=tk }) :
  wpAny (model prog w) A (call (.builtin "max") [.ref l] [("default",dv)]) Q E s:=by
 have nm:(toString "max" ++ toString ".loop" : String)="max.loop" := by decide
 have ll:l<s.heap.objs.size:=by obtain ⟨o,e,_⟩:=hl;exact Heap.lt_size e
 have sz:=hv.length;refine qhW F.kind_max F.plain_max F.entry_max (M7 _ _) ?_;show wpAny _ A.in1 (Builtin.Builtins.bindParams "max" ["key","default"] 0 ⟨[],[("default",dv)]⟩ >>= _) _ _ s;refine wpAny_bind (wpAny_of_eq (show Builtin.Builtins.bindParams "max" ["key","default"] 0 ⟨[],[("default",dv)]⟩=pure [none,some dv] from by kernel_rfl) ?_);refine wpAny_bind (wpAny_pure ?_);refine wpAny_bind (wpAny_pyIter_list hl ?_);refine wpAny_bind (wpAny_newObj_type ?_);rw [nm];have sz1:(s.heap.push { cls:=.type "list_iterator",data:=.fields #[.ref l,.int 0 0] }).objs.size=s.heap.objs.size+1:=Heap.size_push ..;refine wpAny_pure ⟨plainId_quiet F.plain_max_loop _,?_⟩;refine T8 (Walks.list (A:=A.in1) (show A.in1.handled=none by simp [hh]) s.heap.objs.size l (Nat.ne_of_lt ll) its.toArray) (λi=>ns.getD i 0) (λi v hx=>hv.int_at i v (by simpa using hx)) _ dv ?_ (its.toArray.size-0) 0 _ #[] _ rfl (Nat.zero_le _) ?_ (.inl ⟨rfl,rfl⟩) (Heap.get?_push_size _ rfl) λv h' tk hb kp=>?_
 ·rw [sz1];simp only [mem_cons,not_mem_nil,or_false,not_or];exact ⟨Nat.ne_of_gt (Nat.lt_succ_self _),Nat.ne_of_gt (Nat.lt_succ_of_lt ll)⟩
 ·exact ⟨⟨_,Heap.get?_push_of_some _ (Heap.get?_push_size _ rfl),rfl,rfl⟩,(hl.push _).push _⟩
 ·rw [size_toArray,sz] at hb;refine h v h' tk hb λb o e=>kp b o ?_ ?_ (Heap.get?_push_of_some _ (Heap.get?_push_of_some _ e))
  ·simp only [mem_cons,not_mem_nil,or_false];exact Nat.ne_of_lt (Heap.lt_size e)
  ·rw [sz1];exact Nat.ne_of_lt (Nat.lt_succ_of_lt (Heap.lt_size e))
end
end HT
namespace L3
open PySem PySem.Spec PyProof.Rows L2
section
variable {X:Cx}
def qiA (K:Frg):R2:=λx y H Q=>∃ (p:Addr) (ns:List Int),x=.ref p/\SqL K H p (ns.map V.int)/\(ns=[]->Q y H)/\(∀ m∈ns,(∀ a∈ns,a<=m)->Q (.int m) H)
def qcH (hc:X.calm=true):OpR X (λv u=>call (.builtin "max") [v] [("default",u)]) (qiA X.K):=by
 intro pins s σ H x y v u Q I rx ry h;obtain ⟨p,ns,rfl,hq,q0,q1⟩:=h;cases rx;obtain ⟨its,rv,pl,hz⟩:=I.list hq;refine HT.MI (I.ok.hd hc) pl.isList (E6 rv) λv h' tk hb kp=>?_;rcases hb with ⟨n0,rfl⟩|⟨n1,m,t,rfl,⟨i,hi,e⟩,hm⟩
 ·exact ⟨y,H,I.kept (h':=h') (t':=tk) λb o e=>kp b o e,ry,q0 (List.length_eq_zero_iff.mp n0)⟩
 ·have gd:∀ j,(hj:j<ns.length)->ns.getD j 0=ns[j]:=λj hj=>by rw [getD_eq_getElem?_getD,getElem?_eq_getElem hj];rfl
  refine ⟨.int m,H,I.kept (h':=h') (t':=tk) λb o e=>kp b o e,⟨_,rfl⟩,q1 m (by rw [← e];show ns.getD i 0∈ns;rw [gd i hi];exact List.getElem_mem hi) λa ha=>?_⟩;obtain ⟨j,hj,rfl⟩:=List.mem_iff_getElem.mp ha;have:ns.getD j 0<=m:=hm j hj;rw [gd j hj] at this;exact this
def qdl {r:R2} {e d:Expr} {te td:TE} {p kp pos:Pos} (ho:OpR X (λv u=>call (.builtin "max") [v] [("default",u)]) r) (hg:Gl X "max") (hm:X.mg "max" = none) (he:PE X e te) (hd:PE X d td)
  (h1:starEach [e] X.env=(false,eval e X.env)::starEach [] X.env:=by rfl):PE X (.Call (.Name "max" p) [e] [⟨some "default",d,kp⟩] pos) (tOp r te td):=by
 intro pins s σ H Q I h;refine wpAny_Call_Name_kw (UM I hg hm PyProof.Rows.boot_max ?_);have z:backTo pos (starEach [e] X.env)=(false,eval e X.env)::backTo pos (starEach [] X.env):=by rw [h1];rfl
 refine callWith_kw (kws:=[⟨some "default",d,kp⟩]) ?_ z (by rw [z];rfl);rw [z];refine Calls.spliced_cons (thn (he pins s σ H _ I h) λv s1 ⟨x,H1,I1,r1,q1⟩=>?_);refine Calls.spliced_nil ?_;refine kws_cons (thn (hd pins s1 σ H1 _ I1 q1) λu s2 ⟨y,H2,I2,r2,q2⟩=>?_);exact kws_nil (ho pins s2 σ H2 x y v u Q I2 r1 r2 q2)
def TD:R3:=λx y G q=>match x with
 |.ref p=>(match getL G p with|some ys=>(match D0 ys with|some ns=>(ns=[]->q y G)/\(∀ m∈ns,(∀ a∈ns,a<=m)->q (.int m) G)|none=>False)|none=>False)
 |_=>False
def qav {K:Frg}:EC K TD (qiA K):=λx y v u G H q Q hr rx ry h af=>by
 unfold TD at h;split at h
 ·rename_i p;cases rx;split at h
  ·rename_i ys e0;split at h
   ·rename_i ns e1;obtain ⟨us,hs,r2⟩:=zE hr e0;have:=V5 e1;subst this;have:=V1 r2;subst this;exact ⟨p,ns,rfl,hs,λz=>af _ _ (h.1 z) _ _ ry hr Kp.refl,λm hm ha=>af _ _ (h.2 m hm ha) _ _ (.int _) hr Kp.refl⟩
   ·exact h.elim
  ·exact h.elim
 ·exact h.elim
def qdH {e d:Expr} {te td:TE3} {p kp pos:Pos} (hc:X.calm=true) (hg:Gl X "max") (hm:X.mg "max" = none) (he:jE3 X e te) (hd:jE3 X d td)
  (h1:starEach [e] X.env=(false,eval e X.env)::starEach [] X.env:=by rfl):jE3 X (.Call (.Name "max" p) [e] [⟨some "default",d,kp⟩] pos) (o3 TD te td):=
 ⟨EZ (qdl (qcH hc) hg hm he.h hd.h h1) λ_ _ _ h=>LJ qav h⟩
end
def LD:Sp3:=λ_ _ _=>False
def zS {P:Program} {w:World} {K:Frg} {mg:Str->Option Value} {base:Heap} {x qual:Str} {st:Stmt} {f:Addr} {fd:FuncData} {ps:List Str} (F:Fun K x qual st f fd) (bd:zn K fd ps []) (hm:mg x=some (.ref f)):Fn3 P w K mg base 0 x LD:=
 ⟨f,fd,ps,⟨λvs H Q E ⟨_,_,_,_,_,h,_⟩=>h.elim,λA outer s H args us vs Q E _ _ _ _ ⟨_,_,_,_,_,h,_⟩=>h.elim⟩,bd,F.kp,hm⟩
def ixR (p:Addr) (i:Int) (G:Gp) (q:Q3):ix3 (.ref p) (.int i) G q=(match getL G p with|some xs=>(match L2.atI xs i with|some z=>q z G|none=>False)|none=>False):=rfl
def W0:¬ Str.ofString "skew" = Str.ofString "bits" := by decide
def WF:¬ Str.ofString "skew" = Str.ofString "table" := by decide
def EK:¬ Str.ofString "skew" = Str.ofString "joined" := by decide
def DB:¬ Str.ofString "rests" = Str.ofString "bits" := by decide
def EF:¬ Str.ofString "rests" = Str.ofString "table" := by decide
def U9:¬ Str.ofString "rests" = Str.ofString "joined" := by decide
def VQ:¬ Str.ofString "bits" = Str.ofString "skew" := by decide
def JS:¬ Str.ofString "bits" = Str.ofString "rests" := by decide
def DF:¬ Str.ofString "table" = Str.ofString "bits" := by decide
def EQ:¬ Str.ofString "joined" = Str.ofString "bits" := by decide
def UB:¬ Str.ofString "joined" = Str.ofString "table" := by decide
def cm {i j:Int} (h1:-1000000<j) (h2:j<1000000):YA i j:=.inr ⟨by omega,by omega⟩
def qay {stay:Gp->Prop} {g:TG3} {tif:TT3} {te:TE3} {q:Q3} (items:List T) (Pv:Nat->List T->St3->Gp->Prop) {τ:St3} {G:Gp} (h0:Pv 0 [] τ G) (hst:∀ i ys τ G,i<=items.length->Pv i ys τ G->stay G)
  (hs:∀ i x ys τ G (R:List T->St3->Gp->Prop),items[i]?=some x->Pv i ys τ G->(∀ ys' τ' G',Pv (i+1) ys' τ' G'->R ys' τ' G') ->
   g x τ G λτ2 G2=>tif τ2 G2 λk G3=>if k=true then te τ2 G3 λy G4=>ys.length<sizeLine/\R (ys++[y]) τ2 G4 else R ys τ2 G3)
  (hd:∀ ys τ G,Pv items.length ys τ G->∀ p,G p=none->q (.ref p) (gu G p (.lst ys))):KO stay g tif te q items [] τ G:=by
 have key:∀ (r:List T) (i:Nat) ys τ G,items.drop i=r->i<=items.length->Pv i ys τ G->KO stay g tif te q r ys τ G:=by
  intro r;induction r with
  |nil=>
   intro i ys τ G e hi p;have:i=items.length:=by have:=congrArg List.length e;simp at this;omega
   subst this;exact ⟨hst _ ys τ G hi p,hd ys τ G p⟩
  |cons x r ih=>
   intro i ys τ G e hi p;have hl:i<items.length:=by
    apply Classical.byContradiction;intro z;rw [List.drop_eq_nil_of_le (by omega)] at e;cases e
   have e':=List.drop_eq_getElem_cons hl;rw [e] at e';injection e' with e1 e2;exact ⟨hst i ys τ G hi p,hs i x ys τ G _ (by rw [getElem?_eq_getElem hl,e1]) p λys2 τ2 G2 p2=>ih (i+1) ys2 τ2 G2 e2.symm hl p2⟩
 exact key items 0 [] τ G (by simp) (Nat.zero_le _) h0
def qcM {lo:Int} {n i:Nat} {x:T} (h:(LI lo n)[i]?=some x):i<n/\x=T.int (lo+(i:Int)):=by
 unfold LI at h;rw [getElem?_map] at h;cases e:(List.range n)[i]? with
 |none=>rw [e] at h;cases h
 |some k=>
  rw [e] at h;obtain ⟨hi,hk⟩:=List.getElem?_eq_some_iff.mp e;simp at hi hk;subst hk;exact ⟨hi,by simpa using h.symm⟩
end L3
namespace Bk
open PySem L2 L3
def QK:TS3:=(zu (ZJ (V3 (λt=>jD t "int") (v3 0)) (K5 (V3 (λt=>jD t "bool") (v3 0)))))
def JO (S_is_number:Sp3):TS3:=(zu (ZJ (V3 (λt=>jD t "tuple") (v3 0)) (ZJ (o3 (jE false) (cb3 V8 (qc (v3 0) qr)) (c3 (.int 2))) (ZJ (cb3 S_is_number (qc (o3 ix3 (v3 0) (c3 (.int 0))) qr)) (cb3 S_is_number (qc (o3 ix3 (v3 0) (c3 (.int 1))) qr))))))
def JN (S_size_of:Sp3):TS3:=(za (zT (o3 ix3 (v3 0) (c3 (.int 0))) (gn3 1)) (za (Q2 (tb3 (o3 (jE false) (v3 1) (c3 (.str "bits")))) (zu (LS (qc (o3 (iC ED (λi j=>i*2 ^ j.toNat)) (c3 (.int 1)) (o3 ix3 (v3 0) (c3 (.int 1)))) (qc (o3 (iC ED (λi j=>i*2 ^ j.toNat)) (c3 (.int 1)) (o3 ix3 (v3 0) (c3 (.int 2)))) (qc (o3 (iC ED (λi j=>i*2 ^ j.toNat)) (c3 (.int 1)) (cb3 V8 (qc (o3 ix3 (v3 0) (c3 (.int 3))) qr))) qr))))) zc) (za (Q2 (tb3 (o3 (jE false) (v3 1) (c3 (.str "table")))) (zu (LS (qc (cb3 V8 (qc (o3 ix3 (v3 0) (c3 (.int 2))) qr)) (qc (cb3 V8 (qc (o3 ix3 (o3 ix3 (v3 0) (c3 (.int 2))) (c3 (.int 0))) qr)) (qc (o3 ix3 (v3 0) (c3 (.int 1))) qr))))) zc) (za (Q2 (tb3 (o3 (jE false) (v3 1) (c3 (.str "joined")))) (za (zT (cb3 S_size_of (qc (o3 ix3 (v3 0) (c3 (.int 1))) qr)) (Z8 3 (qI (gn3 2) (qI (gn3 3) (qI (gn3 4) JB))))) (za (zT (cb3 S_size_of (qc (o3 ix3 (v3 0) (c3 (.int 2))) qr)) (Z8 3 (qI (gn3 5) (qI (gn3 6) (qI (gn3 7) JB))))) (zu (LS (qc (o3 (iC YA (·*·)) (v3 2) (v3 5)) (qc (o3 (iC YA (·*·)) (v3 3) (v3 6)) (qc (o3 (iC YA (·*·)) (v3 4) (v3 7)) qr))))))) zc) (zu (LS (qc (o3 ix3 (v3 0) (c3 (.int 1))) (qc (o3 ix3 (v3 0) (c3 (.int 2))) (qc (o3 ix3 (v3 0) (c3 (.int 3))) qr)))))))))
def QJ (S_size_of:Sp3):TS3:=(za (zT (cb3 S_size_of (qc (v3 0) qr)) (Z8 3 (qI (gn3 2) (qI (gn3 3) (qI (gn3 4) JB))))) (zu (o3 JG (o3 (iC YA (·*·)) (o3 ix3 (v3 1) (c3 (.int 0))) (v3 3)) (o3 ix3 (v3 1) (c3 (.int 1))))))
def JT (S_is_pair:Sp3) (S_size_of:Sp3):TS3:=(za (Q2 (CT (tb3 (cb3 S_is_pair (qc (v3 1) qr)))) (zu (c3 (.bl false))) zc) (za (zT (cb3 S_size_of (qc (v3 0) qr)) (Z8 3 (qI (gn3 2) (qI (gn3 3) (qI (gn3 4) JB))))) (zu (ZJ (ch3 (iB λi j=>decide (i<=j)) (iB λi j=>decide (i<j)) (c3 (.int 0)) (o3 ix3 (v3 1) (c3 (.int 0))) (v3 2)) (ch3 (iB λi j=>decide (i<=j)) (iB λi j=>decide (i<j)) (c3 (.int 0)) (o3 ix3 (v3 1) (c3 (.int 1))) (v3 3))))))
def zH:TS3:=(za (zT (o3 (iI Builtin.bitAnd) (v3 0) (v3 1)) (gn3 2)) (za (zT (c3 (.int 0)) (gn3 3)) (za (RP (tb3 (o3 (iB λi j=>decide (j<i)) (v3 2) (c3 (.int 0)))) (za (qd9 3 (iI (·+·)) (o3 (iI Builtin.bitAnd) (v3 2) (c3 (.int 1)))) (zT (o3 (iC (λ_ j=>0<=j) (λi j=>i/2 ^ j.toNat)) (v3 2) (c3 (.int 1))) (gn3 2)))) (zu (o3 (jE false) (o3 (iI Builtin.bitAnd) (v3 3) (c3 (.int 1))) (c3 (.int 1)))))))
def QP (S_odd_in_common:Sp3):TS3:=(zu (cb3 qd8 (qc (lc3 (UR (qc (v3 0) qr)) (Z8 2 (qI (gn3 0) (qI (gn3 1) JB))) (tb3 (cb3 S_odd_in_common (qc (v3 2) (qc (v3 1) qr)))) (o3 (iC ED (λi j=>i*2 ^ j.toNat)) (c3 (.int 1)) (v3 0)) [none,none,some 1]) qr)))
def YL (S_number_of:Sp3) (S_bits_bank:Sp3) (S_joined_bank:Sp3):TS3:=(za (zT (o3 ix3 (v3 0) (c3 (.int 0))) (gn3 2)) (za (Q2 (tb3 (o3 (jE false) (v3 2) (c3 (.str "skew")))) (zu (o3 (iC (λ_ j=>0<j) (·%·)) (o3 JG (o3 (iC YA (·*·)) (o3 ix3 (v3 0) (c3 (.int 4))) (o3 ix3 (v3 1) (c3 (.int 0)))) (o3 (iC YA (·*·)) (o3 ix3 (v3 0) (c3 (.int 5))) (o3 ix3 (v3 1) (c3 (.int 1))))) (o3 ix3 (v3 0) (c3 (.int 3))))) zc) (za (Q2 (tb3 (o3 (jE false) (v3 2) (c3 (.str "rests")))) (zu (o3 (iC (λ_ j=>0<j) (·%·)) (cb3 S_number_of (qc (v3 0) (qc (v3 1) qr))) (o3 ix3 (v3 0) (c3 (.int 3))))) zc) (za (Q2 (tb3 (o3 (jE false) (v3 2) (c3 (.str "bits")))) (zu (cb3 S_bits_bank (qc (o3 ix3 (v3 0) (c3 (.int 3))) (qc (cb3 S_number_of (qc (v3 0) (qc (v3 1) qr))) qr)))) zc) (za (Q2 (tb3 (o3 (jE false) (v3 2) (c3 (.str "table")))) (zu (o3 ix3 (o3 ix3 (o3 ix3 (v3 0) (c3 (.int 2))) (o3 ix3 (v3 1) (c3 (.int 0)))) (o3 ix3 (v3 1) (c3 (.int 1))))) zc) (zu (cb3 S_joined_bank (qc (o3 ix3 (v3 0) (c3 (.int 1))) (qc (o3 ix3 (v3 0) (c3 (.int 2))) (qc (v3 1) qr))))))))))
def zA (S_is_word:Sp3):TS3:=(Q2 (CT (tb3 (cb3 S_is_word (qc (v3 0) (qc (v3 1) qr))))) qiX zc)
def YB (S_refuse_no_word:Sp3) (S_bank_in:Sp3):TS3:=(za (qaf (cb3 S_refuse_no_word (qc (v3 0) (qc (v3 1) qr)))) (zu (cb3 S_bank_in (qc (v3 0) (qc (v3 1) qr)))))
def J3:TS3:=(za (zT (o3 (iC (λ_ j=>0<j) (·%·)) (o3 (iC YA (·*·)) (o3 JG (o3 JG (o3 (iC (λ_ j=>0<j) (·%·)) (v3 0) (c3 (.int 2147483629))) (o3 (iC YA (·*·)) (o3 (iC YA (·*·)) (v3 1) (v3 1)) (c3 (.int 7919)))) (c3 (.int 11))) (c3 (.int 48271))) (c3 (.int 2147483647))) (gn3 2)) (zu (o3 (iC (λ_ j=>0<j) (·%·)) (o3 (iC YA (·*·)) (v3 2) (v3 2)) (c3 (.int 1999999973)))))
def ZV:TS3:=(za (zT (if3 (tb3 (o3 (iB λi j=>decide (i<j)) (v3 1) (cb3 V8 (qc (v3 0) qr)))) (o3 ix3 (v3 0) (v3 1)) (c3 (.int 0))) (gn3 2)) (za (zT (if3 (tb3 (o3 (iB λi j=>decide (j<=i)) (cb3 qgU (qc (v3 2) qr)) (o3 (iC ED (λi j=>i ^ j.toNat)) (c3 (.int 10)) (c3 (.int 18))))) (cb3 qgU (qc (v3 2) qr)) (c3 (.int 0))) (gn3 3)) (zu (NM (qc (v3 3) (qc (o3 JG (v3 2) (o3 (iC YA (·*·)) (c3 (.int 1000003)) (v3 1))) (qc (c3 (.int 0)) qr)))))))
def ZQ (S_law_mix:Sp3):TS3:=(za (zT (o3 JG (o3 ix3 (v3 0) (c3 (.int 2))) (c3 (.int 1))) (D9 (v3 0) (c3 (.int 2)))) (za (Q2 (tb3 (o3 (iB λi j=>decide (j<i)) (o3 ix3 (v3 0) (c3 (.int 0))) (c3 (.int 0)))) (za (zT (o3 (iC (λ_ j=>0<j) (·%·)) (o3 ix3 (v3 0) (c3 (.int 0))) (v3 1)) (gn3 2)) (za (zT (o3 (iC T3 (·/·)) (o3 ix3 (v3 0) (c3 (.int 0))) (v3 1)) (D9 (v3 0) (c3 (.int 0)))) (zu (v3 2)))) zc) (zu (o3 (iC (λ_ j=>0<j) (·%·)) (o3 (iC T3 (·/·)) (cb3 S_law_mix (qc (cb3 S_law_mix (qc (o3 ix3 (v3 0) (c3 (.int 1))) (qc (o3 ix3 (v3 0) (c3 (.int 2))) qr))) (qc (o3 JG (o3 ix3 (v3 0) (c3 (.int 2))) (c3 (.int 64))) qr))) (c3 (.int 64))) (v3 1)))))
def VH (S_law_same:Sp3):TS3:=(za (Q2 (tb3 (V3 (λt=>jD t "list" || jD t "tuple") (v3 1))) (za (Q2 (or3 (tb3 (o3 (jE true) (V3 (λt=>jD t "list") (v3 0)) (V3 (λt=>jD t "list") (v3 1)))) (tb3 (o3 (jE true) (V3 (λt=>jD t "tuple") (v3 0)) (V3 (λt=>jD t "tuple") (v3 1))))) (zu (c3 (.bl false))) zc) (zu (ZJ (o3 (jE false) (cb3 V8 (qc (v3 0) qr)) (cb3 V8 (qc (v3 1) qr))) (cb3 NJ (qc (lc3 (qaC (qc (v3 0) (qc (v3 1) qr))) (Z8 2 (qI (gn3 0) (qI (gn3 1) JB))) tt3 (cb3 S_law_same (qc (v3 0) (qc (v3 1) qr))) [none,none]) qr))))) zc) (za (Q2 (or3 (tb3 (o3 (qiZ false) (v3 1) (c3 .non))) (tb3 (V3 (λt=>jD t "str" || jD t "bool") (v3 1)))) (zu (ZJ (o3 (jE false) (v3 0) (v3 1)) (ZJ (o3 (jE false) (V3 (λt=>jD t "bool") (v3 0)) (V3 (λt=>jD t "bool") (v3 1))) (o3 (jE false) (o3 (qiZ false) (v3 0) (c3 .non)) (o3 (qiZ false) (v3 1) (c3 .non)))))) zc) (zu (ZJ (V3 (λt=>jD t "int") (v3 0)) (ZJ (K5 (V3 (λt=>jD t "bool") (v3 0))) (o3 (jE false) (v3 0) (v3 1)))))))
inductive Dl where
 |skew (r c b x y:Int)
 |rests (r c b p:Int)
 |bits (h l:Nat) (ms:List Int)
 |table (b:Int) (cells:List (List Int))
 |joined (d e:Dl)
def Dl.R:Dl->Int
 |.skew r _ _ _ _=>r
 |.rests r _ _ _=>r
 |.bits h _ _=>2 ^ h
 |.table _ cells=>cells.length
 |.joined d e=>d.R*e.R
def Dl.C:Dl->Int
 |.skew _ c _ _ _=>c
 |.rests _ c _ _=>c
 |.bits _ l _=>2 ^ l
 |.table _ cells=>((cells[0]?).getD []).length
 |.joined d e=>d.C*e.C
def Dl.B:Dl->Int
 |.skew _ _ b _ _=>b
 |.rests _ _ b _=>b
 |.bits _ _ ms=>2 ^ ms.length
 |.table b _=>b
 |.joined d e=>d.B*e.B
def pop:Nat->Nat->Nat
 |0,_=>0
 |k+1,n=>n%2+pop k (n/2)
def V7 (n m:Int):Bool:=pop 64 (Builtin.bitAnd n m).toNat%2==1
def qw (n:Int):Nat->List Int->Int
 |_,[]=>0
 |t,m::ms=>(if V7 n m then 2 ^ t else 0)+qw n (t+1) ms
def ql (ms:List Int) (n:Int):Int:=qw n 0 ms
def Dl.Ok:Dl->Prop
 |.skew r c b x y=>1<=r/\r<=60/\1<=c/\c<=60/\1<=b/\b<=1000/\0<=x/\x<=1000/\0<=y/\y<=1000
 |.rests r c b p=>1<=r/\r<=60/\1<=c/\c<=60/\1<=b/\b<=1000/\1<=p/\p<=100000/\Int.gcd b p=1/\r*c<=b*p
 |.bits h l ms=>h<=4/\l<=4/\ms.length<=5/\∀ m∈ms,0<=m/\m<2 ^ (h+l)
 |.table b cells=>1<=b/\b<=1000/\1<=cells.length/\cells.length<=60/\∃ c,1<=c/\c<=60/\∀ row∈cells,row.length=c/\∀ x∈row,0<=x/\x<b
 |.joined d e=>d.Ok/\e.Ok/\d.R*e.R<=4096/\d.C*e.C<=4096/\d.B*e.B<=4096
def Dl.dep:Dl->Nat
 |.joined d e=>max d.dep e.dep+1
 |_=>0
def p2 (n:Nat):((2:Int) ^ n)=((2 ^ n:Nat):Int):=by simp
def MU (n:Nat):(1:Int)<=2 ^ n:=by
 rw [p2];have:=Nat.one_le_two_pow (n:=n);omega
def SK {n k:Nat} (h:n<=k):(2:Int) ^ n<=2 ^ k:=by
 rw [p2,p2];have:=Nat.pow_le_pow_right (n:=2) (by omega) h;omega
structure Lims (d:Dl):Prop where
 r1:1<=d.R
 r2:d.R<=4096
 c1:1<=d.C
 c2:d.C<=4096
 b1:1<=d.B
 b2:d.B<=4096
def YT {a b:Int} (h1:1<=a) (h2:1<=b):1<=a*b:=by
 have:=Int.mul_le_mul (a:=1) (b:=1) (c:=a) (d:=b) h1 h2 (by omega) (by omega);omega
def Dl.lims:∀ {d:Dl},d.Ok->Lims d
 |.skew r c b x y,⟨h1,h2,h3,h4,h5,h6,_⟩=>⟨h1,by simp [Dl.R];omega,h3,by simp [Dl.C];omega,h5,by simp [Dl.B];omega⟩
 |.rests r c b x,⟨h1,h2,h3,h4,h5,h6,_⟩=>⟨h1,by simp [Dl.R];omega,h3,by simp [Dl.C];omega,h5,by simp [Dl.B];omega⟩
 |.bits h l ms,⟨h1,h2,h3,_⟩=>by
  have e1:=SK h1;have e2:=SK h2;have e3:=SK h3;refine ⟨MU _,?_,MU _,?_,MU _,?_⟩<;>simp [Dl.R,Dl.C,Dl.B]<;>omega
 |.table b cells,⟨h1,h2,h3,h4,c,h5,h6,h7⟩=>by
  have e0:cells[0]?=some cells[0]:=getElem?_eq_getElem (by omega);have e1:=(h7 cells[0] (List.getElem_mem _)).1;have e2:(Dl.table b cells).C=c:=by simp [Dl.C,e0,e1]
  exact ⟨by simp [Dl.R];omega,by simp [Dl.R];omega,by rw [e2];omega,by rw [e2];omega,h1,by simp [Dl.B];omega⟩
 |.joined d e,⟨h1,h2,h3,h4,h5⟩=>by
  have a:=Dl.lims h1;have b:=Dl.lims h2;exact ⟨YT a.r1 b.r1,h3,YT a.c1 b.c1,h4,YT a.b1 b.b1,h5⟩
abbrev qiN (q:Q3):Ends3:={ nx:=λ_ G'=>q .non G',rt:=q }
def XH {A B:TS3} {d:Ends3} {τ:St3} {G:Gp} (h:∀ nx,nx=B d->A { d with nx:=nx } τ G):za A B d τ G:=h _ rfl
def V0:∀ (k n:Nat),n<2 ^ k->pop (k+1) n=pop k n
 |0,n,h=>by simp at h;subst h;simp [pop]
 |k+1,n,h=>by
  rw [pop,V0 k (n/2) (by rw [Nat.pow_succ] at h;omega)];rfl
def jN (n:Int):Nat->List Int->List Int
 |_,[]=>[]
 |t,m::ms=>(if V7 n m then [2 ^ t] else [])++jN n (t+1) ms
def YX (n:Int):∀ (t:Nat) (ms:List Int),(jN n t ms).sum=qw n t ms
 |_,[]=>rfl
 |t,m::ms=>by
  simp only [jN,qw,List.sum_append,YX n (t+1) ms];split<;>simp
def VG (n:Int):∀ (t:Nat) (ms:List Int),(jN n t ms).length<=ms.length
 |_,[]=>by simp [jN]
 |t,m::ms=>by
  have:=VG n (t+1) ms;simp only [jN,length_append,length_cons];split<;>simp<;>omega
def YZ (n:Int):∀ (t:Nat) (ms:List Int) (x:Int),x∈jN n t ms->∃ k,k<t+ms.length/\x=2 ^ k
 |_,[],_,h=>by simp [jN] at h
 |t,m::ms,x,h=>by
  simp only [jN,List.mem_append] at h;rcases h with h|h
  ·split at h
   ·simp at h;exact ⟨t,by simp,h⟩
   ·simp at h
  ·obtain ⟨k,h1,h2⟩:=YZ n (t+1) ms x h;exact ⟨k,by simp;omega,h2⟩
def Lf (G:Gp) (a:Addr) (n:Int):Prop:=∃ o c m,G a=some (.lst [.int o,.int c,.int m])/\0<=o/\0<=m/\m<=n
def Ext (a:Addr) (G G':Gp):Prop:=∀ b o,b≠a->G b=some o->G' b=some o
def Lf.ne {G:Gp} {a p:Addr} {n:Int} (h:Lf G a n) (hp:G p=none):p≠a:=by
 rintro rfl;obtain ⟨o,c,m,e,_⟩:=h;rw [hp] at e;cases e
def Lf.new {G:Gp} {a p:Addr} {n:Int} {ob:O} (h:Lf G a n) (hp:p≠a):Lf (gu G p ob) a n:=by
 obtain ⟨o,c,m,e,r⟩:=h;exact ⟨o,c,m,by rw [ZX (Ne.symm hp)];exact e,r⟩
def Lf.ex {G G':Gp} {a:Addr} {n:Int} (h:Lf G a n) (e:Ex G G'):Lf G' a n:=by
 obtain ⟨o,c,m,e1,h1⟩:=h;exact ⟨o,c,m,e _ _ e1,h1⟩
def Ext.refl {a:Addr} {G:Gp}:Ext a G G:=λ_ _ _ e=>e
def Ext.trans {a:Addr} {G G1 G2:Gp} (x:Ext a G G1) (y:Ext a G1 G2):Ext a G G2:=λb o hb e=>y b o hb (x b o hb e)
def V9 {a:Addr} {G G':Gp} (h:Ex G G'):Ext a G G':=λb o _ e=>h b o e
def ER:Sp3:=λts G q=>∃ c k,ts=[.int c,.int k]/\0<=k/\k<4294967296/\∀ m,0<=m->m<1999999973->q (.int m) G
def QR:Sp3:=λts G q=>∃ (a:Addr) (k:Int) (ns:List Int),ts=[.ref a,.int k]/\G a=some (.frz (ns.map T.int))/\ns.length<=63/\0<=k/\k<=63/\∀ p o c,G p=none->0<=o->q (.ref p) (gu G p (.lst [.int o,.int c,.int 0]))
def QW:Sp3:=λts G q=>∃ a n many,ts=[.ref a,.int many]/\1<=many/\many<1073741824/\Lf G a n/\n<1073741824/\∀ d G',0<=d->d<many->Lf G' a (n+1)->Ext a G G'->q (.int d) G'
def SN:∀ ts G q,ER ts G q->ts.length=2/\J3 (qiN q) (qB ["_law_cell","_law_k","_law_m"] ts) G:=by
 rintro ts G q ⟨c,k,rfl,h1,h2,h⟩;refine ⟨rfl,?_⟩;simp only [J3,za,zT,o3,v3,qB,map_cons,List.map_nil,length_cons,length_nil,Nat.zero_add,Nat.reduceAdd,Nat.reduceSub,List.replicate_one,cons_append,List.nil_append,Nat.zero_lt_succ,getElem?_pos,getElem_cons_zero,c3,iC,Int.reduceLT,Nat.reduceLT,getElem_cons_succ,JG,gn3,zu,set_cons_succ,set_cons_zero,Nat.lt_add_one,true_and];exact ⟨.inl ⟨by omega,by omega⟩,cm (by omega) (by omega),cm (by omega) (by omega),.inl ⟨by omega,by omega⟩,h _ (Int.emod_nonneg _ (by omega)) (Int.emod_lt_of_pos _ (by omega))⟩
def cp:ED 10 18:=⟨by decide,by decide,by decide⟩
def CI:∀ ts G q,QR ts G q->ts.length=2/\ZV (qiN q) (qB ["_law_script","_law_k","_law_cell","_law_own"] ts) G:=by
 rintro ts G q ⟨a,k,ns,rfl,hG,hl,h1,h2,h⟩;refine ⟨rfl,?_⟩;simp only [ZV,za,zT,if3,tb3,o3,v3,qB,map_cons,List.map_nil,length_cons,length_nil,Nat.zero_add,Nat.reduceAdd,Nat.reduceSub,List.reduceReplicate,cons_append,List.nil_append,Nat.reduceLT,getElem?_pos,getElem_cons_succ,getElem_cons_zero,cb3,qc,Nat.zero_lt_succ,qr,V8,getL,hG,iB,length_map,decide_eq_true_eq,gn3,set_cons_succ,set_cons_zero,qgU,c3,iC,Int.reduceToNat,Int.reducePow,zu,NM,Nat.lt_add_one,JG,ne_eq,sizeLine_eq,Nat.reduceLeDiff,true_and,gu,ixR,atI,ixN,getElem?_map,Int.lt_irrefl,↓reduceIte,Int.reduceLE,decide_false,Bool.false_eq_true,Int.zero_add];have ck:YA 1000003 k:=cm (by omega) (by omega);by_cases hk:k<ns.length
 ·have hk':k.toNat<ns.length:=by omega
  simp [hk,h1,hk',cp,ck];split
  ·split
   ·exact λp hp=>h p (-ns[k.toNat]) _ hp (by omega)
   ·exact λp hp=>h p 0 _ hp (by omega)
  ·split
   ·exact λp hp=>h p ns[k.toNat] _ hp (by omega)
   ·exact λp hp=>h p 0 _ hp (by omega)
 ·simp [hk,cp,ck];exact λp hp=>h p 0 _ hp (by omega)
def CL:∀ ts G q,QW ts G q->ts.length=2/\ZQ ER (qiN q) (qB ["_law_left_here","_law_many","_law_digit"] ts) G:=by
 rintro ts G q ⟨a,n,many,rfl,m1,m2,⟨o,c,m,hG,ho,hm,hn⟩,h3,h⟩;refine ⟨rfl,?_⟩;unfold ZQ;refine XH λnx1 q1=>?_;simp only [zT,o3,v3,qB,map_cons,List.map_nil,length_cons,length_nil,Nat.zero_add,Nat.reduceAdd,Nat.reduceSub,List.replicate_one,cons_append,List.nil_append,Nat.zero_lt_succ,getElem?_pos,getElem_cons_zero,c3,JG,ne_eq,sizeLine_eq,D9,qcU,ixN,Int.zero_le_ofNat,↓reduceIte,Int.reduceToNat,tb3,iB,decide_eq_true_eq,Nat.reduceLT,getElem_cons_succ,iC,gn3,set_cons_succ,set_cons_zero,Std.le_refl,Int.natCast_pos,Int.toNat_zero,zu,Nat.lt_add_one,ixR,getL,atI,zc,cb3,qc,qr,Int.toNat_one,List.length_set,hG,Int.cast_ofNat_Int,Int.reduceLT,Option.bind_some,zl];rw [q1];clear q1;refine XH λnx2 q2=>?_;simp only [Q2,zT,o3,v3,qB,map_cons,List.map_nil,length_cons,length_nil,Nat.zero_add,Nat.reduceAdd,Nat.reduceSub,List.replicate_one,cons_append,List.nil_append,Nat.zero_lt_succ,getElem?_pos,getElem_cons_zero,c3,JG,ne_eq,sizeLine_eq,D9,qcU,ixN,Int.zero_le_ofNat,↓reduceIte,Int.reduceToNat,tb3,iB,decide_eq_true_eq,Nat.reduceLT,getElem_cons_succ,iC,gn3,set_cons_succ,set_cons_zero,Std.le_refl,Int.natCast_pos,Int.toNat_zero,zu,Nat.lt_add_one,ixR,getL,atI,zc,cb3,qc,qr,Int.toNat_one,List.length_set,hG,Int.cast_ofNat_Int,Int.reduceLT,Option.bind_some,zl];split
 ·simp only [za,zT,o3,v3,length_cons,length_nil,Nat.zero_add,Nat.reduceAdd,Nat.zero_lt_succ,getElem?_pos,getElem_cons_zero,c3,Nat.reduceLT,getElem_cons_succ,iC,gn3,set_cons_succ,set_cons_zero,D9,qcU,ixN,Std.le_refl,↓reduceIte,Int.natCast_pos,Int.toNat_zero,zu,Nat.lt_add_one,ixR,getL,atI,zl,Int.cast_ofNat_Int,Int.reduceLT,Option.bind_some];refine ⟨by omega,⟨by omega,m2⟩,h _ _ (Int.emod_nonneg _ (by omega)) (Int.emod_lt_of_pos _ (by omega)) ⟨o/many,c,m+1,zl,Int.ediv_nonneg ho (by omega),by omega,by omega⟩ λb ob hb e=>?_⟩;rw [ZX hb,ZX hb];exact e
 ·rw [q2];clear q2;simp only [zT,o3,v3,qB,map_cons,List.map_nil,length_cons,length_nil,Nat.zero_add,Nat.reduceAdd,Nat.reduceSub,List.replicate_one,cons_append,List.nil_append,Nat.zero_lt_succ,getElem?_pos,getElem_cons_zero,c3,JG,ne_eq,sizeLine_eq,D9,qcU,ixN,Int.zero_le_ofNat,↓reduceIte,Int.reduceToNat,tb3,iB,decide_eq_true_eq,Nat.reduceLT,getElem_cons_succ,iC,gn3,set_cons_succ,set_cons_zero,Std.le_refl,Int.natCast_pos,Int.toNat_zero,zu,Nat.lt_add_one,ixR,getL,atI,zc,cb3,qc,qr,Int.toNat_one,List.length_set,hG,Int.cast_ofNat_Int,Int.reduceLT,Option.bind_some,zl];refine ⟨c,m+1,rfl,by omega,by omega,λu u1 u2=>?_⟩;simp only [zT,o3,v3,qB,map_cons,List.map_nil,length_cons,length_nil,Nat.zero_add,Nat.reduceAdd,Nat.reduceSub,List.replicate_one,cons_append,List.nil_append,Nat.zero_lt_succ,getElem?_pos,getElem_cons_zero,c3,JG,ne_eq,sizeLine_eq,D9,qcU,ixN,Int.zero_le_ofNat,↓reduceIte,Int.reduceToNat,tb3,iB,decide_eq_true_eq,Nat.reduceLT,getElem_cons_succ,iC,gn3,set_cons_succ,set_cons_zero,Std.le_refl,Int.natCast_pos,Int.toNat_zero,zu,Nat.lt_add_one,ixR,getL,atI,zc,cb3,qc,qr,Int.toNat_one,List.length_set,hG,Int.cast_ofNat_Int,Int.reduceLT,Option.bind_some,zl];refine ⟨u,m+1+64,rfl,by omega,by omega,λv v1 v2=>?_⟩;refine ⟨⟨by omega,by omega⟩,by omega,h _ _ (Int.emod_nonneg _ (by omega)) (Int.emod_lt_of_pos _ (by omega)) ⟨o,c,m+1,zl,ho,by omega,by omega⟩ λb ob hb e=>?_⟩;rw [ZX hb];exact e
def JD:Nat->PyData->Prop
 |_,.none=>True
 |_,.bool _=>True
 |_,.int _=>True
 |_,.str _=>True
 |n+1,.list ds=>ds.length<=1000000/\∀ d∈ds,JD n d
 |n+1,.tuple ds=>ds.length<=1000000/\∀ d∈ds,JD n d
 |_,_=>False
def zP:Nat->Sp3
 |0=>LD
 |n+1=>λts G q=>∃ (x y:T) (d:PyData),ts=[x,y]/\Dp G x d/\Dp G y d/\JD n d/\∀ G',Ex G G'->q (.bl true) G'
def C8 {G G':Gp} (e:Ex G G') {x:T} {us:List T} (h:jj G x=some us):jj G' x=some us:=by
 cases x<;>simp [jj] at h ⊢
 ·exact h
 ·exact e.getL h
def NV (n:Nat):qbv (List.replicate n (.bl true))=some true:=by
 induction n with
 |zero=>rfl
 |succ n ih=>rw [List.replicate_succ];simp [qbv,ih]
def RF {G:Gp} {n:Nat} {x y:T} {us vs:List T} {ds:List PyData} {q:Q3} (hx:jj G x=some us) (hy:jj G y=some vs) (du:Dps G us ds) (dv:Dps G vs ds) (hl:us.length<=1000000) (hd:∀ d∈ds,∃ m,n=m+1/\JD m d) (h:∀ G',Ex G G'->q (.bl true) G') :
  KO (λG=>jj G x=some us/\jj G y=some vs) (Z8 2 (qI (gn3 0) (qI (gn3 1) JB))) tt3 (cb3 (zP n) (qc (v3 0) (qc (v3 1) qr))) (λx G1=>NJ [x] G1 q) (NN us vs) [] [none,none] G:=by
 have e1:=du.length;have e2:=dv.length;refine qay _ (λi ys τ G'=>Ex G G'/\ys=List.replicate i (.bl true)/\∃ x0 x1,τ=[x0,x1]) ⟨Ex.refl,rfl,none,none,rfl⟩ (λi ys τ G' _ hp=>⟨C8 hp.1 hx,C8 hp.1 hy⟩) ?_ ?_
 ·rintro i z ys τ G' R hz ⟨E,rfl,x0,x1,rfl⟩ hR;obtain ⟨a,b,ha,hb,rfl⟩:=WL hz;obtain ⟨d,hd1,da⟩:=du.get ha;obtain ⟨d',hd2,db⟩:=dv.get hb;rw [hd1] at hd2;cases hd2;obtain ⟨m,rfl,dl⟩:=hd d (mem_of_getElem? hd1);have hi:=(List.getElem?_eq_some_iff.mp ha).1;simp only [Z8,length_cons,length_nil,Nat.zero_add,Nat.reduceAdd,qI,gn3,JB,tt3,↓reduceIte,cb3,qc,v3,set_cons_zero,set_cons_succ,Nat.zero_lt_succ,getElem?_pos,getElem_cons_zero,Nat.lt_add_one,getElem_cons_succ,qr,List.length_replicate,sizeLine_eq,true_and];refine ⟨a,b,d,rfl,da.up E,db.up E,dl,λG2 E2=>⟨by omega,hR _ _ _ ⟨E.trans E2,?_,_,_,rfl⟩⟩⟩;rw [List.replicate_succ']
 ·rintro ys τ G' ⟨E,rfl,x0,x1,rfl⟩ p hp;simp [NJ,getL,zl,NV];exact h _ (E.trans (QY hp))
def qaG {n:Nat} {ds:List PyData} (h:JD n (.list ds)):ds.length<=1000000/\∀ d∈ds,∃ m,n=m+1/\JD m d:=by
 cases n with
 |zero=>exact h.elim
 |succ n=>exact ⟨h.1,λd hd=>⟨n,rfl,h.2 d hd⟩⟩
def LU {n:Nat} {ds:List PyData} (h:JD n (.tuple ds)):ds.length<=1000000/\∀ d∈ds,∃ m,n=m+1/\JD m d:=by
 cases n with
 |zero=>exact h.elim
 |succ n=>exact ⟨h.1,λd hd=>⟨n,rfl,h.2 d hd⟩⟩
def qfy {x:T} {G:Gp} {q:Q3} (h:VU x x=some true) (k:q (.bl true) G):jE false x x G q:=by
 unfold jE;rw [h];exact k
def KD {ta tb:TE3} {e:Ends3} {τ:St3} {G:Gp} {x:T} (h:∀ q',q' x G->ta τ G q') (k:x=.bl true) (h2:tb τ G e.rt):zu (ZJ ta tb) e τ G:=h _ (by subst k;exact h2)
def qlc {ta tb:TE3} {τ:St3} {G:Gp} {x:T} (ha:∀ q',q' x G->ta τ G q') (hb:∀ q',q' x G->tb τ G q') (h:VU x x=some true):∀ q',q' (.bl true) G->o3 (jE false) ta tb τ G q':=λq' k=>ha _ (hb _ (qfy h k))
def S7 {c:TT3} {a b:TS3} {e:Ends3} {τ:St3} {G:Gp} (h:∀ A,A=a->Q2 c A b e τ G):Q2 c a b e τ G:=h _ rfl
def QG (n:Nat):∀ ts G q,zP (n+1) ts G q->ts.length=2/\VH (zP n) (qiN q) (qB ["_law_found","_law_due"] ts) G:=by
 rintro ts G q ⟨x,y,d,rfl,hx,hy,hd,h⟩;refine ⟨rfl,?_⟩;have h0:=h G Ex.refl;cases hx with
 |non=>cases hy;exact h0
 |bl b=>cases hy;cases b<;>exact h0
 |int i=>cases hy;exact qfy (x:=.int i) (by simp [VU]) h0
 |str s=>
  cases hy;refine XH λnx1 q1=>?_;refine S7 λA1 hA=>?_;clear hA;show nx1 _ _;rw [q1];clear q1;refine XH λnx2 q2=>?_;refine S7 λA2 hA=>?_;show A2 _ _ _;rw [hA];exact KD (qlc (x:=.str s) (λ_ k=>k) (λ_ k=>k) (by simp [VU])) rfl h0
 |tup dx=>
  cases hy with
  |tup dy=>
   rename_i xs ds ys;have e1:=dx.length;have e2:=dy.length;obtain ⟨l1,l2⟩:=LU hd;have key:=RF (n:=n) (x:=.tup xs) (y:=.tup ys) (us:=xs) (vs:=ys) (q:=q) rfl rfl dx dy (by omega) l2 h;have e3:xs.length=ys.length:=by omega
   refine XH λnx1 q1=>?_;clear q1;refine S7 λA1 hA=>?_;show A1 _ _ _;rw [hA];clear hA;refine XH λnx2 q2=>?_;refine S7 λA2 hA=>?_;show nx2 _ _;rw [q2];clear q2;exact KD (qlc (x:=.int ys.length) (λ_ k=>by rw [← e3] at k;exact k) (λ_ k=>k) (by simp [VU])) rfl key
 |lst gx dx=>
  cases hy with
  |lst gy dy=>
   rename_i p1 xs ds p2 ys;have e1:=dx.length;have e2:=dy.length;obtain ⟨l1,l2⟩:=qaG hd;have key:=RF (n:=n) (x:=.ref p1) (y:=.ref p2) (us:=xs) (vs:=ys) (q:=q) gx gy dx dy (by omega) l2 h;have e3:xs.length=ys.length:=by omega
   refine XH λnx1 q1=>?_;clear q1;refine S7 λA1 hA=>?_;simp only [Q2,tb3,V3,v3,qB,map_cons,List.map_nil,length_cons,length_nil,Nat.zero_add,Nat.reduceAdd,Nat.sub_self,List.replicate_zero,List.append_nil,Nat.lt_add_one,getElem?_pos,getElem_cons_succ,getElem_cons_zero,tyT,gx,gy,Option.isSome_some,↓reduceIte,jD,BEq.rfl,String.reduceBEq,Bool.and_self,Bool.or_false,Bool.or_self,or3,o3,Nat.zero_lt_succ,jE,VU,decide_true,Bool.not_true,Bool.false_eq_true,zc];rw [hA];clear hA;refine XH λnx2 q2=>?_;refine S7 λA2 hA=>?_;clear hA;simp only [Q2,tb3,V3,v3,qB,map_cons,List.map_nil,length_cons,length_nil,Nat.zero_add,Nat.reduceAdd,Nat.sub_self,List.replicate_zero,List.append_nil,Nat.lt_add_one,getElem?_pos,getElem_cons_succ,getElem_cons_zero,tyT,gx,gy,Option.isSome_some,↓reduceIte,jD,BEq.rfl,String.reduceBEq,Bool.and_self,Bool.or_false,Bool.or_self,or3,o3,Nat.zero_lt_succ,jE,VU,decide_true,Bool.not_true,Bool.false_eq_true,zc];rw [q2];clear q2;simp only [jj,NJ,qB,map_cons,List.map_nil,length_cons,length_nil,Nat.zero_add,Nat.reduceAdd,Nat.sub_self,List.replicate_zero,List.append_nil,Nat.lt_add_one,getElem?_pos,getElem_cons_succ,getElem_cons_zero,gy,↓reduceIte,o3,v3,Nat.zero_lt_succ,gx,jE,VU,decide_true,Bool.false_eq_true,zu,ZJ,cb3,qc,qr,V8,e3,lc3,qaC,cap] at key ⊢;exact key
def _root_.L3.Dps.append {G:Gp}:∀ {xs ys:List T} {ds es:List PyData},Dps G xs ds->Dps G ys es->Dps G (xs++ys) (ds++es)
 |_,_,_,_,.nil,b=>b
 |_,_,_,_,.cons a t,b=>.cons a (L3.Dps.append t b)
def _root_.L3.Dps.take {G:Gp}:∀ {xs:List T} {ds:List PyData} (i:Nat),Dps G xs ds->Dps G (xs.take i) (ds.take i)
 |_,_,0,_=>.nil
 |_,_,_+1,.nil=>.nil
 |_,_,i+1,.cons a t=>.cons a (L3.Dps.take i t)
def _root_.L3.Dps.drop {G:Gp}:∀ {xs:List T} {ds:List PyData} (i:Nat),Dps G xs ds->Dps G (xs.drop i) (ds.drop i)
 |_,_,0,h=>h
 |_,_,_+1,.nil=>.nil
 |_,_,i+1,.cons a t=>L3.Dps.drop i t
def al (cs:List (Int×Int)):List Int:=cs.map (·.2)
end Bk
namespace Pu
open PySem L2 L3
def cif {α:Type} (P:Prop) (a b:α):α:=@ite α P (Classical.propDecidable P) a b
def jU {α:Type} {P:Prop} {a b:α} (h:P):cif P a b=a:=@if_pos P (Classical.propDecidable P) h α a b
def DT {α:Type} {P:Prop} {a b:α} (h:¬ P):cif P a b=b:=@if_neg P (Classical.propDecidable P) h α a b
structure Tru (b:Bool):Prop where
 h:b=true
mutual
inductive Dq (G:Gp):T->PyData->Prop
 |non:Dq G .non .none
 |bl (b:Bool):Dq G (.bl b) (.bool b)
 |int (i:Int):Dq G (.int i) (.int i)
 |str (x:Str):Dq G (.str x) (.str x)
 |tup {xs:List T} {ds:List PyData}:Dqs G xs ds->Dq G (.tup xs) (.tuple ds)
 |lst {p:Addr} {xs:List T} {ds:List PyData}:G p=some (.lst xs)->Dqs G xs ds->Dq G (.ref p) (.list ds)
inductive Dqs (G:Gp):List T->List PyData->Prop
 |nil:Dqs G [] []
 |cons {x:T} {d:PyData} {xs:List T} {ds:List PyData}:Dq G x d->Dqs G xs ds->Dqs G (x::xs) (d::ds)
end
mutual
def Dq.up {G G':Gp} (e:Ex G G'):∀ {x:T} {d:PyData},Dq G x d->Dq G' x d
 |_,_,.non=>.non
 |_,_,.bl b=>.bl b
 |_,_,.int i=>.int i
 |_,_,.str x=>.str x
 |_,_,.tup h=>.tup (Dqs.up e h)
 |_,_,.lst h1 h2=>.lst (e _ _ h1) (Dqs.up e h2)
def Dqs.up {G G':Gp} (e:Ex G G'):∀ {x:List T} {d:List PyData},Dqs G x d->Dqs G' x d
 |_,_,.nil=>.nil
 |_,_,.cons a b=>.cons (Dq.up e a) (Dqs.up e b)
end
def zL {G:Gp} {p:Addr} {xs:List T} (h:G p=some (.lst xs)):getL G p=some xs:=by unfold getL;rw [h]
mutual
def Dq.dp {G:Gp}:∀ {x:T} {d:PyData},Dq G x d->Dp G x d
 |_,_,.non=>.non
 |_,_,.bl b=>.bl b
 |_,_,.int i=>.int i
 |_,_,.str x=>.str x
 |_,_,.tup h=>.tup (Dqs.dp h)
 |_,_,.lst h1 h2=>.lst (zL h1) (Dqs.dp h2)
def Dqs.dp {G:Gp}:∀ {x:List T} {d:List PyData},Dqs G x d->Dps G x d
 |_,_,.nil=>.nil
 |_,_,.cons a b=>.cons (Dq.dp a) (Dqs.dp b)
end
def Dqs.length {G:Gp}:∀ {xs:List T} {ds:List PyData},Dqs G xs ds->xs.length=ds.length
 |_,_,.nil=>rfl
 |_,_,.cons _ b=>by simp [Dqs.length b]
def Dqs.get {G:Gp}:∀ {xs:List T} {ds:List PyData} {i:Nat} {d:PyData},Dqs G xs ds->ds[i]?=some d->∃ x,xs[i]?=some x/\Dq G x d
 |_,_,_,_,.nil,e=>by simp at e
 |_,_,0,_,.cons r _,e=>by simp at e;subst e;exact ⟨_,rfl,r⟩
 |_,_,i+1,d,.cons _ t,e=>by
  obtain ⟨u,h1,h2⟩:=Dqs.get (i:=i) (d:=d) t (by simpa using e);exact ⟨u,by simpa using h1,h2⟩
def Dqs.append {G:Gp}:∀ {xs:List T} {ds:List PyData} {ys:List T} {es:List PyData},Dqs G xs ds->Dqs G ys es->Dqs G (xs++ys) (ds++es)
 |_,_,_,_,.nil,h=>h
 |_,_,_,_,.cons a b,h=>.cons a (Dqs.append b h)
def Dqs.drop {G:Gp}:∀ {xs:List T} {ds:List PyData} (n:Nat),Dqs G xs ds->Dqs G (xs.drop n) (ds.drop n)
 |_,_,0,h=>h
 |_,_,_+1,.nil=>.nil
 |_,_,n+1,.cons _ b=>Dqs.drop n b
def Dqs.take {G:Gp}:∀ {xs:List T} {ds:List PyData} (n:Nat),Dqs G xs ds->Dqs G (xs.take n) (ds.take n)
 |_,_,0,h=>by simp;exact .nil
 |_,_,_+1,.nil=>.nil
 |_,_,n+1,.cons a b=>.cons a (Dqs.take n b)
def Dqs.ints {G:Gp}:∀ {ns:List Int} {xs:List T},Dqs G xs (ns.map PyData.int)->xs=ns.map T.int
 |[],_,.nil=>rfl
 |n::ns,_,.cons a b=>by cases a;rw [Dqs.ints b];rfl
def Dqs.ofInts {G:Gp}:∀ (ns:List Int),Dqs G (ns.map T.int) (ns.map PyData.int)
 |[]=>.nil
 |n::r=>.cons (.int n) (Dqs.ofInts r)
def rs (D:Addr->Prop) (G:Gp):Gp:=λb=>cif (D b) none (G b)
def qF {D:Addr->Prop} {G:Gp} {b:Addr} {o:O} (h:rs D G b=some o):¬ D b/\G b=some o:=by
 unfold rs cif at h;split at h
 ·cases h
 ·rename_i n;exact ⟨n,h⟩
def JH {D:Addr->Prop} {G:Gp} {b:Addr} (n:¬ D b):rs D G b=G b:=by unfold rs;exact DT n
def DN {D:Addr->Prop} {G:Gp}:Ex (rs D G) G:=λb o h=>(qF h).2
def ZW {D:Addr->Prop} {G G':Gp} (e:Ex G G'):Ex (rs D G) (rs D G'):=λb o h=>by
 obtain ⟨n,h⟩:=qF h;rw [JH n];exact e _ _ h
def jm {D D':Addr->Prop} {G:Gp} (h:∀ b,D' b->D b):Ex (rs D G) (rs D' G):=λb o e=>by
 obtain ⟨n,e⟩:=qF e;rw [JH λz=>n (h b z)];exact e
def Dom (D:Addr->Prop) (G:Gp):Prop:=∀ b,D b->G b≠none
def Dom.up {D:Addr->Prop} {G G':Gp} (h:Dom D G) (e:Ex G G'):Dom D G':=λb d z=>by
 cases g:G b with
 |none=>exact h b d g
 |some o=>rw [e _ _ g] at z;cases z
def qgg {D:Addr->Prop} {G:Gp} {p:Addr} {o:O} (hd:Dom D G) (hp:G p=none):rs D (gu G p o) p=some o:=by
 rw [JH λz=>hd p z hp,zl]
inductive Sl where
 |un|sh (d:PyData)|ow (ds:List PyData)
abbrev Rho:=List Sl
def Sl.d:Sl->Option PyData
 |.un=>none|.sh d=>some d|.ow ds=>some (.list ds)
def vw (ρ:Rho) (i:Nat):Option PyData:=(ρ[i]?).bind Sl.d
def EE (fv:List Nat) (D:Addr->Prop) (G:Gp) (τ:St3) (ρ:Rho):Prop:=∀ i∈fv,∀ d,vw ρ i=some d->∃ t,τ[i]?=some (some t)/\Dq (rs D G) t d
def EE.up {fv:List Nat} {D:Addr->Prop} {G G':Gp} {τ:St3} {ρ:Rho} (h:EE fv D G τ ρ) (e:Ex G G'):EE fv D G' τ ρ:=λi hi d hd=>
 let ⟨t,a,b⟩:=h i hi d hd;⟨t,a,b.up (ZW e)⟩
def EE.l {fv gv:List Nat} {D:Addr->Prop} {G:Gp} {τ:St3} {ρ:Rho} (h:EE (fv++gv) D G τ ρ):EE fv D G τ ρ:=λi hi=>h i (by simp [hi])
def EE.r {fv gv:List Nat} {D:Addr->Prop} {G:Gp} {τ:St3} {ρ:Rho} (h:EE (fv++gv) D G τ ρ):EE gv D G τ ρ:=λi hi=>h i (by simp [hi])
def Nw (D:Addr->Prop) (G G':Gp) (x:T) (d:PyData):Prop:=d=.none\/∃ p xs ds,x=.ref p/\d=.list ds/\G p=none/\G' p=some (.lst xs)/\Dqs (rs (λb=>D b\/b=p) G') xs ds
def Nw.back {D:Addr->Prop} {G0 G G':Gp} {x:T} {d:PyData} (h:Nw D G G' x d) (e:Ex G0 G):Nw D G0 G' x d:=by
 rcases h with h|⟨p,xs,ds,a,b,c,r⟩
 ·exact .inl h
 refine .inr ⟨p,xs,ds,a,b,?_,r⟩;cases z:G0 p with
 |none=>rfl
 |some o=>rw [e _ _ z] at c;cases c
structure PuE (t:TE3) where
 f:Rho->Option PyData
 fv:List Nat
 nw:Bool
 ok:∀ {D τ ρ G} {q:Q3} {d},EE fv D G τ ρ->Dom D G->f ρ=some d->(∀ x G',Ex G G'->Dq (rs D G') x d->(nw=true->Nw D G G' x d)->q x G')->t τ G q
structure PuC (t:TT3) where
 f:Rho->Option Bool
 fv:List Nat
 ok:∀ {D τ ρ G} {q:Bool->Gp->Prop} {k},EE fv D G τ ρ->Dom D G->f ρ=some k->(∀ G',Ex G G'->q k G')->t τ G q
structure PuA (t:TA3) where
 f:Rho->Option (List PyData)
 fv:List Nat
 n:Nat
 ln:∀ {ρ d},f ρ=some d->d.length=n
 ok:∀ {D τ ρ G} {q:List T->Gp->Prop} {d},EE fv D G τ ρ->Dom D G->f ρ=some d->(∀ x G',Ex G G'->Dqs (rs D G') x d->q x G')->t τ G q
structure PuO (t:TO3) where
 f:Rho->Option (Option Int)
 fv:List Nat
 ok:∀ {D τ ρ G} {q:Option Int->Gp->Prop} {k},EE fv D G τ ρ->Dom D G->f ρ=some k->(∀ G',Ex G G'->q k G')->t τ G q
structure PuI (t:TI3) where
 f:Rho->Option (List PyData)
 fv:List Nat
 /-- numbers alone -/
 nm:Bool
 ok:∀ {D τ ρ G} {r:List T->(Gp->Prop)->Gp->Prop} {ds},EE fv D G τ ρ->Dom D G->f ρ=some ds ->
  (∀ items stay G',Ex G G'->Dqs (rs D G') items ds->(∀ G'',(nm=true\/Ex (rs D G') G'')->stay G'')->(nm=true->∃ ns:List Int,ds=ns.map PyData.int)->r items stay G')->t τ G r
structure OpD (r:R3) where
 f:PyData->PyData->Option PyData
 nw:Bool
 ok:∀ {D G x y d e v} {q:Q3},Dq (rs D G) x d->Dq (rs D G) y e->Dom D G->f d e=some v->(∀ z G',Ex G G'->Dq (rs D G') z v->(nw=true->Nw D G G' z v)->q z G')->r x y G q
structure FnD (r:List T->Gp->Q3->Prop) where
 f:List PyData->Option PyData
 nw:Bool
 ok:∀ {D G xs ds v} {q:Q3},Dqs (rs D G) xs ds->Dom D G->f ds=some v->(∀ z G',Ex G G'->Dq (rs D G') z v->(nw=true->Nw D G G' z v)->q z G')->r xs G q
def bV (i:Nat):PuE (v3 i):=⟨λρ=>vw ρ i,[i],false,λhv hd hf k=>by
 obtain ⟨t,e,h⟩:=hv i (by simp) _ hf;unfold v3;rw [e];exact k t _ Ex.refl h (λz=>by cases z)⟩
def qM (i:Int):PuE (c3 (.int i)):=⟨λ_=>some (.int i),[],false,λhv hd hf k=>by cases hf;exact k _ _ Ex.refl (.int i) (λz=>by cases z)⟩
def bBl (i:Bool):PuE (c3 (.bl i)):=⟨λ_=>some (.bool i),[],false,λhv hd hf k=>by cases hf;exact k _ _ Ex.refl (.bl i) (λz=>by cases z)⟩
def CC (i:Str):PuE (c3 (.str i)):=⟨λ_=>some (.str i),[],false,λhv hd hf k=>by cases hf;exact k _ _ Ex.refl (.str i) (λz=>by cases z)⟩
def bO {r:R3} {ta tb:TE3} (R:OpD r) (a:PuE ta) (b:PuE tb):PuE (o3 r ta tb):=
 ⟨λρ=>(a.f ρ).bind λx=>(b.f ρ).bind λy=>R.f x y,a.fv++b.fv,R.nw,λhv hd hf k=>by
  obtain ⟨x,e1,hf⟩:=obb hf;obtain ⟨y,e2,hf⟩:=obb hf;exact a.ok hv.l hd e1 λx' G1 E1 D1 _=>b.ok (hv.r.up E1) (hd.up E1) e2 λy' G2 E2 D2 _=>R.ok (D1.up (ZW E2)) D2 ((hd.up E1).up E2) hf λz G3 E3 D3 N3=>k z G3 ((E1.trans E2).trans E3) D3 λh=>(N3 h).back (E1.trans E2)⟩
def qV:PuA qr:=⟨λ_=>some [],[],0,(λh=>by cases h;rfl),λhv hd hf k=>by cases hf;exact k _ _ Ex.refl .nil⟩
def qg {ta:TE3} {tr:TA3} (a:PuE ta) (r:PuA tr):PuA (qc ta tr):=
 ⟨λρ=>(a.f ρ).bind λx=>(r.f ρ).bind λxs=>some (x::xs),a.fv++r.fv,r.n+1,(λhf=>by
  obtain ⟨x,e1,hf⟩:=obb hf;obtain ⟨xs,e2,hf⟩:=obb hf;cases hf;simp [r.ln e2]),λhv hd hf k=>by
  obtain ⟨x,e1,hf⟩:=obb hf;obtain ⟨xs,e2,hf⟩:=obb hf;cases hf;exact a.ok hv.l hd e1 λx' G1 E1 D1 _=>r.ok (hv.r.up E1) (hd.up E1) e2 λy' G2 E2 D2=>k _ G2 (E1.trans E2) (.cons (D1.up (ZW E2)) D2)⟩
def few {n:Nat} (h:Tru (Nat.ble n 1000)):n<=sizeLine:=Nat.le_trans (Nat.le_of_ble_eq_true h.h) (by rw [sizeLine_eq];omega)
def qab {t:TA3} (a:PuA t) (hn:Tru (Nat.ble a.n 1000)):PuE (LS t):=⟨λρ=>(a.f ρ).map .tuple,a.fv,false,λhv hd hf k=>by
 obtain ⟨xs,e1,rfl⟩:=Option.map_eq_some_iff.mp hf;exact a.ok hv hd e1 λx G1 E1 D1=>⟨by rw [D1.length,a.ln e1];exact few hn,k _ _ E1 (.tup D1) (λz=>by cases z)⟩⟩
def XT {D:Addr->Prop} {G:Gp} {p:Addr} {xs:List T} {ds:List PyData} (hp:G p=none) (h:Dqs (rs D G) xs ds):Nw D G (gu G p (.lst xs)) (.ref p) (.list ds):=
 .inr ⟨p,xs,ds,rfl,rfl,hp,zl,h.up λb o e=>by
  obtain ⟨n,e⟩:=qF e;have:b≠p:=by rintro rfl;rw [hp] at e;cases e
  rw [JH (by rintro (z|z);exact n z;exact this z),ZX this];exact e⟩
def ES {D:Addr->Prop} {G:Gp} {p:Addr} {xs:List T} {ds:List PyData} (hd:Dom D G) (hp:G p=none) (h:Dqs (rs D G) xs ds):Dq (rs D (gu G p (.lst xs))) (.ref p) (.list ds):=
 .lst (qgg hd hp) (h.up (ZW (QY hp)))
def qiS {t:TA3} (a:PuA t) (hn:Tru (Nat.ble a.n 1000)):PuE (NM t):=⟨λρ=>(a.f ρ).map .list,a.fv,true,λhv hd hf k=>by
 obtain ⟨xs,e1,rfl⟩:=Option.map_eq_some_iff.mp hf;exact a.ok hv hd e1 λx G1 E1 D1=>⟨by rw [D1.length,a.ln e1];exact few hn,λp hp=>k _ _ (E1.trans (QY hp)) (ES (hd.up E1) hp D1) λ_=>(XT hp D1).back E1⟩⟩
def qy {r:List T->Gp->Q3->Prop} {t:TA3} (R:FnD r) (a:PuA t):PuE (cb3 r t):=
 ⟨λρ=>(a.f ρ).bind R.f,a.fv,R.nw,λhv hd hf k=>by
  obtain ⟨x,e1,hf⟩:=obb hf;exact a.ok hv hd e1 λx' G1 E1 D1=>R.ok D1 (hd.up E1) hf λz G3 E3 D3 N3=>k z G3 (E1.trans E3) D3 λh=>(N3 h).back E1⟩
def asB:PyData->Option Bool
 |.bool b=>some b
 |_=>none
def asI:PyData->Option Int
 |.int b=>some b
 |_=>none
def CV {d:PyData} {b:Bool} (h:asB d=some b):d=.bool b:=by cases d<;>simp [asB] at h;subst h;rfl
def C2 {d:PyData} {b:Int} (h:asI d=some b):d=.int b:=by cases d<;>simp [asI] at h;subst h;rfl
def bTb {t:TE3} (a:PuE t):PuC (tb3 t):=⟨λρ=>(a.f ρ).bind asB,a.fv,λhv hd hf k=>by
 obtain ⟨x,e1,hf⟩:=obb hf;have:=CV hf;subst this;exact a.ok hv hd e1 λx' G1 E1 D1 _=>by cases D1;exact k G1 E1⟩
def bOr {t u:TT3} (a:PuC t) (b:PuC u):PuC (or3 t u):=⟨λρ=>(a.f ρ).bind λk=>if k then some true else b.f ρ,a.fv++b.fv,λhv hd hf k=>by
 obtain ⟨x,e1,hf⟩:=obb hf;refine a.ok hv.l hd e1 λG1 E1=>?_;cases x with
 |false=>exact b.ok (hv.r.up E1) (hd.up E1) hf λG2 E2=>k G2 (E1.trans E2)
 |true=>cases hf;exact k G1 E1⟩
def NL {t:TT3} (a:PuC t):PuC (CT t):=⟨λρ=>(a.f ρ).map (! ·),a.fv,λhv hd hf k=>by
 obtain ⟨x,e1,hf⟩:=Option.map_eq_some_iff.mp hf;subst hf;exact a.ok hv hd e1 λG1 E1=>k G1 E1⟩
def bTt:PuC tt3:=⟨λ_=>some true,[],λhv hd hf k=>by cases hf;exact k _ Ex.refl⟩
def WH {ta tb:TE3} (a:PuE ta) (b:PuE tb):PuE (ZJ ta tb):=⟨λρ=>((a.f ρ).bind asB).bind λk=>if k then b.f ρ else some (.bool false),a.fv++b.fv,false,λhv hd hf k=>by
 obtain ⟨x,e1,hf⟩:=obb hf;obtain ⟨y,e1,e2⟩:=obb e1;have:=CV e2;subst this;refine a.ok hv.l hd e1 λx' G1 E1 D1 _=>?_;cases D1;cases x with
 |true=>exact b.ok (hv.r.up E1) (hd.up E1) hf λz G2 E2 D2 _=>k z G2 (E1.trans E2) D2 (λz=>by cases z)
 |false=>cases hf;exact k _ G1 E1 (.bl false) (λz=>by cases z)⟩
def qfW {ta:TE3} (a:PuE ta):PuE (K5 ta):=⟨λρ=>((a.f ρ).bind asB).map λk=>.bool (!k),a.fv,false,λhv hd hf k=>by
 obtain ⟨x,e1,hf⟩:=Option.map_eq_some_iff.mp hf;obtain ⟨y,e1,e2⟩:=obb e1;have:=CV e2;subst this;subst hf;refine a.ok hv hd e1 λx' G1 E1 D1 _=>?_;cases D1;exact k _ G1 E1 (.bl _) (λz=>by cases z)⟩
def bCh {r r':R3} {ta tb tc:TE3} (R:OpD r) (R':OpD r') (a:PuE ta) (b:PuE tb) (c:PuE tc):PuE (ch3 r r' ta tb tc):=
 ⟨λρ=>(a.f ρ).bind λx=>(b.f ρ).bind λy=>((R.f x y).bind asB).bind λk=>if k then (c.f ρ).bind λz=>R'.f y z else some (.bool false),a.fv++(b.fv++c.fv),false,λ{D τ ρ G q d} hv hd hf k=>by
  obtain ⟨x,e1,hf⟩:=obb hf;obtain ⟨y,e2,hf⟩:=obb hf;obtain ⟨j,e3,hf⟩:=obb hf;obtain ⟨v,e3,e4⟩:=obb e3;have:=CV e4;subst this;refine a.ok hv.l hd e1 λx' G1 E1 D1 _=>b.ok (hv.r.l.up E1) (hd.up E1) e2 λy' G2 E2 D2 _=>R.ok (D1.up (ZW E2)) D2 ((hd.up E1).up E2) e3 λz G3 E3 D3 _=>?_;cases D3;have E:=(E1.trans E2).trans E3;cases j with
  |true=>
   obtain ⟨w,e5,hf⟩:=obb hf;exact c.ok (hv.r.r.up E) (hd.up E) e5 λw' G4 E4 D4 _=>R'.ok ((D2.up (ZW E3)).up (ZW E4)) D4 ((hd.up E).up E4) hf λu G5 E5 D5 _=>k u G5 ((E.trans E4).trans E5) D5 (λz=>by cases z)
  |false=>cases hf;exact k _ G3 E (.bl false) (λz=>by cases z)⟩
def qiT {ta:TE3} (a:PuE ta):PuE (bl3 ta):=⟨λρ=>((a.f ρ).bind asI).map λi=>.int (Builtin.Int.intBits i),a.fv,false,λhv hd hf k=>by
 obtain ⟨x,e1,hf⟩:=Option.map_eq_some_iff.mp hf;obtain ⟨y,e1,e2⟩:=obb e1;have:=C2 e2;subst this;subst hf;refine a.ok hv hd e1 λx' G1 E1 D1 _=>?_;cases D1;exact k _ G1 E1 (.int _) (λz=>by cases z)⟩
def tyD:PyData->Option String
 |.none=>some "NoneType" |.bool _=>some "bool" |.int _=>some "int" |.str _=>some "str" |.tuple _=>some "tuple" |.list _=>some "list" |.dict _=>none
def qdL {ta:TE3} (g:String->Bool) (a:PuE ta):PuE (V3 g ta):=⟨λρ=>(a.f ρ).bind λd=>(tyD d).map λt=>.bool (g t),a.fv,false,λhv hd hf k=>by
 obtain ⟨x,e1,hf⟩:=obb hf;obtain ⟨y,e2,hf⟩:=Option.map_eq_some_iff.mp hf;subst hf;refine a.ok hv hd e1 λx' G1 E1 D1 _=>?_;have:tyT G1 x'=some y:=by
  cases D1 with
  |lst h _=>have g:=zL (qF h).2;simp [tyT,g];simpa [tyD] using e2
  |_=>simpa [tyT,tyD] using e2
 simp only [this];exact k _ G1 E1 (.bl _) (λz=>by cases z)⟩
def bNp:PuO np3:=⟨λ_=>some none,[],λhv hd hf k=>by cases hf;exact k _ Ex.refl⟩
def bSp {t:TE3} (a:PuE t):PuO (sp3 t):=⟨λρ=>((a.f ρ).bind asI).map some,a.fv,λhv hd hf k=>by
 obtain ⟨x,e1,hf⟩:=Option.map_eq_some_iff.mp hf;obtain ⟨y,e1,e2⟩:=obb e1;have:=C2 e2;subst this;subst hf;refine a.ok hv hd e1 λx' G1 E1 D1 _=>?_;cases D1;exact k G1 E1⟩
def Dqs.cut {G:Gp} {xs:List T} {ds:List PyData} (h:Dqs G xs ds) (lo hi:Option Int):Dqs G (NS xs lo hi) (NS ds lo hi):=by
 unfold NS;rw [h.length];exact (h.drop _).take _
def slD (d:PyData) (lo hi:Option Int):Option PyData:=match d with
 |.tuple xs=>cif (HT.sIx xs.length 0 lo=0/\HT.sIx xs.length xs.length hi=xs.length) none (some (.tuple (NS xs lo hi)))
 |.list xs=>some (.list (NS xs lo hi))
 |_=>none
def bSl {te:TE3} {tl th:TO3} (a:PuE te) (l:PuO tl) (h:PuO th):PuE (qdn te tl th):=⟨λρ=>(a.f ρ).bind λd=>(l.f ρ).bind λlo=>(h.f ρ).bind λhi=>slD d lo hi,a.fv++(l.fv++h.fv),false,λhv hd hf k=>by
 obtain ⟨d,e1,hf⟩:=obb hf;obtain ⟨lo,e2,hf⟩:=obb hf;obtain ⟨hi,e3,hf⟩:=obb hf;refine a.ok hv.l hd e1 λx' G1 E1 D1 _=>l.ok (hv.r.l.up E1) (hd.up E1) e2 λG2 E2=>h.ok (hv.r.r.up (E1.trans E2)) (hd.up (E1.trans E2)) e3 λG3 E3=>?_;have E:=(E1.trans E2).trans E3;have D3:=(D1.up (ZW E2)).up (ZW E3);unfold slD at hf;cases D3 with
 |tup hs=>
  simp only [cif] at hf;split at hf
  ·cases hf
  ·rename_i n;cases hf;exact ⟨by rw [hs.length];exact n,k _ _ E (.tup (hs.cut _ _)) (λz=>by cases z)⟩
 |lst g hs=>
  simp only at hf;cases hf;simp only [sl3,zL (qF g).2];intro p hp;exact k _ _ (E.trans (QY hp)) (ES (hd.up E) hp (hs.cut _ _)) (λz=>by cases z)
 |_=>simp at hf⟩
def Z5:List PyData->Option (List Int)
 |[]=>some []
 |.int i::r=>(Z5 r).map (i::·)
 |_=>none
def U4 (ns:List Int):Z5 (ns.map PyData.int)=some ns:=by
 induction ns with
 |nil=>rfl
 |cons n r ih=>simp [Z5,ih]
def V4:∀ {xs:List PyData} {ns:List Int},Z5 xs=some ns->xs=ns.map PyData.int
 |[],_,h=>by simp [Z5] at h;subst h;rfl
 |.int i::r,ns,h=>by
  simp only [Z5] at h;obtain ⟨ms,e,rfl⟩:=Option.map_eq_some_iff.mp h;rw [V4 e];rfl
 |.none::r,ns,h=>by simp [Z5] at h
 |.bool _::r,ns,h=>by simp [Z5] at h
 |.str _::r,ns,h=>by simp [Z5] at h
 |.list _::r,ns,h=>by simp [Z5] at h
 |.tuple _::r,ns,h=>by simp [Z5] at h
 |.dict _::r,ns,h=>by simp [Z5] at h
def opI (g:Int->Int->Int):OpD (iI g):=⟨λd e=>match d,e with|.int i,.int j=>some (.int (g i j))|_,_=>none,false,λ{D G x y d e v q} hx hy hd hf k=>by
 cases hx<;>try (simp at hf;done)
 cases hy<;>try (simp at hf;done)
 cases hf;exact k _ _ Ex.refl (.int _) (λz=>by cases z)⟩
def cI (C:Int->Int->Prop) (g:Int->Int->Int) (d e:PyData):Option PyData:=match d,e with|.int i,.int j=>cif (C i j) (some (.int (g i j))) none|_,_=>none
def opC (C:Int->Int->Prop) (g:Int->Int->Int):OpD (iC C g):=⟨cI C g,false,λ{D G x y d e v q} hx hy hd hf k=>by
 unfold cI at hf;cases hx<;>try (simp at hf;done)
 cases hy<;>try (simp at hf;done)
 simp only [cif] at hf;split at hf
 ·rename_i c;cases hf;exact ⟨c,k _ _ Ex.refl (.int _) (λz=>by cases z)⟩
 ·cases hf⟩
def opB (g:Int->Int->Bool):OpD (iB g):=⟨λd e=>match d,e with|.int i,.int j=>some (.bool (g i j))|_,_=>none,false,λ{D G x y d e v q} hx hy hd hf k=>by
 cases hx<;>try (simp at hf;done)
 cases hy<;>try (simp at hf;done)
 cases hf;exact k _ _ Ex.refl (.bl _) (λz=>by cases z)⟩
def ME:PyData->PyData->Option Bool
 |.none,.none=>some true|.none,.int _=>some false|.int _,.none=>some false|.none,.bool _=>some false|.bool _,.none=>some false|.none,.str _=>some false|.str _,.none=>some false
 |.int i,.int j=>some (decide (i=j))|.bool i,.bool j=>some (decide (i=j))|.str i,.str j=>some (decide (i=j))
 |.int _,.str _=>some false|.str _,.int _=>some false|.bool _,.str _=>some false|.str _,.bool _=>some false
 |_,_=>none
def MX {G:Gp} {x y:T} {d e:PyData} (hx:Dq G x d) (hy:Dq G y e):VU x y=ME d e:=by
 cases hx<;>cases hy<;>rfl
def eqD (neg:Bool) (d e:PyData):Option PyData:=match ME d e with
 |some k=>some (.bool (if neg then !k else k))
 |none=>cif (dpt d<=40/\dpt d≠0) ((QH d e).map λb=>.bool (if neg then !b else b)) none
def VT (neg:Bool):OpD (jE neg):=⟨eqD neg,false,λ{D G x y d e v q} hx hy hd hf k=>by
 unfold jE;rw [MX hx hy];unfold eqD at hf;cases h:ME d e with
 |some b=>rw [h] at hf;cases hf;exact k _ _ Ex.refl (.bl _) (λz=>by cases z)
 |none=>
  rw [h] at hf;simp only [cif] at hf ⊢;split at hf
  ·rename_i c;obtain ⟨b,e1,rfl⟩:=Option.map_eq_some_iff.mp hf;exact ⟨d,e,b,(hx.up DN).dp,(hy.up DN).dp,e1,c.1,c.2,k _ _ Ex.refl (.bl _) (λz=>by cases z)⟩
  ·cases hf⟩
def qiO (neg:Bool) (d e:PyData):Option PyData:=match d,e with|.bool i,.bool j=>some (.bool (if neg then i != j else i==j))|_,_=>none
def qg5 (neg:Bool):OpD (qiY neg):=⟨qiO neg,false,λ{D G x y d e v q} hx hy hd hf k=>by
 unfold qiO at hf;cases hx<;>try (simp at hf;done)
 cases hy<;>try (simp at hf;done)
 cases hf;exact k _ _ Ex.refl (.bl _) (λz=>by cases z)⟩
def ixD (d e:PyData):Option PyData:=match d,e with
 |.tuple xs,.int i=>atI xs i
 |.list xs,.int i=>atI xs i
 |_,_=>none
def Dqs.atI {G:Gp} {xs:List T} {ds:List PyData} {i:Int} {d:PyData} (h:Dqs G xs ds) (e:L2.atI ds i=some d):∃ x,L2.atI xs i=some x/\Dq G x d:=by
 unfold L2.atI at e ⊢;rw [h.length];obtain ⟨j,e1,e2⟩:=obb e;obtain ⟨x,hx,r⟩:=h.get e2;exact ⟨x,by rw [e1];exact hx,r⟩
def jR:OpD ix3:=⟨ixD,false,λ{D G x y d e v q} hx hy hd hf k=>by
 unfold ixD at hf;cases hx with
 |tup hs=>
  cases hy<;>try (simp at hf;done)
  obtain ⟨x,e1,r⟩:=hs.atI hf;simp only [ix3,e1];exact k _ _ Ex.refl r (λz=>by cases z)
 |lst g hs=>
  cases hy<;>try (simp at hf;done)
  obtain ⟨x,e1,r⟩:=hs.atI hf;simp only [ix3,zL (qF g).2,e1];exact k _ _ Ex.refl r (λz=>by cases z)
 |_=>simp at hf⟩
def qiR (d e:PyData):Option PyData:=match d,e with
 |.tuple xs,.tuple ys=>cif (xs≠[]/\xs.length+ys.length<=sizeLine) (some (.tuple (xs++ys))) none
 |.list xs,.list ys=>cif (xs.length+ys.length<=sizeLine) (some (.list (xs++ys))) none
 |.int i,.int j=>some (.int (i+j))
 |_,_=>none
def WO:OpD JG:=⟨qiR,false,λ{D G x y d e v q} hx hy hd hf k=>by
  unfold qiR at hf;cases hx with
  | int i => cases hy <;> try (simp at hf;done)
             cases hf;exact k _ _ Ex.refl (.int _) (λz=>by cases z)
  |tup hs=>
    cases hy<;>try (simp at hf;done)
    rename_i hs2;simp only [cif] at hf;split at hf
    · rename_i c;cases hf;refine ⟨?_,by rw [hs.length,hs2.length];exact c.2,k _ _ Ex.refl (.tup (hs.append hs2)) (λz=>by cases z)⟩;rintro rfl;cases hs;exact c.1 rfl
    · cases hf
  |lst g hs=>
    cases hy<;>try (simp at hf;done)
    rename_i g2 hs2;simp only [cif] at hf;split at hf
    · rename_i c;cases hf;simp only [JG,(qF g).2,(qF g2).2];exact ⟨by rw [hs.length,hs2.length];exact c,λp hp=>k _ _ (QY hp) (ES hd hp (hs.append hs2)) (λz=>by cases z)⟩
    · cases hf
  |_=>simp at hf⟩
def qfd (d e:PyData):Option PyData:=match d,e with
 |.list xs,.list ys=>cif (xs.length+ys.length<=sizeLine) (some (.list (xs++ys))) none
 |_,_=>none
def qbi:OpD JG:=⟨qfd,true,λ{D G x y d e v q} hx hy hd hf k=>by
 unfold qfd at hf;cases hx with
 |lst g hs=>
  cases hy<;>try (simp at hf;done)
  rename_i g2 hs2;simp only [cif] at hf;split at hf
  ·rename_i c;cases hf;simp only [JG,(qF g).2,(qF g2).2];exact ⟨by rw [hs.length,hs2.length];exact c,λp hp=>k _ _ (QY hp) (ES hd hp (hs.append hs2)) λ_=>XT hp (hs.append hs2)⟩
  ·cases hf
 |_=>simp at hf⟩
def qe8:List PyData->Option PyData
 |[.tuple xs]=>some (.int xs.length)
 |[.list xs]=>some (.int xs.length)
 |_=>none
def LC:FnD V8:=⟨qe8,false,λ{D G xs ds v q} hx hd hf k=>by
 unfold qe8 at hf;split at hf
 ·cases hx with
  |cons a b=>cases b;cases a;rename_i hs;cases hf;simp only [V8];rw [hs.length];exact k _ _ Ex.refl (.int _) (λz=>by cases z)
 ·cases hx with
  |cons a b=>cases b;cases a;rename_i g hs;cases hf;simp only [V8,zL (qF g).2];rw [hs.length];exact k _ _ Ex.refl (.int _) (λz=>by cases z)
 ·cases hf⟩
def qiJ:List PyData->Option PyData
 |[.tuple xs]=>some (.tuple xs)
 |[.list xs]=>some (.tuple xs)
 |_=>none
def qkR:FnD WV:=⟨qiJ,false,λ{D G xs ds v q} hx hd hf k=>by
 unfold qiJ at hf;split at hf
 ·cases hx with
  |cons a b=>cases b;cases a;rename_i hs;cases hf;exact k _ _ Ex.refl (.tup hs) (λz=>by cases z)
 ·cases hx with
  |cons a b=>cases b;cases a;rename_i g hs;cases hf;simp only [WV,zL (qF g).2];exact k _ _ Ex.refl (.tup hs) (λz=>by cases z)
 ·cases hf⟩
def SH:List PyData->Option (List Bool)
 |[]=>some []
 |.bool i::r=>(SH r).map (i::·)
 |_=>none
def qaw (ns:List Bool):SH (ns.map PyData.bool)=some ns:=by
 induction ns with
 |nil=>rfl
 |cons n r ih=>simp [SH,ih]
def KT {G:Gp}:∀ {xs:List T} {ds:List PyData} {ns:List Bool},Dqs G xs ds->SH ds=some ns->qbv xs=some (ns.all id)/\qkv xs=some (ns.any id)
 |_,_,_,.nil,h=>by simp [SH] at h;subst h;exact ⟨rfl,rfl⟩
 |_,.bool i::r,ns,.cons a b,h=>by
  simp only [SH] at h;obtain ⟨ms,e,rfl⟩:=Option.map_eq_some_iff.mp h;obtain ⟨h1,h2⟩:=KT b e;cases a;simp [qbv,qkv,h1,h2]
 |_,.int _::r,ns,_,h=>by simp [SH] at h
 |_,.none::r,ns,_,h=>by simp [SH] at h
 |_,.str _::r,ns,_,h=>by simp [SH] at h
 |_,.list _::r,ns,_,h=>by simp [SH] at h
 |_,.tuple _::r,ns,_,h=>by simp [SH] at h
 |_,.dict _::r,ns,_,h=>by simp [SH] at h
def qeh:List PyData->Option PyData
 |[.list xs]=>(SH xs).map λns=>.bool (ns.all id)
 |_=>none
def qiI:FnD NJ:=⟨qeh,false,λ{D G xs ds v q} hx hd hf k=>by
 unfold qeh at hf;split at hf
 ·obtain ⟨ns,e,rfl⟩:=Option.map_eq_some_iff.mp hf;cases hx with
  |cons a b=>cases b;cases a;rename_i g hs;simp only [NJ,zL (qF g).2,(KT hs e).1];exact k _ _ Ex.refl (.bl _) (λz=>by cases z)
 ·cases hf⟩
def qfx:List PyData->Option PyData
 |[.list xs]=>(Z5 xs).bind λns=>cif (CB ns) (some (.int ns.sum)) none
 |_=>none
def qiQ:FnD qd8:=⟨qfx,false,λ{D G xs ds v q} hx hd hf k=>by
 unfold qfx at hf;split at hf
 ·obtain ⟨ns,e,hf⟩:=obb hf;unfold cif at hf;split at hf
  ·rename_i c;cases hf;cases hx with
   |cons a b=>cases b;cases a;rename_i g hs;have:=V4 e;subst this;have:=hs.ints;subst this;simp only [qd8,zL (qF g).2,U8];exact ⟨c,k _ _ Ex.refl (.int _) (λz=>by cases z)⟩
  ·cases hf
 ·cases hf⟩
def mx:List Int->Int
 |[]=>0|[a]=>a|a::b::r=>max a (mx (b::r))
def RX:∀ {ns:List Int} {m:Int},m∈ns->m<=mx ns
 |[a],m,h=>by simp at h;subst h;exact Int.le_refl _
 |a::b::r,m,h=>by
  unfold mx;rcases mem_cons.mp h with rfl|h
  ·omega
  ·have:=RX h;omega
def XX:∀ {ns:List Int},ns≠[]->mx ns∈ns
 |[a],_=>by simp [mx]
 |a::b::r,_=>by
  unfold mx;have:=XX (ns:=b::r) (by simp);rcases Int.le_total a (mx (b::r)) with h|h
  ·rw [Int.max_eq_right h];exact List.mem_cons_of_mem _ this
  ·rw [Int.max_eq_left h];simp
def mxD:List PyData->Option PyData
 |[.list xs]=>(Z5 xs).bind λns=>cif (ns≠[]) (some (.int (mx ns))) none
 |_=>none
def qhk:FnD RW:=⟨mxD,false,λ{D G xs ds v q} hx hd hf k=>by
 unfold mxD at hf;split at hf
 ·obtain ⟨ns,e,hf⟩:=obb hf;unfold cif at hf;split at hf
  ·rename_i c;cases hf;cases hx with
   |cons a b=>
    cases b;cases a;rename_i g hs;have:=V4 e;subst this;have:=hs.ints;subst this;simp only [RW,zL (qF g).2,U8];refine ⟨c,λm hm hl=>?_⟩;have:m=mx ns:=Int.le_antisymm (RX hm) (hl _ (XX c));subst this;exact k _ _ Ex.refl (.int _) (λz=>by cases z)
  ·cases hf
 ·cases hf⟩
def PSp (F:List PyData->Option PyData) (fr:Bool):Sp3:=λts G q=>∃ (D:Addr->Prop) (ds:List PyData) (d:PyData),Dqs (rs D G) ts ds/\Dom D G/\F ds=some d/\∀ x G',Ex G G'->Dq (rs D G') x d->(fr=true->Nw D G G' x d)->q x G'
def qS (F:List PyData->Option PyData) (fr:Bool):FnD (PSp F fr):=⟨F,fr,λ{D G xs ds v q} hx hd hf k=>⟨D,ds,v,hx,hd,hf,k⟩⟩
def qad:PyData->Option (List PyData)
 |.tuple xs=>some xs
 |.list xs=>some xs
 |_=>none
def qi8 {t:TE3} (a:PuE t):PuI (KQ t):=⟨λρ=>(a.f ρ).bind qad,a.fv,false,λ{D τ ρ G r ds} hv hd hf k=>by
 obtain ⟨d,e1,hf⟩:=obb hf;refine a.ok hv hd e1 λx G1 E1 D1 _=>?_;unfold qad at hf;cases D1 with
 |tup hs=>cases hf;exact k _ _ _ E1 hs (λ_ _=>trivial) (λz=>by cases z)
 |lst g hs=>
  cases hf;simp only [zL (qF g).2];refine k _ _ _ E1 hs (λG2 h=>?_) (λz=>by cases z);rcases h with h|h
  ·cases h
  ·exact zL (h _ _ g)
 |_=>simp at hf⟩
def VX (lo:Int) (n:Nat):List Int:=(List.range n).map λ(i:Nat)=>lo+(i:Int)
def qb8 (lo:Int) (n:Nat):LI lo n=(VX lo n).map T.int:=by simp [LI,VX,map_map,Function.comp_def]
def qfG:List PyData->Option (List PyData)
 |[.int j]=>cif (-(2 ^ 62)<=j/\j<2 ^ 62) (some ((VX 0 j.toNat).map PyData.int)) none
 |[.int i,.int j]=>cif (-(2 ^ 62)<=i/\i<2 ^ 62/\-(2 ^ 62)<=j/\j<2 ^ 62) (some ((VX i (j-i).toNat).map PyData.int)) none
 |_=>none
def qdh {t:TA3} (a:PuA t):PuI (YR t):=⟨λρ=>(a.f ρ).bind qfG,a.fv,true,λ{D τ ρ G r ds} hv hd hf k=>by
 obtain ⟨d,e1,hf⟩:=obb hf;refine a.ok hv hd e1 λx G1 E1 D1=>?_;unfold qfG at hf;split at hf
 ·unfold cif at hf;split at hf
  ·rename_i c;cases hf;cases D1 with
   |cons a b=>cases b;cases a;simp only;rw [qb8];exact ⟨c,k _ _ _ E1 (Dqs.ofInts _) (λ_ _=>trivial) λ_=>⟨_,rfl⟩⟩
  ·cases hf
 ·unfold cif at hf;split at hf
  ·rename_i c;cases hf;cases D1 with
   |cons a b=>cases b with
    |cons b c'=>cases c';cases a;cases b;simp only;rw [qb8];exact ⟨c,k _ _ _ E1 (Dqs.ofInts _) (λ_ _=>trivial) λ_=>⟨_,rfl⟩⟩
  ·cases hf
 ·cases hf⟩
def qjK (us vs:List PyData):List PyData:=(us.zip vs).map λp=>.tuple [p.1,p.2]
def Dqs.zip {G:Gp}:∀ {xs:List T} {ds:List PyData} {ys:List T} {es:List PyData},Dqs G xs ds->Dqs G ys es->Dqs G (NN xs ys) (qjK ds es)
 |_,_,_,_,.nil,_=>by simp [NN,qjK];exact .nil
 |_,_,_,_,.cons _ _,.nil=>by simp [NN,qjK];exact .nil
 |_,_,_,_,.cons a b,.cons c d=>.cons (.tup (.cons a (.cons c .nil))) (Dqs.zip b d)
def qaj {G:Gp} {x:T} {d:PyData} {ds:List PyData} (h:Dq G x d) (e:qad d=some ds):∃ us,jj G x=some us/\Dqs G us ds:=by
 unfold qad at e;cases h with
 |tup hs=>cases e;exact ⟨_,rfl,hs⟩
 |lst g hs=>cases e;exact ⟨_,zL g,hs⟩
 |_=>simp at e
def qaS {G G':Gp} {x:T} {us:List T} (e:Ex G G') (h:jj G x=some us):jj G' x=some us:=by
 cases x with
 |tup xs=>exact h
 |ref p=>exact e.getL h
 |_=>cases h
def enD (k:Nat):List PyData->List PyData
 |[]=>[]
 |x::r=>.tuple [.int (k:Int),x]::enD (k+1) r
def Dqs.enum {G:Gp}:∀ {xs:List T} {ds:List PyData} (k:Nat),Dqs G xs ds->Dqs G (jn k xs) (enD k ds)
 |_,_,_,.nil=>.nil
 |_,_,k,.cons a b=>.cons (.tup (.cons (.int _) (.cons a .nil))) (Dqs.enum (k+1) b)
def RZ {t:TA3} (a:PuA t):PuI (UR t):=⟨λρ=>(a.f ρ).bind λds=>match ds with|[d]=>(qad d).map λus=>enD 0 us|_=>none,a.fv,false,λ{D τ ρ G r ds} hv hd hf k=>by
 obtain ⟨d,e1,hf⟩:=obb hf;refine a.ok hv hd e1 λx G1 E1 D1=>?_;split at hf
 ·obtain ⟨us,e2,rfl⟩:=Option.map_eq_some_iff.mp hf;cases D1 with
  |cons a b=>
   cases b;obtain ⟨us',h1,h2⟩:=qaj a e2;simp only [qaS DN h1];refine k _ _ _ E1 (h2.enum 0) (λG2 h=>?_) (λz=>by cases z);rcases h with h|h
   ·cases h
   ·exact qaS h h1
 ·cases hf⟩
inductive Bd (H:Gp):List (Nat×T)->List (Nat×PyData)->Prop
 |nil:Bd H [] []
 |cons {i:Nat} {x:T} {d:PyData} {ts:List (Nat×T)} {bs:List (Nat×PyData)}:Dq H x d->Bd H ts bs->Bd H ((i,x)::ts) ((i,d)::bs)
def Bd.append {H:Gp}:∀ {ts:List (Nat×T)} {bs:List (Nat×PyData)} {us:List (Nat×T)} {cs:List (Nat×PyData)},Bd H ts bs->Bd H us cs->Bd H (ts++us) (bs++cs)
 |_,_,_,_,.nil,h=>h
 |_,_,_,_,.cons a b,h=>.cons a (Bd.append b h)
def Bd.up {H H':Gp} (e:Ex H H'):∀ {ts:List (Nat×T)} {bs:List (Nat×PyData)},Bd H ts bs->Bd H' ts bs
 |_,_,.nil=>.nil
 |_,_,.cons a b=>.cons (a.up e) (Bd.up e b)
def sets:St3->List (Nat×T)->St3
 |τ,[]=>τ
 |τ,p::r=>sets (τ.set p.1 (some p.2)) r
def YN:Rho->List (Nat×PyData)->Rho
 |ρ,[]=>ρ
 |ρ,p::r=>YN (ρ.set p.1 (.sh p.2)) r
def RB:∀ (τ:St3) (a b:List (Nat×T)),sets τ (a++b)=sets (sets τ a) b
 |τ,[],b=>rfl
 |τ,p::a,b=>by simp only [cons_append,sets];exact RB _ a b
structure PuG (g:TG3) where
 f:PyData->Option (List (Nat×PyData))
 tg:List Nat
 at':∀ {d bs},f d=some bs->∀ p∈bs,p.1∈tg
 ok:∀ {H x d bs},Dq H x d->f d=some bs->∃ ts,Bd H ts bs/\∀ τ G (q:St3->Gp->Prop),q (sets τ ts) G->g x τ G q
structure PuGs (g:X3) where
 f:List PyData->Option (List (Nat×PyData))
 tg:List Nat
 at':∀ {d bs},f d=some bs->∀ p∈bs,p.1∈tg
 ok:∀ {H x d bs},Dqs H x d->f d=some bs->∃ ts,Bd H ts bs/\∀ τ G (q:St3->Gp->Prop),q (sets τ ts) G->g x τ G q
def gN (i:Nat):PuG (gn3 i):=⟨λd=>some [(i,d)],[i],λh p hp=>by cases h;simp at hp;subst hp;simp,λhx h=>by cases h;exact ⟨_,.cons hx .nil,λτ G q hq=>hq⟩⟩
def T0:PuGs JB:=⟨λds=>match ds with|[]=>some []|_=>none,[],(λh p hp=>by split at h;cases h;cases hp;cases h),λhx h=>by
 split at h
 ·cases h;cases hx;exact ⟨[],.nil,λτ G q hq=>hq⟩
 ·cases h⟩
def zX {t:TG3} {u:X3} (a:PuG t) (b:PuGs u):PuGs (qI t u):=⟨λds=>match ds with|d::r=>(a.f d).bind λx=>(b.f r).map λy=>x++y|[]=>none,a.tg++b.tg,(λh p hp=>by
 split at h
 ·obtain ⟨x,e1,h⟩:=obb h;obtain ⟨y,e2,rfl⟩:=Option.map_eq_some_iff.mp h;rcases List.mem_append.mp hp with z|z
  ·exact List.mem_append.mpr (.inl (a.at' e1 p z))
  ·exact List.mem_append.mpr (.inr (b.at' e2 p z))
 ·cases h),λhx h=>by
 split at h
 ·obtain ⟨x,e1,h⟩:=obb h;obtain ⟨y,e2,rfl⟩:=Option.map_eq_some_iff.mp h;cases hx with
  |cons hx hr=>
   obtain ⟨ts,b1,k1⟩:=a.ok hx e1;obtain ⟨us,b2,k2⟩:=b.ok hr e2;refine ⟨ts++us,b1.append b2,λτ G q hq=>k1 τ G _ (k2 _ G q ?_)⟩;rw [← RB];exact hq
 ·cases h⟩
def T4 {u:X3} (n:Nat) (b:PuGs u):PuG (Z8 n u):=⟨λd=>match d with|.tuple ds=>if ds.length=n then b.f ds else none|_=>none,b.tg,(λh p hp=>by
 split at h
 ·split at h
  ·exact b.at' h p hp
  ·cases h
 ·cases h),λhx h=>by
 split at h
 ·split at h
  ·rename_i c;cases hx with
   |tup hs=>
    obtain ⟨ts,b1,k1⟩:=b.ok hs h;exact ⟨ts,b1,λτ G q hq=>⟨by rw [hs.length];exact c,k1 τ G q hq⟩⟩
  ·cases h
 ·cases h⟩
structure VA (D:Addr->Prop) (G:Gp) (τ:St3) (ρ:Rho):Prop where
 len:ρ.length=τ.length
 vw:∀ i d,vw ρ i=some d->∃ t,τ[i]?=some (some t)/\Dq (rs D G) t d
def VA.view {D:Addr->Prop} {G:Gp} {τ:St3} {ρ:Rho} (h:VA D G τ ρ) (fv:List Nat):EE fv D G τ ρ:=λi _ d e=>h.vw i d e
def VA.upx {D:Addr->Prop} {G G':Gp} {τ:St3} {ρ:Rho} (h:VA D G τ ρ) (e:Ex (rs D G) (rs D G')):VA D G' τ ρ:=⟨h.len,λi d hd=>let ⟨t,a,b⟩:=h.vw i d hd;⟨t,a,b.up e⟩⟩
def VA.up {D:Addr->Prop} {G G':Gp} {τ:St3} {ρ:Rho} (h:VA D G τ ρ) (e:Ex G G'):VA D G' τ ρ:=h.upx (ZW e)
def qa6 {ρ:Rho} {i j:Nat} {s:Sl}:vw (ρ.set i s) j=if i=j then (if i<ρ.length then s.d else none) else vw ρ j:=by
 unfold vw;rw [getElem?_set];split
 ·subst j;split
  ·rfl
  ·rfl
 ·rfl
def VA.set {D:Addr->Prop} {G:Gp} {τ:St3} {ρ:Rho} (h:VA D G τ ρ) {i:Nat} {x:T} {d:PyData} (hx:Dq (rs D G) x d):VA D G (τ.set i (some x)) (ρ.set i (.sh d)):=by
 refine ⟨by simp [h.len],λj e he=>?_⟩;rw [qa6] at he;split at he
 ·subst j;split at he
  ·rename_i l;cases he;refine ⟨x,?_,hx⟩;rw [getElem?_set,if_pos rfl,if_pos (by rw [← h.len];exact l)]
  ·cases he
 ·rename_i n;obtain ⟨t,a,b⟩:=h.vw j e he;exact ⟨t,by rw [getElem?_set,if_neg n];exact a,b⟩
def VA.sets {D:Addr->Prop} {G:Gp}:∀ {ts:List (Nat×T)} {bs:List (Nat×PyData)} {τ:St3} {ρ:Rho},VA D G τ ρ->Bd (rs D G) ts bs->VA D G (Pu.sets τ ts) (YN ρ bs)
 |_,_,_,_,h,.nil=>h
 |_,_,_,_,h,.cons a b=>by unfold Pu.sets YN;exact VA.sets (h.set a) b
def VA.keep {D:Addr->Prop} {G:Gp} {ρ:Rho}:∀ {ts:List (Nat×T)} {τ:St3},VA D G τ ρ->(∀ p∈ts,Pu.vw ρ p.1=none)->VA D G (Pu.sets τ ts) ρ
 |[],_,h,_=>h
 |p::r,τ,h,hn=>VA.keep (ts:=r) ⟨by rw [List.length_set];exact h.len,λj d hd=>by
   have:p.1≠j:=by rintro rfl;rw [hn p (by simp)] at hd;cases hd
   obtain ⟨t,a,b⟩:=h.vw j d hd;exact ⟨t,by rw [getElem?_set,if_neg this];exact a,b⟩⟩ λq hq=>hn q (by simp [hq])
def XM (m:List (Option Nat)) (ρ:Rho):Rho:=m.map λo=>match o with|some j=>(match vw ρ j with|some d=>.sh d|none=>.un)|none=>.un
def VA.cap {m:List (Option Nat)} {D:Addr->Prop} {G:Gp} {τ:St3} {ρ:Rho} (h:EE (m.filterMap id) D G τ ρ):VA D G (L3.cap m τ) (XM m ρ):=by
 refine ⟨by simp [XM,L3.cap],λi d hd=>?_⟩;unfold Pu.vw XM at hd;rw [getElem?_map] at hd;cases e:m[i]? with
 |none=>rw [e] at hd;cases hd
 |some o=>
  rw [e] at hd;cases o with
  |none=>cases hd
  |some j=>
   simp only [Option.map_some,Option.bind_some] at hd;cases e2:Pu.vw ρ j with
   |none=>rw [e2] at hd;cases hd
   |some d'=>
    rw [e2] at hd;have hd':d'=d:=by simpa [Sl.d] using hd
    subst hd';obtain ⟨t,a,b⟩:=h j (List.mem_filterMap.mpr ⟨some j,mem_of_getElem? e,rfl⟩) d' e2;refine ⟨t,?_,b⟩;unfold L3.cap;rw [getElem?_map,e];simp [a]
def LQ {m:List (Option Nat)} {ρ:Rho} {i:Nat} (h:m[i]?=some none):vw (XM m ρ) i=none:=by
 unfold vw XM;rw [getElem?_map,h];rfl
def lcP (h:PyData->Option (Option PyData)):List PyData->Option (List PyData)
 |[]=>some []
 |d::r=>(h d).bind λo=>(lcP h r).bind λys=>some (match o with|some y=>y::ys|none=>ys)
def lcH (gf:PyData->Option (List (Nat×PyData))) (cf:Rho->Option Bool) (ef:Rho->Option PyData) (ρ:Rho) (d:PyData):Option (Option PyData):=
 (gf d).bind λbs=>(cf (YN ρ bs)).bind λk=>if k then (ef (YN ρ bs)).map some else some none
def X9 {h:PyData->Option (Option PyData)} {α:Type} {g:α->PyData} {k:α->PyData} {xs:List α} (hh:∀ a∈xs,h (g a)=some (some (k a))):lcP h (xs.map g)=some (xs.map k):=by
 induction xs with
 |nil=>rfl
 |cons a r ih=>simp only [map_cons,lcP,hh a (by simp),Option.bind_some,ih λb hb=>hh b (by simp [hb])]
def ET {h:PyData->Option (Option PyData)} {α:Type} {g:α->PyData} {k:α->PyData} {c:α->Bool} {xs:List α} (hh:∀ a∈xs,h (g a)=some (if c a then some (k a) else none)):lcP h (xs.map g)=some ((xs.filter c).map k):=by
 induction xs with
 |nil=>rfl
 |cons a r ih=>
  simp only [map_cons,lcP,hh a (by simp),Option.bind_some,ih λb hb=>hh b (by simp [hb])];cases e:c a with
  |true=>simp [e]
  |false=>simp [e]
def qdc {H:Gp}:∀ {ts:List (Nat×T)} {bs:List (Nat×PyData)},Bd H ts bs->∀ p∈ts,∃ q∈bs,q.1=p.1
 |_,_,.nil,p,hp=>by cases hp
 |_,_,.cons a b,p,hp=>by
  rcases mem_cons.mp hp with rfl|hp
  ·exact ⟨_,List.mem_cons_self,rfl⟩
  ·obtain ⟨q,hq,e⟩:=qdc b p hp;exact ⟨q,by simp [hq],e⟩
def qdj {stay:Gp->Prop} {g:TG3} {tif:TT3} {te:TE3} {q:Q3} (pg:PuG g) (pc:PuC tif) (pe:PuE te) {D:Addr->Prop} {ρ0:Rho} {G0:Gp} (hs:∀ G,Ex G0 G->stay G) (hm:∀ i∈pg.tg,vw ρ0 i=none) (fin:List PyData) (hfin:fin.length<=sizeLine)
  (k:∀ G ys,Ex G0 G->Dqs (rs D G) ys fin->∀ p,G p=none->q (.ref p) (gu G p (.lst ys))) :
  ∀ (ds:List PyData) (items ys:List T) (es fs:List PyData) (τ:St3) (G:Gp),Dqs (rs D G0) items ds->VA D G τ ρ0->Ex G0 G->Dom D G->Dqs (rs D G) ys es->lcP (lcH pg.f pc.f pe.f ρ0) ds=some fs->es++fs=fin->KO stay g tif te q items ys τ G
 |_,_,ys,es,fs,τ,G,.nil,va,E,hd,hy,hf,hl=>by
  cases hf;rw [List.append_nil] at hl;subst hl;exact ⟨hs G E,k G ys E hy⟩
 |d::ds,x::items,ys,es,fs,τ,G,.cons hx hr,va,E,hd,hy,hf,hl=>by
  unfold lcP at hf;obtain ⟨o,e1,hf⟩:=obb hf;obtain ⟨YO,e2,hf⟩:=obb hf;unfold lcH at e1;obtain ⟨bs,e3,e1⟩:=obb e1;obtain ⟨c,e4,e1⟩:=obb e1;obtain ⟨ts,bd,kg⟩:=pg.ok (hx.up (ZW E)) e3;refine ⟨hs G E,kg τ G _ ?_⟩;have va1:=va.sets bd;have va2:=va.keep (ts:=ts) λp hp=>by
   obtain ⟨q,hq,e⟩:=qdc bd p hp;rw [← e];exact hm _ (pg.at' e3 q hq)
  refine pc.ok (va1.view _) hd e4 λG1 E1=>?_;cases c with
  |true=>
   rw [if_pos rfl];rw [if_pos rfl] at e1;obtain ⟨y,e5,rfl⟩:=Option.map_eq_some_iff.mp e1;simp only [Option.some.injEq] at hf;subst hf;refine pe.ok ((va1.up E1).view _) (hd.up E1) e5 λz G2 E2 D2 _=>⟨?_,?_⟩
   ·rw [hy.length];rw [← hl] at hfin;simp at hfin;omega
   ·refine qdj pg pc pe hs hm fin hfin k ds items (ys++[z]) (es++[y]) YO _ G2 hr ((va2.up E1).up E2) (E.trans (E1.trans E2)) ((hd.up E1).up E2) (((hy.up (ZW E1)).up (ZW E2)).append (.cons D2 .nil)) e2 ?_;rw [← hl];simp
  |false=>
   rw [if_neg Bool.false_ne_true];simp at e1;subst e1;simp only [Option.some.injEq] at hf;subst hf;exact qdj pg pc pe hs hm fin hfin k ds items ys es YO _ G1 hr (va2.up E1) (E.trans E1) (hd.up E1) (hy.up (ZW E1)) e2 hl
def lcF (pi:Rho->Option (List PyData)) (h:Rho->PyData->Option (Option PyData)) (m:List (Option Nat)) (ρ:Rho):Option PyData:=
 (pi ρ).bind λds=>(lcP (h (XM m ρ)) ds).bind λfs=>cif (fs.length<=sizeLine) (some (.list fs)) none
def bLc {wi:TI3} {g:TG3} {tif:TT3} {te:TE3} (pi:PuI wi) (pg:PuG g) (pc:PuC tif) (pe:PuE te) (m:List (Option Nat)) (hm:Tru (pg.tg.all λi=>m[i]?==some none)):PuE (lc3 wi g tif te m):=
 ⟨lcF pi.f (lcH pg.f pc.f pe.f) m,pi.fv++m.filterMap id,true,λ{D τ ρ G q d} hv hd hf k=>by
  unfold lcF at hf;obtain ⟨ds,e1,hf⟩:=obb hf;obtain ⟨fs,e2,hf⟩:=obb hf;unfold cif at hf;split at hf
  ·rename_i hl;cases hf;refine pi.ok hv.l hd e1 λitems stay G1 E1 D1 hs _=>?_;have va:=(VA.cap (m:=m) hv.r).up E1;refine qdj pg pc pe (D:=D) (ρ0:=XM m ρ) (G0:=G1) (λG2 E2=>hs G2 (.inr (DN.trans E2))) (λi hi=>LQ ?_) fs hl (λG2 ys E2 D2 p hp=>?_) ds items [] [] fs _ G1 D1 va Ex.refl (hd.up E1) .nil e2 (by simp)
   ·have:=List.all_eq_true.mp hm.h i hi;simpa using this
   ·exact k _ _ ((E1.trans E2).trans (QY hp)) (ES ((hd.up E1).up E2) hp D2) λ_=>(XT hp D2).back (E1.trans E2)
  ·cases hf⟩
def KB:∀ {bs:List (Nat×PyData)} {ρ:Rho} {i:Nat},(∀ p∈bs,p.1≠i)->vw (YN ρ bs) i=vw ρ i
 |[],_,_,_=>rfl
 |p::r,ρ,i,h=>by
  unfold YN;rw [KB (λq hq=>h q (by simp [hq])),qa6,if_neg (h p (by simp))]
def AD (D:Addr->Prop) (A:Nat->Option Addr) (b:Addr):Prop:=D b\/∃ i,A i=some b
structure RS (D:Addr->Prop) (G0:Gp) (A:Nat->Option Addr) (τ:St3) (ρ:Rho) (G:Gp):Prop where
 ex:Ex G0 G
 dm:Dom D G0
 fr:∀ i p,A i=some p->G0 p=none
 da:∀ i p,A i=some p->G p≠none
 inj:∀ i j p,A i=some p->A j=some p->i=j
 len:ρ.length=τ.length
 sh:∀ (i:Nat) (d:PyData),ρ[i]?=some (Sl.sh d)->∃ t,τ[i]?=some (some t)/\Dq (rs (AD D A) G) t d
 ow:∀ (i:Nat) (ds:List PyData),ρ[i]?=some (Sl.ow ds)->∃ p xs,A i=some p/\τ[i]?=some (some (.ref p))/\G p=some (.lst xs)/\Dqs (rs (AD D A) G) xs ds
section
variable {D:Addr->Prop} {G0 G G':Gp} {A A':Nat->Option Addr} {τ:St3} {ρ:Rho}
def RS.nd (h:RS D G0 A τ ρ G) {i:Nat} {p:Addr} (e:A i=some p):¬ D p:=λz=>h.dm p z (h.fr i p e)
def RS.dom (h:RS D G0 A τ ρ G):Dom (AD D A) G:=λb hb=>by
 rcases hb with hb|⟨i,hi⟩
 ·exact (h.dm.up h.ex) b hb
 ·exact h.da i b hi
def RS.domD (h:RS D G0 A τ ρ G):Dom D G:=h.dm.up h.ex
def RS.up (h:RS D G0 A τ ρ G) (e:Ex G G'):RS D G0 A τ ρ G':=
 ⟨h.ex.trans e,h.dm,h.fr,λi p a z=>(h.da i p a) (by
  cases g:G p with
  |none=>rfl
  |some o=>rw [e _ _ g] at z;cases z),h.inj,h.len,λi d a=>let ⟨t,b,c⟩:=h.sh i d a;⟨t,b,c.up (ZW e)⟩,λi ds a=>let ⟨p,xs,b,c,d,f⟩:=h.ow i ds a;⟨p,xs,b,c,e _ _ d,f.up (ZW e)⟩⟩
def RS.viewAll (h:RS D G0 A τ ρ G) (fv:List Nat):EE fv D G τ ρ:=λi _ d hd=>by
 unfold vw at hd;obtain ⟨s,e,hd⟩:=obb hd;have less:Ex (rs (AD D A) G) (rs D G):=jm λb z=>.inl z;cases s with
 |un=>cases hd
 |sh d'=>
  cases hd;obtain ⟨t,b,c⟩:=h.sh i _ e;exact ⟨t,b,c.up less⟩
 |ow ds=>
  cases hd;obtain ⟨p,xs,b,c,g,f⟩:=h.ow i _ e;exact ⟨_,c,.lst (by rw [JH (h.nd b)];exact g) (f.up less)⟩
def RS.view (h:RS D G0 A τ ρ G) {fv:List Nat} (hn:∀ i∈fv,A i=none):EE fv (AD D A) G τ ρ:=λi hi d hd=>by
 unfold vw at hd;obtain ⟨s,e,hd⟩:=obb hd;cases s with
 |un=>cases hd
 |sh d'=>
  cases hd;exact h.sh i _ e
 |ow ds=>
  obtain ⟨p,xs,b,_⟩:=h.ow i _ e;rw [hn i hi] at b;cases b
def Sl.dem:Sl->Sl
 |.ow ds=>.sh (.list ds)
 |s=>s
def dm:List Bool->Rho->Rho
 |b::m,s::r=>(match b with|true=>s.dem|false=>s)::dm m r
 |_,r=>r
def mkb (m:List Bool) (i:Nat):Bool:=(m[i]?).getD false
def MJ:∀ (m:List Bool) (ρ:Rho) (i:Nat),(dm m ρ)[i]?=(ρ[i]?).map λs=>if mkb m i=true then s.dem else s
 |[],ρ,i=>by simp [dm,mkb]
 |b::m,[],i=>by simp [dm]
 |b::m,s::r,0=>by cases b<;>simp [dm,mkb]
 |b::m,s::r,i+1=>by
  have:=MJ m r i;simp only [dm,getElem?_cons_succ,mkb] at this ⊢;exact this
def qku (s:Sl):s.dem.d=s.d:=by cases s<;>rfl
def qjU (m:List Bool) (ρ:Rho) (i:Nat):vw (dm m ρ) i=vw ρ i:=by
 unfold vw;rw [MJ];cases ρ[i]? with
 |none=>rfl
 |some s=>
  simp only [Option.map_some,Option.bind_some];split
  ·exact qku s
  ·rfl
def qcd:∀ (m:List Bool) (ρ:Rho),(dm m ρ).length=ρ.length
 |[],ρ=>rfl
 |b::m,[]=>rfl
 |b::m,s::r=>by simp [dm,qcd m r]
def Ad (m:List Bool) (A:Nat->Option Addr):Nat->Option Addr:=λi=>if mkb m i=true then none else A i
def UZ {m:List Bool} {i:Nat} {p:Addr} (h:Ad m A i=some p):A i=some p/\mkb m i=false:=by
 unfold Ad at h;split at h
 ·cases h
 ·rename_i n;exact ⟨h,by simpa using n⟩
def RS.dem (h:RS D G0 A τ ρ G) (m:List Bool):RS D G0 (Ad m A) τ (Pu.dm m ρ) G:=by
 have less:Ex (rs (AD D A) G) (rs (AD D (Ad m A)) G):=jm λb z=>by
  rcases z with z|⟨i,z⟩
  ·exact .inl z
  ·exact .inr ⟨i,(UZ z).1⟩
 refine ⟨h.ex,h.dm,λi p e=>h.fr i p (UZ e).1,λi p e=>h.da i p (UZ e).1,λi j p a b=>h.inj i j p (UZ a).1 (UZ b).1,by rw [qcd];exact h.len,λi d e=>?_,λi ds e=>?_⟩
 ·rw [MJ] at e;obtain ⟨s,e1,e2⟩:=Option.map_eq_some_iff.mp e;cases s with
  |un=>split at e2<;>cases e2
  |sh d'=>
   have:d'=d:=by split at e2<;>(cases e2;rfl)
   subst this;obtain ⟨t,b,c⟩:=h.sh i _ e1;exact ⟨t,b,c.up less⟩
  |ow ds=>
   split at e2
   ·rename_i hm;cases e2;obtain ⟨p,xs,b,c,g,f⟩:=h.ow i _ e1;refine ⟨_,c,.lst ?_ (f.up less)⟩;rw [JH]
    ·exact g
    ·rintro (z|⟨j,z⟩)
     ·exact h.nd b z
     ·have:=h.inj i j p b (UZ z).1;subst this;rw [(UZ z).2] at hm;cases hm
   ·cases e2
 ·rw [MJ] at e;obtain ⟨s,e1,e2⟩:=Option.map_eq_some_iff.mp e;cases s with
  |un=>split at e2<;>cases e2
  |sh d'=>split at e2<;>cases e2
  |ow ds'=>
   split at e2
   ·cases e2
   ·rename_i hm;cases e2;obtain ⟨p,xs,b,c,g,f⟩:=h.ow i _ e1;exact ⟨p,xs,by unfold Ad;rw [if_neg hm];exact b,c,g,f.up less⟩
def RS.viewD (h:RS D G0 A τ ρ G) {m:List Bool} {fv:List Nat} (hm:Tru (fv.all (mkb m))):EE fv (AD D (Ad m A)) G τ ρ:=by
 have:=(h.dem m).view (fv:=fv) λi hi=>by unfold Ad;rw [if_pos (List.all_eq_true.mp hm.h i hi)]
 intro i hi d hd;exact this i hi d (by rw [qjU];exact hd)
def Er (A:Nat->Option Addr) (i:Nat):Nat->Option Addr:=λj=>if j=i then none else A j
def UU {i j:Nat} {p:Addr} (h:Er A i j=some p):A j=some p/\j≠i:=by
 unfold Er at h;split at h
 ·cases h
 ·rename_i n;exact ⟨h,n⟩
def RS.put (h:RS D G0 A τ ρ G) (i:Nat) {x:T} {d:PyData} (hx:Dq (rs (AD D A) G) x d):RS D G0 (Er A i) (τ.set i (some x)) (ρ.set i (.sh d)) G:=by
 have less:Ex (rs (AD D A) G) (rs (AD D (Er A i)) G):=jm λb z=>by
  rcases z with z|⟨j,z⟩
  ·exact .inl z
  ·exact .inr ⟨j,(UU z).1⟩
 refine ⟨h.ex,h.dm,λj p e=>h.fr j p (UU e).1,λj p e=>h.da j p (UU e).1,λj k p a b=>h.inj j k p (UU a).1 (UU b).1,by simp [h.len],λj e he=>?_,λj ds e=>?_⟩
 ·rw [getElem?_set] at he ⊢;split at he
  ·rename_i hj;rw [if_pos hj];split at he
   ·rename_i hl;cases he;exact ⟨x,by rw [if_pos (by rw [← h.len];exact hl)],hx.up less⟩
   ·cases he
  ·rename_i hj;rw [if_neg hj];obtain ⟨t,b,c⟩:=h.sh j _ he;exact ⟨t,b,c.up less⟩
 ·rw [getElem?_set] at e ⊢;split at e
  ·split at e<;>cases e
  ·rename_i hj;rw [if_neg hj];obtain ⟨p,xs,b,c,g,f⟩:=h.ow j _ e;exact ⟨p,xs,by unfold Er;rw [if_neg (λz=>hj z.symm)];exact b,c,g,f.up less⟩
def RS.puts:∀ {ts:List (Nat×T)} {bs:List (Nat×PyData)} {A:Nat->Option Addr} {τ:St3} {ρ:Rho},RS D G0 A τ ρ G->Bd (rs (AD D A) G) ts bs->∃ A',RS D G0 A' (sets τ ts) (YN ρ bs) G
 |_,_,A,_,_,h,.nil=>⟨A,h⟩
 |_,_,A,_,_,h,.cons (i:=i) a b=>by
  unfold sets YN;exact RS.puts (h.put i a) (b.up (jm λb z=>by
   rcases z with z|⟨j,z⟩
   ·exact .inl z
   ·exact .inr ⟨j,(UU z).1⟩))
def RS.putN (h:RS D G0 A τ ρ G) (i:Nat) {x:T} {d:PyData} {ds:List PyData} (hd:d=.list ds) (E:Ex G G') (hx:Nw (AD D A) G G' x d):RS D G0 (λj=>if j=i then (match x with|.ref p=>some p|_=>none) else A j) (τ.set i (some x)) (ρ.set i (.ow ds)) G':=by
 rcases hx with hx|⟨p,xs,ds',rfl,e',gp,gp',hs⟩
 ·rw [hd] at hx;cases hx
 rw [hd] at e';cases e';have np:∀ {j q},A j=some q->q≠p:=λe=>by rintro rfl;exact h.da _ _ e gp
 have X1:Ex (rs (AD D A) G) (rs (AD D (λj=>if j=i then some p else A j)) G'):=λb o e=>by
  obtain ⟨n,e⟩:=qF e;rw [JH]
  ·exact E _ _ e
  ·rintro (z|⟨j,z⟩)
   ·exact n (.inl z)
   ·simp only at z;split at z
    ·cases z;rw [gp] at e;cases e
    ·exact n (.inr ⟨j,z⟩)
 refine ⟨h.ex.trans E,h.dm,λj q e=>?_,λj q e=>?_,λj k q a b=>?_,by simp [h.len],λj e he=>?_,λj es e=>?_⟩
 ·simp only at e;split at e
  ·cases e;cases z:G0 p with
   |none=>rfl
   |some o=>rw [h.ex _ _ z] at gp;cases gp
  ·exact h.fr j q e
 ·simp only at e;split at e
  ·cases e;rw [gp'];simp
  ·exact (h.up E).da j q e
 ·simp only at a b;split at a
  ·cases a;split at b
   ·rename_i h1 h2;rw [h1,h2]
   ·exact absurd rfl (np b)
  ·split at b
   ·cases b;exact absurd rfl (np a)
   ·exact h.inj j k q a b
 ·rw [getElem?_set] at he ⊢;split at he
  ·split at he<;>cases he
  ·rename_i hj;rw [if_neg hj];obtain ⟨t,b,c⟩:=h.sh j _ he;exact ⟨t,b,c.up X1⟩
 ·rw [getElem?_set] at e ⊢;split at e
  ·rename_i hj;subst hj;split at e
   ·rename_i hl;cases e;refine ⟨p,xs,by simp,by rw [if_pos rfl,if_pos (by rw [← h.len];exact hl)],gp',hs.up (jm λb z=>?_)⟩;rcases z with z|⟨j,z⟩
    ·exact .inl (.inl z)
    ·simp only at z;split at z
     ·cases z;exact .inr rfl
     ·exact .inl (.inr ⟨j,z⟩)
   ·cases e
  ·rename_i hj;rw [if_neg hj];obtain ⟨q,ys,b,c,g,f⟩:=h.ow j _ e;exact ⟨q,ys,by rw [if_neg (λz=>hj z.symm)];exact b,c,E _ _ g,f.up X1⟩
def RS.wr (h:RS D G0 A τ ρ G) {i:Nat} {p:Addr} {xs:List T} {ds:List PyData} (hi:A i=some p) (ht:τ[i]?=some (some (.ref p))) (hs:Dqs (rs (AD D A) G) xs ds):RS D G0 A τ (ρ.set i (.ow ds)) (gu G p (.lst xs)):=by
 have X1:Ex (rs (AD D A) G) (rs (AD D A) (gu G p (.lst xs))):=λb o e=>by
  obtain ⟨n,e⟩:=qF e;rw [JH n,ZX (by rintro rfl;exact n (.inr ⟨i,hi⟩))];exact e
 refine ⟨λb o e=>?_,h.dm,h.fr,λj q e=>?_,h.inj,by simp [h.len],λj e he=>?_,λj es e=>?_⟩
 ·rw [ZX (by rintro rfl;rw [h.fr i _ hi] at e;cases e)];exact h.ex _ _ e
 ·by_cases z:q=p
  ·subst z;rw [zl];simp
  ·rw [ZX z];exact h.da j q e
 ·rw [getElem?_set] at he;split at he
  ·split at he<;>cases he
  ·obtain ⟨t,b,c⟩:=h.sh j _ he;exact ⟨t,b,c.up X1⟩
 ·rw [getElem?_set] at e;split at e
  ·rename_i hj;subst hj;split at e
   ·cases e;exact ⟨p,xs,hi,ht,zl,hs.up X1⟩
   ·cases e
  ·rename_i hj;obtain ⟨q,ys,b,c,g,f⟩:=h.ow j _ e;exact ⟨q,ys,b,c,by rw [ZX (by rintro rfl;exact hj (h.inj i j _ hi b))];exact g,f.up X1⟩
def RS.base {Gb:Gp} (h:RS D Gb A τ ρ G) (e:Ex G0 Gb) (hd:Dom D G0):RS D G0 A τ ρ G:=
 ⟨e.trans h.ex,hd,(λi p a=>by
  cases z:G0 p with
  |none=>rfl
  |some o=>have:=h.fr i p a;rw [e _ _ z] at this;cases this),h.da,h.inj,h.len,h.sh,h.ow⟩
end
inductive Ot where
 |nx (ρ:Rho)|bk (ρ:Rho)|ct (ρ:Rho)|rt (d:PyData) (fr:Bool)
def qeL (D:Addr->Prop) (G0:Gp) (e:Ends3):Ot->Prop
 |.nx ρ=>∀ A τ G,RS D G0 A τ ρ G->e.nx τ G
 |.bk ρ=>∀ A τ G,RS D G0 A τ ρ G->e.bk τ G
 |.ct ρ=>∀ A τ G,RS D G0 A τ ρ G->e.ct τ G
 |.rt d fr=>∀ x G,Ex G0 G->Dq (rs D G) x d->(fr=true->Nw D G0 G x d)->e.rt x G
def qeL.base {D:Addr->Prop} {G0 Gb:Gp} {e:Ends3} {o:Ot} (h:qeL D G0 e o) (x:Ex G0 Gb) (hd:Dom D G0):qeL D Gb e o:=by
 cases o with
 |nx ρ=>exact λA τ G r=>h A τ G (r.base x hd)
 |bk ρ=>exact λA τ G r=>h A τ G (r.base x hd)
 |ct ρ=>exact λA τ G r=>h A τ G (r.base x hd)
 |rt d fr=>exact λy G a b c=>h y G (x.trans a) b λz=>(c z).back x
structure PuS (t:TS3) where
 f:Nat->Rho->Option Ot
 ok:∀ {D G0 A τ ρ G n o} {e:Ends3},RS D G0 A τ ρ G->f n ρ=some o->qeL D G0 e o->t e τ G
def QN:PuS zc:=⟨λ_ ρ=>some (.nx ρ),λh hf k=>by cases hf;exact k _ _ _ h⟩
def qlJ:PuS qiX:=⟨λ_ ρ=>none,λh hf k=>by cases hf⟩
def qi3 (a b:Nat->Rho->Option Ot) (n:Nat) (ρ:Rho):Option Ot:=(a n ρ).bind λo=>match o with|.nx ρ'=>b n ρ'|o=>some o
def QI {t u:TS3} (a:PuS t) (b:PuS u):PuS (za t u):=⟨qi3 a.f b.f,λ{D G0 A τ ρ G n o e} h hf k=>by
 unfold qi3 at hf;obtain ⟨o1,e1,hf⟩:=obb hf;refine a.ok h e1 ?_;cases o1 with
 |nx ρ'=>exact λA' τ' G' h'=>b.ok h' hf k
 |bk ρ'=>cases hf;exact k
 |ct ρ'=>cases hf;exact k
 |rt d fr=>cases hf;exact k⟩
def sIf {c:TT3} {t u:TS3} (pc:PuC c) (a:PuS t) (b:PuS u):PuS (Q2 c t u):=⟨λn ρ=>(pc.f ρ).bind λk=>if k then a.f n ρ else b.f n ρ,λh hf k=>by
 obtain ⟨o1,e1,hf⟩:=obb hf;refine pc.ok (h.viewAll _) h.domD e1 λG1 E1=>?_;cases o1 with
 |true=>exact a.ok (h.up E1) hf k
 |false=>exact b.ok (h.up E1) hf k⟩
def ZL {t:TE3} (a:PuE t):PuS (zu t):=⟨λ_ ρ=>(a.f ρ).map λd=>.rt d a.nw,λh hf k=>by
 obtain ⟨d,e1,rfl⟩:=Option.map_eq_some_iff.mp hf;exact a.ok (h.viewAll _) h.domD e1 λx G1 E1 D1 N1=>k x G1 (h.ex.trans E1) D1 λz=>(N1 z).back h.ex⟩
def qea (ρ:Rho) (i:Nat):Option Ot:=match ρ[i]? with|some (.ow ds)=>some (.rt (.list ds) true)|some (.sh d)=>some (.rt d false)|_=>none
def qcX (i:Nat):PuS (zu (v3 i)):=⟨λ_ ρ=>qea ρ i,λh hf k=>by
 unfold qea at hf;split at hf
 ·rename_i ds e;cases hf;obtain ⟨p,xs,b,c,g,f⟩:=h.ow i _ e;simp only [zu,v3,c];refine k _ _ h.ex (.lst (by rw [JH (h.nd b)];exact g) (f.up (jm λb z=>.inl z))) λ_=>.inr ⟨p,xs,ds,rfl,rfl,h.fr i p b,g,f.up (jm λq z=>?_)⟩;rcases z with z|z
  ·exact .inl z
  ·subst z;exact .inr ⟨i,b⟩
 ·rename_i d e;cases hf;obtain ⟨t,b,c⟩:=h.sh i _ e;simp only [zu,v3,b];exact k _ _ h.ex (c.up (jm λb z=>.inl z)) (λz=>by cases z)
 ·cases hf⟩
def SC:PyData->Bool
 |.none=>true|.bool _=>true|.int _=>true|.str _=>true|_=>false
def U6 {H H':Gp} {x:T} {d:PyData} (h:Dq H x d) (s:SC d=true):Dq H' x d:=by
 cases h<;>first|(constructor;done)|(simp [SC] at s;done)
def qlx:PyData->Sl
 |.list ds=>.ow ds
 |d=>.sh d
def KL (m:List Bool) (nw:Bool) (i:Nat) (d:PyData) (ρ:Rho):Rho:=if SC d then ρ.set i (.sh d) else (dm m ρ).set i (if nw then qlx d else .sh d)
def X0 {t:TE3} (a:PuE t) (i:Nat) (m:List Bool) (hm:Tru (a.fv.all (mkb m))):PuS (zT t (gn3 i)):=⟨λ_ ρ=>(a.f ρ).map λd=>.nx (KL m a.nw i d ρ),λ{D G0 A τ ρ G n o e} h hf k=>by
 obtain ⟨d,e1,rfl⟩:=Option.map_eq_some_iff.mp hf;refine a.ok (h.viewD hm) (h.dem m).dom e1 λx G1 E1 D1 N1=>?_;unfold KL at k;show e.nx (τ.set i (some x)) G1;split at k
 ·rename_i hs;exact k _ _ _ ((h.up E1).put i (U6 D1 hs))
 ·split at k
  ·rename_i hn;have N:=N1 hn;rcases id N with h2|⟨p,xs,ds,h1,h2,_⟩
   ·subst h2;rename_i hs;exact absurd rfl hs
   subst h2;exact k _ _ _ ((h.dem m).putN i rfl E1 N)
  ·exact k _ _ _ (((h.dem m).up E1).put i D1)⟩
def TR {t:TE3} {g:TG3} (a:PuE t) (pg:PuG g) (m:List Bool) (hm:Tru (a.fv.all (mkb m))):PuS (zT t g):=⟨λ_ ρ=>(a.f ρ).bind λd=>(pg.f d).map λbs=>.nx (YN (dm m ρ) bs),λ{D G0 A τ ρ G n o e} h hf k=>by
 obtain ⟨d,e1,hf⟩:=obb hf;obtain ⟨bs,e2,rfl⟩:=Option.map_eq_some_iff.mp hf;refine a.ok (h.viewD hm) (h.dem m).dom e1 λx G1 E1 D1 N1=>?_;obtain ⟨ts,bd,kg⟩:=pg.ok D1 e2;refine kg _ _ _ ?_;obtain ⟨A',h'⟩:=((h.dem m).up E1).puts bd;exact k _ _ _ h'⟩
def qiP (i j:Nat) (m:List Bool) (ds:List PyData) (ρ:Rho):Option Ot:=match ds with
 |[d,e]=>if SC d&&SC e then some (.nx ((ρ.set i (.sh d)).set j (.sh e))) else some (.nx (((dm m ρ).set i (.sh d)).set j (.sh e)))
 |_=>none
def qiF {D:Addr->Prop} {A:Nat->Option Addr} {G:Gp} {i:Nat}:Ex (rs (AD D A) G) (rs (AD D (Er A i)) G):=jm λb z=>by
 rcases z with z|⟨j,z⟩
 ·exact .inl z
 ·exact .inr ⟨j,(UU z).1⟩
def qgQ (i:Nat) (d:PyData) (ρ:Rho):Option Ot:=match (vw ρ i).bind asI,asI d with|some x,some y=>some (.nx (ρ.set i (.sh (.int (x+y)))))|_,_=>none
def qlb {t:TE3} (a:PuE t) (i:Nat):PuS (qd9 i (iI (·+·)) t):=⟨λ_ ρ=>(a.f ρ).bind λd=>qgQ i d ρ,λ{D G0 A τ ρ G n o e} h hf k=>by
 obtain ⟨d,e1,hf⟩:=obb hf;unfold qgQ at hf;split at hf
 ·rename_i u v hu hv;cases hf;obtain ⟨w,e2,hu⟩:=obb hu;have:=C2 hu;subst this;have:=C2 hv;subst this;obtain ⟨t,b,c⟩:=h.viewAll [i] i (by simp) _ e2;cases c;simp only [qd9,b];refine a.ok (h.viewAll _) h.domD e1 λy G1 E1 D1 _=>?_;cases D1;exact k _ _ _ ((h.up E1).put i (.int _))
 ·cases hf⟩
def slot (ρ:Rho) (i:Nat):Option (List PyData):=match ρ[i]? with|some (.ow ds)=>some ds|_=>none
def dmS (m:List Bool) (d:PyData) (ρ:Rho):Rho:=if SC d then ρ else dm m ρ
def RS.evalS {D:Addr->Prop} {G0 G:Gp} {A:Nat->Option Addr} {τ:St3} {ρ:Rho} (h:RS D G0 A τ ρ G) {t:TE3} (a:PuE t) (m:List Bool) (hm:Tru (a.fv.all (mkb m))) {d:PyData} (hf:a.f ρ=some d):∃ A1,RS D G0 A1 τ (dmS m d ρ) G/\∀ q:Q3,(∀ x G',Ex G G'->Dq (rs (AD D A1) G') x d->q x G')->t τ G q:=by
 unfold dmS;by_cases hs:SC d=true
 ·rw [if_pos hs];exact ⟨A,h,λq k=>a.ok (h.viewAll _) h.domD hf λx G1 E1 D1 _=>k x G1 E1 (U6 D1 hs)⟩
 ·rw [if_neg hs];exact ⟨Ad m A,h.dem m,λq k=>a.ok (h.viewD hm) (h.dem m).dom hf λx G1 E1 D1 _=>k x G1 E1 D1⟩
def qfp {t:TE3} (a:PuE t):PuS (qaf t):=⟨λ_ ρ=>(a.f ρ).map λ_=>.nx ρ,λh hf k=>by
 obtain ⟨d,e1,rfl⟩:=Option.map_eq_some_iff.mp hf;exact a.ok (h.viewAll _) h.domD e1 λx G1 E1 D1 N1=>k _ _ _ (h.up E1)⟩
def T2 (gf:PyData->Option (List (Nat×PyData))) (bf:Rho->Option Ot):List PyData->Rho->Option Ot
 |[],ρ=>some (.nx ρ)
 |d::r,ρ=>(gf d).bind λbs=>(bf (YN ρ bs)).bind λo=>match o with
  |.nx ρ'=>T2 gf bf r ρ'
  |.ct ρ'=>T2 gf bf r ρ'
  |.bk ρ'=>some (.nx ρ')
  |.rt d b=>some (.rt d b)
def CZ {stay:Gp->Prop} {g:TG3} {tb:TS3} {e:Ends3} (pg:PuG g) (pb:PuS tb) {D:Addr->Prop} {G0:Gp} {n:Nat} {o:Ot} {items0:List T} (hs:∀ A τ ρ G,RS D G0 A τ ρ G->stay G) (k:qeL D G0 e o) :
  ∀ (ds:List PyData) (items:List T),(∀ A τ ρ G,RS D G0 A τ ρ G->Dqs (rs (AD D A) G) items ds)->∀ A τ ρ G,RS D G0 A τ ρ G->T2 pg.f (pb.f n) ds ρ=some o->W5 stay g tb e items τ G
 |[],items,hi,A,τ,ρ,G,h,hf=>by
  cases hf;have:=hi _ _ _ _ h;cases this;exact ⟨hs _ _ _ _ h,k _ _ _ h⟩
 |d::ds,items,hi,A,τ,ρ,G,h,hf=>by
  have hh:=hi _ _ _ _ h;cases hh with
  |cons hx hr=>
   rename_i x items;unfold T2 at hf;obtain ⟨bs,e1,hf⟩:=obb hf;obtain ⟨o1,e2,hf⟩:=obb hf;obtain ⟨ts,bd,kg⟩:=pg.ok hx e1;refine ⟨hs _ _ _ _ h,kg _ _ _ ?_⟩;obtain ⟨A',h'⟩:=h.puts bd;refine pb.ok h' e2 ?_;have hi':∀ A τ ρ G,RS D G0 A τ ρ G->Dqs (rs (AD D A) G) items ds:=λA τ ρ G h=>by
    have:=hi _ _ _ _ h;cases this with
    |cons a b=>exact b
   cases o1 with
   |nx ρ'=>exact λA2 τ2 G2 h2=>CZ (items0:=items0) pg pb hs k ds items hi' _ _ _ _ h2 hf
   |ct ρ'=>exact λA2 τ2 G2 h2=>CZ (items0:=items0) pg pb hs k ds items hi' _ _ _ _ h2 hf
   |bk ρ'=>cases hf;exact k
   |rt d fr=>cases hf;exact k
def qhj (pi:Rho->Option (List PyData)) (nm:Bool) (m:List Bool) (gf:PyData->Option (List (Nat×PyData))) (bf:Nat->Rho->Option Ot) (n:Nat) (ρ:Rho):Option Ot:=(pi ρ).bind λds=>T2 gf (bf n) ds (if nm then ρ else dm m ρ)
def qh2 {wi:TI3} {g:TG3} {tb:TS3} (pi:PuI wi) (pg:PuG g) (pb:PuS tb) (m:List Bool) (hm:Tru (pi.fv.all (mkb m))):PuS (NH wi g tb):=⟨qhj pi.f pi.nm m pg.f pb.f,λ{D G0 A τ ρ G n o e} h hf k=>by
 unfold qhj at hf;obtain ⟨ds,e1,hf⟩:=obb hf;refine pi.ok (h.viewD hm) (h.dem m).dom e1 λitems stay G1 E1 D1 hs hnm=>?_;cases hb:pi.nm with
 |true=>
  rw [hb,if_pos rfl] at hf;obtain ⟨ns,rfl⟩:=hnm hb;have:=D1.ints;subst this;exact CZ (items0:=[]) pg pb (λ_ _ _ _ _=>hs _ (.inl hb)) k _ _ (λA τ ρ G _=>Dqs.ofInts _) _ _ _ _ (h.up E1) hf
 |false=>
  rw [hb,if_neg Bool.false_ne_true] at hf;have h1:=(h.dem m).up E1;have b1:Ex G0 (rs (λb=>∃ i,Ad m A i=some b) G1):=λb o e=>by
   rw [JH]
   ·exact h1.ex _ _ e
   ·rintro ⟨i,z⟩;rw [h1.fr i _ z] at e;cases e
  have h2:RS D (rs (λb=>∃ i,Ad m A i=some b) G1) (Ad m A) τ (dm m ρ) G1:=⟨DN,h.dm.up b1,λi p z=>by unfold rs;exact jU ⟨i,z⟩,h1.da,h1.inj,h1.len,h1.sh,h1.ow⟩
  have X:∀ A2 τ2 ρ2 G2,RS D (rs (λb=>∃ i,Ad m A i=some b) G1) A2 τ2 ρ2 G2->Ex (rs (AD D (Ad m A)) G1) (rs (AD D A2) G2):=λA2 τ2 ρ2 G2 r b o e=>by
   obtain ⟨n1,e⟩:=qF e;have eb:rs (λb=>∃ i,Ad m A i=some b) G1 b=some o:=by rw [JH (λz=>n1 (.inr z))];exact e
   rw [JH]
   ·exact r.ex _ _ eb
   ·rintro (z|⟨i,z⟩)
    ·exact n1 (.inl z)
    ·rw [r.fr i _ z] at eb;cases eb
  exact CZ (items0:=[]) pg pb (λA2 τ2 ρ2 G2 r=>hs _ (.inr ((X _ _ _ _ r).trans DN))) (k.base b1 h.dm) _ _ (λA2 τ2 ρ2 G2 r=>D1.up (X _ _ _ _ r)) _ _ _ _ h2 hf⟩
def whP (cf:Rho->Option Bool) (bf:Rho->Option Ot):Nat->Rho->Option Ot
 |0,_=>none
 |n+1,ρ=>(cf ρ).bind λk=>if k then (bf ρ).bind λo=>match o with
   |.nx ρ'=>whP cf bf n ρ'
   |.ct ρ'=>whP cf bf n ρ'
   |.bk ρ'=>some (.nx ρ')
   |.rt d b=>some (.rt d b)
  else some (.nx ρ)
def sWh {c:TT3} {tb:TS3} (pc:PuC c) (pb:PuS tb):PuS (RP c tb):=⟨λn ρ=>whP pc.f (pb.f n) n ρ,λ{D G0 A τ ρ G n o e} h hf k=>by
 refine ⟨λm τ G=>∃ A ρ,RS D G0 A τ ρ G/\whP pc.f (pb.f n) m ρ=some o,⟨n,A,ρ,h,hf⟩,?_⟩;rintro m τ G ⟨A,ρ,h,hf⟩;cases m with
 |zero=>cases hf
 |succ m=>
  unfold whP at hf;obtain ⟨b,e1,hf⟩:=obb hf;refine pc.ok (h.viewAll _) h.domD e1 λG1 E1=>?_;cases b with
  |true=>
   rw [if_pos rfl] at hf ⊢;obtain ⟨o1,e2,hf⟩:=obb hf;cases o1 with
   |nx ρ'=>exact ⟨λτ' G'=>∃ A',RS D G0 A' τ' ρ' G',λτ' G' ⟨A',h'⟩=>⟨m,by omega,A',ρ',h',hf⟩,pb.ok (h.up E1) e2 λA' τ' G' h'=>⟨A',h'⟩⟩
   |ct ρ'=>exact ⟨λτ' G'=>∃ A',RS D G0 A' τ' ρ' G',λτ' G' ⟨A',h'⟩=>⟨m,by omega,A',ρ',h',hf⟩,pb.ok (h.up E1) e2 λA' τ' G' h'=>⟨A',h'⟩⟩
   |bk ρ'=>cases hf;exact ⟨λ_ _=>False,λ_ _ z=>z.elim,pb.ok (h.up E1) e2 k⟩
   |rt d fr=>cases hf;exact ⟨λ_ _=>False,λ_ _ z=>z.elim,pb.ok (h.up E1) e2 k⟩
  |false=>
   cases hf;rw [if_neg Bool.false_ne_true];exact k _ _ _ (h.up E1)⟩
def Z2 (fr:Bool):Option Ot->Option PyData
 |some (.rt d b)=>if fr=true/\b=false then (match d with|.none=>some .none|_=>none) else some d
 |some (.nx _)=>if fr then none else some .none
 |_=>none
def st (ds:List PyData) (N:Nat):Rho:=ds.map Sl.sh++List.replicate (N-ds.length) .un
def run (f:Nat->Rho->Option Ot) (k N n:Nat) (fr:Bool) (ds:List PyData):Option PyData:=if ds.length=k then Z2 fr (f n (st ds N)) else none
def qQ {t:TS3} (b:PuS t) (N:List Str) (k n:Nat) (fr:Bool):∀ ts G q,PSp (run b.f k N.length n fr) fr ts G q->ts.length=k/\t { nx:=λ_ G'=>q .non G',rt:=q } (qB N ts) G:=by
 rintro ts G q ⟨D,ds,d,hs,hd,hf,h⟩;unfold run at hf;split at hf
 ·rename_i hk;refine ⟨by rw [hs.length];exact hk,?_⟩;have r:RS D G (λ_=>none) (qB N ts) (st ds N.length) G:=by
   refine ⟨Ex.refl,hd,(λi p e=>by cases e),(λi p e=>by cases e),(λi j p e=>by cases e),(by simp [st,qB,hs.length]),λi d' e=>?_,λi es e=>?_⟩
   ·unfold st at e;unfold qB;by_cases hi:i<ds.length
    ·rw [List.getElem?_append_left (by simpa using hi),getElem?_map] at e;obtain ⟨d2,e3,e4⟩:=Option.map_eq_some_iff.mp e;cases e4;obtain ⟨x,e5,hx⟩:=hs.get e3;refine ⟨x,?_,hx.up (jm λb z=>?_)⟩
     ·rw [List.getElem?_append_left (by simp [hs.length];exact hi),getElem?_map,e5];rfl
     ·rcases z with z|⟨i,z⟩
      ·exact z
      ·cases z
    ·rw [List.getElem?_append_right (by simpa using hi),List.getElem?_replicate] at e;split at e<;>cases e
   ·unfold st at e;by_cases hi:i<ds.length
    ·rw [List.getElem?_append_left (by simpa using hi),getElem?_map] at e;obtain ⟨d2,e3,e4⟩:=Option.map_eq_some_iff.mp e;cases e4
    ·rw [List.getElem?_append_right (by simpa using hi),List.getElem?_replicate] at e;split at e<;>cases e
  unfold Z2 at hf;split at hf
  ·rename_i d' b' e;split at hf
   ·split at hf
    ·cases hf;exact b.ok r e λx G' a c z=>h x G' a c λ_=>.inl rfl
    ·cases hf
   ·rename_i hb;cases hf;exact b.ok r e λx G' a c z=>h x G' a c λw=>z (by
     cases b' with
     |true=>rfl
     |false=>exact absurd ⟨w,rfl⟩ hb)
  ·rename_i ρ' e;split at hf
   ·cases hf
   ·rename_i hb;cases hf;exact b.ok r e λA τ G' r'=>h .non G' r'.ex .non λw=>absurd w hb
  ·cases hf
 ·cases hf
def qaE {fr:Bool}:∀ ts G q,PSp (λ_=>none) fr ts G q->False:=λts G q ⟨_,_,_,_,_,h,_⟩=>by cases h
def Fn3.pz {P:Program} {w:World} {K:Frg} {mg:Str->Option Value} {base:Heap} {k:Nat} {x:Str} {sp:Sp3} (F:Fn3 P w K mg base k x sp) (fr:Bool):Fn3 P w K mg base k x (PSp (λ_=>none) fr):=F.imp λts G q h=>(qaE ts G q h).elim
def qkK {i:Nat}:(bV i).f=λρ=>vw ρ i:=id rfl
def qca {i:Int}:(qM i).f=λ_=>some (.int i):=id rfl
def qgq {i:Bool}:(bBl i).f=λ_=>some (.bool i):=id rfl
def qbg {i:Str}:(CC i).f=λ_=>some (.str i):=id rfl
def qk9 {r:R3} {ta tb:TE3} {R:OpD r} {a:PuE ta} {b:PuE tb}:(bO R a b).f=λρ=>(a.f ρ).bind λx=>(b.f ρ).bind λy=>R.f x y:=id rfl
def qbN:qV.f=λ_=>some []:=id rfl
def M4 {ta:TE3} {tr:TA3} {a:PuE ta} {r:PuA tr}:(qg a r).f=λρ=>(a.f ρ).bind λx=>(r.f ρ).bind λxs=>some (x::xs):=id rfl
def qcr {t:TA3} {a:PuA t} {hn:Tru (Nat.ble a.n 1000)}:(qab a hn).f=λρ=>(a.f ρ).map .tuple:=id rfl
def qa4 {t:TA3} {a:PuA t} {hn:Tru (Nat.ble a.n 1000)}:(qiS a hn).f=λρ=>(a.f ρ).map .list:=id rfl
def KH {r:List T->Gp->Q3->Prop} {t:TA3} {R:FnD r} {a:PuA t}:(qy R a).f=λρ=>(a.f ρ).bind R.f:=id rfl
def qiv {t:TE3} {a:PuE t}:(bTb a).f=λρ=>(a.f ρ).bind asB:=id rfl
def qfT {t u:TT3} {a:PuC t} {b:PuC u}:(bOr a b).f=λρ=>(a.f ρ).bind λk=>if k then some true else b.f ρ:=id rfl
def qcp {t:TT3} {a:PuC t}:(NL a).f=λρ=>(a.f ρ).map (! ·):=id rfl
def qeT:bTt.f=λ_=>some true:=id rfl
def LX {ta tb:TE3} {a:PuE ta} {b:PuE tb}:(WH a b).f=λρ=>((a.f ρ).bind asB).bind λk=>if k then b.f ρ else some (.bool false):=id rfl
def MC {ta:TE3} {a:PuE ta}:(qfW a).f=λρ=>((a.f ρ).bind asB).map λk=>.bool (!k):=id rfl
def qfk {r r':R3} {ta tb tc:TE3} {R:OpD r} {R':OpD r'} {a:PuE ta} {b:PuE tb} {c:PuE tc}:(bCh R R' a b c).f=λρ=>(a.f ρ).bind λx=>(b.f ρ).bind λy=>((R.f x y).bind asB).bind λk=>if k then (c.f ρ).bind λz=>R'.f y z else some (.bool false):=id rfl
def qbw {ta:TE3} {a:PuE ta}:(qiT a).f=λρ=>((a.f ρ).bind asI).map λi=>.int (Builtin.Int.intBits i):=id rfl
def qcE {ta:TE3} {g:String->Bool} {a:PuE ta}:(qdL g a).f=λρ=>(a.f ρ).bind λd=>(tyD d).map λt=>.bool (g t):=id rfl
def qhe:bNp.f=λ_=>some none:=id rfl
def qhq {t:TE3} {a:PuE t}:(bSp a).f=λρ=>((a.f ρ).bind asI).map some:=id rfl
def qgE {te:TE3} {tl th:TO3} {a:PuE te} {l:PuO tl} {h:PuO th}:(bSl a l h).f=λρ=>(a.f ρ).bind λd=>(l.f ρ).bind λlo=>(h.f ρ).bind λhi=>slD d lo hi:=id rfl
def qir {wi:TI3} {g:TG3} {tif:TT3} {te:TE3} {pi:PuI wi} {pg:PuG g} {pc:PuC tif} {pe:PuE te} {m:List (Option Nat)} {hm:Tru (pg.tg.all λi=>m[i]?==some none)}:(bLc pi pg pc pe m hm).f=lcF pi.f (lcH pg.f pc.f pe.f) m:=id rfl
def qa2:LC.f=qe8:=id rfl
def qa0:qkR.f=qiJ:=id rfl
def qcn:qiI.f=qeh:=id rfl
def qbS:qiQ.f=qfx:=id rfl
def KF:qhk.f=mxD:=id rfl
def L0 {F:List PyData->Option PyData} {fr:Bool}:(qS F fr).f=F:=id rfl
def qii {g:Int->Int->Int} {i j:Int}:(opI g).f (.int i) (.int j)=some (.int (g i j)):=id rfl
def qhV {g:Int->Int->Bool} {i j:Int}:(opB g).f (.int i) (.int j)=some (.bool (g i j)):=id rfl
def qfF {C:Int->Int->Prop} {g:Int->Int->Int}:(opC C g).f=cI C g:=id rfl
def qb0 {n:Bool}:(VT n).f=eqD n:=id rfl
def LH {n:Bool}:(qg5 n).f=qiO n:=id rfl
def qbX:jR.f=ixD:=id rfl
def T5:WO.f=qiR:=id rfl
def C6:qbi.f=qfd:=id rfl
def qcs {t:TE3} {a:PuE t}:(qi8 a).f=λρ=>(a.f ρ).bind qad:=id rfl
def qaV {t:TA3} {a:PuA t}:(qdh a).f=λρ=>(a.f ρ).bind qfG:=id rfl
def K9 {t:TA3} {a:PuA t}:(RZ a).f=λρ=>(a.f ρ).bind λds=>match ds with|[d]=>(qad d).map λus=>enD 0 us|_=>none:=id rfl
def C9 {t:TA3} {a:PuA t}:(RZ a).nm=false:=id rfl
def MN {t:TA3} {a:PuA t}:(qdh a).nm=true:=id rfl
def qkP {i:Nat}:(gN i).f=λd=>some [(i,d)]:=id rfl
def qcx:T0.f []=some []:=id rfl
def MR {t:TG3} {u:X3} {a:PuG t} {b:PuGs u} {d:PyData} {r:List PyData}:(zX a b).f (d::r)=(a.f d).bind λx=>(b.f r).map λy=>x++y:=id rfl
def qbQ {u:X3} {n:Nat} {b:PuGs u} {ds:List PyData}:(T4 n b).f (.tuple ds)=if ds.length=n then b.f ds else none:=id rfl
def MT:QN.f=λ_ ρ=>some (.nx ρ):=id rfl
def qaX {t u:TS3} {a:PuS t} {b:PuS u}:(QI a b).f=qi3 a.f b.f:=id rfl
def qf3 {c:TT3} {t u:TS3} {pc:PuC c} {a:PuS t} {b:PuS u}:(sIf pc a b).f=λn ρ=>(pc.f ρ).bind λk=>if k then a.f n ρ else b.f n ρ:=id rfl
def qb7 {t:TE3} {a:PuE t}:(ZL a).f=λ_ ρ=>(a.f ρ).map λd=>.rt d a.nw:=id rfl
def KR {i:Nat}:(qcX i).f=λ_ ρ=>qea ρ i:=id rfl
def qb6 {t:TE3} {a:PuE t} {i:Nat} {m:List Bool} {hm:Tru (a.fv.all (mkb m))}:(X0 a i m hm).f=λ_ ρ=>(a.f ρ).map λd=>.nx (KL m a.nw i d ρ):=id rfl
def M1 {t:TE3} {g:TG3} {a:PuE t} {pg:PuG g} {m:List Bool} {hm:Tru (a.fv.all (mkb m))}:(TR a pg m hm).f=λ_ ρ=>(a.f ρ).bind λd=>(pg.f d).map λbs=>.nx (YN (dm m ρ) bs):=id rfl
def qbD {t:TE3} {a:PuE t} {i:Nat}:(qlb a i).f=λ_ ρ=>(a.f ρ).bind λd=>qgQ i d ρ:=id rfl
def MD {t:TE3} {a:PuE t}:(qfp a).f=λ_ ρ=>(a.f ρ).map λ_=>.nx ρ:=id rfl
def qcl {wi:TI3} {g:TG3} {tb:TS3} {pi:PuI wi} {pg:PuG g} {pb:PuS tb} {m:List Bool} {hm:Tru (pi.fv.all (mkb m))}:(qh2 pi pg pb m hm).f=qhj pi.f pi.nm m pg.f pb.f:=id rfl
def qhn {c:TT3} {tb:TS3} {pc:PuC c} {pb:PuS tb}:(sWh pc pb).f=λn ρ=>whP pc.f (pb.f n) n ρ:=id rfl
def KY {i:Int}:(qM i).nw=false:=id rfl
def qbz {i:Bool}:(bBl i).nw=false:=id rfl
def qfD {r:R3} {ta tb:TE3} {R:OpD r} {a:PuE ta} {b:PuE tb}:(bO R a b).nw=R.nw:=id rfl
def MH {t:TA3} {a:PuA t} {hn:Tru (Nat.ble a.n 1000)}:(qab a hn).nw=false:=id rfl
def CU {r:List T->Gp->Q3->Prop} {t:TA3} {R:FnD r} {a:PuA t}:(qy R a).nw=R.nw:=id rfl
def RD {F:List PyData->Option PyData} {fr:Bool}:(qS F fr).nw=fr:=id rfl
def RA {ta tb:TE3} {a:PuE ta} {b:PuE tb}:(WH a b).nw=false:=id rfl
def K1 {ta:TE3} {a:PuE ta}:(qiT a).nw=false:=id rfl
def M0:LC.nw=false:=id rfl
def LP:qiI.nw=false:=id rfl
def KM:qiQ.nw=false:=id rfl
def MF:jR.nw=false:=id rfl
def RE:WO.nw=false:=id rfl
def L7 {n:Bool}:(VT n).nw=false:=id rfl
def qcv {g:Int->Int->Int}:(opI g).nw=false:=id rfl
def qb4 {C:Int->Int->Prop} {g:Int->Int->Int}:(opC C g).nw=false:=id rfl
def qkW {s:Sl} {r:Rho}:vw (s::r) 0=s.d:=id rfl
def qkZ {s:Sl} {r:Rho} {i:Nat}:vw (s::r) (i+1)=vw r i:=id rfl
def qfv {d:PyData}:(Sl.sh d).d=some d:=id rfl
def qil {ds:List PyData}:(Sl.ow ds).d=some (.list ds):=id rfl
def qhU:Sl.un.d=none:=id rfl
def KZ {r:Rho} {d:PyData}:qea (.sh d::r) 0=some (.rt d false):=id rfl
def qa1 {s:Sl} {r:Rho} {i:Nat}:qea (s::r) (i+1)=qea r i:=id rfl
def qfl {xs:List PyData} {i:Int}:ixD (.tuple xs) (.int i)=L2.atI xs i:=id rfl
def qgB {xs:List PyData} {i:Int}:ixD (.list xs) (.int i)=L2.atI xs i:=id rfl
def at0 {α:Type} {a:α} {r:List α}:L2.atI (a::r) 0=some a:=by simp [L2.atI,ixN]
def at1 {α:Type} {a b:α} {r:List α}:L2.atI (a::b::r) 1=some b:=by
 have h:ixN (a::b::r).length 1=some 1:=by unfold ixN;rw [if_pos (by omega),if_pos (by simp;omega)];rfl
 unfold L2.atI;rw [h];rfl
def at2 {α:Type} {a b c:α} {r:List α}:L2.atI (a::b::c::r) 2=some c:=by
 have h:ixN (a::b::c::r).length 2=some 2:=by unfold ixN;rw [if_pos (by omega),if_pos (by simp;omega)];rfl
 unfold L2.atI;rw [h];rfl
def at3 {α:Type} {a b c d:α} {r:List α}:L2.atI (a::b::c::d::r) 3=some d:=by
 have h:ixN (a::b::c::d::r).length 3=some 3:=by unfold ixN;rw [if_pos (by omega),if_pos (by simp;omega)];rfl
 unfold L2.atI;rw [h];rfl
def atN {α:Type} {xs:List α} {k:Nat} (h:k<xs.length):L2.atI xs (k:Int)=xs[k]?:=by
 have e:ixN xs.length (k:Int)=some k:=by unfold ixN;rw [if_pos (by omega),if_pos (by omega)];rfl
 unfold L2.atI;rw [e];rfl
def eqS {n:Bool} {a b:Str}:eqD n (.str a) (.str b)=some (.bool (if n then !decide (a=b) else decide (a=b))):=id rfl
def eqI {n:Bool} {a b:Int}:eqD n (.int a) (.int b)=some (.bool (if n then !decide (a=b) else decide (a=b))):=id rfl
def TB {C:Int->Int->Prop} {g:Int->Int->Int} {i j:Int} (h:C i j):cI C g (.int i) (.int j)=some (.int (g i j)):=by simp only [cI];exact jU h
def qgN {i j:Int} (h:-1000000<j/\j<1000000):cI YA (·*·) (.int i) (.int j)=some (.int (i*j)):=TB (.inr ⟨by omega,by omega⟩)
def K4 {i j:Int} (h:-1000000<i/\i<1000000):cI YA (·*·) (.int i) (.int j)=some (.int (i*j)):=TB (.inl ⟨by omega,by omega⟩)
def RO {i j:Int} (h:0<j):cI (λ_ j=>0<j) (·%·) (.int i) (.int j)=some (.int (i%j)):=TB h
def LR {i j:Int} (h:0<j/\j<1073741824):cI T3 (·/·) (.int i) (.int j)=some (.int (i/j)):=TB h
def KW {i j:Int} (h:0<=j/\j<=1000000/\i.natAbs<2 ^ 64):cI ED (λi j=>i*2 ^ j.toNat) (.int i) (.int j)=some (.int (i*2 ^ j.toNat)):=TB h
def qaY {i j:Int} (h:0<=j):cI (λ_ j=>0<=j) (λi j=>i/2 ^ j.toNat) (.int i) (.int j)=some (.int (i/2 ^ j.toNat)):=TB h
def qkM {i j:Int}:qiR (.int i) (.int j)=some (.int (i+j)):=id rfl
def qey {j:Int} (h:-1000000000<=j/\j<1000000000):qfG [.int j]=some ((VX 0 j.toNat).map PyData.int):=by simp only [qfG];exact jU ⟨by omega,by omega⟩
def EX {pi:Rho->Option (List PyData)} {h:Rho->PyData->Option (Option PyData)} {m:List (Option Nat)} {ρ:Rho} {ds fs:List PyData} (h1:pi ρ=some ds) (h2:lcP (h (XM m ρ)) ds=some fs) (h3:fs.length<=16777216):lcF pi h m ρ=some (.list fs):=by unfold lcF;rw [h1];simp only [Option.bind_some,h2];exact jU h3
def NR {gf:PyData->Option (List (Nat×PyData))} {bf:Rho->Option Ot} {α:Type} {g:α->PyData} (xs:List α) (I:Nat->Rho->Prop) {ρ:Rho} (h0:I 0 ρ)
  (hs:∀ i x ρ,xs[i]?=some x->I i ρ->∃ bs ρ',gf (g x)=some bs/\(bf (YN ρ bs)=some (.nx ρ')\/bf (YN ρ bs)=some (.ct ρ'))/\I (i+1) ρ'):∃ ρ',T2 gf bf (xs.map g) ρ=some (.nx ρ')/\I xs.length ρ':=by
 have key:∀ (r:List α) (i:Nat) (ρ:Rho),xs.drop i=r->i<=xs.length->I i ρ->∃ ρ',T2 gf bf (r.map g) ρ=some (.nx ρ')/\I xs.length ρ':=by
  intro r;induction r with
  |nil=>
   intro i ρ e hi h;have:i=xs.length:=by
    have:=congrArg List.length e;simp at this;omega
   subst this;exact ⟨ρ,rfl,h⟩
  |cons x r ih=>
   intro i ρ e hi h;have hl:i<xs.length:=by
    have:=congrArg List.length e;simp at this;omega
   have e':=List.drop_eq_getElem_cons hl;rw [e] at e';injection e' with e1 e2;obtain ⟨bs,ρ',h1,h2,h3⟩:=hs i x ρ (by rw [getElem?_eq_getElem hl,e1]) h;obtain ⟨ρ2,h4,h5⟩:=ih (i+1) ρ' e2.symm hl h3;refine ⟨ρ2,?_,h5⟩;simp only [map_cons,T2,h1,Option.bind_some];rcases h2 with h2|h2<;>(rw [h2];exact h4)
 exact key xs 0 ρ (by simp) (Nat.zero_le _) h0
def sqk (b:Nat->Rho->Option Ot) (n:Nat) (o:Ot):Option Ot:=match o with|.nx ρ'=>b n ρ'|o=>some o
def qck {a b:Nat->Rho->Option Ot} {n:Nat} {ρ:Rho}:qi3 a b n ρ=(a n ρ).bind (sqk b n):=id rfl
def qcy {b:Nat->Rho->Option Ot} {n:Nat} {ρ:Rho}:sqk b n (.nx ρ)=b n ρ:=id rfl
def qbZ {b:Nat->Rho->Option Ot} {n:Nat} {d:PyData} {f:Bool}:sqk b n (.rt d f)=some (.rt d f):=id rfl
def qbL {d:PyData} {b:Bool}:Z2 false (some (.rt d b))=some d:=by simp [Z2]
def LG {ρ:Rho}:Z2 false (some (.nx ρ))=some .none:=id rfl
def qht {b:Bool}:asB (.bool b)=some b:=id rfl
def qiC {b:Int}:asI (.int b)=some b:=id rfl
def qba {xs:List PyData}:qe8 [.tuple xs]=some (.int xs.length):=id rfl
def qcc {xs:List PyData}:qe8 [.list xs]=some (.int xs.length):=id rfl
def qbC {xs:List PyData}:qiJ [.list xs]=some (.tuple xs):=id rfl
def C5 {xs:List Bool}:qeh [.list (xs.map PyData.bool)]=some (.bool (xs.all id)):=by simp only [qeh,qaw,Option.map_some]
def qjL {xs:List Int} (h:xs≠[]):mxD [.list (xs.map PyData.int)]=some (.int (mx xs)):=by simp only [mxD,U4,Option.bind_some];exact jU h
def qb5 {xs:List Int} (h:CB xs):qfx [.list (xs.map PyData.int)]=some (.int xs.sum):=by simp only [qfx,U4,Option.bind_some];exact jU h
def qcj {xs:List PyData}:qad (.tuple xs)=some xs:=id rfl
def qbf {xs:List PyData}:qad (.list xs)=some xs:=id rfl
def qgo {i:Int}:tyD (.int i)=some "int" := id rfl
def qge {i:List PyData}:tyD (.tuple i)=some "tuple" := id rfl
def qbh {n a b:Bool}:qiO n (.bool a) (.bool b)=some (.bool (if n then a != b else a==b)):=id rfl
def qgs {m:List Bool} {nw:Bool} {i:Nat} {v:Int} {ρ:Rho}:KL m nw i (.int v) ρ=ρ.set i (.sh (.int v)):=id rfl
def qgZ {m:List Bool} {nw:Bool} {i:Nat} {v:Str} {ρ:Rho}:KL m nw i (.str v) ρ=ρ.set i (.sh (.str v)):=id rfl
def qcL {m:List Bool} {nw:Bool} {i:Nat} {v:List PyData} {ρ:Rho}:KL m nw i (.tuple v) ρ=(dm m ρ).set i (.sh (.tuple v)):=by cases nw<;>rfl
def qcC {m:List Bool} {i:Nat} {v:List PyData} {ρ:Rho}:KL m true i (.list v) ρ=(dm m ρ).set i (.ow v):=id rfl
def qkL {ρ:Rho}:dm [] ρ=ρ:=id rfl
def qkN {m:List Bool} {s:Sl} {ρ:Rho}:dm (true::m) (s::ρ)=s.dem::dm m ρ:=id rfl
def qk1 {m:List Bool} {s:Sl} {ρ:Rho}:dm (false::m) (s::ρ)=s::dm m ρ:=id rfl
def qiy {ds:List PyData}:(Sl.ow ds).dem=.sh (.list ds):=id rfl
def qgD {d:PyData}:(Sl.sh d).dem=.sh d:=id rfl
def qiG {ρ:Rho}:XM [] ρ=[]:=id rfl
def qfK {m:List (Option Nat)} {ρ:Rho}:XM (none::m) ρ=.un::XM m ρ:=id rfl
def cp (o:Option PyData):Sl:=match o with|some d=>.sh d|none=>.un
def qhd {m:List (Option Nat)} {j:Nat} {ρ:Rho}:XM (some j::m) ρ=cp (vw ρ j)::XM m ρ:=id rfl
def qkT {d:PyData}:cp (some d)=.sh d:=id rfl
def qef {i:Nat} {x y:Int} {ρ:Rho} (h:vw ρ i=some (.int x)):qgQ i (.int y) ρ=some (.nx (ρ.set i (.sh (.int (x+y))))):=by unfold qgQ;rw [h];rfl
def qf1 {i j:Nat} {m:List Bool} {x y:Int} {ρ:Rho}:qiP i j m [.int x,.int y] ρ=some (.nx ((ρ.set i (.sh (.int x))).set j (.sh (.int y)))):=id rfl
def qb2 {pi:Rho->Option (List PyData)} {m:List Bool} {gf:PyData->Option (List (Nat×PyData))} {bf:Nat->Rho->Option Ot} {n:Nat} {ρ:Rho}:qhj pi true m gf bf n ρ=(pi ρ).bind λds=>T2 gf (bf n) ds ρ:=id rfl
def qcf {pi:Rho->Option (List PyData)} {m:List Bool} {gf:PyData->Option (List (Nat×PyData))} {bf:Nat->Rho->Option Ot} {n:Nat} {ρ:Rho}:qhj pi false m gf bf n ρ=(pi ρ).bind λds=>T2 gf (bf n) ds (dm m ρ):=id rfl
def qbe {ρ:Rho}:YN ρ []=ρ:=id rfl
def qcb {ρ:Rho} {i:Nat} {d:PyData} {r:List (Nat×PyData)}:YN ρ ((i,d)::r)=YN (ρ.set i (.sh d)) r:=id rfl
def WR {gf:PyData->Option (List (Nat×PyData))} {cf:Rho->Option Bool} {ef:Rho->Option PyData} {ρ:Rho} {d:PyData}:lcH gf cf ef ρ d=(gf d).bind λbs=>(cf (YN ρ bs)).bind λk=>if k then (ef (YN ρ bs)).map some else some none:=id rfl
def Nx (o:Option Ot) (P:Rho->Prop):Prop:=match o with|some (.nx ρ)=>P ρ|some (.ct ρ)=>P ρ|_=>False
def qhL {ρ:Rho} {P:Rho->Prop}:Nx (some (.nx ρ)) P=P ρ:=id rfl
def qfP {o:Option Ot} {P:Rho->Prop} (h:Nx o P):∃ ρ,(o=some (.nx ρ)\/o=some (.ct ρ))/\P ρ:=by
 unfold Nx at h;split at h
 ·exact ⟨_,.inl rfl,h⟩
 ·exact ⟨_,.inr rfl,h⟩
 ·exact h.elim
section
variable {gf:PyData->Option (List (Nat×PyData))} {bf:Rho->Option Ot} {α:Type} {g:α->PyData} {ρ:Rho} {Q:Option Ot->Prop} {F:Ot->Option Ot}
def qah (xs:List α) (I:Nat->Rho->Prop) (h0:I 0 ρ) (hs:∀ i x ρ,xs[i]?=some x->I i ρ->Nx ((gf (g x)).bind λbs=>bf (YN ρ bs)) (I (i+1))) (k:∀ ρ',I xs.length ρ'->Q (some (.nx ρ'))):Q (T2 gf bf (xs.map g) ρ):=by
 obtain ⟨ρ',e,h⟩:=NR (gf:=gf) (bf:=bf) (g:=g) xs I h0 λi x ρ hx hi=>by
  obtain ⟨ρ2,e,h⟩:=qfP (hs i x ρ hx hi);cases e1:gf (g x) with
  |none=>rw [e1] at e;rcases e with e|e<;>cases e
  |some bs=>rw [e1] at e;exact ⟨bs,ρ2,rfl,e,h⟩
 rw [e];exact k ρ' h
def DK (xs:List α) (I:Nat->Rho->Prop) (h0:I 0 ρ) (hs:∀ i x ρ,xs[i]?=some x->I i ρ->Nx ((gf (g x)).bind λbs=>bf (YN ρ bs)) (I (i+1))) (k:∀ ρ',I xs.length ρ'->Q (F (.nx ρ'))):Q ((T2 gf bf (xs.map g) ρ).bind F):=
 qah (Q:=λo=>Q (o.bind F)) xs I h0 hs k
def qfH {cf:Rho->Option Bool} {N:Nat} (n:Nat) (hn:n<N) (I:Nat->Rho->Prop) (h0:I 0 ρ) (hc:∀ i ρ,i<n->I i ρ->cf ρ=some true) (hs:∀ i ρ,i<n->I i ρ->Nx (bf ρ) (I (i+1))) (he:∀ ρ,I n ρ->cf ρ=some false) (k:∀ ρ',I n ρ'->Q (F (.nx ρ'))):Q ((whP cf bf N ρ).bind F):=by
 have key:∀ (k i M:Nat) (ρ:Rho),i+k=n->k<M->I i ρ->∃ ρ',whP cf bf M ρ=some (.nx ρ')/\I n ρ':=by
  intro k;induction k with
  |zero=>
   intro i M ρ e hM h;have:i=n:=by omega
   subst this;cases M with
   |zero=>omega
   |succ M=>exact ⟨ρ,by unfold whP;rw [he ρ h];rfl,h⟩
  |succ k ih=>
   intro i M ρ e hM h;cases M with
   |zero=>omega
   |succ M=>
    have h1:=hc i ρ (by omega) h;obtain ⟨ρ',h2,h3⟩:=qfP (hs i ρ (by omega) h);obtain ⟨ρ2,h4,h5⟩:=ih (i+1) M ρ' (by omega) (by omega) h3;refine ⟨ρ2,?_,h5⟩;unfold whP;rw [h1];rcases h2 with h2|h2<;>(simp only [Option.bind_some,if_pos,h2];exact h4)
 obtain ⟨ρ',e,h⟩:=key n 0 N ρ (by omega) hn h0;rw [e];exact k ρ' h
end
def TZ {α:Type} {us:List α} (h:us.length=1):∃ a0,us=[a0]:=List.length_eq_one_iff.mp h
def DP {α:Type} {us:List α} (h:us.length=2):∃ a0 a1,us=[a0,a1]:=by
 obtain ⟨a0,r,rfl⟩:=List.exists_cons_of_length_pos (show 0<us.length by omega);obtain ⟨a1,rfl⟩:=TZ (show r.length=1 by simpa using h);exact ⟨a0,a1,rfl⟩
def qi1 {α:Type} {us:List α} (h:us.length=3):∃ a0 a1 a2,us=[a0,a1,a2]:=by
 obtain ⟨a0,r,rfl⟩:=List.exists_cons_of_length_pos (show 0<us.length by omega);obtain ⟨a1,a2,rfl⟩:=DP (show r.length=2 by simpa using h);exact ⟨a0,a1,a2,rfl⟩
end Pu
namespace Pv
open PySem L2 L3 Pu
def jc (qp:List PyData->Option PyData):PuS (Bk.JN (PSp qp false)):=(QI (X0 (bO jR (bV 0) (qM 0)) 1 [true] ⟨rfl⟩) (QI (sIf (bTb (bO (VT false) (bV 1) (CC "bits"))) (ZL (qab (qg (bO (opC ED (λi j=>i*2 ^ j.toNat)) (qM 1) (bO jR (bV 0) (qM 1))) (qg (bO (opC ED (λi j=>i*2 ^ j.toNat)) (qM 1) (bO jR (bV 0) (qM 2))) (qg (bO (opC ED (λi j=>i*2 ^ j.toNat)) (qM 1) (qy LC (qg (bO jR (bV 0) (qM 3)) qV))) qV))) ⟨rfl⟩)) QN) (QI (sIf (bTb (bO (VT false) (bV 1) (CC "table"))) (ZL (qab (qg (qy LC (qg (bO jR (bV 0) (qM 2)) qV)) (qg (qy LC (qg (bO jR (bO jR (bV 0) (qM 2)) (qM 0)) qV)) (qg (bO jR (bV 0) (qM 1)) qV))) ⟨rfl⟩)) QN) (QI (sIf (bTb (bO (VT false) (bV 1) (CC "joined"))) (QI (TR (qy (qS qp false) (qg (bO jR (bV 0) (qM 1)) qV)) (T4 3 (zX (gN 2) (zX (gN 3) (zX (gN 4) T0)))) [true] ⟨rfl⟩) (QI (TR (qy (qS qp false) (qg (bO jR (bV 0) (qM 2)) qV)) (T4 3 (zX (gN 5) (zX (gN 6) (zX (gN 7) T0)))) [true] ⟨rfl⟩) (ZL (qab (qg (bO (opC YA (·*·)) (bV 2) (bV 5)) (qg (bO (opC YA (·*·)) (bV 3) (bV 6)) (qg (bO (opC YA (·*·)) (bV 4) (bV 7)) qV))) ⟨rfl⟩)))) QN) (ZL (qab (qg (bO jR (bV 0) (qM 1)) (qg (bO jR (bV 0) (qM 2)) (qg (bO jR (bV 0) (qM 3)) qV))) ⟨rfl⟩))))))
def qp:Nat->List PyData->Option PyData
 |0=>λ_=>none
 |j+1=>run (jc (qp j)).f 1 8 1000000000 false
def TW (j:Nat):∀ ts G q,PSp (qp (j+1)) false ts G q->ts.length=1/\Bk.JN (PSp (qp j) false) { nx:=λ_ G'=>q .non G',rt:=q } (qB ["dealing","kind","rows","columns","banks","other_rows","other_columns","other_banks"] ts) G:=qQ (jc (qp j)) ["dealing","kind","rows","columns","banks","other_rows","other_columns","other_banks"] 1 1000000000 false
def QC {j:Nat} {x0:PyData}:qp (j+1) [x0]=Z2 false ((jc (qp j)).f 1000000000 [.sh x0,.un,.un,.un,.un,.un,.un,.un]):=id rfl
open Bk (Dl)
def qh9 (r:List Int):PyData:=.tuple (r.map PyData.int)
def dlD:Dl->PyData
 |.skew r c b x y=>.tuple [.str "skew",.int r,.int c,.int b,.int x,.int y]
 |.rests r c b p=>.tuple [.str "rests",.int r,.int c,.int b,.int p]
 |.bits h l ms=>.tuple [.str "bits",.int h,.int l,.tuple (ms.map PyData.int)]
 |.table b cells=>.tuple [.str "table",.int b,.tuple (cells.map qh9)]
 |.joined d e=>.tuple [.str "joined",dlD d,dlD e]
end Pv
namespace Pu
open PySem L2 L3
open Bk (Lf Ext)
section
variable {D:Addr->Prop} {a:Addr} {G G' G0:Gp} {n n':Nat} {fv gv:List Nat} {l:Nat} {τ:St3} {ρ:Rho}
def Z1 (e:Ext a G G') (h:D a):Ex (rs D G) (rs D G'):=λb o x=>by
 obtain ⟨n,x⟩:=qF x;rw [JH n];exact e b o (by rintro rfl;exact n h) x
def WJ {k:Int} (h:Lf G a k):G a≠none:=by
 obtain ⟨o,c,m,e,_⟩:=h;rw [e];simp
def jw {k:Int} (hd:Dom D G) (e:Ext a G G') (lf:Lf G' a k):Dom D G':=λb hb z=>by
 by_cases h:b=a
 ·subst h;exact WJ lf z
 ·cases g:G b with
  |none=>exact hd b hb g
  |some o=>rw [e b o h g] at z;cases z
def Nw.backx {x:T} {d:PyData} {k:Int} (h:Nw D G G' x d) (e:Ext a G0 G) (lf:Lf G a k):Nw D G0 G' x d:=by
 rcases h with h|⟨p,xs,ds,h1,h2,c,r⟩
 ·exact .inl h
 refine .inr ⟨p,xs,ds,h1,h2,?_,r⟩;cases z:G0 p with
 |none=>rfl
 |some o=>
  by_cases hp:p=a
  ·subst hp;exact absurd c (WJ lf)
  ·rw [e p o hp z] at c;cases c
structure Ln (fv:List Nat) (l:Nat) (D:Addr->Prop) (G:Gp) (τ:St3) (ρ:Rho) (a:Addr) (n:Nat):Prop where
 v:EE fv D G τ ρ
 d:Dom D G
 da:D a
 tl:τ[l]?=some (some (.ref a))
 ul:vw ρ l=none
 lf:Lf G a n
def Ln.up (h:Ln fv l D G τ ρ a n) (e:Ext a G G') (lf:Lf G' a n'):Ln fv l D G' τ ρ a n':=
 ⟨λi hi d hd=>let ⟨t,x,y⟩:=h.v i hi d hd;⟨t,x,y.up (Z1 e h.da)⟩,jw h.d e lf,h.da,h.tl,h.ul,lf⟩
def Ln.fst (h:Ln (fv++gv) l D G τ ρ a n):Ln fv l D G τ ρ a n:=⟨h.v.l,h.d,h.da,h.tl,h.ul,h.lf⟩
def Ln.snd (h:Ln (fv++gv) l D G τ ρ a n):Ln gv l D G τ ρ a n:=⟨h.v.r,h.d,h.da,h.tl,h.ul,h.lf⟩
end
abbrev QD:=PyData->Nat->Prop
structure PwE (l:Nat) (t:TE3) where
 w:Rho->Nat->QD->Prop
 fv:List Nat
 nw:Bool
 mono:∀ {ρ n} {Q Q':QD},w ρ n Q->(∀ d m,Q d m->Q' d m)->w ρ n Q'
 ok:∀ {D τ ρ G a n} {q:Q3} {Q:QD},Ln fv l D G τ ρ a n->w ρ n Q->(∀ x d G' n',Q d n'->Ext a G G'->Lf G' a n'->Dq (rs D G') x d->(nw=true->Nw D G G' x d)->q x G')->t τ G q
structure PwC (l:Nat) (t:TT3) where
 w:Rho->Nat->(Bool->Nat->Prop)->Prop
 fv:List Nat
 mono:∀ {ρ n} {Q Q':Bool->Nat->Prop},w ρ n Q->(∀ d m,Q d m->Q' d m)->w ρ n Q'
 ok:∀ {D τ ρ G a n} {q:Bool->Gp->Prop} {Q:Bool->Nat->Prop},Ln fv l D G τ ρ a n->w ρ n Q->(∀ k G' n',Q k n'->Ext a G G'->Lf G' a n'->q k G')->t τ G q
structure PwA (l:Nat) (t:TA3) where
 w:Rho->Nat->(List PyData->Nat->Prop)->Prop
 fv:List Nat
 k:Nat
 mono:∀ {ρ n} {Q Q':List PyData->Nat->Prop},w ρ n Q->(∀ d m,Q d m->Q' d m)->w ρ n Q'
 ok:∀ {D τ ρ G a n} {q:List T->Gp->Prop} {Q:List PyData->Nat->Prop},Ln fv l D G τ ρ a n->w ρ n Q->(∀ x d G' n',Q d n'->d.length=k->Ext a G G'->Lf G' a n'->Dqs (rs D G') x d->q x G')->t τ G q
structure PwI (l:Nat) (t:TI3) where
 w:Rho->Nat->(List PyData->Nat->Prop)->Prop
 fv:List Nat
 nm:Bool
 mono:∀ {ρ n} {Q Q':List PyData->Nat->Prop},w ρ n Q->(∀ d m,Q d m->Q' d m)->w ρ n Q'
 ok:∀ {D τ ρ G a n} {r:List T->(Gp->Prop)->Gp->Prop} {Q:List PyData->Nat->Prop},Ln fv l D G τ ρ a n->w ρ n Q ->
  (∀ items stay ds G' n',Q ds n'->Ext a G G'->Lf G' a n'->Dqs (rs D G') items ds->(∀ G'',(nm=true\/Ex (rs D G') G'')->stay G'')->(nm=true->∃ ns:List Int,ds=ns.map PyData.int)->r items stay G')->t τ G r
structure DrD (r:List T->Gp->Q3->Prop) where
 W:List PyData->Nat->QD->Prop
 nw:Bool
 mono:∀ {ds n} {Q Q':QD},W ds n Q->(∀ d m,Q d m->Q' d m)->W ds n Q'
 ok:∀ {D:Addr->Prop} {G:Gp} {a:Addr} {n:Nat} {ts:List T} {ds:List PyData} {q:Q3} {Q:QD},Lf G a n->D a->Dom D G->Dqs (rs D G) ts ds->W ds n Q->(∀ x d G' n',Q d n'->Ext a G G'->Lf G' a n'->Dq (rs D G') x d->(nw=true->Nw D G G' x d)->q x G')->r (.ref a::ts) G q
section
variable {l:Nat}
def eOf {t:TE3} (b:PuE t):PwE l t:=⟨λρ n Q=>∃ d,b.f ρ=some d/\Q d n,b.fv,b.nw,λ⟨d,h1,h2⟩ h=>⟨d,h1,h _ _ h2⟩,λh ⟨d,h1,h2⟩ k=>
 b.ok h.v h.d h1 λx G1 E1 D1 N1=>k x d G1 _ h2 (Bk.V9 E1) (h.lf.ex E1) D1 N1⟩
def cOf {t:TT3} (b:PuC t):PwC l t:=⟨λρ n Q=>∃ d,b.f ρ=some d/\Q d n,b.fv,λ⟨d,h1,h2⟩ h=>⟨d,h1,h _ _ h2⟩,λh ⟨d,h1,h2⟩ k=>
 b.ok h.v h.d h1 λG1 E1=>k d G1 _ h2 (Bk.V9 E1) (h.lf.ex E1)⟩
def aOf {t:TA3} (b:PuA t):PwA l t:=⟨λρ n Q=>∃ d,b.f ρ=some d/\Q d n,b.fv,b.n,λ⟨d,h1,h2⟩ h=>⟨d,h1,h _ _ h2⟩,λh ⟨d,h1,h2⟩ k=>
 b.ok h.v h.d h1 λx G1 E1 D1=>k x d G1 _ h2 (b.ln h1) (Bk.V9 E1) (h.lf.ex E1) D1⟩
def iOf {t:TI3} (b:PuI t):PwI l t:=⟨λρ n Q=>∃ d,b.f ρ=some d/\Q d n,b.fv,b.nm,λ⟨d,h1,h2⟩ h=>⟨d,h1,h _ _ h2⟩,λh ⟨d,h1,h2⟩ k=>
 b.ok h.v h.d h1 λitems stay G1 E1 D1 s nm=>k items stay d G1 _ h2 (Bk.V9 E1) (h.lf.ex E1) D1 s nm⟩
def eO {r:R3} {ta tb:TE3} (R:OpD r) (a:PwE l ta) (b:PwE l tb):PwE l (o3 r ta tb):=
 ⟨λρ n Q=>a.w ρ n λx n1=>b.w ρ n1 λy n2=>∃ v,R.f x y=some v/\Q v n2,a.fv++b.fv,R.nw,λh k=>a.mono h λx n1 h=>b.mono h λy n2 ⟨v,h1,h2⟩=>⟨v,h1,k _ _ h2⟩,λh hw k=>
  a.ok h.fst hw λx dx G1 n1 h1 E1 L1 D1 _=>b.ok (h.snd.up E1 L1) h1 λy dy G2 n2 ⟨v,e,hq⟩ E2 L2 D2 _=>R.ok (D1.up (Z1 E2 h.da)) D2 (jw (jw h.d E1 L1) E2 L2) e λz G3 E3 D3 N3=>k z v G3 n2 hq ((E1.trans E2).trans (Bk.V9 E3)) (L2.ex E3) D3 λz=>(N3 z).backx (E1.trans E2) L2⟩
def qdJ {ta:TE3} {tr:TA3} (a:PwE l ta) (r:PwA l tr):PwA l (qc ta tr):=
 ⟨λρ n Q=>a.w ρ n λx n1=>r.w ρ n1 λxs n2=>Q (x::xs) n2,a.fv++r.fv,r.k+1,λh k=>a.mono h λx n1 h=>r.mono h λxs n2 h=>k _ _ h,λh hw k=>
  a.ok h.fst hw λx dx G1 n1 h1 E1 L1 D1 _=>r.ok (h.snd.up E1 L1) h1 λy dy G2 n2 hq hl E2 L2 D2=>k _ _ G2 n2 hq (by simp [hl]) (E1.trans E2) L2 (.cons (D1.up (Z1 E2 h.da)) D2)⟩
def eDr {r:List T->Gp->Q3->Prop} {t:TA3} (R:DrD r) (b:PwA l t):PwE l (cb3 r (qc (v3 l) t)):=⟨λρ n Q=>b.w ρ n λxs n1=>R.W xs n1 Q,b.fv,R.nw,λh k=>b.mono h λxs n1 h=>R.mono h k,λ{D τ ρ G a n q Q} h hw k=>by
 simp only [cb3,qc,v3,h.tl];exact b.ok h hw λx dx G1 n1 hW hl E1 L1 D1=>R.ok L1 h.da (jw h.d E1 L1) D1 hW λz d G3 n3 hq E3 L3 D3 N3=>k z d G3 n3 hq (E1.trans E3) L3 D3 λz=>(N3 z).backx E1 L1⟩
end
def lcW (gf:PyData->Option (List (Nat×PyData))) (cw:Rho->Nat->(Bool->Nat->Prop)->Prop) (ew:Rho->Nat->QD->Prop) (ρ:Rho):List PyData->Nat->(List PyData->Nat->Prop)->Prop
 |[],n,Q=>Q [] n
 |d::r,n,Q=>∃ bs,gf d=some bs/\cw (YN ρ bs) n λk n1=>if k then ew (YN ρ bs) n1 λy n2=>lcW gf cw ew ρ r n2 λys n3=>Q (y::ys) n3 else lcW gf cw ew ρ r n1 Q
def J7 {l:Nat} {g:TG3} {tif:TT3} {te:TE3} (pg:PuG g) (pc:PwC l tif) (pe:PwE l te) {ρ:Rho}:∀ {ds:List PyData} {n:Nat} {Q Q':List PyData->Nat->Prop},lcW pg.f pc.w pe.w ρ ds n Q->(∀ d m,Q d m->Q' d m)->lcW pg.f pc.w pe.w ρ ds n Q'
 |[],n,Q,Q',h,k=>k _ _ h
 |d::r,n,Q,Q',⟨bs,e,h⟩,k=>⟨bs,e,pc.mono h λj m h=>by
   cases j with
   |true=>rw [if_pos rfl] at h ⊢;exact pe.mono h λy m2 h=>J7 pg pc pe h λys m3 h=>k _ _ h
   |false=>exact J7 pg pc pe h k⟩
def VA.ext {D:Addr->Prop} {a:Addr} {G G':Gp} {τ:St3} {ρ:Rho} (h:VA D G τ ρ) (e:Ext a G G') (da:D a):VA D G' τ ρ:=h.upx (Z1 e da)
def M6:∀ {ts:List (Nat×T)} {τ:St3} {i:Nat},(∀ p∈ts,p.1≠i)->(sets τ ts)[i]?=τ[i]?
 |[],_,_,_=>rfl
 |p::r,τ,i,h=>by
  unfold sets;rw [M6 λq hq=>h q (by simp [hq]),getElem?_set,if_neg (h p (by simp))]
def M9 {l:Nat} {stay:Gp->Prop} {g:TG3} {tif:TT3} {te:TE3} {q:Q3} (pg:PuG g) (pc:PwC l tif) (pe:PwE l te) {D:Addr->Prop} {a:Addr} {ρ0:Rho} {G0:Gp} (da:D a) (hs:∀ G,Ext a G0 G->stay G) (hm:∀ i∈pg.tg,vw ρ0 i=none) (hl:∀ i∈pg.tg,i≠l) {Q:List PyData->Nat->Prop}
  (k:∀ G ys fs n,Q fs n->fs.length<=sizeLine->Ext a G0 G->Lf G a n->Dqs (rs D G) ys fs->∀ p,G p=none->q (.ref p) (gu G p (.lst ys))) :
  vw ρ0 l=none->∀ (ds:List PyData) (items ys:List T) (es:List PyData) (τ:St3) (G:Gp) (n:Nat),Dqs (rs D G0) items ds->VA D G τ ρ0->τ[l]?=some (some (.ref a))->Ext a G0 G->Dom D G->Lf G a n->Dqs (rs D G) ys es->lcW pg.f pc.w pe.w ρ0 ds n (λfs n=>(es++fs).length<=sizeLine/\Q (es++fs) n)->ds.length+es.length<=sizeLine->KO stay g tif te q items ys τ G
 |_,_,_,ys,es,τ,G,n,.nil,va,tl,E,hd,lf,hy,hw,_=>by
  obtain ⟨h1,h2⟩:=hw;rw [List.append_nil] at h1 h2;exact ⟨hs G E,k G ys es n h2 h1 E lf hy⟩
 |ul,d::ds,x::items,ys,es,τ,G,n,.cons hx hr,va,tl,E,hd,lf,hy,⟨bs,e3,hw⟩,hz=>by
  obtain ⟨ts,bd,kg⟩:=pg.ok (hx.up (Z1 E da)) e3;refine ⟨hs G E,kg τ G _ ?_⟩;have va1:=va.sets bd;have at1:∀ p∈ts,p.1∈pg.tg:=λp hp=>by
   obtain ⟨q,hq,e⟩:=qdc bd p hp;rw [← e];exact pg.at' e3 q hq
  have va2:=va.keep (ts:=ts) λp hp=>hm _ (at1 p hp);have tl1:(sets τ ts)[l]?=some (some (.ref a)):=by rw [M6 λp hp=>hl _ (at1 p hp)];exact tl
  have ul1:vw (YN ρ0 bs) l=none:=by rw [KB λp hp=>hl _ (pg.at' e3 p hp)];exact ul
  refine pc.ok ⟨va1.view _,hd,da,tl1,ul1,lf⟩ hw λc G1 n1 hc E1 L1=>?_;cases c with
  |true=>
   rw [if_pos rfl] at hc ⊢;refine pe.ok ⟨(va1.ext E1 da).view _,jw hd E1 L1,da,tl1,ul1,L1⟩ hc λz y G2 n2 hq E2 L2 D2 _=>⟨?_,?_⟩
   ·rw [hy.length];simp at hz;omega
   ·refine M9 pg pc pe da hs hm hl k ul ds items (ys++[z]) (es++[y]) _ G2 n2 hr ((va2.ext E1 da).ext E2 da) tl1 ((E.trans E1).trans E2) (jw (jw hd E1 L1) E2 L2) L2 (((hy.up (Z1 E1 da)).up (Z1 E2 da)).append (.cons D2 .nil)) ?_ (by simp at hz ⊢;omega);refine J7 pg pc pe hq λfs m h=>?_;rw [List.append_assoc];exact h
  |false=>
   rw [if_neg Bool.false_ne_true] at hc ⊢;exact M9 pg pc pe da hs hm hl k ul ds items ys es _ G1 n1 hr (va2.ext E1 da) tl1 (E.trans E1) (jw hd E1 L1) L1 (hy.up (Z1 E1 da)) hc (by simp at hz;omega)
def qlv {l:Nat} (it:Rho->Nat->(List PyData->Nat->Prop)->Prop) (h:Rho->List PyData->Nat->(List PyData->Nat->Prop)->Prop) (m:List (Option Nat)) (ρ:Rho) (n:Nat) (Q:QD):Prop:=
 it ρ n λds n1=>ds.length<=16777216/\h (XM m ρ) ds n1 λfs n2=>fs.length<=16777216/\Q (.list fs) n2
def eLc {l:Nat} {wi:TI3} {g:TG3} {tif:TT3} {te:TE3} (l2:Nat) (pi:PwI l wi) (pg:PuG g) (pc:PwC l2 tif) (pe:PwE l2 te) (m:List (Option Nat)) (hm:Tru (pg.tg.all λi=>m[i]?==some none)) (hl:Tru (m[l2]?==some (some l))):PwE l (lc3 wi g tif te m):=
 ⟨qlv (l:=l) pi.w (lcW pg.f pc.w pe.w) m,pi.fv++(m.filterMap id).filter (· != l),true,λh k=>pi.mono h λds n1 ⟨h1,h⟩=>⟨h1,J7 pg pc pe h λfs n2 ⟨h2,h⟩=>⟨h2,k _ _ h⟩⟩,λ{D τ ρ G a n q Q} h hw k=>by
  have hl':m[l2]?=some (some l):=by simpa using hl.h
  refine pi.ok h.fst hw λitems stay ds G1 n1 ⟨h1,hw1⟩ E1 L1 D1 hs _=>?_;have hv:EE (m.filterMap id) D G τ ρ:=λi hi d hd=>by
   by_cases e:i=l
   ·subst e;rw [h.ul] at hd;cases hd
   ·exact h.snd.v i (List.mem_filter.mpr ⟨hi,by simpa using e⟩) d hd
  have va:=(VA.cap (m:=m) hv).ext E1 h.da;refine M9 pg pc pe (D:=D) (a:=a) (ρ0:=XM m ρ) (G0:=G1) h.da (λG2 E2=>hs G2 (.inr ((Z1 E2 h.da).trans DN))) (λi hi=>LQ ?_) (λi hi e=>?_) (Q:=λfs n=>Q (.list fs) n) (λG2 ys fs n2 hq hlen E2 L2 D2 p hp=>?_) ?_ ds items [] [] _ G1 n1 D1 va ?_ Bk.Ext.refl (jw h.d E1 L1) L1 .nil ?_ ?_
  ·simpa using List.all_eq_true.mp hm.h i hi
  ·subst e;have:=List.all_eq_true.mp hm.h i hi;rw [hl'] at this;simp at this
  ·exact k _ _ _ _ hq ((E1.trans E2).trans (Bk.V9 (QY hp))) (L2.ex (QY hp)) (ES (jw (jw h.d E1 L1) E2 L2) hp D2) λ_=>(XT hp D2).backx (E1.trans E2) L2
  ·unfold vw XM;rw [getElem?_map,hl'];simp only [Option.map_some,Option.bind_some,h.ul];rfl
  ·unfold L3.cap;rw [getElem?_map,hl'];simp [h.tl]
  ·refine J7 pg pc pe hw1 λfs m ⟨h2,h3⟩=>⟨?_,by simpa using h3⟩
   rw [sizeLine_eq];simpa using h2
  ·rw [sizeLine_eq];simpa using h1⟩
structure RL (l:Nat) (a:Addr) (z0:Option (Option T)×Nat) (D:Addr->Prop) (G0:Gp) (A:Nat->Option Addr) (τ:St3) (ρ:Rho) (G:Gp) (n:Nat):Prop where
 r:RS D G0 A τ ρ G
 al:A l=some a
 tl:τ[l]?=some (some (.ref a))
 ul:ρ[l]?=some Sl.un
 lf:Lf G a n
 tz:τ[0]?=z0.1/\τ.length=z0.2
section
variable {l:Nat} {a:Addr} {z0:Option (Option T)×Nat} {D:Addr->Prop} {G0 G G':Gp} {A:Nat->Option Addr} {τ:St3} {ρ:Rho} {n n':Nat}
def RL.vl (h:RL l a z0 D G0 A τ ρ G n):vw ρ l=none:=by unfold vw;rw [h.ul];rfl
def RL.up (h:RL l a z0 D G0 A τ ρ G n) (e:Ext a G G') (lf:Lf G' a n'):RL l a z0 D G0 A τ ρ G' n':=by
 have X:Ex (rs (AD D A) G) (rs (AD D A) G'):=Z1 e (.inr ⟨l,h.al⟩);refine ⟨⟨λb o x=>e b o (by rintro rfl;rw [h.r.fr l _ h.al] at x;cases x) (h.r.ex b o x),h.r.dm,h.r.fr,λi p hp z=>?_,h.r.inj,h.r.len,λi d x=>let ⟨t,y,z⟩:=h.r.sh i d x;⟨t,y,z.up X⟩,λi ds x=>?_⟩,h.al,h.tl,h.ul,lf,h.tz⟩
 ·by_cases c:p=a
  ·subst c;exact WJ lf z
  ·cases g:G p with
   |none=>exact h.r.da i p hp g
   |some o=>rw [e p o c g] at z;cases z
 ·obtain ⟨p,xs,y1,y2,y3,y4⟩:=h.r.ow i ds x;refine ⟨p,xs,y1,y2,e p _ ?_ y3,y4.up X⟩;rintro rfl;have:=h.r.inj i l _ y1 h.al;subst this;rw [h.ul] at x;cases x
def RL.all (h:RL l a z0 D G0 A τ ρ G n) (fv:List Nat):Ln fv l (λb=>D b\/b=a) G τ ρ a n:=by
 refine ⟨λi _ d hd=>?_,λb hb=>?_,.inr rfl,h.tl,h.vl,h.lf⟩
 ·unfold vw at hd;obtain ⟨s,e,hd⟩:=obb hd;have less:Ex (rs (AD D A) G) (rs (λb=>D b\/b=a) G):=jm λb z=>by
   rcases z with z|z
   ·exact .inl z
   ·subst z;exact .inr ⟨l,h.al⟩
  cases s with
  |un=>cases hd
  |sh d'=>
   cases hd;obtain ⟨t,b,c⟩:=h.r.sh i _ e;exact ⟨t,b,c.up less⟩
  |ow ds=>
   cases hd;obtain ⟨p,xs,b,c,g,f⟩:=h.r.ow i _ e;refine ⟨_,c,.lst ?_ (f.up less)⟩;rw [JH]
   ·exact g
   ·rintro (z|z)
    ·exact h.r.nd b z
    ·subst z;have:=h.r.inj i l _ b h.al;subst this;rw [h.ul] at e;cases e
 ·rcases hb with hb|hb
  ·exact h.r.domD b hb
  ·subst hb;exact WJ h.lf
def qk4 {m:List Bool} (hm:mkb m l=false) (al:A l=some a):Ad m A l=some a:=by unfold Ad;rw [if_neg (by rw [hm];simp)];exact al
def RL.dem (h:RL l a z0 D G0 A τ ρ G n) {m:List Bool} (hm:mkb m l=false):RL l a z0 D G0 (Ad m A) τ (Pu.dm m ρ) G n:=
 ⟨h.r.dem m,qk4 hm h.al,h.tl,by rw [MJ,h.ul];simp [hm],h.lf,h.tz⟩
def RL.ln (h:RL l a z0 D G0 A τ ρ G n) {m:List Bool} {fv:List Nat} (hm:mkb m l=false) (hf:Tru (fv.all (mkb m))):Ln fv l (AD D (Ad m A)) G τ ρ a n:=
 ⟨h.r.viewD hf,(h.r.dem m).dom,.inr ⟨l,qk4 hm h.al⟩,h.tl,h.vl,h.lf⟩
def RL.put (h:RL l a z0 D G0 A τ ρ G n) {i:Nat} (hi:i≠l) (h0:i≠0) {x:T} {d:PyData} (hx:Dq (rs (AD D A) G) x d):RL l a z0 D G0 (Er A i) (τ.set i (some x)) (ρ.set i (.sh d)) G n:=
 ⟨h.r.put i hx,by unfold Er;rw [if_neg (λz=>hi z.symm)];exact h.al,by rw [getElem?_set,if_neg hi];exact h.tl,by rw [getElem?_set,if_neg hi];exact h.ul,h.lf,⟨by rw [getElem?_set,if_neg h0];exact h.tz.1,by rw [List.length_set];exact h.tz.2⟩⟩
def RL.puts:∀ {ts:List (Nat×T)} {bs:List (Nat×PyData)} {A:Nat->Option Addr} {τ:St3} {ρ:Rho},RL l a z0 D G0 A τ ρ G n->Bd (rs (AD D A) G) ts bs->(∀ p∈bs,p.1≠l/\p.1≠0)->∃ A',RL l a z0 D G0 A' (sets τ ts) (YN ρ bs) G n
 |_,_,A,_,_,h,.nil,_=>⟨A,h⟩
 |_,_,A,_,_,h,.cons x b,hn=>by
  unfold sets YN;exact RL.puts (h.put (hn _ List.mem_cons_self).1 (hn _ List.mem_cons_self).2 x) (b.up qiF) (λp hp=>hn p (List.mem_cons_of_mem _ hp))
def RL.putN (h:RL l a z0 D G0 A τ ρ G n) {i:Nat} (hi:i≠l) (h0:i≠0) {x:T} {d:PyData} {ds:List PyData} (hd:d=.list ds) (E:Ext a G G') (lf:Lf G' a n') (hx:Nw (AD D A) G G' x d):∃ A',RL l a z0 D G0 A' (τ.set i (some x)) (ρ.set i (.ow ds)) G' n':=by
 have h1:=h.up E lf;rcases hx with hx|⟨p,xs,ds',rfl,e',gp,gp',hs⟩
 ·rw [hd] at hx;cases hx
 rw [hd] at e';cases e';have np:∀ {j q},A j=some q->q≠p:=λe=>by rintro rfl;exact h.r.da _ _ e gp
 have X1:Ex (rs (AD D A) G) (rs (AD D (λj=>if j=i then some p else A j)) G'):=λb o e=>by
  obtain ⟨n,e⟩:=qF e;rw [JH]
  ·exact E b o (by rintro rfl;exact n (.inr ⟨l,h.al⟩)) e
  ·rintro (z|⟨j,z⟩)
   ·exact n (.inl z)
   ·simp only at z;split at z
    ·cases z;rw [gp] at e;cases e
    ·exact n (.inr ⟨j,z⟩)
 refine ⟨λj=>if j=i then some p else A j,⟨h1.r.ex,h.r.dm,λj q e=>?_,λj q e=>?_,λj k q x y=>?_,by simp [h.r.len],λj e he=>?_,λj es e=>?_⟩,by rw [if_neg (λz=>hi z.symm)];exact h.al,by rw [getElem?_set,if_neg hi];exact h.tl,by rw [getElem?_set,if_neg hi];exact h.ul,lf,⟨by rw [getElem?_set,if_neg h0];exact h.tz.1,by rw [List.length_set];exact h.tz.2⟩⟩
 ·split at e
  ·cases e;cases z:G0 p with
   |none=>rfl
   |some o=>rw [h.r.ex _ _ z] at gp;cases gp
  ·exact h.r.fr j q e
 ·split at e
  ·cases e;rw [gp'];simp
  ·exact h1.r.da j q e
 ·split at x
  ·cases x;split at y
   ·rename_i h1 h2;rw [h1,h2]
   ·exact absurd rfl (np y)
  ·split at y
   ·cases y;exact absurd rfl (np x)
   ·exact h.r.inj j k q x y
 ·rw [getElem?_set] at he ⊢;split at he
  ·split at he<;>cases he
  ·rename_i hj;rw [if_neg hj];obtain ⟨t,b,c⟩:=h.r.sh j _ he;exact ⟨t,b,c.up X1⟩
 ·rw [getElem?_set] at e ⊢;split at e
  ·rename_i hj;subst hj;split at e
   ·rename_i hl;cases e;refine ⟨p,xs,by simp,by rw [if_pos rfl,if_pos (by rw [← h.r.len];exact hl)],gp',hs.up (jm λb z=>?_)⟩;rcases z with z|⟨j,z⟩
    ·exact .inl (.inl z)
    ·simp only at z;split at z
     ·cases z;exact .inr rfl
     ·exact .inl (.inr ⟨j,z⟩)
   ·cases e
  ·rename_i hj;rw [if_neg hj];obtain ⟨q,ys,b,c,g,f⟩:=h1.r.ow j _ e;obtain ⟨q',ys',b',c',g',f'⟩:=h.r.ow j _ e;rw [b] at b';cases b';have:G' q=some (.lst ys'):=E q _ (by rintro rfl;have:=h.r.inj j l _ b h.al;subst this;rw [h.ul] at e;cases e) g';exact ⟨q,ys',by rw [if_neg (λz=>hj z.symm)];exact b,c,this,f'.up X1⟩
def RL.wr (h:RL l a z0 D G0 A τ ρ G n) {i:Nat} {p:Addr} {xs:List T} {ds ds0:List PyData} (ho:ρ[i]?=some (Sl.ow ds0)) (hi:A i=some p) (ht:τ[i]?=some (some (.ref p))) (hs:Dqs (rs (AD D A) G) xs ds):RL l a z0 D G0 A τ (ρ.set i (.ow ds)) (gu G p (.lst xs)) n:=by
 have il:i≠l:=by rintro rfl;rw [h.ul] at ho;cases ho
 have pa:p≠a:=by rintro rfl;exact il (h.r.inj i l _ hi h.al)
 exact ⟨h.r.wr hi ht hs,h.al,h.tl,by rw [getElem?_set,if_neg il];exact h.ul,h.lf.new pa,h.tz⟩
end
abbrev QO:=Ot->Nat->Prop
def qjR (l:Nat) (a:Addr) (z0:Option (Option T)×Nat) (D:Addr->Prop) (G0:Gp) (e:Ends3):Ot->Nat->Prop
 |.nx ρ,n=>∀ A τ G,RL l a z0 D G0 A τ ρ G n->e.nx τ G
 |.bk ρ,n=>∀ A τ G,RL l a z0 D G0 A τ ρ G n->e.bk τ G
 |.ct ρ,n=>∀ A τ G,RL l a z0 D G0 A τ ρ G n->e.ct τ G
 |.rt d fr,n=>∀ x G,Ex G0 G->Lf G a n->Dq (rs (λb=>D b\/b=a) G) x d->(fr=true->Nw (λb=>D b\/b=a) G0 G x d)->e.rt x G
structure PwS (l:Nat) (t:TS3) where
 w:Rho->Nat->QO->Prop
 mono:∀ {ρ n} {Q Q':QO},w ρ n Q->(∀ o m,Q o m->Q' o m)->w ρ n Q'
 ok:∀ {a z0 D G0 A τ ρ G n} {e:Ends3} {Q:QO},RL l a z0 D G0 A τ ρ G n->w ρ n Q->(∀ o m,Q o m->qjR l a z0 D G0 e o m)->t e τ G
section
variable {l:Nat}
def NP:PwS l zc:=⟨λρ n Q=>Q (.nx ρ) n,λh k=>k _ _ h,λh hw k=>k _ _ hw _ _ _ h⟩
def sqw (b:Rho->Nat->QO->Prop) (Q:QO):QO:=λo n=>match o with|.nx ρ'=>b ρ' n Q|o=>Q o n
def qaJ {t u:TS3} (x:PwS l t) (y:PwS l u):PwS l (za t u):=⟨λρ n Q=>x.w ρ n (sqw y.w Q),λh k=>x.mono h λo m h=>by
  cases o with
  |nx ρ=>exact y.mono h k
  |bk ρ=>exact k _ _ h
  |ct ρ=>exact k _ _ h
  |rt d f=>exact k _ _ h,λh hw k=>x.ok h hw λo m h=>by
  cases o with
  |nx ρ=>exact λA τ G r=>y.ok r h k
  |bk ρ=>exact k _ _ h
  |ct ρ=>exact k _ _ h
  |rt d f=>exact k _ _ h⟩
def wIf {c:TT3} {t u:TS3} (pc:PwC l c) (x:PwS l t) (y:PwS l u):PwS l (Q2 c t u):=⟨λρ n Q=>pc.w ρ n λk n1=>if k then x.w ρ n1 Q else y.w ρ n1 Q,λh k=>pc.mono h λj m h=>by
  cases j with
  |true=>rw [if_pos rfl] at h ⊢;exact x.mono h k
  |false=>exact y.mono h k,λh hw k=>pc.ok (h.all _) hw λj G1 n1 hj E1 L1=>by
  cases j with
  |true=>rw [if_pos rfl] at hj ⊢;exact x.ok (h.up E1 L1) hj k
  |false=>exact y.ok (h.up E1 L1) hj k⟩
def qdQ {a:Addr} {z0:Option (Option T)×Nat} {D:Addr->Prop} {G0 G G':Gp} {A:Nat->Option Addr} {τ:St3} {ρ:Rho} {n:Nat} (h:RL l a z0 D G0 A τ ρ G n) (e:Ext a G G'):Ex G0 G':=λb o x=>e b o (by rintro rfl;rw [h.r.fr l _ h.al] at x;cases x) (h.r.ex b o x)
def qi2 {t:TE3} (x:PwE l t):PwS l (zu t):=⟨λρ n Q=>x.w ρ n λd n1=>Q (.rt d x.nw) n1,λh k=>x.mono h λd m h=>k _ _ h,λh hw k=>x.ok (h.all _) hw λy d G1 n1 hq E1 L1 D1 N1=>k _ _ hq y G1 (qdQ h E1) L1 D1 λz=>(N1 z).back h.r.ex⟩
def qe2 {t:TE3} (x:PwE l t) (i:Nat) (m:List Bool) (hm:Tru (x.fv.all (mkb m))) (hl:Tru (!mkb m l&&(i != l&&i != 0))):PwS l (zT t (gn3 i)):=⟨λρ n Q=>x.w ρ n λd n1=>Q (.nx (KL m x.nw i d ρ)) n1,λh k=>x.mono h λd m h=>k _ _ h,λ{a z0 D G0 A τ ρ G n e Q} h hw k=>by
 have hl':mkb m l=false/\i≠l/\i≠0:=by simpa using hl.h
 refine x.ok (h.ln hl'.1 hm) hw λy d G1 n1 hq E1 L1 D1 N1=>?_;have k:=k _ _ hq;unfold KL at k;show e.nx (τ.set i (some y)) G1;split at k
 ·rename_i hs;exact k _ _ _ ((h.up E1 L1).put hl'.2.1 hl'.2.2 (U6 D1 hs))
 ·split at k
  ·rename_i hn;have N:=N1 hn;rcases id N with h2|⟨p,xs,ds,h1,h2,_⟩
   ·subst h2;rename_i hs;exact absurd rfl hs
   subst h2;obtain ⟨A',r⟩:=(h.dem hl'.1).putN hl'.2.1 hl'.2.2 rfl E1 L1 N;exact k _ _ _ r
  ·exact k _ _ _ (((h.dem hl'.1).up E1 L1).put hl'.2.1 hl'.2.2 D1)⟩
def qla {t:TA3} (x:PwA l t) (i j:Nat) (m:List Bool) (hm:Tru (x.fv.all (mkb m))) (hl:Tru (!mkb m l&&((i != l&&i != 0)&&(j != l&&j != 0)))):PwS l (qgz i j t):=⟨λρ n Q=>x.w ρ n λds n1=>∃ o,qiP i j m ds ρ=some o/\Q o n1,λh k=>x.mono h λd m ⟨bs,h1,h2⟩=>⟨bs,h1,k _ _ h2⟩,λ{a z0 D G0 A τ ρ G n e Q} h hw k=>by
 have hl':mkb m l=false/\(i≠l/\i≠0)/\j≠l/\j≠0:=by simpa using hl.h
 refine x.ok (h.ln hl'.1 hm) hw λy d G1 n1 ⟨o,e2,hq⟩ hlen E1 L1 D1=>?_;unfold qiP at e2;split at e2
 ·cases D1 with
  |cons x1 b=>cases b with
   |cons x2 c=>
    cases c;split at e2
    ·rename_i hs;cases e2;rw [Bool.and_eq_true] at hs;exact k _ _ hq _ _ _ (((h.up E1 L1).put hl'.2.1.1 hl'.2.1.2 (U6 x1 hs.1)).put hl'.2.2.1 hl'.2.2.2 (U6 x2 hs.2))
    ·cases e2;exact k _ _ hq _ _ _ ((((h.dem hl'.1).up E1 L1).put hl'.2.1.1 hl'.2.1.2 x1).put hl'.2.2.1 hl'.2.2.2 (x2.up qiF))
 ·cases e2⟩
def RL.evalS {a:Addr} {z0:Option (Option T)×Nat} {D:Addr->Prop} {G0 G:Gp} {A:Nat->Option Addr} {τ:St3} {ρ:Rho} {n:Nat} (h:RL l a z0 D G0 A τ ρ G n) {t:TE3} (x:PwE l t) (m:List Bool) (hm:Tru (x.fv.all (mkb m))) (hl:mkb m l=false) {Q:QD} (hw:x.w ρ n Q) (q:Q3) (k:∀ y d G' n' A1,Q d n'->RL l a z0 D G0 A1 τ (dmS m d ρ) G' n'->Ext a G G'->Dq (rs (AD D A1) G') y d->q y G'):t τ G q:=by
 refine x.ok (h.ln hl hm) hw λy d G1 n1 hq E1 L1 D1 _=>?_;by_cases hs:SC d=true
 ·exact k y d G1 n1 A hq (by unfold dmS;rw [if_pos hs];exact h.up E1 L1) E1 (U6 D1 hs)
 ·exact k y d G1 n1 _ hq (by unfold dmS;rw [if_neg hs];exact (h.dem hl).up E1 L1) E1 D1
def RL.base {a:Addr} {z0:Option (Option T)×Nat} {D:Addr->Prop} {G0 Gb G:Gp} {A:Nat->Option Addr} {τ:St3} {ρ:Rho} {n:Nat} (h:RL l a z0 D Gb A τ ρ G n) (e:Ex G0 Gb) (hd:Dom D G0):RL l a z0 D G0 A τ ρ G n:=⟨h.r.base e hd,h.al,h.tl,h.ul,h.lf,h.tz⟩
end
end Pu
namespace Pu
open PySem L2 L3
open Bk (Lf Ext Dl)
def okW:QO:=λo _=>match o with|.nx _=>True|.ct _=>True|_=>False
def qk0 (K:Int):TE3:=o3 JG (c3 (.int 1)) (cb3 qfQ (qc (c3 (.int K)) (qc (cb3 V8 (qc (v3 0) qr)) qr)))
def qie {i:Nat} {τ:St3} {t:T} {G:Gp} {q:Q3} (h:τ[i]?=some (some t)):v3 i τ G q=q t G:=by unfold v3;rw [h]
def qkU (K:Int) (R:TS3):TS3:=za (NH (YR (qc (qk0 K) qr)) (gn3 1) (za (zT (cb3 Bk.QR (qc (v3 0) (qc (v3 1) qr))) (gn3 2)) R)) (zu (c3 (.bl true)))
def qan {R:TS3} (b:PwS 2 R) (N:List Str) (K:Int) (M:Nat) (hK:0<=K/\K<=60) (hN:N.length=M+3) (h:∀ k:Nat,k<=60->b.w ([.un,.sh (.int k),.un]++List.replicate M .un) 0 okW):∀ ts G q,EY ts G q->ts.length=1/\qkU K R { nx:=λ_ G'=>q .non G',rt:=q } (qB N ts) G:=by
 rintro ts G q ⟨a,ns,rfl,hG,hl,hq⟩;refine ⟨rfl,?_⟩;have s0:(qB N [T.ref a])[0]?=some (some (.ref a)):=by simp [qB]
 have gl:getL G a=some (ns.map T.int):=by unfold getL;rw [hG]
 simp only [qkU,za,NH,YR,qk0,qc,qr,o3,c3,cb3,v3,s0,V8,gl,qfQ,JG,length_map];have cnt:((1+(if ((ns.length:Nat):Int)<K then ((ns.length:Nat):Int) else K)).toNat)<=61:=by split<;>omega
 refine ⟨⟨by split<;>omega,by split<;>omega⟩,?_⟩;refine L4 _ (λ_ τ G'=>G' a=some (.frz (ns.map T.int))/\τ[0]?=some (some (.ref a))/\τ.length=M+3) ⟨hG,s0,by simp [qB,hN]⟩ (λ_ _ _ _ _=>True.intro) ?_ ?_
 ·rintro i z τ G' nx hz ⟨gA,t0,tl⟩ hn;obtain ⟨hi,rfl⟩:=qcM hz;have hi2:i<=60:=by omega
  have t1:(τ.set 1 (some (T.int (0+(i:Int)))))[0]?=some (some (.ref a)):=by rw [getElem?_set,if_neg (by omega)];exact t0
  have t2:(τ.set 1 (some (T.int (0+(i:Int)))))[1]?=some (some (T.int (0+(i:Int)))):=by rw [getElem?_set,if_pos rfl,if_pos (by omega)]
  show v3 0 (τ.set 1 (some (T.int (0+(i:Int))))) G' (λx G1=>v3 1 (τ.set 1 (some (T.int (0+(i:Int))))) G1 λy G2=>Bk.QR [x,y] G2 λz G3=>R _ ((τ.set 1 (some (T.int (0+(i:Int))))).set 2 (some z)) G3);rw [qie t1,qie t2];refine ⟨a,_,ns,rfl,gA,hl,by omega,by omega,λp o c hp ho=>?_⟩;have pa:a≠p:=by rintro rfl;rw [gA] at hp;cases hp
  have r:RL 2 p (some (some (.ref a)),M+3) (λ_=>False) G' (λj=>if j=2 then some p else none) ((τ.set 1 (some (T.int (0+(i:Int))))).set 2 (some (.ref p))) ([.un,.sh (.int i),.un]++List.replicate M .un) (gu G' p (.lst [.int o,.int c,.int 0])) 0:=by
   refine ⟨⟨QY hp,λb z=>z.elim,λj q e=>?_,λj q e=>?_,λj k q e e'=>?_,by simp [tl],λj d e=>?_,λj ds e=>?_⟩,rfl,by rw [getElem?_set,if_pos rfl,if_pos (by simp;omega)],rfl,⟨o,c,0,zl,ho,by omega,by omega⟩,⟨by rw [getElem?_set,if_neg (by omega)];exact t1,by simp [tl]⟩⟩
   ·split at e
    ·cases e;exact hp
    ·cases e
   ·split at e
    ·cases e;rw [zl];simp
    ·cases e
   ·split at e
    ·split at e'
     ·rename_i h1 h2;rw [h1,h2]
     ·cases e'
    ·cases e
   ·match j,e with
    |0,e=>cases e
    |1,e=>
     cases e;refine ⟨.int (0+(i:Int)),by rw [getElem?_set,if_neg (by omega)];exact t2,?_⟩;rw [Int.zero_add];exact .int _
    |2,e=>cases e
    |j+3,e=>
     simp only [cons_append,List.nil_append,getElem?_cons_succ,List.getElem?_replicate] at e;split at e<;>cases e
   ·match j,e with
    |0,e=>cases e
    |1,e=>cases e
    |2,e=>cases e
    |j+3,e=>
     simp only [cons_append,List.nil_append,getElem?_cons_succ,List.getElem?_replicate] at e;split at e<;>cases e
  refine b.ok r (h i hi2) λo' m ho'=>?_;cases o' with
  |nx ρ'=>exact λA τ' G2 r2=>hn _ _ ⟨r2.r.ex _ _ gA,r2.tz.1,r2.tz.2⟩
  |ct ρ'=>exact λA τ' G2 r2=>hn _ _ ⟨r2.r.ex _ _ gA,r2.tz.1,r2.tz.2⟩
  |bk ρ'=>exact ho'.elim
  |rt d f=>exact ho'.elim
 ·rintro τ G' ⟨gA,t0,tl⟩;exact hq G'
def qjo {G:Gp} {ts:List T} {i:Int} (h:Dqs G ts [.int i]):ts=[.int i]:=by
 cases h with
 |cons a b=>cases b;cases a;rfl
def lfc {G:Gp} {a:Addr} {n c:Nat} (h:Lf G a ((n:Int)+(c:Int))):Lf G a ((n+c:Nat):Int):=by rw [Int.natCast_add];exact h
def ND:DrD Bk.QW:=⟨λds n Q=>∃ m:Int,ds=[.int m]/\(1<=m/\m<1073741824)/\n<1000000000/\∀ d:Int,0<=d->d<m->Q (.int d) (n+1),false,
 λ⟨m,h1,h2,h3,h4⟩ k=>⟨m,h1,h2,h3,λd x y=>k _ _ (h4 d x y)⟩,λ{D G a n ts ds q Q} lf da hd hs ⟨m,h1,h2,h3,h4⟩ k=>by
 subst h1;have:=qjo hs;subst this;exact ⟨a,n,m,rfl,h2.1,h2.2,lf,by omega,λd G' x y L E=>k _ _ G' (n+1) (h4 d x y) E (lfc (c:=1) L) (.int d) (λz=>by cases z)⟩⟩
def qic (n:Nat):FnD (Bk.zP (n+1)):=⟨λds=>match ds with|[d,e]=>cif (d=e/\Bk.JD n d) (some (.bool true)) none|_=>none,false,λ{D G xs ds v q} hx hd hf k=>by
 split at hf
 ·unfold cif at hf;split at hf
  ·rename_i c;cases hf;obtain ⟨rfl,c⟩:=c;cases hx with
   |cons x b=>cases b with
    |cons y b=>
     cases b;exact ⟨_,_,_,rfl,(x.up DN).dp,(y.up DN).dp,c,λG' E=>k _ _ E (.bl true) (λz=>by cases z)⟩
  ·cases hf
 ·cases hf⟩
def qdp {n:Nat} {d:PyData} (h:Bk.JD n d):(qic n).f [d,d]=some (.bool true):=jU ⟨rfl,h⟩
def qia {l:Nat} {t:TE3} {b:PuE t}:(eOf (l:=l) b).w=λρ n Q=>∃ d,b.f ρ=some d/\Q d n:=id rfl
def qgY {l:Nat} {t:TT3} {b:PuC t}:(cOf (l:=l) b).w=λρ n Q=>∃ d,b.f ρ=some d/\Q d n:=id rfl
def qh6 {l:Nat} {t:TA3} {b:PuA t}:(aOf (l:=l) b).w=λρ n Q=>∃ d,b.f ρ=some d/\Q d n:=id rfl
def qed {l:Nat} {t:TI3} {b:PuI t}:(iOf (l:=l) b).w=λρ n Q=>∃ d,b.f ρ=some d/\Q d n:=id rfl
def qle {l:Nat} {r:R3} {ta tb:TE3} {R:OpD r} {a:PwE l ta} {b:PwE l tb}:(eO R a b).w=λρ n Q=>a.w ρ n λx n1=>b.w ρ n1 λy n2=>∃ v,R.f x y=some v/\Q v n2:=id rfl
def MM {l:Nat} {ta:TE3} {tr:TA3} {a:PwE l ta} {r:PwA l tr}:(qdJ a r).w=λρ n Q=>a.w ρ n λx n1=>r.w ρ n1 λxs n2=>Q (x::xs) n2:=id rfl
def qib {l:Nat} {r:List T->Gp->Q3->Prop} {t:TA3} {R:DrD r} {b:PwA l t}:(eDr R b).w=λρ n Q=>b.w ρ n λxs n1=>R.W xs n1 Q:=id rfl
def qbm {l:Nat} {t:TE3} {b:PuE t}:(eOf (l:=l) b).nw=b.nw:=id rfl
def qej {l:Nat} {r:R3} {ta tb:TE3} {R:OpD r} {a:PwE l ta} {b:PwE l tb}:(eO R a b).nw=R.nw:=id rfl
def qgL {l:Nat} {wi:TI3} {g:TG3} {tif:TT3} {te:TE3} {l2:Nat} {pi:PwI l wi} {pg:PuG g} {pc:PwC l2 tif} {pe:PwE l2 te} {m:List (Option Nat)} {hm:Tru (pg.tg.all λi=>m[i]?==some none)} {hl:Tru (m[l2]?==some (some l))}:(eLc l2 pi pg pc pe m hm hl).w=λρ n Q=>pi.w ρ n λds n1=>ds.length<=16777216/\lcW pg.f pc.w pe.w (XM m ρ) ds n1 λfs n2=>fs.length<=16777216/\Q (.list fs) n2:=id rfl
def qaZ {l:Nat} {wi:TI3} {g:TG3} {tif:TT3} {te:TE3} {l2:Nat} {pi:PwI l wi} {pg:PuG g} {pc:PwC l2 tif} {pe:PwE l2 te} {m:List (Option Nat)} {hm:Tru (pg.tg.all λi=>m[i]?==some none)} {hl:Tru (m[l2]?==some (some l))}:(eLc l2 pi pg pc pe m hm hl).nw=true:=id rfl
def MA {l:Nat}:(NP (l:=l)).w=λρ n Q=>Q (.nx ρ) n:=id rfl
def qcw {b:Rho->Nat->QO->Prop} {Q:QO} {ρ:Rho} {n:Nat}:sqw b Q (.nx ρ) n=b ρ n Q:=id rfl
def qch {b:Rho->Nat->QO->Prop} {Q:QO} {d:PyData} {f:Bool} {n:Nat}:sqw b Q (.rt d f) n=Q (.rt d f) n:=id rfl
def qij {l:Nat} {c:TT3} {t u:TS3} {pc:PwC l c} {x:PwS l t} {y:PwS l u}:(wIf pc x y).w=λρ n Q=>pc.w ρ n λk n1=>if k then x.w ρ n1 Q else y.w ρ n1 Q:=id rfl
def qbF {l:Nat} {t:TE3} {x:PwE l t}:(qi2 x).w=λρ n Q=>x.w ρ n λd n1=>Q (.rt d x.nw) n1:=id rfl
def qaW {l:Nat} {t:TE3} {x:PwE l t} {i:Nat} {m:List Bool} {hm:Tru (x.fv.all (mkb m))} {hl:Tru (!mkb m l&&(i != l&&i != 0))}:(qe2 x i m hm hl).w=λρ n Q=>x.w ρ n λd n1=>Q (.nx (KL m x.nw i d ρ)) n1:=id rfl
def qce {l:Nat} {t:TA3} {x:PwA l t} {i j:Nat} {m:List Bool} {hm:Tru (x.fv.all (mkb m))} {hl:Tru (!mkb m l&&((i != l&&i != 0)&&(j != l&&j != 0)))}:(qla x i j m hm hl).w=λρ n Q=>x.w ρ n λds n1=>∃ o,qiP i j m ds ρ=some o/\Q o n1:=id rfl
def MY {ds:List PyData} {n:Nat} {Q:QD}:ND.W ds n Q=(∃ m:Int,ds=[.int m]/\(1<=m/\m<1073741824)/\n<1000000000/\∀ d:Int,0<=d->d<m->Q (.int d) (n+1)):=id rfl
def qbb {ρ:Rho} {n:Nat}:okW (.nx ρ) n=True:=id rfl
def qgn {α:Type} {v:α} {P:α->Prop}:(∃ d,some v=some d/\P d)=P v:=propext ⟨λ⟨d,h1,h2⟩=>by cases h1;exact h2,λh=>⟨v,rfl,h⟩⟩
def qbl {v:Int} {P:Int->Prop}:(∃ m:Int,[PyData.int v]=[.int m]/\P m)=P v:=propext ⟨λ⟨d,h1,h2⟩=>by cases h1;exact h2,λh=>⟨v,rfl,h⟩⟩
def qbH {m:List Bool} {nw:Bool} {i:Nat} {d:Dl} {ρ:Rho}:KL m nw i (Pv.dlD d) ρ=(dm m ρ).set i (.sh (Pv.dlD d)):=by cases d<;>exact qcL
def WW {l:Nat} {t u:TS3} {x:PwS l t} {y:PwS l u} {ρ:Rho} {n:Nat} {Q:QO} (h:∀ Y:Rho->Nat->QO->Prop,Y=y.w->x.w ρ n (sqw Y Q)):(qaJ x y).w ρ n Q:=h _ rfl
def qcR {ks:List Int} {d:Int} {P:PyData->Prop} (h0:0<=d) (h1:d<(ks.length:Int)) (h:∀ k∈ks,P (.int k)):∃ v,L2.atI (ks.map PyData.int) d=some v/\P v:=by
 obtain ⟨i,rfl⟩:=Int.eq_ofNat_of_zero_le h0;have hi:i<ks.length:=by omega
 refine ⟨.int ks[i],?_,h _ (List.getElem_mem hi)⟩;have:=atN (xs:=ks.map PyData.int) (k:=i) (by simpa using hi);rw [getElem?_map,getElem?_eq_getElem hi] at this;exact this
structure MnE (bw:Rho->Nat->QD->Prop):Prop where
 h:∀ ρ n (Q Q':QD),bw ρ n Q->(∀ o m,Q o m->Q' o m)->bw ρ n Q'
def PwE.mn {l:Nat} {t:TE3} (b:PwE l t):MnE b.w:=⟨λ_ _ _ _ h k=>b.mono h k⟩
structure MnC (bw:Rho->Nat->(Bool->Nat->Prop)->Prop):Prop where
 h:∀ ρ n (Q Q':Bool->Nat->Prop),bw ρ n Q->(∀ o m,Q o m->Q' o m)->bw ρ n Q'
def mnT:MnC (λρ n Q=>Q true n):=⟨λ_ _ _ _ h k=>k _ _ h⟩
section
variable {l:Nat} {g:TG3} {tb:TS3}
def LO {gf:PyData->Option (List (Nat×PyData))} {cw:Rho->Nat->(Bool->Nat->Prop)->Prop} {ew:Rho->Nat->QD->Prop} {α β:Type} {f:α->PyData} {gd:β->PyData} {ρ:Rho} (R:β->Prop) (c:Nat) (N:Nat):∀ (xs:List α) (n:Nat) (Q:List PyData->Nat->Prop),
  (∀ x∈xs,∀ n Q,n+c<=N->(∀ b,R b->Q (gd b) (n+c))->∃ bs,gf (f x)=some bs/\cw (YN ρ bs) n λk n1=>if k then ew (YN ρ bs) n1 Q else False) ->
  MnE ew->MnC cw->n+c*xs.length<=N->(∀ bs:List β,bs.length=xs.length->(∀ b∈bs,R b)->Q (bs.map gd) (n+c*xs.length))->lcW gf cw ew ρ (xs.map f) n Q
 |[],n,Q,_,_,_,_,h=>h [] rfl (by simp)
 |x::xs,n,Q,hx,me,mc,hn,h=>by
  have hc:c*(xs.length+1)=c*xs.length+c:=by rw [Nat.mul_succ]
  simp only [length_cons] at hn h;obtain ⟨bs,h1,h2⟩:=hx x (by simp) n (λy n2=>lcW gf cw ew ρ (xs.map f) n2 λys n3=>Q (y::ys) n3) (by omega) λb hb=>by
   refine LO R c N xs (n+c) _ (λz hz=>hx z (by simp [hz])) me mc (by omega) λcs hl hr=>?_;have:=h (b::cs) (by simp [hl]) (by intro z hz;rcases mem_cons.mp hz with rfl|hz;exact hb;exact hr z hz);rw [show n+c*(xs.length+1)=n+c+c*xs.length by omega] at this;exact this
  refine ⟨bs,h1,mc.h _ _ _ _ h2 λk m hk=>?_⟩;cases k with
  |true=>exact hk
  |false=>exact hk.elim
end
def KS {α β:Type} {x:α} {f:α->Option β}:(some x).bind f=f x:=id rfl
def qbk {α β:Type} {x:α} {f:α->β}:(some x).map f=some (f x):=id rfl
def qiE {α:Type} {x:α} {r:List α}:(x::r).length=r.length+1:=id rfl
def qgj {α:Type}:([]:List α).length=0:=id rfl
def qh1 {α:Type} {x y:α} {r:List α}:(x::r).set 0 y=y::r:=id rfl
def qeY {α:Type} {x y:α} {r:List α} {i:Nat}:(x::r).set (i+1) y=x::r.set i y:=id rfl
def qeA {α:Type} {r:List α}:r++[]=r:=List.append_nil r
def qfw {α:Type} {x:α} {r s:List α}:(x::r)++s=x::(r++s):=id rfl
def qgH {α:Type} {s:List α}:[]++s=s:=id rfl
def qek {n:Nat}:0+n=n:=Nat.zero_add n
def qhR {α:Type} {a b:α} {i:Decidable True}:@ite α True i a b=a:=if_pos trivial
def qid {α:Type} {a b:α} {i:Decidable False}:@ite α False i a b=b:=if_neg not_false
def qgf:(false=true)=False:=Bool.false_eq_true
def qeR:(!true)=false:=id rfl
def qip:(!false)=true:=id rfl
def qf9 {i:Decidable True}:@decide True i=true:=decide_true i
def qen {i:Decidable False}:@decide False i=false:=decide_false i
def ai{a b:Prop}(x:a)(y:b):a/\b:=⟨x,y⟩
def pwA:=(ai (ai (ai (ai (ai (ai (ai @Pu.qia @Pu.qgY) (ai @Pu.qh6 (ai @Pu.qed @Pu.qle))) (ai (ai @Pu.MM @Pu.qib) (ai @Pu.qbm (ai @Pu.qej @Pu.qgL)))) (ai (ai (ai @Pu.qaZ @Pu.MA) (ai @Pu.qcw (ai @Pu.qch @Pu.qij))) (ai (ai @Pu.qbF @Pu.qaW) (ai @Pu.qce (ai @Pu.MY @Pu.qbb))))) (ai (ai (ai (ai @Pu.qbl @Pu.qbH) (ai @Pu.qhL (ai @Pu.qkK @Pu.qca))) (ai (ai @Pu.qgq @Pu.qbg) (ai @Pu.qk9 (ai @Pu.qbN @Pu.M4)))) (ai (ai (ai @Pu.qcr @Pu.qa4) (ai @Pu.KH (ai @Pu.qiv @Pu.qfT))) (ai (ai @Pu.qcp (ai @Pu.qeT @Pu.LX)) (ai @Pu.MC (ai @Pu.qfk @Pu.qbw)))))) (ai (ai (ai (ai (ai @Pu.qcE @Pu.qhe) (ai @Pu.qhq (ai @Pu.qgE @Pu.qir))) (ai (ai @Pu.qa2 @Pu.qa0) (ai @Pu.qcn (ai @Pu.qbS @Pu.KF)))) (ai (ai (ai @Pu.L0 @Pu.qii) (ai @Pu.qhV (ai @Pu.qfF @Pu.qb0))) (ai (ai @Pu.LH @Pu.qbX) (ai @Pu.T5 (ai @Pu.C6 @Pu.qcs))))) (ai (ai (ai (ai @Pu.qaV @Pu.K9) (ai @Pu.C9 (ai @Pu.MN @Pu.qkP))) (ai (ai @Pu.qcx @Pu.MR) (ai @Pu.qbQ (ai @Pu.MT @Pu.qaX)))) (ai (ai (ai @Pu.qf3 @Pu.qb7) (ai @Pu.KR (ai @Pu.qb6 @Pu.M1))) (ai (ai @Pu.qbD (ai @Pu.MD @Pu.qcl)) (ai @Pu.qhn (ai @Pu.KY @Pu.qbz))))))) (ai (ai (ai (ai (ai (ai @Pu.qfD @Pu.MH) (ai @Pu.CU (ai @Pu.RD @Pu.RA))) (ai (ai @Pu.K1 @Pu.M0) (ai @Pu.LP (ai @Pu.KM @Pu.MF)))) (ai (ai (ai @Pu.RE @Pu.L7) (ai @Pu.qcv (ai @Pu.qb4 @Pu.qkW))) (ai (ai @Pu.qkZ @Pu.qfv) (ai @Pu.qil (ai @Pu.qhU @Pu.KZ))))) (ai (ai (ai (ai @Pu.qa1 @Pu.qfl) (ai @Pu.qgB (ai @Pu.at0 @Pu.at1))) (ai (ai @Pu.at2 @Pu.at3) (ai @Pu.eqS (ai @Pu.eqI @Pu.qkM)))) (ai (ai (ai @Pu.qck @Pu.qcy) (ai @Pu.qbZ (ai @Pu.qbL @Pu.LG))) (ai (ai @Pu.qht (ai @Pu.qiC @Pu.qba)) (ai @Pu.qcc (ai @Pu.qbC @Pu.C5)))))) (ai (ai (ai (ai (ai @Pu.qcj @Pu.qbf) (ai @Pu.qgo (ai @Pu.qge @Pu.qbh))) (ai (ai @Pu.qgs @Pu.qgZ) (ai @Pu.qcL (ai @Pu.qcC @Pu.qkL)))) (ai (ai (ai @Pu.qkN @Pu.qk1) (ai @Pu.qiy (ai @Pu.qgD @Pu.qiG))) (ai (ai @Pu.qfK @Pu.qhd) (ai @Pu.qkT (ai @Pu.qf1 @Pu.qb2))))) (ai (ai (ai (ai @Pu.qcf @Pu.qbe) (ai @Pu.qcb (ai @Pu.qgn @Pu.KS))) (ai (ai @Pu.qbk @Pu.qiE) (ai @Pu.qgj (ai @Pu.qh1 @Pu.qeY)))) (ai (ai (ai @Pu.qeA @Pu.qfw) (ai @Pu.qgH (ai @Pu.qek @Pu.qhR))) (ai (ai @Pu.qid (ai @Pu.qgf @Pu.qeR)) (ai @Pu.qip (ai @Pu.qf9 @Pu.qen))))))))
def qb3 {H H':Gp}:∀ {xs:List T} {ds:List PyData},Dqs H xs ds->ds.all SC=true->Dqs H' xs ds
 |_,_,.nil,_=>.nil
 |_,_,.cons a b,h=>by
  rw [List.all_cons,Bool.and_eq_true] at h;exact .cons (U6 a h.1) (qb3 b h.2)
def qk2 {l:Nat} (j i:Nat) (hl:Tru (i != l&&i != 0)):PwS l (zT (cb3 S6 (qc (v3 j) qr)) (gn3 i)):=⟨λρ n Q=>∃ ds,vw ρ j=some (.list ds)/\ds.all SC=true/\Q (.nx (ρ.set i (.ow ds))) n,λ⟨ds,h1,h2,h3⟩ k=>⟨ds,h1,h2,k _ _ h3⟩,λ{a z0 D G0 A τ ρ G n e Q} h ⟨ds,h1,h2,h3⟩ k=>by
 have hl':i≠l/\i≠0:=by simpa using hl.h
 obtain ⟨t,e1,d1⟩:=h.r.viewAll [j] j (by simp) _ h1;cases d1 with
 |lst g hs=>
  rename_i q xs;simp only [zT,cb3,qc,qr,v3,e1,S6,zL (qF g).2];intro p hp;show e.nx (τ.set i (some (.ref p))) (gu G p (.lst xs));obtain ⟨A',r⟩:=h.putN hl'.1 hl'.2 (ds:=ds) rfl (Bk.V9 (QY hp)) (h.lf.ex (QY hp)) (XT (D:=AD D A) hp (qb3 hs h2));exact k _ _ h3 _ _ _ r⟩
def qet {l j i:Nat} {hl:Tru (i != l&&i != 0)}:(qk2 (l:=l) j i hl).w=λρ n Q=>∃ ds,vw ρ j=some (.list ds)/\ds.all SC=true/\Q (.nx (ρ.set i (.ow ds))) n:=id rfl
def the (S:PyData->Prop):Option PyData:=@dite _ (∃ v,S v) (Classical.propDecidable _) (λh=>some (Classical.choose h)) λ_=>none
end Pu
namespace Pu
open PySem L2 L3
def qbO:∀ ks:List Int,qbc (ks.map PyData.int)=0
 |[]=>rfl
 |k::ks=>by simp only [map_cons,qbc,dpt,qbO ks];rfl
def qgA:∀ ks js:List Int,Q1 (ks.map PyData.int) (js.map PyData.int)=some (decide (ks=js))
 |[],[]=>rfl
 |[],_::_=>by simp [Q1]
 |_::_,[]=>by simp [Q1]
 |k::ks,j::js=>by
  simp only [map_cons,Q1,QH,qgA ks js];congr 1;by_cases h1:k=j<;>by_cases h2:ks=js<;>simp [h1,h2]
def qdO (n:Bool) (ks js:List Int):eqD n (.list (ks.map PyData.int)) (.list (js.map PyData.int))=some (.bool (if n then !decide (ks=js) else decide (ks=js))):=by
 have h:ME (.list (ks.map PyData.int)) (.list (js.map PyData.int))=none:=rfl;unfold eqD;rw [h];simp only;rw [jU (by simp [dpt,qbO])];simp only [QH,qgA,Option.map_some]
def qaP {a m:Int} {n:Nat} (h:m∈VX a n):a<=m/\m<a+n:=by
 unfold VX at h;obtain ⟨i,hi,rfl⟩:=mem_map.mp h;have:=mem_range.mp hi;omega
def qhB {xs ys:List PyData} (h:xs.length+ys.length<=16777216):qfd (.list xs) (.list ys)=some (.list (xs++ys)):=jU (by rw [sizeLine_eq];exact h)
def TX (d e:PyData):Option PyData:=match d,e with
 |.list ds,.int z=>(Z5 ds).map λns=>.int (match ns with|[]=>z|m::r=>mx (m::r))
 |_,_=>none
def qbJ:OpD TD:=⟨TX,false,λ{D G x y d e v q} hx hy hd hf k=>by
 unfold TX at hf;split at hf
 ·obtain ⟨ns,e,hf⟩:=Option.map_eq_some_iff.mp hf;subst hf;cases hx;cases hy;rename_i g hs;have:=V4 e;subst this;have:=hs.ints;subst this;simp only [TD,zL (qF g).2,U8];cases ns with
  |nil=>exact ⟨λ_=>k _ _ Ex.refl (.int _) (λz=>by cases z),λm hm=>(by cases hm)⟩
  |cons n r=>
   refine ⟨λz=>(by cases z),λm hm hl=>?_⟩;have:m=mx (n::r):=Int.le_antisymm (RX hm) (hl _ (XX (by simp)));subst this;exact k _ _ Ex.refl (.int _) (λz=>by cases z)
 ·cases hf⟩
def N0:qbJ.f=TX:=id rfl
def qg9 {ns:List Int} {z:Int}:TX (.list (ns.map PyData.int)) (.int z)=some (.int (match ns with|[]=>z|m::r=>mx (m::r))):=by simp only [TX,U4,Option.map_some]
end Pu
namespace Pv
open PySem L2 L3 Pu
def RC {lo:Int} {n i:Nat} {x:Int} (h:(VX lo n)[i]?=some x):i<n/\x=lo+i:=by
 unfold VX at h;rw [getElem?_map] at h;obtain ⟨k,e1,e2⟩:=Option.map_eq_some_iff.mp h;obtain ⟨hl,hk⟩:=List.getElem?_eq_some_iff.mp e1;simp at hl hk;subst hk;exact ⟨hl,e2.symm⟩
def RG (lo:Int) (n:Nat):(VX lo n).length=n:=by simp [VX]
open Bk (Dl)
def qeB {P:Nat->Prop} (h:∃ n,P n):∃ n,P n/\∀ m,m<n->¬ P m:=by
 obtain ⟨n,hn⟩:=h;induction n using Nat.strongRecOn with
 |_ n ih=>
  by_cases hx:∃ m,m<n/\P m
  ·obtain ⟨m,h1,h2⟩:=hx;exact ih m h1 h2
  ·exact ⟨n,hn,λm h1 h2=>hx ⟨m,h1,h2⟩⟩
def lst (P:Nat->Prop):Nat:=open Classical in if h:∃ n,P n then (qeB h).choose else 0
def qgx {P:Nat->Prop} (h:∃ n,P n):P (lst P)/\∀ m,m<lst P->¬ P m:=by
 unfold lst;rw [dif_pos h];exact (qeB h).choose_spec
def szD (d:Dl):PyData:=.tuple [.int d.R,.int d.C,.int d.B]
def sh1 {n:Nat} (h:n<=1000):cI ED (λi j=>i*2 ^ j.toNat) (.int 1) (.int (n:Int))=some (.int (2 ^ n)):=by
 rw [KW ⟨by omega,by omega,by decide⟩,Int.one_mul,Int.toNat_natCast]
def qiV:∀ (d:Dl) (j:Nat),d.dep<j->d.Ok->qp j [dlD d]=some (szD d)
 |.skew r c b x y,j+1,_,_=>by
  rw [QC]
  try simp only [Pu.pwA,jc,dlD,szD,Dl.R,Dl.C,Dl.B,L3.W0,L3.WF,L3.EK]
 |.rests r c b x,j+1,_,_=>by
  rw [QC]
  try simp only [Pu.pwA,jc,dlD,szD,Dl.R,Dl.C,Dl.B,L3.DB,L3.EF,L3.U9]
 |.bits h l ms,j+1,_,ok=>by
  obtain ⟨h1,h2,h3,_⟩:=ok;rw [QC]
  try simp only [Pu.pwA,jc,dlD,szD,Dl.R,Dl.C,Dl.B,eq_self,length_map,sh1 (n:=h) (by omega),sh1 (n:=l) (by omega),sh1 (n:=ms.length) (by omega)]
 |.table b cells,j+1,_,ok=>by
  obtain ⟨h1,h2,h3,h4,c,h5,h6,h7⟩:=ok;have e0:cells[0]?=some cells[0]:=getElem?_eq_getElem (by omega);have e1:L2.atI (cells.map qh9) 0=some (qh9 cells[0]):=by
   have:=atN (xs:=cells.map qh9) (k:=0) (by simp;omega);rw [getElem?_map,e0] at this;exact this
  rw [QC]
  try simp only [Pu.pwA,jc,dlD,szD,Dl.R,Dl.C,Dl.B,eq_self,L3.DF,length_map,e1,qh9,e0,Option.getD_some]
 |.joined d e,j+1,hd,ok=>by
  have hh:max d.dep e.dep+1<j+1:=hd;have r1:=qiV d j (by omega) ok.1;have r2:=qiV e j (by omega) ok.2.1;have l1:=Dl.lims ok.1;have l2:=Dl.lims ok.2.1;have a1:=l1.r1;have a2:=l1.r2;have a3:=l1.c1;have a4:=l1.c2;have a5:=l1.b1;have a6:=l1.b2;rw [QC]
  try simp (disch:=omega) only [Pu.pwA,jc,dlD,szD,Dl.R,Dl.C,Dl.B,eq_self,L3.EQ,L3.UB,r1,r2,K4]
end Pv
namespace Pv
open PySem L2 L3 Pu
def zI:PuS (Bk.zH):=(QI (X0 (bO (opI Builtin.bitAnd) (bV 0) (bV 1)) 2 [true,true] ⟨rfl⟩) (QI (X0 (qM 0) 3 [] ⟨rfl⟩) (QI (sWh (bTb (bO (opB λi j=>decide (j<i)) (bV 2) (qM 0))) (QI (qlb (bO (opI Builtin.bitAnd) (bV 2) (qM 1)) 3) (X0 (bO (opC (λ_ j=>0<=j) (λi j=>i/2 ^ j.toNat)) (bV 2) (qM 1)) 2 [false,false,true] ⟨rfl⟩))) (ZL (bO (VT false) (bO (opI Builtin.bitAnd) (bV 3) (qM 1)) (qM 1))))))
def qm:List PyData->Option PyData:=run (zI).f 2 4 1000000000 false
def VW:∀ ts G q,PSp (qm) false ts G q->ts.length=2/\Bk.zH { nx:=λ_ G'=>q .non G',rt:=q } (qB ["number","mask","common","many"] ts) G:=qQ (zI) ["number","mask","common","many"] 2 1000000000 false
def VY {x0 x1:PyData}:qm [x0,x1]=Z2 false ((zI).f 1000000000 [.sh x0,.sh x1,.un,.un]):=id rfl
def QF (qm:List PyData->Option PyData):PuS (Bk.QP (PSp qm false)):=(ZL (qy qiQ (qg (bLc (RZ (qg (bV 0) qV)) (T4 2 (zX (gN 0) (zX (gN 1) T0))) (bTb (qy (qS qm false) (qg (bV 2) (qg (bV 1) qV)))) (bO (opC ED (λi j=>i*2 ^ j.toNat)) (qM 1) (bV 0)) [none,none,some 1] ⟨rfl⟩) qV)))
def zk:List PyData->Option PyData:=run (QF qm).f 2 2 1000000000 false
def WY:∀ ts G q,PSp (zk) false ts G q->ts.length=2/\Bk.QP (PSp qm false) { nx:=λ_ G'=>q .non G',rt:=q } (qB ["masks","number"] ts) G:=qQ (QF qm) ["masks","number"] 2 1000000000 false
def W1 {x0 x1:PyData}:zk [x0,x1]=Z2 false ((QF qm).f 1000000000 [.sh x0,.sh x1]):=id rfl
open Bk (pop V7 qw ql V0 Dl jN YX VG YZ)
def par:Nat->Int->Int->Int
 |0,_,_=>0
 |k+1,n,m=>n%2*(m%2)+par k (n/2) (m/2)
def DY {n m:Int} (hn:0<=n) (hm:0<=m):Builtin.bitAnd n m=2*Builtin.bitAnd (n/2) (m/2)+n%2*(m%2):=by
 rw [PySem.W.kbt_halves n m];have h1:n%2=0\/n%2=1:=by omega
 have h2:m%2=0\/m%2=1:=by omega
 rcases h1 with h1|h1<;>rcases h2 with h2|h2<;>simp [h1,h2]
def LK:∀ (k:Nat) (n m:Int),0<=n->0<=m->((pop k (Builtin.bitAnd n m).toNat:Nat):Int)=par k n m
 |0,_,_,_,_=>rfl
 |k+1,n,m,hn,hm=>by
  have a:=DY hn hm;have r:=PyProof.Rows.bitAnd_range (n/2) (show 0<=m/2 by omega);have ih:=LK k (n/2) (m/2) (by omega) (by omega);have h1:n%2=0\/n%2=1:=by omega
  have h2:m%2=0\/m%2=1:=by omega
  have b:n%2*(m%2)=0\/n%2*(m%2)=1:=by rcases h1 with h1|h1<;>rcases h2 with h2|h2<;>simp [h1,h2]
  have e1:(Builtin.bitAnd n m).toNat%2=(n%2*(m%2)).toNat:=by omega
  have e2:(Builtin.bitAnd n m).toNat/2=(Builtin.bitAnd (n/2) (m/2)).toNat:=by omega
  simp only [pop,par,e1,e2,← ih];omega
def DH {n m:Int} (hn:0<=n) (hm:0<=m):(if V7 n m then (1:Int) else 0)=par 64 n m%2:=by
 rw [← LK 64 n m hn hm];unfold V7;by_cases h:pop 64 (Builtin.bitAnd n m).toNat%2=1
 ·simp [h];omega
 ·simp [h];omega
def YE {x y:Int} (hx:0<=x) (hy:0<=y):0<=Builtin.bitXor x y/\Builtin.bitXor x y%2=(x%2+y%2)%2/\Builtin.bitXor x y/2=Builtin.bitXor (x/2) (y/2):=by
 have a:=DY hx hy;have b:=PyProof.Rows.bitXor_and x y;have c:=PyProof.Rows.bitXor_and (x/2) (y/2);have r:=PyProof.Rows.bitAnd_range (x/2) (show 0<=y/2 by omega);have r2:=PyProof.Rows.bitAnd_range (y/2) (show 0<=x/2 by omega);have h1:x%2=0\/x%2=1:=by omega
 have h2:y%2=0\/y%2=1:=by omega
 have p:x%2*(y%2)=0/\(x%2=0\/y%2=0)\/x%2*(y%2)=1/\x%2=1/\y%2=1:=by rcases h1 with h1|h1<;>rcases h2 with h2|h2<;>simp [h1,h2]
 have s:=PyProof.Rows.bitAnd_range x hy;have cm:Builtin.bitAnd x y=Builtin.bitAnd y x:=by
  have:=PyProof.Rows.bitXor_and y x;exact PyProof.Rows.bitAnd_comm x y
 have s2:=PyProof.Rows.bitAnd_range y hx;omega
def K2:∀ (k:Nat) (x y m:Int),0<=x->0<=y->par k (Builtin.bitXor x y) m%2=(par k x m+par k y m)%2
 |0,_,_,_,_,_=>rfl
 |k+1,x,y,m,hx,hy=>by
  obtain ⟨z0,z1,z2⟩:=YE hx hy;have ih:=K2 k (x/2) (y/2) (m/2) (by omega) (by omega);simp only [par,z1,z2];have h1:x%2=0\/x%2=1:=by omega
  have h2:y%2=0\/y%2=1:=by omega
  have h3:m%2=0\/m%2=1:=by omega
  rcases h1 with h1|h1<;>rcases h2 with h2|h2<;>rcases h3 with h3|h3<;>simp only [h1,h2,h3]<;>omega
def W7 (n:Int):∀ (t:Nat) (ms:List Int),qw n (t+1) ms=2*qw n t ms
 |_,[]=>rfl
 |t,m::ms=>by
  simp only [qw,W7 n (t+1) ms,Int.pow_succ];split<;>omega
def Q4 (n m:Int) (ms:List Int):ql (m::ms) n=(if V7 n m then 1 else 0)+2*ql ms n:=by
 unfold ql;rw [qw,W7];simp
def D7 (n:Int):∀ ms:List Int,0<=ql ms n/\ql ms n<2 ^ ms.length
 |[]=>by simp [ql,qw]
 |m::ms=>by
  have ih:=D7 n ms;rw [Q4,length_cons,Int.pow_succ];split<;>omega
def RJ (b:Bool) (B:Int):((if b then (1:Int) else 0)+2*B)%2=(if b then 1 else 0)/\((if b then (1:Int) else 0)+2*B)/2=B:=by
 cases b<;>simp<;>omega
def DW {x y:Int} (hx:0<=x) (hy:0<=y):∀ ms:List Int,(∀ m∈ms,0<=m)->Builtin.bitXor (ql ms x) (ql ms y)=ql ms (Builtin.bitXor x y)
 |[],_=>by simp [ql,qw];exact PyProof.Rows.bitXor_self 0
 |m::ms,hm=>by
  have ih:=DW hx hy ms λz hz=>hm z (List.mem_cons_of_mem _ hz);have m0:=hm m List.mem_cons_self;have a:=D7 x (m::ms);have b:=D7 y (m::ms);obtain ⟨z0,z1,z2⟩:=YE a.1 b.1;obtain ⟨w0,w1,w2⟩:=YE hx hy;have ex:=DH hx m0;have ey:=DH hy m0;have ez:=DH w0 m0;have lin:=K2 64 x y m hx hy;rw [Q4 x,Q4 y] at z1 z2 ⊢;rw [Q4 (Builtin.bitXor x y),← ih];rw [(RJ _ _).2,(RJ _ _).2] at z2;rw [(RJ _ _).1,(RJ _ _).1] at z1;omega
def DR:∀ (i c:Nat),pop (i+1) c=pop i c+c/2 ^ i%2
 |0,c=>by simp [pop]
 |i+1,c=>by
  have ih:=DR i (c/2);rw [pop,ih,Nat.div_div_eq_div_mul,show 2*2 ^ i=2 ^ (i+1) by rw [Nat.pow_succ];omega];rw [show pop (i+1) c=c%2+pop i (c/2) from rfl];omega
def MK {i j c:Nat} (h:c<2 ^ i) (hj:i<=j):pop j c=pop i c:=by
 induction hj with
 |refl=>rfl
 |step hj ih=>rw [V0 _ _ (Nat.lt_of_lt_of_le h (Nat.pow_le_pow_right (by omega) hj)),ih]
def qjM {n m:Int} (hm:0<=m) (hm2:m<2 ^ 64):qm [.int n,.int m]=some (.bool (V7 n m)):=by
 have hr:=PyProof.Rows.bitAnd_range n hm;obtain ⟨c,hc⟩:=Int.eq_ofNat_of_zero_le hr.1;have c64:c<2 ^ 64:=by omega
 have ex:∃ k,c/2 ^ k=0:=⟨64,Nat.div_eq_of_lt c64⟩
 obtain ⟨L1,L2'⟩:=qgx (P:=λk=>c/2 ^ k=0) ex;have LT:lst (λk=>c/2 ^ k=0)<=64:=by
  apply Classical.byContradiction;intro h;exact L2' 64 (by omega) (Nat.div_eq_of_lt c64)
 generalize lst (λk=>c/2 ^ k=0)=T at L1 L2' LT;rw [VY]
 try simp only [Pu.pwA,zI,hc]
 refine qfH (Q:=λo=>Z2 false o=_) T (by omega) (λi ρ=>ρ=[.sh (.int n),.sh (.int m),.sh (.int ((c/2 ^ i:Nat):Int)),.sh (.int ((pop i c:Nat):Int))]) (by simp [pop]) ?_ ?_ ?_ ?_
 ·rintro i ρ hi rfl;have h1:=L2' i hi;have:(0:Int)<((c/2 ^ i:Nat):Int):=Int.natCast_pos.mpr (Nat.pos_of_ne_zero h1)
  try simp only [Pu.pwA,this]
 ·rintro i ρ hi rfl;have e1:((c/2 ^ i:Nat):Int)/2 ^ (1:Int).toNat=((c/2 ^ (i+1):Nat):Int):=by
   rw [Nat.pow_succ,← Nat.div_div_eq_div_mul];simp
  have e2:((pop i c:Nat):Int)+((c/2 ^ i:Nat):Int)%2=((pop (i+1) c:Nat):Int):=by rw [DR];omega
  try simp (disch:=omega) only [Pu.pwA,PyProof.Rows.bitAnd_m1,qef (i:=3) (x:=((pop i c:Nat):Int)) (y:=((c/2 ^ i:Nat):Int)%2) (ρ:=[.sh (.int n),.sh (.int m),.sh (.int ((c/2 ^ i:Nat):Int)),.sh (.int ((pop i c:Nat):Int))]) rfl,qaY,e1,e2]
 ·rintro ρ rfl
  try simp only [Pu.pwA,L1,Int.natCast_zero,Int.lt_irrefl]
 ·rintro ρ rfl;have lt:c<2 ^ T:=by
   rcases Nat.lt_or_ge c (2 ^ T) with z|z
   ·exact z
   ·have:=Nat.div_pos z (Nat.pow_pos (n:=T) (show 0<2 by omega));omega
  have e:V7 n m=decide (((pop T c:Nat):Int)%2=1):=by
   unfold V7;rw [hc,Int.toNat_natCast,MK lt LT];by_cases hy:pop T c%2=1
   ·have:((pop T c:Nat):Int)%2=1:=by omega
    simp [hy,this]
   ·have:¬ ((pop T c:Nat):Int)%2=1:=by omega
    simp [hy,this]
  try simp only [Pu.pwA,PyProof.Rows.bitAnd_m1,e]
def XG {n:Int} {R:Int->Prop} {h:PyData->Option (Option PyData)} (hh:∀ (t:Nat) (m:Int),t<60->R m->h (.tuple [.int t,.int m])=some (if V7 n m then some (.int (2 ^ t)) else none)):∀ (ms:List Int) (k:Nat),(∀ m∈ms,R m)->k+ms.length<=60->lcP h (enD k (ms.map PyData.int))=some ((jN n k ms).map PyData.int)
 |[],k,_,_=>rfl
 |m::ms,k,hm,hk=>by
  rw [length_cons] at hk;have ih:=XG hh ms (k+1) (λx hx=>hm x (by simp [hx])) (by omega);have e:=hh k m (by omega) (hm m (by simp));show (h (.tuple [.int (k:Int),.int m])).bind _=_;rw [e];simp only [Option.bind_some,ih,jN];cases V7 n m with
  |true=>simp
  |false=>simp
def qlP {ms:List Int} {n:Int} (hm:∀ m∈ms,0<=m/\m<2 ^ 64) (hl:ms.length<=30):zk [.tuple (ms.map PyData.int),.int n]=some (.int (ql ms n)):=by
 rw [W1]
 try simp only [Pu.pwA,QF]
 have cl:=VG n 0 ms;rw [EX (ds:=enD 0 (ms.map PyData.int)) (fs:=(jN n 0 ms).map PyData.int)]
 ·have so:CB (jN n 0 ms):=by
   refine ⟨by omega,λx hx=>?_⟩;obtain ⟨k,hk,rfl⟩:=YZ n 0 ms x hx;have h1:2 ^ k<=1073741824:=Nat.le_trans (Nat.pow_le_pow_right (by omega) (by omega:k<=30)) (by decide);have h2:((2 ^ k:Nat):Int)=2 ^ k:=by simp
   rw [← h2];generalize 2 ^ k=z at h1;omega
  try simp only [Pu.pwA,qb5 so,YX,ql]
 ·try simp only [Pu.pwA]
 ·refine XG (R:=λm=>0<=m/\m<2 ^ 64) (λt m ht hm=>?_) ms 0 hm (by omega);have e:=qjM (n:=n) hm.1 hm.2
  try simp only [Pu.pwA,WR,e]
  cases V7 n m with
  |true=>
   have:cI ED (λi j=>i*2 ^ j.toNat) (.int 1) (.int (t:Int))=some (.int (2 ^ t)):=by
    rw [KW ⟨by omega,by omega,by decide⟩,Int.one_mul,Int.toNat_natCast]
   try simp only [Pu.pwA,this]
  |false=>try simp only [Pu.pwA]
 ·simp;omega
def fl (ks:List Int):List Int:=ks.foldl (λacc m=>acc++acc.map λf=>Builtin.bitXor f m) [0]
def UK (ks:List Int) (m:Int):fl (ks++[m])=fl ks++(fl ks).map λf=>Builtin.bitXor f m:=by simp [fl]
def UV {n:Nat} {ks:List Int} (h:ks.length=n+1):∃ (k':List Int) (m:Int),ks=k'++[m]/\k'.length=n:=by
 have hne:ks≠[]:=by rintro rfl;simp at h
 exact ⟨ks.dropLast,ks.getLast hne,(List.dropLast_concat_getLast hne).symm,by simp [h]⟩
def qhy:∀ (n:Nat) (ks:List Int),ks.length=n->(fl ks).length=2 ^ n:=by
 intro n;induction n with
 |zero=>intro ks h;have:=List.eq_nil_of_length_eq_zero h;subst this;rfl
 |succ n ih=>
  intro ks h;obtain ⟨k',m,rfl,hl⟩:=UV h;rw [UK,length_append,length_map,ih k' hl,Nat.pow_succ];omega
end Pv
namespace Pv
open PySem L2 L3 Pu
open Bk (pop V7 qw ql V0 Dl)
def DS:∀ (ms:List Int) (k:Nat),enD k (ms.map PyData.int)=(ms.zipIdx k).map λp=>PyData.tuple [.int (p.2:Int),.int p.1]
 |[],k=>rfl
 |m::ms,k=>by simp only [map_cons,enD,List.zipIdx_cons,DS ms (k+1)]
def KG (n m:Int):∀ (xs:List Int) (t:Nat),qw n t (xs++[m])=qw n t xs+(if V7 n m then 2 ^ (t+xs.length) else 0)
 |[],t=>by simp [qw]
 |x::xs,t=>by
  have ih:=KG n m xs (t+1);simp only [cons_append,qw,ih,length_cons];rw [show t+1+xs.length=t+(xs.length+1) by omega];omega
def nm (s:Nat) (ks:List Int):Int:=(ks.zipIdx 0).foldl (λa p=>Builtin.bitXor a (p.1*((s/2 ^ p.2%2:Nat):Int))) 0
def U3 (s:Nat) (ks:List Int) (m:Int):nm s (ks++[m])=Builtin.bitXor (nm s ks) (m*((s/2 ^ ks.length%2:Nat):Int)):=by
 simp [nm,List.zipIdx_append]
def RM {s r:Nat}:∀ (n:Nat) (ks:List Int),ks.length=n->(∀ t,t<n->s/2 ^ t%2=r/2 ^ t%2)->nm s ks=nm r ks:=by
 intro n;induction n with
 |zero=>intro ks h _;have:=List.eq_nil_of_length_eq_zero h;subst this;rfl
 |succ n ih=>
  intro ks h hb;obtain ⟨k',m,rfl,hl⟩:=UV h;rw [U3,U3,ih k' hl λt ht=>hb t (by omega),hl,hb n (by omega)]
def C7 {n t r:Nat} (h:t<n):(2 ^ n+r)/2 ^ t%2=r/2 ^ t%2:=by
 have e:2 ^ n=2 ^ t*(2*2 ^ (n-t-1)):=by
  rw [← Nat.mul_assoc,Nat.mul_comm (2 ^ t) 2,Nat.mul_assoc,← Nat.pow_add,← Nat.pow_succ'];congr 1;omega
 rw [e,Nat.mul_add_div (Nat.pow_pos (by omega))];omega
def qh7 {x:Int} (h:0<=x):Builtin.bitXor x 0=x:=by
 have a:=PyProof.Rows.bitXor_and x 0;have b:=PyProof.Rows.bitAnd_range x (show (0:Int)<=0 by omega);omega
def qeF:∀ (n:Nat) (ks:List Int),ks.length=n->(∀ m∈ks,0<=m)->∀ f∈fl ks,0<=f:=by
 intro n;induction n with
 |zero=>intro ks h _ f hf;have:=List.eq_nil_of_length_eq_zero h;subst this;simp [fl] at hf;omega
 |succ n ih=>
  intro ks h hm f hf;obtain ⟨k',m,rfl,hl⟩:=UV h;rw [UK] at hf;have ih':=ih k' hl λz hz=>hm z (by simp [hz]);rcases List.mem_append.mp hf with hf|hf
  ·exact ih' f hf
  ·obtain ⟨g,hg,rfl⟩:=mem_map.mp hf;exact (YE (ih' g hg) (hm m (by simp))).1
def qiz:∀ (n:Nat) (ks:List Int),ks.length=n->(∀ m∈ks,0<=m)->∀ s,s<2 ^ n->(fl ks)[s]?=some (nm s ks):=by
 intro n;induction n with
 |zero=>
  intro ks h _ s hs;have:=List.eq_nil_of_length_eq_zero h;subst this;have:s=0:=by simpa using hs
  subst this;rfl
 |succ n ih=>
  intro ks h hm s hs;obtain ⟨k',m,rfl,hl⟩:=UV h;have hm':∀ z∈k',0<=z:=λz hz=>hm z (by simp [hz]);have ln:=qhy n k' hl;rw [UK,U3,hl];rcases Nat.lt_or_ge s (2 ^ n) with z|z
  ·rw [List.getElem?_append_left (by omega),ih k' hl hm' s z];have e:s/2 ^ n%2=0:=by rw [Nat.div_eq_of_lt z]
   have nn:0<=nm s k':=qeF n k' hl hm' _ (mem_of_getElem? (ih k' hl hm' s z));rw [e];simp only [Int.natCast_zero,Int.mul_zero];rw [qh7 nn]
  ·obtain ⟨r,rfl⟩:∃ r,s=2 ^ n+r:=⟨s-2 ^ n,by omega⟩
   rw [Nat.pow_succ] at hs;have hr:r<2 ^ n:=by omega
   rw [List.getElem?_append_right (by omega),ln,Nat.add_sub_cancel_left,getElem?_map,ih k' hl hm' r hr];have e:(2 ^ n+r)/2 ^ n%2=1:=by
    rw [Nat.add_div_left _ (Nat.pow_pos (by omega)),Nat.div_eq_of_lt hr]
   rw [e,RM n k' hl λt ht=>C7 ht];simp
end Pv
namespace Pv
open PySem L2 L3 Pu
open Bk (pop V7 qw ql Dl)
def qcZ {ms:List Int} (hms:∀ m∈ms,0<=m):∀ (n:Nat) (ks:List Int),ks.length=n->(∀ m∈ks,0<=m)->(fl ks).map (ql ms)=fl (ks.map (ql ms)):=by
 intro n;induction n with
 |zero=>
  intro ks h _;have:=List.eq_nil_of_length_eq_zero h;subst this;have:ql ms 0=0:=by
   have:=DW (x:=0) (y:=0) (by omega) (by omega) ms hms;rw [PyProof.Rows.bitXor_self,PyProof.Rows.bitXor_self] at this;exact this.symm
  simp [fl,this]
 |succ n ih=>
  intro ks h hm;obtain ⟨k',m,rfl,hl⟩:=UV h;have hm':∀ z∈k',0<=z:=λz hz=>hm z (by simp [hz]);rw [List.map_append,map_cons,List.map_nil,UK,UK,List.map_append,ih k' hl hm'];congr 1;rw [← ih k' hl hm',map_map,map_map];refine List.map_congr_left λf hf=>?_;exact (DW (qeF n k' hl hm' f hf) (hm m (by simp)) ms hms).symm
end Pv
namespace Hd
open PySem L2 L3 PySem.W
def oF (x:Str) (st:Stmt) (pm cd:Value):Obj:=⟨.type "function",none,.func (PySem.W.fnOf x x (QX st) (zM st) (qf st) .none .none .none pm none cd .none),#[]⟩
def oG (x:Str) (st:Stmt):Obj:=⟨.none,none,.func { name:=x,qualname:=x,params:=QX st,body:=.stmts (zM st),scope:=qf st,globals:=0,closure:=[],defaults:=.none,kwdefaults:=.none },#[]⟩
def oC (vs:List Value):Obj:=⟨.type "code",none,.fields vs.toArray,#[]⟩
def oT (vs:List Value):Obj:=⟨.type "tuple",none,.seq vs.toArray 0,#[]⟩
def eD (P:Params):Value×Value->DictEntry
 | (.str x t,v)=>⟨PyData.keyHash P x,.str x t,v⟩
 | (u,v)=>⟨0,u,v⟩
def oD (P:Params) (n:Nat) (es:List (Value×Value)):Obj:=⟨.type "dict",none,.dict (es.map (eD P)).toArray n,#[]⟩
def oK (x:Str) (t l n m:Nat) (a b:Addr) (u v z:Value) (e y q:Nat):Obj:=oC [.str x t,.str x (t+1),.str "/claim/cut.py" (t+2),.int l 0,.int n 0,.int 0 0,.int 0 0,.int 3 0,.ref a,.bool true,.int m 0,.ref b,u,v,z,.ref e,.int y 0,.int l 0,.str "/claim/cut.py" q]
def nmV:List Str->Nat->List Value
 |[],_=>[]
 |x::r,t=>.str x t::nmV r (t+1)
def oN (xs:List Str) (t:Nat):Obj:=oT (nmV xs t)
abbrev nd (o:Obj) (l r:PySem.W.BT):PySem.W.BT:=.node o l r
abbrev lf (o:Obj):PySem.W.BT:=.node o .nil .nil
def zp {K:Frg} (x:Str) (st:Stmt) (f:Addr) (pm cd:Value) (l:K.lookup f=some (oF x st pm cd)) (c:PySem.W.codeIn K cd x=true) (k:PySem.W.keepIn K (.ref f)=true) :
  Fun K x x st f (PySem.W.fnOf x x (QX st) (zM st) (qf st) .none .none .none pm none cd .none):=qih l c k
def zr {K:Frg} {h:Heap} {mg:Str->Option Value} (X:K.In h) (G:h.Ns mainGlobals mg) (n:Str) (v:Value) (e:PySem.W.nsIn K mainGlobals n=some (some v)):mg n=some v:=PySem.W.mg_of X G e
def JF {K:Frg} {h:Heap} {mg:Str->Option Value} (X:K.In h) (G:h.Ns mainGlobals mg) (n:Str) (e:PySem.W.nsIn K mainGlobals n=some none):mg n=none:=PySem.W.mg_none_of X G e
def head {l:OpenLaw} {q:Program} {loose:List Str} {K:Params->Frag} {as:List Addr} {d:DefRec} {N:Nat} {k:Nat} {x:Str} (ha:∀ P,as=(K P).map (·.1))
  (ok:l.wellSaid=true)
  (left:LeftO l.prog q loose (λs=>xlAt q [] s&&recOk [] s) (λs=>as.map s.heap.get?) (λw=>(K w.params).map λp=>some p.2) N)
  (hdef:defOf q l.name=some (d,[])) (hp:l.prog.theDef l.name=some (d.params,d.body,d.scope)) (hk:kwWritten? d.params.kwonlyargs d.params.kw_defaults=some [])
  (hwr:(!l.row.writes||l.row.records.isEmpty)=true) (ok2:(chainsOk q&&opensWell l.prog&&(frees l.row.toRowW&&l.row.within.isEmpty))=true) (hb:l.prog.bare) (hw:l.row.toRowW.promised)
  (hn:l.most=some 63) (hdf:d.params.defaults=[]) (hr:Room k callerA) (hK:∀ w:World,Y0 (K w.params)=true)
  (F:∀ (w:World) (mg:Str->Option Value) (fa:Addr) (h:Heap),(K w.params).In h->h.Ns mainGlobals mg->mg d.name=some (.ref fa) ->
   ∃ fd:FuncData,(∀ (s:Shared) (u:Value),BindsTo s fd ⟨[u],[]⟩ [(x,u)])/\∀ base:Heap,(K w.params).In base->base.Ns mainGlobals mg->FnOk l.prog w (K w.params) mg base CX0 k fa fd [x] (lSp (K w.params) EY)):l.Holds:=by
 refine holds_law ok λsaid=>?_;exact holds_open (q:=q) (loose:=loose) (Xt:=λs=>xlAt q [] s&&recOk [] s) (XP:=XL q []) (Yf:=Hook.obs (kHook K as ha)) (Ya:=Hook.val (kHook K as ha)) (YP:=Hook.says (kHook K as ha)) (N:=N) left
  (Hook.of (kHook K as ha)) (Hook.keeps (kHook K as ha)) (λs e=>xl_of s (Bool.and_eq_true_iff.mp e).1) XL.keeps hdef hp hk (λs e=>recFacts_of (Bool.and_eq_true_iff.mp e).2) hwr said ok2 hb hw
  (L3.qjA (l:=l) (k:=k) (x:=x) hn hdf hr (λw h Y=>kIn_of Y) hK F)
end Hd
namespace K49
open PySem L2 L3 Bk
def top (i : Nat) : Stmt := PySem.Challenge.pw_bankwalk_k49_dealings_by_images.main.body.getD i (.Pass ⟨0,0,0,0⟩)
variable {P:Program} {w:World} {K:Frg} {mg:Str->Option Value} {base:Heap} {f:Addr} {fd:FuncData} {k:Nat} {sp:Sp3}
abbrev zW:Stmt:=top 1
abbrev QU:List Str:=["thing"]
abbrev Z3:List Str:=["thing"]
def XV:FnScope QU Z3 (qf zW):=⟨rfl,rfl,rfl,by decide +kernel,rfl,by decide +kernel,by decide +kernel⟩
def XO (F:Fun K "is_number" "is_number" zW f fd) (bd:zn K fd Z3 []) (hm:mg "is_number" = some (.ref f))  (m_isinstance:mg "isinstance" = none) (m_bool:mg "bool" = none) (m_int:mg "int" = none)
  (read:Rd sp 1 (Bk.QK) QU):Fn3 P w K mg base (k+1) "is_number" sp:=
 qD (t3:=(Bk.QK)) F XV bd hm (λcdv A outer s H E hr=>(qk (qq (Q0 (jJ (qa 0) rfl m_isinstance rfl m_int PyProof.Rows.boot_int) (VL (qbE (jJ (qa 0) rfl m_isinstance rfl m_bool PyProof.Rows.boot_bool))))))) read
abbrev zy:Stmt:=top 2
abbrev zG:List Str:=["thing","least"]
abbrev QT:List Str:=["thing","least"]
def EO:FnScope zG QT (qf zy):=⟨rfl,rfl,rfl,by decide +kernel,rfl,by decide +kernel,by decide +kernel⟩
def jo (S_is_number:Sp3):TS3:=(zu (ZJ (cb3 S_is_number (qc (v3 0) qr)) (o3 (iB λi j=>decide (j<=i)) (v3 0) (v3 1))))
def EH {S_is_number:Sp3} (F:Fun K "is_at_least" "is_at_least" zy f fd) (bd:zn K fd QT []) (hm:mg "is_at_least" = some (.ref f)) (qt:Fn3 P w K mg base k "is_number" S_is_number) 
  (read:Rd sp 2 (jo S_is_number) zG):Fn3 P w K mg base (k+1) "is_at_least" sp:=
 qD (t3:=(jo S_is_number)) F EO bd hm (λcdv A outer s H E hr=>(qk (qq (Q0 (qj qt hr rfl (qb (qa 0) qe)) (VL (j2 qc7 Q7 (qa 0) (qa 1) (qv _))))))) read
abbrev zj:Stmt:=top 3
abbrev zU:List Str:=["things","least"]
abbrev jQ:List Str:=["things","least"]
def U7:FnScope zU jQ (qf zj):=⟨rfl,rfl,rfl,by decide +kernel,rfl,by decide +kernel,by decide +kernel⟩
def zV (S_is_at_least:Sp3):TS3:=(zu (cb3 NJ (qc (lc3 (KQ (v3 0)) (gn3 0) tt3 (cb3 S_is_at_least (qc (v3 0) (qc (v3 1) qr))) [none,some 1]) qr)))
def UW {S_is_at_least:Sp3} (F:Fun K "are_at_least" "are_at_least" zj f fd) (bd:zn K fd jQ []) (hm:mg "are_at_least" = some (.ref f)) (qN:Fn3 P w K mg base k "is_at_least" S_is_at_least) (m_all:mg "all" = none)
  (read:Rd sp 2 (zV S_is_at_least) zU):Fn3 P w K mg base (k+1) "are_at_least" sp:=
 qD (t3:=(zV S_is_at_least)) F U7 bd hm (λcdv A outer s H E hr=>(qk (qq (qA (jS rfl) CP rfl m_all PyProof.Rows.boot_all (qb (WP ["thing","least"] [none,some 1] rfl (qa8 (qa 0)) (λ_ _ _=>(jgn 0)) (λ_ _ _=>WU) (λ_ _ _=>(qj qN hr rfl (qb (qa 0) (qb (qa 1) qe)))) (by kernel_rfl) (by kernel_rfl)) qe))))) read
abbrev QA:Stmt:=top 4
abbrev YJ:List Str:=["thing"]
abbrev UG:List Str:=["thing"]
def TH:FnScope YJ UG (qf QA):=⟨rfl,rfl,rfl,by decide +kernel,rfl,by decide +kernel,by decide +kernel⟩
def R6 {S_is_number:Sp3} (F:Fun K "is_pair" "is_pair" QA f fd) (bd:zn K fd UG []) (hm:mg "is_pair" = some (.ref f)) (qt:Fn3 P w K mg base k "is_number" S_is_number) (m_len:mg "len" = none) (m_isinstance:mg "isinstance" = none) (m_tuple:mg "tuple" = none)
  (read:Rd sp 1 (Bk.JO S_is_number) YJ):Fn3 P w K mg base (k+1) "is_pair" sp:=
 qD (t3:=(Bk.JO S_is_number)) F TH bd hm (λcdv A outer s H E hr=>(qk (qq (Q0 (jJ (qa 0) rfl m_isinstance rfl m_tuple PyProof.Rows.boot_tuple) (Q0 (j2 (zw hr.units) qK (qA zo zO rfl m_len PySem.boot_len (qb (qa 0) qe)) qd (qv _)) (Q0 (qj qt hr rfl (qb (qE (qa 0) qd) qe)) (VL (qj qt hr rfl (qb (qE (qa 0) qd) qe))))))))) read
abbrev zB:Stmt:=top 9
abbrev JY:List Str:=["one","other"]
abbrev JW:List Str:=["one","other"]
abbrev YY:Stmt:=top 10
abbrev MS:List Str:=["thing"]
abbrev JA:Stmt:=top 11
abbrev TU:List Str:=["thing","rows","columns","banks","places"]
abbrev TQ:List Str:=["thing"]
abbrev jV:Stmt:=top 12
abbrev JU:List Str:=["thing","high","low","masks"]
abbrev US:List Str:=["thing"]
def ZR:FnScope JU US (qf jV):=⟨rfl,rfl,rfl,by decide +kernel,rfl,by decide +kernel,by decide +kernel⟩
def YK (S_are_at_least:Sp3):TS3:=(za (Q2 (or3 (tb3 (o3 (jE true) (cb3 V8 (qc (v3 0) qr)) (c3 (.int 4)))) (CT (tb3 (cb3 S_are_at_least (qc (qdn (v3 0) (sp3 (c3 (.int 1))) (sp3 (c3 (.int 3)))) (qc (c3 (.int 0)) qr)))))) (zu (c3 (.bl false))) zc) (za (zT (qdn (v3 0) (sp3 (c3 (.int 1))) np3) (Z8 3 (qI (gn3 1) (qI (gn3 2) (qI (gn3 3) JB))))) (za (Q2 (or3 (CT (tb3 (V3 (λt=>jD t "tuple") (v3 3)))) (CT (tb3 (cb3 S_are_at_least (qc (v3 3) (qc (c3 (.int 0)) qr)))))) (zu (c3 (.bl false))) zc) (zu (cb3 NJ (qc (lc3 (KQ (v3 3)) (gn3 0) tt3 (o3 (iB λi j=>decide (i<=j)) (bl3 (v3 0)) (o3 JG (v3 1) (v3 2))) [none,some 1,some 2]) qr))))))
def SA {S_are_at_least:Sp3} (F:Fun K "is_bits" "is_bits" jV f fd) (bd:zn K fd US []) (hm:mg "is_bits" = some (.ref f)) (qx:Fn3 P w K mg base k "are_at_least" S_are_at_least) (m_len:mg "len" = none) (m_isinstance:mg "isinstance" = none) (m_tuple:mg "tuple" = none) (m_all:mg "all" = none)
  (read:Rd sp 1 (YK S_are_at_least) JU):Fn3 P w K mg base (k+1) "is_bits" sp:=
 qD (t3:=(YK S_are_at_least)) F ZR bd hm (λcdv A outer s H E hr=>(qh (jk (jpt (EJ (qR (VP hr.units) ZM (qA zo zO rfl m_len PySem.boot_len (qb (qa 0) qe)) qd (qv _)) (VN (JQ (jW (qj qx hr rfl (qb (WE (qa 0) (DC qd) (DC qd)) (qb qd qe)))))))) (qk (qq VR)) q5) (qh (U2 (WE (qa 0) (DC qd) LF) (Z0 rfl (qC (qJ (i:=1) (ZR.nd)) (qC (qJ (i:=2) (ZR.nd)) (qC (qJ (i:=3) (ZR.nd)) ZZ))))) (qh (jk (jpt (EJ (JQ (jW (jJ (qa 3) rfl m_isinstance rfl m_tuple PyProof.Rows.boot_tuple))) (VN (JQ (jW (qj qx hr rfl (qb (qa 3) (qb qd qe)))))))) (qk (qq VR)) q5) (qk (qq (qA (jS rfl) CP rfl m_all PyProof.Rows.boot_all (qb (WP ["mask","high","low"] [none,some 1,some 2] rfl (qa8 (qa 3)) (λ_ _ _=>(jgn 0)) (λ_ _ _=>WU) (λ_ _ _=>(j2 qdf Q7 (XR (qa 0)) (zN (qa 1) (qa 2)) (qv _))) (by kernel_rfl) (by kernel_rfl)) qe)))))))) read
abbrev jO:Stmt:=top 13
abbrev DX:List Str:=["thing","wide","banks"]
abbrev Z9:Stmt:=top 14
abbrev TM:List Str:=["thing"]
abbrev ZF:Stmt:=top 15
abbrev QQ:List Str:=["thing"]
abbrev CH:List Str:=["thing"]
abbrev zK:Stmt:=top 16
abbrev je:List Str:=["thing","kind"]
abbrev ZD:List Str:=["thing"]
def JZ:FnScope je ZD (qf zK):=⟨rfl,rfl,rfl,by decide +kernel,rfl,by decide +kernel,by decide +kernel⟩
def jM (S_is_skew:Sp3) (S_is_rests:Sp3) (S_is_bits:Sp3) (S_is_table:Sp3) (S_is_joined:Sp3):TS3:=(za (Q2 (or3 (CT (tb3 (V3 (λt=>jD t "tuple") (v3 0)))) (tb3 (o3 (jE false) (cb3 V8 (qc (v3 0) qr)) (c3 (.int 0))))) (zu (c3 (.bl false))) zc) (za (zT (o3 ix3 (v3 0) (c3 (.int 0))) (gn3 1)) (za (Q2 (tb3 (o3 (jE false) (v3 1) (c3 (.str "skew")))) (zu (cb3 S_is_skew (qc (v3 0) qr))) zc) (za (Q2 (tb3 (o3 (jE false) (v3 1) (c3 (.str "rests")))) (zu (cb3 S_is_rests (qc (v3 0) qr))) zc) (za (Q2 (tb3 (o3 (jE false) (v3 1) (c3 (.str "bits")))) (zu (cb3 S_is_bits (qc (v3 0) qr))) zc) (za (Q2 (tb3 (o3 (jE false) (v3 1) (c3 (.str "table")))) (zu (cb3 S_is_table (qc (v3 0) qr))) zc) (zu (ZJ (o3 (jE false) (v3 1) (c3 (.str "joined"))) (cb3 S_is_joined (qc (v3 0) qr))))))))))
def DZ {S_is_skew:Sp3} {S_is_rests:Sp3} {S_is_bits:Sp3} {S_is_table:Sp3} {S_is_joined:Sp3} (F:Fun K "is_dealing" "is_dealing" zK f fd) (bd:zn K fd ZD []) (hm:mg "is_dealing" = some (.ref f)) (F_is_skew:Fn3 P w K mg base k "is_skew" S_is_skew) (F_is_rests:Fn3 P w K mg base k "is_rests" S_is_rests) (z9:Fn3 P w K mg base k "is_bits" S_is_bits) (F_is_table:Fn3 P w K mg base k "is_table" S_is_table) (F_is_joined:Fn3 P w K mg base k "is_joined" S_is_joined) (m_len:mg "len" = none) (m_isinstance:mg "isinstance" = none) (m_tuple:mg "tuple" = none)
  (read:Rd sp 1 (jM S_is_skew S_is_rests S_is_bits S_is_table S_is_joined) je):Fn3 P w K mg base (k+1) "is_dealing" sp:=
 qD (t3:=(jM S_is_skew S_is_rests S_is_bits S_is_table S_is_joined)) F JZ bd hm (λcdv A outer s H E hr=>(qh (jk (jpt (EJ (JQ (jW (jJ (qa 0) rfl m_isinstance rfl m_tuple PyProof.Rows.boot_tuple))) (VN (qR (zw hr.units) qK (qA zo zO rfl m_len PySem.boot_len (qb (qa 0) qe)) qd (qv _))))) (qk (qq VR)) q5) (qh (qZ 1 JZ.nd (qE (qa 0) qd)) (qh (jk (qR (zw hr.units) qK (qa 1) jL (qv _)) (qk (qq (qj F_is_skew hr rfl (qb (qa 0) qe)))) q5) (qh (jk (qR (zw hr.units) qK (qa 1) jL (qv _)) (qk (qq (qj F_is_rests hr rfl (qb (qa 0) qe)))) q5) (qh (jk (qR (zw hr.units) qK (qa 1) jL (qv _)) (qk (qq (qj z9 hr rfl (qb (qa 0) qe)))) q5) (qh (jk (qR (zw hr.units) qK (qa 1) jL (qv _)) (qk (qq (qj F_is_table hr rfl (qb (qa 0) qe)))) q5) (qk (qq (Q0 (j2 (zw hr.units) qK (qa 1) jL (qv _)) (VL (qj F_is_joined hr rfl (qb (qa 0) qe))))))))))))) read
abbrev QE:Stmt:=top 17
abbrev UC:List Str:=["dealing","kind","rows","columns","banks","other_rows","other_columns","other_banks"]
abbrev UA:List Str:=["dealing"]
def zC:FnScope UC UA (qf QE):=⟨rfl,rfl,rfl,by decide +kernel,rfl,by decide +kernel,by decide +kernel⟩
def S5 {S_size_of:Sp3} (F:Fun K "size_of" "size_of" QE f fd) (bd:zn K fd UA []) (hm:mg "size_of" = some (.ref f)) (qp:Fn3 P w K mg base k "size_of" S_size_of) (m_len:mg "len" = none)
  (read:Rd sp 1 (Bk.JN S_size_of) UC):Fn3 P w K mg base (k+1) "size_of" sp:=
 qD (t3:=(Bk.JN S_size_of)) F zC bd hm (λcdv A outer s H E hr=>(qh (qZ 1 zC.nd (qE (qa 0) qd)) (qh (jk (qR (zw hr.units) qK (qa 1) jL (qv _)) (qk (qq (EA (qb (WM qd (qE (qa 0) qd)) (qb (WM qd (qE (qa 0) qd)) (qb (WM qd (qA zo zO rfl m_len PySem.boot_len (qb (qE (qa 0) qd) qe))) qe)))))) q5) (qh (jk (qR (zw hr.units) qK (qa 1) jL (qv _)) (qk (qq (EA (qb (qA zo zO rfl m_len PySem.boot_len (qb (qE (qa 0) qd) qe)) (qb (qA zo zO rfl m_len PySem.boot_len (qb (qE (qE (qa 0) qd) qd) qe)) (qb (qE (qa 0) qd) qe)))))) q5) (qh (jk (qR (zw hr.units) qK (qa 1) jL (qv _)) (qh (U2 (qj qp hr rfl (qb (qE (qa 0) qd) qe)) (Z0 rfl (qC (qJ (i:=2) (zC.nd)) (qC (qJ (i:=3) (zC.nd)) (qC (qJ (i:=4) (zC.nd)) ZZ))))) (qh (U2 (qj qp hr rfl (qb (qE (qa 0) qd) qe)) (Z0 rfl (qC (qJ (i:=5) (zC.nd)) (qC (qJ (i:=6) (zC.nd)) (qC (qJ (i:=7) (zC.nd)) ZZ))))) (qk (qq (EA (qb (QZ (qa 2) (qa 5)) (qb (QZ (qa 3) (qa 6)) (qb (QZ (qa 4) (qa 7)) qe)))))))) q5) (qk (qq (EA (qb (qE (qa 0) qd) (qb (qE (qa 0) qd) (qb (qE (qa 0) qd) qe))))))))))) read
abbrev jg:Stmt:=top 18
abbrev jz:List Str:=["dealing","word","rows","columns","banks"]
abbrev Z4:List Str:=["dealing","word"]
def jI:FnScope jz Z4 (qf jg):=⟨rfl,rfl,rfl,by decide +kernel,rfl,by decide +kernel,by decide +kernel⟩
def WS {S_size_of:Sp3} (F:Fun K "number_of" "number_of" jg f fd) (bd:zn K fd Z4 []) (hm:mg "number_of" = some (.ref f)) (qp:Fn3 P w K mg base k "size_of" S_size_of) 
  (read:Rd sp 2 (Bk.QJ S_size_of) jz):Fn3 P w K mg base (k+1) "number_of" sp:=
 qD (t3:=(Bk.QJ S_size_of)) F jI bd hm (λcdv A outer s H E hr=>(qh (U2 (qj qp hr rfl (qb (qa 0) qe)) (Z0 rfl (qC (qJ (i:=2) (jI.nd)) (qC (qJ (i:=3) (jI.nd)) (qC (qJ (i:=4) (jI.nd)) ZZ))))) (qk (qq (zN (QZ (qE (qa 1) qd) (qa 3)) (qE (qa 1) qd)))))) read
abbrev j4:Stmt:=top 19
abbrev ZK:List Str:=["dealing","thing","rows","columns","banks"]
abbrev UX:List Str:=["dealing","thing"]
def ZO:FnScope ZK UX (qf j4):=⟨rfl,rfl,rfl,by decide +kernel,rfl,by decide +kernel,by decide +kernel⟩
def S9 {S_is_pair:Sp3} {S_size_of:Sp3} (F:Fun K "is_word" "is_word" j4 f fd) (bd:zn K fd UX []) (hm:mg "is_word" = some (.ref f)) (z3:Fn3 P w K mg base k "is_pair" S_is_pair) (qp:Fn3 P w K mg base k "size_of" S_size_of) 
  (read:Rd sp 2 (Bk.JT S_is_pair S_size_of) ZK):Fn3 P w K mg base (k+1) "is_word" sp:=
 qD (t3:=(Bk.JT S_is_pair S_size_of)) F ZO bd hm (λcdv A outer s H E hr=>(qh (jk (JQ (jW (qj z3 hr rfl (qb (qa 1) qe)))) (qk (qq VR)) q5) (qh (U2 (qj qp hr rfl (qb (qa 0) qe)) (Z0 rfl (qC (qJ (i:=2) (ZO.nd)) (qC (qJ (i:=3) (ZO.nd)) (qC (qJ (i:=4) (ZO.nd)) ZZ))))) (qk (qq (Q0 (C4 qdf Q7 qdb Q7 qd (qE (qa 1) qd) (qa 2)) (VL (C4 qdf Q7 qdb Q7 qd (qE (qa 1) qd) (qa 3))))))))) read
abbrev ze:Stmt:=top 20
abbrev ju:List Str:=["number","mask","common","many"]
abbrev jv:List Str:=["number","mask"]
def zd:FnScope ju jv (qf ze):=⟨rfl,rfl,rfl,by decide +kernel,rfl,by decide +kernel,by decide +kernel⟩
def VS (F:Fun K "odd_in_common" "odd_in_common" ze f fd) (bd:zn K fd jv []) (hm:mg "odd_in_common" = some (.ref f))  
  (read:Rd sp 2 (Bk.zH) ju):Fn3 P w K mg base (k+1) "odd_in_common" sp:=
 qD (t3:=(Bk.zH)) F zd bd hm (λcdv A outer s H E hr=>(qh (qZ 2 zd.nd (UD (qa 0) (qa 1))) (qh (qZ 3 zd.nd qd) (qh (qaA PassesOwn.never (qR qhA Q7 (qa 2) qd (qv _)) (qh (NB 3 zd.nd (UD (qa 2) qd)) (qk (qZ 2 zd.nd (qbP (qa 2) qd))))) (qk (qq (j2 (zw hr.units) qK (UD (qa 3) qd) qd (qv _)))))))) read
abbrev jd:Stmt:=top 21
abbrev UP:List Str:=["masks","number"]
abbrev Z6:List Str:=["masks","number"]
def XB:FnScope UP Z6 (qf jd):=⟨rfl,rfl,rfl,by decide +kernel,rfl,by decide +kernel,by decide +kernel⟩
def WZ {S_odd_in_common:Sp3} (F:Fun K "bits_bank" "bits_bank" jd f fd) (bd:zn K fd Z6 []) (hm:mg "bits_bank" = some (.ref f)) (qm:Fn3 P w K mg base k "odd_in_common" S_odd_in_common) (m_enumerate:mg "enumerate" = none) (m_sum:mg "sum" = none)
  (read:Rd sp 2 (Bk.QP S_odd_in_common) UP):Fn3 P w K mg base (k+1) "bits_bank" sp:=
 qD (t3:=(Bk.QP S_odd_in_common)) F XB bd hm (λcdv A outer s H E hr=>(qk (qq (qA (YH rfl) NA rfl m_sum PyProof.Rows.boot_sum (qb (WP ["t","mask","number"] [none,none,some 1] rfl (DE rfl m_enumerate (qb (qa 0) qe)) (λ_ _ _=>(Z0 rfl (qC (jgn 0) (qC (jgn 1) ZZ)))) (λ_ _ _=>L5 (jW (qj qm hr rfl (qb (qa 2) (qb (qa 1) qe))))) (λ_ _ _=>(WM qd (qa 0))) (by kernel_rfl) (by kernel_rfl)) qe))))) read
abbrev UL:Stmt:=top 22
abbrev qaa:List Str:=["word","rows","columns","i","j"]
abbrev qaR:List Str:=["word","rows","columns"]
abbrev jP:Stmt:=top 23
abbrev DM:List Str:=["one","other","word","rows","columns","banks","upper","lower"]
abbrev WC:List Str:=["one","other","word"]
abbrev j7:Stmt:=top 24
abbrev Q8:List Str:=["dealing","word","kind"]
abbrev UN:List Str:=["dealing","word"]
def DA:FnScope Q8 UN (qf j7):=⟨rfl,rfl,rfl,by decide +kernel,rfl,by decide +kernel,by decide +kernel⟩
def SV {S_number_of:Sp3} {S_bits_bank:Sp3} {S_joined_bank:Sp3} (F:Fun K "bank_in" "bank_in" j7 f fd) (bd:zn K fd UN []) (hm:mg "bank_in" = some (.ref f)) (qP:Fn3 P w K mg base k "number_of" S_number_of) (zk:Fn3 P w K mg base k "bits_bank" S_bits_bank) (F_joined_bank:Fn3 P w K mg base k "joined_bank" S_joined_bank) 
  (read:Rd sp 2 (Bk.YL S_number_of S_bits_bank S_joined_bank) Q8):Fn3 P w K mg base (k+1) "bank_in" sp:=
 qD (t3:=(Bk.YL S_number_of S_bits_bank S_joined_bank)) F DA bd hm (λcdv A outer s H E hr=>(qh (qZ 2 DA.nd (qE (qa 0) qd)) (qh (jk (qR (zw hr.units) qK (qa 2) jL (qv _)) (qk (qq (ZG (zN (QZ (qE (qa 0) qd) (qE (qa 1) qd)) (QZ (qE (qa 0) qd) (qE (qa 1) qd))) (qE (qa 0) qd)))) q5) (qh (jk (qR (zw hr.units) qK (qa 2) jL (qv _)) (qk (qq (ZG (qj qP hr rfl (qb (qa 0) (qb (qa 1) qe))) (qE (qa 0) qd)))) q5) (qh (jk (qR (zw hr.units) qK (qa 2) jL (qv _)) (qk (qq (qj zk hr rfl (qb (qE (qa 0) qd) (qb (qj qP hr rfl (qb (qa 0) (qb (qa 1) qe))) qe))))) q5) (qh (jk (qR (zw hr.units) qK (qa 2) jL (qv _)) (qk (qq (qE (qE (qE (qa 0) qd) (qE (qa 1) qd)) (qE (qa 1) qd)))) q5) (qk (qq (qj F_joined_bank hr rfl (qb (qE (qa 0) qd) (qb (qE (qa 0) qd) (qb (qa 1) qe)))))))))))) read
abbrev qT:Stmt:=top 25
abbrev zb:List Str:=["dealing","thing"]
abbrev jl:List Str:=["dealing","thing"]
def VI:FnScope zb jl (qf qT):=⟨rfl,rfl,rfl,by decide +kernel,rfl,by decide +kernel,by decide +kernel⟩
def VF {S_is_word:Sp3} (F:Fun K "refuse_no_word" "refuse_no_word" qT f fd) (bd:zn K fd jl []) (hm:mg "refuse_no_word" = some (.ref f)) (jf:Fn3 P w K mg base k "is_word" S_is_word) 
  (read:Rd sp 2 (Bk.zA S_is_word) zb):Fn3 P w K mg base (k+1) "refuse_no_word" sp:=
 qD (t3:=(Bk.zA S_is_word)) F VI bd hm (λcdv A outer s H E hr=>(qk (jk (JQ (jW (qj jf hr rfl (qb (qa 0) (qb (qa 1) qe))))) N6 q5))) read
abbrev j9:Stmt:=top 26
abbrev Q5:List Str:=["dealing","word"]
abbrev UE:List Str:=["dealing","word"]
def R0:FnScope Q5 UE (qf j9):=⟨rfl,rfl,rfl,by decide +kernel,rfl,by decide +kernel,by decide +kernel⟩
def RY {S_refuse_no_word:Sp3} {S_bank_in:Sp3} (F:Fun K "bank_of" "bank_of" j9 f fd) (bd:zn K fd UE []) (hm:mg "bank_of" = some (.ref f)) (qz:Fn3 P w K mg base k "refuse_no_word" S_refuse_no_word) (zZ:Fn3 P w K mg base k "bank_in" S_bank_in) 
  (read:Rd sp 2 (Bk.YB S_refuse_no_word S_bank_in) Q5):Fn3 P w K mg base (k+1) "bank_of" sp:=
 qD (t3:=(Bk.YB S_refuse_no_word S_bank_in)) F R0 bd hm (λcdv A outer s H E hr=>(qh (qdm (qj qz hr rfl (qb (qa 0) (qb (qa 1) qe)))) (qk (qq (qj zZ hr rfl (qb (qa 0) (qb (qa 1) qe))))))) read
abbrev jZ:Stmt:=top 28
abbrev J0:List Str:=["numbers","k"]
abbrev UO:List Str:=["numbers","k"]
def RT:FnScope J0 UO (qf jZ):=⟨rfl,rfl,rfl,by decide +kernel,rfl,by decide +kernel,by decide +kernel⟩
def JJ:TS3:=(zu (cb3 qd8 (qc (lc3 (UR (qc (v3 0) qr)) (Z8 2 (qI (gn3 0) (qI (gn3 1) JB))) (tb3 (o3 (jE false) (o3 (iI Builtin.bitAnd) (o3 (iC (λ_ j=>0<=j) (λi j=>i/2 ^ j.toNat)) (v3 1) (v3 2)) (c3 (.int 1))) (c3 (.int 1)))) (o3 (iC ED (λi j=>i*2 ^ j.toNat)) (c3 (.int 1)) (v3 0)) [none,none,some 1]) qr)))
def S4 (F:Fun K "mask_at" "mask_at" jZ f fd) (bd:zn K fd UO []) (hm:mg "mask_at" = some (.ref f))  (m_enumerate:mg "enumerate" = none) (m_sum:mg "sum" = none)
  (read:Rd sp 2 (JJ) J0):Fn3 P w K mg base (k+1) "mask_at" sp:=
 qD (t3:=(JJ)) F RT bd hm (λcdv A outer s H E hr=>(qk (qq (qA (YH rfl) NA rfl m_sum PyProof.Rows.boot_sum (qb (WP ["t","number","k"] [none,none,some 1] rfl (DE rfl m_enumerate (qb (qa 0) qe)) (λ_ _ _=>(Z0 rfl (qC (jgn 0) (qC (jgn 1) ZZ)))) (λ_ _ _=>L5 (qR (zw hr.units) qK (UD (qbP (qa 1) (qa 2)) qd) qd (qv _))) (λ_ _ _=>(WM qd (qa 0))) (by kernel_rfl) (by kernel_rfl)) qe))))) read
abbrev zF:Stmt:=top 29
abbrev jF:List Str:=["high","low","numbers","many"]
abbrev ZI:List Str:=["high","low","numbers"]
def J5:FnScope jF ZI (qf zF):=⟨rfl,rfl,rfl,by decide +kernel,rfl,by decide +kernel,by decide +kernel⟩
def jG (S_mask_at:Sp3):TS3:=(za (zT (bl3 (o3 TD (v3 2) (c3 (.int 0)))) (gn3 3)) (zu (LS (qc (c3 (.str "bits")) (qc (v3 0) (qc (v3 1) (qc (cb3 WV (qc (lc3 (YR (qc (v3 3) qr)) (gn3 0) tt3 (cb3 S_mask_at (qc (v3 1) (qc (v3 0) qr))) [none,some 2]) qr)) qr)))))))
def WA {S_mask_at:Sp3} (F:Fun K "dealing_by" "dealing_by" zF f fd) (bd:zn K fd ZI []) (hm:mg "dealing_by" = some (.ref f)) (zY:Fn3 P w K mg base k "mask_at" S_mask_at) (m_max:mg "max" = none) (m_range:mg "range" = none) (m_tuple:mg "tuple" = none)
  (read:Rd sp 3 (jG S_mask_at) jF):Fn3 P w K mg base (k+1) "dealing_by" sp:=
 qD (t3:=(jG S_mask_at)) F J5 bd hm (λcdv A outer s H E hr=>(qh (qZ 3 J5.nd (XR (qdH rfl rfl m_max (qa 2) qd))) (qk (qq (EA (qb jL (qb (qa 0) (qb (qa 1) (qb (XD DQ K7 rfl m_tuple PyProof.Rows.boot_tuple (qb (WP ["k","numbers"] [none,some 2] rfl (j5 rfl m_range (qb (qa 3) qe) (h1:=by intro _ _ _ h;simpa [qc,qr] using h)) (λ_ _ _=>(jgn 0)) (λ_ _ _=>WU) (λ_ _ _=>(qj zY hr rfl (qb (qa 1) (qb (qa 0) qe)))) (by kernel_rfl) (by kernel_rfl)) qe)) qe))))))))) read
abbrev jX:Stmt:=top 31
abbrev UI:List Str:=["_law_cell","_law_k","_law_m"]
abbrev UJ:List Str:=["_law_cell","_law_k"]
def E8:FnScope UI UJ (qf jX):=⟨rfl,rfl,rfl,by decide +kernel,rfl,by decide +kernel,by decide +kernel⟩
def SE (F:Fun K "_law_mix" "_law_mix" jX f fd) (bd:zn K fd UJ []) (hm:mg "_law_mix" = some (.ref f))  
  (read:Rd sp 2 (Bk.J3) UI):Fn3 P w K mg base (k+1) "_law_mix" sp:=
 qD (t3:=(Bk.J3)) F E8 bd hm (λcdv A outer s H E hr=>(qh (qZ 2 E8.nd (ZG (QZ (zN (zN (ZG (qa 0) qd) (QZ (QZ (qa 1) (qa 1)) qd)) qd) qd) qd)) (qk (qq (ZG (QZ (qa 2) (qa 2)) qd))))) read
abbrev jt:Stmt:=top 32
abbrev Y9:List Str:=["_law_script","_law_k","_law_cell","_law_own"]
abbrev YU:List Str:=["_law_script","_law_k"]
def JC:FnScope Y9 YU (qf jt):=⟨rfl,rfl,rfl,by decide +kernel,rfl,by decide +kernel,by decide +kernel⟩
def X8 (F:Fun K "_law_left" "_law_left" jt f fd) (bd:zn K fd YU []) (hm:mg "_law_left" = some (.ref f))  (m_len:mg "len" = none) (m_abs:mg "abs" = none)
  (read:Rd sp 2 (Bk.ZV) Y9):Fn3 P w K mg base (k+1) "_law_left" sp:=
 qD (t3:=(Bk.ZV)) F JC bd hm (λcdv A outer s H E hr=>(qh (qZ 2 JC.nd (qe5 (qR qdb Q7 (qa 1) (qA zo zO rfl m_len PySem.boot_len (qb (qa 0) qe)) (qv _)) (qE (qa 0) (qa 1)) qd)) (qh (qZ 3 JC.nd (qe5 (qR qc7 Q7 (qA RI L8 rfl m_abs PyProof.Rows.boot_abs (qb (qa 2) qe)) (qe0 qd qd) (qv _)) (qA RI L8 rfl m_abs PyProof.Rows.boot_abs (qb (qa 2) qe)) qd)) (qk (qq (RH (qb (qa 3) (qb (zN (qa 2) (QZ qd (qa 1))) (qb qd qe))))))))) read
abbrev jB:Stmt:=top 33
abbrev VC:List Str:=["_law_left_here","_law_many","_law_digit"]
abbrev YQ:List Str:=["_law_left_here","_law_many"]
def UY:FnScope VC YQ (qf jB):=⟨rfl,rfl,rfl,by decide +kernel,rfl,by decide +kernel,by decide +kernel⟩
def CO {S_law_mix:Sp3} (F:Fun K "_law_pick" "_law_pick" jB f fd) (bd:zn K fd YQ []) (hm:mg "_law_pick" = some (.ref f)) (F_law_mix:Fn3 P w K mg base k "_law_mix" S_law_mix) 
  (read:Rd sp 2 (Bk.ZQ S_law_mix) VC):Fn3 P w K mg base (k+1) "_law_pick" sp:=
 qD (t3:=(Bk.ZQ S_law_mix)) F UY bd hm (λcdv A outer s H E hr=>(qh (U2 (zN (qE (qa 0) qd) qd) (qcA (qa 0) qd)) (qh (jk (qR qhA Q7 (qE (qa 0) qd) qd (qv _)) (qh (qZ 2 UY.nd (ZG (qE (qa 0) qd) (qa 1))) (qh (U2 (XA (qE (qa 0) qd) (qa 1)) (qcA (qa 0) qd)) (qk (qq (qa 2))))) q5) (qk (qq (ZG (XA (qj F_law_mix hr rfl (qb (qj F_law_mix hr rfl (qb (qE (qa 0) qd) (qb (qE (qa 0) qd) qe))) (qb (zN (qE (qa 0) qd) qd) qe))) qd) (qa 1))))))) read
abbrev jx:Stmt:=top 34
abbrev EU:List Str:=["_law_found","_law_due"]
abbrev YW:List Str:=["_law_found","_law_due"]
def CG:FnScope EU YW (qf jx):=⟨rfl,rfl,rfl,by decide +kernel,rfl,by decide +kernel,by decide +kernel⟩
def QM {S_law_same:Sp3} (F:Fun K "_law_same" "_law_same" jx f fd) (bd:zn K fd YW []) (hm:mg "_law_same" = some (.ref f)) (F_law_same:Fn3 P w K mg base k "_law_same" S_law_same) (m_isinstance:mg "isinstance" = none) (m_list:mg "list" = none) (m_tuple:mg "tuple" = none) (m_zip:mg "zip" = none) (m_all:mg "all" = none) (m_len:mg "len" = none) (m_str:mg "str" = none) (m_bool:mg "bool" = none) (m_int:mg "int" = none)
  (read:Rd sp 2 (Bk.VH S_law_same) EU):Fn3 P w K mg base (k+1) "_law_same" sp:=
 qD (t3:=(Bk.VH S_law_same)) F CG bd hm (λcdv A outer s H E hr=>(qh (jk (jW (T6 (qa 1) rfl m_isinstance rfl m_list PyProof.Rows.boot_list rfl m_tuple PyProof.Rows.boot_tuple)) (qh (jk (jpt (EJ (qR (VP hr.units) ZM (jJ (qa 0) rfl m_isinstance rfl m_list PyProof.Rows.boot_list) (jJ (qa 1) rfl m_isinstance rfl m_list PyProof.Rows.boot_list) (qv _)) (VN (qR (VP hr.units) ZM (jJ (qa 0) rfl m_isinstance rfl m_tuple PyProof.Rows.boot_tuple) (jJ (qa 1) rfl m_isinstance rfl m_tuple PyProof.Rows.boot_tuple) (qv _))))) (qk (qq VR)) q5) (qk (qq (Q0 (j2 (zw hr.units) qK (qA zo zO rfl m_len PySem.boot_len (qb (qa 0) qe)) (qA zo zO rfl m_len PySem.boot_len (qb (qa 1) qe)) (qv _)) (VL (qA (jS rfl) CP rfl m_all PyProof.Rows.boot_all (qb (WP ["_law_one","_law_other"] [none,none] rfl (qez rfl m_zip (qb (qa 0) (qb (qa 1) qe))) (λ_ _ _=>(Z0 rfl (qC (jgn 0) (qC (jgn 1) ZZ)))) (λ_ _ _=>WU) (λ_ _ _=>(qj F_law_same hr rfl (qb (qa 0) (qb (qa 1) qe)))) (by kernel_rfl) (by kernel_rfl)) qe))))))) q5) (qh (jk (jpt (EJ (qR LN CF (qa 1) MV (qv _)) (VN (jW (T6 (qa 1) rfl m_isinstance rfl m_str PyProof.Rows.boot_str rfl m_bool PyProof.Rows.boot_bool))))) (qk (qq (Q0 (j2 (zw hr.units) qK (qa 0) (qa 1) (qv _)) (Q0 (j2 (zw hr.units) qK (jJ (qa 0) rfl m_isinstance rfl m_bool PyProof.Rows.boot_bool) (jJ (qa 1) rfl m_isinstance rfl m_bool PyProof.Rows.boot_bool) (qv _)) (VL (j2 (zw hr.units) qK (j2 LN CF (qa 0) MV (qv _)) (j2 LN CF (qa 1) MV (qv _)) (qv _))))))) q5) (qk (qq (Q0 (jJ (qa 0) rfl m_isinstance rfl m_int PyProof.Rows.boot_int) (Q0 (qbE (jJ (qa 0) rfl m_isinstance rfl m_bool PyProof.Rows.boot_bool)) (VL (j2 (zw hr.units) qK (qa 0) (qa 1) (qv _)))))))))) read
abbrev j8:Stmt:=top 35
abbrev ZH:List Str:=["_law_t"]
abbrev UT:List Str:=["_law_t"]
def SI:FnScope ZH UT (qf j8):=⟨rfl,rfl,rfl,by decide +kernel,rfl,by decide +kernel,by decide +kernel⟩
def YC:TS3:=(zu (o3 ix3 (NM (qc (c3 (.int 1)) (qc (c3 (.int 2)) (qc (c3 (.int 4)) (qc (c3 (.int 8)) (qc (c3 (.int 16)) (qc (c3 (.int 32)) (qc (c3 (.int 64)) (qc (c3 (.int 128)) (qc (c3 (.int 256)) qr)))))))))) (v3 0)))
def SD (F:Fun K "_law_two" "_law_two" j8 f fd) (bd:zn K fd UT []) (hm:mg "_law_two" = some (.ref f))  
  (read:Rd sp 1 (YC) ZH):Fn3 P w K mg base (k+1) "_law_two" sp:=
 qD (t3:=(YC)) F SI bd hm (λcdv A outer s H E hr=>(qk (qq (qE (RH (qb qd (qb qd (qb qd (qb qd (qb qd (qb qd (qb qd (qb qd (qb qd qe)))))))))) (qa 0))))) read
abbrev j6:Stmt:=top 36
abbrev ZB:List Str:=["_law_number","_law_found","_law_t"]
abbrev UF:List Str:=["_law_number"]
def ZU:FnScope ZB UF (qf j6):=⟨rfl,rfl,rfl,by decide +kernel,rfl,by decide +kernel,by decide +kernel⟩
def J2 (S_law_two:Sp3):TS3:=(za (zT (c3 (.int 0)) (gn3 1)) (za (NH (YR (qc (c3 (.int 9)) qr)) (gn3 2) (zT (o3 JG (v3 1) (o3 (iC (λ_ j=>0<j) (·%·)) (o3 (iC T3 (·/·)) (v3 0) (cb3 S_law_two (qc (v3 2) qr))) (c3 (.int 2)))) (gn3 1))) (zu (o3 (jE false) (o3 (iC (λ_ j=>0<j) (·%·)) (v3 1) (c3 (.int 2))) (c3 (.int 1))))))
def SW {S_law_two:Sp3} (F:Fun K "_law_odd" "_law_odd" j6 f fd) (bd:zn K fd UF []) (hm:mg "_law_odd" = some (.ref f)) (qi:Fn3 P w K mg base k "_law_two" S_law_two) (m_range:mg "range" = none)
  (read:Rd sp 1 (J2 S_law_two) ZB):Fn3 P w K mg base (k+1) "_law_odd" sp:=
 qD (t3:=(J2 S_law_two)) F ZU bd hm (λcdv A outer s H E hr=>(qh (qZ 1 ZU.nd qd) (qh (XJ PassesOwn.never rfl (j5 rfl m_range (qb qd qe) (h1:=by intro _ _ _ h;simpa [qc,qr] using h)) (qJ (i:=2) (ZU.nd)) (qk (qZ 1 ZU.nd (zN (qa 1) (ZG (XA (qa 0) (qj qi hr rfl (qb (qa 2) qe))) qd))))) (qk (qq (j2 (zw hr.units) qK (ZG (qa 1) qd) qd (qv _))))))) read
abbrev jy:Stmt:=top 37
abbrev jY:List Str:=["_law_dealing","_law_number","_law_found","_law_t","_law_mask"]
abbrev YV:List Str:=["_law_dealing","_law_number"]
def jC:FnScope jY YV (qf jy):=⟨rfl,rfl,rfl,by decide +kernel,rfl,by decide +kernel,by decide +kernel⟩
def ZP (S_law_odd:Sp3) (S_law_two:Sp3):TS3:=(za (zT (c3 (.int 0)) (gn3 2)) (za (NH (UR (qc (o3 ix3 (v3 0) (c3 (.int 3))) qr)) (Z8 2 (qI (gn3 3) (qI (gn3 4) JB))) (Q2 (tb3 (cb3 S_law_odd (qc (o3 (iI Builtin.bitAnd) (v3 1) (v3 4)) qr))) (zT (o3 JG (v3 2) (cb3 S_law_two (qc (v3 3) qr))) (gn3 2)) zc)) (zu (v3 2))))
def CA {S_law_odd:Sp3} {S_law_two:Sp3} (F:Fun K "_law_bank" "_law_bank" jy f fd) (bd:zn K fd YV []) (hm:mg "_law_bank" = some (.ref f)) (jb:Fn3 P w K mg base k "_law_odd" S_law_odd) (qi:Fn3 P w K mg base k "_law_two" S_law_two) (m_enumerate:mg "enumerate" = none)
  (read:Rd sp 2 (ZP S_law_odd S_law_two) jY):Fn3 P w K mg base (k+1) "_law_bank" sp:=
 qD (t3:=(ZP S_law_odd S_law_two)) F jC bd hm (λcdv A outer s H E hr=>(qh (qZ 2 jC.nd qd) (qh (XJ PassesOwn.never rfl (DE rfl m_enumerate (qb (qE (qa 0) qd) qe)) (Z0 rfl (qC (qJ (i:=3) (jC.nd)) (qC (qJ (i:=4) (jC.nd)) ZZ))) (qk (jk (jW (qj jb hr rfl (qb (UD (qa 1) (qa 4)) qe))) (qk (qZ 2 jC.nd (zN (qa 2) (qj qi hr rfl (qb (qa 3) qe))))) q5))) (qk (qq (qa 2)))))) read
abbrev QB:Stmt:=top 38
abbrev ZN:List Str:=["_law_numbers","_law_x","_law_found","_law_t","_law_number"]
abbrev U5:List Str:=["_law_numbers","_law_x"]
def j3:FnScope ZN U5 (qf QB):=⟨rfl,rfl,rfl,by decide +kernel,rfl,by decide +kernel,by decide +kernel⟩
def JX (S_law_two:Sp3):TS3:=(za (zT (c3 (.int 0)) (gn3 2)) (za (NH (UR (qc (v3 0) qr)) (Z8 2 (qI (gn3 3) (qI (gn3 4) JB))) (zT (o3 (iI Builtin.bitXor) (v3 2) (o3 (iC YA (·*·)) (v3 4) (o3 (iC (λ_ j=>0<j) (·%·)) (o3 (iC T3 (·/·)) (v3 1) (cb3 S_law_two (qc (v3 3) qr))) (c3 (.int 2))))) (gn3 2))) (zu (v3 2))))
def TY {S_law_two:Sp3} (F:Fun K "_law_led" "_law_led" QB f fd) (bd:zn K fd U5 []) (hm:mg "_law_led" = some (.ref f)) (qi:Fn3 P w K mg base k "_law_two" S_law_two) (m_enumerate:mg "enumerate" = none)
  (read:Rd sp 2 (JX S_law_two) ZN):Fn3 P w K mg base (k+1) "_law_led" sp:=
 qD (t3:=(JX S_law_two)) F j3 bd hm (λcdv A outer s H E hr=>(qh (qZ 2 j3.nd qd) (qh (XJ PassesOwn.never rfl (DE rfl m_enumerate (qb (qa 0) qe)) (Z0 rfl (qC (qJ (i:=3) (j3.nd)) (qC (qJ (i:=4) (j3.nd)) ZZ))) (qk (qZ 2 j3.nd (qgV (qa 2) (QZ (qa 4) (ZG (XA (qa 1) (qj qi hr rfl (qb (qa 3) qe))) qd)))))) (qk (qq (qa 2)))))) read
abbrev qO:Stmt:=top 39
abbrev qU:List Str:=["_law_dealing","_law_numbers","_law_x","_law_word","_law_due"]
abbrev zQ:List Str:=["_law_dealing","_law_numbers"]
def zg:FnScope qU zQ (qf qO):=⟨rfl,rfl,rfl,by decide +kernel,rfl,by decide +kernel,by decide +kernel⟩
def zm (S_law_two:Sp3) (S_law_led:Sp3) (S_bank_of:Sp3) (S_law_bank:Sp3):TS3:=(za (NH (YR (qc (cb3 S_law_two (qc (cb3 V8 (qc (v3 1) qr)) qr)) qr)) (gn3 2) (za (zT (LS (qc (o3 (iC T3 (·/·)) (v3 2) (cb3 S_law_two (qc (o3 ix3 (v3 0) (c3 (.int 2))) qr))) (qc (o3 (iC (λ_ j=>0<j) (·%·)) (v3 2) (cb3 S_law_two (qc (o3 ix3 (v3 0) (c3 (.int 2))) qr))) qr))) (gn3 3)) (za (zT (cb3 S_law_led (qc (v3 1) (qc (v3 2) qr))) (gn3 4)) (Q2 (or3 (tb3 (o3 (jE true) (cb3 S_law_bank (qc (v3 0) (qc (v3 2) qr))) (v3 4))) (tb3 (o3 (jE true) (cb3 S_bank_of (qc (v3 0) (qc (v3 3) qr))) (v3 4)))) (zu (c3 (.bl false))) zc)))) (zu (c3 (.bl true))))
def YM {S_law_two:Sp3} {S_law_led:Sp3} {S_bank_of:Sp3} {S_law_bank:Sp3} (F:Fun K "_law_words_right" "_law_words_right" qO f fd) (bd:zn K fd zQ []) (hm:mg "_law_words_right" = some (.ref f)) (qi:Fn3 P w K mg base k "_law_two" S_law_two) (ja:Fn3 P w K mg base k "_law_led" S_law_led) (jh:Fn3 P w K mg base k "bank_of" S_bank_of) (zD:Fn3 P w K mg base k "_law_bank" S_law_bank) (m_len:mg "len" = none) (m_range:mg "range" = none)
  (read:Rd sp 2 (zm S_law_two S_law_led S_bank_of S_law_bank) qU):Fn3 P w K mg base (k+1) "_law_words_right" sp:=
 qD (t3:=(zm S_law_two S_law_led S_bank_of S_law_bank)) F zg bd hm (λcdv A outer s H E hr=>(qh (XJ PassesOwn.never rfl (j5 rfl m_range (qb (qj qi hr rfl (qb (qA zo zO rfl m_len PySem.boot_len (qb (qa 1) qe)) qe)) qe) (h1:=by intro _ _ _ h;simpa [qc,qr] using h)) (qJ (i:=2) (zg.nd)) (qh (qZ 3 zg.nd (EA (qb (XA (qa 2) (qj qi hr rfl (qb (qE (qa 0) qd) qe))) (qb (ZG (qa 2) (qj qi hr rfl (qb (qE (qa 0) qd) qe))) qe)))) (qh (qZ 4 zg.nd (qj ja hr rfl (qb (qa 1) (qb (qa 2) qe)))) (qk (jk (jpt (EJ (qR (VP hr.units) ZM (qj zD hr rfl (qb (qa 0) (qb (qa 2) qe))) (qa 4) (qv _)) (VN (qR (VP hr.units) ZM (qj jh hr rfl (qb (qa 0) (qb (qa 3) qe))) (qa 4) (qv _))))) (qk (qq VR)) q5))))) (qk (qq VR)))) read
abbrev ZE:Stmt:=top 40
abbrev qac:List Str:=["_law_script","_law_k","_law_left_here","_law_high","_law_low","_law_most","_law_numbers","_law_given","_law_found","_law_many"]
abbrev qfn:List Str:=["_law_script"]
def J9:FnScope qac qfn (qf ZE):=⟨rfl,rfl,rfl,by decide +kernel,rfl,by decide +kernel,by decide +kernel⟩
def qcP (S_law_left:Sp3) (S_law_pick:Sp3) (S_dealing_by:Sp3) (S_law_two:Sp3) (S_is_dealing:Sp3) (S_law_words_right:Sp3) (S_law_same:Sp3):TS3:=(za (NH (YR (qc (o3 JG (c3 (.int 1)) (cb3 qfQ (qc (c3 (.int 10)) (qc (cb3 V8 (qc (v3 0) qr)) qr)))) qr)) (gn3 1) (za (zT (cb3 S_law_left (qc (v3 0) (qc (v3 1) qr))) (gn3 2)) (za (qgz 3 4 (qc (cb3 S_law_pick (qc (v3 2) (qc (c3 (.int 5)) qr))) (qc (cb3 S_law_pick (qc (v3 2) (qc (c3 (.int 5)) qr))) qr))) (za (zT (o3 ix3 (NM (qc (c3 (.int 2)) (qc (c3 (.int 8)) (qc (c3 (.int 32)) qr)))) (cb3 S_law_pick (qc (v3 2) (qc (c3 (.int 3)) qr)))) (gn3 5)) (za (zT (lc3 (YR (qc (o3 JG (v3 3) (v3 4)) qr)) (gn3 0) tt3 (cb3 S_law_pick (qc (v3 1) (qc (v3 2) qr))) [none,some 2,some 5]) (gn3 6)) (za (zT (cb3 S6 (qc (v3 6) qr)) (gn3 7)) (za (zT (cb3 S_dealing_by (qc (v3 3) (qc (v3 4) (qc (v3 7) qr)))) (gn3 8)) (za (zT (cb3 V8 (qc (lc3 (YR (qc (c3 (.int 5)) qr)) (gn3 0) (tb3 (o3 (iB λi j=>decide (j<=i)) (cb3 RW (qc (o3 JG (v3 1) (NM (qc (c3 (.int 0)) qr))) qr)) (cb3 S_law_two (qc (v3 0) qr)))) (v3 0) [none,some 6]) qr)) (gn3 9)) (za (Q2 (or3 (CT (tb3 (V3 (λt=>jD t "tuple") (v3 8)))) (or3 (tb3 (o3 (jE true) (qdn (v3 8) np3 (sp3 (c3 (.int 3)))) (LS (qc (c3 (.str "bits")) (qc (v3 3) (qc (v3 4) qr)))))) (tb3 (o3 (qiY true) (cb3 S_is_dealing (qc (v3 8) qr)) (c3 (.bl true)))))) (zu (c3 (.bl false))) zc) (za (Q2 (or3 (tb3 (o3 (jE true) (cb3 V8 (qc (o3 ix3 (v3 8) (c3 (.int 3))) qr)) (v3 9))) (or3 (CT (tb3 (cb3 S_law_words_right (qc (v3 8) (qc (v3 6) qr))))) (tb3 (o3 (jE true) (v3 7) (v3 6))))) (zu (c3 (.bl false))) zc) (Q2 (CT (tb3 (cb3 S_law_same (qc (cb3 S_dealing_by (qc (v3 3) (qc (v3 4) (qc (v3 6) qr)))) (qc (v3 8) qr))))) (zu (c3 (.bl false))) zc))))))))))) (zu (c3 (.bl true))))
def qfA {S_law_left:Sp3} {S_law_pick:Sp3} {S_dealing_by:Sp3} {S_law_two:Sp3} {S_is_dealing:Sp3} {S_law_words_right:Sp3} {S_law_same:Sp3} (F:Fun K "law" "law" ZE f fd) (F_law_left:Fn3 P w K mg base k "_law_left" S_law_left) (F_law_pick:Fn3 P w K mg base k "_law_pick" S_law_pick) (qG:Fn3 P w K mg base k "dealing_by" S_dealing_by) (qi:Fn3 P w K mg base k "_law_two" S_law_two) (qW:Fn3 P w K mg base k "is_dealing" S_is_dealing) (qu:Fn3 P w K mg base k "_law_words_right" S_law_words_right) (F_law_same:Fn3 P w K mg base k "_law_same" S_law_same) (m_len:mg "len" = none) (m_min:mg "min" = none) (m_range:mg "range" = none) (m_list:mg "list" = none) (m_max:mg "max" = none) (m_isinstance:mg "isinstance" = none) (m_tuple:mg "tuple" = none)
  (read:Rd sp 1 (qcP S_law_left S_law_pick S_dealing_by S_law_two S_is_dealing S_law_words_right S_law_same) qac):FnOk P w K mg base CX0 (k+1) f fd qfn (lSp K sp):=
 qal (t3:=(qcP S_law_left S_law_pick S_dealing_by S_law_two S_is_dealing S_law_words_right S_law_same)) F J9 (λcdv A outer s H E hr=>(qh (XJ PassesOwn.never rfl (j5 rfl m_range (qb (zN qd (qA (M3 rfl) qdF rfl m_min PyProof.Rows.boot_min (qb qd (qb (qA zo zO rfl m_len PySem.boot_len (qb (qa 0) qe)) qe)))) qe) (h1:=by intro _ _ _ h;simpa [qc,qr] using h)) (qJ (i:=1) (J9.nd)) (qh (qZ 2 J9.nd (qj F_law_left hr rfl (qb (qa 0) (qb (qa 1) qe)))) (qh (qfE (i:=3) (j:=4) rfl J9.nd rfl rfl (by decide) rfl rfl (qb (qj F_law_pick hr rfl (qb (qa 2) (qb qd qe))) (qb (qj F_law_pick hr rfl (qb (qa 2) (qb qd qe))) qe))) (qh (qZ 5 J9.nd (qE (RH (qb qd (qb qd (qb qd qe)))) (qj F_law_pick hr rfl (qb (qa 2) (qb qd qe))))) (qh (qZ 6 J9.nd (WP ["_law_t","_law_left_here","_law_most"] [none,some 2,some 5] rfl (j5 rfl m_range (qb (zN (qa 3) (qa 4)) qe) (h1:=by intro _ _ _ h;simpa [qc,qr] using h)) (λ_ _ _=>(jgn 0)) (λ_ _ _=>WU) (λ_ _ _=>(qj F_law_pick hr rfl (qb (qa 1) (qb (qa 2) qe)))) (by kernel_rfl) (by kernel_rfl))) (qh (qZ 7 J9.nd (XD XY qaD rfl m_list PyProof.Rows.boot_list (qb (qa 6) qe))) (qh (qZ 8 J9.nd (qj qG hr rfl (qb (qa 3) (qb (qa 4) (qb (qa 7) qe))))) (qh (qZ 9 J9.nd (qA zo zO rfl m_len PySem.boot_len (qb (WP ["_law_t","_law_numbers"] [none,some 6] rfl (j5 rfl m_range (qb qd qe) (h1:=by intro _ _ _ h;simpa [qc,qr] using h)) (λ_ _ _=>(jgn 0)) (λ_ _ _=>L5 (qR qc7 Q7 (qA (KJ rfl) qaM rfl m_max PyProof.Rows.boot_max (qb (zN (qa 1) (RH (qb qd qe))) qe)) (qj qi hr rfl (qb (qa 0) qe)) (qv _))) (λ_ _ _=>(qa 0)) (by kernel_rfl) (by kernel_rfl)) qe))) (qh (jk (jpt (EJ (JQ (jW (jJ (qa 8) rfl m_isinstance rfl m_tuple PyProof.Rows.boot_tuple))) (EJ (qR (VP hr.units) ZM (WE (qa 8) LF (DC qd)) (EA (qb jL (qb (qa 3) (qb (qa 4) qe)))) (qv _)) (VN (qR qcG qaF (qj qW hr rfl (qb (qa 8) qe)) VR (qv _)))))) (qk (qq VR)) q5) (qh (jk (jpt (EJ (qR (VP hr.units) ZM (qA zo zO rfl m_len PySem.boot_len (qb (qE (qa 8) qd) qe)) (qa 9) (qv _)) (EJ (JQ (jW (qj qu hr rfl (qb (qa 8) (qb (qa 6) qe))))) (VN (qR (VP hr.units) ZM (qa 7) (qa 6) (qv _)))))) (qk (qq VR)) q5) (qk (jk (JQ (jW (qj F_law_same hr rfl (qb (qj qG hr rfl (qb (qa 3) (qb (qa 4) (qb (qa 6) qe)))) (qb (qa 8) qe))))) (qk (qq VR)) q5)))))))))))) (qk (qq VR)))) read
end K49
namespace K49
open PySem L2 L3 Pu
def QS:PuS (Bk.QK):=(ZL (WH (qdL (λt=>jD t "int") (bV 0)) (qfW (qdL (λt=>jD t "bool") (bV 0)))))
def qt:List PyData->Option PyData:=Pu.run QS.f 1 1 1000000000 false
def XW:Rd (PSp qt false) 1 (Bk.QK) QU:=qQ QS QU 1 1000000000 false
def XN {x0:PyData}:qt [x0]=Z2 false (QS.f 1000000000 [.sh x0]):=id rfl
def jp:PuS (K49.jo (PSp qt false)):=(ZL (WH (qy (qS qt false) (qg (bV 0) qV)) (bO (opB λi j=>decide (j<=i)) (bV 0) (bV 1))))
def qN:List PyData->Option PyData:=Pu.run jp.f 2 2 1000000000 false
def EN:Rd (PSp qN false) 2 (K49.jo (PSp qt false)) zG:=qQ jp zG 2 1000000000 false
def EG {x0 x1:PyData}:qN [x0,x1]=Z2 false (jp.f 1000000000 [.sh x0,.sh x1]):=id rfl
def zR:PuS (K49.zV (PSp qN false)):=(ZL (qy qiI (qg (bLc (qi8 (bV 0)) (gN 0) bTt (qy (qS qN false) (qg (bV 0) (qg (bV 1) qV))) [none,some 1] ⟨rfl⟩) qV)))
def qx:List PyData->Option PyData:=Pu.run zR.f 2 2 1000000000 false
def EB:Rd (PSp qx false) 2 (K49.zV (PSp qN false)) zU:=qQ zR zU 2 1000000000 false
def UH {x0 x1:PyData}:qx [x0,x1]=Z2 false (zR.f 1000000000 [.sh x0,.sh x1]):=id rfl
def YI:PuS (Bk.JO (PSp qt false)):=(ZL (WH (qdL (λt=>jD t "tuple") (bV 0)) (WH (bO (VT false) (qy LC (qg (bV 0) qV)) (qM 2)) (WH (qy (qS qt false) (qg (bO jR (bV 0) (qM 0)) qV)) (qy (qS qt false) (qg (bO jR (bV 0) (qM 1)) qV))))))
def z3:List PyData->Option PyData:=Pu.run YI.f 1 1 1000000000 false
def SS:Rd (PSp z3 false) 1 (Bk.JO (PSp qt false)) YJ:=qQ YI YJ 1 1000000000 false
def RV {x0:PyData}:z3 [x0]=Z2 false (YI.f 1000000000 [.sh x0]):=id rfl
def J8:PuS (K49.YK (PSp qx false)):=(QI (sIf (bOr (bTb (bO (VT true) (qy LC (qg (bV 0) qV)) (qM 4))) (NL (bTb (qy (qS qx false) (qg (bSl (bV 0) (bSp (qM 1)) (bSp (qM 3))) (qg (qM 0) qV)))))) (ZL (bBl false)) QN) (QI (TR (bSl (bV 0) (bSp (qM 1)) bNp) (T4 3 (zX (gN 1) (zX (gN 2) (zX (gN 3) T0)))) [true] ⟨rfl⟩) (QI (sIf (bOr (NL (bTb (qdL (λt=>jD t "tuple") (bV 3)))) (NL (bTb (qy (qS qx false) (qg (bV 3) (qg (qM 0) qV)))))) (ZL (bBl false)) QN) (ZL (qy qiI (qg (bLc (qi8 (bV 3)) (gN 0) bTt (bO (opB λi j=>decide (i<=j)) (qiT (bV 0)) (bO WO (bV 1) (bV 2))) [none,some 1,some 2] ⟨rfl⟩) qV))))))
def z9:List PyData->Option PyData:=Pu.run J8.f 1 4 1000000000 false
def TN:Rd (PSp z9 false) 1 (K49.YK (PSp qx false)) JU:=qQ J8 JU 1 1000000000 false
def SU {x0:PyData}:z9 [x0]=Z2 false (J8.f 1000000000 [.sh x0,.un,.un,.un]):=id rfl
def jH:PuS (K49.jM (PSp (λ_=>none) false) (PSp (λ_=>none) false) (PSp z9 false) (PSp (λ_=>none) false) (PSp (λ_=>none) false)):=(QI (sIf (bOr (NL (bTb (qdL (λt=>jD t "tuple") (bV 0)))) (bTb (bO (VT false) (qy LC (qg (bV 0) qV)) (qM 0)))) (ZL (bBl false)) QN) (QI (X0 (bO jR (bV 0) (qM 0)) 1 [true] ⟨rfl⟩) (QI (sIf (bTb (bO (VT false) (bV 1) (CC "skew"))) (ZL (qy (qS (λ_=>none) false) (qg (bV 0) qV))) QN) (QI (sIf (bTb (bO (VT false) (bV 1) (CC "rests"))) (ZL (qy (qS (λ_=>none) false) (qg (bV 0) qV))) QN) (QI (sIf (bTb (bO (VT false) (bV 1) (CC "bits"))) (ZL (qy (qS z9 false) (qg (bV 0) qV))) QN) (QI (sIf (bTb (bO (VT false) (bV 1) (CC "table"))) (ZL (qy (qS (λ_=>none) false) (qg (bV 0) qV))) QN) (ZL (WH (bO (VT false) (bV 1) (CC "joined")) (qy (qS (λ_=>none) false) (qg (bV 0) qV))))))))))
def qW:List PyData->Option PyData:=Pu.run jH.f 1 2 1000000000 false
def WG:Rd (PSp qW false) 1 (K49.jM (PSp (λ_=>none) false) (PSp (λ_=>none) false) (PSp z9 false) (PSp (λ_=>none) false) (PSp (λ_=>none) false)) je:=qQ jH je 1 1000000000 false
def WI {x0:PyData}:qW [x0]=Z2 false (jH.f 1000000000 [.sh x0,.un]):=id rfl
def QL:PuS (Bk.QJ (PSp (Pv.qp 1) false)):=(QI (TR (qy (qS (Pv.qp 1) false) (qg (bV 0) qV)) (T4 3 (zX (gN 2) (zX (gN 3) (zX (gN 4) T0)))) [true] ⟨rfl⟩) (ZL (bO WO (bO (opC YA (·*·)) (bO jR (bV 1) (qM 0)) (bV 3)) (bO jR (bV 1) (qM 1)))))
def qP:List PyData->Option PyData:=Pu.run QL.f 2 5 1000000000 false
def XU:Rd (PSp qP false) 2 (Bk.QJ (PSp (Pv.qp 1) false)) jz:=qQ QL jz 2 1000000000 false
def XS {x0 x1:PyData}:qP [x0,x1]=Z2 false (QL.f 1000000000 [.sh x0,.sh x1,.un,.un,.un]):=id rfl
def YD:PuS (Bk.JT (PSp z3 false) (PSp (Pv.qp 1) false)):=(QI (sIf (NL (bTb (qy (qS z3 false) (qg (bV 1) qV)))) (ZL (bBl false)) QN) (QI (TR (qy (qS (Pv.qp 1) false) (qg (bV 0) qV)) (T4 3 (zX (gN 2) (zX (gN 3) (zX (gN 4) T0)))) [true] ⟨rfl⟩) (ZL (WH (bCh (opB λi j=>decide (i<=j)) (opB λi j=>decide (i<j)) (qM 0) (bO jR (bV 1) (qM 0)) (bV 2)) (bCh (opB λi j=>decide (i<=j)) (opB λi j=>decide (i<j)) (qM 0) (bO jR (bV 1) (qM 1)) (bV 3))))))
def jf:List PyData->Option PyData:=Pu.run YD.f 2 5 1000000000 false
def TC:Rd (PSp jf false) 2 (Bk.JT (PSp z3 false) (PSp (Pv.qp 1) false)) ZK:=qQ YD ZK 2 1000000000 false
def SZ {x0 x1:PyData}:jf [x0,x1]=Z2 false (YD.f 1000000000 [.sh x0,.sh x1,.un,.un,.un]):=id rfl
def J1:PuS (Bk.YL (PSp qP false) (PSp Pv.zk false) (PSp (λ_=>none) false)):=(QI (X0 (bO jR (bV 0) (qM 0)) 2 [true] ⟨rfl⟩) (QI (sIf (bTb (bO (VT false) (bV 2) (CC "skew"))) (ZL (bO (opC (λ_ j=>0<j) (·%·)) (bO WO (bO (opC YA (·*·)) (bO jR (bV 0) (qM 4)) (bO jR (bV 1) (qM 0))) (bO (opC YA (·*·)) (bO jR (bV 0) (qM 5)) (bO jR (bV 1) (qM 1)))) (bO jR (bV 0) (qM 3)))) QN) (QI (sIf (bTb (bO (VT false) (bV 2) (CC "rests"))) (ZL (bO (opC (λ_ j=>0<j) (·%·)) (qy (qS qP false) (qg (bV 0) (qg (bV 1) qV))) (bO jR (bV 0) (qM 3)))) QN) (QI (sIf (bTb (bO (VT false) (bV 2) (CC "bits"))) (ZL (qy (qS Pv.zk false) (qg (bO jR (bV 0) (qM 3)) (qg (qy (qS qP false) (qg (bV 0) (qg (bV 1) qV))) qV)))) QN) (QI (sIf (bTb (bO (VT false) (bV 2) (CC "table"))) (ZL (bO jR (bO jR (bO jR (bV 0) (qM 2)) (bO jR (bV 1) (qM 0))) (bO jR (bV 1) (qM 1)))) QN) (ZL (qy (qS (λ_=>none) false) (qg (bO jR (bV 0) (qM 1)) (qg (bO jR (bV 0) (qM 2)) (qg (bV 1) qV))))))))))
def zZ:List PyData->Option PyData:=Pu.run J1.f 2 3 1000000000 false
def S8:Rd (PSp zZ false) 2 (Bk.YL (PSp qP false) (PSp Pv.zk false) (PSp (λ_=>none) false)) Q8:=qQ J1 Q8 2 1000000000 false
def TL {x0 x1:PyData}:zZ [x0,x1]=Z2 false (J1.f 1000000000 [.sh x0,.sh x1,.un]):=id rfl
def zz:PuS (Bk.zA (PSp jf false)):=(sIf (NL (bTb (qy (qS jf false) (qg (bV 0) (qg (bV 1) qV))))) qlJ QN)
def qz:List PyData->Option PyData:=Pu.run zz.f 2 2 1000000000 false
def VJ:Rd (PSp qz false) 2 (Bk.zA (PSp jf false)) zb:=qQ zz zb 2 1000000000 false
def YS {x0 x1:PyData}:qz [x0,x1]=Z2 false (zz.f 1000000000 [.sh x0,.sh x1]):=id rfl
def YF:PuS (Bk.YB (PSp qz false) (PSp zZ false)):=(QI (qfp (qy (qS qz false) (qg (bV 0) (qg (bV 1) qV)))) (ZL (qy (qS zZ false) (qg (bV 0) (qg (bV 1) qV)))))
def jh:List PyData->Option PyData:=Pu.run YF.f 2 2 1000000000 false
def RQ:Rd (PSp jh false) 2 (Bk.YB (PSp qz false) (PSp zZ false)) Q5:=qQ YF Q5 2 1000000000 false
def R8 {x0 x1:PyData}:jh [x0,x1]=Z2 false (YF.f 1000000000 [.sh x0,.sh x1]):=id rfl
def JV:PuS (K49.JJ):=(ZL (qy qiQ (qg (bLc (RZ (qg (bV 0) qV)) (T4 2 (zX (gN 0) (zX (gN 1) T0))) (bTb (bO (VT false) (bO (opI Builtin.bitAnd) (bO (opC (λ_ j=>0<=j) (λi j=>i/2 ^ j.toNat)) (bV 1) (bV 2)) (qM 1)) (qM 1))) (bO (opC ED (λi j=>i*2 ^ j.toNat)) (qM 1) (bV 0)) [none,none,some 1] ⟨rfl⟩) qV)))
def zY:List PyData->Option PyData:=Pu.run JV.f 2 2 1000000000 false
def TF:Rd (PSp zY false) 2 (K49.JJ) J0:=qQ JV J0 2 1000000000 false
def R9 {x0 x1:PyData}:zY [x0,x1]=Z2 false (JV.f 1000000000 [.sh x0,.sh x1]):=id rfl
def jK:PuS (K49.jG (PSp zY false)):=(QI (X0 (qiT (bO qbJ (bV 2) (qM 0))) 3 [false,false,true] ⟨rfl⟩) (ZL (qab (qg (CC "bits") (qg (bV 0) (qg (bV 1) (qg (qy qkR (qg (bLc (qdh (qg (bV 3) qV)) (gN 0) bTt (qy (qS zY false) (qg (bV 1) (qg (bV 0) qV))) [none,some 2] ⟨rfl⟩) qV)) qV)))) ⟨rfl⟩)))
def qG:List PyData->Option PyData:=Pu.run jK.f 3 4 1000000000 false
def D6:Rd (PSp qG false) 3 (K49.jG (PSp zY false)) jF:=qQ jK jF 3 1000000000 false
def WK {x0 x1 x2:PyData}:qG [x0,x1,x2]=Z2 false (jK.f 1000000000 [.sh x0,.sh x1,.sh x2,.un]):=id rfl
def J6:PuS (K49.YC):=(ZL (bO jR (qiS (qg (qM 1) (qg (qM 2) (qg (qM 4) (qg (qM 8) (qg (qM 16) (qg (qM 32) (qg (qM 64) (qg (qM 128) (qg (qM 256) qV))))))))) ⟨rfl⟩) (bV 0)))
def qi:List PyData->Option PyData:=Pu.run J6.f 1 1 1000000000 false
def SQ:Rd (PSp qi false) 1 (K49.YC) ZH:=qQ J6 ZH 1 1000000000 false
def SR {x0:PyData}:qi [x0]=Z2 false (J6.f 1000000000 [.sh x0]):=id rfl
def JL:PuS (K49.J2 (PSp qi false)):=(QI (X0 (qM 0) 1 [] ⟨rfl⟩) (QI (qh2 (qdh (qg (qM 9) qV)) (gN 2) (X0 (bO WO (bV 1) (bO (opC (λ_ j=>0<j) (·%·)) (bO (opC T3 (·/·)) (bV 0) (qy (qS qi false) (qg (bV 2) qV))) (qM 2))) 1 [true,true,true] ⟨rfl⟩) [] ⟨rfl⟩) (ZL (bO (VT false) (bO (opC (λ_ j=>0<j) (·%·)) (bV 1) (qM 2)) (qM 1)))))
def jb:List PyData->Option PyData:=Pu.run JL.f 1 3 1000000000 false
def R5:Rd (PSp jb false) 1 (K49.J2 (PSp qi false)) ZB:=qQ JL ZB 1 1000000000 false
def R7 {x0:PyData}:jb [x0]=Z2 false (JL.f 1000000000 [.sh x0,.un,.un]):=id rfl
def ZS:PuS (K49.ZP (PSp jb false) (PSp qi false)):=(QI (X0 (qM 0) 2 [] ⟨rfl⟩) (QI (qh2 (RZ (qg (bO jR (bV 0) (qM 3)) qV)) (T4 2 (zX (gN 3) (zX (gN 4) T0))) (sIf (bTb (qy (qS jb false) (qg (bO (opI Builtin.bitAnd) (bV 1) (bV 4)) qV))) (X0 (bO WO (bV 2) (qy (qS qi false) (qg (bV 3) qV))) 2 [false,false,true,true] ⟨rfl⟩) QN) [true] ⟨rfl⟩) (qcX 2)))
def zD:List PyData->Option PyData:=Pu.run ZS.f 2 5 1000000000 false
def X6:Rd (PSp zD false) 2 (K49.ZP (PSp jb false) (PSp qi false)) jY:=qQ ZS jY 2 1000000000 false
def CS {x0 x1:PyData}:zD [x0,x1]=Z2 false (ZS.f 1000000000 [.sh x0,.sh x1,.un,.un,.un]):=id rfl
def JM:PuS (K49.JX (PSp qi false)):=(QI (X0 (qM 0) 2 [] ⟨rfl⟩) (QI (qh2 (RZ (qg (bV 0) qV)) (T4 2 (zX (gN 3) (zX (gN 4) T0))) (X0 (bO (opI Builtin.bitXor) (bV 2) (bO (opC YA (·*·)) (bV 4) (bO (opC (λ_ j=>0<j) (·%·)) (bO (opC T3 (·/·)) (bV 1) (qy (qS qi false) (qg (bV 3) qV))) (qM 2)))) 2 [false,true,true,true,true] ⟨rfl⟩) [true] ⟨rfl⟩) (qcX 2)))
def ja:List PyData->Option PyData:=Pu.run JM.f 2 5 1000000000 false
def SX:Rd (PSp ja false) 2 (K49.JX (PSp qi false)) ZN:=qQ JM ZN 2 1000000000 false
def TV {x0 x1:PyData}:ja [x0,x1]=Z2 false (JM.f 1000000000 [.sh x0,.sh x1,.un,.un,.un]):=id rfl
def zq:PuS (K49.zm (PSp qi false) (PSp ja false) (PSp jh false) (PSp zD false)):=(QI (qh2 (qdh (qg (qy (qS qi false) (qg (qy LC (qg (bV 1) qV)) qV)) qV)) (gN 2) (QI (X0 (qab (qg (bO (opC T3 (·/·)) (bV 2) (qy (qS qi false) (qg (bO jR (bV 0) (qM 2)) qV))) (qg (bO (opC (λ_ j=>0<j) (·%·)) (bV 2) (qy (qS qi false) (qg (bO jR (bV 0) (qM 2)) qV))) qV)) ⟨rfl⟩) 3 [true,false,true] ⟨rfl⟩) (QI (X0 (qy (qS ja false) (qg (bV 1) (qg (bV 2) qV))) 4 [false,true,true] ⟨rfl⟩) (sIf (bOr (bTb (bO (VT true) (qy (qS zD false) (qg (bV 0) (qg (bV 2) qV))) (bV 4))) (bTb (bO (VT true) (qy (qS jh false) (qg (bV 0) (qg (bV 3) qV))) (bV 4)))) (ZL (bBl false)) QN))) [false,true] ⟨rfl⟩) (ZL (bBl true)))
def qu:List PyData->Option PyData:=Pu.run zq.f 2 5 1000000000 false
def J4:Rd (PSp qu false) 2 (K49.zm (PSp qi false) (PSp ja false) (PSp jh false) (PSp zD false)) qU:=qQ zq qU 2 1000000000 false
def JR {x0 x1:PyData}:qu [x0,x1]=Z2 false (zq.f 1000000000 [.sh x0,.sh x1,.un,.un,.un]):=id rfl
def qjy (S_law_pick:Sp3) (S_dealing_by:Sp3) (S_law_two:Sp3) (S_is_dealing:Sp3) (S_law_words_right:Sp3) (S_law_same:Sp3):TS3:=(za (qgz 3 4 (qc (cb3 S_law_pick (qc (v3 2) (qc (c3 (.int 5)) qr))) (qc (cb3 S_law_pick (qc (v3 2) (qc (c3 (.int 5)) qr))) qr))) (za (zT (o3 ix3 (NM (qc (c3 (.int 2)) (qc (c3 (.int 8)) (qc (c3 (.int 32)) qr)))) (cb3 S_law_pick (qc (v3 2) (qc (c3 (.int 3)) qr)))) (gn3 5)) (za (zT (lc3 (YR (qc (o3 JG (v3 3) (v3 4)) qr)) (gn3 0) tt3 (cb3 S_law_pick (qc (v3 1) (qc (v3 2) qr))) [none,some 2,some 5]) (gn3 6)) (za (zT (cb3 S6 (qc (v3 6) qr)) (gn3 7)) (za (zT (cb3 S_dealing_by (qc (v3 3) (qc (v3 4) (qc (v3 7) qr)))) (gn3 8)) (za (zT (cb3 V8 (qc (lc3 (YR (qc (c3 (.int 5)) qr)) (gn3 0) (tb3 (o3 (iB λi j=>decide (j<=i)) (cb3 RW (qc (o3 JG (v3 1) (NM (qc (c3 (.int 0)) qr))) qr)) (cb3 S_law_two (qc (v3 0) qr)))) (v3 0) [none,some 6]) qr)) (gn3 9)) (za (Q2 (or3 (CT (tb3 (V3 (λt=>jD t "tuple") (v3 8)))) (or3 (tb3 (o3 (jE true) (qdn (v3 8) np3 (sp3 (c3 (.int 3)))) (LS (qc (c3 (.str "bits")) (qc (v3 3) (qc (v3 4) qr)))))) (tb3 (o3 (qiY true) (cb3 S_is_dealing (qc (v3 8) qr)) (c3 (.bl true)))))) (zu (c3 (.bl false))) zc) (za (Q2 (or3 (tb3 (o3 (jE true) (cb3 V8 (qc (o3 ix3 (v3 8) (c3 (.int 3))) qr)) (v3 9))) (or3 (CT (tb3 (cb3 S_law_words_right (qc (v3 8) (qc (v3 6) qr))))) (tb3 (o3 (jE true) (v3 7) (v3 6))))) (zu (c3 (.bl false))) zc) (Q2 (CT (tb3 (cb3 S_law_same (qc (cb3 S_dealing_by (qc (v3 3) (qc (v3 4) (qc (v3 6) qr)))) (qc (v3 8) qr))))) (zu (c3 (.bl false))) zc)))))))))
def DO:=((eDr ND (aOf (qg (bV 2) qV))):PwE 1 _)
def qau:PwS 2 (qjy Bk.QW (PSp qG false) (PSp qi false) (PSp qW false) (PSp qu false) (Bk.zP 4)):=(qaJ (qla (qdJ (eDr ND (aOf (qg (qM 5) qV))) (qdJ (eDr ND (aOf (qg (qM 5) qV))) (aOf qV))) 3 4 [] ⟨rfl⟩ ⟨rfl⟩) (qaJ (qe2 (eO jR (eOf (qiS (qg (qM 2) (qg (qM 8) (qg (qM 32) qV))) ⟨rfl⟩)) (eDr ND (aOf (qg (qM 3) qV)))) 5 [] ⟨rfl⟩ ⟨rfl⟩) (qaJ (qe2 (eLc 1 (iOf (qdh (qg (bO WO (bV 3) (bV 4)) qV))) (gN 0) (cOf bTt) DO [none,some 2,some 5] ⟨rfl⟩ ⟨rfl⟩) 6 [false,false,false,true,true,true] ⟨rfl⟩ ⟨rfl⟩) (qaJ (qk2 6 7 ⟨rfl⟩) (qaJ (qe2 (eOf (qy (qS qG false) (qg (bV 3) (qg (bV 4) (qg (bV 7) qV))))) 8 [false,false,false,true,true,false,false,true] ⟨rfl⟩ ⟨rfl⟩) (qaJ (qe2 (eOf (qy LC (qg (bLc (qdh (qg (qM 5) qV)) (gN 0) (bTb (bO (opB λi j=>decide (j<=i)) (qy qhk (qg (bO qbi (bV 1) (qiS (qg (qM 0) qV) ⟨rfl⟩)) qV)) (qy (qS qi false) (qg (bV 0) qV)))) (bV 0) [none,some 6] ⟨rfl⟩) qV))) 9 [false,false,false,false,false,false,true] ⟨rfl⟩ ⟨rfl⟩) (qaJ (wIf (cOf (bOr (NL (bTb (qdL (λt=>jD t "tuple") (bV 8)))) (bOr (bTb (bO (VT true) (bSl (bV 8) bNp (bSp (qM 3))) (qab (qg (CC "bits") (qg (bV 3) (qg (bV 4) qV))) ⟨rfl⟩))) (bTb (bO (qg5 true) (qy (qS qW false) (qg (bV 8) qV)) (bBl true)))))) (qi2 (eOf (bBl false))) NP) (qaJ (wIf (cOf (bOr (bTb (bO (VT true) (qy LC (qg (bO jR (bV 8) (qM 3)) qV)) (bV 9))) (bOr (NL (bTb (qy (qS qu false) (qg (bV 8) (qg (bV 6) qV))))) (bTb (bO (VT true) (bV 7) (bV 6)))))) (qi2 (eOf (bBl false))) NP) (wIf (cOf (NL (bTb (qy (qic 3) (qg (qy (qS qG false) (qg (bV 3) (qg (bV 4) (qg (bV 6) qV)))) (qg (bV 8) qV)))))) (qi2 (eOf (bBl false))) NP)))))))))
def qfo (h:∀ k:Nat,k<=60->qau.w [.un,.sh (.int k),.un,.un,.un,.un,.un,.un,.un,.un] 0 okW):Rd EY 1 (K49.qcP Bk.QR Bk.QW (PSp qG false) (PSp qi false) (PSp qW false) (PSp qu false) (Bk.zP 4)) qac:=qan qau qac 10 7 ⟨by decide,by decide⟩ rfl h
end K49
namespace K49
open PySem L2 L3 Pu Pv
open Bk (pop V7 qw ql Dl)
def s1:jD "int" "int" = true:=rfl
def s2:jD "int" "bool" = false:=rfl
def s3:jD "tuple" "tuple" = true:=rfl
def t2:((1+1:Nat):Int)=2:=rfl
def qhE {i:Int}:qt [.int i]=some (.bool true):=by
 rw [XN]
 try simp only [Pu.pwA,QS,s1,s2]
def qju {i j:Int}:z3 [.tuple [.int i,.int j]]=some (.bool true):=by
 rw [RV]
 try simp only [Pu.pwA,YI,s3,t2,qhE]
def qjS {i e:Int}:qN [.int i,.int e]=some (.bool (decide (e<=i))):=by
 rw [EG]
 try simp only [Pu.pwA,jp,qhE]
def qeU {ms:List Int} (h:∀ m∈ms,0<=m) (hl:ms.length<=1000000):qx [.tuple (ms.map PyData.int),.int 0]=some (.bool true):=by
 rw [UH]
 try simp only [Pu.pwA,zR]
 rw [EX (ds:=ms.map PyData.int) (fs:=(ms.map λ_=>true).map PyData.bool)]
 ·try simp only [Pu.pwA,C5]
  simp
 ·try simp only [Pu.pwA]
 ·rw [map_map];refine X9 λm hm=>?_
  try simp only [Pu.pwA,WR,qjS,h m hm,decide_true,Function.comp_def]
 ·simp;omega
def qdV {m:Int} {k:Nat} (h0:0<=m) (h1:m<2 ^ k):(Builtin.Int.intBits m:Int)<=(k:Int):=by
 unfold Builtin.Int.intBits;split
 ·omega
 ·rename_i c;have c':m≠0:=λz=>c (by simp [z]);have h2:m.natAbs<2 ^ k:=by
   have:((2 ^ k:Nat):Int)=2 ^ k:=by simp
   omega
  have:=(Nat.log2_lt (n:=m.natAbs) (k:=k) (by omega)).mpr h2;omega
def qj1 {h l:Nat} {ms:List Int} (ok:(Dl.bits h l ms).Ok):z9 [dlD (.bits h l ms)]=some (.bool true):=by
 obtain ⟨h1,h2,h3,h4⟩:=ok;have a1:=qeU (ms:=[(h:Int),(l:Int)]) (by intro m hm;simp at hm;omega) (by simp);have a2:=qeU (ms:=ms) (λm hm=>(h4 m hm).1) (by omega);have c1:slD (.tuple [.str "bits",.int h,.int l,.tuple (ms.map PyData.int)]) (some 1) (some 3)=some (.tuple [.int h,.int l]):=DT (by simp [HT.sIx]);have c2:slD (.tuple [.str "bits",.int h,.int l,.tuple (ms.map PyData.int)]) (some 1) none=some (.tuple [.int h,.int l,.tuple (ms.map PyData.int)]):=DT (by simp [HT.sIx]);have t4:((1+1+1+1:Nat):Int)=4:=rfl;rw [SU];simp only [map_cons,List.map_nil] at a1
 try simp only [Pu.pwA,J8,dlD,c1,c2,a1,a2,s3,t4]
 rw [EX (ds:=ms.map PyData.int) (fs:=(ms.map λ_=>true).map PyData.bool)]
 ·try simp only [Pu.pwA,C5]
  simp
 ·try simp only [Pu.pwA]
 ·rw [map_map];refine X9 λm hm=>?_;have ib:=qdV (h4 m hm).1 (h4 m hm).2;have ib':(Builtin.Int.intBits m:Int)<=(h:Int)+(l:Int):=by omega
  try simp only [Pu.pwA,WR,ib',decide_true,Function.comp_def]
 ·simp;omega
def qjf {h l:Nat} {ms:List Int} (ok:(Dl.bits h l ms).Ok):qW [dlD (.bits h l ms)]=some (.bool true):=by
 have e:=qj1 ok;simp only [dlD] at e;rw [WI];have n0:¬ (((1+1+1+1:Nat):Int)=0):=by decide
 try simp only [Pu.pwA,jH,dlD,s3,n0,eq_self,L3.VQ,L3.JS,e,decide_false]
def qls {h l:Nat} {ms:List Int} {i j:Int} (ok:(Dl.bits h l ms).Ok) (hi:0<=i/\i<2 ^ h):qP [dlD (.bits h l ms),.tuple [.int i,.int j]]=some (.int (i*2 ^ l+j)):=by
 have sz:=qiV (.bits h l ms) 1 (by simp [Dl.dep]) ok;obtain ⟨h1,h2,h3,h4⟩:=ok;have b1:(2:Int) ^ h<=2 ^ 4:=Bk.SK h1;rw [XS]
 try simp (disch:=omega) only [Pu.pwA,QL,sz,szD,Dl.R,Dl.C,Dl.B,K4]
def qkD {h l:Nat} {ms:List Int} {i j:Int} (ok:(Dl.bits h l ms).Ok) (hi:0<=i/\i<2 ^ h) (hj:0<=j/\j<2 ^ l):jf [dlD (.bits h l ms),.tuple [.int i,.int j]]=some (.bool true):=by
 have sz:=qiV (.bits h l ms) 1 (by simp [Dl.dep]) ok;rw [SZ]
 try simp only [Pu.pwA,YD,qju,sz,szD,Dl.R,Dl.C,Dl.B,hi,hj,decide_true]
def qlF {h l:Nat} {ms:List Int} {i j:Int} (ok:(Dl.bits h l ms).Ok) (hi:0<=i/\i<2 ^ h):zZ [dlD (.bits h l ms),.tuple [.int i,.int j]]=some (.int (ql ms (i*2 ^ l+j))):=by
 have no:=qls (j:=j) ok hi;have bb:=qlP (ms:=ms) (n:=i*2 ^ l+j) (λm hm=>⟨(ok.2.2.2 m hm).1,Int.lt_of_lt_of_le (ok.2.2.2 m hm).2 (Bk.SK (by have:=ok.1;have:=ok.2.1;omega))⟩) (by have:=ok.2.2.1;omega);simp only [dlD] at no;rw [TL]
 try simp only [Pu.pwA,J1,dlD,eq_self,L3.VQ,L3.JS,no,bb]
def qlK {h l:Nat} {ms:List Int} {i j:Int} (ok:(Dl.bits h l ms).Ok) (hi:0<=i/\i<2 ^ h) (hj:0<=j/\j<2 ^ l):jh [dlD (.bits h l ms),.tuple [.int i,.int j]]=some (.int (ql ms (i*2 ^ l+j))):=by
 have rf:qz [dlD (.bits h l ms),.tuple [.int i,.int j]]=some .none:=by
  rw [YS]
  try simp only [Pu.pwA,zz,qkD ok hi hj]
 rw [R8]
 try simp only [Pu.pwA,YF,rf,qlF ok hi]
def mk (k:Nat):List Int->Int
 |[]=>0
 |n::r=>n/2 ^ k%2+2*mk k r
def RK (k:Nat):∀ xs:List Int,0<=mk k xs/\mk k xs<2 ^ xs.length
 |[]=>by simp [mk]
 |n::r=>by
  have ih:=RK k r;rw [mk,length_cons,Int.pow_succ];generalize (2:Int) ^ r.length=z at ih;omega
def qbT (k:Nat):∀ (xs:List Int) (t:Nat),mk k xs/2 ^ t%2=xs.getD t 0/2 ^ k%2
 |[],t=>by simp [mk]
 |n::r,0=>by
  rw [mk];simp only [List.getD_cons_zero,Int.pow_zero,Int.ediv_one];omega
 |n::r,t+1=>by
  rw [List.getD_cons_succ,← qbT k r t,mk,Int.pow_succ 2 t,Int.mul_comm (2 ^ t) 2,← Int.ediv_ediv_of_nonneg (show (0:Int)<=2 by omega)];have:(n/2 ^ k%2+2*mk k r)/2=mk k r:=by omega
  rw [this]
def qeV:∀ (k:Nat) (m:Int),par k 0 m=0
 |0,_=>rfl
 |k+1,m=>by rw [par,show (0:Int)/2=0 from rfl,qeV k];simp
def LA:∀ (t k:Nat) (m:Int),t<k->par k (2 ^ t) m=m/2 ^ t%2
 |_,0,_,h=>by omega
 |0,k+1,m,_=>by
  rw [par];simp only [Int.pow_zero,Int.ediv_one];rw [show (1:Int)/2=0 from rfl,qeV];omega
 |t+1,k+1,m,h=>by
  have e1:(2:Int) ^ (t+1)%2=0:=by rw [Int.pow_succ];omega
  have e2:(2:Int) ^ (t+1)/2=2 ^ t:=by rw [Int.pow_succ];omega
  rw [par,e1,e2,LA t k _ (by omega),Int.zero_mul,Int.zero_add,Int.pow_succ 2 t,Int.mul_comm (2 ^ t) 2,← Int.ediv_ediv_of_nonneg (show (0:Int)<=2 by omega)]
def qdg {t:Nat} {m:Int} (hm:0<=m) (ht:t<64):(if V7 (2 ^ t) m then (1:Int) else 0)=m/2 ^ t%2:=by
 rw [DH (Int.le_of_lt (Int.pow_pos (by omega))) hm,LA t 64 m ht];omega
def mks (xs:List Int) (j b:Nat):List Int:=(List.range b).map λk=>mk (j+k) xs
def qax (xs:List Int) (j b:Nat):mks xs j (b+1)=mk j xs::mks xs (j+1) b:=by
 unfold mks;rw [List.range_succ_eq_map,map_cons,map_map,Nat.add_zero];congr 1;refine List.map_congr_left λk _=>?_;simp only [Function.comp_def];congr 1;omega
def C1 {xs:List Int} {t:Nat} (ht:t<64):∀ (b j:Nat),ql (mks xs j b) (2 ^ t)=xs.getD t 0/2 ^ j%2 ^ b
 |0,j=>by simp [mks,ql,qw]
 |b+1,j=>by
  rw [qax,Q4,qdg (RK j xs).1 ht,qbT,C1 ht b (j+1),Int.pow_succ 2 j,← Int.ediv_ediv_of_nonneg (show (0:Int)<=2 ^ j from Int.le_of_lt (Int.pow_pos (by omega)))];generalize xs.getD t 0/2 ^ j=y;have p:(0:Int)<2 ^ b:=Int.pow_pos (by omega);rw [Int.pow_succ,Int.mul_comm (2 ^ b) 2];have e:=Int.emod_add_mul_ediv y 2;have e2:=Int.emod_add_mul_ediv (y/2) (2 ^ b);have r:=Int.emod_nonneg (y/2) (show (2:Int) ^ b≠0 by omega);have r2:=Int.emod_lt_of_pos (y/2) p;have key:y=(y%2+2*(y/2%2 ^ b))+2*2 ^ b*(y/2/2 ^ b):=by
   rw [Int.mul_assoc];omega
  have:y%(2*2 ^ b)=(y%2+2*(y/2%2 ^ b))%(2*2 ^ b):=by
   conv=>lhs;rw [key]
   rw [Int.add_mul_emod_self_left]
  exact (this.trans (Int.emod_eq_of_lt (by omega) (by omega))).symm
def T1 (w:Nat):List Int:=(List.range w).map λt=>(2:Int) ^ t
def MG (w:Nat):T1 (w+1)=T1 w++[2 ^ w]:=by unfold T1;rw [List.range_succ,List.map_append];rfl
def V6 (w:Nat):(T1 w).length=w:=by simp [T1]
def NG (w:Nat):∀ m∈T1 w,0<=m:=λm hm=>by
 obtain ⟨t,_,rfl⟩:=mem_map.mp hm;exact Int.le_of_lt (Int.pow_pos (by omega))
def LM:∀ (w s:Nat),s<2 ^ w->Builtin.bitXor (s:Int) (2 ^ w)=(s:Int)+2 ^ w
 |0,s,h=>by
  obtain rfl:s=0:=by simpa using h
  rfl
 |w+1,s,h=>by
  have p:(0:Int)<2 ^ w:=Int.pow_pos (by omega);have st:=YE (x:=(s:Int)) (y:=2 ^ (w+1)) (by omega) (by rw [Int.pow_succ];omega);have ih:=LM w (s/2) (by rw [Nat.pow_succ] at h;omega);have e:(2:Int) ^ (w+1)/2=2 ^ w:=by rw [Int.pow_succ];omega
  have e2:((s/2:Nat):Int)=(s:Int)/2:=by omega
  rw [e2] at ih;rw [e,ih] at st;rw [Int.pow_succ] at st ⊢;omega
def X7:∀ (w s:Nat),s<2 ^ w->nm s (T1 w)=(s:Int)
 |0,s,h=>by
  obtain rfl:s=0:=by simpa using h
  rfl
 |w+1,s,h=>by
  rw [MG,U3,V6];by_cases c:s<2 ^ w
  ·rw [Nat.div_eq_of_lt c,X7 w s c];simp only [Nat.zero_mod,Int.natCast_zero,Int.mul_zero];exact qh7 (by omega)
  ·obtain ⟨r,rfl⟩:∃ r,s=2 ^ w+r:=⟨s-2 ^ w,by omega⟩
   have hr:r<2 ^ w:=by rw [Nat.pow_succ] at h;omega
   have e1:(2 ^ w+r)/2 ^ w%2=1:=by
    rw [Nat.add_div_left _ (Nat.pow_pos (by omega)),Nat.div_eq_of_lt hr]
   rw [e1,RM w (T1 w) (V6 w) (r:=r) λt ht=>C7 ht,X7 w r hr];simp only [Int.natCast_one,Int.mul_one];rw [LM w r hr];simp;omega
def qaz {xs:List Int} {b x:Nat} (hb:∀ n∈xs,0<=n/\n<2 ^ b) (hl:xs.length<=60) (hx:x<2 ^ xs.length):ql (mks xs 0 b) (x:Int)=nm x xs:=by
 have nn:∀ m∈mks xs 0 b,0<=m:=λm hm=>by
  obtain ⟨k,_,rfl⟩:=mem_map.mp hm;exact (RK _ xs).1
 have e:(T1 xs.length).map (ql (mks xs 0 b))=xs:=by
  refine List.ext_getElem? λt=>?_;unfold T1;rw [map_map,getElem?_map];by_cases c:t<xs.length
  ·rw [List.getElem?_range c,getElem?_eq_getElem c,Option.map_some,Function.comp_def];simp only;rw [C1 (by omega)];have:=hb _ (List.getElem_mem c);rw [getD_eq_getElem?_getD,getElem?_eq_getElem c,Option.getD_some,Int.pow_zero,Int.ediv_one,Int.emod_eq_of_lt this.1 this.2]
  ·rw [List.getElem?_eq_none (by simpa using c),List.getElem?_eq_none (by simpa using c)];rfl
 have f:=qcZ nn xs.length (T1 xs.length) (V6 _) (NG _);rw [e] at f;have g1:=qiz xs.length (T1 xs.length) (V6 _) (NG _) x hx;have g2:=qiz xs.length xs rfl (λm hm=>(hb m hm).1) x hx;rw [X7 _ _ hx] at g1;rw [← f,getElem?_map,g1] at g2;exact Option.some.inj g2
def p2 {t:Nat} (h:t<=8):0<(2:Int) ^ t/\(2:Int) ^ t<=256:=by
 have h1:2 ^ t<=2 ^ 8:=Nat.pow_le_pow_right (by omega) h;have h2:0<2 ^ t:=Nat.pow_pos (by omega);have h3:((2 ^ t:Nat):Int)=2 ^ t:=by simp
 omega
def TJ {t:Nat} (h:t<=8):qi [.int (t:Int)]=some (.int (2 ^ t)):=by
 have e:L2.atI [PyData.int 1,.int 2,.int 4,.int 8,.int 16,.int 32,.int 64,.int 128,.int 256] (t:Int)=some (.int (2 ^ t)):=by
  have:t=0\/t=1\/t=2\/t=3\/t=4\/t=5\/t=6\/t=7\/t=8:=by omega
  rcases this with rfl|rfl|rfl|rfl|rfl|rfl|rfl|rfl|rfl<;>rfl
 rw [SR]
 try simp only [Pu.pwA,J6,e]
def qld {c:Nat} (h:c<512):jb [.int (c:Int)]=some (.bool (decide (pop 64 c%2=1))):=by
 rw [R7]
 try simp (disch:=omega) only [Pu.pwA,JL,qey]
 refine DK (Q:=λo=>Z2 false o=_) (VX 0 (9:Int).toNat) (λi ρ=>∃ s2,ρ=[.sh (.int (c:Int)),.sh (.int ((pop i c:Nat):Int)),s2]) ⟨_,rfl⟩ ?_ ?_
 ·rintro i x ρ hx ⟨s2,rfl⟩;obtain ⟨hi,rfl⟩:=RC hx;have pi:=p2 (show i<=8 by omega);have e2:((pop i c:Nat):Int)+(c:Int)/2 ^ i%2=((pop (i+1) c:Nat):Int):=by rw [DR];simp
  try simp (disch:=omega) only [Pu.pwA,Int.zero_add,TJ (show i<=8 by omega),LR,RO,e2]
  exact ⟨_,rfl⟩
 ·rintro ρ ⟨s2,rfl⟩;have e:decide (pop 64 c%2=1)=decide (((pop 9 c:Nat):Int)%2=1):=by
   rw [MK (i:=9) (j:=64) (by omega) (by omega)];by_cases hy:pop 9 c%2=1
   ·have:((pop 9 c:Nat):Int)%2=1:=by omega
    simp [hy,this]
   ·have:¬ ((pop 9 c:Nat):Int)%2=1:=by omega
    simp [hy,this]
  have l9:(VX 0 (9:Int).toNat).length=9:=by simp [VX]
  rw [l9]
  try simp (disch:=omega) only [Pu.pwA,RO,e]
def qlV {h l:Nat} {ms:List Int} {n:Int} (hm:∀ m∈ms,0<=m/\m<512) (hl:ms.length<=8):zD [dlD (.bits h l ms),.int n]=some (.int (ql ms n)):=by
 rw [CS]
 try simp only [Pu.pwA,ZS,dlD,DS]
 refine DK (Q:=λo=>Z2 false o=_) (ms.zipIdx 0) (λi ρ=>∃ s3 s4,ρ=[.sh (dlD (.bits h l ms)),.sh (.int n),.sh (.int (qw n 0 (ms.take i))),s3,s4]) ⟨_,_,rfl⟩ ?_ ?_
 ·rintro i p ρ hp ⟨s3,s4,rfl⟩;rw [List.getElem?_zipIdx] at hp;obtain ⟨m,hx,rfl⟩:=Option.map_eq_some_iff.mp hp;have hi:=(List.getElem?_eq_some_iff.mp hx).1;have tk:ms.take (i+1)=ms.take i++[m]:=by rw [List.take_succ,hx];rfl
  have mm:=hm m (mem_of_getElem? hx);have ln:(ms.take i).length=i:=by simp;omega
  have r:=PyProof.Rows.bitAnd_range n mm.1;obtain ⟨c,hc⟩:=Int.eq_ofNat_of_zero_le r.1;have od:V7 n m=decide (pop 64 c%2=1):=by unfold V7;rw [hc];rfl
  have sn:=KG n m (ms.take i) 0;rw [ln,Nat.zero_add] at sn;by_cases o:V7 n m=true
  ·rw [tk,sn,o];rw [o] at od
   try simp only [Pu.pwA,hc,qld (c:=c) (by omega),← od,Nat.zero_add,TJ (show i<=8 by omega)]
   exact ⟨_,_,rfl⟩
  ·rw [Bool.not_eq_true] at o;rw [tk,sn,o,if_neg Bool.false_ne_true,Int.add_zero];rw [o] at od
   try simp only [Pu.pwA,hc,qld (c:=c) (by omega),← od]
   exact ⟨_,_,rfl⟩
 ·rintro ρ ⟨s3,s4,rfl⟩;rw [List.length_zipIdx,List.take_length]
  try simp only [Pu.pwA,ql]
def qkn {y:Int} (h:0<=y):Builtin.bitAnd y 1=y%2:=by
 have a:=DY h (show (0:Int)<=1 by omega);have r:=PyProof.Rows.bitAnd_range (y/2) (show (0:Int)<=0 by omega);rw [show (1:Int)/2=0 from rfl,show (1:Int)%2=1 from rfl] at a;omega
def chs (k t:Nat) (xs:List Int):List Int:=((xs.zipIdx t).filter λp=>decide (p.1/2 ^ k%2=1)).map λp=>(2:Int) ^ p.2
def KI (k:Nat):∀ (xs:List Int) (t:Nat),(chs k t xs).sum=2 ^ t*mk k xs
 |[],t=>by simp [chs,mk]
 |n::r,t=>by
  have ih:=KI k r (t+1);unfold chs at ih ⊢;rw [List.zipIdx_cons,List.filter_cons,mk];rw [Int.pow_succ,Int.mul_assoc] at ih;by_cases c:n/2 ^ k%2=1
  ·simp only [c,decide_true,if_true,map_cons,List.sum_cons,ih];rw [Int.mul_add];simp
  ·have c0:n/2 ^ k%2=0:=by omega
   simp only [c,decide_false,Bool.false_eq_true,if_false,ih];rw [c0,Int.zero_add]
def qcW {k t:Nat} {xs:List Int} {x:Int} (h:x∈chs k t xs):∃ i,i<t+xs.length/\x=2 ^ i:=by
 obtain ⟨p,hp,rfl⟩:=mem_map.mp h;have:=(List.mem_filter.mp hp).1;obtain ⟨n,i⟩:=p;have:=List.mem_zipIdx this;exact ⟨i,by omega,rfl⟩
def qlH {xs:List Int} {k:Nat} (hx:∀ n∈xs,0<=n/\n<1000) (hl:xs.length<=8):zY [.list (xs.map PyData.int),.int k]=some (.int (mk k xs)):=by
 rw [R9]
 try simp only [Pu.pwA,JV]
 have cl:(chs k 0 xs).length<=xs.length:=by
  unfold chs;rw [length_map];have:=List.length_filter_le (λp:Int×Nat=>decide (p.1/2 ^ k%2=1)) (xs.zipIdx 0);rw [List.length_zipIdx] at this;exact this
 rw [EX (ds:=(xs.zipIdx 0).map λp=>PyData.tuple [.int (p.2:Int),.int p.1]) (fs:=(chs k 0 xs).map PyData.int)]
 ·have so:CB (chs k 0 xs):=by
   refine ⟨by omega,λx hx=>?_⟩;obtain ⟨i,hi,rfl⟩:=qcW hx;have:=p2 (t:=i) (by omega);omega
  try simp only [Pu.pwA,qb5 so,KI,Int.pow_zero,Int.one_mul]
 ·try simp only [Pu.pwA,DS]
 ·unfold chs;rw [map_map];refine ET λp hp=>?_;obtain ⟨n,i⟩:=p;have mm:=List.mem_zipIdx hp;have hi:i<xs.length:=by omega
  have hn:n∈xs:=by have:=mm.2.2;rw [this];exact List.getElem_mem _
  have h0:=(hx n hn).1;have e1:cI (λ_ j=>0<=j) (λi j=>i/2 ^ j.toNat) (.int n) (.int (k:Int))=some (.int (n/2 ^ k)):=by rw [qaY (by omega),Int.toNat_natCast]
  have e2:cI ED (λi j=>i*2 ^ j.toNat) (.int 1) (.int (i:Int))=some (.int (2 ^ i)):=by rw [KW ⟨by omega,by omega,by decide⟩,Int.one_mul,Int.toNat_natCast]
  have e3:Builtin.bitAnd (n/2 ^ k) 1=n/2 ^ k%2:=qkn (Int.ediv_nonneg h0 (Int.le_of_lt (Int.pow_pos (by omega))));by_cases c:n/2 ^ k%2=1
  ·try simp only [Pu.pwA,WR,e1,e2,e3,c,decide_true,Function.comp_def]
  ·try simp only [Pu.pwA,WR,e1,e3,c,decide_false,Function.comp_def]
 ·rw [length_map];omega
def EL (xs:List Int):Int:=match xs with|[]=>0|m::r=>mx (m::r)
def K8 {xs:List Int}:∀ n∈xs,n<=EL xs:=λn hn=>by
 cases xs with
 |nil=>cases hn
 |cons m r=>exact RX hn
def CD {xs:List Int}:EL xs=0\/EL xs∈xs:=by
 cases xs with
 |nil=>exact .inl rfl
 |cons m r=>exact .inr (XX (by simp))
def qlN {h l:Nat} {xs:List Int} (hx:∀ n∈xs,0<=n/\n<32) (hl:xs.length<=8):qG [.int h,.int l,.list (xs.map PyData.int)]=some (dlD (.bits h l (mks xs 0 (Builtin.Int.intBits (EL xs))))):=by
 have b0:0<=EL xs/\EL xs<32:=by
  rcases CD (xs:=xs) with e|e
  ·omega
  ·exact hx _ e
 have e5:(2:Int) ^ 5=32:=by decide
 have ib:=qdV (k:=5) b0.1 (by omega);rw [WK];have md:TX (.list (xs.map PyData.int)) (.int 0)=some (.int (EL xs)):=by rw [qg9];cases xs<;>rfl
 try simp only [Pu.pwA,jK,N0,md]
 generalize Builtin.Int.intBits (EL xs)=b at *;rw [EX (ds:=(VX 0 b).map PyData.int) (fs:=(mks xs 0 b).map PyData.int)]
 ·try simp only [Pu.pwA,dlD]
 ·try simp (disch:=omega) only [Pu.pwA,qey,Int.toNat_natCast]
 ·unfold VX mks;rw [map_map,map_map];refine X9 λk hk=>?_
  try simp only [Pu.pwA,WR,Nat.zero_add,Int.zero_add,qlH (λn hn=>⟨(hx n hn).1,by have:=(hx n hn).2;omega⟩) hl,Function.comp_def]
 ·simp [mks];omega
def qly {xs:List Int} {x:Nat} (hx:∀ n∈xs,0<=n/\n<32) (hl:xs.length<=8):ja [.list (xs.map PyData.int),.int (x:Int)]=some (.int (nm x xs)):=by
 rw [TV]
 try simp only [Pu.pwA,JM,DS]
 refine DK (Q:=λo=>Z2 false o=_) (xs.zipIdx 0) (λj ρ=>∃ s3 s4,ρ=[.sh (.list (xs.map PyData.int)),.sh (.int (x:Int)),.sh (.int (nm x (xs.take j))),s3,s4]) ⟨_,_,rfl⟩ ?_ ?_
 ·rintro j p ρ hp ⟨s3,s4,rfl⟩;rw [List.getElem?_zipIdx] at hp;obtain ⟨m,hm,rfl⟩:=Option.map_eq_some_iff.mp hp;have hj:=(List.getElem?_eq_some_iff.mp hm).1;have tk:xs.take (j+1)=xs.take j++[m]:=by rw [List.take_succ,hm];rfl
  have pj:=p2 (show j<=8 by omega);have e2:(x:Int)/2 ^ j%2=((x/2 ^ j%2:Nat):Int):=by simp
  have e3:((x/2 ^ j%2:Nat):Int)<2:=by omega
  have ln:(xs.take j).length=j:=by simp;omega
  have sn:=U3 x (xs.take j) m;rw [ln] at sn;have e4:cI YA (·*·) (.int m) (.int ((x/2 ^ j%2:Nat):Int))=some (.int (m*((x/2 ^ j%2:Nat):Int))):=qgN (by omega)
  try simp (disch:=omega) only [Pu.pwA,Nat.zero_add,TJ (show j<=8 by omega),LR,RO,e2,e4]
  rw [tk,sn];exact ⟨_,_,rfl⟩
 ·rintro ρ ⟨s3,s4,rfl⟩;rw [List.length_zipIdx,List.take_length]
  try simp only [Pu.pwA]
def WB {xs:List Int} (hx:∀ n∈xs,0<=n/\n<32):0<=EL xs/\EL xs<32:=by
 rcases CD (xs:=xs) with e|e
 ·omega
 ·exact hx _ e
def qjV {m:Int} (h0:0<=m):m<2 ^ (Builtin.Int.intBits m):=by
 unfold Builtin.Int.intBits;split
 ·rename_i c;have:m=0:=by simpa using c
  subst this;decide
 ·have:=Nat.lt_log2_self (n:=m.natAbs);have e:((2 ^ (m.natAbs.log2+1):Nat):Int)=2 ^ (m.natAbs.log2+1):=by simp
  omega
def qb9 {h l:Nat} {xs:List Int} (h4:h<=4) (l4:l<=4) (hx:∀ n∈xs,0<=n/\n<32) (hl:xs.length=h+l):(Dl.bits h l (mks xs 0 (Builtin.Int.intBits (EL xs)))).Ok:=by
 have b0:=WB hx;have e5:(2:Int) ^ 5=32:=by decide
 have ib:=qdV (k:=5) b0.1 (by omega);refine ⟨h4,l4,by simp [mks];omega,λm hm=>?_⟩;obtain ⟨k,_,rfl⟩:=mem_map.mp hm;have:=RK (0+k) xs;rw [hl] at this;exact this
def qhS {xs:List Int} {x:Nat} (hx:∀ n∈xs,0<=n/\n<32) (hl:xs.length<=8) (h:x<2 ^ xs.length):ql (mks xs 0 (Builtin.Int.intBits (EL xs))) (x:Int)=nm x xs:=by
 refine qaz (λn hn=>⟨(hx n hn).1,?_⟩) (by omega) h;exact Int.lt_of_le_of_lt (K8 n hn) (qjV (WB hx).1)
def qlQ {h l:Nat} {xs:List Int} (h4:h<=4) (l4:l<=4) (hx:∀ n∈xs,0<=n/\n<32) (hl:xs.length=h+l):qu [dlD (.bits h l (mks xs 0 (Builtin.Int.intBits (EL xs)))),.list (xs.map PyData.int)]=some (.bool true):=by
 have ok:=qb9 h4 l4 hx hl;obtain ⟨ms,hms⟩:∃ ms,ms=mks xs 0 (Builtin.Int.intBits (EL xs)):=⟨_,rfl⟩
 have le:=λx (h:x<2 ^ xs.length)=>qhS hx (by omega) h;rw [← hms] at ok le ⊢;have mb:∀ m∈ms,0<=m/\m<512:=λm hm=>⟨(ok.2.2.2 m hm).1,Int.lt_of_lt_of_le (ok.2.2.2 m hm).2 (Int.le_trans (Bk.SK (show h+l<=8 by omega)) (by decide))⟩
 have m5:=ok.2.2.1;have tw:=TJ (t:=xs.length) (by omega);have tl:=TJ (t:=l) (by omega);have pw:=p2 (t:=xs.length) (by omega);have pl:=p2 (t:=l) (by omega);have e2:((2:Int) ^ xs.length).toNat=2 ^ xs.length:=by
  have:((2 ^ xs.length:Nat):Int)=2 ^ xs.length:=by simp
  omega
 rw [JR]
 try simp (disch:=omega) only [Pu.pwA,zq,length_map,tw,qey,e2]
 refine DK (Q:=λo=>Z2 false o=_) (VX 0 (2 ^ xs.length)) (λ_ ρ=>∃ s2 s3 s4,ρ=[.sh (dlD (.bits h l ms)),.sh (.list (xs.map PyData.int)),s2,s3,s4]) ⟨_,_,_,rfl⟩ ?_ ?_
 ·rintro i x ρ hx' ⟨s2,s3,s4,rfl⟩;obtain ⟨hi,rfl⟩:=RC hx';rw [Int.zero_add];have bo:=qlK (i:=(i:Int)/2 ^ l) (j:=(i:Int)%2 ^ l) ok ⟨Int.ediv_nonneg (by omega) (by omega),?_⟩ ⟨Int.emod_nonneg _ (by omega),Int.emod_lt_of_pos _ (by omega)⟩
  ·have e3:(i:Int)/2 ^ l*2 ^ l+(i:Int)%2 ^ l=(i:Int):=by rw [Int.mul_comm];exact Int.mul_ediv_add_emod _ _
   rw [e3,le i hi] at bo;have lb:=qlV (h:=h) (l:=l) (n:=(i:Int)) mb (by omega);rw [le i hi] at lb;have ld:=qly (xs:=xs) (x:=i) hx (by omega);have tl':qi [.int (l:Int)]=some (.int (2 ^ l)):=tl;simp only [dlD] at bo lb ⊢
   try simp (disch:=omega) only [Pu.pwA,tl',LR,RO,ld,lb,bo,decide_true,Bool.not_true]
   exact ⟨_,_,_,rfl⟩
  ·rw [Int.ediv_lt_iff_lt_mul (by omega),← Int.pow_add];have:((2 ^ xs.length:Nat):Int)=2 ^ xs.length:=by simp
   rw [hl] at this hi;omega
 ·rintro ρ ⟨s2,s3,s4,rfl⟩
  try simp only [Pu.pwA]
def qdE (ns:List Int):(ns.map PyData.int).all SC=true:=by simp [SC]
def qgt {xs:List Int} (hx:∀ n∈xs,0<=n/\n<32):mx (xs++[0])=EL xs:=by
 have m:=XX (ns:=xs++[0]) (by simp);have r:=WB hx;refine Int.le_antisymm ?_ ?_
 ·rcases List.mem_append.mp m with h|h
  ·exact K8 _ h
  ·rw [List.mem_singleton.mp h];exact r.1
 ·rcases CD (xs:=xs) with e|e
  ·rw [e];exact RX (by simp)
  ·exact RX (by simp [e])
def qiB {M:Int} (h0:0<=M) (h1:M<32):(((VX 0 5).filter λt=>decide ((2:Int) ^ t.toNat<=M)).length:Int)=(Builtin.Int.intBits M:Int):=by
 obtain ⟨m,rfl⟩:=Int.eq_ofNat_of_zero_le h0;have key:∀ m:Fin 32,(((VX 0 5).filter λt=>decide ((2:Int) ^ t.toNat<=((m.val:Nat):Int))).length:Int)=(Builtin.Int.intBits ((m.val:Nat):Int):Int):=by decide +kernel
 exact key ⟨m,by omega⟩
def qhw {h l:Nat} {ms:List Int} (hl:ms.length<=5):Bk.JD 3 (dlD (.bits h l ms)):=by
 refine ⟨by simp,λd hd=>?_⟩;simp only [mem_cons,not_mem_nil,or_false] at hd;rcases hd with rfl|rfl|rfl|rfl
 ·simp [Bk.JD]
 ·simp [Bk.JD]
 ·simp [Bk.JD]
 ·refine ⟨by simp;omega,λd hd=>?_⟩;obtain ⟨i,_,rfl⟩:=mem_map.mp hd;simp [Bk.JD]
def qew:∀ k:Nat,k<=60->qau.w [.un,.sh (.int k),.un,.un,.un,.un,.un,.un,.un,.un] 0 okW:=by
 intro k hk;unfold qau;refine WW λY1 h1=>?_
 try simp only [Pu.pwA]
 refine ⟨by omega,by omega,λa a0 a1=>⟨by omega,by omega,λb b0 b1=>?_⟩⟩
 try simp only [Pu.pwA]
 rw [h1];obtain ⟨h,rfl⟩:=Int.eq_ofNat_of_zero_le a0;obtain ⟨l,rfl⟩:=Int.eq_ofNat_of_zero_le b0;refine WW λY2 h2=>?_
 try simp only [Pu.pwA]
 refine ⟨by omega,by omega,λc c0 c1=>?_⟩;refine qcR (ks:=[2,8,32]) c0 (by simpa using c1) λmost hm=>?_;have hm2:2<=most/\most<=32:=by simp at hm;omega
 try simp only [Pu.pwA]
 rw [h2];refine WW λY3 h3=>?_
 try simp (disch:=omega) only [Pu.pwA,qey]
 refine ⟨by simp [VX];omega,?_⟩;refine LO (R:=λn:Int=>0<=n/\n<32) (gd:=PyData.int) (c:=1) (N:=100) (VX 0 ((h:Int)+(l:Int)).toNat) _ _ (λx _ n Q hn hq=>?_) DO.mn mnT (by simp [VX];omega) λxs lx hx=>?_
 ·refine ⟨_,rfl,?_⟩
  try simp only [Pu.pwA,DO]
  exact ⟨by omega,by omega,λd d0 d1=>hq d ⟨d0,by omega⟩⟩
 rw [RG] at lx;have lx':xs.length=h+l:=by omega
 refine ⟨by simp;omega,?_⟩
 try simp only [Pu.pwA]
 rw [h3];have r:=WB hx;have db:=qlN (h:=h) (l:=l) (xs:=xs) hx (by omega);have ok:=qb9 (h:=h) (l:=l) (by omega) (by omega) hx lx';have isd:=qjf ok;have wr:=qlQ (h:=h) (l:=l) (by omega) (by omega) hx lx';have dbD:=qhw (h:=h) (l:=l) ok.2.2.1;have ml:(mks xs 0 (Builtin.Int.intBits (EL xs))).length=Builtin.Int.intBits (EL xs):=by simp [mks]
 refine WW λY4 h4=>?_
 try simp only [Pu.pwA,qet]
 refine ⟨_,rfl,qdE _,?_⟩;rw [h4];refine WW λY5 h5=>?_
 try simp only [Pu.pwA,db]
 rw [h5];refine WW λY6 h6=>?_
 try simp only [Pu.pwA]
 rw [EX (ds:=(VX 0 5).map PyData.int) (fs:=((VX 0 5).filter λt=>decide ((2:Int) ^ t.toNat<=EL xs)).map PyData.int)]
 rotate_left
 ·try simp (disch:=omega) only [Pu.pwA,qey]
  rfl
 ·refine ET λt ht=>?_;have tt:=qaP ht;obtain ⟨t',rfl⟩:=Int.eq_ofNat_of_zero_le tt.1;have e1:qfd (.list (xs.map PyData.int)) (.list [.int 0])=some (.list ((xs++[0]).map PyData.int)):=by rw [qhB (by simp;omega),List.map_append];rfl
  have e2:=qjL (xs:=xs++[0]) (by simp);rw [qgt hx] at e2;have tw:=TJ (t:=t') (by omega);rw [Int.toNat_natCast];by_cases c:(2:Int) ^ t'<=EL xs
  ·try simp only [Pu.pwA,WR,e1,e2,tw,c,decide_true]
  ·try simp only [Pu.pwA,WR,e1,e2,tw,c,decide_false]
 ·rw [length_map];have:=List.length_filter_le (λt:Int=>decide ((2:Int) ^ t.toNat<=EL xs)) (VX 0 5);rw [RG] at this;omega
 try simp only [Pu.pwA,length_map,qiB r.1 r.2]
 rw [h6];refine WW λY7 h7=>?_;generalize hms:mks xs 0 (Builtin.Int.intBits (EL xs))=ms at *;have c1:slD (.tuple [.str "bits",.int h,.int l,.tuple (ms.map PyData.int)]) none (some 3)=some (.tuple [.str "bits",.int h,.int l]):=DT (by simp [HT.sIx]);have c2:eqD true (.tuple [.str "bits",.int (h:Int),.int (l:Int)]) (.tuple [.str "bits",.int (h:Int),.int (l:Int)])=some (.bool false):=by
  have z:ME (.tuple [.str "bits",.int (h:Int),.int (l:Int)]) (.tuple [.str "bits",.int (h:Int),.int (l:Int)])=none:=rfl;unfold eqD;rw [z];simp only;rw [jU (by simp [dpt,qbc])];simp [QH,Q1]
 have s3:jD "tuple" "tuple" = true:=rfl;simp only [dlD] at isd wr db dbD ⊢
 try simp only [Pu.pwA,c1,c2,isd,s3,Bool.not_true,bne_self_eq_false]
 rw [h7];refine WW λY8 h8=>?_
 try simp only [Pu.pwA,ml,length_map,wr,qdO,decide_true,Bool.not_true]
 rw [h8]
 try simp only [Pu.pwA,db,qdp (n:=3) dbD]
end K49
namespace K49
open PySem L2 L3 Bk
abbrev qfc : Env := { scope := PySem.Challenge.pw_bankwalk_k49_dealings_by_images.main.scope,locals := mainNs,globals := mainNs,cells := [],code := .ref 13,frame := some 14 }
abbrev KP : List Stmt := PySem.W.behindTheImports PySem.Challenge.pw_bankwalk_k49_dealings_by_images
abbrev D8:Code:=.body KP qfc
abbrev qeo:List Frame:=[PySem.W.topFrame ⟨0,0,0,0⟩]
def qL:Obj:=Hd.oT []
def ji:Obj:=⟨.none,none,.fields #[],#[]⟩
def qiU:Obj:=Hd.oC [.str "<module>" 182,.str "<module>" 183,.str "/claim/cut.py" 184,.int (1) 0,.int (0) 0,.int (0) 0,.int (0) 0,.int (0) 0,.ref 11,.bool false,.int (181) 0,.ref 12,.none,.none,.none,.none,.int (185) 0,.int (1) 0,.str "/claim/cut.py" 186]
def qiK:Obj:=⟨.type "frame",none,.plain,#[some (.ref 13),some (.ref 3),some (.ref 3),none,some (.str "__main__" 164),none,some (.ref 0)]⟩
def qep (P:Params):Heap:=⟨Array.mk [PySem.W.boot_o_0 P,PySem.W.boot_o_1 P,PySem.W.boot_o_2 P,PySem.W.boot_o_3 P,PySem.W.boot_o_4 P,PySem.W.boot_o_5 P,PySem.W.boot_o_6 P,PySem.W.boot_o_7 P,PySem.W.boot_o_8 P,PySem.W.boot_o_9 P,PySem.W.boot_o_10 P,qL,ji,qiU,qiK],{ }⟩
def qh3 (P:Params):PySem.W.BT:=(Hd.nd (PySem.W.boot_o_0 P) (Hd.nd (PySem.W.boot_o_1 P) (Hd.nd (PySem.W.boot_o_3 P) (Hd.lf (PySem.W.boot_o_7 P)) (Hd.lf qL)) (Hd.nd (PySem.W.boot_o_5 P) (Hd.lf (PySem.W.boot_o_9 P)) (Hd.lf qiU))) (Hd.nd (PySem.W.boot_o_2 P) (Hd.nd (PySem.W.boot_o_4 P) (Hd.lf (PySem.W.boot_o_8 P)) (Hd.lf ji)) (Hd.nd (PySem.W.boot_o_6 P) (Hd.lf (PySem.W.boot_o_10 P)) (Hd.lf qiK))))
set_option maxRecDepth 100000 in
set_option maxHeartbeats 0 in
def qem (w : World) (os : OsState) : PySem.W.topGo treeTable PySem.Challenge.pw_bankwalk_k49_dealings_by_images w 11 (some (Value.ref 6)) 12 ⟨PySem.W.boot_heap w.params,Array.mk [],PySem.W.boot_drawn,PySem.W.boot_toks,os⟩ (PySem.W.topStub PySem.Challenge.pw_bankwalk_k49_dealings_by_images) = some (⟨qep w.params,#[],{ },187,os⟩,⟨denote treeTable D8,D8,⟨0,0,0,0⟩,qeo⟩) := by kernel_rfl
set_option maxRecDepth 100000 in
set_option maxHeartbeats 0 in
def qhM (w : World) (os : OsState) : PySem.W.segRun treeTable PySem.Challenge.pw_bankwalk_k49_dealings_by_images w 11 (some (Value.ref 6)) 1 1 ⟨qep w.params,#[],{ },187,os⟩ (PySem.W.blockOf KP qfc D8 ⟨0,0,0,0⟩ qeo) = some (.next,(⟨qh3 w.params,15,{ },#[],{ },187,os⟩ : PySem.W.SharedT).abs,D8,⟨0,0,0,0⟩) := by kernel_rfl
def qlB (P:Params):Obj:=Hd.oD P 22 [(.str "__name__" 165,.str "bankwalk.dealings" 253),(.str "__doc__" 166,.none),(.str "__package__" 167,.none),(.str "__loader__" 168,.builtin "__main__.__loader__#opaque"),(.str "__spec__" 169,.none),(.str "__annotations__" 170,.ref 6),(.str "__builtins__" 171,.ref 4),(.str "__file__" 173,.str "/claim/cut.py" 172),(.str "__cached__" 174,.none),(.str "is_number" 195,.ref 21),(.str "is_at_least" 203,.ref 28),(.str "are_at_least" 209,.ref 33),(.str "is_pair" 216,.ref 40),(.str "BankError" 236,.ref 50),(.str "NoWord" 252,.ref 63),(.str "share_no_divisor" 262,.ref 72),(.str "is_skew" 269,.ref 79),(.str "is_rests" 280,.ref 86),(.str "is_bits" 286,.ref 91),(.str "is_bank_row" 292,.ref 96),(.str "is_table" 298,.ref 101),(.str "is_joined" 305,.ref 108)]
def qli:Obj:=⟨.none,none,.fields #[.int (2) 0,.int (0) 0,.ref 20,.int (4) 0,.int (0) 0,.ref 27,.int (6) 0,.int (0) 0,.ref 32,.int (8) 0,.int (0) 0,.ref 39,.int (11) 0,.int (0) 0,.ref 46,.int (13) 0,.int (0) 0,.ref 59,.int (16) 0,.int (0) 0,.ref 71,.int (20) 0,.int (0) 0,.ref 78,.int (22) 0,.int (0) 0,.ref 85,.int (27) 0,.int (0) 0,.ref 90,.int (34) 0,.int (0) 0,.ref 95,.int (38) 0,.int (0) 0,.ref 100,.int (47) 0,.int (0) 0,.ref 107],#[]⟩
def qlg:Obj:=Hd.oN QQ 192
def qk5:Obj:=Hd.oG "is_number" zW
def qjb:Obj:=Hd.oK "is_number" 189 2 1 181 15 16 .none (.ref 17) (.ref 18) 19 193 194
def qds:Obj:=Hd.oF "is_number" zW (.str "bankwalk.basics" 187) (.ref 20)
def qfI:Obj:=Hd.oN zG 199
def qeP:Obj:=Hd.oG "is_at_least" zy
def qc4:Obj:=Hd.oK "is_at_least" 196 4 2 181 22 23 .none (.ref 24) (.ref 25) 26 201 202
def qdB:Obj:=Hd.oF "is_at_least" zy (.str "bankwalk.basics" 187) (.ref 27)
def qhX:Obj:=Hd.oG "are_at_least" zj
def qcT:Obj:=Hd.oK "are_at_least" 204 6 2 181 29 30 .none .none .none 31 207 208
def qcO:Obj:=Hd.oF "are_at_least" zj (.str "bankwalk.basics" 187) (.ref 32)
def qgi:Obj:=Hd.oN QQ 213
def qfb:Obj:=Hd.oG "is_pair" QA
def qdA:Obj:=Hd.oK "is_pair" 210 8 1 181 34 35 .none (.ref 36) (.ref 37) 38 214 215
def qdK:Obj:=Hd.oF "is_pair" QA (.str "bankwalk.basics" 187) (.ref 39)
def qfX:Obj:=Hd.oT [.type "ValueError"]
def qat:Obj:=⟨.type "builtin_function_or_method",none,.fields #[.builtin "type.__prepare__",.type "type"],#[]⟩
def qgd (P:Params):Obj:=Hd.oD P 4 [(.str "__module__" 226,.str "bankwalk.errors" 217),(.str "__qualname__" 228,.str "BankError" 227),(.str "__firstlineno__" 230,.int (11) 229),(.str "__static_attributes__" 231,.ref 48)]
def qgy:Obj:=Hd.oC [.str "BankError" 221,.str "BankError" 222,.str "/claim/cut.py" 223,.int (11) 0,.int (0) 0,.int (0) 0,.int (0) 0,.int (0) 0,.ref 44,.bool false,.int (181) 0,.ref 45,.none,.none,.none,.none,.int (224) 0,.int (11) 0,.str "/claim/cut.py" 225]
def qfB:Obj:=⟨.type "frame",none,.plain,#[some (.ref 46),some (.ref 3),some (.ref 43),none,some (.str "bankwalk.errors" 217),none,some (.ref 0)]⟩
def qhc (P:Params):Obj:=Hd.oD P 3 [(.str "__module__" 226,.str "bankwalk.errors" 217),(.str "__firstlineno__" 230,.int (11) 229),(.str "__static_attributes__" 231,.ref 48),(.str "__weakref__" 233,.ref 51),(.str "__doc__" 234,.none)]
def qhr:Obj:=⟨.type "type",none,.cls ({ name:=Str.ofString "BankError",bases:=[Value.type "ValueError"],  mro:=    [Value.ref 50,Value.type "ValueError",Value.type "Exception",Value.type "BaseException",Value.type "object"],  ns:=49,qualname:=Str.ofString "BankError",subclasses:=[Value.ref 63] }),#[some (.ref 41),none,some (.str "BankError" 219),some (.str "BankError" 227),some (.builtin "ValueError.__new__"),some (.bool true)]⟩
def qg2:Obj:=⟨.type "getset_descriptor",none,.fields #[.str "__weakref__" 232,.ref 50,.builtin "ExceptionGroup.__weakref__",.none],#[]⟩
def qga:Obj:=⟨.type "super",none,.fields #[.ref 50,.ref 50,.ref 50],#[]⟩
def qeW:Obj:=⟨.type "builtin_function_or_method",none,.fields #[.builtin "object.__init_subclass__",.ref 50],#[]⟩
def qhD:Obj:=Hd.oT [.ref 50]
def qhN (P:Params):Obj:=Hd.oD P 4 [(.str "__module__" 244,.str "bankwalk.errors" 217),(.str "__qualname__" 246,.str "NoWord" 245),(.str "__firstlineno__" 248,.int (13) 247),(.str "__static_attributes__" 249,.ref 61)]
def qhp:Obj:=Hd.oC [.str "NoWord" 239,.str "NoWord" 240,.str "/claim/cut.py" 241,.int (13) 0,.int (0) 0,.int (0) 0,.int (0) 0,.int (0) 0,.ref 57,.bool false,.int (181) 0,.ref 58,.none,.none,.none,.none,.int (242) 0,.int (13) 0,.str "/claim/cut.py" 243]
def qgF:Obj:=⟨.type "frame",none,.plain,#[some (.ref 59),some (.ref 3),some (.ref 56),none,some (.str "bankwalk.errors" 217),none,some (.ref 0)]⟩
def qfV (P:Params):Obj:=Hd.oD P 2 [(.str "__module__" 244,.str "bankwalk.errors" 217),(.str "__firstlineno__" 248,.int (13) 247),(.str "__static_attributes__" 249,.ref 61),(.str "__doc__" 250,.none)]
def qeI:Obj:=⟨.type "type",none,.cls ({ name:=Str.ofString "NoWord",bases:=[Value.ref 50],  mro:=    [Value.ref 63,Value.ref 50,Value.type "ValueError",Value.type "Exception",Value.type "BaseException",      Value.type "object"],  ns:=62,qualname:=Str.ofString "NoWord" }),#[some (.ref 54),none,some (.str "NoWord" 237),some (.str "NoWord" 245),some (.builtin "ValueError.__new__"),some (.bool true)]⟩
def qhY:Obj:=⟨.type "super",none,.fields #[.ref 63,.ref 63,.ref 63],#[]⟩
def qeN:Obj:=⟨.type "builtin_function_or_method",none,.fields #[.builtin "object.__init_subclass__",.ref 63],#[]⟩
def qeG:Obj:=Hd.oN JY 258
def qhh:Obj:=Hd.oG "share_no_divisor" zB
def qd1:Obj:=Hd.oK "share_no_divisor" 255 16 2 181 66 67 .none (.ref 68) (.ref 69) 70 260 261
def qde:Obj:=Hd.oF "share_no_divisor" zB (.str "bankwalk.dealings" 253) (.ref 71)
def qeO:Obj:=Hd.oN QQ 266
def qhl:Obj:=Hd.oG "is_skew" YY
def qd2:Obj:=Hd.oK "is_skew" 263 20 1 181 73 74 .none (.ref 75) (.ref 76) 77 267 268
def qdW:Obj:=Hd.oF "is_skew" YY (.str "bankwalk.dealings" 253) (.ref 78)
def qeJ:Obj:=Hd.oN TU 273
def qif:Obj:=Hd.oG "is_rests" JA
def qdy:Obj:=Hd.oK "is_rests" 270 22 1 181 80 81 .none (.ref 82) (.ref 83) 84 278 279
def qdz:Obj:=Hd.oF "is_rests" JA (.str "bankwalk.dealings" 253) (.ref 85)
def qh0:Obj:=Hd.oG "is_bits" jV
def qdw:Obj:=Hd.oK "is_bits" 281 27 1 181 87 88 .none .none .none 89 284 285
def qcQ:Obj:=Hd.oF "is_bits" jV (.str "bankwalk.dealings" 253) (.ref 90)
def qf2:Obj:=Hd.oG "is_bank_row" jO
def qdZ:Obj:=Hd.oK "is_bank_row" 287 34 3 181 92 93 .none .none .none 94 290 291
def qdk:Obj:=Hd.oF "is_bank_row" jO (.str "bankwalk.dealings" 253) (.ref 95)
def qhz:Obj:=Hd.oG "is_table" Z9
def qd5:Obj:=Hd.oK "is_table" 293 38 1 181 97 98 .none .none .none 99 296 297
def qdM:Obj:=Hd.oF "is_table" Z9 (.str "bankwalk.dealings" 253) (.ref 100)
def qiH:Obj:=Hd.oN QQ 302
def qe1:Obj:=Hd.oG "is_joined" ZF
def qdi:Obj:=Hd.oK "is_joined" 299 47 1 181 102 103 .none (.ref 104) (.ref 105) 106 303 304
def qc1:Obj:=Hd.oF "is_joined" ZF (.str "bankwalk.dealings" 253) (.ref 107)
def qgK (P:Params):PySem.W.BT:=(Hd.nd (PySem.W.boot_o_0 P) (Hd.nd (PySem.W.boot_o_1 P) (Hd.nd (qlB P) (Hd.nd (PySem.W.boot_o_7 P) (Hd.nd qL (Hd.nd qhX (Hd.lf qeI) (Hd.lf qdZ)) (Hd.nd qfB (Hd.lf qdW) .nil)) (Hd.nd ji (Hd.nd qdA (Hd.lf qd1) (Hd.lf ji)) (Hd.nd qat (Hd.lf qL) .nil))) (Hd.nd qL (Hd.nd qk5 (Hd.nd ji (Hd.lf ji) (Hd.lf qhz)) (Hd.nd qg2 (Hd.lf qL) .nil)) (Hd.nd qc4 (Hd.nd (qgd P) (Hd.lf qeO) (Hd.lf qdi)) (Hd.nd qhp (Hd.lf qcQ) .nil)))) (Hd.nd (PySem.W.boot_o_5 P) (Hd.nd (PySem.W.boot_o_9 P) (Hd.nd qlg (Hd.nd qcO (Hd.lf qeN) (Hd.lf qL)) (Hd.nd (qhc P) (Hd.lf ji) .nil)) (Hd.nd qL (Hd.nd qfX (Hd.lf qL) (Hd.lf qL)) (Hd.nd qL (Hd.lf qh0) .nil))) (Hd.nd qiU (Hd.nd qds (Hd.nd qL (Hd.lf qL) (Hd.lf qdM)) (Hd.nd qeW (Hd.lf qdy) .nil)) (Hd.nd qL (Hd.nd ji (Hd.lf qhl) .nil) (Hd.nd qL (Hd.lf ji) .nil))))) (Hd.nd (PySem.W.boot_o_2 P) (Hd.nd (PySem.W.boot_o_4 P) (Hd.nd (PySem.W.boot_o_8 P) (Hd.nd ji (Hd.nd qcT (Hd.lf qhY) (Hd.lf qdk)) (Hd.nd qL (Hd.lf qL) .nil)) (Hd.nd qfI (Hd.nd qdK (Hd.lf qde) (Hd.lf qiH)) (Hd.nd (qhN P) (Hd.lf ji) .nil))) (Hd.nd qli (Hd.nd qjb (Hd.nd qgi (Hd.lf qeG) (Hd.lf qd5)) (Hd.nd qga (Hd.lf qif) .nil)) (Hd.nd qdB (Hd.nd qL (Hd.lf qL) (Hd.lf qc1)) (Hd.nd qgF (Hd.lf qL) .nil)))) (Hd.nd (PySem.W.boot_o_6 P) (Hd.nd (PySem.W.boot_o_10 P) (Hd.nd qL (Hd.nd qL (Hd.lf qL) (Hd.lf ji)) (Hd.nd qhr (Hd.lf qeJ) .nil)) (Hd.nd qeP (Hd.nd qat (Hd.lf ji) (Hd.lf qe1)) (Hd.nd ji (Hd.lf qdw) .nil))) (Hd.nd qiK (Hd.nd qL (Hd.nd qfb (Hd.lf qhh) (Hd.lf qL)) (Hd.nd qhD (Hd.lf qdz) .nil)) (Hd.nd ji (Hd.nd qgy (Hd.lf qd2) .nil) (Hd.nd (qfV P) (Hd.lf qf2) .nil))))))
abbrev qbq:List Stmt:=(KP.drop 0).take 16
set_option maxRecDepth 100000 in
set_option maxHeartbeats 0 in
def qeS (w : World) (os : OsState) : PySem.W.segRunT treeTable PySem.Challenge.pw_bankwalk_k49_dealings_by_images w 11 (some (Value.ref 6)) 1 740 (⟨qh3 w.params,15,{ },#[],{ },187,os⟩ : PySem.W.SharedT) (PySem.W.piecesOf qbq qfc D8 ⟨0,0,0,0⟩ qeo) = some (.next,(⟨qgK w.params,109,{ },#[],{ },306,os⟩ : PySem.W.SharedT),D8,⟨47,0,48,76⟩) := by kernel_rfl
def qfO (P:Params):Obj:=Hd.oD P 45 [(.str "__name__" 165,.str "law_bankwalk_k49_dealings_by_images" 430),(.str "__doc__" 166,.none),(.str "__package__" 167,.none),(.str "__loader__" 168,.builtin "__main__.__loader__#opaque"),(.str "__spec__" 169,.none),(.str "__annotations__" 170,.ref 6),(.str "__builtins__" 171,.ref 4),(.str "__file__" 173,.str "/claim/cut.py" 172),(.str "__cached__" 174,.none),(.str "is_number" 195,.ref 21),(.str "is_at_least" 203,.ref 28),(.str "are_at_least" 209,.ref 33),(.str "is_pair" 216,.ref 40),(.str "BankError" 236,.ref 50),(.str "NoWord" 252,.ref 63),(.str "share_no_divisor" 262,.ref 72),(.str "is_skew" 269,.ref 79),(.str "is_rests" 280,.ref 86),(.str "is_bits" 286,.ref 91),(.str "is_bank_row" 292,.ref 96),(.str "is_table" 298,.ref 101),(.str "is_joined" 305,.ref 108),(.str "is_dealing" 313,.ref 115),(.str "size_of" 327,.ref 122),(.str "number_of" 338,.ref 129),(.str "is_word" 349,.ref 136),(.str "odd_in_common" 359,.ref 143),(.str "bits_bank" 365,.ref 148),(.str "parted" 376,.ref 155),(.str "joined_bank" 390,.ref 162),(.str "bank_in" 399,.ref 169),(.str "refuse_no_word" 407,.ref 176),(.str "bank_of" 415,.ref 183),(.str "mask_at" 423,.ref 188),(.str "dealing_by" 429,.ref 193),(.str "_law_mix" 440,.ref 200),(.str "_law_left" 450,.ref 207),(.str "_law_pick" 459,.ref 214),(.str "_law_same" 465,.ref 219),(.str "_law_two" 472,.ref 226),(.str "_law_odd" 481,.ref 233),(.str "_law_bank" 492,.ref 240),(.str "_law_led" 503,.ref 247),(.str "_law_words_right" 514,.ref 254),(.str "law" 520,.ref 259)]
def qjw:Obj:=⟨.none,none,.fields #[.int (2) 0,.int (0) 0,.ref 20,.int (4) 0,.int (0) 0,.ref 27,.int (6) 0,.int (0) 0,.ref 32,.int (8) 0,.int (0) 0,.ref 39,.int (11) 0,.int (0) 0,.ref 46,.int (13) 0,.int (0) 0,.ref 59,.int (16) 0,.int (0) 0,.ref 71,.int (20) 0,.int (0) 0,.ref 78,.int (22) 0,.int (0) 0,.ref 85,.int (27) 0,.int (0) 0,.ref 90,.int (34) 0,.int (0) 0,.ref 95,.int (38) 0,.int (0) 0,.ref 100,.int (47) 0,.int (0) 0,.ref 107,.int (49) 0,.int (0) 0,.ref 114,.int (62) 0,.int (0) 0,.ref 121,.int (73) 0,.int (0) 0,.ref 128,.int (76) 0,.int (0) 0,.ref 135,.int (81) 0,.int (0) 0,.ref 142,.int (88) 0,.int (0) 0,.ref 147,.int (90) 0,.int (0) 0,.ref 154,.int (93) 0,.int (0) 0,.ref 161,.int (97) 0,.int (0) 0,.ref 168,.int (108) 0,.int (0) 0,.ref 175,.int (111) 0,.int (0) 0,.ref 182,.int (115) 0,.int (0) 0,.ref 187,.int (117) 0,.int (0) 0,.ref 192,.int (121) 0,.int (0) 0,.ref 199,.int (124) 0,.int (0) 0,.ref 206,.int (128) 0,.int (0) 0,.ref 213,.int (135) 0,.int (0) 0,.ref 218,.int (143) 0,.int (0) 0,.ref 225,.int (145) 0,.int (0) 0,.ref 232,.int (150) 0,.int (0) 0,.ref 239,.int (156) 0,.int (0) 0,.ref 246,.int (161) 0,.int (0) 0,.ref 253,.int (168) 0,.int (0) 0,.ref 258],#[]⟩
def qjd:Obj:=Hd.oN je 309
def qkg:Obj:=Hd.oG "is_dealing" zK
def qhs:Obj:=Hd.oK "is_dealing" 306 49 1 181 109 110 .none (.ref 111) (.ref 112) 113 311 312
def qix:Obj:=Hd.oF "is_dealing" zK (.str "bankwalk.dealings" 253) (.ref 114)
def qjx:Obj:=Hd.oN UC 317
def qki:Obj:=Hd.oG "size_of" QE
def qit:Obj:=Hd.oK "size_of" 314 62 1 181 116 117 .none (.ref 118) (.ref 119) 120 325 326
def qio:Obj:=Hd.oF "size_of" QE (.str "bankwalk.dealings" 253) (.ref 121)
def qkp:Obj:=Hd.oN jz 331
def qjs:Obj:=Hd.oG "number_of" jg
def qeH:Obj:=Hd.oK "number_of" 328 73 2 181 123 124 .none (.ref 125) (.ref 126) 127 336 337
def qiD:Obj:=Hd.oF "number_of" jg (.str "bankwalk.dealings" 253) (.ref 128)
def qjN:Obj:=Hd.oN ZK 342
def qjH:Obj:=Hd.oG "is_word" j4
def qhv:Obj:=Hd.oK "is_word" 339 76 2 181 130 131 .none (.ref 132) (.ref 133) 134 347 348
def qin:Obj:=Hd.oF "is_word" j4 (.str "bankwalk.dealings" 253) (.ref 135)
def qjJ:Obj:=Hd.oN ju 353
def qjp:Obj:=Hd.oG "odd_in_common" ze
def qgC:Obj:=Hd.oK "odd_in_common" 350 81 2 181 137 138 .none (.ref 139) (.ref 140) 141 357 358
def qiq:Obj:=Hd.oF "odd_in_common" ze (.str "bankwalk.dealings" 253) (.ref 142)
def qks:Obj:=Hd.oG "bits_bank" jd
def qg7:Obj:=Hd.oK "bits_bank" 360 88 2 181 144 145 .none .none .none 146 363 364
def qfL:Obj:=Hd.oF "bits_bank" jd (.str "bankwalk.dealings" 253) (.ref 147)
def qjn:Obj:=Hd.oN qaa 369
def qjh:Obj:=Hd.oG "parted" UL
def qfU:Obj:=Hd.oK "parted" 366 90 3 181 149 150 .none (.ref 151) (.ref 152) 153 374 375
def qig:Obj:=Hd.oF "parted" UL (.str "bankwalk.dealings" 253) (.ref 154)
def qj5:Obj:=Hd.oN DM 380
def qj6:Obj:=Hd.oG "joined_bank" jP
def qhu:Obj:=Hd.oK "joined_bank" 377 93 3 181 156 157 .none (.ref 158) (.ref 159) 160 388 389
def qgM:Obj:=Hd.oF "joined_bank" jP (.str "bankwalk.dealings" 253) (.ref 161)
def qjC:Obj:=Hd.oN Q8 394
def qkE:Obj:=Hd.oG "bank_in" j7
def qby:Obj:=Hd.oK "bank_in" 391 97 2 181 163 164 .none (.ref 165) (.ref 166) 167 397 398
def qcu:Obj:=Hd.oF "bank_in" j7 (.str "bankwalk.dealings" 253) (.ref 168)
def qe7:Obj:=Hd.oN zb 403
def qgI:Obj:=Hd.oG "refuse_no_word" qT
def qcz:Obj:=Hd.oK "refuse_no_word" 400 108 2 181 170 171 .none (.ref 172) (.ref 173) 174 405 406
def qbd:Obj:=Hd.oF "refuse_no_word" qT (.str "bankwalk.dealings" 253) (.ref 175)
def qhf:Obj:=Hd.oN Q5 411
def qfq:Obj:=Hd.oG "bank_of" j9
def qaU:Obj:=Hd.oK "bank_of" 408 111 2 181 177 178 .none (.ref 179) (.ref 180) 181 413 414
def qbU:Obj:=Hd.oF "bank_of" j9 (.str "bankwalk.dealings" 253) (.ref 182)
def qeK:Obj:=Hd.oG "mask_at" jZ
def qbn:Obj:=Hd.oK "mask_at" 418 115 2 181 184 185 .none .none .none 186 421 422
def qbV:Obj:=Hd.oF "mask_at" jZ (.str "bankwalk.maskcheck" 416) (.ref 187)
def qgP:Obj:=Hd.oG "dealing_by" zF
def qct:Obj:=Hd.oK "dealing_by" 424 117 3 181 189 190 .none .none .none 191 427 428
def qa5:Obj:=Hd.oF "dealing_by" zF (.str "bankwalk.maskcheck" 416) (.ref 192)
def qhQ:Obj:=Hd.oN UI 435
def qhO:Obj:=Hd.oG "_law_mix" jX
def qbu:Obj:=Hd.oK "_law_mix" 432 121 2 181 194 195 .none (.ref 196) (.ref 197) 198 438 439
def qco:Obj:=Hd.oF "_law_mix" jX (.str "law_bankwalk_k49_dealings_by_images" 430) (.ref 199)
def qik:Obj:=Hd.oN Y9 444
def qgS:Obj:=Hd.oG "_law_left" jt
def qbt:Obj:=Hd.oK "_law_left" 441 124 2 181 201 202 .none (.ref 203) (.ref 204) 205 448 449
def qcD:Obj:=Hd.oF "_law_left" jt (.str "law_bankwalk_k49_dealings_by_images" 430) (.ref 206)
def qeu:Obj:=Hd.oN VC 454
def qgk:Obj:=Hd.oG "_law_pick" jB
def qbs:Obj:=Hd.oK "_law_pick" 451 128 2 181 208 209 .none (.ref 210) (.ref 211) 212 457 458
def qcq:Obj:=Hd.oF "_law_pick" jB (.str "law_bankwalk_k49_dealings_by_images" 430) (.ref 213)
def qhC:Obj:=Hd.oG "_law_same" jx
def qbr:Obj:=Hd.oK "_law_same" 460 135 2 181 215 216 .none .none .none 217 463 464
def qbj:Obj:=Hd.oF "_law_same" jx (.str "law_bankwalk_k49_dealings_by_images" 430) (.ref 218)
def qfM:Obj:=Hd.oN ZH 469
def qgJ:Obj:=Hd.oG "_law_two" j8
def qbY:Obj:=Hd.oK "_law_two" 466 143 1 181 220 221 .none (.ref 222) (.ref 223) 224 470 471
def qaT:Obj:=Hd.oF "_law_two" j8 (.str "law_bankwalk_k49_dealings_by_images" 430) (.ref 225)
def qfr:Obj:=Hd.oN ZB 476
def qg1:Obj:=Hd.oG "_law_odd" j6
def qbW:Obj:=Hd.oK "_law_odd" 473 145 1 181 227 228 .none (.ref 229) (.ref 230) 231 479 480
def qbM:Obj:=Hd.oF "_law_odd" j6 (.str "law_bankwalk_k49_dealings_by_images" 430) (.ref 232)
def qgW:Obj:=Hd.oN jY 485
def qfs:Obj:=Hd.oG "_law_bank" jy
def qbA:Obj:=Hd.oK "_law_bank" 482 150 2 181 234 235 .none (.ref 236) (.ref 237) 238 490 491
def qa3:Obj:=Hd.oF "_law_bank" jy (.str "law_bankwalk_k49_dealings_by_images" 430) (.ref 239)
def qgX:Obj:=Hd.oN ZN 496
def qes:Obj:=Hd.oG "_law_led" QB
def qbo:Obj:=Hd.oK "_law_led" 493 156 2 181 241 242 .none (.ref 243) (.ref 244) 245 501 502
def qa7:Obj:=Hd.oF "_law_led" QB (.str "law_bankwalk_k49_dealings_by_images" 430) (.ref 246)
def qf0:Obj:=Hd.oN qU 507
def qfR:Obj:=Hd.oG "_law_words_right" qO
def qbI:Obj:=Hd.oK "_law_words_right" 504 161 2 181 248 249 .none (.ref 250) (.ref 251) 252 512 513
def qcB:Obj:=Hd.oF "_law_words_right" qO (.str "law_bankwalk_k49_dealings_by_images" 430) (.ref 253)
def qhP:Obj:=Hd.oG "law" ZE
def qb1:Obj:=Hd.oK "law" 515 168 1 181 255 256 .none .none .none 257 518 519
def qbx:Obj:=Hd.oF "law" ZE (.str "law_bankwalk_k49_dealings_by_images" 430) (.ref 258)
def qdX (P:Params):PySem.W.BT:=(Hd.nd (PySem.W.boot_o_0 P) (Hd.nd (PySem.W.boot_o_1 P) (Hd.nd (qfO P) (Hd.nd (PySem.W.boot_o_7 P) (Hd.nd qL (Hd.nd qhX (Hd.nd qeI (Hd.nd qjs (Hd.lf qL) .nil) (Hd.lf qgP)) (Hd.nd qdZ (Hd.lf qL) (Hd.lf qL))) (Hd.nd qfB (Hd.nd qdW (Hd.lf qiq) (Hd.lf qcD)) (Hd.nd qjd (Hd.lf qcz) (Hd.lf qbA)))) (Hd.nd ji (Hd.nd qdA (Hd.nd qd1 (Hd.lf qhv) (Hd.lf qbu)) (Hd.nd ji (Hd.lf qkE) (Hd.lf qg1))) (Hd.nd qat (Hd.nd qL (Hd.lf qjn) (Hd.lf qL)) (Hd.nd qL (Hd.lf qbU) (Hd.lf qa7))))) (Hd.nd qL (Hd.nd qk5 (Hd.nd ji (Hd.nd ji (Hd.nd ji (Hd.lf qbx) .nil) (Hd.lf ji)) (Hd.nd qhz (Hd.lf qL) (Hd.lf qL))) (Hd.nd qg2 (Hd.nd qL (Hd.lf qg7) (Hd.lf qL)) (Hd.nd qix (Hd.lf qhf) (Hd.lf qgX)))) (Hd.nd qc4 (Hd.nd (qgd P) (Hd.nd qeO (Hd.lf qjJ) (Hd.lf qik)) (Hd.nd qdi (Hd.lf ji) (Hd.lf ji))) (Hd.nd qhp (Hd.nd qcQ (Hd.lf qig) (Hd.lf qbj)) (Hd.nd qL (Hd.lf qbn) (Hd.lf qL)))))) (Hd.nd (PySem.W.boot_o_5 P) (Hd.nd (PySem.W.boot_o_9 P) (Hd.nd qlg (Hd.nd qcO (Hd.nd qeN (Hd.nd qiD (Hd.lf qhP) .nil) (Hd.lf qa5)) (Hd.nd qL (Hd.lf qhu) (Hd.lf qbY))) (Hd.nd (qhc P) (Hd.nd ji (Hd.lf ji) (Hd.lf ji)) (Hd.nd qkg (Hd.lf qL) (Hd.lf qL)))) (Hd.nd qL (Hd.nd qfX (Hd.nd qL (Hd.lf qL) (Hd.lf qL)) (Hd.nd qL (Hd.lf qcu) (Hd.lf qbM))) (Hd.nd qL (Hd.nd qh0 (Hd.lf qjh) (Hd.lf qhC)) (Hd.nd qit (Hd.lf ji) (Hd.lf ji))))) (Hd.nd qiU (Hd.nd qds (Hd.nd qL (Hd.nd qL (Hd.lf qL) (Hd.lf qL)) (Hd.nd qdM (Hd.lf qjC) (Hd.lf qfr))) (Hd.nd qeW (Hd.nd qdy (Hd.lf qL) (Hd.lf qbs)) (Hd.nd ji (Hd.lf qfq) (Hd.lf qes)))) (Hd.nd qL (Hd.nd ji (Hd.nd qhl (Hd.lf qjp) (Hd.lf qgS)) (Hd.nd qL (Hd.lf qL) (Hd.lf qL))) (Hd.nd qL (Hd.nd ji (Hd.lf ji) (Hd.lf ji)) (Hd.nd qkp (Hd.lf qL) (Hd.lf qbI))))))) (Hd.nd (PySem.W.boot_o_2 P) (Hd.nd (PySem.W.boot_o_4 P) (Hd.nd (PySem.W.boot_o_8 P) (Hd.nd ji (Hd.nd qcT (Hd.nd qhY (Hd.nd qeH (Hd.lf ji) .nil) (Hd.lf qct)) (Hd.nd qdk (Hd.lf qj6) (Hd.lf qgJ))) (Hd.nd qL (Hd.nd qL (Hd.lf qL) (Hd.lf qL)) (Hd.nd qL (Hd.lf qbd) (Hd.lf qa3)))) (Hd.nd qfI (Hd.nd qdK (Hd.nd qde (Hd.lf qin) (Hd.lf qco)) (Hd.nd qiH (Hd.lf qby) (Hd.lf qbW))) (Hd.nd (qhN P) (Hd.nd ji (Hd.lf qL) (Hd.lf ji)) (Hd.nd qki (Hd.lf qL) (Hd.lf qL))))) (Hd.nd qjw (Hd.nd qjb (Hd.nd qgi (Hd.nd qeG (Hd.lf qjN) (Hd.lf qhQ)) (Hd.nd qd5 (Hd.lf ji) (Hd.lf ji))) (Hd.nd qga (Hd.nd qif (Hd.lf qfL) (Hd.lf qgk)) (Hd.nd qL (Hd.lf qL) (Hd.lf qL)))) (Hd.nd qdB (Hd.nd qL (Hd.nd qL (Hd.lf qL) (Hd.lf qL)) (Hd.nd qc1 (Hd.lf qe7) (Hd.lf qgW))) (Hd.nd qgF (Hd.nd qL (Hd.lf qL) (Hd.lf qL)) (Hd.nd ji (Hd.lf qbV) (Hd.lf qfR)))))) (Hd.nd (PySem.W.boot_o_6 P) (Hd.nd (PySem.W.boot_o_10 P) (Hd.nd qL (Hd.nd qL (Hd.nd qL (Hd.nd qL (Hd.lf qb1) .nil) (Hd.lf qL)) (Hd.nd ji (Hd.lf qgM) (Hd.lf qaT))) (Hd.nd qhr (Hd.nd qeJ (Hd.lf qks) (Hd.lf qeu)) (Hd.nd qhs (Hd.lf ji) (Hd.lf ji)))) (Hd.nd qeP (Hd.nd qat (Hd.nd ji (Hd.lf ji) (Hd.lf ji)) (Hd.nd qe1 (Hd.lf qL) (Hd.lf qL))) (Hd.nd ji (Hd.nd qdw (Hd.lf qfU) (Hd.lf qbr)) (Hd.nd qio (Hd.lf qeK) (Hd.lf qf0))))) (Hd.nd qiK (Hd.nd qL (Hd.nd qfb (Hd.nd qhh (Hd.lf qjH) (Hd.lf qhO)) (Hd.nd qL (Hd.lf qL) (Hd.lf qL))) (Hd.nd qhD (Hd.nd qdz (Hd.lf ji) (Hd.lf qcq)) (Hd.nd qjx (Hd.lf qaU) (Hd.lf qbo)))) (Hd.nd ji (Hd.nd qgy (Hd.nd qd2 (Hd.lf qgC) (Hd.lf qbt)) (Hd.nd ji (Hd.lf qgI) (Hd.lf qfs))) (Hd.nd (qfV P) (Hd.nd qf2 (Hd.lf qj5) (Hd.lf qfM)) (Hd.nd qL (Hd.lf ji) (Hd.lf qcB))))))))
abbrev qbp:List Stmt:=(KP.drop 16).take 25
set_option maxRecDepth 100000 in
set_option maxHeartbeats 0 in
def qft (w : World) (os : OsState) : PySem.W.segRunT treeTable PySem.Challenge.pw_bankwalk_k49_dealings_by_images w 11 (some (Value.ref 6)) 1 726 (⟨qgK w.params,109,{ },#[],{ },306,os⟩ : PySem.W.SharedT) (PySem.W.piecesOf qbp qfc D8 ⟨47,0,48,76⟩ qeo) = some (.next,(⟨qdX w.params,260,{ },#[],{ },521,os⟩ : PySem.W.SharedT),D8,⟨168,0,183,15⟩) := by kernel_rfl
abbrev qdv (P:Params):Heap:=PySem.W.absHeap (qdX P) 260 { }
def Kf (P:Params):PySem.W.Frag:=[(3,qfO P),(20,qjb),(21,qds),(27,qc4),(28,qdB),(32,qcT),(33,qcO),(39,qdA),(40,qdK),(71,qd1),(72,qde),(78,qd2),(79,qdW),(85,qdy),(86,qdz),(90,qdw),(91,qcQ),(95,qdZ),(96,qdk),(100,qd5),(101,qdM),(107,qdi),(108,qc1),(114,qhs),(115,qix),(121,qit),(122,qio),(128,qeH),(129,qiD),(135,qhv),(136,qin),(142,qgC),(143,qiq),(147,qg7),(148,qfL),(154,qfU),(155,qig),(161,qhu),(162,qgM),(168,qby),(169,qcu),(175,qcz),(176,qbd),(182,qaU),(183,qbU),(187,qbn),(188,qbV),(192,qct),(193,qa5),(199,qbu),(200,qco),(206,qbt),(207,qcD),(213,qbs),(214,qcq),(218,qbr),(219,qbj),(225,qbY),(226,qaT),(232,qbW),(233,qbM),(239,qbA),(240,qa3),(246,qbo),(247,qa7),(253,qbI),(254,qcB),(258,qb1),(259,qbx)]
def qeM {l:PySem.W.OpenLaw} {w:World} {h:Heap} {mg:Str->Option Value} {fa:Addr} (X:(Kf w.params).In h) (G:h.Ns mainGlobals mg) (hfa:mg "law" = some (.ref fa)) :
  ∃ fd:FuncData,(∀ (s:Shared) (v:Value),BindsTo s fd ⟨[v],[]⟩ [("_law_script",v)])/\∀ base:Heap,(Kf w.params).In base->base.Ns mainGlobals mg->FnOk l.prog w (Kf w.params) mg base CX0 7 fa fd ["_law_script"] (lSp (Kf w.params) EY):=by
 have e:=hfa.symm.trans (Hd.zr X G "law" (.ref 259) (by kernel_rfl));cases e;have F0:=Hd.zp (K:=Kf w.params) "is_number" zW 21 (.str "bankwalk.basics" 187) (.ref 20) (by kernel_rfl) (by kernel_rfl) (by kernel_rfl);have b0:=F0.binds (ps:=Z3) λ_ _ _ _ _ _ us hl=>by obtain ⟨_,rfl⟩:=Pu.TZ hl;rfl
 have m0:=Hd.zr X G "is_number" (.ref 21) (by kernel_rfl);have F1:=Hd.zp (K:=Kf w.params) "is_at_least" zy 28 (.str "bankwalk.basics" 187) (.ref 27) (by kernel_rfl) (by kernel_rfl) (by kernel_rfl);have b1:=F1.binds (ps:=QT) λ_ _ _ _ _ _ us hl=>by obtain ⟨_,_,rfl⟩:=Pu.DP hl;rfl
 have m1:=Hd.zr X G "is_at_least" (.ref 28) (by kernel_rfl);have F2:=Hd.zp (K:=Kf w.params) "are_at_least" zj 33 (.str "bankwalk.basics" 187) (.ref 32) (by kernel_rfl) (by kernel_rfl) (by kernel_rfl);have b2:=F2.binds (ps:=jQ) λ_ _ _ _ _ _ us hl=>by obtain ⟨_,_,rfl⟩:=Pu.DP hl;rfl
 have m2:=Hd.zr X G "are_at_least" (.ref 33) (by kernel_rfl);have F3:=Hd.zp (K:=Kf w.params) "is_pair" QA 40 (.str "bankwalk.basics" 187) (.ref 39) (by kernel_rfl) (by kernel_rfl) (by kernel_rfl);have b3:=F3.binds (ps:=UG) λ_ _ _ _ _ _ us hl=>by obtain ⟨_,rfl⟩:=Pu.TZ hl;rfl
 have m3:=Hd.zr X G "is_pair" (.ref 40) (by kernel_rfl);have F4:=Hd.zp (K:=Kf w.params) "share_no_divisor" zB 72 (.str "bankwalk.dealings" 253) (.ref 71) (by kernel_rfl) (by kernel_rfl) (by kernel_rfl);have b4:=F4.binds (ps:=JW) λ_ _ _ _ _ _ us hl=>by obtain ⟨_,_,rfl⟩:=Pu.DP hl;rfl
 have m4:=Hd.zr X G "share_no_divisor" (.ref 72) (by kernel_rfl);have F5:=Hd.zp (K:=Kf w.params) "is_skew" YY 79 (.str "bankwalk.dealings" 253) (.ref 78) (by kernel_rfl) (by kernel_rfl) (by kernel_rfl);have b5:=F5.binds (ps:=MS) λ_ _ _ _ _ _ us hl=>by obtain ⟨_,rfl⟩:=Pu.TZ hl;rfl
 have m5:=Hd.zr X G "is_skew" (.ref 79) (by kernel_rfl);have F6:=Hd.zp (K:=Kf w.params) "is_rests" JA 86 (.str "bankwalk.dealings" 253) (.ref 85) (by kernel_rfl) (by kernel_rfl) (by kernel_rfl);have b6:=F6.binds (ps:=TQ) λ_ _ _ _ _ _ us hl=>by obtain ⟨_,rfl⟩:=Pu.TZ hl;rfl
 have m6:=Hd.zr X G "is_rests" (.ref 86) (by kernel_rfl);have F7:=Hd.zp (K:=Kf w.params) "is_bits" jV 91 (.str "bankwalk.dealings" 253) (.ref 90) (by kernel_rfl) (by kernel_rfl) (by kernel_rfl);have b7:=F7.binds (ps:=US) λ_ _ _ _ _ _ us hl=>by obtain ⟨_,rfl⟩:=Pu.TZ hl;rfl
 have m7:=Hd.zr X G "is_bits" (.ref 91) (by kernel_rfl);have F8:=Hd.zp (K:=Kf w.params) "is_bank_row" jO 96 (.str "bankwalk.dealings" 253) (.ref 95) (by kernel_rfl) (by kernel_rfl) (by kernel_rfl);have b8:=F8.binds (ps:=DX) λ_ _ _ _ _ _ us hl=>by obtain ⟨_,_,_,rfl⟩:=Pu.qi1 hl;rfl
 have m8:=Hd.zr X G "is_bank_row" (.ref 96) (by kernel_rfl);have F9:=Hd.zp (K:=Kf w.params) "is_table" Z9 101 (.str "bankwalk.dealings" 253) (.ref 100) (by kernel_rfl) (by kernel_rfl) (by kernel_rfl);have b9:=F9.binds (ps:=TM) λ_ _ _ _ _ _ us hl=>by obtain ⟨_,rfl⟩:=Pu.TZ hl;rfl
 have m9:=Hd.zr X G "is_table" (.ref 101) (by kernel_rfl);have F10:=Hd.zp (K:=Kf w.params) "is_joined" ZF 108 (.str "bankwalk.dealings" 253) (.ref 107) (by kernel_rfl) (by kernel_rfl) (by kernel_rfl);have b10:=F10.binds (ps:=CH) λ_ _ _ _ _ _ us hl=>by obtain ⟨_,rfl⟩:=Pu.TZ hl;rfl
 have m10:=Hd.zr X G "is_joined" (.ref 108) (by kernel_rfl);have F11:=Hd.zp (K:=Kf w.params) "is_dealing" zK 115 (.str "bankwalk.dealings" 253) (.ref 114) (by kernel_rfl) (by kernel_rfl) (by kernel_rfl);have b11:=F11.binds (ps:=ZD) λ_ _ _ _ _ _ us hl=>by obtain ⟨_,rfl⟩:=Pu.TZ hl;rfl
 have m11:=Hd.zr X G "is_dealing" (.ref 115) (by kernel_rfl);have F12:=Hd.zp (K:=Kf w.params) "size_of" QE 122 (.str "bankwalk.dealings" 253) (.ref 121) (by kernel_rfl) (by kernel_rfl) (by kernel_rfl);have b12:=F12.binds (ps:=UA) λ_ _ _ _ _ _ us hl=>by obtain ⟨_,rfl⟩:=Pu.TZ hl;rfl
 have m12:=Hd.zr X G "size_of" (.ref 122) (by kernel_rfl);have F13:=Hd.zp (K:=Kf w.params) "number_of" jg 129 (.str "bankwalk.dealings" 253) (.ref 128) (by kernel_rfl) (by kernel_rfl) (by kernel_rfl);have b13:=F13.binds (ps:=Z4) λ_ _ _ _ _ _ us hl=>by obtain ⟨_,_,rfl⟩:=Pu.DP hl;rfl
 have m13:=Hd.zr X G "number_of" (.ref 129) (by kernel_rfl);have F14:=Hd.zp (K:=Kf w.params) "is_word" j4 136 (.str "bankwalk.dealings" 253) (.ref 135) (by kernel_rfl) (by kernel_rfl) (by kernel_rfl);have b14:=F14.binds (ps:=UX) λ_ _ _ _ _ _ us hl=>by obtain ⟨_,_,rfl⟩:=Pu.DP hl;rfl
 have m14:=Hd.zr X G "is_word" (.ref 136) (by kernel_rfl);have F15:=Hd.zp (K:=Kf w.params) "odd_in_common" ze 143 (.str "bankwalk.dealings" 253) (.ref 142) (by kernel_rfl) (by kernel_rfl) (by kernel_rfl);have b15:=F15.binds (ps:=jv) λ_ _ _ _ _ _ us hl=>by obtain ⟨_,_,rfl⟩:=Pu.DP hl;rfl
 have m15:=Hd.zr X G "odd_in_common" (.ref 143) (by kernel_rfl);have F16:=Hd.zp (K:=Kf w.params) "bits_bank" jd 148 (.str "bankwalk.dealings" 253) (.ref 147) (by kernel_rfl) (by kernel_rfl) (by kernel_rfl);have b16:=F16.binds (ps:=Z6) λ_ _ _ _ _ _ us hl=>by obtain ⟨_,_,rfl⟩:=Pu.DP hl;rfl
 have m16:=Hd.zr X G "bits_bank" (.ref 148) (by kernel_rfl);have F17:=Hd.zp (K:=Kf w.params) "parted" UL 155 (.str "bankwalk.dealings" 253) (.ref 154) (by kernel_rfl) (by kernel_rfl) (by kernel_rfl);have b17:=F17.binds (ps:=qaR) λ_ _ _ _ _ _ us hl=>by obtain ⟨_,_,_,rfl⟩:=Pu.qi1 hl;rfl
 have m17:=Hd.zr X G "parted" (.ref 155) (by kernel_rfl);have F18:=Hd.zp (K:=Kf w.params) "joined_bank" jP 162 (.str "bankwalk.dealings" 253) (.ref 161) (by kernel_rfl) (by kernel_rfl) (by kernel_rfl);have b18:=F18.binds (ps:=WC) λ_ _ _ _ _ _ us hl=>by obtain ⟨_,_,_,rfl⟩:=Pu.qi1 hl;rfl
 have m18:=Hd.zr X G "joined_bank" (.ref 162) (by kernel_rfl);have F19:=Hd.zp (K:=Kf w.params) "bank_in" j7 169 (.str "bankwalk.dealings" 253) (.ref 168) (by kernel_rfl) (by kernel_rfl) (by kernel_rfl);have b19:=F19.binds (ps:=UN) λ_ _ _ _ _ _ us hl=>by obtain ⟨_,_,rfl⟩:=Pu.DP hl;rfl
 have m19:=Hd.zr X G "bank_in" (.ref 169) (by kernel_rfl);have F20:=Hd.zp (K:=Kf w.params) "refuse_no_word" qT 176 (.str "bankwalk.dealings" 253) (.ref 175) (by kernel_rfl) (by kernel_rfl) (by kernel_rfl);have b20:=F20.binds (ps:=jl) λ_ _ _ _ _ _ us hl=>by obtain ⟨_,_,rfl⟩:=Pu.DP hl;rfl
 have m20:=Hd.zr X G "refuse_no_word" (.ref 176) (by kernel_rfl);have F21:=Hd.zp (K:=Kf w.params) "bank_of" j9 183 (.str "bankwalk.dealings" 253) (.ref 182) (by kernel_rfl) (by kernel_rfl) (by kernel_rfl);have b21:=F21.binds (ps:=UE) λ_ _ _ _ _ _ us hl=>by obtain ⟨_,_,rfl⟩:=Pu.DP hl;rfl
 have m21:=Hd.zr X G "bank_of" (.ref 183) (by kernel_rfl);have F22:=Hd.zp (K:=Kf w.params) "mask_at" jZ 188 (.str "bankwalk.maskcheck" 416) (.ref 187) (by kernel_rfl) (by kernel_rfl) (by kernel_rfl);have b22:=F22.binds (ps:=UO) λ_ _ _ _ _ _ us hl=>by obtain ⟨_,_,rfl⟩:=Pu.DP hl;rfl
 have m22:=Hd.zr X G "mask_at" (.ref 188) (by kernel_rfl);have F23:=Hd.zp (K:=Kf w.params) "dealing_by" zF 193 (.str "bankwalk.maskcheck" 416) (.ref 192) (by kernel_rfl) (by kernel_rfl) (by kernel_rfl);have b23:=F23.binds (ps:=ZI) λ_ _ _ _ _ _ us hl=>by obtain ⟨_,_,_,rfl⟩:=Pu.qi1 hl;rfl
 have m23:=Hd.zr X G "dealing_by" (.ref 193) (by kernel_rfl);have F24:=Hd.zp (K:=Kf w.params) "_law_mix" jX 200 (.str "law_bankwalk_k49_dealings_by_images" 430) (.ref 199) (by kernel_rfl) (by kernel_rfl) (by kernel_rfl);have b24:=F24.binds (ps:=UJ) λ_ _ _ _ _ _ us hl=>by obtain ⟨_,_,rfl⟩:=Pu.DP hl;rfl
 have m24:=Hd.zr X G "_law_mix" (.ref 200) (by kernel_rfl);have F25:=Hd.zp (K:=Kf w.params) "_law_left" jt 207 (.str "law_bankwalk_k49_dealings_by_images" 430) (.ref 206) (by kernel_rfl) (by kernel_rfl) (by kernel_rfl);have b25:=F25.binds (ps:=YU) λ_ _ _ _ _ _ us hl=>by obtain ⟨_,_,rfl⟩:=Pu.DP hl;rfl
 have m25:=Hd.zr X G "_law_left" (.ref 207) (by kernel_rfl);have F26:=Hd.zp (K:=Kf w.params) "_law_pick" jB 214 (.str "law_bankwalk_k49_dealings_by_images" 430) (.ref 213) (by kernel_rfl) (by kernel_rfl) (by kernel_rfl);have b26:=F26.binds (ps:=YQ) λ_ _ _ _ _ _ us hl=>by obtain ⟨_,_,rfl⟩:=Pu.DP hl;rfl
 have m26:=Hd.zr X G "_law_pick" (.ref 214) (by kernel_rfl);have F27:=Hd.zp (K:=Kf w.params) "_law_same" jx 219 (.str "law_bankwalk_k49_dealings_by_images" 430) (.ref 218) (by kernel_rfl) (by kernel_rfl) (by kernel_rfl);have b27:=F27.binds (ps:=YW) λ_ _ _ _ _ _ us hl=>by obtain ⟨_,_,rfl⟩:=Pu.DP hl;rfl
 have m27:=Hd.zr X G "_law_same" (.ref 219) (by kernel_rfl);have F28:=Hd.zp (K:=Kf w.params) "_law_two" j8 226 (.str "law_bankwalk_k49_dealings_by_images" 430) (.ref 225) (by kernel_rfl) (by kernel_rfl) (by kernel_rfl);have b28:=F28.binds (ps:=UT) λ_ _ _ _ _ _ us hl=>by obtain ⟨_,rfl⟩:=Pu.TZ hl;rfl
 have m28:=Hd.zr X G "_law_two" (.ref 226) (by kernel_rfl);have F29:=Hd.zp (K:=Kf w.params) "_law_odd" j6 233 (.str "law_bankwalk_k49_dealings_by_images" 430) (.ref 232) (by kernel_rfl) (by kernel_rfl) (by kernel_rfl);have b29:=F29.binds (ps:=UF) λ_ _ _ _ _ _ us hl=>by obtain ⟨_,rfl⟩:=Pu.TZ hl;rfl
 have m29:=Hd.zr X G "_law_odd" (.ref 233) (by kernel_rfl);have F30:=Hd.zp (K:=Kf w.params) "_law_bank" jy 240 (.str "law_bankwalk_k49_dealings_by_images" 430) (.ref 239) (by kernel_rfl) (by kernel_rfl) (by kernel_rfl);have b30:=F30.binds (ps:=YV) λ_ _ _ _ _ _ us hl=>by obtain ⟨_,_,rfl⟩:=Pu.DP hl;rfl
 have m30:=Hd.zr X G "_law_bank" (.ref 240) (by kernel_rfl);have F31:=Hd.zp (K:=Kf w.params) "_law_led" QB 247 (.str "law_bankwalk_k49_dealings_by_images" 430) (.ref 246) (by kernel_rfl) (by kernel_rfl) (by kernel_rfl);have b31:=F31.binds (ps:=U5) λ_ _ _ _ _ _ us hl=>by obtain ⟨_,_,rfl⟩:=Pu.DP hl;rfl
 have m31:=Hd.zr X G "_law_led" (.ref 247) (by kernel_rfl);have F32:=Hd.zp (K:=Kf w.params) "_law_words_right" qO 254 (.str "law_bankwalk_k49_dealings_by_images" 430) (.ref 253) (by kernel_rfl) (by kernel_rfl) (by kernel_rfl);have b32:=F32.binds (ps:=zQ) λ_ _ _ _ _ _ us hl=>by obtain ⟨_,_,rfl⟩:=Pu.DP hl;rfl
 have m32:=Hd.zr X G "_law_words_right" (.ref 254) (by kernel_rfl);have F33:=Hd.zp (K:=Kf w.params) "law" ZE 259 (.str "law_bankwalk_k49_dealings_by_images" 430) (.ref 258) (by kernel_rfl) (by kernel_rfl) (by kernel_rfl);have g_isinstance:=Hd.JF X G "isinstance" (by kernel_rfl);have g_bool:=Hd.JF X G "bool" (by kernel_rfl);have g_int:=Hd.JF X G "int" (by kernel_rfl);have g_all:=Hd.JF X G "all" (by kernel_rfl);have g_len:=Hd.JF X G "len" (by kernel_rfl);have g_tuple:=Hd.JF X G "tuple" (by kernel_rfl);have g_enumerate:=Hd.JF X G "enumerate" (by kernel_rfl);have g_sum:=Hd.JF X G "sum" (by kernel_rfl);have g_max:=Hd.JF X G "max" (by kernel_rfl);have g_range:=Hd.JF X G "range" (by kernel_rfl);have g_abs:=Hd.JF X G "abs" (by kernel_rfl);have g_list:=Hd.JF X G "list" (by kernel_rfl);have g_zip:=Hd.JF X G "zip" (by kernel_rfl);have g_str:=Hd.JF X G "str" (by kernel_rfl);have g_min:=Hd.JF X G "min" (by kernel_rfl);refine ⟨PySem.W.fnOf "law" "law" (QX ZE) (zM ZE) (qf ZE) .none .none .none (.str "law_bankwalk_k49_dealings_by_images" 430) none (.ref 258) .none,λs v=>.of_eq rfl,λbase _ _=>?_⟩;have O_is_number:=XO (P:=l.prog) (w:=w) (base:=base) (k:=0) F0 b0 m0  g_isinstance g_bool g_int XW;have O_is_at_least:=EH (P:=l.prog) (w:=w) (base:=base) (k:=1) F1 b1 m1 O_is_number  EN;have O_are_at_least:=UW (P:=l.prog) (w:=w) (base:=base) (k:=2) F2 b2 m2 O_is_at_least g_all EB;have O_is_pair:=R6 (P:=l.prog) (w:=w) (base:=base) (k:=1) F3 b3 m3 O_is_number g_len g_isinstance g_tuple SS;have O_share_no_divisor:=zS (P:=l.prog) (w:=w) (base:=base) F4 b4 m4;have O_is_skew:=Pu.Fn3.pz (zS (P:=l.prog) (w:=w) (base:=base) F5 b5 m5) false;have O_is_rests:=Pu.Fn3.pz (zS (P:=l.prog) (w:=w) (base:=base) F6 b6 m6) false;have O_is_bits:=SA (P:=l.prog) (w:=w) (base:=base) (k:=3) F7 b7 m7 O_are_at_least g_len g_isinstance g_tuple g_all TN;have O_is_bank_row:=zS (P:=l.prog) (w:=w) (base:=base) F8 b8 m8;have O_is_table:=Pu.Fn3.pz (zS (P:=l.prog) (w:=w) (base:=base) F9 b9 m9) false;have O_odd_in_common:=VS (P:=l.prog) (w:=w) (base:=base) (k:=0) F15 b15 m15   Pv.VW;have O_bits_bank:=WZ (P:=l.prog) (w:=w) (base:=base) (k:=1) F16 b16 m16 O_odd_in_common g_enumerate g_sum Pv.WY;have O_parted:=zS (P:=l.prog) (w:=w) (base:=base) F17 b17 m17;have O_mask_at:=S4 (P:=l.prog) (w:=w) (base:=base) (k:=0) F22 b22 m22  g_enumerate g_sum TF;have O_dealing_by:=WA (P:=l.prog) (w:=w) (base:=base) (k:=1) F23 b23 m23 O_mask_at g_max g_range g_tuple D6;have O_law_mix:=SE (P:=l.prog) (w:=w) (base:=base) (k:=0) F24 b24 m24   Bk.SN;have O_law_left:=X8 (P:=l.prog) (w:=w) (base:=base) (k:=0) F25 b25 m25  g_len g_abs Bk.CI;have O_law_pick:=CO (P:=l.prog) (w:=w) (base:=base) (k:=1) F26 b26 m26 O_law_mix  Bk.CL;have O_law_two:=SD (P:=l.prog) (w:=w) (base:=base) (k:=0) F28 b28 m28   SQ;have O_law_odd:=SW (P:=l.prog) (w:=w) (base:=base) (k:=1) F29 b29 m29 O_law_two g_range R5;have O_law_bank:=CA (P:=l.prog) (w:=w) (base:=base) (k:=2) F30 b30 m30 O_law_odd (O_law_two.mono (by decide)) g_enumerate X6;have O_law_led:=TY (P:=l.prog) (w:=w) (base:=base) (k:=1) F31 b31 m31 O_law_two g_enumerate SX;have O_is_joined:=Pu.Fn3.pz (zS (P:=l.prog) (w:=w) (base:=base) F10 b10 m10) false;have O_is_dealing:=DZ (P:=l.prog) (w:=w) (base:=base) (k:=4) F11 b11 m11 (O_is_skew.mono (by decide)) (O_is_rests.mono (by decide)) O_is_bits (O_is_table.mono (by decide)) (O_is_joined.mono (by decide)) g_len g_isinstance g_tuple WG;have O_joined_bank:=Pu.Fn3.pz (zS (P:=l.prog) (w:=w) (base:=base) F18 b18 m18) false;have O_size_of_0:=Pu.Fn3.pz (zS (P:=l.prog) (w:=w) (base:=base) F12 b12 m12) false;have O_size_of_1:=S5 (P:=l.prog) (w:=w) (base:=base) (k:=0) F12 b12 m12 O_size_of_0 g_len (Pv.TW 0);have O_number_of:=WS (P:=l.prog) (w:=w) (base:=base) (k:=1) F13 b13 m13 O_size_of_1  XU;have O_is_word:=S9 (P:=l.prog) (w:=w) (base:=base) (k:=2) F14 b14 m14 O_is_pair (O_size_of_1.mono (by decide))  TC;have O_bank_in:=SV (P:=l.prog) (w:=w) (base:=base) (k:=2) F19 b19 m19 O_number_of O_bits_bank (O_joined_bank.mono (by decide))  S8;have O_refuse_no_word:=VF (P:=l.prog) (w:=w) (base:=base) (k:=3) F20 b20 m20 O_is_word  VJ;have O_bank_of:=RY (P:=l.prog) (w:=w) (base:=base) (k:=4) F21 b21 m21 O_refuse_no_word (O_bank_in.mono (by decide))  RQ;have O_law_words_right:=YM (P:=l.prog) (w:=w) (base:=base) (k:=5) F32 b32 m32 (O_law_two.mono (by decide)) (O_law_led.mono (by decide)) O_bank_of (O_law_bank.mono (by decide)) g_len g_range J4;have O_law_same_0:=zS (P:=l.prog) (w:=w) (base:=base) F27 b27 m27;have O_law_same_1:=QM (P:=l.prog) (w:=w) (base:=base) (k:=0) F27 b27 m27 O_law_same_0 g_isinstance g_list g_tuple g_zip g_all g_len g_str g_bool g_int (Bk.QG 0);have O_law_same_2:=QM (P:=l.prog) (w:=w) (base:=base) (k:=1) F27 b27 m27 O_law_same_1 g_isinstance g_list g_tuple g_zip g_all g_len g_str g_bool g_int (Bk.QG 1);have O_law_same_3:=QM (P:=l.prog) (w:=w) (base:=base) (k:=2) F27 b27 m27 O_law_same_2 g_isinstance g_list g_tuple g_zip g_all g_len g_str g_bool g_int (Bk.QG 2);have O_law_same_4:=QM (P:=l.prog) (w:=w) (base:=base) (k:=3) F27 b27 m27 O_law_same_3 g_isinstance g_list g_tuple g_zip g_all g_len g_str g_bool g_int (Bk.QG 3);exact qfA (k:=6) F33 (O_law_left.mono (by decide)) (O_law_pick.mono (by decide)) (O_dealing_by.mono (by decide)) (O_law_two.mono (by decide)) (O_is_dealing.mono (by decide)) O_law_words_right (O_law_same_4.mono (by decide)) g_len g_min g_range g_list g_max g_isinstance g_tuple (qfo qew)
set_option maxRecDepth 100000 in
set_option maxHeartbeats 0 in
def qf7 (w : World) (os : OsState) : PySem.W.topRun treeTable PySem.Challenge.pw_bankwalk_k49_dealings_by_images w 11 (some (Value.ref 6)) 2 (⟨qdX w.params,260,{ },#[],{ },521,os⟩ : PySem.W.SharedT).abs (PySem.W.restOf [] qfc D8 ⟨168,0,183,15⟩ qeo) = some ⟨qdv w.params,#[],{ },521,os⟩ := by kernel_rfl
def qkF:(qbq++(qbp++[]))=KP:=by kernel_rfl
set_option maxRecDepth 100000 in
set_option maxHeartbeats 0 in
def qdI (w : World) (os : OsState) : PySem.W.topRun treeTable PySem.Challenge.pw_bankwalk_k49_dealings_by_images w 11 (some (Value.ref 6)) (12 + (1 + (740 + (726 + 2)))) ⟨PySem.W.boot_heap w.params,Array.mk [],PySem.W.boot_drawn,PySem.W.boot_toks,os⟩ (PySem.W.topStub PySem.Challenge.pw_bankwalk_k49_dealings_by_images) = some ⟨qdv w.params,#[],{ },521,os⟩ := by
 have h:=(PySem.W.piece_app (PySem.W.segRun_of (qeS w os)) (PySem.W.piece_app (PySem.W.segRun_of (qft w os)) (qf7 w os)))
 rw [qkF] at h;exact PySem.W.go_top (qem w os) (PySem.W.piece_block (qhM w os) h)
abbrev Q : Program := PySem.W.view PySem.Challenge.pw_bankwalk_k49_dealings_by_images [1,2,3,4,6,7,9,10,11,12,13,14,15,16,17,18,19,20,21,22,23,24,25,26,28,29,31,32,33,34,35,36,37,38,39,40]
set_option maxRecDepth 100000 in
set_option maxHeartbeats 0 in
def left : PySem.W.LeftO PySem.Challenge.pw_bankwalk_k49_dealings_by_images Q [] (λs => PySem.W.xlAt Q [] s && PySem.W.recOk [] s) (λs => ([3,20,21,27,28,32,33,39,40,71,72,78,79,85,86,90,91,95,96,100,101,107,108,114,115,121,122,128,129,135,136,142,143,147,148,154,155,161,162,168,169,175,176,182,183,187,188,192,193,199,200,206,207,213,214,218,219,225,226,232,233,239,240,246,247,253,254,258,259] : List Addr).map s.heap.get?) (λw => (Kf w.params).map λp => some p.2) 3054 :=
 PySem.W.LeftO.of_pieces (H₀:=PySem.W.boot_heap) (H₁:=qdv) (gs₀:=Array.mk []) (gs₁:=#[]) (d₀:=PySem.W.boot_drawn) (d₁:={ }) (k₀:=PySem.W.boot_toks) (k₁:=521) (m₀:=11) (ann:=some (Value.ref 6)) (M:=(12+(1+(740+(726+2)))))
  (PySem.W.boot_open (by kernel_rfl) (by kernel_rfl) (λs=>by kernel_rfl)) (λw=>by kernel_rfl) qdI (by kernel_rfl) (λw=>by kernel_rfl)
end K49
open PySem PySem.W PyProof.Rows
set_option maxRecDepth 100000 in
set_option maxHeartbeats 0 in
theorem PySem.Challenge.cw_bankwalk_k49_dealings_by_images_holds : PySem.Challenge.rw_bankwalk_k49_dealings_by_images.Holds :=
 Hd.head (l := PySem.Challenge.rw_bankwalk_k49_dealings_by_images) (q := K49.Q) (loose := []) (K := K49.Kf) (as := [3,20,21,27,28,32,33,39,40,71,72,78,79,85,86,90,91,95,96,100,101,107,108,114,115,121,122,128,129,135,136,142,143,147,148,154,155,161,162,168,169,175,176,182,183,187,188,192,193,199,200,206,207,213,214,218,219,225,226,232,233,239,240,246,247,253,254,258,259]) (N := 3054) (k := 7) (x := "_law_script")
  (d:=⟨"law",L2.QX K49.ZE,L2.zM K49.ZE,L2.qf K49.ZE,⟨168,0,183,15⟩⟩) (λ_=>by kernel_rfl) (by kernel_rfl) K49.left (by kernel_rfl) (by kernel_rfl) (by kernel_rfl) (by kernel_rfl) (by kernel_rfl)
  ⟨rfl,rfl,rfl,rfl,rfl,by decide +kernel⟩ (by w_witness2) rfl (by kernel_rfl) ⟨rfl,by decide,by decide,rfl⟩ (λw=>by kernel_rfl) λw mg fa h KX G hmg=>K49.qeM KX G hmg
