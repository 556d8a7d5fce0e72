import PyProof.Rows.All
import Wide.All
import OpenK.AllK
import Wide.FinOn
import Lean
import PyProof.EqAt
import PyProof.EqKinds
import PyProof.TupleCall
import PyProof.NeKinds
import KE.KRevSl
import PyProof.FactsAll.bool_2
import PyProof.Rows.EqBoolInt
import PyProof.Rows.IntBool
import PySem.Challenge.RW_bankwalk_k33_flip_papers_spoilt_anywhere
-- CHANGE: your row's module here,as the last of these rows
set_option Elab.async false
set_option genSizeOf false
set_option genInjectivity false
noncomputable section
abbrev Frg:=PySem.W.Frag
open List (getElem_cons_zero length_cons getElem?_cons_succ getElem_cons_succ getElem?_cons_zero length_nil set_cons_zero set_cons_succ length_map not_mem_nil mem_append_right map_cons mem_cons getElem?_set getElem?_map cons_append size_toArray getElem?_eq_getElem map_map mem_of_getElem? mem_map length_append getD_eq_getElem?_getD mem_range length_range)
def obb{α β:Type _}{o:Option α}{f:α->Option β}{b:β}(h:o.bind f=some b):∃a,o=some a/\f a=some b:=Option.bind_eq_some_iff.mp h
set_option linter.all false
set_option maxRecDepth 100000
namespace L2
open PySem PySem.Spec PyProof.Rows
abbrev Key:=Sum Int Str
def qhW:Key->Value->Bool
 |.inl k,v=>Value.isInt k v
 |.inr x,v=>Value.isStrOf x v
def qou (w:World):Key->Int
 |.inl k=>hashInt k
 |.inr x=>hashStr w x
def zi:∀ {k:Key} {v:Value},qhW k v=true->(∃ i t,k=Sum.inl i/\v=Value.int i t)\/(∃ x t,k=Sum.inr x/\v=Value.str x t)
 |.inl i,v,h=>by
  obtain ⟨t,e⟩:=Value.isInt_shape (k:=i) (v:=v) h;exact .inl ⟨i,t,rfl,e⟩
 |.inr x,v,h=>by
  obtain ⟨t,e⟩:=Value.isStrOf_shape (x:=x) (v:=v) h;exact .inr ⟨x,t,rfl,e⟩
def qju (a b:Int):decide ((Sum.inl a:Key)=Sum.inl b)=(a==b):=by
 by_cases e:a=b
 ·subst e;simp
 ·have h:¬ (Sum.inl a:Key)=Sum.inl b:=λq=>e (Sum.inl.inj q);rw [decide_eq_false h];exact (beq_eq_false_iff_ne.mpr e).symm
def qkm (a b:Str):decide ((Sum.inr a:Key)=Sum.inr b)=decide (a=b):=by
 by_cases e:a=b
 ·subst e;simp
 ·have h:¬ (Sum.inr a:Key)=Sum.inr b:=λq=>e (Sum.inr.inj q);rw [decide_eq_false h,decide_eq_false e]
def qiI (a:Int) (b:Str):decide ((Sum.inl a:Key)=Sum.inr b)=false:=decide_eq_false (λq=>nomatch q)
def qjI (a:Str) (b:Int):decide ((Sum.inr a:Key)=Sum.inl b)=false:=decide_eq_false (λq=>nomatch q)
def NG (prog:Program) (w:World):PySem.KeyKind prog w Key where
 is:=qhW
 hash:=qou w
 inj:=λv a b ha hb=>by
  rcases zi ha with ⟨i,t,rfl,rfl⟩|⟨x,t,rfl,rfl⟩
  ·rcases zi hb with ⟨j,u,rfl,e⟩|⟨y,u,rfl,e⟩
   ·injection e with e1 _;rw [e1]
   ·exact nomatch e
  ·rcases zi hb with ⟨j,u,rfl,e⟩|⟨y,u,rfl,e⟩
   ·exact nomatch e
   ·injection e with e1 _;rw [e1]
 byValue:=λk v h=>by
  rcases zi h with ⟨i,t,rfl,rfl⟩|⟨x,t,rfl,rfl⟩<;>rfl
 pyHash:=λhv h=>by
  rcases zi hv with ⟨i,t,rfl,rfl⟩|⟨x,t,rfl,rfl⟩
  ·exact wpAny_pyHash_int h
  ·exact wpAny_pyHash_str h
 eqBool:=λhu hv h=>by
  rcases zi hu with ⟨i,t,rfl,rfl⟩|⟨x,t,rfl,rfl⟩
  ·rcases zi hv with ⟨j,u,rfl,rfl⟩|⟨y,u,rfl,rfl⟩
   ·rw [qju] at h;exact wpAny_eqBool_int h
   ·rw [qiI] at h;exact SeqAt.EqAt.int_str i t y u _ _ _ _ h
  ·rcases zi hv with ⟨j,u,rfl,rfl⟩|⟨y,u,rfl,rfl⟩
   ·rw [qjI] at h;exact SeqAt.EqAt.str_int x t j u _ _ _ _ h
   ·rw [qkm] at h;exact wpAny_eqBool_str h
 «strs»:=λk x t v h=>by
  rcases zi h with ⟨i,u,rfl,e⟩|⟨y,u,rfl,e⟩
  ·exact nomatch e
  ·injection e with e1 _;subst e1;cases v<;>rfl
set_option genInjectivity true in
inductive V where
 |non|bl (b:Bool)|int (i:Int)|str (x:Str)|byt (b:Array UInt8)|flt (b:UInt64)|ref (a:Addr)|ty (n:String)
 deriving DecidableEq
def jI:V->Value->Prop
 |.non,u=>u=Value.none
 |.bl b,u=>u=Value.bool b
 |.int i,u=>∃ t,u=Value.int i t
 |.str x,u=>∃ t,u=Value.str x t
 |.byt b,u=>∃ t,u=Value.bytes b t
 |.flt b,u=>∃ t,u=Value.float b t
 |.ref a,u=>u=Value.ref a
 |.ty n,u=>u=Value.type n
abbrev zx:List V->List Value->Prop:=Paired jI
def zx.length {xs:List V} {us:List Value} (r:zx xs us):xs.length=us.length:=Paired.length r
def zx.get:∀ {xs:List V} {us:List Value} {i:Nat} {x:V},zx xs us->xs[i]?=some x->∃ u,us[i]?=some u/\jI x u
 |_,_,_,_,.nil,e=>by simp at e
 |_,_,0,_,.cons r _,e=>by simp at e;subst e;exact ⟨_,rfl,r⟩
 |_,_,i+1,x,.cons _ t,e=>by
  obtain ⟨u,h1,h2⟩:=zx.get (i:=i) (x:=x) t (by simpa using e);exact ⟨u,by simpa using h1,h2⟩
def zx.set {x:V} {u:Value} (r:jI x u):∀ {xs:List V} {us:List Value} (i:Nat),zx xs us->zx (xs.set i x) (us.set i u)
 |_,_,_,.nil=>.nil
 |_,_,0,.cons _ t=>.cons r t
 |_,_,i+1,.cons q t=>.cons q (zx.set r i t)
def zx.append:∀ {xs ys:List V} {us ws:List Value},zx xs us->zx ys ws->zx (xs++ys) (us++ws)
 |_,_,_,_,.nil,s=>s
 |_,_,_,_,.cons r t,s=>.cons r (zx.append t s)
def zx.take:∀ {xs:List V} {us:List Value} (n:Nat),zx xs us->zx (xs.take n) (us.take n)
 |_,_,0,_=>.nil
 |_,_,_+1,.nil=>.nil
 |_,_,n+1,.cons r t=>.cons r (zx.take n t)
def zx.drop:∀ {xs:List V} {us:List Value} (n:Nat),zx xs us->zx (xs.drop n) (us.drop n)
 |_,_,0,r=>r
 |_,_,_+1,.nil=>.nil
 |_,_,n+1,.cons _ t=>zx.drop n t
def qn5:Option V->Option Value->Prop
 |some v,some u=>jI v u
 |none,none=>True
 |_,_=>False
def KV {κ:Type}:List (κ×V)->List (κ×Value)->Prop:=Paired λ(p:κ×V) (q:κ×Value)=>p.1=q.1/\jI p.2 q.2
def kV:Key->V
 |.inl i=>.int i
 |.inr x=>.str x
inductive HO where
 /-- a list -/
 |lst (xs:List V)
 /-- a tuple (never changes) -/
 |tup (xs:List V)
 /-- a dict whose keys are ints and texts;one whose keys are tuples of ints and texts (the empty one is both) -/
 |dK (kvs:List (Key×V))|dT (kvs:List (List Key×V))
 /-- a set of ints: its members,its size -/
 |set (S:Int->Bool) (n:Nat)
 /-- an instance of the class at C,its dict at dx,its attributes -/
 |ins (C dx:Addr) (fs:List (Str×V))
 /-- the dict of the instance at x -/
 |own (x:Addr)
 /-- the dict of an exception -/
 |xd (fs:List (Str×V))
 /-- a bound method,f of x -/
 |met (f x:Addr)
 /-- a range object lo,lo+1,.. below hi -/
 |rng (lo hi:Int)
 /-- a thing that is known to the object (the script;a dict while a loop walks it): read,never written while it is so -/
 |frz (o:Obj) (u:HO)
 /-- a code object's table -/
 |tbl (ps:Array Value)
 /-- any other thing,by what is true of its one object (a def of one's own: SetO a S n:=HO.ext λh=>..) -/
 |ext (φ:Heap->Prop)
abbrev Hp:=Addr->Option HO
def upd (H:Hp) (a:Addr) (o:HO):Hp:=λb=>if b=a then some o else H b
def qY {H:Hp} {a:Addr} {o:HO}:upd H a o a=some o:=by unfold upd;rw [if_pos rfl]
def qM {H:Hp} {a b:Addr} {o:HO} (h:b≠a):upd H a o b=H b:=by unfold upd;rw [if_neg h]
def qF {H:Hp} {a b:Addr} {o:HO} (h:H a=some o) (h':H b=none):a≠b:=by
 intro e;subst e;rw [h] at h';cases h'
section
variable (P:Program) (w:World)
def YZ (H:Hp) (h:Heap) (a:Addr):HO->Prop
 |.lst xs=>xs.length<=sizeLine/\∃ (its:List Value) (n:Nat),zx xs its/\h.get? a=some { cls:=.type "list",data:=.seq its.toArray n }
 |.tup xs=>xs.length<=sizeLine/\∃ its:List Value,zx xs its/\IsTup h a its.toArray
 |.dK kvs=>kvs.length<=sizeLine/\(a==sysModules)=false/\∃ vs,KV kvs vs/\h.DictOf (NG P w) a vs
 |.dT kvs=>kvs.length<=sizeLine/\(a==sysModules)=false/\∃ xs:List (List Key×Addr×Value),
   Paired (λ(p:List Key×V) (q:List Key×Addr×Value)=>p.1=q.1/\H q.2.1=some (.tup (p.1.map kV))/\jI p.2 q.2.2) kvs xs /\
   ∃ o es ep,h.get? a=some o/\o.ExactDict/\o.data=.dict es ep/\es.toList=xs.map (entryOfKey (tupleKind (NG P w)))/\(xs.map (·.1)).Nodup
 |.set S n=>h.SetOf (intKind P w) a S n
 |.ins C dx fs=>H dx=some (.own a)/\fs.length<=1000/\dx≠a/\h.get? a=some (PySem.W.instObj C dx) /\
   ∃ mA,h.Ns1 dx mA/\(∀ f,qn5 (fs.lookup f) (mA f))/\PySem.Within mA (fs.map (·.1))
 |.own _=>∃ o,h.get? a=some o
 |.xd fs=>∃ mA,h.Ns1 a mA/\∀ f,qn5 (fs.lookup f) (mA f)
 |.rng lo hi=>∃ t u v,h.get? a=some { cls:=.type "range",data:=.fields #[.int lo t,.int hi u,.int 1 v] }
 |.frz o u=>h.get? a=some o/\YZ H h a u
 |.tbl ps=>h.get? a=some { cls:=.none,data:=.fields ps }
 |.met f x=>h.get? a=some (PySem.W.methodObj (.ref f) (.ref x))
 |.ext φ=>φ h/\(∃ o,h.get? a=some o)/\∀ h1 h2:Heap,φ h1->(∀ o,h1.get? a=some o->h2.get? a=some o)->φ h2
def HOk (H:Hp) (h:Heap):Prop:=∀ a o,H a=some o->YZ P w H h a o
end
section
variable {P:Program} {w:World} {H H':Hp} {h h':Heap} {a:Addr} {o:HO}
def YZ.lt (x:YZ P w H h a o):a<h.objs.size:=by
 cases o with
 |lst xs=>obtain ⟨_,_,_,_,e⟩:=x;exact Heap.lt_size e
 |tup xs=>obtain ⟨_,_,_,p⟩:=x;exact p.lt
 |dK kvs=>obtain ⟨_,_,_,_,o,_,_,e,_⟩:=x;exact Heap.lt_size e
 |dT kvs=>obtain ⟨_,_,_,_,o,_,_,e,_⟩:=x;exact Heap.lt_size e
 |set S n=>obtain ⟨o,_,_,_,e,_⟩:=x;exact Heap.lt_size e
 |ins C dx fs=>obtain ⟨_,_,_,e,_⟩:=x;exact Heap.lt_size e
 |own y=>obtain ⟨_,e⟩:=x;exact Heap.lt_size e
 |xd fs=>obtain ⟨_,⟨_,_,_,e,_⟩,_⟩:=x;exact Heap.lt_size e
 |rng lo hi=>obtain ⟨_,_,_,e⟩:=x;exact Heap.lt_size e
 |frz ob u=>obtain ⟨e,_⟩:=x;exact Heap.lt_size e
 |tbl ps=>exact Heap.lt_size (show h.get? a=some _ from x)
 |met f y=>exact Heap.lt_size (show h.get? a=some _ from x)
 |ext φ=>obtain ⟨_,⟨_,e⟩,_⟩:=x;exact Heap.lt_size e
def Paired.mapP {α β:Type} {F G:α->β->Prop}:∀ {l₁:List α} {l₂:List β},Paired F l₁ l₂->(∀ a b,F a b->G a b)->Paired G l₁ l₂
 |_,_,.nil,_=>.nil
 |_,_,.cons r t,f=>.cons (f _ _ r) (Paired.mapP t f)
def YZ.stay (x:YZ P w H h a o) (k:∀ b u,(b=a\/H b=some (.own a))->h.get? b=some u->h'.get? b=some u)
  (ho:∀ b,H b=some (.own a)->H' b=some (.own a)) (ht:∀ b xs,H b=some (.tup xs)->H' b=some (.tup xs)):YZ P w H' h' a o:=by
 induction o with
 |lst xs=>obtain ⟨z,its,n,r,e⟩:=x;exact ⟨z,its,n,r,k _ _ (.inl rfl) e⟩
 |tup xs=>obtain ⟨z,its,r,ob,e,c⟩:=x;exact ⟨z,its,r,ob,k _ _ (.inl rfl) e,c⟩
 |dK kvs=>obtain ⟨z,y,vs,r,ob,es,ep,e,c⟩:=x;exact ⟨z,y,vs,r,ob,es,ep,k _ _ (.inl rfl) e,c⟩
 |dT kvs=>
  obtain ⟨z,y,xs,r,ob,es,ep,e,c⟩:=x;exact ⟨z,y,xs,Paired.mapP r λp q z=>⟨z.1,ht _ _ z.2.1,z.2.2⟩,ob,es,ep,k _ _ (.inl rfl) e,c⟩
 |set S n=>obtain ⟨ob,es,ep,t,e,c⟩:=x;exact ⟨ob,es,ep,t,k _ _ (.inl rfl) e,c⟩
 |ins C dx fs=>
  obtain ⟨d,z,ne,e,mA,⟨od,es,ep,e2,c⟩,r⟩:=x;exact ⟨ho _ d,z,ne,k _ _ (.inl rfl) e,mA,⟨od,es,ep,k _ _ (.inr d) e2,c⟩,r⟩
 |own y=>obtain ⟨ob,e⟩:=x;exact ⟨ob,k _ _ (.inl rfl) e⟩
 |xd fs=>obtain ⟨mA,⟨od,es,ep,e,c⟩,r⟩:=x;exact ⟨mA,⟨od,es,ep,k _ _ (.inl rfl) e,c⟩,r⟩
 |rng lo hi=>obtain ⟨t,u,v,e⟩:=x;exact ⟨t,u,v,k _ _ (.inl rfl) e⟩
 |frz ob u ih=>obtain ⟨e,q⟩:=x;exact ⟨k _ _ (.inl rfl) e,ih q⟩
 |tbl ps=>
  have e:h.get? a=some { cls:=.none,data:=.fields ps }:=x;show h'.get? a=some { cls:=.none,data:=.fields ps };exact k a _ (.inl rfl) e
 |met f y=>
  have e:h.get? a=some (PySem.W.methodObj (.ref f) (.ref y)):=x;show h'.get? a=some (PySem.W.methodObj (.ref f) (.ref y));exact k a _ (.inl rfl) e
 |ext φ=>obtain ⟨p,⟨o,e⟩,st⟩:=x;exact ⟨st _ _ p λo q=>k _ _ (.inl rfl) q,⟨o,k _ _ (.inl rfl) e⟩,st⟩
def HOk.lt (x:HOk P w H h) (e:H a=some o):a<h.objs.size:=(x a o e).lt
def HOk.fresh (x:HOk P w H h) (e:h.objs.size<=a):H a=none:=by
 cases q:H a with
 |none=>rfl
 |some u=>exact absurd (Nat.lt_of_lt_of_le (x.lt q) e) (Nat.lt_irrefl _)
def HOk.kept (x:HOk P w H h) (k:∀ b u,h.get? b=some u->h'.get? b=some u):HOk P w H h':=λa o e=>
 (x a o e).stay (λb u _ q=>k b u q) (λ_ q=>q) λ_ _ q=>q
def HOk.laid (x:HOk P w H h) (k:∀ b u,h.get? b=some u->h'.get? b=some u) (hp:h.objs.size<=a) (new:YZ P w (upd H a o) h' a o):HOk P w (upd H a o) h':=λb u e=>by
 have hn:=x.fresh hp;by_cases hb:b=a
 ·subst hb;rw [qY] at e;cases e;exact new
 ·rw [qM hb] at e;exact (x b u e).stay (λc v _ q=>k c v q) (λc q=>by rw [qM (qF q hn)];exact q) λc xs q=>by rw [qM (qF q hn)];exact q
end
def Rd (H:Hp) (a:Addr) (u:HO):Prop:=H a=some u\/∃ o,H a=some (.frz o u)
def Rd.ok {P:Program} {w:World} {H:Hp} {h:Heap} {a:Addr} {u:HO} (r:Rd H a u) (x:HOk P w H h):YZ P w H h a u:=by
 rcases r with r|⟨o,r⟩
 ·exact x a u r
 ·obtain ⟨_,q⟩:=x a _ r;exact q
def Mut:Option HO->Prop
 |some (.lst _)=>True
 |some (.dK _)=>True
 |some (.dT _)=>True
 |some (.set _ _)=>True
 |some (.ins _ _ _)=>True
 |some (.ext _)=>True
 |_=>False
section
variable {P:Program} {w:World} {H:Hp} {h h':Heap} {x e:Addr} {o':HO}
def HOk.write (ok:HOk P w H h) (mu:Mut (H x)) (he:e=x\/H e=some (.own x)) (k:∀ b u,b≠e->h.get? b=some u->h'.get? b=some u) (heo:∃ u,h'.get? e=some u)
  (new:YZ P w (upd H x o') h' x o'):HOk P w (upd H x o') h':=λb u q=>by
 have nown:∀ c y,H c=some (.own y)->c≠x:=λc y r z=>by subst z;rw [r] at mu;exact mu
 have ntup:∀ c xs,H c=some (.tup xs)->c≠x:=λc xs r z=>by subst z;rw [r] at mu;exact mu
 by_cases hb:b=x
 ·subst hb;rw [qY] at q;cases q;exact new
 ·rw [qM hb] at q;by_cases hbe:b=e
  ·have q':H b=some (.own x):=by
    rcases he with z|z
    ·exact absurd (hbe.trans z) hb
    ·rw [hbe];exact z
   rw [q] at q';cases q';obtain ⟨v,hv⟩:=heo;exact ⟨v,by rw [hbe];exact hv⟩
  ·refine (ok b u q).stay (λc v hc r=>k c v ?_ r) (λc r=>by rw [qM (nown c b r)];exact r) λc xs r=>by rw [qM (ntup c xs r)];exact r
   rcases hc with rfl|hc
   ·exact hbe
   ·rintro rfl;rcases he with z|z
    ·exact nown c b hc z
    ·rw [hc] at z;cases z;exact hb rfl
end
structure Un (fs ex:List Addr) (H H':Hp) (h h':Heap):Prop where
 keep:∀ b o,h.get? b=some o->H b=none->b∉fs->b∉ex->h'.get? b=some o
 slot:∀ b o,h.get? b=some o->H b=none->b∈fs->b∉ex->∃ sl,h'.get? b=some { o with slots:=sl }
 free:∀ b o,h.get? b=some o->H b=none->b∉ex->H' b=none
 there:∀ b o,h.get? b=some o->b∉ex->∃ o',h'.get? b=some o'
 tups:∀ b xs,H b=some (.tup xs)->H' b=some (.tup xs)
 frzs:∀ b o u,H b=some (.frz o u)->H' b=some (.frz o u)
 tbls:∀ b ps,H b=some (.tbl ps)->∃ more,H' b=some (.tbl (ps++more))
section
variable {fs fs' ex ex':List Addr} {H H1 H2:Hp} {h h1 h2 h':Heap} {a x e:Addr} {o:HO}
def Un.any (u:Un fs ex H H1 h h1) {b:Addr} {ob:Obj} (q:h.get? b=some ob) (n:H b=none) (hx:b∉ex):∃ sl,h1.get? b=some { ob with slots:=sl }:=by
 by_cases hb:b∈fs
 ·exact u.slot b ob q n hb hx
 ·exact ⟨ob.slots,u.keep b ob q n hb hx⟩
def Un.kept (k:∀ b u,h.get? b=some u->h'.get? b=some u):Un fs ex H H h h':=
 ⟨λb ob q _ _ _=>k b ob q,λb ob q _ _ _=>⟨ob.slots,k b ob q⟩,λ_ _ _ n _=>n,λb ob q _=>⟨ob,k b ob q⟩,λ_ _ q=>q,λ_ _ _ q=>q,λ_ ps q=>⟨#[],by rw [q];simp⟩⟩
def Un.refl:Un fs ex H H h h:=Un.kept λ_ _ q=>q
def Un.laid (k:∀ b u,h.get? b=some u->h'.get? b=some u) (hp:h.objs.size<=a) (hn:H a=none):Un fs ex H (upd H a o) h h' where
 keep:=λb u q _ _ _=>k b u q
 slot:=λb u q _ _ _=>⟨u.slots,k b u q⟩
 free:=λb u q n _=>by rw [qM (Nat.ne_of_lt (Nat.lt_of_lt_of_le (Heap.lt_size q) hp))];exact n
 there:=λb u q _=>⟨u,k b u q⟩
 tups:=λb xs q=>by rw [qM (qF q hn)];exact q
 frzs:=λb u xs q=>by rw [qM (qF q hn)];exact q
 tbls:=λb ps q=>⟨#[],by rw [qM (qF q hn),q];simp⟩
def Un.write (mu:Mut (H x)) (he:e=x\/H e=some (.own x)) (k:∀ b u,b≠e->h.get? b=some u->h'.get? b=some u) (heo:∃ u,h'.get? e=some u):Un fs ex H (upd H x o) h h':=by
 have hx:∀ b,H b=none->b≠x:=λb n z=>by subst z;rw [n] at mu;exact mu
 have hb:∀ b,H b=none->b≠e:=λb n z=>by
  subst z;rcases he with r|r
  ·exact hx b n r
  ·rw [n] at r;cases r
 have hm:∀ b u,H b=some u->¬ Mut (some u)->b≠x:=λb u q nm z=>by subst z;rw [q] at mu;exact nm mu
 refine ⟨λb u q n _ _=>k b u (hb b n) q,λb u q n _ _=>⟨u.slots,k b u (hb b n) q⟩,λb u q n _=>by rw [qM (hx b n)];exact n,λb u q _=>?_,
  λb xs q=>by rw [qM (hm b _ q λz=>z)];exact q,λb u xs q=>by rw [qM (hm b _ q λz=>z)];exact q,λb ps q=>⟨#[],by rw [qM (hm b _ q λz=>z),q];simp⟩⟩
 by_cases hbe:b=e
 ·subst hbe;exact heo
 ·exact ⟨u,k b u hbe q⟩
end
def trk (h:Heap) (H:Hp):List Addr:=(List.range h.objs.size).filter λa=>(H a).isSome
def qbm (h:Heap) (H:Hp):Heap:=PySem.W.hideAll h (trk h H)
def ML (h:Heap) (H:Hp):(qbm h H).objs.size=h.objs.size:=PySem.W.hideAll_size _ _
def qbF {h:Heap} {H:Hp} {b:Addr} {o:Obj} (e:h.get? b=some o) (n:H b=none):(qbm h H).get? b=some o:=
 PySem.W.hideAll_get _ e λhm=>by
  have q:(H b).isSome=true:=(List.mem_filter.mp hm).2;rw [n] at q;simp at q
def qep {h:Heap} {H:Hp} {b:Addr} {o:Obj} (e:(qbm h H).get? b=some o):h.get? b=some o/\H b=none:=by
 have e':h.get? b=some o:=PySem.W.of_hideAll (trk h H) e;refine ⟨e',?_⟩;cases q:H b with
 |none=>rfl
 |some x=>
  have hm:b∈trk h H:=List.mem_filter.mpr ⟨mem_range.mpr (Heap.lt_size e'),by simp [q]⟩;have z:(qbm h H).get? b=none:=PySem.W.hideAll_none (trk h H) hm;rw [z] at e;cases e
def qfU (g h:Heap) (L:Addr):List (Addr×Obj):=(List.range h.objs.size).filterMap λa=>if a=L\/(g.get? a).isSome=true then none else (h.get? a).map λo=>(a,o)
def jZ (g h:Heap) (L d:Addr):List (Addr×Obj):=(qfU g h L).filter λp=>decide (p.1≠d)
structure Mod (K:Frg) (mg:Str->Option Value) (base:Heap):Prop where
 kin:K.In base
 glob:base.Ns mainGlobals mg
 blt:∃ mb,base.Ns builtinsNs mb/\∀ x:Str,x≠"__name__" -> mb x=bootBuiltins x
 nolimit:base.NoLimit
structure Cx where
 prog:Program
 w:World
 K:PySem.W.Frag
 mg:Str->Option Value
 base:Heap
 A:Around
 N:List Str
 s₀:Shared
 H₀:Hp
 env:Env
 outer:List Env
 stack:List Env
 ex:List Addr
 fn:Str->Bool
 calm:Bool
 pn:List (Addr×Obj)
 xe:Value->Shared->Prop
def frs (l:List Env):List Addr:=l.filterMap (·.frame)
abbrev Cx.fs (X:Cx):List Addr:=frs X.outer
def Vis (sc:Scope) (x:Str):Prop:=sc.names.lookup x=some .local\/sc.names.lookup x=some .cell\/sc.names.lookup x=some .free
def Loc (sc:Scope) (x:Str):Prop:=sc.names.lookup x=some .local\/sc.names.lookup x=some .cell
def qoi (env:Env) (h:Heap) (m:Str->Option Value) (x:Str) (u:Value):Prop:=
 (env.kindOf x=some .local/\m x=some u)\/((env.kindOf x=some .cell\/env.kindOf x=some .free)/\∃ c,env.cells.lookup x=some c/\h.IsCell c (some u))
structure Cx.Ok (X:Cx):Prop where
 mod:Mod X.K X.mg X.base
 kind:X.env.scope.kind=.function
 glob:X.env.globals=mainGlobals
 blt:X.env.builtins=builtinsNs
 above:X.s₀.heap.objs.size<=X.env.locals
 inj:∀ x y c,X.env.cells.lookup x=some c->X.env.cells.lookup y=some c->x=y
 has:∀ x,(X.env.kindOf x=some .cell\/X.env.kindOf x=some .free)->∃ c,X.env.cells.lookup x=some c
 cab:∀ x c,X.fn x=true->X.env.cells.lookup x=some c->X.s₀.heap.objs.size<=c
 hd:X.calm=true->X.A.handled=none
 frames:X.A.frames=some X.stack
 stk:X.stack=X.outer\/(X.stack=X.env::X.outer/\X.env.frame=some X.env.locals)
 exf:∀ b∈X.ex,b≠X.env.locals/\∀ x c,X.env.cells.lookup x=some c->c≠b
 bs:∀ b o,X.base.get? b=some o->X.s₀.heap.get? b=some o/\X.H₀ b=none
 bsz:X.base.objs.size<=X.s₀.heap.objs.size
 noex:∀ b o,X.base.get? b=some o->b∉X.ex
 exfs:∀ b∈X.ex,b∉X.fs
 funs:X.s₀.heap.FunFrames X.base X.outer
 frf:∀ b∈X.fs,X.H₀ b=none
structure Inv (X:Cx) (pins:List (Addr×Obj)) (σ:List (Option V)) (H:Hp) (s:Shared):Prop where
 ok:X.Ok
 os:s.os=X.s₀.os
 bare:AllBare s.gens
 base:Un X.fs X.ex X.H₀ H X.s₀.heap s.heap
 loc:∃ m,s.heap.Ns X.env.locals m/\∀ (i:Nat) (x:Str) (v:V),X.N[i]?=some x->σ[i]?=some (some v)->Vis X.env.scope x->∃ u,jI v u/\qoi X.env s.heap m x u
 cell:∀ x c,X.env.cells.lookup x=some c->∃ v,s.heap.IsCell c v
 free:H X.env.locals=none
 freeC:∀ x c,X.env.cells.lookup x=some c->H c=none
 pin:∀ p∈X.pn++pins,s.heap.get? p.1=some p.2/\H p.1=none/\p.1≠X.env.locals/\p.1∉X.fs/\∀ v,p.2.data≠.cell v
 hok:HOk X.prog X.w H s.heap
 len:σ.length=X.N.length
section
variable {X:Cx} {pins:List (Addr×Obj)} {σ:List (Option V)} {H H':Hp} {s:Shared} {h':Heap}
def Cx.Ok.nofr (ok:X.Ok) {b:Addr} {o:Obj} (e:X.base.get? b=some o):b∉X.fs:=λhb=>by
 have:=(ok.funs.mem hb).1;rw [e] at this;cases this
def Inv.bs (I:Inv X pins σ H s):∀ b o,X.base.get? b=some o->s.heap.get? b=some o/\H b=none:=λb o e=>
 ⟨I.base.keep b o (I.ok.bs b o e).1 (I.ok.bs b o e).2 (I.ok.nofr e) (I.ok.noex b o e),I.base.free b o (I.ok.bs b o e).1 (I.ok.bs b o e).2 (I.ok.noex b o e)⟩
def Inv.bk (I:Inv X pins σ H s):∀ b o,X.base.get? b=some o->s.heap.get? b=some o:=λb o e=>(I.bs b o e).1
def Inv.mod (I:Inv X pins σ H s):Mod X.K X.mg X.base:=I.ok.mod
def Inv.kIn (I:Inv X pins σ H s):X.K.In s.heap:=I.ok.mod.kin.keeps I.bk
def Inv.nolimit (I:Inv X pins σ H s):s.heap.NoLimit:=I.ok.mod.nolimit.keeps I.bk
def Inv.fr (I:Inv X pins σ H s):∃ m,Fr X.base X.env.locals s.heap m:=
 let ⟨m,hn,_⟩:=I.loc
 ⟨m,hn,I.bk,Nat.le_trans I.ok.bsz I.ok.above⟩
def Inv.lt (I:Inv X pins σ H s):X.env.locals<s.heap.objs.size:=let ⟨_,hn,_⟩:=I.loc;hn.lt
def Inv.sz (I:Inv X pins σ H s):X.s₀.heap.objs.size<=s.heap.objs.size:=Nat.le_trans I.ok.above (Nat.le_of_lt I.lt)
def Inv.nofs (I:Inv X pins σ H s) {a:Addr} (h:s.heap.objs.size<=a):a∉X.fs:=λhb=>by
 obtain ⟨_,o,ho,_⟩:=I.ok.funs.mem hb;exact absurd (Nat.lt_of_lt_of_le (Heap.lt_size ho) (Nat.le_trans I.sz h)) (Nat.lt_irrefl _)
def Inv.cne (I:Inv X pins σ H s):∀ x c,X.env.cells.lookup x=some c->c≠X.env.locals:=λx c e z=>by
 obtain ⟨v,o,ho,hd⟩:=I.cell x c e;obtain ⟨m,⟨o',es,ep,ho',hd',_⟩,_⟩:=I.loc;rw [z,ho'] at ho;cases ho;rw [hd'] at hd;cases hd
def Inv.funs (I:Inv X pins σ H s):s.heap.FunFrames X.base X.outer:=by
 have all:∀ (l:List Env),(∀ b∈frs l,b∈X.fs)->X.s₀.heap.FunFrames X.base l->s.heap.FunFrames X.base l:=by
  intro l;induction l with
  |nil=>intro _ _;trivial
  |cons env r ih=>
   intro hs hl;obtain ⟨hk,⟨L,o,hf,hn,ho,hd⟩,hr⟩:=hl;have hL:L∈X.fs:=hs L (by unfold frs;rw [List.filterMap_cons,hf];exact List.mem_cons_self);obtain ⟨sl,e⟩:=I.base.slot L o ho (I.ok.frf L hL) hL λz=>I.ok.exfs L z hL;exact ⟨hk,⟨L,_,hf,hn,e,hd⟩,ih (λb hb=>hs b (by unfold frs;rw [List.filterMap_cons,hf];exact List.mem_cons_of_mem _ hb)) hr⟩
 exact all X.outer (λ_ hb=>hb) I.ok.funs
def Inv.stack (I:Inv X pins σ H s):s.heap.FunFrames X.base X.stack:=by
 rcases I.ok.stk with e|⟨e,hf⟩
 ·rw [e];exact I.funs
 ·rw [e];obtain ⟨m,hn,_⟩:=I.loc;refine .cons (by rw [I.ok.kind];decide) hf hn ?_ I.funs;exact Heap.get?_none_of_le (Nat.le_trans I.ok.bsz I.ok.above)
def Inv.stkSub (I:Inv X pins σ H s):∀ b∈frs X.stack,b∈X.env.locals::X.fs:=λb hb=>by
 rcases I.ok.stk with e|⟨e,hf⟩
 ·rw [e] at hb;exact List.mem_cons_of_mem _ hb
 ·rw [e] at hb;unfold frs at hb;rw [List.filterMap_cons,hf] at hb;exact hb
def Inv.stkFree (I:Inv X pins σ H s):∀ b∈frs X.stack,H b=none:=λb hb=>by
 rcases mem_cons.mp (I.stkSub b hb) with e|hb
 ·rw [e];exact I.free
 ·obtain ⟨_,o,ho,_⟩:=I.ok.funs.mem hb;exact I.base.free b o ho (I.ok.frf b hb) λz=>I.ok.exfs b z hb
def Inv.step {g':Array GenState} {t':Nat} {d':Drawn} {ch:List Addr} (I:Inv X pins σ H s)
  (hch:∀ b∈ch,(b∈X.ex\/X.s₀.heap.objs.size<=b)/\b≠X.env.locals/\(∀ x c,X.env.cells.lookup x=some c->c≠b)/\∀ p∈X.pn++pins,p.1≠b)
  (keep:∀ b o,b≠X.env.locals->b∉X.fs->b∉ch->s.heap.get? b=some o->H b=none->h'.get? b=some o)
  (slot:∀ b o,b≠X.env.locals->b∈X.fs->b∉ch->s.heap.get? b=some o->H b=none->∃ sl,h'.get? b=some { o with slots:=sl }) (free:∀ b o,b∉ch->s.heap.get? b=some o->H b=none->H' b=none)
  (there:∀ b o,b∉ch->s.heap.get? b=some o->∃ o',h'.get? b=some o')
  (tups:∀ b xs,H b=some (.tup xs)->H' b=some (.tup xs)) (frzs:∀ b o u,H b=some (.frz o u)->H' b=some (.frz o u)) (tbls:∀ b ps,H b=some (.tbl ps)->∃ more,H' b=some (.tbl (ps++more)))
  (ns:∀ m,s.heap.Ns X.env.locals m->h'.Ns X.env.locals m) (hok:HOk X.prog X.w H' h') (hg:AllBare g') :
  Inv X pins σ H' { s with heap:=h',gens:=g',drawn:=d',toks:=t' }:=by
 have neL:∀ b o,X.s₀.heap.get? b=some o->b≠X.env.locals:=λb o e=>Nat.ne_of_lt (Nat.lt_of_lt_of_le (Heap.lt_size e) I.ok.above);have neC:∀ b o,X.s₀.heap.get? b=some o->b∉X.ex->b∉ch:=λb o e hx hb=>by
  rcases (hch b hb).1 with z|z
  ·exact hx z
  ·exact absurd (Nat.lt_of_lt_of_le (Heap.lt_size e) z) (Nat.lt_irrefl _)
 have cellK:∀ x c,X.env.cells.lookup x=some c->∀ v,s.heap.IsCell c v->h'.IsCell c v:=λx c e v ⟨o,ho,hd⟩=>by
  have nch:c∉ch:=λz=>(hch c z).2.2.1 x c e rfl;by_cases hc:c∈X.fs
  ·obtain ⟨sl,q⟩:=slot c o (I.cne x c e) hc nch ho (I.freeC x c e);exact ⟨_,q,hd⟩
  ·exact ⟨o,keep c o (I.cne x c e) hc nch ho (I.freeC x c e),hd⟩
 refine ⟨I.ok,I.os,hg,⟨λb o e n hb hx=>?_,λb o e n hb hx=>?_,λb o e n hx=>?_,λb o e hx=>?_,λb xs e=>tups b xs (I.base.tups b xs e),λb o xs e=>frzs b o xs (I.base.frzs b o xs e),λb ps e=>?_⟩,?_,λx c e=>?_,?_,λx c e=>?_,λp hp=>?_,hok,I.len⟩
 ·exact keep b o (neL b o e) hb (neC b o e hx) (I.base.keep b o e n hb hx) (I.base.free b o e n hx)
 ·obtain ⟨sl,e1⟩:=I.base.slot b o e n hb hx;obtain ⟨sl',e2⟩:=slot b _ (neL b o e) hb (neC b o e hx) e1 (I.base.free b o e n hx);exact ⟨sl',e2⟩
 ·obtain ⟨o',e1⟩:=I.base.there b o e hx;exact free b o' (neC b o e hx) e1 (I.base.free b o e n hx)
 ·obtain ⟨o',e1⟩:=I.base.there b o e hx;exact there b o' (neC b o e hx) e1
 ·obtain ⟨m1,e1⟩:=I.base.tbls b ps e;obtain ⟨m2,e2⟩:=tbls b _ e1;exact ⟨m1++m2,by rw [e2,Array.append_assoc]⟩
 ·obtain ⟨m,hn,hl⟩:=I.loc;refine ⟨m,ns m hn,λi x v e1 e2 e3=>?_⟩;obtain ⟨u,r,l⟩:=hl i x v e1 e2 e3;refine ⟨u,r,?_⟩;rcases l with l|⟨k,c,e,z⟩
  ·exact .inl l
  ·exact .inr ⟨k,c,e,cellK x c e _ z⟩
 ·obtain ⟨v,z⟩:=I.cell x c e;exact ⟨v,cellK x c e v z⟩
 ·obtain ⟨m,⟨o,_,_,ho,_⟩,_⟩:=I.loc;exact free _ o (λz=>(hch _ z).2.1 rfl) ho I.free
 ·obtain ⟨v,o,ho,hd⟩:=I.cell x c e;exact free c o (λz=>(hch c z).2.2.1 x c e rfl) ho (I.freeC x c e)
 ·obtain ⟨e,n,ne,nf,d⟩:=I.pin p hp;have nch:p.1∉ch:=λz=>(hch p.1 z).2.2.2 p hp rfl;exact ⟨keep p.1 p.2 ne nf nch e n,free p.1 p.2 nch e n,ne,nf,d⟩
def Inv.un {t':Nat} (I:Inv X pins σ H s) (u:Un X.fs [] H H' s.heap h') (hok:HOk X.prog X.w H' h'):Inv X pins σ H' { s with heap:=h',toks:=t' }:=by
 obtain ⟨m,⟨o,es,ep,ho,r⟩,_⟩:=id I.loc;obtain ⟨sl,hL⟩:=u.any ho I.free (by simp);exact I.step (g':=s.gens) (d':=s.drawn) (ch:=[]) (λ_ z=>nomatch z) (λb o _ hb _ e n=>u.keep b o e n hb (by simp)) (λb o _ hb _ e n=>u.slot b o e n hb (by simp)) (λb o _ e n=>u.free b o e n (by simp)) (λb o _ e=>u.there b o e (by simp)) u.tups u.frzs u.tbls (λm' hm=>by
  obtain ⟨o',es',ep',ho',r'⟩:=hm;rw [ho] at ho';cases ho';exact ⟨_,es',ep',hL,r'⟩) hok I.bare
def Inv.call {g':Array GenState} {t':Nat} {d':Drawn} {ch:List Addr} (I:Inv X pins σ H s) (u:Un (frs X.stack) ch H H' s.heap h') (hok:HOk X.prog X.w H' h') (hg:AllBare g')
  (hch:∀ b∈ch,(b∈X.ex\/X.s₀.heap.objs.size<=b)/\b≠X.env.locals/\(∀ x c,X.env.cells.lookup x=some c->c≠b)/\∀ p∈X.pn++pins,p.1≠b) :
  Inv X pins σ H' { s with heap:=h',gens:=g',drawn:=d',toks:=t' }:=by
 obtain ⟨m,⟨o,es,ep,ho,r⟩,_⟩:=id I.loc;obtain ⟨sl,hL⟩:=u.any ho I.free λz=>(hch _ z).2.1 rfl;exact I.step (ch:=ch) hch (λb o hL hb hc e n=>u.keep b o e n (λz=>(mem_cons.mp (I.stkSub b z)).elim hL hb) hc) (λb o _ _ hc e n=>u.any e n hc) (λb o hc e n=>u.free b o e n hc) (λb o hc e=>u.there b o e hc) u.tups u.frzs u.tbls (λm' hm=>by
  obtain ⟨o',es',ep',ho',r'⟩:=hm;rw [ho] at ho';cases ho';exact ⟨_,es',ep',hL,r'⟩) hok hg
def Inv.turned {t':Nat} {it:Addr} (I:Inv X pins σ H s) (k:∀ b o,b≠it->s.heap.get? b=some o->h'.get? b=some o) (hn:H it=none) (hL:it≠X.env.locals)
  (h1:it∈X.ex\/X.s₀.heap.objs.size<=it) (h2:∀ x c,X.env.cells.lookup x=some c->c≠it) (h3:∀ p∈X.pn++pins,p.1≠it):Inv X pins σ H { s with heap:=h',toks:=t' }:=by
 have nit:∀ b u,H b=some u->b≠it:=λb u e z=>by rw [z,hn] at e;cases e
 refine I.step (g':=s.gens) (d':=s.drawn) (ch:=[it]) (λb hb=>?_) (λb o _ _ hc e _=>k b o (λz=>hc (by simp [z])) e) (λb o _ _ hc e _=>⟨o.slots,k b o (λz=>hc (by simp [z])) e⟩) (λ_ _ _ _ n=>n)
  (λb o hc e=>⟨o,k b o (λz=>hc (by simp [z])) e⟩) (λ_ _ e=>e) (λ_ _ _ e=>e) (λb ps e=>⟨#[],by rw [e];simp⟩) (λm hm=>?_) (λb u e=>?_) I.bare
 ·have e:b=it:=by simpa using hb
  subst e;exact ⟨h1,hL,h2,h3⟩
 ·obtain ⟨o,es,ep,ho,r⟩:=hm;exact ⟨o,es,ep,k _ o (Ne.symm hL) ho,r⟩
 ·refine (I.hok b u e).stay (λc v hc q=>k c v ?_ q) (λ_ q=>q) λ_ _ q=>q;rcases hc with z|z
  ·rw [z];exact nit b u e
  ·exact nit c _ z
def Inv.tok (I:Inv X pins σ H s) (t:Nat):Inv X pins σ H { s with toks:=t }:=I.un (h':=s.heap) (t':=t) Un.refl I.hok
def Inv.kept {t':Nat} (I:Inv X pins σ H s) (k:∀ b u,s.heap.get? b=some u->h'.get? b=some u):Inv X pins σ H { s with heap:=h',toks:=t' }:=I.un (Un.kept k) (I.hok.kept k)
def Inv.laid {a:Addr} {o:HO} {t':Nat} (I:Inv X pins σ H s) (k:∀ b u,s.heap.get? b=some u->h'.get? b=some u) (hp:s.heap.objs.size<=a) (new:YZ X.prog X.w (upd H a o) h' a o) :
  Inv X pins σ (upd H a o) { s with heap:=h',toks:=t' }:=I.un (Un.laid k hp (I.hok.fresh hp)) (I.hok.laid k hp new)
def Inv.write {x e:Addr} {o:HO} {t':Nat} (I:Inv X pins σ H s) (mu:Mut (H x)) (he:e=x\/H e=some (.own x)) (k:∀ b u,b≠e->s.heap.get? b=some u->h'.get? b=some u) (heo:∃ u,h'.get? e=some u)
  (new:YZ X.prog X.w (upd H x o) h' x o):Inv X pins σ (upd H x o) { s with heap:=h',toks:=t' }:=I.un (Un.write mu he k heo) (I.hok.write mu he k heo new)
def Inv.pins_of {pins':List (Addr×Obj)} (I:Inv X pins σ H s) (h:∀ p∈pins',s.heap.get? p.1=some p.2/\H p.1=none/\p.1≠X.env.locals/\p.1∉X.fs/\∀ v,p.2.data≠.cell v):Inv X pins' σ H s:=
 ⟨I.ok,I.os,I.bare,I.base,I.loc,I.cell,I.free,I.freeC,λp hp=>(List.mem_append.mp hp).elim (λz=>I.pin p (List.mem_append_left _ z)) (h p),I.hok,I.len⟩
def T2 {N:List Str} (hN:N.Nodup) {i j:Nat} {x:Str} (a:N[i]?=some x) (b:N[j]?=some x):i=j:=by
 obtain ⟨h1,e1⟩:=List.getElem?_eq_some_iff.mp a;obtain ⟨h2,e2⟩:=List.getElem?_eq_some_iff.mp b;exact (List.getElem_inj hN).mp (e1.trans e2.symm)
def RH {M:Model} {A:Around} {E:Value->Shared->Prop} {i:Nat} {x:Str} {v:V} {u:Value} {Q:Unit->Shared->Prop} (I:Inv X pins σ H s) (hN:X.N.Nodup) (hi:X.N[i]?=some x) (hx:Loc X.env.scope x) (r:jI v u)
  (h:∀ s',Inv X pins (σ.set i (some v)) H s'->(∃ a,Heap.SameBut a s.heap s'.heap/\(a=X.env.locals\/X.env.cells.lookup x=some a))->Q () s') (hf:X.fn x=true\/X.env.scope.names.lookup x=some .local:=by first|exact .inl rfl|exact .inr rfl|assumption):wpAny M A (storeName X.env x u) Q E s:=by
 obtain ⟨m,hn,hl⟩:=id I.loc;have hcls:(X.env.scope.kind==.class||(X.env.scope.kind==.module&&X.env.locals != X.env.globals))=false:=by rw [I.ok.kind];rfl
 have hiσ:i<σ.length:=by rw [I.len];exact (List.getElem?_eq_some_iff.mp hi).1
 have cne:=I.cne;have tracked:∀ {a:Addr} {h':Heap},(∃ o,s.heap.get? a=some o/\H a=none)->Heap.SameBut a s.heap h'->HOk X.prog X.w H h':=λ{a h'} ha hs b ob e=>by
  obtain ⟨_,_,hfree⟩:=ha;refine (I.hok b ob e).stay (λc w' hc q=>(hs.2 c ?_).trans q) (λ_ q=>q) λ_ _ q=>q;rintro rfl;rcases hc with rfl|hc
  ·rw [hfree] at e;cases e
  ·rw [hfree] at hc;cases hc
 rcases hx with hk|hk
 ·refine wpAny_storeName_local hk hn (λh' hn' hs=>?_) hcls;obtain ⟨oL,_,_,hoL,_⟩:=id hn;refine h _ ⟨I.ok,I.os,I.bare,⟨λb o e n hb hx=>?_,λb o e n hb hx=>?_,I.base.free,λb o e hx=>?_,I.base.tups,I.base.frzs,I.base.tbls⟩,⟨_,hn',λj y v' e1 e2 e3=>?_⟩,λy c e=>?_,I.free,I.freeC,λp hp=>?_,tracked ⟨oL,hoL,I.free⟩ hs,by simpa using I.len⟩ ⟨_,hs,.inl rfl⟩
  ·exact (hs.2 b (Nat.ne_of_lt (Nat.lt_of_lt_of_le (Heap.lt_size e) I.ok.above))).trans (I.base.keep b o e n hb hx)
  ·obtain ⟨sl,e1⟩:=I.base.slot b o e n hb hx;exact ⟨sl,(hs.2 b (Nat.ne_of_lt (Nat.lt_of_lt_of_le (Heap.lt_size e) I.ok.above))).trans e1⟩
  ·obtain ⟨o',e1⟩:=I.base.there b o e hx;exact ⟨o',(hs.2 b (Nat.ne_of_lt (Nat.lt_of_lt_of_le (Heap.lt_size e) I.ok.above))).trans e1⟩
  ·by_cases hj:j=i
   ·subst hj;rw [hi] at e1;cases e1;rw [List.getElem?_set_self hiσ] at e2;cases e2;exact ⟨u,r,.inl ⟨hk,by simp⟩⟩
   ·rw [List.getElem?_set_ne (Ne.symm hj)] at e2;obtain ⟨u',r',q⟩:=hl j y v' e1 e2 e3;refine ⟨u',r',?_⟩;rcases q with ⟨k,e⟩|⟨k,c,e,z⟩
    ·refine .inl ⟨k,?_⟩;have:y≠x:=λe=>hj (T2 hN e1 (e▸hi));simp [this,e]
    ·exact .inr ⟨k,c,e,z.sameBut hs (cne y c e)⟩
  ·obtain ⟨w',z⟩:=I.cell y c e;exact ⟨w',z.sameBut hs (cne y c e)⟩
  ·obtain ⟨e,n,ne,nf,d⟩:=I.pin p hp;exact ⟨(hs.2 p.1 ne).trans e,n,ne,nf,d⟩
 ·have hfn:X.fn x=true:=by
   rcases hf with z|z
   ·exact z
   ·rw [z] at hk;cases hk
  obtain ⟨c,hc⟩:=I.ok.has x (.inl hk);obtain ⟨w',z⟩:=I.cell x c hc;refine wpAny_storeName_cell I.ok.kind hk hc z (λh' hc' hs=>?_);obtain ⟨oc,hoc,hocd⟩:=id z;refine h { s with heap:=h' } ⟨I.ok,I.os,I.bare,⟨λb o e n hb hx=>?_,λb o e n hb hx=>?_,I.base.free,λb o e hx=>?_,I.base.tups,I.base.frzs,I.base.tbls⟩,⟨m,hn.sameBut hs (Ne.symm (cne x c hc)),λj y v' e1 e2 e3=>?_⟩,λy c' e=>?_,I.free,I.freeC,λp hp=>?_,tracked ⟨oc,hoc,I.freeC x c hc⟩ hs,by simpa using I.len⟩ ⟨c,hs,.inr hc⟩
  ·exact (hs.2 b (Nat.ne_of_lt (Nat.lt_of_lt_of_le (Heap.lt_size e) (I.ok.cab x c hfn hc)))).trans (I.base.keep b o e n hb hx)
  ·obtain ⟨sl,e1⟩:=I.base.slot b o e n hb hx;exact ⟨sl,(hs.2 b (Nat.ne_of_lt (Nat.lt_of_lt_of_le (Heap.lt_size e) (I.ok.cab x c hfn hc)))).trans e1⟩
  ·obtain ⟨o',e1⟩:=I.base.there b o e hx;exact ⟨o',(hs.2 b (Nat.ne_of_lt (Nat.lt_of_lt_of_le (Heap.lt_size e) (I.ok.cab x c hfn hc)))).trans e1⟩
  ·by_cases hj:j=i
   ·subst hj;rw [hi] at e1;cases e1;rw [List.getElem?_set_self hiσ] at e2;cases e2;exact ⟨u,r,.inr ⟨.inl hk,c,hc,hc'⟩⟩
   ·rw [List.getElem?_set_ne (Ne.symm hj)] at e2;obtain ⟨u',r',q⟩:=hl j y v' e1 e2 e3;refine ⟨u',r',?_⟩;rcases q with q|⟨k,c',e,z'⟩
    ·exact .inl q
    ·refine .inr ⟨k,c',e,z'.sameBut hs ?_⟩;rintro rfl;exact hj (T2 hN e1 (I.ok.inj _ _ _ e hc▸hi))
  ·by_cases hcc:c'=c
   ·subst hcc;exact ⟨_,hc'⟩
   ·obtain ⟨w2,z2⟩:=I.cell y c' e;exact ⟨w2,z2.sameBut hs hcc⟩
  ·obtain ⟨e,n,ne,nf,d⟩:=I.pin p hp;refine ⟨(hs.2 p.1 ?_).trans e,n,ne,nf,d⟩;intro q;rw [q,hoc] at e;have q':oc=p.2:=Option.some.inj e;exact d w' (by rw [← q'];exact hocd)
def VO {M:Model} {A:Around} {E:Value->Shared->Prop} {i:Nat} {x:Str} {v:V} {u:Value} {Q:Unit->Shared->Prop} (I:Inv X pins σ H s) (hN:X.N.Nodup) (hi:X.N[i]?=some x) (hx:Loc X.env.scope x) (r:jI v u)
  (h:∀ s',Inv X pins (σ.set i (some v)) H s'->Q () s') (hf:X.fn x=true\/X.env.scope.names.lookup x=some .local:=by first|exact .inl rfl|exact .inr rfl|assumption):wpAny M A (storeName X.env x u) Q E s:=
 RH I hN hi hx r (λs' I' _=>h s' I') hf
def Inv.call' {s':Shared} {ch:List Addr} (I:Inv X pins σ H s) (ho:s'.os=s.os) (u:Un (frs X.stack) ch H H' s.heap s'.heap) (hok:HOk X.prog X.w H' s'.heap) (hg:AllBare s'.gens)
  (hch:∀ b∈ch,(b∈X.ex\/X.s₀.heap.objs.size<=b)/\b≠X.env.locals/\(∀ x c,X.env.cells.lookup x=some c->c≠b)/\∀ p∈X.pn++pins,p.1≠b):Inv X pins σ H' s':=by
 obtain ⟨h',g',d',t',o'⟩:=s';have e:o'=s.os:=ho;subst e;exact I.call (g':=g') (t':=t') (d':=d') u hok hg hch
end
abbrev XK:=Value->Option Addr->Hp->Prop
abbrev St:=List (Option V)
abbrev VK:=V->Hp->Prop
abbrev TE:=St->Hp->VK->Prop
abbrev TT:=St->Hp->(Bool->Hp->Prop)->Prop
abbrev TA:=St->Hp->(List V->Hp->Prop)->Prop
structure Ends where
 nx:St->Hp->Prop
 rt:VK
 bk:St->Hp->Prop:=λ_ _=>False
 ct:St->Hp->Prop:=λ_ _=>False
abbrev TS:=Ends->St->Hp->Prop
def EP (X:Cx) (pins:List (Addr×Obj)) (σ:St) (Q:VK) (u:Value) (s':Shared):Prop:=∃ v H',Inv X pins σ H' s'/\jI v u/\Q v H'
def TP (X:Cx) (pins:List (Addr×Obj)) (σ:St) (Q:Bool->Hp->Prop) (b:Bool) (s':Shared):Prop:=∃ H',Inv X pins σ H' s'/\Q b H'
def AP (X:Cx) (pins:List (Addr×Obj)) (σ:St) (Q:List V->Hp->Prop) (us:List Value) (s':Shared):Prop:=∃ vs H',Inv X pins σ H' s'/\zx vs us/\Q vs H'
def SP (X:Cx) (pins:List (Addr×Obj)) (D:Ends) (f:Flow) (s':Shared):Prop:=
 match f with
 |.next=>∃ σ' H',Inv X pins σ' H' s'/\D.nx σ' H'
 |.brk=>∃ σ' H',Inv X pins σ' H' s'/\D.bk σ' H'
 |.cont=>∃ σ' H',Inv X pins σ' H' s'/\D.ct σ' H'
 |.ret u=>∃ v σ' H',Inv X pins σ' H' s'/\jI v u/\D.rt v H'
def PE (X:Cx) (e:Expr) (t:TE):Prop:=
 ∀ (pins:List (Addr×Obj)) (s:Shared) (σ:St) (H:Hp) (Q:VK),Inv X pins σ H s->t σ H Q->wpAny (model X.prog X.w) X.A (eval e X.env) (EP X pins σ Q) X.xe s
def PT (X:Cx) (e:Expr) (t:TT):Prop:=
 ∀ (pins:List (Addr×Obj)) (s:Shared) (σ:St) (H:Hp) (Q:Bool->Hp->Prop),Inv X pins σ H s->t σ H Q->wpAny (model X.prog X.w) X.A (isTrue e X.env (eval e X.env)) (TP X pins σ Q) X.xe s
def PW (X:Cx) (e:Expr) (t:TT):Prop:=
 ∀ (whole:Sem Value) (pins:List (Addr×Obj)) (s:Shared) (σ:St) (H:Hp) (Q:Bool->Hp->Prop),Inv X pins σ H s->t σ H Q->wpAny (model X.prog X.w) X.A (isTrue e X.env whole) (TP X pins σ Q) X.xe s
def PW.pt {X:Cx} {e:Expr} {t:TT} (h:PW X e t):PT X e t:=h _
def PA (X:Cx) (es:List Expr) (t:TA):Prop:=
 ∀ (pos:Pos) (pins:List (Addr×Obj)) (s:Shared) (σ:St) (H:Hp) (Q:List V->Hp->Prop),Inv X pins σ H s->t σ H Q->wpAny (model X.prog X.w) X.A (spliced (backTo pos (starEach es X.env))) (AP X pins σ Q) X.xe s
def PS (X:Cx) (st:Stmt) (t:TS):Prop:=
 ∀ (pins:List (Addr×Obj)) (s:Shared) (σ:St) (H:Hp) (D:Ends),Inv X pins σ H s->t D σ H->wpAny (model X.prog X.w) X.A (exec st X.env) (SP X pins D) X.xe s
def PSs (X:Cx) (st:List Stmt) (t:TS):Prop:=
 ∀ (pins:List (Addr×Obj)) (s:Shared) (σ:St) (H:Hp) (D:Ends),Inv X pins σ H s->t D σ H->wpAny (model X.prog X.w) X.A (execs st X.env) (SP X pins D) X.xe s
def thn {α:Type} {t:Sem α} {Q Q':α->Shared->Prop} {M:Model} {A:Around} {E:Value->Shared->Prop} {s:Shared} (h:wpAny M A t Q E s) (hQ:∀ a s,Q a s->Q' a s):wpAny M A t Q' E s:=wpAny_mono h hQ λ_ _ x=>x
section
variable {X:Cx}
def qoo (i:Nat):TE:=λσ H Q=>∃ v,σ[i]?=some (some v)/\Q v H
def tC (v:V):TE:=λ_ H Q=>Q v H
def qkA {i:Nat} {x:Str} {pos:Pos} (hN:X.N[i]?=some x) (hv:Vis X.env.scope x) (hd:(x==("__debug__" : Str))=false:=by decide) (hcd:(x==("__classdict__" : Str))=false:=by decide):PE X (.Name x pos) (qoo i):=by
 intro pins s σ H Q I h;obtain ⟨v,e,h⟩:=h;obtain ⟨m,hn,hl⟩:=I.loc;obtain ⟨u,r,l⟩:=hl i x v hN e hv;have fin:EP X pins σ Q u s:=⟨v,H,I,r,h⟩
 rcases l with ⟨hk,hm⟩|⟨hk,c,hc,hcell⟩
 ·exact wpAny_Name (wpAny_loadName_local I.ok.kind hk hn hm fin) hd
 ·rcases hk with hk|hk
  ·exact wpAny_Name (wpAny_loadName_cell I.ok.kind hk hc hcell fin) hd
  ·exact wpAny_Name (wpAny_loadName_free I.ok.kind hk hc hcell fin hcd) hd
def qhy {i j pos}:PE X (.Constant (.int i) j pos) (tC (.int i)):=λ_ _ _ H _ I h=>wpAny_Constant_int ⟨.int i,H,I.tok _,⟨_,rfl⟩,h⟩
def qlG {b j pos}:PE X (.Constant (.bool b) j pos) (tC (.bl b)):=λ_ _ _ H _ I h=>Constant_bool ⟨.bl b,H,I,rfl,h⟩
def qhZ {j pos}:PE X (.Constant .none j pos) (tC .non):=λ_ _ _ H _ I h=>Constant_none ⟨.non,H,I,rfl,h⟩
def qj6 {x j pos}:PE X (.Constant (.str x) j pos) (tC (.str x)):=λ_ _ _ H _ I h=>Calls.Constant_str ⟨.str x,H,I.tok _,⟨_,rfl⟩,h⟩
def Gl (X:Cx) (x:Str):Prop:=X.env.kindOf x=some .globalImplicit
def qeC {E:Value->Shared->Prop} {pins:List (Addr×Obj)} {s:Shared} {σ:St} {H:Hp} {x:Str} {u:Value} {pos:Pos} {Q:Value->Shared->Prop} (I:Inv X pins σ H s) (hg:Gl X x) (hm:X.mg x=some u) (h:Q u s)
  (hd:(x==("__debug__" : Str))=false:=by decide):wpAny (model X.prog X.w) X.A (eval (.Name x pos) X.env) Q E s:=
 Calls.Name_function_global I.ok.kind hg (Calls.loadGlobal_global (by rw [I.ok.glob];exact I.mod.glob.keeps I.bk) hm h) hd
def C2 {E:Value->Shared->Prop} {pins:List (Addr×Obj)} {s:Shared} {σ:St} {H:Hp} {x:Str} {u:Value} {pos:Pos} {Q:Value->Shared->Prop} (I:Inv X pins σ H s) (hg:Gl X x) (hm:X.mg x=none) (hv:bootBuiltins x=some u) (h:Q u s)
  (hn:x≠"__name__" := by decide) (hd:(x==("__debug__" : Str))=false:=by decide):wpAny (model X.prog X.w) X.A (eval (.Name x pos) X.env) Q E s:=by
 obtain ⟨mb,h1,h2⟩:=I.mod.blt;exact Calls.Name_function_global I.ok.kind hg (Calls.loadGlobal_builtin (by rw [I.ok.glob];exact I.mod.glob.keeps I.bk) hm (by rw [I.ok.blt];exact h1.keeps I.bk) ((h2 x hn).trans hv) h) hd
def S9 {x:Str} {v:V} {u:Value} {pos:Pos} (hg:Gl X x) (hm:X.mg x=none) (hv:bootBuiltins x=some u) (r:jI v u) (hn:x≠"__name__" := by decide) (hd:(x==("__debug__" : Str))=false:=by decide):PE X (.Name x pos) (tC v):=
 λ_ _ _ H _ I h=>C2 I hg hm hv ⟨v,H,I,r,h⟩ hn hd
variable {a b:Expr} {ta tb:TE} {pos:Pos}
def tB (t:TE):TT:=λσ H Q=>t σ H λx H1=>∃ c,x=.bl c/\Q c H1
def qiP {e:Expr} {t:TE} (h:PE X e t) (he:∀ whole,isTrue e X.env whole=(do let v←whole;standAt e.pos;holding [v] (truthy v)):=by intro _;rfl):PT X e (tB t):=by
 intro pins s σ H Q I hw;refine isTrue_plain (thn (h pins s σ H _ I hw) λv s1 ⟨x,H1,I1,r1,q1⟩=>?_) (he _);obtain ⟨d,rfl,q⟩:=q1;cases r1;exact wpAny_truthy_bool ⟨H1,I1,q⟩
variable {tA tB':TT} {jZ:List Expr}
def qoE (t u:TT):TT:=λσ H Q=>t σ H λc H1=>if c=true then u σ H1 Q else Q false H1
def tOr (t u:TT):TT:=λσ H Q=>t σ H λc H1=>if c=true then Q true H1 else u σ H1 Q
def qoN (t:TT):TT:=λσ H Q=>t σ H λc H1=>Q (!c) H1
def qeH (ha:PT X a tA):PW X (.BoolOp .And [a] pos) tA:=by
 intro wh pins s σ H Q I h;refine isTrue_and (thn (ha pins s σ H Q I h) λc s1 e=>?_);cases c with
 |true=>exact isTrue_and_nil e
 |false=>exact e
def qgZ (ha:PT X a tA):PW X (.BoolOp .Or [a] pos) tA:=by
 intro wh pins s σ H Q I h;refine isTrue_or (thn (ha pins s σ H Q I h) λc s1 e=>?_);cases c with
 |false=>exact isTrue_or_nil e
 |true=>exact e
def qi7 (ha:PT X a tA) (hb:PW X (.BoolOp .And (b::jZ) pos) tB'):PW X (.BoolOp .And (a::b::jZ) pos) (qoE tA tB'):=by
 intro wh pins s σ H Q I h;refine isTrue_and (thn (ha pins s σ H _ I h) λc s1 ⟨H1,I1,q1⟩=>?_);cases c with
 |true=>exact hb wh pins s1 σ H1 Q I1 q1
 |false=>exact ⟨H1,I1,q1⟩
def qlV (ha:PT X a tA) (hb:PW X (.BoolOp .Or (b::jZ) pos) tB'):PW X (.BoolOp .Or (a::b::jZ) pos) (tOr tA tB'):=by
 intro wh pins s σ H Q I h;refine isTrue_or (thn (ha pins s σ H _ I h) λc s1 ⟨H1,I1,q1⟩=>?_);cases c with
 |true=>exact ⟨H1,I1,q1⟩
 |false=>exact hb wh pins s1 σ H1 Q I1 q1
def qjX (ha:PT X a tA):PT X (.UnaryOp .Not a pos) (qoN tA):=by
 intro pins s σ H Q I h;exact isTrue_not (ha pins s σ H (λc H1=>Q (!c) H1) I h)
def qlL (ta tb:TE):TE:=λσ H Q=>ta σ H λx H1=>∃ c,x=.bl c/\if c=true then tb σ H1 Q else Q (.bl false) H1
def qme (ta:TE):TE:=λσ H Q=>ta σ H λx H1=>∃ c,x=.bl c/\Q (.bl (!c)) H1
def qjN {op} {t:TE} (h:PE X a t):PE X (.BoolOp op [a] pos) t:=λpins s σ H Q I hw=>BoolOp_one (h pins s σ H Q I hw)
def qkz (ha:PE X a ta) (hb:PE X (.BoolOp .And (b::jZ) pos) tb):PE X (.BoolOp .And (a::b::jZ) pos) (qlL ta tb):=by
 intro pins s σ H Q I h;refine BoolOp_and (thn (ha pins s σ H _ I h) λv s1 ⟨x,H1,I1,r1,q1⟩=>?_);obtain ⟨c,rfl,q1⟩:=q1;cases r1;refine wpAny_truthy_bool ?_;cases c with
 |true=>exact hb pins s1 σ H1 Q I1 q1
 |false=>exact ⟨.bl false,H1,I1,rfl,q1⟩
def qg7 (ha:PE X a ta):PE X (.UnaryOp .Not a pos) (qme ta):=by
 intro pins s σ H Q I h;refine UnaryOp_ (thn (ha pins s σ H _ I h) λv s1 ⟨x,H1,I1,r1,q1⟩=>?_);obtain ⟨c,rfl,q1⟩:=q1;cases r1;exact not_of (wpAny_truthy_bool ⟨.bl (!c),H1,I1,rfl,q1⟩)
def tIf (t:TT) (ta tb:TE):TE:=λσ H Q=>t σ H λc H1=>if c=true then ta σ H1 Q else tb σ H1 Q
def qcg {c:Expr} (hc:PT X c tA) (ha:PE X a ta) (hb:PE X b tb):PE X (.IfExp c a b pos) (tIf tA ta tb):=by
 intro pins s σ H Q I h;refine wpAny_IfExp (thn (hc pins s σ H _ I h) λd s1 ⟨H1,I1,q1⟩=>?_);cases d with
 |true=>exact ha pins s1 σ H1 Q I1 q1
 |false=>exact hb pins s1 σ H1 Q I1 q1
end
def SqL (K:Frg) (H:Hp) (a:Addr) (xs:List V):Prop:=
 Rd H a (.lst xs) ∨
  ∃ (o:Obj) (its:Array Value) (n:Nat),K.lookup a=some o/\o.cls=.type "list"/\o.dict=none/\o.data=.seq its n/\its.size<=sizeLine/\zx xs its.toList
def SqT (K:Frg) (H:Hp) (a:Addr) (xs:List V):Prop:=
 Rd H a (.tup xs) ∨
  ∃ (o:Obj) (its:Array Value) (n:Nat),K.lookup a=some o/\o.cls=.type "tuple"/\o.data=.seq its n/\its.size<=sizeLine/\zx xs its.toList
def qom:Value->Option V
 |.none=>some .non
 |.bool b=>some (.bl b)
 |.int i _=>some (.int i)
 |.str x _=>some (.str x)
 |.bytes b _=>some (.byt b)
 |.float b _=>some (.flt b)
 |.ref a=>some (.ref a)
 |.type n=>some (.ty n)
 |_=>none
def jI.abs {x:V} {u:Value} (r:jI x u):qom u=some x:=by
 cases x with
 |non=>cases r;rfl
 |bl _=>cases r;rfl
 |int _=>obtain ⟨t,rfl⟩:=r;rfl
 |str _=>obtain ⟨t,rfl⟩:=r;rfl
 |byt _=>obtain ⟨t,rfl⟩:=r;rfl
 |flt _=>obtain ⟨t,rfl⟩:=r;rfl
 |ref _=>cases r;rfl
 |ty _=>cases r;rfl
def jI.inj {x y:V} {u:Value} (r:jI x u) (q:jI y u):x=y:=Option.some.inj (r.abs.symm.trans q.abs)
def zx.inj:∀ {xs ys:List V} {us:List Value},zx xs us->zx ys us->xs=ys
 |_,_,_,.nil,.nil=>rfl
 |_,_,_,.cons r t,.cons r' t'=>by rw [r.inj r',zx.inj t t']
section
variable {X:Cx} {pins:List (Addr×Obj)} {σ:St} {H:Hp} {s:Shared} {a:Addr} {xs ys:List V}
def SqL.of {K:Frg} (h:H a=some (.lst xs)):SqL K H a xs:=.inl (.inl h)
def SqT.of {K:Frg} (h:H a=some (.tup xs)):SqT K H a xs:=.inl (.inl h)
def Inv.list (I:Inv X pins σ H s) (h:SqL X.K H a xs):∃ its:List Value,zx xs its/\PlainL s.heap a its.toArray/\xs.length<=sizeLine:=by
 rcases h with h|⟨o,its,n,hk,hc,hd,hs,hz,r⟩
 ·obtain ⟨z,its,n,r,e⟩:=h.ok I.hok;exact ⟨its,r,⟨_,n,e,rfl,rfl,rfl⟩,z⟩
 ·refine ⟨its.toList,r,⟨o,n,I.kIn a o hk,hc,hd,by simpa using hs⟩,?_⟩;have e:=r.length;simp only [Array.length_toList] at e;omega
def Inv.tuple (I:Inv X pins σ H s) (h:SqT X.K H a xs):∃ its:List Value,zx xs its/\IsTup s.heap a its.toArray/\xs.length<=sizeLine:=by
 rcases h with h|⟨o,its,n,hk,hc,hs,hz,r⟩
 ·obtain ⟨z,its,r,p⟩:=h.ok I.hok;exact ⟨its,r,p,z⟩
 ·refine ⟨its.toList,r,⟨o,I.kIn a o hk,hc,n,by simpa using hs⟩,?_⟩;have e:=r.length;simp only [Array.length_toList] at e;omega
def Inv.list_inj (I:Inv X pins σ H s) (h:SqL X.K H a xs) (h':SqL X.K H a ys):xs=ys:=by
 obtain ⟨its,r,⟨o,n,e,_,_,d⟩,_⟩:=I.list h;obtain ⟨its',r',⟨o',n',e',_,_,d'⟩,_⟩:=I.list h';rw [e] at e';cases e';rw [d] at d';injection d' with d1 _;have:its=its':=by simpa using congrArg Array.toList d1
 subst this;exact r.inj r'
def Inv.tuple_inj (I:Inv X pins σ H s) (h:SqT X.K H a xs) (h':SqT X.K H a ys):xs=ys:=by
 obtain ⟨its,r,⟨o,e,_,n,d⟩,_⟩:=I.tuple h;obtain ⟨its',r',⟨o',e',_,n',d'⟩,_⟩:=I.tuple h';rw [e] at e';cases e';rw [d] at d';injection d' with d1 _;have:its=its':=by simpa using congrArg Array.toList d1
 subst this;exact r.inj r'
end
abbrev Cx.wish (X:Cx) (E:Value->Shared->Prop):Cx:={ X with xe:=E }
abbrev Cx.nox (X:Cx):Cx:=X.wish λ_ _=>False
def Cx.Ok.wish {X:Cx} (ok:X.Ok) (E:Value->Shared->Prop):(X.wish E).Ok:=
 ⟨ok.mod,ok.kind,ok.glob,ok.blt,ok.above,ok.inj,ok.has,ok.cab,ok.hd,ok.frames,ok.stk,ok.exf,ok.bs,ok.bsz,ok.noex,ok.exfs,ok.funs,ok.frf⟩
def Cx.Ok.unwish {X:Cx} {E:Value->Shared->Prop} (ok:(X.wish E).Ok):X.Ok:=
 ⟨ok.mod,ok.kind,ok.glob,ok.blt,ok.above,ok.inj,ok.has,ok.cab,ok.hd,ok.frames,ok.stk,ok.exf,ok.bs,ok.bsz,ok.noex,ok.exfs,ok.funs,ok.frf⟩
section
variable {X:Cx} {pins:List (Addr×Obj)} {σ:St} {H:Hp} {s:Shared} {E:Value->Shared->Prop}
def Inv.wish (I:Inv X pins σ H s) (E:Value->Shared->Prop):Inv (X.wish E) pins σ H s:=⟨I.ok.wish E,I.os,I.bare,I.base,I.loc,I.cell,I.free,I.freeC,I.pin,I.hok,I.len⟩
def Inv.unwish (I:Inv (X.wish E) pins σ H s):Inv X pins σ H s:=⟨I.ok.unwish,I.os,I.bare,I.base,I.loc,I.cell,I.free,I.freeC,I.pin,I.hok,I.len⟩
def SP.unwish {D:Ends} {f:Flow} {s':Shared} (h:SP (X.wish E) pins D f s'):SP X pins D f s':=by
 cases f with
 |next=>obtain ⟨σ',H',I,q⟩:=h;exact ⟨σ',H',I.unwish,q⟩
 |brk=>obtain ⟨σ',H',I,q⟩:=h;exact ⟨σ',H',I.unwish,q⟩
 |cont=>obtain ⟨σ',H',I,q⟩:=h;exact ⟨σ',H',I.unwish,q⟩
 |ret u=>obtain ⟨v,σ',H',I,r,q⟩:=h;exact ⟨v,σ',H',I.unwish,r,q⟩
def PSs.nox {st:List Stmt} {t:TS} (h:PSs X.nox st t):PSs X st t:=λpins s σ H D I hw=>
 wpAny_mono (h pins s σ H D (I.wish _) hw) (λ_ _ q=>q.unwish) λ_ _ z=>False.elim z
end
section
variable {X:Cx} {st:Stmt} {jZ:List Stmt} {t u:TS} {e:Expr} {te:TE} {pos:Pos}
def qng:TS:=λD σ H=>D.nx σ H
def qor (t u:TS):TS:=λD σ H=>t { D with nx:=u D } σ H
def qel:PSs X [] qng:=λ_ _ σ H _ I h=>wpAny_execs_nil ⟨σ,H,I,h⟩
def qbS (h1:PS X st t) (h2:PSs X jZ u):PSs X (st::jZ) (qor t u):=by
 intro pins s σ H D I h;refine wpAny_execs_cons (thn (h1 pins s σ H { D with nx:=u D } I h) λf s1 q=>?_);cases f with
 |next=>
  obtain ⟨σ',H',I',q⟩:=q;exact h2 pins s1 σ' H' D I' q
 |ret v=>exact q
 |brk=>exact q
 |cont=>exact q
def qfJ (h1:PS X st t):PSs X [st] t:=by
 intro pins s σ H D I h;refine wpAny_execs_cons (thn (h1 pins s σ H D I h) λf s1 q=>?_);cases f with
 |next=>exact wpAny_execs_nil q
 |ret v=>exact q
 |brk=>exact q
 |cont=>exact q
def Inv.quiet {pins:List (Addr×Obj)} {σ:St} {H:Hp} {s:Shared} (I:Inv X pins σ H s):interactive X.env=false:=by simp [interactive,I.ok.kind]
def qm4 (te:TE):TS:=λD σ H=>te σ H λ_ H1=>D.nx σ H1
def qeu (he:PE X e te) (hs:swapsWith e none pos.line X.env=pure false:=by rfl):PS X (.Expr e pos) (qm4 te):=by
 intro pins s σ H D I h;exact wpAny_Expr_any (thn (he pins s σ H _ I h) λv s1 ⟨x,H1,I1,r1,q1⟩=>⟨σ,H1,I1,q1⟩) I.quiet hs
def qoO (te:TE):TS:=λD σ H=>te σ H D.rt
def qhz (he:PE X e te):PS X (.Return (some e) pos) (qoO te):=by
 intro pins s σ H D I h;exact wpAny_Return_some (thn (he pins s σ H _ I h) λv s1 ⟨x,H1,I1,r1,q1⟩=>⟨x,σ,H1,I1,r1,q1⟩)
def qod (c:TT) (t u:TS):TS:=λD σ H=>c σ H λb H1=>if b=true then t D σ H1 else u D σ H1
def qmC {c:Expr} {a b:List Stmt} {tc:TT} (hc:PT X c tc) (ha:PSs X a t) (hb:PSs X b u):PS X (.If c a b pos) (qod tc t u):=by
 intro pins s σ H D I h;refine wpAny_If (thn (hc pins s σ H _ I h) λd s1 ⟨H1,I1,q1⟩=>?_);cases d with
 |true=>exact ha pins s1 σ H1 D I1 q1
 |false=>exact hb pins s1 σ H1 D I1 q1
end
abbrev TG:=V->St->Hp->(St->Hp->Prop)->Prop
abbrev TGs:=List V->St->Hp->(St->Hp->Prop)->Prop
def PG (X:Cx) (target:Expr) (t:TG):Prop:=
 ∀ (pins:List (Addr×Obj)) (s:Shared) (σ:St) (H:Hp) (v:V) (u:Value) (Q:St->Hp->Prop),Inv X pins σ H s->jI v u->t v σ H Q ->
  wpAny (model X.prog X.w) X.A (assign target X.env u) (λ_ s'=>∃ σ' H',Inv X pins σ' H' s'/\Q σ' H') X.xe s
def PGs (X:Cx) (ts:List Expr) (t:TGs):Prop:=
 ∀ (pins:List (Addr×Obj)) (s:Shared) (σ:St) (H:Hp) (vs:List V) (us:List Value) (Q:St->Hp->Prop),Inv X pins σ H s->zx vs us->t vs σ H Q ->
  wpAny (model X.prog X.w) X.A (assignInOrder ((assignEach ts X.env).map (·.2)) us) (λ_ s'=>∃ σ' H',Inv X pins σ' H' s'/\Q σ' H') X.xe s
abbrev qmh:=V->V->V->Hp->(Hp->Prop)->Prop
def qn0 (X:Cx) (t:qmh):Prop:=
 ∀ (pins:List (Addr×Obj)) (s:Shared) (σ:St) (H:Hp) (o i v:V) (ov iv u:Value) (Q:Hp->Prop),Inv X pins σ H s->jI o ov->jI i iv->jI v u->t o i v H Q ->
  wpAny (model X.prog X.w) X.A (setItem ov iv u) (λ_ s'=>∃ H',Inv X pins σ H' s'/\Q H') X.xe s
abbrev TIp:=V->V->Hp->VK->Prop
def PIp (X:Cx) (op:Operator) (t:TIp):Prop:=
 ∀ (pins:List (Addr×Obj)) (s:Shared) (σ:St) (H:Hp) (x y:V) (v u:Value) (Q:VK),Inv X pins σ H s->jI x v->jI y u->t x y H Q ->
  wpAny (model X.prog X.w) X.A (inplaceOp op v u) (EP X pins σ Q) X.xe s
section
variable {X:Cx} {pos:Pos}
def qfF (i:Nat):TG:=λv σ H Q=>Q (σ.set i (some v)) H
def qgh {i:Nat} {x:Str} (hN:X.N.Nodup) (hi:X.N[i]?=some x) (hx:Loc X.env.scope x) (hf:X.fn x=true\/X.env.scope.names.lookup x=some .local:=by first|exact .inl rfl|exact .inr rfl|assumption):PG X (.Name x pos) (qfF i):=by
 intro pins s σ H v u Q I r h;exact wpAny_assign_Name (VO I hN hi hx r (λs' I'=>⟨_,H,I',h⟩) hf)
def KO:TGs:=λvs σ H Q=>vs=[]/\Q σ H
def jJ (t:TG) (u:TGs):TGs:=λvs σ H Q=>∃ v r,vs=v::r/\t v σ H λσ' H'=>u r σ' H' Q
def qgn:PGs X [] KO:=by
 intro pins s σ H vs us Q I r h;obtain ⟨e,h⟩:=h;subst e;cases r;exact assignInOrder_nil ⟨σ,H,I,h⟩
def qbB {e:Expr} {es:List Expr} {t:TG} {u:TGs} (h1:PG X e t) (h2:PGs X es u)
  (hs:(assignEach (e::es) X.env).map (·.2)=assign e X.env::(assignEach es X.env).map (·.2):=by rfl):PGs X (e::es) (jJ t u):=by
 intro pins s σ H vs us Q I r h;obtain ⟨v,vr,e1,h⟩:=h;subst e1;cases r with
 |cons r rr=>
  rw [hs];refine assignInOrder_cons (thn (h1 pins s σ H _ _ _ I r h) λ_ s1 ⟨σ1,H1,I1,q1⟩=>?_);exact h2 pins s1 σ1 H1 _ _ Q I1 rr q1
def KA (K:Frg) (n:Nat) (t:TGs):TG:=λv σ H Q=>∃ a xs,v=.ref a/\SqT K H a xs/\xs.length=n/\t xs σ H Q
def qh2 {es:List Expr} {k:Nat} {t:TGs} {n:Nat} (hc:X.calm=true) (h:PGs X es t)
  (hn:(assignEach es X.env).length=n:=by rfl) (hst:(assignEach es X.env).findIdx? (·.1)=none:=by rfl):PG X (.Tuple es k pos) (KA X.K n t):=by
 intro pins s σ H v u Q I r hw;obtain ⟨a,xs,e1,hq,hl,hw⟩:=hw;subst e1;cases r;obtain ⟨its,rv,ht,hz⟩:=I.tuple hq;refine assign_Tuple_tuple (I.ok.hd hc) ht (by simp [hn,← hl,rv.length]) hst λh' hx=>?_;have I1:Inv X pins σ H { s with heap:=h' }:=I.kept (t':=s.toks) λb o e=>hx b o (Nat.ne_of_lt (Heap.lt_size e)) e;exact h pins _ σ H xs _ Q I1 (by simpa using rv) hw
def qok (to ti:TE) (t:qmh):TG:=λv σ H Q=>to σ H λo H1=>ti σ H1 λi H2=>t o i v H2 λH3=>Q σ H3
def qgJ {o i:Expr} {to ti:TE} {t:qmh} (ho:PE X o to) (hi:PE X i ti) (hs:qn0 X t)
  (ha:∀ v,assign (.Subscript o i pos) X.env v=(do
   let ov←holding [v] (eval o X.env)
   let iv←holding [v,ov] (eval i X.env)
   standAt pos
   holding [v,ov,iv] (setItem ov iv v)
   release [v,ov,iv] []):=by intro _;rfl):PG X (.Subscript o i pos) (qok to ti t):=by
 intro pins s σ H v u Q I r h;rw [ha];refine wpAny_bind (wpAny_holding (thn (ho pins s σ H _ I h) λov s1 ⟨x,H1,I1,r1,q1⟩=>?_));refine wpAny_bind (wpAny_holding (thn (hi pins s1 σ H1 _ I1 q1) λiv s2 ⟨y,H2,I2,r2,q2⟩=>?_));refine wpAny_bind (wpAny_standAt (wpAny_bind (wpAny_holding (thn (hs pins s2 σ H2 x y v ov iv u _ I2 r1 r2 r q2) λ_ s3 ⟨H3,I3,q3⟩=>?_))));exact wpAny_release ⟨σ,H3,I3,q3⟩
def qlH (te:TE) (g:TG):TS:=λD σ H=>te σ H λx H1=>g x σ H1 D.nx
def qk0 {tg e:Expr} {te:TE} {g:TG} (he:PE X e te) (hg:PG X tg g) (hs:swapsWithSole [tg] e pos.line X.env=pure false:=by rfl) (hw:swappedStores [tg] e X.env=pure none:=by rfl)
  (h1:(assignEach [tg] X.env).map (·.2)=[assign tg X.env]:=by rfl):PS X (.Assign [tg] e pos) (qlH te g):=by
 intro pins s σ H D I h;refine wpAny_Assign_stores (thn (he pins s σ H _ I h) λv s1 ⟨x,H1,I1,r1,q1⟩=>?_) hs hw;rw [h1];exact thn (hg pins s1 σ H1 x v _ I1 r1 q1) λ_ s2 q=>q
def qg6 {i:Nat} {x:Str} {e:Expr} {te:TE} {pos':Pos} (hN:X.N.Nodup) (hi:X.N[i]?=some x) (hx:Loc X.env.scope x) (he:PE X e te) (hs:swapsWith e (some (.Name x pos')) pos.line X.env=pure false:=by rfl) (hf:X.fn x=true\/X.env.scope.names.lookup x=some .local:=by first|exact .inl rfl|exact .inr rfl|assumption) :
  PS X (.Assign [.Name x pos'] e pos) (qlH te (qfF i)):=by
 intro pins s σ H D I h;refine wpAny_Assign_Name (thn (he pins s σ H _ I h) λv s1 ⟨y,H1,I1,r1,q1⟩=>?_) hs;exact VO I1 hN hi hx r1 (λs2 I2=>⟨_,H1,I2,q1⟩) hf
def qoB (i j:Nat) (ta:TA):TS:=λD σ H=>ta σ H λvs H1=>∃ v w,vs=[v,w]/\D.nx ((σ.set i (some v)).set j (some w)) H1
def qjJ {i j:Nat} {x y:Str} {a b:Expr} {ta:TA} {px py pt:Pos} {kt k2 pt2} (hc:X.calm=true) (hN:X.N.Nodup) (hi:X.N[i]?=some x) (hj:X.N[j]?=some y) (hij:i≠j)
  (hx:X.env.scope.names.lookup x=some .local) (hy:X.env.scope.names.lookup y=some .local) (ha:PA X [a,b] ta)
  (hw:swappedStores [.Tuple [.Name x px,.Name y py] kt pt] (.Tuple [a,b] k2 pt2) X.env=pure (some [x,y]))
  (hs:swapsWithSole [.Tuple [.Name x px,.Name y py] kt pt] (.Tuple [a,b] k2 pt2) pos.line X.env=pure false:=by rfl) :
  PS X (.Assign [.Tuple [.Name x px,.Name y py] kt pt] (.Tuple [a,b] k2 pt2) pos) (qoB i j ta):=by
 intro pins s σ H D I h;rw [exec_Assign_arm];refine wpAny_bind (wpAny_standAt ?_);rw [hs];refine wpAny_bind (wpAny_pure ?_);rw [if_neg (by decide)];refine wpAny_bind (Tuple_ (thn (ha _ pins s σ H _ I h) λus s1 ⟨vs,H1,I1,r1,q1⟩=>?_));obtain ⟨v,w,e1,q1⟩:=q1;subst e1;obtain ⟨u1,u2,rfl,rv,rw'⟩:∃ u1 u2,us=[u1,u2]/\jI v u1/\jI w u2:=by
  cases r1 with
  |cons p q=>
   cases q with
   |cons p' q'=>
    cases q';exact ⟨_,_,rfl,p,p'⟩
 refine wpAny_newObj_type ?_ (by show 2<=sizeLine;decide);have I2:Inv X pins σ H1 { s1 with heap:=s1.heap.push { cls:=.type "tuple",data:=.seq [u1,u2].toArray } }:=I1.kept (t':=s1.toks) λb o e=>Heap.get?_push_of_some _ e;rw [hw];refine wpAny_bind (wpAny_pure ?_);show wpAny (model X.prog X.w) X.A (do rule "assign.swapped-stores";let items←unpackItems (.ref s1.heap.objs.size) 2 none;assignInOrder [λv=>bindName X.env y v,λv=>bindName X.env x v] items.reverse;pure Flow.next) _ _ _;refine wpAny_bind (wpAny_rule (wpAny_bind (unpackItems_tuple (items:=#[u1,u2]) (I.ok.hd hc) (IsTup.new s1.heap _) λh' hx'=>?_)));have I3:=I2.kept (h':=h') (t':=s1.toks) λb o e=>hx' b o (Nat.ne_of_lt (Heap.lt_size e)) e;show wpAny _ _ (assignInOrder [λv=>bindName X.env y v,λv=>bindName X.env x v] [u2,u1] >>= λ_=>pure Flow.next) _ _ _;refine wpAny_bind (assignInOrder_cons (wpAny_bindName (VO I3 hN hj (.inl hy) rw' (λs2 I4=>?_) (.inr hy))));refine assignInOrder_cons (wpAny_bindName (VO I4 hN hi (.inl hx) rv (λs3 I5=>assignInOrder_nil (wpAny_pure ?_)) (.inr hx)));rw [List.set_comm _ _ (Ne.symm hij)] at I5;exact ⟨_,H1,I5,q1⟩
def qog (i:Nat) (te:TE) (ti:TIp):TS:=λD σ H=>∃ x,σ[i]?=some (some x)/\te σ H λy H1=>ti x y H1 λz H2=>D.nx (σ.set i (some z)) H2
def qhM {i:Nat} {x:Str} {e:Expr} {te:TE} {op:Operator} {ti:TIp} {pos':Pos} (hN:X.N.Nodup) (hi:X.N[i]?=some x) (hx:Loc X.env.scope x) (he:PE X e te) (ho:PIp X op ti) (hf:X.fn x=true\/X.env.scope.names.lookup x=some .local:=by first|exact .inl rfl|exact .inr rfl|assumption) :
  PS X (.AugAssign (.Name x pos') op e pos) (qog i te ti):=by
 intro pins s σ H D I h;obtain ⟨v,e1,h⟩:=h;obtain ⟨m,hn,hl⟩:=I.loc;have vis:Vis X.env.scope x:=by rcases hx with k|k;exact .inl k;exact .inr (.inl k)
 obtain ⟨u,r,l⟩:=hl i x v hi e1 vis;refine wpAny_AugAssign_Name ?_;have go:wpAny (model X.prog X.w) X.A (eval e X.env) (λw s₂=>wpAny (model X.prog X.w) X.A (inplaceOp op u w) (λr s₃=>wpAny (model X.prog X.w) X.A (storeName X.env x r) (λ_=>SP X pins D .next) X.xe s₃) X.xe s₂) X.xe s:=by
  refine thn (he pins s σ H _ I h) λw s1 ⟨y,H1,I1,r1,q1⟩=>?_;refine thn (ho pins s1 σ H1 v y u w _ I1 r r1 q1) λz s2 ⟨zv,H2,I2,r2,q2⟩=>?_;exact VO I2 hN hi hx r2 (λs3 I3=>⟨_,H2,I3,q2⟩) hf
 rcases l with ⟨hk,hm⟩|⟨hk,c,hc,hcell⟩
 ·exact wpAny_loadName_local I.ok.kind hk hn hm go
 ·rcases hk with hk|hk
  ·exact wpAny_loadName_cell I.ok.kind hk hc hcell go
  ·rcases hx with k|k
   ·have:X.env.scope.names.lookup x=some .free:=hk;rw [k] at this;cases this
   ·have:X.env.scope.names.lookup x=some .free:=hk;rw [k] at this;cases this
def ipI (f:Int->Int->Int):TIp:=λx y H Q=>∃ i j,x=.int i/\y=.int j/\Q (.int (f i j)) H
def qjf:PIp X .Add (ipI λi j=>i+j):=by
 intro pins s σ H x y v u Q I r1 r2 h;obtain ⟨i,j,e1,e2,q⟩:=h;subst e1;subst e2;obtain ⟨t,rfl⟩:=r1;obtain ⟨t',rfl⟩:=r2;exact iadd_int ⟨.int _,H,I.tok _,⟨_,rfl⟩,q⟩
end
section
variable {X:Cx} {pos:Pos}
def qi1 (c:TT) (tb:TS):TS:=λD σ H=>∃ W:Nat->St->Hp->Prop,(∃ m,W m σ H)/\∀ m σ H,W m σ H ->
 c σ H λb H1=>if b=true then ∃ N:St->Hp->Prop,(∀ σ' H',N σ' H'->∃ m',m'<m/\W m' σ' H')/\tb { D with nx:=N,ct:=N,bk:=D.nx } σ H1 else D.nx σ H1
def qbR {c:Expr} {body:List Stmt} {tc:TT} {tb:TS} (hp:PassesOwn (model X.prog X.w) X.A X.env X.xe) (hc:PT X c tc) (hb:PSs X body tb):PS X (.While c body [] pos) (qi1 tc tb):=by
 intro pins s σ H D I h;obtain ⟨W,⟨m0,w0⟩,turn⟩:=h;refine wpAny_While (codeAny_whileLoop (λn s'=>∃ σ' H',Inv X pins σ' H' s'/\W n σ' H') ?_ m0 ⟨σ,H,I,w0⟩);rintro n s1 ⟨σ1,H1,I1,w1⟩;refine wpAny_passesOwn hp (thn (hc pins s1 σ1 H1 _ I1 (turn n σ1 H1 w1)) λb s2 ⟨H2,I2,q2⟩=>?_);cases b with
 |true=>
  obtain ⟨N,hN,q2⟩:=q2;rw [if_pos rfl];refine wpAny_passesOwn hp (thn (hb pins s2 σ1 H2 _ I2 q2) λf s3 q3=>?_);cases f with
  |next=>
   obtain ⟨σ3,H3,I3,n3⟩:=q3;obtain ⟨m',hm,w3⟩:=hN σ3 H3 n3;exact ⟨m',hm,σ3,H3,I3,w3⟩
  |cont=>
   obtain ⟨σ3,H3,I3,n3⟩:=q3;obtain ⟨m',hm,w3⟩:=hN σ3 H3 n3;exact ⟨m',hm,σ3,H3,I3,w3⟩
  |brk=>exact q3
  |ret v=>exact q3
 |false=>
  rw [if_neg Bool.false_ne_true];exact wpAny_execs_nil ⟨σ1,H2,I2,q2⟩
end
structure It where
 go:Nat->Hp->Prop
 yld:Nat->Hp->V->Hp->Prop
 stop:Nat->Hp->Prop
def TW (X:Cx) (pins:List (Addr×Obj)) (H:Hp) (b:Addr):Prop:=
 H b=none/\b≠X.env.locals/\b∉X.fs/\(b∈X.ex\/X.s₀.heap.objs.size<=b)/\(∀ x c,X.env.cells.lookup x=some c->c≠b)/\∀ p∈X.pn++pins,p.1≠b
def Inv.fpOk {X:Cx} {pins:List (Addr×Obj)} {σ:St} {H H':Hp} {s:Shared} {b:Addr} (I:Inv X pins σ H s) (hb:s.heap.objs.size<=b) (hn:H' b=none):TW X pins H' b:=by
 refine ⟨hn,Nat.ne_of_gt (Nat.lt_of_lt_of_le I.lt hb),I.nofs hb,.inr (Nat.le_trans I.sz hb),λx c e z=>?_,λp hp z=>?_⟩
 ·obtain ⟨v,q⟩:=I.cell x c e;exact absurd (Nat.lt_of_lt_of_le q.lt (by rw [z];exact hb)) (Nat.lt_irrefl _)
 ·exact absurd (Nat.lt_of_lt_of_le (Heap.lt_size (I.pin p hp).1) (by rw [z];exact hb)) (Nat.lt_irrefl _)
structure Turn (P:Program) (w:World) (K:Frg) (tg:Expr) (J:It) (fp:List Addr) (it:Addr) (tn:Nat->Heap->Prop):Prop where
 mem:it∈fp
 obj:∀ i h,tn i h->∀ b∈fp,∃ o,h.get? b=some o/\∀ v,o.data≠.cell v
 keep:∀ i h h',tn i h->(∀ b∈fp,∀ o,h.get? b=some o->h'.get? b=some o)->tn i h'
 item:∀ (X:Cx),X.prog=P->X.w=w->X.K=K->X.calm=true->∀ (i:Nat) (pins:List (Addr×Obj)) (s:Shared) (σ:St) (H:Hp) (E:Value->Shared->Prop),Inv X pins σ H s->(∀ b∈fp,TW X pins H b)->tn i s.heap->J.go i H ->
  wpAny (model P w) X.A (pyNext (.ref it)) (λr s1=>∃ u,r=some u /\
   wpAny (model P w) X.A (letOwnedTupleGo tg (.ref it) u) (λ_ s2=>∃ x H',Inv X pins σ H' s2/\jI x u/\J.yld i H x H'/\tn (i+1) s2.heap/\∀ b∈fp,H' b=none) E s1) E s
 done:∀ (X:Cx),X.prog=P->X.w=w->X.K=K->X.calm=true->∀ (i:Nat) (pins:List (Addr×Obj)) (s:Shared) (σ:St) (H:Hp) (E:Value->Shared->Prop),Inv X pins σ H s->(∀ b∈fp,TW X pins H b)->tn i s.heap->J.stop i H ->
  wpAny (model P w) X.A (pyNext (.ref it)) (λr s1=>r=none/\Inv X pins σ H s1) E s
 self:∀ (A:Around) (i:Nat) (s:Shared) (Q:Value->Shared->Prop) (E:Value->Shared->Prop),tn i s.heap->Q (.ref it) s->wpAny (model P w) A (pyIter (.ref it)) Q E s
abbrev TI:=St->Hp->(It->Hp->Prop)->Prop
def PIE (X:Cx) (pins:List (Addr×Obj)) (σ:St) (tg:Expr) (R:It->Hp->Prop) (itv:Value) (s2:Shared):Prop:=
 ∃ (it:Addr) (fp:List Addr) (tn:Nat->Heap->Prop) (J:It) (H':Hp),itv=.ref it/\Inv X pins σ H' s2/\Turn X.prog X.w X.K tg J fp it tn/\tn 0 s2.heap/\(∀ b∈fp,TW X pins H' b)/\R J H'
def PI (X:Cx) (tg iter:Expr) (wi:TI):Prop:=
 ∀ (pins:List (Addr×Obj)) (s:Shared) (σ:St) (H:Hp) (R:It->Hp->Prop),Inv X pins σ H s->wi σ H R ->
  wpAny (model X.prog X.w) X.A (eval iter X.env) (λv s1=>wpAny (model X.prog X.w) X.A (pyIter v) (PIE X pins σ tg R) X.xe s1) X.xe s
def qfu {M:Model} {A:Around} {E:Value->Shared->Prop} {s:Shared} {tg:Expr} {it:Addr} {u:Value} {o:Obj} {n:String} {vs:Array Value} {Q:Unit->Shared->Prop} (ho:s.heap.get? it=some o) (hc:o.cls=.type n) (hd:o.data=.fields vs)
    (hn:["enumerate","zip","dict_itemiterator","dict_reverseitemiterator","odict_iterator","itertools.zip_longest","itertools.pairwise"].contains n=false) (hQ:Q () s):wpAny M A (letOwnedTupleGo tg (.ref it) u) Q E s:=by
  unfold letOwnedTupleGo;cases tg<;>first
    |exact wpAny_pure hQ
    | (cases u<;>first
        |exact wpAny_pure hQ
        | (refine wpAny_bind (wpAny_load ho ?_)
           rw [hc,hd];show wpAny M A (if (["enumerate","zip","dict_itemiterator","dict_reverseitemiterator","odict_iterator","itertools.zip_longest","itertools.pairwise"].contains n&&vs[0]?==some (rawInt _))=true then _ else _) Q E s;rw [if_neg (by intro h;rw [hn,Bool.false_and] at h;cases h)];exact wpAny_pure hQ))
def Itl (K:Frg) (a:Addr):It:=
 ⟨λi H=>∃ xs x,SqL K H a xs/\xs[i]?=some x,λi H x H'=>H'=H/\∀ xs,SqL K H a xs->xs[i]?=some x,λi H=>∃ xs,SqL K H a xs/\xs.length<=i⟩
def Itt (K:Frg) (a:Addr):It:=
 ⟨λi H=>∃ xs x,SqT K H a xs/\xs[i]?=some x,λi H x H'=>H'=H/\∀ xs,SqT K H a xs->xs[i]?=some x,λi H=>∃ xs,SqT K H a xs/\xs.length<=i⟩
def Itr (lo:Int) (n:Nat):It:=⟨λi _=>i<n,λi H x H'=>H'=H/\x=.int (lo+i),λi _=>n<=i⟩
def qat {P:Program} {w:World} {K:Frg} {tg:Expr} (a it:Addr):Turn P w K tg (Itl K a) [it] it (λi h=>h.IsListIter it a i) where
 mem:=by simp
 obj:=λi h st b hb=>by
  have e:b=it:=by simpa using hb
  subst e;obtain ⟨o,e,c,d⟩:=st;exact ⟨o,e,λv z=>by rw [d] at z;cases z⟩
 keep:=λi h h' st k=>st.at λo e=>k it (by simp) o e
 item:=by
  intro X hP hw hK hc i pins s σ H E I hf st hg;subst hP hw hK;obtain ⟨xs,x,hq,hx⟩:=hg;obtain ⟨its,rv,p,hz⟩:=I.list hq;obtain ⟨u,hu,ru⟩:=rv.get hx;obtain ⟨f0,f1,f2,f3,f4,f5⟩:=hf it (by simp);refine wpAny_pyNext_list_item st p.isList (x:=u) (by simpa using hu) λh' st' sb=>?_;have I1:Inv X pins σ H { s with heap:=h' }:=I.turned (t':=s.toks) (λb o hb e=>(sb.2 b hb).trans e) f0 f1 f3 f4 f5;obtain ⟨o,e,c,d⟩:=id st';exact ⟨u,rfl,qfu (s:={ s with heap:=h' }) e c d (by decide) ⟨x,H,I1,ru,⟨rfl,λys hy=>by rw [I.list_inj hy hq];exact hx⟩,st',λb hb=>(hf b hb).1⟩⟩
 done:=by
  intro X hP hw hK hc i pins s σ H E I hf st hg;subst hP hw hK;obtain ⟨xs,hq,hx⟩:=hg;obtain ⟨its,rv,p,hz⟩:=I.list hq;obtain ⟨f0,f1,f2,f3,f4,f5⟩:=hf it (by simp);have hl:=rv.length;exact wpAny_pyNext_list_end (I.ok.hd hc) st p.isList (by simp;omega) λh' eb=>⟨rfl,I.turned (t':=s.toks) (λb o hb e=>eb b o hb e) f0 f1 f3 f4 f5⟩
 self:=λ_ _ _ _ _ st h=>wpAny_pyIter_listiter st h
def LH {P:Program} {w:World} {K:Frg} {tg:Expr} (a it:Addr):Turn P w K tg (Itt K a) [it] it (λi h=>h.IsTupleIter it a i) where
 mem:=by simp
 obj:=λi h st b hb=>by
  have e:b=it:=by simpa using hb
  subst e;obtain ⟨o,e,c,d⟩:=st;exact ⟨o,e,λv z=>by rw [d] at z;cases z⟩
 keep:=λi h h' st k=>st.at λo e=>k it (by simp) o e
 item:=by
  intro X hP hw hK hc i pins s σ H E I hf st hg;subst hP hw hK;obtain ⟨xs,x,hq,hx⟩:=hg;obtain ⟨its,rv,p,hz⟩:=I.tuple hq;obtain ⟨u,hu,ru⟩:=rv.get hx;obtain ⟨f0,f1,f2,f3,f4,f5⟩:=hf it (by simp);refine wpAny_pyNext_tuple_item st (show s.heap.IsTuple a its.toArray from p) (x:=u) (by simpa using hu) λh' st' sb=>?_;have I1:Inv X pins σ H { s with heap:=h' }:=I.turned (t':=s.toks) (λb o hb e=>(sb.2 b hb).trans e) f0 f1 f3 f4 f5;obtain ⟨o,e,c,d⟩:=id st';exact ⟨u,rfl,qfu (s:={ s with heap:=h' }) e c d (by decide) ⟨x,H,I1,ru,⟨rfl,λys hy=>by rw [I.tuple_inj hy hq];exact hx⟩,st',λb hb=>(hf b hb).1⟩⟩
 done:=by
  intro X hP hw hK hc i pins s σ H E I hf st hg;subst hP hw hK;obtain ⟨xs,hq,hx⟩:=hg;obtain ⟨its,rv,p,hz⟩:=I.tuple hq;obtain ⟨f0,f1,f2,f3,f4,f5⟩:=hf it (by simp);have hl:=rv.length;exact wpAny_pyNext_tuple_end (I.ok.hd hc) st (show s.heap.IsTuple a its.toArray from p) (by simp;omega) λh' eb=>⟨rfl,I.turned (t':=s.toks) (λb o hb e=>eb b o hb e) f0 f1 f3 f4 f5⟩
 self:=λ_ _ _ _ _ st h=>wpAny_pyIter_tupleiter st h
def LB {P:Program} {w:World} {K:Frg} {tg:Expr} (it:Addr) (lo:Int) (n:Nat):Turn P w K tg (Itr lo n) [it] it (λi h=>IsRangeIter h it (lo+(i:Nat)*1) ((n:Int)-(i:Nat)) 1) where
 mem:=by simp
 obj:=λi h st b hb=>by
  have e:b=it:=by simpa using hb
  subst e;exact ⟨_,st,λv z=>by
   have z':Data.fields _=Data.cell v:=z;cases z'⟩
 keep:=λi h h' st k=>k it (by simp) _ st
 item:=by
  intro X hP hw hK hc i pins s σ H E I hf st hg;subst hP hw hK;obtain ⟨f0,f1,f2,f3,f4,f5⟩:=hf it (by simp);have W:=Walks.range (prog:=X.prog) (w:=X.w) (I.ok.hd hc) it lo 1 n;refine W.item i s _ _ hg st λv h' tk hv st' kk=>?_;obtain ⟨t,rfl⟩:=hv;have I1:Inv X pins σ H { s with heap:=h',toks:=tk }:=I.turned (λb o hb e=>kk b o (by simpa using hb) e) f0 f1 f3 f4 f5;refine ⟨_,rfl,qfu (s:={ s with heap:=h',toks:=tk }) (n:="range_iterator") st' rfl rfl (by decide) ⟨.int (lo+i),H,I1,⟨t,?_⟩,⟨rfl,rfl⟩,st',λb hb=>(hf b hb).1⟩⟩;rw [Int.mul_one]
 done:=by
  intro X hP hw hK hc i pins s σ H E I hf st hg;subst hP hw hK;obtain ⟨f0,f1,f2,f3,f4,f5⟩:=hf it (by simp);exact wpAny_pyNext_range_end (I.ok.hd hc) st (by have:n<=i:=hg;omega) λh' eb=>⟨rfl,I.turned (t':=s.toks) (λb o hb e=>eb b o hb e) f0 f1 f3 f4 f5⟩
 self:=λ_ _ _ _ _ st h=>wpAny_pyIter_rangeiter st h
section
variable {X:Cx} {tg:Expr}
def qbO {pins:List (Addr×Obj)} {σ:St} {H:Hp} {s:Shared} {R:It->Hp->Prop} {E:Value->Shared->Prop} {lo hi:Int} {t u v:Tok} {tk:Nat} (I:Inv X pins σ H s) (h1:-(2 ^ 62)<=lo) (h2:lo<2 ^ 62) (h3:-(2 ^ 62)<=hi) (h4:hi<2 ^ 62)
  (q:R (Itr lo (hi-lo).toNat) H):wpAny (model X.prog X.w) X.A (pyIter (.ref s.heap.objs.size)) (PIE X pins σ tg R) E { s with heap:=s.heap.push { cls:=.type "range",data:=.fields #[.int lo t,.int hi u,.int 1 v] },toks:=tk }:=by
 refine wpAny_pyIter_range (IsRange.new ..) (small_one h1 h2 h3 h4) ?_;have I1:Inv X pins σ H { s with heap:=s.heap.push { cls:=.type "range",data:=.fields #[.int lo t,.int hi u,.int 1 v] },toks:=tk }:=I.kept λb o e=>Heap.get?_push_of_some _ e;refine ⟨(s.heap.push { cls:=.type "range",data:=.fields #[.int lo t,.int hi u,.int 1 v] }).objs.size,[(s.heap.push { cls:=.type "range",data:=.fields #[.int lo t,.int hi u,.int 1 v] }).objs.size],_,_,H,rfl,
  I1.kept (t':=tk) λb o e=>Heap.get?_push_of_some _ e,LB _ lo (hi-lo).toNat,?_,λb hb=>?_,q⟩
 ·have e1:lo+((0:Nat):Int)*1=lo:=by simp
  have e2:(((hi-lo).toNat:Nat):Int)-((0:Nat):Int)=Builtin.Range.rangeSize lo hi 1:=by rw [rangeSize_one];split<;>omega
  show IsRangeIter _ _ (lo+((0:Nat):Int)*1) ((((hi-lo).toNat:Nat):Int)-((0:Nat):Int)) 1;rw [e1,e2];exact Heap.get?_push_size _ rfl
 ·have e:b=(s.heap.push { cls:=.type "range",data:=.fields #[.int lo t,.int hi u,.int 1 v] }).objs.size:=by simpa using hb
  subst e;exact I1.fpOk (Nat.le_refl _) (I1.hok.fresh (Nat.le_refl _))
def qmq (ta:TA):TI:=λσ H R=>ta σ H λvs H1=>∃ j:Int,vs=[.int j]/\-(2 ^ 62)<=j/\j<2 ^ 62/\R (Itr 0 j.toNat) H1
def M4 {a:Expr} {ta:TA} {p pos:Pos} (hg:Gl X "range") (hm:X.mg "range" = none) (ha:PA X [a] ta) (hs:starEach [a] X.env=[(false,eval a X.env)]:=by rfl):PI X tg (.Call (.Name "range" p) [a] [] pos) (qmq ta):=by
 intro pins s σ H R I h;refine Call_ (C2 I hg hm boot_range (PyProof.Rows.callWith_type1 (thn (ha pos pins s σ H _ I h) λus s1 ⟨vs,H1,I1,r1,q1⟩=>?_) hs rfl));obtain ⟨j,e,q1,q2,q⟩:=q1;subst e;cases r1 with
 |cons r rr=>
  cases rr;obtain ⟨t,rfl⟩:=r;exact call_range_1 (qbO I1 (by omega) (by omega) q1 q2 (by simpa using q))
def qoA (wi:TI) (g:TG) (tb:TS):TS:=λD σ H=>wi σ H λJ H1=>∃ W:Nat->Nat->St->Hp->Prop,(∃ m,W 0 m σ H1)/\∀ i m σ H,W i m σ H ->
 (J.stop i H/\D.nx σ H)\/(J.go i H/\∃ N:St->Hp->Prop,(∀ σ' H',N σ' H'->∃ m',m'<m/\W (i+1) m' σ' H')/\∀ x H',J.yld i H x H'->g x σ H' λσ2 H2=>tb { D with nx:=N,ct:=N,bk:=D.nx } σ2 H2)
def WF (fp:List Addr) (h:Heap):List (Addr×Obj):=fp.filterMap λb=>(h.get? b).map λo=>(b,o)
def jT {fp:List Addr} {h:Heap} {b:Addr} {o:Obj} (hb:b∈fp) (e:h.get? b=some o):(b,o)∈WF fp h:=List.mem_filterMap.mpr ⟨b,hb,by rw [e];rfl⟩
def qa7 {fp:List Addr} {h:Heap} {p:Addr×Obj} (hp:p∈WF fp h):p.1∈fp/\h.get? p.1=some p.2:=by
 obtain ⟨b,hb,e⟩:=List.mem_filterMap.mp hp;cases q:h.get? b with
 |none=>rw [q] at e;cases e
 |some o=>
  rw [q] at e;have e':(b,o)=p:=Option.some.inj e;subst e';exact ⟨hb,q⟩
def Inv.pinned {pins:List (Addr×Obj)} {σ:St} {H:Hp} {s:Shared} {fp:List Addr} (I:Inv X pins σ H s) (hf:∀ b∈fp,TW X pins H b) (ho:∀ b∈fp,∃ o,s.heap.get? b=some o/\∀ v,o.data≠.cell v):Inv X (pins++WF fp s.heap) σ H s:=
 I.pins_of λp hp=>(List.mem_append.mp hp).elim (λz=>I.pin p (mem_append_right _ z)) λz=>by
  obtain ⟨hb,e⟩:=qa7 z;obtain ⟨f0,f1,f2,_⟩:=hf p.1 hb;obtain ⟨o,e',d⟩:=ho p.1 hb;rw [e] at e';cases e';exact ⟨e,f0,f1,f2,d⟩
def Inv.unpinned {pins pl:List (Addr×Obj)} {σ:St} {H:Hp} {s:Shared} (I:Inv X (pins++pl) σ H s):Inv X pins σ H s:=I.pins_of λp hp=>I.pin p (mem_append_right _ (List.mem_append_left _ hp))
def qgN {iter:Expr} {body:List Stmt} {wi:TI} {g:TG} {tb:TS} {pos:Pos} (hp:PassesOwn (model X.prog X.w) X.A X.env X.xe) (hc:X.calm=true) (hi:PI X tg iter wi) (hg:PG X tg g) (hb:PSs X body tb)
  (hs:∀ x,foldedSetIterable iter X.env x=pure x:=by intro _;rfl):PS X (.For tg iter body [] pos) (qoA wi g tb):=by
 intro pins s σ H D I h;refine wpAny_For (thn (hi pins s σ H _ I h) λv s1 h1=>thn h1 λitv s2 h2=>?_) hs;obtain ⟨it,fp,tn,J,H2,e,I2,T,st2,f2,W,⟨m0,w0⟩,turn⟩:=h2;subst e
 -- what stays true of the iterator's objects through the loop
 have stat:∀ {H':Hp},(∀ b∈fp,H' b=none)->∀ b∈fp,TW X pins H' b:=λhn b hb=>⟨hn b hb,(f2 b hb).2⟩
 refine codeAny_forLoop_any (λn s'=>∃ i σ' H',Inv X pins σ' H' s'/\tn i s'.heap/\(∀ b∈fp,H' b=none)/\W i n σ' H') ?_ m0 ⟨0,σ,H2,I2,st2,λb hb=>(f2 b hb).1,w0⟩;rintro n s3 ⟨i,σ3,H3,I3,st3,fr3,w3⟩;rcases turn i n σ3 H3 w3 with ⟨stop,qn⟩|⟨go,N,hN,step⟩
 ·refine wpAny_passesOwn hp (thn (T.done X rfl rfl rfl hc i pins s3 σ3 H3 X.xe I3 (stat fr3) st3 stop) λr s4 ⟨hr,I4⟩=>?_);subst hr;exact wpAny_execs_nil ⟨σ3,H3,I4,qn⟩
 ·refine wpAny_passesOwn hp (thn (T.item X rfl rfl rfl hc i pins s3 σ3 H3 X.xe I3 (stat fr3) st3 go) λr s4 ⟨u,hr,h4⟩=>?_);subst hr;refine wpAny_passesOwn hp (thn h4 λ_ s5 ⟨x,H5,I5,r5,y5,st5,fr5⟩=>?_);have I5':=I5.pinned (stat fr5) (T.obj _ _ st5);refine wpAny_passesOwn hp (thn (hg _ s5 σ3 H5 x u _ I5' r5 (step x H5 y5)) λ_ s6 ⟨σ6,H6,I6,q6⟩=>?_);refine wpAny_passesOwn hp (thn (hb _ s6 σ6 H6 _ I6 q6) λf s7 q7=>?_);have again:∀ {σ7:St} {H7:Hp},Inv X (pins++WF fp s5.heap) σ7 H7 s7->N σ7 H7->∃ m,m<n/\∃ i σ' H',Inv X pins σ' H' s7/\tn i s7.heap/\(∀ b∈fp,H' b=none)/\W i m σ' H':=λ{σ7 H7} I7 n7=>by
   obtain ⟨m',hm,w7⟩:=hN σ7 H7 n7;refine ⟨m',hm,i+1,σ7,H7,I7.unpinned,T.keep _ _ _ st5 λb hb o e=>(I7.pin (b,o) (mem_append_right _ (mem_append_right _ (jT hb e)))).1,λb hb=>?_,w7⟩;obtain ⟨o,e,d⟩:=T.obj _ _ st5 b hb;exact (I7.pin (b,o) (mem_append_right _ (mem_append_right _ (jT hb e)))).2.1
  cases f with
  |next=>obtain ⟨σ7,H7,I7,n7⟩:=q7;exact again I7 n7
  |cont=>obtain ⟨σ7,H7,I7,n7⟩:=q7;exact again I7 n7
  |brk=>obtain ⟨σ7,H7,I7,q7⟩:=q7;exact ⟨σ7,H7,I7.unpinned,q7⟩
  |ret v=>obtain ⟨x7,σ7,H7,I7,r7,q7⟩:=q7;exact ⟨x7,σ7,H7,I7.unpinned,r7,q7⟩
end
abbrev R2:=V->V->Hp->VK->Prop
def OpR (X:Cx) (f:Value->Value->Sem Value) (r:R2):Prop:=
 ∀ (pins:List (Addr×Obj)) (s:Shared) (σ:St) (H:Hp) (x y:V) (v u:Value) (Q:VK),Inv X pins σ H s->jI x v->jI y u->r x y H Q ->
  wpAny (model X.prog X.w) X.A (f v u) (EP X pins σ Q) X.xe s
def UnR (X:Cx) (f:Value->Sem Value) (r:V->Hp->VK->Prop):Prop:=
 ∀ (pins:List (Addr×Obj)) (s:Shared) (σ:St) (H:Hp) (x:V) (v:Value) (Q:VK),Inv X pins σ H s->jI x v->r x H Q ->
  wpAny (model X.prog X.w) X.A (f v) (EP X pins σ Q) X.xe s
def JD (X:Cx) (f:Value) (r:List V->Hp->VK->Prop):Prop:=
 ∀ (pins:List (Addr×Obj)) (s:Shared) (σ:St) (H:Hp) (xs:List V) (us:List Value) (Q:VK),Inv X pins σ H s->zx xs us->r xs H Q ->
  wpAny (model X.prog X.w) X.A (call f us) (EP X pins σ Q) X.xe s
def tOp (r:R2) (ta tb:TE):TE:=λσ H Q=>ta σ H λx H1=>tb σ H1 λy H2=>r x y H2 Q
def tUn (r:V->Hp->VK->Prop) (ta:TE):TE:=λσ H Q=>ta σ H λx H1=>r x H1 Q
def rI (C:Int->Int->Prop) (g:Int->Int->V):R2:=λx y H Q=>∃ i j,x=.int i/\y=.int j/\C i j/\Q (g i j) H
def rI0 (g:Int->Int->V):R2:=λx y H Q=>∃ i j,x=.int i/\y=.int j/\Q (g i j) H
def rU (g:Int->V):V->Hp->VK->Prop:=λx H Q=>∃ i,x=.int i/\Q (g i) H
section
variable {X:Cx} {a b c:Expr} {ta tb tc:TE} {pos:Pos}
def qmR (ha:PE X a ta) (hb:PE X b tb) {pins:List (Addr×Obj)} {s:Shared} {σ:St} {H:Hp} {R:V->V->Hp->Prop} (I:Inv X pins σ H s)
  (h:ta σ H λx H1=>tb σ H1 λy H2=>R x y H2) {Q:Value->Shared->Prop} {f:Value->Value->Sem Value}
  (hf:∀ v u s2 x y H2,Inv X pins σ H2 s2->jI x v->jI y u->R x y H2->wpAny (model X.prog X.w) X.A (f v u) Q X.xe s2) :
  wpAny (model X.prog X.w) X.A (eval a X.env) (λv s₁=>wpAny (model X.prog X.w) X.A (eval b X.env) (λu s₂=>wpAny (model X.prog X.w) X.A (f v u) Q X.xe s₂) X.xe s₁) X.xe s:=by
 refine thn (ha pins s σ H _ I h) λv s1 ⟨x,H1,I1,r1,q1⟩=>?_;refine thn (hb pins s1 σ H1 _ I1 q1) λu s2 ⟨y,H2,I2,r2,q2⟩=>?_;exact hf v u s2 x y H2 I2 r1 r2 q2
def qmJ {op:Operator} {r:R2} (ho:OpR X (binaryOp op) r) (ha:PE X a ta) (hb:PE X b tb):PE X (.BinOp a op b pos) (tOp r ta tb):=by
 intro pins s σ H Q I h;exact wpAny_BinOp (qmR ha hb I h λv u s2 x y H2 I2 rx ry q=>ho pins s2 σ H2 x y v u Q I2 rx ry q)
def qmZ {op:UnaryOp} {r:V->Hp->VK->Prop} (ho:UnR X (unaryOp op) r) (ha:PE X a ta):PE X (.UnaryOp op a pos) (tUn r ta):=by
 intro pins s σ H Q I h;exact UnaryOp_ (thn (ha pins s σ H _ I h) λv s1 ⟨x,H1,I1,r1,q1⟩=>ho pins s1 σ H1 x v Q I1 r1 q1)
def opI {f:Value->Value->Sem Value} {C:Int->Int->Prop} {g:Int->Int->Int}
  (rule:∀ (i j:Int) (t u:Tok) (s:Shared) (Q:Value->Shared->Prop) (E:Value->Shared->Prop),C i j->Q (.int (g i j) s.toks) { s with toks:=s.toks+1 }->wpAny (model X.prog X.w) X.A (f (.int i t) (.int j u)) Q E s) :
  OpR X f (rI C λi j=>.int (g i j)):=by
 intro pins s σ H x y v u Q I rx ry h;obtain ⟨i,j,rfl,rfl,hc,q⟩:=h;obtain ⟨t,rfl⟩:=rx;obtain ⟨t',rfl⟩:=ry;exact rule i j t t' s _ _ hc ⟨.int (g i j),H,I.tok _,⟨_,rfl⟩,q⟩
def qli {f:Value->Value->Sem Value} {g:Int->Int->Int}
  (rule:∀ (i j:Int) (t u:Tok) (s:Shared) (Q:Value->Shared->Prop) (E:Value->Shared->Prop),Q (.int (g i j) s.toks) { s with toks:=s.toks+1 }->wpAny (model X.prog X.w) X.A (f (.int i t) (.int j u)) Q E s) :
  OpR X f (rI0 λi j=>.int (g i j)):=by
 intro pins s σ H x y v u Q I rx ry h;obtain ⟨i,j,rfl,rfl,q⟩:=h;obtain ⟨t,rfl⟩:=rx;obtain ⟨t',rfl⟩:=ry;exact rule i j t t' s _ _ ⟨.int (g i j),H,I.tok _,⟨_,rfl⟩,q⟩
def qlb {f:Value->Value->Sem Value} {g:Int->Int->Bool}
  (rule:∀ (i j:Int) (t u:Tok) (s:Shared) (Q:Value->Shared->Prop) (E:Value->Shared->Prop),Q (.bool (g i j)) s->wpAny (model X.prog X.w) X.A (f (.int i t) (.int j u)) Q E s) :
  OpR X f (rI0 λi j=>.bl (g i j)):=by
 intro pins s σ H x y v u Q I rx ry h;obtain ⟨i,j,rfl,rfl,q⟩:=h;obtain ⟨t,rfl⟩:=rx;obtain ⟨t',rfl⟩:=ry;exact rule i j t t' s _ _ ⟨.bl (g i j),H,I,rfl,q⟩
def qcI (i j:Int):Prop:=0<j/\j<1073741824
def W7 (i j:Int):Prop:=0<=j/\j<=1000000/\i.natAbs<2 ^ 64
def WR (i j:Int):Prop:=(-(2 ^ 64)<i/\i<2 ^ 64)\/(-(2 ^ 64)<j/\j<2 ^ 64)
def WR.ok {i j:Int} (h:WR i j):IntMulOk i j:=by
 rcases h with ⟨h1,h2⟩|⟨h1,h2⟩
 ·exact .of_left (intBits_le_64 h1 h2)
 ·exact .of_right (intBits_le_64 h1 h2)
def L6 (k:Nat):(0:Int)<=2 ^ k:=by
 rw [two_pow_cast];exact Int.natCast_nonneg _
def qdu:OpR X (binaryOp .Add) (rI0 λi j=>.int (i+j)):=qli λ_ _ _ _ _ _ _ q=>add_int q
def qiZ:OpR X (binaryOp .Sub) (rI0 λi j=>.int (i-j)):=qli λ_ _ _ _ _ _ _ q=>sub_int q
def qjU:OpR X (binaryOp .Mult) (rI WR λi j=>.int (i*j)):=opI λ_ _ _ _ _ _ _ hc q=>mul_int q hc.ok
def qfP:OpR X (binaryOp .FloorDiv) (rI qcI λi j=>.int (i/j)):=opI λi j _ _ _ _ _ hc q=>by
 have h1:(0:Int)<j:=hc.1;have h2:j<1073741824:=hc.2;exact floordiv_int (by omega) (by rw [Int.fdiv_eq_ediv_of_nonneg i (by omega)];exact q) (.inl (PyProof.noPylong_small (by omega)))
def qkW:OpR X (binaryOp .Mod) (rI (λ_ j=>0<j) λi j=>.int (i%j)):=opI λi j _ _ _ _ _ hc q=>by
 have h1:(0:Int)<j:=hc;exact mod_int' (by omega) (by rw [Int.fmod_eq_emod_of_nonneg i (by omega)];exact q)
def qjt:OpR X (binaryOp .Pow) (rI W7 λi j=>.int (i ^ j.toNat)):=opI λ_ _ _ _ _ _ _ hc q=>pow_int_small hc.1 hc.2.1 hc.2.2 q
def qg9:OpR X (binaryOp .LShift) (rI W7 λi j=>.int (i*2 ^ j.toNat)):=opI λ_ _ _ _ _ _ _ hc q=>lshift_int_small hc.1 hc.2.1 hc.2.2 q
def qhx:OpR X (binaryOp .RShift) (rI (λ_ j=>0<=j) λi j=>.int (i/2 ^ j.toNat)):=opI λi j _ _ _ _ _ hc q=>
 rshift_int hc (by rw [Int.fdiv_eq_ediv_of_nonneg i (L6 _)];exact q)
def qkr:OpR X (binaryOp .BitAnd) (rI0 λi j=>.int (Builtin.bitAnd i j)):=qli λ_ _ _ _ _ _ _ q=>and_int q
def qjg:OpR X (binaryOp .BitXor) (rI0 λi j=>.int (Builtin.bitXor i j)):=qli λ_ _ _ _ _ _ _ q=>xor_int q
def unI {f:Value->Sem Value} {g:Int->Int}
  (rule:∀ (i:Int) (t:Tok) (s:Shared) (Q:Value->Shared->Prop) (E:Value->Shared->Prop),Q (.int (g i) s.toks) { s with toks:=s.toks+1 }->wpAny (model X.prog X.w) X.A (f (.int i t)) Q E s) :
  UnR X f (rU λi=>.int (g i)):=by
 intro pins s σ H x v Q I rx h;obtain ⟨i,rfl,q⟩:=h;obtain ⟨t,rfl⟩:=rx;exact rule i t s _ _ ⟨.int (g i),H,I.tok _,⟨_,rfl⟩,q⟩
def qkT:UnR X (unaryOp .USub) (rU λi=>.int (-i)):=unI λ_ _ _ _ _ q=>neg_int q
end
def qnp:V->V->Bool
 |.non,.non=>true|.non,.int _=>true|.int _,.non=>true|.non,.bl _=>true|.bl _,.non=>true|.non,.str _=>true|.str _,.non=>true
 |.int _,.int _=>true|.bl _,.bl _=>true|.str _,.str _=>true|.byt _,.byt _=>true
 |.int _,.str _=>true|.str _,.int _=>true|.bl _,.str _=>true|.str _,.bl _=>true
 |_,_=>false
def rEq:R2:=λx y H Q=>qnp x y=true/\Q (.bl (decide (x=y))) H
def rNe:R2:=λx y H Q=>qnp x y=true/\Q (.bl (!decide (x=y))) H
def qaT {i j:Int}:decide (V.int i=V.int j)=(i==j):=by
 rw [Bool.eq_iff_iff];simp
def qei {i j:Bool}:decide (V.bl i=V.bl j)=(i==j):=by
 rw [Bool.eq_iff_iff];simp
def qa5 {i j:Str}:decide (V.str i=V.str j)=(i==j):=by
 rw [Bool.eq_iff_iff];simp
def NW {i j:Array UInt8}:decide (V.byt i=V.byt j)=(i.toList==j.toList):=by
 rw [Bool.eq_iff_iff];cases i;cases j;simp
section
variable {X:Cx} {a b c:Expr} {ta tb tc:TE} {pos:Pos}
def qP {pins:List (Addr×Obj)} {σ:St} {H:Hp} {s:Shared} {Q:VK} {k k':Bool} (I:Inv X pins σ H s) (q:Q (.bl k) H) (e:k=k'):EP X pins σ Q (.bool k') s:=by
 subst e;exact ⟨.bl k,H,I,rfl,q⟩
def qlR:OpR X (compareOp .Eq) rEq:=by
 intro pins s σ H x y v u Q I rx ry h;obtain ⟨hs,q⟩:=h;cases x with
 |non=>
  cases rx;cases y with
  |non=>cases ry;exact PySem.EqNone.eq_none_none (qP I q (by simp))
  |bl j=>cases ry;exact PySem.EqNone.eq_none_bool (qP I q (by simp))
  |int j=>obtain ⟨t',rfl⟩:=ry;exact PySem.EqNone.eq_none_int (qP I q (by simp))
  |str j=>obtain ⟨t',rfl⟩:=ry;exact PySem.EqNone.eq_none_str (qP I q (by simp))
  |_=>exact absurd (show false=true from hs) Bool.false_ne_true
 |bl i=>
  cases rx;cases y with
  |non=>cases ry;exact PySem.EqNone.eq_bool_none (qP I q (by simp))
  |bl j=>cases ry;exact eq_bool (qP I q qei)
  |str j=>obtain ⟨t',rfl⟩:=ry;exact PySem.EqMixed.eq_bool_str (qP I q (by simp))
  |_=>exact absurd (show false=true from hs) Bool.false_ne_true
 |int i=>
  obtain ⟨t,rfl⟩:=rx;cases y with
  |non=>cases ry;exact PySem.EqNone.eq_int_none (qP I q (by simp))
  |int j=>obtain ⟨t',rfl⟩:=ry;exact eq_int (qP I q qaT)
  |str j=>obtain ⟨t',rfl⟩:=ry;exact PySem.EqMixed.eq_int_str (qP I q (by simp))
  |_=>exact absurd (show false=true from hs) Bool.false_ne_true
 |str i=>
  obtain ⟨t,rfl⟩:=rx;cases y with
  |non=>cases ry;exact PySem.EqNone.eq_str_none (qP I q (by simp))
  |bl j=>cases ry;exact PySem.EqMixed.eq_str_bool (qP I q (by simp))
  |int j=>obtain ⟨t',rfl⟩:=ry;exact PySem.EqMixed.eq_str_int (qP I q (by simp))
  |str j=>obtain ⟨t',rfl⟩:=ry;exact eq_str (qP I q qa5)
  |_=>exact absurd (show false=true from hs) Bool.false_ne_true
 |byt i=>
  obtain ⟨t,rfl⟩:=rx;cases y with
  |byt j=>obtain ⟨t',rfl⟩:=ry;exact PySem.W.eq_bytes (qP I q NW)
  |_=>exact absurd (show false=true from hs) Bool.false_ne_true
 |_=>cases y<;>exact absurd (show false=true from hs) Bool.false_ne_true
def qns:OpR X (compareOp .NotEq) rNe:=by
 intro pins s σ H x y v u Q I rx ry h;obtain ⟨hs,q⟩:=h;cases x with
 |non=>
  cases rx;cases y with
  |non=>cases ry;exact PySem.EqNone.ne_none_none (qP I q (by simp))
  |bl j=>cases ry;exact PySem.EqNone.ne_none_bool (qP I q (by simp))
  |int j=>obtain ⟨t',rfl⟩:=ry;exact PySem.EqNone.ne_none_int (qP I q (by simp))
  |str j=>obtain ⟨t',rfl⟩:=ry;exact PySem.EqNone.ne_none_str (qP I q (by simp))
  |_=>exact absurd (show false=true from hs) Bool.false_ne_true
 |bl i=>
  cases rx;cases y with
  |non=>cases ry;exact PySem.EqNone.ne_bool_none (qP I q (by simp))
  |bl j=>cases ry;exact ne_bool (qP I q (congrArg not qei))
  |str j=>obtain ⟨t',rfl⟩:=ry;exact PySem.EqMixed.ne_bool_str (qP I q (by simp))
  |_=>exact absurd (show false=true from hs) Bool.false_ne_true
 |int i=>
  obtain ⟨t,rfl⟩:=rx;cases y with
  |non=>cases ry;exact PySem.EqNone.ne_int_none (qP I q (by simp))
  |int j=>obtain ⟨t',rfl⟩:=ry;exact ne_int (qP I q (congrArg not qaT))
  |str j=>obtain ⟨t',rfl⟩:=ry;exact PySem.EqMixed.ne_int_str (qP I q (by simp))
  |_=>exact absurd (show false=true from hs) Bool.false_ne_true
 |str i=>
  obtain ⟨t,rfl⟩:=rx;cases y with
  |non=>cases ry;exact PySem.EqNone.ne_str_none (qP I q (by simp))
  |bl j=>cases ry;exact PySem.EqMixed.ne_str_bool (qP I q (by simp))
  |int j=>obtain ⟨t',rfl⟩:=ry;exact PySem.EqMixed.ne_str_int (qP I q (by simp))
  |str j=>obtain ⟨t',rfl⟩:=ry;exact ne_str (qP I q (congrArg not qa5))
  |_=>exact absurd (show false=true from hs) Bool.false_ne_true
 |byt i=>
  obtain ⟨t,rfl⟩:=rx;cases y with
  |byt j=>obtain ⟨t',rfl⟩:=ry;exact PySem.W.ne_bytes (qP I q (congrArg not NW))
  |_=>exact absurd (show false=true from hs) Bool.false_ne_true
 |_=>cases y<;>exact absurd (show false=true from hs) Bool.false_ne_true
def qcb:OpR X (compareOp .Lt) (rI0 λi j=>.bl (decide (i<j))):=qlb λ_ _ _ _ _ _ _ q=>lt_int q
def qh0:OpR X (compareOp .LtE) (rI0 λi j=>.bl (decide (i<=j))):=qlb λ_ _ _ _ _ _ _ q=>le_int q
def XX:OpR X (compareOp .Gt) (rI0 λi j=>.bl (decide (j<i))):=qlb λ_ _ _ _ _ _ _ q=>gt_int q
def qmg:OpR X (compareOp .GtE) (rI0 λi j=>.bl (decide (j<=i))):=qlb λ_ _ _ _ _ _ _ q=>ge_int q
def XF:OpR X (compareOp .IsNot) (λx y H Q=>y=.non/\Q (.bl (!decide (x=.non))) H):=by
 intro pins s σ H x y v u Q I rx ry h;obtain ⟨rfl,q⟩:=h;cases ry;refine isnot_none_gen (qP I q ?_);cases x<;>first
  | (cases rx;rfl)
  | (obtain ⟨t,rfl⟩:=rx;rfl)
def OpR.or {f:Value->Value->Sem Value} {r r':R2} (h:OpR X f r) (h':OpR X f r'):OpR X f (λx y H Q=>r x y H Q\/r' x y H Q):=by
 intro pins s σ H x y v u Q I rx ry q;rcases q with q|q
 ·exact h pins s σ H x y v u Q I rx ry q
 ·exact h' pins s σ H x y v u Q I rx ry q
def qG (b:Expr) {op:CmpOp} (h:op≠.In:=by decide) (h2:op≠.NotIn:=by decide):behindInMarks op b=false:=by
 have e1:(op==CmpOp.In)=false:=by cases op<;>first|rfl|exact absurd rfl h
 have e2:(op==CmpOp.NotIn)=false:=by cases op<;>first|rfl|exact absurd rfl h2
 cases b<;>simp [behindInMarks,e1,e2]
def qeX {op:CmpOp} {r:R2} (ho:OpR X (compareOp op) r) (ha:PE X a ta) (hb:PE X b tb) (hm:behindInMarks op b=false):PE X (.Compare a [op] [b] pos) (tOp r ta tb):=by
 intro pins s σ H Q I h;exact wpAny_Compare1 (qmR ha hb I h λv u s2 x y H2 I2 rx ry q=>ho pins s2 σ H2 x y v u Q I2 rx ry q) hm
def qfY (t:TE):TT:=λσ H Q=>t σ H λx H'=>∃ k,x=.bl k/\Q k H'
def qfa {op:CmpOp} {r:R2} (ho:OpR X (compareOp op) r) (ha:PE X a ta) (hb:PE X b tb) (hm:behindInMarks op b=false):PT X (.Compare a [op] [b] pos) (qfY (tOp r ta tb)):=by
 intro pins s σ H Q I h;refine wpAny_isTrue_Compare1 (thn (ha pins s σ H _ I h) λv s1 ⟨x,H1,I1,r1,q1⟩=>thn (hb pins s1 σ H1 _ I1 q1) λu s2 ⟨y,H2,I2,r2,q2⟩=>
  thn (ho pins s2 σ H2 x y v u _ I2 r1 r2 q2) λc s3 ⟨z,H3,I3,r3,k,e,q3⟩=>?_) hm
 subst e;cases r3;exact wpAny_truthy_bool ⟨H3,I3,q3⟩
def qaQ (r r':R2) (ta tb tc:TE):TE:=λσ H Q=>ta σ H λx H1=>tb σ H1 λy H2=>r x y H2 λz H3=>∃ k,z=.bl k /\
 (if k=true then tc σ H3 λw' H4=>r' y w' H4 Q else Q (.bl false) H3)
def qbD {op op':CmpOp} {r r':R2} (ho:OpR X (compareOp op) r) (ho':OpR X (compareOp op') r') (ha:PE X a ta) (hb:PE X b tb) (hc:PE X c tc)
  (hm:lastMarks [op,op'] [b,c]=false:=by with_unfolding_all rfl):PE X (.Compare a [op,op'] [b,c] pos) (qaQ r r' ta tb tc):=by
 intro pins s σ H Q I h;refine Compare_chain (thn (ha pins s σ H _ I h) λv s1 ⟨x,H1,I1,r1,q1⟩=>chain_link (thn (hb pins s1 σ H1 _ I1 q1) λu s2 ⟨y,H2,I2,r2,q2⟩=>
  thn (ho pins s2 σ H2 x y v u _ I2 r1 r2 q2) λd s3 ⟨z,H3,I3,r3,k,e,q3⟩=>?_)) hm
 subst e;cases r3;refine wpAny_truthy_bool ?_;cases k with
 |false=>exact ite_ff ⟨.bl false,H3,I3,rfl,q3⟩
 |true=>exact ite_tt (chain_last (thn (hc pins s3 σ H3 _ I3 q3) λw' s4 ⟨z',H4,I4,r4,q4⟩=>ho' pins s4 σ H4 y z' u w' Q I4 r2 r4 q4))
def qcf {op op':CmpOp} {r r':R2} (ho:OpR X (compareOp op) r) (ho':OpR X (compareOp op') r') (ha:PE X a ta) (hb:PE X b tb) (hc:PE X c tc)
  (hm:lastMarks [op,op'] [b,c]=false:=by with_unfolding_all rfl):PT X (.Compare a [op,op'] [b,c] pos) (qfY (qaQ r r' ta tb tc)):=by
 intro pins s σ H Q I h;refine isTrue_chain (thn (ha pins s σ H _ I h) λv s1 ⟨x,H1,I1,r1,q1⟩=>test_link (thn (hb pins s1 σ H1 _ I1 q1) λu s2 ⟨y,H2,I2,r2,q2⟩=>
  thn (ho pins s2 σ H2 x y v u _ I2 r1 r2 q2) λd s3 ⟨z,H3,I3,r3,k,e,q3⟩=>?_)) hm
 subst e;cases r3;refine wpAny_truthy_bool ?_;cases k with
 |false=>
  obtain ⟨k',e',q'⟩:=q3;cases e';exact ite_ff ⟨H3,I3,q'⟩
 |true=>
  refine ite_tt (test_last (thn (hc pins s3 σ H3 _ I3 q3) λw' s4 ⟨z',H4,I4,r4,q4⟩=>thn (ho' pins s4 σ H4 y z' u w' _ I4 r2 r4 q4) λd' s5 ⟨z2,H5,I5,r5,k2,e2,q5⟩=>?_));subst e2;cases r5;exact wpAny_truthy_bool ⟨H5,I5,q5⟩
def RQ:(sizeLine:Nat)<2 ^ 63:=by rw [sizeLine_eq];decide
def DG {x:V} {us:List Value} (r:zx [x] us):∃ u,us=[u]/\jI x u:=by
 cases r with
 |cons r1 r2=>cases r2;exact ⟨_,rfl,r1⟩
def qcr {x y:V} {us:List Value} (r:zx [x,y] us):∃ u w',us=[u,w']/\jI x u/\jI y w':=by
 cases r with
 |cons r1 r2=>
  cases r2 with
  |cons r3 r4=>cases r4;exact ⟨_,_,rfl,r1,r3⟩
def T7:JD X (.builtin "abs") (λxs H Q=>∃ i,xs=[.int i]/\Q (.int (if i<0 then -i else i)) H):=by
 intro pins s σ H xs us Q I r h;obtain ⟨i,rfl,q⟩:=h;obtain ⟨u,rfl,t,rfl⟩:=DG r;exact call_abs_int λu tk=>⟨.int (if i<0 then -i else i),H,I.tok _,⟨_,rfl⟩,q⟩
def CV (hc:X.calm=true):JD X (.builtin "min") (λxs H Q=>∃ i j,xs=[.int i,.int j]/\Q (.int (if j<i then j else i)) H):=by
 intro pins s σ H xs us Q I r h;obtain ⟨i,j,rfl,q⟩:=h;obtain ⟨u,w',rfl,⟨t,rfl⟩,⟨t',rfl⟩⟩:=qcr r;refine min_two_ints (I.ok.hd hc) λh' tk k=>⟨_,H,I.kept k,?_,q⟩
 by_cases hj:j<i
 ·rw [if_pos hj,if_pos hj];exact ⟨_,rfl⟩
 ·rw [if_neg hj,if_neg hj];exact ⟨_,rfl⟩
def EU:JD X (.type "int") (λxs H Q=>(∃ i,xs=[.int i]/\Q (.int i) H)\/∃ k,xs=[.bl k]/\Q (.int (if k then 1 else 0)) H):=by
 intro pins s σ H xs us Q I r h;rcases h with ⟨i,rfl,q⟩|⟨k,rfl,q⟩
 ·obtain ⟨u,rfl,t,rfl⟩:=DG r;exact call_int_int ⟨.int i,H,I,⟨_,rfl⟩,q⟩
 ·obtain ⟨u,rfl,r1⟩:=DG r;cases r1;exact call_int_bool ⟨.int (if k then 1 else 0),H,I.tok _,⟨_,rfl⟩,q⟩
def qn3 (K:Frg) (x:V) (H:Hp) (n:Nat):Prop:=
 match x with
 |.str y=>y.length<=sizeLine/\n=y.length
 |.byt y=>y.size<=sizeLine/\n=y.size
 |.ref p=>(∃ xs,SqL K H p xs/\n=xs.length)\/∃ xs,SqT K H p xs/\n=xs.length
 |_=>False
def zS:JD X (.builtin "len") (λxs H Q=>∃ x n,xs=[x]/\qn3 X.K x H n/\Q (.int n) H):=by
 intro pins s σ H xs us Q I r h;obtain ⟨x,n,rfl,e,q⟩:=h;obtain ⟨u,rfl,rx⟩:=DG r;have hl:=RQ;have hs:sizeLine=16777216:=sizeLine_eq;cases x with
 |str y=>
  obtain ⟨t,rfl⟩:=rx;obtain ⟨hy,e'⟩:y.length<=sizeLine/\n=y.length:=e;subst e';exact len_str (by omega) ⟨.int _,H,I.tok _,⟨_,rfl⟩,q⟩
 |byt y=>
  obtain ⟨t,rfl⟩:=rx;obtain ⟨hy,e'⟩:y.size<=sizeLine/\n=y.size:=e;subst e';exact PySem.W.len_bytes (by omega) ⟨.int _,H,I.tok _,⟨_,rfl⟩,q⟩
 |ref p=>
  cases rx;have e':(∃ xs,SqL X.K H p xs/\n=xs.length)\/∃ xs,SqT X.K H p xs/\n=xs.length:=e;rcases e' with ⟨xs,hx,e'⟩|⟨xs,hx,e'⟩
  ·subst e';obtain ⟨its,r',pl,hz⟩:=I.list hx;have hlen:=r'.length;exact Calls.call_len_list pl.isList (by simp only [size_toArray];omega) ⟨.int xs.length,H,I.tok _,⟨_,by simp only [size_toArray];rw [hlen]⟩,q⟩
  ·subst e';obtain ⟨its,r',pl,hz⟩:=I.tuple hx;have hlen:=r'.length;exact len_tuple pl (by simp only [size_toArray];omega) ⟨.int xs.length,H,I.tok _,⟨_,by simp only [size_toArray];rw [hlen]⟩,q⟩
 |_=>exact (show False from e).elim
end
section
variable {prog:Program} {w:World} {A:Around} {E:Value->Shared->Prop} {s:Shared} {K:Frg} {x dx C f:Addr} {mA:Str->Option Value} {name:Str} {v:Value}
end
section
variable {P:Program} {w:World} {H H':Hp} {h h':Heap} {a C dx:Addr} {fs fs':List (Str×V)}
end
section
variable {X:Cx} {pins:List (Addr×Obj)} {σ:St} {H:Hp} {s:Shared} {a C dx:Addr} {fs:List (Str×V)} {f:Str} {v:V} {A:Around} {E:Value->Shared->Prop}
end
section
variable {X:Cx} {o e value:Expr} {f:Str} {pos pos' tpos:Pos} {ta tv:TE}
end
section
variable {X:Cx} {pins:List (Addr×Obj)} {σ:St} {H:Hp} {s:Shared} {A:Around} {E:Value->Shared->Prop} {Q:Value->Shared->Prop} {c:Value} {b:Bool}
end
structure Room (k:Nat) (A:Around):Prop where
 hd:A.handled=none
 dp:A.depth+3*k+5<recursionLimit
 un:A.units+16*k+200<cLine
 gd:A.guards=some []
def Room.mono {j k:Nat} {A:Around} (r:Room k A) (h:j<=k):Room j A:=⟨r.hd,by have:=r.dp;omega,by have:=r.un;omega,r.gd⟩
def Room.deeper {k:Nat} {A:Around} (r:Room (k+1) A) (env:Env):Room k (A.deeper env):=
 ⟨r.hd,by have:=r.dp;show A.depth+1+3*k+5<_;omega,by have:=r.un;show A.units+3+16*k+200<_;omega,r.gd⟩
def Room.in1 {k:Nat} {A:Around} (r:Room (k+1) A):Room k A.in1:=
 ⟨r.hd,by have:=r.dp;show A.depth+3*k+5<_;omega,by have:=r.un;show A.units+1+16*k+200<_;omega,r.gd⟩
def Room.depth {k:Nat} {A:Around} (r:Room k A):A.depth<recursionLimit:=by have:=r.dp;omega
def Room.units {k:Nat} {A:Around} (r:Room k A):A.units+64<cLine:=by have:=r.un;omega
def qof:TA:=λ_ H Q=>Q [] H
def ql2 (ta:TE) (tr:TA):TA:=λσ H Q=>ta σ H λx H1=>tr σ H1 λxs H2=>Q (x::xs) H2
section
variable {X:Cx} {e:Expr} {es:List Expr} {te:TE} {t:TA} {pos:Pos}
def KD:PA X [] qof:=λ_ _ _ _ H Q I h=>Calls.spliced_nil ⟨[],H,I,.nil,h⟩
def YS (ha:PE X e te) (hr:PA X es t) (hs:starEach (e::es) X.env=(false,eval e X.env)::starEach es X.env:=by rfl):PA X (e::es) (ql2 te t):=by
 intro pos pins s σ H Q I h;rw [hs];show wpAny _ _ (spliced ((false,eval e X.env)::backTo pos (starEach es X.env))) _ _ s;refine Calls.spliced_cons (thn (ha pins s σ H _ I h) λu s1 ⟨x,H1,I1,r1,q1⟩=>?_);exact thn (hr pos pins s1 σ H1 _ I1 q1) λus s2 ⟨xs,H2,I2,r2,q2⟩=>⟨x::xs,H2,I2,.cons r1 r2,q2⟩
def qoj (t:TA):TE:=λσ H Q=>t σ H λxs H1=>xs.length<=sizeLine/\∀ p,H1 p=none->Q (.ref p) (upd H1 p (.tup xs))
def qon (t:TA):TE:=λσ H Q=>t σ H λxs H1=>xs.length<=sizeLine/\∀ p,H1 p=none->Q (.ref p) (upd H1 p (.lst xs))
def qdV {x1} (h:PA X es t):PE X (.Tuple es x1 pos) (qoj t):=by
 intro pins s σ H Q I hq;refine wpAny_Tuple_spliced (thn (h pos pins s σ H _ I hq) λus s1 ⟨xs,H1,I1,r,z,q⟩=>⟨by rw [← r.length];exact z,?_⟩);have hf:H1 s1.heap.objs.size=none:=I1.hok.fresh (Nat.le_refl _);refine ⟨.ref s1.heap.objs.size,upd H1 s1.heap.objs.size (.tup xs),I1.laid (t':=s1.toks) (λb u e=>Heap.get?_push_of_some _ e) (Nat.le_refl _) ?_,rfl,q _ hf⟩;exact ⟨z,us,r,⟨_,Heap.get?_push_size _ rfl,rfl,_,rfl⟩⟩
def qjB (h:PA X es t):PE X (.List es pos) (qon t):=by
 intro pins s σ H Q I hq;refine wpAny_List_spliced (thn (h pos pins s σ H _ I hq) λus s1 ⟨xs,H1,I1,r,z,q⟩=>⟨by rw [← r.length];exact z,?_⟩);have hf:H1 s1.heap.objs.size=none:=I1.hok.fresh (Nat.le_refl _);refine ⟨.ref s1.heap.objs.size,upd H1 s1.heap.objs.size (.lst xs),I1.laid (t':=s1.toks) (λb u e=>Heap.get?_push_of_some _ e) (Nat.le_refl _) ?_,rfl,q _ hf⟩;exact ⟨z,us,0,r,Heap.get?_push_size _ rfl⟩
end
abbrev Sp:=List V->Hp->VK->XK->Prop
abbrev CXT:=List Env->Hp->Shared->XK->Value->Shared->Prop
structure Env0 (P:Program) (w:World) (K:Frg) (mg:Str->Option Value) (base:Heap) (A:Around) (outer:List Env) (s:Shared) (H:Hp):Prop where
 frames:A.frames=some outer
 mod:Mod K mg base
 bs:∀ b o,base.get? b=some o->s.heap.get? b=some o/\H b=none
 bsz:base.objs.size<=s.heap.objs.size
 funs:s.heap.FunFrames base outer
 frf:∀ b∈frs outer,H b=none
 hok:HOk P w H s.heap
 bare:AllBare s.gens
def CE (outer:List Env) (P:Program) (w:World) (H:Hp) (s:Shared) (Q:VK) (u:Value) (s':Shared):Prop:=
 ∃ v H',s'.os=s.os/\AllBare s'.gens/\Un (frs outer) [] H H' s.heap s'.heap/\HOk P w H' s'.heap/\jI v u/\Q v H'
def CR (CX:CXT) (outer:List Env) (P:Program) (w:World) (H:Hp) (s:Shared) (Q:VK) (E:XK) (r:Result) (s':Shared):Prop:=
 match r with
 |.ok (.ret u)=>CE outer P w H s Q u s'
 |.ok _=>False
 |.error e=>CX outer H s E e s'
structure FnOk (P:Program) (w:World) (K:Frg) (mg:Str->Option Value) (base:Heap) (CX:CXT) (k:Nat) (f:Addr) (fd:FuncData) (ps:List Str) (sp:Sp):Prop where
 len:∀ vs H Q E,sp vs H Q E->vs.length=ps.length
 run:∀ (A:Around) (outer:List Env) (s:Shared) (H:Hp) (args:Args) (us:List Value) (vs:List V) (Q:VK) (E:XK),Room k A->Env0 P w K mg base A outer s H->BindsTo s fd args (ps.zip us)->zx vs us->sp vs H Q E ->
  codeAny (model P w) A (.call (.ref f) args) (CR CX outer P w H s Q E) s
def FnOk.mono {P:Program} {w:World} {K:Frg} {mg:Str->Option Value} {base:Heap} {CX:CXT} {j k:Nat} {f:Addr} {fd:FuncData} {ps:List Str} {sp:Sp} (F:FnOk P w K mg base CX j f fd ps sp) (h:j<=k) :
  FnOk P w K mg base CX k f fd ps sp:=⟨F.len,λA outer s H args us vs Q E hr=>F.run A outer s H args us vs Q E (hr.mono h)⟩
def FnOk.imp {P:Program} {w:World} {K:Frg} {mg:Str->Option Value} {base:Heap} {CX:CXT} {k:Nat} {f:Addr} {fd:FuncData} {ps:List Str} {sp sp':Sp} (F:FnOk P w K mg base CX k f fd ps sp)
  (h:∀ vs H Q E,sp' vs H Q E->sp vs H Q E):FnOk P w K mg base CX k f fd ps sp':=
 ⟨λvs H Q E q=>F.len vs H Q E (h _ _ _ _ q),λA outer s H args us vs Q E hr he hb hv hs=>F.run A outer s H args us vs Q E hr he hb hv (h _ _ _ _ hs)⟩
def Env0.in1 {P:Program} {w:World} {K:Frg} {mg:Str->Option Value} {base:Heap} {A:Around} {outer:List Env} {s:Shared} {H:Hp} (e:Env0 P w K mg base A outer s H) :
  Env0 P w K mg base A.in1 outer s H:=⟨e.frames,e.mod,e.bs,e.bsz,e.funs,e.frf,e.hok,e.bare⟩
section
variable {X:Cx} {pins:List (Addr×Obj)} {σ:St} {H:Hp} {s s':Shared}
def Inv.env0 (I:Inv X pins σ H s):Env0 X.prog X.w X.K X.mg X.base X.A X.stack s H:=
 ⟨I.ok.frames,I.ok.mod,I.bs,Nat.le_trans I.ok.bsz I.sz,I.stack,I.stkFree,I.hok,I.bare⟩
def Inv.after {Q:VK} {u:Value} (I:Inv X pins σ H s) (h:CE X.stack X.prog X.w H s Q u s'):EP X pins σ Q u s':=by
 obtain ⟨v,H',os,bare,un,hok,r,q⟩:=h;obtain ⟨hh,g,d,t,os'⟩:=s';obtain rfl:os'=s.os:=os;exact ⟨v,H',I.call (h':=hh) (g':=g) (d':=d) (t':=t) (ch:=[]) un hok bare (λb z=>absurd z (by simp)),r,q⟩
end
def qmf (sp:Sp) (dvs:List V) (E:XK) (t:TA):TE:=λσ H Q=>t σ H λvs H1=>sp (vs++dvs) H1 Q E
def zB (K:Frg) (fd:FuncData) (ps:List Str) (ds:List Value):Prop:=
 ∀ (s:Shared) (us:List Value),K.In s.heap->(us++ds).length=ps.length->BindsTo s fd ⟨us,[]⟩ (ps.zip (us++ds))
def zB.all {K:Frg} {fd:FuncData} {ps:List Str} (h:∀ us:List Value,us.length=ps.length->bindArgs fd ⟨us,[]⟩=pure (ps.zip us)):zB K fd ps []:=λs us _ hl=>by
 rw [List.append_nil] at hl ⊢;exact .of_eq (h us hl)
def NL (CX:CXT) (X:Cx) (E:XK):Prop:=∀ (pins:List (Addr×Obj)) (σ:St) (H:Hp) (s:Shared) (e:Value) (s':Shared),Inv X pins σ H s->CX X.stack H s E e s'->X.xe e s'
section
variable {X:Cx} {CX:CXT} {k:Nat} {f C:Addr} {fd:FuncData} {ps:List Str} {sp:Sp} {dvs:List V} {ds:List Value} {E:XK} {x m:Str} {p pos apos:Pos} {e o:Expr} {es:List Expr} {ta:TE} {t:TA}
def qhj {pins:List (Addr×Obj)} {σ:St} {H:Hp} {s:Shared} {Q:VK} {us:List Value} {vs:List V} (F:FnOk X.prog X.w X.K X.mg X.base CX k f fd ps sp) (hr:Room k X.A) (hb:zB X.K fd ps ds) (hd:zx dvs ds) (hx:NL CX X E)
  (I:Inv X pins σ H s) (r:zx vs us) (h:sp (vs++dvs) H Q E):wpAny (model X.prog X.w) X.A (call (.ref f) us) (EP X pins σ Q) X.xe s:=by
 have r2:zx (vs++dvs) (us++ds):=r.append hd;have hl:(us++ds).length=ps.length:=by rw [← r2.length];exact F.len _ _ _ _ h
 refine wpAny_call (codeAny_mono (F.run X.A X.stack s H ⟨us,[]⟩ (us++ds) (vs++dvs) Q E hr I.env0 (hb s us I.kIn hl) r2 h) λr s' hq=>?_);cases r with
 |error e=>exact hx pins σ H s e s' I hq
 |ok fl=>
  cases fl with
  |ret u=>exact I.after hq
  |next=>exact False.elim hq
  |brk=>exact False.elim hq
  |cont=>exact False.elim hq
def qeU (F:FnOk X.prog X.w X.K X.mg X.base CX k f fd ps sp) (hr:Room k X.A) (hg:Gl X x) (hm:X.mg x=some (.ref f)) (hk:PySem.W.keepIn X.K (.ref f)=true) (hb:zB X.K fd ps ds) (hd:zx dvs ds) (hx:NL CX X E)
  (ha:PA X (e::es) t) (hdb:(x==("__debug__" : Str))=false:=by decide) (he:starEach (e::es) X.env=(false,eval e X.env)::starEach es X.env:=by rfl) (hpl:(backTo pos (starEach es X.env)).any (·.1)=false:=by rfl) :
  PE X (.Call (.Name x p) (e::es) [] pos) (qmf sp dvs E t):=by
 intro pins s σ H Q I h;refine wpAny_Call_Name_kw (qeC I hg hm ?_ hdb);refine PySem.W.callWith_K (h₀:=X.base) I.ok.mod.kin hk (thn (ha pos pins s σ H _ I h) λus s1 ⟨vs,H1,I1,r,q⟩=>⟨I1.kIn,?_⟩) he hpl;exact qhj F hr hb hd hx I1 r q
end
section
variable {X:Cx} {CX:CXT} {k:Nat} {f C:Addr} {fd:FuncData} {ps ks:List Str} {sp:Sp} {E:XK} {x m:Str} {p pos apos kpos:Pos} {e o:Expr} {es:List Expr} {kws:List Keyword} {te ta:TE} {t tk:TA} {nm:Option Str}
variable {g:List Value->List Value->List Value} {gV:List V->List V->List V}
end
structure FnScope (N P:List Str) (sc:Scope):Prop where
 kind:sc.kind=.function
 co:sc.isCoroutine=false
 gen:sc.isGenerator=false
 nd:N.Nodup
 pre:N.take P.length=P
 par:∀ x∈P,sc.names.lookup x=some .local\/sc.names.lookup x=some .cell
 nofree:∀ y∈sc.names,y.2≠.free
def C7 {kindOf:Str->Option NameKind} {x:Str}:∀ {binds:List (Str×Value)} {m:Str->Option Value},(∀ v,(x,v)∉binds)->bindL kindOf binds m x=m x
 |[],_,_=>rfl
 | (n,v)::r,m,h=>by
  unfold bindL;rw [C7 λw hw=>h w (List.mem_cons_of_mem _ hw)];split
  ·have:x≠n:=by rintro rfl;exact h v List.mem_cons_self
   simp [this]
  ·rfl
def RO {kindOf:Str->Option NameKind} {x:Str}:∀ {binds:List (Str×Value)} {m:Str->Option Value},(∀ v,(x,v)∉binds)->bindC kindOf binds m x=m x
 |[],_,_=>rfl
 | (n,v)::r,m,h=>by
  unfold bindC;rw [RO λw hw=>h w (List.mem_cons_of_mem _ hw)];split
  ·rfl
  ·have:x≠n:=by rintro rfl;exact h v List.mem_cons_self
   simp [this]
def RI {kindOf:Str->Option NameKind} {x:Str} {v:Value}:∀ {P:List Str} {vs:List Value} {i:Nat} {m:Str->Option Value},P.Nodup->P[i]?=some x->vs[i]?=some v->kindOf x=some .local ->
  bindL kindOf (P.zip vs) m x=some v
 |[],_,_,_,_,h,_,_=>by simp at h
 |_::_,[],_,_,_,_,h,_=>by simp at h
 |p::P,w::vs,0,m,nd,h1,h2,hk=>by
  simp at h1 h2;subst h1;subst h2;show bindL kindOf ((p,w)::P.zip vs) m p=_;unfold bindL;rw [C7 λv hv=>(List.nodup_cons.mp nd).1 (List.of_mem_zip hv).1,if_pos hk];simp
 |p::P,w::vs,i+1,m,nd,h1,h2,hk=>by
  show bindL kindOf ((p,w)::P.zip vs) m x=_;unfold bindL;exact RI (i:=i) (List.nodup_cons.mp nd).2 (by simpa using h1) (by simpa using h2) hk
def RX {kindOf:Str->Option NameKind} {x:Str} {v:Value}:∀ {P:List Str} {vs:List Value} {i:Nat} {m:Str->Option Value},P.Nodup->P[i]?=some x->vs[i]?=some v->kindOf x≠some .local ->
  bindC kindOf (P.zip vs) m x=some v
 |[],_,_,_,_,h,_,_=>by simp at h
 |_::_,[],_,_,_,_,h,_=>by simp at h
 |p::P,w::vs,0,m,nd,h1,h2,hk=>by
  simp at h1 h2;subst h1;subst h2;show bindC kindOf ((p,w)::P.zip vs) m p=_;unfold bindC;rw [RO λv hv=>(List.nodup_cons.mp nd).1 (List.of_mem_zip hv).1,if_neg hk];simp
 |p::P,w::vs,i+1,m,nd,h1,h2,hk=>by
  show bindC kindOf ((p,w)::P.zip vs) m x=_;unfold bindC;exact RX (i:=i) (List.nodup_cons.mp nd).2 (by simpa using h1) (by simpa using h2) hk
def EY (N:List Str) (vs:List V):St:=vs.map some++List.replicate (N.length-vs.length) none
def qbg (CX:CXT) (P:Program) (w:World) (K:Frg) (mg:Str->Option Value) (base:Heap) (N:List Str) (qual:Str) (scope:Scope) (f:Addr) (cd:Value) (A:Around) (outer:List Env) (s:Shared) (H:Hp) (E:XK):Cx where
 prog:=P
 w:=w
 K:=K
 mg:=mg
 base:=base
 A:=A.deeper (envOfC qual scope s.heap.objs.size f cd)
 N:=N
 s₀:=s
 H₀:=H
 env:=envOfC qual scope s.heap.objs.size f cd
 outer:=outer
 stack:=envOfC qual scope s.heap.objs.size f cd::outer
 ex:=[]
 calm:=true
 fn:=λ_=>true
 pn:=[]
 xe:=λe s'=>wpAny (model P w) (A.deeper (envOfC qual scope s.heap.objs.size f cd)) (leaving (envOfC qual scope s.heap.objs.size f cd) e) (λ_ s''=>CX outer H s E e s'') (λe' s''=>CX outer H s E e' s'') s'
def KZ {sc:Scope} {n:Nat} {x:Str} (h:sc.names.lookup x=some .cell):∃ c,(cellsFrom n sc.names []).lookup x=some c:=by
 have q:=PySem.W.cellsFrom_some sc.names n [] (.inl h);exact Option.isSome_iff_exists.mp q
def M9 {CX:CXT} {P:Program} {w:World} {K:Frg} {mg:Str->Option Value} {base:Heap} {N ps:List Str} {qual:Str} {scope:Scope} {f:Addr} {cd:Value} {A:Around} {outer:List Env} {s s1:Shared} {H:Hp} {E:XK} {us:List Value} {vs:List V}
  (S:FnScope N ps scope) (hd:A.handled=none) (e0:Env0 P w K mg base A outer s H) (hl:vs.length=ps.length) (r:zx vs us)
  (x:InCallC s s.heap.objs.size (bindL (envOfC qual scope s.heap.objs.size f cd).kindOf (ps.zip us) λ_=>none) (cellsFrom (s.heap.objs.size+1) scope.names []) (bindC (envOfC qual scope s.heap.objs.size f cd).kindOf (ps.zip us) λ_=>none) s1) :
  Inv (qbg CX P w K mg base N qual scope f cd A outer s H E) [] (EY N vs) H s1:=by
 have hpl:ps.length<=N.length:=by have:=congrArg List.length S.pre;rw [List.length_take] at this;omega
 obtain ⟨h1,tk,rfl,hk⟩:=x.done;have noA:∀ b:Addr,b∉(qbg CX P w K mg base N qual scope f cd A outer s H E).ex:=λb z=>absurd (show b∈([]:List Addr) from z) (by simp);refine ⟨⟨e0.mod,S.kind,rfl,rfl,Nat.le_refl _,λy z c h1 h2=>?_,λy hy=>?_,λy c _ h=>?_,λ_=>hd,Around.frames_deeper e0.frames,.inr ⟨rfl,rfl⟩,λb z=>absurd z (noA b),e0.bs,e0.bsz,λb _ _=>noA b,λb z=>absurd z (noA b),e0.funs,e0.frf⟩,
  rfl,e0.bare,Un.kept hk,⟨_,x.toInCall.ns,λi y v h1 h2 h3=>?_⟩,λy c h=>⟨_,x.cell y c h⟩,e0.hok.fresh (Nat.le_refl _),λy c h=>?_,λp hp=>absurd (show p∈([]:List (Addr×Obj)) from hp) (by simp),e0.hok.kept hk,?_⟩
 ·exact name_of_addr x.apart (PySem.mem_of_lookup h1) (PySem.mem_of_lookup h2)
 ·have hy:scope.names.lookup y=some .cell\/scope.names.lookup y=some .free:=hy;rcases hy with hy|hy
  ·exact KZ hy
  ·exact absurd rfl (S.nofree _ (PySem.mem_of_lookup hy))
 ·exact Nat.le_of_lt (x.above y c (PySem.mem_of_lookup h))
 ·have hi:i<vs.length:=by
   unfold EY at h2;by_cases hi:i<vs.length
   ·exact hi
   ·rw [List.getElem?_append_right (by simpa using hi)] at h2;rw [List.getElem?_replicate] at h2;split at h2<;>cases h2
  have ha:vs[i]?=some v:=by
   unfold EY at h2;rw [List.getElem?_append_left (by simpa using hi),getElem?_map] at h2;cases e:vs[i]? with
   |none=>rw [e] at h2;cases h2
   |some a=>rw [e] at h2;cases h2;rfl
  obtain ⟨u,hu,rv⟩:=r.get ha;have hp:ps[i]?=some y:=by
   rw [← S.pre,List.getElem?_take_of_lt (by omega)];exact h1
  have ndP:ps.Nodup:=by rw [← S.pre];exact S.nd.sublist (List.take_sublist _ _)
  refine ⟨u,rv,?_⟩;rcases S.par y (mem_of_getElem? hp) with k|k
  ·exact .inl ⟨k,RI ndP hp hu k⟩
  ·obtain ⟨c,e⟩:=KZ (n:=s.heap.objs.size+1) k;refine .inr ⟨.inl k,c,e,?_⟩;have q:=x.cell y c e;rw [RX ndP hp hu (by show scope.names.lookup y≠_;rw [k];decide)] at q;exact q
 ·exact e0.hok.fresh (Nat.le_of_lt (x.above y c (PySem.mem_of_lookup h)))
 ·unfold EY;show _=N.length;rw [length_append,length_map,List.length_replicate];omega
def ql7 {CX:CXT} {P:Program} {w:World} {K:Frg} {mg:Str->Option Value} {base:Heap} {k:Nat} {f:Addr} {name qual:Str} {params:Arguments} {body:List Stmt} {scope:Scope} {dV kV doc pm cdv ct oc:Value} {an od:Option Addr}
  {osl:Array (Option Value)} {N ps:List Str} {sp:Sp} (lk:K.lookup f=some ⟨oc,od,.func (PySem.W.fnOf name qual params body scope dV kV doc pm an cdv ct),osl⟩) (hcd:PySem.W.codeIn K cdv qual=true) (S:FnScope N ps scope)
  (len:∀ vs H Q E,sp vs H Q E->vs.length=ps.length)
  (hbody:∀ (A:Around) (outer:List Env) (s:Shared) (H:Hp) (vs:List V) (Q:VK) (E:XK),Room k (A.deeper (envOfC qual scope s.heap.objs.size f cdv))->sp vs H Q E ->
   ∃ t,PSs (qbg CX P w K mg base N qual scope f cdv A outer s H E) body t/\t { nx:=λ_ H'=>Q .non H',rt:=Q } (EY N vs) H) :
  FnOk P w K mg base CX (k+1) f (PySem.W.fnOf name qual params body scope dV kV doc pm an cdv ct) ps sp:=by
 refine ⟨len,λA outer s H args us vs Q E hr e0 hb r hsp=>?_⟩;have hl:=len _ _ _ _ hsp;have KX:K.In s.heap:=e0.mod.kin.keeps λb o e=>(e0.bs b o e).1;have lim:s.heap.NoLimit:=e0.mod.nolimit.keeps λb o e=>(e0.bs b o e).1;have hkind:∀ y∈ps.zip us,scope.names.lookup y.1=some .local\/(scope.names.lookup y.1=some .cell/\((cellsFrom (s.heap.objs.size+1) scope.names []).lookup y.1).isSome=true):=λ⟨n,v⟩ hy=>by
  rcases S.par n (List.of_mem_zip hy).1 with q|q
  ·exact .inl q
  ·exact .inr ⟨q,PySem.W.cellsFrom_some _ _ _ (.inl q)⟩
 refine codeAny_call_function hr.depth (KX _ _ lk) rfl S.co S.gen rfl (PySem.W.codeRec_of KX hcd) (hb _ _ _ _ ?_);refine wpAny_newFunctionEnv_cells S.kind hkind λenv he s1 x=>?_;subst he;refine ⟨lim.keeps x.toInCall.keep,codeAny_func ?_⟩;obtain ⟨t,ht,hq⟩:=hbody A outer s H vs Q E (hr.deeper _) hsp;have I:Inv (qbg CX P w K mg base N qual scope f cdv A outer s H E) [] (EY N vs) H s1:=M9 S hr.hd e0 hl r x;refine wpAny_mono (ht [] s1 (EY N vs) H _ I hq) (λfl s' hs=>?_) λe s' hs=>hs;have fin:∀ {σ':St} {H':Hp} {v:V} {u:Value},Inv (qbg CX P w K mg base N qual scope f cdv A outer s H E) [] σ' H' s'->jI v u->Q v H'->CE outer P w H s Q u s':=
  λ{σ' H' v u} J rv q=>⟨v,H',J.os,J.bare,J.base,J.hok,rv,q⟩
 cases fl with
 |ret u=>
  obtain ⟨v,σ',H',J,rv,q⟩:=hs;exact fin J rv q
 |next=>
  obtain ⟨σ',H',J,q⟩:=hs;exact fin (v:=V.non) (u:=Value.none) J rfl q
 |brk=>
  obtain ⟨_,_,_,q⟩:=hs;exact False.elim q
 |cont=>
  obtain ⟨_,_,_,q⟩:=hs;exact False.elim q
section
variable {X:Cx} {x:Str} {p pos:Pos} {e:Expr} {es:List Expr} {t:TA} {id T:String} {r:List V->Hp->VK->Prop}
def tCB (r:List V->Hp->VK->Prop) (t:TA):TE:=λσ H Q=>t σ H λvs H1=>r vs H1 Q
def CC (hc:JD X (.builtin id) r) (hg:Gl X x) (hm:X.mg x=none) (hv:bootBuiltins x=some (.builtin id)) (ha:PA X (e::es) t) (hn:x≠"__name__" := by decide) (hdb:(x==("__debug__" : Str))=false:=by decide)
  (he:starEach (e::es) X.env=(false,eval e X.env)::starEach es X.env:=by rfl) (hpl:(backTo pos (starEach es X.env)).any (·.1)=false:=by rfl):PE X (.Call (.Name x p) (e::es) [] pos) (tCB r t):=by
 intro pins s σ H Q I h;refine wpAny_Call_Name_kw (C2 I hg hm hv ?_ hn hdb);exact PyProof.Rows.callWith_builtin1 (thn (ha pos pins s σ H _ I h) λus s1 ⟨vs,H1,I1,r1,q1⟩=>hc pins s1 σ H1 vs us Q I1 r1 q1) he hpl
def qab (hc:JD X (.type T) r) (hg:Gl X x) (hm:X.mg x=none) (hv:bootBuiltins x=some (.type T)) (ha:PA X (e::es) t) (hn:x≠"__name__" := by decide) (hdb:(x==("__debug__" : Str))=false:=by decide)
  (he:starEach (e::es) X.env=(false,eval e X.env)::starEach es X.env:=by rfl) (hpl:(backTo pos (starEach es X.env)).any (·.1)=false:=by rfl):PE X (.Call (.Name x p) (e::es) [] pos) (tCB r t):=by
 intro pins s σ H Q I h;refine wpAny_Call_Name_kw (C2 I hg hm hv ?_ hn hdb);exact PyProof.Rows.callWith_type1 (thn (ha pos pins s σ H _ I h) λus s1 ⟨vs,H1,I1,r1,q1⟩=>hc pins s1 σ H1 vs us Q I1 r1 q1) he hpl
end
end L2
namespace HT
open PySem PyProof.Rows
section
open PySem.SeqAt
open PySem.MeetsSeq PySem.MeetsSeq2 PySem.MeetsSeq3
end
section
variable {prog:Program} {w:World} {A:Around} {E:Value->Shared->Prop} {s:Shared}
def qeK {t b:Addr} {vs ws:List Value} {Q:Value->Shared->Prop} (ht:IsTup s.heap t vs.toArray) (hb:IsTup s.heap b ws.toArray) (hv:vs≠[])
  (h1:ws=[]->Q (.ref t) s) (h2:ws≠[]->Q (.ref s.heap.objs.size) { s with heap:=s.heap.push { cls:=.type "tuple",data:=.seq (vs++ws).toArray } })
  (hsz:vs.length+ws.length<=sizeLine):wpAny (model prog w) A (binaryOp .Add (.ref t) (.ref b)) Q E s:=by
 obtain ⟨⟨cls,dd,data,sl⟩,ho,hc,n,hd⟩:=id ht;obtain ⟨⟨cls2,dd2,data2,sl2⟩,ho2,hc2,n2,hd2⟩:=id hb;simp only at hc hd hc2 hd2;subst hc hd hc2 hd2;have e:vs.toArray++ws.toArray=(vs++ws).toArray:=by simp
 by_cases hw:ws=[]
 ·exact concat_meets ⟨_,ho,rfl⟩ ⟨_,ho2,rfl⟩ noFill_tuple_add seq_tuple_add PySem.F.slot_tuple_add PySem.F.entry_tuple_add (PySem.F.args_tuple_add_2 _ _)
   (tuple_addW1 t b vs.toArray ws.toArray n n2 dd dd2 sl sl2 (by simpa using hv) (by simp [hw])) ⟨ho,ho2,h1 hw⟩
 ·refine concat_meets ⟨_,ho,rfl⟩ ⟨_,ho2,rfl⟩ noFill_tuple_add seq_tuple_add PySem.F.slot_tuple_add PySem.F.entry_tuple_add (PySem.F.args_tuple_add_2 _ _)
   (tuple_addW2 t b vs.toArray ws.toArray n n2 dd dd2 sl sl2 (by simpa using hv) (by simpa using hw) (by rw [size_toArray,size_toArray];exact hsz)) ⟨ho,ho2,?_⟩
  rw [e];exact h2 hw
def sIx (n d:Nat):Option Int->Nat
 |none=>d
 |some v=>if v<0 then (v+(n:Int)).toNat else min v.toNat n
def T8 (n d:Nat):sIx n d none=d:=rfl
def W4 (n d k:Nat):sIx n d (some (k:Int))=min k n:=by
 show (if (k:Int)<0 then ((k:Int)+(n:Int)).toNat else min (k:Int).toNat n)=min k n;rw [if_neg (by omega),Int.toNat_natCast]
def qki (n d:Nat) (hd:d<=n) (o:Option Int):sIx n d o<=n:=by
 cases o with
 |none=>exact hd
 |some v=>
  show (if v<0 then (v+(n:Int)).toNat else min v.toNat n)<=n;by_cases hv:v<0
  ·rw [if_pos hv];omega
  ·rw [if_neg hv];exact Nat.min_le_right _ _
def qa8 (v:Int) (n d:Nat):(if v<0 then max (v+(n:Int)) 0 else min v (n:Int))=((sIx n d (some v):Nat):Int):=by
 show (if v<0 then max (v+(n:Int)) 0 else min v (n:Int))=(((if v<0 then (v+(n:Int)).toNat else min v.toNat n):Nat):Int);by_cases hv:v<0
 ·simp only [if_pos hv];omega
 ·simp only [if_neg hv];omega
def L5 (lo hi:Option Int) (n:Nat):Builtin.Slice.sliceAdjust lo hi 1 (n:Int)=(((sIx n 0 lo:Nat):Int),((sIx n n hi:Nat):Int)):=by
 have h1:¬ ((1:Int)<0):=by omega
 unfold Builtin.Slice.sliceAdjust;simp only [h1,if_false];refine Prod.ext ?_ ?_
 ·cases lo with
  |none=>rfl
  |some v=>exact qa8 v n 0
 ·cases hi with
  |none=>rfl
  |some v=>exact qa8 v n n
def K7 (i j:Nat):Builtin.Slice.slicePlaces (i:Int) (j:Int) 1=j-i:=by
 unfold Builtin.Slice.slicePlaces;have h1:(1:Int) > 0:=by omega
 simp only [h1,if_true,Int.ediv_one];split<;>omega
def V9 {v:Value} {o:Option Int} {Q:Option Int->Shared->Prop} (p:IsPart v o) (h:Q o s):wpAny (model prog w) A (Builtin.Slice.slicePartIndex v) Q E s:=by
 cases p with
 |none=>exact slicePart_none h
 |int i t=>exact slicePart_int h
def JB {sl:Addr} {vl vu:Value} {lo hi:Option Int} {n:Nat} {Q:Int×Int×Nat->Shared->Prop} (hs:s.heap.IsSliceOf sl vl vu .none) (pl:IsPart vl lo) (pu:IsPart vu hi)
  (h:Q (((sIx n 0 lo:Nat):Int),1,sIx n n hi-sIx n 0 lo) s):wpAny (model prog w) A (Builtin.Slice.sliceApplied (.ref sl) (pure (n:Int))) Q E s:=by
 obtain ⟨os,hos,hcs,hds⟩:=id hs;unfold Builtin.Slice.sliceApplied Builtin.Slice.sliceFields;refine wpAny_bind (wpAny_bind (wpAny_field hos hds (x:=vl) rfl (wpAny_bind (wpAny_field hos hds (x:=vu) rfl (wpAny_bind (wpAny_field hos hds (x:=.none) rfl (wpAny_pure ?_)))))));refine wpAny_bind (slicePart_none ?_);show wpAny _ _ (if ((1:Int)==0)=true then _ else _) _ _ s;rw [if_neg (by decide)];refine wpAny_bind (V9 pl (wpAny_bind (V9 pu (wpAny_bind (wpAny_pure ?_)))));show wpAny _ _ (match Builtin.Slice.sliceAdjust lo hi 1 (n:Int) with|(lo,hi)=>pure (lo,(1:Int),Builtin.Slice.slicePlaces lo hi 1)) _ _ s;rw [L5 lo hi n];show wpAny _ _ (pure (((sIx n 0 lo:Nat):Int),(1:Int),Builtin.Slice.slicePlaces ((sIx n 0 lo:Nat):Int) ((sIx n n hi:Nat):Int) 1)) _ _ s;rw [K7];exact wpAny_pure h
def qb0 (xs:Array Value) (i k:Nat):((List.range k).filterMap λ(m:Nat)=>xs[((i:Int)+(m:Int)*1).toNat]?).toArray=((xs.toList.drop i).take k).toArray:=by
 have e:(λ(m:Nat)=>xs[((i:Int)+(m:Int)*1).toNat]?)=λm=>xs[i+m]?:=by
  funext m;have:((i:Int)+(m:Int)*1).toNat=i+m:=by omega
  rw [this]
 rw [e];have:=pick_run xs i k;rw [List.filterMap_map] at this;have e2:((λx=>xs[x]?)∘λx=>i+x)=λm=>xs[i+m]?:=rfl;rw [e2] at this;rw [this]
def V8 {t sl:Addr} {items:Array Value} {vl vu:Value} {lo hi:Option Int} {Q:Value->Shared->Prop} (ht:IsTup s.heap t items) (hs:s.heap.IsSliceOf sl vl vu .none) (pl:IsPart vl lo) (pu:IsPart vu hi)
  (hw:¬ (sIx items.size 0 lo=0/\sIx items.size items.size hi=items.size))
  (h:Q (.ref s.heap.objs.size) { s with heap:=s.heap.push { cls:=.type "tuple",data:=.seq ((items.toList.drop (sIx items.size 0 lo)).take (sIx items.size items.size hi-sIx items.size 0 lo)).toArray } })
  (hsz:items.size<=sizeLine):wpAny (model prog w) A (getItem (.ref t) (.ref sl)) Q E s:=by
 have htake:sizeOk (.seq ((items.toList.drop (sIx items.size 0 lo)).take (sIx items.size items.size hi-sIx items.size 0 lo)).toArray):=by
  show ((items.toList.drop (sIx items.size 0 lo)).take (sIx items.size items.size hi-sIx items.size 0 lo)).toArray.size<=sizeLine;rw [size_toArray,List.length_take,List.length_drop,Array.length_toList];omega
 have hj:sIx items.size items.size hi<=items.size:=qki _ _ (Nat.le_refl _) hi;obtain ⟨os,hos,hcs,hds⟩:=id hs;have hTs:s.TypeIs (.ref sl) "slice" := ⟨os,hos,hcs⟩
 unfold getItem
 try with_reducible refine wpAny_holding ?_
 first|refine wpAny_bind (wpAny_pure ?_)|skip
 refine wpAny_bind (wpAny_sequenceKey ht.typeIs (by decide) ?_);refine wpAny_bind (wpAny_callSpecial?_slot (name:=Str.ofString "__getitem__") ht.typeIs PyProof.Rows.slot_tuple_getitem
  (wpAny_call_entry PyProof.Rows.slot_tuple_getitem ht.typeIs entry_tuple_getitem ?_ (args_tuple_getitem _ _)))
 show wpAny _ _ (Builtin.Tuple.tupleItemsOf (.ref t) >>= _) _ _ s;refine wpAny_bind (tupleItemsOf_ ht ?_);refine wpAny_bind (wpAny_typeOf hTs ?_);rw [if_pos (by decide)];refine wpAny_bind (JB hs pl pu ?_);have hno:¬ ((((sIx items.size 0 lo:Nat):Int)==0&&(1:Int)==1&&(sIx items.size items.size hi-sIx items.size 0 lo)==items.size)=true):=by
  intro q;rw [Bool.and_eq_true,Bool.and_eq_true] at q;have q1:((sIx items.size 0 lo:Nat):Int)=0:=eq_of_beq q.1.1;have q2:sIx items.size items.size hi-sIx items.size 0 lo=items.size:=eq_of_beq q.2;exact hw ⟨by omega,by omega⟩
 show wpAny _ _ (if (((sIx items.size 0 lo:Nat):Int)==0&&(1:Int)==1&&(sIx items.size items.size hi-sIx items.size 0 lo)==items.size)=true then _ else _) _ _ s;rw [if_neg hno,qb0]
 first
  |exact wpAny_bind (m:=Builtin.Tuple.tupleExact _) (wpAny_newObj_type (wpAny_pure ⟨_,rfl,wpAny_pure h⟩) htake)
  |exact wpAny_bind (m:=Builtin.Tuple.tupleExact _) (wpAny_newObj_type (wpAny_bind (wpAny_pure (wpAny_pure ⟨_,rfl,wpAny_pure h⟩))) htake)
  |exact wpAny_bind (wpAny_bind (m:=Builtin.Tuple.tupleExact _) (wpAny_newObj_type (wpAny_pure (wpAny_pure ⟨_,rfl,wpAny_pure h⟩)) htake))
  |exact wpAny_bind (wpAny_bind (m:=Builtin.Tuple.tupleExact _) (wpAny_newObj_type (wpAny_pure ⟨_,rfl,wpAny_pure h⟩) htake))
end
end HT
namespace L2
open PySem PySem.Spec PyProof.Rows
abbrev TO:=St->Hp->(Option Int->Hp->Prop)->Prop
def PO (X:Cx) (e:Option Expr) (t:TO):Prop:=
 ∀ (pins:List (Addr×Obj)) (s:Shared) (σ:St) (H:Hp) (Q:Option Int->Hp->Prop),Inv X pins σ H s->t σ H Q ->
  wpAny (model X.prog X.w) X.A (evalPart e X.env) (λu s'=>∃ o H',Inv X pins σ H' s'/\IsPart u o/\Q o H') X.xe s
def qfA:TO:=λ_ H Q=>Q none H
def qlJ (t:TE):TO:=λσ H Q=>t σ H λx H1=>∃ i,x=.int i/\Q (some i) H1
section
variable {X:Cx} {e:Expr} {te:TE} {lo hi:Option Expr} {tl th:TO} {pos p2:Pos}
def qeF:PO X none qfA:=by
 intro pins s σ H Q I h;rw [evalPart_none];exact wpAny_pure ⟨none,H,I,.none,h⟩
def qfd (h:PE X e te):PO X (some e) (qlJ te):=by
 intro pins s σ H Q I hw;rw [evalPart_some];refine thn (h pins s σ H _ I hw) λu s1 ⟨x,H1,I1,r1,q1⟩=>?_;obtain ⟨i,rfl,q⟩:=q1;obtain ⟨t,rfl⟩:=r1;exact ⟨some i,H1,I1,.int i t,q⟩
def SlR (X:Cx) (r:V->Option Int->Option Int->Hp->VK->Prop):Prop:=
 ∀ (pins:List (Addr×Obj)) (s:Shared) (σ:St) (H:Hp) (x:V) (v vl vu:Value) (lo hi:Option Int) (sl:Addr) (Q:VK),Inv X pins σ H s->jI x v->s.heap.IsSliceOf sl vl vu .none->IsPart vl lo->IsPart vu hi->r x lo hi H Q ->
  ∃ T id,typeLookup (.type T) "__getitem__" = pure (some (.builtin id))/\s.TypeIs v T/\wpAny (model X.prog X.w) X.A (getItem v (.ref sl)) (EP X pins σ Q) X.xe s
def SlR.or {r r':V->Option Int->Option Int->Hp->VK->Prop} (h:SlR X r) (h':SlR X r'):SlR X (λx lo hi H Q=>r x lo hi H Q\/r' x lo hi H Q):=by
 intro pins s σ H x v vl vu lo hi sl Q I rx hs pl pu q;rcases q with q|q
 ·exact h pins s σ H x v vl vu lo hi sl Q I rx hs pl pu q
 ·exact h' pins s σ H x v vl vu lo hi sl Q I rx hs pl pu q
def tSl (r:V->Option Int->Option Int->Hp->VK->Prop) (te:TE) (tl th:TO):TE:=λσ H Q=>te σ H λx H1=>tl σ H1 λl H2=>th σ H2 λu H3=>r x l u H3 Q
def qbP {r:V->Option Int->Option Int->Hp->VK->Prop} (hr:SlR X r) (he:PE X e te) (hl:PO X lo tl) (hu:PO X hi th):PE X (.Subscript e (.Slice lo hi none p2) pos) (tSl r te tl th):=by
 intro pins s σ H Q I h;refine Subscript_ (thn (he pins s σ H _ I h) λv s1 ⟨x,H1,I1,r1,q1⟩=>?_);refine wpAny_Slice (thn (hl pins s1 σ H1 _ I1 q1) λvl s2 ⟨l,H2,I2,pl,q2⟩=>thn (hu pins s2 σ H2 _ I2 q2) λvu s3 ⟨u,H3,I3,pu,q3⟩=>?_);rw [evalPart_none];refine wpAny_pure ?_;have I4:Inv X pins σ H3 { s3 with heap:=s3.heap.push { cls:=.type "slice",data:=.fields #[vl,vu,.none] } }:=I3.kept (t':=s3.toks) λb ob q=>Heap.get?_push_of_some _ q;obtain ⟨T,id,hT,ht,hg⟩:=hr pins { s3 with heap:=s3.heap.push { cls:=.type "slice",data:=.fields #[vl,vu,.none] } } σ H3 x v vl vu l u s3.heap.objs.size Q I4 r1 (Heap.IsSliceOf.new ..) pl pu q3;show wpAny (model X.prog X.w) X.A (subscriptTail e (.Slice lo hi none p2) v (.ref s3.heap.objs.size)) (EP X pins σ Q) X.xe { s3 with heap:=s3.heap.push { cls:=.type "slice",data:=.fields #[vl,vu,.none] } };exact tail_any (ops:=[.ref s3.heap.objs.size,v]) ht hT hg (by with_unfolding_all rfl)
def qcz (xs:List V) (lo hi:Option Int):List V:=(xs.drop (HT.sIx xs.length 0 lo)).take (HT.sIx xs.length xs.length hi-HT.sIx xs.length 0 lo)
def DK (xs:List V) (lo hi:Option Int):(qcz xs lo hi).length<=xs.length:=by
 unfold qcz;rw [List.length_take,List.length_drop];omega
def qow (K:Frg):V->Option Int->Option Int->Hp->VK->Prop:=λx lo hi H Q=>∃ a xs,x=.ref a/\SqT K H a xs /\
 ¬ (HT.sIx xs.length 0 lo=0/\HT.sIx xs.length xs.length hi=xs.length)/\∀ p,H p=none->Q (.ref p) (upd H p (.tup (qcz xs lo hi)))
def qks:SlR X (qow X.K):=by
 intro pins s σ H x v vl vu lo hi sl Q I rx hs pl pu h;obtain ⟨a,xs,rfl,hx,hw,q⟩:=h;cases rx;obtain ⟨its,r,ht,hz⟩:=I.tuple hx;have hlen:its.toArray.size=xs.length:=by rw [size_toArray];exact r.length.symm
 refine ⟨"tuple",_,PyProof.Rows.slot_tuple_getitem.lookup,ht.typeIs,?_⟩;refine HT.V8 ht hs pl pu (by rw [hlen];exact hw) ?_ (by rw [hlen];exact hz);rw [hlen];refine ⟨.ref s.heap.objs.size,_,I.laid (t':=s.toks) (o:=.tup (qcz xs lo hi)) (λb ob q=>Heap.get?_push_of_some _ q) (Nat.le_refl _) ?_,rfl,q _ (I.hok.fresh (Nat.le_refl _))⟩;exact ⟨Nat.le_trans (DK xs lo hi) hz,_,(r.drop (HT.sIx xs.length 0 lo)).take (HT.sIx xs.length xs.length hi-HT.sIx xs.length 0 lo),IsTup.new _ _⟩
def qgk (K:Frg):R2:=λx y H Q=>∃ a b xs ys,x=.ref a/\y=.ref b/\SqT K H a xs/\SqT K H b ys/\xs≠[]/\xs.length+ys.length<=sizeLine /\
 (ys=[]->Q (.ref a) H)/\(ys≠[]->∀ p,H p=none->Q (.ref p) (upd H p (.tup (xs++ys))))
def zx.nil_iff {xs:List V} {us:List Value} (r:zx xs us):us=[]↔xs=[]:=by
 cases r with
 |nil=>simp
 |cons _ _=>simp
def qax:OpR X (binaryOp .Add) (qgk X.K):=by
 intro pins s σ H x y v u Q I rx ry h;obtain ⟨a,b,xs,ys,rfl,rfl,ha,hb,hx,hz,q1,q2⟩:=h;cases rx;cases ry;obtain ⟨its,r1,p1,_⟩:=I.tuple ha;obtain ⟨its2,r2,p2,_⟩:=I.tuple hb;refine HT.qeK p1 p2 (λz=>hx (r1.nil_iff.mp z)) (λz=>⟨.ref a,H,I,rfl,q1 (r2.nil_iff.mp z)⟩) (λz=>?_) (by rw [← r1.length,← r2.length];exact hz);refine ⟨.ref s.heap.objs.size,_,I.laid (t':=s.toks) (o:=.tup (xs++ys)) (λb ob q=>Heap.get?_push_of_some _ q) (Nat.le_refl _) ?_,rfl,q2 (λw=>z (r2.nil_iff.mpr w)) _ (I.hok.fresh (Nat.le_refl _))⟩;exact ⟨by rw [length_append];exact hz,_,r1.append r2,IsTup.new _ _⟩
end
def ixN (n:Nat) (i:Int):Option Nat:=if 0<=i then (if i<n then some i.toNat else none) else if -(n:Int)<=i then some (i+n).toNat else none
def atI {α:Type} (xs:List α) (i:Int):Option α:=(ixN xs.length i).bind λj=>xs[j]?
def N4 {n:Nat} {i:Int} {j:Nat} (h:ixN n i=some j):seqIndex? i n=some j/\j<n/\-(n:Int)<=i/\i<n:=by
 unfold ixN at h;by_cases h0:0<=i
 ·rw [if_pos h0] at h;by_cases h1:i<n
  ·rw [if_pos h1] at h;have e:i.toNat=j:=Option.some.inj h;exact ⟨by rw [seqIndex_of h0 h1,e],by omega,by omega,h1⟩
  ·rw [if_neg h1] at h;cases h
 ·rw [if_neg h0] at h;by_cases h1:-(n:Int)<=i
  ·rw [if_pos h1] at h;have e:(i+n).toNat=j:=Option.some.inj h;exact ⟨by rw [seqIndex_neg (by omega) h1,e],by omega,h1,by omega⟩
  ·rw [if_neg h1] at h;cases h
def SW {α:Type} {xs:List α} {i:Int} {v:α} (h:atI xs i=some v):∃ j,seqIndex? i xs.length=some j/\xs[j]?=some v/\j<xs.length/\-(xs.length:Int)<=i/\i<xs.length:=by
 unfold atI at h;cases e:ixN xs.length i with
 |none=>rw [e] at h;cases h
 |some j=>
  rw [e] at h;obtain ⟨h1,h2,h3,h4⟩:=N4 e;exact ⟨j,h1,h,h2,h3,h4⟩
def R9 (b:Expr):Prop:=∀ o i,subscripted b false o i=operate [o,i] (getItem o i)
def IxR (X:Cx) (r:R2):Prop:=
 ∀ (value slice:Expr) (pins:List (Addr×Obj)) (s:Shared) (σ:St) (H:Hp) (x y:V) (v u:Value) (Q:VK),Inv X pins σ H s->jI x v->jI y u->r x y H Q ->
  subscripted slice false v u=operate [v,u] (getItem v u)->wpAny (model X.prog X.w) X.A (subscriptTail value slice v u) (EP X pins σ Q) X.xe s
def MtR (X:Cx) (id:String) (r:V->List V->Hp->VK->Prop):Prop:=
 ∀ (pins:List (Addr×Obj)) (s:Shared) (σ:St) (H:Hp) (x:V) (xs:List V) (v:Value) (us:List Value) (Q:VK),Inv X pins σ H s->jI x v->zx xs us->r x xs H Q ->
  wpAny (model X.prog X.w) X.A (call (.builtin id) (v::us)) (EP X pins σ Q) X.xe s
section
variable {X:Cx} {a b:Expr} {ta tb:TE} {pos:Pos}
def IxR.or {r r':R2} (h:IxR X r) (h':IxR X r'):IxR X (λx y H Q=>r x y H Q\/r' x y H Q):=by
 intro value slice pins s σ H x y v u Q I rx ry q hs;rcases q with q|q
 ·exact h value slice pins s σ H x y v u Q I rx ry q hs
 ·exact h' value slice pins s σ H x y v u Q I rx ry q hs
def qmA {r:R2} (hr:IxR X r) (ha:PE X a ta) (hb:PE X b tb) (hs:R9 b):PE X (.Subscript a b pos) (tOp r ta tb):=by
 intro pins s σ H Q I h;exact Subscript_ (qmR ha hb I h λv u s2 x y H2 I2 rx ry q=>hr a b pins s2 σ H2 x y v u Q I2 rx ry q (hs _ _))
def qnw (K:Frg):R2:=λx y H Q=>∃ p xs i v,x=.ref p/\y=.int i/\SqL K H p xs/\atI xs i=some v/\Q v H
def qob (K:Frg):R2:=λx y H Q=>∃ p xs i v,x=.ref p/\y=.int i/\SqT K H p xs/\atI xs i=some v/\Q v H
def qnK:R2:=λx y H Q=>∃ z i c,x=.str z/\y=.int i/\z.length<=sizeLine/\atI z.cps.toList i=some c/\Q (.str ⟨#[c]⟩) H
def qf7:IxR X (qnw X.K):=by
 intro value slice pins s σ H x y v u Q I rx ry h hs;obtain ⟨p,xs,i,z,rfl,rfl,hq,he,q⟩:=h;cases rx;obtain ⟨t,rfl⟩:=ry;obtain ⟨its,r,pl,hz⟩:=I.list hq;obtain ⟨j,h1,h2,h3,h4,h5⟩:=SW he;obtain ⟨w,ew,rw'⟩:=r.get h2;have hl:=r.length;have hn:=RQ;have fin:EP X pins σ Q w s:=⟨z,H,I,rw',q⟩
 by_cases h0:0<=i
 ·have hj:i.toNat=j:=by
   rw [seqIndex_of h0 h5] at h1;exact Option.some.inj h1
  exact item_listR pl.isList h0 (by omega) (by rw [hj];simpa using ew) fin hs
 ·have hj:(i+(its.toArray.size:Int)).toNat=j:=by
   rw [seqIndex_neg (by omega) h4] at h1;rw [size_toArray,← hl];exact Option.some.inj h1
  exact subscriptTail_builtinR (x:=w) pl.isList.typeIs slot_list_getitem.lookup
   (wpAny_getItem_list_neg (Q:=λr s'=>r=w/\EP X pins σ Q r s') pl.isList (by omega) (by rw [size_toArray]<;>omega) (by omega) (by rw [hj];simpa using ew) ⟨rfl,fin⟩) hs
def qh4:IxR X (qob X.K):=by
 intro value slice pins s σ H x y v u Q I rx ry h hs;obtain ⟨p,xs,i,z,rfl,rfl,hq,he,q⟩:=h;cases rx;obtain ⟨t,rfl⟩:=ry;obtain ⟨its,r,pl,hz⟩:=I.tuple hq;obtain ⟨j,h1,h2,h3,h4,h5⟩:=SW he;obtain ⟨w,ew,rw'⟩:=r.get h2;have hl:=r.length;have hn:=RQ;have fin:EP X pins σ Q w s:=⟨z,H,I,rw',q⟩
 exact subscriptTail_builtinR (x:=w) pl.typeIs slot_tuple_getitem.lookup
  (getItem_tuple (j:=j) (Q:=λr s'=>r=w/\EP X pins σ Q r s') pl (by omega) (by omega) (by rw [size_toArray,← hl];exact h1) (by simpa using ew) ⟨rfl,fin⟩) hs
def qjo:IxR X qnK:=by
 intro value slice pins s σ H x y v u Q I rx ry h hs;obtain ⟨z,i,c,rfl,rfl,hz,he,q⟩:=h;obtain ⟨t,rfl⟩:=rx;obtain ⟨t',rfl⟩:=ry;obtain ⟨j,h1,h2,h3,h4,h5⟩:=SW he;have hl:z.cps.toList.length=z.length:=by simp [Str.length]
 rw [hl] at h1 h4 h5;have hn:=RQ;exact tail_any (typeIs_str s z t) slot_str_getitem.lookup (getItem_str (c:=c) (by
  have e1:decide (i < -(2 ^ 63:Int))=false:=decide_eq_false (by omega);have e2:decide (i ≥ 2 ^ 63)=false:=decide_eq_false (by omega);rw [e1,e2,Bool.or_false]) (by rw [h1];simpa using h2) ⟨.str ⟨#[c]⟩,H,I.tok _,⟨_,rfl⟩,q⟩) hs
def rIx (K:Frg):R2:=λx y H Q=>qnw K x y H Q\/qob K x y H Q\/qnK x y H Q
def qgE:IxR X (rIx X.K):=qf7.or (qh4.or qjo)
def LW (its:List Value) (n j:Nat) (u:Value):Obj.mapSeq (·.setIfInBounds j u) { cls:=.type "list",data:=.seq its.toArray n }={ cls:=.type "list",data:=.seq (its.set j u).toArray n }:=by
 simp [Obj.mapSeq]
def Inv.lst {pins:List (Addr×Obj)} {σ:St} {H:Hp} {s:Shared} {p:Addr} {xs:List V} (I:Inv X pins σ H s) (h:H p=some (.lst xs)) :
  ∃ (its:List Value) (n:Nat),zx xs its/\s.heap.get? p=some { cls:=.type "list",data:=.seq its.toArray n }/\xs.length<=sizeLine:=by
 obtain ⟨z,its,n,r,e⟩:=I.hok p _ h;exact ⟨its,n,r,e,z⟩
def Inv.lstUpd {pins:List (Addr×Obj)} {σ:St} {H:Hp} {s:Shared} {p:Addr} {xs ys:List V} {its its':List Value} {n n':Nat} {f:Obj->Obj} (I:Inv X pins σ H s) (h:H p=some (.lst xs))
  (ho:s.heap.get? p=some { cls:=.type "list",data:=.seq its.toArray n }) (hf:f { cls:=.type "list",data:=.seq its.toArray n }={ cls:=.type "list",data:=.seq its'.toArray n' }) (r:zx ys its') (hz:ys.length<=sizeLine) (t:Nat) :
  Inv X pins σ (upd H p (.lst ys)) { s with heap:=s.heap.update p f,toks:=t }:=by
 have e:(s.heap.update p f).get? p=some { cls:=.type "list",data:=.seq its'.toArray n' }:=by
  rw [Heap.get?_update_self f ho (by rw [hf]<;>rfl),hf]
 refine I.write (x:=p) (e:=p) (by rw [h];trivial) (.inl rfl) (λb u hb q=>(Heap.get?_update_other _ _ (Ne.symm hb)).trans q) ⟨_,e⟩ ?_;exact ⟨hz,its',n',r,e⟩
def qnq:V->V->V->Hp->(Hp->Prop)->Prop:=λo i v H Q=>∃ p xs k j,o=.ref p/\i=.int k/\H p=some (.lst xs)/\ixN xs.length k=some j/\Q (upd H p (.lst (xs.set j v)))
def qbV:qn0 X qnq:=by
 intro pins s σ H o i v ov iv u Q I ro ri rv h;obtain ⟨p,xs,k,j,rfl,rfl,hp,hj,q⟩:=h;cases ro;obtain ⟨t,rfl⟩:=ri;obtain ⟨its,n,r,ho,hz⟩:=I.lst hp;obtain ⟨h1,h2,h3,h4⟩:=N4 hj;have hl:=r.length;have hn:=RQ;have I':Inv X pins σ (upd H p (.lst (xs.set j v))) { s with heap:=s.heap.update p (Obj.mapSeq (·.setIfInBounds j u)) }:=
  I.lstUpd hp ho (LW its n j u) (r.set rv j) (by rw [List.length_set];exact hz) s.toks
 by_cases h0:0<=k
 ·have hk:k.toNat=j:=by
   rw [seqIndex_of h0 h4] at h1;exact Option.some.inj h1
  exact PySem.W.ki_setAt ho h0 (by omega) (by rw [size_toArray,← hl];exact h4) (by rw [hk];exact ⟨_,I',q⟩)
 ·have hk:(k+(its.toArray.size:Int)).toNat=j:=by
   rw [seqIndex_neg (by omega) h3] at h1;rw [size_toArray,← hl];exact Option.some.inj h1
  exact PySem.W.ki_setBack ho (by omega) (by rw [size_toArray,← hl];exact h3) (by omega) (by rw [hk];exact ⟨_,I',q⟩)
def CI (lo hi:Option Int) (n:Nat):(sliceBounds lo hi none n).1=((HT.sIx n 0 lo:Nat):Int)/\(sliceBounds lo hi none n).2.1=((HT.sIx n n hi:Nat):Int)/\(sliceBounds lo hi none n).2.2=1:=by
 refine ⟨?_,?_,rfl⟩
 ·cases lo with
  |none=>simp [sliceBounds,HT.sIx]
  |some i=>
   simp only [sliceBounds,HT.sIx,Option.getD_none,show (1:Int) > 0 by decide,if_true];by_cases h:i<0
   ·simp only [h,if_true]<;>omega
   ·simp only [h,if_false]<;>omega
 ·cases hi with
  |none=>simp [sliceBounds,HT.sIx]
  |some i=>
   simp only [sliceBounds,HT.sIx,Option.getD_none,show (1:Int) > 0 by decide,if_true];by_cases h:i<0
   ·simp only [h,if_true]<;>omega
   ·simp only [h,if_false]<;>omega
def XS (its:List Value) (lo hi:Option Int):slicePick its.toArray lo hi none=((its.drop (HT.sIx its.length 0 lo)).take (HT.sIx its.length its.length hi-HT.sIx its.length 0 lo)).toArray:=by
 obtain ⟨h1,h2,h3⟩:=CI lo hi its.toArray.size;unfold slicePick;rw [h1,h2,h3];simp only [sliceRange_one,pick_run,size_toArray]<;>rfl
def qox (K:Frg):V->Option Int->Option Int->Hp->VK->Prop:=λx lo hi H Q=>∃ a xs,x=.ref a/\SqL K H a xs/\∀ p,H p=none->Q (.ref p) (upd H p (.lst (qcz xs lo hi)))
def qet:SlR X (qox X.K):=by
 intro pins s σ H x v vl vu lo hi sl Q I rx hs pl pu h;obtain ⟨a,xs,rfl,hx,q⟩:=h;cases rx;obtain ⟨its,r,ht,hz⟩:=I.list hx;have hlen:=r.length;refine ⟨"list",_,slot_list_getitem.lookup,ht.isList.typeIs,?_⟩;refine wpAny_getItem_list_slice ht.isList hs pl pu .none (by simp) ?_ (by rw [size_toArray]<;>omega);rw [XS,← hlen];refine ⟨.ref s.heap.objs.size,_,I.laid (t':=s.toks) (o:=.lst (qcz xs lo hi)) (λb ob q=>Heap.get?_push_of_some _ q) (Nat.le_refl _) ?_,rfl,q _ (I.hok.fresh (Nat.le_refl _))⟩;exact ⟨Nat.le_trans (DK xs lo hi) hz,_,0,(r.drop (HT.sIx xs.length 0 lo)).take (HT.sIx xs.length xs.length hi-HT.sIx xs.length 0 lo),Heap.get?_push_size _ rfl⟩
def UY:JD X (.type "list") (λxs H Q=>∃ p ys,xs=[.ref p]/\(SqL X.K H p ys\/SqT X.K H p ys)/\∀ l,H l=none->Q (.ref l) (upd H l (.lst ys))):=by
 intro pins s σ H xs us Q I r h;obtain ⟨p,ys,rfl,hq,q⟩:=h;obtain ⟨u,rfl,rx⟩:=DG r;cases rx;have fin:∀ (its:List Value),zx ys its->ys.length<=sizeLine->∀ (h':Heap) (c':Nat),(∀ b o',s.heap.get? b=some o'->h'.get? b=some o') ->
   h'.get? s.heap.objs.size=some { cls:=.type "list",dict:=none,data:=.seq its.toArray c',slots:=#[] }->EP X pins σ Q (.ref s.heap.objs.size) { s with heap:=h' }:=λits r' hz h' c' kp e=>
  ⟨.ref s.heap.objs.size,_,I.laid (t':=s.toks) kp (Nat.le_refl _) (show YZ X.prog X.w _ h' _ (.lst ys) from ⟨hz,its,c',r',e⟩),rfl,q _ (I.hok.fresh (Nat.le_refl _))⟩
 rcases hq with hq|hq
 ·obtain ⟨its,r',pl,hz⟩:=I.list hq;have hlen:=r'.length;obtain ⟨o,ho,hc,n,hd⟩:=pl.isList;exact call_list_seq p (.inl rfl) ho hc hd (λh' c' kp e=>fin its r' hz h' c' kp e) (by simp only [size_toArray]<;>omega)
 ·obtain ⟨its,r',pl,hz⟩:=I.tuple hq;have hlen:=r'.length;obtain ⟨o,ho,hc,n,hd⟩:=pl;exact call_list_seq p (.inr rfl) ho hc hd (λh' c' kp e=>fin its r' hz h' c' kp e) (by simp only [size_toArray]<;>omega)
def ZJ:JD X (.type "tuple") (λxs H Q=>∃ p ys,xs=[.ref p]/\((SqL X.K H p ys/\∀ l,H l=none->Q (.ref l) (upd H l (.tup ys)))\/(SqT X.K H p ys/\Q (.ref p) H))):=by
 intro pins s σ H xs us Q I r h;obtain ⟨p,ys,rfl,h⟩:=h;obtain ⟨u,rfl,rx⟩:=DG r;cases rx;rcases h with ⟨hq,q⟩|⟨hq,q⟩
 ·obtain ⟨its,r',pl,hz⟩:=I.list hq;have hlen:=r'.length;refine call_tuple_list pl.isList (λh' kp=>?_) (by simp only [size_toArray]<;>omega);have I1:Inv X pins σ H { s with heap:=h' }:=I.kept (t':=s.toks) kp;have I2:Inv X pins σ (upd H h'.objs.size (.tup ys)) { s with heap:=h'.push { cls:=.type "tuple",data:=.seq its.toArray } }:=
   I1.laid (t':=s.toks) (λb o e=>Heap.get?_push_of_some _ e) (Nat.le_refl _) (show YZ X.prog X.w _ _ _ (.tup ys) from ⟨hz,its,r',IsTup.new _ _⟩)
  exact ⟨.ref h'.objs.size,_,I2,rfl,q _ (I1.hok.fresh (Nat.le_refl _))⟩
 ·obtain ⟨its,r',pl,hz⟩:=I.tuple hq;exact call_tuple_same pl ⟨.ref p,H,I,rfl,q⟩
def tyV (K:Frg) (T:String) (x:V) (H:Hp):Prop:=match x with
 |.str _=>T="str"
 |.int _=>T="int"
 |.ref p=>(T="list"/\∃ xs,SqL K H p xs)\/(T="tuple"/\∃ o,K.lookup p=some o/\o.cls=.type "tuple"/\o.dict=none) ∨
   (T="dict"/\((∃ kvs,H p=some (.dK kvs))\/∃ kvs,H p=some (.dT kvs)))\/(T="set"/\∃ S n,H p=some (.set S n))
 |_=>False
def qdU {pins:List (Addr×Obj)} {σ:St} {H:Hp} {s:Shared} {T:String} {x:V} {v:Value} (I:Inv X pins σ H s) (r:jI x v) (ty:tyV X.K T x H) :
  s.TypeIs v T/\∀ a,v=.ref a->∃ ob,s.heap.get? a=some ob/\ob.dict=none:=by
 cases x with
 |str z=>
  obtain ⟨t,rfl⟩:=r;cases (show T="str" from ty);exact ⟨typeIs_str s z t,λ_ e=>nomatch e⟩
 |int i=>
  obtain ⟨t,rfl⟩:=r;cases (show T="int" from ty);exact ⟨typeIs_int s i t,λ_ e=>nomatch e⟩
 |ref p=>
  cases r;rcases ty with ⟨rfl,xs,hq⟩|⟨rfl,o,hk,hc,hd⟩|⟨rfl,hk⟩|⟨rfl,S,n,hk⟩
  ·obtain ⟨its,_,pl,_⟩:=I.list hq;refine ⟨pl.isList.typeIs,λa e=>?_⟩;cases e;obtain ⟨o,n,e,c,hd,_⟩:=pl;exact ⟨o,e,hd⟩
  ·refine ⟨⟨o,I.kIn p o hk,hc⟩,λa e=>?_⟩;cases e;exact ⟨o,I.kIn _ o hk,hd⟩
  ·have z:∃ o,s.heap.get? p=some o/\o.ExactDict:=by
    rcases hk with ⟨kvs,hk⟩|⟨kvs,hk⟩
    ·obtain ⟨_,_,_,_,o,_,_,e,ex,_⟩:=I.hok p _ hk;exact ⟨o,e,ex⟩
    ·obtain ⟨_,_,_,_,o,_,_,e,ex,_⟩:=I.hok p _ hk;exact ⟨o,e,ex⟩
   obtain ⟨o,e,ex⟩:=z;refine ⟨⟨o,e,ex.1⟩,λa e2=>?_⟩;cases e2;exact ⟨o,e,ex.2.1⟩
  ·obtain ⟨o,_,_,_,e,ex,_⟩:=I.hok p _ hk;refine ⟨⟨o,e,ex.1⟩,λa e2=>?_⟩;cases e2;exact ⟨o,e,ex.2.1⟩
 |_=>exact False.elim ty
def qoD (K:Frg) (T:String) (r:V->List V->Hp->VK->Prop) (to:TE):TE:=λσ H Q=>to σ H λx H1=>tyV K T x H1/\r x [] H1 Q
def tBM (K:Frg) (T:String) (r:V->List V->Hp->VK->Prop) (to:TE) (t:TA):TE:=λσ H Q=>to σ H λx H1=>tyV K T x H1/\t σ H1 λxs H2=>r x xs H2 Q
variable {o e:Expr} {es:List Expr} {to:TE} {t:TA} {name:Str} {apos cpos:Pos} {T id:String} {r:V->List V->Hp->VK->Prop}
def qik (pa:PlainAttrs T) (slot:Slot T name id) (hty:typeOf (.builtin id)=pure (.type "method_descriptor")) (hm:MtR X id r) (ho:PE X o to)
  (hbase:attributeBase o name X.env (eval o X.env)=eval o X.env:=by rfl) (hline:(apos.endLine==cpos.line)=true:=by rfl):PE X (.Call (.Attribute o name apos) [] [] cpos) (qoD X.K T r to):=by
 intro pins s σ H Q I h;refine wpAny_Call_method0_late hbase hline (thn (ho pins s σ H _ I h) λv s1 ⟨x,H1,I1,r1,ty,q1⟩=>?_);obtain ⟨h1,h2⟩:=qdU I1 r1 ty;exact ⟨T,id,pa,slot,hty,h1,h2,Calls.callWith_builtin rfl (PySem.evalArgs_none (hm pins s1 σ H1 x [] v [] Q I1 r1 .nil q1))⟩
def qne (pa:PlainAttrs T) (slot:Slot T name id) (hty:typeOf (.builtin id)=pure (.type "method_descriptor")) (hm:MtR X id r) (ho:PE X o to) (ha:PA X (e::es) t)
  (hbase:attributeBase o name X.env (eval o X.env)=eval o X.env:=by rfl)
  (hfew:((backTo cpos (starEach (e::es) X.env)).all (λx=>!x.1)&&(backToKw cpos (keywordEach [] X.env)).all (λx=>x.1.isSome)
   && decide ((e::es).length+([]:List Keyword).length+(if ([]:List Keyword).isEmpty then 0 else 1)<30))=true:=by rfl)
  (hline:(apos.endLine==cpos.line)=true:=by rfl) (hs:starEach (e::es) X.env=(false,eval e X.env)::starEach es X.env:=by rfl) (hplain:(backTo cpos (starEach es X.env)).any (·.1)=false:=by rfl) :
  PE X (.Call (.Attribute o name apos) (e::es) [] cpos) (tBM X.K T r to t):=by
 intro pins s σ H Q I h;refine wpAny_Call_method_late hbase hfew hline rfl (thn (ho pins s σ H _ I h) λv s1 ⟨x,H1,I1,r1,ty,q1⟩=>?_);obtain ⟨h1,h2⟩:=qdU I1 r1 ty;refine ⟨T,id,pa,slot,hty,h1,h2,?_⟩;have hA:=ha cpos pins s1 σ H1 _ I1 q1;rw [hs] at hA ⊢;refine Calls.callWith_builtin (by show (false||(backTo cpos (starEach es X.env)).any (·.1))=false;rw [hplain]<;>rfl) (Calls.evalArgs_plain ?_);exact thn hA λus s2 ⟨vs,H2,I2,r2,q2⟩=>hm pins s2 σ H2 x vs v us Q I2 r1 r2 q2
end
def MtM (X:Cx) (id:String) (r:V->List V->Hp->VK->Prop):Prop:=
 ∀ (pins:List (Addr×Obj)) (s:Shared) (σ:St) (H:Hp) (x:V) (xs:List V) (v:Value) (us:List Value) (Q:VK),Inv X pins σ H s->jI x v->zx xs us->r x xs H Q ->
  wpAny (model X.prog X.w) X.A (call (.builtin id) (v::us)) (EP X pins σ Q) X.xe s
def zx.one:∀ {x:V} {us:List Value},zx [x] us->∃ u,us=[u]/\jI x u
 |_,_,.cons r .nil=>⟨_,rfl,r⟩
def zx.zero:∀ {us:List Value},zx [] us->us=[]
 |_,.nil=>rfl
def zx.dropLast {xs:List V} {us:List Value} (h:zx xs us):zx xs.dropLast us.dropLast:=by
 induction h with
 |nil=>exact .nil
 |cons r t ih=>
  cases t with
  |nil=>exact .nil
  |cons q t'=>exact .cons r ih
def zx.reverse {xs:List V} {us:List Value} (h:zx xs us):zx xs.reverse us.reverse:=by
 induction h with
 |nil=>exact .nil
 |cons r t ih=>rw [List.reverse_cons,List.reverse_cons];exact zx.append ih (.cons r .nil)
def zx.rep {xs:List V} {us:List Value} (h:zx xs us):∀ k:Nat,zx (List.replicate k xs).flatten (List.replicate k us).flatten
 |0=>.nil
 |k+1=>by
  rw [List.replicate_succ,List.replicate_succ,List.flatten_cons,List.flatten_cons];exact zx.append h (zx.rep h k)
def CG (its:List Value):∀ (k:Nat) (acc:List Value),
  List.foldl (λx1 x2=>x1++x2) acc.toArray (List.replicate k its.toArray)=(acc++(List.replicate k its).flatten).toArray
 |0,acc=>by simp
 |k+1,acc=>by
  have e:acc.toArray++its.toArray=(acc++its).toArray:=by simp
  have e2:(acc++its)++(List.replicate k its).flatten=acc++(List.replicate (k+1) its).flatten:=by
   rw [List.replicate_succ,List.flatten_cons,List.append_assoc]
  rw [← e2,← CG its k (acc++its),← e,List.replicate_succ,List.foldl_cons]
section
variable {X:Cx} {pins:List (Addr×Obj)} {σ:St} {H:Hp} {s:Shared} {l b:Addr} {xs ys zs:List V}
def Inv.lset {its its':List Value} {n:Nat} {f:Array Value->Array Value} {t':Nat} (I:Inv X pins σ H s) (hH:H l=some (.lst xs))
  (e:s.heap.get? l=some { cls:=.type "list",data:=.seq its.toArray n }) (hf:f its.toArray=its'.toArray) (hv:zx ys its') (hz:ys.length<=sizeLine) :
  Inv X pins σ (upd H l (.lst ys)) { s with heap:=s.heap.update l (Obj.mapSeq f),toks:=t' }:=by
 have q:=PySem.IsL.update e f;rw [hf] at q;refine I.write (x:=l) (e:=l) (by rw [hH];exact trivial) (.inl rfl) (λb' u hb hu=>(Heap.get?_update_other s.heap (Obj.mapSeq f) (Ne.symm hb)).trans hu) ⟨_,q⟩ ?_;exact ⟨hz,its',_,hv,q⟩
def Inv.lnew {its:List Value} {t':Nat} (I:Inv X pins σ H s) (hv:zx ys its) (hz:ys.length<=sizeLine) :
  Inv X pins σ (upd H s.heap.objs.size (.lst ys)) { s with heap:=s.heap.push { cls:=.type "list",data:=.seq its.toArray },toks:=t' }:=
 I.laid (λ_ _ q=>Heap.get?_push_of_some _ q) (Nat.le_refl _) ⟨hz,its,0,hv,Heap.get?_push_size _ rfl⟩
def Inv.fresh (I:Inv X pins σ H s):H s.heap.objs.size=none:=I.hok.fresh (Nat.le_refl _)
def Inv.lstM (I:Inv X pins σ H s) (hH:H l=some (.lst xs)):xs.length<=sizeLine/\∃ (its:List Value) (n:Nat),zx xs its/\xs.length=its.length/\s.heap.get? l=some { cls:=.type "list",data:=.seq its.toArray n }:=by
 obtain ⟨z,its,n,r,e⟩:=I.hok l _ hH;exact ⟨z,its,n,r,r.length,e⟩
def KQ {n:Nat} (h:n<=sizeLine):Builtin.List.listTooLong n=false:=by
 unfold Builtin.List.listTooLong;exact decide_eq_false (by omega)
end
section
variable {X:Cx}
def MN:V->List V->Hp->VK->Prop:=λx vs H Q=>∃ l xs y,x=.ref l/\vs=[y]/\H l=some (.lst xs)/\xs.length<sizeLine/\Q .non (upd H l (.lst (xs++[y])))
def EZ:MtM X "list.append" MN:=by
 intro pins s σ H x vs v us Q I rx rv h;obtain ⟨l,xs,y,rfl,rfl,hH,hz,q⟩:=h;cases rx;obtain ⟨u,rfl,ru⟩:=rv.one;obtain ⟨z,its,n,r,hl,e⟩:=I.lstM hH;refine call_meets F.slot_list_append ⟨_,e,rfl⟩ F.entry_list_append (F.args_list_append_2 _ _) (PySem.list_append l its.toArray n u (by rw [size_toArray];omega)) ⟨e,?_⟩;refine ⟨.non,_,I.lset (its':=its++[u]) hH e (by simp) (r.append (.cons ru .nil)) ?_,rfl,q⟩;rw [length_append,List.length_singleton];omega
def qaR:V->List V->Hp->VK->Prop:=λx vs H Q=>∃ l b xs zs,x=.ref l/\vs=[.ref b]/\H l=some (.lst xs)/\H b=some (.lst zs)/\xs.length+zs.length<=sizeLine/\Q .non (upd H l (.lst (xs++zs)))
def NF:MtM X "list.extend" qaR:=by
 intro pins s σ H x vs v us Q I rx rv h;obtain ⟨l,b,xs,zs,rfl,rfl,hH,hB,hz,q⟩:=h;cases rx;obtain ⟨u,rfl,ru⟩:=rv.one;cases ru;obtain ⟨z,its,n,r,hl,e⟩:=I.lstM hH;obtain ⟨z2,its2,n2,r2,hl2,e2⟩:=I.lstM hB;have hsz:its.toArray.size+its2.toArray.size<=sizeLine:=by rw [size_toArray,size_toArray];omega
 have hlong:¬ (!its.toArray.isEmpty&&Builtin.List.listTooLong (its.toArray.size+its2.toArray.size))=true:=by
  rw [KQ hsz,Bool.and_false];exact Bool.false_ne_true
 refine call_meets F.slot_list_extend ⟨_,e,rfl⟩ F.entry_list_extend (F.args_list_extend_2 _ _)
  (AutoSeq1.list_extend_list_list_0 l its.toArray n b its2.toArray n2 hlong (by rw [size_toArray];omega) (by omega)) ⟨e,e2,?_⟩
 refine ⟨.non,_,I.lset (its':=its++its2) hH e (by simp) (r.append r2) ?_,rfl,q⟩;rw [length_append];omega
def qmy:R2:=λx y H Q=>∃ l b xs zs,x=.ref l/\y=.ref b/\H l=some (.lst xs)/\H b=some (.lst zs)/\xs.length+zs.length<=sizeLine/\∀ p,H p=none->Q (.ref p) (upd H p (.lst (xs++zs)))
def qdK:OpR X (binaryOp .Add) qmy:=by
 intro pins s σ H x y v u Q I rx ry h;obtain ⟨l,b,xs,zs,rfl,rfl,hH,hB,hz,q⟩:=h;cases rx;cases ry;obtain ⟨z,its,n,r,hl,e⟩:=I.lstM hH;obtain ⟨z2,its2,n2,r2,hl2,e2⟩:=I.lstM hB;refine PySem.P.add_list e e2 ?_ (by rw [size_toArray,size_toArray];omega);have ea:its.toArray++its2.toArray=(its++its2).toArray:=by simp
 rw [ea];exact ⟨.ref _,_,I.lnew (t':=s.toks) (r.append r2) (by rw [length_append];omega),rfl,q _ I.fresh⟩
def qnY:R2:=λx y H Q=>∃ l k xs,x=.ref l/\y=.int k/\H l=some (.lst xs)/\-(2 ^ 63)<=k/\k<2 ^ 63/\xs.length*k.toNat<=sizeLine /\
 ∀ p,H p=none->Q (.ref p) (upd H p (.lst (List.replicate k.toNat xs).flatten))
def qfI {α:Type} (xs:List α) (k:Nat):(List.replicate k xs).flatten.length=k*xs.length:=by
 induction k with
 |zero=>simp
 |succ k ih=>rw [List.replicate_succ,List.flatten_cons,length_append,ih,Nat.succ_mul,Nat.add_comm]
def qjb:OpR X (binaryOp .Mult) qnY:=by
 intro pins s σ H x y v u Q I rx ry h;obtain ⟨l,k,xs,rfl,rfl,hH,h1,h2,hz,q⟩:=h;cases rx;obtain ⟨t,rfl⟩:=ry;obtain ⟨z,its,n,r,hl,e⟩:=I.lstM hH;have hlen:its.toArray.size*k.toNat<=sizeLine:=by rw [size_toArray,← hl];exact hz
 have hcap:¬ its.toArray.size*k.toNat > (2 ^ 63-1)/8:=by
  have:(sizeLine:Nat)<=(2 ^ 63-1)/8:=by decide
  omega
 have hfit:¬ (!Builtin.List.listFitsIndex k)=true:=by
  rw [fitsIndex_both h1 h2];exact Bool.false_ne_true
 have hlong:¬ Builtin.List.listTooLong (its.toArray.size*k.toNat)=true:=by
  rw [KQ hlen];exact Bool.false_ne_true
 have hnew:List.foldl (λx1 x2=>x1++x2) #[] (List.replicate (if its.toArray.isEmpty=true then 0 else k.toNat) its.toArray)=(List.replicate k.toNat its).flatten.toArray:=by
  have f0:∀ m:Nat,List.foldl (λx1 x2=>x1++x2) #[] (List.replicate m its.toArray)=(List.replicate m its).flatten.toArray:=λm=>by
   have:=CG its m [];rw [List.nil_append] at this;exact this
  rw [f0];cases its with
  |nil=>simp
  |cons a r'=>rw [if_neg (by simp)]
 refine wpAny_binaryOp_repeat_ref (T:="list") (U:="int") (by decide) ⟨_,e,rfl⟩ (λs'=>typeIs_int s' k t) noFill_list_mul F.fills_int_mul F.slot_int_rmul repeat_list F.slot_int_index.lookup
  (call_meets F.slot_int_rmul (typeIs_int s k t) F.entry_int_rmul (F.args_int_rmul_2 _ _) (int___rmul___int_list k t l its.toArray n)
   ⟨e,rfl,⟨_,e,rfl⟩,call_meets F.slot_list_mul ⟨_,e,rfl⟩ F.entry_list_mul (F.args_list_mul_2 _ _) (AutoListH.list___mul___list_int_3 l its.toArray n k t hfit hcap hlong) ⟨e,?_⟩⟩)
 rw [hnew];exact ⟨.ref _,_,I.lnew (t':=s.toks) (r.rep k.toNat) (by rw [qfI,Nat.mul_comm];exact hz),rfl,q _ I.fresh⟩
end
section
variable {prog:Program} {w:World} {A:Around} {E:Value->Shared->Prop} {s:Shared}
end
section
variable {X:Cx}
end
end L2
namespace Att
open PySem PySem.W PySem.Calls PyProof.Rows
def DL {P:Params} {h:Heap}:∀ (ns:List Int) (vs:List Value),WellAll P h vs (ns.map WData.int)->IntsAre vs ns:=by
 intro ns;induction ns with
 |nil=>
  intro vs w;rw [List.map_nil] at w;cases w;exact .nil
 |cons n ns ih=>
  intro vs w;rw [map_cons] at w;cases w with
  |cons a b=>
   cases a;exact .cons _ _ (ih _ b)
def qaP {l:OpenLaw} {n:Nat} (hn:l.most=some n) {P:Params} {h:Heap} {args:List WData} {vals:List Value}
  (hpre:l.row.toRowW.claim.pre args=true) (hwl:WellAll P h vals args) :
  ∃ a vs ns,vals=[Value.ref a]/\args=[WData.list (ns.map WData.int)]/\h.get? a=some { cls:=.type "list",data:=.seq vs.toArray }/\IntsAre vs ns/\ns.length<=n:=by
 have hsh:WShape.hasAll [] args [.list .int]=true:=(pre_splitW hpre).1;have hc:l.pre.holds [] { args:=args }=true:=(pre_splitW hpre).2;obtain ⟨d,r,rfl,h1,h2⟩:=hasAllW_cons hsh;obtain rfl:=hasAllW_nil h2;obtain ⟨xs,rfl,h3⟩:=hasW_list h1;obtain ⟨ns,rfl⟩:=items_int h3;have hlen:ns.length<=n:=by
  unfold OpenLaw.pre at hc;have h4:(WTm.not (.lt (.lit (.int (n:Int))) (.len (.arg 0)))).holds [] { args:=[.list (ns.map .int)] }=true:=by
   have h4:=(holds_andW hc).1;rw [hn] at h4;exact h4
  have h5:=condW_of h4 (w_not (w_lt w_lit (w_len_list (w_arg rfl))));rw [length_map] at h5;refine Nat.le_of_not_lt λq=>?_;have q':(n:Int)<((ns.length:Nat):Int):=by omega
  first
   | (rw [decide_eq_true q'] at h5;exact absurd h5 (by decide))
   | (simp at h5;omega)
 cases hwl with
 |cons w1 w2=>
  cases w2;cases w1 with
  |list ho hall=>exact ⟨_,_,ns,rfl,rfl,ho,DL ns _ hall,hlen⟩
def MU (l:OpenLaw) (args:List WData):l.row.toRowW.claim.post args (.bool true) args=true:=
 postW_of (r:=l.row.toRowW) (X:=(true==true))
  (show WShape.has [] (.bool true) .bool=true by first|rfl|decide|simp [WShape.has,WShape.arms,WShape.armsAll])
  (show (WTm.eq .res (.lit (.bool true))).value [] { args:=args,res:=some (.bool true),after:=args }=some (.bool (true==true)) from w_eq_bool (w_res rfl) w_lit) rfl
def SA {l:OpenLaw} {n:Nat} {q:Program} {loose:List Str} {XP:(Str->Option Value)->Heap->Prop} {YP:World->Heap->Prop} {d:DefRec}
  (hn:l.most=some n) (hdf:d.params.defaults=[])
  (call:∀ (w:World) (s₀ s₁:Shared) (mg mb:Str->Option Value) (fa:Addr) (o:Obj) (pm cd doc:Value) (a:Addr) (vs:List Value) (ns:List Int),
   Ground q loose [] XP w s₀ mg mb s₁.heap->YP w s₁.heap ->
   s₁.heap.get? fa=some o->o.data=.func (docDef d.name d.params d.body d.scope pm cd doc)->s₁.heap.CodeRec cd d.name->mg d.name=some (.ref fa) ->
   s₁.heap.get? a=some { cls:=.type "list",data:=.seq vs.toArray }->IntsAre vs ns->ns.length<=n->s₁.gens=#[] ->
   codeAny (model l.prog w) callerA (.call (.ref fa) ⟨[.ref a],[]⟩) (λr s'=>r=.ok (.ret (.bool true))/\OldK s₁.heap s'.heap/\s'.os=s₁.os/\AllBare s'.gens) s₁) :
  WalkO q loose XP YP l.row.toRowW d [] (λf vs=>PySem.call f vs):=by
 intro w s₀ s₁ mg mb G Y fa o pm cd doc dV kV ho hd hcd hD hmg hg args vals as hpre hlay hrd hwl hlo;obtain rfl:dV=.none:=Dflts.none hD hdf;obtain rfl:kV=.none:=Dflts.noKw hD;obtain ⟨a,vs,ns,rfl,rfl,hobj,hints,hlen⟩:=qaP hn hpre hwl;refine enter_call (codeAny_mono (call w s₀ s₁ mg mb fa o pm cd doc a vs ns G Y ho (fd_plain hd) hcd hmg hobj hints hlen hg) λr s' hq=>?_);obtain ⟨rfl,h2,h3,h4⟩:=hq;exact ⟨.inl ⟨.bool true,.bool true,[],rfl,λ_=>rfl,.bool true,MU l _,λ_=>⟨List.Pairwise.nil,λ_ hm=>(nomatch hm)⟩⟩,h2,h3,h4⟩
section
variable {prog:Program} {w:World} {A:Around} {E:Value->Shared->Prop} {s:Shared} {K:Frag}
end
end Att
namespace L2
open PySem PySem.Spec PyProof.Rows
def CL:∀ {vs:List Value} {ns:List Int},IntsAre vs ns->zx (ns.map V.int) vs
 |_,_,.nil=>.nil
 |_,_,.cons n t h=>.cons ⟨t,rfl⟩ (CL h)
def qln (H:Hp):Prop:=∀ b,H b=none\/∃ o xs,H b=some (.frz o (.lst xs))
def qbo {P:Program} {w:World} {K:Frg} {mg mb:Str->Option Value} {CX:CXT} {k:Nat} {fa a:Addr} {fd:FuncData} {x:Str} {sp:Sp} {s₁:Shared} {vs:List Value} {ns:List Int}
  (KX:K.In s₁.heap) (hns:s₁.heap.Ns mainGlobals mg) (hb:s₁.heap.Ns builtinsNs mb) (hbb:∀ x:Str,x≠"__name__" -> mb x=bootBuiltins x) (hlim:s₁.heap.NoLimit) (hg:s₁.gens=#[])
  (ha:s₁.heap.get? a=some { cls:=.type "list",data:=.seq vs.toArray }) (hi:IntsAre vs ns) (hl:ns.length<=sizeLine) (hr:Room k callerA)
  (F:∀ base:Heap,K.In base->base.Ns mainGlobals mg->FnOk P w K mg base CX k fa fd [x] sp) (hbind:∀ (s:Shared) (u:Value),BindsTo s fd ⟨[u],[]⟩ [(x,u)])
  (hsp:∀ H:Hp,qln H->SqL K H a (ns.map V.int)->sp [.ref a] H (λv _=>v=.bl true) λ_ _ _=>False)
  (hCX:∀ H e s',CX [] H s₁ (λ_ _ _=>False) e s'->False) :
  codeAny (model P w) callerA (.call (.ref fa) ⟨[.ref a],[]⟩) (λr s'=>r=.ok (.ret (.bool true))/\OldK s₁.heap s'.heap/\s'.os=s₁.os/\AllBare s'.gens) s₁:=by
 have rv:=CL hi;have lenV:=hi.length
 -- from an abstract heap in which nothing but the script may be tracked
 have core:∀ H:Hp,qln H->SqL K H a (ns.map V.int)->HOk P w H s₁.heap->(∀ b,H b≠none->b=a)->(H a≠none->K.lookup a=none) ->
   codeAny (model P w) callerA (.call (.ref fa) ⟨[.ref a],[]⟩) (λr s'=>r=.ok (.ret (.bool true))/\OldK s₁.heap s'.heap/\s'.os=s₁.os/\AllBare s'.gens) s₁:=by
  intro H hO hS hok hA hK;have base_of:∀ {b:Addr} {o:Obj},s₁.heap.get? b=some o->H b=none->(qbm s₁.heap H).get? b=some o:=λe n=>qbF e n;have noA:∀ {b:Addr} {o:Obj} {es:Array DictEntry} {ep:Nat},s₁.heap.get? b=some o->o.data=.dict es ep->H b=none:=λ{b o es ep} e d=>by
   cases q:H b with
   |none=>rfl
   |some u=>
    have e':b=a:=hA b (by rw [q];simp);subst e';rw [ha] at e;cases e;have d':Data.seq vs.toArray _=Data.dict es ep:=d;cases d'
  have nsK:∀ {b:Addr} {m:Str->Option Value},s₁.heap.Ns b m->(qbm s₁.heap H).Ns b m:=λ{b m} ⟨o,es,ep,e,d,r⟩=>⟨o,es,ep,base_of e (noA e d),d,r⟩
  have hKb:K.In (qbm s₁.heap H):=λb o e=>base_of (KX b o e) (by
   cases q:H b with
   |none=>rfl
   |some u=>
    have e':b=a:=hA b (by rw [q];simp);subst e';rw [hK (by rw [q];simp)] at e;cases e)
  have hM:Mod K mg (qbm s₁.heap H):=⟨hKb,nsK hns,⟨mb,nsK hb,hbb⟩,let ⟨mc,h1,h2⟩:=hlim;⟨mc,nsK h1,h2⟩⟩
  have e0:Env0 P w K mg (qbm s₁.heap H) callerA [] s₁ H:=⟨rfl,hM,λb o e=>qep e,Nat.le_of_eq (ML _ _),trivial,λb hb=>absurd (show b∈([]:List Addr) from hb) (by simp),hok,.of_eq hg⟩
  refine codeAny_mono ((F _ hKb (nsK hns)).run callerA [] s₁ H ⟨[.ref a],[]⟩ [.ref a] [.ref a] _ _ hr e0 (hbind s₁ (.ref a)) (.cons rfl .nil) (hsp H hO hS)) λr s' h=>?_;cases r with
  |error e=>exact (hCX H e s' h).elim
  |ok fl=>
   cases fl with
   |next=>exact False.elim h
   |brk=>exact False.elim h
   |cont=>exact False.elim h
   |ret u=>
    obtain ⟨v,H',os,bare,un,hok',r',q⟩:=h;have q':v=.bl true:=q;subst q';obtain rfl:u=Value.bool true:=r';refine ⟨rfl,OldK.of_keep λb o e=>?_,os,bare⟩;cases q:H b with
    |none=>exact un.keep b o e q (by intro z;exact absurd (show b∈([]:List Addr) from z) (by simp)) (by simp)
    |some u=>
     rcases hO b with z|⟨ob,xs,z⟩
     ·rw [q] at z;cases z
     ·have z2:=un.frzs b ob _ z;obtain ⟨e1,_⟩:=hok b _ z;obtain ⟨e2,_⟩:=hok' b _ z2;rw [e] at e1;cases e1;exact e2
 cases hk:K.lookup a with
 |some o=>
  -- the script is one of the module's own objects
  have e:=KX a o hk;rw [ha] at e;cases e;refine core (λ_=>none) (λ_=>.inl rfl) (.inr ⟨_,vs.toArray,_,hk,rfl,rfl,rfl,by rw [size_toArray,lenV];exact hl,by simpa using rv⟩) (λb u z=>by have z':(none:Option HO)=some u:=z;cases z') (λb z=>absurd rfl z) λz=>absurd rfl z
 |none=>
  refine core (λb=>if b=a then some (.frz { cls:=.type "list",data:=.seq vs.toArray } (.lst (ns.map V.int))) else none) (λb=>?_) (.inl (.inr ⟨{ cls:=.type "list",data:=.seq vs.toArray },if_pos rfl⟩)) (λb u z=>?_) (λb z=>?_) λ_=>hk
  ·by_cases hb:b=a
   ·exact .inr ⟨_,_,if_pos hb⟩
   ·exact .inl (if_neg hb)
  ·by_cases hb:b=a
   ·have z':=(if_pos hb).symm.trans z;cases z';subst hb;exact ⟨ha,by rw [length_map];exact hl,vs,_,rv,ha⟩
   ·have z':=(if_neg hb).symm.trans z;cases z'
  ·by_cases hb:b=a
   ·exact hb
   ·exact absurd (if_neg hb) z
def qfj {l:PySem.W.OpenLaw} {n k:Nat} {q:Program} {loose:List Str} {XP:(Str->Option Value)->Heap->Prop} {YP:World->Heap->Prop} {d:DefRec} {K:Params->PySem.W.Frag} {CX:World->CXT} {sp:World->Sp} {x:Str}
  (hn:l.most=some n) (hn2:n<=sizeLine) (hdf:d.params.defaults=[]) (hr:Room k callerA)
  (hY:∀ (w:World) (h:Heap),YP w h->(K w.params).In h)
  (F:∀ (w:World) (mg:Str->Option Value) (fa:Addr) (h:Heap),(K w.params).In h->h.Ns mainGlobals mg->mg d.name=some (.ref fa) ->
   ∃ fd:FuncData,(∀ (s:Shared) (u:Value),BindsTo s fd ⟨[u],[]⟩ [(x,u)]) /\
    ∀ base:Heap,(K w.params).In base->base.Ns mainGlobals mg->FnOk l.prog w (K w.params) mg base (CX w) k fa fd [x] (sp w))
  (hsp:∀ (w:World) (H:Hp) (a:Addr) (ns:List Int),ns.length<=n->qln H->SqL (K w.params) H a (ns.map V.int)->sp w [.ref a] H (λv _=>v=.bl true) λ_ _ _=>False)
  (hCX:∀ (w:World) (H:Hp) (s:Shared) (e:Value) (s':Shared),CX w [] H s (λ_ _ _=>False) e s'->False) :
  PySem.W.WalkO q loose XP YP l.row.toRowW d [] (λf vs=>PySem.call f vs):=by
 refine Att.SA hn hdf λw s₀ s₁ mg mb fa o pm cd doc a vs ns G Y ho hd hcd hmg hobj hints hlen hg=>?_;have KX:=hY w _ Y;obtain ⟨fd,hb,hF⟩:=F w mg fa _ KX G.T.g hmg;exact qbo KX G.T.g G.T.b G.T.builtins G.T.nolimit hg hobj hints (Nat.le_trans hlen hn2) hr hF hb (λH hO hS=>hsp w H a ns hlen hO hS) λH e s'=>hCX w H s₁ e s'
def ZV (s:Stmt):Arguments:=match s with
 |.FunctionDef _ a _ _ _ _ _ _ _ _=>a
 |_=>{ posonlyargs:=[],args:=[],vararg:=none,kwonlyargs:=[],kw_defaults:=[],kwarg:=none,defaults:=[] }
def jh (s:Stmt):List Stmt:=match s with
 |.FunctionDef _ _ b _ _ _ _ _ _ _=>b
 |_=>[]
def qi (s:Stmt):Scope:=match s with
 |.FunctionDef _ _ _ _ _ _ sc _ _ _=>sc
 |_=>{ kind:=.function,names:=[],isGenerator:=false,isCoroutine:=false }
abbrev CX0:CXT:=λ_ _ _ _ _ _=>False
abbrev E0:XK:=λ_ _ _=>False
def qmV {X:Cx}:NL CX0 X E0:=λ_ _ _ _ _ _ _ h=>h.elim
structure Fun (K:Frg) (x qual:Str) (st:Stmt) (f:Addr) (fd:FuncData):Prop where
 ex:∃ (oc:Value) (od:Option Addr) (kV doc pm:Value) (an:Option Addr) (cdv ct:Value) (osl:Array (Option Value)),
  fd=PySem.W.fnOf x qual (ZV st) (jh st) (qi st) .none kV doc pm an cdv ct/\K.lookup f=some ⟨oc,od,.func fd,osl⟩/\PySem.W.codeIn K cdv qual=true
 kp:PySem.W.keepIn K (.ref f)=true
section
variable {P:Program} {w:World} {K:Frg} {mg:Str->Option Value} {base:Heap}
def Fun.ok {x qual:Str} {st:Stmt} {f:Addr} {fd:FuncData} {N ps:List Str} {k:Nat} {sp:Sp} (F:Fun K x qual st f fd) (S:FnScope N ps (qi st)) (len:∀ vs H Q E,sp vs H Q E->vs.length=ps.length)
  (hbody:∀ (cdv:Value) (A:Around) (outer:List Env) (s:Shared) (H:Hp) (vs:List V) (Q:VK) (E:XK),Room k (A.deeper (envOfC qual (qi st) s.heap.objs.size f cdv))->sp vs H Q E ->
   ∃ t,PSs (qbg CX0 P w K mg base N qual (qi st) f cdv A outer s H E).nox (jh st) t/\t { nx:=λ_ H'=>Q .non H',rt:=Q } (EY N vs) H):FnOk P w K mg base CX0 (k+1) f fd ps sp:=by
 obtain ⟨oc,od,kV,doc,pm,an,cdv,ct,osl,rfl,lk,hcd⟩:=F.ex;refine ql7 lk hcd S len λA outer s H vs Q E hr hsp=>?_;obtain ⟨t,h,q⟩:=hbody cdv A outer s H vs Q E hr hsp;exact ⟨t,h.nox,q⟩
def Fun.binds {x qual:Str} {st:Stmt} {f:Addr} {fd:FuncData} {ps:List Str} (F:Fun K x qual st f fd)
  (h:∀ (kV doc pm:Value) (an:Option Addr) (cdv ct:Value) (us:List Value),us.length=ps.length->bindArgs (PySem.W.fnOf x qual (ZV st) (jh st) (qi st) .none kV doc pm an cdv ct) ⟨us,[]⟩=pure (ps.zip us)):zB K fd ps []:=by
 obtain ⟨oc,od,kV,doc,pm,an,cdv,ct,osl,rfl,lk,hcd⟩:=F.ex;exact .all (h kV doc pm an cdv ct)
def qie {x qual:Str} {st:Stmt} {f:Addr} {oc:Value} {od an:Option Addr} {osl:Array (Option Value)} {kV doc pm cdv ct:Value} (l:K.lookup f=some ⟨oc,od,.func (PySem.W.fnOf x qual (ZV st) (jh st) (qi st) .none kV doc pm an cdv ct),osl⟩)
  (c:PySem.W.codeIn K cdv qual=true) (k:PySem.W.keepIn K (.ref f)=true):Fun K x qual st f (PySem.W.fnOf x qual (ZV st) (jh st) (qi st) .none kV doc pm an cdv ct):=⟨⟨oc,od,kV,doc,pm,an,cdv,ct,osl,rfl,l,c⟩,k⟩
end
section
variable {X:Cx}
end
def qnN {A B:Prop} (h:B):if false=true then A else B:=by
 rw [if_neg Bool.false_ne_true];exact h
def qnW {A B:Prop} (h:A):if true=true then A else B:=by
 rw [if_pos rfl];exact h
end L2
set_option maxHeartbeats 4000000
namespace L3
open PySem PySem.Spec PyProof.Rows L2
set_option genInjectivity true in
inductive T where
 |non|bl (b:Bool)|int (i:Int)|str (x:Str)|tup (xs:List T)|ref (a:Addr)
inductive O where
 |lst (xs:List T)
 |frz (xs:List T)
abbrev Gp:=Addr->Option O
def gu (G:Gp) (a:Addr) (o:O):Gp:=λb=>if b=a then some o else G b
def za {G:Gp} {a:Addr} {o:O}:gu G a o a=some o:=by unfold gu;rw [if_pos rfl]
def ZH {G:Gp} {a b:Addr} {o:O} (h:b≠a):gu G a o b=G b:=by unfold gu;rw [if_neg h]
mutual
inductive Rp (K:Frg) (H:Hp):T->V->Prop
 |non:Rp K H .non .non
 |bl (b:Bool):Rp K H (.bl b) (.bl b)
 |int (i:Int):Rp K H (.int i) (.int i)
 |str (x:Str):Rp K H (.str x) (.str x)
 |ref (a:Addr):Rp K H (.ref a) (.ref a)
 |tup {xs:List T} {a:Addr} {vs:List V}:SqT K H a vs->Rps K H xs vs->Rp K H (.tup xs) (.ref a)
inductive Rps (K:Frg) (H:Hp):List T->List V->Prop
 |nil:Rps K H [] []
 |cons {x:T} {v:V} {xs:List T} {vs:List V}:Rp K H x v->Rps K H xs vs->Rps K H (x::xs) (v::vs)
end
def OR (K:Frg) (H:Hp) (a:Addr):O->Prop
 |.lst xs=>∃ vs,H a=some (.lst vs)/\Rps K H xs vs
 |.frz xs=>∃ vs,(∃ o,H a=some (.frz o (.lst vs)))/\Rps K H xs vs
def HR (K:Frg) (G:Gp) (H:Hp):Prop:=∀ a o,G a=some o->OR K H a o
def Kp (G:Gp) (H:Hp) (G':Gp) (H':Hp):Prop:=∀ a o,H a=some o->G a=none->H' a=some o/\G' a=none
def Kp.refl {G:Gp} {H:Hp}:Kp G H G H:=λ_ _ h g=>⟨h,g⟩
def Kp.trans {G G1 G2:Gp} {H H1 H2:Hp} (a:Kp G H G1 H1) (b:Kp G1 H1 G2 H2):Kp G H G2 H2:=λx o h g=>
 let ⟨h1,g1⟩:=a x o h g;b x o h1 g1
section
variable {K:Frg} {G G':Gp} {H H':Hp}
def HR.noneT (hr:HR K G H) {a:Addr} {vs:List V} (h:Rd H a (.tup vs)):G a=none:=by
 cases e:G a with
 |none=>rfl
 |some o=>
  have q:=hr a o e;cases o with
  |lst xs=>
   obtain ⟨us,q1,_⟩:=q;rcases h with h|⟨ob,h⟩<;>(rw [q1] at h;cases h)
  |frz xs=>
   obtain ⟨us,⟨o1,q1⟩,_⟩:=q;rcases h with h|⟨ob,h⟩<;>(rw [q1] at h;cases h)
def XY (hr:HR K G H) (k:Kp G H G' H') {a:Addr} {vs:List V} (h:SqT K H a vs):SqT K H' a vs:=by
 rcases h with h|h
 ·have g:=hr.noneT h;rcases h with h|⟨o,h⟩
  ·exact .inl (.inl (k a _ h g).1)
  ·exact .inl (.inr ⟨o,(k a _ h g).1⟩)
 ·exact .inr h
mutual
def Rp.keep (hr:HR K G H) (k:Kp G H G' H'):∀ {x:T} {v:V},Rp K H x v->Rp K H' x v
 |_,_,.non=>.non
 |_,_,.bl b=>.bl b
 |_,_,.int i=>.int i
 |_,_,.str x=>.str x
 |_,_,.ref a=>.ref a
 |_,_,.tup h hs=>.tup (XY hr k h) (Rps.keep hr k hs)
def Rps.keep (hr:HR K G H) (k:Kp G H G' H'):∀ {x:List T} {v:List V},Rps K H x v->Rps K H' x v
 |_,_,.nil=>.nil
 |_,_,.cons a b=>.cons (Rp.keep hr k a) (Rps.keep hr k b)
end
def Rps.length:∀ {xs:List T} {vs:List V},Rps K H xs vs->xs.length=vs.length
 |_,_,.nil=>rfl
 |_,_,.cons _ b=>by simp [Rps.length b]
def Rps.get:∀ {xs:List T} {vs:List V} {i:Nat} {x:T},Rps K H xs vs->xs[i]?=some x->∃ v,vs[i]?=some v/\Rp K H x v
 |_,_,_,_,.nil,e=>by simp at e
 |_,_,0,_,.cons r _,e=>by simp at e;subst e;exact ⟨_,rfl,r⟩
 |_,_,i+1,x,.cons _ t,e=>by
  obtain ⟨u,h1,h2⟩:=Rps.get (i:=i) (x:=x) t (by simpa using e);exact ⟨u,by simpa using h1,h2⟩
def Rps.append:∀ {xs ys:List T} {vs us:List V},Rps K H xs vs->Rps K H ys us->Rps K H (xs++ys) (vs++us)
 |_,_,_,_,.nil,s=>s
 |_,_,_,_,.cons r t,s=>.cons r (Rps.append t s)
def Rps.take:∀ {xs:List T} {vs:List V} (n:Nat),Rps K H xs vs->Rps K H (xs.take n) (vs.take n)
 |_,_,0,_=>.nil
 |_,_,_+1,.nil=>.nil
 |_,_,n+1,.cons r t=>.cons r (Rps.take n t)
def Rps.drop:∀ {xs:List T} {vs:List V} (n:Nat),Rps K H xs vs->Rps K H (xs.drop n) (vs.drop n)
 |_,_,0,r=>r
 |_,_,_+1,.nil=>.nil
 |_,_,n+1,.cons _ t=>Rps.drop n t
def Rps.set {x:T} {v:V} (r:Rp K H x v):∀ {xs:List T} {vs:List V} (i:Nat),Rps K H xs vs->Rps K H (xs.set i x) (vs.set i v)
 |_,_,_,.nil=>.nil
 |_,_,0,.cons _ t=>.cons r t
 |_,_,i+1,.cons q t=>.cons q (Rps.set r i t)
def Rps.ints:∀ (ns:List Int),Rps K H (ns.map T.int) (ns.map V.int)
 |[]=>.nil
 |n::r=>.cons (.int n) (Rps.ints r)
def Kp.laid {p:Addr} {ho:HO} (hp:H p=none):Kp G H G (upd H p ho):=λa o h g=>⟨by rw [qM (qF h hp)];exact h,g⟩
def HR.free (hr:HR K G H) {p:Addr} (hp:H p=none):G p=none:=by
 cases e:G p with
 |none=>rfl
 |some o=>
  have q:=hr p o e;cases o with
  |lst xs=>obtain ⟨us,q1,_⟩:=q;rw [hp] at q1;cases q1
  |frz xs=>obtain ⟨us,⟨o1,q1⟩,_⟩:=q;rw [hp] at q1;cases q1
def OR.keep (hr:HR K G H) (k:Kp G H G' H') {a:Addr} {o:O} (h:OR K H a o) (e:∀ u,H a=some u->H' a=some u):OR K H' a o:=by
 cases o with
 |lst xs=>obtain ⟨vs,h1,h2⟩:=h;exact ⟨vs,e _ h1,h2.keep hr k⟩
 |frz xs=>obtain ⟨vs,⟨o,h1⟩,h2⟩:=h;exact ⟨vs,⟨o,e _ h1⟩,h2.keep hr k⟩
def HR.laid (hr:HR K G H) {p:Addr} {ho:HO} (hp:H p=none):HR K G (upd H p ho):=λa o e=>
 (hr a o e).keep hr (Kp.laid hp) λu h=>by rw [qM (qF h hp)];exact h
def Kp.newL {p:Addr} {ho:HO} {o':O} (hp:H p=none):Kp G H (gu G p o') (upd H p ho):=λa o h g=>
 ⟨by rw [qM (qF h hp)];exact h,by rw [ZH (qF h hp)];exact g⟩
def HR.newL (hr:HR K G H) {p:Addr} {xs:List T} {vs:List V} (hp:H p=none) (r:Rps K H xs vs):HR K (gu G p (.lst xs)) (upd H p (.lst vs)):=λa o e=>by
 by_cases ha:a=p
 ·subst ha;rw [za] at e;cases e;exact ⟨vs,qY,r.keep hr (Kp.laid hp)⟩
 ·rw [ZH ha] at e;exact (hr a o e).keep hr (Kp.laid hp) λu h=>by rw [qM ha];exact h
def Kp.wr {p:Addr} {ho:HO} {o o':O} (g:G p=some o):Kp G H (gu G p o') (upd H p ho):=λa ob h ga=>by
 have ha:a≠p:=by intro e;subst e;rw [g] at ga;cases ga
 exact ⟨by rw [qM ha];exact h,by rw [ZH ha];exact ga⟩
def HR.wr (hr:HR K G H) {p:Addr} {ys xs:List T} {vs:List V} (g:G p=some (.lst ys)) (r:Rps K H xs vs):HR K (gu G p (.lst xs)) (upd H p (.lst vs)):=λa o e=>by
 have k:Kp G H (gu G p (.lst xs)) (upd H p (.lst vs)):=Kp.wr g;by_cases ha:a=p
 ·subst ha;rw [za] at e;cases e;exact ⟨vs,qY,r.keep hr k⟩
 ·rw [ZH ha] at e;exact (hr a o e).keep hr k λu h=>by rw [qM ha];exact h
end
abbrev St3:=List (Option T)
structure Rel (K:Frg) (τ:St3) (G:Gp) (σ:L2.St) (H:Hp):Prop where
 hp:HR K G H
 len:τ.length=σ.length
 st:∀ (i:Nat) (t:T),τ[i]?=some (some t)->∃ v,σ[i]?=some (some v)/\Rp K H t v
def Rel.next {K:Frg} {τ:St3} {G G':Gp} {σ:L2.St} {H H':Hp} (r:Rel K τ G σ H) (hr:HR K G' H') (k:Kp G H G' H'):Rel K τ G' σ H':=
 ⟨hr,r.len,λi t e=>let ⟨v,h1,h2⟩:=r.st i t e;⟨v,h1,h2.keep r.hp k⟩⟩
def Rel.set {K:Frg} {τ:St3} {G:Gp} {σ:L2.St} {H:Hp} {t:T} {v:V} (r:Rel K τ G σ H) (i:Nat) (h:Rp K H t v):Rel K (τ.set i (some t)) G (σ.set i (some v)) H:=by
 refine ⟨r.hp,by simp [r.len],λj u e=>?_⟩;by_cases hij:i=j
 ·subst hij;rw [List.getElem?_set_self'] at e;have hl:i<τ.length:=by
   cases q:τ[i]? with
   |none=>rw [q] at e;cases e
   |some z=>exact (List.getElem?_eq_some_iff.mp q).1
  rw [getElem?_eq_getElem hl] at e;have e':t=u:=by simpa using e
  subst e';exact ⟨v,by rw [List.getElem?_set_self (by rw [← r.len];exact hl)],h⟩
 ·rw [List.getElem?_set_ne hij] at e;obtain ⟨w,h1,h2⟩:=r.st j u e;exact ⟨w,by rw [List.getElem?_set_ne hij];exact h1,h2⟩
abbrev Q3:=T->Gp->Prop
abbrev TE3:=St3->Gp->Q3->Prop
abbrev TT3:=St3->Gp->(Bool->Gp->Prop)->Prop
abbrev TA3:=St3->Gp->(List T->Gp->Prop)->Prop
def Aft (K:Frg) (G:Gp) (H:Hp) (q:Q3) (Q:VK):Prop:=∀ x G',q x G'->∀ v H',Rp K H' x v->HR K G' H'->Kp G H G' H'->Q v H'
def qlq (K:Frg) (G:Gp) (H:Hp) (q:Bool->Gp->Prop) (Q:Bool->Hp->Prop):Prop:=∀ x G',q x G'->∀ H',HR K G' H'->Kp G H G' H'->Q x H'
def qoH (K:Frg) (G:Gp) (H:Hp) (q:List T->Gp->Prop) (Q:List V->Hp->Prop):Prop:=∀ x G',q x G'->∀ v H',Rps K H' x v->HR K G' H'->Kp G H G' H'->Q v H'
def lE (K:Frg) (t:TE3):TE:=λσ H Q=>∃ τ G q,Rel K τ G σ H/\t τ G q/\Aft K G H q Q
def lT (K:Frg) (t:TT3):TT:=λσ H Q=>∃ τ G q,Rel K τ G σ H/\t τ G q/\qlq K G H q Q
def lA (K:Frg) (t:TA3):TA:=λσ H Q=>∃ τ G q,Rel K τ G σ H/\t τ G q/\qoH K G H q Q
abbrev E3 (X:Cx) (e:Expr) (t:TE3):Prop:=PE X e (lE X.K t)
abbrev C3 (X:Cx) (e:Expr) (t:TT3):Prop:=PT X e (lT X.K t)
abbrev W3 (X:Cx) (e:Expr) (t:TT3):Prop:=PW X e (lT X.K t)
abbrev A3 (X:Cx) (es:List Expr) (t:TA3):Prop:=PA X es (lA X.K t)
def Aft.back {K:Frg} {G G1:Gp} {H H1:Hp} {q:Q3} {Q:VK} (a:Aft K G H q Q) (k:Kp G H G1 H1):Aft K G1 H1 q Q:=λx G' h v H' r hr k'=>a x G' h v H' r hr (k.trans k')
def qlq.back {K:Frg} {G G1:Gp} {H H1:Hp} {q:Bool->Gp->Prop} {Q:Bool->Hp->Prop} (a:qlq K G H q Q) (k:Kp G H G1 H1):qlq K G1 H1 q Q:=λx G' h H' hr k'=>a x G' h H' hr (k.trans k')
def DO {X:Cx} {e:Expr} {t t':TE} (h:PE X e t) (w:∀ σ H Q,t' σ H Q->t σ H Q):PE X e t':=λpins s σ H Q I q=>h pins s σ H Q I (w σ H Q q)
def qlk {X:Cx} {e:Expr} {t t':TT} (h:PT X e t) (w:∀ σ H Q,t' σ H Q->t σ H Q):PT X e t':=λpins s σ H Q I q=>h pins s σ H Q I (w σ H Q q)
def qnV {X:Cx} {e:Expr} {t t':TT} (h:PW X e t) (w:∀ σ H Q,t' σ H Q->t σ H Q):PW X e t':=λwh pins s σ H Q I q=>h wh pins s σ H Q I (w σ H Q q)
def qnT {X:Cx} {e:List Expr} {t t':TA} (h:PA X e t) (w:∀ σ H Q,t' σ H Q->t σ H Q):PA X e t':=λpos pins s σ H Q I q=>h pos pins s σ H Q I (w σ H Q q)
def zy {K:Frg} {ta:TE3} {τ:St3} {G:Gp} {σ:L2.St} {H:Hp} {q:Q3} {Q:VK} (r:Rel K τ G σ H) (h:ta τ G q)
  (n:∀ x G1,q x G1->∀ v H1,Rp K H1 x v->HR K G1 H1->Kp G H G1 H1->Rel K τ G1 σ H1->Q v H1):lE K ta σ H Q:=
 ⟨τ,G,q,r,h,λx G1 hq v H1 rx hr k=>n x G1 hq v H1 rx hr k (r.next hr k)⟩
def WO {K:Frg} {ta:TT3} {τ:St3} {G:Gp} {σ:L2.St} {H:Hp} {q:Bool->Gp->Prop} {Q:Bool->Hp->Prop} (r:Rel K τ G σ H) (h:ta τ G q)
  (n:∀ x G1,q x G1->∀ H1,HR K G1 H1->Kp G H G1 H1->Rel K τ G1 σ H1->Q x H1):lT K ta σ H Q:=
 ⟨τ,G,q,r,h,λx G1 hq H1 hr k=>n x G1 hq H1 hr k (r.next hr k)⟩
def VM {K:Frg} {ta:TA3} {τ:St3} {G:Gp} {σ:L2.St} {H:Hp} {q:List T->Gp->Prop} {Q:List V->Hp->Prop} (r:Rel K τ G σ H) (h:ta τ G q)
  (n:∀ x G1,q x G1->∀ v H1,Rps K H1 x v->HR K G1 H1->Kp G H G1 H1->Rel K τ G1 σ H1->Q v H1):lA K ta σ H Q:=
 ⟨τ,G,q,r,h,λx G1 hq v H1 rx hr k=>n x G1 hq v H1 rx hr k (r.next hr k)⟩
section
variable {X:Cx} {a b c:Expr} {ta tb tc:TE3} {pos:Pos}
def v3 (i:Nat):TE3:=λτ G q=>match τ[i]? with|some (some t)=>q t G|_=>False
def qml (i:Nat) {x:Str} {pos:Pos} (hN:X.N[i]?=some x:=by rfl) (hv:Vis X.env.scope x:=by first|exact Or.inl rfl|exact Or.inr (Or.inl rfl)|exact Or.inr (Or.inr rfl)) (hd:(x==("__debug__" : Str))=false:=by decide)
  (hcd:(x==("__classdict__" : Str))=false:=by decide):E3 X (.Name x pos) (v3 i):=by
 refine DO (qkA (i:=i) hN hv hd hcd) λσ H Q ⟨τ,G,q,r,h,af⟩=>?_;unfold v3 at h;split at h
 ·rename_i t e;obtain ⟨v,e2,rv⟩:=r.st i t e;exact ⟨v,e2,af t G h v H rv r.hp Kp.refl⟩
 ·exact h.elim
def c3 (t:T):TE3:=λ_ G q=>q t G
def e_c {t:T} {v:V} {e:Expr} (h:PE X e (tC v)) (hr:∀ H,Rp X.K H t v):E3 X e (c3 t):=DO h λσ H Q ⟨τ,G,q,r,h,af⟩=>af t G h v H (hr H) r.hp Kp.refl
def ql1 {i:Int} {j pos}:E3 X (.Constant (.int i) j pos) (c3 (.int i)):=e_c qhy λ_=>.int i
def qoh {b:Bool} {j pos}:E3 X (.Constant (.bool b) j pos) (c3 (.bl b)):=e_c qlG λ_=>.bl b
def qm9 {j pos}:E3 X (.Constant .none j pos) (c3 .non):=e_c qhZ λ_=>.non
def qlF {x:Str} {j pos}:E3 X (.Constant (.str x) j pos) (c3 (.str x)):=e_c qj6 λ_=>.str x
def n3:TE3:=λ_ _ _=>False
abbrev R3:=T->T->Gp->Q3->Prop
def V6 (K:Frg) (r3:R3) (r:R2):Prop:=∀ x y v u G H q Q,HR K G H->Rp K H x v->Rp K H y u->r3 x y G q->Aft K G H q Q->r v u H Q
def o3 (r:R3) (ta tb:TE3):TE3:=λτ G q=>ta τ G λx G1=>tb τ G1 λy G2=>r x y G2 q
def qbQ {K:Frg} {r3:R3} {r:R2} (hr:V6 K r3 r) {σ:L2.St} {H:Hp} {Q:VK} (h:lE K (o3 r3 ta tb) σ H Q):tOp r (lE K ta) (lE K tb) σ H Q:=by
 obtain ⟨τ,G,q,rl,h,af⟩:=h;refine zy rl h λx G1 h1 v H1 rx hr1 k1 rl1=>zy rl1 h1 λy G2 h2 u H2 ry hr2 k2 rl2=>?_;exact hr x y v u G2 H2 q Q hr2 (rx.keep hr1 k2) ry h2 (af.back (k1.trans k2))
def L9 {op:Operator} {r3:R3} {r:R2} (ho:OpR X (binaryOp op) r) (hr:V6 X.K r3 r) (ha:E3 X a ta) (hb:E3 X b tb):E3 X (.BinOp a op b pos) (o3 r3 ta tb):=
 DO (qmJ ho ha hb) λ_ _ _ h=>qbQ hr h
def qlD {op:CmpOp} {r3:R3} {r:R2} (ho:OpR X (compareOp op) r) (hr:V6 X.K r3 r) (ha:E3 X a ta) (hb:E3 X b tb) (hm:behindInMarks op b=false):E3 X (.Compare a [op] [b] pos) (o3 r3 ta tb):=
 DO (qeX ho ha hb hm) λ_ _ _ h=>qbQ hr h
def tb3 (t:TE3):TT3:=λτ G q=>t τ G λx G'=>match x with|.bl k=>q k G'|_=>False
def qe5 {K:Frg} {t:TE3} {t2:TE} (hw:∀ σ H Q,lE K t σ H Q->t2 σ H Q) {σ:L2.St} {H:Hp} {Q:Bool->Hp->Prop} (h:lT K (tb3 t) σ H Q):qfY t2 σ H Q:=by
 obtain ⟨τ,G,q,rl,h,af⟩:=h;refine hw _ _ _ (zy rl h λx G1 h1 v H1 rx hr1 k1 rl1=>?_);cases x with
 |bl k=>cases rx;exact ⟨k,rfl,af k G1 h1 H1 hr1 k1⟩
 |_=>exact h1.elim
def qmb {op:CmpOp} {r3:R3} {r:R2} (ho:OpR X (compareOp op) r) (hr:V6 X.K r3 r) (ha:E3 X a ta) (hb:E3 X b tb) (hm:behindInMarks op b=false):C3 X (.Compare a [op] [b] pos) (tb3 (o3 r3 ta tb)):=
 qlk (qfa ho ha hb hm) λ_ _ _ h=>qe5 (λ_ _ _=>qbQ hr) h
def ch3 (r r':R3) (ta tb tc:TE3):TE3:=λτ G q=>ta τ G λx G1=>tb τ G1 λy G2=>r x y G2 λz G3=>match z with
 |.bl k=>if k=true then tc τ G3 λw G4=>r' y w G4 q else q (.bl false) G3
 |_=>False
def qkK {K:Frg} {r3 r3':R3} {r r':R2} (hr:V6 K r3 r) (hr':V6 K r3' r') {σ:L2.St} {H:Hp} {Q:VK} (h:lE K (ch3 r3 r3' ta tb tc) σ H Q):qaQ r r' (lE K ta) (lE K tb) (lE K tc) σ H Q:=by
 obtain ⟨τ,G,q,rl,h,af⟩:=h;refine zy rl h λx G1 h1 v H1 rx hr1 k1 rl1=>zy rl1 h1 λy G2 h2 u H2 ry hr2 k2 rl2=>?_;refine hr x y v u G2 H2 _ _ hr2 (rx.keep hr1 k2) ry h2 λz G3 h3 w H3 rz hr3 k3=>?_;cases z with
 |bl k=>
  cases rz;refine ⟨k,rfl,?_⟩;cases k with
  |false=>
   rw [if_neg Bool.false_ne_true];rw [show (match T.bl false with|.bl k=>if k=true then tc τ G3 λw G4=>r3' y w G4 q else q (.bl false) G3|_=>False)=q (.bl false) G3 from by simp] at h3;exact af _ G3 h3 _ H3 (.bl false) hr3 ((k1.trans k2).trans k3)
  |true=>
   rw [if_pos rfl];refine zy (rl2.next hr3 k3) (show tc τ G3 λw G4=>r3' y w G4 q from by simpa using h3) λw G4 h4 w' H4 rw' hr4 k4 rl4=>?_;exact hr' y w _ _ G4 H4 q Q hr4 ((ry.keep hr2 k3).keep hr3 k4) rw' h4 (af.back (((k1.trans k2).trans k3).trans k4))
 |_=>exact h3.elim
def qfp {op op':CmpOp} {r3 r3':R3} {r r':R2} (ho:OpR X (compareOp op) r) (hr:V6 X.K r3 r) (ho':OpR X (compareOp op') r') (hr':V6 X.K r3' r') (ha:E3 X a ta) (hb:E3 X b tb) (hc:E3 X c tc)
  (hm:lastMarks [op,op'] [b,c]=false:=by with_unfolding_all rfl):E3 X (.Compare a [op,op'] [b,c] pos) (ch3 r3 r3' ta tb tc):=
 DO (qbD ho ho' ha hb hc hm) λ_ _ _ h=>qkK hr hr' h
def qfK {op op':CmpOp} {r3 r3':R3} {r r':R2} (ho:OpR X (compareOp op) r) (hr:V6 X.K r3 r) (ho':OpR X (compareOp op') r') (hr':V6 X.K r3' r') (ha:E3 X a ta) (hb:E3 X b tb) (hc:E3 X c tc)
  (hm:lastMarks [op,op'] [b,c]=false:=by with_unfolding_all rfl):C3 X (.Compare a [op,op'] [b,c] pos) (tb3 (ch3 r3 r3' ta tb tc)):=
 qlk (qcf ho ho' ha hb hc hm) λ_ _ _ h=>qe5 (λ_ _ _=>qkK hr hr') h
def qn7 (K:Frg) (r3:T->Gp->Q3->Prop) (r:V->Hp->VK->Prop):Prop:=∀ x v G H q Q,HR K G H->Rp K H x v->r3 x G q->Aft K G H q Q->r v H Q
def u3 (r:T->Gp->Q3->Prop) (ta:TE3):TE3:=λτ G q=>ta τ G λx G1=>r x G1 q
def qoq {op:UnaryOp} {r3:T->Gp->Q3->Prop} {r:V->Hp->VK->Prop} (ho:UnR X (unaryOp op) r) (hr:qn7 X.K r3 r) (ha:E3 X a ta):E3 X (.UnaryOp op a pos) (u3 r3 ta):=
 DO (qmZ ho ha) λ_ _ _ ⟨τ,G,q,rl,h,af⟩=>zy rl h λx G1 h1 v H1 rx hr1 k1 rl1=>hr x v G1 H1 q _ hr1 rx h1 (af.back k1)
def SE:T->Gp->Q3->Prop:=λx G q=>match x with|.int i=>q (.int (-i)) G|_=>False
def qgj {K:Frg}:qn7 K SE (rU λi=>.int (-i)):=λx v G H q Q hr rx h af=>by
 cases x with
 |int i=>cases rx;exact ⟨i,rfl,af _ G h _ H (.int _) hr Kp.refl⟩
 |_=>exact h.elim
def iI (f:Int->Int->Int):R3:=λx y G q=>match x,y with|.int i,.int j=>q (.int (f i j)) G|_,_=>False
def iC (C:Int->Int->Prop) (f:Int->Int->Int):R3:=λx y G q=>match x,y with|.int i,.int j=>C i j/\q (.int (f i j)) G|_,_=>False
def iB (f:Int->Int->Bool):R3:=λx y G q=>match x,y with|.int i,.int j=>q (.bl (f i j)) G|_,_=>False
def qae {K:Frg} {f:Int->Int->Int}:V6 K (iI f) (rI0 λi j=>.int (f i j)):=λx y v u G H q Q hr rx ry h af=>by
 cases x<;>try exact h.elim
 cases y<;>try exact h.elim
 cases rx;cases ry;exact ⟨_,_,rfl,rfl,af _ G h _ H (.int _) hr Kp.refl⟩
def WI {K:Frg} {C:Int->Int->Prop} {f:Int->Int->Int}:V6 K (iC C f) (rI C λi j=>.int (f i j)):=λx y v u G H q Q hr rx ry h af=>by
 cases x<;>try exact h.elim
 cases y<;>try exact h.elim
 cases rx;cases ry;exact ⟨_,_,rfl,rfl,h.1,af _ G h.2 _ H (.int _) hr Kp.refl⟩
def jK {K:Frg} {f:Int->Int->Bool}:V6 K (iB f) (rI0 λi j=>.bl (f i j)):=λx y v u G H q Q hr rx ry h af=>by
 cases x<;>try exact h.elim
 cases y<;>try exact h.elim
 cases rx;cases ry;exact ⟨_,_,rfl,rfl,af _ G h _ H (.bl _) hr Kp.refl⟩
def qnm (ha:E3 X a ta) (hb:E3 X b tb):E3 X (.BinOp a .Sub b pos) (o3 (iI (·-·)) ta tb):=L9 qiZ qae ha hb
def qlW (ha:E3 X a ta) (hb:E3 X b tb):E3 X (.BinOp a .Mult b pos) (o3 (iC WR (·*·)) ta tb):=L9 qjU WI ha hb
def qmr (ha:E3 X a ta) (hb:E3 X b tb):E3 X (.BinOp a .Mod b pos) (o3 (iC (λ_ j=>0<j) (·%·)) ta tb):=L9 qkW WI ha hb
def qmj (ha:E3 X a ta) (hb:E3 X b tb):E3 X (.BinOp a .FloorDiv b pos) (o3 (iC qcI (·/·)) ta tb):=L9 qfP WI ha hb
def qlE (ha:E3 X a ta) (hb:E3 X b tb):E3 X (.BinOp a .Pow b pos) (o3 (iC W7 (λi j=>i ^ j.toNat)) ta tb):=L9 qjt WI ha hb
def qmU (ha:E3 X a ta) (hb:E3 X b tb):E3 X (.BinOp a .BitXor b pos) (o3 (iI Builtin.bitXor) ta tb):=L9 qjg qae ha hb
def qjM (ha:E3 X a ta) (hb:E3 X b tb):E3 X (.BinOp a .BitAnd b pos) (o3 (iI Builtin.bitAnd) ta tb):=L9 qkr qae ha hb
def qlX (ha:E3 X a ta) (hb:E3 X b tb):E3 X (.BinOp a .LShift b pos) (o3 (iC W7 (λi j=>i*2 ^ j.toNat)) ta tb):=L9 qg9 WI ha hb
def qnb (ha:E3 X a ta) (hb:E3 X b tb):E3 X (.BinOp a .RShift b pos) (o3 (iC (λ_ j=>0<=j) (λi j=>i/2 ^ j.toNat)) ta tb):=L9 qhx WI ha hb
def qlM (ha:E3 X a ta):E3 X (.UnaryOp .USub a pos) (u3 SE ta):=qoq qkT qgj ha
def qbN:T->T->Option Bool
 |.non,.non=>some true|.non,.int _=>some false|.int _,.non=>some false|.non,.bl _=>some false|.bl _,.non=>some false|.non,.str _=>some false|.str _,.non=>some false
 |.int i,.int j=>some (decide (i=j))|.bl i,.bl j=>some (decide (i=j))|.str i,.str j=>some (decide (i=j))
 |.int _,.str _=>some false|.str _,.int _=>some false|.bl _,.str _=>some false|.str _,.bl _=>some false
 |_,_=>none
def KR {K:Frg} {H:Hp} {x y:T} {v u:V} {k:Bool} (rx:Rp K H x v) (ry:Rp K H y u) (h:qbN x y=some k):qnp v u=true/\decide (v=u)=k:=by
 cases rx<;>cases ry<;>simp [qbN] at h<;>subst h<;>refine ⟨rfl,?_⟩<;>simp
def qbi (neg:Bool):R3:=λx y G q=>match y with|.non=>q (.bl (match x with|.non=>!neg|_=>neg)) G|_=>False
def qjx {K:Frg} {H:Hp} {x:T} {v:V} (rx:Rp K H x v):decide (v=.non)=(match x with|.non=>true|_=>false):=by
 cases rx<;>simp
def EK {K:Frg}:V6 K (qbi true) (λx y H Q=>y=.non/\Q (.bl (!decide (x=.non))) H):=λx y v u G H q Q hr rx ry h af=>by
 cases y<;>try exact h.elim
 cases ry;refine ⟨rfl,?_⟩;rw [qjx rx];refine af _ G h _ H ?_ hr Kp.refl;cases x<;>exact .bl _
variable {tA tB:TT3} {jZ:List Expr}
def qbw (t u:TT3):TT3:=λτ G q=>t τ G λk G1=>if k=true then u τ G1 q else q false G1
def or3 (t u:TT3):TT3:=λτ G q=>t τ G λk G1=>if k=true then q true G1 else u τ G1 q
def LC (t:TT3):TT3:=λτ G q=>t τ G λk G1=>q (!k) G1
def qhJ (ha:C3 X a tA):W3 X (.BoolOp .And [a] pos) tA:=qeH ha
def qmz (ha:C3 X a tA):W3 X (.BoolOp .Or [a] pos) tA:=qgZ ha
def qlT (ha:C3 X a tA) (hb:W3 X (.BoolOp .And (b::jZ) pos) tB):W3 X (.BoolOp .And (a::b::jZ) pos) (qbw tA tB):=
 qnV (qi7 ha hb) λ_ _ _ ⟨τ,G,q,rl,h,af⟩=>WO rl h λk G1 h1 H1 hr1 k1 rl1=>by
  cases k with
  |true=>rw [if_pos rfl] at h1 ⊢;exact ⟨τ,G1,q,rl1,h1,af.back k1⟩
  |false=>rw [if_neg Bool.false_ne_true] at h1 ⊢;exact af _ G1 h1 H1 hr1 k1
def qoy (ha:C3 X a tA) (hb:W3 X (.BoolOp .Or (b::jZ) pos) tB):W3 X (.BoolOp .Or (a::b::jZ) pos) (or3 tA tB):=
 qnV (qlV ha hb) λ_ _ _ ⟨τ,G,q,rl,h,af⟩=>WO rl h λk G1 h1 H1 hr1 k1 rl1=>by
  cases k with
  |true=>rw [if_pos rfl] at h1 ⊢;exact af _ G1 h1 H1 hr1 k1
  |false=>rw [if_neg Bool.false_ne_true] at h1 ⊢;exact ⟨τ,G1,q,rl1,h1,af.back k1⟩
def ql3 (ha:C3 X a tA):C3 X (.UnaryOp .Not a pos) (LC tA):=
 qlk (qjX ha) λ_ _ _ ⟨τ,G,q,rl,h,af⟩=>WO rl h λk G1 h1 H1 hr1 k1 rl1=>af _ G1 h1 H1 hr1 k1
def qnl {e:Expr} {t:TE3} (h:E3 X e t) (he:∀ whole,isTrue e X.env whole=(do let v←whole;standAt e.pos;holding [v] (truthy v)):=by intro _;rfl):C3 X e (tb3 t):=
 qlk (qiP h he) λ_ _ _ h=>qe5 (λ_ _ _ h=>h) h
def S0 (ta tb:TE3):TE3:=λτ G q=>ta τ G λx G1=>match x with|.bl k=>if k=true then tb τ G1 q else q (.bl false) G1|_=>False
def qbx (ta:TE3):TE3:=λτ G q=>ta τ G λx G1=>match x with|.bl k=>q (.bl (!k)) G1|_=>False
def qnr {op} (h:E3 X a ta):E3 X (.BoolOp op [a] pos) ta:=qjN h
def qmn (ha:E3 X a ta) (hb:E3 X (.BoolOp .And (b::jZ) pos) tb):E3 X (.BoolOp .And (a::b::jZ) pos) (S0 ta tb):=
 DO (qkz ha hb) λ_ _ _ ⟨τ,G,q,rl,h,af⟩=>zy rl h λx G1 h1 v H1 rx hr1 k1 rl1=>by
  cases x with
  |bl k=>
   cases rx;refine ⟨k,rfl,?_⟩;cases k with
   |true=>rw [if_pos rfl];exact ⟨τ,G1,q,rl1,(show tb τ G1 q from by simpa using h1),af.back k1⟩
   |false=>rw [if_neg Bool.false_ne_true];exact af _ G1 (by simpa using h1) _ H1 (.bl false) hr1 k1
  |_=>exact h1.elim
def ql5 (ha:E3 X a ta):E3 X (.UnaryOp .Not a pos) (qbx ta):=
 DO (qg7 ha) λ_ _ _ ⟨τ,G,q,rl,h,af⟩=>zy rl h λx G1 h1 v H1 rx hr1 k1 rl1=>by
  cases x with
  |bl k=>cases rx;exact ⟨k,rfl,af _ G1 h1 _ H1 (.bl _) hr1 k1⟩
  |_=>exact h1.elim
def if3 (t:TT3) (ta tb:TE3):TE3:=λτ G q=>t τ G λk G1=>if k=true then ta τ G1 q else tb τ G1 q
def qoC {c:Expr} (hc:C3 X c tA) (ha:E3 X a ta) (hb:E3 X b tb):E3 X (.IfExp c a b pos) (if3 tA ta tb):=
 DO (qcg hc ha hb) λ_ _ _ ⟨τ,G,q,rl,h,af⟩=>WO rl h λk G1 h1 H1 hr1 k1 rl1=>by
  cases k with
  |true=>rw [if_pos rfl] at h1 ⊢;exact ⟨τ,G1,q,rl1,h1,af.back k1⟩
  |false=>rw [if_neg Bool.false_ne_true] at h1 ⊢;exact ⟨τ,G1,q,rl1,h1,af.back k1⟩
variable {e:Expr} {es:List Expr} {te:TE3} {t:TA3}
def qq:TA3:=λ_ G q=>q [] G
def qc (ta:TE3) (tr:TA3):TA3:=λτ G q=>ta τ G λx G1=>tr τ G1 λxs G2=>q (x::xs) G2
def ql4:A3 X [] qq:=qnT KD λ_ H _ ⟨τ,G,q,rl,h,af⟩=>af _ G h _ H .nil rl.hp Kp.refl
def qj4 (ha:E3 X e te) (hr:A3 X es t) (hs:starEach (e::es) X.env=(false,eval e X.env)::starEach es X.env:=by rfl):A3 X (e::es) (qc te t):=
 qnT (YS ha hr hs) λ_ _ _ ⟨τ,G,q,rl,h,af⟩=>zy rl h λx G1 h1 v H1 rx hr1 k1 rl1=>VM rl1 h1 λxs G2 h2 vs H2 rs hr2 k2 rl2=>
  af _ G2 h2 _ H2 (.cons (rx.keep hr1 k2) rs) hr2 (k1.trans k2)
def TN (t:TA3):TE3:=λτ G q=>t τ G λxs G1=>xs.length<=sizeLine/\q (.tup xs) G1
def ED (t:TA3):TE3:=λτ G q=>t τ G λxs G1=>xs.length<=sizeLine/\∀ p,G1 p=none->q (.ref p) (gu G1 p (.lst xs))
def qnc {x1} (h:A3 X es t):E3 X (.Tuple es x1 pos) (TN t):=
 DO (qdV h) λ_ _ _ ⟨τ,G,q,rl,h,af⟩=>VM rl h λxs G1 h1 vs H1 rs hr1 k1 rl1=>⟨by rw [← rs.length];exact h1.1,λp hp=>
  af _ G1 h1.2 _ _ (.tup (SqT.of qY) (rs.keep hr1 (Kp.laid hp))) (hr1.laid hp) (k1.trans (Kp.laid hp))⟩
def qm7 (h:A3 X es t):E3 X (.List es pos) (ED t):=
 DO (qjB h) λ_ _ _ ⟨τ,G,q,rl,h,af⟩=>VM rl h λxs G1 h1 vs H1 rs hr1 k1 rl1=>⟨by rw [← rs.length];exact h1.1,λp hp=>
  af _ _ (h1.2 p (hr1.free hp)) _ _ (.ref p) (hr1.newL hp rs) (k1.trans (Kp.newL hp))⟩
def KY (K:Frg) (r3:List T->Gp->Q3->Prop) (r:List V->Hp->VK->Prop):Prop:=∀ xs vs G H q Q,HR K G H->Rps K H xs vs->r3 xs G q->Aft K G H q Q->r vs H Q
def cb3 (r:List T->Gp->Q3->Prop) (t:TA3):TE3:=λτ G q=>t τ G λxs G1=>r xs G1 q
def qip {K:Frg} {r3:List T->Gp->Q3->Prop} {r:List V->Hp->VK->Prop} (hr:KY K r3 r) {σ:L2.St} {H:Hp} {Q:VK} (h:lE K (cb3 r3 t) σ H Q):tCB r (lA K t) σ H Q:=by
 obtain ⟨τ,G,q,rl,h,af⟩:=h;exact VM rl h λxs G1 h1 vs H1 rs hr1 k1 rl1=>hr xs vs G1 H1 q Q hr1 rs h1 (af.back k1)
def qes {x:Str} {p:Pos} {id:String} {r3:List T->Gp->Q3->Prop} {r:List V->Hp->VK->Prop} (hc:JD X (.builtin id) r) (hr:KY X.K r3 r) (hg:Gl X x) (hm:X.mg x=none) (hv:bootBuiltins x=some (.builtin id)) (ha:A3 X (e::es) t) (hn:x≠"__name__" := by decide) (hdb:(x==("__debug__" : Str))=false:=by decide)
  (he:starEach (e::es) X.env=(false,eval e X.env)::starEach es X.env:=by rfl) (hpl:(backTo pos (starEach es X.env)).any (·.1)=false:=by rfl):E3 X (.Call (.Name x p) (e::es) [] pos) (cb3 r3 t):=
 DO (CC hc hg hm hv ha hn hdb he hpl) λ_ _ _ h=>qip hr h
def qcd {x:Str} {p:Pos} {ty:String} {r3:List T->Gp->Q3->Prop} {r:List V->Hp->VK->Prop} (hc:JD X (.type ty) r) (hr:KY X.K r3 r) (hg:Gl X x) (hm:X.mg x=none) (hv:bootBuiltins x=some (.type ty)) (ha:A3 X (e::es) t) (hn:x≠"__name__" := by decide) (hdb:(x==("__debug__" : Str))=false:=by decide)
  (he:starEach (e::es) X.env=(false,eval e X.env)::starEach es X.env:=by rfl) (hpl:(backTo pos (starEach es X.env)).any (·.1)=false:=by rfl):E3 X (.Call (.Name x p) (e::es) [] pos) (cb3 r3 t):=
 DO (qab hc hg hm hv ha hn hdb he hpl) λ_ _ _ h=>qip hr h
end
def getL (G:Gp) (p:Addr):Option (List T):=match G p with|some (.lst xs)=>some xs|some (.frz xs)=>some xs|none=>none
section
variable {K:Frg} {G G':Gp} {H H':Hp}
def jk (hr:HR K G H) {p:Addr} {xs:List T} (h:getL G p=some xs):∃ vs,SqL K H p vs/\Rps K H xs vs:=by
 unfold getL at h;split at h
 ·rename_i ys e;cases h;obtain ⟨vs,h1,h2⟩:=hr p _ e;exact ⟨vs,SqL.of h1,h2⟩
 ·rename_i ys e;cases h;obtain ⟨vs,⟨o,h1⟩,h2⟩:=hr p _ e;exact ⟨vs,.inl (.inr ⟨o,h1⟩),h2⟩
 ·cases h
def HR.lst (hr:HR K G H) {p:Addr} {xs:List T} (h:G p=some (.lst xs)):∃ vs,H p=some (.lst vs)/\Rps K H xs vs:=hr p _ h
def Rps.atI {xs:List T} {vs:List V} {i:Int} {x:T} (r:Rps K H xs vs) (h:atI xs i=some x):∃ v,L2.atI vs i=some v/\Rp K H x v:=by
 unfold L2.atI at h ⊢;rw [← r.length];cases e:ixN xs.length i with
 |none=>rw [e] at h;cases h
 |some j=>
  rw [e] at h;exact r.get (by simpa using h)
end
def ix3:R3:=λx y G q=>match x,y with
 |.tup xs,.int i=>(match atI xs i with|some z=>q z G|none=>False)
 |.ref p,.int i=>(match getL G p with|some xs=>(match atI xs i with|some z=>q z G|none=>False)|none=>False)
 |_,_=>False
section
variable {X:Cx} {a b c e:Expr} {es:List Expr} {ta tb tc te:TE3} {t:TA3} {pos:Pos}
def qkU {K:Frg}:V6 K ix3 (rIx K):=λx y v u G H q Q hr rx ry h af=>by
 cases x<;>try exact h.elim
 case tup xs=>
  cases y<;>try exact h.elim
  case int i=>
   unfold ix3 at h;simp only at h;split at h
   ·rename_i z e;cases ry;cases rx with
    |tup hs rs=>
     obtain ⟨w,e2,rw'⟩:=rs.atI e;exact .inr (.inl ⟨_,_,i,w,rfl,rfl,hs,e2,af z G h w H rw' hr Kp.refl⟩)
   ·exact h.elim
 case ref p=>
  cases y<;>try exact h.elim
  case int i=>
   unfold ix3 at h;simp only at h;split at h
   ·rename_i xs e0;split at h
    ·rename_i z e;cases ry;cases rx;obtain ⟨vs,hs,rs⟩:=jk hr e0;obtain ⟨w,e2,rw'⟩:=rs.atI e;exact .inl ⟨p,vs,i,w,rfl,rfl,hs,e2,af z G h w H rw' hr Kp.refl⟩
    ·exact h.elim
   ·exact h.elim
def qos (ha:E3 X a ta) (hb:E3 X b tb) (hs:R9 b:=by intro _ _;rfl):E3 X (.Subscript a b pos) (o3 ix3 ta tb):=DO (qmA qgE ha hb hs) λ_ _ _ h=>qbQ qkU h
def E8 {α:Type} (xs:List α) (lo hi:Option Int):List α:=(xs.drop (HT.sIx xs.length 0 lo)).take (HT.sIx xs.length xs.length hi-HT.sIx xs.length 0 lo)
def Rps.cut {K:Frg} {H:Hp} {xs:List T} {vs:List V} (r:Rps K H xs vs) (lo hi:Option Int):Rps K H (E8 xs lo hi) (qcz vs lo hi):=by
 unfold E8 qcz;rw [r.length];exact (r.drop _).take _
abbrev TO3:=St3->Gp->(Option Int->Gp->Prop)->Prop
def lO (K:Frg) (t:TO3):TO:=λσ H Q=>∃ τ G q,Rel K τ G σ H/\t τ G q/\∀ x G',q x G'->∀ H',HR K G' H'->Kp G H G' H'->Q x H'
abbrev P3 (X:Cx) (e:Option Expr) (t:TO3):Prop:=PO X e (lO X.K t)
def np3:TO3:=λ_ G q=>q none G
def sp3 (t:TE3):TO3:=λτ G q=>t τ G λx G1=>match x with|.int i=>q (some i) G1|_=>False
def qnv {X:Cx} {e:Option Expr} {t t':TO} (h:PO X e t) (w:∀ σ H Q,t' σ H Q->t σ H Q):PO X e t':=λpins s σ H Q I q=>h pins s σ H Q I (w σ H Q q)
def qkV:P3 X none np3:=qnv qeF λ_ H _ ⟨τ,G,q,rl,h,af⟩=>af none G h H rl.hp Kp.refl
def qit (h:E3 X e te):P3 X (some e) (sp3 te):=qnv (qfd h) λ_ _ _ ⟨τ,G,q,rl,h,af⟩=>zy rl h λx G1 h1 v H1 rx hr1 k1 rl1=>by
 cases x<;>try exact h1.elim
 cases rx;exact ⟨_,rfl,af _ G1 h1 H1 hr1 k1⟩
def qay {K:Frg} {H:Hp} {xs:List T} {vs:List V} (r:Rps K H xs vs):vs=[]↔xs=[]:=by
 cases r<;>simp
def JT:R3:=λx y G q=>match x,y with
 |.tup xs,.tup ys=>xs≠[]/\xs.length+ys.length<=sizeLine/\q (.tup (xs++ys)) G
 |.ref a,.ref b=>(match G a,G b with|some (.lst xs),some (.lst ys)=>xs.length+ys.length<=sizeLine/\∀ p,G p=none->q (.ref p) (gu G p (.lst (xs++ys)))|_,_=>False)
 |.int i,.int j=>q (.int (i+j)) G
 |_,_=>False
def XW {K:Frg}:V6 K JT (λx y H Q=>(rI0 (λi j=>.int (i+j)) x y H Q\/qgk K x y H Q)\/qmy x y H Q):=λx y v u G H q Q hr rx ry h af=>by
 cases x<;>try exact h.elim
 case int i=>
  cases y<;>try exact h.elim
  cases rx;cases ry;exact .inl (.inl ⟨_,_,rfl,rfl,af _ G h _ H (.int _) hr Kp.refl⟩)
 case tup xs=>
  cases y<;>try exact h.elim
  case tup ys=>
   obtain ⟨h1,h2,h3⟩:=h;cases rx with
   |tup hs rs=>
    cases ry with
    |tup hs' rs'=>
     refine .inl (.inr ⟨_,_,_,_,rfl,rfl,hs,hs',λz=>h1 ((qay rs).mp z),by rw [← rs.length,← rs'.length];exact h2,λz=>?_,λz p hp=>?_⟩)
     ·have e:=(qay rs').mp z;subst e;rw [List.append_nil] at h3;exact af _ G h3 _ H (.tup hs rs) hr Kp.refl
     ·exact af _ G h3 _ _ (.tup (SqT.of qY) ((rs.append rs').keep hr (Kp.laid hp))) (hr.laid hp) (Kp.laid hp)
 case ref a=>
  cases y<;>try exact h.elim
  case ref b=>
   unfold JT at h;simp only at h;split at h
   ·rename_i xs ys e1 e2;cases rx;cases ry;obtain ⟨vs,g1,r1⟩:=hr.lst e1;obtain ⟨us,g2,r2⟩:=hr.lst e2;refine .inr ⟨a,b,vs,us,rfl,rfl,g1,g2,by rw [← r1.length,← r2.length];exact h.1,λp hp=>?_⟩;exact af _ _ (h.2 p (hr.free hp)) _ _ (.ref p) (hr.newL hp (r1.append r2)) (Kp.newL hp)
   ·exact h.elim
def qh8 (ha:E3 X a ta) (hb:E3 X b tb):E3 X (.BinOp a .Add b pos) (o3 JT ta tb):=L9 ((qdu.or qax).or qdK) XW ha hb
def DX:List T->Gp->Q3->Prop:=λxs G q=>match xs with
 |[.tup ys]=>q (.int ys.length) G
 |[.str y]=>y.length<=sizeLine/\q (.int y.length) G
 |[.ref p]=>(match getL G p with|some ys=>q (.int ys.length) G|none=>False)
 |_=>False
def RB {K:Frg} {H:Hp} {x:T} {vs:List V} (r:Rps K H [x] vs):∃ v,vs=[v]/\Rp K H x v:=by
 cases r with
 |cons a b=>cases b;exact ⟨_,rfl,a⟩
def qnA {K:Frg} {H:Hp} {x y:T} {vs:List V} (r:Rps K H [x,y] vs):∃ v u,vs=[v,u]/\Rp K H x v/\Rp K H y u:=by
 cases r with
 |cons a b=>cases b with|cons c d=>cases d;exact ⟨_,_,rfl,a,c⟩
def jt {K:Frg}:KY K DX (λxs H Q=>∃ x n,xs=[x]/\qn3 K x H n/\Q (.int n) H):=λxs vs G H q Q hr rs h af=>by
 unfold DX at h;split at h
 ·obtain ⟨v,rfl,r⟩:=RB rs;cases r with
  |tup hs r2=>exact ⟨_,_,rfl,.inr ⟨_,hs,rfl⟩,by rw [← r2.length];exact af _ G h _ H (.int _) hr Kp.refl⟩
 ·obtain ⟨v,rfl,r⟩:=RB rs;cases r;exact ⟨_,_,rfl,⟨h.1,rfl⟩,af _ G h.2 _ H (.int _) hr Kp.refl⟩
 ·obtain ⟨v,rfl,r⟩:=RB rs;split at h
  ·rename_i ys e;cases r;obtain ⟨us,hs,r2⟩:=jk hr e;exact ⟨_,_,rfl,.inl ⟨_,hs,rfl⟩,by rw [← r2.length];exact af _ G h _ H (.int _) hr Kp.refl⟩
  ·exact h.elim
 ·exact h.elim
def qiH:List T->Gp->Q3->Prop:=λxs G q=>match xs with|[.int i]=>q (.int (if i<0 then -i else i)) G|_=>False
def qaF {K:Frg}:KY K qiH (λxs H Q=>∃ i,xs=[.int i]/\Q (.int (if i<0 then -i else i)) H):=λxs vs G H q Q hr rs h af=>by
 unfold qiH at h;split at h
 ·obtain ⟨v,rfl,r⟩:=RB rs;cases r;exact ⟨_,rfl,af _ G h _ H (.int _) hr Kp.refl⟩
 ·exact h.elim
def qgd:List T->Gp->Q3->Prop:=λxs G q=>match xs with|[.int i,.int j]=>q (.int (if j<i then j else i)) G|_=>False
def MB {K:Frg}:KY K qgd (λxs H Q=>∃ i j,xs=[.int i,.int j]/\Q (.int (if j<i then j else i)) H):=λxs vs G H q Q hr rs h af=>by
 unfold qgd at h;split at h
 ·obtain ⟨v,u,rfl,r,r'⟩:=qnA rs;cases r;cases r';exact ⟨_,_,rfl,af _ G h _ H (.int _) hr Kp.refl⟩
 ·exact h.elim
def qge:List T->Gp->Q3->Prop:=λxs G q=>match xs with|[.int i]=>q (.int i) G|[.bl k]=>q (.int (if k then 1 else 0)) G|_=>False
def SH {K:Frg}:KY K qge (λxs H Q=>(∃ i,xs=[.int i]/\Q (.int i) H)\/∃ k,xs=[.bl k]/\Q (.int (if k then 1 else 0)) H):=λxs vs G H q Q hr rs h af=>by
 unfold qge at h;split at h
 ·obtain ⟨v,rfl,r⟩:=RB rs;cases r;exact .inl ⟨_,rfl,af _ G h _ H (.int _) hr Kp.refl⟩
 ·obtain ⟨v,rfl,r⟩:=RB rs;cases r;exact .inr ⟨_,rfl,af _ G h _ H (.int _) hr Kp.refl⟩
 ·exact h.elim
def UX:List T->Gp->Q3->Prop:=λxs G q=>match xs with
 |[.tup ys]=>q (.tup ys) G
 |[.ref p]=>(match getL G p with|some ys=>q (.tup ys) G|none=>False)
 |_=>False
def DM {K:Frg}:KY K UX (λxs H Q=>∃ p ys,xs=[.ref p]/\((SqL K H p ys/\∀ l,H l=none->Q (.ref l) (upd H l (.tup ys)))\/(SqT K H p ys/\Q (.ref p) H))):=λxs vs G H q Q hr rs h af=>by
 unfold UX at h;split at h
 ·obtain ⟨v,rfl,r⟩:=RB rs;cases r with
  |tup hs r2=>exact ⟨_,_,rfl,.inr ⟨hs,af _ G h _ H (.tup hs r2) hr Kp.refl⟩⟩
 ·obtain ⟨v,rfl,r⟩:=RB rs;split at h
  ·rename_i ys e;cases r;obtain ⟨us,hs,r2⟩:=jk hr e;exact ⟨_,_,rfl,.inl ⟨hs,λl hl=>af _ G h _ _ (.tup (SqT.of qY) (r2.keep hr (Kp.laid hl))) (hr.laid hl) (Kp.laid hl)⟩⟩
  ·exact h.elim
 ·exact h.elim
def LO:List T->Gp->Q3->Prop:=λxs G q=>match xs with
 |[.tup ys]=>∀ p,G p=none->q (.ref p) (gu G p (.lst ys))
 |[.ref p]=>(match getL G p with|some ys=>∀ p,G p=none->q (.ref p) (gu G p (.lst ys))|none=>False)
 |_=>False
def T5 {K:Frg}:KY K LO (λxs H Q=>∃ p ys,xs=[.ref p]/\(SqL K H p ys\/SqT K H p ys)/\∀ l,H l=none->Q (.ref l) (upd H l (.lst ys))):=λxs vs G H q Q hr rs h af=>by
 unfold LO at h;split at h
 ·obtain ⟨v,rfl,r⟩:=RB rs;cases r with
  |tup hs r2=>exact ⟨_,_,rfl,.inr hs,λl hl=>af _ _ (h l (hr.free hl)) _ _ (.ref l) (hr.newL hl r2) (Kp.newL hl)⟩
 ·obtain ⟨v,rfl,r⟩:=RB rs;split at h
  ·rename_i ys e;cases r;obtain ⟨us,hs,r2⟩:=jk hr e;exact ⟨_,_,rfl,.inl hs,λl hl=>af _ _ (h l (hr.free hl)) _ _ (.ref l) (hr.newL hl r2) (Kp.newL hl)⟩
  ·exact h.elim
 ·exact h.elim
def qfM:T->List T->Gp->Q3->Prop:=λx xs G q=>match x,xs with
 |.ref l,[.ref b]=>(match G l,G b with|some (.lst ys),some (.lst zs)=>ys.length+zs.length<=sizeLine/\q .non (gu G l (.lst (ys++zs)))|_,_=>False)
 |_,_=>False
def qbc:T->List T->Gp->Q3->Prop:=λx xs G q=>match x,xs with
 |.ref l,[y]=>(match G l with|some (.lst ys)=>ys.length<sizeLine/\q .non (gu G l (.lst (ys++[y])))|_=>False)
 |_,_=>False
def qmE (K:Frg) (r3:T->List T->Gp->Q3->Prop) (r:V->List V->Hp->VK->Prop):Prop:=∀ x xs v vs G H q Q,HR K G H->Rp K H x v->Rps K H xs vs->r3 x xs G q->Aft K G H q Q->r v vs H Q
def qey {K:Frg}:qmE K qfM qaR:=λx xs v vs G H q Q hr rx rs h af=>by
 unfold qfM at h;split at h
 ·rename_i l b;split at h
  ·rename_i ys zs e1 e2;cases rx;obtain ⟨u,rfl,r⟩:=RB rs;cases r;obtain ⟨vs,g1,r1⟩:=hr.lst e1;obtain ⟨us,g2,r2⟩:=hr.lst e2;exact ⟨l,b,vs,us,rfl,rfl,g1,g2,by rw [← r1.length,← r2.length];exact h.1,af _ _ h.2 _ _ .non (hr.wr e1 (r1.append r2)) (Kp.wr e1)⟩
  ·exact h.elim
 ·exact h.elim
def qer {K:Frg}:qmE K qbc MN:=λx xs v vs G H q Q hr rx rs h af=>by
 unfold qbc at h;split at h
 ·rename_i l y;split at h
  ·rename_i ys e1;cases rx;obtain ⟨u,rfl,r⟩:=RB rs;obtain ⟨vs,g1,r1⟩:=hr.lst e1;exact ⟨l,vs,u,rfl,rfl,g1,by rw [← r1.length];exact h.1,af _ _ h.2 _ _ .non (hr.wr e1 (r1.append (.cons r .nil))) (Kp.wr e1)⟩
  ·exact h.elim
 ·exact h.elim
def bm3 (r:T->List T->Gp->Q3->Prop) (to:TE3) (t:TA3):TE3:=λτ G q=>to τ G λx G1=>(match x with|.ref p=>(getL G1 p).isSome=true|_=>False)/\t τ G1 λxs G2=>r x xs G2 q
def qnS {o:Expr} {to:TE3} {name:Str} {apos cpos:Pos} {id:String} {r3:T->List T->Gp->Q3->Prop} {r:V->List V->Hp->VK->Prop} (slot:Slot "list" name id) (hty:typeOf (.builtin id)=pure (.type "method_descriptor")) (hm:MtR X id r) (hr:qmE X.K r3 r) (ho:E3 X o to) (ha:A3 X (e::es) t)
  (hbase:attributeBase o name X.env (eval o X.env)=eval o X.env:=by rfl)
  (hfew:((backTo cpos (starEach (e::es) X.env)).all (λx=>!x.1)&&(backToKw cpos (keywordEach [] X.env)).all (λx=>x.1.isSome)
   && decide ((e::es).length+([]:List Keyword).length+(if ([]:List Keyword).isEmpty then 0 else 1)<30))=true:=by rfl)
  (hline:(apos.endLine==cpos.line)=true:=by rfl) (hs:starEach (e::es) X.env=(false,eval e X.env)::starEach es X.env:=by rfl) (hplain:(backTo cpos (starEach es X.env)).any (·.1)=false:=by rfl) :
  E3 X (.Call (.Attribute o name apos) (e::es) [] cpos) (bm3 r3 to t):=
 DO (qne PySem.F.plainAttrs_list slot hty hm ho ha hbase hfew hline hs hplain) λ_ _ _ ⟨τ,G,q,rl,h,af⟩=>zy rl h λx G1 h1 v H1 rx hr1 k1 rl1=>by
  obtain ⟨hp,h1⟩:=h1;cases x<;>try exact hp.elim
  case ref p=>
   cases rx;have hp':(getL G1 p).isSome=true:=hp;obtain ⟨ys,e⟩:=Option.isSome_iff_exists.mp hp';obtain ⟨us,hs,r2⟩:=jk hr1 e;exact ⟨.inl ⟨rfl,us,hs⟩,VM rl1 h1 λxs G2 h2 vs H2 rs hr2 k2 rl2=>hr _ xs _ vs G2 H2 q _ hr2 (.ref p) rs h2 (af.back (k1.trans k2))⟩
def qbt {o:Expr} {to:TE3} {apos cpos:Pos} (ho:E3 X o to) (ha:A3 X [e] t)
  (hbase:attributeBase o "append" X.env (eval o X.env)=eval o X.env:=by rfl)
  (hfew:((backTo cpos (starEach [e] X.env)).all (λx=>!x.1)&&(backToKw cpos (keywordEach [] X.env)).all (λx=>x.1.isSome)
   && decide (([e]:List Expr).length+([]:List Keyword).length+(if ([]:List Keyword).isEmpty then 0 else 1)<30))=true:=by rfl)
  (hline:(apos.endLine==cpos.line)=true:=by rfl) (hs:starEach [e] X.env=(false,eval e X.env)::starEach [] X.env:=by rfl) (hplain:(backTo cpos (starEach [] X.env)).any (·.1)=false:=by rfl) :
  E3 X (.Call (.Attribute o "append" apos) [e] [] cpos) (bm3 qbc to t):=qnS PySem.F.slot_list_append PySem.F.type_list_append EZ qer ho ha hbase hfew hline hs hplain
def qbW {o:Expr} {to:TE3} {apos cpos:Pos} (ho:E3 X o to) (ha:A3 X [e] t)
  (hbase:attributeBase o "extend" X.env (eval o X.env)=eval o X.env:=by rfl)
  (hfew:((backTo cpos (starEach [e] X.env)).all (λx=>!x.1)&&(backToKw cpos (keywordEach [] X.env)).all (λx=>x.1.isSome)
   && decide (([e]:List Expr).length+([]:List Keyword).length+(if ([]:List Keyword).isEmpty then 0 else 1)<30))=true:=by rfl)
  (hline:(apos.endLine==cpos.line)=true:=by rfl) (hs:starEach [e] X.env=(false,eval e X.env)::starEach [] X.env:=by rfl) (hplain:(backTo cpos (starEach [] X.env)).any (·.1)=false:=by rfl) :
  E3 X (.Call (.Attribute o "extend" apos) [e] [] cpos) (bm3 qfM to t):=qnS PySem.F.slot_list_extend PySem.F.type_list_extend NF qey ho ha hbase hfew hline hs hplain
end
def tyT (G:Gp):T->Option String
 |.non=>some "NoneType" |.bl _=>some "bool" |.int _=>some "int" |.str _=>some "str" |.tup _=>some "tuple"
 |.ref p=>if (getL G p).isSome then some "list" else none
def zL (t c:String):Bool:=t==c||(t == "bool" && c == "int")
def X6 (K:Frg):∀ t∈["NoneType","bool","int","str","tuple","list"],∀ c∈["bool","int","str","tuple","list"],PySem.W.kitOne K (.type t) (.type c)=some (zL t c):=by
 intro t ht c hc;simp only [mem_cons,not_mem_nil,or_false] at ht hc;rcases ht with rfl|rfl|rfl|rfl|rfl|rfl<;>rcases hc with rfl|rfl|rfl|rfl|rfl<;>kernel_rfl
section
variable {X:Cx} {a b c e:Expr} {es:List Expr} {ta tb tc te:TE3} {t:TA3} {pos:Pos}
def TyS (K:Frg) (H:Hp) (x:V) (t:String):Prop:=match x with
 |.non=>t="NoneType" |.bl _=>t="bool" |.int _=>t="int" |.str _=>t="str"
 |.ref a=>(t="tuple"/\∃ vs,SqT K H a vs)\/(t="list"/\∃ vs,SqL K H a vs)
 |_=>False
def TyS.mem {K:Frg} {H:Hp} {x:V} {t:String} (h:TyS K H x t):t∈["NoneType","bool","int","str","tuple","list"]:=by
 cases x<;>simp [TyS] at h<;>first|(subst h;decide)|(rcases h with ⟨rfl,_⟩|⟨rfl,_⟩<;>decide)
def TyS.kitx {pins:List (Addr×Obj)} {σ:L2.St} {H:Hp} {s:Shared} {x:V} {u:Value} {t:String} (I:Inv X pins σ H s) (rx:jI x u) (h:TyS X.K H x t) :
  ∃ HH:Heap->Prop,PySem.W.KitX X.K u (.type t) HH/\HH s.heap/\u≠.builtin "__main__.__loader__#opaque" := by
 cases x with
 |non=>cases (show u=Value.none from rx);cases (show t=_ from h);exact ⟨_,PySem.W.kitx_none,True.intro,λz=>nomatch z⟩
 |bl y=>cases (show u=Value.bool y from rx);cases (show t=_ from h);exact ⟨_,PySem.W.kitx_bool,True.intro,λz=>nomatch z⟩
 |int i=>obtain ⟨tk,q⟩:=(show ∃ t,u=Value.int i t from rx);cases q;cases (show t=_ from h);exact ⟨_,PySem.W.kitx_int,True.intro,λz=>nomatch z⟩
 |str y=>obtain ⟨tk,q⟩:=(show ∃ t,u=Value.str y t from rx);cases q;cases (show t=_ from h);exact ⟨_,PySem.W.kitx_str,True.intro,λz=>nomatch z⟩
 |ref a=>
  cases (show u=Value.ref a from rx);rcases (show (t="tuple"/\∃ vs,SqT X.K H a vs)\/(t="list"/\∃ vs,SqL X.K H a vs) from h) with ⟨rfl,vs,hs⟩|⟨rfl,vs,hs⟩
  ·obtain ⟨its,_,p,_⟩:=I.tuple hs;obtain ⟨o,h1,h2,_⟩:=p;exact ⟨_,PySem.W.kitx_tuple,⟨o,h1,h2⟩,λz=>nomatch z⟩
  ·obtain ⟨its,_,p,_⟩:=I.list hs;obtain ⟨o,n,h1,h2,_⟩:=p;exact ⟨_,PySem.W.kitx_list,⟨o,h1,h2⟩,λz=>nomatch z⟩
 |_=>exact False.elim h
abbrev j8:List String:=["bool","int","str","tuple","list"]
def qbK:JD X (.builtin "isinstance") (λxs H Q=>∃ x t c,xs=[x,.ty c]/\TyS X.K H x t/\c∈j8/\Q (.bl (zL t c)) H):=by
 intro pins s σ H xs us Q I r h;obtain ⟨x,t,c,rfl,ht,hc,q⟩:=h;obtain ⟨u,w,rfl,rx,rc⟩:=qcr r;cases (show w=Value.type c from rc);obtain ⟨HH,kx,hh,ne⟩:=ht.kitx I rx;exact PySem.W.kia_one kx I.kIn hh (X6 X.K t ht.mem c hc) ne λtk=>⟨.bl _,H,I.tok tk,rfl,q⟩
def qb3 (K:Frg) {t c d:String} (ht:t∈["NoneType","bool","int","str","tuple","list"]) (hc:c∈j8) (hd:d∈j8):PySem.W.kitAny K (.type t) [.type c,.type d]=some (zL t c||zL t d):=by
 unfold PySem.W.kitAny;rw [X6 K t ht c hc];cases zL t c with
 |true=>rfl
 |false=>
  show PySem.W.kitAny K (.type t) [.type d]=_;unfold PySem.W.kitAny;rw [X6 K t ht d hd];cases zL t d<;>rfl
def qaj:JD X (.builtin "isinstance") (λxs H Q=>∃ x t c d p,xs=[x,.ref p]/\H p=some (.tup [.ty c,.ty d])/\TyS X.K H x t/\c∈j8/\d∈j8/\Q (.bl (zL t c||zL t d)) H):=by
 intro pins s σ H xs us Q I r h;obtain ⟨x,t,c,d,p,rfl,hp,ht,hc,hd,q⟩:=h;obtain ⟨u,w,rfl,rx,rc⟩:=qcr r;cases (show w=Value.ref p from rc);obtain ⟨HH,kx,hh,ne⟩:=ht.kitx I rx;obtain ⟨_,its,rv,⟨o,ho,hcl,n,hda⟩⟩:=(show YZ X.prog X.w H s.heap p (.tup [.ty c,.ty d]) from I.hok p _ hp)
 obtain ⟨u1,u2,rfl,r1,r2⟩:=qcr rv;cases (show u1=Value.type c from r1);cases (show u2=Value.type d from r2);obtain ⟨cl,dd,da,sl⟩:=o;cases (show cl=_ from hcl);cases (show da=_ from hda);exact PySem.W.kia_tup kx I.kIn hh ho (qb3 X.K ht.mem hc hd) ne λtk=>⟨.bl _,H,I.tok tk,rfl,q⟩
def qdX {K:Frg} {G:Gp} {H:Hp} (hr:HR K G H) {x:T} {v:V} {t:String} (r:Rp K H x v) (h:tyT G x=some t):TyS K H v t:=by
 cases r with
 |non=>cases h;rfl
 |bl _=>cases h;rfl
 |int _=>cases h;rfl
 |str _=>cases h;rfl
 |tup hs rs=>cases h;exact .inl ⟨rfl,_,hs⟩
 |ref a=>
  have h:(if (getL G a).isSome then some "list" else none)=some t:=h;split at h
  ·rename_i e;cases h;obtain ⟨ys,e⟩:=Option.isSome_iff_exists.mp e;obtain ⟨us,hs,_⟩:=jk hr e;exact .inr ⟨rfl,us,hs⟩
  ·cases h
def C8 (f:String->Bool) (te:TE3):TE3:=λτ G q=>te τ G λx G1=>match tyT G1 x with|some t=>q (.bl (f t)) G1|none=>False
def qni {tn:Str} {ty:String} {p p2:Pos} (he:E3 X e te) (hg:Gl X "isinstance") (hm:X.mg "isinstance" = none) (hg2:Gl X tn) (hm2:X.mg tn=none) (hv:bootBuiltins tn=some (.type ty)) (hmem:ty∈j8:=by decide) (hn:tn≠"__name__" := by decide) (hdb:(tn==("__debug__" : Str))=false:=by decide)
  (hs:starEach [e,.Name tn p2] X.env=(false,eval e X.env)::starEach [.Name tn p2] X.env:=by rfl) (hs2:starEach [.Name tn p2] X.env=(false,eval (.Name tn p2) X.env)::starEach [] X.env:=by rfl) (hpl:(backTo pos (starEach [.Name tn p2] X.env)).any (·.1)=false:=by rfl) :
  E3 X (.Call (.Name "isinstance" p) [e,.Name tn p2] [] pos) (C8 (λt=>zL t ty) te):=
 DO (CC qbK hg hm PyProof.Rows.boot_isinstance (YS he (YS (S9 (v:=.ty ty) hg2 hm2 hv rfl hn hdb) KD hs2) hs) (by decide) (by decide) hs hpl)
  λ_ _ _ ⟨τ,G,q,rl,h,af⟩=>zy rl h λx G1 h1 v H1 rx hr1 k1 rl1=>by
   split at h1
   ·rename_i t e1;exact ⟨_,t,ty,rfl,qdX hr1 rx e1,hmem,af _ G1 h1 _ H1 (.bl _) hr1 k1⟩
   ·exact h1.elim
def qic {tn tn':Str} {ty ty':String} {p p2 p3 p4:Pos} {x1} (he:E3 X e te) (hg:Gl X "isinstance") (hm:X.mg "isinstance" = none) (hg2:Gl X tn) (hm2:X.mg tn=none) (hv:bootBuiltins tn=some (.type ty)) (hg3:Gl X tn') (hm3:X.mg tn'=none) (hv3:bootBuiltins tn'=some (.type ty'))
  (hmem:ty∈j8:=by decide) (hn:tn≠"__name__" := by decide) (hdb:(tn==("__debug__" : Str))=false:=by decide) (hmem3:ty'∈j8:=by decide) (hn3:tn'≠"__name__" := by decide) (hdb3:(tn'==("__debug__" : Str))=false:=by decide)
  (hs:starEach [e,.Tuple [.Name tn p2,.Name tn' p3] x1 p4] X.env=(false,eval e X.env)::starEach [.Tuple [.Name tn p2,.Name tn' p3] x1 p4] X.env:=by rfl) (hs2:starEach [.Tuple [.Name tn p2,.Name tn' p3] x1 p4] X.env=(false,eval (.Tuple [.Name tn p2,.Name tn' p3] x1 p4) X.env)::starEach [] X.env:=by rfl)
  (hs3:starEach [.Name tn p2,.Name tn' p3] X.env=(false,eval (.Name tn p2) X.env)::starEach [.Name tn' p3] X.env:=by rfl) (hs4:starEach [.Name tn' p3] X.env=(false,eval (.Name tn' p3) X.env)::starEach [] X.env:=by rfl)
  (hpl:(backTo pos (starEach [.Tuple [.Name tn p2,.Name tn' p3] x1 p4] X.env)).any (·.1)=false:=by rfl) :
  E3 X (.Call (.Name "isinstance" p) [e,.Tuple [.Name tn p2,.Name tn' p3] x1 p4] [] pos) (C8 (λt=>zL t ty||zL t ty') te):=
 DO (CC qaj hg hm PyProof.Rows.boot_isinstance (YS he (YS (qdV (YS (S9 (v:=.ty ty) hg2 hm2 hv rfl hn hdb) (YS (S9 (v:=.ty ty') hg3 hm3 hv3 rfl hn3 hdb3) KD hs4) hs3)) KD hs2) hs) (by decide) (by decide) hs hpl)
  λ_ _ _ ⟨τ,G,q,rl,h,af⟩=>zy rl h λx G1 h1 v H1 rx hr1 k1 rl1=>by
   refine ⟨by show 2<=sizeLine;decide,λpp hp=>?_⟩;split at h1
   ·rename_i t e1;have hr2:=hr1.laid (ho:=.tup [.ty ty,.ty ty']) hp;have kk:Kp G1 H1 G1 (upd H1 pp (.tup [.ty ty,.ty ty'])):=Kp.laid hp;exact ⟨_,t,ty,ty',pp,rfl,qY,qdX hr2 (rx.keep hr1 kk) e1,hmem,hmem3,af _ G1 h1 _ _ (.bl _) hr2 (k1.trans kk)⟩
   ·exact h1.elim
structure Ends3 where
 nx:St3->Gp->Prop
 rt:Q3
 bk:St3->Gp->Prop:=λ_ _=>False
 ct:St3->Gp->Prop:=λ_ _=>False
abbrev TS3:=Ends3->St3->Gp->Prop
def qd0 (K:Frg) (G:Gp) (H:Hp) (q:St3->Gp->Prop) (Q:L2.St->Hp->Prop):Prop:=∀ τ G',q τ G'->∀ σ H',Rel K τ G' σ H'->Kp G H G' H'->Q σ H'
structure AftD (K:Frg) (G:Gp) (H:Hp) (d:Ends3) (D:Ends):Prop where
 nx:qd0 K G H d.nx D.nx
 rt:Aft K G H d.rt D.rt
 bk:qd0 K G H d.bk D.bk
 ct:qd0 K G H d.ct D.ct
def qd0.back {K:Frg} {G G1:Gp} {H H1:Hp} {q:St3->Gp->Prop} {Q:L2.St->Hp->Prop} (a:qd0 K G H q Q) (k:Kp G H G1 H1):qd0 K G1 H1 q Q:=λx G' h v H' r k'=>a x G' h v H' r (k.trans k')
def AftD.back {K:Frg} {G G1:Gp} {H H1:Hp} {d:Ends3} {D:Ends} (a:AftD K G H d D) (k:Kp G H G1 H1):AftD K G1 H1 d D:=⟨a.nx.back k,a.rt.back k,a.bk.back k,a.ct.back k⟩
def lS (K:Frg) (t:TS3):TS:=λD σ H=>∃ τ G d,Rel K τ G σ H/\t d τ G/\AftD K G H d D
abbrev S3 (X:Cx) (st:Stmt) (t:TS3):Prop:=PS X st (lS X.K t)
abbrev B3 (X:Cx) (st:List Stmt) (t:TS3):Prop:=PSs X st (lS X.K t)
def qbh {X:Cx} {st:Stmt} {t t':TS} (h:PS X st t) (w:∀ D σ H,t' D σ H->t D σ H):PS X st t':=λpins s σ H D I q=>h pins s σ H D I (w D σ H q)
def qj0 {X:Cx} {st:List Stmt} {t t':TS} (h:PSs X st t) (w:∀ D σ H,t' D σ H->t D σ H):PSs X st t':=λpins s σ H D I q=>h pins s σ H D I (w D σ H q)
variable {st:Stmt} {jZ:List Stmt} {t1 t2:TS3} {tA:TT3}
def zR:TS3:=λd τ G=>d.nx τ G
def qQ (t u:TS3):TS3:=λd τ G=>t { d with nx:=u d } τ G
def qmT:B3 X [] zR:=qj0 qel λ_ σ H ⟨τ,G,d,rl,h,af⟩=>af.nx τ G h σ H rl Kp.refl
def qhC (h1:S3 X st t1) (h2:B3 X jZ t2):B3 X (st::jZ) (qQ t1 t2):=qj0 (qbS h1 h2) λD σ H ⟨τ,G,d,rl,h,af⟩=>
 ⟨τ,G,{ d with nx:=t2 d },rl,h,⟨λτ' G' h' σ' H' rl' k'=>⟨τ',G',d,rl',h',af.back k'⟩,af.rt,af.bk,af.ct⟩⟩
def qmI (h1:S3 X st t1):B3 X [st] t1:=qfJ h1
def DI (te:TE3):TS3:=λd τ G=>te τ G λ_ G1=>d.nx τ G1
def qkj (he:E3 X e te) (hs:swapsWith e none pos.line X.env=pure false:=by rfl):S3 X (.Expr e pos) (DI te):=qbh (qeu he hs) λ_ σ H ⟨τ,G,d,rl,h,af⟩=>
 zy rl h λx G1 h1 v H1 rx hr1 k1 rl1=>af.nx τ G1 h1 σ H1 rl1 k1
def zX (te:TE3):TS3:=λd τ G=>te τ G d.rt
def qm1 (he:E3 X e te):S3 X (.Return (some e) pos) (zX te):=qbh (qhz he) λ_ σ H ⟨τ,G,d,rl,h,af⟩=>⟨τ,G,d.rt,rl,h,af.rt⟩
def YF (c:TT3) (t u:TS3):TS3:=λd τ G=>c τ G λk G1=>if k=true then t d τ G1 else u d τ G1
def qol {c:Expr} {ba bb:List Stmt} (hc:C3 X c tA) (ha:B3 X ba t1) (hb:B3 X bb t2):S3 X (.If c ba bb pos) (YF tA t1 t2):=qbh (qmC hc ha hb) λ_ σ H ⟨τ,G,d,rl,h,af⟩=>
 WO rl h λk G1 h1 H1 hr1 k1 rl1=>by
  cases k with
  |true=>rw [if_pos rfl] at h1 ⊢;exact ⟨τ,G1,d,rl1,h1,af.back k1⟩
  |false=>rw [if_neg Bool.false_ne_true] at h1 ⊢;exact ⟨τ,G1,d,rl1,h1,af.back k1⟩
abbrev TG3:=T->St3->Gp->(St3->Gp->Prop)->Prop
abbrev RZ:=List T->St3->Gp->(St3->Gp->Prop)->Prop
def lG (K:Frg) (t:TG3):TG:=λv σ H Q=>∃ x τ G q,Rp K H x v/\Rel K τ G σ H/\t x τ G q/\qd0 K G H q Q
def lGs (K:Frg) (t:RZ):TGs:=λv σ H Q=>∃ x τ G q,Rps K H x v/\Rel K τ G σ H/\t x τ G q/\qd0 K G H q Q
abbrev G3 (X:Cx) (e:Expr) (t:TG3):Prop:=PG X e (lG X.K t)
abbrev Gs3 (X:Cx) (es:List Expr) (t:RZ):Prop:=PGs X es (lGs X.K t)
def qmF {X:Cx} {e:Expr} {t t':TG} (h:PG X e t) (w:∀ v σ H Q,t' v σ H Q->t v σ H Q):PG X e t':=λpins s σ H v u Q I r q=>h pins s σ H v u Q I r (w v σ H Q q)
def qkk {X:Cx} {e:List Expr} {t t':TGs} (h:PGs X e t) (w:∀ v σ H Q,t' v σ H Q->t v σ H Q):PGs X e t':=λpins s σ H v u Q I r q=>h pins s σ H v u Q I r (w v σ H Q q)
def gn3 (i:Nat):TG3:=λx τ G q=>q (τ.set i (some x)) G
def qhU {i:Nat} {x:Str} (hN:X.N.Nodup) (hi:X.N[i]?=some x:=by rfl) (hx:Loc X.env.scope x:=by first|exact Or.inl rfl|exact Or.inr rfl) (hf:X.fn x=true\/X.env.scope.names.lookup x=some .local:=by first|exact .inl rfl|exact .inr rfl):G3 X (.Name x pos) (gn3 i):=
 qmF (qgh hN hi hx hf) λv σ H Q ⟨x,τ,G,q,rx,rl,h,af⟩=>af _ G h _ H (rl.set i rx) Kp.refl
def UR:RZ:=λxs τ G q=>match xs with|[]=>q τ G|_=>False
def zJ (t:TG3) (u:RZ):RZ:=λxs τ G q=>match xs with|x::r=>t x τ G λτ' G'=>u r τ' G' q|[]=>False
def qms:Gs3 X [] UR:=qkk qgn λv σ H Q ⟨x,τ,G,q,rx,rl,h,af⟩=>by
 cases rx with
 |nil=>exact ⟨rfl,af _ G h _ H rl Kp.refl⟩
 |cons _ _=>exact h.elim
def qg0 {tg:TG3} {tgs:RZ} (h1:G3 X e tg) (h2:Gs3 X es tgs) (hs:(assignEach (e::es) X.env).map (·.2)=assign e X.env::(assignEach es X.env).map (·.2):=by rfl):Gs3 X (e::es) (zJ tg tgs):=qkk (qbB h1 h2 hs) λv σ H Q ⟨x,τ,G,q,rx,rl,h,af⟩=>by
 cases rx with
 |nil=>exact h.elim
 |cons r rs=>exact ⟨_,_,rfl,_,τ,G,_,r,rl,h,λτ' G' h' σ' H' rl' k'=>⟨_,τ',G',q,rs.keep rl.hp k',rl',h',af.back k'⟩⟩
def V3 (n:Nat) (t:RZ):TG3:=λx τ G q=>match x with|.tup xs=>xs.length=n/\t xs τ G q|_=>False
def qmN {k:Nat} {tgs:RZ} {n:Nat} (hc:X.calm=true) (h:Gs3 X es tgs) (hn:(assignEach es X.env).length=n:=by rfl) (hst:(assignEach es X.env).findIdx? (·.1)=none:=by rfl):G3 X (.Tuple es k pos) (V3 n tgs):=
 qmF (qh2 hc h hn hst) λv σ H Q ⟨x,τ,G,q,rx,rl,h,af⟩=>by
  cases x<;>try exact h.elim
  case tup xs=>
   cases rx with
   |tup hs rs=>exact ⟨_,_,rfl,hs,by rw [← rs.length];exact h.1,_,τ,G,q,rs,rl,h.2,af⟩
def qc2:T->T->T->Gp->(Gp->Prop)->Prop:=λo i v G q=>match o,i with
 |.ref p,.int k=>(match G p with|some (.lst xs)=>(match ixN xs.length k with|some j=>q (gu G p (.lst (xs.set j v)))|none=>False)|_=>False)
 |_,_=>False
def UQ (to ti:TE3):TG3:=λx τ G q=>to τ G λo G1=>ti τ G1 λi G2=>qc2 o i x G2 λG3=>q τ G3
def qmt {o i : Expr} {to ti : TE3} (ho : E3 X o to) (hi : E3 X i ti) (ha : ∀ v,assign (.Subscript o i pos) X.env v = (do
      let ov←holding [v] (eval o X.env)
      let iv←holding [v,ov] (eval i X.env)
      standAt pos
      holding [v,ov,iv] (setItem ov iv v)
      release [v,ov,iv] []):=by intro _;rfl):G3 X (.Subscript o i pos) (UQ to ti):=
  qmF (qgJ ho hi qbV ha) λv σ H Q ⟨x,τ,G,q,rx,rl,h,af⟩=>zy rl h λy G1 h1 u H1 ry hr1 k1 rl1=>zy rl1 h1 λz G2 h2 w H2 rz hr2 k2 rl2=>by
    have rx2:=(rx.keep rl.hp k1).keep hr1 k2;have ry2:=ry.keep hr1 k2;unfold qc2 at h2;split at h2
    · rename_i p k;split at h2
      · rename_i xs e;split at h2
        · rename_i j ej;cases ry2;cases rz;obtain ⟨vs,g1,r1⟩:=hr2.lst e;have kk:Kp G2 H2 (gu G2 p (.lst (xs.set j x))) (upd H2 p (.lst (vs.set j v))):=Kp.wr e;exact ⟨p,vs,k,j,rfl,rfl,g1,by rw [← r1.length];exact ej,af τ _ h2 σ _ (rl2.next (hr2.wr e (r1.set rx2 j)) kk) ((k1.trans k2).trans kk)⟩
        · exact h2.elim
      · exact h2.elim
    · exact h2.elim
def qX (te:TE3) (g:TG3):TS3:=λd τ G=>te τ G λx G1=>g x τ G1 d.nx
def qmu {tg e:Expr} {g:TG3} (he:E3 X e te) (hg:G3 X tg g) (hs:swapsWithSole [tg] e pos.line X.env=pure false:=by rfl) (hw:swappedStores [tg] e X.env=pure none:=by rfl)
  (h1:(assignEach [tg] X.env).map (·.2)=[assign tg X.env]:=by rfl):S3 X (.Assign [tg] e pos) (qX te g):=qbh (qk0 he hg hs hw h1) λ_ σ H ⟨τ,G,d,rl,h,af⟩=>
 zy rl h λx G1 h1 v H1 rx hr1 k1 rl1=>⟨x,τ,G1,d.nx,rx,rl1,h1,af.nx.back k1⟩
def qlQ (i:Nat) {x:Str} {e:Expr} {pos':Pos} (hN:X.N.Nodup) (he:E3 X e te) (hi:X.N[i]?=some x:=by rfl) (hx:Loc X.env.scope x:=by first|exact Or.inl rfl|exact Or.inr rfl) (hs:swapsWith e (some (.Name x pos')) pos.line X.env=pure false:=by rfl) (hf:X.fn x=true\/X.env.scope.names.lookup x=some .local:=by first|exact .inl rfl|exact .inr rfl) :
  S3 X (.Assign [.Name x pos'] e pos) (qX te (gn3 i)):=qbh (qg6 hN hi hx he hs hf) λ_ σ H ⟨τ,G,d,rl,h,af⟩=>
 zy rl h λx G1 h1 v H1 rx hr1 k1 rl1=>af.nx _ G1 h1 _ H1 (rl1.set i rx) k1
def qcc (i j:Nat) (ta:TA3):TS3:=λd τ G=>ta τ G λxs G1=>match xs with|[x,y]=>d.nx ((τ.set i (some x)).set j (some y)) G1|_=>False
def qmL {i j:Nat} {x y:Str} {a b:Expr} {tt:TA3} {px py pt:Pos} {kt k2 pt2} (hc:X.calm=true) (hN:X.N.Nodup) (hi:X.N[i]?=some x) (hj:X.N[j]?=some y) (hij:i≠j)
  (hx:X.env.scope.names.lookup x=some .local) (hy:X.env.scope.names.lookup y=some .local) (ha:A3 X [a,b] tt)
  (hw:swappedStores [.Tuple [.Name x px,.Name y py] kt pt] (.Tuple [a,b] k2 pt2) X.env=pure (some [x,y]):=by rfl)
  (hs:swapsWithSole [.Tuple [.Name x px,.Name y py] kt pt] (.Tuple [a,b] k2 pt2) pos.line X.env=pure false:=by rfl) :
  S3 X (.Assign [.Tuple [.Name x px,.Name y py] kt pt] (.Tuple [a,b] k2 pt2) pos) (qcc i j tt):=qbh (qjJ hc hN hi hj hij hx hy ha hw hs) λ_ σ H ⟨τ,G,d,rl,h,af⟩=>
 VM rl h λxs G1 h1 vs H1 rs hr1 k1 rl1=>by
  split at h1
  ·obtain ⟨v,u,rfl,r,r'⟩:=qnA rs;exact ⟨v,u,rfl,af.nx _ G1 h1 _ H1 ((rl1.set i r).set j r') k1⟩
  ·exact h1.elim
end
abbrev TI3:=St3->Gp->(List T->(Gp->Prop)->Gp->Prop)->Prop
def qjm (K:Frg) (J:It) (items:List T) (stay:Gp->Prop) (G0:Gp) (H0:Hp):Prop:=∀ G H,HR K G H->Kp G0 H0 G H->stay G ->
 (∀ i x,items[i]?=some x->J.go i H)/\(∀ i x v H',items[i]?=some x->J.yld i H v H'->Rp K H' x v/\HR K G H'/\Kp G H G H')/\J.stop items.length H
def lI (K:Frg) (wi:TI3):TI:=λσ H R=>∃ τ G r,Rel K τ G σ H/\wi τ G r/\∀ items stay G',r items stay G'->∀ J H',HR K G' H'->Kp G H G' H'->qjm K J items stay G' H'->R J H'
abbrev I3 (X:Cx) (tg iter:Expr) (wi:TI3):Prop:=PI X tg iter (lI X.K wi)
def qmm {X:Cx} {tg e:Expr} {t t':TI} (h:PI X tg e t) (w:∀ σ H R,t' σ H R->t σ H R):PI X tg e t':=λpins s σ H R I q=>h pins s σ H R I (w σ H R q)
section
variable {X:Cx} {a b c e l tg:Expr} {es:List Expr} {ta tb tc te:TE3} {t:TA3} {pos:Pos}
def qjO {tl:TE} (hl:PE X l tl):PI X tg l (λσ H R=>tl σ H λx H1=>∃ a,x=.ref a/\(((∃ xs,SqL X.K H1 a xs)/\R (Itl X.K a) H1)\/((∃ xs,SqT X.K H1 a xs)/\R (Itt X.K a) H1))):=by
 intro pins s σ H R I h;refine thn (hl pins s σ H _ I h) λv s1 ⟨x,H1,I1,r1,q1⟩=>?_;obtain ⟨a,e,⟨⟨xs,hq⟩,q⟩|⟨⟨xs,hq⟩,q⟩⟩:=q1
 ·subst e;cases r1;obtain ⟨its,rv,p,hz⟩:=I1.list hq;refine wpAny_pyIter_list p.isList ?_;refine ⟨s1.heap.objs.size,[s1.heap.objs.size],_,_,H1,rfl,I1.kept (t':=s1.toks) λb o e=>Heap.get?_push_of_some _ e,qat a _,⟨_,Heap.get?_push_size _ rfl,rfl,rfl⟩,λb hb=>?_,q⟩;have e:b=s1.heap.objs.size:=by simpa using hb
  subst e;exact I1.fpOk (Nat.le_refl _) (I1.hok.fresh (Nat.le_refl _))
 ·subst e;cases r1;obtain ⟨its,rv,p,hz⟩:=I1.tuple hq;refine wpAny_pyIter_tuple (show s1.heap.IsTuple a its.toArray from p) ?_;refine ⟨s1.heap.objs.size,[s1.heap.objs.size],_,_,H1,rfl,I1.kept (t':=s1.toks) λb o e=>Heap.get?_push_of_some _ e,LH a _,⟨_,Heap.get?_push_size _ rfl,rfl,rfl⟩,λb hb=>?_,q⟩;have e:b=s1.heap.objs.size:=by simpa using hb
  subst e;exact I1.fpOk (Nat.le_refl _) (I1.hok.fresh (Nat.le_refl _))
def JC (tl:TE3):TI3:=λτ G r=>tl τ G λx G1=>match x with
 |.tup xs=>r xs (λ_=>True) G1
 |.ref p=>(match getL G1 p with|some xs=>r xs (λG=>getL G p=some xs) G1|none=>False)
 |_=>False
def qiC {K:Frg} {p:Addr} {xs:List T} {G0:Gp} {H0:Hp}:qjm K (Itl K p) xs (λG=>getL G p=some xs) G0 H0:=by
 intro G H hr _ hs;obtain ⟨vs,sq,rs⟩:=jk hr hs;refine ⟨λi x hi=>?_,λi x v H' hi y=>?_,⟨vs,sq,by rw [rs.length];exact Nat.le_refl _⟩⟩
 ·obtain ⟨v,hv,_⟩:=rs.get hi;exact ⟨vs,v,sq,hv⟩
 ·obtain ⟨e,y⟩:=y;subst e;obtain ⟨w,hw,rw'⟩:=rs.get hi;have e2:=(y vs sq).symm.trans hw;cases e2;exact ⟨rw',hr,Kp.refl⟩
def qjz {K:Frg} {p:Addr} {xs:List T} {vs:List V} {G0:Gp} {H0:Hp} (hr0:HR K G0 H0) (sq0:SqT K H0 p vs) (rs0:Rps K H0 xs vs):qjm K (Itt K p) xs (λ_=>True) G0 H0:=by
 intro G H hr k _;have sq:=XY hr0 k sq0;have rs:=rs0.keep hr0 k;refine ⟨λi x hi=>?_,λi x v H' hi y=>?_,⟨vs,sq,by rw [rs.length];exact Nat.le_refl _⟩⟩
 ·obtain ⟨v,hv,_⟩:=rs.get hi;exact ⟨vs,v,sq,hv⟩
 ·obtain ⟨e,y⟩:=y;subst e;obtain ⟨w,hw,rw'⟩:=rs.get hi;have e2:=(y vs sq).symm.trans hw;cases e2;exact ⟨rw',hr,Kp.refl⟩
def qlA (hl:E3 X l te):I3 X tg l (JC te):=qmm (qjO hl) λσ H R ⟨τ,G,r,rl,h,af⟩=>zy rl h λx G1 h1 v H1 rx hr1 k1 rl1=>by
 cases x<;>try exact h1.elim
 case tup xs=>
  cases rx with
  |tup hs rs=>exact ⟨_,rfl,.inr ⟨⟨_,hs⟩,af _ _ G1 h1 _ H1 hr1 k1 (qjz hr1 hs rs)⟩⟩
 case ref p=>
  simp only at h1;split at h1
  ·rename_i xs e0;cases rx;obtain ⟨vs,hs,rs⟩:=jk hr1 e0;exact ⟨_,rfl,.inl ⟨⟨_,hs⟩,af _ _ G1 h1 _ H1 hr1 k1 qiC⟩⟩
  ·exact h1.elim
def LY (lo:Int) (n:Nat):List T:=(List.range n).map λ(i:Nat)=>T.int (lo+(i:Int))
def qk6 {K:Frg} {lo:Int} {n:Nat} {G0:Gp} {H0:Hp}:qjm K (Itr lo n) (LY lo n) (λ_=>True) G0 H0:=by
 intro G H hr k _;have hl:(LY lo n).length=n:=by simp [LY]
 refine ⟨λi x hi=>?_,λi x v H' hi y=>?_,(show n<=(LY lo n).length by rw [hl];exact Nat.le_refl n)⟩
 ·have:=(List.getElem?_eq_some_iff.mp hi).1;rw [hl] at this;exact this
 ·obtain ⟨e,y⟩:=y;subst e;subst y;have h1:=(List.getElem?_eq_some_iff.mp hi).1;rw [hl] at h1;unfold LY at hi;rw [getElem?_map,List.getElem?_range h1] at hi;have e:T.int (lo+(i:Int))=x:=by simpa using hi
  subst e;exact ⟨.int _,hr,Kp.refl⟩
def Y8 (ta:TA3):TI3:=λτ G r=>ta τ G λxs G1=>match xs with
 |[.int j]=>(-(2 ^ 62)<=j/\j<2 ^ 62)/\r (LY 0 j.toNat) (λ_=>True) G1
 |[.int i,.int j]=>(-(2 ^ 62)<=i/\i<2 ^ 62/\-(2 ^ 62)<=j/\j<2 ^ 62)/\r (LY i (j-i).toNat) (λ_=>True) G1
 |_=>False
def qbG {p:Pos} (hg:Gl X "range") (hm:X.mg "range" = none) (ha:A3 X [a] t) (hs:starEach [a] X.env=[(false,eval a X.env)]:=by rfl) (h1:∀ τ G q,t τ G q->t τ G λxs G=>q xs G/\xs.length=1):I3 X tg (.Call (.Name "range" p) [a] [] pos) (Y8 t):=
 qmm (M4 hg hm ha hs) λσ H R ⟨τ,G,r,rl,h,af⟩=>VM rl (h1 _ _ _ h) λxs G1 h1 vs H1 rs hr1 k1 rl1=>by
  obtain ⟨h1,hl⟩:=h1;simp only at h1;split at h1
  ·obtain ⟨v,rfl,r1⟩:=RB rs;cases r1;exact ⟨_,rfl,h1.1.1,h1.1.2,af _ _ G1 h1.2 _ H1 hr1 k1 qk6⟩
  ·simp at hl
  ·exact h1.elim
def DW (stay:Gp->Prop) (g:TG3) (tb:TS3) (d:Ends3):List T->St3->Gp->Prop
 |[],τ,G=>stay G/\d.nx τ G
 |x::r,τ,G=>stay G/\g x τ G λτ2 G2=>tb { d with nx:=DW stay g tb d r,ct:=DW stay g tb d r,bk:=d.nx } τ2 G2
def ER (wi:TI3) (g:TG3) (tb:TS3):TS3:=λd τ G=>wi τ G λitems stay G1=>DW stay g tb d items τ G1
def qmW {iter:Expr} {body:List Stmt} {wi:TI3} {g:TG3} {tb:TS3} (hp:PassesOwn (model X.prog X.w) X.A X.env X.xe) (hc:X.calm=true) (hi:I3 X tg iter wi) (hg:G3 X tg g) (hb:B3 X body tb)
  (hs:∀ x,foldedSetIterable iter X.env x=pure x:=by intro _;rfl):S3 X (.For tg iter body [] pos) (ER wi g tb):=
 qbh (qgN hp hc hi hg hb hs) λD σ H ⟨τ,G,d,rl,h,af⟩=>by
  refine ⟨τ,G,_,rl,h,λitems stay G1 h1 J H1 hr1 k1 ok=>?_⟩;refine ⟨λi m σ' H'=>m=items.length-i/\i<=items.length/\∃ τ' G',Rel X.K τ' G' σ' H'/\Kp G1 H1 G' H'/\DW stay g tb d (items.drop i) τ' G',⟨_,rfl,Nat.zero_le _,τ,G1,rl.next hr1 k1,Kp.refl,by simpa using h1⟩,?_⟩;rintro i m σ' H' ⟨rfl,hi,τ',G',rl',k',h'⟩;by_cases hlt:i<items.length
  ·rw [List.drop_eq_getElem_cons hlt] at h';obtain ⟨hst,h'⟩:=h';obtain ⟨go,yld,_⟩:=ok G' H' rl'.hp k' hst;have hx:items[i]?=some items[i]:=getElem?_eq_getElem hlt;refine .inr ⟨go i _ hx,λσ2 H2=>∃ τ2 G2,Rel X.K τ2 G2 σ2 H2/\Kp G1 H1 G2 H2/\DW stay g tb d (items.drop (i+1)) τ2 G2,λσ2 H2 h2=>⟨_,by omega,rfl,hlt,h2⟩,λv H2 y=>?_⟩;obtain ⟨rv,hr2,k2⟩:=yld i _ v H2 hx y;have k3:Kp G1 H1 G' H2:=k'.trans k2;refine ⟨_,τ',G',_,rv,rl'.next hr2 k2,h',λτ3 G3 h3 σ3 H3 rl3 k4=>?_⟩;have k5:Kp G H G3 H3:=(k1.trans k3).trans k4;refine ⟨τ3,G3,_,rl3,h3,⟨λτ4 G4 h4 σ4 H4 rl4 k6=>⟨τ4,G4,rl4,(k3.trans k4).trans k6,h4⟩,af.rt.back k5,af.nx.back k5,λτ4 G4 h4 σ4 H4 rl4 k6=>⟨τ4,G4,rl4,(k3.trans k4).trans k6,h4⟩⟩⟩
  ·have e:i=items.length:=by omega
   subst e;rw [List.drop_length] at h';obtain ⟨_,_,stop⟩:=ok G' H' rl'.hp k' h'.1;exact .inl ⟨stop,af.nx τ' G' h'.2 σ' H' rl' (k1.trans k')⟩
def M3 {stay:Gp->Prop} {g:TG3} {tb:TS3} {d:Ends3} (items:List T) (Pv:Nat->St3->Gp->Prop) {τ:St3} {G:Gp} (h0:Pv 0 τ G) (hst:∀ i τ G,i<=items.length->Pv i τ G->stay G)
  (hs:∀ i x τ G (nx:St3->Gp->Prop),items[i]?=some x->Pv i τ G->(∀ τ G,Pv (i+1) τ G->nx τ G)->g x τ G λτ2 G2=>tb { d with nx:=nx,ct:=nx,bk:=d.nx } τ2 G2)
  (hd:∀ τ G,Pv items.length τ G->d.nx τ G):DW stay g tb d items τ G:=by
 have key:∀ (r:List T) (i:Nat) τ G,items.drop i=r->i<=items.length->Pv i τ G->DW stay g tb d r τ G:=by
  intro r;induction r with
  |nil=>
   intro i τ G e hi p;have:i=items.length:=by have:=congrArg List.length e;simp at this;omega
   subst this;exact ⟨hst _ τ G hi p,hd τ G p⟩
  |cons x r ih=>
   intro i τ G e hi p;have hl:i<items.length:=by
    apply Classical.byContradiction;intro z;rw [List.drop_eq_nil_of_le (by omega)] at e;cases e
   have e':=List.drop_eq_getElem_cons hl;rw [e] at e';injection e' with e1 e2;refine ⟨hst i τ G hi p,hs i x τ G _ (by rw [getElem?_eq_getElem hl,e1]) p λτ2 G2 p2=>ih (i+1) τ2 G2 e2.symm hl p2⟩
 exact key items 0 τ G (by simp) (Nat.zero_le _) h0
def T0 (c:TT3) (tb:TS3):TS3:=λd τ G=>∃ W:Nat->St3->Gp->Prop,(∃ m,W m τ G)/\∀ m τ G,W m τ G ->
 c τ G λb G1=>if b=true then ∃ N:St3->Gp->Prop,(∀ τ' G',N τ' G'->∃ m',m'<m/\W m' τ' G')/\tb { d with nx:=N,ct:=N,bk:=d.nx } τ G1 else d.nx τ G1
def qga {c:Expr} {body:List Stmt} {tc:TT3} {tb:TS3} (hp:PassesOwn (model X.prog X.w) X.A X.env X.xe) (hc:C3 X c tc) (hb:B3 X body tb):S3 X (.While c body [] pos) (T0 tc tb):=
 qbh (qbR hp hc hb) λD σ H ⟨τ,G,d,rl,⟨W,⟨m0,w0⟩,turn⟩,af⟩=>by
  refine ⟨λm σ' H'=>∃ τ' G',Rel X.K τ' G' σ' H'/\Kp G H G' H'/\W m τ' G',⟨m0,τ,G,rl,Kp.refl,w0⟩,?_⟩;rintro m σ' H' ⟨τ',G',rl',k',w'⟩;refine WO rl' (turn m τ' G' w') λb G1 h1 H1 hr1 k1 rl1=>?_;cases b with
  |true=>
   rw [if_pos rfl] at h1 ⊢;obtain ⟨N,hN,h1⟩:=h1;refine ⟨λσ2 H2=>∃ τ2 G2,Rel X.K τ2 G2 σ2 H2/\Kp G H G2 H2/\N τ2 G2,λσ2 H2 ⟨τ2,G2,r2,k2,n2⟩=>?_,τ',G1,_,rl1,h1,⟨λτ2 G2 h2 σ2 H2 r2 k2=>⟨τ2,G2,r2,(k'.trans k1).trans k2,h2⟩,af.rt.back (k'.trans k1),af.nx.back (k'.trans k1),λτ2 G2 h2 σ2 H2 r2 k2=>⟨τ2,G2,r2,(k'.trans k1).trans k2,h2⟩⟩⟩;obtain ⟨m',hm,w2⟩:=hN τ2 G2 n2;exact ⟨m',hm,τ2,G2,r2,k2,w2⟩
  |false=>
   rw [if_neg Bool.false_ne_true] at h1 ⊢;exact af.nx τ' G1 h1 σ' H1 rl1 (k'.trans k1)
abbrev Sp3:=List T->Gp->Q3->Prop
def lSp (K:Frg) (sp:Sp3):Sp:=λvs H Q _=>∃ ts G q,HR K G H/\Rps K H ts vs/\sp ts G q/\Aft K G H q Q
def Fn3 (P:Program) (w:World) (K:Frg) (mg:Str->Option Value) (base:Heap) (k:Nat) (x:Str) (sp:Sp3):Prop:=
 ∃ f fd ps,FnOk P w K mg base CX0 k f fd ps (lSp K sp)/\zB K fd ps []/\PySem.W.keepIn K (.ref f)=true/\mg x=some (.ref f)
def Fn3.mono {P:Program} {w:World} {K:Frg} {mg:Str->Option Value} {base:Heap} {j k:Nat} {x:Str} {sp:Sp3} (F:Fn3 P w K mg base j x sp) (h:j<=k):Fn3 P w K mg base k x sp:=
 let ⟨f,fd,ps,a,b,c,d⟩:=F;⟨f,fd,ps,a.mono h,b,c,d⟩
def Fn3.imp {P:Program} {w:World} {K:Frg} {mg:Str->Option Value} {base:Heap} {k:Nat} {x:Str} {sp sp':Sp3} (F:Fn3 P w K mg base k x sp) (h:∀ ts G q,sp' ts G q->sp ts G q):Fn3 P w K mg base k x sp':=
 let ⟨f,fd,ps,a,b,c,d⟩:=F;⟨f,fd,ps,a.imp λvs H Q E ⟨ts,G,q,h1,h2,h3,h4⟩=>⟨ts,G,q,h1,h2,h _ _ _ h3,h4⟩,b,c,d⟩
def qhD {k:Nat} {x:Str} {p:Pos} {sp:Sp3} (F:Fn3 X.prog X.w X.K X.mg X.base k x sp) (hr:Room k X.A) (hg:Gl X x) (ha:A3 X (e::es) t) (hdb:(x==("__debug__" : Str))=false:=by decide)
  (he:starEach (e::es) X.env=(false,eval e X.env)::starEach es X.env:=by rfl) (hpl:(backTo pos (starEach es X.env)).any (·.1)=false:=by rfl):E3 X (.Call (.Name x p) (e::es) [] pos) (cb3 sp t):=by
 obtain ⟨f,fd,ps,F,b,kp,m⟩:=F;refine DO (qeU F hr hg m kp b .nil qmV ha hdb he hpl) λσ H Q ⟨τ,G,q,rl,h,af⟩=>VM rl h λxs G1 h1 vs H1 rs hr1 k1 rl1=>?_;rw [List.append_nil];exact ⟨xs,G1,q,hr1,rs,h1,af.back k1⟩
def qE (N:List Str) (ts:List T):St3:=ts.map some++List.replicate (N.length-ts.length) none
def CU {K:Frg} {N:List Str} {G:Gp} {H:Hp} {ts:List T} {vs:List V} (hr:HR K G H) (rs:Rps K H ts vs):Rel K (qE N ts) G (L2.EY N vs) H:=by
 refine ⟨hr,by simp [qE,L2.EY,rs.length],λi t e=>?_⟩;unfold qE at e;by_cases hi:i<ts.length
 ·rw [List.getElem?_append_left (by simpa using hi),getElem?_map] at e;cases q:ts[i]? with
  |none=>rw [q] at e;cases e
  |some z=>
   rw [q] at e;have e':z=t:=by simpa using e
   subst e';obtain ⟨v,hv,r⟩:=rs.get q;refine ⟨v,?_,r⟩;unfold L2.EY;rw [List.getElem?_append_left (by rw [length_map,← rs.length];exact hi),getElem?_map,hv];rfl
 ·rw [List.getElem?_append_right (by simpa using hi),List.getElem?_replicate] at e;split at e<;>cases e
def qjs {P:Program} {w:World} {K:Frg} {mg:Str->Option Value} {base:Heap} {x qual:Str} {st:Stmt} {f:Addr} {fd:FuncData} {N ps:List Str} {k:Nat} {sp:Sp3} {t3:TS3} (F:Fun K x qual st f fd) (S:FnScope N ps (qi st)) (bd:zB K fd ps []) (hm:mg x=some (.ref f))
  (body:∀ (cdv:Value) (A:Around) (outer:List Env) (s:Shared) (H:Hp) (E:XK),Room k (A.deeper (envOfC qual (qi st) s.heap.objs.size f cdv)) ->
   B3 (qbg CX0 P w K mg base N qual (qi st) f cdv A outer s H E).nox (jh st) t3)
  (read:∀ ts G q,sp ts G q->ts.length=ps.length/\t3 { nx:=λ_ G'=>q .non G',rt:=q } (qE N ts) G):Fn3 P w K mg base (k+1) x sp:=by
 refine ⟨f,fd,ps,F.ok S (λvs H Q E ⟨ts,G,q,h1,h2,h3,h4⟩=>by rw [← h2.length];exact (read ts G q h3).1) λcdv A outer s H vs Q E hr ⟨ts,G,q,h1,h2,h3,h4⟩=>?_,bd,F.kp,hm⟩;refine ⟨_,body cdv A outer s H E hr,qE N ts,G,_,CU h1 h2,(read ts G q h3).2,⟨λτ' G' h' σ' H' rl' k'=>h4 _ G' h' _ H' .non rl'.hp k',h4,λ_ _ z=>z.elim,λ_ _ z=>z.elim⟩⟩
def qgr (xs:List T):Option Bool:=match xs with
 |[]=>some true
 |.bl k::r=>(match qgr r with|some j=>some (k&&j)|none=>none)
 |_=>none
def qnn (xs:List T):Option Bool:=match xs with
 |[]=>some false
 |.bl k::r=>(match qnn r with|some j=>some (k||j)|none=>none)
 |_=>none
def qbX {P:Program} {w:World} {A:Around} {its:List Value} {ks:List Bool} (h:its=ks.map Value.bool):TruthOf P w A (λi v=>its.toArray[i]?=some v) (λi=>ks.getD i true):=by
 intro i v s Q E hp hq;subst h;have hp':ks[i]?.map Value.bool=some v:=by simpa using hp
 cases e:ks[i]? with
 |none=>rw [e] at hp';cases hp'
 |some k=>
  rw [e] at hp';cases hp';have:ks.getD i true=k:=by rw [getD_eq_getElem?_getD,e];rfl
  have hq:Q (ks.getD i true) s:=hq;rw [this] at hq;exact wpAny_truthy_bool hq
def WM:∀ {ks:List Bool} {us:List Value},zx (ks.map V.bl) us->us=ks.map Value.bool
 |[],_,r=>by cases r;rfl
 |k::ks,_,r=>by
  cases r with
  |cons a b=>rw [show _=Value.bool k from a,WM b];rfl
def N7 (ks:List Bool):((List.range ks.length).all λi=>ks.getD i true)=ks.all id:=by
 induction ks with
 |nil=>rfl
 |cons k ks ih=>
  rw [length_cons,List.range_succ_eq_map,List.all_cons,List.all_map,List.all_cons];congr 1
def Q1 (hc:X.calm=true):JD X (.builtin "all") (λxs H Q=>∃ (p:Addr) (ks:List Bool),xs=[.ref p]/\SqL X.K H p (ks.map V.bl)/\Q (.bl (ks.all id)) H):=by
 intro pins s σ H xs us Q I r h;obtain ⟨p,ks,rfl,hq,q⟩:=h;obtain ⟨u,rfl,rp⟩:=DG r;cases (show u=Value.ref p from rp);obtain ⟨its,rv,pl,hz⟩:=I.list hq;have hb:=WM rv;have hlen:its.length=ks.length:=by rw [hb];simp
 have hp:p<s.heap.objs.size:=by obtain ⟨o,n,e,_⟩:=pl;exact Heap.lt_size e
 refine call_all_walk (wpAny_pyIter_list pl.isList ⟨s.heap.objs.size,_,_,_,_,_,λi=>ks.getD i true,rfl,Walks.list (A:=X.A.in1) (show X.A.in1.handled=none from I.ok.hd hc) s.heap.objs.size p (Nat.ne_of_lt hp) its.toArray,⟨⟨_,Heap.get?_push_size _ rfl,rfl,rfl⟩,?_⟩,qbX hb,λh' tk hk=>?_⟩)
 ·obtain ⟨o,n,e,c,_,d⟩:=pl;exact ⟨o,Heap.get?_push_of_some _ e,c,n,d⟩
 ·refine ⟨.bl _,H,?_,rfl,by rw [size_toArray,hlen,N7];exact q⟩;exact I.kept (h':=h') (t':=tk) λb o e=>hk b o (by simp;exact Nat.ne_of_lt (Heap.lt_size e)) (Heap.get?_push_of_some _ e)
end
def D8 (env:Env):List (Str×NameKind)->List (Str×Addr)->List (Str×Addr)
 |[],cs=>cs
 | (n,k)::r,cs=>if k=.free then D8 env r ((n,(env.cells.lookup n).getD 0)::cs) else D8 env r cs
def VN {scope:Scope} {env:Env} (h:∀ y∈scope.names,y.2=.free->∃ c,env.cells.lookup y.1=some c):closureFor scope env=pure (D8 env scope.names []):=by
 have key:∀ (l:List (Str×NameKind)) (cs:List (Str×Addr)),(∀ y∈l,y.2=.free->∃ c,env.cells.lookup y.1=some c) ->
   (forIn l cs λ(x:Str×NameKind) (r:List (Str×Addr))=>if (x.2==NameKind.free)=true then (do let a←cellOf env x.1;pure (ForInStep.yield ((x.1,a)::r))) else pure (ForInStep.yield r))=(pure (D8 env l cs):Sem _):=by
  intro l;induction l with
  |nil=>intro cs _;rfl
  |cons y r ih=>
   intro cs hl;obtain ⟨n,k⟩:=y;rw [List.forIn_cons];by_cases hk:k=.free
   ·subst hk;obtain ⟨c,hc⟩:=hl (n,.free) List.mem_cons_self rfl;have e:cellOf env n=pure c:=by unfold cellOf;rw [show List.lookup n env.cells=some c from hc]
    simp only [beq_self_eq_true,if_true];rw [e,pure_bind,pure_bind];show forIn r ((n,c)::cs) _=_;rw [ih _ λz hz=>hl z (List.mem_cons_of_mem _ hz)];show _=(pure (if NameKind.free=NameKind.free then D8 env r ((n,(env.cells.lookup n).getD 0)::cs) else D8 env r cs):Sem _);rw [if_pos rfl,show List.lookup n env.cells=some c from hc];rfl
   ·have hb:(k==NameKind.free)=false:=by cases k<;>first|rfl|exact absurd rfl hk
    simp only [hb,Bool.false_eq_true,if_false];rw [pure_bind];show forIn r cs _=_;rw [ih _ λz hz=>hl z (List.mem_cons_of_mem _ hz)];show _=(pure (if k=NameKind.free then D8 env r ((n,(env.cells.lookup n).getD 0)::cs) else D8 env r cs):Sem _);rw [if_neg hk]
 have:=key scope.names [] h;unfold closureFor;refine Eq.trans ?_ this;exact bind_pure (m:=Sem) _
def YR {env:Env}:∀ (l:List (Str×NameKind)) (cs:List (Str×Addr)) (x:Str) (c:Addr),(∀ y∈l,y.2=.free->∃ c,env.cells.lookup y.1=some c) ->
  (∀ x c,cs.lookup x=some c->env.cells.lookup x=some c)->(D8 env l cs).lookup x=some c->env.cells.lookup x=some c
 |[],_,_,_,_,h,e=>h _ _ e
 | (n,k)::r,cs,x,c,hl,h,e=>by
  unfold D8 at e;split at e
  ·rename_i hk;refine YR r _ x c (λy hy=>hl y (List.mem_cons_of_mem _ hy)) (λx c e=>?_) e;rw [List.lookup_cons] at e;split at e
   ·rename_i hx;have hx':x=n:=by simpa using hx
    subst hx';obtain ⟨d,hd⟩:=hl (x,k) List.mem_cons_self hk;have hd:List.lookup x env.cells=some d:=hd;rw [hd] at e ⊢;exact e
   ·exact h _ _ e
  ·exact YR r cs x c (λy hy=>hl y (List.mem_cons_of_mem _ hy)) h e
def EG {env:Env}:∀ (l:List (Str×NameKind)) (cs:List (Str×Addr)) (x:Str),((x,NameKind.free)∈l\/∃ c,cs.lookup x=some c)->∃ c,(D8 env l cs).lookup x=some c
 |[],_,_,h=>by
  rcases h with h|h
  ·simp at h
  ·exact h
 | (n,k)::r,cs,x,h=>by
  unfold D8;have put:∀ d:Addr,(x=n\/∃ c,cs.lookup x=some c)->∃ c,((n,d)::cs).lookup x=some c:=λd z=>by
   rw [List.lookup_cons];cases hx:x==n with
   |true=>exact ⟨d,rfl⟩
   |false=>
    rcases z with z|z
    ·rw [z] at hx;simp at hx
    ·exact z
  split
  ·rename_i hk;refine EG r _ x ?_;rcases h with h|h
   ·rcases mem_cons.mp h with e|e
    ·cases e;exact .inr (put _ (.inl rfl))
    ·exact .inl e
   ·exact .inr (put _ (.inr h))
  ·rename_i hk;refine EG r _ x ?_;rcases h with h|h
   ·rcases mem_cons.mp h with e|e
    ·cases e;exact absurd rfl hk
    ·exact .inl e
   ·exact .inr h
def X5 {env:Env}:∀ (l:List (Str×NameKind)) (cs:List (Str×Addr)) (x:Str) (c:Addr),(D8 env l cs).lookup x=some c->(x,NameKind.free)∈l\/cs.lookup x=some c
 |[],_,_,_,e=>.inr e
 | (n,k)::r,cs,x,c,e=>by
  unfold D8 at e;split at e
  ·rename_i hk;rcases X5 r _ x c e with z|z
   ·exact .inl (List.mem_cons_of_mem _ z)
   ·rw [List.lookup_cons] at z;split at z
    ·rename_i hx;have hx':x=n:=by simpa using hx
     subst hx';subst hk;exact .inl List.mem_cons_self
    ·exact .inr z
  ·rcases X5 r cs x c e with z|z
   ·exact .inl (List.mem_cons_of_mem _ z)
   ·exact .inr z
def UO {α:Type}:∀ (xs ys:List (Str×α)) (x:Str),(xs++ys).lookup x=(match xs.lookup x with|some c=>some c|none=>ys.lookup x)
 |[],ys,x=>rfl
 | (n,c)::xs,ys,x=>by
  rw [cons_append,List.lookup_cons,List.lookup_cons];cases x==n with
  |true=>rfl
  |false=>exact UO xs ys x
def je:∀ (l:List (Str×NameKind)) {n:Nat} {acc:List (Str×Addr)},cellsFrom n l acc=cellsFrom n l []++acc
 |[],_,_=>rfl
 | (x,k)::r,n,acc=>by
  unfold cellsFrom;split
  ·rw [je r (acc:=(x,n)::acc),je r (acc:=[(x,n)]),List.append_assoc];rfl
  ·exact je r
def ZN:∀ (l:List (Str×NameKind)) (n:Nat) (acc:List (Str×Addr)) (x:Str) (c:Addr),(x,c)∈cellsFrom n l acc->(x,NameKind.cell)∈l\/(x,c)∈acc
 |[],_,_,_,_,h=>.inr h
 | (y,k)::r,n,acc,x,c,h=>by
  unfold cellsFrom at h;split at h
  ·rename_i hk;have hk:k=.cell:=by simpa using hk
   rcases ZN r _ _ x c h with z|z
   ·exact .inl (List.mem_cons_of_mem _ z)
   ·rcases mem_cons.mp z with e|e
    ·cases e;subst hk;exact .inl List.mem_cons_self
    ·exact .inr e
  ·rcases ZN r _ _ x c h with z|z
   ·exact .inl (List.mem_cons_of_mem _ z)
   ·exact .inr z
def jQ:∀ (l:List (Str×NameKind)) (n:Nat) (acc:List (Str×Addr)) (x:Str),((x,NameKind.cell)∈l\/∃ c,acc.lookup x=some c)->∃ c,(cellsFrom n l acc).lookup x=some c
 |[],_,_,_,h=>by
  rcases h with h|h
  ·simp at h
  ·exact h
 | (y,k)::r,n,acc,x,h=>by
  unfold cellsFrom;have put:(x=y\/∃ c,acc.lookup x=some c)->∃ c,((y,n)::acc).lookup x=some c:=λz=>by
   rw [List.lookup_cons];cases hx:x==y with
   |true=>exact ⟨n,rfl⟩
   |false=>
    rcases z with z|z
    ·rw [z] at hx;simp at hx
    ·exact z
  split
  ·refine jQ r _ _ x ?_;rcases h with h|h
   ·rcases mem_cons.mp h with e|e
    ·cases e;exact .inr (put (.inl rfl))
    ·exact .inl e
   ·exact .inr (put (.inr h))
  ·rename_i hk;refine jQ r _ _ x ?_;rcases h with h|h
   ·rcases mem_cons.mp h with e|e
    ·cases e;exact absurd rfl hk
    ·exact .inl e
   ·exact .inr h
def JA {M:Model} {A:Around} {E:Value->Shared->Prop} {s:Shared} {scope:Scope} {globals:Addr} {cl:List (Str×Addr)} {qual:Str} {env:Env} {Q:Env->Shared->Prop}
  (hQ:∀ h₁:Heap,h₁.Ns s.heap.objs.size (λ_=>none)->(∀ b o,s.heap.get? b=some o->h₁.get? b=some o)->CellsOk h₁ (s.heap.objs.size+1) (cellsFrom (s.heap.objs.size+1) scope.names [])->Q (newEnv scope s.heap.objs.size globals (cellsFrom (s.heap.objs.size+1) scope.names cl) qual none .none (some env) builtinsNs) { s with heap:=h₁ }) :
  wpAny M A (newFunctionEnv scope globals cl [] qual none .none (some env)) Q E s:=by
 simp only [newFunctionEnv,Option.isSome_some,if_true];refine wpAny_bind (wpAny_alloc ?_);refine wpAny_bind (wpAny_layCells _ (λname kind cells=>by cases hkc:kind==NameKind.cell<;>simp [hkc]) _ _ _ _ ?_);have ok:=cellsFrom_ok scope.names (s.heap.push { cls:=.type "dict",data:=.dict #[] }) (s.heap.objs.size+1) [] ⟨λ_ _ hm=>(nomatch hm),List.Pairwise.nil⟩ (by rw [Heap.size_push];exact Nat.le_refl _);rw [Heap.size_push] at ok;rw [show ({ s with heap:=s.heap.push { cls:=.type "dict",data:=.dict #[] } }:Shared).heap.objs.size=s.heap.objs.size+1 from Heap.size_push ..];rw [List.forIn_nil];refine wpAny_bind (wpAny_pure (wpAny_pure ?_));exact hQ _ ((Heap.Ns.new s.heap (.type "dict")).keeps (pushCells_keeps _ _)) (λb o e=>pushCells_keeps _ _ b o (Heap.get?_push_of_some _ e)) ok
def qv (X:Cx) (N':List Str) (scope:Scope) (s:Shared) (H:Hp) (fp:List Addr):Cx where
 prog:=X.prog
 w:=X.w
 K:=X.K
 mg:=X.mg
 base:=X.base
 A:=X.A
 N:=N'
 s₀:=s
 H₀:=H
 env:=compEnvC scope (cellsFrom (s.heap.objs.size+1) scope.names (D8 X.env scope.names [])) s.heap.objs.size X.env
 outer:=X.stack
 stack:=X.stack
 ex:=fp
 fn:=λx=>scope.names.lookup x==some .cell
 calm:=true
 pn:=[]
 xe:=λ_ _=>False
def qbM (outer inner:Scope):Bool:=(inner.kind==.function)&&inner.names.all λy=>
 (y.2 != .cell||inner.names.lookup y.1==some .cell)&&(y.2 != .local||inner.names.lookup y.1==some .local)&&(y.2 != .free||(inner.names.lookup y.1==some .free&&(outer.names.lookup y.1==some .cell||outer.names.lookup y.1==some .free)))
def cap {α:Type} (m:List (Option Nat)) (σ:List (Option α)):List (Option α):=m.map λo=>match o with|some j=>(σ[j]?).join|none=>none
def EF (N N':List Str) (scope:Scope) (m:List (Option Nat)):Bool:=(m.length==N'.length)&&(m.zip N').all λp=>match p.1 with
 |none=>true
 |some j=>N[j]?==some p.2&&scope.names.lookup p.2==some .free
def NJ {α:Type} {m:List (Option Nat)} {σ:List (Option α)} {i:Nat} {v:α} (h:(cap m σ)[i]?=some (some v)):∃ j,m[i]?=some (some j)/\σ[j]?=some (some v):=by
 unfold cap at h;rw [getElem?_map] at h;cases e:m[i]? with
 |none=>rw [e] at h;cases h
 |some o=>
  rw [e] at h;cases o with
  |none=>cases h
  |some j=>
   refine ⟨j,rfl,?_⟩;have h':(σ[j]?).join=some v:=by simpa using h
   cases q:σ[j]? with
   |none=>rw [q] at h';cases h'
   |some z=>rw [q] at h';exact congrArg some h'
def MW {N N':List Str} {scope:Scope} {m:List (Option Nat)} (h:EF N N' scope m=true) {i j:Nat} {x:Str} (e:m[i]?=some (some j)) (hx:N'[i]?=some x):N[j]?=some x/\scope.names.lookup x=some .free:=by
 unfold EF at h;rw [Bool.and_eq_true] at h;have hm:(some j,x)∈m.zip N':=mem_of_getElem? (i:=i) (List.getElem?_zip_eq_some.mpr ⟨e,hx⟩);have:=List.all_eq_true.mp h.2 _ hm;simp only [Bool.and_eq_true,beq_iff_eq] at this;exact this
def qeT {N N':List Str} {scope:Scope} {m:List (Option Nat)} {α:Type} (σ:List (Option α)) (h:EF N N' scope m=true):(cap m σ).length=N'.length:=by
 unfold EF at h;rw [Bool.and_eq_true] at h;unfold cap;rw [length_map];simpa using h.1
structure ScFacts (outer inner:Scope):Prop where
 kind:inner.kind=.function
 own:∀ y∈inner.names,y.2=.cell->inner.names.lookup y.1=some .cell
 loc:∀ y∈inner.names,y.2=.local->inner.names.lookup y.1=some .local
 free:∀ y∈inner.names,y.2=.free->inner.names.lookup y.1=some .free/\(outer.names.lookup y.1=some .cell\/outer.names.lookup y.1=some .free)
def WB {outer inner:Scope} (h:qbM outer inner=true):ScFacts outer inner:=by
 unfold qbM at h;rw [Bool.and_eq_true] at h;have ha:=List.all_eq_true.mp h.2;refine ⟨by simpa using h.1,λy hy e=>?_,λy hy e=>?_,λy hy e=>?_⟩
 ·have:=ha y hy;rw [e] at this;simpa using this
 ·have:=ha y hy;rw [e] at this;simpa using this
 ·have:=ha y hy;rw [e] at this;simpa using this
def Q4 {scope:Scope} {env:Env} {x:Str} {k:NameKind} (h:(relabel scope env).names.lookup x=some k):scope.names.lookup x=some k\/(k=.cell/\scope.names.lookup x=some .free):=by
 have key:∀ (l:List (Str×NameKind)),(l.map λ(n,k)=>if (k==NameKind.free&&env.scope.kind==.function&&env.kindOf n==some .cell) then (n,NameKind.cell) else (n,k)).lookup x=some k->l.lookup x=some k\/(k=.cell/\l.lookup x=some .free):=by
  intro l;induction l with
  |nil=>intro h;simp at h
  |cons y r ih=>
   intro h;obtain ⟨n,j⟩:=y;rw [map_cons] at h;dsimp only at h;by_cases hc:(j==NameKind.free&&env.scope.kind==.function&&env.kindOf n==some .cell)=true
   ·rw [if_pos hc,List.lookup_cons] at h;rw [List.lookup_cons];cases hx:x==n with
    |true=>
     rw [hx] at h;have hk:NameKind.cell=k:=by simpa using h
     have hj:j=.free:=by simp only [Bool.and_eq_true,beq_iff_eq] at hc;exact hc.1.1
     exact .inr ⟨hk.symm,by rw [hj]⟩
    |false=>rw [hx] at h;exact ih h
   ·rw [if_neg hc,List.lookup_cons] at h;rw [List.lookup_cons];cases hx:x==n with
    |true=>rw [hx] at h;exact .inl h
    |false=>rw [hx] at h;exact ih h
 exact key scope.names h
def PF (X:Cx) (ifs:List Expr) (t:TT):Prop:=
 ∀ (pins:List (Addr×Obj)) (s:Shared) (σ:L2.St) (H:Hp) (Q:Bool->Hp->Prop),Inv X pins σ H s->t σ H Q ->
  wpAny (model X.prog X.w) X.A (forIn ifs true λc r=>if r=true then do let ok←isTrue c X.env (eval c X.env);pure (ForInStep.yield ok) else pure (ForInStep.yield r)) (TP X pins σ Q) X.xe s
def qgW {X:Cx}:PF X [] (λ_ H Q=>Q true H):=λ_ _ _ H _ I h=>wpAny_tests_nil ⟨H,I,h⟩
def qgV {X:Cx} {c:Expr} {t:TT} (h:PT X c t):PF X [c] t:=λpins s σ H Q I q=>wpAny_tests_one (h pins s σ H Q I q)
section
variable {X:Cx} {pins:List (Addr×Obj)} {σ:L2.St} {H:Hp} {s:Shared}
def KP {N':List Str} {scope:Scope} {fp:List Addr} {m:List (Option Nat)} {h1:Heap} {mm:Str->Option Value} (hc:X.calm=true) (I:Inv X pins σ H s) (sc:ScFacts X.env.scope scope) (hcap:EF X.N N' scope m=true)
  (hfp:∀ b∈fp,TW X pins H b) (hob:∀ b∈fp,∃ o,s.heap.get? b=some o) (hns:h1.Ns s.heap.objs.size mm) (hk:∀ b o,s.heap.get? b=some o->h1.get? b=some o) (hown:CellsOk h1 (s.heap.objs.size+1) (cellsFrom (s.heap.objs.size+1) scope.names [])) :
  Inv (qv X N' scope s H fp) [] (cap m σ) H { s with heap:=h1 }:=by
 have hcl:∀ y∈scope.names,y.2=.free->∃ c,X.env.cells.lookup y.1=some c:=λy hy e=>by
  rcases (sc.free y hy e).2 with z|z
  ·exact I.ok.has y.1 (.inl z)
  ·exact I.ok.has y.1 (.inr z)
 have cl:∀ x c,(D8 X.env scope.names []).lookup x=some c->X.env.cells.lookup x=some c:=λx c e=>YR scope.names [] x c hcl (λ_ _ z=>by simp at z) e;have clt:∀ x c,(D8 X.env scope.names []).lookup x=some c->c<s.heap.objs.size:=λx c e=>by
  obtain ⟨v,q⟩:=I.cell x c (cl x c e);exact q.lt
 -- a cell of the block: its own,or one from around
 have cs:∀ x c,(cellsFrom (s.heap.objs.size+1) scope.names (D8 X.env scope.names [])).lookup x=some c->((x,c)∈cellsFrom (s.heap.objs.size+1) scope.names []/\s.heap.objs.size+1<=c/\h1.IsCell c none)\/(D8 X.env scope.names []).lookup x=some c:=λx c e=>by
  rw [je,UO] at e;cases q:(cellsFrom (s.heap.objs.size+1) scope.names []).lookup x with
  |none=>rw [q] at e;exact .inr e
  |some d=>
   rw [q] at e;cases e;have mem:=PySem.mem_of_lookup q;exact .inl ⟨mem,(hown.empty x _ mem).2,(hown.empty x _ mem).1⟩
 have fpne:∀ b∈fp,b≠s.heap.objs.size:=λb hb=>let ⟨o,e⟩:=hob b hb;Nat.ne_of_lt (Heap.lt_size e)
 refine ⟨⟨I.ok.mod,sc.kind,I.ok.glob,I.ok.blt,Nat.le_refl _,λx y c e1 e2=>?_,λx hx=>?_,λx c hf e=>?_,λ_=>I.ok.hd hc,I.ok.frames,.inl rfl,λb hb=>⟨fpne b hb,λx c e=>?_⟩,I.bs,Nat.le_trans I.ok.bsz I.sz,λb o e hb=>?_,λb hb z=>?_,I.stack,I.stkFree⟩,
  rfl,I.bare,Un.kept hk,⟨mm,hns,λi x v e1 e2 e3=>?_⟩,λx c e=>?_,I.fresh,λx c e=>?_,λp hp=>absurd (show p∈([]:List (Addr×Obj)) from hp) (by simp),I.hok.kept hk,qeT σ hcap⟩
 ·rcases cs x c e1 with ⟨m1,l1,_⟩|z1<;>rcases cs y c e2 with ⟨m2,l2,_⟩|z2
  ·exact PySem.name_of_addr hown.apart m1 m2
  ·exact absurd (clt y c z2) (Nat.not_lt.mpr (Nat.le_trans (Nat.le_succ _) l1))
  ·exact absurd (clt x c z1) (Nat.not_lt.mpr (Nat.le_trans (Nat.le_succ _) l2))
  ·exact I.ok.inj x y c (cl x c z1) (cl y c z2)
 ·have hx:(relabel scope X.env).names.lookup x=some .cell\/(relabel scope X.env).names.lookup x=some .free:=hx;have hf:scope.names.lookup x=some .cell\/scope.names.lookup x=some .free:=by
   rcases hx with z|z
   ·rcases Q4 z with q|⟨_,q⟩
    ·exact .inl q
    ·exact .inr q
   ·rcases Q4 z with q|⟨q,_⟩
    ·exact .inr q
    ·cases q
  show ∃ c,(cellsFrom (s.heap.objs.size+1) scope.names (D8 X.env scope.names [])).lookup x=some c;rcases hf with hf|hf
  ·exact jQ scope.names _ _ x (.inl (PySem.mem_of_lookup hf))
  ·exact jQ scope.names _ _ x (.inr (EG scope.names [] x (.inl (PySem.mem_of_lookup hf))))
 ·have hf:scope.names.lookup x=some .cell:=by simpa [qv] using hf
  rcases cs x c e with ⟨_,l1,_⟩|z1
  ·exact Nat.le_trans (Nat.le_succ _) l1
  ·rcases X5 scope.names [] x c z1 with q|q
   ·rw [(sc.free _ q rfl).1] at hf;cases hf
   ·simp at q
 ·rcases cs x c e with ⟨_,l1,_⟩|z1
  ·obtain ⟨o,eo⟩:=hob b hb;exact Nat.ne_of_gt (Nat.lt_of_lt_of_le (Heap.lt_size eo) (Nat.le_trans (Nat.le_succ _) l1))
  ·exact (hfp b hb).2.2.2.2.1 x c (cl x c z1)
 ·rcases (hfp b hb).2.2.2.1 with z|z
  ·exact I.ok.noex b o e z
  ·exact absurd (Nat.lt_of_lt_of_le (Heap.lt_size e) (Nat.le_trans I.ok.bsz z)) (Nat.lt_irrefl _)
 ·rcases mem_cons.mp (I.stkSub b z) with q|q
  ·exact (hfp b hb).2.1 q
  ·exact (hfp b hb).2.2.1 q
 ·obtain ⟨j,ej,es⟩:=NJ e2;obtain ⟨hN,hfr⟩:=MW hcap ej e1;have mem:=PySem.mem_of_lookup hfr;have ho:=(sc.free _ mem rfl).2;obtain ⟨m0,hn0,hl0⟩:=I.loc;obtain ⟨u,ru,lk⟩:=hl0 j x v hN es (ho.elim (λz=>.inr (.inl z)) λz=>.inr (.inr z));refine ⟨u,ru,.inr ⟨?_,?_⟩⟩
  ·rcases e3 with z|z|z
   ·rcases Q4 z with q|⟨q,_⟩
    ·rw [hfr] at q;cases q
    ·cases q
   ·exact .inl z
   ·exact .inr z
  ·rcases lk with ⟨z,_⟩|⟨_,c,hc',hcell⟩
   ·have z:X.env.scope.names.lookup x=some .local:=z;rcases ho with q|q<;>(rw [z] at q;cases q)
   ·obtain ⟨c',hc2⟩:=EG (env:=X.env) scope.names [] x (.inl mem);have e:=cl x c' hc2;rw [hc'] at e;cases e;obtain ⟨o,eo,d⟩:=hcell;refine ⟨c,?_,o,hk c o eo,d⟩;show (cellsFrom (s.heap.objs.size+1) scope.names (D8 X.env scope.names [])).lookup x=some c;rw [je,UO];cases q:(cellsFrom (s.heap.objs.size+1) scope.names []).lookup x with
    |none=>exact hc2
    |some d=>
     rcases ZN scope.names _ [] x d (PySem.mem_of_lookup q) with z|z
     ·rw [sc.own _ z rfl] at hfr;cases hfr
     ·simp at z
 ·rcases cs x c e with ⟨_,_,z⟩|z1
  ·exact ⟨none,z⟩
  ·obtain ⟨v,o,eo,d⟩:=I.cell x c (cl x c z1);exact ⟨v,o,hk c o eo,d⟩
 ·rcases cs x c e with ⟨_,l1,_⟩|z1
  ·exact I.hok.fresh (Nat.le_trans (Nat.le_succ _) l1)
  ·exact I.freeC x c (cl x c z1)
def WD {N':List Str} {scope:Scope} {fp:List Addr} {pins':List (Addr×Obj)} {σ':L2.St} {H':Hp} {s':Shared} {h2:Heap} (I:Inv X pins σ H s) (hfp:∀ b∈fp,TW X pins H b) (J:Inv (qv X N' scope s H fp) pins' σ' H' s')
  (sb:Heap.SameBut s.heap.objs.size s'.heap h2):Inv X pins σ H' { s' with heap:=h2 }:=by
 have ne:∀ b o,s.heap.get? b=some o->b≠s.heap.objs.size:=λb o e=>Nat.ne_of_lt (Heap.lt_size e);have g:∀ b,b≠s.heap.objs.size->h2.get? b=s'.heap.get? b:=λb hb=>sb.2 b hb;have hn:H' s.heap.objs.size=none:=J.free;have u:Un (frs X.stack) fp H H' s.heap s'.heap:=J.base;refine I.call' (s':={ s' with heap:=h2 }) J.os ⟨λb o e n hb hx=>?_,λb o e n hb hx=>?_,u.free,λb o e hx=>?_,u.tups,u.frzs,u.tbls⟩ (λa o e=>?_) J.bare λb hb=>⟨(hfp b hb).2.2.2.1,(hfp b hb).2.1,(hfp b hb).2.2.2.2.1,(hfp b hb).2.2.2.2.2⟩
 ·show h2.get? b=_;rw [g b (ne b o e)];exact u.keep b o e n hb hx
 ·show ∃ sl,h2.get? b=_;rw [g b (ne b o e)];exact u.slot b o e n hb hx
 ·show ∃ o',h2.get? b=_;rw [g b (ne b o e)];exact u.there b o e hx
 ·refine (J.hok a o e).stay (λb v hb q=>?_) (λ_ q=>q) λ_ _ q=>q;have hb':b≠s.heap.objs.size:=by
   intro z;subst z;rcases hb with z|z
   ·rw [← z] at e;rw [hn] at e;cases e
   ·rw [hn] at z;cases z
  rw [g b hb'];exact q
end
def tLC (wi:TI) (g:TG) (tif:TT) (te:TE) (m:List (Option Nat)):TE:=λσ H Q=>wi σ H λJ H1=>∀ D,H1 D=none ->
 ∃ W:Nat->Nat->L2.St->Hp->Prop,(∃ n,W 0 n (cap m σ) (upd H1 D (.lst [])))/\∀ i n σ H,W i n σ H ->
  (J.stop i H/\Q (.ref D) H)\/(J.go i H/\∀ x H',J.yld i H x H'->g x σ H' λσ2 H2=>tif σ2 H2 λk H3=>
   if k=true then te σ2 H3 λy H4=>∃ zs,H4 D=some (.lst zs)/\zs.length<sizeLine/\∃ n',n'<n/\W (i+1) n' σ2 (upd H4 D (.lst (zs++[y])))
   else ∃ n',n'<n/\W (i+1) n' σ2 H3)
section
variable {X:Cx}
def qmx {elt tg iter:Expr} {ifs:List Expr} {scope:Scope} {pos:Pos} {N':List Str} {m:List (Option Nat)} {wi:TI} {g:TG} {tif:TT} {te:TE} (hc:X.calm=true) (hi:PI X tg iter wi)
  (hg:∀ s H fp,PG (qv X N' scope s H fp) tg g) (hf:∀ s H fp,PF (qv X N' scope s H fp) ifs tif) (he:∀ s H fp,PE (qv X N' scope s H fp) elt te)
  (hsc:qbM X.env.scope scope=true) (hcap:EF X.N N' scope m=true) (hs:∀ x,foldedSetIterable iter X.env x=pure x:=by intro _;rfl) :
  PE X (.ListComp elt [⟨tg,iter,ifs,0⟩] scope pos) (tLC wi g tif te m):=by
 intro pins s σ H Q I h;have sc:=WB hsc;have hcl:∀ y∈scope.names,y.2=.free->∃ c,X.env.cells.lookup y.1=some c:=λy hy e=>by
  rcases (sc.free y hy e).2 with z|z
  ·exact I.ok.has y.1 (.inl z)
  ·exact I.ok.has y.1 (.inr z)
 rw [eval_ListComp];refine wpAny_comprehension_free (use:=none) (g:=⟨tg,iter,ifs,0⟩) (gs:=[]) rfl hs (VN hcl) sc.kind sc.loc ?_;show wpAny _ _ (eval iter X.env) _ _ s;refine thn (hi pins s σ H _ I h) λv s1 h1=>thn h1 λitv s2 h2=>?_;obtain ⟨it,fp,tn,J,H2,rfl,I2,T,st2,f2,hW⟩:=h2;refine wpAny_newObj_type ?_;have hD:H2 s2.heap.objs.size=none:=I2.fresh;obtain ⟨W,⟨n0,w0⟩,turn⟩:=hW _ hD;generalize hDe:s2.heap.objs.size=D at *;have I3:Inv X pins σ (upd H2 D (.lst [])) { s2 with heap:=s2.heap.push { cls:=.type "list",dict:=none,data:=.seq ([]:List Value).toArray } }:=by
  subst hDe;exact I2.laid (t':=s2.toks) (λb u e=>Heap.get?_push_of_some _ e) (Nat.le_refl _) ⟨Nat.zero_le _,[],0,.nil,Heap.get?_push_size _ rfl⟩
 have ob2:=T.obj 0 _ st2;have ob3:∀ b∈fp,∃ o,(s2.heap.push { cls:=.type "list",dict:=none,data:=.seq ([]:List Value).toArray }).get? b=some o:=λb hb=>let ⟨o,e,_⟩:=ob2 b hb;⟨o,Heap.get?_push_of_some _ e⟩
 have f3:∀ b∈fp,TW X pins (upd H2 D (.lst [])) b:=λb hb=>by
  obtain ⟨o,e,_⟩:=ob2 b hb;have:b≠D:=by rw [← hDe];exact Nat.ne_of_lt (Heap.lt_size e)
  exact ⟨by rw [qM this];exact (f2 b hb).1,(f2 b hb).2⟩
 have k23:∀ b o,s2.heap.get? b=some o->(s2.heap.push { cls:=.type "list",dict:=none,data:=.seq ([]:List Value).toArray }).get? b=some o:=λb o e=>Heap.get?_push_of_some _ e;generalize hH3:upd H2 D (.lst [])=H3 at *;generalize hs3:({ s2 with heap:=s2.heap.push { cls:=.type "list",dict:=none,data:=.seq ([]:List Value).toArray } }:Shared)=s3 at *;have ob3:∀ b∈fp,∃ o,s3.heap.get? b=some o:=by rw [← hs3];exact ob3
 have k23:∀ b o,s2.heap.get? b=some o->s3.heap.get? b=some o:=by rw [← hs3];exact k23
 refine JA λh₁ hns hk hown=>?_;have I4:Inv (qv X N' scope s3 H3 fp) [] (cap m σ) H3 { s3 with heap:=h₁ }:=KP hc I3 sc hcap f3 ob3 hns hk hown;have tn4:tn 0 h₁:=T.keep _ _ _ st2 λb hb o e=>hk b o (k23 b o e);have fr4:∀ b∈fp,H3 b=none:=λb hb=>(f3 b hb).1;have stat:∀ {H':Hp},(∀ b∈fp,H' b=none)->∀ b∈fp,TW (qv X N' scope s3 H3 fp) [] H' b:=λhn b hb=>by
  refine ⟨hn b hb,I4.ok.exf b hb |>.1,I4.ok.exfs b hb,.inl hb,λx c e=>(I4.ok.exf b hb).2 x c e,λp hp=>absurd (show p∈([]:List (Addr×Obj)) from hp) (by simp)⟩
 show codeAny (model X.prog X.w) X.A (.compStart (.ListComp elt [⟨tg,iter,ifs,0⟩] scope pos) 0 (.ref it) (.ref D) (qv X N' scope s3 H3 fp).env) (compPost (model X.prog X.w) X.A X.xe none (EP X pins σ Q) (.ref D) s3.heap.objs.size) { s3 with heap:=h₁ };have loop:codeAny (model X.prog X.w) X.A (.compLoop (.ListComp elt [⟨tg,iter,ifs,0⟩] scope pos) 0 (.ref it) (.ref D) (qv X N' scope s3 H3 fp).env) (compPost (model X.prog X.w) X.A X.xe none (EP X pins σ Q) (.ref D) s3.heap.objs.size) { s3 with heap:=h₁ }:=by
  refine codeAny_loop rfl (λn s'=>∃ i σ' H',Inv (qv X N' scope s3 H3 fp) [] σ' H' s'/\tn i s'.heap/\(∀ b∈fp,H' b=none)/\W i n σ' H') (λn s' hI=>?_) n0 ⟨0,cap m σ,H3,I4,tn4,fr4,w0⟩;show wpAny _ X.A ((compTurn (.ListComp elt [⟨tg,iter,ifs,0⟩] scope pos) 0 (.ref it) (.ref D) (qv X N' scope s3 H3 fp).env).onRaise (λx=>do noteFrame x (qv X N' scope s3 H3 fp).env;theTreesLotGoes x)) _ _ s';refine wpAny_noted ?_;rw [compTurn_list];refine wpAny_bind (wpAny_standAt (wpAny_bind ?_));obtain ⟨i,σ5,H5,I5,st5,fr5,w5⟩:=hI;rcases turn i n σ5 H5 w5 with ⟨stop,q⟩|⟨go,step⟩
  ·refine thn (T.done (qv X N' scope s3 H3 fp) rfl rfl rfl rfl i [] s' σ5 H5 _ I5 (stat fr5) st5 stop) λr s6 ⟨hr,I6⟩=>?_;subst hr;refine wpAny_pure ?_;obtain ⟨mm,hn6,_⟩:=I6.loc;exact ⟨mm,hn6,λh' sb=>⟨.ref D,H5,WD I3 f3 I6 sb,rfl,q⟩⟩
  ·refine thn (T.item (qv X N' scope s3 H3 fp) rfl rfl rfl rfl i [] s' σ5 H5 _ I5 (stat fr5) st5 go) λr s6 ⟨u,hr,h6⟩=>?_;subst hr;refine wpAny_bind (thn h6 λ_ s7 ⟨x,H7,I7,r7,y7,st7,fr7⟩=>?_);have I7':=I7.pinned (stat fr7) (T.obj _ _ st7);have again:∀ {σ8:L2.St} {H8:Hp} {s8:Shared},Inv (qv X N' scope s3 H3 fp) ([]++WF fp s7.heap) σ8 H8 s8->(∃ n',n'<n/\W (i+1) n' σ8 H8) ->
     ∃ m',m'<n/\∃ i σ' H',Inv (qv X N' scope s3 H3 fp) [] σ' H' s8/\tn i s8.heap/\(∀ b∈fp,H' b=none)/\W i m' σ' H':=λ{σ8 H8 s8} I8 ⟨n',hn,w8⟩=>by
    refine ⟨n',hn,i+1,σ8,H8,I8.unpinned,T.keep _ _ _ st7 λb hb o e=>(I8.pin (b,o) (mem_append_right _ (mem_append_right _ (jT hb e)))).1,λb hb=>?_,w8⟩;obtain ⟨o,e,d⟩:=T.obj _ _ st7 b hb;exact (I8.pin (b,o) (mem_append_right _ (mem_append_right _ (jT hb e)))).2.1
   refine wpAny_bind (wpAny_mono (hg s3 H3 fp _ s7 σ5 H7 x u _ I7' r7 (step x H7 y7)) (λ_ s8 ⟨σ8,H8,I8,q8⟩=>?_) λ_ _ z=>z.elim);refine wpAny_bind (wpAny_mono (hf s3 H3 fp _ s8 σ8 H8 _ I8 q8) (λk s9 ⟨H9,I9,q9⟩=>?_) λ_ _ z=>z.elim);cases k with
   |false=>
    rw [if_neg Bool.false_ne_true] at q9;exact wpAny_pure ⟨rfl,again I9 q9⟩
   |true=>
    rw [if_pos rfl] at q9;refine wpAny_bind (wpAny_bind (wpAny_mono (he s3 H3 fp _ s9 σ8 H9 _ I9 q9) (λw s10 ⟨y,H10,I10,r10,q10⟩=>?_) λ_ _ z=>z.elim));obtain ⟨zs,hz,hl,q10⟩:=q10;refine wpAny_bind (wpAny_mono (EZ (X:=qv X N' scope s3 H3 fp) _ s10 σ8 H10 (.ref D) [y] (.ref D) [w] (λ_ H11=>H11=upd H10 D (.lst (zs++[y]))) I10 rfl (.cons r10 .nil) ⟨D,zs,y,rfl,rfl,hz,hl,rfl⟩) (λ_ s11 ⟨_,H11,I11,_,e11⟩=>?_) λ_ _ z=>z.elim);subst e11;exact wpAny_pure (wpAny_pure ⟨rfl,again I11 q10⟩)
 exact codeAny_compStart_list loop (T.self X.A 0 _ _ _ tn4 loop)
end
section
variable {K:Frg} {G G':Gp} {H H':Hp}
def qfN {D:Addr} {o:HO} {ws:List V} (hD:H D=some (.lst ws)) {a:Addr} {vs:List V} (h:SqT K H a vs):SqT K (upd H D o) a vs:=by
 rcases h with h|h
 ·refine .inl ?_;rcases h with h|⟨ob,h⟩
  ·have:a≠D:=by intro e;subst e;rw [hD] at h;cases h
   exact .inl (by rw [qM this];exact h)
  ·have:a≠D:=by intro e;subst e;rw [hD] at h;cases h
   exact .inr ⟨ob,by rw [qM this];exact h⟩
 ·exact .inr h
mutual
def Rp.wrD {D:Addr} {o:HO} {ws:List V} (hD:H D=some (.lst ws)):∀ {x:T} {v:V},Rp K H x v->Rp K (upd H D o) x v
 |_,_,.non=>.non
 |_,_,.bl b=>.bl b
 |_,_,.int i=>.int i
 |_,_,.str x=>.str x
 |_,_,.ref a=>.ref a
 |_,_,.tup h hs=>.tup (qfN hD h) (Rps.wrD hD hs)
def Rps.wrD {D:Addr} {o:HO} {ws:List V} (hD:H D=some (.lst ws)):∀ {x:List T} {v:List V},Rps K H x v->Rps K (upd H D o) x v
 |_,_,.nil=>.nil
 |_,_,.cons a b=>.cons (Rp.wrD hD a) (Rps.wrD hD b)
end
def HR.wrD {D:Addr} {o:HO} {ws:List V} (hr:HR K G H) (hD:H D=some (.lst ws)) (g:G D=none):HR K G (upd H D o):=λa ob e=>by
 have ha:a≠D:=by intro z;subst z;rw [g] at e;cases e
 have q:=hr a ob e;cases ob with
 |lst xs=>obtain ⟨vs,h1,h2⟩:=q;exact ⟨vs,by rw [qM ha];exact h1,h2.wrD hD⟩
 |frz xs=>obtain ⟨vs,⟨o1,h1⟩,h2⟩:=q;exact ⟨vs,⟨o1,by rw [qM ha];exact h1⟩,h2.wrD hD⟩
def Rel.wrD {D:Addr} {o:HO} {ws:List V} {τ:St3} {σ:L2.St} (r:Rel K τ G σ H) (hD:H D=some (.lst ws)) (g:G D=none):Rel K τ G σ (upd H D o):=
 ⟨r.hp.wrD hD g,r.len,λi t e=>let ⟨v,h1,h2⟩:=r.st i t e;⟨v,h1,h2.wrD hD⟩⟩
def Kp.wrD {D:Addr} {o:HO} (k:Kp G H G' H') (hD:H D=none):Kp G H G' (upd H' D o):=λa ob h g=>by
 obtain ⟨h1,h2⟩:=k a ob h g;exact ⟨by rw [qM (qF h hD)];exact h1,h2⟩
def qbT {α:Type} {m:List (Option Nat)} {σ:List (Option α)} {i j:Nat} (h:m[i]?=some (some j)):(cap m σ)[i]?=some ((σ[j]?).join):=by
 unfold cap;rw [getElem?_map,h];rfl
def Rel.cap {τ:St3} {σ:L2.St} (r:Rel K τ G σ H) (m:List (Option Nat)):Rel K (cap m τ) G (L3.cap m σ) H:=by
 refine ⟨r.hp,by simp [L3.cap],λi t e=>?_⟩;obtain ⟨j,e1,e2⟩:=NJ e;obtain ⟨v,h1,h2⟩:=r.st j t e2;exact ⟨v,by rw [qbT e1,h1];rfl,h2⟩
end
def CF (stay:Gp->Prop) (g:TG3) (tif:TT3) (te:TE3) (q:Q3):List T->List T->St3->Gp->Prop
 |[],ys,_,G=>stay G/\∀ p,G p=none->q (.ref p) (gu G p (.lst ys))
 |x::r,ys,τ,G=>stay G/\g x τ G λτ2 G2=>tif τ2 G2 λk G3=>if k=true then te τ2 G3 λy G4=>ys.length<sizeLine/\CF stay g tif te q r (ys++[y]) τ2 G4 else CF stay g tif te q r ys τ2 G3
def lc3 (wi:TI3) (g:TG3) (tif:TT3) (te:TE3) (m:List (Option Nat)):TE3:=λτ G q=>wi τ G λitems stay G1=>CF stay g tif te q items [] (cap m τ) G1
abbrev F3 (X:Cx) (ifs:List Expr) (t:TT3):Prop:=PF X ifs (lT X.K t)
def tt3:TT3:=λ_ G q=>q true G
def qm6 {X:Cx}:F3 X [] tt3:=λpins s σ H Q I ⟨τ,G,q,rl,h,af⟩=>qgW pins s σ H Q I (af true G h H rl.hp Kp.refl)
def qmc {X:Cx} {c:Expr} {t:TT3} (h:C3 X c t):F3 X [c] t:=qgV h
section
variable {X:Cx}
def qot {elt tg iter:Expr} {ifs:List Expr} {scope:Scope} {pos:Pos} (N':List Str) (m:List (Option Nat)) {wi:TI3} {g:TG3} {tif:TT3} {te:TE3} (hc:X.calm=true) (hi:I3 X tg iter wi)
  (hg:∀ s H fp,G3 (qv X N' scope s H fp) tg g) (hf:∀ s H fp,F3 (qv X N' scope s H fp) ifs tif) (he:∀ s H fp,E3 (qv X N' scope s H fp) elt te)
  (hsc:qbM X.env.scope scope=true) (hcap:EF X.N N' scope m=true) (hs:∀ x,foldedSetIterable iter X.env x=pure x:=by intro _;rfl) :
  E3 X (.ListComp elt [⟨tg,iter,ifs,0⟩] scope pos) (lc3 wi g tif te m):=
 DO (qmx (g:=lG X.K g) (tif:=lT X.K tif) (te:=lE X.K te) hc hi hg hf he hsc hcap hs) λσ H Q ⟨τ,G,q,rl,h,af⟩=>by
  refine ⟨τ,G,_,rl,h,λitems stay G1 h1 J H1 hr1 k1 ok D hD=>?_⟩;have gD:G1 D=none:=hr1.free hD;refine ⟨λi n σ' H'=>n=items.length-i/\i<=items.length/\∃ τ' G' ys vs,Rel X.K τ' G' σ' H'/\Kp G1 H1 G' H'/\H' D=some (.lst vs)/\Rps X.K H' ys vs/\G' D=none/\CF stay g tif te q (items.drop i) ys τ' G',
   ⟨_,rfl,Nat.zero_le _,cap m τ,G1,[],[],((rl.next hr1 k1).cap m).next (hr1.laid hD) (Kp.laid hD),Kp.laid hD,qY,.nil,gD,by simpa using h1⟩,?_⟩
  rintro i n σ' H' ⟨rfl,hi,τ',G',ys,vs,rl',k',hDl,rys,gD',h'⟩;by_cases hlt:i<items.length
  ·rw [List.drop_eq_getElem_cons hlt] at h';obtain ⟨hst,h'⟩:=h';obtain ⟨go,yld,_⟩:=ok G' H' rl'.hp k' hst;have hx:items[i]?=some items[i]:=getElem?_eq_getElem hlt;refine .inr ⟨go i _ hx,λv H2 y=>?_⟩;obtain ⟨rv,hr2,k2⟩:=yld i _ v H2 hx y;have nxt:∀ {τ4:St3} {G4:Gp} {σ4:L2.St} {H4:Hp} {ys4:List T} {vs4:List V},Rel X.K τ4 G4 σ4 H4->Kp G1 H1 G4 H4->H4 D=some (.lst vs4)->Rps X.K H4 ys4 vs4->G4 D=none->CF stay g tif te q (items.drop (i+1)) ys4 τ4 G4 ->
     ∃ n',n'<items.length-i/\(n'=items.length-(i+1)/\i+1<=items.length/\∃ τ' G' ys vs,Rel X.K τ' G' σ4 H4/\Kp G1 H1 G' H4/\H4 D=some (.lst vs)/\Rps X.K H4 ys vs/\G' D=none/\CF stay g tif te q (items.drop (i+1)) ys τ' G'):=
    λ{τ4 G4 σ4 H4 ys4 vs4} a b c d e f=>⟨_,by omega,rfl,hlt,τ4,G4,ys4,vs4,a,b,c,d,e,f⟩
   refine ⟨_,τ',G',_,rv,rl'.next hr2 k2,h',λτ3 G3 h3 σ3 H3 rl3 k3=>⟨τ3,G3,_,rl3,h3,λk G4 h4 H4 hr4 k4=>?_⟩⟩;have kk:=(k2.trans k3).trans k4;obtain ⟨hD4,gD4⟩:=kk D _ hDl gD';have rys4:=rys.keep rl'.hp kk;cases k with
   |false=>
    rw [if_neg Bool.false_ne_true] at h4;refine qnN ?_;exact nxt (rl3.next hr4 k4) (k'.trans kk) hD4 rys4 gD4 h4
   |true=>
    rw [if_pos rfl] at h4;refine qnW ?_;refine ⟨τ3,G4,_,rl3.next hr4 k4,h4,λz G5 h5 w H5 rw5 hr5 k5=>?_⟩;obtain ⟨hD5,gD5⟩:=k5 D _ hD4 gD4;have rys5:=rys4.keep hr4 k5;exact ⟨vs,hD5,by rw [← rys.length];exact h5.1,nxt (((rl3.next hr4 k4).next hr5 k5).wrD hD5 gD5) (((k'.trans kk).trans k5).wrD hD) qY ((rys5.append (.cons rw5 .nil)).wrD hD5) gD5 h5.2⟩
  ·have e:i=items.length:=by omega
   subst e;rw [List.drop_length] at h';obtain ⟨_,_,stop⟩:=ok G' H' rl'.hp k' h'.1;refine .inl ⟨stop,af _ _ (h'.2 D gD') _ H' (.ref D) (λa o e=>?_) λa o e ga=>?_⟩
   ·by_cases ha:a=D
    ·subst ha;rw [za] at e;cases e;exact ⟨vs,hDl,rys⟩
    ·rw [ZH ha] at e;exact rl'.hp a o e
   ·obtain ⟨e1,g1⟩:=k1 a o e ga;obtain ⟨e2,g2⟩:=k' a o e1 g1;exact ⟨e2,by rw [ZH (qF e1 hD)];exact g2⟩
end
structure Src (P:Program) (w:World) (it c:Addr) (St:Nat->Heap->Prop) (Has:Array Value->Heap->Prop):Prop where
 obj:∀ {k h},St k h->∃ o,h.get? it=some o/\∀ v,o.data≠.cell v
 keep:∀ {k h h'},St k h->(∀ o,h.get? it=some o->h'.get? it=some o)->St k h'
 hkeep:∀ {xs h h'},Has xs h->(∀ o,h.get? c=some o->h'.get? c=some o)->Has xs h'
 item:∀ {A:Around} {s:Shared} {k:Nat} {xs:Array Value} {x:Value} {Q:Value->Shared->Prop} {E:Value->Shared->Prop},St k s.heap->Has xs s.heap->xs[k]?=some x ->
  (∀ h',St (k+1) h'->Heap.SameBut it s.heap h'->Q x { s with heap:=h' })->wpAny (model P w) A (Builtin.SmallTypes.nextOf (.ref it)) Q E s
 done:∀ {A:Around} {s:Shared} {k:Nat} {xs:Array Value} {Q:Value->Shared->Prop} {E:Value->Shared->Prop},A.handled=none->St k s.heap->Has xs s.heap->xs[k]?=none ->
  (∀ h' e,Heap.ExtBut it s.heap h'->(∃ o,h'.get? e=some o/\o.cls=.type "StopIteration")->E (.ref e) { s with heap:=h' })->wpAny (model P w) A (Builtin.SmallTypes.nextOf (.ref it)) Q E s
def qbn {P:Program} {w:World} (it l:Addr):Src P w it l (λk h=>h.IsListIter it l k) (λxs h=>h.IsList l xs) where
 obj:=λst=>let ⟨o,e,_,d⟩:=st;⟨o,e,λv z=>by rw [d] at z;cases z⟩
 keep:=λst k=>st.at λo e=>k o e
 hkeep:=λst k=>st.at λo e=>k o e
 item:=λst hl hx hQ=>wpAny_nextOf_list_item st hl hx hQ
 done:=λhh st hl hx hE=>wpAny_nextOf_list_end hh st hl hx hE
def L0 {P:Program} {w:World} {A:Around} {s:Shared} {it t:Addr} {i:Nat} {its:Array Value} {x:Value} {Q:Value->Shared->Prop} {E:Value->Shared->Prop} (hit:s.heap.IsTupleIter it t i) (ht:s.heap.IsTuple t its) (hx:its[i]?=some x)
  (hQ:∀ h',h'.IsTupleIter it t (i+1)->Heap.SameBut it s.heap h'->Q x { s with heap:=h' }):wpAny (model P w) A (Builtin.SmallTypes.nextOf (.ref it)) Q E s:=by
 obtain ⟨o1,e1,c1,d1⟩:=id hit;obtain ⟨o2,e2,_,n2,d2⟩:=ht;unfold Builtin.SmallTypes.nextOf;refine wpAny_bind (wpAny_callSpecial?_slot (name:=Str.ofString "__next__") hit.typeIs F.slot_tuple_iterator_next (wpAny_call_entry F.slot_tuple_iterator_next hit.typeIs F.entry_tuple_iterator_next ?_ (F.args_tuple_iterator_next_1 _)));refine wpAny_bind (m:=field (.ref it) 0) (wpAny_field e1 d1 (x:=.ref t) rfl ?_);rw [if_neg (show ¬ ((Value.ref t==Value.none)=true) by exact Bool.false_ne_true)];refine wpAny_bind (m:=field (.ref it) 1) (wpAny_field e1 d1 (x:=.int i 0) rfl ?_);refine wpAny_bind (m:=seqItems? (.ref t)) (wpAny_seqItems e2 d2 ?_);simp only [Int.toNat_natCast,hx];refine wpAny_bind (wpAny_setField e1 d1 (by simp) (wpAny_pure ⟨x,rfl,wpAny_pure (hQ _ ⟨_,Heap.get?_update_self _ e1 (Obj.isFreed_of_fields (Obj.data_mapFields d1 _)),(Obj.cls_mapFields ..).trans c1,?_⟩ (Heap.SameBut.update ..))⟩));rw [Obj.data_mapFields d1];simp [rawInt]
def DZ {P:Program} {w:World} {A:Around} {s:Shared} {it t:Addr} {i:Nat} {its:Array Value} {Q:Value->Shared->Prop} {E:Value->Shared->Prop} (hh:A.handled=none) (hit:s.heap.IsTupleIter it t i) (ht:s.heap.IsTuple t its) (hx:its[i]?=none)
  (hE:∀ h' e,Heap.ExtBut it s.heap h'->(∃ o,h'.get? e=some o/\o.cls=.type "StopIteration")->E (.ref e) { s with heap:=h' }):wpAny (model P w) A (Builtin.SmallTypes.nextOf (.ref it)) Q E s:=by
 obtain ⟨o1,e1,c1,d1⟩:=id hit;obtain ⟨o2,e2,_,n2,d2⟩:=ht;unfold Builtin.SmallTypes.nextOf;refine wpAny_bind (wpAny_callSpecial?_slot (name:=Str.ofString "__next__") hit.typeIs F.slot_tuple_iterator_next (wpAny_call_entry F.slot_tuple_iterator_next hit.typeIs F.entry_tuple_iterator_next ?_ (F.args_tuple_iterator_next_1 _)));refine wpAny_bind (m:=field (.ref it) 0) (wpAny_field e1 d1 (x:=.ref t) rfl ?_);rw [if_neg (show ¬ ((Value.ref t==Value.none)=true) by exact Bool.false_ne_true)];refine wpAny_bind (m:=field (.ref it) 1) (wpAny_field e1 d1 (x:=.int i 0) rfl ?_);refine wpAny_bind (m:=seqItems? (.ref t)) (wpAny_seqItems e2 d2 ?_);simp only [Int.toNat_natCast,hx];refine wpAny_bind (wpAny_rule (wpAny_bind (wpAny_setField e1 d1 (by simp) ?_)));refine wpAny_bind (m:=newExc (.type "StopIteration") []) ?_;simp only [newExc,newTuple];refine wpAny_bind (wpAny_newObj_type ?_ (by size_fits));refine wpAny_bind (m:=firstArgMember _ _) (wpAny_of_eq (a:=Value.none) (by first|rfl|(simp only [firstArgMember]<;>rfl)) (wpAny_newObj_type ?_ (by size_fits)));simp only [raiseNew];refine wpAny_bind (wpAny_handled ?_)
 first|rw [show A.in1.handled=Option.none from hh]|rw [show A.handled=Option.none from hh]
 exact wpAny_bind (wpAny_pure (wpAny_throw (hE _ _ (((Heap.SameBut.update ..).extBut.push _).push _) ⟨_,Heap.get?_push_size _ rfl,rfl⟩)))
def qeO {P:Program} {w:World} (it t:Addr):Src P w it t (λk h=>h.IsTupleIter it t k) (λxs h=>h.IsTuple t xs) where
 obj:=λst=>let ⟨o,e,_,d⟩:=st;⟨o,e,λv z=>by rw [d] at z;cases z⟩
 keep:=λst k=>st.at λo e=>k o e
 hkeep:=λst k=>st.at λo e=>k o e
 item:=λst hl hx hQ=>L0 st hl hx hQ
 done:=λhh st hl hx hE=>DZ hh st hl hx hE
section
variable {P:Program} {w:World} {A:Around} {s:Shared} {z ti to i1 i2 c1 c2:Addr} {S1 S2:Nat->Heap->Prop} {H1 H2:Array Value->Heap->Prop} {k1 k2:Nat} {xs ys:Array Value} {x y a b:Value} {E:Value->Shared->Prop}
end
abbrev ql6 (b:Bool):String:=if b then "list_iterator" else "tuple_iterator"
abbrev TC (b:Bool) (c:Addr):Obj:={ cls:=.type (ql6 b),data:=.fields #[.ref c,.int 0 0] }
def qij (b:Bool) (it c:Addr) (k:Nat) (h:Heap):Prop:=match b with|true=>h.IsListIter it c k|false=>h.IsTupleIter it c k
def qcD (b:Bool) (c:Addr) (xs:Array Value) (h:Heap):Prop:=match b with|true=>h.IsList c xs|false=>h.IsTuple c xs
def JZ {P:Program} {w:World} (b:Bool) (it c:Addr):Src P w it c (qij b it c) (qcD b c):=by
 cases b
 ·exact qeO it c
 ·exact qbn it c
def qf2 {P:Program} {w:World} {A:Around} {s:Shared} {b:Bool} {c:Addr} {xs:Array Value} {Q:Value->Shared->Prop} {E:Value->Shared->Prop} (h:qcD b c xs s.heap) (q:Q (.ref s.heap.objs.size) { s with heap:=s.heap.push (TC b c) }) :
  wpAny (model P w) A (pyIter (.ref c)) Q E s:=by
 cases b
 ·exact wpAny_pyIter_tuple (show s.heap.IsTuple c xs from h) q
 ·exact wpAny_pyIter_list (show s.heap.IsList c xs from h) q
section
variable {P:Program} {w:World} {A:Around} {s:Shared} {E:Value->Shared->Prop}
end
def SqB (K:Frg) (b:Bool) (H:Hp) (a:Addr) (xs:List V):Prop:=match b with|true=>SqL K H a xs|false=>SqT K H a xs
def SqB.get {X:Cx} {pins:List (Addr×Obj)} {σ:L2.St} {H:Hp} {s:Shared} {b:Bool} {a:Addr} {xs:List V} (I:Inv X pins σ H s) (h:SqB X.K b H a xs):∃ its:List Value,zx xs its/\qcD b a its.toArray s.heap/\xs.length<=sizeLine:=by
 cases b
 ·obtain ⟨its,r,p,hz⟩:=I.tuple (show SqT X.K H a xs from h);exact ⟨its,r,(show s.heap.IsTuple a its.toArray from p),hz⟩
 ·obtain ⟨its,r,p,hz⟩:=I.list (show SqL X.K H a xs from h);exact ⟨its,r,p.isList,hz⟩
def SqB.inj {X:Cx} {pins:List (Addr×Obj)} {σ:L2.St} {H:Hp} {s:Shared} {b:Bool} {a:Addr} {xs ys:List V} (I:Inv X pins σ H s) (h:SqB X.K b H a xs) (h':SqB X.K b H a ys):xs=ys:=by
 cases b
 ·exact I.tuple_inj h h'
 ·exact I.list_inj h h'
def ql9 {b:Bool} {c:Addr} {xs:Array Value} {h:Heap} (q:qcD b c xs h):c<h.objs.size:=by
 cases b
 ·obtain ⟨o,e,_⟩:=(show h.IsTuple c xs from q);exact Heap.lt_size e
 ·obtain ⟨o,e,_⟩:=(show h.IsList c xs from q);exact Heap.lt_size e
section
variable {X:Cx} {a b e l:Expr} {es:List Expr} {pos:Pos}
end
def W1 (G:Gp):T->Option (List T)
 |.tup xs=>some xs
 |.ref p=>getL G p
 |_=>none
def qgM {K:Frg} {G0:Gp} {H0:Hp} {x:T} {v:V} {us:List T} (hr0:HR K G0 H0) (rx:Rp K H0 x v) (h:W1 G0 x=some us) :
  ∃ b c,v=.ref c/\∀ G H,HR K G H->Kp G0 H0 G H->W1 G x=some us->∃ vs,SqB K b H c vs/\Rps K H us vs:=by
 cases rx with
 |tup hs rs=>
  cases h;exact ⟨false,_,rfl,λG H hr k _=>⟨_,(XY hr0 k hs:SqT K H _ _),rs.keep hr0 k⟩⟩
 |ref a=>exact ⟨true,a,rfl,λG H hr k hq=>let ⟨vs,h1,h2⟩:=jk hr (show getL G a=some us from hq);⟨vs,h1,h2⟩⟩
 |_=>cases h
def qmX (us vs:List T):List T:=(us.zip vs).map λp=>.tup [p.1,p.2]
section
variable {X:Cx} {a b e l:Expr} {es:List Expr} {pos:Pos} {t:TA3}
def qeI:List T->Gp->Q3->Prop:=λxs G q=>match xs with
 |[.ref p]=>(match getL G p with|some ys=>(match qgr ys with|some k=>q (.bl k) G|none=>False)|none=>False)
 |_=>False
def qa0 {K:Frg} {H:Hp}:∀ {ys:List T} {vs:List V} {k:Bool},Rps K H ys vs->qgr ys=some k->∃ ks:List Bool,vs=ks.map V.bl/\ks.all id=k
 |_,_,_,.nil,h=>by cases h;exact ⟨[],rfl,rfl⟩
 |y::ys,_,k,.cons a b,h=>by
  unfold qgr at h;split at h
  ·rename_i e;cases e
  ·rename_i j r e;cases e;split at h
   ·rename_i i ei;obtain ⟨ks,rfl,hk⟩:=qa0 b ei;cases a;cases h;exact ⟨j::ks,rfl,by rw [List.all_cons,hk];rfl⟩
   ·cases h
  ·cases h
def R8 {K:Frg}:KY K qeI (λxs H Q=>∃ (p:Addr) (ks:List Bool),xs=[.ref p]/\SqL K H p (ks.map V.bl)/\Q (.bl (ks.all id)) H):=λxs vs G H q Q hr rs h af=>by
 unfold qeI at h;split at h
 ·rename_i p;obtain ⟨v,rfl,r⟩:=RB rs;cases r;split at h
  ·rename_i ys e0;split at h
   ·rename_i k e1;obtain ⟨us,hs,r2⟩:=jk hr e0;obtain ⟨ks,rfl,hk⟩:=qa0 r2 e1;exact ⟨p,ks,rfl,hs,by rw [hk];exact af _ G h _ H (.bl _) hr Kp.refl⟩
   ·exact h.elim
  ·exact h.elim
 ·exact h.elim
end
def ql8:Value->Bool
 |.type t=>t == "list"
 |_=>false
def V2:List (Addr×Obj)->Bool
 |[]=>true
 |p::r=>if ql8 p.2.cls then false else V2 r
def WL:∀ {K:List (Addr×Obj)} {a:Addr} {o:Obj},V2 K=true->K.lookup a=some o->o.cls≠.type "list"
 |[],_,_,_,e=>by simp at e
 | (b,x)::r,a,o,h,e=>by
  unfold V2 at h;split at h
  ·cases h
  ·rename_i hx;rw [List.lookup_cons] at e;split at e
   ·cases e;intro z;rw [z] at hx;exact hx rfl
   ·exact WL h e
def LA {K:Frg} {H:Hp} {a:Addr} {ns:List Int} (hK:V2 K=true) (hO:qln H) (hS:SqL K H a (ns.map V.int)):∃ o,H a=some (.frz o (.lst (ns.map V.int))):=by
 rcases hS with (h|h)|⟨o,its,n,h1,h2,_⟩
 ·rcases hO a with z|⟨o,xs,z⟩<;>(rw [h] at z;cases z)
 ·exact h
 ·exact absurd h2 (WL hK h1)
def only (a:Addr) (ns:List Int):Gp:=λb=>if b=a then some (.frz (ns.map T.int)) else none
def qgl {K:Frg} {H:Hp} {a:Addr} {ns:List Int} (h:∃ o,H a=some (.frz o (.lst (ns.map V.int)))):HR K (only a ns) H:=λb o e=>by
 unfold only at e;split at e
 ·rename_i hb;subst hb;cases e;exact ⟨_,h,Rps.ints ns⟩
 ·cases e
def WE:Sp3:=λts G q=>∃ (a:Addr) (ns:List Int),ts=[.ref a]/\G a=some (.frz (ns.map T.int))/\ns.length<=63/\∀ G',q (.bl true) G'
def qm8 {l:PySem.W.OpenLaw} {k:Nat} {q:Program} {loose:List Str} {XP:(Str->Option Value)->Heap->Prop} {YP:World->Heap->Prop} {d:DefRec} {K:Params->PySem.W.Frag} {x:Str} (hn:l.most=some 63) (hdf:d.params.defaults=[]) (hr:Room k callerA)
  (hY:∀ (w:World) (h:Heap),YP w h->(K w.params).In h) (hK:∀ w:World,V2 (K w.params)=true)
  (F:∀ (w:World) (mg:Str->Option Value) (fa:Addr) (h:Heap),(K w.params).In h->h.Ns mainGlobals mg->mg d.name=some (.ref fa) ->
   ∃ fd:FuncData,(∀ (s:Shared) (u:Value),BindsTo s fd ⟨[u],[]⟩ [(x,u)])/\∀ base:Heap,(K w.params).In base->base.Ns mainGlobals mg->FnOk l.prog w (K w.params) mg base CX0 k fa fd [x] (lSp (K w.params) WE)) :
  PySem.W.WalkO q loose XP YP l.row.toRowW d [] (λf vs=>PySem.call f vs):=
 L2.qfj (n:=63) (k:=k) (x:=x) (CX:=λ_=>CX0) (sp:=λw=>lSp (K w.params) WE) hn (by decide) hdf hr hY F
  (λw H a ns hl hO hS=>⟨[.ref a],only a ns,λt _=>t=.bl true,qgl (LA (hK w) hO hS),.cons (.ref a) .nil,⟨a,ns,rfl,by simp [only],hl,λ_=>rfl⟩,λt G' e v H' r _ _=>by subst e;cases r;rfl⟩) λ_ _ _ _ _ z=>z
def qeJ {P:Program} {w:World} {K:Frg} {mg:Str->Option Value} {base:Heap} {x qual:Str} {st:Stmt} {f:Addr} {fd:FuncData} {N ps:List Str} {k:Nat} {sp:Sp3} {t3:TS3} (F:Fun K x qual st f fd) (S:FnScope N ps (qi st))
  (body:∀ (cdv:Value) (A:Around) (outer:List Env) (s:Shared) (H:Hp) (E:XK),Room k (A.deeper (envOfC qual (qi st) s.heap.objs.size f cdv)) ->
   B3 (qbg CX0 P w K mg base N qual (qi st) f cdv A outer s H E).nox (jh st) t3)
  (read:∀ ts G q,sp ts G q->ts.length=ps.length/\t3 { nx:=λ_ G'=>q .non G',rt:=q } (qE N ts) G):FnOk P w K mg base CX0 (k+1) f fd ps (lSp K sp):=by
 refine F.ok S (λvs H Q E ⟨ts,G,q,h1,h2,h3,h4⟩=>by rw [← h2.length];exact (read ts G q h3).1) λcdv A outer s H vs Q E hr ⟨ts,G,q,h1,h2,h3,h4⟩=>?_;refine ⟨_,body cdv A outer s H E hr,qE N ts,G,_,CU h1 h2,(read ts G q h3).2,⟨λτ' G' h' σ' H' rl' k'=>h4 _ G' h' _ H' .non rl'.hp k',h4,λ_ _ z=>z.elim,λ_ _ z=>z.elim⟩⟩
abbrev eh1 (h:Heap) (o1:Obj):Heap:=h.push o1
abbrev eh2 (h:Heap) (o1:Obj):Heap:=(eh1 h o1).push { cls:=.type "enumerate",data:=.fields #[.none,.bool false,.ref h.objs.size,rawInt 0,.none,.none] }
def LG (c:Addr) (o1:Obj) (ob:Obj) :
  Meets (Builtin.«enumerate.__new__» ⟨[.type "enumerate",.ref c],[]⟩) (λ_ R s=>s.heap.get? c=some ob /\
   (∀ (P:Program) (w:World) (A:Around) (Q:Value->Shared->Prop) (E:Value->Shared->Prop),Q (.ref s.heap.objs.size) { s with heap:=eh1 s.heap o1 }->wpAny (model P w) A (pyIter (.ref c)) Q E s) /\
   R (.ok (.ret (.ref (eh1 s.heap o1).objs.size))) { s with heap:=eh2 s.heap o1 }):=
 .of_wp λprog w A R s h=>by
  obtain ⟨hp,g,d,tk,os⟩:=s;obtain ⟨hl,h1,h⟩:=h;have hsub:=sub_enumerate;have k1:=λA Q E=>h1 prog w A Q E
  wp_walk using wpAny_loadPart' hl
  refine wpAny_stack_any λst=>wpAny_pure ?_;split
  ·rename_i c _ _ _ _ _;cases (c==Value.type "enumerate")
   ·wp_walk using wpAny_loadPart' hl,k1 _ _ _
    exact ⟨_,rfl,h⟩
   ·wp_walk using wpAny_loadPart' hl,k1 _ _ _
    exact ⟨_,rfl,h⟩
  ·wp_walk using wpAny_loadPart' hl,k1 _ _ _
   exact ⟨_,rfl,h⟩
def qbr {b:Bool} {c:Addr} {xs:Array Value} {h:Heap} (q:qcD b c xs h):∃ o,h.get? c=some o:=by
 cases b
 ·obtain ⟨o,e,_⟩:=(show h.IsTuple c xs from q);exact ⟨o,e⟩
 ·obtain ⟨o,e,_⟩:=(show h.IsList c xs from q);exact ⟨o,e⟩
section
variable {P:Program} {w:World} {A:Around} {s:Shared} {E:Value->Shared->Prop}
def MY {b:Bool} {c:Addr} {xs:Array Value} {Q:Value->Shared->Prop} (h1:qcD b c xs s.heap)
  (q:∀ h',IsEnum h' (s.heap.objs.size+1) s.heap.objs.size 0 .none->qij b s.heap.objs.size c 0 h'->(∀ c o,s.heap.get? c=some o->h'.get? c=some o)->Q (.ref (s.heap.objs.size+1)) { s with heap:=h' }) :
  wpAny (model P w) A (call (.type "enumerate") [.ref c]) Q E s:=by
 obtain ⟨ob,hob⟩:=qbr h1;refine callType_new F.called_enumerate (by decide) (F.typeCall_enumerate_1 _) (F.newCall_enumerate_1 _) (λobj=>F.args_object_init_2 obj _) F.entry_enumerate_new
  (LG c (TC b c) ob) ⟨hob,λP w A Q E q=>qf2 h1 q,?_⟩
 have e1:(eh1 s.heap (TC b c)).objs.size=s.heap.objs.size+1:=Heap.size_push ..;have g2:(eh2 s.heap (TC b c)).get? (eh1 s.heap (TC b c)).objs.size=some _:=Heap.get?_push_size _ rfl;have g1:(eh2 s.heap (TC b c)).get? s.heap.objs.size=some (TC b c):=Heap.get?_push_of_some _ (Heap.get?_push_size _ rfl);show _/\_;rw [e1] at g2 ⊢;refine ⟨⟨_,g2,rfl⟩,q _ g2 ?_ λc o e=>Heap.get?_push_of_some _ (Heap.get?_push_of_some _ e)⟩;cases b<;>exact ⟨_,g1,rfl,rfl⟩
end
def qbY {P:Program} {w:World} {A:Around} (hh:A.handled=none) (b:Bool) (it c:Addr) (hne:c≠it) (xs:Array Value) :
  Draws P w A it [it,c] xs.size (λi v=>xs[i]?=some v) (λi h=>qij b it c i h/\qcD b c xs h) where
 live:=λi h st=>let ⟨o,e,_⟩:=(JZ (P:=P) (w:=w) b it c).obj st.1;⟨o,e⟩
 frame:=λi h h' st hk=>⟨(JZ (P:=P) (w:=w) b it c).keep st.1 λo e=>hk it (by simp) o e,(JZ (P:=P) (w:=w) b it c).hkeep st.2 λo e=>hk c (by simp) o e⟩
 item:=λi s Q E hi st hQ=>by
  refine (JZ (P:=P) (w:=w) b it c).item st.1 st.2 (x:=xs[i]) (by simp [hi]) λh' st' sb=>?_;exact hQ _ h' s.toks (by simp [hi]) ⟨st',(JZ (P:=P) (w:=w) b it c).hkeep st.2 λo e=>(sb.2 c hne).trans e⟩ sb
 done:=λs Q E st hE=>(JZ (P:=P) (w:=w) b it c).done hh st.1 st.2 (by simp) hE
def XC {P:Program} {w:World} {A:Around} {s:Shared} {E:Value->Shared->Prop} {b:Bool} {e it c:Addr} {i:Nat} {xs:Array Value} {old:Value} {Q:Option Value->Shared->Prop} (hh:A.handled=none) (he:IsEnum s.heap e it i old) (p1:qij b it c i s.heap) (l1:qcD b c xs s.heap) (hx:xs[i]?=none)
  (hQ:∀ h',Heap.ExtBut it s.heap h'->Q none { s with heap:=h' }):wpAny (model P w) A (pyNext (.ref e)) Q E s:=by
 have hT:s.TypeIs (.ref e) "enumerate" := ⟨_,he,rfl⟩
 unfold pyNext;refine wpAny_bind (wpAny_attempt (wpAny_callSpecial?_slot (name:=Str.ofString "__next__") hT F.slot_enumerate_next
  (wpAny_call_entry F.slot_enumerate_next hT F.entry_enumerate_next ?_ (F.args_enumerate_next_1 _))))
 show wpAny _ _ (field (.ref e) 2 >>= _) _ _ _;refine wpAny_bind (wpAny_field he rfl (x:=.ref it) rfl ?_);refine wpAny_bind ((JZ (P:=P) (w:=w) b it c).done (show A.in1.handled=none from hh) p1 l1 hx λh' x he' hx'=>?_);obtain ⟨o,ho,hc⟩:=hx';refine wpAny_bind (wpAny_isInstance (T:="StopIteration") (b:=true) ⟨o,ho,hc⟩ isSubtype_stop ?_);exact wpAny_pure (hQ _ he')
def Ite (K:Frg) (b:Bool) (c:Addr):It:=
  ⟨λi H=>∃ xs x,SqB K b H c xs/\xs[i]?=some x,
   λi H v H'=>∃ p x,H p=none/\v=.ref p/\H'=upd H p (.tup [.int i,x])/\(∀ xs,SqB K b H c xs->xs[i]?=some x),
   λi H=>∃ xs,SqB K b H c xs/\xs.length<=i⟩
def qiB (b:Bool) (e it c:Addr) (k:Nat) (h:Heap):Prop:=(∃ old,IsEnum h e it k old)/\qij b it c k h
def qaI {P:Program} {w:World} {K:Frg} {es:List Expr} {k1:Nat} {pt:Pos} {b:Bool} {e it c:Addr} (n1:e≠it) (n2:c≠e) (n3:c≠it):Turn P w K (.Tuple es k1 pt) (Ite K b c) [e,it] e (qiB b e it c) where
 mem:=by simp
 obj:=λi h ⟨⟨old,he⟩,p1⟩ d hd=>by
  simp only [mem_cons,not_mem_nil,or_false] at hd;rcases hd with rfl|rfl
  ·exact ⟨_,he,λv q=>by cases q⟩
  ·exact (JZ (P:=P) (w:=w) b d c).obj p1
 keep:=λi h h' ⟨⟨old,he⟩,p1⟩ k=>⟨⟨old,k e (by simp) _ he⟩,(JZ (P:=P) (w:=w) b it c).keep p1 λo e=>k it (by simp) o e⟩
 item:=by
  intro X hP hw hK hc i pins s σ H E I hf st hg;subst hP hw hK;obtain ⟨xs,x,sq,hx⟩:=hg;obtain ⟨its,rv,l1,z1⟩:=sq.get I;obtain ⟨u,hu,ru⟩:=rv.get hx;obtain ⟨⟨old,he⟩,p1⟩:=st;have hil:i<its.toArray.size:=by have:=(List.getElem?_eq_some_iff.mp hu).1;simpa using this
  refine wpAny_pyNext_enum_itemD (qbY (show X.A.in1.handled=none from I.ok.hd hc) b it c n3 its.toArray) he ⟨p1,l1⟩ hil n1 (by simp only [mem_cons,not_mem_nil,or_false,not_or];exact ⟨n1,Ne.symm n2⟩) λy h' tk hy ho st' ht hsz hk=>?_;have hy':y=u:=by
   have:its.toArray[i]?=some u:=by simpa using hu
   rw [this] at hy;exact (Option.some.inj hy).symm
  subst hy';have hfr:H s.heap.objs.size=none:=I.fresh;have free:∀ b∈[e,it],H b=none:=λb hb=>(hf b hb).1;refine ⟨_,rfl,wpAny_letOwnedTupleGo_enum ho λh2 hz2 s2=>?_⟩;have elt:e<s.heap.objs.size:=Heap.lt_size he;have hp2:h2.get? s.heap.objs.size=some { cls:=.type "tuple",data:=.seq #[.int i tk,y] }:=(s2.2 _ (Nat.ne_of_gt elt)).trans ht;have up:∀ c o,c≠e->h'.get? c=some o->h2.get? c=some o:=λc o hc e=>(s2.2 c hc).trans e;have kk:∀ c o,c∉[e,it]->s.heap.get? c=some o->h2.get? c=some o:=λc o hc q=>by
   simp only [mem_cons,not_mem_nil,or_false,not_or] at hc;exact up c o hc.1 (hk c o hc.1 hc.2 q)
  have I3:Inv X pins σ (upd H s.heap.objs.size (.tup [.int i,x])) { s with heap:=h2,toks:=tk+1 }:=by
   refine I.step (g':=s.gens) (d':=s.drawn) (t':=tk+1) (ch:=[e,it]) (λb hb=>?_) (λb o _ _ hcb e _=>kk b o hcb e) (λb o _ _ hcb e _=>⟨o.slots,kk b o hcb e⟩) (λb o _ e n=>by rw [qM (Nat.ne_of_lt (Heap.lt_size e))];exact n) (λb o hcb e=>⟨o,kk b o hcb e⟩)
    (λb _ e=>by rw [qM (qF e hfr)];exact e) (λb _ _ e=>by rw [qM (qF e hfr)];exact e) (λb ps e=>⟨#[],by rw [qM (qF e hfr),e];simp⟩) (λm hm=>?_) (λb u e=>?_) I.bare
   ·obtain ⟨f0,f1,f2,f3,f4,f5⟩:=hf b hb;exact ⟨f3,f1,f4,f5⟩
   ·obtain ⟨o,es',ep,ho',r⟩:=hm;refine ⟨o,es',ep,kk _ o (λq=>?_) ho',r⟩;obtain ⟨f0,f1,_⟩:=hf X.env.locals q;exact f1 rfl
   ·by_cases hb:b=s.heap.objs.size
    ·subst hb;rw [qY] at e;cases e;exact ⟨by show 2<=sizeLine;decide,[.int i tk,y],.cons ⟨tk,rfl⟩ (.cons ru .nil),⟨_,hp2,rfl,_,rfl⟩⟩
    ·rw [qM hb] at e;refine (I.hok b u e).stay (λc v hcb q=>kk c v (λm=>?_) q) (λ_ q=>by rw [qM (qF q hfr)];exact q) λ_ _ q=>by rw [qM (qF q hfr)];exact q
     have hn:=free c m;rcases hcb with q|q
     ·rw [q] at hn;rw [hn] at e;cases e
     ·rw [hn] at q;cases q
  refine ⟨.ref s.heap.objs.size,_,I3,rfl,⟨_,x,hfr,rfl,rfl,λzs q=>by rw [q.inj I sq];exact hx⟩,⟨⟨_,by push_cast;exact hz2⟩,(JZ (P:=X.prog) (w:=X.w) b it c).keep st'.1 λo e=>up _ o (Ne.symm n1) e⟩,λb hb=>?_⟩;rw [qM (λq=>?_)]
  ·exact free b hb
  ·subst q;simp only [mem_cons,not_mem_nil,or_false] at hb;rcases hb with q|q
   ·exact absurd q (Nat.ne_of_gt elt)
   ·obtain ⟨o,e,_⟩:=(JZ (P:=X.prog) (w:=X.w) b it c).obj p1;exact absurd q (Nat.ne_of_gt (Heap.lt_size e))
 done:=by
  intro X hP hw hK hc i pins s σ H E I hf st hg;subst hP hw hK;obtain ⟨xs,sq,hend⟩:=hg;obtain ⟨its,rv,l1,z1⟩:=sq.get I;obtain ⟨⟨old,he⟩,p1⟩:=st;have e1:=rv.length;have free:∀ b∈[e,it],H b=none:=λb hb=>(hf b hb).1;refine XC (I.ok.hd hc) he p1 l1 (by simp;omega) λh' hk0=>⟨rfl,?_⟩
  have hk:∀ c o,c∉[e,it]->s.heap.get? c=some o->h'.get? c=some o:=λc o hcb q=>hk0 c o (by simp only [mem_cons,not_mem_nil,or_false,not_or] at hcb;exact hcb.2) q;refine I.step (g':=s.gens) (d':=s.drawn) (t':=s.toks) (ch:=[e,it]) (λb hb=>?_) (λb o _ _ hcb e _=>hk b o hcb e) (λb o _ _ hcb e _=>⟨o.slots,hk b o hcb e⟩) (λ_ _ _ _ n=>n) (λb o hcb e=>⟨o,hk b o hcb e⟩) (λ_ _ e=>e) (λ_ _ _ e=>e) (λb ps e=>⟨#[],by rw [e];simp⟩) (λm hm=>?_) (λb u e=>?_) I.bare
  ·obtain ⟨f0,f1,f2,f3,f4,f5⟩:=hf b hb;exact ⟨f3,f1,f4,f5⟩
  ·obtain ⟨o,es',ep,ho',r⟩:=hm;refine ⟨o,es',ep,hk _ o (λq=>?_) ho',r⟩;obtain ⟨f0,f1,_⟩:=hf X.env.locals q;exact f1 rfl
  ·refine (I.hok b u e).stay (λc v hcb q=>hk c v (λm=>?_) q) (λ_ q=>q) λ_ _ q=>q;have hn:=free c m;rcases hcb with q|q
   ·rw [q] at hn;rw [hn] at e;cases e
   ·rw [hn] at q;cases q
 self:=λA i s Q E st h=>let ⟨⟨old,he⟩,_⟩:=st;wpAny_pyIter_enum he h
section
variable {X:Cx} {a b e l:Expr} {es:List Expr} {pos:Pos}
def qgc {p pt:Pos} {k1:Nat} {ta:TA} (hg:Gl X "enumerate") (hm:X.mg "enumerate" = none) (ha:PA X [a] ta) (hs:starEach [a] X.env=[(false,eval a X.env)]:=by rfl) :
  PI X (.Tuple es k1 pt) (.Call (.Name "enumerate" p) [a] [] pos) (λσ H R=>ta σ H λvs H1=>∃ b1 c1 xs,vs=[.ref c1]/\SqB X.K b1 H1 c1 xs/\R (Ite X.K b1 c1) H1):=by
 intro pins s σ H R I h;refine Call_ (C2 I hg hm PyProof.Rows.boot_enumerate (PyProof.Rows.callWith_type1 (thn (ha pos pins s σ H _ I h) λus s1 ⟨vs,H1,I1,r1,q1⟩=>?_) (by rw [hs];rfl) (by rfl)));obtain ⟨b1,c1,xs,rfl,sq1,q⟩:=q1;obtain ⟨u1,rfl,e1⟩:=DG r1;cases (show u1=Value.ref c1 from e1);obtain ⟨its1,rv1,l1,z1⟩:=sq1.get I1;refine MY l1 λh' he hit hk=>wpAny_pyIter_enum he ?_;have lt:=ql9 l1;have ne3:∀ n c:Nat,c<n->n+1≠n/\c≠n+1/\c≠n:=λn c h=>by omega
 obtain ⟨m1,m2,m3⟩:=ne3 _ _ lt;refine ⟨s1.heap.objs.size+1,[s1.heap.objs.size+1,s1.heap.objs.size],_,_,H1,rfl,I1.kept (t':=s1.toks) hk,qaI m1 m2 m3,⟨⟨_,he⟩,hit⟩,λc hc=>?_,q⟩;have hle:s1.heap.objs.size<=c:=by
  simp only [mem_cons,not_mem_nil,or_false] at hc;rcases hc with rfl|rfl<;>first|exact Nat.le_refl _|exact Nat.le_add_right _ _
 exact I1.fpOk hle (I1.hok.fresh hle)
end
def jO (k:Nat):List T->List T
 |[]=>[]
 |x::r=>.tup [.int (k:Int),x]::jO (k+1) r
def qb2 (us:List T):List T:=jO 0 us
def U2:∀ {us:List T} {k i:Nat} {x:T},(jO k us)[i]?=some x->∃ a,us[i]?=some a/\x=.tup [.int ((k+i:Nat):Int),a]
 |[],_,_,_,h=>by simp [jO] at h
 |u::us,k,0,x,h=>by simp [jO] at h;exact ⟨u,rfl,by simp [← h]⟩
 |u::us,k,i+1,x,h=>by
  simp [jO] at h;obtain ⟨a,ha,hx⟩:=U2 h;exact ⟨a,by simpa using ha,by rw [hx];congr 4;omega⟩
def U4:∀ (us:List T) (k:Nat),(jO k us).length=us.length
 |[],_=>rfl
 |u::us,k=>by simp [jO,U4 us]
def qaK (us:List T):(qb2 us).length=us.length:=U4 us 0
def RP {us:List T} {i:Nat} {x:T} (h:(qb2 us)[i]?=some x):∃ a,us[i]?=some a/\x=.tup [.int (i:Int),a]:=by
 obtain ⟨a,ha,hx⟩:=U2 h;exact ⟨a,ha,by rw [hx];congr 4;omega⟩
def qgT {K:Frg} {b1:Bool} {c1:Addr} {x:T} {us:List T} {G0:Gp} {H0:Hp}
  (f1:∀ G H,HR K G H->Kp G0 H0 G H->W1 G x=some us->∃ vs,SqB K b1 H c1 vs/\Rps K H us vs) :
  qjm K (Ite K b1 c1) (qb2 us) (λG=>W1 G x=some us) G0 H0:=by
 intro G H hr k h1;obtain ⟨p,sp,rp⟩:=f1 G H hr k h1;refine ⟨λi z hz=>?_,λi z v H' hz hy=>?_,⟨p,sp,?_⟩⟩
 ·obtain ⟨a,ha,_⟩:=RP hz;obtain ⟨v,hv,_⟩:=rp.get ha;exact ⟨p,v,sp,hv⟩
 ·obtain ⟨a,ha,rfl⟩:=RP hz;obtain ⟨t,v1,ht,rfl,rfl,g1⟩:=hy;obtain ⟨v,hv,rv⟩:=rp.get ha;have e1:=(g1 p sp).symm.trans hv;obtain rfl:v1=v:=Option.some.inj e1;have kk:Kp G H G (upd H t (.tup [.int i,v1])):=Kp.laid ht;exact ⟨.tup (SqT.of qY) (.cons (.int _) (.cons (rv.keep hr kk) .nil)),hr.laid ht,kk⟩
 ·rw [← rp.length,qaK];exact Nat.le_refl _
def J3 (ta:TA3):TI3:=λτ G r=>ta τ G λxs G1=>match xs with
 |[x]=>(match W1 G1 x with|some us=>r (qb2 us) (λG=>W1 G x=some us) G1|_=>False)
 |_=>False
section
variable {X:Cx} {a b e l:Expr} {es:List Expr} {pos:Pos} {t:TA3}
def qh7 {p pt:Pos} {k1:Nat} (hg:Gl X "enumerate") (hm:X.mg "enumerate" = none) (ha:A3 X [a] t) (hs:starEach [a] X.env=[(false,eval a X.env)]:=by rfl) :
  I3 X (.Tuple es k1 pt) (.Call (.Name "enumerate" p) [a] [] pos) (J3 t):=
 qmm (qgc hg hm ha hs) λσ H R ⟨τ,G,r,rl,h,af⟩=>VM rl h λxs G1 h1 vs H1 rs hr1 k1 rl1=>by
  split at h1
  ·rename_i x;split at h1
   ·rename_i us e1;obtain ⟨v,rfl,r1⟩:=RB rs;obtain ⟨b1,c1,rfl,f1⟩:=qgM hr1 r1 e1;obtain ⟨p,sp,_⟩:=f1 G1 H1 hr1 Kp.refl e1;exact ⟨b1,c1,p,rfl,sp,af _ _ G1 h1 _ H1 hr1 k1 (qgT f1)⟩
   ·exact h1.elim
  ·exact h1.elim
end
section
variable {X:Cx} {a b c e:Expr} {es:List Expr} {ta tb tc te:TE3} {t:TA3} {pos:Pos}
def qgu (i:Nat) (r:R3) (te:TE3):TS3:=λd τ G=>match τ[i]? with
 |some (some x)=>te τ G λy G1=>r x y G1 λz G2=>d.nx (τ.set i (some z)) G2
 |_=>False
def qbI (i:Nat) {x:Str} {pos':Pos} (hN:X.N.Nodup) (he:E3 X e te) (hi:X.N[i]?=some x:=by rfl) (hx:Loc X.env.scope x:=by first|exact Or.inl rfl|exact Or.inr rfl) (hf:X.fn x=true\/X.env.scope.names.lookup x=some .local:=by first|exact .inl rfl|exact .inr rfl) :
  S3 X (.AugAssign (.Name x pos') .Add e pos) (qgu i (iI (·+·)) te):=
 qbh (qhM (i:=i) hN hi hx he qjf hf) λD σ H ⟨τ,G,d,rl,h,af⟩=>by
  unfold qgu at h;split at h
  ·rename_i x e1;obtain ⟨v,e2,rv⟩:=rl.st i x e1;refine ⟨v,e2,zy rl h λy G1 h1 u H1 ry hr1 k1 rl1=>?_⟩;have rv1:=rv.keep rl.hp k1;cases x<;>try exact h1.elim
   cases y<;>try exact h1.elim
   cases rv1;cases ry;exact ⟨_,_,rfl,rfl,af.nx _ G1 h1 _ H1 (rl1.set i (.int _)) k1⟩
  ·exact h.elim
def LN (ns:List Int):Prop:=ns.length<=1000000/\∀ x∈ns,-1000000000000<=x/\x<=1000000000000
def S5 (ns:List Int):∀ j,j<=ns.length->preSum (λi=>ns.getD i 0) j=(ns.take j).sum
 |0,_=>by simp [preSum]
 |j+1,h=>by
  have hj:j<ns.length:=h;unfold preSum;rw [S5 ns j (by omega),List.take_succ_eq_append_getElem hj,List.sum_append,getD_eq_getElem?_getD,getElem?_eq_getElem hj];simp
def qcS:∀ (ns:List Int),(∀ x∈ns,-1000000000000<=x/\x<=1000000000000)->-1000000000000*(ns.length:Int)<=ns.sum/\ns.sum<=1000000000000*(ns.length:Int)
 |[],_=>by simp
 |n::r,h=>by
  have h1:=h n List.mem_cons_self;have h2:=qcS r λx hx=>h x (List.mem_cons_of_mem _ hx);rw [List.sum_cons,length_cons];omega
def XV (hc:X.calm=true):JD X (.builtin "sum") (λxs H Q=>∃ (p:Addr) (ns:List Int),xs=[.ref p]/\SqL X.K H p (ns.map V.int)/\LN ns/\Q (.int ns.sum) H):=by
 intro pins s σ H xs us Q I r h;obtain ⟨p,ns,rfl,hq,ok,q⟩:=h;obtain ⟨u,rfl,rp⟩:=DG r;cases (show u=Value.ref p from rp);obtain ⟨its,rv,pl,hz⟩:=I.list hq;have hlen:its.length=ns.length:=by have:=rv.length;simp at this;omega
 have hp:p<s.heap.objs.size:=by obtain ⟨o,n,e,_⟩:=pl;exact Heap.lt_size e
 have bd:∀ j,j<=ns.length->InLong (preSum (λi=>ns.getD i 0) j):=λj hj=>by
  rw [S5 ns j hj];have:=qcS (ns.take j) λx hx=>ok.2 x (List.mem_of_mem_take hx);have hl:(ns.take j).length<=1000000:=Nat.le_trans (by rw [List.length_take];omega) ok.1;unfold InLong;omega
 refine call_sum_walk (wpAny_pyIter_list pl.isList ⟨s.heap.objs.size,_,_,_,_,_,λi=>ns.getD i 0,rfl,Walks.list (A:=X.A.in1) (show X.A.in1.handled=none from I.ok.hd hc) s.heap.objs.size p (Nat.ne_of_lt hp) its.toArray,⟨⟨_,Heap.get?_push_size _ rfl,rfl,rfl⟩,?_⟩,λb hb=>?_,λi v hv=>?_,λj hj=>?_,λh' tk t' hk=>?_⟩)
 ·obtain ⟨o,n,e,c,_,d⟩:=pl;exact ⟨o,Heap.get?_push_of_some _ e,c,n,d⟩
 ·have lt1:∀ n c:Nat,c<n->c<n+1:=λn c h=>by omega
  rw [show (({ s with heap:=s.heap.push _ }:Shared).heap.objs.size)=s.heap.objs.size+1 from Heap.size_push ..];simp only [mem_cons,not_mem_nil,or_false] at hb;rcases hb with rfl|rfl
  ·exact Nat.lt_succ_self _
  ·exact lt1 _ _ hp
 ·have hv':its[i]?=some v:=by simpa using hv
  obtain ⟨hi,_⟩:=List.getElem?_eq_some_iff.mp hv';have hi':i<ns.length:=by omega
  obtain ⟨u,hu,ru⟩:=rv.get (i:=i) (show (ns.map V.int)[i]?=some (V.int (ns[i])) by simp [hi']);rw [hv'] at hu;cases hu;obtain ⟨t,rfl⟩:=ru;exact ⟨t,by show Value.int ns[i] t=Value.int (ns.getD i 0) t;rw [getD_eq_getElem?_getD,getElem?_eq_getElem hi'];rfl⟩
 ·have hj':j<ns.length:=by rw [size_toArray] at hj;omega
  refine ⟨?_,bd _ hj'⟩;have:=ok.2 (ns.getD j 0) (by rw [getD_eq_getElem?_getD,getElem?_eq_getElem hj'];exact List.getElem_mem hj');show InLong (ns.getD j 0);unfold InLong;omega
 ·refine ⟨.int _,H,?_,⟨_,rfl⟩,by rw [size_toArray,hlen,S5 ns _ (Nat.le_refl _),List.take_length];exact q⟩;exact I.kept (h':=h') (t':=tk) λb o e=>hk b o (by simp;exact Nat.ne_of_lt (Heap.lt_size e)) (Heap.get?_push_of_some _ e)
def S7:List T->Option (List Int)
 |[]=>some []
 |.int i::r=>(match S7 r with|some ns=>some (i::ns)|none=>none)
 |_=>none
def MV (ns:List Int):S7 (ns.map T.int)=some ns:=by
 induction ns with
 |nil=>rfl
 |cons n r ih=>simp [S7,ih]
def TD:∀ {xs:List T} {ns:List Int},S7 xs=some ns->xs=ns.map T.int
 |[],_,h=>by simp [S7] at h;subst h;rfl
 |x::r,ns,h=>by
  unfold S7 at h;split at h
  ·rename_i e;cases e
  ·rename_i i r' e;cases e;split at h
   ·rename_i ms e2;cases h;rw [TD e2];rfl
   ·cases h
  ·cases h
def qiL:List T->Gp->Q3->Prop:=λxs G q=>match xs with
 |[.ref p]=>(match getL G p with|some ys=>(match S7 ys with|some ns=>LN ns/\q (.int ns.sum) G|none=>False)|none=>False)
 |_=>False
def TV {K:Frg} {H:Hp}:∀ {ns:List Int} {vs:List V},Rps K H (ns.map T.int) vs->vs=ns.map V.int
 |[],_,r=>by cases r;rfl
 |n::ns,_,r=>by
  cases r with
  |cons a b=>cases a;rw [TV b];rfl
def qgb {K:Frg}:KY K qiL (λxs H Q=>∃ (p:Addr) (ns:List Int),xs=[.ref p]/\SqL K H p (ns.map V.int)/\LN ns/\Q (.int ns.sum) H):=λxs vs G H q Q hr rs h af=>by
 unfold qiL at h;split at h
 ·rename_i p;obtain ⟨v,rfl,r⟩:=RB rs;cases r;split at h
  ·rename_i ys e0;split at h
   ·rename_i ns e1;obtain ⟨us,hs,r2⟩:=jk hr e0;have:=TD e1;subst this;have:=TV r2;subst this;exact ⟨p,ns,rfl,hs,h.1,af _ G h.2 _ H (.int _) hr Kp.refl⟩
   ·exact h.elim
  ·exact h.elim
 ·exact h.elim
end
section
variable {X:Cx}
def qfs {elt tg iter:Expr} {ifs:List Expr} {scope:Scope} {pos cpos:Pos} {N':List Str} {m:List (Option Nat)} {wi:TI} {g:TG} {tif:TT} {te:TE} {use:Option (Value->Sem Unit)} {Qc:Value->Shared->Prop} {QD:Addr->Hp->Prop} (hc:X.calm=true) (hi:PI X tg iter wi)
  (hg:∀ s H fp,PG (qv X N' scope s H fp) tg g) (hf:∀ s H fp,PF (qv X N' scope s H fp) ifs tif) (he:∀ s H fp,PE (qv X N' scope s H fp) elt te)
  (hsc:qbM X.env.scope scope=true) (hcap:EF X.N N' scope m=true) (hs:∀ x,foldedSetIterable iter X.env x=pure x) {pins:List (Addr×Obj)} {s:Shared} {σ:L2.St} {H:Hp} (I:Inv X pins σ H s)
  (h:wi σ H λJ H1=>∀ D,H1 D=none ->
   ∃ W:Nat->Nat->L2.St->Hp->Prop,(∃ n,W 0 n (cap m σ) (upd H1 D (.lst [])))/\∀ i n σ H,W i n σ H ->
    (J.stop i H/\QD D H)\/(J.go i H/\∀ x H',J.yld i H x H'->g x σ H' λσ2 H2=>tif σ2 H2 λk H3=>
     if k=true then te σ2 H3 λy H4=>∃ zs,H4 D=some (.lst zs)/\zs.length<sizeLine/\∃ n',n'<n/\W (i+1) n' σ2 (upd H4 D (.lst (zs++[y])))
     else ∃ n',n'<n/\W (i+1) n' σ2 H3))
  (fin:∀ (D:Addr) (s3:Shared) (H3:Hp) (fp:List Addr) (s6:Shared) (H6:Hp) (σ6:L2.St) (r:Flow),Inv X pins σ H3 s3->(∀ b∈fp,TW X pins H3 b)->Inv (qv X N' scope s3 H3 fp) [] σ6 H6 s6->QD D H6->compPost (model X.prog X.w) X.A X.xe use Qc (.ref D) s3.heap.objs.size (.ok r) s6) :
  wpAny (model X.prog X.w) X.A (comprehension (.ListComp elt [⟨tg,iter,ifs,0⟩] scope pos) scope X.env cpos (newList []) false (eval iter X.env) use) Qc X.xe s:=by
 have sc:=WB hsc;have hcl:∀ y∈scope.names,y.2=.free->∃ c,X.env.cells.lookup y.1=some c:=λy hy e=>by
  rcases (sc.free y hy e).2 with z|z
  ·exact I.ok.has y.1 (.inl z)
  ·exact I.ok.has y.1 (.inr z)
 refine wpAny_comprehension_free (g:=⟨tg,iter,ifs,0⟩) (gs:=[]) rfl hs (VN hcl) sc.kind sc.loc ?_;show wpAny _ _ (eval iter X.env) _ _ s;refine thn (hi pins s σ H _ I h) λv s1 h1=>thn h1 λitv s2 h2=>?_;obtain ⟨it,fp,tn,J,H2,rfl,I2,T,st2,f2,hW⟩:=h2;refine wpAny_newObj_type ?_;have hD:H2 s2.heap.objs.size=none:=I2.fresh;obtain ⟨W,⟨n0,w0⟩,turn⟩:=hW _ hD;generalize hDe:s2.heap.objs.size=D at *;have I3:Inv X pins σ (upd H2 D (.lst [])) { s2 with heap:=s2.heap.push { cls:=.type "list",dict:=none,data:=.seq ([]:List Value).toArray } }:=by
  subst hDe;exact I2.laid (t':=s2.toks) (λb u e=>Heap.get?_push_of_some _ e) (Nat.le_refl _) ⟨Nat.zero_le _,[],0,.nil,Heap.get?_push_size _ rfl⟩
 have ob2:=T.obj 0 _ st2;have ob3:∀ b∈fp,∃ o,(s2.heap.push { cls:=.type "list",dict:=none,data:=.seq ([]:List Value).toArray }).get? b=some o:=λb hb=>let ⟨o,e,_⟩:=ob2 b hb;⟨o,Heap.get?_push_of_some _ e⟩
 have f3:∀ b∈fp,TW X pins (upd H2 D (.lst [])) b:=λb hb=>by
  obtain ⟨o,e,_⟩:=ob2 b hb;have:b≠D:=by rw [← hDe];exact Nat.ne_of_lt (Heap.lt_size e)
  exact ⟨by rw [qM this];exact (f2 b hb).1,(f2 b hb).2⟩
 have k23:∀ b o,s2.heap.get? b=some o->(s2.heap.push { cls:=.type "list",dict:=none,data:=.seq ([]:List Value).toArray }).get? b=some o:=λb o e=>Heap.get?_push_of_some _ e;generalize hH3:upd H2 D (.lst [])=H3 at *;generalize hs3:({ s2 with heap:=s2.heap.push { cls:=.type "list",dict:=none,data:=.seq ([]:List Value).toArray } }:Shared)=s3 at *;have ob3:∀ b∈fp,∃ o,s3.heap.get? b=some o:=by rw [← hs3];exact ob3
 have k23:∀ b o,s2.heap.get? b=some o->s3.heap.get? b=some o:=by rw [← hs3];exact k23
 refine JA λh₁ hns hk hown=>?_;have I4:Inv (qv X N' scope s3 H3 fp) [] (cap m σ) H3 { s3 with heap:=h₁ }:=KP hc I3 sc hcap f3 ob3 hns hk hown;have tn4:tn 0 h₁:=T.keep _ _ _ st2 λb hb o e=>hk b o (k23 b o e);have fr4:∀ b∈fp,H3 b=none:=λb hb=>(f3 b hb).1;have stat:∀ {H':Hp},(∀ b∈fp,H' b=none)->∀ b∈fp,TW (qv X N' scope s3 H3 fp) [] H' b:=λhn b hb=>by
  refine ⟨hn b hb,I4.ok.exf b hb |>.1,I4.ok.exfs b hb,.inl hb,λx c e=>(I4.ok.exf b hb).2 x c e,λp hp=>absurd (show p∈([]:List (Addr×Obj)) from hp) (by simp)⟩
 show codeAny (model X.prog X.w) X.A (.compStart (.ListComp elt [⟨tg,iter,ifs,0⟩] scope pos) 0 (.ref it) (.ref D) (qv X N' scope s3 H3 fp).env) (compPost (model X.prog X.w) X.A X.xe use Qc (.ref D) s3.heap.objs.size) { s3 with heap:=h₁ };have loop:codeAny (model X.prog X.w) X.A (.compLoop (.ListComp elt [⟨tg,iter,ifs,0⟩] scope pos) 0 (.ref it) (.ref D) (qv X N' scope s3 H3 fp).env) (compPost (model X.prog X.w) X.A X.xe use Qc (.ref D) s3.heap.objs.size) { s3 with heap:=h₁ }:=by
  refine codeAny_loop rfl (λn s'=>∃ i σ' H',Inv (qv X N' scope s3 H3 fp) [] σ' H' s'/\tn i s'.heap/\(∀ b∈fp,H' b=none)/\W i n σ' H') (λn s' hI=>?_) n0 ⟨0,cap m σ,H3,I4,tn4,fr4,w0⟩;show wpAny _ X.A ((compTurn (.ListComp elt [⟨tg,iter,ifs,0⟩] scope pos) 0 (.ref it) (.ref D) (qv X N' scope s3 H3 fp).env).onRaise (λx=>do noteFrame x (qv X N' scope s3 H3 fp).env;theTreesLotGoes x)) _ _ s';refine wpAny_noted ?_;rw [compTurn_list];refine wpAny_bind (wpAny_standAt (wpAny_bind ?_));obtain ⟨i,σ5,H5,I5,st5,fr5,w5⟩:=hI;rcases turn i n σ5 H5 w5 with ⟨stop,q⟩|⟨go,step⟩
  ·refine thn (T.done (qv X N' scope s3 H3 fp) rfl rfl rfl rfl i [] s' σ5 H5 _ I5 (stat fr5) st5 stop) λr s6 ⟨hr,I6⟩=>?_;subst hr;refine wpAny_pure ?_;exact fin D s3 H3 fp s6 H5 σ5 _ I3 f3 I6 q
  ·refine thn (T.item (qv X N' scope s3 H3 fp) rfl rfl rfl rfl i [] s' σ5 H5 _ I5 (stat fr5) st5 go) λr s6 ⟨u,hr,h6⟩=>?_;subst hr;refine wpAny_bind (thn h6 λ_ s7 ⟨x,H7,I7,r7,y7,st7,fr7⟩=>?_);have I7':=I7.pinned (stat fr7) (T.obj _ _ st7);have again:∀ {σ8:L2.St} {H8:Hp} {s8:Shared},Inv (qv X N' scope s3 H3 fp) ([]++WF fp s7.heap) σ8 H8 s8->(∃ n',n'<n/\W (i+1) n' σ8 H8) ->
     ∃ m',m'<n/\∃ i σ' H',Inv (qv X N' scope s3 H3 fp) [] σ' H' s8/\tn i s8.heap/\(∀ b∈fp,H' b=none)/\W i m' σ' H':=λ{σ8 H8 s8} I8 ⟨n',hn,w8⟩=>by
    refine ⟨n',hn,i+1,σ8,H8,I8.unpinned,T.keep _ _ _ st7 λb hb o e=>(I8.pin (b,o) (mem_append_right _ (mem_append_right _ (jT hb e)))).1,λb hb=>?_,w8⟩;obtain ⟨o,e,d⟩:=T.obj _ _ st7 b hb;exact (I8.pin (b,o) (mem_append_right _ (mem_append_right _ (jT hb e)))).2.1
   refine wpAny_bind (wpAny_mono (hg s3 H3 fp _ s7 σ5 H7 x u _ I7' r7 (step x H7 y7)) (λ_ s8 ⟨σ8,H8,I8,q8⟩=>?_) λ_ _ z=>z.elim);refine wpAny_bind (wpAny_mono (hf s3 H3 fp _ s8 σ8 H8 _ I8 q8) (λk s9 ⟨H9,I9,q9⟩=>?_) λ_ _ z=>z.elim);cases k with
   |false=>
    rw [if_neg Bool.false_ne_true] at q9;exact wpAny_pure ⟨rfl,again I9 q9⟩
   |true=>
    rw [if_pos rfl] at q9;refine wpAny_bind (wpAny_bind (wpAny_mono (he s3 H3 fp _ s9 σ8 H9 _ I9 q9) (λw s10 ⟨y,H10,I10,r10,q10⟩=>?_) λ_ _ z=>z.elim));obtain ⟨zs,hz,hl,q10⟩:=q10;refine wpAny_bind (wpAny_mono (EZ (X:=qv X N' scope s3 H3 fp) _ s10 σ8 H10 (.ref D) [y] (.ref D) [w] (λ_ H11=>H11=upd H10 D (.lst (zs++[y]))) I10 rfl (.cons r10 .nil) ⟨D,zs,y,rfl,rfl,hz,hl,rfl⟩) (λ_ s11 ⟨_,H11,I11,_,e11⟩=>?_) λ_ _ z=>z.elim);subst e11;exact wpAny_pure (wpAny_pure ⟨rfl,again I11 q10⟩)
 exact codeAny_compStart_list loop (T.self X.A 0 _ _ _ tn4 loop)
def qbU {i:Nat} {y:Str} {py spos:Pos} {elt tg iter:Expr} {ifs:List Expr} {scope:Scope} {pos:Pos} {N':List Str} {m:List (Option Nat)} {wi:TI} {g:TG} {tif:TT} {te:TE} (hc:X.calm=true) (hN:X.N.Nodup) (hi:PI X tg iter wi)
  (hg:∀ s H fp,PG (qv X N' scope s H fp) tg g) (hf:∀ s H fp,PF (qv X N' scope s H fp) ifs tif) (he:∀ s H fp,PE (qv X N' scope s H fp) elt te)
  (hsc:qbM X.env.scope scope=true) (hcap:EF X.N N' scope m=true) (hs:∀ x,foldedSetIterable iter X.env x=pure x) (hiy:X.N[i]?=some y) (hl:X.env.scope.names.lookup y=some .local)
  (hsw:swapsWith (.ListComp elt [⟨tg,iter,ifs,0⟩] scope pos) (some (.Name y py)) spos.line X.env=pure true) :
  PS X (.Assign [.Name y py] (.ListComp elt [⟨tg,iter,ifs,0⟩] scope pos) spos) (qlH (tLC wi g tif te m) (qfF i)):=by
 intro pins s σ H D I h;rw [exec_Assign_Name_used _ _ _ _ hsw];refine wpAny_bind (wpAny_standAt (wpAny_bind ?_));show wpAny _ X.A (do let _←comprehension (.ListComp elt [⟨tg,iter,ifs,0⟩] scope pos) scope X.env _ (newList []) false (eval iter X.env) (some (assign (.Name y py) X.env))) _ _ s;refine wpAny_bind (wpAny_mono (qfs (use:=some (assign (.Name y py) X.env)) (QD:=λD' H'=>D.nx (σ.set i (some (.ref D'))) H') (Qc:=λ_ s'=>∃ σ' H',Inv X pins σ' H' s'/\D.nx σ' H') hc hi hg hf he hsc hcap hs I h λD' s3 H3 fp s6 H6 σ6 r I3 f3 I6 q=>?_) (λ_ s' hq=>wpAny_pure (wpAny_pure hq)) λ_ _ e=>e);have I7:Inv X pins σ H6 s6:=WD (h2:=s6.heap) I3 f3 I6 ⟨rfl,λ_ _=>rfl⟩;obtain ⟨mm,hn6,_⟩:=I6.loc;have hfC:TW X pins H6 s3.heap.objs.size:=I3.fpOk (Nat.le_refl _) I6.free;obtain ⟨f0,f1,f2,f3',f4,f5⟩:=hfC;show wpAny _ X.A (assign (.Name y py) X.env (.ref D')) _ _ _;refine wpAny_assign_Name (RH I7 hN hiy (.inl hl) (v:=.ref D') rfl (λs8 I8 hch=>?_) (.inr hl));obtain ⟨a,sb,ha⟩:=hch;have hne:s3.heap.objs.size≠a:=by
  rcases ha with rfl|ha
  ·exact f1
  ·exact Ne.symm (f4 _ _ ha)
 refine ⟨mm,hn6.sameBut sb hne,λh' sb'=>⟨_,_,I8.turned (t':=s8.toks) (λb o hb e=>(sb'.2 b hb).trans e) f0 f1 f3' f4 f5,q⟩⟩
end
def qmG {K:Frg} {m:List (Option Nat)} {wi:TI3} {g:TG3} {tif:TT3} {te:TE3} {σ:L2.St} {H:Hp} {Q:VK} (hh:lE K (lc3 wi g tif te m) σ H Q):tLC (lI K wi) (lG K g) (lT K tif) (lE K te) m σ H Q:=by
  obtain ⟨τ,G,q,rl,h,af⟩:=hh;refine ⟨τ,G,_,rl,h,λitems stay G1 h1 J H1 hr1 k1 ok D hD=>?_⟩;have gD:G1 D=none:=hr1.free hD;refine ⟨λi n σ' H'=>n=items.length-i/\i<=items.length/\∃ τ' G' ys vs,Rel K τ' G' σ' H'/\Kp G1 H1 G' H'/\H' D=some (.lst vs)/\Rps K H' ys vs/\G' D=none/\CF stay g tif te q (items.drop i) ys τ' G',
   ⟨_,rfl,Nat.zero_le _,cap m τ,G1,[],[],((rl.next hr1 k1).cap m).next (hr1.laid hD) (Kp.laid hD),Kp.laid hD,qY,.nil,gD,by simpa using h1⟩,?_⟩
  rintro i n σ' H' ⟨rfl,hi,τ',G',ys,vs,rl',k',hDl,rys,gD',h'⟩;by_cases hlt:i<items.length
  ·rw [List.drop_eq_getElem_cons hlt] at h';obtain ⟨hst,h'⟩:=h';obtain ⟨go,yld,_⟩:=ok G' H' rl'.hp k' hst;have hx:items[i]?=some items[i]:=getElem?_eq_getElem hlt;refine .inr ⟨go i _ hx,λv H2 y=>?_⟩;obtain ⟨rv,hr2,k2⟩:=yld i _ v H2 hx y;have nxt:∀ {τ4:St3} {G4:Gp} {σ4:L2.St} {H4:Hp} {ys4:List T} {vs4:List V},Rel K τ4 G4 σ4 H4->Kp G1 H1 G4 H4->H4 D=some (.lst vs4)->Rps K H4 ys4 vs4->G4 D=none->CF stay g tif te q (items.drop (i+1)) ys4 τ4 G4 ->
     ∃ n',n'<items.length-i/\(n'=items.length-(i+1)/\i+1<=items.length/\∃ τ' G' ys vs,Rel K τ' G' σ4 H4/\Kp G1 H1 G' H4/\H4 D=some (.lst vs)/\Rps K H4 ys vs/\G' D=none/\CF stay g tif te q (items.drop (i+1)) ys τ' G'):=
    λ{τ4 G4 σ4 H4 ys4 vs4} a b c d e f=>⟨_,by omega,rfl,hlt,τ4,G4,ys4,vs4,a,b,c,d,e,f⟩
   refine ⟨_,τ',G',_,rv,rl'.next hr2 k2,h',λτ3 G3 h3 σ3 H3 rl3 k3=>⟨τ3,G3,_,rl3,h3,λk G4 h4 H4 hr4 k4=>?_⟩⟩;have kk:=(k2.trans k3).trans k4;obtain ⟨hD4,gD4⟩:=kk D _ hDl gD';have rys4:=rys.keep rl'.hp kk;cases k with
   |false=>
    rw [if_neg Bool.false_ne_true] at h4;refine qnN ?_;exact nxt (rl3.next hr4 k4) (k'.trans kk) hD4 rys4 gD4 h4
   |true=>
    rw [if_pos rfl] at h4;refine qnW ?_;refine ⟨τ3,G4,_,rl3.next hr4 k4,h4,λz G5 h5 w H5 rw5 hr5 k5=>?_⟩;obtain ⟨hD5,gD5⟩:=k5 D _ hD4 gD4;have rys5:=rys4.keep hr4 k5;exact ⟨vs,hD5,by rw [← rys.length];exact h5.1,nxt (((rl3.next hr4 k4).next hr5 k5).wrD hD5 gD5) (((k'.trans kk).trans k5).wrD hD) qY ((rys5.append (.cons rw5 .nil)).wrD hD5) gD5 h5.2⟩
  ·have e:i=items.length:=by omega
   subst e;rw [List.drop_length] at h';obtain ⟨_,_,stop⟩:=ok G' H' rl'.hp k' h'.1;refine .inl ⟨stop,af _ _ (h'.2 D gD') _ H' (.ref D) (λa o e=>?_) λa o e ga=>?_⟩
   ·by_cases ha:a=D
    ·subst ha;rw [za] at e;cases e;exact ⟨vs,hDl,rys⟩
    ·rw [ZH ha] at e;exact rl'.hp a o e
   ·obtain ⟨e1,g1⟩:=k1 a o e ga;obtain ⟨e2,g2⟩:=k' a o e1 g1;exact ⟨e2,by rw [ZH (qF e1 hD)];exact g2⟩
def qfy {X:Cx} {py spos:Pos} {elt tg iter:Expr} {ifs:List Expr} {scope:Scope} {pos:Pos} {y:Str} (i:Nat) (N':List Str) (m:List (Option Nat)) {wi:TI3} {g:TG3} {tif:TT3} {te:TE3} (hc:X.calm=true) (hN:X.N.Nodup) (hi:I3 X tg iter wi)
  (hg:∀ s H fp,G3 (qv X N' scope s H fp) tg g) (hf:∀ s H fp,F3 (qv X N' scope s H fp) ifs tif) (he:∀ s H fp,E3 (qv X N' scope s H fp) elt te)
  (hsc:qbM X.env.scope scope=true) (hcap:EF X.N N' scope m=true) (hl:X.env.scope.names.lookup y=some .local) (hsw:swapsWith (.ListComp elt [⟨tg,iter,ifs,0⟩] scope pos) (some (.Name y py)) spos.line X.env=pure true) (hiy:X.N[i]?=some y:=by rfl) (hs:∀ x,foldedSetIterable iter X.env x=pure x:=by intro _;rfl) :
  S3 X (.Assign [.Name y py] (.ListComp elt [⟨tg,iter,ifs,0⟩] scope pos) spos) (qX (lc3 wi g tif te m) (gn3 i)):=
 qbh (qbU (g:=lG X.K g) (tif:=lT X.K tif) (te:=lE X.K te) hc hN hi hg hf he hsc hcap hs hiy hl hsw) λ_ σ H ⟨τ,G,d,rl,h,af⟩=>
  qmG ⟨τ,G,_,rl,h,λx G1 h1 v H1 rx hr1 k1=>af.nx _ G1 h1 _ H1 ((rl.next hr1 k1).set i rx) k1⟩
end L3
set_option autoImplicit true
namespace L3
open PySem PySem.Spec PyProof.Rows L2
structure jE3 (X:Cx) (e:Expr) (t:TE3):Prop where h:E3 X e t
structure jC3 (X:Cx) (e:Expr) (t:TT3):Prop where h:C3 X e t
structure jW3 (X:Cx) (e:Expr) (t:TT3):Prop where h:W3 X e t
structure jA3 (X:Cx) (e:List Expr) (t:TA3):Prop where h:A3 X e t
structure jP3 (X:Cx) (e:Option Expr) (t:TO3):Prop where h:P3 X e t
structure jS3 (X:Cx) (e:Stmt) (t:TS3):Prop where h:S3 X e t
structure jB3 (X:Cx) (e:List Stmt) (t:TS3):Prop where h:B3 X e t
structure jG3 (X:Cx) (e:Expr) (t:TG3):Prop where h:G3 X e t
structure jGs3 (X:Cx) (e:List Expr) (t:RZ):Prop where h:Gs3 X e t
structure jI3 (X:Cx) (tg e:Expr) (t:TI3):Prop where h:I3 X tg e t
structure jF3 (X:Cx) (e:List Expr) (t:TT3):Prop where h:F3 X e t
def qb {X:Cx} (i:Nat) {x:Str} {pos:Pos} (hN:X.N[i]?=some x:=by rfl) (hv:Vis X.env.scope x:=by first|exact Or.inl rfl|exact Or.inr (Or.inl rfl)|exact Or.inr (Or.inr rfl)) (hd:(x==("__debug__" : Str))=false:=by decide)
  (hcd:(x==("__classdict__" : Str))=false:=by decide):jE3 X (.Name x pos) (v3 i):=
 ⟨qml (i:=i) (hN:=hN) (hv:=hv) (hd:=hd) (hcd:=hcd)⟩
def qe {X:Cx} {i:Int} {j pos}:jE3 X (.Constant (.int i) j pos) (c3 (.int i)):=
 ⟨ql1 ⟩
def UD {X:Cx} {b:Bool} {j pos}:jE3 X (.Constant (.bool b) j pos) (c3 (.bl b)):=
 ⟨qoh ⟩
def U5 {X:Cx} {j pos}:jE3 X (.Constant .none j pos) (c3 .non):=
 ⟨qm9 ⟩
def qaw {X:Cx} {x:Str} {j pos}:jE3 X (.Constant (.str x) j pos) (c3 (.str x)):=
 ⟨qlF ⟩
def JW {ta:TE3} {tb:TE3} {pos:Pos} {a:Expr} {b:Expr} {X:Cx} {op:CmpOp} {r3:R3} {r:R2} (ho:OpR X (compareOp op) r) (hr:V6 X.K r3 r) (ha:jE3 X a ta) (hb:jE3 X b tb) (hm:behindInMarks op b=false):jE3 X (.Compare a [op] [b] pos) (o3 r3 ta tb):=
 ⟨qlD (ho:=ho) (hr:=hr) (ha:=ha.h) (hb:=hb.h) (hm:=hm)⟩
def qV {ta:TE3} {tb:TE3} {pos:Pos} {a:Expr} {b:Expr} {X:Cx} {op:CmpOp} {r3:R3} {r:R2} (ho:OpR X (compareOp op) r) (hr:V6 X.K r3 r) (ha:jE3 X a ta) (hb:jE3 X b tb) (hm:behindInMarks op b=false):jC3 X (.Compare a [op] [b] pos) (tb3 (o3 r3 ta tb)):=
 ⟨qmb (ho:=ho) (hr:=hr) (ha:=ha.h) (hb:=hb.h) (hm:=hm)⟩
def qb1 {ta:TE3} {tb:TE3} {tc:TE3} {pos:Pos} {a:Expr} {b:Expr} {c:Expr} {X:Cx} {op op':CmpOp} {r3 r3':R3} {r r':R2} (ho:OpR X (compareOp op) r) (hr:V6 X.K r3 r) (ho':OpR X (compareOp op') r') (hr':V6 X.K r3' r') (ha:jE3 X a ta) (hb:jE3 X b tb) (hc:jE3 X c tc)
  (hm:lastMarks [op,op'] [b,c]=false:=by with_unfolding_all rfl):jE3 X (.Compare a [op,op'] [b,c] pos) (ch3 r3 r3' ta tb tc):=
 ⟨qfp (ho:=ho) (hr:=hr) (ho':=ho') (hr':=hr') (ha:=ha.h) (hb:=hb.h) (hc:=hc.h) (hm:=hm)⟩
def qbC {ta:TE3} {tb:TE3} {tc:TE3} {pos:Pos} {a:Expr} {b:Expr} {c:Expr} {X:Cx} {op op':CmpOp} {r3 r3':R3} {r r':R2} (ho:OpR X (compareOp op) r) (hr:V6 X.K r3 r) (ho':OpR X (compareOp op') r') (hr':V6 X.K r3' r') (ha:jE3 X a ta) (hb:jE3 X b tb) (hc:jE3 X c tc)
  (hm:lastMarks [op,op'] [b,c]=false:=by with_unfolding_all rfl):jC3 X (.Compare a [op,op'] [b,c] pos) (tb3 (ch3 r3 r3' ta tb tc)):=
 ⟨qfK (ho:=ho) (hr:=hr) (ho':=ho') (hr':=hr') (ha:=ha.h) (hb:=hb.h) (hc:=hc.h) (hm:=hm)⟩
def CH {ta:TE3} {tb:TE3} {pos:Pos} {a:Expr} {b:Expr} {X:Cx} (ha:jE3 X a ta) (hb:jE3 X b tb):jE3 X (.BinOp a .Sub b pos) (o3 (iI (·-·)) ta tb):=
 ⟨qnm (ha:=ha.h) (hb:=hb.h)⟩
def ES {ta:TE3} {tb:TE3} {pos:Pos} {a:Expr} {b:Expr} {X:Cx} (ha:jE3 X a ta) (hb:jE3 X b tb):jE3 X (.BinOp a .Mult b pos) (o3 (iC WR (·*·)) ta tb):=
 ⟨qlW (ha:=ha.h) (hb:=hb.h)⟩
def UT {ta:TE3} {tb:TE3} {pos:Pos} {a:Expr} {b:Expr} {X:Cx} (ha:jE3 X a ta) (hb:jE3 X b tb):jE3 X (.BinOp a .Mod b pos) (o3 (iC (λ_ j=>0<j) (·%·)) ta tb):=
 ⟨qmr (ha:=ha.h) (hb:=hb.h)⟩
def MM {ta:TE3} {tb:TE3} {pos:Pos} {a:Expr} {b:Expr} {X:Cx} (ha:jE3 X a ta) (hb:jE3 X b tb):jE3 X (.BinOp a .FloorDiv b pos) (o3 (iC qcI (·/·)) ta tb):=
 ⟨qmj (ha:=ha.h) (hb:=hb.h)⟩
def qjP {ta:TE3} {tb:TE3} {pos:Pos} {a:Expr} {b:Expr} {X:Cx} (ha:jE3 X a ta) (hb:jE3 X b tb):jE3 X (.BinOp a .Pow b pos) (o3 (iC W7 (λi j=>i ^ j.toNat)) ta tb):=
 ⟨qlE (ha:=ha.h) (hb:=hb.h)⟩
def N9 {ta:TE3} {tb:TE3} {pos:Pos} {a:Expr} {b:Expr} {X:Cx} (ha:jE3 X a ta) (hb:jE3 X b tb):jE3 X (.BinOp a .BitXor b pos) (o3 (iI Builtin.bitXor) ta tb):=
 ⟨qmU (ha:=ha.h) (hb:=hb.h)⟩
def DJ {ta:TE3} {tb:TE3} {pos:Pos} {a:Expr} {b:Expr} {X:Cx} (ha:jE3 X a ta) (hb:jE3 X b tb):jE3 X (.BinOp a .BitAnd b pos) (o3 (iI Builtin.bitAnd) ta tb):=
 ⟨qjM (ha:=ha.h) (hb:=hb.h)⟩
def NR {ta:TE3} {tb:TE3} {pos:Pos} {a:Expr} {b:Expr} {X:Cx} (ha:jE3 X a ta) (hb:jE3 X b tb):jE3 X (.BinOp a .LShift b pos) (o3 (iC W7 (λi j=>i*2 ^ j.toNat)) ta tb):=
 ⟨qlX (ha:=ha.h) (hb:=hb.h)⟩
def qiu {ta:TE3} {tb:TE3} {pos:Pos} {a:Expr} {b:Expr} {X:Cx} (ha:jE3 X a ta) (hb:jE3 X b tb):jE3 X (.BinOp a .RShift b pos) (o3 (iC (λ_ j=>0<=j) (λi j=>i/2 ^ j.toNat)) ta tb):=
 ⟨qnb (ha:=ha.h) (hb:=hb.h)⟩
def U1 {ta:TE3} {pos:Pos} {a:Expr} {X:Cx} (ha:jE3 X a ta):jE3 X (.UnaryOp .USub a pos) (u3 SE ta):=
 ⟨qlM (ha:=ha.h)⟩
def WW {tA:TT3} {pos:Pos} {a:Expr} {X:Cx} (ha:jC3 X a tA):jW3 X (.BoolOp .And [a] pos) tA:=
 ⟨qhJ (ha:=ha.h)⟩
def WJ {tA:TT3} {pos:Pos} {a:Expr} {X:Cx} (ha:jC3 X a tA):jW3 X (.BoolOp .Or [a] pos) tA:=
 ⟨qmz (ha:=ha.h)⟩
def CW {jZ:List Expr} {tA:TT3} {tB:TT3} {pos:Pos} {a:Expr} {X:Cx} (ha:jC3 X a tA) (hb:jW3 X (.BoolOp .And (b::jZ) pos) tB):jW3 X (.BoolOp .And (a::b::jZ) pos) (qbw tA tB):=
 ⟨qlT (ha:=ha.h) (hb:=hb.h)⟩
def SX {jZ:List Expr} {tA:TT3} {tB:TT3} {pos:Pos} {a:Expr} {X:Cx} (ha:jC3 X a tA) (hb:jW3 X (.BoolOp .Or (b::jZ) pos) tB):jW3 X (.BoolOp .Or (a::b::jZ) pos) (or3 tA tB):=
 ⟨qoy (ha:=ha.h) (hb:=hb.h)⟩
def UV {tA:TT3} {pos:Pos} {a:Expr} {X:Cx} (ha:jC3 X a tA):jC3 X (.UnaryOp .Not a pos) (LC tA):=
 ⟨ql3 (ha:=ha.h)⟩
def Q7 {X:Cx} {e:Expr} {t:TE3} (h:jE3 X e t) (he:∀ whole,isTrue e X.env whole=(do let v←whole;standAt e.pos;holding [v] (truthy v)):=by intro _;rfl):jC3 X e (tb3 t):=
 ⟨qnl (h:=h.h) (he:=he)⟩
def TY {ta:TE3} {pos:Pos} {a:Expr} {X:Cx} {op} (h:jE3 X a ta):jE3 X (.BoolOp op [a] pos) ta:=
 ⟨qnr (h:=h.h)⟩
def K0 {jZ:List Expr} {ta:TE3} {tb:TE3} {pos:Pos} {a:Expr} {X:Cx} (ha:jE3 X a ta) (hb:jE3 X (.BoolOp .And (b::jZ) pos) tb):jE3 X (.BoolOp .And (a::b::jZ) pos) (S0 ta tb):=
 ⟨qmn (ha:=ha.h) (hb:=hb.h)⟩
def qc6 {ta:TE3} {pos:Pos} {a:Expr} {X:Cx} (ha:jE3 X a ta):jE3 X (.UnaryOp .Not a pos) (qbx ta):=
 ⟨ql5 (ha:=ha.h)⟩
def qem {tA:TT3} {ta:TE3} {tb:TE3} {pos:Pos} {a:Expr} {b:Expr} {X:Cx} {c:Expr} (hc:jC3 X c tA) (ha:jE3 X a ta) (hb:jE3 X b tb):jE3 X (.IfExp c a b pos) (if3 tA ta tb):=
 ⟨qoC (hc:=hc.h) (ha:=ha.h) (hb:=hb.h)⟩
def qd {X:Cx} :jA3 X [] qq:=
 ⟨ql4 ⟩
def qa {te:TE3} {t:TA3} {es:List Expr} {X:Cx} (ha:jE3 X e te) (hr:jA3 X es t) (hs:starEach (e::es) X.env=(false,eval e X.env)::starEach es X.env:=by rfl):jA3 X (e::es) (qc te t):=
 ⟨qj4 (ha:=ha.h) (hr:=hr.h) (hs:=hs)⟩
def VH {t:TA3} {pos:Pos} {es:List Expr} {X:Cx} {x1} (h:jA3 X es t):jE3 X (.Tuple es x1 pos) (TN t):=
 ⟨qnc (h:=h.h)⟩
def z7 {t:TA3} {pos:Pos} {es:List Expr} {X:Cx} (h:jA3 X es t):jE3 X (.List es pos) (ED t):=
 ⟨qm7 (h:=h.h)⟩
def qK {t:TA3} {pos:Pos} {es:List Expr} {X:Cx} {x:Str} {p:Pos} {id:String} {r3:List T->Gp->Q3->Prop} {r:List V->Hp->VK->Prop} (hc:JD X (.builtin id) r) (hr:KY X.K r3 r) (hg:Gl X x) (hm:X.mg x=none) (hv:bootBuiltins x=some (.builtin id)) (ha:jA3 X (e::es) t) (hn:x≠"__name__" := by decide) (hdb:(x==("__debug__" : Str))=false:=by decide)
  (he:starEach (e::es) X.env=(false,eval e X.env)::starEach es X.env:=by rfl) (hpl:(backTo pos (starEach es X.env)).any (·.1)=false:=by rfl):jE3 X (.Call (.Name x p) (e::es) [] pos) (cb3 r3 t):=
 ⟨qes (hc:=hc) (hr:=hr) (hg:=hg) (hm:=hm) (hv:=hv) (ha:=ha.h) (hn:=hn) (hdb:=hdb) (he:=he) (hpl:=hpl)⟩
def zH {t:TA3} {pos:Pos} {es:List Expr} {X:Cx} {x:Str} {p:Pos} {ty:String} {r3:List T->Gp->Q3->Prop} {r:List V->Hp->VK->Prop} (hc:JD X (.type ty) r) (hr:KY X.K r3 r) (hg:Gl X x) (hm:X.mg x=none) (hv:bootBuiltins x=some (.type ty)) (ha:jA3 X (e::es) t) (hn:x≠"__name__" := by decide) (hdb:(x==("__debug__" : Str))=false:=by decide)
  (he:starEach (e::es) X.env=(false,eval e X.env)::starEach es X.env:=by rfl) (hpl:(backTo pos (starEach es X.env)).any (·.1)=false:=by rfl):jE3 X (.Call (.Name x p) (e::es) [] pos) (cb3 r3 t):=
 ⟨qcd (hc:=hc) (hr:=hr) (hg:=hg) (hm:=hm) (hv:=hv) (ha:=ha.h) (hn:=hn) (hdb:=hdb) (he:=he) (hpl:=hpl)⟩
def zA {ta:TE3} {tb:TE3} {pos:Pos} {a:Expr} {b:Expr} {X:Cx} (ha:jE3 X a ta) (hb:jE3 X b tb) (hs:R9 b:=by intro _ _;rfl):jE3 X (.Subscript a b pos) (o3 ix3 ta tb):=
 ⟨qos (ha:=ha.h) (hb:=hb.h) (hs:=hs)⟩
def X8 {X:Cx} :jP3 X none np3:=
 ⟨qkV ⟩
def Q2 {te:TE3} {e:Expr} {X:Cx} (h:jE3 X e te):jP3 X (some e) (sp3 te):=
 ⟨qit (h:=h.h)⟩
def zO {ta:TE3} {tb:TE3} {pos:Pos} {a:Expr} {b:Expr} {X:Cx} (ha:jE3 X a ta) (hb:jE3 X b tb):jE3 X (.BinOp a .Add b pos) (o3 JT ta tb):=
 ⟨qh8 (ha:=ha.h) (hb:=hb.h)⟩
def C9 {t:TA3} {e:Expr} {X:Cx} {o:Expr} {to:TE3} {apos cpos:Pos} (ho:jE3 X o to) (ha:jA3 X [e] t)
  (hbase:attributeBase o "append" X.env (eval o X.env)=eval o X.env:=by rfl)
  (hfew:((backTo cpos (starEach [e] X.env)).all (λx=>!x.1)&&(backToKw cpos (keywordEach [] X.env)).all (λx=>x.1.isSome)
   && decide (([e]:List Expr).length+([]:List Keyword).length+(if ([]:List Keyword).isEmpty then 0 else 1)<30))=true:=by rfl)
  (hline:(apos.endLine==cpos.line)=true:=by rfl) (hs:starEach [e] X.env=(false,eval e X.env)::starEach [] X.env:=by rfl) (hplain:(backTo cpos (starEach [] X.env)).any (·.1)=false:=by rfl):jE3 X (.Call (.Attribute o "append" apos) [e] [] cpos) (bm3 qbc to t):=
 ⟨qbt (ho:=ho.h) (ha:=ha.h) (hbase:=hbase) (hfew:=hfew) (hline:=hline) (hs:=hs) (hplain:=hplain)⟩
def qaM {t:TA3} {e:Expr} {X:Cx} {o:Expr} {to:TE3} {apos cpos:Pos} (ho:jE3 X o to) (ha:jA3 X [e] t)
  (hbase:attributeBase o "extend" X.env (eval o X.env)=eval o X.env:=by rfl)
  (hfew:((backTo cpos (starEach [e] X.env)).all (λx=>!x.1)&&(backToKw cpos (keywordEach [] X.env)).all (λx=>x.1.isSome)
   && decide (([e]:List Expr).length+([]:List Keyword).length+(if ([]:List Keyword).isEmpty then 0 else 1)<30))=true:=by rfl)
  (hline:(apos.endLine==cpos.line)=true:=by rfl) (hs:starEach [e] X.env=(false,eval e X.env)::starEach [] X.env:=by rfl) (hplain:(backTo cpos (starEach [] X.env)).any (·.1)=false:=by rfl):jE3 X (.Call (.Attribute o "extend" apos) [e] [] cpos) (bm3 qfM to t):=
 ⟨qbW (ho:=ho.h) (ha:=ha.h) (hbase:=hbase) (hfew:=hfew) (hline:=hline) (hs:=hs) (hplain:=hplain)⟩
def YJ {te:TE3} {pos:Pos} {e:Expr} {X:Cx} {tn:Str} {ty:String} {p p2:Pos} (he:jE3 X e te) (hg:Gl X "isinstance") (hm:X.mg "isinstance" = none) (hg2:Gl X tn) (hm2:X.mg tn=none) (hv:bootBuiltins tn=some (.type ty)) (hmem:ty∈j8:=by decide) (hn:tn≠"__name__" := by decide) (hdb:(tn==("__debug__" : Str))=false:=by decide)
  (hs:starEach [e,.Name tn p2] X.env=(false,eval e X.env)::starEach [.Name tn p2] X.env:=by rfl) (hs2:starEach [.Name tn p2] X.env=(false,eval (.Name tn p2) X.env)::starEach [] X.env:=by rfl) (hpl:(backTo pos (starEach [.Name tn p2] X.env)).any (·.1)=false:=by rfl):jE3 X (.Call (.Name "isinstance" p) [e,.Name tn p2] [] pos) (C8 (λt=>zL t ty) te):=
 ⟨qni (he:=he.h) (hg:=hg) (hm:=hm) (hg2:=hg2) (hm2:=hm2) (hv:=hv) (hmem:=hmem) (hn:=hn) (hdb:=hdb) (hs:=hs) (hs2:=hs2) (hpl:=hpl)⟩
def MK {te:TE3} {pos:Pos} {e:Expr} {X:Cx} {tn tn':Str} {ty ty':String} {p p2 p3 p4:Pos} {x1} (he:jE3 X e te) (hg:Gl X "isinstance") (hm:X.mg "isinstance" = none) (hg2:Gl X tn) (hm2:X.mg tn=none) (hv:bootBuiltins tn=some (.type ty)) (hg3:Gl X tn') (hm3:X.mg tn'=none) (hv3:bootBuiltins tn'=some (.type ty'))
  (hmem:ty∈j8:=by decide) (hn:tn≠"__name__" := by decide) (hdb:(tn==("__debug__" : Str))=false:=by decide) (hmem3:ty'∈j8:=by decide) (hn3:tn'≠"__name__" := by decide) (hdb3:(tn'==("__debug__" : Str))=false:=by decide)
  (hs:starEach [e,.Tuple [.Name tn p2,.Name tn' p3] x1 p4] X.env=(false,eval e X.env)::starEach [.Tuple [.Name tn p2,.Name tn' p3] x1 p4] X.env:=by rfl) (hs2:starEach [.Tuple [.Name tn p2,.Name tn' p3] x1 p4] X.env=(false,eval (.Tuple [.Name tn p2,.Name tn' p3] x1 p4) X.env)::starEach [] X.env:=by rfl)
  (hs3:starEach [.Name tn p2,.Name tn' p3] X.env=(false,eval (.Name tn p2) X.env)::starEach [.Name tn' p3] X.env:=by rfl) (hs4:starEach [.Name tn' p3] X.env=(false,eval (.Name tn' p3) X.env)::starEach [] X.env:=by rfl)
  (hpl:(backTo pos (starEach [.Tuple [.Name tn p2,.Name tn' p3] x1 p4] X.env)).any (·.1)=false:=by rfl):jE3 X (.Call (.Name "isinstance" p) [e,.Tuple [.Name tn p2,.Name tn' p3] x1 p4] [] pos) (C8 (λt=>zL t ty||zL t ty') te):=
 ⟨qic (he:=he.h) (hg:=hg) (hm:=hm) (hg2:=hg2) (hm2:=hm2) (hv:=hv) (hg3:=hg3) (hm3:=hm3) (hv3:=hv3) (hmem:=hmem) (hn:=hn) (hdb:=hdb) (hmem3:=hmem3) (hn3:=hn3) (hdb3:=hdb3) (hs:=hs) (hs2:=hs2) (hs3:=hs3) (hs4:=hs4) (hpl:=hpl)⟩
def zT {X:Cx} :jB3 X [] zR:=
 ⟨qmT ⟩
def qh {jZ:List Stmt} {st:Stmt} {t1:TS3} {t2:TS3} {X:Cx} (h1:jS3 X st t1) (h2:jB3 X jZ t2):jB3 X (st::jZ) (qQ t1 t2):=
 ⟨qhC (h1:=h1.h) (h2:=h2.h)⟩
def qm {st:Stmt} {t1:TS3} {X:Cx} (h1:jS3 X st t1):jB3 X [st] t1:=
 ⟨qmI (h1:=h1.h)⟩
def SB {te:TE3} {pos:Pos} {e:Expr} {X:Cx} (he:jE3 X e te) (hs:swapsWith e none pos.line X.env=pure false:=by rfl):jS3 X (.Expr e pos) (DI te):=
 ⟨qkj (he:=he.h) (hs:=hs)⟩
def qB {te:TE3} {pos:Pos} {e:Expr} {X:Cx} (he:jE3 X e te):jS3 X (.Return (some e) pos) (zX te):=
 ⟨qm1 (he:=he.h)⟩
def jP {tA:TT3} {t1:TS3} {t2:TS3} {pos:Pos} {X:Cx} {c:Expr} {ba bb:List Stmt} (hc:jC3 X c tA) (ha:jB3 X ba t1) (hb:jB3 X bb t2):jS3 X (.If c ba bb pos) (YF tA t1 t2):=
 ⟨qol (hc:=hc.h) (ha:=ha.h) (hb:=hb.h)⟩
def qS {pos:Pos} {X:Cx} {i:Nat} {x:Str} (hN:X.N.Nodup) (hi:X.N[i]?=some x:=by rfl) (hx:Loc X.env.scope x:=by first|exact Or.inl rfl|exact Or.inr rfl) (hf:X.fn x=true\/X.env.scope.names.lookup x=some .local:=by first|exact .inl rfl|exact .inr rfl):jG3 X (.Name x pos) (gn3 i):=
 ⟨qhU (hN:=hN) (hi:=hi) (hx:=hx) (hf:=hf)⟩
def VJ {X:Cx} :jGs3 X [] UR:=
 ⟨qms ⟩
def zt {es:List Expr} {X:Cx} {tg:TG3} {tgs:RZ} (h1:jG3 X e tg) (h2:jGs3 X es tgs) (hs:(assignEach (e::es) X.env).map (·.2)=assign e X.env::(assignEach es X.env).map (·.2):=by rfl):jGs3 X (e::es) (zJ tg tgs):=
 ⟨qg0 (h1:=h1.h) (h2:=h2.h) (hs:=hs)⟩
def VD {pos:Pos} {es:List Expr} {X:Cx} {k:Nat} {tgs:RZ} {n:Nat} (hc:X.calm=true) (h:jGs3 X es tgs) (hn:(assignEach es X.env).length=n:=by rfl) (hst:(assignEach es X.env).findIdx? (·.1)=none:=by rfl):jG3 X (.Tuple es k pos) (V3 n tgs):=
 ⟨qmN (hc:=hc) (h:=h.h) (hn:=hn) (hst:=hst)⟩
def qar {pos : Pos} {X : Cx} {o i : Expr} {to ti : TE3} (ho : jE3 X o to) (hi : jE3 X i ti) (ha : ∀ v,assign (.Subscript o i pos) X.env v = (do
      let ov←holding [v] (eval o X.env)
      let iv←holding [v,ov] (eval i X.env)
      standAt pos
      holding [v,ov,iv] (setItem ov iv v)
      release [v,ov,iv] []):=by intro _;rfl):jG3 X (.Subscript o i pos) (UQ to ti):=
  ⟨qmt (ho:=ho.h) (hi:=hi.h) (ha:=ha)⟩
def KT {te:TE3} {pos:Pos} {X:Cx} {tg e:Expr} {g:TG3} (he:jE3 X e te) (hg:jG3 X tg g) (hs:swapsWithSole [tg] e pos.line X.env=pure false:=by rfl) (hw:swappedStores [tg] e X.env=pure none:=by rfl)
  (h1:(assignEach [tg] X.env).map (·.2)=[assign tg X.env]:=by rfl):jS3 X (.Assign [tg] e pos) (qX te g):=
 ⟨qmu (he:=he.h) (hg:=hg.h) (hs:=hs) (hw:=hw) (h1:=h1)⟩
def qu {te:TE3} {pos:Pos} {X:Cx} (i:Nat) {x:Str} {e:Expr} {pos':Pos} (hN:X.N.Nodup) (he:jE3 X e te) (hi:X.N[i]?=some x:=by rfl) (hx:Loc X.env.scope x:=by first|exact Or.inl rfl|exact Or.inr rfl) (hs:swapsWith e (some (.Name x pos')) pos.line X.env=pure false:=by rfl) (hf:X.fn x=true\/X.env.scope.names.lookup x=some .local:=by first|exact .inl rfl|exact .inr rfl):jS3 X (.Assign [.Name x pos'] e pos) (qX te (gn3 i)):=
 ⟨qlQ (i:=i) (hN:=hN) (he:=he.h) (hi:=hi) (hx:=hx) (hs:=hs) (hf:=hf)⟩
def T1 {pos:Pos} {X:Cx} {i j:Nat} {x y:Str} {a b:Expr} {tt:TA3} {px py pt:Pos} {kt k2 pt2} (hc:X.calm=true) (hN:X.N.Nodup) (hi:X.N[i]?=some x) (hj:X.N[j]?=some y) (hij:i≠j)
  (hx:X.env.scope.names.lookup x=some .local) (hy:X.env.scope.names.lookup y=some .local) (ha:jA3 X [a,b] tt)
  (hw:swappedStores [.Tuple [.Name x px,.Name y py] kt pt] (.Tuple [a,b] k2 pt2) X.env=pure (some [x,y]):=by rfl)
  (hs:swapsWithSole [.Tuple [.Name x px,.Name y py] kt pt] (.Tuple [a,b] k2 pt2) pos.line X.env=pure false:=by rfl):jS3 X (.Assign [.Tuple [.Name x px,.Name y py] kt pt] (.Tuple [a,b] k2 pt2) pos) (qcc i j tt):=
 ⟨qmL (hc:=hc) (hN:=hN) (hi:=hi) (hj:=hj) (hij:=hij) (hx:=hx) (hy:=hy) (ha:=ha.h) (hw:=hw) (hs:=hs)⟩
def J4 {te:TE3} {X:Cx} {tg:Expr} {l:Expr} (hl:jE3 X l te):jI3 X tg l (JC te):=
 ⟨qlA (hl:=hl.h)⟩
def QA {t:TA3} {pos:Pos} {a:Expr} {X:Cx} {tg:Expr} {p:Pos} (hg:Gl X "range") (hm:X.mg "range" = none) (ha:jA3 X [a] t) (hs:starEach [a] X.env=[(false,eval a X.env)]:=by rfl) (h1:∀ τ G q,t τ G q->t τ G λxs G=>q xs G/\xs.length=1):jI3 X tg (.Call (.Name "range" p) [a] [] pos) (Y8 t):=
 ⟨qbG (hg:=hg) (hm:=hm) (ha:=ha.h) (hs:=hs) (h1:=h1)⟩
def QY {pos:Pos} {X:Cx} {tg:Expr} {iter:Expr} {body:List Stmt} {wi:TI3} {g:TG3} {tb:TS3} (hp:PassesOwn (model X.prog X.w) X.A X.env X.xe) (hc:X.calm=true) (hi:jI3 X tg iter wi) (hg:jG3 X tg g) (hb:jB3 X body tb)
  (hs:∀ x,foldedSetIterable iter X.env x=pure x:=by intro _;rfl):jS3 X (.For tg iter body [] pos) (ER wi g tb):=
 ⟨qmW (hp:=hp) (hc:=hc) (hi:=hi.h) (hg:=hg.h) (hb:=hb.h) (hs:=hs)⟩
def qbz {pos:Pos} {X:Cx} {c:Expr} {body:List Stmt} {tc:TT3} {tb:TS3} (hp:PassesOwn (model X.prog X.w) X.A X.env X.xe) (hc:jC3 X c tc) (hb:jB3 X body tb):jS3 X (.While c body [] pos) (T0 tc tb):=
 ⟨qga (hp:=hp) (hc:=hc.h) (hb:=hb.h)⟩
def qj {t:TA3} {pos:Pos} {es:List Expr} {X:Cx} {k:Nat} {x:Str} {p:Pos} {sp:Sp3} (F:Fn3 X.prog X.w X.K X.mg X.base k x sp) (hr:Room k X.A) (hg:Gl X x) (ha:jA3 X (e::es) t) (hdb:(x==("__debug__" : Str))=false:=by decide)
  (he:starEach (e::es) X.env=(false,eval e X.env)::starEach es X.env:=by rfl) (hpl:(backTo pos (starEach es X.env)).any (·.1)=false:=by rfl):jE3 X (.Call (.Name x p) (e::es) [] pos) (cb3 sp t):=
 ⟨qhD (F:=F) (hr:=hr) (hg:=hg) (ha:=ha.h) (hdb:=hdb) (he:=he) (hpl:=hpl)⟩
def E9 {X:Cx} {elt tg iter:Expr} {ifs:List Expr} {scope:Scope} {pos:Pos} (N':List Str) (m:List (Option Nat)) {wi:TI3} {g:TG3} {tif:TT3} {te:TE3} (hc:X.calm=true) (hi:jI3 X tg iter wi)
  (hg:∀ s H fp,jG3 (qv X N' scope s H fp) tg g) (hf:∀ s H fp,jF3 (qv X N' scope s H fp) ifs tif) (he:∀ s H fp,jE3 (qv X N' scope s H fp) elt te)
  (hsc:qbM X.env.scope scope=true) (hcap:EF X.N N' scope m=true) (hs:∀ x,foldedSetIterable iter X.env x=pure x:=by intro _;rfl):jE3 X (.ListComp elt [⟨tg,iter,ifs,0⟩] scope pos) (lc3 wi g tif te m):=
 ⟨qot (N':=N') (m:=m) (hc:=hc) (hi:=hi.h) (hg:=(λs H fp=>(hg s H fp).h)) (hf:=(λs H fp=>(hf s H fp).h)) (he:=(λs H fp=>(he s H fp).h)) (hsc:=hsc) (hcap:=hcap) (hs:=hs)⟩
def YG {X:Cx}:jF3 X [] tt3:=
 ⟨qm6 ⟩
def qcF {X:Cx} {c:Expr} {t:TT3} (h:jC3 X c t):jF3 X [c] t:=
 ⟨qmc (h:=h.h)⟩
def J1 {t:TA3} {pos:Pos} {es:List Expr} {a:Expr} {X:Cx} {p pt:Pos} {k1:Nat} (hg:Gl X "enumerate") (hm:X.mg "enumerate" = none) (ha:jA3 X [a] t) (hs:starEach [a] X.env=[(false,eval a X.env)]:=by rfl):jI3 X (.Tuple es k1 pt) (.Call (.Name "enumerate" p) [a] [] pos) (J3 t):=
 ⟨qh7 (hg:=hg) (hm:=hm) (ha:=ha.h) (hs:=hs)⟩
def qaJ {te:TE3} {pos:Pos} {e:Expr} {X:Cx} (i:Nat) {x:Str} {pos':Pos} (hN:X.N.Nodup) (he:jE3 X e te) (hi:X.N[i]?=some x:=by rfl) (hx:Loc X.env.scope x:=by first|exact Or.inl rfl|exact Or.inr rfl) (hf:X.fn x=true\/X.env.scope.names.lookup x=some .local:=by first|exact .inl rfl|exact .inr rfl):jS3 X (.AugAssign (.Name x pos') .Add e pos) (qgu i (iI (·+·)) te):=
 ⟨qbI (i:=i) (hN:=hN) (he:=he.h) (hi:=hi) (hx:=hx) (hf:=hf)⟩
def qbH {X:Cx} {py spos:Pos} {elt tg iter:Expr} {ifs:List Expr} {scope:Scope} {pos:Pos} {y:Str} (i:Nat) (N':List Str) (m:List (Option Nat)) {wi:TI3} {g:TG3} {tif:TT3} {te:TE3} (hc:X.calm=true) (hN:X.N.Nodup) (hi:jI3 X tg iter wi)
  (hg:∀ s H fp,jG3 (qv X N' scope s H fp) tg g) (hf:∀ s H fp,jF3 (qv X N' scope s H fp) ifs tif) (he:∀ s H fp,jE3 (qv X N' scope s H fp) elt te)
  (hsc:qbM X.env.scope scope=true) (hcap:EF X.N N' scope m=true) (hl:X.env.scope.names.lookup y=some .local) (hsw:swapsWith (.ListComp elt [⟨tg,iter,ifs,0⟩] scope pos) (some (.Name y py)) spos.line X.env=pure true) (hiy:X.N[i]?=some y:=by rfl) (hs:∀ x,foldedSetIterable iter X.env x=pure x:=by intro _;rfl):jS3 X (.Assign [.Name y py] (.ListComp elt [⟨tg,iter,ifs,0⟩] scope pos) spos) (qX (lc3 wi g tif te m) (gn3 i)):=
 ⟨qfy (i:=i) (N':=N') (m:=m) (hc:=hc) (hN:=hN) (hi:=hi.h) (hg:=(λs H fp=>(hg s H fp).h)) (hf:=(λs H fp=>(hf s H fp).h)) (he:=(λs H fp=>(he s H fp).h)) (hsc:=hsc) (hcap:=hcap) (hl:=hl) (hsw:=hsw) (hiy:=hiy) (hs:=hs)⟩
def jpt {X:Cx} {e:Expr} {t:TT3} (h:jW3 X e t):jC3 X e t:=⟨PW.pt h.h⟩
def qJ {P:Program} {w:World} {K:Frg} {mg:Str->Option Value} {base:Heap} {x qual:Str} {st:Stmt} {f:Addr} {fd:FuncData} {N ps:List Str} {k:Nat} {sp:Sp3} {t3:TS3} (F:Fun K x qual st f fd) (S:FnScope N ps (qi st)) (bd:zB K fd ps []) (hm:mg x=some (.ref f))
  (body:∀ (cdv:Value) (A:Around) (outer:List Env) (s:Shared) (H:Hp) (E:XK),Room k (A.deeper (envOfC qual (qi st) s.heap.objs.size f cdv)) ->
   jB3 (qbg CX0 P w K mg base N qual (qi st) f cdv A outer s H E).nox (jh st) t3)
  (read:∀ ts G q,sp ts G q->ts.length=ps.length/\t3 { nx:=λ_ G'=>q .non G',rt:=q } (qE N ts) G):Fn3 P w K mg base (k+1) x sp:=
 qjs F S bd hm (λcdv A outer s H E hr=>(body cdv A outer s H E hr).h) read
def qb8 {P:Program} {w:World} {K:Frg} {mg:Str->Option Value} {base:Heap} {x qual:Str} {st:Stmt} {f:Addr} {fd:FuncData} {N ps:List Str} {k:Nat} {sp:Sp3} {t3:TS3} (F:Fun K x qual st f fd) (S:FnScope N ps (qi st))
  (body:∀ (cdv:Value) (A:Around) (outer:List Env) (s:Shared) (H:Hp) (E:XK),Room k (A.deeper (envOfC qual (qi st) s.heap.objs.size f cdv)) ->
   jB3 (qbg CX0 P w K mg base N qual (qi st) f cdv A outer s H E).nox (jh st) t3)
  (read:∀ ts G q,sp ts G q->ts.length=ps.length/\t3 { nx:=λ_ G'=>q .non G',rt:=q } (qE N ts) G):FnOk P w K mg base CX0 (k+1) f fd ps (lSp K sp):=
 qeJ F S (λcdv A outer s H E hr=>(body cdv A outer s H E hr).h) read
open PySem.SeqAt
def Ex (G G':Gp):Prop:=∀ b o,G b=some o->G' b=some o
def Ex.refl {G:Gp}:Ex G G:=λ_ _ e=>e
def Ex.trans {G G1 G2:Gp} (a:Ex G G1) (b:Ex G1 G2):Ex G G2:=λx o e=>b x o (a x o e)
def Z9 {G:Gp} {p:Addr} {o:O} (hp:G p=none):Ex G (gu G p o):=λb ob e=>by
 rw [ZH (by rintro rfl;rw [hp] at e;cases e)];exact e
mutual
inductive Dp (G:Gp):T->PyData->Prop
 |non:Dp G .non .none
 |bl (b:Bool):Dp G (.bl b) (.bool b)
 |int (i:Int):Dp G (.int i) (.int i)
 |str (x:Str):Dp G (.str x) (.str x)
 |tup {xs:List T} {ds:List PyData}:Dps G xs ds->Dp G (.tup xs) (.tuple ds)
 |lst {p:Addr} {xs:List T} {ds:List PyData}:getL G p=some xs->Dps G xs ds->Dp G (.ref p) (.list ds)
inductive Dps (G:Gp):List T->List PyData->Prop
 |nil:Dps G [] []
 |cons {x:T} {d:PyData} {xs:List T} {ds:List PyData}:Dp G x d->Dps G xs ds->Dps G (x::xs) (d::ds)
end
def Ex.getL {G G':Gp} (e:Ex G G') {p:Addr} {xs:List T} (h:getL G p=some xs):getL G' p=some xs:=by
 unfold L3.getL at h ⊢;split at h
 ·rename_i ys g;cases h;rw [e _ _ g]
 ·rename_i ys g;cases h;rw [e _ _ g]
 ·cases h
mutual
inductive DV (K:Frg) (H:Hp):V->PyData->Prop
 |non:DV K H .non .none
 |bl (b:Bool):DV K H (.bl b) (.bool b)
 |int (i:Int):DV K H (.int i) (.int i)
 |str (x:Str):DV K H (.str x) (.str x)
 |tup {a:Addr} {vs:List V} {ds:List PyData}:SqT K H a vs->DVs K H vs ds->DV K H (.ref a) (.tuple ds)
 |lst {a:Addr} {vs:List V} {ds:List PyData}:SqL K H a vs->DVs K H vs ds->DV K H (.ref a) (.list ds)
inductive DVs (K:Frg) (H:Hp):List V->List PyData->Prop
 |nil:DVs K H [] []
 |cons {x:V} {d:PyData} {xs:List V} {ds:List PyData}:DV K H x d->DVs K H xs ds->DVs K H (x::xs) (d::ds)
end
mutual
def Dp.dv {K:Frg} {G:Gp} {H:Hp} (hr:HR K G H):∀ {x:T} {d:PyData} {v:V},Dp G x d->Rp K H x v->DV K H v d
 |_,_,_,.non,.non=>.non
 |_,_,_,.bl b,.bl _=>.bl b
 |_,_,_,.int i,.int _=>.int i
 |_,_,_,.str x,.str _=>.str x
 |_,_,_,.tup h,.tup hs rs=>.tup hs (Dps.dv hr h rs)
 |_,_,_,.lst g h,r=>by
  cases r;obtain ⟨_,hs,rs⟩:=jk hr g;exact .lst hs (Dps.dv hr h rs)
def Dps.dv {K:Frg} {G:Gp} {H:Hp} (hr:HR K G H):∀ {x:List T} {d:List PyData} {v:List V},Dps G x d->Rps K H x v->DVs K H v d
 |_,_,_,.nil,.nil=>.nil
 |_,_,_,.cons a b,.cons c d=>.cons (Dp.dv hr a c) (Dps.dv hr b d)
end
mutual
def ZT:PyData->PyData->Option Bool
 |.none,.none=>some true
 |.bool a,.bool b=>some (a==b)
 |.int a,.int b=>some (a==b)
 |.str a,.str b=>some (a==b)
 |.list xs,.list ys=>JF xs ys
 |.tuple xs,.tuple ys=>JF xs ys
 |_,_=>none
def JF:List PyData->List PyData->Option Bool
 |[],[]=>some true
 |x::xs,y::ys=>match ZT x y,JF xs ys with|some a,some b=>some (a&&b)|_,_=>none
 |_,_=>some false
end
mutual
def dpt:PyData->Nat
 |.list xs=>qdh xs+1
 |.tuple xs=>qdh xs+1
 |_=>0
def qdh:List PyData->Nat
 |[]=>0
 |x::xs=>max (dpt x) (qdh xs)
end
section
variable {X:Cx} {pins:List (Addr×Obj)} {σ:L2.St} {H:Hp} {s:Shared}
mutual
def DV.inj (I:Inv X pins σ H s):∀ {v:V} {d e:PyData},DV X.K H v d->DV X.K H v e->d=e
 |_,_,_,.non,.non=>rfl
 |_,_,_,.bl _,.bl _=>rfl
 |_,_,_,.int _,.int _=>rfl
 |_,_,_,.str _,.str _=>rfl
 |_,_,_,.tup h hs,.tup k ks=>by
  have:=I.tuple_inj h k;subst this;rw [DVs.inj I hs ks]
 |_,_,_,.lst h hs,.lst k ks=>by
  have:=I.list_inj h k;subst this;rw [DVs.inj I hs ks]
 |_,_,_,.tup h hs,.lst k ks=>by
  obtain ⟨i1,_,p1,_⟩:=I.tuple h;obtain ⟨i2,_,p2,_⟩:=I.list k;exact absurd rfl (ne_of_list_tuple p2.isList (show s.heap.IsTuple _ i1.toArray from p1))
 |_,_,_,.lst k ks,.tup h hs=>by
  obtain ⟨i1,_,p1,_⟩:=I.tuple h;obtain ⟨i2,_,p2,_⟩:=I.list k;exact absurd rfl (ne_of_list_tuple p2.isList (show s.heap.IsTuple _ i1.toArray from p1))
def DVs.inj (I:Inv X pins σ H s):∀ {v:List V} {d e:List PyData},DVs X.K H v d->DVs X.K H v e->d=e
 |_,_,_,.nil,.nil=>rfl
 |_,_,_,.cons a b,.cons c d=>by rw [DV.inj I a c,DVs.inj I b d]
end
mutual
def RC:∀ {d:PyData} {b:Bool},ZT d d=some b->b=true
 |.none,_,h=>by simp [ZT] at h;exact h
 |.bool _,_,h=>by simp [ZT] at h;exact h
 |.int _,_,h=>by simp [ZT] at h;exact h
 |.str _,_,h=>by simp [ZT] at h;exact h
 |.list xs,_,h=>by simp only [ZT] at h;exact V4 h
 |.tuple xs,_,h=>by simp only [ZT] at h;exact V4 h
 |.dict _,_,h=>by simp [ZT] at h
def V4:∀ {d:List PyData} {b:Bool},JF d d=some b->b=true
 |[],_,h=>by simp [JF] at h;exact h
 |x::xs,b,h=>by
  simp only [JF] at h;split at h
  ·rename_i a c e1 e2;rw [RC e1,V4 e2] at h;simpa using h.symm
  ·cases h
end
def JG:∀ {xs ys:List PyData} {b:Bool},JF xs ys=some b->xs.length=ys.length->∃ e:Nat->Bool,(∀ (j:Nat) x y,xs[j]?=some x->ys[j]?=some y->ZT x y=some (e j))/\b=(List.range xs.length).all e
 |[],[],b,h,_=>by simp [JF] at h;exact ⟨λ_=>true,by simp,by simp [h]⟩
 |x::xs,y::ys,b,h,hl=>by
  simp only [JF] at h;split at h
  ·rename_i a c e1 e2;obtain ⟨e,h1,h2⟩:=JG e2 (by simpa using hl);refine ⟨λj=>match j with|0=>a|j+1=>e j,λj u v hu hv=>?_,?_⟩
   ·cases j with
    |zero=>simp at hu hv;subst hu;subst hv;exact e1
    |succ j=>exact h1 j u v (by simpa using hu) (by simpa using hv)
   ·rw [length_cons,List.range_succ_eq_map,List.all_cons,List.all_map];cases h;rw [h2];rfl
  ·cases h
 |[],_::_,_,_,hl=>by simp at hl
 |_::_,[],_,_,hl=>by simp at hl
def JH:∀ {xs ys:List PyData} {b:Bool},JF xs ys=some b->xs.length≠ys.length->b=false/\∃ e:Nat->Bool,∀ (j:Nat) x y,xs[j]?=some x->ys[j]?=some y->ZT x y=some (e j)
 |[],[],_,_,hl=>by simp at hl
 |[],_::_,b,h,_=>by simp [JF] at h;exact ⟨h,λ_=>true,by simp⟩
 |_::_,[],b,h,_=>by simp [JF] at h;exact ⟨h,λ_=>true,by simp⟩
 |x::xs,y::ys,b,h,hl=>by
  simp only [JF] at h;split at h
  ·rename_i a c e1 e2;obtain ⟨h0,e,h1⟩:=JH e2 (by simpa using hl);subst h0;refine ⟨by simpa using h.symm,λj=>match j with|0=>a|j+1=>e j,λj u v hu hv=>?_⟩;cases j with
   |zero=>simp at hu hv;subst hu;subst hv;exact e1
   |succ j=>exact h1 j u v (by simpa using hu) (by simpa using hv)
  ·cases h
def VE:∀ {xs:List PyData} {x:PyData},x∈xs->dpt x<=qdh xs
 |[],_,h=>by simp at h
 |y::ys,x,h=>by
  simp only [qdh];rcases mem_cons.mp h with e|e
  ·subst e;omega
  ·have:=VE e;omega
def DVs.get {K:Frg} {H:Hp}:∀ {xs:List V} {ds:List PyData} {i:Nat} {x:V},DVs K H xs ds->xs[i]?=some x->∃ d,ds[i]?=some d/\DV K H x d
 |_,_,_,_,.nil,e=>by simp at e
 |_,_,0,_,.cons r _,e=>by simp at e;subst e;exact ⟨_,rfl,r⟩
 |_,_,i+1,x,.cons _ t,e=>by
  obtain ⟨u,h1,h2⟩:=DVs.get (i:=i) (x:=x) t (by simpa using e);exact ⟨u,by simpa using h1,h2⟩
def DVs.length {K:Frg} {H:Hp}:∀ {xs:List V} {ds:List PyData},DVs K H xs ds->xs.length=ds.length
 |_,_,.nil=>rfl
 |_,_,.cons _ b=>by simp [DVs.length b]
def J2 {vs:List V} {us:List Value} (r:zx vs us) {j:Nat} (h:j<us.toArray.size):∃ v,vs[j]?=some v/\jI v us.toArray[j]:=by
 have hj:j<vs.length:=by rw [r.length];simpa using h
 obtain ⟨u,hu,ru⟩:=r.get (getElem?_eq_getElem hj);refine ⟨vs[j],getElem?_eq_getElem hj,?_⟩;have hj2:j<us.length:=by simpa using h
 rw [getElem?_eq_getElem hj2] at hu;have:us[j]=u:=Option.some.inj hu;simpa [this] using ru
def SL (I:Inv X pins σ H s):∀ (n:Nat) {v u:V} {d e:PyData} {b:Bool} {x y:Value} {A:Around},DV X.K H v d->DV X.K H u e->ZT d e=some b->dpt d<=n->A.units+n<cLine->jI v x->jI u y ->
  RcAt A s x y b/\EqAt A s x y b:=by
 intro n;induction n with
 |zero=>
  intro v u d e b x y A hv hu h hd hn rx ry;cases hv with
  |non=>cases hu<;>simp [ZT] at h;subst h;cases (show x=Value.none from rx);cases (show y=Value.none from ry);exact ⟨RcAt.none_none,EqAt.same _⟩
  |bl a=>cases hu<;>simp [ZT] at h;subst h;cases (show x=Value.bool _ from rx);cases (show y=Value.bool _ from ry);exact ⟨RcAt.bool_bool _ _,EqAt.bool_bool _ _⟩
  |int a=>cases hu<;>simp [ZT] at h;subst h;obtain ⟨t,rfl⟩:=(show ∃ t,x=Value.int _ t from rx);obtain ⟨t',rfl⟩:=(show ∃ t,y=Value.int _ t from ry);exact ⟨RcAt.int_int _ _ _ _,EqAt.int_int _ _ _ _⟩
  |str a=>cases hu<;>simp [ZT] at h;subst h;obtain ⟨t,rfl⟩:=(show ∃ t,x=Value.str _ t from rx);obtain ⟨t',rfl⟩:=(show ∃ t,y=Value.str _ t from ry);exact ⟨RcAt.str_str _ _ _ _,EqAt.str_str _ _ _ _⟩
  |tup=>simp [dpt] at hd
  |lst=>simp [dpt] at hd
 |succ n ih=>
  intro v u d e b x y A hv hu h hd hn rx ry;have fin:∀ {l l':Addr} {k:Bool},x=.ref l->y=.ref l'->v=.ref l->u=.ref l'->b=k->RcAt A s x y k->RcAt A s x y b/\EqAt A s x y b:=by
   rintro l l' k rfl rfl rfl rfl rfl rc;refine ⟨rc,?_⟩;by_cases hll:l=l'
   ·subst hll;have:=DV.inj I hv hu;subst this;rw [RC h];exact EqAt.same _
   ·exact EqAt.of_refs hll rc
  cases hv with
  |non=>cases hu<;>simp [ZT] at h;subst h;cases (show x=Value.none from rx);cases (show y=Value.none from ry);exact ⟨RcAt.none_none,EqAt.same _⟩
  |bl a=>cases hu<;>simp [ZT] at h;subst h;cases (show x=Value.bool _ from rx);cases (show y=Value.bool _ from ry);exact ⟨RcAt.bool_bool _ _,EqAt.bool_bool _ _⟩
  |int a=>cases hu<;>simp [ZT] at h;subst h;obtain ⟨t,rfl⟩:=(show ∃ t,x=Value.int _ t from rx);obtain ⟨t',rfl⟩:=(show ∃ t,y=Value.int _ t from ry);exact ⟨RcAt.int_int _ _ _ _,EqAt.int_int _ _ _ _⟩
  |str a=>cases hu<;>simp [ZT] at h;subst h;obtain ⟨t,rfl⟩:=(show ∃ t,x=Value.str _ t from rx);obtain ⟨t',rfl⟩:=(show ∃ t,y=Value.str _ t from ry);exact ⟨RcAt.str_str _ _ _ _,EqAt.str_str _ _ _ _⟩
  |tup hq hs=>
   cases hu with
   |tup kq ks=>
    rename_i a1 vs1 ds1 a2 vs2 ds2;simp only [ZT] at h;obtain ⟨i1,r1,p1,z1⟩:=I.tuple hq;obtain ⟨i2,r2,p2,z2⟩:=I.tuple kq;have l1:=hs.length;have l2:=ks.length;have m1:=r1.length;have m2:=r2.length;have el:∀ (e:Nat->Bool),(∀ (j:Nat) x y,ds1[j]?=some x->ds2[j]?=some y->ZT x y=some (e j))->∀ j (h1:j<i1.toArray.size) (h2:j<i2.toArray.size),EqAt A.in1 s i1.toArray[j] i2.toArray[j] (e j):=λe he j h1 h2=>by
     obtain ⟨w1,g1,q1⟩:=J2 r1 h1;obtain ⟨w2,g2,q2⟩:=J2 r2 h2;obtain ⟨d1,f1,dv1⟩:=hs.get g1;obtain ⟨d2,f2,dv2⟩:=ks.get g2;have:=VE (mem_of_getElem? f1);exact (ih dv1 dv2 (he j d1 d2 f1 f2) (by simp only [dpt] at hd;omega) (show A.units+1+n<cLine by omega) q1 q2).2
    cases (show x=Value.ref a1 from rx);cases (show y=Value.ref a2 from ry);by_cases hl:ds1.length=ds2.length
    ·obtain ⟨e,he,hb⟩:=JG h hl;refine fin rfl rfl rfl rfl (k:=(List.range (min i1.toArray.size i2.toArray.size)).all e&&i1.toArray.size==i2.toArray.size) ?_ (RcAt.tuples (show s.heap.IsTuple a1 i1.toArray from p1) (show s.heap.IsTuple a2 i2.toArray from p2) (by omega) (el e he));have e1:i1.toArray.size=ds1.length:=by rw [size_toArray];omega
     have e2:i2.toArray.size=ds1.length:=by rw [size_toArray];omega
     rw [e1,e2,hb];simp
    ·obtain ⟨hb,e,he⟩:=JH h hl;refine fin rfl rfl rfl rfl (k:=(List.range (min i1.toArray.size i2.toArray.size)).all e&&i1.toArray.size==i2.toArray.size) ?_ (RcAt.tuples (show s.heap.IsTuple a1 i1.toArray from p1) (show s.heap.IsTuple a2 i2.toArray from p2) (by omega) (el e he));have e1:i1.toArray.size≠i2.toArray.size:=by rw [size_toArray,size_toArray];omega
     rw [hb];simp [e1];intro;omega
   |_=>simp [ZT] at h
  |lst hq hs=>
   cases hu with
   |lst kq ks=>
    rename_i a1 vs1 ds1 a2 vs2 ds2;simp only [ZT] at h;obtain ⟨i1,r1,p1,z1⟩:=I.list hq;obtain ⟨i2,r2,p2,z2⟩:=I.list kq;have l1:=hs.length;have l2:=ks.length;have m1:=r1.length;have m2:=r2.length;have el:∀ (e:Nat->Bool),(∀ (j:Nat) x y,ds1[j]?=some x->ds2[j]?=some y->ZT x y=some (e j))->∀ j (h1:j<i1.toArray.size) (h2:j<i2.toArray.size),EqAt A.in1 s i1.toArray[j] i2.toArray[j] (e j):=λe he j h1 h2=>by
     obtain ⟨w1,g1,q1⟩:=J2 r1 h1;obtain ⟨w2,g2,q2⟩:=J2 r2 h2;obtain ⟨d1,f1,dv1⟩:=hs.get g1;obtain ⟨d2,f2,dv2⟩:=ks.get g2;have:=VE (mem_of_getElem? f1);exact (ih dv1 dv2 (he j d1 d2 f1 f2) (by simp only [dpt] at hd;omega) (show A.units+1+n<cLine by omega) q1 q2).2
    cases (show x=Value.ref a1 from rx);cases (show y=Value.ref a2 from ry);by_cases hl:ds1.length=ds2.length
    ·obtain ⟨e,he,hb⟩:=JG h hl;refine fin rfl rfl rfl rfl (k:=(List.range i1.toArray.size).all e) ?_ (RcAt.lists p1.isList p2.isList (by rw [size_toArray,size_toArray];omega) (by omega) (el e he));have e1:i1.toArray.size=ds1.length:=by rw [size_toArray];omega
     rw [e1,hb]
    ·obtain ⟨hb,e,he⟩:=JH h hl;refine fin rfl rfl rfl rfl (k:=false) hb (RcAt.lists_lengths p1.isList p2.isList (by rw [size_toArray,size_toArray];simp;omega) (by omega))
   |_=>simp [ZT] at h
def qez (I:Inv X pins σ H s) {n:Nat} {v u:V} {d e:PyData} {b:Bool} {x y:Value} {A:Around} (hv:DV X.K H v d) (hu:DV X.K H u e) (h:ZT d e=some b) (hd:dpt d<=n+1) (hn:A.units+(n+1)<cLine) (rx:jI v x) (ry:jI u y) (hs:dpt d≠0):RcNeAt A s x y (!b):=by
 cases hv with
 |tup hq hs'=>
  cases hu with
  |tup kq ks=>
   rename_i a1 vs1 ds1 a2 vs2 ds2;simp only [ZT] at h;obtain ⟨i1,r1,p1,z1⟩:=I.tuple hq;obtain ⟨i2,r2,p2,z2⟩:=I.tuple kq;have l1:=hs'.length;have l2:=ks.length;have m1:=r1.length;have m2:=r2.length;have el:∀ (e:Nat->Bool),(∀ (j:Nat) x y,ds1[j]?=some x->ds2[j]?=some y->ZT x y=some (e j))->∀ j (h1:j<i1.toArray.size) (h2:j<i2.toArray.size),EqAt A.in1 s i1.toArray[j] i2.toArray[j] (e j):=λe he j h1 h2=>by
    obtain ⟨w1,g1,q1⟩:=J2 r1 h1;obtain ⟨w2,g2,q2⟩:=J2 r2 h2;obtain ⟨d1,f1,dv1⟩:=hs'.get g1;obtain ⟨d2,f2,dv2⟩:=ks.get g2;have:=VE (mem_of_getElem? f1);exact (SL I n dv1 dv2 (he j d1 d2 f1 f2) (by simp only [dpt] at hd;omega) (show A.units+1+n<cLine by omega) q1 q2).2
   cases (show x=Value.ref a1 from rx);cases (show y=Value.ref a2 from ry);by_cases hl:ds1.length=ds2.length
   ·obtain ⟨e,he,hb⟩:=JG h hl;have:=RcNeAt.tuples (show s.heap.IsTuple a1 i1.toArray from p1) (show s.heap.IsTuple a2 i2.toArray from p2) (A:=A) (by omega) (el e he);have e1:i1.toArray.size=ds1.length:=by rw [size_toArray];omega
    have e2:i2.toArray.size=ds1.length:=by rw [size_toArray];omega
    rw [e1,e2] at this;rw [hb];simpa using this
   ·obtain ⟨hb,e,he⟩:=JH h hl;have:=RcNeAt.tuples (show s.heap.IsTuple a1 i1.toArray from p1) (show s.heap.IsTuple a2 i2.toArray from p2) (A:=A) (by omega) (el e he);have e1:(i1.toArray.size==i2.toArray.size)=false:=by rw [size_toArray,size_toArray];simp;omega
    rw [e1] at this;rw [hb];simpa using this
  |_=>simp [ZT] at h
 |lst hq hs'=>
  cases hu with
  |lst kq ks=>
   rename_i a1 vs1 ds1 a2 vs2 ds2;simp only [ZT] at h;obtain ⟨i1,r1,p1,z1⟩:=I.list hq;obtain ⟨i2,r2,p2,z2⟩:=I.list kq;have l1:=hs'.length;have l2:=ks.length;have m1:=r1.length;have m2:=r2.length;have el:∀ (e:Nat->Bool),(∀ (j:Nat) x y,ds1[j]?=some x->ds2[j]?=some y->ZT x y=some (e j))->∀ j (h1:j<i1.toArray.size) (h2:j<i2.toArray.size),EqAt A.in1 s i1.toArray[j] i2.toArray[j] (e j):=λe he j h1 h2=>by
    obtain ⟨w1,g1,q1⟩:=J2 r1 h1;obtain ⟨w2,g2,q2⟩:=J2 r2 h2;obtain ⟨d1,f1,dv1⟩:=hs'.get g1;obtain ⟨d2,f2,dv2⟩:=ks.get g2;have:=VE (mem_of_getElem? f1);exact (SL I n dv1 dv2 (he j d1 d2 f1 f2) (by simp only [dpt] at hd;omega) (show A.units+1+n<cLine by omega) q1 q2).2
   cases (show x=Value.ref a1 from rx);cases (show y=Value.ref a2 from ry);by_cases hl:ds1.length=ds2.length
   ·obtain ⟨e,he,hb⟩:=JG h hl;have:=RcNeAt.lists p1.isList p2.isList (A:=A) (by rw [size_toArray,size_toArray];omega) (by omega) (el e he);have e1:i1.toArray.size=ds1.length:=by rw [size_toArray];omega
    rw [e1] at this;rw [hb];exact this
   ·obtain ⟨hb,e,he⟩:=JH h hl;rw [hb];exact RcNeAt.lists_lengths p1.isList p2.isList (by rw [size_toArray,size_toArray];simp;omega) (by omega)
  |_=>simp [ZT] at h
 |_=>simp [dpt] at hs
def qgo (K:Frg) (neg:Bool):R2:=λx y H Q=>∃ d e b,DV K H x d/\DV K H y e/\ZT d e=some b/\dpt d<=40/\dpt d≠0/\Q (.bl (if neg then !b else b)) H
def qgB (hu:X.A.units+64<cLine):OpR X (compareOp .Eq) (qgo X.K false):=by
 intro pins s σ H x y v u Q I rx ry h;obtain ⟨d,e,b,hx,hy,hb,hd,_,q⟩:=h;exact (SL I 40 hx hy hb hd (by omega) rx ry).1 X.prog X.w X.xe _ ⟨.bl b,H,I,rfl,q⟩
def qkc (hu:X.A.units+64<cLine):OpR X (compareOp .NotEq) (qgo X.K true):=by
 intro pins s σ H x y v u Q I rx ry h;obtain ⟨d,e,b,hx,hy,hb,hd,hs,q⟩:=h;exact qez I (n:=40) hx hy hb (by omega) (by omega) rx ry hs X.prog X.w X.xe _ ⟨.bl (!b),H,I,rfl,q⟩
end
def YO (neg:Bool):R3:=λx y G q=>match qbN x y with
 |some k=>q (.bl (if neg then !k else k)) G
 |none=>∃ d e b,Dp G x d/\Dp G y e/\ZT d e=some b/\dpt d<=40/\dpt d≠0/\q (.bl (if neg then !b else b)) G
def jr {K:Frg}:V6 K (YO false) (λx y H Q=>rEq x y H Q\/qgo K false x y H Q):=λx y v u G H q Q hr rx ry h af=>by
 unfold YO at h;split at h
 ·rename_i k e;obtain ⟨h1,h2⟩:=KR rx ry e;refine .inl ⟨h1,?_⟩;rw [h2];exact af _ G h _ H (.bl _) hr Kp.refl
 ·obtain ⟨d,e,b,h1,h2,h3,h4,h5,h6⟩:=h;exact .inr ⟨d,e,b,h1.dv hr rx,h2.dv hr ry,h3,h4,h5,af _ G h6 _ H (.bl _) hr Kp.refl⟩
def Z7 {K:Frg}:V6 K (YO true) (λx y H Q=>rNe x y H Q\/qgo K true x y H Q):=λx y v u G H q Q hr rx ry h af=>by
 unfold YO at h;split at h
 ·rename_i k e;obtain ⟨h1,h2⟩:=KR rx ry e;refine .inl ⟨h1,?_⟩;rw [h2];exact af _ G h _ H (.bl _) hr Kp.refl
 ·obtain ⟨d,e,b,h1,h2,h3,h4,h5,h6⟩:=h;exact .inr ⟨d,e,b,h1.dv hr rx,h2.dv hr ry,h3,h4,h5,af _ G h6 _ H (.bl _) hr Kp.refl⟩
def ZB {X:Cx} (hu:X.A.units+64<cLine):OpR X (compareOp .Eq) (λx y H Q=>rEq x y H Q\/qgo X.K false x y H Q):=qlR.or (qgB hu)
def VU {X:Cx} (hu:X.A.units+64<cLine):OpR X (compareOp .NotEq) (λx y H Q=>rNe x y H Q\/qgo X.K true x y H Q):=qns.or (qkc hu)
end L3
namespace L3
open PySem PySem.Spec PyProof.Rows L2
section
variable {X:Cx} {pins:List (Addr×Obj)} {σ:L2.St} {H:Hp} {s:Shared}
mutual
def DV.reads (I:Inv X pins σ H s):∀ {v:V} {d:PyData} {x:Value},DV X.K H v d->jI v x->∃ as,Reads s.heap x d as
 |_,_,x,.non,r=>by cases (show x=Value.none from r);exact ⟨_,.none⟩
 |_,_,x,.bl b,r=>by cases (show x=Value.bool b from r);exact ⟨_,.bool b⟩
 |_,_,x,.int i,r=>by obtain ⟨t,rfl⟩:=(show ∃ t,x=Value.int i t from r);exact ⟨_,.int i t⟩
 |_,_,x,.str y,r=>by obtain ⟨t,rfl⟩:=(show ∃ t,x=Value.str y t from r);exact ⟨_,.str y t⟩
 |_,_,x,.tup (a:=a) h hs,r=>by
  cases (show x=Value.ref a from r);obtain ⟨its,rv,⟨o,h1,h2,n,h3⟩,_⟩:=I.tuple h;obtain ⟨as,ra⟩:=DVs.reads I hs rv;exact ⟨as,.tuple h1 h2 h3 (by simpa using ra)⟩
 |_,_,x,.lst (a:=a) h hs,r=>by
  cases (show x=Value.ref a from r);obtain ⟨its,rv,p,_⟩:=I.list h;obtain ⟨o,h1,h2,n,h3⟩:=p.isList;obtain ⟨as,ra⟩:=DVs.reads I hs rv;exact ⟨a::as,.list h1 h2 h3 (by simpa using ra)⟩
def DVs.reads (I:Inv X pins σ H s):∀ {v:List V} {d:List PyData} {x:List Value},DVs X.K H v d->zx v x->∃ as,ReadsAll s.heap x d as
 |_,_,_,.nil,.nil=>⟨_,.nil⟩
 |_,_,_,.cons a b,.cons c d=>by
  obtain ⟨as,r1⟩:=DV.reads I a c;obtain ⟨bs,r2⟩:=DVs.reads I b d;exact ⟨_,.cons r1 r2⟩
end
structure ShOk (d:PyData):Prop where
 sh:d.showable=true
 nd:d.hasDict=false
 dp:d.depth<=40
 lv:d.leavesShort 13=true
 bk:d.bulk<=2 ^ 20
end
section
variable {X:Cx}
def SO {K:Frg} {H:Hp}:∀ {ys:List T} {vs:List V} (h:Rps K H ys vs),Rps K H ys.reverse vs.reverse
 |_,_,.nil=>.nil
 |_,_,.cons r t=>by rw [List.reverse_cons,List.reverse_cons];exact (SO t).append (.cons r .nil)
def qfl:V->List V->Hp->VK->Prop:=λx vs H Q=>∃ i,x=.int i/\vs=[]/\Q (.int (Builtin.Int.intBits i)) H
def qaf:MtR X "int.bit_length" qfl:=by
 intro pins s σ H x vs v us Q I rx rv h;obtain ⟨i,rfl,rfl,q⟩:=h;obtain ⟨t,rfl⟩:=rx;have hus:=rv.zero;subst hus;exact call_int_bit_length ⟨.int _,_,I.tok _,⟨_,rfl⟩,q⟩
def bl3 (to:TE3):TE3:=λτ G q=>to τ G λx G1=>match x with|.int i=>q (.int (Builtin.Int.intBits i)) G1|_=>False
def qaG {o:Expr} {to:TE3} {apos cpos:Pos} (ho:jE3 X o to) (hbase:attributeBase o "bit_length" X.env (eval o X.env)=eval o X.env:=by rfl) (hline:(apos.endLine==cpos.line)=true:=by rfl) :
  jE3 X (.Call (.Attribute o "bit_length" apos) [] [] cpos) (bl3 to):=
 ⟨DO (qik PySem.F.plainAttrs_int PySem.F.slot_int_bit_length PySem.F.type_int_bit_length qaf ho.h hbase hline) λ_ _ _ ⟨τ,G,q,rl,h,af⟩=>zy rl h λx G1 h1 v H1 rx hr1 k1 rl1=>by
  cases x<;>try exact h1.elim
  case int i=>
   cases rx;exact ⟨rfl,i,rfl,rfl,af.back k1 _ _ h1 _ _ (.int _) hr1 Kp.refl⟩⟩
end
section
variable {prog:Program} {w:World} {A:Around} {R:Result->Shared->Prop} {s:Shared}
end
section
variable {X:Cx}
end
section
variable {K:Frg}
end
section
variable {X:Cx}
end
section
variable {X:Cx}
end
section
variable {X:Cx} {tg a b c:Expr} {pos:Pos}
end
section
variable {X:Cx}
end
section
variable {X:Cx} {a b:Expr} {ta tb:TE3} {pos:Pos}
def qgm:OpR X (compareOp .IsNot) (λx y H Q=>∃ i j,x=.bl i/\y=.bl j/\Q (.bl (i != j)) H):=by
 intro pins s σ H x y v u Q I rx ry h;obtain ⟨i,j,rfl,rfl,q⟩:=h;cases rx;cases ry;exact isnot_bool (qP I q rfl)
def qll (neg:Bool):R3:=λx y G q=>match x,y with|.bl i,.bl j=>q (.bl (if neg then i != j else i==j)) G|_,_=>False
def qbs {K:Frg}:V6 K (qll true) (λx y H Q=>∃ i j,x=.bl i/\y=.bl j/\Q (.bl (i != j)) H):=λx y v u G H q Q hr rx ry h af=>by
 cases x<;>try exact h.elim
 cases y<;>try exact h.elim
 cases rx;cases ry;exact ⟨_,_,rfl,rfl,af _ G h _ H (.bl _) hr Kp.refl⟩
def qgw:R3:=λx y G q=>match x,y with
 |.ref a,.int k=>(match G a with|some (.lst xs)=>(-(2 ^ 63)<=k/\k<2 ^ 63)/\xs.length*k.toNat<=sizeLine/\∀ p,G p=none->q (.ref p) (gu G p (.lst (List.replicate k.toNat xs).flatten))|_=>False)
 |_,_=>False
def qah {K:Frg} {H:Hp} {xs:List T} {vs:List V} (r:Rps K H xs vs):∀ k,Rps K H (List.replicate k xs).flatten (List.replicate k vs).flatten
 |0=>.nil
 |k+1=>by
  rw [List.replicate_succ,List.flatten_cons,List.replicate_succ,List.flatten_cons];exact r.append (qah r k)
def qf6 {K:Frg}:V6 K qgw qnY:=λx y v u G H q Q hr rx ry h af=>by
 cases x<;>try exact h.elim
 case ref a=>
  cases y<;>try exact h.elim
  case int k=>
   unfold qgw at h;simp only at h;split at h
   ·rename_i xs e1;cases rx;cases ry;obtain ⟨vs,g1,r1⟩:=hr.lst e1;exact ⟨a,k,vs,rfl,rfl,g1,h.1.1,h.1.2,by rw [← r1.length];exact h.2.1,λp hp=>af _ _ (h.2.2 p (hr.free hp)) _ _ (.ref p) (hr.newL hp (qah r1 _)) (Kp.newL hp)⟩
   ·exact h.elim
def qiJ (ha:jE3 X a ta) (hb:jE3 X b tb):jE3 X (.BinOp a .Mult b pos) (o3 qgw ta tb):=⟨L9 qjb qf6 ha.h hb.h⟩
structure ShW (d:PyData):Prop where
 sh:d.showable=true
 nd:d.hasDict=false
 dp:d.depth<=40
 fit:d.shown.length<=sizeLine
def ShOk.w {d:PyData} (h:ShOk d):ShW d:=⟨h.sh,h.nd,h.dp,PyData.shown_fits_bulk (by decide) (by decide) h.lv h.bk⟩
def M8 (hg:X.A.guards=some []) (hu:X.A.units+64<cLine):JD X (.type "str") (λxs H Q=>∃ a d,xs=[.ref a]/\DV X.K H (.ref a) d/\ShW d/\Q (.str d.shown) H):=by
 intro pins s σ H xs us Q I r h;obtain ⟨a,d,rfl,dv,ok,q⟩:=h;obtain ⟨u,rfl,rp⟩:=DG r;cases (show u=Value.ref a from rp);obtain ⟨as,rd⟩:=dv.reads I (show jI (.ref a) (.ref a) from rfl);refine str_of_reads rd ok.sh (PyData.noDict_hsm ok.nd) hg (by have:=ok.dp;omega) (λ_ _ e=>e) (λh' u tk hk=>?_) ok.fit;exact ⟨.str _,H,I.kept (h':=h') (t':=tk) hk,⟨_,rfl⟩,q⟩
def shV (st:Bool):V->Hp->(Str->Prop)->Prop:=λv H q=>match v with
 |.non=>q (Str.ofString "None")
 |.bl b=>q (if b=true then Str.ofString "True" else Str.ofString "False")
 |.int i=>i.natAbs.log2<1920/\q (Str.ofString (toString i))
 |.str x=>if st then q x else (reprText x).length<=sizeLine/\q (reprText x)
 |.ref a=>∃ d,DV X.K H (.ref a) d/\ShW d/\q d.shown
 |_=>False
def YM (hg:X.A.guards=some []) (hu:X.A.units+64<cLine):JD X (.type "str") (λxs H Q=>∃ v,xs=[v]/\shV (X:=X) true v H λx=>Q (.str x) H):=by
 intro pins s σ H xs us Q I r h;obtain ⟨v,rfl,h⟩:=h;obtain ⟨u,rfl,rp⟩:=DG r;cases v with
 |non=>cases (show u=Value.none from rp);exact P.str_of_none ⟨.str _,H,I.tok _,⟨_,rfl⟩,h⟩
 |bl b=>cases (show u=Value.bool b from rp);exact P.str_of_bool ⟨.str _,H,I.tok _,⟨_,rfl⟩,h⟩
 |int i=>obtain ⟨t,rfl⟩:=(show ∃ t,u=Value.int i t from rp);exact P.str_of_int h.1 ⟨.str _,H,I.tok _,⟨_,rfl⟩,h.2⟩
 |str x=>obtain ⟨t,rfl⟩:=(show ∃ t,u=Value.str x t from rp);exact P.str_of_str ⟨.str _,H,I,⟨_,rfl⟩,h⟩
 |ref a=>
  obtain ⟨d,dv,ok,q⟩:=h;exact M8 hg hu _ _ _ _ _ _ _ I r ⟨a,d,rfl,dv,ok,q⟩
 |_=>exact h.elim
def shT (st:Bool):T->Gp->(Str->Prop)->Prop:=λx G q=>match x with
 |.non=>q (Str.ofString "None")
 |.bl b=>q (if b=true then Str.ofString "True" else Str.ofString "False")
 |.int i=>i.natAbs.log2<1920/\q (Str.ofString (toString i))
 |.str x=>if st then q x else (reprText x).length<=sizeLine/\q (reprText x)
 |.tup _=>∃ d,Dp G x d/\ShW d/\q d.shown
 |.ref _=>∃ d,Dp G x d/\ShW d/\q d.shown
def RR (st:Bool):List T->Gp->Q3->Prop:=λxs G q=>match xs with
 |[x]=>shT st x G λy=>q (.str y) G
 |_=>False
def X7 {st:Bool}:KY X.K (RR st) (λxs H Q=>∃ v,xs=[v]/\shV (X:=X) st v H λx=>Q (.str x) H):=λxs vs G H q Q hr rs h af=>by
 unfold RR at h;split at h
 ·rename_i x;obtain ⟨v,rfl,r⟩:=RB rs;refine ⟨v,rfl,?_⟩;cases r with
  |non=>exact af _ G h _ H (.str _) hr Kp.refl
  |bl b=>exact af _ G h _ H (.str _) hr Kp.refl
  |int i=>exact ⟨h.1,af _ G h.2 _ H (.str _) hr Kp.refl⟩
  |str x=>
   cases st with
   |true=>exact af _ G h _ H (.str _) hr Kp.refl
   |false=>exact ⟨h.1,af _ G h.2 _ H (.str _) hr Kp.refl⟩
  |tup hs r2=>
   obtain ⟨d,h1,h2,h3⟩:=h;exact ⟨d,h1.dv hr (.tup hs r2),h2,af _ G h3 _ H (.str _) hr Kp.refl⟩
  |ref a=>
   obtain ⟨d,h1,h2,h3⟩:=h;exact ⟨d,h1.dv hr (.ref a),h2,af _ G h3 _ H (.str _) hr Kp.refl⟩
 ·exact h.elim
def qcl:OpR X (binaryOp .Add) (λx y H Q=>∃ a b ys,x=.ref a/\y=.ref b/\SqT X.K H a []/\SqT X.K H b ys/\Q (.ref b) H):=by
 intro pins s σ H x y v u Q I rx ry h;obtain ⟨a,b,ys,rfl,rfl,ha,hb,q⟩:=h;cases rx;cases ry;obtain ⟨its,r1,p1,_⟩:=I.tuple ha;obtain ⟨its2,r2,p2,_⟩:=I.tuple hb;cases r1;obtain ⟨⟨cls,dd,data,sl⟩,ho,hc,n,hd⟩:=id p1;obtain ⟨⟨cls2,dd2,data2,sl2⟩,ho2,hc2,n2,hd2⟩:=id p2;simp only at hc hd hc2 hd2;subst hc hd hc2 hd2;exact concat_meets ⟨_,ho,rfl⟩ ⟨_,ho2,rfl⟩ noFill_tuple_add seq_tuple_add PySem.F.slot_tuple_add PySem.F.entry_tuple_add (PySem.F.args_tuple_add_2 _ _)
   (tuple_addW0 a b #[] its2.toArray n n2 dd dd2 sl sl2 rfl) ⟨ho,ho2,⟨.ref b,H,I,rfl,q⟩⟩
def JE:R3:=λx y G q=>match x,y with
 |.tup xs,.tup ys=>xs.length+ys.length<=sizeLine/\q (.tup (xs++ys)) G
 |.ref a,.ref b=>(match G a,G b with|some (.lst xs),some (.lst ys)=>xs.length+ys.length<=sizeLine/\∀ p,G p=none->q (.ref p) (gu G p (.lst (xs++ys)))|_,_=>False)
 |.int i,.int j=>q (.int (i+j)) G
 |_,_=>False
def qcj:V6 X.K JE (λx y H Q=>((rI0 (λi j=>.int (i+j)) x y H Q\/qgk X.K x y H Q)\/qmy x y H Q)\/∃ a b ys,x=.ref a/\y=.ref b/\SqT X.K H a []/\SqT X.K H b ys/\Q (.ref b) H):=λx y v u G H q Q hr rx ry h af=>by
 cases x with
 |tup xs=>
  cases y with
  |tup ys=>
   cases xs with
   |nil=>
    cases rx with
    |tup hs rs=>
     cases rs;cases ry with
     |tup hs' rs'=>exact .inr ⟨_,_,_,rfl,rfl,hs,hs',af _ G h.2 _ H (.tup hs' rs') hr Kp.refl⟩
   |cons x xs=>exact .inl (XW _ _ v u G H q Q hr rx ry ⟨by simp,h⟩ af)
  |_=>exact h.elim
 |ref a=>
  cases y with
  |ref b=>exact .inl (XW (.ref a) (.ref b) v u G H q Q hr rx ry h af)
  |_=>exact h.elim
 |int i=>
  cases y with
  |int j=>exact .inl (XW (.int i) (.int j) v u G H q Q hr rx ry h af)
  |_=>exact h.elim
 |_=>exact h.elim
def zz (ha:jE3 X a ta) (hb:jE3 X b tb):jE3 X (.BinOp a .Add b pos) (o3 JE ta tb):=⟨L9 (((qdu.or qax).or qdK).or qcl) qcj ha.h hb.h⟩
def V1 {prog:Program} {w:World} {A:Around} {E:Value->Shared->Prop} {s:Shared} {t sl:Addr} {items:Array Value} {vl vu:Value} {lo hi:Option Int} {Q:Value->Shared->Prop} (ht:IsTup s.heap t items) (hs:s.heap.IsSliceOf sl vl vu .none) (pl:IsPart vl lo) (pu:IsPart vu hi)
  (hw:HT.sIx items.size 0 lo=0/\HT.sIx items.size items.size hi=items.size) (h:Q (.ref t) s):wpAny (model prog w) A (getItem (.ref t) (.ref sl)) Q E s:=by
 obtain ⟨os,hos,hcs,hds⟩:=id hs;have hTs:s.TypeIs (.ref sl) "slice" := ⟨os,hos,hcs⟩
 unfold getItem
 try with_reducible refine wpAny_holding ?_
 first|refine wpAny_bind (wpAny_pure ?_)|skip
 refine wpAny_bind (wpAny_sequenceKey ht.typeIs (by decide) ?_);refine wpAny_bind (wpAny_callSpecial?_slot (name:=Str.ofString "__getitem__") ht.typeIs PyProof.Rows.slot_tuple_getitem
  (wpAny_call_entry PyProof.Rows.slot_tuple_getitem ht.typeIs entry_tuple_getitem ?_ (args_tuple_getitem _ _)))
 show wpAny _ _ (Builtin.Tuple.tupleItemsOf (.ref t) >>= _) _ _ s;refine wpAny_bind (tupleItemsOf_ ht ?_);refine wpAny_bind (wpAny_typeOf hTs ?_);rw [if_pos (by decide)];refine wpAny_bind (HT.JB hs pl pu ?_);have hyes:(((HT.sIx items.size 0 lo:Nat):Int)==0&&(1:Int)==1&&(HT.sIx items.size items.size hi-HT.sIx items.size 0 lo)==items.size)=true:=by
  rw [hw.1,hw.2];simp
 show wpAny _ _ (if (((HT.sIx items.size 0 lo:Nat):Int)==0&&(1:Int)==1&&(HT.sIx items.size items.size hi-HT.sIx items.size 0 lo)==items.size)=true then _ else _) _ _ s;rw [if_pos hyes];unfold Builtin.Tuple.tupleIsExact;refine wpAny_bind (wpAny_bind (wpAny_typeOf ht.typeIs (wpAny_pure ?_)));rw [if_pos (by decide)];refine wpAny_bind (wpAny_rule ?_);exact wpAny_pure ⟨_,rfl,wpAny_pure h⟩
def qoM (K:Frg):V->Option Int->Option Int->Hp->VK->Prop:=λx lo hi H Q=>∃ a xs,x=.ref a/\SqT K H a xs/\(HT.sIx xs.length 0 lo=0/\HT.sIx xs.length xs.length hi=xs.length)/\Q (.ref a) H
def qbk:SlR X (qoM X.K):=by
 intro pins s σ H x v vl vu lo hi sl Q I rx hs pl pu h;obtain ⟨a,xs,rfl,hx,hw,q⟩:=h;cases rx;obtain ⟨its,r,ht,hz⟩:=I.tuple hx;have hlen:its.toArray.size=xs.length:=by rw [size_toArray];exact r.length.symm
 refine ⟨"tuple",_,PyProof.Rows.slot_tuple_getitem.lookup,ht.typeIs,?_⟩;exact V1 ht hs pl pu (by rw [hlen];exact hw) ⟨.ref a,H,I,rfl,q⟩
def qnf:T->Option Int->Option Int->Gp->Q3->Prop:=λx lo hi G q=>match x with
 |.tup xs=>q (.tup (E8 xs lo hi)) G
 |.ref p=>(match getL G p with|some xs=>∀ a,G a=none->q (.ref a) (gu G a (.lst (E8 xs lo hi)))|none=>False)
 |_=>False
def CY (te:TE3) (tl th:TO3):TE3:=λτ G q=>te τ G λx G1=>tl τ G1 λl G2=>th τ G2 λu G3=>qnf x l u G3 q
def Q5 {e:Expr} {te:TE3} {lo hi:Option Expr} {tl th:TO3} {p2:Pos} (he:jE3 X e te) (hl:jP3 X lo tl) (hu:jP3 X hi th):jE3 X (.Subscript e (.Slice lo hi none p2) pos) (CY te tl th):=
 ⟨DO (qbP ((qks.or qet).or qbk) he.h hl.h hu.h) λ_ _ _ ⟨τ,G,q,rl,h,af⟩=>zy rl h λx G1 h1 v H1 rx hr1 k1 rl1=>
  ⟨τ,G1,_,rl1,h1,λl G2 h2 H2 hr2 k2=>⟨τ,G2,_,rl1.next hr2 k2,h2,λu G3 h3 H3 hr3 k3=>by
   have kk:=(k1.trans k2).trans k3;have rx3:=(rx.keep hr1 k2).keep hr2 k3;cases x<;>try exact h3.elim
   case tup xs=>
    cases rx3 with
    |tup hs rs=>
     by_cases hw:HT.sIx xs.length 0 l=0/\HT.sIx xs.length xs.length u=xs.length
     ·refine .inr ⟨_,_,rfl,hs,by rw [← rs.length];exact hw,?_⟩;have e:E8 xs l u=xs:=by unfold E8;rw [hw.1,hw.2];simp
      have h4:q (.tup (E8 xs l u)) G3:=h3;rw [e] at h4;exact af _ G3 h4 _ _ (.tup hs rs) hr3 kk
     ·refine .inl (.inl ⟨_,_,rfl,hs,by rw [← rs.length];exact hw,λp hp=>?_⟩);exact af _ G3 h3 _ _ (.tup (SqT.of qY) ((rs.cut _ _).keep hr3 (Kp.laid hp))) (hr3.laid hp) (kk.trans (Kp.laid hp))
   case ref p=>
    unfold qnf at h3;simp only at h3;split at h3
    ·rename_i xs e0;cases rx3;obtain ⟨vs,hs,rs⟩:=jk hr3 e0;refine .inl (.inr ⟨p,vs,rfl,hs,λa ha=>?_⟩);exact af _ _ (h3 a (hr3.free ha)) _ _ (.ref a) (hr3.newL ha (rs.cut _ _)) (kk.trans (Kp.newL ha))
    ·exact h3.elim⟩⟩⟩
end
end L3
namespace HT
open PySem PySem.Spec PyProof.Rows
section
variable {prog:Program} {w:World} {A:Around} {E:Value->Shared->Prop} {s:Shared}
def LK (n:Nat):Builtin.Slice.sliceAdjust none none (-1) (n:Int)=((n:Int)-1,-1):=rfl
def LZ (n:Nat):Builtin.Slice.slicePlaces ((n:Int)-1) (-1) (-1)=n:=by
 unfold Builtin.Slice.slicePlaces;rw [if_neg (by decide)];have e:- (-1:Int)=1:=by decide
 rw [e,Int.ediv_one];split<;>omega
def U8 {sl:Addr} {vk:Value} {n:Nat} {Q:Int×Int×Nat->Shared->Prop} (hs:s.heap.IsSliceOf sl .none .none vk) (pk:IsPart vk (some (-1)))
  (h:Q ((n:Int)-1,-1,n) s):wpAny (model prog w) A (Builtin.Slice.sliceApplied (.ref sl) (pure (n:Int))) Q E s:=by
 obtain ⟨os,hos,hcs,hds⟩:=id hs;unfold Builtin.Slice.sliceApplied Builtin.Slice.sliceFields;refine wpAny_bind (wpAny_bind (wpAny_field hos hds (x:=.none) rfl (wpAny_bind (wpAny_field hos hds (x:=.none) rfl (wpAny_bind (wpAny_field hos hds (x:=vk) rfl (wpAny_pure ?_)))))));refine wpAny_bind (V9 pk ?_);show wpAny _ _ (if ((-1:Int)==0)=true then _ else _) _ _ s;rw [if_neg (by decide)];refine wpAny_bind (slicePart_none (wpAny_bind (slicePart_none (wpAny_bind (wpAny_pure ?_)))));show wpAny _ _ (match Builtin.Slice.sliceAdjust none none (-1) (n:Int) with|(lo,hi)=>pure (lo,(-1:Int),Builtin.Slice.slicePlaces lo hi (-1))) _ _ s;rw [LK n];show wpAny _ _ (pure ((n:Int)-1,(-1:Int),Builtin.Slice.slicePlaces ((n:Int)-1) (-1) (-1))) _ _ s;rw [LZ];exact wpAny_pure h
def KM {α β:Type} {f g:α->Option β}:∀ {l:List α},(∀ x∈l,f x=g x)->l.filterMap f=l.filterMap g
 |[],_=>rfl
 |x::l,h=>by rw [List.filterMap_cons,List.filterMap_cons,h x (by simp),KM λy hy=>h y (by simp [hy])]
def qco (xs:Array Value):((List.range xs.size).filterMap λ(m:Nat)=>xs[((xs.size:Int)-1+(m:Int)*(-1)).toNat]?).toArray=xs.toList.reverse.toArray:=by
 congr 1;have e:((List.range xs.size).filterMap λ(m:Nat)=>xs[((xs.size:Int)-1+(m:Int)*(-1)).toNat]?)=(List.range xs.size).filterMap λ(m:Nat)=>xs.toList.reverse[m]?:=by
  refine KM λm hm=>?_;have hm:=mem_range.mp hm;have h1:((xs.size:Int)-1+(m:Int)*(-1)).toNat=xs.size-1-m:=by omega
  rw [h1,List.getElem?_reverse (by simpa using hm),Array.getElem?_toList,Array.length_toList]
 rw [e];have l:xs.size=xs.toList.reverse.length:=by simp
 rw [l];generalize xs.toList.reverse=ys;clear e l;induction ys with
 |nil=>rfl
 |cons y ys ih=>
  rw [length_cons,List.range_succ_eq_map,List.filterMap_cons];simp only [getElem?_cons_zero,List.filterMap_map];congr 1
def UP {t sl:Addr} {items:Array Value} {vk:Value} {Q:Value->Shared->Prop} (ht:IsTup s.heap t items) (hs:s.heap.IsSliceOf sl .none .none vk) (pk:IsPart vk (some (-1)))
  (h:Q (.ref s.heap.objs.size) { s with heap:=s.heap.push { cls:=.type "tuple",data:=.seq items.toList.reverse.toArray } })
  (hsz:items.size<=sizeLine):wpAny (model prog w) A (getItem (.ref t) (.ref sl)) Q E s:=by
 have htake:sizeOk (.seq items.toList.reverse.toArray):=by
  show items.toList.reverse.toArray.size<=sizeLine;rw [size_toArray,List.length_reverse,Array.length_toList];exact hsz
 obtain ⟨os,hos,hcs,hds⟩:=id hs;have hTs:s.TypeIs (.ref sl) "slice" := ⟨os,hos,hcs⟩
 unfold getItem
 try with_reducible refine wpAny_holding ?_
 first|refine wpAny_bind (wpAny_pure ?_)|skip
 refine wpAny_bind (wpAny_sequenceKey ht.typeIs (by decide) ?_);refine wpAny_bind (wpAny_callSpecial?_slot (name:=Str.ofString "__getitem__") ht.typeIs PyProof.Rows.slot_tuple_getitem
  (wpAny_call_entry PyProof.Rows.slot_tuple_getitem ht.typeIs entry_tuple_getitem ?_ (args_tuple_getitem _ _)))
 show wpAny _ _ (Builtin.Tuple.tupleItemsOf (.ref t) >>= _) _ _ s;refine wpAny_bind (tupleItemsOf_ ht ?_);refine wpAny_bind (wpAny_typeOf hTs ?_);rw [if_pos (by decide)];refine wpAny_bind (U8 hs pk ?_);show wpAny _ _ (if ((((items.size:Int)-1)==0&&(-1:Int)==1&&items.size==items.size)=true) then _ else _) _ _ s;rw [if_neg (by intro q;rw [Bool.and_eq_true,Bool.and_eq_true] at q;exact absurd q.1.2 (by decide)),qco]
 first
  |exact wpAny_bind (m:=Builtin.Tuple.tupleExact _) (wpAny_newObj_type (wpAny_pure ⟨_,rfl,wpAny_pure h⟩) htake)
  |exact wpAny_bind (m:=Builtin.Tuple.tupleExact _) (wpAny_newObj_type (wpAny_bind (wpAny_pure (wpAny_pure ⟨_,rfl,wpAny_pure h⟩))) htake)
  |exact wpAny_bind (wpAny_bind (m:=Builtin.Tuple.tupleExact _) (wpAny_newObj_type (wpAny_pure (wpAny_pure ⟨_,rfl,wpAny_pure h⟩)) htake))
  |exact wpAny_bind (wpAny_bind (m:=Builtin.Tuple.tupleExact _) (wpAny_newObj_type (wpAny_pure ⟨_,rfl,wpAny_pure h⟩) htake))
end
end HT
namespace L3
open PySem PySem.Spec PyProof.Rows L2
section
variable {X:Cx} {e ek:Expr} {p2 pos:Pos}
def qoI (K:Frg) (te:TE) (tk:TO):TE:=λσ H Q=>te σ H λx H1=>tk σ H1 λk H2=>k=some (-1)/\((∃ a xs,x=.ref a/\SqL K H2 a xs/\∀ p,H2 p=none->Q (.ref p) (upd H2 p (.lst xs.reverse)))\/(∃ a xs,x=.ref a/\SqT K H2 a xs/\∀ p,H2 p=none->Q (.ref p) (upd H2 p (.tup xs.reverse))))
def qhO {te:TE} {tk:TO} (he:PE X e te) (hk:PO X (some ek) tk) {ops:Value->Value->List Value} (hs:∀ v w,subscripted (.Slice none none (some ek) p2) false v w=operate (ops v w) (getItem v w)):PE X (.Subscript e (.Slice none none (some ek) p2) pos) (qoI X.K te tk):=by
 intro pins s σ H Q I h;refine Subscript_ (thn (he pins s σ H _ I h) λv s1 ⟨x,H1,I1,r1,q1⟩=>?_);refine wpAny_Slice ?_;rw [evalPart_none];refine wpAny_pure ?_;refine wpAny_pure ?_;refine thn (hk pins s1 σ H1 _ I1 q1) λvk s3 ⟨k,H3,I3,pk,q3⟩=>?_;obtain ⟨rfl,q3⟩:=q3;have I4:Inv X pins σ H3 { s3 with heap:=s3.heap.push { cls:=.type "slice",data:=.fields #[.none,.none,vk] } }:=I3.kept (t':=s3.toks) λb ob q=>Heap.get?_push_of_some _ q;rcases q3 with ⟨a,xs,rfl,hx,q⟩|⟨a,xs,rfl,hx,q⟩
 ·cases r1;obtain ⟨its,r,ht,hz⟩:=I4.list hx;have hlen:=r.length;show wpAny (model X.prog X.w) X.A (subscriptTail e (.Slice none none (some ek) p2) (.ref a) (.ref s3.heap.objs.size)) (EP X pins σ Q) X.xe { s3 with heap:=s3.heap.push { cls:=.type "slice",data:=.fields #[.none,.none,vk] } };refine tail_any (ops:=ops (.ref a) (.ref s3.heap.objs.size)) (T:="list") ht.isList.typeIs slot_list_getitem.lookup ?_ (hs _ _);refine wpAny_getItem_list_slice ht.isList (Heap.IsSliceOf.new ..) .none .none pk (by decide) ?_ (by rw [size_toArray]<;>omega);rw [PySem.W.krv_pick];refine ⟨.ref _,_,I4.laid (t':=s3.toks) (o:=.lst xs.reverse) (λb ob q=>Heap.get?_push_of_some _ q) (Nat.le_refl _) ?_,rfl,q _ (I4.hok.fresh (Nat.le_refl _))⟩;exact ⟨by rw [List.length_reverse];exact hz,_,0,r.reverse,Heap.get?_push_size _ rfl⟩
 ·cases r1;obtain ⟨its,r,ht,hz⟩:=I4.tuple hx;have hlen:its.toArray.size=xs.length:=by rw [size_toArray];exact r.length.symm
  show wpAny (model X.prog X.w) X.A (subscriptTail e (.Slice none none (some ek) p2) (.ref a) (.ref s3.heap.objs.size)) (EP X pins σ Q) X.xe { s3 with heap:=s3.heap.push { cls:=.type "slice",data:=.fields #[.none,.none,vk] } };refine tail_any (ops:=ops (.ref a) (.ref s3.heap.objs.size)) (T:="tuple") ht.typeIs PyProof.Rows.slot_tuple_getitem.lookup ?_ (hs _ _);refine HT.UP ht (Heap.IsSliceOf.new ..) pk ?_ (by rw [hlen];exact hz);refine ⟨.ref _,_,I4.laid (t':=s3.toks) (o:=.tup xs.reverse) (λb ob q=>Heap.get?_push_of_some _ q) (Nat.le_refl _) ?_,rfl,q _ (I4.hok.fresh (Nat.le_refl _))⟩;exact ⟨by rw [List.length_reverse];exact hz,_,r.reverse,IsTup.new _ _⟩
def qle (te:TE3) (tk:TO3):TE3:=λτ G q=>te τ G λx G1=>tk τ G1 λk G2=>k=some (-1)/\(match x with|.tup xs=>q (.tup xs.reverse) G2|.ref p=>(match getL G2 p with|some xs=>∀ a,G2 a=none->q (.ref a) (gu G2 a (.lst xs.reverse))|none=>False)|_=>False)
def qdw {te:TE3} {tk:TO3} (he:jE3 X e te) (hk:jP3 X (some ek) tk) {ops:Value->Value->List Value} (hs:∀ v w,subscripted (.Slice none none (some ek) p2) false v w=operate (ops v w) (getItem v w)):jE3 X (.Subscript e (.Slice none none (some ek) p2) pos) (qle te tk):=
 ⟨DO (qhO he.h hk.h hs) λ_ _ _ ⟨τ,G,q,rl,h,af⟩=>zy rl h λx G1 h1 v H1 rx hr1 k1 rl1=>
  ⟨τ,G1,_,rl1,h1,λk G2 h2 H2 hr2 k2=>by
   obtain ⟨hk,h2⟩:=h2;have rx2:=rx.keep hr1 k2;cases x<;>try exact h2.elim
   case tup xs=>
    cases rx2 with
    |tup hs' rs=>exact ⟨hk,.inr ⟨_,_,rfl,hs',λp hp=>af _ G2 h2 _ _ (.tup (SqT.of qY) ((SO rs).keep hr2 (Kp.laid hp))) (hr2.laid hp) ((k1.trans k2).trans (Kp.laid hp))⟩⟩
   case ref p=>
    simp only at h2;split at h2
    ·rename_i xs e0;cases rx2;obtain ⟨vs,hs',rs⟩:=jk hr2 e0;exact ⟨hk,.inl ⟨p,vs,rfl,hs',λa ha=>af _ _ (h2 a (hr2.free ha)) _ _ (.ref a) (hr2.newL ha (SO rs)) ((k1.trans k2).trans (Kp.newL ha))⟩⟩
    ·exact h2.elim⟩⟩
end
section
variable {X:Cx} {a b:Expr} {ta tb:TE3} {pos:Pos}
end
abbrev Rd (sp:Sp3) (n:Nat) (t:TS3) (N:List Str):Prop:=∀ ts G q,sp ts G q->ts.length=n/\t { nx:=λ_ G'=>q .non G',rt:=q } (qE N ts) G
def jgn {pos:Pos} {X:Cx} {x:Str} (i:Nat) (hN:decide X.N.Nodup=true:=by kernel_rfl) (hi:X.N[i]?=some x:=by rfl) (hx:Loc X.env.scope x:=by first|exact Or.inl rfl|exact Or.inr rfl) (hf:X.fn x=true\/X.env.scope.names.lookup x=some .local:=by first|exact .inl rfl|exact .inr rfl):jG3 X (.Name x pos) (gn3 i):=
 qS (of_decide_eq_true hN) hi hx hf
end L3
namespace L2
open PySem PySem.Spec PyProof.Rows
section
variable {X:Cx} {pos:Pos}
end
end L2
namespace L3
open PySem PySem.Spec PyProof.Rows L2
section
variable {X:Cx} {pos:Pos}
end
end L3
namespace HT
open PySem PyProof.Rows
section
variable {prog:Program} {w:World} {A:Around} {E:Value->Shared->Prop} {s:Shared}
end
end HT
namespace L3
open PySem PySem.Spec PyProof.Rows L2
section
variable {X:Cx}
end
end L3
namespace Tb8
open PySem PySem.SetTable
def gD {xs:Array Nat} {i d e:Nat} (h:i<xs.size):xs.getD i d=xs.getD i e:=by simp [Array.getD,h]
def hd (M i p:Nat):Probe:={ j:=i,more:=runEnd M i-i,i:=i,perturb:=p,dummy:=none }
def lv (M:Nat) (h:Int):Nat->Nat×Nat
 |0=>(bits h%(M+1),bits h)
 |k+1=>leap M (lv M h k).1 (lv M h k).2
def ins {α:Type} (l:List α) (p:Nat) (x:α):List α:=l.take p++x::l.drop p
end Tb8
namespace Tb8
open PySem PyProof.Rows
section
variable {prog:Program} {w:World} {A:Around} {E:Value->Shared->Prop} {s:Shared}
abbrev hsh (prog:Program) (w:World) (k:List Int):Int:=tupleKeyHash (intKind prog w) k
end
end Tb8
namespace Tb8
open PySem PyProof.Rows PySem.SetTable
section
variable {prog:Program} {w:World} {A:Around} {E:Value->Shared->Prop} {s:Shared}
end
end Tb8
namespace Tb8
open PySem PySem.SetTable
def own (ow:Array (Option Nat)) (j:Nat):Option Nat:=ow.getD j (some 0)
end Tb8
namespace Tb8
open PySem PyProof.Rows PySem.SetTable
section
variable {prog:Program} {w:World} {A:Around} {E:Value->Shared->Prop} {s:Shared}
end
def cnt (key:Nat->List Int):Nat->Nat
 |0=>0
 |j+1=>if ∃ i,i<j/\key i=key j then cnt key j else cnt key j+1
section
variable {prog:Program} {w:World} {A:Around} {R:Result->Shared->Prop} {I:Addr} {fp wr:List Addr} {n:Nat} {P:Nat->Value->Prop} {St:Nat->Heap->Prop}
end
section
variable {prog:Program} {w:World} {A:Around} {E:Value->Shared->Prop} {s:Shared}
end
end Tb8
namespace L3
open PySem PySem.Spec PyProof.Rows L2
section
variable {X:Cx}
end
section
variable {X:Cx} {K:Frg} {w:World} {mg:Str->Option Value}
end
section
variable {X:Cx}
end
open PySem.SeqAt
section
variable {X:Cx} {pins:List (Addr×Obj)} {σ:L2.St} {H:Hp} {s:Shared}
end
end L3
namespace HT
open PySem PySem.Spec PyProof.Rows L2
section
open PySem.SeqAt
open PySem.MeetsSeq PySem.MeetsSeq2 PySem.MeetsSeq3
end
section
variable {prog:Program} {w:World} {A:Around} {E:Value->Shared->Prop} {s:Shared}
end
end HT
namespace L3
open PySem PySem.Spec PyProof.Rows L2
section
variable {X:Cx}
end
end L3
namespace HT
open PySem PyProof.Rows
section
variable {prog:Program} {w:World} {A:Around} {R:Result->Shared->Prop} {I:Addr} {fp wr:List Addr} {n:Nat} {P:Nat->Value->Prop} {St:Nat->Heap->Prop}
end
section
variable {prog:Program} {w:World} {A:Around} {E:Value->Shared->Prop} {s:Shared}
end
end HT
namespace L3
open PySem PySem.Spec PyProof.Rows L2
section
variable {X:Cx}
end
section
variable {X:Cx}
end
section
variable {X:Cx}
end
def qfE:Sp3:=λ_ _ _=>False
def KN {P:Program} {w:World} {K:Frg} {mg:Str->Option Value} {base:Heap} {x qual:Str} {st:Stmt} {f:Addr} {fd:FuncData} {ps:List Str} (F:Fun K x qual st f fd) (bd:zB K fd ps []) (hm:mg x=some (.ref f)):Fn3 P w K mg base 0 x qfE:=
 ⟨f,fd,ps,⟨λvs H Q E ⟨_,_,_,_,_,h,_⟩=>h.elim,λA outer s H args us vs Q E _ _ _ _ ⟨_,_,_,_,_,h,_⟩=>h.elim⟩,bd,F.kp,hm⟩
def ixR (p:Addr) (i:Int) (G:Gp) (q:Q3):ix3 (.ref p) (.int i) G q=(match getL G p with|some xs=>(match L2.atI xs i with|some z=>q z G|none=>False)|none=>False):=rfl
def cm {i j:Int} (h1:-1000000<j) (h2:j<1000000):WR i j:=.inr ⟨by omega,by omega⟩
def qbL {stay:Gp->Prop} {g:TG3} {tif:TT3} {te:TE3} {q:Q3} (items:List T) (Pv:Nat->List T->St3->Gp->Prop) {τ:St3} {G:Gp} (h0:Pv 0 [] τ G) (hst:∀ i ys τ G,i<=items.length->Pv i ys τ G->stay G)
  (hs:∀ i x ys τ G (R:List T->St3->Gp->Prop),items[i]?=some x->Pv i ys τ G->(∀ ys' τ' G',Pv (i+1) ys' τ' G'->R ys' τ' G') ->
   g x τ G λτ2 G2=>tif τ2 G2 λk G3=>if k=true then te τ2 G3 λy G4=>ys.length<sizeLine/\R (ys++[y]) τ2 G4 else R ys τ2 G3)
  (hd:∀ ys τ G,Pv items.length ys τ G->∀ p,G p=none->q (.ref p) (gu G p (.lst ys))):CF stay g tif te q items [] τ G:=by
 have key:∀ (r:List T) (i:Nat) ys τ G,items.drop i=r->i<=items.length->Pv i ys τ G->CF stay g tif te q r ys τ G:=by
  intro r;induction r with
  |nil=>
   intro i ys τ G e hi p;have:i=items.length:=by have:=congrArg List.length e;simp at this;omega
   subst this;exact ⟨hst _ ys τ G hi p,hd ys τ G p⟩
  |cons x r ih=>
   intro i ys τ G e hi p;have hl:i<items.length:=by
    apply Classical.byContradiction;intro z;rw [List.drop_eq_nil_of_le (by omega)] at e;cases e
   have e':=List.drop_eq_getElem_cons hl;rw [e] at e';injection e' with e1 e2;exact ⟨hst i ys τ G hi p,hs i x ys τ G _ (by rw [getElem?_eq_getElem hl,e1]) p λys2 τ2 G2 p2=>ih (i+1) ys2 τ2 G2 e2.symm hl p2⟩
 exact key items 0 [] τ G (by simp) (Nat.zero_le _) h0
def TU {stay:Gp->Prop} {g:TG3} {te:TE3} {q:Q3} {G:Gp} (f:T->T) (Ok:St3->Prop) (hst:stay G):∀ (items ys:List T) (τ:St3),Ok τ ->
  (∀ x∈items,∀ τ,Ok τ->∀ R:St3->T->Gp->Prop,(∀ τ',Ok τ'->R τ' (f x) G)->g x τ G λτ2 G2=>te τ2 G2 λy G4=>R τ2 y G4) ->
  ys.length+items.length<sizeLine->(∀ p,G p=none->q (.ref p) (gu G p (.lst (ys++items.map f))))->CF stay g tt3 te q items ys τ G
 |[],ys,τ,_,_,_,h=>⟨hst,by simpa using h⟩
 |x::r,ys,τ,ok,step,len,h=>by
  refine ⟨hst,?_⟩;have e:(λτ2 G2=>tt3 τ2 G2 λk G3=>if k=true then te τ2 G3 λy G4=>ys.length<sizeLine/\CF stay g tt3 te q r (ys++[y]) τ2 G4 else CF stay g tt3 te q r ys τ2 G3)=(λτ2 G2=>te τ2 G2 λy G4=>ys.length<sizeLine/\CF stay g tt3 te q r (ys++[y]) τ2 G4):=by
   funext τ2 G2;simp [tt3]
  rw [e];rw [length_cons] at len;refine step x List.mem_cons_self τ ok _ λτ' ok'=>⟨by omega,TU f Ok hst r (ys++[f x]) τ' ok' (λz hz=>step z (List.mem_cons_of_mem _ hz)) (by rw [length_append,List.length_singleton];omega) λp hp=>?_⟩
  simpa using h p hp
def qf5 {lo:Int} {n i:Nat} {x:T} (h:(LY lo n)[i]?=some x):i<n/\x=T.int (lo+(i:Int)):=by
 unfold LY at h;rw [getElem?_map] at h;cases e:(List.range n)[i]? with
 |none=>rw [e] at h;cases h
 |some k=>
  rw [e] at h;obtain ⟨hi,hk⟩:=List.getElem?_eq_some_iff.mp e;simp at hi hk;subst hk;exact ⟨hi,by simpa using h.symm⟩
def M1 (lo:Int) (n:Nat):(LY lo n).length=n:=by simp [LY]
end L3
namespace Bk
open PySem L2 L3
def zI:TS3:=(zX (S0 (C8 (λt=>zL t "int") (v3 0)) (qbx (C8 (λt=>zL t "bool") (v3 0)))))
def z9:TS3:=(qQ (qX (o3 (iI Builtin.bitAnd) (v3 0) (v3 1)) (gn3 2)) (qQ (qX (c3 (.int 0)) (gn3 3)) (qQ (T0 (tb3 (o3 (iB λi j=>decide (j<i)) (v3 2) (c3 (.int 0)))) (qQ (qgu 3 (iI (·+·)) (o3 (iI Builtin.bitAnd) (v3 2) (c3 (.int 1)))) (qX (o3 (iC (λ_ j=>0<=j) (λi j=>i/2 ^ j.toNat)) (v3 2) (c3 (.int 1))) (gn3 2)))) (zX (o3 (YO false) (o3 (iI Builtin.bitAnd) (v3 3) (c3 (.int 1))) (c3 (.int 1)))))))
def ZU (S_odd_in_common:Sp3):TS3:=(zX (cb3 qiL (qc (lc3 (J3 (qc (v3 0) qq)) (V3 2 (zJ (gn3 0) (zJ (gn3 1) UR))) (tb3 (cb3 S_odd_in_common (qc (v3 2) (qc (v3 1) qq)))) (o3 (iC W7 (λi j=>i*2 ^ j.toNat)) (c3 (.int 1)) (v3 0)) [none,none,some 1]) qq)))
def VF:TS3:=(qQ (qX (o3 (iC (λ_ j=>0<j) (·%·)) (o3 (iC WR (·*·)) (o3 JT (o3 JT (o3 (iC (λ_ j=>0<j) (·%·)) (v3 0) (c3 (.int 2147483629))) (o3 (iC WR (·*·)) (o3 (iC WR (·*·)) (v3 1) (v3 1)) (c3 (.int 7919)))) (c3 (.int 11))) (c3 (.int 48271))) (c3 (.int 2147483647))) (gn3 2)) (zX (o3 (iC (λ_ j=>0<j) (·%·)) (o3 (iC WR (·*·)) (v3 2) (v3 2)) (c3 (.int 1999999973)))))
def YA:TS3:=(qQ (qX (if3 (tb3 (o3 (iB λi j=>decide (i<j)) (v3 1) (cb3 DX (qc (v3 0) qq)))) (o3 ix3 (v3 0) (v3 1)) (c3 (.int 0))) (gn3 2)) (qQ (qX (if3 (tb3 (o3 (iB λi j=>decide (j<=i)) (cb3 qiH (qc (v3 2) qq)) (o3 (iC W7 (λi j=>i ^ j.toNat)) (c3 (.int 10)) (c3 (.int 18))))) (cb3 qiH (qc (v3 2) qq)) (c3 (.int 0))) (gn3 3)) (zX (ED (qc (v3 3) (qc (o3 JT (v3 2) (o3 (iC WR (·*·)) (c3 (.int 1000003)) (v3 1))) (qc (c3 (.int 0)) qq)))))))
def J9 (S_law_mix:Sp3):TS3:=(qQ (qX (o3 JT (o3 ix3 (v3 0) (c3 (.int 2))) (c3 (.int 1))) (UQ (v3 0) (c3 (.int 2)))) (qQ (YF (tb3 (o3 (iB λi j=>decide (j<i)) (o3 ix3 (v3 0) (c3 (.int 0))) (c3 (.int 0)))) (qQ (qX (o3 (iC (λ_ j=>0<j) (·%·)) (o3 ix3 (v3 0) (c3 (.int 0))) (v3 1)) (gn3 2)) (qQ (qX (o3 (iC qcI (·/·)) (o3 ix3 (v3 0) (c3 (.int 0))) (v3 1)) (UQ (v3 0) (c3 (.int 0)))) (zX (v3 2)))) zR) (zX (o3 (iC (λ_ j=>0<j) (·%·)) (o3 (iC qcI (·/·)) (cb3 S_law_mix (qc (cb3 S_law_mix (qc (o3 ix3 (v3 0) (c3 (.int 1))) (qc (o3 ix3 (v3 0) (c3 (.int 2))) qq))) (qc (o3 JT (o3 ix3 (v3 0) (c3 (.int 2))) (c3 (.int 64))) qq))) (c3 (.int 64))) (v3 1)))))
def J7 (S_law_pick:Sp3):TS3:=(qQ (qcc 2 3 (qc (cb3 S_law_pick (qc (v3 0) (qc (o3 JT (v3 1) (c3 (.int 1))) qq))) (qc (cb3 S_law_pick (qc (v3 0) (qc (o3 JT (v3 1) (c3 (.int 1))) qq))) qq))) (qQ (qX (lc3 (Y8 (qc (cb3 S_law_pick (qc (v3 0) (qc (c3 (.int 6)) qq))) qq)) (gn3 0) tt3 (cb3 S_law_pick (qc (v3 1) (qc (c3 (.int 256)) qq))) [none,some 0]) (gn3 4)) (qQ (qX (o3 ix3 (ED (qc (c3 (.int 1)) (qc (c3 (.int 2)) (qc (c3 (.int 4)) (qc (c3 (.int 8)) (qc (c3 (.int 16)) (qc (c3 (.int 32)) (qc (c3 (.int 64)) (qc (c3 (.int 128)) (qc (c3 (.int 256)) qq)))))))))) (o3 JT (v3 2) (v3 3))) (gn3 5)) (zX (TN (qc (c3 (.str "bits")) (qc (v3 2) (qc (v3 3) (qc (cb3 UX (qc (lc3 (JC (v3 4)) (gn3 0) tt3 (o3 (iC (λ_ j=>0<j) (·%·)) (v3 0) (v3 1)) [none,some 5]) qq)) qq)))))))))
inductive Dl where
 |skew (r c b x y:Int)
 |rests (r c b p:Int)
 |bits (h l:Nat) (ms:List Int)
 |table (b:Int) (cells:List (List Int))
 |joined (d e:Dl)
def qn2 (r:List Int):T:=.tup (r.map T.int)
def Dl.t:Dl->T
 |.skew r c b x y=>.tup [.str "skew",.int r,.int c,.int b,.int x,.int y]
 |.rests r c b p=>.tup [.str "rests",.int r,.int c,.int b,.int p]
 |.bits h l ms=>.tup [.str "bits",.int h,.int l,.tup (ms.map T.int)]
 |.table b cells=>.tup [.str "table",.int b,.tup (cells.map qn2)]
 |.joined d e=>.tup [.str "joined",d.t,e.t]
def Dl.R:Dl->Int
 |.skew r _ _ _ _=>r
 |.rests r _ _ _=>r
 |.bits h _ _=>2 ^ h
 |.table _ cells=>cells.length
 |.joined d e=>d.R*e.R
def Dl.C:Dl->Int
 |.skew _ c _ _ _=>c
 |.rests _ c _ _=>c
 |.bits _ l _=>2 ^ l
 |.table _ cells=>((cells[0]?).getD []).length
 |.joined d e=>d.C*e.C
def Dl.B:Dl->Int
 |.skew _ _ b _ _=>b
 |.rests _ _ b _=>b
 |.bits _ _ ms=>2 ^ ms.length
 |.table b _=>b
 |.joined d e=>d.B*e.B
def pop:Nat->Nat->Nat
 |0,_=>0
 |k+1,n=>n%2+pop k (n/2)
def qW (n m:Int):Bool:=pop 64 (Builtin.bitAnd n m).toNat%2==1
def qw (n:Int):Nat->List Int->Int
 |_,[]=>0
 |t,m::ms=>(if qW n m then 2 ^ t else 0)+qw n (t+1) ms
def qg (ms:List Int) (n:Int):Int:=qw n 0 ms
def Dl.Ok:Dl->Prop
 |.skew r c b x y=>1<=r/\r<=60/\1<=c/\c<=60/\1<=b/\b<=1000/\0<=x/\x<=1000/\0<=y/\y<=1000
 |.rests r c b p=>1<=r/\r<=60/\1<=c/\c<=60/\1<=b/\b<=1000/\1<=p/\p<=100000/\Int.gcd b p=1/\r*c<=b*p
 |.bits h l ms=>h<=4/\l<=4/\ms.length<=5/\∀ m∈ms,0<=m/\m<2 ^ (h+l)
 |.table b cells=>1<=b/\b<=1000/\1<=cells.length/\cells.length<=60/\∃ c,1<=c/\c<=60/\∀ row∈cells,row.length=c/\∀ x∈row,0<=x/\x<b
 |.joined d e=>d.Ok/\e.Ok/\d.R*e.R<=4096/\d.C*e.C<=4096/\d.B*e.B<=4096
def p2 (n:Nat):((2:Int) ^ n)=((2 ^ n:Nat):Int):=by simp
def qhe (n:Nat):(1:Int)<=2 ^ n:=by
 rw [p2];have:=Nat.one_le_two_pow (n:=n);omega
abbrev qlg (q:Q3):Ends3:={ nx:=λ_ G'=>q .non G',rt:=q }
def qkQ {A B:TS3} {d:Ends3} {τ:St3} {G:Gp} (h:∀ nx,nx=B d->A { d with nx:=nx } τ G):qQ A B d τ G:=h _ rfl
def EN:∀ (k n:Nat),n<2 ^ k->pop (k+1) n=pop k n
 |0,n,h=>by simp at h;subst h;simp [pop]
 |k+1,n,h=>by
  rw [pop,EN k (n/2) (by rw [Nat.pow_succ] at h;omega)];rfl
def QR (n:Int):Nat->List Int->List Int
 |_,[]=>[]
 |t,m::ms=>(if qW n m then [2 ^ t] else [])++QR n (t+1) ms
def UN (n:Int):∀ (t:Nat) (ms:List Int),(QR n t ms).sum=qw n t ms
 |_,[]=>rfl
 |t,m::ms=>by
  simp only [QR,qw,List.sum_append,UN n (t+1) ms];split<;>simp
def UL (n:Int):∀ (t:Nat) (ms:List Int),(QR n t ms).length<=ms.length
 |_,[]=>by simp [QR]
 |t,m::ms=>by
  have:=UL n (t+1) ms;simp only [QR,length_append,length_cons];split<;>simp<;>omega
def V0 (n:Int):∀ (t:Nat) (ms:List Int) (x:Int),x∈QR n t ms->∃ k,k<t+ms.length/\x=2 ^ k
 |_,[],_,h=>by simp [QR] at h
 |t,m::ms,x,h=>by
  simp only [QR,List.mem_append] at h;rcases h with h|h
  ·split at h
   ·simp at h;exact ⟨t,by simp,h⟩
   ·simp at h
  ·obtain ⟨k,h1,h2⟩:=V0 n (t+1) ms x h;exact ⟨k,by simp;omega,h2⟩
def Lf (G:Gp) (a:Addr) (n:Int):Prop:=∃ o c m,G a=some (.lst [.int o,.int c,.int m])/\0<=o/\0<=m/\m<=n
def Ext (a:Addr) (G G':Gp):Prop:=∀ b o,b≠a->G b=some o->G' b=some o
def Lf.ne {G:Gp} {a p:Addr} {n:Int} (h:Lf G a n) (hp:G p=none):p≠a:=by
 rintro rfl;obtain ⟨o,c,m,e,_⟩:=h;rw [hp] at e;cases e
def Lf.new {G:Gp} {a p:Addr} {n:Int} {ob:O} (h:Lf G a n) (hp:p≠a):Lf (gu G p ob) a n:=by
 obtain ⟨o,c,m,e,r⟩:=h;exact ⟨o,c,m,by rw [ZH (Ne.symm hp)];exact e,r⟩
def Lf.mono {G:Gp} {a:Addr} {n k:Int} (h:Lf G a n) (hk:n<=k):Lf G a k:=by
 obtain ⟨o,c,m,e,h1,h2,h3⟩:=h;exact ⟨o,c,m,e,h1,h2,by omega⟩
def Lf.ex {G G':Gp} {a:Addr} {n:Int} (h:Lf G a n) (e:Ex G G'):Lf G' a n:=by
 obtain ⟨o,c,m,e1,h1⟩:=h;exact ⟨o,c,m,e _ _ e1,h1⟩
def Ext.refl {a:Addr} {G:Gp}:Ext a G G:=λ_ _ _ e=>e
def Ext.trans {a:Addr} {G G1 G2:Gp} (x:Ext a G G1) (y:Ext a G1 G2):Ext a G G2:=λb o hb e=>y b o hb (x b o hb e)
def SN {a p:Addr} {G:Gp} {ob:O} (hp:G p=none):Ext a G (gu G p ob):=λb o _ e=>by
 rw [ZH (by rintro rfl;rw [hp] at e;cases e)];exact e
def WG {a:Addr} {G G':Gp} (h:Ex G G'):Ext a G G':=λb o _ e=>h b o e
def WP:Sp3:=λts G q=>∃ c k,ts=[.int c,.int k]/\0<=k/\k<4294967296/\∀ m,0<=m->m<1999999973->q (.int m) G
def Z4:Sp3:=λts G q=>∃ (a:Addr) (k:Int) (ns:List Int),ts=[.ref a,.int k]/\G a=some (.frz (ns.map T.int))/\ns.length<=63/\0<=k/\k<=63/\∀ p o c,G p=none->0<=o->q (.ref p) (gu G p (.lst [.int o,.int c,.int 0]))
def qI:Sp3:=λts G q=>∃ a n many,ts=[.ref a,.int many]/\1<=many/\many<1073741824/\Lf G a n/\n<1073741824/\∀ d G',0<=d->d<many->Lf G' a (n+1)->Ext a G G'->q (.int d) G'
def K4 {a:Addr} {n many:Int} {G:Gp} {q:Q3} (hL:Lf G a n) (h1:1<=many) (h2:many<1073741824) (hn:n<1073741824) (h:∀ d G',0<=d->d<many->Lf G' a (n+1)->Ext a G G'->q (.int d) G'):qI [.ref a,.int many] G q:=⟨a,n,many,rfl,h1,h2,hL,hn,h⟩
def LJ:∀ ts G q,WP ts G q->ts.length=2/\VF (qlg q) (qE ["_law_cell","_law_k","_law_m"] ts) G:=by
 rintro ts G q ⟨c,k,rfl,h1,h2,h⟩;refine ⟨rfl,?_⟩;simp only [VF,qQ,qX,o3,v3,qE,map_cons,List.map_nil,length_cons,length_nil,Nat.zero_add,Nat.reduceAdd,Nat.reduceSub,List.replicate_one,cons_append,List.nil_append,Nat.zero_lt_succ,getElem?_pos,getElem_cons_zero,c3,iC,Int.reduceLT,Nat.reduceLT,getElem_cons_succ,JT,gn3,zX,set_cons_succ,set_cons_zero,Nat.lt_add_one,true_and];exact ⟨.inl ⟨by omega,by omega⟩,cm (by omega) (by omega),cm (by omega) (by omega),.inl ⟨by omega,by omega⟩,h _ (Int.emod_nonneg _ (by omega)) (Int.emod_lt_of_pos _ (by omega))⟩
def cp:W7 10 18:=⟨by decide,by decide,by decide⟩
def R4:∀ ts G q,Z4 ts G q->ts.length=2/\YA (qlg q) (qE ["_law_script","_law_k","_law_cell","_law_own"] ts) G:=by
 rintro ts G q ⟨a,k,ns,rfl,hG,hl,h1,h2,h⟩;refine ⟨rfl,?_⟩;simp only [YA,qQ,qX,if3,tb3,o3,v3,qE,map_cons,List.map_nil,length_cons,length_nil,Nat.zero_add,Nat.reduceAdd,Nat.reduceSub,List.reduceReplicate,cons_append,List.nil_append,Nat.reduceLT,getElem?_pos,getElem_cons_succ,getElem_cons_zero,cb3,qc,Nat.zero_lt_succ,qq,DX,getL,hG,iB,length_map,decide_eq_true_eq,gn3,set_cons_succ,set_cons_zero,qiH,c3,iC,Int.reduceToNat,Int.reducePow,zX,ED,Nat.lt_add_one,JT,ne_eq,sizeLine_eq,Nat.reduceLeDiff,true_and,gu,ixR,atI,ixN,getElem?_map,Int.lt_irrefl,↓reduceIte,Int.reduceLE,decide_false,Bool.false_eq_true,Int.zero_add];have ck:WR 1000003 k:=cm (by omega) (by omega);by_cases hk:k<ns.length
 ·have hk':k.toNat<ns.length:=by omega
  simp [hk,h1,hk',cp,ck];split
  ·split
   ·exact λp hp=>h p (-ns[k.toNat]) _ hp (by omega)
   ·exact λp hp=>h p 0 _ hp (by omega)
  ·split
   ·exact λp hp=>h p ns[k.toNat] _ hp (by omega)
   ·exact λp hp=>h p 0 _ hp (by omega)
 ·simp [hk,cp,ck];exact λp hp=>h p 0 _ hp (by omega)
def SQ:∀ ts G q,qI ts G q->ts.length=2/\J9 WP (qlg q) (qE ["_law_left_here","_law_many","_law_digit"] ts) G:=by
 rintro ts G q ⟨a,n,many,rfl,m1,m2,⟨o,c,m,hG,ho,hm,hn⟩,h3,h⟩;refine ⟨rfl,?_⟩;unfold J9;refine qkQ λnx1 q1=>?_;simp only [qX,o3,v3,qE,map_cons,List.map_nil,length_cons,length_nil,Nat.zero_add,Nat.reduceAdd,Nat.reduceSub,List.replicate_one,cons_append,List.nil_append,Nat.zero_lt_succ,getElem?_pos,getElem_cons_zero,c3,JT,ne_eq,sizeLine_eq,UQ,qc2,ixN,Int.zero_le_ofNat,↓reduceIte,Int.reduceToNat,tb3,iB,decide_eq_true_eq,Nat.reduceLT,getElem_cons_succ,iC,gn3,set_cons_succ,set_cons_zero,Std.le_refl,Int.natCast_pos,Int.toNat_zero,zX,Nat.lt_add_one,ixR,getL,atI,zR,cb3,qc,qq,Int.toNat_one,List.length_set,hG,Int.cast_ofNat_Int,Int.reduceLT,Option.bind_some,za];rw [q1];clear q1;refine qkQ λnx2 q2=>?_;simp only [YF,qX,o3,v3,qE,map_cons,List.map_nil,length_cons,length_nil,Nat.zero_add,Nat.reduceAdd,Nat.reduceSub,List.replicate_one,cons_append,List.nil_append,Nat.zero_lt_succ,getElem?_pos,getElem_cons_zero,c3,JT,ne_eq,sizeLine_eq,UQ,qc2,ixN,Int.zero_le_ofNat,↓reduceIte,Int.reduceToNat,tb3,iB,decide_eq_true_eq,Nat.reduceLT,getElem_cons_succ,iC,gn3,set_cons_succ,set_cons_zero,Std.le_refl,Int.natCast_pos,Int.toNat_zero,zX,Nat.lt_add_one,ixR,getL,atI,zR,cb3,qc,qq,Int.toNat_one,List.length_set,hG,Int.cast_ofNat_Int,Int.reduceLT,Option.bind_some,za];split
 ·simp only [qQ,qX,o3,v3,length_cons,length_nil,Nat.zero_add,Nat.reduceAdd,Nat.zero_lt_succ,getElem?_pos,getElem_cons_zero,c3,Nat.reduceLT,getElem_cons_succ,iC,gn3,set_cons_succ,set_cons_zero,UQ,qc2,ixN,Std.le_refl,↓reduceIte,Int.natCast_pos,Int.toNat_zero,zX,Nat.lt_add_one,ixR,getL,atI,za,Int.cast_ofNat_Int,Int.reduceLT,Option.bind_some];refine ⟨by omega,⟨by omega,m2⟩,h _ _ (Int.emod_nonneg _ (by omega)) (Int.emod_lt_of_pos _ (by omega)) ⟨o/many,c,m+1,za,Int.ediv_nonneg ho (by omega),by omega,by omega⟩ λb ob hb e=>?_⟩;rw [ZH hb,ZH hb];exact e
 ·rw [q2];clear q2;simp only [qX,o3,v3,qE,map_cons,List.map_nil,length_cons,length_nil,Nat.zero_add,Nat.reduceAdd,Nat.reduceSub,List.replicate_one,cons_append,List.nil_append,Nat.zero_lt_succ,getElem?_pos,getElem_cons_zero,c3,JT,ne_eq,sizeLine_eq,UQ,qc2,ixN,Int.zero_le_ofNat,↓reduceIte,Int.reduceToNat,tb3,iB,decide_eq_true_eq,Nat.reduceLT,getElem_cons_succ,iC,gn3,set_cons_succ,set_cons_zero,Std.le_refl,Int.natCast_pos,Int.toNat_zero,zX,Nat.lt_add_one,ixR,getL,atI,zR,cb3,qc,qq,Int.toNat_one,List.length_set,hG,Int.cast_ofNat_Int,Int.reduceLT,Option.bind_some,za];refine ⟨c,m+1,rfl,by omega,by omega,λu u1 u2=>?_⟩;simp only [qX,o3,v3,qE,map_cons,List.map_nil,length_cons,length_nil,Nat.zero_add,Nat.reduceAdd,Nat.reduceSub,List.replicate_one,cons_append,List.nil_append,Nat.zero_lt_succ,getElem?_pos,getElem_cons_zero,c3,JT,ne_eq,sizeLine_eq,UQ,qc2,ixN,Int.zero_le_ofNat,↓reduceIte,Int.reduceToNat,tb3,iB,decide_eq_true_eq,Nat.reduceLT,getElem_cons_succ,iC,gn3,set_cons_succ,set_cons_zero,Std.le_refl,Int.natCast_pos,Int.toNat_zero,zX,Nat.lt_add_one,ixR,getL,atI,zR,cb3,qc,qq,Int.toNat_one,List.length_set,hG,Int.cast_ofNat_Int,Int.reduceLT,Option.bind_some,za];refine ⟨u,m+1+64,rfl,by omega,by omega,λv v1 v2=>?_⟩;refine ⟨⟨by omega,by omega⟩,by omega,h _ _ (Int.emod_nonneg _ (by omega)) (Int.emod_lt_of_pos _ (by omega)) ⟨o,c,m+1,za,ho,by omega,by omega⟩ λb ob hb e=>?_⟩;rw [ZH hb];exact e
def qbu:∀ {d:Nat},d<=8->L2.atI [T.int 1,.int 2,.int 4,.int 8,.int 16,.int 32,.int 64,.int 128,.int 256] (d:Int)=some (.int (2 ^ d))
 |0,_=>rfl
 |1,_=>rfl
 |2,_=>rfl
 |3,_=>rfl
 |4,_=>rfl
 |5,_=>rfl
 |6,_=>rfl
 |7,_=>rfl
 |8,_=>rfl
 |k+9,h=>absurd h (Nat.not_le.mpr (Nat.lt_of_lt_of_le (Nat.lt_succ_self _) (Nat.le_add_left _ _)))
def qcm {te:TE3} {q:Q3} {a:Addr} {n many:Int} {jZ:St3} {items:List T} {x0:Option T} {G:Gp} (hte:∀ x0 G3 (Q:T->Gp->Prop),qI [.ref a,.int many] G3 Q->te (x0::jZ) G3 Q) (hL:Lf G a n) (m1:1<=many) (m2:many<1073741824) (hl:items.length<=1000) (hn:n<1000000000)
  (h:∀ (ds:List Int) G' p,ds.length=items.length->(∀ d∈ds,0<=d/\d<many)->Lf G' a (n+items.length)->Ext a G G'->G' p=none->q (.ref p) (gu G' p (.lst (ds.map T.int)))) :
  CF (λ_=>True) (gn3 0) tt3 te q items [] (x0::jZ) G:=by
 refine qbL _ (λi ys τ G'=>∃ (ds:List Int) (x0:Option T),τ=x0::jZ/\ys=ds.map T.int/\ds.length=i/\(∀ d∈ds,0<=d/\d<many)/\Lf G' a (n+i)/\Ext a G G') ⟨[],x0,rfl,rfl,rfl,by simp,by simpa using hL,Ext.refl⟩ (λ_ _ _ _ _ _=>True.intro) ?_ ?_
 ·rintro i z ys τ G' R hz ⟨ds,x0,rfl,rfl,e,hd,hL',E⟩ hR;have hi:=(List.getElem?_eq_some_iff.mp hz).1;simp only [gn3,tt3,set_cons_zero,if_true];refine hte _ _ _ (K4 hL' m1 m2 (by omega) λd G2 d1 d2 L2 E2=>⟨by simp [sizeLine_eq];omega,hR _ _ _ ⟨ds++[d],_,rfl,by simp,by simp [e],λx hx=>?_,L2.mono (by omega),E.trans E2⟩⟩);rcases List.mem_append.mp hx with hx|hx
  ·exact hd x hx
  ·simp at hx;subst hx;exact ⟨d1,d2⟩
 ·rintro ys τ G' ⟨ds,x0,rfl,rfl,e,hd,hL',E⟩ p hp;exact h ds G' p e hd hL' E hp
def ZS:Sp3:=λts G q=>∃ a n most,ts=[.ref a,.int most]/\Lf G a n/\n<10000000/\0<=most/\most<=4/\∀ (h l:Nat) (ms:List Int) G',(h:Int)<=most->(l:Int)<=most->(Dl.bits h l ms).Ok->Lf G' a (n+10)->Ext a G G'->q (Dl.bits h l ms).t G'
def qbE {wide:Int} {p:Addr} {ds:List Int} {x0:Option T} {G:Gp} {q:Q3} (hw:0<wide) (hl:ds.length<=1000) (hG:getL G p=some (ds.map T.int)) (h:∀ p2,G p2=none->q (.ref p2) (gu G p2 (.lst ((ds.map (·%wide)).map T.int)))) :
  CF (λG=>getL G p=some (ds.map T.int)) (gn3 0) tt3 (o3 (iC (λ_ j=>0<j) (·%·)) (v3 0) (v3 1)) q (ds.map T.int) [] [x0,some (.int wide)] G:=by
 refine TU (λt=>match t with|.int m=>T.int (m%wide)|t=>t) (λτ=>∃ x0,τ=[x0,some (.int wide)]) hG _ _ _ ⟨_,rfl⟩ ?_ (by simp [sizeLine_eq];omega) λp2 hp2=>?_
 ·rintro z hz τ ⟨x0,rfl⟩ R hR;rw [mem_map] at hz;obtain ⟨m,_,rfl⟩:=hz;simp [gn3,o3,v3,iC];exact ⟨hw,hR _ ⟨_,rfl⟩⟩
 ·have:=h p2 hp2;simpa [map_map,Function.comp_def] using this
def SU:∀ ts G q,ZS ts G q->ts.length=2/\J7 qI (qlg q) (qE ["_law_left_here","_law_most","_law_high","_law_low","_law_masks","_law_wide"] ts) G:=by
 rintro ts G q ⟨a,n,most,rfl,hL,hn,m1,m2,h⟩;refine ⟨rfl,?_⟩;simp only [J7,qQ,qcc,qc,cb3,v3,qE,map_cons,List.map_nil,length_cons,length_nil,Nat.zero_add,Nat.reduceAdd,Nat.reduceSub,List.reduceReplicate,cons_append,List.nil_append,Nat.zero_lt_succ,getElem?_pos,getElem_cons_zero,o3,Nat.reduceLT,getElem_cons_succ,c3,JT,qq,qX,set_cons_succ,set_cons_zero,gn3,ED,sizeLine_eq,Nat.reduceLeDiff,ne_eq,zX,TN,UX,true_and,getL,gu,ixR,↓reduceIte];refine K4 hL (by omega) (by omega) (by omega) λhi G1 h1 h2 L1 E1=>?_
 try simp
 refine K4 L1 (by omega) (by omega) (by omega) λlo G2 l1 l2 L2' E2=>?_;simp only [lc3,Y8,qc,cb3,v3,length_cons,length_nil,Nat.zero_add,Nat.reduceAdd,Nat.zero_lt_succ,getElem?_pos,getElem_cons_zero,c3,qq,Int.reducePow,Int.reduceNeg,cap,map_cons,Nat.lt_add_one,getElem_cons_succ,Option.join_some,List.map_nil];refine K4 L2' (by omega) (by omega) (by omega) λk G3 k1 k2 L3' E3=>?_;refine ⟨⟨by omega,by omega⟩,qcm (many:=256) (λx0 G3 Q hq=>by simpa [cb3,qc,v3,c3,qq] using hq) L3' (by omega) (by omega) (by rw [M1];omega) (by omega) λds G4 p e1 e2 L4 E4 hp=>?_⟩;rw [M1] at e1 L4;obtain ⟨H,rfl⟩:=Int.eq_ofNat_of_zero_le h1;obtain ⟨W,rfl⟩:=Int.eq_ofNat_of_zero_le l1;have hpa:=L4.ne hp
 try simp
 intro p2 hp2;have pp:p≠p2:=by rintro rfl;rw [za] at hp2;cases hp2
 have e3:((H:Int)+(W:Int))=((H+W:Nat):Int):=by omega
 have w1:=qhe (H+W);have hG:∀ B,getL (gu (gu G4 p (.lst (ds.map T.int))) p2 B) p=some (ds.map T.int):=λB=>by simp only [getL,ZH pp,za]
 rw [e3,qbu (d:=H+W) (by omega)];simp only [JC,v3,getElem?_cons_zero,getElem?_cons_succ,hG];refine qbE (by omega) (by omega) (hG _) λp3 hp3=>?_;simp only [za];refine h H W _ _ (by omega) (by omega) ⟨by omega,by omega,by simp;omega,λm hm=>?_⟩ ((((L4.new hpa).new ((L4.new hpa).ne hp2)).new (((L4.new hpa).new ((L4.new hpa).ne hp2)).ne hp3)).mono (by omega)) (((E1.trans E2).trans (E3.trans E4)).trans (((SN hp).trans (SN hp2)).trans (SN hp3)));rw [mem_map] at hm;obtain ⟨x,_,rfl⟩:=hm;exact ⟨Int.emod_nonneg _ (by omega),Int.emod_lt_of_pos _ (by omega)⟩
structure SD (k n:Nat) (d:PyData):Prop where
 sh:d.showable=true
 nd:d.hasDict=false
 dp:d.depth<=k
 lv:d.leavesShort 13=true
 bk:d.bulk<=n
def SD.ok {k n:Nat} {d:PyData} (h:SD k n d) (hk:k<=40) (hn:n<=2 ^ 20):ShOk d:=⟨h.sh,h.nd,Nat.le_trans h.dp hk,h.lv,Nat.le_trans h.bk hn⟩
def SD.w {k n:Nat} {d:PyData} (h:SD k n d) (hk:k<=40) (hn:n<=2 ^ 20):ShW d:=(h.ok hk hn).w
def SD.mono {k n k' n':Nat} {d:PyData} (h:SD k n d) (hk:k<=k') (hn:n<=n'):SD k' n' d:=⟨h.sh,h.nd,Nat.le_trans h.dp hk,h.lv,Nat.le_trans h.bk hn⟩
def MA (k n:Nat):SD k n .none:=⟨rfl,rfl,Nat.zero_le _,rfl,Nat.zero_le _⟩
def NE (k n:Nat) (b:Bool):SD k n (.bool b):=⟨rfl,rfl,Nat.zero_le _,rfl,Nat.zero_le _⟩
def MT (k n:Nat) {i:Int} (h:-1000000<=i/\i<=1000000):SD k n (.int i):=by
 refine ⟨?_,rfl,Nat.zero_le _,?_,Nat.zero_le _⟩
 ·simp only [PyData.showable];have:i.natAbs<2 ^ 20:=by omega
  have h2:i.natAbs.log2<20\/i.natAbs=0:=by
   rcases Nat.eq_zero_or_pos i.natAbs with z|z
   ·exact .inr z
   ·exact .inl ((Nat.log2_lt (by omega)).mpr this)
  rcases h2 with h2|h2
  ·simp;omega
  ·simp [h2]
 ·have:=PyProof.Rows.intsShortAll_ints2 [i] (by intro n hn;simp at hn;subst hn;omega);simpa [PyData.intsShortAll,PyData.intsShort,PyData.leavesShort] using this
def K3 (k n:Nat) {x:Str} (h:x.cps.size<=n) (hc:(x.cps.toList.all λc=>decide (c<16 ^ 8))=true):SD k n (.str x):=⟨rfl,rfl,Nat.zero_le _,hc,h⟩
structure SDs (k n:Nat) (ds:List PyData):Prop where
 sh:PyData.showableAll ds=true
 nd:PyData.hasDictAll ds=false
 dp:PyData.depthAll ds<=k
 lv:PyData.leavesShortAll 13 ds=true
 bk:PyData.bulkAll ds<=n
def MJ (k n:Nat):SDs k n []:=⟨rfl,rfl,Nat.zero_le _,rfl,Nat.zero_le _⟩
def T6 {k n m s:Nat} {d:PyData} {ds:List PyData} (h:SD k n d) (t:SDs k m ds) (hs:n+1+m<=s):SDs k s (d::ds):=by
 refine ⟨?_,?_,?_,?_,?_⟩
 ·simp [PyData.showableAll,h.sh,t.sh]
 ·simp [PyData.hasDictAll,h.nd,t.nd]
 ·simp only [PyData.depthAll];exact Nat.max_le.mpr ⟨h.dp,t.dp⟩
 ·simp [PyData.leavesShortAll,h.lv,t.lv]
 ·simp only [PyData.bulkAll];have:=h.bk;have:=t.bk;omega
def X2 {k n:Nat} {ds:List PyData} (t:SDs k n ds):SD (k+1) n (.tuple ds):=by
 refine ⟨?_,?_,?_,?_,?_⟩
 ·simpa [PyData.showable] using t.sh
 ·simpa [PyData.hasDict] using t.nd
 ·simp only [PyData.depth];have:=t.dp;omega
 ·simpa [PyData.leavesShort] using t.lv
 ·simp only [PyData.bulk];exact t.bk
def SC {k n:Nat} {ds:List PyData} (t:SDs k n ds):SD (k+1) n (.list ds):=by
 refine ⟨?_,?_,?_,?_,?_⟩
 ·simpa [PyData.showable] using t.sh
 ·simpa [PyData.hasDict] using t.nd
 ·simp only [PyData.depth];have:=t.dp;omega
 ·simpa [PyData.leavesShort] using t.lv
 ·simp only [PyData.bulk];exact t.bk
def XH {k n:Nat}:∀ {ds:List PyData},(∀ d∈ds,SD k n d)->SDs k (ds.length*(n+1)) ds
 |[],_=>MJ _ _
 |d::ds,h=>T6 (h d (by simp)) (XH λx hx=>h x (by simp [hx])) (by rw [length_cons,Nat.succ_mul];omega)
def _root_.L3.Dps.append {G:Gp}:∀ {xs ys:List T} {ds es:List PyData},Dps G xs ds->Dps G ys es->Dps G (xs++ys) (ds++es)
 |_,_,_,_,.nil,b=>b
 |_,_,_,_,.cons a t,b=>.cons a (L3.Dps.append t b)
def _root_.L3.Dps.take {G:Gp}:∀ {xs:List T} {ds:List PyData} (i:Nat),Dps G xs ds->Dps G (xs.take i) (ds.take i)
 |_,_,0,_=>.nil
 |_,_,_+1,.nil=>.nil
 |_,_,i+1,.cons a t=>.cons a (L3.Dps.take i t)
def _root_.L3.Dps.drop {G:Gp}:∀ {xs:List T} {ds:List PyData} (i:Nat),Dps G xs ds->Dps G (xs.drop i) (ds.drop i)
 |_,_,0,h=>h
 |_,_,_+1,.nil=>.nil
 |_,_,i+1,.cons a t=>L3.Dps.drop i t
def dn (cs:List (Int×Int)):List Int:=cs.map (·.1)
def al (cs:List (Int×Int)):List Int:=cs.map (·.2)
end Bk
namespace Pu
open PySem L2 L3
def cif {α:Type} (P:Prop) (a b:α):α:=@ite α P (Classical.propDecidable P) a b
def zu {α:Type} {P:Prop} {a b:α} (h:P):cif P a b=a:=@if_pos P (Classical.propDecidable P) h α a b
def qeN {α:Type} {P:Prop} {a b:α} (h:¬ P):cif P a b=b:=@if_neg P (Classical.propDecidable P) h α a b
structure Tru (b:Bool):Prop where
 h:b=true
mutual
inductive Dq (G:Gp):T->PyData->Prop
 |non:Dq G .non .none
 |bl (b:Bool):Dq G (.bl b) (.bool b)
 |int (i:Int):Dq G (.int i) (.int i)
 |str (x:Str):Dq G (.str x) (.str x)
 |tup {xs:List T} {ds:List PyData}:Dqs G xs ds->Dq G (.tup xs) (.tuple ds)
 |lst {p:Addr} {xs:List T} {ds:List PyData}:G p=some (.lst xs)->Dqs G xs ds->Dq G (.ref p) (.list ds)
inductive Dqs (G:Gp):List T->List PyData->Prop
 |nil:Dqs G [] []
 |cons {x:T} {d:PyData} {xs:List T} {ds:List PyData}:Dq G x d->Dqs G xs ds->Dqs G (x::xs) (d::ds)
end
mutual
def Dq.up {G G':Gp} (e:Ex G G'):∀ {x:T} {d:PyData},Dq G x d->Dq G' x d
 |_,_,.non=>.non
 |_,_,.bl b=>.bl b
 |_,_,.int i=>.int i
 |_,_,.str x=>.str x
 |_,_,.tup h=>.tup (Dqs.up e h)
 |_,_,.lst h1 h2=>.lst (e _ _ h1) (Dqs.up e h2)
def Dqs.up {G G':Gp} (e:Ex G G'):∀ {x:List T} {d:List PyData},Dqs G x d->Dqs G' x d
 |_,_,.nil=>.nil
 |_,_,.cons a b=>.cons (Dq.up e a) (Dqs.up e b)
end
def zb {G:Gp} {p:Addr} {xs:List T} (h:G p=some (.lst xs)):getL G p=some xs:=by unfold getL;rw [h]
mutual
def Dq.dp {G:Gp}:∀ {x:T} {d:PyData},Dq G x d->Dp G x d
 |_,_,.non=>.non
 |_,_,.bl b=>.bl b
 |_,_,.int i=>.int i
 |_,_,.str x=>.str x
 |_,_,.tup h=>.tup (Dqs.dp h)
 |_,_,.lst h1 h2=>.lst (zb h1) (Dqs.dp h2)
def Dqs.dp {G:Gp}:∀ {x:List T} {d:List PyData},Dqs G x d->Dps G x d
 |_,_,.nil=>.nil
 |_,_,.cons a b=>.cons (Dq.dp a) (Dqs.dp b)
end
def Dqs.length {G:Gp}:∀ {xs:List T} {ds:List PyData},Dqs G xs ds->xs.length=ds.length
 |_,_,.nil=>rfl
 |_,_,.cons _ b=>by simp [Dqs.length b]
def Dqs.get {G:Gp}:∀ {xs:List T} {ds:List PyData} {i:Nat} {d:PyData},Dqs G xs ds->ds[i]?=some d->∃ x,xs[i]?=some x/\Dq G x d
 |_,_,_,_,.nil,e=>by simp at e
 |_,_,0,_,.cons r _,e=>by simp at e;subst e;exact ⟨_,rfl,r⟩
 |_,_,i+1,d,.cons _ t,e=>by
  obtain ⟨u,h1,h2⟩:=Dqs.get (i:=i) (d:=d) t (by simpa using e);exact ⟨u,by simpa using h1,h2⟩
def Dqs.append {G:Gp}:∀ {xs:List T} {ds:List PyData} {ys:List T} {es:List PyData},Dqs G xs ds->Dqs G ys es->Dqs G (xs++ys) (ds++es)
 |_,_,_,_,.nil,h=>h
 |_,_,_,_,.cons a b,h=>.cons a (Dqs.append b h)
def Dqs.drop {G:Gp}:∀ {xs:List T} {ds:List PyData} (n:Nat),Dqs G xs ds->Dqs G (xs.drop n) (ds.drop n)
 |_,_,0,h=>h
 |_,_,_+1,.nil=>.nil
 |_,_,n+1,.cons _ b=>Dqs.drop n b
def Dqs.take {G:Gp}:∀ {xs:List T} {ds:List PyData} (n:Nat),Dqs G xs ds->Dqs G (xs.take n) (ds.take n)
 |_,_,0,h=>by simp;exact .nil
 |_,_,_+1,.nil=>.nil
 |_,_,n+1,.cons a b=>.cons a (Dqs.take n b)
def Dqs.set {G:Gp}:∀ {xs:List T} {ds:List PyData} (n:Nat) {x:T} {d:PyData},Dqs G xs ds->Dq G x d->Dqs G (xs.set n x) (ds.set n d)
 |_,_,_,_,_,.nil,_=>.nil
 |_,_,0,_,_,.cons _ b,h=>.cons h b
 |_,_,n+1,_,_,.cons a b,h=>.cons a (Dqs.set n b h)
def Dqs.rev {G:Gp}:∀ {xs:List T} {ds:List PyData},Dqs G xs ds->Dqs G xs.reverse ds.reverse
 |_,_,.nil=>.nil
 |_,_,.cons a b=>by simp only [List.reverse_cons];exact (Dqs.rev b).append (.cons a .nil)
def Dqs.ints {G:Gp}:∀ {ns:List Int} {xs:List T},Dqs G xs (ns.map PyData.int)->xs=ns.map T.int
 |[],_,.nil=>rfl
 |n::ns,_,.cons a b=>by cases a;rw [Dqs.ints b];rfl
def Dqs.ofInts {G:Gp}:∀ (ns:List Int),Dqs G (ns.map T.int) (ns.map PyData.int)
 |[]=>.nil
 |n::r=>.cons (.int n) (Dqs.ofInts r)
def rs (D:Addr->Prop) (G:Gp):Gp:=λb=>cif (D b) none (G b)
def qH {D:Addr->Prop} {G:Gp} {b:Addr} {o:O} (h:rs D G b=some o):¬ D b/\G b=some o:=by
 unfold rs cif at h;split at h
 ·cases h
 ·rename_i n;exact ⟨n,h⟩
def QI {D:Addr->Prop} {G:Gp} {b:Addr} (n:¬ D b):rs D G b=G b:=by unfold rs;exact qeN n
def D7 {D:Addr->Prop} {G:Gp}:Ex (rs D G) G:=λb o h=>(qH h).2
def QG {D:Addr->Prop} {G G':Gp} (e:Ex G G'):Ex (rs D G) (rs D G'):=λb o h=>by
 obtain ⟨n,h⟩:=qH h;rw [QI n];exact e _ _ h
def zP {D D':Addr->Prop} {G:Gp} (h:∀ b,D' b->D b):Ex (rs D G) (rs D' G):=λb o e=>by
 obtain ⟨n,e⟩:=qH e;rw [QI λz=>n (h b z)];exact e
def Dom (D:Addr->Prop) (G:Gp):Prop:=∀ b,D b->G b≠none
def Dom.up {D:Addr->Prop} {G G':Gp} (h:Dom D G) (e:Ex G G'):Dom D G':=λb d z=>by
 cases g:G b with
 |none=>exact h b d g
 |some o=>rw [e _ _ g] at z;cases z
def qkR {D:Addr->Prop} {G:Gp} {p:Addr} {o:O} (hd:Dom D G) (hp:G p=none):rs D (gu G p o) p=some o:=by
 rw [QI λz=>hd p z hp,za]
inductive Sl where
 |un|sh (d:PyData)|ow (ds:List PyData)
abbrev Rho:=List Sl
def Sl.d:Sl->Option PyData
 |.un=>none|.sh d=>some d|.ow ds=>some (.list ds)
def vw (ρ:Rho) (i:Nat):Option PyData:=(ρ[i]?).bind Sl.d
def WH (fv:List Nat) (D:Addr->Prop) (G:Gp) (τ:St3) (ρ:Rho):Prop:=∀ i∈fv,∀ d,vw ρ i=some d->∃ t,τ[i]?=some (some t)/\Dq (rs D G) t d
def WH.up {fv:List Nat} {D:Addr->Prop} {G G':Gp} {τ:St3} {ρ:Rho} (h:WH fv D G τ ρ) (e:Ex G G'):WH fv D G' τ ρ:=λi hi d hd=>
 let ⟨t,a,b⟩:=h i hi d hd;⟨t,a,b.up (QG e)⟩
def WH.l {fv gv:List Nat} {D:Addr->Prop} {G:Gp} {τ:St3} {ρ:Rho} (h:WH (fv++gv) D G τ ρ):WH fv D G τ ρ:=λi hi=>h i (by simp [hi])
def WH.r {fv gv:List Nat} {D:Addr->Prop} {G:Gp} {τ:St3} {ρ:Rho} (h:WH (fv++gv) D G τ ρ):WH gv D G τ ρ:=λi hi=>h i (by simp [hi])
def Nw (D:Addr->Prop) (G G':Gp) (x:T) (d:PyData):Prop:=d=.none\/∃ p xs ds,x=.ref p/\d=.list ds/\G p=none/\G' p=some (.lst xs)/\Dqs (rs (λb=>D b\/b=p) G') xs ds
def Nw.back {D:Addr->Prop} {G0 G G':Gp} {x:T} {d:PyData} (h:Nw D G G' x d) (e:Ex G0 G):Nw D G0 G' x d:=by
 rcases h with h|⟨p,xs,ds,a,b,c,r⟩
 ·exact .inl h
 refine .inr ⟨p,xs,ds,a,b,?_,r⟩;cases z:G0 p with
 |none=>rfl
 |some o=>rw [e _ _ z] at c;cases c
structure PuE (t:TE3) where
 f:Rho->Option PyData
 fv:List Nat
 nw:Bool
 ok:∀ {D τ ρ G} {q:Q3} {d},WH fv D G τ ρ->Dom D G->f ρ=some d->(∀ x G',Ex G G'->Dq (rs D G') x d->(nw=true->Nw D G G' x d)->q x G')->t τ G q
structure PuC (t:TT3) where
 f:Rho->Option Bool
 fv:List Nat
 ok:∀ {D τ ρ G} {q:Bool->Gp->Prop} {k},WH fv D G τ ρ->Dom D G->f ρ=some k->(∀ G',Ex G G'->q k G')->t τ G q
structure PuA (t:TA3) where
 f:Rho->Option (List PyData)
 fv:List Nat
 n:Nat
 ln:∀ {ρ d},f ρ=some d->d.length=n
 ok:∀ {D τ ρ G} {q:List T->Gp->Prop} {d},WH fv D G τ ρ->Dom D G->f ρ=some d->(∀ x G',Ex G G'->Dqs (rs D G') x d->q x G')->t τ G q
structure PuO (t:TO3) where
 f:Rho->Option (Option Int)
 fv:List Nat
 ok:∀ {D τ ρ G} {q:Option Int->Gp->Prop} {k},WH fv D G τ ρ->Dom D G->f ρ=some k->(∀ G',Ex G G'->q k G')->t τ G q
structure PuI (t:TI3) where
 f:Rho->Option (List PyData)
 fv:List Nat
 /-- numbers alone -/
 nm:Bool
 ok:∀ {D τ ρ G} {r:List T->(Gp->Prop)->Gp->Prop} {ds},WH fv D G τ ρ->Dom D G->f ρ=some ds ->
  (∀ items stay G',Ex G G'->Dqs (rs D G') items ds->(∀ G'',(nm=true\/Ex (rs D G') G'')->stay G'')->(nm=true->∃ ns:List Int,ds=ns.map PyData.int)->r items stay G')->t τ G r
structure OpD (r:R3) where
 f:PyData->PyData->Option PyData
 nw:Bool
 ok:∀ {D G x y d e v} {q:Q3},Dq (rs D G) x d->Dq (rs D G) y e->Dom D G->f d e=some v->(∀ z G',Ex G G'->Dq (rs D G') z v->(nw=true->Nw D G G' z v)->q z G')->r x y G q
structure FnD (r:List T->Gp->Q3->Prop) where
 f:List PyData->Option PyData
 nw:Bool
 ok:∀ {D G xs ds v} {q:Q3},Dqs (rs D G) xs ds->Dom D G->f ds=some v->(∀ z G',Ex G G'->Dq (rs D G') z v->(nw=true->Nw D G G' z v)->q z G')->r xs G q
def bV (i:Nat):PuE (v3 i):=⟨λρ=>vw ρ i,[i],false,λhv hd hf k=>by
 obtain ⟨t,e,h⟩:=hv i (by simp) _ hf;unfold v3;rw [e];exact k t _ Ex.refl h (λz=>by cases z)⟩
def qL (i:Int):PuE (c3 (.int i)):=⟨λ_=>some (.int i),[],false,λhv hd hf k=>by cases hf;exact k _ _ Ex.refl (.int i) (λz=>by cases z)⟩
def bBl (i:Bool):PuE (c3 (.bl i)):=⟨λ_=>some (.bool i),[],false,λhv hd hf k=>by cases hf;exact k _ _ Ex.refl (.bl i) (λz=>by cases z)⟩
def qlI (i:Str):PuE (c3 (.str i)):=⟨λ_=>some (.str i),[],false,λhv hd hf k=>by cases hf;exact k _ _ Ex.refl (.str i) (λz=>by cases z)⟩
def qbf:PuE (c3 .non):=⟨λ_=>some .none,[],false,λhv hd hf k=>by cases hf;exact k _ _ Ex.refl .non (λz=>by cases z)⟩
def bO {r:R3} {ta tb:TE3} (R:OpD r) (a:PuE ta) (b:PuE tb):PuE (o3 r ta tb):=
 ⟨λρ=>(a.f ρ).bind λx=>(b.f ρ).bind λy=>R.f x y,a.fv++b.fv,R.nw,λhv hd hf k=>by
  obtain ⟨x,e1,hf⟩:=obb hf;obtain ⟨y,e2,hf⟩:=obb hf;exact a.ok hv.l hd e1 λx' G1 E1 D1 _=>b.ok (hv.r.up E1) (hd.up E1) e2 λy' G2 E2 D2 _=>R.ok (D1.up (QG E2)) D2 ((hd.up E1).up E2) hf λz G3 E3 D3 N3=>k z G3 ((E1.trans E2).trans E3) D3 λh=>(N3 h).back (E1.trans E2)⟩
def qC:PuA qq:=⟨λ_=>some [],[],0,(λh=>by cases h;rfl),λhv hd hf k=>by cases hf;exact k _ _ Ex.refl .nil⟩
def qf {ta:TE3} {tr:TA3} (a:PuE ta) (r:PuA tr):PuA (qc ta tr):=
 ⟨λρ=>(a.f ρ).bind λx=>(r.f ρ).bind λxs=>some (x::xs),a.fv++r.fv,r.n+1,(λhf=>by
  obtain ⟨x,e1,hf⟩:=obb hf;obtain ⟨xs,e2,hf⟩:=obb hf;cases hf;simp [r.ln e2]),λhv hd hf k=>by
  obtain ⟨x,e1,hf⟩:=obb hf;obtain ⟨xs,e2,hf⟩:=obb hf;cases hf;exact a.ok hv.l hd e1 λx' G1 E1 D1 _=>r.ok (hv.r.up E1) (hd.up E1) e2 λy' G2 E2 D2=>k _ G2 (E1.trans E2) (.cons (D1.up (QG E2)) D2)⟩
def few {n:Nat} (h:Tru (Nat.ble n 1000)):n<=sizeLine:=Nat.le_trans (Nat.le_of_ble_eq_true h.h) (by rw [sizeLine_eq];omega)
def qc9 {t:TA3} (a:PuA t) (hn:Tru (Nat.ble a.n 1000)):PuE (TN t):=⟨λρ=>(a.f ρ).map .tuple,a.fv,false,λhv hd hf k=>by
 obtain ⟨xs,e1,rfl⟩:=Option.map_eq_some_iff.mp hf;exact a.ok hv hd e1 λx G1 E1 D1=>⟨by rw [D1.length,a.ln e1];exact few hn,k _ _ E1 (.tup D1) (λz=>by cases z)⟩⟩
def D9 {D:Addr->Prop} {G:Gp} {p:Addr} {xs:List T} {ds:List PyData} (hp:G p=none) (h:Dqs (rs D G) xs ds):Nw D G (gu G p (.lst xs)) (.ref p) (.list ds):=
 .inr ⟨p,xs,ds,rfl,rfl,hp,za,h.up λb o e=>by
  obtain ⟨n,e⟩:=qH e;have:b≠p:=by rintro rfl;rw [hp] at e;cases e
  rw [QI (by rintro (z|z);exact n z;exact this z),ZH this];exact e⟩
def YH {D:Addr->Prop} {G:Gp} {p:Addr} {xs:List T} {ds:List PyData} (hd:Dom D G) (hp:G p=none) (h:Dqs (rs D G) xs ds):Dq (rs D (gu G p (.lst xs))) (.ref p) (.list ds):=
 .lst (qkR hd hp) (h.up (QG (Z9 hp)))
def UU {t:TA3} (a:PuA t) (hn:Tru (Nat.ble a.n 1000)):PuE (ED t):=⟨λρ=>(a.f ρ).map .list,a.fv,true,λhv hd hf k=>by
 obtain ⟨xs,e1,rfl⟩:=Option.map_eq_some_iff.mp hf;exact a.ok hv hd e1 λx G1 E1 D1=>⟨by rw [D1.length,a.ln e1];exact few hn,λp hp=>k _ _ (E1.trans (Z9 hp)) (YH (hd.up E1) hp D1) λ_=>(D9 hp D1).back E1⟩⟩
def qD {r:List T->Gp->Q3->Prop} {t:TA3} (R:FnD r) (a:PuA t):PuE (cb3 r t):=
 ⟨λρ=>(a.f ρ).bind R.f,a.fv,R.nw,λhv hd hf k=>by
  obtain ⟨x,e1,hf⟩:=obb hf;exact a.ok hv hd e1 λx' G1 E1 D1=>R.ok D1 (hd.up E1) hf λz G3 E3 D3 N3=>k z G3 (E1.trans E3) D3 λh=>(N3 h).back E1⟩
def asB:PyData->Option Bool
 |.bool b=>some b
 |_=>none
def asI:PyData->Option Int
 |.int b=>some b
 |_=>none
def RN {d:PyData} {b:Bool} (h:asB d=some b):d=.bool b:=by cases d<;>simp [asB] at h;subst h;rfl
def EV {d:PyData} {b:Int} (h:asI d=some b):d=.int b:=by cases d<;>simp [asI] at h;subst h;rfl
def bTb {t:TE3} (a:PuE t):PuC (tb3 t):=⟨λρ=>(a.f ρ).bind asB,a.fv,λhv hd hf k=>by
 obtain ⟨x,e1,hf⟩:=obb hf;have:=RN hf;subst this;exact a.ok hv hd e1 λx' G1 E1 D1 _=>by cases D1;exact k G1 E1⟩
def qfh {t u:TT3} (a:PuC t) (b:PuC u):PuC (qbw t u):=⟨λρ=>(a.f ρ).bind λk=>if k then b.f ρ else some false,a.fv++b.fv,λhv hd hf k=>by
 obtain ⟨x,e1,hf⟩:=obb hf;refine a.ok hv.l hd e1 λG1 E1=>?_;cases x with
 |true=>exact b.ok (hv.r.up E1) (hd.up E1) hf λG2 E2=>k G2 (E1.trans E2)
 |false=>cases hf;exact k G1 E1⟩
def bOr {t u:TT3} (a:PuC t) (b:PuC u):PuC (or3 t u):=⟨λρ=>(a.f ρ).bind λk=>if k then some true else b.f ρ,a.fv++b.fv,λhv hd hf k=>by
 obtain ⟨x,e1,hf⟩:=obb hf;refine a.ok hv.l hd e1 λG1 E1=>?_;cases x with
 |false=>exact b.ok (hv.r.up E1) (hd.up E1) hf λG2 E2=>k G2 (E1.trans E2)
 |true=>cases hf;exact k G1 E1⟩
def qb9 {t:TT3} (a:PuC t):PuC (LC t):=⟨λρ=>(a.f ρ).map (! ·),a.fv,λhv hd hf k=>by
 obtain ⟨x,e1,hf⟩:=Option.map_eq_some_iff.mp hf;subst hf;exact a.ok hv hd e1 λG1 E1=>k G1 E1⟩
def bTt:PuC tt3:=⟨λ_=>some true,[],λhv hd hf k=>by cases hf;exact k _ Ex.refl⟩
def qaC {ta tb:TE3} (a:PuE ta) (b:PuE tb):PuE (S0 ta tb):=⟨λρ=>((a.f ρ).bind asB).bind λk=>if k then b.f ρ else some (.bool false),a.fv++b.fv,false,λhv hd hf k=>by
 obtain ⟨x,e1,hf⟩:=obb hf;obtain ⟨y,e1,e2⟩:=obb e1;have:=RN e2;subst this;refine a.ok hv.l hd e1 λx' G1 E1 D1 _=>?_;cases D1;cases x with
 |true=>exact b.ok (hv.r.up E1) (hd.up E1) hf λz G2 E2 D2 _=>k z G2 (E1.trans E2) D2 (λz=>by cases z)
 |false=>cases hf;exact k _ G1 E1 (.bl false) (λz=>by cases z)⟩
def qfn {ta:TE3} (a:PuE ta):PuE (qbx ta):=⟨λρ=>((a.f ρ).bind asB).map λk=>.bool (!k),a.fv,false,λhv hd hf k=>by
 obtain ⟨x,e1,hf⟩:=Option.map_eq_some_iff.mp hf;obtain ⟨y,e1,e2⟩:=obb e1;have:=RN e2;subst this;subst hf;refine a.ok hv hd e1 λx' G1 E1 D1 _=>?_;cases D1;exact k _ G1 E1 (.bl _) (λz=>by cases z)⟩
def bIf {t:TT3} {ta tb:TE3} (c:PuC t) (a:PuE ta) (b:PuE tb):PuE (if3 t ta tb):=⟨λρ=>(c.f ρ).bind λk=>if k then a.f ρ else b.f ρ,c.fv++(a.fv++b.fv),false,λhv hd hf k=>by
 obtain ⟨x,e1,hf⟩:=obb hf;refine c.ok hv.l hd e1 λG1 E1=>?_;cases x with
 |true=>exact a.ok (hv.r.l.up E1) (hd.up E1) hf λz G2 E2 D2 _=>k z G2 (E1.trans E2) D2 (λz=>by cases z)
 |false=>exact b.ok (hv.r.r.up E1) (hd.up E1) hf λz G2 E2 D2 _=>k z G2 (E1.trans E2) D2 (λz=>by cases z)⟩
def qfi {ta:TE3} (a:PuE ta):PuE (u3 SE ta):=⟨λρ=>((a.f ρ).bind asI).map λi=>.int (-i),a.fv,false,λhv hd hf k=>by
 obtain ⟨x,e1,hf⟩:=Option.map_eq_some_iff.mp hf;obtain ⟨y,e1,e2⟩:=obb e1;have:=EV e2;subst this;subst hf;refine a.ok hv hd e1 λx' G1 E1 D1 _=>?_;cases D1;exact k _ G1 E1 (.int _) (λz=>by cases z)⟩
def bCh {r r':R3} {ta tb tc:TE3} (R:OpD r) (R':OpD r') (a:PuE ta) (b:PuE tb) (c:PuE tc):PuE (ch3 r r' ta tb tc):=
 ⟨λρ=>(a.f ρ).bind λx=>(b.f ρ).bind λy=>((R.f x y).bind asB).bind λk=>if k then (c.f ρ).bind λz=>R'.f y z else some (.bool false),a.fv++(b.fv++c.fv),false,λ{D τ ρ G q d} hv hd hf k=>by
  obtain ⟨x,e1,hf⟩:=obb hf;obtain ⟨y,e2,hf⟩:=obb hf;obtain ⟨j,e3,hf⟩:=obb hf;obtain ⟨v,e3,e4⟩:=obb e3;have:=RN e4;subst this;refine a.ok hv.l hd e1 λx' G1 E1 D1 _=>b.ok (hv.r.l.up E1) (hd.up E1) e2 λy' G2 E2 D2 _=>R.ok (D1.up (QG E2)) D2 ((hd.up E1).up E2) e3 λz G3 E3 D3 _=>?_;cases D3;have E:=(E1.trans E2).trans E3;cases j with
  |true=>
   obtain ⟨w,e5,hf⟩:=obb hf;exact c.ok (hv.r.r.up E) (hd.up E) e5 λw' G4 E4 D4 _=>R'.ok ((D2.up (QG E3)).up (QG E4)) D4 ((hd.up E).up E4) hf λu G5 E5 D5 _=>k u G5 ((E.trans E4).trans E5) D5 (λz=>by cases z)
  |false=>cases hf;exact k _ G3 E (.bl false) (λz=>by cases z)⟩
def qnC {ta:TE3} (a:PuE ta):PuE (bl3 ta):=⟨λρ=>((a.f ρ).bind asI).map λi=>.int (Builtin.Int.intBits i),a.fv,false,λhv hd hf k=>by
 obtain ⟨x,e1,hf⟩:=Option.map_eq_some_iff.mp hf;obtain ⟨y,e1,e2⟩:=obb e1;have:=EV e2;subst this;subst hf;refine a.ok hv hd e1 λx' G1 E1 D1 _=>?_;cases D1;exact k _ G1 E1 (.int _) (λz=>by cases z)⟩
def tyD:PyData->Option String
 |.none=>some "NoneType" |.bool _=>some "bool" |.int _=>some "int" |.str _=>some "str" |.tuple _=>some "tuple" |.list _=>some "list" |.dict _=>none
def TM {ta:TE3} (g:String->Bool) (a:PuE ta):PuE (C8 g ta):=⟨λρ=>(a.f ρ).bind λd=>(tyD d).map λt=>.bool (g t),a.fv,false,λhv hd hf k=>by
 obtain ⟨x,e1,hf⟩:=obb hf;obtain ⟨y,e2,hf⟩:=Option.map_eq_some_iff.mp hf;subst hf;refine a.ok hv hd e1 λx' G1 E1 D1 _=>?_;have:tyT G1 x'=some y:=by
  cases D1 with
  |lst h _=>have g:=zb (qH h).2;simp [tyT,g];simpa [tyD] using e2
  |_=>simpa [tyT,tyD] using e2
 simp only [this];exact k _ G1 E1 (.bl _) (λz=>by cases z)⟩
def bNp:PuO np3:=⟨λ_=>some none,[],λhv hd hf k=>by cases hf;exact k _ Ex.refl⟩
def bSp {t:TE3} (a:PuE t):PuO (sp3 t):=⟨λρ=>((a.f ρ).bind asI).map some,a.fv,λhv hd hf k=>by
 obtain ⟨x,e1,hf⟩:=Option.map_eq_some_iff.mp hf;obtain ⟨y,e1,e2⟩:=obb e1;have:=EV e2;subst this;subst hf;refine a.ok hv hd e1 λx' G1 E1 D1 _=>?_;cases D1;exact k G1 E1⟩
def Dqs.cut {G:Gp} {xs:List T} {ds:List PyData} (h:Dqs G xs ds) (lo hi:Option Int):Dqs G (E8 xs lo hi) (E8 ds lo hi):=by
 unfold E8;rw [h.length];exact (h.drop _).take _
def UB:List PyData->Option (List Int)
 |[]=>some []
 |.int i::r=>(UB r).map (i::·)
 |_=>none
def qal (ns:List Int):UB (ns.map PyData.int)=some ns:=by
 induction ns with
 |nil=>rfl
 |cons n r ih=>simp [UB,ih]
def K2:∀ {xs:List PyData} {ns:List Int},UB xs=some ns->xs=ns.map PyData.int
 |[],_,h=>by simp [UB] at h;subst h;rfl
 |.int i::r,ns,h=>by
  simp only [UB] at h;obtain ⟨ms,e,rfl⟩:=Option.map_eq_some_iff.mp h;rw [K2 e];rfl
 |.none::r,ns,h=>by simp [UB] at h
 |.bool _::r,ns,h=>by simp [UB] at h
 |.str _::r,ns,h=>by simp [UB] at h
 |.list _::r,ns,h=>by simp [UB] at h
 |.tuple _::r,ns,h=>by simp [UB] at h
 |.dict _::r,ns,h=>by simp [UB] at h
def opI (g:Int->Int->Int):OpD (iI g):=⟨λd e=>match d,e with|.int i,.int j=>some (.int (g i j))|_,_=>none,false,λ{D G x y d e v q} hx hy hd hf k=>by
 cases hx<;>try (simp at hf;done)
 cases hy<;>try (simp at hf;done)
 cases hf;exact k _ _ Ex.refl (.int _) (λz=>by cases z)⟩
def cI (C:Int->Int->Prop) (g:Int->Int->Int) (d e:PyData):Option PyData:=match d,e with|.int i,.int j=>cif (C i j) (some (.int (g i j))) none|_,_=>none
def opC (C:Int->Int->Prop) (g:Int->Int->Int):OpD (iC C g):=⟨cI C g,false,λ{D G x y d e v q} hx hy hd hf k=>by
 unfold cI at hf;cases hx<;>try (simp at hf;done)
 cases hy<;>try (simp at hf;done)
 simp only [cif] at hf;split at hf
 ·rename_i c;cases hf;exact ⟨c,k _ _ Ex.refl (.int _) (λz=>by cases z)⟩
 ·cases hf⟩
def opB (g:Int->Int->Bool):OpD (iB g):=⟨λd e=>match d,e with|.int i,.int j=>some (.bool (g i j))|_,_=>none,false,λ{D G x y d e v q} hx hy hd hf k=>by
 cases hx<;>try (simp at hf;done)
 cases hy<;>try (simp at hf;done)
 cases hf;exact k _ _ Ex.refl (.bl _) (λz=>by cases z)⟩
def qaO:PyData->PyData->Option Bool
 |.none,.none=>some true|.none,.int _=>some false|.int _,.none=>some false|.none,.bool _=>some false|.bool _,.none=>some false|.none,.str _=>some false|.str _,.none=>some false
 |.int i,.int j=>some (decide (i=j))|.bool i,.bool j=>some (decide (i=j))|.str i,.str j=>some (decide (i=j))
 |.int _,.str _=>some false|.str _,.int _=>some false|.bool _,.str _=>some false|.str _,.bool _=>some false
 |_,_=>none
def M0 {G:Gp} {x y:T} {d e:PyData} (hx:Dq G x d) (hy:Dq G y e):qbN x y=qaO d e:=by
 cases hx<;>cases hy<;>rfl
def eqD (neg:Bool) (d e:PyData):Option PyData:=match qaO d e with
 |some k=>some (.bool (if neg then !k else k))
 |none=>cif (dpt d<=40/\dpt d≠0) ((ZT d e).map λb=>.bool (if neg then !b else b)) none
def VX (neg:Bool):OpD (YO neg):=⟨eqD neg,false,λ{D G x y d e v q} hx hy hd hf k=>by
 unfold YO;rw [M0 hx hy];unfold eqD at hf;cases h:qaO d e with
 |some b=>rw [h] at hf;cases hf;exact k _ _ Ex.refl (.bl _) (λz=>by cases z)
 |none=>
  rw [h] at hf;simp only [cif] at hf ⊢;split at hf
  ·rename_i c;obtain ⟨b,e1,rfl⟩:=Option.map_eq_some_iff.mp hf;exact ⟨d,e,b,(hx.up D7).dp,(hy.up D7).dp,e1,c.1,c.2,k _ _ Ex.refl (.bl _) (λz=>by cases z)⟩
  ·cases hf⟩
def qgv (neg:Bool) (d e:PyData):Option PyData:=match e with|.none=>some (.bool (match d with|.none=>!neg|_=>neg))|_=>none
def MS (neg:Bool):OpD (qbi neg):=⟨qgv neg,false,λ{D G x y d e v q} hx hy hd hf k=>by
 unfold qgv at hf;cases hy<;>try (simp at hf;done)
 cases hf;unfold qbi;cases hx<;>exact k _ _ Ex.refl (.bl _) (λz=>by cases z)⟩
def qlf (neg:Bool) (d e:PyData):Option PyData:=match d,e with|.bool i,.bool j=>some (.bool (if neg then i != j else i==j))|_,_=>none
def qhu (neg:Bool):OpD (qll neg):=⟨qlf neg,false,λ{D G x y d e v q} hx hy hd hf k=>by
 unfold qlf at hf;cases hx<;>try (simp at hf;done)
 cases hy<;>try (simp at hf;done)
 cases hf;exact k _ _ Ex.refl (.bl _) (λz=>by cases z)⟩
def ixD (d e:PyData):Option PyData:=match d,e with
 |.tuple xs,.int i=>atI xs i
 |.list xs,.int i=>atI xs i
 |_,_=>none
def Dqs.atI {G:Gp} {xs:List T} {ds:List PyData} {i:Int} {d:PyData} (h:Dqs G xs ds) (e:L2.atI ds i=some d):∃ x,L2.atI xs i=some x/\Dq G x d:=by
 unfold L2.atI at e ⊢;rw [h.length];obtain ⟨j,e1,e2⟩:=obb e;obtain ⟨x,hx,r⟩:=h.get e2;exact ⟨x,by rw [e1];exact hx,r⟩
def Y9:OpD ix3:=⟨ixD,false,λ{D G x y d e v q} hx hy hd hf k=>by
 unfold ixD at hf;cases hx with
 |tup hs=>
  cases hy<;>try (simp at hf;done)
  obtain ⟨x,e1,r⟩:=hs.atI hf;simp only [ix3,e1];exact k _ _ Ex.refl r (λz=>by cases z)
 |lst g hs=>
  cases hy<;>try (simp at hf;done)
  obtain ⟨x,e1,r⟩:=hs.atI hf;simp only [ix3,zb (qH g).2,e1];exact k _ _ Ex.refl r (λz=>by cases z)
 |_=>simp at hf⟩
def qlm (d e:PyData):Option PyData:=match d,e with
 |.tuple xs,.tuple ys=>cif (xs≠[]/\xs.length+ys.length<=sizeLine) (some (.tuple (xs++ys))) none
 |.list xs,.list ys=>cif (xs.length+ys.length<=sizeLine) (some (.list (xs++ys))) none
 |.int i,.int j=>some (.int (i+j))
 |_,_=>none
def XU:OpD JT:=⟨qlm,false,λ{D G x y d e v q} hx hy hd hf k=>by
  unfold qlm at hf;cases hx with
  | int i => cases hy <;> try (simp at hf;done)
             cases hf;exact k _ _ Ex.refl (.int _) (λz=>by cases z)
  |tup hs=>
    cases hy<;>try (simp at hf;done)
    rename_i hs2;simp only [cif] at hf;split at hf
    · rename_i c;cases hf;refine ⟨?_,by rw [hs.length,hs2.length];exact c.2,k _ _ Ex.refl (.tup (hs.append hs2)) (λz=>by cases z)⟩;rintro rfl;cases hs;exact c.1 rfl
    · cases hf
  |lst g hs=>
    cases hy<;>try (simp at hf;done)
    rename_i g2 hs2;simp only [cif] at hf;split at hf
    · rename_i c;cases hf;simp only [JT,(qH g).2,(qH g2).2];exact ⟨by rw [hs.length,hs2.length];exact c,λp hp=>k _ _ (Z9 hp) (YH hd hp (hs.append hs2)) (λz=>by cases z)⟩
    · cases hf
  |_=>simp at hf⟩
def qk5 (d e:PyData):Option PyData:=match d,e with
 |.list xs,.list ys=>cif (xs.length+ys.length<=sizeLine) (some (.list (xs++ys))) none
 |_,_=>none
def M7:OpD JT:=⟨qk5,true,λ{D G x y d e v q} hx hy hd hf k=>by
 unfold qk5 at hf;cases hx with
 |lst g hs=>
  cases hy<;>try (simp at hf;done)
  rename_i g2 hs2;simp only [cif] at hf;split at hf
  ·rename_i c;cases hf;simp only [JT,(qH g).2,(qH g2).2];exact ⟨by rw [hs.length,hs2.length];exact c,λp hp=>k _ _ (Z9 hp) (YH hd hp (hs.append hs2)) λ_=>D9 hp (hs.append hs2)⟩
  ·cases hf
 |_=>simp at hf⟩
def qhq:List PyData->Option PyData
 |[.tuple xs]=>some (.int xs.length)
 |[.list xs]=>some (.int xs.length)
 |_=>none
def K5:FnD DX:=⟨qhq,false,λ{D G xs ds v q} hx hd hf k=>by
 unfold qhq at hf;split at hf
 ·cases hx with
  |cons a b=>cases b;cases a;rename_i hs;cases hf;simp only [DX];rw [hs.length];exact k _ _ Ex.refl (.int _) (λz=>by cases z)
 ·cases hx with
  |cons a b=>cases b;cases a;rename_i g hs;cases hf;simp only [DX,zb (qH g).2];rw [hs.length];exact k _ _ Ex.refl (.int _) (λz=>by cases z)
 ·cases hf⟩
def qlu:List PyData->Option PyData
 |[.int i,.int j]=>some (.int (if j<i then j else i))
 |_=>none
def qnJ:FnD qgd:=⟨qlu,false,λ{D G xs ds v q} hx hd hf k=>by
 unfold qlu at hf;split at hf
 ·cases hx with
  |cons a b=>cases b with
   |cons b c=>cases c;cases a;cases b;cases hf;exact k _ _ Ex.refl (.int _) (λz=>by cases z)
 ·cases hf⟩
def qlv:List PyData->Option PyData
 |[.int i]=>some (.int i)
 |[.bool k]=>some (.int (if k then 1 else 0))
 |_=>none
def qlp:FnD qge:=⟨qlv,false,λ{D G xs ds v q} hx hd hf k=>by
 unfold qlv at hf;split at hf
 ·cases hx with
  |cons a b=>cases b;cases a;cases hf;exact k _ _ Ex.refl (.int _) (λz=>by cases z)
 ·cases hx with
  |cons a b=>cases b;cases a;cases hf;exact k _ _ Ex.refl (.int _) (λz=>by cases z)
 ·cases hf⟩
def qlj:List PyData->Option PyData
 |[.tuple xs]=>some (.tuple xs)
 |[.list xs]=>some (.tuple xs)
 |_=>none
def qku:FnD UX:=⟨qlj,false,λ{D G xs ds v q} hx hd hf k=>by
 unfold qlj at hf;split at hf
 ·cases hx with
  |cons a b=>cases b;cases a;rename_i hs;cases hf;exact k _ _ Ex.refl (.tup hs) (λz=>by cases z)
 ·cases hx with
  |cons a b=>cases b;cases a;rename_i g hs;cases hf;simp only [UX,zb (qH g).2];exact k _ _ Ex.refl (.tup hs) (λz=>by cases z)
 ·cases hf⟩
def qgq:List PyData->Option PyData
 |[.tuple xs]=>some (.list xs)
 |[.list xs]=>some (.list xs)
 |_=>none
def qhb:FnD LO:=⟨qgq,true,λ{D G xs ds v q} hx hd hf k=>by
 unfold qgq at hf;split at hf
 ·cases hx with
  |cons a b=>cases b;cases a;rename_i hs;cases hf;exact λp hp=>k _ _ (Z9 hp) (YH hd hp hs) λ_=>D9 hp hs
 ·cases hx with
  |cons a b=>cases b;cases a;rename_i g hs;cases hf;simp only [LO,zb (qH g).2];exact λp hp=>k _ _ (Z9 hp) (YH hd hp hs) λ_=>D9 hp hs
 ·cases hf⟩
def KL:List PyData->Option (List Bool)
 |[]=>some []
 |.bool i::r=>(KL r).map (i::·)
 |_=>none
def TL (ns:List Bool):KL (ns.map PyData.bool)=some ns:=by
 induction ns with
 |nil=>rfl
 |cons n r ih=>simp [KL,ih]
def MF {G:Gp}:∀ {xs:List T} {ds:List PyData} {ns:List Bool},Dqs G xs ds->KL ds=some ns->qgr xs=some (ns.all id)/\qnn xs=some (ns.any id)
 |_,_,_,.nil,h=>by simp [KL] at h;subst h;exact ⟨rfl,rfl⟩
 |_,.bool i::r,ns,.cons a b,h=>by
  simp only [KL] at h;obtain ⟨ms,e,rfl⟩:=Option.map_eq_some_iff.mp h;obtain ⟨h1,h2⟩:=MF b e;cases a;simp [qgr,qnn,h1,h2]
 |_,.int _::r,ns,_,h=>by simp [KL] at h
 |_,.none::r,ns,_,h=>by simp [KL] at h
 |_,.str _::r,ns,_,h=>by simp [KL] at h
 |_,.list _::r,ns,_,h=>by simp [KL] at h
 |_,.tuple _::r,ns,_,h=>by simp [KL] at h
 |_,.dict _::r,ns,_,h=>by simp [KL] at h
def qgQ:List PyData->Option PyData
 |[.list xs]=>(KL xs).map λns=>.bool (ns.all id)
 |_=>none
def qjV:FnD qeI:=⟨qgQ,false,λ{D G xs ds v q} hx hd hf k=>by
 unfold qgQ at hf;split at hf
 ·obtain ⟨ns,e,rfl⟩:=Option.map_eq_some_iff.mp hf;cases hx with
  |cons a b=>cases b;cases a;rename_i g hs;simp only [qeI,zb (qH g).2,(MF hs e).1];exact k _ _ Ex.refl (.bl _) (λz=>by cases z)
 ·cases hf⟩
def qnu:List PyData->Option PyData
 |[.list xs]=>(KL xs).map λns=>.bool (ns.any id)
 |_=>none
def qgI:List PyData->Option PyData
 |[.list xs]=>(UB xs).bind λns=>cif (LN ns) (some (.int ns.sum)) none
 |_=>none
def qlz:FnD qiL:=⟨qgI,false,λ{D G xs ds v q} hx hd hf k=>by
 unfold qgI at hf;split at hf
 ·obtain ⟨ns,e,hf⟩:=obb hf;unfold cif at hf;split at hf
  ·rename_i c;cases hf;cases hx with
   |cons a b=>cases b;cases a;rename_i g hs;have:=K2 e;subst this;have:=hs.ints;subst this;simp only [qiL,zb (qH g).2,MV];exact ⟨c,k _ _ Ex.refl (.int _) (λz=>by cases z)⟩
  ·cases hf
 ·cases hf⟩
def PSp (F:List PyData->Option PyData) (fr:Bool):Sp3:=λts G q=>∃ (D:Addr->Prop) (ds:List PyData) (d:PyData),Dqs (rs D G) ts ds/\Dom D G/\F ds=some d/\∀ x G',Ex G G'->Dq (rs D G') x d->(fr=true->Nw D G G' x d)->q x G'
def zw (F:List PyData->Option PyData) (fr:Bool):FnD (PSp F fr):=⟨F,fr,λ{D G xs ds v q} hx hd hf k=>⟨D,ds,v,hx,hd,hf,k⟩⟩
def WK:PyData->Option (List PyData)
 |.tuple xs=>some xs
 |.list xs=>some xs
 |_=>none
def qa3 {t:TE3} (a:PuE t):PuI (JC t):=⟨λρ=>(a.f ρ).bind WK,a.fv,false,λ{D τ ρ G r ds} hv hd hf k=>by
 obtain ⟨d,e1,hf⟩:=obb hf;refine a.ok hv hd e1 λx G1 E1 D1 _=>?_;unfold WK at hf;cases D1 with
 |tup hs=>cases hf;exact k _ _ _ E1 hs (λ_ _=>trivial) (λz=>by cases z)
 |lst g hs=>
  cases hf;simp only [zb (qH g).2];refine k _ _ _ E1 hs (λG2 h=>?_) (λz=>by cases z);rcases h with h|h
  ·cases h
  ·exact zb (h _ _ g)
 |_=>simp at hf⟩
def D6 (lo:Int) (n:Nat):List Int:=(List.range n).map λ(i:Nat)=>lo+(i:Int)
def KW (lo:Int) (n:Nat):LY lo n=(D6 lo n).map T.int:=by simp [LY,D6,map_map,Function.comp_def]
def qd7:List PyData->Option (List PyData)
 |[.int j]=>cif (-(2 ^ 62)<=j/\j<2 ^ 62) (some ((D6 0 j.toNat).map PyData.int)) none
 |[.int i,.int j]=>cif (-(2 ^ 62)<=i/\i<2 ^ 62/\-(2 ^ 62)<=j/\j<2 ^ 62) (some ((D6 i (j-i).toNat).map PyData.int)) none
 |_=>none
def qj5 {t:TA3} (a:PuA t):PuI (Y8 t):=⟨λρ=>(a.f ρ).bind qd7,a.fv,true,λ{D τ ρ G r ds} hv hd hf k=>by
 obtain ⟨d,e1,hf⟩:=obb hf;refine a.ok hv hd e1 λx G1 E1 D1=>?_;unfold qd7 at hf;split at hf
 ·unfold cif at hf;split at hf
  ·rename_i c;cases hf;cases D1 with
   |cons a b=>cases b;cases a;simp only;rw [KW];exact ⟨c,k _ _ _ E1 (Dqs.ofInts _) (λ_ _=>trivial) λ_=>⟨_,rfl⟩⟩
  ·cases hf
 ·unfold cif at hf;split at hf
  ·rename_i c;cases hf;cases D1 with
   |cons a b=>cases b with
    |cons b c'=>cases c';cases a;cases b;simp only;rw [KW];exact ⟨c,k _ _ _ E1 (Dqs.ofInts _) (λ_ _=>trivial) λ_=>⟨_,rfl⟩⟩
  ·cases hf
 ·cases hf⟩
def qmi (us vs:List PyData):List PyData:=(us.zip vs).map λp=>.tuple [p.1,p.2]
def Dqs.zip {G:Gp}:∀ {xs:List T} {ds:List PyData} {ys:List T} {es:List PyData},Dqs G xs ds->Dqs G ys es->Dqs G (qmX xs ys) (qmi ds es)
 |_,_,_,_,.nil,_=>by simp [qmX,qmi];exact .nil
 |_,_,_,_,.cons _ _,.nil=>by simp [qmX,qmi];exact .nil
 |_,_,_,_,.cons a b,.cons c d=>.cons (.tup (.cons a (.cons c .nil))) (Dqs.zip b d)
def qbA {G:Gp} {x:T} {d:PyData} {ds:List PyData} (h:Dq G x d) (e:WK d=some ds):∃ us,W1 G x=some us/\Dqs G us ds:=by
 unfold WK at e;cases h with
 |tup hs=>cases e;exact ⟨_,rfl,hs⟩
 |lst g hs=>cases e;exact ⟨_,zb g,hs⟩
 |_=>simp at e
def qdE {G G':Gp} {x:T} {us:List T} (e:Ex G G') (h:W1 G x=some us):W1 G' x=some us:=by
 cases x with
 |tup xs=>exact h
 |ref p=>exact e.getL h
 |_=>cases h
def enD (k:Nat):List PyData->List PyData
 |[]=>[]
 |x::r=>.tuple [.int (k:Int),x]::enD (k+1) r
def Dqs.enum {G:Gp}:∀ {xs:List T} {ds:List PyData} (k:Nat),Dqs G xs ds->Dqs G (jO k xs) (enD k ds)
 |_,_,_,.nil=>.nil
 |_,_,k,.cons a b=>.cons (.tup (.cons (.int _) (.cons a .nil))) (Dqs.enum (k+1) b)
def DT {t:TA3} (a:PuA t):PuI (J3 t):=⟨λρ=>(a.f ρ).bind λds=>match ds with|[d]=>(WK d).map λus=>enD 0 us|_=>none,a.fv,false,λ{D τ ρ G r ds} hv hd hf k=>by
 obtain ⟨d,e1,hf⟩:=obb hf;refine a.ok hv hd e1 λx G1 E1 D1=>?_;split at hf
 ·obtain ⟨us,e2,rfl⟩:=Option.map_eq_some_iff.mp hf;cases D1 with
  |cons a b=>
   cases b;obtain ⟨us',h1,h2⟩:=qbA a e2;simp only [qdE D7 h1];refine k _ _ _ E1 (h2.enum 0) (λG2 h=>?_) (λz=>by cases z);rcases h with h|h
   ·cases h
   ·exact qdE h h1
 ·cases hf⟩
inductive Bd (H:Gp):List (Nat×T)->List (Nat×PyData)->Prop
 |nil:Bd H [] []
 |cons {i:Nat} {x:T} {d:PyData} {ts:List (Nat×T)} {bs:List (Nat×PyData)}:Dq H x d->Bd H ts bs->Bd H ((i,x)::ts) ((i,d)::bs)
def Bd.append {H:Gp}:∀ {ts:List (Nat×T)} {bs:List (Nat×PyData)} {us:List (Nat×T)} {cs:List (Nat×PyData)},Bd H ts bs->Bd H us cs->Bd H (ts++us) (bs++cs)
 |_,_,_,_,.nil,h=>h
 |_,_,_,_,.cons a b,h=>.cons a (Bd.append b h)
def Bd.up {H H':Gp} (e:Ex H H'):∀ {ts:List (Nat×T)} {bs:List (Nat×PyData)},Bd H ts bs->Bd H' ts bs
 |_,_,.nil=>.nil
 |_,_,.cons a b=>.cons (a.up e) (Bd.up e b)
def sets:St3->List (Nat×T)->St3
 |τ,[]=>τ
 |τ,p::r=>sets (τ.set p.1 (some p.2)) r
def V7:Rho->List (Nat×PyData)->Rho
 |ρ,[]=>ρ
 |ρ,p::r=>V7 (ρ.set p.1 (.sh p.2)) r
def TJ:∀ (τ:St3) (a b:List (Nat×T)),sets τ (a++b)=sets (sets τ a) b
 |τ,[],b=>rfl
 |τ,p::a,b=>by simp only [cons_append,sets];exact TJ _ a b
structure PuG (g:TG3) where
 f:PyData->Option (List (Nat×PyData))
 tg:List Nat
 at':∀ {d bs},f d=some bs->∀ p∈bs,p.1∈tg
 ok:∀ {H x d bs},Dq H x d->f d=some bs->∃ ts,Bd H ts bs/\∀ τ G (q:St3->Gp->Prop),q (sets τ ts) G->g x τ G q
structure PuGs (g:RZ) where
 f:List PyData->Option (List (Nat×PyData))
 tg:List Nat
 at':∀ {d bs},f d=some bs->∀ p∈bs,p.1∈tg
 ok:∀ {H x d bs},Dqs H x d->f d=some bs->∃ ts,Bd H ts bs/\∀ τ G (q:St3->Gp->Prop),q (sets τ ts) G->g x τ G q
def gN (i:Nat):PuG (gn3 i):=⟨λd=>some [(i,d)],[i],λh p hp=>by cases h;simp at hp;subst hp;simp,λhx h=>by cases h;exact ⟨_,.cons hx .nil,λτ G q hq=>hq⟩⟩
def KO:PuGs UR:=⟨λds=>match ds with|[]=>some []|_=>none,[],(λh p hp=>by split at h;cases h;cases hp;cases h),λhx h=>by
 split at h
 ·cases h;cases hx;exact ⟨[],.nil,λτ G q hq=>hq⟩
 ·cases h⟩
def jJ {t:TG3} {u:RZ} (a:PuG t) (b:PuGs u):PuGs (zJ t u):=⟨λds=>match ds with|d::r=>(a.f d).bind λx=>(b.f r).map λy=>x++y|[]=>none,a.tg++b.tg,(λh p hp=>by
 split at h
 ·obtain ⟨x,e1,h⟩:=obb h;obtain ⟨y,e2,rfl⟩:=Option.map_eq_some_iff.mp h;rcases List.mem_append.mp hp with z|z
  ·exact List.mem_append.mpr (.inl (a.at' e1 p z))
  ·exact List.mem_append.mpr (.inr (b.at' e2 p z))
 ·cases h),λhx h=>by
 split at h
 ·obtain ⟨x,e1,h⟩:=obb h;obtain ⟨y,e2,rfl⟩:=Option.map_eq_some_iff.mp h;cases hx with
  |cons hx hr=>
   obtain ⟨ts,b1,k1⟩:=a.ok hx e1;obtain ⟨us,b2,k2⟩:=b.ok hr e2;refine ⟨ts++us,b1.append b2,λτ G q hq=>k1 τ G _ (k2 _ G q ?_)⟩;rw [← TJ];exact hq
 ·cases h⟩
def KA {u:RZ} (n:Nat) (b:PuGs u):PuG (V3 n u):=⟨λd=>match d with|.tuple ds=>if ds.length=n then b.f ds else none|_=>none,b.tg,(λh p hp=>by
 split at h
 ·split at h
  ·exact b.at' h p hp
  ·cases h
 ·cases h),λhx h=>by
 split at h
 ·split at h
  ·rename_i c;cases hx with
   |tup hs=>
    obtain ⟨ts,b1,k1⟩:=b.ok hs h;exact ⟨ts,b1,λτ G q hq=>⟨by rw [hs.length];exact c,k1 τ G q hq⟩⟩
  ·cases h
 ·cases h⟩
structure VA (D:Addr->Prop) (G:Gp) (τ:St3) (ρ:Rho):Prop where
 len:ρ.length=τ.length
 vw:∀ i d,vw ρ i=some d->∃ t,τ[i]?=some (some t)/\Dq (rs D G) t d
def VA.view {D:Addr->Prop} {G:Gp} {τ:St3} {ρ:Rho} (h:VA D G τ ρ) (fv:List Nat):WH fv D G τ ρ:=λi _ d e=>h.vw i d e
def VA.upx {D:Addr->Prop} {G G':Gp} {τ:St3} {ρ:Rho} (h:VA D G τ ρ) (e:Ex (rs D G) (rs D G')):VA D G' τ ρ:=⟨h.len,λi d hd=>let ⟨t,a,b⟩:=h.vw i d hd;⟨t,a,b.up e⟩⟩
def VA.up {D:Addr->Prop} {G G':Gp} {τ:St3} {ρ:Rho} (h:VA D G τ ρ) (e:Ex G G'):VA D G' τ ρ:=h.upx (QG e)
def qka {ρ:Rho} {i j:Nat} {s:Sl}:vw (ρ.set i s) j=if i=j then (if i<ρ.length then s.d else none) else vw ρ j:=by
 unfold vw;rw [getElem?_set];split
 ·subst j;split
  ·rfl
  ·rfl
 ·rfl
def VA.set {D:Addr->Prop} {G:Gp} {τ:St3} {ρ:Rho} (h:VA D G τ ρ) {i:Nat} {x:T} {d:PyData} (hx:Dq (rs D G) x d):VA D G (τ.set i (some x)) (ρ.set i (.sh d)):=by
 refine ⟨by simp [h.len],λj e he=>?_⟩;rw [qka] at he;split at he
 ·subst j;split at he
  ·rename_i l;cases he;refine ⟨x,?_,hx⟩;rw [getElem?_set,if_pos rfl,if_pos (by rw [← h.len];exact l)]
  ·cases he
 ·rename_i n;obtain ⟨t,a,b⟩:=h.vw j e he;exact ⟨t,by rw [getElem?_set,if_neg n];exact a,b⟩
def VA.sets {D:Addr->Prop} {G:Gp}:∀ {ts:List (Nat×T)} {bs:List (Nat×PyData)} {τ:St3} {ρ:Rho},VA D G τ ρ->Bd (rs D G) ts bs->VA D G (Pu.sets τ ts) (V7 ρ bs)
 |_,_,_,_,h,.nil=>h
 |_,_,_,_,h,.cons a b=>by unfold Pu.sets V7;exact VA.sets (h.set a) b
def VA.keep {D:Addr->Prop} {G:Gp} {ρ:Rho}:∀ {ts:List (Nat×T)} {τ:St3},VA D G τ ρ->(∀ p∈ts,Pu.vw ρ p.1=none)->VA D G (Pu.sets τ ts) ρ
 |[],_,h,_=>h
 |p::r,τ,h,hn=>VA.keep (ts:=r) ⟨by rw [List.length_set];exact h.len,λj d hd=>by
   have:p.1≠j:=by rintro rfl;rw [hn p (by simp)] at hd;cases hd
   obtain ⟨t,a,b⟩:=h.vw j d hd;exact ⟨t,by rw [getElem?_set,if_neg this];exact a,b⟩⟩ λq hq=>hn q (by simp [hq])
def LP (m:List (Option Nat)) (ρ:Rho):Rho:=m.map λo=>match o with|some j=>(match vw ρ j with|some d=>.sh d|none=>.un)|none=>.un
def VA.cap {m:List (Option Nat)} {D:Addr->Prop} {G:Gp} {τ:St3} {ρ:Rho} (h:WH (m.filterMap id) D G τ ρ):VA D G (L3.cap m τ) (LP m ρ):=by
 refine ⟨by simp [LP,L3.cap],λi d hd=>?_⟩;unfold Pu.vw LP at hd;rw [getElem?_map] at hd;cases e:m[i]? with
 |none=>rw [e] at hd;cases hd
 |some o=>
  rw [e] at hd;cases o with
  |none=>cases hd
  |some j=>
   simp only [Option.map_some,Option.bind_some] at hd;cases e2:Pu.vw ρ j with
   |none=>rw [e2] at hd;cases hd
   |some d'=>
    rw [e2] at hd;have hd':d'=d:=by simpa [Sl.d] using hd
    subst hd';obtain ⟨t,a,b⟩:=h j (List.mem_filterMap.mpr ⟨some j,mem_of_getElem? e,rfl⟩) d' e2;refine ⟨t,?_,b⟩;unfold L3.cap;rw [getElem?_map,e];simp [a]
def qfT {m:List (Option Nat)} {ρ:Rho} {i:Nat} (h:m[i]?=some none):vw (LP m ρ) i=none:=by
 unfold vw LP;rw [getElem?_map,h];rfl
def lcP (h:PyData->Option (Option PyData)):List PyData->Option (List PyData)
 |[]=>some []
 |d::r=>(h d).bind λo=>(lcP h r).bind λys=>some (match o with|some y=>y::ys|none=>ys)
def lcH (gf:PyData->Option (List (Nat×PyData))) (cf:Rho->Option Bool) (ef:Rho->Option PyData) (ρ:Rho) (d:PyData):Option (Option PyData):=
 (gf d).bind λbs=>(cf (V7 ρ bs)).bind λk=>if k then (ef (V7 ρ bs)).map some else some none
def ZQ {h:PyData->Option (Option PyData)} {α:Type} {g:α->PyData} {k:α->PyData} {xs:List α} (hh:∀ a∈xs,h (g a)=some (some (k a))):lcP h (xs.map g)=some (xs.map k):=by
 induction xs with
 |nil=>rfl
 |cons a r ih=>simp only [map_cons,lcP,hh a (by simp),Option.bind_some,ih λb hb=>hh b (by simp [hb])]
def LD {h:PyData->Option (Option PyData)} {α:Type} {g:α->PyData} {k:α->PyData} {c:α->Bool} {xs:List α} (hh:∀ a∈xs,h (g a)=some (if c a then some (k a) else none)):lcP h (xs.map g)=some ((xs.filter c).map k):=by
 induction xs with
 |nil=>rfl
 |cons a r ih=>
  simp only [map_cons,lcP,hh a (by simp),Option.bind_some,ih λb hb=>hh b (by simp [hb])];cases e:c a with
  |true=>simp [e]
  |false=>simp [e]
def qiU {H:Gp}:∀ {ts:List (Nat×T)} {bs:List (Nat×PyData)},Bd H ts bs->∀ p∈ts,∃ q∈bs,q.1=p.1
 |_,_,.nil,p,hp=>by cases hp
 |_,_,.cons a b,p,hp=>by
  rcases mem_cons.mp hp with rfl|hp
  ·exact ⟨_,List.mem_cons_self,rfl⟩
  ·obtain ⟨q,hq,e⟩:=qiU b p hp;exact ⟨q,by simp [hq],e⟩
def qeV {stay:Gp->Prop} {g:TG3} {tif:TT3} {te:TE3} {q:Q3} (pg:PuG g) (pc:PuC tif) (pe:PuE te) {D:Addr->Prop} {ρ0:Rho} {G0:Gp} (hs:∀ G,Ex G0 G->stay G) (hm:∀ i∈pg.tg,vw ρ0 i=none) (fin:List PyData) (hfin:fin.length<=sizeLine)
  (k:∀ G ys,Ex G0 G->Dqs (rs D G) ys fin->∀ p,G p=none->q (.ref p) (gu G p (.lst ys))) :
  ∀ (ds:List PyData) (items ys:List T) (es fs:List PyData) (τ:St3) (G:Gp),Dqs (rs D G0) items ds->VA D G τ ρ0->Ex G0 G->Dom D G->Dqs (rs D G) ys es->lcP (lcH pg.f pc.f pe.f ρ0) ds=some fs->es++fs=fin->CF stay g tif te q items ys τ G
 |_,_,ys,es,fs,τ,G,.nil,va,E,hd,hy,hf,hl=>by
  cases hf;rw [List.append_nil] at hl;subst hl;exact ⟨hs G E,k G ys E hy⟩
 |d::ds,x::items,ys,es,fs,τ,G,.cons hx hr,va,E,hd,hy,hf,hl=>by
  unfold lcP at hf;obtain ⟨o,e1,hf⟩:=obb hf;obtain ⟨jZ,e2,hf⟩:=obb hf;unfold lcH at e1;obtain ⟨bs,e3,e1⟩:=obb e1;obtain ⟨c,e4,e1⟩:=obb e1;obtain ⟨ts,bd,kg⟩:=pg.ok (hx.up (QG E)) e3;refine ⟨hs G E,kg τ G _ ?_⟩;have va1:=va.sets bd;have va2:=va.keep (ts:=ts) λp hp=>by
   obtain ⟨q,hq,e⟩:=qiU bd p hp;rw [← e];exact hm _ (pg.at' e3 q hq)
  refine pc.ok (va1.view _) hd e4 λG1 E1=>?_;cases c with
  |true=>
   rw [if_pos rfl];rw [if_pos rfl] at e1;obtain ⟨y,e5,rfl⟩:=Option.map_eq_some_iff.mp e1;simp only [Option.some.injEq] at hf;subst hf;refine pe.ok ((va1.up E1).view _) (hd.up E1) e5 λz G2 E2 D2 _=>⟨?_,?_⟩
   ·rw [hy.length];rw [← hl] at hfin;simp at hfin;omega
   ·refine qeV pg pc pe hs hm fin hfin k ds items (ys++[z]) (es++[y]) jZ _ G2 hr ((va2.up E1).up E2) (E.trans (E1.trans E2)) ((hd.up E1).up E2) (((hy.up (QG E1)).up (QG E2)).append (.cons D2 .nil)) e2 ?_;rw [← hl];simp
  |false=>
   rw [if_neg Bool.false_ne_true];simp at e1;subst e1;simp only [Option.some.injEq] at hf;subst hf;exact qeV pg pc pe hs hm fin hfin k ds items ys es jZ _ G1 hr (va2.up E1) (E.trans E1) (hd.up E1) (hy.up (QG E1)) e2 hl
def lcF (pi:Rho->Option (List PyData)) (h:Rho->PyData->Option (Option PyData)) (m:List (Option Nat)) (ρ:Rho):Option PyData:=
 (pi ρ).bind λds=>(lcP (h (LP m ρ)) ds).bind λfs=>cif (fs.length<=sizeLine) (some (.list fs)) none
def bLc {wi:TI3} {g:TG3} {tif:TT3} {te:TE3} (pi:PuI wi) (pg:PuG g) (pc:PuC tif) (pe:PuE te) (m:List (Option Nat)) (hm:Tru (pg.tg.all λi=>m[i]?==some none)):PuE (lc3 wi g tif te m):=
 ⟨lcF pi.f (lcH pg.f pc.f pe.f) m,pi.fv++m.filterMap id,true,λ{D τ ρ G q d} hv hd hf k=>by
  unfold lcF at hf;obtain ⟨ds,e1,hf⟩:=obb hf;obtain ⟨fs,e2,hf⟩:=obb hf;unfold cif at hf;split at hf
  ·rename_i hl;cases hf;refine pi.ok hv.l hd e1 λitems stay G1 E1 D1 hs _=>?_;have va:=(VA.cap (m:=m) hv.r).up E1;refine qeV pg pc pe (D:=D) (ρ0:=LP m ρ) (G0:=G1) (λG2 E2=>hs G2 (.inr (D7.trans E2))) (λi hi=>qfT ?_) fs hl (λG2 ys E2 D2 p hp=>?_) ds items [] [] fs _ G1 D1 va Ex.refl (hd.up E1) .nil e2 (by simp)
   ·have:=List.all_eq_true.mp hm.h i hi;simpa using this
   ·exact k _ _ ((E1.trans E2).trans (Z9 hp)) (YH ((hd.up E1).up E2) hp D2) λ_=>(D9 hp D2).back (E1.trans E2)
  ·cases hf⟩
def AD (D:Addr->Prop) (A:Nat->Option Addr) (b:Addr):Prop:=D b\/∃ i,A i=some b
structure RS (D:Addr->Prop) (G0:Gp) (A:Nat->Option Addr) (τ:St3) (ρ:Rho) (G:Gp):Prop where
 ex:Ex G0 G
 dm:Dom D G0
 fr:∀ i p,A i=some p->G0 p=none
 da:∀ i p,A i=some p->G p≠none
 inj:∀ i j p,A i=some p->A j=some p->i=j
 len:ρ.length=τ.length
 sh:∀ (i:Nat) (d:PyData),ρ[i]?=some (Sl.sh d)->∃ t,τ[i]?=some (some t)/\Dq (rs (AD D A) G) t d
 ow:∀ (i:Nat) (ds:List PyData),ρ[i]?=some (Sl.ow ds)->∃ p xs,A i=some p/\τ[i]?=some (some (.ref p))/\G p=some (.lst xs)/\Dqs (rs (AD D A) G) xs ds
section
variable {D:Addr->Prop} {G0 G G':Gp} {A A':Nat->Option Addr} {τ:St3} {ρ:Rho}
def RS.nd (h:RS D G0 A τ ρ G) {i:Nat} {p:Addr} (e:A i=some p):¬ D p:=λz=>h.dm p z (h.fr i p e)
def RS.dom (h:RS D G0 A τ ρ G):Dom (AD D A) G:=λb hb=>by
 rcases hb with hb|⟨i,hi⟩
 ·exact (h.dm.up h.ex) b hb
 ·exact h.da i b hi
def RS.domD (h:RS D G0 A τ ρ G):Dom D G:=h.dm.up h.ex
def RS.up (h:RS D G0 A τ ρ G) (e:Ex G G'):RS D G0 A τ ρ G':=
 ⟨h.ex.trans e,h.dm,h.fr,λi p a z=>(h.da i p a) (by
  cases g:G p with
  |none=>rfl
  |some o=>rw [e _ _ g] at z;cases z),h.inj,h.len,λi d a=>let ⟨t,b,c⟩:=h.sh i d a;⟨t,b,c.up (QG e)⟩,λi ds a=>let ⟨p,xs,b,c,d,f⟩:=h.ow i ds a;⟨p,xs,b,c,e _ _ d,f.up (QG e)⟩⟩
def RS.viewAll (h:RS D G0 A τ ρ G) (fv:List Nat):WH fv D G τ ρ:=λi _ d hd=>by
 unfold vw at hd;obtain ⟨s,e,hd⟩:=obb hd;have less:Ex (rs (AD D A) G) (rs D G):=zP λb z=>.inl z;cases s with
 |un=>cases hd
 |sh d'=>
  cases hd;obtain ⟨t,b,c⟩:=h.sh i _ e;exact ⟨t,b,c.up less⟩
 |ow ds=>
  cases hd;obtain ⟨p,xs,b,c,g,f⟩:=h.ow i _ e;exact ⟨_,c,.lst (by rw [QI (h.nd b)];exact g) (f.up less)⟩
def RS.view (h:RS D G0 A τ ρ G) {fv:List Nat} (hn:∀ i∈fv,A i=none):WH fv (AD D A) G τ ρ:=λi hi d hd=>by
 unfold vw at hd;obtain ⟨s,e,hd⟩:=obb hd;cases s with
 |un=>cases hd
 |sh d'=>
  cases hd;exact h.sh i _ e
 |ow ds=>
  obtain ⟨p,xs,b,_⟩:=h.ow i _ e;rw [hn i hi] at b;cases b
def Sl.dem:Sl->Sl
 |.ow ds=>.sh (.list ds)
 |s=>s
def dm:List Bool->Rho->Rho
 |b::m,s::r=>(match b with|true=>s.dem|false=>s)::dm m r
 |_,r=>r
def mkb (m:List Bool) (i:Nat):Bool:=(m[i]?).getD false
def qa1:∀ (m:List Bool) (ρ:Rho) (i:Nat),(dm m ρ)[i]?=(ρ[i]?).map λs=>if mkb m i=true then s.dem else s
 |[],ρ,i=>by simp [dm,mkb]
 |b::m,[],i=>by simp [dm]
 |b::m,s::r,0=>by cases b<;>simp [dm,mkb]
 |b::m,s::r,i+1=>by
  have:=qa1 m r i;simp only [dm,getElem?_cons_succ,mkb] at this ⊢;exact this
def qna (s:Sl):s.dem.d=s.d:=by cases s<;>rfl
def qmM (m:List Bool) (ρ:Rho) (i:Nat):vw (dm m ρ) i=vw ρ i:=by
 unfold vw;rw [qa1];cases ρ[i]? with
 |none=>rfl
 |some s=>
  simp only [Option.map_some,Option.bind_some];split
  ·exact qna s
  ·rfl
def qee:∀ (m:List Bool) (ρ:Rho),(dm m ρ).length=ρ.length
 |[],ρ=>rfl
 |b::m,[]=>rfl
 |b::m,s::r=>by simp [dm,qee m r]
def Ad (m:List Bool) (A:Nat->Option Addr):Nat->Option Addr:=λi=>if mkb m i=true then none else A i
def U3 {m:List Bool} {i:Nat} {p:Addr} (h:Ad m A i=some p):A i=some p/\mkb m i=false:=by
 unfold Ad at h;split at h
 ·cases h
 ·rename_i n;exact ⟨h,by simpa using n⟩
def RS.dem (h:RS D G0 A τ ρ G) (m:List Bool):RS D G0 (Ad m A) τ (Pu.dm m ρ) G:=by
 have less:Ex (rs (AD D A) G) (rs (AD D (Ad m A)) G):=zP λb z=>by
  rcases z with z|⟨i,z⟩
  ·exact .inl z
  ·exact .inr ⟨i,(U3 z).1⟩
 refine ⟨h.ex,h.dm,λi p e=>h.fr i p (U3 e).1,λi p e=>h.da i p (U3 e).1,λi j p a b=>h.inj i j p (U3 a).1 (U3 b).1,by rw [qee];exact h.len,λi d e=>?_,λi ds e=>?_⟩
 ·rw [qa1] at e;obtain ⟨s,e1,e2⟩:=Option.map_eq_some_iff.mp e;cases s with
  |un=>split at e2<;>cases e2
  |sh d'=>
   have:d'=d:=by split at e2<;>(cases e2;rfl)
   subst this;obtain ⟨t,b,c⟩:=h.sh i _ e1;exact ⟨t,b,c.up less⟩
  |ow ds=>
   split at e2
   ·rename_i hm;cases e2;obtain ⟨p,xs,b,c,g,f⟩:=h.ow i _ e1;refine ⟨_,c,.lst ?_ (f.up less)⟩;rw [QI]
    ·exact g
    ·rintro (z|⟨j,z⟩)
     ·exact h.nd b z
     ·have:=h.inj i j p b (U3 z).1;subst this;rw [(U3 z).2] at hm;cases hm
   ·cases e2
 ·rw [qa1] at e;obtain ⟨s,e1,e2⟩:=Option.map_eq_some_iff.mp e;cases s with
  |un=>split at e2<;>cases e2
  |sh d'=>split at e2<;>cases e2
  |ow ds'=>
   split at e2
   ·cases e2
   ·rename_i hm;cases e2;obtain ⟨p,xs,b,c,g,f⟩:=h.ow i _ e1;exact ⟨p,xs,by unfold Ad;rw [if_neg hm];exact b,c,g,f.up less⟩
def RS.viewD (h:RS D G0 A τ ρ G) {m:List Bool} {fv:List Nat} (hm:Tru (fv.all (mkb m))):WH fv (AD D (Ad m A)) G τ ρ:=by
 have:=(h.dem m).view (fv:=fv) λi hi=>by unfold Ad;rw [if_pos (List.all_eq_true.mp hm.h i hi)]
 intro i hi d hd;exact this i hi d (by rw [qmM];exact hd)
def Er (A:Nat->Option Addr) (i:Nat):Nat->Option Addr:=λj=>if j=i then none else A j
def DC {i j:Nat} {p:Addr} (h:Er A i j=some p):A j=some p/\j≠i:=by
 unfold Er at h;split at h
 ·cases h
 ·rename_i n;exact ⟨h,n⟩
def RS.put (h:RS D G0 A τ ρ G) (i:Nat) {x:T} {d:PyData} (hx:Dq (rs (AD D A) G) x d):RS D G0 (Er A i) (τ.set i (some x)) (ρ.set i (.sh d)) G:=by
 have less:Ex (rs (AD D A) G) (rs (AD D (Er A i)) G):=zP λb z=>by
  rcases z with z|⟨j,z⟩
  ·exact .inl z
  ·exact .inr ⟨j,(DC z).1⟩
 refine ⟨h.ex,h.dm,λj p e=>h.fr j p (DC e).1,λj p e=>h.da j p (DC e).1,λj k p a b=>h.inj j k p (DC a).1 (DC b).1,by simp [h.len],λj e he=>?_,λj ds e=>?_⟩
 ·rw [getElem?_set] at he ⊢;split at he
  ·rename_i hj;rw [if_pos hj];split at he
   ·rename_i hl;cases he;exact ⟨x,by rw [if_pos (by rw [← h.len];exact hl)],hx.up less⟩
   ·cases he
  ·rename_i hj;rw [if_neg hj];obtain ⟨t,b,c⟩:=h.sh j _ he;exact ⟨t,b,c.up less⟩
 ·rw [getElem?_set] at e ⊢;split at e
  ·split at e<;>cases e
  ·rename_i hj;rw [if_neg hj];obtain ⟨p,xs,b,c,g,f⟩:=h.ow j _ e;exact ⟨p,xs,by unfold Er;rw [if_neg (λz=>hj z.symm)];exact b,c,g,f.up less⟩
def RS.puts:∀ {ts:List (Nat×T)} {bs:List (Nat×PyData)} {A:Nat->Option Addr} {τ:St3} {ρ:Rho},RS D G0 A τ ρ G->Bd (rs (AD D A) G) ts bs->∃ A',RS D G0 A' (sets τ ts) (V7 ρ bs) G
 |_,_,A,_,_,h,.nil=>⟨A,h⟩
 |_,_,A,_,_,h,.cons (i:=i) a b=>by
  unfold sets V7;exact RS.puts (h.put i a) (b.up (zP λb z=>by
   rcases z with z|⟨j,z⟩
   ·exact .inl z
   ·exact .inr ⟨j,(DC z).1⟩))
def RS.putN (h:RS D G0 A τ ρ G) (i:Nat) {x:T} {d:PyData} {ds:List PyData} (hd:d=.list ds) (E:Ex G G') (hx:Nw (AD D A) G G' x d):RS D G0 (λj=>if j=i then (match x with|.ref p=>some p|_=>none) else A j) (τ.set i (some x)) (ρ.set i (.ow ds)) G':=by
 rcases hx with hx|⟨p,xs,ds',rfl,e',gp,gp',hs⟩
 ·rw [hd] at hx;cases hx
 rw [hd] at e';cases e';have np:∀ {j q},A j=some q->q≠p:=λe=>by rintro rfl;exact h.da _ _ e gp
 have X1:Ex (rs (AD D A) G) (rs (AD D (λj=>if j=i then some p else A j)) G'):=λb o e=>by
  obtain ⟨n,e⟩:=qH e;rw [QI]
  ·exact E _ _ e
  ·rintro (z|⟨j,z⟩)
   ·exact n (.inl z)
   ·simp only at z;split at z
    ·cases z;rw [gp] at e;cases e
    ·exact n (.inr ⟨j,z⟩)
 refine ⟨h.ex.trans E,h.dm,λj q e=>?_,λj q e=>?_,λj k q a b=>?_,by simp [h.len],λj e he=>?_,λj es e=>?_⟩
 ·simp only at e;split at e
  ·cases e;cases z:G0 p with
   |none=>rfl
   |some o=>rw [h.ex _ _ z] at gp;cases gp
  ·exact h.fr j q e
 ·simp only at e;split at e
  ·cases e;rw [gp'];simp
  ·exact (h.up E).da j q e
 ·simp only at a b;split at a
  ·cases a;split at b
   ·rename_i h1 h2;rw [h1,h2]
   ·exact absurd rfl (np b)
  ·split at b
   ·cases b;exact absurd rfl (np a)
   ·exact h.inj j k q a b
 ·rw [getElem?_set] at he ⊢;split at he
  ·split at he<;>cases he
  ·rename_i hj;rw [if_neg hj];obtain ⟨t,b,c⟩:=h.sh j _ he;exact ⟨t,b,c.up X1⟩
 ·rw [getElem?_set] at e ⊢;split at e
  ·rename_i hj;subst hj;split at e
   ·rename_i hl;cases e;refine ⟨p,xs,by simp,by rw [if_pos rfl,if_pos (by rw [← h.len];exact hl)],gp',hs.up (zP λb z=>?_)⟩;rcases z with z|⟨j,z⟩
    ·exact .inl (.inl z)
    ·simp only at z;split at z
     ·cases z;exact .inr rfl
     ·exact .inl (.inr ⟨j,z⟩)
   ·cases e
  ·rename_i hj;rw [if_neg hj];obtain ⟨q,ys,b,c,g,f⟩:=h.ow j _ e;exact ⟨q,ys,by rw [if_neg (λz=>hj z.symm)];exact b,c,E _ _ g,f.up X1⟩
def RS.wr (h:RS D G0 A τ ρ G) {i:Nat} {p:Addr} {xs:List T} {ds:List PyData} (hi:A i=some p) (ht:τ[i]?=some (some (.ref p))) (hs:Dqs (rs (AD D A) G) xs ds):RS D G0 A τ (ρ.set i (.ow ds)) (gu G p (.lst xs)):=by
 have X1:Ex (rs (AD D A) G) (rs (AD D A) (gu G p (.lst xs))):=λb o e=>by
  obtain ⟨n,e⟩:=qH e;rw [QI n,ZH (by rintro rfl;exact n (.inr ⟨i,hi⟩))];exact e
 refine ⟨λb o e=>?_,h.dm,h.fr,λj q e=>?_,h.inj,by simp [h.len],λj e he=>?_,λj es e=>?_⟩
 ·rw [ZH (by rintro rfl;rw [h.fr i _ hi] at e;cases e)];exact h.ex _ _ e
 ·by_cases z:q=p
  ·subst z;rw [za];simp
  ·rw [ZH z];exact h.da j q e
 ·rw [getElem?_set] at he;split at he
  ·split at he<;>cases he
  ·obtain ⟨t,b,c⟩:=h.sh j _ he;exact ⟨t,b,c.up X1⟩
 ·rw [getElem?_set] at e;split at e
  ·rename_i hj;subst hj;split at e
   ·cases e;exact ⟨p,xs,hi,ht,za,hs.up X1⟩
   ·cases e
  ·rename_i hj;obtain ⟨q,ys,b,c,g,f⟩:=h.ow j _ e;exact ⟨q,ys,b,c,by rw [ZH (by rintro rfl;exact hj (h.inj i j _ hi b))];exact g,f.up X1⟩
def RS.base {Gb:Gp} (h:RS D Gb A τ ρ G) (e:Ex G0 Gb) (hd:Dom D G0):RS D G0 A τ ρ G:=
 ⟨e.trans h.ex,hd,(λi p a=>by
  cases z:G0 p with
  |none=>rfl
  |some o=>have:=h.fr i p a;rw [e _ _ z] at this;cases this),h.da,h.inj,h.len,h.sh,h.ow⟩
end
inductive Ot where
 |nx (ρ:Rho)|bk (ρ:Rho)|ct (ρ:Rho)|rt (d:PyData) (fr:Bool)
def qgs (D:Addr->Prop) (G0:Gp) (e:Ends3):Ot->Prop
 |.nx ρ=>∀ A τ G,RS D G0 A τ ρ G->e.nx τ G
 |.bk ρ=>∀ A τ G,RS D G0 A τ ρ G->e.bk τ G
 |.ct ρ=>∀ A τ G,RS D G0 A τ ρ G->e.ct τ G
 |.rt d fr=>∀ x G,Ex G0 G->Dq (rs D G) x d->(fr=true->Nw D G0 G x d)->e.rt x G
def qgs.base {D:Addr->Prop} {G0 Gb:Gp} {e:Ends3} {o:Ot} (h:qgs D G0 e o) (x:Ex G0 Gb) (hd:Dom D G0):qgs D Gb e o:=by
 cases o with
 |nx ρ=>exact λA τ G r=>h A τ G (r.base x hd)
 |bk ρ=>exact λA τ G r=>h A τ G (r.base x hd)
 |ct ρ=>exact λA τ G r=>h A τ G (r.base x hd)
 |rt d fr=>exact λy G a b c=>h y G (x.trans a) b λz=>(c z).back x
structure PuS (t:TS3) where
 f:Nat->Rho->Option Ot
 ok:∀ {D G0 A τ ρ G n o} {e:Ends3},RS D G0 A τ ρ G->f n ρ=some o->qgs D G0 e o->t e τ G
def UC:PuS zR:=⟨λ_ ρ=>some (.nx ρ),λh hf k=>by cases hf;exact k _ _ _ h⟩
def qld (a b:Nat->Rho->Option Ot) (n:Nat) (ρ:Rho):Option Ot:=(a n ρ).bind λo=>match o with|.nx ρ'=>b n ρ'|o=>some o
def YK {t u:TS3} (a:PuS t) (b:PuS u):PuS (qQ t u):=⟨qld a.f b.f,λ{D G0 A τ ρ G n o e} h hf k=>by
 unfold qld at hf;obtain ⟨o1,e1,hf⟩:=obb hf;refine a.ok h e1 ?_;cases o1 with
 |nx ρ'=>exact λA' τ' G' h'=>b.ok h' hf k
 |bk ρ'=>cases hf;exact k
 |ct ρ'=>cases hf;exact k
 |rt d fr=>cases hf;exact k⟩
def sIf {c:TT3} {t u:TS3} (pc:PuC c) (a:PuS t) (b:PuS u):PuS (YF c t u):=⟨λn ρ=>(pc.f ρ).bind λk=>if k then a.f n ρ else b.f n ρ,λh hf k=>by
 obtain ⟨o1,e1,hf⟩:=obb hf;refine pc.ok (h.viewAll _) h.domD e1 λG1 E1=>?_;cases o1 with
 |true=>exact a.ok (h.up E1) hf k
 |false=>exact b.ok (h.up E1) hf k⟩
def DU {t:TE3} (a:PuE t):PuS (zX t):=⟨λ_ ρ=>(a.f ρ).map λd=>.rt d a.nw,λh hf k=>by
 obtain ⟨d,e1,rfl⟩:=Option.map_eq_some_iff.mp hf;exact a.ok (h.viewAll _) h.domD e1 λx G1 E1 D1 N1=>k x G1 (h.ex.trans E1) D1 λz=>(N1 z).back h.ex⟩
def L8 (ρ:Rho) (i:Nat):Option Ot:=match ρ[i]? with|some (.ow ds)=>some (.rt (.list ds) true)|some (.sh d)=>some (.rt d false)|_=>none
def XE (i:Nat):PuS (zX (v3 i)):=⟨λ_ ρ=>L8 ρ i,λh hf k=>by
 unfold L8 at hf;split at hf
 ·rename_i ds e;cases hf;obtain ⟨p,xs,b,c,g,f⟩:=h.ow i _ e;simp only [zX,v3,c];refine k _ _ h.ex (.lst (by rw [QI (h.nd b)];exact g) (f.up (zP λb z=>.inl z))) λ_=>.inr ⟨p,xs,ds,rfl,rfl,h.fr i p b,g,f.up (zP λq z=>?_)⟩;rcases z with z|z
  ·exact .inl z
  ·subst z;exact .inr ⟨i,b⟩
 ·rename_i d e;cases hf;obtain ⟨t,b,c⟩:=h.sh i _ e;simp only [zX,v3,b];exact k _ _ h.ex (c.up (zP λb z=>.inl z)) (λz=>by cases z)
 ·cases hf⟩
def L7:PyData->Bool
 |.none=>true|.bool _=>true|.int _=>true|.str _=>true|_=>false
def U6 {H H':Gp} {x:T} {d:PyData} (h:Dq H x d) (s:L7 d=true):Dq H' x d:=by
 cases h<;>first|(constructor;done)|(simp [L7] at s;done)
def qoL:PyData->Sl
 |.list ds=>.ow ds
 |d=>.sh d
def XZ (m:List Bool) (nw:Bool) (i:Nat) (d:PyData) (ρ:Rho):Rho:=if L7 d then ρ.set i (.sh d) else (dm m ρ).set i (if nw then qoL d else .sh d)
def CD {t:TE3} (a:PuE t) (i:Nat) (m:List Bool) (hm:Tru (a.fv.all (mkb m))):PuS (qX t (gn3 i)):=⟨λ_ ρ=>(a.f ρ).map λd=>.nx (XZ m a.nw i d ρ),λ{D G0 A τ ρ G n o e} h hf k=>by
 obtain ⟨d,e1,rfl⟩:=Option.map_eq_some_iff.mp hf;refine a.ok (h.viewD hm) (h.dem m).dom e1 λx G1 E1 D1 N1=>?_;unfold XZ at k;show e.nx (τ.set i (some x)) G1;split at k
 ·rename_i hs;exact k _ _ _ ((h.up E1).put i (U6 D1 hs))
 ·split at k
  ·rename_i hn;have N:=N1 hn;rcases id N with h2|⟨p,xs,ds,h1,h2,_⟩
   ·subst h2;rename_i hs;exact absurd rfl hs
   subst h2;exact k _ _ _ ((h.dem m).putN i rfl E1 N)
  ·exact k _ _ _ (((h.dem m).up E1).put i D1)⟩
def qfB (i j:Nat) (m:List Bool) (ds:List PyData) (ρ:Rho):Option Ot:=match ds with
 |[d,e]=>if L7 d&&L7 e then some (.nx ((ρ.set i (.sh d)).set j (.sh e))) else some (.nx (((dm m ρ).set i (.sh d)).set j (.sh e)))
 |_=>none
def qiy {D:Addr->Prop} {A:Nat->Option Addr} {G:Gp} {i:Nat}:Ex (rs (AD D A) G) (rs (AD D (Er A i)) G):=zP λb z=>by
 rcases z with z|⟨j,z⟩
 ·exact .inl z
 ·exact .inr ⟨j,(DC z).1⟩
def qim (i:Nat) (d:PyData) (ρ:Rho):Option Ot:=match (vw ρ i).bind asI,asI d with|some x,some y=>some (.nx (ρ.set i (.sh (.int (x+y)))))|_,_=>none
def qnX {t:TE3} (a:PuE t) (i:Nat):PuS (qgu i (iI (·+·)) t):=⟨λ_ ρ=>(a.f ρ).bind λd=>qim i d ρ,λ{D G0 A τ ρ G n o e} h hf k=>by
 obtain ⟨d,e1,hf⟩:=obb hf;unfold qim at hf;split at hf
 ·rename_i u v hu hv;cases hf;obtain ⟨w,e2,hu⟩:=obb hu;have:=EV hu;subst this;have:=EV hv;subst this;obtain ⟨t,b,c⟩:=h.viewAll [i] i (by simp) _ e2;cases c;simp only [qgu,b];refine a.ok (h.viewAll _) h.domD e1 λy G1 E1 D1 _=>?_;cases D1;exact k _ _ _ ((h.up E1).put i (.int _))
 ·cases hf⟩
def slot (ρ:Rho) (i:Nat):Option (List PyData):=match ρ[i]? with|some (.ow ds)=>some ds|_=>none
def JM {ρ:Rho} {i:Nat} {ds:List PyData} (h:slot ρ i=some ds):ρ[i]?=some (.ow ds):=by
 unfold slot at h;split at h
 ·rename_i e;cases h;exact e
 ·cases h
def dmS (m:List Bool) (d:PyData) (ρ:Rho):Rho:=if L7 d then ρ else dm m ρ
def RS.evalS {D:Addr->Prop} {G0 G:Gp} {A:Nat->Option Addr} {τ:St3} {ρ:Rho} (h:RS D G0 A τ ρ G) {t:TE3} (a:PuE t) (m:List Bool) (hm:Tru (a.fv.all (mkb m))) {d:PyData} (hf:a.f ρ=some d):∃ A1,RS D G0 A1 τ (dmS m d ρ) G/\∀ q:Q3,(∀ x G',Ex G G'->Dq (rs (AD D A1) G') x d->q x G')->t τ G q:=by
 unfold dmS;by_cases hs:L7 d=true
 ·rw [if_pos hs];exact ⟨A,h,λq k=>a.ok (h.viewAll _) h.domD hf λx G1 E1 D1 _=>k x G1 E1 (U6 D1 hs)⟩
 ·rw [if_neg hs];exact ⟨Ad m A,h.dem m,λq k=>a.ok (h.viewD hm) (h.dem m).dom hf λx G1 E1 D1 _=>k x G1 E1 D1⟩
def qi0 (i:Nat) (d:PyData) (ρ:Rho):Option Ot:=(slot ρ i).bind λds=>cif (ds.length<sizeLine) (some (.nx (ρ.set i (.ow (ds++[d]))))) none
def qnL {t:TE3} (a:PuE t) (i:Nat) (m:List Bool) (hm:Tru (a.fv.all (mkb m))):PuS (DI (bm3 qbc (v3 i) (qc t qq))):=⟨λ_ ρ=>(a.f ρ).bind λd=>qi0 i d (dmS m d ρ),λ{D G0 A τ ρ G n o e} h hf k=>by
 obtain ⟨d,e1,hf⟩:=obb hf;obtain ⟨A1,h1,ev⟩:=h.evalS a m hm e1;unfold qi0 at hf;obtain ⟨ds,e2,hf⟩:=obb hf;unfold cif at hf;split at hf
 ·rename_i hl;cases hf;obtain ⟨p,xs,b,c,g,f⟩:=h1.ow i _ (JM e2);simp only [DI,bm3,v3,c,zb g];refine ⟨rfl,ev _ λx G1 E1 D1=>?_⟩;simp only [qq,qbc,E1 _ _ g];exact ⟨by rw [f.length];exact hl,k _ _ _ ((h1.up E1).wr b c ((f.up (QG E1)).append (.cons D1 .nil)))⟩
 ·cases hf⟩
def qgt (i:Nat) (d:PyData) (ρ:Rho):Option Ot:=match d with|.list es=>(slot ρ i).bind λds=>cif (ds.length+es.length<=sizeLine) (some (.nx (ρ.set i (.ow (ds++es))))) none|_=>none
def qn6 {t:TE3} (a:PuE t) (i:Nat) (m:List Bool) (hm:Tru (a.fv.all (mkb m))):PuS (DI (bm3 qfM (v3 i) (qc t qq))):=⟨λ_ ρ=>(a.f ρ).bind λd=>qgt i d (dmS m d ρ),λ{D G0 A τ ρ G n o e} h hf k=>by
 obtain ⟨d,e1,hf⟩:=obb hf;obtain ⟨A1,h1,ev⟩:=h.evalS a m hm e1;unfold qgt at hf;split at hf
 ·obtain ⟨ds,e2,hf⟩:=obb hf;unfold cif at hf;split at hf
  ·rename_i hl;cases hf;obtain ⟨p,xs,b,c,g,f⟩:=h1.ow i _ (JM e2);simp only [DI,bm3,v3,c,zb g];refine ⟨rfl,ev _ λx G1 E1 D1=>?_⟩;cases D1 with
   |lst g2 hs2=>
    simp only [qq,qfM,E1 _ _ g,(qH g2).2];exact ⟨by rw [f.length,hs2.length];exact hl,k _ _ _ ((h1.up E1).wr b c ((f.up (QG E1)).append hs2))⟩
  ·cases hf
 ·cases hf⟩
def qjk (i:Nat) (k d:PyData) (ρ:Rho):Option Ot:=(asI k).bind λk=>(slot ρ i).bind λds=>(ixN ds.length k).bind λj=>some (.nx (ρ.set i (.ow (ds.set j d))))
def VY (gf:PyData->Option (List (Nat×PyData))) (bf:Rho->Option Ot):List PyData->Rho->Option Ot
 |[],ρ=>some (.nx ρ)
 |d::r,ρ=>(gf d).bind λbs=>(bf (V7 ρ bs)).bind λo=>match o with
  |.nx ρ'=>VY gf bf r ρ'
  |.ct ρ'=>VY gf bf r ρ'
  |.bk ρ'=>some (.nx ρ')
  |.rt d b=>some (.rt d b)
def TZ {stay:Gp->Prop} {g:TG3} {tb:TS3} {e:Ends3} (pg:PuG g) (pb:PuS tb) {D:Addr->Prop} {G0:Gp} {n:Nat} {o:Ot} {items0:List T} (hs:∀ A τ ρ G,RS D G0 A τ ρ G->stay G) (k:qgs D G0 e o) :
  ∀ (ds:List PyData) (items:List T),(∀ A τ ρ G,RS D G0 A τ ρ G->Dqs (rs (AD D A) G) items ds)->∀ A τ ρ G,RS D G0 A τ ρ G->VY pg.f (pb.f n) ds ρ=some o->DW stay g tb e items τ G
 |[],items,hi,A,τ,ρ,G,h,hf=>by
  cases hf;have:=hi _ _ _ _ h;cases this;exact ⟨hs _ _ _ _ h,k _ _ _ h⟩
 |d::ds,items,hi,A,τ,ρ,G,h,hf=>by
  have hh:=hi _ _ _ _ h;cases hh with
  |cons hx hr=>
   rename_i x items;unfold VY at hf;obtain ⟨bs,e1,hf⟩:=obb hf;obtain ⟨o1,e2,hf⟩:=obb hf;obtain ⟨ts,bd,kg⟩:=pg.ok hx e1;refine ⟨hs _ _ _ _ h,kg _ _ _ ?_⟩;obtain ⟨A',h'⟩:=h.puts bd;refine pb.ok h' e2 ?_;have hi':∀ A τ ρ G,RS D G0 A τ ρ G->Dqs (rs (AD D A) G) items ds:=λA τ ρ G h=>by
    have:=hi _ _ _ _ h;cases this with
    |cons a b=>exact b
   cases o1 with
   |nx ρ'=>exact λA2 τ2 G2 h2=>TZ (items0:=items0) pg pb hs k ds items hi' _ _ _ _ h2 hf
   |ct ρ'=>exact λA2 τ2 G2 h2=>TZ (items0:=items0) pg pb hs k ds items hi' _ _ _ _ h2 hf
   |bk ρ'=>cases hf;exact k
   |rt d fr=>cases hf;exact k
def qjQ (pi:Rho->Option (List PyData)) (nm:Bool) (m:List Bool) (gf:PyData->Option (List (Nat×PyData))) (bf:Nat->Rho->Option Ot) (n:Nat) (ρ:Rho):Option Ot:=(pi ρ).bind λds=>VY gf (bf n) ds (if nm then ρ else dm m ρ)
def qbd {wi:TI3} {g:TG3} {tb:TS3} (pi:PuI wi) (pg:PuG g) (pb:PuS tb) (m:List Bool) (hm:Tru (pi.fv.all (mkb m))):PuS (ER wi g tb):=⟨qjQ pi.f pi.nm m pg.f pb.f,λ{D G0 A τ ρ G n o e} h hf k=>by
 unfold qjQ at hf;obtain ⟨ds,e1,hf⟩:=obb hf;refine pi.ok (h.viewD hm) (h.dem m).dom e1 λitems stay G1 E1 D1 hs hnm=>?_;cases hb:pi.nm with
 |true=>
  rw [hb,if_pos rfl] at hf;obtain ⟨ns,rfl⟩:=hnm hb;have:=D1.ints;subst this;exact TZ (items0:=[]) pg pb (λ_ _ _ _ _=>hs _ (.inl hb)) k _ _ (λA τ ρ G _=>Dqs.ofInts _) _ _ _ _ (h.up E1) hf
 |false=>
  rw [hb,if_neg Bool.false_ne_true] at hf;have h1:=(h.dem m).up E1;have b1:Ex G0 (rs (λb=>∃ i,Ad m A i=some b) G1):=λb o e=>by
   rw [QI]
   ·exact h1.ex _ _ e
   ·rintro ⟨i,z⟩;rw [h1.fr i _ z] at e;cases e
  have h2:RS D (rs (λb=>∃ i,Ad m A i=some b) G1) (Ad m A) τ (dm m ρ) G1:=⟨D7,h.dm.up b1,λi p z=>by unfold rs;exact zu ⟨i,z⟩,h1.da,h1.inj,h1.len,h1.sh,h1.ow⟩
  have X:∀ A2 τ2 ρ2 G2,RS D (rs (λb=>∃ i,Ad m A i=some b) G1) A2 τ2 ρ2 G2->Ex (rs (AD D (Ad m A)) G1) (rs (AD D A2) G2):=λA2 τ2 ρ2 G2 r b o e=>by
   obtain ⟨n1,e⟩:=qH e;have eb:rs (λb=>∃ i,Ad m A i=some b) G1 b=some o:=by rw [QI (λz=>n1 (.inr z))];exact e
   rw [QI]
   ·exact r.ex _ _ eb
   ·rintro (z|⟨i,z⟩)
    ·exact n1 (.inl z)
    ·rw [r.fr i _ z] at eb;cases eb
  exact TZ (items0:=[]) pg pb (λA2 τ2 ρ2 G2 r=>hs _ (.inr ((X _ _ _ _ r).trans D7))) (k.base b1 h.dm) _ _ (λA2 τ2 ρ2 G2 r=>D1.up (X _ _ _ _ r)) _ _ _ _ h2 hf⟩
def whP (cf:Rho->Option Bool) (bf:Rho->Option Ot):Nat->Rho->Option Ot
 |0,_=>none
 |n+1,ρ=>(cf ρ).bind λk=>if k then (bf ρ).bind λo=>match o with
   |.nx ρ'=>whP cf bf n ρ'
   |.ct ρ'=>whP cf bf n ρ'
   |.bk ρ'=>some (.nx ρ')
   |.rt d b=>some (.rt d b)
  else some (.nx ρ)
def sWh {c:TT3} {tb:TS3} (pc:PuC c) (pb:PuS tb):PuS (T0 c tb):=⟨λn ρ=>whP pc.f (pb.f n) n ρ,λ{D G0 A τ ρ G n o e} h hf k=>by
 refine ⟨λm τ G=>∃ A ρ,RS D G0 A τ ρ G/\whP pc.f (pb.f n) m ρ=some o,⟨n,A,ρ,h,hf⟩,?_⟩;rintro m τ G ⟨A,ρ,h,hf⟩;cases m with
 |zero=>cases hf
 |succ m=>
  unfold whP at hf;obtain ⟨b,e1,hf⟩:=obb hf;refine pc.ok (h.viewAll _) h.domD e1 λG1 E1=>?_;cases b with
  |true=>
   rw [if_pos rfl] at hf ⊢;obtain ⟨o1,e2,hf⟩:=obb hf;cases o1 with
   |nx ρ'=>exact ⟨λτ' G'=>∃ A',RS D G0 A' τ' ρ' G',λτ' G' ⟨A',h'⟩=>⟨m,by omega,A',ρ',h',hf⟩,pb.ok (h.up E1) e2 λA' τ' G' h'=>⟨A',h'⟩⟩
   |ct ρ'=>exact ⟨λτ' G'=>∃ A',RS D G0 A' τ' ρ' G',λτ' G' ⟨A',h'⟩=>⟨m,by omega,A',ρ',h',hf⟩,pb.ok (h.up E1) e2 λA' τ' G' h'=>⟨A',h'⟩⟩
   |bk ρ'=>cases hf;exact ⟨λ_ _=>False,λ_ _ z=>z.elim,pb.ok (h.up E1) e2 k⟩
   |rt d fr=>cases hf;exact ⟨λ_ _=>False,λ_ _ z=>z.elim,pb.ok (h.up E1) e2 k⟩
  |false=>
   cases hf;rw [if_neg Bool.false_ne_true];exact k _ _ _ (h.up E1)⟩
def YB (fr:Bool):Option Ot->Option PyData
 |some (.rt d b)=>if fr=true/\b=false then (match d with|.none=>some .none|_=>none) else some d
 |some (.nx _)=>if fr then none else some .none
 |_=>none
def st (ds:List PyData) (N:Nat):Rho:=ds.map Sl.sh++List.replicate (N-ds.length) .un
def run (f:Nat->Rho->Option Ot) (k N n:Nat) (fr:Bool) (ds:List PyData):Option PyData:=if ds.length=k then YB fr (f n (st ds N)) else none
def zl {t:TS3} (b:PuS t) (N:List Str) (k n:Nat) (fr:Bool):∀ ts G q,PSp (run b.f k N.length n fr) fr ts G q->ts.length=k/\t { nx:=λ_ G'=>q .non G',rt:=q } (qE N ts) G:=by
 rintro ts G q ⟨D,ds,d,hs,hd,hf,h⟩;unfold run at hf;split at hf
 ·rename_i hk;refine ⟨by rw [hs.length];exact hk,?_⟩;have r:RS D G (λ_=>none) (qE N ts) (st ds N.length) G:=by
   refine ⟨Ex.refl,hd,(λi p e=>by cases e),(λi p e=>by cases e),(λi j p e=>by cases e),(by simp [st,qE,hs.length]),λi d' e=>?_,λi es e=>?_⟩
   ·unfold st at e;unfold qE;by_cases hi:i<ds.length
    ·rw [List.getElem?_append_left (by simpa using hi),getElem?_map] at e;obtain ⟨d2,e3,e4⟩:=Option.map_eq_some_iff.mp e;cases e4;obtain ⟨x,e5,hx⟩:=hs.get e3;refine ⟨x,?_,hx.up (zP λb z=>?_)⟩
     ·rw [List.getElem?_append_left (by simp [hs.length];exact hi),getElem?_map,e5];rfl
     ·rcases z with z|⟨i,z⟩
      ·exact z
      ·cases z
    ·rw [List.getElem?_append_right (by simpa using hi),List.getElem?_replicate] at e;split at e<;>cases e
   ·unfold st at e;by_cases hi:i<ds.length
    ·rw [List.getElem?_append_left (by simpa using hi),getElem?_map] at e;obtain ⟨d2,e3,e4⟩:=Option.map_eq_some_iff.mp e;cases e4
    ·rw [List.getElem?_append_right (by simpa using hi),List.getElem?_replicate] at e;split at e<;>cases e
  unfold YB at hf;split at hf
  ·rename_i d' b' e;split at hf
   ·split at hf
    ·cases hf;exact b.ok r e λx G' a c z=>h x G' a c λ_=>.inl rfl
    ·cases hf
   ·rename_i hb;cases hf;exact b.ok r e λx G' a c z=>h x G' a c λw=>z (by
     cases b' with
     |true=>rfl
     |false=>exact absurd ⟨w,rfl⟩ hb)
  ·rename_i ρ' e;split at hf
   ·cases hf
   ·rename_i hb;cases hf;exact b.ok r e λA τ G' r'=>h .non G' r'.ex .non λw=>absurd w hb
  ·cases hf
 ·cases hf
def qb6 {fr:Bool}:∀ ts G q,PSp (λ_=>none) fr ts G q->False:=λts G q ⟨_,_,_,_,_,h,_⟩=>by cases h
def Fn3.pz {P:Program} {w:World} {K:Frg} {mg:Str->Option Value} {base:Heap} {k:Nat} {x:Str} {sp:Sp3} (F:Fn3 P w K mg base k x sp) (fr:Bool):Fn3 P w K mg base k x (PSp (λ_=>none) fr):=F.imp λts G q h=>(qb6 ts G q h).elim
def qnM {i:Nat}:(bV i).f=λρ=>vw ρ i:=id rfl
def qcs {i:Int}:(qL i).f=λ_=>some (.int i):=id rfl
def qkJ {i:Bool}:(bBl i).f=λ_=>some (.bool i):=id rfl
def qdD {i:Str}:(qlI i).f=λ_=>some (.str i):=id rfl
def qdZ:qbf.f=λ_=>some .none:=id rfl
def qnD {r:R3} {ta tb:TE3} {R:OpD r} {a:PuE ta} {b:PuE tb}:(bO R a b).f=λρ=>(a.f ρ).bind λx=>(b.f ρ).bind λy=>R.f x y:=id rfl
def qdW:qC.f=λ_=>some []:=id rfl
def N5 {ta:TE3} {tr:TA3} {a:PuE ta} {r:PuA tr}:(qf a r).f=λρ=>(a.f ρ).bind λx=>(r.f ρ).bind λxs=>some (x::xs):=id rfl
def qdz {t:TA3} {a:PuA t} {hn:Tru (Nat.ble a.n 1000)}:(qc9 a hn).f=λρ=>(a.f ρ).map .tuple:=id rfl
def qdv {t:TA3} {a:PuA t} {hn:Tru (Nat.ble a.n 1000)}:(UU a hn).f=λρ=>(a.f ρ).map .list:=id rfl
def qag {r:List T->Gp->Q3->Prop} {t:TA3} {R:FnD r} {a:PuA t}:(qD R a).f=λρ=>(a.f ρ).bind R.f:=id rfl
def qiD {t:TE3} {a:PuE t}:(bTb a).f=λρ=>(a.f ρ).bind asB:=id rfl
def qdP {t u:TT3} {a:PuC t} {b:PuC u}:(qfh a b).f=λρ=>(a.f ρ).bind λk=>if k then b.f ρ else some false:=id rfl
def qi3 {t u:TT3} {a:PuC t} {b:PuC u}:(bOr a b).f=λρ=>(a.f ρ).bind λk=>if k then some true else b.f ρ:=id rfl
def qek {t:TT3} {a:PuC t}:(qb9 a).f=λρ=>(a.f ρ).map (! ·):=id rfl
def qjD:bTt.f=λ_=>some true:=id rfl
def qan {ta tb:TE3} {a:PuE ta} {b:PuE tb}:(qaC a b).f=λρ=>((a.f ρ).bind asB).bind λk=>if k then b.f ρ else some (.bool false):=id rfl
def N6 {ta:TE3} {a:PuE ta}:(qfn a).f=λρ=>((a.f ρ).bind asB).map λk=>.bool (!k):=id rfl
def qi4 {t:TT3} {ta tb:TE3} {c:PuC t} {a:PuE ta} {b:PuE tb}:(bIf c a b).f=λρ=>(c.f ρ).bind λk=>if k then a.f ρ else b.f ρ:=id rfl
def qej {ta:TE3} {a:PuE ta}:(qfi a).f=λρ=>((a.f ρ).bind asI).map λi=>.int (-i):=id rfl
def qiF {r r':R3} {ta tb tc:TE3} {R:OpD r} {R':OpD r'} {a:PuE ta} {b:PuE tb} {c:PuE tc}:(bCh R R' a b c).f=λρ=>(a.f ρ).bind λx=>(b.f ρ).bind λy=>((R.f x y).bind asB).bind λk=>if k then (c.f ρ).bind λz=>R'.f y z else some (.bool false):=id rfl
def qcu {ta:TE3} {a:PuE ta}:(qnC a).f=λρ=>((a.f ρ).bind asI).map λi=>.int (Builtin.Int.intBits i):=id rfl
def qd4 {ta:TE3} {g:String->Bool} {a:PuE ta}:(TM g a).f=λρ=>(a.f ρ).bind λd=>(tyD d).map λt=>.bool (g t):=id rfl
def qhI:bNp.f=λ_=>some none:=id rfl
def qhh {t:TE3} {a:PuE t}:(bSp a).f=λρ=>((a.f ρ).bind asI).map some:=id rfl
def qiN {wi:TI3} {g:TG3} {tif:TT3} {te:TE3} {pi:PuI wi} {pg:PuG g} {pc:PuC tif} {pe:PuE te} {m:List (Option Nat)} {hm:Tru (pg.tg.all λi=>m[i]?==some none)}:(bLc pi pg pc pe m hm).f=lcF pi.f (lcH pg.f pc.f pe.f) m:=id rfl
def qdq:K5.f=qhq:=id rfl
def qcQ:qnJ.f=qlu:=id rfl
def qd3:qlp.f=qlv:=id rfl
def qd9:qku.f=qlj:=id rfl
def qcM:qhb.f=qgq:=id rfl
def qcL:qjV.f=qgQ:=id rfl
def qdj:qlz.f=qgI:=id rfl
def N0 {F:List PyData->Option PyData} {fr:Bool}:(zw F fr).f=F:=id rfl
def qk7 {g:Int->Int->Int} {i j:Int}:(opI g).f (.int i) (.int j)=some (.int (g i j)):=id rfl
def qgF {g:Int->Int->Bool} {i j:Int}:(opB g).f (.int i) (.int j)=some (.bool (g i j)):=id rfl
def qg1 {C:Int->Int->Prop} {g:Int->Int->Int}:(opC C g).f=cI C g:=id rfl
def qdA {n:Bool}:(VX n).f=eqD n:=id rfl
def NO {n:Bool}:(MS n).f=qgv n:=id rfl
def qao {n:Bool}:(qhu n).f=qlf n:=id rfl
def qdJ:Y9.f=ixD:=id rfl
def qbb:XU.f=qlm:=id rfl
def TR:M7.f=qk5:=id rfl
def qdn {t:TE3} {a:PuE t}:(qa3 a).f=λρ=>(a.f ρ).bind WK:=id rfl
def qd5 {t:TA3} {a:PuA t}:(qj5 a).f=λρ=>(a.f ρ).bind qd7:=id rfl
def qas {t:TA3} {a:PuA t}:(DT a).f=λρ=>(a.f ρ).bind λds=>match ds with|[d]=>(WK d).map λus=>enD 0 us|_=>none:=id rfl
def qaH {t:TE3} {a:PuE t}:(qa3 a).nm=false:=id rfl
def KK {t:TA3} {a:PuA t}:(DT a).nm=false:=id rfl
def NP {t:TA3} {a:PuA t}:(qj5 a).nm=true:=id rfl
def qnF {i:Nat}:(gN i).f=λd=>some [(i,d)]:=id rfl
def qdO:KO.f []=some []:=id rfl
def qau {t:TG3} {u:RZ} {a:PuG t} {b:PuGs u} {d:PyData} {r:List PyData}:(jJ a b).f (d::r)=(a.f d).bind λx=>(b.f r).map λy=>x++y:=id rfl
def qdG {u:RZ} {n:Nat} {b:PuGs u} {ds:List PyData}:(KA n b).f (.tuple ds)=if ds.length=n then b.f ds else none:=id rfl
def qap:UC.f=λ_ ρ=>some (.nx ρ):=id rfl
def qcR {t u:TS3} {a:PuS t} {b:PuS u}:(YK a b).f=qld a.f b.f:=id rfl
def qgy {c:TT3} {t u:TS3} {pc:PuC c} {a:PuS t} {b:PuS u}:(sIf pc a b).f=λn ρ=>(pc.f ρ).bind λk=>if k then a.f n ρ else b.f n ρ:=id rfl
def qdl {t:TE3} {a:PuE t}:(DU a).f=λ_ ρ=>(a.f ρ).map λd=>.rt d a.nw:=id rfl
def ND {i:Nat}:(XE i).f=λ_ ρ=>L8 ρ i:=id rfl
def qc0 {t:TE3} {a:PuE t} {i:Nat} {m:List Bool} {hm:Tru (a.fv.all (mkb m))}:(CD a i m hm).f=λ_ ρ=>(a.f ρ).map λd=>.nx (XZ m a.nw i d ρ):=id rfl
def qcx {t:TE3} {a:PuE t} {i:Nat}:(qnX a i).f=λ_ ρ=>(a.f ρ).bind λd=>qim i d ρ:=id rfl
def qc1 {t:TE3} {a:PuE t} {i:Nat} {m:List Bool} {hm:Tru (a.fv.all (mkb m))}:(qnL a i m hm).f=λ_ ρ=>(a.f ρ).bind λd=>qi0 i d (dmS m d ρ):=id rfl
def qdr {t:TE3} {a:PuE t} {i:Nat} {m:List Bool} {hm:Tru (a.fv.all (mkb m))}:(qn6 a i m hm).f=λ_ ρ=>(a.f ρ).bind λd=>qgt i d (dmS m d ρ):=id rfl
def qdB {wi:TI3} {g:TG3} {tb:TS3} {pi:PuI wi} {pg:PuG g} {pb:PuS tb} {m:List Bool} {hm:Tru (pi.fv.all (mkb m))}:(qbd pi pg pb m hm).f=qjQ pi.f pi.nm m pg.f pb.f:=id rfl
def qkx {c:TT3} {tb:TS3} {pc:PuC c} {pb:PuS tb}:(sWh pc pb).f=λn ρ=>whP pc.f (pb.f n) n ρ:=id rfl
def qjy {i:Nat}:(bV i).nw=false:=id rfl
def NC {i:Int}:(qL i).nw=false:=id rfl
def qd6 {i:Bool}:(bBl i).nw=false:=id rfl
def qa9:qbf.nw=false:=id rfl
def qj7 {r:R3} {ta tb:TE3} {R:OpD r} {a:PuE ta} {b:PuE tb}:(bO R a b).nw=R.nw:=id rfl
def MX {t:TA3} {a:PuA t} {hn:Tru (Nat.ble a.n 1000)}:(UU a hn).nw=true:=id rfl
def KG {r:List T->Gp->Q3->Prop} {t:TA3} {R:FnD r} {a:PuA t}:(qD R a).nw=R.nw:=id rfl
def KB {F:List PyData->Option PyData} {fr:Bool}:(zw F fr).nw=fr:=id rfl
def T9 {ta tb:TE3} {a:PuE ta} {b:PuE tb}:(qaC a b).nw=false:=id rfl
def qcH {t:TT3} {ta tb:TE3} {c:PuC t} {a:PuE ta} {b:PuE tb}:(bIf c a b).nw=false:=id rfl
def qdk {wi:TI3} {g:TG3} {tif:TT3} {te:TE3} {pi:PuI wi} {pg:PuG g} {pc:PuC tif} {pe:PuE te} {m:List (Option Nat)} {hm:Tru (pg.tg.all λi=>m[i]?==some none)}:(bLc pi pg pc pe m hm).nw=true:=id rfl
def M2:qku.nw=false:=id rfl
def qaA:qjV.nw=false:=id rfl
def NA:qlz.nw=false:=id rfl
def qaU:qhb.nw=true:=id rfl
def MH:Y9.nw=false:=id rfl
def KH:XU.nw=false:=id rfl
def C1:M7.nw=true:=id rfl
def qaZ {n:Bool}:(VX n).nw=false:=id rfl
def qct {g:Int->Int->Int}:(opI g).nw=false:=id rfl
def qdc {C:Int->Int->Prop} {g:Int->Int->Int}:(opC C g).nw=false:=id rfl
def qnH {s:Sl} {r:Rho}:vw (s::r) 0=s.d:=id rfl
def qoc {s:Sl} {r:Rho} {i:Nat}:vw (s::r) (i+1)=vw r i:=id rfl
def qkf {d:PyData}:(Sl.sh d).d=some d:=id rfl
def qg2 {ds:List PyData}:(Sl.ow ds).d=some (.list ds):=id rfl
def SZ {r:Rho} {ds:List PyData}:slot (.ow ds::r) 0=some ds:=id rfl
def NV {s:Sl} {r:Rho} {i:Nat}:slot (s::r) (i+1)=slot r i:=id rfl
def qba {r:Rho} {ds:List PyData}:L8 (.ow ds::r) 0=some (.rt (.list ds) true):=id rfl
def NQ {r:Rho} {d:PyData}:L8 (.sh d::r) 0=some (.rt d false):=id rfl
def qd8 {s:Sl} {r:Rho} {i:Nat}:L8 (s::r) (i+1)=L8 r i:=id rfl
def qck {xs:List PyData} {i:Int}:ixD (.tuple xs) (.int i)=L2.atI xs i:=id rfl
def qfG {xs:List PyData} {i:Int}:ixD (.list xs) (.int i)=L2.atI xs i:=id rfl
def at0 {α:Type} {a:α} {r:List α}:L2.atI (a::r) 0=some a:=by simp [L2.atI,ixN]
def at1 {α:Type} {a b:α} {r:List α}:L2.atI (a::b::r) 1=some b:=by
 have h:ixN (a::b::r).length 1=some 1:=by unfold ixN;rw [if_pos (by omega),if_pos (by simp;omega)];rfl
 unfold L2.atI;rw [h];rfl
def at2 {α:Type} {a b c:α} {r:List α}:L2.atI (a::b::c::r) 2=some c:=by
 have h:ixN (a::b::c::r).length 2=some 2:=by unfold ixN;rw [if_pos (by omega),if_pos (by simp;omega)];rfl
 unfold L2.atI;rw [h];rfl
def at3 {α:Type} {a b c d:α} {r:List α}:L2.atI (a::b::c::d::r) 3=some d:=by
 have h:ixN (a::b::c::d::r).length 3=some 3:=by unfold ixN;rw [if_pos (by omega),if_pos (by simp;omega)];rfl
 unfold L2.atI;rw [h];rfl
def atN {α:Type} {xs:List α} {k:Nat} (h:k<xs.length):L2.atI xs (k:Int)=xs[k]?:=by
 have e:ixN xs.length (k:Int)=some k:=by unfold ixN;rw [if_pos (by omega),if_pos (by omega)];rfl
 unfold L2.atI;rw [e];rfl
def eqS {n:Bool} {a b:Str}:eqD n (.str a) (.str b)=some (.bool (if n then !decide (a=b) else decide (a=b))):=id rfl
def eqI {n:Bool} {a b:Int}:eqD n (.int a) (.int b)=some (.bool (if n then !decide (a=b) else decide (a=b))):=id rfl
def eqB {n:Bool} {a b:Bool}:eqD n (.bool a) (.bool b)=some (.bool (if n then !decide (a=b) else decide (a=b))):=id rfl
def qiR {n:Bool}:qgv n .none .none=some (.bool !n):=id rfl
def qhk {n:Bool} {xs:List PyData}:qgv n (.list xs) .none=some (.bool n):=id rfl
def qh9 {n:Bool} {i:Int}:qgv n (.int i) .none=some (.bool n):=id rfl
def LI {C:Int->Int->Prop} {g:Int->Int->Int} {i j:Int} (h:C i j):cI C g (.int i) (.int j)=some (.int (g i j)):=by simp only [cI];exact zu h
def qc4 {i j:Int} (h:-1000000<j/\j<1000000):cI WR (·*·) (.int i) (.int j)=some (.int (i*j)):=LI (.inr ⟨by omega,by omega⟩)
def NS {i j:Int} (h:-1000000<i/\i<1000000):cI WR (·*·) (.int i) (.int j)=some (.int (i*j)):=LI (.inl ⟨by omega,by omega⟩)
def qcO {i j:Int} (h:0<j):cI (λ_ j=>0<j) (·%·) (.int i) (.int j)=some (.int (i%j)):=LI h
def qjS {i j:Int} (h:0<j/\j<1073741824):cI qcI (·/·) (.int i) (.int j)=some (.int (i/j)):=LI h
def TF {i j:Int} (h:0<=j/\j<=1000000/\i.natAbs<2 ^ 64):cI W7 (λi j=>i*2 ^ j.toNat) (.int i) (.int j)=some (.int (i*2 ^ j.toNat)):=LI h
def qha {i j:Int} (h:0<=j):cI (λ_ j=>0<=j) (λi j=>i/2 ^ j.toNat) (.int i) (.int j)=some (.int (i/2 ^ j.toNat)):=LI h
def qnZ {i j:Int}:qlm (.int i) (.int j)=some (.int (i+j)):=id rfl
def qgG {xs ys:List PyData} (h:xs.length+ys.length<=16777216):qk5 (.list xs) (.list ys)=some (.list (xs++ys)):=by simp only [qk5];exact zu h
def qea {j:Int} (h:-1000000000<=j/\j<1000000000):qd7 [.int j]=some ((D6 0 j.toNat).map PyData.int):=by simp only [qd7];exact zu ⟨by omega,by omega⟩
def JP {pi:Rho->Option (List PyData)} {h:Rho->PyData->Option (Option PyData)} {m:List (Option Nat)} {ρ:Rho} {ds fs:List PyData} (h1:pi ρ=some ds) (h2:lcP (h (LP m ρ)) ds=some fs) (h3:fs.length<=16777216):lcF pi h m ρ=some (.list fs):=by unfold lcF;rw [h1];simp only [Option.bind_some,h2];exact zu h3
def qfD {i:Nat} {d:PyData} {ρ:Rho} {ds:List PyData} (h:slot ρ i=some ds) (hl:ds.length<16777216):qi0 i d ρ=some (.nx (ρ.set i (.ow (ds++[d])))):=by unfold qi0;rw [h];simp only [Option.bind_some];exact zu hl
def qcp {gf:PyData->Option (List (Nat×PyData))} {bf:Rho->Option Ot} {α:Type} {g:α->PyData} (xs:List α) (I:Nat->Rho->Prop) {ρ:Rho} (h0:I 0 ρ)
  (hs:∀ i x ρ,xs[i]?=some x->I i ρ->∃ bs ρ',gf (g x)=some bs/\(bf (V7 ρ bs)=some (.nx ρ')\/bf (V7 ρ bs)=some (.ct ρ'))/\I (i+1) ρ'):∃ ρ',VY gf bf (xs.map g) ρ=some (.nx ρ')/\I xs.length ρ':=by
 have key:∀ (r:List α) (i:Nat) (ρ:Rho),xs.drop i=r->i<=xs.length->I i ρ->∃ ρ',VY gf bf (r.map g) ρ=some (.nx ρ')/\I xs.length ρ':=by
  intro r;induction r with
  |nil=>
   intro i ρ e hi h;have:i=xs.length:=by
    have:=congrArg List.length e;simp at this;omega
   subst this;exact ⟨ρ,rfl,h⟩
  |cons x r ih=>
   intro i ρ e hi h;have hl:i<xs.length:=by
    have:=congrArg List.length e;simp at this;omega
   have e':=List.drop_eq_getElem_cons hl;rw [e] at e';injection e' with e1 e2;obtain ⟨bs,ρ',h1,h2,h3⟩:=hs i x ρ (by rw [getElem?_eq_getElem hl,e1]) h;obtain ⟨ρ2,h4,h5⟩:=ih (i+1) ρ' e2.symm hl h3;refine ⟨ρ2,?_,h5⟩;simp only [map_cons,VY,h1,Option.bind_some];rcases h2 with h2|h2<;>(rw [h2];exact h4)
 exact key xs 0 ρ (by simp) (Nat.zero_le _) h0
def sqk (b:Nat->Rho->Option Ot) (n:Nat) (o:Ot):Option Ot:=match o with|.nx ρ'=>b n ρ'|o=>some o
def qc3 {a b:Nat->Rho->Option Ot} {n:Nat} {ρ:Rho}:qld a b n ρ=(a n ρ).bind (sqk b n):=id rfl
def qcw {b:Nat->Rho->Option Ot} {n:Nat} {ρ:Rho}:sqk b n (.nx ρ)=b n ρ:=id rfl
def qdT {b:Nat->Rho->Option Ot} {n:Nat} {d:PyData} {f:Bool}:sqk b n (.rt d f)=some (.rt d f):=id rfl
def MZ {d:PyData}:YB true (some (.rt d true))=some d:=id rfl
def qeh {d:PyData} {b:Bool}:YB false (some (.rt d b))=some d:=by simp [YB]
def qkN {b:Bool}:asB (.bool b)=some b:=id rfl
def qeP {b:Int}:asI (.int b)=some b:=id rfl
def qed {xs:List PyData}:qhq [.tuple xs]=some (.int xs.length):=id rfl
def qc5 {xs:List PyData}:qhq [.list xs]=some (.int xs.length):=id rfl
def qcJ {i j:Int}:qlu [.int i,.int j]=some (.int (if j<i then j else i)):=id rfl
def qcK {i:Bool}:qlv [.bool i]=some (.int (if i then 1 else 0)):=id rfl
def qcV {xs:List PyData}:qlj [.list xs]=some (.tuple xs):=id rfl
def qcW {xs:List PyData}:qgq [.tuple xs]=some (.list xs):=id rfl
def qdd {xs:List PyData}:qgq [.list xs]=some (.list xs):=id rfl
def RM {xs:List Bool}:qgQ [.list (xs.map PyData.bool)]=some (.bool (xs.all id)):=by simp only [qgQ,TL,Option.map_some]
def qg4 {xs:List Bool}:qnu [.list (xs.map PyData.bool)]=some (.bool (xs.any id)):=by simp only [qnu,TL,Option.map_some]
def qj8 {xs:List Int} (h:LN xs):qgI [.list (xs.map PyData.int)]=some (.int xs.sum):=by simp only [qgI,qal,Option.bind_some];exact zu h
def qeg {xs:List PyData}:WK (.tuple xs)=some xs:=id rfl
def qdb {xs:List PyData}:WK (.list xs)=some xs:=id rfl
def qh6 {i:Int}:tyD (.int i)=some "int" := id rfl
def qkd {i:Bool}:tyD (.bool i)=some "bool" := id rfl
def qjT:tyD .none=some "NoneType" := id rfl
def qh3 {i:Str}:tyD (.str i)=some "str" := id rfl
def qiX {i:List PyData}:tyD (.tuple i)=some "tuple" := id rfl
def qhp {i:List PyData}:tyD (.list i)=some "list" := id rfl
def qcT {n a b:Bool}:qlf n (.bool a) (.bool b)=some (.bool (if n then a != b else a==b)):=id rfl
def qkw {m:List Bool} {nw:Bool} {i:Nat} {v:Int} {ρ:Rho}:XZ m nw i (.int v) ρ=ρ.set i (.sh (.int v)):=id rfl
def qiM {m:List Bool} {nw:Bool} {i:Nat} {v:Bool} {ρ:Rho}:XZ m nw i (.bool v) ρ=ρ.set i (.sh (.bool v)):=id rfl
def qiW {m:List Bool} {nw:Bool} {i:Nat} {ρ:Rho}:XZ m nw i .none ρ=ρ.set i (.sh .none):=id rfl
def qch {m:List Bool} {nw:Bool} {i:Nat} {v:List PyData} {ρ:Rho}:XZ m nw i (.tuple v) ρ=(dm m ρ).set i (.sh (.tuple v)):=by cases nw<;>rfl
def qdp {m:List Bool} {i:Nat} {v:List PyData} {ρ:Rho}:XZ m true i (.list v) ρ=(dm m ρ).set i (.ow v):=id rfl
def qda {m:List Bool} {i:Nat} {v:List PyData} {ρ:Rho}:XZ m false i (.list v) ρ=(dm m ρ).set i (.sh (.list v)):=id rfl
def qi9 {m:List Bool} {v:Int} {ρ:Rho}:dmS m (.int v) ρ=ρ:=id rfl
def qg3 {m:List Bool} {v:List PyData} {ρ:Rho}:dmS m (.list v) ρ=dm m ρ:=id rfl
def qnG {ρ:Rho}:dm [] ρ=ρ:=id rfl
def qn4 {m:List Bool} {s:Sl} {ρ:Rho}:dm (true::m) (s::ρ)=s.dem::dm m ρ:=id rfl
def qn9 {m:List Bool} {s:Sl} {ρ:Rho}:dm (false::m) (s::ρ)=s::dm m ρ:=id rfl
def qhc {ds:List PyData}:(Sl.ow ds).dem=.sh (.list ds):=id rfl
def qir {d:PyData}:(Sl.sh d).dem=.sh d:=id rfl
def qkh {ρ:Rho}:LP [] ρ=[]:=id rfl
def qja {m:List (Option Nat)} {ρ:Rho}:LP (none::m) ρ=.un::LP m ρ:=id rfl
def cp (o:Option PyData):Sl:=match o with|some d=>.sh d|none=>.un
def qjh {m:List (Option Nat)} {j:Nat} {ρ:Rho}:LP (some j::m) ρ=cp (vw ρ j)::LP m ρ:=id rfl
def qnz {d:PyData}:cp (some d)=.sh d:=id rfl
def qjF {i:Nat} {x y:Int} {ρ:Rho} (h:vw ρ i=some (.int x)):qim i (.int y) ρ=some (.nx (ρ.set i (.sh (.int (x+y))))):=by unfold qim;rw [h];rfl
def qdH {pi:Rho->Option (List PyData)} {m:List Bool} {gf:PyData->Option (List (Nat×PyData))} {bf:Nat->Rho->Option Ot} {n:Nat} {ρ:Rho}:qjQ pi true m gf bf n ρ=(pi ρ).bind λds=>VY gf (bf n) ds ρ:=id rfl
def qcG {pi:Rho->Option (List PyData)} {m:List Bool} {gf:PyData->Option (List (Nat×PyData))} {bf:Nat->Rho->Option Ot} {n:Nat} {ρ:Rho}:qjQ pi false m gf bf n ρ=(pi ρ).bind λds=>VY gf (bf n) ds (dm m ρ):=id rfl
def qcN {ρ:Rho}:V7 ρ []=ρ:=id rfl
def qcC {ρ:Rho} {i:Nat} {d:PyData} {r:List (Nat×PyData)}:V7 ρ ((i,d)::r)=V7 (ρ.set i (.sh d)) r:=id rfl
def EX {gf:PyData->Option (List (Nat×PyData))} {cf:Rho->Option Bool} {ef:Rho->Option PyData} {ρ:Rho} {d:PyData}:lcH gf cf ef ρ d=(gf d).bind λbs=>(cf (V7 ρ bs)).bind λk=>if k then (ef (V7 ρ bs)).map some else some none:=id rfl
def Nx (o:Option Ot) (P:Rho->Prop):Prop:=match o with|some (.nx ρ)=>P ρ|some (.ct ρ)=>P ρ|_=>False
def qjl {ρ:Rho} {P:Rho->Prop}:Nx (some (.nx ρ)) P=P ρ:=id rfl
def qkO {o:Option Ot} {P:Rho->Prop} (h:Nx o P):∃ ρ,(o=some (.nx ρ)\/o=some (.ct ρ))/\P ρ:=by
 unfold Nx at h;split at h
 ·exact ⟨_,.inl rfl,h⟩
 ·exact ⟨_,.inr rfl,h⟩
 ·exact h.elim
section
variable {gf:PyData->Option (List (Nat×PyData))} {bf:Rho->Option Ot} {α:Type} {g:α->PyData} {ρ:Rho} {Q:Option Ot->Prop} {F:Ot->Option Ot}
def qca (xs:List α) (I:Nat->Rho->Prop) (h0:I 0 ρ) (hs:∀ i x ρ,xs[i]?=some x->I i ρ->Nx ((gf (g x)).bind λbs=>bf (V7 ρ bs)) (I (i+1))) (k:∀ ρ',I xs.length ρ'->Q (some (.nx ρ'))):Q (VY gf bf (xs.map g) ρ):=by
 obtain ⟨ρ',e,h⟩:=qcp (gf:=gf) (bf:=bf) (g:=g) xs I h0 λi x ρ hx hi=>by
  obtain ⟨ρ2,e,h⟩:=qkO (hs i x ρ hx hi);cases e1:gf (g x) with
  |none=>rw [e1] at e;rcases e with e|e<;>cases e
  |some bs=>rw [e1] at e;exact ⟨bs,ρ2,rfl,e,h⟩
 rw [e];exact k ρ' h
def YT (xs:List α) (I:Nat->Rho->Prop) (h0:I 0 ρ) (hs:∀ i x ρ,xs[i]?=some x->I i ρ->Nx ((gf (g x)).bind λbs=>bf (V7 ρ bs)) (I (i+1))) (k:∀ ρ',I xs.length ρ'->Q (F (.nx ρ'))):Q ((VY gf bf (xs.map g) ρ).bind F):=
 qca (Q:=λo=>Q (o.bind F)) xs I h0 hs k
def qhH {cf:Rho->Option Bool} {N:Nat} (n:Nat) (hn:n<N) (I:Nat->Rho->Prop) (h0:I 0 ρ) (hc:∀ i ρ,i<n->I i ρ->cf ρ=some true) (hs:∀ i ρ,i<n->I i ρ->Nx (bf ρ) (I (i+1))) (he:∀ ρ,I n ρ->cf ρ=some false) (k:∀ ρ',I n ρ'->Q (F (.nx ρ'))):Q ((whP cf bf N ρ).bind F):=by
 have key:∀ (k i M:Nat) (ρ:Rho),i+k=n->k<M->I i ρ->∃ ρ',whP cf bf M ρ=some (.nx ρ')/\I n ρ':=by
  intro k;induction k with
  |zero=>
   intro i M ρ e hM h;have:i=n:=by omega
   subst this;cases M with
   |zero=>omega
   |succ M=>exact ⟨ρ,by unfold whP;rw [he ρ h];rfl,h⟩
  |succ k ih=>
   intro i M ρ e hM h;cases M with
   |zero=>omega
   |succ M=>
    have h1:=hc i ρ (by omega) h;obtain ⟨ρ',h2,h3⟩:=qkO (hs i ρ (by omega) h);obtain ⟨ρ2,h4,h5⟩:=ih (i+1) M ρ' (by omega) (by omega) h3;refine ⟨ρ2,?_,h5⟩;unfold whP;rw [h1];rcases h2 with h2|h2<;>(simp only [Option.bind_some,if_pos,h2];exact h4)
 obtain ⟨ρ',e,h⟩:=key n 0 N ρ (by omega) hn h0;rw [e];exact k ρ' h
end
def qcq {α:Type} {us:List α} (h:us.length=1):∃ a0,us=[a0]:=List.length_eq_one_iff.mp h
def KI {α:Type} {us:List α} (h:us.length=2):∃ a0 a1,us=[a0,a1]:=by
 obtain ⟨a0,r,rfl⟩:=List.exists_cons_of_length_pos (show 0<us.length by omega);obtain ⟨a1,rfl⟩:=qcq (show r.length=1 by simpa using h);exact ⟨a0,a1,rfl⟩
def qgx {α:Type} {us:List α} (h:us.length=3):∃ a0 a1 a2,us=[a0,a1,a2]:=by
 obtain ⟨a0,r,rfl⟩:=List.exists_cons_of_length_pos (show 0<us.length by omega);obtain ⟨a1,a2,rfl⟩:=KI (show r.length=2 by simpa using h);exact ⟨a0,a1,a2,rfl⟩
def scG (j:Nat) (d:PyData):Option (List (Nat×PyData)):=if L7 d then some [(j,d)] else none
def scA (k:Nat) (ef:Rho->Option PyData) (ρ:Rho):Option Ot:=(ef ρ).bind λd=>if L7 d then some (.nx (ρ.set k (.sh d))) else none
def qaX {te:TE3} (a:PuE te) {i j k:Nat} (ij:i≠j) (ik:i≠k) {D:Addr->Prop} {G0:Gp} {e:Ends3} {o:Ot} {p:Addr} {xs:List T} (kk:qgs D G0 e o):∀ (ds:List PyData) (items:List T) {H:Gp} {A:Nat->Option Addr} {τ:St3} {ρ:Rho} {G:Gp},Dqs H items ds->RS D G0 A τ ρ G->A i=some p->G p=some (.lst xs)->VY (scG j) (scA k a.f) ds ρ=some o->DW (λG=>getL G p=some xs) (gn3 j) (qX te (gn3 k)) e items τ G
 |[],_,H,A,τ,ρ,G,.nil,h,b,g,hf=>by
  cases hf;exact ⟨zb g,kk _ _ _ h⟩
 |d::ds,_,H,A,τ,ρ,G,.cons (x:=x) hx hr,h,b,g,hf=>by
  unfold VY at hf;obtain ⟨bs,e1,hf⟩:=obb hf;obtain ⟨o1,e2,hf⟩:=obb hf;unfold scG at e1;split at e1
  ·rename_i hs;cases e1;unfold scA at e2;obtain ⟨v,e3,e2⟩:=obb e2;split at e2
   ·rename_i hv;cases e2;refine ⟨zb g,?_⟩;have h1:=h.put j (U6 (H':=rs (AD D A) G) hx hs);show te (τ.set j (some x)) G λy G1=>_;refine a.ok (h1.viewAll _) h1.domD e3 λy G1 E1 D1 _=>?_;have h2:=(h1.up E1).put k (U6 (H':=rs (AD D (Er A j)) G1) D1 hv);exact qaX a ij ik kk ds _ hr h2 (by unfold Er;rw [if_neg ik,if_neg ij];exact b) (E1 _ _ g) hf
   ·cases e2
  ·cases e1
def qix {te:TE3} (i j k:Nat) (a:PuE te) (hn:Tru (i != j&&i != k)):PuS (ER (JC (v3 i)) (gn3 j) (qX te (gn3 k))):=⟨λ_ ρ=>(slot ρ i).bind λds=>VY (scG j) (scA k a.f) ds ρ,λ{D G0 A τ ρ G n o e} h hf kk=>by
 obtain ⟨ds,e1,hf⟩:=obb hf;obtain ⟨p,xs,b,c,g,f⟩:=h.ow i _ (JM e1);have hn':=hn.h;rw [Bool.and_eq_true,bne_iff_ne,bne_iff_ne] at hn';show ER (JC (v3 i)) (gn3 j) (qX te (gn3 k)) e τ G;simp only [ER,JC,v3,c,zb g];exact qaX a hn'.1 hn'.2 kk ds xs f h b g hf⟩
def qe3 {te:TE3} {i j k:Nat} {a:PuE te} {hn:Tru (i != j&&i != k)}:(qix i j k a hn).f=λ_ ρ=>(slot ρ i).bind λds=>VY (scG j) (scA k a.f) ds ρ:=id rfl
def qlU {j:Nat} {v:Int}:scG j (.int v)=some [(j,.int v)]:=id rfl
def qlN {k:Nat} {ef:Rho->Option PyData} {ρ:Rho}:scA k ef ρ=(ef ρ).bind λd=>if L7 d then some (.nx (ρ.set k (.sh d))) else none:=id rfl
def qhm {v:Int}:L7 (.int v)=true:=id rfl
def qiO {fr b:Bool}:YB fr (some (.rt .none b))=some .none:=by cases fr<;>cases b<;>rfl
def qlo (d:PyData):Option PyData:=match d with|.list xs=>some (.list xs.reverse)|.tuple xs=>some (.tuple xs.reverse)|_=>none
def qgp {te:TE3} (a:PuE te):PuE (qle te (sp3 (u3 SE (c3 (.int 1))))):=⟨λρ=>(a.f ρ).bind qlo,a.fv,false,λ{D τ ρ G q d} hv hd hf k=>by
 obtain ⟨v,e1,hf⟩:=obb hf;unfold qlo at hf;split at hf
 ·cases hf;refine a.ok hv hd e1 λx G1 E1 D1 _=>?_;cases D1 with
  |lst g hs=>
   simp only [sp3,u3,SE,c3,zb (qH g).2];exact ⟨trivial,λp hp=>k _ _ (E1.trans (Z9 hp)) (YH (hd.up E1) hp hs.rev) (λz=>by cases z)⟩
 ·cases hf;refine a.ok hv hd e1 λx G1 E1 D1 _=>?_;cases D1 with
  |tup hs=>
   simp only [sp3,u3,SE,c3];exact ⟨trivial,k _ _ E1 (.tup hs.rev) (λz=>by cases z)⟩
 ·cases hf⟩
def qdi {te:TE3} {a:PuE te}:(qgp a).f=λρ=>(a.f ρ).bind qlo:=id rfl
def NK {te:TE3} {a:PuE te}:(qgp a).nw=false:=id rfl
def CK (d e:PyData):Option PyData:=match d,e with
 |.tuple xs,.tuple ys=>cif (xs.length+ys.length<=sizeLine) (some (.tuple (xs++ys))) none
 |.list xs,.list ys=>cif (xs.length+ys.length<=sizeLine) (some (.list (xs++ys))) none
 |.int i,.int j=>some (.int (i+j))
 |_,_=>none
def qZ:OpD JE:=⟨CK,false,λ{D G x y d e v q} hx hy hd hf k=>by
  unfold CK at hf;cases hx with
  | int i => cases hy <;> try (simp at hf;done)
             cases hf;exact k _ _ Ex.refl (.int _) (λz=>by cases z)
  |tup hs=>
    cases hy<;>try (simp at hf;done)
    rename_i hs2;simp only [cif] at hf;split at hf
    · rename_i c;cases hf;exact ⟨by rw [hs.length,hs2.length];exact c,k _ _ Ex.refl (.tup (hs.append hs2)) (λz=>by cases z)⟩
    · cases hf
  |lst g hs=>
    cases hy<;>try (simp at hf;done)
    rename_i g2 hs2;simp only [cif] at hf;split at hf
    · rename_i c;cases hf;simp only [JE,(qH g).2,(qH g2).2];exact ⟨by rw [hs.length,hs2.length];exact c,λp hp=>k _ _ (Z9 hp) (YH hd hp (hs.append hs2)) (λz=>by cases z)⟩
    · cases hf
  |_=>simp at hf⟩
def slA (d:PyData) (lo hi:Option Int):Option PyData:=match d with
 |.tuple xs=>some (.tuple (E8 xs lo hi))
 |.list xs=>some (.list (E8 xs lo hi))
 |_=>none
def LL {te:TE3} {tl th:TO3} (a:PuE te) (l:PuO tl) (h:PuO th):PuE (CY te tl th):=⟨λρ=>(a.f ρ).bind λd=>(l.f ρ).bind λlo=>(h.f ρ).bind λhi=>slA d lo hi,a.fv++(l.fv++h.fv),false,λhv hd hf k=>by
 obtain ⟨d,e1,hf⟩:=obb hf;obtain ⟨lo,e2,hf⟩:=obb hf;obtain ⟨hi,e3,hf⟩:=obb hf;refine a.ok hv.l hd e1 λx' G1 E1 D1 _=>l.ok (hv.r.l.up E1) (hd.up E1) e2 λG2 E2=>h.ok (hv.r.r.up (E1.trans E2)) (hd.up (E1.trans E2)) e3 λG3 E3=>?_;have E:=(E1.trans E2).trans E3;have D3:=(D1.up (QG E2)).up (QG E3);unfold slA at hf;cases D3 with
 |tup hs=>
  simp only at hf;cases hf;exact k _ _ E (.tup (hs.cut _ _)) (λz=>by cases z)
 |lst g hs=>
  simp only at hf;cases hf;simp only [qnf,zb (qH g).2];intro p hp;exact k _ _ (E.trans (Z9 hp)) (YH (hd.up E) hp (hs.cut _ _)) (λz=>by cases z)
 |_=>simp at hf⟩
def ZO:qZ.f=CK:=id rfl
def ZD:qZ.nw=false:=id rfl
def CT {te:TE3} {tl th:TO3} {a:PuE te} {l:PuO tl} {h:PuO th}:(LL a l h).f=λρ=>(a.f ρ).bind λd=>(l.f ρ).bind λlo=>(h.f ρ).bind λhi=>slA d lo hi:=id rfl
def S4 {te:TE3} {tl th:TO3} {a:PuE te} {l:PuO tl} {h:PuO th}:(LL a l h).nw=false:=id rfl
def qlS {xs:List PyData} {lo hi:Option Int}:slA (.tuple xs) lo hi=some (.tuple (E8 xs lo hi)):=id rfl
def qhw {xs ys:List PyData} (h:xs.length+ys.length<=16777216):CK (.tuple xs) (.tuple ys)=some (.tuple (xs++ys)):=zu h
end Pu
namespace Pv
open PySem L2 L3 Pu
open Bk (Dl)
def qnP (r:List Int):PyData:=.tuple (r.map PyData.int)
def dlD:Dl->PyData
 |.skew r c b x y=>.tuple [.str "skew",.int r,.int c,.int b,.int x,.int y]
 |.rests r c b p=>.tuple [.str "rests",.int r,.int c,.int b,.int p]
 |.bits h l ms=>.tuple [.str "bits",.int h,.int l,.tuple (ms.map PyData.int)]
 |.table b cells=>.tuple [.str "table",.int b,.tuple (cells.map qnP)]
 |.joined d e=>.tuple [.str "joined",dlD d,dlD e]
def qak (G:Gp):∀ (cs:List (List Int)),Dqs G (cs.map Bk.qn2) (cs.map qnP)
 |[]=>.nil
 |r::cs=>.cons (.tup (Dqs.ofInts r)) (qak G cs)
def qfb (G:Gp):∀ (d:Dl),Dq G d.t (dlD d)
 |.skew r c b x y=>.tup (.cons (.str _) (.cons (.int _) (.cons (.int _) (.cons (.int _) (.cons (.int _) (.cons (.int _) .nil))))))
 |.rests r c b p=>.tup (.cons (.str _) (.cons (.int _) (.cons (.int _) (.cons (.int _) (.cons (.int _) .nil)))))
 |.bits h l ms=>.tup (.cons (.str _) (.cons (.int _) (.cons (.int _) (.cons (.tup (Dqs.ofInts ms)) .nil))))
 |.table b cells=>.tup (.cons (.str _) (.cons (.int _) (.cons (.tup (qak G cells)) .nil)))
 |.joined d e=>.tup (.cons (.str _) (.cons (qfb G d) (.cons (qfb G e) .nil)))
end Pv
namespace Pu
open PySem L2 L3
open Bk (Lf Ext)
section
variable {D:Addr->Prop} {a:Addr} {G G' G0:Gp} {n n':Nat} {fv gv:List Nat} {l:Nat} {τ:St3} {ρ:Rho}
def CZ (e:Ext a G G') (h:D a):Ex (rs D G) (rs D G'):=λb o x=>by
 obtain ⟨n,x⟩:=qH x;rw [QI n];exact e b o (by rintro rfl;exact n h) x
def EW {k:Int} (h:Lf G a k):G a≠none:=by
 obtain ⟨o,c,m,e,_⟩:=h;rw [e];simp
def DN {k:Int} (hd:Dom D G) (e:Ext a G G') (lf:Lf G' a k):Dom D G':=λb hb z=>by
 by_cases h:b=a
 ·subst h;exact EW lf z
 ·cases g:G b with
  |none=>exact hd b hb g
  |some o=>rw [e b o h g] at z;cases z
def Nw.backx {x:T} {d:PyData} {k:Int} (h:Nw D G G' x d) (e:Ext a G0 G) (lf:Lf G a k):Nw D G0 G' x d:=by
 rcases h with h|⟨p,xs,ds,h1,h2,c,r⟩
 ·exact .inl h
 refine .inr ⟨p,xs,ds,h1,h2,?_,r⟩;cases z:G0 p with
 |none=>rfl
 |some o=>
  by_cases hp:p=a
  ·subst hp;exact absurd c (EW lf)
  ·rw [e p o hp z] at c;cases c
structure Ln (fv:List Nat) (l:Nat) (D:Addr->Prop) (G:Gp) (τ:St3) (ρ:Rho) (a:Addr) (n:Nat):Prop where
 v:WH fv D G τ ρ
 d:Dom D G
 da:D a
 tl:τ[l]?=some (some (.ref a))
 ul:vw ρ l=none
 lf:Lf G a n
def Ln.up (h:Ln fv l D G τ ρ a n) (e:Ext a G G') (lf:Lf G' a n'):Ln fv l D G' τ ρ a n':=
 ⟨λi hi d hd=>let ⟨t,x,y⟩:=h.v i hi d hd;⟨t,x,y.up (CZ e h.da)⟩,DN h.d e lf,h.da,h.tl,h.ul,lf⟩
def Ln.fst (h:Ln (fv++gv) l D G τ ρ a n):Ln fv l D G τ ρ a n:=⟨h.v.l,h.d,h.da,h.tl,h.ul,h.lf⟩
def Ln.snd (h:Ln (fv++gv) l D G τ ρ a n):Ln gv l D G τ ρ a n:=⟨h.v.r,h.d,h.da,h.tl,h.ul,h.lf⟩
end
abbrev QD:=PyData->Nat->Prop
structure PwE (l:Nat) (t:TE3) where
 w:Rho->Nat->QD->Prop
 fv:List Nat
 nw:Bool
 mono:∀ {ρ n} {Q Q':QD},w ρ n Q->(∀ d m,Q d m->Q' d m)->w ρ n Q'
 ok:∀ {D τ ρ G a n} {q:Q3} {Q:QD},Ln fv l D G τ ρ a n->w ρ n Q->(∀ x d G' n',Q d n'->Ext a G G'->Lf G' a n'->Dq (rs D G') x d->(nw=true->Nw D G G' x d)->q x G')->t τ G q
structure PwC (l:Nat) (t:TT3) where
 w:Rho->Nat->(Bool->Nat->Prop)->Prop
 fv:List Nat
 mono:∀ {ρ n} {Q Q':Bool->Nat->Prop},w ρ n Q->(∀ d m,Q d m->Q' d m)->w ρ n Q'
 ok:∀ {D τ ρ G a n} {q:Bool->Gp->Prop} {Q:Bool->Nat->Prop},Ln fv l D G τ ρ a n->w ρ n Q->(∀ k G' n',Q k n'->Ext a G G'->Lf G' a n'->q k G')->t τ G q
structure PwA (l:Nat) (t:TA3) where
 w:Rho->Nat->(List PyData->Nat->Prop)->Prop
 fv:List Nat
 k:Nat
 mono:∀ {ρ n} {Q Q':List PyData->Nat->Prop},w ρ n Q->(∀ d m,Q d m->Q' d m)->w ρ n Q'
 ok:∀ {D τ ρ G a n} {q:List T->Gp->Prop} {Q:List PyData->Nat->Prop},Ln fv l D G τ ρ a n->w ρ n Q->(∀ x d G' n',Q d n'->d.length=k->Ext a G G'->Lf G' a n'->Dqs (rs D G') x d->q x G')->t τ G q
structure PwI (l:Nat) (t:TI3) where
 w:Rho->Nat->(List PyData->Nat->Prop)->Prop
 fv:List Nat
 nm:Bool
 mono:∀ {ρ n} {Q Q':List PyData->Nat->Prop},w ρ n Q->(∀ d m,Q d m->Q' d m)->w ρ n Q'
 ok:∀ {D τ ρ G a n} {r:List T->(Gp->Prop)->Gp->Prop} {Q:List PyData->Nat->Prop},Ln fv l D G τ ρ a n->w ρ n Q ->
  (∀ items stay ds G' n',Q ds n'->Ext a G G'->Lf G' a n'->Dqs (rs D G') items ds->(∀ G'',(nm=true\/Ex (rs D G') G'')->stay G'')->(nm=true->∃ ns:List Int,ds=ns.map PyData.int)->r items stay G')->t τ G r
structure DrD (r:List T->Gp->Q3->Prop) where
 W:List PyData->Nat->QD->Prop
 nw:Bool
 mono:∀ {ds n} {Q Q':QD},W ds n Q->(∀ d m,Q d m->Q' d m)->W ds n Q'
 ok:∀ {D:Addr->Prop} {G:Gp} {a:Addr} {n:Nat} {ts:List T} {ds:List PyData} {q:Q3} {Q:QD},Lf G a n->D a->Dom D G->Dqs (rs D G) ts ds->W ds n Q->(∀ x d G' n',Q d n'->Ext a G G'->Lf G' a n'->Dq (rs D G') x d->(nw=true->Nw D G G' x d)->q x G')->r (.ref a::ts) G q
section
variable {l:Nat}
def eOf {t:TE3} (b:PuE t):PwE l t:=⟨λρ n Q=>∃ d,b.f ρ=some d/\Q d n,b.fv,b.nw,λ⟨d,h1,h2⟩ h=>⟨d,h1,h _ _ h2⟩,λh ⟨d,h1,h2⟩ k=>
 b.ok h.v h.d h1 λx G1 E1 D1 N1=>k x d G1 _ h2 (Bk.WG E1) (h.lf.ex E1) D1 N1⟩
def cOf {t:TT3} (b:PuC t):PwC l t:=⟨λρ n Q=>∃ d,b.f ρ=some d/\Q d n,b.fv,λ⟨d,h1,h2⟩ h=>⟨d,h1,h _ _ h2⟩,λh ⟨d,h1,h2⟩ k=>
 b.ok h.v h.d h1 λG1 E1=>k d G1 _ h2 (Bk.WG E1) (h.lf.ex E1)⟩
def aOf {t:TA3} (b:PuA t):PwA l t:=⟨λρ n Q=>∃ d,b.f ρ=some d/\Q d n,b.fv,b.n,λ⟨d,h1,h2⟩ h=>⟨d,h1,h _ _ h2⟩,λh ⟨d,h1,h2⟩ k=>
 b.ok h.v h.d h1 λx G1 E1 D1=>k x d G1 _ h2 (b.ln h1) (Bk.WG E1) (h.lf.ex E1) D1⟩
def iOf {t:TI3} (b:PuI t):PwI l t:=⟨λρ n Q=>∃ d,b.f ρ=some d/\Q d n,b.fv,b.nm,λ⟨d,h1,h2⟩ h=>⟨d,h1,h _ _ h2⟩,λh ⟨d,h1,h2⟩ k=>
 b.ok h.v h.d h1 λitems stay G1 E1 D1 s nm=>k items stay d G1 _ h2 (Bk.WG E1) (h.lf.ex E1) D1 s nm⟩
def eO {r:R3} {ta tb:TE3} (R:OpD r) (a:PwE l ta) (b:PwE l tb):PwE l (o3 r ta tb):=
 ⟨λρ n Q=>a.w ρ n λx n1=>b.w ρ n1 λy n2=>∃ v,R.f x y=some v/\Q v n2,a.fv++b.fv,R.nw,λh k=>a.mono h λx n1 h=>b.mono h λy n2 ⟨v,h1,h2⟩=>⟨v,h1,k _ _ h2⟩,λh hw k=>
  a.ok h.fst hw λx dx G1 n1 h1 E1 L1 D1 _=>b.ok (h.snd.up E1 L1) h1 λy dy G2 n2 ⟨v,e,hq⟩ E2 L2 D2 _=>R.ok (D1.up (CZ E2 h.da)) D2 (DN (DN h.d E1 L1) E2 L2) e λz G3 E3 D3 N3=>k z v G3 n2 hq ((E1.trans E2).trans (Bk.WG E3)) (L2.ex E3) D3 λz=>(N3 z).backx (E1.trans E2) L2⟩
def XI {ta:TE3} {tr:TA3} (a:PwE l ta) (r:PwA l tr):PwA l (qc ta tr):=
 ⟨λρ n Q=>a.w ρ n λx n1=>r.w ρ n1 λxs n2=>Q (x::xs) n2,a.fv++r.fv,r.k+1,λh k=>a.mono h λx n1 h=>r.mono h λxs n2 h=>k _ _ h,λh hw k=>
  a.ok h.fst hw λx dx G1 n1 h1 E1 L1 D1 _=>r.ok (h.snd.up E1 L1) h1 λy dy G2 n2 hq hl E2 L2 D2=>k _ _ G2 n2 hq (by simp [hl]) (E1.trans E2) L2 (.cons (D1.up (CZ E2 h.da)) D2)⟩
def qma {t:TA3} (b:PwA l t) (hn:Tru (Nat.ble b.k 1000)):PwE l (TN t):=⟨λρ n Q=>b.w ρ n λxs n1=>Q (.tuple xs) n1,b.fv,false,λh k=>b.mono h λxs n1 h=>k _ _ h,λh hw k=>
 b.ok h hw λx dx G1 n1 h1 hl E1 L1 D1=>⟨by rw [D1.length,hl];exact few hn,k _ _ _ _ h1 E1 L1 (.tup D1) (λz=>by cases z)⟩⟩
def qiT {r:List T->Gp->Q3->Prop} {t:TA3} (R:FnD r) (b:PwA l t):PwE l (cb3 r t):=⟨λρ n Q=>b.w ρ n λxs n1=>∃ v,R.f xs=some v/\Q v n1,b.fv,R.nw,λh k=>b.mono h λxs n1 ⟨v,h1,h2⟩=>⟨v,h1,k _ _ h2⟩,λh hw k=>
 b.ok h hw λx dx G1 n1 ⟨v,e,hq⟩ hl E1 L1 D1=>R.ok D1 (DN h.d E1 L1) e λz G3 E3 D3 N3=>k z v G3 n1 hq (E1.trans (Bk.WG E3)) (L1.ex E3) D3 λz=>(N3 z).backx E1 L1⟩
def eDr {r:List T->Gp->Q3->Prop} {t:TA3} (R:DrD r) (b:PwA l t):PwE l (cb3 r (qc (v3 l) t)):=⟨λρ n Q=>b.w ρ n λxs n1=>R.W xs n1 Q,b.fv,R.nw,λh k=>b.mono h λxs n1 h=>R.mono h k,λ{D τ ρ G a n q Q} h hw k=>by
 simp only [cb3,qc,v3,h.tl];exact b.ok h hw λx dx G1 n1 hW hl E1 L1 D1=>R.ok L1 h.da (DN h.d E1 L1) D1 hW λz d G3 n3 hq E3 L3 D3 N3=>k z d G3 n3 hq (E1.trans E3) L3 D3 λz=>(N3 z).backx E1 L1⟩
def qiY {ta tb:TE3} (a:PwE l ta) (b:PwE l tb):PwE l (S0 ta tb):=⟨λρ n Q=>a.w ρ n λd n1=>∃ k,asB d=some k/\if k then b.w ρ n1 Q else Q (.bool false) n1,a.fv++b.fv,false,λh k=>a.mono h λd m ⟨j,e,h⟩=>⟨j,e,by
  cases j with
  |true=>rw [if_pos rfl] at h ⊢;exact b.mono h k
  |false=>exact k _ _ h⟩,λh hw k=>a.ok h.fst hw λx d G1 n1 ⟨j,e,hj⟩ E1 L1 D1 _=>by
  have:=RN e;subst this;cases D1;cases j with
  |true=>rw [if_pos rfl] at hj;exact b.ok (h.snd.up E1 L1) hj λx d G2 n2 hq E2 L2 D2 _=>k _ _ _ _ hq (E1.trans E2) L2 D2 (λz=>by cases z)
  |false=>exact k _ _ _ _ hj E1 L1 (.bl false) (λz=>by cases z)⟩
def iR {t:TA3} (b:PwA l t):PwI l (Y8 t):=⟨λρ n Q=>b.w ρ n λxs n1=>∃ ds,qd7 xs=some ds/\Q ds n1,b.fv,true,λh k=>b.mono h λxs n1 ⟨v,h1,h2⟩=>⟨v,h1,k _ _ h2⟩,λh hw k=>b.ok h hw λx dx G1 n1 ⟨ds,e,hq⟩ hl E1 L1 D1=>by
 unfold qd7 at e;split at e
 ·unfold cif at e;split at e
  ·rename_i c;cases e;cases D1 with
   |cons a b=>cases b;cases a;simp only;rw [KW];exact ⟨c,k _ _ _ _ _ hq E1 L1 (Dqs.ofInts _) (λ_ _=>trivial) λ_=>⟨_,rfl⟩⟩
  ·cases e
 ·unfold cif at e;split at e
  ·rename_i c;cases e;cases D1 with
   |cons a b=>cases b with
    |cons b c'=>cases c';cases a;cases b;simp only;rw [KW];exact ⟨c,k _ _ _ _ _ hq E1 L1 (Dqs.ofInts _) (λ_ _=>trivial) λ_=>⟨_,rfl⟩⟩
  ·cases e
 ·cases e⟩
end
def VA.ext {D:Addr->Prop} {a:Addr} {G G':Gp} {τ:St3} {ρ:Rho} (h:VA D G τ ρ) (e:Ext a G G') (da:D a):VA D G' τ ρ:=h.upx (CZ e da)
structure RL (l:Nat) (a:Addr) (z0:Option (Option T)×Nat) (D:Addr->Prop) (G0:Gp) (A:Nat->Option Addr) (τ:St3) (ρ:Rho) (G:Gp) (n:Nat):Prop where
 r:RS D G0 A τ ρ G
 al:A l=some a
 tl:τ[l]?=some (some (.ref a))
 ul:ρ[l]?=some Sl.un
 lf:Lf G a n
 tz:τ[0]?=z0.1/\τ.length=z0.2
section
variable {l:Nat} {a:Addr} {z0:Option (Option T)×Nat} {D:Addr->Prop} {G0 G G':Gp} {A:Nat->Option Addr} {τ:St3} {ρ:Rho} {n n':Nat}
def RL.vl (h:RL l a z0 D G0 A τ ρ G n):vw ρ l=none:=by unfold vw;rw [h.ul];rfl
def RL.up (h:RL l a z0 D G0 A τ ρ G n) (e:Ext a G G') (lf:Lf G' a n'):RL l a z0 D G0 A τ ρ G' n':=by
 have X:Ex (rs (AD D A) G) (rs (AD D A) G'):=CZ e (.inr ⟨l,h.al⟩);refine ⟨⟨λb o x=>e b o (by rintro rfl;rw [h.r.fr l _ h.al] at x;cases x) (h.r.ex b o x),h.r.dm,h.r.fr,λi p hp z=>?_,h.r.inj,h.r.len,λi d x=>let ⟨t,y,z⟩:=h.r.sh i d x;⟨t,y,z.up X⟩,λi ds x=>?_⟩,h.al,h.tl,h.ul,lf,h.tz⟩
 ·by_cases c:p=a
  ·subst c;exact EW lf z
  ·cases g:G p with
   |none=>exact h.r.da i p hp g
   |some o=>rw [e p o c g] at z;cases z
 ·obtain ⟨p,xs,y1,y2,y3,y4⟩:=h.r.ow i ds x;refine ⟨p,xs,y1,y2,e p _ ?_ y3,y4.up X⟩;rintro rfl;have:=h.r.inj i l _ y1 h.al;subst this;rw [h.ul] at x;cases x
def RL.all (h:RL l a z0 D G0 A τ ρ G n) (fv:List Nat):Ln fv l (λb=>D b\/b=a) G τ ρ a n:=by
 refine ⟨λi _ d hd=>?_,λb hb=>?_,.inr rfl,h.tl,h.vl,h.lf⟩
 ·unfold vw at hd;obtain ⟨s,e,hd⟩:=obb hd;have less:Ex (rs (AD D A) G) (rs (λb=>D b\/b=a) G):=zP λb z=>by
   rcases z with z|z
   ·exact .inl z
   ·subst z;exact .inr ⟨l,h.al⟩
  cases s with
  |un=>cases hd
  |sh d'=>
   cases hd;obtain ⟨t,b,c⟩:=h.r.sh i _ e;exact ⟨t,b,c.up less⟩
  |ow ds=>
   cases hd;obtain ⟨p,xs,b,c,g,f⟩:=h.r.ow i _ e;refine ⟨_,c,.lst ?_ (f.up less)⟩;rw [QI]
   ·exact g
   ·rintro (z|z)
    ·exact h.r.nd b z
    ·subst z;have:=h.r.inj i l _ b h.al;subst this;rw [h.ul] at e;cases e
 ·rcases hb with hb|hb
  ·exact h.r.domD b hb
  ·subst hb;exact EW h.lf
def qn1 {m:List Bool} (hm:mkb m l=false) (al:A l=some a):Ad m A l=some a:=by unfold Ad;rw [if_neg (by rw [hm];simp)];exact al
def RL.dem (h:RL l a z0 D G0 A τ ρ G n) {m:List Bool} (hm:mkb m l=false):RL l a z0 D G0 (Ad m A) τ (Pu.dm m ρ) G n:=
 ⟨h.r.dem m,qn1 hm h.al,h.tl,by rw [qa1,h.ul];simp [hm],h.lf,h.tz⟩
def RL.ln (h:RL l a z0 D G0 A τ ρ G n) {m:List Bool} {fv:List Nat} (hm:mkb m l=false) (hf:Tru (fv.all (mkb m))):Ln fv l (AD D (Ad m A)) G τ ρ a n:=
 ⟨h.r.viewD hf,(h.r.dem m).dom,.inr ⟨l,qn1 hm h.al⟩,h.tl,h.vl,h.lf⟩
def RL.put (h:RL l a z0 D G0 A τ ρ G n) {i:Nat} (hi:i≠l) (h0:i≠0) {x:T} {d:PyData} (hx:Dq (rs (AD D A) G) x d):RL l a z0 D G0 (Er A i) (τ.set i (some x)) (ρ.set i (.sh d)) G n:=
 ⟨h.r.put i hx,by unfold Er;rw [if_neg (λz=>hi z.symm)];exact h.al,by rw [getElem?_set,if_neg hi];exact h.tl,by rw [getElem?_set,if_neg hi];exact h.ul,h.lf,⟨by rw [getElem?_set,if_neg h0];exact h.tz.1,by rw [List.length_set];exact h.tz.2⟩⟩
def RL.puts:∀ {ts:List (Nat×T)} {bs:List (Nat×PyData)} {A:Nat->Option Addr} {τ:St3} {ρ:Rho},RL l a z0 D G0 A τ ρ G n->Bd (rs (AD D A) G) ts bs->(∀ p∈bs,p.1≠l/\p.1≠0)->∃ A',RL l a z0 D G0 A' (sets τ ts) (V7 ρ bs) G n
 |_,_,A,_,_,h,.nil,_=>⟨A,h⟩
 |_,_,A,_,_,h,.cons x b,hn=>by
  unfold sets V7;exact RL.puts (h.put (hn _ List.mem_cons_self).1 (hn _ List.mem_cons_self).2 x) (b.up qiy) (λp hp=>hn p (List.mem_cons_of_mem _ hp))
def RL.putN (h:RL l a z0 D G0 A τ ρ G n) {i:Nat} (hi:i≠l) (h0:i≠0) {x:T} {d:PyData} {ds:List PyData} (hd:d=.list ds) (E:Ext a G G') (lf:Lf G' a n') (hx:Nw (AD D A) G G' x d):∃ A',RL l a z0 D G0 A' (τ.set i (some x)) (ρ.set i (.ow ds)) G' n':=by
 have h1:=h.up E lf;rcases hx with hx|⟨p,xs,ds',rfl,e',gp,gp',hs⟩
 ·rw [hd] at hx;cases hx
 rw [hd] at e';cases e';have np:∀ {j q},A j=some q->q≠p:=λe=>by rintro rfl;exact h.r.da _ _ e gp
 have X1:Ex (rs (AD D A) G) (rs (AD D (λj=>if j=i then some p else A j)) G'):=λb o e=>by
  obtain ⟨n,e⟩:=qH e;rw [QI]
  ·exact E b o (by rintro rfl;exact n (.inr ⟨l,h.al⟩)) e
  ·rintro (z|⟨j,z⟩)
   ·exact n (.inl z)
   ·simp only at z;split at z
    ·cases z;rw [gp] at e;cases e
    ·exact n (.inr ⟨j,z⟩)
 refine ⟨λj=>if j=i then some p else A j,⟨h1.r.ex,h.r.dm,λj q e=>?_,λj q e=>?_,λj k q x y=>?_,by simp [h.r.len],λj e he=>?_,λj es e=>?_⟩,by rw [if_neg (λz=>hi z.symm)];exact h.al,by rw [getElem?_set,if_neg hi];exact h.tl,by rw [getElem?_set,if_neg hi];exact h.ul,lf,⟨by rw [getElem?_set,if_neg h0];exact h.tz.1,by rw [List.length_set];exact h.tz.2⟩⟩
 ·split at e
  ·cases e;cases z:G0 p with
   |none=>rfl
   |some o=>rw [h.r.ex _ _ z] at gp;cases gp
  ·exact h.r.fr j q e
 ·split at e
  ·cases e;rw [gp'];simp
  ·exact h1.r.da j q e
 ·split at x
  ·cases x;split at y
   ·rename_i h1 h2;rw [h1,h2]
   ·exact absurd rfl (np y)
  ·split at y
   ·cases y;exact absurd rfl (np x)
   ·exact h.r.inj j k q x y
 ·rw [getElem?_set] at he ⊢;split at he
  ·split at he<;>cases he
  ·rename_i hj;rw [if_neg hj];obtain ⟨t,b,c⟩:=h.r.sh j _ he;exact ⟨t,b,c.up X1⟩
 ·rw [getElem?_set] at e ⊢;split at e
  ·rename_i hj;subst hj;split at e
   ·rename_i hl;cases e;refine ⟨p,xs,by simp,by rw [if_pos rfl,if_pos (by rw [← h.r.len];exact hl)],gp',hs.up (zP λb z=>?_)⟩;rcases z with z|⟨j,z⟩
    ·exact .inl (.inl z)
    ·simp only at z;split at z
     ·cases z;exact .inr rfl
     ·exact .inl (.inr ⟨j,z⟩)
   ·cases e
  ·rename_i hj;rw [if_neg hj];obtain ⟨q,ys,b,c,g,f⟩:=h1.r.ow j _ e;obtain ⟨q',ys',b',c',g',f'⟩:=h.r.ow j _ e;rw [b] at b';cases b';have:G' q=some (.lst ys'):=E q _ (by rintro rfl;have:=h.r.inj j l _ b h.al;subst this;rw [h.ul] at e;cases e) g';exact ⟨q,ys',by rw [if_neg (λz=>hj z.symm)];exact b,c,this,f'.up X1⟩
def RL.wr (h:RL l a z0 D G0 A τ ρ G n) {i:Nat} {p:Addr} {xs:List T} {ds ds0:List PyData} (ho:ρ[i]?=some (Sl.ow ds0)) (hi:A i=some p) (ht:τ[i]?=some (some (.ref p))) (hs:Dqs (rs (AD D A) G) xs ds):RL l a z0 D G0 A τ (ρ.set i (.ow ds)) (gu G p (.lst xs)) n:=by
 have il:i≠l:=by rintro rfl;rw [h.ul] at ho;cases ho
 have pa:p≠a:=by rintro rfl;exact il (h.r.inj i l _ hi h.al)
 exact ⟨h.r.wr hi ht hs,h.al,h.tl,by rw [getElem?_set,if_neg il];exact h.ul,h.lf.new pa,h.tz⟩
end
abbrev QO:=Ot->Nat->Prop
def NH (l:Nat) (a:Addr) (z0:Option (Option T)×Nat) (D:Addr->Prop) (G0:Gp) (e:Ends3):Ot->Nat->Prop
 |.nx ρ,n=>∀ A τ G,RL l a z0 D G0 A τ ρ G n->e.nx τ G
 |.bk ρ,n=>∀ A τ G,RL l a z0 D G0 A τ ρ G n->e.bk τ G
 |.ct ρ,n=>∀ A τ G,RL l a z0 D G0 A τ ρ G n->e.ct τ G
 |.rt d fr,n=>∀ x G,Ex G0 G->Lf G a n->Dq (rs (λb=>D b\/b=a) G) x d->(fr=true->Nw (λb=>D b\/b=a) G0 G x d)->e.rt x G
structure PwS (l:Nat) (t:TS3) where
 w:Rho->Nat->QO->Prop
 mono:∀ {ρ n} {Q Q':QO},w ρ n Q->(∀ o m,Q o m->Q' o m)->w ρ n Q'
 ok:∀ {a z0 D G0 A τ ρ G n} {e:Ends3} {Q:QO},RL l a z0 D G0 A τ ρ G n->w ρ n Q->(∀ o m,Q o m->NH l a z0 D G0 e o m)->t e τ G
section
variable {l:Nat}
def VZ:PwS l zR:=⟨λρ n Q=>Q (.nx ρ) n,λh k=>k _ _ h,λh hw k=>k _ _ hw _ _ _ h⟩
def sqw (b:Rho->Nat->QO->Prop) (Q:QO):QO:=λo n=>match o with|.nx ρ'=>b ρ' n Q|o=>Q o n
def QF {t u:TS3} (x:PwS l t) (y:PwS l u):PwS l (qQ t u):=⟨λρ n Q=>x.w ρ n (sqw y.w Q),λh k=>x.mono h λo m h=>by
  cases o with
  |nx ρ=>exact y.mono h k
  |bk ρ=>exact k _ _ h
  |ct ρ=>exact k _ _ h
  |rt d f=>exact k _ _ h,λh hw k=>x.ok h hw λo m h=>by
  cases o with
  |nx ρ=>exact λA τ G r=>y.ok r h k
  |bk ρ=>exact k _ _ h
  |ct ρ=>exact k _ _ h
  |rt d f=>exact k _ _ h⟩
def wIf {c:TT3} {t u:TS3} (pc:PwC l c) (x:PwS l t) (y:PwS l u):PwS l (YF c t u):=⟨λρ n Q=>pc.w ρ n λk n1=>if k then x.w ρ n1 Q else y.w ρ n1 Q,λh k=>pc.mono h λj m h=>by
  cases j with
  |true=>rw [if_pos rfl] at h ⊢;exact x.mono h k
  |false=>exact y.mono h k,λh hw k=>pc.ok (h.all _) hw λj G1 n1 hj E1 L1=>by
  cases j with
  |true=>rw [if_pos rfl] at hj ⊢;exact x.ok (h.up E1 L1) hj k
  |false=>exact y.ok (h.up E1 L1) hj k⟩
def qf0 {a:Addr} {z0:Option (Option T)×Nat} {D:Addr->Prop} {G0 G G':Gp} {A:Nat->Option Addr} {τ:St3} {ρ:Rho} {n:Nat} (h:RL l a z0 D G0 A τ ρ G n) (e:Ext a G G'):Ex G0 G':=λb o x=>e b o (by rintro rfl;rw [h.r.fr l _ h.al] at x;cases x) (h.r.ex b o x)
def qbq {t:TE3} (x:PwE l t):PwS l (zX t):=⟨λρ n Q=>x.w ρ n λd n1=>Q (.rt d x.nw) n1,λh k=>x.mono h λd m h=>k _ _ h,λh hw k=>x.ok (h.all _) hw λy d G1 n1 hq E1 L1 D1 N1=>k _ _ hq y G1 (qf0 h E1) L1 D1 λz=>(N1 z).back h.r.ex⟩
def qaD (i:Nat):PwS l (zX (v3 i)):=⟨λρ n Q=>∃ d b,L8 ρ i=some (.rt d b)/\Q (.rt d b) n,λ⟨d,b,h1,h2⟩ k=>⟨d,b,h1,k _ _ h2⟩,λ{a z0 D G0 A τ ρ G n e Q} h ⟨d,b,h1,h2⟩ k=>by
 unfold L8 at h1;split at h1
 ·rename_i ds e;cases h1;obtain ⟨p,xs,b,c,g,f⟩:=h.r.ow i _ e;simp only [zX,v3,c];have pa:p≠a:=by
   rintro rfl;have:=h.r.inj i l _ b h.al;subst this;rw [h.ul] at e;cases e
  refine k _ _ h2 _ _ h.r.ex h.lf (.lst (by rw [QI (by rintro (z|z);exact h.r.nd b z;exact pa z)];exact g) (f.up (zP λb z=>?_))) λ_=>.inr ⟨p,xs,ds,rfl,rfl,h.r.fr i p b,g,f.up (zP λq z=>?_)⟩
  ·rcases z with z|z
   ·exact .inl z
   ·subst z;exact .inr ⟨l,h.al⟩
  ·rcases z with (z|z)|z
   ·exact .inl z
   ·subst z;exact .inr ⟨l,h.al⟩
   ·subst z;exact .inr ⟨i,b⟩
 ·rename_i d e;cases h1;obtain ⟨t,b,c⟩:=h.r.sh i _ e;simp only [zX,v3,b];refine k _ _ h2 _ _ h.r.ex h.lf (c.up (zP λb z=>?_)) (λz=>by cases z);rcases z with z|z
  ·exact .inl z
  ·subst z;exact .inr ⟨l,h.al⟩
 ·cases h1⟩
def YE {t:TE3} (x:PwE l t) (i:Nat) (m:List Bool) (hm:Tru (x.fv.all (mkb m))) (hl:Tru (!mkb m l&&(i != l&&i != 0))):PwS l (qX t (gn3 i)):=⟨λρ n Q=>x.w ρ n λd n1=>Q (.nx (XZ m x.nw i d ρ)) n1,λh k=>x.mono h λd m h=>k _ _ h,λ{a z0 D G0 A τ ρ G n e Q} h hw k=>by
 have hl':mkb m l=false/\i≠l/\i≠0:=by simpa using hl.h
 refine x.ok (h.ln hl'.1 hm) hw λy d G1 n1 hq E1 L1 D1 N1=>?_;have k:=k _ _ hq;unfold XZ at k;show e.nx (τ.set i (some y)) G1;split at k
 ·rename_i hs;exact k _ _ _ ((h.up E1 L1).put hl'.2.1 hl'.2.2 (U6 D1 hs))
 ·split at k
  ·rename_i hn;have N:=N1 hn;rcases id N with h2|⟨p,xs,ds,h1,h2,_⟩
   ·subst h2;rename_i hs;exact absurd rfl hs
   subst h2;obtain ⟨A',r⟩:=(h.dem hl'.1).putN hl'.2.1 hl'.2.2 rfl E1 L1 N;exact k _ _ _ r
  ·exact k _ _ _ (((h.dem hl'.1).up E1 L1).put hl'.2.1 hl'.2.2 D1)⟩
def qgX {t:TE3} {g:TG3} (x:PwE l t) (pg:PuG g) (m:List Bool) (hm:Tru (x.fv.all (mkb m))) (hl:Tru (!mkb m l&&pg.tg.all (λi=>i != l&&i != 0))):PwS l (qX t g):=⟨λρ n Q=>x.w ρ n λd n1=>∃ bs,pg.f d=some bs/\Q (.nx (V7 (dm m ρ) bs)) n1,λh k=>x.mono h λd m ⟨bs,h1,h2⟩=>⟨bs,h1,k _ _ h2⟩,λ{a z0 D G0 A τ ρ G n e Q} h hw k=>by
 have hl':mkb m l=false/\∀ i∈pg.tg,i≠l/\i≠0:=by simpa using hl.h
 refine x.ok (h.ln hl'.1 hm) hw λy d G1 n1 ⟨bs,e2,hq⟩ E1 L1 D1 N1=>?_;obtain ⟨ts,bd,kg⟩:=pg.ok D1 e2;refine kg _ _ _ ?_;obtain ⟨A',h'⟩:=((h.dem hl'.1).up E1 L1).puts bd (λp hp=>hl'.2 _ (pg.at' e2 p hp));exact k _ _ hq _ _ _ h'⟩
def qia {t:TA3} (x:PwA l t) (i j:Nat) (m:List Bool) (hm:Tru (x.fv.all (mkb m))) (hl:Tru (!mkb m l&&((i != l&&i != 0)&&(j != l&&j != 0)))):PwS l (qcc i j t):=⟨λρ n Q=>x.w ρ n λds n1=>∃ o,qfB i j m ds ρ=some o/\Q o n1,λh k=>x.mono h λd m ⟨bs,h1,h2⟩=>⟨bs,h1,k _ _ h2⟩,λ{a z0 D G0 A τ ρ G n e Q} h hw k=>by
 have hl':mkb m l=false/\(i≠l/\i≠0)/\j≠l/\j≠0:=by simpa using hl.h
 refine x.ok (h.ln hl'.1 hm) hw λy d G1 n1 ⟨o,e2,hq⟩ hlen E1 L1 D1=>?_;unfold qfB at e2;split at e2
 ·cases D1 with
  |cons x1 b=>cases b with
   |cons x2 c=>
    cases c;split at e2
    ·rename_i hs;cases e2;rw [Bool.and_eq_true] at hs;exact k _ _ hq _ _ _ (((h.up E1 L1).put hl'.2.1.1 hl'.2.1.2 (U6 x1 hs.1)).put hl'.2.2.1 hl'.2.2.2 (U6 x2 hs.2))
    ·cases e2;exact k _ _ hq _ _ _ ((((h.dem hl'.1).up E1 L1).put hl'.2.1.1 hl'.2.1.2 x1).put hl'.2.2.1 hl'.2.2.2 (x2.up qiy))
 ·cases e2⟩
def RL.evalS {a:Addr} {z0:Option (Option T)×Nat} {D:Addr->Prop} {G0 G:Gp} {A:Nat->Option Addr} {τ:St3} {ρ:Rho} {n:Nat} (h:RL l a z0 D G0 A τ ρ G n) {t:TE3} (x:PwE l t) (m:List Bool) (hm:Tru (x.fv.all (mkb m))) (hl:mkb m l=false) {Q:QD} (hw:x.w ρ n Q) (q:Q3) (k:∀ y d G' n' A1,Q d n'->RL l a z0 D G0 A1 τ (dmS m d ρ) G' n'->Ext a G G'->Dq (rs (AD D A1) G') y d->q y G'):t τ G q:=by
 refine x.ok (h.ln hl hm) hw λy d G1 n1 hq E1 L1 D1 _=>?_;by_cases hs:L7 d=true
 ·exact k y d G1 n1 A hq (by unfold dmS;rw [if_pos hs];exact h.up E1 L1) E1 (U6 D1 hs)
 ·exact k y d G1 n1 _ hq (by unfold dmS;rw [if_neg hs];exact (h.dem hl).up E1 L1) E1 D1
def qnO {t:TE3} (x:PwE l t) (i:Nat) (m:List Bool) (hm:Tru (x.fv.all (mkb m))) (hl:Tru (!mkb m l)):PwS l (DI (bm3 qbc (v3 i) (qc t qq))):=⟨λρ n Q=>∃ ds,slot ρ i=some ds/\x.w ρ n λd n1=>slot (dmS m d ρ) i=some ds/\ds.length<16777216/\Q (.nx ((dmS m d ρ).set i (.ow (ds++[d])))) n1,λ⟨v,h0,h⟩ k=>⟨v,h0,x.mono h λd m ⟨y,h1,h2⟩=>⟨y,h1,k _ _ h2⟩⟩,λ{a z0 D G0 A τ ρ G n e Q} h ⟨ds,h0,hw⟩ k=>by
 have hl':mkb m l=false:=by simpa using hl.h
 obtain ⟨p,xs,b,c,g,f⟩:=h.r.ow i _ (JM h0);simp only [DI,bm3,v3,c,zb g];refine ⟨rfl,h.evalS x m hm hl' hw _ λy d G1 n1 A1 ⟨h1,h2,hq⟩ r E1 D1=>?_⟩;obtain ⟨p',xs',b',c',g',f'⟩:=r.r.ow i _ (JM h1);rw [c] at c';cases c';simp only [qq,qbc,g'];exact ⟨by rw [f'.length,sizeLine_eq];exact h2,k _ _ hq _ _ _ (r.wr (JM h1) b' c (f'.append (.cons D1 .nil)))⟩⟩
def qbe (gf:PyData->Option (List (Nat×PyData))) (bw:Rho->Nat->QO->Prop):List PyData->Rho->Nat->QO->Prop
 |[],ρ,n,Q=>Q (.nx ρ) n
 |d::r,ρ,n,Q=>∃ bs,gf d=some bs/\bw (V7 ρ bs) n λo n1=>match o with
  |.nx ρ'=>qbe gf bw r ρ' n1 Q
  |.ct ρ'=>qbe gf bw r ρ' n1 Q
  |.bk ρ'=>Q (.nx ρ') n1
  |.rt d b=>Q (.rt d b) n1
def DB {g:TG3} {tb:TS3} (pg:PuG g) (pb:PwS l tb):∀ {ds:List PyData} {ρ:Rho} {n:Nat} {Q Q':QO},qbe pg.f pb.w ds ρ n Q->(∀ o m,Q o m->Q' o m)->qbe pg.f pb.w ds ρ n Q'
 |[],_,_,_,_,h,k=>k _ _ h
 |d::r,_,_,_,_,⟨bs,e,h⟩,k=>⟨bs,e,pb.mono h λo m h=>by
   cases o with
   |nx ρ=>exact DB pg pb h k
   |ct ρ=>exact DB pg pb h k
   |bk ρ=>exact k _ _ h
   |rt d b=>exact k _ _ h⟩
def W6 {stay:Gp->Prop} {g:TG3} {tb:TS3} {e:Ends3} (pg:PuG g) (pb:PwS l tb) {a:Addr} {z0:Option (Option T)×Nat} {D:Addr->Prop} {G0:Gp} {Q:QO} (hl:∀ i∈pg.tg,i≠l/\i≠0) (hs:∀ A τ ρ G n,RL l a z0 D G0 A τ ρ G n->stay G) (k:∀ o m,Q o m->NH l a z0 D G0 e o m) :
  ∀ (ds:List PyData) (items:List T),(∀ A τ ρ G n,RL l a z0 D G0 A τ ρ G n->Dqs (rs (AD D A) G) items ds)->∀ A τ ρ G n,RL l a z0 D G0 A τ ρ G n->qbe pg.f pb.w ds ρ n Q->DW stay g tb e items τ G
 |[],items,hi,A,τ,ρ,G,n,h,hw=>by
  have:=hi _ _ _ _ _ h;cases this;exact ⟨hs _ _ _ _ _ h,k _ _ hw _ _ _ h⟩
 |d::ds,items,hi,A,τ,ρ,G,n,h,⟨bs,e1,hw⟩=>by
  have hh:=hi _ _ _ _ _ h;cases hh with
  |cons hx hr=>
   rename_i x items;obtain ⟨ts,bd,kg⟩:=pg.ok hx e1;refine ⟨hs _ _ _ _ _ h,kg _ _ _ ?_⟩;obtain ⟨A',h'⟩:=h.puts bd λp hp=>hl _ (pg.at' e1 p hp);have hi':∀ A τ ρ G n,RL l a z0 D G0 A τ ρ G n->Dqs (rs (AD D A) G) items ds:=λA τ ρ G n h=>by
    have:=hi _ _ _ _ _ h;cases this with
    |cons a b=>exact b
   refine pb.ok h' hw λo m hq=>?_;cases o with
   |nx ρ'=>exact λA2 τ2 G2 h2=>W6 pg pb hl hs k ds items hi' _ _ _ _ _ h2 hq
   |ct ρ'=>exact λA2 τ2 G2 h2=>W6 pg pb hl hs k ds items hi' _ _ _ _ _ h2 hq
   |bk ρ'=>exact k _ _ hq
   |rt d fr=>exact k _ _ hq
def RL.base {a:Addr} {z0:Option (Option T)×Nat} {D:Addr->Prop} {G0 Gb G:Gp} {A:Nat->Option Addr} {τ:St3} {ρ:Rho} {n:Nat} (h:RL l a z0 D Gb A τ ρ G n) (e:Ex G0 Gb) (hd:Dom D G0):RL l a z0 D G0 A τ ρ G n:=⟨h.r.base e hd,h.al,h.tl,h.ul,h.lf,h.tz⟩
def NH.base {a:Addr} {z0:Option (Option T)×Nat} {D:Addr->Prop} {G0 Gb:Gp} {e:Ends3} {o:Ot} {n:Nat} (h:NH l a z0 D G0 e o n) (x:Ex G0 Gb) (hd:Dom D G0):NH l a z0 D Gb e o n:=by
 cases o with
 |nx ρ=>exact λA τ G r=>h A τ G (r.base x hd)
 |bk ρ=>exact λA τ G r=>h A τ G (r.base x hd)
 |ct ρ=>exact λA τ G r=>h A τ G (r.base x hd)
 |rt d fr=>exact λy G p q r z=>h y G (x.trans p) q r λw=>(z w).back x
def qla {wi:TI3} {g:TG3} {tb:TS3} (pi:PwI l wi) (pg:PuG g) (pb:PwS l tb) (m:List Bool) (hm:Tru (pi.fv.all (mkb m))) (hl:Tru (!mkb m l&&pg.tg.all (λi=>i != l&&i != 0))):PwS l (ER wi g tb):=⟨λρ n Q=>pi.w ρ n λds n1=>qbe pg.f pb.w ds (if pi.nm then ρ else dm m ρ) n1 Q,λh k=>pi.mono h λd m h=>DB pg pb h k,λ{a z0 D G0 A τ ρ G n e Q} h hw k=>by
 have hl':mkb m l=false/\∀ i∈pg.tg,i≠l/\i≠0:=by simpa using hl.h
 refine pi.ok (h.ln hl'.1 hm) hw λitems stay ds G1 n1 hq E1 L1 D1 hs hnm=>?_;cases hb:pi.nm with
 |true=>
  rw [hb,if_pos rfl] at hq;obtain ⟨ns,rfl⟩:=hnm hb;have:=D1.ints;subst this;exact W6 pg pb hl'.2 (λ_ _ _ _ _ _=>hs _ (.inl hb)) k _ _ (λA τ ρ G _ _=>Dqs.ofInts _) _ _ _ _ _ (h.up E1 L1) hq
 |false=>
  rw [hb,if_neg Bool.false_ne_true] at hq;have h1:=(h.dem hl'.1).up E1 L1;have b1:Ex G0 (rs (λb=>∃ i,Ad m A i=some b) G1):=λb o e=>by
   rw [QI]
   ·exact h1.r.ex _ _ e
   ·rintro ⟨i,z⟩;rw [h1.r.fr i _ z] at e;cases e
  have h2:RL l a z0 D (rs (λb=>∃ i,Ad m A i=some b) G1) (Ad m A) τ (dm m ρ) G1 n1:=⟨⟨D7,h.r.dm.up b1,λi p z=>by unfold rs;exact zu ⟨i,z⟩,h1.r.da,h1.r.inj,h1.r.len,h1.r.sh,h1.r.ow⟩,h1.al,h1.tl,h1.ul,h1.lf,h1.tz⟩
  have X:∀ A2 τ2 ρ2 G2,RS D (rs (λb=>∃ i,Ad m A i=some b) G1) A2 τ2 ρ2 G2->Ex (rs (AD D (Ad m A)) G1) (rs (AD D A2) G2):=λA2 τ2 ρ2 G2 r b o e=>by
   obtain ⟨n1,e⟩:=qH e;have eb:rs (λb=>∃ i,Ad m A i=some b) G1 b=some o:=by rw [QI (λz=>n1 (.inr z))];exact e
   rw [QI]
   ·exact r.ex _ _ eb
   ·rintro (z|⟨i,z⟩)
    ·exact n1 (.inl z)
    ·rw [r.fr i _ z] at eb;cases eb
  exact W6 pg pb hl'.2 (λA2 τ2 ρ2 G2 n2 r=>hs _ (.inr ((X _ _ _ _ r.r).trans D7))) (λo m hq=>(k o m hq).base b1 h.r.dm) _ _ (λA2 τ2 ρ2 G2 n2 r=>D1.up (X _ _ _ _ r.r)) _ _ _ _ _ h2 hq⟩
end
def DSp (W:List PyData->Nat->QD->Prop) (fr:Bool):Sp3:=λts G q=>∃ (D:Addr->Prop) (a:Addr) (n:Nat) (ts':List T) (ds:List PyData) (Q:QD),ts=.ref a::ts'/\Lf G a n/\D a/\Dom D G/\Dqs (rs D G) ts' ds/\W ds n Q/\∀ x d G' n',Q d n'->Ext a G G'->Lf G' a n'->Dq (rs D G') x d->(fr=true->Nw D G G' x d)->q x G'
structure Wm where
 W:List PyData->Nat->QD->Prop
 mono:∀ {ds n} {Q Q':QD},W ds n Q->(∀ d m,Q d m->Q' d m)->W ds n Q'
def dSp (w:Wm) (fr:Bool):DrD (DSp w.W fr):=⟨w.W,fr,w.mono,λ{D G a n ts ds q Q} lf da hd hs hw k=>⟨D,a,n,ts,ds,Q,rfl,lf,da,hd,hs,hw,k⟩⟩
def qdF (fr:Bool) (Q:QD):QO:=λo n=>match o with
 |.rt d b=>(fr=true->b=true)/\∃ m,n<=m/\Q d m
 |.nx _=>fr=false/\∃ m,n<=m/\Q .none m
 |_=>False
def qiV {t:TS3} (b:PwS 0 t) (k N:Nat) (fr:Bool):Wm:=⟨λds n Q=>ds.length+1=k/\b.w (.un::(ds.map Sl.sh++List.replicate (N-(ds.length+1)) .un)) n (qdF fr Q),λ⟨h1,h2⟩ k=>⟨h1,b.mono h2 λo m h=>by
 cases o with
 |rt d f=>obtain ⟨h1,m,h2,h3⟩:=h;exact ⟨h1,m,h2,k _ _ h3⟩
 |nx ρ=>obtain ⟨h1,m,h2,h3⟩:=h;exact ⟨h1,m,h2,k _ _ h3⟩
 |bk ρ=>exact h
 |ct ρ=>exact h⟩⟩
def X4 {t:TS3} (b:PwS 0 t) (N:List Str) (k:Nat) (fr:Bool):∀ ts G q,DSp (qiV b k N.length fr).W fr ts G q->ts.length=k/\t { nx:=λ_ G'=>q .non G',rt:=q } (qE N ts) G:=by
 rintro ts G q ⟨D,a,n,ts',ds,Q,rfl,lf,da,hd,hs,⟨hk,hw⟩,h⟩;refine ⟨by simp [hs.length];omega,?_⟩;have DD:∀ b,(D b/\b≠a)\/b=a↔D b:=λb=>by
  by_cases e:b=a
  ·subst e;simp [da]
  ·simp [e]
 have rr:∀ H,rs (λb=>(D b/\b≠a)\/b=a) H=rs D H:=λH=>by
  have:(λb=>(D b/\b≠a)\/b=a)=D:=funext λb=>propext (DD b);rw [this]
 have ad:AD (λb=>D b/\b≠a) (λi=>if i=0 then some a else none)=D:=funext λb=>propext ⟨(λz=>by
   rcases z with z|⟨i,z⟩
   ·exact z.1
   ·simp only at z;split at z
    ·cases z;exact da
    ·cases z),(λz=>by
   by_cases e:b=a
   ·subst e;exact .inr ⟨0,rfl⟩
   ·exact .inl ⟨z,e⟩)⟩
 have ga:G a≠none:=EW lf;have r:RL 0 a (some (some (.ref a)),(qE N (.ref a::ts')).length) (λb=>D b/\b≠a) (rs (λb=>b=a) G) (λi=>if i=0 then some a else none) (qE N (.ref a::ts')) (.un::(ds.map Sl.sh++List.replicate (N.length-(ds.length+1)) .un)) G n:=by
  refine ⟨⟨D7,λb hb=>by rw [QI (D:=λb=>b=a) hb.2];exact hd b hb.1,λi p e=>?_,λi p e=>?_,λi j p e e'=>?_,by simp [qE,hs.length],λi d' e=>?_,λi es e=>?_⟩,rfl,by simp [qE],rfl,lf,⟨by simp [qE],rfl⟩⟩
  ·split at e
   ·cases e;unfold rs;exact zu rfl
   ·cases e
  ·split at e
   ·cases e;exact ga
   ·cases e
  ·split at e
   ·split at e'
    ·rename_i h1 h2;rw [h1,h2]
    ·cases e'
   ·cases e
  ·rw [ad];cases i with
   |zero=>cases e
   |succ i=>
    rw [getElem?_cons_succ] at e;by_cases hi:i<ds.length
    ·rw [List.getElem?_append_left (by simpa using hi),getElem?_map] at e;obtain ⟨d2,e3,e4⟩:=Option.map_eq_some_iff.mp e;cases e4;obtain ⟨x,e5,hx⟩:=hs.get e3;refine ⟨x,?_,hx⟩;unfold qE;rw [List.getElem?_append_left (by simp [hs.length];exact hi),getElem?_map,getElem?_cons_succ,e5];rfl
    ·rw [List.getElem?_append_right (by simpa using hi),List.getElem?_replicate] at e;split at e<;>cases e
  ·cases i with
   |zero=>cases e
   |succ i=>
    rw [getElem?_cons_succ] at e;by_cases hi:i<ds.length
    ·rw [List.getElem?_append_left (by simpa using hi),getElem?_map] at e;obtain ⟨d2,e3,e4⟩:=Option.map_eq_some_iff.mp e;cases e4
    ·rw [List.getElem?_append_right (by simpa using hi),List.getElem?_replicate] at e;split at e<;>cases e
 have xe:∀ {G'},Ex (rs (λb=>b=a) G) G'->Ext a G G':=λe b o n x=>e b o (by rw [QI (D:=λb=>b=a) n];exact x);refine b.ok r hw λo m hq=>?_;cases o with
 |rt d f=>
  intro x G' E L Dx0 N;have Dx:=Dx0;rw [rr] at Dx;obtain ⟨hq1,m2,hm,hq2⟩:=hq;refine h x d G' m2 hq2 (xe E) (L.mono (by omega)) Dx λz=>?_;rcases N (hq1 z) with h2|⟨p,xs,ds',h1,h2,c,g,f'⟩
  ·exact .inl h2
  have np:p≠a:=by
   rintro rfl;rw [h1] at Dx0;cases Dx0 with
   |lst g0 _=>exact (qH g0).1 (.inr rfl)
  refine .inr ⟨p,xs,ds',h1,h2,by rw [QI (D:=λb=>b=a) np] at c;exact c,g,f'.up (zP λb z=>?_)⟩;rcases z with z|z
  ·exact .inl ((DD b).mpr z)
  ·exact .inr z
 |nx ρ=>
  obtain ⟨hq1,m2,hm,hq2⟩:=hq;exact λA τ G' r'=>h .non .none G' m2 hq2 (xe r'.r.ex) (r'.lf.mono (by omega)) .non λz=>by rw [hq1] at z;cases z
 |bk ρ=>exact hq.elim
 |ct ρ=>exact hq.elim
end Pu
namespace Pu
open PySem L2 L3
open Bk (Lf Ext Dl)
def okW:QO:=λo _=>match o with|.nx _=>True|.ct _=>True|_=>False
def qn8 (K:Int):TE3:=o3 JT (c3 (.int 1)) (cb3 qgd (qc (c3 (.int K)) (qc (cb3 DX (qc (v3 0) qq)) qq)))
def qho {i:Nat} {τ:St3} {t:T} {G:Gp} {q:Q3} (h:τ[i]?=some (some t)):v3 i τ G q=q t G:=by unfold v3;rw [h]
def qnQ (K:Int) (R:TS3):TS3:=qQ (ER (Y8 (qc (qn8 K) qq)) (gn3 1) (qQ (qX (cb3 Bk.Z4 (qc (v3 0) (qc (v3 1) qq))) (gn3 2)) R)) (zX (c3 (.bl true)))
def qci {R:TS3} (b:PwS 2 R) (N:List Str) (K:Int) (M:Nat) (hK:0<=K/\K<=60) (hN:N.length=M+3) (h:∀ k:Nat,k<=60->b.w ([.un,.sh (.int k),.un]++List.replicate M .un) 0 okW):∀ ts G q,WE ts G q->ts.length=1/\qnQ K R { nx:=λ_ G'=>q .non G',rt:=q } (qE N ts) G:=by
 rintro ts G q ⟨a,ns,rfl,hG,hl,hq⟩;refine ⟨rfl,?_⟩;have s0:(qE N [T.ref a])[0]?=some (some (.ref a)):=by simp [qE]
 have gl:getL G a=some (ns.map T.int):=by unfold getL;rw [hG]
 simp only [qnQ,qQ,ER,Y8,qn8,qc,qq,o3,c3,cb3,v3,s0,DX,gl,qgd,JT,length_map];have cnt:((1+(if ((ns.length:Nat):Int)<K then ((ns.length:Nat):Int) else K)).toNat)<=61:=by split<;>omega
 refine ⟨⟨by split<;>omega,by split<;>omega⟩,?_⟩;refine M3 _ (λ_ τ G'=>G' a=some (.frz (ns.map T.int))/\τ[0]?=some (some (.ref a))/\τ.length=M+3) ⟨hG,s0,by simp [qE,hN]⟩ (λ_ _ _ _ _=>True.intro) ?_ ?_
 ·rintro i z τ G' nx hz ⟨gA,t0,tl⟩ hn;obtain ⟨hi,rfl⟩:=qf5 hz;have hi2:i<=60:=by omega
  have t1:(τ.set 1 (some (T.int (0+(i:Int)))))[0]?=some (some (.ref a)):=by rw [getElem?_set,if_neg (by omega)];exact t0
  have t2:(τ.set 1 (some (T.int (0+(i:Int)))))[1]?=some (some (T.int (0+(i:Int)))):=by rw [getElem?_set,if_pos rfl,if_pos (by omega)]
  show v3 0 (τ.set 1 (some (T.int (0+(i:Int))))) G' (λx G1=>v3 1 (τ.set 1 (some (T.int (0+(i:Int))))) G1 λy G2=>Bk.Z4 [x,y] G2 λz G3=>R _ ((τ.set 1 (some (T.int (0+(i:Int))))).set 2 (some z)) G3);rw [qho t1,qho t2];refine ⟨a,_,ns,rfl,gA,hl,by omega,by omega,λp o c hp ho=>?_⟩;have pa:a≠p:=by rintro rfl;rw [gA] at hp;cases hp
  have r:RL 2 p (some (some (.ref a)),M+3) (λ_=>False) G' (λj=>if j=2 then some p else none) ((τ.set 1 (some (T.int (0+(i:Int))))).set 2 (some (.ref p))) ([.un,.sh (.int i),.un]++List.replicate M .un) (gu G' p (.lst [.int o,.int c,.int 0])) 0:=by
   refine ⟨⟨Z9 hp,λb z=>z.elim,λj q e=>?_,λj q e=>?_,λj k q e e'=>?_,by simp [tl],λj d e=>?_,λj ds e=>?_⟩,rfl,by rw [getElem?_set,if_pos rfl,if_pos (by simp;omega)],rfl,⟨o,c,0,za,ho,by omega,by omega⟩,⟨by rw [getElem?_set,if_neg (by omega)];exact t1,by simp [tl]⟩⟩
   ·split at e
    ·cases e;exact hp
    ·cases e
   ·split at e
    ·cases e;rw [za];simp
    ·cases e
   ·split at e
    ·split at e'
     ·rename_i h1 h2;rw [h1,h2]
     ·cases e'
    ·cases e
   ·match j,e with
    |0,e=>cases e
    |1,e=>
     cases e;refine ⟨.int (0+(i:Int)),by rw [getElem?_set,if_neg (by omega)];exact t2,?_⟩;rw [Int.zero_add];exact .int _
    |2,e=>cases e
    |j+3,e=>
     simp only [cons_append,List.nil_append,getElem?_cons_succ,List.getElem?_replicate] at e;split at e<;>cases e
   ·match j,e with
    |0,e=>cases e
    |1,e=>cases e
    |2,e=>cases e
    |j+3,e=>
     simp only [cons_append,List.nil_append,getElem?_cons_succ,List.getElem?_replicate] at e;split at e<;>cases e
  refine b.ok r (h i hi2) λo' m ho'=>?_;cases o' with
  |nx ρ'=>exact λA τ' G2 r2=>hn _ _ ⟨r2.r.ex _ _ gA,r2.tz.1,r2.tz.2⟩
  |ct ρ'=>exact λA τ' G2 r2=>hn _ _ ⟨r2.r.ex _ _ gA,r2.tz.1,r2.tz.2⟩
  |bk ρ'=>exact ho'.elim
  |rt d f=>exact ho'.elim
 ·rintro τ G' ⟨gA,t0,tl⟩;exact hq G'
def qhr {G:Gp} {ts:List T} {i:Int} (h:Dqs G ts [.int i]):ts=[.int i]:=by
 cases h with
 |cons a b=>cases b;cases a;rfl
def lfc {G:Gp} {a:Addr} {n c:Nat} (h:Lf G a ((n:Int)+(c:Int))):Lf G a ((n+c:Nat):Int):=by rw [Int.natCast_add];exact h
def UA:DrD Bk.qI:=⟨λds n Q=>∃ m:Int,ds=[.int m]/\(1<=m/\m<1073741824)/\n<1000000000/\∀ d:Int,0<=d->d<m->Q (.int d) (n+1),false,
 λ⟨m,h1,h2,h3,h4⟩ k=>⟨m,h1,h2,h3,λd x y=>k _ _ (h4 d x y)⟩,λ{D G a n ts ds q Q} lf da hd hs ⟨m,h1,h2,h3,h4⟩ k=>by
 subst h1;have:=qhr hs;subst this;exact ⟨a,n,m,rfl,h2.1,h2.2,lf,by omega,λd G' x y L E=>k _ _ G' (n+1) (h4 d x y) E (lfc (c:=1) L) (.int d) (λz=>by cases z)⟩⟩
def qeA:DrD Bk.ZS:=⟨λds n Q=>∃ m:Int,ds=[.int m]/\(0<=m/\m<=4)/\n<1000000/\∀ (h l:Nat) (ms:List Int),(h:Int)<=m->(l:Int)<=m->(Dl.bits h l ms).Ok->Q (Pv.dlD (.bits h l ms)) (n+10),false,
 λ⟨m,h1,h2,h3,h4⟩ k=>⟨m,h1,h2,h3,λh l ms x y z=>k _ _ (h4 h l ms x y z)⟩,λ{D G a n ts ds q Q} lf da hd hs ⟨m,h1,h2,h3,h4⟩ k=>by
 subst h1;have:=qhr hs;subst this;exact ⟨a,n,m,rfl,lf,by omega,h2.1,h2.2,λh l ms G' x y z L E=>k _ _ G' (n+10) (h4 h l ms x y z) E (lfc (c:=10) L) (Pv.qfb _ _) (λz=>by cases z)⟩⟩
def qji {l:Nat} {t:TE3} {b:PuE t}:(eOf (l:=l) b).w=λρ n Q=>∃ d,b.f ρ=some d/\Q d n:=id rfl
def qkI {l:Nat} {t:TT3} {b:PuC t}:(cOf (l:=l) b).w=λρ n Q=>∃ d,b.f ρ=some d/\Q d n:=id rfl
def qhl {l:Nat} {t:TA3} {b:PuA t}:(aOf (l:=l) b).w=λρ n Q=>∃ d,b.f ρ=some d/\Q d n:=id rfl
def qiw {l:Nat} {t:TI3} {b:PuI t}:(iOf (l:=l) b).w=λρ n Q=>∃ d,b.f ρ=some d/\Q d n:=id rfl
def qny {l:Nat} {r:R3} {ta tb:TE3} {R:OpD r} {a:PwE l ta} {b:PwE l tb}:(eO R a b).w=λρ n Q=>a.w ρ n λx n1=>b.w ρ n1 λy n2=>∃ v,R.f x y=some v/\Q v n2:=id rfl
def MD {l:Nat} {ta:TE3} {tr:TA3} {a:PwE l ta} {r:PwA l tr}:(XI a r).w=λρ n Q=>a.w ρ n λx n1=>r.w ρ n1 λxs n2=>Q (x::xs) n2:=id rfl
def qc7 {l:Nat} {t:TA3} {b:PwA l t} {hn:Tru (Nat.ble b.k 1000)}:(qma b hn).w=λρ n Q=>b.w ρ n λxs n1=>Q (.tuple xs) n1:=id rfl
def NT {l:Nat} {r:List T->Gp->Q3->Prop} {t:TA3} {R:FnD r} {b:PwA l t}:(qiT R b).w=λρ n Q=>b.w ρ n λxs n1=>∃ v,R.f xs=some v/\Q v n1:=id rfl
def qhQ {l:Nat} {r:List T->Gp->Q3->Prop} {t:TA3} {R:DrD r} {b:PwA l t}:(eDr R b).w=λρ n Q=>b.w ρ n λxs n1=>R.W xs n1 Q:=id rfl
def qaV {l:Nat} {ta tb:TE3} {a:PwE l ta} {b:PwE l tb}:(qiY a b).w=λρ n Q=>a.w ρ n λd n1=>∃ k,asB d=some k/\if k then b.w ρ n1 Q else Q (.bool false) n1:=id rfl
def qnB {l:Nat} {t:TA3} {b:PwA l t}:(iR b).w=λρ n Q=>b.w ρ n λxs n1=>∃ ds,qd7 xs=some ds/\Q ds n1:=id rfl
def qib {l:Nat} {t:TA3} {b:PwA l t}:(iR b).nm=true:=id rfl
def qde {l:Nat} {t:TI3} {b:PuI t}:(iOf (l:=l) b).nm=b.nm:=id rfl
def qcA {l:Nat} {t:TE3} {b:PuE t}:(eOf (l:=l) b).nw=b.nw:=id rfl
def qky {l:Nat} {r:R3} {ta tb:TE3} {R:OpD r} {a:PwE l ta} {b:PwE l tb}:(eO R a b).nw=R.nw:=id rfl
def MI {l:Nat} {t:TA3} {b:PwA l t} {hn:Tru (Nat.ble b.k 1000)}:(qma b hn).nw=false:=id rfl
def qcE {l:Nat} {r:List T->Gp->Q3->Prop} {t:TA3} {R:DrD r} {b:PwA l t}:(eDr R b).nw=R.nw:=id rfl
def qaS {l:Nat}:(VZ (l:=l)).w=λρ n Q=>Q (.nx ρ) n:=id rfl
def NY {l:Nat} {t u:TS3} {x:PwS l t} {y:PwS l u}:(QF x y).w=λρ n Q=>x.w ρ n (sqw y.w Q):=id rfl
def qd2 {b:Rho->Nat->QO->Prop} {Q:QO} {ρ:Rho} {n:Nat}:sqw b Q (.nx ρ) n=b ρ n Q:=id rfl
def qcZ {b:Rho->Nat->QO->Prop} {Q:QO} {d:PyData} {f:Bool} {n:Nat}:sqw b Q (.rt d f) n=Q (.rt d f) n:=id rfl
def qiE {l:Nat} {c:TT3} {t u:TS3} {pc:PwC l c} {x:PwS l t} {y:PwS l u}:(wIf pc x y).w=λρ n Q=>pc.w ρ n λk n1=>if k then x.w ρ n1 Q else y.w ρ n1 Q:=id rfl
def qeb {l:Nat} {t:TE3} {x:PwE l t}:(qbq x).w=λρ n Q=>x.w ρ n λd n1=>Q (.rt d x.nw) n1:=id rfl
def NU {l:Nat} {i:Nat}:(qaD (l:=l) i).w=λρ n Q=>∃ d b,L8 ρ i=some (.rt d b)/\Q (.rt d b) n:=id rfl
def qd1 {l:Nat} {t:TE3} {x:PwE l t} {i:Nat} {m:List Bool} {hm:Tru (x.fv.all (mkb m))} {hl:Tru (!mkb m l&&(i != l&&i != 0))}:(YE x i m hm hl).w=λρ n Q=>x.w ρ n λd n1=>Q (.nx (XZ m x.nw i d ρ)) n1:=id rfl
def qav {l:Nat} {t:TE3} {g:TG3} {x:PwE l t} {pg:PuG g} {m:List Bool} {hm:Tru (x.fv.all (mkb m))} {hl:Tru (!mkb m l&&pg.tg.all (λi=>i != l&&i != 0))}:(qgX x pg m hm hl).w=λρ n Q=>x.w ρ n λd n1=>∃ bs,pg.f d=some bs/\Q (.nx (V7 (dm m ρ) bs)) n1:=id rfl
def qdR {l:Nat} {t:TA3} {x:PwA l t} {i j:Nat} {m:List Bool} {hm:Tru (x.fv.all (mkb m))} {hl:Tru (!mkb m l&&((i != l&&i != 0)&&(j != l&&j != 0)))}:(qia x i j m hm hl).w=λρ n Q=>x.w ρ n λds n1=>∃ o,qfB i j m ds ρ=some o/\Q o n1:=id rfl
def qc8 {l:Nat} {t:TE3} {x:PwE l t} {i:Nat} {m:List Bool} {hm:Tru (x.fv.all (mkb m))} {hl:Tru (!mkb m l)}:(qnO x i m hm hl).w=λρ n Q=>∃ ds,slot ρ i=some ds/\x.w ρ n λd n1=>slot (dmS m d ρ) i=some ds/\ds.length<16777216/\Q (.nx ((dmS m d ρ).set i (.ow (ds++[d])))) n1:=id rfl
def qec {l:Nat} {wi:TI3} {g:TG3} {tb:TS3} {pi:PwI l wi} {pg:PuG g} {pb:PwS l tb} {m:List Bool} {hm:Tru (pi.fv.all (mkb m))} {hl:Tru (!mkb m l&&pg.tg.all (λi=>i != l&&i != 0))}:(qla pi pg pb m hm hl).w=λρ n Q=>pi.w ρ n λds n1=>qbe pg.f pb.w ds (if pi.nm then ρ else dm m ρ) n1 Q:=id rfl
def MP {ds:List PyData} {n:Nat} {Q:QD}:UA.W ds n Q=(∃ m:Int,ds=[.int m]/\(1<=m/\m<1073741824)/\n<1000000000/\∀ d:Int,0<=d->d<m->Q (.int d) (n+1)):=id rfl
def ME {ds:List PyData} {n:Nat} {Q:QD}:qeA.W ds n Q=(∃ m:Int,ds=[.int m]/\(0<=m/\m<=4)/\n<1000000/\∀ (h l:Nat) (ms:List Int),(h:Int)<=m->(l:Int)<=m->(Dl.bits h l ms).Ok->Q (Pv.dlD (.bits h l ms)) (n+10)):=id rfl
def K1:UA.nw=false:=id rfl
def KU:qeA.nw=false:=id rfl
def qkZ {w:Wm} {fr:Bool}:(dSp w fr).W=w.W:=id rfl
def qdg {w:Wm} {fr:Bool}:(dSp w fr).nw=fr:=id rfl
def qaY {Q:QD} {d:PyData} {b:Bool} {n:Nat}:qdF false Q (.rt d b) n=∃ m,n<=m/\Q d m:=propext ⟨λh=>h.2,λh=>⟨λz=>(Bool.false_ne_true z).elim,h⟩⟩
def qdC {Q:QD} {d:PyData} {n:Nat}:qdF true Q (.rt d true) n=∃ m,n<=m/\Q d m:=propext ⟨λh=>h.2,λh=>⟨λ_=>rfl,h⟩⟩
def qcB {ρ:Rho} {n:Nat}:okW (.nx ρ) n=True:=id rfl
def qi5 {α:Type} {v:α} {P:α->Prop}:(∃ d,some v=some d/\P d)=P v:=propext ⟨λ⟨d,h1,h2⟩=>by cases h1;exact h2,λh=>⟨v,rfl,h⟩⟩
def qdo {v:Int} {P:Int->Prop}:(∃ m:Int,[PyData.int v]=[.int m]/\P m)=P v:=propext ⟨λ⟨d,h1,h2⟩=>by cases h1;exact h2,λh=>⟨v,rfl,h⟩⟩
def qkL {d:PyData} {b:Bool} {P:PyData->Bool->Prop}:(∃ d' b',some (Ot.rt d b)=some (.rt d' b')/\P d' b')=P d b:=propext ⟨λ⟨x,y,h1,h2⟩=>by cases h1;exact h2,λh=>⟨d,b,rfl,h⟩⟩
def qds {m:List Bool} {nw:Bool} {i:Nat} {d:Dl} {ρ:Rho}:XZ m nw i (Pv.dlD d) ρ=(dm m ρ).set i (.sh (Pv.dlD d)):=by cases d<;>exact qch
def z8 {l:Nat} {t u:TS3} {x:PwS l t} {y:PwS l u} {ρ:Rho} {n:Nat} {Q:QO} (h:∀ Y:Rho->Nat->QO->Prop,Y=y.w->x.w ρ n (sqw Y Q)):(QF x y).w ρ n Q:=h _ rfl
def N8 {ks:List Int} {d:Int} {P:PyData->Prop} (h0:0<=d) (h1:d<(ks.length:Int)) (h:∀ k∈ks,P (.int k)):∃ v,L2.atI (ks.map PyData.int) d=some v/\P v:=by
 obtain ⟨i,rfl⟩:=Int.eq_ofNat_of_zero_le h0;have hi:i<ks.length:=by omega
 refine ⟨.int ks[i],?_,h _ (List.getElem_mem hi)⟩;have:=atN (xs:=ks.map PyData.int) (k:=i) (by simpa using hi);rw [getElem?_map,getElem?_eq_getElem hi] at this;exact this
structure Mn (bw:Rho->Nat->QO->Prop):Prop where
 h:∀ ρ n (Q Q':QO),bw ρ n Q->(∀ o m,Q o m->Q' o m)->bw ρ n Q'
def PwS.mn {l:Nat} {t:TS3} (b:PwS l t):Mn b.w:=⟨λ_ _ _ _ h k=>b.mono h k⟩
section
variable {l:Nat} {g:TG3} {tb:TS3}
def EM {gf:PyData->Option (List (Nat×PyData))} {bw:Rho->Nat->QO->Prop} {α:Type} {f:α->PyData} (xs:List α) (mono:Mn bw) (I:Nat->Rho->Nat->Prop) {ρ:Rho} {n:Nat} {Q:QO} (h0:I 0 ρ n)
  (hs:∀ i x ρ n,xs[i]?=some x->I i ρ n->∃ bs,gf (f x)=some bs/\bw (V7 ρ bs) n λo m=>match o with|.nx ρ'=>I (i+1) ρ' m|.ct ρ'=>I (i+1) ρ' m|.bk ρ'=>Q (.nx ρ') m|.rt d b=>Q (.rt d b) m)
  (k:∀ ρ n,I xs.length ρ n->Q (.nx ρ) n):qbe gf bw (xs.map f) ρ n Q:=by
 have key:∀ (r:List α) (i:Nat) (ρ:Rho) (n:Nat),xs.drop i=r->i<=xs.length->I i ρ n->qbe gf bw (r.map f) ρ n Q:=by
  intro r;induction r with
  |nil=>
   intro i ρ n e hi h;have:i=xs.length:=by
    have:=congrArg List.length e;simp at this;omega
   subst this;exact k ρ n h
  |cons x r ih=>
   intro i ρ n e hi h;have hl:i<xs.length:=by
    have:=congrArg List.length e;simp at this;omega
   have e':=List.drop_eq_getElem_cons hl;rw [e] at e';injection e' with e1 e2;obtain ⟨bs,h1,h2⟩:=hs i x ρ n (by rw [getElem?_eq_getElem hl,e1]) h;refine ⟨bs,h1,mono.h _ _ _ _ h2 λo m h=>?_⟩;cases o with
   |nx ρ'=>exact ih (i+1) ρ' m e2.symm hl h
   |ct ρ'=>exact ih (i+1) ρ' m e2.symm hl h
   |bk ρ'=>exact h
   |rt d b=>exact h
 exact key xs 0 ρ n (by simp) (Nat.zero_le _) h0
end
def MO {α β:Type} {x:α} {f:α->Option β}:(some x).bind f=f x:=id rfl
def qdQ {α β:Type} {x:α} {f:α->β}:(some x).map f=some (f x):=id rfl
def qhi {α:Type} {x:α} {r:List α}:(x::r).length=r.length+1:=id rfl
def qgz {α:Type}:([]:List α).length=0:=id rfl
def qgA {α:Type} {x y:α} {r:List α}:(x::r).set 0 y=y::r:=id rfl
def qk3 {α:Type} {x y:α} {r:List α} {i:Nat}:(x::r).set (i+1) y=x::r.set i y:=id rfl
def qhd {α:Type} {r:List α}:r++[]=r:=List.append_nil r
def qii {α:Type} {x:α} {r s:List α}:(x::r)++s=x::(r++s):=id rfl
def qjn {α:Type} {s:List α}:[]++s=s:=id rfl
def qkF {n:Nat}:0+n=n:=Nat.zero_add n
def qkq {p:Prop}:(True/\p)=p:=true_and p
def qjZ {α:Type} {a b:α} {i:Decidable True}:@ite α True i a b=a:=if_pos trivial
def qig {α:Type} {a b:α} {i:Decidable False}:@ite α False i a b=b:=if_neg not_false
def qif:(false=true)=False:=Bool.false_eq_true
def qkM:(!true)=false:=id rfl
def qj3:(!false)=true:=id rfl
def qhS {i:Decidable True}:@decide True i=true:=decide_true i
def qhR {i:Decidable False}:@decide False i=false:=decide_false i
def qiS {b:Bool}:(b&&true)=b:=Bool.and_true b
def qhL {b:Bool}:(true&&b)=b:=Bool.true_and b
def qjW {b:Bool}:(false&&b)=false:=Bool.false_and b
def qio {b:Bool}:(b&&false)=false:=Bool.and_false b
def ai{a b:Prop}(x:a)(y:b):a/\b:=⟨x,y⟩
def pwA:=(ai (ai (ai (ai (ai (ai (ai @Pu.qji (ai @Pu.qkI @Pu.qhl)) (ai @Pu.qiw (ai @Pu.qny @Pu.MD))) (ai (ai @Pu.qc7 (ai @Pu.NT @Pu.qhQ)) (ai (ai @Pu.qaV @Pu.qnB) (ai @Pu.qib @Pu.qde)))) (ai (ai (ai @Pu.qcA (ai @Pu.qky @Pu.MI)) (ai (ai @Pu.qcE @Pu.qaS) (ai @Pu.NY @Pu.qd2))) (ai (ai @Pu.qcZ (ai @Pu.qiE @Pu.qeb)) (ai (ai @Pu.NU @Pu.qd1) (ai @Pu.qav @Pu.qdR))))) (ai (ai (ai (ai @Pu.qc8 (ai @Pu.qec @Pu.MP)) (ai @Pu.ME (ai @Pu.K1 @Pu.KU))) (ai (ai @Pu.qkZ (ai @Pu.qdg @Pu.qaY)) (ai (ai @Pu.qdC @Pu.qcB) (ai @Pu.qdo @Pu.qkL)))) (ai (ai (ai @Pu.qds (ai @Pu.qjl @Pu.qnM)) (ai (ai @Pu.qcs @Pu.qkJ) (ai @Pu.qdD @Pu.qdZ))) (ai (ai @Pu.qnD (ai @Pu.qdW @Pu.N5)) (ai (ai @Pu.qdz @Pu.qdv) (ai @Pu.qag @Pu.qiD)))))) (ai (ai (ai (ai (ai @Pu.qdP (ai @Pu.qi3 @Pu.qek)) (ai @Pu.qjD (ai @Pu.qan @Pu.N6))) (ai (ai @Pu.qi4 (ai @Pu.qej @Pu.qiF)) (ai (ai @Pu.qcu @Pu.qd4) (ai @Pu.qhI @Pu.qhh)))) (ai (ai (ai @Pu.qiN (ai @Pu.qdq @Pu.qcQ)) (ai (ai @Pu.qd3 @Pu.qd9) (ai @Pu.qcM @Pu.qcL))) (ai (ai @Pu.qdj (ai @Pu.N0 @Pu.qk7)) (ai (ai @Pu.qgF @Pu.qg1) (ai @Pu.qdA @Pu.NO))))) (ai (ai (ai (ai @Pu.qao (ai @Pu.qdJ @Pu.qbb)) (ai @Pu.TR (ai @Pu.qdn @Pu.qd5))) (ai (ai @Pu.qas (ai @Pu.qaH @Pu.KK)) (ai (ai @Pu.NP @Pu.qnF) (ai @Pu.qdO @Pu.qau)))) (ai (ai (ai @Pu.qdG (ai @Pu.qap @Pu.qcR)) (ai (ai @Pu.qgy @Pu.qdl) (ai @Pu.ND @Pu.qc0))) (ai (ai @Pu.qcx (ai @Pu.qc1 @Pu.qdr)) (ai (ai @Pu.qdB @Pu.qkx) (ai @Pu.qjy @Pu.NC))))))) (ai (ai (ai (ai (ai (ai @Pu.qd6 (ai @Pu.qa9 @Pu.qj7)) (ai @Pu.MX (ai @Pu.KG @Pu.KB))) (ai (ai @Pu.T9 (ai @Pu.qcH @Pu.qdk)) (ai (ai @Pu.M2 @Pu.qaA) (ai @Pu.NA @Pu.qaU)))) (ai (ai (ai @Pu.MH (ai @Pu.KH @Pu.C1)) (ai (ai @Pu.qaZ @Pu.qct) (ai @Pu.qdc @Pu.qnH))) (ai (ai @Pu.qoc (ai @Pu.qkf @Pu.qg2)) (ai (ai @Pu.SZ @Pu.NV) (ai @Pu.qba @Pu.NQ))))) (ai (ai (ai (ai @Pu.qd8 (ai @Pu.qck @Pu.qfG)) (ai @Pu.at0 (ai @Pu.at1 @Pu.at2))) (ai (ai @Pu.at3 (ai @Pu.eqS @Pu.eqI)) (ai (ai @Pu.eqB @Pu.qiR) (ai @Pu.qhk @Pu.qh9)))) (ai (ai (ai @Pu.qnZ (ai @Pu.qc3 @Pu.qcw)) (ai (ai @Pu.qdT @Pu.MZ) (ai @Pu.qeh @Pu.qkN))) (ai (ai @Pu.qeP (ai @Pu.qed @Pu.qc5)) (ai (ai @Pu.qcJ @Pu.qcK) (ai @Pu.qcV @Pu.qcW)))))) (ai (ai (ai (ai (ai @Pu.qdd (ai @Pu.RM @Pu.qeg)) (ai @Pu.qdb (ai @Pu.qh6 @Pu.qkd))) (ai (ai @Pu.qjT (ai @Pu.qh3 @Pu.qiX)) (ai (ai @Pu.qhp @Pu.qcT) (ai @Pu.qkw @Pu.qiM)))) (ai (ai (ai @Pu.qiW (ai @Pu.qch @Pu.qdp)) (ai (ai @Pu.qda @Pu.qi9) (ai @Pu.qg3 @Pu.qnG))) (ai (ai @Pu.qn4 (ai @Pu.qn9 @Pu.qhc)) (ai (ai @Pu.qir @Pu.qkh) (ai @Pu.qja @Pu.qjh))))) (ai (ai (ai (ai @Pu.qnz (ai @Pu.qdH @Pu.qcG)) (ai (ai @Pu.qcN @Pu.qcC) (ai @Pu.qi5 @Pu.MO))) (ai (ai @Pu.qdQ (ai @Pu.qhi @Pu.qgz)) (ai (ai @Pu.qgA @Pu.qk3) (ai @Pu.qhd @Pu.qii)))) (ai (ai (ai @Pu.qjn (ai @Pu.qkF @Pu.qkq)) (ai (ai @Pu.qjZ @Pu.qig) (ai @Pu.qif @Pu.qkM))) (ai (ai @Pu.qj3 (ai @Pu.qhS @Pu.qhR)) (ai (ai @Pu.qiS @Pu.qhL) (ai @Pu.qjW @Pu.qio))))))))
end Pu
namespace Bk
open PySem L2 L3
end Bk
namespace Pu
open PySem L2 L3
open Bk (Lf Ext Dl)
def the (S:PyData->Prop):Option PyData:=@dite _ (∃ v,S v) (Classical.propDecidable _) (λh=>some (Classical.choose h)) λ_=>none
end Pu
namespace Pu
open PySem L2 L3
open Bk (Lf Ext Dl SD SDs X2 SC T6 MJ MT K3 XH)
end Pu
namespace Pu
open PySem L2 L3
def XD (st:Bool):List PyData->Option PyData
 |[.none]=>some (.str "None")
 |[.bool b]=>some (.str (if b=true then Str.ofString "True" else Str.ofString "False"))
 |[.int i]=>cif (i.natAbs.log2<1920) (some (.str (Str.ofString (toString i)))) none
 |[.str x]=>match st with
  |true=>some (.str x)
  |false=>cif ((reprText x).length<=sizeLine) (some (.str (reprText x))) none
 |[.list ds]=>cif (ShW (.list ds)) (some (.str (PyData.list ds).shown)) none
 |[.tuple ds]=>cif (ShW (.tuple ds)) (some (.str (PyData.tuple ds).shown)) none
 |_=>none
def JV {α:Type} {c:Prop} {x:α} {d:α} (h:cif c (some x) none=some d):c/\x=d:=by
 unfold cif at h;split at h
 ·rename_i z;exact ⟨z,Option.some.inj h⟩
 ·cases h
def N2 (st:Bool):FnD (RR st):=⟨XD st,false,λ{D G xs ds v q} hx hd hf k=>by
 cases hx with
 |nil=>cases hf
 |cons a b=>
  cases b with
  |cons b1 b2=>cases a<;>cases hf
  |nil=>
   have dp:=(a.up D7).dp;have fin:∀ (x:Str) {w:PyData},w=v->w=.str x->q (.str x) G:=λx w e1 e2=>k _ _ Ex.refl (by rw [← e1,e2];exact .str _) (λz=>by cases z);cases a with
   |non=>exact fin _ (Option.some.inj hf) rfl
   |bl b=>exact fin _ (Option.some.inj hf) rfl
   |int i=>exact ⟨(JV hf).1,fin _ (JV hf).2 rfl⟩
   |str x=>
    cases st with
    |true=>exact fin _ (Option.some.inj hf) rfl
    |false=>exact ⟨(JV hf).1,fin _ (JV hf).2 rfl⟩
   |tup hs=>exact ⟨_,dp,(JV hf).1,fin _ (JV hf).2 rfl⟩
   |lst g hs=>exact ⟨_,dp,(JV hf).1,fin _ (JV hf).2 rfl⟩⟩
def SV {st:Bool}:(N2 st).f=XD st:=id rfl
def WS {st:Bool}:(N2 st).nw=false:=id rfl
def qke {st:Bool} {ds:List PyData} (h:ShW (.list ds)):XD st [.list ds]=some (.str (PyData.list ds).shown):=zu h
def qk2 {st:Bool} {ds:List PyData} (h:ShW (.tuple ds)):XD st [.tuple ds]=some (.str (PyData.tuple ds).shown):=zu h
def log2_lt {n k:Nat} (h:n<2 ^ k) (hk:0<k):n.log2<k:=by
 rcases Nat.eq_zero_or_pos n with z|z
 ·subst z;simpa using hk
 ·exact (Nat.log2_lt (by omega)).mpr h
def qdy {st:Bool} {i:Int} (h:-1000000000<=i/\i<=1000000000):XD st [.int i]=some (.str (Str.ofString (toString i))):=zu (Nat.lt_of_lt_of_le (log2_lt (k:=30) (by omega) (by decide)) (by decide))
def qj2 {x:Str}:XD true [.str x]=some (.str x):=id rfl
def qkG {st:Bool}:XD st [.none]=some (.str "None"):=id rfl
def qg5 {st b:Bool}:XD st [.bool b]=some (.str (if b=true then Str.ofString "True" else Str.ofString "False")):=id rfl
def qe0 {α:Type} (g:α->PyData) (xs:List α):∀ k,enD k (xs.map g)=(xs.zipIdx k).map λp=>PyData.tuple [.int (p.2:Int),g p.1]:=by
 induction xs with
 |nil=>intro k;rfl
 |cons x xs ih=>intro k;simp only [map_cons,enD,List.zipIdx_cons,ih (k+1)]
def LS {α:Type} {xs:List α} {i n:Nat} {x:α} (h:(xs.zipIdx 0)[i]?=some (x,n)):xs[i]?=some x/\n=i/\i<xs.length:=by
 rw [List.getElem?_zipIdx] at h;obtain ⟨c,hc,e⟩:=Option.map_eq_some_iff.mp h;simp only [Nat.zero_add,Prod.mk.injEq] at e;obtain ⟨rfl,rfl⟩:=e;exact ⟨hc,rfl,(List.getElem?_eq_some_iff.mp hc).1⟩
def qeQ (s:String):((Str.ofString s).cps.toList.all λc=>decide (c<16 ^ 8))=true:=by
 rw [Str.ofString_eq_toList];rw [List.all_eq_true];intro c hc;obtain ⟨x,_,rfl⟩:=mem_map.mp hc;have h:x.val.toNat<2 ^ 32:=x.val.toNat_lt;have e:16 ^ 8=4294967296:=by decide
 have e2:x.toNat=x.val.toNat:=rfl;rw [decide_eq_true_eq,e2,e];exact h
def qe6 (k:Nat) {i:Int} (h:-1000000<=i/\i<=1000000):Bk.SD k 13 (.str (Str.ofString (toString i))):=by
 refine Bk.K3 k 13 ?_ (qeQ _);have:=PyProof.Rows.intsShortAll_ints2 [i] (by intro n hn;simp at hn;subst hn;omega);simp only [map_cons,List.map_nil,PyData.intsShortAll,PyData.intsShort,Bool.and_true,decide_eq_true_eq] at this;exact this
def qcP {ds:List PyData} {r:Int} (h0:0<=r) (h1:r<(ds.length:Int)):∃ v∈ds,L2.atI ds r=some v:=by
 obtain ⟨j,rfl⟩:=Int.eq_ofNat_of_zero_le h0;have hj:j<ds.length:=by omega
 exact ⟨ds[j],List.getElem_mem hj,by rw [atN hj,getElem?_eq_getElem hj]⟩
def MC {ds:List PyData} {r:Int} {P:PyData->Prop} (n:Nat) (hl:ds.length=n) (h0:0<=r) (h1:r<(n:Int)) (h:∀ v∈ds,P v):∃ v,L2.atI ds r=some v/\P v:=by
 obtain ⟨v,hv,e⟩:=qcP (ds:=ds) h0 (by rw [hl];exact h1);exact ⟨v,e,h v hv⟩
def qaz {xs:List PyData} {lo hi:Option Int} {d:PyData} (h:d∈E8 xs lo hi):d∈xs:=List.mem_of_mem_drop (List.mem_of_mem_take h)
def qlr (d e:PyData):Option PyData:=match d,e with
 |.list xs,.int k=>cif ((-(2 ^ 63)<=k/\k<2 ^ 63)/\xs.length*k.toNat<=sizeLine) (some (.list (List.replicate k.toNat xs).flatten)) none
 |_,_=>none
def Dqs.rep {G:Gp} {xs:List T} {ds:List PyData} (h:Dqs G xs ds):∀ k,Dqs G (List.replicate k xs).flatten (List.replicate k ds).flatten
 |0=>.nil
 |k+1=>by
  rw [List.replicate_succ,List.flatten_cons,List.replicate_succ,List.flatten_cons];exact h.append (h.rep k)
def qbv:OpD qgw:=⟨qlr,true,λ{D G x y d e v q} hx hy hd hf k=>by
 unfold qlr at hf;cases hx with
 |lst g hs=>
  cases hy<;>try (simp at hf;done)
  simp only [cif] at hf;split at hf
  ·rename_i c;cases hf;simp only [qgw,(qH g).2];exact ⟨c.1,by rw [hs.length];exact c.2,λp hp=>k _ _ (Z9 hp) (YH hd hp (hs.rep _)) λ_=>D9 hp (hs.rep _)⟩
  ·cases hf
 |_=>simp at hf⟩
def qfq:qbv.f=qlr:=id rfl
def qbl:qbv.nw=true:=id rfl
def qiq {r:List T->Gp->Q3->Prop} {tb ti:TE3} {tr:TA3} (R:FnD r) (i:Nat) (b:PuE tb) (jZ:PuA tr) (c:PuE ti) (m:List Bool) (hm:Tru (jZ.fv.all (mkb m))) :
  PuS (qX (cb3 r (qc (o3 ix3 (v3 i) tb) tr)) (UQ (v3 i) ti)):=
 ⟨λ_ ρ=>(b.f ρ).bind λkb=>(asI kb).bind λkb=>(slot ρ i).bind λds=>(L2.atI ds kb).bind λx=>(jZ.f ρ).bind λes=>(R.f (x::es)).bind λd=>(c.f ρ).bind λk=>qjk i k d (dm m ρ),λ{D G0 A τ ρ G n o e} h hf k=>by
 obtain ⟨kb,e1,hf⟩:=obb hf;obtain ⟨kk,e2,hf⟩:=obb hf;obtain ⟨ds,e3,hf⟩:=obb hf;obtain ⟨x,e4,hf⟩:=obb hf;obtain ⟨es,e5,hf⟩:=obb hf;obtain ⟨d,e6,hf⟩:=obb hf;obtain ⟨kd,e7,hf⟩:=obb hf;unfold qjk at hf;obtain ⟨kc,e8,hf⟩:=obb hf;obtain ⟨ds',e9,hf⟩:=obb hf;obtain ⟨j,e10,hf⟩:=obb hf;cases hf;have:=EV e2;subst this;have:=EV e8;subst this;obtain ⟨p,xs,bb,cc,g,f⟩:=h.ow i _ (JM e3);have h1:=h.dem m;obtain ⟨p',xs',bb',cc',g',f'⟩:=h1.ow i _ (JM e9);have pp:p=p':=by rw [cc] at cc';cases cc';rfl
 subst pp;have less:∀ q,AD D (Ad m A) q->AD D A q:=λq z=>by
  rcases z with z|⟨k,z⟩
  ·exact .inl z
  ·exact .inr ⟨k,(U3 z).1⟩
 show qX (cb3 r (qc (o3 ix3 (v3 i) tb) tr)) (UQ (v3 i) ti) e τ G;simp only [qX,cb3,qc,o3,v3,cc];refine b.ok (h.viewAll _) h.domD e1 λy G1 E1 D1 _=>?_;cases D1;obtain ⟨t,e11,r1⟩:=(f.up (QG E1)).atI e4;simp only [ix3,zb (E1 _ _ g),e11];refine jZ.ok ((h.up E1).viewD hm) ((h.up E1).dem m).dom e5 λts G2 E2 D2=>?_;have r2:=(r1.up (zP less)).up (QG E2);refine R.ok (.cons r2 D2) ((((h.up E1).up E2).dem m).dom) e6 λz G3 E3 D3 _=>?_;simp only [UQ,v3,cc];refine c.ok ((((h.up E1).up E2).up E3).viewAll _) (((h.up E1).up E2).up E3).domD e7 λy4 G4 E4 D4 _=>?_;cases D4;have E:Ex G G4:=((E1.trans E2).trans E3).trans E4;simp only [qc2,E _ _ g',f'.length,e10];exact k _ _ _ ((h1.up E).wr bb' cc ((f'.up (QG E)).set j (D3.up (QG E4))))⟩
def NB {r:List T->Gp->Q3->Prop} {tb ti:TE3} {tr:TA3} {R:FnD r} {i:Nat} {b:PuE tb} {jZ:PuA tr} {c:PuE ti} {m:List Bool} {hm:Tru (jZ.fv.all (mkb m))}:(qiq R i b jZ c m hm).f=λ_ ρ=>(b.f ρ).bind λkb=>(asI kb).bind λkb=>(slot ρ i).bind λds=>(L2.atI ds kb).bind λx=>(jZ.f ρ).bind λes=>(R.f (x::es)).bind λd=>(c.f ρ).bind λk=>qjk i k d (dm m ρ):=id rfl
end Pu
namespace Pv
open PySem L2 L3 Pu
def KC {lo:Int} {n i:Nat} {x:Int} (h:(D6 lo n)[i]?=some x):i<n/\x=lo+i:=by
 unfold D6 at h;rw [getElem?_map] at h;obtain ⟨k,e1,e2⟩:=Option.map_eq_some_iff.mp h;obtain ⟨hl,hk⟩:=List.getElem?_eq_some_iff.mp e1;simp at hl hk;subst hk;exact ⟨hl,e2.symm⟩
def qby (lo:Int) (n:Nat):(D6 lo n).length=n:=by simp [D6]
open Bk (Dl)
def qk9 {P:Nat->Prop} (h:∃ n,P n):∃ n,P n/\∀ m,m<n->¬ P m:=by
 obtain ⟨n,hn⟩:=h;induction n using Nat.strongRecOn with
 |_ n ih=>
  by_cases hx:∃ m,m<n/\P m
  ·obtain ⟨m,h1,h2⟩:=hx;exact ih m h1 h2
  ·exact ⟨n,hn,λm h1 h2=>hx ⟨m,h1,h2⟩⟩
def lst (P:Nat->Prop):Nat:=open Classical in if h:∃ n,P n then (qk9 h).choose else 0
def qjA {P:Nat->Prop} (h:∃ n,P n):P (lst P)/\∀ m,m<lst P->¬ P m:=by
 unfold lst;rw [dif_pos h];exact (qk9 h).choose_spec
end Pv
namespace Pv
open PySem L2 L3 Pu
def ja:PuS (Bk.z9):=(YK (CD (bO (opI Builtin.bitAnd) (bV 0) (bV 1)) 2 [true,true] ⟨rfl⟩) (YK (CD (qL 0) 3 [] ⟨rfl⟩) (YK (sWh (bTb (bO (opB λi j=>decide (j<i)) (bV 2) (qL 0))) (YK (qnX (bO (opI Builtin.bitAnd) (bV 2) (qL 1)) 3) (CD (bO (opC (λ_ j=>0<=j) (λi j=>i/2 ^ j.toNat)) (bV 2) (qL 1)) 2 [false,false,true] ⟨rfl⟩))) (DU (bO (VX false) (bO (opI Builtin.bitAnd) (bV 3) (qL 1)) (qL 1))))))
def qk:List PyData->Option PyData:=run (ja).f 2 4 1000000000 false
def EE:∀ ts G q,PSp (qk) false ts G q->ts.length=2/\Bk.z9 { nx:=λ_ G'=>q .non G',rt:=q } (qE ["number","mask","common","many"] ts) G:=zl (ja) ["number","mask","common","many"] 2 1000000000 false
def EA {x0 x1:PyData}:qk [x0,x1]=YB false ((ja).f 1000000000 [.sh x0,.sh x1,.un,.un]):=id rfl
def ZR (qk:List PyData->Option PyData):PuS (Bk.ZU (PSp qk false)):=(DU (qD qlz (qf (bLc (DT (qf (bV 0) qC)) (KA 2 (jJ (gN 0) (jJ (gN 1) KO))) (bTb (qD (zw qk false) (qf (bV 2) (qf (bV 1) qC)))) (bO (opC W7 (λi j=>i*2 ^ j.toNat)) (qL 1) (bV 0)) [none,none,some 1] ⟨rfl⟩) qC)))
def qO:List PyData->Option PyData:=run (ZR qk).f 2 2 1000000000 false
def C5:∀ ts G q,PSp (qO) false ts G q->ts.length=2/\Bk.ZU (PSp qk false) { nx:=λ_ G'=>q .non G',rt:=q } (qE ["masks","number"] ts) G:=zl (ZR qk) ["masks","number"] 2 1000000000 false
def RU {x0 x1:PyData}:qO [x0,x1]=YB false ((ZR qk).f 1000000000 [.sh x0,.sh x1]):=id rfl
def W8:TS3:=(qQ (qX (ED (qc (c3 (.int 0)) qq)) (gn3 1)) (qQ (ER (JC (v3 0)) (gn3 2) (qX (o3 JT (v3 1) (lc3 (JC (v3 1)) (gn3 0) tt3 (o3 (iI Builtin.bitXor) (v3 0) (v3 1)) [none,some 2])) (gn3 1))) (zX (v3 1))))
def W5:PuS (Pv.W8):=(YK (CD (UU (qf (qL 0) qC) ⟨rfl⟩) 1 [] ⟨rfl⟩) (YK (qbd (qa3 (bV 0)) (gN 2) (CD (bO M7 (bV 1) (bLc (qa3 (bV 1)) (gN 0) bTt (bO (opI Builtin.bitXor) (bV 0) (bV 1)) [none,some 2] ⟨rfl⟩)) 1 [false,true,true] ⟨rfl⟩) [true] ⟨rfl⟩) (XE 1)))
def zM:List PyData->Option PyData:=run (W5).f 1 3 1000000000 true
def qb7:∀ ts G q,PSp (zM) true ts G q->ts.length=1/\Pv.W8 { nx:=λ_ G'=>q .non G',rt:=q } (qE ["marks","told","mark"] ts) G:=zl (W5) ["marks","told","mark"] 1 1000000000 true
def qce {x0:PyData}:zM [x0]=YB true ((W5).f 1000000000 [.sh x0,.un,.un]):=id rfl
def QP (S_bits_bank:Sp3):TS3:=(zX (lc3 (JC (v3 1)) (gn3 0) tt3 (cb3 S_bits_bank (qc (o3 ix3 (v3 1) (c3 (.int 3))) (qc (v3 0) qq))) [none,some 0]))
def QJ (qO:List PyData->Option PyData):PuS (Pv.QP (PSp qO false)):=(DU (bLc (qa3 (bV 1)) (gN 0) bTt (qD (zw qO false) (qf (bO Y9 (bV 1) (qL 3)) (qf (bV 0) qC))) [none,some 0] ⟨rfl⟩))
def qo:List PyData->Option PyData:=run (QJ qO).f 2 2 1000000000 true
def XJ:∀ ts G q,PSp (qo) true ts G q->ts.length=2/\Pv.QP (PSp qO false) { nx:=λ_ G'=>q .non G',rt:=q } (qE ["dealing","marks"] ts) G:=zl (QJ qO) ["dealing","marks"] 2 1000000000 true
def X9 {x0 x1:PyData}:qo [x0,x1]=YB true ((QJ qO).f 1000000000 [.sh x0,.sh x1]):=id rfl
def QK (S_flips:Sp3) (S_mark_banks:Sp3):TS3:=(qQ (ER (J3 (qc (cb3 S_mark_banks (qc (v3 0) (qc (cb3 S_flips (qc (v3 1) qq)) qq))) qq)) (V3 2 (zJ (gn3 2) (zJ (gn3 3) UR))) (YF (qbw (tb3 (o3 (iB λi j=>decide (j<i)) (v3 2) (c3 (.int 0)))) (tb3 (o3 (YO false) (v3 3) (c3 (.int 0))))) (zX (v3 2)) zR)) (zX (c3 .non)))
def QS (zM:List PyData->Option PyData) (qo:List PyData->Option PyData):PuS (Pv.QK (PSp zM true) (PSp qo true)):=(YK (qbd (DT (qf (qD (zw qo true) (qf (bV 0) (qf (qD (zw zM true) (qf (bV 1) qC)) qC))) qC)) (KA 2 (jJ (gN 2) (jJ (gN 3) KO))) (sIf (qfh (bTb (bO (opB λi j=>decide (j<i)) (bV 2) (qL 0))) (bTb (bO (VX false) (bV 3) (qL 0)))) (XE 2) UC) [true,true] ⟨rfl⟩) (DU qbf))
def zg:List PyData->Option PyData:=run (QS zM qo).f 2 4 1000000000 false
def WU:∀ ts G q,PSp (zg) false ts G q->ts.length=2/\Pv.QK (PSp zM true) (PSp qo true) { nx:=λ_ G'=>q .non G',rt:=q } (qE ["dealing","marks","s","bank"] ts) G:=zl (QS zM qo) ["dealing","marks","s","bank"] 2 1000000000 false
def W2 {x0 x1:PyData}:zg [x0,x1]=YB false ((QS zM qo).f 1000000000 [.sh x0,.sh x1,.un,.un]):=id rfl
open Bk (pop qW qw qg EN Dl QR UN UL V0)
def par:Nat->Int->Int->Int
 |0,_,_=>0
 |k+1,n,m=>n%2*(m%2)+par k (n/2) (m/2)
def TK {n m:Int} (hn:0<=n) (hm:0<=m):Builtin.bitAnd n m=2*Builtin.bitAnd (n/2) (m/2)+n%2*(m%2):=by
 rw [PySem.W.kbt_halves n m];have h1:n%2=0\/n%2=1:=by omega
 have h2:m%2=0\/m%2=1:=by omega
 rcases h1 with h1|h1<;>rcases h2 with h2|h2<;>simp [h1,h2]
def NX:∀ (k:Nat) (n m:Int),0<=n->0<=m->((pop k (Builtin.bitAnd n m).toNat:Nat):Int)=par k n m
 |0,_,_,_,_=>rfl
 |k+1,n,m,hn,hm=>by
  have a:=TK hn hm;have r:=PyProof.Rows.bitAnd_range (n/2) (show 0<=m/2 by omega);have ih:=NX k (n/2) (m/2) (by omega) (by omega);have h1:n%2=0\/n%2=1:=by omega
  have h2:m%2=0\/m%2=1:=by omega
  have b:n%2*(m%2)=0\/n%2*(m%2)=1:=by rcases h1 with h1|h1<;>rcases h2 with h2|h2<;>simp [h1,h2]
  have e1:(Builtin.bitAnd n m).toNat%2=(n%2*(m%2)).toNat:=by omega
  have e2:(Builtin.bitAnd n m).toNat/2=(Builtin.bitAnd (n/2) (m/2)).toNat:=by omega
  simp only [pop,par,e1,e2,← ih];omega
def YU {n m:Int} (hn:0<=n) (hm:0<=m):(if qW n m then (1:Int) else 0)=par 64 n m%2:=by
 rw [← NX 64 n m hn hm];unfold qW;by_cases h:pop 64 (Builtin.bitAnd n m).toNat%2=1
 ·simp [h];omega
 ·simp [h];omega
def zk {x y:Int} (hx:0<=x) (hy:0<=y):0<=Builtin.bitXor x y/\Builtin.bitXor x y%2=(x%2+y%2)%2/\Builtin.bitXor x y/2=Builtin.bitXor (x/2) (y/2):=by
 have a:=TK hx hy;have b:=PyProof.Rows.bitXor_and x y;have c:=PyProof.Rows.bitXor_and (x/2) (y/2);have r:=PyProof.Rows.bitAnd_range (x/2) (show 0<=y/2 by omega);have r2:=PyProof.Rows.bitAnd_range (y/2) (show 0<=x/2 by omega);have h1:x%2=0\/x%2=1:=by omega
 have h2:y%2=0\/y%2=1:=by omega
 have p:x%2*(y%2)=0/\(x%2=0\/y%2=0)\/x%2*(y%2)=1/\x%2=1/\y%2=1:=by rcases h1 with h1|h1<;>rcases h2 with h2|h2<;>simp [h1,h2]
 have s:=PyProof.Rows.bitAnd_range x hy;have cm:Builtin.bitAnd x y=Builtin.bitAnd y x:=by
  have:=PyProof.Rows.bitXor_and y x;exact PyProof.Rows.bitAnd_comm x y
 have s2:=PyProof.Rows.bitAnd_range y hx;omega
def R1:∀ (k:Nat) (x y m:Int),0<=x->0<=y->par k (Builtin.bitXor x y) m%2=(par k x m+par k y m)%2
 |0,_,_,_,_,_=>rfl
 |k+1,x,y,m,hx,hy=>by
  obtain ⟨z0,z1,z2⟩:=zk hx hy;have ih:=R1 k (x/2) (y/2) (m/2) (by omega) (by omega);simp only [par,z1,z2];have h1:x%2=0\/x%2=1:=by omega
  have h2:y%2=0\/y%2=1:=by omega
  have h3:m%2=0\/m%2=1:=by omega
  rcases h1 with h1|h1<;>rcases h2 with h2|h2<;>rcases h3 with h3|h3<;>simp only [h1,h2,h3]<;>omega
def RW (n:Int):∀ (t:Nat) (ms:List Int),qw n (t+1) ms=2*qw n t ms
 |_,[]=>rfl
 |t,m::ms=>by
  simp only [qw,RW n (t+1) ms,Int.pow_succ];split<;>omega
def VI (n m:Int) (ms:List Int):qg (m::ms) n=(if qW n m then 1 else 0)+2*qg ms n:=by
 unfold qg;rw [qw,RW];simp
def QL (n:Int):∀ ms:List Int,0<=qg ms n/\qg ms n<2 ^ ms.length
 |[]=>by simp [qg,qw]
 |m::ms=>by
  have ih:=QL n ms;rw [VI,length_cons,Int.pow_succ];split<;>omega
def KJ (b:Bool) (B:Int):((if b then (1:Int) else 0)+2*B)%2=(if b then 1 else 0)/\((if b then (1:Int) else 0)+2*B)/2=B:=by
 cases b<;>simp<;>omega
def XQ {x y:Int} (hx:0<=x) (hy:0<=y):∀ ms:List Int,(∀ m∈ms,0<=m)->Builtin.bitXor (qg ms x) (qg ms y)=qg ms (Builtin.bitXor x y)
 |[],_=>by simp [qg,qw];exact PyProof.Rows.bitXor_self 0
 |m::ms,hm=>by
  have ih:=XQ hx hy ms λz hz=>hm z (List.mem_cons_of_mem _ hz);have m0:=hm m List.mem_cons_self;have a:=QL x (m::ms);have b:=QL y (m::ms);obtain ⟨z0,z1,z2⟩:=zk a.1 b.1;obtain ⟨w0,w1,w2⟩:=zk hx hy;have ex:=YU hx m0;have ey:=YU hy m0;have ez:=YU w0 m0;have lin:=R1 64 x y m hx hy;rw [VI x,VI y] at z1 z2 ⊢;rw [VI (Builtin.bitXor x y),← ih];rw [(KJ _ _).2,(KJ _ _).2] at z2;rw [(KJ _ _).1,(KJ _ _).1] at z1;omega
def T3:∀ (k:Nat) (x y:Int),0<=x->x<2 ^ k->0<=y->y<2 ^ k->Builtin.bitXor x y<2 ^ k
 |0,x,y,h0,h1,h2,h3=>by
  simp at h1 h3;have e1:x=0:=by omega
  have e2:y=0:=by omega
  subst e1;subst e2;rw [PyProof.Rows.bitXor_self];decide
 |k+1,x,y,h0,h1,h2,h3=>by
  rw [Int.pow_succ] at h1 h3 ⊢;have ih:=T3 k (x/2) (y/2) (by omega) (by omega) (by omega) (by omega);obtain ⟨z0,z1,z2⟩:=zk h0 h2;rw [← z2] at ih;omega
def CA:∀ (i c:Nat),pop (i+1) c=pop i c+c/2 ^ i%2
 |0,c=>by simp [pop]
 |i+1,c=>by
  have ih:=CA i (c/2);rw [pop,ih,Nat.div_div_eq_div_mul,show 2*2 ^ i=2 ^ (i+1) by rw [Nat.pow_succ];omega];rw [show pop (i+1) c=c%2+pop i (c/2) from rfl];omega
def qaL {i j c:Nat} (h:c<2 ^ i) (hj:i<=j):pop j c=pop i c:=by
 induction hj with
 |refl=>rfl
 |step hj ih=>rw [EN _ _ (Nat.lt_of_lt_of_le h (Nat.pow_le_pow_right (by omega) hj)),ih]
def qhP {n m:Int} (hm:0<=m) (hm2:m<2 ^ 64):qk [.int n,.int m]=some (.bool (qW n m)):=by
 have hr:=PyProof.Rows.bitAnd_range n hm;obtain ⟨c,hc⟩:=Int.eq_ofNat_of_zero_le hr.1;have c64:c<2 ^ 64:=by omega
 have ex:∃ k,c/2 ^ k=0:=⟨64,Nat.div_eq_of_lt c64⟩
 obtain ⟨L1,L2'⟩:=qjA (P:=λk=>c/2 ^ k=0) ex;have LT:lst (λk=>c/2 ^ k=0)<=64:=by
  apply Classical.byContradiction;intro h;exact L2' 64 (by omega) (Nat.div_eq_of_lt c64)
 generalize lst (λk=>c/2 ^ k=0)=T at L1 L2' LT;rw [EA]
 try simp only [Pu.pwA,ja,hc]
 refine qhH (Q:=λo=>YB false o=_) T (by omega) (λi ρ=>ρ=[.sh (.int n),.sh (.int m),.sh (.int ((c/2 ^ i:Nat):Int)),.sh (.int ((pop i c:Nat):Int))]) (by simp [pop]) ?_ ?_ ?_ ?_
 ·rintro i ρ hi rfl;have h1:=L2' i hi;have:(0:Int)<((c/2 ^ i:Nat):Int):=Int.natCast_pos.mpr (Nat.pos_of_ne_zero h1)
  try simp only [Pu.pwA,this]
 ·rintro i ρ hi rfl;have e1:((c/2 ^ i:Nat):Int)/2 ^ (1:Int).toNat=((c/2 ^ (i+1):Nat):Int):=by
   rw [Nat.pow_succ,← Nat.div_div_eq_div_mul];simp
  have e2:((pop i c:Nat):Int)+((c/2 ^ i:Nat):Int)%2=((pop (i+1) c:Nat):Int):=by rw [CA];omega
  try simp (disch:=omega) only [Pu.pwA,PyProof.Rows.bitAnd_m1,qjF (i:=3) (x:=((pop i c:Nat):Int)) (y:=((c/2 ^ i:Nat):Int)%2) (ρ:=[.sh (.int n),.sh (.int m),.sh (.int ((c/2 ^ i:Nat):Int)),.sh (.int ((pop i c:Nat):Int))]) rfl,qha,e1,e2]
 ·rintro ρ rfl
  try simp only [Pu.pwA,L1,Int.natCast_zero,Int.lt_irrefl]
 ·rintro ρ rfl;have lt:c<2 ^ T:=by
   rcases Nat.lt_or_ge c (2 ^ T) with z|z
   ·exact z
   ·have:=Nat.div_pos z (Nat.pow_pos (n:=T) (show 0<2 by omega));omega
  have e:qW n m=decide (((pop T c:Nat):Int)%2=1):=by
   unfold qW;rw [hc,Int.toNat_natCast,qaL lt LT];by_cases hy:pop T c%2=1
   ·have:((pop T c:Nat):Int)%2=1:=by omega
    simp [hy,this]
   ·have:¬ ((pop T c:Nat):Int)%2=1:=by omega
    simp [hy,this]
  try simp only [Pu.pwA,PyProof.Rows.bitAnd_m1,e]
def RY {n:Int} {R:Int->Prop} {h:PyData->Option (Option PyData)} (hh:∀ (t:Nat) (m:Int),t<60->R m->h (.tuple [.int t,.int m])=some (if qW n m then some (.int (2 ^ t)) else none)):∀ (ms:List Int) (k:Nat),(∀ m∈ms,R m)->k+ms.length<=60->lcP h (enD k (ms.map PyData.int))=some ((QR n k ms).map PyData.int)
 |[],k,_,_=>rfl
 |m::ms,k,hm,hk=>by
  rw [length_cons] at hk;have ih:=RY hh ms (k+1) (λx hx=>hm x (by simp [hx])) (by omega);have e:=hh k m (by omega) (hm m (by simp));show (h (.tuple [.int (k:Int),.int m])).bind _=_;rw [e];simp only [Option.bind_some,ih,QR];cases qW n m with
  |true=>simp
  |false=>simp
def qoP {ms:List Int} {n:Int} (hm:∀ m∈ms,0<=m/\m<2 ^ 64) (hl:ms.length<=30):qO [.tuple (ms.map PyData.int),.int n]=some (.int (qg ms n)):=by
 rw [RU]
 try simp only [Pu.pwA,ZR]
 have cl:=UL n 0 ms;rw [JP (ds:=enD 0 (ms.map PyData.int)) (fs:=(QR n 0 ms).map PyData.int)]
 ·have so:LN (QR n 0 ms):=by
   refine ⟨by omega,λx hx=>?_⟩;obtain ⟨k,hk,rfl⟩:=V0 n 0 ms x hx;have h1:2 ^ k<=1073741824:=Nat.le_trans (Nat.pow_le_pow_right (by omega) (by omega:k<=30)) (by decide);have h2:((2 ^ k:Nat):Int)=2 ^ k:=by simp
   rw [← h2];generalize 2 ^ k=z at h1;omega
  try simp only [Pu.pwA,qj8 so,UN,qg]
 ·try simp only [Pu.pwA]
 ·refine RY (R:=λm=>0<=m/\m<2 ^ 64) (λt m ht hm=>?_) ms 0 hm (by omega);have e:=qhP (n:=n) hm.1 hm.2
  try simp only [Pu.pwA,EX,e]
  cases qW n m with
  |true=>
   have:cI W7 (λi j=>i*2 ^ j.toNat) (.int 1) (.int (t:Int))=some (.int (2 ^ t)):=by
    rw [TF ⟨by omega,by omega,by decide⟩,Int.one_mul,Int.toNat_natCast]
   try simp only [Pu.pwA,this]
  |false=>try simp only [Pu.pwA]
 ·simp;omega
def fl (ks:List Int):List Int:=ks.foldl (λacc m=>acc++acc.map λf=>Builtin.bitXor f m) [0]
def ji (ks:List Int) (m:Int):fl (ks++[m])=fl ks++(fl ks).map λf=>Builtin.bitXor f m:=by simp [fl]
def j3 {n:Nat} {ks:List Int} (h:ks.length=n+1):∃ (k':List Int) (m:Int),ks=k'++[m]/\k'.length=n:=by
 have hne:ks≠[]:=by rintro rfl;simp at h
 exact ⟨ks.dropLast,ks.getLast hne,(List.dropLast_concat_getLast hne).symm,by simp [h]⟩
def KF:∀ (n:Nat) (ks:List Int),ks.length=n->(fl ks).length=2 ^ n:=by
 intro n;induction n with
 |zero=>intro ks h;have:=List.eq_nil_of_length_eq_zero h;subst this;rfl
 |succ n ih=>
  intro ks h;obtain ⟨k',m,rfl,hl⟩:=j3 h;rw [ji,length_append,length_map,ih k' hl,Nat.pow_succ];omega
def qnU {ks:List Int} (hl:ks.length<=8):zM [.list (ks.map PyData.int)]=some (.list ((fl ks).map PyData.int)):=by
 rw [qce]
 try simp only [Pu.pwA,W5]
 refine YT (Q:=λo=>YB true o=_) ks (λi ρ=>∃ s2,ρ=[.sh (.list (ks.map PyData.int)),.ow ((fl (ks.take i)).map PyData.int),s2]) ⟨_,rfl⟩ ?_ ?_
 ·rintro i m ρ hx ⟨s2,rfl⟩;have hi:=(List.getElem?_eq_some_iff.mp hx).1;have tk:ks.take (i+1)=ks.take i++[m]:=by rw [List.take_succ,hx];rfl
  have ln:=KF i (ks.take i) (by simp;omega);have l8:2 ^ i<=2 ^ 8:=Nat.pow_le_pow_right (by omega) (by omega)
  try simp only [Pu.pwA]
  rw [JP (ds:=(fl (ks.take i)).map PyData.int) (fs:=((fl (ks.take i)).map λf=>Builtin.bitXor f m).map PyData.int) rfl (by
   rw [map_map];refine ZQ λf hf=>?_
   try simp only [Pu.pwA,EX,Function.comp_def]) (by simp;omega)]
  try simp only [Pu.pwA]
  rw [qgG (by simp;omega)]
  try simp only [Pu.pwA]
  rw [tk,ji,List.map_append];exact ⟨_,rfl⟩
 ·rintro ρ ⟨s2,rfl⟩;rw [List.take_length]
  try simp only [Pu.pwA]
def qlC {h l:Nat} {ms xs:List Int} (hm:∀ m∈ms,0<=m/\m<2 ^ 64) (hl:ms.length<=30) (lx:xs.length<=1000000):qo [dlD (.bits h l ms),.list (xs.map PyData.int)]=some (.list ((xs.map (qg ms)).map PyData.int)):=by
 rw [X9]
 try simp only [Pu.pwA,QJ,dlD]
 rw [JP (ds:=xs.map PyData.int) (fs:=(xs.map (qg ms)).map PyData.int) rfl (by
  rw [map_map];refine ZQ λx hx=>?_
  try simp only [Pu.pwA,EX,qoP hm hl,Function.comp_def]) (by simp;omega)]
 try simp only [Pu.pwA]
def fcI:Nat->List Int->Option Nat
 |_,[]=>none
 |s,b::r=>if 0<s/\b=0 then some s else fcI (s+1) r
def fcD (bs:List Int):PyData:=match fcI 0 bs with|some s=>.int s|none=>.none
def qkg {gf:PyData->Option (List (Nat×PyData))} {bf:Rho->Option Ot} {a b:Sl} (hg:∀ (s:Nat) (x:Int),gf (.tuple [.int s,.int x])=some [(2,.int s),(3,.int x)]) (hb:∀ (s:Nat) (x:Int),bf [a,b,.sh (.int s),.sh (.int x)]=some (if 0<s/\x=0 then .rt (.int s) false else .nx [a,b,.sh (.int s),.sh (.int x)])) :
  ∀ (bs:List Int) (s:Nat) (x y:Sl),match fcI s bs with|some k=>VY gf bf (enD s (bs.map PyData.int)) [a,b,x,y]=some (.rt (.int (k:Int)) false)|none=>∃ x' y',VY gf bf (enD s (bs.map PyData.int)) [a,b,x,y]=some (.nx [a,b,x',y'])
 |[],s,x,y=>⟨x,y,rfl⟩
 |c::bs,s,x,y=>by
  have e:VY gf bf (enD s ((c::bs).map PyData.int)) [a,b,x,y]=(match (if 0<s/\c=0 then Ot.rt (.int s) false else .nx [a,b,.sh (.int s),.sh (.int c)]) with|.nx ρ'=>VY gf bf (enD (s+1) (bs.map PyData.int)) ρ'|.ct ρ'=>VY gf bf (enD (s+1) (bs.map PyData.int)) ρ'|.bk ρ'=>some (.nx ρ')|.rt d b=>some (.rt d b)):=by
   simp only [map_cons,enD,VY,hg,Option.bind_some,V7,set_cons_succ,set_cons_zero,hb]<;>rfl
  unfold fcI;by_cases h:0<s/\c=0
  ·rw [if_pos h] at e ⊢;exact e
  ·rw [if_neg h] at e ⊢;have ih:=qkg hg hb bs (s+1) (.sh (.int s)) (.sh (.int c));simp only at e;cases h2:fcI (s+1) bs with
   |some k=>rw [h2] at ih;simp only at ih ⊢;rw [e];exact ih
   |none=>rw [h2] at ih;simp only at ih ⊢;rw [e];exact ih
def qoK {h l:Nat} {ms ks:List Int} (hm:∀ m∈ms,0<=m/\m<2 ^ 64) (hl:ms.length<=30) (lk:ks.length<=8):zg [dlD (.bits h l ms),.list (ks.map PyData.int)]=some (fcD ((fl ks).map (qg ms))):=by
 have l8:2 ^ ks.length<=2 ^ 8:=Nat.pow_le_pow_right (by omega) lk;have ln:=KF ks.length ks rfl;rw [W2]
 try simp only [Pu.pwA,QS,qnU lk,qlC (h:=h) (l:=l) hm hl (xs:=fl ks) (by omega)]
 have key:=qkg (gf:=(KA 2 (jJ (gN 2) (jJ (gN 3) KO))).f) (bf:=((sIf (qfh (bTb (bO (opB λi j=>decide (j<i)) (bV 2) (qL 0))) (bTb (bO (VX false) (bV 3) (qL 0)))) (XE 2) UC).f 1000000000)) (a:=.sh (dlD (.bits h l ms))) (b:=.sh (.list (ks.map PyData.int))) (λs x=>rfl) (λs x=>by
  by_cases h1:0<s
  ·have h1':(0:Int)<(s:Int):=by omega
   by_cases h2:x=0
   ·try simp only [Pu.pwA,h1,h1',h2,and_self,if_true]
   ·try simp only [Pu.pwA,h1,h1',h2,and_false,if_false]
  ·have h1':¬ (0:Int)<(s:Int):=by omega
   try simp only [Pu.pwA,h1,h1',false_and,if_false]) ((fl ks).map (qg ms)) 0 .un .un
 unfold fcD;cases e:fcI 0 ((fl ks).map (qg ms)) with
 |some k=>
  rw [e] at key;simp only [Pu.pwA] at key ⊢;rw [key]
  try simp only [Pu.pwA]
 |none=>
  rw [e] at key;obtain ⟨x',y',key⟩:=key;simp only [Pu.pwA] at key ⊢;rw [key]
  try simp only [Pu.pwA]
end Pv
namespace Pv
open PySem L2 L3 Pu
open Bk (pop qW qw qg EN Dl)
def YY:∀ (ms:List Int) (k:Nat),enD k (ms.map PyData.int)=(ms.zipIdx k).map λp=>PyData.tuple [.int (p.2:Int),.int p.1]
 |[],k=>rfl
 |m::ms,k=>by simp only [map_cons,enD,List.zipIdx_cons,YY ms (k+1)]
def NM (n m:Int):∀ (xs:List Int) (t:Nat),qw n t (xs++[m])=qw n t xs+(if qW n m then 2 ^ (t+xs.length) else 0)
 |[],t=>by simp [qw]
 |x::xs,t=>by
  have ih:=NM n m xs (t+1);simp only [cons_append,qw,ih,length_cons];rw [show t+1+xs.length=t+(xs.length+1) by omega];omega
def SI {x:Int} (h:0<=x):Builtin.bitXor x 0=x:=by
 have a:=PyProof.Rows.bitXor_and x 0;have b:=PyProof.Rows.bitAnd_range x (show (0:Int)<=0 by omega);omega
def C4:∀ (n:Nat) (ks:List Int),ks.length=n->(∀ m∈ks,0<=m)->∀ f∈fl ks,0<=f:=by
 intro n;induction n with
 |zero=>intro ks h _ f hf;have:=List.eq_nil_of_length_eq_zero h;subst this;simp [fl] at hf;omega
 |succ n ih=>
  intro ks h hm f hf;obtain ⟨k',m,rfl,hl⟩:=j3 h;rw [ji] at hf;have ih':=ih k' hl λz hz=>hm z (by simp [hz]);rcases List.mem_append.mp hf with hf|hf
  ·exact ih' f hf
  ·obtain ⟨g,hg,rfl⟩:=mem_map.mp hf;exact (zk (ih' g hg) (hm m (by simp))).1
end Pv
namespace Pv
open PySem L2 L3 Pu
open Bk (pop qW qw qg Dl)
def QT (x y:Int):Builtin.bitXor x y=Builtin.bitXor y x:=by
 rw [PyProof.Rows.bitXor_and x y,PyProof.Rows.bitXor_and y x,PyProof.Rows.bitAnd_comm x y];omega
def XT (a:Nat):∀ b:Nat,Builtin.bitXor (a:Int) (b:Int)=((a ^^^ b:Nat):Int):=by
 induction a using Nat.strongRecOn with
 |ind a ih=>
  intro b;by_cases h:a=0
  ·subst h;rw [QT,Nat.zero_xor];exact SI (Int.natCast_nonneg b)
  ·have s:=zk (Int.natCast_nonneg a) (Int.natCast_nonneg b);have i:=ih (a/2) (by omega) (b/2);have d:=Nat.xor_div_two (a:=a) (b:=b);have m:=Nat.xor_mod_two_eq_one (a:=a) (b:=b);rw [← d] at i;have e1:((a/2:Nat):Int)=(a:Int)/2:=by omega
   have e2:((b/2:Nat):Int)=(b:Int)/2:=by omega
   rw [e1,e2] at i;omega
def xor_assoc {x y z:Int} (hx:0<=x) (hy:0<=y) (hz:0<=z):Builtin.bitXor (Builtin.bitXor x y) z=Builtin.bitXor x (Builtin.bitXor y z):=by
 obtain ⟨a,rfl⟩:=Int.eq_ofNat_of_zero_le hx;obtain ⟨b,rfl⟩:=Int.eq_ofNat_of_zero_le hy;obtain ⟨c,rfl⟩:=Int.eq_ofNat_of_zero_le hz;rw [XT,XT,XT,XT,Nat.xor_assoc]
def XO {x y:Int} (hx:0<=x) (hy:0<=y):Builtin.bitXor (Builtin.bitXor x y) y=x:=by
 rw [xor_assoc hx hy hy,PyProof.Rows.bitXor_self,SI hx]
def qeE {x y m:Int} (hx:0<=x) (hy:0<=y) (hm:0<=m) (h:Builtin.bitXor x m=Builtin.bitXor y m):x=y:=by
 rw [← XO hx hm,h,XO hy hm]
def RD {α β:Type} {f:α->β}:∀ {l:List α},(∀ a∈l,∀ b∈l,f a=f b->a=b)->(l.Nodup↔(l.map f).Nodup)
 |[],_=>by simp
 |a::l,h=>by
  have ih:=RD (l:=l) λx hx y hy=>h x (by simp [hx]) y (by simp [hy]);rw [map_cons,List.nodup_cons,List.nodup_cons,ih];refine and_congr_left λ_=>not_congr ⟨λz=>List.mem_map_of_mem z,λz=>?_⟩;obtain ⟨b,hb,e⟩:=mem_map.mp z;rw [← h b (by simp [hb]) a (by simp) e];exact hb
def qkv:∀ (n:Nat) (cs:List Int),cs.length=n->(∀ m∈cs,0<=m)->∀ a∈fl cs,∀ b∈fl cs,Builtin.bitXor a b∈fl cs:=by
 intro n;induction n with
 |zero=>
  intro cs h _ a ha b hb;have:=List.eq_nil_of_length_eq_zero h;subst this;simp [fl] at ha hb ⊢;subst ha;subst hb;exact PyProof.Rows.bitXor_self 0
 |succ n ih=>
  intro cs h hm a ha b hb;obtain ⟨k',m,rfl,hl⟩:=j3 h;have hm':∀ z∈k',0<=z:=λz hz=>hm z (by simp [hz]);have m0:=hm m (by simp);have nn:=C4 n k' hl hm';rw [ji] at ha hb ⊢;rw [List.mem_append] at ha hb ⊢;rcases ha with ha|ha<;>rcases hb with hb|hb
  ·exact .inl (ih k' hl hm' a ha b hb)
  ·obtain ⟨c,hc,rfl⟩:=mem_map.mp hb;refine .inr (mem_map.mpr ⟨_,ih k' hl hm' a ha c hc,?_⟩);exact xor_assoc (nn a ha) (nn c hc) m0
  ·obtain ⟨c,hc,rfl⟩:=mem_map.mp ha;refine .inr (mem_map.mpr ⟨_,ih k' hl hm' b hb c hc,?_⟩);show Builtin.bitXor (Builtin.bitXor b c) m=_;rw [QT _ b];exact xor_assoc (nn b hb) (nn c hc) m0
  ·obtain ⟨c,hc,rfl⟩:=mem_map.mp ha;obtain ⟨d,hd,rfl⟩:=mem_map.mp hb;refine .inl ?_;have:Builtin.bitXor (Builtin.bitXor c m) (Builtin.bitXor d m)=Builtin.bitXor c d:=by
    rw [xor_assoc (nn c hc) m0 (zk (nn d hd) m0).1,QT d m,← xor_assoc m0 m0 (nn d hd),PyProof.Rows.bitXor_self,QT 0 d,SI (nn d hd)]
   rw [this];exact ih k' hl hm' c hc d hd
def qk8:∀ (n:Nat) (cs:List Int),cs.length=n->(∀ m∈cs,0<=m)->¬ (fl cs).Nodup->∃ s,0<s/\(fl cs)[s]?=some 0:=by
 intro n;induction n with
 |zero=>
  intro cs h _ hd;have:=List.eq_nil_of_length_eq_zero h;subst this;simp [fl] at hd
 |succ n ih=>
  intro cs h hm hd;obtain ⟨k',m,rfl,hl⟩:=j3 h;have hm':∀ z∈k',0<=z:=λz hz=>hm z (by simp [hz]);have m0:=hm m (by simp);have nn:=C4 n k' hl hm';have ln:=KF n k' hl;rw [ji] at hd ⊢;by_cases hA:(fl k').Nodup
  ·have hB:((fl k').map λf=>Builtin.bitXor f m).Nodup:=(RD λa ha b hb e=>qeE (nn a ha) (nn b hb) m0 e).mp hA;have:∃ a∈fl k',∃ b∈fl k',a=Builtin.bitXor b m:=by
    apply Classical.byContradiction;intro no;refine hd (List.nodup_append.mpr ⟨hA,hB,λa ha b hb e=>?_⟩);obtain ⟨c,hc,rfl⟩:=mem_map.mp hb;exact no ⟨a,ha,c,hc,e⟩
   obtain ⟨a,ha,b,hb,e⟩:=this;have mm:m∈fl k':=by
    have:Builtin.bitXor a b=m:=by rw [e,QT b m,XO m0 (nn b hb)]
    rw [← this];exact qkv n k' hl hm' a ha b hb
   obtain ⟨s,hs⟩:=List.mem_iff_getElem?.mp mm;have p:=Nat.pow_pos (n:=n) (show 0<2 by omega);refine ⟨2 ^ n+s,by omega,?_⟩;rw [List.getElem?_append_right (by omega),ln,Nat.add_sub_cancel_left,getElem?_map,hs];simp [PyProof.Rows.bitXor_self]
  ·obtain ⟨s,s0,hs⟩:=ih k' hl hm' hA;exact ⟨s,s0,by rw [List.getElem?_append_left (List.getElem?_eq_some_iff.mp hs).1,hs]⟩
def qnI:∀ (n:Nat) (cs:List Int),cs.length=n->∃ r,fl cs=0::r:=by
 intro n;induction n with
 |zero=>intro cs h;have:=List.eq_nil_of_length_eq_zero h;subst this;exact ⟨_,rfl⟩
 |succ n ih=>
  intro cs h;obtain ⟨k',m,rfl,hl⟩:=j3 h;obtain ⟨r,e⟩:=ih k' hl;rw [ji,e];exact ⟨_,rfl⟩
def qfe {ms:List Int} (hms:∀ m∈ms,0<=m):∀ (n:Nat) (ks:List Int),ks.length=n->(∀ m∈ks,0<=m)->(fl ks).map (qg ms)=fl (ks.map (qg ms)):=by
 intro n;induction n with
 |zero=>
  intro ks h _;have:=List.eq_nil_of_length_eq_zero h;subst this;have:qg ms 0=0:=by
   have:=XQ (x:=0) (y:=0) (by omega) (by omega) ms hms;rw [PyProof.Rows.bitXor_self,PyProof.Rows.bitXor_self] at this;exact this.symm
  simp [fl,this]
 |succ n ih=>
  intro ks h hm;obtain ⟨k',m,rfl,hl⟩:=j3 h;have hm':∀ z∈k',0<=z:=λz hz=>hm z (by simp [hz]);rw [List.map_append,map_cons,List.map_nil,ji,ji,List.map_append,ih k' hl hm'];congr 1;rw [← ih k' hl hm',map_map,map_map];refine List.map_congr_left λf hf=>?_;exact (XQ (C4 n k' hl hm' f hf) (hm m (by simp)) ms hms).symm
def zs (s:Nat) (bs:List Int):List Nat:=((bs.zipIdx s).filter λp=>decide (p.1=0)).map (·.2)
def qac:∀ (bs:List Int) (s:Nat),0<s->fcI s bs=(zs s bs).head?
 |[],s,_=>rfl
 |b::r,s,h=>by
  by_cases hb:b=0
  ·simp [fcI,zs,List.zipIdx_cons,hb,h]
  ·have:=qac r (s+1) (by omega);simp only [fcI,hb,and_false,if_false,this,zs,List.zipIdx_cons,decide_false,List.filter_cons];simp
def qaB:∀ (bs:List Int) (s:Nat),(∀ b∈bs,b≠0)->zs s bs=[]
 |[],s,_=>rfl
 |b::r,s,h=>by
  have hb:=h b (by simp);have:=qaB r (s+1) λx hx=>h x (by simp [hx]);simp only [zs,List.zipIdx_cons,List.filter_cons,hb,decide_false] at this ⊢;simpa using this
def R7 {cs:List Int} (hm:∀ m∈cs,0<=m):(fl cs).Nodup↔fcI 0 (fl cs)=none:=by
 obtain ⟨r,e⟩:=qnI cs.length cs rfl;constructor
 ·intro h;rw [e] at h ⊢;rw [List.nodup_cons] at h;simp only [fcI,Nat.lt_irrefl,false_and,if_false];rw [qac r 1 (by omega),qaB r 1 λb hb z=>h.1 (z▸hb)];rfl
 ·intro h;apply Classical.byContradiction;intro nd;obtain ⟨s,s0,hs⟩:=qk8 cs.length cs rfl hm nd;have key:∀ (bs:List Int) (k s:Nat),0<k->bs[s]?=some 0->fcI k bs≠none:=by
   intro bs;induction bs with
   |nil=>intro k s _ z;simp at z
   |cons b bs ih=>
    intro k s hk z;unfold fcI;by_cases hb:b=0
    ·simp [hb,hk]
    ·simp only [hb,and_false,if_false];cases s with
     |zero=>simp at z;exact absurd z hb
     |succ s=>exact ih (k+1) s (by omega) (by simpa using z)
  rw [e] at h hs;obtain ⟨t,rfl⟩:∃ t,s=t+1:=⟨s-1,by omega⟩
  simp only [fcI,Nat.lt_irrefl,false_and,if_false] at h;exact key r 1 t (by omega) (by simpa using hs) h
end Pv
namespace Hd
open PySem L2 L3 PySem.W
def oF (x:Str) (st:Stmt) (pm cd:Value):Obj:=⟨.type "function",none,.func (PySem.W.fnOf x x (ZV st) (jh st) (qi st) .none .none .none pm none cd .none),#[]⟩
def oG (x:Str) (st:Stmt):Obj:=⟨.none,none,.func { name:=x,qualname:=x,params:=ZV st,body:=.stmts (jh st),scope:=qi st,globals:=0,closure:=[],defaults:=.none,kwdefaults:=.none },#[]⟩
def oC (vs:List Value):Obj:=⟨.type "code",none,.fields vs.toArray,#[]⟩
def oT (vs:List Value):Obj:=⟨.type "tuple",none,.seq vs.toArray 0,#[]⟩
def eD (P:Params):Value×Value->DictEntry
 | (.str x t,v)=>⟨PyData.keyHash P x,.str x t,v⟩
 | (u,v)=>⟨0,u,v⟩
def oD (P:Params) (n:Nat) (es:List (Value×Value)):Obj:=⟨.type "dict",none,.dict (es.map (eD P)).toArray n,#[]⟩
def oK (x:Str) (t l n m:Nat) (a b:Addr) (u v z:Value) (e y q:Nat):Obj:=oC [.str x t,.str x (t+1),.str "/claim/cut.py" (t+2),.int l 0,.int n 0,.int 0 0,.int 0 0,.int 3 0,.ref a,.bool true,.int m 0,.ref b,u,v,z,.ref e,.int y 0,.int l 0,.str "/claim/cut.py" q]
def nmV:List Str->Nat->List Value
 |[],_=>[]
 |x::r,t=>.str x t::nmV r (t+1)
def oN (xs:List Str) (t:Nat):Obj:=oT (nmV xs t)
abbrev nd (o:Obj) (l r:PySem.W.BT):PySem.W.BT:=.node o l r
abbrev lf (o:Obj):PySem.W.BT:=.node o .nil .nil
def jm {K:Frg} (x:Str) (st:Stmt) (f:Addr) (pm cd:Value) (l:K.lookup f=some (oF x st pm cd)) (c:PySem.W.codeIn K cd x=true) (k:PySem.W.keepIn K (.ref f)=true) :
  Fun K x x st f (PySem.W.fnOf x x (ZV st) (jh st) (qi st) .none .none .none pm none cd .none):=qie l c k
def jl {K:Frg} {h:Heap} {mg:Str->Option Value} (X:K.In h) (G:h.Ns mainGlobals mg) (n:Str) (v:Value) (e:PySem.W.nsIn K mainGlobals n=some (some v)):mg n=some v:=PySem.W.mg_of X G e
def UM {K:Frg} {h:Heap} {mg:Str->Option Value} (X:K.In h) (G:h.Ns mainGlobals mg) (n:Str) (e:PySem.W.nsIn K mainGlobals n=some none):mg n=none:=PySem.W.mg_none_of X G e
def head {l:OpenLaw} {q:Program} {loose:List Str} {K:Params->Frag} {as:List Addr} {d:DefRec} {N:Nat} {k:Nat} {x:Str} (ha:∀ P,as=(K P).map (·.1))
  (ok:l.wellSaid=true)
  (left:LeftO l.prog q loose (λs=>xlAt q [] s&&recOk [] s) (λs=>as.map s.heap.get?) (λw=>(K w.params).map λp=>some p.2) N)
  (hdef:defOf q l.name=some (d,[])) (hp:l.prog.theDef l.name=some (d.params,d.body,d.scope)) (hk:kwWritten? d.params.kwonlyargs d.params.kw_defaults=some [])
  (hwr:(!l.row.writes||l.row.records.isEmpty)=true) (ok2:(chainsOk q&&opensWell l.prog&&(frees l.row.toRowW&&l.row.within.isEmpty))=true) (hb:l.prog.bare) (hw:l.row.toRowW.promised)
  (hn:l.most=some 63) (hdf:d.params.defaults=[]) (hr:Room k callerA) (hK:∀ w:World,V2 (K w.params)=true)
  (F:∀ (w:World) (mg:Str->Option Value) (fa:Addr) (h:Heap),(K w.params).In h->h.Ns mainGlobals mg->mg d.name=some (.ref fa) ->
   ∃ fd:FuncData,(∀ (s:Shared) (u:Value),BindsTo s fd ⟨[u],[]⟩ [(x,u)])/\∀ base:Heap,(K w.params).In base->base.Ns mainGlobals mg->FnOk l.prog w (K w.params) mg base CX0 k fa fd [x] (lSp (K w.params) WE)):l.Holds:=by
 refine holds_law ok λsaid=>?_;exact holds_open (q:=q) (loose:=loose) (Xt:=λs=>xlAt q [] s&&recOk [] s) (XP:=XL q []) (Yf:=Hook.obs (kHook K as ha)) (Ya:=Hook.val (kHook K as ha)) (YP:=Hook.says (kHook K as ha)) (N:=N) left
  (Hook.of (kHook K as ha)) (Hook.keeps (kHook K as ha)) (λs e=>xl_of s (Bool.and_eq_true_iff.mp e).1) XL.keeps hdef hp hk (λs e=>recFacts_of (Bool.and_eq_true_iff.mp e).2) hwr said ok2 hb hw
  (L3.qm8 (l:=l) (k:=k) (x:=x) hn hdf hr (λw h Y=>kIn_of Y) hK F)
end Hd
namespace K33
open PySem L2 L3 Bk
def top (i : Nat) : Stmt := PySem.Challenge.pw_bankwalk_k33_flip_papers_spoilt_anywhere.main.body.getD i (.Pass ⟨0,0,0,0⟩)
variable {P:Program} {w:World} {K:Frg} {mg:Str->Option Value} {base:Heap} {f:Addr} {fd:FuncData} {k:Nat} {sp:Sp3}
abbrev jF:Stmt:=top 1
abbrev j7:List Str:=["thing"]
abbrev Y0:List Str:=["thing"]
def C0:FnScope j7 Y0 (qi jF):=⟨rfl,rfl,rfl,by decide +kernel,rfl,by decide +kernel,by decide +kernel⟩
def CQ (F:Fun K "is_number" "is_number" jF f fd) (bd:zB K fd Y0 []) (hm:mg "is_number" = some (.ref f))  (m_isinstance:mg "isinstance" = none) (m_bool:mg "bool" = none) (m_int:mg "int" = none)
  (read:Rd sp 1 (Bk.zI) j7):Fn3 P w K mg base (k+1) "is_number" sp:=
 qJ (t3:=(Bk.zI)) F C0 bd hm (λcdv A outer s H E hr=>(qm (qB (K0 (YJ (qb 0) rfl m_isinstance rfl m_int PyProof.Rows.boot_int) (TY (qc6 (YJ (qb 0) rfl m_isinstance rfl m_bool PyProof.Rows.boot_bool))))))) read
abbrev qU:Stmt:=top 2
abbrev zf:List Str:=["thing","end"]
abbrev ju:List Str:=["thing","end"]
def VP:FnScope zf ju (qi qU):=⟨rfl,rfl,rfl,by decide +kernel,rfl,by decide +kernel,by decide +kernel⟩
def zQ (S_is_number:Sp3):TS3:=(zX (S0 (cb3 S_is_number (qc (v3 0) qq)) (ch3 (iB λi j=>decide (i<=j)) (iB λi j=>decide (i<j)) (c3 (.int 0)) (v3 0) (v3 1))))
def VR {S_is_number:Sp3} (F:Fun K "is_number_below" "is_number_below" qU f fd) (bd:zB K fd ju []) (hm:mg "is_number_below" = some (.ref f)) (zj:Fn3 P w K mg base k "is_number" S_is_number) 
  (read:Rd sp 2 (zQ S_is_number) zf):Fn3 P w K mg base (k+1) "is_number_below" sp:=
 qJ (t3:=(zQ S_is_number)) F VP bd hm (λcdv A outer s H E hr=>(qm (qB (K0 (qj zj hr rfl (qa (qb 0) qd)) (TY (qb1 qh0 jK qcb jK qe (qb 0) (qb 1))))))) read
abbrev zq:Stmt:=top 4
abbrev j4:List Str:=["number","mask","common","many"]
abbrev jU:List Str:=["number","mask"]
def zo:FnScope j4 jU (qi zq):=⟨rfl,rfl,rfl,by decide +kernel,rfl,by decide +kernel,by decide +kernel⟩
def U7 (F:Fun K "odd_in_common" "odd_in_common" zq f fd) (bd:zB K fd jU []) (hm:mg "odd_in_common" = some (.ref f))  
  (read:Rd sp 2 (Bk.z9) j4):Fn3 P w K mg base (k+1) "odd_in_common" sp:=
 qJ (t3:=(Bk.z9)) F zo bd hm (λcdv A outer s H E hr=>(qh (qu 2 zo.nd (DJ (qb 0) (qb 1))) (qh (qu 3 zo.nd qe) (qh (qbz PassesOwn.never (qV XX jK (qb 2) qe (qG _)) (qh (qaJ 3 zo.nd (DJ (qb 2) qe)) (qm (qu 2 zo.nd (qiu (qb 2) qe))))) (qm (qB (JW (ZB hr.units) jr (DJ (qb 3) qe) qe (qG _)))))))) read
abbrev jz:Stmt:=top 5
abbrev E6:List Str:=["masks","number"]
abbrev Y6:List Str:=["masks","number"]
def RK:FnScope E6 Y6 (qi jz):=⟨rfl,rfl,rfl,by decide +kernel,rfl,by decide +kernel,by decide +kernel⟩
def RJ {S_odd_in_common:Sp3} (F:Fun K "bits_bank" "bits_bank" jz f fd) (bd:zB K fd Y6 []) (hm:mg "bits_bank" = some (.ref f)) (qk:Fn3 P w K mg base k "odd_in_common" S_odd_in_common) (m_enumerate:mg "enumerate" = none) (m_sum:mg "sum" = none)
  (read:Rd sp 2 (Bk.ZU S_odd_in_common) E6):Fn3 P w K mg base (k+1) "bits_bank" sp:=
 qJ (t3:=(Bk.ZU S_odd_in_common)) F RK bd hm (λcdv A outer s H E hr=>(qm (qB (qK (XV rfl) qgb rfl m_sum PyProof.Rows.boot_sum (qa (E9 ["t","mask","number"] [none,none,some 1] rfl (J1 rfl m_enumerate (qa (qb 0) qd)) (λ_ _ _=>(VD rfl (zt (jgn 0) (zt (jgn 1) VJ)))) (λ_ _ _=>qcF (Q7 (qj qk hr rfl (qa (qb 2) (qa (qb 1) qd))))) (λ_ _ _=>(NR qe (qb 0))) (by kernel_rfl) (by kernel_rfl)) qd))))) read
abbrev VS:Stmt:=top 7
abbrev qai:List Str:=["marks","told","mark"]
abbrev SF:List Str:=["marks"]
def EJ:FnScope qai SF (qi VS):=⟨rfl,rfl,rfl,by decide +kernel,rfl,by decide +kernel,by decide +kernel⟩
def qbp (F:Fun K "flips" "flips" VS f fd) (bd:zB K fd SF []) (hm:mg "flips" = some (.ref f))  
  (read:Rd sp 1 (Pv.W8) qai):Fn3 P w K mg base (k+1) "flips" sp:=
 qJ (t3:=(Pv.W8)) F EJ bd hm (λcdv A outer s H E hr=>(qh (qu 1 EJ.nd (z7 (qa qe qd))) (qh (QY PassesOwn.never rfl (J4 (qb 0)) (qS (i:=2) (EJ.nd)) (qm (qu 1 EJ.nd (zO (qb 1) (E9 ["flip","mark"] [none,some 2] rfl (J4 (qb 1)) (λ_ _ _=>(jgn 0)) (λ_ _ _=>YG) (λ_ _ _=>(N9 (qb 0) (qb 1))) (by kernel_rfl) (by kernel_rfl)))))) (qm (qB (qb 1)))))) read
abbrev J0:Stmt:=top 8
abbrev VV:List Str:=["numbers","kept","number","left","stair"]
abbrev X0:List Str:=["numbers"]
def Q6:FnScope VV X0 (qi J0):=⟨rfl,rfl,rfl,by decide +kernel,rfl,by decide +kernel,by decide +kernel⟩
def EI:TS3:=(qQ (qX (ED qq) (gn3 1)) (qQ (ER (JC (v3 0)) (gn3 2) (qQ (qX (v3 2) (gn3 3)) (qQ (ER (JC (v3 1)) (gn3 4) (qX (cb3 qgd (qc (v3 3) (qc (o3 (iI Builtin.bitXor) (v3 3) (v3 4)) qq))) (gn3 3))) (YF (tb3 (o3 (iB λi j=>decide (j<i)) (v3 3) (c3 (.int 0)))) (DI (bm3 qbc (v3 1) (qc (v3 3) qq))) zR)))) (zX (v3 1))))
def qaW (F:Fun K "stairs" "stairs" J0 f fd) (bd:zB K fd X0 []) (hm:mg "stairs" = some (.ref f))  (m_min:mg "min" = none)
  (read:Rd sp 1 (EI) VV):Fn3 P w K mg base (k+1) "stairs" sp:=
 qJ (t3:=(EI)) F Q6 bd hm (λcdv A outer s H E hr=>(qh (qu 1 Q6.nd (z7 qd)) (qh (QY PassesOwn.never rfl (J4 (qb 0)) (qS (i:=2) (Q6.nd)) (qh (qu 3 Q6.nd (qb 2)) (qh (QY PassesOwn.never rfl (J4 (qb 1)) (qS (i:=4) (Q6.nd)) (qm (qu 3 Q6.nd (qK (CV rfl) MB rfl m_min PyProof.Rows.boot_min (qa (qb 3) (qa (N9 (qb 3) (qb 4)) qd)))))) (qm (jP (qV XX jK (qb 3) qe (qG _)) (qm (SB (C9 (qb 1) (qa (qb 3) qd)))) zT))))) (qm (qB (qb 1)))))) read
abbrev jc:Stmt:=top 9
abbrev U0:List Str:=["dealing","marks"]
abbrev JK:List Str:=["dealing","marks"]
def XN:FnScope U0 JK (qi jc):=⟨rfl,rfl,rfl,by decide +kernel,rfl,by decide +kernel,by decide +kernel⟩
def WV {S_bits_bank:Sp3} (F:Fun K "mark_banks" "mark_banks" jc f fd) (bd:zB K fd JK []) (hm:mg "mark_banks" = some (.ref f)) (qO:Fn3 P w K mg base k "bits_bank" S_bits_bank) 
  (read:Rd sp 2 (Pv.QP S_bits_bank) U0):Fn3 P w K mg base (k+1) "mark_banks" sp:=
 qJ (t3:=(Pv.QP S_bits_bank)) F XN bd hm (λcdv A outer s H E hr=>(qm (qB (E9 ["mark","dealing"] [none,some 0] rfl (J4 (qb 1)) (λ_ _ _=>(jgn 0)) (λ_ _ _=>YG) (λ_ _ _=>(qj qO hr rfl (qa (zA (qb 1) qe) (qa (qb 0) qd)))) (by kernel_rfl) (by kernel_rfl))))) read
abbrev jd:Stmt:=top 10
abbrev JJ:List Str:=["dealing","marks","s","bank"]
abbrev JQ:List Str:=["dealing","marks"]
def Z6:FnScope JJ JQ (qi jd):=⟨rfl,rfl,rfl,by decide +kernel,rfl,by decide +kernel,by decide +kernel⟩
def CB {S_flips:Sp3} {S_mark_banks:Sp3} (F:Fun K "flip_clash" "flip_clash" jd f fd) (bd:zB K fd JQ []) (hm:mg "flip_clash" = some (.ref f)) (zM:Fn3 P w K mg base k "flips" S_flips) (qo:Fn3 P w K mg base k "mark_banks" S_mark_banks) (m_enumerate:mg "enumerate" = none)
  (read:Rd sp 2 (Pv.QK S_flips S_mark_banks) JJ):Fn3 P w K mg base (k+1) "flip_clash" sp:=
 qJ (t3:=(Pv.QK S_flips S_mark_banks)) F Z6 bd hm (λcdv A outer s H E hr=>(qh (QY PassesOwn.never rfl (J1 rfl m_enumerate (qa (qj qo hr rfl (qa (qb 0) (qa (qj zM hr rfl (qa (qb 1) qd)) qd))) qd)) (VD rfl (zt (qS (i:=2) (Z6.nd)) (zt (qS (i:=3) (Z6.nd)) VJ))) (qm (jP (jpt (CW (qV XX jK (qb 2) qe (qG _)) (WW (qV (ZB hr.units) jr (qb 3) qe (qG _))))) (qm (qB (qb 2))) zT))) (qm (qB U5)))) read
abbrev zV:Stmt:=top 11
abbrev jS:List Str:=["number","banks","at"]
abbrev Z0:List Str:=["number","banks","at"]
def D0:FnScope jS Z0 (qi zV):=⟨rfl,rfl,rfl,by decide +kernel,rfl,by decide +kernel,by decide +kernel⟩
def jR (S_odd_in_common:Sp3):TS3:=(zX (cb3 qeI (qc (lc3 (J3 (qc (v3 1) qq)) (V3 2 (zJ (gn3 0) (zJ (gn3 1) UR))) tt3 (o3 (YO false) (cb3 S_odd_in_common (qc (v3 2) (qc (v3 1) qq))) (o3 (YO false) (v3 0) (v3 3))) [none,none,some 0,some 2]) qq)))
def DY {S_odd_in_common:Sp3} (F:Fun K "tells_apart" "tells_apart" zV f fd) (bd:zB K fd Z0 []) (hm:mg "tells_apart" = some (.ref f)) (qk:Fn3 P w K mg base k "odd_in_common" S_odd_in_common) (m_enumerate:mg "enumerate" = none) (m_all:mg "all" = none)
  (read:Rd sp 3 (jR S_odd_in_common) jS):Fn3 P w K mg base (k+1) "tells_apart" sp:=
 qJ (t3:=(jR S_odd_in_common)) F D0 bd hm (λcdv A outer s H E hr=>(qm (qB (qK (Q1 rfl) R8 rfl m_all PyProof.Rows.boot_all (qa (E9 ["t","bank","number","at"] [none,none,some 0,some 2] rfl (J1 rfl m_enumerate (qa (qb 1) qd)) (λ_ _ _=>(VD rfl (zt (jgn 0) (zt (jgn 1) VJ)))) (λ_ _ _=>YG) (λ_ _ _=>(JW (ZB hr.units) jr (qj qk hr rfl (qa (qb 2) (qa (qb 1) qd))) (JW (ZB hr.units) jr (qb 0) (qb 3) (qG _)) (qG _))) (by kernel_rfl) (by kernel_rfl)) qd))))) read
abbrev jb:Stmt:=top 12
abbrev QZ:List Str:=["dealing","marks","banks","tried"]
abbrev JY:List Str:=["dealing","marks"]
def ZW:FnScope QZ JY (qi jb):=⟨rfl,rfl,rfl,by decide +kernel,rfl,by decide +kernel,by decide +kernel⟩
def QV (S_flip_clash:Sp3) (S_mark_banks:Sp3) (S_stairs:Sp3) (S_flips:Sp3) (S_tells_apart:Sp3):TS3:=(qQ (YF (tb3 (o3 (qbi true) (cb3 S_flip_clash (qc (v3 0) (qc (v3 1) qq))) (c3 .non))) (zX (c3 .non)) zR) (qQ (qX (cb3 S_mark_banks (qc (v3 0) (qc (v3 1) qq))) (gn3 2)) (qQ (qX (cb3 S_flips (qc (lc3 (JC (cb3 S_stairs (qc (v3 2) qq))) (gn3 0) tt3 (o3 (iC W7 (λi j=>i*2 ^ j.toNat)) (c3 (.int 1)) (o3 (iI (·-·)) (bl3 (v3 0)) (c3 (.int 1)))) [none]) qq)) (gn3 3)) (zX (lc3 (Y8 (qc (cb3 DX (qc (v3 2) qq)) qq)) (gn3 0) tt3 (o3 ix3 (lc3 (JC (v3 1)) (gn3 0) (tb3 (cb3 S_tells_apart (qc (v3 0) (qc (v3 1) (qc (v3 2) qq))))) (v3 0) [none,some 2,some 0]) (c3 (.int 0))) [none,some 3,some 2])))))
def XA {S_flip_clash:Sp3} {S_mark_banks:Sp3} {S_stairs:Sp3} {S_flips:Sp3} {S_tells_apart:Sp3} (F:Fun K "flip_paper" "flip_paper" jb f fd) (bd:zB K fd JY []) (hm:mg "flip_paper" = some (.ref f)) (zg:Fn3 P w K mg base k "flip_clash" S_flip_clash) (qo:Fn3 P w K mg base k "mark_banks" S_mark_banks) (QM:Fn3 P w K mg base k "stairs" S_stairs) (zM:Fn3 P w K mg base k "flips" S_flips) (qz:Fn3 P w K mg base k "tells_apart" S_tells_apart) (m_len:mg "len" = none) (m_range:mg "range" = none)
  (read:Rd sp 2 (QV S_flip_clash S_mark_banks S_stairs S_flips S_tells_apart) QZ):Fn3 P w K mg base (k+1) "flip_paper" sp:=
 qJ (t3:=(QV S_flip_clash S_mark_banks S_stairs S_flips S_tells_apart)) F ZW bd hm (λcdv A outer s H E hr=>(qh (jP (qV XF EK (qj zg hr rfl (qa (qb 0) (qa (qb 1) qd))) U5 (qG _)) (qm (qB U5)) zT) (qh (qu 2 ZW.nd (qj qo hr rfl (qa (qb 0) (qa (qb 1) qd)))) (qh (qu 3 ZW.nd (qj zM hr rfl (qa (E9 ["stair"] [none] rfl (J4 (qj QM hr rfl (qa (qb 2) qd))) (λ_ _ _=>(jgn 0)) (λ_ _ _=>YG) (λ_ _ _=>(NR qe (CH (qaG (qb 0)) qe))) (by kernel_rfl) (by kernel_rfl)) qd))) (qm (qB (E9 ["t","tried","banks"] [none,some 3,some 2] rfl (QA rfl m_range (qa (qK zS jt rfl m_len PySem.boot_len (qa (qb 2) qd)) qd) (h1:=by intro _ _ _ h;simpa [qc,qq] using h)) (λ_ _ _=>(jgn 0)) (λ_ _ _=>YG) (λ_ _ _=>(zA (E9 ["number","banks","t"] [none,some 2,some 0] rfl (J4 (qb 1)) (λ_ _ _=>(jgn 0)) (λ_ _ _=>qcF (Q7 (qj qz hr rfl (qa (qb 0) (qa (qb 1) (qa (qb 2) qd)))))) (λ_ _ _=>(qb 0)) (by kernel_rfl) (by kernel_rfl)) qe)) (by kernel_rfl) (by kernel_rfl)))))))) read
abbrev zW:Stmt:=top 13
abbrev jN:List Str:=["dealing","marks","thing","banks"]
abbrev ZM:List Str:=["dealing","marks","thing"]
def YI:FnScope jN ZM (qi zW):=⟨rfl,rfl,rfl,by decide +kernel,rfl,by decide +kernel,by decide +kernel⟩
def jL (S_is_number_below:Sp3) (S_mark_banks:Sp3) (S_tells_apart:Sp3):TS3:=(qQ (YF (or3 (LC (tb3 (C8 (λt=>zL t "list") (v3 2)))) (tb3 (o3 (YO true) (cb3 DX (qc (v3 2) qq)) (cb3 DX (qc (v3 1) qq))))) (zX (c3 (.bl false))) zR) (qQ (YF (LC (tb3 (cb3 qeI (qc (lc3 (JC (v3 2)) (gn3 0) tt3 (cb3 S_is_number_below (qc (v3 0) (qc (o3 (iC W7 (λi j=>i*2 ^ j.toNat)) (c3 (.int 1)) (cb3 DX (qc (o3 ix3 (v3 1) (c3 (.int 3))) qq))) qq))) [none,some 0]) qq)))) (zX (c3 (.bl false))) zR) (qQ (qX (cb3 S_mark_banks (qc (v3 0) (qc (v3 1) qq))) (gn3 3)) (zX (cb3 qeI (qc (lc3 (J3 (qc (v3 2) qq)) (V3 2 (zJ (gn3 0) (zJ (gn3 1) UR))) tt3 (cb3 S_tells_apart (qc (v3 1) (qc (v3 2) (qc (v3 0) qq)))) [none,none,some 3]) qq))))))
def DS {S_is_number_below:Sp3} {S_mark_banks:Sp3} {S_tells_apart:Sp3} (F:Fun K "shows_flips" "shows_flips" zW f fd) (bd:zB K fd ZM []) (hm:mg "shows_flips" = some (.ref f)) (qy:Fn3 P w K mg base k "is_number_below" S_is_number_below) (qo:Fn3 P w K mg base k "mark_banks" S_mark_banks) (qz:Fn3 P w K mg base k "tells_apart" S_tells_apart) (m_len:mg "len" = none) (m_isinstance:mg "isinstance" = none) (m_list:mg "list" = none) (m_all:mg "all" = none) (m_enumerate:mg "enumerate" = none)
  (read:Rd sp 3 (jL S_is_number_below S_mark_banks S_tells_apart) jN):Fn3 P w K mg base (k+1) "shows_flips" sp:=
 qJ (t3:=(jL S_is_number_below S_mark_banks S_tells_apart)) F YI bd hm (λcdv A outer s H E hr=>(qh (jP (jpt (SX (UV (Q7 (YJ (qb 2) rfl m_isinstance rfl m_list PyProof.Rows.boot_list))) (WJ (qV (VU hr.units) Z7 (qK zS jt rfl m_len PySem.boot_len (qa (qb 2) qd)) (qK zS jt rfl m_len PySem.boot_len (qa (qb 1) qd)) (qG _))))) (qm (qB UD)) zT) (qh (jP (UV (Q7 (qK (Q1 rfl) R8 rfl m_all PyProof.Rows.boot_all (qa (E9 ["number","dealing"] [none,some 0] rfl (J4 (qb 2)) (λ_ _ _=>(jgn 0)) (λ_ _ _=>YG) (λ_ _ _=>(qj qy hr rfl (qa (qb 0) (qa (NR qe (qK zS jt rfl m_len PySem.boot_len (qa (zA (qb 1) qe) qd))) qd)))) (by kernel_rfl) (by kernel_rfl)) qd)))) (qm (qB UD)) zT) (qh (qu 3 YI.nd (qj qo hr rfl (qa (qb 0) (qa (qb 1) qd)))) (qm (qB (qK (Q1 rfl) R8 rfl m_all PyProof.Rows.boot_all (qa (E9 ["t","number","banks"] [none,none,some 3] rfl (J1 rfl m_enumerate (qa (qb 2) qd)) (λ_ _ _=>(VD rfl (zt (jgn 0) (zt (jgn 1) VJ)))) (λ_ _ _=>YG) (λ_ _ _=>(qj qz hr rfl (qa (qb 1) (qa (qb 2) (qa (qb 0) qd))))) (by kernel_rfl) (by kernel_rfl)) qd)))))))) read
abbrev Q8:Stmt:=top 15
abbrev DF:List Str:=["_law_cell","_law_k","_law_m"]
abbrev DE:List Str:=["_law_cell","_law_k"]
def WA:FnScope DF DE (qi Q8):=⟨rfl,rfl,rfl,by decide +kernel,rfl,by decide +kernel,by decide +kernel⟩
def LU (F:Fun K "_law_mix" "_law_mix" Q8 f fd) (bd:zB K fd DE []) (hm:mg "_law_mix" = some (.ref f))  
  (read:Rd sp 2 (Bk.VF) DF):Fn3 P w K mg base (k+1) "_law_mix" sp:=
 qJ (t3:=(Bk.VF)) F WA bd hm (λcdv A outer s H E hr=>(qh (qu 2 WA.nd (UT (ES (zO (zO (UT (qb 0) qe) (ES (ES (qb 1) (qb 1)) qe)) qe) qe) qe)) (qm (qB (UT (ES (qb 2) (qb 2)) qe))))) read
abbrev j9:Stmt:=top 16
abbrev UF:List Str:=["_law_script","_law_k","_law_cell","_law_own"]
abbrev UI:List Str:=["_law_script","_law_k"]
def YX:FnScope UF UI (qi j9):=⟨rfl,rfl,rfl,by decide +kernel,rfl,by decide +kernel,by decide +kernel⟩
def SK (F:Fun K "_law_left" "_law_left" j9 f fd) (bd:zB K fd UI []) (hm:mg "_law_left" = some (.ref f))  (m_len:mg "len" = none) (m_abs:mg "abs" = none)
  (read:Rd sp 2 (Bk.YA) UF):Fn3 P w K mg base (k+1) "_law_left" sp:=
 qJ (t3:=(Bk.YA)) F YX bd hm (λcdv A outer s H E hr=>(qh (qu 2 YX.nd (qem (qV qcb jK (qb 1) (qK zS jt rfl m_len PySem.boot_len (qa (qb 0) qd)) (qG _)) (zA (qb 0) (qb 1)) qe)) (qh (qu 3 YX.nd (qem (qV qmg jK (qK T7 qaF rfl m_abs PyProof.Rows.boot_abs (qa (qb 2) qd)) (qjP qe qe) (qG _)) (qK T7 qaF rfl m_abs PyProof.Rows.boot_abs (qa (qb 2) qd)) qe)) (qm (qB (z7 (qa (qb 3) (qa (zO (qb 2) (ES qe (qb 1))) (qa qe qd))))))))) read
abbrev j5:Stmt:=top 17
abbrev UE:List Str:=["_law_left_here","_law_many","_law_digit"]
abbrev UG:List Str:=["_law_left_here","_law_many"]
def DA:FnScope UE UG (qi j5):=⟨rfl,rfl,rfl,by decide +kernel,rfl,by decide +kernel,by decide +kernel⟩
def R0 {S_law_mix:Sp3} (F:Fun K "_law_pick" "_law_pick" j5 f fd) (bd:zB K fd UG []) (hm:mg "_law_pick" = some (.ref f)) (F_law_mix:Fn3 P w K mg base k "_law_mix" S_law_mix) 
  (read:Rd sp 2 (Bk.J9 S_law_mix) UE):Fn3 P w K mg base (k+1) "_law_pick" sp:=
 qJ (t3:=(Bk.J9 S_law_mix)) F DA bd hm (λcdv A outer s H E hr=>(qh (KT (zO (zA (qb 0) qe) qe) (qar (qb 0) qe)) (qh (jP (qV XX jK (zA (qb 0) qe) qe (qG _)) (qh (qu 2 DA.nd (UT (zA (qb 0) qe) (qb 1))) (qh (KT (MM (zA (qb 0) qe) (qb 1)) (qar (qb 0) qe)) (qm (qB (qb 2))))) zT) (qm (qB (UT (MM (qj F_law_mix hr rfl (qa (qj F_law_mix hr rfl (qa (zA (qb 0) qe) (qa (zA (qb 0) qe) qd))) (qa (zO (zA (qb 0) qe) qe) qd))) qe) (qb 1))))))) read
abbrev ZE:Stmt:=top 18
abbrev JO:List Str:=["_law_t"]
abbrev ET:List Str:=["_law_t"]
def LF:FnScope JO ET (qi ZE):=⟨rfl,rfl,rfl,by decide +kernel,rfl,by decide +kernel,by decide +kernel⟩
def VB:TS3:=(zX (o3 ix3 (ED (qc (c3 (.int 1)) (qc (c3 (.int 2)) (qc (c3 (.int 4)) (qc (c3 (.int 8)) (qc (c3 (.int 16)) (qc (c3 (.int 32)) (qc (c3 (.int 64)) (qc (c3 (.int 128)) (qc (c3 (.int 256)) qq)))))))))) (v3 0)))
def K9 (F:Fun K "_law_two" "_law_two" ZE f fd) (bd:zB K fd ET []) (hm:mg "_law_two" = some (.ref f))  
  (read:Rd sp 1 (VB) JO):Fn3 P w K mg base (k+1) "_law_two" sp:=
 qJ (t3:=(VB)) F LF bd hm (λcdv A outer s H E hr=>(qm (qB (zA (z7 (qa qe (qa qe (qa qe (qa qe (qa qe (qa qe (qa qe (qa qe (qa qe qd)))))))))) (qb 0))))) read
abbrev jG:Stmt:=top 19
abbrev j6:List Str:=["_law_left_here","_law_most","_law_size","_law_found","_law_turn","_law_way","_law_mark"]
abbrev YN:List Str:=["_law_left_here","_law_most","_law_size"]
def zE:FnScope j6 YN (qi jG):=⟨rfl,rfl,rfl,by decide +kernel,rfl,by decide +kernel,by decide +kernel⟩
def ZK (S_law_pick:Sp3):TS3:=(qQ (qX (ED qq) (gn3 3)) (qQ (ER (Y8 (qc (o3 (iC WR (·*·)) (cb3 S_law_pick (qc (v3 0) (qc (o3 JT (v3 1) (c3 (.int 1))) qq))) (cb3 qge (qc (o3 (iB λi j=>decide (j<i)) (v3 2) (c3 (.int 1))) qq))) qq)) (gn3 4) (qQ (qX (cb3 S_law_pick (qc (v3 0) (qc (c3 (.int 8)) qq))) (gn3 5)) (qQ (qX (o3 JT (c3 (.int 1)) (cb3 S_law_pick (qc (v3 0) (qc (o3 (iI (·-·)) (v3 2) (c3 (.int 1))) qq)))) (gn3 6)) (qQ (YF (qbw (tb3 (o3 (YO false) (v3 5) (c3 (.int 0)))) (tb3 (o3 (YO true) (v3 3) (ED qq)))) (qX (o3 ix3 (v3 3) (cb3 S_law_pick (qc (v3 0) (qc (cb3 DX (qc (v3 3) qq)) qq)))) (gn3 6)) zR) (qQ (YF (qbw (tb3 (o3 (YO false) (v3 5) (c3 (.int 1)))) (qbw (tb3 (o3 (iB λi j=>decide (j<i)) (cb3 DX (qc (v3 3) qq)) (c3 (.int 1)))) (tb3 (o3 (YO true) (o3 ix3 (v3 3) (u3 SE (c3 (.int 1)))) (o3 ix3 (v3 3) (u3 SE (c3 (.int 2)))))))) (qX (o3 (iI Builtin.bitXor) (o3 ix3 (v3 3) (u3 SE (c3 (.int 1)))) (o3 ix3 (v3 3) (u3 SE (c3 (.int 2))))) (gn3 6)) zR) (DI (bm3 qbc (v3 3) (qc (v3 6) qq)))))))) (zX (v3 3))))
def RV {S_law_pick:Sp3} (F:Fun K "_law_marks" "_law_marks" jG f fd) (bd:zB K fd YN []) (hm:mg "_law_marks" = some (.ref f)) (F_law_pick:Fn3 P w K mg base k "_law_pick" S_law_pick) (m_int:mg "int" = none) (m_range:mg "range" = none) (m_len:mg "len" = none)
  (read:Rd sp 3 (ZK S_law_pick) j6):Fn3 P w K mg base (k+1) "_law_marks" sp:=
 qJ (t3:=(ZK S_law_pick)) F zE bd hm (λcdv A outer s H E hr=>(qh (qu 3 zE.nd (z7 qd)) (qh (QY PassesOwn.never rfl (QA rfl m_range (qa (ES (qj F_law_pick hr rfl (qa (qb 0) (qa (zO (qb 1) qe) qd))) (zH EU SH rfl m_int PyProof.Rows.boot_int (qa (JW XX jK (qb 2) qe (qG _)) qd))) qd) (h1:=by intro _ _ _ h;simpa [qc,qq] using h)) (qS (i:=4) (zE.nd)) (qh (qu 5 zE.nd (qj F_law_pick hr rfl (qa (qb 0) (qa qe qd)))) (qh (qu 6 zE.nd (zO qe (qj F_law_pick hr rfl (qa (qb 0) (qa (CH (qb 2) qe) qd))))) (qh (jP (jpt (CW (qV (ZB hr.units) jr (qb 5) qe (qG _)) (WW (qV (VU hr.units) Z7 (qb 3) (z7 qd) (qG _))))) (qm (qu 6 zE.nd (zA (qb 3) (qj F_law_pick hr rfl (qa (qb 0) (qa (qK zS jt rfl m_len PySem.boot_len (qa (qb 3) qd)) qd)))))) zT) (qh (jP (jpt (CW (qV (ZB hr.units) jr (qb 5) qe (qG _)) (CW (qV XX jK (qK zS jt rfl m_len PySem.boot_len (qa (qb 3) qd)) qe (qG _)) (WW (qV (VU hr.units) Z7 (zA (qb 3) (U1 qe)) (zA (qb 3) (U1 qe)) (qG _)))))) (qm (qu 6 zE.nd (N9 (zA (qb 3) (U1 qe)) (zA (qb 3) (U1 qe))))) zT) (qm (SB (C9 (qb 3) (qa (qb 6) qd))))))))) (qm (qB (qb 3)))))) read
abbrev jY:Stmt:=top 20
abbrev WC:List Str:=["_law_left_here","_law_most","_law_high","_law_low","_law_masks","_law_wide"]
abbrev US:List Str:=["_law_left_here","_law_most"]
def ZZ:FnScope WC US (qi jY):=⟨rfl,rfl,rfl,by decide +kernel,rfl,by decide +kernel,by decide +kernel⟩
def SJ {S_law_pick:Sp3} (F:Fun K "_law_bits" "_law_bits" jY f fd) (bd:zB K fd US []) (hm:mg "_law_bits" = some (.ref f)) (F_law_pick:Fn3 P w K mg base k "_law_pick" S_law_pick) (m_range:mg "range" = none) (m_tuple:mg "tuple" = none)
  (read:Rd sp 2 (Bk.J7 S_law_pick) WC):Fn3 P w K mg base (k+1) "_law_bits" sp:=
 qJ (t3:=(Bk.J7 S_law_pick)) F ZZ bd hm (λcdv A outer s H E hr=>(qh (T1 (i:=2) (j:=3) rfl ZZ.nd rfl rfl (by decide) rfl rfl (qa (qj F_law_pick hr rfl (qa (qb 0) (qa (zO (qb 1) qe) qd))) (qa (qj F_law_pick hr rfl (qa (qb 0) (qa (zO (qb 1) qe) qd))) qd))) (qh (qbH 4 ["_law_t","_law_left_here"] [none,some 0] rfl ZZ.nd (QA rfl m_range (qa (qj F_law_pick hr rfl (qa (qb 0) (qa qe qd))) qd) (h1:=by intro _ _ _ h;simpa [qc,qq] using h)) (λ_ _ _=>(jgn 0)) (λ_ _ _=>YG) (λ_ _ _=>(qj F_law_pick hr rfl (qa (qb 1) (qa qe qd)))) (by kernel_rfl) (by kernel_rfl) rfl rfl) (qh (qu 5 ZZ.nd (zA (z7 (qa qe (qa qe (qa qe (qa qe (qa qe (qa qe (qa qe (qa qe (qa qe qd)))))))))) (zO (qb 2) (qb 3)))) (qm (qB (VH (qa qaw (qa (qb 2) (qa (qb 3) (qa (zH ZJ DM rfl m_tuple PyProof.Rows.boot_tuple (qa (E9 ["_law_mask","_law_wide"] [none,some 5] rfl (J4 (qb 4)) (λ_ _ _=>(jgn 0)) (λ_ _ _=>YG) (λ_ _ _=>(UT (qb 0) (qb 1))) (by kernel_rfl) (by kernel_rfl)) qd)) qd))))))))))) read
abbrev ZC:Stmt:=top 21
abbrev JU:List Str:=["_law_number","_law_found","_law_t"]
abbrev E7:List Str:=["_law_number"]
def YD:FnScope JU E7 (qi ZC):=⟨rfl,rfl,rfl,by decide +kernel,rfl,by decide +kernel,by decide +kernel⟩
def VC (S_law_two:Sp3):TS3:=(qQ (qX (c3 (.int 0)) (gn3 1)) (qQ (ER (Y8 (qc (c3 (.int 9)) qq)) (gn3 2) (qX (o3 JT (v3 1) (o3 (iC (λ_ j=>0<j) (·%·)) (o3 (iC qcI (·/·)) (v3 0) (cb3 S_law_two (qc (v3 2) qq))) (c3 (.int 2)))) (gn3 1))) (zX (o3 (YO false) (o3 (iC (λ_ j=>0<j) (·%·)) (v3 1) (c3 (.int 2))) (c3 (.int 1))))))
def K8 {S_law_two:Sp3} (F:Fun K "_law_odd" "_law_odd" ZC f fd) (bd:zB K fd E7 []) (hm:mg "_law_odd" = some (.ref f)) (qp:Fn3 P w K mg base k "_law_two" S_law_two) (m_range:mg "range" = none)
  (read:Rd sp 1 (VC S_law_two) JU):Fn3 P w K mg base (k+1) "_law_odd" sp:=
 qJ (t3:=(VC S_law_two)) F YD bd hm (λcdv A outer s H E hr=>(qh (qu 1 YD.nd qe) (qh (QY PassesOwn.never rfl (QA rfl m_range (qa qe qd) (h1:=by intro _ _ _ h;simpa [qc,qq] using h)) (qS (i:=2) (YD.nd)) (qm (qu 1 YD.nd (zO (qb 1) (UT (MM (qb 0) (qj qp hr rfl (qa (qb 2) qd))) qe))))) (qm (qB (JW (ZB hr.units) jr (UT (qb 1) qe) qe (qG _))))))) read
abbrev jV:Stmt:=top 22
abbrev ZI:List Str:=["_law_dealing","_law_number","_law_found","_law_t","_law_mask"]
abbrev V5:List Str:=["_law_dealing","_law_number"]
def QB:FnScope ZI V5 (qi jV):=⟨rfl,rfl,rfl,by decide +kernel,rfl,by decide +kernel,by decide +kernel⟩
def J6 (S_law_odd:Sp3) (S_law_two:Sp3):TS3:=(qQ (qX (c3 (.int 0)) (gn3 2)) (qQ (ER (J3 (qc (o3 ix3 (v3 0) (c3 (.int 3))) qq)) (V3 2 (zJ (gn3 3) (zJ (gn3 4) UR))) (YF (tb3 (cb3 S_law_odd (qc (o3 (iI Builtin.bitAnd) (v3 1) (v3 4)) qq))) (qX (o3 JT (v3 2) (cb3 S_law_two (qc (v3 3) qq))) (gn3 2)) zR)) (zX (v3 2))))
def R5 {S_law_odd:Sp3} {S_law_two:Sp3} (F:Fun K "_law_bank" "_law_bank" jV f fd) (bd:zB K fd V5 []) (hm:mg "_law_bank" = some (.ref f)) (ze:Fn3 P w K mg base k "_law_odd" S_law_odd) (qp:Fn3 P w K mg base k "_law_two" S_law_two) (m_enumerate:mg "enumerate" = none)
  (read:Rd sp 2 (J6 S_law_odd S_law_two) ZI):Fn3 P w K mg base (k+1) "_law_bank" sp:=
 qJ (t3:=(J6 S_law_odd S_law_two)) F QB bd hm (λcdv A outer s H E hr=>(qh (qu 2 QB.nd qe) (qh (QY PassesOwn.never rfl (J1 rfl m_enumerate (qa (zA (qb 0) qe) qd)) (VD rfl (zt (qS (i:=3) (QB.nd)) (zt (qS (i:=4) (QB.nd)) VJ))) (qm (jP (Q7 (qj ze hr rfl (qa (DJ (qb 1) (qb 4)) qd))) (qm (qu 2 QB.nd (zO (qb 2) (qj qp hr rfl (qa (qb 3) qd))))) zT))) (qm (qB (qb 2)))))) read
abbrev jx:Stmt:=top 23
abbrev j0:List Str:=["_law_thing"]
abbrev Y7:List Str:=["_law_thing"]
def CP:FnScope j0 Y7 (qi jx):=⟨rfl,rfl,rfl,by decide +kernel,rfl,by decide +kernel,by decide +kernel⟩
def CM (F:Fun K "_law_whole" "_law_whole" jx f fd) (bd:zB K fd Y7 []) (hm:mg "_law_whole" = some (.ref f))  (m_isinstance:mg "isinstance" = none) (m_bool:mg "bool" = none) (m_int:mg "int" = none)
  (read:Rd sp 1 (Bk.zI) j0):Fn3 P w K mg base (k+1) "_law_whole" sp:=
 qJ (t3:=(Bk.zI)) F CP bd hm (λcdv A outer s H E hr=>(qm (qB (K0 (YJ (qb 0) rfl m_isinstance rfl m_int PyProof.Rows.boot_int) (TY (qc6 (YJ (qb 0) rfl m_isinstance rfl m_bool PyProof.Rows.boot_bool))))))) read
abbrev jD:Stmt:=top 24
abbrev QC:List Str:=["_law_dealing","_law_marks_here","_law_thing","_law_t","_law_number","_law_u","_law_mark"]
abbrev YL:List Str:=["_law_dealing","_law_marks_here","_law_thing"]
def jE:FnScope QC YL (qi jD):=⟨rfl,rfl,rfl,by decide +kernel,rfl,by decide +kernel,by decide +kernel⟩
def ZY (S_law_two:Sp3) (S_law_whole:Sp3) (S_law_bank:Sp3) (S_law_odd:Sp3):TS3:=(qQ (YF (or3 (LC (tb3 (C8 (λt=>zL t "list") (v3 2)))) (tb3 (o3 (YO true) (cb3 DX (qc (v3 2) qq)) (cb3 DX (qc (v3 1) qq))))) (zX (c3 (.bl false))) zR) (qQ (ER (J3 (qc (v3 2) qq)) (V3 2 (zJ (gn3 3) (zJ (gn3 4) UR))) (qQ (YF (or3 (LC (tb3 (cb3 S_law_whole (qc (v3 4) qq)))) (LC (tb3 (ch3 (iB λi j=>decide (i<=j)) (iB λi j=>decide (i<j)) (c3 (.int 0)) (v3 4) (cb3 S_law_two (qc (cb3 DX (qc (o3 ix3 (v3 0) (c3 (.int 3))) qq)) qq)))))) (zX (c3 (.bl false))) zR) (ER (J3 (qc (v3 1) qq)) (V3 2 (zJ (gn3 5) (zJ (gn3 6) UR))) (YF (tb3 (o3 (YO true) (cb3 S_law_odd (qc (o3 (iI Builtin.bitAnd) (v3 4) (cb3 S_law_bank (qc (v3 0) (qc (v3 6) qq)))) qq)) (o3 (YO false) (v3 3) (v3 5)))) (zX (c3 (.bl false))) zR)))) (zX (c3 (.bl true)))))
def C6 {S_law_two:Sp3} {S_law_whole:Sp3} {S_law_bank:Sp3} {S_law_odd:Sp3} (F:Fun K "_law_shows" "_law_shows" jD f fd) (bd:zB K fd YL []) (hm:mg "_law_shows" = some (.ref f)) (qp:Fn3 P w K mg base k "_law_two" S_law_two) (qt:Fn3 P w K mg base k "_law_whole" S_law_whole) (zZ:Fn3 P w K mg base k "_law_bank" S_law_bank) (ze:Fn3 P w K mg base k "_law_odd" S_law_odd) (m_len:mg "len" = none) (m_isinstance:mg "isinstance" = none) (m_list:mg "list" = none) (m_enumerate:mg "enumerate" = none)
  (read:Rd sp 3 (ZY S_law_two S_law_whole S_law_bank S_law_odd) QC):Fn3 P w K mg base (k+1) "_law_shows" sp:=
 qJ (t3:=(ZY S_law_two S_law_whole S_law_bank S_law_odd)) F jE bd hm (λcdv A outer s H E hr=>(qh (jP (jpt (SX (UV (Q7 (YJ (qb 2) rfl m_isinstance rfl m_list PyProof.Rows.boot_list))) (WJ (qV (VU hr.units) Z7 (qK zS jt rfl m_len PySem.boot_len (qa (qb 2) qd)) (qK zS jt rfl m_len PySem.boot_len (qa (qb 1) qd)) (qG _))))) (qm (qB UD)) zT) (qh (QY PassesOwn.never rfl (J1 rfl m_enumerate (qa (qb 2) qd)) (VD rfl (zt (qS (i:=3) (jE.nd)) (zt (qS (i:=4) (jE.nd)) VJ))) (qh (jP (jpt (SX (UV (Q7 (qj qt hr rfl (qa (qb 4) qd)))) (WJ (UV (qbC qh0 jK qcb jK qe (qb 4) (qj qp hr rfl (qa (qK zS jt rfl m_len PySem.boot_len (qa (zA (qb 0) qe) qd)) qd))))))) (qm (qB UD)) zT) (qm (QY PassesOwn.never rfl (J1 rfl m_enumerate (qa (qb 1) qd)) (VD rfl (zt (qS (i:=5) (jE.nd)) (zt (qS (i:=6) (jE.nd)) VJ))) (qm (jP (qV (VU hr.units) Z7 (qj ze hr rfl (qa (DJ (qb 4) (qj zZ hr rfl (qa (qb 0) (qa (qb 6) qd)))) qd)) (JW (ZB hr.units) jr (qb 3) (qb 5) (qG _)) (qG _)) (qm (qB UD)) zT)))))) (qm (qB UD))))) read
abbrev jB:Stmt:=top 25
abbrev QE:List Str:=["_law_left_here","_law_dealing"]
abbrev YW:List Str:=["_law_left_here"]
def UZ:FnScope QE YW (qi jB):=⟨rfl,rfl,rfl,by decide +kernel,rfl,by decide +kernel,by decide +kernel⟩
def Z8 (S_law_pick:Sp3) (S_law_bits:Sp3) (S_law_two:Sp3) (S_law_marks:Sp3):TS3:=(qQ (qX (cb3 S_law_bits (qc (v3 0) (qc (o3 ix3 (ED (qc (c3 (.int 2)) (qc (c3 (.int 2)) (qc (c3 (.int 3)) (qc (c3 (.int 4)) qq))))) (cb3 S_law_pick (qc (v3 0) (qc (c3 (.int 4)) qq)))) qq))) (gn3 1)) (zX (TN (qc (v3 1) (qc (cb3 S_law_marks (qc (v3 0) (qc (c3 (.int 4)) (qc (cb3 S_law_two (qc (o3 JT (o3 ix3 (v3 1) (c3 (.int 1))) (o3 ix3 (v3 1) (c3 (.int 2)))) qq)) qq)))) qq)))))
def RG {S_law_pick:Sp3} {S_law_bits:Sp3} {S_law_two:Sp3} {S_law_marks:Sp3} (F:Fun K "_law_world" "_law_world" jB f fd) (bd:zB K fd YW []) (hm:mg "_law_world" = some (.ref f)) (F_law_pick:Fn3 P w K mg base k "_law_pick" S_law_pick) (F_law_bits:Fn3 P w K mg base k "_law_bits" S_law_bits) (qp:Fn3 P w K mg base k "_law_two" S_law_two) (F_law_marks:Fn3 P w K mg base k "_law_marks" S_law_marks) 
  (read:Rd sp 1 (Z8 S_law_pick S_law_bits S_law_two S_law_marks) QE):Fn3 P w K mg base (k+1) "_law_world" sp:=
 qJ (t3:=(Z8 S_law_pick S_law_bits S_law_two S_law_marks)) F UZ bd hm (λcdv A outer s H E hr=>(qh (qu 1 UZ.nd (qj F_law_bits hr rfl (qa (qb 0) (qa (zA (z7 (qa qe (qa qe (qa qe (qa qe qd))))) (qj F_law_pick hr rfl (qa (qb 0) (qa qe qd)))) qd)))) (qm (qB (VH (qa (qb 1) (qa (qj F_law_marks hr rfl (qa (qb 0) (qa qe (qa (qj qp hr rfl (qa (zO (zA (qb 1) qe) (zA (qb 1) qe)) qd)) qd)))) qd))))))) read
abbrev jw:Stmt:=top 26
abbrev ZL:List Str:=["_law_thing","_law_found","_law_k","_law_part_here"]
abbrev YQ:List Str:=["_law_thing"]
def QX:FnScope ZL YQ (qi jw):=⟨rfl,rfl,rfl,by decide +kernel,rfl,by decide +kernel,by decide +kernel⟩
def ZP (S_law_paths:Sp3):TS3:=(qQ (qX (ED (qc (TN qq) qq)) (gn3 1)) (qQ (YF (tb3 (C8 (λt=>zL t "list" || zL t "tuple") (v3 0))) (ER (J3 (qc (v3 0) qq)) (V3 2 (zJ (gn3 2) (zJ (gn3 3) UR))) (DI (bm3 qfM (v3 1) (qc (lc3 (JC (cb3 S_law_paths (qc (v3 3) qq))) (gn3 0) tt3 (o3 JE (TN (qc (v3 1) qq)) (v3 0)) [none,some 2]) qq)))) zR) (zX (v3 1))))
def zC {S_law_paths:Sp3} (F:Fun K "_law_paths" "_law_paths" jw f fd) (bd:zB K fd YQ []) (hm:mg "_law_paths" = some (.ref f)) (F_law_paths:Fn3 P w K mg base k "_law_paths" S_law_paths) (m_isinstance:mg "isinstance" = none) (m_list:mg "list" = none) (m_tuple:mg "tuple" = none) (m_enumerate:mg "enumerate" = none)
  (read:Rd sp 1 (ZP S_law_paths) ZL):Fn3 P w K mg base (k+1) "_law_paths" sp:=
 qJ (t3:=(ZP S_law_paths)) F QX bd hm (λcdv A outer s H E hr=>(qh (qu 1 QX.nd (z7 (qa (VH qd) qd))) (qh (jP (Q7 (MK (qb 0) rfl m_isinstance rfl m_list PyProof.Rows.boot_list rfl m_tuple PyProof.Rows.boot_tuple)) (qm (QY PassesOwn.never rfl (J1 rfl m_enumerate (qa (qb 0) qd)) (VD rfl (zt (qS (i:=2) (QX.nd)) (zt (qS (i:=3) (QX.nd)) VJ))) (qm (SB (qaM (qb 1) (qa (E9 ["_law_path","_law_k"] [none,some 2] rfl (J4 (qj F_law_paths hr rfl (qa (qb 3) qd))) (λ_ _ _=>(jgn 0)) (λ_ _ _=>YG) (λ_ _ _=>(zz (VH (qa (qb 1) qd)) (qb 0))) (by kernel_rfl) (by kernel_rfl)) qd)))))) zT) (qm (qB (qb 1)))))) read
abbrev jW:Stmt:=top 27
abbrev ZF:List Str:=["_law_thing","_law_path","_law_k"]
abbrev UJ:List Str:=["_law_thing","_law_path"]
def YV:FnScope ZF UJ (qi jW):=⟨rfl,rfl,rfl,by decide +kernel,rfl,by decide +kernel,by decide +kernel⟩
def YC:TS3:=(qQ (ER (JC (v3 1)) (gn3 2) (qX (o3 ix3 (v3 0) (v3 2)) (gn3 0))) (zX (v3 0)))
def SR (F:Fun K "_law_part" "_law_part" jW f fd) (bd:zB K fd UJ []) (hm:mg "_law_part" = some (.ref f))  
  (read:Rd sp 2 (YC) ZF):Fn3 P w K mg base (k+1) "_law_part" sp:=
 qJ (t3:=(YC)) F YV bd hm (λcdv A outer s H E hr=>(qh (QY PassesOwn.never rfl (J4 (qb 1)) (qS (i:=2) (YV.nd)) (qm (qu 0 YV.nd (zA (qb 0) (qb 2))))) (qm (qB (qb 0))))) read
abbrev ZA:Stmt:=top 28
abbrev JN:List Str:=["_law_thing","_law_path","_law_part_here","_law_parts"]
abbrev DH:List Str:=["_law_thing","_law_path","_law_part_here"]
def WQ:FnScope JN DH (qi ZA):=⟨rfl,rfl,rfl,by decide +kernel,rfl,by decide +kernel,by decide +kernel⟩
def VW (S_law_put:Sp3):TS3:=(qQ (YF (tb3 (o3 (YO false) (v3 1) (TN qq))) (zX (v3 2)) zR) (qQ (qX (cb3 LO (qc (v3 0) qq)) (gn3 3)) (qQ (qX (cb3 S_law_put (qc (o3 ix3 (v3 3) (o3 ix3 (v3 1) (c3 (.int 0)))) (qc (CY (v3 1) (sp3 (c3 (.int 1))) np3) (qc (v3 2) qq)))) (UQ (v3 3) (o3 ix3 (v3 1) (c3 (.int 0))))) (zX (if3 (tb3 (C8 (λt=>zL t "list") (v3 0))) (v3 3) (cb3 UX (qc (v3 3) qq)))))))
def jp {S_law_put:Sp3} (F:Fun K "_law_put" "_law_put" ZA f fd) (bd:zB K fd DH []) (hm:mg "_law_put" = some (.ref f)) (F_law_put:Fn3 P w K mg base k "_law_put" S_law_put) (m_list:mg "list" = none) (m_isinstance:mg "isinstance" = none) (m_tuple:mg "tuple" = none)
  (read:Rd sp 3 (VW S_law_put) JN):Fn3 P w K mg base (k+1) "_law_put" sp:=
 qJ (t3:=(VW S_law_put)) F WQ bd hm (λcdv A outer s H E hr=>(qh (jP (qV (ZB hr.units) jr (qb 1) (VH qd) (qG _)) (qm (qB (qb 2))) zT) (qh (qu 3 WQ.nd (zH UY T5 rfl m_list PyProof.Rows.boot_list (qa (qb 0) qd))) (qh (KT (qj F_law_put hr rfl (qa (zA (qb 3) (zA (qb 1) qe)) (qa (Q5 (qb 1) (Q2 qe) X8) (qa (qb 2) qd)))) (qar (qb 3) (zA (qb 1) qe))) (qm (qB (qem (Q7 (YJ (qb 0) rfl m_isinstance rfl m_list PyProof.Rows.boot_list)) (qb 3) (zH ZJ DM rfl m_tuple PyProof.Rows.boot_tuple (qa (qb 3) qd))))))))) read
abbrev zp:Stmt:=top 29
abbrev zN:List Str:=["_law_left_here","_law_part_here","_law_way","_law_more","_law_row","_law_at","_law_front","_law_one","_law_middle","_law_two_here","_law_near"]
abbrev jX:List Str:=["_law_left_here","_law_part_here"]
def qr:FnScope zN jX (qi zp):=⟨rfl,rfl,rfl,by decide +kernel,rfl,by decide +kernel,by decide +kernel⟩
def jg (S_law_pick:Sp3) (S_law_whole:Sp3):TS3:=(qQ (qcc 2 3 (qc (cb3 S_law_pick (qc (v3 0) (qc (c3 (.int 8)) qq))) (qc (o3 ix3 (ED (qc (c3 (.int 0)) (qc (c3 (.int 1)) (qc (c3 .non) (qc (TN qq) (qc (TN (qc (c3 (.int 0)) qq)) (qc (c3 (.str "0")) qq))))))) (cb3 S_law_pick (qc (v3 0) (qc (c3 (.int 6)) qq)))) qq))) (qQ (YF (tb3 (C8 (λt=>zL t "list" || zL t "tuple") (v3 1))) (qQ (qX (cb3 LO (qc (v3 1) qq)) (gn3 4)) (qQ (qX (cb3 S_law_pick (qc (v3 0) (qc (o3 JE (cb3 DX (qc (v3 4) qq)) (c3 (.int 1))) qq))) (gn3 5)) (qQ (qcc 6 7 (qc (CY (v3 4) np3 (sp3 (v3 5))) (qc (CY (v3 4) (sp3 (v3 5)) (sp3 (o3 JE (v3 5) (c3 (.int 1))))) qq))) (qQ (YF (tb3 (o3 (iB λi j=>decide (i<j)) (v3 2) (c3 (.int 3)))) (qQ (qX (o3 ix3 (ED (qc (ED qq) (qc (o3 qgw (v3 7) (c3 (.int 2))) (qc (o3 JE (ED (qc (v3 3) qq)) (v3 7)) qq)))) (v3 2)) (gn3 8)) (qX (o3 JE (o3 JE (v3 6) (v3 8)) (CY (v3 4) (sp3 (o3 JE (v3 5) (c3 (.int 1)))) np3)) (gn3 4))) (YF (tb3 (o3 (YO false) (v3 2) (c3 (.int 3)))) (qQ (qX (CY (v3 4) (sp3 (v3 5)) (sp3 (o3 JE (v3 5) (c3 (.int 2))))) (gn3 9)) (qX (o3 JE (o3 JE (v3 6) (qle (v3 9) (sp3 (u3 SE (c3 (.int 1)))))) (CY (v3 4) (sp3 (o3 JE (v3 5) (c3 (.int 2)))) np3)) (gn3 4))) (qX (o3 ix3 (ED (qc (qle (v3 4) (sp3 (u3 SE (c3 (.int 1))))) (qc (v3 4) (qc (ED (qc (v3 1) qq)) (qc (ED qq) qq))))) (o3 (iI (·-·)) (v3 2) (c3 (.int 4)))) (gn3 4)))) (qQ (YF (tb3 (o3 (YO true) (C8 (λt=>zL t "tuple") (v3 1)) (o3 (YO false) (v3 2) (c3 (.int 5))))) (zX (cb3 UX (qc (v3 4) qq))) zR) (zX (v3 4))))))) zR) (qQ (YF (LC (tb3 (cb3 S_law_whole (qc (v3 1) qq)))) (zX (o3 ix3 (ED (qc (c3 (.int 0)) (qc (c3 (.int 1)) (qc (c3 (.bl false)) (qc (c3 (.str "")) (qc (TN (qc (c3 .non) qq)) (qc (u3 SE (c3 (.int 1))) (qc (ED qq) (qc (c3 (.bl true)) qq))))))))) (v3 2))) zR) (qQ (qX (ED (qc (o3 JE (v3 1) (c3 (.int 1))) (qc (o3 (iI (·-·)) (v3 1) (c3 (.int 1))) (qc (o3 (iI (·-·)) (c3 (.int 0)) (v3 1)) (qc (o3 JE (v3 1) (c3 (.int 2))) qq))))) (gn3 10)) (zX (o3 ix3 (o3 JE (v3 10) (ED (qc (o3 (YO false) (v3 1) (c3 (.int 1))) (qc (cb3 (RR true) (qc (v3 1) qq)) (qc (TN (qc (v3 1) qq)) (qc (v3 3) qq)))))) (v3 2)))))))
def EC {S_law_pick:Sp3} {S_law_whole:Sp3} (F:Fun K "_law_otherwise" "_law_otherwise" zp f fd) (bd:zB K fd jX []) (hm:mg "_law_otherwise" = some (.ref f)) (F_law_pick:Fn3 P w K mg base k "_law_pick" S_law_pick) (qt:Fn3 P w K mg base k "_law_whole" S_law_whole) (m_isinstance:mg "isinstance" = none) (m_list:mg "list" = none) (m_tuple:mg "tuple" = none) (m_len:mg "len" = none) (m_str:mg "str" = none)
  (read:Rd sp 2 (jg S_law_pick S_law_whole) zN):Fn3 P w K mg base (k+1) "_law_otherwise" sp:=
 qJ (t3:=(jg S_law_pick S_law_whole)) F qr bd hm (λcdv A outer s H E hr=>(qh (T1 (i:=2) (j:=3) rfl qr.nd rfl rfl (by decide) rfl rfl (qa (qj F_law_pick hr rfl (qa (qb 0) (qa qe qd))) (qa (zA (z7 (qa qe (qa qe (qa U5 (qa (VH qd) (qa (VH (qa qe qd)) (qa qaw qd))))))) (qj F_law_pick hr rfl (qa (qb 0) (qa qe qd)))) qd))) (qh (jP (Q7 (MK (qb 1) rfl m_isinstance rfl m_list PyProof.Rows.boot_list rfl m_tuple PyProof.Rows.boot_tuple)) (qh (qu 4 qr.nd (zH UY T5 rfl m_list PyProof.Rows.boot_list (qa (qb 1) qd))) (qh (qu 5 qr.nd (qj F_law_pick hr rfl (qa (qb 0) (qa (zz (qK zS jt rfl m_len PySem.boot_len (qa (qb 4) qd)) qe) qd)))) (qh (T1 (i:=6) (j:=7) rfl qr.nd rfl rfl (by decide) rfl rfl (qa (Q5 (qb 4) X8 (Q2 (qb 5))) (qa (Q5 (qb 4) (Q2 (qb 5)) (Q2 (zz (qb 5) qe))) qd))) (qh (jP (qV qcb jK (qb 2) qe (qG _)) (qh (qu 8 qr.nd (zA (z7 (qa (z7 qd) (qa (qiJ (qb 7) qe) (qa (zz (z7 (qa (qb 3) qd)) (qb 7)) qd)))) (qb 2))) (qm (qu 4 qr.nd (zz (zz (qb 6) (qb 8)) (Q5 (qb 4) (Q2 (zz (qb 5) qe)) X8))))) (qm (jP (qV (ZB hr.units) jr (qb 2) qe (qG _)) (qh (qu 9 qr.nd (Q5 (qb 4) (Q2 (qb 5)) (Q2 (zz (qb 5) qe)))) (qm (qu 4 qr.nd (zz (zz (qb 6) (qdw (qb 9) (Q2 (U1 qe)) (ops:=λ_ _=>_) (by intro _ _;with_unfolding_all rfl))) (Q5 (qb 4) (Q2 (zz (qb 5) qe)) X8))))) (qm (qu 4 qr.nd (zA (z7 (qa (qdw (qb 4) (Q2 (U1 qe)) (ops:=λ_ _=>_) (by intro _ _;with_unfolding_all rfl)) (qa (qb 4) (qa (z7 (qa (qb 1) qd)) (qa (z7 qd) qd))))) (CH (qb 2) qe))))))) (qh (jP (qV (VU hr.units) Z7 (YJ (qb 1) rfl m_isinstance rfl m_tuple PyProof.Rows.boot_tuple) (JW (ZB hr.units) jr (qb 2) qe (qG _)) (qG _)) (qm (qB (zH ZJ DM rfl m_tuple PyProof.Rows.boot_tuple (qa (qb 4) qd)))) zT) (qm (qB (qb 4)))))))) zT) (qh (jP (UV (Q7 (qj qt hr rfl (qa (qb 1) qd)))) (qm (qB (zA (z7 (qa qe (qa qe (qa UD (qa qaw (qa (VH (qa U5 qd)) (qa (U1 qe) (qa (z7 qd) (qa UD qd))))))))) (qb 2)))) zT) (qh (qu 10 qr.nd (z7 (qa (zz (qb 1) qe) (qa (CH (qb 1) qe) (qa (CH qe (qb 1)) (qa (zz (qb 1) qe) qd)))))) (qm (qB (zA (zz (qb 10) (z7 (qa (JW (ZB hr.units) jr (qb 1) qe (qG _)) (qa (zH (YM hr.gd hr.units) X7 rfl m_str PyProof.Rows.boot_str (qa (qb 1) qd)) (qa (VH (qa (qb 1) qd)) (qa (qb 3) qd)))))) (qb 2))))))))) read
abbrev jj:Stmt:=top 30
abbrev jC:List Str:=["_law_left_here","_law_thing","_law_turn","_law_again","_law_paths_here","_law_path","_law_part_here"]
abbrev JR:List Str:=["_law_left_here","_law_thing","_law_turn"]
def zm:FnScope jC JR (qi jj):=⟨rfl,rfl,rfl,by decide +kernel,rfl,by decide +kernel,by decide +kernel⟩
def QU (S_law_pick:Sp3) (S_law_paths:Sp3) (S_law_part:Sp3) (S_law_otherwise:Sp3) (S_law_put:Sp3):TS3:=(qQ (ER (Y8 (qc (o3 JT (c3 (.int 1)) (cb3 qge (qc (S0 (o3 (iB λi j=>decide (j<i)) (v3 2) (c3 (.int 1))) (o3 (YO false) (cb3 S_law_pick (qc (v3 0) (qc (c3 (.int 3)) qq))) (c3 (.int 0)))) qq))) qq)) (gn3 3) (qQ (qX (cb3 S_law_paths (qc (v3 1) qq)) (gn3 4)) (qQ (qX (o3 ix3 (v3 4) (u3 SE (c3 (.int 1)))) (gn3 5)) (qQ (YF (or3 (tb3 (o3 (iB λi j=>decide (j<i)) (v3 2) (c3 (.int 0)))) (tb3 (o3 (iB λi j=>decide (j<i)) (v3 3) (c3 (.int 0))))) (qX (o3 ix3 (v3 4) (cb3 S_law_pick (qc (v3 0) (qc (cb3 DX (qc (v3 4) qq)) qq)))) (gn3 5)) zR) (qQ (qX (cb3 S_law_otherwise (qc (v3 0) (qc (cb3 S_law_part (qc (v3 1) (qc (v3 5) qq))) qq))) (gn3 6)) (qX (cb3 S_law_put (qc (v3 1) (qc (v3 5) (qc (v3 6) qq)))) (gn3 1))))))) (zX (v3 1)))
def XG {S_law_pick:Sp3} {S_law_paths:Sp3} {S_law_part:Sp3} {S_law_otherwise:Sp3} {S_law_put:Sp3} (F:Fun K "_law_spoilt" "_law_spoilt" jj f fd) (bd:zB K fd JR []) (hm:mg "_law_spoilt" = some (.ref f)) (F_law_pick:Fn3 P w K mg base k "_law_pick" S_law_pick) (F_law_paths:Fn3 P w K mg base k "_law_paths" S_law_paths) (z6:Fn3 P w K mg base k "_law_part" S_law_part) (F_law_otherwise:Fn3 P w K mg base k "_law_otherwise" S_law_otherwise) (F_law_put:Fn3 P w K mg base k "_law_put" S_law_put) (m_int:mg "int" = none) (m_range:mg "range" = none) (m_len:mg "len" = none)
  (read:Rd sp 3 (QU S_law_pick S_law_paths S_law_part S_law_otherwise S_law_put) jC):Fn3 P w K mg base (k+1) "_law_spoilt" sp:=
 qJ (t3:=(QU S_law_pick S_law_paths S_law_part S_law_otherwise S_law_put)) F zm bd hm (λcdv A outer s H E hr=>(qh (QY PassesOwn.never rfl (QA rfl m_range (qa (zO qe (zH EU SH rfl m_int PyProof.Rows.boot_int (qa (K0 (JW XX jK (qb 2) qe (qG _)) (TY (JW (ZB hr.units) jr (qj F_law_pick hr rfl (qa (qb 0) (qa qe qd))) qe (qG _)))) qd))) qd) (h1:=by intro _ _ _ h;simpa [qc,qq] using h)) (qS (i:=3) (zm.nd)) (qh (qu 4 zm.nd (qj F_law_paths hr rfl (qa (qb 1) qd))) (qh (qu 5 zm.nd (zA (qb 4) (U1 qe))) (qh (jP (jpt (SX (qV XX jK (qb 2) qe (qG _)) (WJ (qV XX jK (qb 3) qe (qG _))))) (qm (qu 5 zm.nd (zA (qb 4) (qj F_law_pick hr rfl (qa (qb 0) (qa (qK zS jt rfl m_len PySem.boot_len (qa (qb 4) qd)) qd)))))) zT) (qh (qu 6 zm.nd (qj F_law_otherwise hr rfl (qa (qb 0) (qa (qj z6 hr rfl (qa (qb 1) (qa (qb 5) qd))) qd)))) (qm (qu 1 zm.nd (qj F_law_put hr rfl (qa (qb 1) (qa (qb 5) (qa (qb 6) qd))))))))))) (qm (qB (qb 1))))) read
abbrev JL:Stmt:=top 31
abbrev qaq:List Str:=["_law_script","_law_k","_law_left_here","_law_dealing","_law_marks_here","_law_good","_law_turn","_law_thing","_law_told","_law_due","_law_found","_law_other"]
abbrev qh1:List Str:=["_law_script"]
def ZG:FnScope qaq qh1 (qi JL):=⟨rfl,rfl,rfl,by decide +kernel,rfl,by decide +kernel,by decide +kernel⟩
def qfS (S_law_left:Sp3) (S_law_world:Sp3) (S_flip_paper:Sp3) (S_law_spoilt:Sp3) (S_law_shows:Sp3) (S_shows_flips:Sp3) (S_law_two:Sp3) (S_law_marks:Sp3):TS3:=(qQ (ER (Y8 (qc (o3 JT (c3 (.int 1)) (cb3 qgd (qc (c3 (.int 6)) (qc (cb3 DX (qc (v3 0) qq)) qq)))) qq)) (gn3 1) (qQ (qX (cb3 S_law_left (qc (v3 0) (qc (v3 1) qq))) (gn3 2)) (qQ (qX (cb3 S_law_world (qc (v3 2) qq)) (V3 2 (zJ (gn3 3) (zJ (gn3 4) UR)))) (qQ (qX (cb3 S_flip_paper (qc (v3 3) (qc (v3 4) qq))) (gn3 5)) (qQ (ER (Y8 (qc (o3 (iC WR (·*·)) (c3 (.int 20)) (cb3 qge (qc (o3 (qbi true) (v3 5) (c3 .non)) qq))) qq)) (gn3 6) (qQ (qX (cb3 S_law_spoilt (qc (v3 2) (qc (v3 5) (qc (v3 6) qq)))) (gn3 7)) (qQ (qcc 8 9 (qc (cb3 (RR true) (qc (v3 7) qq)) (qc (cb3 S_law_shows (qc (v3 3) (qc (v3 4) (qc (v3 7) qq)))) qq))) (qQ (qX (cb3 S_shows_flips (qc (v3 3) (qc (v3 4) (qc (v3 7) qq)))) (gn3 10)) (YF (or3 (LC (tb3 (C8 (λt=>zL t "bool") (v3 10)))) (or3 (tb3 (o3 (YO true) (v3 10) (v3 9))) (tb3 (o3 (YO true) (cb3 (RR true) (qc (v3 7) qq)) (v3 8))))) (zX (c3 (.bl false))) zR))))) (qQ (YF (qbw (tb3 (o3 (qbi true) (v3 5) (c3 .non))) (tb3 (o3 (qll true) (cb3 S_shows_flips (qc (v3 3) (qc (v3 4) (qc (v3 5) qq)))) (c3 (.bl true))))) (zX (c3 (.bl false))) zR) (qQ (qX (cb3 S_law_marks (qc (v3 2) (qc (c3 (.int 4)) (qc (cb3 S_law_two (qc (o3 JT (o3 ix3 (v3 3) (c3 (.int 1))) (o3 ix3 (v3 3) (c3 (.int 2)))) qq)) qq)))) (gn3 11)) (YF (tb3 (o3 (qbi true) (v3 5) (c3 .non))) (qQ (qX (cb3 S_law_shows (qc (v3 3) (qc (v3 11) (qc (v3 5) qq)))) (gn3 9)) (qQ (qX (cb3 S_shows_flips (qc (v3 3) (qc (v3 11) (qc (v3 5) qq)))) (gn3 10)) (YF (or3 (LC (tb3 (C8 (λt=>zL t "bool") (v3 10)))) (tb3 (o3 (YO true) (v3 10) (v3 9)))) (zX (c3 (.bl false))) zR))) zR)))))))) (zX (c3 (.bl true))))
def qgS {S_law_left:Sp3} {S_law_world:Sp3} {S_flip_paper:Sp3} {S_law_spoilt:Sp3} {S_law_shows:Sp3} {S_shows_flips:Sp3} {S_law_two:Sp3} {S_law_marks:Sp3} (F:Fun K "law" "law" JL f fd) (F_law_left:Fn3 P w K mg base k "_law_left" S_law_left) (F_law_world:Fn3 P w K mg base k "_law_world" S_law_world) (zh:Fn3 P w K mg base k "flip_paper" S_flip_paper) (F_law_spoilt:Fn3 P w K mg base k "_law_spoilt" S_law_spoilt) (qR:Fn3 P w K mg base k "_law_shows" S_law_shows) (qA:Fn3 P w K mg base k "shows_flips" S_shows_flips) (qp:Fn3 P w K mg base k "_law_two" S_law_two) (F_law_marks:Fn3 P w K mg base k "_law_marks" S_law_marks) (m_len:mg "len" = none) (m_min:mg "min" = none) (m_range:mg "range" = none) (m_int:mg "int" = none) (m_str:mg "str" = none) (m_isinstance:mg "isinstance" = none) (m_bool:mg "bool" = none)
  (read:Rd sp 1 (qfS S_law_left S_law_world S_flip_paper S_law_spoilt S_law_shows S_shows_flips S_law_two S_law_marks) qaq):FnOk P w K mg base CX0 (k+1) f fd qh1 (lSp K sp):=
 qb8 (t3:=(qfS S_law_left S_law_world S_flip_paper S_law_spoilt S_law_shows S_shows_flips S_law_two S_law_marks)) F ZG (λcdv A outer s H E hr=>(qh (QY PassesOwn.never rfl (QA rfl m_range (qa (zO qe (qK (CV rfl) MB rfl m_min PyProof.Rows.boot_min (qa qe (qa (qK zS jt rfl m_len PySem.boot_len (qa (qb 0) qd)) qd)))) qd) (h1:=by intro _ _ _ h;simpa [qc,qq] using h)) (qS (i:=1) (ZG.nd)) (qh (qu 2 ZG.nd (qj F_law_left hr rfl (qa (qb 0) (qa (qb 1) qd)))) (qh (KT (qj F_law_world hr rfl (qa (qb 2) qd)) (VD rfl (zt (qS (i:=3) (ZG.nd)) (zt (qS (i:=4) (ZG.nd)) VJ)))) (qh (qu 5 ZG.nd (qj zh hr rfl (qa (qb 3) (qa (qb 4) qd)))) (qh (QY PassesOwn.never rfl (QA rfl m_range (qa (ES qe (zH EU SH rfl m_int PyProof.Rows.boot_int (qa (JW XF EK (qb 5) U5 (qG _)) qd))) qd) (h1:=by intro _ _ _ h;simpa [qc,qq] using h)) (qS (i:=6) (ZG.nd)) (qh (qu 7 ZG.nd (qj F_law_spoilt hr rfl (qa (qb 2) (qa (qb 5) (qa (qb 6) qd))))) (qh (T1 (i:=8) (j:=9) rfl ZG.nd rfl rfl (by decide) rfl rfl (qa (zH (YM hr.gd hr.units) X7 rfl m_str PyProof.Rows.boot_str (qa (qb 7) qd)) (qa (qj qR hr rfl (qa (qb 3) (qa (qb 4) (qa (qb 7) qd)))) qd))) (qh (qu 10 ZG.nd (qj qA hr rfl (qa (qb 3) (qa (qb 4) (qa (qb 7) qd))))) (qm (jP (jpt (SX (UV (Q7 (YJ (qb 10) rfl m_isinstance rfl m_bool PyProof.Rows.boot_bool))) (SX (qV (VU hr.units) Z7 (qb 10) (qb 9) (qG _)) (WJ (qV (VU hr.units) Z7 (zH (YM hr.gd hr.units) X7 rfl m_str PyProof.Rows.boot_str (qa (qb 7) qd)) (qb 8) (qG _)))))) (qm (qB UD)) zT)))))) (qh (jP (jpt (CW (qV XF EK (qb 5) U5 (qG _)) (WW (qV qgm qbs (qj qA hr rfl (qa (qb 3) (qa (qb 4) (qa (qb 5) qd)))) UD (qG _))))) (qm (qB UD)) zT) (qh (qu 11 ZG.nd (qj F_law_marks hr rfl (qa (qb 2) (qa qe (qa (qj qp hr rfl (qa (zO (zA (qb 3) qe) (zA (qb 3) qe)) qd)) qd))))) (qm (jP (qV XF EK (qb 5) U5 (qG _)) (qh (qu 9 ZG.nd (qj qR hr rfl (qa (qb 3) (qa (qb 11) (qa (qb 5) qd))))) (qh (qu 10 ZG.nd (qj qA hr rfl (qa (qb 3) (qa (qb 11) (qa (qb 5) qd))))) (qm (jP (jpt (SX (UV (Q7 (YJ (qb 10) rfl m_isinstance rfl m_bool PyProof.Rows.boot_bool))) (WJ (qV (VU hr.units) Z7 (qb 10) (qb 9) (qG _))))) (qm (qB UD)) zT)))) zT))))))))) (qm (qB UD)))) read
end K33
namespace K33
open PySem L2 L3 Pu
def jn:PuS (Bk.zI):=(DU (qaC (TM (λt=>zL t "int") (bV 0)) (qfn (TM (λt=>zL t "bool") (bV 0)))))
def zj:List PyData->Option PyData:=Pu.run jn.f 1 1 1000000000 false
def RE:Rd (PSp zj false) 1 (Bk.zI) j7:=zl jn j7 1 1000000000 false
def UW {x0:PyData}:zj [x0]=YB false (jn.f 1000000000 [.sh x0]):=id rfl
def zd:PuS (K33.zQ (PSp zj false)):=(DU (qaC (qD (zw zj false) (qf (bV 0) qC)) (bCh (opB λi j=>decide (i<=j)) (opB λi j=>decide (i<j)) (qL 0) (bV 0) (bV 1))))
def qy:List PyData->Option PyData:=Pu.run zd.f 2 2 1000000000 false
def VL:Rd (PSp qy false) 2 (K33.zQ (PSp zj false)) zf:=zl zd zf 2 1000000000 false
def QQ {x0 x1:PyData}:qy [x0,x1]=YB false (zd.f 1000000000 [.sh x0,.sh x1]):=id rfl
def EL:PuS (K33.EI):=(YK (CD (UU qC ⟨rfl⟩) 1 [] ⟨rfl⟩) (YK (qbd (qa3 (bV 0)) (gN 2) (YK (CD (bV 2) 3 [false,false,true] ⟨rfl⟩) (YK (qix 1 4 3 (qD qnJ (qf (bV 3) (qf (bO (opI Builtin.bitXor) (bV 3) (bV 4)) qC))) ⟨rfl⟩) (sIf (bTb (bO (opB λi j=>decide (j<i)) (bV 3) (qL 0))) (qnL (bV 3) 1 [false,false,false,true] ⟨rfl⟩) UC))) [true] ⟨rfl⟩) (XE 1)))
def QM:List PyData->Option PyData:=Pu.run EL.f 1 5 1000000000 true
def qa6:Rd (PSp QM true) 1 (K33.EI) VV:=zl EL VV 1 1000000000 true
def MG {x0:PyData}:QM [x0]=YB true (EL.f 1000000000 [.sh x0,.un,.un,.un,.un]):=id rfl
def jM:PuS (K33.jR (PSp Pv.qk false)):=(DU (qD qjV (qf (bLc (DT (qf (bV 1) qC)) (KA 2 (jJ (gN 0) (jJ (gN 1) KO))) bTt (bO (VX false) (qD (zw Pv.qk false) (qf (bV 2) (qf (bV 1) qC))) (bO (VX false) (bV 0) (bV 3))) [none,none,some 0,some 2] ⟨rfl⟩) qC)))
def qz:List PyData->Option PyData:=Pu.run jM.f 3 3 1000000000 false
def DQ:Rd (PSp qz false) 3 (K33.jR (PSp Pv.qk false)) jS:=zl jM jS 3 1000000000 false
def DP {x0 x1 x2:PyData}:qz [x0,x1,x2]=YB false (jM.f 1000000000 [.sh x0,.sh x1,.sh x2]):=id rfl
def jy:PuS (K33.QV (PSp Pv.zg false) (PSp Pv.qo true) (PSp QM true) (PSp Pv.zM true) (PSp qz false)):=(YK (sIf (bTb (bO (MS true) (qD (zw Pv.zg false) (qf (bV 0) (qf (bV 1) qC))) qbf)) (DU qbf) UC) (YK (CD (qD (zw Pv.qo true) (qf (bV 0) (qf (bV 1) qC))) 2 [true,true] ⟨rfl⟩) (YK (CD (qD (zw Pv.zM true) (qf (bLc (qa3 (qD (zw QM true) (qf (bV 2) qC))) (gN 0) bTt (bO (opC W7 (λi j=>i*2 ^ j.toNat)) (qL 1) (bO (opI (·-·)) (qnC (bV 0)) (qL 1))) [none] ⟨rfl⟩) qC)) 3 [false,false,true] ⟨rfl⟩) (DU (bLc (qj5 (qf (qD K5 (qf (bV 2) qC)) qC)) (gN 0) bTt (bO Y9 (bLc (qa3 (bV 1)) (gN 0) (bTb (qD (zw qz false) (qf (bV 0) (qf (bV 1) (qf (bV 2) qC))))) (bV 0) [none,some 2,some 0] ⟨rfl⟩) (qL 0)) [none,some 3,some 2] ⟨rfl⟩)))))
def zh:List PyData->Option PyData:=Pu.run jy.f 2 4 1000000000 true
def XB:Rd (PSp zh true) 2 (K33.QV (PSp Pv.zg false) (PSp Pv.qo true) (PSp QM true) (PSp Pv.zM true) (PSp qz false)) QZ:=zl jy QZ 2 1000000000 true
def W9 {x0 x1:PyData}:zh [x0,x1]=YB true (jy.f 1000000000 [.sh x0,.sh x1,.un,.un]):=id rfl
def qT:PuS (K33.jL (PSp qy false) (PSp Pv.qo true) (PSp qz false)):=(YK (sIf (bOr (qb9 (bTb (TM (λt=>zL t "list") (bV 2)))) (bTb (bO (VX true) (qD K5 (qf (bV 2) qC)) (qD K5 (qf (bV 1) qC))))) (DU (bBl false)) UC) (YK (sIf (qb9 (bTb (qD qjV (qf (bLc (qa3 (bV 2)) (gN 0) bTt (qD (zw qy false) (qf (bV 0) (qf (bO (opC W7 (λi j=>i*2 ^ j.toNat)) (qL 1) (qD K5 (qf (bO Y9 (bV 1) (qL 3)) qC))) qC))) [none,some 0] ⟨rfl⟩) qC)))) (DU (bBl false)) UC) (YK (CD (qD (zw Pv.qo true) (qf (bV 0) (qf (bV 1) qC))) 3 [true,true] ⟨rfl⟩) (DU (qD qjV (qf (bLc (DT (qf (bV 2) qC)) (KA 2 (jJ (gN 0) (jJ (gN 1) KO))) bTt (qD (zw qz false) (qf (bV 1) (qf (bV 2) (qf (bV 0) qC)))) [none,none,some 3] ⟨rfl⟩) qC))))))
def qA:List PyData->Option PyData:=Pu.run qT.f 3 4 1000000000 false
def DR:Rd (PSp qA false) 3 (K33.jL (PSp qy false) (PSp Pv.qo true) (PSp qz false)) jN:=zl qT jN 3 1000000000 false
def jv {x0 x1 x2:PyData}:qA [x0,x1,x2]=YB false (qT.f 1000000000 [.sh x0,.sh x1,.sh x2,.un]):=id rfl
def VQ:PuS (K33.VB):=(DU (bO Y9 (UU (qf (qL 1) (qf (qL 2) (qf (qL 4) (qf (qL 8) (qf (qL 16) (qf (qL 32) (qf (qL 64) (qf (qL 128) (qf (qL 256) qC))))))))) ⟨rfl⟩) (bV 0)))
def qp:List PyData->Option PyData:=Pu.run VQ.f 1 1 1000000000 false
def LQ:Rd (PSp qp false) 1 (K33.VB) JO:=zl VQ JO 1 1000000000 false
def LR {x0:PyData}:qp [x0]=YB false (VQ.f 1000000000 [.sh x0]):=id rfl
def Q0:=((QF (YE (eDr UA (aOf (qf (qL 8) qC))) 5 [] ⟨rfl⟩ ⟨rfl⟩) (QF (YE (eO XU (eOf (qL 1)) (eDr UA (aOf (qf (bO (opI (·-·)) (bV 2) (qL 1)) qC)))) 6 [false,false,true] ⟨rfl⟩ ⟨rfl⟩) (QF (wIf (cOf (qfh (bTb (bO (VX false) (bV 5) (qL 0))) (bTb (bO (VX true) (bV 3) (UU qC ⟨rfl⟩))))) (YE (eO Y9 (eOf (bV 3)) (eDr UA (aOf (qf (qD K5 (qf (bV 3) qC)) qC)))) 6 [false,false,false,true] ⟨rfl⟩ ⟨rfl⟩) VZ) (QF (wIf (cOf (qfh (bTb (bO (VX false) (bV 5) (qL 1))) (qfh (bTb (bO (opB λi j=>decide (j<i)) (qD K5 (qf (bV 3) qC)) (qL 1))) (bTb (bO (VX true) (bO Y9 (bV 3) (qfi (qL 1))) (bO Y9 (bV 3) (qfi (qL 2)))))))) (YE (eOf (bO (opI Builtin.bitXor) (bO Y9 (bV 3) (qfi (qL 1))) (bO Y9 (bV 3) (qfi (qL 2))))) 6 [false,false,false,true] ⟨rfl⟩ ⟨rfl⟩) VZ) (qnO (eOf (bV 6)) 3 [false,false,false,false,false,false,true] ⟨rfl⟩ ⟨rfl⟩))))):PwS 0 _)
def Z5:PwS 0 (K33.ZK Bk.qI):=(QF (YE (eOf (UU qC ⟨rfl⟩)) 3 [] ⟨rfl⟩ ⟨rfl⟩) (QF (qla (iR (XI (eO (opC WR (·*·)) (eDr UA (aOf (qf (bO XU (bV 1) (qL 1)) qC))) (eOf (qD qlp (qf (bO (opB λi j=>decide (j<i)) (bV 2) (qL 1)) qC)))) (aOf qC))) (gN 4) Q0 [false,true,true] ⟨rfl⟩ ⟨rfl⟩) (qaD 3)))
def zn:Wm:=qiV Z5 3 7 true
def RA:Rd (DSp zn.W true) 3 (K33.ZK Bk.qI) j6:=X4 Z5 j6 3 true
def RT {x0 x1:PyData} {n:Nat} {Q:QD}:zn.W [x0,x1] n Q=(3=3/\Z5.w [.un,.sh x0,.sh x1,.un,.un,.un,.un] n (qdF true Q)):=id rfl
def VT:PuS (K33.VC (PSp qp false)):=(YK (CD (qL 0) 1 [] ⟨rfl⟩) (YK (qbd (qj5 (qf (qL 9) qC)) (gN 2) (CD (bO XU (bV 1) (bO (opC (λ_ j=>0<j) (·%·)) (bO (opC qcI (·/·)) (bV 0) (qD (zw qp false) (qf (bV 2) qC))) (qL 2))) 1 [true,true,true] ⟨rfl⟩) [] ⟨rfl⟩) (DU (bO (VX false) (bO (opC (λ_ j=>0<j) (·%·)) (bV 1) (qL 2)) (qL 1)))))
def ze:List PyData->Option PyData:=Pu.run VT.f 1 3 1000000000 false
def LX:Rd (PSp ze false) 1 (K33.VC (PSp qp false)) JU:=zl VT JU 1 1000000000 false
def LM {x0:PyData}:ze [x0]=YB false (VT.f 1000000000 [.sh x0,.un,.un]):=id rfl
def J8:PuS (K33.J6 (PSp ze false) (PSp qp false)):=(YK (CD (qL 0) 2 [] ⟨rfl⟩) (YK (qbd (DT (qf (bO Y9 (bV 0) (qL 3)) qC)) (KA 2 (jJ (gN 3) (jJ (gN 4) KO))) (sIf (bTb (qD (zw ze false) (qf (bO (opI Builtin.bitAnd) (bV 1) (bV 4)) qC))) (CD (bO XU (bV 2) (qD (zw qp false) (qf (bV 3) qC))) 2 [false,false,true,true] ⟨rfl⟩) UC) [true] ⟨rfl⟩) (XE 2)))
def zZ:List PyData->Option PyData:=Pu.run J8.f 2 5 1000000000 false
def S8:Rd (PSp zZ false) 2 (K33.J6 (PSp ze false) (PSp qp false)) ZI:=zl J8 ZI 2 1000000000 false
def SS {x0 x1:PyData}:zZ [x0,x1]=YB false (J8.f 1000000000 [.sh x0,.sh x1,.un,.un,.un]):=id rfl
def zK:PuS (Bk.zI):=(DU (qaC (TM (λt=>zL t "int") (bV 0)) (qfn (TM (λt=>zL t "bool") (bV 0)))))
def qt:List PyData->Option PyData:=Pu.run zK.f 1 1 1000000000 false
def CN:Rd (PSp qt false) 1 (Bk.zI) j0:=zl zK j0 1 1000000000 false
def jA {x0:PyData}:qt [x0]=YB false (zK.f 1000000000 [.sh x0]):=id rfl
def zG:PuS (K33.ZY (PSp qp false) (PSp qt false) (PSp zZ false) (PSp ze false)):=(YK (sIf (bOr (qb9 (bTb (TM (λt=>zL t "list") (bV 2)))) (bTb (bO (VX true) (qD K5 (qf (bV 2) qC)) (qD K5 (qf (bV 1) qC))))) (DU (bBl false)) UC) (YK (qbd (DT (qf (bV 2) qC)) (KA 2 (jJ (gN 3) (jJ (gN 4) KO))) (YK (sIf (bOr (qb9 (bTb (qD (zw qt false) (qf (bV 4) qC)))) (qb9 (bTb (bCh (opB λi j=>decide (i<=j)) (opB λi j=>decide (i<j)) (qL 0) (bV 4) (qD (zw qp false) (qf (qD K5 (qf (bO Y9 (bV 0) (qL 3)) qC)) qC)))))) (DU (bBl false)) UC) (qbd (DT (qf (bV 1) qC)) (KA 2 (jJ (gN 5) (jJ (gN 6) KO))) (sIf (bTb (bO (VX true) (qD (zw ze false) (qf (bO (opI Builtin.bitAnd) (bV 4) (qD (zw zZ false) (qf (bV 0) (qf (bV 6) qC)))) qC)) (bO (VX false) (bV 3) (bV 5)))) (DU (bBl false)) UC) [false,true] ⟨rfl⟩)) [false,false,true] ⟨rfl⟩) (DU (bBl true))))
def qR:List PyData->Option PyData:=Pu.run zG.f 3 7 1000000000 false
def RF:Rd (PSp qR false) 3 (K33.ZY (PSp qp false) (PSp qt false) (PSp zZ false) (PSp ze false)) QC:=zl zG QC 3 1000000000 false
def JX {x0 x1 x2:PyData}:qR [x0,x1,x2]=YB false (zG.f 1000000000 [.sh x0,.sh x1,.sh x2,.un,.un,.un,.un]):=id rfl
def ZX:PwS 0 (K33.Z8 Bk.qI Bk.ZS (PSp qp false) (DSp zn.W true)):=(QF (YE (eDr qeA (XI (eO Y9 (eOf (UU (qf (qL 2) (qf (qL 2) (qf (qL 3) (qf (qL 4) qC)))) ⟨rfl⟩)) (eDr UA (aOf (qf (qL 4) qC)))) (aOf qC))) 1 [] ⟨rfl⟩ ⟨rfl⟩) (qbq (qma (XI (eOf (bV 1)) (XI (eDr (dSp zn true) (aOf (qf (qL 4) (qf (qD (zw qp false) (qf (bO XU (bO Y9 (bV 1) (qL 1)) (bO Y9 (bV 1) (qL 2))) qC)) qC)))) (aOf qC))) ⟨rfl⟩)))
def jo:Wm:=qiV ZX 1 2 false
def CJ:Rd (DSp jo.W false) 1 (K33.Z8 Bk.qI Bk.ZS (PSp qp false) (DSp zn.W true)) QE:=X4 ZX QE 1 false
def CS {n:Nat} {Q:QD}:jo.W [] n Q=(0+1=1/\ZX.w [.un,.un] n (qdF false Q)):=id rfl
def zY (Ff:List PyData->Option PyData):PuS (K33.ZP (PSp Ff true)):=(YK (CD (UU (qf (qc9 qC ⟨rfl⟩) qC) ⟨rfl⟩) 1 [] ⟨rfl⟩) (YK (sIf (bTb (TM (λt=>zL t "list" || zL t "tuple") (bV 0))) (qbd (DT (qf (bV 0) qC)) (KA 2 (jJ (gN 2) (jJ (gN 3) KO))) (qn6 (bLc (qa3 (qD (zw Ff true) (qf (bV 3) qC))) (gN 0) bTt (bO qZ (qc9 (qf (bV 1) qC) ⟨rfl⟩) (bV 0)) [none,some 2] ⟨rfl⟩) 1 [false,false,true,true] ⟨rfl⟩) [true] ⟨rfl⟩) UC) (XE 1)))
def qN:Nat->List PyData->Option PyData
 |0=>λ_=>none
 |j+1=>Pu.run (zY (qN j)).f 1 4 1000000000 true
def zF (j:Nat):Rd (PSp (qN (j+1)) true) 1 (K33.ZP (PSp (qN j) true)) ZL:=zl (zY (qN j)) ZL 1 1000000000 true
def QW {j:Nat} {x0:PyData}:qN (j+1) [x0]=YB true ((zY (qN j)).f 1000000000 [.sh x0,.un,.un,.un]):=id rfl
def J5:PuS (K33.YC):=(YK (qbd (qa3 (bV 1)) (gN 2) (CD (bO Y9 (bV 0) (bV 2)) 0 [true,false,true] ⟨rfl⟩) [false,true] ⟨rfl⟩) (XE 0))
def z6:List PyData->Option PyData:=Pu.run J5.f 2 3 1000000000 false
def TB:Rd (PSp z6 false) 2 (K33.YC) ZF:=zl J5 ZF 2 1000000000 false
def S6 {x0 x1:PyData}:z6 [x0,x1]=YB false (J5.f 1000000000 [.sh x0,.sh x1,.un]):=id rfl
def Q9 (Ff:List PyData->Option PyData):PuS (K33.VW (PSp Ff false)):=(YK (sIf (bTb (bO (VX false) (bV 1) (qc9 qC ⟨rfl⟩))) (XE 2) UC) (YK (CD (qD qhb (qf (bV 0) qC)) 3 [true] ⟨rfl⟩) (YK (qiq (zw Ff false) 3 (bO Y9 (bV 1) (qL 0)) (qf (LL (bV 1) (bSp (qL 1)) bNp) (qf (bV 2) qC)) (bO Y9 (bV 1) (qL 0)) [false,true,true] ⟨rfl⟩) (DU (bIf (bTb (TM (λt=>zL t "list") (bV 0))) (bV 3) (qD qku (qf (bV 3) qC)))))))
def zU:Nat->List PyData->Option PyData
 |0=>λ_=>none
 |j+1=>Pu.run (Q9 (zU j)).f 3 4 1000000000 false
def jq (j:Nat):Rd (PSp (zU (j+1)) false) 3 (K33.VW (PSp (zU j) false)) JN:=zl (Q9 (zU j)) JN 3 1000000000 false
def UH {j:Nat} {x0 x1 x2:PyData}:zU (j+1) [x0,x1,x2]=YB false ((Q9 (zU j)).f 1000000000 [.sh x0,.sh x1,.sh x2,.un]):=id rfl
def jf:PwS 0 (K33.jg Bk.qI (PSp qt false)):=(QF (qia (XI (eDr UA (aOf (qf (qL 8) qC))) (XI (eO Y9 (eOf (UU (qf (qL 0) (qf (qL 1) (qf qbf (qf (qc9 qC ⟨rfl⟩) (qf (qc9 (qf (qL 0) qC) ⟨rfl⟩) (qf (qlI "0") qC)))))) ⟨rfl⟩)) (eDr UA (aOf (qf (qL 6) qC)))) (aOf qC))) 2 3 [] ⟨rfl⟩ ⟨rfl⟩) (QF (wIf (cOf (bTb (TM (λt=>zL t "list" || zL t "tuple") (bV 1)))) (QF (YE (eOf (qD qhb (qf (bV 1) qC))) 4 [false,true] ⟨rfl⟩ ⟨rfl⟩) (QF (YE (eDr UA (aOf (qf (bO qZ (qD K5 (qf (bV 4) qC)) (qL 1)) qC))) 5 [false,false,false,false,true] ⟨rfl⟩ ⟨rfl⟩) (QF (qia (aOf (qf (LL (bV 4) bNp (bSp (bV 5))) (qf (LL (bV 4) (bSp (bV 5)) (bSp (bO qZ (bV 5) (qL 1)))) qC))) 6 7 [false,false,false,false,true,true] ⟨rfl⟩ ⟨rfl⟩) (QF (wIf (cOf (bTb (bO (opB λi j=>decide (i<j)) (bV 2) (qL 3)))) (QF (YE (eOf (bO Y9 (UU (qf (UU qC ⟨rfl⟩) (qf (bO qbv (bV 7) (qL 2)) (qf (bO qZ (UU (qf (bV 3) qC) ⟨rfl⟩) (bV 7)) qC))) ⟨rfl⟩) (bV 2))) 8 [false,false,true,true,false,false,false,true] ⟨rfl⟩ ⟨rfl⟩) (YE (eOf (bO qZ (bO qZ (bV 6) (bV 8)) (LL (bV 4) (bSp (bO qZ (bV 5) (qL 1))) bNp))) 4 [false,false,false,false,true,true,true,false,true] ⟨rfl⟩ ⟨rfl⟩)) (wIf (cOf (bTb (bO (VX false) (bV 2) (qL 3)))) (QF (YE (eOf (LL (bV 4) (bSp (bV 5)) (bSp (bO qZ (bV 5) (qL 2))))) 9 [false,false,false,false,true,true] ⟨rfl⟩ ⟨rfl⟩) (YE (eOf (bO qZ (bO qZ (bV 6) (qgp (bV 9))) (LL (bV 4) (bSp (bO qZ (bV 5) (qL 2))) bNp))) 4 [false,false,false,false,true,true,true,false,false,true] ⟨rfl⟩ ⟨rfl⟩)) (YE (eOf (bO Y9 (UU (qf (qgp (bV 4)) (qf (bV 4) (qf (UU (qf (bV 1) qC) ⟨rfl⟩) (qf (UU qC ⟨rfl⟩) qC)))) ⟨rfl⟩) (bO (opI (·-·)) (bV 2) (qL 4)))) 4 [false,true,true,false,true] ⟨rfl⟩ ⟨rfl⟩))) (QF (wIf (cOf (bTb (bO (VX true) (TM (λt=>zL t "tuple") (bV 1)) (bO (VX false) (bV 2) (qL 5))))) (qbq (eOf (qD qku (qf (bV 4) qC)))) VZ) (qaD 4)))))) VZ) (QF (wIf (cOf (qb9 (bTb (qD (zw qt false) (qf (bV 1) qC))))) (qbq (eOf (bO Y9 (UU (qf (qL 0) (qf (qL 1) (qf (bBl false) (qf (qlI "") (qf (qc9 (qf qbf qC) ⟨rfl⟩) (qf (qfi (qL 1)) (qf (UU qC ⟨rfl⟩) (qf (bBl true) qC)))))))) ⟨rfl⟩) (bV 2)))) VZ) (QF (YE (eOf (UU (qf (bO qZ (bV 1) (qL 1)) (qf (bO (opI (·-·)) (bV 1) (qL 1)) (qf (bO (opI (·-·)) (qL 0) (bV 1)) (qf (bO qZ (bV 1) (qL 2)) qC)))) ⟨rfl⟩)) 10 [false,true] ⟨rfl⟩ ⟨rfl⟩) (qbq (eOf (bO Y9 (bO qZ (bV 10) (UU (qf (bO (VX false) (bV 1) (qL 1)) (qf (qD (N2 true) (qf (bV 1) qC)) (qf (qc9 (qf (bV 1) qC) ⟨rfl⟩) (qf (bV 3) qC)))) ⟨rfl⟩)) (bV 2))))))))
def zc:Wm:=qiV jf 2 11 false
def U9:Rd (DSp zc.W false) 2 (K33.jg Bk.qI (PSp qt false)) zN:=X4 jf zN 2 false
def EB {x0:PyData} {n:Nat} {Q:QD}:zc.W [x0] n Q=(2=2/\jf.w [.un,.sh x0,.un,.un,.un,.un,.un,.un,.un,.un,.un] n (qdF false Q)):=id rfl
def zD:=((QF (YE (eOf (qD (zw (qN 7) true) (qf (bV 1) qC))) 4 [false,true] ⟨rfl⟩ ⟨rfl⟩) (QF (YE (eOf (bO Y9 (bV 4) (qfi (qL 1)))) 5 [false,false,false,false,true] ⟨rfl⟩ ⟨rfl⟩) (QF (wIf (cOf (bOr (bTb (bO (opB λi j=>decide (j<i)) (bV 2) (qL 0))) (bTb (bO (opB λi j=>decide (j<i)) (bV 3) (qL 0))))) (YE (eO Y9 (eOf (bV 4)) (eDr UA (aOf (qf (qD K5 (qf (bV 4) qC)) qC)))) 5 [false,false,false,false,true] ⟨rfl⟩ ⟨rfl⟩) VZ) (QF (YE (eDr (dSp zc false) (aOf (qf (qD (zw z6 false) (qf (bV 1) (qf (bV 5) qC))) qC))) 6 [false,true,false,false,false,true] ⟨rfl⟩ ⟨rfl⟩) (YE (eOf (qD (zw (zU 7) false) (qf (bV 1) (qf (bV 5) (qf (bV 6) qC))))) 1 [false,true,false,false,false,true,true] ⟨rfl⟩ ⟨rfl⟩))))):PwS 0 _)
def QN:PwS 0 (K33.QU Bk.qI (PSp (qN 7) true) (PSp z6 false) (DSp zc.W false) (PSp (zU 7) false)):=(QF (qla (iR (XI (eO XU (eOf (qL 1)) (qiT qlp (XI (qiY (eOf (bO (opB λi j=>decide (j<i)) (bV 2) (qL 1))) (eO (VX false) (eDr UA (aOf (qf (qL 3) qC))) (eOf (qL 0)))) (aOf qC)))) (aOf qC))) (gN 3) zD [false,false,true] ⟨rfl⟩ ⟨rfl⟩) (qaD 1))
def z4:Wm:=qiV QN 3 7 false
def XM:Rd (DSp z4.W false) 3 (K33.QU Bk.qI (PSp (qN 7) true) (PSp z6 false) (DSp zc.W false) (PSp (zU 7) false)) jC:=X4 QN jC 3 false
def WT {x0 x1:PyData} {n:Nat} {Q:QD}:z4.W [x0,x1] n Q=(3=3/\QN.w [.un,.sh x0,.sh x1,.un,.un,.un,.un] n (qdF false Q)):=id rfl
def qmw (S_law_world:Sp3) (S_flip_paper:Sp3) (S_law_spoilt:Sp3) (S_law_shows:Sp3) (S_shows_flips:Sp3) (S_law_two:Sp3) (S_law_marks:Sp3):TS3:=(qQ (qX (cb3 S_law_world (qc (v3 2) qq)) (V3 2 (zJ (gn3 3) (zJ (gn3 4) UR)))) (qQ (qX (cb3 S_flip_paper (qc (v3 3) (qc (v3 4) qq))) (gn3 5)) (qQ (ER (Y8 (qc (o3 (iC WR (·*·)) (c3 (.int 20)) (cb3 qge (qc (o3 (qbi true) (v3 5) (c3 .non)) qq))) qq)) (gn3 6) (qQ (qX (cb3 S_law_spoilt (qc (v3 2) (qc (v3 5) (qc (v3 6) qq)))) (gn3 7)) (qQ (qcc 8 9 (qc (cb3 (RR true) (qc (v3 7) qq)) (qc (cb3 S_law_shows (qc (v3 3) (qc (v3 4) (qc (v3 7) qq)))) qq))) (qQ (qX (cb3 S_shows_flips (qc (v3 3) (qc (v3 4) (qc (v3 7) qq)))) (gn3 10)) (YF (or3 (LC (tb3 (C8 (λt=>zL t "bool") (v3 10)))) (or3 (tb3 (o3 (YO true) (v3 10) (v3 9))) (tb3 (o3 (YO true) (cb3 (RR true) (qc (v3 7) qq)) (v3 8))))) (zX (c3 (.bl false))) zR))))) (qQ (YF (qbw (tb3 (o3 (qbi true) (v3 5) (c3 .non))) (tb3 (o3 (qll true) (cb3 S_shows_flips (qc (v3 3) (qc (v3 4) (qc (v3 5) qq)))) (c3 (.bl true))))) (zX (c3 (.bl false))) zR) (qQ (qX (cb3 S_law_marks (qc (v3 2) (qc (c3 (.int 4)) (qc (cb3 S_law_two (qc (o3 JT (o3 ix3 (v3 3) (c3 (.int 1))) (o3 ix3 (v3 3) (c3 (.int 2)))) qq)) qq)))) (gn3 11)) (YF (tb3 (o3 (qbi true) (v3 5) (c3 .non))) (qQ (qX (cb3 S_law_shows (qc (v3 3) (qc (v3 11) (qc (v3 5) qq)))) (gn3 9)) (qQ (qX (cb3 S_shows_flips (qc (v3 3) (qc (v3 11) (qc (v3 5) qq)))) (gn3 10)) (YF (or3 (LC (tb3 (C8 (λt=>zL t "bool") (v3 10)))) (tb3 (o3 (YO true) (v3 10) (v3 9)))) (zX (c3 (.bl false))) zR))) zR))))))
def EH:=((QF (YE (eDr (dSp z4 false) (aOf (qf (bV 5) (qf (bV 6) qC)))) 7 [false,false,false,false,false,true,true] ⟨rfl⟩ ⟨rfl⟩) (QF (qia (aOf (qf (qD (N2 true) (qf (bV 7) qC)) (qf (qD (zw qR false) (qf (bV 3) (qf (bV 4) (qf (bV 7) qC)))) qC))) 8 9 [false,false,false,true,true,false,false,true] ⟨rfl⟩ ⟨rfl⟩) (QF (YE (eOf (qD (zw qA false) (qf (bV 3) (qf (bV 4) (qf (bV 7) qC))))) 10 [false,false,false,true,true,false,false,true] ⟨rfl⟩ ⟨rfl⟩) (wIf (cOf (bOr (qb9 (bTb (TM (λt=>zL t "bool") (bV 10)))) (bOr (bTb (bO (VX true) (bV 10) (bV 9))) (bTb (bO (VX true) (qD (N2 true) (qf (bV 7) qC)) (bV 8)))))) (qbq (eOf (bBl false))) VZ)))):PwS 2 _)
def qcn:PwS 2 (qmw (DSp jo.W false) (PSp zh true) (DSp z4.W false) (PSp qR false) (PSp qA false) (PSp qp false) (DSp zn.W true)):=(QF (qgX (eDr (dSp jo false) (aOf qC)) (KA 2 (jJ (gN 3) (jJ (gN 4) KO))) [] ⟨rfl⟩ ⟨rfl⟩) (QF (YE (eOf (qD (zw zh true) (qf (bV 3) (qf (bV 4) qC)))) 5 [false,false,false,true,true] ⟨rfl⟩ ⟨rfl⟩) (QF (qla (iOf (qj5 (qf (bO (opC WR (·*·)) (qL 20) (qD qlp (qf (bO (MS true) (bV 5) qbf) qC))) qC))) (gN 6) EH [false,false,false,false,false,true] ⟨rfl⟩ ⟨rfl⟩) (QF (wIf (cOf (qfh (bTb (bO (MS true) (bV 5) qbf)) (bTb (bO (qhu true) (qD (zw qA false) (qf (bV 3) (qf (bV 4) (qf (bV 5) qC)))) (bBl true))))) (qbq (eOf (bBl false))) VZ) (QF (YE (eDr (dSp zn true) (aOf (qf (qL 4) (qf (qD (zw qp false) (qf (bO XU (bO Y9 (bV 3) (qL 1)) (bO Y9 (bV 3) (qL 2))) qC)) qC)))) 11 [false,false,false,true] ⟨rfl⟩ ⟨rfl⟩) (wIf (cOf (bTb (bO (MS true) (bV 5) qbf))) (QF (YE (eOf (qD (zw qR false) (qf (bV 3) (qf (bV 11) (qf (bV 5) qC))))) 9 [false,false,false,true,false,true,false,false,false,false,false,true] ⟨rfl⟩ ⟨rfl⟩) (QF (YE (eOf (qD (zw qA false) (qf (bV 3) (qf (bV 11) (qf (bV 5) qC))))) 10 [false,false,false,true,false,true,false,false,false,false,false,true] ⟨rfl⟩ ⟨rfl⟩) (wIf (cOf (bOr (qb9 (bTb (TM (λt=>zL t "bool") (bV 10)))) (bTb (bO (VX true) (bV 10) (bV 9))))) (qbq (eOf (bBl false))) VZ))) VZ))))))
def qjR (h:∀ k:Nat,k<=60->qcn.w [.un,.sh (.int k),.un,.un,.un,.un,.un,.un,.un,.un,.un,.un] 0 okW):Rd WE 1 (K33.qfS Bk.Z4 (DSp jo.W false) (PSp zh true) (DSp z4.W false) (PSp qR false) (PSp qA false) (PSp qp false) (DSp zn.W true)) qaq:=qci qcn qaq 6 9 ⟨by decide,by decide⟩ rfl h
end K33
namespace K33
open PySem L2 L3 Pu Pv
open Bk (pop qW qw qg Dl)
def p2 {t:Nat} (h:t<=8):0<(2:Int) ^ t/\(2:Int) ^ t<=256:=by
 have h1:2 ^ t<=2 ^ 8:=Nat.pow_le_pow_right (by omega) h;have h2:0<2 ^ t:=Nat.pow_pos (by omega);have h3:((2 ^ t:Nat):Int)=2 ^ t:=by simp
 omega
def LV {t:Nat} (h:t<=8):qp [.int (t:Int)]=some (.int (2 ^ t)):=by
 have e:L2.atI [PyData.int 1,.int 2,.int 4,.int 8,.int 16,.int 32,.int 64,.int 128,.int 256] (t:Int)=some (.int (2 ^ t)):=by
  have:t=0\/t=1\/t=2\/t=3\/t=4\/t=5\/t=6\/t=7\/t=8:=by omega
  rcases this with rfl|rfl|rfl|rfl|rfl|rfl|rfl|rfl|rfl<;>rfl
 rw [LR]
 try simp only [Pu.pwA,VQ,e]
def qlc {c:Nat} (h:c<512):ze [.int (c:Int)]=some (.bool (decide (pop 64 c%2=1))):=by
 rw [LM]
 try simp (disch:=omega) only [Pu.pwA,VT,qea]
 refine YT (Q:=λo=>YB false o=_) (D6 0 (9:Int).toNat) (λi ρ=>∃ s2,ρ=[.sh (.int (c:Int)),.sh (.int ((pop i c:Nat):Int)),s2]) ⟨_,rfl⟩ ?_ ?_
 ·rintro i x ρ hx ⟨s2,rfl⟩;obtain ⟨hi,rfl⟩:=KC hx;have pi:=p2 (show i<=8 by omega);have e2:((pop i c:Nat):Int)+(c:Int)/2 ^ i%2=((pop (i+1) c:Nat):Int):=by rw [CA];simp
  try simp (disch:=omega) only [Pu.pwA,Int.zero_add,LV (show i<=8 by omega),qjS,qcO,e2]
  exact ⟨_,rfl⟩
 ·rintro ρ ⟨s2,rfl⟩;have e:decide (pop 64 c%2=1)=decide (((pop 9 c:Nat):Int)%2=1):=by
   rw [qaL (i:=9) (j:=64) (by omega) (by omega)];by_cases hy:pop 9 c%2=1
   ·have:((pop 9 c:Nat):Int)%2=1:=by omega
    simp [hy,this]
   ·have:¬ ((pop 9 c:Nat):Int)%2=1:=by omega
    simp [hy,this]
  have l9:(D6 0 (9:Int).toNat).length=9:=by simp [D6]
  rw [l9]
  try simp (disch:=omega) only [Pu.pwA,qcO,e]
def qoa {h l:Nat} {ms:List Int} {n:Int} (hm:∀ m∈ms,0<=m/\m<512) (hl:ms.length<=8):zZ [dlD (.bits h l ms),.int n]=some (.int (qg ms n)):=by
 rw [SS]
 try simp only [Pu.pwA,J8,dlD,YY]
 refine YT (Q:=λo=>YB false o=_) (ms.zipIdx 0) (λi ρ=>∃ s3 s4,ρ=[.sh (dlD (.bits h l ms)),.sh (.int n),.sh (.int (qw n 0 (ms.take i))),s3,s4]) ⟨_,_,rfl⟩ ?_ ?_
 ·rintro i p ρ hp ⟨s3,s4,rfl⟩;rw [List.getElem?_zipIdx] at hp;obtain ⟨m,hx,rfl⟩:=Option.map_eq_some_iff.mp hp;have hi:=(List.getElem?_eq_some_iff.mp hx).1;have tk:ms.take (i+1)=ms.take i++[m]:=by rw [List.take_succ,hx];rfl
  have mm:=hm m (mem_of_getElem? hx);have ln:(ms.take i).length=i:=by simp;omega
  have r:=PyProof.Rows.bitAnd_range n mm.1;obtain ⟨c,hc⟩:=Int.eq_ofNat_of_zero_le r.1;have od:qW n m=decide (pop 64 c%2=1):=by unfold qW;rw [hc];rfl
  have sn:=NM n m (ms.take i) 0;rw [ln,Nat.zero_add] at sn;by_cases o:qW n m=true
  ·rw [tk,sn,o];rw [o] at od
   try simp only [Pu.pwA,hc,qlc (c:=c) (by omega),← od,Nat.zero_add,LV (show i<=8 by omega)]
   exact ⟨_,_,rfl⟩
  ·rw [Bool.not_eq_true] at o;rw [tk,sn,o,if_neg Bool.false_ne_true,Int.add_zero];rw [o] at od
   try simp only [Pu.pwA,hc,qlc (c:=c) (by omega),← od]
   exact ⟨_,_,rfl⟩
 ·rintro ρ ⟨s3,s4,rfl⟩;rw [List.length_zipIdx,List.take_length]
  try simp only [Pu.pwA,qg]
def qoG (xs:List PyData):E8 xs (some 1) none=xs.drop 1:=by
 unfold E8;cases xs with
 |nil=>rfl
 |cons x r=>simp [HT.sIx]
def qhY {k:Nat}:∀ (n:Nat) (ks:List Int),ks.length=n->(∀ m∈ks,0<=m/\m<2 ^ k)->∀ f∈fl ks,f<2 ^ k:=by
 intro n;induction n with
 |zero=>
  intro ks h _ f hf;have:=List.eq_nil_of_length_eq_zero h;subst this;simp [fl] at hf;subst hf;exact Int.pow_pos (by omega)
 |succ n ih=>
  intro ks h hm f hf;obtain ⟨k',m,rfl,hl⟩:=j3 h;have hm':∀ z∈k',0<=z/\z<2 ^ k:=λz hz=>hm z (by simp [hz]);rw [ji] at hf;rcases List.mem_append.mp hf with hf|hf
  ·exact ih k' hl hm' f hf
  ·obtain ⟨g,hg,rfl⟩:=mem_map.mp hf;have m0:=hm m (by simp);exact T3 k g m (C4 n k' hl (λz hz=>(hm' z hz).1) g hg) (ih k' hl hm' g hg) m0.1 m0.2
def NZ:∀ ks:List Int,qdh (ks.map PyData.int)=0
 |[]=>rfl
 |k::ks=>by simp only [map_cons,qdh,dpt,NZ ks];rfl
def qe4:∀ ks js:List Int,JF (ks.map PyData.int) (js.map PyData.int)=some (decide (ks=js))
 |[],[]=>rfl
 |[],_::_=>by simp [JF]
 |_::_,[]=>by simp [JF]
 |k::ks,j::js=>by
  simp only [map_cons,JF,ZT,qe4 ks js];congr 1;by_cases h1:k=j<;>by_cases h2:ks=js<;>simp [h1,h2]
def qfQ (n:Bool) (ks js:List Int):eqD n (.list (ks.map PyData.int)) (.list (js.map PyData.int))=some (.bool (if n then !decide (ks=js) else decide (ks=js))):=by
 have h:qaO (.list (ks.map PyData.int)) (.list (js.map PyData.int))=none:=rfl;unfold eqD;rw [h];simp only;rw [zu (by simp [dpt,NZ])];simp only [ZT,qe4,Option.map_some]
def qcU (n:Bool) (ks:List Int):eqD n (.list (ks.map PyData.int)) (.list [])=some (.bool (if n then !decide (ks=[]) else decide (ks=[]))):=qfQ n ks []
def qa4 {xs:List PyData} {j:Nat} (h1:1<=j) (h2:j<=xs.length):L2.atI xs (-(j:Int))=xs[xs.length-j]?:=by
 have e:ixN xs.length (-(j:Int))=some (xs.length-j):=by
  unfold ixN;rw [if_neg (by omega),if_pos (by omega)];congr 1;omega
 unfold L2.atI;rw [e];rfl
def qdm {ks:List Int} {k:Nat} (h:k<ks.length):∃ m∈ks,(ks.map PyData.int)[k]?=some (.int m):=by
 rw [getElem?_map,getElem?_eq_getElem h];exact ⟨ks[k],List.getElem_mem h,rfl⟩
def nxM (M:Rho->Nat->Prop):QO:=λo m=>match o with|.nx ρ'=>M ρ' m|_=>False
def JI {M:Rho->Nat->Prop} {ρ:Rho} {n:Nat}:nxM M (.nx ρ) n=M ρ n:=id rfl
def SM {l:Nat} {t u:TS3} {x:PwS l t} {y:PwS l u} {ρ:Rho} {n:Nat} {Q:QO} (M:Rho->Nat->Prop) (h1:x.w ρ n (nxM M)) (h2:∀ ρ' m,M ρ' m->y.w ρ' m Q):(QF x y).w ρ n Q:=by
 rw [NY];refine x.mono h1 λo m h=>?_;cases o with
 |nx ρ'=>exact h2 _ _ h
 |_=>exact h.elim
def SG {k n:Nat} {Q:QD} (hn:n<900000) (hk:k<=8) (h:∀ ks:List Int,ks.length<=4->(∀ m∈ks,0<=m/\m<2 ^ k)->Q (.list (ks.map PyData.int)) (n+13)):zn.W [.int 4,.int (2 ^ k)] n Q:=by
 have pw:=p2 hk;rw [RT];refine ⟨rfl,?_⟩;unfold Z5;refine z8 λY1 h1=>?_
 try simp only [Pu.pwA]
 rw [h1];refine z8 λY2 h2=>?_
 try simp only [Pu.pwA]
 refine ⟨by omega,by omega,λc c0 c1=>?_⟩;have key:∃ cc:Nat,(cc<=4/\(0<cc->1<(2:Int) ^ k))/\cI WR (·*·) (.int c) (.int (if decide (1<(2:Int) ^ k)=true then 1 else 0))=some (.int (cc:Int)):=by
  by_cases z:1<(2:Int) ^ k
  ·refine ⟨c.toNat,⟨by omega,λ_=>z⟩,?_⟩;rw [decide_eq_true z,if_pos rfl,qc4 (by omega),Int.mul_one,Int.toNat_of_nonneg c0]
  ·refine ⟨0,⟨by omega,λy=>absurd y (by omega)⟩,?_⟩;rw [decide_eq_false z,if_neg Bool.false_ne_true,qc4 (by omega),Int.mul_zero];rfl
 obtain ⟨cc,⟨hc,hz⟩,e⟩:=key
 try simp (disch:=omega) only [Pu.pwA,e,qea]
 refine EM (D6 0 (cc:Int).toNat) Q0.mn (λi ρ n'=>n'<=n+1+3*i/\∃ (ks:List Int) (s4 s5 s6:Sl),ρ=[.un,.sh (.int 4),.sh (.int (2 ^ k)),.ow (ks.map PyData.int),s4,s5,s6]/\ks.length=i/\∀ m∈ks,0<=m/\m<2 ^ k) ⟨by omega,[],_,_,_,rfl,rfl,by simp⟩ ?_ ?_
 ·rintro i x ρ n' hx ⟨hn',ks,s4,s5,s6,rfl,lk,hks⟩;obtain ⟨hi,rfl⟩:=KC hx;have z:=hz (by omega);refine ⟨_,rfl,?_⟩;unfold Q0;refine z8 λY3 h3=>?_
  try simp only [Pu.pwA]
  refine ⟨by omega,by omega,λway y0 y1=>?_⟩;rw [h3];refine z8 λY4 h4=>?_
  try simp only [Pu.pwA]
  refine ⟨by omega,by omega,λm0 a0 a1=>?_⟩;rw [h4];refine SM (λρ' n2=>n2<=n'+3/\∃ m:Int,ρ'=[.un,.sh (.int 4),.sh (.int (2 ^ k)),.ow (ks.map PyData.int),.sh (.int (0+(i:Int))),.sh (.int way),.sh (.int m)]/\0<=m/\m<2 ^ k) ?_ ?_
  ·by_cases w0:way=0
   ·by_cases e0:ks=[]
    ·try simp only [Pu.pwA,w0,e0,qcU,JI]
     exact ⟨by omega,1+m0,rfl,by omega,by omega⟩
    ·have lp:0<ks.length:=by cases ks with|nil=>exact absurd rfl e0|cons a b=>simp
     try simp only [Pu.pwA,w0,e0,qcU,length_map,JI]
     refine ⟨by omega,by omega,λd d0 d1=>?_⟩;refine N8 (ks:=ks) d0 d1 λm hm=>?_
     try simp only [Pu.pwA,JI]
     exact ⟨by omega,m,rfl,(hks m hm).1,(hks m hm).2⟩
   ·try simp only [Pu.pwA,w0,JI]
    exact ⟨by omega,1+m0,rfl,by omega,by omega⟩
  ·rintro ρ' n2 ⟨hn2,m,rfl,m1,m2⟩;refine SM (λρ' n2=>n2<=n'+3/\∃ m:Int,ρ'=[.un,.sh (.int 4),.sh (.int (2 ^ k)),.ow (ks.map PyData.int),.sh (.int (0+(i:Int))),.sh (.int way),.sh (.int m)]/\0<=m/\m<2 ^ k) ?_ ?_
   ·by_cases w1:way=1
    ·by_cases l2:(1:Int)<(ks.length:Int)
     ·obtain ⟨a,ha,ea⟩:=qdm (ks:=ks) (k:=ks.length-1) (by omega);obtain ⟨b,hb,eb⟩:=qdm (ks:=ks) (k:=ks.length-2) (by omega);have ea':L2.atI (ks.map PyData.int) (-1)=some (.int a):=by
       have:=qa4 (xs:=ks.map PyData.int) (j:=1) (by omega) (by simp;omega);rw [length_map,ea] at this;exact this
      have eb':L2.atI (ks.map PyData.int) (-2)=some (.int b):=by
       have:=qa4 (xs:=ks.map PyData.int) (j:=2) (by omega) (by simp;omega);rw [length_map,eb] at this;exact this
      have xx:=T3 k a b (hks a ha).1 (hks a ha).2 (hks b hb).1 (hks b hb).2;have x0:=(zk (hks a ha).1 (hks b hb).1).1;by_cases ab:a=b
      ·try simp only [Pu.pwA,w1,l2,ea',eb',ab,length_map,JI]
       exact ⟨hn2,m,rfl,m1,m2⟩
      ·try simp only [Pu.pwA,w1,l2,ea',eb',ab,length_map,JI]
       exact ⟨hn2,_,rfl,x0,xx⟩
     ·try simp only [Pu.pwA,w1,l2,length_map,JI]
      exact ⟨hn2,m,rfl,m1,m2⟩
    ·try simp only [Pu.pwA,w1,JI]
     exact ⟨hn2,m,rfl,m1,m2⟩
   ·rintro ρ' n3 ⟨hn3,m,rfl,m1,m2⟩
    try simp only [Pu.pwA]
    refine ⟨by simp;omega,by omega,ks++[m],_,_,_,by rw [List.map_append];rfl,by simp [lk],λx hx=>?_⟩;rcases List.mem_append.mp hx with hx|hx
    ·exact hks x hx
    ·rw [List.mem_singleton.mp hx];exact ⟨m1,m2⟩
 ·rintro ρ n' ⟨hn',ks,s4,s5,s6,rfl,lk,hks⟩;rw [qby] at hn' lk
  try simp only [Pu.pwA,h2]
  exact ⟨n+13,by omega,h ks (by omega) hks⟩
def qeL {n:Nat} {Q:QD} (hn:n<800000) (h:∀ (hh l:Nat) (ms ks:List Int),(Dl.bits hh l ms).Ok->ks.length<=4->(∀ m∈ks,0<=m/\m<2 ^ (hh+l))->Q (.tuple [dlD (.bits hh l ms),.list (ks.map PyData.int)]) (n+30)):jo.W [] n Q:=by
 rw [CS];refine ⟨rfl,?_⟩;unfold ZX;refine z8 λY1 h1=>?_
 try simp only [Pu.pwA]
 refine ⟨by omega,by omega,λd d0 d1=>?_⟩;refine N8 (ks:=[2,2,3,4]) d0 (by simpa using d1) λm hm=>?_;have m4:2<=m/\m<=4:=by simp at hm;omega
 try simp only [Pu.pwA]
 refine ⟨by omega,by omega,λhh l ms hb lb ok=>?_⟩;have tw:qp [.int ((hh:Int)+(l:Int))]=some (.int (2 ^ (hh+l))):=by
  have:=LV (t:=hh+l) (by omega);simpa using this
 try simp only [Pu.pwA,dlD]
 rw [h1]
 try simp only [Pu.pwA,tw]
 refine SG (by omega) (by omega) λks lk hk=>?_
 try simp only [Pu.pwA]
 exact ⟨_,by omega,h hh l ms ks ok lk hk⟩
def X3 {gf:PyData->Option (List (Nat×PyData))} {bf:Rho->Option Ot} {α:Type} {g:α->PyData} {d:PyData} {b:Bool} (p:α->Bool) (J:Rho->Prop):∀ (xs:List α) {ρ:Rho},J ρ->(∀ x∈xs,∀ ρ,J ρ->∃ ρ',J ρ'/\((gf (g x)).bind λbs=>bf (V7 ρ bs))=some (if p x then .nx ρ' else .rt d b))->∃ ρ',J ρ'/\VY gf bf (xs.map g) ρ=some (if xs.all p then .nx ρ' else .rt d b)
 |[],ρ,h0,_=>⟨ρ,h0,rfl⟩
 |x::xs,ρ,h0,hs=>by
  obtain ⟨ρ1,h1,e1⟩:=hs x (by simp) ρ h0;obtain ⟨bs,e2,e3⟩:=obb e1;cases hp:p x with
  |true=>
   obtain ⟨ρ2,h2,e4⟩:=X3 p J xs h1 λy hy=>hs y (by simp [hy]);refine ⟨ρ2,h2,?_⟩;rw [hp,if_pos rfl] at e3;simp only [map_cons,VY,e2,Option.bind_some,e3,List.all_cons,hp,Bool.true_and];exact e4
  |false=>
   refine ⟨ρ1,h1,?_⟩;rw [hp,if_neg Bool.false_ne_true] at e3;simp only [map_cons,VY,e2,Option.bind_some,e3,List.all_cons,hp,Bool.false_and];rfl
def CO {gf:PyData->Option (List (Nat×PyData))} {bf:Rho->Option Ot} {α:Type} {g:α->PyData} {d:PyData} {b P:Bool} {J:Rho->Prop} (p:α->Bool) (J':Rho->Prop) (xs:List α) {ρ:Rho} (hP:xs.all p=P) (hJ:∀ ρ,J' ρ->J ρ) (h0:J' ρ) (hs:∀ x∈xs,∀ ρ,J' ρ->∃ ρ',J' ρ'/\((gf (g x)).bind λbs=>bf (V7 ρ bs))=some (if p x then .nx ρ' else .rt d b)):∃ ρ',J ρ'/\VY gf bf (xs.map g) ρ=some (if P then .nx ρ' else .rt d b):=by
 obtain ⟨ρ',h,e⟩:=X3 (gf:=gf) (bf:=bf) p J' xs h0 hs;rw [hP] at e;exact ⟨ρ',hJ _ h,e⟩
def qad {gf:PyData->Option (List (Nat×PyData))} {bf:Rho->Option Ot} {α:Type} {g:α->PyData} {d:PyData} {b:Bool} {ρ:Rho} {Q:Option Ot->Prop} {F:Ot->Option Ot} (p:α->Bool) (J:Rho->Prop) (xs:List α) (h0:J ρ) (hs:∀ x∈xs,∀ ρ,J ρ->∃ ρ',J ρ'/\((gf (g x)).bind λbs=>bf (V7 ρ bs))=some (if p x then .nx ρ' else .rt d b)) (k1:xs.all p=true->∀ ρ',J ρ'->Q (F (.nx ρ'))) (k2:xs.all p=false->Q (F (.rt d b))):Q ((VY gf bf (xs.map g) ρ).bind F):=by
 obtain ⟨ρ',h,e⟩:=X3 (gf:=gf) (bf:=bf) p J xs h0 hs;rw [e];cases hP:xs.all p with
 |true=>exact k1 hP ρ' h
 |false=>exact k2 hP
def pa1 (cs:List Int) (x:Int) (t:Nat):Bool:=(cs.zipIdx 0).all λq=>qW x q.1==decide (t=q.2)
def qb4 (m:Nat) (cs xs:List Int):Bool:=decide (xs.length=cs.length)&&(xs.zipIdx 0).all λp=>(decide (0<=p.1)&&decide (p.1<2 ^ m))&&pa1 cs p.1 p.2
def qmk (x:Int):zj [.int x]=some (.bool true):=by
 rw [UW]
 try simp only [Pu.pwA,jn]
 rfl
def JS (x:Int):qt [.int x]=some (.bool true):=by
 rw [jA]
 try simp only [Pu.pwA,zK]
 rfl
def MQ (x e:Int):qy [.int x,.int e]=some (.bool (decide (0<=x)&&decide (x<e))):=by
 rw [QQ]
 try simp only [Pu.pwA,zd,qmk]
 by_cases h:0<=x
 ·try simp only [Pu.pwA,h]
 ·try simp only [Pu.pwA,h]
def qnx {cs:List Int} {x:Int} {t:Nat} (hc:∀ c∈cs,0<=c/\c<2 ^ 64) (l:cs.length<=1000000):qz [.int x,.list (cs.map PyData.int),.int (t:Int)]=some (.bool (pa1 cs x t)):=by
 rw [DP]
 try simp only [Pu.pwA,jM]
 rw [JP (ds:=enD 0 (cs.map PyData.int)) (fs:=((cs.zipIdx 0).map λq=>qW x q.1==decide (t=q.2)).map PyData.bool)]
 ·try simp only [Pu.pwA,qg4,List.all_map,pa1]
  rfl
 ·try simp only [Pu.pwA]
 ·rw [YY,map_map];refine ZQ λq hq=>?_;have hm:q.1∈cs:=by
   obtain ⟨i,hi⟩:=List.mem_iff_getElem?.mp hq;rw [List.getElem?_zipIdx] at hi;obtain ⟨c,hc,rfl⟩:=Option.map_eq_some_iff.mp hi;exact mem_of_getElem? hc
  have od:=qhP (n:=x) (hc q.1 hm).1 (hc q.1 hm).2;have e:decide ((q.2:Int)=(t:Int))=decide (t=q.2):=by
   rw [decide_eq_decide];omega
  try simp only [Pu.pwA,EX,od,e,Function.comp_def]
  cases qW x q.1<;>cases decide (t=q.2)<;>rfl
 ·simp;omega
def qff {α:Type} {xs:List α} {p:α×Nat} (h:p∈xs.zipIdx 0):p.1∈xs:=by
 obtain ⟨i,hi⟩:=List.mem_iff_getElem?.mp h;rw [List.getElem?_zipIdx] at hi;obtain ⟨c,hc,rfl⟩:=Option.map_eq_some_iff.mp hi;exact mem_of_getElem? hc
def WY {α:Type} (f:α->Bool):∀ (xs:List α) (k:Nat),((xs.zipIdx k).all λp=>f p.1)=xs.all f
 |[],_=>rfl
 |x::xs,k=>by simp only [List.zipIdx_cons,List.all_cons,WY f xs (k+1)]
def WZ {α:Type} (f g:α->Bool):∀ (xs:List α),(xs.all λx=>f x&&g x)=(xs.all f&&xs.all g)
 |[]=>rfl
 |x::xs=>by
  simp only [List.all_cons,WZ f g xs];cases f x<;>cases g x<;>cases xs.all f<;>cases xs.all g<;>rfl
def VG:zL "list" "list" = true:=rfl
def qlZ {h l:Nat} {ms ks xs:List Int} (hm:∀ m∈ms,0<=m/\m<512) (hl:ms.length<=8) (lk:ks.length<=8) (lx:xs.length<=1000):qA [dlD (.bits h l ms),.list (ks.map PyData.int),.list (xs.map PyData.int)]=some (.bool (qb4 ms.length (ks.map (qg ms)) xs)):=by
 rw [jv];unfold qb4;by_cases e:xs.length=ks.length
 ·have e':(xs.length:Int)=(ks.length:Int):=by omega
  try simp only [Pu.pwA,qT,VG,length_map,e,e']
  rw [JP (ds:=xs.map PyData.int) (fs:=(xs.map λx=>decide (0<=x)&&decide (x<2 ^ ms.length)).map PyData.bool)]
  rotate_left
  ·try simp only [Pu.pwA]
  ·rw [map_map];refine ZQ λx hx=>?_;have sh:cI W7 (λi j=>i*2 ^ j.toNat) (.int 1) (.int (ms.length:Int))=some (.int (2 ^ ms.length)):=by
    rw [TF ⟨by omega,by omega,by decide⟩,Int.one_mul,Int.toNat_natCast]
   try simp only [Pu.pwA,EX,dlD,sh,length_map,MQ,Function.comp_def]
  ·simp;omega
  try simp only [Pu.pwA,RM,List.all_map]
  rw [WZ,WY (λx=>decide (0<=x)&&decide (x<2 ^ ms.length))];have ic:(xs.all (id∘λx=>decide (0<=x)&&decide (x<2 ^ ms.length)))=xs.all λx=>decide (0<=x)&&decide (x<2 ^ ms.length):=rfl;rw [ic];cases xs.all λx=>decide (0<=x)&&decide (x<2 ^ ms.length) with
  |false=>try simp only [Pu.pwA]
  |true=>
   have mb:=qlC (h:=h) (l:=l) (ms:=ms) (xs:=ks) (λm hx=>⟨(hm m hx).1,by have:=(hm m hx).2;omega⟩) (by omega) (by omega)
   try simp only [Pu.pwA,mb]
   rw [JP (ds:=enD 0 (xs.map PyData.int)) (fs:=((xs.zipIdx 0).map λp=>pa1 (ks.map (qg ms)) p.1 p.2).map PyData.bool)]
   ·try simp only [Pu.pwA,RM,List.all_map]
    simp [Function.comp_def]
   ·try simp only [Pu.pwA]
   ·rw [YY];refine (ZQ (k:=λp:Int×Nat=>PyData.bool (pa1 (ks.map (qg ms)) p.1 p.2)) λq hq=>?_).trans (by rw [map_map];rfl);have ta:=qnx (cs:=ks.map (qg ms)) (x:=q.1) (t:=q.2) (λc hc=>by
     obtain ⟨k,_,rfl⟩:=mem_map.mp hc;have r:=QL k ms;have pw:=p2 hl;omega) (by simp;omega)
    try simp only [Pu.pwA,EX,ta,Function.comp_def]
   ·simp;omega
 ·have e':¬ (xs.length:Int)=(ks.length:Int):=by omega
  try simp only [Pu.pwA,qT,VG,length_map,e,e']
def NN {cs:List Int} {x:Int} {t:Nat}:pa1 cs x t=(cs.zipIdx 0).all λq=>qW x q.1==decide (t=q.2):=rfl
def XR (f:Int->Int):∀ (ks:List Int) (k:Nat) (p:Int×Nat->Bool),((ks.map f).zipIdx k).all p=(ks.zipIdx k).all λq=>p (f q.1,q.2)
 |[],_,_=>rfl
 |a::ks,k,p=>by simp only [map_cons,List.zipIdx_cons,List.all_cons,XR f ks (k+1) p]
def qoJ {h l:Nat} {ms ks xs:List Int} (hm:∀ m∈ms,0<=m/\m<512) (hl:ms.length<=8):qR [dlD (.bits h l ms),.list (ks.map PyData.int),.list (xs.map PyData.int)]=some (.bool (qb4 ms.length (ks.map (qg ms)) xs)):=by
 have tw:=LV hl;rw [JX];unfold qb4;by_cases e:xs.length=ks.length
 ·have e':(xs.length:Int)=(ks.length:Int):=by omega
  try simp only [Pu.pwA,zG,VG,length_map,e,e',YY]
  refine qad (Q:=λo=>YB false o=_) (d:=.bool false) (b:=false) (λp:Int×Nat=>(decide (0<=p.1)&&decide (p.1<2 ^ ms.length))&&pa1 (ks.map (qg ms)) p.1 p.2) (λρ=>∃ s3 s4 s5 s6,ρ=[.sh (dlD (.bits h l ms)),.sh (.list (ks.map PyData.int)),.sh (.list (xs.map PyData.int)),s3,s4,s5,s6]) (xs.zipIdx 0) ⟨_,_,_,_,rfl⟩ ?_ ?_ ?_
  ·rintro ⟨x,t⟩ hx ρ ⟨s3,s4,s5,s6,rfl⟩;by_cases i0:0<=x
   ·by_cases i1:x<2 ^ ms.length
    ·try simp only [Pu.pwA,JS,i0,i1,tw,dlD,length_map,YY,decide_true,Bool.true_and]
     refine CO (p:=λq:Int×Nat=>qW x (qg ms q.1)==decide (t=q.2)) (λρ=>∃ s5 s6,ρ=[.sh (dlD (.bits h l ms)),.sh (.list (ks.map PyData.int)),.sh (.list (xs.map PyData.int)),.sh (.int (t:Int)),.sh (.int x),s5,s6]) (ks.zipIdx 0) ?_ (λρ z=>?_) ⟨_,_,rfl⟩ ?_
     ·rw [NN,XR]
     ·obtain ⟨s5,s6,rfl⟩:=z;exact ⟨_,_,_,_,rfl⟩
     ·rintro ⟨k,u⟩ hk ρ ⟨s5,s6,rfl⟩;have rg:=QL k ms;have pw:=p2 hl;have lb:=qoa (h:=h) (l:=l) (n:=k) hm hl;have r:=PyProof.Rows.bitAnd_range x rg.1;obtain ⟨c,hc⟩:=Int.eq_ofNat_of_zero_le r.1;have od:qW x (qg ms k)=decide (pop 64 c%2=1):=by unfold qW;rw [hc];rfl
      have e:decide ((t:Int)=(u:Int))=decide (t=u):=by rw [decide_eq_decide];omega
      refine ⟨_,⟨.sh (.int (u:Int)),.sh (.int k),rfl⟩,?_⟩;simp only [dlD] at lb
      try simp only [Pu.pwA,dlD,lb,hc,qlc (c:=c) (by omega),← od,e]
      cases qW x (qg ms k)<;>cases decide (t=u)<;>rfl
    ·refine ⟨_,⟨.sh (.int (t:Int)),.sh (.int x),s5,s6,rfl⟩,?_⟩
     try simp only [Pu.pwA,JS,i0,i1,tw,dlD,length_map,decide_true,decide_false,Bool.and_false,Bool.false_and]
   ·refine ⟨_,⟨.sh (.int (t:Int)),.sh (.int x),s5,s6,rfl⟩,?_⟩
    try simp only [Pu.pwA,JS,i0,decide_false,Bool.false_and]
  ·rintro hp ρ ⟨s3,s4,s5,s6,rfl⟩
   try simp only [Pu.pwA,hp]
  ·intro hp
   try simp only [Pu.pwA,hp]
 ·have e':¬ (xs.length:Int)=(ks.length:Int):=by omega
  try simp only [Pu.pwA,zG,VG,length_map,e,e']
def EQ:∀ (k:Nat) (n m:Int),par k n m=par k m n
 |0,_,_=>rfl
 |k+1,n,m=>by simp only [par,EQ k (n/2) (m/2),Int.mul_comm]
def UK {x c d:Int} (hx:0<=x) (hc:0<=c) (hd:0<=d):qW x (Builtin.bitXor c d)=(qW x c != qW x d):=by
 have a:=YU hx (zk hc hd).1;have b:=YU hx hc;have c':=YU hx hd;have l:=R1 64 c d x hc hd;rw [EQ 64 _ x,EQ 64 c x,EQ 64 d x] at l;cases h1:qW x (Builtin.bitXor c d)<;>cases h2:qW x c<;>cases h3:qW x d<;>simp [h1,h2,h3] at a b c' ⊢<;>omega
def qfz (x:Int):qW x 0=false:=by
 have r:=PyProof.Rows.bitAnd_range x (show (0:Int)<=0 by omega);have e:Builtin.bitAnd x 0=0:=by omega
 unfold qW;rw [e];rfl
def EO (x y:Int):qW x y=qW y x:=by unfold qW;rw [PyProof.Rows.bitAnd_comm x y]
def WX {x c d:Int} (hx:0<=x) (hc:0<=c) (hd:0<=d):qW (Builtin.bitXor c d) x=(qW c x != qW d x):=by
 rw [EO _ x,EO c x,EO d x,UK hx hc hd]
def qhV:∀ (k:Nat) (l:Int),par k 0 l=0
 |0,_=>rfl
 |k+1,l=>by simp [par,qhV k]
def qa2:∀ (h k:Nat) (l:Int),h<k->par k (2 ^ h) l=l/2 ^ h%2
 |0,k+1,l,_=>by
  have e:(1:Int)/2=0:=by decide
  simp [par,e,qhV]
 |h+1,k+1,l,hk=>by
  have e1:(2:Int) ^ (h+1)%2=0:=by rw [Int.pow_succ];omega
  have e2:(2:Int) ^ (h+1)/2=2 ^ h:=by rw [Int.pow_succ];omega
  simp only [par,e1,e2,Int.zero_mul,Int.zero_add];rw [qa2 h k (l/2) (by omega),Int.ediv_ediv_of_nonneg (by omega),← Int.pow_succ']
def R6 {h:Nat} {l:Int} (hh:h<64) (hl:0<=l):qW (2 ^ h) l=decide (l/2 ^ h%2=1):=by
 have p:(0:Int)<=2 ^ h:=Int.le_of_lt (Int.pow_pos (by omega));have e:=YU p hl;rw [qa2 h 64 l hh] at e;cases q:qW (2 ^ h) l<;>simp [q] at e ⊢<;>omega
def NI:∀ (k:Nat) (x y:Int),0<=x->0<=y->Builtin.bitXor x y/2 ^ k=Builtin.bitXor (x/2 ^ k) (y/2 ^ k)
 |0,x,y,_,_=>by simp
 |k+1,x,y,hx,hy=>by
  obtain ⟨z0,z1,z2⟩:=zk hx hy;have ih:=NI k (x/2) (y/2) (by omega) (by omega);rw [Int.pow_succ',← Int.ediv_ediv_of_nonneg (by omega),← Int.ediv_ediv_of_nonneg (by omega),← Int.ediv_ediv_of_nonneg (by omega),z2,ih]
def hb (s:Int):Nat:=s.natAbs.log2
def qfk {s:Int} (h:0<s):2 ^ hb s<=s:=by
 have:=Nat.log2_self_le (n:=s.natAbs) (by omega);have e:((2 ^ s.natAbs.log2:Nat):Int)=2 ^ s.natAbs.log2:=by simp
 unfold hb;omega
def qnh {s:Int} (h:0<s):s<2 ^ (hb s+1):=by
 have:=Nat.lt_log2_self (n:=s.natAbs);have e:((2 ^ (s.natAbs.log2+1):Nat):Int)=2 ^ (s.natAbs.log2+1):=by simp
 unfold hb;omega
def qev {s:Int} {m:Nat} (h:0<s) (hm:s<2 ^ m):hb s<m:=by
 have:=qfk h;rcases Nat.lt_or_ge (hb s) m with z|z
 ·exact z
 ·have h1:2 ^ m<=2 ^ hb s:=Nat.pow_le_pow_right (by omega) z;have e:((2 ^ m:Nat):Int)=2 ^ m:=by simp
  have e2:((2 ^ hb s:Nat):Int)=2 ^ hb s:=by simp
  omega
def qdN {s:Int} (h:0<s):s/2 ^ hb s=1:=by
 have h1:=qfk h;have h2:=qnh h;rw [Int.pow_succ] at h2;have p:(0:Int)<2 ^ hb s:=Int.pow_pos (by omega);have a:=Int.mul_ediv_add_emod s (2 ^ hb s);have b:=Int.emod_nonneg s (show (2:Int) ^ hb s≠0 by omega);have c:=Int.emod_lt_of_pos s p;generalize hq:s/2 ^ hb s=q at a ⊢;generalize (2:Int) ^ hb s=P at *;have q1:0<q:=by
  apply Classical.byContradiction;intro z;have:P*q<=P*0:=Int.mul_le_mul_of_nonneg_left (by omega) (by omega);omega
 have q2:q<2:=by
  apply Classical.byContradiction;intro z;have:P*2<=P*q:=Int.mul_le_mul_of_nonneg_left (by omega) (by omega);omega
 omega
def qeW {l s:Int} (hl:0<=l) (hs:0<s) (h64:hb s<64):qW (2 ^ hb s) (if Builtin.bitXor l s<l then Builtin.bitXor l s else l)=false:=by
 have s0:0<=s:=by omega
 have d:=NI (hb s) l s hl s0;rw [qdN hs] at d;have p:(0:Int)<2 ^ hb s:=Int.pow_pos (by omega);have y0:0<=l/2 ^ hb s:=Int.ediv_nonneg hl (by omega);obtain ⟨z0,z1,z2⟩:=zk y0 (show (0:Int)<=1 by omega);have z3:Builtin.bitXor (l/2 ^ hb s/2) (1/2)=l/2 ^ hb s/2:=by
  have:(1:Int)/2=0:=by decide
  rw [this,SI (by omega)]
 rw [z3] at z2;have x0:=(zk hl s0).1;have ol:=R6 h64 hl;have ox:=R6 h64 x0;rw [d] at ox;have a1:=Int.mul_ediv_add_emod l (2 ^ hb s);have a2:=Int.emod_nonneg l (show (2:Int) ^ hb s≠0 by omega);have a3:=Int.emod_lt_of_pos l p;have b1:=Int.mul_ediv_add_emod (Builtin.bitXor l s) (2 ^ hb s);have b2:=Int.emod_nonneg (Builtin.bitXor l s) (show (2:Int) ^ hb s≠0 by omega);have b3:=Int.emod_lt_of_pos (Builtin.bitXor l s) p;rw [d] at b1;have par:l/2 ^ hb s%2=0\/l/2 ^ hb s%2=1:=by omega
 rcases par with e|e
 ·have e2:Builtin.bitXor (l/2 ^ hb s) 1=l/2 ^ hb s+1:=by omega
  rw [e2,Int.mul_add] at b1;rw [if_neg (by omega),ol,e];rfl
 ·have e2:Builtin.bitXor (l/2 ^ hb s) 1=l/2 ^ hb s-1:=by omega
  rw [e2] at b1 ox;rw [Int.mul_sub] at b1;rw [if_pos (by omega),ox];have:(l/2 ^ hb s-1)%2=0:=by omega
  rw [this];rfl
def qbZ {s:Int} (hs:0<s) (h64:hb s<64):qW (2 ^ hb s) s=true:=by
 rw [R6 h64 (by omega),qdN hs];rfl
def stp (l s:Int):Int:=if Builtin.bitXor l s<l then Builtin.bitXor l s else l
def red (ss:List Int) (x:Int):Int:=ss.foldl stp x
def qbJ (ss:List Int) (n:Int):List Int:=if 0<red ss n then ss++[red ss n] else ss
def qx (ns:List Int):List Int:=ns.foldl qbJ []
def K6:∀ (n:Nat) (ns:List Int),ns.length=n->(qx ns).length<=n:=by
 intro n;induction n with
 |zero=>intro ns h;have:=List.eq_nil_of_length_eq_zero h;subst this;exact Nat.le_refl 0
 |succ n ih=>
  intro ns h;obtain ⟨k',m,rfl,hl⟩:=j3 h;have:=ih k' hl;unfold qx at this ⊢;rw [List.foldl_append];show (qbJ (k'.foldl qbJ []) m).length<=n+1;unfold qbJ;split
  ·simp;exact this
  ·exact Nat.le_succ_of_le this
def qnE {ns:List Int} (h:ns.length<=1000):QM [.list (ns.map PyData.int)]=some (.list ((qx ns).map PyData.int)):=by
 rw [MG]
 try simp only [Pu.pwA,EL]
 refine YT (Q:=λo=>YB true o=_) ns (λi ρ=>∃ s2 s3 s4,ρ=[.sh (.list (ns.map PyData.int)),.ow ((qx (ns.take i)).map PyData.int),s2,s3,s4]) ⟨_,_,_,rfl⟩ ?_ ?_
 ·rintro i n ρ hx ⟨s2,s3,s4,rfl⟩;have hi:=(List.getElem?_eq_some_iff.mp hx).1;have tk:ns.take (i+1)=ns.take i++[n]:=by rw [List.take_succ,hx];rfl
  have ln:=K6 i (ns.take i) (by simp;omega);have sn:qx (ns.take i++[n])=qbJ (qx (ns.take i)) n:=by unfold qx;rw [List.foldl_append];rfl
  try simp only [Pu.pwA,qe3]
  refine YT (Q:=λo=>Nx o _) (qx (ns.take i)) (λj ρ=>∃ s4,ρ=[.sh (.list (ns.map PyData.int)),.ow ((qx (ns.take i)).map PyData.int),.sh (.int n),.sh (.int (red ((qx (ns.take i)).take j) n)),s4]) ⟨_,rfl⟩ ?_ ?_
  ·rintro j s ρ hs ⟨s4,rfl⟩;have tj:(qx (ns.take i)).take (j+1)=(qx (ns.take i)).take j++[s]:=by rw [List.take_succ,hs];rfl
   have e:red ((qx (ns.take i)).take j++[s]) n=(if Builtin.bitXor (red ((qx (ns.take i)).take j) n) s<red ((qx (ns.take i)).take j) n then Builtin.bitXor (red ((qx (ns.take i)).take j) n) s else red ((qx (ns.take i)).take j) n):=by
    unfold red;rw [List.foldl_append];rfl
   try simp only [Pu.pwA,qlU,qlN,qhm]
   rw [tj,e];exact ⟨_,rfl⟩
  ·rintro ρ ⟨s4,rfl⟩;rw [List.take_length];by_cases z:0<red (qx (ns.take i)) n
   ·try simp only [Pu.pwA,z]
    rw [qfD (ds:=(qx (ns.take i)).map PyData.int) rfl (by simp;omega)]
    try simp only [Pu.pwA]
    rw [tk,sn,qbJ,if_pos z,List.map_append];exact ⟨_,_,_,rfl⟩
   ·try simp only [Pu.pwA,z]
    rw [tk,sn,qbJ,if_neg z];exact ⟨_,_,_,rfl⟩
 ·rintro ρ ⟨s2,s3,s4,rfl⟩;rw [List.take_length]
  try simp only [Pu.pwA]
def qjY {l s:Int} (hl:0<=l) (hs:0<=s):0<=stp l s:=by
 unfold stp;split
 ·exact (zk hl hs).1
 ·exact hl
def TQ {c':List Int} {c:Int} (nn:∀ m∈c',0<=m) (hc:0<=c):∀ (ss:List Int) (x:Int),(∀ s∈ss,s∈fl c')->(∃ w∈fl c',x=Builtin.bitXor c w)->∃ w∈fl c',ss.foldl stp x=Builtin.bitXor c w
 |[],x,_,h=>h
 |s::r,x,hm,⟨w,hw,e⟩=>by
  rw [List.foldl_cons];refine TQ nn hc r _ (λy hy=>hm y (by simp [hy])) ?_;have fn:=C4 c'.length c' rfl nn;have ms:=hm s (by simp);unfold stp;split
  ·exact ⟨Builtin.bitXor w s,qkv c'.length c' rfl nn w hw s ms,by rw [e,xor_assoc hc (fn w hw) (fn s ms)]⟩
  ·exact ⟨w,hw,e⟩
def TH:∀ (ss dn:List Int) (x:Int),0<=x->(∀ s∈ss,0<s/\hb s<64)->(∀ d∈dn,0<=(2:Int) ^ hb d/\qW (2 ^ hb d) x=false)->(∀ d∈dn,∀ s∈ss,qW (2 ^ hb d) s=false)->ss.Pairwise (λa b=>qW (2 ^ hb a) b=false)->0<=ss.foldl stp x/\∀ d∈dn++ss,qW (2 ^ hb d) (ss.foldl stp x)=false
 |[],dn,x,hx,_,h1,_,_=>⟨hx,λd hd=>(h1 d (by simpa using hd)).2⟩
 |s::r,dn,x,hx,hp,h1,h2,h3=>by
  rw [List.foldl_cons];rw [List.pairwise_cons] at h3;have ps:=hp s (by simp);have ih:=TH r (dn++[s]) (stp x s) (qjY hx (by omega)) (λy hy=>hp y (by simp [hy])) (λd hd=>?_) (λd hd y hy=>?_) h3.2
  ·rw [List.append_assoc] at ih;exact ih
  ·refine ⟨Int.le_of_lt (Int.pow_pos (by omega)),?_⟩;rcases List.mem_append.mp hd with z|z
   ·have a:=h1 d z;have b:=h2 d z s (by simp);unfold stp;split
    ·rw [UK a.1 hx (by omega),a.2,b];rfl
    ·exact a.2
   ·rw [List.mem_singleton.mp z];exact qeW hx ps.1 ps.2
  ·rcases List.mem_append.mp hd with z|z
   ·exact h2 d z y (by simp [hy])
   ·rw [List.mem_singleton.mp z];exact h3.1 y hy
def qaa {x y:Int} (hx:0<=x) (hy:0<=y):∀ (n:Nat) (cs:List Int),cs.length=n->(∀ c∈cs,0<=c)->(∀ c∈cs,qW x c=qW y c)->∀ w∈fl cs,qW x w=qW y w:=by
 intro n;induction n with
 |zero=>
  intro cs h _ _ w hw;have:=List.eq_nil_of_length_eq_zero h;subst this;simp [fl] at hw;subst hw;rw [qfz,qfz]
 |succ n ih=>
  intro cs h hc he w hw;obtain ⟨k',m,rfl,hl⟩:=j3 h;have hc':∀ z∈k',0<=z:=λz hz=>hc z (by simp [hz]);have ih':=ih k' hl hc' λz hz=>he z (by simp [hz]);rw [ji] at hw;rcases List.mem_append.mp hw with hw|hw
  ·exact ih' w hw
  ·obtain ⟨g,hg,rfl⟩:=mem_map.mp hw;have g0:=C4 n k' hl hc' g hg;rw [UK hx g0 (hc m (by simp)),UK hy g0 (hc m (by simp)),ih' g hg,he m (by simp)]
def KS {r:Int} (hr:0<=r):∀ (n:Nat) (ps:List Int),ps.length=n->(∀ p∈ps,0<=p/\qW p r=false)->∀ y∈fl ps,0<=y/\qW y r=false:=by
 intro n;induction n with
 |zero=>
  intro ps h _ y hy;have:=List.eq_nil_of_length_eq_zero h;subst this;simp [fl] at hy;subst hy;exact ⟨Int.le_refl 0,by rw [EO,qfz]⟩
 |succ n ih=>
  intro ps h hp y hy;obtain ⟨k',m,rfl,hl⟩:=j3 h;have ih':=ih k' hl λz hz=>hp z (by simp [hz]);rw [ji] at hy;rcases List.mem_append.mp hy with hy|hy
  ·exact ih' y hy
  ·obtain ⟨g,hg,rfl⟩:=mem_map.mp hy;have a:=ih' g hg;have b:=hp m (by simp);exact ⟨(zk a.1 b.1).1,by rw [WX hr a.1 b.1,a.2,b.2];rfl⟩
structure StOk (k:Nat) (cs ss:List Int):Prop where
 len:ss.length=cs.length
 pos:∀ s∈ss,0<s/\s<2 ^ k
 mem:∀ s∈ss,s∈fl cs
 tri:ss.Pairwise λa b=>qW (2 ^ hb a) b=false
 dual:∀ z:Nat->Bool,∃ x∈fl (ss.map λs=>(2:Int) ^ hb s),∀ u c,cs[u]?=some c->qW x c=z u
def qfv {k:Nat} (hk:k<=64):∀ (n:Nat) (cs:List Int),cs.length=n->(∀ c∈cs,0<=c/\c<2 ^ k)->(fl cs).Nodup->StOk k cs (qx cs):=by
 intro n;induction n with
 |zero=>
  intro cs h _ _;have:=List.eq_nil_of_length_eq_zero h;subst this;exact ⟨rfl,by simp [qx],by simp [qx],by simp [qx],λz=>⟨0,by simp [qx,fl],λu c h=>by simp at h⟩⟩
 |succ n ih=>
  intro cs h hc nd;obtain ⟨c',c,rfl,hl⟩:=j3 h;have hc':∀ z∈c',0<=z/\z<2 ^ k:=λz hz=>hc z (by simp [hz]);have nn':∀ z∈c',0<=z:=λz hz=>(hc' z hz).1;have cc:=hc c (by simp);rw [ji,List.nodup_append] at nd;have I:=ih c' hl hc' nd.1;have sn:qx (c'++[c])=qbJ (qx c') c:=by unfold qx;rw [List.foldl_append];rfl
  generalize hss:qx c'=ss at I sn;have fn:=C4 n c' hl nn';have p64:∀ s∈ss,0<s/\hb s<64:=λs hs=>⟨(I.pos s hs).1,by have:=qev (I.pos s hs).1 (I.pos s hs).2;omega⟩
  obtain ⟨f0,ef⟩:=qnI n c' hl;have m0:(0:Int)∈fl c':=by rw [ef];simp
  obtain ⟨w,hw,ew⟩:=TQ nn' cc.1 ss c I.mem ⟨0,m0,(SI cc.1).symm⟩;obtain ⟨r0,rb⟩:=TH ss [] c cc.1 p64 (by simp) (by simp) I.tri;have er:red ss c=ss.foldl stp c:=rfl;rw [← er] at ew r0 rb;generalize hr:red ss c=r at ew r0 rb sn;have w0:=fn w hw;have ec:c=Builtin.bitXor r w:=by rw [ew,XO cc.1 w0]
  have rp:0<r:=by
   rcases Int.lt_or_eq_of_le r0 with z|z
   ·exact z
   ·have cw:c=w:=by
     rw [ec,← z,QT,SI w0]
    refine absurd rfl (nd.2.2 c (by rw [cw];exact hw) c (mem_map.mpr ⟨0,m0,?_⟩));rw [QT,SI cc.1]
  have rk:r<2 ^ k:=by
   rw [ew];exact T3 k c w cc.1 cc.2 w0 (qhY n c' hl hc' w hw)
  have hbr:hb r<64:=by have:=qev rp rk;omega
  have sn':qx (c'++[c])=ss++[r]:=by rw [sn,qbJ,hr,if_pos rp]
  rw [sn'];have pp:∀ p∈ss.map λs=>(2:Int) ^ hb s,0<=p/\qW p r=false:=λp hp=>by
   obtain ⟨s,hs,rfl⟩:=mem_map.mp hp;exact ⟨Int.le_of_lt (Int.pow_pos (by omega)),rb s (by simpa using hs)⟩
  have P0:(0:Int)<=2 ^ hb r:=Int.le_of_lt (Int.pow_pos (by omega));refine ⟨by simp [I.len],λs hs=>?_,λs hs=>?_,?_,λz=>?_⟩
  ·rcases List.mem_append.mp hs with hs|hs
   ·exact I.pos s hs
   ·rw [List.mem_singleton.mp hs];exact ⟨rp,rk⟩
  ·rw [ji];rcases List.mem_append.mp hs with hs|hs
   ·exact List.mem_append.mpr (.inl (I.mem s hs))
   ·rw [List.mem_singleton.mp hs,ew];exact List.mem_append.mpr (.inr (mem_map.mpr ⟨w,hw,QT w c⟩))
  ·rw [List.pairwise_append];refine ⟨I.tri,by simp,λa ha b hb'=>?_⟩;rw [List.mem_singleton.mp hb'];exact rb a (by simpa using ha)
  ·obtain ⟨y,hy,ey⟩:=I.dual z;have y0:=KS r0 _ _ rfl pp y hy;rw [List.map_append,map_cons,List.map_nil,ji];by_cases v:qW y c=z n
   ·refine ⟨y,List.mem_append.mpr (.inl hy),λu d hu=>?_⟩;rcases Nat.lt_or_ge u n with q|q
    ·rw [List.getElem?_append_left (by omega)] at hu;exact ey u d hu
    ·have:u=n:=by
      have:=(List.getElem?_eq_some_iff.mp hu).1;simp at this;omega
     subst this;rw [List.getElem?_append_right (by omega),hl] at hu;simp at hu;subst hu;exact v
   ·obtain ⟨y',hy',ey'⟩:=I.dual λu=>match c'[u]? with|some d=>(z u != qW (2 ^ hb r) d)|none=>false
    have y0':=KS r0 _ _ rfl pp y' hy';have x0:=(zk y0'.1 P0).1;have ag:∀ u d,c'[u]?=some d->qW (Builtin.bitXor y' (2 ^ hb r)) d=z u:=λu d hu=>by
     have t:qW y' d=(z u != qW (2 ^ hb r) d):=by
      have:=ey' u d hu;rw [hu] at this;exact this
     rw [WX (nn' d (mem_of_getElem? hu)) y0'.1 P0,t];generalize qW (2 ^ hb r) d=q;cases z u<;>cases q<;>rfl
    refine ⟨Builtin.bitXor y' (2 ^ hb r),List.mem_append.mpr (.inr (mem_map.mpr ⟨y',hy',rfl⟩)),λu d hu=>?_⟩;rcases Nat.lt_or_ge u n with q|q
    ·rw [List.getElem?_append_left (by omega)] at hu;exact ag u d hu
    ·have:u=n:=by
      have:=(List.getElem?_eq_some_iff.mp hu).1;simp at this;omega
     subst this;rw [List.getElem?_append_right (by omega),hl] at hu;simp at hu;subst hu;have aw:qW (Builtin.bitXor y' (2 ^ hb r)) w=qW y w:=qaa x0 y0.1 c'.length c' rfl nn' (λd hd=>by
      obtain ⟨i,hi⟩:=List.mem_iff_getElem?.mp hd;rw [ag i d hi,ey i d hi]) w hw
     have o1:qW (Builtin.bitXor y' (2 ^ hb r)) c=(true != qW y w):=by
      have e1:qW (Builtin.bitXor y' (2 ^ hb r)) r=true:=by rw [WX r0 y0'.1 P0,y0'.2,qbZ rp hbr];decide
      rw [ec,UK x0 r0 w0,aw,e1]
     have o2:qW y c=(false != qW y w):=by
      rw [ec,UK y0.1 r0 w0,y0.2]
     rw [o2] at v;rw [o1]
     revert v
     cases qW y w<;>cases z c'.length<;>simp
def trd (cs:List Int):List Int:=fl ((qx cs).map λs=>(2:Int) ^ hb s)
def M6 (cs:List Int):List Int:=(List.range cs.length).map λt=>((trd cs).filter λx=>pa1 cs x t).headD 0
def qkb {cs:List Int} {x:Int} {t:Nat} (h:∀ u c,cs[u]?=some c->qW x c=decide (t=u)):pa1 cs x t=true:=by
 unfold pa1;rw [List.all_eq_true];rintro ⟨c,u⟩ hm;obtain ⟨i,hi⟩:=List.mem_iff_getElem?.mp hm;rw [List.getElem?_zipIdx] at hi;obtain ⟨d,hd,e⟩:=Option.map_eq_some_iff.mp hi;rw [Nat.zero_add] at e;cases e;have:=h u c hd;simp only [this,beq_self_eq_true]
def qdI {k:Nat} {cs:List Int} (hk:k<=64) (hc:∀ c∈cs,0<=c/\c<2 ^ k) (hf:fcI 0 (fl cs)=none) (t:Nat):∃ x r,(trd cs).filter (λx=>pa1 cs x t)=x::r:=by
 have nd:=(R7 λc h=>(hc c h).1).mpr hf;obtain ⟨x,hx,e⟩:=(qfv hk cs.length cs rfl hc nd).dual λu=>decide (t=u);have:x∈(trd cs).filter λx=>pa1 cs x t:=List.mem_filter.mpr ⟨hx,qkb e⟩;cases q:(trd cs).filter λx=>pa1 cs x t with
 |nil=>rw [q] at this;simp at this
 |cons a b=>exact ⟨a,b,rfl⟩
def qkp {k:Nat} {cs:List Int} (hk:k<=64) (hc:∀ c∈cs,0<=c/\c<2 ^ k) (hf:fcI 0 (fl cs)=none):qb4 k cs (M6 cs)=true:=by
 have nd:=(R7 λc h=>(hc c h).1).mpr hf;have S:=qfv hk cs.length cs rfl hc nd;have hp:∀ p∈(qx cs).map λs=>(2:Int) ^ hb s,0<=p/\p<2 ^ k:=λp hp=>by
  obtain ⟨s,hs,rfl⟩:=mem_map.mp hp;have a:=S.pos s hs;have b:=qfk a.1;exact ⟨Int.le_of_lt (Int.pow_pos (by omega)),by omega⟩
 unfold qb4;rw [Bool.and_eq_true];refine ⟨by simp [M6],?_⟩;rw [List.all_eq_true];rintro ⟨x,t⟩ hm;obtain ⟨i,hi⟩:=List.mem_iff_getElem?.mp hm;rw [List.getElem?_zipIdx] at hi;obtain ⟨y,hy,e⟩:=Option.map_eq_some_iff.mp hi;rw [Nat.zero_add] at e;cases e;unfold M6 at hy;rw [getElem?_map] at hy;obtain ⟨j,hj,ey⟩:=Option.map_eq_some_iff.mp hy;have:j=t:=by
  have lt:=(List.getElem?_eq_some_iff.mp hj).1;rw [length_range] at lt;rw [List.getElem?_range lt] at hj;exact (Option.some.inj hj).symm
 subst this;obtain ⟨a,r,er⟩:=qdI hk hc hf j;rw [er] at ey;have ea:a=x:=ey;subst ea;have ma:a∈(trd cs).filter λx=>pa1 cs x j:=by rw [er];simp
 have ma':=List.mem_filter.mp ma;have a0:=C4 _ _ rfl (λp h=>(hp p h).1) a ma'.1;have a1:=qhY _ _ rfl hp a ma'.1;simp only [a0,a1,decide_true,Bool.and_self,Bool.true_and];exact ma'.2
def qfH {s:Int} (h:0<s):((Builtin.Int.intBits s:Nat):Int)-1=(hb s:Int):=by
 unfold Builtin.Int.intBits hb;have:(s==0)=false:=by simp;omega
 rw [this,if_neg Bool.false_ne_true];omega
def fpD (cs:List Int):PyData:=match fcI 0 (fl cs) with|some _=>.none|none=>.list ((M6 cs).map PyData.int)
def qov {h l:Nat} {ms ks:List Int} (hm:∀ m∈ms,0<=m/\m<512) (hl:ms.length<=8) (hk:∀ m∈ks,0<=m) (lk:ks.length<=5):zh [dlD (.bits h l ms),.list (ks.map PyData.int)]=some (fpD (ks.map (qg ms))):=by
 have hm64:∀ m∈ms,0<=m/\m<2 ^ 64:=λm hx=>⟨(hm m hx).1,by have:=(hm m hx).2;omega⟩
 have fc:=qoK (h:=h) (l:=l) (ms:=ms) (ks:=ks) hm64 (by omega) (by omega);have fb:=qfe (ms:=ms) (λm hx=>(hm m hx).1) ks.length ks rfl hk;rw [fb] at fc;have mb:=qlC (h:=h) (l:=l) (ms:=ms) (xs:=ks) hm64 (by omega) (by omega);have hc:∀ c∈ks.map (qg ms),0<=c/\c<2 ^ ms.length:=λc hx=>by
  obtain ⟨k,_,rfl⟩:=mem_map.mp hx;exact QL k ms
 have lc:(ks.map (qg ms)).length<=5:=by simpa using lk
 generalize ks.map (qg ms)=cs at fc mb hc lc;rw [W9];unfold fpD;cases e:fcI 0 (fl cs) with
 |some t=>
  have fd:fcD (fl cs)=.int t:=by unfold fcD;rw [e]
  rw [fd] at fc
  try simp only [Pu.pwA,jy,fc,qiO]
 |none=>
  have fd:fcD (fl cs)=.none:=by unfold fcD;rw [e]
  rw [fd] at fc;have pm:=p2 hl;have S:=qfv (show ms.length<=64 by omega) cs.length cs rfl hc ((R7 λc h=>(hc c h).1).mpr e)
  try simp only [Pu.pwA,jy,fc,mb,qnE (ns:=cs) (by omega)]
  rw [JP (ds:=(qx cs).map PyData.int) (fs:=((qx cs).map λs=>(2:Int) ^ hb s).map PyData.int)]
  rotate_left
  ·try simp only [Pu.pwA,qnE (ns:=cs) (by omega)]
  ·rw [map_map];refine ZQ λs hs=>?_;have sp:=S.pos s hs;have h8:=qev sp.1 sp.2;have b:=qfH sp.1;have sh:cI W7 (λi j=>i*2 ^ j.toNat) (.int 1) (.int ((Builtin.Int.intBits s:Int)-1))=some (.int (2 ^ hb s)):=by
    rw [b,TF ⟨by omega,by omega,by decide⟩,Int.one_mul,Int.toNat_natCast]
   try simp only [Pu.pwA,EX,sh,Function.comp_def]
  ·simp [S.len];omega
  have ff:=qnU (ks:=(qx cs).map λs=>(2:Int) ^ hb s) (by simp [S.len];omega)
  try simp only [Pu.pwA,ff]
  have lt:(trd cs).length<=32:=by
   have:=KF cs.length ((qx cs).map λs=>(2:Int) ^ hb s) (by simp [S.len]);have l5:2 ^ cs.length<=2 ^ 5:=Nat.pow_le_pow_right (by omega) lc;unfold trd;omega
  rw [JP (ds:=(D6 0 cs.length).map PyData.int) (fs:=(M6 cs).map PyData.int)]
  ·try simp only [Pu.pwA]
  ·try simp (disch:=omega) only [Pu.pwA,length_map,qea,Int.toNat_natCast]
  ·unfold M6 D6;rw [map_map,map_map];refine ZQ λt ht=>?_;obtain ⟨x,r,er⟩:=qdI (show ms.length<=64 by omega) hc e t
   try simp only [Pu.pwA,EX,Function.comp_def,Int.zero_add]
   rw [JP (ds:=(trd cs).map PyData.int) (fs:=((trd cs).filter λx=>pa1 cs x t).map PyData.int)]
   ·rw [er]
    try simp only [Pu.pwA,map_cons,List.headD_cons]
   ·try simp only [Pu.pwA,trd]
   ·refine LD λy hy=>?_;have ta:=qnx (cs:=cs) (x:=y) (t:=t) (λc hx=>⟨(hc c hx).1,by have:=(hc c hx).2;omega⟩) (by omega)
    try simp only [Pu.pwA,EX,ta]
    cases pa1 cs y t<;>rfl
   ·have:=List.length_filter_le (λx=>pa1 cs x t) (trd cs);simp;omega
  ·simp [M6];omega
end K33
namespace K33
open PySem L2 L3 Pu Pv
open Bk (SD SDs MT K3 MA NE X2 SC)
def Th (L B:Nat):Nat->PyData->Prop
 |_,.none=>True
 |_,.bool _=>True
 |_,.int i=>-(B:Int)<=i/\i<=B
 |_,.str s=>s.cps.size<=20/\(s.cps.toList.all λc=>decide (c<16 ^ 8))=true
 |n+1,.list ds=>ds.length<=L/\∀ d∈ds,Th L B n d
 |n+1,.tuple ds=>ds.length<=L/\∀ d∈ds,Th L B n d
 |_,_=>False
def qm3 {L B:Nat} (n:Nat):Th L B n .none:=by cases n<;>trivial
def qls {L B:Nat} (n:Nat) {b:Bool}:Th L B n (.bool b):=by cases n<;>trivial
def qbj {L B:Nat} (n:Nat) {i:Int}:Th L B n (.int i)=(-(B:Int)<=i/\i<=B):=by cases n<;>rfl
def qhf {L B:Nat} (n:Nat) {s:Str}:Th L B n (.str s)=(s.cps.size<=20/\(s.cps.toList.all λc=>decide (c<16 ^ 8))=true):=by cases n<;>rfl
def qfZ {L B n:Nat} {ds:List PyData} (hl:ds.length<=L) (h:∀ d∈ds,Th L B n d):Th L B (n+1) (.tuple ds):=⟨hl,h⟩
def qkC {L B n:Nat} {ds:List PyData} (hl:ds.length<=L) (h:∀ d∈ds,Th L B n d):Th L B (n+1) (.list ds):=⟨hl,h⟩
def jH {L B L' B':Nat} (hL:L<=L') (hB:B<=B'):∀ {n:Nat} (m:Nat) {d:PyData},Th L B n d->n<=m->Th L' B' m d
 |n,m,.none,_,_=>qm3 m
 |n,m,.bool _,_,_=>qls m
 |n,m,.int i,h,_=>by rw [qbj] at h ⊢;omega
 |n,m,.str s,h,_=>by rw [qhf] at h ⊢;exact h
 |n+1,m+1,.list ds,⟨h1,h2⟩,e=>⟨by omega,λd hd=>jH hL hB m (h2 d hd) (by omega)⟩
 |n+1,m+1,.tuple ds,⟨h1,h2⟩,e=>⟨by omega,λd hd=>jH hL hB m (h2 d hd) (by omega)⟩
 |0,_,.list ds,h,_=>h.elim
 |0,_,.tuple ds,h,_=>h.elim
 |n+1,0,.list ds,h,e=>by omega
 |n+1,0,.tuple ds,h,e=>by omega
 |0,_,.dict _,h,_=>h.elim
 |n+1,_,.dict _,h,_=>h.elim
def bd (L:Nat):Nat->Nat
 |0=>20
 |n+1=>L*(bd L n+1)+20
def qfR {L B:Nat} (hB:B<=1000000):∀ {n:Nat} {d:PyData},Th L B n d->SD n (bd L n) d
 |n,.none,_=>MA _ _
 |n,.bool _,_=>NE _ _ _
 |n,.int i,h=>by rw [qbj] at h;exact MT _ _ (by omega)
 |n,.str s,h=>by
  rw [qhf] at h;exact K3 _ _ (by cases n<;>simp only [bd]<;>omega) h.2
 |n+1,.list ds,⟨h1,h2⟩=>(SC (Bk.XH λd hd=>qfR hB (h2 d hd))).mono (Nat.le_refl _) (by simp only [bd];have:=Nat.mul_le_mul h1 (Nat.le_refl (bd L n+1));omega)
 |n+1,.tuple ds,⟨h1,h2⟩=>(X2 (Bk.XH λd hd=>qfR hB (h2 d hd))).mono (Nat.le_refl _) (by simp only [bd];have:=Nat.mul_le_mul h1 (Nat.le_refl (bd L n+1));omega)
 |0,.list ds,h=>h.elim
 |0,.tuple ds,h=>h.elim
 |0,.dict _,h=>h.elim
 |n+1,.dict _,h=>h.elim
def qeD {L B n:Nat} {d:PyData} (h:Th L B n d) (hB:B<=1000000) (hn:n<=40) (hb:bd L n<=2 ^ 20):∃ x,XD true [d]=some (.str x):=by
 have w:=(qfR hB h).w hn hb;cases d with
 |none=>exact ⟨_,qkG⟩
 |bool b=>exact ⟨_,qg5⟩
 |int i=>rw [qbj] at h;exact ⟨_,qdy (by omega)⟩
 |str x=>exact ⟨_,qj2⟩
 |list ds=>exact ⟨_,qke w⟩
 |tuple ds=>exact ⟨_,qk2 w⟩
 |dict _=>cases n<;>exact h.elim
def SY {m:List Bool} {i:Nat} {d:PyData} {ρ:Rho} (h:dm m ρ=ρ):XZ m false i d ρ=ρ.set i (.sh d):=by
 unfold XZ;rw [h];split<;>rfl
def ptD (p:List Nat):PyData:=.tuple (p.map λ(k:Nat)=>PyData.int (k:Int))
def pe:List Nat->PyData->Option PyData
 |[],d=>some d
 |k::p,d=>(WK d).bind λds=>(ds[k]?).bind (pe p)
def pu (x:PyData):List Nat->PyData->Option PyData
 |[],_=>some x
 |k::p,.list ds=>(ds[k]?).bind λe=>(pu x p e).map λe'=>.list (ds.set k e')
 |k::p,.tuple ds=>(ds[k]?).bind λe=>(pu x p e).map λe'=>.tuple (ds.set k e')
 |_::_,_=>none
def qfw {L B:Nat}:∀ {n:Nat} {p:List Nat} {d e:PyData},Th L B n d->pe p d=some e->p.length<=n/\Th L B (n-p.length) e
 |n,[],d,e,h,he=>by cases he;exact ⟨Nat.zero_le _,h⟩
 |n,k::p,d,e,h,he=>by
  simp only [pe] at he;obtain ⟨ds,e1,he⟩:=obb he;obtain ⟨x,e2,he⟩:=obb he;have hx:=mem_of_getElem? e2;have:∃ m,n=m+1/\Th L B m x:=by
   cases d<;>simp [WK] at e1<;>subst e1<;>cases n<;>first|exact ⟨_,rfl,h.2 x hx⟩|exact h.elim
  obtain ⟨m,rfl,h'⟩:=this;have:=qfw h' he;simp only [length_cons];exact ⟨by omega,by rw [show m+1-(p.length+1)=m-p.length by omega];exact this.2⟩
def qfm {L B L' B':Nat} (hL:L<=L') (hB:B<=B') {x:PyData}:∀ {n:Nat} {p:List Nat} {d:PyData},Th L B n d->(pe p d).isSome=true->Th L' B' (n-p.length+1) x->∃ r,pu x p d=some r/\Th L' B' (n+1) r
 |n,[],d,h,he,hx=>⟨x,rfl,by simpa using hx⟩
 |n,k::p,d,h,he,hx=>by
  obtain ⟨e,he⟩:=Option.isSome_iff_exists.mp he;simp only [pe] at he;obtain ⟨ds,e1,he⟩:=obb he;obtain ⟨y,e2,he3⟩:=obb he;have hy:=mem_of_getElem? e2;have st:∀ {m:Nat} {r:PyData},(∀ d∈ds,Th L B m d)->Th L' B' (m+1) r->∀ d∈ds.set k r,Th L' B' (m+1) d:=λ{m r} ha hr d hd=>by
   rcases List.mem_or_eq_of_mem_set hd with hd|rfl
   ·exact jH hL hB _ (ha d hd) (by omega)
   ·exact hr
  cases d with
  |list ds'=>
   simp only [WK,Option.some.injEq] at e1;subst e1;cases n with
   |zero=>exact h.elim
   |succ m=>
    simp only [length_cons,Nat.succ_sub_succ] at hx;obtain ⟨r,e3,hr⟩:=qfm hL hB (h.2 y hy) (by rw [he3];rfl) hx;exact ⟨_,by simp only [pu,e2,Option.bind_some,e3];rfl,qkC (by rw [List.length_set];have:=h.1;omega) (st h.2 hr)⟩
  |tuple ds'=>
   simp only [WK,Option.some.injEq] at e1;subst e1;cases n with
   |zero=>exact h.elim
   |succ m=>
    simp only [length_cons,Nat.succ_sub_succ] at hx;obtain ⟨r,e3,hr⟩:=qfm hL hB (h.2 y hy) (by rw [he3];rfl) hx;exact ⟨_,by simp only [pu,e2,Option.bind_some,e3];rfl,qfZ (by rw [List.length_set];have:=h.1;omega) (st h.2 hr)⟩
  |_=>simp [WK] at e1
def sA1:(zL "NoneType" "list" || zL "NoneType" "tuple")=false:=rfl
def sA2:(zL "bool" "list" || zL "bool" "tuple")=false:=rfl
def sA3:(zL "int" "list" || zL "int" "tuple")=false:=rfl
def sA4:(zL "str" "list" || zL "str" "tuple")=false:=rfl
def sA5:(zL "list" "list" || zL "list" "tuple")=true:=rfl
def sA6:(zL "tuple" "list" || zL "tuple" "tuple")=true:=rfl
def pn (L:Nat):Nat->Nat
 |0=>1
 |n+1=>L*pn L n+1
def qaN (ds:List PyData) (k:Nat):enD k ds=(ds.zipIdx k).map λp=>PyData.tuple [.int (p.2:Int),p.1]:=by
 have:=qe0 id ds k;rw [List.map_id] at this;exact this
def qf8 {i:Nat} {es ds:List PyData} {ρ:Rho} (h:slot ρ i=some ds) (hl:ds.length+es.length<=16777216):qgt i (.list es) ρ=some (.nx (ρ.set i (.ow (ds++es)))):=by unfold qgt;rw [h];simp only [Option.bind_some];exact zu hl
def qdt (L:Nat):∀ n,1<=pn L n
 |0=>Nat.le_refl _
 |n+1=>by simp only [pn];omega
def T4 {L B n j:Nat} {d:PyData} {ds:List PyData} (hd:WK d=some ds) (hl:ds.length<=L) (ha:∀ e∈ds,Th L B n e) (hn:n<=100) (hp:L*pn L n+1<=1000000) (ih:∀ e,Th L B n e->∃ ps:List (List Nat),qN j [e]=some (.list (ps.map ptD))/\(∀ p∈ps,(pe p e).isSome=true)/\1<=ps.length/\ps.length<=pn L n) (F:Ot->Option Ot) :
  ∃ (ps:List (List Nat)) (s2 s3:Sl),(VY (Pu.KA 2 (Pu.jJ (gN 2) (Pu.jJ (gN 3) Pu.KO))).f (λρ=>(lcF (λρ=>(((vw ρ 3).bind λx=>some [x]).bind (qN j)).bind WK) (lcH (λd=>some [(0,d)]) (λx=>some true) λρ=>(Option.map PyData.tuple ((vw ρ 1).bind λx=>some [x])).bind λx=>(vw ρ 0).bind λy=>qZ.f x y) [none,some 2] ρ).bind λd=>qgt 1 d (dmS [false,false,true,true] d ρ)) (List.map (λp=>PyData.tuple [PyData.int (p.2:Int),p.1]) ds.zipIdx) [Sl.sh d,Sl.ow [PyData.tuple []],Sl.un,Sl.un]).bind F=F (.nx [.sh d,.ow (ps.map ptD),s2,s3])/\(∀ p∈ps,(pe p d).isSome=true)/\1<=ps.length/\ps.length<=L*pn L n+1:=by
 refine YT (Q:=λo=>∃ (ps:List (List Nat)) (s2 s3:Sl),o=F (.nx [.sh d,.ow (ps.map ptD),s2,s3])/\(∀ p∈ps,(pe p d).isSome=true)/\1<=ps.length/\ps.length<=L*pn L n+1) ds.zipIdx (λi ρ=>∃ (ps:List (List Nat)) (s2 s3:Sl),ρ=[.sh d,.ow (ps.map ptD),s2,s3]/\(∀ p∈ps,(pe p d).isSome=true)/\1<=ps.length/\ps.length<=i*pn L n+1) ⟨[[]],_,_,rfl,λp hp=>by rw [List.mem_singleton.mp hp];rfl,by simp,by simp⟩ ?_ ?_
 ·rintro i ⟨e,k⟩ ρ hx ⟨ps,s2,s3,rfl,hv,l1,l2⟩;obtain ⟨hx',rfl,hk⟩:=LS hx;obtain ⟨qs,e1,hq,q1,q2⟩:=ih e (ha e (mem_of_getElem? hx'));have ik:k*pn L n<=L*pn L n:=Nat.mul_le_mul_right _ (by omega);have ik2:(k+1)*pn L n<=L*pn L n:=Nat.mul_le_mul_right _ (by omega);rw [Nat.succ_mul] at ik2
  try simp only [Pu.pwA]
  rw [JP (ds:=qs.map ptD) (fs:=(qs.map λp=>k::p).map ptD)]
  rotate_left
  ·try simp only [Pu.pwA,e1]
  ·rw [map_map];refine ZQ λp hp=>?_;have ct:CK (.tuple [.int (k:Int)]) (ptD p)=some (ptD (k::p)):=by
    obtain ⟨y,hy⟩:=Option.isSome_iff_exists.mp (hq p hp);have:=(qfw (ha e (mem_of_getElem? hx')) hy).1;exact qhw (by simp;omega)
   try simp only [Pu.pwA,EX,ZO,ct,Function.comp_def]
  ·simp;omega
  try simp only [Pu.pwA]
  rw [qf8 (ds:=ps.map ptD) rfl (by simp;omega)]
  try simp only [Pu.pwA]
  refine ⟨ps++qs.map (λp=>k::p),_,_,by rw [List.map_append],λp hp=>?_,by simp;omega,by simp;rw [Nat.succ_mul];omega⟩;rcases List.mem_append.mp hp with hp|hp
  ·exact hv p hp
  ·obtain ⟨q,hq',rfl⟩:=mem_map.mp hp;simp only [pe,hd,hx',Option.bind_some];exact hq q hq'
 ·rintro ρ ⟨ps,s2,s3,rfl,hv,l1,l2⟩;rw [List.length_zipIdx] at l2;have:=Nat.mul_le_mul_right (pn L n) hl;exact ⟨ps,s2,s3,rfl,hv,l1,by omega⟩
def qeS {L B:Nat}:∀ {n j:Nat} {d:PyData},Th L B n d->n<j->n<=100->pn L n<=1000000->∃ ps:List (List Nat),qN j [d]=some (.list (ps.map ptD))/\(∀ p∈ps,(pe p d).isSome=true)/\1<=ps.length/\ps.length<=pn L n:=by
 intro n;induction n with
 |zero=>
  intro j d h hj _ _;obtain ⟨j,rfl⟩:∃ i,j=i+1:=⟨j-1,by omega⟩
  refine ⟨[[]],?_,λp hp=>by rw [List.mem_singleton.mp hp];rfl,by simp,by simp [pn]⟩;rw [QW];cases d with
  |list _=>exact h.elim
  |tuple _=>exact h.elim
  |dict _=>exact h.elim
  |_=>try simp only [Pu.pwA,zY,sA1,sA2,sA3,sA4,ptD,map_cons,List.map_nil]
 |succ n ih=>
  intro j d h hj hn hp;obtain ⟨j,rfl⟩:∃ i,j=i+1:=⟨j-1,by omega⟩
  have hp':pn L n<=1000000:=by
   simp only [pn] at hp;cases L with
   |zero=>have:=qdt 0 n;cases n<;>simp [pn]
   |succ L=>have:=Nat.le_mul_of_pos_left (pn (L+1) n) (show 0<L+1 by omega);omega
  cases d with
  |list ds=>
   obtain ⟨ps,s2,s3,e,r⟩:=T4 (d:=.list ds) rfl h.1 h.2 (by omega) hp (λe he=>ih he (j:=j) (by omega) (by omega) hp') (sqk (λx ρ=>L8 ρ 1) 1000000000);refine ⟨ps,?_,r⟩;rw [QW]
   try simp only [Pu.pwA,zY,sA5,qaN]
   rw [e]
   try simp only [Pu.pwA]
  |tuple ds=>
   obtain ⟨ps,s2,s3,e,r⟩:=T4 (d:=.tuple ds) rfl h.1 h.2 (by omega) hp (λe he=>ih he (j:=j) (by omega) (by omega) hp') (sqk (λx ρ=>L8 ρ 1) 1000000000);refine ⟨ps,?_,r⟩;rw [QW]
   try simp only [Pu.pwA,zY,sA6,qaN]
   rw [e]
   try simp only [Pu.pwA]
  |dict _=>exact h.elim
  |_=>
   refine ⟨[[]],?_,λp hp=>by rw [List.mem_singleton.mp hp];rfl,by simp,qdt _ _⟩;rw [QW]
   try simp only [Pu.pwA,zY,sA1,sA2,sA3,sA4,ptD,map_cons,List.map_nil]
def qhs {p:List Nat} {d e:PyData} (h:pe p d=some e):z6 [d,ptD p]=some e:=by
 rw [S6]
 try simp only [Pu.pwA,J5,ptD]
 refine YT (Q:=λo=>YB false o=some e) p (λi ρ=>∃ (x:PyData) (s2:Sl),ρ=[.sh x,.sh (ptD p),s2]/\pe (p.drop i) x=some e) ⟨d,_,rfl,by simpa using h⟩ ?_ ?_
 ·rintro i k ρ hx ⟨x,s2,rfl,hv⟩;have hi:=(List.getElem?_eq_some_iff.mp hx).1;rw [List.drop_eq_getElem_cons hi,(List.getElem?_eq_some_iff.mp hx).2] at hv;simp only [pe] at hv;obtain ⟨ds,e1,hv⟩:=obb hv;obtain ⟨y,e2,hv⟩:=obb hv;have hk:=(List.getElem?_eq_some_iff.mp e2).1;have ix:ixD x (.int (k:Int))=some y:=by
   cases x<;>simp [WK] at e1<;>subst e1<;>simp only [qck,qfG,atN hk,e2]
  try simp only [Pu.pwA,ix]
  rw [SY rfl];exact ⟨y,_,rfl,hv⟩
 ·rintro ρ ⟨x,s2,rfl,hv⟩;rw [List.drop_length] at hv;cases hv
  try simp only [Pu.pwA]
def qfo (p:List Nat):eqD false (ptD p) (.tuple [])=some (.bool p.isEmpty):=by
 have e:ptD p=.tuple ((p.map λ(k:Nat)=>(k:Int)).map PyData.int):=by unfold ptD;rw [map_map];rfl
 have h:qaO (.tuple ((p.map λ(k:Nat)=>(k:Int)).map PyData.int)) (.tuple [])=none:=rfl;rw [e];unfold eqD;rw [h];simp only;rw [zu (by simp only [dpt,NZ,qdh];omega)];have:=qe4 (p.map λ(k:Nat)=>(k:Int)) [];simp only [List.map_nil] at this;simp only [ZT,this,Option.map_some];cases p<;>simp
def qgL {x:PyData}:∀ {p:List Nat} {j:Nat} {d:PyData},p.length<j->(pe p d).isSome=true->∃ r,pu x p d=some r/\zU j [d,ptD p,x]=some r
 |[],j,d,hj,_=>by
  obtain ⟨j,rfl⟩:∃ i,j=i+1:=⟨j-1,by omega⟩
  refine ⟨x,rfl,?_⟩;rw [UH]
  try simp only [Pu.pwA,Q9,qfo,List.isEmpty_nil]
 |k::p,j,d,hj,he=>by
  obtain ⟨j,rfl⟩:∃ i,j=i+1:=⟨j-1,by omega⟩
  obtain ⟨e,he⟩:=Option.isSome_iff_exists.mp he;simp only [pe] at he;obtain ⟨ds,e1,he⟩:=obb he;obtain ⟨y,e2,he3⟩:=obb he;have hk:=(List.getElem?_eq_some_iff.mp e2).1;obtain ⟨r,e4,e5⟩:=qgL (x:=x) (p:=p) (j:=j) (d:=y) (by simp at hj;omega) (by rw [he3];rfl);have a0:ixD (ptD (k::p)) (.int 0)=some (.int (k:Int)):=by simp only [ptD,map_cons,qck,at0]
  have a1:slA (ptD (k::p)) (some 1) none=some (ptD p):=by
   simp only [ptD,qlS,qoG,map_cons,List.drop_succ_cons,List.drop_zero]
  have sk:qjk 3 (.int (k:Int)) r [.sh d,.sh (ptD (k::p)),.sh x,.ow ds]=some (.nx [.sh d,.sh (ptD (k::p)),.sh x,.ow (ds.set k r)]):=by
   have ix:ixN ds.length (k:Int)=some k:=by unfold ixN;rw [if_pos (by omega),if_pos (by omega)];rfl
   unfold qjk
   try simp only [Pu.pwA,qeP,NV,SZ,ix,Option.bind_some]
  cases d with
  |list ds'=>
   simp only [WK,Option.some.injEq] at e1;subst e1;refine ⟨.list (ds'.set k r),by simp only [pu,e2,Option.bind_some,e4];rfl,?_⟩;rw [UH]
   try simp only [Pu.pwA,Q9,qfo,List.isEmpty_cons,NB,CT,a0,a1,atN hk,e2,e5,sk,VG]
  |tuple ds'=>
   simp only [WK,Option.some.injEq] at e1;subst e1;have tl:zL "tuple" "list" = false:=rfl;refine ⟨.tuple (ds'.set k r),by simp only [pu,e2,Option.bind_some,e4];rfl,?_⟩;rw [UH]
   try simp only [Pu.pwA,Q9,qfo,List.isEmpty_cons,NB,CT,a0,a1,atN hk,e2,e5,sk,tl]
  |_=>simp [WK] at e1
end K33
namespace K33
open PySem L2 L3 Pu Pv
def al0 {P:PyData->Prop}:∀ d∈([]:List PyData),P d:=λ_ h=>nomatch h
def alc {P:PyData->Prop} {x:PyData} {r:List PyData} (h:P x) (t:∀ d∈r,P d):∀ d∈x::r,P d:=λd hd=>by
 rcases mem_cons.mp hd with rfl|hd
 ·exact h
 ·exact t d hd
def ala {P:PyData->Prop} {x y:List PyData} (h:∀ d∈x,P d) (t:∀ d∈y,P d):∀ d∈x++y,P d:=λd hd=>by
 rcases List.mem_append.mp hd with hd|hd
 ·exact h d hd
 ·exact t d hd
def qb5 {α:Type} (xs:List α) (k:Nat):E8 xs none (some (k:Int))=xs.take k:=by
 unfold E8;rw [HT.W4,HT.T8,List.drop_zero,Nat.sub_zero,List.take_eq_take_iff];omega
def TX {α:Type} (xs:List α) (k:Nat):E8 xs (some (k:Int)) none=xs.drop k:=by
 unfold E8;rw [HT.W4,HT.T8,List.take_of_length_le (by simp)];by_cases c:k<=xs.length
 ·rw [Nat.min_eq_left c]
 ·rw [Nat.min_eq_right (by omega),List.drop_of_length_le (Nat.le_refl _),List.drop_of_length_le (by omega)]
def qaE {α:Type} (xs:List α) (k m:Nat):(E8 xs (some (k:Int)) (some ((k+m:Nat):Int))).length<=min m (xs.length-k):=by
 unfold E8;rw [HT.W4,HT.W4,List.length_take,List.length_drop];omega
def WN {xs ys:List PyData} (h:xs.length+ys.length<=16777216):CK (.list xs) (.list ys)=some (.list (xs++ys)):=zu h
def qam {xs:List PyData} {lo hi:Option Int}:slA (.list xs) lo hi=some (.list (E8 xs lo hi)):=id rfl
def qeq {i j:Nat} {m:List Bool} {d e:PyData} {ρ:Rho} (h:dm m ρ=ρ):qfB i j m [d,e] ρ=some (.nx ((ρ.set i (.sh d)).set j (.sh e))):=by
 unfold qfB;simp only [h];split<;>rfl
def qmB:=((QF (YE (eOf (qD qhb (qf (bV 1) qC))) 4 [false,true] ⟨rfl⟩ ⟨rfl⟩) (QF (YE (eDr UA (aOf (qf (bO qZ (qD K5 (qf (bV 4) qC)) (qL 1)) qC))) 5 [false,false,false,false,true] ⟨rfl⟩ ⟨rfl⟩) (QF (qia (aOf (qf (LL (bV 4) bNp (bSp (bV 5))) (qf (LL (bV 4) (bSp (bV 5)) (bSp (bO qZ (bV 5) (qL 1)))) qC))) 6 7 [false,false,false,false,true,true] ⟨rfl⟩ ⟨rfl⟩) (QF (wIf (cOf (bTb (bO (opB λi j=>decide (i<j)) (bV 2) (qL 3)))) (QF (YE (eOf (bO Y9 (UU (qf (UU qC ⟨rfl⟩) (qf (bO qbv (bV 7) (qL 2)) (qf (bO qZ (UU (qf (bV 3) qC) ⟨rfl⟩) (bV 7)) qC))) ⟨rfl⟩) (bV 2))) 8 [false,false,true,true,false,false,false,true] ⟨rfl⟩ ⟨rfl⟩) (YE (eOf (bO qZ (bO qZ (bV 6) (bV 8)) (LL (bV 4) (bSp (bO qZ (bV 5) (qL 1))) bNp))) 4 [false,false,false,false,true,true,true,false,true] ⟨rfl⟩ ⟨rfl⟩)) (wIf (cOf (bTb (bO (VX false) (bV 2) (qL 3)))) (QF (YE (eOf (LL (bV 4) (bSp (bV 5)) (bSp (bO qZ (bV 5) (qL 2))))) 9 [false,false,false,false,true,true] ⟨rfl⟩ ⟨rfl⟩) (YE (eOf (bO qZ (bO qZ (bV 6) (qgp (bV 9))) (LL (bV 4) (bSp (bO qZ (bV 5) (qL 2))) bNp))) 4 [false,false,false,false,true,true,true,false,false,true] ⟨rfl⟩ ⟨rfl⟩)) (YE (eOf (bO Y9 (UU (qf (qgp (bV 4)) (qf (bV 4) (qf (UU (qf (bV 1) qC) ⟨rfl⟩) (qf (UU qC ⟨rfl⟩) qC)))) ⟨rfl⟩) (bO (opI (·-·)) (bV 2) (qL 4)))) 4 [false,true,true,false,true] ⟨rfl⟩ ⟨rfl⟩))) (QF (wIf (cOf (bTb (bO (VX true) (TM (λt=>zL t "tuple") (bV 1)) (bO (VX false) (bV 2) (qL 5))))) (qbq (eOf (qD qku (qf (bV 4) qC)))) VZ) (qaD 4)))))):PwS 0 _)
def wA1:zL "NoneType" "int" = false:=rfl
def wA2:zL "bool" "int" = true:=rfl
def wA3:zL "bool" "bool" = true:=rfl
def wA4:zL "str" "int" = false:=rfl
def fwn:qt [.none]=some (.bool false):=by
 rw [jA]
 try simp only [Pu.pwA,zK,wA1]
def fwb {b:Bool}:qt [.bool b]=some (.bool false):=by
 rw [jA]
 try simp only [Pu.pwA,zK,wA2,wA3,Bool.not_true]
def fws {x:Str}:qt [.str x]=some (.bool false):=by
 rw [jA]
 try simp only [Pu.pwA,zK,wA4]
def sT1:zL "list" "tuple" = false:=rfl
def sT2:zL "tuple" "tuple" = true:=rfl
def qjc {i j:Nat} {m:List Bool} {x y:List PyData} {ρ:Rho}:qfB i j m [.list x,.list y] ρ=some (.nx (((dm m ρ).set i (.sh (.list x))).set j (.sh (.list y)))):=id rfl
def qkn {xs:List PyData}:qlo (.list xs)=some (.list xs.reverse):=id rfl
def qoe {xs:List PyData} (h:xs.length<=1000):qlr (.list xs) (.int 2)=some (.list (xs++xs)):=by
 have t:(2:Int).toNat=2:=rfl;have e:(List.replicate (2:Int).toNat xs).flatten=xs++xs:=by
  rw [t];simp [List.replicate]
 have c:(-(2 ^ 63)<=(2:Int)/\(2:Int)<2 ^ 63)/\xs.length*(2:Int).toNat<=sizeLine:=⟨by decide,by rw [sizeLine_eq,t];omega⟩
 refine (zu c).trans ?_;rw [e]
def qh5 {P:PyData->Prop} {L k:Nat} {part more:PyData} {t:Bool} {ds:List PyData} {way:Int} {Q:QO} (hls:qgq [part]=some (.list ds)) (hty:tyD part=some (if t then "tuple" else "list")) (hl:ds.length<=L) (hL:L<=1000) (ha:∀ d∈ds,P d) (hm:P more) (hp:P part) (w0:0<=way) (w1:way<8) (hk:k<900000)
  (h:∀ r:List PyData,r.length<=L+1->(∀ d∈r,P d)->∀ b k',k'<=k+1->Q (.rt (.tuple r) b) k'/\Q (.rt (.list r) b) k'):qmB.w [.un,.sh part,.sh (.int way),.sh more,.un,.un,.un,.un,.un,.un,.un] k Q:=by
 unfold qmB;refine z8 λY1 h1=>?_
 try simp only [Pu.pwA,hls]
 rw [h1];refine z8 λY2 h2=>?_;have c0:CK (.int (ds.length:Int)) (.int 1)=some (.int ((ds.length:Int)+1)):=id rfl
 try simp only [Pu.pwA,ZO,ZD,c0]
 refine ⟨by omega,by omega,λa' a0 a1=>?_⟩;obtain ⟨a,rfl,ha'⟩:∃ a:Nat,a'=(a:Int)/\a<=ds.length:=⟨a'.toNat,by omega,by omega⟩
 try simp only [Pu.pwA]
 rw [h2];refine z8 λY3 h3=>?_;have c1:CK (.int (a:Int)) (.int 1)=some (.int ((a+1:Nat):Int)):=id rfl;have c2:CK (.int (a:Int)) (.int 2)=some (.int ((a+2:Nat):Int)):=id rfl;have s1:slA (.list ds) none (some (a:Int))=some (.list (ds.take a)):=by rw [qam,qb5]
 have s2:slA (.list ds) (some ((a+1:Nat):Int)) none=some (.list (ds.drop (a+1))):=by rw [qam,TX]
 have s3:slA (.list ds) (some ((a+2:Nat):Int)) none=some (.list (ds.drop (a+2))):=by rw [qam,TX]
 obtain ⟨o1,s4,l4,t4⟩:∃ o,slA (.list ds) (some (a:Int)) (some ((a+1:Nat):Int))=some (.list o)/\o.length<=min 1 (ds.length-a)/\∀ d∈o,P d:=⟨_,qam,qaE ds a 1,λd hd=>ha d (qaz hd)⟩
 obtain ⟨o2,s5,l5,t5⟩:∃ o,slA (.list ds) (some (a:Int)) (some ((a+2:Nat):Int))=some (.list o)/\o.length<=min 2 (ds.length-a)/\∀ d∈o,P d:=⟨_,qam,qaE ds a 2,λd hd=>ha d (qaz hd)⟩
 have tA:∀ d∈ds.take a,P d:=λd hd=>ha d (List.mem_of_mem_take hd);have tB:∀ d∈ds.drop (a+1),P d:=λd hd=>ha d (List.mem_of_mem_drop hd);have tC:∀ d∈ds.drop (a+2),P d:=λd hd=>ha d (List.mem_of_mem_drop hd);have lA:(ds.take a).length=a:=by rw [List.length_take];omega
 have lB:(ds.drop (a+1)).length=ds.length-(a+1):=List.length_drop;have lC:(ds.drop (a+2)).length=ds.length-(a+2):=List.length_drop;generalize ds.take a=A at *;generalize ds.drop (a+1)=Bb at *;generalize ds.drop (a+2)=C at *
 try simp only [Pu.pwA,CT,S4,ZO,ZD,c1,s1,s4,qjc]
 rw [h3];refine SM (λρ' m=>m=k+1/\∃ (r:List PyData) (s5 s6 s7 s8 s9 s10:Sl),ρ'=[.un,.sh part,.sh (.int way),.sh more,.sh (.list r),s5,s6,s7,s8,s9,s10]/\r.length<=L+1/\∀ d∈r,P d) ?_ ?_
 ·by_cases z:way<3
  ·have k1:CK (.list [more]) (.list o1)=some (.list (more::o1)):=WN (by simp;omega);obtain ⟨v,ev,mid,rfl,lm,tm⟩:=MC (ds:=[.list [],.list (o1++o1),.list (more::o1)]) (P:=λv=>∃ mid,v=.list mid/\mid.length<=min 1 (ds.length-a)+1/\∀ d∈mid,P d) 3 rfl w0 (by omega) (alc ⟨_,rfl,by simp,al0⟩ (alc ⟨_,rfl,by simp;omega,ala t4 t4⟩ (alc ⟨_,rfl,by simp;omega,alc hm t4⟩ al0)));have k2:CK (.list A) (.list mid)=some (.list (A++mid)):=WN (by omega);have k3:CK (.list (A++mid)) (.list Bb)=some (.list (A++mid++Bb)):=WN (by simp;omega)
   try simp only [Pu.pwA,z,decide_true,qfq,qbl,qoe (xs:=o1) (by omega),CT,S4,ZO,ZD,k1,ev,c1,s2,k2,k3,JI]
   exact ⟨_,_,_,_,_,_,_,rfl,by simp;omega,ala (ala tA tm) tB⟩
  try simp only [Pu.pwA,z,decide_false]
  by_cases z2:way=3
  ·have tr:∀ d∈o2.reverse,P d:=λd hd=>t5 d (List.mem_reverse.mp hd);have k2:CK (.list A) (.list o2.reverse)=some (.list (A++o2.reverse)):=WN (by simp;omega);have k3:CK (.list (A++o2.reverse)) (.list C)=some (.list (A++o2.reverse++C)):=WN (by simp;omega)
   try simp only [Pu.pwA,z2,decide_true,CT,S4,ZO,ZD,qdi,NK,qkn,c2,s5,s3,k2,k3,JI]
   refine ⟨_,_,_,_,_,_,_,rfl,by simp;omega,ala (ala tA tr) tC⟩
  ·try simp only [Pu.pwA,z2,decide_false]
   obtain ⟨v,ev,r,rfl,lm,tm⟩:=MC (ds:=[.list ds.reverse,.list ds,.list [part],.list []]) (P:=λv=>∃ mid,v=.list mid/\mid.length<=L+1/\∀ d∈mid,P d) (r:=way-4) 4 rfl (by omega) (by omega) (alc ⟨_,rfl,by simp;omega,λd hd=>ha d (List.mem_reverse.mp hd)⟩ (alc ⟨_,rfl,by omega,ha⟩ (alc ⟨_,rfl,by simp,alc hp al0⟩ (alc ⟨_,rfl,by simp,al0⟩ al0))))
   try simp only [Pu.pwA,qdi,NK,qkn,ev,JI]
   exact ⟨_,_,_,_,_,_,_,rfl,lm,tm⟩
 ·rintro ρ' m ⟨rfl,r,s5,s6,s7,s8,s9,s10,rfl,lr,tr⟩;refine z8 λY4 h4=>?_;have g:=λb=>h r lr tr b (k+1) (Nat.le_refl _);have e2:∀ b c:Bool,eqD true (.bool b) (.bool c)=some (.bool (b != c)):=λb c=>by cases b<;>cases c<;>rfl
  try simp only [Pu.pwA,hty,e2]
  cases t with
  |false=>
   try simp only [Pu.pwA,if_false,Bool.false_eq_true,sT1]
   by_cases z5:way=5
   ·try simp only [Pu.pwA,z5,decide_true,bne_self_eq_false,Bool.false_bne,Bool.true_bne,Bool.bne_true,Bool.bne_false,Bool.not_true,Bool.not_false]
    exact (g _).1
   ·try simp only [Pu.pwA,z5,decide_false,bne_self_eq_false,Bool.false_bne,Bool.true_bne,Bool.bne_true,Bool.bne_false,Bool.not_true,Bool.not_false]
    rw [h4]
    try simp only [Pu.pwA]
    exact (g _).2
  |true=>
   try simp only [Pu.pwA,if_true,sT2]
   by_cases z5:way=5
   ·try simp only [Pu.pwA,z5,decide_true,bne_self_eq_false,Bool.false_bne,Bool.true_bne,Bool.bne_true,Bool.bne_false,Bool.not_true,Bool.not_false]
    rw [h4]
    try simp only [Pu.pwA]
    exact (g _).2
   ·try simp only [Pu.pwA,z5,decide_false,bne_self_eq_false,Bool.false_bne,Bool.true_bne,Bool.bne_true,Bool.bne_false,Bool.not_true,Bool.not_false]
    exact (g _).1
def qlY {L B n k:Nat} {part:PyData} {Q:QD} (hp:Th L B n part) (hL:L<=1000) (hB:B<=100000) (hk:k<800000) (h:∀ d,Th (L+1) (B+2) (n+1) d->Q d (k+5)):zc.W [part] k Q:=by
 rw [EB];refine ⟨rfl,?_⟩;unfold jf;show (QF _ (QF (wIf _ qmB VZ) _)).w _ _ _;refine z8 λY1 h1=>?_
 try simp only [Pu.pwA]
 refine ⟨by omega,by omega,λway w0 w1=>⟨by omega,by omega,λu u0 u1=>?_⟩⟩;refine MC 6 rfl u0 u1 λmore hv=>?_;have hm:Th (L+1) (B+2) 1 more:=by
  have i0:∀ m,Th (L+1) (B+2) m (.int 0):=λm=>by rw [qbj];omega
  revert more
  refine alc (i0 _) (alc ?_ (alc (qm3 _) (alc (qfZ (by simp) al0) (alc (qfZ (by simp) (alc (i0 _) al0)) (alc ?_ al0)))))
  ·rw [qbj];omega
  ·rw [qhf];exact ⟨by decide,by decide⟩
 clear hv;rw [qeq rfl];refine ⟨_,rfl,?_⟩
 try simp only [Pu.pwA]
 rw [h1];refine z8 λY2 h2=>?_;cases part with
 |dict _=>cases n<;>exact hp.elim
 |int i=>
  rw [qbj] at hp;have wh:qt [.int i]=some (.bool true):=JS i
  try simp only [Pu.pwA,sA3]
  rw [h2];refine z8 λY3 h3=>?_
  try simp only [Pu.pwA,wh,Bool.not_true]
  rw [h3];refine z8 λY4 h4=>?_;have c1:CK (.int i) (.int 1)=some (.int (i+1)):=id rfl;have c2:CK (.int i) (.int 2)=some (.int (i+2)):=id rfl
  try simp only [Pu.pwA,ZO,ZD,c1,c2]
  rw [h4];have sh:=qdy (st:=true) (i:=i) (by omega);have ct:CK (.list [.int (i+1),.int (i-1),.int (0-i),.int (i+2)]) (.list [.bool (decide (i=1)),.str (Str.ofString (toString i)),.tuple [.int i],more])=some (.list [.int (i+1),.int (i-1),.int (0-i),.int (i+2),.bool (decide (i=1)),.str (Str.ofString (toString i)),.tuple [.int i],more]):=WN (by simp)
  try simp only [Pu.pwA,ZO,ZD,SV,WS,sh,ct]
  have ii:∀ (j:Int) (m:Nat),-(B:Int)-2<=j->j<=(B:Int)+2->Th (L+1) (B+2) m (.int j):=λj m j1 j2=>by rw [qbj];omega
  have ss:Th (L+1) (B+2) (n+1) (.str (Str.ofString (toString i))):=by
   rw [qhf];have s:=qe6 0 (i:=i) (by omega);exact ⟨Nat.le_trans s.bk (by decide),s.lv⟩
  have all:∀ d∈([.int (i+1),.int (i-1),.int (0-i),.int (i+2),.bool (decide (i=1)),.str (Str.ofString (toString i)),.tuple [.int i],more]:List PyData),Th (L+1) (B+2) (n+1) d:=alc (ii _ _ (by omega) (by omega)) (alc (ii _ _ (by omega) (by omega)) (alc (ii _ _ (by omega) (by omega)) (alc (ii _ _ (by omega) (by omega)) (alc (qls _) (alc ss (alc (qfZ (by simp) (alc (ii _ _ (by omega) (by omega)) al0)) (alc (jH (Nat.le_refl _) (Nat.le_refl _) _ hm (by omega)) al0)))))));obtain ⟨v,ev,hv⟩:=MC (P:=Th (L+1) (B+2) (n+1)) 8 rfl w0 w1 all
  try simp only [Pu.pwA,ev]
  exact ⟨_,by omega,h v hv⟩
 |list ds=>
  cases n with
  |zero=>exact hp.elim
  |succ n=>
   try simp only [Pu.pwA,sA5]
   refine qh5 (P:=Th (L+1) (B+2) (n+1)) (t:=false) (L:=L) (ds:=ds) rfl rfl hp.1 hL (λd hd=>jH (by omega) (by omega) _ (hp.2 d hd) (by omega)) (jH (Nat.le_refl _) (Nat.le_refl _) _ hm (by omega)) (jH (n:=n+1) (by omega) (by omega) _ hp (by omega)) w0 w1 (by omega) λr lr tr b k' hk'=>?_
   try simp only [Pu.pwA]
   exact ⟨⟨_,by omega,h _ (qfZ lr tr)⟩,⟨_,by omega,h _ (qkC lr tr)⟩⟩
 |tuple ds=>
  cases n with
  |zero=>exact hp.elim
  |succ n=>
   try simp only [Pu.pwA,sA6]
   refine qh5 (P:=Th (L+1) (B+2) (n+1)) (t:=true) (L:=L) (ds:=ds) rfl rfl hp.1 hL (λd hd=>jH (by omega) (by omega) _ (hp.2 d hd) (by omega)) (jH (Nat.le_refl _) (Nat.le_refl _) _ hm (by omega)) (jH (n:=n+1) (by omega) (by omega) _ hp (by omega)) w0 w1 (by omega) λr lr tr b k' hk'=>?_
   try simp only [Pu.pwA]
   exact ⟨⟨_,by omega,h _ (qfZ lr tr)⟩,⟨_,by omega,h _ (qkC lr tr)⟩⟩
 |_=>
  try simp only [Pu.pwA,sA1,sA2,sA4]
  rw [h2];refine z8 λY3 h3=>?_;have ii:∀ (j:Int) (m:Nat),-2<=j->j<=2->Th (L+1) (B+2) m (.int j):=λj m j1 j2=>by rw [qbj];omega
  have es:Th (L+1) (B+2) (n+1) (.str ""):=by rw [qhf];exact ⟨by decide,by decide⟩
  have all:∀ d∈([.int 0,.int 1,.bool false,.str "",.tuple [.none],.int (-1),.list [],.bool true]:List PyData),Th (L+1) (B+2) (n+1) d:=alc (ii _ _ (by omega) (by omega)) (alc (ii _ _ (by omega) (by omega)) (alc (qls _) (alc es (alc (qfZ (by simp) (alc (qm3 _) al0)) (alc (ii _ _ (by omega) (by omega)) (alc (qkC (by simp) al0) (alc (qls _) al0)))))));obtain ⟨v,ev,hv⟩:=MC (P:=Th (L+1) (B+2) (n+1)) 8 rfl w0 w1 all
  try simp only [Pu.pwA,fwn,fwb,fws,ev,Bool.not_false]
  exact ⟨_,by omega,h v hv⟩
def qdY {m:List Bool} {nw:Bool} {i:Nat} {p:List Nat} {ρ:Rho}:XZ m nw i (ptD p) ρ=(dm m ρ).set i (.sh (ptD p)):=qch
def qeZ {ps:List (List Nat)} {r:Int} (h0:0<=r) (h1:r<ps.length):∃ p∈ps,L2.atI (ps.map ptD) r=some (ptD p):=by
 obtain ⟨v,hv,e⟩:=qcP (ds:=ps.map ptD) h0 (by simpa using h1);obtain ⟨p,hp,rfl⟩:=mem_map.mp hv;exact ⟨p,hp,e⟩
def MR {ps:List (List Nat)} (h:1<=ps.length):∃ p∈ps,L2.atI (ps.map ptD) (-1)=some (ptD p):=by
 have:=qa4 (xs:=ps.map ptD) (j:=1) (Nat.le_refl _) (by simpa using h);have hl:ps.length-1<ps.length:=by omega
 rw [length_map,getElem?_map,getElem?_eq_getElem hl] at this;exact ⟨_,List.getElem_mem hl,this⟩
def qnk {L B n k:Nat} {th:PyData} {turn ag:Int} {s4 s5 s6:Sl} {Q:QO} (h:Th L B n th) (hn:n<=5) (hL:L<=9) (hB:B<=1000) (hk:k<700000)
  (hQ:∀ (r:PyData) (k':Nat) (s4 s5 s6:Sl),Th (L+1) (B+2) (n+1) r->k'<=k+6->Q (.nx [.un,.sh r,.sh (.int turn),.sh (.int ag),s4,s5,s6]) k'):zD.w [.un,.sh th,.sh (.int turn),.sh (.int ag),s4,s5,s6] k Q:=by
 have pb:pn L n<=1000000:=by
  have m1:∀ n,pn L n<=pn 9 n:=λn=>by
   induction n with
   |zero=>exact Nat.le_refl _
   |succ n ih=>simp only [pn];have:=Nat.mul_le_mul hL ih;omega
  have m2:∀ n,n<=5->pn 9 n<=1000000:=λn hn=>by
   match n,hn with
   |0,_=>decide
   |1,_=>decide
   |2,_=>decide
   |3,_=>decide
   |4,_=>decide
   |5,_=>decide
  exact Nat.le_trans (m1 n) (m2 n hn)
 obtain ⟨ps,ep,hv,l1,l2⟩:=qeS (j:=7) h (by omega) (by omega) pb;unfold zD;refine z8 λY1 h1=>?_
 try simp only [Pu.pwA,ep]
 rw [h1];refine z8 λY2 h2=>?_;obtain ⟨q0,hq0,e0⟩:=MR l1
 try simp only [Pu.pwA,e0,qdY]
 rw [h2];refine z8 λY3 h3=>?_;have go:∀ (q:List Nat) (k':Nat),q∈ps->k'<=k+1->Y3 [.un,.sh th,.sh (.int turn),.sh (.int ag),.sh (.list (ps.map ptD)),.sh (ptD q),s6] k' Q:=by
  intro q k' hq hk';obtain ⟨e,he⟩:=Option.isSome_iff_exists.mp (hv q hq);obtain ⟨ql,te⟩:=qfw h he;rw [h3];refine z8 λY4 h4=>?_
  try simp only [Pu.pwA,qhs he]
  refine qlY te (by omega) (by omega) (by omega) λx hx=>?_;rw [SY rfl]
  try simp only [Pu.pwA]
  rw [h4];obtain ⟨r,er,tr⟩:=qfm (L':=L+1) (B':=B+2) (by omega) (by omega) h (hv q hq) hx;obtain ⟨r',er',ep'⟩:=qgL (x:=x) (p:=q) (j:=7) (d:=th) (by omega) (hv q hq);rw [er] at er';cases er'
  try simp only [Pu.pwA,ep']
  rw [SY rfl];exact hQ r _ _ _ _ tr (by omega)
 by_cases c:0<turn\/0<ag
 ·have dr:(1<=((ps.map ptD).length:Int)/\((ps.map ptD).length:Int)<1073741824)/\k<1000000000/\∀ r:Int,0<=r->r<((ps.map ptD).length:Int)->∃ d,L2.atI (ps.map ptD) r=some d/\Y3 (XZ [false,false,false,false,true] false 5 d [.un,.sh th,.sh (.int turn),.sh (.int ag),.sh (.list (ps.map ptD)),.sh (ptD q0),s6]) (k+1) Q:=by
   rw [length_map];refine ⟨by omega,by omega,λr r0 r1=>?_⟩;obtain ⟨q,hq,eq⟩:=qeZ r0 r1;refine ⟨_,eq,?_⟩;rw [qdY];exact go q _ hq (by omega)
  by_cases c1:0<turn
  ·try simp only [Pu.pwA,c1,decide_true]
   exact dr
  ·have c2:0<ag:=c.resolve_left c1
   try simp only [Pu.pwA,c1,c2,decide_true,decide_false]
   exact dr
 ·have c1:¬ (0<turn):=λz=>c (.inl z);have c2:¬ (0<ag):=λz=>c (.inr z)
  try simp only [Pu.pwA,c1,c2,decide_false]
  exact go q0 _ hq0 (by omega)
open Bk (pop qW qw qg Dl)
def nbT (m:Nat):PyData->Bool
 |.int x=>decide (0<=x)&&decide (x<2 ^ m)
 |_=>false
def paT (cs:List Int) (t:Nat):PyData->Bool
 |.int x=>pa1 cs x t
 |_=>false
def shT (m:Nat) (cs:List Int):PyData->Bool
 |.list ds=>decide (ds.length=cs.length)&&(ds.zipIdx 0).all λp=>nbT m p.1&&paT cs p.2 p.1
 |_=>false
def sb:zL "bool" "bool" = true:=rfl
def sL1:zL "NoneType" "list" = false:=rfl
def sL2:zL "bool" "list" = false:=rfl
def sL3:zL "int" "list" = false:=rfl
def sL4:zL "str" "list" = false:=rfl
def sL6:zL "tuple" "list" = false:=rfl
def wA5:zL "list" "int" = false:=rfl
def wA6:zL "tuple" "int" = false:=rfl
def qjp {L B n m:Nat} {d:PyData} (h:Th L B n d):qy [d,.int (2 ^ m)]=some (.bool (nbT m d)):=by
 cases d with
 |dict _=>cases n<;>exact h.elim
 |int x=>exact MQ x _
 |_=>
  have e:∀ d,zj [d]=YB false (jn.f 1000000000 [.sh d]):=λd=>UW;rw [QQ]
  try simp only [Pu.pwA,zd,jn,e,nbT,wA1,wA2,wA3,wA4,wA5,wA6,Bool.not_true]
def qmd {L B n:Nat} {d:PyData} (h:Th L B n d):qt [d]=some (.bool (match d with|.int _=>true|_=>false)):=by
 cases d with
 |dict _=>cases n<;>exact h.elim
 |int x=>exact JS x
 |_=>
  rw [jA]
  try simp only [Pu.pwA,zK,wA1,wA2,wA3,wA4,wA5,wA6,Bool.not_true]
def qgO {m:Nat} {d:PyData} (h:nbT m d=true):∃ x:Int,d=.int x/\0<=x/\x<2 ^ m:=by
 cases d<;>simp [nbT] at h;exact ⟨_,rfl,h⟩
def qdx (f:PyData×Nat->Bool):∀ (xs:List Int) (k:Nat),((xs.map PyData.int).zipIdx k).all f=(xs.zipIdx k).all λq=>f (.int q.1,q.2)
 |[],_=>rfl
 |a::xs,k=>by simp only [map_cons,List.zipIdx_cons,List.all_cons,qdx f xs (k+1)]
def qk1 {m:Nat} {cs xs:List Int}:shT m cs (.list (xs.map PyData.int))=qb4 m cs xs:=by
 simp only [shT,qb4];rw [length_map,qdx];rfl
def qm2 {f:PyData->Bool} {g:PyData×Nat->Bool} {ds:List PyData} (h:ds.all f=false):((ds.zipIdx 0).all λp=>f p.1&&g p)=false:=by
 rw [WZ,WY f,h,Bool.false_and]
def qjL {h:PyData->Option (Option PyData)} {k:PyData->PyData} {ds:List PyData} (hh:∀ d∈ds,h d=some (some (k d))):lcP h ds=some (ds.map k):=by
 have:=ZQ (g:=id) (k:=k) (xs:=ds) hh;rw [List.map_id] at this;exact this
def qmP {L B n h l:Nat} {ms ks:List Int} {d:PyData} (hd:Th L B n d) (hL:L<=1000) (hm:∀ m∈ms,0<=m/\m<512) (hl:ms.length<=8) (lk:ks.length<=8):qA [dlD (.bits h l ms),.list (ks.map PyData.int),d]=some (.bool (shT ms.length (ks.map (qg ms)) d)):=by
 cases d with
 |dict _=>cases n<;>exact hd.elim
 |list ds=>
  cases n with
  |zero=>exact hd.elim
  |succ n=>
  obtain ⟨hl1,ha⟩:=hd;by_cases e:ds.length=ks.length
  ·have e':(ds.length:Int)=(ks.length:Int):=by omega
   by_cases nb:ds.all (nbT ms.length)=true
   ·-- all numbers
    obtain ⟨xs,rfl⟩:∃ xs:List Int,ds=xs.map PyData.int:=by
     clear hl1 ha e e';induction ds with
     |nil=>exact ⟨[],rfl⟩
     |cons d ds ih=>
      rw [List.all_cons,Bool.and_eq_true] at nb;obtain ⟨xs,rfl⟩:=ih nb.2;obtain ⟨x,rfl,_⟩:=qgO nb.1;exact ⟨x::xs,rfl⟩
    rw [qlZ hm hl lk (by simp at hl1;omega),qk1]
   ·have nb':ds.all (nbT ms.length)=false:=by simpa using nb
    have sf:shT ms.length (ks.map (qg ms)) (.list ds)=false:=by
     simp only [shT];rw [qm2 nb',Bool.and_false]
    rw [jv,sf]
    try simp only [Pu.pwA,qT,VG,length_map,e,e',decide_true,Bool.not_true]
    rw [JP (ds:=ds) (fs:=(ds.map (nbT ms.length)).map PyData.bool)]
    ·have al:(ds.map (nbT ms.length)).all id=false:=by rw [List.all_map];exact nb'
     try simp only [Pu.pwA,RM,al,Bool.not_false]
    ·try simp only [Pu.pwA]
    ·rw [map_map];refine qjL λd hd=>?_;have sh:cI W7 (λi j=>i*2 ^ j.toNat) (.int 1) (.int (ms.length:Int))=some (.int (2 ^ ms.length)):=by
      rw [TF ⟨by omega,by omega,by decide⟩,Int.one_mul,Int.toNat_natCast]
     try simp only [Pu.pwA,EX,dlD,sh,length_map,qjp (ha d hd),Function.comp_def]
    ·simp;omega
  ·have e':¬ (ds.length:Int)=(ks.length:Int):=by omega
   rw [jv]
   try simp only [Pu.pwA,qT,shT,VG,length_map,e,e',decide_false,Bool.not_false,Bool.false_and]
 |_=>
  rw [jv]
  try simp only [Pu.pwA,qT,shT,sL1,sL2,sL3,sL4,sL6,Bool.not_false]
def qm5 {L B n h l:Nat} {ms ks:List Int} {d:PyData} (hd:Th L B n d) (hm:∀ m∈ms,0<=m/\m<512) (hl:ms.length<=8):qR [dlD (.bits h l ms),.list (ks.map PyData.int),d]=some (.bool (shT ms.length (ks.map (qg ms)) d)):=by
 have tw:=LV hl;cases d with
 |dict _=>cases n<;>exact hd.elim
 |list ds=>
  cases n with
  |zero=>exact hd.elim
  |succ n=>
  obtain ⟨hl1,ha⟩:=hd;rw [JX];simp only [shT];by_cases e:ds.length=ks.length
  ·have e':(ds.length:Int)=(ks.length:Int):=by omega
   try simp only [Pu.pwA,zG,VG,length_map,e,e']
   rw [qaN ds 0];refine qad (Q:=λo=>YB false o=_) (d:=.bool false) (b:=false) (λp:PyData×Nat=>nbT ms.length p.1&&paT (ks.map (qg ms)) p.2 p.1) (λρ=>∃ s3 s4 s5 s6,ρ=[.sh (dlD (.bits h l ms)),.sh (.list (ks.map PyData.int)),.sh (.list ds),s3,s4,s5,s6]) (ds.zipIdx 0) ⟨_,_,_,_,rfl⟩ ?_ ?_ ?_
   ·rintro ⟨y,t⟩ hx ρ ⟨s3,s4,s5,s6,rfl⟩;have hy:=ha y (qff hx);have fw:=qmd hy;cases y with
    |dict _=>cases n<;>exact hy.elim
    |int x=>
     simp only [nbT,paT];by_cases i0:0<=x
     ·by_cases i1:x<2 ^ ms.length
      ·try simp only [Pu.pwA,JS,i0,i1,tw,dlD,length_map,YY,decide_true,Bool.true_and]
       refine CO (p:=λq:Int×Nat=>qW x (qg ms q.1)==decide (t=q.2)) (λρ=>∃ s5 s6,ρ=[.sh (dlD (.bits h l ms)),.sh (.list (ks.map PyData.int)),.sh (.list ds),.sh (.int (t:Int)),.sh (.int x),s5,s6]) (ks.zipIdx 0) ?_ (λρ z=>?_) ⟨_,_,rfl⟩ ?_
       ·rw [NN,XR]
       ·obtain ⟨s5,s6,rfl⟩:=z;exact ⟨_,_,_,_,rfl⟩
       ·rintro ⟨k,u⟩ hk ρ ⟨s5,s6,rfl⟩;have rg:=QL k ms;have pw:=p2 hl;have lb:=qoa (h:=h) (l:=l) (n:=k) hm hl;have r:=PyProof.Rows.bitAnd_range x rg.1;obtain ⟨c,hc⟩:=Int.eq_ofNat_of_zero_le r.1;have od:qW x (qg ms k)=decide (pop 64 c%2=1):=by unfold qW;rw [hc];rfl
        have e:decide ((t:Int)=(u:Int))=decide (t=u):=by rw [decide_eq_decide];omega
        refine ⟨_,⟨.sh (.int (u:Int)),.sh (.int k),rfl⟩,?_⟩;simp only [dlD] at lb
        try simp only [Pu.pwA,dlD,lb,hc,qlc (c:=c) (by omega),← od,e]
        cases qW x (qg ms k)<;>cases decide (t=u)<;>rfl
      ·refine ⟨_,⟨.sh (.int (t:Int)),.sh (.int x),s5,s6,rfl⟩,?_⟩
       try simp only [Pu.pwA,JS,i0,i1,tw,dlD,length_map,decide_true,decide_false,Bool.and_false,Bool.false_and]
     ·refine ⟨_,⟨.sh (.int (t:Int)),.sh (.int x),s5,s6,rfl⟩,?_⟩
      try simp only [Pu.pwA,JS,i0,decide_false,Bool.false_and]
    |_=>
     refine ⟨_,⟨.sh (.int (t:Int)),.sh .none,s5,s6,rfl⟩,?_⟩
     try simp only [Pu.pwA,fw,nbT,Bool.not_false,Bool.false_and]
   ·rintro hp ρ ⟨s3,s4,s5,s6,rfl⟩
    try simp only [Pu.pwA,hp]
   ·intro hp
    try simp only [Pu.pwA,hp]
  ·have e':¬ (ds.length:Int)=(ks.length:Int):=by omega
   try simp only [Pu.pwA,zG,VG,length_map,e,e',decide_false,Bool.not_false,Bool.false_and]
 |_=>
  rw [JX]
  try simp only [Pu.pwA,zG,shT,sL1,sL2,sL3,sL4,sL6,Bool.not_false]
def qiQ (lo:Int) (n:Nat):(D6 lo n).length=n:=by simp [D6]
def ql0 {L B n k:Nat} {th:PyData} {turn:Int} {Q:QD} (h:Th L B n th) (hn:n<=4) (hL:L<=8) (hB:B<=900) (hk:k<600000) (hQ:∀ r,Th (L+2) (B+4) (n+2) r->Q r (k+20)):z4.W [th,.int turn] k Q:=by
 rw [WT];refine ⟨rfl,?_⟩;unfold QN;refine z8 λY1 h1=>?_;have fin:∀ (c k':Nat),c<=2->k'<=k+1->qbe (gN 3).f zD.w ((D6 0 c).map PyData.int) [.un,.sh th,.sh (.int turn),.un,.un,.un,.un] k' (sqw Y1 (qdF false Q)):=by
  intro c k' hc hk';refine EM (D6 0 c) zD.mn (λi ρ m=>m<=k+1+6*i/\∃ (x:PyData) (s3 s4 s5 s6:Sl),ρ=[.un,.sh x,.sh (.int turn),s3,s4,s5,s6]/\Th (L+i) (B+2*i) (n+i) x) ⟨by omega,th,_,_,_,_,rfl,h⟩ ?_ ?_
  ·rintro i ag ρ m hx ⟨hm,x,s3,s4,s5,s6,rfl,tx⟩;have hi:i<c:=by have:=(List.getElem?_eq_some_iff.mp hx).1;rw [qiQ] at this;exact this
   refine ⟨_,rfl,?_⟩;refine qnk tx (by omega) (by omega) (by omega) (by omega) λr k2 t4 t5 t6 tr hk2=>?_;exact ⟨by omega,r,_,_,_,_,rfl,jH (by omega) (by omega) _ tr (by omega)⟩
  ·rintro ρ m ⟨hm,x,s3,s4,s5,s6,rfl,tx⟩;rw [qiQ] at hm tx
   try simp only [Pu.pwA]
   rw [h1]
   try simp only [Pu.pwA]
   exact ⟨_,by omega,hQ x (jH (by omega) (by omega) _ tx (by omega))⟩
 by_cases c:1<turn
 ·try simp only [Pu.pwA,c,decide_true]
  refine ⟨by omega,by omega,λf f0 f1=>?_⟩;by_cases e:f=0
  ·try simp (disch:=omega) only [Pu.pwA,e,decide_true,qea]
   exact fin 2 _ (by omega) (by omega)
  ·try simp (disch:=omega) only [Pu.pwA,e,decide_false,qea]
   exact fin 1 _ (by omega) (by omega)
 ·try simp (disch:=omega) only [Pu.pwA,c,decide_false,qea]
  exact fin 1 _ (by omega) (by omega)
def qkS {i j:Nat} {m:List Bool} {x:Str} {b:Bool} {ρ:Rho}:qfB i j m [.str x,.bool b] ρ=some (.nx ((ρ.set i (.sh (.str x))).set j (.sh (.bool b)))):=id rfl
def Ow (ys:List PyData) (s:Sl):Prop:=s=.ow ys\/s=.sh (.list ys)
def Ow.d {ys:List PyData} {s:Sl} (h:Ow ys s):s.d=some (.list ys):=by rcases h with rfl|rfl<;>rfl
def qoz {r a d b x:PyData} {ys:List PyData} {s5 s7 s8 s9 s10:Sl} (h:Ow ys s5):∃ s5',XZ [false,false,false,false,false,true,true] false 7 r [.un,.sh a,.un,.sh d,.sh b,s5,.sh x,s7,s8,s9,s10,.un]=[.un,.sh a,.un,.sh d,.sh b,s5',.sh x,.sh r,s8,s9,s10,.un]/\Ow ys s5':=by
 unfold XZ;split
 ·exact ⟨s5,rfl,h⟩
 ·rcases h with rfl|rfl
  ·exact ⟨_,rfl,.inr rfl⟩
  ·exact ⟨_,rfl,.inr rfl⟩
def qhv:∀ k:Nat,k<=60->qcn.w [.un,.sh (.int k),.un,.un,.un,.un,.un,.un,.un,.un,.un,.un] 0 okW:=by
 intro k hk;unfold qcn;refine z8 λY1 h1=>?_
 try simp only [Pu.pwA]
 refine qeL (by omega) λhh l ms ks ok lk hks=>?_;simp only [Dl.Ok] at ok;obtain ⟨o1,o2,o3,hm⟩:=ok;have pw:=p2 (show hh+l<=8 by omega);have hm':∀ m∈ms,0<=m/\m<512:=λm hx=>⟨(hm m hx).1,by have:=(hm m hx).2;omega⟩
 have hk0:∀ m∈ks,0<=m:=λm hx=>(hks m hx).1;have fp:=qov (h:=hh) (l:=l) (ms:=ms) (ks:=ks) hm' (by omega) hk0 (by omega);have hc:∀ c∈ks.map (qg ms),0<=c/\c<2 ^ ms.length:=λc hx=>by
  obtain ⟨k,_,rfl⟩:=mem_map.mp hx;exact QL k ms
 try simp only [Pu.pwA]
 rw [h1];refine z8 λY2 h2=>?_;have tw:qp [.int ((hh:Int)+(l:Int))]=some (.int (2 ^ (hh+l))):=by
  rw [show (hh:Int)+(l:Int)=((hh+l:Nat):Int) by omega];exact LV (by omega)
 cases e:fcI 0 (fl (ks.map (qg ms))) with
 |some t=>
  have fd:fpD (ks.map (qg ms))=.none:=by unfold fpD;rw [e]
  rw [fd] at fp
  try simp only [Pu.pwA,fp]
  rw [h2];refine z8 λY3 h3=>?_;have m0:(20:Int)*0=0:=rfl
  try simp (disch:=omega) only [Pu.pwA,NS,m0,qea]
  refine EM (D6 0 (0:Int).toNat) EH.mn (λi ρ m=>m=30/\ρ=[.un,.sh (.int k),.un,.sh (dlD (.bits hh l ms)),.sh (.list (ks.map PyData.int)),.sh .none,.un,.un,.un,.un,.un,.un]) ⟨rfl,rfl⟩ ?_ ?_
  ·rintro i x ρ m hx;have:=(List.getElem?_eq_some_iff.mp hx).1;rw [qiQ] at this;exact absurd this (Nat.not_lt_zero _)
  ·rintro ρ m ⟨rfl,rfl⟩
   try simp only [Pu.pwA]
   rw [h3];refine z8 λY4 h4=>?_
   try simp only [Pu.pwA,Bool.not_true]
   rw [h4];refine z8 λY5 h5=>?_;have d1:ixD (dlD (.bits hh l ms)) (.int 1)=some (.int (hh:Int)):=rfl;have d2:ixD (dlD (.bits hh l ms)) (.int 2)=some (.int (l:Int)):=rfl
   try simp only [Pu.pwA,d1,d2,tw]
   refine SG (by omega) (by omega) λjs lj hj=>?_
   try simp only [Pu.pwA]
   rw [h5]
   try simp only [Pu.pwA,Bool.not_true]
 |none=>
  have fd:fpD (ks.map (qg ms))=.list ((M6 (ks.map (qg ms))).map PyData.int):=by unfold fpD;rw [e]
  have pk:=qkp (show ms.length<=64 by omega) hc e;have lp:(M6 (ks.map (qg ms))).length<=4:=by simp [M6];exact lk
  rw [fd] at fp;generalize M6 (ks.map (qg ms))=xs at *;have bx:∀ x∈xs,0<=x/\x<2 ^ ms.length:=λx hx=>by
   unfold qb4 at pk;rw [Bool.and_eq_true] at pk;have p1:=pk.2;rw [WZ,Bool.and_eq_true,WY (λx=>decide (0<=x)&&decide (x<2 ^ ms.length))] at p1;have:=List.all_eq_true.mp p1.1 x hx;simpa using this
  have pm:=p2 (show ms.length<=8 by omega);have tg:Th 4 256 1 (.list (xs.map PyData.int)):=qkC (by simpa using lp) λd hd=>by
   obtain ⟨x,hx,rfl⟩:=mem_map.mp hd;rw [qbj];have:=bx x hx;omega
  have sf:=qlZ (h:=hh) (l:=l) (ms:=ms) (ks:=ks) (xs:=xs) hm' (by omega) (by omega) (by omega);rw [pk] at sf
  try simp only [Pu.pwA,fp]
  rw [h2];refine z8 λY3 h3=>?_;have m0:(20:Int)*1=20:=rfl
  try simp (disch:=omega) only [Pu.pwA,NS,m0,Bool.not_false,qea]
  refine EM (D6 0 (20:Int).toNat) EH.mn (λi ρ m=>m<=30+20*i/\∃ s5 s6 s7 s8 s9 s10,ρ=[.un,.sh (.int k),.un,.sh (dlD (.bits hh l ms)),.sh (.list (ks.map PyData.int)),s5,s6,s7,s8,s9,s10,.un]/\Ow (xs.map PyData.int) s5) ⟨by omega,_,_,_,_,_,_,rfl,.inl rfl⟩ ?_ ?_
  ·rintro i x ρ m hx ⟨hm1,s5,s6,s7,s8,s9,s10,rfl,h5⟩;have hd:=h5.d;have hi:i<20:=by have:=(List.getElem?_eq_some_iff.mp hx).1;rw [qiQ] at this;exact this
   refine ⟨_,rfl,?_⟩;unfold EH;refine z8 λZ1 g1=>?_
   try simp only [Pu.pwA,hd]
   refine ql0 tg (by omega) (by omega) (by omega) (by omega) λr tr=>?_;obtain ⟨s5',ea,h5'⟩:=qoz (r:=r) (a:=.int (k:Int)) (d:=dlD (.bits hh l ms)) (b:=.list (ks.map PyData.int)) (x:=.int x) (s7:=s7) (s8:=s8) (s9:=s9) (s10:=s10) h5;rw [ea]
   try simp only [Pu.pwA]
   rw [g1];refine z8 λZ2 g2=>?_;obtain ⟨tx,et⟩:=qeD tr (by decide) (by decide) (by decide);have ls:=qm5 (h:=hh) (l:=l) (ms:=ms) (ks:=ks) tr hm' (by omega);have sh:=qmP (h:=hh) (l:=l) (ms:=ms) (ks:=ks) tr (by decide) hm' (by omega) (by omega)
   try simp only [Pu.pwA,SV,WS,et,ls,qkS]
   rw [g2];refine z8 λZ3 g3=>?_
   try simp only [Pu.pwA,sh]
   rw [g3]
   try simp only [Pu.pwA,SV,WS,et,sb,Bool.not_true,decide_true]
   exact ⟨by omega,_,_,_,_,_,_,rfl,h5'⟩
  ·rintro ρ m ⟨hm1,s5,s6,s7,s8,s9,s10,rfl,h5o⟩;have hd:=h5o.d;rw [qiQ] at hm1
   try simp only [Pu.pwA]
   rw [h3];refine z8 λY4 h4=>?_
   try simp only [Pu.pwA,hd,sf,Bool.not_false,Bool.not_true]
   rw [h4];refine z8 λY5 h5=>?_;have d1:ixD (dlD (.bits hh l ms)) (.int 1)=some (.int (hh:Int)):=rfl;have d2:ixD (dlD (.bits hh l ms)) (.int 2)=some (.int (l:Int)):=rfl
   try simp only [Pu.pwA,d1,d2,tw]
   refine SG (by have:(20:Int).toNat=20:=rfl;omega) (by omega) λjs lj hj=>?_
   try simp only [Pu.pwA]
   rw [h5];have ls2:=qoJ (h:=hh) (l:=l) (ms:=ms) (ks:=js) (xs:=xs) hm' (by omega);have sf2:=qlZ (h:=hh) (l:=l) (ms:=ms) (ks:=js) (xs:=xs) hm' (by omega) (by omega) (by omega)
   try simp only [Pu.pwA,hd,ls2,sf2,sb,Bool.not_false,Bool.not_true,decide_true]
end K33
namespace K33
open PySem L2 L3 Bk
abbrev qgD : Env := { scope := PySem.Challenge.pw_bankwalk_k33_flip_papers_spoilt_anywhere.main.scope,locals := mainNs,globals := mainNs,cells := [],code := .ref 13,frame := some 14 }
abbrev M5 : List Stmt := PySem.W.behindTheImports PySem.Challenge.pw_bankwalk_k33_flip_papers_spoilt_anywhere
abbrev W0:Code:=.body M5 qgD
abbrev qgU:List Frame:=[PySem.W.topFrame ⟨0,0,0,0⟩]
def zr:Obj:=Hd.oT []
def QH:Obj:=⟨.none,none,.fields #[],#[]⟩
def qlt:Obj:=Hd.oC [.str "<module>" 182,.str "<module>" 183,.str "/claim/cut.py" 184,.int (1) 0,.int (0) 0,.int (0) 0,.int (0) 0,.int (0) 0,.ref 11,.bool false,.int (181) 0,.ref 12,.none,.none,.none,.none,.int (185) 0,.int (1) 0,.str "/claim/cut.py" 186]
def qlh:Obj:=⟨.type "frame",none,.plain,#[some (.ref 13),some (.ref 3),some (.ref 3),none,some (.str "__main__" 164),none,some (.ref 0)]⟩
def qhB (P:Params):Heap:=⟨Array.mk [PySem.W.boot_o_0 P,PySem.W.boot_o_1 P,PySem.W.boot_o_2 P,PySem.W.boot_o_3 P,PySem.W.boot_o_4 P,PySem.W.boot_o_5 P,PySem.W.boot_o_6 P,PySem.W.boot_o_7 P,PySem.W.boot_o_8 P,PySem.W.boot_o_9 P,PySem.W.boot_o_10 P,zr,QH,qlt,qlh],{ }⟩
def qjC (P:Params):PySem.W.BT:=(Hd.nd (PySem.W.boot_o_0 P) (Hd.nd (PySem.W.boot_o_1 P) (Hd.nd (PySem.W.boot_o_3 P) (Hd.lf (PySem.W.boot_o_7 P)) (Hd.lf zr)) (Hd.nd (PySem.W.boot_o_5 P) (Hd.lf (PySem.W.boot_o_9 P)) (Hd.lf qlt))) (Hd.nd (PySem.W.boot_o_2 P) (Hd.nd (PySem.W.boot_o_4 P) (Hd.lf (PySem.W.boot_o_8 P)) (Hd.lf QH)) (Hd.nd (PySem.W.boot_o_6 P) (Hd.lf (PySem.W.boot_o_10 P)) (Hd.lf qlh))))
set_option maxRecDepth 100000 in
set_option maxHeartbeats 0 in
def qkt (w : World) (os : OsState) : PySem.W.topGo treeTable PySem.Challenge.pw_bankwalk_k33_flip_papers_spoilt_anywhere w 11 (some (Value.ref 6)) 12 ⟨PySem.W.boot_heap w.params,Array.mk [],PySem.W.boot_drawn,PySem.W.boot_toks,os⟩ (PySem.W.topStub PySem.Challenge.pw_bankwalk_k33_flip_papers_spoilt_anywhere) = some (⟨qhB w.params,#[],{ },187,os⟩,⟨denote treeTable W0,W0,⟨0,0,0,0⟩,qgU⟩) := by kernel_rfl
set_option maxRecDepth 100000 in
set_option maxHeartbeats 0 in
def qjH (w : World) (os : OsState) : PySem.W.segRun treeTable PySem.Challenge.pw_bankwalk_k33_flip_papers_spoilt_anywhere w 11 (some (Value.ref 6)) 1 1 ⟨qhB w.params,#[],{ },187,os⟩ (PySem.W.blockOf M5 qgD W0 ⟨0,0,0,0⟩ qgU) = some (.next,(⟨qjC w.params,15,{ },#[],{ },187,os⟩ : PySem.W.SharedT).abs,W0,⟨0,0,0,0⟩) := by kernel_rfl
def qop (P:Params):Obj:=Hd.oD P 24 [(.str "__name__" 165,.str "law_bankwalk_k33_flip_papers_spoilt_anywhere" 275),(.str "__doc__" 166,.none),(.str "__package__" 167,.none),(.str "__loader__" 168,.builtin "__main__.__loader__#opaque"),(.str "__spec__" 169,.none),(.str "__annotations__" 170,.ref 6),(.str "__builtins__" 171,.ref 4),(.str "__file__" 173,.str "/claim/cut.py" 172),(.str "__cached__" 174,.none),(.str "is_number" 195,.ref 21),(.str "is_number_below" 203,.ref 28),(.str "odd_in_common" 215,.ref 35),(.str "bits_bank" 221,.ref 40),(.str "flips" 229,.ref 45),(.str "stairs" 240,.ref 52),(.str "mark_banks" 246,.ref 57),(.str "flip_clash" 256,.ref 64),(.str "tells_apart" 262,.ref 69),(.str "flip_paper" 268,.ref 74),(.str "shows_flips" 274,.ref 79),(.str "_law_mix" 285,.ref 86),(.str "_law_left" 295,.ref 93),(.str "_law_pick" 304,.ref 100),(.str "_law_two" 311,.ref 107)]
def qoF:Obj:=⟨.none,none,.fields #[.int (2) 0,.int (0) 0,.ref 20,.int (4) 0,.int (0) 0,.ref 27,.int (7) 0,.int (0) 0,.ref 34,.int (14) 0,.int (0) 0,.ref 39,.int (17) 0,.int (0) 0,.ref 44,.int (22) 0,.int (0) 0,.ref 51,.int (31) 0,.int (0) 0,.ref 56,.int (33) 0,.int (0) 0,.ref 63,.int (38) 0,.int (0) 0,.ref 68,.int (40) 0,.int (0) 0,.ref 73,.int (46) 0,.int (0) 0,.ref 78,.int (54) 0,.int (0) 0,.ref 85,.int (57) 0,.int (0) 0,.ref 92,.int (61) 0,.int (0) 0,.ref 99,.int (68) 0,.int (0) 0,.ref 106],#[]⟩
def qnR:Obj:=Hd.oN j7 192
def qnt:Obj:=Hd.oG "is_number" jF
def qlO:Obj:=Hd.oK "is_number" 189 2 1 181 15 16 .none (.ref 17) (.ref 18) 19 193 194
def qfx:Obj:=Hd.oF "is_number" jF (.str "bankwalk.basics" 187) (.ref 20)
def qiG:Obj:=Hd.oN zf 199
def qkP:Obj:=Hd.oG "is_number_below" qU
def qfX:Obj:=Hd.oK "is_number_below" 196 4 2 181 22 23 .none (.ref 24) (.ref 25) 26 201 202
def qe8:Obj:=Hd.oF "is_number_below" qU (.str "bankwalk.basics" 187) (.ref 27)
def qhG:Obj:=Hd.oN j4 209
def qkl:Obj:=Hd.oG "odd_in_common" zq
def qf9:Obj:=Hd.oK "odd_in_common" 206 7 2 181 29 30 .none (.ref 31) (.ref 32) 33 213 214
def qfV:Obj:=Hd.oF "odd_in_common" zq (.str "bankwalk.dealings" 204) (.ref 34)
def qid:Obj:=Hd.oG "bits_bank" jz
def qfO:Obj:=Hd.oK "bits_bank" 216 14 2 181 36 37 .none .none .none 38 219 220
def qgf:Obj:=Hd.oF "bits_bank" jz (.str "bankwalk.dealings" 204) (.ref 39)
def qgY:Obj:=Hd.oG "flips" VS
def qe2:Obj:=Hd.oK "flips" 224 17 1 181 41 42 .none .none .none 43 227 228
def qen:Obj:=Hd.oF "flips" VS (.str "bankwalk.flips" 222) (.ref 44)
def qiz:Obj:=Hd.oN VV 233
def qjq:Obj:=Hd.oG "stairs" J0
def qeG:Obj:=Hd.oK "stairs" 230 22 1 181 46 47 .none (.ref 48) (.ref 49) 50 238 239
def qf1:Obj:=Hd.oF "stairs" J0 (.str "bankwalk.flips" 222) (.ref 51)
def qg8:Obj:=Hd.oG "mark_banks" jc
def qeM:Obj:=Hd.oK "mark_banks" 241 31 2 181 53 54 .none .none .none 55 244 245
def qfL:Obj:=Hd.oF "mark_banks" jc (.str "bankwalk.flips" 222) (.ref 56)
def qjw:Obj:=Hd.oN JJ 250
def qj9:Obj:=Hd.oG "flip_clash" jd
def qfg:Obj:=Hd.oK "flip_clash" 247 33 2 181 58 59 .none (.ref 60) (.ref 61) 62 254 255
def qgg:Obj:=Hd.oF "flip_clash" jd (.str "bankwalk.flips" 222) (.ref 63)
def qjK:Obj:=Hd.oG "tells_apart" zV
def qf3:Obj:=Hd.oK "tells_apart" 257 38 3 181 65 66 .none .none .none 67 260 261
def qfC:Obj:=Hd.oF "tells_apart" zV (.str "bankwalk.flips" 222) (.ref 68)
def qgC:Obj:=Hd.oG "flip_paper" jb
def qgi:Obj:=Hd.oK "flip_paper" 263 40 2 181 70 71 .none .none .none 72 266 267
def qeY:Obj:=Hd.oF "flip_paper" jb (.str "bankwalk.flips" 222) (.ref 73)
def qiA:Obj:=Hd.oG "shows_flips" zW
def qex:Obj:=Hd.oK "shows_flips" 269 46 3 181 75 76 .none .none .none 77 272 273
def qft:Obj:=Hd.oF "shows_flips" zW (.str "bankwalk.flips" 222) (.ref 78)
def qjj:Obj:=Hd.oN DF 280
def qi8:Obj:=Hd.oG "_law_mix" Q8
def qe9:Obj:=Hd.oK "_law_mix" 277 54 2 181 80 81 .none (.ref 82) (.ref 83) 84 283 284
def qew:Obj:=Hd.oF "_law_mix" Q8 (.str "law_bankwalk_k33_flip_papers_spoilt_anywhere" 275) (.ref 85)
def qkX:Obj:=Hd.oN UF 289
def qin:Obj:=Hd.oG "_law_left" j9
def qfr:Obj:=Hd.oK "_law_left" 286 57 2 181 87 88 .none (.ref 89) (.ref 90) 91 293 294
def qe7:Obj:=Hd.oF "_law_left" j9 (.str "law_bankwalk_k33_flip_papers_spoilt_anywhere" 275) (.ref 92)
def qjG:Obj:=Hd.oN UE 299
def qil:Obj:=Hd.oG "_law_pick" j5
def qfc:Obj:=Hd.oK "_law_pick" 296 61 2 181 94 95 .none (.ref 96) (.ref 97) 98 302 303
def qeB:Obj:=Hd.oF "_law_pick" j5 (.str "law_bankwalk_k33_flip_papers_spoilt_anywhere" 275) (.ref 99)
def qiv:Obj:=Hd.oN JO 308
def qgK:Obj:=Hd.oG "_law_two" ZE
def qfW:Obj:=Hd.oK "_law_two" 305 68 1 181 101 102 .none (.ref 103) (.ref 104) 105 309 310
def qeo:Obj:=Hd.oF "_law_two" ZE (.str "law_bankwalk_k33_flip_papers_spoilt_anywhere" 275) (.ref 106)
def qjv (P:Params):PySem.W.BT:=(Hd.nd (PySem.W.boot_o_0 P) (Hd.nd (PySem.W.boot_o_1 P) (Hd.nd (qop P) (Hd.nd (PySem.W.boot_o_7 P) (Hd.nd zr (Hd.nd qhG (Hd.lf qfg) (Hd.lf QH)) (Hd.nd QH (Hd.lf qft) .nil)) (Hd.nd QH (Hd.nd qfO (Hd.lf QH) (Hd.lf qiv)) (Hd.nd qg8 (Hd.lf zr) .nil))) (Hd.nd zr (Hd.nd qnt (Hd.nd qfV (Hd.lf qjK) (Hd.lf qfc)) (Hd.nd qeG (Hd.lf zr) .nil)) (Hd.nd qfX (Hd.nd qgY (Hd.lf zr) (Hd.lf qeo)) (Hd.nd QH (Hd.lf qin) .nil)))) (Hd.nd (PySem.W.boot_o_5 P) (Hd.nd (PySem.W.boot_o_9 P) (Hd.nd qnR (Hd.nd qkl (Hd.lf zr) (Hd.lf zr)) (Hd.nd zr (Hd.lf QH) .nil)) (Hd.nd zr (Hd.nd zr (Hd.lf qgi) (Hd.lf qgK)) (Hd.nd qfL (Hd.lf qkX) .nil))) (Hd.nd qlt (Hd.nd qfx (Hd.nd QH (Hd.lf qfC) (Hd.lf zr)) (Hd.nd zr (Hd.lf qe9) .nil)) (Hd.nd zr (Hd.nd qen (Hd.lf qiA) .nil) (Hd.nd zr (Hd.lf qe7) .nil))))) (Hd.nd (PySem.W.boot_o_2 P) (Hd.nd (PySem.W.boot_o_4 P) (Hd.nd (PySem.W.boot_o_8 P) (Hd.nd QH (Hd.nd zr (Hd.lf qgg) (Hd.lf qjG)) (Hd.nd qiz (Hd.lf zr) .nil)) (Hd.nd qiG (Hd.nd qgf (Hd.lf qgC) (Hd.lf zr)) (Hd.nd qeM (Hd.lf QH) .nil))) (Hd.nd qoF (Hd.nd qlO (Hd.nd zr (Hd.lf qf3) (Hd.lf qeB)) (Hd.nd qf1 (Hd.lf qi8) .nil)) (Hd.nd qe8 (Hd.nd qe2 (Hd.lf QH) .nil) (Hd.nd qjw (Hd.lf qfr) .nil)))) (Hd.nd (PySem.W.boot_o_6 P) (Hd.nd (PySem.W.boot_o_10 P) (Hd.nd zr (Hd.nd qf9 (Hd.lf QH) (Hd.lf qil)) (Hd.nd qjq (Hd.lf qjj) .nil)) (Hd.nd qkP (Hd.nd QH (Hd.lf qeY) (Hd.lf qfW)) (Hd.nd zr (Hd.lf zr) .nil))) (Hd.nd qlh (Hd.nd zr (Hd.nd qid (Hd.lf zr) (Hd.lf QH)) (Hd.nd QH (Hd.lf qew) .nil)) (Hd.nd QH (Hd.nd zr (Hd.lf qex) .nil) (Hd.nd qj9 (Hd.lf zr) .nil))))))
abbrev qdL:List Stmt:=(M5.drop 0).take 19
set_option maxRecDepth 100000 in
set_option maxHeartbeats 0 in
def qgR (w : World) (os : OsState) : PySem.W.segRunT treeTable PySem.Challenge.pw_bankwalk_k33_flip_papers_spoilt_anywhere w 11 (some (Value.ref 6)) 1 472 (⟨qjC w.params,15,{ },#[],{ },187,os⟩ : PySem.W.SharedT) (PySem.W.piecesOf qdL qgD W0 ⟨0,0,0,0⟩ qgU) = some (.next,(⟨qjv w.params,108,{ },#[],{ },312,os⟩ : PySem.W.SharedT),W0,⟨68,0,69,53⟩) := by kernel_rfl
def qgP (P:Params):Obj:=Hd.oD P 37 [(.str "__name__" 165,.str "law_bankwalk_k33_flip_papers_spoilt_anywhere" 275),(.str "__doc__" 166,.none),(.str "__package__" 167,.none),(.str "__loader__" 168,.builtin "__main__.__loader__#opaque"),(.str "__spec__" 169,.none),(.str "__annotations__" 170,.ref 6),(.str "__builtins__" 171,.ref 4),(.str "__file__" 173,.str "/claim/cut.py" 172),(.str "__cached__" 174,.none),(.str "is_number" 195,.ref 21),(.str "is_number_below" 203,.ref 28),(.str "odd_in_common" 215,.ref 35),(.str "bits_bank" 221,.ref 40),(.str "flips" 229,.ref 45),(.str "stairs" 240,.ref 52),(.str "mark_banks" 246,.ref 57),(.str "flip_clash" 256,.ref 64),(.str "tells_apart" 262,.ref 69),(.str "flip_paper" 268,.ref 74),(.str "shows_flips" 274,.ref 79),(.str "_law_mix" 285,.ref 86),(.str "_law_left" 295,.ref 93),(.str "_law_pick" 304,.ref 100),(.str "_law_two" 311,.ref 107),(.str "_law_marks" 324,.ref 114),(.str "_law_bits" 330,.ref 119),(.str "_law_odd" 339,.ref 126),(.str "_law_bank" 350,.ref 133),(.str "_law_whole" 357,.ref 140),(.str "_law_shows" 370,.ref 147),(.str "_law_world" 378,.ref 154),(.str "_law_paths" 384,.ref 159),(.str "_law_part" 393,.ref 166),(.str "_law_put" 403,.ref 173),(.str "_law_otherwise" 420,.ref 180),(.str "_law_spoilt" 433,.ref 187),(.str "law" 451,.ref 194)]
def qmY:Obj:=⟨.none,none,.fields #[.int (2) 0,.int (0) 0,.ref 20,.int (4) 0,.int (0) 0,.ref 27,.int (7) 0,.int (0) 0,.ref 34,.int (14) 0,.int (0) 0,.ref 39,.int (17) 0,.int (0) 0,.ref 44,.int (22) 0,.int (0) 0,.ref 51,.int (31) 0,.int (0) 0,.ref 56,.int (33) 0,.int (0) 0,.ref 63,.int (38) 0,.int (0) 0,.ref 68,.int (40) 0,.int (0) 0,.ref 73,.int (46) 0,.int (0) 0,.ref 78,.int (54) 0,.int (0) 0,.ref 85,.int (57) 0,.int (0) 0,.ref 92,.int (61) 0,.int (0) 0,.ref 99,.int (68) 0,.int (0) 0,.ref 106,.int (70) 0,.int (0) 0,.ref 113,.int (81) 0,.int (0) 0,.ref 118,.int (86) 0,.int (0) 0,.ref 125,.int (91) 0,.int (0) 0,.ref 132,.int (97) 0,.int (0) 0,.ref 139,.int (99) 0,.int (0) 0,.ref 146,.int (109) 0,.int (0) 0,.ref 153,.int (112) 0,.int (0) 0,.ref 158,.int (118) 0,.int (0) 0,.ref 165,.int (122) 0,.int (0) 0,.ref 172,.int (128) 0,.int (0) 0,.ref 179,.int (149) 0,.int (0) 0,.ref 186,.int (158) 0,.int (0) 0,.ref 193],#[]⟩
def qmv:Obj:=Hd.oN j6 315
def qmp:Obj:=Hd.oG "_law_marks" jG
def qis:Obj:=Hd.oK "_law_marks" 312 70 3 181 108 109 .none (.ref 110) (.ref 111) 112 322 323
def qiK:Obj:=Hd.oF "_law_marks" jG (.str "law_bankwalk_k33_flip_papers_spoilt_anywhere" 275) (.ref 113)
def qmQ:Obj:=Hd.oG "_law_bits" jY
def qhF:Obj:=Hd.oK "_law_bits" 325 81 2 181 115 116 .none .none .none 117 328 329
def qk4:Obj:=Hd.oF "_law_bits" jY (.str "law_bankwalk_k33_flip_papers_spoilt_anywhere" 275) (.ref 118)
def qmo:Obj:=Hd.oN JU 334
def qm0:Obj:=Hd.oG "_law_odd" ZC
def qhK:Obj:=Hd.oK "_law_odd" 331 86 1 181 120 121 .none (.ref 122) (.ref 123) 124 337 338
def qhT:Obj:=Hd.oF "_law_odd" ZC (.str "law_bankwalk_k33_flip_papers_spoilt_anywhere" 275) (.ref 125)
def qly:Obj:=Hd.oN ZI 343
def qlK:Obj:=Hd.oG "_law_bank" jV
def qko:Obj:=Hd.oK "_law_bank" 340 91 2 181 127 128 .none (.ref 129) (.ref 130) 131 348 349
def qih:Obj:=Hd.oF "_law_bank" jV (.str "law_bankwalk_k33_flip_papers_spoilt_anywhere" 275) (.ref 132)
def qno:Obj:=Hd.oN j0 354
def qmS:Obj:=Hd.oG "_law_whole" jx
def qkY:Obj:=Hd.oK "_law_whole" 351 97 1 181 134 135 .none (.ref 136) (.ref 137) 138 355 356
def qje:Obj:=Hd.oF "_law_whole" jx (.str "law_bankwalk_k33_flip_papers_spoilt_anywhere" 275) (.ref 139)
def qnj:Obj:=Hd.oN QC 361
def qlw:Obj:=Hd.oG "_law_shows" jD
def qkE:Obj:=Hd.oK "_law_shows" 358 99 3 181 141 142 .none (.ref 143) (.ref 144) 145 368 369
def qhN:Obj:=Hd.oF "_law_shows" jD (.str "law_bankwalk_k33_flip_papers_spoilt_anywhere" 275) (.ref 146)
def qnd:Obj:=Hd.oN QE 374
def qlx:Obj:=Hd.oG "_law_world" jB
def qhg:Obj:=Hd.oK "_law_world" 371 109 1 181 148 149 .none (.ref 150) (.ref 151) 152 376 377
def qkB:Obj:=Hd.oF "_law_world" jB (.str "law_bankwalk_k33_flip_papers_spoilt_anywhere" 275) (.ref 153)
def qmK:Obj:=Hd.oG "_law_paths" jw
def qkD:Obj:=Hd.oK "_law_paths" 379 112 1 181 155 156 .none .none .none 157 382 383
def qi6:Obj:=Hd.oF "_law_paths" jw (.str "law_bankwalk_k33_flip_papers_spoilt_anywhere" 275) (.ref 158)
def qmH:Obj:=Hd.oN ZF 388
def qmO:Obj:=Hd.oG "_law_part" jW
def qkH:Obj:=Hd.oK "_law_part" 385 118 2 181 160 161 .none (.ref 162) (.ref 163) 164 391 392
def qj1:Obj:=Hd.oF "_law_part" jW (.str "law_bankwalk_k33_flip_papers_spoilt_anywhere" 275) (.ref 165)
def qmD:Obj:=Hd.oN JN 397
def qlP:Obj:=Hd.oG "_law_put" ZA
def qjr:Obj:=Hd.oK "_law_put" 394 122 3 181 167 168 .none (.ref 169) (.ref 170) 171 401 402
def qdM:Obj:=Hd.oF "_law_put" ZA (.str "law_bankwalk_k33_flip_papers_spoilt_anywhere" 275) (.ref 172)
def qhA:Obj:=Hd.oN zN 407
def qgH:Obj:=Hd.oG "_law_otherwise" zp
def qdf:Obj:=Hd.oK "_law_otherwise" 404 128 2 181 174 175 .none (.ref 176) (.ref 177) 178 418 419
def qdS:Obj:=Hd.oF "_law_otherwise" zp (.str "law_bankwalk_k33_flip_papers_spoilt_anywhere" 275) (.ref 179)
def qjE:Obj:=Hd.oN jC 424
def qhn:Obj:=Hd.oG "_law_spoilt" jj
def qcy:Obj:=Hd.oK "_law_spoilt" 421 149 3 181 181 182 .none (.ref 183) (.ref 184) 185 431 432
def qcX:Obj:=Hd.oF "_law_spoilt" jj (.str "law_bankwalk_k33_flip_papers_spoilt_anywhere" 275) (.ref 186)
def qhE:Obj:=Hd.oN qaq 437
def qi2:Obj:=Hd.oG "law" JL
def qcY:Obj:=Hd.oK "law" 434 158 1 181 188 189 .none (.ref 190) (.ref 191) 192 449 450
def qcv:Obj:=Hd.oF "law" JL (.str "law_bankwalk_k33_flip_papers_spoilt_anywhere" 275) (.ref 193)
def qe1 (P:Params):PySem.W.BT:=(Hd.nd (PySem.W.boot_o_0 P) (Hd.nd (PySem.W.boot_o_1 P) (Hd.nd (qgP P) (Hd.nd (PySem.W.boot_o_7 P) (Hd.nd zr (Hd.nd qhG (Hd.nd qfg (Hd.lf zr) (Hd.lf zr)) (Hd.nd QH (Hd.lf qi6) .nil)) (Hd.nd QH (Hd.nd qft (Hd.lf qnj) .nil) (Hd.nd zr (Hd.lf QH) .nil))) (Hd.nd QH (Hd.nd qfO (Hd.nd QH (Hd.lf QH) .nil) (Hd.nd qiv (Hd.lf zr) .nil)) (Hd.nd qg8 (Hd.nd zr (Hd.lf zr) .nil) (Hd.nd qk4 (Hd.lf qjE) .nil)))) (Hd.nd zr (Hd.nd qnt (Hd.nd qfV (Hd.nd qjK (Hd.lf qlK) .nil) (Hd.nd qfc (Hd.lf zr) .nil)) (Hd.nd qeG (Hd.nd zr (Hd.lf qhN) .nil) (Hd.nd zr (Hd.lf qdf) .nil))) (Hd.nd qfX (Hd.nd qgY (Hd.nd zr (Hd.lf qkY) .nil) (Hd.nd qeo (Hd.lf qlP) .nil)) (Hd.nd QH (Hd.nd qin (Hd.lf zr) .nil) (Hd.nd zr (Hd.lf qcX) .nil))))) (Hd.nd (PySem.W.boot_o_5 P) (Hd.nd (PySem.W.boot_o_9 P) (Hd.nd qnR (Hd.nd qkl (Hd.nd zr (Hd.lf qly) (Hd.lf qcY)) (Hd.nd zr (Hd.lf QH) .nil)) (Hd.nd zr (Hd.nd QH (Hd.lf qlw) .nil) (Hd.nd qis (Hd.lf zr) .nil))) (Hd.nd zr (Hd.nd zr (Hd.nd qgi (Hd.lf zr) .nil) (Hd.nd qgK (Hd.lf qmD) .nil)) (Hd.nd qfL (Hd.nd qkX (Hd.lf qhg) .nil) (Hd.nd QH (Hd.lf qhn) .nil)))) (Hd.nd qlt (Hd.nd qfx (Hd.nd QH (Hd.nd qfC (Hd.lf qih) .nil) (Hd.nd zr (Hd.lf qkH) .nil)) (Hd.nd zr (Hd.nd qe9 (Hd.lf QH) .nil) (Hd.nd qmQ (Hd.lf zr) .nil))) (Hd.nd zr (Hd.nd qen (Hd.nd qiA (Hd.lf zr) .nil) (Hd.nd QH (Hd.lf qdM) .nil)) (Hd.nd zr (Hd.nd qe7 (Hd.lf qmK) .nil) (Hd.nd qhK (Hd.lf QH) .nil)))))) (Hd.nd (PySem.W.boot_o_2 P) (Hd.nd (PySem.W.boot_o_4 P) (Hd.nd (PySem.W.boot_o_8 P) (Hd.nd QH (Hd.nd zr (Hd.nd qgg (Hd.lf QH) (Hd.lf qi2)) (Hd.nd qjG (Hd.lf zr) .nil)) (Hd.nd qiz (Hd.nd zr (Hd.lf zr) .nil) (Hd.nd qmp (Hd.lf qhA) .nil))) (Hd.nd qiG (Hd.nd qgf (Hd.nd qgC (Hd.lf qno) .nil) (Hd.nd zr (Hd.lf QH) .nil)) (Hd.nd qeM (Hd.nd QH (Hd.lf qlx) .nil) (Hd.nd zr (Hd.lf zr) .nil)))) (Hd.nd qmY (Hd.nd qlO (Hd.nd zr (Hd.nd qf3 (Hd.lf qko) .nil) (Hd.nd qeB (Hd.lf qmO) .nil)) (Hd.nd qf1 (Hd.nd qi8 (Hd.lf zr) .nil) (Hd.nd QH (Hd.lf qdS) .nil))) (Hd.nd qe8 (Hd.nd qe2 (Hd.nd QH (Hd.lf qje) .nil) (Hd.nd zr (Hd.lf qjr) .nil)) (Hd.nd qjw (Hd.nd qfr (Hd.lf QH) .nil) (Hd.nd qm0 (Hd.lf zr) .nil))))) (Hd.nd (PySem.W.boot_o_6 P) (Hd.nd (PySem.W.boot_o_10 P) (Hd.nd zr (Hd.nd qf9 (Hd.nd QH (Hd.lf zr) (Hd.lf qcv)) (Hd.nd qil (Hd.lf qmH) .nil)) (Hd.nd qjq (Hd.nd qjj (Hd.lf qkE) .nil) (Hd.nd qiK (Hd.lf qgH) .nil))) (Hd.nd qkP (Hd.nd QH (Hd.nd qeY (Hd.lf qmS) .nil) (Hd.nd qfW (Hd.lf zr) .nil)) (Hd.nd zr (Hd.nd zr (Hd.lf qkB) .nil) (Hd.nd qmo (Hd.lf qcy) .nil)))) (Hd.nd qlh (Hd.nd zr (Hd.nd qid (Hd.nd zr (Hd.lf zr) .nil) (Hd.nd QH (Hd.lf qj1) .nil)) (Hd.nd QH (Hd.nd qew (Hd.lf qnd) .nil) (Hd.nd qhF (Hd.lf QH) .nil))) (Hd.nd QH (Hd.nd zr (Hd.nd qex (Hd.lf QH) .nil) (Hd.nd qmv (Hd.lf zr) .nil)) (Hd.nd qj9 (Hd.nd zr (Hd.lf qkD) .nil) (Hd.nd qhT (Hd.lf qhE) .nil)))))))
abbrev qef:List Stmt:=(M5.drop 19).take 13
set_option maxRecDepth 100000 in
set_option maxHeartbeats 0 in
def qht (w : World) (os : OsState) : PySem.W.segRunT treeTable PySem.Challenge.pw_bankwalk_k33_flip_papers_spoilt_anywhere w 11 (some (Value.ref 6)) 1 423 (⟨qjv w.params,108,{ },#[],{ },312,os⟩ : PySem.W.SharedT) (PySem.W.piecesOf qef qgD W0 ⟨68,0,69,53⟩ qgU) = some (.next,(⟨qe1 w.params,195,{ },#[],{ },452,os⟩ : PySem.W.SharedT),W0,⟨158,0,177,15⟩) := by kernel_rfl
abbrev qeR (P:Params):Heap:=PySem.W.absHeap (qe1 P) 195 { }
def Kf (P:Params):PySem.W.Frag:=[(3,qgP P),(20,qlO),(21,qfx),(27,qfX),(28,qe8),(34,qf9),(35,qfV),(39,qfO),(40,qgf),(44,qe2),(45,qen),(51,qeG),(52,qf1),(56,qeM),(57,qfL),(63,qfg),(64,qgg),(68,qf3),(69,qfC),(73,qgi),(74,qeY),(78,qex),(79,qft),(85,qe9),(86,qew),(92,qfr),(93,qe7),(99,qfc),(100,qeB),(106,qfW),(107,qeo),(113,qis),(114,qiK),(118,qhF),(119,qk4),(125,qhK),(126,qhT),(132,qko),(133,qih),(139,qkY),(140,qje),(146,qkE),(147,qhN),(153,qhg),(154,qkB),(158,qkD),(159,qi6),(165,qkH),(166,qj1),(172,qjr),(173,qdM),(179,qdf),(180,qdS),(186,qcy),(187,qcX),(193,qcY),(194,qcv)]
def qjd {l:PySem.W.OpenLaw} {w:World} {h:Heap} {mg:Str->Option Value} {fa:Addr} (X:(Kf w.params).In h) (G:h.Ns mainGlobals mg) (hfa:mg "law" = some (.ref fa)) :
  ∃ fd:FuncData,(∀ (s:Shared) (v:Value),BindsTo s fd ⟨[v],[]⟩ [("_law_script",v)])/\∀ base:Heap,(Kf w.params).In base->base.Ns mainGlobals mg->FnOk l.prog w (Kf w.params) mg base CX0 9 fa fd ["_law_script"] (lSp (Kf w.params) WE):=by
 have e:=hfa.symm.trans (Hd.jl X G "law" (.ref 194) (by kernel_rfl));cases e;have F0:=Hd.jm (K:=Kf w.params) "is_number" jF 21 (.str "bankwalk.basics" 187) (.ref 20) (by kernel_rfl) (by kernel_rfl) (by kernel_rfl);have b0:=F0.binds (ps:=Y0) λ_ _ _ _ _ _ us hl=>by obtain ⟨_,rfl⟩:=Pu.qcq hl;rfl
 have m0:=Hd.jl X G "is_number" (.ref 21) (by kernel_rfl);have F1:=Hd.jm (K:=Kf w.params) "is_number_below" qU 28 (.str "bankwalk.basics" 187) (.ref 27) (by kernel_rfl) (by kernel_rfl) (by kernel_rfl);have b1:=F1.binds (ps:=ju) λ_ _ _ _ _ _ us hl=>by obtain ⟨_,_,rfl⟩:=Pu.KI hl;rfl
 have m1:=Hd.jl X G "is_number_below" (.ref 28) (by kernel_rfl);have F2:=Hd.jm (K:=Kf w.params) "odd_in_common" zq 35 (.str "bankwalk.dealings" 204) (.ref 34) (by kernel_rfl) (by kernel_rfl) (by kernel_rfl);have b2:=F2.binds (ps:=jU) λ_ _ _ _ _ _ us hl=>by obtain ⟨_,_,rfl⟩:=Pu.KI hl;rfl
 have m2:=Hd.jl X G "odd_in_common" (.ref 35) (by kernel_rfl);have F3:=Hd.jm (K:=Kf w.params) "bits_bank" jz 40 (.str "bankwalk.dealings" 204) (.ref 39) (by kernel_rfl) (by kernel_rfl) (by kernel_rfl);have b3:=F3.binds (ps:=Y6) λ_ _ _ _ _ _ us hl=>by obtain ⟨_,_,rfl⟩:=Pu.KI hl;rfl
 have m3:=Hd.jl X G "bits_bank" (.ref 40) (by kernel_rfl);have F4:=Hd.jm (K:=Kf w.params) "flips" VS 45 (.str "bankwalk.flips" 222) (.ref 44) (by kernel_rfl) (by kernel_rfl) (by kernel_rfl);have b4:=F4.binds (ps:=SF) λ_ _ _ _ _ _ us hl=>by obtain ⟨_,rfl⟩:=Pu.qcq hl;rfl
 have m4:=Hd.jl X G "flips" (.ref 45) (by kernel_rfl);have F5:=Hd.jm (K:=Kf w.params) "stairs" J0 52 (.str "bankwalk.flips" 222) (.ref 51) (by kernel_rfl) (by kernel_rfl) (by kernel_rfl);have b5:=F5.binds (ps:=X0) λ_ _ _ _ _ _ us hl=>by obtain ⟨_,rfl⟩:=Pu.qcq hl;rfl
 have m5:=Hd.jl X G "stairs" (.ref 52) (by kernel_rfl);have F6:=Hd.jm (K:=Kf w.params) "mark_banks" jc 57 (.str "bankwalk.flips" 222) (.ref 56) (by kernel_rfl) (by kernel_rfl) (by kernel_rfl);have b6:=F6.binds (ps:=JK) λ_ _ _ _ _ _ us hl=>by obtain ⟨_,_,rfl⟩:=Pu.KI hl;rfl
 have m6:=Hd.jl X G "mark_banks" (.ref 57) (by kernel_rfl);have F7:=Hd.jm (K:=Kf w.params) "flip_clash" jd 64 (.str "bankwalk.flips" 222) (.ref 63) (by kernel_rfl) (by kernel_rfl) (by kernel_rfl);have b7:=F7.binds (ps:=JQ) λ_ _ _ _ _ _ us hl=>by obtain ⟨_,_,rfl⟩:=Pu.KI hl;rfl
 have m7:=Hd.jl X G "flip_clash" (.ref 64) (by kernel_rfl);have F8:=Hd.jm (K:=Kf w.params) "tells_apart" zV 69 (.str "bankwalk.flips" 222) (.ref 68) (by kernel_rfl) (by kernel_rfl) (by kernel_rfl);have b8:=F8.binds (ps:=Z0) λ_ _ _ _ _ _ us hl=>by obtain ⟨_,_,_,rfl⟩:=Pu.qgx hl;rfl
 have m8:=Hd.jl X G "tells_apart" (.ref 69) (by kernel_rfl);have F9:=Hd.jm (K:=Kf w.params) "flip_paper" jb 74 (.str "bankwalk.flips" 222) (.ref 73) (by kernel_rfl) (by kernel_rfl) (by kernel_rfl);have b9:=F9.binds (ps:=JY) λ_ _ _ _ _ _ us hl=>by obtain ⟨_,_,rfl⟩:=Pu.KI hl;rfl
 have m9:=Hd.jl X G "flip_paper" (.ref 74) (by kernel_rfl);have F10:=Hd.jm (K:=Kf w.params) "shows_flips" zW 79 (.str "bankwalk.flips" 222) (.ref 78) (by kernel_rfl) (by kernel_rfl) (by kernel_rfl);have b10:=F10.binds (ps:=ZM) λ_ _ _ _ _ _ us hl=>by obtain ⟨_,_,_,rfl⟩:=Pu.qgx hl;rfl
 have m10:=Hd.jl X G "shows_flips" (.ref 79) (by kernel_rfl);have F11:=Hd.jm (K:=Kf w.params) "_law_mix" Q8 86 (.str "law_bankwalk_k33_flip_papers_spoilt_anywhere" 275) (.ref 85) (by kernel_rfl) (by kernel_rfl) (by kernel_rfl);have b11:=F11.binds (ps:=DE) λ_ _ _ _ _ _ us hl=>by obtain ⟨_,_,rfl⟩:=Pu.KI hl;rfl
 have m11:=Hd.jl X G "_law_mix" (.ref 86) (by kernel_rfl);have F12:=Hd.jm (K:=Kf w.params) "_law_left" j9 93 (.str "law_bankwalk_k33_flip_papers_spoilt_anywhere" 275) (.ref 92) (by kernel_rfl) (by kernel_rfl) (by kernel_rfl);have b12:=F12.binds (ps:=UI) λ_ _ _ _ _ _ us hl=>by obtain ⟨_,_,rfl⟩:=Pu.KI hl;rfl
 have m12:=Hd.jl X G "_law_left" (.ref 93) (by kernel_rfl);have F13:=Hd.jm (K:=Kf w.params) "_law_pick" j5 100 (.str "law_bankwalk_k33_flip_papers_spoilt_anywhere" 275) (.ref 99) (by kernel_rfl) (by kernel_rfl) (by kernel_rfl);have b13:=F13.binds (ps:=UG) λ_ _ _ _ _ _ us hl=>by obtain ⟨_,_,rfl⟩:=Pu.KI hl;rfl
 have m13:=Hd.jl X G "_law_pick" (.ref 100) (by kernel_rfl);have F14:=Hd.jm (K:=Kf w.params) "_law_two" ZE 107 (.str "law_bankwalk_k33_flip_papers_spoilt_anywhere" 275) (.ref 106) (by kernel_rfl) (by kernel_rfl) (by kernel_rfl);have b14:=F14.binds (ps:=ET) λ_ _ _ _ _ _ us hl=>by obtain ⟨_,rfl⟩:=Pu.qcq hl;rfl
 have m14:=Hd.jl X G "_law_two" (.ref 107) (by kernel_rfl);have F15:=Hd.jm (K:=Kf w.params) "_law_marks" jG 114 (.str "law_bankwalk_k33_flip_papers_spoilt_anywhere" 275) (.ref 113) (by kernel_rfl) (by kernel_rfl) (by kernel_rfl);have b15:=F15.binds (ps:=YN) λ_ _ _ _ _ _ us hl=>by obtain ⟨_,_,_,rfl⟩:=Pu.qgx hl;rfl
 have m15:=Hd.jl X G "_law_marks" (.ref 114) (by kernel_rfl);have F16:=Hd.jm (K:=Kf w.params) "_law_bits" jY 119 (.str "law_bankwalk_k33_flip_papers_spoilt_anywhere" 275) (.ref 118) (by kernel_rfl) (by kernel_rfl) (by kernel_rfl);have b16:=F16.binds (ps:=US) λ_ _ _ _ _ _ us hl=>by obtain ⟨_,_,rfl⟩:=Pu.KI hl;rfl
 have m16:=Hd.jl X G "_law_bits" (.ref 119) (by kernel_rfl);have F17:=Hd.jm (K:=Kf w.params) "_law_odd" ZC 126 (.str "law_bankwalk_k33_flip_papers_spoilt_anywhere" 275) (.ref 125) (by kernel_rfl) (by kernel_rfl) (by kernel_rfl);have b17:=F17.binds (ps:=E7) λ_ _ _ _ _ _ us hl=>by obtain ⟨_,rfl⟩:=Pu.qcq hl;rfl
 have m17:=Hd.jl X G "_law_odd" (.ref 126) (by kernel_rfl);have F18:=Hd.jm (K:=Kf w.params) "_law_bank" jV 133 (.str "law_bankwalk_k33_flip_papers_spoilt_anywhere" 275) (.ref 132) (by kernel_rfl) (by kernel_rfl) (by kernel_rfl);have b18:=F18.binds (ps:=V5) λ_ _ _ _ _ _ us hl=>by obtain ⟨_,_,rfl⟩:=Pu.KI hl;rfl
 have m18:=Hd.jl X G "_law_bank" (.ref 133) (by kernel_rfl);have F19:=Hd.jm (K:=Kf w.params) "_law_whole" jx 140 (.str "law_bankwalk_k33_flip_papers_spoilt_anywhere" 275) (.ref 139) (by kernel_rfl) (by kernel_rfl) (by kernel_rfl);have b19:=F19.binds (ps:=Y7) λ_ _ _ _ _ _ us hl=>by obtain ⟨_,rfl⟩:=Pu.qcq hl;rfl
 have m19:=Hd.jl X G "_law_whole" (.ref 140) (by kernel_rfl);have F20:=Hd.jm (K:=Kf w.params) "_law_shows" jD 147 (.str "law_bankwalk_k33_flip_papers_spoilt_anywhere" 275) (.ref 146) (by kernel_rfl) (by kernel_rfl) (by kernel_rfl);have b20:=F20.binds (ps:=YL) λ_ _ _ _ _ _ us hl=>by obtain ⟨_,_,_,rfl⟩:=Pu.qgx hl;rfl
 have m20:=Hd.jl X G "_law_shows" (.ref 147) (by kernel_rfl);have F21:=Hd.jm (K:=Kf w.params) "_law_world" jB 154 (.str "law_bankwalk_k33_flip_papers_spoilt_anywhere" 275) (.ref 153) (by kernel_rfl) (by kernel_rfl) (by kernel_rfl);have b21:=F21.binds (ps:=YW) λ_ _ _ _ _ _ us hl=>by obtain ⟨_,rfl⟩:=Pu.qcq hl;rfl
 have m21:=Hd.jl X G "_law_world" (.ref 154) (by kernel_rfl);have F22:=Hd.jm (K:=Kf w.params) "_law_paths" jw 159 (.str "law_bankwalk_k33_flip_papers_spoilt_anywhere" 275) (.ref 158) (by kernel_rfl) (by kernel_rfl) (by kernel_rfl);have b22:=F22.binds (ps:=YQ) λ_ _ _ _ _ _ us hl=>by obtain ⟨_,rfl⟩:=Pu.qcq hl;rfl
 have m22:=Hd.jl X G "_law_paths" (.ref 159) (by kernel_rfl);have F23:=Hd.jm (K:=Kf w.params) "_law_part" jW 166 (.str "law_bankwalk_k33_flip_papers_spoilt_anywhere" 275) (.ref 165) (by kernel_rfl) (by kernel_rfl) (by kernel_rfl);have b23:=F23.binds (ps:=UJ) λ_ _ _ _ _ _ us hl=>by obtain ⟨_,_,rfl⟩:=Pu.KI hl;rfl
 have m23:=Hd.jl X G "_law_part" (.ref 166) (by kernel_rfl);have F24:=Hd.jm (K:=Kf w.params) "_law_put" ZA 173 (.str "law_bankwalk_k33_flip_papers_spoilt_anywhere" 275) (.ref 172) (by kernel_rfl) (by kernel_rfl) (by kernel_rfl);have b24:=F24.binds (ps:=DH) λ_ _ _ _ _ _ us hl=>by obtain ⟨_,_,_,rfl⟩:=Pu.qgx hl;rfl
 have m24:=Hd.jl X G "_law_put" (.ref 173) (by kernel_rfl);have F25:=Hd.jm (K:=Kf w.params) "_law_otherwise" zp 180 (.str "law_bankwalk_k33_flip_papers_spoilt_anywhere" 275) (.ref 179) (by kernel_rfl) (by kernel_rfl) (by kernel_rfl);have b25:=F25.binds (ps:=jX) λ_ _ _ _ _ _ us hl=>by obtain ⟨_,_,rfl⟩:=Pu.KI hl;rfl
 have m25:=Hd.jl X G "_law_otherwise" (.ref 180) (by kernel_rfl);have F26:=Hd.jm (K:=Kf w.params) "_law_spoilt" jj 187 (.str "law_bankwalk_k33_flip_papers_spoilt_anywhere" 275) (.ref 186) (by kernel_rfl) (by kernel_rfl) (by kernel_rfl);have b26:=F26.binds (ps:=JR) λ_ _ _ _ _ _ us hl=>by obtain ⟨_,_,_,rfl⟩:=Pu.qgx hl;rfl
 have m26:=Hd.jl X G "_law_spoilt" (.ref 187) (by kernel_rfl);have F27:=Hd.jm (K:=Kf w.params) "law" JL 194 (.str "law_bankwalk_k33_flip_papers_spoilt_anywhere" 275) (.ref 193) (by kernel_rfl) (by kernel_rfl) (by kernel_rfl);have g_isinstance:=Hd.UM X G "isinstance" (by kernel_rfl);have g_bool:=Hd.UM X G "bool" (by kernel_rfl);have g_int:=Hd.UM X G "int" (by kernel_rfl);have g_enumerate:=Hd.UM X G "enumerate" (by kernel_rfl);have g_sum:=Hd.UM X G "sum" (by kernel_rfl);have g_min:=Hd.UM X G "min" (by kernel_rfl);have g_all:=Hd.UM X G "all" (by kernel_rfl);have g_len:=Hd.UM X G "len" (by kernel_rfl);have g_range:=Hd.UM X G "range" (by kernel_rfl);have g_list:=Hd.UM X G "list" (by kernel_rfl);have g_abs:=Hd.UM X G "abs" (by kernel_rfl);have g_tuple:=Hd.UM X G "tuple" (by kernel_rfl);have g_str:=Hd.UM X G "str" (by kernel_rfl);refine ⟨PySem.W.fnOf "law" "law" (ZV JL) (jh JL) (qi JL) .none .none .none (.str "law_bankwalk_k33_flip_papers_spoilt_anywhere" 275) none (.ref 193) .none,λs v=>.of_eq rfl,λbase _ _=>?_⟩;have O_is_number:=CQ (P:=l.prog) (w:=w) (base:=base) (k:=0) F0 b0 m0  g_isinstance g_bool g_int RE;have O_is_number_below:=VR (P:=l.prog) (w:=w) (base:=base) (k:=1) F1 b1 m1 O_is_number  VL;have O_odd_in_common:=U7 (P:=l.prog) (w:=w) (base:=base) (k:=0) F2 b2 m2   Pv.EE;have O_bits_bank:=RJ (P:=l.prog) (w:=w) (base:=base) (k:=1) F3 b3 m3 O_odd_in_common g_enumerate g_sum Pv.C5;have O_flips:=qbp (P:=l.prog) (w:=w) (base:=base) (k:=0) F4 b4 m4   Pv.qb7;have O_stairs:=qaW (P:=l.prog) (w:=w) (base:=base) (k:=0) F5 b5 m5  g_min qa6;have O_mark_banks:=WV (P:=l.prog) (w:=w) (base:=base) (k:=2) F6 b6 m6 O_bits_bank  Pv.XJ;have O_flip_clash:=CB (P:=l.prog) (w:=w) (base:=base) (k:=3) F7 b7 m7 (O_flips.mono (by decide)) O_mark_banks g_enumerate Pv.WU;have O_tells_apart:=DY (P:=l.prog) (w:=w) (base:=base) (k:=1) F8 b8 m8 O_odd_in_common g_enumerate g_all DQ;have O_flip_paper:=XA (P:=l.prog) (w:=w) (base:=base) (k:=4) F9 b9 m9 O_flip_clash (O_mark_banks.mono (by decide)) (O_stairs.mono (by decide)) (O_flips.mono (by decide)) (O_tells_apart.mono (by decide)) g_len g_range XB;have O_shows_flips:=DS (P:=l.prog) (w:=w) (base:=base) (k:=3) F10 b10 m10 (O_is_number_below.mono (by decide)) O_mark_banks (O_tells_apart.mono (by decide)) g_len g_isinstance g_list g_all g_enumerate DR;have O_law_mix:=LU (P:=l.prog) (w:=w) (base:=base) (k:=0) F11 b11 m11   Bk.LJ;have O_law_left:=SK (P:=l.prog) (w:=w) (base:=base) (k:=0) F12 b12 m12  g_len g_abs Bk.R4;have O_law_pick:=R0 (P:=l.prog) (w:=w) (base:=base) (k:=1) F13 b13 m13 O_law_mix  Bk.SQ;have O_law_two:=K9 (P:=l.prog) (w:=w) (base:=base) (k:=0) F14 b14 m14   LQ;have O_law_marks:=RV (P:=l.prog) (w:=w) (base:=base) (k:=2) F15 b15 m15 O_law_pick g_int g_range g_len RA;have O_law_bits:=SJ (P:=l.prog) (w:=w) (base:=base) (k:=2) F16 b16 m16 O_law_pick g_range g_tuple Bk.SU;have O_law_odd:=K8 (P:=l.prog) (w:=w) (base:=base) (k:=1) F17 b17 m17 O_law_two g_range LX;have O_law_bank:=R5 (P:=l.prog) (w:=w) (base:=base) (k:=2) F18 b18 m18 O_law_odd (O_law_two.mono (by decide)) g_enumerate S8;have O_law_whole:=CM (P:=l.prog) (w:=w) (base:=base) (k:=0) F19 b19 m19  g_isinstance g_bool g_int CN;have O_law_shows:=C6 (P:=l.prog) (w:=w) (base:=base) (k:=3) F20 b20 m20 (O_law_two.mono (by decide)) (O_law_whole.mono (by decide)) O_law_bank (O_law_odd.mono (by decide)) g_len g_isinstance g_list g_enumerate RF;have O_law_world:=RG (P:=l.prog) (w:=w) (base:=base) (k:=3) F21 b21 m21 (O_law_pick.mono (by decide)) O_law_bits (O_law_two.mono (by decide)) O_law_marks  CJ;have O_law_part:=SR (P:=l.prog) (w:=w) (base:=base) (k:=0) F23 b23 m23   TB;have O_law_otherwise:=EC (P:=l.prog) (w:=w) (base:=base) (k:=2) F25 b25 m25 O_law_pick (O_law_whole.mono (by decide)) g_isinstance g_list g_tuple g_len g_str U9;have O_law_paths_0:=Pu.Fn3.pz (KN (P:=l.prog) (w:=w) (base:=base) F22 b22 m22) true;have O_law_paths_1:=zC (P:=l.prog) (w:=w) (base:=base) (k:=0) F22 b22 m22 O_law_paths_0 g_isinstance g_list g_tuple g_enumerate (zF 0);have O_law_paths_2:=zC (P:=l.prog) (w:=w) (base:=base) (k:=1) F22 b22 m22 O_law_paths_1 g_isinstance g_list g_tuple g_enumerate (zF 1);have O_law_paths_3:=zC (P:=l.prog) (w:=w) (base:=base) (k:=2) F22 b22 m22 O_law_paths_2 g_isinstance g_list g_tuple g_enumerate (zF 2);have O_law_paths_4:=zC (P:=l.prog) (w:=w) (base:=base) (k:=3) F22 b22 m22 O_law_paths_3 g_isinstance g_list g_tuple g_enumerate (zF 3);have O_law_paths_5:=zC (P:=l.prog) (w:=w) (base:=base) (k:=4) F22 b22 m22 O_law_paths_4 g_isinstance g_list g_tuple g_enumerate (zF 4);have O_law_paths_6:=zC (P:=l.prog) (w:=w) (base:=base) (k:=5) F22 b22 m22 O_law_paths_5 g_isinstance g_list g_tuple g_enumerate (zF 5);have O_law_paths_7:=zC (P:=l.prog) (w:=w) (base:=base) (k:=6) F22 b22 m22 O_law_paths_6 g_isinstance g_list g_tuple g_enumerate (zF 6);have O_law_put_0:=Pu.Fn3.pz (KN (P:=l.prog) (w:=w) (base:=base) F24 b24 m24) false;have O_law_put_1:=jp (P:=l.prog) (w:=w) (base:=base) (k:=0) F24 b24 m24 O_law_put_0 g_list g_isinstance g_tuple (jq 0);have O_law_put_2:=jp (P:=l.prog) (w:=w) (base:=base) (k:=1) F24 b24 m24 O_law_put_1 g_list g_isinstance g_tuple (jq 1);have O_law_put_3:=jp (P:=l.prog) (w:=w) (base:=base) (k:=2) F24 b24 m24 O_law_put_2 g_list g_isinstance g_tuple (jq 2);have O_law_put_4:=jp (P:=l.prog) (w:=w) (base:=base) (k:=3) F24 b24 m24 O_law_put_3 g_list g_isinstance g_tuple (jq 3);have O_law_put_5:=jp (P:=l.prog) (w:=w) (base:=base) (k:=4) F24 b24 m24 O_law_put_4 g_list g_isinstance g_tuple (jq 4);have O_law_put_6:=jp (P:=l.prog) (w:=w) (base:=base) (k:=5) F24 b24 m24 O_law_put_5 g_list g_isinstance g_tuple (jq 5);have O_law_put_7:=jp (P:=l.prog) (w:=w) (base:=base) (k:=6) F24 b24 m24 O_law_put_6 g_list g_isinstance g_tuple (jq 6);have O_law_spoilt:=XG (P:=l.prog) (w:=w) (base:=base) (k:=7) F26 b26 m26 (O_law_pick.mono (by decide)) O_law_paths_7 (O_law_part.mono (by decide)) (O_law_otherwise.mono (by decide)) O_law_put_7 g_int g_range g_len XM;exact qgS (k:=8) F27 (O_law_left.mono (by decide)) (O_law_world.mono (by decide)) (O_flip_paper.mono (by decide)) O_law_spoilt (O_law_shows.mono (by decide)) (O_shows_flips.mono (by decide)) (O_law_two.mono (by decide)) (O_law_marks.mono (by decide)) g_len g_min g_range g_int g_str g_isinstance g_bool (qjR qhv)
set_option maxRecDepth 100000 in
set_option maxHeartbeats 0 in
def qhX (w : World) (os : OsState) : PySem.W.topRun treeTable PySem.Challenge.pw_bankwalk_k33_flip_papers_spoilt_anywhere w 11 (some (Value.ref 6)) 2 (⟨qe1 w.params,195,{ },#[],{ },452,os⟩ : PySem.W.SharedT).abs (PySem.W.restOf [] qgD W0 ⟨158,0,177,15⟩ qgU) = some ⟨qeR w.params,#[],{ },452,os⟩ := by kernel_rfl
def qlB:(qdL++(qef++[]))=M5:=by kernel_rfl
set_option maxRecDepth 100000 in
set_option maxHeartbeats 0 in
def qf4 (w : World) (os : OsState) : PySem.W.topRun treeTable PySem.Challenge.pw_bankwalk_k33_flip_papers_spoilt_anywhere w 11 (some (Value.ref 6)) (12 + (1 + (472 + (423 + 2)))) ⟨PySem.W.boot_heap w.params,Array.mk [],PySem.W.boot_drawn,PySem.W.boot_toks,os⟩ (PySem.W.topStub PySem.Challenge.pw_bankwalk_k33_flip_papers_spoilt_anywhere) = some ⟨qeR w.params,#[],{ },452,os⟩ := by
 have h:=(PySem.W.piece_app (PySem.W.segRun_of (qgR w os)) (PySem.W.piece_app (PySem.W.segRun_of (qht w os)) (qhX w os)))
 rw [qlB] at h;exact PySem.W.go_top (qkt w os) (PySem.W.piece_block (qjH w os) h)
abbrev Q : Program := PySem.W.view PySem.Challenge.pw_bankwalk_k33_flip_papers_spoilt_anywhere [1,2,4,5,7,8,9,10,11,12,13,15,16,17,18,19,20,21,22,23,24,25,26,27,28,29,30,31]
set_option maxRecDepth 100000 in
set_option maxHeartbeats 0 in
def left : PySem.W.LeftO PySem.Challenge.pw_bankwalk_k33_flip_papers_spoilt_anywhere Q [] (λs => PySem.W.xlAt Q [] s && PySem.W.recOk [] s) (λs => ([3,20,21,27,28,34,35,39,40,44,45,51,52,56,57,63,64,68,69,73,74,78,79,85,86,92,93,99,100,106,107,113,114,118,119,125,126,132,133,139,140,146,147,153,154,158,159,165,166,172,173,179,180,186,187,193,194] : List Addr).map s.heap.get?) (λw => (Kf w.params).map λp => some p.2) 1912 :=
 PySem.W.LeftO.of_pieces (H₀:=PySem.W.boot_heap) (H₁:=qeR) (gs₀:=Array.mk []) (gs₁:=#[]) (d₀:=PySem.W.boot_drawn) (d₁:={ }) (k₀:=PySem.W.boot_toks) (k₁:=452) (m₀:=11) (ann:=some (Value.ref 6)) (M:=(12+(1+(472+(423+2)))))
  (PySem.W.boot_open (by kernel_rfl) (by kernel_rfl) (λs=>by kernel_rfl)) (λw=>by kernel_rfl) qf4 (by kernel_rfl) (λw=>by kernel_rfl)
end K33
open PySem PySem.W PyProof.Rows
set_option maxRecDepth 100000 in
set_option maxHeartbeats 0 in
theorem PySem.Challenge.cw_bankwalk_k33_flip_papers_spoilt_anywhere_holds : PySem.Challenge.rw_bankwalk_k33_flip_papers_spoilt_anywhere.Holds :=
 Hd.head (l := PySem.Challenge.rw_bankwalk_k33_flip_papers_spoilt_anywhere) (q := K33.Q) (loose := []) (K := K33.Kf) (as := [3,20,21,27,28,34,35,39,40,44,45,51,52,56,57,63,64,68,69,73,74,78,79,85,86,92,93,99,100,106,107,113,114,118,119,125,126,132,133,139,140,146,147,153,154,158,159,165,166,172,173,179,180,186,187,193,194]) (N := 1912) (k := 9) (x := "_law_script")
  (d:=⟨"law",L2.ZV K33.JL,L2.jh K33.JL,L2.qi K33.JL,⟨158,0,177,15⟩⟩) (λ_=>by kernel_rfl) (by kernel_rfl) K33.left (by kernel_rfl) (by kernel_rfl) (by kernel_rfl) (by kernel_rfl) (by kernel_rfl)
  ⟨rfl,rfl,rfl,rfl,rfl,by decide +kernel⟩ (by w_witness2) rfl (by kernel_rfl) ⟨rfl,by decide,by decide,rfl⟩ (λw=>by kernel_rfl) λw mg fa h KX G hmg=>K33.qjd KX G hmg
