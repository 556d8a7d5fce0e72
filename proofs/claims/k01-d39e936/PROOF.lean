import PyProof.Rows.All
import Wide.All
import OpenK.AllK
import Wide.FinOn
import Lean
import PyProof.EqAt
import PyProof.EqKinds
import PyProof.TupleCall
import PyProof.NeKinds
import KE.KRevSl
import PyProof.FactsAll.bool_2
import PyProof.Rows.EqBoolInt
import PyProof.Rows.IntBool
import PySem.Challenge.RW_bankwalk_k01_what_a_dealing_is
-- CHANGE: your row's module here,as the last of these rows
set_option Elab.async false
set_option genSizeOf false
set_option genInjectivity false
noncomputable section
abbrev Frg:=PySem.W.Frag
open List (getElem_cons_zero length_cons getElem?_cons_succ getElem_cons_succ getElem?_cons_zero length_nil set_cons_zero set_cons_succ length_map not_mem_nil mem_append_right map_cons mem_cons getElem?_set getElem?_map cons_append size_toArray getElem?_eq_getElem map_map mem_of_getElem? mem_map length_append getD_eq_getElem?_getD mem_range length_range)
def obb{α β:Type _}{o:Option α}{f:α->Option β}{b:β}(h:o.bind f=some b):∃a,o=some a/\f a=some b:=Option.bind_eq_some_iff.mp h
set_option linter.all false
set_option maxRecDepth 100000
namespace L2
open PySem PySem.Spec PyProof.Rows
abbrev Key:=Sum Int Str
def qge:Key->Value->Bool
 |.inl k,v=>Value.isInt k v
 |.inr x,v=>Value.isStrOf x v
def qk9 (w:World):Key->Int
 |.inl k=>hashInt k
 |.inr x=>hashStr w x
def zu:∀ {k:Key} {v:Value},qge k v=true->(∃ i t,k=Sum.inl i/\v=Value.int i t)\/(∃ x t,k=Sum.inr x/\v=Value.str x t)
 |.inl i,v,h=>by
  obtain ⟨t,e⟩:=Value.isInt_shape (k:=i) (v:=v) h;exact .inl ⟨i,t,rfl,e⟩
 |.inr x,v,h=>by
  obtain ⟨t,e⟩:=Value.isStrOf_shape (x:=x) (v:=v) h;exact .inr ⟨x,t,rfl,e⟩
def qe3 (a b:Int):decide ((Sum.inl a:Key)=Sum.inl b)=(a==b):=by
 by_cases e:a=b
 ·subst e;simp
 ·have h:¬ (Sum.inl a:Key)=Sum.inl b:=λq=>e (Sum.inl.inj q);rw [decide_eq_false h];exact (beq_eq_false_iff_ne.mpr e).symm
def qet (a b:Str):decide ((Sum.inr a:Key)=Sum.inr b)=decide (a=b):=by
 by_cases e:a=b
 ·subst e;simp
 ·have h:¬ (Sum.inr a:Key)=Sum.inr b:=λq=>e (Sum.inr.inj q);rw [decide_eq_false h,decide_eq_false e]
def qdL (a:Int) (b:Str):decide ((Sum.inl a:Key)=Sum.inr b)=false:=decide_eq_false (λq=>nomatch q)
def qfc (a:Str) (b:Int):decide ((Sum.inr a:Key)=Sum.inl b)=false:=decide_eq_false (λq=>nomatch q)
def T3 (prog:Program) (w:World):PySem.KeyKind prog w Key where
 is:=qge
 hash:=qk9 w
 inj:=λv a b ha hb=>by
  rcases zu ha with ⟨i,t,rfl,rfl⟩|⟨x,t,rfl,rfl⟩
  ·rcases zu hb with ⟨j,u,rfl,e⟩|⟨y,u,rfl,e⟩
   ·injection e with e1 _;rw [e1]
   ·exact nomatch e
  ·rcases zu hb with ⟨j,u,rfl,e⟩|⟨y,u,rfl,e⟩
   ·exact nomatch e
   ·injection e with e1 _;rw [e1]
 byValue:=λk v h=>by
  rcases zu h with ⟨i,t,rfl,rfl⟩|⟨x,t,rfl,rfl⟩<;>rfl
 pyHash:=λhv h=>by
  rcases zu hv with ⟨i,t,rfl,rfl⟩|⟨x,t,rfl,rfl⟩
  ·exact wpAny_pyHash_int h
  ·exact wpAny_pyHash_str h
 eqBool:=λhu hv h=>by
  rcases zu hu with ⟨i,t,rfl,rfl⟩|⟨x,t,rfl,rfl⟩
  ·rcases zu hv with ⟨j,u,rfl,rfl⟩|⟨y,u,rfl,rfl⟩
   ·rw [qe3] at h;exact wpAny_eqBool_int h
   ·rw [qdL] at h;exact SeqAt.EqAt.int_str i t y u _ _ _ _ h
  ·rcases zu hv with ⟨j,u,rfl,rfl⟩|⟨y,u,rfl,rfl⟩
   ·rw [qfc] at h;exact SeqAt.EqAt.str_int x t j u _ _ _ _ h
   ·rw [qet] at h;exact wpAny_eqBool_str h
 «strs»:=λk x t v h=>by
  rcases zu h with ⟨i,u,rfl,e⟩|⟨y,u,rfl,e⟩
  ·exact nomatch e
  ·injection e with e1 _;subst e1;cases v<;>rfl
set_option genInjectivity true in
inductive V where
 |non|bl (b:Bool)|int (i:Int)|str (x:Str)|byt (b:Array UInt8)|flt (b:UInt64)|ref (a:Addr)|ty (n:String)
 deriving DecidableEq
def jJ:V->Value->Prop
 |.non,u=>u=Value.none
 |.bl b,u=>u=Value.bool b
 |.int i,u=>∃ t,u=Value.int i t
 |.str x,u=>∃ t,u=Value.str x t
 |.byt b,u=>∃ t,u=Value.bytes b t
 |.flt b,u=>∃ t,u=Value.float b t
 |.ref a,u=>u=Value.ref a
 |.ty n,u=>u=Value.type n
abbrev zQ:List V->List Value->Prop:=Paired jJ
def zQ.length {xs:List V} {us:List Value} (r:zQ xs us):xs.length=us.length:=Paired.length r
def zQ.get:∀ {xs:List V} {us:List Value} {i:Nat} {x:V},zQ xs us->xs[i]?=some x->∃ u,us[i]?=some u/\jJ x u
 |_,_,_,_,.nil,e=>by simp at e
 |_,_,0,_,.cons r _,e=>by simp at e;subst e;exact ⟨_,rfl,r⟩
 |_,_,i+1,x,.cons _ t,e=>by
  obtain ⟨u,h1,h2⟩:=zQ.get (i:=i) (x:=x) t (by simpa using e);exact ⟨u,by simpa using h1,h2⟩
def zQ.set {x:V} {u:Value} (r:jJ x u):∀ {xs:List V} {us:List Value} (i:Nat),zQ xs us->zQ (xs.set i x) (us.set i u)
 |_,_,_,.nil=>.nil
 |_,_,0,.cons _ t=>.cons r t
 |_,_,i+1,.cons q t=>.cons q (zQ.set r i t)
def zQ.append:∀ {xs ys:List V} {us ws:List Value},zQ xs us->zQ ys ws->zQ (xs++ys) (us++ws)
 |_,_,_,_,.nil,s=>s
 |_,_,_,_,.cons r t,s=>.cons r (zQ.append t s)
def zQ.take:∀ {xs:List V} {us:List Value} (n:Nat),zQ xs us->zQ (xs.take n) (us.take n)
 |_,_,0,_=>.nil
 |_,_,_+1,.nil=>.nil
 |_,_,n+1,.cons r t=>.cons r (zQ.take n t)
def zQ.drop:∀ {xs:List V} {us:List Value} (n:Nat),zQ xs us->zQ (xs.drop n) (us.drop n)
 |_,_,0,r=>r
 |_,_,_+1,.nil=>.nil
 |_,_,n+1,.cons _ t=>zQ.drop n t
def qjL:Option V->Option Value->Prop
 |some v,some u=>jJ v u
 |none,none=>True
 |_,_=>False
def KV {κ:Type}:List (κ×V)->List (κ×Value)->Prop:=Paired λ(p:κ×V) (q:κ×Value)=>p.1=q.1/\jJ p.2 q.2
def kV:Key->V
 |.inl i=>.int i
 |.inr x=>.str x
inductive HO where
 /-- a list -/
 |lst (xs:List V)
 /-- a tuple (never changes) -/
 |tup (xs:List V)
 /-- a dict whose keys are ints and texts;one whose keys are tuples of ints and texts (the empty one is both) -/
 |dK (kvs:List (Key×V))|dT (kvs:List (List Key×V))
 /-- a set of ints: its members,its size -/
 |set (S:Int->Bool) (n:Nat)
 /-- an instance of the class at C,its dict at dx,its attributes -/
 |ins (C dx:Addr) (fs:List (Str×V))
 /-- the dict of the instance at x -/
 |own (x:Addr)
 /-- the dict of an exception -/
 |xd (fs:List (Str×V))
 /-- a bound method,f of x -/
 |met (f x:Addr)
 /-- a range object lo,lo+1,.. below hi -/
 |rng (lo hi:Int)
 /-- a thing that is known to the object (the script;a dict while a loop walks it): read,never written while it is so -/
 |frz (o:Obj) (u:HO)
 /-- a code object's table -/
 |tbl (ps:Array Value)
 /-- any other thing,by what is true of its one object (a def of one's own: SetO a S n:=HO.ext λh=>..) -/
 |ext (φ:Heap->Prop)
abbrev Hp:=Addr->Option HO
def upd (H:Hp) (a:Addr) (o:HO):Hp:=λb=>if b=a then some o else H b
def zK {H:Hp} {a:Addr} {o:HO}:upd H a o a=some o:=by unfold upd;rw [if_pos rfl]
def zr {H:Hp} {a b:Addr} {o:HO} (h:b≠a):upd H a o b=H b:=by unfold upd;rw [if_neg h]
def zj {H:Hp} {a b:Addr} {o:HO} (h:H a=some o) (h':H b=none):a≠b:=by
 intro e;subst e;rw [h] at h';cases h'
section
variable (P:Program) (w:World)
def Y0 (H:Hp) (h:Heap) (a:Addr):HO->Prop
 |.lst xs=>xs.length<=sizeLine/\∃ (its:List Value) (n:Nat),zQ xs its/\h.get? a=some { cls:=.type "list",data:=.seq its.toArray n }
 |.tup xs=>xs.length<=sizeLine/\∃ its:List Value,zQ xs its/\IsTup h a its.toArray
 |.dK kvs=>kvs.length<=sizeLine/\(a==sysModules)=false/\∃ vs,KV kvs vs/\h.DictOf (T3 P w) a vs
 |.dT kvs=>kvs.length<=sizeLine/\(a==sysModules)=false/\∃ xs:List (List Key×Addr×Value),
   Paired (λ(p:List Key×V) (q:List Key×Addr×Value)=>p.1=q.1/\H q.2.1=some (.tup (p.1.map kV))/\jJ p.2 q.2.2) kvs xs /\
   ∃ o es ep,h.get? a=some o/\o.ExactDict/\o.data=.dict es ep/\es.toList=xs.map (entryOfKey (tupleKind (T3 P w)))/\(xs.map (·.1)).Nodup
 |.set S n=>h.SetOf (intKind P w) a S n
 |.ins C dx fs=>H dx=some (.own a)/\fs.length<=1000/\dx≠a/\h.get? a=some (PySem.W.instObj C dx) /\
   ∃ mA,h.Ns1 dx mA/\(∀ f,qjL (fs.lookup f) (mA f))/\PySem.Within mA (fs.map (·.1))
 |.own _=>∃ o,h.get? a=some o
 |.xd fs=>∃ mA,h.Ns1 a mA/\∀ f,qjL (fs.lookup f) (mA f)
 |.rng lo hi=>∃ t u v,h.get? a=some { cls:=.type "range",data:=.fields #[.int lo t,.int hi u,.int 1 v] }
 |.frz o u=>h.get? a=some o/\Y0 H h a u
 |.tbl ps=>h.get? a=some { cls:=.none,data:=.fields ps }
 |.met f x=>h.get? a=some (PySem.W.methodObj (.ref f) (.ref x))
 |.ext φ=>φ h/\(∃ o,h.get? a=some o)/\∀ h1 h2:Heap,φ h1->(∀ o,h1.get? a=some o->h2.get? a=some o)->φ h2
def HOk (H:Hp) (h:Heap):Prop:=∀ a o,H a=some o->Y0 P w H h a o
end
section
variable {P:Program} {w:World} {H H':Hp} {h h':Heap} {a:Addr} {o:HO}
def Y0.lt (x:Y0 P w H h a o):a<h.objs.size:=by
 cases o with
 |lst xs=>obtain ⟨_,_,_,_,e⟩:=x;exact Heap.lt_size e
 |tup xs=>obtain ⟨_,_,_,p⟩:=x;exact p.lt
 |dK kvs=>obtain ⟨_,_,_,_,o,_,_,e,_⟩:=x;exact Heap.lt_size e
 |dT kvs=>obtain ⟨_,_,_,_,o,_,_,e,_⟩:=x;exact Heap.lt_size e
 |set S n=>obtain ⟨o,_,_,_,e,_⟩:=x;exact Heap.lt_size e
 |ins C dx fs=>obtain ⟨_,_,_,e,_⟩:=x;exact Heap.lt_size e
 |own y=>obtain ⟨_,e⟩:=x;exact Heap.lt_size e
 |xd fs=>obtain ⟨_,⟨_,_,_,e,_⟩,_⟩:=x;exact Heap.lt_size e
 |rng lo hi=>obtain ⟨_,_,_,e⟩:=x;exact Heap.lt_size e
 |frz ob u=>obtain ⟨e,_⟩:=x;exact Heap.lt_size e
 |tbl ps=>exact Heap.lt_size (show h.get? a=some _ from x)
 |met f y=>exact Heap.lt_size (show h.get? a=some _ from x)
 |ext φ=>obtain ⟨_,⟨_,e⟩,_⟩:=x;exact Heap.lt_size e
def Paired.mapP {α β:Type} {F G:α->β->Prop}:∀ {l₁:List α} {l₂:List β},Paired F l₁ l₂->(∀ a b,F a b->G a b)->Paired G l₁ l₂
 |_,_,.nil,_=>.nil
 |_,_,.cons r t,f=>.cons (f _ _ r) (Paired.mapP t f)
def Y0.stay (x:Y0 P w H h a o) (k:∀ b u,(b=a\/H b=some (.own a))->h.get? b=some u->h'.get? b=some u)
  (ho:∀ b,H b=some (.own a)->H' b=some (.own a)) (ht:∀ b xs,H b=some (.tup xs)->H' b=some (.tup xs)):Y0 P w H' h' a o:=by
 induction o with
 |lst xs=>obtain ⟨z,its,n,r,e⟩:=x;exact ⟨z,its,n,r,k _ _ (.inl rfl) e⟩
 |tup xs=>obtain ⟨z,its,r,ob,e,c⟩:=x;exact ⟨z,its,r,ob,k _ _ (.inl rfl) e,c⟩
 |dK kvs=>obtain ⟨z,y,vs,r,ob,es,ep,e,c⟩:=x;exact ⟨z,y,vs,r,ob,es,ep,k _ _ (.inl rfl) e,c⟩
 |dT kvs=>
  obtain ⟨z,y,xs,r,ob,es,ep,e,c⟩:=x;exact ⟨z,y,xs,Paired.mapP r λp q z=>⟨z.1,ht _ _ z.2.1,z.2.2⟩,ob,es,ep,k _ _ (.inl rfl) e,c⟩
 |set S n=>obtain ⟨ob,es,ep,t,e,c⟩:=x;exact ⟨ob,es,ep,t,k _ _ (.inl rfl) e,c⟩
 |ins C dx fs=>
  obtain ⟨d,z,ne,e,mA,⟨od,es,ep,e2,c⟩,r⟩:=x;exact ⟨ho _ d,z,ne,k _ _ (.inl rfl) e,mA,⟨od,es,ep,k _ _ (.inr d) e2,c⟩,r⟩
 |own y=>obtain ⟨ob,e⟩:=x;exact ⟨ob,k _ _ (.inl rfl) e⟩
 |xd fs=>obtain ⟨mA,⟨od,es,ep,e,c⟩,r⟩:=x;exact ⟨mA,⟨od,es,ep,k _ _ (.inl rfl) e,c⟩,r⟩
 |rng lo hi=>obtain ⟨t,u,v,e⟩:=x;exact ⟨t,u,v,k _ _ (.inl rfl) e⟩
 |frz ob u ih=>obtain ⟨e,q⟩:=x;exact ⟨k _ _ (.inl rfl) e,ih q⟩
 |tbl ps=>
  have e:h.get? a=some { cls:=.none,data:=.fields ps }:=x;show h'.get? a=some { cls:=.none,data:=.fields ps };exact k a _ (.inl rfl) e
 |met f y=>
  have e:h.get? a=some (PySem.W.methodObj (.ref f) (.ref y)):=x;show h'.get? a=some (PySem.W.methodObj (.ref f) (.ref y));exact k a _ (.inl rfl) e
 |ext φ=>obtain ⟨p,⟨o,e⟩,st⟩:=x;exact ⟨st _ _ p λo q=>k _ _ (.inl rfl) q,⟨o,k _ _ (.inl rfl) e⟩,st⟩
def HOk.lt (x:HOk P w H h) (e:H a=some o):a<h.objs.size:=(x a o e).lt
def HOk.fresh (x:HOk P w H h) (e:h.objs.size<=a):H a=none:=by
 cases q:H a with
 |none=>rfl
 |some u=>exact absurd (Nat.lt_of_lt_of_le (x.lt q) e) (Nat.lt_irrefl _)
def HOk.kept (x:HOk P w H h) (k:∀ b u,h.get? b=some u->h'.get? b=some u):HOk P w H h':=λa o e=>
 (x a o e).stay (λb u _ q=>k b u q) (λ_ q=>q) λ_ _ q=>q
def HOk.laid (x:HOk P w H h) (k:∀ b u,h.get? b=some u->h'.get? b=some u) (hp:h.objs.size<=a) (new:Y0 P w (upd H a o) h' a o):HOk P w (upd H a o) h':=λb u e=>by
 have hn:=x.fresh hp;by_cases hb:b=a
 ·subst hb;rw [zK] at e;cases e;exact new
 ·rw [zr hb] at e;exact (x b u e).stay (λc v _ q=>k c v q) (λc q=>by rw [zr (zj q hn)];exact q) λc xs q=>by rw [zr (zj q hn)];exact q
end
def Rd (H:Hp) (a:Addr) (u:HO):Prop:=H a=some u\/∃ o,H a=some (.frz o u)
def Rd.ok {P:Program} {w:World} {H:Hp} {h:Heap} {a:Addr} {u:HO} (r:Rd H a u) (x:HOk P w H h):Y0 P w H h a u:=by
 rcases r with r|⟨o,r⟩
 ·exact x a u r
 ·obtain ⟨_,q⟩:=x a _ r;exact q
def Mut:Option HO->Prop
 |some (.lst _)=>True
 |some (.dK _)=>True
 |some (.dT _)=>True
 |some (.set _ _)=>True
 |some (.ins _ _ _)=>True
 |some (.ext _)=>True
 |_=>False
section
variable {P:Program} {w:World} {H:Hp} {h h':Heap} {x e:Addr} {o':HO}
def HOk.write (ok:HOk P w H h) (mu:Mut (H x)) (he:e=x\/H e=some (.own x)) (k:∀ b u,b≠e->h.get? b=some u->h'.get? b=some u) (heo:∃ u,h'.get? e=some u)
  (new:Y0 P w (upd H x o') h' x o'):HOk P w (upd H x o') h':=λb u q=>by
 have nown:∀ c y,H c=some (.own y)->c≠x:=λc y r z=>by subst z;rw [r] at mu;exact mu
 have ntup:∀ c xs,H c=some (.tup xs)->c≠x:=λc xs r z=>by subst z;rw [r] at mu;exact mu
 by_cases hb:b=x
 ·subst hb;rw [zK] at q;cases q;exact new
 ·rw [zr hb] at q;by_cases hbe:b=e
  ·have q':H b=some (.own x):=by
    rcases he with z|z
    ·exact absurd (hbe.trans z) hb
    ·rw [hbe];exact z
   rw [q] at q';cases q';obtain ⟨v,hv⟩:=heo;exact ⟨v,by rw [hbe];exact hv⟩
  ·refine (ok b u q).stay (λc v hc r=>k c v ?_ r) (λc r=>by rw [zr (nown c b r)];exact r) λc xs r=>by rw [zr (ntup c xs r)];exact r
   rcases hc with rfl|hc
   ·exact hbe
   ·rintro rfl;rcases he with z|z
    ·exact nown c b hc z
    ·rw [hc] at z;cases z;exact hb rfl
end
structure Un (fs ex:List Addr) (H H':Hp) (h h':Heap):Prop where
 keep:∀ b o,h.get? b=some o->H b=none->b∉fs->b∉ex->h'.get? b=some o
 slot:∀ b o,h.get? b=some o->H b=none->b∈fs->b∉ex->∃ sl,h'.get? b=some { o with slots:=sl }
 free:∀ b o,h.get? b=some o->H b=none->b∉ex->H' b=none
 there:∀ b o,h.get? b=some o->b∉ex->∃ o',h'.get? b=some o'
 tups:∀ b xs,H b=some (.tup xs)->H' b=some (.tup xs)
 frzs:∀ b o u,H b=some (.frz o u)->H' b=some (.frz o u)
 tbls:∀ b ps,H b=some (.tbl ps)->∃ more,H' b=some (.tbl (ps++more))
section
variable {fs fs' ex ex':List Addr} {H H1 H2:Hp} {h h1 h2 h':Heap} {a x e:Addr} {o:HO}
def Un.any (u:Un fs ex H H1 h h1) {b:Addr} {ob:Obj} (q:h.get? b=some ob) (n:H b=none) (hx:b∉ex):∃ sl,h1.get? b=some { ob with slots:=sl }:=by
 by_cases hb:b∈fs
 ·exact u.slot b ob q n hb hx
 ·exact ⟨ob.slots,u.keep b ob q n hb hx⟩
def Un.kept (k:∀ b u,h.get? b=some u->h'.get? b=some u):Un fs ex H H h h':=
 ⟨λb ob q _ _ _=>k b ob q,λb ob q _ _ _=>⟨ob.slots,k b ob q⟩,λ_ _ _ n _=>n,λb ob q _=>⟨ob,k b ob q⟩,λ_ _ q=>q,λ_ _ _ q=>q,λ_ ps q=>⟨#[],by rw [q];simp⟩⟩
def Un.refl:Un fs ex H H h h:=Un.kept λ_ _ q=>q
def Un.laid (k:∀ b u,h.get? b=some u->h'.get? b=some u) (hp:h.objs.size<=a) (hn:H a=none):Un fs ex H (upd H a o) h h' where
 keep:=λb u q _ _ _=>k b u q
 slot:=λb u q _ _ _=>⟨u.slots,k b u q⟩
 free:=λb u q n _=>by rw [zr (Nat.ne_of_lt (Nat.lt_of_lt_of_le (Heap.lt_size q) hp))];exact n
 there:=λb u q _=>⟨u,k b u q⟩
 tups:=λb xs q=>by rw [zr (zj q hn)];exact q
 frzs:=λb u xs q=>by rw [zr (zj q hn)];exact q
 tbls:=λb ps q=>⟨#[],by rw [zr (zj q hn),q];simp⟩
def Un.write (mu:Mut (H x)) (he:e=x\/H e=some (.own x)) (k:∀ b u,b≠e->h.get? b=some u->h'.get? b=some u) (heo:∃ u,h'.get? e=some u):Un fs ex H (upd H x o) h h':=by
 have hx:∀ b,H b=none->b≠x:=λb n z=>by subst z;rw [n] at mu;exact mu
 have hb:∀ b,H b=none->b≠e:=λb n z=>by
  subst z;rcases he with r|r
  ·exact hx b n r
  ·rw [n] at r;cases r
 have hm:∀ b u,H b=some u->¬ Mut (some u)->b≠x:=λb u q nm z=>by subst z;rw [q] at mu;exact nm mu
 refine ⟨λb u q n _ _=>k b u (hb b n) q,λb u q n _ _=>⟨u.slots,k b u (hb b n) q⟩,λb u q n _=>by rw [zr (hx b n)];exact n,λb u q _=>?_,
  λb xs q=>by rw [zr (hm b _ q λz=>z)];exact q,λb u xs q=>by rw [zr (hm b _ q λz=>z)];exact q,λb ps q=>⟨#[],by rw [zr (hm b _ q λz=>z),q];simp⟩⟩
 by_cases hbe:b=e
 ·subst hbe;exact heo
 ·exact ⟨u,k b u hbe q⟩
end
def trk (h:Heap) (H:Hp):List Addr:=(List.range h.objs.size).filter λa=>(H a).isSome
def M2 (h:Heap) (H:Hp):Heap:=PySem.W.hideAll h (trk h H)
def LX (h:Heap) (H:Hp):(M2 h H).objs.size=h.objs.size:=PySem.W.hideAll_size _ _
def N2 {h:Heap} {H:Hp} {b:Addr} {o:Obj} (e:h.get? b=some o) (n:H b=none):(M2 h H).get? b=some o:=
 PySem.W.hideAll_get _ e λhm=>by
  have q:(H b).isSome=true:=(List.mem_filter.mp hm).2;rw [n] at q;simp at q
def qcS {h:Heap} {H:Hp} {b:Addr} {o:Obj} (e:(M2 h H).get? b=some o):h.get? b=some o/\H b=none:=by
 have e':h.get? b=some o:=PySem.W.of_hideAll (trk h H) e;refine ⟨e',?_⟩;cases q:H b with
 |none=>rfl
 |some x=>
  have hm:b∈trk h H:=List.mem_filter.mpr ⟨mem_range.mpr (Heap.lt_size e'),by simp [q]⟩;have z:(M2 h H).get? b=none:=PySem.W.hideAll_none (trk h H) hm;rw [z] at e;cases e
def qcC (g h:Heap) (L:Addr):List (Addr×Obj):=(List.range h.objs.size).filterMap λa=>if a=L\/(g.get? a).isSome=true then none else (h.get? a).map λo=>(a,o)
def J2 (g h:Heap) (L d:Addr):List (Addr×Obj):=(qcC g h L).filter λp=>decide (p.1≠d)
structure Mod (K:Frg) (mg:Str->Option Value) (base:Heap):Prop where
 kin:K.In base
 glob:base.Ns mainGlobals mg
 blt:∃ mb,base.Ns builtinsNs mb/\∀ x:Str,x≠"__name__" -> mb x=bootBuiltins x
 nolimit:base.NoLimit
structure Cx where
 prog:Program
 w:World
 K:PySem.W.Frag
 mg:Str->Option Value
 base:Heap
 A:Around
 N:List Str
 s₀:Shared
 H₀:Hp
 env:Env
 outer:List Env
 stack:List Env
 ex:List Addr
 fn:Str->Bool
 calm:Bool
 pn:List (Addr×Obj)
 xe:Value->Shared->Prop
def frs (l:List Env):List Addr:=l.filterMap (·.frame)
abbrev Cx.fs (X:Cx):List Addr:=frs X.outer
def Vis (sc:Scope) (x:Str):Prop:=sc.names.lookup x=some .local\/sc.names.lookup x=some .cell\/sc.names.lookup x=some .free
def Loc (sc:Scope) (x:Str):Prop:=sc.names.lookup x=some .local\/sc.names.lookup x=some .cell
def qko (env:Env) (h:Heap) (m:Str->Option Value) (x:Str) (u:Value):Prop:=
 (env.kindOf x=some .local/\m x=some u)\/((env.kindOf x=some .cell\/env.kindOf x=some .free)/\∃ c,env.cells.lookup x=some c/\h.IsCell c (some u))
structure Cx.Ok (X:Cx):Prop where
 mod:Mod X.K X.mg X.base
 kind:X.env.scope.kind=.function
 glob:X.env.globals=mainGlobals
 blt:X.env.builtins=builtinsNs
 above:X.s₀.heap.objs.size<=X.env.locals
 inj:∀ x y c,X.env.cells.lookup x=some c->X.env.cells.lookup y=some c->x=y
 has:∀ x,(X.env.kindOf x=some .cell\/X.env.kindOf x=some .free)->∃ c,X.env.cells.lookup x=some c
 cab:∀ x c,X.fn x=true->X.env.cells.lookup x=some c->X.s₀.heap.objs.size<=c
 hd:X.calm=true->X.A.handled=none
 frames:X.A.frames=some X.stack
 stk:X.stack=X.outer\/(X.stack=X.env::X.outer/\X.env.frame=some X.env.locals)
 exf:∀ b∈X.ex,b≠X.env.locals/\∀ x c,X.env.cells.lookup x=some c->c≠b
 bs:∀ b o,X.base.get? b=some o->X.s₀.heap.get? b=some o/\X.H₀ b=none
 bsz:X.base.objs.size<=X.s₀.heap.objs.size
 noex:∀ b o,X.base.get? b=some o->b∉X.ex
 exfs:∀ b∈X.ex,b∉X.fs
 funs:X.s₀.heap.FunFrames X.base X.outer
 frf:∀ b∈X.fs,X.H₀ b=none
structure Inv (X:Cx) (pins:List (Addr×Obj)) (σ:List (Option V)) (H:Hp) (s:Shared):Prop where
 ok:X.Ok
 os:s.os=X.s₀.os
 bare:AllBare s.gens
 base:Un X.fs X.ex X.H₀ H X.s₀.heap s.heap
 loc:∃ m,s.heap.Ns X.env.locals m/\∀ (i:Nat) (x:Str) (v:V),X.N[i]?=some x->σ[i]?=some (some v)->Vis X.env.scope x->∃ u,jJ v u/\qko X.env s.heap m x u
 cell:∀ x c,X.env.cells.lookup x=some c->∃ v,s.heap.IsCell c v
 free:H X.env.locals=none
 freeC:∀ x c,X.env.cells.lookup x=some c->H c=none
 pin:∀ p∈X.pn++pins,s.heap.get? p.1=some p.2/\H p.1=none/\p.1≠X.env.locals/\p.1∉X.fs/\∀ v,p.2.data≠.cell v
 hok:HOk X.prog X.w H s.heap
 len:σ.length=X.N.length
section
variable {X:Cx} {pins:List (Addr×Obj)} {σ:List (Option V)} {H H':Hp} {s:Shared} {h':Heap}
def Cx.Ok.nofr (ok:X.Ok) {b:Addr} {o:Obj} (e:X.base.get? b=some o):b∉X.fs:=λhb=>by
 have:=(ok.funs.mem hb).1;rw [e] at this;cases this
def Inv.bs (I:Inv X pins σ H s):∀ b o,X.base.get? b=some o->s.heap.get? b=some o/\H b=none:=λb o e=>
 ⟨I.base.keep b o (I.ok.bs b o e).1 (I.ok.bs b o e).2 (I.ok.nofr e) (I.ok.noex b o e),I.base.free b o (I.ok.bs b o e).1 (I.ok.bs b o e).2 (I.ok.noex b o e)⟩
def Inv.bk (I:Inv X pins σ H s):∀ b o,X.base.get? b=some o->s.heap.get? b=some o:=λb o e=>(I.bs b o e).1
def Inv.mod (I:Inv X pins σ H s):Mod X.K X.mg X.base:=I.ok.mod
def Inv.kIn (I:Inv X pins σ H s):X.K.In s.heap:=I.ok.mod.kin.keeps I.bk
def Inv.nolimit (I:Inv X pins σ H s):s.heap.NoLimit:=I.ok.mod.nolimit.keeps I.bk
def Inv.fr (I:Inv X pins σ H s):∃ m,Fr X.base X.env.locals s.heap m:=
 let ⟨m,hn,_⟩:=I.loc
 ⟨m,hn,I.bk,Nat.le_trans I.ok.bsz I.ok.above⟩
def Inv.lt (I:Inv X pins σ H s):X.env.locals<s.heap.objs.size:=let ⟨_,hn,_⟩:=I.loc;hn.lt
def Inv.sz (I:Inv X pins σ H s):X.s₀.heap.objs.size<=s.heap.objs.size:=Nat.le_trans I.ok.above (Nat.le_of_lt I.lt)
def Inv.nofs (I:Inv X pins σ H s) {a:Addr} (h:s.heap.objs.size<=a):a∉X.fs:=λhb=>by
 obtain ⟨_,o,ho,_⟩:=I.ok.funs.mem hb;exact absurd (Nat.lt_of_lt_of_le (Heap.lt_size ho) (Nat.le_trans I.sz h)) (Nat.lt_irrefl _)
def Inv.cne (I:Inv X pins σ H s):∀ x c,X.env.cells.lookup x=some c->c≠X.env.locals:=λx c e z=>by
 obtain ⟨v,o,ho,hd⟩:=I.cell x c e;obtain ⟨m,⟨o',es,ep,ho',hd',_⟩,_⟩:=I.loc;rw [z,ho'] at ho;cases ho;rw [hd'] at hd;cases hd
def Inv.funs (I:Inv X pins σ H s):s.heap.FunFrames X.base X.outer:=by
 have all:∀ (l:List Env),(∀ b∈frs l,b∈X.fs)->X.s₀.heap.FunFrames X.base l->s.heap.FunFrames X.base l:=by
  intro l;induction l with
  |nil=>intro _ _;trivial
  |cons env r ih=>
   intro hs hl;obtain ⟨hk,⟨L,o,hf,hn,ho,hd⟩,hr⟩:=hl;have hL:L∈X.fs:=hs L (by unfold frs;rw [List.filterMap_cons,hf];exact List.mem_cons_self);obtain ⟨sl,e⟩:=I.base.slot L o ho (I.ok.frf L hL) hL λz=>I.ok.exfs L z hL;exact ⟨hk,⟨L,_,hf,hn,e,hd⟩,ih (λb hb=>hs b (by unfold frs;rw [List.filterMap_cons,hf];exact List.mem_cons_of_mem _ hb)) hr⟩
 exact all X.outer (λ_ hb=>hb) I.ok.funs
def Inv.stack (I:Inv X pins σ H s):s.heap.FunFrames X.base X.stack:=by
 rcases I.ok.stk with e|⟨e,hf⟩
 ·rw [e];exact I.funs
 ·rw [e];obtain ⟨m,hn,_⟩:=I.loc;refine .cons (by rw [I.ok.kind];decide) hf hn ?_ I.funs;exact Heap.get?_none_of_le (Nat.le_trans I.ok.bsz I.ok.above)
def Inv.stkSub (I:Inv X pins σ H s):∀ b∈frs X.stack,b∈X.env.locals::X.fs:=λb hb=>by
 rcases I.ok.stk with e|⟨e,hf⟩
 ·rw [e] at hb;exact List.mem_cons_of_mem _ hb
 ·rw [e] at hb;unfold frs at hb;rw [List.filterMap_cons,hf] at hb;exact hb
def Inv.stkFree (I:Inv X pins σ H s):∀ b∈frs X.stack,H b=none:=λb hb=>by
 rcases mem_cons.mp (I.stkSub b hb) with e|hb
 ·rw [e];exact I.free
 ·obtain ⟨_,o,ho,_⟩:=I.ok.funs.mem hb;exact I.base.free b o ho (I.ok.frf b hb) λz=>I.ok.exfs b z hb
def Inv.step {g':Array GenState} {t':Nat} {d':Drawn} {ch:List Addr} (I:Inv X pins σ H s)
  (hch:∀ b∈ch,(b∈X.ex\/X.s₀.heap.objs.size<=b)/\b≠X.env.locals/\(∀ x c,X.env.cells.lookup x=some c->c≠b)/\∀ p∈X.pn++pins,p.1≠b)
  (keep:∀ b o,b≠X.env.locals->b∉X.fs->b∉ch->s.heap.get? b=some o->H b=none->h'.get? b=some o)
  (slot:∀ b o,b≠X.env.locals->b∈X.fs->b∉ch->s.heap.get? b=some o->H b=none->∃ sl,h'.get? b=some { o with slots:=sl }) (free:∀ b o,b∉ch->s.heap.get? b=some o->H b=none->H' b=none)
  (there:∀ b o,b∉ch->s.heap.get? b=some o->∃ o',h'.get? b=some o')
  (tups:∀ b xs,H b=some (.tup xs)->H' b=some (.tup xs)) (frzs:∀ b o u,H b=some (.frz o u)->H' b=some (.frz o u)) (tbls:∀ b ps,H b=some (.tbl ps)->∃ more,H' b=some (.tbl (ps++more)))
  (ns:∀ m,s.heap.Ns X.env.locals m->h'.Ns X.env.locals m) (hok:HOk X.prog X.w H' h') (hg:AllBare g') :
  Inv X pins σ H' { s with heap:=h',gens:=g',drawn:=d',toks:=t' }:=by
 have neL:∀ b o,X.s₀.heap.get? b=some o->b≠X.env.locals:=λb o e=>Nat.ne_of_lt (Nat.lt_of_lt_of_le (Heap.lt_size e) I.ok.above);have neC:∀ b o,X.s₀.heap.get? b=some o->b∉X.ex->b∉ch:=λb o e hx hb=>by
  rcases (hch b hb).1 with z|z
  ·exact hx z
  ·exact absurd (Nat.lt_of_lt_of_le (Heap.lt_size e) z) (Nat.lt_irrefl _)
 have cellK:∀ x c,X.env.cells.lookup x=some c->∀ v,s.heap.IsCell c v->h'.IsCell c v:=λx c e v ⟨o,ho,hd⟩=>by
  have nch:c∉ch:=λz=>(hch c z).2.2.1 x c e rfl;by_cases hc:c∈X.fs
  ·obtain ⟨sl,q⟩:=slot c o (I.cne x c e) hc nch ho (I.freeC x c e);exact ⟨_,q,hd⟩
  ·exact ⟨o,keep c o (I.cne x c e) hc nch ho (I.freeC x c e),hd⟩
 refine ⟨I.ok,I.os,hg,⟨λb o e n hb hx=>?_,λb o e n hb hx=>?_,λb o e n hx=>?_,λb o e hx=>?_,λb xs e=>tups b xs (I.base.tups b xs e),λb o xs e=>frzs b o xs (I.base.frzs b o xs e),λb ps e=>?_⟩,?_,λx c e=>?_,?_,λx c e=>?_,λp hp=>?_,hok,I.len⟩
 ·exact keep b o (neL b o e) hb (neC b o e hx) (I.base.keep b o e n hb hx) (I.base.free b o e n hx)
 ·obtain ⟨sl,e1⟩:=I.base.slot b o e n hb hx;obtain ⟨sl',e2⟩:=slot b _ (neL b o e) hb (neC b o e hx) e1 (I.base.free b o e n hx);exact ⟨sl',e2⟩
 ·obtain ⟨o',e1⟩:=I.base.there b o e hx;exact free b o' (neC b o e hx) e1 (I.base.free b o e n hx)
 ·obtain ⟨o',e1⟩:=I.base.there b o e hx;exact there b o' (neC b o e hx) e1
 ·obtain ⟨m1,e1⟩:=I.base.tbls b ps e;obtain ⟨m2,e2⟩:=tbls b _ e1;exact ⟨m1++m2,by rw [e2,Array.append_assoc]⟩
 ·obtain ⟨m,hn,hl⟩:=I.loc;refine ⟨m,ns m hn,λi x v e1 e2 e3=>?_⟩;obtain ⟨u,r,l⟩:=hl i x v e1 e2 e3;refine ⟨u,r,?_⟩;rcases l with l|⟨k,c,e,z⟩
  ·exact .inl l
  ·exact .inr ⟨k,c,e,cellK x c e _ z⟩
 ·obtain ⟨v,z⟩:=I.cell x c e;exact ⟨v,cellK x c e v z⟩
 ·obtain ⟨m,⟨o,_,_,ho,_⟩,_⟩:=I.loc;exact free _ o (λz=>(hch _ z).2.1 rfl) ho I.free
 ·obtain ⟨v,o,ho,hd⟩:=I.cell x c e;exact free c o (λz=>(hch c z).2.2.1 x c e rfl) ho (I.freeC x c e)
 ·obtain ⟨e,n,ne,nf,d⟩:=I.pin p hp;have nch:p.1∉ch:=λz=>(hch p.1 z).2.2.2 p hp rfl;exact ⟨keep p.1 p.2 ne nf nch e n,free p.1 p.2 nch e n,ne,nf,d⟩
def Inv.un {t':Nat} (I:Inv X pins σ H s) (u:Un X.fs [] H H' s.heap h') (hok:HOk X.prog X.w H' h'):Inv X pins σ H' { s with heap:=h',toks:=t' }:=by
 obtain ⟨m,⟨o,es,ep,ho,r⟩,_⟩:=id I.loc;obtain ⟨sl,hL⟩:=u.any ho I.free (by simp);exact I.step (g':=s.gens) (d':=s.drawn) (ch:=[]) (λ_ z=>nomatch z) (λb o _ hb _ e n=>u.keep b o e n hb (by simp)) (λb o _ hb _ e n=>u.slot b o e n hb (by simp)) (λb o _ e n=>u.free b o e n (by simp)) (λb o _ e=>u.there b o e (by simp)) u.tups u.frzs u.tbls (λm' hm=>by
  obtain ⟨o',es',ep',ho',r'⟩:=hm;rw [ho] at ho';cases ho';exact ⟨_,es',ep',hL,r'⟩) hok I.bare
def Inv.call {g':Array GenState} {t':Nat} {d':Drawn} {ch:List Addr} (I:Inv X pins σ H s) (u:Un (frs X.stack) ch H H' s.heap h') (hok:HOk X.prog X.w H' h') (hg:AllBare g')
  (hch:∀ b∈ch,(b∈X.ex\/X.s₀.heap.objs.size<=b)/\b≠X.env.locals/\(∀ x c,X.env.cells.lookup x=some c->c≠b)/\∀ p∈X.pn++pins,p.1≠b) :
  Inv X pins σ H' { s with heap:=h',gens:=g',drawn:=d',toks:=t' }:=by
 obtain ⟨m,⟨o,es,ep,ho,r⟩,_⟩:=id I.loc;obtain ⟨sl,hL⟩:=u.any ho I.free λz=>(hch _ z).2.1 rfl;exact I.step (ch:=ch) hch (λb o hL hb hc e n=>u.keep b o e n (λz=>(mem_cons.mp (I.stkSub b z)).elim hL hb) hc) (λb o _ _ hc e n=>u.any e n hc) (λb o hc e n=>u.free b o e n hc) (λb o hc e=>u.there b o e hc) u.tups u.frzs u.tbls (λm' hm=>by
  obtain ⟨o',es',ep',ho',r'⟩:=hm;rw [ho] at ho';cases ho';exact ⟨_,es',ep',hL,r'⟩) hok hg
def Inv.turned {t':Nat} {it:Addr} (I:Inv X pins σ H s) (k:∀ b o,b≠it->s.heap.get? b=some o->h'.get? b=some o) (hn:H it=none) (hL:it≠X.env.locals)
  (h1:it∈X.ex\/X.s₀.heap.objs.size<=it) (h2:∀ x c,X.env.cells.lookup x=some c->c≠it) (h3:∀ p∈X.pn++pins,p.1≠it):Inv X pins σ H { s with heap:=h',toks:=t' }:=by
 have nit:∀ b u,H b=some u->b≠it:=λb u e z=>by rw [z,hn] at e;cases e
 refine I.step (g':=s.gens) (d':=s.drawn) (ch:=[it]) (λb hb=>?_) (λb o _ _ hc e _=>k b o (λz=>hc (by simp [z])) e) (λb o _ _ hc e _=>⟨o.slots,k b o (λz=>hc (by simp [z])) e⟩) (λ_ _ _ _ n=>n)
  (λb o hc e=>⟨o,k b o (λz=>hc (by simp [z])) e⟩) (λ_ _ e=>e) (λ_ _ _ e=>e) (λb ps e=>⟨#[],by rw [e];simp⟩) (λm hm=>?_) (λb u e=>?_) I.bare
 ·have e:b=it:=by simpa using hb
  subst e;exact ⟨h1,hL,h2,h3⟩
 ·obtain ⟨o,es,ep,ho,r⟩:=hm;exact ⟨o,es,ep,k _ o (Ne.symm hL) ho,r⟩
 ·refine (I.hok b u e).stay (λc v hc q=>k c v ?_ q) (λ_ q=>q) λ_ _ q=>q;rcases hc with z|z
  ·rw [z];exact nit b u e
  ·exact nit c _ z
def Inv.tok (I:Inv X pins σ H s) (t:Nat):Inv X pins σ H { s with toks:=t }:=I.un (h':=s.heap) (t':=t) Un.refl I.hok
def Inv.kept {t':Nat} (I:Inv X pins σ H s) (k:∀ b u,s.heap.get? b=some u->h'.get? b=some u):Inv X pins σ H { s with heap:=h',toks:=t' }:=I.un (Un.kept k) (I.hok.kept k)
def Inv.laid {a:Addr} {o:HO} {t':Nat} (I:Inv X pins σ H s) (k:∀ b u,s.heap.get? b=some u->h'.get? b=some u) (hp:s.heap.objs.size<=a) (new:Y0 X.prog X.w (upd H a o) h' a o) :
  Inv X pins σ (upd H a o) { s with heap:=h',toks:=t' }:=I.un (Un.laid k hp (I.hok.fresh hp)) (I.hok.laid k hp new)
def Inv.write {x e:Addr} {o:HO} {t':Nat} (I:Inv X pins σ H s) (mu:Mut (H x)) (he:e=x\/H e=some (.own x)) (k:∀ b u,b≠e->s.heap.get? b=some u->h'.get? b=some u) (heo:∃ u,h'.get? e=some u)
  (new:Y0 X.prog X.w (upd H x o) h' x o):Inv X pins σ (upd H x o) { s with heap:=h',toks:=t' }:=I.un (Un.write mu he k heo) (I.hok.write mu he k heo new)
def Inv.pins_of {pins':List (Addr×Obj)} (I:Inv X pins σ H s) (h:∀ p∈pins',s.heap.get? p.1=some p.2/\H p.1=none/\p.1≠X.env.locals/\p.1∉X.fs/\∀ v,p.2.data≠.cell v):Inv X pins' σ H s:=
 ⟨I.ok,I.os,I.bare,I.base,I.loc,I.cell,I.free,I.freeC,λp hp=>(List.mem_append.mp hp).elim (λz=>I.pin p (List.mem_append_left _ z)) (h p),I.hok,I.len⟩
def SM {N:List Str} (hN:N.Nodup) {i j:Nat} {x:Str} (a:N[i]?=some x) (b:N[j]?=some x):i=j:=by
 obtain ⟨h1,e1⟩:=List.getElem?_eq_some_iff.mp a;obtain ⟨h2,e2⟩:=List.getElem?_eq_some_iff.mp b;exact (List.getElem_inj hN).mp (e1.trans e2.symm)
def CB {M:Model} {A:Around} {E:Value->Shared->Prop} {i:Nat} {x:Str} {v:V} {u:Value} {Q:Unit->Shared->Prop} (I:Inv X pins σ H s) (hN:X.N.Nodup) (hi:X.N[i]?=some x) (hx:Loc X.env.scope x) (r:jJ v u)
  (h:∀ s',Inv X pins (σ.set i (some v)) H s'->(∃ a,Heap.SameBut a s.heap s'.heap/\(a=X.env.locals\/X.env.cells.lookup x=some a))->Q () s') (hf:X.fn x=true\/X.env.scope.names.lookup x=some .local:=by first|exact .inl rfl|exact .inr rfl|assumption):wpAny M A (storeName X.env x u) Q E s:=by
 obtain ⟨m,hn,hl⟩:=id I.loc;have hcls:(X.env.scope.kind==.class||(X.env.scope.kind==.module&&X.env.locals != X.env.globals))=false:=by rw [I.ok.kind];rfl
 have hiσ:i<σ.length:=by rw [I.len];exact (List.getElem?_eq_some_iff.mp hi).1
 have cne:=I.cne;have tracked:∀ {a:Addr} {h':Heap},(∃ o,s.heap.get? a=some o/\H a=none)->Heap.SameBut a s.heap h'->HOk X.prog X.w H h':=λ{a h'} ha hs b ob e=>by
  obtain ⟨_,_,hfree⟩:=ha;refine (I.hok b ob e).stay (λc w' hc q=>(hs.2 c ?_).trans q) (λ_ q=>q) λ_ _ q=>q;rintro rfl;rcases hc with rfl|hc
  ·rw [hfree] at e;cases e
  ·rw [hfree] at hc;cases hc
 rcases hx with hk|hk
 ·refine wpAny_storeName_local hk hn (λh' hn' hs=>?_) hcls;obtain ⟨oL,_,_,hoL,_⟩:=id hn;refine h _ ⟨I.ok,I.os,I.bare,⟨λb o e n hb hx=>?_,λb o e n hb hx=>?_,I.base.free,λb o e hx=>?_,I.base.tups,I.base.frzs,I.base.tbls⟩,⟨_,hn',λj y v' e1 e2 e3=>?_⟩,λy c e=>?_,I.free,I.freeC,λp hp=>?_,tracked ⟨oL,hoL,I.free⟩ hs,by simpa using I.len⟩ ⟨_,hs,.inl rfl⟩
  ·exact (hs.2 b (Nat.ne_of_lt (Nat.lt_of_lt_of_le (Heap.lt_size e) I.ok.above))).trans (I.base.keep b o e n hb hx)
  ·obtain ⟨sl,e1⟩:=I.base.slot b o e n hb hx;exact ⟨sl,(hs.2 b (Nat.ne_of_lt (Nat.lt_of_lt_of_le (Heap.lt_size e) I.ok.above))).trans e1⟩
  ·obtain ⟨o',e1⟩:=I.base.there b o e hx;exact ⟨o',(hs.2 b (Nat.ne_of_lt (Nat.lt_of_lt_of_le (Heap.lt_size e) I.ok.above))).trans e1⟩
  ·by_cases hj:j=i
   ·subst hj;rw [hi] at e1;cases e1;rw [List.getElem?_set_self hiσ] at e2;cases e2;exact ⟨u,r,.inl ⟨hk,by simp⟩⟩
   ·rw [List.getElem?_set_ne (Ne.symm hj)] at e2;obtain ⟨u',r',q⟩:=hl j y v' e1 e2 e3;refine ⟨u',r',?_⟩;rcases q with ⟨k,e⟩|⟨k,c,e,z⟩
    ·refine .inl ⟨k,?_⟩;have:y≠x:=λe=>hj (SM hN e1 (e▸hi));simp [this,e]
    ·exact .inr ⟨k,c,e,z.sameBut hs (cne y c e)⟩
  ·obtain ⟨w',z⟩:=I.cell y c e;exact ⟨w',z.sameBut hs (cne y c e)⟩
  ·obtain ⟨e,n,ne,nf,d⟩:=I.pin p hp;exact ⟨(hs.2 p.1 ne).trans e,n,ne,nf,d⟩
 ·have hfn:X.fn x=true:=by
   rcases hf with z|z
   ·exact z
   ·rw [z] at hk;cases hk
  obtain ⟨c,hc⟩:=I.ok.has x (.inl hk);obtain ⟨w',z⟩:=I.cell x c hc;refine wpAny_storeName_cell I.ok.kind hk hc z (λh' hc' hs=>?_);obtain ⟨oc,hoc,hocd⟩:=id z;refine h { s with heap:=h' } ⟨I.ok,I.os,I.bare,⟨λb o e n hb hx=>?_,λb o e n hb hx=>?_,I.base.free,λb o e hx=>?_,I.base.tups,I.base.frzs,I.base.tbls⟩,⟨m,hn.sameBut hs (Ne.symm (cne x c hc)),λj y v' e1 e2 e3=>?_⟩,λy c' e=>?_,I.free,I.freeC,λp hp=>?_,tracked ⟨oc,hoc,I.freeC x c hc⟩ hs,by simpa using I.len⟩ ⟨c,hs,.inr hc⟩
  ·exact (hs.2 b (Nat.ne_of_lt (Nat.lt_of_lt_of_le (Heap.lt_size e) (I.ok.cab x c hfn hc)))).trans (I.base.keep b o e n hb hx)
  ·obtain ⟨sl,e1⟩:=I.base.slot b o e n hb hx;exact ⟨sl,(hs.2 b (Nat.ne_of_lt (Nat.lt_of_lt_of_le (Heap.lt_size e) (I.ok.cab x c hfn hc)))).trans e1⟩
  ·obtain ⟨o',e1⟩:=I.base.there b o e hx;exact ⟨o',(hs.2 b (Nat.ne_of_lt (Nat.lt_of_lt_of_le (Heap.lt_size e) (I.ok.cab x c hfn hc)))).trans e1⟩
  ·by_cases hj:j=i
   ·subst hj;rw [hi] at e1;cases e1;rw [List.getElem?_set_self hiσ] at e2;cases e2;exact ⟨u,r,.inr ⟨.inl hk,c,hc,hc'⟩⟩
   ·rw [List.getElem?_set_ne (Ne.symm hj)] at e2;obtain ⟨u',r',q⟩:=hl j y v' e1 e2 e3;refine ⟨u',r',?_⟩;rcases q with q|⟨k,c',e,z'⟩
    ·exact .inl q
    ·refine .inr ⟨k,c',e,z'.sameBut hs ?_⟩;rintro rfl;exact hj (SM hN e1 (I.ok.inj _ _ _ e hc▸hi))
  ·by_cases hcc:c'=c
   ·subst hcc;exact ⟨_,hc'⟩
   ·obtain ⟨w2,z2⟩:=I.cell y c' e;exact ⟨w2,z2.sameBut hs hcc⟩
  ·obtain ⟨e,n,ne,nf,d⟩:=I.pin p hp;refine ⟨(hs.2 p.1 ?_).trans e,n,ne,nf,d⟩;intro q;rw [q,hoc] at e;have q':oc=p.2:=Option.some.inj e;exact d w' (by rw [← q'];exact hocd)
def UG {M:Model} {A:Around} {E:Value->Shared->Prop} {i:Nat} {x:Str} {v:V} {u:Value} {Q:Unit->Shared->Prop} (I:Inv X pins σ H s) (hN:X.N.Nodup) (hi:X.N[i]?=some x) (hx:Loc X.env.scope x) (r:jJ v u)
  (h:∀ s',Inv X pins (σ.set i (some v)) H s'->Q () s') (hf:X.fn x=true\/X.env.scope.names.lookup x=some .local:=by first|exact .inl rfl|exact .inr rfl|assumption):wpAny M A (storeName X.env x u) Q E s:=
 CB I hN hi hx r (λs' I' _=>h s' I') hf
def Inv.call' {s':Shared} {ch:List Addr} (I:Inv X pins σ H s) (ho:s'.os=s.os) (u:Un (frs X.stack) ch H H' s.heap s'.heap) (hok:HOk X.prog X.w H' s'.heap) (hg:AllBare s'.gens)
  (hch:∀ b∈ch,(b∈X.ex\/X.s₀.heap.objs.size<=b)/\b≠X.env.locals/\(∀ x c,X.env.cells.lookup x=some c->c≠b)/\∀ p∈X.pn++pins,p.1≠b):Inv X pins σ H' s':=by
 obtain ⟨h',g',d',t',o'⟩:=s';have e:o'=s.os:=ho;subst e;exact I.call (g':=g') (t':=t') (d':=d') u hok hg hch
end
abbrev XK:=Value->Option Addr->Hp->Prop
abbrev St:=List (Option V)
abbrev VK:=V->Hp->Prop
abbrev TE:=St->Hp->VK->Prop
abbrev TT:=St->Hp->(Bool->Hp->Prop)->Prop
abbrev TA:=St->Hp->(List V->Hp->Prop)->Prop
structure Ends where
 nx:St->Hp->Prop
 rt:VK
 bk:St->Hp->Prop:=λ_ _=>False
 ct:St->Hp->Prop:=λ_ _=>False
abbrev TS:=Ends->St->Hp->Prop
def EP (X:Cx) (pins:List (Addr×Obj)) (σ:St) (Q:VK) (u:Value) (s':Shared):Prop:=∃ v H',Inv X pins σ H' s'/\jJ v u/\Q v H'
def TP (X:Cx) (pins:List (Addr×Obj)) (σ:St) (Q:Bool->Hp->Prop) (b:Bool) (s':Shared):Prop:=∃ H',Inv X pins σ H' s'/\Q b H'
def AP (X:Cx) (pins:List (Addr×Obj)) (σ:St) (Q:List V->Hp->Prop) (us:List Value) (s':Shared):Prop:=∃ vs H',Inv X pins σ H' s'/\zQ vs us/\Q vs H'
def SP (X:Cx) (pins:List (Addr×Obj)) (D:Ends) (f:Flow) (s':Shared):Prop:=
 match f with
 |.next=>∃ σ' H',Inv X pins σ' H' s'/\D.nx σ' H'
 |.brk=>∃ σ' H',Inv X pins σ' H' s'/\D.bk σ' H'
 |.cont=>∃ σ' H',Inv X pins σ' H' s'/\D.ct σ' H'
 |.ret u=>∃ v σ' H',Inv X pins σ' H' s'/\jJ v u/\D.rt v H'
def PE (X:Cx) (e:Expr) (t:TE):Prop:=
 ∀ (pins:List (Addr×Obj)) (s:Shared) (σ:St) (H:Hp) (Q:VK),Inv X pins σ H s->t σ H Q->wpAny (model X.prog X.w) X.A (eval e X.env) (EP X pins σ Q) X.xe s
def PT (X:Cx) (e:Expr) (t:TT):Prop:=
 ∀ (pins:List (Addr×Obj)) (s:Shared) (σ:St) (H:Hp) (Q:Bool->Hp->Prop),Inv X pins σ H s->t σ H Q->wpAny (model X.prog X.w) X.A (isTrue e X.env (eval e X.env)) (TP X pins σ Q) X.xe s
def PW (X:Cx) (e:Expr) (t:TT):Prop:=
 ∀ (whole:Sem Value) (pins:List (Addr×Obj)) (s:Shared) (σ:St) (H:Hp) (Q:Bool->Hp->Prop),Inv X pins σ H s->t σ H Q->wpAny (model X.prog X.w) X.A (isTrue e X.env whole) (TP X pins σ Q) X.xe s
def PW.pt {X:Cx} {e:Expr} {t:TT} (h:PW X e t):PT X e t:=h _
def PA (X:Cx) (es:List Expr) (t:TA):Prop:=
 ∀ (pos:Pos) (pins:List (Addr×Obj)) (s:Shared) (σ:St) (H:Hp) (Q:List V->Hp->Prop),Inv X pins σ H s->t σ H Q->wpAny (model X.prog X.w) X.A (spliced (backTo pos (starEach es X.env))) (AP X pins σ Q) X.xe s
def PS (X:Cx) (st:Stmt) (t:TS):Prop:=
 ∀ (pins:List (Addr×Obj)) (s:Shared) (σ:St) (H:Hp) (D:Ends),Inv X pins σ H s->t D σ H->wpAny (model X.prog X.w) X.A (exec st X.env) (SP X pins D) X.xe s
def PSs (X:Cx) (st:List Stmt) (t:TS):Prop:=
 ∀ (pins:List (Addr×Obj)) (s:Shared) (σ:St) (H:Hp) (D:Ends),Inv X pins σ H s->t D σ H->wpAny (model X.prog X.w) X.A (execs st X.env) (SP X pins D) X.xe s
def thn {α:Type} {t:Sem α} {Q Q':α->Shared->Prop} {M:Model} {A:Around} {E:Value->Shared->Prop} {s:Shared} (h:wpAny M A t Q E s) (hQ:∀ a s,Q a s->Q' a s):wpAny M A t Q' E s:=wpAny_mono h hQ λ_ _ x=>x
section
variable {X:Cx}
def qk8 (i:Nat):TE:=λσ H Q=>∃ v,σ[i]?=some (some v)/\Q v H
def tC (v:V):TE:=λ_ H Q=>Q v H
def qew {i:Nat} {x:Str} {pos:Pos} (hN:X.N[i]?=some x) (hv:Vis X.env.scope x) (hd:(x==("__debug__" : Str))=false:=by decide) (hcd:(x==("__classdict__" : Str))=false:=by decide):PE X (.Name x pos) (qk8 i):=by
 intro pins s σ H Q I h;obtain ⟨v,e,h⟩:=h;obtain ⟨m,hn,hl⟩:=I.loc;obtain ⟨u,r,l⟩:=hl i x v hN e hv;have fin:EP X pins σ Q u s:=⟨v,H,I,r,h⟩
 rcases l with ⟨hk,hm⟩|⟨hk,c,hc,hcell⟩
 ·exact wpAny_Name (wpAny_loadName_local I.ok.kind hk hn hm fin) hd
 ·rcases hk with hk|hk
  ·exact wpAny_Name (wpAny_loadName_cell I.ok.kind hk hc hcell fin) hd
  ·exact wpAny_Name (wpAny_loadName_free I.ok.kind hk hc hcell fin hcd) hd
def qdz {i j pos}:PE X (.Constant (.int i) j pos) (tC (.int i)):=λ_ _ _ H _ I h=>wpAny_Constant_int ⟨.int i,H,I.tok _,⟨_,rfl⟩,h⟩
def qjj {b j pos}:PE X (.Constant (.bool b) j pos) (tC (.bl b)):=λ_ _ _ H _ I h=>Constant_bool ⟨.bl b,H,I,rfl,h⟩
def qdP {j pos}:PE X (.Constant .none j pos) (tC .non):=λ_ _ _ H _ I h=>Constant_none ⟨.non,H,I,rfl,h⟩
def qga {x j pos}:PE X (.Constant (.str x) j pos) (tC (.str x)):=λ_ _ _ H _ I h=>Calls.Constant_str ⟨.str x,H,I.tok _,⟨_,rfl⟩,h⟩
def Gl (X:Cx) (x:Str):Prop:=X.env.kindOf x=some .globalImplicit
def qb1 {E:Value->Shared->Prop} {pins:List (Addr×Obj)} {s:Shared} {σ:St} {H:Hp} {x:Str} {u:Value} {pos:Pos} {Q:Value->Shared->Prop} (I:Inv X pins σ H s) (hg:Gl X x) (hm:X.mg x=some u) (h:Q u s)
  (hd:(x==("__debug__" : Str))=false:=by decide):wpAny (model X.prog X.w) X.A (eval (.Name x pos) X.env) Q E s:=
 Calls.Name_function_global I.ok.kind hg (Calls.loadGlobal_global (by rw [I.ok.glob];exact I.mod.glob.keeps I.bk) hm h) hd
def SB {E:Value->Shared->Prop} {pins:List (Addr×Obj)} {s:Shared} {σ:St} {H:Hp} {x:Str} {u:Value} {pos:Pos} {Q:Value->Shared->Prop} (I:Inv X pins σ H s) (hg:Gl X x) (hm:X.mg x=none) (hv:bootBuiltins x=some u) (h:Q u s)
  (hn:x≠"__name__" := by decide) (hd:(x==("__debug__" : Str))=false:=by decide):wpAny (model X.prog X.w) X.A (eval (.Name x pos) X.env) Q E s:=by
 obtain ⟨mb,h1,h2⟩:=I.mod.blt;exact Calls.Name_function_global I.ok.kind hg (Calls.loadGlobal_builtin (by rw [I.ok.glob];exact I.mod.glob.keeps I.bk) hm (by rw [I.ok.blt];exact h1.keeps I.bk) ((h2 x hn).trans hv) h) hd
def qbT {x:Str} {v:V} {u:Value} {pos:Pos} (hg:Gl X x) (hm:X.mg x=none) (hv:bootBuiltins x=some u) (r:jJ v u) (hn:x≠"__name__" := by decide) (hd:(x==("__debug__" : Str))=false:=by decide):PE X (.Name x pos) (tC v):=
 λ_ _ _ H _ I h=>SB I hg hm hv ⟨v,H,I,r,h⟩ hn hd
variable {a b:Expr} {ta tb:TE} {pos:Pos}
def tB (t:TE):TT:=λσ H Q=>t σ H λx H1=>∃ c,x=.bl c/\Q c H1
def qdC {e:Expr} {t:TE} (h:PE X e t) (he:∀ whole,isTrue e X.env whole=(do let v←whole;standAt e.pos;holding [v] (truthy v)):=by intro _;rfl):PT X e (tB t):=by
 intro pins s σ H Q I hw;refine isTrue_plain (thn (h pins s σ H _ I hw) λv s1 ⟨x,H1,I1,r1,q1⟩=>?_) (he _);obtain ⟨d,rfl,q⟩:=q1;cases r1;exact wpAny_truthy_bool ⟨H1,I1,q⟩
variable {tA tB':TT} {J2:List Expr}
def tOr (t u:TT):TT:=λσ H Q=>t σ H λc H1=>if c=true then Q true H1 else u σ H1 Q
def qks (t:TT):TT:=λσ H Q=>t σ H λc H1=>Q (!c) H1
def qe8 (ha:PT X a tA):PW X (.BoolOp .Or [a] pos) tA:=by
 intro wh pins s σ H Q I h;refine isTrue_or (thn (ha pins s σ H Q I h) λc s1 e=>?_);cases c with
 |false=>exact isTrue_or_nil e
 |true=>exact e
def qia (ha:PT X a tA) (hb:PW X (.BoolOp .Or (b::J2) pos) tB'):PW X (.BoolOp .Or (a::b::J2) pos) (tOr tA tB'):=by
 intro wh pins s σ H Q I h;refine isTrue_or (thn (ha pins s σ H _ I h) λc s1 ⟨H1,I1,q1⟩=>?_);cases c with
 |true=>exact ⟨H1,I1,q1⟩
 |false=>exact hb wh pins s1 σ H1 Q I1 q1
def qgO (ha:PT X a tA):PT X (.UnaryOp .Not a pos) (qks tA):=by
 intro pins s σ H Q I h;exact isTrue_not (ha pins s σ H (λc H1=>Q (!c) H1) I h)
def qiI (ta tb:TE):TE:=λσ H Q=>ta σ H λx H1=>∃ c,x=.bl c/\if c=true then tb σ H1 Q else Q (.bl false) H1
def qhY (ta:TE):TE:=λσ H Q=>ta σ H λx H1=>∃ c,x=.bl c/\Q (.bl (!c)) H1
def qdY {op} {t:TE} (h:PE X a t):PE X (.BoolOp op [a] pos) t:=λpins s σ H Q I hw=>BoolOp_one (h pins s σ H Q I hw)
def qgC (ha:PE X a ta) (hb:PE X (.BoolOp .And (b::J2) pos) tb):PE X (.BoolOp .And (a::b::J2) pos) (qiI ta tb):=by
 intro pins s σ H Q I h;refine BoolOp_and (thn (ha pins s σ H _ I h) λv s1 ⟨x,H1,I1,r1,q1⟩=>?_);obtain ⟨c,rfl,q1⟩:=q1;cases r1;refine wpAny_truthy_bool ?_;cases c with
 |true=>exact hb pins s1 σ H1 Q I1 q1
 |false=>exact ⟨.bl false,H1,I1,rfl,q1⟩
def qf1 (ha:PE X a ta):PE X (.UnaryOp .Not a pos) (qhY ta):=by
 intro pins s σ H Q I h;refine UnaryOp_ (thn (ha pins s σ H _ I h) λv s1 ⟨x,H1,I1,r1,q1⟩=>?_);obtain ⟨c,rfl,q1⟩:=q1;cases r1;exact not_of (wpAny_truthy_bool ⟨.bl (!c),H1,I1,rfl,q1⟩)
def tIf (t:TT) (ta tb:TE):TE:=λσ H Q=>t σ H λc H1=>if c=true then ta σ H1 Q else tb σ H1 Q
def qag {c:Expr} (hc:PT X c tA) (ha:PE X a ta) (hb:PE X b tb):PE X (.IfExp c a b pos) (tIf tA ta tb):=by
 intro pins s σ H Q I h;refine wpAny_IfExp (thn (hc pins s σ H _ I h) λd s1 ⟨H1,I1,q1⟩=>?_);cases d with
 |true=>exact ha pins s1 σ H1 Q I1 q1
 |false=>exact hb pins s1 σ H1 Q I1 q1
end
def SqL (K:Frg) (H:Hp) (a:Addr) (xs:List V):Prop:=
 Rd H a (.lst xs) ∨
  ∃ (o:Obj) (its:Array Value) (n:Nat),K.lookup a=some o/\o.cls=.type "list"/\o.dict=none/\o.data=.seq its n/\its.size<=sizeLine/\zQ xs its.toList
def SqT (K:Frg) (H:Hp) (a:Addr) (xs:List V):Prop:=
 Rd H a (.tup xs) ∨
  ∃ (o:Obj) (its:Array Value) (n:Nat),K.lookup a=some o/\o.cls=.type "tuple"/\o.data=.seq its n/\its.size<=sizeLine/\zQ xs its.toList
def qle:Value->Option V
 |.none=>some .non
 |.bool b=>some (.bl b)
 |.int i _=>some (.int i)
 |.str x _=>some (.str x)
 |.bytes b _=>some (.byt b)
 |.float b _=>some (.flt b)
 |.ref a=>some (.ref a)
 |.type n=>some (.ty n)
 |_=>none
def jJ.abs {x:V} {u:Value} (r:jJ x u):qle u=some x:=by
 cases x with
 |non=>cases r;rfl
 |bl _=>cases r;rfl
 |int _=>obtain ⟨t,rfl⟩:=r;rfl
 |str _=>obtain ⟨t,rfl⟩:=r;rfl
 |byt _=>obtain ⟨t,rfl⟩:=r;rfl
 |flt _=>obtain ⟨t,rfl⟩:=r;rfl
 |ref _=>cases r;rfl
 |ty _=>cases r;rfl
def jJ.inj {x y:V} {u:Value} (r:jJ x u) (q:jJ y u):x=y:=Option.some.inj (r.abs.symm.trans q.abs)
def zQ.inj:∀ {xs ys:List V} {us:List Value},zQ xs us->zQ ys us->xs=ys
 |_,_,_,.nil,.nil=>rfl
 |_,_,_,.cons r t,.cons r' t'=>by rw [r.inj r',zQ.inj t t']
section
variable {X:Cx} {pins:List (Addr×Obj)} {σ:St} {H:Hp} {s:Shared} {a:Addr} {xs ys:List V}
def SqL.of {K:Frg} (h:H a=some (.lst xs)):SqL K H a xs:=.inl (.inl h)
def SqT.of {K:Frg} (h:H a=some (.tup xs)):SqT K H a xs:=.inl (.inl h)
def Inv.list (I:Inv X pins σ H s) (h:SqL X.K H a xs):∃ its:List Value,zQ xs its/\PlainL s.heap a its.toArray/\xs.length<=sizeLine:=by
 rcases h with h|⟨o,its,n,hk,hc,hd,hs,hz,r⟩
 ·obtain ⟨z,its,n,r,e⟩:=h.ok I.hok;exact ⟨its,r,⟨_,n,e,rfl,rfl,rfl⟩,z⟩
 ·refine ⟨its.toList,r,⟨o,n,I.kIn a o hk,hc,hd,by simpa using hs⟩,?_⟩;have e:=r.length;simp only [Array.length_toList] at e;omega
def Inv.tuple (I:Inv X pins σ H s) (h:SqT X.K H a xs):∃ its:List Value,zQ xs its/\IsTup s.heap a its.toArray/\xs.length<=sizeLine:=by
 rcases h with h|⟨o,its,n,hk,hc,hs,hz,r⟩
 ·obtain ⟨z,its,r,p⟩:=h.ok I.hok;exact ⟨its,r,p,z⟩
 ·refine ⟨its.toList,r,⟨o,I.kIn a o hk,hc,n,by simpa using hs⟩,?_⟩;have e:=r.length;simp only [Array.length_toList] at e;omega
def Inv.list_inj (I:Inv X pins σ H s) (h:SqL X.K H a xs) (h':SqL X.K H a ys):xs=ys:=by
 obtain ⟨its,r,⟨o,n,e,_,_,d⟩,_⟩:=I.list h;obtain ⟨its',r',⟨o',n',e',_,_,d'⟩,_⟩:=I.list h';rw [e] at e';cases e';rw [d] at d';injection d' with d1 _;have:its=its':=by simpa using congrArg Array.toList d1
 subst this;exact r.inj r'
def Inv.tuple_inj (I:Inv X pins σ H s) (h:SqT X.K H a xs) (h':SqT X.K H a ys):xs=ys:=by
 obtain ⟨its,r,⟨o,e,_,n,d⟩,_⟩:=I.tuple h;obtain ⟨its',r',⟨o',e',_,n',d'⟩,_⟩:=I.tuple h';rw [e] at e';cases e';rw [d] at d';injection d' with d1 _;have:its=its':=by simpa using congrArg Array.toList d1
 subst this;exact r.inj r'
end
abbrev Cx.wish (X:Cx) (E:Value->Shared->Prop):Cx:={ X with xe:=E }
abbrev Cx.nox (X:Cx):Cx:=X.wish λ_ _=>False
def Cx.Ok.wish {X:Cx} (ok:X.Ok) (E:Value->Shared->Prop):(X.wish E).Ok:=
 ⟨ok.mod,ok.kind,ok.glob,ok.blt,ok.above,ok.inj,ok.has,ok.cab,ok.hd,ok.frames,ok.stk,ok.exf,ok.bs,ok.bsz,ok.noex,ok.exfs,ok.funs,ok.frf⟩
def Cx.Ok.unwish {X:Cx} {E:Value->Shared->Prop} (ok:(X.wish E).Ok):X.Ok:=
 ⟨ok.mod,ok.kind,ok.glob,ok.blt,ok.above,ok.inj,ok.has,ok.cab,ok.hd,ok.frames,ok.stk,ok.exf,ok.bs,ok.bsz,ok.noex,ok.exfs,ok.funs,ok.frf⟩
section
variable {X:Cx} {pins:List (Addr×Obj)} {σ:St} {H:Hp} {s:Shared} {E:Value->Shared->Prop}
def Inv.wish (I:Inv X pins σ H s) (E:Value->Shared->Prop):Inv (X.wish E) pins σ H s:=⟨I.ok.wish E,I.os,I.bare,I.base,I.loc,I.cell,I.free,I.freeC,I.pin,I.hok,I.len⟩
def Inv.unwish (I:Inv (X.wish E) pins σ H s):Inv X pins σ H s:=⟨I.ok.unwish,I.os,I.bare,I.base,I.loc,I.cell,I.free,I.freeC,I.pin,I.hok,I.len⟩
def SP.unwish {D:Ends} {f:Flow} {s':Shared} (h:SP (X.wish E) pins D f s'):SP X pins D f s':=by
 cases f with
 |next=>obtain ⟨σ',H',I,q⟩:=h;exact ⟨σ',H',I.unwish,q⟩
 |brk=>obtain ⟨σ',H',I,q⟩:=h;exact ⟨σ',H',I.unwish,q⟩
 |cont=>obtain ⟨σ',H',I,q⟩:=h;exact ⟨σ',H',I.unwish,q⟩
 |ret u=>obtain ⟨v,σ',H',I,r,q⟩:=h;exact ⟨v,σ',H',I.unwish,r,q⟩
def PSs.nox {st:List Stmt} {t:TS} (h:PSs X.nox st t):PSs X st t:=λpins s σ H D I hw=>
 wpAny_mono (h pins s σ H D (I.wish _) hw) (λ_ _ q=>q.unwish) λ_ _ z=>False.elim z
end
section
variable {X:Cx} {st:Stmt} {J2:List Stmt} {t u:TS} {e:Expr} {te:TE} {pos:Pos}
def qh9:TS:=λD σ H=>D.nx σ H
def qk6 (t u:TS):TS:=λD σ H=>t { D with nx:=u D } σ H
def qcp:PSs X [] qh9:=λ_ _ σ H _ I h=>wpAny_execs_nil ⟨σ,H,I,h⟩
def NX (h1:PS X st t) (h2:PSs X J2 u):PSs X (st::J2) (qk6 t u):=by
 intro pins s σ H D I h;refine wpAny_execs_cons (thn (h1 pins s σ H { D with nx:=u D } I h) λf s1 q=>?_);cases f with
 |next=>
  obtain ⟨σ',H',I',q⟩:=q;exact h2 pins s1 σ' H' D I' q
 |ret v=>exact q
 |brk=>exact q
 |cont=>exact q
def qct (h1:PS X st t):PSs X [st] t:=by
 intro pins s σ H D I h;refine wpAny_execs_cons (thn (h1 pins s σ H D I h) λf s1 q=>?_);cases f with
 |next=>exact wpAny_execs_nil q
 |ret v=>exact q
 |brk=>exact q
 |cont=>exact q
def Inv.quiet {pins:List (Addr×Obj)} {σ:St} {H:Hp} {s:Shared} (I:Inv X pins σ H s):interactive X.env=false:=by simp [interactive,I.ok.kind]
def qjf (te:TE):TS:=λD σ H=>te σ H λ_ H1=>D.nx σ H1
def qc4 (he:PE X e te) (hs:swapsWith e none pos.line X.env=pure false:=by rfl):PS X (.Expr e pos) (qjf te):=by
 intro pins s σ H D I h;exact wpAny_Expr_any (thn (he pins s σ H _ I h) λv s1 ⟨x,H1,I1,r1,q1⟩=>⟨σ,H1,I1,q1⟩) I.quiet hs
def qk5 (te:TE):TS:=λD σ H=>te σ H D.rt
def qeO (he:PE X e te):PS X (.Return (some e) pos) (qk5 te):=by
 intro pins s σ H D I h;exact wpAny_Return_some (thn (he pins s σ H _ I h) λv s1 ⟨x,H1,I1,r1,q1⟩=>⟨x,σ,H1,I1,r1,q1⟩)
def qkI (c:TT) (t u:TS):TS:=λD σ H=>c σ H λb H1=>if b=true then t D σ H1 else u D σ H1
def qjs {c:Expr} {a b:List Stmt} {tc:TT} (hc:PT X c tc) (ha:PSs X a t) (hb:PSs X b u):PS X (.If c a b pos) (qkI tc t u):=by
 intro pins s σ H D I h;refine wpAny_If (thn (hc pins s σ H _ I h) λd s1 ⟨H1,I1,q1⟩=>?_);cases d with
 |true=>exact ha pins s1 σ H1 D I1 q1
 |false=>exact hb pins s1 σ H1 D I1 q1
end
abbrev TG:=V->St->Hp->(St->Hp->Prop)->Prop
abbrev TGs:=List V->St->Hp->(St->Hp->Prop)->Prop
def PG (X:Cx) (target:Expr) (t:TG):Prop:=
 ∀ (pins:List (Addr×Obj)) (s:Shared) (σ:St) (H:Hp) (v:V) (u:Value) (Q:St->Hp->Prop),Inv X pins σ H s->jJ v u->t v σ H Q ->
  wpAny (model X.prog X.w) X.A (assign target X.env u) (λ_ s'=>∃ σ' H',Inv X pins σ' H' s'/\Q σ' H') X.xe s
def PGs (X:Cx) (ts:List Expr) (t:TGs):Prop:=
 ∀ (pins:List (Addr×Obj)) (s:Shared) (σ:St) (H:Hp) (vs:List V) (us:List Value) (Q:St->Hp->Prop),Inv X pins σ H s->zQ vs us->t vs σ H Q ->
  wpAny (model X.prog X.w) X.A (assignInOrder ((assignEach ts X.env).map (·.2)) us) (λ_ s'=>∃ σ' H',Inv X pins σ' H' s'/\Q σ' H') X.xe s
abbrev qhL:=V->V->V->Hp->(Hp->Prop)->Prop
def qj2 (X:Cx) (t:qhL):Prop:=
 ∀ (pins:List (Addr×Obj)) (s:Shared) (σ:St) (H:Hp) (o i v:V) (ov iv u:Value) (Q:Hp->Prop),Inv X pins σ H s->jJ o ov->jJ i iv->jJ v u->t o i v H Q ->
  wpAny (model X.prog X.w) X.A (setItem ov iv u) (λ_ s'=>∃ H',Inv X pins σ H' s'/\Q H') X.xe s
section
variable {X:Cx} {pos:Pos}
def qc6 (i:Nat):TG:=λv σ H Q=>Q (σ.set i (some v)) H
def qcn {i:Nat} {x:Str} (hN:X.N.Nodup) (hi:X.N[i]?=some x) (hx:Loc X.env.scope x) (hf:X.fn x=true\/X.env.scope.names.lookup x=some .local:=by first|exact .inl rfl|exact .inr rfl|assumption):PG X (.Name x pos) (qc6 i):=by
 intro pins s σ H v u Q I r h;exact wpAny_assign_Name (UG I hN hi hx r (λs' I'=>⟨_,H,I',h⟩) hf)
def qdn:TGs:=λvs σ H Q=>vs=[]/\Q σ H
def UE (t:TG) (u:TGs):TGs:=λvs σ H Q=>∃ v r,vs=v::r/\t v σ H λσ' H'=>u r σ' H' Q
def qcD:PGs X [] qdn:=by
 intro pins s σ H vs us Q I r h;obtain ⟨e,h⟩:=h;subst e;cases r;exact assignInOrder_nil ⟨σ,H,I,h⟩
def M4 {e:Expr} {es:List Expr} {t:TG} {u:TGs} (h1:PG X e t) (h2:PGs X es u)
  (hs:(assignEach (e::es) X.env).map (·.2)=assign e X.env::(assignEach es X.env).map (·.2):=by rfl):PGs X (e::es) (UE t u):=by
 intro pins s σ H vs us Q I r h;obtain ⟨v,vr,e1,h⟩:=h;subst e1;cases r with
 |cons r rr=>
  rw [hs];refine assignInOrder_cons (thn (h1 pins s σ H _ _ _ I r h) λ_ s1 ⟨σ1,H1,I1,q1⟩=>?_);exact h2 pins s1 σ1 H1 _ _ Q I1 rr q1
def qdq (K:Frg) (n:Nat) (t:TGs):TG:=λv σ H Q=>∃ a xs,v=.ref a/\SqT K H a xs/\xs.length=n/\t xs σ H Q
def qgy {es:List Expr} {k:Nat} {t:TGs} {n:Nat} (hc:X.calm=true) (h:PGs X es t)
  (hn:(assignEach es X.env).length=n:=by rfl) (hst:(assignEach es X.env).findIdx? (·.1)=none:=by rfl):PG X (.Tuple es k pos) (qdq X.K n t):=by
 intro pins s σ H v u Q I r hw;obtain ⟨a,xs,e1,hq,hl,hw⟩:=hw;subst e1;cases r;obtain ⟨its,rv,ht,hz⟩:=I.tuple hq;refine assign_Tuple_tuple (I.ok.hd hc) ht (by simp [hn,← hl,rv.length]) hst λh' hx=>?_;have I1:Inv X pins σ H { s with heap:=h' }:=I.kept (t':=s.toks) λb o e=>hx b o (Nat.ne_of_lt (Heap.lt_size e)) e;exact h pins _ σ H xs _ Q I1 (by simpa using rv) hw
def qkJ (to ti:TE) (t:qhL):TG:=λv σ H Q=>to σ H λo H1=>ti σ H1 λi H2=>t o i v H2 λH3=>Q σ H3
def qeX {o i:Expr} {to ti:TE} {t:qhL} (ho:PE X o to) (hi:PE X i ti) (hs:qj2 X t)
  (ha:∀ v,assign (.Subscript o i pos) X.env v=(do
   let ov←holding [v] (eval o X.env)
   let iv←holding [v,ov] (eval i X.env)
   standAt pos
   holding [v,ov,iv] (setItem ov iv v)
   release [v,ov,iv] []):=by intro _;rfl):PG X (.Subscript o i pos) (qkJ to ti t):=by
 intro pins s σ H v u Q I r h;rw [ha];refine wpAny_bind (wpAny_holding (thn (ho pins s σ H _ I h) λov s1 ⟨x,H1,I1,r1,q1⟩=>?_));refine wpAny_bind (wpAny_holding (thn (hi pins s1 σ H1 _ I1 q1) λiv s2 ⟨y,H2,I2,r2,q2⟩=>?_));refine wpAny_bind (wpAny_standAt (wpAny_bind (wpAny_holding (thn (hs pins s2 σ H2 x y v ov iv u _ I2 r1 r2 r q2) λ_ s3 ⟨H3,I3,q3⟩=>?_))));exact wpAny_release ⟨σ,H3,I3,q3⟩
def qje (te:TE) (g:TG):TS:=λD σ H=>te σ H λx H1=>g x σ H1 D.nx
def qeK {tg e:Expr} {te:TE} {g:TG} (he:PE X e te) (hg:PG X tg g) (hs:swapsWithSole [tg] e pos.line X.env=pure false:=by rfl) (hw:swappedStores [tg] e X.env=pure none:=by rfl)
  (h1:(assignEach [tg] X.env).map (·.2)=[assign tg X.env]:=by rfl):PS X (.Assign [tg] e pos) (qje te g):=by
 intro pins s σ H D I h;refine wpAny_Assign_stores (thn (he pins s σ H _ I h) λv s1 ⟨x,H1,I1,r1,q1⟩=>?_) hs hw;rw [h1];exact thn (hg pins s1 σ H1 x v _ I1 r1 q1) λ_ s2 q=>q
def qeq {i:Nat} {x:Str} {e:Expr} {te:TE} {pos':Pos} (hN:X.N.Nodup) (hi:X.N[i]?=some x) (hx:Loc X.env.scope x) (he:PE X e te) (hs:swapsWith e (some (.Name x pos')) pos.line X.env=pure false:=by rfl) (hf:X.fn x=true\/X.env.scope.names.lookup x=some .local:=by first|exact .inl rfl|exact .inr rfl|assumption) :
  PS X (.Assign [.Name x pos'] e pos) (qje te (qc6 i)):=by
 intro pins s σ H D I h;refine wpAny_Assign_Name (thn (he pins s σ H _ I h) λv s1 ⟨y,H1,I1,r1,q1⟩=>?_) hs;exact UG I1 hN hi hx r1 (λs2 I2=>⟨_,H1,I2,q1⟩) hf
def qkF (i j:Nat) (ta:TA):TS:=λD σ H=>ta σ H λvs H1=>∃ v w,vs=[v,w]/\D.nx ((σ.set i (some v)).set j (some w)) H1
def qea {i j:Nat} {x y:Str} {a b:Expr} {ta:TA} {px py pt:Pos} {kt k2 pt2} (hc:X.calm=true) (hN:X.N.Nodup) (hi:X.N[i]?=some x) (hj:X.N[j]?=some y) (hij:i≠j)
  (hx:X.env.scope.names.lookup x=some .local) (hy:X.env.scope.names.lookup y=some .local) (ha:PA X [a,b] ta)
  (hw:swappedStores [.Tuple [.Name x px,.Name y py] kt pt] (.Tuple [a,b] k2 pt2) X.env=pure (some [x,y]))
  (hs:swapsWithSole [.Tuple [.Name x px,.Name y py] kt pt] (.Tuple [a,b] k2 pt2) pos.line X.env=pure false:=by rfl) :
  PS X (.Assign [.Tuple [.Name x px,.Name y py] kt pt] (.Tuple [a,b] k2 pt2) pos) (qkF i j ta):=by
 intro pins s σ H D I h;rw [exec_Assign_arm];refine wpAny_bind (wpAny_standAt ?_);rw [hs];refine wpAny_bind (wpAny_pure ?_);rw [if_neg (by decide)];refine wpAny_bind (Tuple_ (thn (ha _ pins s σ H _ I h) λus s1 ⟨vs,H1,I1,r1,q1⟩=>?_));obtain ⟨v,w,e1,q1⟩:=q1;subst e1;obtain ⟨u1,u2,rfl,rv,rw'⟩:∃ u1 u2,us=[u1,u2]/\jJ v u1/\jJ w u2:=by
  cases r1 with
  |cons p q=>
   cases q with
   |cons p' q'=>
    cases q';exact ⟨_,_,rfl,p,p'⟩
 refine wpAny_newObj_type ?_ (by show 2<=sizeLine;decide);have I2:Inv X pins σ H1 { s1 with heap:=s1.heap.push { cls:=.type "tuple",data:=.seq [u1,u2].toArray } }:=I1.kept (t':=s1.toks) λb o e=>Heap.get?_push_of_some _ e;rw [hw];refine wpAny_bind (wpAny_pure ?_);show wpAny (model X.prog X.w) X.A (do rule "assign.swapped-stores";let items←unpackItems (.ref s1.heap.objs.size) 2 none;assignInOrder [λv=>bindName X.env y v,λv=>bindName X.env x v] items.reverse;pure Flow.next) _ _ _;refine wpAny_bind (wpAny_rule (wpAny_bind (unpackItems_tuple (items:=#[u1,u2]) (I.ok.hd hc) (IsTup.new s1.heap _) λh' hx'=>?_)));have I3:=I2.kept (h':=h') (t':=s1.toks) λb o e=>hx' b o (Nat.ne_of_lt (Heap.lt_size e)) e;show wpAny _ _ (assignInOrder [λv=>bindName X.env y v,λv=>bindName X.env x v] [u2,u1] >>= λ_=>pure Flow.next) _ _ _;refine wpAny_bind (assignInOrder_cons (wpAny_bindName (UG I3 hN hj (.inl hy) rw' (λs2 I4=>?_) (.inr hy))));refine assignInOrder_cons (wpAny_bindName (UG I4 hN hi (.inl hx) rv (λs3 I5=>assignInOrder_nil (wpAny_pure ?_)) (.inr hx)));rw [List.set_comm _ _ (Ne.symm hij)] at I5;exact ⟨_,H1,I5,q1⟩
end
section
variable {X:Cx} {pos:Pos}
def qeb (c:TT) (tb:TS):TS:=λD σ H=>∃ W:Nat->St->Hp->Prop,(∃ m,W m σ H)/\∀ m σ H,W m σ H ->
 c σ H λb H1=>if b=true then ∃ N:St->Hp->Prop,(∀ σ' H',N σ' H'->∃ m',m'<m/\W m' σ' H')/\tb { D with nx:=N,ct:=N,bk:=D.nx } σ H1 else D.nx σ H1
def M7 {c:Expr} {body:List Stmt} {tc:TT} {tb:TS} (hp:PassesOwn (model X.prog X.w) X.A X.env X.xe) (hc:PT X c tc) (hb:PSs X body tb):PS X (.While c body [] pos) (qeb tc tb):=by
 intro pins s σ H D I h;obtain ⟨W,⟨m0,w0⟩,turn⟩:=h;refine wpAny_While (codeAny_whileLoop (λn s'=>∃ σ' H',Inv X pins σ' H' s'/\W n σ' H') ?_ m0 ⟨σ,H,I,w0⟩);rintro n s1 ⟨σ1,H1,I1,w1⟩;refine wpAny_passesOwn hp (thn (hc pins s1 σ1 H1 _ I1 (turn n σ1 H1 w1)) λb s2 ⟨H2,I2,q2⟩=>?_);cases b with
 |true=>
  obtain ⟨N,hN,q2⟩:=q2;rw [if_pos rfl];refine wpAny_passesOwn hp (thn (hb pins s2 σ1 H2 _ I2 q2) λf s3 q3=>?_);cases f with
  |next=>
   obtain ⟨σ3,H3,I3,n3⟩:=q3;obtain ⟨m',hm,w3⟩:=hN σ3 H3 n3;exact ⟨m',hm,σ3,H3,I3,w3⟩
  |cont=>
   obtain ⟨σ3,H3,I3,n3⟩:=q3;obtain ⟨m',hm,w3⟩:=hN σ3 H3 n3;exact ⟨m',hm,σ3,H3,I3,w3⟩
  |brk=>exact q3
  |ret v=>exact q3
 |false=>
  rw [if_neg Bool.false_ne_true];exact wpAny_execs_nil ⟨σ1,H2,I2,q2⟩
end
structure It where
 go:Nat->Hp->Prop
 yld:Nat->Hp->V->Hp->Prop
 stop:Nat->Hp->Prop
def RX (X:Cx) (pins:List (Addr×Obj)) (H:Hp) (b:Addr):Prop:=
 H b=none/\b≠X.env.locals/\b∉X.fs/\(b∈X.ex\/X.s₀.heap.objs.size<=b)/\(∀ x c,X.env.cells.lookup x=some c->c≠b)/\∀ p∈X.pn++pins,p.1≠b
def Inv.fpOk {X:Cx} {pins:List (Addr×Obj)} {σ:St} {H H':Hp} {s:Shared} {b:Addr} (I:Inv X pins σ H s) (hb:s.heap.objs.size<=b) (hn:H' b=none):RX X pins H' b:=by
 refine ⟨hn,Nat.ne_of_gt (Nat.lt_of_lt_of_le I.lt hb),I.nofs hb,.inr (Nat.le_trans I.sz hb),λx c e z=>?_,λp hp z=>?_⟩
 ·obtain ⟨v,q⟩:=I.cell x c e;exact absurd (Nat.lt_of_lt_of_le q.lt (by rw [z];exact hb)) (Nat.lt_irrefl _)
 ·exact absurd (Nat.lt_of_lt_of_le (Heap.lt_size (I.pin p hp).1) (by rw [z];exact hb)) (Nat.lt_irrefl _)
structure Turn (P:Program) (w:World) (K:Frg) (tg:Expr) (J:It) (fp:List Addr) (it:Addr) (tn:Nat->Heap->Prop):Prop where
 mem:it∈fp
 obj:∀ i h,tn i h->∀ b∈fp,∃ o,h.get? b=some o/\∀ v,o.data≠.cell v
 keep:∀ i h h',tn i h->(∀ b∈fp,∀ o,h.get? b=some o->h'.get? b=some o)->tn i h'
 item:∀ (X:Cx),X.prog=P->X.w=w->X.K=K->X.calm=true->∀ (i:Nat) (pins:List (Addr×Obj)) (s:Shared) (σ:St) (H:Hp) (E:Value->Shared->Prop),Inv X pins σ H s->(∀ b∈fp,RX X pins H b)->tn i s.heap->J.go i H ->
  wpAny (model P w) X.A (pyNext (.ref it)) (λr s1=>∃ u,r=some u /\
   wpAny (model P w) X.A (letOwnedTupleGo tg (.ref it) u) (λ_ s2=>∃ x H',Inv X pins σ H' s2/\jJ x u/\J.yld i H x H'/\tn (i+1) s2.heap/\∀ b∈fp,H' b=none) E s1) E s
 done:∀ (X:Cx),X.prog=P->X.w=w->X.K=K->X.calm=true->∀ (i:Nat) (pins:List (Addr×Obj)) (s:Shared) (σ:St) (H:Hp) (E:Value->Shared->Prop),Inv X pins σ H s->(∀ b∈fp,RX X pins H b)->tn i s.heap->J.stop i H ->
  wpAny (model P w) X.A (pyNext (.ref it)) (λr s1=>r=none/\Inv X pins σ H s1) E s
 self:∀ (A:Around) (i:Nat) (s:Shared) (Q:Value->Shared->Prop) (E:Value->Shared->Prop),tn i s.heap->Q (.ref it) s->wpAny (model P w) A (pyIter (.ref it)) Q E s
abbrev TI:=St->Hp->(It->Hp->Prop)->Prop
def PIE (X:Cx) (pins:List (Addr×Obj)) (σ:St) (tg:Expr) (R:It->Hp->Prop) (itv:Value) (s2:Shared):Prop:=
 ∃ (it:Addr) (fp:List Addr) (tn:Nat->Heap->Prop) (J:It) (H':Hp),itv=.ref it/\Inv X pins σ H' s2/\Turn X.prog X.w X.K tg J fp it tn/\tn 0 s2.heap/\(∀ b∈fp,RX X pins H' b)/\R J H'
def PI (X:Cx) (tg iter:Expr) (wi:TI):Prop:=
 ∀ (pins:List (Addr×Obj)) (s:Shared) (σ:St) (H:Hp) (R:It->Hp->Prop),Inv X pins σ H s->wi σ H R ->
  wpAny (model X.prog X.w) X.A (eval iter X.env) (λv s1=>wpAny (model X.prog X.w) X.A (pyIter v) (PIE X pins σ tg R) X.xe s1) X.xe s
def qcV {M:Model} {A:Around} {E:Value->Shared->Prop} {s:Shared} {tg:Expr} {it:Addr} {u:Value} {o:Obj} {n:String} {vs:Array Value} {Q:Unit->Shared->Prop} (ho:s.heap.get? it=some o) (hc:o.cls=.type n) (hd:o.data=.fields vs)
    (hn:["enumerate","zip","dict_itemiterator","dict_reverseitemiterator","odict_iterator","itertools.zip_longest","itertools.pairwise"].contains n=false) (hQ:Q () s):wpAny M A (letOwnedTupleGo tg (.ref it) u) Q E s:=by
  unfold letOwnedTupleGo;cases tg<;>first
    |exact wpAny_pure hQ
    | (cases u<;>first
        |exact wpAny_pure hQ
        | (refine wpAny_bind (wpAny_load ho ?_)
           rw [hc,hd];show wpAny M A (if (["enumerate","zip","dict_itemiterator","dict_reverseitemiterator","odict_iterator","itertools.zip_longest","itertools.pairwise"].contains n&&vs[0]?==some (rawInt _))=true then _ else _) Q E s;rw [if_neg (by intro h;rw [hn,Bool.false_and] at h;cases h)];exact wpAny_pure hQ))
def Itl (K:Frg) (a:Addr):It:=
 ⟨λi H=>∃ xs x,SqL K H a xs/\xs[i]?=some x,λi H x H'=>H'=H/\∀ xs,SqL K H a xs->xs[i]?=some x,λi H=>∃ xs,SqL K H a xs/\xs.length<=i⟩
def Itt (K:Frg) (a:Addr):It:=
 ⟨λi H=>∃ xs x,SqT K H a xs/\xs[i]?=some x,λi H x H'=>H'=H/\∀ xs,SqT K H a xs->xs[i]?=some x,λi H=>∃ xs,SqT K H a xs/\xs.length<=i⟩
def Itr (lo:Int) (n:Nat):It:=⟨λi _=>i<n,λi H x H'=>H'=H/\x=.int (lo+i),λi _=>n<=i⟩
def KZ {P:Program} {w:World} {K:Frg} {tg:Expr} (a it:Addr):Turn P w K tg (Itl K a) [it] it (λi h=>h.IsListIter it a i) where
 mem:=by simp
 obj:=λi h st b hb=>by
  have e:b=it:=by simpa using hb
  subst e;obtain ⟨o,e,c,d⟩:=st;exact ⟨o,e,λv z=>by rw [d] at z;cases z⟩
 keep:=λi h h' st k=>st.at λo e=>k it (by simp) o e
 item:=by
  intro X hP hw hK hc i pins s σ H E I hf st hg;subst hP hw hK;obtain ⟨xs,x,hq,hx⟩:=hg;obtain ⟨its,rv,p,hz⟩:=I.list hq;obtain ⟨u,hu,ru⟩:=rv.get hx;obtain ⟨f0,f1,f2,f3,f4,f5⟩:=hf it (by simp);refine wpAny_pyNext_list_item st p.isList (x:=u) (by simpa using hu) λh' st' sb=>?_;have I1:Inv X pins σ H { s with heap:=h' }:=I.turned (t':=s.toks) (λb o hb e=>(sb.2 b hb).trans e) f0 f1 f3 f4 f5;obtain ⟨o,e,c,d⟩:=id st';exact ⟨u,rfl,qcV (s:={ s with heap:=h' }) e c d (by decide) ⟨x,H,I1,ru,⟨rfl,λys hy=>by rw [I.list_inj hy hq];exact hx⟩,st',λb hb=>(hf b hb).1⟩⟩
 done:=by
  intro X hP hw hK hc i pins s σ H E I hf st hg;subst hP hw hK;obtain ⟨xs,hq,hx⟩:=hg;obtain ⟨its,rv,p,hz⟩:=I.list hq;obtain ⟨f0,f1,f2,f3,f4,f5⟩:=hf it (by simp);have hl:=rv.length;exact wpAny_pyNext_list_end (I.ok.hd hc) st p.isList (by simp;omega) λh' eb=>⟨rfl,I.turned (t':=s.toks) (λb o hb e=>eb b o hb e) f0 f1 f3 f4 f5⟩
 self:=λ_ _ _ _ _ st h=>wpAny_pyIter_listiter st h
def TB {P:Program} {w:World} {K:Frg} {tg:Expr} (a it:Addr):Turn P w K tg (Itt K a) [it] it (λi h=>h.IsTupleIter it a i) where
 mem:=by simp
 obj:=λi h st b hb=>by
  have e:b=it:=by simpa using hb
  subst e;obtain ⟨o,e,c,d⟩:=st;exact ⟨o,e,λv z=>by rw [d] at z;cases z⟩
 keep:=λi h h' st k=>st.at λo e=>k it (by simp) o e
 item:=by
  intro X hP hw hK hc i pins s σ H E I hf st hg;subst hP hw hK;obtain ⟨xs,x,hq,hx⟩:=hg;obtain ⟨its,rv,p,hz⟩:=I.tuple hq;obtain ⟨u,hu,ru⟩:=rv.get hx;obtain ⟨f0,f1,f2,f3,f4,f5⟩:=hf it (by simp);refine wpAny_pyNext_tuple_item st (show s.heap.IsTuple a its.toArray from p) (x:=u) (by simpa using hu) λh' st' sb=>?_;have I1:Inv X pins σ H { s with heap:=h' }:=I.turned (t':=s.toks) (λb o hb e=>(sb.2 b hb).trans e) f0 f1 f3 f4 f5;obtain ⟨o,e,c,d⟩:=id st';exact ⟨u,rfl,qcV (s:={ s with heap:=h' }) e c d (by decide) ⟨x,H,I1,ru,⟨rfl,λys hy=>by rw [I.tuple_inj hy hq];exact hx⟩,st',λb hb=>(hf b hb).1⟩⟩
 done:=by
  intro X hP hw hK hc i pins s σ H E I hf st hg;subst hP hw hK;obtain ⟨xs,hq,hx⟩:=hg;obtain ⟨its,rv,p,hz⟩:=I.tuple hq;obtain ⟨f0,f1,f2,f3,f4,f5⟩:=hf it (by simp);have hl:=rv.length;exact wpAny_pyNext_tuple_end (I.ok.hd hc) st (show s.heap.IsTuple a its.toArray from p) (by simp;omega) λh' eb=>⟨rfl,I.turned (t':=s.toks) (λb o hb e=>eb b o hb e) f0 f1 f3 f4 f5⟩
 self:=λ_ _ _ _ _ st h=>wpAny_pyIter_tupleiter st h
def S5 {P:Program} {w:World} {K:Frg} {tg:Expr} (it:Addr) (lo:Int) (n:Nat):Turn P w K tg (Itr lo n) [it] it (λi h=>IsRangeIter h it (lo+(i:Nat)*1) ((n:Int)-(i:Nat)) 1) where
 mem:=by simp
 obj:=λi h st b hb=>by
  have e:b=it:=by simpa using hb
  subst e;exact ⟨_,st,λv z=>by
   have z':Data.fields _=Data.cell v:=z;cases z'⟩
 keep:=λi h h' st k=>k it (by simp) _ st
 item:=by
  intro X hP hw hK hc i pins s σ H E I hf st hg;subst hP hw hK;obtain ⟨f0,f1,f2,f3,f4,f5⟩:=hf it (by simp);have W:=Walks.range (prog:=X.prog) (w:=X.w) (I.ok.hd hc) it lo 1 n;refine W.item i s _ _ hg st λv h' tk hv st' kk=>?_;obtain ⟨t,rfl⟩:=hv;have I1:Inv X pins σ H { s with heap:=h',toks:=tk }:=I.turned (λb o hb e=>kk b o (by simpa using hb) e) f0 f1 f3 f4 f5;refine ⟨_,rfl,qcV (s:={ s with heap:=h',toks:=tk }) (n:="range_iterator") st' rfl rfl (by decide) ⟨.int (lo+i),H,I1,⟨t,?_⟩,⟨rfl,rfl⟩,st',λb hb=>(hf b hb).1⟩⟩;rw [Int.mul_one]
 done:=by
  intro X hP hw hK hc i pins s σ H E I hf st hg;subst hP hw hK;obtain ⟨f0,f1,f2,f3,f4,f5⟩:=hf it (by simp);exact wpAny_pyNext_range_end (I.ok.hd hc) st (by have:n<=i:=hg;omega) λh' eb=>⟨rfl,I.turned (t':=s.toks) (λb o hb e=>eb b o hb e) f0 f1 f3 f4 f5⟩
 self:=λ_ _ _ _ _ st h=>wpAny_pyIter_rangeiter st h
section
variable {X:Cx} {tg:Expr}
def N4 {pins:List (Addr×Obj)} {σ:St} {H:Hp} {s:Shared} {R:It->Hp->Prop} {E:Value->Shared->Prop} {lo hi:Int} {t u v:Tok} {tk:Nat} (I:Inv X pins σ H s) (h1:-(2 ^ 62)<=lo) (h2:lo<2 ^ 62) (h3:-(2 ^ 62)<=hi) (h4:hi<2 ^ 62)
  (q:R (Itr lo (hi-lo).toNat) H):wpAny (model X.prog X.w) X.A (pyIter (.ref s.heap.objs.size)) (PIE X pins σ tg R) E { s with heap:=s.heap.push { cls:=.type "range",data:=.fields #[.int lo t,.int hi u,.int 1 v] },toks:=tk }:=by
 refine wpAny_pyIter_range (IsRange.new ..) (small_one h1 h2 h3 h4) ?_;have I1:Inv X pins σ H { s with heap:=s.heap.push { cls:=.type "range",data:=.fields #[.int lo t,.int hi u,.int 1 v] },toks:=tk }:=I.kept λb o e=>Heap.get?_push_of_some _ e;refine ⟨(s.heap.push { cls:=.type "range",data:=.fields #[.int lo t,.int hi u,.int 1 v] }).objs.size,[(s.heap.push { cls:=.type "range",data:=.fields #[.int lo t,.int hi u,.int 1 v] }).objs.size],_,_,H,rfl,
  I1.kept (t':=tk) λb o e=>Heap.get?_push_of_some _ e,S5 _ lo (hi-lo).toNat,?_,λb hb=>?_,q⟩
 ·have e1:lo+((0:Nat):Int)*1=lo:=by simp
  have e2:(((hi-lo).toNat:Nat):Int)-((0:Nat):Int)=Builtin.Range.rangeSize lo hi 1:=by rw [rangeSize_one];split<;>omega
  show IsRangeIter _ _ (lo+((0:Nat):Int)*1) ((((hi-lo).toNat:Nat):Int)-((0:Nat):Int)) 1;rw [e1,e2];exact Heap.get?_push_size _ rfl
 ·have e:b=(s.heap.push { cls:=.type "range",data:=.fields #[.int lo t,.int hi u,.int 1 v] }).objs.size:=by simpa using hb
  subst e;exact I1.fpOk (Nat.le_refl _) (I1.hok.fresh (Nat.le_refl _))
def qjo (ta:TA):TI:=λσ H R=>ta σ H λvs H1=>∃ j:Int,vs=[.int j]/\-(2 ^ 62)<=j/\j<2 ^ 62/\R (Itr 0 j.toNat) H1
def LP {a:Expr} {ta:TA} {p pos:Pos} (hg:Gl X "range") (hm:X.mg "range" = none) (ha:PA X [a] ta) (hs:starEach [a] X.env=[(false,eval a X.env)]:=by rfl):PI X tg (.Call (.Name "range" p) [a] [] pos) (qjo ta):=by
 intro pins s σ H R I h;refine Call_ (SB I hg hm boot_range (PyProof.Rows.callWith_type1 (thn (ha pos pins s σ H _ I h) λus s1 ⟨vs,H1,I1,r1,q1⟩=>?_) hs rfl));obtain ⟨j,e,q1,q2,q⟩:=q1;subst e;cases r1 with
 |cons r rr=>
  cases rr;obtain ⟨t,rfl⟩:=r;exact call_range_1 (N4 I1 (by omega) (by omega) q1 q2 (by simpa using q))
def qk2 (wi:TI) (g:TG) (tb:TS):TS:=λD σ H=>wi σ H λJ H1=>∃ W:Nat->Nat->St->Hp->Prop,(∃ m,W 0 m σ H1)/\∀ i m σ H,W i m σ H ->
 (J.stop i H/\D.nx σ H)\/(J.go i H/\∃ N:St->Hp->Prop,(∀ σ' H',N σ' H'->∃ m',m'<m/\W (i+1) m' σ' H')/\∀ x H',J.yld i H x H'->g x σ H' λσ2 H2=>tb { D with nx:=N,ct:=N,bk:=D.nx } σ2 H2)
def DM (fp:List Addr) (h:Heap):List (Addr×Obj):=fp.filterMap λb=>(h.get? b).map λo=>(b,o)
def j5 {fp:List Addr} {h:Heap} {b:Addr} {o:Obj} (hb:b∈fp) (e:h.get? b=some o):(b,o)∈DM fp h:=List.mem_filterMap.mpr ⟨b,hb,by rw [e];rfl⟩
def T6 {fp:List Addr} {h:Heap} {p:Addr×Obj} (hp:p∈DM fp h):p.1∈fp/\h.get? p.1=some p.2:=by
 obtain ⟨b,hb,e⟩:=List.mem_filterMap.mp hp;cases q:h.get? b with
 |none=>rw [q] at e;cases e
 |some o=>
  rw [q] at e;have e':(b,o)=p:=Option.some.inj e;subst e';exact ⟨hb,q⟩
def Inv.pinned {pins:List (Addr×Obj)} {σ:St} {H:Hp} {s:Shared} {fp:List Addr} (I:Inv X pins σ H s) (hf:∀ b∈fp,RX X pins H b) (ho:∀ b∈fp,∃ o,s.heap.get? b=some o/\∀ v,o.data≠.cell v):Inv X (pins++DM fp s.heap) σ H s:=
 I.pins_of λp hp=>(List.mem_append.mp hp).elim (λz=>I.pin p (mem_append_right _ z)) λz=>by
  obtain ⟨hb,e⟩:=T6 z;obtain ⟨f0,f1,f2,_⟩:=hf p.1 hb;obtain ⟨o,e',d⟩:=ho p.1 hb;rw [e] at e';cases e';exact ⟨e,f0,f1,f2,d⟩
def Inv.unpinned {pins pl:List (Addr×Obj)} {σ:St} {H:Hp} {s:Shared} (I:Inv X (pins++pl) σ H s):Inv X pins σ H s:=I.pins_of λp hp=>I.pin p (mem_append_right _ (List.mem_append_left _ hp))
def qd8 {iter:Expr} {body:List Stmt} {wi:TI} {g:TG} {tb:TS} {pos:Pos} (hp:PassesOwn (model X.prog X.w) X.A X.env X.xe) (hc:X.calm=true) (hi:PI X tg iter wi) (hg:PG X tg g) (hb:PSs X body tb)
  (hs:∀ x,foldedSetIterable iter X.env x=pure x:=by intro _;rfl):PS X (.For tg iter body [] pos) (qk2 wi g tb):=by
 intro pins s σ H D I h;refine wpAny_For (thn (hi pins s σ H _ I h) λv s1 h1=>thn h1 λitv s2 h2=>?_) hs;obtain ⟨it,fp,tn,J,H2,e,I2,T,st2,f2,W,⟨m0,w0⟩,turn⟩:=h2;subst e
 -- what stays true of the iterator's objects through the loop
 have stat:∀ {H':Hp},(∀ b∈fp,H' b=none)->∀ b∈fp,RX X pins H' b:=λhn b hb=>⟨hn b hb,(f2 b hb).2⟩
 refine codeAny_forLoop_any (λn s'=>∃ i σ' H',Inv X pins σ' H' s'/\tn i s'.heap/\(∀ b∈fp,H' b=none)/\W i n σ' H') ?_ m0 ⟨0,σ,H2,I2,st2,λb hb=>(f2 b hb).1,w0⟩;rintro n s3 ⟨i,σ3,H3,I3,st3,fr3,w3⟩;rcases turn i n σ3 H3 w3 with ⟨stop,qn⟩|⟨go,N,hN,step⟩
 ·refine wpAny_passesOwn hp (thn (T.done X rfl rfl rfl hc i pins s3 σ3 H3 X.xe I3 (stat fr3) st3 stop) λr s4 ⟨hr,I4⟩=>?_);subst hr;exact wpAny_execs_nil ⟨σ3,H3,I4,qn⟩
 ·refine wpAny_passesOwn hp (thn (T.item X rfl rfl rfl hc i pins s3 σ3 H3 X.xe I3 (stat fr3) st3 go) λr s4 ⟨u,hr,h4⟩=>?_);subst hr;refine wpAny_passesOwn hp (thn h4 λ_ s5 ⟨x,H5,I5,r5,y5,st5,fr5⟩=>?_);have I5':=I5.pinned (stat fr5) (T.obj _ _ st5);refine wpAny_passesOwn hp (thn (hg _ s5 σ3 H5 x u _ I5' r5 (step x H5 y5)) λ_ s6 ⟨σ6,H6,I6,q6⟩=>?_);refine wpAny_passesOwn hp (thn (hb _ s6 σ6 H6 _ I6 q6) λf s7 q7=>?_);have again:∀ {σ7:St} {H7:Hp},Inv X (pins++DM fp s5.heap) σ7 H7 s7->N σ7 H7->∃ m,m<n/\∃ i σ' H',Inv X pins σ' H' s7/\tn i s7.heap/\(∀ b∈fp,H' b=none)/\W i m σ' H':=λ{σ7 H7} I7 n7=>by
   obtain ⟨m',hm,w7⟩:=hN σ7 H7 n7;refine ⟨m',hm,i+1,σ7,H7,I7.unpinned,T.keep _ _ _ st5 λb hb o e=>(I7.pin (b,o) (mem_append_right _ (mem_append_right _ (j5 hb e)))).1,λb hb=>?_,w7⟩;obtain ⟨o,e,d⟩:=T.obj _ _ st5 b hb;exact (I7.pin (b,o) (mem_append_right _ (mem_append_right _ (j5 hb e)))).2.1
  cases f with
  |next=>obtain ⟨σ7,H7,I7,n7⟩:=q7;exact again I7 n7
  |cont=>obtain ⟨σ7,H7,I7,n7⟩:=q7;exact again I7 n7
  |brk=>obtain ⟨σ7,H7,I7,q7⟩:=q7;exact ⟨σ7,H7,I7.unpinned,q7⟩
  |ret v=>obtain ⟨x7,σ7,H7,I7,r7,q7⟩:=q7;exact ⟨x7,σ7,H7,I7.unpinned,r7,q7⟩
end
abbrev R2:=V->V->Hp->VK->Prop
def OpR (X:Cx) (f:Value->Value->Sem Value) (r:R2):Prop:=
 ∀ (pins:List (Addr×Obj)) (s:Shared) (σ:St) (H:Hp) (x y:V) (v u:Value) (Q:VK),Inv X pins σ H s->jJ x v->jJ y u->r x y H Q ->
  wpAny (model X.prog X.w) X.A (f v u) (EP X pins σ Q) X.xe s
def UnR (X:Cx) (f:Value->Sem Value) (r:V->Hp->VK->Prop):Prop:=
 ∀ (pins:List (Addr×Obj)) (s:Shared) (σ:St) (H:Hp) (x:V) (v:Value) (Q:VK),Inv X pins σ H s->jJ x v->r x H Q ->
  wpAny (model X.prog X.w) X.A (f v) (EP X pins σ Q) X.xe s
def YJ (X:Cx) (f:Value) (r:List V->Hp->VK->Prop):Prop:=
 ∀ (pins:List (Addr×Obj)) (s:Shared) (σ:St) (H:Hp) (xs:List V) (us:List Value) (Q:VK),Inv X pins σ H s->zQ xs us->r xs H Q ->
  wpAny (model X.prog X.w) X.A (call f us) (EP X pins σ Q) X.xe s
def tOp (r:R2) (ta tb:TE):TE:=λσ H Q=>ta σ H λx H1=>tb σ H1 λy H2=>r x y H2 Q
def tUn (r:V->Hp->VK->Prop) (ta:TE):TE:=λσ H Q=>ta σ H λx H1=>r x H1 Q
def rI (C:Int->Int->Prop) (g:Int->Int->V):R2:=λx y H Q=>∃ i j,x=.int i/\y=.int j/\C i j/\Q (g i j) H
def rI0 (g:Int->Int->V):R2:=λx y H Q=>∃ i j,x=.int i/\y=.int j/\Q (g i j) H
def rU (g:Int->V):V->Hp->VK->Prop:=λx H Q=>∃ i,x=.int i/\Q (g i) H
section
variable {X:Cx} {a b c:Expr} {ta tb tc:TE} {pos:Pos}
def qhF (ha:PE X a ta) (hb:PE X b tb) {pins:List (Addr×Obj)} {s:Shared} {σ:St} {H:Hp} {R:V->V->Hp->Prop} (I:Inv X pins σ H s)
  (h:ta σ H λx H1=>tb σ H1 λy H2=>R x y H2) {Q:Value->Shared->Prop} {f:Value->Value->Sem Value}
  (hf:∀ v u s2 x y H2,Inv X pins σ H2 s2->jJ x v->jJ y u->R x y H2->wpAny (model X.prog X.w) X.A (f v u) Q X.xe s2) :
  wpAny (model X.prog X.w) X.A (eval a X.env) (λv s₁=>wpAny (model X.prog X.w) X.A (eval b X.env) (λu s₂=>wpAny (model X.prog X.w) X.A (f v u) Q X.xe s₂) X.xe s₁) X.xe s:=by
 refine thn (ha pins s σ H _ I h) λv s1 ⟨x,H1,I1,r1,q1⟩=>?_;refine thn (hb pins s1 σ H1 _ I1 q1) λu s2 ⟨y,H2,I2,r2,q2⟩=>?_;exact hf v u s2 x y H2 I2 r1 r2 q2
def qiQ {op:Operator} {r:R2} (ho:OpR X (binaryOp op) r) (ha:PE X a ta) (hb:PE X b tb):PE X (.BinOp a op b pos) (tOp r ta tb):=by
 intro pins s σ H Q I h;exact wpAny_BinOp (qhF ha hb I h λv u s2 x y H2 I2 rx ry q=>ho pins s2 σ H2 x y v u Q I2 rx ry q)
def qjt {op:UnaryOp} {r:V->Hp->VK->Prop} (ho:UnR X (unaryOp op) r) (ha:PE X a ta):PE X (.UnaryOp op a pos) (tUn r ta):=by
 intro pins s σ H Q I h;exact UnaryOp_ (thn (ha pins s σ H _ I h) λv s1 ⟨x,H1,I1,r1,q1⟩=>ho pins s1 σ H1 x v Q I1 r1 q1)
def opI {f:Value->Value->Sem Value} {C:Int->Int->Prop} {g:Int->Int->Int}
  (rule:∀ (i j:Int) (t u:Tok) (s:Shared) (Q:Value->Shared->Prop) (E:Value->Shared->Prop),C i j->Q (.int (g i j) s.toks) { s with toks:=s.toks+1 }->wpAny (model X.prog X.w) X.A (f (.int i t) (.int j u)) Q E s) :
  OpR X f (rI C λi j=>.int (g i j)):=by
 intro pins s σ H x y v u Q I rx ry h;obtain ⟨i,j,rfl,rfl,hc,q⟩:=h;obtain ⟨t,rfl⟩:=rx;obtain ⟨t',rfl⟩:=ry;exact rule i j t t' s _ _ hc ⟨.int (g i j),H,I.tok _,⟨_,rfl⟩,q⟩
def qjK {f:Value->Value->Sem Value} {g:Int->Int->Int}
  (rule:∀ (i j:Int) (t u:Tok) (s:Shared) (Q:Value->Shared->Prop) (E:Value->Shared->Prop),Q (.int (g i j) s.toks) { s with toks:=s.toks+1 }->wpAny (model X.prog X.w) X.A (f (.int i t) (.int j u)) Q E s) :
  OpR X f (rI0 λi j=>.int (g i j)):=by
 intro pins s σ H x y v u Q I rx ry h;obtain ⟨i,j,rfl,rfl,q⟩:=h;obtain ⟨t,rfl⟩:=rx;obtain ⟨t',rfl⟩:=ry;exact rule i j t t' s _ _ ⟨.int (g i j),H,I.tok _,⟨_,rfl⟩,q⟩
def qho {f:Value->Value->Sem Value} {g:Int->Int->Bool}
  (rule:∀ (i j:Int) (t u:Tok) (s:Shared) (Q:Value->Shared->Prop) (E:Value->Shared->Prop),Q (.bool (g i j)) s->wpAny (model X.prog X.w) X.A (f (.int i t) (.int j u)) Q E s) :
  OpR X f (rI0 λi j=>.bl (g i j)):=by
 intro pins s σ H x y v u Q I rx ry h;obtain ⟨i,j,rfl,rfl,q⟩:=h;obtain ⟨t,rfl⟩:=rx;obtain ⟨t',rfl⟩:=ry;exact rule i j t t' s _ _ ⟨.bl (g i j),H,I,rfl,q⟩
def KC (i j:Int):Prop:=0<j/\j<1073741824
def XZ (i j:Int):Prop:=0<=j/\j<=1000000/\i.natAbs<2 ^ 64
def YO (i j:Int):Prop:=(-(2 ^ 64)<i/\i<2 ^ 64)\/(-(2 ^ 64)<j/\j<2 ^ 64)
def YO.ok {i j:Int} (h:YO i j):IntMulOk i j:=by
 rcases h with ⟨h1,h2⟩|⟨h1,h2⟩
 ·exact .of_left (intBits_le_64 h1 h2)
 ·exact .of_right (intBits_le_64 h1 h2)
def qbC:OpR X (binaryOp .Add) (rI0 λi j=>.int (i+j)):=qjK λ_ _ _ _ _ _ _ q=>add_int q
def qgG:OpR X (binaryOp .Sub) (rI0 λi j=>.int (i-j)):=qjK λ_ _ _ _ _ _ _ q=>sub_int q
def qgr:OpR X (binaryOp .Mult) (rI YO λi j=>.int (i*j)):=opI λ_ _ _ _ _ _ _ hc q=>mul_int q hc.ok
def qcZ:OpR X (binaryOp .FloorDiv) (rI KC λi j=>.int (i/j)):=opI λi j _ _ _ _ _ hc q=>by
 have h1:(0:Int)<j:=hc.1;have h2:j<1073741824:=hc.2;exact floordiv_int (by omega) (by rw [Int.fdiv_eq_ediv_of_nonneg i (by omega)];exact q) (.inl (PyProof.noPylong_small (by omega)))
def qfw:OpR X (binaryOp .Mod) (rI (λ_ j=>0<j) λi j=>.int (i%j)):=opI λi j _ _ _ _ _ hc q=>by
 have h1:(0:Int)<j:=hc;exact mod_int' (by omega) (by rw [Int.fmod_eq_emod_of_nonneg i (by omega)];exact q)
def qdX:OpR X (binaryOp .Pow) (rI XZ λi j=>.int (i ^ j.toNat)):=opI λ_ _ _ _ _ _ _ hc q=>pow_int_small hc.1 hc.2.1 hc.2.2 q
def unI {f:Value->Sem Value} {g:Int->Int}
  (rule:∀ (i:Int) (t:Tok) (s:Shared) (Q:Value->Shared->Prop) (E:Value->Shared->Prop),Q (.int (g i) s.toks) { s with toks:=s.toks+1 }->wpAny (model X.prog X.w) X.A (f (.int i t)) Q E s) :
  UnR X f (rU λi=>.int (g i)):=by
 intro pins s σ H x v Q I rx h;obtain ⟨i,rfl,q⟩:=h;obtain ⟨t,rfl⟩:=rx;exact rule i t s _ _ ⟨.int (g i),H,I.tok _,⟨_,rfl⟩,q⟩
def qdH:UnR X (unaryOp .USub) (rU λi=>.int (-i)):=unI λ_ _ _ _ _ q=>neg_int q
end
def qjv:V->V->Bool
 |.non,.non=>true|.non,.int _=>true|.int _,.non=>true|.non,.bl _=>true|.bl _,.non=>true|.non,.str _=>true|.str _,.non=>true
 |.int _,.int _=>true|.bl _,.bl _=>true|.str _,.str _=>true|.byt _,.byt _=>true
 |.int _,.str _=>true|.str _,.int _=>true|.bl _,.str _=>true|.str _,.bl _=>true
 |_,_=>false
def rEq:R2:=λx y H Q=>qjv x y=true/\Q (.bl (decide (x=y))) H
def rNe:R2:=λx y H Q=>qjv x y=true/\Q (.bl (!decide (x=y))) H
def MF {i j:Int}:decide (V.int i=V.int j)=(i==j):=by
 rw [Bool.eq_iff_iff];simp
def qbj {i j:Bool}:decide (V.bl i=V.bl j)=(i==j):=by
 rw [Bool.eq_iff_iff];simp
def K2 {i j:Str}:decide (V.str i=V.str j)=(i==j):=by
 rw [Bool.eq_iff_iff];simp
def KG {i j:Array UInt8}:decide (V.byt i=V.byt j)=(i.toList==j.toList):=by
 rw [Bool.eq_iff_iff];cases i;cases j;simp
section
variable {X:Cx} {a b c:Expr} {ta tb tc:TE} {pos:Pos}
def zb {pins:List (Addr×Obj)} {σ:St} {H:Hp} {s:Shared} {Q:VK} {k k':Bool} (I:Inv X pins σ H s) (q:Q (.bl k) H) (e:k=k'):EP X pins σ Q (.bool k') s:=by
 subst e;exact ⟨.bl k,H,I,rfl,q⟩
def qi2:OpR X (compareOp .Eq) rEq:=by
 intro pins s σ H x y v u Q I rx ry h;obtain ⟨hs,q⟩:=h;cases x with
 |non=>
  cases rx;cases y with
  |non=>cases ry;exact PySem.EqNone.eq_none_none (zb I q (by simp))
  |bl j=>cases ry;exact PySem.EqNone.eq_none_bool (zb I q (by simp))
  |int j=>obtain ⟨t',rfl⟩:=ry;exact PySem.EqNone.eq_none_int (zb I q (by simp))
  |str j=>obtain ⟨t',rfl⟩:=ry;exact PySem.EqNone.eq_none_str (zb I q (by simp))
  |_=>exact absurd (show false=true from hs) Bool.false_ne_true
 |bl i=>
  cases rx;cases y with
  |non=>cases ry;exact PySem.EqNone.eq_bool_none (zb I q (by simp))
  |bl j=>cases ry;exact eq_bool (zb I q qbj)
  |str j=>obtain ⟨t',rfl⟩:=ry;exact PySem.EqMixed.eq_bool_str (zb I q (by simp))
  |_=>exact absurd (show false=true from hs) Bool.false_ne_true
 |int i=>
  obtain ⟨t,rfl⟩:=rx;cases y with
  |non=>cases ry;exact PySem.EqNone.eq_int_none (zb I q (by simp))
  |int j=>obtain ⟨t',rfl⟩:=ry;exact eq_int (zb I q MF)
  |str j=>obtain ⟨t',rfl⟩:=ry;exact PySem.EqMixed.eq_int_str (zb I q (by simp))
  |_=>exact absurd (show false=true from hs) Bool.false_ne_true
 |str i=>
  obtain ⟨t,rfl⟩:=rx;cases y with
  |non=>cases ry;exact PySem.EqNone.eq_str_none (zb I q (by simp))
  |bl j=>cases ry;exact PySem.EqMixed.eq_str_bool (zb I q (by simp))
  |int j=>obtain ⟨t',rfl⟩:=ry;exact PySem.EqMixed.eq_str_int (zb I q (by simp))
  |str j=>obtain ⟨t',rfl⟩:=ry;exact eq_str (zb I q K2)
  |_=>exact absurd (show false=true from hs) Bool.false_ne_true
 |byt i=>
  obtain ⟨t,rfl⟩:=rx;cases y with
  |byt j=>obtain ⟨t',rfl⟩:=ry;exact PySem.W.eq_bytes (zb I q KG)
  |_=>exact absurd (show false=true from hs) Bool.false_ne_true
 |_=>cases y<;>exact absurd (show false=true from hs) Bool.false_ne_true
def qi9:OpR X (compareOp .NotEq) rNe:=by
 intro pins s σ H x y v u Q I rx ry h;obtain ⟨hs,q⟩:=h;cases x with
 |non=>
  cases rx;cases y with
  |non=>cases ry;exact PySem.EqNone.ne_none_none (zb I q (by simp))
  |bl j=>cases ry;exact PySem.EqNone.ne_none_bool (zb I q (by simp))
  |int j=>obtain ⟨t',rfl⟩:=ry;exact PySem.EqNone.ne_none_int (zb I q (by simp))
  |str j=>obtain ⟨t',rfl⟩:=ry;exact PySem.EqNone.ne_none_str (zb I q (by simp))
  |_=>exact absurd (show false=true from hs) Bool.false_ne_true
 |bl i=>
  cases rx;cases y with
  |non=>cases ry;exact PySem.EqNone.ne_bool_none (zb I q (by simp))
  |bl j=>cases ry;exact ne_bool (zb I q (congrArg not qbj))
  |str j=>obtain ⟨t',rfl⟩:=ry;exact PySem.EqMixed.ne_bool_str (zb I q (by simp))
  |_=>exact absurd (show false=true from hs) Bool.false_ne_true
 |int i=>
  obtain ⟨t,rfl⟩:=rx;cases y with
  |non=>cases ry;exact PySem.EqNone.ne_int_none (zb I q (by simp))
  |int j=>obtain ⟨t',rfl⟩:=ry;exact ne_int (zb I q (congrArg not MF))
  |str j=>obtain ⟨t',rfl⟩:=ry;exact PySem.EqMixed.ne_int_str (zb I q (by simp))
  |_=>exact absurd (show false=true from hs) Bool.false_ne_true
 |str i=>
  obtain ⟨t,rfl⟩:=rx;cases y with
  |non=>cases ry;exact PySem.EqNone.ne_str_none (zb I q (by simp))
  |bl j=>cases ry;exact PySem.EqMixed.ne_str_bool (zb I q (by simp))
  |int j=>obtain ⟨t',rfl⟩:=ry;exact PySem.EqMixed.ne_str_int (zb I q (by simp))
  |str j=>obtain ⟨t',rfl⟩:=ry;exact ne_str (zb I q (congrArg not K2))
  |_=>exact absurd (show false=true from hs) Bool.false_ne_true
 |byt i=>
  obtain ⟨t,rfl⟩:=rx;cases y with
  |byt j=>obtain ⟨t',rfl⟩:=ry;exact PySem.W.ne_bytes (zb I q (congrArg not KG))
  |_=>exact absurd (show false=true from hs) Bool.false_ne_true
 |_=>cases y<;>exact absurd (show false=true from hs) Bool.false_ne_true
def qdi:OpR X (compareOp .Lt) (rI0 λi j=>.bl (decide (i<j))):=qho λ_ _ _ _ _ _ _ q=>lt_int q
def qig:OpR X (compareOp .LtE) (rI0 λi j=>.bl (decide (i<=j))):=qho λ_ _ _ _ _ _ _ q=>le_int q
def KO:OpR X (compareOp .Gt) (rI0 λi j=>.bl (decide (j<i))):=qho λ_ _ _ _ _ _ _ q=>gt_int q
def qda:OpR X (compareOp .GtE) (rI0 λi j=>.bl (decide (j<=i))):=qho λ_ _ _ _ _ _ _ q=>ge_int q
def OpR.or {f:Value->Value->Sem Value} {r r':R2} (h:OpR X f r) (h':OpR X f r'):OpR X f (λx y H Q=>r x y H Q\/r' x y H Q):=by
 intro pins s σ H x y v u Q I rx ry q;rcases q with q|q
 ·exact h pins s σ H x y v u Q I rx ry q
 ·exact h' pins s σ H x y v u Q I rx ry q
def qK (b:Expr) {op:CmpOp} (h:op≠.In:=by decide) (h2:op≠.NotIn:=by decide):behindInMarks op b=false:=by
 have e1:(op==CmpOp.In)=false:=by cases op<;>first|rfl|exact absurd rfl h
 have e2:(op==CmpOp.NotIn)=false:=by cases op<;>first|rfl|exact absurd rfl h2
 cases b<;>simp [behindInMarks,e1,e2]
def qc9 {op:CmpOp} {r:R2} (ho:OpR X (compareOp op) r) (ha:PE X a ta) (hb:PE X b tb) (hm:behindInMarks op b=false):PE X (.Compare a [op] [b] pos) (tOp r ta tb):=by
 intro pins s σ H Q I h;exact wpAny_Compare1 (qhF ha hb I h λv u s2 x y H2 I2 rx ry q=>ho pins s2 σ H2 x y v u Q I2 rx ry q) hm
def qfg (t:TE):TT:=λσ H Q=>t σ H λx H'=>∃ k,x=.bl k/\Q k H'
def qce {op:CmpOp} {r:R2} (ho:OpR X (compareOp op) r) (ha:PE X a ta) (hb:PE X b tb) (hm:behindInMarks op b=false):PT X (.Compare a [op] [b] pos) (qfg (tOp r ta tb)):=by
 intro pins s σ H Q I h;refine wpAny_isTrue_Compare1 (thn (ha pins s σ H _ I h) λv s1 ⟨x,H1,I1,r1,q1⟩=>thn (hb pins s1 σ H1 _ I1 q1) λu s2 ⟨y,H2,I2,r2,q2⟩=>
  thn (ho pins s2 σ H2 x y v u _ I2 r1 r2 q2) λc s3 ⟨z,H3,I3,r3,k,e,q3⟩=>?_) hm
 subst e;cases r3;exact wpAny_truthy_bool ⟨H3,I3,q3⟩
def XX:(sizeLine:Nat)<2 ^ 63:=by rw [sizeLine_eq];decide
def TK:OpR X (binaryOp .Add) (λx y H Q=>∃ i j,x=.str i/\y=.str j/\i.length+j.length<=sizeLine/\Q (.str (i++j)) H):=by
 intro pins s σ H x y v u Q I rx ry h;obtain ⟨i,j,rfl,rfl,hz,q⟩:=h;obtain ⟨t,rfl⟩:=rx;obtain ⟨t',rfl⟩:=ry;exact add_str (λt' tk=>⟨.str (i++j),H,I.tok _,⟨_,rfl⟩,q⟩) hz
def RH {x:V} {us:List Value} (r:zQ [x] us):∃ u,us=[u]/\jJ x u:=by
 cases r with
 |cons r1 r2=>cases r2;exact ⟨_,rfl,r1⟩
def qdS {x y:V} {us:List Value} (r:zQ [x,y] us):∃ u w',us=[u,w']/\jJ x u/\jJ y w':=by
 cases r with
 |cons r1 r2=>
  cases r2 with
  |cons r3 r4=>cases r4;exact ⟨_,_,rfl,r1,r3⟩
def RT:YJ X (.builtin "abs") (λxs H Q=>∃ i,xs=[.int i]/\Q (.int (if i<0 then -i else i)) H):=by
 intro pins s σ H xs us Q I r h;obtain ⟨i,rfl,q⟩:=h;obtain ⟨u,rfl,t,rfl⟩:=RH r;exact call_abs_int λu tk=>⟨.int (if i<0 then -i else i),H,I.tok _,⟨_,rfl⟩,q⟩
def KT (hc:X.calm=true):YJ X (.builtin "min") (λxs H Q=>∃ i j,xs=[.int i,.int j]/\Q (.int (if j<i then j else i)) H):=by
 intro pins s σ H xs us Q I r h;obtain ⟨i,j,rfl,q⟩:=h;obtain ⟨u,w',rfl,⟨t,rfl⟩,⟨t',rfl⟩⟩:=qdS r;refine min_two_ints (I.ok.hd hc) λh' tk k=>⟨_,H,I.kept k,?_,q⟩
 by_cases hj:j<i
 ·rw [if_pos hj,if_pos hj];exact ⟨_,rfl⟩
 ·rw [if_neg hj,if_neg hj];exact ⟨_,rfl⟩
def qkk (K:Frg) (x:V) (H:Hp) (n:Nat):Prop:=
 match x with
 |.str y=>y.length<=sizeLine/\n=y.length
 |.byt y=>y.size<=sizeLine/\n=y.size
 |.ref p=>(∃ xs,SqL K H p xs/\n=xs.length)\/∃ xs,SqT K H p xs/\n=xs.length
 |_=>False
def zH:YJ X (.builtin "len") (λxs H Q=>∃ x n,xs=[x]/\qkk X.K x H n/\Q (.int n) H):=by
 intro pins s σ H xs us Q I r h;obtain ⟨x,n,rfl,e,q⟩:=h;obtain ⟨u,rfl,rx⟩:=RH r;have hl:=XX;have hs:sizeLine=16777216:=sizeLine_eq;cases x with
 |str y=>
  obtain ⟨t,rfl⟩:=rx;obtain ⟨hy,e'⟩:y.length<=sizeLine/\n=y.length:=e;subst e';exact len_str (by omega) ⟨.int _,H,I.tok _,⟨_,rfl⟩,q⟩
 |byt y=>
  obtain ⟨t,rfl⟩:=rx;obtain ⟨hy,e'⟩:y.size<=sizeLine/\n=y.size:=e;subst e';exact PySem.W.len_bytes (by omega) ⟨.int _,H,I.tok _,⟨_,rfl⟩,q⟩
 |ref p=>
  cases rx;have e':(∃ xs,SqL X.K H p xs/\n=xs.length)\/∃ xs,SqT X.K H p xs/\n=xs.length:=e;rcases e' with ⟨xs,hx,e'⟩|⟨xs,hx,e'⟩
  ·subst e';obtain ⟨its,r',pl,hz⟩:=I.list hx;have hlen:=r'.length;exact Calls.call_len_list pl.isList (by simp only [size_toArray];omega) ⟨.int xs.length,H,I.tok _,⟨_,by simp only [size_toArray];rw [hlen]⟩,q⟩
  ·subst e';obtain ⟨its,r',pl,hz⟩:=I.tuple hx;have hlen:=r'.length;exact len_tuple pl (by simp only [size_toArray];omega) ⟨.int xs.length,H,I.tok _,⟨_,by simp only [size_toArray];rw [hlen]⟩,q⟩
 |_=>exact (show False from e).elim
end
section
variable {prog:Program} {w:World} {A:Around} {E:Value->Shared->Prop} {s:Shared} {K:Frg} {x dx C f:Addr} {mA:Str->Option Value} {name:Str} {v:Value}
end
section
variable {P:Program} {w:World} {H H':Hp} {h h':Heap} {a C dx:Addr} {fs fs':List (Str×V)}
end
section
variable {X:Cx} {pins:List (Addr×Obj)} {σ:St} {H:Hp} {s:Shared} {a C dx:Addr} {fs:List (Str×V)} {f:Str} {v:V} {A:Around} {E:Value->Shared->Prop}
end
section
variable {X:Cx} {o e value:Expr} {f:Str} {pos pos' tpos:Pos} {ta tv:TE}
end
section
variable {X:Cx} {pins:List (Addr×Obj)} {σ:St} {H:Hp} {s:Shared} {A:Around} {E:Value->Shared->Prop} {Q:Value->Shared->Prop} {c:Value} {b:Bool}
end
structure Room (k:Nat) (A:Around):Prop where
 hd:A.handled=none
 dp:A.depth+3*k+5<recursionLimit
 un:A.units+16*k+200<cLine
 gd:A.guards=some []
def Room.mono {j k:Nat} {A:Around} (r:Room k A) (h:j<=k):Room j A:=⟨r.hd,by have:=r.dp;omega,by have:=r.un;omega,r.gd⟩
def Room.deeper {k:Nat} {A:Around} (r:Room (k+1) A) (env:Env):Room k (A.deeper env):=
 ⟨r.hd,by have:=r.dp;show A.depth+1+3*k+5<_;omega,by have:=r.un;show A.units+3+16*k+200<_;omega,r.gd⟩
def Room.in1 {k:Nat} {A:Around} (r:Room (k+1) A):Room k A.in1:=
 ⟨r.hd,by have:=r.dp;show A.depth+3*k+5<_;omega,by have:=r.un;show A.units+1+16*k+200<_;omega,r.gd⟩
def Room.depth {k:Nat} {A:Around} (r:Room k A):A.depth<recursionLimit:=by have:=r.dp;omega
def Room.units {k:Nat} {A:Around} (r:Room k A):A.units+64<cLine:=by have:=r.un;omega
def qkq:TA:=λ_ H Q=>Q [] H
def qhR (ta:TE) (tr:TA):TA:=λσ H Q=>ta σ H λx H1=>tr σ H1 λxs H2=>Q (x::xs) H2
section
variable {X:Cx} {e:Expr} {es:List Expr} {te:TE} {t:TA} {pos:Pos}
def qbF:PA X [] qkq:=λ_ _ _ _ H Q I h=>Calls.spliced_nil ⟨[],H,I,.nil,h⟩
def RM (ha:PE X e te) (hr:PA X es t) (hs:starEach (e::es) X.env=(false,eval e X.env)::starEach es X.env:=by rfl):PA X (e::es) (qhR te t):=by
 intro pos pins s σ H Q I h;rw [hs];show wpAny _ _ (spliced ((false,eval e X.env)::backTo pos (starEach es X.env))) _ _ s;refine Calls.spliced_cons (thn (ha pins s σ H _ I h) λu s1 ⟨x,H1,I1,r1,q1⟩=>?_);exact thn (hr pos pins s1 σ H1 _ I1 q1) λus s2 ⟨xs,H2,I2,r2,q2⟩=>⟨x::xs,H2,I2,.cons r1 r2,q2⟩
def qkC (t:TA):TE:=λσ H Q=>t σ H λxs H1=>xs.length<=sizeLine/\∀ p,H1 p=none->Q (.ref p) (upd H1 p (.tup xs))
def qkS (t:TA):TE:=λσ H Q=>t σ H λxs H1=>xs.length<=sizeLine/\∀ p,H1 p=none->Q (.ref p) (upd H1 p (.lst xs))
def qfm {x1} (h:PA X es t):PE X (.Tuple es x1 pos) (qkC t):=by
 intro pins s σ H Q I hq;refine wpAny_Tuple_spliced (thn (h pos pins s σ H _ I hq) λus s1 ⟨xs,H1,I1,r,z,q⟩=>⟨by rw [← r.length];exact z,?_⟩);have hf:H1 s1.heap.objs.size=none:=I1.hok.fresh (Nat.le_refl _);refine ⟨.ref s1.heap.objs.size,upd H1 s1.heap.objs.size (.tup xs),I1.laid (t':=s1.toks) (λb u e=>Heap.get?_push_of_some _ e) (Nat.le_refl _) ?_,rfl,q _ hf⟩;exact ⟨z,us,r,⟨_,Heap.get?_push_size _ rfl,rfl,_,rfl⟩⟩
def qfU (h:PA X es t):PE X (.List es pos) (qkS t):=by
 intro pins s σ H Q I hq;refine wpAny_List_spliced (thn (h pos pins s σ H _ I hq) λus s1 ⟨xs,H1,I1,r,z,q⟩=>⟨by rw [← r.length];exact z,?_⟩);have hf:H1 s1.heap.objs.size=none:=I1.hok.fresh (Nat.le_refl _);refine ⟨.ref s1.heap.objs.size,upd H1 s1.heap.objs.size (.lst xs),I1.laid (t':=s1.toks) (λb u e=>Heap.get?_push_of_some _ e) (Nat.le_refl _) ?_,rfl,q _ hf⟩;exact ⟨z,us,0,r,Heap.get?_push_size _ rfl⟩
end
abbrev Sp:=List V->Hp->VK->XK->Prop
abbrev CXT:=List Env->Hp->Shared->XK->Value->Shared->Prop
structure Env0 (P:Program) (w:World) (K:Frg) (mg:Str->Option Value) (base:Heap) (A:Around) (outer:List Env) (s:Shared) (H:Hp):Prop where
 frames:A.frames=some outer
 mod:Mod K mg base
 bs:∀ b o,base.get? b=some o->s.heap.get? b=some o/\H b=none
 bsz:base.objs.size<=s.heap.objs.size
 funs:s.heap.FunFrames base outer
 frf:∀ b∈frs outer,H b=none
 hok:HOk P w H s.heap
 bare:AllBare s.gens
def CE (outer:List Env) (P:Program) (w:World) (H:Hp) (s:Shared) (Q:VK) (u:Value) (s':Shared):Prop:=
 ∃ v H',s'.os=s.os/\AllBare s'.gens/\Un (frs outer) [] H H' s.heap s'.heap/\HOk P w H' s'.heap/\jJ v u/\Q v H'
def CR (CX:CXT) (outer:List Env) (P:Program) (w:World) (H:Hp) (s:Shared) (Q:VK) (E:XK) (r:Result) (s':Shared):Prop:=
 match r with
 |.ok (.ret u)=>CE outer P w H s Q u s'
 |.ok _=>False
 |.error e=>CX outer H s E e s'
structure FnOk (P:Program) (w:World) (K:Frg) (mg:Str->Option Value) (base:Heap) (CX:CXT) (k:Nat) (f:Addr) (fd:FuncData) (ps:List Str) (sp:Sp):Prop where
 len:∀ vs H Q E,sp vs H Q E->vs.length=ps.length
 run:∀ (A:Around) (outer:List Env) (s:Shared) (H:Hp) (args:Args) (us:List Value) (vs:List V) (Q:VK) (E:XK),Room k A->Env0 P w K mg base A outer s H->BindsTo s fd args (ps.zip us)->zQ vs us->sp vs H Q E ->
  codeAny (model P w) A (.call (.ref f) args) (CR CX outer P w H s Q E) s
def FnOk.mono {P:Program} {w:World} {K:Frg} {mg:Str->Option Value} {base:Heap} {CX:CXT} {j k:Nat} {f:Addr} {fd:FuncData} {ps:List Str} {sp:Sp} (F:FnOk P w K mg base CX j f fd ps sp) (h:j<=k) :
  FnOk P w K mg base CX k f fd ps sp:=⟨F.len,λA outer s H args us vs Q E hr=>F.run A outer s H args us vs Q E (hr.mono h)⟩
def FnOk.imp {P:Program} {w:World} {K:Frg} {mg:Str->Option Value} {base:Heap} {CX:CXT} {k:Nat} {f:Addr} {fd:FuncData} {ps:List Str} {sp sp':Sp} (F:FnOk P w K mg base CX k f fd ps sp)
  (h:∀ vs H Q E,sp' vs H Q E->sp vs H Q E):FnOk P w K mg base CX k f fd ps sp':=
 ⟨λvs H Q E q=>F.len vs H Q E (h _ _ _ _ q),λA outer s H args us vs Q E hr he hb hv hs=>F.run A outer s H args us vs Q E hr he hb hv (h _ _ _ _ hs)⟩
def Env0.in1 {P:Program} {w:World} {K:Frg} {mg:Str->Option Value} {base:Heap} {A:Around} {outer:List Env} {s:Shared} {H:Hp} (e:Env0 P w K mg base A outer s H) :
  Env0 P w K mg base A.in1 outer s H:=⟨e.frames,e.mod,e.bs,e.bsz,e.funs,e.frf,e.hok,e.bare⟩
section
variable {X:Cx} {pins:List (Addr×Obj)} {σ:St} {H:Hp} {s s':Shared}
def Inv.env0 (I:Inv X pins σ H s):Env0 X.prog X.w X.K X.mg X.base X.A X.stack s H:=
 ⟨I.ok.frames,I.ok.mod,I.bs,Nat.le_trans I.ok.bsz I.sz,I.stack,I.stkFree,I.hok,I.bare⟩
def Inv.after {Q:VK} {u:Value} (I:Inv X pins σ H s) (h:CE X.stack X.prog X.w H s Q u s'):EP X pins σ Q u s':=by
 obtain ⟨v,H',os,bare,un,hok,r,q⟩:=h;obtain ⟨hh,g,d,t,os'⟩:=s';obtain rfl:os'=s.os:=os;exact ⟨v,H',I.call (h':=hh) (g':=g) (d':=d) (t':=t) (ch:=[]) un hok bare (λb z=>absurd z (by simp)),r,q⟩
end
def qhJ (sp:Sp) (dvs:List V) (E:XK) (t:TA):TE:=λσ H Q=>t σ H λvs H1=>sp (vs++dvs) H1 Q E
def zP (K:Frg) (fd:FuncData) (ps:List Str) (ds:List Value):Prop:=
 ∀ (s:Shared) (us:List Value),K.In s.heap->(us++ds).length=ps.length->BindsTo s fd ⟨us,[]⟩ (ps.zip (us++ds))
def zP.all {K:Frg} {fd:FuncData} {ps:List Str} (h:∀ us:List Value,us.length=ps.length->bindArgs fd ⟨us,[]⟩=pure (ps.zip us)):zP K fd ps []:=λs us _ hl=>by
 rw [List.append_nil] at hl ⊢;exact .of_eq (h us hl)
def MB (CX:CXT) (X:Cx) (E:XK):Prop:=∀ (pins:List (Addr×Obj)) (σ:St) (H:Hp) (s:Shared) (e:Value) (s':Shared),Inv X pins σ H s->CX X.stack H s E e s'->X.xe e s'
section
variable {X:Cx} {CX:CXT} {k:Nat} {f C:Addr} {fd:FuncData} {ps:List Str} {sp:Sp} {dvs:List V} {ds:List Value} {E:XK} {x m:Str} {p pos apos:Pos} {e o:Expr} {es:List Expr} {ta:TE} {t:TA}
def qe1 {pins:List (Addr×Obj)} {σ:St} {H:Hp} {s:Shared} {Q:VK} {us:List Value} {vs:List V} (F:FnOk X.prog X.w X.K X.mg X.base CX k f fd ps sp) (hr:Room k X.A) (hb:zP X.K fd ps ds) (hd:zQ dvs ds) (hx:MB CX X E)
  (I:Inv X pins σ H s) (r:zQ vs us) (h:sp (vs++dvs) H Q E):wpAny (model X.prog X.w) X.A (call (.ref f) us) (EP X pins σ Q) X.xe s:=by
 have r2:zQ (vs++dvs) (us++ds):=r.append hd;have hl:(us++ds).length=ps.length:=by rw [← r2.length];exact F.len _ _ _ _ h
 refine wpAny_call (codeAny_mono (F.run X.A X.stack s H ⟨us,[]⟩ (us++ds) (vs++dvs) Q E hr I.env0 (hb s us I.kIn hl) r2 h) λr s' hq=>?_);cases r with
 |error e=>exact hx pins σ H s e s' I hq
 |ok fl=>
  cases fl with
  |ret u=>exact I.after hq
  |next=>exact False.elim hq
  |brk=>exact False.elim hq
  |cont=>exact False.elim hq
def qcB (F:FnOk X.prog X.w X.K X.mg X.base CX k f fd ps sp) (hr:Room k X.A) (hg:Gl X x) (hm:X.mg x=some (.ref f)) (hk:PySem.W.keepIn X.K (.ref f)=true) (hb:zP X.K fd ps ds) (hd:zQ dvs ds) (hx:MB CX X E)
  (ha:PA X (e::es) t) (hdb:(x==("__debug__" : Str))=false:=by decide) (he:starEach (e::es) X.env=(false,eval e X.env)::starEach es X.env:=by rfl) (hpl:(backTo pos (starEach es X.env)).any (·.1)=false:=by rfl) :
  PE X (.Call (.Name x p) (e::es) [] pos) (qhJ sp dvs E t):=by
 intro pins s σ H Q I h;refine wpAny_Call_Name_kw (qb1 I hg hm ?_ hdb);refine PySem.W.callWith_K (h₀:=X.base) I.ok.mod.kin hk (thn (ha pos pins s σ H _ I h) λus s1 ⟨vs,H1,I1,r,q⟩=>⟨I1.kIn,?_⟩) he hpl;exact qe1 F hr hb hd hx I1 r q
end
section
variable {X:Cx} {CX:CXT} {k:Nat} {f C:Addr} {fd:FuncData} {ps ks:List Str} {sp:Sp} {E:XK} {x m:Str} {p pos apos kpos:Pos} {e o:Expr} {es:List Expr} {kws:List Keyword} {te ta:TE} {t tk:TA} {nm:Option Str}
variable {g:List Value->List Value->List Value} {gV:List V->List V->List V}
end
structure FnScope (N P:List Str) (sc:Scope):Prop where
 kind:sc.kind=.function
 co:sc.isCoroutine=false
 gen:sc.isGenerator=false
 nd:N.Nodup
 pre:N.take P.length=P
 par:∀ x∈P,sc.names.lookup x=some .local\/sc.names.lookup x=some .cell
 nofree:∀ y∈sc.names,y.2≠.free
def CH {kindOf:Str->Option NameKind} {x:Str}:∀ {binds:List (Str×Value)} {m:Str->Option Value},(∀ v,(x,v)∉binds)->bindL kindOf binds m x=m x
 |[],_,_=>rfl
 | (n,v)::r,m,h=>by
  unfold bindL;rw [CH λw hw=>h w (List.mem_cons_of_mem _ hw)];split
  ·have:x≠n:=by rintro rfl;exact h v List.mem_cons_self
   simp [this]
  ·rfl
def XM {kindOf:Str->Option NameKind} {x:Str}:∀ {binds:List (Str×Value)} {m:Str->Option Value},(∀ v,(x,v)∉binds)->bindC kindOf binds m x=m x
 |[],_,_=>rfl
 | (n,v)::r,m,h=>by
  unfold bindC;rw [XM λw hw=>h w (List.mem_cons_of_mem _ hw)];split
  ·rfl
  ·have:x≠n:=by rintro rfl;exact h v List.mem_cons_self
   simp [this]
def CA {kindOf:Str->Option NameKind} {x:Str} {v:Value}:∀ {P:List Str} {vs:List Value} {i:Nat} {m:Str->Option Value},P.Nodup->P[i]?=some x->vs[i]?=some v->kindOf x=some .local ->
  bindL kindOf (P.zip vs) m x=some v
 |[],_,_,_,_,h,_,_=>by simp at h
 |_::_,[],_,_,_,_,h,_=>by simp at h
 |p::P,w::vs,0,m,nd,h1,h2,hk=>by
  simp at h1 h2;subst h1;subst h2;show bindL kindOf ((p,w)::P.zip vs) m p=_;unfold bindL;rw [CH λv hv=>(List.nodup_cons.mp nd).1 (List.of_mem_zip hv).1,if_pos hk];simp
 |p::P,w::vs,i+1,m,nd,h1,h2,hk=>by
  show bindL kindOf ((p,w)::P.zip vs) m x=_;unfold bindL;exact CA (i:=i) (List.nodup_cons.mp nd).2 (by simpa using h1) (by simpa using h2) hk
def X9 {kindOf:Str->Option NameKind} {x:Str} {v:Value}:∀ {P:List Str} {vs:List Value} {i:Nat} {m:Str->Option Value},P.Nodup->P[i]?=some x->vs[i]?=some v->kindOf x≠some .local ->
  bindC kindOf (P.zip vs) m x=some v
 |[],_,_,_,_,h,_,_=>by simp at h
 |_::_,[],_,_,_,_,h,_=>by simp at h
 |p::P,w::vs,0,m,nd,h1,h2,hk=>by
  simp at h1 h2;subst h1;subst h2;show bindC kindOf ((p,w)::P.zip vs) m p=_;unfold bindC;rw [XM λv hv=>(List.nodup_cons.mp nd).1 (List.of_mem_zip hv).1,if_neg hk];simp
 |p::P,w::vs,i+1,m,nd,h1,h2,hk=>by
  show bindC kindOf ((p,w)::P.zip vs) m x=_;unfold bindC;exact X9 (i:=i) (List.nodup_cons.mp nd).2 (by simpa using h1) (by simpa using h2) hk
def UN (N:List Str) (vs:List V):St:=vs.map some++List.replicate (N.length-vs.length) none
def MV (CX:CXT) (P:Program) (w:World) (K:Frg) (mg:Str->Option Value) (base:Heap) (N:List Str) (qual:Str) (scope:Scope) (f:Addr) (cd:Value) (A:Around) (outer:List Env) (s:Shared) (H:Hp) (E:XK):Cx where
 prog:=P
 w:=w
 K:=K
 mg:=mg
 base:=base
 A:=A.deeper (envOfC qual scope s.heap.objs.size f cd)
 N:=N
 s₀:=s
 H₀:=H
 env:=envOfC qual scope s.heap.objs.size f cd
 outer:=outer
 stack:=envOfC qual scope s.heap.objs.size f cd::outer
 ex:=[]
 calm:=true
 fn:=λ_=>true
 pn:=[]
 xe:=λe s'=>wpAny (model P w) (A.deeper (envOfC qual scope s.heap.objs.size f cd)) (leaving (envOfC qual scope s.heap.objs.size f cd) e) (λ_ s''=>CX outer H s E e s'') (λe' s''=>CX outer H s E e' s'') s'
def SO {sc:Scope} {n:Nat} {x:Str} (h:sc.names.lookup x=some .cell):∃ c,(cellsFrom n sc.names []).lookup x=some c:=by
 have q:=PySem.W.cellsFrom_some sc.names n [] (.inl h);exact Option.isSome_iff_exists.mp q
def MR {CX:CXT} {P:Program} {w:World} {K:Frg} {mg:Str->Option Value} {base:Heap} {N ps:List Str} {qual:Str} {scope:Scope} {f:Addr} {cd:Value} {A:Around} {outer:List Env} {s s1:Shared} {H:Hp} {E:XK} {us:List Value} {vs:List V}
  (S:FnScope N ps scope) (hd:A.handled=none) (e0:Env0 P w K mg base A outer s H) (hl:vs.length=ps.length) (r:zQ vs us)
  (x:InCallC s s.heap.objs.size (bindL (envOfC qual scope s.heap.objs.size f cd).kindOf (ps.zip us) λ_=>none) (cellsFrom (s.heap.objs.size+1) scope.names []) (bindC (envOfC qual scope s.heap.objs.size f cd).kindOf (ps.zip us) λ_=>none) s1) :
  Inv (MV CX P w K mg base N qual scope f cd A outer s H E) [] (UN N vs) H s1:=by
 have hpl:ps.length<=N.length:=by have:=congrArg List.length S.pre;rw [List.length_take] at this;omega
 obtain ⟨h1,tk,rfl,hk⟩:=x.done;have noA:∀ b:Addr,b∉(MV CX P w K mg base N qual scope f cd A outer s H E).ex:=λb z=>absurd (show b∈([]:List Addr) from z) (by simp);refine ⟨⟨e0.mod,S.kind,rfl,rfl,Nat.le_refl _,λy z c h1 h2=>?_,λy hy=>?_,λy c _ h=>?_,λ_=>hd,Around.frames_deeper e0.frames,.inr ⟨rfl,rfl⟩,λb z=>absurd z (noA b),e0.bs,e0.bsz,λb _ _=>noA b,λb z=>absurd z (noA b),e0.funs,e0.frf⟩,
  rfl,e0.bare,Un.kept hk,⟨_,x.toInCall.ns,λi y v h1 h2 h3=>?_⟩,λy c h=>⟨_,x.cell y c h⟩,e0.hok.fresh (Nat.le_refl _),λy c h=>?_,λp hp=>absurd (show p∈([]:List (Addr×Obj)) from hp) (by simp),e0.hok.kept hk,?_⟩
 ·exact name_of_addr x.apart (PySem.mem_of_lookup h1) (PySem.mem_of_lookup h2)
 ·have hy:scope.names.lookup y=some .cell\/scope.names.lookup y=some .free:=hy;rcases hy with hy|hy
  ·exact SO hy
  ·exact absurd rfl (S.nofree _ (PySem.mem_of_lookup hy))
 ·exact Nat.le_of_lt (x.above y c (PySem.mem_of_lookup h))
 ·have hi:i<vs.length:=by
   unfold UN at h2;by_cases hi:i<vs.length
   ·exact hi
   ·rw [List.getElem?_append_right (by simpa using hi)] at h2;rw [List.getElem?_replicate] at h2;split at h2<;>cases h2
  have ha:vs[i]?=some v:=by
   unfold UN at h2;rw [List.getElem?_append_left (by simpa using hi),getElem?_map] at h2;cases e:vs[i]? with
   |none=>rw [e] at h2;cases h2
   |some a=>rw [e] at h2;cases h2;rfl
  obtain ⟨u,hu,rv⟩:=r.get ha;have hp:ps[i]?=some y:=by
   rw [← S.pre,List.getElem?_take_of_lt (by omega)];exact h1
  have ndP:ps.Nodup:=by rw [← S.pre];exact S.nd.sublist (List.take_sublist _ _)
  refine ⟨u,rv,?_⟩;rcases S.par y (mem_of_getElem? hp) with k|k
  ·exact .inl ⟨k,CA ndP hp hu k⟩
  ·obtain ⟨c,e⟩:=SO (n:=s.heap.objs.size+1) k;refine .inr ⟨.inl k,c,e,?_⟩;have q:=x.cell y c e;rw [X9 ndP hp hu (by show scope.names.lookup y≠_;rw [k];decide)] at q;exact q
 ·exact e0.hok.fresh (Nat.le_of_lt (x.above y c (PySem.mem_of_lookup h)))
 ·unfold UN;show _=N.length;rw [length_append,length_map,List.length_replicate];omega
def qi7 {CX:CXT} {P:Program} {w:World} {K:Frg} {mg:Str->Option Value} {base:Heap} {k:Nat} {f:Addr} {name qual:Str} {params:Arguments} {body:List Stmt} {scope:Scope} {dV kV doc pm cdv ct oc:Value} {an od:Option Addr}
  {osl:Array (Option Value)} {N ps:List Str} {sp:Sp} (lk:K.lookup f=some ⟨oc,od,.func (PySem.W.fnOf name qual params body scope dV kV doc pm an cdv ct),osl⟩) (hcd:PySem.W.codeIn K cdv qual=true) (S:FnScope N ps scope)
  (len:∀ vs H Q E,sp vs H Q E->vs.length=ps.length)
  (hbody:∀ (A:Around) (outer:List Env) (s:Shared) (H:Hp) (vs:List V) (Q:VK) (E:XK),Room k (A.deeper (envOfC qual scope s.heap.objs.size f cdv))->sp vs H Q E ->
   ∃ t,PSs (MV CX P w K mg base N qual scope f cdv A outer s H E) body t/\t { nx:=λ_ H'=>Q .non H',rt:=Q } (UN N vs) H) :
  FnOk P w K mg base CX (k+1) f (PySem.W.fnOf name qual params body scope dV kV doc pm an cdv ct) ps sp:=by
 refine ⟨len,λA outer s H args us vs Q E hr e0 hb r hsp=>?_⟩;have hl:=len _ _ _ _ hsp;have KX:K.In s.heap:=e0.mod.kin.keeps λb o e=>(e0.bs b o e).1;have lim:s.heap.NoLimit:=e0.mod.nolimit.keeps λb o e=>(e0.bs b o e).1;have hkind:∀ y∈ps.zip us,scope.names.lookup y.1=some .local\/(scope.names.lookup y.1=some .cell/\((cellsFrom (s.heap.objs.size+1) scope.names []).lookup y.1).isSome=true):=λ⟨n,v⟩ hy=>by
  rcases S.par n (List.of_mem_zip hy).1 with q|q
  ·exact .inl q
  ·exact .inr ⟨q,PySem.W.cellsFrom_some _ _ _ (.inl q)⟩
 refine codeAny_call_function hr.depth (KX _ _ lk) rfl S.co S.gen rfl (PySem.W.codeRec_of KX hcd) (hb _ _ _ _ ?_);refine wpAny_newFunctionEnv_cells S.kind hkind λenv he s1 x=>?_;subst he;refine ⟨lim.keeps x.toInCall.keep,codeAny_func ?_⟩;obtain ⟨t,ht,hq⟩:=hbody A outer s H vs Q E (hr.deeper _) hsp;have I:Inv (MV CX P w K mg base N qual scope f cdv A outer s H E) [] (UN N vs) H s1:=MR S hr.hd e0 hl r x;refine wpAny_mono (ht [] s1 (UN N vs) H _ I hq) (λfl s' hs=>?_) λe s' hs=>hs;have fin:∀ {σ':St} {H':Hp} {v:V} {u:Value},Inv (MV CX P w K mg base N qual scope f cdv A outer s H E) [] σ' H' s'->jJ v u->Q v H'->CE outer P w H s Q u s':=
  λ{σ' H' v u} J rv q=>⟨v,H',J.os,J.bare,J.base,J.hok,rv,q⟩
 cases fl with
 |ret u=>
  obtain ⟨v,σ',H',J,rv,q⟩:=hs;exact fin J rv q
 |next=>
  obtain ⟨σ',H',J,q⟩:=hs;exact fin (v:=V.non) (u:=Value.none) J rfl q
 |brk=>
  obtain ⟨_,_,_,q⟩:=hs;exact False.elim q
 |cont=>
  obtain ⟨_,_,_,q⟩:=hs;exact False.elim q
section
variable {X:Cx} {x:Str} {p pos:Pos} {e:Expr} {es:List Expr} {t:TA} {id T:String} {r:List V->Hp->VK->Prop}
def tCB (r:List V->Hp->VK->Prop) (t:TA):TE:=λσ H Q=>t σ H λvs H1=>r vs H1 Q
def RZ (hc:YJ X (.builtin id) r) (hg:Gl X x) (hm:X.mg x=none) (hv:bootBuiltins x=some (.builtin id)) (ha:PA X (e::es) t) (hn:x≠"__name__" := by decide) (hdb:(x==("__debug__" : Str))=false:=by decide)
  (he:starEach (e::es) X.env=(false,eval e X.env)::starEach es X.env:=by rfl) (hpl:(backTo pos (starEach es X.env)).any (·.1)=false:=by rfl):PE X (.Call (.Name x p) (e::es) [] pos) (tCB r t):=by
 intro pins s σ H Q I h;refine wpAny_Call_Name_kw (SB I hg hm hv ?_ hn hdb);exact PyProof.Rows.callWith_builtin1 (thn (ha pos pins s σ H _ I h) λus s1 ⟨vs,H1,I1,r1,q1⟩=>hc pins s1 σ H1 vs us Q I1 r1 q1) he hpl
def MH (hc:YJ X (.type T) r) (hg:Gl X x) (hm:X.mg x=none) (hv:bootBuiltins x=some (.type T)) (ha:PA X (e::es) t) (hn:x≠"__name__" := by decide) (hdb:(x==("__debug__" : Str))=false:=by decide)
  (he:starEach (e::es) X.env=(false,eval e X.env)::starEach es X.env:=by rfl) (hpl:(backTo pos (starEach es X.env)).any (·.1)=false:=by rfl):PE X (.Call (.Name x p) (e::es) [] pos) (tCB r t):=by
 intro pins s σ H Q I h;refine wpAny_Call_Name_kw (SB I hg hm hv ?_ hn hdb);exact PyProof.Rows.callWith_type1 (thn (ha pos pins s σ H _ I h) λus s1 ⟨vs,H1,I1,r1,q1⟩=>hc pins s1 σ H1 vs us Q I1 r1 q1) he hpl
end
end L2
namespace HT
open PySem PyProof.Rows
section
open PySem.SeqAt
open PySem.MeetsSeq PySem.MeetsSeq2 PySem.MeetsSeq3
end
section
variable {prog:Program} {w:World} {A:Around} {E:Value->Shared->Prop} {s:Shared}
def qdb {t b:Addr} {vs ws:List Value} {Q:Value->Shared->Prop} (ht:IsTup s.heap t vs.toArray) (hb:IsTup s.heap b ws.toArray) (hv:vs≠[])
  (h1:ws=[]->Q (.ref t) s) (h2:ws≠[]->Q (.ref s.heap.objs.size) { s with heap:=s.heap.push { cls:=.type "tuple",data:=.seq (vs++ws).toArray } })
  (hsz:vs.length+ws.length<=sizeLine):wpAny (model prog w) A (binaryOp .Add (.ref t) (.ref b)) Q E s:=by
 obtain ⟨⟨cls,dd,data,sl⟩,ho,hc,n,hd⟩:=id ht;obtain ⟨⟨cls2,dd2,data2,sl2⟩,ho2,hc2,n2,hd2⟩:=id hb;simp only at hc hd hc2 hd2;subst hc hd hc2 hd2;have e:vs.toArray++ws.toArray=(vs++ws).toArray:=by simp
 by_cases hw:ws=[]
 ·exact concat_meets ⟨_,ho,rfl⟩ ⟨_,ho2,rfl⟩ noFill_tuple_add seq_tuple_add PySem.F.slot_tuple_add PySem.F.entry_tuple_add (PySem.F.args_tuple_add_2 _ _)
   (tuple_addW1 t b vs.toArray ws.toArray n n2 dd dd2 sl sl2 (by simpa using hv) (by simp [hw])) ⟨ho,ho2,h1 hw⟩
 ·refine concat_meets ⟨_,ho,rfl⟩ ⟨_,ho2,rfl⟩ noFill_tuple_add seq_tuple_add PySem.F.slot_tuple_add PySem.F.entry_tuple_add (PySem.F.args_tuple_add_2 _ _)
   (tuple_addW2 t b vs.toArray ws.toArray n n2 dd dd2 sl sl2 (by simpa using hv) (by simpa using hw) (by rw [size_toArray,size_toArray];exact hsz)) ⟨ho,ho2,?_⟩
  rw [e];exact h2 hw
def sIx (n d:Nat):Option Int->Nat
 |none=>d
 |some v=>if v<0 then (v+(n:Int)).toNat else min v.toNat n
def SE (n d:Nat):sIx n d none=d:=rfl
def MG (n d k:Nat):sIx n d (some (k:Int))=min k n:=by
 show (if (k:Int)<0 then ((k:Int)+(n:Int)).toNat else min (k:Int).toNat n)=min k n;rw [if_neg (by omega),Int.toNat_natCast]
def qdG (n d:Nat) (hd:d<=n) (o:Option Int):sIx n d o<=n:=by
 cases o with
 |none=>exact hd
 |some v=>
  show (if v<0 then (v+(n:Int)).toNat else min v.toNat n)<=n;by_cases hv:v<0
  ·rw [if_pos hv];omega
  ·rw [if_neg hv];exact Nat.min_le_right _ _
def MC (v:Int) (n d:Nat):(if v<0 then max (v+(n:Int)) 0 else min v (n:Int))=((sIx n d (some v):Nat):Int):=by
 show (if v<0 then max (v+(n:Int)) 0 else min v (n:Int))=(((if v<0 then (v+(n:Int)).toNat else min v.toNat n):Nat):Int);by_cases hv:v<0
 ·simp only [if_pos hv];omega
 ·simp only [if_neg hv];omega
def S6 (lo hi:Option Int) (n:Nat):Builtin.Slice.sliceAdjust lo hi 1 (n:Int)=(((sIx n 0 lo:Nat):Int),((sIx n n hi:Nat):Int)):=by
 have h1:¬ ((1:Int)<0):=by omega
 unfold Builtin.Slice.sliceAdjust;simp only [h1,if_false];refine Prod.ext ?_ ?_
 ·cases lo with
  |none=>rfl
  |some v=>exact MC v n 0
 ·cases hi with
  |none=>rfl
  |some v=>exact MC v n n
def TL (i j:Nat):Builtin.Slice.slicePlaces (i:Int) (j:Int) 1=j-i:=by
 unfold Builtin.Slice.slicePlaces;have h1:(1:Int) > 0:=by omega
 simp only [h1,if_true,Int.ediv_one];split<;>omega
def D7 {v:Value} {o:Option Int} {Q:Option Int->Shared->Prop} (p:IsPart v o) (h:Q o s):wpAny (model prog w) A (Builtin.Slice.slicePartIndex v) Q E s:=by
 cases p with
 |none=>exact slicePart_none h
 |int i t=>exact slicePart_int h
def Z3 {sl:Addr} {vl vu:Value} {lo hi:Option Int} {n:Nat} {Q:Int×Int×Nat->Shared->Prop} (hs:s.heap.IsSliceOf sl vl vu .none) (pl:IsPart vl lo) (pu:IsPart vu hi)
  (h:Q (((sIx n 0 lo:Nat):Int),1,sIx n n hi-sIx n 0 lo) s):wpAny (model prog w) A (Builtin.Slice.sliceApplied (.ref sl) (pure (n:Int))) Q E s:=by
 obtain ⟨os,hos,hcs,hds⟩:=id hs;unfold Builtin.Slice.sliceApplied Builtin.Slice.sliceFields;refine wpAny_bind (wpAny_bind (wpAny_field hos hds (x:=vl) rfl (wpAny_bind (wpAny_field hos hds (x:=vu) rfl (wpAny_bind (wpAny_field hos hds (x:=.none) rfl (wpAny_pure ?_)))))));refine wpAny_bind (slicePart_none ?_);show wpAny _ _ (if ((1:Int)==0)=true then _ else _) _ _ s;rw [if_neg (by decide)];refine wpAny_bind (D7 pl (wpAny_bind (D7 pu (wpAny_bind (wpAny_pure ?_)))));show wpAny _ _ (match Builtin.Slice.sliceAdjust lo hi 1 (n:Int) with|(lo,hi)=>pure (lo,(1:Int),Builtin.Slice.slicePlaces lo hi 1)) _ _ s;rw [S6 lo hi n];show wpAny _ _ (pure (((sIx n 0 lo:Nat):Int),(1:Int),Builtin.Slice.slicePlaces ((sIx n 0 lo:Nat):Int) ((sIx n n hi:Nat):Int) 1)) _ _ s;rw [TL];exact wpAny_pure h
def NH (xs:Array Value) (i k:Nat):((List.range k).filterMap λ(m:Nat)=>xs[((i:Int)+(m:Int)*1).toNat]?).toArray=((xs.toList.drop i).take k).toArray:=by
 have e:(λ(m:Nat)=>xs[((i:Int)+(m:Int)*1).toNat]?)=λm=>xs[i+m]?:=by
  funext m;have:((i:Int)+(m:Int)*1).toNat=i+m:=by omega
  rw [this]
 rw [e];have:=pick_run xs i k;rw [List.filterMap_map] at this;have e2:((λx=>xs[x]?)∘λx=>i+x)=λm=>xs[i+m]?:=rfl;rw [e2] at this;rw [this]
def VZ {t sl:Addr} {items:Array Value} {vl vu:Value} {lo hi:Option Int} {Q:Value->Shared->Prop} (ht:IsTup s.heap t items) (hs:s.heap.IsSliceOf sl vl vu .none) (pl:IsPart vl lo) (pu:IsPart vu hi)
  (hw:¬ (sIx items.size 0 lo=0/\sIx items.size items.size hi=items.size))
  (h:Q (.ref s.heap.objs.size) { s with heap:=s.heap.push { cls:=.type "tuple",data:=.seq ((items.toList.drop (sIx items.size 0 lo)).take (sIx items.size items.size hi-sIx items.size 0 lo)).toArray } })
  (hsz:items.size<=sizeLine):wpAny (model prog w) A (getItem (.ref t) (.ref sl)) Q E s:=by
 have htake:sizeOk (.seq ((items.toList.drop (sIx items.size 0 lo)).take (sIx items.size items.size hi-sIx items.size 0 lo)).toArray):=by
  show ((items.toList.drop (sIx items.size 0 lo)).take (sIx items.size items.size hi-sIx items.size 0 lo)).toArray.size<=sizeLine;rw [size_toArray,List.length_take,List.length_drop,Array.length_toList];omega
 have hj:sIx items.size items.size hi<=items.size:=qdG _ _ (Nat.le_refl _) hi;obtain ⟨os,hos,hcs,hds⟩:=id hs;have hTs:s.TypeIs (.ref sl) "slice" := ⟨os,hos,hcs⟩
 unfold getItem
 try with_reducible refine wpAny_holding ?_
 first|refine wpAny_bind (wpAny_pure ?_)|skip
 refine wpAny_bind (wpAny_sequenceKey ht.typeIs (by decide) ?_);refine wpAny_bind (wpAny_callSpecial?_slot (name:=Str.ofString "__getitem__") ht.typeIs PyProof.Rows.slot_tuple_getitem
  (wpAny_call_entry PyProof.Rows.slot_tuple_getitem ht.typeIs entry_tuple_getitem ?_ (args_tuple_getitem _ _)))
 show wpAny _ _ (Builtin.Tuple.tupleItemsOf (.ref t) >>= _) _ _ s;refine wpAny_bind (tupleItemsOf_ ht ?_);refine wpAny_bind (wpAny_typeOf hTs ?_);rw [if_pos (by decide)];refine wpAny_bind (Z3 hs pl pu ?_);have hno:¬ ((((sIx items.size 0 lo:Nat):Int)==0&&(1:Int)==1&&(sIx items.size items.size hi-sIx items.size 0 lo)==items.size)=true):=by
  intro q;rw [Bool.and_eq_true,Bool.and_eq_true] at q;have q1:((sIx items.size 0 lo:Nat):Int)=0:=eq_of_beq q.1.1;have q2:sIx items.size items.size hi-sIx items.size 0 lo=items.size:=eq_of_beq q.2;exact hw ⟨by omega,by omega⟩
 show wpAny _ _ (if (((sIx items.size 0 lo:Nat):Int)==0&&(1:Int)==1&&(sIx items.size items.size hi-sIx items.size 0 lo)==items.size)=true then _ else _) _ _ s;rw [if_neg hno,NH]
 first
  |exact wpAny_bind (m:=Builtin.Tuple.tupleExact _) (wpAny_newObj_type (wpAny_pure ⟨_,rfl,wpAny_pure h⟩) htake)
  |exact wpAny_bind (m:=Builtin.Tuple.tupleExact _) (wpAny_newObj_type (wpAny_bind (wpAny_pure (wpAny_pure ⟨_,rfl,wpAny_pure h⟩))) htake)
  |exact wpAny_bind (wpAny_bind (m:=Builtin.Tuple.tupleExact _) (wpAny_newObj_type (wpAny_pure (wpAny_pure ⟨_,rfl,wpAny_pure h⟩)) htake))
  |exact wpAny_bind (wpAny_bind (m:=Builtin.Tuple.tupleExact _) (wpAny_newObj_type (wpAny_pure ⟨_,rfl,wpAny_pure h⟩) htake))
end
end HT
namespace L2
open PySem PySem.Spec PyProof.Rows
abbrev TO:=St->Hp->(Option Int->Hp->Prop)->Prop
def PO (X:Cx) (e:Option Expr) (t:TO):Prop:=
 ∀ (pins:List (Addr×Obj)) (s:Shared) (σ:St) (H:Hp) (Q:Option Int->Hp->Prop),Inv X pins σ H s->t σ H Q ->
  wpAny (model X.prog X.w) X.A (evalPart e X.env) (λu s'=>∃ o H',Inv X pins σ H' s'/\IsPart u o/\Q o H') X.xe s
def qb9:TO:=λ_ H Q=>Q none H
def qh8 (t:TE):TO:=λσ H Q=>t σ H λx H1=>∃ i,x=.int i/\Q (some i) H1
section
variable {X:Cx} {e:Expr} {te:TE} {lo hi:Option Expr} {tl th:TO} {pos p2:Pos}
def qcP:PO X none qb9:=by
 intro pins s σ H Q I h;rw [evalPart_none];exact wpAny_pure ⟨none,H,I,.none,h⟩
def qb3 (h:PE X e te):PO X (some e) (qh8 te):=by
 intro pins s σ H Q I hw;rw [evalPart_some];refine thn (h pins s σ H _ I hw) λu s1 ⟨x,H1,I1,r1,q1⟩=>?_;obtain ⟨i,rfl,q⟩:=q1;obtain ⟨t,rfl⟩:=r1;exact ⟨some i,H1,I1,.int i t,q⟩
def SlR (X:Cx) (r:V->Option Int->Option Int->Hp->VK->Prop):Prop:=
 ∀ (pins:List (Addr×Obj)) (s:Shared) (σ:St) (H:Hp) (x:V) (v vl vu:Value) (lo hi:Option Int) (sl:Addr) (Q:VK),Inv X pins σ H s->jJ x v->s.heap.IsSliceOf sl vl vu .none->IsPart vl lo->IsPart vu hi->r x lo hi H Q ->
  ∃ T id,typeLookup (.type T) "__getitem__" = pure (some (.builtin id))/\s.TypeIs v T/\wpAny (model X.prog X.w) X.A (getItem v (.ref sl)) (EP X pins σ Q) X.xe s
def SlR.or {r r':V->Option Int->Option Int->Hp->VK->Prop} (h:SlR X r) (h':SlR X r'):SlR X (λx lo hi H Q=>r x lo hi H Q\/r' x lo hi H Q):=by
 intro pins s σ H x v vl vu lo hi sl Q I rx hs pl pu q;rcases q with q|q
 ·exact h pins s σ H x v vl vu lo hi sl Q I rx hs pl pu q
 ·exact h' pins s σ H x v vl vu lo hi sl Q I rx hs pl pu q
def tSl (r:V->Option Int->Option Int->Hp->VK->Prop) (te:TE) (tl th:TO):TE:=λσ H Q=>te σ H λx H1=>tl σ H1 λl H2=>th σ H2 λu H3=>r x l u H3 Q
def R0 {r:V->Option Int->Option Int->Hp->VK->Prop} (hr:SlR X r) (he:PE X e te) (hl:PO X lo tl) (hu:PO X hi th):PE X (.Subscript e (.Slice lo hi none p2) pos) (tSl r te tl th):=by
 intro pins s σ H Q I h;refine Subscript_ (thn (he pins s σ H _ I h) λv s1 ⟨x,H1,I1,r1,q1⟩=>?_);refine wpAny_Slice (thn (hl pins s1 σ H1 _ I1 q1) λvl s2 ⟨l,H2,I2,pl,q2⟩=>thn (hu pins s2 σ H2 _ I2 q2) λvu s3 ⟨u,H3,I3,pu,q3⟩=>?_);rw [evalPart_none];refine wpAny_pure ?_;have I4:Inv X pins σ H3 { s3 with heap:=s3.heap.push { cls:=.type "slice",data:=.fields #[vl,vu,.none] } }:=I3.kept (t':=s3.toks) λb ob q=>Heap.get?_push_of_some _ q;obtain ⟨T,id,hT,ht,hg⟩:=hr pins { s3 with heap:=s3.heap.push { cls:=.type "slice",data:=.fields #[vl,vu,.none] } } σ H3 x v vl vu l u s3.heap.objs.size Q I4 r1 (Heap.IsSliceOf.new ..) pl pu q3;show wpAny (model X.prog X.w) X.A (subscriptTail e (.Slice lo hi none p2) v (.ref s3.heap.objs.size)) (EP X pins σ Q) X.xe { s3 with heap:=s3.heap.push { cls:=.type "slice",data:=.fields #[vl,vu,.none] } };exact tail_any (ops:=[.ref s3.heap.objs.size,v]) ht hT hg (by with_unfolding_all rfl)
def qa8 (xs:List V) (lo hi:Option Int):List V:=(xs.drop (HT.sIx xs.length 0 lo)).take (HT.sIx xs.length xs.length hi-HT.sIx xs.length 0 lo)
def UL (xs:List V) (lo hi:Option Int):(qa8 xs lo hi).length<=xs.length:=by
 unfold qa8;rw [List.length_take,List.length_drop];omega
def qkV (K:Frg):V->Option Int->Option Int->Hp->VK->Prop:=λx lo hi H Q=>∃ a xs,x=.ref a/\SqT K H a xs /\
 ¬ (HT.sIx xs.length 0 lo=0/\HT.sIx xs.length xs.length hi=xs.length)/\∀ p,H p=none->Q (.ref p) (upd H p (.tup (qa8 xs lo hi)))
def qbv:SlR X (qkV X.K):=by
 intro pins s σ H x v vl vu lo hi sl Q I rx hs pl pu h;obtain ⟨a,xs,rfl,hx,hw,q⟩:=h;cases rx;obtain ⟨its,r,ht,hz⟩:=I.tuple hx;have hlen:its.toArray.size=xs.length:=by rw [size_toArray];exact r.length.symm
 refine ⟨"tuple",_,PyProof.Rows.slot_tuple_getitem.lookup,ht.typeIs,?_⟩;refine HT.VZ ht hs pl pu (by rw [hlen];exact hw) ?_ (by rw [hlen];exact hz);rw [hlen];refine ⟨.ref s.heap.objs.size,_,I.laid (t':=s.toks) (o:=.tup (qa8 xs lo hi)) (λb ob q=>Heap.get?_push_of_some _ q) (Nat.le_refl _) ?_,rfl,q _ (I.hok.fresh (Nat.le_refl _))⟩;exact ⟨Nat.le_trans (UL xs lo hi) hz,_,(r.drop (HT.sIx xs.length 0 lo)).take (HT.sIx xs.length xs.length hi-HT.sIx xs.length 0 lo),IsTup.new _ _⟩
def qcJ (K:Frg):R2:=λx y H Q=>∃ a b xs ys,x=.ref a/\y=.ref b/\SqT K H a xs/\SqT K H b ys/\xs≠[]/\xs.length+ys.length<=sizeLine /\
 (ys=[]->Q (.ref a) H)/\(ys≠[]->∀ p,H p=none->Q (.ref p) (upd H p (.tup (xs++ys))))
def zQ.nil_iff {xs:List V} {us:List Value} (r:zQ xs us):us=[]↔xs=[]:=by
 cases r with
 |nil=>simp
 |cons _ _=>simp
def LO:OpR X (binaryOp .Add) (qcJ X.K):=by
 intro pins s σ H x y v u Q I rx ry h;obtain ⟨a,b,xs,ys,rfl,rfl,ha,hb,hx,hz,q1,q2⟩:=h;cases rx;cases ry;obtain ⟨its,r1,p1,_⟩:=I.tuple ha;obtain ⟨its2,r2,p2,_⟩:=I.tuple hb;refine HT.qdb p1 p2 (λz=>hx (r1.nil_iff.mp z)) (λz=>⟨.ref a,H,I,rfl,q1 (r2.nil_iff.mp z)⟩) (λz=>?_) (by rw [← r1.length,← r2.length];exact hz);refine ⟨.ref s.heap.objs.size,_,I.laid (t':=s.toks) (o:=.tup (xs++ys)) (λb ob q=>Heap.get?_push_of_some _ q) (Nat.le_refl _) ?_,rfl,q2 (λw=>z (r2.nil_iff.mpr w)) _ (I.hok.fresh (Nat.le_refl _))⟩;exact ⟨by rw [length_append];exact hz,_,r1.append r2,IsTup.new _ _⟩
end
def ixN (n:Nat) (i:Int):Option Nat:=if 0<=i then (if i<n then some i.toNat else none) else if -(n:Int)<=i then some (i+n).toNat else none
def atI {α:Type} (xs:List α) (i:Int):Option α:=(ixN xs.length i).bind λj=>xs[j]?
def LQ {n:Nat} {i:Int} {j:Nat} (h:ixN n i=some j):seqIndex? i n=some j/\j<n/\-(n:Int)<=i/\i<n:=by
 unfold ixN at h;by_cases h0:0<=i
 ·rw [if_pos h0] at h;by_cases h1:i<n
  ·rw [if_pos h1] at h;have e:i.toNat=j:=Option.some.inj h;exact ⟨by rw [seqIndex_of h0 h1,e],by omega,by omega,h1⟩
  ·rw [if_neg h1] at h;cases h
 ·rw [if_neg h0] at h;by_cases h1:-(n:Int)<=i
  ·rw [if_pos h1] at h;have e:(i+n).toNat=j:=Option.some.inj h;exact ⟨by rw [seqIndex_neg (by omega) h1,e],by omega,h1,by omega⟩
  ·rw [if_neg h1] at h;cases h
def C8 {α:Type} {xs:List α} {i:Int} {v:α} (h:atI xs i=some v):∃ j,seqIndex? i xs.length=some j/\xs[j]?=some v/\j<xs.length/\-(xs.length:Int)<=i/\i<xs.length:=by
 unfold atI at h;cases e:ixN xs.length i with
 |none=>rw [e] at h;cases h
 |some j=>
  rw [e] at h;obtain ⟨h1,h2,h3,h4⟩:=LQ e;exact ⟨j,h1,h,h2,h3,h4⟩
def RI (b:Expr):Prop:=∀ o i,subscripted b false o i=operate [o,i] (getItem o i)
def IxR (X:Cx) (r:R2):Prop:=
 ∀ (value slice:Expr) (pins:List (Addr×Obj)) (s:Shared) (σ:St) (H:Hp) (x y:V) (v u:Value) (Q:VK),Inv X pins σ H s->jJ x v->jJ y u->r x y H Q ->
  subscripted slice false v u=operate [v,u] (getItem v u)->wpAny (model X.prog X.w) X.A (subscriptTail value slice v u) (EP X pins σ Q) X.xe s
def MtR (X:Cx) (id:String) (r:V->List V->Hp->VK->Prop):Prop:=
 ∀ (pins:List (Addr×Obj)) (s:Shared) (σ:St) (H:Hp) (x:V) (xs:List V) (v:Value) (us:List Value) (Q:VK),Inv X pins σ H s->jJ x v->zQ xs us->r x xs H Q ->
  wpAny (model X.prog X.w) X.A (call (.builtin id) (v::us)) (EP X pins σ Q) X.xe s
section
variable {X:Cx} {a b:Expr} {ta tb:TE} {pos:Pos}
def IxR.or {r r':R2} (h:IxR X r) (h':IxR X r'):IxR X (λx y H Q=>r x y H Q\/r' x y H Q):=by
 intro value slice pins s σ H x y v u Q I rx ry q hs;rcases q with q|q
 ·exact h value slice pins s σ H x y v u Q I rx ry q hs
 ·exact h' value slice pins s σ H x y v u Q I rx ry q hs
def qh6 {r:R2} (hr:IxR X r) (ha:PE X a ta) (hb:PE X b tb) (hs:RI b):PE X (.Subscript a b pos) (tOp r ta tb):=by
 intro pins s σ H Q I h;exact Subscript_ (qhF ha hb I h λv u s2 x y H2 I2 rx ry q=>hr a b pins s2 σ H2 x y v u Q I2 rx ry q (hs _ _))
def qj6 (K:Frg):R2:=λx y H Q=>∃ p xs i v,x=.ref p/\y=.int i/\SqL K H p xs/\atI xs i=some v/\Q v H
def qjT (K:Frg):R2:=λx y H Q=>∃ p xs i v,x=.ref p/\y=.int i/\SqT K H p xs/\atI xs i=some v/\Q v H
def qkj:R2:=λx y H Q=>∃ z i c,x=.str z/\y=.int i/\z.length<=sizeLine/\atI z.cps.toList i=some c/\Q (.str ⟨#[c]⟩) H
def qc8:IxR X (qj6 X.K):=by
 intro value slice pins s σ H x y v u Q I rx ry h hs;obtain ⟨p,xs,i,z,rfl,rfl,hq,he,q⟩:=h;cases rx;obtain ⟨t,rfl⟩:=ry;obtain ⟨its,r,pl,hz⟩:=I.list hq;obtain ⟨j,h1,h2,h3,h4,h5⟩:=C8 he;obtain ⟨w,ew,rw'⟩:=r.get h2;have hl:=r.length;have hn:=XX;have fin:EP X pins σ Q w s:=⟨z,H,I,rw',q⟩
 by_cases h0:0<=i
 ·have hj:i.toNat=j:=by
   rw [seqIndex_of h0 h5] at h1;exact Option.some.inj h1
  exact item_listR pl.isList h0 (by omega) (by rw [hj];simpa using ew) fin hs
 ·have hj:(i+(its.toArray.size:Int)).toNat=j:=by
   rw [seqIndex_neg (by omega) h4] at h1;rw [size_toArray,← hl];exact Option.some.inj h1
  exact subscriptTail_builtinR (x:=w) pl.isList.typeIs slot_list_getitem.lookup
   (wpAny_getItem_list_neg (Q:=λr s'=>r=w/\EP X pins σ Q r s') pl.isList (by omega) (by rw [size_toArray]<;>omega) (by omega) (by rw [hj];simpa using ew) ⟨rfl,fin⟩) hs
def qeF:IxR X (qjT X.K):=by
 intro value slice pins s σ H x y v u Q I rx ry h hs;obtain ⟨p,xs,i,z,rfl,rfl,hq,he,q⟩:=h;cases rx;obtain ⟨t,rfl⟩:=ry;obtain ⟨its,r,pl,hz⟩:=I.tuple hq;obtain ⟨j,h1,h2,h3,h4,h5⟩:=C8 he;obtain ⟨w,ew,rw'⟩:=r.get h2;have hl:=r.length;have hn:=XX;have fin:EP X pins σ Q w s:=⟨z,H,I,rw',q⟩
 exact subscriptTail_builtinR (x:=w) pl.typeIs slot_tuple_getitem.lookup
  (getItem_tuple (j:=j) (Q:=λr s'=>r=w/\EP X pins σ Q r s') pl (by omega) (by omega) (by rw [size_toArray,← hl];exact h1) (by simpa using ew) ⟨rfl,fin⟩) hs
def qgW:IxR X qkj:=by
 intro value slice pins s σ H x y v u Q I rx ry h hs;obtain ⟨z,i,c,rfl,rfl,hz,he,q⟩:=h;obtain ⟨t,rfl⟩:=rx;obtain ⟨t',rfl⟩:=ry;obtain ⟨j,h1,h2,h3,h4,h5⟩:=C8 he;have hl:z.cps.toList.length=z.length:=by simp [Str.length]
 rw [hl] at h1 h4 h5;have hn:=XX;exact tail_any (typeIs_str s z t) slot_str_getitem.lookup (getItem_str (c:=c) (by
  have e1:decide (i < -(2 ^ 63:Int))=false:=decide_eq_false (by omega);have e2:decide (i ≥ 2 ^ 63)=false:=decide_eq_false (by omega);rw [e1,e2,Bool.or_false]) (by rw [h1];simpa using h2) ⟨.str ⟨#[c]⟩,H,I.tok _,⟨_,rfl⟩,q⟩) hs
def rIx (K:Frg):R2:=λx y H Q=>qj6 K x y H Q\/qjT K x y H Q\/qkj x y H Q
def qf0:IxR X (rIx X.K):=qc8.or (qeF.or qgW)
def TN (its:List Value) (n j:Nat) (u:Value):Obj.mapSeq (·.setIfInBounds j u) { cls:=.type "list",data:=.seq its.toArray n }={ cls:=.type "list",data:=.seq (its.set j u).toArray n }:=by
 simp [Obj.mapSeq]
def Inv.lst {pins:List (Addr×Obj)} {σ:St} {H:Hp} {s:Shared} {p:Addr} {xs:List V} (I:Inv X pins σ H s) (h:H p=some (.lst xs)) :
  ∃ (its:List Value) (n:Nat),zQ xs its/\s.heap.get? p=some { cls:=.type "list",data:=.seq its.toArray n }/\xs.length<=sizeLine:=by
 obtain ⟨z,its,n,r,e⟩:=I.hok p _ h;exact ⟨its,n,r,e,z⟩
def Inv.lstUpd {pins:List (Addr×Obj)} {σ:St} {H:Hp} {s:Shared} {p:Addr} {xs ys:List V} {its its':List Value} {n n':Nat} {f:Obj->Obj} (I:Inv X pins σ H s) (h:H p=some (.lst xs))
  (ho:s.heap.get? p=some { cls:=.type "list",data:=.seq its.toArray n }) (hf:f { cls:=.type "list",data:=.seq its.toArray n }={ cls:=.type "list",data:=.seq its'.toArray n' }) (r:zQ ys its') (hz:ys.length<=sizeLine) (t:Nat) :
  Inv X pins σ (upd H p (.lst ys)) { s with heap:=s.heap.update p f,toks:=t }:=by
 have e:(s.heap.update p f).get? p=some { cls:=.type "list",data:=.seq its'.toArray n' }:=by
  rw [Heap.get?_update_self f ho (by rw [hf]<;>rfl),hf]
 refine I.write (x:=p) (e:=p) (by rw [h];trivial) (.inl rfl) (λb u hb q=>(Heap.get?_update_other _ _ (Ne.symm hb)).trans q) ⟨_,e⟩ ?_;exact ⟨hz,its',n',r,e⟩
def qis:V->V->V->Hp->(Hp->Prop)->Prop:=λo i v H Q=>∃ p xs k j,o=.ref p/\i=.int k/\H p=some (.lst xs)/\ixN xs.length k=some j/\Q (upd H p (.lst (xs.set j v)))
def NW:qj2 X qis:=by
 intro pins s σ H o i v ov iv u Q I ro ri rv h;obtain ⟨p,xs,k,j,rfl,rfl,hp,hj,q⟩:=h;cases ro;obtain ⟨t,rfl⟩:=ri;obtain ⟨its,n,r,ho,hz⟩:=I.lst hp;obtain ⟨h1,h2,h3,h4⟩:=LQ hj;have hl:=r.length;have hn:=XX;have I':Inv X pins σ (upd H p (.lst (xs.set j v))) { s with heap:=s.heap.update p (Obj.mapSeq (·.setIfInBounds j u)) }:=
  I.lstUpd hp ho (TN its n j u) (r.set rv j) (by rw [List.length_set];exact hz) s.toks
 by_cases h0:0<=k
 ·have hk:k.toNat=j:=by
   rw [seqIndex_of h0 h4] at h1;exact Option.some.inj h1
  exact PySem.W.ki_setAt ho h0 (by omega) (by rw [size_toArray,← hl];exact h4) (by rw [hk];exact ⟨_,I',q⟩)
 ·have hk:(k+(its.toArray.size:Int)).toNat=j:=by
   rw [seqIndex_neg (by omega) h3] at h1;rw [size_toArray,← hl];exact Option.some.inj h1
  exact PySem.W.ki_setBack ho (by omega) (by rw [size_toArray,← hl];exact h3) (by omega) (by rw [hk];exact ⟨_,I',q⟩)
def CD (lo hi:Option Int) (n:Nat):(sliceBounds lo hi none n).1=((HT.sIx n 0 lo:Nat):Int)/\(sliceBounds lo hi none n).2.1=((HT.sIx n n hi:Nat):Int)/\(sliceBounds lo hi none n).2.2=1:=by
 refine ⟨?_,?_,rfl⟩
 ·cases lo with
  |none=>simp [sliceBounds,HT.sIx]
  |some i=>
   simp only [sliceBounds,HT.sIx,Option.getD_none,show (1:Int) > 0 by decide,if_true];by_cases h:i<0
   ·simp only [h,if_true]<;>omega
   ·simp only [h,if_false]<;>omega
 ·cases hi with
  |none=>simp [sliceBounds,HT.sIx]
  |some i=>
   simp only [sliceBounds,HT.sIx,Option.getD_none,show (1:Int) > 0 by decide,if_true];by_cases h:i<0
   ·simp only [h,if_true]<;>omega
   ·simp only [h,if_false]<;>omega
def WB (its:List Value) (lo hi:Option Int):slicePick its.toArray lo hi none=((its.drop (HT.sIx its.length 0 lo)).take (HT.sIx its.length its.length hi-HT.sIx its.length 0 lo)).toArray:=by
 obtain ⟨h1,h2,h3⟩:=CD lo hi its.toArray.size;unfold slicePick;rw [h1,h2,h3];simp only [sliceRange_one,pick_run,size_toArray]<;>rfl
def qk7 (K:Frg):V->Option Int->Option Int->Hp->VK->Prop:=λx lo hi H Q=>∃ a xs,x=.ref a/\SqL K H a xs/\∀ p,H p=none->Q (.ref p) (upd H p (.lst (qa8 xs lo hi)))
def LM:SlR X (qk7 X.K):=by
 intro pins s σ H x v vl vu lo hi sl Q I rx hs pl pu h;obtain ⟨a,xs,rfl,hx,q⟩:=h;cases rx;obtain ⟨its,r,ht,hz⟩:=I.list hx;have hlen:=r.length;refine ⟨"list",_,slot_list_getitem.lookup,ht.isList.typeIs,?_⟩;refine wpAny_getItem_list_slice ht.isList hs pl pu .none (by simp) ?_ (by rw [size_toArray]<;>omega);rw [WB,← hlen];refine ⟨.ref s.heap.objs.size,_,I.laid (t':=s.toks) (o:=.lst (qa8 xs lo hi)) (λb ob q=>Heap.get?_push_of_some _ q) (Nat.le_refl _) ?_,rfl,q _ (I.hok.fresh (Nat.le_refl _))⟩;exact ⟨Nat.le_trans (UL xs lo hi) hz,_,0,(r.drop (HT.sIx xs.length 0 lo)).take (HT.sIx xs.length xs.length hi-HT.sIx xs.length 0 lo),Heap.get?_push_size _ rfl⟩
def ET:V->Bool
 |.non=>true
 |.bl _=>true
 |.int _=>true
 |.str _=>true
 |_=>false
def eqV:V->V->Bool
 |.non,.non=>true
 |.bl a,.bl b=>a==b
 |.bl a,.int b=>(if a then 1 else 0)==b
 |.int a,.bl b=>a==(if b then 1 else 0)
 |.int a,.int b=>a==b
 |.str a,.str b=>a==b
 |_,_=>false
def qg4 {A:Around} {s:Shared} {y x:V} {u v:Value} (ry:jJ y u) (rx:jJ x v) (fy:ET y=true) (fx:ET x=true):SeqAt.EqAt A s u v (eqV y x):=by
 cases y with
 |non=>
  cases ry;cases x with
  |non=>cases rx;exact SeqAt.EqAt.same _
  |bl b=>cases rx;exact SeqAt.EqAt.none_bool b
  |int b=>obtain ⟨t,rfl⟩:=rx;exact SeqAt.EqAt.none_int b t
  |str b=>obtain ⟨t,rfl⟩:=rx;exact SeqAt.EqAt.none_str b t
  |_=>exact absurd (show false=true from fx) Bool.false_ne_true
 |bl a=>
  cases ry;cases x with
  |non=>cases rx;exact SeqAt.EqAt.bool_none a
  |bl b=>cases rx;exact SeqAt.EqAt.bool_bool a b
  |int b=>obtain ⟨t,rfl⟩:=rx;exact SeqAt.EqAt.bool_int a b t
  |str b=>obtain ⟨t,rfl⟩:=rx;exact SeqAt.EqAt.bool_str a b t
  |_=>exact absurd (show false=true from fx) Bool.false_ne_true
 |int a=>
  obtain ⟨t',rfl⟩:=ry;cases x with
  |non=>cases rx;exact SeqAt.EqAt.int_none a t'
  |bl b=>cases rx;exact SeqAt.EqAt.int_bool a t' b
  |int b=>obtain ⟨t,rfl⟩:=rx;exact SeqAt.EqAt.int_int a t' b t
  |str b=>obtain ⟨t,rfl⟩:=rx;exact SeqAt.EqAt.int_str a t' b t
  |_=>exact absurd (show false=true from fx) Bool.false_ne_true
 |str a=>
  obtain ⟨t',rfl⟩:=ry;cases x with
  |non=>cases rx;exact SeqAt.EqAt.str_none a t'
  |bl b=>cases rx;exact SeqAt.EqAt.str_bool a t' b
  |int b=>obtain ⟨t,rfl⟩:=rx;exact SeqAt.EqAt.str_int a t' b t
  |str b=>obtain ⟨t,rfl⟩:=rx;exact SeqAt.EqAt.str_str a t' b t
  |_=>exact absurd (show false=true from fx) Bool.false_ne_true
 |_=>exact absurd (show false=true from fy) Bool.false_ne_true
def eqU (x:V) (u:Value):Bool:=match u with
 |.none=>eqV .non x
 |.bool b=>eqV (.bl b) x
 |.int i _=>eqV (.int i) x
 |.str z _=>eqV (.str z) x
 |_=>false
def qaH {x y:V} {u:Value} (r:jJ y u) (f:ET y=true):eqU x u=eqV y x:=by
 cases y with
 |non=>cases r;rfl
 |bl b=>cases r;rfl
 |int i=>obtain ⟨t,rfl⟩:=r;rfl
 |str z=>obtain ⟨t,rfl⟩:=r;rfl
 |_=>exact absurd (show false=true from f) Bool.false_ne_true
def C7 {x:V}:∀ {xs:List V} {us:List Value},zQ xs us->xs.all ET=true->us.any (eqU x)=xs.any λy=>eqV y x
 |_,_,.nil,_=>rfl
 |y::xs,u::us,.cons r t,f=>by
  rw [List.all_cons,Bool.and_eq_true] at f;rw [List.any_cons,List.any_cons,qaH r f.1,C7 t f.2]
def W0 {A:Around} {s:Shared} {x:V} {v:Value} (rx:jJ x v) (fx:ET x=true):∀ {xs:List V} {us:List Value},zQ xs us->xs.all ET=true->∀ u∈us,SeqAt.EqAt A s u v (eqU x u)
 |_,_,.nil,_=>λu hu=>by cases hu
 |y::xs,u::us,.cons r t,f=>λu' hu=>by
  rw [List.all_cons,Bool.and_eq_true] at f;rcases mem_cons.mp hu with rfl|hu
  ·rw [qaH r f.1];exact qg4 r rx f.1 fx
  ·exact W0 rx fx t f.2 u' hu
def inV (x:V) (xs:List V):Bool:=xs.any λy=>eqV y x
def rIn (K:Frg) (neg:Bool):R2:=λx y H Q=>∃ p xs,y=.ref p/\(SqL K H p xs\/SqT K H p xs)/\ET x=true/\xs.all ET=true/\Q (.bl (if neg then !inV x xs else inV x xs)) H
def LF:OpR X (compareOp .In) (rIn X.K false):=by
 intro pins s σ H x y v u Q I rx ry h;obtain ⟨p,xs,rfl,hq,fx,fs,q⟩:=h;cases ry;rcases hq with hq|hq
 ·obtain ⟨its,r,pl,hz⟩:=I.list hq;refine SeqAt.in_listAt (eqU x) pl.isList (λw hw=>W0 rx fx r fs w (by simpa using hw)) ⟨.bl _,H,I,rfl,?_⟩;rw [show its.toArray.any (eqU x)=its.any (eqU x) by simp,C7 r fs];exact q
 ·obtain ⟨its,r,pl,hz⟩:=I.tuple hq;refine SeqAt.in_tupleAt (eqU x) pl (λw hw=>W0 rx fx r fs w (by simpa using hw)) ⟨.bl _,H,I,rfl,?_⟩;rw [show its.toArray.any (eqU x)=its.any (eqU x) by simp,C7 r fs];exact q
def JJ:YJ X (.type "list") (λxs H Q=>∃ p ys,xs=[.ref p]/\(SqL X.K H p ys\/SqT X.K H p ys)/\∀ l,H l=none->Q (.ref l) (upd H l (.lst ys))):=by
 intro pins s σ H xs us Q I r h;obtain ⟨p,ys,rfl,hq,q⟩:=h;obtain ⟨u,rfl,rx⟩:=RH r;cases rx;have fin:∀ (its:List Value),zQ ys its->ys.length<=sizeLine->∀ (h':Heap) (c':Nat),(∀ b o',s.heap.get? b=some o'->h'.get? b=some o') ->
   h'.get? s.heap.objs.size=some { cls:=.type "list",dict:=none,data:=.seq its.toArray c',slots:=#[] }->EP X pins σ Q (.ref s.heap.objs.size) { s with heap:=h' }:=λits r' hz h' c' kp e=>
  ⟨.ref s.heap.objs.size,_,I.laid (t':=s.toks) kp (Nat.le_refl _) (show Y0 X.prog X.w _ h' _ (.lst ys) from ⟨hz,its,c',r',e⟩),rfl,q _ (I.hok.fresh (Nat.le_refl _))⟩
 rcases hq with hq|hq
 ·obtain ⟨its,r',pl,hz⟩:=I.list hq;have hlen:=r'.length;obtain ⟨o,ho,hc,n,hd⟩:=pl.isList;exact call_list_seq p (.inl rfl) ho hc hd (λh' c' kp e=>fin its r' hz h' c' kp e) (by simp only [size_toArray]<;>omega)
 ·obtain ⟨its,r',pl,hz⟩:=I.tuple hq;have hlen:=r'.length;obtain ⟨o,ho,hc,n,hd⟩:=pl;exact call_list_seq p (.inr rfl) ho hc hd (λh' c' kp e=>fin its r' hz h' c' kp e) (by simp only [size_toArray]<;>omega)
def zG:YJ X (.type "tuple") (λxs H Q=>∃ p ys,xs=[.ref p]/\((SqL X.K H p ys/\∀ l,H l=none->Q (.ref l) (upd H l (.tup ys)))\/(SqT X.K H p ys/\Q (.ref p) H))):=by
 intro pins s σ H xs us Q I r h;obtain ⟨p,ys,rfl,h⟩:=h;obtain ⟨u,rfl,rx⟩:=RH r;cases rx;rcases h with ⟨hq,q⟩|⟨hq,q⟩
 ·obtain ⟨its,r',pl,hz⟩:=I.list hq;have hlen:=r'.length;refine call_tuple_list pl.isList (λh' kp=>?_) (by simp only [size_toArray]<;>omega);have I1:Inv X pins σ H { s with heap:=h' }:=I.kept (t':=s.toks) kp;have I2:Inv X pins σ (upd H h'.objs.size (.tup ys)) { s with heap:=h'.push { cls:=.type "tuple",data:=.seq its.toArray } }:=
   I1.laid (t':=s.toks) (λb o e=>Heap.get?_push_of_some _ e) (Nat.le_refl _) (show Y0 X.prog X.w _ _ _ (.tup ys) from ⟨hz,its,r',IsTup.new _ _⟩)
  exact ⟨.ref h'.objs.size,_,I2,rfl,q _ (I1.hok.fresh (Nat.le_refl _))⟩
 ·obtain ⟨its,r',pl,hz⟩:=I.tuple hq;exact call_tuple_same pl ⟨.ref p,H,I,rfl,q⟩
def tyV (K:Frg) (T:String) (x:V) (H:Hp):Prop:=match x with
 |.str _=>T="str"
 |.int _=>T="int"
 |.ref p=>(T="list"/\∃ xs,SqL K H p xs)\/(T="tuple"/\∃ o,K.lookup p=some o/\o.cls=.type "tuple"/\o.dict=none) ∨
   (T="dict"/\((∃ kvs,H p=some (.dK kvs))\/∃ kvs,H p=some (.dT kvs)))\/(T="set"/\∃ S n,H p=some (.set S n))
 |_=>False
def qbG {pins:List (Addr×Obj)} {σ:St} {H:Hp} {s:Shared} {T:String} {x:V} {v:Value} (I:Inv X pins σ H s) (r:jJ x v) (ty:tyV X.K T x H) :
  s.TypeIs v T/\∀ a,v=.ref a->∃ ob,s.heap.get? a=some ob/\ob.dict=none:=by
 cases x with
 |str z=>
  obtain ⟨t,rfl⟩:=r;cases (show T="str" from ty);exact ⟨typeIs_str s z t,λ_ e=>nomatch e⟩
 |int i=>
  obtain ⟨t,rfl⟩:=r;cases (show T="int" from ty);exact ⟨typeIs_int s i t,λ_ e=>nomatch e⟩
 |ref p=>
  cases r;rcases ty with ⟨rfl,xs,hq⟩|⟨rfl,o,hk,hc,hd⟩|⟨rfl,hk⟩|⟨rfl,S,n,hk⟩
  ·obtain ⟨its,_,pl,_⟩:=I.list hq;refine ⟨pl.isList.typeIs,λa e=>?_⟩;cases e;obtain ⟨o,n,e,c,hd,_⟩:=pl;exact ⟨o,e,hd⟩
  ·refine ⟨⟨o,I.kIn p o hk,hc⟩,λa e=>?_⟩;cases e;exact ⟨o,I.kIn _ o hk,hd⟩
  ·have z:∃ o,s.heap.get? p=some o/\o.ExactDict:=by
    rcases hk with ⟨kvs,hk⟩|⟨kvs,hk⟩
    ·obtain ⟨_,_,_,_,o,_,_,e,ex,_⟩:=I.hok p _ hk;exact ⟨o,e,ex⟩
    ·obtain ⟨_,_,_,_,o,_,_,e,ex,_⟩:=I.hok p _ hk;exact ⟨o,e,ex⟩
   obtain ⟨o,e,ex⟩:=z;refine ⟨⟨o,e,ex.1⟩,λa e2=>?_⟩;cases e2;exact ⟨o,e,ex.2.1⟩
  ·obtain ⟨o,_,_,_,e,ex,_⟩:=I.hok p _ hk;refine ⟨⟨o,e,ex.1⟩,λa e2=>?_⟩;cases e2;exact ⟨o,e,ex.2.1⟩
 |_=>exact False.elim ty
def qkL (K:Frg) (T:String) (r:V->List V->Hp->VK->Prop) (to:TE):TE:=λσ H Q=>to σ H λx H1=>tyV K T x H1/\r x [] H1 Q
def tBM (K:Frg) (T:String) (r:V->List V->Hp->VK->Prop) (to:TE) (t:TA):TE:=λσ H Q=>to σ H λx H1=>tyV K T x H1/\t σ H1 λxs H2=>r x xs H2 Q
variable {o e:Expr} {es:List Expr} {to:TE} {t:TA} {name:Str} {apos cpos:Pos} {T id:String} {r:V->List V->Hp->VK->Prop}
def qfd (pa:PlainAttrs T) (slot:Slot T name id) (hty:typeOf (.builtin id)=pure (.type "method_descriptor")) (hm:MtR X id r) (ho:PE X o to)
  (hbase:attributeBase o name X.env (eval o X.env)=eval o X.env:=by rfl) (hline:(apos.endLine==cpos.line)=true:=by rfl):PE X (.Call (.Attribute o name apos) [] [] cpos) (qkL X.K T r to):=by
 intro pins s σ H Q I h;refine wpAny_Call_method0_late hbase hline (thn (ho pins s σ H _ I h) λv s1 ⟨x,H1,I1,r1,ty,q1⟩=>?_);obtain ⟨h1,h2⟩:=qbG I1 r1 ty;exact ⟨T,id,pa,slot,hty,h1,h2,Calls.callWith_builtin rfl (PySem.evalArgs_none (hm pins s1 σ H1 x [] v [] Q I1 r1 .nil q1))⟩
def qhz (pa:PlainAttrs T) (slot:Slot T name id) (hty:typeOf (.builtin id)=pure (.type "method_descriptor")) (hm:MtR X id r) (ho:PE X o to) (ha:PA X (e::es) t)
  (hbase:attributeBase o name X.env (eval o X.env)=eval o X.env:=by rfl)
  (hfew:((backTo cpos (starEach (e::es) X.env)).all (λx=>!x.1)&&(backToKw cpos (keywordEach [] X.env)).all (λx=>x.1.isSome)
   && decide ((e::es).length+([]:List Keyword).length+(if ([]:List Keyword).isEmpty then 0 else 1)<30))=true:=by rfl)
  (hline:(apos.endLine==cpos.line)=true:=by rfl) (hs:starEach (e::es) X.env=(false,eval e X.env)::starEach es X.env:=by rfl) (hplain:(backTo cpos (starEach es X.env)).any (·.1)=false:=by rfl) :
  PE X (.Call (.Attribute o name apos) (e::es) [] cpos) (tBM X.K T r to t):=by
 intro pins s σ H Q I h;refine wpAny_Call_method_late hbase hfew hline rfl (thn (ho pins s σ H _ I h) λv s1 ⟨x,H1,I1,r1,ty,q1⟩=>?_);obtain ⟨h1,h2⟩:=qbG I1 r1 ty;refine ⟨T,id,pa,slot,hty,h1,h2,?_⟩;have hA:=ha cpos pins s1 σ H1 _ I1 q1;rw [hs] at hA ⊢;refine Calls.callWith_builtin (by show (false||(backTo cpos (starEach es X.env)).any (·.1))=false;rw [hplain]<;>rfl) (Calls.evalArgs_plain ?_);exact thn hA λus s2 ⟨vs,H2,I2,r2,q2⟩=>hm pins s2 σ H2 x vs v us Q I2 r1 r2 q2
end
def MtM (X:Cx) (id:String) (r:V->List V->Hp->VK->Prop):Prop:=
 ∀ (pins:List (Addr×Obj)) (s:Shared) (σ:St) (H:Hp) (x:V) (xs:List V) (v:Value) (us:List Value) (Q:VK),Inv X pins σ H s->jJ x v->zQ xs us->r x xs H Q ->
  wpAny (model X.prog X.w) X.A (call (.builtin id) (v::us)) (EP X pins σ Q) X.xe s
def zQ.one:∀ {x:V} {us:List Value},zQ [x] us->∃ u,us=[u]/\jJ x u
 |_,_,.cons r .nil=>⟨_,rfl,r⟩
def zQ.zero:∀ {us:List Value},zQ [] us->us=[]
 |_,.nil=>rfl
def zQ.reverse {xs:List V} {us:List Value} (h:zQ xs us):zQ xs.reverse us.reverse:=by
 induction h with
 |nil=>exact .nil
 |cons r t ih=>rw [List.reverse_cons,List.reverse_cons];exact zQ.append ih (.cons r .nil)
section
variable {X:Cx} {pins:List (Addr×Obj)} {σ:St} {H:Hp} {s:Shared} {l b:Addr} {xs ys zs:List V}
def Inv.lset {its its':List Value} {n:Nat} {f:Array Value->Array Value} {t':Nat} (I:Inv X pins σ H s) (hH:H l=some (.lst xs))
  (e:s.heap.get? l=some { cls:=.type "list",data:=.seq its.toArray n }) (hf:f its.toArray=its'.toArray) (hv:zQ ys its') (hz:ys.length<=sizeLine) :
  Inv X pins σ (upd H l (.lst ys)) { s with heap:=s.heap.update l (Obj.mapSeq f),toks:=t' }:=by
 have q:=PySem.IsL.update e f;rw [hf] at q;refine I.write (x:=l) (e:=l) (by rw [hH];exact trivial) (.inl rfl) (λb' u hb hu=>(Heap.get?_update_other s.heap (Obj.mapSeq f) (Ne.symm hb)).trans hu) ⟨_,q⟩ ?_;exact ⟨hz,its',_,hv,q⟩
def Inv.lnew {its:List Value} {t':Nat} (I:Inv X pins σ H s) (hv:zQ ys its) (hz:ys.length<=sizeLine) :
  Inv X pins σ (upd H s.heap.objs.size (.lst ys)) { s with heap:=s.heap.push { cls:=.type "list",data:=.seq its.toArray },toks:=t' }:=
 I.laid (λ_ _ q=>Heap.get?_push_of_some _ q) (Nat.le_refl _) ⟨hz,its,0,hv,Heap.get?_push_size _ rfl⟩
def Inv.fresh (I:Inv X pins σ H s):H s.heap.objs.size=none:=I.hok.fresh (Nat.le_refl _)
def Inv.lstM (I:Inv X pins σ H s) (hH:H l=some (.lst xs)):xs.length<=sizeLine/\∃ (its:List Value) (n:Nat),zQ xs its/\xs.length=its.length/\s.heap.get? l=some { cls:=.type "list",data:=.seq its.toArray n }:=by
 obtain ⟨z,its,n,r,e⟩:=I.hok l _ hH;exact ⟨z,its,n,r,r.length,e⟩
end
section
variable {X:Cx}
def LI:V->List V->Hp->VK->Prop:=λx vs H Q=>∃ l xs y,x=.ref l/\vs=[y]/\H l=some (.lst xs)/\xs.length<sizeLine/\Q .non (upd H l (.lst (xs++[y])))
def U9:MtM X "list.append" LI:=by
 intro pins s σ H x vs v us Q I rx rv h;obtain ⟨l,xs,y,rfl,rfl,hH,hz,q⟩:=h;cases rx;obtain ⟨u,rfl,ru⟩:=rv.one;obtain ⟨z,its,n,r,hl,e⟩:=I.lstM hH;refine call_meets F.slot_list_append ⟨_,e,rfl⟩ F.entry_list_append (F.args_list_append_2 _ _) (PySem.list_append l its.toArray n u (by rw [size_toArray];omega)) ⟨e,?_⟩;refine ⟨.non,_,I.lset (its':=its++[u]) hH e (by simp) (r.append (.cons ru .nil)) ?_,rfl,q⟩;rw [length_append,List.length_singleton];omega
def qiE:R2:=λx y H Q=>∃ l b xs zs,x=.ref l/\y=.ref b/\H l=some (.lst xs)/\H b=some (.lst zs)/\xs.length+zs.length<=sizeLine/\∀ p,H p=none->Q (.ref p) (upd H p (.lst (xs++zs)))
def qa7:OpR X (binaryOp .Add) qiE:=by
 intro pins s σ H x y v u Q I rx ry h;obtain ⟨l,b,xs,zs,rfl,rfl,hH,hB,hz,q⟩:=h;cases rx;cases ry;obtain ⟨z,its,n,r,hl,e⟩:=I.lstM hH;obtain ⟨z2,its2,n2,r2,hl2,e2⟩:=I.lstM hB;refine PySem.P.add_list e e2 ?_ (by rw [size_toArray,size_toArray];omega);have ea:its.toArray++its2.toArray=(its++its2).toArray:=by simp
 rw [ea];exact ⟨.ref _,_,I.lnew (t':=s.toks) (r.append r2) (by rw [length_append];omega),rfl,q _ I.fresh⟩
end
section
variable {prog:Program} {w:World} {A:Around} {E:Value->Shared->Prop} {s:Shared}
end
section
variable {X:Cx}
end
end L2
namespace Att
open PySem PySem.W PySem.Calls PyProof.Rows
def EN {P:Params} {h:Heap}:∀ (ns:List Int) (vs:List Value),WellAll P h vs (ns.map WData.int)->IntsAre vs ns:=by
 intro ns;induction ns with
 |nil=>
  intro vs w;rw [List.map_nil] at w;cases w;exact .nil
 |cons n ns ih=>
  intro vs w;rw [map_cons] at w;cases w with
  |cons a b=>
   cases a;exact .cons _ _ (ih _ b)
def LC {l:OpenLaw} {n:Nat} (hn:l.most=some n) {P:Params} {h:Heap} {args:List WData} {vals:List Value}
  (hpre:l.row.toRowW.claim.pre args=true) (hwl:WellAll P h vals args) :
  ∃ a vs ns,vals=[Value.ref a]/\args=[WData.list (ns.map WData.int)]/\h.get? a=some { cls:=.type "list",data:=.seq vs.toArray }/\IntsAre vs ns/\ns.length<=n:=by
 have hsh:WShape.hasAll [] args [.list .int]=true:=(pre_splitW hpre).1;have hc:l.pre.holds [] { args:=args }=true:=(pre_splitW hpre).2;obtain ⟨d,r,rfl,h1,h2⟩:=hasAllW_cons hsh;obtain rfl:=hasAllW_nil h2;obtain ⟨xs,rfl,h3⟩:=hasW_list h1;obtain ⟨ns,rfl⟩:=items_int h3;have hlen:ns.length<=n:=by
  unfold OpenLaw.pre at hc;have h4:(WTm.not (.lt (.lit (.int (n:Int))) (.len (.arg 0)))).holds [] { args:=[.list (ns.map .int)] }=true:=by
   have h4:=(holds_andW hc).1;rw [hn] at h4;exact h4
  have h5:=condW_of h4 (w_not (w_lt w_lit (w_len_list (w_arg rfl))));rw [length_map] at h5;refine Nat.le_of_not_lt λq=>?_;have q':(n:Int)<((ns.length:Nat):Int):=by omega
  first
   | (rw [decide_eq_true q'] at h5;exact absurd h5 (by decide))
   | (simp at h5;omega)
 cases hwl with
 |cons w1 w2=>
  cases w2;cases w1 with
  |list ho hall=>exact ⟨_,_,ns,rfl,rfl,ho,EN ns _ hall,hlen⟩
def K8 (l:OpenLaw) (args:List WData):l.row.toRowW.claim.post args (.bool true) args=true:=
 postW_of (r:=l.row.toRowW) (X:=(true==true))
  (show WShape.has [] (.bool true) .bool=true by first|rfl|decide|simp [WShape.has,WShape.arms,WShape.armsAll])
  (show (WTm.eq .res (.lit (.bool true))).value [] { args:=args,res:=some (.bool true),after:=args }=some (.bool (true==true)) from w_eq_bool (w_res rfl) w_lit) rfl
def CT {l:OpenLaw} {n:Nat} {q:Program} {loose:List Str} {XP:(Str->Option Value)->Heap->Prop} {YP:World->Heap->Prop} {d:DefRec}
  (hn:l.most=some n) (hdf:d.params.defaults=[])
  (call:∀ (w:World) (s₀ s₁:Shared) (mg mb:Str->Option Value) (fa:Addr) (o:Obj) (pm cd doc:Value) (a:Addr) (vs:List Value) (ns:List Int),
   Ground q loose [] XP w s₀ mg mb s₁.heap->YP w s₁.heap ->
   s₁.heap.get? fa=some o->o.data=.func (docDef d.name d.params d.body d.scope pm cd doc)->s₁.heap.CodeRec cd d.name->mg d.name=some (.ref fa) ->
   s₁.heap.get? a=some { cls:=.type "list",data:=.seq vs.toArray }->IntsAre vs ns->ns.length<=n->s₁.gens=#[] ->
   codeAny (model l.prog w) callerA (.call (.ref fa) ⟨[.ref a],[]⟩) (λr s'=>r=.ok (.ret (.bool true))/\OldK s₁.heap s'.heap/\s'.os=s₁.os/\AllBare s'.gens) s₁) :
  WalkO q loose XP YP l.row.toRowW d [] (λf vs=>PySem.call f vs):=by
 intro w s₀ s₁ mg mb G Y fa o pm cd doc dV kV ho hd hcd hD hmg hg args vals as hpre hlay hrd hwl hlo;obtain rfl:dV=.none:=Dflts.none hD hdf;obtain rfl:kV=.none:=Dflts.noKw hD;obtain ⟨a,vs,ns,rfl,rfl,hobj,hints,hlen⟩:=LC hn hpre hwl;refine enter_call (codeAny_mono (call w s₀ s₁ mg mb fa o pm cd doc a vs ns G Y ho (fd_plain hd) hcd hmg hobj hints hlen hg) λr s' hq=>?_);obtain ⟨rfl,h2,h3,h4⟩:=hq;exact ⟨.inl ⟨.bool true,.bool true,[],rfl,λ_=>rfl,.bool true,K8 l _,λ_=>⟨List.Pairwise.nil,λ_ hm=>(nomatch hm)⟩⟩,h2,h3,h4⟩
section
variable {prog:Program} {w:World} {A:Around} {E:Value->Shared->Prop} {s:Shared} {K:Frag}
end
end Att
namespace L2
open PySem PySem.Spec PyProof.Rows
def X0:∀ {vs:List Value} {ns:List Int},IntsAre vs ns->zQ (ns.map V.int) vs
 |_,_,.nil=>.nil
 |_,_,.cons n t h=>.cons ⟨t,rfl⟩ (X0 h)
def qhi (H:Hp):Prop:=∀ b,H b=none\/∃ o xs,H b=some (.frz o (.lst xs))
def NL {P:Program} {w:World} {K:Frg} {mg mb:Str->Option Value} {CX:CXT} {k:Nat} {fa a:Addr} {fd:FuncData} {x:Str} {sp:Sp} {s₁:Shared} {vs:List Value} {ns:List Int}
  (KX:K.In s₁.heap) (hns:s₁.heap.Ns mainGlobals mg) (hb:s₁.heap.Ns builtinsNs mb) (hbb:∀ x:Str,x≠"__name__" -> mb x=bootBuiltins x) (hlim:s₁.heap.NoLimit) (hg:s₁.gens=#[])
  (ha:s₁.heap.get? a=some { cls:=.type "list",data:=.seq vs.toArray }) (hi:IntsAre vs ns) (hl:ns.length<=sizeLine) (hr:Room k callerA)
  (F:∀ base:Heap,K.In base->base.Ns mainGlobals mg->FnOk P w K mg base CX k fa fd [x] sp) (hbind:∀ (s:Shared) (u:Value),BindsTo s fd ⟨[u],[]⟩ [(x,u)])
  (hsp:∀ H:Hp,qhi H->SqL K H a (ns.map V.int)->sp [.ref a] H (λv _=>v=.bl true) λ_ _ _=>False)
  (hCX:∀ H e s',CX [] H s₁ (λ_ _ _=>False) e s'->False) :
  codeAny (model P w) callerA (.call (.ref fa) ⟨[.ref a],[]⟩) (λr s'=>r=.ok (.ret (.bool true))/\OldK s₁.heap s'.heap/\s'.os=s₁.os/\AllBare s'.gens) s₁:=by
 have rv:=X0 hi;have lenV:=hi.length
 -- from an abstract heap in which nothing but the script may be tracked
 have core:∀ H:Hp,qhi H->SqL K H a (ns.map V.int)->HOk P w H s₁.heap->(∀ b,H b≠none->b=a)->(H a≠none->K.lookup a=none) ->
   codeAny (model P w) callerA (.call (.ref fa) ⟨[.ref a],[]⟩) (λr s'=>r=.ok (.ret (.bool true))/\OldK s₁.heap s'.heap/\s'.os=s₁.os/\AllBare s'.gens) s₁:=by
  intro H hO hS hok hA hK;have base_of:∀ {b:Addr} {o:Obj},s₁.heap.get? b=some o->H b=none->(M2 s₁.heap H).get? b=some o:=λe n=>N2 e n;have noA:∀ {b:Addr} {o:Obj} {es:Array DictEntry} {ep:Nat},s₁.heap.get? b=some o->o.data=.dict es ep->H b=none:=λ{b o es ep} e d=>by
   cases q:H b with
   |none=>rfl
   |some u=>
    have e':b=a:=hA b (by rw [q];simp);subst e';rw [ha] at e;cases e;have d':Data.seq vs.toArray _=Data.dict es ep:=d;cases d'
  have nsK:∀ {b:Addr} {m:Str->Option Value},s₁.heap.Ns b m->(M2 s₁.heap H).Ns b m:=λ{b m} ⟨o,es,ep,e,d,r⟩=>⟨o,es,ep,base_of e (noA e d),d,r⟩
  have hKb:K.In (M2 s₁.heap H):=λb o e=>base_of (KX b o e) (by
   cases q:H b with
   |none=>rfl
   |some u=>
    have e':b=a:=hA b (by rw [q];simp);subst e';rw [hK (by rw [q];simp)] at e;cases e)
  have hM:Mod K mg (M2 s₁.heap H):=⟨hKb,nsK hns,⟨mb,nsK hb,hbb⟩,let ⟨mc,h1,h2⟩:=hlim;⟨mc,nsK h1,h2⟩⟩
  have e0:Env0 P w K mg (M2 s₁.heap H) callerA [] s₁ H:=⟨rfl,hM,λb o e=>qcS e,Nat.le_of_eq (LX _ _),trivial,λb hb=>absurd (show b∈([]:List Addr) from hb) (by simp),hok,.of_eq hg⟩
  refine codeAny_mono ((F _ hKb (nsK hns)).run callerA [] s₁ H ⟨[.ref a],[]⟩ [.ref a] [.ref a] _ _ hr e0 (hbind s₁ (.ref a)) (.cons rfl .nil) (hsp H hO hS)) λr s' h=>?_;cases r with
  |error e=>exact (hCX H e s' h).elim
  |ok fl=>
   cases fl with
   |next=>exact False.elim h
   |brk=>exact False.elim h
   |cont=>exact False.elim h
   |ret u=>
    obtain ⟨v,H',os,bare,un,hok',r',q⟩:=h;have q':v=.bl true:=q;subst q';obtain rfl:u=Value.bool true:=r';refine ⟨rfl,OldK.of_keep λb o e=>?_,os,bare⟩;cases q:H b with
    |none=>exact un.keep b o e q (by intro z;exact absurd (show b∈([]:List Addr) from z) (by simp)) (by simp)
    |some u=>
     rcases hO b with z|⟨ob,xs,z⟩
     ·rw [q] at z;cases z
     ·have z2:=un.frzs b ob _ z;obtain ⟨e1,_⟩:=hok b _ z;obtain ⟨e2,_⟩:=hok' b _ z2;rw [e] at e1;cases e1;exact e2
 cases hk:K.lookup a with
 |some o=>
  -- the script is one of the module's own objects
  have e:=KX a o hk;rw [ha] at e;cases e;refine core (λ_=>none) (λ_=>.inl rfl) (.inr ⟨_,vs.toArray,_,hk,rfl,rfl,rfl,by rw [size_toArray,lenV];exact hl,by simpa using rv⟩) (λb u z=>by have z':(none:Option HO)=some u:=z;cases z') (λb z=>absurd rfl z) λz=>absurd rfl z
 |none=>
  refine core (λb=>if b=a then some (.frz { cls:=.type "list",data:=.seq vs.toArray } (.lst (ns.map V.int))) else none) (λb=>?_) (.inl (.inr ⟨{ cls:=.type "list",data:=.seq vs.toArray },if_pos rfl⟩)) (λb u z=>?_) (λb z=>?_) λ_=>hk
  ·by_cases hb:b=a
   ·exact .inr ⟨_,_,if_pos hb⟩
   ·exact .inl (if_neg hb)
  ·by_cases hb:b=a
   ·have z':=(if_pos hb).symm.trans z;cases z';subst hb;exact ⟨ha,by rw [length_map];exact hl,vs,_,rv,ha⟩
   ·have z':=(if_neg hb).symm.trans z;cases z'
  ·by_cases hb:b=a
   ·exact hb
   ·exact absurd (if_neg hb) z
def qbY {l:PySem.W.OpenLaw} {n k:Nat} {q:Program} {loose:List Str} {XP:(Str->Option Value)->Heap->Prop} {YP:World->Heap->Prop} {d:DefRec} {K:Params->PySem.W.Frag} {CX:World->CXT} {sp:World->Sp} {x:Str}
  (hn:l.most=some n) (hn2:n<=sizeLine) (hdf:d.params.defaults=[]) (hr:Room k callerA)
  (hY:∀ (w:World) (h:Heap),YP w h->(K w.params).In h)
  (F:∀ (w:World) (mg:Str->Option Value) (fa:Addr) (h:Heap),(K w.params).In h->h.Ns mainGlobals mg->mg d.name=some (.ref fa) ->
   ∃ fd:FuncData,(∀ (s:Shared) (u:Value),BindsTo s fd ⟨[u],[]⟩ [(x,u)]) /\
    ∀ base:Heap,(K w.params).In base->base.Ns mainGlobals mg->FnOk l.prog w (K w.params) mg base (CX w) k fa fd [x] (sp w))
  (hsp:∀ (w:World) (H:Hp) (a:Addr) (ns:List Int),ns.length<=n->qhi H->SqL (K w.params) H a (ns.map V.int)->sp w [.ref a] H (λv _=>v=.bl true) λ_ _ _=>False)
  (hCX:∀ (w:World) (H:Hp) (s:Shared) (e:Value) (s':Shared),CX w [] H s (λ_ _ _=>False) e s'->False) :
  PySem.W.WalkO q loose XP YP l.row.toRowW d [] (λf vs=>PySem.call f vs):=by
 refine Att.CT hn hdf λw s₀ s₁ mg mb fa o pm cd doc a vs ns G Y ho hd hcd hmg hobj hints hlen hg=>?_;have KX:=hY w _ Y;obtain ⟨fd,hb,hF⟩:=F w mg fa _ KX G.T.g hmg;exact NL KX G.T.g G.T.b G.T.builtins G.T.nolimit hg hobj hints (Nat.le_trans hlen hn2) hr hF hb (λH hO hS=>hsp w H a ns hlen hO hS) λH e s'=>hCX w H s₁ e s'
def ZS (s:Stmt):Arguments:=match s with
 |.FunctionDef _ a _ _ _ _ _ _ _ _=>a
 |_=>{ posonlyargs:=[],args:=[],vararg:=none,kwonlyargs:=[],kw_defaults:=[],kwarg:=none,defaults:=[] }
def jk (s:Stmt):List Stmt:=match s with
 |.FunctionDef _ _ b _ _ _ _ _ _ _=>b
 |_=>[]
def qm (s:Stmt):Scope:=match s with
 |.FunctionDef _ _ _ _ _ _ sc _ _ _=>sc
 |_=>{ kind:=.function,names:=[],isGenerator:=false,isCoroutine:=false }
abbrev CX0:CXT:=λ_ _ _ _ _ _=>False
abbrev E0:XK:=λ_ _ _=>False
def qjh {X:Cx}:MB CX0 X E0:=λ_ _ _ _ _ _ _ h=>h.elim
structure Fun (K:Frg) (x qual:Str) (st:Stmt) (f:Addr) (fd:FuncData):Prop where
 ex:∃ (oc:Value) (od:Option Addr) (kV doc pm:Value) (an:Option Addr) (cdv ct:Value) (osl:Array (Option Value)),
  fd=PySem.W.fnOf x qual (ZS st) (jk st) (qm st) .none kV doc pm an cdv ct/\K.lookup f=some ⟨oc,od,.func fd,osl⟩/\PySem.W.codeIn K cdv qual=true
 kp:PySem.W.keepIn K (.ref f)=true
section
variable {P:Program} {w:World} {K:Frg} {mg:Str->Option Value} {base:Heap}
def Fun.ok {x qual:Str} {st:Stmt} {f:Addr} {fd:FuncData} {N ps:List Str} {k:Nat} {sp:Sp} (F:Fun K x qual st f fd) (S:FnScope N ps (qm st)) (len:∀ vs H Q E,sp vs H Q E->vs.length=ps.length)
  (hbody:∀ (cdv:Value) (A:Around) (outer:List Env) (s:Shared) (H:Hp) (vs:List V) (Q:VK) (E:XK),Room k (A.deeper (envOfC qual (qm st) s.heap.objs.size f cdv))->sp vs H Q E ->
   ∃ t,PSs (MV CX0 P w K mg base N qual (qm st) f cdv A outer s H E).nox (jk st) t/\t { nx:=λ_ H'=>Q .non H',rt:=Q } (UN N vs) H):FnOk P w K mg base CX0 (k+1) f fd ps sp:=by
 obtain ⟨oc,od,kV,doc,pm,an,cdv,ct,osl,rfl,lk,hcd⟩:=F.ex;refine qi7 lk hcd S len λA outer s H vs Q E hr hsp=>?_;obtain ⟨t,h,q⟩:=hbody cdv A outer s H vs Q E hr hsp;exact ⟨t,h.nox,q⟩
def Fun.binds {x qual:Str} {st:Stmt} {f:Addr} {fd:FuncData} {ps:List Str} (F:Fun K x qual st f fd)
  (h:∀ (kV doc pm:Value) (an:Option Addr) (cdv ct:Value) (us:List Value),us.length=ps.length->bindArgs (PySem.W.fnOf x qual (ZS st) (jk st) (qm st) .none kV doc pm an cdv ct) ⟨us,[]⟩=pure (ps.zip us)):zP K fd ps []:=by
 obtain ⟨oc,od,kV,doc,pm,an,cdv,ct,osl,rfl,lk,hcd⟩:=F.ex;exact .all (h kV doc pm an cdv ct)
def qeN {x qual:Str} {st:Stmt} {f:Addr} {oc:Value} {od an:Option Addr} {osl:Array (Option Value)} {kV doc pm cdv ct:Value} (l:K.lookup f=some ⟨oc,od,.func (PySem.W.fnOf x qual (ZS st) (jk st) (qm st) .none kV doc pm an cdv ct),osl⟩)
  (c:PySem.W.codeIn K cdv qual=true) (k:PySem.W.keepIn K (.ref f)=true):Fun K x qual st f (PySem.W.fnOf x qual (ZS st) (jk st) (qm st) .none kV doc pm an cdv ct):=⟨⟨oc,od,kV,doc,pm,an,cdv,ct,osl,rfl,l,c⟩,k⟩
end
section
variable {X:Cx}
end
def qke {A B:Prop} (h:B):if false=true then A else B:=by
 rw [if_neg Bool.false_ne_true];exact h
def qka {A B:Prop} (h:A):if true=true then A else B:=by
 rw [if_pos rfl];exact h
end L2
set_option maxHeartbeats 4000000
namespace L3
open PySem PySem.Spec PyProof.Rows L2
set_option genInjectivity true in
inductive T where
 |non|bl (b:Bool)|int (i:Int)|str (x:Str)|tup (xs:List T)|ref (a:Addr)
inductive O where
 |lst (xs:List T)
 |frz (xs:List T)
abbrev Gp:=Addr->Option O
def gu (G:Gp) (a:Addr) (o:O):Gp:=λb=>if b=a then some o else G b
def qE {G:Gp} {a:Addr} {o:O}:gu G a o a=some o:=by unfold gu;rw [if_pos rfl]
def jT {G:Gp} {a b:Addr} {o:O} (h:b≠a):gu G a o b=G b:=by unfold gu;rw [if_neg h]
mutual
inductive Rp (K:Frg) (H:Hp):T->V->Prop
 |non:Rp K H .non .non
 |bl (b:Bool):Rp K H (.bl b) (.bl b)
 |int (i:Int):Rp K H (.int i) (.int i)
 |str (x:Str):Rp K H (.str x) (.str x)
 |ref (a:Addr):Rp K H (.ref a) (.ref a)
 |tup {xs:List T} {a:Addr} {vs:List V}:SqT K H a vs->Rps K H xs vs->Rp K H (.tup xs) (.ref a)
inductive Rps (K:Frg) (H:Hp):List T->List V->Prop
 |nil:Rps K H [] []
 |cons {x:T} {v:V} {xs:List T} {vs:List V}:Rp K H x v->Rps K H xs vs->Rps K H (x::xs) (v::vs)
end
def OR (K:Frg) (H:Hp) (a:Addr):O->Prop
 |.lst xs=>∃ vs,H a=some (.lst vs)/\Rps K H xs vs
 |.frz xs=>∃ vs,(∃ o,H a=some (.frz o (.lst vs)))/\Rps K H xs vs
def HR (K:Frg) (G:Gp) (H:Hp):Prop:=∀ a o,G a=some o->OR K H a o
def Kp (G:Gp) (H:Hp) (G':Gp) (H':Hp):Prop:=∀ a o,H a=some o->G a=none->H' a=some o/\G' a=none
def Kp.refl {G:Gp} {H:Hp}:Kp G H G H:=λ_ _ h g=>⟨h,g⟩
def Kp.trans {G G1 G2:Gp} {H H1 H2:Hp} (a:Kp G H G1 H1) (b:Kp G1 H1 G2 H2):Kp G H G2 H2:=λx o h g=>
 let ⟨h1,g1⟩:=a x o h g;b x o h1 g1
section
variable {K:Frg} {G G':Gp} {H H':Hp}
def HR.noneT (hr:HR K G H) {a:Addr} {vs:List V} (h:Rd H a (.tup vs)):G a=none:=by
 cases e:G a with
 |none=>rfl
 |some o=>
  have q:=hr a o e;cases o with
  |lst xs=>
   obtain ⟨us,q1,_⟩:=q;rcases h with h|⟨ob,h⟩<;>(rw [q1] at h;cases h)
  |frz xs=>
   obtain ⟨us,⟨o1,q1⟩,_⟩:=q;rcases h with h|⟨ob,h⟩<;>(rw [q1] at h;cases h)
def RV (hr:HR K G H) (k:Kp G H G' H') {a:Addr} {vs:List V} (h:SqT K H a vs):SqT K H' a vs:=by
 rcases h with h|h
 ·have g:=hr.noneT h;rcases h with h|⟨o,h⟩
  ·exact .inl (.inl (k a _ h g).1)
  ·exact .inl (.inr ⟨o,(k a _ h g).1⟩)
 ·exact .inr h
mutual
def Rp.keep (hr:HR K G H) (k:Kp G H G' H'):∀ {x:T} {v:V},Rp K H x v->Rp K H' x v
 |_,_,.non=>.non
 |_,_,.bl b=>.bl b
 |_,_,.int i=>.int i
 |_,_,.str x=>.str x
 |_,_,.ref a=>.ref a
 |_,_,.tup h hs=>.tup (RV hr k h) (Rps.keep hr k hs)
def Rps.keep (hr:HR K G H) (k:Kp G H G' H'):∀ {x:List T} {v:List V},Rps K H x v->Rps K H' x v
 |_,_,.nil=>.nil
 |_,_,.cons a b=>.cons (Rp.keep hr k a) (Rps.keep hr k b)
end
def Rps.length:∀ {xs:List T} {vs:List V},Rps K H xs vs->xs.length=vs.length
 |_,_,.nil=>rfl
 |_,_,.cons _ b=>by simp [Rps.length b]
def Rps.get:∀ {xs:List T} {vs:List V} {i:Nat} {x:T},Rps K H xs vs->xs[i]?=some x->∃ v,vs[i]?=some v/\Rp K H x v
 |_,_,_,_,.nil,e=>by simp at e
 |_,_,0,_,.cons r _,e=>by simp at e;subst e;exact ⟨_,rfl,r⟩
 |_,_,i+1,x,.cons _ t,e=>by
  obtain ⟨u,h1,h2⟩:=Rps.get (i:=i) (x:=x) t (by simpa using e);exact ⟨u,by simpa using h1,h2⟩
def Rps.append:∀ {xs ys:List T} {vs us:List V},Rps K H xs vs->Rps K H ys us->Rps K H (xs++ys) (vs++us)
 |_,_,_,_,.nil,s=>s
 |_,_,_,_,.cons r t,s=>.cons r (Rps.append t s)
def Rps.take:∀ {xs:List T} {vs:List V} (n:Nat),Rps K H xs vs->Rps K H (xs.take n) (vs.take n)
 |_,_,0,_=>.nil
 |_,_,_+1,.nil=>.nil
 |_,_,n+1,.cons r t=>.cons r (Rps.take n t)
def Rps.drop:∀ {xs:List T} {vs:List V} (n:Nat),Rps K H xs vs->Rps K H (xs.drop n) (vs.drop n)
 |_,_,0,r=>r
 |_,_,_+1,.nil=>.nil
 |_,_,n+1,.cons _ t=>Rps.drop n t
def Rps.set {x:T} {v:V} (r:Rp K H x v):∀ {xs:List T} {vs:List V} (i:Nat),Rps K H xs vs->Rps K H (xs.set i x) (vs.set i v)
 |_,_,_,.nil=>.nil
 |_,_,0,.cons _ t=>.cons r t
 |_,_,i+1,.cons q t=>.cons q (Rps.set r i t)
def Rps.ints:∀ (ns:List Int),Rps K H (ns.map T.int) (ns.map V.int)
 |[]=>.nil
 |n::r=>.cons (.int n) (Rps.ints r)
def Rps.reverse {xs:List T} {vs:List V} (h:Rps K H xs vs):Rps K H xs.reverse vs.reverse:=by
 induction xs generalizing vs with
 |nil=>cases h;exact .nil
 |cons x r ih=>
  cases h with
  |cons a b=>
   rw [List.reverse_cons,List.reverse_cons];exact (ih b).append (.cons a .nil)
def Kp.laid {p:Addr} {ho:HO} (hp:H p=none):Kp G H G (upd H p ho):=λa o h g=>⟨by rw [zr (zj h hp)];exact h,g⟩
def HR.free (hr:HR K G H) {p:Addr} (hp:H p=none):G p=none:=by
 cases e:G p with
 |none=>rfl
 |some o=>
  have q:=hr p o e;cases o with
  |lst xs=>obtain ⟨us,q1,_⟩:=q;rw [hp] at q1;cases q1
  |frz xs=>obtain ⟨us,⟨o1,q1⟩,_⟩:=q;rw [hp] at q1;cases q1
def OR.keep (hr:HR K G H) (k:Kp G H G' H') {a:Addr} {o:O} (h:OR K H a o) (e:∀ u,H a=some u->H' a=some u):OR K H' a o:=by
 cases o with
 |lst xs=>obtain ⟨vs,h1,h2⟩:=h;exact ⟨vs,e _ h1,h2.keep hr k⟩
 |frz xs=>obtain ⟨vs,⟨o,h1⟩,h2⟩:=h;exact ⟨vs,⟨o,e _ h1⟩,h2.keep hr k⟩
def HR.laid (hr:HR K G H) {p:Addr} {ho:HO} (hp:H p=none):HR K G (upd H p ho):=λa o e=>
 (hr a o e).keep hr (Kp.laid hp) λu h=>by rw [zr (zj h hp)];exact h
def Kp.newL {p:Addr} {ho:HO} {o':O} (hp:H p=none):Kp G H (gu G p o') (upd H p ho):=λa o h g=>
 ⟨by rw [zr (zj h hp)];exact h,by rw [jT (zj h hp)];exact g⟩
def HR.newL (hr:HR K G H) {p:Addr} {xs:List T} {vs:List V} (hp:H p=none) (r:Rps K H xs vs):HR K (gu G p (.lst xs)) (upd H p (.lst vs)):=λa o e=>by
 by_cases ha:a=p
 ·subst ha;rw [qE] at e;cases e;exact ⟨vs,zK,r.keep hr (Kp.laid hp)⟩
 ·rw [jT ha] at e;exact (hr a o e).keep hr (Kp.laid hp) λu h=>by rw [zr ha];exact h
def Kp.wr {p:Addr} {ho:HO} {o o':O} (g:G p=some o):Kp G H (gu G p o') (upd H p ho):=λa ob h ga=>by
 have ha:a≠p:=by intro e;subst e;rw [g] at ga;cases ga
 exact ⟨by rw [zr ha];exact h,by rw [jT ha];exact ga⟩
def HR.wr (hr:HR K G H) {p:Addr} {ys xs:List T} {vs:List V} (g:G p=some (.lst ys)) (r:Rps K H xs vs):HR K (gu G p (.lst xs)) (upd H p (.lst vs)):=λa o e=>by
 have k:Kp G H (gu G p (.lst xs)) (upd H p (.lst vs)):=Kp.wr g;by_cases ha:a=p
 ·subst ha;rw [qE] at e;cases e;exact ⟨vs,zK,r.keep hr k⟩
 ·rw [jT ha] at e;exact (hr a o e).keep hr k λu h=>by rw [zr ha];exact h
end
abbrev St3:=List (Option T)
structure Rel (K:Frg) (τ:St3) (G:Gp) (σ:L2.St) (H:Hp):Prop where
 hp:HR K G H
 len:τ.length=σ.length
 st:∀ (i:Nat) (t:T),τ[i]?=some (some t)->∃ v,σ[i]?=some (some v)/\Rp K H t v
def Rel.next {K:Frg} {τ:St3} {G G':Gp} {σ:L2.St} {H H':Hp} (r:Rel K τ G σ H) (hr:HR K G' H') (k:Kp G H G' H'):Rel K τ G' σ H':=
 ⟨hr,r.len,λi t e=>let ⟨v,h1,h2⟩:=r.st i t e;⟨v,h1,h2.keep r.hp k⟩⟩
def Rel.set {K:Frg} {τ:St3} {G:Gp} {σ:L2.St} {H:Hp} {t:T} {v:V} (r:Rel K τ G σ H) (i:Nat) (h:Rp K H t v):Rel K (τ.set i (some t)) G (σ.set i (some v)) H:=by
 refine ⟨r.hp,by simp [r.len],λj u e=>?_⟩;by_cases hij:i=j
 ·subst hij;rw [List.getElem?_set_self'] at e;have hl:i<τ.length:=by
   cases q:τ[i]? with
   |none=>rw [q] at e;cases e
   |some z=>exact (List.getElem?_eq_some_iff.mp q).1
  rw [getElem?_eq_getElem hl] at e;have e':t=u:=by simpa using e
  subst e';exact ⟨v,by rw [List.getElem?_set_self (by rw [← r.len];exact hl)],h⟩
 ·rw [List.getElem?_set_ne hij] at e;obtain ⟨w,h1,h2⟩:=r.st j u e;exact ⟨w,by rw [List.getElem?_set_ne hij];exact h1,h2⟩
abbrev Q3:=T->Gp->Prop
abbrev TE3:=St3->Gp->Q3->Prop
abbrev TT3:=St3->Gp->(Bool->Gp->Prop)->Prop
abbrev TA3:=St3->Gp->(List T->Gp->Prop)->Prop
def Aft (K:Frg) (G:Gp) (H:Hp) (q:Q3) (Q:VK):Prop:=∀ x G',q x G'->∀ v H',Rp K H' x v->HR K G' H'->Kp G H G' H'->Q v H'
def qhn (K:Frg) (G:Gp) (H:Hp) (q:Bool->Gp->Prop) (Q:Bool->Hp->Prop):Prop:=∀ x G',q x G'->∀ H',HR K G' H'->Kp G H G' H'->Q x H'
def qkM (K:Frg) (G:Gp) (H:Hp) (q:List T->Gp->Prop) (Q:List V->Hp->Prop):Prop:=∀ x G',q x G'->∀ v H',Rps K H' x v->HR K G' H'->Kp G H G' H'->Q v H'
def lE (K:Frg) (t:TE3):TE:=λσ H Q=>∃ τ G q,Rel K τ G σ H/\t τ G q/\Aft K G H q Q
def lT (K:Frg) (t:TT3):TT:=λσ H Q=>∃ τ G q,Rel K τ G σ H/\t τ G q/\qhn K G H q Q
def lA (K:Frg) (t:TA3):TA:=λσ H Q=>∃ τ G q,Rel K τ G σ H/\t τ G q/\qkM K G H q Q
abbrev E3 (X:Cx) (e:Expr) (t:TE3):Prop:=PE X e (lE X.K t)
abbrev C3 (X:Cx) (e:Expr) (t:TT3):Prop:=PT X e (lT X.K t)
abbrev W3 (X:Cx) (e:Expr) (t:TT3):Prop:=PW X e (lT X.K t)
abbrev A3 (X:Cx) (es:List Expr) (t:TA3):Prop:=PA X es (lA X.K t)
def Aft.back {K:Frg} {G G1:Gp} {H H1:Hp} {q:Q3} {Q:VK} (a:Aft K G H q Q) (k:Kp G H G1 H1):Aft K G1 H1 q Q:=λx G' h v H' r hr k'=>a x G' h v H' r hr (k.trans k')
def qhn.back {K:Frg} {G G1:Gp} {H H1:Hp} {q:Bool->Gp->Prop} {Q:Bool->Hp->Prop} (a:qhn K G H q Q) (k:Kp G H G1 H1):qhn K G1 H1 q Q:=λx G' h H' hr k'=>a x G' h H' hr (k.trans k')
def DZ {X:Cx} {e:Expr} {t t':TE} (h:PE X e t) (w:∀ σ H Q,t' σ H Q->t σ H Q):PE X e t':=λpins s σ H Q I q=>h pins s σ H Q I (w σ H Q q)
def qjC {X:Cx} {e:Expr} {t t':TT} (h:PT X e t) (w:∀ σ H Q,t' σ H Q->t σ H Q):PT X e t':=λpins s σ H Q I q=>h pins s σ H Q I (w σ H Q q)
def qkY {X:Cx} {e:Expr} {t t':TT} (h:PW X e t) (w:∀ σ H Q,t' σ H Q->t σ H Q):PW X e t':=λwh pins s σ H Q I q=>h wh pins s σ H Q I (w σ H Q q)
def qki {X:Cx} {e:List Expr} {t t':TA} (h:PA X e t) (w:∀ σ H Q,t' σ H Q->t σ H Q):PA X e t':=λpos pins s σ H Q I q=>h pos pins s σ H Q I (w σ H Q q)
def jb {K:Frg} {ta:TE3} {τ:St3} {G:Gp} {σ:L2.St} {H:Hp} {q:Q3} {Q:VK} (r:Rel K τ G σ H) (h:ta τ G q)
  (n:∀ x G1,q x G1->∀ v H1,Rp K H1 x v->HR K G1 H1->Kp G H G1 H1->Rel K τ G1 σ H1->Q v H1):lE K ta σ H Q:=
 ⟨τ,G,q,r,h,λx G1 hq v H1 rx hr k=>n x G1 hq v H1 rx hr k (r.next hr k)⟩
def CG {K:Frg} {ta:TT3} {τ:St3} {G:Gp} {σ:L2.St} {H:Hp} {q:Bool->Gp->Prop} {Q:Bool->Hp->Prop} (r:Rel K τ G σ H) (h:ta τ G q)
  (n:∀ x G1,q x G1->∀ H1,HR K G1 H1->Kp G H G1 H1->Rel K τ G1 σ H1->Q x H1):lT K ta σ H Q:=
 ⟨τ,G,q,r,h,λx G1 hq H1 hr k=>n x G1 hq H1 hr k (r.next hr k)⟩
def UA {K:Frg} {ta:TA3} {τ:St3} {G:Gp} {σ:L2.St} {H:Hp} {q:List T->Gp->Prop} {Q:List V->Hp->Prop} (r:Rel K τ G σ H) (h:ta τ G q)
  (n:∀ x G1,q x G1->∀ v H1,Rps K H1 x v->HR K G1 H1->Kp G H G1 H1->Rel K τ G1 σ H1->Q v H1):lA K ta σ H Q:=
 ⟨τ,G,q,r,h,λx G1 hq v H1 rx hr k=>n x G1 hq v H1 rx hr k (r.next hr k)⟩
section
variable {X:Cx} {a b c:Expr} {ta tb tc:TE3} {pos:Pos}
def v3 (i:Nat):TE3:=λτ G q=>match τ[i]? with|some (some t)=>q t G|_=>False
def qh3 (i:Nat) {x:Str} {pos:Pos} (hN:X.N[i]?=some x:=by rfl) (hv:Vis X.env.scope x:=by first|exact Or.inl rfl|exact Or.inr (Or.inl rfl)|exact Or.inr (Or.inr rfl)) (hd:(x==("__debug__" : Str))=false:=by decide)
  (hcd:(x==("__classdict__" : Str))=false:=by decide):E3 X (.Name x pos) (v3 i):=by
 refine DZ (qew (i:=i) hN hv hd hcd) λσ H Q ⟨τ,G,q,r,h,af⟩=>?_;unfold v3 at h;split at h
 ·rename_i t e;obtain ⟨v,e2,rv⟩:=r.st i t e;exact ⟨v,e2,af t G h v H rv r.hp Kp.refl⟩
 ·exact h.elim
def c3 (t:T):TE3:=λ_ G q=>q t G
def e_c {t:T} {v:V} {e:Expr} (h:PE X e (tC v)) (hr:∀ H,Rp X.K H t v):E3 X e (c3 t):=DZ h λσ H Q ⟨τ,G,q,r,h,af⟩=>af t G h v H (hr H) r.hp Kp.refl
def qiV {i:Int} {j pos}:E3 X (.Constant (.int i) j pos) (c3 (.int i)):=e_c qdz λ_=>.int i
def qkr {b:Bool} {j pos}:E3 X (.Constant (.bool b) j pos) (c3 (.bl b)):=e_c qjj λ_=>.bl b
def qjE {j pos}:E3 X (.Constant .none j pos) (c3 .non):=e_c qdP λ_=>.non
def qie {x:Str} {j pos}:E3 X (.Constant (.str x) j pos) (c3 (.str x)):=e_c qga λ_=>.str x
def n3:TE3:=λ_ _ _=>False
abbrev R3:=T->T->Gp->Q3->Prop
def W6 (K:Frg) (r3:R3) (r:R2):Prop:=∀ x y v u G H q Q,HR K G H->Rp K H x v->Rp K H y u->r3 x y G q->Aft K G H q Q->r v u H Q
def o3 (r:R3) (ta tb:TE3):TE3:=λτ G q=>ta τ G λx G1=>tb τ G1 λy G2=>r x y G2 q
def NC {K:Frg} {r3:R3} {r:R2} (hr:W6 K r3 r) {σ:L2.St} {H:Hp} {Q:VK} (h:lE K (o3 r3 ta tb) σ H Q):tOp r (lE K ta) (lE K tb) σ H Q:=by
 obtain ⟨τ,G,q,rl,h,af⟩:=h;refine jb rl h λx G1 h1 v H1 rx hr1 k1 rl1=>jb rl1 h1 λy G2 h2 u H2 ry hr2 k2 rl2=>?_;exact hr x y v u G2 H2 q Q hr2 (rx.keep hr1 k2) ry h2 (af.back (k1.trans k2))
def qaQ {op:Operator} {r3:R3} {r:R2} (ho:OpR X (binaryOp op) r) (hr:W6 X.K r3 r) (ha:E3 X a ta) (hb:E3 X b tb):E3 X (.BinOp a op b pos) (o3 r3 ta tb):=
 DZ (qiQ ho ha hb) λ_ _ _ h=>NC hr h
def qi1 {op:CmpOp} {r3:R3} {r:R2} (ho:OpR X (compareOp op) r) (hr:W6 X.K r3 r) (ha:E3 X a ta) (hb:E3 X b tb) (hm:behindInMarks op b=false):E3 X (.Compare a [op] [b] pos) (o3 r3 ta tb):=
 DZ (qc9 ho ha hb hm) λ_ _ _ h=>NC hr h
def tb3 (t:TE3):TT3:=λτ G q=>t τ G λx G'=>match x with|.bl k=>q k G'|_=>False
def qfD {K:Frg} {t:TE3} {t2:TE} (hw:∀ σ H Q,lE K t σ H Q->t2 σ H Q) {σ:L2.St} {H:Hp} {Q:Bool->Hp->Prop} (h:lT K (tb3 t) σ H Q):qfg t2 σ H Q:=by
 obtain ⟨τ,G,q,rl,h,af⟩:=h;refine hw _ _ _ (jb rl h λx G1 h1 v H1 rx hr1 k1 rl1=>?_);cases x with
 |bl k=>cases rx;exact ⟨k,rfl,af k G1 h1 H1 hr1 k1⟩
 |_=>exact h1.elim
def qhG {op:CmpOp} {r3:R3} {r:R2} (ho:OpR X (compareOp op) r) (hr:W6 X.K r3 r) (ha:E3 X a ta) (hb:E3 X b tb) (hm:behindInMarks op b=false):C3 X (.Compare a [op] [b] pos) (tb3 (o3 r3 ta tb)):=
 qjC (qce ho ha hb hm) λ_ _ _ h=>qfD (λ_ _ _=>NC hr) h
def ch3 (r r':R3) (ta tb tc:TE3):TE3:=λτ G q=>ta τ G λx G1=>tb τ G1 λy G2=>r x y G2 λz G3=>match z with
 |.bl k=>if k=true then tc τ G3 λw G4=>r' y w G4 q else q (.bl false) G3
 |_=>False
def qj9 (K:Frg) (r3:T->Gp->Q3->Prop) (r:V->Hp->VK->Prop):Prop:=∀ x v G H q Q,HR K G H->Rp K H x v->r3 x G q->Aft K G H q Q->r v H Q
def u3 (r:T->Gp->Q3->Prop) (ta:TE3):TE3:=λτ G q=>ta τ G λx G1=>r x G1 q
def qkU {op:UnaryOp} {r3:T->Gp->Q3->Prop} {r:V->Hp->VK->Prop} (ho:UnR X (unaryOp op) r) (hr:qj9 X.K r3 r) (ha:E3 X a ta):E3 X (.UnaryOp op a pos) (u3 r3 ta):=
 DZ (qjt ho ha) λ_ _ _ ⟨τ,G,q,rl,h,af⟩=>jb rl h λx G1 h1 v H1 rx hr1 k1 rl1=>hr x v G1 H1 q _ hr1 rx h1 (af.back k1)
def UP:T->Gp->Q3->Prop:=λx G q=>match x with|.int i=>q (.int (-i)) G|_=>False
def qdh {K:Frg}:qj9 K UP (rU λi=>.int (-i)):=λx v G H q Q hr rx h af=>by
 cases x with
 |int i=>cases rx;exact ⟨i,rfl,af _ G h _ H (.int _) hr Kp.refl⟩
 |_=>exact h.elim
def iI (f:Int->Int->Int):R3:=λx y G q=>match x,y with|.int i,.int j=>q (.int (f i j)) G|_,_=>False
def iC (C:Int->Int->Prop) (f:Int->Int->Int):R3:=λx y G q=>match x,y with|.int i,.int j=>C i j/\q (.int (f i j)) G|_,_=>False
def iB (f:Int->Int->Bool):R3:=λx y G q=>match x,y with|.int i,.int j=>q (.bl (f i j)) G|_,_=>False
def qeo {K:Frg} {f:Int->Int->Int}:W6 K (iI f) (rI0 λi j=>.int (f i j)):=λx y v u G H q Q hr rx ry h af=>by
 cases x<;>try exact h.elim
 cases y<;>try exact h.elim
 cases rx;cases ry;exact ⟨_,_,rfl,rfl,af _ G h _ H (.int _) hr Kp.refl⟩
def RU {K:Frg} {C:Int->Int->Prop} {f:Int->Int->Int}:W6 K (iC C f) (rI C λi j=>.int (f i j)):=λx y v u G H q Q hr rx ry h af=>by
 cases x<;>try exact h.elim
 cases y<;>try exact h.elim
 cases rx;cases ry;exact ⟨_,_,rfl,rfl,h.1,af _ G h.2 _ H (.int _) hr Kp.refl⟩
def Z4 {K:Frg} {f:Int->Int->Bool}:W6 K (iB f) (rI0 λi j=>.bl (f i j)):=λx y v u G H q Q hr rx ry h af=>by
 cases x<;>try exact h.elim
 cases y<;>try exact h.elim
 cases rx;cases ry;exact ⟨_,_,rfl,rfl,af _ G h _ H (.bl _) hr Kp.refl⟩
def qiD (ha:E3 X a ta) (hb:E3 X b tb):E3 X (.BinOp a .Sub b pos) (o3 (iI (·-·)) ta tb):=qaQ qgG qeo ha hb
def qij (ha:E3 X a ta) (hb:E3 X b tb):E3 X (.BinOp a .Mult b pos) (o3 (iC YO (·*·)) ta tb):=qaQ qgr RU ha hb
def qjw (ha:E3 X a ta) (hb:E3 X b tb):E3 X (.BinOp a .Mod b pos) (o3 (iC (λ_ j=>0<j) (·%·)) ta tb):=qaQ qfw RU ha hb
def qh4 (ha:E3 X a ta) (hb:E3 X b tb):E3 X (.BinOp a .FloorDiv b pos) (o3 (iC KC (·/·)) ta tb):=qaQ qcZ RU ha hb
def qi8 (ha:E3 X a ta) (hb:E3 X b tb):E3 X (.BinOp a .Pow b pos) (o3 (iC XZ (λi j=>i ^ j.toNat)) ta tb):=qaQ qdX RU ha hb
def qiq (ha:E3 X a ta):E3 X (.UnaryOp .USub a pos) (u3 UP ta):=qkU qdH qdh ha
def QG:T->T->Option Bool
 |.non,.non=>some true|.non,.int _=>some false|.int _,.non=>some false|.non,.bl _=>some false|.bl _,.non=>some false|.non,.str _=>some false|.str _,.non=>some false
 |.int i,.int j=>some (decide (i=j))|.bl i,.bl j=>some (decide (i=j))|.str i,.str j=>some (decide (i=j))
 |.int _,.str _=>some false|.str _,.int _=>some false|.bl _,.str _=>some false|.str _,.bl _=>some false
 |_,_=>none
def SC {K:Frg} {H:Hp} {x y:T} {v u:V} {k:Bool} (rx:Rp K H x v) (ry:Rp K H y u) (h:QG x y=some k):qjv v u=true/\decide (v=u)=k:=by
 cases rx<;>cases ry<;>simp [QG] at h<;>subst h<;>refine ⟨rfl,?_⟩<;>simp
def qgF (neg:Bool):R3:=λx y G q=>match y with|.non=>q (.bl (match x with|.non=>!neg|_=>neg)) G|_=>False
variable {tA tB:TT3} {J2:List Expr}
def qfR (t u:TT3):TT3:=λτ G q=>t τ G λk G1=>if k=true then u τ G1 q else q false G1
def or3 (t u:TT3):TT3:=λτ G q=>t τ G λk G1=>if k=true then q true G1 else u τ G1 q
def W7 (t:TT3):TT3:=λτ G q=>t τ G λk G1=>q (!k) G1
def qio (ha:C3 X a tA):W3 X (.BoolOp .Or [a] pos) tA:=qe8 ha
def qky (ha:C3 X a tA) (hb:W3 X (.BoolOp .Or (b::J2) pos) tB):W3 X (.BoolOp .Or (a::b::J2) pos) (or3 tA tB):=
 qkY (qia ha hb) λ_ _ _ ⟨τ,G,q,rl,h,af⟩=>CG rl h λk G1 h1 H1 hr1 k1 rl1=>by
  cases k with
  |true=>rw [if_pos rfl] at h1 ⊢;exact af _ G1 h1 H1 hr1 k1
  |false=>rw [if_neg Bool.false_ne_true] at h1 ⊢;exact ⟨τ,G1,q,rl1,h1,af.back k1⟩
def qiO (ha:C3 X a tA):C3 X (.UnaryOp .Not a pos) (W7 tA):=
 qjC (qgO ha) λ_ _ _ ⟨τ,G,q,rl,h,af⟩=>CG rl h λk G1 h1 H1 hr1 k1 rl1=>af _ G1 h1 H1 hr1 k1
def qhK {e:Expr} {t:TE3} (h:E3 X e t) (he:∀ whole,isTrue e X.env whole=(do let v←whole;standAt e.pos;holding [v] (truthy v)):=by intro _;rfl):C3 X e (tb3 t):=
 qjC (qdC h he) λ_ _ _ h=>qfD (λ_ _ _ h=>h) h
def JZ (ta tb:TE3):TE3:=λτ G q=>ta τ G λx G1=>match x with|.bl k=>if k=true then tb τ G1 q else q (.bl false) G1|_=>False
def qdM (ta tb:TE3):TE3:=λτ G q=>ta τ G λx G1=>match x with|.bl k=>if k=true then q (.bl true) G1 else tb τ G1 q|_=>False
def WO (ta:TE3):TE3:=λτ G q=>ta τ G λx G1=>match x with|.bl k=>q (.bl (!k)) G1|_=>False
def qiG {op} (h:E3 X a ta):E3 X (.BoolOp op [a] pos) ta:=qdY h
def qix (ha:E3 X a ta) (hb:E3 X (.BoolOp .And (b::J2) pos) tb):E3 X (.BoolOp .And (a::b::J2) pos) (JZ ta tb):=
 DZ (qgC ha hb) λ_ _ _ ⟨τ,G,q,rl,h,af⟩=>jb rl h λx G1 h1 v H1 rx hr1 k1 rl1=>by
  cases x with
  |bl k=>
   cases rx;refine ⟨k,rfl,?_⟩;cases k with
   |true=>rw [if_pos rfl];exact ⟨τ,G1,q,rl1,(show tb τ G1 q from by simpa using h1),af.back k1⟩
   |false=>rw [if_neg Bool.false_ne_true];exact af _ G1 (by simpa using h1) _ H1 (.bl false) hr1 k1
  |_=>exact h1.elim
def qiA (ha:E3 X a ta):E3 X (.UnaryOp .Not a pos) (WO ta):=
 DZ (qf1 ha) λ_ _ _ ⟨τ,G,q,rl,h,af⟩=>jb rl h λx G1 h1 v H1 rx hr1 k1 rl1=>by
  cases x with
  |bl k=>cases rx;exact ⟨k,rfl,af _ G1 h1 _ H1 (.bl _) hr1 k1⟩
  |_=>exact h1.elim
def if3 (t:TT3) (ta tb:TE3):TE3:=λτ G q=>t τ G λk G1=>if k=true then ta τ G1 q else tb τ G1 q
def qkN {c:Expr} (hc:C3 X c tA) (ha:E3 X a ta) (hb:E3 X b tb):E3 X (.IfExp c a b pos) (if3 tA ta tb):=
 DZ (qag hc ha hb) λ_ _ _ ⟨τ,G,q,rl,h,af⟩=>CG rl h λk G1 h1 H1 hr1 k1 rl1=>by
  cases k with
  |true=>rw [if_pos rfl] at h1 ⊢;exact ⟨τ,G1,q,rl1,h1,af.back k1⟩
  |false=>rw [if_neg Bool.false_ne_true] at h1 ⊢;exact ⟨τ,G1,q,rl1,h1,af.back k1⟩
variable {e:Expr} {es:List Expr} {te:TE3} {t:TA3}
def qi:TA3:=λ_ G q=>q [] G
def qb (ta:TE3) (tr:TA3):TA3:=λτ G q=>ta τ G λx G1=>tr τ G1 λxs G2=>q (x::xs) G2
def qjk:A3 X [] qi:=qki qbF λ_ H _ ⟨τ,G,q,rl,h,af⟩=>af _ G h _ H .nil rl.hp Kp.refl
def qgT (ha:E3 X e te) (hr:A3 X es t) (hs:starEach (e::es) X.env=(false,eval e X.env)::starEach es X.env:=by rfl):A3 X (e::es) (qb te t):=
 qki (RM ha hr hs) λ_ _ _ ⟨τ,G,q,rl,h,af⟩=>jb rl h λx G1 h1 v H1 rx hr1 k1 rl1=>UA rl1 h1 λxs G2 h2 vs H2 rs hr2 k2 rl2=>
  af _ G2 h2 _ H2 (.cons (rx.keep hr1 k2) rs) hr2 (k1.trans k2)
def qH (t:TA3):TE3:=λτ G q=>t τ G λxs G1=>xs.length<=sizeLine/\q (.tup xs) G1
def jR (t:TA3):TE3:=λτ G q=>t τ G λxs G1=>xs.length<=sizeLine/\∀ p,G1 p=none->q (.ref p) (gu G1 p (.lst xs))
def qib {x1} (h:A3 X es t):E3 X (.Tuple es x1 pos) (qH t):=
 DZ (qfm h) λ_ _ _ ⟨τ,G,q,rl,h,af⟩=>UA rl h λxs G1 h1 vs H1 rs hr1 k1 rl1=>⟨by rw [← rs.length];exact h1.1,λp hp=>
  af _ G1 h1.2 _ _ (.tup (SqT.of zK) (rs.keep hr1 (Kp.laid hp))) (hr1.laid hp) (k1.trans (Kp.laid hp))⟩
def qid (h:A3 X es t):E3 X (.List es pos) (jR t):=
 DZ (qfU h) λ_ _ _ ⟨τ,G,q,rl,h,af⟩=>UA rl h λxs G1 h1 vs H1 rs hr1 k1 rl1=>⟨by rw [← rs.length];exact h1.1,λp hp=>
  af _ _ (h1.2 p (hr1.free hp)) _ _ (.ref p) (hr1.newL hp rs) (k1.trans (Kp.newL hp))⟩
def TZ (K:Frg) (r3:List T->Gp->Q3->Prop) (r:List V->Hp->VK->Prop):Prop:=∀ xs vs G H q Q,HR K G H->Rps K H xs vs->r3 xs G q->Aft K G H q Q->r vs H Q
def cb3 (r:List T->Gp->Q3->Prop) (t:TA3):TE3:=λτ G q=>t τ G λxs G1=>r xs G1 q
def qg3 {K:Frg} {r3:List T->Gp->Q3->Prop} {r:List V->Hp->VK->Prop} (hr:TZ K r3 r) {σ:L2.St} {H:Hp} {Q:VK} (h:lE K (cb3 r3 t) σ H Q):tCB r (lA K t) σ H Q:=by
 obtain ⟨τ,G,q,rl,h,af⟩:=h;exact UA rl h λxs G1 h1 vs H1 rs hr1 k1 rl1=>hr xs vs G1 H1 q Q hr1 rs h1 (af.back k1)
def qcU {x:Str} {p:Pos} {id:String} {r3:List T->Gp->Q3->Prop} {r:List V->Hp->VK->Prop} (hc:YJ X (.builtin id) r) (hr:TZ X.K r3 r) (hg:Gl X x) (hm:X.mg x=none) (hv:bootBuiltins x=some (.builtin id)) (ha:A3 X (e::es) t) (hn:x≠"__name__" := by decide) (hdb:(x==("__debug__" : Str))=false:=by decide)
  (he:starEach (e::es) X.env=(false,eval e X.env)::starEach es X.env:=by rfl) (hpl:(backTo pos (starEach es X.env)).any (·.1)=false:=by rfl):E3 X (.Call (.Name x p) (e::es) [] pos) (cb3 r3 t):=
 DZ (RZ hc hg hm hv ha hn hdb he hpl) λ_ _ _ h=>qg3 hr h
def M1 {x:Str} {p:Pos} {ty:String} {r3:List T->Gp->Q3->Prop} {r:List V->Hp->VK->Prop} (hc:YJ X (.type ty) r) (hr:TZ X.K r3 r) (hg:Gl X x) (hm:X.mg x=none) (hv:bootBuiltins x=some (.type ty)) (ha:A3 X (e::es) t) (hn:x≠"__name__" := by decide) (hdb:(x==("__debug__" : Str))=false:=by decide)
  (he:starEach (e::es) X.env=(false,eval e X.env)::starEach es X.env:=by rfl) (hpl:(backTo pos (starEach es X.env)).any (·.1)=false:=by rfl):E3 X (.Call (.Name x p) (e::es) [] pos) (cb3 r3 t):=
 DZ (MH hc hg hm hv ha hn hdb he hpl) λ_ _ _ h=>qg3 hr h
end
def jq (G:Gp) (p:Addr):Option (List T):=match G p with|some (.lst xs)=>some xs|some (.frz xs)=>some xs|none=>none
section
variable {K:Frg} {G G':Gp} {H H':Hp}
def jr (hr:HR K G H) {p:Addr} {xs:List T} (h:jq G p=some xs):∃ vs,SqL K H p vs/\Rps K H xs vs:=by
 unfold jq at h;split at h
 ·rename_i ys e;cases h;obtain ⟨vs,h1,h2⟩:=hr p _ e;exact ⟨vs,SqL.of h1,h2⟩
 ·rename_i ys e;cases h;obtain ⟨vs,⟨o,h1⟩,h2⟩:=hr p _ e;exact ⟨vs,.inl (.inr ⟨o,h1⟩),h2⟩
 ·cases h
def HR.lst (hr:HR K G H) {p:Addr} {xs:List T} (h:G p=some (.lst xs)):∃ vs,H p=some (.lst vs)/\Rps K H xs vs:=hr p _ h
def Rps.atI {xs:List T} {vs:List V} {i:Int} {x:T} (r:Rps K H xs vs) (h:atI xs i=some x):∃ v,L2.atI vs i=some v/\Rp K H x v:=by
 unfold L2.atI at h ⊢;rw [← r.length];cases e:ixN xs.length i with
 |none=>rw [e] at h;cases h
 |some j=>
  rw [e] at h;exact r.get (by simpa using h)
end
def ix3:R3:=λx y G q=>match x,y with
 |.tup xs,.int i=>(match atI xs i with|some z=>q z G|none=>False)
 |.ref p,.int i=>(match jq G p with|some xs=>(match atI xs i with|some z=>q z G|none=>False)|none=>False)
 |_,_=>False
section
variable {X:Cx} {a b c e:Expr} {es:List Expr} {ta tb tc te:TE3} {t:TA3} {pos:Pos}
def qgD {K:Frg}:W6 K ix3 (rIx K):=λx y v u G H q Q hr rx ry h af=>by
 cases x<;>try exact h.elim
 case tup xs=>
  cases y<;>try exact h.elim
  case int i=>
   unfold ix3 at h;simp only at h;split at h
   ·rename_i z e;cases ry;cases rx with
    |tup hs rs=>
     obtain ⟨w,e2,rw'⟩:=rs.atI e;exact .inr (.inl ⟨_,_,i,w,rfl,rfl,hs,e2,af z G h w H rw' hr Kp.refl⟩)
   ·exact h.elim
 case ref p=>
  cases y<;>try exact h.elim
  case int i=>
   unfold ix3 at h;simp only at h;split at h
   ·rename_i xs e0;split at h
    ·rename_i z e;cases ry;cases rx;obtain ⟨vs,hs,rs⟩:=jr hr e0;obtain ⟨w,e2,rw'⟩:=rs.atI e;exact .inl ⟨p,vs,i,w,rfl,rfl,hs,e2,af z G h w H rw' hr Kp.refl⟩
    ·exact h.elim
   ·exact h.elim
def qkH (ha:E3 X a ta) (hb:E3 X b tb) (hs:RI b:=by intro _ _;rfl):E3 X (.Subscript a b pos) (o3 ix3 ta tb):=DZ (qh6 qf0 ha hb hs) λ_ _ _ h=>NC qgD h
def YY {α:Type} (xs:List α) (lo hi:Option Int):List α:=(xs.drop (HT.sIx xs.length 0 lo)).take (HT.sIx xs.length xs.length hi-HT.sIx xs.length 0 lo)
def Rps.cut {K:Frg} {H:Hp} {xs:List T} {vs:List V} (r:Rps K H xs vs) (lo hi:Option Int):Rps K H (YY xs lo hi) (qa8 vs lo hi):=by
 unfold YY qa8;rw [r.length];exact (r.drop _).take _
abbrev TO3:=St3->Gp->(Option Int->Gp->Prop)->Prop
def lO (K:Frg) (t:TO3):TO:=λσ H Q=>∃ τ G q,Rel K τ G σ H/\t τ G q/\∀ x G',q x G'->∀ H',HR K G' H'->Kp G H G' H'->Q x H'
abbrev P3 (X:Cx) (e:Option Expr) (t:TO3):Prop:=PO X e (lO X.K t)
def np3:TO3:=λ_ G q=>q none G
def sp3 (t:TE3):TO3:=λτ G q=>t τ G λx G1=>match x with|.int i=>q (some i) G1|_=>False
def qj8 {X:Cx} {e:Option Expr} {t t':TO} (h:PO X e t) (w:∀ σ H Q,t' σ H Q->t σ H Q):PO X e t':=λpins s σ H Q I q=>h pins s σ H Q I (w σ H Q q)
def qfy:P3 X none np3:=qj8 qcP λ_ H _ ⟨τ,G,q,rl,h,af⟩=>af none G h H rl.hp Kp.refl
def qgu (h:E3 X e te):P3 X (some e) (sp3 te):=qj8 (qb3 h) λ_ _ _ ⟨τ,G,q,rl,h,af⟩=>jb rl h λx G1 h1 v H1 rx hr1 k1 rl1=>by
 cases x<;>try exact h1.elim
 cases rx;exact ⟨_,rfl,af _ G1 h1 H1 hr1 k1⟩
def sl3:T->Option Int->Option Int->Gp->Q3->Prop:=λx lo hi G q=>match x with
 |.tup xs=>¬ (HT.sIx xs.length 0 lo=0/\HT.sIx xs.length xs.length hi=xs.length)/\q (.tup (YY xs lo hi)) G
 |.ref p=>(match jq G p with|some xs=>∀ a,G a=none->q (.ref a) (gu G a (.lst (YY xs lo hi)))|none=>False)
 |_=>False
def C0 (te:TE3) (tl th:TO3):TE3:=λτ G q=>te τ G λx G1=>tl τ G1 λl G2=>th τ G2 λu G3=>sl3 x l u G3 q
def qcH {lo hi:Option Expr} {tl th:TO3} {p2:Pos} (he:E3 X e te) (hl:P3 X lo tl) (hu:P3 X hi th):E3 X (.Subscript e (.Slice lo hi none p2) pos) (C0 te tl th):=
 DZ (R0 (qbv.or LM) he hl hu) λ_ _ _ ⟨τ,G,q,rl,h,af⟩=>jb rl h λx G1 h1 v H1 rx hr1 k1 rl1=>
  ⟨τ,G1,_,rl1,h1,λl G2 h2 H2 hr2 k2=>⟨τ,G2,_,rl1.next hr2 k2,h2,λu G3 h3 H3 hr3 k3=>by
   have kk:=(k1.trans k2).trans k3;have rx3:=(rx.keep hr1 k2).keep hr2 k3;cases x<;>try exact h3.elim
   case tup xs=>
    cases rx3 with
    |tup hs rs=>
     refine .inl ⟨_,_,rfl,hs,by rw [← rs.length];exact h3.1,λp hp=>?_⟩;exact af _ G3 h3.2 _ _ (.tup (SqT.of zK) ((rs.cut _ _).keep hr3 (Kp.laid hp))) (hr3.laid hp) (kk.trans (Kp.laid hp))
   case ref p=>
    unfold sl3 at h3;simp only at h3;split at h3
    ·rename_i xs e0;cases rx3;obtain ⟨vs,hs,rs⟩:=jr hr3 e0;refine .inr ⟨p,vs,rfl,hs,λa ha=>?_⟩;exact af _ _ (h3 a (hr3.free ha)) _ _ (.ref a) (hr3.newL ha (rs.cut _ _)) (kk.trans (Kp.newL ha))
    ·exact h3.elim⟩⟩
def K4 {K:Frg} {H:Hp} {xs:List T} {vs:List V} (r:Rps K H xs vs):vs=[]↔xs=[]:=by
 cases r<;>simp
def zN:R3:=λx y G q=>match x,y with
 |.tup xs,.tup ys=>xs≠[]/\xs.length+ys.length<=sizeLine/\q (.tup (xs++ys)) G
 |.ref a,.ref b=>(match G a,G b with|some (.lst xs),some (.lst ys)=>xs.length+ys.length<=sizeLine/\∀ p,G p=none->q (.ref p) (gu G p (.lst (xs++ys)))|_,_=>False)
 |.int i,.int j=>q (.int (i+j)) G
 |_,_=>False
def WP {K:Frg}:W6 K zN (λx y H Q=>(rI0 (λi j=>.int (i+j)) x y H Q\/qcJ K x y H Q)\/qiE x y H Q):=λx y v u G H q Q hr rx ry h af=>by
 cases x<;>try exact h.elim
 case int i=>
  cases y<;>try exact h.elim
  cases rx;cases ry;exact .inl (.inl ⟨_,_,rfl,rfl,af _ G h _ H (.int _) hr Kp.refl⟩)
 case tup xs=>
  cases y<;>try exact h.elim
  case tup ys=>
   obtain ⟨h1,h2,h3⟩:=h;cases rx with
   |tup hs rs=>
    cases ry with
    |tup hs' rs'=>
     refine .inl (.inr ⟨_,_,_,_,rfl,rfl,hs,hs',λz=>h1 ((K4 rs).mp z),by rw [← rs.length,← rs'.length];exact h2,λz=>?_,λz p hp=>?_⟩)
     ·have e:=(K4 rs').mp z;subst e;rw [List.append_nil] at h3;exact af _ G h3 _ H (.tup hs rs) hr Kp.refl
     ·exact af _ G h3 _ _ (.tup (SqT.of zK) ((rs.append rs').keep hr (Kp.laid hp))) (hr.laid hp) (Kp.laid hp)
 case ref a=>
  cases y<;>try exact h.elim
  case ref b=>
   unfold zN at h;simp only at h;split at h
   ·rename_i xs ys e1 e2;cases rx;cases ry;obtain ⟨vs,g1,r1⟩:=hr.lst e1;obtain ⟨us,g2,r2⟩:=hr.lst e2;refine .inr ⟨a,b,vs,us,rfl,rfl,g1,g2,by rw [← r1.length,← r2.length];exact h.1,λp hp=>?_⟩;exact af _ _ (h.2 p (hr.free hp)) _ _ (.ref p) (hr.newL hp (r1.append r2)) (Kp.newL hp)
   ·exact h.elim
def qfp (ha:E3 X a ta) (hb:E3 X b tb):E3 X (.BinOp a .Add b pos) (o3 zN ta tb):=qaQ ((qbC.or LO).or qa7) WP ha hb
def J0:T->Bool
 |.non=>true|.bl _=>true|.int _=>true|.str _=>true|_=>false
def eqF:T->T->Bool
 |.non,.non=>true
 |.bl a,.bl b=>a==b
 |.bl a,.int b=>(if a then 1 else 0)==b
 |.int a,.bl b=>a==(if b then 1 else 0)
 |.int a,.int b=>a==b
 |.str a,.str b=>a==b
 |_,_=>false
def RA {K:Frg} {H:Hp} {x:T} {v:V} (r:Rp K H x v) (h:J0 x=true):ET v=true:=by
 cases r<;>first|rfl|(cases h)
def WG {K:Frg} {H:Hp}:∀ {x:List T} {v:List V},Rps K H x v->x.all J0=true->v.all ET=true
 |_,_,.nil,_=>rfl
 |_,_,.cons a b,h=>by
  rw [List.all_cons,Bool.and_eq_true] at h ⊢;exact ⟨RA a h.1,WG b h.2⟩
def qgz {K:Frg} {H:Hp} {x y:T} {v u:V} (r:Rp K H x v) (s:Rp K H y u) (h:J0 x=true) (h':J0 y=true):eqV v u=eqF x y:=by
 cases r<;>first|(cases h;done)|(cases s<;>first|rfl|(cases h';done))
def MM {K:Frg} {H:Hp} {x:T} {v:V} (r:Rp K H x v) (h:J0 x=true):∀ {ys:List T} {us:List V},Rps K H ys us->ys.all J0=true->inV v us=ys.any λy=>eqF y x
 |_,_,.nil,_=>rfl
 |_,_,.cons a b,h'=>by
  rw [List.all_cons,Bool.and_eq_true] at h';unfold inV;rw [List.any_cons,List.any_cons,qgz a r h'.1 h];congr 1;exact MM r h b h'.2
def in3 (neg:Bool):R3:=λx y G q=>J0 x=true/\match y with
 |.tup ys=>ys.all J0=true/\q (.bl (if neg then !(ys.any λy=>eqF y x) else (ys.any λy=>eqF y x))) G
 |.ref p=>(match jq G p with|some ys=>ys.all J0=true/\q (.bl (if neg then !(ys.any λy=>eqF y x) else (ys.any λy=>eqF y x))) G|none=>False)
 |_=>False
def qfQ {K:Frg} {neg:Bool}:W6 K (in3 neg) (rIn K neg):=λx y v u G H q Q hr rx ry h af=>by
 obtain ⟨hf,h⟩:=h;cases y<;>try exact h.elim
 case tup ys=>
  cases ry with
  |tup hs rs=>
   refine ⟨_,_,rfl,.inr hs,RA rx hf,WG rs h.1,?_⟩;rw [MM rx hf rs h.1];exact af _ G h.2 _ H (.bl _) hr Kp.refl
 case ref p=>
  simp only at h;split at h
  ·rename_i ys e;cases ry;obtain ⟨us,hs,rs⟩:=jr hr e;refine ⟨_,_,rfl,.inl hs,RA rx hf,WG rs h.1,?_⟩;rw [MM rx hf rs h.1];exact af _ G h.2 _ H (.bl _) hr Kp.refl
  ·exact h.elim
def V9:List T->Gp->Q3->Prop:=λxs G q=>match xs with
 |[.tup ys]=>q (.int ys.length) G
 |[.str y]=>y.length<=sizeLine/\q (.int y.length) G
 |[.ref p]=>(match jq G p with|some ys=>q (.int ys.length) G|none=>False)
 |_=>False
def T0 {K:Frg} {H:Hp} {x:T} {vs:List V} (r:Rps K H [x] vs):∃ v,vs=[v]/\Rp K H x v:=by
 cases r with
 |cons a b=>cases b;exact ⟨_,rfl,a⟩
def qjI {K:Frg} {H:Hp} {x y:T} {vs:List V} (r:Rps K H [x,y] vs):∃ v u,vs=[v,u]/\Rp K H x v/\Rp K H y u:=by
 cases r with
 |cons a b=>cases b with|cons c d=>cases d;exact ⟨_,_,rfl,a,c⟩
def jp {K:Frg}:TZ K V9 (λxs H Q=>∃ x n,xs=[x]/\qkk K x H n/\Q (.int n) H):=λxs vs G H q Q hr rs h af=>by
 unfold V9 at h;split at h
 ·obtain ⟨v,rfl,r⟩:=T0 rs;cases r with
  |tup hs r2=>exact ⟨_,_,rfl,.inr ⟨_,hs,rfl⟩,by rw [← r2.length];exact af _ G h _ H (.int _) hr Kp.refl⟩
 ·obtain ⟨v,rfl,r⟩:=T0 rs;cases r;exact ⟨_,_,rfl,⟨h.1,rfl⟩,af _ G h.2 _ H (.int _) hr Kp.refl⟩
 ·obtain ⟨v,rfl,r⟩:=T0 rs;split at h
  ·rename_i ys e;cases r;obtain ⟨us,hs,r2⟩:=jr hr e;exact ⟨_,_,rfl,.inl ⟨_,hs,rfl⟩,by rw [← r2.length];exact af _ G h _ H (.int _) hr Kp.refl⟩
  ·exact h.elim
 ·exact h.elim
def MW:List T->Gp->Q3->Prop:=λxs G q=>match xs with|[.int i]=>q (.int (if i<0 then -i else i)) G|_=>False
def K3 {K:Frg}:TZ K MW (λxs H Q=>∃ i,xs=[.int i]/\Q (.int (if i<0 then -i else i)) H):=λxs vs G H q Q hr rs h af=>by
 unfold MW at h;split at h
 ·obtain ⟨v,rfl,r⟩:=T0 rs;cases r;exact ⟨_,rfl,af _ G h _ H (.int _) hr Kp.refl⟩
 ·exact h.elim
def MZ:List T->Gp->Q3->Prop:=λxs G q=>match xs with|[.int i,.int j]=>q (.int (if j<i then j else i)) G|_=>False
def qcs {K:Frg}:TZ K MZ (λxs H Q=>∃ i j,xs=[.int i,.int j]/\Q (.int (if j<i then j else i)) H):=λxs vs G H q Q hr rs h af=>by
 unfold MZ at h;split at h
 ·obtain ⟨v,u,rfl,r,r'⟩:=qjI rs;cases r;cases r';exact ⟨_,_,rfl,af _ G h _ H (.int _) hr Kp.refl⟩
 ·exact h.elim
def qgl:List T->Gp->Q3->Prop:=λxs G q=>match xs with|[.int i,.int j]=>q (.int (if j > i then j else i)) G|_=>False
def qfT:List T->Gp->Q3->Prop:=λxs G q=>match xs with|[.int i]=>q (.int i) G|[.bl k]=>q (.int (if k then 1 else 0)) G|_=>False
def jc:List T->Gp->Q3->Prop:=λxs G q=>match xs with
 |[.tup ys]=>q (.tup ys) G
 |[.ref p]=>(match jq G p with|some ys=>q (.tup ys) G|none=>False)
 |_=>False
def Q0 {K:Frg}:TZ K jc (λxs H Q=>∃ p ys,xs=[.ref p]/\((SqL K H p ys/\∀ l,H l=none->Q (.ref l) (upd H l (.tup ys)))\/(SqT K H p ys/\Q (.ref p) H))):=λxs vs G H q Q hr rs h af=>by
 unfold jc at h;split at h
 ·obtain ⟨v,rfl,r⟩:=T0 rs;cases r with
  |tup hs r2=>exact ⟨_,_,rfl,.inr ⟨hs,af _ G h _ H (.tup hs r2) hr Kp.refl⟩⟩
 ·obtain ⟨v,rfl,r⟩:=T0 rs;split at h
  ·rename_i ys e;cases r;obtain ⟨us,hs,r2⟩:=jr hr e;exact ⟨_,_,rfl,.inl ⟨hs,λl hl=>af _ G h _ _ (.tup (SqT.of zK) (r2.keep hr (Kp.laid hl))) (hr.laid hl) (Kp.laid hl)⟩⟩
  ·exact h.elim
 ·exact h.elim
def UC:List T->Gp->Q3->Prop:=λxs G q=>match xs with
 |[.tup ys]=>∀ p,G p=none->q (.ref p) (gu G p (.lst ys))
 |[.ref p]=>(match jq G p with|some ys=>∀ p,G p=none->q (.ref p) (gu G p (.lst ys))|none=>False)
 |_=>False
def WN {K:Frg}:TZ K UC (λxs H Q=>∃ p ys,xs=[.ref p]/\(SqL K H p ys\/SqT K H p ys)/\∀ l,H l=none->Q (.ref l) (upd H l (.lst ys))):=λxs vs G H q Q hr rs h af=>by
 unfold UC at h;split at h
 ·obtain ⟨v,rfl,r⟩:=T0 rs;cases r with
  |tup hs r2=>exact ⟨_,_,rfl,.inr hs,λl hl=>af _ _ (h l (hr.free hl)) _ _ (.ref l) (hr.newL hl r2) (Kp.newL hl)⟩
 ·obtain ⟨v,rfl,r⟩:=T0 rs;split at h
  ·rename_i ys e;cases r;obtain ⟨us,hs,r2⟩:=jr hr e;exact ⟨_,_,rfl,.inl hs,λl hl=>af _ _ (h l (hr.free hl)) _ _ (.ref l) (hr.newL hl r2) (Kp.newL hl)⟩
  ·exact h.elim
 ·exact h.elim
def qdW:T->List T->Gp->Q3->Prop:=λx xs G q=>match x,xs with
 |.ref l,[.ref b]=>(match G l,G b with|some (.lst ys),some (.lst zs)=>ys.length+zs.length<=sizeLine/\q .non (gu G l (.lst (ys++zs)))|_,_=>False)
 |_,_=>False
def UB:T->List T->Gp->Q3->Prop:=λx xs G q=>match x,xs with
 |.ref l,[y]=>(match G l with|some (.lst ys)=>ys.length<sizeLine/\q .non (gu G l (.lst (ys++[y])))|_=>False)
 |_,_=>False
def qj3 (K:Frg) (r3:T->List T->Gp->Q3->Prop) (r:V->List V->Hp->VK->Prop):Prop:=∀ x xs v vs G H q Q,HR K G H->Rp K H x v->Rps K H xs vs->r3 x xs G q->Aft K G H q Q->r v vs H Q
def qcw {K:Frg}:qj3 K UB LI:=λx xs v vs G H q Q hr rx rs h af=>by
 unfold UB at h;split at h
 ·rename_i l y;split at h
  ·rename_i ys e1;cases rx;obtain ⟨u,rfl,r⟩:=T0 rs;obtain ⟨vs,g1,r1⟩:=hr.lst e1;exact ⟨l,vs,u,rfl,rfl,g1,by rw [← r1.length];exact h.1,af _ _ h.2 _ _ .non (hr.wr e1 (r1.append (.cons r .nil))) (Kp.wr e1)⟩
  ·exact h.elim
 ·exact h.elim
def bm3 (r:T->List T->Gp->Q3->Prop) (to:TE3) (t:TA3):TE3:=λτ G q=>to τ G λx G1=>(match x with|.ref p=>(jq G1 p).isSome=true|_=>False)/\t τ G1 λxs G2=>r x xs G2 q
def qk4 {o:Expr} {to:TE3} {name:Str} {apos cpos:Pos} {id:String} {r3:T->List T->Gp->Q3->Prop} {r:V->List V->Hp->VK->Prop} (slot:Slot "list" name id) (hty:typeOf (.builtin id)=pure (.type "method_descriptor")) (hm:MtR X id r) (hr:qj3 X.K r3 r) (ho:E3 X o to) (ha:A3 X (e::es) t)
  (hbase:attributeBase o name X.env (eval o X.env)=eval o X.env:=by rfl)
  (hfew:((backTo cpos (starEach (e::es) X.env)).all (λx=>!x.1)&&(backToKw cpos (keywordEach [] X.env)).all (λx=>x.1.isSome)
   && decide ((e::es).length+([]:List Keyword).length+(if ([]:List Keyword).isEmpty then 0 else 1)<30))=true:=by rfl)
  (hline:(apos.endLine==cpos.line)=true:=by rfl) (hs:starEach (e::es) X.env=(false,eval e X.env)::starEach es X.env:=by rfl) (hplain:(backTo cpos (starEach es X.env)).any (·.1)=false:=by rfl) :
  E3 X (.Call (.Attribute o name apos) (e::es) [] cpos) (bm3 r3 to t):=
 DZ (qhz PySem.F.plainAttrs_list slot hty hm ho ha hbase hfew hline hs hplain) λ_ _ _ ⟨τ,G,q,rl,h,af⟩=>jb rl h λx G1 h1 v H1 rx hr1 k1 rl1=>by
  obtain ⟨hp,h1⟩:=h1;cases x<;>try exact hp.elim
  case ref p=>
   cases rx;have hp':(jq G1 p).isSome=true:=hp;obtain ⟨ys,e⟩:=Option.isSome_iff_exists.mp hp';obtain ⟨us,hs,r2⟩:=jr hr1 e;exact ⟨.inl ⟨rfl,us,hs⟩,UA rl1 h1 λxs G2 h2 vs H2 rs hr2 k2 rl2=>hr _ xs _ vs G2 H2 q _ hr2 (.ref p) rs h2 (af.back (k1.trans k2))⟩
def qad {o:Expr} {to:TE3} {apos cpos:Pos} (ho:E3 X o to) (ha:A3 X [e] t)
  (hbase:attributeBase o "append" X.env (eval o X.env)=eval o X.env:=by rfl)
  (hfew:((backTo cpos (starEach [e] X.env)).all (λx=>!x.1)&&(backToKw cpos (keywordEach [] X.env)).all (λx=>x.1.isSome)
   && decide (([e]:List Expr).length+([]:List Keyword).length+(if ([]:List Keyword).isEmpty then 0 else 1)<30))=true:=by rfl)
  (hline:(apos.endLine==cpos.line)=true:=by rfl) (hs:starEach [e] X.env=(false,eval e X.env)::starEach [] X.env:=by rfl) (hplain:(backTo cpos (starEach [] X.env)).any (·.1)=false:=by rfl) :
  E3 X (.Call (.Attribute o "append" apos) [e] [] cpos) (bm3 UB to t):=qk4 PySem.F.slot_list_append PySem.F.type_list_append U9 qcw ho ha hbase hfew hline hs hplain
end
def tyT (G:Gp):T->Option String
 |.non=>some "NoneType" |.bl _=>some "bool" |.int _=>some "int" |.str _=>some "str" |.tup _=>some "tuple"
 |.ref p=>if (jq G p).isSome then some "list" else none
def ZO (t c:String):Bool:=t==c||(t == "bool" && c == "int")
def M0 (K:Frg):∀ t∈["NoneType","bool","int","str","tuple","list"],∀ c∈["bool","int","str","tuple","list"],PySem.W.kitOne K (.type t) (.type c)=some (ZO t c):=by
 intro t ht c hc;simp only [mem_cons,not_mem_nil,or_false] at ht hc;rcases ht with rfl|rfl|rfl|rfl|rfl|rfl<;>rcases hc with rfl|rfl|rfl|rfl|rfl<;>kernel_rfl
section
variable {X:Cx} {a b c e:Expr} {es:List Expr} {ta tb tc te:TE3} {t:TA3} {pos:Pos}
def TyS (K:Frg) (H:Hp) (x:V) (t:String):Prop:=match x with
 |.non=>t="NoneType" |.bl _=>t="bool" |.int _=>t="int" |.str _=>t="str"
 |.ref a=>(t="tuple"/\∃ vs,SqT K H a vs)\/(t="list"/\∃ vs,SqL K H a vs)
 |_=>False
def TyS.mem {K:Frg} {H:Hp} {x:V} {t:String} (h:TyS K H x t):t∈["NoneType","bool","int","str","tuple","list"]:=by
 cases x<;>simp [TyS] at h<;>first|(subst h;decide)|(rcases h with ⟨rfl,_⟩|⟨rfl,_⟩<;>decide)
def TyS.kitx {pins:List (Addr×Obj)} {σ:L2.St} {H:Hp} {s:Shared} {x:V} {u:Value} {t:String} (I:Inv X pins σ H s) (rx:jJ x u) (h:TyS X.K H x t) :
  ∃ HH:Heap->Prop,PySem.W.KitX X.K u (.type t) HH/\HH s.heap/\u≠.builtin "__main__.__loader__#opaque" := by
 cases x with
 |non=>cases (show u=Value.none from rx);cases (show t=_ from h);exact ⟨_,PySem.W.kitx_none,True.intro,λz=>nomatch z⟩
 |bl y=>cases (show u=Value.bool y from rx);cases (show t=_ from h);exact ⟨_,PySem.W.kitx_bool,True.intro,λz=>nomatch z⟩
 |int i=>obtain ⟨tk,q⟩:=(show ∃ t,u=Value.int i t from rx);cases q;cases (show t=_ from h);exact ⟨_,PySem.W.kitx_int,True.intro,λz=>nomatch z⟩
 |str y=>obtain ⟨tk,q⟩:=(show ∃ t,u=Value.str y t from rx);cases q;cases (show t=_ from h);exact ⟨_,PySem.W.kitx_str,True.intro,λz=>nomatch z⟩
 |ref a=>
  cases (show u=Value.ref a from rx);rcases (show (t="tuple"/\∃ vs,SqT X.K H a vs)\/(t="list"/\∃ vs,SqL X.K H a vs) from h) with ⟨rfl,vs,hs⟩|⟨rfl,vs,hs⟩
  ·obtain ⟨its,_,p,_⟩:=I.tuple hs;obtain ⟨o,h1,h2,_⟩:=p;exact ⟨_,PySem.W.kitx_tuple,⟨o,h1,h2⟩,λz=>nomatch z⟩
  ·obtain ⟨its,_,p,_⟩:=I.list hs;obtain ⟨o,n,h1,h2,_⟩:=p;exact ⟨_,PySem.W.kitx_list,⟨o,h1,h2⟩,λz=>nomatch z⟩
 |_=>exact False.elim h
abbrev CQ:List String:=["bool","int","str","tuple","list"]
def ND:YJ X (.builtin "isinstance") (λxs H Q=>∃ x t c,xs=[x,.ty c]/\TyS X.K H x t/\c∈CQ/\Q (.bl (ZO t c)) H):=by
 intro pins s σ H xs us Q I r h;obtain ⟨x,t,c,rfl,ht,hc,q⟩:=h;obtain ⟨u,w,rfl,rx,rc⟩:=qdS r;cases (show w=Value.type c from rc);obtain ⟨HH,kx,hh,ne⟩:=ht.kitx I rx;exact PySem.W.kia_one kx I.kIn hh (M0 X.K t ht.mem c hc) ne λtk=>⟨.bl _,H,I.tok tk,rfl,q⟩
def qhf {K:Frg} {G:Gp} {H:Hp} (hr:HR K G H) {x:T} {v:V} {t:String} (r:Rp K H x v) (h:tyT G x=some t):TyS K H v t:=by
 cases r with
 |non=>cases h;rfl
 |bl _=>cases h;rfl
 |int _=>cases h;rfl
 |str _=>cases h;rfl
 |tup hs rs=>cases h;exact .inl ⟨rfl,_,hs⟩
 |ref a=>
  have h:(if (jq G a).isSome then some "list" else none)=some t:=h;split at h
  ·rename_i e;cases h;obtain ⟨ys,e⟩:=Option.isSome_iff_exists.mp e;obtain ⟨us,hs,_⟩:=jr hr e;exact .inr ⟨rfl,us,hs⟩
  ·cases h
def RD (f:String->Bool) (te:TE3):TE3:=λτ G q=>te τ G λx G1=>match tyT G1 x with|some t=>q (.bl (f t)) G1|none=>False
def qiw {tn:Str} {ty:String} {p p2:Pos} (he:E3 X e te) (hg:Gl X "isinstance") (hm:X.mg "isinstance" = none) (hg2:Gl X tn) (hm2:X.mg tn=none) (hv:bootBuiltins tn=some (.type ty)) (hmem:ty∈CQ:=by decide) (hn:tn≠"__name__" := by decide) (hdb:(tn==("__debug__" : Str))=false:=by decide)
  (hs:starEach [e,.Name tn p2] X.env=(false,eval e X.env)::starEach [.Name tn p2] X.env:=by rfl) (hs2:starEach [.Name tn p2] X.env=(false,eval (.Name tn p2) X.env)::starEach [] X.env:=by rfl) (hpl:(backTo pos (starEach [.Name tn p2] X.env)).any (·.1)=false:=by rfl) :
  E3 X (.Call (.Name "isinstance" p) [e,.Name tn p2] [] pos) (RD (λt=>ZO t ty) te):=
 DZ (RZ ND hg hm PyProof.Rows.boot_isinstance (RM he (RM (qbT (v:=.ty ty) hg2 hm2 hv rfl hn hdb) qbF hs2) hs) (by decide) (by decide) hs hpl)
  λ_ _ _ ⟨τ,G,q,rl,h,af⟩=>jb rl h λx G1 h1 v H1 rx hr1 k1 rl1=>by
   split at h1
   ·rename_i t e1;exact ⟨_,t,ty,rfl,qhf hr1 rx e1,hmem,af _ G1 h1 _ H1 (.bl _) hr1 k1⟩
   ·exact h1.elim
structure Ends3 where
 nx:St3->Gp->Prop
 rt:Q3
 bk:St3->Gp->Prop:=λ_ _=>False
 ct:St3->Gp->Prop:=λ_ _=>False
abbrev TS3:=Ends3->St3->Gp->Prop
def qap (K:Frg) (G:Gp) (H:Hp) (q:St3->Gp->Prop) (Q:L2.St->Hp->Prop):Prop:=∀ τ G',q τ G'->∀ σ H',Rel K τ G' σ H'->Kp G H G' H'->Q σ H'
structure AftD (K:Frg) (G:Gp) (H:Hp) (d:Ends3) (D:Ends):Prop where
 nx:qap K G H d.nx D.nx
 rt:Aft K G H d.rt D.rt
 bk:qap K G H d.bk D.bk
 ct:qap K G H d.ct D.ct
def qap.back {K:Frg} {G G1:Gp} {H H1:Hp} {q:St3->Gp->Prop} {Q:L2.St->Hp->Prop} (a:qap K G H q Q) (k:Kp G H G1 H1):qap K G1 H1 q Q:=λx G' h v H' r k'=>a x G' h v H' r (k.trans k')
def AftD.back {K:Frg} {G G1:Gp} {H H1:Hp} {d:Ends3} {D:Ends} (a:AftD K G H d D) (k:Kp G H G1 H1):AftD K G1 H1 d D:=⟨a.nx.back k,a.rt.back k,a.bk.back k,a.ct.back k⟩
def lS (K:Frg) (t:TS3):TS:=λD σ H=>∃ τ G d,Rel K τ G σ H/\t d τ G/\AftD K G H d D
abbrev S3 (X:Cx) (st:Stmt) (t:TS3):Prop:=PS X st (lS X.K t)
abbrev B3 (X:Cx) (st:List Stmt) (t:TS3):Prop:=PSs X st (lS X.K t)
def NR {X:Cx} {st:Stmt} {t t':TS} (h:PS X st t) (w:∀ D σ H,t' D σ H->t D σ H):PS X st t':=λpins s σ H D I q=>h pins s σ H D I (w D σ H q)
def qeH {X:Cx} {st:List Stmt} {t t':TS} (h:PSs X st t) (w:∀ D σ H,t' D σ H->t D σ H):PSs X st t':=λpins s σ H D I q=>h pins s σ H D I (w D σ H q)
variable {st:Stmt} {J2:List Stmt} {t1 t2:TS3} {tA:TT3}
def qU:TS3:=λd τ G=>d.nx τ G
def qG (t u:TS3):TS3:=λd τ G=>t { d with nx:=u d } τ G
def qi4:B3 X [] qU:=qeH qcp λ_ σ H ⟨τ,G,d,rl,h,af⟩=>af.nx τ G h σ H rl Kp.refl
def qfC (h1:S3 X st t1) (h2:B3 X J2 t2):B3 X (st::J2) (qG t1 t2):=qeH (NX h1 h2) λD σ H ⟨τ,G,d,rl,h,af⟩=>
 ⟨τ,G,{ d with nx:=t2 d },rl,h,⟨λτ' G' h' σ' H' rl' k'=>⟨τ',G',d,rl',h',af.back k'⟩,af.rt,af.bk,af.ct⟩⟩
def qh7 (h1:S3 X st t1):B3 X [st] t1:=qct h1
def QI (te:TE3):TS3:=λd τ G=>te τ G λ_ G1=>d.nx τ G1
def qd0 (he:E3 X e te) (hs:swapsWith e none pos.line X.env=pure false:=by rfl):S3 X (.Expr e pos) (QI te):=NR (qc4 he hs) λ_ σ H ⟨τ,G,d,rl,h,af⟩=>
 jb rl h λx G1 h1 v H1 rx hr1 k1 rl1=>af.nx τ G1 h1 σ H1 rl1 k1
def zn (te:TE3):TS3:=λd τ G=>te τ G d.rt
def qih (he:E3 X e te):S3 X (.Return (some e) pos) (zn te):=NR (qeO he) λ_ σ H ⟨τ,G,d,rl,h,af⟩=>⟨τ,G,d.rt,rl,h,af.rt⟩
def KS:TS3:=λd _ G=>d.rt .non G
def z9 (c:TT3) (t u:TS3):TS3:=λd τ G=>c τ G λk G1=>if k=true then t d τ G1 else u d τ G1
def qk0 {c:Expr} {ba bb:List Stmt} (hc:C3 X c tA) (ha:B3 X ba t1) (hb:B3 X bb t2):S3 X (.If c ba bb pos) (z9 tA t1 t2):=NR (qjs hc ha hb) λ_ σ H ⟨τ,G,d,rl,h,af⟩=>
 CG rl h λk G1 h1 H1 hr1 k1 rl1=>by
  cases k with
  |true=>rw [if_pos rfl] at h1 ⊢;exact ⟨τ,G1,d,rl1,h1,af.back k1⟩
  |false=>rw [if_neg Bool.false_ne_true] at h1 ⊢;exact ⟨τ,G1,d,rl1,h1,af.back k1⟩
def qe0:TS3:=λ_ _ _=>False
abbrev TG3:=T->St3->Gp->(St3->Gp->Prop)->Prop
abbrev CK:=List T->St3->Gp->(St3->Gp->Prop)->Prop
def lG (K:Frg) (t:TG3):TG:=λv σ H Q=>∃ x τ G q,Rp K H x v/\Rel K τ G σ H/\t x τ G q/\qap K G H q Q
def lGs (K:Frg) (t:CK):TGs:=λv σ H Q=>∃ x τ G q,Rps K H x v/\Rel K τ G σ H/\t x τ G q/\qap K G H q Q
abbrev G3 (X:Cx) (e:Expr) (t:TG3):Prop:=PG X e (lG X.K t)
abbrev Gs3 (X:Cx) (es:List Expr) (t:CK):Prop:=PGs X es (lGs X.K t)
def qiC {X:Cx} {e:Expr} {t t':TG} (h:PG X e t) (w:∀ v σ H Q,t' v σ H Q->t v σ H Q):PG X e t':=λpins s σ H v u Q I r q=>h pins s σ H v u Q I r (w v σ H Q q)
def qeE {X:Cx} {e:List Expr} {t t':TGs} (h:PGs X e t) (w:∀ v σ H Q,t' v σ H Q->t v σ H Q):PGs X e t':=λpins s σ H v u Q I r q=>h pins s σ H v u Q I r (w v σ H Q q)
def gn3 (i:Nat):TG3:=λx τ G q=>q (τ.set i (some x)) G
def qf3 {i:Nat} {x:Str} (hN:X.N.Nodup) (hi:X.N[i]?=some x:=by rfl) (hx:Loc X.env.scope x:=by first|exact Or.inl rfl|exact Or.inr rfl) (hf:X.fn x=true\/X.env.scope.names.lookup x=some .local:=by first|exact .inl rfl|exact .inr rfl):G3 X (.Name x pos) (gn3 i):=
 qiC (qcn hN hi hx hf) λv σ H Q ⟨x,τ,G,q,rx,rl,h,af⟩=>af _ G h _ H (rl.set i rx) Kp.refl
def ZW:CK:=λxs τ G q=>match xs with|[]=>q τ G|_=>False
def zh (t:TG3) (u:CK):CK:=λxs τ G q=>match xs with|x::r=>t x τ G λτ' G'=>u r τ' G' q|[]=>False
def qjb:Gs3 X [] ZW:=qeE qcD λv σ H Q ⟨x,τ,G,q,rx,rl,h,af⟩=>by
 cases rx with
 |nil=>exact ⟨rfl,af _ G h _ H rl Kp.refl⟩
 |cons _ _=>exact h.elim
def qeQ {tg:TG3} {tgs:CK} (h1:G3 X e tg) (h2:Gs3 X es tgs) (hs:(assignEach (e::es) X.env).map (·.2)=assign e X.env::(assignEach es X.env).map (·.2):=by rfl):Gs3 X (e::es) (zh tg tgs):=qeE (M4 h1 h2 hs) λv σ H Q ⟨x,τ,G,q,rx,rl,h,af⟩=>by
 cases rx with
 |nil=>exact h.elim
 |cons r rs=>exact ⟨_,_,rfl,_,τ,G,_,r,rl,h,λτ' G' h' σ' H' rl' k'=>⟨_,τ',G',q,rs.keep rl.hp k',rl',h',af.back k'⟩⟩
def ZT (n:Nat) (t:CK):TG3:=λx τ G q=>match x with|.tup xs=>xs.length=n/\t xs τ G q|_=>False
def qhE {k:Nat} {tgs:CK} {n:Nat} (hc:X.calm=true) (h:Gs3 X es tgs) (hn:(assignEach es X.env).length=n:=by rfl) (hst:(assignEach es X.env).findIdx? (·.1)=none:=by rfl):G3 X (.Tuple es k pos) (ZT n tgs):=
 qiC (qgy hc h hn hst) λv σ H Q ⟨x,τ,G,q,rx,rl,h,af⟩=>by
  cases x<;>try exact h.elim
  case tup xs=>
   cases rx with
   |tup hs rs=>exact ⟨_,_,rfl,hs,by rw [← rs.length];exact h.1,_,τ,G,q,rs,rl,h.2,af⟩
def TX:T->T->T->Gp->(Gp->Prop)->Prop:=λo i v G q=>match o,i with
 |.ref p,.int k=>(match G p with|some (.lst xs)=>(match ixN xs.length k with|some j=>q (gu G p (.lst (xs.set j v)))|none=>False)|_=>False)
 |_,_=>False
def VH (to ti:TE3):TG3:=λx τ G q=>to τ G λo G1=>ti τ G1 λi G2=>TX o i x G2 λG3=>q τ G3
def qhM {o i : Expr} {to ti : TE3} (ho : E3 X o to) (hi : E3 X i ti) (ha : ∀ v,assign (.Subscript o i pos) X.env v = (do
      let ov←holding [v] (eval o X.env)
      let iv←holding [v,ov] (eval i X.env)
      standAt pos
      holding [v,ov,iv] (setItem ov iv v)
      release [v,ov,iv] []):=by intro _;rfl):G3 X (.Subscript o i pos) (VH to ti):=
  qiC (qeX ho hi NW ha) λv σ H Q ⟨x,τ,G,q,rx,rl,h,af⟩=>jb rl h λy G1 h1 u H1 ry hr1 k1 rl1=>jb rl1 h1 λz G2 h2 w H2 rz hr2 k2 rl2=>by
    have rx2:=(rx.keep rl.hp k1).keep hr1 k2;have ry2:=ry.keep hr1 k2;unfold TX at h2;split at h2
    · rename_i p k;split at h2
      · rename_i xs e;split at h2
        · rename_i j ej;cases ry2;cases rz;obtain ⟨vs,g1,r1⟩:=hr2.lst e;have kk:Kp G2 H2 (gu G2 p (.lst (xs.set j x))) (upd H2 p (.lst (vs.set j v))):=Kp.wr e;exact ⟨p,vs,k,j,rfl,rfl,g1,by rw [← r1.length];exact ej,af τ _ h2 σ _ (rl2.next (hr2.wr e (r1.set rx2 j)) kk) ((k1.trans k2).trans kk)⟩
        · exact h2.elim
      · exact h2.elim
    · exact h2.elim
def qV (te:TE3) (g:TG3):TS3:=λd τ G=>te τ G λx G1=>g x τ G1 d.nx
def qin {tg e:Expr} {g:TG3} (he:E3 X e te) (hg:G3 X tg g) (hs:swapsWithSole [tg] e pos.line X.env=pure false:=by rfl) (hw:swappedStores [tg] e X.env=pure none:=by rfl)
  (h1:(assignEach [tg] X.env).map (·.2)=[assign tg X.env]:=by rfl):S3 X (.Assign [tg] e pos) (qV te g):=NR (qeK he hg hs hw h1) λ_ σ H ⟨τ,G,d,rl,h,af⟩=>
 jb rl h λx G1 h1 v H1 rx hr1 k1 rl1=>⟨x,τ,G1,d.nx,rx,rl1,h1,af.nx.back k1⟩
def qji (i:Nat) {x:Str} {e:Expr} {pos':Pos} (hN:X.N.Nodup) (he:E3 X e te) (hi:X.N[i]?=some x:=by rfl) (hx:Loc X.env.scope x:=by first|exact Or.inl rfl|exact Or.inr rfl) (hs:swapsWith e (some (.Name x pos')) pos.line X.env=pure false:=by rfl) (hf:X.fn x=true\/X.env.scope.names.lookup x=some .local:=by first|exact .inl rfl|exact .inr rfl) :
  S3 X (.Assign [.Name x pos'] e pos) (qV te (gn3 i)):=NR (qeq hN hi hx he hs hf) λ_ σ H ⟨τ,G,d,rl,h,af⟩=>
 jb rl h λx G1 h1 v H1 rx hr1 k1 rl1=>af.nx _ G1 h1 _ H1 (rl1.set i rx) k1
def WJ (i j:Nat) (ta:TA3):TS3:=λd τ G=>ta τ G λxs G1=>match xs with|[x,y]=>d.nx ((τ.set i (some x)).set j (some y)) G1|_=>False
def qir {i j:Nat} {x y:Str} {a b:Expr} {tt:TA3} {px py pt:Pos} {kt k2 pt2} (hc:X.calm=true) (hN:X.N.Nodup) (hi:X.N[i]?=some x) (hj:X.N[j]?=some y) (hij:i≠j)
  (hx:X.env.scope.names.lookup x=some .local) (hy:X.env.scope.names.lookup y=some .local) (ha:A3 X [a,b] tt)
  (hw:swappedStores [.Tuple [.Name x px,.Name y py] kt pt] (.Tuple [a,b] k2 pt2) X.env=pure (some [x,y]):=by rfl)
  (hs:swapsWithSole [.Tuple [.Name x px,.Name y py] kt pt] (.Tuple [a,b] k2 pt2) pos.line X.env=pure false:=by rfl) :
  S3 X (.Assign [.Tuple [.Name x px,.Name y py] kt pt] (.Tuple [a,b] k2 pt2) pos) (WJ i j tt):=NR (qea hc hN hi hj hij hx hy ha hw hs) λ_ σ H ⟨τ,G,d,rl,h,af⟩=>
 UA rl h λxs G1 h1 vs H1 rs hr1 k1 rl1=>by
  split at h1
  ·obtain ⟨v,u,rfl,r,r'⟩:=qjI rs;exact ⟨v,u,rfl,af.nx _ G1 h1 _ H1 ((rl1.set i r).set j r') k1⟩
  ·exact h1.elim
end
abbrev TI3:=St3->Gp->(List T->(Gp->Prop)->Gp->Prop)->Prop
def qht (K:Frg) (J:It) (items:List T) (stay:Gp->Prop) (G0:Gp) (H0:Hp):Prop:=∀ G H,HR K G H->Kp G0 H0 G H->stay G ->
 (∀ i x,items[i]?=some x->J.go i H)/\(∀ i x v H',items[i]?=some x->J.yld i H v H'->Rp K H' x v/\HR K G H'/\Kp G H G H')/\J.stop items.length H
def lI (K:Frg) (wi:TI3):TI:=λσ H R=>∃ τ G r,Rel K τ G σ H/\wi τ G r/\∀ items stay G',r items stay G'->∀ J H',HR K G' H'->Kp G H G' H'->qht K J items stay G' H'->R J H'
abbrev I3 (X:Cx) (tg iter:Expr) (wi:TI3):Prop:=PI X tg iter (lI X.K wi)
def qj0 {X:Cx} {tg e:Expr} {t t':TI} (h:PI X tg e t) (w:∀ σ H R,t' σ H R->t σ H R):PI X tg e t':=λpins s σ H R I q=>h pins s σ H R I (w σ H R q)
section
variable {X:Cx} {a b c e l tg:Expr} {es:List Expr} {ta tb tc te:TE3} {t:TA3} {pos:Pos}
def qfH {tl:TE} (hl:PE X l tl):PI X tg l (λσ H R=>tl σ H λx H1=>∃ a,x=.ref a/\(((∃ xs,SqL X.K H1 a xs)/\R (Itl X.K a) H1)\/((∃ xs,SqT X.K H1 a xs)/\R (Itt X.K a) H1))):=by
 intro pins s σ H R I h;refine thn (hl pins s σ H _ I h) λv s1 ⟨x,H1,I1,r1,q1⟩=>?_;obtain ⟨a,e,⟨⟨xs,hq⟩,q⟩|⟨⟨xs,hq⟩,q⟩⟩:=q1
 ·subst e;cases r1;obtain ⟨its,rv,p,hz⟩:=I1.list hq;refine wpAny_pyIter_list p.isList ?_;refine ⟨s1.heap.objs.size,[s1.heap.objs.size],_,_,H1,rfl,I1.kept (t':=s1.toks) λb o e=>Heap.get?_push_of_some _ e,KZ a _,⟨_,Heap.get?_push_size _ rfl,rfl,rfl⟩,λb hb=>?_,q⟩;have e:b=s1.heap.objs.size:=by simpa using hb
  subst e;exact I1.fpOk (Nat.le_refl _) (I1.hok.fresh (Nat.le_refl _))
 ·subst e;cases r1;obtain ⟨its,rv,p,hz⟩:=I1.tuple hq;refine wpAny_pyIter_tuple (show s1.heap.IsTuple a its.toArray from p) ?_;refine ⟨s1.heap.objs.size,[s1.heap.objs.size],_,_,H1,rfl,I1.kept (t':=s1.toks) λb o e=>Heap.get?_push_of_some _ e,TB a _,⟨_,Heap.get?_push_size _ rfl,rfl,rfl⟩,λb hb=>?_,q⟩;have e:b=s1.heap.objs.size:=by simpa using hb
  subst e;exact I1.fpOk (Nat.le_refl _) (I1.hok.fresh (Nat.le_refl _))
def ZV (tl:TE3):TI3:=λτ G r=>tl τ G λx G1=>match x with
 |.tup xs=>r xs (λ_=>True) G1
 |.ref p=>(match jq G1 p with|some xs=>r xs (λG=>jq G p=some xs) G1|none=>False)
 |_=>False
def qfn {K:Frg} {p:Addr} {xs:List T} {G0:Gp} {H0:Hp}:qht K (Itl K p) xs (λG=>jq G p=some xs) G0 H0:=by
 intro G H hr _ hs;obtain ⟨vs,sq,rs⟩:=jr hr hs;refine ⟨λi x hi=>?_,λi x v H' hi y=>?_,⟨vs,sq,by rw [rs.length];exact Nat.le_refl _⟩⟩
 ·obtain ⟨v,hv,_⟩:=rs.get hi;exact ⟨vs,v,sq,hv⟩
 ·obtain ⟨e,y⟩:=y;subst e;obtain ⟨w,hw,rw'⟩:=rs.get hi;have e2:=(y vs sq).symm.trans hw;cases e2;exact ⟨rw',hr,Kp.refl⟩
def qey {K:Frg} {p:Addr} {xs:List T} {vs:List V} {G0:Gp} {H0:Hp} (hr0:HR K G0 H0) (sq0:SqT K H0 p vs) (rs0:Rps K H0 xs vs):qht K (Itt K p) xs (λ_=>True) G0 H0:=by
 intro G H hr k _;have sq:=RV hr0 k sq0;have rs:=rs0.keep hr0 k;refine ⟨λi x hi=>?_,λi x v H' hi y=>?_,⟨vs,sq,by rw [rs.length];exact Nat.le_refl _⟩⟩
 ·obtain ⟨v,hv,_⟩:=rs.get hi;exact ⟨vs,v,sq,hv⟩
 ·obtain ⟨e,y⟩:=y;subst e;obtain ⟨w,hw,rw'⟩:=rs.get hi;have e2:=(y vs sq).symm.trans hw;cases e2;exact ⟨rw',hr,Kp.refl⟩
def qip (hl:E3 X l te):I3 X tg l (ZV te):=qj0 (qfH hl) λσ H R ⟨τ,G,r,rl,h,af⟩=>jb rl h λx G1 h1 v H1 rx hr1 k1 rl1=>by
 cases x<;>try exact h1.elim
 case tup xs=>
  cases rx with
  |tup hs rs=>exact ⟨_,rfl,.inr ⟨⟨_,hs⟩,af _ _ G1 h1 _ H1 hr1 k1 (qey hr1 hs rs)⟩⟩
 case ref p=>
  simp only at h1;split at h1
  ·rename_i xs e0;cases rx;obtain ⟨vs,hs,rs⟩:=jr hr1 e0;exact ⟨_,rfl,.inl ⟨⟨_,hs⟩,af _ _ G1 h1 _ H1 hr1 k1 qfn⟩⟩
  ·exact h1.elim
def R9 (lo:Int) (n:Nat):List T:=(List.range n).map λ(i:Nat)=>T.int (lo+(i:Int))
def qgt {K:Frg} {lo:Int} {n:Nat} {G0:Gp} {H0:Hp}:qht K (Itr lo n) (R9 lo n) (λ_=>True) G0 H0:=by
 intro G H hr k _;have hl:(R9 lo n).length=n:=by simp [R9]
 refine ⟨λi x hi=>?_,λi x v H' hi y=>?_,(show n<=(R9 lo n).length by rw [hl];exact Nat.le_refl n)⟩
 ·have:=(List.getElem?_eq_some_iff.mp hi).1;rw [hl] at this;exact this
 ·obtain ⟨e,y⟩:=y;subst e;subst y;have h1:=(List.getElem?_eq_some_iff.mp hi).1;rw [hl] at h1;unfold R9 at hi;rw [getElem?_map,List.getElem?_range h1] at hi;have e:T.int (lo+(i:Int))=x:=by simpa using hi
  subst e;exact ⟨.int _,hr,Kp.refl⟩
def QA (ta:TA3):TI3:=λτ G r=>ta τ G λxs G1=>match xs with
 |[.int j]=>(-(2 ^ 62)<=j/\j<2 ^ 62)/\r (R9 0 j.toNat) (λ_=>True) G1
 |[.int i,.int j]=>(-(2 ^ 62)<=i/\i<2 ^ 62/\-(2 ^ 62)<=j/\j<2 ^ 62)/\r (R9 i (j-i).toNat) (λ_=>True) G1
 |_=>False
def N8 {p:Pos} (hg:Gl X "range") (hm:X.mg "range" = none) (ha:A3 X [a] t) (hs:starEach [a] X.env=[(false,eval a X.env)]:=by rfl) (h1:∀ τ G q,t τ G q->t τ G λxs G=>q xs G/\xs.length=1):I3 X tg (.Call (.Name "range" p) [a] [] pos) (QA t):=
 qj0 (LP hg hm ha hs) λσ H R ⟨τ,G,r,rl,h,af⟩=>UA rl (h1 _ _ _ h) λxs G1 h1 vs H1 rs hr1 k1 rl1=>by
  obtain ⟨h1,hl⟩:=h1;simp only at h1;split at h1
  ·obtain ⟨v,rfl,r1⟩:=T0 rs;cases r1;exact ⟨_,rfl,h1.1.1,h1.1.2,af _ _ G1 h1.2 _ H1 hr1 k1 qgt⟩
  ·simp at hl
  ·exact h1.elim
def XT (stay:Gp->Prop) (g:TG3) (tb:TS3) (d:Ends3):List T->St3->Gp->Prop
 |[],τ,G=>stay G/\d.nx τ G
 |x::r,τ,G=>stay G/\g x τ G λτ2 G2=>tb { d with nx:=XT stay g tb d r,ct:=XT stay g tb d r,bk:=d.nx } τ2 G2
def W4 (wi:TI3) (g:TG3) (tb:TS3):TS3:=λd τ G=>wi τ G λitems stay G1=>XT stay g tb d items τ G1
def qiz {iter:Expr} {body:List Stmt} {wi:TI3} {g:TG3} {tb:TS3} (hp:PassesOwn (model X.prog X.w) X.A X.env X.xe) (hc:X.calm=true) (hi:I3 X tg iter wi) (hg:G3 X tg g) (hb:B3 X body tb)
  (hs:∀ x,foldedSetIterable iter X.env x=pure x:=by intro _;rfl):S3 X (.For tg iter body [] pos) (W4 wi g tb):=
 NR (qd8 hp hc hi hg hb hs) λD σ H ⟨τ,G,d,rl,h,af⟩=>by
  refine ⟨τ,G,_,rl,h,λitems stay G1 h1 J H1 hr1 k1 ok=>?_⟩;refine ⟨λi m σ' H'=>m=items.length-i/\i<=items.length/\∃ τ' G',Rel X.K τ' G' σ' H'/\Kp G1 H1 G' H'/\XT stay g tb d (items.drop i) τ' G',⟨_,rfl,Nat.zero_le _,τ,G1,rl.next hr1 k1,Kp.refl,by simpa using h1⟩,?_⟩;rintro i m σ' H' ⟨rfl,hi,τ',G',rl',k',h'⟩;by_cases hlt:i<items.length
  ·rw [List.drop_eq_getElem_cons hlt] at h';obtain ⟨hst,h'⟩:=h';obtain ⟨go,yld,_⟩:=ok G' H' rl'.hp k' hst;have hx:items[i]?=some items[i]:=getElem?_eq_getElem hlt;refine .inr ⟨go i _ hx,λσ2 H2=>∃ τ2 G2,Rel X.K τ2 G2 σ2 H2/\Kp G1 H1 G2 H2/\XT stay g tb d (items.drop (i+1)) τ2 G2,λσ2 H2 h2=>⟨_,by omega,rfl,hlt,h2⟩,λv H2 y=>?_⟩;obtain ⟨rv,hr2,k2⟩:=yld i _ v H2 hx y;have k3:Kp G1 H1 G' H2:=k'.trans k2;refine ⟨_,τ',G',_,rv,rl'.next hr2 k2,h',λτ3 G3 h3 σ3 H3 rl3 k4=>?_⟩;have k5:Kp G H G3 H3:=(k1.trans k3).trans k4;refine ⟨τ3,G3,_,rl3,h3,⟨λτ4 G4 h4 σ4 H4 rl4 k6=>⟨τ4,G4,rl4,(k3.trans k4).trans k6,h4⟩,af.rt.back k5,af.nx.back k5,λτ4 G4 h4 σ4 H4 rl4 k6=>⟨τ4,G4,rl4,(k3.trans k4).trans k6,h4⟩⟩⟩
  ·have e:i=items.length:=by omega
   subst e;rw [List.drop_length] at h';obtain ⟨_,_,stop⟩:=ok G' H' rl'.hp k' h'.1;exact .inl ⟨stop,af.nx τ' G' h'.2 σ' H' rl' (k1.trans k')⟩
def UZ {stay:Gp->Prop} {g:TG3} {tb:TS3} {d:Ends3} (items:List T) (Pv:Nat->St3->Gp->Prop) {τ:St3} {G:Gp} (h0:Pv 0 τ G) (hst:∀ i τ G,i<=items.length->Pv i τ G->stay G)
  (hs:∀ i x τ G (nx:St3->Gp->Prop),items[i]?=some x->Pv i τ G->(∀ τ G,Pv (i+1) τ G->nx τ G)->g x τ G λτ2 G2=>tb { d with nx:=nx,ct:=nx,bk:=d.nx } τ2 G2)
  (hd:∀ τ G,Pv items.length τ G->d.nx τ G):XT stay g tb d items τ G:=by
 have key:∀ (r:List T) (i:Nat) τ G,items.drop i=r->i<=items.length->Pv i τ G->XT stay g tb d r τ G:=by
  intro r;induction r with
  |nil=>
   intro i τ G e hi p;have:i=items.length:=by have:=congrArg List.length e;simp at this;omega
   subst this;exact ⟨hst _ τ G hi p,hd τ G p⟩
  |cons x r ih=>
   intro i τ G e hi p;have hl:i<items.length:=by
    apply Classical.byContradiction;intro z;rw [List.drop_eq_nil_of_le (by omega)] at e;cases e
   have e':=List.drop_eq_getElem_cons hl;rw [e] at e';injection e' with e1 e2;refine ⟨hst i τ G hi p,hs i x τ G _ (by rw [getElem?_eq_getElem hl,e1]) p λτ2 G2 p2=>ih (i+1) τ2 G2 e2.symm hl p2⟩
 exact key items 0 τ G (by simp) (Nat.zero_le _) h0
def DK (c:TT3) (tb:TS3):TS3:=λd τ G=>∃ W:Nat->St3->Gp->Prop,(∃ m,W m τ G)/\∀ m τ G,W m τ G ->
 c τ G λb G1=>if b=true then ∃ N:St3->Gp->Prop,(∀ τ' G',N τ' G'->∃ m',m'<m/\W m' τ' G')/\tb { d with nx:=N,ct:=N,bk:=d.nx } τ G1 else d.nx τ G1
def qdf {c:Expr} {body:List Stmt} {tc:TT3} {tb:TS3} (hp:PassesOwn (model X.prog X.w) X.A X.env X.xe) (hc:C3 X c tc) (hb:B3 X body tb):S3 X (.While c body [] pos) (DK tc tb):=
 NR (M7 hp hc hb) λD σ H ⟨τ,G,d,rl,⟨W,⟨m0,w0⟩,turn⟩,af⟩=>by
  refine ⟨λm σ' H'=>∃ τ' G',Rel X.K τ' G' σ' H'/\Kp G H G' H'/\W m τ' G',⟨m0,τ,G,rl,Kp.refl,w0⟩,?_⟩;rintro m σ' H' ⟨τ',G',rl',k',w'⟩;refine CG rl' (turn m τ' G' w') λb G1 h1 H1 hr1 k1 rl1=>?_;cases b with
  |true=>
   rw [if_pos rfl] at h1 ⊢;obtain ⟨N,hN,h1⟩:=h1;refine ⟨λσ2 H2=>∃ τ2 G2,Rel X.K τ2 G2 σ2 H2/\Kp G H G2 H2/\N τ2 G2,λσ2 H2 ⟨τ2,G2,r2,k2,n2⟩=>?_,τ',G1,_,rl1,h1,⟨λτ2 G2 h2 σ2 H2 r2 k2=>⟨τ2,G2,r2,(k'.trans k1).trans k2,h2⟩,af.rt.back (k'.trans k1),af.nx.back (k'.trans k1),λτ2 G2 h2 σ2 H2 r2 k2=>⟨τ2,G2,r2,(k'.trans k1).trans k2,h2⟩⟩⟩;obtain ⟨m',hm,w2⟩:=hN τ2 G2 n2;exact ⟨m',hm,τ2,G2,r2,k2,w2⟩
  |false=>
   rw [if_neg Bool.false_ne_true] at h1 ⊢;exact af.nx τ' G1 h1 σ' H1 rl1 (k'.trans k1)
abbrev Sp3:=List T->Gp->Q3->Prop
def lSp (K:Frg) (sp:Sp3):Sp:=λvs H Q _=>∃ ts G q,HR K G H/\Rps K H ts vs/\sp ts G q/\Aft K G H q Q
def Fn3 (P:Program) (w:World) (K:Frg) (mg:Str->Option Value) (base:Heap) (k:Nat) (x:Str) (sp:Sp3):Prop:=
 ∃ f fd ps,FnOk P w K mg base CX0 k f fd ps (lSp K sp)/\zP K fd ps []/\PySem.W.keepIn K (.ref f)=true/\mg x=some (.ref f)
def Fn3.mono {P:Program} {w:World} {K:Frg} {mg:Str->Option Value} {base:Heap} {j k:Nat} {x:Str} {sp:Sp3} (F:Fn3 P w K mg base j x sp) (h:j<=k):Fn3 P w K mg base k x sp:=
 let ⟨f,fd,ps,a,b,c,d⟩:=F;⟨f,fd,ps,a.mono h,b,c,d⟩
def Fn3.imp {P:Program} {w:World} {K:Frg} {mg:Str->Option Value} {base:Heap} {k:Nat} {x:Str} {sp sp':Sp3} (F:Fn3 P w K mg base k x sp) (h:∀ ts G q,sp' ts G q->sp ts G q):Fn3 P w K mg base k x sp':=
 let ⟨f,fd,ps,a,b,c,d⟩:=F;⟨f,fd,ps,a.imp λvs H Q E ⟨ts,G,q,h1,h2,h3,h4⟩=>⟨ts,G,q,h1,h2,h _ _ _ h3,h4⟩,b,c,d⟩
def qfZ {k:Nat} {x:Str} {p:Pos} {sp:Sp3} (F:Fn3 X.prog X.w X.K X.mg X.base k x sp) (hr:Room k X.A) (hg:Gl X x) (ha:A3 X (e::es) t) (hdb:(x==("__debug__" : Str))=false:=by decide)
  (he:starEach (e::es) X.env=(false,eval e X.env)::starEach es X.env:=by rfl) (hpl:(backTo pos (starEach es X.env)).any (·.1)=false:=by rfl):E3 X (.Call (.Name x p) (e::es) [] pos) (cb3 sp t):=by
 obtain ⟨f,fd,ps,F,b,kp,m⟩:=F;refine DZ (qcB F hr hg m kp b .nil qjh ha hdb he hpl) λσ H Q ⟨τ,G,q,rl,h,af⟩=>UA rl h λxs G1 h1 vs H1 rs hr1 k1 rl1=>?_;rw [List.append_nil];exact ⟨xs,G1,q,hr1,rs,h1,af.back k1⟩
def qs (N:List Str) (ts:List T):St3:=ts.map some++List.replicate (N.length-ts.length) none
def XG {K:Frg} {N:List Str} {G:Gp} {H:Hp} {ts:List T} {vs:List V} (hr:HR K G H) (rs:Rps K H ts vs):Rel K (qs N ts) G (L2.UN N vs) H:=by
 refine ⟨hr,by simp [qs,L2.UN,rs.length],λi t e=>?_⟩;unfold qs at e;by_cases hi:i<ts.length
 ·rw [List.getElem?_append_left (by simpa using hi),getElem?_map] at e;cases q:ts[i]? with
  |none=>rw [q] at e;cases e
  |some z=>
   rw [q] at e;have e':z=t:=by simpa using e
   subst e';obtain ⟨v,hv,r⟩:=rs.get q;refine ⟨v,?_,r⟩;unfold L2.UN;rw [List.getElem?_append_left (by rw [length_map,← rs.length];exact hi),getElem?_map,hv];rfl
 ·rw [List.getElem?_append_right (by simpa using hi),List.getElem?_replicate] at e;split at e<;>cases e
def qef {P:Program} {w:World} {K:Frg} {mg:Str->Option Value} {base:Heap} {x qual:Str} {st:Stmt} {f:Addr} {fd:FuncData} {N ps:List Str} {k:Nat} {sp:Sp3} {t3:TS3} (F:Fun K x qual st f fd) (S:FnScope N ps (qm st)) (bd:zP K fd ps []) (hm:mg x=some (.ref f))
  (body:∀ (cdv:Value) (A:Around) (outer:List Env) (s:Shared) (H:Hp) (E:XK),Room k (A.deeper (envOfC qual (qm st) s.heap.objs.size f cdv)) ->
   B3 (MV CX0 P w K mg base N qual (qm st) f cdv A outer s H E).nox (jk st) t3)
  (read:∀ ts G q,sp ts G q->ts.length=ps.length/\t3 { nx:=λ_ G'=>q .non G',rt:=q } (qs N ts) G):Fn3 P w K mg base (k+1) x sp:=by
 refine ⟨f,fd,ps,F.ok S (λvs H Q E ⟨ts,G,q,h1,h2,h3,h4⟩=>by rw [← h2.length];exact (read ts G q h3).1) λcdv A outer s H vs Q E hr ⟨ts,G,q,h1,h2,h3,h4⟩=>?_,bd,F.kp,hm⟩;refine ⟨_,body cdv A outer s H E hr,qs N ts,G,_,XG h1 h2,(read ts G q h3).2,⟨λτ' G' h' σ' H' rl' k'=>h4 _ G' h' _ H' .non rl'.hp k',h4,λ_ _ z=>z.elim,λ_ _ z=>z.elim⟩⟩
def qds (xs:List T):Option Bool:=match xs with
 |[]=>some true
 |.bl k::r=>(match qds r with|some j=>some (k&&j)|none=>none)
 |_=>none
def qhh (xs:List T):Option Bool:=match xs with
 |[]=>some false
 |.bl k::r=>(match qhh r with|some j=>some (k||j)|none=>none)
 |_=>none
def qaa {P:Program} {w:World} {A:Around} {its:List Value} {ks:List Bool} (h:its=ks.map Value.bool):TruthOf P w A (λi v=>its.toArray[i]?=some v) (λi=>ks.getD i true):=by
 intro i v s Q E hp hq;subst h;have hp':ks[i]?.map Value.bool=some v:=by simpa using hp
 cases e:ks[i]? with
 |none=>rw [e] at hp';cases hp'
 |some k=>
  rw [e] at hp';cases hp';have:ks.getD i true=k:=by rw [getD_eq_getElem?_getD,e];rfl
  have hq:Q (ks.getD i true) s:=hq;rw [this] at hq;exact wpAny_truthy_bool hq
def DR:∀ {ks:List Bool} {us:List Value},zQ (ks.map V.bl) us->us=ks.map Value.bool
 |[],_,r=>by cases r;rfl
 |k::ks,_,r=>by
  cases r with
  |cons a b=>rw [show _=Value.bool k from a,DR b];rfl
def MN (ks:List Bool):((List.range ks.length).all λi=>ks.getD i true)=ks.all id:=by
 induction ks with
 |nil=>rfl
 |cons k ks ih=>
  rw [length_cons,List.range_succ_eq_map,List.all_cons,List.all_map,List.all_cons];congr 1
def jA (hc:X.calm=true):YJ X (.builtin "all") (λxs H Q=>∃ (p:Addr) (ks:List Bool),xs=[.ref p]/\SqL X.K H p (ks.map V.bl)/\Q (.bl (ks.all id)) H):=by
 intro pins s σ H xs us Q I r h;obtain ⟨p,ks,rfl,hq,q⟩:=h;obtain ⟨u,rfl,rp⟩:=RH r;cases (show u=Value.ref p from rp);obtain ⟨its,rv,pl,hz⟩:=I.list hq;have hb:=DR rv;have hlen:its.length=ks.length:=by rw [hb];simp
 have hp:p<s.heap.objs.size:=by obtain ⟨o,n,e,_⟩:=pl;exact Heap.lt_size e
 refine call_all_walk (wpAny_pyIter_list pl.isList ⟨s.heap.objs.size,_,_,_,_,_,λi=>ks.getD i true,rfl,Walks.list (A:=X.A.in1) (show X.A.in1.handled=none from I.ok.hd hc) s.heap.objs.size p (Nat.ne_of_lt hp) its.toArray,⟨⟨_,Heap.get?_push_size _ rfl,rfl,rfl⟩,?_⟩,qaa hb,λh' tk hk=>?_⟩)
 ·obtain ⟨o,n,e,c,_,d⟩:=pl;exact ⟨o,Heap.get?_push_of_some _ e,c,n,d⟩
 ·refine ⟨.bl _,H,?_,rfl,by rw [size_toArray,hlen,MN];exact q⟩;exact I.kept (h':=h') (t':=tk) λb o e=>hk b o (by simp;exact Nat.ne_of_lt (Heap.lt_size e)) (Heap.get?_push_of_some _ e)
end
def DG (env:Env):List (Str×NameKind)->List (Str×Addr)->List (Str×Addr)
 |[],cs=>cs
 | (n,k)::r,cs=>if k=.free then DG env r ((n,(env.cells.lookup n).getD 0)::cs) else DG env r cs
def VI {scope:Scope} {env:Env} (h:∀ y∈scope.names,y.2=.free->∃ c,env.cells.lookup y.1=some c):closureFor scope env=pure (DG env scope.names []):=by
 have key:∀ (l:List (Str×NameKind)) (cs:List (Str×Addr)),(∀ y∈l,y.2=.free->∃ c,env.cells.lookup y.1=some c) ->
   (forIn l cs λ(x:Str×NameKind) (r:List (Str×Addr))=>if (x.2==NameKind.free)=true then (do let a←cellOf env x.1;pure (ForInStep.yield ((x.1,a)::r))) else pure (ForInStep.yield r))=(pure (DG env l cs):Sem _):=by
  intro l;induction l with
  |nil=>intro cs _;rfl
  |cons y r ih=>
   intro cs hl;obtain ⟨n,k⟩:=y;rw [List.forIn_cons];by_cases hk:k=.free
   ·subst hk;obtain ⟨c,hc⟩:=hl (n,.free) List.mem_cons_self rfl;have e:cellOf env n=pure c:=by unfold cellOf;rw [show List.lookup n env.cells=some c from hc]
    simp only [beq_self_eq_true,if_true];rw [e,pure_bind,pure_bind];show forIn r ((n,c)::cs) _=_;rw [ih _ λz hz=>hl z (List.mem_cons_of_mem _ hz)];show _=(pure (if NameKind.free=NameKind.free then DG env r ((n,(env.cells.lookup n).getD 0)::cs) else DG env r cs):Sem _);rw [if_pos rfl,show List.lookup n env.cells=some c from hc];rfl
   ·have hb:(k==NameKind.free)=false:=by cases k<;>first|rfl|exact absurd rfl hk
    simp only [hb,Bool.false_eq_true,if_false];rw [pure_bind];show forIn r cs _=_;rw [ih _ λz hz=>hl z (List.mem_cons_of_mem _ hz)];show _=(pure (if k=NameKind.free then DG env r ((n,(env.cells.lookup n).getD 0)::cs) else DG env r cs):Sem _);rw [if_neg hk]
 have:=key scope.names [] h;unfold closureFor;refine Eq.trans ?_ this;exact bind_pure (m:=Sem) _
def J9 {env:Env}:∀ (l:List (Str×NameKind)) (cs:List (Str×Addr)) (x:Str) (c:Addr),(∀ y∈l,y.2=.free->∃ c,env.cells.lookup y.1=some c) ->
  (∀ x c,cs.lookup x=some c->env.cells.lookup x=some c)->(DG env l cs).lookup x=some c->env.cells.lookup x=some c
 |[],_,_,_,_,h,e=>h _ _ e
 | (n,k)::r,cs,x,c,hl,h,e=>by
  unfold DG at e;split at e
  ·rename_i hk;refine J9 r _ x c (λy hy=>hl y (List.mem_cons_of_mem _ hy)) (λx c e=>?_) e;rw [List.lookup_cons] at e;split at e
   ·rename_i hx;have hx':x=n:=by simpa using hx
    subst hx';obtain ⟨d,hd⟩:=hl (x,k) List.mem_cons_self hk;have hd:List.lookup x env.cells=some d:=hd;rw [hd] at e ⊢;exact e
   ·exact h _ _ e
  ·exact J9 r cs x c (λy hy=>hl y (List.mem_cons_of_mem _ hy)) h e
def UF {env:Env}:∀ (l:List (Str×NameKind)) (cs:List (Str×Addr)) (x:Str),((x,NameKind.free)∈l\/∃ c,cs.lookup x=some c)->∃ c,(DG env l cs).lookup x=some c
 |[],_,_,h=>by
  rcases h with h|h
  ·simp at h
  ·exact h
 | (n,k)::r,cs,x,h=>by
  unfold DG;have put:∀ d:Addr,(x=n\/∃ c,cs.lookup x=some c)->∃ c,((n,d)::cs).lookup x=some c:=λd z=>by
   rw [List.lookup_cons];cases hx:x==n with
   |true=>exact ⟨d,rfl⟩
   |false=>
    rcases z with z|z
    ·rw [z] at hx;simp at hx
    ·exact z
  split
  ·rename_i hk;refine UF r _ x ?_;rcases h with h|h
   ·rcases mem_cons.mp h with e|e
    ·cases e;exact .inr (put _ (.inl rfl))
    ·exact .inl e
   ·exact .inr (put _ (.inr h))
  ·rename_i hk;refine UF r _ x ?_;rcases h with h|h
   ·rcases mem_cons.mp h with e|e
    ·cases e;exact absurd rfl hk
    ·exact .inl e
   ·exact .inr h
def WS {env:Env}:∀ (l:List (Str×NameKind)) (cs:List (Str×Addr)) (x:Str) (c:Addr),(DG env l cs).lookup x=some c->(x,NameKind.free)∈l\/cs.lookup x=some c
 |[],_,_,_,e=>.inr e
 | (n,k)::r,cs,x,c,e=>by
  unfold DG at e;split at e
  ·rename_i hk;rcases WS r _ x c e with z|z
   ·exact .inl (List.mem_cons_of_mem _ z)
   ·rw [List.lookup_cons] at z;split at z
    ·rename_i hx;have hx':x=n:=by simpa using hx
     subst hx';subst hk;exact .inl List.mem_cons_self
    ·exact .inr z
  ·rcases WS r cs x c e with z|z
   ·exact .inl (List.mem_cons_of_mem _ z)
   ·exact .inr z
def VT {α:Type}:∀ (xs ys:List (Str×α)) (x:Str),(xs++ys).lookup x=(match xs.lookup x with|some c=>some c|none=>ys.lookup x)
 |[],ys,x=>rfl
 | (n,c)::xs,ys,x=>by
  rw [cons_append,List.lookup_cons,List.lookup_cons];cases x==n with
  |true=>rfl
  |false=>exact VT xs ys x
def jj:∀ (l:List (Str×NameKind)) {n:Nat} {acc:List (Str×Addr)},cellsFrom n l acc=cellsFrom n l []++acc
 |[],_,_=>rfl
 | (x,k)::r,n,acc=>by
  unfold cellsFrom;split
  ·rw [jj r (acc:=(x,n)::acc),jj r (acc:=[(x,n)]),List.append_assoc];rfl
  ·exact jj r
def ZX:∀ (l:List (Str×NameKind)) (n:Nat) (acc:List (Str×Addr)) (x:Str) (c:Addr),(x,c)∈cellsFrom n l acc->(x,NameKind.cell)∈l\/(x,c)∈acc
 |[],_,_,_,_,h=>.inr h
 | (y,k)::r,n,acc,x,c,h=>by
  unfold cellsFrom at h;split at h
  ·rename_i hk;have hk:k=.cell:=by simpa using hk
   rcases ZX r _ _ x c h with z|z
   ·exact .inl (List.mem_cons_of_mem _ z)
   ·rcases mem_cons.mp z with e|e
    ·cases e;subst hk;exact .inl List.mem_cons_self
    ·exact .inr e
  ·rcases ZX r _ _ x c h with z|z
   ·exact .inl (List.mem_cons_of_mem _ z)
   ·exact .inr z
def jY:∀ (l:List (Str×NameKind)) (n:Nat) (acc:List (Str×Addr)) (x:Str),((x,NameKind.cell)∈l\/∃ c,acc.lookup x=some c)->∃ c,(cellsFrom n l acc).lookup x=some c
 |[],_,_,_,h=>by
  rcases h with h|h
  ·simp at h
  ·exact h
 | (y,k)::r,n,acc,x,h=>by
  unfold cellsFrom;have put:(x=y\/∃ c,acc.lookup x=some c)->∃ c,((y,n)::acc).lookup x=some c:=λz=>by
   rw [List.lookup_cons];cases hx:x==y with
   |true=>exact ⟨n,rfl⟩
   |false=>
    rcases z with z|z
    ·rw [z] at hx;simp at hx
    ·exact z
  split
  ·refine jY r _ _ x ?_;rcases h with h|h
   ·rcases mem_cons.mp h with e|e
    ·cases e;exact .inr (put (.inl rfl))
    ·exact .inl e
   ·exact .inr (put (.inr h))
  ·rename_i hk;refine jY r _ _ x ?_;rcases h with h|h
   ·rcases mem_cons.mp h with e|e
    ·cases e;exact absurd rfl hk
    ·exact .inl e
   ·exact .inr h
def Z0 {M:Model} {A:Around} {E:Value->Shared->Prop} {s:Shared} {scope:Scope} {globals:Addr} {cl:List (Str×Addr)} {qual:Str} {env:Env} {Q:Env->Shared->Prop}
  (hQ:∀ h₁:Heap,h₁.Ns s.heap.objs.size (λ_=>none)->(∀ b o,s.heap.get? b=some o->h₁.get? b=some o)->CellsOk h₁ (s.heap.objs.size+1) (cellsFrom (s.heap.objs.size+1) scope.names [])->Q (newEnv scope s.heap.objs.size globals (cellsFrom (s.heap.objs.size+1) scope.names cl) qual none .none (some env) builtinsNs) { s with heap:=h₁ }) :
  wpAny M A (newFunctionEnv scope globals cl [] qual none .none (some env)) Q E s:=by
 simp only [newFunctionEnv,Option.isSome_some,if_true];refine wpAny_bind (wpAny_alloc ?_);refine wpAny_bind (wpAny_layCells _ (λname kind cells=>by cases hkc:kind==NameKind.cell<;>simp [hkc]) _ _ _ _ ?_);have ok:=cellsFrom_ok scope.names (s.heap.push { cls:=.type "dict",data:=.dict #[] }) (s.heap.objs.size+1) [] ⟨λ_ _ hm=>(nomatch hm),List.Pairwise.nil⟩ (by rw [Heap.size_push];exact Nat.le_refl _);rw [Heap.size_push] at ok;rw [show ({ s with heap:=s.heap.push { cls:=.type "dict",data:=.dict #[] } }:Shared).heap.objs.size=s.heap.objs.size+1 from Heap.size_push ..];rw [List.forIn_nil];refine wpAny_bind (wpAny_pure (wpAny_pure ?_));exact hQ _ ((Heap.Ns.new s.heap (.type "dict")).keeps (pushCells_keeps _ _)) (λb o e=>pushCells_keeps _ _ b o (Heap.get?_push_of_some _ e)) ok
def qz (X:Cx) (N':List Str) (scope:Scope) (s:Shared) (H:Hp) (fp:List Addr):Cx where
 prog:=X.prog
 w:=X.w
 K:=X.K
 mg:=X.mg
 base:=X.base
 A:=X.A
 N:=N'
 s₀:=s
 H₀:=H
 env:=compEnvC scope (cellsFrom (s.heap.objs.size+1) scope.names (DG X.env scope.names [])) s.heap.objs.size X.env
 outer:=X.stack
 stack:=X.stack
 ex:=fp
 fn:=λx=>scope.names.lookup x==some .cell
 calm:=true
 pn:=[]
 xe:=λ_ _=>False
def N7 (outer inner:Scope):Bool:=(inner.kind==.function)&&inner.names.all λy=>
 (y.2 != .cell||inner.names.lookup y.1==some .cell)&&(y.2 != .local||inner.names.lookup y.1==some .local)&&(y.2 != .free||(inner.names.lookup y.1==some .free&&(outer.names.lookup y.1==some .cell||outer.names.lookup y.1==some .free)))
def cap {α:Type} (m:List (Option Nat)) (σ:List (Option α)):List (Option α):=m.map λo=>match o with|some j=>(σ[j]?).join|none=>none
def UD (N N':List Str) (scope:Scope) (m:List (Option Nat)):Bool:=(m.length==N'.length)&&(m.zip N').all λp=>match p.1 with
 |none=>true
 |some j=>N[j]?==some p.2&&scope.names.lookup p.2==some .free
def T5 {α:Type} {m:List (Option Nat)} {σ:List (Option α)} {i:Nat} {v:α} (h:(cap m σ)[i]?=some (some v)):∃ j,m[i]?=some (some j)/\σ[j]?=some (some v):=by
 unfold cap at h;rw [getElem?_map] at h;cases e:m[i]? with
 |none=>rw [e] at h;cases h
 |some o=>
  rw [e] at h;cases o with
  |none=>cases h
  |some j=>
   refine ⟨j,rfl,?_⟩;have h':(σ[j]?).join=some v:=by simpa using h
   cases q:σ[j]? with
   |none=>rw [q] at h';cases h'
   |some z=>rw [q] at h';exact congrArg some h'
def T9 {N N':List Str} {scope:Scope} {m:List (Option Nat)} (h:UD N N' scope m=true) {i j:Nat} {x:Str} (e:m[i]?=some (some j)) (hx:N'[i]?=some x):N[j]?=some x/\scope.names.lookup x=some .free:=by
 unfold UD at h;rw [Bool.and_eq_true] at h;have hm:(some j,x)∈m.zip N':=mem_of_getElem? (i:=i) (List.getElem?_zip_eq_some.mpr ⟨e,hx⟩);have:=List.all_eq_true.mp h.2 _ hm;simp only [Bool.and_eq_true,beq_iff_eq] at this;exact this
def qb5 {N N':List Str} {scope:Scope} {m:List (Option Nat)} {α:Type} (σ:List (Option α)) (h:UD N N' scope m=true):(cap m σ).length=N'.length:=by
 unfold UD at h;rw [Bool.and_eq_true] at h;unfold cap;rw [length_map];simpa using h.1
structure ScFacts (outer inner:Scope):Prop where
 kind:inner.kind=.function
 own:∀ y∈inner.names,y.2=.cell->inner.names.lookup y.1=some .cell
 loc:∀ y∈inner.names,y.2=.local->inner.names.lookup y.1=some .local
 free:∀ y∈inner.names,y.2=.free->inner.names.lookup y.1=some .free/\(outer.names.lookup y.1=some .cell\/outer.names.lookup y.1=some .free)
def DP {outer inner:Scope} (h:N7 outer inner=true):ScFacts outer inner:=by
 unfold N7 at h;rw [Bool.and_eq_true] at h;have ha:=List.all_eq_true.mp h.2;refine ⟨by simpa using h.1,λy hy e=>?_,λy hy e=>?_,λy hy e=>?_⟩
 ·have:=ha y hy;rw [e] at this;simpa using this
 ·have:=ha y hy;rw [e] at this;simpa using this
 ·have:=ha y hy;rw [e] at this;simpa using this
def QT {scope:Scope} {env:Env} {x:Str} {k:NameKind} (h:(relabel scope env).names.lookup x=some k):scope.names.lookup x=some k\/(k=.cell/\scope.names.lookup x=some .free):=by
 have key:∀ (l:List (Str×NameKind)),(l.map λ(n,k)=>if (k==NameKind.free&&env.scope.kind==.function&&env.kindOf n==some .cell) then (n,NameKind.cell) else (n,k)).lookup x=some k->l.lookup x=some k\/(k=.cell/\l.lookup x=some .free):=by
  intro l;induction l with
  |nil=>intro h;simp at h
  |cons y r ih=>
   intro h;obtain ⟨n,j⟩:=y;rw [map_cons] at h;dsimp only at h;by_cases hc:(j==NameKind.free&&env.scope.kind==.function&&env.kindOf n==some .cell)=true
   ·rw [if_pos hc,List.lookup_cons] at h;rw [List.lookup_cons];cases hx:x==n with
    |true=>
     rw [hx] at h;have hk:NameKind.cell=k:=by simpa using h
     have hj:j=.free:=by simp only [Bool.and_eq_true,beq_iff_eq] at hc;exact hc.1.1
     exact .inr ⟨hk.symm,by rw [hj]⟩
    |false=>rw [hx] at h;exact ih h
   ·rw [if_neg hc,List.lookup_cons] at h;rw [List.lookup_cons];cases hx:x==n with
    |true=>rw [hx] at h;exact .inl h
    |false=>rw [hx] at h;exact ih h
 exact key scope.names h
def PF (X:Cx) (ifs:List Expr) (t:TT):Prop:=
 ∀ (pins:List (Addr×Obj)) (s:Shared) (σ:L2.St) (H:Hp) (Q:Bool->Hp->Prop),Inv X pins σ H s->t σ H Q ->
  wpAny (model X.prog X.w) X.A (forIn ifs true λc r=>if r=true then do let ok←isTrue c X.env (eval c X.env);pure (ForInStep.yield ok) else pure (ForInStep.yield r)) (TP X pins σ Q) X.xe s
def qd1 {X:Cx}:PF X [] (λ_ H Q=>Q true H):=λ_ _ _ H _ I h=>wpAny_tests_nil ⟨H,I,h⟩
section
variable {X:Cx} {pins:List (Addr×Obj)} {σ:L2.St} {H:Hp} {s:Shared}
def R1 {N':List Str} {scope:Scope} {fp:List Addr} {m:List (Option Nat)} {h1:Heap} {mm:Str->Option Value} (hc:X.calm=true) (I:Inv X pins σ H s) (sc:ScFacts X.env.scope scope) (hcap:UD X.N N' scope m=true)
  (hfp:∀ b∈fp,RX X pins H b) (hob:∀ b∈fp,∃ o,s.heap.get? b=some o) (hns:h1.Ns s.heap.objs.size mm) (hk:∀ b o,s.heap.get? b=some o->h1.get? b=some o) (hown:CellsOk h1 (s.heap.objs.size+1) (cellsFrom (s.heap.objs.size+1) scope.names [])) :
  Inv (qz X N' scope s H fp) [] (cap m σ) H { s with heap:=h1 }:=by
 have hcl:∀ y∈scope.names,y.2=.free->∃ c,X.env.cells.lookup y.1=some c:=λy hy e=>by
  rcases (sc.free y hy e).2 with z|z
  ·exact I.ok.has y.1 (.inl z)
  ·exact I.ok.has y.1 (.inr z)
 have cl:∀ x c,(DG X.env scope.names []).lookup x=some c->X.env.cells.lookup x=some c:=λx c e=>J9 scope.names [] x c hcl (λ_ _ z=>by simp at z) e;have clt:∀ x c,(DG X.env scope.names []).lookup x=some c->c<s.heap.objs.size:=λx c e=>by
  obtain ⟨v,q⟩:=I.cell x c (cl x c e);exact q.lt
 -- a cell of the block: its own,or one from around
 have cs:∀ x c,(cellsFrom (s.heap.objs.size+1) scope.names (DG X.env scope.names [])).lookup x=some c->((x,c)∈cellsFrom (s.heap.objs.size+1) scope.names []/\s.heap.objs.size+1<=c/\h1.IsCell c none)\/(DG X.env scope.names []).lookup x=some c:=λx c e=>by
  rw [jj,VT] at e;cases q:(cellsFrom (s.heap.objs.size+1) scope.names []).lookup x with
  |none=>rw [q] at e;exact .inr e
  |some d=>
   rw [q] at e;cases e;have mem:=PySem.mem_of_lookup q;exact .inl ⟨mem,(hown.empty x _ mem).2,(hown.empty x _ mem).1⟩
 have fpne:∀ b∈fp,b≠s.heap.objs.size:=λb hb=>let ⟨o,e⟩:=hob b hb;Nat.ne_of_lt (Heap.lt_size e)
 refine ⟨⟨I.ok.mod,sc.kind,I.ok.glob,I.ok.blt,Nat.le_refl _,λx y c e1 e2=>?_,λx hx=>?_,λx c hf e=>?_,λ_=>I.ok.hd hc,I.ok.frames,.inl rfl,λb hb=>⟨fpne b hb,λx c e=>?_⟩,I.bs,Nat.le_trans I.ok.bsz I.sz,λb o e hb=>?_,λb hb z=>?_,I.stack,I.stkFree⟩,
  rfl,I.bare,Un.kept hk,⟨mm,hns,λi x v e1 e2 e3=>?_⟩,λx c e=>?_,I.fresh,λx c e=>?_,λp hp=>absurd (show p∈([]:List (Addr×Obj)) from hp) (by simp),I.hok.kept hk,qb5 σ hcap⟩
 ·rcases cs x c e1 with ⟨m1,l1,_⟩|z1<;>rcases cs y c e2 with ⟨m2,l2,_⟩|z2
  ·exact PySem.name_of_addr hown.apart m1 m2
  ·exact absurd (clt y c z2) (Nat.not_lt.mpr (Nat.le_trans (Nat.le_succ _) l1))
  ·exact absurd (clt x c z1) (Nat.not_lt.mpr (Nat.le_trans (Nat.le_succ _) l2))
  ·exact I.ok.inj x y c (cl x c z1) (cl y c z2)
 ·have hx:(relabel scope X.env).names.lookup x=some .cell\/(relabel scope X.env).names.lookup x=some .free:=hx;have hf:scope.names.lookup x=some .cell\/scope.names.lookup x=some .free:=by
   rcases hx with z|z
   ·rcases QT z with q|⟨_,q⟩
    ·exact .inl q
    ·exact .inr q
   ·rcases QT z with q|⟨q,_⟩
    ·exact .inr q
    ·cases q
  show ∃ c,(cellsFrom (s.heap.objs.size+1) scope.names (DG X.env scope.names [])).lookup x=some c;rcases hf with hf|hf
  ·exact jY scope.names _ _ x (.inl (PySem.mem_of_lookup hf))
  ·exact jY scope.names _ _ x (.inr (UF scope.names [] x (.inl (PySem.mem_of_lookup hf))))
 ·have hf:scope.names.lookup x=some .cell:=by simpa [qz] using hf
  rcases cs x c e with ⟨_,l1,_⟩|z1
  ·exact Nat.le_trans (Nat.le_succ _) l1
  ·rcases WS scope.names [] x c z1 with q|q
   ·rw [(sc.free _ q rfl).1] at hf;cases hf
   ·simp at q
 ·rcases cs x c e with ⟨_,l1,_⟩|z1
  ·obtain ⟨o,eo⟩:=hob b hb;exact Nat.ne_of_gt (Nat.lt_of_lt_of_le (Heap.lt_size eo) (Nat.le_trans (Nat.le_succ _) l1))
  ·exact (hfp b hb).2.2.2.2.1 x c (cl x c z1)
 ·rcases (hfp b hb).2.2.2.1 with z|z
  ·exact I.ok.noex b o e z
  ·exact absurd (Nat.lt_of_lt_of_le (Heap.lt_size e) (Nat.le_trans I.ok.bsz z)) (Nat.lt_irrefl _)
 ·rcases mem_cons.mp (I.stkSub b z) with q|q
  ·exact (hfp b hb).2.1 q
  ·exact (hfp b hb).2.2.1 q
 ·obtain ⟨j,ej,es⟩:=T5 e2;obtain ⟨hN,hfr⟩:=T9 hcap ej e1;have mem:=PySem.mem_of_lookup hfr;have ho:=(sc.free _ mem rfl).2;obtain ⟨m0,hn0,hl0⟩:=I.loc;obtain ⟨u,ru,lk⟩:=hl0 j x v hN es (ho.elim (λz=>.inr (.inl z)) λz=>.inr (.inr z));refine ⟨u,ru,.inr ⟨?_,?_⟩⟩
  ·rcases e3 with z|z|z
   ·rcases QT z with q|⟨q,_⟩
    ·rw [hfr] at q;cases q
    ·cases q
   ·exact .inl z
   ·exact .inr z
  ·rcases lk with ⟨z,_⟩|⟨_,c,hc',hcell⟩
   ·have z:X.env.scope.names.lookup x=some .local:=z;rcases ho with q|q<;>(rw [z] at q;cases q)
   ·obtain ⟨c',hc2⟩:=UF (env:=X.env) scope.names [] x (.inl mem);have e:=cl x c' hc2;rw [hc'] at e;cases e;obtain ⟨o,eo,d⟩:=hcell;refine ⟨c,?_,o,hk c o eo,d⟩;show (cellsFrom (s.heap.objs.size+1) scope.names (DG X.env scope.names [])).lookup x=some c;rw [jj,VT];cases q:(cellsFrom (s.heap.objs.size+1) scope.names []).lookup x with
    |none=>exact hc2
    |some d=>
     rcases ZX scope.names _ [] x d (PySem.mem_of_lookup q) with z|z
     ·rw [sc.own _ z rfl] at hfr;cases hfr
     ·simp at z
 ·rcases cs x c e with ⟨_,_,z⟩|z1
  ·exact ⟨none,z⟩
  ·obtain ⟨v,o,eo,d⟩:=I.cell x c (cl x c z1);exact ⟨v,o,hk c o eo,d⟩
 ·rcases cs x c e with ⟨_,l1,_⟩|z1
  ·exact I.hok.fresh (Nat.le_trans (Nat.le_succ _) l1)
  ·exact I.freeC x c (cl x c z1)
def DJ {N':List Str} {scope:Scope} {fp:List Addr} {pins':List (Addr×Obj)} {σ':L2.St} {H':Hp} {s':Shared} {h2:Heap} (I:Inv X pins σ H s) (hfp:∀ b∈fp,RX X pins H b) (J:Inv (qz X N' scope s H fp) pins' σ' H' s')
  (sb:Heap.SameBut s.heap.objs.size s'.heap h2):Inv X pins σ H' { s' with heap:=h2 }:=by
 have ne:∀ b o,s.heap.get? b=some o->b≠s.heap.objs.size:=λb o e=>Nat.ne_of_lt (Heap.lt_size e);have g:∀ b,b≠s.heap.objs.size->h2.get? b=s'.heap.get? b:=λb hb=>sb.2 b hb;have hn:H' s.heap.objs.size=none:=J.free;have u:Un (frs X.stack) fp H H' s.heap s'.heap:=J.base;refine I.call' (s':={ s' with heap:=h2 }) J.os ⟨λb o e n hb hx=>?_,λb o e n hb hx=>?_,u.free,λb o e hx=>?_,u.tups,u.frzs,u.tbls⟩ (λa o e=>?_) J.bare λb hb=>⟨(hfp b hb).2.2.2.1,(hfp b hb).2.1,(hfp b hb).2.2.2.2.1,(hfp b hb).2.2.2.2.2⟩
 ·show h2.get? b=_;rw [g b (ne b o e)];exact u.keep b o e n hb hx
 ·show ∃ sl,h2.get? b=_;rw [g b (ne b o e)];exact u.slot b o e n hb hx
 ·show ∃ o',h2.get? b=_;rw [g b (ne b o e)];exact u.there b o e hx
 ·refine (J.hok a o e).stay (λb v hb q=>?_) (λ_ q=>q) λ_ _ q=>q;have hb':b≠s.heap.objs.size:=by
   intro z;subst z;rcases hb with z|z
   ·rw [← z] at e;rw [hn] at e;cases e
   ·rw [hn] at z;cases z
  rw [g b hb'];exact q
end
def tLC (wi:TI) (g:TG) (tif:TT) (te:TE) (m:List (Option Nat)):TE:=λσ H Q=>wi σ H λJ H1=>∀ D,H1 D=none ->
 ∃ W:Nat->Nat->L2.St->Hp->Prop,(∃ n,W 0 n (cap m σ) (upd H1 D (.lst [])))/\∀ i n σ H,W i n σ H ->
  (J.stop i H/\Q (.ref D) H)\/(J.go i H/\∀ x H',J.yld i H x H'->g x σ H' λσ2 H2=>tif σ2 H2 λk H3=>
   if k=true then te σ2 H3 λy H4=>∃ zs,H4 D=some (.lst zs)/\zs.length<sizeLine/\∃ n',n'<n/\W (i+1) n' σ2 (upd H4 D (.lst (zs++[y])))
   else ∃ n',n'<n/\W (i+1) n' σ2 H3)
section
variable {X:Cx}
def qhP {elt tg iter:Expr} {ifs:List Expr} {scope:Scope} {pos:Pos} {N':List Str} {m:List (Option Nat)} {wi:TI} {g:TG} {tif:TT} {te:TE} (hc:X.calm=true) (hi:PI X tg iter wi)
  (hg:∀ s H fp,PG (qz X N' scope s H fp) tg g) (hf:∀ s H fp,PF (qz X N' scope s H fp) ifs tif) (he:∀ s H fp,PE (qz X N' scope s H fp) elt te)
  (hsc:N7 X.env.scope scope=true) (hcap:UD X.N N' scope m=true) (hs:∀ x,foldedSetIterable iter X.env x=pure x:=by intro _;rfl) :
  PE X (.ListComp elt [⟨tg,iter,ifs,0⟩] scope pos) (tLC wi g tif te m):=by
 intro pins s σ H Q I h;have sc:=DP hsc;have hcl:∀ y∈scope.names,y.2=.free->∃ c,X.env.cells.lookup y.1=some c:=λy hy e=>by
  rcases (sc.free y hy e).2 with z|z
  ·exact I.ok.has y.1 (.inl z)
  ·exact I.ok.has y.1 (.inr z)
 rw [eval_ListComp];refine wpAny_comprehension_free (use:=none) (g:=⟨tg,iter,ifs,0⟩) (gs:=[]) rfl hs (VI hcl) sc.kind sc.loc ?_;show wpAny _ _ (eval iter X.env) _ _ s;refine thn (hi pins s σ H _ I h) λv s1 h1=>thn h1 λitv s2 h2=>?_;obtain ⟨it,fp,tn,J,H2,rfl,I2,T,st2,f2,hW⟩:=h2;refine wpAny_newObj_type ?_;have hD:H2 s2.heap.objs.size=none:=I2.fresh;obtain ⟨W,⟨n0,w0⟩,turn⟩:=hW _ hD;generalize hDe:s2.heap.objs.size=D at *;have I3:Inv X pins σ (upd H2 D (.lst [])) { s2 with heap:=s2.heap.push { cls:=.type "list",dict:=none,data:=.seq ([]:List Value).toArray } }:=by
  subst hDe;exact I2.laid (t':=s2.toks) (λb u e=>Heap.get?_push_of_some _ e) (Nat.le_refl _) ⟨Nat.zero_le _,[],0,.nil,Heap.get?_push_size _ rfl⟩
 have ob2:=T.obj 0 _ st2;have ob3:∀ b∈fp,∃ o,(s2.heap.push { cls:=.type "list",dict:=none,data:=.seq ([]:List Value).toArray }).get? b=some o:=λb hb=>let ⟨o,e,_⟩:=ob2 b hb;⟨o,Heap.get?_push_of_some _ e⟩
 have f3:∀ b∈fp,RX X pins (upd H2 D (.lst [])) b:=λb hb=>by
  obtain ⟨o,e,_⟩:=ob2 b hb;have:b≠D:=by rw [← hDe];exact Nat.ne_of_lt (Heap.lt_size e)
  exact ⟨by rw [zr this];exact (f2 b hb).1,(f2 b hb).2⟩
 have k23:∀ b o,s2.heap.get? b=some o->(s2.heap.push { cls:=.type "list",dict:=none,data:=.seq ([]:List Value).toArray }).get? b=some o:=λb o e=>Heap.get?_push_of_some _ e;generalize hH3:upd H2 D (.lst [])=H3 at *;generalize hs3:({ s2 with heap:=s2.heap.push { cls:=.type "list",dict:=none,data:=.seq ([]:List Value).toArray } }:Shared)=s3 at *;have ob3:∀ b∈fp,∃ o,s3.heap.get? b=some o:=by rw [← hs3];exact ob3
 have k23:∀ b o,s2.heap.get? b=some o->s3.heap.get? b=some o:=by rw [← hs3];exact k23
 refine Z0 λh₁ hns hk hown=>?_;have I4:Inv (qz X N' scope s3 H3 fp) [] (cap m σ) H3 { s3 with heap:=h₁ }:=R1 hc I3 sc hcap f3 ob3 hns hk hown;have tn4:tn 0 h₁:=T.keep _ _ _ st2 λb hb o e=>hk b o (k23 b o e);have fr4:∀ b∈fp,H3 b=none:=λb hb=>(f3 b hb).1;have stat:∀ {H':Hp},(∀ b∈fp,H' b=none)->∀ b∈fp,RX (qz X N' scope s3 H3 fp) [] H' b:=λhn b hb=>by
  refine ⟨hn b hb,I4.ok.exf b hb |>.1,I4.ok.exfs b hb,.inl hb,λx c e=>(I4.ok.exf b hb).2 x c e,λp hp=>absurd (show p∈([]:List (Addr×Obj)) from hp) (by simp)⟩
 show codeAny (model X.prog X.w) X.A (.compStart (.ListComp elt [⟨tg,iter,ifs,0⟩] scope pos) 0 (.ref it) (.ref D) (qz X N' scope s3 H3 fp).env) (compPost (model X.prog X.w) X.A X.xe none (EP X pins σ Q) (.ref D) s3.heap.objs.size) { s3 with heap:=h₁ };have loop:codeAny (model X.prog X.w) X.A (.compLoop (.ListComp elt [⟨tg,iter,ifs,0⟩] scope pos) 0 (.ref it) (.ref D) (qz X N' scope s3 H3 fp).env) (compPost (model X.prog X.w) X.A X.xe none (EP X pins σ Q) (.ref D) s3.heap.objs.size) { s3 with heap:=h₁ }:=by
  refine codeAny_loop rfl (λn s'=>∃ i σ' H',Inv (qz X N' scope s3 H3 fp) [] σ' H' s'/\tn i s'.heap/\(∀ b∈fp,H' b=none)/\W i n σ' H') (λn s' hI=>?_) n0 ⟨0,cap m σ,H3,I4,tn4,fr4,w0⟩;show wpAny _ X.A ((compTurn (.ListComp elt [⟨tg,iter,ifs,0⟩] scope pos) 0 (.ref it) (.ref D) (qz X N' scope s3 H3 fp).env).onRaise (λx=>do noteFrame x (qz X N' scope s3 H3 fp).env;theTreesLotGoes x)) _ _ s';refine wpAny_noted ?_;rw [compTurn_list];refine wpAny_bind (wpAny_standAt (wpAny_bind ?_));obtain ⟨i,σ5,H5,I5,st5,fr5,w5⟩:=hI;rcases turn i n σ5 H5 w5 with ⟨stop,q⟩|⟨go,step⟩
  ·refine thn (T.done (qz X N' scope s3 H3 fp) rfl rfl rfl rfl i [] s' σ5 H5 _ I5 (stat fr5) st5 stop) λr s6 ⟨hr,I6⟩=>?_;subst hr;refine wpAny_pure ?_;obtain ⟨mm,hn6,_⟩:=I6.loc;exact ⟨mm,hn6,λh' sb=>⟨.ref D,H5,DJ I3 f3 I6 sb,rfl,q⟩⟩
  ·refine thn (T.item (qz X N' scope s3 H3 fp) rfl rfl rfl rfl i [] s' σ5 H5 _ I5 (stat fr5) st5 go) λr s6 ⟨u,hr,h6⟩=>?_;subst hr;refine wpAny_bind (thn h6 λ_ s7 ⟨x,H7,I7,r7,y7,st7,fr7⟩=>?_);have I7':=I7.pinned (stat fr7) (T.obj _ _ st7);have again:∀ {σ8:L2.St} {H8:Hp} {s8:Shared},Inv (qz X N' scope s3 H3 fp) ([]++DM fp s7.heap) σ8 H8 s8->(∃ n',n'<n/\W (i+1) n' σ8 H8) ->
     ∃ m',m'<n/\∃ i σ' H',Inv (qz X N' scope s3 H3 fp) [] σ' H' s8/\tn i s8.heap/\(∀ b∈fp,H' b=none)/\W i m' σ' H':=λ{σ8 H8 s8} I8 ⟨n',hn,w8⟩=>by
    refine ⟨n',hn,i+1,σ8,H8,I8.unpinned,T.keep _ _ _ st7 λb hb o e=>(I8.pin (b,o) (mem_append_right _ (mem_append_right _ (j5 hb e)))).1,λb hb=>?_,w8⟩;obtain ⟨o,e,d⟩:=T.obj _ _ st7 b hb;exact (I8.pin (b,o) (mem_append_right _ (mem_append_right _ (j5 hb e)))).2.1
   refine wpAny_bind (wpAny_mono (hg s3 H3 fp _ s7 σ5 H7 x u _ I7' r7 (step x H7 y7)) (λ_ s8 ⟨σ8,H8,I8,q8⟩=>?_) λ_ _ z=>z.elim);refine wpAny_bind (wpAny_mono (hf s3 H3 fp _ s8 σ8 H8 _ I8 q8) (λk s9 ⟨H9,I9,q9⟩=>?_) λ_ _ z=>z.elim);cases k with
   |false=>
    rw [if_neg Bool.false_ne_true] at q9;exact wpAny_pure ⟨rfl,again I9 q9⟩
   |true=>
    rw [if_pos rfl] at q9;refine wpAny_bind (wpAny_bind (wpAny_mono (he s3 H3 fp _ s9 σ8 H9 _ I9 q9) (λw s10 ⟨y,H10,I10,r10,q10⟩=>?_) λ_ _ z=>z.elim));obtain ⟨zs,hz,hl,q10⟩:=q10;refine wpAny_bind (wpAny_mono (U9 (X:=qz X N' scope s3 H3 fp) _ s10 σ8 H10 (.ref D) [y] (.ref D) [w] (λ_ H11=>H11=upd H10 D (.lst (zs++[y]))) I10 rfl (.cons r10 .nil) ⟨D,zs,y,rfl,rfl,hz,hl,rfl⟩) (λ_ s11 ⟨_,H11,I11,_,e11⟩=>?_) λ_ _ z=>z.elim);subst e11;exact wpAny_pure (wpAny_pure ⟨rfl,again I11 q10⟩)
 exact codeAny_compStart_list loop (T.self X.A 0 _ _ _ tn4 loop)
end
section
variable {K:Frg} {G G':Gp} {H H':Hp}
def qcX {D:Addr} {o:HO} {ws:List V} (hD:H D=some (.lst ws)) {a:Addr} {vs:List V} (h:SqT K H a vs):SqT K (upd H D o) a vs:=by
 rcases h with h|h
 ·refine .inl ?_;rcases h with h|⟨ob,h⟩
  ·have:a≠D:=by intro e;subst e;rw [hD] at h;cases h
   exact .inl (by rw [zr this];exact h)
  ·have:a≠D:=by intro e;subst e;rw [hD] at h;cases h
   exact .inr ⟨ob,by rw [zr this];exact h⟩
 ·exact .inr h
mutual
def Rp.wrD {D:Addr} {o:HO} {ws:List V} (hD:H D=some (.lst ws)):∀ {x:T} {v:V},Rp K H x v->Rp K (upd H D o) x v
 |_,_,.non=>.non
 |_,_,.bl b=>.bl b
 |_,_,.int i=>.int i
 |_,_,.str x=>.str x
 |_,_,.ref a=>.ref a
 |_,_,.tup h hs=>.tup (qcX hD h) (Rps.wrD hD hs)
def Rps.wrD {D:Addr} {o:HO} {ws:List V} (hD:H D=some (.lst ws)):∀ {x:List T} {v:List V},Rps K H x v->Rps K (upd H D o) x v
 |_,_,.nil=>.nil
 |_,_,.cons a b=>.cons (Rp.wrD hD a) (Rps.wrD hD b)
end
def HR.wrD {D:Addr} {o:HO} {ws:List V} (hr:HR K G H) (hD:H D=some (.lst ws)) (g:G D=none):HR K G (upd H D o):=λa ob e=>by
 have ha:a≠D:=by intro z;subst z;rw [g] at e;cases e
 have q:=hr a ob e;cases ob with
 |lst xs=>obtain ⟨vs,h1,h2⟩:=q;exact ⟨vs,by rw [zr ha];exact h1,h2.wrD hD⟩
 |frz xs=>obtain ⟨vs,⟨o1,h1⟩,h2⟩:=q;exact ⟨vs,⟨o1,by rw [zr ha];exact h1⟩,h2.wrD hD⟩
def Rel.wrD {D:Addr} {o:HO} {ws:List V} {τ:St3} {σ:L2.St} (r:Rel K τ G σ H) (hD:H D=some (.lst ws)) (g:G D=none):Rel K τ G σ (upd H D o):=
 ⟨r.hp.wrD hD g,r.len,λi t e=>let ⟨v,h1,h2⟩:=r.st i t e;⟨v,h1,h2.wrD hD⟩⟩
def Kp.wrD {D:Addr} {o:HO} (k:Kp G H G' H') (hD:H D=none):Kp G H G' (upd H' D o):=λa ob h g=>by
 obtain ⟨h1,h2⟩:=k a ob h g;exact ⟨by rw [zr (zj h hD)];exact h1,h2⟩
def M3 {α:Type} {m:List (Option Nat)} {σ:List (Option α)} {i j:Nat} (h:m[i]?=some (some j)):(cap m σ)[i]?=some ((σ[j]?).join):=by
 unfold cap;rw [getElem?_map,h];rfl
def Rel.cap {τ:St3} {σ:L2.St} (r:Rel K τ G σ H) (m:List (Option Nat)):Rel K (cap m τ) G (L3.cap m σ) H:=by
 refine ⟨r.hp,by simp [L3.cap],λi t e=>?_⟩;obtain ⟨j,e1,e2⟩:=T5 e;obtain ⟨v,h1,h2⟩:=r.st j t e2;exact ⟨v,by rw [M3 e1,h1];rfl,h2⟩
end
def WC (stay:Gp->Prop) (g:TG3) (tif:TT3) (te:TE3) (q:Q3):List T->List T->St3->Gp->Prop
 |[],ys,_,G=>stay G/\∀ p,G p=none->q (.ref p) (gu G p (.lst ys))
 |x::r,ys,τ,G=>stay G/\g x τ G λτ2 G2=>tif τ2 G2 λk G3=>if k=true then te τ2 G3 λy G4=>ys.length<sizeLine/\WC stay g tif te q r (ys++[y]) τ2 G4 else WC stay g tif te q r ys τ2 G3
def lc3 (wi:TI3) (g:TG3) (tif:TT3) (te:TE3) (m:List (Option Nat)):TE3:=λτ G q=>wi τ G λitems stay G1=>WC stay g tif te q items [] (cap m τ) G1
abbrev F3 (X:Cx) (ifs:List Expr) (t:TT3):Prop:=PF X ifs (lT X.K t)
def tt3:TT3:=λ_ G q=>q true G
def qiT {X:Cx}:F3 X [] tt3:=λpins s σ H Q I ⟨τ,G,q,rl,h,af⟩=>qd1 pins s σ H Q I (af true G h H rl.hp Kp.refl)
section
variable {X:Cx}
def qld {elt tg iter:Expr} {ifs:List Expr} {scope:Scope} {pos:Pos} (N':List Str) (m:List (Option Nat)) {wi:TI3} {g:TG3} {tif:TT3} {te:TE3} (hc:X.calm=true) (hi:I3 X tg iter wi)
  (hg:∀ s H fp,G3 (qz X N' scope s H fp) tg g) (hf:∀ s H fp,F3 (qz X N' scope s H fp) ifs tif) (he:∀ s H fp,E3 (qz X N' scope s H fp) elt te)
  (hsc:N7 X.env.scope scope=true) (hcap:UD X.N N' scope m=true) (hs:∀ x,foldedSetIterable iter X.env x=pure x:=by intro _;rfl) :
  E3 X (.ListComp elt [⟨tg,iter,ifs,0⟩] scope pos) (lc3 wi g tif te m):=
 DZ (qhP (g:=lG X.K g) (tif:=lT X.K tif) (te:=lE X.K te) hc hi hg hf he hsc hcap hs) λσ H Q ⟨τ,G,q,rl,h,af⟩=>by
  refine ⟨τ,G,_,rl,h,λitems stay G1 h1 J H1 hr1 k1 ok D hD=>?_⟩;have gD:G1 D=none:=hr1.free hD;refine ⟨λi n σ' H'=>n=items.length-i/\i<=items.length/\∃ τ' G' ys vs,Rel X.K τ' G' σ' H'/\Kp G1 H1 G' H'/\H' D=some (.lst vs)/\Rps X.K H' ys vs/\G' D=none/\WC stay g tif te q (items.drop i) ys τ' G',
   ⟨_,rfl,Nat.zero_le _,cap m τ,G1,[],[],((rl.next hr1 k1).cap m).next (hr1.laid hD) (Kp.laid hD),Kp.laid hD,zK,.nil,gD,by simpa using h1⟩,?_⟩
  rintro i n σ' H' ⟨rfl,hi,τ',G',ys,vs,rl',k',hDl,rys,gD',h'⟩;by_cases hlt:i<items.length
  ·rw [List.drop_eq_getElem_cons hlt] at h';obtain ⟨hst,h'⟩:=h';obtain ⟨go,yld,_⟩:=ok G' H' rl'.hp k' hst;have hx:items[i]?=some items[i]:=getElem?_eq_getElem hlt;refine .inr ⟨go i _ hx,λv H2 y=>?_⟩;obtain ⟨rv,hr2,k2⟩:=yld i _ v H2 hx y;have nxt:∀ {τ4:St3} {G4:Gp} {σ4:L2.St} {H4:Hp} {ys4:List T} {vs4:List V},Rel X.K τ4 G4 σ4 H4->Kp G1 H1 G4 H4->H4 D=some (.lst vs4)->Rps X.K H4 ys4 vs4->G4 D=none->WC stay g tif te q (items.drop (i+1)) ys4 τ4 G4 ->
     ∃ n',n'<items.length-i/\(n'=items.length-(i+1)/\i+1<=items.length/\∃ τ' G' ys vs,Rel X.K τ' G' σ4 H4/\Kp G1 H1 G' H4/\H4 D=some (.lst vs)/\Rps X.K H4 ys vs/\G' D=none/\WC stay g tif te q (items.drop (i+1)) ys τ' G'):=
    λ{τ4 G4 σ4 H4 ys4 vs4} a b c d e f=>⟨_,by omega,rfl,hlt,τ4,G4,ys4,vs4,a,b,c,d,e,f⟩
   refine ⟨_,τ',G',_,rv,rl'.next hr2 k2,h',λτ3 G3 h3 σ3 H3 rl3 k3=>⟨τ3,G3,_,rl3,h3,λk G4 h4 H4 hr4 k4=>?_⟩⟩;have kk:=(k2.trans k3).trans k4;obtain ⟨hD4,gD4⟩:=kk D _ hDl gD';have rys4:=rys.keep rl'.hp kk;cases k with
   |false=>
    rw [if_neg Bool.false_ne_true] at h4;refine qke ?_;exact nxt (rl3.next hr4 k4) (k'.trans kk) hD4 rys4 gD4 h4
   |true=>
    rw [if_pos rfl] at h4;refine qka ?_;refine ⟨τ3,G4,_,rl3.next hr4 k4,h4,λz G5 h5 w H5 rw5 hr5 k5=>?_⟩;obtain ⟨hD5,gD5⟩:=k5 D _ hD4 gD4;have rys5:=rys4.keep hr4 k5;exact ⟨vs,hD5,by rw [← rys.length];exact h5.1,nxt (((rl3.next hr4 k4).next hr5 k5).wrD hD5 gD5) (((k'.trans kk).trans k5).wrD hD) zK ((rys5.append (.cons rw5 .nil)).wrD hD5) gD5 h5.2⟩
  ·have e:i=items.length:=by omega
   subst e;rw [List.drop_length] at h';obtain ⟨_,_,stop⟩:=ok G' H' rl'.hp k' h'.1;refine .inl ⟨stop,af _ _ (h'.2 D gD') _ H' (.ref D) (λa o e=>?_) λa o e ga=>?_⟩
   ·by_cases ha:a=D
    ·subst ha;rw [qE] at e;cases e;exact ⟨vs,hDl,rys⟩
    ·rw [jT ha] at e;exact rl'.hp a o e
   ·obtain ⟨e1,g1⟩:=k1 a o e ga;obtain ⟨e2,g2⟩:=k' a o e1 g1;exact ⟨e2,by rw [jT (zj e1 hD)];exact g2⟩
end
section
variable {P:Program} {w:World} {A:Around} {s:Shared} {z ti to i1 i2 c1 c2:Addr} {S1 S2:Nat->Heap->Prop} {H1 H2:Array Value->Heap->Prop} {k1 k2:Nat} {xs ys:Array Value} {x y a b:Value} {E:Value->Shared->Prop}
end
section
variable {P:Program} {w:World} {A:Around} {s:Shared} {E:Value->Shared->Prop}
end
section
variable {X:Cx} {a b e l:Expr} {es:List Expr} {pos:Pos}
end
def qi6 (us vs:List T):List T:=(us.zip vs).map λp=>.tup [p.1,p.2]
section
variable {X:Cx} {a b e l:Expr} {es:List Expr} {pos:Pos} {t:TA3}
def S8:List T->Gp->Q3->Prop:=λxs G q=>match xs with
 |[.ref p]=>(match jq G p with|some ys=>(match qds ys with|some k=>q (.bl k) G|none=>False)|none=>False)
 |_=>False
def K0 {K:Frg} {H:Hp}:∀ {ys:List T} {vs:List V} {k:Bool},Rps K H ys vs->qds ys=some k->∃ ks:List Bool,vs=ks.map V.bl/\ks.all id=k
 |_,_,_,.nil,h=>by cases h;exact ⟨[],rfl,rfl⟩
 |y::ys,_,k,.cons a b,h=>by
  unfold qds at h;split at h
  ·rename_i e;cases e
  ·rename_i j r e;cases e;split at h
   ·rename_i i ei;obtain ⟨ks,rfl,hk⟩:=K0 b ei;cases a;cases h;exact ⟨j::ks,rfl,by rw [List.all_cons,hk];rfl⟩
   ·cases h
  ·cases h
def WY {K:Frg}:TZ K S8 (λxs H Q=>∃ (p:Addr) (ks:List Bool),xs=[.ref p]/\SqL K H p (ks.map V.bl)/\Q (.bl (ks.all id)) H):=λxs vs G H q Q hr rs h af=>by
 unfold S8 at h;split at h
 ·rename_i p;obtain ⟨v,rfl,r⟩:=T0 rs;cases r;split at h
  ·rename_i ys e0;split at h
   ·rename_i k e1;obtain ⟨us,hs,r2⟩:=jr hr e0;obtain ⟨ks,rfl,hk⟩:=K0 r2 e1;exact ⟨p,ks,rfl,hs,by rw [hk];exact af _ G h _ H (.bl _) hr Kp.refl⟩
   ·exact h.elim
  ·exact h.elim
 ·exact h.elim
end
def qja:Value->Bool
 |.type t=>t == "list"
 |_=>false
def VU:List (Addr×Obj)->Bool
 |[]=>true
 |p::r=>if qja p.2.cls then false else VU r
def DS:∀ {K:List (Addr×Obj)} {a:Addr} {o:Obj},VU K=true->K.lookup a=some o->o.cls≠.type "list"
 |[],_,_,_,e=>by simp at e
 | (b,x)::r,a,o,h,e=>by
  unfold VU at h;split at h
  ·cases h
  ·rename_i hx;rw [List.lookup_cons] at e;split at e
   ·cases e;intro z;rw [z] at hx;exact hx rfl
   ·exact DS h e
def S9 {K:Frg} {H:Hp} {a:Addr} {ns:List Int} (hK:VU K=true) (hO:qhi H) (hS:SqL K H a (ns.map V.int)):∃ o,H a=some (.frz o (.lst (ns.map V.int))):=by
 rcases hS with (h|h)|⟨o,its,n,h1,h2,_⟩
 ·rcases hO a with z|⟨o,xs,z⟩<;>(rw [h] at z;cases z)
 ·exact h
 ·exact absurd h2 (DS hK h1)
def only (a:Addr) (ns:List Int):Gp:=λb=>if b=a then some (.frz (ns.map T.int)) else none
def qc1 {K:Frg} {H:Hp} {a:Addr} {ns:List Int} (h:∃ o,H a=some (.frz o (.lst (ns.map V.int)))):HR K (only a ns) H:=λb o e=>by
 unfold only at e;split at e
 ·rename_i hb;subst hb;cases e;exact ⟨_,h,Rps.ints ns⟩
 ·cases e
def DH:Sp3:=λts G q=>∃ (a:Addr) (ns:List Int),ts=[.ref a]/\G a=some (.frz (ns.map T.int))/\ns.length<=63/\∀ G',q (.bl true) G'
def qhD {l:PySem.W.OpenLaw} {k:Nat} {q:Program} {loose:List Str} {XP:(Str->Option Value)->Heap->Prop} {YP:World->Heap->Prop} {d:DefRec} {K:Params->PySem.W.Frag} {x:Str} (hn:l.most=some 63) (hdf:d.params.defaults=[]) (hr:Room k callerA)
  (hY:∀ (w:World) (h:Heap),YP w h->(K w.params).In h) (hK:∀ w:World,VU (K w.params)=true)
  (F:∀ (w:World) (mg:Str->Option Value) (fa:Addr) (h:Heap),(K w.params).In h->h.Ns mainGlobals mg->mg d.name=some (.ref fa) ->
   ∃ fd:FuncData,(∀ (s:Shared) (u:Value),BindsTo s fd ⟨[u],[]⟩ [(x,u)])/\∀ base:Heap,(K w.params).In base->base.Ns mainGlobals mg->FnOk l.prog w (K w.params) mg base CX0 k fa fd [x] (lSp (K w.params) DH)) :
  PySem.W.WalkO q loose XP YP l.row.toRowW d [] (λf vs=>PySem.call f vs):=
 L2.qbY (n:=63) (k:=k) (x:=x) (CX:=λ_=>CX0) (sp:=λw=>lSp (K w.params) DH) hn (by decide) hdf hr hY F
  (λw H a ns hl hO hS=>⟨[.ref a],only a ns,λt _=>t=.bl true,qc1 (S9 (hK w) hO hS),.cons (.ref a) .nil,⟨a,ns,rfl,by simp [only],hl,λ_=>rfl⟩,λt G' e v H' r _ _=>by subst e;cases r;rfl⟩) λ_ _ _ _ _ z=>z
def qci {P:Program} {w:World} {K:Frg} {mg:Str->Option Value} {base:Heap} {x qual:Str} {st:Stmt} {f:Addr} {fd:FuncData} {N ps:List Str} {k:Nat} {sp:Sp3} {t3:TS3} (F:Fun K x qual st f fd) (S:FnScope N ps (qm st))
  (body:∀ (cdv:Value) (A:Around) (outer:List Env) (s:Shared) (H:Hp) (E:XK),Room k (A.deeper (envOfC qual (qm st) s.heap.objs.size f cdv)) ->
   B3 (MV CX0 P w K mg base N qual (qm st) f cdv A outer s H E).nox (jk st) t3)
  (read:∀ ts G q,sp ts G q->ts.length=ps.length/\t3 { nx:=λ_ G'=>q .non G',rt:=q } (qs N ts) G):FnOk P w K mg base CX0 (k+1) f fd ps (lSp K sp):=by
 refine F.ok S (λvs H Q E ⟨ts,G,q,h1,h2,h3,h4⟩=>by rw [← h2.length];exact (read ts G q h3).1) λcdv A outer s H vs Q E hr ⟨ts,G,q,h1,h2,h3,h4⟩=>?_;refine ⟨_,body cdv A outer s H E hr,qs N ts,G,_,XG h1 h2,(read ts G q h3).2,⟨λτ' G' h' σ' H' rl' k'=>h4 _ G' h' _ H' .non rl'.hp k',h4,λ_ _ z=>z.elim,λ_ _ z=>z.elim⟩⟩
section
variable {P:Program} {w:World} {A:Around} {s:Shared} {E:Value->Shared->Prop}
end
section
variable {X:Cx} {a b e l:Expr} {es:List Expr} {pos:Pos}
end
section
variable {X:Cx} {a b e l:Expr} {es:List Expr} {pos:Pos} {t:TA3}
end
section
variable {X:Cx} {a b c e:Expr} {es:List Expr} {ta tb tc te:TE3} {t:TA3} {pos:Pos}
def qgQ (i:Nat) (r:R3) (te:TE3):TS3:=λd τ G=>match τ[i]? with
 |some (some x)=>te τ G λy G1=>r x y G1 λz G2=>d.nx (τ.set i (some z)) G2
 |_=>False
def qg1:List T->Gp->Q3->Prop:=λxs G q=>match xs with
 |[.ref p]=>(match jq G p with|some ys=>(match qhh ys with|some k=>q (.bl k) G|none=>False)|none=>False)
 |_=>False
end
section
variable {X:Cx}
def qcc {elt tg iter:Expr} {ifs:List Expr} {scope:Scope} {pos cpos:Pos} {N':List Str} {m:List (Option Nat)} {wi:TI} {g:TG} {tif:TT} {te:TE} {use:Option (Value->Sem Unit)} {Qc:Value->Shared->Prop} {QD:Addr->Hp->Prop} (hc:X.calm=true) (hi:PI X tg iter wi)
  (hg:∀ s H fp,PG (qz X N' scope s H fp) tg g) (hf:∀ s H fp,PF (qz X N' scope s H fp) ifs tif) (he:∀ s H fp,PE (qz X N' scope s H fp) elt te)
  (hsc:N7 X.env.scope scope=true) (hcap:UD X.N N' scope m=true) (hs:∀ x,foldedSetIterable iter X.env x=pure x) {pins:List (Addr×Obj)} {s:Shared} {σ:L2.St} {H:Hp} (I:Inv X pins σ H s)
  (h:wi σ H λJ H1=>∀ D,H1 D=none ->
   ∃ W:Nat->Nat->L2.St->Hp->Prop,(∃ n,W 0 n (cap m σ) (upd H1 D (.lst [])))/\∀ i n σ H,W i n σ H ->
    (J.stop i H/\QD D H)\/(J.go i H/\∀ x H',J.yld i H x H'->g x σ H' λσ2 H2=>tif σ2 H2 λk H3=>
     if k=true then te σ2 H3 λy H4=>∃ zs,H4 D=some (.lst zs)/\zs.length<sizeLine/\∃ n',n'<n/\W (i+1) n' σ2 (upd H4 D (.lst (zs++[y])))
     else ∃ n',n'<n/\W (i+1) n' σ2 H3))
  (fin:∀ (D:Addr) (s3:Shared) (H3:Hp) (fp:List Addr) (s6:Shared) (H6:Hp) (σ6:L2.St) (r:Flow),Inv X pins σ H3 s3->(∀ b∈fp,RX X pins H3 b)->Inv (qz X N' scope s3 H3 fp) [] σ6 H6 s6->QD D H6->compPost (model X.prog X.w) X.A X.xe use Qc (.ref D) s3.heap.objs.size (.ok r) s6) :
  wpAny (model X.prog X.w) X.A (comprehension (.ListComp elt [⟨tg,iter,ifs,0⟩] scope pos) scope X.env cpos (newList []) false (eval iter X.env) use) Qc X.xe s:=by
 have sc:=DP hsc;have hcl:∀ y∈scope.names,y.2=.free->∃ c,X.env.cells.lookup y.1=some c:=λy hy e=>by
  rcases (sc.free y hy e).2 with z|z
  ·exact I.ok.has y.1 (.inl z)
  ·exact I.ok.has y.1 (.inr z)
 refine wpAny_comprehension_free (g:=⟨tg,iter,ifs,0⟩) (gs:=[]) rfl hs (VI hcl) sc.kind sc.loc ?_;show wpAny _ _ (eval iter X.env) _ _ s;refine thn (hi pins s σ H _ I h) λv s1 h1=>thn h1 λitv s2 h2=>?_;obtain ⟨it,fp,tn,J,H2,rfl,I2,T,st2,f2,hW⟩:=h2;refine wpAny_newObj_type ?_;have hD:H2 s2.heap.objs.size=none:=I2.fresh;obtain ⟨W,⟨n0,w0⟩,turn⟩:=hW _ hD;generalize hDe:s2.heap.objs.size=D at *;have I3:Inv X pins σ (upd H2 D (.lst [])) { s2 with heap:=s2.heap.push { cls:=.type "list",dict:=none,data:=.seq ([]:List Value).toArray } }:=by
  subst hDe;exact I2.laid (t':=s2.toks) (λb u e=>Heap.get?_push_of_some _ e) (Nat.le_refl _) ⟨Nat.zero_le _,[],0,.nil,Heap.get?_push_size _ rfl⟩
 have ob2:=T.obj 0 _ st2;have ob3:∀ b∈fp,∃ o,(s2.heap.push { cls:=.type "list",dict:=none,data:=.seq ([]:List Value).toArray }).get? b=some o:=λb hb=>let ⟨o,e,_⟩:=ob2 b hb;⟨o,Heap.get?_push_of_some _ e⟩
 have f3:∀ b∈fp,RX X pins (upd H2 D (.lst [])) b:=λb hb=>by
  obtain ⟨o,e,_⟩:=ob2 b hb;have:b≠D:=by rw [← hDe];exact Nat.ne_of_lt (Heap.lt_size e)
  exact ⟨by rw [zr this];exact (f2 b hb).1,(f2 b hb).2⟩
 have k23:∀ b o,s2.heap.get? b=some o->(s2.heap.push { cls:=.type "list",dict:=none,data:=.seq ([]:List Value).toArray }).get? b=some o:=λb o e=>Heap.get?_push_of_some _ e;generalize hH3:upd H2 D (.lst [])=H3 at *;generalize hs3:({ s2 with heap:=s2.heap.push { cls:=.type "list",dict:=none,data:=.seq ([]:List Value).toArray } }:Shared)=s3 at *;have ob3:∀ b∈fp,∃ o,s3.heap.get? b=some o:=by rw [← hs3];exact ob3
 have k23:∀ b o,s2.heap.get? b=some o->s3.heap.get? b=some o:=by rw [← hs3];exact k23
 refine Z0 λh₁ hns hk hown=>?_;have I4:Inv (qz X N' scope s3 H3 fp) [] (cap m σ) H3 { s3 with heap:=h₁ }:=R1 hc I3 sc hcap f3 ob3 hns hk hown;have tn4:tn 0 h₁:=T.keep _ _ _ st2 λb hb o e=>hk b o (k23 b o e);have fr4:∀ b∈fp,H3 b=none:=λb hb=>(f3 b hb).1;have stat:∀ {H':Hp},(∀ b∈fp,H' b=none)->∀ b∈fp,RX (qz X N' scope s3 H3 fp) [] H' b:=λhn b hb=>by
  refine ⟨hn b hb,I4.ok.exf b hb |>.1,I4.ok.exfs b hb,.inl hb,λx c e=>(I4.ok.exf b hb).2 x c e,λp hp=>absurd (show p∈([]:List (Addr×Obj)) from hp) (by simp)⟩
 show codeAny (model X.prog X.w) X.A (.compStart (.ListComp elt [⟨tg,iter,ifs,0⟩] scope pos) 0 (.ref it) (.ref D) (qz X N' scope s3 H3 fp).env) (compPost (model X.prog X.w) X.A X.xe use Qc (.ref D) s3.heap.objs.size) { s3 with heap:=h₁ };have loop:codeAny (model X.prog X.w) X.A (.compLoop (.ListComp elt [⟨tg,iter,ifs,0⟩] scope pos) 0 (.ref it) (.ref D) (qz X N' scope s3 H3 fp).env) (compPost (model X.prog X.w) X.A X.xe use Qc (.ref D) s3.heap.objs.size) { s3 with heap:=h₁ }:=by
  refine codeAny_loop rfl (λn s'=>∃ i σ' H',Inv (qz X N' scope s3 H3 fp) [] σ' H' s'/\tn i s'.heap/\(∀ b∈fp,H' b=none)/\W i n σ' H') (λn s' hI=>?_) n0 ⟨0,cap m σ,H3,I4,tn4,fr4,w0⟩;show wpAny _ X.A ((compTurn (.ListComp elt [⟨tg,iter,ifs,0⟩] scope pos) 0 (.ref it) (.ref D) (qz X N' scope s3 H3 fp).env).onRaise (λx=>do noteFrame x (qz X N' scope s3 H3 fp).env;theTreesLotGoes x)) _ _ s';refine wpAny_noted ?_;rw [compTurn_list];refine wpAny_bind (wpAny_standAt (wpAny_bind ?_));obtain ⟨i,σ5,H5,I5,st5,fr5,w5⟩:=hI;rcases turn i n σ5 H5 w5 with ⟨stop,q⟩|⟨go,step⟩
  ·refine thn (T.done (qz X N' scope s3 H3 fp) rfl rfl rfl rfl i [] s' σ5 H5 _ I5 (stat fr5) st5 stop) λr s6 ⟨hr,I6⟩=>?_;subst hr;refine wpAny_pure ?_;exact fin D s3 H3 fp s6 H5 σ5 _ I3 f3 I6 q
  ·refine thn (T.item (qz X N' scope s3 H3 fp) rfl rfl rfl rfl i [] s' σ5 H5 _ I5 (stat fr5) st5 go) λr s6 ⟨u,hr,h6⟩=>?_;subst hr;refine wpAny_bind (thn h6 λ_ s7 ⟨x,H7,I7,r7,y7,st7,fr7⟩=>?_);have I7':=I7.pinned (stat fr7) (T.obj _ _ st7);have again:∀ {σ8:L2.St} {H8:Hp} {s8:Shared},Inv (qz X N' scope s3 H3 fp) ([]++DM fp s7.heap) σ8 H8 s8->(∃ n',n'<n/\W (i+1) n' σ8 H8) ->
     ∃ m',m'<n/\∃ i σ' H',Inv (qz X N' scope s3 H3 fp) [] σ' H' s8/\tn i s8.heap/\(∀ b∈fp,H' b=none)/\W i m' σ' H':=λ{σ8 H8 s8} I8 ⟨n',hn,w8⟩=>by
    refine ⟨n',hn,i+1,σ8,H8,I8.unpinned,T.keep _ _ _ st7 λb hb o e=>(I8.pin (b,o) (mem_append_right _ (mem_append_right _ (j5 hb e)))).1,λb hb=>?_,w8⟩;obtain ⟨o,e,d⟩:=T.obj _ _ st7 b hb;exact (I8.pin (b,o) (mem_append_right _ (mem_append_right _ (j5 hb e)))).2.1
   refine wpAny_bind (wpAny_mono (hg s3 H3 fp _ s7 σ5 H7 x u _ I7' r7 (step x H7 y7)) (λ_ s8 ⟨σ8,H8,I8,q8⟩=>?_) λ_ _ z=>z.elim);refine wpAny_bind (wpAny_mono (hf s3 H3 fp _ s8 σ8 H8 _ I8 q8) (λk s9 ⟨H9,I9,q9⟩=>?_) λ_ _ z=>z.elim);cases k with
   |false=>
    rw [if_neg Bool.false_ne_true] at q9;exact wpAny_pure ⟨rfl,again I9 q9⟩
   |true=>
    rw [if_pos rfl] at q9;refine wpAny_bind (wpAny_bind (wpAny_mono (he s3 H3 fp _ s9 σ8 H9 _ I9 q9) (λw s10 ⟨y,H10,I10,r10,q10⟩=>?_) λ_ _ z=>z.elim));obtain ⟨zs,hz,hl,q10⟩:=q10;refine wpAny_bind (wpAny_mono (U9 (X:=qz X N' scope s3 H3 fp) _ s10 σ8 H10 (.ref D) [y] (.ref D) [w] (λ_ H11=>H11=upd H10 D (.lst (zs++[y]))) I10 rfl (.cons r10 .nil) ⟨D,zs,y,rfl,rfl,hz,hl,rfl⟩) (λ_ s11 ⟨_,H11,I11,_,e11⟩=>?_) λ_ _ z=>z.elim);subst e11;exact wpAny_pure (wpAny_pure ⟨rfl,again I11 q10⟩)
 exact codeAny_compStart_list loop (T.self X.A 0 _ _ _ tn4 loop)
def M9 {i:Nat} {y:Str} {py spos:Pos} {elt tg iter:Expr} {ifs:List Expr} {scope:Scope} {pos:Pos} {N':List Str} {m:List (Option Nat)} {wi:TI} {g:TG} {tif:TT} {te:TE} (hc:X.calm=true) (hN:X.N.Nodup) (hi:PI X tg iter wi)
  (hg:∀ s H fp,PG (qz X N' scope s H fp) tg g) (hf:∀ s H fp,PF (qz X N' scope s H fp) ifs tif) (he:∀ s H fp,PE (qz X N' scope s H fp) elt te)
  (hsc:N7 X.env.scope scope=true) (hcap:UD X.N N' scope m=true) (hs:∀ x,foldedSetIterable iter X.env x=pure x) (hiy:X.N[i]?=some y) (hl:X.env.scope.names.lookup y=some .local)
  (hsw:swapsWith (.ListComp elt [⟨tg,iter,ifs,0⟩] scope pos) (some (.Name y py)) spos.line X.env=pure true) :
  PS X (.Assign [.Name y py] (.ListComp elt [⟨tg,iter,ifs,0⟩] scope pos) spos) (qje (tLC wi g tif te m) (qc6 i)):=by
 intro pins s σ H D I h;rw [exec_Assign_Name_used _ _ _ _ hsw];refine wpAny_bind (wpAny_standAt (wpAny_bind ?_));show wpAny _ X.A (do let _←comprehension (.ListComp elt [⟨tg,iter,ifs,0⟩] scope pos) scope X.env _ (newList []) false (eval iter X.env) (some (assign (.Name y py) X.env))) _ _ s;refine wpAny_bind (wpAny_mono (qcc (use:=some (assign (.Name y py) X.env)) (QD:=λD' H'=>D.nx (σ.set i (some (.ref D'))) H') (Qc:=λ_ s'=>∃ σ' H',Inv X pins σ' H' s'/\D.nx σ' H') hc hi hg hf he hsc hcap hs I h λD' s3 H3 fp s6 H6 σ6 r I3 f3 I6 q=>?_) (λ_ s' hq=>wpAny_pure (wpAny_pure hq)) λ_ _ e=>e);have I7:Inv X pins σ H6 s6:=DJ (h2:=s6.heap) I3 f3 I6 ⟨rfl,λ_ _=>rfl⟩;obtain ⟨mm,hn6,_⟩:=I6.loc;have hfC:RX X pins H6 s3.heap.objs.size:=I3.fpOk (Nat.le_refl _) I6.free;obtain ⟨f0,f1,f2,f3',f4,f5⟩:=hfC;show wpAny _ X.A (assign (.Name y py) X.env (.ref D')) _ _ _;refine wpAny_assign_Name (CB I7 hN hiy (.inl hl) (v:=.ref D') rfl (λs8 I8 hch=>?_) (.inr hl));obtain ⟨a,sb,ha⟩:=hch;have hne:s3.heap.objs.size≠a:=by
  rcases ha with rfl|ha
  ·exact f1
  ·exact Ne.symm (f4 _ _ ha)
 refine ⟨mm,hn6.sameBut sb hne,λh' sb'=>⟨_,_,I8.turned (t':=s8.toks) (λb o hb e=>(sb'.2 b hb).trans e) f0 f1 f3' f4 f5,q⟩⟩
end
def qjq {K:Frg} {m:List (Option Nat)} {wi:TI3} {g:TG3} {tif:TT3} {te:TE3} {σ:L2.St} {H:Hp} {Q:VK} (hh:lE K (lc3 wi g tif te m) σ H Q):tLC (lI K wi) (lG K g) (lT K tif) (lE K te) m σ H Q:=by
  obtain ⟨τ,G,q,rl,h,af⟩:=hh;refine ⟨τ,G,_,rl,h,λitems stay G1 h1 J H1 hr1 k1 ok D hD=>?_⟩;have gD:G1 D=none:=hr1.free hD;refine ⟨λi n σ' H'=>n=items.length-i/\i<=items.length/\∃ τ' G' ys vs,Rel K τ' G' σ' H'/\Kp G1 H1 G' H'/\H' D=some (.lst vs)/\Rps K H' ys vs/\G' D=none/\WC stay g tif te q (items.drop i) ys τ' G',
   ⟨_,rfl,Nat.zero_le _,cap m τ,G1,[],[],((rl.next hr1 k1).cap m).next (hr1.laid hD) (Kp.laid hD),Kp.laid hD,zK,.nil,gD,by simpa using h1⟩,?_⟩
  rintro i n σ' H' ⟨rfl,hi,τ',G',ys,vs,rl',k',hDl,rys,gD',h'⟩;by_cases hlt:i<items.length
  ·rw [List.drop_eq_getElem_cons hlt] at h';obtain ⟨hst,h'⟩:=h';obtain ⟨go,yld,_⟩:=ok G' H' rl'.hp k' hst;have hx:items[i]?=some items[i]:=getElem?_eq_getElem hlt;refine .inr ⟨go i _ hx,λv H2 y=>?_⟩;obtain ⟨rv,hr2,k2⟩:=yld i _ v H2 hx y;have nxt:∀ {τ4:St3} {G4:Gp} {σ4:L2.St} {H4:Hp} {ys4:List T} {vs4:List V},Rel K τ4 G4 σ4 H4->Kp G1 H1 G4 H4->H4 D=some (.lst vs4)->Rps K H4 ys4 vs4->G4 D=none->WC stay g tif te q (items.drop (i+1)) ys4 τ4 G4 ->
     ∃ n',n'<items.length-i/\(n'=items.length-(i+1)/\i+1<=items.length/\∃ τ' G' ys vs,Rel K τ' G' σ4 H4/\Kp G1 H1 G' H4/\H4 D=some (.lst vs)/\Rps K H4 ys vs/\G' D=none/\WC stay g tif te q (items.drop (i+1)) ys τ' G'):=
    λ{τ4 G4 σ4 H4 ys4 vs4} a b c d e f=>⟨_,by omega,rfl,hlt,τ4,G4,ys4,vs4,a,b,c,d,e,f⟩
   refine ⟨_,τ',G',_,rv,rl'.next hr2 k2,h',λτ3 G3 h3 σ3 H3 rl3 k3=>⟨τ3,G3,_,rl3,h3,λk G4 h4 H4 hr4 k4=>?_⟩⟩;have kk:=(k2.trans k3).trans k4;obtain ⟨hD4,gD4⟩:=kk D _ hDl gD';have rys4:=rys.keep rl'.hp kk;cases k with
   |false=>
    rw [if_neg Bool.false_ne_true] at h4;refine qke ?_;exact nxt (rl3.next hr4 k4) (k'.trans kk) hD4 rys4 gD4 h4
   |true=>
    rw [if_pos rfl] at h4;refine qka ?_;refine ⟨τ3,G4,_,rl3.next hr4 k4,h4,λz G5 h5 w H5 rw5 hr5 k5=>?_⟩;obtain ⟨hD5,gD5⟩:=k5 D _ hD4 gD4;have rys5:=rys4.keep hr4 k5;exact ⟨vs,hD5,by rw [← rys.length];exact h5.1,nxt (((rl3.next hr4 k4).next hr5 k5).wrD hD5 gD5) (((k'.trans kk).trans k5).wrD hD) zK ((rys5.append (.cons rw5 .nil)).wrD hD5) gD5 h5.2⟩
  ·have e:i=items.length:=by omega
   subst e;rw [List.drop_length] at h';obtain ⟨_,_,stop⟩:=ok G' H' rl'.hp k' h'.1;refine .inl ⟨stop,af _ _ (h'.2 D gD') _ H' (.ref D) (λa o e=>?_) λa o e ga=>?_⟩
   ·by_cases ha:a=D
    ·subst ha;rw [qE] at e;cases e;exact ⟨vs,hDl,rys⟩
    ·rw [jT ha] at e;exact rl'.hp a o e
   ·obtain ⟨e1,g1⟩:=k1 a o e ga;obtain ⟨e2,g2⟩:=k' a o e1 g1;exact ⟨e2,by rw [jT (zj e1 hD)];exact g2⟩
def qcg {X:Cx} {py spos:Pos} {elt tg iter:Expr} {ifs:List Expr} {scope:Scope} {pos:Pos} {y:Str} (i:Nat) (N':List Str) (m:List (Option Nat)) {wi:TI3} {g:TG3} {tif:TT3} {te:TE3} (hc:X.calm=true) (hN:X.N.Nodup) (hi:I3 X tg iter wi)
  (hg:∀ s H fp,G3 (qz X N' scope s H fp) tg g) (hf:∀ s H fp,F3 (qz X N' scope s H fp) ifs tif) (he:∀ s H fp,E3 (qz X N' scope s H fp) elt te)
  (hsc:N7 X.env.scope scope=true) (hcap:UD X.N N' scope m=true) (hl:X.env.scope.names.lookup y=some .local) (hsw:swapsWith (.ListComp elt [⟨tg,iter,ifs,0⟩] scope pos) (some (.Name y py)) spos.line X.env=pure true) (hiy:X.N[i]?=some y:=by rfl) (hs:∀ x,foldedSetIterable iter X.env x=pure x:=by intro _;rfl) :
  S3 X (.Assign [.Name y py] (.ListComp elt [⟨tg,iter,ifs,0⟩] scope pos) spos) (qV (lc3 wi g tif te m) (gn3 i)):=
 NR (M9 (g:=lG X.K g) (tif:=lT X.K tif) (te:=lE X.K te) hc hN hi hg hf he hsc hcap hs hiy hl hsw) λ_ σ H ⟨τ,G,d,rl,h,af⟩=>
  qjq ⟨τ,G,_,rl,h,λx G1 h1 v H1 rx hr1 k1=>af.nx _ G1 h1 _ H1 ((rl.next hr1 k1).set i rx) k1⟩
end L3
set_option autoImplicit true
namespace L3
open PySem PySem.Spec PyProof.Rows L2
structure jE3 (X:Cx) (e:Expr) (t:TE3):Prop where h:E3 X e t
structure jC3 (X:Cx) (e:Expr) (t:TT3):Prop where h:C3 X e t
structure jW3 (X:Cx) (e:Expr) (t:TT3):Prop where h:W3 X e t
structure jA3 (X:Cx) (e:List Expr) (t:TA3):Prop where h:A3 X e t
structure jP3 (X:Cx) (e:Option Expr) (t:TO3):Prop where h:P3 X e t
structure jS3 (X:Cx) (e:Stmt) (t:TS3):Prop where h:S3 X e t
structure jB3 (X:Cx) (e:List Stmt) (t:TS3):Prop where h:B3 X e t
structure jG3 (X:Cx) (e:Expr) (t:TG3):Prop where h:G3 X e t
structure jGs3 (X:Cx) (e:List Expr) (t:CK):Prop where h:Gs3 X e t
structure jI3 (X:Cx) (tg e:Expr) (t:TI3):Prop where h:I3 X tg e t
structure jF3 (X:Cx) (e:List Expr) (t:TT3):Prop where h:F3 X e t
def qc {X:Cx} (i:Nat) {x:Str} {pos:Pos} (hN:X.N[i]?=some x:=by rfl) (hv:Vis X.env.scope x:=by first|exact Or.inl rfl|exact Or.inr (Or.inl rfl)|exact Or.inr (Or.inr rfl)) (hd:(x==("__debug__" : Str))=false:=by decide)
  (hcd:(x==("__classdict__" : Str))=false:=by decide):jE3 X (.Name x pos) (v3 i):=
 ⟨qh3 (i:=i) (hN:=hN) (hv:=hv) (hd:=hd) (hcd:=hcd)⟩
def qd {X:Cx} {i:Int} {j pos}:jE3 X (.Constant (.int i) j pos) (c3 (.int i)):=
 ⟨qiV ⟩
def JN {X:Cx} {b:Bool} {j pos}:jE3 X (.Constant (.bool b) j pos) (c3 (.bl b)):=
 ⟨qkr ⟩
def X6 {X:Cx} {j pos}:jE3 X (.Constant .none j pos) (c3 .non):=
 ⟨qjE ⟩
def qr {X:Cx} {x:Str} {j pos}:jE3 X (.Constant (.str x) j pos) (c3 (.str x)):=
 ⟨qie ⟩
def V7 {ta:TE3} {tb:TE3} {pos:Pos} {a:Expr} {b:Expr} {X:Cx} {op:CmpOp} {r3:R3} {r:R2} (ho:OpR X (compareOp op) r) (hr:W6 X.K r3 r) (ha:jE3 X a ta) (hb:jE3 X b tb) (hm:behindInMarks op b=false):jE3 X (.Compare a [op] [b] pos) (o3 r3 ta tb):=
 ⟨qi1 (ho:=ho) (hr:=hr) (ha:=ha.h) (hb:=hb.h) (hm:=hm)⟩
def qW {ta:TE3} {tb:TE3} {pos:Pos} {a:Expr} {b:Expr} {X:Cx} {op:CmpOp} {r3:R3} {r:R2} (ho:OpR X (compareOp op) r) (hr:W6 X.K r3 r) (ha:jE3 X a ta) (hb:jE3 X b tb) (hm:behindInMarks op b=false):jC3 X (.Compare a [op] [b] pos) (tb3 (o3 r3 ta tb)):=
 ⟨qhG (ho:=ho) (hr:=hr) (ha:=ha.h) (hb:=hb.h) (hm:=hm)⟩
def KW {ta:TE3} {tb:TE3} {pos:Pos} {a:Expr} {b:Expr} {X:Cx} (ha:jE3 X a ta) (hb:jE3 X b tb):jE3 X (.BinOp a .Sub b pos) (o3 (iI (·-·)) ta tb):=
 ⟨qiD (ha:=ha.h) (hb:=hb.h)⟩
def Z6 {ta:TE3} {tb:TE3} {pos:Pos} {a:Expr} {b:Expr} {X:Cx} (ha:jE3 X a ta) (hb:jE3 X b tb):jE3 X (.BinOp a .Mult b pos) (o3 (iC YO (·*·)) ta tb):=
 ⟨qij (ha:=ha.h) (hb:=hb.h)⟩
def VG {ta:TE3} {tb:TE3} {pos:Pos} {a:Expr} {b:Expr} {X:Cx} (ha:jE3 X a ta) (hb:jE3 X b tb):jE3 X (.BinOp a .Mod b pos) (o3 (iC (λ_ j=>0<j) (·%·)) ta tb):=
 ⟨qjw (ha:=ha.h) (hb:=hb.h)⟩
def XR {ta:TE3} {tb:TE3} {pos:Pos} {a:Expr} {b:Expr} {X:Cx} (ha:jE3 X a ta) (hb:jE3 X b tb):jE3 X (.BinOp a .FloorDiv b pos) (o3 (iC KC (·/·)) ta tb):=
 ⟨qh4 (ha:=ha.h) (hb:=hb.h)⟩
def SK {ta:TE3} {tb:TE3} {pos:Pos} {a:Expr} {b:Expr} {X:Cx} (ha:jE3 X a ta) (hb:jE3 X b tb):jE3 X (.BinOp a .Pow b pos) (o3 (iC XZ (λi j=>i ^ j.toNat)) ta tb):=
 ⟨qi8 (ha:=ha.h) (hb:=hb.h)⟩
def Z2 {ta:TE3} {pos:Pos} {a:Expr} {X:Cx} (ha:jE3 X a ta):jE3 X (.UnaryOp .USub a pos) (u3 UP ta):=
 ⟨qiq (ha:=ha.h)⟩
def VC {tA:TT3} {pos:Pos} {a:Expr} {X:Cx} (ha:jC3 X a tA):jW3 X (.BoolOp .Or [a] pos) tA:=
 ⟨qio (ha:=ha.h)⟩
def ES {J2:List Expr} {tA:TT3} {tB:TT3} {pos:Pos} {a:Expr} {X:Cx} (ha:jC3 X a tA) (hb:jW3 X (.BoolOp .Or (b::J2) pos) tB):jW3 X (.BoolOp .Or (a::b::J2) pos) (or3 tA tB):=
 ⟨qky (ha:=ha.h) (hb:=hb.h)⟩
def J3 {tA:TT3} {pos:Pos} {a:Expr} {X:Cx} (ha:jC3 X a tA):jC3 X (.UnaryOp .Not a pos) (W7 tA):=
 ⟨qiO (ha:=ha.h)⟩
def J1 {X:Cx} {e:Expr} {t:TE3} (h:jE3 X e t) (he:∀ whole,isTrue e X.env whole=(do let v←whole;standAt e.pos;holding [v] (truthy v)):=by intro _;rfl):jC3 X e (tb3 t):=
 ⟨qhK (h:=h.h) (he:=he)⟩
def D5 {ta:TE3} {pos:Pos} {a:Expr} {X:Cx} {op} (h:jE3 X a ta):jE3 X (.BoolOp op [a] pos) ta:=
 ⟨qiG (h:=h.h)⟩
def V5 {J2:List Expr} {ta:TE3} {tb:TE3} {pos:Pos} {a:Expr} {X:Cx} (ha:jE3 X a ta) (hb:jE3 X (.BoolOp .And (b::J2) pos) tb):jE3 X (.BoolOp .And (a::b::J2) pos) (JZ ta tb):=
 ⟨qix (ha:=ha.h) (hb:=hb.h)⟩
def qgg {ta:TE3} {pos:Pos} {a:Expr} {X:Cx} (ha:jE3 X a ta):jE3 X (.UnaryOp .Not a pos) (WO ta):=
 ⟨qiA (ha:=ha.h)⟩
def qdE {tA:TT3} {ta:TE3} {tb:TE3} {pos:Pos} {a:Expr} {b:Expr} {X:Cx} {c:Expr} (hc:jC3 X c tA) (ha:jE3 X a ta) (hb:jE3 X b tb):jE3 X (.IfExp c a b pos) (if3 tA ta tb):=
 ⟨qkN (hc:=hc.h) (ha:=ha.h) (hb:=hb.h)⟩
def qe {X:Cx} :jA3 X [] qi:=
 ⟨qjk ⟩
def qa {te:TE3} {t:TA3} {es:List Expr} {X:Cx} (ha:jE3 X e te) (hr:jA3 X es t) (hs:starEach (e::es) X.env=(false,eval e X.env)::starEach es X.env:=by rfl):jA3 X (e::es) (qb te t):=
 ⟨qgT (ha:=ha.h) (hr:=hr.h) (hs:=hs)⟩
def ql {t:TA3} {pos:Pos} {es:List Expr} {X:Cx} {x1} (h:jA3 X es t):jE3 X (.Tuple es x1 pos) (qH t):=
 ⟨qib (h:=h.h)⟩
def zy {t:TA3} {pos:Pos} {es:List Expr} {X:Cx} (h:jA3 X es t):jE3 X (.List es pos) (jR t):=
 ⟨qid (h:=h.h)⟩
def qR {t:TA3} {pos:Pos} {es:List Expr} {X:Cx} {x:Str} {p:Pos} {id:String} {r3:List T->Gp->Q3->Prop} {r:List V->Hp->VK->Prop} (hc:YJ X (.builtin id) r) (hr:TZ X.K r3 r) (hg:Gl X x) (hm:X.mg x=none) (hv:bootBuiltins x=some (.builtin id)) (ha:jA3 X (e::es) t) (hn:x≠"__name__" := by decide) (hdb:(x==("__debug__" : Str))=false:=by decide)
  (he:starEach (e::es) X.env=(false,eval e X.env)::starEach es X.env:=by rfl) (hpl:(backTo pos (starEach es X.env)).any (·.1)=false:=by rfl):jE3 X (.Call (.Name x p) (e::es) [] pos) (cb3 r3 t):=
 ⟨qcU (hc:=hc) (hr:=hr) (hg:=hg) (hm:=hm) (hv:=hv) (ha:=ha.h) (hn:=hn) (hdb:=hdb) (he:=he) (hpl:=hpl)⟩
def jg {t:TA3} {pos:Pos} {es:List Expr} {X:Cx} {x:Str} {p:Pos} {ty:String} {r3:List T->Gp->Q3->Prop} {r:List V->Hp->VK->Prop} (hc:YJ X (.type ty) r) (hr:TZ X.K r3 r) (hg:Gl X x) (hm:X.mg x=none) (hv:bootBuiltins x=some (.type ty)) (ha:jA3 X (e::es) t) (hn:x≠"__name__" := by decide) (hdb:(x==("__debug__" : Str))=false:=by decide)
  (he:starEach (e::es) X.env=(false,eval e X.env)::starEach es X.env:=by rfl) (hpl:(backTo pos (starEach es X.env)).any (·.1)=false:=by rfl):jE3 X (.Call (.Name x p) (e::es) [] pos) (cb3 r3 t):=
 ⟨M1 (hc:=hc) (hr:=hr) (hg:=hg) (hm:=hm) (hv:=hv) (ha:=ha.h) (hn:=hn) (hdb:=hdb) (he:=he) (hpl:=hpl)⟩
def zm {ta:TE3} {tb:TE3} {pos:Pos} {a:Expr} {b:Expr} {X:Cx} (ha:jE3 X a ta) (hb:jE3 X b tb) (hs:RI b:=by intro _ _;rfl):jE3 X (.Subscript a b pos) (o3 ix3 ta tb):=
 ⟨qkH (ha:=ha.h) (hb:=hb.h) (hs:=hs)⟩
def zo {X:Cx} :jP3 X none np3:=
 ⟨qfy ⟩
def qX {te:TE3} {e:Expr} {X:Cx} (h:jE3 X e te):jP3 X (some e) (sp3 te):=
 ⟨qgu (h:=h.h)⟩
def ZM {te:TE3} {pos:Pos} {e:Expr} {X:Cx} {lo hi:Option Expr} {tl th:TO3} {p2:Pos} (he:jE3 X e te) (hl:jP3 X lo tl) (hu:jP3 X hi th):jE3 X (.Subscript e (.Slice lo hi none p2) pos) (C0 te tl th):=
 ⟨qcH (he:=he.h) (hl:=hl.h) (hu:=hu.h)⟩
def qO {ta:TE3} {tb:TE3} {pos:Pos} {a:Expr} {b:Expr} {X:Cx} (ha:jE3 X a ta) (hb:jE3 X b tb):jE3 X (.BinOp a .Add b pos) (o3 zN ta tb):=
 ⟨qfp (ha:=ha.h) (hb:=hb.h)⟩
def zS {t:TA3} {e:Expr} {X:Cx} {o:Expr} {to:TE3} {apos cpos:Pos} (ho:jE3 X o to) (ha:jA3 X [e] t)
  (hbase:attributeBase o "append" X.env (eval o X.env)=eval o X.env:=by rfl)
  (hfew:((backTo cpos (starEach [e] X.env)).all (λx=>!x.1)&&(backToKw cpos (keywordEach [] X.env)).all (λx=>x.1.isSome)
   && decide (([e]:List Expr).length+([]:List Keyword).length+(if ([]:List Keyword).isEmpty then 0 else 1)<30))=true:=by rfl)
  (hline:(apos.endLine==cpos.line)=true:=by rfl) (hs:starEach [e] X.env=(false,eval e X.env)::starEach [] X.env:=by rfl) (hplain:(backTo cpos (starEach [] X.env)).any (·.1)=false:=by rfl):jE3 X (.Call (.Attribute o "append" apos) [e] [] cpos) (bm3 UB to t):=
 ⟨qad (ho:=ho.h) (ha:=ha.h) (hbase:=hbase) (hfew:=hfew) (hline:=hline) (hs:=hs) (hplain:=hplain)⟩
def UW {te:TE3} {pos:Pos} {e:Expr} {X:Cx} {tn:Str} {ty:String} {p p2:Pos} (he:jE3 X e te) (hg:Gl X "isinstance") (hm:X.mg "isinstance" = none) (hg2:Gl X tn) (hm2:X.mg tn=none) (hv:bootBuiltins tn=some (.type ty)) (hmem:ty∈CQ:=by decide) (hn:tn≠"__name__" := by decide) (hdb:(tn==("__debug__" : Str))=false:=by decide)
  (hs:starEach [e,.Name tn p2] X.env=(false,eval e X.env)::starEach [.Name tn p2] X.env:=by rfl) (hs2:starEach [.Name tn p2] X.env=(false,eval (.Name tn p2) X.env)::starEach [] X.env:=by rfl) (hpl:(backTo pos (starEach [.Name tn p2] X.env)).any (·.1)=false:=by rfl):jE3 X (.Call (.Name "isinstance" p) [e,.Name tn p2] [] pos) (RD (λt=>ZO t ty) te):=
 ⟨qiw (he:=he.h) (hg:=hg) (hm:=hm) (hg2:=hg2) (hm2:=hm2) (hv:=hv) (hmem:=hmem) (hn:=hn) (hdb:=hdb) (hs:=hs) (hs2:=hs2) (hpl:=hpl)⟩
def zg {X:Cx} :jB3 X [] qU:=
 ⟨qi4 ⟩
def qh {J2:List Stmt} {st:Stmt} {t1:TS3} {t2:TS3} {X:Cx} (h1:jS3 X st t1) (h2:jB3 X J2 t2):jB3 X (st::J2) (qG t1 t2):=
 ⟨qfC (h1:=h1.h) (h2:=h2.h)⟩
def qo {st:Stmt} {t1:TS3} {X:Cx} (h1:jS3 X st t1):jB3 X [st] t1:=
 ⟨qh7 (h1:=h1.h)⟩
def QX {te:TE3} {pos:Pos} {e:Expr} {X:Cx} (he:jE3 X e te) (hs:swapsWith e none pos.line X.env=pure false:=by rfl):jS3 X (.Expr e pos) (QI te):=
 ⟨qd0 (he:=he.h) (hs:=hs)⟩
def qA {te:TE3} {pos:Pos} {e:Expr} {X:Cx} (he:jE3 X e te):jS3 X (.Return (some e) pos) (zn te):=
 ⟨qih (he:=he.h)⟩
def z8 {tA:TT3} {t1:TS3} {t2:TS3} {pos:Pos} {X:Cx} {c:Expr} {ba bb:List Stmt} (hc:jC3 X c tA) (ha:jB3 X ba t1) (hb:jB3 X bb t2):jS3 X (.If c ba bb pos) (z9 tA t1 t2):=
 ⟨qk0 (hc:=hc.h) (ha:=ha.h) (hb:=hb.h)⟩
def qP {pos:Pos} {X:Cx} {i:Nat} {x:Str} (hN:X.N.Nodup) (hi:X.N[i]?=some x:=by rfl) (hx:Loc X.env.scope x:=by first|exact Or.inl rfl|exact Or.inr rfl) (hf:X.fn x=true\/X.env.scope.names.lookup x=some .local:=by first|exact .inl rfl|exact .inr rfl):jG3 X (.Name x pos) (gn3 i):=
 ⟨qf3 (hN:=hN) (hi:=hi) (hx:=hx) (hf:=hf)⟩
def EH {X:Cx} :jGs3 X [] ZW:=
 ⟨qjb ⟩
def zw {es:List Expr} {X:Cx} {tg:TG3} {tgs:CK} (h1:jG3 X e tg) (h2:jGs3 X es tgs) (hs:(assignEach (e::es) X.env).map (·.2)=assign e X.env::(assignEach es X.env).map (·.2):=by rfl):jGs3 X (e::es) (zh tg tgs):=
 ⟨qeQ (h1:=h1.h) (h2:=h2.h) (hs:=hs)⟩
def EF {pos:Pos} {es:List Expr} {X:Cx} {k:Nat} {tgs:CK} {n:Nat} (hc:X.calm=true) (h:jGs3 X es tgs) (hn:(assignEach es X.env).length=n:=by rfl) (hst:(assignEach es X.env).findIdx? (·.1)=none:=by rfl):jG3 X (.Tuple es k pos) (ZT n tgs):=
 ⟨qhE (hc:=hc) (h:=h.h) (hn:=hn) (hst:=hst)⟩
def qba {pos : Pos} {X : Cx} {o i : Expr} {to ti : TE3} (ho : jE3 X o to) (hi : jE3 X i ti) (ha : ∀ v,assign (.Subscript o i pos) X.env v = (do
      let ov←holding [v] (eval o X.env)
      let iv←holding [v,ov] (eval i X.env)
      standAt pos
      holding [v,ov,iv] (setItem ov iv v)
      release [v,ov,iv] []):=by intro _;rfl):jG3 X (.Subscript o i pos) (VH to ti):=
  ⟨qhM (ho:=ho.h) (hi:=hi.h) (ha:=ha)⟩
def YT {te:TE3} {pos:Pos} {X:Cx} {tg e:Expr} {g:TG3} (he:jE3 X e te) (hg:jG3 X tg g) (hs:swapsWithSole [tg] e pos.line X.env=pure false:=by rfl) (hw:swappedStores [tg] e X.env=pure none:=by rfl)
  (h1:(assignEach [tg] X.env).map (·.2)=[assign tg X.env]:=by rfl):jS3 X (.Assign [tg] e pos) (qV te g):=
 ⟨qin (he:=he.h) (hg:=hg.h) (hs:=hs) (hw:=hw) (h1:=h1)⟩
def qI {te:TE3} {pos:Pos} {X:Cx} (i:Nat) {x:Str} {e:Expr} {pos':Pos} (hN:X.N.Nodup) (he:jE3 X e te) (hi:X.N[i]?=some x:=by rfl) (hx:Loc X.env.scope x:=by first|exact Or.inl rfl|exact Or.inr rfl) (hs:swapsWith e (some (.Name x pos')) pos.line X.env=pure false:=by rfl) (hf:X.fn x=true\/X.env.scope.names.lookup x=some .local:=by first|exact .inl rfl|exact .inr rfl):jS3 X (.Assign [.Name x pos'] e pos) (qV te (gn3 i)):=
 ⟨qji (i:=i) (hN:=hN) (he:=he.h) (hi:=hi) (hx:=hx) (hs:=hs) (hf:=hf)⟩
def X8 {pos:Pos} {X:Cx} {i j:Nat} {x y:Str} {a b:Expr} {tt:TA3} {px py pt:Pos} {kt k2 pt2} (hc:X.calm=true) (hN:X.N.Nodup) (hi:X.N[i]?=some x) (hj:X.N[j]?=some y) (hij:i≠j)
  (hx:X.env.scope.names.lookup x=some .local) (hy:X.env.scope.names.lookup y=some .local) (ha:jA3 X [a,b] tt)
  (hw:swappedStores [.Tuple [.Name x px,.Name y py] kt pt] (.Tuple [a,b] k2 pt2) X.env=pure (some [x,y]):=by rfl)
  (hs:swapsWithSole [.Tuple [.Name x px,.Name y py] kt pt] (.Tuple [a,b] k2 pt2) pos.line X.env=pure false:=by rfl):jS3 X (.Assign [.Tuple [.Name x px,.Name y py] kt pt] (.Tuple [a,b] k2 pt2) pos) (WJ i j tt):=
 ⟨qir (hc:=hc) (hN:=hN) (hi:=hi) (hj:=hj) (hij:=hij) (hx:=hx) (hy:=hy) (ha:=ha.h) (hw:=hw) (hs:=hs)⟩
def JH {te:TE3} {X:Cx} {tg:Expr} {l:Expr} (hl:jE3 X l te):jI3 X tg l (ZV te):=
 ⟨qip (hl:=hl.h)⟩
def zV {t:TA3} {pos:Pos} {a:Expr} {X:Cx} {tg:Expr} {p:Pos} (hg:Gl X "range") (hm:X.mg "range" = none) (ha:jA3 X [a] t) (hs:starEach [a] X.env=[(false,eval a X.env)]:=by rfl) (h1:∀ τ G q,t τ G q->t τ G λxs G=>q xs G/\xs.length=1):jI3 X tg (.Call (.Name "range" p) [a] [] pos) (QA t):=
 ⟨N8 (hg:=hg) (hm:=hm) (ha:=ha.h) (hs:=hs) (h1:=h1)⟩
def YQ {pos:Pos} {X:Cx} {tg:Expr} {iter:Expr} {body:List Stmt} {wi:TI3} {g:TG3} {tb:TS3} (hp:PassesOwn (model X.prog X.w) X.A X.env X.xe) (hc:X.calm=true) (hi:jI3 X tg iter wi) (hg:jG3 X tg g) (hb:jB3 X body tb)
  (hs:∀ x,foldedSetIterable iter X.env x=pure x:=by intro _;rfl):jS3 X (.For tg iter body [] pos) (W4 wi g tb):=
 ⟨qiz (hp:=hp) (hc:=hc) (hi:=hi.h) (hg:=hg.h) (hb:=hb.h) (hs:=hs)⟩
def SR {pos:Pos} {X:Cx} {c:Expr} {body:List Stmt} {tc:TT3} {tb:TS3} (hp:PassesOwn (model X.prog X.w) X.A X.env X.xe) (hc:jC3 X c tc) (hb:jB3 X body tb):jS3 X (.While c body [] pos) (DK tc tb):=
 ⟨qdf (hp:=hp) (hc:=hc.h) (hb:=hb.h)⟩
def qj {t:TA3} {pos:Pos} {es:List Expr} {X:Cx} {k:Nat} {x:Str} {p:Pos} {sp:Sp3} (F:Fn3 X.prog X.w X.K X.mg X.base k x sp) (hr:Room k X.A) (hg:Gl X x) (ha:jA3 X (e::es) t) (hdb:(x==("__debug__" : Str))=false:=by decide)
  (he:starEach (e::es) X.env=(false,eval e X.env)::starEach es X.env:=by rfl) (hpl:(backTo pos (starEach es X.env)).any (·.1)=false:=by rfl):jE3 X (.Call (.Name x p) (e::es) [] pos) (cb3 sp t):=
 ⟨qfZ (F:=F) (hr:=hr) (hg:=hg) (ha:=ha.h) (hdb:=hdb) (he:=he) (hpl:=hpl)⟩
def XO {X:Cx} {elt tg iter:Expr} {ifs:List Expr} {scope:Scope} {pos:Pos} (N':List Str) (m:List (Option Nat)) {wi:TI3} {g:TG3} {tif:TT3} {te:TE3} (hc:X.calm=true) (hi:jI3 X tg iter wi)
  (hg:∀ s H fp,jG3 (qz X N' scope s H fp) tg g) (hf:∀ s H fp,jF3 (qz X N' scope s H fp) ifs tif) (he:∀ s H fp,jE3 (qz X N' scope s H fp) elt te)
  (hsc:N7 X.env.scope scope=true) (hcap:UD X.N N' scope m=true) (hs:∀ x,foldedSetIterable iter X.env x=pure x:=by intro _;rfl):jE3 X (.ListComp elt [⟨tg,iter,ifs,0⟩] scope pos) (lc3 wi g tif te m):=
 ⟨qld (N':=N') (m:=m) (hc:=hc) (hi:=hi.h) (hg:=(λs H fp=>(hg s H fp).h)) (hf:=(λs H fp=>(hf s H fp).h)) (he:=(λs H fp=>(he s H fp).h)) (hsc:=hsc) (hcap:=hcap) (hs:=hs)⟩
def Z5 {X:Cx}:jF3 X [] tt3:=
 ⟨qiT ⟩
def UJ {X:Cx} {py spos:Pos} {elt tg iter:Expr} {ifs:List Expr} {scope:Scope} {pos:Pos} {y:Str} (i:Nat) (N':List Str) (m:List (Option Nat)) {wi:TI3} {g:TG3} {tif:TT3} {te:TE3} (hc:X.calm=true) (hN:X.N.Nodup) (hi:jI3 X tg iter wi)
  (hg:∀ s H fp,jG3 (qz X N' scope s H fp) tg g) (hf:∀ s H fp,jF3 (qz X N' scope s H fp) ifs tif) (he:∀ s H fp,jE3 (qz X N' scope s H fp) elt te)
  (hsc:N7 X.env.scope scope=true) (hcap:UD X.N N' scope m=true) (hl:X.env.scope.names.lookup y=some .local) (hsw:swapsWith (.ListComp elt [⟨tg,iter,ifs,0⟩] scope pos) (some (.Name y py)) spos.line X.env=pure true) (hiy:X.N[i]?=some y:=by rfl) (hs:∀ x,foldedSetIterable iter X.env x=pure x:=by intro _;rfl):jS3 X (.Assign [.Name y py] (.ListComp elt [⟨tg,iter,ifs,0⟩] scope pos) spos) (qV (lc3 wi g tif te m) (gn3 i)):=
 ⟨qcg (i:=i) (N':=N') (m:=m) (hc:=hc) (hN:=hN) (hi:=hi.h) (hg:=(λs H fp=>(hg s H fp).h)) (hf:=(λs H fp=>(hf s H fp).h)) (he:=(λs H fp=>(he s H fp).h)) (hsc:=hsc) (hcap:=hcap) (hl:=hl) (hsw:=hsw) (hiy:=hiy) (hs:=hs)⟩
def jpt {X:Cx} {e:Expr} {t:TT3} (h:jW3 X e t):jC3 X e t:=⟨PW.pt h.h⟩
def za {P:Program} {w:World} {K:Frg} {mg:Str->Option Value} {base:Heap} {x qual:Str} {st:Stmt} {f:Addr} {fd:FuncData} {N ps:List Str} {k:Nat} {sp:Sp3} {t3:TS3} (F:Fun K x qual st f fd) (S:FnScope N ps (qm st)) (bd:zP K fd ps []) (hm:mg x=some (.ref f))
  (body:∀ (cdv:Value) (A:Around) (outer:List Env) (s:Shared) (H:Hp) (E:XK),Room k (A.deeper (envOfC qual (qm st) s.heap.objs.size f cdv)) ->
   jB3 (MV CX0 P w K mg base N qual (qm st) f cdv A outer s H E).nox (jk st) t3)
  (read:∀ ts G q,sp ts G q->ts.length=ps.length/\t3 { nx:=λ_ G'=>q .non G',rt:=q } (qs N ts) G):Fn3 P w K mg base (k+1) x sp:=
 qef F S bd hm (λcdv A outer s H E hr=>(body cdv A outer s H E hr).h) read
def qaj {P:Program} {w:World} {K:Frg} {mg:Str->Option Value} {base:Heap} {x qual:Str} {st:Stmt} {f:Addr} {fd:FuncData} {N ps:List Str} {k:Nat} {sp:Sp3} {t3:TS3} (F:Fun K x qual st f fd) (S:FnScope N ps (qm st))
  (body:∀ (cdv:Value) (A:Around) (outer:List Env) (s:Shared) (H:Hp) (E:XK),Room k (A.deeper (envOfC qual (qm st) s.heap.objs.size f cdv)) ->
   jB3 (MV CX0 P w K mg base N qual (qm st) f cdv A outer s H E).nox (jk st) t3)
  (read:∀ ts G q,sp ts G q->ts.length=ps.length/\t3 { nx:=λ_ G'=>q .non G',rt:=q } (qs N ts) G):FnOk P w K mg base CX0 (k+1) f fd ps (lSp K sp):=
 qci F S (λcdv A outer s H E hr=>(body cdv A outer s H E hr).h) read
open PySem.SeqAt
def Ex (G G':Gp):Prop:=∀ b o,G b=some o->G' b=some o
def Ex.refl {G:Gp}:Ex G G:=λ_ _ e=>e
def Ex.trans {G G1 G2:Gp} (a:Ex G G1) (b:Ex G1 G2):Ex G G2:=λx o e=>b x o (a x o e)
def QY {G:Gp} {p:Addr} {o:O} (hp:G p=none):Ex G (gu G p o):=λb ob e=>by
 rw [jT (by rintro rfl;rw [hp] at e;cases e)];exact e
mutual
inductive Dp (G:Gp):T->PyData->Prop
 |non:Dp G .non .none
 |bl (b:Bool):Dp G (.bl b) (.bool b)
 |int (i:Int):Dp G (.int i) (.int i)
 |str (x:Str):Dp G (.str x) (.str x)
 |tup {xs:List T} {ds:List PyData}:Dps G xs ds->Dp G (.tup xs) (.tuple ds)
 |lst {p:Addr} {xs:List T} {ds:List PyData}:jq G p=some xs->Dps G xs ds->Dp G (.ref p) (.list ds)
inductive Dps (G:Gp):List T->List PyData->Prop
 |nil:Dps G [] []
 |cons {x:T} {d:PyData} {xs:List T} {ds:List PyData}:Dp G x d->Dps G xs ds->Dps G (x::xs) (d::ds)
end
mutual
inductive DV (K:Frg) (H:Hp):V->PyData->Prop
 |non:DV K H .non .none
 |bl (b:Bool):DV K H (.bl b) (.bool b)
 |int (i:Int):DV K H (.int i) (.int i)
 |str (x:Str):DV K H (.str x) (.str x)
 |tup {a:Addr} {vs:List V} {ds:List PyData}:SqT K H a vs->DVs K H vs ds->DV K H (.ref a) (.tuple ds)
 |lst {a:Addr} {vs:List V} {ds:List PyData}:SqL K H a vs->DVs K H vs ds->DV K H (.ref a) (.list ds)
inductive DVs (K:Frg) (H:Hp):List V->List PyData->Prop
 |nil:DVs K H [] []
 |cons {x:V} {d:PyData} {xs:List V} {ds:List PyData}:DV K H x d->DVs K H xs ds->DVs K H (x::xs) (d::ds)
end
mutual
def Dp.dv {K:Frg} {G:Gp} {H:Hp} (hr:HR K G H):∀ {x:T} {d:PyData} {v:V},Dp G x d->Rp K H x v->DV K H v d
 |_,_,_,.non,.non=>.non
 |_,_,_,.bl b,.bl _=>.bl b
 |_,_,_,.int i,.int _=>.int i
 |_,_,_,.str x,.str _=>.str x
 |_,_,_,.tup h,.tup hs rs=>.tup hs (Dps.dv hr h rs)
 |_,_,_,.lst g h,r=>by
  cases r;obtain ⟨_,hs,rs⟩:=jr hr g;exact .lst hs (Dps.dv hr h rs)
def Dps.dv {K:Frg} {G:Gp} {H:Hp} (hr:HR K G H):∀ {x:List T} {d:List PyData} {v:List V},Dps G x d->Rps K H x v->DVs K H v d
 |_,_,_,.nil,.nil=>.nil
 |_,_,_,.cons a b,.cons c d=>.cons (Dp.dv hr a c) (Dps.dv hr b d)
end
mutual
def Z9:PyData->PyData->Option Bool
 |.none,.none=>some true
 |.bool a,.bool b=>some (a==b)
 |.int a,.int b=>some (a==b)
 |.str a,.str b=>some (a==b)
 |.list xs,.list ys=>VL xs ys
 |.tuple xs,.tuple ys=>VL xs ys
 |_,_=>none
def VL:List PyData->List PyData->Option Bool
 |[],[]=>some true
 |x::xs,y::ys=>match Z9 x y,VL xs ys with|some a,some b=>some (a&&b)|_,_=>none
 |_,_=>some false
end
mutual
def dpt:PyData->Nat
 |.list xs=>qfO xs+1
 |.tuple xs=>qfO xs+1
 |_=>0
def qfO:List PyData->Nat
 |[]=>0
 |x::xs=>max (dpt x) (qfO xs)
end
section
variable {X:Cx} {pins:List (Addr×Obj)} {σ:L2.St} {H:Hp} {s:Shared}
mutual
def DV.inj (I:Inv X pins σ H s):∀ {v:V} {d e:PyData},DV X.K H v d->DV X.K H v e->d=e
 |_,_,_,.non,.non=>rfl
 |_,_,_,.bl _,.bl _=>rfl
 |_,_,_,.int _,.int _=>rfl
 |_,_,_,.str _,.str _=>rfl
 |_,_,_,.tup h hs,.tup k ks=>by
  have:=I.tuple_inj h k;subst this;rw [DVs.inj I hs ks]
 |_,_,_,.lst h hs,.lst k ks=>by
  have:=I.list_inj h k;subst this;rw [DVs.inj I hs ks]
 |_,_,_,.tup h hs,.lst k ks=>by
  obtain ⟨i1,_,p1,_⟩:=I.tuple h;obtain ⟨i2,_,p2,_⟩:=I.list k;exact absurd rfl (ne_of_list_tuple p2.isList (show s.heap.IsTuple _ i1.toArray from p1))
 |_,_,_,.lst k ks,.tup h hs=>by
  obtain ⟨i1,_,p1,_⟩:=I.tuple h;obtain ⟨i2,_,p2,_⟩:=I.list k;exact absurd rfl (ne_of_list_tuple p2.isList (show s.heap.IsTuple _ i1.toArray from p1))
def DVs.inj (I:Inv X pins σ H s):∀ {v:List V} {d e:List PyData},DVs X.K H v d->DVs X.K H v e->d=e
 |_,_,_,.nil,.nil=>rfl
 |_,_,_,.cons a b,.cons c d=>by rw [DV.inj I a c,DVs.inj I b d]
end
mutual
def XW:∀ {d:PyData} {b:Bool},Z9 d d=some b->b=true
 |.none,_,h=>by simp [Z9] at h;exact h
 |.bool _,_,h=>by simp [Z9] at h;exact h
 |.int _,_,h=>by simp [Z9] at h;exact h
 |.str _,_,h=>by simp [Z9] at h;exact h
 |.list xs,_,h=>by simp only [Z9] at h;exact V3 h
 |.tuple xs,_,h=>by simp only [Z9] at h;exact V3 h
 |.dict _,_,h=>by simp [Z9] at h
def V3:∀ {d:List PyData} {b:Bool},VL d d=some b->b=true
 |[],_,h=>by simp [VL] at h;exact h
 |x::xs,b,h=>by
  simp only [VL] at h;split at h
  ·rename_i a c e1 e2;rw [XW e1,V3 e2] at h;simpa using h.symm
  ·cases h
end
def JM:∀ {xs ys:List PyData} {b:Bool},VL xs ys=some b->xs.length=ys.length->∃ e:Nat->Bool,(∀ (j:Nat) x y,xs[j]?=some x->ys[j]?=some y->Z9 x y=some (e j))/\b=(List.range xs.length).all e
 |[],[],b,h,_=>by simp [VL] at h;exact ⟨λ_=>true,by simp,by simp [h]⟩
 |x::xs,y::ys,b,h,hl=>by
  simp only [VL] at h;split at h
  ·rename_i a c e1 e2;obtain ⟨e,h1,h2⟩:=JM e2 (by simpa using hl);refine ⟨λj=>match j with|0=>a|j+1=>e j,λj u v hu hv=>?_,?_⟩
   ·cases j with
    |zero=>simp at hu hv;subst hu;subst hv;exact e1
    |succ j=>exact h1 j u v (by simpa using hu) (by simpa using hv)
   ·rw [length_cons,List.range_succ_eq_map,List.all_cons,List.all_map];cases h;rw [h2];rfl
  ·cases h
 |[],_::_,_,_,hl=>by simp at hl
 |_::_,[],_,_,hl=>by simp at hl
def JB:∀ {xs ys:List PyData} {b:Bool},VL xs ys=some b->xs.length≠ys.length->b=false/\∃ e:Nat->Bool,∀ (j:Nat) x y,xs[j]?=some x->ys[j]?=some y->Z9 x y=some (e j)
 |[],[],_,_,hl=>by simp at hl
 |[],_::_,b,h,_=>by simp [VL] at h;exact ⟨h,λ_=>true,by simp⟩
 |_::_,[],b,h,_=>by simp [VL] at h;exact ⟨h,λ_=>true,by simp⟩
 |x::xs,y::ys,b,h,hl=>by
  simp only [VL] at h;split at h
  ·rename_i a c e1 e2;obtain ⟨h0,e,h1⟩:=JB e2 (by simpa using hl);subst h0;refine ⟨by simpa using h.symm,λj=>match j with|0=>a|j+1=>e j,λj u v hu hv=>?_⟩;cases j with
   |zero=>simp at hu hv;subst hu;subst hv;exact e1
   |succ j=>exact h1 j u v (by simpa using hu) (by simpa using hv)
  ·cases h
def VB:∀ {xs:List PyData} {x:PyData},x∈xs->dpt x<=qfO xs
 |[],_,h=>by simp at h
 |y::ys,x,h=>by
  simp only [qfO];rcases mem_cons.mp h with e|e
  ·subst e;omega
  ·have:=VB e;omega
def DVs.get {K:Frg} {H:Hp}:∀ {xs:List V} {ds:List PyData} {i:Nat} {x:V},DVs K H xs ds->xs[i]?=some x->∃ d,ds[i]?=some d/\DV K H x d
 |_,_,_,_,.nil,e=>by simp at e
 |_,_,0,_,.cons r _,e=>by simp at e;subst e;exact ⟨_,rfl,r⟩
 |_,_,i+1,x,.cons _ t,e=>by
  obtain ⟨u,h1,h2⟩:=DVs.get (i:=i) (x:=x) t (by simpa using e);exact ⟨u,by simpa using h1,h2⟩
def DVs.length {K:Frg} {H:Hp}:∀ {xs:List V} {ds:List PyData},DVs K H xs ds->xs.length=ds.length
 |_,_,.nil=>rfl
 |_,_,.cons _ b=>by simp [DVs.length b]
def JC {vs:List V} {us:List Value} (r:zQ vs us) {j:Nat} (h:j<us.toArray.size):∃ v,vs[j]?=some v/\jJ v us.toArray[j]:=by
 have hj:j<vs.length:=by rw [r.length];simpa using h
 obtain ⟨u,hu,ru⟩:=r.get (getElem?_eq_getElem hj);refine ⟨vs[j],getElem?_eq_getElem hj,?_⟩;have hj2:j<us.length:=by simpa using h
 rw [getElem?_eq_getElem hj2] at hu;have:us[j]=u:=Option.some.inj hu;simpa [this] using ru
def CY (I:Inv X pins σ H s):∀ (n:Nat) {v u:V} {d e:PyData} {b:Bool} {x y:Value} {A:Around},DV X.K H v d->DV X.K H u e->Z9 d e=some b->dpt d<=n->A.units+n<cLine->jJ v x->jJ u y ->
  RcAt A s x y b/\EqAt A s x y b:=by
 intro n;induction n with
 |zero=>
  intro v u d e b x y A hv hu h hd hn rx ry;cases hv with
  |non=>cases hu<;>simp [Z9] at h;subst h;cases (show x=Value.none from rx);cases (show y=Value.none from ry);exact ⟨RcAt.none_none,EqAt.same _⟩
  |bl a=>cases hu<;>simp [Z9] at h;subst h;cases (show x=Value.bool _ from rx);cases (show y=Value.bool _ from ry);exact ⟨RcAt.bool_bool _ _,EqAt.bool_bool _ _⟩
  |int a=>cases hu<;>simp [Z9] at h;subst h;obtain ⟨t,rfl⟩:=(show ∃ t,x=Value.int _ t from rx);obtain ⟨t',rfl⟩:=(show ∃ t,y=Value.int _ t from ry);exact ⟨RcAt.int_int _ _ _ _,EqAt.int_int _ _ _ _⟩
  |str a=>cases hu<;>simp [Z9] at h;subst h;obtain ⟨t,rfl⟩:=(show ∃ t,x=Value.str _ t from rx);obtain ⟨t',rfl⟩:=(show ∃ t,y=Value.str _ t from ry);exact ⟨RcAt.str_str _ _ _ _,EqAt.str_str _ _ _ _⟩
  |tup=>simp [dpt] at hd
  |lst=>simp [dpt] at hd
 |succ n ih=>
  intro v u d e b x y A hv hu h hd hn rx ry;have fin:∀ {l l':Addr} {k:Bool},x=.ref l->y=.ref l'->v=.ref l->u=.ref l'->b=k->RcAt A s x y k->RcAt A s x y b/\EqAt A s x y b:=by
   rintro l l' k rfl rfl rfl rfl rfl rc;refine ⟨rc,?_⟩;by_cases hll:l=l'
   ·subst hll;have:=DV.inj I hv hu;subst this;rw [XW h];exact EqAt.same _
   ·exact EqAt.of_refs hll rc
  cases hv with
  |non=>cases hu<;>simp [Z9] at h;subst h;cases (show x=Value.none from rx);cases (show y=Value.none from ry);exact ⟨RcAt.none_none,EqAt.same _⟩
  |bl a=>cases hu<;>simp [Z9] at h;subst h;cases (show x=Value.bool _ from rx);cases (show y=Value.bool _ from ry);exact ⟨RcAt.bool_bool _ _,EqAt.bool_bool _ _⟩
  |int a=>cases hu<;>simp [Z9] at h;subst h;obtain ⟨t,rfl⟩:=(show ∃ t,x=Value.int _ t from rx);obtain ⟨t',rfl⟩:=(show ∃ t,y=Value.int _ t from ry);exact ⟨RcAt.int_int _ _ _ _,EqAt.int_int _ _ _ _⟩
  |str a=>cases hu<;>simp [Z9] at h;subst h;obtain ⟨t,rfl⟩:=(show ∃ t,x=Value.str _ t from rx);obtain ⟨t',rfl⟩:=(show ∃ t,y=Value.str _ t from ry);exact ⟨RcAt.str_str _ _ _ _,EqAt.str_str _ _ _ _⟩
  |tup hq hs=>
   cases hu with
   |tup kq ks=>
    rename_i a1 vs1 ds1 a2 vs2 ds2;simp only [Z9] at h;obtain ⟨i1,r1,p1,z1⟩:=I.tuple hq;obtain ⟨i2,r2,p2,z2⟩:=I.tuple kq;have l1:=hs.length;have l2:=ks.length;have m1:=r1.length;have m2:=r2.length;have el:∀ (e:Nat->Bool),(∀ (j:Nat) x y,ds1[j]?=some x->ds2[j]?=some y->Z9 x y=some (e j))->∀ j (h1:j<i1.toArray.size) (h2:j<i2.toArray.size),EqAt A.in1 s i1.toArray[j] i2.toArray[j] (e j):=λe he j h1 h2=>by
     obtain ⟨w1,g1,q1⟩:=JC r1 h1;obtain ⟨w2,g2,q2⟩:=JC r2 h2;obtain ⟨d1,f1,dv1⟩:=hs.get g1;obtain ⟨d2,f2,dv2⟩:=ks.get g2;have:=VB (mem_of_getElem? f1);exact (ih dv1 dv2 (he j d1 d2 f1 f2) (by simp only [dpt] at hd;omega) (show A.units+1+n<cLine by omega) q1 q2).2
    cases (show x=Value.ref a1 from rx);cases (show y=Value.ref a2 from ry);by_cases hl:ds1.length=ds2.length
    ·obtain ⟨e,he,hb⟩:=JM h hl;refine fin rfl rfl rfl rfl (k:=(List.range (min i1.toArray.size i2.toArray.size)).all e&&i1.toArray.size==i2.toArray.size) ?_ (RcAt.tuples (show s.heap.IsTuple a1 i1.toArray from p1) (show s.heap.IsTuple a2 i2.toArray from p2) (by omega) (el e he));have e1:i1.toArray.size=ds1.length:=by rw [size_toArray];omega
     have e2:i2.toArray.size=ds1.length:=by rw [size_toArray];omega
     rw [e1,e2,hb];simp
    ·obtain ⟨hb,e,he⟩:=JB h hl;refine fin rfl rfl rfl rfl (k:=(List.range (min i1.toArray.size i2.toArray.size)).all e&&i1.toArray.size==i2.toArray.size) ?_ (RcAt.tuples (show s.heap.IsTuple a1 i1.toArray from p1) (show s.heap.IsTuple a2 i2.toArray from p2) (by omega) (el e he));have e1:i1.toArray.size≠i2.toArray.size:=by rw [size_toArray,size_toArray];omega
     rw [hb];simp [e1];intro;omega
   |_=>simp [Z9] at h
  |lst hq hs=>
   cases hu with
   |lst kq ks=>
    rename_i a1 vs1 ds1 a2 vs2 ds2;simp only [Z9] at h;obtain ⟨i1,r1,p1,z1⟩:=I.list hq;obtain ⟨i2,r2,p2,z2⟩:=I.list kq;have l1:=hs.length;have l2:=ks.length;have m1:=r1.length;have m2:=r2.length;have el:∀ (e:Nat->Bool),(∀ (j:Nat) x y,ds1[j]?=some x->ds2[j]?=some y->Z9 x y=some (e j))->∀ j (h1:j<i1.toArray.size) (h2:j<i2.toArray.size),EqAt A.in1 s i1.toArray[j] i2.toArray[j] (e j):=λe he j h1 h2=>by
     obtain ⟨w1,g1,q1⟩:=JC r1 h1;obtain ⟨w2,g2,q2⟩:=JC r2 h2;obtain ⟨d1,f1,dv1⟩:=hs.get g1;obtain ⟨d2,f2,dv2⟩:=ks.get g2;have:=VB (mem_of_getElem? f1);exact (ih dv1 dv2 (he j d1 d2 f1 f2) (by simp only [dpt] at hd;omega) (show A.units+1+n<cLine by omega) q1 q2).2
    cases (show x=Value.ref a1 from rx);cases (show y=Value.ref a2 from ry);by_cases hl:ds1.length=ds2.length
    ·obtain ⟨e,he,hb⟩:=JM h hl;refine fin rfl rfl rfl rfl (k:=(List.range i1.toArray.size).all e) ?_ (RcAt.lists p1.isList p2.isList (by rw [size_toArray,size_toArray];omega) (by omega) (el e he));have e1:i1.toArray.size=ds1.length:=by rw [size_toArray];omega
     rw [e1,hb]
    ·obtain ⟨hb,e,he⟩:=JB h hl;refine fin rfl rfl rfl rfl (k:=false) hb (RcAt.lists_lengths p1.isList p2.isList (by rw [size_toArray,size_toArray];simp;omega) (by omega))
   |_=>simp [Z9] at h
def qdj (I:Inv X pins σ H s) {n:Nat} {v u:V} {d e:PyData} {b:Bool} {x y:Value} {A:Around} (hv:DV X.K H v d) (hu:DV X.K H u e) (h:Z9 d e=some b) (hd:dpt d<=n+1) (hn:A.units+(n+1)<cLine) (rx:jJ v x) (ry:jJ u y) (hs:dpt d≠0):RcNeAt A s x y (!b):=by
 cases hv with
 |tup hq hs'=>
  cases hu with
  |tup kq ks=>
   rename_i a1 vs1 ds1 a2 vs2 ds2;simp only [Z9] at h;obtain ⟨i1,r1,p1,z1⟩:=I.tuple hq;obtain ⟨i2,r2,p2,z2⟩:=I.tuple kq;have l1:=hs'.length;have l2:=ks.length;have m1:=r1.length;have m2:=r2.length;have el:∀ (e:Nat->Bool),(∀ (j:Nat) x y,ds1[j]?=some x->ds2[j]?=some y->Z9 x y=some (e j))->∀ j (h1:j<i1.toArray.size) (h2:j<i2.toArray.size),EqAt A.in1 s i1.toArray[j] i2.toArray[j] (e j):=λe he j h1 h2=>by
    obtain ⟨w1,g1,q1⟩:=JC r1 h1;obtain ⟨w2,g2,q2⟩:=JC r2 h2;obtain ⟨d1,f1,dv1⟩:=hs'.get g1;obtain ⟨d2,f2,dv2⟩:=ks.get g2;have:=VB (mem_of_getElem? f1);exact (CY I n dv1 dv2 (he j d1 d2 f1 f2) (by simp only [dpt] at hd;omega) (show A.units+1+n<cLine by omega) q1 q2).2
   cases (show x=Value.ref a1 from rx);cases (show y=Value.ref a2 from ry);by_cases hl:ds1.length=ds2.length
   ·obtain ⟨e,he,hb⟩:=JM h hl;have:=RcNeAt.tuples (show s.heap.IsTuple a1 i1.toArray from p1) (show s.heap.IsTuple a2 i2.toArray from p2) (A:=A) (by omega) (el e he);have e1:i1.toArray.size=ds1.length:=by rw [size_toArray];omega
    have e2:i2.toArray.size=ds1.length:=by rw [size_toArray];omega
    rw [e1,e2] at this;rw [hb];simpa using this
   ·obtain ⟨hb,e,he⟩:=JB h hl;have:=RcNeAt.tuples (show s.heap.IsTuple a1 i1.toArray from p1) (show s.heap.IsTuple a2 i2.toArray from p2) (A:=A) (by omega) (el e he);have e1:(i1.toArray.size==i2.toArray.size)=false:=by rw [size_toArray,size_toArray];simp;omega
    rw [e1] at this;rw [hb];simpa using this
  |_=>simp [Z9] at h
 |lst hq hs'=>
  cases hu with
  |lst kq ks=>
   rename_i a1 vs1 ds1 a2 vs2 ds2;simp only [Z9] at h;obtain ⟨i1,r1,p1,z1⟩:=I.list hq;obtain ⟨i2,r2,p2,z2⟩:=I.list kq;have l1:=hs'.length;have l2:=ks.length;have m1:=r1.length;have m2:=r2.length;have el:∀ (e:Nat->Bool),(∀ (j:Nat) x y,ds1[j]?=some x->ds2[j]?=some y->Z9 x y=some (e j))->∀ j (h1:j<i1.toArray.size) (h2:j<i2.toArray.size),EqAt A.in1 s i1.toArray[j] i2.toArray[j] (e j):=λe he j h1 h2=>by
    obtain ⟨w1,g1,q1⟩:=JC r1 h1;obtain ⟨w2,g2,q2⟩:=JC r2 h2;obtain ⟨d1,f1,dv1⟩:=hs'.get g1;obtain ⟨d2,f2,dv2⟩:=ks.get g2;have:=VB (mem_of_getElem? f1);exact (CY I n dv1 dv2 (he j d1 d2 f1 f2) (by simp only [dpt] at hd;omega) (show A.units+1+n<cLine by omega) q1 q2).2
   cases (show x=Value.ref a1 from rx);cases (show y=Value.ref a2 from ry);by_cases hl:ds1.length=ds2.length
   ·obtain ⟨e,he,hb⟩:=JM h hl;have:=RcNeAt.lists p1.isList p2.isList (A:=A) (by rw [size_toArray,size_toArray];omega) (by omega) (el e he);have e1:i1.toArray.size=ds1.length:=by rw [size_toArray];omega
    rw [e1] at this;rw [hb];exact this
   ·obtain ⟨hb,e,he⟩:=JB h hl;rw [hb];exact RcNeAt.lists_lengths p1.isList p2.isList (by rw [size_toArray,size_toArray];simp;omega) (by omega)
  |_=>simp [Z9] at h
 |_=>simp [dpt] at hs
def qaJ (K:Frg) (neg:Bool):R2:=λx y H Q=>∃ d e b,DV K H x d/\DV K H y e/\Z9 d e=some b/\dpt d<=40/\dpt d≠0/\Q (.bl (if neg then !b else b)) H
def qes (hu:X.A.units+64<cLine):OpR X (compareOp .Eq) (qaJ X.K false):=by
 intro pins s σ H x y v u Q I rx ry h;obtain ⟨d,e,b,hx,hy,hb,hd,_,q⟩:=h;exact (CY I 40 hx hy hb hd (by omega) rx ry).1 X.prog X.w X.xe _ ⟨.bl b,H,I,rfl,q⟩
def qgZ (hu:X.A.units+64<cLine):OpR X (compareOp .NotEq) (qaJ X.K true):=by
 intro pins s σ H x y v u Q I rx ry h;obtain ⟨d,e,b,hx,hy,hb,hd,hs,q⟩:=h;exact qdj I (n:=40) hx hy hb (by omega) (by omega) rx ry hs X.prog X.w X.xe _ ⟨.bl (!b),H,I,rfl,q⟩
end
def j0 (neg:Bool):R3:=λx y G q=>match QG x y with
 |some k=>q (.bl (if neg then !k else k)) G
 |none=>∃ d e b,Dp G x d/\Dp G y e/\Z9 d e=some b/\dpt d<=40/\dpt d≠0/\q (.bl (if neg then !b else b)) G
def zx {K:Frg}:W6 K (j0 false) (λx y H Q=>rEq x y H Q\/qaJ K false x y H Q):=λx y v u G H q Q hr rx ry h af=>by
 unfold j0 at h;split at h
 ·rename_i k e;obtain ⟨h1,h2⟩:=SC rx ry e;refine .inl ⟨h1,?_⟩;rw [h2];exact af _ G h _ H (.bl _) hr Kp.refl
 ·obtain ⟨d,e,b,h1,h2,h3,h4,h5,h6⟩:=h;exact .inr ⟨d,e,b,h1.dv hr rx,h2.dv hr ry,h3,h4,h5,af _ G h6 _ H (.bl _) hr Kp.refl⟩
def UV {K:Frg}:W6 K (j0 true) (λx y H Q=>rNe x y H Q\/qaJ K true x y H Q):=λx y v u G H q Q hr rx ry h af=>by
 unfold j0 at h;split at h
 ·rename_i k e;obtain ⟨h1,h2⟩:=SC rx ry e;refine .inl ⟨h1,?_⟩;rw [h2];exact af _ G h _ H (.bl _) hr Kp.refl
 ·obtain ⟨d,e,b,h1,h2,h3,h4,h5,h6⟩:=h;exact .inr ⟨d,e,b,h1.dv hr rx,h2.dv hr ry,h3,h4,h5,af _ G h6 _ H (.bl _) hr Kp.refl⟩
def jm {X:Cx} (hu:X.A.units+64<cLine):OpR X (compareOp .Eq) (λx y H Q=>rEq x y H Q\/qaJ X.K false x y H Q):=qi2.or (qes hu)
def XS {X:Cx} (hu:X.A.units+64<cLine):OpR X (compareOp .NotEq) (λx y H Q=>rNe x y H Q\/qaJ X.K true x y H Q):=qi9.or (qgZ hu)
end L3
namespace L3
open PySem PySem.Spec PyProof.Rows L2
section
variable {X:Cx} {pins:List (Addr×Obj)} {σ:L2.St} {H:Hp} {s:Shared}
mutual
def DV.reads (I:Inv X pins σ H s):∀ {v:V} {d:PyData} {x:Value},DV X.K H v d->jJ v x->∃ as,Reads s.heap x d as
 |_,_,x,.non,r=>by cases (show x=Value.none from r);exact ⟨_,.none⟩
 |_,_,x,.bl b,r=>by cases (show x=Value.bool b from r);exact ⟨_,.bool b⟩
 |_,_,x,.int i,r=>by obtain ⟨t,rfl⟩:=(show ∃ t,x=Value.int i t from r);exact ⟨_,.int i t⟩
 |_,_,x,.str y,r=>by obtain ⟨t,rfl⟩:=(show ∃ t,x=Value.str y t from r);exact ⟨_,.str y t⟩
 |_,_,x,.tup (a:=a) h hs,r=>by
  cases (show x=Value.ref a from r);obtain ⟨its,rv,⟨o,h1,h2,n,h3⟩,_⟩:=I.tuple h;obtain ⟨as,ra⟩:=DVs.reads I hs rv;exact ⟨as,.tuple h1 h2 h3 (by simpa using ra)⟩
 |_,_,x,.lst (a:=a) h hs,r=>by
  cases (show x=Value.ref a from r);obtain ⟨its,rv,p,_⟩:=I.list h;obtain ⟨o,h1,h2,n,h3⟩:=p.isList;obtain ⟨as,ra⟩:=DVs.reads I hs rv;exact ⟨a::as,.list h1 h2 h3 (by simpa using ra)⟩
def DVs.reads (I:Inv X pins σ H s):∀ {v:List V} {d:List PyData} {x:List Value},DVs X.K H v d->zQ v x->∃ as,ReadsAll s.heap x d as
 |_,_,_,.nil,.nil=>⟨_,.nil⟩
 |_,_,_,.cons a b,.cons c d=>by
  obtain ⟨as,r1⟩:=DV.reads I a c;obtain ⟨bs,r2⟩:=DVs.reads I b d;exact ⟨_,.cons r1 r2⟩
end
structure ShOk (d:PyData):Prop where
 sh:d.showable=true
 nd:d.hasDict=false
 dp:d.depth<=40
 lv:d.leavesShort 13=true
 bk:d.bulk<=2 ^ 20
end
section
variable {X:Cx}
def qde:V->List V->Hp->VK->Prop:=λx vs H Q=>∃ i,x=.int i/\vs=[]/\Q (.int (Builtin.Int.intBits i)) H
def LB:MtR X "int.bit_length" qde:=by
 intro pins s σ H x vs v us Q I rx rv h;obtain ⟨i,rfl,rfl,q⟩:=h;obtain ⟨t,rfl⟩:=rx;have hus:=rv.zero;subst hus;exact call_int_bit_length ⟨.int _,_,I.tok _,⟨_,rfl⟩,q⟩
def bl3 (to:TE3):TE3:=λτ G q=>to τ G λx G1=>match x with|.int i=>q (.int (Builtin.Int.intBits i)) G1|_=>False
def KA {o:Expr} {to:TE3} {apos cpos:Pos} (ho:jE3 X o to) (hbase:attributeBase o "bit_length" X.env (eval o X.env)=eval o X.env:=by rfl) (hline:(apos.endLine==cpos.line)=true:=by rfl) :
  jE3 X (.Call (.Attribute o "bit_length" apos) [] [] cpos) (bl3 to):=
 ⟨DZ (qfd PySem.F.plainAttrs_int PySem.F.slot_int_bit_length PySem.F.type_int_bit_length LB ho.h hbase hline) λ_ _ _ ⟨τ,G,q,rl,h,af⟩=>jb rl h λx G1 h1 v H1 rx hr1 k1 rl1=>by
  cases x<;>try exact h1.elim
  case int i=>
   cases rx;exact ⟨rfl,i,rfl,rfl,af.back k1 _ _ h1 _ _ (.int _) hr1 Kp.refl⟩⟩
end
section
variable {prog:Program} {w:World} {A:Around} {R:Result->Shared->Prop} {s:Shared}
end
section
variable {X:Cx}
end
section
variable {K:Frg}
end
section
variable {X:Cx}
end
section
variable {X:Cx}
end
section
variable {X:Cx} {tg a b c:Expr} {pos:Pos}
end
section
variable {X:Cx}
end
section
variable {X:Cx} {a b:Expr} {ta tb:TE3} {pos:Pos}
def L0:OpR X (compareOp .IsNot) (λx y H Q=>∃ i j,x=.bl i/\y=.bl j/\Q (.bl (i != j)) H):=by
 intro pins s σ H x y v u Q I rx ry h;obtain ⟨i,j,rfl,rfl,q⟩:=h;cases rx;cases ry;exact isnot_bool (zb I q rfl)
def qdm (neg:Bool):R3:=λx y G q=>match x,y with|.bl i,.bl j=>q (.bl (if neg then i != j else i==j)) G|_,_=>False
def SF {K:Frg}:W6 K (qdm true) (λx y H Q=>∃ i j,x=.bl i/\y=.bl j/\Q (.bl (i != j)) H):=λx y v u G H q Q hr rx ry h af=>by
 cases x<;>try exact h.elim
 cases y<;>try exact h.elim
 cases rx;cases ry;exact ⟨_,_,rfl,rfl,af _ G h _ H (.bl _) hr Kp.refl⟩
structure ShW (d:PyData):Prop where
 sh:d.showable=true
 nd:d.hasDict=false
 dp:d.depth<=40
 fit:d.shown.length<=sizeLine
def ShOk.w {d:PyData} (h:ShOk d):ShW d:=⟨h.sh,h.nd,h.dp,PyData.shown_fits_bulk (by decide) (by decide) h.lv h.bk⟩
def TC (hg:X.A.guards=some []) (hu:X.A.units+64<cLine):YJ X (.builtin "repr") (λxs H Q=>∃ a d,xs=[.ref a]/\DV X.K H (.ref a) d/\ShW d/\Q (.str d.shown) H):=by
 intro pins s σ H xs us Q I r h;obtain ⟨a,d,rfl,dv,ok,q⟩:=h;obtain ⟨u,rfl,rp⟩:=RH r;cases (show u=Value.ref a from rp);obtain ⟨as,rd⟩:=dv.reads I (show jJ (.ref a) (.ref a) from rfl);refine repr_of_reads' rd ok.sh (PyData.noDict_hsm ok.nd) hg (by have:=ok.dp;omega) (λ_ _ e=>e) (λh' u tk hk=>?_) ok.fit;exact ⟨.str _,H,I.kept (h':=h') (t':=tk) hk,⟨_,rfl⟩,q⟩
def shV (st:Bool):V->Hp->(Str->Prop)->Prop:=λv H q=>match v with
 |.non=>q (Str.ofString "None")
 |.bl b=>q (if b=true then Str.ofString "True" else Str.ofString "False")
 |.int i=>i.natAbs.log2<1920/\q (Str.ofString (toString i))
 |.str x=>if st then q x else (reprText x).length<=sizeLine/\q (reprText x)
 |.ref a=>∃ d,DV X.K H (.ref a) d/\ShW d/\q d.shown
 |_=>False
def V6 (hg:X.A.guards=some []) (hu:X.A.units+64<cLine):YJ X (.builtin "repr") (λxs H Q=>∃ v,xs=[v]/\shV (X:=X) false v H λx=>Q (.str x) H):=by
 intro pins s σ H xs us Q I r h;obtain ⟨v,rfl,h⟩:=h;obtain ⟨u,rfl,rp⟩:=RH r;cases v with
 |non=>cases (show u=Value.none from rp);exact P.repr_of_none ⟨.str _,H,I.tok _,⟨_,rfl⟩,h⟩
 |bl b=>cases (show u=Value.bool b from rp);exact P.repr_of_bool ⟨.str _,H,I.tok _,⟨_,rfl⟩,h⟩
 |int i=>obtain ⟨t,rfl⟩:=(show ∃ t,u=Value.int i t from rp);exact P.repr_of_int h.1 ⟨.str _,H,I.tok _,⟨_,rfl⟩,h.2⟩
 |str x=>obtain ⟨t,rfl⟩:=(show ∃ t,u=Value.str x t from rp);exact P.repr_of_str ⟨.str _,H,I.tok _,⟨_,rfl⟩,h.2⟩ h.1
 |ref a=>
  obtain ⟨d,dv,ok,q⟩:=h;exact TC hg hu _ _ _ _ _ _ _ I r ⟨a,d,rfl,dv,ok,q⟩
 |_=>exact h.elim
def shT (st:Bool):T->Gp->(Str->Prop)->Prop:=λx G q=>match x with
 |.non=>q (Str.ofString "None")
 |.bl b=>q (if b=true then Str.ofString "True" else Str.ofString "False")
 |.int i=>i.natAbs.log2<1920/\q (Str.ofString (toString i))
 |.str x=>if st then q x else (reprText x).length<=sizeLine/\q (reprText x)
 |.tup _=>∃ d,Dp G x d/\ShW d/\q d.shown
 |.ref _=>∃ d,Dp G x d/\ShW d/\q d.shown
def C1 (st:Bool):List T->Gp->Q3->Prop:=λxs G q=>match xs with
 |[x]=>shT st x G λy=>q (.str y) G
 |_=>False
def RW {st:Bool}:TZ X.K (C1 st) (λxs H Q=>∃ v,xs=[v]/\shV (X:=X) st v H λx=>Q (.str x) H):=λxs vs G H q Q hr rs h af=>by
 unfold C1 at h;split at h
 ·rename_i x;obtain ⟨v,rfl,r⟩:=T0 rs;refine ⟨v,rfl,?_⟩;cases r with
  |non=>exact af _ G h _ H (.str _) hr Kp.refl
  |bl b=>exact af _ G h _ H (.str _) hr Kp.refl
  |int i=>exact ⟨h.1,af _ G h.2 _ H (.str _) hr Kp.refl⟩
  |str x=>
   cases st with
   |true=>exact af _ G h _ H (.str _) hr Kp.refl
   |false=>exact ⟨h.1,af _ G h.2 _ H (.str _) hr Kp.refl⟩
  |tup hs r2=>
   obtain ⟨d,h1,h2,h3⟩:=h;exact ⟨d,h1.dv hr (.tup hs r2),h2,af _ G h3 _ H (.str _) hr Kp.refl⟩
  |ref a=>
   obtain ⟨d,h1,h2,h3⟩:=h;exact ⟨d,h1.dv hr (.ref a),h2,af _ G h3 _ H (.str _) hr Kp.refl⟩
 ·exact h.elim
def N6:OpR X (binaryOp .Add) (λx y H Q=>∃ a b ys,x=.ref a/\y=.ref b/\SqT X.K H a []/\SqT X.K H b ys/\Q (.ref b) H):=by
 intro pins s σ H x y v u Q I rx ry h;obtain ⟨a,b,ys,rfl,rfl,ha,hb,q⟩:=h;cases rx;cases ry;obtain ⟨its,r1,p1,_⟩:=I.tuple ha;obtain ⟨its2,r2,p2,_⟩:=I.tuple hb;cases r1;obtain ⟨⟨cls,dd,data,sl⟩,ho,hc,n,hd⟩:=id p1;obtain ⟨⟨cls2,dd2,data2,sl2⟩,ho2,hc2,n2,hd2⟩:=id p2;simp only at hc hd hc2 hd2;subst hc hd hc2 hd2;exact concat_meets ⟨_,ho,rfl⟩ ⟨_,ho2,rfl⟩ noFill_tuple_add seq_tuple_add PySem.F.slot_tuple_add PySem.F.entry_tuple_add (PySem.F.args_tuple_add_2 _ _)
   (tuple_addW0 a b #[] its2.toArray n n2 dd dd2 sl sl2 rfl) ⟨ho,ho2,⟨.ref b,H,I,rfl,q⟩⟩
def zM:R3:=λx y G q=>match x,y with
 |.tup xs,.tup ys=>xs.length+ys.length<=sizeLine/\q (.tup (xs++ys)) G
 |.ref a,.ref b=>(match G a,G b with|some (.lst xs),some (.lst ys)=>xs.length+ys.length<=sizeLine/\∀ p,G p=none->q (.ref p) (gu G p (.lst (xs++ys)))|_,_=>False)
 |.int i,.int j=>q (.int (i+j)) G
 |_,_=>False
def N0:W6 X.K zM (λx y H Q=>((rI0 (λi j=>.int (i+j)) x y H Q\/qcJ X.K x y H Q)\/qiE x y H Q)\/∃ a b ys,x=.ref a/\y=.ref b/\SqT X.K H a []/\SqT X.K H b ys/\Q (.ref b) H):=λx y v u G H q Q hr rx ry h af=>by
 cases x with
 |tup xs=>
  cases y with
  |tup ys=>
   cases xs with
   |nil=>
    cases rx with
    |tup hs rs=>
     cases rs;cases ry with
     |tup hs' rs'=>exact .inr ⟨_,_,_,rfl,rfl,hs,hs',af _ G h.2 _ H (.tup hs' rs') hr Kp.refl⟩
   |cons x xs=>exact .inl (WP _ _ v u G H q Q hr rx ry ⟨by simp,h⟩ af)
  |_=>exact h.elim
 |ref a=>
  cases y with
  |ref b=>exact .inl (WP (.ref a) (.ref b) v u G H q Q hr rx ry h af)
  |_=>exact h.elim
 |int i=>
  cases y with
  |int j=>exact .inl (WP (.int i) (.int j) v u G H q Q hr rx ry h af)
  |_=>exact h.elim
 |_=>exact h.elim
def qx (ha:jE3 X a ta) (hb:jE3 X b tb):jE3 X (.BinOp a .Add b pos) (o3 zM ta tb):=⟨qaQ (((qbC.or LO).or qa7).or N6) N0 ha.h hb.h⟩
def VM {prog:Program} {w:World} {A:Around} {E:Value->Shared->Prop} {s:Shared} {t sl:Addr} {items:Array Value} {vl vu:Value} {lo hi:Option Int} {Q:Value->Shared->Prop} (ht:IsTup s.heap t items) (hs:s.heap.IsSliceOf sl vl vu .none) (pl:IsPart vl lo) (pu:IsPart vu hi)
  (hw:HT.sIx items.size 0 lo=0/\HT.sIx items.size items.size hi=items.size) (h:Q (.ref t) s):wpAny (model prog w) A (getItem (.ref t) (.ref sl)) Q E s:=by
 obtain ⟨os,hos,hcs,hds⟩:=id hs;have hTs:s.TypeIs (.ref sl) "slice" := ⟨os,hos,hcs⟩
 unfold getItem
 try with_reducible refine wpAny_holding ?_
 first|refine wpAny_bind (wpAny_pure ?_)|skip
 refine wpAny_bind (wpAny_sequenceKey ht.typeIs (by decide) ?_);refine wpAny_bind (wpAny_callSpecial?_slot (name:=Str.ofString "__getitem__") ht.typeIs PyProof.Rows.slot_tuple_getitem
  (wpAny_call_entry PyProof.Rows.slot_tuple_getitem ht.typeIs entry_tuple_getitem ?_ (args_tuple_getitem _ _)))
 show wpAny _ _ (Builtin.Tuple.tupleItemsOf (.ref t) >>= _) _ _ s;refine wpAny_bind (tupleItemsOf_ ht ?_);refine wpAny_bind (wpAny_typeOf hTs ?_);rw [if_pos (by decide)];refine wpAny_bind (HT.Z3 hs pl pu ?_);have hyes:(((HT.sIx items.size 0 lo:Nat):Int)==0&&(1:Int)==1&&(HT.sIx items.size items.size hi-HT.sIx items.size 0 lo)==items.size)=true:=by
  rw [hw.1,hw.2];simp
 show wpAny _ _ (if (((HT.sIx items.size 0 lo:Nat):Int)==0&&(1:Int)==1&&(HT.sIx items.size items.size hi-HT.sIx items.size 0 lo)==items.size)=true then _ else _) _ _ s;rw [if_pos hyes];unfold Builtin.Tuple.tupleIsExact;refine wpAny_bind (wpAny_bind (wpAny_typeOf ht.typeIs (wpAny_pure ?_)));rw [if_pos (by decide)];refine wpAny_bind (wpAny_rule ?_);exact wpAny_pure ⟨_,rfl,wpAny_pure h⟩
def qk3 (K:Frg):V->Option Int->Option Int->Hp->VK->Prop:=λx lo hi H Q=>∃ a xs,x=.ref a/\SqT K H a xs/\(HT.sIx xs.length 0 lo=0/\HT.sIx xs.length xs.length hi=xs.length)/\Q (.ref a) H
def NZ:SlR X (qk3 X.K):=by
 intro pins s σ H x v vl vu lo hi sl Q I rx hs pl pu h;obtain ⟨a,xs,rfl,hx,hw,q⟩:=h;cases rx;obtain ⟨its,r,ht,hz⟩:=I.tuple hx;have hlen:its.toArray.size=xs.length:=by rw [size_toArray];exact r.length.symm
 refine ⟨"tuple",_,PyProof.Rows.slot_tuple_getitem.lookup,ht.typeIs,?_⟩;exact VM ht hs pl pu (by rw [hlen];exact hw) ⟨.ref a,H,I,rfl,q⟩
def qim:T->Option Int->Option Int->Gp->Q3->Prop:=λx lo hi G q=>match x with
 |.tup xs=>q (.tup (YY xs lo hi)) G
 |.ref p=>(match jq G p with|some xs=>∀ a,G a=none->q (.ref a) (gu G a (.lst (YY xs lo hi)))|none=>False)
 |_=>False
def Z8 (te:TE3) (tl th:TO3):TE3:=λτ G q=>te τ G λx G1=>tl τ G1 λl G2=>th τ G2 λu G3=>qim x l u G3 q
def qY {e:Expr} {te:TE3} {lo hi:Option Expr} {tl th:TO3} {p2:Pos} (he:jE3 X e te) (hl:jP3 X lo tl) (hu:jP3 X hi th):jE3 X (.Subscript e (.Slice lo hi none p2) pos) (Z8 te tl th):=
 ⟨DZ (R0 ((qbv.or LM).or NZ) he.h hl.h hu.h) λ_ _ _ ⟨τ,G,q,rl,h,af⟩=>jb rl h λx G1 h1 v H1 rx hr1 k1 rl1=>
  ⟨τ,G1,_,rl1,h1,λl G2 h2 H2 hr2 k2=>⟨τ,G2,_,rl1.next hr2 k2,h2,λu G3 h3 H3 hr3 k3=>by
   have kk:=(k1.trans k2).trans k3;have rx3:=(rx.keep hr1 k2).keep hr2 k3;cases x<;>try exact h3.elim
   case tup xs=>
    cases rx3 with
    |tup hs rs=>
     by_cases hw:HT.sIx xs.length 0 l=0/\HT.sIx xs.length xs.length u=xs.length
     ·refine .inr ⟨_,_,rfl,hs,by rw [← rs.length];exact hw,?_⟩;have e:YY xs l u=xs:=by unfold YY;rw [hw.1,hw.2];simp
      have h4:q (.tup (YY xs l u)) G3:=h3;rw [e] at h4;exact af _ G3 h4 _ _ (.tup hs rs) hr3 kk
     ·refine .inl (.inl ⟨_,_,rfl,hs,by rw [← rs.length];exact hw,λp hp=>?_⟩);exact af _ G3 h3 _ _ (.tup (SqT.of zK) ((rs.cut _ _).keep hr3 (Kp.laid hp))) (hr3.laid hp) (kk.trans (Kp.laid hp))
   case ref p=>
    unfold qim at h3;simp only at h3;split at h3
    ·rename_i xs e0;cases rx3;obtain ⟨vs,hs,rs⟩:=jr hr3 e0;refine .inl (.inr ⟨p,vs,rfl,hs,λa ha=>?_⟩);exact af _ _ (h3 a (hr3.free ha)) _ _ (.ref a) (hr3.newL ha (rs.cut _ _)) (kk.trans (Kp.newL ha))
    ·exact h3.elim⟩⟩⟩
end
end L3
namespace HT
open PySem PySem.Spec PyProof.Rows
section
variable {prog:Program} {w:World} {A:Around} {E:Value->Shared->Prop} {s:Shared}
end
end HT
namespace L3
open PySem PySem.Spec PyProof.Rows L2
section
variable {X:Cx} {e ek:Expr} {p2 pos:Pos}
end
section
variable {X:Cx} {a b:Expr} {ta tb:TE3} {pos:Pos}
end
abbrev Rd (sp:Sp3) (n:Nat) (t:TS3) (N:List Str):Prop:=∀ ts G q,sp ts G q->ts.length=n/\t { nx:=λ_ G'=>q .non G',rt:=q } (qs N ts) G
def jgn {pos:Pos} {X:Cx} {x:Str} (i:Nat) (hN:decide X.N.Nodup=true:=by kernel_rfl) (hi:X.N[i]?=some x:=by rfl) (hx:Loc X.env.scope x:=by first|exact Or.inl rfl|exact Or.inr rfl) (hf:X.fn x=true\/X.env.scope.names.lookup x=some .local:=by first|exact .inl rfl|exact .inr rfl):jG3 X (.Name x pos) (gn3 i):=
 qP (of_decide_eq_true hN) hi hx hf
end L3
namespace L2
open PySem PySem.Spec PyProof.Rows
section
variable {X:Cx} {pos:Pos}
end
end L2
namespace L3
open PySem PySem.Spec PyProof.Rows L2
section
variable {X:Cx} {pos:Pos}
end
end L3
namespace HT
open PySem PyProof.Rows
section
variable {prog:Program} {w:World} {A:Around} {E:Value->Shared->Prop} {s:Shared}
end
end HT
namespace L3
open PySem PySem.Spec PyProof.Rows L2
section
variable {X:Cx}
end
end L3
namespace Tb8
open PySem PySem.SetTable
def gD {xs:Array Nat} {i d e:Nat} (h:i<xs.size):xs.getD i d=xs.getD i e:=by simp [Array.getD,h]
def hd (M i p:Nat):Probe:={ j:=i,more:=runEnd M i-i,i:=i,perturb:=p,dummy:=none }
def lv (M:Nat) (h:Int):Nat->Nat×Nat
 |0=>(bits h%(M+1),bits h)
 |k+1=>leap M (lv M h k).1 (lv M h k).2
def stp (M x:Nat):Nat:=(x*5+1)%(M+1)
def its (M:Nat):Nat->Nat->Nat
 |0,x=>x
 |t+1,x=>stp M (its M t x)
def ins {α:Type} (l:List α) (p:Nat) (x:α):List α:=l.take p++x::l.drop p
end Tb8
namespace Tb8
open PySem PyProof.Rows
section
variable {prog:Program} {w:World} {A:Around} {E:Value->Shared->Prop} {s:Shared}
abbrev hsh (prog:Program) (w:World) (k:List Int):Int:=tupleKeyHash (intKind prog w) k
end
end Tb8
namespace Tb8
open PySem PyProof.Rows PySem.SetTable
section
variable {prog:Program} {w:World} {A:Around} {E:Value->Shared->Prop} {s:Shared}
end
end Tb8
namespace Tb8
open PySem PySem.SetTable
def own (ow:Array (Option Nat)) (j:Nat):Option Nat:=ow.getD j (some 0)
end Tb8
namespace Tb8
open PySem PyProof.Rows PySem.SetTable
section
variable {prog:Program} {w:World} {A:Around} {E:Value->Shared->Prop} {s:Shared}
end
def cnt (key:Nat->List Int):Nat->Nat
 |0=>0
 |j+1=>if ∃ i,i<j/\key i=key j then cnt key j else cnt key j+1
section
variable {prog:Program} {w:World} {A:Around} {R:Result->Shared->Prop} {I:Addr} {fp wr:List Addr} {n:Nat} {P:Nat->Value->Prop} {St:Nat->Heap->Prop}
end
section
variable {prog:Program} {w:World} {A:Around} {E:Value->Shared->Prop} {s:Shared}
end
end Tb8
namespace L3
open PySem PySem.Spec PyProof.Rows L2
section
variable {X:Cx}
end
section
variable {X:Cx} {K:Frg} {w:World} {mg:Str->Option Value}
end
section
variable {X:Cx}
end
open PySem.SeqAt
section
variable {X:Cx} {pins:List (Addr×Obj)} {σ:L2.St} {H:Hp} {s:Shared}
end
end L3
namespace HT
open PySem PySem.Spec PyProof.Rows L2
section
open PySem.SeqAt
open PySem.MeetsSeq PySem.MeetsSeq2 PySem.MeetsSeq3
end
section
variable {prog:Program} {w:World} {A:Around} {E:Value->Shared->Prop} {s:Shared}
end
end HT
namespace L3
open PySem PySem.Spec PyProof.Rows L2
section
variable {X:Cx}
end
end L3
namespace HT
open PySem PyProof.Rows
section
variable {prog:Program} {w:World} {A:Around} {R:Result->Shared->Prop} {I:Addr} {fp wr:List Addr} {n:Nat} {P:Nat->Value->Prop} {St:Nat->Heap->Prop}
end
section
variable {prog:Program} {w:World} {A:Around} {E:Value->Shared->Prop} {s:Shared}
end
end HT
namespace L3
open PySem PySem.Spec PyProof.Rows L2
section
variable {X:Cx}
end
section
variable {X:Cx}
end
section
variable {X:Cx}
end
section
variable {X:Cx} {a b:Expr} {ta tb:TE3} {pos:Pos}
def NO:R3:=λx y G q=>match x,y with
 |.str c,.str d=>c.length+d.length<=sizeLine/\q (.str (c++d)) G
 |_,_=>False
def NK {K:Frg}:W6 K NO (λx y H Q=>∃ c d:Str,x=.str c/\y=.str d/\c.length+d.length<=sizeLine/\Q (.str (c++d)) H):=λx y v u G H q Q hr rx ry h af=>by
 cases x<;>try exact h.elim
 cases y<;>try exact h.elim
 cases rx;cases ry;exact ⟨_,_,rfl,rfl,h.1,af _ G h.2 _ H (.str _) hr Kp.refl⟩
def NU (ha:jE3 X a ta) (hb:jE3 X b tb):jE3 X (.BinOp a .Add b pos) (o3 NO ta tb):=⟨qaQ TK NK ha.h hb.h⟩
end
end L3
namespace L3
open PySem PySem.Spec PyProof.Rows L2 PySem.SeqAt
section
variable {X:Cx} {a b:Expr} {ta tb:TE3} {pos:Pos}
def qcv (hu:X.A.units<cLine):OpR X (compareOp .Eq) (λx y H Q=>∃ (p:Addr) (c:Str),x=.ref p/\y=.str c/\((∃ ys,SqT X.K H p ys)\/∃ ys,SqL X.K H p ys)/\Q (.bl false) H):=by
 intro pins s σ H x y v u Q I rx ry h;obtain ⟨p,c,rfl,rfl,h,q⟩:=h;cases rx;obtain ⟨t,rfl⟩:=ry;rcases h with ⟨ys,h⟩|⟨ys,h⟩
 ·obtain ⟨its,r1,p1,_⟩:=I.tuple h;exact RcAt.tuple_str c t p1 hu X.prog X.w X.xe _ ⟨.bl false,H,I,rfl,q⟩
 ·obtain ⟨its,r1,p1,_⟩:=I.list h;exact RcAt.list_str c t p1.isList hu X.prog X.w X.xe _ ⟨.bl false,H,I,rfl,q⟩
def XQ (hu:X.A.units+64<cLine):OpR X (compareOp .Eq) (λx y H Q=>(rEq x y H Q\/qaJ X.K false x y H Q)\/∃ (p:Addr) (c:Str),x=.ref p/\y=.str c/\((∃ ys,SqT X.K H p ys)\/∃ ys,SqL X.K H p ys)/\Q (.bl false) H):=(jm hu).or (qcv (by omega))
end
def NN:R3:=λx y G q=>match x,y with
 |.tup _,.str _=>q (.bl false) G
 |.ref a,.str _=>(match G a with|some (.lst _)=>q (.bl false) G|_=>False)
 |x,y=>j0 false x y G q
def UU {K:Frg}:W6 K NN (λx y H Q=>(rEq x y H Q\/qaJ K false x y H Q)\/∃ (p:Addr) (c:Str),x=.ref p/\y=.str c/\((∃ ys,SqT K H p ys)\/∃ ys,SqL K H p ys)/\Q (.bl false) H):=λx y v u G H q Q hr rx ry h af=>by
 unfold NN at h;split at h
 ·cases rx with
  |tup hs rs=>
   cases ry;exact .inr ⟨_,_,rfl,rfl,.inl ⟨_,hs⟩,af _ G h _ H (.bl _) hr Kp.refl⟩
 ·cases rx;cases ry;split at h
  ·rename_i g;obtain ⟨vs,hv,_⟩:=hr.lst g;exact .inr ⟨_,_,rfl,rfl,.inr ⟨_,.inl (.inl hv)⟩,af _ G h _ H (.bl _) hr Kp.refl⟩
  ·exact h.elim
 ·exact .inl (zx _ _ v u G H q Q hr rx ry h af)
end L3
namespace L3
open PySem PySem.Spec PyProof.Rows L2
def qc5:Sp3:=λ_ _ _=>False
def qae {P:Program} {w:World} {K:Frg} {mg:Str->Option Value} {base:Heap} {x qual:Str} {st:Stmt} {f:Addr} {fd:FuncData} {ps:List Str} (F:Fun K x qual st f fd) (bd:zP K fd ps []) (hm:mg x=some (.ref f)):Fn3 P w K mg base 0 x qc5:=
 ⟨f,fd,ps,⟨λvs H Q E ⟨_,_,_,_,_,h,_⟩=>h.elim,λA outer s H args us vs Q E _ _ _ _ ⟨_,_,_,_,_,h,_⟩=>h.elim⟩,bd,F.kp,hm⟩
def ixT (xs:List T) (i:Int) (G:Gp) (q:Q3):ix3 (.tup xs) (.int i) G q=(match L2.atI xs i with|some z=>q z G|none=>False):=rfl
def ixR (p:Addr) (i:Int) (G:Gp) (q:Q3):ix3 (.ref p) (.int i) G q=(match jq G p with|some xs=>(match L2.atI xs i with|some z=>q z G|none=>False)|none=>False):=rfl
def WR:¬ Str.ofString "rests" = Str.ofString "skew" := by decide
def cm {i j:Int} (h1:-1000000<j) (h2:j<1000000):YO i j:=.inr ⟨by omega,by omega⟩
def R5 {stay:Gp->Prop} {g:TG3} {tif:TT3} {te:TE3} {q:Q3} (items:List T) (Pv:Nat->List T->St3->Gp->Prop) {τ:St3} {G:Gp} (h0:Pv 0 [] τ G) (hst:∀ i ys τ G,i<=items.length->Pv i ys τ G->stay G)
  (hs:∀ i x ys τ G (R:List T->St3->Gp->Prop),items[i]?=some x->Pv i ys τ G->(∀ ys' τ' G',Pv (i+1) ys' τ' G'->R ys' τ' G') ->
   g x τ G λτ2 G2=>tif τ2 G2 λk G3=>if k=true then te τ2 G3 λy G4=>ys.length<sizeLine/\R (ys++[y]) τ2 G4 else R ys τ2 G3)
  (hd:∀ ys τ G,Pv items.length ys τ G->∀ p,G p=none->q (.ref p) (gu G p (.lst ys))):WC stay g tif te q items [] τ G:=by
 have key:∀ (r:List T) (i:Nat) ys τ G,items.drop i=r->i<=items.length->Pv i ys τ G->WC stay g tif te q r ys τ G:=by
  intro r;induction r with
  |nil=>
   intro i ys τ G e hi p;have:i=items.length:=by have:=congrArg List.length e;simp at this;omega
   subst this;exact ⟨hst _ ys τ G hi p,hd ys τ G p⟩
  |cons x r ih=>
   intro i ys τ G e hi p;have hl:i<items.length:=by
    apply Classical.byContradiction;intro z;rw [List.drop_eq_nil_of_le (by omega)] at e;cases e
   have e':=List.drop_eq_getElem_cons hl;rw [e] at e';injection e' with e1 e2;exact ⟨hst i ys τ G hi p,hs i x ys τ G _ (by rw [getElem?_eq_getElem hl,e1]) p λys2 τ2 G2 p2=>ih (i+1) ys2 τ2 G2 e2.symm hl p2⟩
 exact key items 0 [] τ G (by simp) (Nat.zero_le _) h0
def R4 {stay:Gp->Prop} {g:TG3} {te:TE3} {q:Q3} {G:Gp} (f:T->T) (Ok:St3->Prop) (hst:stay G):∀ (items ys:List T) (τ:St3),Ok τ ->
  (∀ x∈items,∀ τ,Ok τ->∀ R:St3->T->Gp->Prop,(∀ τ',Ok τ'->R τ' (f x) G)->g x τ G λτ2 G2=>te τ2 G2 λy G4=>R τ2 y G4) ->
  ys.length+items.length<sizeLine->(∀ p,G p=none->q (.ref p) (gu G p (.lst (ys++items.map f))))->WC stay g tt3 te q items ys τ G
 |[],ys,τ,_,_,_,h=>⟨hst,by simpa using h⟩
 |x::r,ys,τ,ok,step,len,h=>by
  refine ⟨hst,?_⟩;have e:(λτ2 G2=>tt3 τ2 G2 λk G3=>if k=true then te τ2 G3 λy G4=>ys.length<sizeLine/\WC stay g tt3 te q r (ys++[y]) τ2 G4 else WC stay g tt3 te q r ys τ2 G3)=(λτ2 G2=>te τ2 G2 λy G4=>ys.length<sizeLine/\WC stay g tt3 te q r (ys++[y]) τ2 G4):=by
   funext τ2 G2;simp [tt3]
  rw [e];rw [length_cons] at len;refine step x List.mem_cons_self τ ok _ λτ' ok'=>⟨by omega,R4 f Ok hst r (ys++[f x]) τ' ok' (λz hz=>step z (List.mem_cons_of_mem _ hz)) (by rw [length_append,List.length_singleton];omega) λp hp=>?_⟩
  simpa using h p hp
def MT {lo:Int} {n i:Nat} {x:T} (h:(R9 lo n)[i]?=some x):i<n/\x=T.int (lo+(i:Int)):=by
 unfold R9 at h;rw [getElem?_map] at h;cases e:(List.range n)[i]? with
 |none=>rw [e] at h;cases h
 |some k=>
  rw [e] at h;obtain ⟨hi,hk⟩:=List.getElem?_eq_some_iff.mp e;simp at hi hk;subst hk;exact ⟨hi,by simpa using h.symm⟩
def ZZ (lo:Int) (n:Nat):(R9 lo n).length=n:=by simp [R9]
end L3
namespace Bk
open PySem L2 L3
def ZC:TS3:=(zn (JZ (RD (λt=>ZO t "int") (v3 0)) (WO (RD (λt=>ZO t "bool") (v3 0)))))
def YS:TS3:=(qG (qV (o3 (iC (λ_ j=>0<j) (·%·)) (o3 (iC YO (·*·)) (o3 zN (o3 zN (o3 (iC (λ_ j=>0<j) (·%·)) (v3 0) (c3 (.int 2147483629))) (o3 (iC YO (·*·)) (o3 (iC YO (·*·)) (v3 1) (v3 1)) (c3 (.int 7919)))) (c3 (.int 11))) (c3 (.int 48271))) (c3 (.int 2147483647))) (gn3 2)) (zn (o3 (iC (λ_ j=>0<j) (·%·)) (o3 (iC YO (·*·)) (v3 2) (v3 2)) (c3 (.int 1999999973)))))
def JW:TS3:=(qG (qV (if3 (tb3 (o3 (iB λi j=>decide (i<j)) (v3 1) (cb3 V9 (qb (v3 0) qi)))) (o3 ix3 (v3 0) (v3 1)) (c3 (.int 0))) (gn3 2)) (qG (qV (if3 (tb3 (o3 (iB λi j=>decide (j<=i)) (cb3 MW (qb (v3 2) qi)) (o3 (iC XZ (λi j=>i ^ j.toNat)) (c3 (.int 10)) (c3 (.int 18))))) (cb3 MW (qb (v3 2) qi)) (c3 (.int 0))) (gn3 3)) (zn (jR (qb (v3 3) (qb (o3 zN (v3 2) (o3 (iC YO (·*·)) (c3 (.int 1000003)) (v3 1))) (qb (c3 (.int 0)) qi)))))))
def JR (S_law_mix:Sp3):TS3:=(qG (qV (o3 zN (o3 ix3 (v3 0) (c3 (.int 2))) (c3 (.int 1))) (VH (v3 0) (c3 (.int 2)))) (qG (z9 (tb3 (o3 (iB λi j=>decide (j<i)) (o3 ix3 (v3 0) (c3 (.int 0))) (c3 (.int 0)))) (qG (qV (o3 (iC (λ_ j=>0<j) (·%·)) (o3 ix3 (v3 0) (c3 (.int 0))) (v3 1)) (gn3 2)) (qG (qV (o3 (iC KC (·/·)) (o3 ix3 (v3 0) (c3 (.int 0))) (v3 1)) (VH (v3 0) (c3 (.int 0)))) (zn (v3 2)))) qU) (zn (o3 (iC (λ_ j=>0<j) (·%·)) (o3 (iC KC (·/·)) (cb3 S_law_mix (qb (cb3 S_law_mix (qb (o3 ix3 (v3 0) (c3 (.int 1))) (qb (o3 ix3 (v3 0) (c3 (.int 2))) qi))) (qb (o3 zN (o3 ix3 (v3 0) (c3 (.int 2))) (c3 (.int 64))) qi))) (c3 (.int 64))) (v3 1)))))
def ZE (S_law_pick:Sp3):TS3:=(qG (qV (o3 ix3 (jR (qb (c3 (.int 6)) (qb (c3 (.int 6)) (qb (c3 (.int 6)) (qb (c3 (.int 16)) qi))))) (cb3 S_law_pick (qb (v3 0) (qb (c3 (.int 4)) qi)))) (gn3 1)) (qG (WJ 2 3 (qb (o3 zN (c3 (.int 1)) (cb3 S_law_pick (qb (v3 0) (qb (v3 1) qi)))) (qb (o3 zN (c3 (.int 1)) (cb3 S_law_pick (qb (v3 0) (qb (v3 1) qi)))) qi))) (zn (o3 ix3 (jR (qb (qH (qb (v3 2) (qb (v3 3) qi))) (qb (qH (qb (v3 2) (qb (v3 3) qi))) (qb (qH (qb (v3 2) (qb (v3 3) qi))) (qb (qH (qb (v3 2) (qb (v3 2) qi))) qi))))) (cb3 S_law_pick (qb (v3 0) (qb (c3 (.int 4)) qi)))))))
def YR:TS3:=(qG (DK (tb3 (o3 (iB λi j=>decide (j<i)) (v3 1) (c3 (.int 0)))) (WJ 0 1 (qb (v3 1) (qb (o3 (iC (λ_ j=>0<j) (·%·)) (v3 0) (v3 1)) qi)))) (zn (v3 0)))
def JT (S_law_sides:Sp3) (S_law_pick:Sp3):TS3:=(qG (qV (cb3 S_law_sides (qb (v3 0) qi)) (ZT 2 (zh (gn3 1) (zh (gn3 2) ZW)))) (qG (qV (o3 zN (c3 (.int 1)) (cb3 S_law_pick (qb (v3 0) (qb (o3 ix3 (jR (qb (c3 (.int 8)) (qb (c3 (.int 8)) (qb (c3 (.int 17)) (qb (c3 (.int 32)) qi))))) (cb3 S_law_pick (qb (v3 0) (qb (c3 (.int 4)) qi)))) qi)))) (gn3 3)) (qG (qV (o3 ix3 (jR (qb (v3 3) (qb (c3 (.int 10)) (qb (c3 (.int 100)) qi)))) (cb3 S_law_pick (qb (v3 0) (qb (c3 (.int 3)) qi)))) (gn3 4)) (zn (qH (qb (c3 (.str "skew")) (qb (v3 1) (qb (v3 2) (qb (v3 3) (qb (cb3 S_law_pick (qb (v3 0) (qb (v3 4) qi))) (qb (cb3 S_law_pick (qb (v3 0) (qb (v3 4) qi))) qi)))))))))))
def ZJ (S_law_sides:Sp3) (S_law_pick:Sp3) (S_law_gcd:Sp3):TS3:=(qG (qV (cb3 S_law_sides (qb (v3 0) qi)) (ZT 2 (zh (gn3 1) (zh (gn3 2) ZW)))) (qG (qV (o3 zN (c3 (.int 1)) (cb3 S_law_pick (qb (v3 0) (qb (o3 ix3 (jR (qb (c3 (.int 8)) (qb (c3 (.int 17)) (qb (c3 (.int 32)) qi)))) (cb3 S_law_pick (qb (v3 0) (qb (c3 (.int 3)) qi)))) qi)))) (gn3 3)) (qG (qV (o3 zN (u3 UP (o3 (iC KC (·/·)) (o3 (iC YO (·*·)) (u3 UP (v3 1)) (v3 2)) (v3 3))) (cb3 S_law_pick (qb (v3 0) (qb (c3 (.int 4)) qi)))) (gn3 4)) (qG (W4 (QA (qb (c3 (.int 32)) qi)) (gn3 5) (z9 (tb3 (o3 (iB λi j=>decide (j<i)) (cb3 S_law_gcd (qb (v3 3) (qb (v3 4) qi))) (c3 (.int 1)))) (qV (o3 zN (v3 4) (c3 (.int 1))) (gn3 4)) qU)) (zn (qH (qb (c3 (.str "rests")) (qb (v3 1) (qb (v3 2) (qb (v3 3) (qb (v3 4) qi)))))))))))
def JS (S_law_pick:Sp3):TS3:=(qG (WJ 2 3 (qb (cb3 S_law_pick (qb (v3 0) (qb (o3 zN (v3 1) (c3 (.int 1))) qi))) (qb (cb3 S_law_pick (qb (v3 0) (qb (o3 zN (v3 1) (c3 (.int 1))) qi))) qi))) (qG (qV (lc3 (QA (qb (cb3 S_law_pick (qb (v3 0) (qb (c3 (.int 6)) qi))) qi)) (gn3 0) tt3 (cb3 S_law_pick (qb (v3 1) (qb (c3 (.int 256)) qi))) [none,some 0]) (gn3 4)) (qG (qV (o3 ix3 (jR (qb (c3 (.int 1)) (qb (c3 (.int 2)) (qb (c3 (.int 4)) (qb (c3 (.int 8)) (qb (c3 (.int 16)) (qb (c3 (.int 32)) (qb (c3 (.int 64)) (qb (c3 (.int 128)) (qb (c3 (.int 256)) qi)))))))))) (o3 zN (v3 2) (v3 3))) (gn3 5)) (zn (qH (qb (c3 (.str "bits")) (qb (v3 2) (qb (v3 3) (qb (cb3 jc (qb (lc3 (ZV (v3 4)) (gn3 0) tt3 (o3 (iC (λ_ j=>0<j) (·%·)) (v3 0) (v3 1)) [none,some 5]) qi)) qi)))))))))
def ZP (S_law_sides:Sp3) (S_law_pick:Sp3):TS3:=(qG (qV (cb3 S_law_sides (qb (v3 0) qi)) (ZT 2 (zh (gn3 1) (zh (gn3 2) ZW)))) (qG (qV (o3 zN (c3 (.int 1)) (cb3 S_law_pick (qb (v3 0) (qb (o3 ix3 (jR (qb (c3 (.int 4)) (qb (c3 (.int 9)) (qb (c3 (.int 32)) qi)))) (cb3 S_law_pick (qb (v3 0) (qb (c3 (.int 3)) qi)))) qi)))) (gn3 3)) (qG (qV (lc3 (QA (qb (v3 1) qi)) (gn3 0) tt3 (cb3 jc (qb (lc3 (QA (qb (v3 3) qi)) (gn3 0) tt3 (cb3 S_law_pick (qb (v3 1) (qb (v3 2) qi))) [none,some 1,some 2]) qi)) [none,some 0,some 3,some 2]) (gn3 4)) (zn (qH (qb (c3 (.str "table")) (qb (v3 3) (qb (cb3 jc (qb (v3 4) qi)) qi))))))))
def ZD (S_law_pick:Sp3) (S_law_gcd:Sp3):TS3:=(qG (qV (qH (qb (o3 zN (c3 (.int 1)) (cb3 S_law_pick (qb (v3 0) (qb (c3 (.int 4)) qi)))) (qb (o3 zN (c3 (.int 1)) (cb3 S_law_pick (qb (v3 0) (qb (c3 (.int 4)) qi)))) (qb (o3 zN (c3 (.int 1)) (cb3 S_law_pick (qb (v3 0) (qb (c3 (.int 5)) qi)))) qi)))) (ZT 3 (zh (gn3 1) (zh (gn3 2) (zh (gn3 3) ZW))))) (qG (qV (cb3 S_law_pick (qb (v3 0) (qb (c3 (.int 4)) qi))) (gn3 4)) (qG (z9 (tb3 (o3 (j0 false) (v3 4) (c3 (.int 0)))) (zn (qH (qb (c3 (.str "skew")) (qb (v3 1) (qb (v3 2) (qb (v3 3) (qb (cb3 S_law_pick (qb (v3 0) (qb (v3 3) qi))) (qb (cb3 S_law_pick (qb (v3 0) (qb (c3 (.int 9)) qi))) qi)))))))) qU) (qG (z9 (tb3 (o3 (j0 false) (v3 4) (c3 (.int 1)))) (qG (WJ 5 6 (qb (cb3 S_law_pick (qb (v3 0) (qb (c3 (.int 3)) qi))) (qb (cb3 S_law_pick (qb (v3 0) (qb (c3 (.int 3)) qi))) qi))) (qG (qV (lc3 (QA (qb (cb3 S_law_pick (qb (v3 0) (qb (c3 (.int 3)) qi))) qi)) (gn3 0) tt3 (cb3 S_law_pick (qb (v3 1) (qb (c3 (.int 16)) qi))) [none,some 0]) (gn3 7)) (qG (qV (o3 ix3 (jR (qb (c3 (.int 1)) (qb (c3 (.int 2)) (qb (c3 (.int 4)) (qb (c3 (.int 8)) (qb (c3 (.int 16)) qi)))))) (o3 zN (v3 5) (v3 6))) (gn3 8)) (zn (qH (qb (c3 (.str "bits")) (qb (v3 5) (qb (v3 6) (qb (cb3 jc (qb (lc3 (ZV (v3 7)) (gn3 0) tt3 (o3 (iC (λ_ j=>0<j) (·%·)) (v3 0) (v3 1)) [none,some 8]) qi)) qi))))))))) qU) (qG (z9 (tb3 (o3 (j0 false) (v3 4) (c3 (.int 2)))) (qG (qV (o3 zN (u3 UP (o3 (iC KC (·/·)) (o3 (iC YO (·*·)) (u3 UP (v3 1)) (v3 2)) (v3 3))) (cb3 S_law_pick (qb (v3 0) (qb (c3 (.int 3)) qi)))) (gn3 9)) (qG (W4 (QA (qb (c3 (.int 9)) qi)) (gn3 10) (z9 (tb3 (o3 (iB λi j=>decide (j<i)) (cb3 S_law_gcd (qb (v3 3) (qb (v3 9) qi))) (c3 (.int 1)))) (qV (o3 zN (v3 9) (c3 (.int 1))) (gn3 9)) qU)) (zn (qH (qb (c3 (.str "rests")) (qb (v3 1) (qb (v3 2) (qb (v3 3) (qb (v3 9) qi))))))))) qU) (qG (qV (lc3 (QA (qb (v3 1) qi)) (gn3 0) tt3 (cb3 jc (qb (lc3 (QA (qb (v3 3) qi)) (gn3 0) tt3 (cb3 S_law_pick (qb (v3 1) (qb (v3 2) qi))) [none,some 1,some 2]) qi)) [none,some 0,some 3,some 2]) (gn3 11)) (zn (qH (qb (c3 (.str "table")) (qb (v3 3) (qb (cb3 jc (qb (v3 11) qi)) qi)))))))))))
def jZ (S_law_pick:Sp3) (S_law_skew:Sp3) (S_law_rests:Sp3) (S_law_bits:Sp3) (S_law_table:Sp3) (S_law_small:Sp3):TS3:=(qG (qV (cb3 S_law_pick (qb (v3 0) (qb (c3 (.int 8)) qi))) (gn3 1)) (qG (z9 (tb3 (o3 (iB λi j=>decide (i<j)) (v3 1) (c3 (.int 2)))) (zn (cb3 S_law_skew (qb (v3 0) qi))) qU) (qG (z9 (tb3 (o3 (j0 false) (v3 1) (c3 (.int 2)))) (zn (cb3 S_law_rests (qb (v3 0) qi))) qU) (qG (z9 (tb3 (o3 (j0 false) (v3 1) (c3 (.int 3)))) (zn (cb3 S_law_bits (qb (v3 0) (qb (c3 (.int 4)) qi)))) qU) (qG (z9 (tb3 (o3 (j0 false) (v3 1) (c3 (.int 4)))) (zn (cb3 S_law_table (qb (v3 0) qi))) qU) (qG (z9 (tb3 (o3 (j0 false) (v3 1) (c3 (.int 5)))) (qG (qV (qH (qb (c3 (.str "joined")) (qb (qH (qb (c3 (.str "skew")) (qb (o3 zN (c3 (.int 1)) (cb3 S_law_pick (qb (v3 0) (qb (c3 (.int 2)) qi)))) (qb (c3 (.int 1)) (qb (c3 (.int 2)) (qb (c3 (.int 1)) (qb (c3 (.int 1)) qi))))))) (qb (qH (qb (c3 (.str "table")) (qb (c3 (.int 2)) (qb (qH (qb (qH (qb (c3 (.int 1)) (qb (c3 (.int 0)) qi))) qi)) qi)))) qi)))) (gn3 2)) (qG (qV (jR (qb (qH (qb (c3 (.str "joined")) (qb (v3 2) (qb (cb3 S_law_small (qb (v3 0) qi)) qi)))) (qb (qH (qb (c3 (.str "joined")) (qb (cb3 S_law_small (qb (v3 0) qi)) (qb (v3 2) qi)))) qi))) (gn3 3)) (qG (QI (bm3 UB (v3 3) (qb (qH (qb (c3 (.str "joined")) (qb (qH (qb (c3 (.str "skew")) (qb (c3 (.int 8)) (qb (c3 (.int 1)) (qb (c3 (.int 3)) (qb (c3 (.int 1)) (qb (c3 (.int 1)) qi))))))) (qb (qH (qb (c3 (.str "rests")) (qb (c3 (.int 2)) (qb (c3 (.int 16)) (qb (c3 (.int 5)) (qb (c3 (.int 7)) qi)))))) qi)))) qi))) (qG (QI (bm3 UB (v3 3) (qb (qH (qb (c3 (.str "joined")) (qb (qH (qb (c3 (.str "rests")) (qb (c3 (.int 1)) (qb (c3 (.int 8)) (qb (c3 (.int 3)) (qb (c3 (.int 4)) qi)))))) (qb (qH (qb (c3 (.str "skew")) (qb (c3 (.int 16)) (qb (c3 (.int 2)) (qb (c3 (.int 5)) (qb (c3 (.int 2)) (qb (c3 (.int 1)) qi))))))) qi)))) qi))) (zn (o3 ix3 (v3 3) (cb3 S_law_pick (qb (v3 0) (qb (c3 (.int 4)) qi))))))))) qU) (zn (qH (qb (c3 (.str "joined")) (qb (cb3 S_law_small (qb (v3 0) qi)) (qb (cb3 S_law_small (qb (v3 0) qi)) qi)))))))))))
inductive Dl where
 |skew (r c b x y:Int)
 |rests (r c b p:Int)
 |bits (h l:Nat) (ms:List Int)
 |table (b:Int) (cells:List (List Int))
 |joined (d e:Dl)
def qeJ (r:List Int):T:=.tup (r.map T.int)
def Dl.t:Dl->T
 |.skew r c b x y=>.tup [.str "skew",.int r,.int c,.int b,.int x,.int y]
 |.rests r c b p=>.tup [.str "rests",.int r,.int c,.int b,.int p]
 |.bits h l ms=>.tup [.str "bits",.int h,.int l,.tup (ms.map T.int)]
 |.table b cells=>.tup [.str "table",.int b,.tup (cells.map qeJ)]
 |.joined d e=>.tup [.str "joined",d.t,e.t]
def Dl.R:Dl->Int
 |.skew r _ _ _ _=>r
 |.rests r _ _ _=>r
 |.bits h _ _=>2 ^ h
 |.table _ cells=>cells.length
 |.joined d e=>d.R*e.R
def Dl.C:Dl->Int
 |.skew _ c _ _ _=>c
 |.rests _ c _ _=>c
 |.bits _ l _=>2 ^ l
 |.table _ cells=>((cells[0]?).getD []).length
 |.joined d e=>d.C*e.C
def Dl.B:Dl->Int
 |.skew _ _ b _ _=>b
 |.rests _ _ b _=>b
 |.bits _ _ ms=>2 ^ ms.length
 |.table b _=>b
 |.joined d e=>d.B*e.B
def Dl.Ok:Dl->Prop
 |.skew r c b x y=>1<=r/\r<=60/\1<=c/\c<=60/\1<=b/\b<=1000/\0<=x/\x<=1000/\0<=y/\y<=1000
 |.rests r c b p=>1<=r/\r<=60/\1<=c/\c<=60/\1<=b/\b<=1000/\1<=p/\p<=100000/\Int.gcd b p=1/\r*c<=b*p
 |.bits h l ms=>h<=4/\l<=4/\ms.length<=5/\∀ m∈ms,0<=m/\m<2 ^ (h+l)
 |.table b cells=>1<=b/\b<=1000/\1<=cells.length/\cells.length<=60/\∃ c,1<=c/\c<=60/\∀ row∈cells,row.length=c/\∀ x∈row,0<=x/\x<b
 |.joined d e=>d.Ok/\e.Ok/\d.R*e.R<=4096/\d.C*e.C<=4096/\d.B*e.B<=4096
def Dl.dep:Dl->Nat
 |.joined d e=>max d.dep e.dep+1
 |_=>0
def p2 (n:Nat):((2:Int) ^ n)=((2 ^ n:Nat):Int):=by simp
def X2 (n:Nat):(1:Int)<=2 ^ n:=by
 rw [p2];have:=Nat.one_le_two_pow (n:=n);omega
def WM {n k:Nat} (h:n<=k):(2:Int) ^ n<=2 ^ k:=by
 rw [p2,p2];have:=Nat.pow_le_pow_right (n:=2) (by omega) h;omega
structure Lims (d:Dl):Prop where
 r1:1<=d.R
 r2:d.R<=4096
 c1:1<=d.C
 c2:d.C<=4096
 b1:1<=d.B
 b2:d.B<=4096
def JO {a b:Int} (h1:1<=a) (h2:1<=b):1<=a*b:=by
 have:=Int.mul_le_mul (a:=1) (b:=1) (c:=a) (d:=b) h1 h2 (by omega) (by omega);omega
def Dl.lims:∀ {d:Dl},d.Ok->Lims d
 |.skew r c b x y,⟨h1,h2,h3,h4,h5,h6,_⟩=>⟨h1,by simp [Dl.R];omega,h3,by simp [Dl.C];omega,h5,by simp [Dl.B];omega⟩
 |.rests r c b x,⟨h1,h2,h3,h4,h5,h6,_⟩=>⟨h1,by simp [Dl.R];omega,h3,by simp [Dl.C];omega,h5,by simp [Dl.B];omega⟩
 |.bits h l ms,⟨h1,h2,h3,_⟩=>by
  have e1:=WM h1;have e2:=WM h2;have e3:=WM h3;refine ⟨X2 _,?_,X2 _,?_,X2 _,?_⟩<;>simp [Dl.R,Dl.C,Dl.B]<;>omega
 |.table b cells,⟨h1,h2,h3,h4,c,h5,h6,h7⟩=>by
  have e0:cells[0]?=some cells[0]:=getElem?_eq_getElem (by omega);have e1:=(h7 cells[0] (List.getElem_mem _)).1;have e2:(Dl.table b cells).C=c:=by simp [Dl.C,e0,e1]
  exact ⟨by simp [Dl.R];omega,by simp [Dl.R];omega,by rw [e2];omega,by rw [e2];omega,h1,by simp [Dl.B];omega⟩
 |.joined d e,⟨h1,h2,h3,h4,h5⟩=>by
  have a:=Dl.lims h1;have b:=Dl.lims h2;exact ⟨JO a.r1 b.r1,h3,JO a.c1 b.c1,h4,JO a.b1 b.b1,h5⟩
abbrev MK (q:Q3):Ends3:={ nx:=λ_ G'=>q .non G',rt:=q }
def QV {A B:TS3} {d:Ends3} {τ:St3} {G:Gp} (h:∀ nx,nx=B d->A { d with nx:=nx } τ G):qG A B d τ G:=h _ rfl
def Lf (G:Gp) (a:Addr) (n:Int):Prop:=∃ o c m,G a=some (.lst [.int o,.int c,.int m])/\0<=o/\0<=m/\m<=n
def Ext (a:Addr) (G G':Gp):Prop:=∀ b o,b≠a->G b=some o->G' b=some o
def Lf.ne {G:Gp} {a p:Addr} {n:Int} (h:Lf G a n) (hp:G p=none):p≠a:=by
 rintro rfl;obtain ⟨o,c,m,e,_⟩:=h;rw [hp] at e;cases e
def Lf.new {G:Gp} {a p:Addr} {n:Int} {ob:O} (h:Lf G a n) (hp:p≠a):Lf (gu G p ob) a n:=by
 obtain ⟨o,c,m,e,r⟩:=h;exact ⟨o,c,m,by rw [jT (Ne.symm hp)];exact e,r⟩
def Lf.mono {G:Gp} {a:Addr} {n k:Int} (h:Lf G a n) (hk:n<=k):Lf G a k:=by
 obtain ⟨o,c,m,e,h1,h2,h3⟩:=h;exact ⟨o,c,m,e,h1,h2,by omega⟩
def Lf.ex {G G':Gp} {a:Addr} {n:Int} (h:Lf G a n) (e:Ex G G'):Lf G' a n:=by
 obtain ⟨o,c,m,e1,h1⟩:=h;exact ⟨o,c,m,e _ _ e1,h1⟩
def Ext.refl {a:Addr} {G:Gp}:Ext a G G:=λ_ _ _ e=>e
def Ext.trans {a:Addr} {G G1 G2:Gp} (x:Ext a G G1) (y:Ext a G1 G2):Ext a G G2:=λb o hb e=>y b o hb (x b o hb e)
def z5 {a p:Addr} {G:Gp} {ob:O} (hp:G p=none):Ext a G (gu G p ob):=λb o _ e=>by
 rw [jT (by rintro rfl;rw [hp] at e;cases e)];exact e
def DO {a:Addr} {G G':Gp} (h:Ex G G'):Ext a G G':=λb o _ e=>h b o e
def DY:Sp3:=λts G q=>∃ c k,ts=[.int c,.int k]/\0<=k/\k<4294967296/\∀ m,0<=m->m<1999999973->q (.int m) G
def ZF:Sp3:=λts G q=>∃ (a:Addr) (k:Int) (ns:List Int),ts=[.ref a,.int k]/\G a=some (.frz (ns.map T.int))/\ns.length<=63/\0<=k/\k<=63/\∀ p o c,G p=none->0<=o->q (.ref p) (gu G p (.lst [.int o,.int c,.int 0]))
def qw:Sp3:=λts G q=>∃ a n many,ts=[.ref a,.int many]/\1<=many/\many<1073741824/\Lf G a n/\n<1073741824/\∀ d G',0<=d->d<many->Lf G' a (n+1)->Ext a G G'->q (.int d) G'
def QQ:Sp3:=λts G q=>∃ a n,ts=[.ref a]/\Lf G a n/\n<100000000/\∀ r c G',1<=r->r<=16->1<=c->c<=16->Lf G' a (n+4)->Ext a G G'->q (.tup [.int r,.int c]) G'
def V0:Sp3:=λts G q=>∃ x y:Int,ts=[.int x,.int y]/\0<=x/\0<=y/\q (.int (Int.gcd x y:Nat)) G
structure Dr (d:Dl) (r c b:Int):Prop where
 ok:d.Ok
 r2:d.R<=r
 c2:d.C<=c
 b2:d.B<=b
def UY:Sp3:=λts G q=>∃ a n,ts=[.ref a]/\Lf G a n/\n<10000000/\∀ r c b x y G',Dr (.skew r c b x y) 16 16 32->Lf G' a (n+10)->Ext a G G'->q (Dl.skew r c b x y).t G'
def V8:Sp3:=λts G q=>∃ a n,ts=[.ref a]/\Lf G a n/\n<10000000/\∀ r c b p G',Dr (.rests r c b p) 16 16 32->Lf G' a (n+10)->Ext a G G'->q (Dl.rests r c b p).t G'
def ze {a:Addr} {n many:Int} {G:Gp} {q:Q3} (hL:Lf G a n) (h1:1<=many) (h2:many<1073741824) (hn:n<1073741824) (h:∀ d G',0<=d->d<many->Lf G' a (n+1)->Ext a G G'->q (.int d) G'):qw [.ref a,.int many] G q:=⟨a,n,many,rfl,h1,h2,hL,hn,h⟩
def SZ:∀ ts G q,DY ts G q->ts.length=2/\YS (MK q) (qs ["_law_cell","_law_k","_law_m"] ts) G:=by
 rintro ts G q ⟨c,k,rfl,h1,h2,h⟩;refine ⟨rfl,?_⟩;simp only [YS,qG,qV,o3,v3,qs,map_cons,List.map_nil,length_cons,length_nil,Nat.zero_add,Nat.reduceAdd,Nat.reduceSub,List.replicate_one,cons_append,List.nil_append,Nat.zero_lt_succ,getElem?_pos,getElem_cons_zero,c3,iC,Int.reduceLT,Nat.reduceLT,getElem_cons_succ,zN,gn3,zn,set_cons_succ,set_cons_zero,Nat.lt_add_one,true_and];exact ⟨.inl ⟨by omega,by omega⟩,cm (by omega) (by omega),cm (by omega) (by omega),.inl ⟨by omega,by omega⟩,h _ (Int.emod_nonneg _ (by omega)) (Int.emod_lt_of_pos _ (by omega))⟩
def cp:XZ 10 18:=⟨by decide,by decide,by decide⟩
def RO:∀ ts G q,ZF ts G q->ts.length=2/\JW (MK q) (qs ["_law_script","_law_k","_law_cell","_law_own"] ts) G:=by
 rintro ts G q ⟨a,k,ns,rfl,hG,hl,h1,h2,h⟩;refine ⟨rfl,?_⟩;simp only [JW,qG,qV,if3,tb3,o3,v3,qs,map_cons,List.map_nil,length_cons,length_nil,Nat.zero_add,Nat.reduceAdd,Nat.reduceSub,List.reduceReplicate,cons_append,List.nil_append,Nat.reduceLT,getElem?_pos,getElem_cons_succ,getElem_cons_zero,cb3,qb,Nat.zero_lt_succ,qi,V9,jq,hG,iB,length_map,decide_eq_true_eq,gn3,set_cons_succ,set_cons_zero,MW,c3,iC,Int.reduceToNat,Int.reducePow,zn,jR,Nat.lt_add_one,zN,ne_eq,sizeLine_eq,Nat.reduceLeDiff,true_and,gu,ixR,atI,ixN,getElem?_map,Int.lt_irrefl,↓reduceIte,Int.reduceLE,decide_false,Bool.false_eq_true,Int.zero_add];have ck:YO 1000003 k:=cm (by omega) (by omega);by_cases hk:k<ns.length
 ·have hk':k.toNat<ns.length:=by omega
  simp [hk,h1,hk',cp,ck];split
  ·split
   ·exact λp hp=>h p (-ns[k.toNat]) _ hp (by omega)
   ·exact λp hp=>h p 0 _ hp (by omega)
  ·split
   ·exact λp hp=>h p ns[k.toNat] _ hp (by omega)
   ·exact λp hp=>h p 0 _ hp (by omega)
 ·simp [hk,cp,ck];exact λp hp=>h p 0 _ hp (by omega)
def RP:∀ ts G q,qw ts G q->ts.length=2/\JR DY (MK q) (qs ["_law_left_here","_law_many","_law_digit"] ts) G:=by
 rintro ts G q ⟨a,n,many,rfl,m1,m2,⟨o,c,m,hG,ho,hm,hn⟩,h3,h⟩;refine ⟨rfl,?_⟩;unfold JR;refine QV λnx1 q1=>?_;simp only [qV,o3,v3,qs,map_cons,List.map_nil,length_cons,length_nil,Nat.zero_add,Nat.reduceAdd,Nat.reduceSub,List.replicate_one,cons_append,List.nil_append,Nat.zero_lt_succ,getElem?_pos,getElem_cons_zero,c3,zN,ne_eq,sizeLine_eq,VH,TX,ixN,Int.zero_le_ofNat,↓reduceIte,Int.reduceToNat,tb3,iB,decide_eq_true_eq,Nat.reduceLT,getElem_cons_succ,iC,gn3,set_cons_succ,set_cons_zero,Std.le_refl,Int.natCast_pos,Int.toNat_zero,zn,Nat.lt_add_one,ixR,jq,atI,qU,cb3,qb,qi,Int.toNat_one,List.length_set,hG,Int.cast_ofNat_Int,Int.reduceLT,Option.bind_some,qE];rw [q1];clear q1;refine QV λnx2 q2=>?_;simp only [z9,qV,o3,v3,qs,map_cons,List.map_nil,length_cons,length_nil,Nat.zero_add,Nat.reduceAdd,Nat.reduceSub,List.replicate_one,cons_append,List.nil_append,Nat.zero_lt_succ,getElem?_pos,getElem_cons_zero,c3,zN,ne_eq,sizeLine_eq,VH,TX,ixN,Int.zero_le_ofNat,↓reduceIte,Int.reduceToNat,tb3,iB,decide_eq_true_eq,Nat.reduceLT,getElem_cons_succ,iC,gn3,set_cons_succ,set_cons_zero,Std.le_refl,Int.natCast_pos,Int.toNat_zero,zn,Nat.lt_add_one,ixR,jq,atI,qU,cb3,qb,qi,Int.toNat_one,List.length_set,hG,Int.cast_ofNat_Int,Int.reduceLT,Option.bind_some,qE];split
 ·simp only [qG,qV,o3,v3,length_cons,length_nil,Nat.zero_add,Nat.reduceAdd,Nat.zero_lt_succ,getElem?_pos,getElem_cons_zero,c3,Nat.reduceLT,getElem_cons_succ,iC,gn3,set_cons_succ,set_cons_zero,VH,TX,ixN,Std.le_refl,↓reduceIte,Int.natCast_pos,Int.toNat_zero,zn,Nat.lt_add_one,ixR,jq,atI,qE,Int.cast_ofNat_Int,Int.reduceLT,Option.bind_some];refine ⟨by omega,⟨by omega,m2⟩,h _ _ (Int.emod_nonneg _ (by omega)) (Int.emod_lt_of_pos _ (by omega)) ⟨o/many,c,m+1,qE,Int.ediv_nonneg ho (by omega),by omega,by omega⟩ λb ob hb e=>?_⟩;rw [jT hb,jT hb];exact e
 ·rw [q2];clear q2;simp only [qV,o3,v3,qs,map_cons,List.map_nil,length_cons,length_nil,Nat.zero_add,Nat.reduceAdd,Nat.reduceSub,List.replicate_one,cons_append,List.nil_append,Nat.zero_lt_succ,getElem?_pos,getElem_cons_zero,c3,zN,ne_eq,sizeLine_eq,VH,TX,ixN,Int.zero_le_ofNat,↓reduceIte,Int.reduceToNat,tb3,iB,decide_eq_true_eq,Nat.reduceLT,getElem_cons_succ,iC,gn3,set_cons_succ,set_cons_zero,Std.le_refl,Int.natCast_pos,Int.toNat_zero,zn,Nat.lt_add_one,ixR,jq,atI,qU,cb3,qb,qi,Int.toNat_one,List.length_set,hG,Int.cast_ofNat_Int,Int.reduceLT,Option.bind_some,qE];refine ⟨c,m+1,rfl,by omega,by omega,λu u1 u2=>?_⟩;simp only [qV,o3,v3,qs,map_cons,List.map_nil,length_cons,length_nil,Nat.zero_add,Nat.reduceAdd,Nat.reduceSub,List.replicate_one,cons_append,List.nil_append,Nat.zero_lt_succ,getElem?_pos,getElem_cons_zero,c3,zN,ne_eq,sizeLine_eq,VH,TX,ixN,Int.zero_le_ofNat,↓reduceIte,Int.reduceToNat,tb3,iB,decide_eq_true_eq,Nat.reduceLT,getElem_cons_succ,iC,gn3,set_cons_succ,set_cons_zero,Std.le_refl,Int.natCast_pos,Int.toNat_zero,zn,Nat.lt_add_one,ixR,jq,atI,qU,cb3,qb,qi,Int.toNat_one,List.length_set,hG,Int.cast_ofNat_Int,Int.reduceLT,Option.bind_some,qE];refine ⟨u,m+1+64,rfl,by omega,by omega,λv v1 v2=>?_⟩;refine ⟨⟨by omega,by omega⟩,by omega,h _ _ (Int.emod_nonneg _ (by omega)) (Int.emod_lt_of_pos _ (by omega)) ⟨o,c,m+1,qE,ho,by omega,by omega⟩ λb ob hb e=>?_⟩;rw [jT hb];exact e
def NS {x y:Int} (hy:0<y):Int.gcd y (x%y)=Int.gcd x y:=by
 rw [Int.emod_def,Int.gcd_comm x y];simp
def TJ:∀ ts G q,V0 ts G q->ts.length=2/\YR (MK q) (qs ["_law_one","_law_other"] ts) G:=by
 rintro ts G q ⟨x,y,rfl,hx,hy,h⟩;refine ⟨rfl,?_⟩;simp only [YR,qG,DK,qs,map_cons,List.map_nil,length_cons,length_nil,Nat.zero_add,Nat.reduceAdd,Nat.sub_self,List.replicate_zero,List.append_nil,tb3,o3,v3,c3,iB,decide_eq_true_eq,WJ,qb,iC,qi,zn];refine ⟨λn τ G'=>G'=G/\∃ u v:Int,τ=[some (.int u),some (.int v)]/\n=v.toNat/\0<=u/\0<=v/\Int.gcd u v=Int.gcd x y,⟨_,rfl,x,y,rfl,rfl,hx,hy,rfl⟩,?_⟩;rintro n τ G' ⟨eG,u,v,rfl,rfl,hu,hv,e⟩;simp;by_cases h0:0<v
 ·simp [h0];refine ⟨λτ' G'=>G'=G/\∃ x' y':Int,τ'=[some (.int x'),some (.int y')]/\y'.toNat<v.toNat/\0<=x'/\0<=y'/\Int.gcd x' y'=Int.gcd x y,λτ' G' ⟨e1,x',y',e2,e3,e4,e5,e6⟩=>⟨y'.toNat,by omega,e1,x',y',e2,rfl,e4,e5,e6⟩,eG,v,u%v,rfl,?_,hv,Int.emod_nonneg _ (by omega),by rw [NS h0,e]⟩;have:=Int.emod_lt_of_pos u h0;omega
 ·have:v=0:=by omega
  subst this;simp at e;simp [eG];have:u=(Int.gcd x y:Nat):=by omega
  rw [this];exact h
def qhr {d:Int} (h1:0<=d) (h2:d<4) {x0 x1 x2 x3:T} {P:T->Prop} (p0:P x0) (p1:P x1) (p2:P x2) (p3:P x3):∃ x,L2.atI [x0,x1,x2,x3] d=some x/\P x:=by
 have:d=0\/d=1\/d=2\/d=3:=by omega
 rcases this with rfl|rfl|rfl|rfl
 ·exact ⟨x0,rfl,p0⟩
 ·exact ⟨x1,rfl,p1⟩
 ·exact ⟨x2,rfl,p2⟩
 ·exact ⟨x3,rfl,p3⟩
def qhS {d:Int} (h1:0<=d) (h2:d<3) {x0 x1 x2:T} {P:T->Prop} (p0:P x0) (p1:P x1) (p2:P x2):∃ x,L2.atI [x0,x1,x2] d=some x/\P x:=by
 have:d=0\/d=1\/d=2:=by omega
 rcases this with rfl|rfl|rfl
 ·exact ⟨x0,rfl,p0⟩
 ·exact ⟨x1,rfl,p1⟩
 ·exact ⟨x2,rfl,p2⟩
def XA:∀ ts G q,QQ ts G q->ts.length=1/\ZE qw (MK q) (qs ["_law_left_here","_law_wide","_law_rows","_law_columns"] ts) G:=by
 rintro ts G q ⟨a,n,rfl,hL,hn,h⟩;refine ⟨rfl,?_⟩;unfold ZE;refine QV λnx1 q1=>?_;simp only [qV,o3,jR,qb,c3,qi,length_cons,length_nil,Nat.zero_add,Nat.reduceAdd,sizeLine_eq,Nat.reduceLeDiff,cb3,v3,qs,map_cons,List.map_nil,Nat.add_one_sub_one,List.reduceReplicate,cons_append,List.nil_append,Nat.zero_lt_succ,getElem?_pos,getElem_cons_zero,gn3,set_cons_succ,set_cons_zero,true_and];intro p hp;have hpa:=hL.ne hp;refine ze (hL.new hpa) (by decide) (by decide) (by omega) λd G1 d1 d2 L1 E1=>?_;have g1:=E1 p _ hpa qE;obtain ⟨w,hw,w',rfl,w1,w2⟩:=qhr d1 d2 (P:=λt=>∃ w,t=T.int w/\1<=w/\w<=16) ⟨6,rfl,by decide⟩ ⟨6,rfl,by decide⟩ ⟨6,rfl,by decide⟩ ⟨16,rfl,by decide⟩;simp only [ixR,jq,g1,hw];rw [q1];clear q1;refine QV λnx2 q2=>?_;simp only [WJ,qb,o3,c3,cb3,v3,length_cons,length_nil,Nat.zero_add,Nat.reduceAdd,Nat.zero_lt_succ,getElem?_pos,getElem_cons_zero,Nat.reduceLT,getElem_cons_succ,qi,zN,ne_eq,sizeLine_eq,set_cons_succ,set_cons_zero];refine ze L1 w1 (by omega) (by omega) λr G2 r1 r2 L2' E2=>?_;simp only [iI,qG,qV,o3,jR,qb,c3,qi,length_cons,length_nil,Nat.zero_add,Nat.reduceAdd,sizeLine_eq,Nat.reduceLeDiff,cb3,v3,qs,map_cons,List.map_nil,Nat.add_one_sub_one,List.reduceReplicate,cons_append,List.nil_append,Nat.zero_lt_succ,getElem?_pos,getElem_cons_zero,gn3,WJ,set_cons_succ,set_cons_zero,Nat.reduceLT,getElem_cons_succ,zN,ne_eq,zn,qH,Nat.lt_add_one,true_and,gu];refine ze L2' w1 (by omega) (by omega) λc G3 c1 c2 L3' E3=>?_;simp only [iI,qG,qV,o3,jR,qb,c3,qi,length_cons,length_nil,Nat.zero_add,Nat.reduceAdd,sizeLine_eq,Nat.reduceLeDiff,cb3,v3,qs,map_cons,List.map_nil,Nat.add_one_sub_one,List.reduceReplicate,cons_append,List.nil_append,Nat.zero_lt_succ,getElem?_pos,getElem_cons_zero,gn3,WJ,set_cons_succ,set_cons_zero,Nat.reduceLT,getElem_cons_succ,zN,ne_eq,zn,qH,Nat.lt_add_one,true_and,gu];rw [q2];clear q2;simp only [zn,o3,jR,qb,qH,v3,length_cons,length_nil,Nat.zero_add,Nat.reduceAdd,Nat.reduceLT,getElem?_pos,getElem_cons_succ,getElem_cons_zero,Nat.lt_add_one,qi,sizeLine_eq,Nat.reduceLeDiff,cb3,Nat.zero_lt_succ,c3,true_and];intro p2 hp2;have hpa2:=L3'.ne hp2;refine ze (L3'.new hpa2) (by decide) (by decide) (by omega) λe G4 e1 e2 L4 E4=>?_;have g4:=E4 p2 _ hpa2 qE;have x1:1<=1+r:=by omega
 have x2:1+r<=16:=by omega
 have x3:1<=1+c:=by omega
 have x4:1+c<=16:=by omega
 obtain ⟨t,ht,r',c',rfl,z1,z2,z3,z4⟩:=qhr e1 e2 (P:=λt=>∃ r' c',t=T.tup [.int r',.int c']/\1<=r'/\r'<=16/\1<=c'/\c'<=16) ⟨1+r,1+c,rfl,x1,x2,x3,x4⟩ ⟨1+r,1+c,rfl,x1,x2,x3,x4⟩ ⟨1+r,1+c,rfl,x1,x2,x3,x4⟩ ⟨1+r,1+r,rfl,x1,x2,x1,x2⟩;simp only [ixR,jq,g4,ht];exact h r' c' G4 z1 z2 z3 z4 (L4.mono (by omega)) ((((z5 hp).trans E1).trans (E2.trans E3)).trans ((z5 hp2).trans E4))
def C2:∀ ts G q,UY ts G q->ts.length=1/\JT QQ qw (MK q) (qs ["_law_left_here","_law_rows","_law_columns","_law_banks","_law_wide"] ts) G:=by
 rintro ts G q ⟨a,n,rfl,hL,hn,h⟩;refine ⟨rfl,?_⟩;unfold JT;refine QV λnx1 q1=>?_;simp only [qV,cb3,qb,v3,qs,map_cons,List.map_nil,length_cons,length_nil,Nat.zero_add,Nat.reduceAdd,Nat.add_one_sub_one,List.reduceReplicate,cons_append,List.nil_append,Nat.zero_lt_succ,getElem?_pos,getElem_cons_zero,qi,ZT,zh,gn3,ZW,set_cons_succ,set_cons_zero];refine ⟨a,n,rfl,hL,by omega,λr c G1 r1 r2 c1 c2 L1 E1=>?_⟩;simp only [length_cons,length_nil,Nat.zero_add,Nat.reduceAdd,true_and];rw [q1];clear q1;refine QV λnx2 q2=>?_;simp only [qV,o3,c3,cb3,qb,v3,length_cons,length_nil,Nat.zero_add,Nat.reduceAdd,Nat.zero_lt_succ,getElem?_pos,getElem_cons_zero,jR,qi,sizeLine_eq,Nat.reduceLeDiff,zN,ne_eq,gn3,set_cons_succ,set_cons_zero,true_and];intro p hp;have hpa:=L1.ne hp;refine ze (L1.new hpa) (by decide) (by decide) (by omega) λd G2 d1 d2 L2' E2=>?_;have g2:=E2 p _ hpa qE;obtain ⟨w,hw,w',rfl,w1,w2⟩:=qhr d1 d2 (P:=λt=>∃ w,t=T.int w/\1<=w/\w<=32) ⟨8,rfl,by decide⟩ ⟨8,rfl,by decide⟩ ⟨17,rfl,by decide⟩ ⟨32,rfl,by decide⟩;simp only [ixR,jq,g2,hw];refine ze L2' w1 (by omega) (by omega) λb G3 b1 b2 L3' E3=>?_;simp [qG,qV,gn3,zn,KS,z9,QI,qe0,qU,v3,c3,o3,u3,UP,L3.ixT,L3.ixR,zN,iI,iC,iB,j0,QG,qgF,tb3,qfR,or3,W7,JZ,qdM,WO,if3,ch3,cb3,qb,qi,RD,tyT,ZO,qH,jR,C0,np3,sp3,ZT,zh,ZW,VH,TX,WJ,qs,bm3,UB,qdW,V9,MW,MZ,qgl,qfT,jc,UC,S8,qg1,qgQ,YY,HT.sIx,jq,in3,J0,eqF,gu,sizeLine_eq,getElem?_cons_zero,getElem?_cons_succ];rw [q2];clear q2;refine QV λnx3 q3=>?_;simp only [qV,o3,jR,qb,v3,length_cons,length_nil,Nat.zero_add,Nat.reduceAdd,Nat.reduceLT,getElem?_pos,getElem_cons_succ,getElem_cons_zero,c3,qi,sizeLine_eq,Nat.reduceLeDiff,cb3,Nat.zero_lt_succ,gn3,set_cons_succ,set_cons_zero,true_and];intro p2 hp2;have hpa2:=L3'.ne hp2;refine ze (L3'.new hpa2) (by decide) (by decide) (by omega) λe G4 e1 e2 L4 E4=>?_;have g4:=E4 p2 _ hpa2 qE;obtain ⟨u,hu,u',rfl,u1,u2⟩:=qhS e1 e2 (P:=λt=>∃ w,t=T.int w/\1<=w/\w<=100) ⟨1+b,rfl,by omega,by omega⟩ ⟨10,rfl,by decide⟩ ⟨100,rfl,by decide⟩;simp only [ixR,jq,g4,hu];rw [q3];clear q3;simp only [zn,qH,qb,c3,v3,length_cons,length_nil,Nat.zero_add,Nat.reduceAdd,Nat.reduceLT,getElem?_pos,getElem_cons_succ,getElem_cons_zero,cb3,Nat.zero_lt_succ,Nat.lt_add_one,qi,sizeLine_eq,Nat.reduceLeDiff,true_and];refine ze L4 u1 (by omega) (by omega) λx G5 x1 x2 L5 E5=>?_
 try simp [qG,qV,gn3,zn,KS,z9,QI,qe0,qU,v3,c3,o3,u3,UP,L3.ixT,L3.ixR,zN,iI,iC,iB,j0,QG,qgF,tb3,qfR,or3,W7,JZ,qdM,WO,if3,ch3,cb3,qb,qi,RD,tyT,ZO,qH,jR,C0,np3,sp3,ZT,zh,ZW,VH,TX,WJ,qs,bm3,UB,qdW,V9,MW,MZ,qgl,qfT,jc,UC,S8,qg1,qgQ,YY,HT.sIx,jq,in3,J0,eqF,gu,sizeLine_eq,getElem?_cons_zero,getElem?_cons_succ]
 refine ze L5 u1 (by omega) (by omega) λy G6 y1 y2 L6 E6=>?_
 try simp [qG,qV,gn3,zn,KS,z9,QI,qe0,qU,v3,c3,o3,u3,UP,L3.ixT,L3.ixR,zN,iI,iC,iB,j0,QG,qgF,tb3,qfR,or3,W7,JZ,qdM,WO,if3,ch3,cb3,qb,qi,RD,tyT,ZO,qH,jR,C0,np3,sp3,ZT,zh,ZW,VH,TX,WJ,qs,bm3,UB,qdW,V9,MW,MZ,qgl,qfT,jc,UC,S8,qg1,qgQ,YY,HT.sIx,jq,in3,J0,eqF,gu,sizeLine_eq,getElem?_cons_zero,getElem?_cons_succ]
 exact h r c (1+b) x y G6 ⟨⟨r1,by omega,c1,by omega,by omega,by omega,x1,by omega,y1,by omega⟩,r2,c2,by show 1+b<=32;omega⟩ (L6.mono (by omega)) (E1.trans (((z5 hp).trans E2).trans (E3.trans (((z5 hp2).trans E4).trans (E5.trans E6)))))
def cop {b p:Int} (hb:1<=b):∃ k:Nat,(k:Int)<b/\Int.gcd b (p+k)=1:=by
 refine ⟨((1-p)%b).toNat,?_,?_⟩
 ·have:=Int.emod_nonneg (1-p) (show b≠0 by omega);have:=Int.emod_lt_of_pos (1-p) (show 0<b by omega);omega
 ·have h1:=Int.emod_nonneg (1-p) (show b≠0 by omega);have h2:=Int.emod_add_mul_ediv (1-p) b;have e:p+(((1-p)%b).toNat:Int)=1+b*(-((1-p)/b)):=by
   rw [Int.toNat_of_nonneg h1,Int.mul_neg];omega
  rw [e];simp
structure Plc (b p0 pl:Int) (i:Nat):Prop where
 lo:p0<=pl
 hi:pl<=p0+i
 at_:Int.gcd b pl=1\/(pl=p0+i/\∀ k:Nat,k<i->Int.gcd b (p0+k)≠1)
def Plc.done {b p0 pl:Int} {n:Nat} (h:Plc b p0 pl n) (hb:1<=b) (hn:b<=n):Int.gcd b pl=1:=by
 rcases h.at_ with h|⟨_,h⟩
 ·exact h
 ·obtain ⟨k,h1,h2⟩:=cop (p:=p0) hb;exact absurd h2 (h k (by omega))
def Plc.next {b p0 pl:Int} {i:Nat} (h:Plc b p0 pl i) (hb:1<=b) (hp:1<=p0) (hg:(1:Int)<(Int.gcd b pl:Nat)):Plc b p0 (pl+1) (i+1):=by
 rcases h.at_ with z|⟨z1,z2⟩
 ·rw [z] at hg;simp at hg
 ·refine ⟨by have:=h.lo;omega,by omega,.inr ⟨by omega,λk hk=>?_⟩⟩;rcases Nat.lt_or_ge k i with q|q
  ·exact z2 k q
  ·have:k=i:=by omega
   subst this;rw [← z1];omega
def Plc.stay {b p0 pl:Int} {i:Nat} (h:Plc b p0 pl i) (hb:1<=b) (hp:1<=p0) (hg:¬ (1:Int)<(Int.gcd b pl:Nat)):Plc b p0 pl (i+1):=by
 have g0:0<Int.gcd b pl:=Int.gcd_pos_of_ne_zero_left _ (by omega);exact ⟨h.lo,by have:=h.hi;omega,.inl (by omega)⟩
def qa1 {r c b:Int} (hr:1<=r) (hc:1<=c) (hb:1<=b):1<=-(-r*c/b)/\r*c<=b*-(-r*c/b)/\-(-r*c/b)<=r*c:=by
 have h1:=JO hr hc;have e:-r*c=-(r*c):=Int.neg_mul ..;rw [e];have h2:=Int.ediv_neg_of_neg_of_pos (a:=-(r*c)) (b:=b) (by omega) (by omega);have h3:=Int.mul_ediv_self_le (x:=-(r*c)) (k:=b) (by omega);have h4:-(r*c)<=-(r*c)/b:=by
  have:=Int.le_ediv_of_mul_le (a:=-(r*c)) (b:=-(r*c)) (c:=b) (by omega) (by
   have:=Int.mul_le_mul_of_nonneg_left hb (show (0:Int)<=r*c by omega);rw [Int.neg_mul];omega)
  exact this
 rw [Int.mul_neg];omega
def W8:∀ ts G q,V8 ts G q->ts.length=1/\ZJ QQ qw V0 (MK q) (qs ["_law_left_here","_law_rows","_law_columns","_law_banks","_law_places","_law_turn"] ts) G:=by
 rintro ts G q ⟨a,n,rfl,hL,hn,h⟩;refine ⟨rfl,?_⟩;unfold ZJ;refine QV λnx1 q1=>?_;simp only [qV,cb3,qb,v3,qs,map_cons,List.map_nil,length_cons,length_nil,Nat.zero_add,Nat.reduceAdd,Nat.add_one_sub_one,List.reduceReplicate,cons_append,List.nil_append,Nat.zero_lt_succ,getElem?_pos,getElem_cons_zero,qi,ZT,zh,gn3,ZW,set_cons_succ,set_cons_zero];refine ⟨a,n,rfl,hL,by omega,λr c G1 r1 r2 c1 c2 L1 E1=>?_⟩;simp only [length_cons,length_nil,Nat.zero_add,Nat.reduceAdd,true_and];rw [q1];clear q1;refine QV λnx2 q2=>?_;simp only [qV,o3,c3,cb3,qb,v3,length_cons,length_nil,Nat.zero_add,Nat.reduceAdd,Nat.zero_lt_succ,getElem?_pos,getElem_cons_zero,jR,qi,sizeLine_eq,Nat.reduceLeDiff,zN,ne_eq,gn3,set_cons_succ,set_cons_zero,true_and];intro p hp;have hpa:=L1.ne hp;refine ze (L1.new hpa) (by decide) (by decide) (by omega) λd G2 d1 d2 L2' E2=>?_;have g2:=E2 p _ hpa qE;obtain ⟨w,hw,w',rfl,w1,w2⟩:=qhS d1 d2 (P:=λt=>∃ w,t=T.int w/\1<=w/\w<=32) ⟨8,rfl,by decide⟩ ⟨17,rfl,by decide⟩ ⟨32,rfl,by decide⟩;simp only [ixR,jq,g2,hw];refine ze L2' w1 (by omega) (by omega) λb G3 b1 b2 L3' E3=>?_;simp [qG,qV,gn3,zn,KS,z9,QI,qe0,qU,v3,c3,o3,u3,UP,L3.ixT,L3.ixR,zN,iI,iC,iB,j0,QG,qgF,tb3,qfR,or3,W7,JZ,qdM,WO,if3,ch3,cb3,qb,qi,RD,tyT,ZO,qH,jR,C0,np3,sp3,ZT,zh,ZW,VH,TX,WJ,qs,bm3,UB,qdW,V9,MW,MZ,qgl,qfT,jc,UC,S8,qg1,qgQ,YY,HT.sIx,jq,in3,J0,eqF,gu,sizeLine_eq,getElem?_cons_zero,getElem?_cons_succ];rw [q2];clear q2;refine QV λnx3 q3=>?_;simp only [qV,o3,u3,v3,length_cons,length_nil,Nat.zero_add,Nat.reduceAdd,Nat.reduceLT,getElem?_pos,getElem_cons_succ,getElem_cons_zero,UP,iC,cb3,qb,Nat.zero_lt_succ,c3,qi,zN,ne_eq,sizeLine_eq,gn3,set_cons_succ,set_cons_zero];refine ⟨cm (by omega) (by omega),⟨by omega,by omega⟩,ze L3' (by omega) (by omega) (by omega) λe G4 e1 e2 L4 E4=>?_⟩;obtain ⟨u1,u2,u3⟩:=qa1 r1 c1 (show 1<=1+b by omega);have rc:r*c<=16*16:=Int.mul_le_mul r2 c2 (by omega) (by omega);simp [qG,qV,gn3,zn,KS,z9,QI,qe0,qU,v3,c3,o3,u3,UP,L3.ixT,L3.ixR,zN,iI,iC,iB,j0,QG,qgF,tb3,qfR,or3,W7,JZ,qdM,WO,if3,ch3,cb3,qb,qi,RD,tyT,ZO,qH,jR,C0,np3,sp3,ZT,zh,ZW,VH,TX,WJ,qs,bm3,UB,qdW,V9,MW,MZ,qgl,qfT,jc,UC,S8,qg1,qgQ,YY,HT.sIx,jq,in3,J0,eqF,gu,sizeLine_eq,getElem?_cons_zero,getElem?_cons_succ];rw [q3];clear q3;simp only [qG,W4,QA,qb,c3,qi,Int.reducePow,Int.reduceNeg,Int.neg_ofNat_le_ofNat,Int.reduceLT,and_self,Int.reduceToNat,true_and];obtain ⟨p0,hp0⟩:∃ p0,p0=-(-r*c/(1+b))+e:=⟨_,rfl⟩
 refine UZ _ (λi τ G'=>G'=G4/\∃ (pl:Int) (x:Option T),τ=[some (.ref a),some (.int r),some (.int c),some (.int (1+b)),some (.int pl),x]/\Plc (1+b) p0 pl i) ⟨rfl,_,none,by rw [← hp0],⟨by omega,by omega,.inr ⟨by omega,by omega⟩⟩⟩ (λ_ _ _ _ _=>True.intro) ?_ ?_
 ·rintro i x τ G' nx hx ⟨rfl,pl,y,rfl,P⟩ hn;simp only [gn3,z9,tb3,o3,cb3,qb,v3,set_cons_succ,set_cons_zero,length_cons,length_nil,Nat.zero_add,Nat.reduceAdd,Nat.reduceLT,getElem?_pos,getElem_cons_succ,getElem_cons_zero,qi,c3,iB,decide_eq_true_eq,qV,zN,qU];refine ⟨1+b,pl,rfl,by omega,by have:=P.lo;omega,?_⟩;simp;split
  ·rename_i hg;exact hn _ _ ⟨rfl,_,_,rfl,P.next (by omega) (by omega) (by omega)⟩
  ·rename_i hg;exact hn _ _ ⟨rfl,_,_,rfl,P.stay (by omega) (by omega) (by omega)⟩
 ·rintro τ G' ⟨rfl,pl,x,rfl,P⟩;simp only [zn,qH,qb,c3,v3,length_cons,length_nil,Nat.zero_add,Nat.reduceAdd,Nat.reduceLT,getElem?_pos,getElem_cons_succ,getElem_cons_zero,qi,sizeLine_eq,Nat.reduceLeDiff,true_and];rw [ZZ] at P;have lo:=P.lo;have hi:=P.hi;have m1:(1+b)*-(-r*c/(1+b))<=(1+b)*pl:=Int.mul_le_mul_of_nonneg_left (by omega) (by omega);exact h r c (1+b) pl G' ⟨⟨r1,by omega,c1,by omega,by omega,by omega,by omega,by omega,P.done (by omega) (by omega),by omega⟩,r2,c2,by show 1+b<=32;omega⟩ (L4.mono (by omega)) (E1.trans (((z5 hp).trans E2).trans (E3.trans E4)))
def qab:∀ {d:Nat},d<=8->L2.atI [T.int 1,.int 2,.int 4,.int 8,.int 16,.int 32,.int 64,.int 128,.int 256] (d:Int)=some (.int (2 ^ d))
 |0,_=>rfl
 |1,_=>rfl
 |2,_=>rfl
 |3,_=>rfl
 |4,_=>rfl
 |5,_=>rfl
 |6,_=>rfl
 |7,_=>rfl
 |8,_=>rfl
 |k+9,h=>absurd h (Nat.not_le.mpr (Nat.lt_of_lt_of_le (Nat.lt_succ_self _) (Nat.le_add_left _ _)))
def M8:∀ {d:Nat},d<=4->L2.atI [T.int 1,.int 2,.int 4,.int 8,.int 16] (d:Int)=some (.int (2 ^ d))
 |0,_=>rfl
 |1,_=>rfl
 |2,_=>rfl
 |3,_=>rfl
 |4,_=>rfl
 |k+5,h=>absurd h (Nat.not_le.mpr (Nat.lt_of_lt_of_le (Nat.lt_succ_self _) (Nat.le_add_left _ _)))
def WX {te:TE3} {q:Q3} {a:Addr} {n many:Int} {J2:St3} {items:List T} {x0:Option T} {G:Gp} (hte:∀ x0 G3 (Q:T->Gp->Prop),qw [.ref a,.int many] G3 Q->te (x0::J2) G3 Q) (hL:Lf G a n) (m1:1<=many) (m2:many<1073741824) (hl:items.length<=1000) (hn:n<1000000000)
  (h:∀ (ds:List Int) G' p,ds.length=items.length->(∀ d∈ds,0<=d/\d<many)->Lf G' a (n+items.length)->Ext a G G'->G' p=none->q (.ref p) (gu G' p (.lst (ds.map T.int)))) :
  WC (λ_=>True) (gn3 0) tt3 te q items [] (x0::J2) G:=by
 refine R5 _ (λi ys τ G'=>∃ (ds:List Int) (x0:Option T),τ=x0::J2/\ys=ds.map T.int/\ds.length=i/\(∀ d∈ds,0<=d/\d<many)/\Lf G' a (n+i)/\Ext a G G') ⟨[],x0,rfl,rfl,rfl,by simp,by simpa using hL,Ext.refl⟩ (λ_ _ _ _ _ _=>True.intro) ?_ ?_
 ·rintro i z ys τ G' R hz ⟨ds,x0,rfl,rfl,e,hd,hL',E⟩ hR;have hi:=(List.getElem?_eq_some_iff.mp hz).1;simp only [gn3,tt3,set_cons_zero,if_true];refine hte _ _ _ (ze hL' m1 m2 (by omega) λd G2 d1 d2 L2 E2=>⟨by simp [sizeLine_eq];omega,hR _ _ _ ⟨ds++[d],_,rfl,by simp,by simp [e],λx hx=>?_,L2.mono (by omega),E.trans E2⟩⟩);rcases List.mem_append.mp hx with hx|hx
  ·exact hd x hx
  ·simp at hx;subst hx;exact ⟨d1,d2⟩
 ·rintro ys τ G' ⟨ds,x0,rfl,rfl,e,hd,hL',E⟩ p hp;exact h ds G' p e hd hL' E hp
def UT:Sp3:=λts G q=>∃ a n most,ts=[.ref a,.int most]/\Lf G a n/\n<10000000/\0<=most/\most<=4/\∀ (h l:Nat) (ms:List Int) G',(h:Int)<=most->(l:Int)<=most->(Dl.bits h l ms).Ok->Lf G' a (n+10)->Ext a G G'->q (Dl.bits h l ms).t G'
def RY {wide:Int} {p:Addr} {ds:List Int} {x0:Option T} {G:Gp} {q:Q3} (hw:0<wide) (hl:ds.length<=1000) (hG:jq G p=some (ds.map T.int)) (h:∀ p2,G p2=none->q (.ref p2) (gu G p2 (.lst ((ds.map (·%wide)).map T.int)))) :
  WC (λG=>jq G p=some (ds.map T.int)) (gn3 0) tt3 (o3 (iC (λ_ j=>0<j) (·%·)) (v3 0) (v3 1)) q (ds.map T.int) [] [x0,some (.int wide)] G:=by
 refine R4 (λt=>match t with|.int m=>T.int (m%wide)|t=>t) (λτ=>∃ x0,τ=[x0,some (.int wide)]) hG _ _ _ ⟨_,rfl⟩ ?_ (by simp [sizeLine_eq];omega) λp2 hp2=>?_
 ·rintro z hz τ ⟨x0,rfl⟩ R hR;rw [mem_map] at hz;obtain ⟨m,_,rfl⟩:=hz;simp [gn3,o3,v3,iC];exact ⟨hw,hR _ ⟨_,rfl⟩⟩
 ·have:=h p2 hp2;simpa [map_map,Function.comp_def] using this
def RG:∀ ts G q,UT ts G q->ts.length=2/\JS qw (MK q) (qs ["_law_left_here","_law_most","_law_high","_law_low","_law_masks","_law_wide"] ts) G:=by
 rintro ts G q ⟨a,n,most,rfl,hL,hn,m1,m2,h⟩;refine ⟨rfl,?_⟩;simp only [JS,qG,WJ,qb,cb3,v3,qs,map_cons,List.map_nil,length_cons,length_nil,Nat.zero_add,Nat.reduceAdd,Nat.reduceSub,List.reduceReplicate,cons_append,List.nil_append,Nat.zero_lt_succ,getElem?_pos,getElem_cons_zero,o3,Nat.reduceLT,getElem_cons_succ,c3,zN,qi,qV,set_cons_succ,set_cons_zero,gn3,jR,sizeLine_eq,Nat.reduceLeDiff,ne_eq,zn,qH,jc,true_and,jq,gu,ixR,↓reduceIte];refine ze hL (by omega) (by omega) (by omega) λhi G1 h1 h2 L1 E1=>?_
 try simp
 refine ze L1 (by omega) (by omega) (by omega) λlo G2 l1 l2 L2' E2=>?_;simp only [lc3,QA,qb,cb3,v3,length_cons,length_nil,Nat.zero_add,Nat.reduceAdd,Nat.zero_lt_succ,getElem?_pos,getElem_cons_zero,c3,qi,Int.reducePow,Int.reduceNeg,cap,map_cons,Nat.lt_add_one,getElem_cons_succ,Option.join_some,List.map_nil];refine ze L2' (by omega) (by omega) (by omega) λk G3 k1 k2 L3' E3=>?_;refine ⟨⟨by omega,by omega⟩,WX (many:=256) (λx0 G3 Q hq=>by simpa [cb3,qb,v3,c3,qi] using hq) L3' (by omega) (by omega) (by rw [ZZ];omega) (by omega) λds G4 p e1 e2 L4 E4 hp=>?_⟩;rw [ZZ] at e1 L4;obtain ⟨H,rfl⟩:=Int.eq_ofNat_of_zero_le h1;obtain ⟨W,rfl⟩:=Int.eq_ofNat_of_zero_le l1;have hpa:=L4.ne hp
 try simp
 intro p2 hp2;have pp:p≠p2:=by rintro rfl;rw [qE] at hp2;cases hp2
 have e3:((H:Int)+(W:Int))=((H+W:Nat):Int):=by omega
 have w1:=X2 (H+W);have hG:∀ B,jq (gu (gu G4 p (.lst (ds.map T.int))) p2 B) p=some (ds.map T.int):=λB=>by simp only [jq,jT pp,qE]
 rw [e3,qab (d:=H+W) (by omega)];simp only [ZV,v3,getElem?_cons_zero,getElem?_cons_succ,hG];refine RY (by omega) (by omega) (hG _) λp3 hp3=>?_;simp only [qE];refine h H W _ _ (by omega) (by omega) ⟨by omega,by omega,by simp;omega,λm hm=>?_⟩ ((((L4.new hpa).new ((L4.new hpa).ne hp2)).new (((L4.new hpa).new ((L4.new hpa).ne hp2)).ne hp3)).mono (by omega)) (((E1.trans E2).trans (E3.trans E4)).trans (((z5 hp).trans (z5 hp2)).trans (z5 hp3)));rw [mem_map] at hm;obtain ⟨x,_,rfl⟩:=hm;exact ⟨Int.emod_nonneg _ (by omega),Int.emod_lt_of_pos _ (by omega)⟩
structure Cells (cells:List (List Int)) (r c b:Int):Prop where
 r:(cells.length:Int)=r
 c:∀ row∈cells,(row.length:Int)=c/\∀ x∈row,0<=x/\x<b
def R6 {q:Q3} {a:Addr} {n r c b:Int} {x0:Option T} {G:Gp} (hL:Lf G a n) (hn:n<100000000) (r1:1<=r) (r2:r<=16) (c1:1<=c) (c2:c<=16) (b1:1<=b) (b2:b<=1000)
  (h:∀ cells G' p,Cells cells r c b->Lf G' a (n+256)->Ext a G G'->G' p=none->q (.ref p) (gu G' p (.lst (cells.map qeJ)))) :
  WC (λ_=>True) (gn3 0) tt3 (cb3 jc (qb (lc3 (QA (qb (v3 3) qi)) (gn3 0) tt3 (cb3 qw (qb (v3 1) (qb (v3 2) qi))) [none,some 1,some 2]) qi)) q (R9 0 r.toNat) [] [x0,some (.ref a),some (.int b),some (.int c)] G:=by
 refine R5 _ (λi ys τ G'=>∃ (cells:List (List Int)) (x0:Option T),τ=[x0,some (.ref a),some (.int b),some (.int c)]/\ys=cells.map qeJ/\Cells cells i c b/\Lf G' a (n+16*i)/\Ext a G G') ⟨[],x0,rfl,rfl,⟨rfl,by simp⟩,by simpa using hL,Ext.refl⟩ (λ_ _ _ _ _ _=>True.intro) ?_ ?_
 ·rintro i z ys τ G' R hz ⟨cells,x0,rfl,rfl,C,hL',E⟩ hR;obtain ⟨hi,rfl⟩:=MT hz;have hc:=C.r;simp only [gn3,tt3,↓reduceIte,cb3,qb,lc3,QA,v3,Int.zero_add,set_cons_zero,length_cons,length_nil,Nat.zero_add,Nat.reduceAdd,Nat.lt_add_one,getElem?_pos,getElem_cons_succ,getElem_cons_zero,qi,Int.reducePow,Int.reduceNeg,jc,length_map,sizeLine_eq,jq,cap,map_cons,Nat.reduceLT,Option.join_some,List.map_nil];refine ⟨⟨by omega,by omega⟩,WX (many:=b) (λx0 G3 Q hq=>by simpa [cb3,qb,v3,c3,qi] using hq) hL' (by omega) (by omega) (by rw [ZZ];omega) (by omega) λds G4 p e1 e2 L4 E4 hp=>?_⟩;rw [ZZ] at e1 L4;simp only [qE];refine ⟨by omega,hR _ _ _ ⟨cells++[ds],_,rfl,by simp [qeJ],⟨by simp;omega,λrow hrow=>?_⟩,((L4.new (L4.ne hp)).mono (by omega)),(E.trans E4).trans (z5 hp)⟩⟩;rcases List.mem_append.mp hrow with hr|hr
  ·exact C.c row hr
  ·simp at hr;subst hr;exact ⟨by omega,e2⟩
 ·rintro ys τ G' ⟨cells,x0,rfl,rfl,C,hL',E⟩ p hp;rw [ZZ] at C hL';exact h cells G' p ⟨by have:=C.r;omega,C.c⟩ (hL'.mono (by omega)) E hp
def Cells.ok {cells:List (List Int)} {r c b:Int} (C:Cells cells r c b) (r1:1<=r) (r2:r<=60) (c1:1<=c) (c2:c<=60) (b1:1<=b) (b2:b<=1000):(Dl.table b cells).Ok/\(Dl.table b cells).R=r/\(Dl.table b cells).C=c:=by
 have hl:=C.r;have ok:(Dl.table b cells).Ok:=⟨b1,b2,by omega,by omega,c.toNat,by omega,by omega,λrow hr=>⟨by have:=(C.c row hr).1;omega,(C.c row hr).2⟩⟩
 have e0:cells[0]?=some cells[0]:=getElem?_eq_getElem (by omega);exact ⟨ok,hl,by simp [Dl.C,e0];exact (C.c cells[0] (List.getElem_mem _)).1⟩
def jG:Sp3:=λts G q=>∃ a n,ts=[.ref a]/\Lf G a n/\n<10000000/\∀ (d:Dl) G',Dr d 4 4 5->d.dep=0->Lf G' a (n+300)->Ext a G G'->q d.t G'
def XF:∀ ts G q,jG ts G q->ts.length=1/\ZD qw V0 (MK q) (qs ["_law_left_here","_law_rows","_law_columns","_law_banks","_law_way","_law_high","_law_low","_law_masks","_law_wide","_law_places","_law_turn","_law_cells"] ts) G:=by
 rintro ts G q ⟨a,n,rfl,hL,hn,h⟩;refine ⟨rfl,?_⟩;unfold ZD;refine QV λnx1 q1=>?_;simp only [qV,qH,qb,o3,c3,cb3,v3,qs,map_cons,List.map_nil,length_cons,length_nil,Nat.zero_add,Nat.reduceAdd,Nat.add_one_sub_one,List.reduceReplicate,cons_append,List.nil_append,Nat.zero_lt_succ,getElem?_pos,getElem_cons_zero,qi,zN,ne_eq,sizeLine_eq,Nat.reduceLeDiff,ZT,zh,gn3,ZW,set_cons_succ,set_cons_zero,true_and];refine ze hL (by omega) (by omega) (by omega) λr G1 r1 r2 L1 E1=>?_
 try simp
 refine ze L1 (by omega) (by omega) (by omega) λc G2 c1 c2 L2' E2=>?_
 try simp
 refine ze L2' (by omega) (by omega) (by omega) λb G3 b1 b2 L3' E3=>?_
 try simp
 rw [q1];refine QV λnx2 q2=>?_;simp only [qV,cb3,qb,v3,length_cons,length_nil,Nat.zero_add,Nat.reduceAdd,Nat.zero_lt_succ,getElem?_pos,getElem_cons_zero,c3,qi,gn3,set_cons_succ,set_cons_zero];refine ze L3' (by omega) (by omega) (by omega) λway G4 w1 w2 L4 E4=>?_;have EE:=(E1.trans E2).trans (E3.trans E4);rw [q2];refine QV λnx3 q3=>?_;by_cases k0:way=0
 ·subst k0;simp only [z9,tb3,o3,v3,length_cons,length_nil,Nat.zero_add,Nat.reduceAdd,Nat.reduceLT,getElem?_pos,getElem_cons_succ,getElem_cons_zero,c3,j0,QG,decide_true,Bool.false_eq_true,↓reduceIte,zn,qH,qb,cb3,Nat.zero_lt_succ,qi,sizeLine_eq,Nat.reduceLeDiff,true_and];refine ze L4 (by omega) (by omega) (by omega) λx G5 x1 x2 L5 E5=>?_
  try simp
  refine ze L5 (by omega) (by omega) (by omega) λy G6 y1 y2 L6 E6=>?_
  try simp
  exact h (.skew (1+r) (1+c) (1+b) x y) G6 ⟨⟨by omega,by omega,by omega,by omega,by omega,by omega,by omega,by omega,by omega,by omega⟩,by show 1+r<=4;omega,by show 1+c<=4;omega,by show 1+b<=5;omega⟩ rfl (L6.mono (by omega)) (EE.trans (E5.trans E6))
 simp only [z9,tb3,o3,v3,c3,j0,QG,getElem?_cons_zero,getElem?_cons_succ,k0,decide_false,Bool.false_eq_true,if_false,qU];rw [q3];refine QV λnx4 q4=>?_;by_cases k1:way=1
 ·subst k1;simp only [z9,tb3,o3,v3,length_cons,length_nil,Nat.zero_add,Nat.reduceAdd,Nat.reduceLT,getElem?_pos,getElem_cons_succ,getElem_cons_zero,c3,j0,QG,decide_true,Bool.false_eq_true,↓reduceIte,qG,WJ,qb,cb3,Nat.zero_lt_succ,qi,qV,set_cons_succ,set_cons_zero,gn3,jR,sizeLine_eq,Nat.reduceLeDiff,zN,ne_eq,zn,qH,jc,true_and,jq,gu,ixR];refine ze L4 (by omega) (by omega) (by omega) λhi G5 h1 h2 L5 E5=>?_
  try simp
  refine ze L5 (by omega) (by omega) (by omega) λlo G6 l1 l2 L6 E6=>?_;simp only [lc3,QA,qb,cb3,v3,length_cons,length_nil,Nat.zero_add,Nat.reduceAdd,Nat.zero_lt_succ,getElem?_pos,getElem_cons_zero,c3,qi,Int.reducePow,Int.reduceNeg,cap,map_cons,Nat.reduceLT,getElem_cons_succ,Option.join_some,List.map_nil];refine ze L6 (by omega) (by omega) (by omega) λk G7 k1 k2 L7 E7=>?_;refine ⟨⟨by omega,by omega⟩,WX (many:=16) (λx0 G3 Q hq=>by simpa [cb3,qb,v3,c3,qi] using hq) L7 (by omega) (by omega) (by rw [ZZ];omega) (by omega) λds G8 p e1 e2 L8 E8 hp=>?_⟩;rw [ZZ] at e1 L8;obtain ⟨H,rfl⟩:=Int.eq_ofNat_of_zero_le h1;obtain ⟨W,rfl⟩:=Int.eq_ofNat_of_zero_le l1;have hpa:=L8.ne hp
  try simp
  intro p2 hp2;have pp:p≠p2:=by rintro rfl;rw [qE] at hp2;cases hp2
  have e3:((H:Int)+(W:Int))=((H+W:Nat):Int):=by omega
  have w1:=X2 (H+W);have hG:∀ B,jq (gu (gu G8 p (.lst (ds.map T.int))) p2 B) p=some (ds.map T.int):=λB=>by simp only [jq,jT pp,qE]
  rw [e3,M8 (d:=H+W) (by omega)];simp only [ZV,v3,getElem?_cons_zero,getElem?_cons_succ,hG];refine RY (by omega) (by omega) (hG _) λp3 hp3=>?_;simp only [qE];have bl:(Dl.bits H W (ds.map (·%2 ^ (H+W)))).Ok:=⟨by omega,by omega,by simp;omega,λm hm=>by
   rw [mem_map] at hm;obtain ⟨x,_,rfl⟩:=hm;exact ⟨Int.emod_nonneg _ (by omega),Int.emod_lt_of_pos _ (by omega)⟩⟩
  have q1:=WM (n:=H) (k:=2) (by omega);have q2:=WM (n:=W) (k:=2) (by omega);have q3:=WM (n:=ds.length) (k:=2) (by omega);exact h (.bits H W _) _ ⟨bl,by show (2:Int) ^ H<=4;omega,by show (2:Int) ^ W<=4;omega,by simp [Dl.B];omega⟩ rfl ((((L8.new hpa).new ((L8.new hpa).ne hp2)).new (((L8.new hpa).new ((L8.new hpa).ne hp2)).ne hp3)).mono (by omega)) (EE.trans (((E5.trans E6).trans (E7.trans E8)).trans (((z5 hp).trans (z5 hp2)).trans (z5 hp3))))
 simp only [z9,tb3,o3,v3,c3,j0,QG,getElem?_cons_zero,getElem?_cons_succ,k1,decide_false,Bool.false_eq_true,if_false,qU];rw [q4];refine QV λnx5 q5=>?_;by_cases k2:way=2
 ·subst k2;simp only [z9,tb3,o3,v3,length_cons,length_nil,Nat.zero_add,Nat.reduceAdd,Nat.reduceLT,getElem?_pos,getElem_cons_succ,getElem_cons_zero,c3,j0,QG,decide_true,Bool.false_eq_true,↓reduceIte,qG,qV,u3,UP,iC,cb3,qb,Nat.zero_lt_succ,qi,zN,ne_eq,sizeLine_eq,gn3,set_cons_succ,set_cons_zero];refine ⟨cm (by omega) (by omega),⟨by omega,by omega⟩,ze L4 (by omega) (by omega) (by omega) λe G5 e1 e2 L5 E5=>?_⟩;obtain ⟨u1,u2,u3⟩:=qa1 (show 1<=1+r by omega) (show 1<=1+c by omega) (show 1<=1+b by omega);have rc:(1+r)*(1+c)<=4*4:=Int.mul_le_mul (by omega) (by omega) (by omega) (by omega);simp only [W4,QA,qb,c3,qi,Int.reducePow,Int.reduceNeg,Int.neg_ofNat_le_ofNat,Int.reduceLT,and_self,Int.reduceToNat,true_and];obtain ⟨p0,hp0⟩:∃ p0,p0=-(-(1+r)*(1+c)/(1+b))+e:=⟨_,rfl⟩
  refine UZ _ (λi τ G'=>G'=G5/\∃ (pl:Int) (x:Option T),τ=[some (.ref a),some (.int (1+r)),some (.int (1+c)),some (.int (1+b)),some (.int 2),none,none,none,none,some (.int pl),x,none]/\Plc (1+b) p0 pl i) ⟨rfl,_,none,by rw [← hp0],⟨by omega,by omega,.inr ⟨by omega,by omega⟩⟩⟩ (λ_ _ _ _ _=>True.intro) ?_ ?_
  ·rintro i x τ G' nx hx ⟨rfl,pl,y,rfl,P⟩ hn;simp only [gn3,z9,tb3,o3,cb3,qb,v3,set_cons_succ,set_cons_zero,length_cons,length_nil,Nat.zero_add,Nat.reduceAdd,Nat.reduceLT,getElem?_pos,getElem_cons_succ,getElem_cons_zero,qi,c3,iB,decide_eq_true_eq,qV,zN,qU];refine ⟨1+b,pl,rfl,by omega,by have:=P.lo;omega,?_⟩;simp;split
   ·exact hn _ _ ⟨rfl,_,_,rfl,P.next (by omega) (by omega) (by omega)⟩
   ·exact hn _ _ ⟨rfl,_,_,rfl,P.stay (by omega) (by omega) (by omega)⟩
  ·rintro τ G' ⟨rfl,pl,x,rfl,P⟩;simp only [zn,qH,qb,c3,v3,length_cons,length_nil,Nat.zero_add,Nat.reduceAdd,Nat.reduceLT,getElem?_pos,getElem_cons_succ,getElem_cons_zero,qi,sizeLine_eq,Nat.reduceLeDiff,true_and];rw [ZZ] at P;have lo:=P.lo;have hi:=P.hi;have m1:(1+b)*-(-(1+r)*(1+c)/(1+b))<=(1+b)*pl:=Int.mul_le_mul_of_nonneg_left (by omega) (by omega);exact h (.rests (1+r) (1+c) (1+b) pl) G' ⟨⟨by omega,by omega,by omega,by omega,by omega,by omega,by omega,by omega,P.done (by omega) (by omega),by omega⟩,by show 1+r<=4;omega,by show 1+c<=4;omega,by show 1+b<=5;omega⟩ rfl (L5.mono (by omega)) (EE.trans E5)
 ·simp only [z9,tb3,o3,v3,c3,j0,QG,getElem?_cons_zero,getElem?_cons_succ,k2,decide_false,Bool.false_eq_true,if_false,qU];rw [q5];simp only [qG,qV,lc3,QA,qb,v3,length_cons,length_nil,Nat.zero_add,Nat.reduceAdd,Nat.reduceLT,getElem?_pos,getElem_cons_succ,getElem_cons_zero,qi,Int.reducePow,Int.reduceNeg,gn3,zn,qH,c3,set_cons_succ,set_cons_zero,cb3,Nat.lt_add_one,jc,sizeLine_eq,Nat.reduceLeDiff,true_and,jq,cap,map_cons,Nat.zero_lt_succ,Option.join_some,List.map_nil];refine ⟨⟨by omega,by omega⟩,R6 L4 (by omega) (by omega) (by omega) (by omega) (by omega) (by omega) (by omega) λcells G5 p C L5 E5 hp=>?_⟩;obtain ⟨ok,eR,eC⟩:=C.ok (by omega) (by omega) (by omega) (by omega) (by omega) (by omega);simp only [qE];exact h (.table (1+b) cells) _ ⟨ok,by omega,by omega,by show 1+b<=5;omega⟩ rfl ((L5.new (L5.ne hp)).mono (by omega)) (EE.trans (E5.trans (z5 hp)))
def V4:Sp3:=λts G q=>∃ a n,ts=[.ref a]/\Lf G a n/\n<10000000/\∀ (b:Int) cells r c G',Cells cells r c b->Dr (.table b cells) 16 16 32->(Dl.table b cells).R=r->(Dl.table b cells).C=c->Lf G' a (n+300)->Ext a G G'->q (Dl.table b cells).t G'
def XH:∀ ts G q,V4 ts G q->ts.length=1/\ZP QQ qw (MK q) (qs ["_law_left_here","_law_rows","_law_columns","_law_banks","_law_cells"] ts) G:=by
 rintro ts G q ⟨a,n,rfl,hL,hn,h⟩;refine ⟨rfl,?_⟩;simp only [ZP,qG,qV,cb3,qb,v3,qs,map_cons,List.map_nil,length_cons,length_nil,Nat.zero_add,Nat.reduceAdd,Nat.add_one_sub_one,List.reduceReplicate,cons_append,List.nil_append,Nat.zero_lt_succ,getElem?_pos,getElem_cons_zero,qi,ZT,zh,gn3,ZW,o3,c3,set_cons_succ,set_cons_zero,jR,sizeLine_eq,Nat.reduceLeDiff,zN,ne_eq,zn,qH,Nat.reduceLT,getElem_cons_succ,Nat.lt_add_one,jc,true_and,jq];refine ⟨a,n,rfl,hL,by omega,λr c G1 r1 r2 c1 c2 L1 E1=>?_⟩;simp;intro p hp;have hpa:=L1.ne hp;refine ze (L1.new hpa) (by omega) (by omega) (by omega) λd G2 d1 d2 L2' E2=>?_;have g2:=E2 p _ hpa qE;obtain ⟨w,hw,w',rfl,w1,w2⟩:=qhS d1 d2 (P:=λt=>∃ w,t=T.int w/\1<=w/\w<=32) ⟨4,rfl,by omega,by omega⟩ ⟨9,rfl,by omega,by omega⟩ ⟨32,rfl,by omega,by omega⟩;simp only [ixR,jq,g2,hw];refine ze L2' w1 (by omega) (by omega) λb G3 b1 b2 L3' E3=>?_;simp only [lc3,QA,qb,v3,length_cons,length_nil,Nat.zero_add,Nat.reduceAdd,Nat.reduceLT,getElem?_pos,getElem_cons_succ,getElem_cons_zero,qi,Int.reducePow,Int.reduceNeg,cap,map_cons,Nat.zero_lt_succ,Option.join_some,List.map_nil];refine ⟨⟨by omega,by omega⟩,R6 L3' (by omega) (by omega) (by omega) (by omega) (by omega) (by omega) (by omega) λcells G5 p C L5 E5 hp5=>?_⟩;obtain ⟨ok,eR,eC⟩:=C.ok (by omega) (by omega) (by omega) (by omega) (by omega) (by omega);simp only [qE];exact h (1+b) cells r c _ C ⟨ok,by omega,by omega,by show 1+b<=32;omega⟩ eR eC ((L5.new (L5.ne hp5)).mono (by omega)) (E1.trans (((z5 hp).trans E2).trans (E3.trans (E5.trans (z5 hp5)))))
def CM {a b x y:Int} (h0:1<=a) (h1:a<=x) (h2:1<=b) (h3:b<=y):a*b<=x*y:=Int.mul_le_mul h1 h3 (by omega) (by omega)
def Dr.join {d e:Dl} {r c b r' c' b':Int} (D:Dr d r c b) (E:Dr e r' c' b') (h1:r*r'<=4096) (h2:c*c'<=4096) (h3:b*b'<=4096):Dr (.joined d e) (r*r') (c*c') (b*b'):=by
 have Ld:=Dl.lims D.ok;have Le:=Dl.lims E.ok;have a1:=CM Ld.r1 D.r2 Le.r1 E.r2;have a2:=CM Ld.c1 D.c2 Le.c1 E.c2;have a3:=CM Ld.b1 D.b2 Le.b1 E.b2;exact ⟨⟨D.ok,E.ok,by omega,by omega,by omega⟩,a1,a2,a3⟩
def Dr.mono {d:Dl} {r c b r' c' b':Int} (D:Dr d r c b) (h1:r<=r') (h2:c<=c') (h3:b<=b'):Dr d r' c' b':=⟨D.ok,by have:=D.r2;omega,by have:=D.c2;omega,by have:=D.b2;omega⟩
def jz:Sp3:=λts G q=>∃ a n,ts=[.ref a]/\Lf G a n/\n<1000000/\∀ (d:Dl) G',Dr d 16 16 32->d.dep<=2->Lf G' a (n+1000)->Ext a G G'->q d.t G'
def NV {x:Int} (h0:0<=x) (h1:x<2):Dr (.joined (.skew (1+x) 1 2 1 1) (.table 2 [[1,0]])) 2 2 4:=by
 have a:Dr (.skew (1+x) 1 2 1 1) 2 1 2:=⟨⟨by omega,by omega,by omega,by omega,by omega,by omega,by omega,by omega,by omega,by omega⟩,by show 1+x<=2;omega,Int.le_refl 1,Int.le_refl 2⟩
 have b:Dr (.table 2 [[1,0]]) 1 2 2:=⟨⟨by decide,by decide,by decide,by decide,2,by decide,by decide,by simp⟩,by decide,by decide,by decide⟩
 exact (a.join b (by decide) (by decide) (by decide)).mono (by decide) (by decide) (by decide)
def qlf:Dr (.joined (.skew 8 1 3 1 1) (.rests 2 16 5 7)) 16 16 15:=by
 have a:Dr (.skew 8 1 3 1 1) 8 1 3:=⟨⟨by decide,by decide,by decide,by decide,by decide,by decide,by decide,by decide,by decide,by decide⟩,by decide,by decide,by decide⟩
 have b:Dr (.rests 2 16 5 7) 2 16 5:=⟨⟨by decide,by decide,by decide,by decide,by decide,by decide,by decide,by decide,by decide,by decide⟩,by decide,by decide,by decide⟩
 exact (a.join b (by decide) (by decide) (by decide)).mono (by decide) (by decide) (by decide)
def qkR:Dr (.joined (.rests 1 8 3 4) (.skew 16 2 5 2 1)) 16 16 15:=by
 have a:Dr (.rests 1 8 3 4) 1 8 3:=⟨⟨by decide,by decide,by decide,by decide,by decide,by decide,by decide,by decide,by decide,by decide⟩,by decide,by decide,by decide⟩
 have b:Dr (.skew 16 2 5 2 1) 16 2 5:=⟨⟨by decide,by decide,by decide,by decide,by decide,by decide,by decide,by decide,by decide,by decide⟩,by decide,by decide,by decide⟩
 exact (a.join b (by decide) (by decide) (by decide)).mono (by decide) (by decide) (by decide)
def EZ:∀ ts G q,jz ts G q->ts.length=1/\jZ qw UY V8 UT V4 jG (MK q) (qs ["_law_left_here","_law_way","_law_inner","_law_some"] ts) G:=by
 rintro ts G q ⟨a,n,rfl,hL,hn,h⟩;refine ⟨rfl,?_⟩;unfold jZ;refine QV λnx1 q1=>?_;simp only [qV,cb3,qb,v3,qs,map_cons,List.map_nil,length_cons,length_nil,Nat.zero_add,Nat.reduceAdd,Nat.add_one_sub_one,List.reduceReplicate,cons_append,List.nil_append,Nat.zero_lt_succ,getElem?_pos,getElem_cons_zero,c3,qi,gn3,set_cons_succ,set_cons_zero];refine ze hL (by omega) (by omega) (by omega) λw G1 w1 w2 L1 E1=>?_
 try simp
 rw [q1];clear q1;refine QV λnx2 q2=>?_;by_cases k0:w<2
 ·simp only [z9,tb3,o3,v3,length_cons,length_nil,Nat.zero_add,Nat.reduceAdd,Nat.reduceLT,getElem?_pos,getElem_cons_succ,getElem_cons_zero,c3,iB,k0,decide_true,↓reduceIte,zn,cb3,qb,Nat.zero_lt_succ,qi];exact ⟨a,n+1,rfl,L1,by omega,λr c b x y G2 D L2' E2=>h _ G2 D (Nat.zero_le _) (L2'.mono (by omega)) (E1.trans E2)⟩
 simp only [z9,tb3,o3,v3,c3,iB,getElem?_cons_zero,getElem?_cons_succ,k0,decide_false,Bool.false_eq_true,if_false,qU];rw [q2];clear q2;refine QV λnx3 q3=>?_;by_cases k1:w=2
 ·subst k1;simp only [z9,tb3,o3,v3,length_cons,length_nil,Nat.zero_add,Nat.reduceAdd,Nat.reduceLT,getElem?_pos,getElem_cons_succ,getElem_cons_zero,c3,j0,QG,decide_true,Bool.false_eq_true,↓reduceIte,zn,cb3,qb,Nat.zero_lt_succ,qi];exact ⟨a,n+1,rfl,L1,by omega,λr c b p G2 D L2' E2=>h _ G2 D (Nat.zero_le _) (L2'.mono (by omega)) (E1.trans E2)⟩
 simp only [z9,tb3,o3,v3,c3,j0,QG,getElem?_cons_zero,getElem?_cons_succ,k1,decide_false,Bool.false_eq_true,if_false,qU];rw [q3];clear q3;refine QV λnx4 q4=>?_;by_cases k2:w=3
 ·subst k2;simp only [z9,tb3,o3,v3,length_cons,length_nil,Nat.zero_add,Nat.reduceAdd,Nat.reduceLT,getElem?_pos,getElem_cons_succ,getElem_cons_zero,c3,j0,QG,decide_true,Bool.false_eq_true,↓reduceIte,zn,cb3,qb,Nat.zero_lt_succ,qi];refine ⟨a,n+1,4,rfl,L1,by omega,by omega,by omega,λhh l ms G2 h1 h2 ok L2' E2=>h _ G2 ⟨ok,?_,?_,?_⟩ (Nat.zero_le _) (L2'.mono (by omega)) (E1.trans E2)⟩
  ·have:=WM (n:=hh) (k:=4) (by omega);show (2:Int) ^ hh<=16;omega
  ·have:=WM (n:=l) (k:=4) (by omega);show (2:Int) ^ l<=16;omega
  ·have:=WM ok.2.2.1;show (2:Int) ^ ms.length<=32;omega
 simp only [z9,tb3,o3,v3,c3,j0,QG,getElem?_cons_zero,getElem?_cons_succ,k2,decide_false,Bool.false_eq_true,if_false,qU];rw [q4];clear q4;refine QV λnx5 q5=>?_;by_cases k3:w=4
 ·subst k3;simp only [z9,tb3,o3,v3,length_cons,length_nil,Nat.zero_add,Nat.reduceAdd,Nat.reduceLT,getElem?_pos,getElem_cons_succ,getElem_cons_zero,c3,j0,QG,decide_true,Bool.false_eq_true,↓reduceIte,zn,cb3,qb,Nat.zero_lt_succ,qi];exact ⟨a,n+1,rfl,L1,by omega,λb cells r c G2 C D eR eC L2' E2=>h _ G2 D (Nat.zero_le _) (L2'.mono (by omega)) (E1.trans E2)⟩
 simp only [z9,tb3,o3,v3,c3,j0,QG,getElem?_cons_zero,getElem?_cons_succ,k3,decide_false,Bool.false_eq_true,if_false,qU];rw [q5];clear q5;refine QV λnx6 q6=>?_;by_cases k4:w=5
 ·subst k4;simp only [z9,tb3,o3,v3,length_cons,length_nil,Nat.zero_add,Nat.reduceAdd,Nat.reduceLT,getElem?_pos,getElem_cons_succ,getElem_cons_zero,c3,j0,QG,decide_true,Bool.false_eq_true,↓reduceIte,qG,qV,qH,qb,cb3,Nat.zero_lt_succ,qi,zN,ne_eq,sizeLine_eq,Nat.reduceLeDiff,gn3,jR,set_cons_succ,set_cons_zero,QI,bm3,Nat.lt_add_one,jq,gu,Option.isSome_some,UB,cons_append,List.nil_append,zn,true_and];refine ze L1 (by omega) (by omega) (by omega) λx G2 x1 x2 L2' E2=>?_;have I:=NV x1 x2
  try simp
  refine ⟨a,n+1+1,rfl,L2',by omega,λd G3 Dd dd L3' E3=>?_⟩
  try simp
  refine ⟨a,n+1+1+300,rfl,L3',by omega,λe G4 De de L4 E4=>?_⟩
  try simp
  intro p hp;have hpa:=L4.ne hp;refine ze (((L4.new hpa).new hpa).new hpa) (by omega) (by omega) (by omega) λk G5 k1 k2 L5 E5=>?_;have g5:=E5 p _ hpa qE;have EE:Ext a G G5:=(E1.trans E2).trans ((E3.trans E4).trans (Ext.trans (λb o hb e=>by
   have hbp:b≠p:=by rintro rfl;rw [hp] at e;cases e
   rw [jT hbp,jT hbp,jT hbp];exact e) E5))
  have P1:∃ d':Dl,(Dl.joined (.joined (.skew (1+x) 1 2 1 1) (.table 2 [[1,0]])) d).t=d'.t/\Dr d' 16 16 32/\d'.dep<=2:=⟨_,rfl,(I.join Dd (by decide) (by decide) (by decide)).mono (by decide) (by decide) (by decide),by simp [Dl.dep,dd]⟩
  have P2:∃ d':Dl,(Dl.joined e (.joined (.skew (1+x) 1 2 1 1) (.table 2 [[1,0]]))).t=d'.t/\Dr d' 16 16 32/\d'.dep<=2:=⟨_,rfl,(De.join I (by decide) (by decide) (by decide)).mono (by decide) (by decide) (by decide),by simp [Dl.dep,de]⟩
  have P3:∃ d':Dl,(Dl.joined (.skew 8 1 3 1 1) (.rests 2 16 5 7)).t=d'.t/\Dr d' 16 16 32/\d'.dep<=2:=⟨_,rfl,qlf.mono (by decide) (by decide) (by decide),by simp [Dl.dep]⟩
  have P4:∃ d':Dl,(Dl.joined (.rests 1 8 3 4) (.skew 16 2 5 2 1)).t=d'.t/\Dr d' 16 16 32/\d'.dep<=2:=⟨_,rfl,qkR.mono (by decide) (by decide) (by decide),by simp [Dl.dep]⟩
  obtain ⟨t,ht,d',rfl,D',dl⟩:=qhr k1 k2 (P:=λt=>∃ d':Dl,t=d'.t/\Dr d' 16 16 32/\d'.dep<=2) P1 P2 P3 P4;have hg:jq G5 p=some [(Dl.joined (.joined (.skew (1+x) 1 2 1 1) (.table 2 [[1,0]])) d).t,(Dl.joined e (.joined (.skew (1+x) 1 2 1 1) (.table 2 [[1,0]]))).t,(Dl.joined (.skew 8 1 3 1 1) (.rests 2 16 5 7)).t,(Dl.joined (.rests 1 8 3 4) (.skew 16 2 5 2 1)).t]:=by
   unfold jq;rw [g5];rfl
  rw [L3.ixR,hg];simp only [ht];exact h d' G5 D' dl (L5.mono (by omega)) EE
 ·simp only [z9,tb3,o3,v3,c3,j0,QG,getElem?_cons_zero,getElem?_cons_succ,k4,decide_false,Bool.false_eq_true,if_false,qU];rw [q6];simp only [zn,qH,qb,c3,cb3,v3,length_cons,length_nil,Nat.zero_add,Nat.reduceAdd,Nat.zero_lt_succ,getElem?_pos,getElem_cons_zero,qi,sizeLine_eq,Nat.reduceLeDiff,true_and];refine ⟨a,n+1,rfl,L1,by omega,λd G3 Dd dd L3' E3=>?_⟩;refine ⟨a,n+1+300,rfl,L3',by omega,λe G4 De de L4 E4=>?_⟩
  try simp
  exact h (.joined d e) G4 ((Dd.join De (by decide) (by decide) (by decide)).mono (by decide) (by decide) (by decide)) (by simp [Dl.dep];omega) (L4.mono (by omega)) (E1.trans (E3.trans E4))
structure SD (k n:Nat) (d:PyData):Prop where
 sh:d.showable=true
 nd:d.hasDict=false
 dp:d.depth<=k
 lv:d.leavesShort 13=true
 bk:d.bulk<=n
def SD.ok {k n:Nat} {d:PyData} (h:SD k n d) (hk:k<=40) (hn:n<=2 ^ 20):ShOk d:=⟨h.sh,h.nd,Nat.le_trans h.dp hk,h.lv,Nat.le_trans h.bk hn⟩
def SD.w {k n:Nat} {d:PyData} (h:SD k n d) (hk:k<=40) (hn:n<=2 ^ 20):ShW d:=(h.ok hk hn).w
def SD.mono {k n k' n':Nat} {d:PyData} (h:SD k n d) (hk:k<=k') (hn:n<=n'):SD k' n' d:=⟨h.sh,h.nd,Nat.le_trans h.dp hk,h.lv,Nat.le_trans h.bk hn⟩
def VX (k n:Nat):SD k n .none:=⟨rfl,rfl,Nat.zero_le _,rfl,Nat.zero_le _⟩
def YE (k n:Nat) (b:Bool):SD k n (.bool b):=⟨rfl,rfl,Nat.zero_le _,rfl,Nat.zero_le _⟩
def qM (k n:Nat) {i:Int} (h:-1000000<=i/\i<=1000000):SD k n (.int i):=by
 refine ⟨?_,rfl,Nat.zero_le _,?_,Nat.zero_le _⟩
 ·simp only [PyData.showable];have:i.natAbs<2 ^ 20:=by omega
  have h2:i.natAbs.log2<20\/i.natAbs=0:=by
   rcases Nat.eq_zero_or_pos i.natAbs with z|z
   ·exact .inr z
   ·exact .inl ((Nat.log2_lt (by omega)).mpr this)
  rcases h2 with h2|h2
  ·simp;omega
  ·simp [h2]
 ·have:=PyProof.Rows.intsShortAll_ints2 [i] (by intro n hn;simp at hn;subst hn;omega);simpa [PyData.intsShortAll,PyData.intsShort,PyData.leavesShort] using this
def QF (k n:Nat) {x:Str} (h:x.cps.size<=n) (hc:(x.cps.toList.all λc=>decide (c<16 ^ 8))=true):SD k n (.str x):=⟨rfl,rfl,Nat.zero_le _,hc,h⟩
structure SDs (k n:Nat) (ds:List PyData):Prop where
 sh:PyData.showableAll ds=true
 nd:PyData.hasDictAll ds=false
 dp:PyData.depthAll ds<=k
 lv:PyData.leavesShortAll 13 ds=true
 bk:PyData.bulkAll ds<=n
def ZU (k n:Nat):SDs k n []:=⟨rfl,rfl,Nat.zero_le _,rfl,Nat.zero_le _⟩
def qy {k n m s:Nat} {d:PyData} {ds:List PyData} (h:SD k n d) (t:SDs k m ds) (hs:n+1+m<=s):SDs k s (d::ds):=by
 refine ⟨?_,?_,?_,?_,?_⟩
 ·simp [PyData.showableAll,h.sh,t.sh]
 ·simp [PyData.hasDictAll,h.nd,t.nd]
 ·simp only [PyData.depthAll];exact Nat.max_le.mpr ⟨h.dp,t.dp⟩
 ·simp [PyData.leavesShortAll,h.lv,t.lv]
 ·simp only [PyData.bulkAll];have:=h.bk;have:=t.bk;omega
def qQ {k n:Nat} {ds:List PyData} (t:SDs k n ds):SD (k+1) n (.tuple ds):=by
 refine ⟨?_,?_,?_,?_,?_⟩
 ·simpa [PyData.showable] using t.sh
 ·simpa [PyData.hasDict] using t.nd
 ·simp only [PyData.depth];have:=t.dp;omega
 ·simpa [PyData.leavesShort] using t.lv
 ·simp only [PyData.bulk];exact t.bk
def JD {k n:Nat} {ds:List PyData} (t:SDs k n ds):SD (k+1) n (.list ds):=by
 refine ⟨?_,?_,?_,?_,?_⟩
 ·simpa [PyData.showable] using t.sh
 ·simpa [PyData.hasDict] using t.nd
 ·simp only [PyData.depth];have:=t.dp;omega
 ·simpa [PyData.leavesShort] using t.lv
 ·simp only [PyData.bulk];exact t.bk
def je {k n:Nat}:∀ {ds:List PyData},(∀ d∈ds,SD k n d)->SDs k (ds.length*(n+1)) ds
 |[],_=>ZU _ _
 |d::ds,h=>qy (h d (by simp)) (je λx hx=>h x (by simp [hx])) (by rw [length_cons,Nat.succ_mul];omega)
def D8 {k:Nat} {ns:List Int} (h:∀ n∈ns,-1000000<=n/\n<=1000000):SDs k ns.length (ns.map PyData.int):=by
 have:=je (k:=k) (n:=0) (ds:=ns.map PyData.int) (by intro d hd;obtain ⟨i,hi,rfl⟩:=mem_map.mp hd;exact qM _ _ (h i hi));simpa using this
def _root_.L3.Dps.append {G:Gp}:∀ {xs ys:List T} {ds es:List PyData},Dps G xs ds->Dps G ys es->Dps G (xs++ys) (ds++es)
 |_,_,_,_,.nil,b=>b
 |_,_,_,_,.cons a t,b=>.cons a (L3.Dps.append t b)
def _root_.L3.Dps.take {G:Gp}:∀ {xs:List T} {ds:List PyData} (i:Nat),Dps G xs ds->Dps G (xs.take i) (ds.take i)
 |_,_,0,_=>.nil
 |_,_,_+1,.nil=>.nil
 |_,_,i+1,.cons a t=>.cons a (L3.Dps.take i t)
def _root_.L3.Dps.drop {G:Gp}:∀ {xs:List T} {ds:List PyData} (i:Nat),Dps G xs ds->Dps G (xs.drop i) (ds.drop i)
 |_,_,0,h=>h
 |_,_,_+1,.nil=>.nil
 |_,_,i+1,.cons a t=>L3.Dps.drop i t
def al (cs:List (Int×Int)):List Int:=cs.map (·.2)
end Bk
namespace Pu
open PySem L2 L3
def cif {α:Type} (P:Prop) (a b:α):α:=@ite α P (Classical.propDecidable P) a b
def q0 {α:Type} {P:Prop} {a b:α} (h:P):cif P a b=a:=@if_pos P (Classical.propDecidable P) h α a b
def JA {α:Type} {P:Prop} {a b:α} (h:¬ P):cif P a b=b:=@if_neg P (Classical.propDecidable P) h α a b
structure Tru (b:Bool):Prop where
 h:b=true
mutual
inductive Dq (G:Gp):T->PyData->Prop
 |non:Dq G .non .none
 |bl (b:Bool):Dq G (.bl b) (.bool b)
 |int (i:Int):Dq G (.int i) (.int i)
 |str (x:Str):Dq G (.str x) (.str x)
 |tup {xs:List T} {ds:List PyData}:Dqs G xs ds->Dq G (.tup xs) (.tuple ds)
 |lst {p:Addr} {xs:List T} {ds:List PyData}:G p=some (.lst xs)->Dqs G xs ds->Dq G (.ref p) (.list ds)
inductive Dqs (G:Gp):List T->List PyData->Prop
 |nil:Dqs G [] []
 |cons {x:T} {d:PyData} {xs:List T} {ds:List PyData}:Dq G x d->Dqs G xs ds->Dqs G (x::xs) (d::ds)
end
mutual
def Dq.up {G G':Gp} (e:Ex G G'):∀ {x:T} {d:PyData},Dq G x d->Dq G' x d
 |_,_,.non=>.non
 |_,_,.bl b=>.bl b
 |_,_,.int i=>.int i
 |_,_,.str x=>.str x
 |_,_,.tup h=>.tup (Dqs.up e h)
 |_,_,.lst h1 h2=>.lst (e _ _ h1) (Dqs.up e h2)
def Dqs.up {G G':Gp} (e:Ex G G'):∀ {x:List T} {d:List PyData},Dqs G x d->Dqs G' x d
 |_,_,.nil=>.nil
 |_,_,.cons a b=>.cons (Dq.up e a) (Dqs.up e b)
end
def jd {G:Gp} {p:Addr} {xs:List T} (h:G p=some (.lst xs)):jq G p=some xs:=by unfold jq;rw [h]
mutual
def Dq.dp {G:Gp}:∀ {x:T} {d:PyData},Dq G x d->Dp G x d
 |_,_,.non=>.non
 |_,_,.bl b=>.bl b
 |_,_,.int i=>.int i
 |_,_,.str x=>.str x
 |_,_,.tup h=>.tup (Dqs.dp h)
 |_,_,.lst h1 h2=>.lst (jd h1) (Dqs.dp h2)
def Dqs.dp {G:Gp}:∀ {x:List T} {d:List PyData},Dqs G x d->Dps G x d
 |_,_,.nil=>.nil
 |_,_,.cons a b=>.cons (Dq.dp a) (Dqs.dp b)
end
def Dqs.length {G:Gp}:∀ {xs:List T} {ds:List PyData},Dqs G xs ds->xs.length=ds.length
 |_,_,.nil=>rfl
 |_,_,.cons _ b=>by simp [Dqs.length b]
def Dqs.get {G:Gp}:∀ {xs:List T} {ds:List PyData} {i:Nat} {d:PyData},Dqs G xs ds->ds[i]?=some d->∃ x,xs[i]?=some x/\Dq G x d
 |_,_,_,_,.nil,e=>by simp at e
 |_,_,0,_,.cons r _,e=>by simp at e;subst e;exact ⟨_,rfl,r⟩
 |_,_,i+1,d,.cons _ t,e=>by
  obtain ⟨u,h1,h2⟩:=Dqs.get (i:=i) (d:=d) t (by simpa using e);exact ⟨u,by simpa using h1,h2⟩
def Dqs.append {G:Gp}:∀ {xs:List T} {ds:List PyData} {ys:List T} {es:List PyData},Dqs G xs ds->Dqs G ys es->Dqs G (xs++ys) (ds++es)
 |_,_,_,_,.nil,h=>h
 |_,_,_,_,.cons a b,h=>.cons a (Dqs.append b h)
def Dqs.drop {G:Gp}:∀ {xs:List T} {ds:List PyData} (n:Nat),Dqs G xs ds->Dqs G (xs.drop n) (ds.drop n)
 |_,_,0,h=>h
 |_,_,_+1,.nil=>.nil
 |_,_,n+1,.cons _ b=>Dqs.drop n b
def Dqs.take {G:Gp}:∀ {xs:List T} {ds:List PyData} (n:Nat),Dqs G xs ds->Dqs G (xs.take n) (ds.take n)
 |_,_,0,h=>by simp;exact .nil
 |_,_,_+1,.nil=>.nil
 |_,_,n+1,.cons a b=>.cons a (Dqs.take n b)
def Dqs.ints {G:Gp}:∀ {ns:List Int} {xs:List T},Dqs G xs (ns.map PyData.int)->xs=ns.map T.int
 |[],_,.nil=>rfl
 |n::ns,_,.cons a b=>by cases a;rw [Dqs.ints b];rfl
def Dqs.ofInts {G:Gp}:∀ (ns:List Int),Dqs G (ns.map T.int) (ns.map PyData.int)
 |[]=>.nil
 |n::r=>.cons (.int n) (Dqs.ofInts r)
def rs (D:Addr->Prop) (G:Gp):Gp:=λb=>cif (D b) none (G b)
def qT {D:Addr->Prop} {G:Gp} {b:Addr} {o:O} (h:rs D G b=some o):¬ D b/\G b=some o:=by
 unfold rs cif at h;split at h
 ·cases h
 ·rename_i n;exact ⟨n,h⟩
def Z7 {D:Addr->Prop} {G:Gp} {b:Addr} (n:¬ D b):rs D G b=G b:=by unfold rs;exact JA n
def C9 {D:Addr->Prop} {G:Gp}:Ex (rs D G) G:=λb o h=>(qT h).2
def J7 {D:Addr->Prop} {G G':Gp} (e:Ex G G'):Ex (rs D G) (rs D G'):=λb o h=>by
 obtain ⟨n,h⟩:=qT h;rw [Z7 n];exact e _ _ h
def ju {D D':Addr->Prop} {G:Gp} (h:∀ b,D' b->D b):Ex (rs D G) (rs D' G):=λb o e=>by
 obtain ⟨n,e⟩:=qT e;rw [Z7 λz=>n (h b z)];exact e
def Dom (D:Addr->Prop) (G:Gp):Prop:=∀ b,D b->G b≠none
def Dom.up {D:Addr->Prop} {G G':Gp} (h:Dom D G) (e:Ex G G'):Dom D G':=λb d z=>by
 cases g:G b with
 |none=>exact h b d g
 |some o=>rw [e _ _ g] at z;cases z
def qff {D:Addr->Prop} {G:Gp} {p:Addr} {o:O} (hd:Dom D G) (hp:G p=none):rs D (gu G p o) p=some o:=by
 rw [Z7 λz=>hd p z hp,qE]
inductive Sl where
 |un|sh (d:PyData)|ow (ds:List PyData)
abbrev Rho:=List Sl
def Sl.d:Sl->Option PyData
 |.un=>none|.sh d=>some d|.ow ds=>some (.list ds)
def vw (ρ:Rho) (i:Nat):Option PyData:=(ρ[i]?).bind Sl.d
def D6 (fv:List Nat) (D:Addr->Prop) (G:Gp) (τ:St3) (ρ:Rho):Prop:=∀ i∈fv,∀ d,vw ρ i=some d->∃ t,τ[i]?=some (some t)/\Dq (rs D G) t d
def D6.up {fv:List Nat} {D:Addr->Prop} {G G':Gp} {τ:St3} {ρ:Rho} (h:D6 fv D G τ ρ) (e:Ex G G'):D6 fv D G' τ ρ:=λi hi d hd=>
 let ⟨t,a,b⟩:=h i hi d hd;⟨t,a,b.up (J7 e)⟩
def D6.l {fv gv:List Nat} {D:Addr->Prop} {G:Gp} {τ:St3} {ρ:Rho} (h:D6 (fv++gv) D G τ ρ):D6 fv D G τ ρ:=λi hi=>h i (by simp [hi])
def D6.r {fv gv:List Nat} {D:Addr->Prop} {G:Gp} {τ:St3} {ρ:Rho} (h:D6 (fv++gv) D G τ ρ):D6 gv D G τ ρ:=λi hi=>h i (by simp [hi])
def Nw (D:Addr->Prop) (G G':Gp) (x:T) (d:PyData):Prop:=d=.none\/∃ p xs ds,x=.ref p/\d=.list ds/\G p=none/\G' p=some (.lst xs)/\Dqs (rs (λb=>D b\/b=p) G') xs ds
def Nw.back {D:Addr->Prop} {G0 G G':Gp} {x:T} {d:PyData} (h:Nw D G G' x d) (e:Ex G0 G):Nw D G0 G' x d:=by
 rcases h with h|⟨p,xs,ds,a,b,c,r⟩
 ·exact .inl h
 refine .inr ⟨p,xs,ds,a,b,?_,r⟩;cases z:G0 p with
 |none=>rfl
 |some o=>rw [e _ _ z] at c;cases c
structure PuE (t:TE3) where
 f:Rho->Option PyData
 fv:List Nat
 nw:Bool
 ok:∀ {D τ ρ G} {q:Q3} {d},D6 fv D G τ ρ->Dom D G->f ρ=some d->(∀ x G',Ex G G'->Dq (rs D G') x d->(nw=true->Nw D G G' x d)->q x G')->t τ G q
structure PuC (t:TT3) where
 f:Rho->Option Bool
 fv:List Nat
 ok:∀ {D τ ρ G} {q:Bool->Gp->Prop} {k},D6 fv D G τ ρ->Dom D G->f ρ=some k->(∀ G',Ex G G'->q k G')->t τ G q
structure PuA (t:TA3) where
 f:Rho->Option (List PyData)
 fv:List Nat
 n:Nat
 ln:∀ {ρ d},f ρ=some d->d.length=n
 ok:∀ {D τ ρ G} {q:List T->Gp->Prop} {d},D6 fv D G τ ρ->Dom D G->f ρ=some d->(∀ x G',Ex G G'->Dqs (rs D G') x d->q x G')->t τ G q
structure PuO (t:TO3) where
 f:Rho->Option (Option Int)
 fv:List Nat
 ok:∀ {D τ ρ G} {q:Option Int->Gp->Prop} {k},D6 fv D G τ ρ->Dom D G->f ρ=some k->(∀ G',Ex G G'->q k G')->t τ G q
structure PuI (t:TI3) where
 f:Rho->Option (List PyData)
 fv:List Nat
 /-- numbers alone -/
 nm:Bool
 ok:∀ {D τ ρ G} {r:List T->(Gp->Prop)->Gp->Prop} {ds},D6 fv D G τ ρ->Dom D G->f ρ=some ds ->
  (∀ items stay G',Ex G G'->Dqs (rs D G') items ds->(∀ G'',(nm=true\/Ex (rs D G') G'')->stay G'')->(nm=true->∃ ns:List Int,ds=ns.map PyData.int)->r items stay G')->t τ G r
structure OpD (r:R3) where
 f:PyData->PyData->Option PyData
 nw:Bool
 ok:∀ {D G x y d e v} {q:Q3},Dq (rs D G) x d->Dq (rs D G) y e->Dom D G->f d e=some v->(∀ z G',Ex G G'->Dq (rs D G') z v->(nw=true->Nw D G G' z v)->q z G')->r x y G q
structure FnD (r:List T->Gp->Q3->Prop) where
 f:List PyData->Option PyData
 nw:Bool
 ok:∀ {D G xs ds v} {q:Q3},Dqs (rs D G) xs ds->Dom D G->f ds=some v->(∀ z G',Ex G G'->Dq (rs D G') z v->(nw=true->Nw D G G' z v)->q z G')->r xs G q
def bV (i:Nat):PuE (v3 i):=⟨λρ=>vw ρ i,[i],false,λhv hd hf k=>by
 obtain ⟨t,e,h⟩:=hv i (by simp) _ hf;unfold v3;rw [e];exact k t _ Ex.refl h (λz=>by cases z)⟩
def qC (i:Int):PuE (c3 (.int i)):=⟨λ_=>some (.int i),[],false,λhv hd hf k=>by cases hf;exact k _ _ Ex.refl (.int i) (λz=>by cases z)⟩
def bBl (i:Bool):PuE (c3 (.bl i)):=⟨λ_=>some (.bool i),[],false,λhv hd hf k=>by cases hf;exact k _ _ Ex.refl (.bl i) (λz=>by cases z)⟩
def Q9 (i:Str):PuE (c3 (.str i)):=⟨λ_=>some (.str i),[],false,λhv hd hf k=>by cases hf;exact k _ _ Ex.refl (.str i) (λz=>by cases z)⟩
def qdl:PuE (c3 .non):=⟨λ_=>some .none,[],false,λhv hd hf k=>by cases hf;exact k _ _ Ex.refl .non (λz=>by cases z)⟩
def bO {r:R3} {ta tb:TE3} (R:OpD r) (a:PuE ta) (b:PuE tb):PuE (o3 r ta tb):=
 ⟨λρ=>(a.f ρ).bind λx=>(b.f ρ).bind λy=>R.f x y,a.fv++b.fv,R.nw,λhv hd hf k=>by
  obtain ⟨x,e1,hf⟩:=obb hf;obtain ⟨y,e2,hf⟩:=obb hf;exact a.ok hv.l hd e1 λx' G1 E1 D1 _=>b.ok (hv.r.up E1) (hd.up E1) e2 λy' G2 E2 D2 _=>R.ok (D1.up (J7 E2)) D2 ((hd.up E1).up E2) hf λz G3 E3 D3 N3=>k z G3 ((E1.trans E2).trans E3) D3 λh=>(N3 h).back (E1.trans E2)⟩
def qJ:PuA qi:=⟨λ_=>some [],[],0,(λh=>by cases h;rfl),λhv hd hf k=>by cases hf;exact k _ _ Ex.refl .nil⟩
def qf {ta:TE3} {tr:TA3} (a:PuE ta) (r:PuA tr):PuA (qb ta tr):=
 ⟨λρ=>(a.f ρ).bind λx=>(r.f ρ).bind λxs=>some (x::xs),a.fv++r.fv,r.n+1,(λhf=>by
  obtain ⟨x,e1,hf⟩:=obb hf;obtain ⟨xs,e2,hf⟩:=obb hf;cases hf;simp [r.ln e2]),λhv hd hf k=>by
  obtain ⟨x,e1,hf⟩:=obb hf;obtain ⟨xs,e2,hf⟩:=obb hf;cases hf;exact a.ok hv.l hd e1 λx' G1 E1 D1 _=>r.ok (hv.r.up E1) (hd.up E1) e2 λy' G2 E2 D2=>k _ G2 (E1.trans E2) (.cons (D1.up (J7 E2)) D2)⟩
def few {n:Nat} (h:Tru (Nat.ble n 1000)):n<=sizeLine:=Nat.le_trans (Nat.le_of_ble_eq_true h.h) (by rw [sizeLine_eq];omega)
def ja {t:TA3} (a:PuA t) (hn:Tru (Nat.ble a.n 1000)):PuE (qH t):=⟨λρ=>(a.f ρ).map .tuple,a.fv,false,λhv hd hf k=>by
 obtain ⟨xs,e1,rfl⟩:=Option.map_eq_some_iff.mp hf;exact a.ok hv hd e1 λx G1 E1 D1=>⟨by rw [D1.length,a.ln e1];exact few hn,k _ _ E1 (.tup D1) (λz=>by cases z)⟩⟩
def DW {D:Addr->Prop} {G:Gp} {p:Addr} {xs:List T} {ds:List PyData} (hp:G p=none) (h:Dqs (rs D G) xs ds):Nw D G (gu G p (.lst xs)) (.ref p) (.list ds):=
 .inr ⟨p,xs,ds,rfl,rfl,hp,qE,h.up λb o e=>by
  obtain ⟨n,e⟩:=qT e;have:b≠p:=by rintro rfl;rw [hp] at e;cases e
  rw [Z7 (by rintro (z|z);exact n z;exact this z),jT this];exact e⟩
def J5 {D:Addr->Prop} {G:Gp} {p:Addr} {xs:List T} {ds:List PyData} (hd:Dom D G) (hp:G p=none) (h:Dqs (rs D G) xs ds):Dq (rs D (gu G p (.lst xs))) (.ref p) (.list ds):=
 .lst (qff hd hp) (h.up (J7 (QY hp)))
def RE {t:TA3} (a:PuA t) (hn:Tru (Nat.ble a.n 1000)):PuE (jR t):=⟨λρ=>(a.f ρ).map .list,a.fv,true,λhv hd hf k=>by
 obtain ⟨xs,e1,rfl⟩:=Option.map_eq_some_iff.mp hf;exact a.ok hv hd e1 λx G1 E1 D1=>⟨by rw [D1.length,a.ln e1];exact few hn,λp hp=>k _ _ (E1.trans (QY hp)) (J5 (hd.up E1) hp D1) λ_=>(DW hp D1).back E1⟩⟩
def zq {r:List T->Gp->Q3->Prop} {t:TA3} (R:FnD r) (a:PuA t):PuE (cb3 r t):=
 ⟨λρ=>(a.f ρ).bind R.f,a.fv,R.nw,λhv hd hf k=>by
  obtain ⟨x,e1,hf⟩:=obb hf;exact a.ok hv hd e1 λx' G1 E1 D1=>R.ok D1 (hd.up E1) hf λz G3 E3 D3 N3=>k z G3 (E1.trans E3) D3 λh=>(N3 h).back E1⟩
def asB:PyData->Option Bool
 |.bool b=>some b
 |_=>none
def asI:PyData->Option Int
 |.int b=>some b
 |_=>none
def KB {d:PyData} {b:Bool} (h:asB d=some b):d=.bool b:=by cases d<;>simp [asB] at h;subst h;rfl
def KN {d:PyData} {b:Int} (h:asI d=some b):d=.int b:=by cases d<;>simp [asI] at h;subst h;rfl
def bTb {t:TE3} (a:PuE t):PuC (tb3 t):=⟨λρ=>(a.f ρ).bind asB,a.fv,λhv hd hf k=>by
 obtain ⟨x,e1,hf⟩:=obb hf;have:=KB hf;subst this;exact a.ok hv hd e1 λx' G1 E1 D1 _=>by cases D1;exact k G1 E1⟩
def bOr {t u:TT3} (a:PuC t) (b:PuC u):PuC (or3 t u):=⟨λρ=>(a.f ρ).bind λk=>if k then some true else b.f ρ,a.fv++b.fv,λhv hd hf k=>by
 obtain ⟨x,e1,hf⟩:=obb hf;refine a.ok hv.l hd e1 λG1 E1=>?_;cases x with
 |false=>exact b.ok (hv.r.up E1) (hd.up E1) hf λG2 E2=>k G2 (E1.trans E2)
 |true=>cases hf;exact k G1 E1⟩
def KI {t:TT3} (a:PuC t):PuC (W7 t):=⟨λρ=>(a.f ρ).map (! ·),a.fv,λhv hd hf k=>by
 obtain ⟨x,e1,hf⟩:=Option.map_eq_some_iff.mp hf;subst hf;exact a.ok hv hd e1 λG1 E1=>k G1 E1⟩
def bTt:PuC tt3:=⟨λ_=>some true,[],λhv hd hf k=>by cases hf;exact k _ Ex.refl⟩
def EY {ta tb:TE3} (a:PuE ta) (b:PuE tb):PuE (JZ ta tb):=⟨λρ=>((a.f ρ).bind asB).bind λk=>if k then b.f ρ else some (.bool false),a.fv++b.fv,false,λhv hd hf k=>by
 obtain ⟨x,e1,hf⟩:=obb hf;obtain ⟨y,e1,e2⟩:=obb e1;have:=KB e2;subst this;refine a.ok hv.l hd e1 λx' G1 E1 D1 _=>?_;cases D1;cases x with
 |true=>exact b.ok (hv.r.up E1) (hd.up E1) hf λz G2 E2 D2 _=>k z G2 (E1.trans E2) D2 (λz=>by cases z)
 |false=>cases hf;exact k _ G1 E1 (.bl false) (λz=>by cases z)⟩
def qeG {ta:TE3} (a:PuE ta):PuE (WO ta):=⟨λρ=>((a.f ρ).bind asB).map λk=>.bool (!k),a.fv,false,λhv hd hf k=>by
 obtain ⟨x,e1,hf⟩:=Option.map_eq_some_iff.mp hf;obtain ⟨y,e1,e2⟩:=obb e1;have:=KB e2;subst this;subst hf;refine a.ok hv hd e1 λx' G1 E1 D1 _=>?_;cases D1;exact k _ G1 E1 (.bl _) (λz=>by cases z)⟩
def NP {ta:TE3} (a:PuE ta):PuE (u3 UP ta):=⟨λρ=>((a.f ρ).bind asI).map λi=>.int (-i),a.fv,false,λhv hd hf k=>by
 obtain ⟨x,e1,hf⟩:=Option.map_eq_some_iff.mp hf;obtain ⟨y,e1,e2⟩:=obb e1;have:=KN e2;subst this;subst hf;refine a.ok hv hd e1 λx' G1 E1 D1 _=>?_;cases D1;exact k _ G1 E1 (.int _) (λz=>by cases z)⟩
def qjW {ta:TE3} (a:PuE ta):PuE (bl3 ta):=⟨λρ=>((a.f ρ).bind asI).map λi=>.int (Builtin.Int.intBits i),a.fv,false,λhv hd hf k=>by
 obtain ⟨x,e1,hf⟩:=Option.map_eq_some_iff.mp hf;obtain ⟨y,e1,e2⟩:=obb e1;have:=KN e2;subst this;subst hf;refine a.ok hv hd e1 λx' G1 E1 D1 _=>?_;cases D1;exact k _ G1 E1 (.int _) (λz=>by cases z)⟩
def tyD:PyData->Option String
 |.none=>some "NoneType" |.bool _=>some "bool" |.int _=>some "int" |.str _=>some "str" |.tuple _=>some "tuple" |.list _=>some "list" |.dict _=>none
def qa2 {ta:TE3} (g:String->Bool) (a:PuE ta):PuE (RD g ta):=⟨λρ=>(a.f ρ).bind λd=>(tyD d).map λt=>.bool (g t),a.fv,false,λhv hd hf k=>by
 obtain ⟨x,e1,hf⟩:=obb hf;obtain ⟨y,e2,hf⟩:=Option.map_eq_some_iff.mp hf;subst hf;refine a.ok hv hd e1 λx' G1 E1 D1 _=>?_;have:tyT G1 x'=some y:=by
  cases D1 with
  |lst h _=>have g:=jd (qT h).2;simp [tyT,g];simpa [tyD] using e2
  |_=>simpa [tyT,tyD] using e2
 simp only [this];exact k _ G1 E1 (.bl _) (λz=>by cases z)⟩
def bNp:PuO np3:=⟨λ_=>some none,[],λhv hd hf k=>by cases hf;exact k _ Ex.refl⟩
def bSp {t:TE3} (a:PuE t):PuO (sp3 t):=⟨λρ=>((a.f ρ).bind asI).map some,a.fv,λhv hd hf k=>by
 obtain ⟨x,e1,hf⟩:=Option.map_eq_some_iff.mp hf;obtain ⟨y,e1,e2⟩:=obb e1;have:=KN e2;subst this;subst hf;refine a.ok hv hd e1 λx' G1 E1 D1 _=>?_;cases D1;exact k G1 E1⟩
def Dqs.cut {G:Gp} {xs:List T} {ds:List PyData} (h:Dqs G xs ds) (lo hi:Option Int):Dqs G (YY xs lo hi) (YY ds lo hi):=by
 unfold YY;rw [h.length];exact (h.drop _).take _
def slD (d:PyData) (lo hi:Option Int):Option PyData:=match d with
 |.tuple xs=>cif (HT.sIx xs.length 0 lo=0/\HT.sIx xs.length xs.length hi=xs.length) none (some (.tuple (YY xs lo hi)))
 |.list xs=>some (.list (YY xs lo hi))
 |_=>none
def bSl {te:TE3} {tl th:TO3} (a:PuE te) (l:PuO tl) (h:PuO th):PuE (C0 te tl th):=⟨λρ=>(a.f ρ).bind λd=>(l.f ρ).bind λlo=>(h.f ρ).bind λhi=>slD d lo hi,a.fv++(l.fv++h.fv),false,λhv hd hf k=>by
 obtain ⟨d,e1,hf⟩:=obb hf;obtain ⟨lo,e2,hf⟩:=obb hf;obtain ⟨hi,e3,hf⟩:=obb hf;refine a.ok hv.l hd e1 λx' G1 E1 D1 _=>l.ok (hv.r.l.up E1) (hd.up E1) e2 λG2 E2=>h.ok (hv.r.r.up (E1.trans E2)) (hd.up (E1.trans E2)) e3 λG3 E3=>?_;have E:=(E1.trans E2).trans E3;have D3:=(D1.up (J7 E2)).up (J7 E3);unfold slD at hf;cases D3 with
 |tup hs=>
  simp only [cif] at hf;split at hf
  ·cases hf
  ·rename_i n;cases hf;exact ⟨by rw [hs.length];exact n,k _ _ E (.tup (hs.cut _ _)) (λz=>by cases z)⟩
 |lst g hs=>
  simp only at hf;cases hf;simp only [sl3,jd (qT g).2];intro p hp;exact k _ _ (E.trans (QY hp)) (J5 (hd.up E) hp (hs.cut _ _)) (λz=>by cases z)
 |_=>simp at hf⟩
def opI (g:Int->Int->Int):OpD (iI g):=⟨λd e=>match d,e with|.int i,.int j=>some (.int (g i j))|_,_=>none,false,λ{D G x y d e v q} hx hy hd hf k=>by
 cases hx<;>try (simp at hf;done)
 cases hy<;>try (simp at hf;done)
 cases hf;exact k _ _ Ex.refl (.int _) (λz=>by cases z)⟩
def cI (C:Int->Int->Prop) (g:Int->Int->Int) (d e:PyData):Option PyData:=match d,e with|.int i,.int j=>cif (C i j) (some (.int (g i j))) none|_,_=>none
def opC (C:Int->Int->Prop) (g:Int->Int->Int):OpD (iC C g):=⟨cI C g,false,λ{D G x y d e v q} hx hy hd hf k=>by
 unfold cI at hf;cases hx<;>try (simp at hf;done)
 cases hy<;>try (simp at hf;done)
 simp only [cif] at hf;split at hf
 ·rename_i c;cases hf;exact ⟨c,k _ _ Ex.refl (.int _) (λz=>by cases z)⟩
 ·cases hf⟩
def opB (g:Int->Int->Bool):OpD (iB g):=⟨λd e=>match d,e with|.int i,.int j=>some (.bool (g i j))|_,_=>none,false,λ{D G x y d e v q} hx hy hd hf k=>by
 cases hx<;>try (simp at hf;done)
 cases hy<;>try (simp at hf;done)
 cases hf;exact k _ _ Ex.refl (.bl _) (λz=>by cases z)⟩
def qcE:PyData->PyData->Option Bool
 |.none,.none=>some true|.none,.int _=>some false|.int _,.none=>some false|.none,.bool _=>some false|.bool _,.none=>some false|.none,.str _=>some false|.str _,.none=>some false
 |.int i,.int j=>some (decide (i=j))|.bool i,.bool j=>some (decide (i=j))|.str i,.str j=>some (decide (i=j))
 |.int _,.str _=>some false|.str _,.int _=>some false|.bool _,.str _=>some false|.str _,.bool _=>some false
 |_,_=>none
def T7 {G:Gp} {x y:T} {d e:PyData} (hx:Dq G x d) (hy:Dq G y e):QG x y=qcE d e:=by
 cases hx<;>cases hy<;>rfl
def eqD (neg:Bool) (d e:PyData):Option PyData:=match qcE d e with
 |some k=>some (.bool (if neg then !k else k))
 |none=>cif (dpt d<=40/\dpt d≠0) ((Z9 d e).map λb=>.bool (if neg then !b else b)) none
def DT (neg:Bool):OpD (j0 neg):=⟨eqD neg,false,λ{D G x y d e v q} hx hy hd hf k=>by
 unfold j0;rw [T7 hx hy];unfold eqD at hf;cases h:qcE d e with
 |some b=>rw [h] at hf;cases hf;exact k _ _ Ex.refl (.bl _) (λz=>by cases z)
 |none=>
  rw [h] at hf;simp only [cif] at hf ⊢;split at hf
  ·rename_i c;obtain ⟨b,e1,rfl⟩:=Option.map_eq_some_iff.mp hf;exact ⟨d,e,b,(hx.up C9).dp,(hy.up C9).dp,e1,c.1,c.2,k _ _ Ex.refl (.bl _) (λz=>by cases z)⟩
  ·cases hf⟩
def qhy (neg:Bool) (d e:PyData):Option PyData:=match d,e with|.bool i,.bool j=>some (.bool (if neg then i != j else i==j))|_,_=>none
def qcd (neg:Bool):OpD (qdm neg):=⟨qhy neg,false,λ{D G x y d e v q} hx hy hd hf k=>by
 unfold qhy at hf;cases hx<;>try (simp at hf;done)
 cases hy<;>try (simp at hf;done)
 cases hf;exact k _ _ Ex.refl (.bl _) (λz=>by cases z)⟩
def ixD (d e:PyData):Option PyData:=match d,e with
 |.tuple xs,.int i=>atI xs i
 |.list xs,.int i=>atI xs i
 |_,_=>none
def Dqs.atI {G:Gp} {xs:List T} {ds:List PyData} {i:Int} {d:PyData} (h:Dqs G xs ds) (e:L2.atI ds i=some d):∃ x,L2.atI xs i=some x/\Dq G x d:=by
 unfold L2.atI at e ⊢;rw [h.length];obtain ⟨j,e1,e2⟩:=obb e;obtain ⟨x,hx,r⟩:=h.get e2;exact ⟨x,by rw [e1];exact hx,r⟩
def VD:OpD ix3:=⟨ixD,false,λ{D G x y d e v q} hx hy hd hf k=>by
 unfold ixD at hf;cases hx with
 |tup hs=>
  cases hy<;>try (simp at hf;done)
  obtain ⟨x,e1,r⟩:=hs.atI hf;simp only [ix3,e1];exact k _ _ Ex.refl r (λz=>by cases z)
 |lst g hs=>
  cases hy<;>try (simp at hf;done)
  obtain ⟨x,e1,r⟩:=hs.atI hf;simp only [ix3,jd (qT g).2,e1];exact k _ _ Ex.refl r (λz=>by cases z)
 |_=>simp at hf⟩
def qck (d e:PyData):Option PyData:=match d,e with
 |.tuple xs,.tuple ys=>cif (xs≠[]/\xs.length+ys.length<=sizeLine) (some (.tuple (xs++ys))) none
 |.list xs,.list ys=>cif (xs.length+ys.length<=sizeLine) (some (.list (xs++ys))) none
 |.int i,.int j=>some (.int (i+j))
 |_,_=>none
def LR:OpD zN:=⟨qck,false,λ{D G x y d e v q} hx hy hd hf k=>by
  unfold qck at hf;cases hx with
  | int i => cases hy <;> try (simp at hf;done)
             cases hf;exact k _ _ Ex.refl (.int _) (λz=>by cases z)
  |tup hs=>
    cases hy<;>try (simp at hf;done)
    rename_i hs2;simp only [cif] at hf;split at hf
    · rename_i c;cases hf;refine ⟨?_,by rw [hs.length,hs2.length];exact c.2,k _ _ Ex.refl (.tup (hs.append hs2)) (λz=>by cases z)⟩;rintro rfl;cases hs;exact c.1 rfl
    · cases hf
  |lst g hs=>
    cases hy<;>try (simp at hf;done)
    rename_i g2 hs2;simp only [cif] at hf;split at hf
    · rename_i c;cases hf;simp only [zN,(qT g).2,(qT g2).2];exact ⟨by rw [hs.length,hs2.length];exact c,λp hp=>k _ _ (QY hp) (J5 hd hp (hs.append hs2)) (λz=>by cases z)⟩
    · cases hf
  |_=>simp at hf⟩
def qdp (d e:PyData):Option PyData:=match d,e with
 |.list xs,.list ys=>cif (xs.length+ys.length<=sizeLine) (some (.list (xs++ys))) none
 |_,_=>none
def SQ:OpD zN:=⟨qdp,true,λ{D G x y d e v q} hx hy hd hf k=>by
 unfold qdp at hf;cases hx with
 |lst g hs=>
  cases hy<;>try (simp at hf;done)
  rename_i g2 hs2;simp only [cif] at hf;split at hf
  ·rename_i c;cases hf;simp only [zN,(qT g).2,(qT g2).2];exact ⟨by rw [hs.length,hs2.length];exact c,λp hp=>k _ _ (QY hp) (J5 hd hp (hs.append hs2)) λ_=>DW hp (hs.append hs2)⟩
  ·cases hf
 |_=>simp at hf⟩
def U4:PyData->Bool
 |.none=>true|.bool _=>true|.int _=>true|.str _=>true|_=>false
def qdo:PyData->PyData->Bool
 |.none,.none=>true
 |.bool a,.bool b=>a==b
 |.bool a,.int b=>(if a then 1 else 0)==b
 |.int a,.bool b=>a==(if b then 1 else 0)
 |.int a,.int b=>a==b
 |.str a,.str b=>a==b
 |_,_=>false
def EL {G:Gp} {x:T} {d:PyData} (h:Dq G x d):J0 x=U4 d:=by cases h<;>rfl
def VW {G:Gp}:∀ {x:List T} {d:List PyData},Dqs G x d->x.all J0=d.all U4
 |_,_,.nil=>rfl
 |_,_,.cons a b=>by rw [List.all_cons,List.all_cons,EL a,VW b]
def NA {G:Gp} {x y:T} {d e:PyData} (h:Dq G x d) (h':Dq G y e):eqF x y=qdo d e:=by cases h<;>cases h'<;>rfl
def UO {G:Gp} {x:T} {d:PyData} (h:Dq G x d):∀ {ys:List T} {es:List PyData},Dqs G ys es->(ys.any λy=>eqF y x)=es.any λy=>qdo y d
 |_,_,.nil=>rfl
 |_,_,.cons a b=>by rw [List.any_cons,List.any_cons,NA a h,UO h b]
def inD (neg:Bool) (d e:PyData):Option PyData:=match e with
 |.tuple ys=>cif (U4 d=true/\ys.all U4=true) (some (.bool (if neg then !(ys.any λy=>qdo y d) else (ys.any λy=>qdo y d)))) none
 |.list ys=>cif (U4 d=true/\ys.all U4=true) (some (.bool (if neg then !(ys.any λy=>qdo y d) else (ys.any λy=>qdo y d)))) none
 |_=>none
def qjZ (neg:Bool):OpD (in3 neg):=⟨inD neg,false,λ{D G x y d e v q} hx hy hd hf k=>by
 unfold inD at hf;cases hy with
 |tup hs=>
  simp only [cif] at hf;split at hf
  ·rename_i c;cases hf;refine ⟨by rw [EL hx];exact c.1,by rw [VW hs];exact c.2,?_⟩;rw [UO hx hs];exact k _ _ Ex.refl (.bl _) (λz=>by cases z)
  ·cases hf
 |lst g hs=>
  simp only [cif] at hf;split at hf
  ·rename_i c;cases hf;refine ⟨by rw [EL hx];exact c.1,?_⟩;simp only [jd (qT g).2];refine ⟨by rw [VW hs];exact c.2,?_⟩;rw [UO hx hs];exact k _ _ Ex.refl (.bl _) (λz=>by cases z)
  ·cases hf
 |_=>simp at hf⟩
def qfG:List PyData->Option PyData
 |[.tuple xs]=>some (.int xs.length)
 |[.list xs]=>some (.int xs.length)
 |_=>none
def TW:FnD V9:=⟨qfG,false,λ{D G xs ds v q} hx hd hf k=>by
 unfold qfG at hf;split at hf
 ·cases hx with
  |cons a b=>cases b;cases a;rename_i hs;cases hf;simp only [V9];rw [hs.length];exact k _ _ Ex.refl (.int _) (λz=>by cases z)
 ·cases hx with
  |cons a b=>cases b;cases a;rename_i g hs;cases hf;simp only [V9,jd (qT g).2];rw [hs.length];exact k _ _ Ex.refl (.int _) (λz=>by cases z)
 ·cases hf⟩
def qhu:List PyData->Option PyData
 |[.tuple xs]=>some (.list xs)
 |[.list xs]=>some (.list xs)
 |_=>none
def qhl:FnD UC:=⟨qhu,true,λ{D G xs ds v q} hx hd hf k=>by
 unfold qhu at hf;split at hf
 ·cases hx with
  |cons a b=>cases b;cases a;rename_i hs;cases hf;exact λp hp=>k _ _ (QY hp) (J5 hd hp hs) λ_=>DW hp hs
 ·cases hx with
  |cons a b=>cases b;cases a;rename_i g hs;cases hf;simp only [UC,jd (qT g).2];exact λp hp=>k _ _ (QY hp) (J5 hd hp hs) λ_=>DW hp hs
 ·cases hf⟩
def TD:List PyData->Option (List Bool)
 |[]=>some []
 |.bool i::r=>(TD r).map (i::·)
 |_=>none
def qah (ns:List Bool):TD (ns.map PyData.bool)=some ns:=by
 induction ns with
 |nil=>rfl
 |cons n r ih=>simp [TD,ih]
def KQ {G:Gp}:∀ {xs:List T} {ds:List PyData} {ns:List Bool},Dqs G xs ds->TD ds=some ns->qds xs=some (ns.all id)/\qhh xs=some (ns.any id)
 |_,_,_,.nil,h=>by simp [TD] at h;subst h;exact ⟨rfl,rfl⟩
 |_,.bool i::r,ns,.cons a b,h=>by
  simp only [TD] at h;obtain ⟨ms,e,rfl⟩:=Option.map_eq_some_iff.mp h;obtain ⟨h1,h2⟩:=KQ b e;cases a;simp [qds,qhh,h1,h2]
 |_,.int _::r,ns,_,h=>by simp [TD] at h
 |_,.none::r,ns,_,h=>by simp [TD] at h
 |_,.str _::r,ns,_,h=>by simp [TD] at h
 |_,.list _::r,ns,_,h=>by simp [TD] at h
 |_,.tuple _::r,ns,_,h=>by simp [TD] at h
 |_,.dict _::r,ns,_,h=>by simp [TD] at h
def qdN:List PyData->Option PyData
 |[.list xs]=>(TD xs).map λns=>.bool (ns.all id)
 |_=>none
def qdr:FnD S8:=⟨qdN,false,λ{D G xs ds v q} hx hd hf k=>by
 unfold qdN at hf;split at hf
 ·obtain ⟨ns,e,rfl⟩:=Option.map_eq_some_iff.mp hf;cases hx with
  |cons a b=>cases b;cases a;rename_i g hs;simp only [S8,jd (qT g).2,(KQ hs e).1];exact k _ _ Ex.refl (.bl _) (λz=>by cases z)
 ·cases hf⟩
def PSp (F:List PyData->Option PyData) (fr:Bool):Sp3:=λts G q=>∃ (D:Addr->Prop) (ds:List PyData) (d:PyData),Dqs (rs D G) ts ds/\Dom D G/\F ds=some d/\∀ x G',Ex G G'->Dq (rs D G') x d->(fr=true->Nw D G G' x d)->q x G'
def QN (F:List PyData->Option PyData) (fr:Bool):FnD (PSp F fr):=⟨F,fr,λ{D G xs ds v q} hx hd hf k=>⟨D,ds,v,hx,hd,hf,k⟩⟩
def qbJ:PyData->Option (List PyData)
 |.tuple xs=>some xs
 |.list xs=>some xs
 |_=>none
def MX {t:TE3} (a:PuE t):PuI (ZV t):=⟨λρ=>(a.f ρ).bind qbJ,a.fv,false,λ{D τ ρ G r ds} hv hd hf k=>by
 obtain ⟨d,e1,hf⟩:=obb hf;refine a.ok hv hd e1 λx G1 E1 D1 _=>?_;unfold qbJ at hf;cases D1 with
 |tup hs=>cases hf;exact k _ _ _ E1 hs (λ_ _=>trivial) (λz=>by cases z)
 |lst g hs=>
  cases hf;simp only [jd (qT g).2];refine k _ _ _ E1 hs (λG2 h=>?_) (λz=>by cases z);rcases h with h|h
  ·cases h
  ·exact jd (h _ _ g)
 |_=>simp at hf⟩
def qbt (lo:Int) (n:Nat):List Int:=(List.range n).map λ(i:Nat)=>lo+(i:Int)
def qbn (lo:Int) (n:Nat):R9 lo n=(qbt lo n).map T.int:=by simp [R9,qbt,map_map,Function.comp_def]
def qd9:List PyData->Option (List PyData)
 |[.int j]=>cif (-(2 ^ 62)<=j/\j<2 ^ 62) (some ((qbt 0 j.toNat).map PyData.int)) none
 |[.int i,.int j]=>cif (-(2 ^ 62)<=i/\i<2 ^ 62/\-(2 ^ 62)<=j/\j<2 ^ 62) (some ((qbt i (j-i).toNat).map PyData.int)) none
 |_=>none
def qit {t:TA3} (a:PuA t):PuI (QA t):=⟨λρ=>(a.f ρ).bind qd9,a.fv,true,λ{D τ ρ G r ds} hv hd hf k=>by
 obtain ⟨d,e1,hf⟩:=obb hf;refine a.ok hv hd e1 λx G1 E1 D1=>?_;unfold qd9 at hf;split at hf
 ·unfold cif at hf;split at hf
  ·rename_i c;cases hf;cases D1 with
   |cons a b=>cases b;cases a;simp only;rw [qbn];exact ⟨c,k _ _ _ E1 (Dqs.ofInts _) (λ_ _=>trivial) λ_=>⟨_,rfl⟩⟩
  ·cases hf
 ·unfold cif at hf;split at hf
  ·rename_i c;cases hf;cases D1 with
   |cons a b=>cases b with
    |cons b c'=>cases c';cases a;cases b;simp only;rw [qbn];exact ⟨c,k _ _ _ E1 (Dqs.ofInts _) (λ_ _=>trivial) λ_=>⟨_,rfl⟩⟩
  ·cases hf
 ·cases hf⟩
def qjm (us vs:List PyData):List PyData:=(us.zip vs).map λp=>.tuple [p.1,p.2]
def Dqs.zip {G:Gp}:∀ {xs:List T} {ds:List PyData} {ys:List T} {es:List PyData},Dqs G xs ds->Dqs G ys es->Dqs G (qi6 xs ys) (qjm ds es)
 |_,_,_,_,.nil,_=>by simp [qi6,qjm];exact .nil
 |_,_,_,_,.cons _ _,.nil=>by simp [qi6,qjm];exact .nil
 |_,_,_,_,.cons a b,.cons c d=>.cons (.tup (.cons a (.cons c .nil))) (Dqs.zip b d)
inductive Bd (H:Gp):List (Nat×T)->List (Nat×PyData)->Prop
 |nil:Bd H [] []
 |cons {i:Nat} {x:T} {d:PyData} {ts:List (Nat×T)} {bs:List (Nat×PyData)}:Dq H x d->Bd H ts bs->Bd H ((i,x)::ts) ((i,d)::bs)
def Bd.append {H:Gp}:∀ {ts:List (Nat×T)} {bs:List (Nat×PyData)} {us:List (Nat×T)} {cs:List (Nat×PyData)},Bd H ts bs->Bd H us cs->Bd H (ts++us) (bs++cs)
 |_,_,_,_,.nil,h=>h
 |_,_,_,_,.cons a b,h=>.cons a (Bd.append b h)
def Bd.up {H H':Gp} (e:Ex H H'):∀ {ts:List (Nat×T)} {bs:List (Nat×PyData)},Bd H ts bs->Bd H' ts bs
 |_,_,.nil=>.nil
 |_,_,.cons a b=>.cons (a.up e) (Bd.up e b)
def sets:St3->List (Nat×T)->St3
 |τ,[]=>τ
 |τ,p::r=>sets (τ.set p.1 (some p.2)) r
def D0:Rho->List (Nat×PyData)->Rho
 |ρ,[]=>ρ
 |ρ,p::r=>D0 (ρ.set p.1 (.sh p.2)) r
def R7:∀ (τ:St3) (a b:List (Nat×T)),sets τ (a++b)=sets (sets τ a) b
 |τ,[],b=>rfl
 |τ,p::a,b=>by simp only [cons_append,sets];exact R7 _ a b
structure PuG (g:TG3) where
 f:PyData->Option (List (Nat×PyData))
 tg:List Nat
 at':∀ {d bs},f d=some bs->∀ p∈bs,p.1∈tg
 ok:∀ {H x d bs},Dq H x d->f d=some bs->∃ ts,Bd H ts bs/\∀ τ G (q:St3->Gp->Prop),q (sets τ ts) G->g x τ G q
structure PuGs (g:CK) where
 f:List PyData->Option (List (Nat×PyData))
 tg:List Nat
 at':∀ {d bs},f d=some bs->∀ p∈bs,p.1∈tg
 ok:∀ {H x d bs},Dqs H x d->f d=some bs->∃ ts,Bd H ts bs/\∀ τ G (q:St3->Gp->Prop),q (sets τ ts) G->g x τ G q
def gN (i:Nat):PuG (gn3 i):=⟨λd=>some [(i,d)],[i],λh p hp=>by cases h;simp at hp;subst hp;simp,λhx h=>by cases h;exact ⟨_,.cons hx .nil,λτ G q hq=>hq⟩⟩
def qdn:PuGs ZW:=⟨λds=>match ds with|[]=>some []|_=>none,[],(λh p hp=>by split at h;cases h;cases hp;cases h),λhx h=>by
 split at h
 ·cases h;cases hx;exact ⟨[],.nil,λτ G q hq=>hq⟩
 ·cases h⟩
def UE {t:TG3} {u:CK} (a:PuG t) (b:PuGs u):PuGs (zh t u):=⟨λds=>match ds with|d::r=>(a.f d).bind λx=>(b.f r).map λy=>x++y|[]=>none,a.tg++b.tg,(λh p hp=>by
 split at h
 ·obtain ⟨x,e1,h⟩:=obb h;obtain ⟨y,e2,rfl⟩:=Option.map_eq_some_iff.mp h;rcases List.mem_append.mp hp with z|z
  ·exact List.mem_append.mpr (.inl (a.at' e1 p z))
  ·exact List.mem_append.mpr (.inr (b.at' e2 p z))
 ·cases h),λhx h=>by
 split at h
 ·obtain ⟨x,e1,h⟩:=obb h;obtain ⟨y,e2,rfl⟩:=Option.map_eq_some_iff.mp h;cases hx with
  |cons hx hr=>
   obtain ⟨ts,b1,k1⟩:=a.ok hx e1;obtain ⟨us,b2,k2⟩:=b.ok hr e2;refine ⟨ts++us,b1.append b2,λτ G q hq=>k1 τ G _ (k2 _ G q ?_)⟩;rw [← R7];exact hq
 ·cases h⟩
def qdq {u:CK} (n:Nat) (b:PuGs u):PuG (ZT n u):=⟨λd=>match d with|.tuple ds=>if ds.length=n then b.f ds else none|_=>none,b.tg,(λh p hp=>by
 split at h
 ·split at h
  ·exact b.at' h p hp
  ·cases h
 ·cases h),λhx h=>by
 split at h
 ·split at h
  ·rename_i c;cases hx with
   |tup hs=>
    obtain ⟨ts,b1,k1⟩:=b.ok hs h;exact ⟨ts,b1,λτ G q hq=>⟨by rw [hs.length];exact c,k1 τ G q hq⟩⟩
  ·cases h
 ·cases h⟩
structure VA (D:Addr->Prop) (G:Gp) (τ:St3) (ρ:Rho):Prop where
 len:ρ.length=τ.length
 vw:∀ i d,vw ρ i=some d->∃ t,τ[i]?=some (some t)/\Dq (rs D G) t d
def VA.view {D:Addr->Prop} {G:Gp} {τ:St3} {ρ:Rho} (h:VA D G τ ρ) (fv:List Nat):D6 fv D G τ ρ:=λi _ d e=>h.vw i d e
def VA.upx {D:Addr->Prop} {G G':Gp} {τ:St3} {ρ:Rho} (h:VA D G τ ρ) (e:Ex (rs D G) (rs D G')):VA D G' τ ρ:=⟨h.len,λi d hd=>let ⟨t,a,b⟩:=h.vw i d hd;⟨t,a,b.up e⟩⟩
def VA.up {D:Addr->Prop} {G G':Gp} {τ:St3} {ρ:Rho} (h:VA D G τ ρ) (e:Ex G G'):VA D G' τ ρ:=h.upx (J7 e)
def qf5 {ρ:Rho} {i j:Nat} {s:Sl}:vw (ρ.set i s) j=if i=j then (if i<ρ.length then s.d else none) else vw ρ j:=by
 unfold vw;rw [getElem?_set];split
 ·subst j;split
  ·rfl
  ·rfl
 ·rfl
def VA.set {D:Addr->Prop} {G:Gp} {τ:St3} {ρ:Rho} (h:VA D G τ ρ) {i:Nat} {x:T} {d:PyData} (hx:Dq (rs D G) x d):VA D G (τ.set i (some x)) (ρ.set i (.sh d)):=by
 refine ⟨by simp [h.len],λj e he=>?_⟩;rw [qf5] at he;split at he
 ·subst j;split at he
  ·rename_i l;cases he;refine ⟨x,?_,hx⟩;rw [getElem?_set,if_pos rfl,if_pos (by rw [← h.len];exact l)]
  ·cases he
 ·rename_i n;obtain ⟨t,a,b⟩:=h.vw j e he;exact ⟨t,by rw [getElem?_set,if_neg n];exact a,b⟩
def VA.sets {D:Addr->Prop} {G:Gp}:∀ {ts:List (Nat×T)} {bs:List (Nat×PyData)} {τ:St3} {ρ:Rho},VA D G τ ρ->Bd (rs D G) ts bs->VA D G (Pu.sets τ ts) (D0 ρ bs)
 |_,_,_,_,h,.nil=>h
 |_,_,_,_,h,.cons a b=>by unfold Pu.sets D0;exact VA.sets (h.set a) b
def VA.keep {D:Addr->Prop} {G:Gp} {ρ:Rho}:∀ {ts:List (Nat×T)} {τ:St3},VA D G τ ρ->(∀ p∈ts,Pu.vw ρ p.1=none)->VA D G (Pu.sets τ ts) ρ
 |[],_,h,_=>h
 |p::r,τ,h,hn=>VA.keep (ts:=r) ⟨by rw [List.length_set];exact h.len,λj d hd=>by
   have:p.1≠j:=by rintro rfl;rw [hn p (by simp)] at hd;cases hd
   obtain ⟨t,a,b⟩:=h.vw j d hd;exact ⟨t,by rw [getElem?_set,if_neg this];exact a,b⟩⟩ λq hq=>hn q (by simp [hq])
def SY (m:List (Option Nat)) (ρ:Rho):Rho:=m.map λo=>match o with|some j=>(match vw ρ j with|some d=>.sh d|none=>.un)|none=>.un
def VA.cap {m:List (Option Nat)} {D:Addr->Prop} {G:Gp} {τ:St3} {ρ:Rho} (h:D6 (m.filterMap id) D G τ ρ):VA D G (L3.cap m τ) (SY m ρ):=by
 refine ⟨by simp [SY,L3.cap],λi d hd=>?_⟩;unfold Pu.vw SY at hd;rw [getElem?_map] at hd;cases e:m[i]? with
 |none=>rw [e] at hd;cases hd
 |some o=>
  rw [e] at hd;cases o with
  |none=>cases hd
  |some j=>
   simp only [Option.map_some,Option.bind_some] at hd;cases e2:Pu.vw ρ j with
   |none=>rw [e2] at hd;cases hd
   |some d'=>
    rw [e2] at hd;have hd':d'=d:=by simpa [Sl.d] using hd
    subst hd';obtain ⟨t,a,b⟩:=h j (List.mem_filterMap.mpr ⟨some j,mem_of_getElem? e,rfl⟩) d' e2;refine ⟨t,?_,b⟩;unfold L3.cap;rw [getElem?_map,e];simp [a]
def qdg {m:List (Option Nat)} {ρ:Rho} {i:Nat} (h:m[i]?=some none):vw (SY m ρ) i=none:=by
 unfold vw SY;rw [getElem?_map,h];rfl
def lcP (h:PyData->Option (Option PyData)):List PyData->Option (List PyData)
 |[]=>some []
 |d::r=>(h d).bind λo=>(lcP h r).bind λys=>some (match o with|some y=>y::ys|none=>ys)
def lcH (gf:PyData->Option (List (Nat×PyData))) (cf:Rho->Option Bool) (ef:Rho->Option PyData) (ρ:Rho) (d:PyData):Option (Option PyData):=
 (gf d).bind λbs=>(cf (D0 ρ bs)).bind λk=>if k then (ef (D0 ρ bs)).map some else some none
def MI {h:PyData->Option (Option PyData)} {α:Type} {g:α->PyData} {k:α->PyData} {xs:List α} (hh:∀ a∈xs,h (g a)=some (some (k a))):lcP h (xs.map g)=some (xs.map k):=by
 induction xs with
 |nil=>rfl
 |cons a r ih=>simp only [map_cons,lcP,hh a (by simp),Option.bind_some,ih λb hb=>hh b (by simp [hb])]
def qeh {H:Gp}:∀ {ts:List (Nat×T)} {bs:List (Nat×PyData)},Bd H ts bs->∀ p∈ts,∃ q∈bs,q.1=p.1
 |_,_,.nil,p,hp=>by cases hp
 |_,_,.cons a b,p,hp=>by
  rcases mem_cons.mp hp with rfl|hp
  ·exact ⟨_,List.mem_cons_self,rfl⟩
  ·obtain ⟨q,hq,e⟩:=qeh b p hp;exact ⟨q,by simp [hq],e⟩
def qcW {stay:Gp->Prop} {g:TG3} {tif:TT3} {te:TE3} {q:Q3} (pg:PuG g) (pc:PuC tif) (pe:PuE te) {D:Addr->Prop} {ρ0:Rho} {G0:Gp} (hs:∀ G,Ex G0 G->stay G) (hm:∀ i∈pg.tg,vw ρ0 i=none) (fin:List PyData) (hfin:fin.length<=sizeLine)
  (k:∀ G ys,Ex G0 G->Dqs (rs D G) ys fin->∀ p,G p=none->q (.ref p) (gu G p (.lst ys))) :
  ∀ (ds:List PyData) (items ys:List T) (es fs:List PyData) (τ:St3) (G:Gp),Dqs (rs D G0) items ds->VA D G τ ρ0->Ex G0 G->Dom D G->Dqs (rs D G) ys es->lcP (lcH pg.f pc.f pe.f ρ0) ds=some fs->es++fs=fin->WC stay g tif te q items ys τ G
 |_,_,ys,es,fs,τ,G,.nil,va,E,hd,hy,hf,hl=>by
  cases hf;rw [List.append_nil] at hl;subst hl;exact ⟨hs G E,k G ys E hy⟩
 |d::ds,x::items,ys,es,fs,τ,G,.cons hx hr,va,E,hd,hy,hf,hl=>by
  unfold lcP at hf;obtain ⟨o,e1,hf⟩:=obb hf;obtain ⟨J2,e2,hf⟩:=obb hf;unfold lcH at e1;obtain ⟨bs,e3,e1⟩:=obb e1;obtain ⟨c,e4,e1⟩:=obb e1;obtain ⟨ts,bd,kg⟩:=pg.ok (hx.up (J7 E)) e3;refine ⟨hs G E,kg τ G _ ?_⟩;have va1:=va.sets bd;have va2:=va.keep (ts:=ts) λp hp=>by
   obtain ⟨q,hq,e⟩:=qeh bd p hp;rw [← e];exact hm _ (pg.at' e3 q hq)
  refine pc.ok (va1.view _) hd e4 λG1 E1=>?_;cases c with
  |true=>
   rw [if_pos rfl];rw [if_pos rfl] at e1;obtain ⟨y,e5,rfl⟩:=Option.map_eq_some_iff.mp e1;simp only [Option.some.injEq] at hf;subst hf;refine pe.ok ((va1.up E1).view _) (hd.up E1) e5 λz G2 E2 D2 _=>⟨?_,?_⟩
   ·rw [hy.length];rw [← hl] at hfin;simp at hfin;omega
   ·refine qcW pg pc pe hs hm fin hfin k ds items (ys++[z]) (es++[y]) J2 _ G2 hr ((va2.up E1).up E2) (E.trans (E1.trans E2)) ((hd.up E1).up E2) (((hy.up (J7 E1)).up (J7 E2)).append (.cons D2 .nil)) e2 ?_;rw [← hl];simp
  |false=>
   rw [if_neg Bool.false_ne_true];simp at e1;subst e1;simp only [Option.some.injEq] at hf;subst hf;exact qcW pg pc pe hs hm fin hfin k ds items ys es J2 _ G1 hr (va2.up E1) (E.trans E1) (hd.up E1) (hy.up (J7 E1)) e2 hl
def lcF (pi:Rho->Option (List PyData)) (h:Rho->PyData->Option (Option PyData)) (m:List (Option Nat)) (ρ:Rho):Option PyData:=
 (pi ρ).bind λds=>(lcP (h (SY m ρ)) ds).bind λfs=>cif (fs.length<=sizeLine) (some (.list fs)) none
def bLc {wi:TI3} {g:TG3} {tif:TT3} {te:TE3} (pi:PuI wi) (pg:PuG g) (pc:PuC tif) (pe:PuE te) (m:List (Option Nat)) (hm:Tru (pg.tg.all λi=>m[i]?==some none)):PuE (lc3 wi g tif te m):=
 ⟨lcF pi.f (lcH pg.f pc.f pe.f) m,pi.fv++m.filterMap id,true,λ{D τ ρ G q d} hv hd hf k=>by
  unfold lcF at hf;obtain ⟨ds,e1,hf⟩:=obb hf;obtain ⟨fs,e2,hf⟩:=obb hf;unfold cif at hf;split at hf
  ·rename_i hl;cases hf;refine pi.ok hv.l hd e1 λitems stay G1 E1 D1 hs _=>?_;have va:=(VA.cap (m:=m) hv.r).up E1;refine qcW pg pc pe (D:=D) (ρ0:=SY m ρ) (G0:=G1) (λG2 E2=>hs G2 (.inr (C9.trans E2))) (λi hi=>qdg ?_) fs hl (λG2 ys E2 D2 p hp=>?_) ds items [] [] fs _ G1 D1 va Ex.refl (hd.up E1) .nil e2 (by simp)
   ·have:=List.all_eq_true.mp hm.h i hi;simpa using this
   ·exact k _ _ ((E1.trans E2).trans (QY hp)) (J5 ((hd.up E1).up E2) hp D2) λ_=>(DW hp D2).back (E1.trans E2)
  ·cases hf⟩
def AD (D:Addr->Prop) (A:Nat->Option Addr) (b:Addr):Prop:=D b\/∃ i,A i=some b
structure RS (D:Addr->Prop) (G0:Gp) (A:Nat->Option Addr) (τ:St3) (ρ:Rho) (G:Gp):Prop where
 ex:Ex G0 G
 dm:Dom D G0
 fr:∀ i p,A i=some p->G0 p=none
 da:∀ i p,A i=some p->G p≠none
 inj:∀ i j p,A i=some p->A j=some p->i=j
 len:ρ.length=τ.length
 sh:∀ (i:Nat) (d:PyData),ρ[i]?=some (Sl.sh d)->∃ t,τ[i]?=some (some t)/\Dq (rs (AD D A) G) t d
 ow:∀ (i:Nat) (ds:List PyData),ρ[i]?=some (Sl.ow ds)->∃ p xs,A i=some p/\τ[i]?=some (some (.ref p))/\G p=some (.lst xs)/\Dqs (rs (AD D A) G) xs ds
section
variable {D:Addr->Prop} {G0 G G':Gp} {A A':Nat->Option Addr} {τ:St3} {ρ:Rho}
def RS.nd (h:RS D G0 A τ ρ G) {i:Nat} {p:Addr} (e:A i=some p):¬ D p:=λz=>h.dm p z (h.fr i p e)
def RS.dom (h:RS D G0 A τ ρ G):Dom (AD D A) G:=λb hb=>by
 rcases hb with hb|⟨i,hi⟩
 ·exact (h.dm.up h.ex) b hb
 ·exact h.da i b hi
def RS.domD (h:RS D G0 A τ ρ G):Dom D G:=h.dm.up h.ex
def RS.up (h:RS D G0 A τ ρ G) (e:Ex G G'):RS D G0 A τ ρ G':=
 ⟨h.ex.trans e,h.dm,h.fr,λi p a z=>(h.da i p a) (by
  cases g:G p with
  |none=>rfl
  |some o=>rw [e _ _ g] at z;cases z),h.inj,h.len,λi d a=>let ⟨t,b,c⟩:=h.sh i d a;⟨t,b,c.up (J7 e)⟩,λi ds a=>let ⟨p,xs,b,c,d,f⟩:=h.ow i ds a;⟨p,xs,b,c,e _ _ d,f.up (J7 e)⟩⟩
def RS.viewAll (h:RS D G0 A τ ρ G) (fv:List Nat):D6 fv D G τ ρ:=λi _ d hd=>by
 unfold vw at hd;obtain ⟨s,e,hd⟩:=obb hd;have less:Ex (rs (AD D A) G) (rs D G):=ju λb z=>.inl z;cases s with
 |un=>cases hd
 |sh d'=>
  cases hd;obtain ⟨t,b,c⟩:=h.sh i _ e;exact ⟨t,b,c.up less⟩
 |ow ds=>
  cases hd;obtain ⟨p,xs,b,c,g,f⟩:=h.ow i _ e;exact ⟨_,c,.lst (by rw [Z7 (h.nd b)];exact g) (f.up less)⟩
def RS.view (h:RS D G0 A τ ρ G) {fv:List Nat} (hn:∀ i∈fv,A i=none):D6 fv (AD D A) G τ ρ:=λi hi d hd=>by
 unfold vw at hd;obtain ⟨s,e,hd⟩:=obb hd;cases s with
 |un=>cases hd
 |sh d'=>
  cases hd;exact h.sh i _ e
 |ow ds=>
  obtain ⟨p,xs,b,_⟩:=h.ow i _ e;rw [hn i hi] at b;cases b
def Sl.dem:Sl->Sl
 |.ow ds=>.sh (.list ds)
 |s=>s
def dm:List Bool->Rho->Rho
 |b::m,s::r=>(match b with|true=>s.dem|false=>s)::dm m r
 |_,r=>r
def mkb (m:List Bool) (i:Nat):Bool:=(m[i]?).getD false
def KK:∀ (m:List Bool) (ρ:Rho) (i:Nat),(dm m ρ)[i]?=(ρ[i]?).map λs=>if mkb m i=true then s.dem else s
 |[],ρ,i=>by simp [dm,mkb]
 |b::m,[],i=>by simp [dm]
 |b::m,s::r,0=>by cases b<;>simp [dm,mkb]
 |b::m,s::r,i+1=>by
  have:=KK m r i;simp only [dm,getElem?_cons_succ,mkb] at this ⊢;exact this
def qhW (s:Sl):s.dem.d=s.d:=by cases s<;>rfl
def qjD (m:List Bool) (ρ:Rho) (i:Nat):vw (dm m ρ) i=vw ρ i:=by
 unfold vw;rw [KK];cases ρ[i]? with
 |none=>rfl
 |some s=>
  simp only [Option.map_some,Option.bind_some];split
  ·exact qhW s
  ·rfl
def qbA:∀ (m:List Bool) (ρ:Rho),(dm m ρ).length=ρ.length
 |[],ρ=>rfl
 |b::m,[]=>rfl
 |b::m,s::r=>by simp [dm,qbA m r]
def Ad (m:List Bool) (A:Nat->Option Addr):Nat->Option Addr:=λi=>if mkb m i=true then none else A i
def US {m:List Bool} {i:Nat} {p:Addr} (h:Ad m A i=some p):A i=some p/\mkb m i=false:=by
 unfold Ad at h;split at h
 ·cases h
 ·rename_i n;exact ⟨h,by simpa using n⟩
def RS.dem (h:RS D G0 A τ ρ G) (m:List Bool):RS D G0 (Ad m A) τ (Pu.dm m ρ) G:=by
 have less:Ex (rs (AD D A) G) (rs (AD D (Ad m A)) G):=ju λb z=>by
  rcases z with z|⟨i,z⟩
  ·exact .inl z
  ·exact .inr ⟨i,(US z).1⟩
 refine ⟨h.ex,h.dm,λi p e=>h.fr i p (US e).1,λi p e=>h.da i p (US e).1,λi j p a b=>h.inj i j p (US a).1 (US b).1,by rw [qbA];exact h.len,λi d e=>?_,λi ds e=>?_⟩
 ·rw [KK] at e;obtain ⟨s,e1,e2⟩:=Option.map_eq_some_iff.mp e;cases s with
  |un=>split at e2<;>cases e2
  |sh d'=>
   have:d'=d:=by split at e2<;>(cases e2;rfl)
   subst this;obtain ⟨t,b,c⟩:=h.sh i _ e1;exact ⟨t,b,c.up less⟩
  |ow ds=>
   split at e2
   ·rename_i hm;cases e2;obtain ⟨p,xs,b,c,g,f⟩:=h.ow i _ e1;refine ⟨_,c,.lst ?_ (f.up less)⟩;rw [Z7]
    ·exact g
    ·rintro (z|⟨j,z⟩)
     ·exact h.nd b z
     ·have:=h.inj i j p b (US z).1;subst this;rw [(US z).2] at hm;cases hm
   ·cases e2
 ·rw [KK] at e;obtain ⟨s,e1,e2⟩:=Option.map_eq_some_iff.mp e;cases s with
  |un=>split at e2<;>cases e2
  |sh d'=>split at e2<;>cases e2
  |ow ds'=>
   split at e2
   ·cases e2
   ·rename_i hm;cases e2;obtain ⟨p,xs,b,c,g,f⟩:=h.ow i _ e1;exact ⟨p,xs,by unfold Ad;rw [if_neg hm];exact b,c,g,f.up less⟩
def RS.viewD (h:RS D G0 A τ ρ G) {m:List Bool} {fv:List Nat} (hm:Tru (fv.all (mkb m))):D6 fv (AD D (Ad m A)) G τ ρ:=by
 have:=(h.dem m).view (fv:=fv) λi hi=>by unfold Ad;rw [if_pos (List.all_eq_true.mp hm.h i hi)]
 intro i hi d hd;exact this i hi d (by rw [qjD];exact hd)
def Er (A:Nat->Option Addr) (i:Nat):Nat->Option Addr:=λj=>if j=i then none else A j
def UX {i j:Nat} {p:Addr} (h:Er A i j=some p):A j=some p/\j≠i:=by
 unfold Er at h;split at h
 ·cases h
 ·rename_i n;exact ⟨h,n⟩
def RS.put (h:RS D G0 A τ ρ G) (i:Nat) {x:T} {d:PyData} (hx:Dq (rs (AD D A) G) x d):RS D G0 (Er A i) (τ.set i (some x)) (ρ.set i (.sh d)) G:=by
 have less:Ex (rs (AD D A) G) (rs (AD D (Er A i)) G):=ju λb z=>by
  rcases z with z|⟨j,z⟩
  ·exact .inl z
  ·exact .inr ⟨j,(UX z).1⟩
 refine ⟨h.ex,h.dm,λj p e=>h.fr j p (UX e).1,λj p e=>h.da j p (UX e).1,λj k p a b=>h.inj j k p (UX a).1 (UX b).1,by simp [h.len],λj e he=>?_,λj ds e=>?_⟩
 ·rw [getElem?_set] at he ⊢;split at he
  ·rename_i hj;rw [if_pos hj];split at he
   ·rename_i hl;cases he;exact ⟨x,by rw [if_pos (by rw [← h.len];exact hl)],hx.up less⟩
   ·cases he
  ·rename_i hj;rw [if_neg hj];obtain ⟨t,b,c⟩:=h.sh j _ he;exact ⟨t,b,c.up less⟩
 ·rw [getElem?_set] at e ⊢;split at e
  ·split at e<;>cases e
  ·rename_i hj;rw [if_neg hj];obtain ⟨p,xs,b,c,g,f⟩:=h.ow j _ e;exact ⟨p,xs,by unfold Er;rw [if_neg (λz=>hj z.symm)];exact b,c,g,f.up less⟩
def RS.puts:∀ {ts:List (Nat×T)} {bs:List (Nat×PyData)} {A:Nat->Option Addr} {τ:St3} {ρ:Rho},RS D G0 A τ ρ G->Bd (rs (AD D A) G) ts bs->∃ A',RS D G0 A' (sets τ ts) (D0 ρ bs) G
 |_,_,A,_,_,h,.nil=>⟨A,h⟩
 |_,_,A,_,_,h,.cons (i:=i) a b=>by
  unfold sets D0;exact RS.puts (h.put i a) (b.up (ju λb z=>by
   rcases z with z|⟨j,z⟩
   ·exact .inl z
   ·exact .inr ⟨j,(UX z).1⟩))
def RS.putN (h:RS D G0 A τ ρ G) (i:Nat) {x:T} {d:PyData} {ds:List PyData} (hd:d=.list ds) (E:Ex G G') (hx:Nw (AD D A) G G' x d):RS D G0 (λj=>if j=i then (match x with|.ref p=>some p|_=>none) else A j) (τ.set i (some x)) (ρ.set i (.ow ds)) G':=by
 rcases hx with hx|⟨p,xs,ds',rfl,e',gp,gp',hs⟩
 ·rw [hd] at hx;cases hx
 rw [hd] at e';cases e';have np:∀ {j q},A j=some q->q≠p:=λe=>by rintro rfl;exact h.da _ _ e gp
 have X1:Ex (rs (AD D A) G) (rs (AD D (λj=>if j=i then some p else A j)) G'):=λb o e=>by
  obtain ⟨n,e⟩:=qT e;rw [Z7]
  ·exact E _ _ e
  ·rintro (z|⟨j,z⟩)
   ·exact n (.inl z)
   ·simp only at z;split at z
    ·cases z;rw [gp] at e;cases e
    ·exact n (.inr ⟨j,z⟩)
 refine ⟨h.ex.trans E,h.dm,λj q e=>?_,λj q e=>?_,λj k q a b=>?_,by simp [h.len],λj e he=>?_,λj es e=>?_⟩
 ·simp only at e;split at e
  ·cases e;cases z:G0 p with
   |none=>rfl
   |some o=>rw [h.ex _ _ z] at gp;cases gp
  ·exact h.fr j q e
 ·simp only at e;split at e
  ·cases e;rw [gp'];simp
  ·exact (h.up E).da j q e
 ·simp only at a b;split at a
  ·cases a;split at b
   ·rename_i h1 h2;rw [h1,h2]
   ·exact absurd rfl (np b)
  ·split at b
   ·cases b;exact absurd rfl (np a)
   ·exact h.inj j k q a b
 ·rw [getElem?_set] at he ⊢;split at he
  ·split at he<;>cases he
  ·rename_i hj;rw [if_neg hj];obtain ⟨t,b,c⟩:=h.sh j _ he;exact ⟨t,b,c.up X1⟩
 ·rw [getElem?_set] at e ⊢;split at e
  ·rename_i hj;subst hj;split at e
   ·rename_i hl;cases e;refine ⟨p,xs,by simp,by rw [if_pos rfl,if_pos (by rw [← h.len];exact hl)],gp',hs.up (ju λb z=>?_)⟩;rcases z with z|⟨j,z⟩
    ·exact .inl (.inl z)
    ·simp only at z;split at z
     ·cases z;exact .inr rfl
     ·exact .inl (.inr ⟨j,z⟩)
   ·cases e
  ·rename_i hj;rw [if_neg hj];obtain ⟨q,ys,b,c,g,f⟩:=h.ow j _ e;exact ⟨q,ys,by rw [if_neg (λz=>hj z.symm)];exact b,c,E _ _ g,f.up X1⟩
def RS.wr (h:RS D G0 A τ ρ G) {i:Nat} {p:Addr} {xs:List T} {ds:List PyData} (hi:A i=some p) (ht:τ[i]?=some (some (.ref p))) (hs:Dqs (rs (AD D A) G) xs ds):RS D G0 A τ (ρ.set i (.ow ds)) (gu G p (.lst xs)):=by
 have X1:Ex (rs (AD D A) G) (rs (AD D A) (gu G p (.lst xs))):=λb o e=>by
  obtain ⟨n,e⟩:=qT e;rw [Z7 n,jT (by rintro rfl;exact n (.inr ⟨i,hi⟩))];exact e
 refine ⟨λb o e=>?_,h.dm,h.fr,λj q e=>?_,h.inj,by simp [h.len],λj e he=>?_,λj es e=>?_⟩
 ·rw [jT (by rintro rfl;rw [h.fr i _ hi] at e;cases e)];exact h.ex _ _ e
 ·by_cases z:q=p
  ·subst z;rw [qE];simp
  ·rw [jT z];exact h.da j q e
 ·rw [getElem?_set] at he;split at he
  ·split at he<;>cases he
  ·obtain ⟨t,b,c⟩:=h.sh j _ he;exact ⟨t,b,c.up X1⟩
 ·rw [getElem?_set] at e;split at e
  ·rename_i hj;subst hj;split at e
   ·cases e;exact ⟨p,xs,hi,ht,qE,hs.up X1⟩
   ·cases e
  ·rename_i hj;obtain ⟨q,ys,b,c,g,f⟩:=h.ow j _ e;exact ⟨q,ys,b,c,by rw [jT (by rintro rfl;exact hj (h.inj i j _ hi b))];exact g,f.up X1⟩
def RS.base {Gb:Gp} (h:RS D Gb A τ ρ G) (e:Ex G0 Gb) (hd:Dom D G0):RS D G0 A τ ρ G:=
 ⟨e.trans h.ex,hd,(λi p a=>by
  cases z:G0 p with
  |none=>rfl
  |some o=>have:=h.fr i p a;rw [e _ _ z] at this;cases this),h.da,h.inj,h.len,h.sh,h.ow⟩
end
inductive Ot where
 |nx (ρ:Rho)|bk (ρ:Rho)|ct (ρ:Rho)|rt (d:PyData) (fr:Bool)
def qkx (D:Addr->Prop) (G0:Gp) (e:Ends3):Ot->Prop
 |.nx ρ=>∀ A τ G,RS D G0 A τ ρ G->e.nx τ G
 |.bk ρ=>∀ A τ G,RS D G0 A τ ρ G->e.bk τ G
 |.ct ρ=>∀ A τ G,RS D G0 A τ ρ G->e.ct τ G
 |.rt d fr=>∀ x G,Ex G0 G->Dq (rs D G) x d->(fr=true->Nw D G0 G x d)->e.rt x G
structure PuS (t:TS3) where
 f:Nat->Rho->Option Ot
 ok:∀ {D G0 A τ ρ G n o} {e:Ends3},RS D G0 A τ ρ G->f n ρ=some o->qkx D G0 e o->t e τ G
def VS:PuS qU:=⟨λ_ ρ=>some (.nx ρ),λh hf k=>by cases hf;exact k _ _ _ h⟩
def qhj (a b:Nat->Rho->Option Ot) (n:Nat) (ρ:Rho):Option Ot:=(a n ρ).bind λo=>match o with|.nx ρ'=>b n ρ'|o=>some o
def W5 {t u:TS3} (a:PuS t) (b:PuS u):PuS (qG t u):=⟨qhj a.f b.f,λ{D G0 A τ ρ G n o e} h hf k=>by
 unfold qhj at hf;obtain ⟨o1,e1,hf⟩:=obb hf;refine a.ok h e1 ?_;cases o1 with
 |nx ρ'=>exact λA' τ' G' h'=>b.ok h' hf k
 |bk ρ'=>cases hf;exact k
 |ct ρ'=>cases hf;exact k
 |rt d fr=>cases hf;exact k⟩
def sIf {c:TT3} {t u:TS3} (pc:PuC c) (a:PuS t) (b:PuS u):PuS (z9 c t u):=⟨λn ρ=>(pc.f ρ).bind λk=>if k then a.f n ρ else b.f n ρ,λh hf k=>by
 obtain ⟨o1,e1,hf⟩:=obb hf;refine pc.ok (h.viewAll _) h.domD e1 λG1 E1=>?_;cases o1 with
 |true=>exact a.ok (h.up E1) hf k
 |false=>exact b.ok (h.up E1) hf k⟩
def UI {t:TE3} (a:PuE t):PuS (zn t):=⟨λ_ ρ=>(a.f ρ).map λd=>.rt d a.nw,λh hf k=>by
 obtain ⟨d,e1,rfl⟩:=Option.map_eq_some_iff.mp hf;exact a.ok (h.viewAll _) h.domD e1 λx G1 E1 D1 N1=>k x G1 (h.ex.trans E1) D1 λz=>(N1 z).back h.ex⟩
def qcx (ρ:Rho) (i:Nat):Option Ot:=match ρ[i]? with|some (.ow ds)=>some (.rt (.list ds) true)|some (.sh d)=>some (.rt d false)|_=>none
def qbs:PyData->Bool
 |.none=>true|.bool _=>true|.int _=>true|.str _=>true|_=>false
def D4 {H H':Gp} {x:T} {d:PyData} (h:Dq H x d) (s:qbs d=true):Dq H' x d:=by
 cases h<;>first|(constructor;done)|(simp [qbs] at s;done)
def qlc:PyData->Sl
 |.list ds=>.ow ds
 |d=>.sh d
def CL (m:List Bool) (nw:Bool) (i:Nat) (d:PyData) (ρ:Rho):Rho:=if qbs d then ρ.set i (.sh d) else (dm m ρ).set i (if nw then qlc d else .sh d)
def qjJ {t:TE3} (a:PuE t) (i:Nat) (m:List Bool) (hm:Tru (a.fv.all (mkb m))):PuS (qV t (gn3 i)):=⟨λ_ ρ=>(a.f ρ).map λd=>.nx (CL m a.nw i d ρ),λ{D G0 A τ ρ G n o e} h hf k=>by
 obtain ⟨d,e1,rfl⟩:=Option.map_eq_some_iff.mp hf;refine a.ok (h.viewD hm) (h.dem m).dom e1 λx G1 E1 D1 N1=>?_;unfold CL at k;show e.nx (τ.set i (some x)) G1;split at k
 ·rename_i hs;exact k _ _ _ ((h.up E1).put i (D4 D1 hs))
 ·split at k
  ·rename_i hn;have N:=N1 hn;rcases id N with h2|⟨p,xs,ds,h1,h2,_⟩
   ·subst h2;rename_i hs;exact absurd rfl hs
   subst h2;exact k _ _ _ ((h.dem m).putN i rfl E1 N)
  ·exact k _ _ _ (((h.dem m).up E1).put i D1)⟩
def M6 {t:TE3} {g:TG3} (a:PuE t) (pg:PuG g) (m:List Bool) (hm:Tru (a.fv.all (mkb m))):PuS (qV t g):=⟨λ_ ρ=>(a.f ρ).bind λd=>(pg.f d).map λbs=>.nx (D0 (dm m ρ) bs),λ{D G0 A τ ρ G n o e} h hf k=>by
 obtain ⟨d,e1,hf⟩:=obb hf;obtain ⟨bs,e2,rfl⟩:=Option.map_eq_some_iff.mp hf;refine a.ok (h.viewD hm) (h.dem m).dom e1 λx G1 E1 D1 N1=>?_;obtain ⟨ts,bd,kg⟩:=pg.ok D1 e2;refine kg _ _ _ ?_;obtain ⟨A',h'⟩:=((h.dem m).up E1).puts bd;exact k _ _ _ h'⟩
def qhm (i j:Nat) (m:List Bool) (ds:List PyData) (ρ:Rho):Option Ot:=match ds with
 |[d,e]=>if qbs d&&qbs e then some (.nx ((ρ.set i (.sh d)).set j (.sh e))) else some (.nx (((dm m ρ).set i (.sh d)).set j (.sh e)))
 |_=>none
def qdv {D:Addr->Prop} {A:Nat->Option Addr} {G:Gp} {i:Nat}:Ex (rs (AD D A) G) (rs (AD D (Er A i)) G):=ju λb z=>by
 rcases z with z|⟨j,z⟩
 ·exact .inl z
 ·exact .inr ⟨j,(UX z).1⟩
def qj5 {t:TA3} (a:PuA t) (i j:Nat) (m:List Bool) (hm:Tru (a.fv.all (mkb m))):PuS (WJ i j t):=⟨λ_ ρ=>(a.f ρ).bind λds=>qhm i j m ds ρ,λ{D G0 A τ ρ G n o e} h hf k=>by
 obtain ⟨ds,e1,hf⟩:=obb hf;refine a.ok (h.viewD hm) (h.dem m).dom e1 λx G1 E1 D1=>?_;unfold qhm at hf;split at hf
 ·cases D1 with
  |cons a b=>cases b with
   |cons b c=>
    cases c;split at hf
    ·rename_i hs;cases hf;rw [Bool.and_eq_true] at hs;exact k _ _ _ (((h.up E1).put i (D4 a hs.1)).put j (D4 b hs.2))
    ·cases hf;exact k _ _ _ ((((h.dem m).up E1).put i a).put j (b.up qdv))
 ·cases hf⟩
def slot (ρ:Rho) (i:Nat):Option (List PyData):=match ρ[i]? with|some (.ow ds)=>some ds|_=>none
def RQ {ρ:Rho} {i:Nat} {ds:List PyData} (h:slot ρ i=some ds):ρ[i]?=some (.ow ds):=by
 unfold slot at h;split at h
 ·rename_i e;cases h;exact e
 ·cases h
def dmS (m:List Bool) (d:PyData) (ρ:Rho):Rho:=if qbs d then ρ else dm m ρ
def RS.evalS {D:Addr->Prop} {G0 G:Gp} {A:Nat->Option Addr} {τ:St3} {ρ:Rho} (h:RS D G0 A τ ρ G) {t:TE3} (a:PuE t) (m:List Bool) (hm:Tru (a.fv.all (mkb m))) {d:PyData} (hf:a.f ρ=some d):∃ A1,RS D G0 A1 τ (dmS m d ρ) G/\∀ q:Q3,(∀ x G',Ex G G'->Dq (rs (AD D A1) G') x d->q x G')->t τ G q:=by
 unfold dmS;by_cases hs:qbs d=true
 ·rw [if_pos hs];exact ⟨A,h,λq k=>a.ok (h.viewAll _) h.domD hf λx G1 E1 D1 _=>k x G1 E1 (D4 D1 hs)⟩
 ·rw [if_neg hs];exact ⟨Ad m A,h.dem m,λq k=>a.ok (h.viewD hm) (h.dem m).dom hf λx G1 E1 D1 _=>k x G1 E1 D1⟩
def whP (cf:Rho->Option Bool) (bf:Rho->Option Ot):Nat->Rho->Option Ot
 |0,_=>none
 |n+1,ρ=>(cf ρ).bind λk=>if k then (bf ρ).bind λo=>match o with
   |.nx ρ'=>whP cf bf n ρ'
   |.ct ρ'=>whP cf bf n ρ'
   |.bk ρ'=>some (.nx ρ')
   |.rt d b=>some (.rt d b)
  else some (.nx ρ)
def sWh {c:TT3} {tb:TS3} (pc:PuC c) (pb:PuS tb):PuS (DK c tb):=⟨λn ρ=>whP pc.f (pb.f n) n ρ,λ{D G0 A τ ρ G n o e} h hf k=>by
 refine ⟨λm τ G=>∃ A ρ,RS D G0 A τ ρ G/\whP pc.f (pb.f n) m ρ=some o,⟨n,A,ρ,h,hf⟩,?_⟩;rintro m τ G ⟨A,ρ,h,hf⟩;cases m with
 |zero=>cases hf
 |succ m=>
  unfold whP at hf;obtain ⟨b,e1,hf⟩:=obb hf;refine pc.ok (h.viewAll _) h.domD e1 λG1 E1=>?_;cases b with
  |true=>
   rw [if_pos rfl] at hf ⊢;obtain ⟨o1,e2,hf⟩:=obb hf;cases o1 with
   |nx ρ'=>exact ⟨λτ' G'=>∃ A',RS D G0 A' τ' ρ' G',λτ' G' ⟨A',h'⟩=>⟨m,by omega,A',ρ',h',hf⟩,pb.ok (h.up E1) e2 λA' τ' G' h'=>⟨A',h'⟩⟩
   |ct ρ'=>exact ⟨λτ' G'=>∃ A',RS D G0 A' τ' ρ' G',λτ' G' ⟨A',h'⟩=>⟨m,by omega,A',ρ',h',hf⟩,pb.ok (h.up E1) e2 λA' τ' G' h'=>⟨A',h'⟩⟩
   |bk ρ'=>cases hf;exact ⟨λ_ _=>False,λ_ _ z=>z.elim,pb.ok (h.up E1) e2 k⟩
   |rt d fr=>cases hf;exact ⟨λ_ _=>False,λ_ _ z=>z.elim,pb.ok (h.up E1) e2 k⟩
  |false=>
   cases hf;rw [if_neg Bool.false_ne_true];exact k _ _ _ (h.up E1)⟩
def CS (fr:Bool):Option Ot->Option PyData
 |some (.rt d b)=>if fr=true/\b=false then (match d with|.none=>some .none|_=>none) else some d
 |some (.nx _)=>if fr then none else some .none
 |_=>none
def st (ds:List PyData) (N:Nat):Rho:=ds.map Sl.sh++List.replicate (N-ds.length) .un
def run (f:Nat->Rho->Option Ot) (k N n:Nat) (fr:Bool) (ds:List PyData):Option PyData:=if ds.length=k then CS fr (f n (st ds N)) else none
def QB {t:TS3} (b:PuS t) (N:List Str) (k n:Nat) (fr:Bool):∀ ts G q,PSp (run b.f k N.length n fr) fr ts G q->ts.length=k/\t { nx:=λ_ G'=>q .non G',rt:=q } (qs N ts) G:=by
 rintro ts G q ⟨D,ds,d,hs,hd,hf,h⟩;unfold run at hf;split at hf
 ·rename_i hk;refine ⟨by rw [hs.length];exact hk,?_⟩;have r:RS D G (λ_=>none) (qs N ts) (st ds N.length) G:=by
   refine ⟨Ex.refl,hd,(λi p e=>by cases e),(λi p e=>by cases e),(λi j p e=>by cases e),(by simp [st,qs,hs.length]),λi d' e=>?_,λi es e=>?_⟩
   ·unfold st at e;unfold qs;by_cases hi:i<ds.length
    ·rw [List.getElem?_append_left (by simpa using hi),getElem?_map] at e;obtain ⟨d2,e3,e4⟩:=Option.map_eq_some_iff.mp e;cases e4;obtain ⟨x,e5,hx⟩:=hs.get e3;refine ⟨x,?_,hx.up (ju λb z=>?_)⟩
     ·rw [List.getElem?_append_left (by simp [hs.length];exact hi),getElem?_map,e5];rfl
     ·rcases z with z|⟨i,z⟩
      ·exact z
      ·cases z
    ·rw [List.getElem?_append_right (by simpa using hi),List.getElem?_replicate] at e;split at e<;>cases e
   ·unfold st at e;by_cases hi:i<ds.length
    ·rw [List.getElem?_append_left (by simpa using hi),getElem?_map] at e;obtain ⟨d2,e3,e4⟩:=Option.map_eq_some_iff.mp e;cases e4
    ·rw [List.getElem?_append_right (by simpa using hi),List.getElem?_replicate] at e;split at e<;>cases e
  unfold CS at hf;split at hf
  ·rename_i d' b' e;split at hf
   ·split at hf
    ·cases hf;exact b.ok r e λx G' a c z=>h x G' a c λ_=>.inl rfl
    ·cases hf
   ·rename_i hb;cases hf;exact b.ok r e λx G' a c z=>h x G' a c λw=>z (by
     cases b' with
     |true=>rfl
     |false=>exact absurd ⟨w,rfl⟩ hb)
  ·rename_i ρ' e;split at hf
   ·cases hf
   ·rename_i hb;cases hf;exact b.ok r e λA τ G' r'=>h .non G' r'.ex .non λw=>absurd w hb
  ·cases hf
 ·cases hf
def NQ {fr:Bool}:∀ ts G q,PSp (λ_=>none) fr ts G q->False:=λts G q ⟨_,_,_,_,_,h,_⟩=>by cases h
def Fn3.pz {P:Program} {w:World} {K:Frg} {mg:Str->Option Value} {base:Heap} {k:Nat} {x:Str} {sp:Sp3} (F:Fn3 P w K mg base k x sp) (fr:Bool):Fn3 P w K mg base k x (PSp (λ_=>none) fr):=F.imp λts G q h=>(NQ ts G q h).elim
def qkg {i:Nat}:(bV i).f=λρ=>vw ρ i:=id rfl
def qbx {i:Int}:(qC i).f=λ_=>some (.int i):=id rfl
def qfV {i:Bool}:(bBl i).f=λ_=>some (.bool i):=id rfl
def qau {i:Str}:(Q9 i).f=λ_=>some (.str i):=id rfl
def qa0:qdl.f=λ_=>some .none:=id rfl
def qjS {r:R3} {ta tb:TE3} {R:OpD r} {a:PuE ta} {b:PuE tb}:(bO R a b).f=λρ=>(a.f ρ).bind λx=>(b.f ρ).bind λy=>R.f x y:=id rfl
def qbE:qJ.f=λ_=>some []:=id rfl
def LZ {ta:TE3} {tr:TA3} {a:PuE ta} {r:PuA tr}:(qf a r).f=λρ=>(a.f ρ).bind λx=>(r.f ρ).bind λxs=>some (x::xs):=id rfl
def qbd {t:TA3} {a:PuA t} {hn:Tru (Nat.ble a.n 1000)}:(ja a hn).f=λρ=>(a.f ρ).map .tuple:=id rfl
def qao {t:TA3} {a:PuA t} {hn:Tru (Nat.ble a.n 1000)}:(RE a hn).f=λρ=>(a.f ρ).map .list:=id rfl
def KL {r:List T->Gp->Q3->Prop} {t:TA3} {R:FnD r} {a:PuA t}:(zq R a).f=λρ=>(a.f ρ).bind R.f:=id rfl
def qgf {t:TE3} {a:PuE t}:(bTb a).f=λρ=>(a.f ρ).bind asB:=id rfl
def qep {t u:TT3} {a:PuC t} {b:PuC u}:(bOr a b).f=λρ=>(a.f ρ).bind λk=>if k then some true else b.f ρ:=id rfl
def qaR {t:TT3} {a:PuC t}:(KI a).f=λρ=>(a.f ρ).map (! ·):=id rfl
def qf6:bTt.f=λ_=>some true:=id rfl
def KR {ta tb:TE3} {a:PuE ta} {b:PuE tb}:(EY a b).f=λρ=>((a.f ρ).bind asB).bind λk=>if k then b.f ρ else some (.bool false):=id rfl
def K9 {ta:TE3} {a:PuE ta}:(qeG a).f=λρ=>((a.f ρ).bind asB).map λk=>.bool (!k):=id rfl
def qaO {ta:TE3} {a:PuE ta}:(NP a).f=λρ=>((a.f ρ).bind asI).map λi=>.int (-i):=id rfl
def qbm {ta:TE3} {a:PuE ta}:(qjW a).f=λρ=>((a.f ρ).bind asI).map λi=>.int (Builtin.Int.intBits i):=id rfl
def qbq {ta:TE3} {g:String->Bool} {a:PuE ta}:(qa2 g a).f=λρ=>(a.f ρ).bind λd=>(tyD d).map λt=>.bool (g t):=id rfl
def qfb:bNp.f=λ_=>some none:=id rfl
def qdQ {t:TE3} {a:PuE t}:(bSp a).f=λρ=>((a.f ρ).bind asI).map some:=id rfl
def qg8 {te:TE3} {tl th:TO3} {a:PuE te} {l:PuO tl} {h:PuO th}:(bSl a l h).f=λρ=>(a.f ρ).bind λd=>(l.f ρ).bind λlo=>(h.f ρ).bind λhi=>slD d lo hi:=id rfl
def qeP {wi:TI3} {g:TG3} {tif:TT3} {te:TE3} {pi:PuI wi} {pg:PuG g} {pc:PuC tif} {pe:PuE te} {m:List (Option Nat)} {hm:Tru (pg.tg.all λi=>m[i]?==some none)}:(bLc pi pg pc pe m hm).f=lcF pi.f (lcH pg.f pc.f pe.f) m:=id rfl
def qbL:TW.f=qfG:=id rfl
def qaX:qhl.f=qhu:=id rfl
def qaB:qdr.f=qdN:=id rfl
def LG {F:List PyData->Option PyData} {fr:Bool}:(QN F fr).f=F:=id rfl
def qgJ {g:Int->Int->Int} {i j:Int}:(opI g).f (.int i) (.int j)=some (.int (g i j)):=id rfl
def qdR {g:Int->Int->Bool} {i j:Int}:(opB g).f (.int i) (.int j)=some (.bool (g i j)):=id rfl
def qgP {C:Int->Int->Prop} {g:Int->Int->Int}:(opC C g).f=cI C g:=id rfl
def qav {n:Bool}:(DT n).f=eqD n:=id rfl
def LK {n:Bool}:(qcd n).f=qhy n:=id rfl
def qaV {n:Bool}:(qjZ n).f=inD n:=id rfl
def qaq:VD.f=ixD:=id rfl
def LN:LR.f=qck:=id rfl
def SG:SQ.f=qdp:=id rfl
def qby {t:TE3} {a:PuE t}:(MX a).f=λρ=>(a.f ρ).bind qbJ:=id rfl
def qbl {t:TA3} {a:PuA t}:(qit a).f=λρ=>(a.f ρ).bind qd9:=id rfl
def MD {t:TE3} {a:PuE t}:(MX a).nm=false:=id rfl
def LA {t:TA3} {a:PuA t}:(qit a).nm=true:=id rfl
def qjM {i:Nat}:(gN i).f=λd=>some [(i,d)]:=id rfl
def qbe:qdn.f []=some []:=id rfl
def MJ {t:TG3} {u:CK} {a:PuG t} {b:PuGs u} {d:PyData} {r:List PyData}:(UE a b).f (d::r)=(a.f d).bind λx=>(b.f r).map λy=>x++y:=id rfl
def qbw {u:CK} {n:Nat} {b:PuGs u} {ds:List PyData}:(qdq n b).f (.tuple ds)=if ds.length=n then b.f ds else none:=id rfl
def KM:VS.f=λ_ ρ=>some (.nx ρ):=id rfl
def qar {t u:TS3} {a:PuS t} {b:PuS u}:(W5 a b).f=qhj a.f b.f:=id rfl
def qgp {c:TT3} {t u:TS3} {pc:PuC c} {a:PuS t} {b:PuS u}:(sIf pc a b).f=λn ρ=>(pc.f ρ).bind λk=>if k then a.f n ρ else b.f n ρ:=id rfl
def qat {t:TE3} {a:PuE t}:(UI a).f=λ_ ρ=>(a.f ρ).map λd=>.rt d a.nw:=id rfl
def qa3 {t:TE3} {a:PuE t} {i:Nat} {m:List Bool} {hm:Tru (a.fv.all (mkb m))}:(qjJ a i m hm).f=λ_ ρ=>(a.f ρ).map λd=>.nx (CL m a.nw i d ρ):=id rfl
def LH {t:TE3} {g:TG3} {a:PuE t} {pg:PuG g} {m:List Bool} {hm:Tru (a.fv.all (mkb m))}:(M6 a pg m hm).f=λ_ ρ=>(a.f ρ).bind λd=>(pg.f d).map λbs=>.nx (D0 (dm m ρ) bs):=id rfl
def qaz {t:TA3} {a:PuA t} {i j:Nat} {m:List Bool} {hm:Tru (a.fv.all (mkb m))}:(qj5 a i j m hm).f=λ_ ρ=>(a.f ρ).bind λds=>qhm i j m ds ρ:=id rfl
def qev {c:TT3} {tb:TS3} {pc:PuC c} {pb:PuS tb}:(sWh pc pb).f=λn ρ=>whP pc.f (pb.f n) n ρ:=id rfl
def qa4 {i:Bool}:(bBl i).nw=false:=id rfl
def qem {r:R3} {ta tb:TE3} {R:OpD r} {a:PuE ta} {b:PuE tb}:(bO R a b).nw=R.nw:=id rfl
def KJ {t:TA3} {a:PuA t} {hn:Tru (Nat.ble a.n 1000)}:(ja a hn).nw=false:=id rfl
def KF {t:TA3} {a:PuA t} {hn:Tru (Nat.ble a.n 1000)}:(RE a hn).nw=true:=id rfl
def SL {r:List T->Gp->Q3->Prop} {t:TA3} {R:FnD r} {a:PuA t}:(zq R a).nw=R.nw:=id rfl
def SN {F:List PyData->Option PyData} {fr:Bool}:(QN F fr).nw=fr:=id rfl
def SJ {ta tb:TE3} {a:PuE ta} {b:PuE tb}:(EY a b).nw=false:=id rfl
def KD:qdr.nw=false:=id rfl
def ML:VD.nw=false:=id rfl
def SH:LR.nw=false:=id rfl
def X7:SQ.nw=true:=id rfl
def T4 {n:Bool}:(DT n).nw=false:=id rfl
def qan {C:Int->Int->Prop} {g:Int->Int->Int}:(opC C g).nw=false:=id rfl
def qj1 {s:Sl} {r:Rho}:vw (s::r) 0=s.d:=id rfl
def qjV {s:Sl} {r:Rho} {i:Nat}:vw (s::r) (i+1)=vw r i:=id rfl
def qgB {d:PyData}:(Sl.sh d).d=some d:=id rfl
def qgX {ds:List PyData}:(Sl.ow ds).d=some (.list ds):=id rfl
def MP {r:Rho} {ds:List PyData}:slot (.ow ds::r) 0=some ds:=id rfl
def qbH {s:Sl} {r:Rho} {i:Nat}:slot (s::r) (i+1)=slot r i:=id rfl
def K6 {r:Rho} {ds:List PyData}:qcx (.ow ds::r) 0=some (.rt (.list ds) true):=id rfl
def MU {r:Rho} {d:PyData}:qcx (.sh d::r) 0=some (.rt d false):=id rfl
def qbK {s:Sl} {r:Rho} {i:Nat}:qcx (s::r) (i+1)=qcx r i:=id rfl
def NI {xs:List PyData} {i:Int}:ixD (.tuple xs) (.int i)=L2.atI xs i:=id rfl
def qgo {xs:List PyData} {i:Int}:ixD (.list xs) (.int i)=L2.atI xs i:=id rfl
def at0 {α:Type} {a:α} {r:List α}:L2.atI (a::r) 0=some a:=by simp [L2.atI,ixN]
def at1 {α:Type} {a b:α} {r:List α}:L2.atI (a::b::r) 1=some b:=by
 have h:ixN (a::b::r).length 1=some 1:=by unfold ixN;rw [if_pos (by omega),if_pos (by simp;omega)];rfl
 unfold L2.atI;rw [h];rfl
def at2 {α:Type} {a b c:α} {r:List α}:L2.atI (a::b::c::r) 2=some c:=by
 have h:ixN (a::b::c::r).length 2=some 2:=by unfold ixN;rw [if_pos (by omega),if_pos (by simp;omega)];rfl
 unfold L2.atI;rw [h];rfl
def at3 {α:Type} {a b c d:α} {r:List α}:L2.atI (a::b::c::d::r) 3=some d:=by
 have h:ixN (a::b::c::d::r).length 3=some 3:=by unfold ixN;rw [if_pos (by omega),if_pos (by simp;omega)];rfl
 unfold L2.atI;rw [h];rfl
def atN {α:Type} {xs:List α} {k:Nat} (h:k<xs.length):L2.atI xs (k:Int)=xs[k]?:=by
 have e:ixN xs.length (k:Int)=some k:=by unfold ixN;rw [if_pos (by omega),if_pos (by omega)];rfl
 unfold L2.atI;rw [e];rfl
def eqS {n:Bool} {a b:Str}:eqD n (.str a) (.str b)=some (.bool (if n then !decide (a=b) else decide (a=b))):=id rfl
def eqI {n:Bool} {a b:Int}:eqD n (.int a) (.int b)=some (.bool (if n then !decide (a=b) else decide (a=b))):=id rfl
def XN {C:Int->Int->Prop} {g:Int->Int->Int} {i j:Int} (h:C i j):cI C g (.int i) (.int j)=some (.int (g i j)):=by simp only [cI];exact q0 h
def qfa {i j:Int} (h:-1000000<j/\j<1000000):cI YO (·*·) (.int i) (.int j)=some (.int (i*j)):=XN (.inr ⟨by omega,by omega⟩)
def CU {i j:Int} (h:-1000000<i/\i<1000000):cI YO (·*·) (.int i) (.int j)=some (.int (i*j)):=XN (.inl ⟨by omega,by omega⟩)
def qhg {i j:Int} (h:0<j):cI (λ_ j=>0<j) (·%·) (.int i) (.int j)=some (.int (i%j)):=XN h
def qjU {i j:Int}:qck (.int i) (.int j)=some (.int (i+j)):=id rfl
def qiv {xs ys:List PyData} (h:xs.length+ys.length<=16777216):qck (.list xs) (.list ys)=some (.list (xs++ys)):=by simp only [qck];exact q0 h
def qlg {j:Int} (h:-1000000000<=j/\j<1000000000):qd9 [.int j]=some ((qbt 0 j.toNat).map PyData.int):=by simp only [qd9];exact q0 ⟨by omega,by omega⟩
def SI {pi:Rho->Option (List PyData)} {h:Rho->PyData->Option (Option PyData)} {m:List (Option Nat)} {ρ:Rho} {ds fs:List PyData} (h1:pi ρ=some ds) (h2:lcP (h (SY m ρ)) ds=some fs) (h3:fs.length<=16777216):lcF pi h m ρ=some (.list fs):=by unfold lcF;rw [h1];simp only [Option.bind_some,h2];exact q0 h3
def sqk (b:Nat->Rho->Option Ot) (n:Nat) (o:Ot):Option Ot:=match o with|.nx ρ'=>b n ρ'|o=>some o
def qbM {a b:Nat->Rho->Option Ot} {n:Nat} {ρ:Rho}:qhj a b n ρ=(a n ρ).bind (sqk b n):=id rfl
def qaK {b:Nat->Rho->Option Ot} {n:Nat} {ρ:Rho}:sqk b n (.nx ρ)=b n ρ:=id rfl
def qaW {b:Nat->Rho->Option Ot} {n:Nat} {d:PyData} {f:Bool}:sqk b n (.rt d f)=some (.rt d f):=id rfl
def qbb {d:PyData} {b:Bool}:CS false (some (.rt d b))=some d:=by simp [CS]
def qeL {b:Bool}:asB (.bool b)=some b:=id rfl
def qgM {b:Int}:asI (.int b)=some b:=id rfl
def qbD {xs:List PyData}:qfG [.tuple xs]=some (.int xs.length):=id rfl
def qaA {xs:List PyData}:qfG [.list xs]=some (.int xs.length):=id rfl
def qay {xs:List PyData}:qhu [.tuple xs]=some (.list xs):=id rfl
def DI {xs:List Bool}:qdN [.list (xs.map PyData.bool)]=some (.bool (xs.all id)):=by simp only [qdN,qah,Option.map_some]
def qaC {xs:List PyData}:qbJ (.tuple xs)=some xs:=id rfl
def qaN {xs:List PyData}:qbJ (.list xs)=some xs:=id rfl
def qfN {i:Int}:tyD (.int i)=some "int" := id rfl
def qgm {i:Bool}:tyD (.bool i)=some "bool" := id rfl
def qe6:tyD .none=some "NoneType" := id rfl
def qf9 {i:Str}:tyD (.str i)=some "str" := id rfl
def qeu {i:List PyData}:tyD (.tuple i)=some "tuple" := id rfl
def qd4 {i:List PyData}:tyD (.list i)=some "list" := id rfl
def qaP {n a b:Bool}:qhy n (.bool a) (.bool b)=some (.bool (if n then a != b else a==b)):=id rfl
def qgw {m:List Bool} {nw:Bool} {i:Nat} {v:Int} {ρ:Rho}:CL m nw i (.int v) ρ=ρ.set i (.sh (.int v)):=id rfl
def qeI {m:List Bool} {nw:Bool} {i:Nat} {v:Bool} {ρ:Rho}:CL m nw i (.bool v) ρ=ρ.set i (.sh (.bool v)):=id rfl
def qha {m:List Bool} {nw:Bool} {i:Nat} {v:Str} {ρ:Rho}:CL m nw i (.str v) ρ=ρ.set i (.sh (.str v)):=id rfl
def qgS {m:List Bool} {nw:Bool} {i:Nat} {ρ:Rho}:CL m nw i .none ρ=ρ.set i (.sh .none):=id rfl
def qb6 {m:List Bool} {nw:Bool} {i:Nat} {v:List PyData} {ρ:Rho}:CL m nw i (.tuple v) ρ=(dm m ρ).set i (.sh (.tuple v)):=by cases nw<;>rfl
def qas {m:List Bool} {i:Nat} {v:List PyData} {ρ:Rho}:CL m true i (.list v) ρ=(dm m ρ).set i (.ow v):=id rfl
def qa9 {m:List Bool} {i:Nat} {v:List PyData} {ρ:Rho}:CL m false i (.list v) ρ=(dm m ρ).set i (.sh (.list v)):=id rfl
def NF {m:List Bool} {v:List PyData} {ρ:Rho}:dmS m (.tuple v) ρ=dm m ρ:=id rfl
def qiJ {ρ:Rho}:dm [] ρ=ρ:=id rfl
def qj7 {m:List Bool} {s:Sl} {ρ:Rho}:dm (true::m) (s::ρ)=s.dem::dm m ρ:=id rfl
def qjP {m:List Bool} {s:Sl} {ρ:Rho}:dm (false::m) (s::ρ)=s::dm m ρ:=id rfl
def qfr {ds:List PyData}:(Sl.ow ds).dem=.sh (.list ds):=id rfl
def qeg {d:PyData}:(Sl.sh d).dem=.sh d:=id rfl
def qeA {ρ:Rho}:SY [] ρ=[]:=id rfl
def qdx {m:List (Option Nat)} {ρ:Rho}:SY (none::m) ρ=.un::SY m ρ:=id rfl
def cp (o:Option PyData):Sl:=match o with|some d=>.sh d|none=>.un
def qgA {m:List (Option Nat)} {j:Nat} {ρ:Rho}:SY (some j::m) ρ=cp (vw ρ j)::SY m ρ:=id rfl
def qjY {d:PyData}:cp (some d)=.sh d:=id rfl
def qgk {i j:Nat} {m:List Bool} {x y:Int} {ρ:Rho}:qhm i j m [.int x,.int y] ρ=some (.nx ((ρ.set i (.sh (.int x))).set j (.sh (.int y)))):=id rfl
def qbI {ρ:Rho}:D0 ρ []=ρ:=id rfl
def qbk {ρ:Rho} {i:Nat} {d:PyData} {r:List (Nat×PyData)}:D0 ρ ((i,d)::r)=D0 (ρ.set i (.sh d)) r:=id rfl
def N5 {gf:PyData->Option (List (Nat×PyData))} {cf:Rho->Option Bool} {ef:Rho->Option PyData} {ρ:Rho} {d:PyData}:lcH gf cf ef ρ d=(gf d).bind λbs=>(cf (D0 ρ bs)).bind λk=>if k then (ef (D0 ρ bs)).map some else some none:=id rfl
section
variable {gf:PyData->Option (List (Nat×PyData))} {bf:Rho->Option Ot} {α:Type} {g:α->PyData} {ρ:Rho} {Q:Option Ot->Prop} {F:Ot->Option Ot}
end
def SS {α:Type} {us:List α} (h:us.length=1):∃ a0,us=[a0]:=List.length_eq_one_iff.mp h
def MA {α:Type} {us:List α} (h:us.length=2):∃ a0 a1,us=[a0,a1]:=by
 obtain ⟨a0,r,rfl⟩:=List.exists_cons_of_length_pos (show 0<us.length by omega);obtain ⟨a1,rfl⟩:=SS (show r.length=1 by simpa using h);exact ⟨a0,a1,rfl⟩
def qkZ {α:Type} {us:List α} (h:us.length=3):∃ a0 a1 a2,us=[a0,a1,a2]:=by
 obtain ⟨a0,r,rfl⟩:=List.exists_cons_of_length_pos (show 0<us.length by omega);obtain ⟨a1,a2,rfl⟩:=MA (show r.length=2 by simpa using h);exact ⟨a0,a1,a2,rfl⟩
def QP (d e:PyData):Option PyData:=match d,e with
 |.tuple xs,.tuple ys=>cif (xs.length+ys.length<=sizeLine) (some (.tuple (xs++ys))) none
 |.list xs,.list ys=>cif (xs.length+ys.length<=sizeLine) (some (.list (xs++ys))) none
 |.int i,.int j=>some (.int (i+j))
 |_,_=>none
def zf:OpD zM:=⟨QP,false,λ{D G x y d e v q} hx hy hd hf k=>by
  unfold QP at hf;cases hx with
  | int i => cases hy <;> try (simp at hf;done)
             cases hf;exact k _ _ Ex.refl (.int _) (λz=>by cases z)
  |tup hs=>
    cases hy<;>try (simp at hf;done)
    rename_i hs2;simp only [cif] at hf;split at hf
    · rename_i c;cases hf;exact ⟨by rw [hs.length,hs2.length];exact c,k _ _ Ex.refl (.tup (hs.append hs2)) (λz=>by cases z)⟩
    · cases hf
  |lst g hs=>
    cases hy<;>try (simp at hf;done)
    rename_i g2 hs2;simp only [cif] at hf;split at hf
    · rename_i c;cases hf;simp only [zM,(qT g).2,(qT g2).2];exact ⟨by rw [hs.length,hs2.length];exact c,λp hp=>k _ _ (QY hp) (J5 hd hp (hs.append hs2)) (λz=>by cases z)⟩
    · cases hf
  |_=>simp at hf⟩
def slA (d:PyData) (lo hi:Option Int):Option PyData:=match d with
 |.tuple xs=>some (.tuple (YY xs lo hi))
 |.list xs=>some (.list (YY xs lo hi))
 |_=>none
def W1 {te:TE3} {tl th:TO3} (a:PuE te) (l:PuO tl) (h:PuO th):PuE (Z8 te tl th):=⟨λρ=>(a.f ρ).bind λd=>(l.f ρ).bind λlo=>(h.f ρ).bind λhi=>slA d lo hi,a.fv++(l.fv++h.fv),false,λhv hd hf k=>by
 obtain ⟨d,e1,hf⟩:=obb hf;obtain ⟨lo,e2,hf⟩:=obb hf;obtain ⟨hi,e3,hf⟩:=obb hf;refine a.ok hv.l hd e1 λx' G1 E1 D1 _=>l.ok (hv.r.l.up E1) (hd.up E1) e2 λG2 E2=>h.ok (hv.r.r.up (E1.trans E2)) (hd.up (E1.trans E2)) e3 λG3 E3=>?_;have E:=(E1.trans E2).trans E3;have D3:=(D1.up (J7 E2)).up (J7 E3);unfold slA at hf;cases D3 with
 |tup hs=>
  simp only at hf;cases hf;exact k _ _ E (.tup (hs.cut _ _)) (λz=>by cases z)
 |lst g hs=>
  simp only at hf;cases hf;simp only [qim,jd (qT g).2];intro p hp;exact k _ _ (E.trans (QY hp)) (J5 (hd.up E) hp (hs.cut _ _)) (λz=>by cases z)
 |_=>simp at hf⟩
def qS:zf.f=QP:=id rfl
def qL:zf.nw=false:=id rfl
def jn {te:TE3} {tl th:TO3} {a:PuE te} {l:PuO tl} {h:PuO th}:(W1 a l h).f=λρ=>(a.f ρ).bind λd=>(l.f ρ).bind λlo=>(h.f ρ).bind λhi=>slA d lo hi:=id rfl
def zO {te:TE3} {tl th:TO3} {a:PuE te} {l:PuO tl} {h:PuO th}:(W1 a l h).nw=false:=id rfl
def CZ {xs:List PyData} {lo hi:Option Int}:slA (.tuple xs) lo hi=some (.tuple (YY xs lo hi)):=id rfl
def zp {xs ys:List PyData} (h:xs.length+ys.length<=16777216):QP (.tuple xs) (.tuple ys)=some (.tuple (xs++ys)):=q0 h
end Pu
namespace Pv
open PySem L2 L3 Pu
open Bk (Dl)
def SU (r:List Int):PyData:=.tuple (r.map PyData.int)
def dlD:Dl->PyData
 |.skew r c b x y=>.tuple [.str "skew",.int r,.int c,.int b,.int x,.int y]
 |.rests r c b p=>.tuple [.str "rests",.int r,.int c,.int b,.int p]
 |.bits h l ms=>.tuple [.str "bits",.int h,.int l,.tuple (ms.map PyData.int)]
 |.table b cells=>.tuple [.str "table",.int b,.tuple (cells.map SU)]
 |.joined d e=>.tuple [.str "joined",dlD d,dlD e]
def K1 (G:Gp):∀ (cs:List (List Int)),Dqs G (cs.map Bk.qeJ) (cs.map SU)
 |[]=>.nil
 |r::cs=>.cons (.tup (Dqs.ofInts r)) (K1 G cs)
def qaf (G:Gp):∀ (d:Dl),Dq G d.t (dlD d)
 |.skew r c b x y=>.tup (.cons (.str _) (.cons (.int _) (.cons (.int _) (.cons (.int _) (.cons (.int _) (.cons (.int _) .nil))))))
 |.rests r c b p=>.tup (.cons (.str _) (.cons (.int _) (.cons (.int _) (.cons (.int _) (.cons (.int _) .nil)))))
 |.bits h l ms=>.tup (.cons (.str _) (.cons (.int _) (.cons (.int _) (.cons (.tup (Dqs.ofInts ms)) .nil))))
 |.table b cells=>.tup (.cons (.str _) (.cons (.int _) (.cons (.tup (K1 G cells)) .nil)))
 |.joined d e=>.tup (.cons (.str _) (.cons (qaf G d) (.cons (qaf G e) .nil)))
end Pv
namespace Pu
open PySem L2 L3
open Bk (Lf Ext)
section
variable {D:Addr->Prop} {a:Addr} {G G' G0:Gp} {n n':Nat} {fv gv:List Nat} {l:Nat} {τ:St3} {ρ:Rho}
def XY (e:Ext a G G') (h:D a):Ex (rs D G) (rs D G'):=λb o x=>by
 obtain ⟨n,x⟩:=qT x;rw [Z7 n];exact e b o (by rintro rfl;exact n h) x
def EJ {k:Int} (h:Lf G a k):G a≠none:=by
 obtain ⟨o,c,m,e,_⟩:=h;rw [e];simp
def EM {k:Int} (hd:Dom D G) (e:Ext a G G') (lf:Lf G' a k):Dom D G':=λb hb z=>by
 by_cases h:b=a
 ·subst h;exact EJ lf z
 ·cases g:G b with
  |none=>exact hd b hb g
  |some o=>rw [e b o h g] at z;cases z
def Nw.backx {x:T} {d:PyData} {k:Int} (h:Nw D G G' x d) (e:Ext a G0 G) (lf:Lf G a k):Nw D G0 G' x d:=by
 rcases h with h|⟨p,xs,ds,h1,h2,c,r⟩
 ·exact .inl h
 refine .inr ⟨p,xs,ds,h1,h2,?_,r⟩;cases z:G0 p with
 |none=>rfl
 |some o=>
  by_cases hp:p=a
  ·subst hp;exact absurd c (EJ lf)
  ·rw [e p o hp z] at c;cases c
structure Ln (fv:List Nat) (l:Nat) (D:Addr->Prop) (G:Gp) (τ:St3) (ρ:Rho) (a:Addr) (n:Nat):Prop where
 v:D6 fv D G τ ρ
 d:Dom D G
 da:D a
 tl:τ[l]?=some (some (.ref a))
 ul:vw ρ l=none
 lf:Lf G a n
def Ln.up (h:Ln fv l D G τ ρ a n) (e:Ext a G G') (lf:Lf G' a n'):Ln fv l D G' τ ρ a n':=
 ⟨λi hi d hd=>let ⟨t,x,y⟩:=h.v i hi d hd;⟨t,x,y.up (XY e h.da)⟩,EM h.d e lf,h.da,h.tl,h.ul,lf⟩
def Ln.fst (h:Ln (fv++gv) l D G τ ρ a n):Ln fv l D G τ ρ a n:=⟨h.v.l,h.d,h.da,h.tl,h.ul,h.lf⟩
def Ln.snd (h:Ln (fv++gv) l D G τ ρ a n):Ln gv l D G τ ρ a n:=⟨h.v.r,h.d,h.da,h.tl,h.ul,h.lf⟩
end
abbrev QD:=PyData->Nat->Prop
structure PwE (l:Nat) (t:TE3) where
 w:Rho->Nat->QD->Prop
 fv:List Nat
 nw:Bool
 mono:∀ {ρ n} {Q Q':QD},w ρ n Q->(∀ d m,Q d m->Q' d m)->w ρ n Q'
 ok:∀ {D τ ρ G a n} {q:Q3} {Q:QD},Ln fv l D G τ ρ a n->w ρ n Q->(∀ x d G' n',Q d n'->Ext a G G'->Lf G' a n'->Dq (rs D G') x d->(nw=true->Nw D G G' x d)->q x G')->t τ G q
structure PwC (l:Nat) (t:TT3) where
 w:Rho->Nat->(Bool->Nat->Prop)->Prop
 fv:List Nat
 mono:∀ {ρ n} {Q Q':Bool->Nat->Prop},w ρ n Q->(∀ d m,Q d m->Q' d m)->w ρ n Q'
 ok:∀ {D τ ρ G a n} {q:Bool->Gp->Prop} {Q:Bool->Nat->Prop},Ln fv l D G τ ρ a n->w ρ n Q->(∀ k G' n',Q k n'->Ext a G G'->Lf G' a n'->q k G')->t τ G q
structure PwA (l:Nat) (t:TA3) where
 w:Rho->Nat->(List PyData->Nat->Prop)->Prop
 fv:List Nat
 k:Nat
 mono:∀ {ρ n} {Q Q':List PyData->Nat->Prop},w ρ n Q->(∀ d m,Q d m->Q' d m)->w ρ n Q'
 ok:∀ {D τ ρ G a n} {q:List T->Gp->Prop} {Q:List PyData->Nat->Prop},Ln fv l D G τ ρ a n->w ρ n Q->(∀ x d G' n',Q d n'->d.length=k->Ext a G G'->Lf G' a n'->Dqs (rs D G') x d->q x G')->t τ G q
structure PwI (l:Nat) (t:TI3) where
 w:Rho->Nat->(List PyData->Nat->Prop)->Prop
 fv:List Nat
 nm:Bool
 mono:∀ {ρ n} {Q Q':List PyData->Nat->Prop},w ρ n Q->(∀ d m,Q d m->Q' d m)->w ρ n Q'
 ok:∀ {D τ ρ G a n} {r:List T->(Gp->Prop)->Gp->Prop} {Q:List PyData->Nat->Prop},Ln fv l D G τ ρ a n->w ρ n Q ->
  (∀ items stay ds G' n',Q ds n'->Ext a G G'->Lf G' a n'->Dqs (rs D G') items ds->(∀ G'',(nm=true\/Ex (rs D G') G'')->stay G'')->(nm=true->∃ ns:List Int,ds=ns.map PyData.int)->r items stay G')->t τ G r
structure DrD (r:List T->Gp->Q3->Prop) where
 W:List PyData->Nat->QD->Prop
 nw:Bool
 mono:∀ {ds n} {Q Q':QD},W ds n Q->(∀ d m,Q d m->Q' d m)->W ds n Q'
 ok:∀ {D:Addr->Prop} {G:Gp} {a:Addr} {n:Nat} {ts:List T} {ds:List PyData} {q:Q3} {Q:QD},Lf G a n->D a->Dom D G->Dqs (rs D G) ts ds->W ds n Q->(∀ x d G' n',Q d n'->Ext a G G'->Lf G' a n'->Dq (rs D G') x d->(nw=true->Nw D G G' x d)->q x G')->r (.ref a::ts) G q
section
variable {l:Nat}
def eOf {t:TE3} (b:PuE t):PwE l t:=⟨λρ n Q=>∃ d,b.f ρ=some d/\Q d n,b.fv,b.nw,λ⟨d,h1,h2⟩ h=>⟨d,h1,h _ _ h2⟩,λh ⟨d,h1,h2⟩ k=>
 b.ok h.v h.d h1 λx G1 E1 D1 N1=>k x d G1 _ h2 (Bk.DO E1) (h.lf.ex E1) D1 N1⟩
def cOf {t:TT3} (b:PuC t):PwC l t:=⟨λρ n Q=>∃ d,b.f ρ=some d/\Q d n,b.fv,λ⟨d,h1,h2⟩ h=>⟨d,h1,h _ _ h2⟩,λh ⟨d,h1,h2⟩ k=>
 b.ok h.v h.d h1 λG1 E1=>k d G1 _ h2 (Bk.DO E1) (h.lf.ex E1)⟩
def aOf {t:TA3} (b:PuA t):PwA l t:=⟨λρ n Q=>∃ d,b.f ρ=some d/\Q d n,b.fv,b.n,λ⟨d,h1,h2⟩ h=>⟨d,h1,h _ _ h2⟩,λh ⟨d,h1,h2⟩ k=>
 b.ok h.v h.d h1 λx G1 E1 D1=>k x d G1 _ h2 (b.ln h1) (Bk.DO E1) (h.lf.ex E1) D1⟩
def iOf {t:TI3} (b:PuI t):PwI l t:=⟨λρ n Q=>∃ d,b.f ρ=some d/\Q d n,b.fv,b.nm,λ⟨d,h1,h2⟩ h=>⟨d,h1,h _ _ h2⟩,λh ⟨d,h1,h2⟩ k=>
 b.ok h.v h.d h1 λitems stay G1 E1 D1 s nm=>k items stay d G1 _ h2 (Bk.DO E1) (h.lf.ex E1) D1 s nm⟩
def eO {r:R3} {ta tb:TE3} (R:OpD r) (a:PwE l ta) (b:PwE l tb):PwE l (o3 r ta tb):=
 ⟨λρ n Q=>a.w ρ n λx n1=>b.w ρ n1 λy n2=>∃ v,R.f x y=some v/\Q v n2,a.fv++b.fv,R.nw,λh k=>a.mono h λx n1 h=>b.mono h λy n2 ⟨v,h1,h2⟩=>⟨v,h1,k _ _ h2⟩,λh hw k=>
  a.ok h.fst hw λx dx G1 n1 h1 E1 L1 D1 _=>b.ok (h.snd.up E1 L1) h1 λy dy G2 n2 ⟨v,e,hq⟩ E2 L2 D2 _=>R.ok (D1.up (XY E2 h.da)) D2 (EM (EM h.d E1 L1) E2 L2) e λz G3 E3 D3 N3=>k z v G3 n2 hq ((E1.trans E2).trans (Bk.DO E3)) (L2.ex E3) D3 λz=>(N3 z).backx (E1.trans E2) L2⟩
def WF {ta:TE3} {tr:TA3} (a:PwE l ta) (r:PwA l tr):PwA l (qb ta tr):=
 ⟨λρ n Q=>a.w ρ n λx n1=>r.w ρ n1 λxs n2=>Q (x::xs) n2,a.fv++r.fv,r.k+1,λh k=>a.mono h λx n1 h=>r.mono h λxs n2 h=>k _ _ h,λh hw k=>
  a.ok h.fst hw λx dx G1 n1 h1 E1 L1 D1 _=>r.ok (h.snd.up E1 L1) h1 λy dy G2 n2 hq hl E2 L2 D2=>k _ _ G2 n2 hq (by simp [hl]) (E1.trans E2) L2 (.cons (D1.up (XY E2 h.da)) D2)⟩
def qiL {t:TA3} (b:PwA l t) (hn:Tru (Nat.ble b.k 1000)):PwE l (qH t):=⟨λρ n Q=>b.w ρ n λxs n1=>Q (.tuple xs) n1,b.fv,false,λh k=>b.mono h λxs n1 h=>k _ _ h,λh hw k=>
 b.ok h hw λx dx G1 n1 h1 hl E1 L1 D1=>⟨by rw [D1.length,hl];exact few hn,k _ _ _ _ h1 E1 L1 (.tup D1) (λz=>by cases z)⟩⟩
def qhZ {t:TA3} (b:PwA l t) (hn:Tru (Nat.ble b.k 1000)):PwE l (jR t):=⟨λρ n Q=>b.w ρ n λxs n1=>Q (.list xs) n1,b.fv,true,λh k=>b.mono h λxs n1 h=>k _ _ h,λh hw k=>
 b.ok h hw λx dx G1 n1 h1 hl E1 L1 D1=>⟨by rw [D1.length,hl];exact few hn,λp hp=>k _ _ _ _ h1 (E1.trans (Bk.DO (QY hp))) (L1.ex (QY hp)) (J5 (EM h.d E1 L1) hp D1) λ_=>(DW hp D1).backx E1 L1⟩⟩
def eDr {r:List T->Gp->Q3->Prop} {t:TA3} (R:DrD r) (b:PwA l t):PwE l (cb3 r (qb (v3 l) t)):=⟨λρ n Q=>b.w ρ n λxs n1=>R.W xs n1 Q,b.fv,R.nw,λh k=>b.mono h λxs n1 h=>R.mono h k,λ{D τ ρ G a n q Q} h hw k=>by
 simp only [cb3,qb,v3,h.tl];exact b.ok h hw λx dx G1 n1 hW hl E1 L1 D1=>R.ok L1 h.da (EM h.d E1 L1) D1 hW λz d G3 n3 hq E3 L3 D3 N3=>k z d G3 n3 hq (E1.trans E3) L3 D3 λz=>(N3 z).backx E1 L1⟩
def iS {t:TE3} (b:PwE l t):PwI l (ZV t):=⟨λρ n Q=>b.w ρ n λd n1=>∃ ds,qbJ d=some ds/\Q ds n1,b.fv,false,λh k=>b.mono h λxs n1 ⟨v,h1,h2⟩=>⟨v,h1,k _ _ h2⟩,λh hw k=>b.ok h hw λx dx G1 n1 ⟨ds,e,hq⟩ E1 L1 D1 _=>by
 unfold qbJ at e;cases D1 with
 |tup hs=>cases e;exact k _ _ _ _ _ hq E1 L1 hs (λ_ _=>trivial) (λz=>by cases z)
 |lst g hs=>
  cases e;simp only [jd (qT g).2];refine k _ _ _ _ _ hq E1 L1 hs (λG2 h=>?_) (λz=>by cases z);rcases h with h|h
  ·cases h
  ·exact jd (h _ _ g)
 |_=>simp at e⟩
end
def VA.ext {D:Addr->Prop} {a:Addr} {G G':Gp} {τ:St3} {ρ:Rho} (h:VA D G τ ρ) (e:Ext a G G') (da:D a):VA D G' τ ρ:=h.upx (XY e da)
structure RL (l:Nat) (a:Addr) (z0:Option (Option T)×Nat) (D:Addr->Prop) (G0:Gp) (A:Nat->Option Addr) (τ:St3) (ρ:Rho) (G:Gp) (n:Nat):Prop where
 r:RS D G0 A τ ρ G
 al:A l=some a
 tl:τ[l]?=some (some (.ref a))
 ul:ρ[l]?=some Sl.un
 lf:Lf G a n
 tz:τ[0]?=z0.1/\τ.length=z0.2
section
variable {l:Nat} {a:Addr} {z0:Option (Option T)×Nat} {D:Addr->Prop} {G0 G G':Gp} {A:Nat->Option Addr} {τ:St3} {ρ:Rho} {n n':Nat}
def RL.vl (h:RL l a z0 D G0 A τ ρ G n):vw ρ l=none:=by unfold vw;rw [h.ul];rfl
def RL.up (h:RL l a z0 D G0 A τ ρ G n) (e:Ext a G G') (lf:Lf G' a n'):RL l a z0 D G0 A τ ρ G' n':=by
 have X:Ex (rs (AD D A) G) (rs (AD D A) G'):=XY e (.inr ⟨l,h.al⟩);refine ⟨⟨λb o x=>e b o (by rintro rfl;rw [h.r.fr l _ h.al] at x;cases x) (h.r.ex b o x),h.r.dm,h.r.fr,λi p hp z=>?_,h.r.inj,h.r.len,λi d x=>let ⟨t,y,z⟩:=h.r.sh i d x;⟨t,y,z.up X⟩,λi ds x=>?_⟩,h.al,h.tl,h.ul,lf,h.tz⟩
 ·by_cases c:p=a
  ·subst c;exact EJ lf z
  ·cases g:G p with
   |none=>exact h.r.da i p hp g
   |some o=>rw [e p o c g] at z;cases z
 ·obtain ⟨p,xs,y1,y2,y3,y4⟩:=h.r.ow i ds x;refine ⟨p,xs,y1,y2,e p _ ?_ y3,y4.up X⟩;rintro rfl;have:=h.r.inj i l _ y1 h.al;subst this;rw [h.ul] at x;cases x
def RL.all (h:RL l a z0 D G0 A τ ρ G n) (fv:List Nat):Ln fv l (λb=>D b\/b=a) G τ ρ a n:=by
 refine ⟨λi _ d hd=>?_,λb hb=>?_,.inr rfl,h.tl,h.vl,h.lf⟩
 ·unfold vw at hd;obtain ⟨s,e,hd⟩:=obb hd;have less:Ex (rs (AD D A) G) (rs (λb=>D b\/b=a) G):=ju λb z=>by
   rcases z with z|z
   ·exact .inl z
   ·subst z;exact .inr ⟨l,h.al⟩
  cases s with
  |un=>cases hd
  |sh d'=>
   cases hd;obtain ⟨t,b,c⟩:=h.r.sh i _ e;exact ⟨t,b,c.up less⟩
  |ow ds=>
   cases hd;obtain ⟨p,xs,b,c,g,f⟩:=h.r.ow i _ e;refine ⟨_,c,.lst ?_ (f.up less)⟩;rw [Z7]
   ·exact g
   ·rintro (z|z)
    ·exact h.r.nd b z
    ·subst z;have:=h.r.inj i l _ b h.al;subst this;rw [h.ul] at e;cases e
 ·rcases hb with hb|hb
  ·exact h.r.domD b hb
  ·subst hb;exact EJ h.lf
def qkf {m:List Bool} (hm:mkb m l=false) (al:A l=some a):Ad m A l=some a:=by unfold Ad;rw [if_neg (by rw [hm];simp)];exact al
def RL.dem (h:RL l a z0 D G0 A τ ρ G n) {m:List Bool} (hm:mkb m l=false):RL l a z0 D G0 (Ad m A) τ (Pu.dm m ρ) G n:=
 ⟨h.r.dem m,qkf hm h.al,h.tl,by rw [KK,h.ul];simp [hm],h.lf,h.tz⟩
def RL.ln (h:RL l a z0 D G0 A τ ρ G n) {m:List Bool} {fv:List Nat} (hm:mkb m l=false) (hf:Tru (fv.all (mkb m))):Ln fv l (AD D (Ad m A)) G τ ρ a n:=
 ⟨h.r.viewD hf,(h.r.dem m).dom,.inr ⟨l,qkf hm h.al⟩,h.tl,h.vl,h.lf⟩
def RL.put (h:RL l a z0 D G0 A τ ρ G n) {i:Nat} (hi:i≠l) (h0:i≠0) {x:T} {d:PyData} (hx:Dq (rs (AD D A) G) x d):RL l a z0 D G0 (Er A i) (τ.set i (some x)) (ρ.set i (.sh d)) G n:=
 ⟨h.r.put i hx,by unfold Er;rw [if_neg (λz=>hi z.symm)];exact h.al,by rw [getElem?_set,if_neg hi];exact h.tl,by rw [getElem?_set,if_neg hi];exact h.ul,h.lf,⟨by rw [getElem?_set,if_neg h0];exact h.tz.1,by rw [List.length_set];exact h.tz.2⟩⟩
def RL.puts:∀ {ts:List (Nat×T)} {bs:List (Nat×PyData)} {A:Nat->Option Addr} {τ:St3} {ρ:Rho},RL l a z0 D G0 A τ ρ G n->Bd (rs (AD D A) G) ts bs->(∀ p∈bs,p.1≠l/\p.1≠0)->∃ A',RL l a z0 D G0 A' (sets τ ts) (D0 ρ bs) G n
 |_,_,A,_,_,h,.nil,_=>⟨A,h⟩
 |_,_,A,_,_,h,.cons x b,hn=>by
  unfold sets D0;exact RL.puts (h.put (hn _ List.mem_cons_self).1 (hn _ List.mem_cons_self).2 x) (b.up qdv) (λp hp=>hn p (List.mem_cons_of_mem _ hp))
def RL.putN (h:RL l a z0 D G0 A τ ρ G n) {i:Nat} (hi:i≠l) (h0:i≠0) {x:T} {d:PyData} {ds:List PyData} (hd:d=.list ds) (E:Ext a G G') (lf:Lf G' a n') (hx:Nw (AD D A) G G' x d):∃ A',RL l a z0 D G0 A' (τ.set i (some x)) (ρ.set i (.ow ds)) G' n':=by
 have h1:=h.up E lf;rcases hx with hx|⟨p,xs,ds',rfl,e',gp,gp',hs⟩
 ·rw [hd] at hx;cases hx
 rw [hd] at e';cases e';have np:∀ {j q},A j=some q->q≠p:=λe=>by rintro rfl;exact h.r.da _ _ e gp
 have X1:Ex (rs (AD D A) G) (rs (AD D (λj=>if j=i then some p else A j)) G'):=λb o e=>by
  obtain ⟨n,e⟩:=qT e;rw [Z7]
  ·exact E b o (by rintro rfl;exact n (.inr ⟨l,h.al⟩)) e
  ·rintro (z|⟨j,z⟩)
   ·exact n (.inl z)
   ·simp only at z;split at z
    ·cases z;rw [gp] at e;cases e
    ·exact n (.inr ⟨j,z⟩)
 refine ⟨λj=>if j=i then some p else A j,⟨h1.r.ex,h.r.dm,λj q e=>?_,λj q e=>?_,λj k q x y=>?_,by simp [h.r.len],λj e he=>?_,λj es e=>?_⟩,by rw [if_neg (λz=>hi z.symm)];exact h.al,by rw [getElem?_set,if_neg hi];exact h.tl,by rw [getElem?_set,if_neg hi];exact h.ul,lf,⟨by rw [getElem?_set,if_neg h0];exact h.tz.1,by rw [List.length_set];exact h.tz.2⟩⟩
 ·split at e
  ·cases e;cases z:G0 p with
   |none=>rfl
   |some o=>rw [h.r.ex _ _ z] at gp;cases gp
  ·exact h.r.fr j q e
 ·split at e
  ·cases e;rw [gp'];simp
  ·exact h1.r.da j q e
 ·split at x
  ·cases x;split at y
   ·rename_i h1 h2;rw [h1,h2]
   ·exact absurd rfl (np y)
  ·split at y
   ·cases y;exact absurd rfl (np x)
   ·exact h.r.inj j k q x y
 ·rw [getElem?_set] at he ⊢;split at he
  ·split at he<;>cases he
  ·rename_i hj;rw [if_neg hj];obtain ⟨t,b,c⟩:=h.r.sh j _ he;exact ⟨t,b,c.up X1⟩
 ·rw [getElem?_set] at e ⊢;split at e
  ·rename_i hj;subst hj;split at e
   ·rename_i hl;cases e;refine ⟨p,xs,by simp,by rw [if_pos rfl,if_pos (by rw [← h.r.len];exact hl)],gp',hs.up (ju λb z=>?_)⟩;rcases z with z|⟨j,z⟩
    ·exact .inl (.inl z)
    ·simp only at z;split at z
     ·cases z;exact .inr rfl
     ·exact .inl (.inr ⟨j,z⟩)
   ·cases e
  ·rename_i hj;rw [if_neg hj];obtain ⟨q,ys,b,c,g,f⟩:=h1.r.ow j _ e;obtain ⟨q',ys',b',c',g',f'⟩:=h.r.ow j _ e;rw [b] at b';cases b';have:G' q=some (.lst ys'):=E q _ (by rintro rfl;have:=h.r.inj j l _ b h.al;subst this;rw [h.ul] at e;cases e) g';exact ⟨q,ys',by rw [if_neg (λz=>hj z.symm)];exact b,c,this,f'.up X1⟩
def RL.wr (h:RL l a z0 D G0 A τ ρ G n) {i:Nat} {p:Addr} {xs:List T} {ds ds0:List PyData} (ho:ρ[i]?=some (Sl.ow ds0)) (hi:A i=some p) (ht:τ[i]?=some (some (.ref p))) (hs:Dqs (rs (AD D A) G) xs ds):RL l a z0 D G0 A τ (ρ.set i (.ow ds)) (gu G p (.lst xs)) n:=by
 have il:i≠l:=by rintro rfl;rw [h.ul] at ho;cases ho
 have pa:p≠a:=by rintro rfl;exact il (h.r.inj i l _ hi h.al)
 exact ⟨h.r.wr hi ht hs,h.al,h.tl,by rw [getElem?_set,if_neg il];exact h.ul,h.lf.new pa,h.tz⟩
end
abbrev QO:=Ot->Nat->Prop
def LU (l:Nat) (a:Addr) (z0:Option (Option T)×Nat) (D:Addr->Prop) (G0:Gp) (e:Ends3):Ot->Nat->Prop
 |.nx ρ,n=>∀ A τ G,RL l a z0 D G0 A τ ρ G n->e.nx τ G
 |.bk ρ,n=>∀ A τ G,RL l a z0 D G0 A τ ρ G n->e.bk τ G
 |.ct ρ,n=>∀ A τ G,RL l a z0 D G0 A τ ρ G n->e.ct τ G
 |.rt d fr,n=>∀ x G,Ex G0 G->Lf G a n->Dq (rs (λb=>D b\/b=a) G) x d->(fr=true->Nw (λb=>D b\/b=a) G0 G x d)->e.rt x G
structure PwS (l:Nat) (t:TS3) where
 w:Rho->Nat->QO->Prop
 mono:∀ {ρ n} {Q Q':QO},w ρ n Q->(∀ o m,Q o m->Q' o m)->w ρ n Q'
 ok:∀ {a z0 D G0 A τ ρ G n} {e:Ends3} {Q:QO},RL l a z0 D G0 A τ ρ G n->w ρ n Q->(∀ o m,Q o m->LU l a z0 D G0 e o m)->t e τ G
section
variable {l:Nat}
def W9:PwS l qU:=⟨λρ n Q=>Q (.nx ρ) n,λh k=>k _ _ h,λh hw k=>k _ _ hw _ _ _ h⟩
def sqw (b:Rho->Nat->QO->Prop) (Q:QO):QO:=λo n=>match o with|.nx ρ'=>b ρ' n Q|o=>Q o n
def J4 {t u:TS3} (x:PwS l t) (y:PwS l u):PwS l (qG t u):=⟨λρ n Q=>x.w ρ n (sqw y.w Q),λh k=>x.mono h λo m h=>by
  cases o with
  |nx ρ=>exact y.mono h k
  |bk ρ=>exact k _ _ h
  |ct ρ=>exact k _ _ h
  |rt d f=>exact k _ _ h,λh hw k=>x.ok h hw λo m h=>by
  cases o with
  |nx ρ=>exact λA τ G r=>y.ok r h k
  |bk ρ=>exact k _ _ h
  |ct ρ=>exact k _ _ h
  |rt d f=>exact k _ _ h⟩
def wIf {c:TT3} {t u:TS3} (pc:PwC l c) (x:PwS l t) (y:PwS l u):PwS l (z9 c t u):=⟨λρ n Q=>pc.w ρ n λk n1=>if k then x.w ρ n1 Q else y.w ρ n1 Q,λh k=>pc.mono h λj m h=>by
  cases j with
  |true=>rw [if_pos rfl] at h ⊢;exact x.mono h k
  |false=>exact y.mono h k,λh hw k=>pc.ok (h.all _) hw λj G1 n1 hj E1 L1=>by
  cases j with
  |true=>rw [if_pos rfl] at hj ⊢;exact x.ok (h.up E1 L1) hj k
  |false=>exact y.ok (h.up E1 L1) hj k⟩
def qcR {a:Addr} {z0:Option (Option T)×Nat} {D:Addr->Prop} {G0 G G':Gp} {A:Nat->Option Addr} {τ:St3} {ρ:Rho} {n:Nat} (h:RL l a z0 D G0 A τ ρ G n) (e:Ext a G G'):Ex G0 G':=λb o x=>e b o (by rintro rfl;rw [h.r.fr l _ h.al] at x;cases x) (h.r.ex b o x)
def qh0 {t:TE3} (x:PwE l t):PwS l (zn t):=⟨λρ n Q=>x.w ρ n λd n1=>Q (.rt d x.nw) n1,λh k=>x.mono h λd m h=>k _ _ h,λh hw k=>x.ok (h.all _) hw λy d G1 n1 hq E1 L1 D1 N1=>k _ _ hq y G1 (qcR h E1) L1 D1 λz=>(N1 z).back h.r.ex⟩
def qbQ (i:Nat):PwS l (zn (v3 i)):=⟨λρ n Q=>∃ d b,qcx ρ i=some (.rt d b)/\Q (.rt d b) n,λ⟨d,b,h1,h2⟩ k=>⟨d,b,h1,k _ _ h2⟩,λ{a z0 D G0 A τ ρ G n e Q} h ⟨d,b,h1,h2⟩ k=>by
 unfold qcx at h1;split at h1
 ·rename_i ds e;cases h1;obtain ⟨p,xs,b,c,g,f⟩:=h.r.ow i _ e;simp only [zn,v3,c];have pa:p≠a:=by
   rintro rfl;have:=h.r.inj i l _ b h.al;subst this;rw [h.ul] at e;cases e
  refine k _ _ h2 _ _ h.r.ex h.lf (.lst (by rw [Z7 (by rintro (z|z);exact h.r.nd b z;exact pa z)];exact g) (f.up (ju λb z=>?_))) λ_=>.inr ⟨p,xs,ds,rfl,rfl,h.r.fr i p b,g,f.up (ju λq z=>?_)⟩
  ·rcases z with z|z
   ·exact .inl z
   ·subst z;exact .inr ⟨l,h.al⟩
  ·rcases z with (z|z)|z
   ·exact .inl z
   ·subst z;exact .inr ⟨l,h.al⟩
   ·subst z;exact .inr ⟨i,b⟩
 ·rename_i d e;cases h1;obtain ⟨t,b,c⟩:=h.r.sh i _ e;simp only [zn,v3,b];refine k _ _ h2 _ _ h.r.ex h.lf (c.up (ju λb z=>?_)) (λz=>by cases z);rcases z with z|z
  ·exact .inl z
  ·subst z;exact .inr ⟨l,h.al⟩
 ·cases h1⟩
def EO {t:TE3} (x:PwE l t) (i:Nat) (m:List Bool) (hm:Tru (x.fv.all (mkb m))) (hl:Tru (!mkb m l&&(i != l&&i != 0))):PwS l (qV t (gn3 i)):=⟨λρ n Q=>x.w ρ n λd n1=>Q (.nx (CL m x.nw i d ρ)) n1,λh k=>x.mono h λd m h=>k _ _ h,λ{a z0 D G0 A τ ρ G n e Q} h hw k=>by
 have hl':mkb m l=false/\i≠l/\i≠0:=by simpa using hl.h
 refine x.ok (h.ln hl'.1 hm) hw λy d G1 n1 hq E1 L1 D1 N1=>?_;have k:=k _ _ hq;unfold CL at k;show e.nx (τ.set i (some y)) G1;split at k
 ·rename_i hs;exact k _ _ _ ((h.up E1 L1).put hl'.2.1 hl'.2.2 (D4 D1 hs))
 ·split at k
  ·rename_i hn;have N:=N1 hn;rcases id N with h2|⟨p,xs,ds,h1,h2,_⟩
   ·subst h2;rename_i hs;exact absurd rfl hs
   subst h2;obtain ⟨A',r⟩:=(h.dem hl'.1).putN hl'.2.1 hl'.2.2 rfl E1 L1 N;exact k _ _ _ r
  ·exact k _ _ _ (((h.dem hl'.1).up E1 L1).put hl'.2.1 hl'.2.2 D1)⟩
def RL.evalS {a:Addr} {z0:Option (Option T)×Nat} {D:Addr->Prop} {G0 G:Gp} {A:Nat->Option Addr} {τ:St3} {ρ:Rho} {n:Nat} (h:RL l a z0 D G0 A τ ρ G n) {t:TE3} (x:PwE l t) (m:List Bool) (hm:Tru (x.fv.all (mkb m))) (hl:mkb m l=false) {Q:QD} (hw:x.w ρ n Q) (q:Q3) (k:∀ y d G' n' A1,Q d n'->RL l a z0 D G0 A1 τ (dmS m d ρ) G' n'->Ext a G G'->Dq (rs (AD D A1) G') y d->q y G'):t τ G q:=by
 refine x.ok (h.ln hl hm) hw λy d G1 n1 hq E1 L1 D1 _=>?_;by_cases hs:qbs d=true
 ·exact k y d G1 n1 A hq (by unfold dmS;rw [if_pos hs];exact h.up E1 L1) E1 (D4 D1 hs)
 ·exact k y d G1 n1 _ hq (by unfold dmS;rw [if_neg hs];exact (h.dem hl).up E1 L1) E1 D1
def NM {t:TE3} (x:PwE l t) (i:Nat) (m:List Bool) (hm:Tru (x.fv.all (mkb m))) (hl:Tru (!mkb m l)):PwS l (QI (bm3 UB (v3 i) (qb t qi))):=⟨λρ n Q=>∃ ds,slot ρ i=some ds/\x.w ρ n λd n1=>slot (dmS m d ρ) i=some ds/\ds.length<16777216/\Q (.nx ((dmS m d ρ).set i (.ow (ds++[d])))) n1,λ⟨v,h0,h⟩ k=>⟨v,h0,x.mono h λd m ⟨y,h1,h2⟩=>⟨y,h1,k _ _ h2⟩⟩,λ{a z0 D G0 A τ ρ G n e Q} h ⟨ds,h0,hw⟩ k=>by
 have hl':mkb m l=false:=by simpa using hl.h
 obtain ⟨p,xs,b,c,g,f⟩:=h.r.ow i _ (RQ h0);simp only [QI,bm3,v3,c,jd g];refine ⟨rfl,h.evalS x m hm hl' hw _ λy d G1 n1 A1 ⟨h1,h2,hq⟩ r E1 D1=>?_⟩;obtain ⟨p',xs',b',c',g',f'⟩:=r.r.ow i _ (RQ h1);rw [c] at c';cases c';simp only [qi,UB,g'];exact ⟨by rw [f'.length,sizeLine_eq];exact h2,k _ _ hq _ _ _ (r.wr (RQ h1) b' c (f'.append (.cons D1 .nil)))⟩⟩
def KY (gf:PyData->Option (List (Nat×PyData))) (bw:Rho->Nat->QO->Prop):List PyData->Rho->Nat->QO->Prop
 |[],ρ,n,Q=>Q (.nx ρ) n
 |d::r,ρ,n,Q=>∃ bs,gf d=some bs/\bw (D0 ρ bs) n λo n1=>match o with
  |.nx ρ'=>KY gf bw r ρ' n1 Q
  |.ct ρ'=>KY gf bw r ρ' n1 Q
  |.bk ρ'=>Q (.nx ρ') n1
  |.rt d b=>Q (.rt d b) n1
def EI {g:TG3} {tb:TS3} (pg:PuG g) (pb:PwS l tb):∀ {ds:List PyData} {ρ:Rho} {n:Nat} {Q Q':QO},KY pg.f pb.w ds ρ n Q->(∀ o m,Q o m->Q' o m)->KY pg.f pb.w ds ρ n Q'
 |[],_,_,_,_,h,k=>k _ _ h
 |d::r,_,_,_,_,⟨bs,e,h⟩,k=>⟨bs,e,pb.mono h λo m h=>by
   cases o with
   |nx ρ=>exact EI pg pb h k
   |ct ρ=>exact EI pg pb h k
   |bk ρ=>exact k _ _ h
   |rt d b=>exact k _ _ h⟩
def WA {stay:Gp->Prop} {g:TG3} {tb:TS3} {e:Ends3} (pg:PuG g) (pb:PwS l tb) {a:Addr} {z0:Option (Option T)×Nat} {D:Addr->Prop} {G0:Gp} {Q:QO} (hl:∀ i∈pg.tg,i≠l/\i≠0) (hs:∀ A τ ρ G n,RL l a z0 D G0 A τ ρ G n->stay G) (k:∀ o m,Q o m->LU l a z0 D G0 e o m) :
  ∀ (ds:List PyData) (items:List T),(∀ A τ ρ G n,RL l a z0 D G0 A τ ρ G n->Dqs (rs (AD D A) G) items ds)->∀ A τ ρ G n,RL l a z0 D G0 A τ ρ G n->KY pg.f pb.w ds ρ n Q->XT stay g tb e items τ G
 |[],items,hi,A,τ,ρ,G,n,h,hw=>by
  have:=hi _ _ _ _ _ h;cases this;exact ⟨hs _ _ _ _ _ h,k _ _ hw _ _ _ h⟩
 |d::ds,items,hi,A,τ,ρ,G,n,h,⟨bs,e1,hw⟩=>by
  have hh:=hi _ _ _ _ _ h;cases hh with
  |cons hx hr=>
   rename_i x items;obtain ⟨ts,bd,kg⟩:=pg.ok hx e1;refine ⟨hs _ _ _ _ _ h,kg _ _ _ ?_⟩;obtain ⟨A',h'⟩:=h.puts bd λp hp=>hl _ (pg.at' e1 p hp);have hi':∀ A τ ρ G n,RL l a z0 D G0 A τ ρ G n->Dqs (rs (AD D A) G) items ds:=λA τ ρ G n h=>by
    have:=hi _ _ _ _ _ h;cases this with
    |cons a b=>exact b
   refine pb.ok h' hw λo m hq=>?_;cases o with
   |nx ρ'=>exact λA2 τ2 G2 h2=>WA pg pb hl hs k ds items hi' _ _ _ _ _ h2 hq
   |ct ρ'=>exact λA2 τ2 G2 h2=>WA pg pb hl hs k ds items hi' _ _ _ _ _ h2 hq
   |bk ρ'=>exact k _ _ hq
   |rt d fr=>exact k _ _ hq
def RL.base {a:Addr} {z0:Option (Option T)×Nat} {D:Addr->Prop} {G0 Gb G:Gp} {A:Nat->Option Addr} {τ:St3} {ρ:Rho} {n:Nat} (h:RL l a z0 D Gb A τ ρ G n) (e:Ex G0 Gb) (hd:Dom D G0):RL l a z0 D G0 A τ ρ G n:=⟨h.r.base e hd,h.al,h.tl,h.ul,h.lf,h.tz⟩
def LU.base {a:Addr} {z0:Option (Option T)×Nat} {D:Addr->Prop} {G0 Gb:Gp} {e:Ends3} {o:Ot} {n:Nat} (h:LU l a z0 D G0 e o n) (x:Ex G0 Gb) (hd:Dom D G0):LU l a z0 D Gb e o n:=by
 cases o with
 |nx ρ=>exact λA τ G r=>h A τ G (r.base x hd)
 |bk ρ=>exact λA τ G r=>h A τ G (r.base x hd)
 |ct ρ=>exact λA τ G r=>h A τ G (r.base x hd)
 |rt d fr=>exact λy G p q r z=>h y G (x.trans p) q r λw=>(z w).back x
def qcy {wi:TI3} {g:TG3} {tb:TS3} (pi:PwI l wi) (pg:PuG g) (pb:PwS l tb) (m:List Bool) (hm:Tru (pi.fv.all (mkb m))) (hl:Tru (!mkb m l&&pg.tg.all (λi=>i != l&&i != 0))):PwS l (W4 wi g tb):=⟨λρ n Q=>pi.w ρ n λds n1=>KY pg.f pb.w ds (if pi.nm then ρ else dm m ρ) n1 Q,λh k=>pi.mono h λd m h=>EI pg pb h k,λ{a z0 D G0 A τ ρ G n e Q} h hw k=>by
 have hl':mkb m l=false/\∀ i∈pg.tg,i≠l/\i≠0:=by simpa using hl.h
 refine pi.ok (h.ln hl'.1 hm) hw λitems stay ds G1 n1 hq E1 L1 D1 hs hnm=>?_;cases hb:pi.nm with
 |true=>
  rw [hb,if_pos rfl] at hq;obtain ⟨ns,rfl⟩:=hnm hb;have:=D1.ints;subst this;exact WA pg pb hl'.2 (λ_ _ _ _ _ _=>hs _ (.inl hb)) k _ _ (λA τ ρ G _ _=>Dqs.ofInts _) _ _ _ _ _ (h.up E1 L1) hq
 |false=>
  rw [hb,if_neg Bool.false_ne_true] at hq;have h1:=(h.dem hl'.1).up E1 L1;have b1:Ex G0 (rs (λb=>∃ i,Ad m A i=some b) G1):=λb o e=>by
   rw [Z7]
   ·exact h1.r.ex _ _ e
   ·rintro ⟨i,z⟩;rw [h1.r.fr i _ z] at e;cases e
  have h2:RL l a z0 D (rs (λb=>∃ i,Ad m A i=some b) G1) (Ad m A) τ (dm m ρ) G1 n1:=⟨⟨C9,h.r.dm.up b1,λi p z=>by unfold rs;exact q0 ⟨i,z⟩,h1.r.da,h1.r.inj,h1.r.len,h1.r.sh,h1.r.ow⟩,h1.al,h1.tl,h1.ul,h1.lf,h1.tz⟩
  have X:∀ A2 τ2 ρ2 G2,RS D (rs (λb=>∃ i,Ad m A i=some b) G1) A2 τ2 ρ2 G2->Ex (rs (AD D (Ad m A)) G1) (rs (AD D A2) G2):=λA2 τ2 ρ2 G2 r b o e=>by
   obtain ⟨n1,e⟩:=qT e;have eb:rs (λb=>∃ i,Ad m A i=some b) G1 b=some o:=by rw [Z7 (λz=>n1 (.inr z))];exact e
   rw [Z7]
   ·exact r.ex _ _ eb
   ·rintro (z|⟨i,z⟩)
    ·exact n1 (.inl z)
    ·rw [r.fr i _ z] at eb;cases eb
  exact WA pg pb hl'.2 (λA2 τ2 ρ2 G2 n2 r=>hs _ (.inr ((X _ _ _ _ r.r).trans C9))) (λo m hq=>(k o m hq).base b1 h.r.dm) _ _ (λA2 τ2 ρ2 G2 n2 r=>D1.up (X _ _ _ _ r.r)) _ _ _ _ _ h2 hq⟩
end
def DSp (W:List PyData->Nat->QD->Prop) (fr:Bool):Sp3:=λts G q=>∃ (D:Addr->Prop) (a:Addr) (n:Nat) (ts':List T) (ds:List PyData) (Q:QD),ts=.ref a::ts'/\Lf G a n/\D a/\Dom D G/\Dqs (rs D G) ts' ds/\W ds n Q/\∀ x d G' n',Q d n'->Ext a G G'->Lf G' a n'->Dq (rs D G') x d->(fr=true->Nw D G G' x d)->q x G'
structure Wm where
 W:List PyData->Nat->QD->Prop
 mono:∀ {ds n} {Q Q':QD},W ds n Q->(∀ d m,Q d m->Q' d m)->W ds n Q'
def dSp (w:Wm) (fr:Bool):DrD (DSp w.W fr):=⟨w.W,fr,w.mono,λ{D G a n ts ds q Q} lf da hd hs hw k=>⟨D,a,n,ts,ds,Q,rfl,lf,da,hd,hs,hw,k⟩⟩
def qhv (fr:Bool) (Q:QD):QO:=λo n=>match o with
 |.rt d b=>(fr=true->b=true)/\∃ m,n<=m/\Q d m
 |.nx _=>fr=false/\∃ m,n<=m/\Q .none m
 |_=>False
def qjp {t:TS3} (b:PwS 0 t) (k N:Nat) (fr:Bool):Wm:=⟨λds n Q=>ds.length+1=k/\b.w (.un::(ds.map Sl.sh++List.replicate (N-(ds.length+1)) .un)) n (qhv fr Q),λ⟨h1,h2⟩ k=>⟨h1,b.mono h2 λo m h=>by
 cases o with
 |rt d f=>obtain ⟨h1,m,h2,h3⟩:=h;exact ⟨h1,m,h2,k _ _ h3⟩
 |nx ρ=>obtain ⟨h1,m,h2,h3⟩:=h;exact ⟨h1,m,h2,k _ _ h3⟩
 |bk ρ=>exact h
 |ct ρ=>exact h⟩⟩
def KP {t:TS3} (b:PwS 0 t) (N:List Str) (k:Nat) (fr:Bool):∀ ts G q,DSp (qjp b k N.length fr).W fr ts G q->ts.length=k/\t { nx:=λ_ G'=>q .non G',rt:=q } (qs N ts) G:=by
 rintro ts G q ⟨D,a,n,ts',ds,Q,rfl,lf,da,hd,hs,⟨hk,hw⟩,h⟩;refine ⟨by simp [hs.length];omega,?_⟩;have DD:∀ b,(D b/\b≠a)\/b=a↔D b:=λb=>by
  by_cases e:b=a
  ·subst e;simp [da]
  ·simp [e]
 have rr:∀ H,rs (λb=>(D b/\b≠a)\/b=a) H=rs D H:=λH=>by
  have:(λb=>(D b/\b≠a)\/b=a)=D:=funext λb=>propext (DD b);rw [this]
 have ad:AD (λb=>D b/\b≠a) (λi=>if i=0 then some a else none)=D:=funext λb=>propext ⟨(λz=>by
   rcases z with z|⟨i,z⟩
   ·exact z.1
   ·simp only at z;split at z
    ·cases z;exact da
    ·cases z),(λz=>by
   by_cases e:b=a
   ·subst e;exact .inr ⟨0,rfl⟩
   ·exact .inl ⟨z,e⟩)⟩
 have ga:G a≠none:=EJ lf;have r:RL 0 a (some (some (.ref a)),(qs N (.ref a::ts')).length) (λb=>D b/\b≠a) (rs (λb=>b=a) G) (λi=>if i=0 then some a else none) (qs N (.ref a::ts')) (.un::(ds.map Sl.sh++List.replicate (N.length-(ds.length+1)) .un)) G n:=by
  refine ⟨⟨C9,λb hb=>by rw [Z7 (D:=λb=>b=a) hb.2];exact hd b hb.1,λi p e=>?_,λi p e=>?_,λi j p e e'=>?_,by simp [qs,hs.length],λi d' e=>?_,λi es e=>?_⟩,rfl,by simp [qs],rfl,lf,⟨by simp [qs],rfl⟩⟩
  ·split at e
   ·cases e;unfold rs;exact q0 rfl
   ·cases e
  ·split at e
   ·cases e;exact ga
   ·cases e
  ·split at e
   ·split at e'
    ·rename_i h1 h2;rw [h1,h2]
    ·cases e'
   ·cases e
  ·rw [ad];cases i with
   |zero=>cases e
   |succ i=>
    rw [getElem?_cons_succ] at e;by_cases hi:i<ds.length
    ·rw [List.getElem?_append_left (by simpa using hi),getElem?_map] at e;obtain ⟨d2,e3,e4⟩:=Option.map_eq_some_iff.mp e;cases e4;obtain ⟨x,e5,hx⟩:=hs.get e3;refine ⟨x,?_,hx⟩;unfold qs;rw [List.getElem?_append_left (by simp [hs.length];exact hi),getElem?_map,getElem?_cons_succ,e5];rfl
    ·rw [List.getElem?_append_right (by simpa using hi),List.getElem?_replicate] at e;split at e<;>cases e
  ·cases i with
   |zero=>cases e
   |succ i=>
    rw [getElem?_cons_succ] at e;by_cases hi:i<ds.length
    ·rw [List.getElem?_append_left (by simpa using hi),getElem?_map] at e;obtain ⟨d2,e3,e4⟩:=Option.map_eq_some_iff.mp e;cases e4
    ·rw [List.getElem?_append_right (by simpa using hi),List.getElem?_replicate] at e;split at e<;>cases e
 have xe:∀ {G'},Ex (rs (λb=>b=a) G) G'->Ext a G G':=λe b o n x=>e b o (by rw [Z7 (D:=λb=>b=a) n];exact x);refine b.ok r hw λo m hq=>?_;cases o with
 |rt d f=>
  intro x G' E L Dx0 N;have Dx:=Dx0;rw [rr] at Dx;obtain ⟨hq1,m2,hm,hq2⟩:=hq;refine h x d G' m2 hq2 (xe E) (L.mono (by omega)) Dx λz=>?_;rcases N (hq1 z) with h2|⟨p,xs,ds',h1,h2,c,g,f'⟩
  ·exact .inl h2
  have np:p≠a:=by
   rintro rfl;rw [h1] at Dx0;cases Dx0 with
   |lst g0 _=>exact (qT g0).1 (.inr rfl)
  refine .inr ⟨p,xs,ds',h1,h2,by rw [Z7 (D:=λb=>b=a) np] at c;exact c,g,f'.up (ju λb z=>?_)⟩;rcases z with z|z
  ·exact .inl ((DD b).mpr z)
  ·exact .inr z
 |nx ρ=>
  obtain ⟨hq1,m2,hm,hq2⟩:=hq;exact λA τ G' r'=>h .non .none G' m2 hq2 (xe r'.r.ex) (r'.lf.mono (by omega)) .non λz=>by rw [hq1] at z;cases z
 |bk ρ=>exact hq.elim
 |ct ρ=>exact hq.elim
end Pu
namespace Pu
open PySem L2 L3
open Bk (Lf Ext Dl Dr)
def okW:QO:=λo _=>match o with|.nx _=>True|.ct _=>True|_=>False
def qjQ (K:Int):TE3:=o3 zN (c3 (.int 1)) (cb3 MZ (qb (c3 (.int K)) (qb (cb3 V9 (qb (v3 0) qi)) qi)))
def qgK {i:Nat} {τ:St3} {t:T} {G:Gp} {q:Q3} (h:τ[i]?=some (some t)):v3 i τ G q=q t G:=by unfold v3;rw [h]
def qjX (K:Int) (R:TS3):TS3:=qG (W4 (QA (qb (qjQ K) qi)) (gn3 1) (qG (qV (cb3 Bk.ZF (qb (v3 0) (qb (v3 1) qi))) (gn3 2)) R)) (zn (c3 (.bl true)))
def qac {R:TS3} (b:PwS 2 R) (N:List Str) (K:Int) (M:Nat) (hK:0<=K/\K<=60) (hN:N.length=M+3) (h:∀ k:Nat,k<=60->b.w ([.un,.sh (.int k),.un]++List.replicate M .un) 0 okW):∀ ts G q,DH ts G q->ts.length=1/\qjX K R { nx:=λ_ G'=>q .non G',rt:=q } (qs N ts) G:=by
 rintro ts G q ⟨a,ns,rfl,hG,hl,hq⟩;refine ⟨rfl,?_⟩;have s0:(qs N [T.ref a])[0]?=some (some (.ref a)):=by simp [qs]
 have gl:jq G a=some (ns.map T.int):=by unfold jq;rw [hG]
 simp only [qjX,qG,W4,QA,qjQ,qb,qi,o3,c3,cb3,v3,s0,V9,gl,MZ,zN,length_map];have cnt:((1+(if ((ns.length:Nat):Int)<K then ((ns.length:Nat):Int) else K)).toNat)<=61:=by split<;>omega
 refine ⟨⟨by split<;>omega,by split<;>omega⟩,?_⟩;refine UZ _ (λ_ τ G'=>G' a=some (.frz (ns.map T.int))/\τ[0]?=some (some (.ref a))/\τ.length=M+3) ⟨hG,s0,by simp [qs,hN]⟩ (λ_ _ _ _ _=>True.intro) ?_ ?_
 ·rintro i z τ G' nx hz ⟨gA,t0,tl⟩ hn;obtain ⟨hi,rfl⟩:=MT hz;have hi2:i<=60:=by omega
  have t1:(τ.set 1 (some (T.int (0+(i:Int)))))[0]?=some (some (.ref a)):=by rw [getElem?_set,if_neg (by omega)];exact t0
  have t2:(τ.set 1 (some (T.int (0+(i:Int)))))[1]?=some (some (T.int (0+(i:Int)))):=by rw [getElem?_set,if_pos rfl,if_pos (by omega)]
  show v3 0 (τ.set 1 (some (T.int (0+(i:Int))))) G' (λx G1=>v3 1 (τ.set 1 (some (T.int (0+(i:Int))))) G1 λy G2=>Bk.ZF [x,y] G2 λz G3=>R _ ((τ.set 1 (some (T.int (0+(i:Int))))).set 2 (some z)) G3);rw [qgK t1,qgK t2];refine ⟨a,_,ns,rfl,gA,hl,by omega,by omega,λp o c hp ho=>?_⟩;have pa:a≠p:=by rintro rfl;rw [gA] at hp;cases hp
  have r:RL 2 p (some (some (.ref a)),M+3) (λ_=>False) G' (λj=>if j=2 then some p else none) ((τ.set 1 (some (T.int (0+(i:Int))))).set 2 (some (.ref p))) ([.un,.sh (.int i),.un]++List.replicate M .un) (gu G' p (.lst [.int o,.int c,.int 0])) 0:=by
   refine ⟨⟨QY hp,λb z=>z.elim,λj q e=>?_,λj q e=>?_,λj k q e e'=>?_,by simp [tl],λj d e=>?_,λj ds e=>?_⟩,rfl,by rw [getElem?_set,if_pos rfl,if_pos (by simp;omega)],rfl,⟨o,c,0,qE,ho,by omega,by omega⟩,⟨by rw [getElem?_set,if_neg (by omega)];exact t1,by simp [tl]⟩⟩
   ·split at e
    ·cases e;exact hp
    ·cases e
   ·split at e
    ·cases e;rw [qE];simp
    ·cases e
   ·split at e
    ·split at e'
     ·rename_i h1 h2;rw [h1,h2]
     ·cases e'
    ·cases e
   ·match j,e with
    |0,e=>cases e
    |1,e=>
     cases e;refine ⟨.int (0+(i:Int)),by rw [getElem?_set,if_neg (by omega)];exact t2,?_⟩;rw [Int.zero_add];exact .int _
    |2,e=>cases e
    |j+3,e=>
     simp only [cons_append,List.nil_append,getElem?_cons_succ,List.getElem?_replicate] at e;split at e<;>cases e
   ·match j,e with
    |0,e=>cases e
    |1,e=>cases e
    |2,e=>cases e
    |j+3,e=>
     simp only [cons_append,List.nil_append,getElem?_cons_succ,List.getElem?_replicate] at e;split at e<;>cases e
  refine b.ok r (h i hi2) λo' m ho'=>?_;cases o' with
  |nx ρ'=>exact λA τ' G2 r2=>hn _ _ ⟨r2.r.ex _ _ gA,r2.tz.1,r2.tz.2⟩
  |ct ρ'=>exact λA τ' G2 r2=>hn _ _ ⟨r2.r.ex _ _ gA,r2.tz.1,r2.tz.2⟩
  |bk ρ'=>exact ho'.elim
  |rt d f=>exact ho'.elim
 ·rintro τ G' ⟨gA,t0,tl⟩;exact hq G'
def K5 {G:Gp} {ts:List T} (h:Dqs G ts []):ts=[]:=by cases h;rfl
def qiR {G:Gp} {ts:List T} {i:Int} (h:Dqs G ts [.int i]):ts=[.int i]:=by
 cases h with
 |cons a b=>cases b;cases a;rfl
def lfc {G:Gp} {a:Addr} {n c:Nat} (h:Lf G a ((n:Int)+(c:Int))):Lf G a ((n+c:Nat):Int):=by rw [Int.natCast_add];exact h
def LY:DrD Bk.qw:=⟨λds n Q=>∃ m:Int,ds=[.int m]/\(1<=m/\m<1073741824)/\n<1000000000/\∀ d:Int,0<=d->d<m->Q (.int d) (n+1),false,
 λ⟨m,h1,h2,h3,h4⟩ k=>⟨m,h1,h2,h3,λd x y=>k _ _ (h4 d x y)⟩,λ{D G a n ts ds q Q} lf da hd hs ⟨m,h1,h2,h3,h4⟩ k=>by
 subst h1;have:=qiR hs;subst this;exact ⟨a,n,m,rfl,h2.1,h2.2,lf,by omega,λd G' x y L E=>k _ _ G' (n+1) (h4 d x y) E (lfc (c:=1) L) (.int d) (λz=>by cases z)⟩⟩
def KU:DrD Bk.jG:=⟨λds n Q=>ds=[]/\n<1000000/\∀ d:Dl,Dr d 4 4 5->d.dep=0->Q (Pv.dlD d) (n+300),false,
 λ⟨h1,h3,h4⟩ k=>⟨h1,h3,λd x y=>k _ _ (h4 d x y)⟩,λ{D G a n ts ds q Q} lf da hd hs ⟨h1,h3,h4⟩ k=>by
 subst h1;have:=K5 hs;subst this;exact ⟨a,n,rfl,lf,by omega,λd G' a1 a2 L E=>k _ _ G' (n+300) (h4 d a1 a2) E (lfc (c:=300) L) (Pv.qaf _ _) (λz=>by cases z)⟩⟩
def WT:DrD Bk.jz:=⟨λds n Q=>ds=[]/\n<100000/\∀ d:Dl,Dr d 16 16 32->d.dep<=2->Q (Pv.dlD d) (n+1000),false,
 λ⟨h1,h3,h4⟩ k=>⟨h1,h3,λd x y=>k _ _ (h4 d x y)⟩,λ{D G a n ts ds q Q} lf da hd hs ⟨h1,h3,h4⟩ k=>by
 subst h1;have:=K5 hs;subst this;exact ⟨a,n,rfl,lf,by omega,λd G' a1 a2 L E=>k _ _ G' (n+1000) (h4 d a1 a2) E (lfc (c:=1000) L) (Pv.qaf _ _) (λz=>by cases z)⟩⟩
def qec {l:Nat} {t:TE3} {b:PuE t}:(eOf (l:=l) b).w=λρ n Q=>∃ d,b.f ρ=some d/\Q d n:=id rfl
def qfB {l:Nat} {t:TT3} {b:PuC t}:(cOf (l:=l) b).w=λρ n Q=>∃ d,b.f ρ=some d/\Q d n:=id rfl
def qhb {l:Nat} {t:TA3} {b:PuA t}:(aOf (l:=l) b).w=λρ n Q=>∃ d,b.f ρ=some d/\Q d n:=id rfl
def qeV {l:Nat} {t:TI3} {b:PuI t}:(iOf (l:=l) b).w=λρ n Q=>∃ d,b.f ρ=some d/\Q d n:=id rfl
def qj4 {l:Nat} {r:R3} {ta tb:TE3} {R:OpD r} {a:PwE l ta} {b:PwE l tb}:(eO R a b).w=λρ n Q=>a.w ρ n λx n1=>b.w ρ n1 λy n2=>∃ v,R.f x y=some v/\Q v n2:=id rfl
def T8 {l:Nat} {ta:TE3} {tr:TA3} {a:PwE l ta} {r:PwA l tr}:(WF a r).w=λρ n Q=>a.w ρ n λx n1=>r.w ρ n1 λxs n2=>Q (x::xs) n2:=id rfl
def qbc {l:Nat} {t:TA3} {b:PwA l t} {hn:Tru (Nat.ble b.k 1000)}:(qiL b hn).w=λρ n Q=>b.w ρ n λxs n1=>Q (.tuple xs) n1:=id rfl
def qbr {l:Nat} {t:TA3} {b:PwA l t} {hn:Tru (Nat.ble b.k 1000)}:(qhZ b hn).w=λρ n Q=>b.w ρ n λxs n1=>Q (.list xs) n1:=id rfl
def qeZ {l:Nat} {r:List T->Gp->Q3->Prop} {t:TA3} {R:DrD r} {b:PwA l t}:(eDr R b).w=λρ n Q=>b.w ρ n λxs n1=>R.W xs n1 Q:=id rfl
def qjO {l:Nat} {t:TE3} {b:PwE l t}:(iS b).w=λρ n Q=>b.w ρ n λd n1=>∃ ds,qbJ d=some ds/\Q ds n1:=id rfl
def qeD {l:Nat} {t:TE3} {b:PwE l t}:(iS b).nm=false:=id rfl
def qbu {l:Nat} {t:TI3} {b:PuI t}:(iOf (l:=l) b).nm=b.nm:=id rfl
def qbi {l:Nat} {t:TE3} {b:PuE t}:(eOf (l:=l) b).nw=b.nw:=id rfl
def qg2 {l:Nat} {r:R3} {ta tb:TE3} {R:OpD r} {a:PwE l ta} {b:PwE l tb}:(eO R a b).nw=R.nw:=id rfl
def LD {l:Nat} {t:TA3} {b:PwA l t} {hn:Tru (Nat.ble b.k 1000)}:(qhZ b hn).nw=true:=id rfl
def qaT {l:Nat} {r:List T->Gp->Q3->Prop} {t:TA3} {R:DrD r} {b:PwA l t}:(eDr R b).nw=R.nw:=id rfl
def K7 {l:Nat}:(W9 (l:=l)).w=λρ n Q=>Q (.nx ρ) n:=id rfl
def qaD {l:Nat} {t u:TS3} {x:PwS l t} {y:PwS l u}:(J4 x y).w=λρ n Q=>x.w ρ n (sqw y.w Q):=id rfl
def qak {b:Rho->Nat->QO->Prop} {Q:QO} {ρ:Rho} {n:Nat}:sqw b Q (.nx ρ) n=b ρ n Q:=id rfl
def qa5 {b:Rho->Nat->QO->Prop} {Q:QO} {d:PyData} {f:Bool} {n:Nat}:sqw b Q (.rt d f) n=Q (.rt d f) n:=id rfl
def qed {l:Nat} {c:TT3} {t u:TS3} {pc:PwC l c} {x:PwS l t} {y:PwS l u}:(wIf pc x y).w=λρ n Q=>pc.w ρ n λk n1=>if k then x.w ρ n1 Q else y.w ρ n1 Q:=id rfl
def qbf {l:Nat} {t:TE3} {x:PwE l t}:(qh0 x).w=λρ n Q=>x.w ρ n λd n1=>Q (.rt d x.nw) n1:=id rfl
def MS {l:Nat} {i:Nat}:(qbQ (l:=l) i).w=λρ n Q=>∃ d b,qcx ρ i=some (.rt d b)/\Q (.rt d b) n:=id rfl
def qaw {l:Nat} {t:TE3} {x:PwE l t} {i:Nat} {m:List Bool} {hm:Tru (x.fv.all (mkb m))} {hl:Tru (!mkb m l&&(i != l&&i != 0))}:(EO x i m hm hl).w=λρ n Q=>x.w ρ n λd n1=>Q (.nx (CL m x.nw i d ρ)) n1:=id rfl
def qbo {l:Nat} {t:TE3} {x:PwE l t} {i:Nat} {m:List Bool} {hm:Tru (x.fv.all (mkb m))} {hl:Tru (!mkb m l)}:(NM x i m hm hl).w=λρ n Q=>∃ ds,slot ρ i=some ds/\x.w ρ n λd n1=>slot (dmS m d ρ) i=some ds/\ds.length<16777216/\Q (.nx ((dmS m d ρ).set i (.ow (ds++[d])))) n1:=id rfl
def qaU {l:Nat} {wi:TI3} {g:TG3} {tb:TS3} {pi:PwI l wi} {pg:PuG g} {pb:PwS l tb} {m:List Bool} {hm:Tru (pi.fv.all (mkb m))} {hl:Tru (!mkb m l&&pg.tg.all (λi=>i != l&&i != 0))}:(qcy pi pg pb m hm hl).w=λρ n Q=>pi.w ρ n λds n1=>KY pg.f pb.w ds (if pi.nm then ρ else dm m ρ) n1 Q:=id rfl
def KH {ds:List PyData} {n:Nat} {Q:QD}:LY.W ds n Q=(∃ m:Int,ds=[.int m]/\(1<=m/\m<1073741824)/\n<1000000000/\∀ d:Int,0<=d->d<m->Q (.int d) (n+1)):=id rfl
def R8 {ds:List PyData} {n:Nat} {Q:QD}:KU.W ds n Q=(ds=[]/\n<1000000/\∀ d:Dl,Dr d 4 4 5->d.dep=0->Q (Pv.dlD d) (n+300)):=id rfl
def DN {ds:List PyData} {n:Nat} {Q:QD}:WT.W ds n Q=(ds=[]/\n<100000/\∀ d:Dl,Dr d 16 16 32->d.dep<=2->Q (Pv.dlD d) (n+1000)):=id rfl
def UK:WT.nw=false:=id rfl
def qgI {w:Wm} {fr:Bool}:(dSp w fr).W=w.W:=id rfl
def LL {Q:QD} {d:PyData} {b:Bool} {n:Nat}:qhv false Q (.rt d b) n=∃ m,n<=m/\Q d m:=propext ⟨λh=>h.2,λh=>⟨λz=>(Bool.false_ne_true z).elim,h⟩⟩
def qbB {ρ:Rho} {n:Nat}:okW (.nx ρ) n=True:=id rfl
def qd3 {α:Type} {v:α} {P:α->Prop}:(∃ d,some v=some d/\P d)=P v:=propext ⟨λ⟨d,h1,h2⟩=>by cases h1;exact h2,λh=>⟨v,rfl,h⟩⟩
def qaS {v:Int} {P:Int->Prop}:(∃ m:Int,[PyData.int v]=[.int m]/\P m)=P v:=propext ⟨λ⟨d,h1,h2⟩=>by cases h1;exact h2,λh=>⟨v,rfl,h⟩⟩
def qe5 {d:PyData} {b:Bool} {P:PyData->Bool->Prop}:(∃ d' b',some (Ot.rt d b)=some (.rt d' b')/\P d' b')=P d b:=propext ⟨λ⟨x,y,h1,h2⟩=>by cases h1;exact h2,λh=>⟨d,b,rfl,h⟩⟩
def qbg {m:List Bool} {nw:Bool} {i:Nat} {d:Dl} {ρ:Rho}:CL m nw i (Pv.dlD d) ρ=(dm m ρ).set i (.sh (Pv.dlD d)):=by cases d<;>exact qb6
def qZ {l:Nat} {t u:TS3} {x:PwS l t} {y:PwS l u} {ρ:Rho} {n:Nat} {Q:QO} (h:∀ Y:Rho->Nat->QO->Prop,Y=y.w->x.w ρ n (sqw Y Q)):(J4 x y).w ρ n Q:=h _ rfl
structure Mn (bw:Rho->Nat->QO->Prop):Prop where
 h:∀ ρ n (Q Q':QO),bw ρ n Q->(∀ o m,Q o m->Q' o m)->bw ρ n Q'
def PwS.mn {l:Nat} {t:TS3} (b:PwS l t):Mn b.w:=⟨λ_ _ _ _ h k=>b.mono h k⟩
section
variable {l:Nat} {g:TG3} {tb:TS3}
def WD {gf:PyData->Option (List (Nat×PyData))} {bw:Rho->Nat->QO->Prop} {α:Type} {f:α->PyData} (xs:List α) (mono:Mn bw) (I:Nat->Rho->Nat->Prop) {ρ:Rho} {n:Nat} {Q:QO} (h0:I 0 ρ n)
  (hs:∀ i x ρ n,xs[i]?=some x->I i ρ n->∃ bs,gf (f x)=some bs/\bw (D0 ρ bs) n λo m=>match o with|.nx ρ'=>I (i+1) ρ' m|.ct ρ'=>I (i+1) ρ' m|.bk ρ'=>Q (.nx ρ') m|.rt d b=>Q (.rt d b) m)
  (k:∀ ρ n,I xs.length ρ n->Q (.nx ρ) n):KY gf bw (xs.map f) ρ n Q:=by
 have key:∀ (r:List α) (i:Nat) (ρ:Rho) (n:Nat),xs.drop i=r->i<=xs.length->I i ρ n->KY gf bw (r.map f) ρ n Q:=by
  intro r;induction r with
  |nil=>
   intro i ρ n e hi h;have:i=xs.length:=by
    have:=congrArg List.length e;simp at this;omega
   subst this;exact k ρ n h
  |cons x r ih=>
   intro i ρ n e hi h;have hl:i<xs.length:=by
    have:=congrArg List.length e;simp at this;omega
   have e':=List.drop_eq_getElem_cons hl;rw [e] at e';injection e' with e1 e2;obtain ⟨bs,h1,h2⟩:=hs i x ρ n (by rw [getElem?_eq_getElem hl,e1]) h;refine ⟨bs,h1,mono.h _ _ _ _ h2 λo m h=>?_⟩;cases o with
   |nx ρ'=>exact ih (i+1) ρ' m e2.symm hl h
   |ct ρ'=>exact ih (i+1) ρ' m e2.symm hl h
   |bk ρ'=>exact h
   |rt d b=>exact h
 exact key xs 0 ρ n (by simp) (Nat.zero_le _) h0
end
def T1 {α β:Type} {x:α} {f:α->Option β}:(some x).bind f=f x:=id rfl
def qbh {α β:Type} {x:α} {f:α->β}:(some x).map f=some (f x):=id rfl
def qei {α:Type} {x:α} {r:List α}:(x::r).length=r.length+1:=id rfl
def qg5 {α:Type}:([]:List α).length=0:=id rfl
def qd2 {α:Type} {x y:α} {r:List α}:(x::r).set 0 y=y::r:=id rfl
def qgE {α:Type} {x y:α} {r:List α} {i:Nat}:(x::r).set (i+1) y=x::r.set i y:=id rfl
def qdA {α:Type} {r:List α}:r++[]=r:=List.append_nil r
def qeY {α:Type} {x:α} {r s:List α}:(x::r)++s=x::(r++s):=id rfl
def qeS {α:Type} {s:List α}:[]++s=s:=id rfl
def qdK {n:Nat}:0+n=n:=Nat.zero_add n
def qgU {p:Prop}:(True/\p)=p:=true_and p
def qdD {α:Type} {a b:α} {i:Decidable True}:@ite α True i a b=a:=if_pos trivial
def qdt {α:Type} {a b:α} {i:Decidable False}:@ite α False i a b=b:=if_neg not_false
def qgN:(false=true)=False:=Bool.false_eq_true
def qgd:(!true)=false:=id rfl
def qe9:(!false)=true:=id rfl
def qfl {i:Decidable True}:@decide True i=true:=decide_true i
def qfK {i:Decidable False}:@decide False i=false:=decide_false i
def qfI {b:Bool}:(b&&true)=b:=Bool.and_true b
def qfX {b:Bool}:(true&&b)=b:=Bool.true_and b
def qfk {b:Bool}:(false&&b)=false:=Bool.false_and b
def qeR {b:Bool}:(b&&false)=false:=Bool.and_false b
def ai{a b:Prop}(x:a)(y:b):a/\b:=⟨x,y⟩
def pwA:=(ai (ai (ai (ai (ai (ai (ai @Pu.qec @Pu.qfB) (ai @Pu.qhb (ai @Pu.qeV @Pu.qj4))) (ai (ai @Pu.T8 (ai @Pu.qbc @Pu.qbr)) (ai @Pu.qeZ (ai @Pu.qjO @Pu.qeD)))) (ai (ai (ai @Pu.qbu @Pu.qbi) (ai @Pu.qg2 (ai @Pu.LD @Pu.qaT))) (ai (ai @Pu.K7 (ai @Pu.qaD @Pu.qak)) (ai @Pu.qa5 (ai @Pu.qed @Pu.qbf))))) (ai (ai (ai (ai @Pu.MS @Pu.qaw) (ai @Pu.qbo (ai @Pu.qaU @Pu.KH))) (ai (ai @Pu.R8 (ai @Pu.DN @Pu.UK)) (ai @Pu.qgI (ai @Pu.LL @Pu.qbB)))) (ai (ai (ai @Pu.qaS (ai @Pu.qe5 @Pu.qbg)) (ai @Pu.qkg (ai @Pu.qbx @Pu.qfV))) (ai (ai @Pu.qau (ai @Pu.qa0 @Pu.qjS)) (ai @Pu.qbE (ai @Pu.LZ @Pu.qbd)))))) (ai (ai (ai (ai (ai @Pu.qao @Pu.KL) (ai @Pu.qgf (ai @Pu.qep @Pu.qaR))) (ai (ai @Pu.qf6 (ai @Pu.KR @Pu.K9)) (ai @Pu.qaO (ai @Pu.qbm @Pu.qbq)))) (ai (ai (ai @Pu.qfb (ai @Pu.qdQ @Pu.qg8)) (ai @Pu.qeP (ai @Pu.qbL @Pu.qaX))) (ai (ai @Pu.qaB (ai @Pu.LG @Pu.qgJ)) (ai @Pu.qdR (ai @Pu.qgP @Pu.qav))))) (ai (ai (ai (ai @Pu.LK @Pu.qaV) (ai @Pu.qaq (ai @Pu.LN @Pu.SG))) (ai (ai @Pu.qby (ai @Pu.qbl @Pu.MD)) (ai @Pu.LA (ai @Pu.qjM @Pu.qbe)))) (ai (ai (ai @Pu.MJ (ai @Pu.qbw @Pu.KM)) (ai @Pu.qar (ai @Pu.qgp @Pu.qat))) (ai (ai @Pu.qa3 (ai @Pu.LH @Pu.qaz)) (ai @Pu.qev (ai @Pu.qa4 @Pu.qem))))))) (ai (ai (ai (ai (ai (ai @Pu.KJ @Pu.KF) (ai @Pu.SL (ai @Pu.SN @Pu.SJ))) (ai (ai @Pu.KD (ai @Pu.ML @Pu.SH)) (ai @Pu.X7 (ai @Pu.T4 @Pu.qan)))) (ai (ai (ai @Pu.qj1 @Pu.qjV) (ai @Pu.qgB (ai @Pu.qgX @Pu.MP))) (ai (ai @Pu.qbH (ai @Pu.K6 @Pu.MU)) (ai @Pu.qbK (ai @Pu.NI @Pu.qgo))))) (ai (ai (ai (ai @Pu.at0 @Pu.at1) (ai @Pu.at2 (ai @Pu.at3 @Pu.eqS))) (ai (ai @Pu.eqI (ai @Pu.qjU @Pu.qbM)) (ai @Pu.qaK (ai @Pu.qaW @Pu.qbb)))) (ai (ai (ai @Pu.qeL (ai @Pu.qgM @Pu.qbD)) (ai @Pu.qaA (ai @Pu.qay @Pu.DI))) (ai (ai @Pu.qaC (ai @Pu.qaN @Pu.qfN)) (ai @Pu.qgm (ai @Pu.qe6 @Pu.qf9)))))) (ai (ai (ai (ai (ai @Pu.qeu @Pu.qd4) (ai @Pu.qaP (ai @Pu.qgw @Pu.qeI))) (ai (ai @Pu.qha (ai @Pu.qgS @Pu.qb6)) (ai @Pu.qas (ai @Pu.qa9 @Pu.NF)))) (ai (ai (ai @Pu.qiJ (ai @Pu.qj7 @Pu.qjP)) (ai @Pu.qfr (ai @Pu.qeg @Pu.qeA))) (ai (ai @Pu.qdx (ai @Pu.qgA @Pu.qjY)) (ai @Pu.qgk (ai @Pu.qbI @Pu.qbk))))) (ai (ai (ai (ai @Pu.qd3 @Pu.T1) (ai @Pu.qbh (ai @Pu.qei @Pu.qg5))) (ai (ai @Pu.qd2 (ai @Pu.qgE @Pu.qdA)) (ai @Pu.qeY (ai @Pu.qeS @Pu.qdK)))) (ai (ai (ai @Pu.qgU (ai @Pu.qdD @Pu.qdt)) (ai @Pu.qgN (ai @Pu.qgd @Pu.qe9))) (ai (ai @Pu.qfl (ai @Pu.qfK @Pu.qfI)) (ai @Pu.qfX (ai @Pu.qfk @Pu.qeR))))))))
end Pu
namespace Bk
open PySem L2 L3
end Bk
namespace Pu
open PySem L2 L3
open Bk (Lf Ext Dl Dr)
def the (S:PyData->Prop):Option PyData:=@dite _ (∃ v,S v) (Classical.propDecidable _) (λh=>some (Classical.choose h)) λ_=>none
end Pu
namespace Pu
open PySem L2 L3
open Bk (Lf Ext Dl Dr SD SDs qQ JD qy ZU qM QF D8 je)
def N9:∀ d:Dl,d.Ok->SD (d.dep+4) (8000*4 ^ d.dep) (Pv.dlD d)
 |.skew r c b x y,ok=>by
  simp only [Dl.Ok] at ok;refine (qQ (k:=2) (n:=20) ?_).mono (by simp [Dl.dep]) (by simp [Dl.dep]);refine qy (QF (n:=4) 2 (by decide) (by decide)) (m:=15) (qy (n:=0) (m:=12) (qM _ _ (by omega)) (qy (n:=0) (m:=9) (qM _ _ (by omega)) (qy (n:=0) (m:=6) (qM _ _ (by omega)) (qy (n:=0) (m:=3) (qM _ _ (by omega)) (qy (n:=0) (m:=0) (qM _ _ (by omega)) (ZU _ _) (by omega)) (by omega)) (by omega)) (by omega)) (by omega)) (by omega)
 |.rests r c b p,ok=>by
  simp only [Dl.Ok] at ok;refine (qQ (k:=2) (n:=20) ?_).mono (by simp [Dl.dep]) (by simp [Dl.dep]);refine qy (QF (n:=5) 2 (by decide) (by decide)) (m:=12) (qy (n:=0) (m:=9) (qM _ _ (by omega)) (qy (n:=0) (m:=6) (qM _ _ (by omega)) (qy (n:=0) (m:=3) (qM _ _ (by omega)) (qy (n:=0) (m:=0) (qM _ _ (by omega)) (ZU _ _) (by omega)) (by omega)) (by omega)) (by omega)) (by omega)
 |.bits h l ms,ok=>by
  simp only [Dl.Ok] at ok;have p8:(2:Int) ^ (h+l)<=2 ^ 8:=by
   have:=Nat.pow_le_pow_right (n:=2) (by omega) (show h+l<=8 by omega);have e1:((2 ^ (h+l):Nat):Int)=2 ^ (h+l):=by simp
   have e2:((2 ^ 8:Nat):Int)=2 ^ 8:=by simp
   omega
  have e:(2:Int) ^ 8=256:=by decide
  refine (qQ (k:=2) (n:=30) ?_).mono (by simp [Dl.dep]) (by simp [Dl.dep]);refine qy (QF (n:=4) 2 (by decide) (by decide)) (m:=16) (qy (n:=0) (m:=12) (qM _ _ (by omega)) (qy (n:=0) (m:=8) (qM _ _ (by omega)) (qy (n:=ms.length) (m:=0) (qQ (k:=1) (D8 λm hm=>by have:=ok.2.2.2 m hm;omega)) (ZU _ _) (by omega)) (by omega)) (by omega)) (by omega)
 |.table b cells,ok=>by
  obtain ⟨b1,b2,l1,l2,c,c1,c2,hc⟩:=ok;have rows:SDs 2 (cells.length*(60+1)) (cells.map Pv.SU):=by
   have:=je (k:=2) (n:=60) (ds:=cells.map Pv.SU) (λd hd=>by
    obtain ⟨r,hr,rfl⟩:=mem_map.mp hd;have h:=hc r hr;exact (qQ (k:=1) (D8 λm hm=>by have:=h.2 m hm;omega)).mono (by omega) (by rw [h.1];exact c2))
   rwa [length_map] at this
  refine (qQ (k:=3) (n:=4000) ?_).mono (by simp [Dl.dep]) (by simp [Dl.dep]);refine qy (QF (n:=5) 3 (by decide) (by decide)) (m:=3900) (qy (n:=0) (m:=3800) (qM _ _ (by omega)) (qy (n:=cells.length*(60+1)) (m:=0) (qQ (k:=2) rows) (ZU _ _) (by omega)) (by omega)) (by omega)
 |.joined d e,ok=>by
  simp only [Dl.Ok] at ok;have a:=N9 d ok.1;have b:=N9 e ok.2.1;have m1:4 ^ d.dep<=4 ^ max d.dep e.dep:=Nat.pow_le_pow_right (by omega) (Nat.le_max_left ..);have m2:4 ^ e.dep<=4 ^ max d.dep e.dep:=Nat.pow_le_pow_right (by omega) (Nat.le_max_right ..);have p0:1<=4 ^ max d.dep e.dep:=Nat.pow_pos (by omega);show SD (max d.dep e.dep+1+4) (8000*4 ^ (max d.dep e.dep+1)) (.tuple [.str "joined",Pv.dlD d,Pv.dlD e]);rw [Nat.pow_succ];generalize 4 ^ max d.dep e.dep=P at m1 m2 p0;generalize hM:max d.dep e.dep=M;have d1:d.dep<=M:=by rw [← hM];exact Nat.le_max_left ..
  have d2:e.dep<=M:=by rw [← hM];exact Nat.le_max_right ..
  refine qQ (k:=M+4) ?_;exact qy (n:=6) (m:=16000*P+10) (QF _ _ (by decide) (by decide)) (qy (n:=8000*P) (m:=8000*P+5) (a.mono (by omega) (by omega)) (qy (n:=8000*P) (m:=0) (b.mono (by omega) (by omega)) (ZU _ _) (by omega)) (by omega)) (by omega)
end Pu
namespace Pu
open PySem L2 L3
def WI (st:Bool):List PyData->Option PyData
 |[.none]=>some (.str "None")
 |[.bool b]=>some (.str (if b=true then Str.ofString "True" else Str.ofString "False"))
 |[.int i]=>cif (i.natAbs.log2<1920) (some (.str (Str.ofString (toString i)))) none
 |[.str x]=>match st with
  |true=>some (.str x)
  |false=>cif ((reprText x).length<=sizeLine) (some (.str (reprText x))) none
 |[.list ds]=>cif (ShW (.list ds)) (some (.str (PyData.list ds).shown)) none
 |[.tuple ds]=>cif (ShW (.tuple ds)) (some (.str (PyData.tuple ds).shown)) none
 |_=>none
def JL {α:Type} {c:Prop} {x:α} {d:α} (h:cif c (some x) none=some d):c/\x=d:=by
 unfold cif at h;split at h
 ·rename_i z;exact ⟨z,Option.some.inj h⟩
 ·cases h
def NT (st:Bool):FnD (C1 st):=⟨WI st,false,λ{D G xs ds v q} hx hd hf k=>by
 cases hx with
 |nil=>cases hf
 |cons a b=>
  cases b with
  |cons b1 b2=>cases a<;>cases hf
  |nil=>
   have dp:=(a.up C9).dp;have fin:∀ (x:Str) {w:PyData},w=v->w=.str x->q (.str x) G:=λx w e1 e2=>k _ _ Ex.refl (by rw [← e1,e2];exact .str _) (λz=>by cases z);cases a with
   |non=>exact fin _ (Option.some.inj hf) rfl
   |bl b=>exact fin _ (Option.some.inj hf) rfl
   |int i=>exact ⟨(JL hf).1,fin _ (JL hf).2 rfl⟩
   |str x=>
    cases st with
    |true=>exact fin _ (Option.some.inj hf) rfl
    |false=>exact ⟨(JL hf).1,fin _ (JL hf).2 rfl⟩
   |tup hs=>exact ⟨_,dp,(JL hf).1,fin _ (JL hf).2 rfl⟩
   |lst g hs=>exact ⟨_,dp,(JL hf).1,fin _ (JL hf).2 rfl⟩⟩
def LW {st:Bool}:(NT st).f=WI st:=id rfl
def SV {st:Bool}:(NT st).nw=false:=id rfl
def qgb {st:Bool} {ds:List PyData} (h:ShW (.list ds)):WI st [.list ds]=some (.str (PyData.list ds).shown):=q0 h
def qaM {st:Bool} {ds:List PyData} (h:ShW (.tuple ds)):WI st [.tuple ds]=some (.str (PyData.tuple ds).shown):=q0 h
def log2_lt {n k:Nat} (h:n<2 ^ k) (hk:0<k):n.log2<k:=by
 rcases Nat.eq_zero_or_pos n with z|z
 ·subst z;simpa using hk
 ·exact (Nat.log2_lt (by omega)).mpr h
def qbp {st:Bool} {i:Int} (h:-1000000000<=i/\i<=1000000000):WI st [.int i]=some (.str (Str.ofString (toString i))):=q0 (Nat.lt_of_lt_of_le (log2_lt (k:=30) (by omega) (by decide)) (by decide))
def qaF {st:Bool}:WI st [.none]=some (.str "None"):=id rfl
def qfM {st b:Bool}:WI st [.bool b]=some (.str (if b=true then Str.ofString "True" else Str.ofString "False")):=id rfl
def qg7 {xs:List PyData} {j:Nat} (h1:1<=j) (h2:j<=xs.length):L2.atI xs (-(j:Int))=xs[xs.length-j]?:=by
 have e:ixN xs.length (-(j:Int))=some (xs.length-j):=by
  unfold ixN;rw [if_neg (by omega),if_pos (by omega)];congr 1;omega
 unfold L2.atI;rw [e];rfl
def qfF {ds:List PyData} {r:Int} (h0:0<=r) (h1:r<(ds.length:Int)):∃ v∈ds,L2.atI ds r=some v:=by
 obtain ⟨j,rfl⟩:=Int.eq_ofNat_of_zero_le h0;have hj:j<ds.length:=by omega
 exact ⟨ds[j],List.getElem_mem hj,by rw [atN hj,getElem?_eq_getElem hj]⟩
def qiY {ds:List PyData} {r:Int} {P:PyData->Prop} (n:Nat) (hl:ds.length=n) (h0:0<=r) (h1:r<(n:Int)) (h:∀ v∈ds,P v):∃ v,L2.atI ds r=some v/\P v:=by
 obtain ⟨v,hv,e⟩:=qfF (ds:=ds) h0 (by rw [hl];exact h1);exact ⟨v,e,h v hv⟩
def qb2 {xs:List PyData} {lo hi:Option Int} {d:PyData} (h:d∈YY xs lo hi):d∈xs:=List.mem_of_mem_drop (List.mem_of_mem_take h)
def qc7 (xs:List PyData) (lo hi:Option Int):(YY xs lo hi).length<=xs.length:=by
 unfold YY;rw [List.length_take,List.length_drop];omega
def qaL {xs ys:List PyData} (h:xs.length+ys.length<=16777216):qdp (.list xs) (.list ys)=some (.list (xs++ys)):=q0 (by rw [sizeLine_eq];exact h)
def WQ (d e:PyData):Option PyData:=match d,e with
 |.str x,.str y=>cif (x.length+y.length<=sizeLine) (some (.str (x++y))) none
 |_,_=>none
def LJ:OpD NO:=⟨WQ,false,λ{D G x y d e v q} hx hy hd hf k=>by
 unfold WQ at hf;cases hx with
 |str s=>
  cases hy<;>try (simp at hf;done)
  simp only [cif] at hf;split at hf
  ·rename_i c;cases hf;exact ⟨c,k _ _ Ex.refl (.str _) (λz=>by cases z)⟩
  ·cases hf
 |_=>simp at hf⟩
def YU:LJ.f=WQ:=id rfl
def JE:LJ.nw=false:=id rfl
def CI {x y:Str} (h:x.length+y.length<=16777216):WQ (.str x) (.str y)=some (.str (x++y)):=q0 (by rw [sizeLine_eq];exact h)
def NE (d e:PyData):Option PyData:=match d,e with
 |.tuple _,.str _=>some (.bool false)
 |.list _,.str _=>some (.bool false)
 |d,e=>eqD false d e
def TU:OpD NN:=⟨NE,false,λ{D G x y d e v q} hx hy hd hf k=>by
 have hx':=hx;have hy':=hy;cases hx with
 |tup hs=>
  cases hy with
  |str s=>cases hf;exact k _ _ Ex.refl (.bl _) (λz=>by cases z)
  |_=>exact (DT false).ok hx' hy' hd hf k
 |lst g hs=>
  cases hy with
  |str s=>
   simp only [NN,(qT g).2];cases hf;exact k _ _ Ex.refl (.bl _) (λz=>by cases z)
  |_=>exact (DT false).ok hx' hy' hd hf k
 |_=>exact (DT false).ok hx' hy' hd hf k⟩
def jt:TU.f=NE:=id rfl
def qhT {xs:List PyData} {s:Str}:NE (.tuple xs) (.str s)=some (.bool false):=id rfl
def qiN {xs:List PyData} {s:Str}:NE (.list xs) (.str s)=some (.bool false):=id rfl
def qjy {x s:Str}:NE (.str x) (.str s)=eqD false (.str x) (.str s):=id rfl
end Pu
namespace Pv
open PySem L2 L3 Pu
open Bk (Dl)
end Pv
namespace Pv
open PySem L2 L3 Pu
open Bk (Dl)
end Pv
namespace Hd
open PySem L2 L3 PySem.W
def oF (x:Str) (st:Stmt) (pm cd:Value):Obj:=⟨.type "function",none,.func (PySem.W.fnOf x x (ZS st) (jk st) (qm st) .none .none .none pm none cd .none),#[]⟩
def oG (x:Str) (st:Stmt):Obj:=⟨.none,none,.func { name:=x,qualname:=x,params:=ZS st,body:=.stmts (jk st),scope:=qm st,globals:=0,closure:=[],defaults:=.none,kwdefaults:=.none },#[]⟩
def oC (vs:List Value):Obj:=⟨.type "code",none,.fields vs.toArray,#[]⟩
def oT (vs:List Value):Obj:=⟨.type "tuple",none,.seq vs.toArray 0,#[]⟩
def eD (P:Params):Value×Value->DictEntry
 | (.str x t,v)=>⟨PyData.keyHash P x,.str x t,v⟩
 | (u,v)=>⟨0,u,v⟩
def oD (P:Params) (n:Nat) (es:List (Value×Value)):Obj:=⟨.type "dict",none,.dict (es.map (eD P)).toArray n,#[]⟩
def oK (x:Str) (t l n m:Nat) (a b:Addr) (u v z:Value) (e y q:Nat):Obj:=oC [.str x t,.str x (t+1),.str "/claim/cut.py" (t+2),.int l 0,.int n 0,.int 0 0,.int 0 0,.int 3 0,.ref a,.bool true,.int m 0,.ref b,u,v,z,.ref e,.int y 0,.int l 0,.str "/claim/cut.py" q]
def nmV:List Str->Nat->List Value
 |[],_=>[]
 |x::r,t=>.str x t::nmV r (t+1)
def oN (xs:List Str) (t:Nat):Obj:=oT (nmV xs t)
abbrev nd (o:Obj) (l r:PySem.W.BT):PySem.W.BT:=.node o l r
abbrev lf (o:Obj):PySem.W.BT:=.node o .nil .nil
def jP {K:Frg} (x:Str) (st:Stmt) (f:Addr) (pm cd:Value) (l:K.lookup f=some (oF x st pm cd)) (c:PySem.W.codeIn K cd x=true) (k:PySem.W.keepIn K (.ref f)=true) :
  Fun K x x st f (PySem.W.fnOf x x (ZS st) (jk st) (qm st) .none .none .none pm none cd .none):=qeN l c k
def jQ {K:Frg} {h:Heap} {mg:Str->Option Value} (X:K.In h) (G:h.Ns mainGlobals mg) (n:Str) (v:Value) (e:PySem.W.nsIn K mainGlobals n=some (some v)):mg n=some v:=PySem.W.mg_of X G e
def EC {K:Frg} {h:Heap} {mg:Str->Option Value} (X:K.In h) (G:h.Ns mainGlobals mg) (n:Str) (e:PySem.W.nsIn K mainGlobals n=some none):mg n=none:=PySem.W.mg_none_of X G e
def head {l:OpenLaw} {q:Program} {loose:List Str} {K:Params->Frag} {as:List Addr} {d:DefRec} {N:Nat} {k:Nat} {x:Str} (ha:∀ P,as=(K P).map (·.1))
  (ok:l.wellSaid=true)
  (left:LeftO l.prog q loose (λs=>xlAt q [] s&&recOk [] s) (λs=>as.map s.heap.get?) (λw=>(K w.params).map λp=>some p.2) N)
  (hdef:defOf q l.name=some (d,[])) (hp:l.prog.theDef l.name=some (d.params,d.body,d.scope)) (hk:kwWritten? d.params.kwonlyargs d.params.kw_defaults=some [])
  (hwr:(!l.row.writes||l.row.records.isEmpty)=true) (ok2:(chainsOk q&&opensWell l.prog&&(frees l.row.toRowW&&l.row.within.isEmpty))=true) (hb:l.prog.bare) (hw:l.row.toRowW.promised)
  (hn:l.most=some 63) (hdf:d.params.defaults=[]) (hr:Room k callerA) (hK:∀ w:World,VU (K w.params)=true)
  (F:∀ (w:World) (mg:Str->Option Value) (fa:Addr) (h:Heap),(K w.params).In h->h.Ns mainGlobals mg->mg d.name=some (.ref fa) ->
   ∃ fd:FuncData,(∀ (s:Shared) (u:Value),BindsTo s fd ⟨[u],[]⟩ [(x,u)])/\∀ base:Heap,(K w.params).In base->base.Ns mainGlobals mg->FnOk l.prog w (K w.params) mg base CX0 k fa fd [x] (lSp (K w.params) DH)):l.Holds:=by
 refine holds_law ok λsaid=>?_;exact holds_open (q:=q) (loose:=loose) (Xt:=λs=>xlAt q [] s&&recOk [] s) (XP:=XL q []) (Yf:=Hook.obs (kHook K as ha)) (Ya:=Hook.val (kHook K as ha)) (YP:=Hook.says (kHook K as ha)) (N:=N) left
  (Hook.of (kHook K as ha)) (Hook.keeps (kHook K as ha)) (λs e=>xl_of s (Bool.and_eq_true_iff.mp e).1) XL.keeps hdef hp hk (λs e=>recFacts_of (Bool.and_eq_true_iff.mp e).2) hwr said ok2 hb hw
  (L3.qhD (l:=l) (k:=k) (x:=x) hn hdf hr (λw h Y=>kIn_of Y) hK F)
end Hd
namespace K01
open PySem L2 L3 Bk
def top (i : Nat) : Stmt := PySem.Challenge.pw_bankwalk_k01_what_a_dealing_is.main.body.getD i (.Pass ⟨0,0,0,0⟩)
variable {P:Program} {w:World} {K:Frg} {mg:Str->Option Value} {base:Heap} {f:Addr} {fd:FuncData} {k:Nat} {sp:Sp3}
abbrev jC:Stmt:=top 1
abbrev ZB:List Str:=["thing"]
abbrev YK:List Str:=["thing"]
def XC:FnScope ZB YK (qm jC):=⟨rfl,rfl,rfl,by decide +kernel,rfl,by decide +kernel,by decide +kernel⟩
def XD (F:Fun K "is_number" "is_number" jC f fd) (bd:zP K fd YK []) (hm:mg "is_number" = some (.ref f))  (m_isinstance:mg "isinstance" = none) (m_bool:mg "bool" = none) (m_int:mg "int" = none)
  (read:Rd sp 1 (Bk.ZC) ZB):Fn3 P w K mg base (k+1) "is_number" sp:=
 za (t3:=(Bk.ZC)) F XC bd hm (λcdv A outer s H E hr=>(qo (qA (V5 (UW (qc 0) rfl m_isinstance rfl m_int PyProof.Rows.boot_int) (D5 (qgg (UW (qc 0) rfl m_isinstance rfl m_bool PyProof.Rows.boot_bool))))))) read
abbrev zT:Stmt:=top 2
abbrev jh:List Str:=["thing","least"]
abbrev ZR:List Str:=["thing","least"]
def DE:FnScope jh ZR (qm zT):=⟨rfl,rfl,rfl,by decide +kernel,rfl,by decide +kernel,by decide +kernel⟩
def jS (S_is_number:Sp3):TS3:=(zn (JZ (cb3 S_is_number (qb (v3 0) qi)) (o3 (iB λi j=>decide (j<=i)) (v3 0) (v3 1))))
def EQ {S_is_number:Sp3} (F:Fun K "is_at_least" "is_at_least" zT f fd) (bd:zP K fd ZR []) (hm:mg "is_at_least" = some (.ref f)) (zC:Fn3 P w K mg base k "is_number" S_is_number) 
  (read:Rd sp 2 (jS S_is_number) jh):Fn3 P w K mg base (k+1) "is_at_least" sp:=
 za (t3:=(jS S_is_number)) F DE bd hm (λcdv A outer s H E hr=>(qo (qA (V5 (qj zC hr rfl (qa (qc 0) qe)) (D5 (V7 qda Z4 (qc 0) (qc 1) (qK _))))))) read
abbrev zD:Stmt:=top 3
abbrev jw:List Str:=["things","least"]
abbrev QU:List Str:=["things","least"]
def U6:FnScope jw QU (qm zD):=⟨rfl,rfl,rfl,by decide +kernel,rfl,by decide +kernel,by decide +kernel⟩
def jy (S_is_at_least:Sp3):TS3:=(zn (cb3 S8 (qb (lc3 (ZV (v3 0)) (gn3 0) tt3 (cb3 S_is_at_least (qb (v3 0) (qb (v3 1) qi))) [none,some 1]) qi)))
def EG {S_is_at_least:Sp3} (F:Fun K "are_at_least" "are_at_least" zD f fd) (bd:zP K fd QU []) (hm:mg "are_at_least" = some (.ref f)) (qD:Fn3 P w K mg base k "is_at_least" S_is_at_least) (m_all:mg "all" = none)
  (read:Rd sp 2 (jy S_is_at_least) jw):Fn3 P w K mg base (k+1) "are_at_least" sp:=
 za (t3:=(jy S_is_at_least)) F U6 bd hm (λcdv A outer s H E hr=>(qo (qA (qR (jA rfl) WY rfl m_all PyProof.Rows.boot_all (qa (XO ["thing","least"] [none,some 1] rfl (JH (qc 0)) (λ_ _ _=>(jgn 0)) (λ_ _ _=>Z5) (λ_ _ _=>(qj qD hr rfl (qa (qc 0) (qa (qc 1) qe)))) (by kernel_rfl) (by kernel_rfl)) qe))))) read
abbrev zd:Stmt:=top 5
abbrev zl:List Str:=["one","other"]
abbrev jl:List Str:=["one","other"]
def QL:FnScope zl jl (qm zd):=⟨rfl,rfl,rfl,by decide +kernel,rfl,by decide +kernel,by decide +kernel⟩
def zA:TS3:=(qG (DK (tb3 (o3 (iB λi j=>decide (j<i)) (v3 1) (c3 (.int 0)))) (WJ 0 1 (qb (v3 1) (qb (o3 (iC (λ_ j=>0<j) (·%·)) (v3 0) (v3 1)) qi)))) (zn (o3 (j0 false) (v3 0) (c3 (.int 1)))))
def YN (F:Fun K "share_no_divisor" "share_no_divisor" zd f fd) (bd:zP K fd jl []) (hm:mg "share_no_divisor" = some (.ref f))  
  (read:Rd sp 2 (zA) zl):Fn3 P w K mg base (k+1) "share_no_divisor" sp:=
 za (t3:=(zA)) F QL bd hm (λcdv A outer s H E hr=>(qh (SR PassesOwn.never (qW KO Z4 (qc 1) qd (qK _)) (qo (X8 (i:=0) (j:=1) rfl QL.nd rfl rfl (by decide) rfl rfl (qa (qc 1) (qa (VG (qc 0) (qc 1)) qe))))) (qo (qA (V7 (jm hr.units) zx (qc 0) qd (qK _)))))) read
abbrev QZ:Stmt:=top 6
abbrev YV:List Str:=["thing"]
abbrev ED:List Str:=["thing"]
def S7:FnScope YV ED (qm QZ):=⟨rfl,rfl,rfl,by decide +kernel,rfl,by decide +kernel,by decide +kernel⟩
def YX (S_are_at_least:Sp3):TS3:=(zn (JZ (o3 (j0 false) (cb3 V9 (qb (v3 0) qi)) (c3 (.int 6))) (JZ (cb3 S_are_at_least (qb (C0 (v3 0) (sp3 (c3 (.int 1))) (sp3 (c3 (.int 4)))) (qb (c3 (.int 1)) qi))) (cb3 S_are_at_least (qb (C0 (v3 0) (sp3 (c3 (.int 4))) np3) (qb (c3 (.int 0)) qi))))))
def TH {S_are_at_least:Sp3} (F:Fun K "is_skew" "is_skew" QZ f fd) (bd:zP K fd ED []) (hm:mg "is_skew" = some (.ref f)) (qk:Fn3 P w K mg base k "are_at_least" S_are_at_least) (m_len:mg "len" = none)
  (read:Rd sp 1 (YX S_are_at_least) YV):Fn3 P w K mg base (k+1) "is_skew" sp:=
 za (t3:=(YX S_are_at_least)) F S7 bd hm (λcdv A outer s H E hr=>(qo (qA (V5 (V7 (jm hr.units) zx (qR zH jp rfl m_len PySem.boot_len (qa (qc 0) qe)) qd (qK _)) (V5 (qj qk hr rfl (qa (ZM (qc 0) (qX qd) (qX qd)) (qa qd qe))) (D5 (qj qk hr rfl (qa (ZM (qc 0) (qX qd) zo) (qa qd qe))))))))) read
abbrev QH:Stmt:=top 7
abbrev Q1:List Str:=["thing","rows","columns","banks","places"]
abbrev VN:List Str:=["thing"]
def j6:FnScope Q1 VN (qm QH):=⟨rfl,rfl,rfl,by decide +kernel,rfl,by decide +kernel,by decide +kernel⟩
def JU (S_are_at_least:Sp3) (S_share_no_divisor:Sp3):TS3:=(qG (z9 (or3 (tb3 (o3 (j0 true) (cb3 V9 (qb (v3 0) qi)) (c3 (.int 5)))) (W7 (tb3 (cb3 S_are_at_least (qb (C0 (v3 0) (sp3 (c3 (.int 1))) np3) (qb (c3 (.int 1)) qi)))))) (zn (c3 (.bl false))) qU) (qG (qV (C0 (v3 0) (sp3 (c3 (.int 1))) np3) (ZT 4 (zh (gn3 1) (zh (gn3 2) (zh (gn3 3) (zh (gn3 4) ZW)))))) (zn (JZ (cb3 S_share_no_divisor (qb (v3 3) (qb (v3 4) qi))) (o3 (iB λi j=>decide (j<=i)) (o3 (iC YO (·*·)) (v3 3) (v3 4)) (o3 (iC YO (·*·)) (v3 1) (v3 2)))))))
def CW {S_are_at_least:Sp3} {S_share_no_divisor:Sp3} (F:Fun K "is_rests" "is_rests" QH f fd) (bd:zP K fd VN []) (hm:mg "is_rests" = some (.ref f)) (qk:Fn3 P w K mg base k "are_at_least" S_are_at_least) (qF:Fn3 P w K mg base k "share_no_divisor" S_share_no_divisor) (m_len:mg "len" = none)
  (read:Rd sp 1 (JU S_are_at_least S_share_no_divisor) Q1):Fn3 P w K mg base (k+1) "is_rests" sp:=
 za (t3:=(JU S_are_at_least S_share_no_divisor)) F j6 bd hm (λcdv A outer s H E hr=>(qh (z8 (jpt (ES (qW (XS hr.units) UV (qR zH jp rfl m_len PySem.boot_len (qa (qc 0) qe)) qd (qK _)) (VC (J3 (J1 (qj qk hr rfl (qa (ZM (qc 0) (qX qd) zo) (qa qd qe)))))))) (qo (qA JN)) zg) (qh (YT (ZM (qc 0) (qX qd) zo) (EF rfl (zw (qP (i:=1) (j6.nd)) (zw (qP (i:=2) (j6.nd)) (zw (qP (i:=3) (j6.nd)) (zw (qP (i:=4) (j6.nd)) EH)))))) (qo (qA (V5 (qj qF hr rfl (qa (qc 3) (qa (qc 4) qe))) (D5 (V7 qda Z4 (Z6 (qc 3) (qc 4)) (Z6 (qc 1) (qc 2)) (qK _))))))))) read
abbrev Q6:Stmt:=top 8
abbrev VE:List Str:=["thing","high","low","masks"]
abbrev UR:List Str:=["thing"]
def JP:FnScope VE UR (qm Q6):=⟨rfl,rfl,rfl,by decide +kernel,rfl,by decide +kernel,by decide +kernel⟩
def YZ (S_are_at_least:Sp3):TS3:=(qG (z9 (or3 (tb3 (o3 (j0 true) (cb3 V9 (qb (v3 0) qi)) (c3 (.int 4)))) (W7 (tb3 (cb3 S_are_at_least (qb (C0 (v3 0) (sp3 (c3 (.int 1))) (sp3 (c3 (.int 3)))) (qb (c3 (.int 0)) qi)))))) (zn (c3 (.bl false))) qU) (qG (qV (C0 (v3 0) (sp3 (c3 (.int 1))) np3) (ZT 3 (zh (gn3 1) (zh (gn3 2) (zh (gn3 3) ZW))))) (qG (z9 (or3 (W7 (tb3 (RD (λt=>ZO t "tuple") (v3 3)))) (W7 (tb3 (cb3 S_are_at_least (qb (v3 3) (qb (c3 (.int 0)) qi)))))) (zn (c3 (.bl false))) qU) (zn (cb3 S8 (qb (lc3 (ZV (v3 3)) (gn3 0) tt3 (o3 (iB λi j=>decide (i<=j)) (bl3 (v3 0)) (o3 zN (v3 1) (v3 2))) [none,some 1,some 2]) qi))))))
def SW {S_are_at_least:Sp3} (F:Fun K "is_bits" "is_bits" Q6 f fd) (bd:zP K fd UR []) (hm:mg "is_bits" = some (.ref f)) (qk:Fn3 P w K mg base k "are_at_least" S_are_at_least) (m_len:mg "len" = none) (m_isinstance:mg "isinstance" = none) (m_tuple:mg "tuple" = none) (m_all:mg "all" = none)
  (read:Rd sp 1 (YZ S_are_at_least) VE):Fn3 P w K mg base (k+1) "is_bits" sp:=
 za (t3:=(YZ S_are_at_least)) F JP bd hm (λcdv A outer s H E hr=>(qh (z8 (jpt (ES (qW (XS hr.units) UV (qR zH jp rfl m_len PySem.boot_len (qa (qc 0) qe)) qd (qK _)) (VC (J3 (J1 (qj qk hr rfl (qa (ZM (qc 0) (qX qd) (qX qd)) (qa qd qe)))))))) (qo (qA JN)) zg) (qh (YT (ZM (qc 0) (qX qd) zo) (EF rfl (zw (qP (i:=1) (JP.nd)) (zw (qP (i:=2) (JP.nd)) (zw (qP (i:=3) (JP.nd)) EH))))) (qh (z8 (jpt (ES (J3 (J1 (UW (qc 3) rfl m_isinstance rfl m_tuple PyProof.Rows.boot_tuple))) (VC (J3 (J1 (qj qk hr rfl (qa (qc 3) (qa qd qe)))))))) (qo (qA JN)) zg) (qo (qA (qR (jA rfl) WY rfl m_all PyProof.Rows.boot_all (qa (XO ["mask","high","low"] [none,some 1,some 2] rfl (JH (qc 3)) (λ_ _ _=>(jgn 0)) (λ_ _ _=>Z5) (λ_ _ _=>(V7 qig Z4 (KA (qc 0)) (qO (qc 1) (qc 2)) (qK _))) (by kernel_rfl) (by kernel_rfl)) qe)))))))) read
abbrev zU:Stmt:=top 9
abbrev jU:List Str:=["thing","wide","banks"]
abbrev ZH:List Str:=["thing","wide","banks"]
def ER:FnScope jU ZH (qm zU):=⟨rfl,rfl,rfl,by decide +kernel,rfl,by decide +kernel,by decide +kernel⟩
def jW (S_are_at_least:Sp3):TS3:=(qG (z9 (or3 (W7 (tb3 (RD (λt=>ZO t "tuple") (v3 0)))) (or3 (tb3 (o3 (j0 true) (cb3 V9 (qb (v3 0) qi)) (v3 1))) (W7 (tb3 (cb3 S_are_at_least (qb (v3 0) (qb (c3 (.int 0)) qi))))))) (zn (c3 (.bl false))) qU) (zn (cb3 S8 (qb (lc3 (ZV (v3 0)) (gn3 0) tt3 (o3 (iB λi j=>decide (i<j)) (v3 0) (v3 1)) [none,some 2]) qi))))
def EU {S_are_at_least:Sp3} (F:Fun K "is_bank_row" "is_bank_row" zU f fd) (bd:zP K fd ZH []) (hm:mg "is_bank_row" = some (.ref f)) (qk:Fn3 P w K mg base k "are_at_least" S_are_at_least) (m_len:mg "len" = none) (m_isinstance:mg "isinstance" = none) (m_tuple:mg "tuple" = none) (m_all:mg "all" = none)
  (read:Rd sp 3 (jW S_are_at_least) jU):Fn3 P w K mg base (k+1) "is_bank_row" sp:=
 za (t3:=(jW S_are_at_least)) F ER bd hm (λcdv A outer s H E hr=>(qh (z8 (jpt (ES (J3 (J1 (UW (qc 0) rfl m_isinstance rfl m_tuple PyProof.Rows.boot_tuple))) (ES (qW (XS hr.units) UV (qR zH jp rfl m_len PySem.boot_len (qa (qc 0) qe)) (qc 1) (qK _)) (VC (J3 (J1 (qj qk hr rfl (qa (qc 0) (qa qd qe))))))))) (qo (qA JN)) zg) (qo (qA (qR (jA rfl) WY rfl m_all PyProof.Rows.boot_all (qa (XO ["bank","banks"] [none,some 2] rfl (JH (qc 0)) (λ_ _ _=>(jgn 0)) (λ_ _ _=>Z5) (λ_ _ _=>(V7 qdi Z4 (qc 0) (qc 1) (qK _))) (by kernel_rfl) (by kernel_rfl)) qe)))))) read
abbrev j7:Stmt:=top 10
abbrev JY:List Str:=["thing","banks","cells"]
abbrev VP:List Str:=["thing"]
def YH:FnScope JY VP (qm j7):=⟨rfl,rfl,rfl,by decide +kernel,rfl,by decide +kernel,by decide +kernel⟩
def JX (S_is_at_least:Sp3) (S_is_bank_row:Sp3):TS3:=(qG (z9 (or3 (tb3 (o3 (j0 true) (cb3 V9 (qb (v3 0) qi)) (c3 (.int 3)))) (W7 (tb3 (cb3 S_is_at_least (qb (o3 ix3 (v3 0) (c3 (.int 1))) (qb (c3 (.int 1)) qi)))))) (zn (c3 (.bl false))) qU) (qG (qV (C0 (v3 0) (sp3 (c3 (.int 1))) np3) (ZT 2 (zh (gn3 1) (zh (gn3 2) ZW)))) (qG (z9 (or3 (W7 (tb3 (RD (λt=>ZO t "tuple") (v3 2)))) (tb3 (o3 (j0 false) (cb3 V9 (qb (v3 2) qi)) (c3 (.int 0))))) (zn (c3 (.bl false))) qU) (qG (z9 (or3 (W7 (tb3 (RD (λt=>ZO t "tuple") (o3 ix3 (v3 2) (c3 (.int 0)))))) (tb3 (o3 (j0 false) (cb3 V9 (qb (o3 ix3 (v3 2) (c3 (.int 0))) qi)) (c3 (.int 0))))) (zn (c3 (.bl false))) qU) (zn (cb3 S8 (qb (lc3 (ZV (v3 2)) (gn3 0) tt3 (cb3 S_is_bank_row (qb (v3 0) (qb (cb3 V9 (qb (o3 ix3 (v3 2) (c3 (.int 0))) qi)) (qb (v3 1) qi)))) [none,some 1,some 2]) qi)))))))
def CP {S_is_at_least:Sp3} {S_is_bank_row:Sp3} (F:Fun K "is_table" "is_table" j7 f fd) (bd:zP K fd VP []) (hm:mg "is_table" = some (.ref f)) (qD:Fn3 P w K mg base k "is_at_least" S_is_at_least) (zk:Fn3 P w K mg base k "is_bank_row" S_is_bank_row) (m_len:mg "len" = none) (m_isinstance:mg "isinstance" = none) (m_tuple:mg "tuple" = none) (m_all:mg "all" = none)
  (read:Rd sp 1 (JX S_is_at_least S_is_bank_row) JY):Fn3 P w K mg base (k+1) "is_table" sp:=
 za (t3:=(JX S_is_at_least S_is_bank_row)) F YH bd hm (λcdv A outer s H E hr=>(qh (z8 (jpt (ES (qW (XS hr.units) UV (qR zH jp rfl m_len PySem.boot_len (qa (qc 0) qe)) qd (qK _)) (VC (J3 (J1 (qj qD hr rfl (qa (zm (qc 0) qd) (qa qd qe)))))))) (qo (qA JN)) zg) (qh (YT (ZM (qc 0) (qX qd) zo) (EF rfl (zw (qP (i:=1) (YH.nd)) (zw (qP (i:=2) (YH.nd)) EH)))) (qh (z8 (jpt (ES (J3 (J1 (UW (qc 2) rfl m_isinstance rfl m_tuple PyProof.Rows.boot_tuple))) (VC (qW (jm hr.units) zx (qR zH jp rfl m_len PySem.boot_len (qa (qc 2) qe)) qd (qK _))))) (qo (qA JN)) zg) (qh (z8 (jpt (ES (J3 (J1 (UW (zm (qc 2) qd) rfl m_isinstance rfl m_tuple PyProof.Rows.boot_tuple))) (VC (qW (jm hr.units) zx (qR zH jp rfl m_len PySem.boot_len (qa (zm (qc 2) qd) qe)) qd (qK _))))) (qo (qA JN)) zg) (qo (qA (qR (jA rfl) WY rfl m_all PyProof.Rows.boot_all (qa (XO ["row","banks","cells"] [none,some 1,some 2] rfl (JH (qc 2)) (λ_ _ _=>(jgn 0)) (λ_ _ _=>Z5) (λ_ _ _=>(qj zk hr rfl (qa (qc 0) (qa (qR zH jp rfl m_len PySem.boot_len (qa (zm (qc 2) qd) qe)) (qa (qc 1) qe))))) (by kernel_rfl) (by kernel_rfl)) qe))))))))) read
abbrev jL:Stmt:=top 11
abbrev zZ:List Str:=["thing"]
abbrev YL:List Str:=["thing"]
def X4:FnScope zZ YL (qm jL):=⟨rfl,rfl,rfl,by decide +kernel,rfl,by decide +kernel,by decide +kernel⟩
def ZL (S_is_dealing:Sp3):TS3:=(zn (JZ (o3 (j0 false) (cb3 V9 (qb (v3 0) qi)) (c3 (.int 3))) (JZ (cb3 S_is_dealing (qb (o3 ix3 (v3 0) (c3 (.int 1))) qi)) (cb3 S_is_dealing (qb (o3 ix3 (v3 0) (c3 (.int 2))) qi)))))
def qu {S_is_dealing:Sp3} (F:Fun K "is_joined" "is_joined" jL f fd) (bd:zP K fd YL []) (hm:mg "is_joined" = some (.ref f)) (F_is_dealing:Fn3 P w K mg base k "is_dealing" S_is_dealing) (m_len:mg "len" = none)
  (read:Rd sp 1 (ZL S_is_dealing) zZ):Fn3 P w K mg base (k+1) "is_joined" sp:=
 za (t3:=(ZL S_is_dealing)) F X4 bd hm (λcdv A outer s H E hr=>(qo (qA (V5 (V7 (jm hr.units) zx (qR zH jp rfl m_len PySem.boot_len (qa (qc 0) qe)) qd (qK _)) (V5 (qj F_is_dealing hr rfl (qa (zm (qc 0) qd) qe)) (D5 (qj F_is_dealing hr rfl (qa (zm (qc 0) qd) qe)))))))) read
abbrev jf:Stmt:=top 12
abbrev jK:List Str:=["thing","kind"]
abbrev JG:List Str:=["thing"]
def VF:FnScope jK JG (qm jf):=⟨rfl,rfl,rfl,by decide +kernel,rfl,by decide +kernel,by decide +kernel⟩
def QR (S_is_skew:Sp3) (S_is_rests:Sp3) (S_is_bits:Sp3) (S_is_table:Sp3) (S_is_joined:Sp3):TS3:=(qG (z9 (or3 (W7 (tb3 (RD (λt=>ZO t "tuple") (v3 0)))) (tb3 (o3 (j0 false) (cb3 V9 (qb (v3 0) qi)) (c3 (.int 0))))) (zn (c3 (.bl false))) qU) (qG (qV (o3 ix3 (v3 0) (c3 (.int 0))) (gn3 1)) (qG (z9 (tb3 (o3 NN (v3 1) (c3 (.str "skew")))) (zn (cb3 S_is_skew (qb (v3 0) qi))) qU) (qG (z9 (tb3 (o3 NN (v3 1) (c3 (.str "rests")))) (zn (cb3 S_is_rests (qb (v3 0) qi))) qU) (qG (z9 (tb3 (o3 NN (v3 1) (c3 (.str "bits")))) (zn (cb3 S_is_bits (qb (v3 0) qi))) qU) (qG (z9 (tb3 (o3 NN (v3 1) (c3 (.str "table")))) (zn (cb3 S_is_table (qb (v3 0) qi))) qU) (zn (JZ (o3 NN (v3 1) (c3 (.str "joined"))) (cb3 S_is_joined (qb (v3 0) qi))))))))))
def qp {S_is_skew:Sp3} {S_is_rests:Sp3} {S_is_bits:Sp3} {S_is_table:Sp3} {S_is_joined:Sp3} (F:Fun K "is_dealing" "is_dealing" jf f fd) (bd:zP K fd JG []) (hm:mg "is_dealing" = some (.ref f)) (jH:Fn3 P w K mg base k "is_skew" S_is_skew) (zJ:Fn3 P w K mg base k "is_rests" S_is_rests) (jB:Fn3 P w K mg base k "is_bits" S_is_bits) (z7:Fn3 P w K mg base k "is_table" S_is_table) (F_is_joined:Fn3 P w K mg base k "is_joined" S_is_joined) (m_len:mg "len" = none) (m_isinstance:mg "isinstance" = none) (m_tuple:mg "tuple" = none)
  (read:Rd sp 1 (QR S_is_skew S_is_rests S_is_bits S_is_table S_is_joined) jK):Fn3 P w K mg base (k+1) "is_dealing" sp:=
 za (t3:=(QR S_is_skew S_is_rests S_is_bits S_is_table S_is_joined)) F VF bd hm (λcdv A outer s H E hr=>(qh (z8 (jpt (ES (J3 (J1 (UW (qc 0) rfl m_isinstance rfl m_tuple PyProof.Rows.boot_tuple))) (VC (qW (jm hr.units) zx (qR zH jp rfl m_len PySem.boot_len (qa (qc 0) qe)) qd (qK _))))) (qo (qA JN)) zg) (qh (qI 1 VF.nd (zm (qc 0) qd)) (qh (z8 (qW (XQ hr.units) UU (qc 1) qr (qK _)) (qo (qA (qj jH hr rfl (qa (qc 0) qe)))) zg) (qh (z8 (qW (XQ hr.units) UU (qc 1) qr (qK _)) (qo (qA (qj zJ hr rfl (qa (qc 0) qe)))) zg) (qh (z8 (qW (XQ hr.units) UU (qc 1) qr (qK _)) (qo (qA (qj jB hr rfl (qa (qc 0) qe)))) zg) (qh (z8 (qW (XQ hr.units) UU (qc 1) qr (qK _)) (qo (qA (qj z7 hr rfl (qa (qc 0) qe)))) zg) (qo (qA (V5 (V7 (XQ hr.units) UU (qc 1) qr (qK _)) (D5 (qj F_is_joined hr rfl (qa (qc 0) qe))))))))))))) read
abbrev Q2:Stmt:=top 14
abbrev UQ:List Str:=["_law_cell","_law_k","_law_m"]
abbrev U8:List Str:=["_law_cell","_law_k"]
def DL:FnScope UQ U8 (qm Q2):=⟨rfl,rfl,rfl,by decide +kernel,rfl,by decide +kernel,by decide +kernel⟩
def S0 (F:Fun K "_law_mix" "_law_mix" Q2 f fd) (bd:zP K fd U8 []) (hm:mg "_law_mix" = some (.ref f))  
  (read:Rd sp 2 (Bk.YS) UQ):Fn3 P w K mg base (k+1) "_law_mix" sp:=
 za (t3:=(Bk.YS)) F DL bd hm (λcdv A outer s H E hr=>(qh (qI 2 DL.nd (VG (Z6 (qO (qO (VG (qc 0) qd) (Z6 (Z6 (qc 1) (qc 1)) qd)) qd) qd) qd)) (qo (qA (VG (Z6 (qc 2) (qc 2)) qd))))) read
abbrev QE:Stmt:=top 15
abbrev V2:List Str:=["_law_script","_law_k","_law_cell","_law_own"]
abbrev VY:List Str:=["_law_script","_law_k"]
def J6:FnScope V2 VY (qm QE):=⟨rfl,rfl,rfl,by decide +kernel,rfl,by decide +kernel,by decide +kernel⟩
def RF (F:Fun K "_law_left" "_law_left" QE f fd) (bd:zP K fd VY []) (hm:mg "_law_left" = some (.ref f))  (m_len:mg "len" = none) (m_abs:mg "abs" = none)
  (read:Rd sp 2 (Bk.JW) V2):Fn3 P w K mg base (k+1) "_law_left" sp:=
 za (t3:=(Bk.JW)) F J6 bd hm (λcdv A outer s H E hr=>(qh (qI 2 J6.nd (qdE (qW qdi Z4 (qc 1) (qR zH jp rfl m_len PySem.boot_len (qa (qc 0) qe)) (qK _)) (zm (qc 0) (qc 1)) qd)) (qh (qI 3 J6.nd (qdE (qW qda Z4 (qR RT K3 rfl m_abs PyProof.Rows.boot_abs (qa (qc 2) qe)) (SK qd qd) (qK _)) (qR RT K3 rfl m_abs PyProof.Rows.boot_abs (qa (qc 2) qe)) qd)) (qo (qA (zy (qa (qc 3) (qa (qO (qc 2) (Z6 qd (qc 1))) (qa qd qe))))))))) read
abbrev QK:Stmt:=top 16
abbrev VR:List Str:=["_law_left_here","_law_many","_law_digit"]
abbrev VV:List Str:=["_law_left_here","_law_many"]
def U2:FnScope VR VV (qm QK):=⟨rfl,rfl,rfl,by decide +kernel,rfl,by decide +kernel,by decide +kernel⟩
def RR {S_law_mix:Sp3} (F:Fun K "_law_pick" "_law_pick" QK f fd) (bd:zP K fd VV []) (hm:mg "_law_pick" = some (.ref f)) (F_law_mix:Fn3 P w K mg base k "_law_mix" S_law_mix) 
  (read:Rd sp 2 (Bk.JR S_law_mix) VR):Fn3 P w K mg base (k+1) "_law_pick" sp:=
 za (t3:=(Bk.JR S_law_mix)) F U2 bd hm (λcdv A outer s H E hr=>(qh (YT (qO (zm (qc 0) qd) qd) (qba (qc 0) qd)) (qh (z8 (qW KO Z4 (zm (qc 0) qd) qd (qK _)) (qh (qI 2 U2.nd (VG (zm (qc 0) qd) (qc 1))) (qh (YT (XR (zm (qc 0) qd) (qc 1)) (qba (qc 0) qd)) (qo (qA (qc 2))))) zg) (qo (qA (VG (XR (qj F_law_mix hr rfl (qa (qj F_law_mix hr rfl (qa (zm (qc 0) qd) (qa (zm (qc 0) qd) qe))) (qa (qO (zm (qc 0) qd) qd) qe))) qd) (qc 1))))))) read
abbrev jO:Stmt:=top 17
abbrev YB:List Str:=["_law_left_here","_law_wide","_law_rows","_law_columns"]
abbrev YG:List Str:=["_law_left_here"]
def JK:FnScope YB YG (qm jO):=⟨rfl,rfl,rfl,by decide +kernel,rfl,by decide +kernel,by decide +kernel⟩
def XE {S_law_pick:Sp3} (F:Fun K "_law_sides" "_law_sides" jO f fd) (bd:zP K fd YG []) (hm:mg "_law_sides" = some (.ref f)) (F_law_pick:Fn3 P w K mg base k "_law_pick" S_law_pick) 
  (read:Rd sp 1 (Bk.ZE S_law_pick) YB):Fn3 P w K mg base (k+1) "_law_sides" sp:=
 za (t3:=(Bk.ZE S_law_pick)) F JK bd hm (λcdv A outer s H E hr=>(qh (qI 1 JK.nd (zm (zy (qa qd (qa qd (qa qd (qa qd qe))))) (qj F_law_pick hr rfl (qa (qc 0) (qa qd qe))))) (qh (X8 (i:=2) (j:=3) rfl JK.nd rfl rfl (by decide) rfl rfl (qa (qO qd (qj F_law_pick hr rfl (qa (qc 0) (qa (qc 1) qe)))) (qa (qO qd (qj F_law_pick hr rfl (qa (qc 0) (qa (qc 1) qe)))) qe))) (qo (qA (zm (zy (qa (ql (qa (qc 2) (qa (qc 3) qe))) (qa (ql (qa (qc 2) (qa (qc 3) qe))) (qa (ql (qa (qc 2) (qa (qc 3) qe))) (qa (ql (qa (qc 2) (qa (qc 2) qe))) qe))))) (qj F_law_pick hr rfl (qa (qc 0) (qa qd qe))))))))) read
abbrev Q4:Stmt:=top 18
abbrev EA:List Str:=["_law_one","_law_other"]
abbrev EB:List Str:=["_law_one","_law_other"]
def DU:FnScope EA EB (qm Q4):=⟨rfl,rfl,rfl,by decide +kernel,rfl,by decide +kernel,by decide +kernel⟩
def S4 (F:Fun K "_law_gcd" "_law_gcd" Q4 f fd) (bd:zP K fd EB []) (hm:mg "_law_gcd" = some (.ref f))  
  (read:Rd sp 2 (Bk.YR) EA):Fn3 P w K mg base (k+1) "_law_gcd" sp:=
 za (t3:=(Bk.YR)) F DU bd hm (λcdv A outer s H E hr=>(qh (SR PassesOwn.never (qW KO Z4 (qc 1) qd (qK _)) (qo (X8 (i:=0) (j:=1) rfl DU.nd rfl rfl (by decide) rfl rfl (qa (qc 1) (qa (VG (qc 0) (qc 1)) qe))))) (qo (qA (qc 0))))) read
abbrev QJ:Stmt:=top 19
abbrev VQ:List Str:=["_law_left_here","_law_rows","_law_columns","_law_banks","_law_wide"]
abbrev VO:List Str:=["_law_left_here"]
def QC:FnScope VQ VO (qm QJ):=⟨rfl,rfl,rfl,by decide +kernel,rfl,by decide +kernel,by decide +kernel⟩
def RK {S_law_sides:Sp3} {S_law_pick:Sp3} (F:Fun K "_law_skew" "_law_skew" QJ f fd) (bd:zP K fd VO []) (hm:mg "_law_skew" = some (.ref f)) (F_law_sides:Fn3 P w K mg base k "_law_sides" S_law_sides) (F_law_pick:Fn3 P w K mg base k "_law_pick" S_law_pick) 
  (read:Rd sp 1 (Bk.JT S_law_sides S_law_pick) VQ):Fn3 P w K mg base (k+1) "_law_skew" sp:=
 za (t3:=(Bk.JT S_law_sides S_law_pick)) F QC bd hm (λcdv A outer s H E hr=>(qh (YT (qj F_law_sides hr rfl (qa (qc 0) qe)) (EF rfl (zw (qP (i:=1) (QC.nd)) (zw (qP (i:=2) (QC.nd)) EH)))) (qh (qI 3 QC.nd (qO qd (qj F_law_pick hr rfl (qa (qc 0) (qa (zm (zy (qa qd (qa qd (qa qd (qa qd qe))))) (qj F_law_pick hr rfl (qa (qc 0) (qa qd qe)))) qe))))) (qh (qI 4 QC.nd (zm (zy (qa (qc 3) (qa qd (qa qd qe)))) (qj F_law_pick hr rfl (qa (qc 0) (qa qd qe))))) (qo (qA (ql (qa qr (qa (qc 1) (qa (qc 2) (qa (qc 3) (qa (qj F_law_pick hr rfl (qa (qc 0) (qa (qc 4) qe))) (qa (qj F_law_pick hr rfl (qa (qc 0) (qa (qc 4) qe))) qe))))))))))))) read
abbrev jI:Stmt:=top 20
abbrev YM:List Str:=["_law_left_here","_law_rows","_law_columns","_law_banks","_law_places","_law_turn"]
abbrev YI:List Str:=["_law_left_here"]
def zF:FnScope YM YI (qm jI):=⟨rfl,rfl,rfl,by decide +kernel,rfl,by decide +kernel,by decide +kernel⟩
def CF {S_law_sides:Sp3} {S_law_pick:Sp3} {S_law_gcd:Sp3} (F:Fun K "_law_rests" "_law_rests" jI f fd) (bd:zP K fd YI []) (hm:mg "_law_rests" = some (.ref f)) (F_law_sides:Fn3 P w K mg base k "_law_sides" S_law_sides) (F_law_pick:Fn3 P w K mg base k "_law_pick" S_law_pick) (F_law_gcd:Fn3 P w K mg base k "_law_gcd" S_law_gcd) (m_range:mg "range" = none)
  (read:Rd sp 1 (Bk.ZJ S_law_sides S_law_pick S_law_gcd) YM):Fn3 P w K mg base (k+1) "_law_rests" sp:=
 za (t3:=(Bk.ZJ S_law_sides S_law_pick S_law_gcd)) F zF bd hm (λcdv A outer s H E hr=>(qh (YT (qj F_law_sides hr rfl (qa (qc 0) qe)) (EF rfl (zw (qP (i:=1) (zF.nd)) (zw (qP (i:=2) (zF.nd)) EH)))) (qh (qI 3 zF.nd (qO qd (qj F_law_pick hr rfl (qa (qc 0) (qa (zm (zy (qa qd (qa qd (qa qd qe)))) (qj F_law_pick hr rfl (qa (qc 0) (qa qd qe)))) qe))))) (qh (qI 4 zF.nd (qO (Z2 (XR (Z6 (Z2 (qc 1)) (qc 2)) (qc 3))) (qj F_law_pick hr rfl (qa (qc 0) (qa qd qe))))) (qh (YQ PassesOwn.never rfl (zV rfl m_range (qa qd qe) (h1:=by intro _ _ _ h;simpa [qb,qi] using h)) (qP (i:=5) (zF.nd)) (qo (z8 (qW KO Z4 (qj F_law_gcd hr rfl (qa (qc 3) (qa (qc 4) qe))) qd (qK _)) (qo (qI 4 zF.nd (qO (qc 4) qd))) zg))) (qo (qA (ql (qa qr (qa (qc 1) (qa (qc 2) (qa (qc 3) (qa (qc 4) qe))))))))))))) read
abbrev j8:Stmt:=top 21
abbrev DQ:List Str:=["_law_left_here","_law_most","_law_high","_law_low","_law_masks","_law_wide"]
abbrev V1:List Str:=["_law_left_here","_law_most"]
def ZN:FnScope DQ V1 (qm j8):=⟨rfl,rfl,rfl,by decide +kernel,rfl,by decide +kernel,by decide +kernel⟩
def RC {S_law_pick:Sp3} (F:Fun K "_law_bits" "_law_bits" j8 f fd) (bd:zP K fd V1 []) (hm:mg "_law_bits" = some (.ref f)) (F_law_pick:Fn3 P w K mg base k "_law_pick" S_law_pick) (m_range:mg "range" = none) (m_tuple:mg "tuple" = none)
  (read:Rd sp 2 (Bk.JS S_law_pick) DQ):Fn3 P w K mg base (k+1) "_law_bits" sp:=
 za (t3:=(Bk.JS S_law_pick)) F ZN bd hm (λcdv A outer s H E hr=>(qh (X8 (i:=2) (j:=3) rfl ZN.nd rfl rfl (by decide) rfl rfl (qa (qj F_law_pick hr rfl (qa (qc 0) (qa (qO (qc 1) qd) qe))) (qa (qj F_law_pick hr rfl (qa (qc 0) (qa (qO (qc 1) qd) qe))) qe))) (qh (UJ 4 ["_law_t","_law_left_here"] [none,some 0] rfl ZN.nd (zV rfl m_range (qa (qj F_law_pick hr rfl (qa (qc 0) (qa qd qe))) qe) (h1:=by intro _ _ _ h;simpa [qb,qi] using h)) (λ_ _ _=>(jgn 0)) (λ_ _ _=>Z5) (λ_ _ _=>(qj F_law_pick hr rfl (qa (qc 1) (qa qd qe)))) (by kernel_rfl) (by kernel_rfl) rfl rfl) (qh (qI 5 ZN.nd (zm (zy (qa qd (qa qd (qa qd (qa qd (qa qd (qa qd (qa qd (qa qd (qa qd qe)))))))))) (qO (qc 2) (qc 3)))) (qo (qA (ql (qa qr (qa (qc 2) (qa (qc 3) (qa (jg zG Q0 rfl m_tuple PyProof.Rows.boot_tuple (qa (XO ["_law_mask","_law_wide"] [none,some 5] rfl (JH (qc 4)) (λ_ _ _=>(jgn 0)) (λ_ _ _=>Z5) (λ_ _ _=>(VG (qc 0) (qc 1))) (by kernel_rfl) (by kernel_rfl)) qe)) qe))))))))))) read
abbrev jN:Stmt:=top 22
abbrev U0:List Str:=["_law_left_here","_law_rows","_law_columns","_law_banks","_law_cells"]
abbrev YF:List Str:=["_law_left_here"]
def jF:FnScope U0 YF (qm jN):=⟨rfl,rfl,rfl,by decide +kernel,rfl,by decide +kernel,by decide +kernel⟩
def CJ {S_law_sides:Sp3} {S_law_pick:Sp3} (F:Fun K "_law_table" "_law_table" jN f fd) (bd:zP K fd YF []) (hm:mg "_law_table" = some (.ref f)) (F_law_sides:Fn3 P w K mg base k "_law_sides" S_law_sides) (F_law_pick:Fn3 P w K mg base k "_law_pick" S_law_pick) (m_range:mg "range" = none) (m_tuple:mg "tuple" = none)
  (read:Rd sp 1 (Bk.ZP S_law_sides S_law_pick) U0):Fn3 P w K mg base (k+1) "_law_table" sp:=
 za (t3:=(Bk.ZP S_law_sides S_law_pick)) F jF bd hm (λcdv A outer s H E hr=>(qh (YT (qj F_law_sides hr rfl (qa (qc 0) qe)) (EF rfl (zw (qP (i:=1) (jF.nd)) (zw (qP (i:=2) (jF.nd)) EH)))) (qh (qI 3 jF.nd (qO qd (qj F_law_pick hr rfl (qa (qc 0) (qa (zm (zy (qa qd (qa qd (qa qd qe)))) (qj F_law_pick hr rfl (qa (qc 0) (qa qd qe)))) qe))))) (qh (UJ 4 ["_law_i","_law_left_here","_law_banks","_law_columns"] [none,some 0,some 3,some 2] rfl jF.nd (zV rfl m_range (qa (qc 1) qe) (h1:=by intro _ _ _ h;simpa [qb,qi] using h)) (λ_ _ _=>(jgn 0)) (λ_ _ _=>Z5) (λ_ _ _=>(jg zG Q0 rfl m_tuple PyProof.Rows.boot_tuple (qa (XO ["_law_j","_law_left_here","_law_banks"] [none,some 1,some 2] rfl (zV rfl m_range (qa (qc 3) qe) (h1:=by intro _ _ _ h;simpa [qb,qi] using h)) (λ_ _ _=>(jgn 0)) (λ_ _ _=>Z5) (λ_ _ _=>(qj F_law_pick hr rfl (qa (qc 1) (qa (qc 2) qe)))) (by kernel_rfl) (by kernel_rfl)) qe))) (by kernel_rfl) (by kernel_rfl) rfl rfl) (qo (qA (ql (qa qr (qa (qc 3) (qa (jg zG Q0 rfl m_tuple PyProof.Rows.boot_tuple (qa (qc 4) qe)) qe)))))))))) read
abbrev jE:Stmt:=top 23
abbrev U7:List Str:=["_law_left_here","_law_rows","_law_columns","_law_banks","_law_way","_law_high","_law_low","_law_masks","_law_wide","_law_places","_law_turn","_law_cells"]
abbrev J8:List Str:=["_law_left_here"]
def qN:FnScope U7 J8 (qm jE):=⟨rfl,rfl,rfl,by decide +kernel,rfl,by decide +kernel,by decide +kernel⟩
def CC {S_law_pick:Sp3} {S_law_gcd:Sp3} (F:Fun K "_law_small" "_law_small" jE f fd) (bd:zP K fd J8 []) (hm:mg "_law_small" = some (.ref f)) (F_law_pick:Fn3 P w K mg base k "_law_pick" S_law_pick) (F_law_gcd:Fn3 P w K mg base k "_law_gcd" S_law_gcd) (m_range:mg "range" = none) (m_tuple:mg "tuple" = none)
  (read:Rd sp 1 (Bk.ZD S_law_pick S_law_gcd) U7):Fn3 P w K mg base (k+1) "_law_small" sp:=
 za (t3:=(Bk.ZD S_law_pick S_law_gcd)) F qN bd hm (λcdv A outer s H E hr=>(qh (YT (ql (qa (qO qd (qj F_law_pick hr rfl (qa (qc 0) (qa qd qe)))) (qa (qO qd (qj F_law_pick hr rfl (qa (qc 0) (qa qd qe)))) (qa (qO qd (qj F_law_pick hr rfl (qa (qc 0) (qa qd qe)))) qe)))) (EF rfl (zw (qP (i:=1) (qN.nd)) (zw (qP (i:=2) (qN.nd)) (zw (qP (i:=3) (qN.nd)) EH))))) (qh (qI 4 qN.nd (qj F_law_pick hr rfl (qa (qc 0) (qa qd qe)))) (qh (z8 (qW (jm hr.units) zx (qc 4) qd (qK _)) (qo (qA (ql (qa qr (qa (qc 1) (qa (qc 2) (qa (qc 3) (qa (qj F_law_pick hr rfl (qa (qc 0) (qa (qc 3) qe))) (qa (qj F_law_pick hr rfl (qa (qc 0) (qa qd qe))) qe))))))))) zg) (qh (z8 (qW (jm hr.units) zx (qc 4) qd (qK _)) (qh (X8 (i:=5) (j:=6) rfl qN.nd rfl rfl (by decide) rfl rfl (qa (qj F_law_pick hr rfl (qa (qc 0) (qa qd qe))) (qa (qj F_law_pick hr rfl (qa (qc 0) (qa qd qe))) qe))) (qh (UJ 7 ["_law_t","_law_left_here"] [none,some 0] rfl qN.nd (zV rfl m_range (qa (qj F_law_pick hr rfl (qa (qc 0) (qa qd qe))) qe) (h1:=by intro _ _ _ h;simpa [qb,qi] using h)) (λ_ _ _=>(jgn 0)) (λ_ _ _=>Z5) (λ_ _ _=>(qj F_law_pick hr rfl (qa (qc 1) (qa qd qe)))) (by kernel_rfl) (by kernel_rfl) rfl rfl) (qh (qI 8 qN.nd (zm (zy (qa qd (qa qd (qa qd (qa qd (qa qd qe)))))) (qO (qc 5) (qc 6)))) (qo (qA (ql (qa qr (qa (qc 5) (qa (qc 6) (qa (jg zG Q0 rfl m_tuple PyProof.Rows.boot_tuple (qa (XO ["_law_mask","_law_wide"] [none,some 8] rfl (JH (qc 7)) (λ_ _ _=>(jgn 0)) (λ_ _ _=>Z5) (λ_ _ _=>(VG (qc 0) (qc 1))) (by kernel_rfl) (by kernel_rfl)) qe)) qe)))))))))) zg) (qh (z8 (qW (jm hr.units) zx (qc 4) qd (qK _)) (qh (qI 9 qN.nd (qO (Z2 (XR (Z6 (Z2 (qc 1)) (qc 2)) (qc 3))) (qj F_law_pick hr rfl (qa (qc 0) (qa qd qe))))) (qh (YQ PassesOwn.never rfl (zV rfl m_range (qa qd qe) (h1:=by intro _ _ _ h;simpa [qb,qi] using h)) (qP (i:=10) (qN.nd)) (qo (z8 (qW KO Z4 (qj F_law_gcd hr rfl (qa (qc 3) (qa (qc 9) qe))) qd (qK _)) (qo (qI 9 qN.nd (qO (qc 9) qd))) zg))) (qo (qA (ql (qa qr (qa (qc 1) (qa (qc 2) (qa (qc 3) (qa (qc 9) qe)))))))))) zg) (qh (UJ 11 ["_law_i","_law_left_here","_law_banks","_law_columns"] [none,some 0,some 3,some 2] rfl qN.nd (zV rfl m_range (qa (qc 1) qe) (h1:=by intro _ _ _ h;simpa [qb,qi] using h)) (λ_ _ _=>(jgn 0)) (λ_ _ _=>Z5) (λ_ _ _=>(jg zG Q0 rfl m_tuple PyProof.Rows.boot_tuple (qa (XO ["_law_j","_law_left_here","_law_banks"] [none,some 1,some 2] rfl (zV rfl m_range (qa (qc 3) qe) (h1:=by intro _ _ _ h;simpa [qb,qi] using h)) (λ_ _ _=>(jgn 0)) (λ_ _ _=>Z5) (λ_ _ _=>(qj F_law_pick hr rfl (qa (qc 1) (qa (qc 2) qe)))) (by kernel_rfl) (by kernel_rfl)) qe))) (by kernel_rfl) (by kernel_rfl) rfl rfl) (qo (qA (ql (qa qr (qa (qc 3) (qa (jg zG Q0 rfl m_tuple PyProof.Rows.boot_tuple (qa (qc 11) qe)) qe))))))))))))) read
abbrev zX:Stmt:=top 24
abbrev ZG:List Str:=["_law_left_here","_law_way","_law_inner","_law_some"]
abbrev ZK:List Str:=["_law_left_here"]
def jx:FnScope ZG ZK (qm zX):=⟨rfl,rfl,rfl,by decide +kernel,rfl,by decide +kernel,by decide +kernel⟩
def EW {S_law_pick:Sp3} {S_law_skew:Sp3} {S_law_rests:Sp3} {S_law_bits:Sp3} {S_law_table:Sp3} {S_law_small:Sp3} (F:Fun K "_law_dealing" "_law_dealing" zX f fd) (bd:zP K fd ZK []) (hm:mg "_law_dealing" = some (.ref f)) (F_law_pick:Fn3 P w K mg base k "_law_pick" S_law_pick) (F_law_skew:Fn3 P w K mg base k "_law_skew" S_law_skew) (F_law_rests:Fn3 P w K mg base k "_law_rests" S_law_rests) (F_law_bits:Fn3 P w K mg base k "_law_bits" S_law_bits) (F_law_table:Fn3 P w K mg base k "_law_table" S_law_table) (F_law_small:Fn3 P w K mg base k "_law_small" S_law_small) 
  (read:Rd sp 1 (Bk.jZ S_law_pick S_law_skew S_law_rests S_law_bits S_law_table S_law_small) ZG):Fn3 P w K mg base (k+1) "_law_dealing" sp:=
 za (t3:=(Bk.jZ S_law_pick S_law_skew S_law_rests S_law_bits S_law_table S_law_small)) F jx bd hm (λcdv A outer s H E hr=>(qh (qI 1 jx.nd (qj F_law_pick hr rfl (qa (qc 0) (qa qd qe)))) (qh (z8 (qW qdi Z4 (qc 1) qd (qK _)) (qo (qA (qj F_law_skew hr rfl (qa (qc 0) qe)))) zg) (qh (z8 (qW (jm hr.units) zx (qc 1) qd (qK _)) (qo (qA (qj F_law_rests hr rfl (qa (qc 0) qe)))) zg) (qh (z8 (qW (jm hr.units) zx (qc 1) qd (qK _)) (qo (qA (qj F_law_bits hr rfl (qa (qc 0) (qa qd qe))))) zg) (qh (z8 (qW (jm hr.units) zx (qc 1) qd (qK _)) (qo (qA (qj F_law_table hr rfl (qa (qc 0) qe)))) zg) (qh (z8 (qW (jm hr.units) zx (qc 1) qd (qK _)) (qh (qI 2 jx.nd (ql (qa qr (qa (ql (qa qr (qa (qO qd (qj F_law_pick hr rfl (qa (qc 0) (qa qd qe)))) (qa qd (qa qd (qa qd (qa qd qe))))))) (qa (ql (qa qr (qa qd (qa (ql (qa (ql (qa qd (qa qd qe))) qe)) qe)))) qe))))) (qh (qI 3 jx.nd (zy (qa (ql (qa qr (qa (qc 2) (qa (qj F_law_small hr rfl (qa (qc 0) qe)) qe)))) (qa (ql (qa qr (qa (qj F_law_small hr rfl (qa (qc 0) qe)) (qa (qc 2) qe)))) qe)))) (qh (QX (zS (qc 3) (qa (ql (qa qr (qa (ql (qa qr (qa qd (qa qd (qa qd (qa qd (qa qd qe))))))) (qa (ql (qa qr (qa qd (qa qd (qa qd (qa qd qe)))))) qe)))) qe))) (qh (QX (zS (qc 3) (qa (ql (qa qr (qa (ql (qa qr (qa qd (qa qd (qa qd (qa qd qe)))))) (qa (ql (qa qr (qa qd (qa qd (qa qd (qa qd (qa qd qe))))))) qe)))) qe))) (qo (qA (zm (qc 3) (qj F_law_pick hr rfl (qa (qc 0) (qa qd qe)))))))))) zg) (qo (qA (ql (qa qr (qa (qj F_law_small hr rfl (qa (qc 0) qe)) (qa (qj F_law_small hr rfl (qa (qc 0) qe)) qe))))))))))))) read
abbrev jD:Stmt:=top 25
abbrev j9:List Str:=["_law_left_here","_law_dealing_here","_law_found","_law_at","_law_odd","_law_many","_law_wide","_law_cells"]
abbrev YD:List Str:=["_law_left_here","_law_dealing_here"]
def qB:FnScope j9 YD (qm jD):=⟨rfl,rfl,rfl,by decide +kernel,rfl,by decide +kernel,by decide +kernel⟩
def ZI (S_law_pick:Sp3):TS3:=(qG (qV (jR (qb (cb3 UC (qb (v3 1) qi)) (qb (Z8 (v3 1) np3 (sp3 (u3 UP (c3 (.int 1))))) (qb (o3 zM (v3 1) (qH (qb (c3 (.int 1)) qi))) (qb (Z8 (v3 1) (sp3 (c3 (.int 1))) np3) (qb (qH (qb (v3 1) qi)) qi)))))) (gn3 2)) (qG (QI (bm3 UB (v3 2) (qb (o3 zM (qH (qb (o3 NO (o3 ix3 (v3 1) (c3 (.int 0))) (c3 (.str "s"))) qi)) (Z8 (v3 1) (sp3 (c3 (.int 1))) np3)) qi))) (qG (z9 (tb3 (o3 (in3 false) (o3 ix3 (v3 1) (c3 (.int 0))) (qH (qb (c3 (.str "skew")) (qb (c3 (.str "rests")) qi))))) (qG (qV (o3 zM (c3 (.int 1)) (cb3 S_law_pick (qb (v3 0) (qb (o3 (iI (·-·)) (cb3 V9 (qb (v3 1) qi)) (c3 (.int 1))) qi)))) (gn3 3)) (qG (W4 (ZV (qH (qb (u3 UP (c3 (.int 1))) (qb (c3 (.bl true)) (qb (c3 .non) (qb (c3 (.str "3")) (qb (qH (qb (c3 (.int 2)) qi)) qi))))))) (gn3 4) (QI (bm3 UB (v3 2) (qb (o3 zM (o3 zM (Z8 (v3 1) np3 (sp3 (v3 3))) (qH (qb (v3 4) qi))) (Z8 (v3 1) (sp3 (o3 zM (v3 3) (c3 (.int 1)))) np3)) qi)))) (qG (qV (o3 zM (c3 (.int 1)) (cb3 S_law_pick (qb (v3 0) (qb (c3 (.int 3)) qi)))) (gn3 3)) (QI (bm3 UB (v3 2) (qb (o3 zM (o3 zM (Z8 (v3 1) np3 (sp3 (v3 3))) (qH (qb (c3 (.int 0)) qi))) (Z8 (v3 1) (sp3 (o3 zM (v3 3) (c3 (.int 1)))) np3)) qi)))))) qU) (qG (z9 (tb3 (o3 (j0 false) (o3 ix3 (v3 1) (c3 (.int 0))) (c3 (.str "rests")))) (qG (qV (o3 (iC YO (·*·)) (o3 ix3 (v3 1) (c3 (.int 1))) (o3 ix3 (v3 1) (c3 (.int 2)))) (gn3 5)) (qV (o3 zM (v3 2) (jR (qb (qH (qb (c3 (.str "rests")) (qb (c3 (.int 2)) (qb (c3 (.int 2)) (qb (c3 (.int 6)) (qb (c3 (.int 9)) qi)))))) (qb (qH (qb (c3 (.str "rests")) (qb (o3 zM (v3 5) (c3 (.int 1))) (qb (c3 (.int 1)) (qb (c3 (.int 1)) (qb (v3 5) qi)))))) (qb (qH (qb (c3 (.str "rests")) (qb (c3 (.int 3)) (qb (c3 (.int 3)) (qb (c3 (.int 2)) (qb (c3 (.int 4)) qi)))))) qi))))) (gn3 2))) qU) (qG (z9 (tb3 (o3 (j0 false) (o3 ix3 (v3 1) (c3 (.int 0))) (c3 (.str "bits")))) (qG (qV (o3 ix3 (jR (qb (c3 (.int 1)) (qb (c3 (.int 2)) (qb (c3 (.int 4)) (qb (c3 (.int 8)) (qb (c3 (.int 16)) (qb (c3 (.int 32)) (qb (c3 (.int 64)) (qb (c3 (.int 128)) (qb (c3 (.int 256)) qi)))))))))) (o3 zM (o3 ix3 (v3 1) (c3 (.int 1))) (o3 ix3 (v3 1) (c3 (.int 2))))) (gn3 6)) (qG (W4 (ZV (qH (qb (v3 6) (qb (u3 UP (c3 (.int 1))) (qb (c3 (.bl true)) (qb (c3 .non) qi)))))) (gn3 4) (QI (bm3 UB (v3 2) (qb (o3 zM (Z8 (v3 1) np3 (sp3 (c3 (.int 3)))) (qH (qb (o3 zM (o3 ix3 (v3 1) (c3 (.int 3))) (qH (qb (v3 4) qi))) qi))) qi)))) (qV (o3 zM (v3 2) (jR (qb (o3 zM (Z8 (v3 1) np3 (sp3 (c3 (.int 3)))) (qH (qb (cb3 UC (qb (o3 ix3 (v3 1) (c3 (.int 3))) qi)) qi))) (qb (qH (qb (c3 (.str "bits")) (qb (u3 UP (c3 (.int 1))) (qb (c3 (.int 2)) (qb (qH qi) qi))))) (qb (qH (qb (c3 (.str "bits")) (qb (c3 (.int 1)) (qb (c3 (.bl true)) (qb (qH qi) qi))))) qi))))) (gn3 2)))) qU) (qG (z9 (tb3 (o3 (j0 false) (o3 ix3 (v3 1) (c3 (.int 0))) (c3 (.str "table")))) (qG (qV (o3 ix3 (v3 1) (c3 (.int 2))) (gn3 7)) (qG (W4 (ZV (qH (qb (o3 ix3 (v3 1) (c3 (.int 1))) (qb (u3 UP (c3 (.int 1))) (qb (c3 (.bl true)) (qb (c3 (.str "0")) qi)))))) (gn3 4) (QI (bm3 UB (v3 2) (qb (o3 zM (Z8 (v3 1) np3 (sp3 (c3 (.int 2)))) (qH (qb (o3 zM (Z8 (v3 7) np3 (sp3 (u3 UP (c3 (.int 1))))) (qH (qb (o3 zM (Z8 (o3 ix3 (v3 7) (u3 UP (c3 (.int 1)))) np3 (sp3 (u3 UP (c3 (.int 1))))) (qH (qb (v3 4) qi))) qi))) qi))) qi)))) (qG (qV (o3 zM (v3 2) (jR (qb (o3 zM (Z8 (v3 1) np3 (sp3 (c3 (.int 2)))) (qH (qb (o3 zM (v3 7) (qH (qb (o3 zM (o3 ix3 (v3 7) (c3 (.int 0))) (qH (qb (c3 (.int 0)) qi))) qi))) qi))) (qb (qH (qb (c3 (.str "table")) (qb (c3 (.int 2)) (qb (qH qi) qi)))) (qb (qH (qb (c3 (.str "table")) (qb (c3 (.int 2)) (qb (qH (qb (qH qi) (qb (qH qi) qi))) qi)))) qi))))) (gn3 2)) (qV (o3 zM (v3 2) (jR (qb (qH (qb (c3 (.str "table")) (qb (c3 (.int 0)) (qb (v3 7) qi)))) (qb (o3 zM (Z8 (v3 1) np3 (sp3 (c3 (.int 2)))) (qH (qb (cb3 UC (qb (v3 7) qi)) qi))) (qb (o3 zM (Z8 (v3 1) np3 (sp3 (c3 (.int 2)))) (qH (qb (o3 zM (v3 7) (qH (qb (jR (qb (c3 (.int 0)) qi)) qi))) qi))) qi))))) (gn3 2))))) qU) (qG (z9 (tb3 (o3 (j0 false) (o3 ix3 (v3 1) (c3 (.int 0))) (c3 (.str "joined")))) (qV (o3 zM (v3 2) (jR (qb (qH (qb (c3 (.str "joined")) (qb (o3 ix3 (v3 1) (c3 (.int 1))) (qb (c3 .non) qi)))) (qb (qH (qb (c3 (.str "joined")) (qb (Z8 (v3 1) (sp3 (c3 (.int 1))) np3) (qb (o3 ix3 (v3 1) (c3 (.int 2))) qi)))) qi)))) (gn3 2)) qU) (zn (v3 2)))))))))
def X5 {S_law_pick:Sp3} (F:Fun K "_law_wrong" "_law_wrong" jD f fd) (bd:zP K fd YD []) (hm:mg "_law_wrong" = some (.ref f)) (F_law_pick:Fn3 P w K mg base k "_law_pick" S_law_pick) (m_list:mg "list" = none) (m_len:mg "len" = none)
  (read:Rd sp 2 (ZI S_law_pick) j9):Fn3 P w K mg base (k+1) "_law_wrong" sp:=
 za (t3:=(ZI S_law_pick)) F qB bd hm (λcdv A outer s H E hr=>(qh (qI 2 qB.nd (zy (qa (jg JJ WN rfl m_list PyProof.Rows.boot_list (qa (qc 1) qe)) (qa (qY (qc 1) zo (qX (Z2 qd))) (qa (qx (qc 1) (ql (qa qd qe))) (qa (qY (qc 1) (qX qd) zo) (qa (ql (qa (qc 1) qe)) qe))))))) (qh (QX (zS (qc 2) (qa (qx (ql (qa (NU (zm (qc 1) qd) qr) qe)) (qY (qc 1) (qX qd) zo)) qe))) (qh (z8 (qW LF qfQ (zm (qc 1) qd) (ql (qa qr (qa qr qe))) (by with_unfolding_all rfl)) (qh (qI 3 qB.nd (qx qd (qj F_law_pick hr rfl (qa (qc 0) (qa (KW (qR zH jp rfl m_len PySem.boot_len (qa (qc 1) qe)) qd) qe))))) (qh (YQ PassesOwn.never rfl (JH (ql (qa (Z2 qd) (qa JN (qa X6 (qa qr (qa (ql (qa qd qe)) qe))))))) (qP (i:=4) (qB.nd)) (qo (QX (zS (qc 2) (qa (qx (qx (qY (qc 1) zo (qX (qc 3))) (ql (qa (qc 4) qe))) (qY (qc 1) (qX (qx (qc 3) qd)) zo)) qe))))) (qh (qI 3 qB.nd (qx qd (qj F_law_pick hr rfl (qa (qc 0) (qa qd qe))))) (qo (QX (zS (qc 2) (qa (qx (qx (qY (qc 1) zo (qX (qc 3))) (ql (qa qd qe))) (qY (qc 1) (qX (qx (qc 3) qd)) zo)) qe))))))) zg) (qh (z8 (qW (jm hr.units) zx (zm (qc 1) qd) qr (qK _)) (qh (qI 5 qB.nd (Z6 (zm (qc 1) qd) (zm (qc 1) qd))) (qo (qI 2 qB.nd (qx (qc 2) (zy (qa (ql (qa qr (qa qd (qa qd (qa qd (qa qd qe)))))) (qa (ql (qa qr (qa (qx (qc 5) qd) (qa qd (qa qd (qa (qc 5) qe)))))) (qa (ql (qa qr (qa qd (qa qd (qa qd (qa qd qe)))))) qe)))))))) zg) (qh (z8 (qW (jm hr.units) zx (zm (qc 1) qd) qr (qK _)) (qh (qI 6 qB.nd (zm (zy (qa qd (qa qd (qa qd (qa qd (qa qd (qa qd (qa qd (qa qd (qa qd qe)))))))))) (qx (zm (qc 1) qd) (zm (qc 1) qd)))) (qh (YQ PassesOwn.never rfl (JH (ql (qa (qc 6) (qa (Z2 qd) (qa JN (qa X6 qe)))))) (qP (i:=4) (qB.nd)) (qo (QX (zS (qc 2) (qa (qx (qY (qc 1) zo (qX qd)) (ql (qa (qx (zm (qc 1) qd) (ql (qa (qc 4) qe))) qe))) qe))))) (qo (qI 2 qB.nd (qx (qc 2) (zy (qa (qx (qY (qc 1) zo (qX qd)) (ql (qa (jg JJ WN rfl m_list PyProof.Rows.boot_list (qa (zm (qc 1) qd) qe)) qe))) (qa (ql (qa qr (qa (Z2 qd) (qa qd (qa (ql qe) qe))))) (qa (ql (qa qr (qa qd (qa JN (qa (ql qe) qe))))) qe))))))))) zg) (qh (z8 (qW (jm hr.units) zx (zm (qc 1) qd) qr (qK _)) (qh (qI 7 qB.nd (zm (qc 1) qd)) (qh (YQ PassesOwn.never rfl (JH (ql (qa (zm (qc 1) qd) (qa (Z2 qd) (qa JN (qa qr qe)))))) (qP (i:=4) (qB.nd)) (qo (QX (zS (qc 2) (qa (qx (qY (qc 1) zo (qX qd)) (ql (qa (qx (qY (qc 7) zo (qX (Z2 qd))) (ql (qa (qx (qY (zm (qc 7) (Z2 qd)) zo (qX (Z2 qd))) (ql (qa (qc 4) qe))) qe))) qe))) qe))))) (qh (qI 2 qB.nd (qx (qc 2) (zy (qa (qx (qY (qc 1) zo (qX qd)) (ql (qa (qx (qc 7) (ql (qa (qx (zm (qc 7) qd) (ql (qa qd qe))) qe))) qe))) (qa (ql (qa qr (qa qd (qa (ql qe) qe)))) (qa (ql (qa qr (qa qd (qa (ql (qa (ql qe) (qa (ql qe) qe))) qe)))) qe)))))) (qo (qI 2 qB.nd (qx (qc 2) (zy (qa (ql (qa qr (qa qd (qa (qc 7) qe)))) (qa (qx (qY (qc 1) zo (qX qd)) (ql (qa (jg JJ WN rfl m_list PyProof.Rows.boot_list (qa (qc 7) qe)) qe))) (qa (qx (qY (qc 1) zo (qX qd)) (ql (qa (qx (qc 7) (ql (qa (zy (qa qd qe)) qe))) qe))) qe)))))))))) zg) (qh (z8 (qW (jm hr.units) zx (zm (qc 1) qd) qr (qK _)) (qo (qI 2 qB.nd (qx (qc 2) (zy (qa (ql (qa qr (qa (zm (qc 1) qd) (qa X6 qe)))) (qa (ql (qa qr (qa (qY (qc 1) (qX qd) zo) (qa (zm (qc 1) qd) qe)))) qe)))))) zg) (qo (qA (qc 2))))))))))) read
abbrev QM:Stmt:=top 26
abbrev Q5:List Str:=["_law_left_here","_law_thing","_law_turn","_law_other"]
abbrev VJ:List Str:=["_law_left_here","_law_thing"]
def ZQ:FnScope Q5 VJ (qm QM):=⟨rfl,rfl,rfl,by decide +kernel,rfl,by decide +kernel,by decide +kernel⟩
def JQ (S_law_pick:Sp3):TS3:=(qG (W4 (QA (qb (c3 (.int 15)) qi)) (gn3 2) (qG (qV (qH (qb (c3 (.str "skew")) (qb (c3 (.int 1)) (qb (c3 (.int 1)) (qb (c3 (.int 1)) (qb (c3 (.int 0)) (qb (c3 (.int 0)) qi))))))) (gn3 3)) (qV (o3 ix3 (jR (qb (qH (qb (c3 (.str "joined")) (qb (v3 1) (qb (v3 3) qi)))) (qb (qH (qb (c3 (.str "joined")) (qb (v3 3) (qb (v3 1) qi)))) qi))) (cb3 S_law_pick (qb (v3 0) (qb (c3 (.int 2)) qi)))) (gn3 1)))) (zn (v3 1)))
def C6 {S_law_pick:Sp3} (F:Fun K "_law_deep" "_law_deep" QM f fd) (bd:zP K fd VJ []) (hm:mg "_law_deep" = some (.ref f)) (F_law_pick:Fn3 P w K mg base k "_law_pick" S_law_pick) (m_range:mg "range" = none)
  (read:Rd sp 2 (JQ S_law_pick) Q5):Fn3 P w K mg base (k+1) "_law_deep" sp:=
 za (t3:=(JQ S_law_pick)) F ZQ bd hm (λcdv A outer s H E hr=>(qh (YQ PassesOwn.never rfl (zV rfl m_range (qa qd qe) (h1:=by intro _ _ _ h;simpa [qb,qi] using h)) (qP (i:=2) (ZQ.nd)) (qh (qI 3 ZQ.nd (ql (qa qr (qa qd (qa qd (qa qd (qa qd (qa qd qe)))))))) (qo (qI 1 ZQ.nd (zm (zy (qa (ql (qa qr (qa (qc 1) (qa (qc 3) qe)))) (qa (ql (qa qr (qa (qc 3) (qa (qc 1) qe)))) qe))) (qj F_law_pick hr rfl (qa (qc 0) (qa qd qe)))))))) (qo (qA (qc 1))))) read
abbrev JF:Stmt:=top 27
abbrev LS:List Str:=["_law_script","_law_k","_law_left_here","_law_dealing_here","_law_great","_law_fine","_law_wide","_law_thing","_law_odd","_law_kept"]
abbrev qfq:List Str:=["_law_script"]
def Q7:FnScope LS qfq (qm JF):=⟨rfl,rfl,rfl,by decide +kernel,rfl,by decide +kernel,by decide +kernel⟩
def qcF (S_law_left:Sp3) (S_law_dealing:Sp3) (S_law_pick:Sp3) (S_law_small:Sp3) (S_law_deep:Sp3) (S_is_dealing:Sp3) (S_law_wrong:Sp3):TS3:=(qG (W4 (QA (qb (o3 zN (c3 (.int 1)) (cb3 MZ (qb (c3 (.int 8)) (qb (cb3 V9 (qb (v3 0) qi)) qi)))) qi)) (gn3 1) (qG (qV (cb3 S_law_left (qb (v3 0) (qb (v3 1) qi))) (gn3 2)) (qG (qV (cb3 S_law_dealing (qb (v3 2) qi)) (gn3 3)) (qG (qV (o3 zN (o3 (iC XZ (λi j=>i ^ j.toNat)) (c3 (.int 10)) (c3 (.int 30))) (cb3 S_law_pick (qb (v3 2) (qb (c3 (.int 9)) qi)))) (gn3 4)) (qG (qV (jR (qb (v3 3) (qb (qH (qb (c3 (.str "joined")) (qb (v3 3) (qb (qH (qb (c3 (.str "joined")) (qb (cb3 S_law_small (qb (v3 2) qi)) (qb (v3 3) qi)))) qi)))) qi))) (gn3 5)) (qG (QI (bm3 UB (v3 5) (qb (qH (qb (c3 (.str "skew")) (qb (v3 4) (qb (c3 (.int 1)) (qb (v3 4) (qb (v3 4) (qb (c3 (.int 0)) qi))))))) qi))) (qG (qV (o3 zN (v3 5) (jR (qb (qH (qb (c3 (.str "rests")) (qb (v3 4) (qb (c3 (.int 2)) (qb (o3 (iC YO (·*·)) (c3 (.int 2)) (v3 4)) (qb (c3 (.int 1)) qi)))))) (qb (qH (qb (c3 (.str "bits")) (qb (c3 (.int 0)) (qb (c3 (.int 0)) (qb (qH (qb (c3 (.int 0)) (qb (c3 (.int 0)) qi))) qi))))) qi)))) (gn3 5)) (qG (qV (o3 (iC YO (·*·)) (o3 (iC XZ (λi j=>i ^ j.toNat)) (c3 (.int 2)) (c3 (.int 60))) (o3 (iC XZ (λi j=>i ^ j.toNat)) (c3 (.int 2)) (c3 (.int 39)))) (gn3 6)) (qG (qV (o3 zN (v3 5) (jR (qb (qH (qb (c3 (.str "table")) (qb (v3 4) (qb (qH (qb (qH (qb (c3 (.int 0)) (qb (o3 (iI (·-·)) (v3 4) (c3 (.int 1))) qi))) (qb (qH (qb (c3 (.int 1)) (qb (c3 (.int 2)) qi))) qi))) qi)))) (qb (qH (qb (c3 (.str "bits")) (qb (c3 (.int 60)) (qb (c3 (.int 39)) (qb (qH (qb (o3 (iC KC (·/·)) (v3 6) (c3 (.int 2))) (qb (o3 (iI (·-·)) (v3 6) (c3 (.int 1))) qi))) qi))))) qi)))) (gn3 5)) (qG (QI (bm3 UB (v3 5) (qb (cb3 S_law_deep (qb (v3 2) (qb (cb3 S_law_small (qb (v3 2) qi)) qi))) qi))) (qG (W4 (ZV (v3 5)) (gn3 7) (z9 (tb3 (o3 (qdm true) (cb3 S_is_dealing (qb (v3 7) qi)) (c3 (.bl true)))) (zn (c3 (.bl false))) qU)) (qG (qV (jR (qb (c3 .non) (qb (c3 (.int 3)) (qb (c3 (.str "skew")) (qb (qH qi) (qb (jR qi) (qb (qH (qb (c3 (.str "")) qi)) (qb (qH (qb (c3 .non) (qb (c3 (.int 1)) qi))) (qb (qH (qb (c3 (.str "joined")) qi)) (qb (qH (qb (c3 (.str "bits")) (qb (c3 (.int 60)) (qb (c3 (.int 39)) (qb (qH (qb (v3 6) qi)) qi))))) qi)))))))))) (gn3 8)) (qG (QI (bm3 UB (v3 8) (qb (cb3 S_law_deep (qb (v3 2) (qb (qH (qb (c3 (.str "skew")) (qb (c3 (.int 1)) (qb (c3 (.int 1)) (qb (c3 (.int 1)) (qb (c3 (.int 0)) qi)))))) qi))) qi))) (W4 (ZV (o3 zN (cb3 S_law_wrong (qb (v3 2) (qb (v3 3) qi))) (v3 8))) (gn3 7) (qG (qV (cb3 (C1 false) (qb (v3 7) qi)) (gn3 9)) (z9 (or3 (tb3 (o3 (qdm true) (cb3 S_is_dealing (qb (v3 7) qi)) (c3 (.bl false)))) (tb3 (o3 (j0 true) (cb3 (C1 false) (qb (v3 7) qi)) (v3 9)))) (zn (c3 (.bl false))) qU)))))))))))))))) (zn (c3 (.bl true))))
def qg6 {S_law_left:Sp3} {S_law_dealing:Sp3} {S_law_pick:Sp3} {S_law_small:Sp3} {S_law_deep:Sp3} {S_is_dealing:Sp3} {S_law_wrong:Sp3} (F:Fun K "law" "law" JF f fd) (F_law_left:Fn3 P w K mg base k "_law_left" S_law_left) (F_law_dealing:Fn3 P w K mg base k "_law_dealing" S_law_dealing) (F_law_pick:Fn3 P w K mg base k "_law_pick" S_law_pick) (F_law_small:Fn3 P w K mg base k "_law_small" S_law_small) (F_law_deep:Fn3 P w K mg base k "_law_deep" S_law_deep) (F_is_dealing:Fn3 P w K mg base k "is_dealing" S_is_dealing) (F_law_wrong:Fn3 P w K mg base k "_law_wrong" S_law_wrong) (m_len:mg "len" = none) (m_min:mg "min" = none) (m_range:mg "range" = none) (m_repr:mg "repr" = none)
  (read:Rd sp 1 (qcF S_law_left S_law_dealing S_law_pick S_law_small S_law_deep S_is_dealing S_law_wrong) LS):FnOk P w K mg base CX0 (k+1) f fd qfq (lSp K sp):=
 qaj (t3:=(qcF S_law_left S_law_dealing S_law_pick S_law_small S_law_deep S_is_dealing S_law_wrong)) F Q7 (λcdv A outer s H E hr=>(qh (YQ PassesOwn.never rfl (zV rfl m_range (qa (qO qd (qR (KT rfl) qcs rfl m_min PyProof.Rows.boot_min (qa qd (qa (qR zH jp rfl m_len PySem.boot_len (qa (qc 0) qe)) qe)))) qe) (h1:=by intro _ _ _ h;simpa [qb,qi] using h)) (qP (i:=1) (Q7.nd)) (qh (qI 2 Q7.nd (qj F_law_left hr rfl (qa (qc 0) (qa (qc 1) qe)))) (qh (qI 3 Q7.nd (qj F_law_dealing hr rfl (qa (qc 2) qe))) (qh (qI 4 Q7.nd (qO (SK qd qd) (qj F_law_pick hr rfl (qa (qc 2) (qa qd qe))))) (qh (qI 5 Q7.nd (zy (qa (qc 3) (qa (ql (qa qr (qa (qc 3) (qa (ql (qa qr (qa (qj F_law_small hr rfl (qa (qc 2) qe)) (qa (qc 3) qe)))) qe)))) qe)))) (qh (QX (zS (qc 5) (qa (ql (qa qr (qa (qc 4) (qa qd (qa (qc 4) (qa (qc 4) (qa qd qe))))))) qe))) (qh (qI 5 Q7.nd (qO (qc 5) (zy (qa (ql (qa qr (qa (qc 4) (qa qd (qa (Z6 qd (qc 4)) (qa qd qe)))))) (qa (ql (qa qr (qa qd (qa qd (qa (ql (qa qd (qa qd qe))) qe))))) qe))))) (qh (qI 6 Q7.nd (Z6 (SK qd qd) (SK qd qd))) (qh (qI 5 Q7.nd (qO (qc 5) (zy (qa (ql (qa qr (qa (qc 4) (qa (ql (qa (ql (qa qd (qa (KW (qc 4) qd) qe))) (qa (ql (qa qd (qa qd qe))) qe))) qe)))) (qa (ql (qa qr (qa qd (qa qd (qa (ql (qa (XR (qc 6) qd) (qa (KW (qc 6) qd) qe))) qe))))) qe))))) (qh (QX (zS (qc 5) (qa (qj F_law_deep hr rfl (qa (qc 2) (qa (qj F_law_small hr rfl (qa (qc 2) qe)) qe))) qe))) (qh (YQ PassesOwn.never rfl (JH (qc 5)) (qP (i:=7) (Q7.nd)) (qo (z8 (qW L0 SF (qj F_is_dealing hr rfl (qa (qc 7) qe)) JN (qK _)) (qo (qA JN)) zg))) (qh (qI 8 Q7.nd (zy (qa X6 (qa qd (qa qr (qa (ql qe) (qa (zy qe) (qa (ql (qa qr qe)) (qa (ql (qa X6 (qa qd qe))) (qa (ql (qa qr qe)) (qa (ql (qa qr (qa qd (qa qd (qa (ql (qa (qc 6) qe)) qe))))) qe))))))))))) (qh (QX (zS (qc 8) (qa (qj F_law_deep hr rfl (qa (qc 2) (qa (ql (qa qr (qa qd (qa qd (qa qd (qa qd qe)))))) qe))) qe))) (qo (YQ PassesOwn.never rfl (JH (qO (qj F_law_wrong hr rfl (qa (qc 2) (qa (qc 3) qe))) (qc 8))) (qP (i:=7) (Q7.nd)) (qh (qI 9 Q7.nd (qR (V6 hr.gd hr.units) RW rfl m_repr PyProof.Rows.boot_repr (qa (qc 7) qe))) (qo (z8 (jpt (ES (qW L0 SF (qj F_is_dealing hr rfl (qa (qc 7) qe)) JN (qK _)) (VC (qW (XS hr.units) UV (qR (V6 hr.gd hr.units) RW rfl m_repr PyProof.Rows.boot_repr (qa (qc 7) qe)) (qc 9) (qK _))))) (qo (qA JN)) zg)))))))))))))))))) (qo (qA JN)))) read
end K01
namespace K01
open PySem L2 L3 Pu
def ZY:PuS (Bk.ZC):=(UI (EY (qa2 (λt=>ZO t "int") (bV 0)) (qeG (qa2 (λt=>ZO t "bool") (bV 0)))))
def zC:List PyData->Option PyData:=Pu.run ZY.f 1 1 1000000000 false
def XI:Rd (PSp zC false) 1 (Bk.ZC) ZB:=QB ZY ZB 1 1000000000 false
def XV {x0:PyData}:zC [x0]=CS false (ZY.f 1000000000 [.sh x0]):=id rfl
def jX:PuS (K01.jS (PSp zC false)):=(UI (EY (zq (QN zC false) (qf (bV 0) qJ)) (bO (opB λi j=>decide (j<=i)) (bV 0) (bV 1))))
def qD:List PyData->Option PyData:=Pu.run jX.f 2 2 1000000000 false
def DF:Rd (PSp qD false) 2 (K01.jS (PSp zC false)) jh:=QB jX jh 2 1000000000 false
def E9 {x0 x1:PyData}:qD [x0,x1]=CS false (jX.f 1000000000 [.sh x0,.sh x1]):=id rfl
def jv:PuS (K01.jy (PSp qD false)):=(UI (zq qdr (qf (bLc (MX (bV 0)) (gN 0) bTt (zq (QN qD false) (qf (bV 0) (qf (bV 1) qJ))) [none,some 1] ⟨rfl⟩) qJ)))
def qk:List PyData->Option PyData:=Pu.run jv.f 2 2 1000000000 false
def EK:Rd (PSp qk false) 2 (K01.jy (PSp qD false)) jw:=QB jv jw 2 1000000000 false
def UM {x0 x1:PyData}:qk [x0,x1]=CS false (jv.f 1000000000 [.sh x0,.sh x1]):=id rfl
def zz:PuS (K01.zA):=(W5 (sWh (bTb (bO (opB λi j=>decide (j<i)) (bV 1) (qC 0))) (qj5 (qf (bV 1) (qf (bO (opC (λ_ j=>0<j) (·%·)) (bV 0) (bV 1)) qJ)) 0 1 [true,true] ⟨rfl⟩)) (UI (bO (DT false) (bV 0) (qC 1))))
def qF:List PyData->Option PyData:=Pu.run zz.f 2 2 1000000000 false
def YC:Rd (PSp qF false) 2 (K01.zA) zl:=QB zz zl 2 1000000000 false
def YA {x0 x1:PyData}:qF [x0,x1]=CS false (zz.f 1000000000 [.sh x0,.sh x1]):=id rfl
def zW:PuS (K01.YX (PSp qk false)):=(UI (EY (bO (DT false) (zq TW (qf (bV 0) qJ)) (qC 6)) (EY (zq (QN qk false) (qf (bSl (bV 0) (bSp (qC 1)) (bSp (qC 4))) (qf (qC 1) qJ))) (zq (QN qk false) (qf (bSl (bV 0) (bSp (qC 4)) bNp) (qf (qC 0) qJ))))))
def jH:List PyData->Option PyData:=Pu.run zW.f 1 1 1000000000 false
def TQ:Rd (PSp jH false) 1 (K01.YX (PSp qk false)) YV:=QB zW YV 1 1000000000 false
def TF {x0:PyData}:jH [x0]=CS false (zW.f 1000000000 [.sh x0]):=id rfl
def zt:PuS (K01.JU (PSp qk false) (PSp qF false)):=(W5 (sIf (bOr (bTb (bO (DT true) (zq TW (qf (bV 0) qJ)) (qC 5))) (KI (bTb (zq (QN qk false) (qf (bSl (bV 0) (bSp (qC 1)) bNp) (qf (qC 1) qJ)))))) (UI (bBl false)) VS) (W5 (M6 (bSl (bV 0) (bSp (qC 1)) bNp) (qdq 4 (UE (gN 1) (UE (gN 2) (UE (gN 3) (UE (gN 4) qdn))))) [true] ⟨rfl⟩) (UI (EY (zq (QN qF false) (qf (bV 3) (qf (bV 4) qJ))) (bO (opB λi j=>decide (j<=i)) (bO (opC YO (·*·)) (bV 3) (bV 4)) (bO (opC YO (·*·)) (bV 1) (bV 2)))))))
def zJ:List PyData->Option PyData:=Pu.run zt.f 1 5 1000000000 false
def RJ:Rd (PSp zJ false) 1 (K01.JU (PSp qk false) (PSp qF false)) Q1:=QB zt Q1 1 1000000000 false
def U1 {x0:PyData}:zJ [x0]=CS false (zt.f 1000000000 [.sh x0,.un,.un,.un,.un]):=id rfl
def zB:PuS (K01.YZ (PSp qk false)):=(W5 (sIf (bOr (bTb (bO (DT true) (zq TW (qf (bV 0) qJ)) (qC 4))) (KI (bTb (zq (QN qk false) (qf (bSl (bV 0) (bSp (qC 1)) (bSp (qC 3))) (qf (qC 0) qJ)))))) (UI (bBl false)) VS) (W5 (M6 (bSl (bV 0) (bSp (qC 1)) bNp) (qdq 3 (UE (gN 1) (UE (gN 2) (UE (gN 3) qdn)))) [true] ⟨rfl⟩) (W5 (sIf (bOr (KI (bTb (qa2 (λt=>ZO t "tuple") (bV 3)))) (KI (bTb (zq (QN qk false) (qf (bV 3) (qf (qC 0) qJ)))))) (UI (bBl false)) VS) (UI (zq qdr (qf (bLc (MX (bV 3)) (gN 0) bTt (bO (opB λi j=>decide (i<=j)) (qjW (bV 0)) (bO LR (bV 1) (bV 2))) [none,some 1,some 2] ⟨rfl⟩) qJ))))))
def jB:List PyData->Option PyData:=Pu.run zB.f 1 4 1000000000 false
def TV:Rd (PSp jB false) 1 (K01.YZ (PSp qk false)) VE:=QB zB VE 1 1000000000 false
def TR {x0:PyData}:jB [x0]=CS false (zB.f 1000000000 [.sh x0,.un,.un,.un]):=id rfl
def zv:PuS (K01.jW (PSp qk false)):=(W5 (sIf (bOr (KI (bTb (qa2 (λt=>ZO t "tuple") (bV 0)))) (bOr (bTb (bO (DT true) (zq TW (qf (bV 0) qJ)) (bV 1))) (KI (bTb (zq (QN qk false) (qf (bV 0) (qf (qC 0) qJ))))))) (UI (bBl false)) VS) (UI (zq qdr (qf (bLc (MX (bV 0)) (gN 0) bTt (bO (opB λi j=>decide (i<j)) (bV 0) (bV 1)) [none,some 2] ⟨rfl⟩) qJ))))
def zk:List PyData->Option PyData:=Pu.run zv.f 3 3 1000000000 false
def EV:Rd (PSp zk false) 3 (K01.jW (PSp qk false)) jU:=QB zv jU 3 1000000000 false
def DB {x0 x1 x2:PyData}:zk [x0,x1,x2]=CS false (zv.f 1000000000 [.sh x0,.sh x1,.sh x2]):=id rfl
def zi:PuS (K01.JX (PSp qD false) (PSp zk false)):=(W5 (sIf (bOr (bTb (bO (DT true) (zq TW (qf (bV 0) qJ)) (qC 3))) (KI (bTb (zq (QN qD false) (qf (bO VD (bV 0) (qC 1)) (qf (qC 1) qJ)))))) (UI (bBl false)) VS) (W5 (M6 (bSl (bV 0) (bSp (qC 1)) bNp) (qdq 2 (UE (gN 1) (UE (gN 2) qdn))) [true] ⟨rfl⟩) (W5 (sIf (bOr (KI (bTb (qa2 (λt=>ZO t "tuple") (bV 2)))) (bTb (bO (DT false) (zq TW (qf (bV 2) qJ)) (qC 0)))) (UI (bBl false)) VS) (W5 (sIf (bOr (KI (bTb (qa2 (λt=>ZO t "tuple") (bO VD (bV 2) (qC 0))))) (bTb (bO (DT false) (zq TW (qf (bO VD (bV 2) (qC 0)) qJ)) (qC 0)))) (UI (bBl false)) VS) (UI (zq qdr (qf (bLc (MX (bV 2)) (gN 0) bTt (zq (QN zk false) (qf (bV 0) (qf (zq TW (qf (bO VD (bV 2) (qC 0)) qJ)) (qf (bV 1) qJ)))) [none,some 1,some 2] ⟨rfl⟩) qJ)))))))
def z7:List PyData->Option PyData:=Pu.run zi.f 1 3 1000000000 false
def CV:Rd (PSp z7 false) 1 (K01.JX (PSp qD false) (PSp zk false)) JY:=QB zi JY 1 1000000000 false
def RN {x0:PyData}:z7 [x0]=CS false (zi.f 1000000000 [.sh x0,.un,.un]):=id rfl
def zY (Ff:List PyData->Option PyData):PuS (K01.ZL (PSp Ff false)):=(UI (EY (bO (DT false) (zq TW (qf (bV 0) qJ)) (qC 3)) (EY (zq (QN Ff false) (qf (bO VD (bV 0) (qC 1)) qJ)) (zq (QN Ff false) (qf (bO VD (bV 0) (qC 2)) qJ)))))
def jo (Ff:List PyData->Option PyData):List PyData->Option PyData:=Pu.run (zY Ff).f 1 1 1000000000 false
def qt (Ff:List PyData->Option PyData):Rd (PSp (jo Ff) false) 1 (K01.ZL (PSp Ff false)) zZ:=QB (zY Ff) zZ 1 1000000000 false
def XJ {Ff:List PyData->Option PyData} {x0:PyData}:jo Ff [x0]=CS false ((zY Ff).f 1000000000 [.sh x0]):=id rfl
def qv (Ff:List PyData->Option PyData):PuS (K01.QR (PSp jH false) (PSp zJ false) (PSp jB false) (PSp z7 false) (PSp (jo Ff) false)):=(W5 (sIf (bOr (KI (bTb (qa2 (λt=>ZO t "tuple") (bV 0)))) (bTb (bO (DT false) (zq TW (qf (bV 0) qJ)) (qC 0)))) (UI (bBl false)) VS) (W5 (qjJ (bO VD (bV 0) (qC 0)) 1 [true] ⟨rfl⟩) (W5 (sIf (bTb (bO TU (bV 1) (Q9 "skew"))) (UI (zq (QN jH false) (qf (bV 0) qJ))) VS) (W5 (sIf (bTb (bO TU (bV 1) (Q9 "rests"))) (UI (zq (QN zJ false) (qf (bV 0) qJ))) VS) (W5 (sIf (bTb (bO TU (bV 1) (Q9 "bits"))) (UI (zq (QN jB false) (qf (bV 0) qJ))) VS) (W5 (sIf (bTb (bO TU (bV 1) (Q9 "table"))) (UI (zq (QN z7 false) (qf (bV 0) qJ))) VS) (UI (EY (bO TU (bV 1) (Q9 "joined")) (zq (QN (jo Ff) false) (qf (bV 0) qJ))))))))))
def qg:Nat->List PyData->Option PyData
 |0=>λ_=>none
 |j+1=>Pu.run (qv (qg j)).f 1 2 1000000000 false
def qq (j:Nat):Rd (PSp (qg (j+1)) false) 1 (K01.QR (PSp jH false) (PSp zJ false) (PSp jB false) (PSp z7 false) (PSp (jo (qg j)) false)) jK:=QB (qv (qg j)) jK 1 1000000000 false
def jV {j:Nat} {x0:PyData}:qg (j+1) [x0]=CS false ((qv (qg j)).f 1000000000 [.sh x0,.un]):=id rfl
def zR:=((NM (eOf (bO zf (bO zf (W1 (bV 1) bNp (bSp (bV 3))) (ja (qf (bV 4) qJ) ⟨rfl⟩)) (W1 (bV 1) (bSp (bO zf (bV 3) (qC 1))) bNp))) 2 [false,true,false,true,true] ⟨rfl⟩ ⟨rfl⟩):PwS 0 _)
def QS:=((NM (eOf (bO zf (W1 (bV 1) bNp (bSp (qC 3))) (ja (qf (bO zf (bO VD (bV 1) (qC 3)) (ja (qf (bV 4) qJ) ⟨rfl⟩)) qJ) ⟨rfl⟩))) 2 [false,true,false,false,true] ⟨rfl⟩ ⟨rfl⟩):PwS 0 _)
def QW:=((NM (eOf (bO zf (W1 (bV 1) bNp (bSp (qC 2))) (ja (qf (bO zf (W1 (bV 7) bNp (bSp (NP (qC 1)))) (ja (qf (bO zf (W1 (bO VD (bV 7) (NP (qC 1))) bNp (bSp (NP (qC 1)))) (ja (qf (bV 4) qJ) ⟨rfl⟩)) qJ) ⟨rfl⟩)) qJ) ⟨rfl⟩))) 2 [false,true,false,false,true,false,false,true] ⟨rfl⟩ ⟨rfl⟩):PwS 0 _)
def zE:PwS 0 (K01.ZI Bk.qw):=(J4 (EO (eOf (RE (qf (zq qhl (qf (bV 1) qJ)) (qf (W1 (bV 1) bNp (bSp (NP (qC 1)))) (qf (bO zf (bV 1) (ja (qf (qC 1) qJ) ⟨rfl⟩)) (qf (W1 (bV 1) (bSp (qC 1)) bNp) (qf (ja (qf (bV 1) qJ) ⟨rfl⟩) qJ))))) ⟨rfl⟩)) 2 [false,true] ⟨rfl⟩ ⟨rfl⟩) (J4 (NM (eOf (bO zf (ja (qf (bO LJ (bO VD (bV 1) (qC 0)) (Q9 "s")) qJ) ⟨rfl⟩) (W1 (bV 1) (bSp (qC 1)) bNp))) 2 [false,true] ⟨rfl⟩ ⟨rfl⟩) (J4 (wIf (cOf (bTb (bO (qjZ false) (bO VD (bV 1) (qC 0)) (ja (qf (Q9 "skew") (qf (Q9 "rests") qJ)) ⟨rfl⟩)))) (J4 (EO (eO zf (eOf (qC 1)) (eDr LY (aOf (qf (bO (opI (·-·)) (zq TW (qf (bV 1) qJ)) (qC 1)) qJ)))) 3 [false,true] ⟨rfl⟩ ⟨rfl⟩) (J4 (qcy (iOf (MX (ja (qf (NP (qC 1)) (qf (bBl true) (qf qdl (qf (Q9 "3") (qf (ja (qf (qC 2) qJ) ⟨rfl⟩) qJ))))) ⟨rfl⟩))) (gN 4) zR [] ⟨rfl⟩ ⟨rfl⟩) (J4 (EO (eO zf (eOf (qC 1)) (eDr LY (aOf (qf (qC 3) qJ)))) 3 [] ⟨rfl⟩ ⟨rfl⟩) (NM (eOf (bO zf (bO zf (W1 (bV 1) bNp (bSp (bV 3))) (ja (qf (qC 0) qJ) ⟨rfl⟩)) (W1 (bV 1) (bSp (bO zf (bV 3) (qC 1))) bNp))) 2 [false,true,false,true] ⟨rfl⟩ ⟨rfl⟩)))) W9) (J4 (wIf (cOf (bTb (bO (DT false) (bO VD (bV 1) (qC 0)) (Q9 "rests")))) (J4 (EO (eOf (bO (opC YO (·*·)) (bO VD (bV 1) (qC 1)) (bO VD (bV 1) (qC 2)))) 5 [false,true] ⟨rfl⟩ ⟨rfl⟩) (EO (eOf (bO zf (bV 2) (RE (qf (ja (qf (Q9 "rests") (qf (qC 2) (qf (qC 2) (qf (qC 6) (qf (qC 9) qJ))))) ⟨rfl⟩) (qf (ja (qf (Q9 "rests") (qf (bO zf (bV 5) (qC 1)) (qf (qC 1) (qf (qC 1) (qf (bV 5) qJ))))) ⟨rfl⟩) (qf (ja (qf (Q9 "rests") (qf (qC 3) (qf (qC 3) (qf (qC 2) (qf (qC 4) qJ))))) ⟨rfl⟩) qJ))) ⟨rfl⟩))) 2 [false,false,true,false,false,true] ⟨rfl⟩ ⟨rfl⟩)) W9) (J4 (wIf (cOf (bTb (bO (DT false) (bO VD (bV 1) (qC 0)) (Q9 "bits")))) (J4 (EO (eOf (bO VD (RE (qf (qC 1) (qf (qC 2) (qf (qC 4) (qf (qC 8) (qf (qC 16) (qf (qC 32) (qf (qC 64) (qf (qC 128) (qf (qC 256) qJ))))))))) ⟨rfl⟩) (bO zf (bO VD (bV 1) (qC 1)) (bO VD (bV 1) (qC 2))))) 6 [false,true] ⟨rfl⟩ ⟨rfl⟩) (J4 (qcy (iOf (MX (ja (qf (bV 6) (qf (NP (qC 1)) (qf (bBl true) (qf qdl qJ)))) ⟨rfl⟩))) (gN 4) QS [false,false,false,false,false,false,true] ⟨rfl⟩ ⟨rfl⟩) (EO (eOf (bO zf (bV 2) (RE (qf (bO zf (W1 (bV 1) bNp (bSp (qC 3))) (ja (qf (zq qhl (qf (bO VD (bV 1) (qC 3)) qJ)) qJ) ⟨rfl⟩)) (qf (ja (qf (Q9 "bits") (qf (NP (qC 1)) (qf (qC 2) (qf (ja qJ ⟨rfl⟩) qJ)))) ⟨rfl⟩) (qf (ja (qf (Q9 "bits") (qf (qC 1) (qf (bBl true) (qf (ja qJ ⟨rfl⟩) qJ)))) ⟨rfl⟩) qJ))) ⟨rfl⟩))) 2 [false,true,true] ⟨rfl⟩ ⟨rfl⟩))) W9) (J4 (wIf (cOf (bTb (bO (DT false) (bO VD (bV 1) (qC 0)) (Q9 "table")))) (J4 (EO (eOf (bO VD (bV 1) (qC 2))) 7 [false,true] ⟨rfl⟩ ⟨rfl⟩) (J4 (qcy (iOf (MX (ja (qf (bO VD (bV 1) (qC 1)) (qf (NP (qC 1)) (qf (bBl true) (qf (Q9 "0") qJ)))) ⟨rfl⟩))) (gN 4) QW [false,true] ⟨rfl⟩ ⟨rfl⟩) (J4 (EO (eOf (bO zf (bV 2) (RE (qf (bO zf (W1 (bV 1) bNp (bSp (qC 2))) (ja (qf (bO zf (bV 7) (ja (qf (bO zf (bO VD (bV 7) (qC 0)) (ja (qf (qC 0) qJ) ⟨rfl⟩)) qJ) ⟨rfl⟩)) qJ) ⟨rfl⟩)) (qf (ja (qf (Q9 "table") (qf (qC 2) (qf (ja qJ ⟨rfl⟩) qJ))) ⟨rfl⟩) (qf (ja (qf (Q9 "table") (qf (qC 2) (qf (ja (qf (ja qJ ⟨rfl⟩) (qf (ja qJ ⟨rfl⟩) qJ)) ⟨rfl⟩) qJ))) ⟨rfl⟩) qJ))) ⟨rfl⟩))) 2 [false,true,true,false,false,false,false,true] ⟨rfl⟩ ⟨rfl⟩) (EO (eOf (bO zf (bV 2) (RE (qf (ja (qf (Q9 "table") (qf (qC 0) (qf (bV 7) qJ))) ⟨rfl⟩) (qf (bO zf (W1 (bV 1) bNp (bSp (qC 2))) (ja (qf (zq qhl (qf (bV 7) qJ)) qJ) ⟨rfl⟩)) (qf (bO zf (W1 (bV 1) bNp (bSp (qC 2))) (ja (qf (bO zf (bV 7) (ja (qf (RE (qf (qC 0) qJ) ⟨rfl⟩) qJ) ⟨rfl⟩)) qJ) ⟨rfl⟩)) qJ))) ⟨rfl⟩))) 2 [false,true,true,false,false,false,false,true] ⟨rfl⟩ ⟨rfl⟩)))) W9) (J4 (wIf (cOf (bTb (bO (DT false) (bO VD (bV 1) (qC 0)) (Q9 "joined")))) (EO (eOf (bO zf (bV 2) (RE (qf (ja (qf (Q9 "joined") (qf (bO VD (bV 1) (qC 1)) (qf qdl qJ))) ⟨rfl⟩) (qf (ja (qf (Q9 "joined") (qf (W1 (bV 1) (bSp (qC 1)) bNp) (qf (bO VD (bV 1) (qC 2)) qJ))) ⟨rfl⟩) qJ)) ⟨rfl⟩))) 2 [false,true,true] ⟨rfl⟩ ⟨rfl⟩) W9) (qbQ 2))))))))
def zc:Wm:=qjp zE 2 8 false
def XB:Rd (DSp zc.W false) 2 (K01.ZI Bk.qw) j9:=KP zE j9 2 false
def jM {x0:PyData} {n:Nat} {Q:QD}:zc.W [x0] n Q=(2=2/\zE.w [.un,.sh x0,.un,.un,.un,.un,.un,.un] n (qhv false Q)):=id rfl
def ZA:=((J4 (EO (eOf (ja (qf (Q9 "skew") (qf (qC 1) (qf (qC 1) (qf (qC 1) (qf (qC 0) (qf (qC 0) qJ)))))) ⟨rfl⟩)) 3 [] ⟨rfl⟩ ⟨rfl⟩) (EO (eO VD (eOf (RE (qf (ja (qf (Q9 "joined") (qf (bV 1) (qf (bV 3) qJ))) ⟨rfl⟩) (qf (ja (qf (Q9 "joined") (qf (bV 3) (qf (bV 1) qJ))) ⟨rfl⟩) qJ)) ⟨rfl⟩)) (eDr LY (aOf (qf (qC 2) qJ)))) 1 [false,true,false,true] ⟨rfl⟩ ⟨rfl⟩)):PwS 0 _)
def JV:PwS 0 (K01.JQ Bk.qw):=(J4 (qcy (iOf (qit (qf (qC 15) qJ))) (gN 2) ZA [] ⟨rfl⟩ ⟨rfl⟩) (qbQ 1))
def zI:Wm:=qjp JV 2 4 false
def CO:Rd (DSp zI.W false) 2 (K01.JQ Bk.qw) Q5:=KP JV Q5 2 false
def C4 {x0:PyData} {n:Nat} {Q:QD}:zI.W [x0] n Q=(2=2/\JV.w [.un,.sh x0,.un,.un] n (qhv false Q)):=id rfl
def qiF (S_law_dealing:Sp3) (S_law_pick:Sp3) (S_law_small:Sp3) (S_law_deep:Sp3) (S_is_dealing:Sp3) (S_law_wrong:Sp3):TS3:=(qG (qV (cb3 S_law_dealing (qb (v3 2) qi)) (gn3 3)) (qG (qV (o3 zN (o3 (iC XZ (λi j=>i ^ j.toNat)) (c3 (.int 10)) (c3 (.int 30))) (cb3 S_law_pick (qb (v3 2) (qb (c3 (.int 9)) qi)))) (gn3 4)) (qG (qV (jR (qb (v3 3) (qb (qH (qb (c3 (.str "joined")) (qb (v3 3) (qb (qH (qb (c3 (.str "joined")) (qb (cb3 S_law_small (qb (v3 2) qi)) (qb (v3 3) qi)))) qi)))) qi))) (gn3 5)) (qG (QI (bm3 UB (v3 5) (qb (qH (qb (c3 (.str "skew")) (qb (v3 4) (qb (c3 (.int 1)) (qb (v3 4) (qb (v3 4) (qb (c3 (.int 0)) qi))))))) qi))) (qG (qV (o3 zN (v3 5) (jR (qb (qH (qb (c3 (.str "rests")) (qb (v3 4) (qb (c3 (.int 2)) (qb (o3 (iC YO (·*·)) (c3 (.int 2)) (v3 4)) (qb (c3 (.int 1)) qi)))))) (qb (qH (qb (c3 (.str "bits")) (qb (c3 (.int 0)) (qb (c3 (.int 0)) (qb (qH (qb (c3 (.int 0)) (qb (c3 (.int 0)) qi))) qi))))) qi)))) (gn3 5)) (qG (qV (o3 (iC YO (·*·)) (o3 (iC XZ (λi j=>i ^ j.toNat)) (c3 (.int 2)) (c3 (.int 60))) (o3 (iC XZ (λi j=>i ^ j.toNat)) (c3 (.int 2)) (c3 (.int 39)))) (gn3 6)) (qG (qV (o3 zN (v3 5) (jR (qb (qH (qb (c3 (.str "table")) (qb (v3 4) (qb (qH (qb (qH (qb (c3 (.int 0)) (qb (o3 (iI (·-·)) (v3 4) (c3 (.int 1))) qi))) (qb (qH (qb (c3 (.int 1)) (qb (c3 (.int 2)) qi))) qi))) qi)))) (qb (qH (qb (c3 (.str "bits")) (qb (c3 (.int 60)) (qb (c3 (.int 39)) (qb (qH (qb (o3 (iC KC (·/·)) (v3 6) (c3 (.int 2))) (qb (o3 (iI (·-·)) (v3 6) (c3 (.int 1))) qi))) qi))))) qi)))) (gn3 5)) (qG (QI (bm3 UB (v3 5) (qb (cb3 S_law_deep (qb (v3 2) (qb (cb3 S_law_small (qb (v3 2) qi)) qi))) qi))) (qG (W4 (ZV (v3 5)) (gn3 7) (z9 (tb3 (o3 (qdm true) (cb3 S_is_dealing (qb (v3 7) qi)) (c3 (.bl true)))) (zn (c3 (.bl false))) qU)) (qG (qV (jR (qb (c3 .non) (qb (c3 (.int 3)) (qb (c3 (.str "skew")) (qb (qH qi) (qb (jR qi) (qb (qH (qb (c3 (.str "")) qi)) (qb (qH (qb (c3 .non) (qb (c3 (.int 1)) qi))) (qb (qH (qb (c3 (.str "joined")) qi)) (qb (qH (qb (c3 (.str "bits")) (qb (c3 (.int 60)) (qb (c3 (.int 39)) (qb (qH (qb (v3 6) qi)) qi))))) qi)))))))))) (gn3 8)) (qG (QI (bm3 UB (v3 8) (qb (cb3 S_law_deep (qb (v3 2) (qb (qH (qb (c3 (.str "skew")) (qb (c3 (.int 1)) (qb (c3 (.int 1)) (qb (c3 (.int 1)) (qb (c3 (.int 0)) qi)))))) qi))) qi))) (W4 (ZV (o3 zN (cb3 S_law_wrong (qb (v3 2) (qb (v3 3) qi))) (v3 8))) (gn3 7) (qG (qV (cb3 (C1 false) (qb (v3 7) qi)) (gn3 9)) (z9 (or3 (tb3 (o3 (qdm true) (cb3 S_is_dealing (qb (v3 7) qi)) (c3 (.bl false)))) (tb3 (o3 (j0 true) (cb3 (C1 false) (qb (v3 7) qi)) (v3 9)))) (zn (c3 (.bl false))) qU))))))))))))))
def WK:=((wIf (cOf (bTb (bO (qcd true) (zq (QN (qg 18) false) (qf (bV 7) qJ)) (bBl true)))) (qh0 (eOf (bBl false))) W9):PwS 2 _)
def WW:=((J4 (EO (eOf (zq (NT false) (qf (bV 7) qJ))) 9 [false,false,false,false,false,false,false,true] ⟨rfl⟩ ⟨rfl⟩) (wIf (cOf (bOr (bTb (bO (qcd true) (zq (QN (qg 18) false) (qf (bV 7) qJ)) (bBl false))) (bTb (bO (DT true) (zq (NT false) (qf (bV 7) qJ)) (bV 9))))) (qh0 (eOf (bBl false))) W9)):PwS 2 _)
def M5:PwS 2 (qiF Bk.jz Bk.qw Bk.jG (DSp zI.W false) (PSp (qg 18) false) (DSp zc.W false)):=(J4 (EO (eDr WT (aOf qJ)) 3 [] ⟨rfl⟩ ⟨rfl⟩) (J4 (EO (eO LR (eOf (bO (opC XZ (λi j=>i ^ j.toNat)) (qC 10) (qC 30))) (eDr LY (aOf (qf (qC 9) qJ)))) 4 [] ⟨rfl⟩ ⟨rfl⟩) (J4 (EO (qhZ (WF (eOf (bV 3)) (WF (qiL (WF (eOf (Q9 "joined")) (WF (eOf (bV 3)) (WF (qiL (WF (eOf (Q9 "joined")) (WF (eDr KU (aOf qJ)) (aOf (qf (bV 3) qJ)))) ⟨rfl⟩) (aOf qJ)))) ⟨rfl⟩) (aOf qJ))) ⟨rfl⟩) 5 [false,false,false,true] ⟨rfl⟩ ⟨rfl⟩) (J4 (NM (eOf (ja (qf (Q9 "skew") (qf (bV 4) (qf (qC 1) (qf (bV 4) (qf (bV 4) (qf (qC 0) qJ)))))) ⟨rfl⟩)) 5 [false,false,false,false,true] ⟨rfl⟩ ⟨rfl⟩) (J4 (EO (eOf (bO SQ (bV 5) (RE (qf (ja (qf (Q9 "rests") (qf (bV 4) (qf (qC 2) (qf (bO (opC YO (·*·)) (qC 2) (bV 4)) (qf (qC 1) qJ))))) ⟨rfl⟩) (qf (ja (qf (Q9 "bits") (qf (qC 0) (qf (qC 0) (qf (ja (qf (qC 0) (qf (qC 0) qJ)) ⟨rfl⟩) qJ)))) ⟨rfl⟩) qJ)) ⟨rfl⟩))) 5 [false,false,false,false,true,true] ⟨rfl⟩ ⟨rfl⟩) (J4 (EO (eOf (bO (opC YO (·*·)) (bO (opC XZ (λi j=>i ^ j.toNat)) (qC 2) (qC 60)) (bO (opC XZ (λi j=>i ^ j.toNat)) (qC 2) (qC 39)))) 6 [] ⟨rfl⟩ ⟨rfl⟩) (J4 (EO (eOf (bO SQ (bV 5) (RE (qf (ja (qf (Q9 "table") (qf (bV 4) (qf (ja (qf (ja (qf (qC 0) (qf (bO (opI (·-·)) (bV 4) (qC 1)) qJ)) ⟨rfl⟩) (qf (ja (qf (qC 1) (qf (qC 2) qJ)) ⟨rfl⟩) qJ)) ⟨rfl⟩) qJ))) ⟨rfl⟩) (qf (ja (qf (Q9 "bits") (qf (qC 60) (qf (qC 39) (qf (ja (qf (bO (opC KC (·/·)) (bV 6) (qC 2)) (qf (bO (opI (·-·)) (bV 6) (qC 1)) qJ)) ⟨rfl⟩) qJ)))) ⟨rfl⟩) qJ)) ⟨rfl⟩))) 5 [false,false,false,false,true,true,true] ⟨rfl⟩ ⟨rfl⟩) (J4 (NM (eDr (dSp zI false) (WF (eDr KU (aOf qJ)) (aOf qJ))) 5 [] ⟨rfl⟩ ⟨rfl⟩) (J4 (qcy (iOf (MX (bV 5))) (gN 7) WK [false,false,false,false,false,true] ⟨rfl⟩ ⟨rfl⟩) (J4 (EO (eOf (RE (qf qdl (qf (qC 3) (qf (Q9 "skew") (qf (ja qJ ⟨rfl⟩) (qf (RE qJ ⟨rfl⟩) (qf (ja (qf (Q9 "") qJ) ⟨rfl⟩) (qf (ja (qf qdl (qf (qC 1) qJ)) ⟨rfl⟩) (qf (ja (qf (Q9 "joined") qJ) ⟨rfl⟩) (qf (ja (qf (Q9 "bits") (qf (qC 60) (qf (qC 39) (qf (ja (qf (bV 6) qJ) ⟨rfl⟩) qJ)))) ⟨rfl⟩) qJ))))))))) ⟨rfl⟩)) 8 [false,false,false,false,false,false,true] ⟨rfl⟩ ⟨rfl⟩) (J4 (NM (eDr (dSp zI false) (aOf (qf (ja (qf (Q9 "skew") (qf (qC 1) (qf (qC 1) (qf (qC 1) (qf (qC 0) qJ))))) ⟨rfl⟩) qJ))) 8 [] ⟨rfl⟩ ⟨rfl⟩) (qcy (iS (eO LR (eDr (dSp zc false) (aOf (qf (bV 3) qJ))) (eOf (bV 8)))) (gN 7) WW [false,false,false,true,false,false,false,false,true] ⟨rfl⟩ ⟨rfl⟩))))))))))))
def qfe (h:∀ k:Nat,k<=60->M5.w [.un,.sh (.int k),.un,.un,.un,.un,.un,.un,.un,.un] 0 okW):Rd DH 1 (K01.qcF Bk.ZF Bk.jz Bk.qw Bk.jG (DSp zI.W false) (PSp (qg 18) false) (DSp zc.W false)) LS:=qac M5 LS 8 7 ⟨by decide,by decide⟩ rfl h
end K01
namespace K01
open PySem L2 L3 Pu Pv
open Bk (SD SDs qM QF VX YE qQ JD)
def Th (L B:Nat):Nat->PyData->Prop
 |_,.none=>True
 |_,.bool _=>True
 |_,.int i=>-(B:Int)<=i/\i<=B
 |_,.str s=>s.cps.size<=20/\(s.cps.toList.all λc=>decide (c<16 ^ 8))=true
 |n+1,.list ds=>ds.length<=L/\∀ d∈ds,Th L B n d
 |n+1,.tuple ds=>ds.length<=L/\∀ d∈ds,Th L B n d
 |_,_=>False
def qhx {L B:Nat} (n:Nat):Th L B n .none:=by cases n<;>trivial
def qhk {L B:Nat} (n:Nat) {b:Bool}:Th L B n (.bool b):=by cases n<;>trivial
def z6 {L B:Nat} (n:Nat) {i:Int}:Th L B n (.int i)=(-(B:Int)<=i/\i<=B):=by cases n<;>rfl
def TM {L B:Nat} (n:Nat) {s:Str}:Th L B n (.str s)=(s.cps.size<=20/\(s.cps.toList.all λc=>decide (c<16 ^ 8))=true):=by cases n<;>rfl
def UH {L B n:Nat} {ds:List PyData} (hl:ds.length<=L) (h:∀ d∈ds,Th L B n d):Th L B (n+1) (.tuple ds):=⟨hl,h⟩
def qiM {L B n:Nat} {ds:List PyData} (hl:ds.length<=L) (h:∀ d∈ds,Th L B n d):Th L B (n+1) (.list ds):=⟨hl,h⟩
def ji {L B L' B':Nat} (hL:L<=L') (hB:B<=B'):∀ {n:Nat} (m:Nat) {d:PyData},Th L B n d->n<=m->Th L' B' m d
 |n,m,.none,_,_=>qhx m
 |n,m,.bool _,_,_=>qhk m
 |n,m,.int i,h,_=>by rw [z6] at h ⊢;omega
 |n,m,.str s,h,_=>by rw [TM] at h ⊢;exact h
 |n+1,m+1,.list ds,⟨h1,h2⟩,e=>⟨by omega,λd hd=>ji hL hB m (h2 d hd) (by omega)⟩
 |n+1,m+1,.tuple ds,⟨h1,h2⟩,e=>⟨by omega,λd hd=>ji hL hB m (h2 d hd) (by omega)⟩
 |0,_,.list ds,h,_=>h.elim
 |0,_,.tuple ds,h,_=>h.elim
 |n+1,0,.list ds,h,e=>by omega
 |n+1,0,.tuple ds,h,e=>by omega
 |0,_,.dict _,h,_=>h.elim
 |n+1,_,.dict _,h,_=>h.elim
def bd (L:Nat):Nat->Nat
 |0=>20
 |n+1=>L*(bd L n+1)+20
def isN:PyData->Bool
 |.int _=>true
 |_=>false
def geN (m:Int):PyData->Bool
 |.int i=>decide (m<=i)
 |_=>false
def a1:ZO "NoneType" "int" = false:=rfl
def a2:ZO "bool" "int" = true:=rfl
def a3:ZO "int" "int" = true:=rfl
def a4:ZO "str" "int" = false:=rfl
def a5:ZO "list" "int" = false:=rfl
def a6:ZO "tuple" "int" = false:=rfl
def a7:ZO "bool" "bool" = true:=rfl
def a8:ZO "int" "bool" = false:=rfl
def c1:ZO "NoneType" "tuple" = false:=rfl
def c2:ZO "bool" "tuple" = false:=rfl
def cq3:ZO "int" "tuple" = false:=rfl
def c4:ZO "str" "tuple" = false:=rfl
def c5:ZO "list" "tuple" = false:=rfl
def c6:ZO "tuple" "tuple" = true:=rfl
def d1:ZO "NoneType" "str" = false:=rfl
def d2:ZO "bool" "str" = false:=rfl
def qhN {L B n:Nat} {d:PyData} (h:Th L B n d):zC [d]=some (.bool (isN d)):=by
 rw [XV];cases d with
 |dict _=>cases n<;>exact h.elim
 |_=>try simp only [Pu.pwA,ZY,isN,a1,a2,a3,a4,a5,a6,a7,a8,Bool.not_true,Bool.not_false]
def qgR {L B n:Nat} {d:PyData} {e:Int} (h:Th L B n d):qD [d,.int e]=some (.bool (geN e d)):=by
 have k:=qhN h;rw [E9];cases d<;>try simp only [Pu.pwA,jX,k,isN,geN]
def qeT {h:PyData->Option (Option PyData)} {k:PyData->PyData} {ds:List PyData} (hh:∀ d∈ds,h d=some (some (k d))):lcP h ds=some (ds.map k):=by
 have:=MI (g:=id) (k:=k) (xs:=ds) hh;rw [List.map_id] at this;exact this
def CN {L B n:Nat} {ds:List PyData} {e:Int} (h:∀ d∈ds,Th L B n d) (hl:ds.length<=1000):qk [.tuple ds,.int e]=some (.bool (ds.all (geN e))):=by
 rw [UM]
 try simp only [Pu.pwA,jv]
 rw [SI (ds:=ds) (fs:=(ds.map (geN e)).map PyData.bool)]
 ·try simp only [Pu.pwA,DI]
  rw [List.all_map];rfl
 ·try simp only [Pu.pwA]
 ·rw [map_map];refine qeT λd hd=>?_
  try simp only [Pu.pwA,N5,qgR (h d hd),Function.comp_def]
 ·simp;omega
end K01
namespace K01
open PySem L2 L3 Pu Pv
def qee {cf:Rho->Option Bool} {bf:Rho->Option Ot} (hc:∀ a b:Int,cf [.sh (.int a),.sh (.int b)]=some (decide (0<b))) (hb:∀ a b:Int,0<b->bf [.sh (.int a),.sh (.int b)]=some (.nx [.sh (.int b),.sh (.int (a%b))])):∀ (b a N:Nat),b<N->whP cf bf N [.sh (.int (a:Int)),.sh (.int (b:Int))]=some (.nx [.sh (.int ((Nat.gcd a b:Nat):Int)),.sh (.int 0)]):=by
 intro b;induction b using Nat.strongRecOn with
 |_ b ih=>
  intro a N hN;obtain ⟨M,rfl⟩:∃ M,N=M+1:=⟨N-1,by omega⟩
  simp only [whP,hc,Option.bind_some];by_cases z:b=0
  ·subst z;simp
  ·have p:(0:Int)<(b:Int):=by omega
   have lt:=Nat.mod_lt a (show 0<b by omega);rw [decide_eq_true p,if_pos rfl,hb _ _ p];simp only [Option.bind_some];have:=ih (a%b) lt b M (by omega);rw [show ((a%b:Nat):Int)=(a:Int)%(b:Int) from Int.natCast_emod a b] at this;rw [this,Nat.gcd_comm b (a%b),← Nat.gcd_rec,Nat.gcd_comm]
def qgi {a b:Nat} (h:b<1000000000):qF [.int (a:Int),.int (b:Int)]=some (.bool (decide (Nat.gcd a b=1))):=by
 rw [YA]
 try simp only [Pu.pwA,zz]
 rw [qee (λa b=>by try simp only [Pu.pwA]) (λa b hb=>by try simp (disch:=omega) only [Pu.pwA,qhg]) b a _ h];have e:decide (((Nat.gcd a b:Nat):Int)=1)=decide (Nat.gcd a b=1):=by rw [decide_eq_decide];omega
 try simp only [Pu.pwA,e]
def skW (r:List PyData):Bool:=match r with
 |[a,b,c,x,y]=>(geN 1 a&&(geN 1 b&&geN 1 c))&&(geN 0 x&&geN 0 y)
 |_=>false
def qdI {L B n:Nat} {k:PyData} {r:List PyData} (h:∀ d∈r,Th L B n d):jH [.tuple (k::r)]=some (.bool (skW r)):=by
 rw [TF]
 match r,h with
 |[a,b,c,x,y],h=>
  have e:(((0+1+1+1+1+1+1:Nat):Int)=6):=by decide
  have s1:slD (.tuple [k,a,b,c,x,y]) (some 1) (some 4)=some (.tuple [a,b,c]):=JA (by simp [HT.sIx]);have s2:slD (.tuple [k,a,b,c,x,y]) (some 4) none=some (.tuple [x,y]):=JA (by simp [HT.sIx]);have f1:=CN (e:=1) (ds:=[a,b,c]) (λd hd=>h d (by simp at hd ⊢;rcases hd with rfl|rfl|rfl<;>simp)) (by simp);have f2:=CN (e:=0) (ds:=[x,y]) (λd hd=>h d (by simp at hd ⊢;rcases hd with rfl|rfl<;>simp)) (by simp)
  try simp only [Pu.pwA,zW,skW,s1,s2,f1,f2,e,List.all_cons,List.all_nil,Bool.and_true,decide_true]
  cases (geN 1 a&&(geN 1 b&&geN 1 c))<;>try simp only [Pu.pwA,Bool.true_and,Bool.false_and]
 |[],_=>try simp only [Pu.pwA,zW,skW];rfl
 |[a],_=>try simp only [Pu.pwA,zW,skW];rfl
 |[a,b],_=>try simp only [Pu.pwA,zW,skW];rfl
 |[a,b,c],_=>try simp only [Pu.pwA,zW,skW];rfl
 |[a,b,c,x],_=>try simp only [Pu.pwA,zW,skW];rfl
 |a::b::c::x::y::z::r,_=>
  have e:¬ (((r.length+1+1+1+1+1+1+1:Nat):Int)=6):=by omega
  try simp only [Pu.pwA,zW,skW,length_cons,e,decide_false]
def rsW (r:List PyData):Bool:=match r with
 |[.int a,.int b,.int c,.int p]=>(decide (1<=a)&&(decide (1<=b)&&(decide (1<=c)&&decide (1<=p))))&&(decide (Nat.gcd c.toNat p.toNat=1)&&decide (a*b<=c*p))
 |_=>false
def qiH {L B n:Nat} {k:PyData} {r:List PyData} (h:∀ d∈r,Th L B n d) (hB:B<=900000):zJ [.tuple (k::r)]=some (.bool (rsW r)):=by
 rw [U1]
 match r,h with
 |[a,b,c,p],h=>
  have e:(((0+1+1+1+1+1:Nat):Int)=5):=by decide
  have s1:slD (.tuple [k,a,b,c,p]) (some 1) none=some (.tuple [a,b,c,p]):=JA (by simp [HT.sIx]);have f1:=CN (e:=1) (ds:=[a,b,c,p]) h (by simp);by_cases al:[a,b,c,p].all (geN 1)=true
  ·have gi:∀ d,geN 1 d=true->∃ i:Int,d=.int i/\1<=i:=λd hd=>by
    cases d<;>simp [geN] at hd;exact ⟨_,rfl,hd⟩
   have al':=al;simp only [List.all_cons,List.all_nil,Bool.and_true,Bool.and_eq_true] at al';obtain ⟨i1,rfl,g1⟩:=gi a al'.1;obtain ⟨i2,rfl,g2⟩:=gi b al'.2.1;obtain ⟨i3,rfl,g3⟩:=gi c al'.2.2.1;obtain ⟨i4,rfl,g4⟩:=gi p al'.2.2.2;have t1:=h (.int i1) (by simp);have t2:=h (.int i2) (by simp);have t3:=h (.int i3) (by simp);have t4:=h (.int i4) (by simp);rw [z6] at t1 t2 t3 t4;have sd:=qgi (a:=i3.toNat) (b:=i4.toNat) (by omega);rw [show ((i3.toNat:Nat):Int)=i3 by omega,show ((i4.toNat:Nat):Int)=i4 by omega] at sd;rw [al] at f1
   try simp (disch:=omega) only [Pu.pwA,zt,rsW,s1,f1,e,sd,g1,g2,g3,g4,CU,decide_true,Bool.not_true,Bool.true_and]
   cases decide (Nat.gcd i3.toNat i4.toNat=1)<;>try simp only [Pu.pwA,Bool.true_and,Bool.false_and]
  ·have al2:[a,b,c,p].all (geN 1)=false:=by simpa using al
   rw [al2] at f1;have z:rsW [a,b,c,p]=false:=by
    cases a<;>cases b<;>cases c<;>cases p<;>first|rfl|(simp only [List.all_cons,List.all_nil,geN,Bool.and_true] at al2;simp only [rsW,al2,Bool.false_and])
   try simp only [Pu.pwA,zt,z,s1,f1,e,decide_true,Bool.not_true,Bool.not_false]
 |[],_=>try simp only [Pu.pwA,zt,rsW];rfl
 |[a],_=>try simp only [Pu.pwA,zt,rsW];rfl
 |[a,b],_=>try simp only [Pu.pwA,zt,rsW];rfl
 |[a,b,c],_=>try simp only [Pu.pwA,zt,rsW];rfl
 |a::b::c::x::y::r,_=>
  have e:¬ (((r.length+1+1+1+1+1+1:Nat):Int)=5):=by omega
  try simp only [Pu.pwA,zt,rsW,length_cons,e,decide_false,Bool.not_false]
def C5 {h:PyData->Option (Option PyData)} {k:PyData->PyData} {ds:List PyData} (hh:∀ d∈ds,h d=some (some (k d))):lcP h ds=some (ds.map k):=by
 have:=MI (g:=id) (k:=k) (xs:=ds) hh;rw [List.map_id] at this;exact this
def ltN (m:Int):PyData->Bool
 |.int i=>decide (i<m)
 |_=>false
def qfx {m:Int} {d:PyData} (h:geN m d=true):∃ i:Int,d=.int i/\m<=i:=by
 cases d<;>simp [geN] at h;exact ⟨_,rfl,h⟩
def W2 (wide banks:Int):PyData->Bool
 |.tuple ds=>decide ((ds.length:Int)=wide)&&(ds.all (geN 0)&&ds.all (ltN banks))
 |_=>false
def qjx {L B n:Nat} {d:PyData} {wide banks:Int} (h:Th L B (n+1) d) (hL:L<=1000):zk [d,.int wide,.int banks]=some (.bool (W2 wide banks d)):=by
 rw [DB];cases d with
 |dict _=>exact h.elim
 |tuple ds=>
  obtain ⟨hl,ha⟩:=h;have f:=CN (e:=0) ha (by omega);by_cases e:(ds.length:Int)=wide
  ·by_cases g:ds.all (geN 0)=true
   ·rw [g] at f
    try simp only [Pu.pwA,zv,W2,c6,e,f,g,decide_true,Bool.not_true,Bool.true_and]
    rw [SI (ds:=ds) (fs:=(ds.map (ltN banks)).map PyData.bool)]
    ·try simp only [Pu.pwA,DI,List.all_map]
     rfl
    ·try simp only [Pu.pwA]
    ·rw [map_map];refine C5 λd hd=>?_;obtain ⟨i,rfl,_⟩:=qfx (List.all_eq_true.mp g d hd)
     try simp only [Pu.pwA,N5,ltN,Function.comp_def]
    ·simp;omega
   ·have g':ds.all (geN 0)=false:=by simpa using g
    rw [g'] at f
    try simp only [Pu.pwA,zv,W2,c6,e,f,g',decide_true,Bool.not_true,Bool.not_false,Bool.true_and,Bool.false_and]
  ·try simp only [Pu.pwA,zv,W2,c6,e,decide_false,Bool.not_true,Bool.not_false,Bool.false_and]
 |_=>try simp only [Pu.pwA,zv,W2,c1,c2,cq3,c4,c5,Bool.not_false]
def tbW (r:List PyData):Bool:=match r with
 |[.int b,.tuple (.tuple (x::xs)::rs)]=>decide (1<=b)&&(PyData.tuple (x::xs)::rs).all (W2 ((x::xs).length:Int) b)
 |_=>false
def qdw {L B n:Nat} {k:PyData} {r:List PyData} (h:∀ d∈r,Th L B (n+2) d) (hL:L<=1000):z7 [.tuple (k::r)]=some (.bool (tbW r)):=by
 rw [RN]
 match r,h with
 |[b,cs],h=>
  have e:(((0+1+1+1:Nat):Int)=3):=by decide
  have s1:slD (.tuple [k,b,cs]) (some 1) none=some (.tuple [b,cs]):=JA (by simp [HT.sIx]);have f1:=qgR (e:=1) (h b (by simp));by_cases g:geN 1 b=true
  ·obtain ⟨i,rfl,gi⟩:=qfx g;rw [g] at f1;have hc:=h cs (by simp);cases cs with
   |dict _=>exact hc.elim
   |tuple rs=>
    obtain ⟨hl,ha⟩:=hc;cases rs with
    |nil=>try simp only [Pu.pwA,zi,tbW,s1,f1,e,c6,decide_true,Bool.not_true,length_nil,Int.natCast_zero]
    |cons d rs=>
     have l0:¬ (((rs.length+1:Nat):Int)=0):=by omega
     have hd:=ha d (by simp);cases d with
     |dict _=>exact hd.elim
     |tuple xs=>
      cases xs with
      |nil=>try simp only [Pu.pwA,zi,tbW,s1,f1,e,c6,l0,decide_true,decide_false,Bool.not_true,length_cons,length_nil,Int.natCast_zero]
      |cons x xs=>
       have l1:¬ (((xs.length+1:Nat):Int)=0):=by omega
       try simp only [Pu.pwA,zi,tbW,s1,f1,e,c6,l0,l1,gi,decide_true,decide_false,Bool.not_true,length_cons,Bool.true_and]
       rw [SI (ds:=PyData.tuple (x::xs)::rs) (fs:=((PyData.tuple (x::xs)::rs).map (W2 ((xs.length+1:Nat):Int) i)).map PyData.bool)]
       ·try simp only [Pu.pwA,DI]
        rw [List.all_map];rfl
       ·try simp only [Pu.pwA]
       ·rw [map_map];refine C5 λd hd=>?_
        try simp only [Pu.pwA,N5,qjx (ha d hd) hL,length_cons,Function.comp_def]
       ·simp at hl ⊢;omega
     |_=>try simp only [Pu.pwA,zi,tbW,s1,f1,e,c6,c1,c2,cq3,c4,c5,l0,decide_true,decide_false,Bool.not_true,Bool.not_false,length_cons]
   |_=>try simp only [Pu.pwA,zi,tbW,s1,f1,e,c1,c2,cq3,c4,c5,decide_true,Bool.not_true,Bool.not_false]
  ·have g':geN 1 b=false:=by simpa using g
   rw [g'] at f1;have z:tbW [b,cs]=false:=by
    unfold tbW;split
    ·rename_i b' x xs rs e';cases e';simp only [geN] at g';rw [g',Bool.false_and]
    ·rfl
   try simp only [Pu.pwA,zi,z,f1,e,decide_true,Bool.not_true,Bool.not_false]
 |[],_=>try simp only [Pu.pwA,zi,tbW];rfl
 |[a],_=>try simp only [Pu.pwA,zi,tbW];rfl
 |a::b::c::r,_=>
  have e:¬ (((r.length+1+1+1+1:Nat):Int)=3):=by omega
  try simp only [Pu.pwA,zi,tbW,length_cons,e,decide_false,Bool.not_false]
def biN (w:Int):PyData->Bool
 |.int i=>decide (((Builtin.Int.intBits i:Nat):Int)<=w)
 |_=>false
def btW (r:List PyData):Bool:=match r with
 |[.int a,.int b,.tuple ms]=>(decide (0<=a)&&decide (0<=b))&&(ms.all (geN 0)&&ms.all (biN (a+b)))
 |_=>false
def qfi {L B n:Nat} {k:PyData} {r:List PyData} (h:∀ d∈r,Th L B (n+1) d) (hL:L<=1000):jB [.tuple (k::r)]=some (.bool (btW r)):=by
 rw [TR]
 match r,h with
 |[a,b,c],h=>
  have e:(((0+1+1+1+1:Nat):Int)=4):=by decide
  have s1:slD (.tuple [k,a,b,c]) (some 1) (some 3)=some (.tuple [a,b]):=JA (by simp [HT.sIx]);have s2:slD (.tuple [k,a,b,c]) (some 1) none=some (.tuple [a,b,c]):=JA (by simp [HT.sIx]);have f1:=CN (e:=0) (ds:=[a,b]) (λd hd=>h d (by simp at hd ⊢;rcases hd with rfl|rfl<;>simp)) (by simp);by_cases al:[a,b].all (geN 0)=true
  ·have al':=al;simp only [List.all_cons,List.all_nil,Bool.and_true,Bool.and_eq_true] at al';obtain ⟨i1,rfl,g1⟩:=qfx al'.1;obtain ⟨i2,rfl,g2⟩:=qfx al'.2;rw [al] at f1;have hc:=h c (by simp);cases c with
   |dict _=>exact hc.elim
   |tuple ms=>
    obtain ⟨hl,ha⟩:=hc;have f2:=CN (e:=0) ha (by omega);by_cases g:ms.all (geN 0)=true
    ·rw [g] at f2
     try simp only [Pu.pwA,zB,btW,s1,s2,f1,f2,e,g,g1,g2,c6,decide_true,Bool.not_true,Bool.true_and]
     rw [SI (ds:=ms) (fs:=(ms.map (biN (i1+i2))).map PyData.bool)]
     ·try simp only [Pu.pwA,DI,List.all_map]
      rfl
     ·try simp only [Pu.pwA]
     ·rw [map_map];refine C5 λd hd=>?_;obtain ⟨i,rfl,_⟩:=qfx (List.all_eq_true.mp g d hd)
      try simp only [Pu.pwA,N5,biN,Function.comp_def]
     ·simp;omega
    ·have g':ms.all (geN 0)=false:=by simpa using g
     rw [g'] at f2
     try simp only [Pu.pwA,zB,btW,s1,s2,f1,f2,e,g',g1,g2,c6,decide_true,Bool.not_true,Bool.not_false,Bool.true_and,Bool.false_and]
   |_=>try simp only [Pu.pwA,zB,btW,s1,s2,f1,e,c1,c2,cq3,c4,c5,decide_true,Bool.not_true,Bool.not_false]
  ·have al2:[a,b].all (geN 0)=false:=by simpa using al
   rw [al2] at f1;have z:btW [a,b,c]=false:=by
    unfold btW;split
    ·rename_i a' b' ms e';cases e';simp only [List.all_cons,List.all_nil,geN,Bool.and_true] at al2;rw [al2,Bool.false_and]
    ·rfl
   try simp only [Pu.pwA,zB,z,s1,f1,e,decide_true,Bool.not_true,Bool.not_false]
 |[],_=>try simp only [Pu.pwA,zB,btW];rfl
 |[a],_=>try simp only [Pu.pwA,zB,btW];rfl
 |[a,b],_=>try simp only [Pu.pwA,zB,btW];rfl
 |a::b::c::x::r,_=>
  have e:¬ (((r.length+1+1+1+1+1:Nat):Int)=4):=by omega
  try simp only [Pu.pwA,zB,btW,length_cons,e,decide_false,Bool.not_false]
def jnW (f:PyData->Bool) (r:List PyData):Bool:=match r with
 |[a,b]=>f a&&f b
 |_=>false
def isD:Nat->PyData->Bool
 |0,_=>false
 |j+1,.tuple (.str s::r)=>if s=Str.ofString "skew" then skW r else if s=Str.ofString "rests" then rsW r else if s=Str.ofString "bits" then btW r else if s=Str.ofString "table" then tbW r else if s=Str.ofString "joined" then jnW (isD j) r else false
 |_+1,_=>false
def qf8 {j:Nat} {k:PyData} {r:List PyData} {G:List PyData->Option PyData} (g:∀ d∈r,G [d]=some (.bool (isD j d))):jo G [.tuple (k::r)]=some (.bool (jnW (isD j) r)):=by
 rw [XJ]
 match r,g with
 |[a,b],g=>
  have e:(((0+1+1+1:Nat):Int)=3):=by decide
  have e1:=g a (by simp);have e2:=g b (by simp)
  try simp only [Pu.pwA,zY,jnW,e,e1,e2,decide_true]
  cases isD j a<;>try simp only [Pu.pwA,Bool.true_and,Bool.false_and]
 |[],_=>try simp only [Pu.pwA,zY,jnW];rfl
 |[a],_=>try simp only [Pu.pwA,zY,jnW];rfl
 |a::b::c::r,_=>
  have e:¬ (((r.length+1+1+1+1:Nat):Int)=3):=by omega
  try simp only [Pu.pwA,zY,jnW,length_cons,e,decide_false]
def qkA {s:Str}:NE .none (.str s)=some (.bool false):=id rfl
def qkP {b:Bool} {s:Str}:NE (.bool b) (.str s)=some (.bool false):=id rfl
def qkl {i:Int} {s:Str}:NE (.int i) (.str s)=some (.bool false):=id rfl
def TY {x s:Str}:NE (.str x) (.str s)=some (.bool (decide (x=s))):=by
 rw [qjy,eqS];rfl
def EX {L B:Nat} (hL:L<=1000) (hB:B<=900000):∀ {j n:Nat} {d:PyData},Th L B n d->n<j->qg j [d]=some (.bool (isD j d)):=by
 intro j;induction j with
 |zero=>intro n d _ h;omega
 |succ j ih=>
  intro n d h hn;rw [jV];cases d with
  |dict _=>cases n<;>exact h.elim
  |tuple ds=>
   cases n with
   |zero=>exact h.elim
   |succ n=>
   obtain ⟨hl,ha⟩:=h;cases ds with
   |nil=>try simp only [Pu.pwA,qv,isD,c6,length_nil,Int.natCast_zero,decide_true,Bool.not_true]
   |cons k r=>
    have l0:¬ (((r.length+1:Nat):Int)=0):=by omega
    have hk:=ha k (by simp);have hr:∀ d∈r,Th L B n d:=λd hd=>ha d (by simp [hd]);have hr2:∀ m,n<=m->∀ d∈r,Th L B m d:=λm hm d hd=>ji (Nat.le_refl _) (Nat.le_refl _) m (hr d hd) hm;cases k with
    |dict _=>cases n<;>exact hk.elim
    |str s=>
     have f1:=qdI (k:=.str s) hr;have f2:=qiH (k:=.str s) hr hB;have f3:=qfi (k:=.str s) (n:=n) (hr2 _ (by omega)) hL;have f4:=qdw (k:=.str s) (n:=n) (hr2 _ (by omega)) hL;have f5:=qf8 (k:=.str s) (G:=qg j) (j:=j) (r:=r) (λd hd=>ih (hr d hd) (by omega));by_cases b1:s=Str.ofString "skew"
     ·subst b1
      try simp only [Pu.pwA,qv,isD,c6,l0,jt,TY,f1,if_true,length_cons,decide_true,decide_false,Bool.not_true]
     by_cases b2:s=Str.ofString "rests"
     ·subst b2
      try simp only [Pu.pwA,qv,isD,c6,l0,jt,TY,f2,b1,if_true,if_false,length_cons,decide_true,decide_false,Bool.not_true]
     by_cases b3:s=Str.ofString "bits"
     ·subst b3
      try simp only [Pu.pwA,qv,isD,c6,l0,jt,TY,f3,b1,b2,if_true,if_false,length_cons,decide_true,decide_false,Bool.not_true]
     by_cases b4:s=Str.ofString "table"
     ·subst b4
      try simp only [Pu.pwA,qv,isD,c6,l0,jt,TY,f4,b1,b2,b3,if_true,if_false,length_cons,decide_true,decide_false,Bool.not_true]
     by_cases b5:s=Str.ofString "joined"
     ·subst b5
      try simp only [Pu.pwA,qv,isD,c6,l0,jt,TY,f5,b1,b2,b3,b4,if_true,if_false,length_cons,decide_true,decide_false,Bool.not_true]
     ·try simp only [Pu.pwA,qv,isD,c6,l0,jt,TY,b1,b2,b3,b4,b5,if_true,if_false,length_cons,decide_true,decide_false,Bool.not_true]
    |_=>try simp only [Pu.pwA,qv,isD,c6,l0,jt,qkA,qkP,qkl,qhT,qiN,length_cons,decide_true,decide_false,Bool.not_true]
  |_=>try simp only [Pu.pwA,qv,isD,c1,c2,cq3,c4,c5,Bool.not_false]
open Bk (Dl)
def al0 {P:PyData->Prop}:∀ d∈([]:List PyData),P d:=λ_ h=>nomatch h
def alc {P:PyData->Prop} {x:PyData} {r:List PyData} (h:P x) (t:∀ d∈r,P d):∀ d∈x::r,P d:=λd hd=>by
 rcases mem_cons.mp hd with rfl|hd
 ·exact h
 ·exact t d hd
def qbP {m:Int} {k:Nat} (h0:0<=m) (h1:m<2 ^ k):((Builtin.Int.intBits m:Nat):Int)<=k:=by
 unfold Builtin.Int.intBits;by_cases z:m=0
 ·subst z;simp
 ·have:(m==0)=false:=by simp [z]
  rw [this,if_neg Bool.false_ne_true];have e:((2 ^ k:Nat):Int)=2 ^ k:=by simp
  have h2:m.natAbs<2 ^ k:=by omega
  have:=(Nat.log2_lt (by omega)).mpr h2;omega
def U5:∀ (d:Dl),d.Ok->∀ j,d.dep<j->isD j (dlD d)=true
 |.skew r c b x y,ok,j+1,_=>by
  simp only [Dl.Ok] at ok;simp only [isD,dlD,if_true,skW,geN,Bool.and_eq_true,decide_eq_true_eq];omega
 |.rests r c b p,ok,j+1,_=>by
  obtain ⟨h1,h2,h3,h4,h5,h6,h7,h8,h9,h10⟩:=ok;have g:Nat.gcd b.toNat p.toNat=1:=by
   rw [← h9];unfold Int.gcd;rw [show b.natAbs=b.toNat by omega,show p.natAbs=p.toNat by omega]
  simp only [isD,dlD,L3.WR,if_true,if_false,rsW,g,h10,h1,h3,h5,h7,decide_true,Bool.and_self]
 |.bits h l ms,ok,j+1,_=>by
  obtain ⟨h1,h2,h3,h4⟩:=ok;have n1:¬ (Str.ofString "bits" = Str.ofString "skew"):=by decide
  have n2:¬ (Str.ofString "bits" = Str.ofString "rests"):=by decide
  have a1:(ms.map PyData.int).all (geN 0)=true:=by
   rw [List.all_map,List.all_eq_true];intro m hm;simp only [Function.comp_def,geN,decide_eq_true_eq];exact (h4 m hm).1
  have a2:(ms.map PyData.int).all (biN ((h:Int)+(l:Int)))=true:=by
   rw [List.all_map,List.all_eq_true];intro m hm;simp only [Function.comp_def,biN,decide_eq_true_eq];have:=qbP (k:=h+l) (h4 m hm).1 (h4 m hm).2;omega
  have z1:(0:Int)<=(h:Int):=by omega
  have z2:(0:Int)<=(l:Int):=by omega
  simp only [isD,dlD,n1,n2,if_true,if_false,btW,a1,a2,z1,z2,decide_true,Bool.and_self]
 |.table b cells,ok,j+1,_=>by
  obtain ⟨h1,h2,h3,h4,c,c1,c2,hr⟩:=ok;have n1:¬ (Str.ofString "table" = Str.ofString "skew"):=by decide
  have n2:¬ (Str.ofString "table" = Str.ofString "rests"):=by decide
  have n3:¬ (Str.ofString "table" = Str.ofString "bits"):=by decide
  have rw1:∀ row∈cells,W2 (c:Int) b (SU row)=true:=λrow hrow=>by
   obtain ⟨l1,hx⟩:=hr row hrow;simp only [W2,SU,length_map,l1,decide_true,Bool.true_and,Bool.and_eq_true,List.all_map,List.all_eq_true];exact ⟨λx hx'=>by simp only [Function.comp_def,geN,decide_eq_true_eq];exact (hx x hx').1,λx hx'=>by simp only [Function.comp_def,ltN,decide_eq_true_eq];exact (hx x hx').2⟩
  cases cells with
  |nil=>simp at h3
  |cons row rows=>
   obtain ⟨l1,hx⟩:=hr row (by simp);cases row with
   |nil=>simp at l1;omega
   |cons x xs=>
    have al:((SU (x::xs)::rows.map SU).all (W2 (c:Int) b))=true:=by
     rw [List.all_eq_true];intro d hd;rcases mem_cons.mp hd with rfl|hd
     ·exact rw1 _ (by simp)
     ·obtain ⟨r,hr',rfl⟩:=mem_map.mp hd;exact rw1 r (by simp [hr'])
    have lc:(((xs.length+1:Nat):Int))=(c:Int):=by simp at l1;omega
    simp only [isD,dlD,n1,n2,n3,if_true,if_false,map_cons];show tbW [.int b,.tuple (.tuple (.int x::xs.map PyData.int)::rows.map SU)]=true;simp only [tbW,length_cons,length_map,lc,h1,decide_true,Bool.true_and];exact al
 |.joined d e,ok,j+1,hj=>by
  obtain ⟨o1,o2,_⟩:=ok;simp only [Dl.dep] at hj;have n1:¬ (Str.ofString "joined" = Str.ofString "skew"):=by decide
  have n2:¬ (Str.ofString "joined" = Str.ofString "rests"):=by decide
  have n3:¬ (Str.ofString "joined" = Str.ofString "bits"):=by decide
  have n4:¬ (Str.ofString "joined" = Str.ofString "table"):=by decide
  simp only [isD,dlD,n1,n2,n3,n4,if_true,if_false,jnW,U5 d o1 j (by omega),U5 e o2 j (by omega),Bool.and_self]
 |_,_,0,h=>absurd h (Nat.not_lt_zero _)
def DC:∀ (d:Dl),d.Ok->Th 60 100000 (d.dep+3) (dlD d)
 |.skew r c b x y,ok=>by
  simp only [Dl.Ok] at ok;refine ji (n:=1) (Nat.le_refl _) (Nat.le_refl _) _ (UH (by simp) ?_) (by omega);refine alc (by rw [TM];exact ⟨by decide,by decide⟩) (alc ?_ (alc ?_ (alc ?_ (alc ?_ (alc ?_ al0)))))<;>(rw [z6];omega)
 |.rests r c b p,ok=>by
  simp only [Dl.Ok] at ok;refine ji (n:=1) (Nat.le_refl _) (Nat.le_refl _) _ (UH (by simp) ?_) (by omega);refine alc (by rw [TM];exact ⟨by decide,by decide⟩) (alc ?_ (alc ?_ (alc ?_ (alc ?_ al0))))<;>(rw [z6];omega)
 |.bits h l ms,ok=>by
  obtain ⟨h1,h2,h3,h4⟩:=ok;have pw:(2:Int) ^ (h+l)<=256:=by
   have:2 ^ (h+l)<=2 ^ 8:=Nat.pow_le_pow_right (by omega) (by omega);have e:((2 ^ (h+l):Nat):Int)=2 ^ (h+l):=by simp
   omega
  refine ji (n:=2) (Nat.le_refl _) (Nat.le_refl _) _ (UH (by simp) ?_) (by omega);refine alc (by rw [TM];exact ⟨by decide,by decide⟩) (alc (by rw [z6];omega) (alc (by rw [z6];omega) (alc (UH (by simp;omega) λd hd=>?_) al0)));obtain ⟨m,hm,rfl⟩:=mem_map.mp hd;have:=h4 m hm;rw [z6];omega
 |.table b cells,ok=>by
  obtain ⟨h1,h2,h3,h4,c,c1,c2,hr⟩:=ok;refine ji (n:=3) (Nat.le_refl _) (Nat.le_refl _) _ (UH (by simp) ?_) (by omega);refine alc (by rw [TM];exact ⟨by decide,by decide⟩) (alc (by rw [z6];omega) (alc (UH (by simp;omega) λd hd=>?_) al0));obtain ⟨row,hrow,rfl⟩:=mem_map.mp hd;obtain ⟨l1,hx⟩:=hr row hrow;refine UH (by simp;omega) λd hd=>?_;obtain ⟨x,hx',rfl⟩:=mem_map.mp hd;have:=hx x hx';rw [z6];omega
 |.joined d e,ok=>by
  obtain ⟨o1,o2,_⟩:=ok;have t1:=DC d o1;have t2:=DC e o2;simp only [Dl.dep];refine ji (n:=max d.dep e.dep+3+1) (Nat.le_refl _) (Nat.le_refl _) _ (UH (by simp) ?_) (by omega);exact alc (by rw [TM];exact ⟨by decide,by decide⟩) (alc (ji (Nat.le_refl _) (Nat.le_refl _) _ t1 (by omega)) (alc (ji (Nat.le_refl _) (Nat.le_refl _) _ t2 (by omega)) al0))
def qbX {m:List Bool} {i:Nat} {d:PyData} {ρ:Rho} (h:dm m ρ=ρ):CL m false i d ρ=ρ.set i (.sh d):=by
 unfold CL;rw [h];split<;>rfl
def qjR (lo:Int) (n:Nat):(qbt lo n).length=n:=by simp [qbt]
def qaG:PyData:=.tuple [.str "skew",.int 1,.int 1,.int 1,.int 0,.int 0]
def qbN {L B n:Nat} (hL:6<=L) (hB:1<=B):Th L B (n+1) qaG:=by
 refine UH (by simpa using hL) (alc (by rw [TM];exact ⟨by decide,by decide⟩) (alc ?_ (alc ?_ (alc ?_ (alc ?_ (alc ?_ al0))))))<;>(rw [z6];omega)
def XU (j:Nat):isD (j+1) qaG=true:=by
 simp only [isD,qaG,if_true,skW,geN];decide
def U3 {j:Nat} {a b:PyData}:isD (j+1) (.tuple [.str "joined",a,b])=(isD j a&&isD j b):=by
 have n1:¬ (Str.ofString "joined" = Str.ofString "skew"):=by decide
 have n2:¬ (Str.ofString "joined" = Str.ofString "rests"):=by decide
 have n3:¬ (Str.ofString "joined" = Str.ofString "bits"):=by decide
 have n4:¬ (Str.ofString "joined" = Str.ofString "table"):=by decide
 simp only [isD,n1,n2,n3,n4,if_true,if_false,jnW]
end K01
namespace K01
open PySem L2 L3 Pu Pv
open Bk (Dl SD)
def MO {L B n:Nat} {d:PyData} (h:Th L B n d) (hB:B<=1000000) (sd:SD 30 1000000 d) (hs:∀ x,d=.str x->x=Str.ofString "skew"):∃ x,WI false [d]=some (.str x):=by
 have w:=sd.w (by decide) (by decide);cases d with
 |none=>exact ⟨_,qaF⟩
 |bool b=>exact ⟨_,qfM⟩
 |int i=>rw [z6] at h;exact ⟨_,qbp (by omega)⟩
 |str x=>
  rw [hs x rfl];exact ⟨_,q0 (by decide +kernel)⟩
 |list ds=>exact ⟨_,qgb w⟩
 |tuple ds=>exact ⟨_,qaM w⟩
 |dict _=>cases n<;>exact h.elim
structure Wr (d:PyData):Prop where
 th:Th 61 100001 9 d
 sd:SD 30 1000000 d
 no:isD 18 d=false
 ns:∀ x,d=.str x->x=Str.ofString "skew"
def qlh {ds:List PyData} (h:Th 61 100001 9 (.tuple ds)) (s:SD 30 1000000 (.tuple ds)) (n:isD 18 (.tuple ds)=false):Wr (.tuple ds):=⟨h,s,n,λx e=>by cases e⟩
def qkn {ds:List PyData} (h:Th 61 100001 9 (.list ds)) (s:SD 30 1000000 (.list ds)):Wr (.list ds):=⟨h,s,rfl,λx e=>by cases e⟩
def NG (d:Dl):∃ s r,dlD d=.tuple (.str s::r):=by cases d<;>exact ⟨_,_,rfl⟩
end K01
namespace K01
open PySem L2 L3 Pu Pv
open Bk (Dl)
def ns1:¬ (Str.ofString "rests" = Str.ofString "skew"):=by decide
def ns2:¬ (Str.ofString "bits" = Str.ofString "skew"):=by decide
def ns3:¬ (Str.ofString "bits" = Str.ofString "rests"):=by decide
def ns4:¬ (Str.ofString "table" = Str.ofString "skew"):=by decide
def ns5:¬ (Str.ofString "table" = Str.ofString "rests"):=by decide
def ns6:¬ (Str.ofString "table" = Str.ofString "bits"):=by decide
def L9 {j:Nat} {r:List PyData}:isD (j+1) (.tuple (.str "skew" :: r))=skW r:=by simp only [isD,if_true]
def SX {j:Nat} {r:List PyData}:isD (j+1) (.tuple (.str "rests" :: r))=rsW r:=by simp only [isD,ns1,if_true,if_false]
def WL {j:Nat} {r:List PyData}:isD (j+1) (.tuple (.str "bits" :: r))=btW r:=by simp only [isD,ns2,ns3,if_true,if_false]
def DA {j:Nat} {r:List PyData}:isD (j+1) (.tuple (.str "table" :: r))=tbW r:=by simp only [isD,ns4,ns5,ns6,if_true,if_false]
def qjG {j:Nat} {s:Str} {r:List PyData} (h:s="skew" ∨ s="rests" ∨ s="bits" ∨ s="table" ∨ s="joined"):isD (j+1) (.tuple (.str (s++"s")::r))=false:=by
 have key:∀ t:Str,t≠"skew" -> t≠"rests" -> t≠"bits" -> t≠"table" -> t≠"joined" -> isD (j+1) (.tuple (.str t::r))=false:=λt h1 h2 h3 h4 h5=>by
  simp only [isD];rw [if_neg h1,if_neg h2,if_neg h3,if_neg h4,if_neg h5]
 rcases h with rfl|rfl|rfl|rfl|rfl<;>exact key _ (by decide) (by decide) (by decide) (by decide) (by decide)
def qhw (d:PyData):Prop:=geN 0 d=false
def DX {d:PyData} (h:qhw d) (m:Int) (hm:0<=m):geN m d=false:=by
 unfold qhw at h;cases d<;>simp [geN] at h ⊢;omega
def qjN:∀ d∈([.int (-1),.bool true,.none,.str "3",.tuple [.int 2]]:List PyData),qhw d:=alc rfl (alc rfl (alc rfl (alc rfl (alc rfl al0))))
def qdV {a b c x y odd:PyData} (h:qhw odd):∀ j:Nat,j<5->skW ([a,b,c,x,y].set j odd)=false
 |0,_=>by simp only [set_cons_zero,skW,DX h 1 (by decide),Bool.false_and]
 |1,_=>by simp only [set_cons_succ,set_cons_zero,skW,DX h 1 (by decide),Bool.false_and,Bool.and_false]
 |2,_=>by simp only [set_cons_succ,set_cons_zero,skW,DX h 1 (by decide),Bool.false_and,Bool.and_false]
 |3,_=>by simp only [set_cons_succ,set_cons_zero,skW,DX h 0 (by decide),Bool.false_and,Bool.and_false]
 |4,_=>by simp only [set_cons_succ,set_cons_zero,skW,DX h 0 (by decide),Bool.and_false]
def qgh {r:List PyData} (h:r.all (geN 1)=false):rsW r=false:=by
 unfold rsW;split
 ·simp only [List.all_cons,List.all_nil,geN,Bool.and_true] at h;rw [h,Bool.false_and]
 ·rfl
def qbz {r:List PyData} {odd:PyData} {j:Nat} (h:geN 1 odd=false) (hj:j<r.length):rsW (r.set j odd)=false:=by
 refine qgh ?_;rw [List.all_eq_false];exact ⟨odd,List.mem_iff_getElem.mpr ⟨j,by simpa using hj,by simp⟩,by simp [h]⟩
def qcG {a b c x y:PyData}:∀ j:Nat,j<3->skW ([a,b,c,x,y].set j (.int 0))=false
 |0,_=>by simp [skW,geN]
 |1,_=>by simp [skW,geN]
 |2,_=>by simp [skW,geN]
def qhH:rsW [.int 2,.int 2,.int 6,.int 9]=false:=by decide
def qiu:rsW [.int 3,.int 3,.int 2,.int 4]=false:=by decide
def qiP {m:Int}:rsW [.int (m+1),.int 1,.int 1,.int m]=false:=by
 have e:¬ ((m+1)*1<=1*m):=by omega
 simp only [rsW,e,decide_false,Bool.and_false]
def qca {j:Nat} {a:PyData}:isD (j+2) (.tuple [.str "joined",a,.none])=false:=by
 rw [U3];simp only [isD,Bool.and_false]
def qcK {j:Nat} {xs:List PyData} {b c d:PyData} (h:b=.tuple xs):isD (j+2) (.tuple [.str "joined",.tuple [b,c],d])=false:=by
 rw [U3,h];simp only [isD,Bool.false_and]
def qej {h l:Nat} {ms:List PyData} {odd:PyData} (ho:geN 0 odd=false\/biN ((h:Int)+(l:Int)) odd=false):btW [.int (h:Int),.int (l:Int),.tuple (ms++[odd])]=false:=by
 simp only [btW,List.all_append,List.all_cons,List.all_nil,Bool.and_true];rcases ho with ho|ho<;>rw [ho]<;>simp
def NY (k:Nat):biN (k:Int) (.int (2 ^ k))=false:=by
 simp only [biN,decide_eq_false_iff_not];unfold Builtin.Int.intBits;have e:((2 ^ k:Nat):Int)=2 ^ k:=by simp
 have p:=Nat.one_le_two_pow (n:=k);have z:((2:Int) ^ k==0)=false:=by simp;omega
 rw [z,if_neg Bool.false_ne_true];have n:((2:Int) ^ k).natAbs=2 ^ k:=by omega
 rw [n,Nat.log2_two_pow];omega
end K01
namespace K01
open PySem L2 L3 Pu Pv
def qaE {b:Int} {rows:List PyData} {d:PyData} (hd:d∈rows) (h:∀ w,W2 w b d=false):tbW [.int b,.tuple rows]=false:=by
 unfold tbW;split
 ·rename_i b' x xs rs e;cases e;have:(PyData.tuple (x::xs)::rs).all (W2 ((x::xs).length:Int) b)=false:=by
   rw [List.all_eq_false];exact ⟨d,hd,by simp [h]⟩
  rw [this,Bool.and_false]
 ·rfl
def qcO {w b:Int} {xs:List PyData} {odd:PyData} (h:geN 0 odd=false\/ltN b odd=false):W2 w b (.tuple (xs++[odd]))=false:=by
 simp only [W2,List.all_append,List.all_cons,List.all_nil,Bool.and_true];rcases h with h|h<;>rw [h]<;>simp
def qai {w b:Int} {xs:List PyData}:W2 w b (.list xs)=false:=rfl
def qbS {b:Int} {x:PyData} {xs rs:List PyData}:tbW [.int b,.tuple (.tuple (x::xs)::rs++[.tuple (x::xs++[.int 0])])]=false:=by
 simp only [tbW,cons_append];have:(PyData.tuple (x::xs)::(rs++[PyData.tuple (x::(xs++[PyData.int 0]))])).all (W2 ((x::xs).length:Int) b)=false:=by
  rw [List.all_eq_false];refine ⟨.tuple (x::(xs++[.int 0])),by simp,?_⟩;have:¬ (((x::(xs++[PyData.int 0])).length:Int)=((x::xs).length:Int)):=by simp;omega
  simp only [W2,this,decide_false,Bool.false_and];simp
 rw [this,Bool.and_false]
def qkX:tbW [.int 2,.tuple []]=false:=rfl
def qkQ:tbW [.int 2,.tuple [.tuple [],.tuple []]]=false:=rfl
def qli {cs:PyData}:tbW [.int 0,cs]=false:=by
 unfold tbW;split
 ·rename_i b' x xs rs e;cases e;rfl
 ·rfl
def qcf {b:Int} {rs:List PyData}:tbW [.int b,.list rs]=false:=rfl
def qhX {b:Int} {rs:List PyData} {xs:List PyData}:tbW [.int b,.tuple (rs++[.list xs])]=false:=qaE (d:=.list xs) (by simp) λ_=>qai
def qkT {b:Int}:ltN b (.int b)=false:=by simp [ltN]
def qcl {a b:PyData} {xs:List PyData}:btW [a,b,.list xs]=false:=by
 unfold btW;split
 ·rename_i e;cases e
 ·rfl
def qkm:btW [.int (-1),.int 2,.tuple []]=false:=by decide
def qkB:btW [.int 1,.bool true,.tuple []]=false:=rfl
def WH {L B n j:Nat} {s:Str} {r:List PyData} (hL:L<=1000) (hr:∀ d∈r,Th L B n d) (b2:¬ s=Str.ofString "rests") (b5:¬ s=Str.ofString "joined"):qg (j+1) [.tuple (.str s::r)]=some (.bool (isD (j+1) (.tuple (.str s::r)))):=by
 have l0:¬ (((r.length+1:Nat):Int)=0):=by omega
 have hr2:∀ m,n<=m->∀ d∈r,Th L B m d:=λm hm d hd=>ji (Nat.le_refl _) (Nat.le_refl _) m (hr d hd) hm;have f1:=qdI (k:=.str s) hr;have f3:=qfi (k:=.str s) (n:=n) (hr2 _ (by omega)) hL;have f4:=qdw (k:=.str s) (n:=n) (hr2 _ (by omega)) hL;rw [jV];by_cases b1:s=Str.ofString "skew"
 ·subst b1
  try simp only [Pu.pwA,qv,isD,c6,l0,jt,TY,f1,if_true,length_cons,decide_true,decide_false,Bool.not_true]
 by_cases b3:s=Str.ofString "bits"
 ·subst b3
  try simp only [Pu.pwA,qv,isD,c6,l0,jt,TY,f3,b1,b2,if_true,if_false,length_cons,decide_true,decide_false,Bool.not_true]
 by_cases b4:s=Str.ofString "table"
 ·subst b4
  try simp only [Pu.pwA,qv,isD,c6,l0,jt,TY,f4,b1,b2,b3,if_true,if_false,length_cons,decide_true,decide_false,Bool.not_true]
 ·try simp only [Pu.pwA,qv,isD,c6,l0,jt,TY,b1,b2,b3,b4,b5,if_true,if_false,length_cons,decide_true,decide_false,Bool.not_true]
def qii {j:Nat} {g:Int} (h1:1<=g):qg (j+1) [.tuple [.str "rests",.int g,.int 2,.int (2*g),.int 1]]=some (.bool true):=by
 have ti:∀ d∈([.int g,.int 2,.int (2*g),.int 1]:List PyData),Th 10 (2*g.toNat+2) 0 d:=alc (by rw [z6];omega) (alc (by rw [z6];omega) (alc (by rw [z6];omega) (alc (by rw [z6];omega) al0)));have f1:=CN (e:=1) ti (by simp);have al:[PyData.int g,.int 2,.int (2*g),.int 1].all (geN 1)=true:=by
  simp only [List.all_cons,List.all_nil,geN,Bool.and_true,Bool.and_eq_true,decide_eq_true_eq];omega
 rw [al] at f1;have e:(((0+1+1+1+1+1:Nat):Int)=5):=by decide
 have s1:slD (.tuple [.str "rests",.int g,.int 2,.int (2*g),.int 1]) (some 1) none=some (.tuple [.int g,.int 2,.int (2*g),.int 1]):=JA (by simp [HT.sIx]);have sd:=qgi (a:=(2*g).toNat) (b:=1) (by decide);have gd:Nat.gcd (2*g).toNat 1=1:=Nat.gcd_one_right _;have e1:(((1:Nat):Int))=1:=rfl;rw [show (((2*g).toNat:Nat):Int)=2*g by omega,decide_eq_true gd,e1] at sd;have le:decide (g*2<=2*g*1)=true:=by rw [decide_eq_true_eq];omega
 have fr:zJ [.tuple [.str "rests",.int g,.int 2,.int (2*g),.int 1]]=some (.bool true):=by
  rw [U1]
  try simp (disch:=omega) only [Pu.pwA,zt,s1,f1,e,sd,qfa,le,decide_true,Bool.not_true]
 have l0:¬ (((0+1+1+1+1+1:Nat):Int)=0):=by decide
 rw [jV]
 try simp only [Pu.pwA,qv,c6,l0,jt,TY,fr,ns1,length_cons,length_nil,decide_true,decide_false,Bool.not_true]
def qer {j:Nat} {g:Int} (h:1<=g):isD (j+1) (.tuple [.str "skew",.int g,.int 1,.int g,.int g,.int 0])=true:=by
 rw [L9];simp only [skW,geN,Bool.and_eq_true,decide_eq_true_eq];omega
def qgV {j:Nat} {g:Int} (h:3<=g):isD (j+1) (.tuple [.str "table",.int g,.tuple [.tuple [.int 0,.int (g-1)],.tuple [.int 1,.int 2]]])=true:=by
 rw [DA];have a1:(1:Int)<=g:=by omega
 have a2:(0:Int)<=g-1:=by omega
 have a3:(0:Int)<g:=by omega
 have a4:g-1<g:=by omega
 have a5:(1:Int)<g:=by omega
 have a6:(2:Int)<g:=by omega
 simp [tbW,W2,geN,ltN,a1,a2,a3,a4,a5,a6]
def qfj {j:Nat}:isD (j+1) (.tuple [.str "bits",.int 0,.int 0,.tuple [.int 0,.int 0]])=true:=by
 rw [WL];decide
open Bk (Dl SD SDs qM QF VX YE qQ JD)
def Pe (x:PyData):Prop:=Th 61 100001 8 x/\SD 10 130000 x
def ala {P:PyData->Prop} {x y:List PyData} (h:∀ d∈x,P d) (t:∀ d∈y,P d):∀ d∈x++y,P d:=λd hd=>by
 rcases List.mem_append.mp hd with hd|hd
 ·exact h d hd
 ·exact t d hd
def j4 {ds:List PyData} (hl:ds.length<=7) (h:∀ x∈ds,Pe x) (no:isD 18 (.tuple ds)=false):Wr (.tuple ds):=by
 refine qlh (UH (by omega) λx hx=>(h x hx).1) ?_ no;refine (qQ (Bk.je λx hx=>(h x hx).2)).mono (by decide) ?_;have:=Nat.mul_le_mul hl (Nat.le_refl (130000+1));omega
def qen {ds:List PyData} (hl:ds.length<=7) (h:∀ x∈ds,Pe x):Wr (.list ds):=by
 refine qkn (qiM (by omega) λx hx=>(h x hx).1) ?_;refine (JD (Bk.je λx hx=>(h x hx).2)).mono (by decide) ?_;have:=Nat.mul_le_mul hl (Nat.le_refl (130000+1));omega
def JI {i:Int} (h:-100001<=i/\i<=100001):Pe (.int i):=⟨by rw [z6];omega,qM _ _ (by omega)⟩
def qkc {b:Bool}:Pe (.bool b):=⟨qhk _,YE _ _ _⟩
def qiB:Pe .none:=⟨qhx _,VX _ _⟩
def NB {x:Str} (h:x.cps.size<=20/\(x.cps.toList.all λc=>decide (c<16 ^ 8))=true):Pe (.str x):=⟨by rw [TM];exact h,QF _ _ (by omega) h.2⟩
def RB {d:Dl} (ok:d.Ok) (h:d.dep<=2):Pe (dlD d):=by
 refine ⟨ji (by decide) (by decide) _ (DC d ok) (by omega),(N9 d ok).mono (by omega) ?_⟩;have:4 ^ d.dep<=4 ^ 2:=Nat.pow_le_pow_right (by decide) h;have e:4 ^ 2=16:=rfl;omega
def MY {m:Nat} {ds:List PyData} (hl:ds.length<=61) (h:∀ x∈ds,Th 61 100001 7 x/\SD 9 m x) (hm:m<=2000):Pe (.tuple ds):=by
 refine ⟨UH hl λx hx=>(h x hx).1,(qQ (Bk.je λx hx=>(h x hx).2)).mono (by decide) ?_⟩;have:=Nat.mul_le_mul hl (show m+1<=2001 by omega);omega
def qkd {m:Nat} {ds:List PyData} (hl:ds.length<=61) (h:∀ x∈ds,Th 61 100001 7 x/\SD 9 m x) (hm:m<=2000):Pe (.list ds):=by
 refine ⟨qiM hl λx hx=>(h x hx).1,(JD (Bk.je λx hx=>(h x hx).2)).mono (by decide) ?_⟩;have:=Nat.mul_le_mul hl (show m+1<=2001 by omega);omega
def LV:∀ d∈([.int (-1),.bool true,.none,.str "3",.tuple [.int 2]]:List PyData),Pe d:=by
 refine alc (JI (by omega)) (alc qkc (alc qiB (alc (NB ⟨by decide,by decide⟩) (alc (MY (m:=0) (by simp) (alc ⟨by rw [z6];omega,qM _ _ (by omega)⟩ al0) (by decide)) al0))))
def YW {d:Dl} (ok:d.Ok) (h:d.dep<=2):∃ ds,dlD d=.tuple ds/\ds.length<=6/\∀ x∈ds,Pe x:=by
 cases d with
 |skew r c b x y=>
  simp only [Dl.Ok] at ok;refine ⟨_,rfl,by simp,alc (NB ⟨by decide,by decide⟩) (alc (JI ?_) (alc (JI ?_) (alc (JI ?_) (alc (JI ?_) (alc (JI ?_) al0)))))⟩<;>omega
 |rests r c b p=>
  simp only [Dl.Ok] at ok;refine ⟨_,rfl,by simp,alc (NB ⟨by decide,by decide⟩) (alc (JI ?_) (alc (JI ?_) (alc (JI ?_) (alc (JI ?_) al0))))⟩<;>omega
 |bits a l ms=>
  obtain ⟨h1,h2,h3,h4⟩:=ok;have pw:(2:Int) ^ (a+l)<=256:=by
   have:2 ^ (a+l)<=2 ^ 8:=Nat.pow_le_pow_right (by omega) (by omega);have e:((2 ^ (a+l):Nat):Int)=2 ^ (a+l):=by simp
   omega
  refine ⟨_,rfl,by simp,alc (NB ⟨by decide,by decide⟩) (alc (JI (by omega)) (alc (JI (by omega)) (alc (MY (m:=0) (by simp;omega) (λx hx=>?_) (by decide)) al0)))⟩;obtain ⟨m,hm,rfl⟩:=mem_map.mp hx;have:=h4 m hm;exact ⟨by rw [z6];omega,qM _ _ (by omega)⟩
 |table b cells=>
  obtain ⟨h1,h2,h3,h4,c,c1,c2,hr⟩:=ok;refine ⟨_,rfl,by simp,alc (NB ⟨by decide,by decide⟩) (alc (JI (by omega)) (alc (MY (m:=60) (by simp;omega) (λx hx=>?_) (by decide)) al0))⟩;obtain ⟨row,hrow,rfl⟩:=mem_map.mp hx;obtain ⟨l1,hv⟩:=hr row hrow;refine ⟨UH (by simp;omega) λx hx=>?_,(qQ (k:=8) (Bk.je (n:=0) λx hx=>?_)).mono (by decide) (by simp;omega)⟩
  ·obtain ⟨y,hy,rfl⟩:=mem_map.mp hx;have:=hv y hy;rw [z6];omega
  ·obtain ⟨y,hy,rfl⟩:=mem_map.mp hx;have:=hv y hy;exact qM _ _ (by omega)
 |joined a e=>
  obtain ⟨o1,o2,_⟩:=ok;simp only [Dl.dep] at h;exact ⟨_,rfl,by simp,alc (NB ⟨by decide,by decide⟩) (alc (RB o1 (by omega)) (alc (RB o2 (by omega)) al0))⟩
end K01
namespace K01
open PySem L2 L3 Pu Pv
open Bk (Dl)
def WE {α:Type} (xs:List α) (k:Nat):YY xs none (some (k:Int))=xs.take k:=by
 unfold YY;rw [HT.MG,HT.SE,List.drop_zero,Nat.sub_zero,List.take_eq_take_iff];omega
def WV {α:Type} (xs:List α) (k:Nat):YY xs (some (k:Int)) none=xs.drop k:=by
 unfold YY;rw [HT.MG,HT.SE,List.take_of_length_le (by simp)];by_cases c:k<=xs.length
 ·rw [Nat.min_eq_left c]
 ·rw [Nat.min_eq_right (by omega),List.drop_of_length_le (Nat.le_refl _),List.drop_of_length_le (by omega)]
def X3 {s:Str} {r M:List PyData} (hp:∀ x∈PyData.str s::r,Pe x) (hs:s="skew" ∨ s="rests" ∨ s="bits" ∨ s="table" ∨ s="joined") (hl:r.length<=5) (dl:Pe (.tuple (.str s::r))) (hM:∀ x∈M,x∈PyData.str s::r) (lM:M.length<=6)
  (n2:isD 18 (.tuple M)=false) (n3:isD 18 (.tuple (.str s::r++[.int 1]))=false) (n4:isD 18 (.tuple r)=false) :
  ∀ w∈([.list (.str s::r),.tuple M,.tuple (.str s::r++[.int 1]),.tuple r,.tuple [.tuple (.str s::r)],.tuple (.str (s++"s")::r)]:List PyData),Wr w:=by
 have hr:∀ x∈r,Pe x:=λx hx=>hp x (by simp [hx]);have p1:Pe (.int 1):=JI (by omega);have ps:Pe (.str (s++"s")):=by rcases hs with rfl|rfl|rfl|rfl|rfl<;>exact NB ⟨by decide,by decide⟩
 refine alc (qen (by simp;omega) hp) (alc (j4 (by omega) (λx hx=>hp x (hM x hx)) n2) (alc (j4 (by simp;omega) (ala hp (alc p1 al0)) n3) (alc (j4 (by omega) hr n4) (alc (j4 (by simp) (alc dl al0) ?_) (alc (j4 (by simp;omega) (alc ps hr) (qjG hs)) al0)))));simp only [isD]
def ME (ds:List PyData) (k:Nat) (x:PyData) (h:k<ds.length):ds.take k++[x]++ds.drop (k+1)=ds.set k x:=by
 rw [List.set_eq_take_append_cons_drop,if_pos h];simp
def qkE:inD false (.str "skew") (.tuple [.str "skew",.str "rests"])=some (.bool true):=(q0 (by simp [U4])).trans rfl
def SA {gf:PyData->Option (List (Nat×PyData))} {bw:Rho->Nat->QO->Prop} (xs:List PyData) (mono:Mn bw) (I:Rho->Nat->Prop) {ρ:Rho} {n:Nat} {Q:QO} (h0:I ρ n)
  (hs:∀ x∈xs,∀ ρ n,I ρ n->∃ bs,gf x=some bs/\bw (D0 ρ bs) n λo m=>match o with|.nx ρ'=>I ρ' m|.ct ρ'=>I ρ' m|.bk ρ'=>Q (.nx ρ') m|.rt d b=>Q (.rt d b) m)
  (k:∀ ρ n,I ρ n->Q (.nx ρ) n):KY gf bw xs ρ n Q:=by
 have:=WD (gf:=gf) (f:=id) xs mono (λ_=>I) h0 (λi x ρ n hx h=>hs x (mem_of_getElem? hx) ρ n h) k;rw [List.map_id] at this;exact this
def WU {gf:PyData->Option (List (Nat×PyData))} {bw:Rho->Nat->QO->Prop} (xs:List PyData) (mono:Mn bw) (I:Nat->Rho->Nat->Prop) {ρ:Rho} {n:Nat} {Q:QO} (h0:I 0 ρ n)
  (hs:∀ i x,xs[i]?=some x->∀ ρ n,I i ρ n->∃ bs,gf x=some bs/\bw (D0 ρ bs) n λo m=>match o with|.nx ρ'=>I (i+1) ρ' m|.ct ρ'=>I (i+1) ρ' m|.bk ρ'=>Q (.nx ρ') m|.rt d b=>Q (.rt d b) m)
  (k:∀ ρ n,I xs.length ρ n->Q (.nx ρ) n):KY gf bw xs ρ n Q:=by
 have:=WD (gf:=gf) (f:=id) xs mono I h0 (λi x ρ n hx h=>hs i x hx ρ n h) k;rw [List.map_id] at this;exact this
def qam {ds F:List PyData} {k:Nat} {odd:PyData} {n:Nat} {s5 s6 s7:Sl} {Q:QO} (hk:k<ds.length) (hl:ds.length<=6) (lF:F.length<=1000)
  (hQ:Q (.nx [.un,.sh (.tuple ds),.ow (F++[.tuple (ds.set k odd)]),.sh (.int (k:Int)),.sh odd,s5,s6,s7]) n):zR.w [.un,.sh (.tuple ds),.ow F,.sh (.int (k:Int)),.sh odd,s5,s6,s7] n Q:=by
 have s3:slA (.tuple ds) none (some (k:Int))=some (.tuple (ds.take k)):=by rw [CZ,WE]
 have c1:QP (.int (k:Int)) (.int 1)=some (.int ((k+1:Nat):Int)):=id rfl;have s4:slA (.tuple ds) (some ((k+1:Nat):Int)) none=some (.tuple (ds.drop (k+1))):=by rw [CZ,WV]
 have k1:QP (.tuple (ds.take k)) (.tuple [odd])=some (.tuple (ds.take k++[odd])):=zp (by simp;omega);have k2:QP (.tuple (ds.take k++[odd])) (.tuple (ds.drop (k+1)))=some (.tuple (ds.set k odd)):=by
  rw [← ME ds k odd hk];exact zp (by simp;omega)
 try simp only [Pu.pwA,zR,jn,zO,qS,qL,s3,s4,c1,k1,k2]
 exact ⟨by omega,hQ⟩
def qkz {a b c x y:Int} {n:Nat} {Q:QD} (ok:(Dl.skew a b c x y).Ok) (hn:n<900000) (hQ:∀ ws:List PyData,ws.length<=40->(∀ w∈ws,Wr w)->Q (.list ws) (n+2)):zc.W [dlD (.skew a b c x y)] n Q:=by
 have dl:=RB ok (by simp [Dl.dep]);obtain ⟨ds,e,hl,hp⟩:=YW ok (by simp [Dl.dep]);cases e;rw [jM];refine ⟨rfl,?_⟩;unfold zE dlD;refine qZ λY1 h1=>?_;have s1:slA (.tuple [.str "skew",.int a,.int b,.int c,.int x,.int y]) none (some (-1))=some (.tuple [.str "skew",.int a,.int b,.int c,.int x]):=id rfl;have s2:slA (.tuple [.str "skew",.int a,.int b,.int c,.int x,.int y]) (some 1) none=some (.tuple [.int a,.int b,.int c,.int x,.int y]):=id rfl;have k1:QP (.tuple [.str "skew",.int a,.int b,.int c,.int x,.int y]) (.tuple [.int 1])=some (.tuple [.str "skew",.int a,.int b,.int c,.int x,.int y,.int 1]):=zp (by simp)
 try simp only [Pu.pwA,jn,zO,qS,qL,s1,s2,k1]
 rw [h1];refine qZ λY2 h2=>?_;have k2:WQ (.str "skew") (.str "s")=some (.str ("skew" ++ "s")):=CI (by decide);have k3:QP (.tuple [.str ("skew" ++ "s")]) (.tuple [.int a,.int b,.int c,.int x,.int y])=some (.tuple [.str ("skew" ++ "s"),.int a,.int b,.int c,.int x,.int y]):=zp (by simp)
 try simp only [Pu.pwA,jn,zO,qS,qL,YU,JE,s2,k2,k3]
 refine ⟨by decide,?_⟩;have f6:=X3 (s:="skew") (r:=[.int a,.int b,.int c,.int x,.int y]) (M:=[.str "skew",.int a,.int b,.int c,.int x]) hp (.inl rfl) (by simp) dl (λz hz=>by simp only [mem_cons,not_mem_nil,or_false] at hz ⊢;rcases hz with rfl|rfl|rfl|rfl|rfl<;>simp) (by simp) (by rw [L9];rfl) (by rw [cons_append,L9];rfl) (by simp only [isD]);rw [cons_append] at f6;simp only [cons_append,List.nil_append] at f6;generalize hF:([PyData.list [.str (Str.ofString "skew"),.int a,.int b,.int c,.int x,.int y],.tuple [.str (Str.ofString "skew"),.int a,.int b,.int c,.int x],.tuple [.str (Str.ofString "skew"),.int a,.int b,.int c,.int x,.int y,.int 1],.tuple [.int a,.int b,.int c,.int x,.int y],.tuple [.tuple [.str (Str.ofString "skew"),.int a,.int b,.int c,.int x,.int y]],.tuple [.str (Str.ofString "skew" ++ Str.ofString "s"),.int a,.int b,.int c,.int x,.int y]]:List PyData)=F at f6 ⊢;have lF:F.length=6:=by rw [← hF];rfl
 rw [h2];refine qZ λY3 h3=>?_;have c0:∀ u:Int,QP (.int 1) (.int u)=some (.int (1+u)):=λu=>id rfl
 try simp only [Pu.pwA,qkE,qS,qL,c0]
 refine ⟨by decide,by omega,λu u0 u1=>?_⟩;obtain ⟨k,ek,hk⟩:∃ k:Nat,1+u=((k+1:Nat):Int)/\k<5:=⟨u.toNat,by omega,by have:((1+1+1+1+1+1:Nat):Int)-1=5:=rfl;omega⟩
 rw [ek];have wset:∀ (j:Nat) (odd:PyData),Pe odd->j<5->skW ([.int a,.int b,.int c,.int x,.int y].set j odd)=false->Wr (.tuple ((PyData.str "skew" :: [.int a,.int b,.int c,.int x,.int y]).set (j+1) odd)):=λj odd po hj no=>by
  refine j4 (by simp) (λz hz=>?_) ?_
  ·rcases List.mem_or_eq_of_mem_set hz with hz|rfl
   ·exact hp z hz
   ·exact po
  ·rw [set_cons_succ,L9];exact no
 refine WU _ zR.mn (λi ρ m=>m=n+1/\∃ (F':List PyData) (s4:Sl),ρ=[.un,.sh (.tuple [.str "skew",.int a,.int b,.int c,.int x,.int y]),.ow F',.sh (.int ((k+1:Nat):Int)),s4,.un,.un,.un]/\F'.length=6+i/\∀ w∈F',Wr w) ⟨rfl,F,_,rfl,by omega,f6⟩ ?_ ?_
 ·rintro i odd ho' ρ m ⟨rfl,F',s4,rfl,lF',hF'⟩;have hi:=(List.getElem?_eq_some_iff.mp ho').1;have ho:=mem_of_getElem? ho';refine ⟨_,rfl,?_⟩;refine qam (k:=k+1) (by simp;omega) (by simp) (by simp at hi;omega) ?_;exact ⟨rfl,_,_,rfl,by simp;omega,ala hF' (alc (wset k odd (LV odd ho) hk (qdV (qjN odd ho) k hk)) al0)⟩
 ·rintro ρ m ⟨rfl,F',s4,rfl,lF',hF'⟩
  try simp only [Pu.pwA]
  refine ⟨by decide,by omega,λv v0 v1=>?_⟩;obtain ⟨q,eq,hq⟩:∃ q:Nat,1+v=((q+1:Nat):Int)/\q<3:=⟨v.toNat,by omega,by omega⟩
  rw [eq];have s3:slA (.tuple [.str "skew",.int a,.int b,.int c,.int x,.int y]) none (some ((q+1:Nat):Int))=some (.tuple ([.str "skew",.int a,.int b,.int c,.int x,.int y].take (q+1))):=by rw [CZ,WE]
  have c1:QP (.int ((q+1:Nat):Int)) (.int 1)=some (.int ((q+1+1:Nat):Int)):=id rfl;have s4':slA (.tuple [.str "skew",.int a,.int b,.int c,.int x,.int y]) (some ((q+1+1:Nat):Int)) none=some (.tuple ([.str "skew",.int a,.int b,.int c,.int x,.int y].drop (q+1+1))):=by rw [CZ,WV]
  have k4:QP (.tuple ([PyData.str "skew",.int a,.int b,.int c,.int x,.int y].take (q+1))) (.tuple [.int 0])=some (.tuple ([PyData.str "skew",.int a,.int b,.int c,.int x,.int y].take (q+1)++[.int 0])):=zp (by simp;omega);have k5:QP (.tuple ([PyData.str "skew",.int a,.int b,.int c,.int x,.int y].take (q+1)++[.int 0])) (.tuple ([PyData.str "skew",.int a,.int b,.int c,.int x,.int y].drop (q+1+1)))=some (.tuple ([PyData.str "skew",.int a,.int b,.int c,.int x,.int y].set (q+1) (.int 0))):=by
   rw [← ME _ (q+1) (.int 0) (by simp;omega)];exact zp (by simp;omega)
  have wz:=wset q (.int 0) (JI (by omega)) (by omega) (qcG q hq);generalize hz:([PyData.str (Str.ofString "skew"),.int a,.int b,.int c,.int x,.int y].set (q+1) (.int 0))=Z at k5 wz;refine ⟨.tuple Z,?_,?_⟩
  ·try simp only [Pu.pwA,jn,qS,s3,s4',c1,k4,k5]
  ·try simp only [Pu.pwA,NF]
   refine ⟨by simp at lF';omega,?_⟩;rw [h3];refine qZ λY4 h4=>?_;have ne1:¬ (Str.ofString "skew" = Str.ofString "rests"):=by decide
   have ne2:¬ (Str.ofString "skew" = Str.ofString "bits"):=by decide
   have ne3:¬ (Str.ofString "skew" = Str.ofString "table"):=by decide
   have ne4:¬ (Str.ofString "skew" = Str.ofString "joined"):=by decide
   try simp only [Pu.pwA,ne1,decide_false]
   rw [h4];refine qZ λY5 h5=>?_
   try simp only [Pu.pwA,ne2,decide_false]
   rw [h5];refine qZ λY6 h6=>?_
   try simp only [Pu.pwA,ne3,decide_false]
   rw [h6];refine qZ λY7 h7=>?_
   try simp only [Pu.pwA,ne4,decide_false]
   rw [h7]
   try simp only [Pu.pwA]
   exact ⟨_,Nat.le_refl _,hQ _ (by simp at lF' ⊢;omega) (ala hF' (alc wz al0))⟩
def qku:inD false (.str "rests") (.tuple [.str "skew",.str "rests"])=some (.bool true):=(q0 (by simp [U4])).trans rfl
def qkG {a b c p:Int} {n:Nat} {Q:QD} (ok:(Dl.rests a b c p).Ok) (hn:n<900000) (hQ:∀ ws:List PyData,ws.length<=40->(∀ w∈ws,Wr w)->Q (.list ws) (n+2)):zc.W [dlD (.rests a b c p)] n Q:=by
 have dl:=RB ok (by simp [Dl.dep]);obtain ⟨ds,e,hl,hp⟩:=YW ok (by simp [Dl.dep]);cases e;rw [jM];refine ⟨rfl,?_⟩;unfold zE dlD;refine qZ λY1 h1=>?_;have s1:slA (.tuple [.str "rests",.int a,.int b,.int c,.int p]) none (some (-1))=some (.tuple [.str "rests",.int a,.int b,.int c]):=id rfl;have s2:slA (.tuple [.str "rests",.int a,.int b,.int c,.int p]) (some 1) none=some (.tuple [.int a,.int b,.int c,.int p]):=id rfl;have k1:QP (.tuple [.str "rests",.int a,.int b,.int c,.int p]) (.tuple [.int 1])=some (.tuple [.str "rests",.int a,.int b,.int c,.int p,.int 1]):=zp (by simp)
 try simp only [Pu.pwA,jn,zO,qS,qL,s1,s2,k1]
 rw [h1];refine qZ λY2 h2=>?_;have k2:WQ (.str "rests") (.str "s")=some (.str ("rests" ++ "s")):=CI (by decide);have k3:QP (.tuple [.str ("rests" ++ "s")]) (.tuple [.int a,.int b,.int c,.int p])=some (.tuple [.str ("rests" ++ "s"),.int a,.int b,.int c,.int p]):=zp (by simp)
 try simp only [Pu.pwA,jn,zO,qS,qL,YU,JE,s2,k2,k3]
 refine ⟨by decide,?_⟩;have f6:=X3 (s:="rests") (r:=[.int a,.int b,.int c,.int p]) (M:=[.str "rests",.int a,.int b,.int c]) hp (.inr (.inl rfl)) (by simp) dl (λz hz=>by simp only [mem_cons,not_mem_nil,or_false] at hz ⊢;rcases hz with rfl|rfl|rfl|rfl<;>simp) (by simp) (by rw [SX];rfl) (by rw [cons_append,SX];rfl) (by simp only [isD]);rw [cons_append] at f6;simp only [cons_append,List.nil_append] at f6;generalize hF:([PyData.list [.str (Str.ofString "rests"),.int a,.int b,.int c,.int p],.tuple [.str (Str.ofString "rests"),.int a,.int b,.int c],.tuple [.str (Str.ofString "rests"),.int a,.int b,.int c,.int p,.int 1],.tuple [.int a,.int b,.int c,.int p],.tuple [.tuple [.str (Str.ofString "rests"),.int a,.int b,.int c,.int p]],.tuple [.str (Str.ofString "rests" ++ Str.ofString "s"),.int a,.int b,.int c,.int p]]:List PyData)=F at f6 ⊢;have lF:F.length=6:=by rw [← hF];rfl
 rw [h2];refine qZ λY3 h3=>?_;have c0:∀ u:Int,QP (.int 1) (.int u)=some (.int (1+u)):=λu=>id rfl
 try simp only [Pu.pwA,qku,qS,qL,c0]
 refine ⟨by decide,by omega,λu u0 u1=>?_⟩;obtain ⟨k,ek,hk⟩:∃ k:Nat,1+u=((k+1:Nat):Int)/\k<4:=⟨u.toNat,by omega,by have:((1+1+1+1+1:Nat):Int)-1=4:=rfl;omega⟩
 rw [ek];have wset:∀ (j:Nat) (odd:PyData),Pe odd->j<4->rsW ([.int a,.int b,.int c,.int p].set j odd)=false->Wr (.tuple ((PyData.str "rests" :: [.int a,.int b,.int c,.int p]).set (j+1) odd)):=λj odd po hj no=>by
  refine j4 (by simp) (λz hz=>?_) ?_
  ·rcases List.mem_or_eq_of_mem_set hz with hz|rfl
   ·exact hp z hz
   ·exact po
  ·rw [set_cons_succ,SX];exact no
 refine WU _ zR.mn (λi ρ m=>m=n+1/\∃ (F':List PyData) (s4:Sl),ρ=[.un,.sh (.tuple [.str "rests",.int a,.int b,.int c,.int p]),.ow F',.sh (.int ((k+1:Nat):Int)),s4,.un,.un,.un]/\F'.length=6+i/\∀ w∈F',Wr w) ⟨rfl,F,_,rfl,by omega,f6⟩ ?_ ?_
 ·rintro i odd ho' ρ m ⟨rfl,F',s4,rfl,lF',hF'⟩;have hi:=(List.getElem?_eq_some_iff.mp ho').1;have ho:=mem_of_getElem? ho';refine ⟨_,rfl,?_⟩;refine qam (k:=k+1) (by simp;omega) (by simp) (by simp at hi;omega) ?_;exact ⟨rfl,_,_,rfl,by simp;omega,ala hF' (alc (wset k odd (LV odd ho) hk (qbz (DX (qjN odd ho) 1 (by decide)) (by simpa using hk))) al0)⟩
 ·rintro ρ m ⟨rfl,F',s4,rfl,lF',hF'⟩
  try simp only [Pu.pwA]
  refine ⟨by decide,by omega,λv v0 v1=>?_⟩;obtain ⟨q,eq,hq⟩:∃ q:Nat,1+v=((q+1:Nat):Int)/\q<3:=⟨v.toNat,by omega,by omega⟩
  rw [eq];have s3:slA (.tuple [.str "rests",.int a,.int b,.int c,.int p]) none (some ((q+1:Nat):Int))=some (.tuple ([.str "rests",.int a,.int b,.int c,.int p].take (q+1))):=by rw [CZ,WE]
  have c1:QP (.int ((q+1:Nat):Int)) (.int 1)=some (.int ((q+1+1:Nat):Int)):=id rfl;have s4':slA (.tuple [.str "rests",.int a,.int b,.int c,.int p]) (some ((q+1+1:Nat):Int)) none=some (.tuple ([.str "rests",.int a,.int b,.int c,.int p].drop (q+1+1))):=by rw [CZ,WV]
  have k4:QP (.tuple ([PyData.str "rests",.int a,.int b,.int c,.int p].take (q+1))) (.tuple [.int 0])=some (.tuple ([PyData.str "rests",.int a,.int b,.int c,.int p].take (q+1)++[.int 0])):=zp (by simp;omega);have k5:QP (.tuple ([PyData.str "rests",.int a,.int b,.int c,.int p].take (q+1)++[.int 0])) (.tuple ([PyData.str "rests",.int a,.int b,.int c,.int p].drop (q+1+1)))=some (.tuple ([PyData.str "rests",.int a,.int b,.int c,.int p].set (q+1) (.int 0))):=by
   rw [← ME _ (q+1) (.int 0) (by simp;omega)];exact zp (by simp;omega)
  have wz:=wset q (.int 0) (JI (by omega)) (by omega) (qbz rfl (by simp;omega));generalize hz:([PyData.str (Str.ofString "rests"),.int a,.int b,.int c,.int p].set (q+1) (.int 0))=Z at k5 wz;refine ⟨.tuple Z,?_,?_⟩
  ·try simp only [Pu.pwA,jn,qS,s3,s4',c1,k4,k5]
  ·try simp only [Pu.pwA,NF]
   refine ⟨by simp at lF';omega,?_⟩;rw [h3];refine qZ λY4 h4=>?_;have ne2:¬ (Str.ofString "rests" = Str.ofString "bits"):=by decide
   have ne3:¬ (Str.ofString "rests" = Str.ofString "table"):=by decide
   have ne4:¬ (Str.ofString "rests" = Str.ofString "joined"):=by decide
   obtain ⟨o1,o2,o3,o4,_⟩:=ok;have mb:0<=a*b/\a*b<=3600:=⟨Int.mul_nonneg (by omega) (by omega),by have:=Int.mul_le_mul o2 o4 (by omega) (by omega:(0:Int)<=60);omega⟩
   have cm:QP (.int (a*b)) (.int 1)=some (.int (a*b+1)):=id rfl;generalize hab:a*b=m0 at *;have e3:∀ w∈([.tuple [.str "rests",.int 2,.int 2,.int 6,.int 9],.tuple [.str "rests",.int (m0+1),.int 1,.int 1,.int m0],.tuple [.str "rests",.int 3,.int 3,.int 2,.int 4]]:List PyData),Wr w:=by
    have ps:Pe (.str "rests"):=NB ⟨by decide,by decide⟩;refine alc (j4 (by simp) (alc ps (alc (JI ?_) (alc (JI ?_) (alc (JI ?_) (alc (JI ?_) al0))))) (by rw [SX];exact qhH)) (alc (j4 (by simp) (alc ps (alc (JI ?_) (alc (JI ?_) (alc (JI ?_) (alc (JI ?_) al0))))) (by rw [SX];exact qiP)) (alc (j4 (by simp) (alc ps (alc (JI ?_) (alc (JI ?_) (alc (JI ?_) (alc (JI ?_) al0))))) (by rw [SX];exact qiu)) al0))<;>omega
   have ca:∀ G:List PyData,G.length<=1000->QP (.list G) (.list [.tuple [.str "rests",.int 2,.int 2,.int 6,.int 9],.tuple [.str "rests",.int (m0+1),.int 1,.int 1,.int m0],.tuple [.str "rests",.int 3,.int 3,.int 2,.int 4]])=some (.list (G++[.tuple [.str "rests",.int 2,.int 2,.int 6,.int 9],.tuple [.str "rests",.int (m0+1),.int 1,.int 1,.int m0],.tuple [.str "rests",.int 3,.int 3,.int 2,.int 4]])):=λG hG=>q0 (by rw [sizeLine_eq];simp;omega);have lG:(F'++[PyData.tuple Z]).length<=1000:=by simp at lF' ⊢;omega
   try simp (disch:=omega) only [Pu.pwA,hab,CU,qS,qL,cm,ca _ lG,decide_true]
   rw [h4];refine qZ λY5 h5=>?_
   try simp only [Pu.pwA,ne2,decide_false]
   rw [h5];refine qZ λY6 h6=>?_
   try simp only [Pu.pwA,ne3,decide_false]
   rw [h6];refine qZ λY7 h7=>?_
   try simp only [Pu.pwA,ne4,decide_false]
   rw [h7]
   try simp only [Pu.pwA]
   exact ⟨_,Nat.le_refl _,hQ _ (by simp at lF' ⊢;omega) (ala (ala hF' (alc wz al0)) e3)⟩
def qkK:inD false (.str "joined") (.tuple [.str "skew",.str "rests"])=some (.bool false):=(q0 (by simp [U4])).trans rfl
def qcb {j:Nat} {r:List PyData}:isD (j+1) (.tuple (.str "joined" :: r))=jnW (isD j) r:=by
 have n1:¬ (Str.ofString "joined" = Str.ofString "skew"):=by decide
 have n2:¬ (Str.ofString "joined" = Str.ofString "rests"):=by decide
 have n3:¬ (Str.ofString "joined" = Str.ofString "bits"):=by decide
 have n4:¬ (Str.ofString "joined" = Str.ofString "table"):=by decide
 simp only [isD,n1,n2,n3,n4,if_true,if_false]
def qg0 {d e:Dl} (o1:d.Ok) (o2:e.Ok) (h1:d.dep<=1) (h2:e.dep<=1):Pe (.tuple [dlD d,dlD e]):=by
 have sd:∀ d:Dl,d.Ok->d.dep<=1->Bk.SD 8 32000 (dlD d):=λd ok h=>by
  refine (N9 d ok).mono (by omega) ?_;have:4 ^ d.dep<=4 ^ 1:=Nat.pow_le_pow_right (by decide) h;have e:4 ^ 1=4:=rfl;omega
 refine ⟨UH (by simp) (alc (ji (by decide) (by decide) _ (DC d o1) (by omega)) (alc (ji (by decide) (by decide) _ (DC e o2) (by omega)) al0)),(Bk.qQ (k:=8) (Bk.je (n:=32000) (alc (sd d o1 h1) (alc (sd e o2 h2) al0)))).mono (by decide) (by simp)⟩
def qk1 {d e:Dl} {n:Nat} {Q:QD} (ok:(Dl.joined d e).Ok) (hd:(Dl.joined d e).dep<=2) (hn:n<900000) (hQ:∀ ws:List PyData,ws.length<=40->(∀ w∈ws,Wr w)->Q (.list ws) (n+2)):zc.W [dlD (.joined d e)] n Q:=by
 have dl:=RB ok hd;obtain ⟨ds,eq,hl,hp⟩:=YW ok hd;cases eq;obtain ⟨t1,r1,q1⟩:=NG d;have hdd:d.dep<=1/\e.dep<=1:=by simp only [Dl.dep] at hd;omega
 have pAB:=qg0 ok.1 ok.2.1 hdd.1 hdd.2;rw [jM];refine ⟨rfl,?_⟩;unfold zE dlD;simp only [dlD] at dl hp;generalize dlD d=A at *;generalize dlD e=B at *;refine qZ λY1 h1=>?_;have s1:slA (.tuple [.str "joined",A,B]) none (some (-1))=some (.tuple [.str "joined",A]):=id rfl;have s2:slA (.tuple [.str "joined",A,B]) (some 1) none=some (.tuple [A,B]):=id rfl;have k1:QP (.tuple [.str "joined",A,B]) (.tuple [.int 1])=some (.tuple [.str "joined",A,B,.int 1]):=zp (by simp)
 try simp only [Pu.pwA,jn,zO,qS,qL,s1,s2,k1]
 rw [h1];refine qZ λY2 h2=>?_;have k2:WQ (.str "joined") (.str "s")=some (.str ("joined" ++ "s")):=CI (by decide);have k3:QP (.tuple [.str ("joined" ++ "s")]) (.tuple [A,B])=some (.tuple [.str ("joined" ++ "s"),A,B]):=zp (by simp)
 try simp only [Pu.pwA,jn,zO,qS,qL,YU,JE,s2,k2,k3]
 refine ⟨by decide,?_⟩;have j1:isD 18 (.tuple [.str "joined",A])=false:=by rw [qcb];rfl
 have j2:isD 18 (.tuple (.str "joined" :: [A,B]++[.int 1]))=false:=by rw [cons_append,qcb];rfl
 have j3:isD 18 (.tuple [A,B])=false:=by rw [q1];simp only [isD]
 have f6:=X3 (s:="joined") (r:=[A,B]) (M:=[.str "joined",A]) hp (.inr (.inr (.inr (.inr rfl)))) (by simp) dl (λz hz=>by simp only [mem_cons,not_mem_nil,or_false] at hz ⊢;rcases hz with rfl|rfl<;>simp) (by simp) j1 j2 j3;simp only [cons_append,List.nil_append] at f6;generalize hF:([PyData.list [.str (Str.ofString "joined"),A,B],.tuple [.str (Str.ofString "joined"),A],.tuple [.str (Str.ofString "joined"),A,B,.int 1],.tuple [A,B],.tuple [.tuple [.str (Str.ofString "joined"),A,B]],.tuple [.str (Str.ofString "joined" ++ Str.ofString "s"),A,B]]:List PyData)=F at f6 ⊢;have lF:F.length=6:=by rw [← hF];rfl
 rw [h2];have ne1:¬ (Str.ofString "joined" = Str.ofString "rests"):=by decide
 have ne2:¬ (Str.ofString "joined" = Str.ofString "bits"):=by decide
 have ne3:¬ (Str.ofString "joined" = Str.ofString "table"):=by decide
 refine qZ λY3 h3=>?_
 try simp only [Pu.pwA,qkK]
 rw [h3];refine qZ λY4 h4=>?_
 try simp only [Pu.pwA,ne1,decide_false]
 rw [h4];refine qZ λY5 h5=>?_
 try simp only [Pu.pwA,ne2,decide_false]
 rw [h5];refine qZ λY6 h6=>?_
 try simp only [Pu.pwA,ne3,decide_false]
 rw [h6];refine qZ λY7 h7=>?_;have ca:QP (.list F) (.list [.tuple [.str "joined",A,.none],.tuple [.str "joined",.tuple [A,B],B]])=some (.list (F++[.tuple [.str "joined",A,.none],.tuple [.str "joined",.tuple [A,B],B]])):=q0 (by rw [sizeLine_eq];simp;omega)
 try simp only [Pu.pwA,jn,zO,qS,qL,s2,ca,decide_true]
 rw [h7]
 try simp only [Pu.pwA]
 have pA:=hp A (by simp);have pB:=hp B (by simp);have pj:=hp (.str "joined") (by simp);have w2:Wr (.tuple [.str "joined",.tuple [A,B],B]):=j4 (by simp) (alc pj (alc pAB (alc pB al0))) (qcK q1);exact ⟨n+2,by omega,hQ _ (by simp;omega) (ala f6 (alc (j4 (by simp) (alc pj (alc pA (alc qiB al0))) qca) (alc w2 al0)))⟩
def qkw:inD false (.str "bits") (.tuple [.str "skew",.str "rests"])=some (.bool false):=(q0 (by simp [U4])).trans rfl
def qkp {h l:Nat} {ms:List Int} {n:Nat} {Q:QD} (ok:(Dl.bits h l ms).Ok) (hn:n<900000) (hQ:∀ ws:List PyData,ws.length<=40->(∀ w∈ws,Wr w)->Q (.list ws) (n+2)):zc.W [dlD (.bits h l ms)] n Q:=by
 have dl:=RB ok (by simp [Dl.dep]);obtain ⟨ds,eq,hl,hp⟩:=YW ok (by simp [Dl.dep]);cases eq;obtain ⟨o1,o2,o3,o4⟩:=ok;have pw:(1:Int)<=2 ^ (h+l)/\(2:Int) ^ (h+l)<=256:=by
  have a:2 ^ (h+l)<=2 ^ 8:=Nat.pow_le_pow_right (by omega) (by omega);have b:=Nat.one_le_two_pow (n:=h+l);have e:((2 ^ (h+l):Nat):Int)=2 ^ (h+l):=by simp
  omega
 have wd:L2.atI [PyData.int 1,.int 2,.int 4,.int 8,.int 16,.int 32,.int 64,.int 128,.int 256] ((h:Int)+(l:Int))=some (.int (2 ^ (h+l))):=by
  rw [show (h:Int)+(l:Int)=((h+l:Nat):Int) by omega]
  match h+l,(show h+l<=8 by omega) with
  |0,_=>rfl
  |1,_=>rfl
  |2,_=>rfl
  |3,_=>rfl
  |4,_=>rfl
  |5,_=>rfl
  |6,_=>rfl
  |7,_=>rfl
  |8,_=>rfl
 have pm:∀ x∈ms.map PyData.int,Th 61 100001 7 x/\Bk.SD 9 0 x:=λx hx=>by
  obtain ⟨m,hm,rfl⟩:=mem_map.mp hx;have:=o4 m hm;exact ⟨by rw [z6];omega,Bk.qM _ _ (by omega)⟩
 have lm:(ms.map PyData.int).length<=5:=by simpa using o3
 have bb:biN ((h:Int)+(l:Int)) (.int (2 ^ (h+l)))=false:=by
  rw [show (h:Int)+(l:Int)=((h+l:Nat):Int) by omega];exact NY (h+l)
 rw [jM];refine ⟨rfl,?_⟩;unfold zE dlD;simp only [dlD] at dl hp;generalize ms.map PyData.int=N at *;generalize hW:(2:Int) ^ (h+l)=W at *;refine qZ λY1 h1=>?_;have s1:slA (.tuple [.str "bits",.int (h:Int),.int (l:Int),.tuple N]) none (some (-1))=some (.tuple [.str "bits",.int (h:Int),.int (l:Int)]):=id rfl;have s2:slA (.tuple [.str "bits",.int (h:Int),.int (l:Int),.tuple N]) (some 1) none=some (.tuple [.int (h:Int),.int (l:Int),.tuple N]):=id rfl;have s3:slA (.tuple [.str "bits",.int (h:Int),.int (l:Int),.tuple N]) none (some 3)=some (.tuple [.str "bits",.int (h:Int),.int (l:Int)]):=id rfl;have k1:QP (.tuple [.str "bits",.int (h:Int),.int (l:Int),.tuple N]) (.tuple [.int 1])=some (.tuple [.str "bits",.int (h:Int),.int (l:Int),.tuple N,.int 1]):=zp (by simp)
 try simp only [Pu.pwA,jn,zO,qS,qL,s1,s2,k1]
 rw [h1];refine qZ λY2 h2=>?_;have k2:WQ (.str "bits") (.str "s")=some (.str ("bits" ++ "s")):=CI (by decide);have k3:QP (.tuple [.str ("bits" ++ "s")]) (.tuple [.int (h:Int),.int (l:Int),.tuple N])=some (.tuple [.str ("bits" ++ "s"),.int (h:Int),.int (l:Int),.tuple N]):=zp (by simp)
 try simp only [Pu.pwA,jn,zO,qS,qL,YU,JE,s2,k2,k3]
 refine ⟨by decide,?_⟩;have f6:=X3 (s:="bits") (r:=[.int (h:Int),.int (l:Int),.tuple N]) (M:=[.str "bits",.int (h:Int),.int (l:Int)]) hp (.inr (.inr (.inl rfl))) (by simp) dl (λz hz=>by simp only [mem_cons,not_mem_nil,or_false] at hz ⊢;rcases hz with rfl|rfl|rfl<;>simp) (by simp) (by rw [WL];rfl) (by rw [cons_append,WL];rfl) (by simp only [isD]);simp only [cons_append,List.nil_append] at f6;generalize hF:([PyData.list [.str (Str.ofString "bits"),.int (h:Int),.int (l:Int),.tuple N],.tuple [.str (Str.ofString "bits"),.int (h:Int),.int (l:Int)],.tuple [.str (Str.ofString "bits"),.int (h:Int),.int (l:Int),.tuple N,.int 1],.tuple [.int (h:Int),.int (l:Int),.tuple N],.tuple [.tuple [.str (Str.ofString "bits"),.int (h:Int),.int (l:Int),.tuple N]],.tuple [.str (Str.ofString "bits" ++ Str.ofString "s"),.int (h:Int),.int (l:Int),.tuple N]]:List PyData)=F at f6 ⊢;have lF:F.length=6:=by rw [← hF];rfl
 rw [h2];have ne1:¬ (Str.ofString "bits" = Str.ofString "rests"):=by decide
 have ne3:¬ (Str.ofString "bits" = Str.ofString "table"):=by decide
 have ne4:¬ (Str.ofString "bits" = Str.ofString "joined"):=by decide
 refine qZ λY3 h3=>?_
 try simp only [Pu.pwA,qkw]
 rw [h3];refine qZ λY4 h4=>?_
 try simp only [Pu.pwA,ne1,decide_false]
 rw [h4];refine qZ λY5 h5=>?_;have c0:QP (.int (h:Int)) (.int (l:Int))=some (.int ((h:Int)+(l:Int))):=id rfl
 try simp only [Pu.pwA,qS,qL,c0,wd,decide_true]
 have od:∀ o∈([.int W,.int (-1),.bool true,.none]:List PyData),(Th 61 100001 7 o/\Bk.SD 9 0 o)/\(geN 0 o=false\/biN ((h:Int)+(l:Int)) o=false):=alc ⟨⟨by rw [z6];omega,Bk.qM _ _ (by omega)⟩,.inr bb⟩ (alc ⟨⟨by rw [z6];omega,Bk.qM _ _ (by omega)⟩,.inl rfl⟩ (alc ⟨⟨qhk _,Bk.YE _ _ _⟩,.inl rfl⟩ (alc ⟨⟨qhx _,Bk.VX _ _⟩,.inl rfl⟩ al0)));have pb:=hp (.str "bits") (by simp);have ph:=hp (.int (h:Int)) (by simp);have pl:=hp (.int (l:Int)) (by simp);refine WU _ QS.mn (λi ρ m=>m=n/\∃ (F':List PyData) (s4:Sl),ρ=[.un,.sh (.tuple [.str "bits",.int (h:Int),.int (l:Int),.tuple N]),.ow F',.un,s4,.un,.sh (.int W),.un]/\F'.length=6+i/\∀ w∈F',Wr w) ⟨rfl,F,_,rfl,by omega,f6⟩ ?_ ?_
 ·rintro i o ho' ρ m ⟨rfl,F',s4,rfl,lF',hF'⟩;have hi:=(List.getElem?_eq_some_iff.mp ho').1;obtain ⟨po,no⟩:=od o (mem_of_getElem? ho');refine ⟨_,rfl,?_⟩;have k4:QP (.tuple N) (.tuple [o])=some (.tuple (N++[o])):=zp (by simp;omega);have k5:QP (.tuple [.str "bits",.int (h:Int),.int (l:Int)]) (.tuple [.tuple (N++[o])])=some (.tuple [.str "bits",.int (h:Int),.int (l:Int),.tuple (N++[o])]):=zp (by simp)
  try simp only [Pu.pwA,QS,jn,zO,qS,qL,s3,k4,k5]
  refine ⟨by simp at hi;omega,_,_,rfl,by simp;omega,ala hF' (alc (j4 (by simp) (alc pb (alc ph (alc pl (alc (MY (m:=0) (by simp;omega) (ala pm (alc po al0)) (by decide)) al0)))) ?_) al0)⟩;rw [WL];exact qej no
 ·rintro ρ m ⟨rfl,F',s4,rfl,lF',hF'⟩;have k6:QP (.tuple [.str "bits",.int (h:Int),.int (l:Int)]) (.tuple [.list N])=some (.tuple [.str "bits",.int (h:Int),.int (l:Int),.list N]):=zp (by simp);have ca:QP (.list F') (.list [.tuple [.str "bits",.int (h:Int),.int (l:Int),.list N],.tuple [.str "bits",.int (-1),.int 2,.tuple []],.tuple [.str "bits",.int 1,.bool true,.tuple []]])=some (.list (F'++[.tuple [.str "bits",.int (h:Int),.int (l:Int),.list N],.tuple [.str "bits",.int (-1),.int 2,.tuple []],.tuple [.str "bits",.int 1,.bool true,.tuple []]])):=q0 (by rw [sizeLine_eq];simp at lF' ⊢;omega)
  try simp only [Pu.pwA,jn,zO,qS,qL,s3,k6,ca]
  rw [h5];refine qZ λY6 h6=>?_
  try simp only [Pu.pwA,ne3,decide_false]
  rw [h6];refine qZ λY7 h7=>?_
  try simp only [Pu.pwA,ne4,decide_false]
  rw [h7]
  try simp only [Pu.pwA]
  have pt:Pe (.tuple []):=MY (m:=0) (by simp) al0 (by decide);have w1:Wr (.tuple [.str "bits",.int (h:Int),.int (l:Int),.list N]):=j4 (by simp) (alc pb (alc ph (alc pl (alc (qkd (m:=0) (by omega) pm (by decide)) al0)))) (by rw [WL];exact qcl);have w2:Wr (.tuple [.str "bits",.int (-1),.int 2,.tuple []]):=j4 (by simp) (alc pb (alc (JI (by omega)) (alc (JI (by omega)) (alc pt al0)))) (by rw [WL];exact qkm);have w3:Wr (.tuple [.str "bits",.int 1,.bool true,.tuple []]):=j4 (by simp) (alc pb (alc (JI (by omega)) (alc qkc (alc pt al0)))) (by rw [WL];exact qkB);exact ⟨m+2,by omega,hQ _ (by simp at lF' ⊢;omega) (ala hF' (alc w1 (alc w2 (alc w3 al0))))⟩
def qkW:inD false (.str "table") (.tuple [.str "skew",.str "rests"])=some (.bool false):=(q0 (by simp [U4])).trans rfl
def Rw (x:PyData):Prop:=∃ xs:List PyData,x=.tuple xs/\xs.length<=60/\∀ y∈xs,Th 61 100001 6 y/\Bk.SD 8 20 y
def MQ (R:List PyData):∃ M,slA (.tuple R) none (some (-1))=some (.tuple M)/\M.length<=R.length/\∀ x∈M,x∈R:=⟨_,CZ,qc7 R _ _,λx hx=>qb2 hx⟩
def NJ {xs:List PyData} (hl:xs.length<=61) (h:∀ y∈xs,Th 61 100001 6 y/\Bk.SD 8 20 y):Th 61 100001 7 (.tuple xs)/\Bk.SD 9 1300 (.tuple xs):=by
 refine ⟨UH hl λy hy=>(h y hy).1,(Bk.qQ (Bk.je λy hy=>(h y hy).2)).mono (by decide) ?_⟩;have:=Nat.mul_le_mul hl (Nat.le_refl (20+1));omega
def qbO {R:List PyData} (h:∀ x∈R,Rw x):∀ x∈R,Th 61 100001 7 x/\Bk.SD 9 1300 x:=λx hx=>by
 obtain ⟨xs,rfl,hl,hy⟩:=h x hx;exact NJ (by omega) hy
def qcu {R:List PyData} (h:1<=R.length):∃ x∈R,ixD (.tuple R) (.int (-1))=some x:=by
 have:=Pu.qg7 (xs:=R) (j:=1) (Nat.le_refl _) h;have hl:R.length-1<R.length:=by omega
 rw [getElem?_eq_getElem hl] at this;exact ⟨_,List.getElem_mem hl,by rw [NI];exact this⟩
def qcq {b:Int} {cells:List (List Int)} (ok:(Dl.table b cells).Ok):(∀ x∈cells.map SU,Rw x)/\1<=(cells.map SU).length/\(cells.map SU).length<=60/\∃ x xs rs,cells.map SU=.tuple (x::xs)::rs:=by
 obtain ⟨h1,h2,h3,h4,c,c1,c2,hr⟩:=ok;refine ⟨λx hx=>?_,by simpa using h3,by simpa using h4,?_⟩
 ·obtain ⟨row,hrow,rfl⟩:=mem_map.mp hx;obtain ⟨l1,hv⟩:=hr row hrow;refine ⟨_,rfl,by simp;omega,λy hy=>?_⟩;obtain ⟨z,hz,rfl⟩:=mem_map.mp hy;have:=hv z hz;exact ⟨by rw [z6];omega,Bk.qM _ _ (by omega)⟩
 ·cases cells with
  |nil=>simp at h3
  |cons row rows=>
   obtain ⟨l1,_⟩:=hr row (by simp);cases row with
   |nil=>simp at l1;omega
   |cons x xs=>exact ⟨_,_,_,rfl⟩
def qla {b:Int} {cells:List (List Int)} {n:Nat} {Q:QD} (ok:(Dl.table b cells).Ok) (hn:n<900000) (hQ:∀ ws:List PyData,ws.length<=40->(∀ w∈ws,Wr w)->Q (.list ws) (n+2)):zc.W [dlD (.table b cells)] n Q:=by
 have dl:=RB ok (by simp [Dl.dep]);obtain ⟨ds,eq,hl,hp⟩:=YW ok (by simp [Dl.dep]);cases eq;obtain ⟨hR,l1,l2,x0,xs0,rs0,e0⟩:=qcq ok;have pb1:-100001<=b/\b<=100001:=by obtain ⟨o1,o2,_⟩:=ok;omega
 rw [jM];refine ⟨rfl,?_⟩;unfold zE dlD;simp only [dlD] at dl hp;generalize cells.map SU=R at *;obtain ⟨M,sM,lM,hM⟩:=MQ R;obtain ⟨xl,hxl,ixl⟩:=qcu l1;obtain ⟨xs,rfl,lxs,hxs⟩:=hR xl hxl;obtain ⟨X,sX,lX,hX⟩:=MQ xs;have aR:=qbO hR;refine qZ λY1 h1=>?_;have s1:slA (.tuple [.str "table",.int b,.tuple R]) none (some (-1))=some (.tuple [.str "table",.int b]):=id rfl;have s2:slA (.tuple [.str "table",.int b,.tuple R]) (some 1) none=some (.tuple [.int b,.tuple R]):=id rfl;have s3:slA (.tuple [.str "table",.int b,.tuple R]) none (some 2)=some (.tuple [.str "table",.int b]):=id rfl;have k1:QP (.tuple [.str "table",.int b,.tuple R]) (.tuple [.int 1])=some (.tuple [.str "table",.int b,.tuple R,.int 1]):=zp (by simp)
 try simp only [Pu.pwA,jn,zO,qS,qL,s1,s2,k1]
 rw [h1];refine qZ λY2 h2=>?_;have k2:WQ (.str "table") (.str "s")=some (.str ("table" ++ "s")):=CI (by decide);have k3:QP (.tuple [.str ("table" ++ "s")]) (.tuple [.int b,.tuple R])=some (.tuple [.str ("table" ++ "s"),.int b,.tuple R]):=zp (by simp)
 try simp only [Pu.pwA,jn,zO,qS,qL,YU,JE,s2,k2,k3]
 refine ⟨by decide,?_⟩;have f6:=X3 (s:="table") (r:=[.int b,.tuple R]) (M:=[.str "table",.int b]) hp (.inr (.inr (.inr (.inl rfl)))) (by simp) dl (λz hz=>by simp only [mem_cons,not_mem_nil,or_false] at hz ⊢;rcases hz with rfl|rfl<;>simp) (by simp) (by rw [DA];rfl) (by rw [cons_append,DA,e0];rfl) (by simp only [isD]);simp only [cons_append,List.nil_append] at f6;generalize hF:([PyData.list [.str (Str.ofString "table"),.int b,.tuple R],.tuple [.str (Str.ofString "table"),.int b],.tuple [.str (Str.ofString "table"),.int b,.tuple R,.int 1],.tuple [.int b,.tuple R],.tuple [.tuple [.str (Str.ofString "table"),.int b,.tuple R]],.tuple [.str (Str.ofString "table" ++ Str.ofString "s"),.int b,.tuple R]]:List PyData)=F at f6 ⊢;have lF:F.length=6:=by rw [← hF];rfl
 rw [h2];have ne1:¬ (Str.ofString "table" = Str.ofString "rests"):=by decide
 have ne3:¬ (Str.ofString "table" = Str.ofString "bits"):=by decide
 have ne4:¬ (Str.ofString "table" = Str.ofString "joined"):=by decide
 refine qZ λY3 h3=>?_
 try simp only [Pu.pwA,qkW]
 rw [h3];refine qZ λY4 h4=>?_
 try simp only [Pu.pwA,ne1,decide_false]
 rw [h4];refine qZ λY5 h5=>?_
 try simp only [Pu.pwA,ne3,decide_false]
 rw [h5];refine qZ λY6 h6=>?_
 try simp only [Pu.pwA,decide_true]
 have od:∀ o∈([.int b,.int (-1),.bool true,.str "0"]:List PyData),(Th 61 100001 6 o/\Bk.SD 8 20 o)/\(geN 0 o=false\/ltN b o=false):=alc ⟨⟨by rw [z6];omega,Bk.qM _ _ (by omega)⟩,.inr qkT⟩ (alc ⟨⟨by rw [z6];omega,Bk.qM _ _ (by omega)⟩,.inl rfl⟩ (alc ⟨⟨qhk _,Bk.YE _ _ _⟩,.inl rfl⟩ (alc ⟨⟨by rw [TM];exact ⟨by decide,by decide⟩,Bk.QF _ _ (by decide) (by decide)⟩,.inl rfl⟩ al0)));have pb:=hp (.str "table") (by simp);have ph:=hp (.int b) (by simp);refine WU _ QW.mn (λi ρ m=>m=n/\∃ (F':List PyData) (s4:Sl),ρ=[.un,.sh (.tuple [.str "table",.int b,.tuple R]),.ow F',.un,s4,.un,.un,.sh (.tuple R)]/\F'.length=6+i/\∀ w∈F',Wr w) ⟨rfl,F,_,rfl,by omega,f6⟩ ?_ ?_
 ·rintro i o ho' ρ m ⟨rfl,F',s4,rfl,lF',hF'⟩;have hi:=(List.getElem?_eq_some_iff.mp ho').1;obtain ⟨po,no⟩:=od o (mem_of_getElem? ho');refine ⟨_,rfl,?_⟩;have k4:QP (.tuple X) (.tuple [o])=some (.tuple (X++[o])):=zp (by simp;omega);have k5:QP (.tuple M) (.tuple [.tuple (X++[o])])=some (.tuple (M++[.tuple (X++[o])])):=zp (by simp;omega);have k6:QP (.tuple [.str "table",.int b]) (.tuple [.tuple (M++[.tuple (X++[o])])])=some (.tuple [.str "table",.int b,.tuple (M++[.tuple (X++[o])])]):=zp (by simp)
  try simp only [Pu.pwA,QW,jn,zO,qS,qL,s3,sM,sX,ixl,k4,k5,k6]
  refine ⟨by simp at hi;omega,_,_,rfl,by simp;omega,ala hF' (alc (j4 (by simp) (alc pb (alc ph (alc (MY (m:=1300) (by simp;omega) (ala (λx hx=>aR x (hM x hx)) (alc (NJ (by simp;omega) (ala (λy hy=>hxs y (hX y hy)) (alc po al0))) al0)) (by decide)) al0))) ?_) al0)⟩;rw [DA];exact qaE (d:=.tuple (X++[o])) (by simp) λ_=>qcO no
 ·rintro ρ m ⟨rfl,F',s4,rfl,lF',hF'⟩;have ix0:ixD (.tuple R) (.int 0)=some (.tuple (x0::xs0)):=by rw [e0,NI,at0]
  have r0:∃ ys,PyData.tuple (x0::xs0)=.tuple ys/\ys.length<=60/\∀ y∈ys,Th 61 100001 6 y/\Bk.SD 8 20 y:=hR _ (by rw [e0];simp);obtain ⟨ys,ey,ly,hy⟩:=r0;cases ey;have k4:QP (.tuple (x0::xs0)) (.tuple [.int 0])=some (.tuple (x0::(xs0++[.int 0]))):=zp (by simp at ly ⊢;omega);have k5:QP (.tuple R) (.tuple [.tuple (x0::(xs0++[.int 0]))])=some (.tuple (R++[.tuple (x0::(xs0++[.int 0]))])):=zp (by simp;omega);have k6:QP (.tuple [.str "table",.int b]) (.tuple [.tuple (R++[.tuple (x0::(xs0++[.int 0]))])])=some (.tuple [.str "table",.int b,.tuple (R++[.tuple (x0::(xs0++[.int 0]))])]):=zp (by simp);have k7:QP (.tuple R) (.tuple [.list [.int 0]])=some (.tuple (R++[.list [.int 0]])):=zp (by simp;omega);have k8:QP (.tuple [.str "table",.int b]) (.tuple [.tuple (R++[.list [.int 0]])])=some (.tuple [.str "table",.int b,.tuple (R++[.list [.int 0]])]):=zp (by simp);have k9:QP (.tuple [.str "table",.int b]) (.tuple [.list R])=some (.tuple [.str "table",.int b,.list R]):=zp (by simp);have w1:Wr (.tuple [.str "table",.int b,.tuple (R++[.tuple (x0::(xs0++[.int 0]))])]):=j4 (by simp) (alc pb (alc ph (alc (MY (m:=1300) (by simp;omega) (ala aR (alc (NJ (by simp at ly ⊢;omega) (ala (x:=x0::xs0) hy (alc ⟨by rw [z6];omega,Bk.qM _ _ (by omega)⟩ al0))) al0)) (by decide)) al0))) (by rw [DA,e0];exact qbS);have pt:Th 61 100001 7 (.tuple [])/\Bk.SD 9 1300 (.tuple []):=NJ (by simp) al0;have w2:Wr (.tuple [.str "table",.int 2,.tuple []]):=j4 (by simp) (alc pb (alc (JI (by omega)) (alc (MY (m:=0) (by simp) al0 (by decide)) al0))) (by rw [DA];exact qkX);have w3:Wr (.tuple [.str "table",.int 2,.tuple [.tuple [],.tuple []]]):=j4 (by simp) (alc pb (alc (JI (by omega)) (alc (MY (m:=1300) (by simp) (alc pt (alc pt al0)) (by decide)) al0))) (by rw [DA];exact qkQ);have w4:Wr (.tuple [.str "table",.int 0,.tuple R]):=j4 (by simp) (alc pb (alc (JI (by omega)) (alc (hp _ (by simp)) al0))) (by rw [DA];exact qli);have w5:Wr (.tuple [.str "table",.int b,.list R]):=j4 (by simp) (alc pb (alc ph (alc (qkd (m:=1300) (by omega) aR (by decide)) al0))) (by rw [DA];exact qcf);have w6:Wr (.tuple [.str "table",.int b,.tuple (R++[.list [.int 0]])]):=j4 (by simp) (alc pb (alc ph (alc (MY (m:=1300) (by simp;omega) (ala aR (alc ⟨qiM (by simp) (alc (by rw [z6];omega) al0),(Bk.JD (k:=8) (Bk.je (n:=0) (alc (Bk.qM _ _ (by omega)) al0))).mono (by decide) (by simp)⟩ al0)) (by decide)) al0))) (by rw [DA];exact qhX);generalize hA:PyData.tuple [.str (Str.ofString "table"),.int b,.tuple (R++[.tuple (x0::(xs0++[.int 0]))])]=A1 at k6 w1;generalize hA4:PyData.tuple [.str (Str.ofString "table"),.int 0,.tuple R]=A4 at w4;generalize hA5:PyData.tuple [.str (Str.ofString "table"),.int b,.list R]=A5 at k9 w5;generalize hA6:PyData.tuple [.str (Str.ofString "table"),.int b,.tuple (R++[.list [.int 0]])]=A6 at k8 w6;have ca:QP (.list F') (.list [A1,.tuple [.str "table",.int 2,.tuple []],.tuple [.str "table",.int 2,.tuple [.tuple [],.tuple []]]])=some (.list (F'++[A1,.tuple [.str "table",.int 2,.tuple []],.tuple [.str "table",.int 2,.tuple [.tuple [],.tuple []]]])):=q0 (by rw [sizeLine_eq];simp at lF' ⊢;omega);have fA:∀ w∈F'++[A1,.tuple [.str "table",.int 2,.tuple []],.tuple [.str "table",.int 2,.tuple [.tuple [],.tuple []]]],Wr w:=ala hF' (alc w1 (alc w2 (alc w3 al0)));have lA:(F'++[A1,.tuple [.str "table",.int 2,.tuple []],.tuple [.str "table",.int 2,.tuple [.tuple [],.tuple []]]]).length<=20:=by simp at lF' ⊢;omega
  generalize F'++[A1,.tuple [.str "table",.int 2,.tuple []],.tuple [.str "table",.int 2,.tuple [.tuple [],.tuple []]]]=G at ca fA lA;have cb:QP (.list G) (.list [A4,A5,A6])=some (.list (G++[A4,A5,A6])):=q0 (by rw [sizeLine_eq];simp;omega)
  try simp only [Pu.pwA,jn,zO,qS,qL,s3,ix0,k4,k5,k6,ca,hA4,k9,k7,k8,cb]
  rw [h6];refine qZ λY7 h7=>?_
  try simp only [Pu.pwA,ne4,decide_false]
  rw [h7]
  try simp only [Pu.pwA]
  exact ⟨m+2,by omega,hQ _ (by simp;omega) (ala fA (alc w4 (alc w5 (alc w6 al0))))⟩
end K01
namespace K01
open PySem L2 L3 Pu Pv
open Bk (Dl SD SDs qM QF VX YE qQ JD)
def Fi (d:PyData):Prop:=qg 18 [d]=some (.bool true)
def Od (d:PyData):Prop:=qg 18 [d]=some (.bool false)/\∃ x,WI false [d]=some (.str x)
def qb7 {d:PyData} (h:Wr d):Od d:=by
 refine ⟨?_,MO h.th (by decide) h.sd h.ns⟩;have:=EX (j:=18) (by decide) (by decide) h.th (by decide);rw [this,h.no]
def D9 {j:Nat} {a b:PyData} {u v:Bool} (ha:qg j [a]=some (.bool u)) (hb:qg j [b]=some (.bool v)) (eu:isD j a=u) (ev:isD j b=v):qg (j+1) [.tuple [.str "joined",a,b]]=some (.bool (u&&v)):=by
 have l0:¬ (((0+1+1+1:Nat):Int)=0):=by decide
 have f5:=qf8 (k:=.str "joined") (G:=qg j) (j:=j) (r:=[a,b]) (alc (by rw [eu];exact ha) (alc (by rw [ev];exact hb) al0));have ej:jnW (isD j) [a,b]=(u&&v):=by rw [← eu,← ev];rfl
 rw [ej] at f5;have n1:¬ (Str.ofString "joined" = Str.ofString "skew"):=by decide
 have n2:¬ (Str.ofString "joined" = Str.ofString "rests"):=by decide
 have n3:¬ (Str.ofString "joined" = Str.ofString "bits"):=by decide
 have n4:¬ (Str.ofString "joined" = Str.ofString "table"):=by decide
 rw [jV]
 try simp only [Pu.pwA,qv,c6,l0,jt,TY,f5,n1,n2,n3,n4,length_cons,length_nil,decide_true,decide_false,Bool.not_true]
def qjH {c:Nat} {x:PyData} {P:Nat->PyData->Prop} {Q:QD} (h:P 0 x) (s1:∀ i y,i<15->P i y->P (i+1) (.tuple [.str "joined",y,qaG])) (s2:∀ i y,i<15->P i y->P (i+1) (.tuple [.str "joined",qaG,y])) (hc:c<900000) (hQ:∀ r,P 15 r->Q r (c+15)):zI.W [x] c Q:=by
 rw [C4];refine ⟨rfl,?_⟩;unfold JV;refine qZ λY1 h1=>?_
 try simp (disch:=omega) only [Pu.pwA,qlg]
 refine WD (qbt 0 (15:Int).toNat) ZA.mn (λi ρ m=>m<=c+i/\∃ (y:PyData) (s2 s3:Sl),ρ=[.un,.sh y,s2,s3]/\P i y) ⟨by omega,x,_,_,rfl,h⟩ ?_ ?_
 ·rintro i z ρ m hx ⟨hm,y,t2,t3,rfl,py⟩;have hi:i<15:=by have:=(List.getElem?_eq_some_iff.mp hx).1;rw [qjR] at this;exact this
  refine ⟨_,rfl,?_⟩;unfold ZA;refine qZ λZ1 g1=>?_
  try simp only [Pu.pwA]
  rw [g1]
  try simp only [Pu.pwA]
  refine ⟨by omega,by omega,λu u0 u1=>?_⟩;refine qiY (P:=λw=>_) 2 rfl u0 u1 λw hw=>?_;rw [qbX rfl];refine ⟨by omega,w,_,_,rfl,?_⟩
  revert w
  exact alc (s1 i y hi py) (alc (s2 i y hi py) al0)
 ·rintro ρ m ⟨hm,y,t2,t3,rfl,py⟩;rw [qjR] at hm py;have e:(15:Int).toNat=15:=rfl;rw [e] at hm py
  try simp only [Pu.pwA]
  rw [h1]
  try simp only [Pu.pwA]
  exact ⟨_,by omega,hQ y py⟩
def qaY (j:Nat):qg (j+1) [qaG]=some (.bool true):=by
 have h1:∀ d∈([.int 1,.int 1,.int 1,.int 0,.int 0]:List PyData),Th 10 10 0 d:=alc (by rw [z6];omega) (alc (by rw [z6];omega) (alc (by rw [z6];omega) (alc (by rw [z6];omega) (alc (by rw [z6];omega) al0))));have:=WH (j:=j) (s:="skew") (by decide) h1 (by decide) (by decide);have e:=XU j;unfold qaG at e ⊢;rw [this,e]
def qh5 {d:Dl} (ok:d.Ok) (h:d.dep=0):qg 3 [dlD d]=some (.bool true)/\isD 3 (dlD d)=true:=by
 have hi:=U5 d ok 3 (by omega);refine ⟨?_,hi⟩;have ht:=DC d ok;rw [h] at ht;cases d with
 |skew r c b x y=>
  rw [← hi];exact WH (j:=2) (s:="skew") (n:=2) (by decide) (λd hd=>ht.2 d (by simp [hd])) (by decide) (by decide)
 |bits a l ms=>
  rw [← hi];exact WH (j:=2) (s:="bits") (n:=2) (by decide) (λd hd=>ht.2 d (by simp [hd])) (by decide) (by decide)
 |table b cells=>
  rw [← hi];exact WH (j:=2) (s:="table") (n:=2) (by decide) (λd hd=>ht.2 d (by simp [hd])) (by decide) (by decide)
 |rests r c b p=>
  rw [← hi];simp only [Dl.Ok] at ok;refine EX (L:=60) (B:=100000) (n:=1) (by decide) (by decide) ?_ (by decide);exact UH (by simp) (alc (by rw [TM];exact ⟨by decide,by decide⟩) (alc (by rw [z6];omega) (alc (by rw [z6];omega) (alc (by rw [z6];omega) (alc (by rw [z6];omega) al0)))))
 |joined a e=>simp [Dl.dep] at h
def qhO {c:Nat} {d:Dl} {Q:QD} (ok:d.Ok) (h:d.dep=0) (hc:c<900000) (hQ:∀ r,Fi r->Q r (c+15)):zI.W [dlD d] c Q:=by
 refine qjH (P:=λi y=>qg (i+3) [y]=some (.bool true)/\isD (i+3) y=true) (qh5 ok h) (λi y _ hy=>⟨?_,?_⟩) (λi y _ hy=>⟨?_,?_⟩) hc λr hr=>hQ r hr.1
 ·exact D9 hy.1 (qaY _) hy.2 (XU _)
 ·show isD (i+3+1) _=true;rw [U3,hy.2];exact XU _
 ·exact D9 (qaY _) hy.1 (XU _) hy.2
 ·show isD (i+3+1) _=true;rw [U3,hy.2,Bool.and_true];exact XU _
def qaZ (k:Nat):SD (k+1) 100 qaG:=(qQ (Bk.je (n:=10) (alc (QF _ _ (by decide) (by decide)) (alc (qM _ _ (by omega)) (alc (qM _ _ (by omega)) (alc (qM _ _ (by omega)) (alc (qM _ _ (by omega)) (alc (qM _ _ (by omega)) al0)))))))).mono (Nat.le_refl _) (by simp)
def qic {c:Nat} {Q:QD} (hc:c<900000) (hQ:∀ r,Od r->Q r (c+15)):zI.W [.tuple [.str "skew",.int 1,.int 1,.int 1,.int 0]] c Q:=by
 have js:∀ m,Th 61 100001 m (.str "joined"):=λm=>by rw [TM];exact ⟨by decide,by decide⟩
 have sj:∀ k,SD k 20 (.str "joined"):=λk=>QF _ _ (by decide) (by decide);refine qjH (P:=λi y=>Th 61 100001 (i+1) y/\SD (i+1) (200*i+200) y/\isD (i+3) y=false/\∃ ds,y=.tuple ds) ⟨?_,?_,?_,_,rfl⟩ (λi y _ hy=>⟨?_,?_,?_,_,rfl⟩) (λi y _ hy=>⟨?_,?_,?_,_,rfl⟩) hc λr hr=>hQ r ?_
 ·exact UH (by simp) (alc (by rw [TM];exact ⟨by decide,by decide⟩) (alc (by rw [z6];omega) (alc (by rw [z6];omega) (alc (by rw [z6];omega) (alc (by rw [z6];omega) al0)))))
 ·exact (qQ (Bk.je (n:=10) (alc (QF _ _ (by decide) (by decide)) (alc (qM _ _ (by omega)) (alc (qM _ _ (by omega)) (alc (qM _ _ (by omega)) (alc (qM _ _ (by omega)) al0))))))).mono (Nat.le_refl _) (by simp)
 ·show isD (2+1) _=false;rw [L9];rfl
 ·exact UH (by simp) (alc (js _) (alc hy.1 (alc (qbN (by decide) (by decide)) al0)))
 ·exact qQ (Bk.qy (sj _) (Bk.qy hy.2.1 (Bk.qy (qaZ i) (Bk.ZU _ 0) (Nat.le_refl _)) (Nat.le_refl _)) (by omega))
 ·show isD (i+3+1) _=false;rw [U3,hy.2.2.1,Bool.false_and]
 ·exact UH (by simp) (alc (js _) (alc (qbN (by decide) (by decide)) (alc hy.1 al0)))
 ·exact qQ (Bk.qy (sj _) (Bk.qy (qaZ i) (Bk.qy hy.2.1 (Bk.ZU _ 0) (Nat.le_refl _)) (Nat.le_refl _)) (by omega))
 ·show isD (i+3+1) _=false;rw [U3,hy.2.2.1,Bool.and_false]
 ·obtain ⟨h1,h2,h3,ds,rfl⟩:=hr;refine ⟨?_,MO h1 (by decide) (h2.mono (by decide) (by decide)) λx e=>by cases e⟩;have:=EX (j:=18) (by decide) (by decide) h1 (by decide);rw [this,h3]
def qjn {d:Dl} (ok:d.Ok) (h:d.dep<=2):Fi (dlD d):=by
 have:=EX (j:=18) (by decide) (by decide) (DC d ok) (by omega);rw [U5 d ok 18 (by omega)] at this;exact this
def qiW {d e:Dl} (ok:d.Ok) (h:d.dep<=2) (ok2:e.Ok) (h2:e.dep=0):Fi (.tuple [.str "joined",dlD d,.tuple [.str "joined",dlD e,dlD d]]):=by
 have a:=EX (j:=16) (by decide) (by decide) (DC d ok) (by omega);have a':=U5 d ok 16 (by omega);have b:=EX (j:=16) (by decide) (by decide) (DC e ok2) (by omega);have b':=U5 e ok2 16 (by omega);have c:=EX (j:=17) (by decide) (by decide) (DC d ok) (by omega);have c':=U5 d ok 17 (by omega);rw [a'] at a;rw [b'] at b;rw [c'] at c;have m:=D9 b a b' a';exact D9 c m c' (by rw [U3,b',a'];rfl)
def qjA {g:Int} (h:10<=g):Fi (.tuple [.str "skew",.int g,.int 1,.int g,.int g,.int 0]):=by
 have:=WH (j:=17) (s:="skew") (r:=[.int g,.int 1,.int g,.int g,.int 0]) (L:=10) (B:=g.toNat) (n:=0) (by decide) (alc (by rw [z6];omega) (alc (by rw [z6];omega) (alc (by rw [z6];omega) (alc (by rw [z6];omega) (alc (by rw [z6];omega) al0))))) (by decide) (by decide);rw [qer (by omega)] at this;exact this
def qiZ {g:Int} (h:10<=g):Fi (.tuple [.str "table",.int g,.tuple [.tuple [.int 0,.int (g-1)],.tuple [.int 1,.int 2]]]):=by
 have:=WH (j:=17) (s:="table") (r:=[.int g,.tuple [.tuple [.int 0,.int (g-1)],.tuple [.int 1,.int 2]]]) (L:=10) (B:=g.toNat) (n:=2) (by decide) (alc (by rw [z6];omega) (alc (UH (by simp) (alc (UH (by simp) (alc (by rw [z6];omega) (alc (by rw [z6];omega) al0))) (alc (UH (by simp) (alc (by rw [z6];omega) (alc (by rw [z6];omega) al0))) al0))) al0)) (by decide) (by decide);rw [qgV (by omega)] at this;exact this
def qil:Fi (.tuple [.str "bits",.int 0,.int 0,.tuple [.int 0,.int 0]]):=by
 have:=WH (j:=17) (s:="bits") (r:=[.int 0,.int 0,.tuple [.int 0,.int 0]]) (L:=10) (B:=10) (n:=1) (by decide) (alc (by rw [z6];omega) (alc (by rw [z6];omega) (alc (UH (by simp) (alc (by rw [z6];omega) (alc (by rw [z6];omega) al0))) al0))) (by decide) (by decide);rw [qfj] at this;exact this
def W99:Int:=633825300114114700748351602688
def qik:Fi (.tuple [.str "bits",.int 60,.int 39,.tuple [.int (W99/2),.int (W99-1)]]):=by
 have:=WH (j:=17) (s:="bits") (r:=[.int 60,.int 39,.tuple [.int (W99/2),.int (W99-1)]]) (L:=10) (B:=W99.toNat) (n:=1) (by decide) (alc (by rw [z6];decide) (alc (by rw [z6];decide) (alc (UH (by simp) (alc (by rw [z6];decide) (alc (by rw [z6];decide) al0))) al0))) (by decide) (by decide);have e:btW [.int 60,.int 39,.tuple [.int (W99/2),.int (W99-1)]]=true:=by decide +kernel
 rw [WL,e] at this;exact this
def qjd:Od (.tuple [.str "bits",.int 60,.int 39,.tuple [.int W99]]):=by
 have:=WH (j:=17) (s:="bits") (r:=[.int 60,.int 39,.tuple [.int W99]]) (L:=10) (B:=W99.toNat) (n:=1) (by decide) (alc (by rw [z6];decide) (alc (by rw [z6];decide) (alc (UH (by simp) (alc (by rw [z6];decide) al0)) al0))) (by decide) (by decide);have e:btW [.int 60,.int 39,.tuple [.int W99]]=false:=by decide +kernel
 rw [WL,e] at this;exact ⟨this,_,qaM ⟨by decide +kernel,by decide +kernel,by decide +kernel,by decide +kernel⟩⟩
def qkt {i:Int} (h:-1000<=i/\i<=1000):Od (.int i):=by
 refine ⟨?_,_,qbp (by omega)⟩;exact EX (L:=10) (B:=1000) (n:=0) (j:=18) (by decide) (by decide) (by rw [z6];omega) (by decide)
def qkv:Od .none:=⟨EX (L:=10) (B:=1000) (n:=0) (j:=18) (by decide) (by decide) (qhx _) (by decide),_,qaF⟩
def qkD:Od (.str "skew"):=⟨EX (L:=10) (B:=1000) (n:=0) (j:=18) (by decide) (by decide) (by rw [TM];exact ⟨by decide,by decide⟩) (by decide),_,q0 (by decide +kernel)⟩
def qhp {ds:List PyData} (hl:ds.length<=7) (h:∀ x∈ds,Pe x) (no:isD 18 (.tuple ds)=false):Od (.tuple ds):=qb7 (j4 hl h no)
def qhU {d:Dl} {n:Nat} {Q:QD} (ok:d.Ok) (h:d.dep<=2) (hn:n<900000) (hQ:∀ ws:List PyData,ws.length<=40->(∀ w∈ws,Wr w)->Q (.list ws) (n+2)):zc.W [dlD d] n Q:=by
 cases d with
 |skew r c b x y=>exact qkz ok hn hQ
 |rests r c b p=>exact qkG ok hn hQ
 |bits a l ms=>exact qkp ok hn hQ
 |table b cells=>exact qla ok hn hQ
 |joined a e=>exact qk1 ok h hn hQ
def qju:∀ d∈([.none,.int 3,.str "skew",.tuple [],.list [],.tuple [.str ""],.tuple [.none,.int 1],.tuple [.str "joined"],.tuple [.str "bits",.int 60,.int 39,.tuple [.int W99]]]:List PyData),Od d:=by
 have ps:∀ x:Str,(x.cps.size<=20/\(x.cps.toList.all λc=>decide (c<16 ^ 8))=true)->Pe (.str x):=λx h=>NB h;refine alc qkv (alc (qkt (by omega)) (alc qkD (alc (qhp (by simp) al0 rfl) (alc (qb7 (qen (by simp) al0)) (alc (qhp (by simp) (alc (ps _ ⟨by decide,by decide⟩) al0) ?_) (alc (qhp (by simp) (alc qiB (alc (JI (by omega)) al0)) ?_) (alc (qhp (by simp) (alc (ps _ ⟨by decide,by decide⟩) al0) ?_) (alc qjd al0))))))))
 ·decide +kernel
 ·simp only [isD]
 ·rw [qcb];rfl
def qgL {r:PyData} {ρ:Rho}:dmS [] r ρ=ρ:=by
 unfold dmS;split<;>first|rfl|exact qiJ
def qdB:∀ k:Nat,k<=60->M5.w [.un,.sh (.int k),.un,.un,.un,.un,.un,.un,.un,.un] 0 okW:=by
 intro k hk;unfold M5;refine qZ λY1 h1=>?_
 try simp only [Pu.pwA]
 refine ⟨by omega,λd D dd=>?_⟩;have ok:=D.ok;have fd:=qjn ok dd;have ed:∀ ds,dlD d=.tuple ds->∃ ds,dlD d=.tuple ds:=λds h=>⟨ds,h⟩
 try simp only [Pu.pwA]
 rw [h1];refine qZ λY2 h2=>?_;obtain ⟨g0,hg0,eg⟩:∃ g0:Int,1000<=g0/\cI XZ (λi j=>i ^ j.toNat) (.int 10) (.int 30)=some (.int g0):=⟨_,by decide,XN ⟨by decide,by decide,by decide⟩⟩
 try simp only [Pu.pwA,eg]
 refine ⟨by omega,by omega,λu u0 u1=>?_⟩
 try simp only [Pu.pwA]
 rw [h2];have hg:10<=g0+u:=by omega
 generalize g0+u=g at *;refine qZ λY3 h3=>?_
 try simp only [Pu.pwA]
 refine ⟨by omega,λe E he=>?_⟩;have fj:=qiW ok dd E.ok he
 try simp only [Pu.pwA]
 rw [h3];refine qZ λY4 h4=>?_
 try simp only [Pu.pwA]
 refine ⟨by decide,?_⟩
 try simp only [Pu.pwA]
 rw [h4];have f3:∀ x∈([dlD d,.tuple [.str "joined",dlD d,.tuple [.str "joined",dlD e,dlD d]],.tuple [.str "skew",.int g,.int 1,.int g,.int g,.int 0]]:List PyData),Fi x:=alc fd (alc fj (alc (qjA hg) al0));generalize hA:([dlD d,.tuple [.str (Str.ofString "joined"),dlD d,.tuple [.str (Str.ofString "joined"),dlD e,dlD d]],.tuple [.str (Str.ofString "skew"),.int g,.int 1,.int g,.int g,.int 0]]:List PyData)=A at f3 ⊢;have lA:A.length=3:=by rw [← hA];rfl
 refine qZ λY5 h5=>?_;have m1:cI YO (·*·) (.int 2) (.int g)=some (.int (2*g)):=CU (by omega);have c1:qdp (.list A) (.list [.tuple [.str "rests",.int g,.int 2,.int (2*g),.int 1],.tuple [.str "bits",.int 0,.int 0,.tuple [.int 0,.int 0]]])=some (.list (A++[.tuple [.str "rests",.int g,.int 2,.int (2*g),.int 1],.tuple [.str "bits",.int 0,.int 0,.tuple [.int 0,.int 0]]])):=qaL (by simp;omega)
 try simp only [Pu.pwA,m1,c1]
 rw [h5];have f5:∀ x∈A++([.tuple [.str "rests",.int g,.int 2,.int (2*g),.int 1],.tuple [.str "bits",.int 0,.int 0,.tuple [.int 0,.int 0]]]:List PyData),Fi x:=ala f3 (alc (qii (j:=17) (by omega)) (alc qil al0));have lB:(A++([.tuple [.str "rests",.int g,.int 2,.int (2*g),.int 1],.tuple [.str "bits",.int 0,.int 0,.tuple [.int 0,.int 0]]]:List PyData)).length=5:=by simp;omega
 generalize A++([.tuple [.str "rests",.int g,.int 2,.int (2*g),.int 1],.tuple [.str "bits",.int 0,.int 0,.tuple [.int 0,.int 0]]]:List PyData)=B at *;refine qZ λY6 h6=>?_;have p1:cI XZ (λi j=>i ^ j.toNat) (.int 2) (.int 60)=some (.int 1152921504606846976):=XN ⟨by decide,by decide,by decide⟩;have p2:cI XZ (λi j=>i ^ j.toNat) (.int 2) (.int 39)=some (.int 549755813888):=XN ⟨by decide,by decide,by decide⟩;have p3:cI YO (·*·) (.int 1152921504606846976) (.int 549755813888)=some (.int W99):=XN (.inr ⟨by decide,by decide⟩)
 try simp only [Pu.pwA,p1,p2,p3]
 rw [h6];refine qZ λY7 h7=>?_;have p4:cI KC (·/·) (.int W99) (.int 2)=some (.int (W99/2)):=XN ⟨by decide,by decide⟩;have b9:=qik;have o9:=qju;generalize W99/2=Wh at *;generalize W99=W at *;have c2:qdp (.list B) (.list [.tuple [.str "table",.int g,.tuple [.tuple [.int 0,.int (g-1)],.tuple [.int 1,.int 2]]],.tuple [.str "bits",.int 60,.int 39,.tuple [.int Wh,.int (W-1)]]])=some (.list (B++[.tuple [.str "table",.int g,.tuple [.tuple [.int 0,.int (g-1)],.tuple [.int 1,.int 2]]],.tuple [.str "bits",.int 60,.int 39,.tuple [.int Wh,.int (W-1)]]])):=qaL (by simp;omega)
 try simp only [Pu.pwA,p4,c2]
 rw [h7];have f7:∀ x∈B++([.tuple [.str "table",.int g,.tuple [.tuple [.int 0,.int (g-1)],.tuple [.int 1,.int 2]]],.tuple [.str "bits",.int 60,.int 39,.tuple [.int Wh,.int (W-1)]]]:List PyData),Fi x:=ala f5 (alc (qiZ hg) (alc b9 al0));have lC:(B++([.tuple [.str "table",.int g,.tuple [.tuple [.int 0,.int (g-1)],.tuple [.int 1,.int 2]]],.tuple [.str "bits",.int 60,.int 39,.tuple [.int Wh,.int (W-1)]]]:List PyData)).length=7:=by simp;omega
 generalize B++([.tuple [.str "table",.int g,.tuple [.tuple [.int 0,.int (g-1)],.tuple [.int 1,.int 2]]],.tuple [.str "bits",.int 60,.int 39,.tuple [.int Wh,.int (W-1)]]]:List PyData)=C at *;refine qZ λY8 h8=>?_
 try simp only [Pu.pwA]
 refine ⟨by omega,λe2 E2 he2=>?_⟩;refine qhO E2.ok he2 (by omega) λr hr=>?_
 try simp only [Pu.pwA,qgL]
 refine ⟨by omega,?_⟩;rw [h8];have f8:∀ x∈C++[r],Fi x:=ala f7 (alc hr al0);have l8:(C++[r]).length=8:=by simp;omega
 generalize C++[r]=F at *;refine qZ λY9 h9=>?_
 try simp only [Pu.pwA]
 refine SA F WK.mn (λρ m=>m=1316+300/\∃ s7:Sl,ρ=[.un,.sh (.int k),.un,.sh (dlD d),.sh (.int g),.sh (.list F),.sh (.int W),s7,.un,.un]) ⟨by omega,_,rfl⟩ ?_ ?_
 ·rintro x hx ρ m ⟨rfl,s7,rfl⟩;have fx:=f8 x hx;unfold Fi at fx;refine ⟨_,rfl,?_⟩
  try simp only [Pu.pwA,WK,fx,bne_self_eq_false]
  exact ⟨_,rfl⟩
 ·rintro ρ m ⟨rfl,s7,rfl⟩
  try simp only [Pu.pwA]
  rw [h9];refine qZ λY10 h10=>?_
  try simp only [Pu.pwA]
  rw [h10];generalize hO:([.none,.int 3,.str (Str.ofString "skew"),.tuple [],.list [],.tuple [.str (Str.ofString "")],.tuple [.none,.int 1],.tuple [.str (Str.ofString "joined")],.tuple [.str (Str.ofString "bits"),.int 60,.int 39,.tuple [.int W]]]:List PyData)=O at o9 ⊢;have lO:O.length=9:=by rw [← hO];rfl
  refine qZ λY11 h11=>?_
  try simp only [Pu.pwA]
  refine qic (by omega) λr2 hr2=>?_
  try simp only [Pu.pwA,qgL]
  refine ⟨by omega,?_⟩;rw [h11];have o10:∀ x∈O++[r2],Od x:=ala o9 (alc hr2 al0);have l10:(O++[r2]).length=10:=by simp;omega
  generalize O++[r2]=O2 at *
  try simp only [Pu.pwA]
  refine qhU ok dd (by omega) λws lw hw=>?_;have c3:qck (.list ws) (.list O2)=some (.list (ws++O2)):=qiv (by omega);have ow:∀ x∈ws++O2,Od x:=ala (λx hx=>qb7 (hw x hx)) o10
  try simp only [Pu.pwA,c3]
  generalize ws++O2=Z at *;refine SA Z WW.mn (λρ m=>∃ s7 s8 s9:Sl,ρ=[.un,.sh (.int k),.un,.sh (dlD d),.sh (.int g),.sh (.list F),.sh (.int W),s7,s8,s9]) ⟨_,_,_,rfl⟩ ?_ ?_
  ·rintro x hx ρ m ⟨s7,s8,s9,rfl⟩;obtain ⟨fx,t,ht⟩:=ow x hx;refine ⟨_,rfl,?_⟩;unfold WW;refine qZ λZ1 g1=>?_
   try simp only [Pu.pwA,LW,SV,ht]
   rw [g1]
   try simp only [Pu.pwA,LW,SV,ht,fx,bne_self_eq_false,decide_true,Bool.not_true]
   exact ⟨_,_,_,rfl⟩
  ·rintro ρ m ⟨s7,s8,s9,rfl⟩
   try simp only [Pu.pwA]
end K01
namespace K01
open PySem L2 L3 Bk
abbrev qhd : Env := { scope := PySem.Challenge.pw_bankwalk_k01_what_a_dealing_is.main.scope,locals := mainNs,globals := mainNs,cells := [],code := .ref 13,frame := some 14 }
abbrev T2 : List Stmt := PySem.W.behindTheImports PySem.Challenge.pw_bankwalk_k01_what_a_dealing_is
abbrev WZ:Code:=.body T2 qhd
abbrev qdT:List Frame:=[PySem.W.topFrame ⟨0,0,0,0⟩]
def zL:Obj:=Hd.oT []
def Q8:Obj:=⟨.none,none,.fields #[],#[]⟩
def qhs:Obj:=Hd.oC [.str "<module>" 182,.str "<module>" 183,.str "/claim/cut.py" 184,.int (1) 0,.int (0) 0,.int (0) 0,.int (0) 0,.int (0) 0,.ref 11,.bool false,.int (181) 0,.ref 12,.none,.none,.none,.none,.int (185) 0,.int (1) 0,.str "/claim/cut.py" 186]
def qhq:Obj:=⟨.type "frame",none,.plain,#[some (.ref 13),some (.ref 3),some (.ref 3),none,some (.str "__main__" 164),none,some (.ref 0)]⟩
def qel (P:Params):Heap:=⟨Array.mk [PySem.W.boot_o_0 P,PySem.W.boot_o_1 P,PySem.W.boot_o_2 P,PySem.W.boot_o_3 P,PySem.W.boot_o_4 P,PySem.W.boot_o_5 P,PySem.W.boot_o_6 P,PySem.W.boot_o_7 P,PySem.W.boot_o_8 P,PySem.W.boot_o_9 P,PySem.W.boot_o_10 P,zL,Q8,qhs,qhq],{ }⟩
def qd5 (P:Params):PySem.W.BT:=(Hd.nd (PySem.W.boot_o_0 P) (Hd.nd (PySem.W.boot_o_1 P) (Hd.nd (PySem.W.boot_o_3 P) (Hd.lf (PySem.W.boot_o_7 P)) (Hd.lf zL)) (Hd.nd (PySem.W.boot_o_5 P) (Hd.lf (PySem.W.boot_o_9 P)) (Hd.lf qhs))) (Hd.nd (PySem.W.boot_o_2 P) (Hd.nd (PySem.W.boot_o_4 P) (Hd.lf (PySem.W.boot_o_8 P)) (Hd.lf Q8)) (Hd.nd (PySem.W.boot_o_6 P) (Hd.lf (PySem.W.boot_o_10 P)) (Hd.lf qhq))))
set_option maxRecDepth 100000 in
set_option maxHeartbeats 0 in
def qe2 (w : World) (os : OsState) : PySem.W.topGo treeTable PySem.Challenge.pw_bankwalk_k01_what_a_dealing_is w 11 (some (Value.ref 6)) 12 ⟨PySem.W.boot_heap w.params,Array.mk [],PySem.W.boot_drawn,PySem.W.boot_toks,os⟩ (PySem.W.topStub PySem.Challenge.pw_bankwalk_k01_what_a_dealing_is) = some (⟨qel w.params,#[],{ },187,os⟩,⟨denote treeTable WZ,WZ,⟨0,0,0,0⟩,qdT⟩) := by kernel_rfl
set_option maxRecDepth 100000 in
set_option maxHeartbeats 0 in
def qfz (w : World) (os : OsState) : PySem.W.segRun treeTable PySem.Challenge.pw_bankwalk_k01_what_a_dealing_is w 11 (some (Value.ref 6)) 1 1 ⟨qel w.params,#[],{ },187,os⟩ (PySem.W.blockOf T2 qhd WZ ⟨0,0,0,0⟩ qdT) = some (.next,(⟨qd5 w.params,15,{ },#[],{ },187,os⟩ : PySem.W.SharedT).abs,WZ,⟨0,0,0,0⟩) := by kernel_rfl
def qlb (P:Params):Obj:=Hd.oD P 22 [(.str "__name__" 165,.str "law_bankwalk_k01_what_a_dealing_is" 271),(.str "__doc__" 166,.none),(.str "__package__" 167,.none),(.str "__loader__" 168,.builtin "__main__.__loader__#opaque"),(.str "__spec__" 169,.none),(.str "__annotations__" 170,.ref 6),(.str "__builtins__" 171,.ref 4),(.str "__file__" 173,.str "/claim/cut.py" 172),(.str "__cached__" 174,.none),(.str "is_number" 195,.ref 21),(.str "is_at_least" 203,.ref 28),(.str "are_at_least" 209,.ref 33),(.str "share_no_divisor" 219,.ref 40),(.str "is_skew" 226,.ref 47),(.str "is_rests" 237,.ref 54),(.str "is_bits" 243,.ref 59),(.str "is_bank_row" 249,.ref 64),(.str "is_table" 255,.ref 69),(.str "is_joined" 262,.ref 76),(.str "is_dealing" 270,.ref 83),(.str "_law_mix" 281,.ref 90),(.str "_law_left" 291,.ref 97)]
def qkO:Obj:=⟨.none,none,.fields #[.int (2) 0,.int (0) 0,.ref 20,.int (4) 0,.int (0) 0,.ref 27,.int (6) 0,.int (0) 0,.ref 32,.int (9) 0,.int (0) 0,.ref 39,.int (13) 0,.int (0) 0,.ref 46,.int (15) 0,.int (0) 0,.ref 53,.int (20) 0,.int (0) 0,.ref 58,.int (27) 0,.int (0) 0,.ref 63,.int (31) 0,.int (0) 0,.ref 68,.int (40) 0,.int (0) 0,.ref 75,.int (42) 0,.int (0) 0,.ref 82,.int (56) 0,.int (0) 0,.ref 89,.int (59) 0,.int (0) 0,.ref 96],#[]⟩
def qkh:Obj:=Hd.oN zZ 192
def qkb:Obj:=Hd.oG "is_number" jC
def qjr:Obj:=Hd.oK "is_number" 189 2 1 181 15 16 .none (.ref 17) (.ref 18) 19 193 194
def qcQ:Obj:=Hd.oF "is_number" jC (.str "bankwalk.basics" 187) (.ref 20)
def qdO:Obj:=Hd.oN jh 199
def qdZ:Obj:=Hd.oG "is_at_least" zT
def qc3:Obj:=Hd.oK "is_at_least" 196 4 2 181 22 23 .none (.ref 24) (.ref 25) 26 201 202
def qb0:Obj:=Hd.oF "is_at_least" zT (.str "bankwalk.basics" 187) (.ref 27)
def qgn:Obj:=Hd.oG "are_at_least" zD
def qbW:Obj:=Hd.oK "are_at_least" 204 6 2 181 29 30 .none .none .none 31 207 208
def qdd:Obj:=Hd.oF "are_at_least" zD (.str "bankwalk.basics" 187) (.ref 32)
def qfJ:Obj:=Hd.oN zl 215
def qft:Obj:=Hd.oG "share_no_divisor" zd
def qch:Obj:=Hd.oK "share_no_divisor" 212 9 2 181 34 35 .none (.ref 36) (.ref 37) 38 217 218
def qcA:Obj:=Hd.oF "share_no_divisor" zd (.str "bankwalk.dealings" 210) (.ref 39)
def qfo:Obj:=Hd.oN zZ 223
def qdU:Obj:=Hd.oG "is_skew" QZ
def qcm:Obj:=Hd.oK "is_skew" 220 13 1 181 41 42 .none (.ref 43) (.ref 44) 45 224 225
def qcj:Obj:=Hd.oF "is_skew" QZ (.str "bankwalk.dealings" 210) (.ref 46)
def qfP:Obj:=Hd.oN Q1 230
def qeB:Obj:=Hd.oG "is_rests" QH
def qbU:Obj:=Hd.oK "is_rests" 227 15 1 181 48 49 .none (.ref 50) (.ref 51) 52 235 236
def qbZ:Obj:=Hd.oF "is_rests" QH (.str "bankwalk.dealings" 210) (.ref 53)
def qf7:Obj:=Hd.oG "is_bits" Q6
def qdk:Obj:=Hd.oK "is_bits" 238 20 1 181 55 56 .none .none .none 57 241 242
def qb8:Obj:=Hd.oF "is_bits" Q6 (.str "bankwalk.dealings" 210) (.ref 58)
def qf2:Obj:=Hd.oG "is_bank_row" zU
def qcN:Obj:=Hd.oK "is_bank_row" 244 27 3 181 60 61 .none .none .none 62 247 248
def qcr:Obj:=Hd.oF "is_bank_row" zU (.str "bankwalk.dealings" 210) (.ref 63)
def qe7:Obj:=Hd.oG "is_table" j7
def qcT:Obj:=Hd.oK "is_table" 250 31 1 181 65 66 .none .none .none 67 253 254
def qcM:Obj:=Hd.oF "is_table" j7 (.str "bankwalk.dealings" 210) (.ref 68)
def qgx:Obj:=Hd.oN zZ 259
def qgj:Obj:=Hd.oG "is_joined" jL
def qco:Obj:=Hd.oK "is_joined" 256 40 1 181 70 71 .none (.ref 72) (.ref 73) 74 260 261
def qdc:Obj:=Hd.oF "is_joined" jL (.str "bankwalk.dealings" 210) (.ref 75)
def qeM:Obj:=Hd.oN jK 266
def qfW:Obj:=Hd.oG "is_dealing" jf
def qbR:Obj:=Hd.oK "is_dealing" 263 42 1 181 77 78 .none (.ref 79) (.ref 80) 81 268 269
def qc2:Obj:=Hd.oF "is_dealing" jf (.str "bankwalk.dealings" 210) (.ref 82)
def qdy:Obj:=Hd.oN UQ 276
def qf4:Obj:=Hd.oG "_law_mix" Q2
def qcI:Obj:=Hd.oK "_law_mix" 273 56 2 181 84 85 .none (.ref 86) (.ref 87) 88 279 280
def qc0:Obj:=Hd.oF "_law_mix" Q2 (.str "law_bankwalk_k01_what_a_dealing_is" 271) (.ref 89)
def qeC:Obj:=Hd.oN V2 285
def qek:Obj:=Hd.oG "_law_left" QE
def qcL:Obj:=Hd.oK "_law_left" 282 59 2 181 91 92 .none (.ref 93) (.ref 94) 95 289 290
def qcz:Obj:=Hd.oF "_law_left" QE (.str "law_bankwalk_k01_what_a_dealing_is" 271) (.ref 96)
def qhe (P:Params):PySem.W.BT:=(Hd.nd (PySem.W.boot_o_0 P) (Hd.nd (PySem.W.boot_o_1 P) (Hd.nd (qlb P) (Hd.nd (PySem.W.boot_o_7 P) (Hd.nd zL (Hd.nd qgn (Hd.lf qcN) (Hd.lf qek)) (Hd.nd qcj (Hd.lf qeM) .nil)) (Hd.nd Q8 (Hd.nd qch (Hd.lf Q8) .nil) (Hd.nd zL (Hd.lf zL) .nil))) (Hd.nd zL (Hd.nd qkb (Hd.nd Q8 (Hd.lf qe7) .nil) (Hd.nd zL (Hd.lf qc2) .nil)) (Hd.nd qc3 (Hd.nd qfo (Hd.lf qco) .nil) (Hd.nd qb8 (Hd.lf zL) .nil)))) (Hd.nd (PySem.W.boot_o_5 P) (Hd.nd (PySem.W.boot_o_9 P) (Hd.nd qkh (Hd.nd qdd (Hd.lf zL) (Hd.lf qcz)) (Hd.nd Q8 (Hd.lf qfW) .nil)) (Hd.nd zL (Hd.nd zL (Hd.lf zL) .nil) (Hd.nd qf7 (Hd.lf qcI) .nil))) (Hd.nd qhs (Hd.nd qcQ (Hd.nd zL (Hd.lf qcM) .nil) (Hd.nd qbU (Hd.lf Q8) .nil)) (Hd.nd zL (Hd.nd qdU (Hd.lf zL) .nil) (Hd.nd Q8 (Hd.lf qeC) .nil))))) (Hd.nd (PySem.W.boot_o_2 P) (Hd.nd (PySem.W.boot_o_4 P) (Hd.nd (PySem.W.boot_o_8 P) (Hd.nd Q8 (Hd.nd qbW (Hd.lf qcr) (Hd.lf qcL)) (Hd.nd zL (Hd.lf zL) .nil)) (Hd.nd qdO (Hd.nd qcA (Hd.lf qgx) .nil) (Hd.nd Q8 (Hd.lf qf4) .nil))) (Hd.nd qkO (Hd.nd qjr (Hd.nd qfJ (Hd.lf qcT) .nil) (Hd.nd qeB (Hd.lf zL) .nil)) (Hd.nd qb0 (Hd.nd zL (Hd.lf qdc) .nil) (Hd.nd zL (Hd.lf Q8) .nil)))) (Hd.nd (PySem.W.boot_o_6 P) (Hd.nd (PySem.W.boot_o_10 P) (Hd.nd zL (Hd.nd zL (Hd.lf Q8) .nil) (Hd.nd qfP (Hd.lf qbR) .nil)) (Hd.nd qdZ (Hd.nd Q8 (Hd.lf qgj) .nil) (Hd.nd qdk (Hd.lf qc0) .nil))) (Hd.nd qhq (Hd.nd zL (Hd.nd qft (Hd.lf zL) .nil) (Hd.nd qbZ (Hd.lf qdy) .nil)) (Hd.nd Q8 (Hd.nd qcm (Hd.lf Q8) .nil) (Hd.nd qf2 (Hd.lf zL) .nil))))))
abbrev qax:List Stmt:=(T2.drop 0).take 16
set_option maxRecDepth 100000 in
set_option maxHeartbeats 0 in
def qdJ (w : World) (os : OsState) : PySem.W.segRunT treeTable PySem.Challenge.pw_bankwalk_k01_what_a_dealing_is w 11 (some (Value.ref 6)) 1 405 (⟨qd5 w.params,15,{ },#[],{ },187,os⟩ : PySem.W.SharedT) (PySem.W.piecesOf qax qhd WZ ⟨0,0,0,0⟩ qdT) = some (.next,(⟨qhe w.params,98,{ },#[],{ },292,os⟩ : PySem.W.SharedT),WZ,⟨59,0,62,54⟩) := by kernel_rfl
def qdF (P:Params):Obj:=Hd.oD P 34 [(.str "__name__" 165,.str "law_bankwalk_k01_what_a_dealing_is" 271),(.str "__doc__" 166,.none),(.str "__package__" 167,.none),(.str "__loader__" 168,.builtin "__main__.__loader__#opaque"),(.str "__spec__" 169,.none),(.str "__annotations__" 170,.ref 6),(.str "__builtins__" 171,.ref 4),(.str "__file__" 173,.str "/claim/cut.py" 172),(.str "__cached__" 174,.none),(.str "is_number" 195,.ref 21),(.str "is_at_least" 203,.ref 28),(.str "are_at_least" 209,.ref 33),(.str "share_no_divisor" 219,.ref 40),(.str "is_skew" 226,.ref 47),(.str "is_rests" 237,.ref 54),(.str "is_bits" 243,.ref 59),(.str "is_bank_row" 249,.ref 64),(.str "is_table" 255,.ref 69),(.str "is_joined" 262,.ref 76),(.str "is_dealing" 270,.ref 83),(.str "_law_mix" 281,.ref 90),(.str "_law_left" 291,.ref 97),(.str "_law_pick" 300,.ref 104),(.str "_law_sides" 310,.ref 111),(.str "_law_gcd" 318,.ref 118),(.str "_law_skew" 329,.ref 125),(.str "_law_rests" 341,.ref 132),(.str "_law_bits" 347,.ref 137),(.str "_law_table" 353,.ref 142),(.str "_law_small" 359,.ref 147),(.str "_law_dealing" 369,.ref 154),(.str "_law_wrong" 383,.ref 161),(.str "_law_deep" 393,.ref 168),(.str "law" 409,.ref 175)]
def qhV:Obj:=⟨.none,none,.fields #[.int (2) 0,.int (0) 0,.ref 20,.int (4) 0,.int (0) 0,.ref 27,.int (6) 0,.int (0) 0,.ref 32,.int (9) 0,.int (0) 0,.ref 39,.int (13) 0,.int (0) 0,.ref 46,.int (15) 0,.int (0) 0,.ref 53,.int (20) 0,.int (0) 0,.ref 58,.int (27) 0,.int (0) 0,.ref 63,.int (31) 0,.int (0) 0,.ref 68,.int (40) 0,.int (0) 0,.ref 75,.int (42) 0,.int (0) 0,.ref 82,.int (56) 0,.int (0) 0,.ref 89,.int (59) 0,.int (0) 0,.ref 96,.int (63) 0,.int (0) 0,.ref 103,.int (70) 0,.int (0) 0,.ref 110,.int (74) 0,.int (0) 0,.ref 117,.int (78) 0,.int (0) 0,.ref 124,.int (83) 0,.int (0) 0,.ref 131,.int (91) 0,.int (0) 0,.ref 136,.int (96) 0,.int (0) 0,.ref 141,.int (101) 0,.int (0) 0,.ref 146,.int (119) 0,.int (0) 0,.ref 153,.int (136) 0,.int (0) 0,.ref 160,.int (162) 0,.int (0) 0,.ref 167,.int (167) 0,.int (0) 0,.ref 174],#[]⟩
def qiK:Obj:=Hd.oN VR 295
def qhI:Obj:=Hd.oG "_law_pick" QK
def qfh:Obj:=Hd.oK "_law_pick" 292 63 2 181 98 99 .none (.ref 100) (.ref 101) 102 298 299
def qfL:Obj:=Hd.oF "_law_pick" QK (.str "law_bankwalk_k01_what_a_dealing_is" 271) (.ref 103)
def qhC:Obj:=Hd.oN YB 304
def qh1:Obj:=Hd.oG "_law_sides" jO
def qgH:Obj:=Hd.oK "_law_sides" 301 70 1 181 105 106 .none (.ref 107) (.ref 108) 109 308 309
def qfs:Obj:=Hd.oF "_law_sides" jO (.str "law_bankwalk_k01_what_a_dealing_is" 271) (.ref 110)
def qiy:Obj:=Hd.oN EA 314
def qi3:Obj:=Hd.oG "_law_gcd" Q4
def qd6:Obj:=Hd.oK "_law_gcd" 311 74 2 181 112 113 .none (.ref 114) (.ref 115) 116 316 317
def qez:Obj:=Hd.oF "_law_gcd" Q4 (.str "law_bankwalk_k01_what_a_dealing_is" 271) (.ref 117)
def qh2:Obj:=Hd.oN VQ 322
def qjF:Obj:=Hd.oG "_law_skew" QJ
def qeU:Obj:=Hd.oK "_law_skew" 319 78 1 181 119 120 .none (.ref 121) (.ref 122) 123 327 328
def qd7:Obj:=Hd.oF "_law_skew" QJ (.str "law_bankwalk_k01_what_a_dealing_is" 271) (.ref 124)
def qjg:Obj:=Hd.oN YM 333
def qhB:Obj:=Hd.oG "_law_rests" jI
def qeW:Obj:=Hd.oK "_law_rests" 330 83 1 181 126 127 .none (.ref 128) (.ref 129) 130 339 340
def qgY:Obj:=Hd.oF "_law_rests" jI (.str "law_bankwalk_k01_what_a_dealing_is" 271) (.ref 131)
def qi0:Obj:=Hd.oG "_law_bits" j8
def qfY:Obj:=Hd.oK "_law_bits" 342 91 2 181 133 134 .none .none .none 135 345 346
def qe4:Obj:=Hd.oF "_law_bits" j8 (.str "law_bankwalk_k01_what_a_dealing_is" 271) (.ref 136)
def qiU:Obj:=Hd.oG "_law_table" jN
def qgv:Obj:=Hd.oK "_law_table" 348 96 1 181 138 139 .none .none .none 140 351 352
def qdu:Obj:=Hd.oF "_law_table" jN (.str "law_bankwalk_k01_what_a_dealing_is" 271) (.ref 141)
def qhA:Obj:=Hd.oG "_law_small" jE
def qgq:Obj:=Hd.oK "_law_small" 354 101 1 181 143 144 .none .none .none 145 357 358
def qfE:Obj:=Hd.oF "_law_small" jE (.str "law_bankwalk_k01_what_a_dealing_is" 271) (.ref 146)
def qi5:Obj:=Hd.oN ZG 363
def qjB:Obj:=Hd.oG "_law_dealing" zX
def qhc:Obj:=Hd.oK "_law_dealing" 360 119 1 181 148 149 .none (.ref 150) (.ref 151) 152 367 368
def qfu:Obj:=Hd.oF "_law_dealing" zX (.str "law_bankwalk_k01_what_a_dealing_is" 271) (.ref 153)
def qjc:Obj:=Hd.oN j9 373
def qiX:Obj:=Hd.oG "_law_wrong" jD
def qfS:Obj:=Hd.oK "_law_wrong" 370 136 2 181 155 156 .none (.ref 157) (.ref 158) 159 381 382
def qgs:Obj:=Hd.oF "_law_wrong" jD (.str "law_bankwalk_k01_what_a_dealing_is" 271) (.ref 160)
def qif:Obj:=Hd.oN Q5 387
def qjz:Obj:=Hd.oG "_law_deep" QM
def qex:Obj:=Hd.oK "_law_deep" 384 162 2 181 162 163 .none (.ref 164) (.ref 165) 166 391 392
def qgc:Obj:=Hd.oF "_law_deep" QM (.str "law_bankwalk_k01_what_a_dealing_is" 271) (.ref 167)
def qiS:Obj:=Hd.oN LS 397
def qjl:Obj:=Hd.oG "law" JF
def qa6:Obj:=Hd.oK "law" 394 167 1 181 169 170 .none (.ref 171) (.ref 172) 173 407 408
def qal:Obj:=Hd.oF "law" JF (.str "law_bankwalk_k01_what_a_dealing_is" 271) (.ref 174)
def qbV (P:Params):PySem.W.BT:=(Hd.nd (PySem.W.boot_o_0 P) (Hd.nd (PySem.W.boot_o_1 P) (Hd.nd (qdF P) (Hd.nd (PySem.W.boot_o_7 P) (Hd.nd zL (Hd.nd qgn (Hd.nd qcN (Hd.lf Q8) .nil) (Hd.nd qek (Hd.lf qiX) .nil)) (Hd.nd qcj (Hd.nd qeM (Hd.lf zL) .nil) (Hd.nd qfs (Hd.lf qal) .nil))) (Hd.nd Q8 (Hd.nd qch (Hd.nd Q8 (Hd.lf qi0) .nil) (Hd.nd qfh (Hd.lf qex) .nil)) (Hd.nd zL (Hd.nd zL (Hd.lf zL) .nil) (Hd.lf zL)))) (Hd.nd zL (Hd.nd qkb (Hd.nd Q8 (Hd.nd qe7 (Hd.lf qeW) .nil) (Hd.nd Q8 (Hd.lf Q8) .nil)) (Hd.nd zL (Hd.nd qc2 (Hd.lf qfE) .nil) (Hd.lf zL))) (Hd.nd qc3 (Hd.nd qfo (Hd.nd qco (Hd.lf Q8) .nil) (Hd.nd qhC (Hd.lf qiS) .nil)) (Hd.nd qb8 (Hd.nd zL (Hd.lf zL) .nil) (Hd.lf qjF))))) (Hd.nd (PySem.W.boot_o_5 P) (Hd.nd (PySem.W.boot_o_9 P) (Hd.nd qkh (Hd.nd qdd (Hd.nd zL (Hd.lf zL) .nil) (Hd.nd qcz (Hd.lf qgs) .nil)) (Hd.nd Q8 (Hd.nd qfW (Hd.lf qhA) .nil) (Hd.lf Q8))) (Hd.nd zL (Hd.nd zL (Hd.nd zL (Hd.lf qe4) .nil) (Hd.nd zL (Hd.lf zL) .nil)) (Hd.nd qf7 (Hd.nd qcI (Hd.lf qhc) .nil) (Hd.lf qh2)))) (Hd.nd qhs (Hd.nd qcQ (Hd.nd zL (Hd.nd qcM (Hd.lf zL) .nil) (Hd.nd zL (Hd.lf zL) .nil)) (Hd.nd qbU (Hd.nd Q8 (Hd.lf Q8) .nil) (Hd.lf qd6))) (Hd.nd zL (Hd.nd qdU (Hd.nd zL (Hd.lf qgv) .nil) (Hd.nd qh1 (Hd.lf qjl) .nil)) (Hd.nd Q8 (Hd.nd qeC (Hd.lf qjc) .nil) (Hd.lf qd7)))))) (Hd.nd (PySem.W.boot_o_2 P) (Hd.nd (PySem.W.boot_o_4 P) (Hd.nd (PySem.W.boot_o_8 P) (Hd.nd Q8 (Hd.nd qbW (Hd.nd qcr (Hd.lf qjg) .nil) (Hd.nd qcL (Hd.lf qfS) .nil)) (Hd.nd zL (Hd.nd zL (Hd.lf Q8) .nil) (Hd.lf zL))) (Hd.nd qdO (Hd.nd qcA (Hd.nd qgx (Hd.lf qfY) .nil) (Hd.nd qfL (Hd.lf qgc) .nil)) (Hd.nd Q8 (Hd.nd qf4 (Hd.lf qjB) .nil) (Hd.lf Q8)))) (Hd.nd qhV (Hd.nd qjr (Hd.nd qfJ (Hd.nd qcT (Hd.lf qgY) .nil) (Hd.nd qiK (Hd.lf qif) .nil)) (Hd.nd qeB (Hd.nd zL (Hd.lf zL) .nil) (Hd.lf qi3))) (Hd.nd qb0 (Hd.nd zL (Hd.nd qdc (Hd.lf qiU) .nil) (Hd.nd zL (Hd.lf zL) .nil)) (Hd.nd zL (Hd.nd Q8 (Hd.lf Q8) .nil) (Hd.lf qeU))))) (Hd.nd (PySem.W.boot_o_6 P) (Hd.nd (PySem.W.boot_o_10 P) (Hd.nd zL (Hd.nd zL (Hd.nd Q8 (Hd.lf qhB) .nil) (Hd.nd zL (Hd.lf zL) .nil)) (Hd.nd qfP (Hd.nd qbR (Hd.lf qgq) .nil) (Hd.lf qiy))) (Hd.nd qdZ (Hd.nd Q8 (Hd.nd qgj (Hd.lf zL) .nil) (Hd.nd Q8 (Hd.lf Q8) .nil)) (Hd.nd qdk (Hd.nd qc0 (Hd.lf qfu) .nil) (Hd.lf zL)))) (Hd.nd qhq (Hd.nd zL (Hd.nd qft (Hd.nd zL (Hd.lf Q8) .nil) (Hd.nd qhI (Hd.lf qjz) .nil)) (Hd.nd qbZ (Hd.nd qdy (Hd.lf qi5) .nil) (Hd.lf qez))) (Hd.nd Q8 (Hd.nd qcm (Hd.nd Q8 (Hd.lf qdu) .nil) (Hd.nd qgH (Hd.lf qa6) .nil)) (Hd.nd qf2 (Hd.nd zL (Hd.lf zL) .nil) (Hd.lf zL)))))))
abbrev qaI:List Stmt:=(T2.drop 16).take 12
set_option maxRecDepth 100000 in
set_option maxHeartbeats 0 in
def qg9 (w : World) (os : OsState) : PySem.W.segRunT treeTable PySem.Challenge.pw_bankwalk_k01_what_a_dealing_is w 11 (some (Value.ref 6)) 1 377 (⟨qhe w.params,98,{ },#[],{ },292,os⟩ : PySem.W.SharedT) (PySem.W.piecesOf qaI qhd WZ ⟨59,0,62,54⟩ qdT) = some (.next,(⟨qbV w.params,176,{ },#[],{ },410,os⟩ : PySem.W.SharedT),WZ,⟨167,0,187,15⟩) := by kernel_rfl
abbrev qb4 (P:Params):Heap:=PySem.W.absHeap (qbV P) 176 { }
def Kf (P:Params):PySem.W.Frag:=[(3,qdF P),(20,qjr),(21,qcQ),(27,qc3),(28,qb0),(32,qbW),(33,qdd),(39,qch),(40,qcA),(46,qcm),(47,qcj),(53,qbU),(54,qbZ),(58,qdk),(59,qb8),(63,qcN),(64,qcr),(68,qcT),(69,qcM),(75,qco),(76,qdc),(82,qbR),(83,qc2),(89,qcI),(90,qc0),(96,qcL),(97,qcz),(103,qfh),(104,qfL),(110,qgH),(111,qfs),(117,qd6),(118,qez),(124,qeU),(125,qd7),(131,qeW),(132,qgY),(136,qfY),(137,qe4),(141,qgv),(142,qdu),(146,qgq),(147,qfE),(153,qhc),(154,qfu),(160,qfS),(161,qgs),(167,qex),(168,qgc),(174,qa6),(175,qal)]
def qfv {l:PySem.W.OpenLaw} {w:World} {h:Heap} {mg:Str->Option Value} {fa:Addr} (X:(Kf w.params).In h) (G:h.Ns mainGlobals mg) (hfa:mg "law" = some (.ref fa)) :
  ∃ fd:FuncData,(∀ (s:Shared) (v:Value),BindsTo s fd ⟨[v],[]⟩ [("_law_script",v)])/\∀ base:Heap,(Kf w.params).In base->base.Ns mainGlobals mg->FnOk l.prog w (Kf w.params) mg base CX0 41 fa fd ["_law_script"] (lSp (Kf w.params) DH):=by
 have e:=hfa.symm.trans (Hd.jQ X G "law" (.ref 175) (by kernel_rfl));cases e;have F0:=Hd.jP (K:=Kf w.params) "is_number" jC 21 (.str "bankwalk.basics" 187) (.ref 20) (by kernel_rfl) (by kernel_rfl) (by kernel_rfl);have b0:=F0.binds (ps:=YK) λ_ _ _ _ _ _ us hl=>by obtain ⟨_,rfl⟩:=Pu.SS hl;rfl
 have m0:=Hd.jQ X G "is_number" (.ref 21) (by kernel_rfl);have F1:=Hd.jP (K:=Kf w.params) "is_at_least" zT 28 (.str "bankwalk.basics" 187) (.ref 27) (by kernel_rfl) (by kernel_rfl) (by kernel_rfl);have b1:=F1.binds (ps:=ZR) λ_ _ _ _ _ _ us hl=>by obtain ⟨_,_,rfl⟩:=Pu.MA hl;rfl
 have m1:=Hd.jQ X G "is_at_least" (.ref 28) (by kernel_rfl);have F2:=Hd.jP (K:=Kf w.params) "are_at_least" zD 33 (.str "bankwalk.basics" 187) (.ref 32) (by kernel_rfl) (by kernel_rfl) (by kernel_rfl);have b2:=F2.binds (ps:=QU) λ_ _ _ _ _ _ us hl=>by obtain ⟨_,_,rfl⟩:=Pu.MA hl;rfl
 have m2:=Hd.jQ X G "are_at_least" (.ref 33) (by kernel_rfl);have F3:=Hd.jP (K:=Kf w.params) "share_no_divisor" zd 40 (.str "bankwalk.dealings" 210) (.ref 39) (by kernel_rfl) (by kernel_rfl) (by kernel_rfl);have b3:=F3.binds (ps:=jl) λ_ _ _ _ _ _ us hl=>by obtain ⟨_,_,rfl⟩:=Pu.MA hl;rfl
 have m3:=Hd.jQ X G "share_no_divisor" (.ref 40) (by kernel_rfl);have F4:=Hd.jP (K:=Kf w.params) "is_skew" QZ 47 (.str "bankwalk.dealings" 210) (.ref 46) (by kernel_rfl) (by kernel_rfl) (by kernel_rfl);have b4:=F4.binds (ps:=ED) λ_ _ _ _ _ _ us hl=>by obtain ⟨_,rfl⟩:=Pu.SS hl;rfl
 have m4:=Hd.jQ X G "is_skew" (.ref 47) (by kernel_rfl);have F5:=Hd.jP (K:=Kf w.params) "is_rests" QH 54 (.str "bankwalk.dealings" 210) (.ref 53) (by kernel_rfl) (by kernel_rfl) (by kernel_rfl);have b5:=F5.binds (ps:=VN) λ_ _ _ _ _ _ us hl=>by obtain ⟨_,rfl⟩:=Pu.SS hl;rfl
 have m5:=Hd.jQ X G "is_rests" (.ref 54) (by kernel_rfl);have F6:=Hd.jP (K:=Kf w.params) "is_bits" Q6 59 (.str "bankwalk.dealings" 210) (.ref 58) (by kernel_rfl) (by kernel_rfl) (by kernel_rfl);have b6:=F6.binds (ps:=UR) λ_ _ _ _ _ _ us hl=>by obtain ⟨_,rfl⟩:=Pu.SS hl;rfl
 have m6:=Hd.jQ X G "is_bits" (.ref 59) (by kernel_rfl);have F7:=Hd.jP (K:=Kf w.params) "is_bank_row" zU 64 (.str "bankwalk.dealings" 210) (.ref 63) (by kernel_rfl) (by kernel_rfl) (by kernel_rfl);have b7:=F7.binds (ps:=ZH) λ_ _ _ _ _ _ us hl=>by obtain ⟨_,_,_,rfl⟩:=Pu.qkZ hl;rfl
 have m7:=Hd.jQ X G "is_bank_row" (.ref 64) (by kernel_rfl);have F8:=Hd.jP (K:=Kf w.params) "is_table" j7 69 (.str "bankwalk.dealings" 210) (.ref 68) (by kernel_rfl) (by kernel_rfl) (by kernel_rfl);have b8:=F8.binds (ps:=VP) λ_ _ _ _ _ _ us hl=>by obtain ⟨_,rfl⟩:=Pu.SS hl;rfl
 have m8:=Hd.jQ X G "is_table" (.ref 69) (by kernel_rfl);have F9:=Hd.jP (K:=Kf w.params) "is_joined" jL 76 (.str "bankwalk.dealings" 210) (.ref 75) (by kernel_rfl) (by kernel_rfl) (by kernel_rfl);have b9:=F9.binds (ps:=YL) λ_ _ _ _ _ _ us hl=>by obtain ⟨_,rfl⟩:=Pu.SS hl;rfl
 have m9:=Hd.jQ X G "is_joined" (.ref 76) (by kernel_rfl);have F10:=Hd.jP (K:=Kf w.params) "is_dealing" jf 83 (.str "bankwalk.dealings" 210) (.ref 82) (by kernel_rfl) (by kernel_rfl) (by kernel_rfl);have b10:=F10.binds (ps:=JG) λ_ _ _ _ _ _ us hl=>by obtain ⟨_,rfl⟩:=Pu.SS hl;rfl
 have m10:=Hd.jQ X G "is_dealing" (.ref 83) (by kernel_rfl);have F11:=Hd.jP (K:=Kf w.params) "_law_mix" Q2 90 (.str "law_bankwalk_k01_what_a_dealing_is" 271) (.ref 89) (by kernel_rfl) (by kernel_rfl) (by kernel_rfl);have b11:=F11.binds (ps:=U8) λ_ _ _ _ _ _ us hl=>by obtain ⟨_,_,rfl⟩:=Pu.MA hl;rfl
 have m11:=Hd.jQ X G "_law_mix" (.ref 90) (by kernel_rfl);have F12:=Hd.jP (K:=Kf w.params) "_law_left" QE 97 (.str "law_bankwalk_k01_what_a_dealing_is" 271) (.ref 96) (by kernel_rfl) (by kernel_rfl) (by kernel_rfl);have b12:=F12.binds (ps:=VY) λ_ _ _ _ _ _ us hl=>by obtain ⟨_,_,rfl⟩:=Pu.MA hl;rfl
 have m12:=Hd.jQ X G "_law_left" (.ref 97) (by kernel_rfl);have F13:=Hd.jP (K:=Kf w.params) "_law_pick" QK 104 (.str "law_bankwalk_k01_what_a_dealing_is" 271) (.ref 103) (by kernel_rfl) (by kernel_rfl) (by kernel_rfl);have b13:=F13.binds (ps:=VV) λ_ _ _ _ _ _ us hl=>by obtain ⟨_,_,rfl⟩:=Pu.MA hl;rfl
 have m13:=Hd.jQ X G "_law_pick" (.ref 104) (by kernel_rfl);have F14:=Hd.jP (K:=Kf w.params) "_law_sides" jO 111 (.str "law_bankwalk_k01_what_a_dealing_is" 271) (.ref 110) (by kernel_rfl) (by kernel_rfl) (by kernel_rfl);have b14:=F14.binds (ps:=YG) λ_ _ _ _ _ _ us hl=>by obtain ⟨_,rfl⟩:=Pu.SS hl;rfl
 have m14:=Hd.jQ X G "_law_sides" (.ref 111) (by kernel_rfl);have F15:=Hd.jP (K:=Kf w.params) "_law_gcd" Q4 118 (.str "law_bankwalk_k01_what_a_dealing_is" 271) (.ref 117) (by kernel_rfl) (by kernel_rfl) (by kernel_rfl);have b15:=F15.binds (ps:=EB) λ_ _ _ _ _ _ us hl=>by obtain ⟨_,_,rfl⟩:=Pu.MA hl;rfl
 have m15:=Hd.jQ X G "_law_gcd" (.ref 118) (by kernel_rfl);have F16:=Hd.jP (K:=Kf w.params) "_law_skew" QJ 125 (.str "law_bankwalk_k01_what_a_dealing_is" 271) (.ref 124) (by kernel_rfl) (by kernel_rfl) (by kernel_rfl);have b16:=F16.binds (ps:=VO) λ_ _ _ _ _ _ us hl=>by obtain ⟨_,rfl⟩:=Pu.SS hl;rfl
 have m16:=Hd.jQ X G "_law_skew" (.ref 125) (by kernel_rfl);have F17:=Hd.jP (K:=Kf w.params) "_law_rests" jI 132 (.str "law_bankwalk_k01_what_a_dealing_is" 271) (.ref 131) (by kernel_rfl) (by kernel_rfl) (by kernel_rfl);have b17:=F17.binds (ps:=YI) λ_ _ _ _ _ _ us hl=>by obtain ⟨_,rfl⟩:=Pu.SS hl;rfl
 have m17:=Hd.jQ X G "_law_rests" (.ref 132) (by kernel_rfl);have F18:=Hd.jP (K:=Kf w.params) "_law_bits" j8 137 (.str "law_bankwalk_k01_what_a_dealing_is" 271) (.ref 136) (by kernel_rfl) (by kernel_rfl) (by kernel_rfl);have b18:=F18.binds (ps:=V1) λ_ _ _ _ _ _ us hl=>by obtain ⟨_,_,rfl⟩:=Pu.MA hl;rfl
 have m18:=Hd.jQ X G "_law_bits" (.ref 137) (by kernel_rfl);have F19:=Hd.jP (K:=Kf w.params) "_law_table" jN 142 (.str "law_bankwalk_k01_what_a_dealing_is" 271) (.ref 141) (by kernel_rfl) (by kernel_rfl) (by kernel_rfl);have b19:=F19.binds (ps:=YF) λ_ _ _ _ _ _ us hl=>by obtain ⟨_,rfl⟩:=Pu.SS hl;rfl
 have m19:=Hd.jQ X G "_law_table" (.ref 142) (by kernel_rfl);have F20:=Hd.jP (K:=Kf w.params) "_law_small" jE 147 (.str "law_bankwalk_k01_what_a_dealing_is" 271) (.ref 146) (by kernel_rfl) (by kernel_rfl) (by kernel_rfl);have b20:=F20.binds (ps:=J8) λ_ _ _ _ _ _ us hl=>by obtain ⟨_,rfl⟩:=Pu.SS hl;rfl
 have m20:=Hd.jQ X G "_law_small" (.ref 147) (by kernel_rfl);have F21:=Hd.jP (K:=Kf w.params) "_law_dealing" zX 154 (.str "law_bankwalk_k01_what_a_dealing_is" 271) (.ref 153) (by kernel_rfl) (by kernel_rfl) (by kernel_rfl);have b21:=F21.binds (ps:=ZK) λ_ _ _ _ _ _ us hl=>by obtain ⟨_,rfl⟩:=Pu.SS hl;rfl
 have m21:=Hd.jQ X G "_law_dealing" (.ref 154) (by kernel_rfl);have F22:=Hd.jP (K:=Kf w.params) "_law_wrong" jD 161 (.str "law_bankwalk_k01_what_a_dealing_is" 271) (.ref 160) (by kernel_rfl) (by kernel_rfl) (by kernel_rfl);have b22:=F22.binds (ps:=YD) λ_ _ _ _ _ _ us hl=>by obtain ⟨_,_,rfl⟩:=Pu.MA hl;rfl
 have m22:=Hd.jQ X G "_law_wrong" (.ref 161) (by kernel_rfl);have F23:=Hd.jP (K:=Kf w.params) "_law_deep" QM 168 (.str "law_bankwalk_k01_what_a_dealing_is" 271) (.ref 167) (by kernel_rfl) (by kernel_rfl) (by kernel_rfl);have b23:=F23.binds (ps:=VJ) λ_ _ _ _ _ _ us hl=>by obtain ⟨_,_,rfl⟩:=Pu.MA hl;rfl
 have m23:=Hd.jQ X G "_law_deep" (.ref 168) (by kernel_rfl);have F24:=Hd.jP (K:=Kf w.params) "law" JF 175 (.str "law_bankwalk_k01_what_a_dealing_is" 271) (.ref 174) (by kernel_rfl) (by kernel_rfl) (by kernel_rfl);have g_isinstance:=Hd.EC X G "isinstance" (by kernel_rfl);have g_bool:=Hd.EC X G "bool" (by kernel_rfl);have g_int:=Hd.EC X G "int" (by kernel_rfl);have g_all:=Hd.EC X G "all" (by kernel_rfl);have g_len:=Hd.EC X G "len" (by kernel_rfl);have g_tuple:=Hd.EC X G "tuple" (by kernel_rfl);have g_abs:=Hd.EC X G "abs" (by kernel_rfl);have g_range:=Hd.EC X G "range" (by kernel_rfl);have g_list:=Hd.EC X G "list" (by kernel_rfl);have g_min:=Hd.EC X G "min" (by kernel_rfl);have g_repr:=Hd.EC X G "repr" (by kernel_rfl);refine ⟨PySem.W.fnOf "law" "law" (ZS JF) (jk JF) (qm JF) .none .none .none (.str "law_bankwalk_k01_what_a_dealing_is" 271) none (.ref 174) .none,λs v=>.of_eq rfl,λbase _ _=>?_⟩;have O_is_number:=XD (P:=l.prog) (w:=w) (base:=base) (k:=0) F0 b0 m0  g_isinstance g_bool g_int XI;have O_is_at_least:=EQ (P:=l.prog) (w:=w) (base:=base) (k:=1) F1 b1 m1 O_is_number  DF;have O_are_at_least:=EG (P:=l.prog) (w:=w) (base:=base) (k:=2) F2 b2 m2 O_is_at_least g_all EK;have O_share_no_divisor:=YN (P:=l.prog) (w:=w) (base:=base) (k:=0) F3 b3 m3   YC;have O_is_skew:=TH (P:=l.prog) (w:=w) (base:=base) (k:=3) F4 b4 m4 O_are_at_least g_len TQ;have O_is_rests:=CW (P:=l.prog) (w:=w) (base:=base) (k:=3) F5 b5 m5 O_are_at_least (O_share_no_divisor.mono (by decide)) g_len RJ;have O_is_bits:=SW (P:=l.prog) (w:=w) (base:=base) (k:=3) F6 b6 m6 O_are_at_least g_len g_isinstance g_tuple g_all TV;have O_is_bank_row:=EU (P:=l.prog) (w:=w) (base:=base) (k:=3) F7 b7 m7 O_are_at_least g_len g_isinstance g_tuple g_all EV;have O_is_table:=CP (P:=l.prog) (w:=w) (base:=base) (k:=4) F8 b8 m8 (O_is_at_least.mono (by decide)) O_is_bank_row g_len g_isinstance g_tuple g_all CV;have O_law_mix:=S0 (P:=l.prog) (w:=w) (base:=base) (k:=0) F11 b11 m11   Bk.SZ;have O_law_left:=RF (P:=l.prog) (w:=w) (base:=base) (k:=0) F12 b12 m12  g_len g_abs Bk.RO;have O_law_pick:=RR (P:=l.prog) (w:=w) (base:=base) (k:=1) F13 b13 m13 O_law_mix  Bk.RP;have O_law_sides:=XE (P:=l.prog) (w:=w) (base:=base) (k:=2) F14 b14 m14 O_law_pick  Bk.XA;have O_law_gcd:=S4 (P:=l.prog) (w:=w) (base:=base) (k:=0) F15 b15 m15   Bk.TJ;have O_law_skew:=RK (P:=l.prog) (w:=w) (base:=base) (k:=3) F16 b16 m16 O_law_sides (O_law_pick.mono (by decide))  Bk.C2;have O_law_rests:=CF (P:=l.prog) (w:=w) (base:=base) (k:=3) F17 b17 m17 O_law_sides (O_law_pick.mono (by decide)) (O_law_gcd.mono (by decide)) g_range Bk.W8;have O_law_bits:=RC (P:=l.prog) (w:=w) (base:=base) (k:=2) F18 b18 m18 O_law_pick g_range g_tuple Bk.RG;have O_law_table:=CJ (P:=l.prog) (w:=w) (base:=base) (k:=3) F19 b19 m19 O_law_sides (O_law_pick.mono (by decide)) g_range g_tuple Bk.XH;have O_law_small:=CC (P:=l.prog) (w:=w) (base:=base) (k:=2) F20 b20 m20 O_law_pick (O_law_gcd.mono (by decide)) g_range g_tuple Bk.XF;have O_law_dealing:=EW (P:=l.prog) (w:=w) (base:=base) (k:=4) F21 b21 m21 (O_law_pick.mono (by decide)) O_law_skew O_law_rests (O_law_bits.mono (by decide)) O_law_table (O_law_small.mono (by decide))  Bk.EZ;have O_law_wrong:=X5 (P:=l.prog) (w:=w) (base:=base) (k:=2) F22 b22 m22 O_law_pick g_list g_len XB;have O_law_deep:=C6 (P:=l.prog) (w:=w) (base:=base) (k:=2) F23 b23 m23 O_law_pick g_range CO;have O_is_dealing_0:=Pu.Fn3.pz (qae (P:=l.prog) (w:=w) (base:=base) F10 b10 m10) false;have O_is_joined_1:=qu (P:=l.prog) (w:=w) (base:=base) (k:=0) F9 b9 m9 O_is_dealing_0 g_len (qt (qg 0));have O_is_dealing_1:=qp (P:=l.prog) (w:=w) (base:=base) (k:=5) F10 b10 m10 (O_is_skew.mono (by decide)) (O_is_rests.mono (by decide)) (O_is_bits.mono (by decide)) O_is_table (O_is_joined_1.mono (by decide)) g_len g_isinstance g_tuple (qq 0);have O_is_joined_2:=qu (P:=l.prog) (w:=w) (base:=base) (k:=6) F9 b9 m9 O_is_dealing_1 g_len (qt (qg 1));have O_is_dealing_2:=qp (P:=l.prog) (w:=w) (base:=base) (k:=7) F10 b10 m10 (O_is_skew.mono (by decide)) (O_is_rests.mono (by decide)) (O_is_bits.mono (by decide)) (O_is_table.mono (by decide)) O_is_joined_2 g_len g_isinstance g_tuple (qq 1);have O_is_joined_3:=qu (P:=l.prog) (w:=w) (base:=base) (k:=8) F9 b9 m9 O_is_dealing_2 g_len (qt (qg 2));have O_is_dealing_3:=qp (P:=l.prog) (w:=w) (base:=base) (k:=9) F10 b10 m10 (O_is_skew.mono (by decide)) (O_is_rests.mono (by decide)) (O_is_bits.mono (by decide)) (O_is_table.mono (by decide)) O_is_joined_3 g_len g_isinstance g_tuple (qq 2);have O_is_joined_4:=qu (P:=l.prog) (w:=w) (base:=base) (k:=10) F9 b9 m9 O_is_dealing_3 g_len (qt (qg 3));have O_is_dealing_4:=qp (P:=l.prog) (w:=w) (base:=base) (k:=11) F10 b10 m10 (O_is_skew.mono (by decide)) (O_is_rests.mono (by decide)) (O_is_bits.mono (by decide)) (O_is_table.mono (by decide)) O_is_joined_4 g_len g_isinstance g_tuple (qq 3);have O_is_joined_5:=qu (P:=l.prog) (w:=w) (base:=base) (k:=12) F9 b9 m9 O_is_dealing_4 g_len (qt (qg 4));have O_is_dealing_5:=qp (P:=l.prog) (w:=w) (base:=base) (k:=13) F10 b10 m10 (O_is_skew.mono (by decide)) (O_is_rests.mono (by decide)) (O_is_bits.mono (by decide)) (O_is_table.mono (by decide)) O_is_joined_5 g_len g_isinstance g_tuple (qq 4);have O_is_joined_6:=qu (P:=l.prog) (w:=w) (base:=base) (k:=14) F9 b9 m9 O_is_dealing_5 g_len (qt (qg 5));have O_is_dealing_6:=qp (P:=l.prog) (w:=w) (base:=base) (k:=15) F10 b10 m10 (O_is_skew.mono (by decide)) (O_is_rests.mono (by decide)) (O_is_bits.mono (by decide)) (O_is_table.mono (by decide)) O_is_joined_6 g_len g_isinstance g_tuple (qq 5);have O_is_joined_7:=qu (P:=l.prog) (w:=w) (base:=base) (k:=16) F9 b9 m9 O_is_dealing_6 g_len (qt (qg 6));have O_is_dealing_7:=qp (P:=l.prog) (w:=w) (base:=base) (k:=17) F10 b10 m10 (O_is_skew.mono (by decide)) (O_is_rests.mono (by decide)) (O_is_bits.mono (by decide)) (O_is_table.mono (by decide)) O_is_joined_7 g_len g_isinstance g_tuple (qq 6);have O_is_joined_8:=qu (P:=l.prog) (w:=w) (base:=base) (k:=18) F9 b9 m9 O_is_dealing_7 g_len (qt (qg 7));have O_is_dealing_8:=qp (P:=l.prog) (w:=w) (base:=base) (k:=19) F10 b10 m10 (O_is_skew.mono (by decide)) (O_is_rests.mono (by decide)) (O_is_bits.mono (by decide)) (O_is_table.mono (by decide)) O_is_joined_8 g_len g_isinstance g_tuple (qq 7);have O_is_joined_9:=qu (P:=l.prog) (w:=w) (base:=base) (k:=20) F9 b9 m9 O_is_dealing_8 g_len (qt (qg 8));have O_is_dealing_9:=qp (P:=l.prog) (w:=w) (base:=base) (k:=21) F10 b10 m10 (O_is_skew.mono (by decide)) (O_is_rests.mono (by decide)) (O_is_bits.mono (by decide)) (O_is_table.mono (by decide)) O_is_joined_9 g_len g_isinstance g_tuple (qq 8);have O_is_joined_10:=qu (P:=l.prog) (w:=w) (base:=base) (k:=22) F9 b9 m9 O_is_dealing_9 g_len (qt (qg 9));have O_is_dealing_10:=qp (P:=l.prog) (w:=w) (base:=base) (k:=23) F10 b10 m10 (O_is_skew.mono (by decide)) (O_is_rests.mono (by decide)) (O_is_bits.mono (by decide)) (O_is_table.mono (by decide)) O_is_joined_10 g_len g_isinstance g_tuple (qq 9);have O_is_joined_11:=qu (P:=l.prog) (w:=w) (base:=base) (k:=24) F9 b9 m9 O_is_dealing_10 g_len (qt (qg 10));have O_is_dealing_11:=qp (P:=l.prog) (w:=w) (base:=base) (k:=25) F10 b10 m10 (O_is_skew.mono (by decide)) (O_is_rests.mono (by decide)) (O_is_bits.mono (by decide)) (O_is_table.mono (by decide)) O_is_joined_11 g_len g_isinstance g_tuple (qq 10);have O_is_joined_12:=qu (P:=l.prog) (w:=w) (base:=base) (k:=26) F9 b9 m9 O_is_dealing_11 g_len (qt (qg 11));have O_is_dealing_12:=qp (P:=l.prog) (w:=w) (base:=base) (k:=27) F10 b10 m10 (O_is_skew.mono (by decide)) (O_is_rests.mono (by decide)) (O_is_bits.mono (by decide)) (O_is_table.mono (by decide)) O_is_joined_12 g_len g_isinstance g_tuple (qq 11);have O_is_joined_13:=qu (P:=l.prog) (w:=w) (base:=base) (k:=28) F9 b9 m9 O_is_dealing_12 g_len (qt (qg 12));have O_is_dealing_13:=qp (P:=l.prog) (w:=w) (base:=base) (k:=29) F10 b10 m10 (O_is_skew.mono (by decide)) (O_is_rests.mono (by decide)) (O_is_bits.mono (by decide)) (O_is_table.mono (by decide)) O_is_joined_13 g_len g_isinstance g_tuple (qq 12);have O_is_joined_14:=qu (P:=l.prog) (w:=w) (base:=base) (k:=30) F9 b9 m9 O_is_dealing_13 g_len (qt (qg 13));have O_is_dealing_14:=qp (P:=l.prog) (w:=w) (base:=base) (k:=31) F10 b10 m10 (O_is_skew.mono (by decide)) (O_is_rests.mono (by decide)) (O_is_bits.mono (by decide)) (O_is_table.mono (by decide)) O_is_joined_14 g_len g_isinstance g_tuple (qq 13);have O_is_joined_15:=qu (P:=l.prog) (w:=w) (base:=base) (k:=32) F9 b9 m9 O_is_dealing_14 g_len (qt (qg 14));have O_is_dealing_15:=qp (P:=l.prog) (w:=w) (base:=base) (k:=33) F10 b10 m10 (O_is_skew.mono (by decide)) (O_is_rests.mono (by decide)) (O_is_bits.mono (by decide)) (O_is_table.mono (by decide)) O_is_joined_15 g_len g_isinstance g_tuple (qq 14);have O_is_joined_16:=qu (P:=l.prog) (w:=w) (base:=base) (k:=34) F9 b9 m9 O_is_dealing_15 g_len (qt (qg 15));have O_is_dealing_16:=qp (P:=l.prog) (w:=w) (base:=base) (k:=35) F10 b10 m10 (O_is_skew.mono (by decide)) (O_is_rests.mono (by decide)) (O_is_bits.mono (by decide)) (O_is_table.mono (by decide)) O_is_joined_16 g_len g_isinstance g_tuple (qq 15);have O_is_joined_17:=qu (P:=l.prog) (w:=w) (base:=base) (k:=36) F9 b9 m9 O_is_dealing_16 g_len (qt (qg 16));have O_is_dealing_17:=qp (P:=l.prog) (w:=w) (base:=base) (k:=37) F10 b10 m10 (O_is_skew.mono (by decide)) (O_is_rests.mono (by decide)) (O_is_bits.mono (by decide)) (O_is_table.mono (by decide)) O_is_joined_17 g_len g_isinstance g_tuple (qq 16);have O_is_joined_18:=qu (P:=l.prog) (w:=w) (base:=base) (k:=38) F9 b9 m9 O_is_dealing_17 g_len (qt (qg 17));have O_is_dealing_18:=qp (P:=l.prog) (w:=w) (base:=base) (k:=39) F10 b10 m10 (O_is_skew.mono (by decide)) (O_is_rests.mono (by decide)) (O_is_bits.mono (by decide)) (O_is_table.mono (by decide)) O_is_joined_18 g_len g_isinstance g_tuple (qq 17);exact qg6 (k:=40) F24 (O_law_left.mono (by decide)) (O_law_dealing.mono (by decide)) (O_law_pick.mono (by decide)) (O_law_small.mono (by decide)) (O_law_deep.mono (by decide)) O_is_dealing_18 (O_law_wrong.mono (by decide)) g_len g_min g_range g_repr (qfe qdB)
set_option maxRecDepth 100000 in
set_option maxHeartbeats 0 in
def qfA (w : World) (os : OsState) : PySem.W.topRun treeTable PySem.Challenge.pw_bankwalk_k01_what_a_dealing_is w 11 (some (Value.ref 6)) 2 (⟨qbV w.params,176,{ },#[],{ },410,os⟩ : PySem.W.SharedT).abs (PySem.W.restOf [] qhd WZ ⟨167,0,187,15⟩ qdT) = some ⟨qb4 w.params,#[],{ },410,os⟩ := by kernel_rfl
def qhQ:(qax++(qaI++[]))=T2:=by kernel_rfl
set_option maxRecDepth 100000 in
set_option maxHeartbeats 0 in
def qcY (w : World) (os : OsState) : PySem.W.topRun treeTable PySem.Challenge.pw_bankwalk_k01_what_a_dealing_is w 11 (some (Value.ref 6)) (12 + (1 + (405 + (377 + 2)))) ⟨PySem.W.boot_heap w.params,Array.mk [],PySem.W.boot_drawn,PySem.W.boot_toks,os⟩ (PySem.W.topStub PySem.Challenge.pw_bankwalk_k01_what_a_dealing_is) = some ⟨qb4 w.params,#[],{ },410,os⟩ := by
 have h:=(PySem.W.piece_app (PySem.W.segRun_of (qdJ w os)) (PySem.W.piece_app (PySem.W.segRun_of (qg9 w os)) (qfA w os)))
 rw [qhQ] at h;exact PySem.W.go_top (qe2 w os) (PySem.W.piece_block (qfz w os) h)
abbrev Q : Program := PySem.W.view PySem.Challenge.pw_bankwalk_k01_what_a_dealing_is [1,2,3,5,6,7,8,9,10,11,12,14,15,16,17,18,19,20,21,22,23,24,25,26,27]
set_option maxRecDepth 100000 in
set_option maxHeartbeats 0 in
def left : PySem.W.LeftO PySem.Challenge.pw_bankwalk_k01_what_a_dealing_is Q [] (λs => PySem.W.xlAt Q [] s && PySem.W.recOk [] s) (λs => ([3,20,21,27,28,32,33,39,40,46,47,53,54,58,59,63,64,68,69,75,76,82,83,89,90,96,97,103,104,110,111,117,118,124,125,131,132,136,137,141,142,146,147,153,154,160,161,167,168,174,175] : List Addr).map s.heap.get?) (λw => (Kf w.params).map λp => some p.2) 1686 :=
 PySem.W.LeftO.of_pieces (H₀:=PySem.W.boot_heap) (H₁:=qb4) (gs₀:=Array.mk []) (gs₁:=#[]) (d₀:=PySem.W.boot_drawn) (d₁:={ }) (k₀:=PySem.W.boot_toks) (k₁:=410) (m₀:=11) (ann:=some (Value.ref 6)) (M:=(12+(1+(405+(377+2)))))
  (PySem.W.boot_open (by kernel_rfl) (by kernel_rfl) (λs=>by kernel_rfl)) (λw=>by kernel_rfl) qcY (by kernel_rfl) (λw=>by kernel_rfl)
end K01
open PySem PySem.W PyProof.Rows
set_option maxRecDepth 100000 in
set_option maxHeartbeats 0 in
theorem PySem.Challenge.cw_bankwalk_k01_what_a_dealing_is_holds : PySem.Challenge.rw_bankwalk_k01_what_a_dealing_is.Holds :=
 Hd.head (l := PySem.Challenge.rw_bankwalk_k01_what_a_dealing_is) (q := K01.Q) (loose := []) (K := K01.Kf) (as := [3,20,21,27,28,32,33,39,40,46,47,53,54,58,59,63,64,68,69,75,76,82,83,89,90,96,97,103,104,110,111,117,118,124,125,131,132,136,137,141,142,146,147,153,154,160,161,167,168,174,175]) (N := 1686) (k := 41) (x := "_law_script")
  (d:=⟨"law",L2.ZS K01.JF,L2.jk K01.JF,L2.qm K01.JF,⟨167,0,187,15⟩⟩) (λ_=>by kernel_rfl) (by kernel_rfl) K01.left (by kernel_rfl) (by kernel_rfl) (by kernel_rfl) (by kernel_rfl) (by kernel_rfl)
  ⟨rfl,rfl,rfl,rfl,rfl,by decide +kernel⟩ (by w_witness2) rfl (by kernel_rfl) ⟨rfl,by decide,by decide,rfl⟩ (λw=>by kernel_rfl) λw mg fa h KX G hmg=>K01.qfv KX G hmg
