import PyProof.Rows.All
import Wide.All
import OpenK.AllK
import Wide.FinOn
import Lean
import PyProof.EqAt
import PyProof.EqKinds
import PyProof.TupleCall
import PyProof.NeKinds
import KE.KRevSl
import PyProof.FactsAll.bool_2
import PyProof.Rows.EqBoolInt
import PyProof.Rows.IntBool
import PySem.Challenge.RW_bankwalk_k21_rests_of_walks
-- CHANGE: your row's module here,as the last of these rows
set_option Elab.async false
set_option genSizeOf false
set_option genInjectivity false
noncomputable section
abbrev Frg:=PySem.W.Frag
open List (getElem_cons_zero length_cons getElem?_cons_succ getElem_cons_succ getElem?_cons_zero length_nil set_cons_zero set_cons_succ length_map not_mem_nil mem_append_right map_cons mem_cons getElem?_set getElem?_map cons_append size_toArray getElem?_eq_getElem map_map mem_of_getElem? mem_map length_append getD_eq_getElem?_getD mem_range length_range)
def obb{α β:Type _}{o:Option α}{f:α->Option β}{b:β}(h:o.bind f=some b):∃a,o=some a/\f a=some b:=Option.bind_eq_some_iff.mp h
set_option linter.all false
set_option maxRecDepth 100000
namespace L2
open PySem PySem.Spec PyProof.Rows
abbrev Key:=Sum Int Str
def qmd:Key->Value->Bool
 |.inl k,v=>Value.isInt k v
 |.inr x,v=>Value.isStrOf x v
def qpu (w:World):Key->Int
 |.inl k=>hashInt k
 |.inr x=>hashStr w x
def zo:∀ {k:Key} {v:Value},qmd k v=true->(∃ i t,k=Sum.inl i/\v=Value.int i t)\/(∃ x t,k=Sum.inr x/\v=Value.str x t)
 |.inl i,v,h=>by
  obtain ⟨t,e⟩:=Value.isInt_shape (k:=i) (v:=v) h;exact .inl ⟨i,t,rfl,e⟩
 |.inr x,v,h=>by
  obtain ⟨t,e⟩:=Value.isStrOf_shape (x:=x) (v:=v) h;exact .inr ⟨x,t,rfl,e⟩
def qjy (a b:Int):decide ((Sum.inl a:Key)=Sum.inl b)=(a==b):=by
 by_cases e:a=b
 ·subst e;simp
 ·have h:¬ (Sum.inl a:Key)=Sum.inl b:=λq=>e (Sum.inl.inj q);rw [decide_eq_false h];exact (beq_eq_false_iff_ne.mpr e).symm
def qio (a b:Str):decide ((Sum.inr a:Key)=Sum.inr b)=decide (a=b):=by
 by_cases e:a=b
 ·subst e;simp
 ·have h:¬ (Sum.inr a:Key)=Sum.inr b:=λq=>e (Sum.inr.inj q);rw [decide_eq_false h,decide_eq_false e]
def qi4 (a:Int) (b:Str):decide ((Sum.inl a:Key)=Sum.inr b)=false:=decide_eq_false (λq=>nomatch q)
def qkQ (a:Str) (b:Int):decide ((Sum.inr a:Key)=Sum.inl b)=false:=decide_eq_false (λq=>nomatch q)
def N6 (prog:Program) (w:World):PySem.KeyKind prog w Key where
 is:=qmd
 hash:=qpu w
 inj:=λv a b ha hb=>by
  rcases zo ha with ⟨i,t,rfl,rfl⟩|⟨x,t,rfl,rfl⟩
  ·rcases zo hb with ⟨j,u,rfl,e⟩|⟨y,u,rfl,e⟩
   ·injection e with e1 _;rw [e1]
   ·exact nomatch e
  ·rcases zo hb with ⟨j,u,rfl,e⟩|⟨y,u,rfl,e⟩
   ·exact nomatch e
   ·injection e with e1 _;rw [e1]
 byValue:=λk v h=>by
  rcases zo h with ⟨i,t,rfl,rfl⟩|⟨x,t,rfl,rfl⟩<;>rfl
 pyHash:=λhv h=>by
  rcases zo hv with ⟨i,t,rfl,rfl⟩|⟨x,t,rfl,rfl⟩
  ·exact wpAny_pyHash_int h
  ·exact wpAny_pyHash_str h
 eqBool:=λhu hv h=>by
  rcases zo hu with ⟨i,t,rfl,rfl⟩|⟨x,t,rfl,rfl⟩
  ·rcases zo hv with ⟨j,u,rfl,rfl⟩|⟨y,u,rfl,rfl⟩
   ·rw [qjy] at h;exact wpAny_eqBool_int h
   ·rw [qi4] at h;exact SeqAt.EqAt.int_str i t y u _ _ _ _ h
  ·rcases zo hv with ⟨j,u,rfl,rfl⟩|⟨y,u,rfl,rfl⟩
   ·rw [qkQ] at h;exact SeqAt.EqAt.str_int x t j u _ _ _ _ h
   ·rw [qio] at h;exact wpAny_eqBool_str h
 «strs»:=λk x t v h=>by
  rcases zo h with ⟨i,u,rfl,e⟩|⟨y,u,rfl,e⟩
  ·exact nomatch e
  ·injection e with e1 _;subst e1;cases v<;>rfl
set_option genInjectivity true in
inductive V where
 |non|bl (b:Bool)|int (i:Int)|str (x:Str)|byt (b:Array UInt8)|flt (b:UInt64)|ref (a:Addr)|ty (n:String)
 deriving DecidableEq
def ja:V->Value->Prop
 |.non,u=>u=Value.none
 |.bl b,u=>u=Value.bool b
 |.int i,u=>∃ t,u=Value.int i t
 |.str x,u=>∃ t,u=Value.str x t
 |.byt b,u=>∃ t,u=Value.bytes b t
 |.flt b,u=>∃ t,u=Value.float b t
 |.ref a,u=>u=Value.ref a
 |.ty n,u=>u=Value.type n
abbrev zI:List V->List Value->Prop:=Paired ja
def zI.length {xs:List V} {us:List Value} (r:zI xs us):xs.length=us.length:=Paired.length r
def zI.get:∀ {xs:List V} {us:List Value} {i:Nat} {x:V},zI xs us->xs[i]?=some x->∃ u,us[i]?=some u/\ja x u
 |_,_,_,_,.nil,e=>by simp at e
 |_,_,0,_,.cons r _,e=>by simp at e;subst e;exact ⟨_,rfl,r⟩
 |_,_,i+1,x,.cons _ t,e=>by
  obtain ⟨u,h1,h2⟩:=zI.get (i:=i) (x:=x) t (by simpa using e);exact ⟨u,by simpa using h1,h2⟩
def zI.set {x:V} {u:Value} (r:ja x u):∀ {xs:List V} {us:List Value} (i:Nat),zI xs us->zI (xs.set i x) (us.set i u)
 |_,_,_,.nil=>.nil
 |_,_,0,.cons _ t=>.cons r t
 |_,_,i+1,.cons q t=>.cons q (zI.set r i t)
def zI.append:∀ {xs ys:List V} {us ws:List Value},zI xs us->zI ys ws->zI (xs++ys) (us++ws)
 |_,_,_,_,.nil,s=>s
 |_,_,_,_,.cons r t,s=>.cons r (zI.append t s)
def zI.take:∀ {xs:List V} {us:List Value} (n:Nat),zI xs us->zI (xs.take n) (us.take n)
 |_,_,0,_=>.nil
 |_,_,_+1,.nil=>.nil
 |_,_,n+1,.cons r t=>.cons r (zI.take n t)
def zI.drop:∀ {xs:List V} {us:List Value} (n:Nat),zI xs us->zI (xs.drop n) (us.drop n)
 |_,_,0,r=>r
 |_,_,_+1,.nil=>.nil
 |_,_,n+1,.cons _ t=>zI.drop n t
def qo0:Option V->Option Value->Prop
 |some v,some u=>ja v u
 |none,none=>True
 |_,_=>False
def KV {κ:Type}:List (κ×V)->List (κ×Value)->Prop:=Paired λ(p:κ×V) (q:κ×Value)=>p.1=q.1/\ja p.2 q.2
def kV:Key->V
 |.inl i=>.int i
 |.inr x=>.str x
inductive HO where
 /-- a list -/
 |lst (xs:List V)
 /-- a tuple (never changes) -/
 |tup (xs:List V)
 /-- a dict whose keys are ints and texts;one whose keys are tuples of ints and texts (the empty one is both) -/
 |dK (kvs:List (Key×V))|dT (kvs:List (List Key×V))
 /-- a set of ints: its members,its size -/
 |set (S:Int->Bool) (n:Nat)
 /-- an instance of the class at C,its dict at dx,its attributes -/
 |ins (C dx:Addr) (fs:List (Str×V))
 /-- the dict of the instance at x -/
 |own (x:Addr)
 /-- the dict of an exception -/
 |xd (fs:List (Str×V))
 /-- a bound method,f of x -/
 |met (f x:Addr)
 /-- a range object lo,lo+1,.. below hi -/
 |rng (lo hi:Int)
 /-- a thing that is known to the object (the script;a dict while a loop walks it): read,never written while it is so -/
 |frz (o:Obj) (u:HO)
 /-- a code object's table -/
 |tbl (ps:Array Value)
 /-- any other thing,by what is true of its one object (a def of one's own: SetO a S n:=HO.ext λh=>..) -/
 |ext (φ:Heap->Prop)
abbrev Hp:=Addr->Option HO
def upd (H:Hp) (a:Addr) (o:HO):Hp:=λb=>if b=a then some o else H b
def qU {H:Hp} {a:Addr} {o:HO}:upd H a o a=some o:=by unfold upd;rw [if_pos rfl]
def qC {H:Hp} {a b:Addr} {o:HO} (h:b≠a):upd H a o b=H b:=by unfold upd;rw [if_neg h]
def qw {H:Hp} {a b:Addr} {o:HO} (h:H a=some o) (h':H b=none):a≠b:=by
 intro e;subst e;rw [h] at h';cases h'
section
variable (P:Program) (w:World)
def VE (H:Hp) (h:Heap) (a:Addr):HO->Prop
 |.lst xs=>xs.length<=sizeLine/\∃ (its:List Value) (n:Nat),zI xs its/\h.get? a=some { cls:=.type "list",data:=.seq its.toArray n }
 |.tup xs=>xs.length<=sizeLine/\∃ its:List Value,zI xs its/\IsTup h a its.toArray
 |.dK kvs=>kvs.length<=sizeLine/\(a==sysModules)=false/\∃ vs,KV kvs vs/\h.DictOf (N6 P w) a vs
 |.dT kvs=>kvs.length<=sizeLine/\(a==sysModules)=false/\∃ xs:List (List Key×Addr×Value),
   Paired (λ(p:List Key×V) (q:List Key×Addr×Value)=>p.1=q.1/\H q.2.1=some (.tup (p.1.map kV))/\ja p.2 q.2.2) kvs xs /\
   ∃ o es ep,h.get? a=some o/\o.ExactDict/\o.data=.dict es ep/\es.toList=xs.map (entryOfKey (tupleKind (N6 P w)))/\(xs.map (·.1)).Nodup
 |.set S n=>h.SetOf (intKind P w) a S n
 |.ins C dx fs=>H dx=some (.own a)/\fs.length<=1000/\dx≠a/\h.get? a=some (PySem.W.instObj C dx) /\
   ∃ mA,h.Ns1 dx mA/\(∀ f,qo0 (fs.lookup f) (mA f))/\PySem.Within mA (fs.map (·.1))
 |.own _=>∃ o,h.get? a=some o
 |.xd fs=>∃ mA,h.Ns1 a mA/\∀ f,qo0 (fs.lookup f) (mA f)
 |.rng lo hi=>∃ t u v,h.get? a=some { cls:=.type "range",data:=.fields #[.int lo t,.int hi u,.int 1 v] }
 |.frz o u=>h.get? a=some o/\VE H h a u
 |.tbl ps=>h.get? a=some { cls:=.none,data:=.fields ps }
 |.met f x=>h.get? a=some (PySem.W.methodObj (.ref f) (.ref x))
 |.ext φ=>φ h/\(∃ o,h.get? a=some o)/\∀ h1 h2:Heap,φ h1->(∀ o,h1.get? a=some o->h2.get? a=some o)->φ h2
def HOk (H:Hp) (h:Heap):Prop:=∀ a o,H a=some o->VE P w H h a o
end
section
variable {P:Program} {w:World} {H H':Hp} {h h':Heap} {a:Addr} {o:HO}
def VE.lt (x:VE P w H h a o):a<h.objs.size:=by
 cases o with
 |lst xs=>obtain ⟨_,_,_,_,e⟩:=x;exact Heap.lt_size e
 |tup xs=>obtain ⟨_,_,_,p⟩:=x;exact p.lt
 |dK kvs=>obtain ⟨_,_,_,_,o,_,_,e,_⟩:=x;exact Heap.lt_size e
 |dT kvs=>obtain ⟨_,_,_,_,o,_,_,e,_⟩:=x;exact Heap.lt_size e
 |set S n=>obtain ⟨o,_,_,_,e,_⟩:=x;exact Heap.lt_size e
 |ins C dx fs=>obtain ⟨_,_,_,e,_⟩:=x;exact Heap.lt_size e
 |own y=>obtain ⟨_,e⟩:=x;exact Heap.lt_size e
 |xd fs=>obtain ⟨_,⟨_,_,_,e,_⟩,_⟩:=x;exact Heap.lt_size e
 |rng lo hi=>obtain ⟨_,_,_,e⟩:=x;exact Heap.lt_size e
 |frz ob u=>obtain ⟨e,_⟩:=x;exact Heap.lt_size e
 |tbl ps=>exact Heap.lt_size (show h.get? a=some _ from x)
 |met f y=>exact Heap.lt_size (show h.get? a=some _ from x)
 |ext φ=>obtain ⟨_,⟨_,e⟩,_⟩:=x;exact Heap.lt_size e
def Paired.mapP {α β:Type} {F G:α->β->Prop}:∀ {l₁:List α} {l₂:List β},Paired F l₁ l₂->(∀ a b,F a b->G a b)->Paired G l₁ l₂
 |_,_,.nil,_=>.nil
 |_,_,.cons r t,f=>.cons (f _ _ r) (Paired.mapP t f)
def VE.stay (x:VE P w H h a o) (k:∀ b u,(b=a\/H b=some (.own a))->h.get? b=some u->h'.get? b=some u)
  (ho:∀ b,H b=some (.own a)->H' b=some (.own a)) (ht:∀ b xs,H b=some (.tup xs)->H' b=some (.tup xs)):VE P w H' h' a o:=by
 induction o with
 |lst xs=>obtain ⟨z,its,n,r,e⟩:=x;exact ⟨z,its,n,r,k _ _ (.inl rfl) e⟩
 |tup xs=>obtain ⟨z,its,r,ob,e,c⟩:=x;exact ⟨z,its,r,ob,k _ _ (.inl rfl) e,c⟩
 |dK kvs=>obtain ⟨z,y,vs,r,ob,es,ep,e,c⟩:=x;exact ⟨z,y,vs,r,ob,es,ep,k _ _ (.inl rfl) e,c⟩
 |dT kvs=>
  obtain ⟨z,y,xs,r,ob,es,ep,e,c⟩:=x;exact ⟨z,y,xs,Paired.mapP r λp q z=>⟨z.1,ht _ _ z.2.1,z.2.2⟩,ob,es,ep,k _ _ (.inl rfl) e,c⟩
 |set S n=>obtain ⟨ob,es,ep,t,e,c⟩:=x;exact ⟨ob,es,ep,t,k _ _ (.inl rfl) e,c⟩
 |ins C dx fs=>
  obtain ⟨d,z,ne,e,mA,⟨od,es,ep,e2,c⟩,r⟩:=x;exact ⟨ho _ d,z,ne,k _ _ (.inl rfl) e,mA,⟨od,es,ep,k _ _ (.inr d) e2,c⟩,r⟩
 |own y=>obtain ⟨ob,e⟩:=x;exact ⟨ob,k _ _ (.inl rfl) e⟩
 |xd fs=>obtain ⟨mA,⟨od,es,ep,e,c⟩,r⟩:=x;exact ⟨mA,⟨od,es,ep,k _ _ (.inl rfl) e,c⟩,r⟩
 |rng lo hi=>obtain ⟨t,u,v,e⟩:=x;exact ⟨t,u,v,k _ _ (.inl rfl) e⟩
 |frz ob u ih=>obtain ⟨e,q⟩:=x;exact ⟨k _ _ (.inl rfl) e,ih q⟩
 |tbl ps=>
  have e:h.get? a=some { cls:=.none,data:=.fields ps }:=x;show h'.get? a=some { cls:=.none,data:=.fields ps };exact k a _ (.inl rfl) e
 |met f y=>
  have e:h.get? a=some (PySem.W.methodObj (.ref f) (.ref y)):=x;show h'.get? a=some (PySem.W.methodObj (.ref f) (.ref y));exact k a _ (.inl rfl) e
 |ext φ=>obtain ⟨p,⟨o,e⟩,st⟩:=x;exact ⟨st _ _ p λo q=>k _ _ (.inl rfl) q,⟨o,k _ _ (.inl rfl) e⟩,st⟩
def HOk.lt (x:HOk P w H h) (e:H a=some o):a<h.objs.size:=(x a o e).lt
def HOk.fresh (x:HOk P w H h) (e:h.objs.size<=a):H a=none:=by
 cases q:H a with
 |none=>rfl
 |some u=>exact absurd (Nat.lt_of_lt_of_le (x.lt q) e) (Nat.lt_irrefl _)
def HOk.kept (x:HOk P w H h) (k:∀ b u,h.get? b=some u->h'.get? b=some u):HOk P w H h':=λa o e=>
 (x a o e).stay (λb u _ q=>k b u q) (λ_ q=>q) λ_ _ q=>q
def HOk.laid (x:HOk P w H h) (k:∀ b u,h.get? b=some u->h'.get? b=some u) (hp:h.objs.size<=a) (new:VE P w (upd H a o) h' a o):HOk P w (upd H a o) h':=λb u e=>by
 have hn:=x.fresh hp;by_cases hb:b=a
 ·subst hb;rw [qU] at e;cases e;exact new
 ·rw [qC hb] at e;exact (x b u e).stay (λc v _ q=>k c v q) (λc q=>by rw [qC (qw q hn)];exact q) λc xs q=>by rw [qC (qw q hn)];exact q
end
def Rd (H:Hp) (a:Addr) (u:HO):Prop:=H a=some u\/∃ o,H a=some (.frz o u)
def Rd.ok {P:Program} {w:World} {H:Hp} {h:Heap} {a:Addr} {u:HO} (r:Rd H a u) (x:HOk P w H h):VE P w H h a u:=by
 rcases r with r|⟨o,r⟩
 ·exact x a u r
 ·obtain ⟨_,q⟩:=x a _ r;exact q
def Mut:Option HO->Prop
 |some (.lst _)=>True
 |some (.dK _)=>True
 |some (.dT _)=>True
 |some (.set _ _)=>True
 |some (.ins _ _ _)=>True
 |some (.ext _)=>True
 |_=>False
section
variable {P:Program} {w:World} {H:Hp} {h h':Heap} {x e:Addr} {o':HO}
def HOk.write (ok:HOk P w H h) (mu:Mut (H x)) (he:e=x\/H e=some (.own x)) (k:∀ b u,b≠e->h.get? b=some u->h'.get? b=some u) (heo:∃ u,h'.get? e=some u)
  (new:VE P w (upd H x o') h' x o'):HOk P w (upd H x o') h':=λb u q=>by
 have nown:∀ c y,H c=some (.own y)->c≠x:=λc y r z=>by subst z;rw [r] at mu;exact mu
 have ntup:∀ c xs,H c=some (.tup xs)->c≠x:=λc xs r z=>by subst z;rw [r] at mu;exact mu
 by_cases hb:b=x
 ·subst hb;rw [qU] at q;cases q;exact new
 ·rw [qC hb] at q;by_cases hbe:b=e
  ·have q':H b=some (.own x):=by
    rcases he with z|z
    ·exact absurd (hbe.trans z) hb
    ·rw [hbe];exact z
   rw [q] at q';cases q';obtain ⟨v,hv⟩:=heo;exact ⟨v,by rw [hbe];exact hv⟩
  ·refine (ok b u q).stay (λc v hc r=>k c v ?_ r) (λc r=>by rw [qC (nown c b r)];exact r) λc xs r=>by rw [qC (ntup c xs r)];exact r
   rcases hc with rfl|hc
   ·exact hbe
   ·rintro rfl;rcases he with z|z
    ·exact nown c b hc z
    ·rw [hc] at z;cases z;exact hb rfl
end
structure Un (fs ex:List Addr) (H H':Hp) (h h':Heap):Prop where
 keep:∀ b o,h.get? b=some o->H b=none->b∉fs->b∉ex->h'.get? b=some o
 slot:∀ b o,h.get? b=some o->H b=none->b∈fs->b∉ex->∃ sl,h'.get? b=some { o with slots:=sl }
 free:∀ b o,h.get? b=some o->H b=none->b∉ex->H' b=none
 there:∀ b o,h.get? b=some o->b∉ex->∃ o',h'.get? b=some o'
 tups:∀ b xs,H b=some (.tup xs)->H' b=some (.tup xs)
 frzs:∀ b o u,H b=some (.frz o u)->H' b=some (.frz o u)
 tbls:∀ b ps,H b=some (.tbl ps)->∃ more,H' b=some (.tbl (ps++more))
section
variable {fs fs' ex ex':List Addr} {H H1 H2:Hp} {h h1 h2 h':Heap} {a x e:Addr} {o:HO}
def Un.any (u:Un fs ex H H1 h h1) {b:Addr} {ob:Obj} (q:h.get? b=some ob) (n:H b=none) (hx:b∉ex):∃ sl,h1.get? b=some { ob with slots:=sl }:=by
 by_cases hb:b∈fs
 ·exact u.slot b ob q n hb hx
 ·exact ⟨ob.slots,u.keep b ob q n hb hx⟩
def Un.kept (k:∀ b u,h.get? b=some u->h'.get? b=some u):Un fs ex H H h h':=
 ⟨λb ob q _ _ _=>k b ob q,λb ob q _ _ _=>⟨ob.slots,k b ob q⟩,λ_ _ _ n _=>n,λb ob q _=>⟨ob,k b ob q⟩,λ_ _ q=>q,λ_ _ _ q=>q,λ_ ps q=>⟨#[],by rw [q];simp⟩⟩
def Un.refl:Un fs ex H H h h:=Un.kept λ_ _ q=>q
def Un.laid (k:∀ b u,h.get? b=some u->h'.get? b=some u) (hp:h.objs.size<=a) (hn:H a=none):Un fs ex H (upd H a o) h h' where
 keep:=λb u q _ _ _=>k b u q
 slot:=λb u q _ _ _=>⟨u.slots,k b u q⟩
 free:=λb u q n _=>by rw [qC (Nat.ne_of_lt (Nat.lt_of_lt_of_le (Heap.lt_size q) hp))];exact n
 there:=λb u q _=>⟨u,k b u q⟩
 tups:=λb xs q=>by rw [qC (qw q hn)];exact q
 frzs:=λb u xs q=>by rw [qC (qw q hn)];exact q
 tbls:=λb ps q=>⟨#[],by rw [qC (qw q hn),q];simp⟩
def Un.write (mu:Mut (H x)) (he:e=x\/H e=some (.own x)) (k:∀ b u,b≠e->h.get? b=some u->h'.get? b=some u) (heo:∃ u,h'.get? e=some u):Un fs ex H (upd H x o) h h':=by
 have hx:∀ b,H b=none->b≠x:=λb n z=>by subst z;rw [n] at mu;exact mu
 have hb:∀ b,H b=none->b≠e:=λb n z=>by
  subst z;rcases he with r|r
  ·exact hx b n r
  ·rw [n] at r;cases r
 have hm:∀ b u,H b=some u->¬ Mut (some u)->b≠x:=λb u q nm z=>by subst z;rw [q] at mu;exact nm mu
 refine ⟨λb u q n _ _=>k b u (hb b n) q,λb u q n _ _=>⟨u.slots,k b u (hb b n) q⟩,λb u q n _=>by rw [qC (hx b n)];exact n,λb u q _=>?_,
  λb xs q=>by rw [qC (hm b _ q λz=>z)];exact q,λb u xs q=>by rw [qC (hm b _ q λz=>z)];exact q,λb ps q=>⟨#[],by rw [qC (hm b _ q λz=>z),q];simp⟩⟩
 by_cases hbe:b=e
 ·subst hbe;exact heo
 ·exact ⟨u,k b u hbe q⟩
end
def trk (h:Heap) (H:Hp):List Addr:=(List.range h.objs.size).filter λa=>(H a).isSome
def qdo (h:Heap) (H:Hp):Heap:=PySem.W.hideAll h (trk h H)
def qbf (h:Heap) (H:Hp):(qdo h H).objs.size=h.objs.size:=PySem.W.hideAll_size _ _
def qdl {h:Heap} {H:Hp} {b:Addr} {o:Obj} (e:h.get? b=some o) (n:H b=none):(qdo h H).get? b=some o:=
 PySem.W.hideAll_get _ e λhm=>by
  have q:(H b).isSome=true:=(List.mem_filter.mp hm).2;rw [n] at q;simp at q
def qhy {h:Heap} {H:Hp} {b:Addr} {o:Obj} (e:(qdo h H).get? b=some o):h.get? b=some o/\H b=none:=by
 have e':h.get? b=some o:=PySem.W.of_hideAll (trk h H) e;refine ⟨e',?_⟩;cases q:H b with
 |none=>rfl
 |some x=>
  have hm:b∈trk h H:=List.mem_filter.mpr ⟨mem_range.mpr (Heap.lt_size e'),by simp [q]⟩;have z:(qdo h H).get? b=none:=PySem.W.hideAll_none (trk h H) hm;rw [z] at e;cases e
def qge (g h:Heap) (L:Addr):List (Addr×Obj):=(List.range h.objs.size).filterMap λa=>if a=L\/(g.get? a).isSome=true then none else (h.get? a).map λo=>(a,o)
def jw (g h:Heap) (L d:Addr):List (Addr×Obj):=(qge g h L).filter λp=>decide (p.1≠d)
structure Mod (K:Frg) (mg:Str->Option Value) (base:Heap):Prop where
 kin:K.In base
 glob:base.Ns mainGlobals mg
 blt:∃ mb,base.Ns builtinsNs mb/\∀ x:Str,x≠"__name__" -> mb x=bootBuiltins x
 nolimit:base.NoLimit
structure Cx where
 prog:Program
 w:World
 K:PySem.W.Frag
 mg:Str->Option Value
 base:Heap
 A:Around
 N:List Str
 s₀:Shared
 H₀:Hp
 env:Env
 outer:List Env
 stack:List Env
 ex:List Addr
 fn:Str->Bool
 calm:Bool
 pn:List (Addr×Obj)
 xe:Value->Shared->Prop
def frs (l:List Env):List Addr:=l.filterMap (·.frame)
abbrev Cx.fs (X:Cx):List Addr:=frs X.outer
def Vis (sc:Scope) (x:Str):Prop:=sc.names.lookup x=some .local\/sc.names.lookup x=some .cell\/sc.names.lookup x=some .free
def Loc (sc:Scope) (x:Str):Prop:=sc.names.lookup x=some .local\/sc.names.lookup x=some .cell
def qpz (env:Env) (h:Heap) (m:Str->Option Value) (x:Str) (u:Value):Prop:=
 (env.kindOf x=some .local/\m x=some u)\/((env.kindOf x=some .cell\/env.kindOf x=some .free)/\∃ c,env.cells.lookup x=some c/\h.IsCell c (some u))
structure Cx.Ok (X:Cx):Prop where
 mod:Mod X.K X.mg X.base
 kind:X.env.scope.kind=.function
 glob:X.env.globals=mainGlobals
 blt:X.env.builtins=builtinsNs
 above:X.s₀.heap.objs.size<=X.env.locals
 inj:∀ x y c,X.env.cells.lookup x=some c->X.env.cells.lookup y=some c->x=y
 has:∀ x,(X.env.kindOf x=some .cell\/X.env.kindOf x=some .free)->∃ c,X.env.cells.lookup x=some c
 cab:∀ x c,X.fn x=true->X.env.cells.lookup x=some c->X.s₀.heap.objs.size<=c
 hd:X.calm=true->X.A.handled=none
 frames:X.A.frames=some X.stack
 stk:X.stack=X.outer\/(X.stack=X.env::X.outer/\X.env.frame=some X.env.locals)
 exf:∀ b∈X.ex,b≠X.env.locals/\∀ x c,X.env.cells.lookup x=some c->c≠b
 bs:∀ b o,X.base.get? b=some o->X.s₀.heap.get? b=some o/\X.H₀ b=none
 bsz:X.base.objs.size<=X.s₀.heap.objs.size
 noex:∀ b o,X.base.get? b=some o->b∉X.ex
 exfs:∀ b∈X.ex,b∉X.fs
 funs:X.s₀.heap.FunFrames X.base X.outer
 frf:∀ b∈X.fs,X.H₀ b=none
structure Inv (X:Cx) (pins:List (Addr×Obj)) (σ:List (Option V)) (H:Hp) (s:Shared):Prop where
 ok:X.Ok
 os:s.os=X.s₀.os
 bare:AllBare s.gens
 base:Un X.fs X.ex X.H₀ H X.s₀.heap s.heap
 loc:∃ m,s.heap.Ns X.env.locals m/\∀ (i:Nat) (x:Str) (v:V),X.N[i]?=some x->σ[i]?=some (some v)->Vis X.env.scope x->∃ u,ja v u/\qpz X.env s.heap m x u
 cell:∀ x c,X.env.cells.lookup x=some c->∃ v,s.heap.IsCell c v
 free:H X.env.locals=none
 freeC:∀ x c,X.env.cells.lookup x=some c->H c=none
 pin:∀ p∈X.pn++pins,s.heap.get? p.1=some p.2/\H p.1=none/\p.1≠X.env.locals/\p.1∉X.fs/\∀ v,p.2.data≠.cell v
 hok:HOk X.prog X.w H s.heap
 len:σ.length=X.N.length
section
variable {X:Cx} {pins:List (Addr×Obj)} {σ:List (Option V)} {H H':Hp} {s:Shared} {h':Heap}
def Cx.Ok.nofr (ok:X.Ok) {b:Addr} {o:Obj} (e:X.base.get? b=some o):b∉X.fs:=λhb=>by
 have:=(ok.funs.mem hb).1;rw [e] at this;cases this
def Inv.bs (I:Inv X pins σ H s):∀ b o,X.base.get? b=some o->s.heap.get? b=some o/\H b=none:=λb o e=>
 ⟨I.base.keep b o (I.ok.bs b o e).1 (I.ok.bs b o e).2 (I.ok.nofr e) (I.ok.noex b o e),I.base.free b o (I.ok.bs b o e).1 (I.ok.bs b o e).2 (I.ok.noex b o e)⟩
def Inv.bk (I:Inv X pins σ H s):∀ b o,X.base.get? b=some o->s.heap.get? b=some o:=λb o e=>(I.bs b o e).1
def Inv.mod (I:Inv X pins σ H s):Mod X.K X.mg X.base:=I.ok.mod
def Inv.kIn (I:Inv X pins σ H s):X.K.In s.heap:=I.ok.mod.kin.keeps I.bk
def Inv.nolimit (I:Inv X pins σ H s):s.heap.NoLimit:=I.ok.mod.nolimit.keeps I.bk
def Inv.fr (I:Inv X pins σ H s):∃ m,Fr X.base X.env.locals s.heap m:=
 let ⟨m,hn,_⟩:=I.loc
 ⟨m,hn,I.bk,Nat.le_trans I.ok.bsz I.ok.above⟩
def Inv.lt (I:Inv X pins σ H s):X.env.locals<s.heap.objs.size:=let ⟨_,hn,_⟩:=I.loc;hn.lt
def Inv.sz (I:Inv X pins σ H s):X.s₀.heap.objs.size<=s.heap.objs.size:=Nat.le_trans I.ok.above (Nat.le_of_lt I.lt)
def Inv.nofs (I:Inv X pins σ H s) {a:Addr} (h:s.heap.objs.size<=a):a∉X.fs:=λhb=>by
 obtain ⟨_,o,ho,_⟩:=I.ok.funs.mem hb;exact absurd (Nat.lt_of_lt_of_le (Heap.lt_size ho) (Nat.le_trans I.sz h)) (Nat.lt_irrefl _)
def Inv.cne (I:Inv X pins σ H s):∀ x c,X.env.cells.lookup x=some c->c≠X.env.locals:=λx c e z=>by
 obtain ⟨v,o,ho,hd⟩:=I.cell x c e;obtain ⟨m,⟨o',es,ep,ho',hd',_⟩,_⟩:=I.loc;rw [z,ho'] at ho;cases ho;rw [hd'] at hd;cases hd
def Inv.funs (I:Inv X pins σ H s):s.heap.FunFrames X.base X.outer:=by
 have all:∀ (l:List Env),(∀ b∈frs l,b∈X.fs)->X.s₀.heap.FunFrames X.base l->s.heap.FunFrames X.base l:=by
  intro l;induction l with
  |nil=>intro _ _;trivial
  |cons env r ih=>
   intro hs hl;obtain ⟨hk,⟨L,o,hf,hn,ho,hd⟩,hr⟩:=hl;have hL:L∈X.fs:=hs L (by unfold frs;rw [List.filterMap_cons,hf];exact List.mem_cons_self);obtain ⟨sl,e⟩:=I.base.slot L o ho (I.ok.frf L hL) hL λz=>I.ok.exfs L z hL;exact ⟨hk,⟨L,_,hf,hn,e,hd⟩,ih (λb hb=>hs b (by unfold frs;rw [List.filterMap_cons,hf];exact List.mem_cons_of_mem _ hb)) hr⟩
 exact all X.outer (λ_ hb=>hb) I.ok.funs
def Inv.stack (I:Inv X pins σ H s):s.heap.FunFrames X.base X.stack:=by
 rcases I.ok.stk with e|⟨e,hf⟩
 ·rw [e];exact I.funs
 ·rw [e];obtain ⟨m,hn,_⟩:=I.loc;refine .cons (by rw [I.ok.kind];decide) hf hn ?_ I.funs;exact Heap.get?_none_of_le (Nat.le_trans I.ok.bsz I.ok.above)
def Inv.stkSub (I:Inv X pins σ H s):∀ b∈frs X.stack,b∈X.env.locals::X.fs:=λb hb=>by
 rcases I.ok.stk with e|⟨e,hf⟩
 ·rw [e] at hb;exact List.mem_cons_of_mem _ hb
 ·rw [e] at hb;unfold frs at hb;rw [List.filterMap_cons,hf] at hb;exact hb
def Inv.stkFree (I:Inv X pins σ H s):∀ b∈frs X.stack,H b=none:=λb hb=>by
 rcases mem_cons.mp (I.stkSub b hb) with e|hb
 ·rw [e];exact I.free
 ·obtain ⟨_,o,ho,_⟩:=I.ok.funs.mem hb;exact I.base.free b o ho (I.ok.frf b hb) λz=>I.ok.exfs b z hb
def Inv.step {g':Array GenState} {t':Nat} {d':Drawn} {ch:List Addr} (I:Inv X pins σ H s)
  (hch:∀ b∈ch,(b∈X.ex\/X.s₀.heap.objs.size<=b)/\b≠X.env.locals/\(∀ x c,X.env.cells.lookup x=some c->c≠b)/\∀ p∈X.pn++pins,p.1≠b)
  (keep:∀ b o,b≠X.env.locals->b∉X.fs->b∉ch->s.heap.get? b=some o->H b=none->h'.get? b=some o)
  (slot:∀ b o,b≠X.env.locals->b∈X.fs->b∉ch->s.heap.get? b=some o->H b=none->∃ sl,h'.get? b=some { o with slots:=sl }) (free:∀ b o,b∉ch->s.heap.get? b=some o->H b=none->H' b=none)
  (there:∀ b o,b∉ch->s.heap.get? b=some o->∃ o',h'.get? b=some o')
  (tups:∀ b xs,H b=some (.tup xs)->H' b=some (.tup xs)) (frzs:∀ b o u,H b=some (.frz o u)->H' b=some (.frz o u)) (tbls:∀ b ps,H b=some (.tbl ps)->∃ more,H' b=some (.tbl (ps++more)))
  (ns:∀ m,s.heap.Ns X.env.locals m->h'.Ns X.env.locals m) (hok:HOk X.prog X.w H' h') (hg:AllBare g') :
  Inv X pins σ H' { s with heap:=h',gens:=g',drawn:=d',toks:=t' }:=by
 have neL:∀ b o,X.s₀.heap.get? b=some o->b≠X.env.locals:=λb o e=>Nat.ne_of_lt (Nat.lt_of_lt_of_le (Heap.lt_size e) I.ok.above);have neC:∀ b o,X.s₀.heap.get? b=some o->b∉X.ex->b∉ch:=λb o e hx hb=>by
  rcases (hch b hb).1 with z|z
  ·exact hx z
  ·exact absurd (Nat.lt_of_lt_of_le (Heap.lt_size e) z) (Nat.lt_irrefl _)
 have cellK:∀ x c,X.env.cells.lookup x=some c->∀ v,s.heap.IsCell c v->h'.IsCell c v:=λx c e v ⟨o,ho,hd⟩=>by
  have nch:c∉ch:=λz=>(hch c z).2.2.1 x c e rfl;by_cases hc:c∈X.fs
  ·obtain ⟨sl,q⟩:=slot c o (I.cne x c e) hc nch ho (I.freeC x c e);exact ⟨_,q,hd⟩
  ·exact ⟨o,keep c o (I.cne x c e) hc nch ho (I.freeC x c e),hd⟩
 refine ⟨I.ok,I.os,hg,⟨λb o e n hb hx=>?_,λb o e n hb hx=>?_,λb o e n hx=>?_,λb o e hx=>?_,λb xs e=>tups b xs (I.base.tups b xs e),λb o xs e=>frzs b o xs (I.base.frzs b o xs e),λb ps e=>?_⟩,?_,λx c e=>?_,?_,λx c e=>?_,λp hp=>?_,hok,I.len⟩
 ·exact keep b o (neL b o e) hb (neC b o e hx) (I.base.keep b o e n hb hx) (I.base.free b o e n hx)
 ·obtain ⟨sl,e1⟩:=I.base.slot b o e n hb hx;obtain ⟨sl',e2⟩:=slot b _ (neL b o e) hb (neC b o e hx) e1 (I.base.free b o e n hx);exact ⟨sl',e2⟩
 ·obtain ⟨o',e1⟩:=I.base.there b o e hx;exact free b o' (neC b o e hx) e1 (I.base.free b o e n hx)
 ·obtain ⟨o',e1⟩:=I.base.there b o e hx;exact there b o' (neC b o e hx) e1
 ·obtain ⟨m1,e1⟩:=I.base.tbls b ps e;obtain ⟨m2,e2⟩:=tbls b _ e1;exact ⟨m1++m2,by rw [e2,Array.append_assoc]⟩
 ·obtain ⟨m,hn,hl⟩:=I.loc;refine ⟨m,ns m hn,λi x v e1 e2 e3=>?_⟩;obtain ⟨u,r,l⟩:=hl i x v e1 e2 e3;refine ⟨u,r,?_⟩;rcases l with l|⟨k,c,e,z⟩
  ·exact .inl l
  ·exact .inr ⟨k,c,e,cellK x c e _ z⟩
 ·obtain ⟨v,z⟩:=I.cell x c e;exact ⟨v,cellK x c e v z⟩
 ·obtain ⟨m,⟨o,_,_,ho,_⟩,_⟩:=I.loc;exact free _ o (λz=>(hch _ z).2.1 rfl) ho I.free
 ·obtain ⟨v,o,ho,hd⟩:=I.cell x c e;exact free c o (λz=>(hch c z).2.2.1 x c e rfl) ho (I.freeC x c e)
 ·obtain ⟨e,n,ne,nf,d⟩:=I.pin p hp;have nch:p.1∉ch:=λz=>(hch p.1 z).2.2.2 p hp rfl;exact ⟨keep p.1 p.2 ne nf nch e n,free p.1 p.2 nch e n,ne,nf,d⟩
def Inv.un {t':Nat} (I:Inv X pins σ H s) (u:Un X.fs [] H H' s.heap h') (hok:HOk X.prog X.w H' h'):Inv X pins σ H' { s with heap:=h',toks:=t' }:=by
 obtain ⟨m,⟨o,es,ep,ho,r⟩,_⟩:=id I.loc;obtain ⟨sl,hL⟩:=u.any ho I.free (by simp);exact I.step (g':=s.gens) (d':=s.drawn) (ch:=[]) (λ_ z=>nomatch z) (λb o _ hb _ e n=>u.keep b o e n hb (by simp)) (λb o _ hb _ e n=>u.slot b o e n hb (by simp)) (λb o _ e n=>u.free b o e n (by simp)) (λb o _ e=>u.there b o e (by simp)) u.tups u.frzs u.tbls (λm' hm=>by
  obtain ⟨o',es',ep',ho',r'⟩:=hm;rw [ho] at ho';cases ho';exact ⟨_,es',ep',hL,r'⟩) hok I.bare
def Inv.call {g':Array GenState} {t':Nat} {d':Drawn} {ch:List Addr} (I:Inv X pins σ H s) (u:Un (frs X.stack) ch H H' s.heap h') (hok:HOk X.prog X.w H' h') (hg:AllBare g')
  (hch:∀ b∈ch,(b∈X.ex\/X.s₀.heap.objs.size<=b)/\b≠X.env.locals/\(∀ x c,X.env.cells.lookup x=some c->c≠b)/\∀ p∈X.pn++pins,p.1≠b) :
  Inv X pins σ H' { s with heap:=h',gens:=g',drawn:=d',toks:=t' }:=by
 obtain ⟨m,⟨o,es,ep,ho,r⟩,_⟩:=id I.loc;obtain ⟨sl,hL⟩:=u.any ho I.free λz=>(hch _ z).2.1 rfl;exact I.step (ch:=ch) hch (λb o hL hb hc e n=>u.keep b o e n (λz=>(mem_cons.mp (I.stkSub b z)).elim hL hb) hc) (λb o _ _ hc e n=>u.any e n hc) (λb o hc e n=>u.free b o e n hc) (λb o hc e=>u.there b o e hc) u.tups u.frzs u.tbls (λm' hm=>by
  obtain ⟨o',es',ep',ho',r'⟩:=hm;rw [ho] at ho';cases ho';exact ⟨_,es',ep',hL,r'⟩) hok hg
def Inv.turned {t':Nat} {it:Addr} (I:Inv X pins σ H s) (k:∀ b o,b≠it->s.heap.get? b=some o->h'.get? b=some o) (hn:H it=none) (hL:it≠X.env.locals)
  (h1:it∈X.ex\/X.s₀.heap.objs.size<=it) (h2:∀ x c,X.env.cells.lookup x=some c->c≠it) (h3:∀ p∈X.pn++pins,p.1≠it):Inv X pins σ H { s with heap:=h',toks:=t' }:=by
 have nit:∀ b u,H b=some u->b≠it:=λb u e z=>by rw [z,hn] at e;cases e
 refine I.step (g':=s.gens) (d':=s.drawn) (ch:=[it]) (λb hb=>?_) (λb o _ _ hc e _=>k b o (λz=>hc (by simp [z])) e) (λb o _ _ hc e _=>⟨o.slots,k b o (λz=>hc (by simp [z])) e⟩) (λ_ _ _ _ n=>n)
  (λb o hc e=>⟨o,k b o (λz=>hc (by simp [z])) e⟩) (λ_ _ e=>e) (λ_ _ _ e=>e) (λb ps e=>⟨#[],by rw [e];simp⟩) (λm hm=>?_) (λb u e=>?_) I.bare
 ·have e:b=it:=by simpa using hb
  subst e;exact ⟨h1,hL,h2,h3⟩
 ·obtain ⟨o,es,ep,ho,r⟩:=hm;exact ⟨o,es,ep,k _ o (Ne.symm hL) ho,r⟩
 ·refine (I.hok b u e).stay (λc v hc q=>k c v ?_ q) (λ_ q=>q) λ_ _ q=>q;rcases hc with z|z
  ·rw [z];exact nit b u e
  ·exact nit c _ z
def Inv.tok (I:Inv X pins σ H s) (t:Nat):Inv X pins σ H { s with toks:=t }:=I.un (h':=s.heap) (t':=t) Un.refl I.hok
def Inv.kept {t':Nat} (I:Inv X pins σ H s) (k:∀ b u,s.heap.get? b=some u->h'.get? b=some u):Inv X pins σ H { s with heap:=h',toks:=t' }:=I.un (Un.kept k) (I.hok.kept k)
def Inv.laid {a:Addr} {o:HO} {t':Nat} (I:Inv X pins σ H s) (k:∀ b u,s.heap.get? b=some u->h'.get? b=some u) (hp:s.heap.objs.size<=a) (new:VE X.prog X.w (upd H a o) h' a o) :
  Inv X pins σ (upd H a o) { s with heap:=h',toks:=t' }:=I.un (Un.laid k hp (I.hok.fresh hp)) (I.hok.laid k hp new)
def Inv.write {x e:Addr} {o:HO} {t':Nat} (I:Inv X pins σ H s) (mu:Mut (H x)) (he:e=x\/H e=some (.own x)) (k:∀ b u,b≠e->s.heap.get? b=some u->h'.get? b=some u) (heo:∃ u,h'.get? e=some u)
  (new:VE X.prog X.w (upd H x o) h' x o):Inv X pins σ (upd H x o) { s with heap:=h',toks:=t' }:=I.un (Un.write mu he k heo) (I.hok.write mu he k heo new)
def Inv.pins_of {pins':List (Addr×Obj)} (I:Inv X pins σ H s) (h:∀ p∈pins',s.heap.get? p.1=some p.2/\H p.1=none/\p.1≠X.env.locals/\p.1∉X.fs/\∀ v,p.2.data≠.cell v):Inv X pins' σ H s:=
 ⟨I.ok,I.os,I.bare,I.base,I.loc,I.cell,I.free,I.freeC,λp hp=>(List.mem_append.mp hp).elim (λz=>I.pin p (List.mem_append_left _ z)) (h p),I.hok,I.len⟩
def LH {N:List Str} (hN:N.Nodup) {i j:Nat} {x:Str} (a:N[i]?=some x) (b:N[j]?=some x):i=j:=by
 obtain ⟨h1,e1⟩:=List.getElem?_eq_some_iff.mp a;obtain ⟨h2,e2⟩:=List.getElem?_eq_some_iff.mp b;exact (List.getElem_inj hN).mp (e1.trans e2.symm)
def DT {M:Model} {A:Around} {E:Value->Shared->Prop} {i:Nat} {x:Str} {v:V} {u:Value} {Q:Unit->Shared->Prop} (I:Inv X pins σ H s) (hN:X.N.Nodup) (hi:X.N[i]?=some x) (hx:Loc X.env.scope x) (r:ja v u)
  (h:∀ s',Inv X pins (σ.set i (some v)) H s'->(∃ a,Heap.SameBut a s.heap s'.heap/\(a=X.env.locals\/X.env.cells.lookup x=some a))->Q () s') (hf:X.fn x=true\/X.env.scope.names.lookup x=some .local:=by first|exact .inl rfl|exact .inr rfl|assumption):wpAny M A (storeName X.env x u) Q E s:=by
 obtain ⟨m,hn,hl⟩:=id I.loc;have hcls:(X.env.scope.kind==.class||(X.env.scope.kind==.module&&X.env.locals != X.env.globals))=false:=by rw [I.ok.kind];rfl
 have hiσ:i<σ.length:=by rw [I.len];exact (List.getElem?_eq_some_iff.mp hi).1
 have cne:=I.cne;have tracked:∀ {a:Addr} {h':Heap},(∃ o,s.heap.get? a=some o/\H a=none)->Heap.SameBut a s.heap h'->HOk X.prog X.w H h':=λ{a h'} ha hs b ob e=>by
  obtain ⟨_,_,hfree⟩:=ha;refine (I.hok b ob e).stay (λc w' hc q=>(hs.2 c ?_).trans q) (λ_ q=>q) λ_ _ q=>q;rintro rfl;rcases hc with rfl|hc
  ·rw [hfree] at e;cases e
  ·rw [hfree] at hc;cases hc
 rcases hx with hk|hk
 ·refine wpAny_storeName_local hk hn (λh' hn' hs=>?_) hcls;obtain ⟨oL,_,_,hoL,_⟩:=id hn;refine h _ ⟨I.ok,I.os,I.bare,⟨λb o e n hb hx=>?_,λb o e n hb hx=>?_,I.base.free,λb o e hx=>?_,I.base.tups,I.base.frzs,I.base.tbls⟩,⟨_,hn',λj y v' e1 e2 e3=>?_⟩,λy c e=>?_,I.free,I.freeC,λp hp=>?_,tracked ⟨oL,hoL,I.free⟩ hs,by simpa using I.len⟩ ⟨_,hs,.inl rfl⟩
  ·exact (hs.2 b (Nat.ne_of_lt (Nat.lt_of_lt_of_le (Heap.lt_size e) I.ok.above))).trans (I.base.keep b o e n hb hx)
  ·obtain ⟨sl,e1⟩:=I.base.slot b o e n hb hx;exact ⟨sl,(hs.2 b (Nat.ne_of_lt (Nat.lt_of_lt_of_le (Heap.lt_size e) I.ok.above))).trans e1⟩
  ·obtain ⟨o',e1⟩:=I.base.there b o e hx;exact ⟨o',(hs.2 b (Nat.ne_of_lt (Nat.lt_of_lt_of_le (Heap.lt_size e) I.ok.above))).trans e1⟩
  ·by_cases hj:j=i
   ·subst hj;rw [hi] at e1;cases e1;rw [List.getElem?_set_self hiσ] at e2;cases e2;exact ⟨u,r,.inl ⟨hk,by simp⟩⟩
   ·rw [List.getElem?_set_ne (Ne.symm hj)] at e2;obtain ⟨u',r',q⟩:=hl j y v' e1 e2 e3;refine ⟨u',r',?_⟩;rcases q with ⟨k,e⟩|⟨k,c,e,z⟩
    ·refine .inl ⟨k,?_⟩;have:y≠x:=λe=>hj (LH hN e1 (e▸hi));simp [this,e]
    ·exact .inr ⟨k,c,e,z.sameBut hs (cne y c e)⟩
  ·obtain ⟨w',z⟩:=I.cell y c e;exact ⟨w',z.sameBut hs (cne y c e)⟩
  ·obtain ⟨e,n,ne,nf,d⟩:=I.pin p hp;exact ⟨(hs.2 p.1 ne).trans e,n,ne,nf,d⟩
 ·have hfn:X.fn x=true:=by
   rcases hf with z|z
   ·exact z
   ·rw [z] at hk;cases hk
  obtain ⟨c,hc⟩:=I.ok.has x (.inl hk);obtain ⟨w',z⟩:=I.cell x c hc;refine wpAny_storeName_cell I.ok.kind hk hc z (λh' hc' hs=>?_);obtain ⟨oc,hoc,hocd⟩:=id z;refine h { s with heap:=h' } ⟨I.ok,I.os,I.bare,⟨λb o e n hb hx=>?_,λb o e n hb hx=>?_,I.base.free,λb o e hx=>?_,I.base.tups,I.base.frzs,I.base.tbls⟩,⟨m,hn.sameBut hs (Ne.symm (cne x c hc)),λj y v' e1 e2 e3=>?_⟩,λy c' e=>?_,I.free,I.freeC,λp hp=>?_,tracked ⟨oc,hoc,I.freeC x c hc⟩ hs,by simpa using I.len⟩ ⟨c,hs,.inr hc⟩
  ·exact (hs.2 b (Nat.ne_of_lt (Nat.lt_of_lt_of_le (Heap.lt_size e) (I.ok.cab x c hfn hc)))).trans (I.base.keep b o e n hb hx)
  ·obtain ⟨sl,e1⟩:=I.base.slot b o e n hb hx;exact ⟨sl,(hs.2 b (Nat.ne_of_lt (Nat.lt_of_lt_of_le (Heap.lt_size e) (I.ok.cab x c hfn hc)))).trans e1⟩
  ·obtain ⟨o',e1⟩:=I.base.there b o e hx;exact ⟨o',(hs.2 b (Nat.ne_of_lt (Nat.lt_of_lt_of_le (Heap.lt_size e) (I.ok.cab x c hfn hc)))).trans e1⟩
  ·by_cases hj:j=i
   ·subst hj;rw [hi] at e1;cases e1;rw [List.getElem?_set_self hiσ] at e2;cases e2;exact ⟨u,r,.inr ⟨.inl hk,c,hc,hc'⟩⟩
   ·rw [List.getElem?_set_ne (Ne.symm hj)] at e2;obtain ⟨u',r',q⟩:=hl j y v' e1 e2 e3;refine ⟨u',r',?_⟩;rcases q with q|⟨k,c',e,z'⟩
    ·exact .inl q
    ·refine .inr ⟨k,c',e,z'.sameBut hs ?_⟩;rintro rfl;exact hj (LH hN e1 (I.ok.inj _ _ _ e hc▸hi))
  ·by_cases hcc:c'=c
   ·subst hcc;exact ⟨_,hc'⟩
   ·obtain ⟨w2,z2⟩:=I.cell y c' e;exact ⟨w2,z2.sameBut hs hcc⟩
  ·obtain ⟨e,n,ne,nf,d⟩:=I.pin p hp;refine ⟨(hs.2 p.1 ?_).trans e,n,ne,nf,d⟩;intro q;rw [q,hoc] at e;have q':oc=p.2:=Option.some.inj e;exact d w' (by rw [← q'];exact hocd)
def ES {M:Model} {A:Around} {E:Value->Shared->Prop} {i:Nat} {x:Str} {v:V} {u:Value} {Q:Unit->Shared->Prop} (I:Inv X pins σ H s) (hN:X.N.Nodup) (hi:X.N[i]?=some x) (hx:Loc X.env.scope x) (r:ja v u)
  (h:∀ s',Inv X pins (σ.set i (some v)) H s'->Q () s') (hf:X.fn x=true\/X.env.scope.names.lookup x=some .local:=by first|exact .inl rfl|exact .inr rfl|assumption):wpAny M A (storeName X.env x u) Q E s:=
 DT I hN hi hx r (λs' I' _=>h s' I') hf
def Inv.call' {s':Shared} {ch:List Addr} (I:Inv X pins σ H s) (ho:s'.os=s.os) (u:Un (frs X.stack) ch H H' s.heap s'.heap) (hok:HOk X.prog X.w H' s'.heap) (hg:AllBare s'.gens)
  (hch:∀ b∈ch,(b∈X.ex\/X.s₀.heap.objs.size<=b)/\b≠X.env.locals/\(∀ x c,X.env.cells.lookup x=some c->c≠b)/\∀ p∈X.pn++pins,p.1≠b):Inv X pins σ H' s':=by
 obtain ⟨h',g',d',t',o'⟩:=s';have e:o'=s.os:=ho;subst e;exact I.call (g':=g') (t':=t') (d':=d') u hok hg hch
end
abbrev XK:=Value->Option Addr->Hp->Prop
abbrev St:=List (Option V)
abbrev VK:=V->Hp->Prop
abbrev TE:=St->Hp->VK->Prop
abbrev TT:=St->Hp->(Bool->Hp->Prop)->Prop
abbrev TA:=St->Hp->(List V->Hp->Prop)->Prop
structure Ends where
 nx:St->Hp->Prop
 rt:VK
 bk:St->Hp->Prop:=λ_ _=>False
 ct:St->Hp->Prop:=λ_ _=>False
abbrev TS:=Ends->St->Hp->Prop
def EP (X:Cx) (pins:List (Addr×Obj)) (σ:St) (Q:VK) (u:Value) (s':Shared):Prop:=∃ v H',Inv X pins σ H' s'/\ja v u/\Q v H'
def TP (X:Cx) (pins:List (Addr×Obj)) (σ:St) (Q:Bool->Hp->Prop) (b:Bool) (s':Shared):Prop:=∃ H',Inv X pins σ H' s'/\Q b H'
def AP (X:Cx) (pins:List (Addr×Obj)) (σ:St) (Q:List V->Hp->Prop) (us:List Value) (s':Shared):Prop:=∃ vs H',Inv X pins σ H' s'/\zI vs us/\Q vs H'
def SP (X:Cx) (pins:List (Addr×Obj)) (D:Ends) (f:Flow) (s':Shared):Prop:=
 match f with
 |.next=>∃ σ' H',Inv X pins σ' H' s'/\D.nx σ' H'
 |.brk=>∃ σ' H',Inv X pins σ' H' s'/\D.bk σ' H'
 |.cont=>∃ σ' H',Inv X pins σ' H' s'/\D.ct σ' H'
 |.ret u=>∃ v σ' H',Inv X pins σ' H' s'/\ja v u/\D.rt v H'
def PE (X:Cx) (e:Expr) (t:TE):Prop:=
 ∀ (pins:List (Addr×Obj)) (s:Shared) (σ:St) (H:Hp) (Q:VK),Inv X pins σ H s->t σ H Q->wpAny (model X.prog X.w) X.A (eval e X.env) (EP X pins σ Q) X.xe s
def PT (X:Cx) (e:Expr) (t:TT):Prop:=
 ∀ (pins:List (Addr×Obj)) (s:Shared) (σ:St) (H:Hp) (Q:Bool->Hp->Prop),Inv X pins σ H s->t σ H Q->wpAny (model X.prog X.w) X.A (isTrue e X.env (eval e X.env)) (TP X pins σ Q) X.xe s
def PW (X:Cx) (e:Expr) (t:TT):Prop:=
 ∀ (whole:Sem Value) (pins:List (Addr×Obj)) (s:Shared) (σ:St) (H:Hp) (Q:Bool->Hp->Prop),Inv X pins σ H s->t σ H Q->wpAny (model X.prog X.w) X.A (isTrue e X.env whole) (TP X pins σ Q) X.xe s
def PW.pt {X:Cx} {e:Expr} {t:TT} (h:PW X e t):PT X e t:=h _
def PA (X:Cx) (es:List Expr) (t:TA):Prop:=
 ∀ (pos:Pos) (pins:List (Addr×Obj)) (s:Shared) (σ:St) (H:Hp) (Q:List V->Hp->Prop),Inv X pins σ H s->t σ H Q->wpAny (model X.prog X.w) X.A (spliced (backTo pos (starEach es X.env))) (AP X pins σ Q) X.xe s
def PS (X:Cx) (st:Stmt) (t:TS):Prop:=
 ∀ (pins:List (Addr×Obj)) (s:Shared) (σ:St) (H:Hp) (D:Ends),Inv X pins σ H s->t D σ H->wpAny (model X.prog X.w) X.A (exec st X.env) (SP X pins D) X.xe s
def PSs (X:Cx) (st:List Stmt) (t:TS):Prop:=
 ∀ (pins:List (Addr×Obj)) (s:Shared) (σ:St) (H:Hp) (D:Ends),Inv X pins σ H s->t D σ H->wpAny (model X.prog X.w) X.A (execs st X.env) (SP X pins D) X.xe s
def thn {α:Type} {t:Sem α} {Q Q':α->Shared->Prop} {M:Model} {A:Around} {E:Value->Shared->Prop} {s:Shared} (h:wpAny M A t Q E s) (hQ:∀ a s,Q a s->Q' a s):wpAny M A t Q' E s:=wpAny_mono h hQ λ_ _ x=>x
section
variable {X:Cx}
def qpV (i:Nat):TE:=λσ H Q=>∃ v,σ[i]?=some (some v)/\Q v H
def tC (v:V):TE:=λ_ H Q=>Q v H
def qiv {i:Nat} {x:Str} {pos:Pos} (hN:X.N[i]?=some x) (hv:Vis X.env.scope x) (hd:(x==("__debug__" : Str))=false:=by decide) (hcd:(x==("__classdict__" : Str))=false:=by decide):PE X (.Name x pos) (qpV i):=by
 intro pins s σ H Q I h;obtain ⟨v,e,h⟩:=h;obtain ⟨m,hn,hl⟩:=I.loc;obtain ⟨u,r,l⟩:=hl i x v hN e hv;have fin:EP X pins σ Q u s:=⟨v,H,I,r,h⟩
 rcases l with ⟨hk,hm⟩|⟨hk,c,hc,hcell⟩
 ·exact wpAny_Name (wpAny_loadName_local I.ok.kind hk hn hm fin) hd
 ·rcases hk with hk|hk
  ·exact wpAny_Name (wpAny_loadName_cell I.ok.kind hk hc hcell fin) hd
  ·exact wpAny_Name (wpAny_loadName_free I.ok.kind hk hc hcell fin hcd) hd
def qiD {i j pos}:PE X (.Constant (.int i) j pos) (tC (.int i)):=λ_ _ _ H _ I h=>wpAny_Constant_int ⟨.int i,H,I.tok _,⟨_,rfl⟩,h⟩
def qnW {b j pos}:PE X (.Constant (.bool b) j pos) (tC (.bl b)):=λ_ _ _ H _ I h=>Constant_bool ⟨.bl b,H,I,rfl,h⟩
def ql4 {j pos}:PE X (.Constant .none j pos) (tC .non):=λ_ _ _ H _ I h=>Constant_none ⟨.non,H,I,rfl,h⟩
def qd1 {x j pos}:PE X (.Constant (.str x) j pos) (tC (.str x)):=λ_ _ _ H _ I h=>Calls.Constant_str ⟨.str x,H,I.tok _,⟨_,rfl⟩,h⟩
def Gl (X:Cx) (x:Str):Prop:=X.env.kindOf x=some .globalImplicit
def qbv {E:Value->Shared->Prop} {pins:List (Addr×Obj)} {s:Shared} {σ:St} {H:Hp} {x:Str} {u:Value} {pos:Pos} {Q:Value->Shared->Prop} (I:Inv X pins σ H s) (hg:Gl X x) (hm:X.mg x=some u) (h:Q u s)
  (hd:(x==("__debug__" : Str))=false:=by decide):wpAny (model X.prog X.w) X.A (eval (.Name x pos) X.env) Q E s:=
 Calls.Name_function_global I.ok.kind hg (Calls.loadGlobal_global (by rw [I.ok.glob];exact I.mod.glob.keeps I.bk) hm h) hd
def V7 {E:Value->Shared->Prop} {pins:List (Addr×Obj)} {s:Shared} {σ:St} {H:Hp} {x:Str} {u:Value} {pos:Pos} {Q:Value->Shared->Prop} (I:Inv X pins σ H s) (hg:Gl X x) (hm:X.mg x=none) (hv:bootBuiltins x=some u) (h:Q u s)
  (hn:x≠"__name__" := by decide) (hd:(x==("__debug__" : Str))=false:=by decide):wpAny (model X.prog X.w) X.A (eval (.Name x pos) X.env) Q E s:=by
 obtain ⟨mb,h1,h2⟩:=I.mod.blt;exact Calls.Name_function_global I.ok.kind hg (Calls.loadGlobal_builtin (by rw [I.ok.glob];exact I.mod.glob.keeps I.bk) hm (by rw [I.ok.blt];exact h1.keeps I.bk) ((h2 x hn).trans hv) h) hd
def qa3 {x:Str} {v:V} {u:Value} {pos:Pos} (hg:Gl X x) (hm:X.mg x=some u) (r:ja v u) (hd:(x==("__debug__" : Str))=false:=by decide):PE X (.Name x pos) (tC v):=
 λ_ _ _ H _ I h=>qbv I hg hm ⟨v,H,I,r,h⟩ hd
def KT {x:Str} {v:V} {u:Value} {pos:Pos} (hg:Gl X x) (hm:X.mg x=none) (hv:bootBuiltins x=some u) (r:ja v u) (hn:x≠"__name__" := by decide) (hd:(x==("__debug__" : Str))=false:=by decide):PE X (.Name x pos) (tC v):=
 λ_ _ _ H _ I h=>V7 I hg hm hv ⟨v,H,I,r,h⟩ hn hd
variable {a b:Expr} {ta tb:TE} {pos:Pos}
def tB (t:TE):TT:=λσ H Q=>t σ H λx H1=>∃ c,x=.bl c/\Q c H1
def qlw {e:Expr} {t:TE} (h:PE X e t) (he:∀ whole,isTrue e X.env whole=(do let v←whole;standAt e.pos;holding [v] (truthy v)):=by intro _;rfl):PT X e (tB t):=by
 intro pins s σ H Q I hw;refine isTrue_plain (thn (h pins s σ H _ I hw) λv s1 ⟨x,H1,I1,r1,q1⟩=>?_) (he _);obtain ⟨d,rfl,q⟩:=q1;cases r1;exact wpAny_truthy_bool ⟨H1,I1,q⟩
variable {tA tB':TT} {jw:List Expr}
def tOr (t u:TT):TT:=λσ H Q=>t σ H λc H1=>if c=true then Q true H1 else u σ H1 Q
def qpQ (t:TT):TT:=λσ H Q=>t σ H λc H1=>Q (!c) H1
def qjz (ha:PT X a tA):PW X (.BoolOp .Or [a] pos) tA:=by
 intro wh pins s σ H Q I h;refine isTrue_or (thn (ha pins s σ H Q I h) λc s1 e=>?_);cases c with
 |false=>exact isTrue_or_nil e
 |true=>exact e
def qmP (ha:PT X a tA) (hb:PW X (.BoolOp .Or (b::jw) pos) tB'):PW X (.BoolOp .Or (a::b::jw) pos) (tOr tA tB'):=by
 intro wh pins s σ H Q I h;refine isTrue_or (thn (ha pins s σ H _ I h) λc s1 ⟨H1,I1,q1⟩=>?_);cases c with
 |true=>exact ⟨H1,I1,q1⟩
 |false=>exact hb wh pins s1 σ H1 Q I1 q1
def qiR (ha:PT X a tA):PT X (.UnaryOp .Not a pos) (qpQ tA):=by
 intro pins s σ H Q I h;exact isTrue_not (ha pins s σ H (λc H1=>Q (!c) H1) I h)
def qne (ta tb:TE):TE:=λσ H Q=>ta σ H λx H1=>∃ c,x=.bl c/\if c=true then tb σ H1 Q else Q (.bl false) H1
def qpx (ta tb:TE):TE:=λσ H Q=>ta σ H λx H1=>∃ c,x=.bl c/\if c=true then Q (.bl true) H1 else tb σ H1 Q
def qod (ta:TE):TE:=λσ H Q=>ta σ H λx H1=>∃ c,x=.bl c/\Q (.bl (!c)) H1
def qjP {op} {t:TE} (h:PE X a t):PE X (.BoolOp op [a] pos) t:=λpins s σ H Q I hw=>BoolOp_one (h pins s σ H Q I hw)
def qk7 (ha:PE X a ta) (hb:PE X (.BoolOp .And (b::jw) pos) tb):PE X (.BoolOp .And (a::b::jw) pos) (qne ta tb):=by
 intro pins s σ H Q I h;refine BoolOp_and (thn (ha pins s σ H _ I h) λv s1 ⟨x,H1,I1,r1,q1⟩=>?_);obtain ⟨c,rfl,q1⟩:=q1;cases r1;refine wpAny_truthy_bool ?_;cases c with
 |true=>exact hb pins s1 σ H1 Q I1 q1
 |false=>exact ⟨.bl false,H1,I1,rfl,q1⟩
def qnO (ha:PE X a ta) (hb:PE X (.BoolOp .Or (b::jw) pos) tb):PE X (.BoolOp .Or (a::b::jw) pos) (qpx ta tb):=by
 intro pins s σ H Q I h;refine BoolOp_or (thn (ha pins s σ H _ I h) λv s1 ⟨x,H1,I1,r1,q1⟩=>?_);obtain ⟨c,rfl,q1⟩:=q1;cases r1;refine wpAny_truthy_bool ?_;cases c with
 |false=>exact hb pins s1 σ H1 Q I1 q1
 |true=>exact ⟨.bl true,H1,I1,rfl,q1⟩
def qjO (ha:PE X a ta):PE X (.UnaryOp .Not a pos) (qod ta):=by
 intro pins s σ H Q I h;refine UnaryOp_ (thn (ha pins s σ H _ I h) λv s1 ⟨x,H1,I1,r1,q1⟩=>?_);obtain ⟨c,rfl,q1⟩:=q1;cases r1;exact not_of (wpAny_truthy_bool ⟨.bl (!c),H1,I1,rfl,q1⟩)
def tIf (t:TT) (ta tb:TE):TE:=λσ H Q=>t σ H λc H1=>if c=true then ta σ H1 Q else tb σ H1 Q
def qcX {c:Expr} (hc:PT X c tA) (ha:PE X a ta) (hb:PE X b tb):PE X (.IfExp c a b pos) (tIf tA ta tb):=by
 intro pins s σ H Q I h;refine wpAny_IfExp (thn (hc pins s σ H _ I h) λd s1 ⟨H1,I1,q1⟩=>?_);cases d with
 |true=>exact ha pins s1 σ H1 Q I1 q1
 |false=>exact hb pins s1 σ H1 Q I1 q1
end
def SqL (K:Frg) (H:Hp) (a:Addr) (xs:List V):Prop:=
 Rd H a (.lst xs) ∨
  ∃ (o:Obj) (its:Array Value) (n:Nat),K.lookup a=some o/\o.cls=.type "list"/\o.dict=none/\o.data=.seq its n/\its.size<=sizeLine/\zI xs its.toList
def SqT (K:Frg) (H:Hp) (a:Addr) (xs:List V):Prop:=
 Rd H a (.tup xs) ∨
  ∃ (o:Obj) (its:Array Value) (n:Nat),K.lookup a=some o/\o.cls=.type "tuple"/\o.data=.seq its n/\its.size<=sizeLine/\zI xs its.toList
def qpH:Value->Option V
 |.none=>some .non
 |.bool b=>some (.bl b)
 |.int i _=>some (.int i)
 |.str x _=>some (.str x)
 |.bytes b _=>some (.byt b)
 |.float b _=>some (.flt b)
 |.ref a=>some (.ref a)
 |.type n=>some (.ty n)
 |_=>none
def ja.abs {x:V} {u:Value} (r:ja x u):qpH u=some x:=by
 cases x with
 |non=>cases r;rfl
 |bl _=>cases r;rfl
 |int _=>obtain ⟨t,rfl⟩:=r;rfl
 |str _=>obtain ⟨t,rfl⟩:=r;rfl
 |byt _=>obtain ⟨t,rfl⟩:=r;rfl
 |flt _=>obtain ⟨t,rfl⟩:=r;rfl
 |ref _=>cases r;rfl
 |ty _=>cases r;rfl
def ja.inj {x y:V} {u:Value} (r:ja x u) (q:ja y u):x=y:=Option.some.inj (r.abs.symm.trans q.abs)
def zI.inj:∀ {xs ys:List V} {us:List Value},zI xs us->zI ys us->xs=ys
 |_,_,_,.nil,.nil=>rfl
 |_,_,_,.cons r t,.cons r' t'=>by rw [r.inj r',zI.inj t t']
section
variable {X:Cx} {pins:List (Addr×Obj)} {σ:St} {H:Hp} {s:Shared} {a:Addr} {xs ys:List V}
def SqL.of {K:Frg} (h:H a=some (.lst xs)):SqL K H a xs:=.inl (.inl h)
def SqT.of {K:Frg} (h:H a=some (.tup xs)):SqT K H a xs:=.inl (.inl h)
def Inv.list (I:Inv X pins σ H s) (h:SqL X.K H a xs):∃ its:List Value,zI xs its/\PlainL s.heap a its.toArray/\xs.length<=sizeLine:=by
 rcases h with h|⟨o,its,n,hk,hc,hd,hs,hz,r⟩
 ·obtain ⟨z,its,n,r,e⟩:=h.ok I.hok;exact ⟨its,r,⟨_,n,e,rfl,rfl,rfl⟩,z⟩
 ·refine ⟨its.toList,r,⟨o,n,I.kIn a o hk,hc,hd,by simpa using hs⟩,?_⟩;have e:=r.length;simp only [Array.length_toList] at e;omega
def Inv.tuple (I:Inv X pins σ H s) (h:SqT X.K H a xs):∃ its:List Value,zI xs its/\IsTup s.heap a its.toArray/\xs.length<=sizeLine:=by
 rcases h with h|⟨o,its,n,hk,hc,hs,hz,r⟩
 ·obtain ⟨z,its,r,p⟩:=h.ok I.hok;exact ⟨its,r,p,z⟩
 ·refine ⟨its.toList,r,⟨o,I.kIn a o hk,hc,n,by simpa using hs⟩,?_⟩;have e:=r.length;simp only [Array.length_toList] at e;omega
def Inv.list_inj (I:Inv X pins σ H s) (h:SqL X.K H a xs) (h':SqL X.K H a ys):xs=ys:=by
 obtain ⟨its,r,⟨o,n,e,_,_,d⟩,_⟩:=I.list h;obtain ⟨its',r',⟨o',n',e',_,_,d'⟩,_⟩:=I.list h';rw [e] at e';cases e';rw [d] at d';injection d' with d1 _;have:its=its':=by simpa using congrArg Array.toList d1
 subst this;exact r.inj r'
def Inv.tuple_inj (I:Inv X pins σ H s) (h:SqT X.K H a xs) (h':SqT X.K H a ys):xs=ys:=by
 obtain ⟨its,r,⟨o,e,_,n,d⟩,_⟩:=I.tuple h;obtain ⟨its',r',⟨o',e',_,n',d'⟩,_⟩:=I.tuple h';rw [e] at e';cases e';rw [d] at d';injection d' with d1 _;have:its=its':=by simpa using congrArg Array.toList d1
 subst this;exact r.inj r'
end
abbrev Cx.wish (X:Cx) (E:Value->Shared->Prop):Cx:={ X with xe:=E }
abbrev Cx.nox (X:Cx):Cx:=X.wish λ_ _=>False
def Cx.Ok.wish {X:Cx} (ok:X.Ok) (E:Value->Shared->Prop):(X.wish E).Ok:=
 ⟨ok.mod,ok.kind,ok.glob,ok.blt,ok.above,ok.inj,ok.has,ok.cab,ok.hd,ok.frames,ok.stk,ok.exf,ok.bs,ok.bsz,ok.noex,ok.exfs,ok.funs,ok.frf⟩
def Cx.Ok.unwish {X:Cx} {E:Value->Shared->Prop} (ok:(X.wish E).Ok):X.Ok:=
 ⟨ok.mod,ok.kind,ok.glob,ok.blt,ok.above,ok.inj,ok.has,ok.cab,ok.hd,ok.frames,ok.stk,ok.exf,ok.bs,ok.bsz,ok.noex,ok.exfs,ok.funs,ok.frf⟩
section
variable {X:Cx} {pins:List (Addr×Obj)} {σ:St} {H:Hp} {s:Shared} {E:Value->Shared->Prop}
def Inv.wish (I:Inv X pins σ H s) (E:Value->Shared->Prop):Inv (X.wish E) pins σ H s:=⟨I.ok.wish E,I.os,I.bare,I.base,I.loc,I.cell,I.free,I.freeC,I.pin,I.hok,I.len⟩
def Inv.unwish (I:Inv (X.wish E) pins σ H s):Inv X pins σ H s:=⟨I.ok.unwish,I.os,I.bare,I.base,I.loc,I.cell,I.free,I.freeC,I.pin,I.hok,I.len⟩
def SP.unwish {D:Ends} {f:Flow} {s':Shared} (h:SP (X.wish E) pins D f s'):SP X pins D f s':=by
 cases f with
 |next=>obtain ⟨σ',H',I,q⟩:=h;exact ⟨σ',H',I.unwish,q⟩
 |brk=>obtain ⟨σ',H',I,q⟩:=h;exact ⟨σ',H',I.unwish,q⟩
 |cont=>obtain ⟨σ',H',I,q⟩:=h;exact ⟨σ',H',I.unwish,q⟩
 |ret u=>obtain ⟨v,σ',H',I,r,q⟩:=h;exact ⟨v,σ',H',I.unwish,r,q⟩
def PSs.nox {st:List Stmt} {t:TS} (h:PSs X.nox st t):PSs X st t:=λpins s σ H D I hw=>
 wpAny_mono (h pins s σ H D (I.wish _) hw) (λ_ _ q=>q.unwish) λ_ _ z=>False.elim z
end
section
variable {X:Cx} {st:Stmt} {jw:List Stmt} {t u:TS} {e:Expr} {te:TE} {pos:Pos}
def qmB:TS:=λD σ H=>D.nx σ H
def qpN (t u:TS):TS:=λD σ H=>t { D with nx:=u D } σ H
def qf3:PSs X [] qmB:=λ_ _ σ H _ I h=>wpAny_execs_nil ⟨σ,H,I,h⟩
def qcj (h1:PS X st t) (h2:PSs X jw u):PSs X (st::jw) (qpN t u):=by
 intro pins s σ H D I h;refine wpAny_execs_cons (thn (h1 pins s σ H { D with nx:=u D } I h) λf s1 q=>?_);cases f with
 |next=>
  obtain ⟨σ',H',I',q⟩:=q;exact h2 pins s1 σ' H' D I' q
 |ret v=>exact q
 |brk=>exact q
 |cont=>exact q
def qf0 (h1:PS X st t):PSs X [st] t:=by
 intro pins s σ H D I h;refine wpAny_execs_cons (thn (h1 pins s σ H D I h) λf s1 q=>?_);cases f with
 |next=>exact wpAny_execs_nil q
 |ret v=>exact q
 |brk=>exact q
 |cont=>exact q
def Inv.quiet {pins:List (Addr×Obj)} {σ:St} {H:Hp} {s:Shared} (I:Inv X pins σ H s):interactive X.env=false:=by simp [interactive,I.ok.kind]
def qnb (te:TE):TS:=λD σ H=>te σ H λ_ H1=>D.nx σ H1
def qgc (he:PE X e te) (hs:swapsWith e none pos.line X.env=pure false:=by rfl):PS X (.Expr e pos) (qnb te):=by
 intro pins s σ H D I h;exact wpAny_Expr_any (thn (he pins s σ H _ I h) λv s1 ⟨x,H1,I1,r1,q1⟩=>⟨σ,H1,I1,q1⟩) I.quiet hs
def qpL (te:TE):TS:=λD σ H=>te σ H D.rt
def qkr (he:PE X e te):PS X (.Return (some e) pos) (qpL te):=by
 intro pins s σ H D I h;exact wpAny_Return_some (thn (he pins s σ H _ I h) λv s1 ⟨x,H1,I1,r1,q1⟩=>⟨x,σ,H1,I1,r1,q1⟩)
def qpA (c:TT) (t u:TS):TS:=λD σ H=>c σ H λb H1=>if b=true then t D σ H1 else u D σ H1
def qnp {c:Expr} {a b:List Stmt} {tc:TT} (hc:PT X c tc) (ha:PSs X a t) (hb:PSs X b u):PS X (.If c a b pos) (qpA tc t u):=by
 intro pins s σ H D I h;refine wpAny_If (thn (hc pins s σ H _ I h) λd s1 ⟨H1,I1,q1⟩=>?_);cases d with
 |true=>exact ha pins s1 σ H1 D I1 q1
 |false=>exact hb pins s1 σ H1 D I1 q1
end
abbrev TG:=V->St->Hp->(St->Hp->Prop)->Prop
abbrev TGs:=List V->St->Hp->(St->Hp->Prop)->Prop
def PG (X:Cx) (target:Expr) (t:TG):Prop:=
 ∀ (pins:List (Addr×Obj)) (s:Shared) (σ:St) (H:Hp) (v:V) (u:Value) (Q:St->Hp->Prop),Inv X pins σ H s->ja v u->t v σ H Q ->
  wpAny (model X.prog X.w) X.A (assign target X.env u) (λ_ s'=>∃ σ' H',Inv X pins σ' H' s'/\Q σ' H') X.xe s
def PGs (X:Cx) (ts:List Expr) (t:TGs):Prop:=
 ∀ (pins:List (Addr×Obj)) (s:Shared) (σ:St) (H:Hp) (vs:List V) (us:List Value) (Q:St->Hp->Prop),Inv X pins σ H s->zI vs us->t vs σ H Q ->
  wpAny (model X.prog X.w) X.A (assignInOrder ((assignEach ts X.env).map (·.2)) us) (λ_ s'=>∃ σ' H',Inv X pins σ' H' s'/\Q σ' H') X.xe s
abbrev qnt:=V->V->V->Hp->(Hp->Prop)->Prop
def qe9 (X:Cx) (t:qnt):Prop:=
 ∀ (pins:List (Addr×Obj)) (s:Shared) (σ:St) (H:Hp) (o i v:V) (ov iv u:Value) (Q:Hp->Prop),Inv X pins σ H s->ja o ov->ja i iv->ja v u->t o i v H Q ->
  wpAny (model X.prog X.w) X.A (setItem ov iv u) (λ_ s'=>∃ H',Inv X pins σ H' s'/\Q H') X.xe s
section
variable {X:Cx} {pos:Pos}
def qcE (i:Nat):TG:=λv σ H Q=>Q (σ.set i (some v)) H
def qhn {i:Nat} {x:Str} (hN:X.N.Nodup) (hi:X.N[i]?=some x) (hx:Loc X.env.scope x) (hf:X.fn x=true\/X.env.scope.names.lookup x=some .local:=by first|exact .inl rfl|exact .inr rfl|assumption):PG X (.Name x pos) (qcE i):=by
 intro pins s σ H v u Q I r h;exact wpAny_assign_Name (ES I hN hi hx r (λs' I'=>⟨_,H,I',h⟩) hf)
def XI:TGs:=λvs σ H Q=>vs=[]/\Q σ H
def zi (t:TG) (u:TGs):TGs:=λvs σ H Q=>∃ v r,vs=v::r/\t v σ H λσ' H'=>u r σ' H' Q
def qfL:PGs X [] XI:=by
 intro pins s σ H vs us Q I r h;obtain ⟨e,h⟩:=h;subst e;cases r;exact assignInOrder_nil ⟨σ,H,I,h⟩
def qcs {e:Expr} {es:List Expr} {t:TG} {u:TGs} (h1:PG X e t) (h2:PGs X es u)
  (hs:(assignEach (e::es) X.env).map (·.2)=assign e X.env::(assignEach es X.env).map (·.2):=by rfl):PGs X (e::es) (zi t u):=by
 intro pins s σ H vs us Q I r h;obtain ⟨v,vr,e1,h⟩:=h;subst e1;cases r with
 |cons r rr=>
  rw [hs];refine assignInOrder_cons (thn (h1 pins s σ H _ _ _ I r h) λ_ s1 ⟨σ1,H1,I1,q1⟩=>?_);exact h2 pins s1 σ1 H1 _ _ Q I1 rr q1
def XN (K:Frg) (n:Nat) (t:TGs):TG:=λv σ H Q=>∃ a xs,v=.ref a/\SqT K H a xs/\xs.length=n/\t xs σ H Q
def qi7 {es:List Expr} {k:Nat} {t:TGs} {n:Nat} (hc:X.calm=true) (h:PGs X es t)
  (hn:(assignEach es X.env).length=n:=by rfl) (hst:(assignEach es X.env).findIdx? (·.1)=none:=by rfl):PG X (.Tuple es k pos) (XN X.K n t):=by
 intro pins s σ H v u Q I r hw;obtain ⟨a,xs,e1,hq,hl,hw⟩:=hw;subst e1;cases r;obtain ⟨its,rv,ht,hz⟩:=I.tuple hq;refine assign_Tuple_tuple (I.ok.hd hc) ht (by simp [hn,← hl,rv.length]) hst λh' hx=>?_;have I1:Inv X pins σ H { s with heap:=h' }:=I.kept (t':=s.toks) λb o e=>hx b o (Nat.ne_of_lt (Heap.lt_size e)) e;exact h pins _ σ H xs _ Q I1 (by simpa using rv) hw
def qpq (to ti:TE) (t:qnt):TG:=λv σ H Q=>to σ H λo H1=>ti σ H1 λi H2=>t o i v H2 λH3=>Q σ H3
def qjN {o i:Expr} {to ti:TE} {t:qnt} (ho:PE X o to) (hi:PE X i ti) (hs:qe9 X t)
  (ha:∀ v,assign (.Subscript o i pos) X.env v=(do
   let ov←holding [v] (eval o X.env)
   let iv←holding [v,ov] (eval i X.env)
   standAt pos
   holding [v,ov,iv] (setItem ov iv v)
   release [v,ov,iv] []):=by intro _;rfl):PG X (.Subscript o i pos) (qpq to ti t):=by
 intro pins s σ H v u Q I r h;rw [ha];refine wpAny_bind (wpAny_holding (thn (ho pins s σ H _ I h) λov s1 ⟨x,H1,I1,r1,q1⟩=>?_));refine wpAny_bind (wpAny_holding (thn (hi pins s1 σ H1 _ I1 q1) λiv s2 ⟨y,H2,I2,r2,q2⟩=>?_));refine wpAny_bind (wpAny_standAt (wpAny_bind (wpAny_holding (thn (hs pins s2 σ H2 x y v ov iv u _ I2 r1 r2 r q2) λ_ s3 ⟨H3,I3,q3⟩=>?_))));exact wpAny_release ⟨σ,H3,I3,q3⟩
def qme (te:TE) (g:TG):TS:=λD σ H=>te σ H λx H1=>g x σ H1 D.nx
def qlJ {tg e:Expr} {te:TE} {g:TG} (he:PE X e te) (hg:PG X tg g) (hs:swapsWithSole [tg] e pos.line X.env=pure false:=by rfl) (hw:swappedStores [tg] e X.env=pure none:=by rfl)
  (h1:(assignEach [tg] X.env).map (·.2)=[assign tg X.env]:=by rfl):PS X (.Assign [tg] e pos) (qme te g):=by
 intro pins s σ H D I h;refine wpAny_Assign_stores (thn (he pins s σ H _ I h) λv s1 ⟨x,H1,I1,r1,q1⟩=>?_) hs hw;rw [h1];exact thn (hg pins s1 σ H1 x v _ I1 r1 q1) λ_ s2 q=>q
def ql2 {i:Nat} {x:Str} {e:Expr} {te:TE} {pos':Pos} (hN:X.N.Nodup) (hi:X.N[i]?=some x) (hx:Loc X.env.scope x) (he:PE X e te) (hs:swapsWith e (some (.Name x pos')) pos.line X.env=pure false:=by rfl) (hf:X.fn x=true\/X.env.scope.names.lookup x=some .local:=by first|exact .inl rfl|exact .inr rfl|assumption) :
  PS X (.Assign [.Name x pos'] e pos) (qme te (qcE i)):=by
 intro pins s σ H D I h;refine wpAny_Assign_Name (thn (he pins s σ H _ I h) λv s1 ⟨y,H1,I1,r1,q1⟩=>?_) hs;exact ES I1 hN hi hx r1 (λs2 I2=>⟨_,H1,I2,q1⟩) hf
def qpY (i j:Nat) (ta:TA):TS:=λD σ H=>ta σ H λvs H1=>∃ v w,vs=[v,w]/\D.nx ((σ.set i (some v)).set j (some w)) H1
def qir {i j:Nat} {x y:Str} {a b:Expr} {ta:TA} {px py pt:Pos} {kt k2 pt2} (hc:X.calm=true) (hN:X.N.Nodup) (hi:X.N[i]?=some x) (hj:X.N[j]?=some y) (hij:i≠j)
  (hx:X.env.scope.names.lookup x=some .local) (hy:X.env.scope.names.lookup y=some .local) (ha:PA X [a,b] ta)
  (hw:swappedStores [.Tuple [.Name x px,.Name y py] kt pt] (.Tuple [a,b] k2 pt2) X.env=pure (some [x,y]))
  (hs:swapsWithSole [.Tuple [.Name x px,.Name y py] kt pt] (.Tuple [a,b] k2 pt2) pos.line X.env=pure false:=by rfl) :
  PS X (.Assign [.Tuple [.Name x px,.Name y py] kt pt] (.Tuple [a,b] k2 pt2) pos) (qpY i j ta):=by
 intro pins s σ H D I h;rw [exec_Assign_arm];refine wpAny_bind (wpAny_standAt ?_);rw [hs];refine wpAny_bind (wpAny_pure ?_);rw [if_neg (by decide)];refine wpAny_bind (Tuple_ (thn (ha _ pins s σ H _ I h) λus s1 ⟨vs,H1,I1,r1,q1⟩=>?_));obtain ⟨v,w,e1,q1⟩:=q1;subst e1;obtain ⟨u1,u2,rfl,rv,rw'⟩:∃ u1 u2,us=[u1,u2]/\ja v u1/\ja w u2:=by
  cases r1 with
  |cons p q=>
   cases q with
   |cons p' q'=>
    cases q';exact ⟨_,_,rfl,p,p'⟩
 refine wpAny_newObj_type ?_ (by show 2<=sizeLine;decide);have I2:Inv X pins σ H1 { s1 with heap:=s1.heap.push { cls:=.type "tuple",data:=.seq [u1,u2].toArray } }:=I1.kept (t':=s1.toks) λb o e=>Heap.get?_push_of_some _ e;rw [hw];refine wpAny_bind (wpAny_pure ?_);show wpAny (model X.prog X.w) X.A (do rule "assign.swapped-stores";let items←unpackItems (.ref s1.heap.objs.size) 2 none;assignInOrder [λv=>bindName X.env y v,λv=>bindName X.env x v] items.reverse;pure Flow.next) _ _ _;refine wpAny_bind (wpAny_rule (wpAny_bind (unpackItems_tuple (items:=#[u1,u2]) (I.ok.hd hc) (IsTup.new s1.heap _) λh' hx'=>?_)));have I3:=I2.kept (h':=h') (t':=s1.toks) λb o e=>hx' b o (Nat.ne_of_lt (Heap.lt_size e)) e;show wpAny _ _ (assignInOrder [λv=>bindName X.env y v,λv=>bindName X.env x v] [u2,u1] >>= λ_=>pure Flow.next) _ _ _;refine wpAny_bind (assignInOrder_cons (wpAny_bindName (ES I3 hN hj (.inl hy) rw' (λs2 I4=>?_) (.inr hy))));refine assignInOrder_cons (wpAny_bindName (ES I4 hN hi (.inl hx) rv (λs3 I5=>assignInOrder_nil (wpAny_pure ?_)) (.inr hx)));rw [List.set_comm _ _ (Ne.symm hij)] at I5;exact ⟨_,H1,I5,q1⟩
end
section
variable {X:Cx} {pos:Pos}
def qla (c:TT) (tb:TS):TS:=λD σ H=>∃ W:Nat->St->Hp->Prop,(∃ m,W m σ H)/\∀ m σ H,W m σ H ->
 c σ H λb H1=>if b=true then ∃ N:St->Hp->Prop,(∀ σ' H',N σ' H'->∃ m',m'<m/\W m' σ' H')/\tb { D with nx:=N,ct:=N,bk:=D.nx } σ H1 else D.nx σ H1
def qc5 {c:Expr} {body:List Stmt} {tc:TT} {tb:TS} (hp:PassesOwn (model X.prog X.w) X.A X.env X.xe) (hc:PT X c tc) (hb:PSs X body tb):PS X (.While c body [] pos) (qla tc tb):=by
 intro pins s σ H D I h;obtain ⟨W,⟨m0,w0⟩,turn⟩:=h;refine wpAny_While (codeAny_whileLoop (λn s'=>∃ σ' H',Inv X pins σ' H' s'/\W n σ' H') ?_ m0 ⟨σ,H,I,w0⟩);rintro n s1 ⟨σ1,H1,I1,w1⟩;refine wpAny_passesOwn hp (thn (hc pins s1 σ1 H1 _ I1 (turn n σ1 H1 w1)) λb s2 ⟨H2,I2,q2⟩=>?_);cases b with
 |true=>
  obtain ⟨N,hN,q2⟩:=q2;rw [if_pos rfl];refine wpAny_passesOwn hp (thn (hb pins s2 σ1 H2 _ I2 q2) λf s3 q3=>?_);cases f with
  |next=>
   obtain ⟨σ3,H3,I3,n3⟩:=q3;obtain ⟨m',hm,w3⟩:=hN σ3 H3 n3;exact ⟨m',hm,σ3,H3,I3,w3⟩
  |cont=>
   obtain ⟨σ3,H3,I3,n3⟩:=q3;obtain ⟨m',hm,w3⟩:=hN σ3 H3 n3;exact ⟨m',hm,σ3,H3,I3,w3⟩
  |brk=>exact q3
  |ret v=>exact q3
 |false=>
  rw [if_neg Bool.false_ne_true];exact wpAny_execs_nil ⟨σ1,H2,I2,q2⟩
end
structure It where
 go:Nat->Hp->Prop
 yld:Nat->Hp->V->Hp->Prop
 stop:Nat->Hp->Prop
def WK (X:Cx) (pins:List (Addr×Obj)) (H:Hp) (b:Addr):Prop:=
 H b=none/\b≠X.env.locals/\b∉X.fs/\(b∈X.ex\/X.s₀.heap.objs.size<=b)/\(∀ x c,X.env.cells.lookup x=some c->c≠b)/\∀ p∈X.pn++pins,p.1≠b
def Inv.fpOk {X:Cx} {pins:List (Addr×Obj)} {σ:St} {H H':Hp} {s:Shared} {b:Addr} (I:Inv X pins σ H s) (hb:s.heap.objs.size<=b) (hn:H' b=none):WK X pins H' b:=by
 refine ⟨hn,Nat.ne_of_gt (Nat.lt_of_lt_of_le I.lt hb),I.nofs hb,.inr (Nat.le_trans I.sz hb),λx c e z=>?_,λp hp z=>?_⟩
 ·obtain ⟨v,q⟩:=I.cell x c e;exact absurd (Nat.lt_of_lt_of_le q.lt (by rw [z];exact hb)) (Nat.lt_irrefl _)
 ·exact absurd (Nat.lt_of_lt_of_le (Heap.lt_size (I.pin p hp).1) (by rw [z];exact hb)) (Nat.lt_irrefl _)
structure Turn (P:Program) (w:World) (K:Frg) (tg:Expr) (J:It) (fp:List Addr) (it:Addr) (tn:Nat->Heap->Prop):Prop where
 mem:it∈fp
 obj:∀ i h,tn i h->∀ b∈fp,∃ o,h.get? b=some o/\∀ v,o.data≠.cell v
 keep:∀ i h h',tn i h->(∀ b∈fp,∀ o,h.get? b=some o->h'.get? b=some o)->tn i h'
 item:∀ (X:Cx),X.prog=P->X.w=w->X.K=K->X.calm=true->∀ (i:Nat) (pins:List (Addr×Obj)) (s:Shared) (σ:St) (H:Hp) (E:Value->Shared->Prop),Inv X pins σ H s->(∀ b∈fp,WK X pins H b)->tn i s.heap->J.go i H ->
  wpAny (model P w) X.A (pyNext (.ref it)) (λr s1=>∃ u,r=some u /\
   wpAny (model P w) X.A (letOwnedTupleGo tg (.ref it) u) (λ_ s2=>∃ x H',Inv X pins σ H' s2/\ja x u/\J.yld i H x H'/\tn (i+1) s2.heap/\∀ b∈fp,H' b=none) E s1) E s
 done:∀ (X:Cx),X.prog=P->X.w=w->X.K=K->X.calm=true->∀ (i:Nat) (pins:List (Addr×Obj)) (s:Shared) (σ:St) (H:Hp) (E:Value->Shared->Prop),Inv X pins σ H s->(∀ b∈fp,WK X pins H b)->tn i s.heap->J.stop i H ->
  wpAny (model P w) X.A (pyNext (.ref it)) (λr s1=>r=none/\Inv X pins σ H s1) E s
 self:∀ (A:Around) (i:Nat) (s:Shared) (Q:Value->Shared->Prop) (E:Value->Shared->Prop),tn i s.heap->Q (.ref it) s->wpAny (model P w) A (pyIter (.ref it)) Q E s
abbrev TI:=St->Hp->(It->Hp->Prop)->Prop
def PIE (X:Cx) (pins:List (Addr×Obj)) (σ:St) (tg:Expr) (R:It->Hp->Prop) (itv:Value) (s2:Shared):Prop:=
 ∃ (it:Addr) (fp:List Addr) (tn:Nat->Heap->Prop) (J:It) (H':Hp),itv=.ref it/\Inv X pins σ H' s2/\Turn X.prog X.w X.K tg J fp it tn/\tn 0 s2.heap/\(∀ b∈fp,WK X pins H' b)/\R J H'
def PI (X:Cx) (tg iter:Expr) (wi:TI):Prop:=
 ∀ (pins:List (Addr×Obj)) (s:Shared) (σ:St) (H:Hp) (R:It->Hp->Prop),Inv X pins σ H s->wi σ H R ->
  wpAny (model X.prog X.w) X.A (eval iter X.env) (λv s1=>wpAny (model X.prog X.w) X.A (pyIter v) (PIE X pins σ tg R) X.xe s1) X.xe s
def qhB {M:Model} {A:Around} {E:Value->Shared->Prop} {s:Shared} {tg:Expr} {it:Addr} {u:Value} {o:Obj} {n:String} {vs:Array Value} {Q:Unit->Shared->Prop} (ho:s.heap.get? it=some o) (hc:o.cls=.type n) (hd:o.data=.fields vs)
    (hn:["enumerate","zip","dict_itemiterator","dict_reverseitemiterator","odict_iterator","itertools.zip_longest","itertools.pairwise"].contains n=false) (hQ:Q () s):wpAny M A (letOwnedTupleGo tg (.ref it) u) Q E s:=by
  unfold letOwnedTupleGo;cases tg<;>first
    |exact wpAny_pure hQ
    | (cases u<;>first
        |exact wpAny_pure hQ
        | (refine wpAny_bind (wpAny_load ho ?_)
           rw [hc,hd];show wpAny M A (if (["enumerate","zip","dict_itemiterator","dict_reverseitemiterator","odict_iterator","itertools.zip_longest","itertools.pairwise"].contains n&&vs[0]?==some (rawInt _))=true then _ else _) Q E s;rw [if_neg (by intro h;rw [hn,Bool.false_and] at h;cases h)];exact wpAny_pure hQ))
def Itl (K:Frg) (a:Addr):It:=
 ⟨λi H=>∃ xs x,SqL K H a xs/\xs[i]?=some x,λi H x H'=>H'=H/\∀ xs,SqL K H a xs->xs[i]?=some x,λi H=>∃ xs,SqL K H a xs/\xs.length<=i⟩
def Itt (K:Frg) (a:Addr):It:=
 ⟨λi H=>∃ xs x,SqT K H a xs/\xs[i]?=some x,λi H x H'=>H'=H/\∀ xs,SqT K H a xs->xs[i]?=some x,λi H=>∃ xs,SqT K H a xs/\xs.length<=i⟩
def Itr (lo:Int) (n:Nat):It:=⟨λi _=>i<n,λi H x H'=>H'=H/\x=.int (lo+i),λi _=>n<=i⟩
def qaV {P:Program} {w:World} {K:Frg} {tg:Expr} (a it:Addr):Turn P w K tg (Itl K a) [it] it (λi h=>h.IsListIter it a i) where
 mem:=by simp
 obj:=λi h st b hb=>by
  have e:b=it:=by simpa using hb
  subst e;obtain ⟨o,e,c,d⟩:=st;exact ⟨o,e,λv z=>by rw [d] at z;cases z⟩
 keep:=λi h h' st k=>st.at λo e=>k it (by simp) o e
 item:=by
  intro X hP hw hK hc i pins s σ H E I hf st hg;subst hP hw hK;obtain ⟨xs,x,hq,hx⟩:=hg;obtain ⟨its,rv,p,hz⟩:=I.list hq;obtain ⟨u,hu,ru⟩:=rv.get hx;obtain ⟨f0,f1,f2,f3,f4,f5⟩:=hf it (by simp);refine wpAny_pyNext_list_item st p.isList (x:=u) (by simpa using hu) λh' st' sb=>?_;have I1:Inv X pins σ H { s with heap:=h' }:=I.turned (t':=s.toks) (λb o hb e=>(sb.2 b hb).trans e) f0 f1 f3 f4 f5;obtain ⟨o,e,c,d⟩:=id st';exact ⟨u,rfl,qhB (s:={ s with heap:=h' }) e c d (by decide) ⟨x,H,I1,ru,⟨rfl,λys hy=>by rw [I.list_inj hy hq];exact hx⟩,st',λb hb=>(hf b hb).1⟩⟩
 done:=by
  intro X hP hw hK hc i pins s σ H E I hf st hg;subst hP hw hK;obtain ⟨xs,hq,hx⟩:=hg;obtain ⟨its,rv,p,hz⟩:=I.list hq;obtain ⟨f0,f1,f2,f3,f4,f5⟩:=hf it (by simp);have hl:=rv.length;exact wpAny_pyNext_list_end (I.ok.hd hc) st p.isList (by simp;omega) λh' eb=>⟨rfl,I.turned (t':=s.toks) (λb o hb e=>eb b o hb e) f0 f1 f3 f4 f5⟩
 self:=λ_ _ _ _ _ st h=>wpAny_pyIter_listiter st h
def M6 {P:Program} {w:World} {K:Frg} {tg:Expr} (a it:Addr):Turn P w K tg (Itt K a) [it] it (λi h=>h.IsTupleIter it a i) where
 mem:=by simp
 obj:=λi h st b hb=>by
  have e:b=it:=by simpa using hb
  subst e;obtain ⟨o,e,c,d⟩:=st;exact ⟨o,e,λv z=>by rw [d] at z;cases z⟩
 keep:=λi h h' st k=>st.at λo e=>k it (by simp) o e
 item:=by
  intro X hP hw hK hc i pins s σ H E I hf st hg;subst hP hw hK;obtain ⟨xs,x,hq,hx⟩:=hg;obtain ⟨its,rv,p,hz⟩:=I.tuple hq;obtain ⟨u,hu,ru⟩:=rv.get hx;obtain ⟨f0,f1,f2,f3,f4,f5⟩:=hf it (by simp);refine wpAny_pyNext_tuple_item st (show s.heap.IsTuple a its.toArray from p) (x:=u) (by simpa using hu) λh' st' sb=>?_;have I1:Inv X pins σ H { s with heap:=h' }:=I.turned (t':=s.toks) (λb o hb e=>(sb.2 b hb).trans e) f0 f1 f3 f4 f5;obtain ⟨o,e,c,d⟩:=id st';exact ⟨u,rfl,qhB (s:={ s with heap:=h' }) e c d (by decide) ⟨x,H,I1,ru,⟨rfl,λys hy=>by rw [I.tuple_inj hy hq];exact hx⟩,st',λb hb=>(hf b hb).1⟩⟩
 done:=by
  intro X hP hw hK hc i pins s σ H E I hf st hg;subst hP hw hK;obtain ⟨xs,hq,hx⟩:=hg;obtain ⟨its,rv,p,hz⟩:=I.tuple hq;obtain ⟨f0,f1,f2,f3,f4,f5⟩:=hf it (by simp);have hl:=rv.length;exact wpAny_pyNext_tuple_end (I.ok.hd hc) st (show s.heap.IsTuple a its.toArray from p) (by simp;omega) λh' eb=>⟨rfl,I.turned (t':=s.toks) (λb o hb e=>eb b o hb e) f0 f1 f3 f4 f5⟩
 self:=λ_ _ _ _ _ st h=>wpAny_pyIter_tupleiter st h
def M2 {P:Program} {w:World} {K:Frg} {tg:Expr} (it:Addr) (lo:Int) (n:Nat):Turn P w K tg (Itr lo n) [it] it (λi h=>IsRangeIter h it (lo+(i:Nat)*1) ((n:Int)-(i:Nat)) 1) where
 mem:=by simp
 obj:=λi h st b hb=>by
  have e:b=it:=by simpa using hb
  subst e;exact ⟨_,st,λv z=>by
   have z':Data.fields _=Data.cell v:=z;cases z'⟩
 keep:=λi h h' st k=>k it (by simp) _ st
 item:=by
  intro X hP hw hK hc i pins s σ H E I hf st hg;subst hP hw hK;obtain ⟨f0,f1,f2,f3,f4,f5⟩:=hf it (by simp);have W:=Walks.range (prog:=X.prog) (w:=X.w) (I.ok.hd hc) it lo 1 n;refine W.item i s _ _ hg st λv h' tk hv st' kk=>?_;obtain ⟨t,rfl⟩:=hv;have I1:Inv X pins σ H { s with heap:=h',toks:=tk }:=I.turned (λb o hb e=>kk b o (by simpa using hb) e) f0 f1 f3 f4 f5;refine ⟨_,rfl,qhB (s:={ s with heap:=h',toks:=tk }) (n:="range_iterator") st' rfl rfl (by decide) ⟨.int (lo+i),H,I1,⟨t,?_⟩,⟨rfl,rfl⟩,st',λb hb=>(hf b hb).1⟩⟩;rw [Int.mul_one]
 done:=by
  intro X hP hw hK hc i pins s σ H E I hf st hg;subst hP hw hK;obtain ⟨f0,f1,f2,f3,f4,f5⟩:=hf it (by simp);exact wpAny_pyNext_range_end (I.ok.hd hc) st (by have:n<=i:=hg;omega) λh' eb=>⟨rfl,I.turned (t':=s.toks) (λb o hb e=>eb b o hb e) f0 f1 f3 f4 f5⟩
 self:=λ_ _ _ _ _ st h=>wpAny_pyIter_rangeiter st h
section
variable {X:Cx} {tg:Expr}
def ME {pins:List (Addr×Obj)} {σ:St} {H:Hp} {s:Shared} {R:It->Hp->Prop} {E:Value->Shared->Prop} {lo hi:Int} {t u v:Tok} {tk:Nat} (I:Inv X pins σ H s) (h1:-(2 ^ 62)<=lo) (h2:lo<2 ^ 62) (h3:-(2 ^ 62)<=hi) (h4:hi<2 ^ 62)
  (q:R (Itr lo (hi-lo).toNat) H):wpAny (model X.prog X.w) X.A (pyIter (.ref s.heap.objs.size)) (PIE X pins σ tg R) E { s with heap:=s.heap.push { cls:=.type "range",data:=.fields #[.int lo t,.int hi u,.int 1 v] },toks:=tk }:=by
 refine wpAny_pyIter_range (IsRange.new ..) (small_one h1 h2 h3 h4) ?_;have I1:Inv X pins σ H { s with heap:=s.heap.push { cls:=.type "range",data:=.fields #[.int lo t,.int hi u,.int 1 v] },toks:=tk }:=I.kept λb o e=>Heap.get?_push_of_some _ e;refine ⟨(s.heap.push { cls:=.type "range",data:=.fields #[.int lo t,.int hi u,.int 1 v] }).objs.size,[(s.heap.push { cls:=.type "range",data:=.fields #[.int lo t,.int hi u,.int 1 v] }).objs.size],_,_,H,rfl,
  I1.kept (t':=tk) λb o e=>Heap.get?_push_of_some _ e,M2 _ lo (hi-lo).toNat,?_,λb hb=>?_,q⟩
 ·have e1:lo+((0:Nat):Int)*1=lo:=by simp
  have e2:(((hi-lo).toNat:Nat):Int)-((0:Nat):Int)=Builtin.Range.rangeSize lo hi 1:=by rw [rangeSize_one];split<;>omega
  show IsRangeIter _ _ (lo+((0:Nat):Int)*1) ((((hi-lo).toNat:Nat):Int)-((0:Nat):Int)) 1;rw [e1,e2];exact Heap.get?_push_size _ rfl
 ·have e:b=(s.heap.push { cls:=.type "range",data:=.fields #[.int lo t,.int hi u,.int 1 v] }).objs.size:=by simpa using hb
  subst e;exact I1.fpOk (Nat.le_refl _) (I1.hok.fresh (Nat.le_refl _))
def qmU (ta:TA):TI:=λσ H R=>ta σ H λvs H1=>∃ j:Int,vs=[.int j]/\-(2 ^ 62)<=j/\j<2 ^ 62/\R (Itr 0 j.toNat) H1
def qn7 (ta:TA):TI:=λσ H R=>ta σ H λvs H1=>∃ i j:Int,vs=[.int i,.int j]/\(-(2 ^ 62)<=i/\i<2 ^ 62/\-(2 ^ 62)<=j/\j<2 ^ 62)/\R (Itr i (j-i).toNat) H1
def NU {a:Expr} {ta:TA} {p pos:Pos} (hg:Gl X "range") (hm:X.mg "range" = none) (ha:PA X [a] ta) (hs:starEach [a] X.env=[(false,eval a X.env)]:=by rfl):PI X tg (.Call (.Name "range" p) [a] [] pos) (qmU ta):=by
 intro pins s σ H R I h;refine Call_ (V7 I hg hm boot_range (PyProof.Rows.callWith_type1 (thn (ha pos pins s σ H _ I h) λus s1 ⟨vs,H1,I1,r1,q1⟩=>?_) hs rfl));obtain ⟨j,e,q1,q2,q⟩:=q1;subst e;cases r1 with
 |cons r rr=>
  cases rr;obtain ⟨t,rfl⟩:=r;exact call_range_1 (ME I1 (by omega) (by omega) q1 q2 (by simpa using q))
def qbS {a b:Expr} {ta:TA} {p pos:Pos} (hg:Gl X "range") (hm:X.mg "range" = none) (ha:PA X [a,b] ta) (hs:starEach [a,b] X.env=[(false,eval a X.env),(false,eval b X.env)]:=by rfl) (hs2:starEach [b] X.env=[(false,eval b X.env)]:=by rfl) :
  PI X tg (.Call (.Name "range" p) [a,b] [] pos) (qn7 ta):=by
 intro pins s σ H R I h;refine Call_ (V7 I hg hm boot_range (PyProof.Rows.callWith_type1 (thn (ha pos pins s σ H _ I h) λus s1 ⟨vs,H1,I1,r1,q1⟩=>?_) (by rw [hs,hs2]) (by rw [hs2];rfl)));obtain ⟨i,j,e,⟨q1,q2,q3,q4⟩,q⟩:=q1;subst e;cases r1 with
 |cons r rr=>
  cases rr with
  |cons r' rr=>
   cases rr;obtain ⟨t,rfl⟩:=r;obtain ⟨t',rfl⟩:=r';exact call_range_2 (ME I1 q1 q2 q3 q4 q)
def qp1 (wi:TI) (g:TG) (tb:TS):TS:=λD σ H=>wi σ H λJ H1=>∃ W:Nat->Nat->St->Hp->Prop,(∃ m,W 0 m σ H1)/\∀ i m σ H,W i m σ H ->
 (J.stop i H/\D.nx σ H)\/(J.go i H/\∃ N:St->Hp->Prop,(∀ σ' H',N σ' H'->∃ m',m'<m/\W (i+1) m' σ' H')/\∀ x H',J.yld i H x H'->g x σ H' λσ2 H2=>tb { D with nx:=N,ct:=N,bk:=D.nx } σ2 H2)
def VS (fp:List Addr) (h:Heap):List (Addr×Obj):=fp.filterMap λb=>(h.get? b).map λo=>(b,o)
def q0 {fp:List Addr} {h:Heap} {b:Addr} {o:Obj} (hb:b∈fp) (e:h.get? b=some o):(b,o)∈VS fp h:=List.mem_filterMap.mpr ⟨b,hb,by rw [e];rfl⟩
def qaH {fp:List Addr} {h:Heap} {p:Addr×Obj} (hp:p∈VS fp h):p.1∈fp/\h.get? p.1=some p.2:=by
 obtain ⟨b,hb,e⟩:=List.mem_filterMap.mp hp;cases q:h.get? b with
 |none=>rw [q] at e;cases e
 |some o=>
  rw [q] at e;have e':(b,o)=p:=Option.some.inj e;subst e';exact ⟨hb,q⟩
def Inv.pinned {pins:List (Addr×Obj)} {σ:St} {H:Hp} {s:Shared} {fp:List Addr} (I:Inv X pins σ H s) (hf:∀ b∈fp,WK X pins H b) (ho:∀ b∈fp,∃ o,s.heap.get? b=some o/\∀ v,o.data≠.cell v):Inv X (pins++VS fp s.heap) σ H s:=
 I.pins_of λp hp=>(List.mem_append.mp hp).elim (λz=>I.pin p (mem_append_right _ z)) λz=>by
  obtain ⟨hb,e⟩:=qaH z;obtain ⟨f0,f1,f2,_⟩:=hf p.1 hb;obtain ⟨o,e',d⟩:=ho p.1 hb;rw [e] at e';cases e';exact ⟨e,f0,f1,f2,d⟩
def Inv.unpinned {pins pl:List (Addr×Obj)} {σ:St} {H:Hp} {s:Shared} (I:Inv X (pins++pl) σ H s):Inv X pins σ H s:=I.pins_of λp hp=>I.pin p (mem_append_right _ (List.mem_append_left _ hp))
def qi5 {iter:Expr} {body:List Stmt} {wi:TI} {g:TG} {tb:TS} {pos:Pos} (hp:PassesOwn (model X.prog X.w) X.A X.env X.xe) (hc:X.calm=true) (hi:PI X tg iter wi) (hg:PG X tg g) (hb:PSs X body tb)
  (hs:∀ x,foldedSetIterable iter X.env x=pure x:=by intro _;rfl):PS X (.For tg iter body [] pos) (qp1 wi g tb):=by
 intro pins s σ H D I h;refine wpAny_For (thn (hi pins s σ H _ I h) λv s1 h1=>thn h1 λitv s2 h2=>?_) hs;obtain ⟨it,fp,tn,J,H2,e,I2,T,st2,f2,W,⟨m0,w0⟩,turn⟩:=h2;subst e
 -- what stays true of the iterator's objects through the loop
 have stat:∀ {H':Hp},(∀ b∈fp,H' b=none)->∀ b∈fp,WK X pins H' b:=λhn b hb=>⟨hn b hb,(f2 b hb).2⟩
 refine codeAny_forLoop_any (λn s'=>∃ i σ' H',Inv X pins σ' H' s'/\tn i s'.heap/\(∀ b∈fp,H' b=none)/\W i n σ' H') ?_ m0 ⟨0,σ,H2,I2,st2,λb hb=>(f2 b hb).1,w0⟩;rintro n s3 ⟨i,σ3,H3,I3,st3,fr3,w3⟩;rcases turn i n σ3 H3 w3 with ⟨stop,qn⟩|⟨go,N,hN,step⟩
 ·refine wpAny_passesOwn hp (thn (T.done X rfl rfl rfl hc i pins s3 σ3 H3 X.xe I3 (stat fr3) st3 stop) λr s4 ⟨hr,I4⟩=>?_);subst hr;exact wpAny_execs_nil ⟨σ3,H3,I4,qn⟩
 ·refine wpAny_passesOwn hp (thn (T.item X rfl rfl rfl hc i pins s3 σ3 H3 X.xe I3 (stat fr3) st3 go) λr s4 ⟨u,hr,h4⟩=>?_);subst hr;refine wpAny_passesOwn hp (thn h4 λ_ s5 ⟨x,H5,I5,r5,y5,st5,fr5⟩=>?_);have I5':=I5.pinned (stat fr5) (T.obj _ _ st5);refine wpAny_passesOwn hp (thn (hg _ s5 σ3 H5 x u _ I5' r5 (step x H5 y5)) λ_ s6 ⟨σ6,H6,I6,q6⟩=>?_);refine wpAny_passesOwn hp (thn (hb _ s6 σ6 H6 _ I6 q6) λf s7 q7=>?_);have again:∀ {σ7:St} {H7:Hp},Inv X (pins++VS fp s5.heap) σ7 H7 s7->N σ7 H7->∃ m,m<n/\∃ i σ' H',Inv X pins σ' H' s7/\tn i s7.heap/\(∀ b∈fp,H' b=none)/\W i m σ' H':=λ{σ7 H7} I7 n7=>by
   obtain ⟨m',hm,w7⟩:=hN σ7 H7 n7;refine ⟨m',hm,i+1,σ7,H7,I7.unpinned,T.keep _ _ _ st5 λb hb o e=>(I7.pin (b,o) (mem_append_right _ (mem_append_right _ (q0 hb e)))).1,λb hb=>?_,w7⟩;obtain ⟨o,e,d⟩:=T.obj _ _ st5 b hb;exact (I7.pin (b,o) (mem_append_right _ (mem_append_right _ (q0 hb e)))).2.1
  cases f with
  |next=>obtain ⟨σ7,H7,I7,n7⟩:=q7;exact again I7 n7
  |cont=>obtain ⟨σ7,H7,I7,n7⟩:=q7;exact again I7 n7
  |brk=>obtain ⟨σ7,H7,I7,q7⟩:=q7;exact ⟨σ7,H7,I7.unpinned,q7⟩
  |ret v=>obtain ⟨x7,σ7,H7,I7,r7,q7⟩:=q7;exact ⟨x7,σ7,H7,I7.unpinned,r7,q7⟩
end
abbrev R2:=V->V->Hp->VK->Prop
def OpR (X:Cx) (f:Value->Value->Sem Value) (r:R2):Prop:=
 ∀ (pins:List (Addr×Obj)) (s:Shared) (σ:St) (H:Hp) (x y:V) (v u:Value) (Q:VK),Inv X pins σ H s->ja x v->ja y u->r x y H Q ->
  wpAny (model X.prog X.w) X.A (f v u) (EP X pins σ Q) X.xe s
def UnR (X:Cx) (f:Value->Sem Value) (r:V->Hp->VK->Prop):Prop:=
 ∀ (pins:List (Addr×Obj)) (s:Shared) (σ:St) (H:Hp) (x:V) (v:Value) (Q:VK),Inv X pins σ H s->ja x v->r x H Q ->
  wpAny (model X.prog X.w) X.A (f v) (EP X pins σ Q) X.xe s
def QL (X:Cx) (f:Value) (r:List V->Hp->VK->Prop):Prop:=
 ∀ (pins:List (Addr×Obj)) (s:Shared) (σ:St) (H:Hp) (xs:List V) (us:List Value) (Q:VK),Inv X pins σ H s->zI xs us->r xs H Q ->
  wpAny (model X.prog X.w) X.A (call f us) (EP X pins σ Q) X.xe s
def tOp (r:R2) (ta tb:TE):TE:=λσ H Q=>ta σ H λx H1=>tb σ H1 λy H2=>r x y H2 Q
def tUn (r:V->Hp->VK->Prop) (ta:TE):TE:=λσ H Q=>ta σ H λx H1=>r x H1 Q
def rI (C:Int->Int->Prop) (g:Int->Int->V):R2:=λx y H Q=>∃ i j,x=.int i/\y=.int j/\C i j/\Q (g i j) H
def rI0 (g:Int->Int->V):R2:=λx y H Q=>∃ i j,x=.int i/\y=.int j/\Q (g i j) H
def rU (g:Int->V):V->Hp->VK->Prop:=λx H Q=>∃ i,x=.int i/\Q (g i) H
section
variable {X:Cx} {a b c:Expr} {ta tb tc:TE} {pos:Pos}
def qoF (ha:PE X a ta) (hb:PE X b tb) {pins:List (Addr×Obj)} {s:Shared} {σ:St} {H:Hp} {R:V->V->Hp->Prop} (I:Inv X pins σ H s)
  (h:ta σ H λx H1=>tb σ H1 λy H2=>R x y H2) {Q:Value->Shared->Prop} {f:Value->Value->Sem Value}
  (hf:∀ v u s2 x y H2,Inv X pins σ H2 s2->ja x v->ja y u->R x y H2->wpAny (model X.prog X.w) X.A (f v u) Q X.xe s2) :
  wpAny (model X.prog X.w) X.A (eval a X.env) (λv s₁=>wpAny (model X.prog X.w) X.A (eval b X.env) (λu s₂=>wpAny (model X.prog X.w) X.A (f v u) Q X.xe s₂) X.xe s₁) X.xe s:=by
 refine thn (ha pins s σ H _ I h) λv s1 ⟨x,H1,I1,r1,q1⟩=>?_;refine thn (hb pins s1 σ H1 _ I1 q1) λu s2 ⟨y,H2,I2,r2,q2⟩=>?_;exact hf v u s2 x y H2 I2 r1 r2 q2
def qnY {op:Operator} {r:R2} (ho:OpR X (binaryOp op) r) (ha:PE X a ta) (hb:PE X b tb):PE X (.BinOp a op b pos) (tOp r ta tb):=by
 intro pins s σ H Q I h;exact wpAny_BinOp (qoF ha hb I h λv u s2 x y H2 I2 rx ry q=>ho pins s2 σ H2 x y v u Q I2 rx ry q)
def qoa {op:UnaryOp} {r:V->Hp->VK->Prop} (ho:UnR X (unaryOp op) r) (ha:PE X a ta):PE X (.UnaryOp op a pos) (tUn r ta):=by
 intro pins s σ H Q I h;exact UnaryOp_ (thn (ha pins s σ H _ I h) λv s1 ⟨x,H1,I1,r1,q1⟩=>ho pins s1 σ H1 x v Q I1 r1 q1)
def opI {f:Value->Value->Sem Value} {C:Int->Int->Prop} {g:Int->Int->Int}
  (rule:∀ (i j:Int) (t u:Tok) (s:Shared) (Q:Value->Shared->Prop) (E:Value->Shared->Prop),C i j->Q (.int (g i j) s.toks) { s with toks:=s.toks+1 }->wpAny (model X.prog X.w) X.A (f (.int i t) (.int j u)) Q E s) :
  OpR X f (rI C λi j=>.int (g i j)):=by
 intro pins s σ H x y v u Q I rx ry h;obtain ⟨i,j,rfl,rfl,hc,q⟩:=h;obtain ⟨t,rfl⟩:=rx;obtain ⟨t',rfl⟩:=ry;exact rule i j t t' s _ _ hc ⟨.int (g i j),H,I.tok _,⟨_,rfl⟩,q⟩
def qnH {f:Value->Value->Sem Value} {g:Int->Int->Int}
  (rule:∀ (i j:Int) (t u:Tok) (s:Shared) (Q:Value->Shared->Prop) (E:Value->Shared->Prop),Q (.int (g i j) s.toks) { s with toks:=s.toks+1 }->wpAny (model X.prog X.w) X.A (f (.int i t) (.int j u)) Q E s) :
  OpR X f (rI0 λi j=>.int (g i j)):=by
 intro pins s σ H x y v u Q I rx ry h;obtain ⟨i,j,rfl,rfl,q⟩:=h;obtain ⟨t,rfl⟩:=rx;obtain ⟨t',rfl⟩:=ry;exact rule i j t t' s _ _ ⟨.int (g i j),H,I.tok _,⟨_,rfl⟩,q⟩
def qm6 {f:Value->Value->Sem Value} {g:Int->Int->Bool}
  (rule:∀ (i j:Int) (t u:Tok) (s:Shared) (Q:Value->Shared->Prop) (E:Value->Shared->Prop),Q (.bool (g i j)) s->wpAny (model X.prog X.w) X.A (f (.int i t) (.int j u)) Q E s) :
  OpR X f (rI0 λi j=>.bl (g i j)):=by
 intro pins s σ H x y v u Q I rx ry h;obtain ⟨i,j,rfl,rfl,q⟩:=h;obtain ⟨t,rfl⟩:=rx;obtain ⟨t',rfl⟩:=ry;exact rule i j t t' s _ _ ⟨.bl (g i j),H,I,rfl,q⟩
def qb4 (i j:Int):Prop:=0<j/\j<1073741824
def qlC (i j:Int):Prop:=0<=j/\j<=1000000/\i.natAbs<2 ^ 64
def jy (i j:Int):Prop:=(-(2 ^ 64)<i/\i<2 ^ 64)\/(-(2 ^ 64)<j/\j<2 ^ 64)
def jy.ok {i j:Int} (h:jy i j):IntMulOk i j:=by
 rcases h with ⟨h1,h2⟩|⟨h1,h2⟩
 ·exact .of_left (intBits_le_64 h1 h2)
 ·exact .of_right (intBits_le_64 h1 h2)
def qlE:OpR X (binaryOp .Add) (rI0 λi j=>.int (i+j)):=qnH λ_ _ _ _ _ _ _ q=>add_int q
def qhR:OpR X (binaryOp .Sub) (rI0 λi j=>.int (i-j)):=qnH λ_ _ _ _ _ _ _ q=>sub_int q
def qkG:OpR X (binaryOp .Mult) (rI jy λi j=>.int (i*j)):=opI λ_ _ _ _ _ _ _ hc q=>mul_int q hc.ok
def qhj:OpR X (binaryOp .FloorDiv) (rI qb4 λi j=>.int (i/j)):=opI λi j _ _ _ _ _ hc q=>by
 have h1:(0:Int)<j:=hc.1;have h2:j<1073741824:=hc.2;exact floordiv_int (by omega) (by rw [Int.fdiv_eq_ediv_of_nonneg i (by omega)];exact q) (.inl (PyProof.noPylong_small (by omega)))
def qjq:OpR X (binaryOp .Mod) (rI (λ_ j=>0<j) λi j=>.int (i%j)):=opI λi j _ _ _ _ _ hc q=>by
 have h1:(0:Int)<j:=hc;exact mod_int' (by omega) (by rw [Int.fmod_eq_emod_of_nonneg i (by omega)];exact q)
def qkf:OpR X (binaryOp .Pow) (rI qlC λi j=>.int (i ^ j.toNat)):=opI λ_ _ _ _ _ _ _ hc q=>pow_int_small hc.1 hc.2.1 hc.2.2 q
def qih:OpR X (binaryOp .BitAnd) (rI0 λi j=>.int (Builtin.bitAnd i j)):=qnH λ_ _ _ _ _ _ _ q=>and_int q
def unI {f:Value->Sem Value} {g:Int->Int}
  (rule:∀ (i:Int) (t:Tok) (s:Shared) (Q:Value->Shared->Prop) (E:Value->Shared->Prop),Q (.int (g i) s.toks) { s with toks:=s.toks+1 }->wpAny (model X.prog X.w) X.A (f (.int i t)) Q E s) :
  UnR X f (rU λi=>.int (g i)):=by
 intro pins s σ H x v Q I rx h;obtain ⟨i,rfl,q⟩:=h;obtain ⟨t,rfl⟩:=rx;exact rule i t s _ _ ⟨.int (g i),H,I.tok _,⟨_,rfl⟩,q⟩
def qkE:UnR X (unaryOp .USub) (rU λi=>.int (-i)):=unI λ_ _ _ _ _ q=>neg_int q
end
def qoq:V->V->Bool
 |.non,.non=>true|.non,.int _=>true|.int _,.non=>true|.non,.bl _=>true|.bl _,.non=>true|.non,.str _=>true|.str _,.non=>true
 |.int _,.int _=>true|.bl _,.bl _=>true|.str _,.str _=>true|.byt _,.byt _=>true
 |.int _,.str _=>true|.str _,.int _=>true|.bl _,.str _=>true|.str _,.bl _=>true
 |_,_=>false
def rEq:R2:=λx y H Q=>qoq x y=true/\Q (.bl (decide (x=y))) H
def rNe:R2:=λx y H Q=>qoq x y=true/\Q (.bl (!decide (x=y))) H
def qbg {i j:Int}:decide (V.int i=V.int j)=(i==j):=by
 rw [Bool.eq_iff_iff];simp
def qd4 {i j:Bool}:decide (V.bl i=V.bl j)=(i==j):=by
 rw [Bool.eq_iff_iff];simp
def qaF {i j:Str}:decide (V.str i=V.str j)=(i==j):=by
 rw [Bool.eq_iff_iff];simp
def qbM {i j:Array UInt8}:decide (V.byt i=V.byt j)=(i.toList==j.toList):=by
 rw [Bool.eq_iff_iff];cases i;cases j;simp
section
variable {X:Cx} {a b c:Expr} {ta tb tc:TE} {pos:Pos}
def qW {pins:List (Addr×Obj)} {σ:St} {H:Hp} {s:Shared} {Q:VK} {k k':Bool} (I:Inv X pins σ H s) (q:Q (.bl k) H) (e:k=k'):EP X pins σ Q (.bool k') s:=by
 subst e;exact ⟨.bl k,H,I,rfl,q⟩
def qmI:OpR X (compareOp .Eq) rEq:=by
 intro pins s σ H x y v u Q I rx ry h;obtain ⟨hs,q⟩:=h;cases x with
 |non=>
  cases rx;cases y with
  |non=>cases ry;exact PySem.EqNone.eq_none_none (qW I q (by simp))
  |bl j=>cases ry;exact PySem.EqNone.eq_none_bool (qW I q (by simp))
  |int j=>obtain ⟨t',rfl⟩:=ry;exact PySem.EqNone.eq_none_int (qW I q (by simp))
  |str j=>obtain ⟨t',rfl⟩:=ry;exact PySem.EqNone.eq_none_str (qW I q (by simp))
  |_=>exact absurd (show false=true from hs) Bool.false_ne_true
 |bl i=>
  cases rx;cases y with
  |non=>cases ry;exact PySem.EqNone.eq_bool_none (qW I q (by simp))
  |bl j=>cases ry;exact eq_bool (qW I q qd4)
  |str j=>obtain ⟨t',rfl⟩:=ry;exact PySem.EqMixed.eq_bool_str (qW I q (by simp))
  |_=>exact absurd (show false=true from hs) Bool.false_ne_true
 |int i=>
  obtain ⟨t,rfl⟩:=rx;cases y with
  |non=>cases ry;exact PySem.EqNone.eq_int_none (qW I q (by simp))
  |int j=>obtain ⟨t',rfl⟩:=ry;exact eq_int (qW I q qbg)
  |str j=>obtain ⟨t',rfl⟩:=ry;exact PySem.EqMixed.eq_int_str (qW I q (by simp))
  |_=>exact absurd (show false=true from hs) Bool.false_ne_true
 |str i=>
  obtain ⟨t,rfl⟩:=rx;cases y with
  |non=>cases ry;exact PySem.EqNone.eq_str_none (qW I q (by simp))
  |bl j=>cases ry;exact PySem.EqMixed.eq_str_bool (qW I q (by simp))
  |int j=>obtain ⟨t',rfl⟩:=ry;exact PySem.EqMixed.eq_str_int (qW I q (by simp))
  |str j=>obtain ⟨t',rfl⟩:=ry;exact eq_str (qW I q qaF)
  |_=>exact absurd (show false=true from hs) Bool.false_ne_true
 |byt i=>
  obtain ⟨t,rfl⟩:=rx;cases y with
  |byt j=>obtain ⟨t',rfl⟩:=ry;exact PySem.W.eq_bytes (qW I q qbM)
  |_=>exact absurd (show false=true from hs) Bool.false_ne_true
 |_=>cases y<;>exact absurd (show false=true from hs) Bool.false_ne_true
def qnm:OpR X (compareOp .NotEq) rNe:=by
 intro pins s σ H x y v u Q I rx ry h;obtain ⟨hs,q⟩:=h;cases x with
 |non=>
  cases rx;cases y with
  |non=>cases ry;exact PySem.EqNone.ne_none_none (qW I q (by simp))
  |bl j=>cases ry;exact PySem.EqNone.ne_none_bool (qW I q (by simp))
  |int j=>obtain ⟨t',rfl⟩:=ry;exact PySem.EqNone.ne_none_int (qW I q (by simp))
  |str j=>obtain ⟨t',rfl⟩:=ry;exact PySem.EqNone.ne_none_str (qW I q (by simp))
  |_=>exact absurd (show false=true from hs) Bool.false_ne_true
 |bl i=>
  cases rx;cases y with
  |non=>cases ry;exact PySem.EqNone.ne_bool_none (qW I q (by simp))
  |bl j=>cases ry;exact ne_bool (qW I q (congrArg not qd4))
  |str j=>obtain ⟨t',rfl⟩:=ry;exact PySem.EqMixed.ne_bool_str (qW I q (by simp))
  |_=>exact absurd (show false=true from hs) Bool.false_ne_true
 |int i=>
  obtain ⟨t,rfl⟩:=rx;cases y with
  |non=>cases ry;exact PySem.EqNone.ne_int_none (qW I q (by simp))
  |int j=>obtain ⟨t',rfl⟩:=ry;exact ne_int (qW I q (congrArg not qbg))
  |str j=>obtain ⟨t',rfl⟩:=ry;exact PySem.EqMixed.ne_int_str (qW I q (by simp))
  |_=>exact absurd (show false=true from hs) Bool.false_ne_true
 |str i=>
  obtain ⟨t,rfl⟩:=rx;cases y with
  |non=>cases ry;exact PySem.EqNone.ne_str_none (qW I q (by simp))
  |bl j=>cases ry;exact PySem.EqMixed.ne_str_bool (qW I q (by simp))
  |int j=>obtain ⟨t',rfl⟩:=ry;exact PySem.EqMixed.ne_str_int (qW I q (by simp))
  |str j=>obtain ⟨t',rfl⟩:=ry;exact ne_str (qW I q (congrArg not qaF))
  |_=>exact absurd (show false=true from hs) Bool.false_ne_true
 |byt i=>
  obtain ⟨t,rfl⟩:=rx;cases y with
  |byt j=>obtain ⟨t',rfl⟩:=ry;exact PySem.W.ne_bytes (qW I q (congrArg not qbM))
  |_=>exact absurd (show false=true from hs) Bool.false_ne_true
 |_=>cases y<;>exact absurd (show false=true from hs) Bool.false_ne_true
def qcv:OpR X (compareOp .Lt) (rI0 λi j=>.bl (decide (i<j))):=qm6 λ_ _ _ _ _ _ _ q=>lt_int q
def qgf:OpR X (compareOp .Gt) (rI0 λi j=>.bl (decide (j<i))):=qm6 λ_ _ _ _ _ _ _ q=>gt_int q
def qli:OpR X (compareOp .GtE) (rI0 λi j=>.bl (decide (j<=i))):=qm6 λ_ _ _ _ _ _ _ q=>ge_int q
def qbL:OpR X (compareOp .Is) (λx y H Q=>y=.non/\Q (.bl (decide (x=.non))) H):=by
 intro pins s σ H x y v u Q I rx ry h;obtain ⟨rfl,q⟩:=h;cases ry;refine is_none_gen (qW I q ?_);cases x<;>first
  | (cases rx;rfl)
  | (obtain ⟨t,rfl⟩:=rx;rfl)
def OpR.or {f:Value->Value->Sem Value} {r r':R2} (h:OpR X f r) (h':OpR X f r'):OpR X f (λx y H Q=>r x y H Q\/r' x y H Q):=by
 intro pins s σ H x y v u Q I rx ry q;rcases q with q|q
 ·exact h pins s σ H x y v u Q I rx ry q
 ·exact h' pins s σ H x y v u Q I rx ry q
def qv (b:Expr) {op:CmpOp} (h:op≠.In:=by decide) (h2:op≠.NotIn:=by decide):behindInMarks op b=false:=by
 have e1:(op==CmpOp.In)=false:=by cases op<;>first|rfl|exact absurd rfl h
 have e2:(op==CmpOp.NotIn)=false:=by cases op<;>first|rfl|exact absurd rfl h2
 cases b<;>simp [behindInMarks,e1,e2]
def qgp {op:CmpOp} {r:R2} (ho:OpR X (compareOp op) r) (ha:PE X a ta) (hb:PE X b tb) (hm:behindInMarks op b=false):PE X (.Compare a [op] [b] pos) (tOp r ta tb):=by
 intro pins s σ H Q I h;exact wpAny_Compare1 (qoF ha hb I h λv u s2 x y H2 I2 rx ry q=>ho pins s2 σ H2 x y v u Q I2 rx ry q) hm
def qjD (t:TE):TT:=λσ H Q=>t σ H λx H'=>∃ k,x=.bl k/\Q k H'
def qaS {op:CmpOp} {r:R2} (ho:OpR X (compareOp op) r) (ha:PE X a ta) (hb:PE X b tb) (hm:behindInMarks op b=false):PT X (.Compare a [op] [b] pos) (qjD (tOp r ta tb)):=by
 intro pins s σ H Q I h;refine wpAny_isTrue_Compare1 (thn (ha pins s σ H _ I h) λv s1 ⟨x,H1,I1,r1,q1⟩=>thn (hb pins s1 σ H1 _ I1 q1) λu s2 ⟨y,H2,I2,r2,q2⟩=>
  thn (ho pins s2 σ H2 x y v u _ I2 r1 r2 q2) λc s3 ⟨z,H3,I3,r3,k,e,q3⟩=>?_) hm
 subst e;cases r3;exact wpAny_truthy_bool ⟨H3,I3,q3⟩
def RN:(sizeLine:Nat)<2 ^ 63:=by rw [sizeLine_eq];decide
def Y9 {x:V} {us:List Value} (r:zI [x] us):∃ u,us=[u]/\ja x u:=by
 cases r with
 |cons r1 r2=>cases r2;exact ⟨_,rfl,r1⟩
def qbi {x y:V} {us:List Value} (r:zI [x,y] us):∃ u w',us=[u,w']/\ja x u/\ja y w':=by
 cases r with
 |cons r1 r2=>
  cases r2 with
  |cons r3 r4=>cases r4;exact ⟨_,_,rfl,r1,r3⟩
def K4:QL X (.builtin "abs") (λxs H Q=>∃ i,xs=[.int i]/\Q (.int (if i<0 then -i else i)) H):=by
 intro pins s σ H xs us Q I r h;obtain ⟨i,rfl,q⟩:=h;obtain ⟨u,rfl,t,rfl⟩:=Y9 r;exact call_abs_int λu tk=>⟨.int (if i<0 then -i else i),H,I.tok _,⟨_,rfl⟩,q⟩
def qby (hc:X.calm=true):QL X (.builtin "min") (λxs H Q=>∃ i j,xs=[.int i,.int j]/\Q (.int (if j<i then j else i)) H):=by
 intro pins s σ H xs us Q I r h;obtain ⟨i,j,rfl,q⟩:=h;obtain ⟨u,w',rfl,⟨t,rfl⟩,⟨t',rfl⟩⟩:=qbi r;refine min_two_ints (I.ok.hd hc) λh' tk k=>⟨_,H,I.kept k,?_,q⟩
 by_cases hj:j<i
 ·rw [if_pos hj,if_pos hj];exact ⟨_,rfl⟩
 ·rw [if_neg hj,if_neg hj];exact ⟨_,rfl⟩
def WB:QL X (.type "int") (λxs H Q=>(∃ i,xs=[.int i]/\Q (.int i) H)\/∃ k,xs=[.bl k]/\Q (.int (if k then 1 else 0)) H):=by
 intro pins s σ H xs us Q I r h;rcases h with ⟨i,rfl,q⟩|⟨k,rfl,q⟩
 ·obtain ⟨u,rfl,t,rfl⟩:=Y9 r;exact call_int_int ⟨.int i,H,I,⟨_,rfl⟩,q⟩
 ·obtain ⟨u,rfl,r1⟩:=Y9 r;cases r1;exact call_int_bool ⟨.int (if k then 1 else 0),H,I.tok _,⟨_,rfl⟩,q⟩
def qpg (K:Frg) (x:V) (H:Hp) (n:Nat):Prop:=
 match x with
 |.str y=>y.length<=sizeLine/\n=y.length
 |.byt y=>y.size<=sizeLine/\n=y.size
 |.ref p=>(∃ xs,SqL K H p xs/\n=xs.length)\/∃ xs,SqT K H p xs/\n=xs.length
 |_=>False
def zm:QL X (.builtin "len") (λxs H Q=>∃ x n,xs=[x]/\qpg X.K x H n/\Q (.int n) H):=by
 intro pins s σ H xs us Q I r h;obtain ⟨x,n,rfl,e,q⟩:=h;obtain ⟨u,rfl,rx⟩:=Y9 r;have hl:=RN;have hs:sizeLine=16777216:=sizeLine_eq;cases x with
 |str y=>
  obtain ⟨t,rfl⟩:=rx;obtain ⟨hy,e'⟩:y.length<=sizeLine/\n=y.length:=e;subst e';exact len_str (by omega) ⟨.int _,H,I.tok _,⟨_,rfl⟩,q⟩
 |byt y=>
  obtain ⟨t,rfl⟩:=rx;obtain ⟨hy,e'⟩:y.size<=sizeLine/\n=y.size:=e;subst e';exact PySem.W.len_bytes (by omega) ⟨.int _,H,I.tok _,⟨_,rfl⟩,q⟩
 |ref p=>
  cases rx;have e':(∃ xs,SqL X.K H p xs/\n=xs.length)\/∃ xs,SqT X.K H p xs/\n=xs.length:=e;rcases e' with ⟨xs,hx,e'⟩|⟨xs,hx,e'⟩
  ·subst e';obtain ⟨its,r',pl,hz⟩:=I.list hx;have hlen:=r'.length;exact Calls.call_len_list pl.isList (by simp only [size_toArray];omega) ⟨.int xs.length,H,I.tok _,⟨_,by simp only [size_toArray];rw [hlen]⟩,q⟩
  ·subst e';obtain ⟨its,r',pl,hz⟩:=I.tuple hx;have hlen:=r'.length;exact len_tuple pl (by simp only [size_toArray];omega) ⟨.int xs.length,H,I.tok _,⟨_,by simp only [size_toArray];rw [hlen]⟩,q⟩
 |_=>exact (show False from e).elim
end
section
variable {prog:Program} {w:World} {A:Around} {E:Value->Shared->Prop} {s:Shared} {K:Frg} {x dx C f:Addr} {mA:Str->Option Value} {name:Str} {v:Value}
end
section
variable {P:Program} {w:World} {H H':Hp} {h h':Heap} {a C dx:Addr} {fs fs':List (Str×V)}
end
section
variable {X:Cx} {pins:List (Addr×Obj)} {σ:St} {H:Hp} {s:Shared} {a C dx:Addr} {fs:List (Str×V)} {f:Str} {v:V} {A:Around} {E:Value->Shared->Prop}
def Inv.made (I:Inv X pins σ H s):Inv X pins σ (upd (upd H s.heap.objs.size (.own (s.heap.objs.size+1))) (s.heap.objs.size+1) (.ins C s.heap.objs.size []))
  { s with heap:=(s.heap.push PySem.W.emptyDict).push (PySem.W.instObj C s.heap.objs.size) }:=by
 have e1:(s.heap.push PySem.W.emptyDict).get? s.heap.objs.size=some PySem.W.emptyDict:=Heap.get?_push_size s.heap rfl;have e2:((s.heap.push PySem.W.emptyDict).push (PySem.W.instObj C s.heap.objs.size)).get? (s.heap.objs.size+1)=some (PySem.W.instObj C s.heap.objs.size):=by
  have:=Heap.get?_push_size (s.heap.push PySem.W.emptyDict) (o:=PySem.W.instObj C s.heap.objs.size) rfl
  rwa [Heap.size_push] at this
 have e3:(s.heap.push PySem.W.emptyDict).Ns s.heap.objs.size (λ_=>none):=⟨PySem.W.emptyDict,#[],_,e1,rfl,(λe he=>absurd he (by simp)),λ_=>rfl⟩
 have I1:=I.laid (a:=s.heap.objs.size) (o:=.own (s.heap.objs.size+1)) (h':=s.heap.push PySem.W.emptyDict) (t':=s.toks) (λb u q=>Heap.get?_push_of_some _ q) (Nat.le_refl _) ⟨_,e1⟩;refine I1.laid (a:=s.heap.objs.size+1) (o:=.ins C s.heap.objs.size []) (t':=s.toks) (λb u q=>Heap.get?_push_of_some _ q) (Nat.le_of_eq (Heap.size_push _ _)) ?_;have ne:s.heap.objs.size≠s.heap.objs.size+1:=Nat.ne_of_lt (Nat.lt_succ_self _);refine ⟨by rw [qC ne,qU],Nat.zero_le _,ne,e2,λ_=>none,(Heap.Ns1.of_empty e3).at λo q=>Heap.get?_push_of_some _ q,λ_=>True.intro,λy hy=>absurd rfl hy⟩
end
section
variable {X:Cx} {o e value:Expr} {f:Str} {pos pos' tpos:Pos} {ta tv:TE}
end
section
variable {X:Cx} {pins:List (Addr×Obj)} {σ:St} {H:Hp} {s:Shared} {A:Around} {E:Value->Shared->Prop} {Q:Value->Shared->Prop} {c:Value} {b:Bool}
end
structure Room (k:Nat) (A:Around):Prop where
 hd:A.handled=none
 dp:A.depth+3*k+5<recursionLimit
 un:A.units+16*k+200<cLine
 gd:A.guards=some []
def Room.mono {j k:Nat} {A:Around} (r:Room k A) (h:j<=k):Room j A:=⟨r.hd,by have:=r.dp;omega,by have:=r.un;omega,r.gd⟩
def Room.deeper {k:Nat} {A:Around} (r:Room (k+1) A) (env:Env):Room k (A.deeper env):=
 ⟨r.hd,by have:=r.dp;show A.depth+1+3*k+5<_;omega,by have:=r.un;show A.units+3+16*k+200<_;omega,r.gd⟩
def Room.in1 {k:Nat} {A:Around} (r:Room (k+1) A):Room k A.in1:=
 ⟨r.hd,by have:=r.dp;show A.depth+3*k+5<_;omega,by have:=r.un;show A.units+1+16*k+200<_;omega,r.gd⟩
def Room.depth {k:Nat} {A:Around} (r:Room k A):A.depth<recursionLimit:=by have:=r.dp;omega
def Room.units {k:Nat} {A:Around} (r:Room k A):A.units+64<cLine:=by have:=r.un;omega
def qpE:TA:=λ_ H Q=>Q [] H
def qnF (ta:TE) (tr:TA):TA:=λσ H Q=>ta σ H λx H1=>tr σ H1 λxs H2=>Q (x::xs) H2
section
variable {X:Cx} {e:Expr} {es:List Expr} {te:TE} {t:TA} {pos:Pos}
def XG:PA X [] qpE:=λ_ _ _ _ H Q I h=>Calls.spliced_nil ⟨[],H,I,.nil,h⟩
def ZO (ha:PE X e te) (hr:PA X es t) (hs:starEach (e::es) X.env=(false,eval e X.env)::starEach es X.env:=by rfl):PA X (e::es) (qnF te t):=by
 intro pos pins s σ H Q I h;rw [hs];show wpAny _ _ (spliced ((false,eval e X.env)::backTo pos (starEach es X.env))) _ _ s;refine Calls.spliced_cons (thn (ha pins s σ H _ I h) λu s1 ⟨x,H1,I1,r1,q1⟩=>?_);exact thn (hr pos pins s1 σ H1 _ I1 q1) λus s2 ⟨xs,H2,I2,r2,q2⟩=>⟨x::xs,H2,I2,.cons r1 r2,q2⟩
def qpR (t:TA):TE:=λσ H Q=>t σ H λxs H1=>xs.length<=sizeLine/\∀ p,H1 p=none->Q (.ref p) (upd H1 p (.tup xs))
def qpD (t:TA):TE:=λσ H Q=>t σ H λxs H1=>xs.length<=sizeLine/\∀ p,H1 p=none->Q (.ref p) (upd H1 p (.lst xs))
def qeP {x1} (h:PA X es t):PE X (.Tuple es x1 pos) (qpR t):=by
 intro pins s σ H Q I hq;refine wpAny_Tuple_spliced (thn (h pos pins s σ H _ I hq) λus s1 ⟨xs,H1,I1,r,z,q⟩=>⟨by rw [← r.length];exact z,?_⟩);have hf:H1 s1.heap.objs.size=none:=I1.hok.fresh (Nat.le_refl _);refine ⟨.ref s1.heap.objs.size,upd H1 s1.heap.objs.size (.tup xs),I1.laid (t':=s1.toks) (λb u e=>Heap.get?_push_of_some _ e) (Nat.le_refl _) ?_,rfl,q _ hf⟩;exact ⟨z,us,r,⟨_,Heap.get?_push_size _ rfl,rfl,_,rfl⟩⟩
def qlZ (h:PA X es t):PE X (.List es pos) (qpD t):=by
 intro pins s σ H Q I hq;refine wpAny_List_spliced (thn (h pos pins s σ H _ I hq) λus s1 ⟨xs,H1,I1,r,z,q⟩=>⟨by rw [← r.length];exact z,?_⟩);have hf:H1 s1.heap.objs.size=none:=I1.hok.fresh (Nat.le_refl _);refine ⟨.ref s1.heap.objs.size,upd H1 s1.heap.objs.size (.lst xs),I1.laid (t':=s1.toks) (λb u e=>Heap.get?_push_of_some _ e) (Nat.le_refl _) ?_,rfl,q _ hf⟩;exact ⟨z,us,0,r,Heap.get?_push_size _ rfl⟩
end
abbrev Sp:=List V->Hp->VK->XK->Prop
abbrev CXT:=List Env->Hp->Shared->XK->Value->Shared->Prop
structure Env0 (P:Program) (w:World) (K:Frg) (mg:Str->Option Value) (base:Heap) (A:Around) (outer:List Env) (s:Shared) (H:Hp):Prop where
 frames:A.frames=some outer
 mod:Mod K mg base
 bs:∀ b o,base.get? b=some o->s.heap.get? b=some o/\H b=none
 bsz:base.objs.size<=s.heap.objs.size
 funs:s.heap.FunFrames base outer
 frf:∀ b∈frs outer,H b=none
 hok:HOk P w H s.heap
 bare:AllBare s.gens
def CE (outer:List Env) (P:Program) (w:World) (H:Hp) (s:Shared) (Q:VK) (u:Value) (s':Shared):Prop:=
 ∃ v H',s'.os=s.os/\AllBare s'.gens/\Un (frs outer) [] H H' s.heap s'.heap/\HOk P w H' s'.heap/\ja v u/\Q v H'
def CR (CX:CXT) (outer:List Env) (P:Program) (w:World) (H:Hp) (s:Shared) (Q:VK) (E:XK) (r:Result) (s':Shared):Prop:=
 match r with
 |.ok (.ret u)=>CE outer P w H s Q u s'
 |.ok _=>False
 |.error e=>CX outer H s E e s'
structure FnOk (P:Program) (w:World) (K:Frg) (mg:Str->Option Value) (base:Heap) (CX:CXT) (k:Nat) (f:Addr) (fd:FuncData) (ps:List Str) (sp:Sp):Prop where
 len:∀ vs H Q E,sp vs H Q E->vs.length=ps.length
 run:∀ (A:Around) (outer:List Env) (s:Shared) (H:Hp) (args:Args) (us:List Value) (vs:List V) (Q:VK) (E:XK),Room k A->Env0 P w K mg base A outer s H->BindsTo s fd args (ps.zip us)->zI vs us->sp vs H Q E ->
  codeAny (model P w) A (.call (.ref f) args) (CR CX outer P w H s Q E) s
def FnOk.mono {P:Program} {w:World} {K:Frg} {mg:Str->Option Value} {base:Heap} {CX:CXT} {j k:Nat} {f:Addr} {fd:FuncData} {ps:List Str} {sp:Sp} (F:FnOk P w K mg base CX j f fd ps sp) (h:j<=k) :
  FnOk P w K mg base CX k f fd ps sp:=⟨F.len,λA outer s H args us vs Q E hr=>F.run A outer s H args us vs Q E (hr.mono h)⟩
def FnOk.imp {P:Program} {w:World} {K:Frg} {mg:Str->Option Value} {base:Heap} {CX:CXT} {k:Nat} {f:Addr} {fd:FuncData} {ps:List Str} {sp sp':Sp} (F:FnOk P w K mg base CX k f fd ps sp)
  (h:∀ vs H Q E,sp' vs H Q E->sp vs H Q E):FnOk P w K mg base CX k f fd ps sp':=
 ⟨λvs H Q E q=>F.len vs H Q E (h _ _ _ _ q),λA outer s H args us vs Q E hr he hb hv hs=>F.run A outer s H args us vs Q E hr he hb hv (h _ _ _ _ hs)⟩
def Env0.in1 {P:Program} {w:World} {K:Frg} {mg:Str->Option Value} {base:Heap} {A:Around} {outer:List Env} {s:Shared} {H:Hp} (e:Env0 P w K mg base A outer s H) :
  Env0 P w K mg base A.in1 outer s H:=⟨e.frames,e.mod,e.bs,e.bsz,e.funs,e.frf,e.hok,e.bare⟩
section
variable {X:Cx} {pins:List (Addr×Obj)} {σ:St} {H:Hp} {s s':Shared}
def Inv.env0 (I:Inv X pins σ H s):Env0 X.prog X.w X.K X.mg X.base X.A X.stack s H:=
 ⟨I.ok.frames,I.ok.mod,I.bs,Nat.le_trans I.ok.bsz I.sz,I.stack,I.stkFree,I.hok,I.bare⟩
def Inv.after {Q:VK} {u:Value} (I:Inv X pins σ H s) (h:CE X.stack X.prog X.w H s Q u s'):EP X pins σ Q u s':=by
 obtain ⟨v,H',os,bare,un,hok,r,q⟩:=h;obtain ⟨hh,g,d,t,os'⟩:=s';obtain rfl:os'=s.os:=os;exact ⟨v,H',I.call (h':=hh) (g':=g) (d':=d) (t':=t) (ch:=[]) un hok bare (λb z=>absurd z (by simp)),r,q⟩
end
def qnc (sp:Sp) (dvs:List V) (E:XK) (t:TA):TE:=λσ H Q=>t σ H λvs H1=>sp (vs++dvs) H1 Q E
def zh (K:Frg) (fd:FuncData) (ps:List Str) (ds:List Value):Prop:=
 ∀ (s:Shared) (us:List Value),K.In s.heap->(us++ds).length=ps.length->BindsTo s fd ⟨us,[]⟩ (ps.zip (us++ds))
def zh.all {K:Frg} {fd:FuncData} {ps:List Str} (h:∀ us:List Value,us.length=ps.length->bindArgs fd ⟨us,[]⟩=pure (ps.zip us)):zh K fd ps []:=λs us _ hl=>by
 rw [List.append_nil] at hl ⊢;exact .of_eq (h us hl)
def qbN (CX:CXT) (X:Cx) (E:XK):Prop:=∀ (pins:List (Addr×Obj)) (σ:St) (H:Hp) (s:Shared) (e:Value) (s':Shared),Inv X pins σ H s->CX X.stack H s E e s'->X.xe e s'
section
variable {X:Cx} {CX:CXT} {k:Nat} {f C:Addr} {fd:FuncData} {ps:List Str} {sp:Sp} {dvs:List V} {ds:List Value} {E:XK} {x m:Str} {p pos apos:Pos} {e o:Expr} {es:List Expr} {ta:TE} {t:TA}
def ql5 {pins:List (Addr×Obj)} {σ:St} {H:Hp} {s:Shared} {Q:VK} {us:List Value} {vs:List V} (F:FnOk X.prog X.w X.K X.mg X.base CX k f fd ps sp) (hr:Room k X.A) (hb:zh X.K fd ps ds) (hd:zI dvs ds) (hx:qbN CX X E)
  (I:Inv X pins σ H s) (r:zI vs us) (h:sp (vs++dvs) H Q E):wpAny (model X.prog X.w) X.A (call (.ref f) us) (EP X pins σ Q) X.xe s:=by
 have r2:zI (vs++dvs) (us++ds):=r.append hd;have hl:(us++ds).length=ps.length:=by rw [← r2.length];exact F.len _ _ _ _ h
 refine wpAny_call (codeAny_mono (F.run X.A X.stack s H ⟨us,[]⟩ (us++ds) (vs++dvs) Q E hr I.env0 (hb s us I.kIn hl) r2 h) λr s' hq=>?_);cases r with
 |error e=>exact hx pins σ H s e s' I hq
 |ok fl=>
  cases fl with
  |ret u=>exact I.after hq
  |next=>exact False.elim hq
  |brk=>exact False.elim hq
  |cont=>exact False.elim hq
def qgO (F:FnOk X.prog X.w X.K X.mg X.base CX k f fd ps sp) (hr:Room k X.A) (hg:Gl X x) (hm:X.mg x=some (.ref f)) (hk:PySem.W.keepIn X.K (.ref f)=true) (hb:zh X.K fd ps ds) (hd:zI dvs ds) (hx:qbN CX X E)
  (ha:PA X (e::es) t) (hdb:(x==("__debug__" : Str))=false:=by decide) (he:starEach (e::es) X.env=(false,eval e X.env)::starEach es X.env:=by rfl) (hpl:(backTo pos (starEach es X.env)).any (·.1)=false:=by rfl) :
  PE X (.Call (.Name x p) (e::es) [] pos) (qnc sp dvs E t):=by
 intro pins s σ H Q I h;refine wpAny_Call_Name_kw (qbv I hg hm ?_ hdb);refine PySem.W.callWith_K (h₀:=X.base) I.ok.mod.kin hk (thn (ha pos pins s σ H _ I h) λus s1 ⟨vs,H1,I1,r,q⟩=>⟨I1.kIn,?_⟩) he hpl;exact ql5 F hr hb hd hx I1 r q
end
section
variable {X:Cx} {CX:CXT} {k:Nat} {f C:Addr} {fd:FuncData} {ps ks:List Str} {sp:Sp} {E:XK} {x m:Str} {p pos apos kpos:Pos} {e o:Expr} {es:List Expr} {kws:List Keyword} {te ta:TE} {t tk:TA} {nm:Option Str}
variable {g:List Value->List Value->List Value} {gV:List V->List V->List V}
end
structure FnScope (N P:List Str) (sc:Scope):Prop where
 kind:sc.kind=.function
 co:sc.isCoroutine=false
 gen:sc.isGenerator=false
 nd:N.Nodup
 pre:N.take P.length=P
 par:∀ x∈P,sc.names.lookup x=some .local\/sc.names.lookup x=some .cell
 nofree:∀ y∈sc.names,y.2≠.free
def RX {kindOf:Str->Option NameKind} {x:Str}:∀ {binds:List (Str×Value)} {m:Str->Option Value},(∀ v,(x,v)∉binds)->bindL kindOf binds m x=m x
 |[],_,_=>rfl
 | (n,v)::r,m,h=>by
  unfold bindL;rw [RX λw hw=>h w (List.mem_cons_of_mem _ hw)];split
  ·have:x≠n:=by rintro rfl;exact h v List.mem_cons_self
   simp [this]
  ·rfl
def SI {kindOf:Str->Option NameKind} {x:Str}:∀ {binds:List (Str×Value)} {m:Str->Option Value},(∀ v,(x,v)∉binds)->bindC kindOf binds m x=m x
 |[],_,_=>rfl
 | (n,v)::r,m,h=>by
  unfold bindC;rw [SI λw hw=>h w (List.mem_cons_of_mem _ hw)];split
  ·rfl
  ·have:x≠n:=by rintro rfl;exact h v List.mem_cons_self
   simp [this]
def RD {kindOf:Str->Option NameKind} {x:Str} {v:Value}:∀ {P:List Str} {vs:List Value} {i:Nat} {m:Str->Option Value},P.Nodup->P[i]?=some x->vs[i]?=some v->kindOf x=some .local ->
  bindL kindOf (P.zip vs) m x=some v
 |[],_,_,_,_,h,_,_=>by simp at h
 |_::_,[],_,_,_,_,h,_=>by simp at h
 |p::P,w::vs,0,m,nd,h1,h2,hk=>by
  simp at h1 h2;subst h1;subst h2;show bindL kindOf ((p,w)::P.zip vs) m p=_;unfold bindL;rw [RX λv hv=>(List.nodup_cons.mp nd).1 (List.of_mem_zip hv).1,if_pos hk];simp
 |p::P,w::vs,i+1,m,nd,h1,h2,hk=>by
  show bindL kindOf ((p,w)::P.zip vs) m x=_;unfold bindL;exact RD (i:=i) (List.nodup_cons.mp nd).2 (by simpa using h1) (by simpa using h2) hk
def RU {kindOf:Str->Option NameKind} {x:Str} {v:Value}:∀ {P:List Str} {vs:List Value} {i:Nat} {m:Str->Option Value},P.Nodup->P[i]?=some x->vs[i]?=some v->kindOf x≠some .local ->
  bindC kindOf (P.zip vs) m x=some v
 |[],_,_,_,_,h,_,_=>by simp at h
 |_::_,[],_,_,_,_,h,_=>by simp at h
 |p::P,w::vs,0,m,nd,h1,h2,hk=>by
  simp at h1 h2;subst h1;subst h2;show bindC kindOf ((p,w)::P.zip vs) m p=_;unfold bindC;rw [SI λv hv=>(List.nodup_cons.mp nd).1 (List.of_mem_zip hv).1,if_neg hk];simp
 |p::P,w::vs,i+1,m,nd,h1,h2,hk=>by
  show bindC kindOf ((p,w)::P.zip vs) m x=_;unfold bindC;exact RU (i:=i) (List.nodup_cons.mp nd).2 (by simpa using h1) (by simpa using h2) hk
def start (N:List Str) (vs:List V):St:=vs.map some++List.replicate (N.length-vs.length) none
def qca (CX:CXT) (P:Program) (w:World) (K:Frg) (mg:Str->Option Value) (base:Heap) (N:List Str) (qual:Str) (scope:Scope) (f:Addr) (cd:Value) (A:Around) (outer:List Env) (s:Shared) (H:Hp) (E:XK):Cx where
 prog:=P
 w:=w
 K:=K
 mg:=mg
 base:=base
 A:=A.deeper (envOfC qual scope s.heap.objs.size f cd)
 N:=N
 s₀:=s
 H₀:=H
 env:=envOfC qual scope s.heap.objs.size f cd
 outer:=outer
 stack:=envOfC qual scope s.heap.objs.size f cd::outer
 ex:=[]
 calm:=true
 fn:=λ_=>true
 pn:=[]
 xe:=λe s'=>wpAny (model P w) (A.deeper (envOfC qual scope s.heap.objs.size f cd)) (leaving (envOfC qual scope s.heap.objs.size f cd) e) (λ_ s''=>CX outer H s E e s'') (λe' s''=>CX outer H s E e' s'') s'
def L6 {sc:Scope} {n:Nat} {x:Str} (h:sc.names.lookup x=some .cell):∃ c,(cellsFrom n sc.names []).lookup x=some c:=by
 have q:=PySem.W.cellsFrom_some sc.names n [] (.inl h);exact Option.isSome_iff_exists.mp q
def qaL {CX:CXT} {P:Program} {w:World} {K:Frg} {mg:Str->Option Value} {base:Heap} {N ps:List Str} {qual:Str} {scope:Scope} {f:Addr} {cd:Value} {A:Around} {outer:List Env} {s s1:Shared} {H:Hp} {E:XK} {us:List Value} {vs:List V}
  (S:FnScope N ps scope) (hd:A.handled=none) (e0:Env0 P w K mg base A outer s H) (hl:vs.length=ps.length) (r:zI vs us)
  (x:InCallC s s.heap.objs.size (bindL (envOfC qual scope s.heap.objs.size f cd).kindOf (ps.zip us) λ_=>none) (cellsFrom (s.heap.objs.size+1) scope.names []) (bindC (envOfC qual scope s.heap.objs.size f cd).kindOf (ps.zip us) λ_=>none) s1) :
  Inv (qca CX P w K mg base N qual scope f cd A outer s H E) [] (start N vs) H s1:=by
 have hpl:ps.length<=N.length:=by have:=congrArg List.length S.pre;rw [List.length_take] at this;omega
 obtain ⟨h1,tk,rfl,hk⟩:=x.done;have noA:∀ b:Addr,b∉(qca CX P w K mg base N qual scope f cd A outer s H E).ex:=λb z=>absurd (show b∈([]:List Addr) from z) (by simp);refine ⟨⟨e0.mod,S.kind,rfl,rfl,Nat.le_refl _,λy z c h1 h2=>?_,λy hy=>?_,λy c _ h=>?_,λ_=>hd,Around.frames_deeper e0.frames,.inr ⟨rfl,rfl⟩,λb z=>absurd z (noA b),e0.bs,e0.bsz,λb _ _=>noA b,λb z=>absurd z (noA b),e0.funs,e0.frf⟩,
  rfl,e0.bare,Un.kept hk,⟨_,x.toInCall.ns,λi y v h1 h2 h3=>?_⟩,λy c h=>⟨_,x.cell y c h⟩,e0.hok.fresh (Nat.le_refl _),λy c h=>?_,λp hp=>absurd (show p∈([]:List (Addr×Obj)) from hp) (by simp),e0.hok.kept hk,?_⟩
 ·exact name_of_addr x.apart (PySem.mem_of_lookup h1) (PySem.mem_of_lookup h2)
 ·have hy:scope.names.lookup y=some .cell\/scope.names.lookup y=some .free:=hy;rcases hy with hy|hy
  ·exact L6 hy
  ·exact absurd rfl (S.nofree _ (PySem.mem_of_lookup hy))
 ·exact Nat.le_of_lt (x.above y c (PySem.mem_of_lookup h))
 ·have hi:i<vs.length:=by
   unfold start at h2;by_cases hi:i<vs.length
   ·exact hi
   ·rw [List.getElem?_append_right (by simpa using hi)] at h2;rw [List.getElem?_replicate] at h2;split at h2<;>cases h2
  have ha:vs[i]?=some v:=by
   unfold start at h2;rw [List.getElem?_append_left (by simpa using hi),getElem?_map] at h2;cases e:vs[i]? with
   |none=>rw [e] at h2;cases h2
   |some a=>rw [e] at h2;cases h2;rfl
  obtain ⟨u,hu,rv⟩:=r.get ha;have hp:ps[i]?=some y:=by
   rw [← S.pre,List.getElem?_take_of_lt (by omega)];exact h1
  have ndP:ps.Nodup:=by rw [← S.pre];exact S.nd.sublist (List.take_sublist _ _)
  refine ⟨u,rv,?_⟩;rcases S.par y (mem_of_getElem? hp) with k|k
  ·exact .inl ⟨k,RD ndP hp hu k⟩
  ·obtain ⟨c,e⟩:=L6 (n:=s.heap.objs.size+1) k;refine .inr ⟨.inl k,c,e,?_⟩;have q:=x.cell y c e;rw [RU ndP hp hu (by show scope.names.lookup y≠_;rw [k];decide)] at q;exact q
 ·exact e0.hok.fresh (Nat.le_of_lt (x.above y c (PySem.mem_of_lookup h)))
 ·unfold start;show _=N.length;rw [length_append,length_map,List.length_replicate];omega
def qoI {CX:CXT} {P:Program} {w:World} {K:Frg} {mg:Str->Option Value} {base:Heap} {k:Nat} {f:Addr} {name qual:Str} {params:Arguments} {body:List Stmt} {scope:Scope} {dV kV doc pm cdv ct oc:Value} {an od:Option Addr}
  {osl:Array (Option Value)} {N ps:List Str} {sp:Sp} (lk:K.lookup f=some ⟨oc,od,.func (PySem.W.fnOf name qual params body scope dV kV doc pm an cdv ct),osl⟩) (hcd:PySem.W.codeIn K cdv qual=true) (S:FnScope N ps scope)
  (len:∀ vs H Q E,sp vs H Q E->vs.length=ps.length)
  (hbody:∀ (A:Around) (outer:List Env) (s:Shared) (H:Hp) (vs:List V) (Q:VK) (E:XK),Room k (A.deeper (envOfC qual scope s.heap.objs.size f cdv))->sp vs H Q E ->
   ∃ t,PSs (qca CX P w K mg base N qual scope f cdv A outer s H E) body t/\t { nx:=λ_ H'=>Q .non H',rt:=Q } (start N vs) H) :
  FnOk P w K mg base CX (k+1) f (PySem.W.fnOf name qual params body scope dV kV doc pm an cdv ct) ps sp:=by
 refine ⟨len,λA outer s H args us vs Q E hr e0 hb r hsp=>?_⟩;have hl:=len _ _ _ _ hsp;have KX:K.In s.heap:=e0.mod.kin.keeps λb o e=>(e0.bs b o e).1;have lim:s.heap.NoLimit:=e0.mod.nolimit.keeps λb o e=>(e0.bs b o e).1;have hkind:∀ y∈ps.zip us,scope.names.lookup y.1=some .local\/(scope.names.lookup y.1=some .cell/\((cellsFrom (s.heap.objs.size+1) scope.names []).lookup y.1).isSome=true):=λ⟨n,v⟩ hy=>by
  rcases S.par n (List.of_mem_zip hy).1 with q|q
  ·exact .inl q
  ·exact .inr ⟨q,PySem.W.cellsFrom_some _ _ _ (.inl q)⟩
 refine codeAny_call_function hr.depth (KX _ _ lk) rfl S.co S.gen rfl (PySem.W.codeRec_of KX hcd) (hb _ _ _ _ ?_);refine wpAny_newFunctionEnv_cells S.kind hkind λenv he s1 x=>?_;subst he;refine ⟨lim.keeps x.toInCall.keep,codeAny_func ?_⟩;obtain ⟨t,ht,hq⟩:=hbody A outer s H vs Q E (hr.deeper _) hsp;have I:Inv (qca CX P w K mg base N qual scope f cdv A outer s H E) [] (start N vs) H s1:=qaL S hr.hd e0 hl r x;refine wpAny_mono (ht [] s1 (start N vs) H _ I hq) (λfl s' hs=>?_) λe s' hs=>hs;have fin:∀ {σ':St} {H':Hp} {v:V} {u:Value},Inv (qca CX P w K mg base N qual scope f cdv A outer s H E) [] σ' H' s'->ja v u->Q v H'->CE outer P w H s Q u s':=
  λ{σ' H' v u} J rv q=>⟨v,H',J.os,J.bare,J.base,J.hok,rv,q⟩
 cases fl with
 |ret u=>
  obtain ⟨v,σ',H',J,rv,q⟩:=hs;exact fin J rv q
 |next=>
  obtain ⟨σ',H',J,q⟩:=hs;exact fin (v:=V.non) (u:=Value.none) J rfl q
 |brk=>
  obtain ⟨_,_,_,q⟩:=hs;exact False.elim q
 |cont=>
  obtain ⟨_,_,_,q⟩:=hs;exact False.elim q
section
variable {X:Cx} {x:Str} {p pos:Pos} {e:Expr} {es:List Expr} {t:TA} {id T:String} {r:List V->Hp->VK->Prop}
def tCB (r:List V->Hp->VK->Prop) (t:TA):TE:=λσ H Q=>t σ H λvs H1=>r vs H1 Q
def E6 (hc:QL X (.builtin id) r) (hg:Gl X x) (hm:X.mg x=none) (hv:bootBuiltins x=some (.builtin id)) (ha:PA X (e::es) t) (hn:x≠"__name__" := by decide) (hdb:(x==("__debug__" : Str))=false:=by decide)
  (he:starEach (e::es) X.env=(false,eval e X.env)::starEach es X.env:=by rfl) (hpl:(backTo pos (starEach es X.env)).any (·.1)=false:=by rfl):PE X (.Call (.Name x p) (e::es) [] pos) (tCB r t):=by
 intro pins s σ H Q I h;refine wpAny_Call_Name_kw (V7 I hg hm hv ?_ hn hdb);exact PyProof.Rows.callWith_builtin1 (thn (ha pos pins s σ H _ I h) λus s1 ⟨vs,H1,I1,r1,q1⟩=>hc pins s1 σ H1 vs us Q I1 r1 q1) he hpl
def RF (hc:QL X (.type T) r) (hg:Gl X x) (hm:X.mg x=none) (hv:bootBuiltins x=some (.type T)) (ha:PA X (e::es) t) (hn:x≠"__name__" := by decide) (hdb:(x==("__debug__" : Str))=false:=by decide)
  (he:starEach (e::es) X.env=(false,eval e X.env)::starEach es X.env:=by rfl) (hpl:(backTo pos (starEach es X.env)).any (·.1)=false:=by rfl):PE X (.Call (.Name x p) (e::es) [] pos) (tCB r t):=by
 intro pins s σ H Q I h;refine wpAny_Call_Name_kw (V7 I hg hm hv ?_ hn hdb);exact PyProof.Rows.callWith_type1 (thn (ha pos pins s σ H _ I h) λus s1 ⟨vs,H1,I1,r1,q1⟩=>hc pins s1 σ H1 vs us Q I1 r1 q1) he hpl
end
end L2
namespace HT
open PySem PyProof.Rows
section
open PySem.SeqAt
open PySem.MeetsSeq PySem.MeetsSeq2 PySem.MeetsSeq3
end
section
variable {prog:Program} {w:World} {A:Around} {E:Value->Shared->Prop} {s:Shared}
def qhm {t b:Addr} {vs ws:List Value} {Q:Value->Shared->Prop} (ht:IsTup s.heap t vs.toArray) (hb:IsTup s.heap b ws.toArray) (hv:vs≠[])
  (h1:ws=[]->Q (.ref t) s) (h2:ws≠[]->Q (.ref s.heap.objs.size) { s with heap:=s.heap.push { cls:=.type "tuple",data:=.seq (vs++ws).toArray } })
  (hsz:vs.length+ws.length<=sizeLine):wpAny (model prog w) A (binaryOp .Add (.ref t) (.ref b)) Q E s:=by
 obtain ⟨⟨cls,dd,data,sl⟩,ho,hc,n,hd⟩:=id ht;obtain ⟨⟨cls2,dd2,data2,sl2⟩,ho2,hc2,n2,hd2⟩:=id hb;simp only at hc hd hc2 hd2;subst hc hd hc2 hd2;have e:vs.toArray++ws.toArray=(vs++ws).toArray:=by simp
 by_cases hw:ws=[]
 ·exact concat_meets ⟨_,ho,rfl⟩ ⟨_,ho2,rfl⟩ noFill_tuple_add seq_tuple_add PySem.F.slot_tuple_add PySem.F.entry_tuple_add (PySem.F.args_tuple_add_2 _ _)
   (tuple_addW1 t b vs.toArray ws.toArray n n2 dd dd2 sl sl2 (by simpa using hv) (by simp [hw])) ⟨ho,ho2,h1 hw⟩
 ·refine concat_meets ⟨_,ho,rfl⟩ ⟨_,ho2,rfl⟩ noFill_tuple_add seq_tuple_add PySem.F.slot_tuple_add PySem.F.entry_tuple_add (PySem.F.args_tuple_add_2 _ _)
   (tuple_addW2 t b vs.toArray ws.toArray n n2 dd dd2 sl sl2 (by simpa using hv) (by simpa using hw) (by rw [size_toArray,size_toArray];exact hsz)) ⟨ho,ho2,?_⟩
  rw [e];exact h2 hw
def sIx (n d:Nat):Option Int->Nat
 |none=>d
 |some v=>if v<0 then (v+(n:Int)).toNat else min v.toNat n
def qgL (n d k:Nat):sIx n d (some (k:Int))=min k n:=by
 show (if (k:Int)<0 then ((k:Int)+(n:Int)).toNat else min (k:Int).toNat n)=min k n;rw [if_neg (by omega),Int.toNat_natCast]
def qkN (n d:Nat) (hd:d<=n) (o:Option Int):sIx n d o<=n:=by
 cases o with
 |none=>exact hd
 |some v=>
  show (if v<0 then (v+(n:Int)).toNat else min v.toNat n)<=n;by_cases hv:v<0
  ·rw [if_pos hv];omega
  ·rw [if_neg hv];exact Nat.min_le_right _ _
def qbI (v:Int) (n d:Nat):(if v<0 then max (v+(n:Int)) 0 else min v (n:Int))=((sIx n d (some v):Nat):Int):=by
 show (if v<0 then max (v+(n:Int)) 0 else min v (n:Int))=(((if v<0 then (v+(n:Int)).toNat else min v.toNat n):Nat):Int);by_cases hv:v<0
 ·simp only [if_pos hv];omega
 ·simp only [if_neg hv];omega
def M1 (lo hi:Option Int) (n:Nat):Builtin.Slice.sliceAdjust lo hi 1 (n:Int)=(((sIx n 0 lo:Nat):Int),((sIx n n hi:Nat):Int)):=by
 have h1:¬ ((1:Int)<0):=by omega
 unfold Builtin.Slice.sliceAdjust;simp only [h1,if_false];refine Prod.ext ?_ ?_
 ·cases lo with
  |none=>rfl
  |some v=>exact qbI v n 0
 ·cases hi with
  |none=>rfl
  |some v=>exact qbI v n n
def M3 (i j:Nat):Builtin.Slice.slicePlaces (i:Int) (j:Int) 1=j-i:=by
 unfold Builtin.Slice.slicePlaces;have h1:(1:Int) > 0:=by omega
 simp only [h1,if_true,Int.ediv_one];split<;>omega
def XF {v:Value} {o:Option Int} {Q:Option Int->Shared->Prop} (p:IsPart v o) (h:Q o s):wpAny (model prog w) A (Builtin.Slice.slicePartIndex v) Q E s:=by
 cases p with
 |none=>exact slicePart_none h
 |int i t=>exact slicePart_int h
def EO {sl:Addr} {vl vu:Value} {lo hi:Option Int} {n:Nat} {Q:Int×Int×Nat->Shared->Prop} (hs:s.heap.IsSliceOf sl vl vu .none) (pl:IsPart vl lo) (pu:IsPart vu hi)
  (h:Q (((sIx n 0 lo:Nat):Int),1,sIx n n hi-sIx n 0 lo) s):wpAny (model prog w) A (Builtin.Slice.sliceApplied (.ref sl) (pure (n:Int))) Q E s:=by
 obtain ⟨os,hos,hcs,hds⟩:=id hs;unfold Builtin.Slice.sliceApplied Builtin.Slice.sliceFields;refine wpAny_bind (wpAny_bind (wpAny_field hos hds (x:=vl) rfl (wpAny_bind (wpAny_field hos hds (x:=vu) rfl (wpAny_bind (wpAny_field hos hds (x:=.none) rfl (wpAny_pure ?_)))))));refine wpAny_bind (slicePart_none ?_);show wpAny _ _ (if ((1:Int)==0)=true then _ else _) _ _ s;rw [if_neg (by decide)];refine wpAny_bind (XF pl (wpAny_bind (XF pu (wpAny_bind (wpAny_pure ?_)))));show wpAny _ _ (match Builtin.Slice.sliceAdjust lo hi 1 (n:Int) with|(lo,hi)=>pure (lo,(1:Int),Builtin.Slice.slicePlaces lo hi 1)) _ _ s;rw [M1 lo hi n];show wpAny _ _ (pure (((sIx n 0 lo:Nat):Int),(1:Int),Builtin.Slice.slicePlaces ((sIx n 0 lo:Nat):Int) ((sIx n n hi:Nat):Int) 1)) _ _ s;rw [M3];exact wpAny_pure h
def qcy (xs:Array Value) (i k:Nat):((List.range k).filterMap λ(m:Nat)=>xs[((i:Int)+(m:Int)*1).toNat]?).toArray=((xs.toList.drop i).take k).toArray:=by
 have e:(λ(m:Nat)=>xs[((i:Int)+(m:Int)*1).toNat]?)=λm=>xs[i+m]?:=by
  funext m;have:((i:Int)+(m:Int)*1).toNat=i+m:=by omega
  rw [this]
 rw [e];have:=pick_run xs i k;rw [List.filterMap_map] at this;have e2:((λx=>xs[x]?)∘λx=>i+x)=λm=>xs[i+m]?:=rfl;rw [e2] at this;rw [this]
def UR {t sl:Addr} {items:Array Value} {vl vu:Value} {lo hi:Option Int} {Q:Value->Shared->Prop} (ht:IsTup s.heap t items) (hs:s.heap.IsSliceOf sl vl vu .none) (pl:IsPart vl lo) (pu:IsPart vu hi)
  (hw:¬ (sIx items.size 0 lo=0/\sIx items.size items.size hi=items.size))
  (h:Q (.ref s.heap.objs.size) { s with heap:=s.heap.push { cls:=.type "tuple",data:=.seq ((items.toList.drop (sIx items.size 0 lo)).take (sIx items.size items.size hi-sIx items.size 0 lo)).toArray } })
  (hsz:items.size<=sizeLine):wpAny (model prog w) A (getItem (.ref t) (.ref sl)) Q E s:=by
 have htake:sizeOk (.seq ((items.toList.drop (sIx items.size 0 lo)).take (sIx items.size items.size hi-sIx items.size 0 lo)).toArray):=by
  show ((items.toList.drop (sIx items.size 0 lo)).take (sIx items.size items.size hi-sIx items.size 0 lo)).toArray.size<=sizeLine;rw [size_toArray,List.length_take,List.length_drop,Array.length_toList];omega
 have hj:sIx items.size items.size hi<=items.size:=qkN _ _ (Nat.le_refl _) hi;obtain ⟨os,hos,hcs,hds⟩:=id hs;have hTs:s.TypeIs (.ref sl) "slice" := ⟨os,hos,hcs⟩
 unfold getItem
 try with_reducible refine wpAny_holding ?_
 first|refine wpAny_bind (wpAny_pure ?_)|skip
 refine wpAny_bind (wpAny_sequenceKey ht.typeIs (by decide) ?_);refine wpAny_bind (wpAny_callSpecial?_slot (name:=Str.ofString "__getitem__") ht.typeIs PyProof.Rows.slot_tuple_getitem
  (wpAny_call_entry PyProof.Rows.slot_tuple_getitem ht.typeIs entry_tuple_getitem ?_ (args_tuple_getitem _ _)))
 show wpAny _ _ (Builtin.Tuple.tupleItemsOf (.ref t) >>= _) _ _ s;refine wpAny_bind (tupleItemsOf_ ht ?_);refine wpAny_bind (wpAny_typeOf hTs ?_);rw [if_pos (by decide)];refine wpAny_bind (EO hs pl pu ?_);have hno:¬ ((((sIx items.size 0 lo:Nat):Int)==0&&(1:Int)==1&&(sIx items.size items.size hi-sIx items.size 0 lo)==items.size)=true):=by
  intro q;rw [Bool.and_eq_true,Bool.and_eq_true] at q;have q1:((sIx items.size 0 lo:Nat):Int)=0:=eq_of_beq q.1.1;have q2:sIx items.size items.size hi-sIx items.size 0 lo=items.size:=eq_of_beq q.2;exact hw ⟨by omega,by omega⟩
 show wpAny _ _ (if (((sIx items.size 0 lo:Nat):Int)==0&&(1:Int)==1&&(sIx items.size items.size hi-sIx items.size 0 lo)==items.size)=true then _ else _) _ _ s;rw [if_neg hno,qcy]
 first
  |exact wpAny_bind (m:=Builtin.Tuple.tupleExact _) (wpAny_newObj_type (wpAny_pure ⟨_,rfl,wpAny_pure h⟩) htake)
  |exact wpAny_bind (m:=Builtin.Tuple.tupleExact _) (wpAny_newObj_type (wpAny_bind (wpAny_pure (wpAny_pure ⟨_,rfl,wpAny_pure h⟩))) htake)
  |exact wpAny_bind (wpAny_bind (m:=Builtin.Tuple.tupleExact _) (wpAny_newObj_type (wpAny_pure (wpAny_pure ⟨_,rfl,wpAny_pure h⟩)) htake))
  |exact wpAny_bind (wpAny_bind (m:=Builtin.Tuple.tupleExact _) (wpAny_newObj_type (wpAny_pure ⟨_,rfl,wpAny_pure h⟩) htake))
end
end HT
namespace L2
open PySem PySem.Spec PyProof.Rows
abbrev TO:=St->Hp->(Option Int->Hp->Prop)->Prop
def PO (X:Cx) (e:Option Expr) (t:TO):Prop:=
 ∀ (pins:List (Addr×Obj)) (s:Shared) (σ:St) (H:Hp) (Q:Option Int->Hp->Prop),Inv X pins σ H s->t σ H Q ->
  wpAny (model X.prog X.w) X.A (evalPart e X.env) (λu s'=>∃ o H',Inv X pins σ H' s'/\IsPart u o/\Q o H') X.xe s
def qgl:TO:=λ_ H Q=>Q none H
def qmY (t:TE):TO:=λσ H Q=>t σ H λx H1=>∃ i,x=.int i/\Q (some i) H1
section
variable {X:Cx} {e:Expr} {te:TE} {lo hi:Option Expr} {tl th:TO} {pos p2:Pos}
def qgA:PO X none qgl:=by
 intro pins s σ H Q I h;rw [evalPart_none];exact wpAny_pure ⟨none,H,I,.none,h⟩
def qhf (h:PE X e te):PO X (some e) (qmY te):=by
 intro pins s σ H Q I hw;rw [evalPart_some];refine thn (h pins s σ H _ I hw) λu s1 ⟨x,H1,I1,r1,q1⟩=>?_;obtain ⟨i,rfl,q⟩:=q1;obtain ⟨t,rfl⟩:=r1;exact ⟨some i,H1,I1,.int i t,q⟩
def SlR (X:Cx) (r:V->Option Int->Option Int->Hp->VK->Prop):Prop:=
 ∀ (pins:List (Addr×Obj)) (s:Shared) (σ:St) (H:Hp) (x:V) (v vl vu:Value) (lo hi:Option Int) (sl:Addr) (Q:VK),Inv X pins σ H s->ja x v->s.heap.IsSliceOf sl vl vu .none->IsPart vl lo->IsPart vu hi->r x lo hi H Q ->
  ∃ T id,typeLookup (.type T) "__getitem__" = pure (some (.builtin id))/\s.TypeIs v T/\wpAny (model X.prog X.w) X.A (getItem v (.ref sl)) (EP X pins σ Q) X.xe s
def SlR.or {r r':V->Option Int->Option Int->Hp->VK->Prop} (h:SlR X r) (h':SlR X r'):SlR X (λx lo hi H Q=>r x lo hi H Q\/r' x lo hi H Q):=by
 intro pins s σ H x v vl vu lo hi sl Q I rx hs pl pu q;rcases q with q|q
 ·exact h pins s σ H x v vl vu lo hi sl Q I rx hs pl pu q
 ·exact h' pins s σ H x v vl vu lo hi sl Q I rx hs pl pu q
def tSl (r:V->Option Int->Option Int->Hp->VK->Prop) (te:TE) (tl th:TO):TE:=λσ H Q=>te σ H λx H1=>tl σ H1 λl H2=>th σ H2 λu H3=>r x l u H3 Q
def qdf {r:V->Option Int->Option Int->Hp->VK->Prop} (hr:SlR X r) (he:PE X e te) (hl:PO X lo tl) (hu:PO X hi th):PE X (.Subscript e (.Slice lo hi none p2) pos) (tSl r te tl th):=by
 intro pins s σ H Q I h;refine Subscript_ (thn (he pins s σ H _ I h) λv s1 ⟨x,H1,I1,r1,q1⟩=>?_);refine wpAny_Slice (thn (hl pins s1 σ H1 _ I1 q1) λvl s2 ⟨l,H2,I2,pl,q2⟩=>thn (hu pins s2 σ H2 _ I2 q2) λvu s3 ⟨u,H3,I3,pu,q3⟩=>?_);rw [evalPart_none];refine wpAny_pure ?_;have I4:Inv X pins σ H3 { s3 with heap:=s3.heap.push { cls:=.type "slice",data:=.fields #[vl,vu,.none] } }:=I3.kept (t':=s3.toks) λb ob q=>Heap.get?_push_of_some _ q;obtain ⟨T,id,hT,ht,hg⟩:=hr pins { s3 with heap:=s3.heap.push { cls:=.type "slice",data:=.fields #[vl,vu,.none] } } σ H3 x v vl vu l u s3.heap.objs.size Q I4 r1 (Heap.IsSliceOf.new ..) pl pu q3;show wpAny (model X.prog X.w) X.A (subscriptTail e (.Slice lo hi none p2) v (.ref s3.heap.objs.size)) (EP X pins σ Q) X.xe { s3 with heap:=s3.heap.push { cls:=.type "slice",data:=.fields #[vl,vu,.none] } };exact tail_any (ops:=[.ref s3.heap.objs.size,v]) ht hT hg (by with_unfolding_all rfl)
def qei (xs:List V) (lo hi:Option Int):List V:=(xs.drop (HT.sIx xs.length 0 lo)).take (HT.sIx xs.length xs.length hi-HT.sIx xs.length 0 lo)
def DY (xs:List V) (lo hi:Option Int):(qei xs lo hi).length<=xs.length:=by
 unfold qei;rw [List.length_take,List.length_drop];omega
def qpG (K:Frg):V->Option Int->Option Int->Hp->VK->Prop:=λx lo hi H Q=>∃ a xs,x=.ref a/\SqT K H a xs /\
 ¬ (HT.sIx xs.length 0 lo=0/\HT.sIx xs.length xs.length hi=xs.length)/\∀ p,H p=none->Q (.ref p) (upd H p (.tup (qei xs lo hi)))
def qjn:SlR X (qpG X.K):=by
 intro pins s σ H x v vl vu lo hi sl Q I rx hs pl pu h;obtain ⟨a,xs,rfl,hx,hw,q⟩:=h;cases rx;obtain ⟨its,r,ht,hz⟩:=I.tuple hx;have hlen:its.toArray.size=xs.length:=by rw [size_toArray];exact r.length.symm
 refine ⟨"tuple",_,PyProof.Rows.slot_tuple_getitem.lookup,ht.typeIs,?_⟩;refine HT.UR ht hs pl pu (by rw [hlen];exact hw) ?_ (by rw [hlen];exact hz);rw [hlen];refine ⟨.ref s.heap.objs.size,_,I.laid (t':=s.toks) (o:=.tup (qei xs lo hi)) (λb ob q=>Heap.get?_push_of_some _ q) (Nat.le_refl _) ?_,rfl,q _ (I.hok.fresh (Nat.le_refl _))⟩;exact ⟨Nat.le_trans (DY xs lo hi) hz,_,(r.drop (HT.sIx xs.length 0 lo)).take (HT.sIx xs.length xs.length hi-HT.sIx xs.length 0 lo),IsTup.new _ _⟩
def qjh (K:Frg):R2:=λx y H Q=>∃ a b xs ys,x=.ref a/\y=.ref b/\SqT K H a xs/\SqT K H b ys/\xs≠[]/\xs.length+ys.length<=sizeLine /\
 (ys=[]->Q (.ref a) H)/\(ys≠[]->∀ p,H p=none->Q (.ref p) (upd H p (.tup (xs++ys))))
def zI.nil_iff {xs:List V} {us:List Value} (r:zI xs us):us=[]↔xs=[]:=by
 cases r with
 |nil=>simp
 |cons _ _=>simp
def qhq:OpR X (binaryOp .Add) (qjh X.K):=by
 intro pins s σ H x y v u Q I rx ry h;obtain ⟨a,b,xs,ys,rfl,rfl,ha,hb,hx,hz,q1,q2⟩:=h;cases rx;cases ry;obtain ⟨its,r1,p1,_⟩:=I.tuple ha;obtain ⟨its2,r2,p2,_⟩:=I.tuple hb;refine HT.qhm p1 p2 (λz=>hx (r1.nil_iff.mp z)) (λz=>⟨.ref a,H,I,rfl,q1 (r2.nil_iff.mp z)⟩) (λz=>?_) (by rw [← r1.length,← r2.length];exact hz);refine ⟨.ref s.heap.objs.size,_,I.laid (t':=s.toks) (o:=.tup (xs++ys)) (λb ob q=>Heap.get?_push_of_some _ q) (Nat.le_refl _) ?_,rfl,q2 (λw=>z (r2.nil_iff.mpr w)) _ (I.hok.fresh (Nat.le_refl _))⟩;exact ⟨by rw [length_append];exact hz,_,r1.append r2,IsTup.new _ _⟩
end
def ixN (n:Nat) (i:Int):Option Nat:=if 0<=i then (if i<n then some i.toNat else none) else if -(n:Int)<=i then some (i+n).toNat else none
def atI {α:Type} (xs:List α) (i:Int):Option α:=(ixN xs.length i).bind λj=>xs[j]?
def qaI {n:Nat} {i:Int} {j:Nat} (h:ixN n i=some j):seqIndex? i n=some j/\j<n/\-(n:Int)<=i/\i<n:=by
 unfold ixN at h;by_cases h0:0<=i
 ·rw [if_pos h0] at h;by_cases h1:i<n
  ·rw [if_pos h1] at h;have e:i.toNat=j:=Option.some.inj h;exact ⟨by rw [seqIndex_of h0 h1,e],by omega,by omega,h1⟩
  ·rw [if_neg h1] at h;cases h
 ·rw [if_neg h0] at h;by_cases h1:-(n:Int)<=i
  ·rw [if_pos h1] at h;have e:(i+n).toNat=j:=Option.some.inj h;exact ⟨by rw [seqIndex_neg (by omega) h1,e],by omega,h1,by omega⟩
  ·rw [if_neg h1] at h;cases h
def T9 {α:Type} {xs:List α} {i:Int} {v:α} (h:atI xs i=some v):∃ j,seqIndex? i xs.length=some j/\xs[j]?=some v/\j<xs.length/\-(xs.length:Int)<=i/\i<xs.length:=by
 unfold atI at h;cases e:ixN xs.length i with
 |none=>rw [e] at h;cases h
 |some j=>
  rw [e] at h;obtain ⟨h1,h2,h3,h4⟩:=qaI e;exact ⟨j,h1,h,h2,h3,h4⟩
def UN (b:Expr):Prop:=∀ o i,subscripted b false o i=operate [o,i] (getItem o i)
def IxR (X:Cx) (r:R2):Prop:=
 ∀ (value slice:Expr) (pins:List (Addr×Obj)) (s:Shared) (σ:St) (H:Hp) (x y:V) (v u:Value) (Q:VK),Inv X pins σ H s->ja x v->ja y u->r x y H Q ->
  subscripted slice false v u=operate [v,u] (getItem v u)->wpAny (model X.prog X.w) X.A (subscriptTail value slice v u) (EP X pins σ Q) X.xe s
def MtR (X:Cx) (id:String) (r:V->List V->Hp->VK->Prop):Prop:=
 ∀ (pins:List (Addr×Obj)) (s:Shared) (σ:St) (H:Hp) (x:V) (xs:List V) (v:Value) (us:List Value) (Q:VK),Inv X pins σ H s->ja x v->zI xs us->r x xs H Q ->
  wpAny (model X.prog X.w) X.A (call (.builtin id) (v::us)) (EP X pins σ Q) X.xe s
section
variable {X:Cx} {a b:Expr} {ta tb:TE} {pos:Pos}
def IxR.or {r r':R2} (h:IxR X r) (h':IxR X r'):IxR X (λx y H Q=>r x y H Q\/r' x y H Q):=by
 intro value slice pins s σ H x y v u Q I rx ry q hs;rcases q with q|q
 ·exact h value slice pins s σ H x y v u Q I rx ry q hs
 ·exact h' value slice pins s σ H x y v u Q I rx ry q hs
def qkk {r:R2} (hr:IxR X r) (ha:PE X a ta) (hb:PE X b tb) (hs:UN b):PE X (.Subscript a b pos) (tOp r ta tb):=by
 intro pins s σ H Q I h;exact Subscript_ (qoF ha hb I h λv u s2 x y H2 I2 rx ry q=>hr a b pins s2 σ H2 x y v u Q I2 rx ry q (hs _ _))
def qoP (K:Frg):R2:=λx y H Q=>∃ p xs i v,x=.ref p/\y=.int i/\SqL K H p xs/\atI xs i=some v/\Q v H
def qo1 (K:Frg):R2:=λx y H Q=>∃ p xs i v,x=.ref p/\y=.int i/\SqT K H p xs/\atI xs i=some v/\Q v H
def qoR:R2:=λx y H Q=>∃ z i c,x=.str z/\y=.int i/\z.length<=sizeLine/\atI z.cps.toList i=some c/\Q (.str ⟨#[c]⟩) H
def qf6:IxR X (qoP X.K):=by
 intro value slice pins s σ H x y v u Q I rx ry h hs;obtain ⟨p,xs,i,z,rfl,rfl,hq,he,q⟩:=h;cases rx;obtain ⟨t,rfl⟩:=ry;obtain ⟨its,r,pl,hz⟩:=I.list hq;obtain ⟨j,h1,h2,h3,h4,h5⟩:=T9 he;obtain ⟨w,ew,rw'⟩:=r.get h2;have hl:=r.length;have hn:=RN;have fin:EP X pins σ Q w s:=⟨z,H,I,rw',q⟩
 by_cases h0:0<=i
 ·have hj:i.toNat=j:=by
   rw [seqIndex_of h0 h5] at h1;exact Option.some.inj h1
  exact item_listR pl.isList h0 (by omega) (by rw [hj];simpa using ew) fin hs
 ·have hj:(i+(its.toArray.size:Int)).toNat=j:=by
   rw [seqIndex_neg (by omega) h4] at h1;rw [size_toArray,← hl];exact Option.some.inj h1
  exact subscriptTail_builtinR (x:=w) pl.isList.typeIs slot_list_getitem.lookup
   (wpAny_getItem_list_neg (Q:=λr s'=>r=w/\EP X pins σ Q r s') pl.isList (by omega) (by rw [size_toArray]<;>omega) (by omega) (by rw [hj];simpa using ew) ⟨rfl,fin⟩) hs
def qlY:IxR X (qo1 X.K):=by
 intro value slice pins s σ H x y v u Q I rx ry h hs;obtain ⟨p,xs,i,z,rfl,rfl,hq,he,q⟩:=h;cases rx;obtain ⟨t,rfl⟩:=ry;obtain ⟨its,r,pl,hz⟩:=I.tuple hq;obtain ⟨j,h1,h2,h3,h4,h5⟩:=T9 he;obtain ⟨w,ew,rw'⟩:=r.get h2;have hl:=r.length;have hn:=RN;have fin:EP X pins σ Q w s:=⟨z,H,I,rw',q⟩
 exact subscriptTail_builtinR (x:=w) pl.typeIs slot_tuple_getitem.lookup
  (getItem_tuple (j:=j) (Q:=λr s'=>r=w/\EP X pins σ Q r s') pl (by omega) (by omega) (by rw [size_toArray,← hl];exact h1) (by simpa using ew) ⟨rfl,fin⟩) hs
def qkW:IxR X qoR:=by
 intro value slice pins s σ H x y v u Q I rx ry h hs;obtain ⟨z,i,c,rfl,rfl,hz,he,q⟩:=h;obtain ⟨t,rfl⟩:=rx;obtain ⟨t',rfl⟩:=ry;obtain ⟨j,h1,h2,h3,h4,h5⟩:=T9 he;have hl:z.cps.toList.length=z.length:=by simp [Str.length]
 rw [hl] at h1 h4 h5;have hn:=RN;exact tail_any (typeIs_str s z t) slot_str_getitem.lookup (getItem_str (c:=c) (by
  have e1:decide (i < -(2 ^ 63:Int))=false:=decide_eq_false (by omega);have e2:decide (i ≥ 2 ^ 63)=false:=decide_eq_false (by omega);rw [e1,e2,Bool.or_false]) (by rw [h1];simpa using h2) ⟨.str ⟨#[c]⟩,H,I.tok _,⟨_,rfl⟩,q⟩) hs
def rIx (K:Frg):R2:=λx y H Q=>qoP K x y H Q\/qo1 K x y H Q\/qoR x y H Q
def qhY:IxR X (rIx X.K):=qf6.or (qlY.or qkW)
def M9 (its:List Value) (n j:Nat) (u:Value):Obj.mapSeq (·.setIfInBounds j u) { cls:=.type "list",data:=.seq its.toArray n }={ cls:=.type "list",data:=.seq (its.set j u).toArray n }:=by
 simp [Obj.mapSeq]
def Inv.lst {pins:List (Addr×Obj)} {σ:St} {H:Hp} {s:Shared} {p:Addr} {xs:List V} (I:Inv X pins σ H s) (h:H p=some (.lst xs)) :
  ∃ (its:List Value) (n:Nat),zI xs its/\s.heap.get? p=some { cls:=.type "list",data:=.seq its.toArray n }/\xs.length<=sizeLine:=by
 obtain ⟨z,its,n,r,e⟩:=I.hok p _ h;exact ⟨its,n,r,e,z⟩
def Inv.lstUpd {pins:List (Addr×Obj)} {σ:St} {H:Hp} {s:Shared} {p:Addr} {xs ys:List V} {its its':List Value} {n n':Nat} {f:Obj->Obj} (I:Inv X pins σ H s) (h:H p=some (.lst xs))
  (ho:s.heap.get? p=some { cls:=.type "list",data:=.seq its.toArray n }) (hf:f { cls:=.type "list",data:=.seq its.toArray n }={ cls:=.type "list",data:=.seq its'.toArray n' }) (r:zI ys its') (hz:ys.length<=sizeLine) (t:Nat) :
  Inv X pins σ (upd H p (.lst ys)) { s with heap:=s.heap.update p f,toks:=t }:=by
 have e:(s.heap.update p f).get? p=some { cls:=.type "list",data:=.seq its'.toArray n' }:=by
  rw [Heap.get?_update_self f ho (by rw [hf]<;>rfl),hf]
 refine I.write (x:=p) (e:=p) (by rw [h];trivial) (.inl rfl) (λb u hb q=>(Heap.get?_update_other _ _ (Ne.symm hb)).trans q) ⟨_,e⟩ ?_;exact ⟨hz,its',n',r,e⟩
def qm9:V->V->V->Hp->(Hp->Prop)->Prop:=λo i v H Q=>∃ p xs k j,o=.ref p/\i=.int k/\H p=some (.lst xs)/\ixN xs.length k=some j/\Q (upd H p (.lst (xs.set j v)))
def qcm:qe9 X qm9:=by
 intro pins s σ H o i v ov iv u Q I ro ri rv h;obtain ⟨p,xs,k,j,rfl,rfl,hp,hj,q⟩:=h;cases ro;obtain ⟨t,rfl⟩:=ri;obtain ⟨its,n,r,ho,hz⟩:=I.lst hp;obtain ⟨h1,h2,h3,h4⟩:=qaI hj;have hl:=r.length;have hn:=RN;have I':Inv X pins σ (upd H p (.lst (xs.set j v))) { s with heap:=s.heap.update p (Obj.mapSeq (·.setIfInBounds j u)) }:=
  I.lstUpd hp ho (M9 its n j u) (r.set rv j) (by rw [List.length_set];exact hz) s.toks
 by_cases h0:0<=k
 ·have hk:k.toNat=j:=by
   rw [seqIndex_of h0 h4] at h1;exact Option.some.inj h1
  exact PySem.W.ki_setAt ho h0 (by omega) (by rw [size_toArray,← hl];exact h4) (by rw [hk];exact ⟨_,I',q⟩)
 ·have hk:(k+(its.toArray.size:Int)).toNat=j:=by
   rw [seqIndex_neg (by omega) h3] at h1;rw [size_toArray,← hl];exact Option.some.inj h1
  exact PySem.W.ki_setBack ho (by omega) (by rw [size_toArray,← hl];exact h3) (by omega) (by rw [hk];exact ⟨_,I',q⟩)
def C8 (lo hi:Option Int) (n:Nat):(sliceBounds lo hi none n).1=((HT.sIx n 0 lo:Nat):Int)/\(sliceBounds lo hi none n).2.1=((HT.sIx n n hi:Nat):Int)/\(sliceBounds lo hi none n).2.2=1:=by
 refine ⟨?_,?_,rfl⟩
 ·cases lo with
  |none=>simp [sliceBounds,HT.sIx]
  |some i=>
   simp only [sliceBounds,HT.sIx,Option.getD_none,show (1:Int) > 0 by decide,if_true];by_cases h:i<0
   ·simp only [h,if_true]<;>omega
   ·simp only [h,if_false]<;>omega
 ·cases hi with
  |none=>simp [sliceBounds,HT.sIx]
  |some i=>
   simp only [sliceBounds,HT.sIx,Option.getD_none,show (1:Int) > 0 by decide,if_true];by_cases h:i<0
   ·simp only [h,if_true]<;>omega
   ·simp only [h,if_false]<;>omega
def X8 (its:List Value) (lo hi:Option Int):slicePick its.toArray lo hi none=((its.drop (HT.sIx its.length 0 lo)).take (HT.sIx its.length its.length hi-HT.sIx its.length 0 lo)).toArray:=by
 obtain ⟨h1,h2,h3⟩:=C8 lo hi its.toArray.size;unfold slicePick;rw [h1,h2,h3];simp only [sliceRange_one,pick_run,size_toArray]<;>rfl
def qpW (K:Frg):V->Option Int->Option Int->Hp->VK->Prop:=λx lo hi H Q=>∃ a xs,x=.ref a/\SqL K H a xs/\∀ p,H p=none->Q (.ref p) (upd H p (.lst (qei xs lo hi)))
def qf9:SlR X (qpW X.K):=by
 intro pins s σ H x v vl vu lo hi sl Q I rx hs pl pu h;obtain ⟨a,xs,rfl,hx,q⟩:=h;cases rx;obtain ⟨its,r,ht,hz⟩:=I.list hx;have hlen:=r.length;refine ⟨"list",_,slot_list_getitem.lookup,ht.isList.typeIs,?_⟩;refine wpAny_getItem_list_slice ht.isList hs pl pu .none (by simp) ?_ (by rw [size_toArray]<;>omega);rw [X8,← hlen];refine ⟨.ref s.heap.objs.size,_,I.laid (t':=s.toks) (o:=.lst (qei xs lo hi)) (λb ob q=>Heap.get?_push_of_some _ q) (Nat.le_refl _) ?_,rfl,q _ (I.hok.fresh (Nat.le_refl _))⟩;exact ⟨Nat.le_trans (DY xs lo hi) hz,_,0,(r.drop (HT.sIx xs.length 0 lo)).take (HT.sIx xs.length xs.length hi-HT.sIx xs.length 0 lo),Heap.get?_push_size _ rfl⟩
def WY:V->Bool
 |.non=>true
 |.bl _=>true
 |.int _=>true
 |.str _=>true
 |_=>false
def eqV:V->V->Bool
 |.non,.non=>true
 |.bl a,.bl b=>a==b
 |.bl a,.int b=>(if a then 1 else 0)==b
 |.int a,.bl b=>a==(if b then 1 else 0)
 |.int a,.int b=>a==b
 |.str a,.str b=>a==b
 |_,_=>false
def qh0 {A:Around} {s:Shared} {y x:V} {u v:Value} (ry:ja y u) (rx:ja x v) (fy:WY y=true) (fx:WY x=true):SeqAt.EqAt A s u v (eqV y x):=by
 cases y with
 |non=>
  cases ry;cases x with
  |non=>cases rx;exact SeqAt.EqAt.same _
  |bl b=>cases rx;exact SeqAt.EqAt.none_bool b
  |int b=>obtain ⟨t,rfl⟩:=rx;exact SeqAt.EqAt.none_int b t
  |str b=>obtain ⟨t,rfl⟩:=rx;exact SeqAt.EqAt.none_str b t
  |_=>exact absurd (show false=true from fx) Bool.false_ne_true
 |bl a=>
  cases ry;cases x with
  |non=>cases rx;exact SeqAt.EqAt.bool_none a
  |bl b=>cases rx;exact SeqAt.EqAt.bool_bool a b
  |int b=>obtain ⟨t,rfl⟩:=rx;exact SeqAt.EqAt.bool_int a b t
  |str b=>obtain ⟨t,rfl⟩:=rx;exact SeqAt.EqAt.bool_str a b t
  |_=>exact absurd (show false=true from fx) Bool.false_ne_true
 |int a=>
  obtain ⟨t',rfl⟩:=ry;cases x with
  |non=>cases rx;exact SeqAt.EqAt.int_none a t'
  |bl b=>cases rx;exact SeqAt.EqAt.int_bool a t' b
  |int b=>obtain ⟨t,rfl⟩:=rx;exact SeqAt.EqAt.int_int a t' b t
  |str b=>obtain ⟨t,rfl⟩:=rx;exact SeqAt.EqAt.int_str a t' b t
  |_=>exact absurd (show false=true from fx) Bool.false_ne_true
 |str a=>
  obtain ⟨t',rfl⟩:=ry;cases x with
  |non=>cases rx;exact SeqAt.EqAt.str_none a t'
  |bl b=>cases rx;exact SeqAt.EqAt.str_bool a t' b
  |int b=>obtain ⟨t,rfl⟩:=rx;exact SeqAt.EqAt.str_int a t' b t
  |str b=>obtain ⟨t,rfl⟩:=rx;exact SeqAt.EqAt.str_str a t' b t
  |_=>exact absurd (show false=true from fx) Bool.false_ne_true
 |_=>exact absurd (show false=true from fy) Bool.false_ne_true
def eqU (x:V) (u:Value):Bool:=match u with
 |.none=>eqV .non x
 |.bool b=>eqV (.bl b) x
 |.int i _=>eqV (.int i) x
 |.str z _=>eqV (.str z) x
 |_=>false
def qe2 {x y:V} {u:Value} (r:ja y u) (f:WY y=true):eqU x u=eqV y x:=by
 cases y with
 |non=>cases r;rfl
 |bl b=>cases r;rfl
 |int i=>obtain ⟨t,rfl⟩:=r;rfl
 |str z=>obtain ⟨t,rfl⟩:=r;rfl
 |_=>exact absurd (show false=true from f) Bool.false_ne_true
def T6 {x:V}:∀ {xs:List V} {us:List Value},zI xs us->xs.all WY=true->us.any (eqU x)=xs.any λy=>eqV y x
 |_,_,.nil,_=>rfl
 |y::xs,u::us,.cons r t,f=>by
  rw [List.all_cons,Bool.and_eq_true] at f;rw [List.any_cons,List.any_cons,qe2 r f.1,T6 t f.2]
def CO {A:Around} {s:Shared} {x:V} {v:Value} (rx:ja x v) (fx:WY x=true):∀ {xs:List V} {us:List Value},zI xs us->xs.all WY=true->∀ u∈us,SeqAt.EqAt A s u v (eqU x u)
 |_,_,.nil,_=>λu hu=>by cases hu
 |y::xs,u::us,.cons r t,f=>λu' hu=>by
  rw [List.all_cons,Bool.and_eq_true] at f;rcases mem_cons.mp hu with rfl|hu
  ·rw [qe2 r f.1];exact qh0 r rx f.1 fx
  ·exact CO rx fx t f.2 u' hu
def inV (x:V) (xs:List V):Bool:=xs.any λy=>eqV y x
def rIn (K:Frg) (neg:Bool):R2:=λx y H Q=>∃ p xs,y=.ref p/\(SqL K H p xs\/SqT K H p xs)/\WY x=true/\xs.all WY=true/\Q (.bl (if neg then !inV x xs else inV x xs)) H
def qaq:OpR X (compareOp .In) (rIn X.K false):=by
 intro pins s σ H x y v u Q I rx ry h;obtain ⟨p,xs,rfl,hq,fx,fs,q⟩:=h;cases ry;rcases hq with hq|hq
 ·obtain ⟨its,r,pl,hz⟩:=I.list hq;refine SeqAt.in_listAt (eqU x) pl.isList (λw hw=>CO rx fx r fs w (by simpa using hw)) ⟨.bl _,H,I,rfl,?_⟩;rw [show its.toArray.any (eqU x)=its.any (eqU x) by simp,T6 r fs];exact q
 ·obtain ⟨its,r,pl,hz⟩:=I.tuple hq;refine SeqAt.in_tupleAt (eqU x) pl (λw hw=>CO rx fx r fs w (by simpa using hw)) ⟨.bl _,H,I,rfl,?_⟩;rw [show its.toArray.any (eqU x)=its.any (eqU x) by simp,T6 r fs];exact q
def EK:QL X (.type "list") (λxs H Q=>∃ p ys,xs=[.ref p]/\(SqL X.K H p ys\/SqT X.K H p ys)/\∀ l,H l=none->Q (.ref l) (upd H l (.lst ys))):=by
 intro pins s σ H xs us Q I r h;obtain ⟨p,ys,rfl,hq,q⟩:=h;obtain ⟨u,rfl,rx⟩:=Y9 r;cases rx;have fin:∀ (its:List Value),zI ys its->ys.length<=sizeLine->∀ (h':Heap) (c':Nat),(∀ b o',s.heap.get? b=some o'->h'.get? b=some o') ->
   h'.get? s.heap.objs.size=some { cls:=.type "list",dict:=none,data:=.seq its.toArray c',slots:=#[] }->EP X pins σ Q (.ref s.heap.objs.size) { s with heap:=h' }:=λits r' hz h' c' kp e=>
  ⟨.ref s.heap.objs.size,_,I.laid (t':=s.toks) kp (Nat.le_refl _) (show VE X.prog X.w _ h' _ (.lst ys) from ⟨hz,its,c',r',e⟩),rfl,q _ (I.hok.fresh (Nat.le_refl _))⟩
 rcases hq with hq|hq
 ·obtain ⟨its,r',pl,hz⟩:=I.list hq;have hlen:=r'.length;obtain ⟨o,ho,hc,n,hd⟩:=pl.isList;exact call_list_seq p (.inl rfl) ho hc hd (λh' c' kp e=>fin its r' hz h' c' kp e) (by simp only [size_toArray]<;>omega)
 ·obtain ⟨its,r',pl,hz⟩:=I.tuple hq;have hlen:=r'.length;obtain ⟨o,ho,hc,n,hd⟩:=pl;exact call_list_seq p (.inr rfl) ho hc hd (λh' c' kp e=>fin its r' hz h' c' kp e) (by simp only [size_toArray]<;>omega)
def jh:QL X (.type "tuple") (λxs H Q=>∃ p ys,xs=[.ref p]/\((SqL X.K H p ys/\∀ l,H l=none->Q (.ref l) (upd H l (.tup ys)))\/(SqT X.K H p ys/\Q (.ref p) H))):=by
 intro pins s σ H xs us Q I r h;obtain ⟨p,ys,rfl,h⟩:=h;obtain ⟨u,rfl,rx⟩:=Y9 r;cases rx;rcases h with ⟨hq,q⟩|⟨hq,q⟩
 ·obtain ⟨its,r',pl,hz⟩:=I.list hq;have hlen:=r'.length;refine call_tuple_list pl.isList (λh' kp=>?_) (by simp only [size_toArray]<;>omega);have I1:Inv X pins σ H { s with heap:=h' }:=I.kept (t':=s.toks) kp;have I2:Inv X pins σ (upd H h'.objs.size (.tup ys)) { s with heap:=h'.push { cls:=.type "tuple",data:=.seq its.toArray } }:=
   I1.laid (t':=s.toks) (λb o e=>Heap.get?_push_of_some _ e) (Nat.le_refl _) (show VE X.prog X.w _ _ _ (.tup ys) from ⟨hz,its,r',IsTup.new _ _⟩)
  exact ⟨.ref h'.objs.size,_,I2,rfl,q _ (I1.hok.fresh (Nat.le_refl _))⟩
 ·obtain ⟨its,r',pl,hz⟩:=I.tuple hq;exact call_tuple_same pl ⟨.ref p,H,I,rfl,q⟩
def tyV (K:Frg) (T:String) (x:V) (H:Hp):Prop:=match x with
 |.str _=>T="str"
 |.int _=>T="int"
 |.ref p=>(T="list"/\∃ xs,SqL K H p xs)\/(T="tuple"/\∃ o,K.lookup p=some o/\o.cls=.type "tuple"/\o.dict=none) ∨
   (T="dict"/\((∃ kvs,H p=some (.dK kvs))\/∃ kvs,H p=some (.dT kvs)))\/(T="set"/\∃ S n,H p=some (.set S n))
 |_=>False
def qma {pins:List (Addr×Obj)} {σ:St} {H:Hp} {s:Shared} {T:String} {x:V} {v:Value} (I:Inv X pins σ H s) (r:ja x v) (ty:tyV X.K T x H) :
  s.TypeIs v T/\∀ a,v=.ref a->∃ ob,s.heap.get? a=some ob/\ob.dict=none:=by
 cases x with
 |str z=>
  obtain ⟨t,rfl⟩:=r;cases (show T="str" from ty);exact ⟨typeIs_str s z t,λ_ e=>nomatch e⟩
 |int i=>
  obtain ⟨t,rfl⟩:=r;cases (show T="int" from ty);exact ⟨typeIs_int s i t,λ_ e=>nomatch e⟩
 |ref p=>
  cases r;rcases ty with ⟨rfl,xs,hq⟩|⟨rfl,o,hk,hc,hd⟩|⟨rfl,hk⟩|⟨rfl,S,n,hk⟩
  ·obtain ⟨its,_,pl,_⟩:=I.list hq;refine ⟨pl.isList.typeIs,λa e=>?_⟩;cases e;obtain ⟨o,n,e,c,hd,_⟩:=pl;exact ⟨o,e,hd⟩
  ·refine ⟨⟨o,I.kIn p o hk,hc⟩,λa e=>?_⟩;cases e;exact ⟨o,I.kIn _ o hk,hd⟩
  ·have z:∃ o,s.heap.get? p=some o/\o.ExactDict:=by
    rcases hk with ⟨kvs,hk⟩|⟨kvs,hk⟩
    ·obtain ⟨_,_,_,_,o,_,_,e,ex,_⟩:=I.hok p _ hk;exact ⟨o,e,ex⟩
    ·obtain ⟨_,_,_,_,o,_,_,e,ex,_⟩:=I.hok p _ hk;exact ⟨o,e,ex⟩
   obtain ⟨o,e,ex⟩:=z;refine ⟨⟨o,e,ex.1⟩,λa e2=>?_⟩;cases e2;exact ⟨o,e,ex.2.1⟩
  ·obtain ⟨o,_,_,_,e,ex,_⟩:=I.hok p _ hk;refine ⟨⟨o,e,ex.1⟩,λa e2=>?_⟩;cases e2;exact ⟨o,e,ex.2.1⟩
 |_=>exact False.elim ty
def tBM (K:Frg) (T:String) (r:V->List V->Hp->VK->Prop) (to:TE) (t:TA):TE:=λσ H Q=>to σ H λx H1=>tyV K T x H1/\t σ H1 λxs H2=>r x xs H2 Q
variable {o e:Expr} {es:List Expr} {to:TE} {t:TA} {name:Str} {apos cpos:Pos} {T id:String} {r:V->List V->Hp->VK->Prop}
def qnI (pa:PlainAttrs T) (slot:Slot T name id) (hty:typeOf (.builtin id)=pure (.type "method_descriptor")) (hm:MtR X id r) (ho:PE X o to) (ha:PA X (e::es) t)
  (hbase:attributeBase o name X.env (eval o X.env)=eval o X.env:=by rfl)
  (hfew:((backTo cpos (starEach (e::es) X.env)).all (λx=>!x.1)&&(backToKw cpos (keywordEach [] X.env)).all (λx=>x.1.isSome)
   && decide ((e::es).length+([]:List Keyword).length+(if ([]:List Keyword).isEmpty then 0 else 1)<30))=true:=by rfl)
  (hline:(apos.endLine==cpos.line)=true:=by rfl) (hs:starEach (e::es) X.env=(false,eval e X.env)::starEach es X.env:=by rfl) (hplain:(backTo cpos (starEach es X.env)).any (·.1)=false:=by rfl) :
  PE X (.Call (.Attribute o name apos) (e::es) [] cpos) (tBM X.K T r to t):=by
 intro pins s σ H Q I h;refine wpAny_Call_method_late hbase hfew hline rfl (thn (ho pins s σ H _ I h) λv s1 ⟨x,H1,I1,r1,ty,q1⟩=>?_);obtain ⟨h1,h2⟩:=qma I1 r1 ty;refine ⟨T,id,pa,slot,hty,h1,h2,?_⟩;have hA:=ha cpos pins s1 σ H1 _ I1 q1;rw [hs] at hA ⊢;refine Calls.callWith_builtin (by show (false||(backTo cpos (starEach es X.env)).any (·.1))=false;rw [hplain]<;>rfl) (Calls.evalArgs_plain ?_);exact thn hA λus s2 ⟨vs,H2,I2,r2,q2⟩=>hm pins s2 σ H2 x vs v us Q I2 r1 r2 q2
end
def MtM (X:Cx) (id:String) (r:V->List V->Hp->VK->Prop):Prop:=
 ∀ (pins:List (Addr×Obj)) (s:Shared) (σ:St) (H:Hp) (x:V) (xs:List V) (v:Value) (us:List Value) (Q:VK),Inv X pins σ H s->ja x v->zI xs us->r x xs H Q ->
  wpAny (model X.prog X.w) X.A (call (.builtin id) (v::us)) (EP X pins σ Q) X.xe s
def zI.one:∀ {x:V} {us:List Value},zI [x] us->∃ u,us=[u]/\ja x u
 |_,_,.cons r .nil=>⟨_,rfl,r⟩
def zI.reverse {xs:List V} {us:List Value} (h:zI xs us):zI xs.reverse us.reverse:=by
 induction h with
 |nil=>exact .nil
 |cons r t ih=>rw [List.reverse_cons,List.reverse_cons];exact zI.append ih (.cons r .nil)
section
variable {X:Cx} {pins:List (Addr×Obj)} {σ:St} {H:Hp} {s:Shared} {l b:Addr} {xs ys zs:List V}
def Inv.lset {its its':List Value} {n:Nat} {f:Array Value->Array Value} {t':Nat} (I:Inv X pins σ H s) (hH:H l=some (.lst xs))
  (e:s.heap.get? l=some { cls:=.type "list",data:=.seq its.toArray n }) (hf:f its.toArray=its'.toArray) (hv:zI ys its') (hz:ys.length<=sizeLine) :
  Inv X pins σ (upd H l (.lst ys)) { s with heap:=s.heap.update l (Obj.mapSeq f),toks:=t' }:=by
 have q:=PySem.IsL.update e f;rw [hf] at q;refine I.write (x:=l) (e:=l) (by rw [hH];exact trivial) (.inl rfl) (λb' u hb hu=>(Heap.get?_update_other s.heap (Obj.mapSeq f) (Ne.symm hb)).trans hu) ⟨_,q⟩ ?_;exact ⟨hz,its',_,hv,q⟩
def Inv.lnew {its:List Value} {t':Nat} (I:Inv X pins σ H s) (hv:zI ys its) (hz:ys.length<=sizeLine) :
  Inv X pins σ (upd H s.heap.objs.size (.lst ys)) { s with heap:=s.heap.push { cls:=.type "list",data:=.seq its.toArray },toks:=t' }:=
 I.laid (λ_ _ q=>Heap.get?_push_of_some _ q) (Nat.le_refl _) ⟨hz,its,0,hv,Heap.get?_push_size _ rfl⟩
def Inv.fresh (I:Inv X pins σ H s):H s.heap.objs.size=none:=I.hok.fresh (Nat.le_refl _)
def Inv.lstM (I:Inv X pins σ H s) (hH:H l=some (.lst xs)):xs.length<=sizeLine/\∃ (its:List Value) (n:Nat),zI xs its/\xs.length=its.length/\s.heap.get? l=some { cls:=.type "list",data:=.seq its.toArray n }:=by
 obtain ⟨z,its,n,r,e⟩:=I.hok l _ hH;exact ⟨z,its,n,r,r.length,e⟩
def qcU {n:Nat} (h:n<=sizeLine):Builtin.List.listTooLong n=false:=by
 unfold Builtin.List.listTooLong;exact decide_eq_false (by omega)
end
section
variable {X:Cx}
def NY:V->List V->Hp->VK->Prop:=λx vs H Q=>∃ l xs y,x=.ref l/\vs=[y]/\H l=some (.lst xs)/\xs.length<sizeLine/\Q .non (upd H l (.lst (xs++[y])))
def VY:MtM X "list.append" NY:=by
 intro pins s σ H x vs v us Q I rx rv h;obtain ⟨l,xs,y,rfl,rfl,hH,hz,q⟩:=h;cases rx;obtain ⟨u,rfl,ru⟩:=rv.one;obtain ⟨z,its,n,r,hl,e⟩:=I.lstM hH;refine call_meets F.slot_list_append ⟨_,e,rfl⟩ F.entry_list_append (F.args_list_append_2 _ _) (PySem.list_append l its.toArray n u (by rw [size_toArray];omega)) ⟨e,?_⟩;refine ⟨.non,_,I.lset (its':=its++[u]) hH e (by simp) (r.append (.cons ru .nil)) ?_,rfl,q⟩;rw [length_append,List.length_singleton];omega
def qas:V->List V->Hp->VK->Prop:=λx vs H Q=>∃ l b xs zs,x=.ref l/\vs=[.ref b]/\H l=some (.lst xs)/\H b=some (.lst zs)/\xs.length+zs.length<=sizeLine/\Q .non (upd H l (.lst (xs++zs)))
def qbk:MtM X "list.extend" qas:=by
 intro pins s σ H x vs v us Q I rx rv h;obtain ⟨l,b,xs,zs,rfl,rfl,hH,hB,hz,q⟩:=h;cases rx;obtain ⟨u,rfl,ru⟩:=rv.one;cases ru;obtain ⟨z,its,n,r,hl,e⟩:=I.lstM hH;obtain ⟨z2,its2,n2,r2,hl2,e2⟩:=I.lstM hB;have hsz:its.toArray.size+its2.toArray.size<=sizeLine:=by rw [size_toArray,size_toArray];omega
 have hlong:¬ (!its.toArray.isEmpty&&Builtin.List.listTooLong (its.toArray.size+its2.toArray.size))=true:=by
  rw [qcU hsz,Bool.and_false];exact Bool.false_ne_true
 refine call_meets F.slot_list_extend ⟨_,e,rfl⟩ F.entry_list_extend (F.args_list_extend_2 _ _)
  (AutoSeq1.list_extend_list_list_0 l its.toArray n b its2.toArray n2 hlong (by rw [size_toArray];omega) (by omega)) ⟨e,e2,?_⟩
 refine ⟨.non,_,I.lset (its':=its++its2) hH e (by simp) (r.append r2) ?_,rfl,q⟩;rw [length_append];omega
def qpl:R2:=λx y H Q=>∃ l b xs zs,x=.ref l/\y=.ref b/\H l=some (.lst xs)/\H b=some (.lst zs)/\xs.length+zs.length<=sizeLine/\∀ p,H p=none->Q (.ref p) (upd H p (.lst (xs++zs)))
def qlo:OpR X (binaryOp .Add) qpl:=by
 intro pins s σ H x y v u Q I rx ry h;obtain ⟨l,b,xs,zs,rfl,rfl,hH,hB,hz,q⟩:=h;cases rx;cases ry;obtain ⟨z,its,n,r,hl,e⟩:=I.lstM hH;obtain ⟨z2,its2,n2,r2,hl2,e2⟩:=I.lstM hB;refine PySem.P.add_list e e2 ?_ (by rw [size_toArray,size_toArray];omega);have ea:its.toArray++its2.toArray=(its++its2).toArray:=by simp
 rw [ea];exact ⟨.ref _,_,I.lnew (t':=s.toks) (r.append r2) (by rw [length_append];omega),rfl,q _ I.fresh⟩
end
section
variable {prog:Program} {w:World} {A:Around} {E:Value->Shared->Prop} {s:Shared}
end
section
variable {X:Cx}
end
end L2
namespace Att
open PySem PySem.W PySem.Calls PyProof.Rows
def DK {P:Params} {h:Heap}:∀ (ns:List Int) (vs:List Value),WellAll P h vs (ns.map WData.int)->IntsAre vs ns:=by
 intro ns;induction ns with
 |nil=>
  intro vs w;rw [List.map_nil] at w;cases w;exact .nil
 |cons n ns ih=>
  intro vs w;rw [map_cons] at w;cases w with
  |cons a b=>
   cases a;exact .cons _ _ (ih _ b)
def qaP {l:OpenLaw} {n:Nat} (hn:l.most=some n) {P:Params} {h:Heap} {args:List WData} {vals:List Value}
  (hpre:l.row.toRowW.claim.pre args=true) (hwl:WellAll P h vals args) :
  ∃ a vs ns,vals=[Value.ref a]/\args=[WData.list (ns.map WData.int)]/\h.get? a=some { cls:=.type "list",data:=.seq vs.toArray }/\IntsAre vs ns/\ns.length<=n:=by
 have hsh:WShape.hasAll [] args [.list .int]=true:=(pre_splitW hpre).1;have hc:l.pre.holds [] { args:=args }=true:=(pre_splitW hpre).2;obtain ⟨d,r,rfl,h1,h2⟩:=hasAllW_cons hsh;obtain rfl:=hasAllW_nil h2;obtain ⟨xs,rfl,h3⟩:=hasW_list h1;obtain ⟨ns,rfl⟩:=items_int h3;have hlen:ns.length<=n:=by
  unfold OpenLaw.pre at hc;have h4:(WTm.not (.lt (.lit (.int (n:Int))) (.len (.arg 0)))).holds [] { args:=[.list (ns.map .int)] }=true:=by
   have h4:=(holds_andW hc).1;rw [hn] at h4;exact h4
  have h5:=condW_of h4 (w_not (w_lt w_lit (w_len_list (w_arg rfl))));rw [length_map] at h5;refine Nat.le_of_not_lt λq=>?_;have q':(n:Int)<((ns.length:Nat):Int):=by omega
  first
   | (rw [decide_eq_true q'] at h5;exact absurd h5 (by decide))
   | (simp at h5;omega)
 cases hwl with
 |cons w1 w2=>
  cases w2;cases w1 with
  |list ho hall=>exact ⟨_,_,ns,rfl,rfl,ho,DK ns _ hall,hlen⟩
def qa6 (l:OpenLaw) (args:List WData):l.row.toRowW.claim.post args (.bool true) args=true:=
 postW_of (r:=l.row.toRowW) (X:=(true==true))
  (show WShape.has [] (.bool true) .bool=true by first|rfl|decide|simp [WShape.has,WShape.arms,WShape.armsAll])
  (show (WTm.eq .res (.lit (.bool true))).value [] { args:=args,res:=some (.bool true),after:=args }=some (.bool (true==true)) from w_eq_bool (w_res rfl) w_lit) rfl
def TB {l:OpenLaw} {n:Nat} {q:Program} {loose:List Str} {XP:(Str->Option Value)->Heap->Prop} {YP:World->Heap->Prop} {d:DefRec}
  (hn:l.most=some n) (hdf:d.params.defaults=[])
  (call:∀ (w:World) (s₀ s₁:Shared) (mg mb:Str->Option Value) (fa:Addr) (o:Obj) (pm cd doc:Value) (a:Addr) (vs:List Value) (ns:List Int),
   Ground q loose [] XP w s₀ mg mb s₁.heap->YP w s₁.heap ->
   s₁.heap.get? fa=some o->o.data=.func (docDef d.name d.params d.body d.scope pm cd doc)->s₁.heap.CodeRec cd d.name->mg d.name=some (.ref fa) ->
   s₁.heap.get? a=some { cls:=.type "list",data:=.seq vs.toArray }->IntsAre vs ns->ns.length<=n->s₁.gens=#[] ->
   codeAny (model l.prog w) callerA (.call (.ref fa) ⟨[.ref a],[]⟩) (λr s'=>r=.ok (.ret (.bool true))/\OldK s₁.heap s'.heap/\s'.os=s₁.os/\AllBare s'.gens) s₁) :
  WalkO q loose XP YP l.row.toRowW d [] (λf vs=>PySem.call f vs):=by
 intro w s₀ s₁ mg mb G Y fa o pm cd doc dV kV ho hd hcd hD hmg hg args vals as hpre hlay hrd hwl hlo;obtain rfl:dV=.none:=Dflts.none hD hdf;obtain rfl:kV=.none:=Dflts.noKw hD;obtain ⟨a,vs,ns,rfl,rfl,hobj,hints,hlen⟩:=qaP hn hpre hwl;refine enter_call (codeAny_mono (call w s₀ s₁ mg mb fa o pm cd doc a vs ns G Y ho (fd_plain hd) hcd hmg hobj hints hlen hg) λr s' hq=>?_);obtain ⟨rfl,h2,h3,h4⟩:=hq;exact ⟨.inl ⟨.bool true,.bool true,[],rfl,λ_=>rfl,.bool true,qa6 l _,λ_=>⟨List.Pairwise.nil,λ_ hm=>(nomatch hm)⟩⟩,h2,h3,h4⟩
section
variable {prog:Program} {w:World} {A:Around} {E:Value->Shared->Prop} {s:Shared} {K:Frag}
end
end Att
namespace L2
open PySem PySem.Spec PyProof.Rows
def SO:∀ {vs:List Value} {ns:List Int},IntsAre vs ns->zI (ns.map V.int) vs
 |_,_,.nil=>.nil
 |_,_,.cons n t h=>.cons ⟨t,rfl⟩ (SO h)
def qmi (H:Hp):Prop:=∀ b,H b=none\/∃ o xs,H b=some (.frz o (.lst xs))
def qc9 {P:Program} {w:World} {K:Frg} {mg mb:Str->Option Value} {CX:CXT} {k:Nat} {fa a:Addr} {fd:FuncData} {x:Str} {sp:Sp} {s₁:Shared} {vs:List Value} {ns:List Int}
  (KX:K.In s₁.heap) (hns:s₁.heap.Ns mainGlobals mg) (hb:s₁.heap.Ns builtinsNs mb) (hbb:∀ x:Str,x≠"__name__" -> mb x=bootBuiltins x) (hlim:s₁.heap.NoLimit) (hg:s₁.gens=#[])
  (ha:s₁.heap.get? a=some { cls:=.type "list",data:=.seq vs.toArray }) (hi:IntsAre vs ns) (hl:ns.length<=sizeLine) (hr:Room k callerA)
  (F:∀ base:Heap,K.In base->base.Ns mainGlobals mg->FnOk P w K mg base CX k fa fd [x] sp) (hbind:∀ (s:Shared) (u:Value),BindsTo s fd ⟨[u],[]⟩ [(x,u)])
  (hsp:∀ H:Hp,qmi H->SqL K H a (ns.map V.int)->sp [.ref a] H (λv _=>v=.bl true) λ_ _ _=>False)
  (hCX:∀ H e s',CX [] H s₁ (λ_ _ _=>False) e s'->False) :
  codeAny (model P w) callerA (.call (.ref fa) ⟨[.ref a],[]⟩) (λr s'=>r=.ok (.ret (.bool true))/\OldK s₁.heap s'.heap/\s'.os=s₁.os/\AllBare s'.gens) s₁:=by
 have rv:=SO hi;have lenV:=hi.length
 -- from an abstract heap in which nothing but the script may be tracked
 have core:∀ H:Hp,qmi H->SqL K H a (ns.map V.int)->HOk P w H s₁.heap->(∀ b,H b≠none->b=a)->(H a≠none->K.lookup a=none) ->
   codeAny (model P w) callerA (.call (.ref fa) ⟨[.ref a],[]⟩) (λr s'=>r=.ok (.ret (.bool true))/\OldK s₁.heap s'.heap/\s'.os=s₁.os/\AllBare s'.gens) s₁:=by
  intro H hO hS hok hA hK;have base_of:∀ {b:Addr} {o:Obj},s₁.heap.get? b=some o->H b=none->(qdo s₁.heap H).get? b=some o:=λe n=>qdl e n;have noA:∀ {b:Addr} {o:Obj} {es:Array DictEntry} {ep:Nat},s₁.heap.get? b=some o->o.data=.dict es ep->H b=none:=λ{b o es ep} e d=>by
   cases q:H b with
   |none=>rfl
   |some u=>
    have e':b=a:=hA b (by rw [q];simp);subst e';rw [ha] at e;cases e;have d':Data.seq vs.toArray _=Data.dict es ep:=d;cases d'
  have nsK:∀ {b:Addr} {m:Str->Option Value},s₁.heap.Ns b m->(qdo s₁.heap H).Ns b m:=λ{b m} ⟨o,es,ep,e,d,r⟩=>⟨o,es,ep,base_of e (noA e d),d,r⟩
  have hKb:K.In (qdo s₁.heap H):=λb o e=>base_of (KX b o e) (by
   cases q:H b with
   |none=>rfl
   |some u=>
    have e':b=a:=hA b (by rw [q];simp);subst e';rw [hK (by rw [q];simp)] at e;cases e)
  have hM:Mod K mg (qdo s₁.heap H):=⟨hKb,nsK hns,⟨mb,nsK hb,hbb⟩,let ⟨mc,h1,h2⟩:=hlim;⟨mc,nsK h1,h2⟩⟩
  have e0:Env0 P w K mg (qdo s₁.heap H) callerA [] s₁ H:=⟨rfl,hM,λb o e=>qhy e,Nat.le_of_eq (qbf _ _),trivial,λb hb=>absurd (show b∈([]:List Addr) from hb) (by simp),hok,.of_eq hg⟩
  refine codeAny_mono ((F _ hKb (nsK hns)).run callerA [] s₁ H ⟨[.ref a],[]⟩ [.ref a] [.ref a] _ _ hr e0 (hbind s₁ (.ref a)) (.cons rfl .nil) (hsp H hO hS)) λr s' h=>?_;cases r with
  |error e=>exact (hCX H e s' h).elim
  |ok fl=>
   cases fl with
   |next=>exact False.elim h
   |brk=>exact False.elim h
   |cont=>exact False.elim h
   |ret u=>
    obtain ⟨v,H',os,bare,un,hok',r',q⟩:=h;have q':v=.bl true:=q;subst q';obtain rfl:u=Value.bool true:=r';refine ⟨rfl,OldK.of_keep λb o e=>?_,os,bare⟩;cases q:H b with
    |none=>exact un.keep b o e q (by intro z;exact absurd (show b∈([]:List Addr) from z) (by simp)) (by simp)
    |some u=>
     rcases hO b with z|⟨ob,xs,z⟩
     ·rw [q] at z;cases z
     ·have z2:=un.frzs b ob _ z;obtain ⟨e1,_⟩:=hok b _ z;obtain ⟨e2,_⟩:=hok' b _ z2;rw [e] at e1;cases e1;exact e2
 cases hk:K.lookup a with
 |some o=>
  -- the script is one of the module's own objects
  have e:=KX a o hk;rw [ha] at e;cases e;refine core (λ_=>none) (λ_=>.inl rfl) (.inr ⟨_,vs.toArray,_,hk,rfl,rfl,rfl,by rw [size_toArray,lenV];exact hl,by simpa using rv⟩) (λb u z=>by have z':(none:Option HO)=some u:=z;cases z') (λb z=>absurd rfl z) λz=>absurd rfl z
 |none=>
  refine core (λb=>if b=a then some (.frz { cls:=.type "list",data:=.seq vs.toArray } (.lst (ns.map V.int))) else none) (λb=>?_) (.inl (.inr ⟨{ cls:=.type "list",data:=.seq vs.toArray },if_pos rfl⟩)) (λb u z=>?_) (λb z=>?_) λ_=>hk
  ·by_cases hb:b=a
   ·exact .inr ⟨_,_,if_pos hb⟩
   ·exact .inl (if_neg hb)
  ·by_cases hb:b=a
   ·have z':=(if_pos hb).symm.trans z;cases z';subst hb;exact ⟨ha,by rw [length_map];exact hl,vs,_,rv,ha⟩
   ·have z':=(if_neg hb).symm.trans z;cases z'
  ·by_cases hb:b=a
   ·exact hb
   ·exact absurd (if_neg hb) z
def qhk {l:PySem.W.OpenLaw} {n k:Nat} {q:Program} {loose:List Str} {XP:(Str->Option Value)->Heap->Prop} {YP:World->Heap->Prop} {d:DefRec} {K:Params->PySem.W.Frag} {CX:World->CXT} {sp:World->Sp} {x:Str}
  (hn:l.most=some n) (hn2:n<=sizeLine) (hdf:d.params.defaults=[]) (hr:Room k callerA)
  (hY:∀ (w:World) (h:Heap),YP w h->(K w.params).In h)
  (F:∀ (w:World) (mg:Str->Option Value) (fa:Addr) (h:Heap),(K w.params).In h->h.Ns mainGlobals mg->mg d.name=some (.ref fa) ->
   ∃ fd:FuncData,(∀ (s:Shared) (u:Value),BindsTo s fd ⟨[u],[]⟩ [(x,u)]) /\
    ∀ base:Heap,(K w.params).In base->base.Ns mainGlobals mg->FnOk l.prog w (K w.params) mg base (CX w) k fa fd [x] (sp w))
  (hsp:∀ (w:World) (H:Hp) (a:Addr) (ns:List Int),ns.length<=n->qmi H->SqL (K w.params) H a (ns.map V.int)->sp w [.ref a] H (λv _=>v=.bl true) λ_ _ _=>False)
  (hCX:∀ (w:World) (H:Hp) (s:Shared) (e:Value) (s':Shared),CX w [] H s (λ_ _ _=>False) e s'->False) :
  PySem.W.WalkO q loose XP YP l.row.toRowW d [] (λf vs=>PySem.call f vs):=by
 refine Att.TB hn hdf λw s₀ s₁ mg mb fa o pm cd doc a vs ns G Y ho hd hcd hmg hobj hints hlen hg=>?_;have KX:=hY w _ Y;obtain ⟨fd,hb,hF⟩:=F w mg fa _ KX G.T.g hmg;exact qc9 KX G.T.g G.T.b G.T.builtins G.T.nolimit hg hobj hints (Nat.le_trans hlen hn2) hr hF hb (λH hO hS=>hsp w H a ns hlen hO hS) λH e s'=>hCX w H s₁ e s'
def ZU (s:Stmt):Arguments:=match s with
 |.FunctionDef _ a _ _ _ _ _ _ _ _=>a
 |_=>{ posonlyargs:=[],args:=[],vararg:=none,kwonlyargs:=[],kw_defaults:=[],kwarg:=none,defaults:=[] }
def z9 (s:Stmt):List Stmt:=match s with
 |.FunctionDef _ _ b _ _ _ _ _ _ _=>b
 |_=>[]
def qj (s:Stmt):Scope:=match s with
 |.FunctionDef _ _ _ _ _ _ sc _ _ _=>sc
 |_=>{ kind:=.function,names:=[],isGenerator:=false,isCoroutine:=false }
abbrev CX0:CXT:=λ_ _ _ _ _ _=>False
abbrev E0:XK:=λ_ _ _=>False
def qmK {X:Cx}:qbN CX0 X E0:=λ_ _ _ _ _ _ _ h=>h.elim
structure Fun (K:Frg) (x qual:Str) (st:Stmt) (f:Addr) (fd:FuncData):Prop where
 ex:∃ (oc:Value) (od:Option Addr) (kV doc pm:Value) (an:Option Addr) (cdv ct:Value) (osl:Array (Option Value)),
  fd=PySem.W.fnOf x qual (ZU st) (z9 st) (qj st) .none kV doc pm an cdv ct/\K.lookup f=some ⟨oc,od,.func fd,osl⟩/\PySem.W.codeIn K cdv qual=true
 kp:PySem.W.keepIn K (.ref f)=true
section
variable {P:Program} {w:World} {K:Frg} {mg:Str->Option Value} {base:Heap}
def Fun.ok {x qual:Str} {st:Stmt} {f:Addr} {fd:FuncData} {N ps:List Str} {k:Nat} {sp:Sp} (F:Fun K x qual st f fd) (S:FnScope N ps (qj st)) (len:∀ vs H Q E,sp vs H Q E->vs.length=ps.length)
  (hbody:∀ (cdv:Value) (A:Around) (outer:List Env) (s:Shared) (H:Hp) (vs:List V) (Q:VK) (E:XK),Room k (A.deeper (envOfC qual (qj st) s.heap.objs.size f cdv))->sp vs H Q E ->
   ∃ t,PSs (qca CX0 P w K mg base N qual (qj st) f cdv A outer s H E).nox (z9 st) t/\t { nx:=λ_ H'=>Q .non H',rt:=Q } (start N vs) H):FnOk P w K mg base CX0 (k+1) f fd ps sp:=by
 obtain ⟨oc,od,kV,doc,pm,an,cdv,ct,osl,rfl,lk,hcd⟩:=F.ex;refine qoI lk hcd S len λA outer s H vs Q E hr hsp=>?_;obtain ⟨t,h,q⟩:=hbody cdv A outer s H vs Q E hr hsp;exact ⟨t,h.nox,q⟩
def Fun.binds {x qual:Str} {st:Stmt} {f:Addr} {fd:FuncData} {ps:List Str} (F:Fun K x qual st f fd)
  (h:∀ (kV doc pm:Value) (an:Option Addr) (cdv ct:Value) (us:List Value),us.length=ps.length->bindArgs (PySem.W.fnOf x qual (ZU st) (z9 st) (qj st) .none kV doc pm an cdv ct) ⟨us,[]⟩=pure (ps.zip us)):zh K fd ps []:=by
 obtain ⟨oc,od,kV,doc,pm,an,cdv,ct,osl,rfl,lk,hcd⟩:=F.ex;exact .all (h kV doc pm an cdv ct)
def qlu {x qual:Str} {st:Stmt} {f:Addr} {oc:Value} {od an:Option Addr} {osl:Array (Option Value)} {kV doc pm cdv ct:Value} (l:K.lookup f=some ⟨oc,od,.func (PySem.W.fnOf x qual (ZU st) (z9 st) (qj st) .none kV doc pm an cdv ct),osl⟩)
  (c:PySem.W.codeIn K cdv qual=true) (k:PySem.W.keepIn K (.ref f)=true):Fun K x qual st f (PySem.W.fnOf x qual (ZU st) (z9 st) (qj st) .none kV doc pm an cdv ct):=⟨⟨oc,od,kV,doc,pm,an,cdv,ct,osl,rfl,l,c⟩,k⟩
end
section
variable {X:Cx}
end
def qjp {A B:Prop} (h:B):if false=true then A else B:=by
 rw [if_neg Bool.false_ne_true];exact h
def qhX {A B:Prop} (h:A):if true=true then A else B:=by
 rw [if_pos rfl];exact h
end L2
set_option maxHeartbeats 4000000
namespace L3
open PySem PySem.Spec PyProof.Rows L2
set_option genInjectivity true in
inductive T where
 |non|bl (b:Bool)|int (i:Int)|str (x:Str)|tup (xs:List T)|ref (a:Addr)
inductive O where
 |lst (xs:List T)
 |frz (xs:List T)
abbrev Gp:=Addr->Option O
def gu (G:Gp) (a:Addr) (o:O):Gp:=λb=>if b=a then some o else G b
def qG {G:Gp} {a:Addr} {o:O}:gu G a o a=some o:=by unfold gu;rw [if_pos rfl]
def jK {G:Gp} {a b:Addr} {o:O} (h:b≠a):gu G a o b=G b:=by unfold gu;rw [if_neg h]
mutual
inductive Rp (K:Frg) (H:Hp):T->V->Prop
 |non:Rp K H .non .non
 |bl (b:Bool):Rp K H (.bl b) (.bl b)
 |int (i:Int):Rp K H (.int i) (.int i)
 |str (x:Str):Rp K H (.str x) (.str x)
 |ref (a:Addr):Rp K H (.ref a) (.ref a)
 |tup {xs:List T} {a:Addr} {vs:List V}:SqT K H a vs->Rps K H xs vs->Rp K H (.tup xs) (.ref a)
inductive Rps (K:Frg) (H:Hp):List T->List V->Prop
 |nil:Rps K H [] []
 |cons {x:T} {v:V} {xs:List T} {vs:List V}:Rp K H x v->Rps K H xs vs->Rps K H (x::xs) (v::vs)
end
def OR (K:Frg) (H:Hp) (a:Addr):O->Prop
 |.lst xs=>∃ vs,H a=some (.lst vs)/\Rps K H xs vs
 |.frz xs=>∃ vs,(∃ o,H a=some (.frz o (.lst vs)))/\Rps K H xs vs
def HR (K:Frg) (G:Gp) (H:Hp):Prop:=∀ a o,G a=some o->OR K H a o
def Kp (G:Gp) (H:Hp) (G':Gp) (H':Hp):Prop:=∀ a o,H a=some o->G a=none->H' a=some o/\G' a=none
def Kp.refl {G:Gp} {H:Hp}:Kp G H G H:=λ_ _ h g=>⟨h,g⟩
def Kp.trans {G G1 G2:Gp} {H H1 H2:Hp} (a:Kp G H G1 H1) (b:Kp G1 H1 G2 H2):Kp G H G2 H2:=λx o h g=>
 let ⟨h1,g1⟩:=a x o h g;b x o h1 g1
section
variable {K:Frg} {G G':Gp} {H H':Hp}
def HR.noneT (hr:HR K G H) {a:Addr} {vs:List V} (h:Rd H a (.tup vs)):G a=none:=by
 cases e:G a with
 |none=>rfl
 |some o=>
  have q:=hr a o e;cases o with
  |lst xs=>
   obtain ⟨us,q1,_⟩:=q;rcases h with h|⟨ob,h⟩<;>(rw [q1] at h;cases h)
  |frz xs=>
   obtain ⟨us,⟨o1,q1⟩,_⟩:=q;rcases h with h|⟨ob,h⟩<;>(rw [q1] at h;cases h)
def CM (hr:HR K G H) (k:Kp G H G' H') {a:Addr} {vs:List V} (h:SqT K H a vs):SqT K H' a vs:=by
 rcases h with h|h
 ·have g:=hr.noneT h;rcases h with h|⟨o,h⟩
  ·exact .inl (.inl (k a _ h g).1)
  ·exact .inl (.inr ⟨o,(k a _ h g).1⟩)
 ·exact .inr h
mutual
def Rp.keep (hr:HR K G H) (k:Kp G H G' H'):∀ {x:T} {v:V},Rp K H x v->Rp K H' x v
 |_,_,.non=>.non
 |_,_,.bl b=>.bl b
 |_,_,.int i=>.int i
 |_,_,.str x=>.str x
 |_,_,.ref a=>.ref a
 |_,_,.tup h hs=>.tup (CM hr k h) (Rps.keep hr k hs)
def Rps.keep (hr:HR K G H) (k:Kp G H G' H'):∀ {x:List T} {v:List V},Rps K H x v->Rps K H' x v
 |_,_,.nil=>.nil
 |_,_,.cons a b=>.cons (Rp.keep hr k a) (Rps.keep hr k b)
end
def Rps.length:∀ {xs:List T} {vs:List V},Rps K H xs vs->xs.length=vs.length
 |_,_,.nil=>rfl
 |_,_,.cons _ b=>by simp [Rps.length b]
def Rps.get:∀ {xs:List T} {vs:List V} {i:Nat} {x:T},Rps K H xs vs->xs[i]?=some x->∃ v,vs[i]?=some v/\Rp K H x v
 |_,_,_,_,.nil,e=>by simp at e
 |_,_,0,_,.cons r _,e=>by simp at e;subst e;exact ⟨_,rfl,r⟩
 |_,_,i+1,x,.cons _ t,e=>by
  obtain ⟨u,h1,h2⟩:=Rps.get (i:=i) (x:=x) t (by simpa using e);exact ⟨u,by simpa using h1,h2⟩
def Rps.append:∀ {xs ys:List T} {vs us:List V},Rps K H xs vs->Rps K H ys us->Rps K H (xs++ys) (vs++us)
 |_,_,_,_,.nil,s=>s
 |_,_,_,_,.cons r t,s=>.cons r (Rps.append t s)
def Rps.take:∀ {xs:List T} {vs:List V} (n:Nat),Rps K H xs vs->Rps K H (xs.take n) (vs.take n)
 |_,_,0,_=>.nil
 |_,_,_+1,.nil=>.nil
 |_,_,n+1,.cons r t=>.cons r (Rps.take n t)
def Rps.drop:∀ {xs:List T} {vs:List V} (n:Nat),Rps K H xs vs->Rps K H (xs.drop n) (vs.drop n)
 |_,_,0,r=>r
 |_,_,_+1,.nil=>.nil
 |_,_,n+1,.cons _ t=>Rps.drop n t
def Rps.set {x:T} {v:V} (r:Rp K H x v):∀ {xs:List T} {vs:List V} (i:Nat),Rps K H xs vs->Rps K H (xs.set i x) (vs.set i v)
 |_,_,_,.nil=>.nil
 |_,_,0,.cons _ t=>.cons r t
 |_,_,i+1,.cons q t=>.cons q (Rps.set r i t)
def Rps.ints:∀ (ns:List Int),Rps K H (ns.map T.int) (ns.map V.int)
 |[]=>.nil
 |n::r=>.cons (.int n) (Rps.ints r)
def Rps.reverse {xs:List T} {vs:List V} (h:Rps K H xs vs):Rps K H xs.reverse vs.reverse:=by
 induction xs generalizing vs with
 |nil=>cases h;exact .nil
 |cons x r ih=>
  cases h with
  |cons a b=>
   rw [List.reverse_cons,List.reverse_cons];exact (ih b).append (.cons a .nil)
def Kp.laid {p:Addr} {ho:HO} (hp:H p=none):Kp G H G (upd H p ho):=λa o h g=>⟨by rw [qC (qw h hp)];exact h,g⟩
def HR.free (hr:HR K G H) {p:Addr} (hp:H p=none):G p=none:=by
 cases e:G p with
 |none=>rfl
 |some o=>
  have q:=hr p o e;cases o with
  |lst xs=>obtain ⟨us,q1,_⟩:=q;rw [hp] at q1;cases q1
  |frz xs=>obtain ⟨us,⟨o1,q1⟩,_⟩:=q;rw [hp] at q1;cases q1
def OR.keep (hr:HR K G H) (k:Kp G H G' H') {a:Addr} {o:O} (h:OR K H a o) (e:∀ u,H a=some u->H' a=some u):OR K H' a o:=by
 cases o with
 |lst xs=>obtain ⟨vs,h1,h2⟩:=h;exact ⟨vs,e _ h1,h2.keep hr k⟩
 |frz xs=>obtain ⟨vs,⟨o,h1⟩,h2⟩:=h;exact ⟨vs,⟨o,e _ h1⟩,h2.keep hr k⟩
def HR.laid (hr:HR K G H) {p:Addr} {ho:HO} (hp:H p=none):HR K G (upd H p ho):=λa o e=>
 (hr a o e).keep hr (Kp.laid hp) λu h=>by rw [qC (qw h hp)];exact h
def Kp.newL {p:Addr} {ho:HO} {o':O} (hp:H p=none):Kp G H (gu G p o') (upd H p ho):=λa o h g=>
 ⟨by rw [qC (qw h hp)];exact h,by rw [jK (qw h hp)];exact g⟩
def HR.newL (hr:HR K G H) {p:Addr} {xs:List T} {vs:List V} (hp:H p=none) (r:Rps K H xs vs):HR K (gu G p (.lst xs)) (upd H p (.lst vs)):=λa o e=>by
 by_cases ha:a=p
 ·subst ha;rw [qG] at e;cases e;exact ⟨vs,qU,r.keep hr (Kp.laid hp)⟩
 ·rw [jK ha] at e;exact (hr a o e).keep hr (Kp.laid hp) λu h=>by rw [qC ha];exact h
def Kp.wr {p:Addr} {ho:HO} {o o':O} (g:G p=some o):Kp G H (gu G p o') (upd H p ho):=λa ob h ga=>by
 have ha:a≠p:=by intro e;subst e;rw [g] at ga;cases ga
 exact ⟨by rw [qC ha];exact h,by rw [jK ha];exact ga⟩
def HR.wr (hr:HR K G H) {p:Addr} {ys xs:List T} {vs:List V} (g:G p=some (.lst ys)) (r:Rps K H xs vs):HR K (gu G p (.lst xs)) (upd H p (.lst vs)):=λa o e=>by
 have k:Kp G H (gu G p (.lst xs)) (upd H p (.lst vs)):=Kp.wr g;by_cases ha:a=p
 ·subst ha;rw [qG] at e;cases e;exact ⟨vs,qU,r.keep hr k⟩
 ·rw [jK ha] at e;exact (hr a o e).keep hr k λu h=>by rw [qC ha];exact h
end
abbrev St3:=List (Option T)
structure Rel (K:Frg) (τ:St3) (G:Gp) (σ:L2.St) (H:Hp):Prop where
 hp:HR K G H
 len:τ.length=σ.length
 st:∀ (i:Nat) (t:T),τ[i]?=some (some t)->∃ v,σ[i]?=some (some v)/\Rp K H t v
def Rel.next {K:Frg} {τ:St3} {G G':Gp} {σ:L2.St} {H H':Hp} (r:Rel K τ G σ H) (hr:HR K G' H') (k:Kp G H G' H'):Rel K τ G' σ H':=
 ⟨hr,r.len,λi t e=>let ⟨v,h1,h2⟩:=r.st i t e;⟨v,h1,h2.keep r.hp k⟩⟩
def Rel.set {K:Frg} {τ:St3} {G:Gp} {σ:L2.St} {H:Hp} {t:T} {v:V} (r:Rel K τ G σ H) (i:Nat) (h:Rp K H t v):Rel K (τ.set i (some t)) G (σ.set i (some v)) H:=by
 refine ⟨r.hp,by simp [r.len],λj u e=>?_⟩;by_cases hij:i=j
 ·subst hij;rw [List.getElem?_set_self'] at e;have hl:i<τ.length:=by
   cases q:τ[i]? with
   |none=>rw [q] at e;cases e
   |some z=>exact (List.getElem?_eq_some_iff.mp q).1
  rw [getElem?_eq_getElem hl] at e;have e':t=u:=by simpa using e
  subst e';exact ⟨v,by rw [List.getElem?_set_self (by rw [← r.len];exact hl)],h⟩
 ·rw [List.getElem?_set_ne hij] at e;obtain ⟨w,h1,h2⟩:=r.st j u e;exact ⟨w,by rw [List.getElem?_set_ne hij];exact h1,h2⟩
abbrev Q3:=T->Gp->Prop
abbrev TE3:=St3->Gp->Q3->Prop
abbrev TT3:=St3->Gp->(Bool->Gp->Prop)->Prop
abbrev TA3:=St3->Gp->(List T->Gp->Prop)->Prop
def Aft (K:Frg) (G:Gp) (H:Hp) (q:Q3) (Q:VK):Prop:=∀ x G',q x G'->∀ v H',Rp K H' x v->HR K G' H'->Kp G H G' H'->Q v H'
def qmo (K:Frg) (G:Gp) (H:Hp) (q:Bool->Gp->Prop) (Q:Bool->Hp->Prop):Prop:=∀ x G',q x G'->∀ H',HR K G' H'->Kp G H G' H'->Q x H'
def qpB (K:Frg) (G:Gp) (H:Hp) (q:List T->Gp->Prop) (Q:List V->Hp->Prop):Prop:=∀ x G',q x G'->∀ v H',Rps K H' x v->HR K G' H'->Kp G H G' H'->Q v H'
def lE (K:Frg) (t:TE3):TE:=λσ H Q=>∃ τ G q,Rel K τ G σ H/\t τ G q/\Aft K G H q Q
def lT (K:Frg) (t:TT3):TT:=λσ H Q=>∃ τ G q,Rel K τ G σ H/\t τ G q/\qmo K G H q Q
def lA (K:Frg) (t:TA3):TA:=λσ H Q=>∃ τ G q,Rel K τ G σ H/\t τ G q/\qpB K G H q Q
abbrev E3 (X:Cx) (e:Expr) (t:TE3):Prop:=PE X e (lE X.K t)
abbrev C3 (X:Cx) (e:Expr) (t:TT3):Prop:=PT X e (lT X.K t)
abbrev W3 (X:Cx) (e:Expr) (t:TT3):Prop:=PW X e (lT X.K t)
abbrev A3 (X:Cx) (es:List Expr) (t:TA3):Prop:=PA X es (lA X.K t)
def Aft.back {K:Frg} {G G1:Gp} {H H1:Hp} {q:Q3} {Q:VK} (a:Aft K G H q Q) (k:Kp G H G1 H1):Aft K G1 H1 q Q:=λx G' h v H' r hr k'=>a x G' h v H' r hr (k.trans k')
def qmo.back {K:Frg} {G G1:Gp} {H H1:Hp} {q:Bool->Gp->Prop} {Q:Bool->Hp->Prop} (a:qmo K G H q Q) (k:Kp G H G1 H1):qmo K G1 H1 q Q:=λx G' h H' hr k'=>a x G' h H' hr (k.trans k')
def EM {X:Cx} {e:Expr} {t t':TE} (h:PE X e t) (w:∀ σ H Q,t' σ H Q->t σ H Q):PE X e t':=λpins s σ H Q I q=>h pins s σ H Q I (w σ H Q q)
def qmx {X:Cx} {e:Expr} {t t':TT} (h:PT X e t) (w:∀ σ H Q,t' σ H Q->t σ H Q):PT X e t':=λpins s σ H Q I q=>h pins s σ H Q I (w σ H Q q)
def qpM {X:Cx} {e:Expr} {t t':TT} (h:PW X e t) (w:∀ σ H Q,t' σ H Q->t σ H Q):PW X e t':=λwh pins s σ H Q I q=>h wh pins s σ H Q I (w σ H Q q)
def qpc {X:Cx} {e:List Expr} {t t':TA} (h:PA X e t) (w:∀ σ H Q,t' σ H Q->t σ H Q):PA X e t':=λpos pins s σ H Q I q=>h pos pins s σ H Q I (w σ H Q q)
def zq {K:Frg} {ta:TE3} {τ:St3} {G:Gp} {σ:L2.St} {H:Hp} {q:Q3} {Q:VK} (r:Rel K τ G σ H) (h:ta τ G q)
  (n:∀ x G1,q x G1->∀ v H1,Rp K H1 x v->HR K G1 H1->Kp G H G1 H1->Rel K τ G1 σ H1->Q v H1):lE K ta σ H Q:=
 ⟨τ,G,q,r,h,λx G1 hq v H1 rx hr k=>n x G1 hq v H1 rx hr k (r.next hr k)⟩
def SM {K:Frg} {ta:TT3} {τ:St3} {G:Gp} {σ:L2.St} {H:Hp} {q:Bool->Gp->Prop} {Q:Bool->Hp->Prop} (r:Rel K τ G σ H) (h:ta τ G q)
  (n:∀ x G1,q x G1->∀ H1,HR K G1 H1->Kp G H G1 H1->Rel K τ G1 σ H1->Q x H1):lT K ta σ H Q:=
 ⟨τ,G,q,r,h,λx G1 hq H1 hr k=>n x G1 hq H1 hr k (r.next hr k)⟩
def JS {K:Frg} {ta:TA3} {τ:St3} {G:Gp} {σ:L2.St} {H:Hp} {q:List T->Gp->Prop} {Q:List V->Hp->Prop} (r:Rel K τ G σ H) (h:ta τ G q)
  (n:∀ x G1,q x G1->∀ v H1,Rps K H1 x v->HR K G1 H1->Kp G H G1 H1->Rel K τ G1 σ H1->Q v H1):lA K ta σ H Q:=
 ⟨τ,G,q,r,h,λx G1 hq v H1 rx hr k=>n x G1 hq v H1 rx hr k (r.next hr k)⟩
section
variable {X:Cx} {a b c:Expr} {ta tb tc:TE3} {pos:Pos}
def v3 (i:Nat):TE3:=λτ G q=>match τ[i]? with|some (some t)=>q t G|_=>False
def qmW (i:Nat) {x:Str} {pos:Pos} (hN:X.N[i]?=some x:=by rfl) (hv:Vis X.env.scope x:=by first|exact Or.inl rfl|exact Or.inr (Or.inl rfl)|exact Or.inr (Or.inr rfl)) (hd:(x==("__debug__" : Str))=false:=by decide)
  (hcd:(x==("__classdict__" : Str))=false:=by decide):E3 X (.Name x pos) (v3 i):=by
 refine EM (qiv (i:=i) hN hv hd hcd) λσ H Q ⟨τ,G,q,r,h,af⟩=>?_;unfold v3 at h;split at h
 ·rename_i t e;obtain ⟨v,e2,rv⟩:=r.st i t e;exact ⟨v,e2,af t G h v H rv r.hp Kp.refl⟩
 ·exact h.elim
def c3 (t:T):TE3:=λ_ G q=>q t G
def e_c {t:T} {v:V} {e:Expr} (h:PE X e (tC v)) (hr:∀ H,Rp X.K H t v):E3 X e (c3 t):=EM h λσ H Q ⟨τ,G,q,r,h,af⟩=>af t G h v H (hr H) r.hp Kp.refl
def qnw {i:Int} {j pos}:E3 X (.Constant (.int i) j pos) (c3 (.int i)):=e_c qiD λ_=>.int i
def qpw {b:Bool} {j pos}:E3 X (.Constant (.bool b) j pos) (c3 (.bl b)):=e_c qnW λ_=>.bl b
def qnS {j pos}:E3 X (.Constant .none j pos) (c3 .non):=e_c ql4 λ_=>.non
def qoi {x:Str} {j pos}:E3 X (.Constant (.str x) j pos) (c3 (.str x)):=e_c qd1 λ_=>.str x
def n3:TE3:=λ_ _ _=>False
abbrev R3:=T->T->Gp->Q3->Prop
def SU (K:Frg) (r3:R3) (r:R2):Prop:=∀ x y v u G H q Q,HR K G H->Rp K H x v->Rp K H y u->r3 x y G q->Aft K G H q Q->r v u H Q
def o3 (r:R3) (ta tb:TE3):TE3:=λτ G q=>ta τ G λx G1=>tb τ G1 λy G2=>r x y G2 q
def qdp {K:Frg} {r3:R3} {r:R2} (hr:SU K r3 r) {σ:L2.St} {H:Hp} {Q:VK} (h:lE K (o3 r3 ta tb) σ H Q):tOp r (lE K ta) (lE K tb) σ H Q:=by
 obtain ⟨τ,G,q,rl,h,af⟩:=h;refine zq rl h λx G1 h1 v H1 rx hr1 k1 rl1=>zq rl1 h1 λy G2 h2 u H2 ry hr2 k2 rl2=>?_;exact hr x y v u G2 H2 q Q hr2 (rx.keep hr1 k2) ry h2 (af.back (k1.trans k2))
def qgC {op:Operator} {r3:R3} {r:R2} (ho:OpR X (binaryOp op) r) (hr:SU X.K r3 r) (ha:E3 X a ta) (hb:E3 X b tb):E3 X (.BinOp a op b pos) (o3 r3 ta tb):=
 EM (qnY ho ha hb) λ_ _ _ h=>qdp hr h
def qnx {op:CmpOp} {r3:R3} {r:R2} (ho:OpR X (compareOp op) r) (hr:SU X.K r3 r) (ha:E3 X a ta) (hb:E3 X b tb) (hm:behindInMarks op b=false):E3 X (.Compare a [op] [b] pos) (o3 r3 ta tb):=
 EM (qgp ho ha hb hm) λ_ _ _ h=>qdp hr h
def tb3 (t:TE3):TT3:=λτ G q=>t τ G λx G'=>match x with|.bl k=>q k G'|_=>False
def qhg {K:Frg} {t:TE3} {t2:TE} (hw:∀ σ H Q,lE K t σ H Q->t2 σ H Q) {σ:L2.St} {H:Hp} {Q:Bool->Hp->Prop} (h:lT K (tb3 t) σ H Q):qjD t2 σ H Q:=by
 obtain ⟨τ,G,q,rl,h,af⟩:=h;refine hw _ _ _ (zq rl h λx G1 h1 v H1 rx hr1 k1 rl1=>?_);cases x with
 |bl k=>cases rx;exact ⟨k,rfl,af k G1 h1 H1 hr1 k1⟩
 |_=>exact h1.elim
def qow {op:CmpOp} {r3:R3} {r:R2} (ho:OpR X (compareOp op) r) (hr:SU X.K r3 r) (ha:E3 X a ta) (hb:E3 X b tb) (hm:behindInMarks op b=false):C3 X (.Compare a [op] [b] pos) (tb3 (o3 r3 ta tb)):=
 qmx (qaS ho ha hb hm) λ_ _ _ h=>qhg (λ_ _ _=>qdp hr) h
def ch3 (r r':R3) (ta tb tc:TE3):TE3:=λτ G q=>ta τ G λx G1=>tb τ G1 λy G2=>r x y G2 λz G3=>match z with
 |.bl k=>if k=true then tc τ G3 λw G4=>r' y w G4 q else q (.bl false) G3
 |_=>False
def qoU (K:Frg) (r3:T->Gp->Q3->Prop) (r:V->Hp->VK->Prop):Prop:=∀ x v G H q Q,HR K G H->Rp K H x v->r3 x G q->Aft K G H q Q->r v H Q
def u3 (r:T->Gp->Q3->Prop) (ta:TE3):TE3:=λτ G q=>ta τ G λx G1=>r x G1 q
def qpT {op:UnaryOp} {r3:T->Gp->Q3->Prop} {r:V->Hp->VK->Prop} (ho:UnR X (unaryOp op) r) (hr:qoU X.K r3 r) (ha:E3 X a ta):E3 X (.UnaryOp op a pos) (u3 r3 ta):=
 EM (qoa ho ha) λ_ _ _ ⟨τ,G,q,rl,h,af⟩=>zq rl h λx G1 h1 v H1 rx hr1 k1 rl1=>hr x v G1 H1 q _ hr1 rx h1 (af.back k1)
def TH:T->Gp->Q3->Prop:=λx G q=>match x with|.int i=>q (.int (-i)) G|_=>False
def qgt {K:Frg}:qoU K TH (rU λi=>.int (-i)):=λx v G H q Q hr rx h af=>by
 cases x with
 |int i=>cases rx;exact ⟨i,rfl,af _ G h _ H (.int _) hr Kp.refl⟩
 |_=>exact h.elim
def iI (f:Int->Int->Int):R3:=λx y G q=>match x,y with|.int i,.int j=>q (.int (f i j)) G|_,_=>False
def iC (C:Int->Int->Prop) (f:Int->Int->Int):R3:=λx y G q=>match x,y with|.int i,.int j=>C i j/\q (.int (f i j)) G|_,_=>False
def iB (f:Int->Int->Bool):R3:=λx y G q=>match x,y with|.int i,.int j=>q (.bl (f i j)) G|_,_=>False
def qfr {K:Frg} {f:Int->Int->Int}:SU K (iI f) (rI0 λi j=>.int (f i j)):=λx y v u G H q Q hr rx ry h af=>by
 cases x<;>try exact h.elim
 cases y<;>try exact h.elim
 cases rx;cases ry;exact ⟨_,_,rfl,rfl,af _ G h _ H (.int _) hr Kp.refl⟩
def LX {K:Frg} {C:Int->Int->Prop} {f:Int->Int->Int}:SU K (iC C f) (rI C λi j=>.int (f i j)):=λx y v u G H q Q hr rx ry h af=>by
 cases x<;>try exact h.elim
 cases y<;>try exact h.elim
 cases rx;cases ry;exact ⟨_,_,rfl,rfl,h.1,af _ G h.2 _ H (.int _) hr Kp.refl⟩
def UJ {K:Frg} {f:Int->Int->Bool}:SU K (iB f) (rI0 λi j=>.bl (f i j)):=λx y v u G H q Q hr rx ry h af=>by
 cases x<;>try exact h.elim
 cases y<;>try exact h.elim
 cases rx;cases ry;exact ⟨_,_,rfl,rfl,af _ G h _ H (.bl _) hr Kp.refl⟩
def qns (ha:E3 X a ta) (hb:E3 X b tb):E3 X (.BinOp a .Sub b pos) (o3 (iI (·-·)) ta tb):=qgC qhR qfr ha hb
def qol (ha:E3 X a ta) (hb:E3 X b tb):E3 X (.BinOp a .Mult b pos) (o3 (iC jy (·*·)) ta tb):=qgC qkG LX ha hb
def qnq (ha:E3 X a ta) (hb:E3 X b tb):E3 X (.BinOp a .Mod b pos) (o3 (iC (λ_ j=>0<j) (·%·)) ta tb):=qgC qjq LX ha hb
def qnC (ha:E3 X a ta) (hb:E3 X b tb):E3 X (.BinOp a .FloorDiv b pos) (o3 (iC qb4 (·/·)) ta tb):=qgC qhj LX ha hb
def qm7 (ha:E3 X a ta) (hb:E3 X b tb):E3 X (.BinOp a .Pow b pos) (o3 (iC qlC (λi j=>i ^ j.toNat)) ta tb):=qgC qkf LX ha hb
def ql3 (ha:E3 X a ta) (hb:E3 X b tb):E3 X (.BinOp a .BitAnd b pos) (o3 (iI Builtin.bitAnd) ta tb):=qgC qih qfr ha hb
def qor (ha:E3 X a ta):E3 X (.UnaryOp .USub a pos) (u3 TH ta):=qpT qkE qgt ha
def Z0:T->T->Option Bool
 |.non,.non=>some true|.non,.int _=>some false|.int _,.non=>some false|.non,.bl _=>some false|.bl _,.non=>some false|.non,.str _=>some false|.str _,.non=>some false
 |.int i,.int j=>some (decide (i=j))|.bl i,.bl j=>some (decide (i=j))|.str i,.str j=>some (decide (i=j))
 |.int _,.str _=>some false|.str _,.int _=>some false|.bl _,.str _=>some false|.str _,.bl _=>some false
 |_,_=>none
def MF {K:Frg} {H:Hp} {x y:T} {v u:V} {k:Bool} (rx:Rp K H x v) (ry:Rp K H y u) (h:Z0 x y=some k):qoq v u=true/\decide (v=u)=k:=by
 cases rx<;>cases ry<;>simp [Z0] at h<;>subst h<;>refine ⟨rfl,?_⟩<;>simp
def qhP (neg:Bool):R3:=λx y G q=>match y with|.non=>q (.bl (match x with|.non=>!neg|_=>neg)) G|_=>False
def qkz {K:Frg} {H:Hp} {x:T} {v:V} (rx:Rp K H x v):decide (v=.non)=(match x with|.non=>true|_=>false):=by
 cases rx<;>simp
def KR {K:Frg}:SU K (qhP false) (λx y H Q=>y=.non/\Q (.bl (decide (x=.non))) H):=λx y v u G H q Q hr rx ry h af=>by
 cases y<;>try exact h.elim
 cases ry;refine ⟨rfl,?_⟩;rw [qkz rx];refine af _ G h _ H ?_ hr Kp.refl;cases x<;>exact .bl _
variable {tA tB:TT3} {jw:List Expr}
def qoV (t u:TT3):TT3:=λτ G q=>t τ G λk G1=>if k=true then u τ G1 q else q false G1
def or3 (t u:TT3):TT3:=λτ G q=>t τ G λk G1=>if k=true then q true G1 else u τ G1 q
def SX (t:TT3):TT3:=λτ G q=>t τ G λk G1=>q (!k) G1
def qn0 (ha:C3 X a tA):W3 X (.BoolOp .Or [a] pos) tA:=qjz ha
def qpF (ha:C3 X a tA) (hb:W3 X (.BoolOp .Or (b::jw) pos) tB):W3 X (.BoolOp .Or (a::b::jw) pos) (or3 tA tB):=
 qpM (qmP ha hb) λ_ _ _ ⟨τ,G,q,rl,h,af⟩=>SM rl h λk G1 h1 H1 hr1 k1 rl1=>by
  cases k with
  |true=>rw [if_pos rfl] at h1 ⊢;exact af _ G1 h1 H1 hr1 k1
  |false=>rw [if_neg Bool.false_ne_true] at h1 ⊢;exact ⟨τ,G1,q,rl1,h1,af.back k1⟩
def qog (ha:C3 X a tA):C3 X (.UnaryOp .Not a pos) (SX tA):=
 qmx (qiR ha) λ_ _ _ ⟨τ,G,q,rl,h,af⟩=>SM rl h λk G1 h1 H1 hr1 k1 rl1=>af _ G1 h1 H1 hr1 k1
def qmX {e:Expr} {t:TE3} (h:E3 X e t) (he:∀ whole,isTrue e X.env whole=(do let v←whole;standAt e.pos;holding [v] (truthy v)):=by intro _;rfl):C3 X e (tb3 t):=
 qmx (qlw h he) λ_ _ _ h=>qhg (λ_ _ _ h=>h) h
def ju (ta tb:TE3):TE3:=λτ G q=>ta τ G λx G1=>match x with|.bl k=>if k=true then tb τ G1 q else q (.bl false) G1|_=>False
def qhE (ta tb:TE3):TE3:=λτ G q=>ta τ G λx G1=>match x with|.bl k=>if k=true then q (.bl true) G1 else tb τ G1 q|_=>False
def TW (ta:TE3):TE3:=λτ G q=>ta τ G λx G1=>match x with|.bl k=>q (.bl (!k)) G1|_=>False
def qmS {op} (h:E3 X a ta):E3 X (.BoolOp op [a] pos) ta:=qjP h
def qn3 (ha:E3 X a ta) (hb:E3 X (.BoolOp .And (b::jw) pos) tb):E3 X (.BoolOp .And (a::b::jw) pos) (ju ta tb):=
 EM (qk7 ha hb) λ_ _ _ ⟨τ,G,q,rl,h,af⟩=>zq rl h λx G1 h1 v H1 rx hr1 k1 rl1=>by
  cases x with
  |bl k=>
   cases rx;refine ⟨k,rfl,?_⟩;cases k with
   |true=>rw [if_pos rfl];exact ⟨τ,G1,q,rl1,(show tb τ G1 q from by simpa using h1),af.back k1⟩
   |false=>rw [if_neg Bool.false_ne_true];exact af _ G1 (by simpa using h1) _ H1 (.bl false) hr1 k1
  |_=>exact h1.elim
def qpX (ha:E3 X a ta) (hb:E3 X (.BoolOp .Or (b::jw) pos) tb):E3 X (.BoolOp .Or (a::b::jw) pos) (qhE ta tb):=
 EM (qnO ha hb) λ_ _ _ ⟨τ,G,q,rl,h,af⟩=>zq rl h λx G1 h1 v H1 rx hr1 k1 rl1=>by
  cases x with
  |bl k=>
   cases rx;refine ⟨k,rfl,?_⟩;cases k with
   |true=>rw [if_pos rfl];exact af _ G1 (by simpa using h1) _ H1 (.bl true) hr1 k1
   |false=>rw [if_neg Bool.false_ne_true];exact ⟨τ,G1,q,rl1,(show tb τ G1 q from by simpa using h1),af.back k1⟩
  |_=>exact h1.elim
def qnB (ha:E3 X a ta):E3 X (.UnaryOp .Not a pos) (TW ta):=
 EM (qjO ha) λ_ _ _ ⟨τ,G,q,rl,h,af⟩=>zq rl h λx G1 h1 v H1 rx hr1 k1 rl1=>by
  cases x with
  |bl k=>cases rx;exact ⟨k,rfl,af _ G1 h1 _ H1 (.bl _) hr1 k1⟩
  |_=>exact h1.elim
def if3 (t:TT3) (ta tb:TE3):TE3:=λτ G q=>t τ G λk G1=>if k=true then ta τ G1 q else tb τ G1 q
def qpS {c:Expr} (hc:C3 X c tA) (ha:E3 X a ta) (hb:E3 X b tb):E3 X (.IfExp c a b pos) (if3 tA ta tb):=
 EM (qcX hc ha hb) λ_ _ _ ⟨τ,G,q,rl,h,af⟩=>SM rl h λk G1 h1 H1 hr1 k1 rl1=>by
  cases k with
  |true=>rw [if_pos rfl] at h1 ⊢;exact ⟨τ,G1,q,rl1,h1,af.back k1⟩
  |false=>rw [if_neg Bool.false_ne_true] at h1 ⊢;exact ⟨τ,G1,q,rl1,h1,af.back k1⟩
variable {e:Expr} {es:List Expr} {te:TE3} {t:TA3}
def qk:TA3:=λ_ G q=>q [] G
def qc (ta:TE3) (tr:TA3):TA3:=λτ G q=>ta τ G λx G1=>tr τ G1 λxs G2=>q (x::xs) G2
def qok:A3 X [] qk:=qpc XG λ_ H _ ⟨τ,G,q,rl,h,af⟩=>af _ G h _ H .nil rl.hp Kp.refl
def qkT (ha:E3 X e te) (hr:A3 X es t) (hs:starEach (e::es) X.env=(false,eval e X.env)::starEach es X.env:=by rfl):A3 X (e::es) (qc te t):=
 qpc (ZO ha hr hs) λ_ _ _ ⟨τ,G,q,rl,h,af⟩=>zq rl h λx G1 h1 v H1 rx hr1 k1 rl1=>JS rl1 h1 λxs G2 h2 vs H2 rs hr2 k2 rl2=>
  af _ G2 h2 _ H2 (.cons (rx.keep hr1 k2) rs) hr2 (k1.trans k2)
def jW (t:TA3):TE3:=λτ G q=>t τ G λxs G1=>xs.length<=sizeLine/\q (.tup xs) G1
def JH (t:TA3):TE3:=λτ G q=>t τ G λxs G1=>xs.length<=sizeLine/\∀ p,G1 p=none->q (.ref p) (gu G1 p (.lst xs))
def qnG {x1} (h:A3 X es t):E3 X (.Tuple es x1 pos) (jW t):=
 EM (qeP h) λ_ _ _ ⟨τ,G,q,rl,h,af⟩=>JS rl h λxs G1 h1 vs H1 rs hr1 k1 rl1=>⟨by rw [← rs.length];exact h1.1,λp hp=>
  af _ G1 h1.2 _ _ (.tup (SqT.of qU) (rs.keep hr1 (Kp.laid hp))) (hr1.laid hp) (k1.trans (Kp.laid hp))⟩
def qn8 (h:A3 X es t):E3 X (.List es pos) (JH t):=
 EM (qlZ h) λ_ _ _ ⟨τ,G,q,rl,h,af⟩=>JS rl h λxs G1 h1 vs H1 rs hr1 k1 rl1=>⟨by rw [← rs.length];exact h1.1,λp hp=>
  af _ _ (h1.2 p (hr1.free hp)) _ _ (.ref p) (hr1.newL hp rs) (k1.trans (Kp.newL hp))⟩
def SS (K:Frg) (r3:List T->Gp->Q3->Prop) (r:List V->Hp->VK->Prop):Prop:=∀ xs vs G H q Q,HR K G H->Rps K H xs vs->r3 xs G q->Aft K G H q Q->r vs H Q
def cb3 (r:List T->Gp->Q3->Prop) (t:TA3):TE3:=λτ G q=>t τ G λxs G1=>r xs G1 q
def ql0 {K:Frg} {r3:List T->Gp->Q3->Prop} {r:List V->Hp->VK->Prop} (hr:SS K r3 r) {σ:L2.St} {H:Hp} {Q:VK} (h:lE K (cb3 r3 t) σ H Q):tCB r (lA K t) σ H Q:=by
 obtain ⟨τ,G,q,rl,h,af⟩:=h;exact JS rl h λxs G1 h1 vs H1 rs hr1 k1 rl1=>hr xs vs G1 H1 q Q hr1 rs h1 (af.back k1)
def qgV {x:Str} {p:Pos} {id:String} {r3:List T->Gp->Q3->Prop} {r:List V->Hp->VK->Prop} (hc:QL X (.builtin id) r) (hr:SS X.K r3 r) (hg:Gl X x) (hm:X.mg x=none) (hv:bootBuiltins x=some (.builtin id)) (ha:A3 X (e::es) t) (hn:x≠"__name__" := by decide) (hdb:(x==("__debug__" : Str))=false:=by decide)
  (he:starEach (e::es) X.env=(false,eval e X.env)::starEach es X.env:=by rfl) (hpl:(backTo pos (starEach es X.env)).any (·.1)=false:=by rfl):E3 X (.Call (.Name x p) (e::es) [] pos) (cb3 r3 t):=
 EM (E6 hc hg hm hv ha hn hdb he hpl) λ_ _ _ h=>ql0 hr h
def qdn {x:Str} {p:Pos} {ty:String} {r3:List T->Gp->Q3->Prop} {r:List V->Hp->VK->Prop} (hc:QL X (.type ty) r) (hr:SS X.K r3 r) (hg:Gl X x) (hm:X.mg x=none) (hv:bootBuiltins x=some (.type ty)) (ha:A3 X (e::es) t) (hn:x≠"__name__" := by decide) (hdb:(x==("__debug__" : Str))=false:=by decide)
  (he:starEach (e::es) X.env=(false,eval e X.env)::starEach es X.env:=by rfl) (hpl:(backTo pos (starEach es X.env)).any (·.1)=false:=by rfl):E3 X (.Call (.Name x p) (e::es) [] pos) (cb3 r3 t):=
 EM (RF hc hg hm hv ha hn hdb he hpl) λ_ _ _ h=>ql0 hr h
end
def getL (G:Gp) (p:Addr):Option (List T):=match G p with|some (.lst xs)=>some xs|some (.frz xs)=>some xs|none=>none
section
variable {K:Frg} {G G':Gp} {H H':Hp}
def zu (hr:HR K G H) {p:Addr} {xs:List T} (h:getL G p=some xs):∃ vs,SqL K H p vs/\Rps K H xs vs:=by
 unfold getL at h;split at h
 ·rename_i ys e;cases h;obtain ⟨vs,h1,h2⟩:=hr p _ e;exact ⟨vs,SqL.of h1,h2⟩
 ·rename_i ys e;cases h;obtain ⟨vs,⟨o,h1⟩,h2⟩:=hr p _ e;exact ⟨vs,.inl (.inr ⟨o,h1⟩),h2⟩
 ·cases h
def HR.lst (hr:HR K G H) {p:Addr} {xs:List T} (h:G p=some (.lst xs)):∃ vs,H p=some (.lst vs)/\Rps K H xs vs:=hr p _ h
def Rps.atI {xs:List T} {vs:List V} {i:Int} {x:T} (r:Rps K H xs vs) (h:atI xs i=some x):∃ v,L2.atI vs i=some v/\Rp K H x v:=by
 unfold L2.atI at h ⊢;rw [← r.length];cases e:ixN xs.length i with
 |none=>rw [e] at h;cases h
 |some j=>
  rw [e] at h;exact r.get (by simpa using h)
end
def ix3:R3:=λx y G q=>match x,y with
 |.tup xs,.int i=>(match atI xs i with|some z=>q z G|none=>False)
 |.ref p,.int i=>(match getL G p with|some xs=>(match atI xs i with|some z=>q z G|none=>False)|none=>False)
 |_,_=>False
section
variable {X:Cx} {a b c e:Expr} {es:List Expr} {ta tb tc te:TE3} {t:TA3} {pos:Pos}
def qh9 {K:Frg}:SU K ix3 (rIx K):=λx y v u G H q Q hr rx ry h af=>by
 cases x<;>try exact h.elim
 case tup xs=>
  cases y<;>try exact h.elim
  case int i=>
   unfold ix3 at h;simp only at h;split at h
   ·rename_i z e;cases ry;cases rx with
    |tup hs rs=>
     obtain ⟨w,e2,rw'⟩:=rs.atI e;exact .inr (.inl ⟨_,_,i,w,rfl,rfl,hs,e2,af z G h w H rw' hr Kp.refl⟩)
   ·exact h.elim
 case ref p=>
  cases y<;>try exact h.elim
  case int i=>
   unfold ix3 at h;simp only at h;split at h
   ·rename_i xs e0;split at h
    ·rename_i z e;cases ry;cases rx;obtain ⟨vs,hs,rs⟩:=zu hr e0;obtain ⟨w,e2,rw'⟩:=rs.atI e;exact .inl ⟨p,vs,i,w,rfl,rfl,hs,e2,af z G h w H rw' hr Kp.refl⟩
    ·exact h.elim
   ·exact h.elim
def qpZ (ha:E3 X a ta) (hb:E3 X b tb) (hs:UN b:=by intro _ _;rfl):E3 X (.Subscript a b pos) (o3 ix3 ta tb):=EM (qkk qhY ha hb hs) λ_ _ _ h=>qdp qh9 h
def WF {α:Type} (xs:List α) (lo hi:Option Int):List α:=(xs.drop (HT.sIx xs.length 0 lo)).take (HT.sIx xs.length xs.length hi-HT.sIx xs.length 0 lo)
def Rps.cut {K:Frg} {H:Hp} {xs:List T} {vs:List V} (r:Rps K H xs vs) (lo hi:Option Int):Rps K H (WF xs lo hi) (qei vs lo hi):=by
 unfold WF qei;rw [r.length];exact (r.drop _).take _
abbrev TO3:=St3->Gp->(Option Int->Gp->Prop)->Prop
def lO (K:Frg) (t:TO3):TO:=λσ H Q=>∃ τ G q,Rel K τ G σ H/\t τ G q/\∀ x G',q x G'->∀ H',HR K G' H'->Kp G H G' H'->Q x H'
abbrev P3 (X:Cx) (e:Option Expr) (t:TO3):Prop:=PO X e (lO X.K t)
def np3:TO3:=λ_ G q=>q none G
def sp3 (t:TE3):TO3:=λτ G q=>t τ G λx G1=>match x with|.int i=>q (some i) G1|_=>False
def qpm {X:Cx} {e:Option Expr} {t t':TO} (h:PO X e t) (w:∀ σ H Q,t' σ H Q->t σ H Q):PO X e t':=λpins s σ H Q I q=>h pins s σ H Q I (w σ H Q q)
def qid:P3 X none np3:=qpm qgA λ_ H _ ⟨τ,G,q,rl,h,af⟩=>af none G h H rl.hp Kp.refl
def qiT (h:E3 X e te):P3 X (some e) (sp3 te):=qpm (qhf h) λ_ _ _ ⟨τ,G,q,rl,h,af⟩=>zq rl h λx G1 h1 v H1 rx hr1 k1 rl1=>by
 cases x<;>try exact h1.elim
 cases rx;exact ⟨_,rfl,af _ G1 h1 H1 hr1 k1⟩
def sl3:T->Option Int->Option Int->Gp->Q3->Prop:=λx lo hi G q=>match x with
 |.tup xs=>¬ (HT.sIx xs.length 0 lo=0/\HT.sIx xs.length xs.length hi=xs.length)/\q (.tup (WF xs lo hi)) G
 |.ref p=>(match getL G p with|some xs=>∀ a,G a=none->q (.ref a) (gu G a (.lst (WF xs lo hi)))|none=>False)
 |_=>False
def NM (te:TE3) (tl th:TO3):TE3:=λτ G q=>te τ G λx G1=>tl τ G1 λl G2=>th τ G2 λu G3=>sl3 x l u G3 q
def qgH {lo hi:Option Expr} {tl th:TO3} {p2:Pos} (he:E3 X e te) (hl:P3 X lo tl) (hu:P3 X hi th):E3 X (.Subscript e (.Slice lo hi none p2) pos) (NM te tl th):=
 EM (qdf (qjn.or qf9) he hl hu) λ_ _ _ ⟨τ,G,q,rl,h,af⟩=>zq rl h λx G1 h1 v H1 rx hr1 k1 rl1=>
  ⟨τ,G1,_,rl1,h1,λl G2 h2 H2 hr2 k2=>⟨τ,G2,_,rl1.next hr2 k2,h2,λu G3 h3 H3 hr3 k3=>by
   have kk:=(k1.trans k2).trans k3;have rx3:=(rx.keep hr1 k2).keep hr2 k3;cases x<;>try exact h3.elim
   case tup xs=>
    cases rx3 with
    |tup hs rs=>
     refine .inl ⟨_,_,rfl,hs,by rw [← rs.length];exact h3.1,λp hp=>?_⟩;exact af _ G3 h3.2 _ _ (.tup (SqT.of qU) ((rs.cut _ _).keep hr3 (Kp.laid hp))) (hr3.laid hp) (kk.trans (Kp.laid hp))
   case ref p=>
    unfold sl3 at h3;simp only at h3;split at h3
    ·rename_i xs e0;cases rx3;obtain ⟨vs,hs,rs⟩:=zu hr3 e0;refine .inr ⟨p,vs,rfl,hs,λa ha=>?_⟩;exact af _ _ (h3 a (hr3.free ha)) _ _ (.ref a) (hr3.newL ha (rs.cut _ _)) (kk.trans (Kp.newL ha))
    ·exact h3.elim⟩⟩
def NZ {K:Frg} {H:Hp} {xs:List T} {vs:List V} (r:Rps K H xs vs):vs=[]↔xs=[]:=by
 cases r<;>simp
def zK:R3:=λx y G q=>match x,y with
 |.tup xs,.tup ys=>xs≠[]/\xs.length+ys.length<=sizeLine/\q (.tup (xs++ys)) G
 |.ref a,.ref b=>(match G a,G b with|some (.lst xs),some (.lst ys)=>xs.length+ys.length<=sizeLine/\∀ p,G p=none->q (.ref p) (gu G p (.lst (xs++ys)))|_,_=>False)
 |.int i,.int j=>q (.int (i+j)) G
 |_,_=>False
def qho {K:Frg}:SU K zK (λx y H Q=>(rI0 (λi j=>.int (i+j)) x y H Q\/qjh K x y H Q)\/qpl x y H Q):=λx y v u G H q Q hr rx ry h af=>by
 cases x<;>try exact h.elim
 case int i=>
  cases y<;>try exact h.elim
  cases rx;cases ry;exact .inl (.inl ⟨_,_,rfl,rfl,af _ G h _ H (.int _) hr Kp.refl⟩)
 case tup xs=>
  cases y<;>try exact h.elim
  case tup ys=>
   obtain ⟨h1,h2,h3⟩:=h;cases rx with
   |tup hs rs=>
    cases ry with
    |tup hs' rs'=>
     refine .inl (.inr ⟨_,_,_,_,rfl,rfl,hs,hs',λz=>h1 ((NZ rs).mp z),by rw [← rs.length,← rs'.length];exact h2,λz=>?_,λz p hp=>?_⟩)
     ·have e:=(NZ rs').mp z;subst e;rw [List.append_nil] at h3;exact af _ G h3 _ H (.tup hs rs) hr Kp.refl
     ·exact af _ G h3 _ _ (.tup (SqT.of qU) ((rs.append rs').keep hr (Kp.laid hp))) (hr.laid hp) (Kp.laid hp)
 case ref a=>
  cases y<;>try exact h.elim
  case ref b=>
   unfold zK at h;simp only at h;split at h
   ·rename_i xs ys e1 e2;cases rx;cases ry;obtain ⟨vs,g1,r1⟩:=hr.lst e1;obtain ⟨us,g2,r2⟩:=hr.lst e2;refine .inr ⟨a,b,vs,us,rfl,rfl,g1,g2,by rw [← r1.length,← r2.length];exact h.1,λp hp=>?_⟩;exact af _ _ (h.2 p (hr.free hp)) _ _ (.ref p) (hr.newL hp (r1.append r2)) (Kp.newL hp)
   ·exact h.elim
def qja (ha:E3 X a ta) (hb:E3 X b tb):E3 X (.BinOp a .Add b pos) (o3 zK ta tb):=qgC ((qlE.or qhq).or qlo) qho ha hb
def U6:T->Bool
 |.non=>true|.bl _=>true|.int _=>true|.str _=>true|_=>false
def eqF:T->T->Bool
 |.non,.non=>true
 |.bl a,.bl b=>a==b
 |.bl a,.int b=>(if a then 1 else 0)==b
 |.int a,.bl b=>a==(if b then 1 else 0)
 |.int a,.int b=>a==b
 |.str a,.str b=>a==b
 |_,_=>false
def KU {K:Frg} {H:Hp} {x:T} {v:V} (r:Rp K H x v) (h:U6 x=true):WY v=true:=by
 cases r<;>first|rfl|(cases h)
def CF {K:Frg} {H:Hp}:∀ {x:List T} {v:List V},Rps K H x v->x.all U6=true->v.all WY=true
 |_,_,.nil,_=>rfl
 |_,_,.cons a b,h=>by
  rw [List.all_cons,Bool.and_eq_true] at h ⊢;exact ⟨KU a h.1,CF b h.2⟩
def qly {K:Frg} {H:Hp} {x y:T} {v u:V} (r:Rp K H x v) (s:Rp K H y u) (h:U6 x=true) (h':U6 y=true):eqV v u=eqF x y:=by
 cases r<;>first|(cases h;done)|(cases s<;>first|rfl|(cases h';done))
def qab {K:Frg} {H:Hp} {x:T} {v:V} (r:Rp K H x v) (h:U6 x=true):∀ {ys:List T} {us:List V},Rps K H ys us->ys.all U6=true->inV v us=ys.any λy=>eqF y x
 |_,_,.nil,_=>rfl
 |_,_,.cons a b,h'=>by
  rw [List.all_cons,Bool.and_eq_true] at h';unfold inV;rw [List.any_cons,List.any_cons,qly a r h'.1 h];congr 1;exact qab r h b h'.2
def in3 (neg:Bool):R3:=λx y G q=>U6 x=true/\match y with
 |.tup ys=>ys.all U6=true/\q (.bl (if neg then !(ys.any λy=>eqF y x) else (ys.any λy=>eqF y x))) G
 |.ref p=>(match getL G p with|some ys=>ys.all U6=true/\q (.bl (if neg then !(ys.any λy=>eqF y x) else (ys.any λy=>eqF y x))) G|none=>False)
 |_=>False
def qkD {K:Frg} {neg:Bool}:SU K (in3 neg) (rIn K neg):=λx y v u G H q Q hr rx ry h af=>by
 obtain ⟨hf,h⟩:=h;cases y<;>try exact h.elim
 case tup ys=>
  cases ry with
  |tup hs rs=>
   refine ⟨_,_,rfl,.inr hs,KU rx hf,CF rs h.1,?_⟩;rw [qab rx hf rs h.1];exact af _ G h.2 _ H (.bl _) hr Kp.refl
 case ref p=>
  simp only at h;split at h
  ·rename_i ys e;cases ry;obtain ⟨us,hs,rs⟩:=zu hr e;refine ⟨_,_,rfl,.inl hs,KU rx hf,CF rs h.1,?_⟩;rw [qab rx hf rs h.1];exact af _ G h.2 _ H (.bl _) hr Kp.refl
  ·exact h.elim
def EG:List T->Gp->Q3->Prop:=λxs G q=>match xs with
 |[.tup ys]=>q (.int ys.length) G
 |[.str y]=>y.length<=sizeLine/\q (.int y.length) G
 |[.ref p]=>(match getL G p with|some ys=>q (.int ys.length) G|none=>False)
 |_=>False
def CN {K:Frg} {H:Hp} {x:T} {vs:List V} (r:Rps K H [x] vs):∃ v,vs=[v]/\Rp K H x v:=by
 cases r with
 |cons a b=>cases b;exact ⟨_,rfl,a⟩
def qmr {K:Frg} {H:Hp} {x y:T} {vs:List V} (r:Rps K H [x,y] vs):∃ v u,vs=[v,u]/\Rp K H x v/\Rp K H y u:=by
 cases r with
 |cons a b=>cases b with|cons c d=>cases d;exact ⟨_,_,rfl,a,c⟩
def zU {K:Frg}:SS K EG (λxs H Q=>∃ x n,xs=[x]/\qpg K x H n/\Q (.int n) H):=λxs vs G H q Q hr rs h af=>by
 unfold EG at h;split at h
 ·obtain ⟨v,rfl,r⟩:=CN rs;cases r with
  |tup hs r2=>exact ⟨_,_,rfl,.inr ⟨_,hs,rfl⟩,by rw [← r2.length];exact af _ G h _ H (.int _) hr Kp.refl⟩
 ·obtain ⟨v,rfl,r⟩:=CN rs;cases r;exact ⟨_,_,rfl,⟨h.1,rfl⟩,af _ G h.2 _ H (.int _) hr Kp.refl⟩
 ·obtain ⟨v,rfl,r⟩:=CN rs;split at h
  ·rename_i ys e;cases r;obtain ⟨us,hs,r2⟩:=zu hr e;exact ⟨_,_,rfl,.inl ⟨_,hs,rfl⟩,by rw [← r2.length];exact af _ G h _ H (.int _) hr Kp.refl⟩
  ·exact h.elim
 ·exact h.elim
def qfQ:List T->Gp->Q3->Prop:=λxs G q=>match xs with|[.int i]=>q (.int (if i<0 then -i else i)) G|_=>False
def NT {K:Frg}:SS K qfQ (λxs H Q=>∃ i,xs=[.int i]/\Q (.int (if i<0 then -i else i)) H):=λxs vs G H q Q hr rs h af=>by
 unfold qfQ at h;split at h
 ·obtain ⟨v,rfl,r⟩:=CN rs;cases r;exact ⟨_,rfl,af _ G h _ H (.int _) hr Kp.refl⟩
 ·exact h.elim
def qg8:List T->Gp->Q3->Prop:=λxs G q=>match xs with|[.int i,.int j]=>q (.int (if j<i then j else i)) G|_=>False
def qhd {K:Frg}:SS K qg8 (λxs H Q=>∃ i j,xs=[.int i,.int j]/\Q (.int (if j<i then j else i)) H):=λxs vs G H q Q hr rs h af=>by
 unfold qg8 at h;split at h
 ·obtain ⟨v,u,rfl,r,r'⟩:=qmr rs;cases r;cases r';exact ⟨_,_,rfl,af _ G h _ H (.int _) hr Kp.refl⟩
 ·exact h.elim
def qo5:List T->Gp->Q3->Prop:=λxs G q=>match xs with|[.int i,.int j]=>q (.int (if j > i then j else i)) G|_=>False
def NP:List T->Gp->Q3->Prop:=λxs G q=>match xs with|[.int i]=>q (.int i) G|[.bl k]=>q (.int (if k then 1 else 0)) G|_=>False
def KC {K:Frg}:SS K NP (λxs H Q=>(∃ i,xs=[.int i]/\Q (.int i) H)\/∃ k,xs=[.bl k]/\Q (.int (if k then 1 else 0)) H):=λxs vs G H q Q hr rs h af=>by
 unfold NP at h;split at h
 ·obtain ⟨v,rfl,r⟩:=CN rs;cases r;exact .inl ⟨_,rfl,af _ G h _ H (.int _) hr Kp.refl⟩
 ·obtain ⟨v,rfl,r⟩:=CN rs;cases r;exact .inr ⟨_,rfl,af _ G h _ H (.int _) hr Kp.refl⟩
 ·exact h.elim
def ZE:List T->Gp->Q3->Prop:=λxs G q=>match xs with
 |[.tup ys]=>q (.tup ys) G
 |[.ref p]=>(match getL G p with|some ys=>q (.tup ys) G|none=>False)
 |_=>False
def JZ {K:Frg}:SS K ZE (λxs H Q=>∃ p ys,xs=[.ref p]/\((SqL K H p ys/\∀ l,H l=none->Q (.ref l) (upd H l (.tup ys)))\/(SqT K H p ys/\Q (.ref p) H))):=λxs vs G H q Q hr rs h af=>by
 unfold ZE at h;split at h
 ·obtain ⟨v,rfl,r⟩:=CN rs;cases r with
  |tup hs r2=>exact ⟨_,_,rfl,.inr ⟨hs,af _ G h _ H (.tup hs r2) hr Kp.refl⟩⟩
 ·obtain ⟨v,rfl,r⟩:=CN rs;split at h
  ·rename_i ys e;cases r;obtain ⟨us,hs,r2⟩:=zu hr e;exact ⟨_,_,rfl,.inl ⟨hs,λl hl=>af _ G h _ _ (.tup (SqT.of qU) (r2.keep hr (Kp.laid hl))) (hr.laid hl) (Kp.laid hl)⟩⟩
  ·exact h.elim
 ·exact h.elim
def RT:List T->Gp->Q3->Prop:=λxs G q=>match xs with
 |[.tup ys]=>∀ p,G p=none->q (.ref p) (gu G p (.lst ys))
 |[.ref p]=>(match getL G p with|some ys=>∀ p,G p=none->q (.ref p) (gu G p (.lst ys))|none=>False)
 |_=>False
def LS {K:Frg}:SS K RT (λxs H Q=>∃ p ys,xs=[.ref p]/\(SqL K H p ys\/SqT K H p ys)/\∀ l,H l=none->Q (.ref l) (upd H l (.lst ys))):=λxs vs G H q Q hr rs h af=>by
 unfold RT at h;split at h
 ·obtain ⟨v,rfl,r⟩:=CN rs;cases r with
  |tup hs r2=>exact ⟨_,_,rfl,.inr hs,λl hl=>af _ _ (h l (hr.free hl)) _ _ (.ref l) (hr.newL hl r2) (Kp.newL hl)⟩
 ·obtain ⟨v,rfl,r⟩:=CN rs;split at h
  ·rename_i ys e;cases r;obtain ⟨us,hs,r2⟩:=zu hr e;exact ⟨_,_,rfl,.inl hs,λl hl=>af _ _ (h l (hr.free hl)) _ _ (.ref l) (hr.newL hl r2) (Kp.newL hl)⟩
  ·exact h.elim
 ·exact h.elim
def qcb:T->List T->Gp->Q3->Prop:=λx xs G q=>match x,xs with
 |.ref l,[.ref b]=>(match G l,G b with|some (.lst ys),some (.lst zs)=>ys.length+zs.length<=sizeLine/\q .non (gu G l (.lst (ys++zs)))|_,_=>False)
 |_,_=>False
def qfq:T->List T->Gp->Q3->Prop:=λx xs G q=>match x,xs with
 |.ref l,[y]=>(match G l with|some (.lst ys)=>ys.length<sizeLine/\q .non (gu G l (.lst (ys++[y])))|_=>False)
 |_,_=>False
def qoG (K:Frg) (r3:T->List T->Gp->Q3->Prop) (r:V->List V->Hp->VK->Prop):Prop:=∀ x xs v vs G H q Q,HR K G H->Rp K H x v->Rps K H xs vs->r3 x xs G q->Aft K G H q Q->r v vs H Q
def qfZ {K:Frg}:qoG K qcb qas:=λx xs v vs G H q Q hr rx rs h af=>by
 unfold qcb at h;split at h
 ·rename_i l b;split at h
  ·rename_i ys zs e1 e2;cases rx;obtain ⟨u,rfl,r⟩:=CN rs;cases r;obtain ⟨vs,g1,r1⟩:=hr.lst e1;obtain ⟨us,g2,r2⟩:=hr.lst e2;exact ⟨l,b,vs,us,rfl,rfl,g1,g2,by rw [← r1.length,← r2.length];exact h.1,af _ _ h.2 _ _ .non (hr.wr e1 (r1.append r2)) (Kp.wr e1)⟩
  ·exact h.elim
 ·exact h.elim
def qgW {K:Frg}:qoG K qfq NY:=λx xs v vs G H q Q hr rx rs h af=>by
 unfold qfq at h;split at h
 ·rename_i l y;split at h
  ·rename_i ys e1;cases rx;obtain ⟨u,rfl,r⟩:=CN rs;obtain ⟨vs,g1,r1⟩:=hr.lst e1;exact ⟨l,vs,u,rfl,rfl,g1,by rw [← r1.length];exact h.1,af _ _ h.2 _ _ .non (hr.wr e1 (r1.append (.cons r .nil))) (Kp.wr e1)⟩
  ·exact h.elim
 ·exact h.elim
def bm3 (r:T->List T->Gp->Q3->Prop) (to:TE3) (t:TA3):TE3:=λτ G q=>to τ G λx G1=>(match x with|.ref p=>(getL G1 p).isSome=true|_=>False)/\t τ G1 λxs G2=>r x xs G2 q
def qpj {o:Expr} {to:TE3} {name:Str} {apos cpos:Pos} {id:String} {r3:T->List T->Gp->Q3->Prop} {r:V->List V->Hp->VK->Prop} (slot:Slot "list" name id) (hty:typeOf (.builtin id)=pure (.type "method_descriptor")) (hm:MtR X id r) (hr:qoG X.K r3 r) (ho:E3 X o to) (ha:A3 X (e::es) t)
  (hbase:attributeBase o name X.env (eval o X.env)=eval o X.env:=by rfl)
  (hfew:((backTo cpos (starEach (e::es) X.env)).all (λx=>!x.1)&&(backToKw cpos (keywordEach [] X.env)).all (λx=>x.1.isSome)
   && decide ((e::es).length+([]:List Keyword).length+(if ([]:List Keyword).isEmpty then 0 else 1)<30))=true:=by rfl)
  (hline:(apos.endLine==cpos.line)=true:=by rfl) (hs:starEach (e::es) X.env=(false,eval e X.env)::starEach es X.env:=by rfl) (hplain:(backTo cpos (starEach es X.env)).any (·.1)=false:=by rfl) :
  E3 X (.Call (.Attribute o name apos) (e::es) [] cpos) (bm3 r3 to t):=
 EM (qnI PySem.F.plainAttrs_list slot hty hm ho ha hbase hfew hline hs hplain) λ_ _ _ ⟨τ,G,q,rl,h,af⟩=>zq rl h λx G1 h1 v H1 rx hr1 k1 rl1=>by
  obtain ⟨hp,h1⟩:=h1;cases x<;>try exact hp.elim
  case ref p=>
   cases rx;have hp':(getL G1 p).isSome=true:=hp;obtain ⟨ys,e⟩:=Option.isSome_iff_exists.mp hp';obtain ⟨us,hs,r2⟩:=zu hr1 e;exact ⟨.inl ⟨rfl,us,hs⟩,JS rl1 h1 λxs G2 h2 vs H2 rs hr2 k2 rl2=>hr _ xs _ vs G2 H2 q _ hr2 (.ref p) rs h2 (af.back (k1.trans k2))⟩
def qcQ {o:Expr} {to:TE3} {apos cpos:Pos} (ho:E3 X o to) (ha:A3 X [e] t)
  (hbase:attributeBase o "append" X.env (eval o X.env)=eval o X.env:=by rfl)
  (hfew:((backTo cpos (starEach [e] X.env)).all (λx=>!x.1)&&(backToKw cpos (keywordEach [] X.env)).all (λx=>x.1.isSome)
   && decide (([e]:List Expr).length+([]:List Keyword).length+(if ([]:List Keyword).isEmpty then 0 else 1)<30))=true:=by rfl)
  (hline:(apos.endLine==cpos.line)=true:=by rfl) (hs:starEach [e] X.env=(false,eval e X.env)::starEach [] X.env:=by rfl) (hplain:(backTo cpos (starEach [] X.env)).any (·.1)=false:=by rfl) :
  E3 X (.Call (.Attribute o "append" apos) [e] [] cpos) (bm3 qfq to t):=qpj PySem.F.slot_list_append PySem.F.type_list_append VY qgW ho ha hbase hfew hline hs hplain
def qdq {o:Expr} {to:TE3} {apos cpos:Pos} (ho:E3 X o to) (ha:A3 X [e] t)
  (hbase:attributeBase o "extend" X.env (eval o X.env)=eval o X.env:=by rfl)
  (hfew:((backTo cpos (starEach [e] X.env)).all (λx=>!x.1)&&(backToKw cpos (keywordEach [] X.env)).all (λx=>x.1.isSome)
   && decide (([e]:List Expr).length+([]:List Keyword).length+(if ([]:List Keyword).isEmpty then 0 else 1)<30))=true:=by rfl)
  (hline:(apos.endLine==cpos.line)=true:=by rfl) (hs:starEach [e] X.env=(false,eval e X.env)::starEach [] X.env:=by rfl) (hplain:(backTo cpos (starEach [] X.env)).any (·.1)=false:=by rfl) :
  E3 X (.Call (.Attribute o "extend" apos) [e] [] cpos) (bm3 qcb to t):=qpj PySem.F.slot_list_extend PySem.F.type_list_extend qbk qfZ ho ha hbase hfew hline hs hplain
end
def tyT (G:Gp):T->Option String
 |.non=>some "NoneType" |.bl _=>some "bool" |.int _=>some "int" |.str _=>some "str" |.tup _=>some "tuple"
 |.ref p=>if (getL G p).isSome then some "list" else none
def QK (t c:String):Bool:=t==c||(t == "bool" && c == "int")
def CK (K:Frg):∀ t∈["NoneType","bool","int","str","tuple","list"],∀ c∈["bool","int","str","tuple","list"],PySem.W.kitOne K (.type t) (.type c)=some (QK t c):=by
 intro t ht c hc;simp only [mem_cons,not_mem_nil,or_false] at ht hc;rcases ht with rfl|rfl|rfl|rfl|rfl|rfl<;>rcases hc with rfl|rfl|rfl|rfl|rfl<;>kernel_rfl
section
variable {X:Cx} {a b c e:Expr} {es:List Expr} {ta tb tc te:TE3} {t:TA3} {pos:Pos}
def TyS (K:Frg) (H:Hp) (x:V) (t:String):Prop:=match x with
 |.non=>t="NoneType" |.bl _=>t="bool" |.int _=>t="int" |.str _=>t="str"
 |.ref a=>(t="tuple"/\∃ vs,SqT K H a vs)\/(t="list"/\∃ vs,SqL K H a vs)
 |_=>False
def TyS.mem {K:Frg} {H:Hp} {x:V} {t:String} (h:TyS K H x t):t∈["NoneType","bool","int","str","tuple","list"]:=by
 cases x<;>simp [TyS] at h<;>first|(subst h;decide)|(rcases h with ⟨rfl,_⟩|⟨rfl,_⟩<;>decide)
def TyS.kitx {pins:List (Addr×Obj)} {σ:L2.St} {H:Hp} {s:Shared} {x:V} {u:Value} {t:String} (I:Inv X pins σ H s) (rx:ja x u) (h:TyS X.K H x t) :
  ∃ HH:Heap->Prop,PySem.W.KitX X.K u (.type t) HH/\HH s.heap/\u≠.builtin "__main__.__loader__#opaque" := by
 cases x with
 |non=>cases (show u=Value.none from rx);cases (show t=_ from h);exact ⟨_,PySem.W.kitx_none,True.intro,λz=>nomatch z⟩
 |bl y=>cases (show u=Value.bool y from rx);cases (show t=_ from h);exact ⟨_,PySem.W.kitx_bool,True.intro,λz=>nomatch z⟩
 |int i=>obtain ⟨tk,q⟩:=(show ∃ t,u=Value.int i t from rx);cases q;cases (show t=_ from h);exact ⟨_,PySem.W.kitx_int,True.intro,λz=>nomatch z⟩
 |str y=>obtain ⟨tk,q⟩:=(show ∃ t,u=Value.str y t from rx);cases q;cases (show t=_ from h);exact ⟨_,PySem.W.kitx_str,True.intro,λz=>nomatch z⟩
 |ref a=>
  cases (show u=Value.ref a from rx);rcases (show (t="tuple"/\∃ vs,SqT X.K H a vs)\/(t="list"/\∃ vs,SqL X.K H a vs) from h) with ⟨rfl,vs,hs⟩|⟨rfl,vs,hs⟩
  ·obtain ⟨its,_,p,_⟩:=I.tuple hs;obtain ⟨o,h1,h2,_⟩:=p;exact ⟨_,PySem.W.kitx_tuple,⟨o,h1,h2⟩,λz=>nomatch z⟩
  ·obtain ⟨its,_,p,_⟩:=I.list hs;obtain ⟨o,n,h1,h2,_⟩:=p;exact ⟨_,PySem.W.kitx_list,⟨o,h1,h2⟩,λz=>nomatch z⟩
 |_=>exact False.elim h
abbrev QG:List String:=["bool","int","str","tuple","list"]
def qda:QL X (.builtin "isinstance") (λxs H Q=>∃ x t c,xs=[x,.ty c]/\TyS X.K H x t/\c∈QG/\Q (.bl (QK t c)) H):=by
 intro pins s σ H xs us Q I r h;obtain ⟨x,t,c,rfl,ht,hc,q⟩:=h;obtain ⟨u,w,rfl,rx,rc⟩:=qbi r;cases (show w=Value.type c from rc);obtain ⟨HH,kx,hh,ne⟩:=ht.kitx I rx;exact PySem.W.kia_one kx I.kIn hh (CK X.K t ht.mem c hc) ne λtk=>⟨.bl _,H,I.tok tk,rfl,q⟩
def qdy (K:Frg) {t c d:String} (ht:t∈["NoneType","bool","int","str","tuple","list"]) (hc:c∈QG) (hd:d∈QG):PySem.W.kitAny K (.type t) [.type c,.type d]=some (QK t c||QK t d):=by
 unfold PySem.W.kitAny;rw [CK K t ht c hc];cases QK t c with
 |true=>rfl
 |false=>
  show PySem.W.kitAny K (.type t) [.type d]=_;unfold PySem.W.kitAny;rw [CK K t ht d hd];cases QK t d<;>rfl
def qbP:QL X (.builtin "isinstance") (λxs H Q=>∃ x t c d p,xs=[x,.ref p]/\H p=some (.tup [.ty c,.ty d])/\TyS X.K H x t/\c∈QG/\d∈QG/\Q (.bl (QK t c||QK t d)) H):=by
 intro pins s σ H xs us Q I r h;obtain ⟨x,t,c,d,p,rfl,hp,ht,hc,hd,q⟩:=h;obtain ⟨u,w,rfl,rx,rc⟩:=qbi r;cases (show w=Value.ref p from rc);obtain ⟨HH,kx,hh,ne⟩:=ht.kitx I rx;obtain ⟨_,its,rv,⟨o,ho,hcl,n,hda⟩⟩:=(show VE X.prog X.w H s.heap p (.tup [.ty c,.ty d]) from I.hok p _ hp)
 obtain ⟨u1,u2,rfl,r1,r2⟩:=qbi rv;cases (show u1=Value.type c from r1);cases (show u2=Value.type d from r2);obtain ⟨cl,dd,da,sl⟩:=o;cases (show cl=_ from hcl);cases (show da=_ from hda);exact PySem.W.kia_tup kx I.kIn hh ho (qdy X.K ht.mem hc hd) ne λtk=>⟨.bl _,H,I.tok tk,rfl,q⟩
def qeI {K:Frg} {G:Gp} {H:Hp} (hr:HR K G H) {x:T} {v:V} {t:String} (r:Rp K H x v) (h:tyT G x=some t):TyS K H v t:=by
 cases r with
 |non=>cases h;rfl
 |bl _=>cases h;rfl
 |int _=>cases h;rfl
 |str _=>cases h;rfl
 |tup hs rs=>cases h;exact .inl ⟨rfl,_,hs⟩
 |ref a=>
  have h:(if (getL G a).isSome then some "list" else none)=some t:=h;split at h
  ·rename_i e;cases h;obtain ⟨ys,e⟩:=Option.isSome_iff_exists.mp e;obtain ⟨us,hs,_⟩:=zu hr e;exact .inr ⟨rfl,us,hs⟩
  ·cases h
def ER (f:String->Bool) (te:TE3):TE3:=λτ G q=>te τ G λx G1=>match tyT G1 x with|some t=>q (.bl (f t)) G1|none=>False
def qoc {tn:Str} {ty:String} {p p2:Pos} (he:E3 X e te) (hg:Gl X "isinstance") (hm:X.mg "isinstance" = none) (hg2:Gl X tn) (hm2:X.mg tn=none) (hv:bootBuiltins tn=some (.type ty)) (hmem:ty∈QG:=by decide) (hn:tn≠"__name__" := by decide) (hdb:(tn==("__debug__" : Str))=false:=by decide)
  (hs:starEach [e,.Name tn p2] X.env=(false,eval e X.env)::starEach [.Name tn p2] X.env:=by rfl) (hs2:starEach [.Name tn p2] X.env=(false,eval (.Name tn p2) X.env)::starEach [] X.env:=by rfl) (hpl:(backTo pos (starEach [.Name tn p2] X.env)).any (·.1)=false:=by rfl) :
  E3 X (.Call (.Name "isinstance" p) [e,.Name tn p2] [] pos) (ER (λt=>QK t ty) te):=
 EM (E6 qda hg hm PyProof.Rows.boot_isinstance (ZO he (ZO (KT (v:=.ty ty) hg2 hm2 hv rfl hn hdb) XG hs2) hs) (by decide) (by decide) hs hpl)
  λ_ _ _ ⟨τ,G,q,rl,h,af⟩=>zq rl h λx G1 h1 v H1 rx hr1 k1 rl1=>by
   split at h1
   ·rename_i t e1;exact ⟨_,t,ty,rfl,qeI hr1 rx e1,hmem,af _ G1 h1 _ H1 (.bl _) hr1 k1⟩
   ·exact h1.elim
def qh3 {tn tn':Str} {ty ty':String} {p p2 p3 p4:Pos} {x1} (he:E3 X e te) (hg:Gl X "isinstance") (hm:X.mg "isinstance" = none) (hg2:Gl X tn) (hm2:X.mg tn=none) (hv:bootBuiltins tn=some (.type ty)) (hg3:Gl X tn') (hm3:X.mg tn'=none) (hv3:bootBuiltins tn'=some (.type ty'))
  (hmem:ty∈QG:=by decide) (hn:tn≠"__name__" := by decide) (hdb:(tn==("__debug__" : Str))=false:=by decide) (hmem3:ty'∈QG:=by decide) (hn3:tn'≠"__name__" := by decide) (hdb3:(tn'==("__debug__" : Str))=false:=by decide)
  (hs:starEach [e,.Tuple [.Name tn p2,.Name tn' p3] x1 p4] X.env=(false,eval e X.env)::starEach [.Tuple [.Name tn p2,.Name tn' p3] x1 p4] X.env:=by rfl) (hs2:starEach [.Tuple [.Name tn p2,.Name tn' p3] x1 p4] X.env=(false,eval (.Tuple [.Name tn p2,.Name tn' p3] x1 p4) X.env)::starEach [] X.env:=by rfl)
  (hs3:starEach [.Name tn p2,.Name tn' p3] X.env=(false,eval (.Name tn p2) X.env)::starEach [.Name tn' p3] X.env:=by rfl) (hs4:starEach [.Name tn' p3] X.env=(false,eval (.Name tn' p3) X.env)::starEach [] X.env:=by rfl)
  (hpl:(backTo pos (starEach [.Tuple [.Name tn p2,.Name tn' p3] x1 p4] X.env)).any (·.1)=false:=by rfl) :
  E3 X (.Call (.Name "isinstance" p) [e,.Tuple [.Name tn p2,.Name tn' p3] x1 p4] [] pos) (ER (λt=>QK t ty||QK t ty') te):=
 EM (E6 qbP hg hm PyProof.Rows.boot_isinstance (ZO he (ZO (qeP (ZO (KT (v:=.ty ty) hg2 hm2 hv rfl hn hdb) (ZO (KT (v:=.ty ty') hg3 hm3 hv3 rfl hn3 hdb3) XG hs4) hs3)) XG hs2) hs) (by decide) (by decide) hs hpl)
  λ_ _ _ ⟨τ,G,q,rl,h,af⟩=>zq rl h λx G1 h1 v H1 rx hr1 k1 rl1=>by
   refine ⟨by show 2<=sizeLine;decide,λpp hp=>?_⟩;split at h1
   ·rename_i t e1;have hr2:=hr1.laid (ho:=.tup [.ty ty,.ty ty']) hp;have kk:Kp G1 H1 G1 (upd H1 pp (.tup [.ty ty,.ty ty'])):=Kp.laid hp;exact ⟨_,t,ty,ty',pp,rfl,qU,qeI hr2 (rx.keep hr1 kk) e1,hmem,hmem3,af _ G1 h1 _ _ (.bl _) hr2 (k1.trans kk)⟩
   ·exact h1.elim
structure Ends3 where
 nx:St3->Gp->Prop
 rt:Q3
 bk:St3->Gp->Prop:=λ_ _=>False
 ct:St3->Gp->Prop:=λ_ _=>False
abbrev TS3:=Ends3->St3->Gp->Prop
def qfp (K:Frg) (G:Gp) (H:Hp) (q:St3->Gp->Prop) (Q:L2.St->Hp->Prop):Prop:=∀ τ G',q τ G'->∀ σ H',Rel K τ G' σ H'->Kp G H G' H'->Q σ H'
structure AftD (K:Frg) (G:Gp) (H:Hp) (d:Ends3) (D:Ends):Prop where
 nx:qfp K G H d.nx D.nx
 rt:Aft K G H d.rt D.rt
 bk:qfp K G H d.bk D.bk
 ct:qfp K G H d.ct D.ct
def qfp.back {K:Frg} {G G1:Gp} {H H1:Hp} {q:St3->Gp->Prop} {Q:L2.St->Hp->Prop} (a:qfp K G H q Q) (k:Kp G H G1 H1):qfp K G1 H1 q Q:=λx G' h v H' r k'=>a x G' h v H' r (k.trans k')
def AftD.back {K:Frg} {G G1:Gp} {H H1:Hp} {d:Ends3} {D:Ends} (a:AftD K G H d D) (k:Kp G H G1 H1):AftD K G1 H1 d D:=⟨a.nx.back k,a.rt.back k,a.bk.back k,a.ct.back k⟩
def lS (K:Frg) (t:TS3):TS:=λD σ H=>∃ τ G d,Rel K τ G σ H/\t d τ G/\AftD K G H d D
abbrev S3 (X:Cx) (st:Stmt) (t:TS3):Prop:=PS X st (lS X.K t)
abbrev B3 (X:Cx) (st:List Stmt) (t:TS3):Prop:=PSs X st (lS X.K t)
def qcf {X:Cx} {st:Stmt} {t t':TS} (h:PS X st t) (w:∀ D σ H,t' D σ H->t D σ H):PS X st t':=λpins s σ H D I q=>h pins s σ H D I (w D σ H q)
def qlG {X:Cx} {st:List Stmt} {t t':TS} (h:PSs X st t) (w:∀ D σ H,t' D σ H->t D σ H):PSs X st t':=λpins s σ H D I q=>h pins s σ H D I (w D σ H q)
variable {st:Stmt} {jw:List Stmt} {t1 t2:TS3} {tA:TT3}
def qL:TS3:=λd τ G=>d.nx τ G
def qR (t u:TS3):TS3:=λd τ G=>t { d with nx:=u d } τ G
def qnM:B3 X [] qL:=qlG qf3 λ_ σ H ⟨τ,G,d,rl,h,af⟩=>af.nx τ G h σ H rl Kp.refl
def qiy (h1:S3 X st t1) (h2:B3 X jw t2):B3 X (st::jw) (qR t1 t2):=qlG (qcj h1 h2) λD σ H ⟨τ,G,d,rl,h,af⟩=>
 ⟨τ,G,{ d with nx:=t2 d },rl,h,⟨λτ' G' h' σ' H' rl' k'=>⟨τ',G',d,rl',h',af.back k'⟩,af.rt,af.bk,af.ct⟩⟩
def qov (h1:S3 X st t1):B3 X [st] t1:=qf0 h1
def WR (te:TE3):TS3:=λd τ G=>te τ G λ_ G1=>d.nx τ G1
def qlA (he:E3 X e te) (hs:swapsWith e none pos.line X.env=pure false:=by rfl):S3 X (.Expr e pos) (WR te):=qcf (qgc he hs) λ_ σ H ⟨τ,G,d,rl,h,af⟩=>
 zq rl h λx G1 h1 v H1 rx hr1 k1 rl1=>af.nx τ G1 h1 σ H1 rl1 k1
def qT (te:TE3):TS3:=λd τ G=>te τ G d.rt
def qos (he:E3 X e te):S3 X (.Return (some e) pos) (qT te):=qcf (qkr he) λ_ σ H ⟨τ,G,d,rl,h,af⟩=>⟨τ,G,d.rt,rl,h,af.rt⟩
def qkY:TS3:=λd _ G=>d.rt .non G
def zZ (c:TT3) (t u:TS3):TS3:=λd τ G=>c τ G λk G1=>if k=true then t d τ G1 else u d τ G1
def qp2 {c:Expr} {ba bb:List Stmt} (hc:C3 X c tA) (ha:B3 X ba t1) (hb:B3 X bb t2):S3 X (.If c ba bb pos) (zZ tA t1 t2):=qcf (qnp hc ha hb) λ_ σ H ⟨τ,G,d,rl,h,af⟩=>
 SM rl h λk G1 h1 H1 hr1 k1 rl1=>by
  cases k with
  |true=>rw [if_pos rfl] at h1 ⊢;exact ⟨τ,G1,d,rl1,h1,af.back k1⟩
  |false=>rw [if_neg Bool.false_ne_true] at h1 ⊢;exact ⟨τ,G1,d,rl1,h1,af.back k1⟩
def qhG:TS3:=λ_ _ _=>False
def qfS {sts:List Stmt}:B3 X sts qhG:=λ_ _ _ _ _ _ ⟨_,_,_,_,h,_⟩=>h.elim
abbrev TG3:=T->St3->Gp->(St3->Gp->Prop)->Prop
abbrev SQ:=List T->St3->Gp->(St3->Gp->Prop)->Prop
def lG (K:Frg) (t:TG3):TG:=λv σ H Q=>∃ x τ G q,Rp K H x v/\Rel K τ G σ H/\t x τ G q/\qfp K G H q Q
def lGs (K:Frg) (t:SQ):TGs:=λv σ H Q=>∃ x τ G q,Rps K H x v/\Rel K τ G σ H/\t x τ G q/\qfp K G H q Q
abbrev G3 (X:Cx) (e:Expr) (t:TG3):Prop:=PG X e (lG X.K t)
abbrev Gs3 (X:Cx) (es:List Expr) (t:SQ):Prop:=PGs X es (lGs X.K t)
def qnh {X:Cx} {e:Expr} {t t':TG} (h:PG X e t) (w:∀ v σ H Q,t' v σ H Q->t v σ H Q):PG X e t':=λpins s σ H v u Q I r q=>h pins s σ H v u Q I r (w v σ H Q q)
def qiC {X:Cx} {e:List Expr} {t t':TGs} (h:PGs X e t) (w:∀ v σ H Q,t' v σ H Q->t v σ H Q):PGs X e t':=λpins s σ H v u Q I r q=>h pins s σ H v u Q I r (w v σ H Q q)
def gn3 (i:Nat):TG3:=λx τ G q=>q (τ.set i (some x)) G
def qjK {i:Nat} {x:Str} (hN:X.N.Nodup) (hi:X.N[i]?=some x:=by rfl) (hx:Loc X.env.scope x:=by first|exact Or.inl rfl|exact Or.inr rfl) (hf:X.fn x=true\/X.env.scope.names.lookup x=some .local:=by first|exact .inl rfl|exact .inr rfl):G3 X (.Name x pos) (gn3 i):=
 qnh (qhn hN hi hx hf) λv σ H Q ⟨x,τ,G,q,rx,rl,h,af⟩=>af _ G h _ H (rl.set i rx) Kp.refl
def jm:SQ:=λxs τ G q=>match xs with|[]=>q τ G|_=>False
def qx (t:TG3) (u:SQ):SQ:=λxs τ G q=>match xs with|x::r=>t x τ G λτ' G'=>u r τ' G' q|[]=>False
def qnU:Gs3 X [] jm:=qiC qfL λv σ H Q ⟨x,τ,G,q,rx,rl,h,af⟩=>by
 cases rx with
 |nil=>exact ⟨rfl,af _ G h _ H rl Kp.refl⟩
 |cons _ _=>exact h.elim
def qh6 {tg:TG3} {tgs:SQ} (h1:G3 X e tg) (h2:Gs3 X es tgs) (hs:(assignEach (e::es) X.env).map (·.2)=assign e X.env::(assignEach es X.env).map (·.2):=by rfl):Gs3 X (e::es) (qx tg tgs):=qiC (qcs h1 h2 hs) λv σ H Q ⟨x,τ,G,q,rx,rl,h,af⟩=>by
 cases rx with
 |nil=>exact h.elim
 |cons r rs=>exact ⟨_,_,rfl,_,τ,G,_,r,rl,h,λτ' G' h' σ' H' rl' k'=>⟨_,τ',G',q,rs.keep rl.hp k',rl',h',af.back k'⟩⟩
def jo (n:Nat) (t:SQ):TG3:=λx τ G q=>match x with|.tup xs=>xs.length=n/\t xs τ G q|_=>False
def qnD {k:Nat} {tgs:SQ} {n:Nat} (hc:X.calm=true) (h:Gs3 X es tgs) (hn:(assignEach es X.env).length=n:=by rfl) (hst:(assignEach es X.env).findIdx? (·.1)=none:=by rfl):G3 X (.Tuple es k pos) (jo n tgs):=
 qnh (qi7 hc h hn hst) λv σ H Q ⟨x,τ,G,q,rx,rl,h,af⟩=>by
  cases x<;>try exact h.elim
  case tup xs=>
   cases rx with
   |tup hs rs=>exact ⟨_,_,rfl,hs,by rw [← rs.length];exact h.1,_,τ,G,q,rs,rl,h.2,af⟩
def qcB:T->T->T->Gp->(Gp->Prop)->Prop:=λo i v G q=>match o,i with
 |.ref p,.int k=>(match G p with|some (.lst xs)=>(match ixN xs.length k with|some j=>q (gu G p (.lst (xs.set j v)))|none=>False)|_=>False)
 |_,_=>False
def WE (to ti:TE3):TG3:=λx τ G q=>to τ G λo G1=>ti τ G1 λi G2=>qcB o i x G2 λG3=>q τ G3
def qmZ {o i : Expr} {to ti : TE3} (ho : E3 X o to) (hi : E3 X i ti) (ha : ∀ v,assign (.Subscript o i pos) X.env v = (do
      let ov←holding [v] (eval o X.env)
      let iv←holding [v,ov] (eval i X.env)
      standAt pos
      holding [v,ov,iv] (setItem ov iv v)
      release [v,ov,iv] []):=by intro _;rfl):G3 X (.Subscript o i pos) (WE to ti):=
  qnh (qjN ho hi qcm ha) λv σ H Q ⟨x,τ,G,q,rx,rl,h,af⟩=>zq rl h λy G1 h1 u H1 ry hr1 k1 rl1=>zq rl1 h1 λz G2 h2 w H2 rz hr2 k2 rl2=>by
    have rx2:=(rx.keep rl.hp k1).keep hr1 k2;have ry2:=ry.keep hr1 k2;unfold qcB at h2;split at h2
    · rename_i p k;split at h2
      · rename_i xs e;split at h2
        · rename_i j ej;cases ry2;cases rz;obtain ⟨vs,g1,r1⟩:=hr2.lst e;have kk:Kp G2 H2 (gu G2 p (.lst (xs.set j x))) (upd H2 p (.lst (vs.set j v))):=Kp.wr e;exact ⟨p,vs,k,j,rfl,rfl,g1,by rw [← r1.length];exact ej,af τ _ h2 σ _ (rl2.next (hr2.wr e (r1.set rx2 j)) kk) ((k1.trans k2).trans kk)⟩
        · exact h2.elim
      · exact h2.elim
    · exact h2.elim
def zn (te:TE3) (g:TG3):TS3:=λd τ G=>te τ G λx G1=>g x τ G1 d.nx
def qnR {tg e:Expr} {g:TG3} (he:E3 X e te) (hg:G3 X tg g) (hs:swapsWithSole [tg] e pos.line X.env=pure false:=by rfl) (hw:swappedStores [tg] e X.env=pure none:=by rfl)
  (h1:(assignEach [tg] X.env).map (·.2)=[assign tg X.env]:=by rfl):S3 X (.Assign [tg] e pos) (zn te g):=qcf (qlJ he hg hs hw h1) λ_ σ H ⟨τ,G,d,rl,h,af⟩=>
 zq rl h λx G1 h1 v H1 rx hr1 k1 rl1=>⟨x,τ,G1,d.nx,rx,rl1,h1,af.nx.back k1⟩
def qoJ (i:Nat) {x:Str} {e:Expr} {pos':Pos} (hN:X.N.Nodup) (he:E3 X e te) (hi:X.N[i]?=some x:=by rfl) (hx:Loc X.env.scope x:=by first|exact Or.inl rfl|exact Or.inr rfl) (hs:swapsWith e (some (.Name x pos')) pos.line X.env=pure false:=by rfl) (hf:X.fn x=true\/X.env.scope.names.lookup x=some .local:=by first|exact .inl rfl|exact .inr rfl) :
  S3 X (.Assign [.Name x pos'] e pos) (zn te (gn3 i)):=qcf (ql2 hN hi hx he hs hf) λ_ σ H ⟨τ,G,d,rl,h,af⟩=>
 zq rl h λx G1 h1 v H1 rx hr1 k1 rl1=>af.nx _ G1 h1 _ H1 (rl1.set i rx) k1
def CC (i j:Nat) (ta:TA3):TS3:=λd τ G=>ta τ G λxs G1=>match xs with|[x,y]=>d.nx ((τ.set i (some x)).set j (some y)) G1|_=>False
def qna {i j:Nat} {x y:Str} {a b:Expr} {tt:TA3} {px py pt:Pos} {kt k2 pt2} (hc:X.calm=true) (hN:X.N.Nodup) (hi:X.N[i]?=some x) (hj:X.N[j]?=some y) (hij:i≠j)
  (hx:X.env.scope.names.lookup x=some .local) (hy:X.env.scope.names.lookup y=some .local) (ha:A3 X [a,b] tt)
  (hw:swappedStores [.Tuple [.Name x px,.Name y py] kt pt] (.Tuple [a,b] k2 pt2) X.env=pure (some [x,y]):=by rfl)
  (hs:swapsWithSole [.Tuple [.Name x px,.Name y py] kt pt] (.Tuple [a,b] k2 pt2) pos.line X.env=pure false:=by rfl) :
  S3 X (.Assign [.Tuple [.Name x px,.Name y py] kt pt] (.Tuple [a,b] k2 pt2) pos) (CC i j tt):=qcf (qir hc hN hi hj hij hx hy ha hw hs) λ_ σ H ⟨τ,G,d,rl,h,af⟩=>
 JS rl h λxs G1 h1 vs H1 rs hr1 k1 rl1=>by
  split at h1
  ·obtain ⟨v,u,rfl,r,r'⟩:=qmr rs;exact ⟨v,u,rfl,af.nx _ G1 h1 _ H1 ((rl1.set i r).set j r') k1⟩
  ·exact h1.elim
end
abbrev TI3:=St3->Gp->(List T->(Gp->Prop)->Gp->Prop)->Prop
def qhI (K:Frg) (J:It) (items:List T) (stay:Gp->Prop) (G0:Gp) (H0:Hp):Prop:=∀ G H,HR K G H->Kp G0 H0 G H->stay G ->
 (∀ i x,items[i]?=some x->J.go i H)/\(∀ i x v H',items[i]?=some x->J.yld i H v H'->Rp K H' x v/\HR K G H'/\Kp G H G H')/\J.stop items.length H
def lI (K:Frg) (wi:TI3):TI:=λσ H R=>∃ τ G r,Rel K τ G σ H/\wi τ G r/\∀ items stay G',r items stay G'->∀ J H',HR K G' H'->Kp G H G' H'->qhI K J items stay G' H'->R J H'
abbrev I3 (X:Cx) (tg iter:Expr) (wi:TI3):Prop:=PI X tg iter (lI X.K wi)
def qkS {X:Cx} {tg e:Expr} {t t':TI} (h:PI X tg e t) (w:∀ σ H R,t' σ H R->t σ H R):PI X tg e t':=λpins s σ H R I q=>h pins s σ H R I (w σ H R q)
section
variable {X:Cx} {a b c e l tg:Expr} {es:List Expr} {ta tb tc te:TE3} {t:TA3} {pos:Pos}
def qjG {tl:TE} (hl:PE X l tl):PI X tg l (λσ H R=>tl σ H λx H1=>∃ a,x=.ref a/\(((∃ xs,SqL X.K H1 a xs)/\R (Itl X.K a) H1)\/((∃ xs,SqT X.K H1 a xs)/\R (Itt X.K a) H1))):=by
 intro pins s σ H R I h;refine thn (hl pins s σ H _ I h) λv s1 ⟨x,H1,I1,r1,q1⟩=>?_;obtain ⟨a,e,⟨⟨xs,hq⟩,q⟩|⟨⟨xs,hq⟩,q⟩⟩:=q1
 ·subst e;cases r1;obtain ⟨its,rv,p,hz⟩:=I1.list hq;refine wpAny_pyIter_list p.isList ?_;refine ⟨s1.heap.objs.size,[s1.heap.objs.size],_,_,H1,rfl,I1.kept (t':=s1.toks) λb o e=>Heap.get?_push_of_some _ e,qaV a _,⟨_,Heap.get?_push_size _ rfl,rfl,rfl⟩,λb hb=>?_,q⟩;have e:b=s1.heap.objs.size:=by simpa using hb
  subst e;exact I1.fpOk (Nat.le_refl _) (I1.hok.fresh (Nat.le_refl _))
 ·subst e;cases r1;obtain ⟨its,rv,p,hz⟩:=I1.tuple hq;refine wpAny_pyIter_tuple (show s1.heap.IsTuple a its.toArray from p) ?_;refine ⟨s1.heap.objs.size,[s1.heap.objs.size],_,_,H1,rfl,I1.kept (t':=s1.toks) λb o e=>Heap.get?_push_of_some _ e,M6 a _,⟨_,Heap.get?_push_size _ rfl,rfl,rfl⟩,λb hb=>?_,q⟩;have e:b=s1.heap.objs.size:=by simpa using hb
  subst e;exact I1.fpOk (Nat.le_refl _) (I1.hok.fresh (Nat.le_refl _))
def VQ (tl:TE3):TI3:=λτ G r=>tl τ G λx G1=>match x with
 |.tup xs=>r xs (λ_=>True) G1
 |.ref p=>(match getL G1 p with|some xs=>r xs (λG=>getL G p=some xs) G1|none=>False)
 |_=>False
def qlv {K:Frg} {p:Addr} {xs:List T} {G0:Gp} {H0:Hp}:qhI K (Itl K p) xs (λG=>getL G p=some xs) G0 H0:=by
 intro G H hr _ hs;obtain ⟨vs,sq,rs⟩:=zu hr hs;refine ⟨λi x hi=>?_,λi x v H' hi y=>?_,⟨vs,sq,by rw [rs.length];exact Nat.le_refl _⟩⟩
 ·obtain ⟨v,hv,_⟩:=rs.get hi;exact ⟨vs,v,sq,hv⟩
 ·obtain ⟨e,y⟩:=y;subst e;obtain ⟨w,hw,rw'⟩:=rs.get hi;have e2:=(y vs sq).symm.trans hw;cases e2;exact ⟨rw',hr,Kp.refl⟩
def qjr {K:Frg} {p:Addr} {xs:List T} {vs:List V} {G0:Gp} {H0:Hp} (hr0:HR K G0 H0) (sq0:SqT K H0 p vs) (rs0:Rps K H0 xs vs):qhI K (Itt K p) xs (λ_=>True) G0 H0:=by
 intro G H hr k _;have sq:=CM hr0 k sq0;have rs:=rs0.keep hr0 k;refine ⟨λi x hi=>?_,λi x v H' hi y=>?_,⟨vs,sq,by rw [rs.length];exact Nat.le_refl _⟩⟩
 ·obtain ⟨v,hv,_⟩:=rs.get hi;exact ⟨vs,v,sq,hv⟩
 ·obtain ⟨e,y⟩:=y;subst e;obtain ⟨w,hw,rw'⟩:=rs.get hi;have e2:=(y vs sq).symm.trans hw;cases e2;exact ⟨rw',hr,Kp.refl⟩
def qnX (hl:E3 X l te):I3 X tg l (VQ te):=qkS (qjG hl) λσ H R ⟨τ,G,r,rl,h,af⟩=>zq rl h λx G1 h1 v H1 rx hr1 k1 rl1=>by
 cases x<;>try exact h1.elim
 case tup xs=>
  cases rx with
  |tup hs rs=>exact ⟨_,rfl,.inr ⟨⟨_,hs⟩,af _ _ G1 h1 _ H1 hr1 k1 (qjr hr1 hs rs)⟩⟩
 case ref p=>
  simp only at h1;split at h1
  ·rename_i xs e0;cases rx;obtain ⟨vs,hs,rs⟩:=zu hr1 e0;exact ⟨_,rfl,.inl ⟨⟨_,hs⟩,af _ _ G1 h1 _ H1 hr1 k1 qlv⟩⟩
  ·exact h1.elim
def MY (lo:Int) (n:Nat):List T:=(List.range n).map λ(i:Nat)=>T.int (lo+(i:Int))
def qfw {K:Frg} {lo:Int} {n:Nat} {G0:Gp} {H0:Hp}:qhI K (Itr lo n) (MY lo n) (λ_=>True) G0 H0:=by
 intro G H hr k _;have hl:(MY lo n).length=n:=by simp [MY]
 refine ⟨λi x hi=>?_,λi x v H' hi y=>?_,(show n<=(MY lo n).length by rw [hl];exact Nat.le_refl n)⟩
 ·have:=(List.getElem?_eq_some_iff.mp hi).1;rw [hl] at this;exact this
 ·obtain ⟨e,y⟩:=y;subst e;subst y;have h1:=(List.getElem?_eq_some_iff.mp hi).1;rw [hl] at h1;unfold MY at hi;rw [getElem?_map,List.getElem?_range h1] at hi;have e:T.int (lo+(i:Int))=x:=by simpa using hi
  subst e;exact ⟨.int _,hr,Kp.refl⟩
def QM (ta:TA3):TI3:=λτ G r=>ta τ G λxs G1=>match xs with
 |[.int j]=>(-(2 ^ 62)<=j/\j<2 ^ 62)/\r (MY 0 j.toNat) (λ_=>True) G1
 |[.int i,.int j]=>(-(2 ^ 62)<=i/\i<2 ^ 62/\-(2 ^ 62)<=j/\j<2 ^ 62)/\r (MY i (j-i).toNat) (λ_=>True) G1
 |_=>False
def qcY {p:Pos} (hg:Gl X "range") (hm:X.mg "range" = none) (ha:A3 X [a] t) (hs:starEach [a] X.env=[(false,eval a X.env)]:=by rfl) (h1:∀ τ G q,t τ G q->t τ G λxs G=>q xs G/\xs.length=1):I3 X tg (.Call (.Name "range" p) [a] [] pos) (QM t):=
 qkS (NU hg hm ha hs) λσ H R ⟨τ,G,r,rl,h,af⟩=>JS rl (h1 _ _ _ h) λxs G1 h1 vs H1 rs hr1 k1 rl1=>by
  obtain ⟨h1,hl⟩:=h1;simp only at h1;split at h1
  ·obtain ⟨v,rfl,r1⟩:=CN rs;cases r1;exact ⟨_,rfl,h1.1.1,h1.1.2,af _ _ G1 h1.2 _ H1 hr1 k1 qfw⟩
  ·simp at hl
  ·exact h1.elim
def qdg {p:Pos} (hg:Gl X "range") (hm:X.mg "range" = none) (ha:A3 X [a,b] t) (hs:starEach [a,b] X.env=[(false,eval a X.env),(false,eval b X.env)]:=by rfl) (hs2:starEach [b] X.env=[(false,eval b X.env)]:=by rfl) (h1:∀ τ G q,t τ G q->t τ G λxs G=>q xs G/\xs.length=2):I3 X tg (.Call (.Name "range" p) [a,b] [] pos) (QM t):=
 qkS (qbS hg hm ha hs hs2) λσ H R ⟨τ,G,r,rl,h,af⟩=>JS rl (h1 _ _ _ h) λxs G1 h1 vs H1 rs hr1 k1 rl1=>by
  obtain ⟨h1,hl⟩:=h1;simp only at h1;split at h1
  ·simp at hl
  ·obtain ⟨v,u,rfl,r1,r2⟩:=qmr rs;cases r1;cases r2;exact ⟨_,_,rfl,h1.1,af _ _ G1 h1.2 _ H1 hr1 k1 qfw⟩
  ·exact h1.elim
def C5 (stay:Gp->Prop) (g:TG3) (tb:TS3) (d:Ends3):List T->St3->Gp->Prop
 |[],τ,G=>stay G/\d.nx τ G
 |x::r,τ,G=>stay G/\g x τ G λτ2 G2=>tb { d with nx:=C5 stay g tb d r,ct:=C5 stay g tb d r,bk:=d.nx } τ2 G2
def R0 (wi:TI3) (g:TG3) (tb:TS3):TS3:=λd τ G=>wi τ G λitems stay G1=>C5 stay g tb d items τ G1
def qnr {iter:Expr} {body:List Stmt} {wi:TI3} {g:TG3} {tb:TS3} (hp:PassesOwn (model X.prog X.w) X.A X.env X.xe) (hc:X.calm=true) (hi:I3 X tg iter wi) (hg:G3 X tg g) (hb:B3 X body tb)
  (hs:∀ x,foldedSetIterable iter X.env x=pure x:=by intro _;rfl):S3 X (.For tg iter body [] pos) (R0 wi g tb):=
 qcf (qi5 hp hc hi hg hb hs) λD σ H ⟨τ,G,d,rl,h,af⟩=>by
  refine ⟨τ,G,_,rl,h,λitems stay G1 h1 J H1 hr1 k1 ok=>?_⟩;refine ⟨λi m σ' H'=>m=items.length-i/\i<=items.length/\∃ τ' G',Rel X.K τ' G' σ' H'/\Kp G1 H1 G' H'/\C5 stay g tb d (items.drop i) τ' G',⟨_,rfl,Nat.zero_le _,τ,G1,rl.next hr1 k1,Kp.refl,by simpa using h1⟩,?_⟩;rintro i m σ' H' ⟨rfl,hi,τ',G',rl',k',h'⟩;by_cases hlt:i<items.length
  ·rw [List.drop_eq_getElem_cons hlt] at h';obtain ⟨hst,h'⟩:=h';obtain ⟨go,yld,_⟩:=ok G' H' rl'.hp k' hst;have hx:items[i]?=some items[i]:=getElem?_eq_getElem hlt;refine .inr ⟨go i _ hx,λσ2 H2=>∃ τ2 G2,Rel X.K τ2 G2 σ2 H2/\Kp G1 H1 G2 H2/\C5 stay g tb d (items.drop (i+1)) τ2 G2,λσ2 H2 h2=>⟨_,by omega,rfl,hlt,h2⟩,λv H2 y=>?_⟩;obtain ⟨rv,hr2,k2⟩:=yld i _ v H2 hx y;have k3:Kp G1 H1 G' H2:=k'.trans k2;refine ⟨_,τ',G',_,rv,rl'.next hr2 k2,h',λτ3 G3 h3 σ3 H3 rl3 k4=>?_⟩;have k5:Kp G H G3 H3:=(k1.trans k3).trans k4;refine ⟨τ3,G3,_,rl3,h3,⟨λτ4 G4 h4 σ4 H4 rl4 k6=>⟨τ4,G4,rl4,(k3.trans k4).trans k6,h4⟩,af.rt.back k5,af.nx.back k5,λτ4 G4 h4 σ4 H4 rl4 k6=>⟨τ4,G4,rl4,(k3.trans k4).trans k6,h4⟩⟩⟩
  ·have e:i=items.length:=by omega
   subst e;rw [List.drop_length] at h';obtain ⟨_,_,stop⟩:=ok G' H' rl'.hp k' h'.1;exact .inl ⟨stop,af.nx τ' G' h'.2 σ' H' rl' (k1.trans k')⟩
def D5 {stay:Gp->Prop} {g:TG3} {tb:TS3} {d:Ends3} (items:List T) (Pv:Nat->St3->Gp->Prop) {τ:St3} {G:Gp} (h0:Pv 0 τ G) (hst:∀ i τ G,i<=items.length->Pv i τ G->stay G)
  (hs:∀ i x τ G (nx:St3->Gp->Prop),items[i]?=some x->Pv i τ G->(∀ τ G,Pv (i+1) τ G->nx τ G)->g x τ G λτ2 G2=>tb { d with nx:=nx,ct:=nx,bk:=d.nx } τ2 G2)
  (hd:∀ τ G,Pv items.length τ G->d.nx τ G):C5 stay g tb d items τ G:=by
 have key:∀ (r:List T) (i:Nat) τ G,items.drop i=r->i<=items.length->Pv i τ G->C5 stay g tb d r τ G:=by
  intro r;induction r with
  |nil=>
   intro i τ G e hi p;have:i=items.length:=by have:=congrArg List.length e;simp at this;omega
   subst this;exact ⟨hst _ τ G hi p,hd τ G p⟩
  |cons x r ih=>
   intro i τ G e hi p;have hl:i<items.length:=by
    apply Classical.byContradiction;intro z;rw [List.drop_eq_nil_of_le (by omega)] at e;cases e
   have e':=List.drop_eq_getElem_cons hl;rw [e] at e';injection e' with e1 e2;refine ⟨hst i τ G hi p,hs i x τ G _ (by rw [getElem?_eq_getElem hl,e1]) p λτ2 G2 p2=>ih (i+1) τ2 G2 e2.symm hl p2⟩
 exact key items 0 τ G (by simp) (Nat.zero_le _) h0
def K9 (c:TT3) (tb:TS3):TS3:=λd τ G=>∃ W:Nat->St3->Gp->Prop,(∃ m,W m τ G)/\∀ m τ G,W m τ G ->
 c τ G λb G1=>if b=true then ∃ N:St3->Gp->Prop,(∀ τ' G',N τ' G'->∃ m',m'<m/\W m' τ' G')/\tb { d with nx:=N,ct:=N,bk:=d.nx } τ G1 else d.nx τ G1
def qgS {c:Expr} {body:List Stmt} {tc:TT3} {tb:TS3} (hp:PassesOwn (model X.prog X.w) X.A X.env X.xe) (hc:C3 X c tc) (hb:B3 X body tb):S3 X (.While c body [] pos) (K9 tc tb):=
 qcf (qc5 hp hc hb) λD σ H ⟨τ,G,d,rl,⟨W,⟨m0,w0⟩,turn⟩,af⟩=>by
  refine ⟨λm σ' H'=>∃ τ' G',Rel X.K τ' G' σ' H'/\Kp G H G' H'/\W m τ' G',⟨m0,τ,G,rl,Kp.refl,w0⟩,?_⟩;rintro m σ' H' ⟨τ',G',rl',k',w'⟩;refine SM rl' (turn m τ' G' w') λb G1 h1 H1 hr1 k1 rl1=>?_;cases b with
  |true=>
   rw [if_pos rfl] at h1 ⊢;obtain ⟨N,hN,h1⟩:=h1;refine ⟨λσ2 H2=>∃ τ2 G2,Rel X.K τ2 G2 σ2 H2/\Kp G H G2 H2/\N τ2 G2,λσ2 H2 ⟨τ2,G2,r2,k2,n2⟩=>?_,τ',G1,_,rl1,h1,⟨λτ2 G2 h2 σ2 H2 r2 k2=>⟨τ2,G2,r2,(k'.trans k1).trans k2,h2⟩,af.rt.back (k'.trans k1),af.nx.back (k'.trans k1),λτ2 G2 h2 σ2 H2 r2 k2=>⟨τ2,G2,r2,(k'.trans k1).trans k2,h2⟩⟩⟩;obtain ⟨m',hm,w2⟩:=hN τ2 G2 n2;exact ⟨m',hm,τ2,G2,r2,k2,w2⟩
  |false=>
   rw [if_neg Bool.false_ne_true] at h1 ⊢;exact af.nx τ' G1 h1 σ' H1 rl1 (k'.trans k1)
abbrev Sp3:=List T->Gp->Q3->Prop
def lSp (K:Frg) (sp:Sp3):Sp:=λvs H Q _=>∃ ts G q,HR K G H/\Rps K H ts vs/\sp ts G q/\Aft K G H q Q
def Fn3 (P:Program) (w:World) (K:Frg) (mg:Str->Option Value) (base:Heap) (k:Nat) (x:Str) (sp:Sp3):Prop:=
 ∃ f fd ps,FnOk P w K mg base CX0 k f fd ps (lSp K sp)/\zh K fd ps []/\PySem.W.keepIn K (.ref f)=true/\mg x=some (.ref f)
def Fn3.mono {P:Program} {w:World} {K:Frg} {mg:Str->Option Value} {base:Heap} {j k:Nat} {x:Str} {sp:Sp3} (F:Fn3 P w K mg base j x sp) (h:j<=k):Fn3 P w K mg base k x sp:=
 let ⟨f,fd,ps,a,b,c,d⟩:=F;⟨f,fd,ps,a.mono h,b,c,d⟩
def Fn3.imp {P:Program} {w:World} {K:Frg} {mg:Str->Option Value} {base:Heap} {k:Nat} {x:Str} {sp sp':Sp3} (F:Fn3 P w K mg base k x sp) (h:∀ ts G q,sp' ts G q->sp ts G q):Fn3 P w K mg base k x sp':=
 let ⟨f,fd,ps,a,b,c,d⟩:=F;⟨f,fd,ps,a.imp λvs H Q E ⟨ts,G,q,h1,h2,h3,h4⟩=>⟨ts,G,q,h1,h2,h _ _ _ h3,h4⟩,b,c,d⟩
def qkg {k:Nat} {x:Str} {p:Pos} {sp:Sp3} (F:Fn3 X.prog X.w X.K X.mg X.base k x sp) (hr:Room k X.A) (hg:Gl X x) (ha:A3 X (e::es) t) (hdb:(x==("__debug__" : Str))=false:=by decide)
  (he:starEach (e::es) X.env=(false,eval e X.env)::starEach es X.env:=by rfl) (hpl:(backTo pos (starEach es X.env)).any (·.1)=false:=by rfl):E3 X (.Call (.Name x p) (e::es) [] pos) (cb3 sp t):=by
 obtain ⟨f,fd,ps,F,b,kp,m⟩:=F;refine EM (qgO F hr hg m kp b .nil qmK ha hdb he hpl) λσ H Q ⟨τ,G,q,rl,h,af⟩=>JS rl h λxs G1 h1 vs H1 rs hr1 k1 rl1=>?_;rw [List.append_nil];exact ⟨xs,G1,q,hr1,rs,h1,af.back k1⟩
def qr (N:List Str) (ts:List T):St3:=ts.map some++List.replicate (N.length-ts.length) none
def R8 {K:Frg} {N:List Str} {G:Gp} {H:Hp} {ts:List T} {vs:List V} (hr:HR K G H) (rs:Rps K H ts vs):Rel K (qr N ts) G (L2.start N vs) H:=by
 refine ⟨hr,by simp [qr,L2.start,rs.length],λi t e=>?_⟩;unfold qr at e;by_cases hi:i<ts.length
 ·rw [List.getElem?_append_left (by simpa using hi),getElem?_map] at e;cases q:ts[i]? with
  |none=>rw [q] at e;cases e
  |some z=>
   rw [q] at e;have e':z=t:=by simpa using e
   subst e';obtain ⟨v,hv,r⟩:=rs.get q;refine ⟨v,?_,r⟩;unfold L2.start;rw [List.getElem?_append_left (by rw [length_map,← rs.length];exact hi),getElem?_map,hv];rfl
 ·rw [List.getElem?_append_right (by simpa using hi),List.getElem?_replicate] at e;split at e<;>cases e
def ql9 {P:Program} {w:World} {K:Frg} {mg:Str->Option Value} {base:Heap} {x qual:Str} {st:Stmt} {f:Addr} {fd:FuncData} {N ps:List Str} {k:Nat} {sp:Sp3} {t3:TS3} (F:Fun K x qual st f fd) (S:FnScope N ps (qj st)) (bd:zh K fd ps []) (hm:mg x=some (.ref f))
  (body:∀ (cdv:Value) (A:Around) (outer:List Env) (s:Shared) (H:Hp) (E:XK),Room k (A.deeper (envOfC qual (qj st) s.heap.objs.size f cdv)) ->
   B3 (qca CX0 P w K mg base N qual (qj st) f cdv A outer s H E).nox (z9 st) t3)
  (read:∀ ts G q,sp ts G q->ts.length=ps.length/\t3 { nx:=λ_ G'=>q .non G',rt:=q } (qr N ts) G):Fn3 P w K mg base (k+1) x sp:=by
 refine ⟨f,fd,ps,F.ok S (λvs H Q E ⟨ts,G,q,h1,h2,h3,h4⟩=>by rw [← h2.length];exact (read ts G q h3).1) λcdv A outer s H vs Q E hr ⟨ts,G,q,h1,h2,h3,h4⟩=>?_,bd,F.kp,hm⟩;refine ⟨_,body cdv A outer s H E hr,qr N ts,G,_,R8 h1 h2,(read ts G q h3).2,⟨λτ' G' h' σ' H' rl' k'=>h4 _ G' h' _ H' .non rl'.hp k',h4,λ_ _ z=>z.elim,λ_ _ z=>z.elim⟩⟩
def qeU (xs:List T):Option Bool:=match xs with
 |[]=>some true
 |.bl k::r=>(match qeU r with|some j=>some (k&&j)|none=>none)
 |_=>none
def qml (xs:List T):Option Bool:=match xs with
 |[]=>some false
 |.bl k::r=>(match qml r with|some j=>some (k||j)|none=>none)
 |_=>none
def qdw {P:Program} {w:World} {A:Around} {its:List Value} {ks:List Bool} (h:its=ks.map Value.bool):TruthOf P w A (λi v=>its.toArray[i]?=some v) (λi=>ks.getD i true):=by
 intro i v s Q E hp hq;subst h;have hp':ks[i]?.map Value.bool=some v:=by simpa using hp
 cases e:ks[i]? with
 |none=>rw [e] at hp';cases hp'
 |some k=>
  rw [e] at hp';cases hp';have:ks.getD i true=k:=by rw [getD_eq_getElem?_getD,e];rfl
  have hq:Q (ks.getD i true) s:=hq;rw [this] at hq;exact wpAny_truthy_bool hq
def W1:∀ {ks:List Bool} {us:List Value},zI (ks.map V.bl) us->us=ks.map Value.bool
 |[],_,r=>by cases r;rfl
 |k::ks,_,r=>by
  cases r with
  |cons a b=>rw [show _=Value.bool k from a,W1 b];rfl
def qbA (ks:List Bool):((List.range ks.length).all λi=>ks.getD i true)=ks.all id:=by
 induction ks with
 |nil=>rfl
 |cons k ks ih=>
  rw [length_cons,List.range_succ_eq_map,List.all_cons,List.all_map,List.all_cons];congr 1
def QZ (hc:X.calm=true):QL X (.builtin "all") (λxs H Q=>∃ (p:Addr) (ks:List Bool),xs=[.ref p]/\SqL X.K H p (ks.map V.bl)/\Q (.bl (ks.all id)) H):=by
 intro pins s σ H xs us Q I r h;obtain ⟨p,ks,rfl,hq,q⟩:=h;obtain ⟨u,rfl,rp⟩:=Y9 r;cases (show u=Value.ref p from rp);obtain ⟨its,rv,pl,hz⟩:=I.list hq;have hb:=W1 rv;have hlen:its.length=ks.length:=by rw [hb];simp
 have hp:p<s.heap.objs.size:=by obtain ⟨o,n,e,_⟩:=pl;exact Heap.lt_size e
 refine call_all_walk (wpAny_pyIter_list pl.isList ⟨s.heap.objs.size,_,_,_,_,_,λi=>ks.getD i true,rfl,Walks.list (A:=X.A.in1) (show X.A.in1.handled=none from I.ok.hd hc) s.heap.objs.size p (Nat.ne_of_lt hp) its.toArray,⟨⟨_,Heap.get?_push_size _ rfl,rfl,rfl⟩,?_⟩,qdw hb,λh' tk hk=>?_⟩)
 ·obtain ⟨o,n,e,c,_,d⟩:=pl;exact ⟨o,Heap.get?_push_of_some _ e,c,n,d⟩
 ·refine ⟨.bl _,H,?_,rfl,by rw [size_toArray,hlen,qbA];exact q⟩;exact I.kept (h':=h') (t':=tk) λb o e=>hk b o (by simp;exact Nat.ne_of_lt (Heap.lt_size e)) (Heap.get?_push_of_some _ e)
end
def WL (env:Env):List (Str×NameKind)->List (Str×Addr)->List (Str×Addr)
 |[],cs=>cs
 | (n,k)::r,cs=>if k=.free then WL env r ((n,(env.cells.lookup n).getD 0)::cs) else WL env r cs
def jN {scope:Scope} {env:Env} (h:∀ y∈scope.names,y.2=.free->∃ c,env.cells.lookup y.1=some c):closureFor scope env=pure (WL env scope.names []):=by
 have key:∀ (l:List (Str×NameKind)) (cs:List (Str×Addr)),(∀ y∈l,y.2=.free->∃ c,env.cells.lookup y.1=some c) ->
   (forIn l cs λ(x:Str×NameKind) (r:List (Str×Addr))=>if (x.2==NameKind.free)=true then (do let a←cellOf env x.1;pure (ForInStep.yield ((x.1,a)::r))) else pure (ForInStep.yield r))=(pure (WL env l cs):Sem _):=by
  intro l;induction l with
  |nil=>intro cs _;rfl
  |cons y r ih=>
   intro cs hl;obtain ⟨n,k⟩:=y;rw [List.forIn_cons];by_cases hk:k=.free
   ·subst hk;obtain ⟨c,hc⟩:=hl (n,.free) List.mem_cons_self rfl;have e:cellOf env n=pure c:=by unfold cellOf;rw [show List.lookup n env.cells=some c from hc]
    simp only [beq_self_eq_true,if_true];rw [e,pure_bind,pure_bind];show forIn r ((n,c)::cs) _=_;rw [ih _ λz hz=>hl z (List.mem_cons_of_mem _ hz)];show _=(pure (if NameKind.free=NameKind.free then WL env r ((n,(env.cells.lookup n).getD 0)::cs) else WL env r cs):Sem _);rw [if_pos rfl,show List.lookup n env.cells=some c from hc];rfl
   ·have hb:(k==NameKind.free)=false:=by cases k<;>first|rfl|exact absurd rfl hk
    simp only [hb,Bool.false_eq_true,if_false];rw [pure_bind];show forIn r cs _=_;rw [ih _ λz hz=>hl z (List.mem_cons_of_mem _ hz)];show _=(pure (if k=NameKind.free then WL env r ((n,(env.cells.lookup n).getD 0)::cs) else WL env r cs):Sem _);rw [if_neg hk]
 have:=key scope.names [] h;unfold closureFor;refine Eq.trans ?_ this;exact bind_pure (m:=Sem) _
def VH {env:Env}:∀ (l:List (Str×NameKind)) (cs:List (Str×Addr)) (x:Str) (c:Addr),(∀ y∈l,y.2=.free->∃ c,env.cells.lookup y.1=some c) ->
  (∀ x c,cs.lookup x=some c->env.cells.lookup x=some c)->(WL env l cs).lookup x=some c->env.cells.lookup x=some c
 |[],_,_,_,_,h,e=>h _ _ e
 | (n,k)::r,cs,x,c,hl,h,e=>by
  unfold WL at e;split at e
  ·rename_i hk;refine VH r _ x c (λy hy=>hl y (List.mem_cons_of_mem _ hy)) (λx c e=>?_) e;rw [List.lookup_cons] at e;split at e
   ·rename_i hx;have hx':x=n:=by simpa using hx
    subst hx';obtain ⟨d,hd⟩:=hl (x,k) List.mem_cons_self hk;have hd:List.lookup x env.cells=some d:=hd;rw [hd] at e ⊢;exact e
   ·exact h _ _ e
  ·exact VH r cs x c (λy hy=>hl y (List.mem_cons_of_mem _ hy)) h e
def EW {env:Env}:∀ (l:List (Str×NameKind)) (cs:List (Str×Addr)) (x:Str),((x,NameKind.free)∈l\/∃ c,cs.lookup x=some c)->∃ c,(WL env l cs).lookup x=some c
 |[],_,_,h=>by
  rcases h with h|h
  ·simp at h
  ·exact h
 | (n,k)::r,cs,x,h=>by
  unfold WL;have put:∀ d:Addr,(x=n\/∃ c,cs.lookup x=some c)->∃ c,((n,d)::cs).lookup x=some c:=λd z=>by
   rw [List.lookup_cons];cases hx:x==n with
   |true=>exact ⟨d,rfl⟩
   |false=>
    rcases z with z|z
    ·rw [z] at hx;simp at hx
    ·exact z
  split
  ·rename_i hk;refine EW r _ x ?_;rcases h with h|h
   ·rcases mem_cons.mp h with e|e
    ·cases e;exact .inr (put _ (.inl rfl))
    ·exact .inl e
   ·exact .inr (put _ (.inr h))
  ·rename_i hk;refine EW r _ x ?_;rcases h with h|h
   ·rcases mem_cons.mp h with e|e
    ·cases e;exact absurd rfl hk
    ·exact .inl e
   ·exact .inr h
def CA {env:Env}:∀ (l:List (Str×NameKind)) (cs:List (Str×Addr)) (x:Str) (c:Addr),(WL env l cs).lookup x=some c->(x,NameKind.free)∈l\/cs.lookup x=some c
 |[],_,_,_,e=>.inr e
 | (n,k)::r,cs,x,c,e=>by
  unfold WL at e;split at e
  ·rename_i hk;rcases CA r _ x c e with z|z
   ·exact .inl (List.mem_cons_of_mem _ z)
   ·rw [List.lookup_cons] at z;split at z
    ·rename_i hx;have hx':x=n:=by simpa using hx
     subst hx';subst hk;exact .inl List.mem_cons_self
    ·exact .inr z
  ·rcases CA r cs x c e with z|z
   ·exact .inl (List.mem_cons_of_mem _ z)
   ·exact .inr z
def U4 {α:Type}:∀ (xs ys:List (Str×α)) (x:Str),(xs++ys).lookup x=(match xs.lookup x with|some c=>some c|none=>ys.lookup x)
 |[],ys,x=>rfl
 | (n,c)::xs,ys,x=>by
  rw [cons_append,List.lookup_cons,List.lookup_cons];cases x==n with
  |true=>rfl
  |false=>exact U4 xs ys x
def ji:∀ (l:List (Str×NameKind)) {n:Nat} {acc:List (Str×Addr)},cellsFrom n l acc=cellsFrom n l []++acc
 |[],_,_=>rfl
 | (x,k)::r,n,acc=>by
  unfold cellsFrom;split
  ·rw [ji r (acc:=(x,n)::acc),ji r (acc:=[(x,n)]),List.append_assoc];rfl
  ·exact ji r
def JC:∀ (l:List (Str×NameKind)) (n:Nat) (acc:List (Str×Addr)) (x:Str) (c:Addr),(x,c)∈cellsFrom n l acc->(x,NameKind.cell)∈l\/(x,c)∈acc
 |[],_,_,_,_,h=>.inr h
 | (y,k)::r,n,acc,x,c,h=>by
  unfold cellsFrom at h;split at h
  ·rename_i hk;have hk:k=.cell:=by simpa using hk
   rcases JC r _ _ x c h with z|z
   ·exact .inl (List.mem_cons_of_mem _ z)
   ·rcases mem_cons.mp z with e|e
    ·cases e;subst hk;exact .inl List.mem_cons_self
    ·exact .inr e
  ·rcases JC r _ _ x c h with z|z
   ·exact .inl (List.mem_cons_of_mem _ z)
   ·exact .inr z
def jV:∀ (l:List (Str×NameKind)) (n:Nat) (acc:List (Str×Addr)) (x:Str),((x,NameKind.cell)∈l\/∃ c,acc.lookup x=some c)->∃ c,(cellsFrom n l acc).lookup x=some c
 |[],_,_,_,h=>by
  rcases h with h|h
  ·simp at h
  ·exact h
 | (y,k)::r,n,acc,x,h=>by
  unfold cellsFrom;have put:(x=y\/∃ c,acc.lookup x=some c)->∃ c,((y,n)::acc).lookup x=some c:=λz=>by
   rw [List.lookup_cons];cases hx:x==y with
   |true=>exact ⟨n,rfl⟩
   |false=>
    rcases z with z|z
    ·rw [z] at hx;simp at hx
    ·exact z
  split
  ·refine jV r _ _ x ?_;rcases h with h|h
   ·rcases mem_cons.mp h with e|e
    ·cases e;exact .inr (put (.inl rfl))
    ·exact .inl e
   ·exact .inr (put (.inr h))
  ·rename_i hk;refine jV r _ _ x ?_;rcases h with h|h
   ·rcases mem_cons.mp h with e|e
    ·cases e;exact absurd rfl hk
    ·exact .inl e
   ·exact .inr h
def zT {M:Model} {A:Around} {E:Value->Shared->Prop} {s:Shared} {scope:Scope} {globals:Addr} {cl:List (Str×Addr)} {qual:Str} {env:Env} {Q:Env->Shared->Prop}
  (hQ:∀ h₁:Heap,h₁.Ns s.heap.objs.size (λ_=>none)->(∀ b o,s.heap.get? b=some o->h₁.get? b=some o)->CellsOk h₁ (s.heap.objs.size+1) (cellsFrom (s.heap.objs.size+1) scope.names [])->Q (newEnv scope s.heap.objs.size globals (cellsFrom (s.heap.objs.size+1) scope.names cl) qual none .none (some env) builtinsNs) { s with heap:=h₁ }) :
  wpAny M A (newFunctionEnv scope globals cl [] qual none .none (some env)) Q E s:=by
 simp only [newFunctionEnv,Option.isSome_some,if_true];refine wpAny_bind (wpAny_alloc ?_);refine wpAny_bind (wpAny_layCells _ (λname kind cells=>by cases hkc:kind==NameKind.cell<;>simp [hkc]) _ _ _ _ ?_);have ok:=cellsFrom_ok scope.names (s.heap.push { cls:=.type "dict",data:=.dict #[] }) (s.heap.objs.size+1) [] ⟨λ_ _ hm=>(nomatch hm),List.Pairwise.nil⟩ (by rw [Heap.size_push];exact Nat.le_refl _);rw [Heap.size_push] at ok;rw [show ({ s with heap:=s.heap.push { cls:=.type "dict",data:=.dict #[] } }:Shared).heap.objs.size=s.heap.objs.size+1 from Heap.size_push ..];rw [List.forIn_nil];refine wpAny_bind (wpAny_pure (wpAny_pure ?_));exact hQ _ ((Heap.Ns.new s.heap (.type "dict")).keeps (pushCells_keeps _ _)) (λb o e=>pushCells_keeps _ _ b o (Heap.get?_push_of_some _ e)) ok
def qg (X:Cx) (N':List Str) (scope:Scope) (s:Shared) (H:Hp) (fp:List Addr):Cx where
 prog:=X.prog
 w:=X.w
 K:=X.K
 mg:=X.mg
 base:=X.base
 A:=X.A
 N:=N'
 s₀:=s
 H₀:=H
 env:=compEnvC scope (cellsFrom (s.heap.objs.size+1) scope.names (WL X.env scope.names [])) s.heap.objs.size X.env
 outer:=X.stack
 stack:=X.stack
 ex:=fp
 fn:=λx=>scope.names.lookup x==some .cell
 calm:=true
 pn:=[]
 xe:=λ_ _=>False
def SV (outer inner:Scope):Bool:=(inner.kind==.function)&&inner.names.all λy=>
 (y.2 != .cell||inner.names.lookup y.1==some .cell)&&(y.2 != .local||inner.names.lookup y.1==some .local)&&(y.2 != .free||(inner.names.lookup y.1==some .free&&(outer.names.lookup y.1==some .cell||outer.names.lookup y.1==some .free)))
def cap {α:Type} (m:List (Option Nat)) (σ:List (Option α)):List (Option α):=m.map λo=>match o with|some j=>(σ[j]?).join|none=>none
def ZX (N N':List Str) (scope:Scope) (m:List (Option Nat)):Bool:=(m.length==N'.length)&&(m.zip N').all λp=>match p.1 with
 |none=>true
 |some j=>N[j]?==some p.2&&scope.names.lookup p.2==some .free
def N0 {α:Type} {m:List (Option Nat)} {σ:List (Option α)} {i:Nat} {v:α} (h:(cap m σ)[i]?=some (some v)):∃ j,m[i]?=some (some j)/\σ[j]?=some (some v):=by
 unfold cap at h;rw [getElem?_map] at h;cases e:m[i]? with
 |none=>rw [e] at h;cases h
 |some o=>
  rw [e] at h;cases o with
  |none=>cases h
  |some j=>
   refine ⟨j,rfl,?_⟩;have h':(σ[j]?).join=some v:=by simpa using h
   cases q:σ[j]? with
   |none=>rw [q] at h';cases h'
   |some z=>rw [q] at h';exact congrArg some h'
def qaN {N N':List Str} {scope:Scope} {m:List (Option Nat)} (h:ZX N N' scope m=true) {i j:Nat} {x:Str} (e:m[i]?=some (some j)) (hx:N'[i]?=some x):N[j]?=some x/\scope.names.lookup x=some .free:=by
 unfold ZX at h;rw [Bool.and_eq_true] at h;have hm:(some j,x)∈m.zip N':=mem_of_getElem? (i:=i) (List.getElem?_zip_eq_some.mpr ⟨e,hx⟩);have:=List.all_eq_true.mp h.2 _ hm;simp only [Bool.and_eq_true,beq_iff_eq] at this;exact this
def qf5 {N N':List Str} {scope:Scope} {m:List (Option Nat)} {α:Type} (σ:List (Option α)) (h:ZX N N' scope m=true):(cap m σ).length=N'.length:=by
 unfold ZX at h;rw [Bool.and_eq_true] at h;unfold cap;rw [length_map];simpa using h.1
structure ScFacts (outer inner:Scope):Prop where
 kind:inner.kind=.function
 own:∀ y∈inner.names,y.2=.cell->inner.names.lookup y.1=some .cell
 loc:∀ y∈inner.names,y.2=.local->inner.names.lookup y.1=some .local
 free:∀ y∈inner.names,y.2=.free->inner.names.lookup y.1=some .free/\(outer.names.lookup y.1=some .cell\/outer.names.lookup y.1=some .free)
def YZ {outer inner:Scope} (h:SV outer inner=true):ScFacts outer inner:=by
 unfold SV at h;rw [Bool.and_eq_true] at h;have ha:=List.all_eq_true.mp h.2;refine ⟨by simpa using h.1,λy hy e=>?_,λy hy e=>?_,λy hy e=>?_⟩
 ·have:=ha y hy;rw [e] at this;simpa using this
 ·have:=ha y hy;rw [e] at this;simpa using this
 ·have:=ha y hy;rw [e] at this;simpa using this
def QX {scope:Scope} {env:Env} {x:Str} {k:NameKind} (h:(relabel scope env).names.lookup x=some k):scope.names.lookup x=some k\/(k=.cell/\scope.names.lookup x=some .free):=by
 have key:∀ (l:List (Str×NameKind)),(l.map λ(n,k)=>if (k==NameKind.free&&env.scope.kind==.function&&env.kindOf n==some .cell) then (n,NameKind.cell) else (n,k)).lookup x=some k->l.lookup x=some k\/(k=.cell/\l.lookup x=some .free):=by
  intro l;induction l with
  |nil=>intro h;simp at h
  |cons y r ih=>
   intro h;obtain ⟨n,j⟩:=y;rw [map_cons] at h;dsimp only at h;by_cases hc:(j==NameKind.free&&env.scope.kind==.function&&env.kindOf n==some .cell)=true
   ·rw [if_pos hc,List.lookup_cons] at h;rw [List.lookup_cons];cases hx:x==n with
    |true=>
     rw [hx] at h;have hk:NameKind.cell=k:=by simpa using h
     have hj:j=.free:=by simp only [Bool.and_eq_true,beq_iff_eq] at hc;exact hc.1.1
     exact .inr ⟨hk.symm,by rw [hj]⟩
    |false=>rw [hx] at h;exact ih h
   ·rw [if_neg hc,List.lookup_cons] at h;rw [List.lookup_cons];cases hx:x==n with
    |true=>rw [hx] at h;exact .inl h
    |false=>rw [hx] at h;exact ih h
 exact key scope.names h
def PF (X:Cx) (ifs:List Expr) (t:TT):Prop:=
 ∀ (pins:List (Addr×Obj)) (s:Shared) (σ:L2.St) (H:Hp) (Q:Bool->Hp->Prop),Inv X pins σ H s->t σ H Q ->
  wpAny (model X.prog X.w) X.A (forIn ifs true λc r=>if r=true then do let ok←isTrue c X.env (eval c X.env);pure (ForInStep.yield ok) else pure (ForInStep.yield r)) (TP X pins σ Q) X.xe s
def qkh {X:Cx}:PF X [] (λ_ H Q=>Q true H):=λ_ _ _ H _ I h=>wpAny_tests_nil ⟨H,I,h⟩
def qkR {X:Cx} {c:Expr} {t:TT} (h:PT X c t):PF X [c] t:=λpins s σ H Q I q=>wpAny_tests_one (h pins s σ H Q I q)
section
variable {X:Cx} {pins:List (Addr×Obj)} {σ:L2.St} {H:Hp} {s:Shared}
def E8 {N':List Str} {scope:Scope} {fp:List Addr} {m:List (Option Nat)} {h1:Heap} {mm:Str->Option Value} (hc:X.calm=true) (I:Inv X pins σ H s) (sc:ScFacts X.env.scope scope) (hcap:ZX X.N N' scope m=true)
  (hfp:∀ b∈fp,WK X pins H b) (hob:∀ b∈fp,∃ o,s.heap.get? b=some o) (hns:h1.Ns s.heap.objs.size mm) (hk:∀ b o,s.heap.get? b=some o->h1.get? b=some o) (hown:CellsOk h1 (s.heap.objs.size+1) (cellsFrom (s.heap.objs.size+1) scope.names [])) :
  Inv (qg X N' scope s H fp) [] (cap m σ) H { s with heap:=h1 }:=by
 have hcl:∀ y∈scope.names,y.2=.free->∃ c,X.env.cells.lookup y.1=some c:=λy hy e=>by
  rcases (sc.free y hy e).2 with z|z
  ·exact I.ok.has y.1 (.inl z)
  ·exact I.ok.has y.1 (.inr z)
 have cl:∀ x c,(WL X.env scope.names []).lookup x=some c->X.env.cells.lookup x=some c:=λx c e=>VH scope.names [] x c hcl (λ_ _ z=>by simp at z) e;have clt:∀ x c,(WL X.env scope.names []).lookup x=some c->c<s.heap.objs.size:=λx c e=>by
  obtain ⟨v,q⟩:=I.cell x c (cl x c e);exact q.lt
 -- a cell of the block: its own,or one from around
 have cs:∀ x c,(cellsFrom (s.heap.objs.size+1) scope.names (WL X.env scope.names [])).lookup x=some c->((x,c)∈cellsFrom (s.heap.objs.size+1) scope.names []/\s.heap.objs.size+1<=c/\h1.IsCell c none)\/(WL X.env scope.names []).lookup x=some c:=λx c e=>by
  rw [ji,U4] at e;cases q:(cellsFrom (s.heap.objs.size+1) scope.names []).lookup x with
  |none=>rw [q] at e;exact .inr e
  |some d=>
   rw [q] at e;cases e;have mem:=PySem.mem_of_lookup q;exact .inl ⟨mem,(hown.empty x _ mem).2,(hown.empty x _ mem).1⟩
 have fpne:∀ b∈fp,b≠s.heap.objs.size:=λb hb=>let ⟨o,e⟩:=hob b hb;Nat.ne_of_lt (Heap.lt_size e)
 refine ⟨⟨I.ok.mod,sc.kind,I.ok.glob,I.ok.blt,Nat.le_refl _,λx y c e1 e2=>?_,λx hx=>?_,λx c hf e=>?_,λ_=>I.ok.hd hc,I.ok.frames,.inl rfl,λb hb=>⟨fpne b hb,λx c e=>?_⟩,I.bs,Nat.le_trans I.ok.bsz I.sz,λb o e hb=>?_,λb hb z=>?_,I.stack,I.stkFree⟩,
  rfl,I.bare,Un.kept hk,⟨mm,hns,λi x v e1 e2 e3=>?_⟩,λx c e=>?_,I.fresh,λx c e=>?_,λp hp=>absurd (show p∈([]:List (Addr×Obj)) from hp) (by simp),I.hok.kept hk,qf5 σ hcap⟩
 ·rcases cs x c e1 with ⟨m1,l1,_⟩|z1<;>rcases cs y c e2 with ⟨m2,l2,_⟩|z2
  ·exact PySem.name_of_addr hown.apart m1 m2
  ·exact absurd (clt y c z2) (Nat.not_lt.mpr (Nat.le_trans (Nat.le_succ _) l1))
  ·exact absurd (clt x c z1) (Nat.not_lt.mpr (Nat.le_trans (Nat.le_succ _) l2))
  ·exact I.ok.inj x y c (cl x c z1) (cl y c z2)
 ·have hx:(relabel scope X.env).names.lookup x=some .cell\/(relabel scope X.env).names.lookup x=some .free:=hx;have hf:scope.names.lookup x=some .cell\/scope.names.lookup x=some .free:=by
   rcases hx with z|z
   ·rcases QX z with q|⟨_,q⟩
    ·exact .inl q
    ·exact .inr q
   ·rcases QX z with q|⟨q,_⟩
    ·exact .inr q
    ·cases q
  show ∃ c,(cellsFrom (s.heap.objs.size+1) scope.names (WL X.env scope.names [])).lookup x=some c;rcases hf with hf|hf
  ·exact jV scope.names _ _ x (.inl (PySem.mem_of_lookup hf))
  ·exact jV scope.names _ _ x (.inr (EW scope.names [] x (.inl (PySem.mem_of_lookup hf))))
 ·have hf:scope.names.lookup x=some .cell:=by simpa [qg] using hf
  rcases cs x c e with ⟨_,l1,_⟩|z1
  ·exact Nat.le_trans (Nat.le_succ _) l1
  ·rcases CA scope.names [] x c z1 with q|q
   ·rw [(sc.free _ q rfl).1] at hf;cases hf
   ·simp at q
 ·rcases cs x c e with ⟨_,l1,_⟩|z1
  ·obtain ⟨o,eo⟩:=hob b hb;exact Nat.ne_of_gt (Nat.lt_of_lt_of_le (Heap.lt_size eo) (Nat.le_trans (Nat.le_succ _) l1))
  ·exact (hfp b hb).2.2.2.2.1 x c (cl x c z1)
 ·rcases (hfp b hb).2.2.2.1 with z|z
  ·exact I.ok.noex b o e z
  ·exact absurd (Nat.lt_of_lt_of_le (Heap.lt_size e) (Nat.le_trans I.ok.bsz z)) (Nat.lt_irrefl _)
 ·rcases mem_cons.mp (I.stkSub b z) with q|q
  ·exact (hfp b hb).2.1 q
  ·exact (hfp b hb).2.2.1 q
 ·obtain ⟨j,ej,es⟩:=N0 e2;obtain ⟨hN,hfr⟩:=qaN hcap ej e1;have mem:=PySem.mem_of_lookup hfr;have ho:=(sc.free _ mem rfl).2;obtain ⟨m0,hn0,hl0⟩:=I.loc;obtain ⟨u,ru,lk⟩:=hl0 j x v hN es (ho.elim (λz=>.inr (.inl z)) λz=>.inr (.inr z));refine ⟨u,ru,.inr ⟨?_,?_⟩⟩
  ·rcases e3 with z|z|z
   ·rcases QX z with q|⟨q,_⟩
    ·rw [hfr] at q;cases q
    ·cases q
   ·exact .inl z
   ·exact .inr z
  ·rcases lk with ⟨z,_⟩|⟨_,c,hc',hcell⟩
   ·have z:X.env.scope.names.lookup x=some .local:=z;rcases ho with q|q<;>(rw [z] at q;cases q)
   ·obtain ⟨c',hc2⟩:=EW (env:=X.env) scope.names [] x (.inl mem);have e:=cl x c' hc2;rw [hc'] at e;cases e;obtain ⟨o,eo,d⟩:=hcell;refine ⟨c,?_,o,hk c o eo,d⟩;show (cellsFrom (s.heap.objs.size+1) scope.names (WL X.env scope.names [])).lookup x=some c;rw [ji,U4];cases q:(cellsFrom (s.heap.objs.size+1) scope.names []).lookup x with
    |none=>exact hc2
    |some d=>
     rcases JC scope.names _ [] x d (PySem.mem_of_lookup q) with z|z
     ·rw [sc.own _ z rfl] at hfr;cases hfr
     ·simp at z
 ·rcases cs x c e with ⟨_,_,z⟩|z1
  ·exact ⟨none,z⟩
  ·obtain ⟨v,o,eo,d⟩:=I.cell x c (cl x c z1);exact ⟨v,o,hk c o eo,d⟩
 ·rcases cs x c e with ⟨_,l1,_⟩|z1
  ·exact I.hok.fresh (Nat.le_trans (Nat.le_succ _) l1)
  ·exact I.freeC x c (cl x c z1)
def YR {N':List Str} {scope:Scope} {fp:List Addr} {pins':List (Addr×Obj)} {σ':L2.St} {H':Hp} {s':Shared} {h2:Heap} (I:Inv X pins σ H s) (hfp:∀ b∈fp,WK X pins H b) (J:Inv (qg X N' scope s H fp) pins' σ' H' s')
  (sb:Heap.SameBut s.heap.objs.size s'.heap h2):Inv X pins σ H' { s' with heap:=h2 }:=by
 have ne:∀ b o,s.heap.get? b=some o->b≠s.heap.objs.size:=λb o e=>Nat.ne_of_lt (Heap.lt_size e);have g:∀ b,b≠s.heap.objs.size->h2.get? b=s'.heap.get? b:=λb hb=>sb.2 b hb;have hn:H' s.heap.objs.size=none:=J.free;have u:Un (frs X.stack) fp H H' s.heap s'.heap:=J.base;refine I.call' (s':={ s' with heap:=h2 }) J.os ⟨λb o e n hb hx=>?_,λb o e n hb hx=>?_,u.free,λb o e hx=>?_,u.tups,u.frzs,u.tbls⟩ (λa o e=>?_) J.bare λb hb=>⟨(hfp b hb).2.2.2.1,(hfp b hb).2.1,(hfp b hb).2.2.2.2.1,(hfp b hb).2.2.2.2.2⟩
 ·show h2.get? b=_;rw [g b (ne b o e)];exact u.keep b o e n hb hx
 ·show ∃ sl,h2.get? b=_;rw [g b (ne b o e)];exact u.slot b o e n hb hx
 ·show ∃ o',h2.get? b=_;rw [g b (ne b o e)];exact u.there b o e hx
 ·refine (J.hok a o e).stay (λb v hb q=>?_) (λ_ q=>q) λ_ _ q=>q;have hb':b≠s.heap.objs.size:=by
   intro z;subst z;rcases hb with z|z
   ·rw [← z] at e;rw [hn] at e;cases e
   ·rw [hn] at z;cases z
  rw [g b hb'];exact q
end
def tLC (wi:TI) (g:TG) (tif:TT) (te:TE) (m:List (Option Nat)):TE:=λσ H Q=>wi σ H λJ H1=>∀ D,H1 D=none ->
 ∃ W:Nat->Nat->L2.St->Hp->Prop,(∃ n,W 0 n (cap m σ) (upd H1 D (.lst [])))/\∀ i n σ H,W i n σ H ->
  (J.stop i H/\Q (.ref D) H)\/(J.go i H/\∀ x H',J.yld i H x H'->g x σ H' λσ2 H2=>tif σ2 H2 λk H3=>
   if k=true then te σ2 H3 λy H4=>∃ zs,H4 D=some (.lst zs)/\zs.length<sizeLine/\∃ n',n'<n/\W (i+1) n' σ2 (upd H4 D (.lst (zs++[y])))
   else ∃ n',n'<n/\W (i+1) n' σ2 H3)
section
variable {X:Cx}
def qnP {elt tg iter:Expr} {ifs:List Expr} {scope:Scope} {pos:Pos} {N':List Str} {m:List (Option Nat)} {wi:TI} {g:TG} {tif:TT} {te:TE} (hc:X.calm=true) (hi:PI X tg iter wi)
  (hg:∀ s H fp,PG (qg X N' scope s H fp) tg g) (hf:∀ s H fp,PF (qg X N' scope s H fp) ifs tif) (he:∀ s H fp,PE (qg X N' scope s H fp) elt te)
  (hsc:SV X.env.scope scope=true) (hcap:ZX X.N N' scope m=true) (hs:∀ x,foldedSetIterable iter X.env x=pure x:=by intro _;rfl) :
  PE X (.ListComp elt [⟨tg,iter,ifs,0⟩] scope pos) (tLC wi g tif te m):=by
 intro pins s σ H Q I h;have sc:=YZ hsc;have hcl:∀ y∈scope.names,y.2=.free->∃ c,X.env.cells.lookup y.1=some c:=λy hy e=>by
  rcases (sc.free y hy e).2 with z|z
  ·exact I.ok.has y.1 (.inl z)
  ·exact I.ok.has y.1 (.inr z)
 rw [eval_ListComp];refine wpAny_comprehension_free (use:=none) (g:=⟨tg,iter,ifs,0⟩) (gs:=[]) rfl hs (jN hcl) sc.kind sc.loc ?_;show wpAny _ _ (eval iter X.env) _ _ s;refine thn (hi pins s σ H _ I h) λv s1 h1=>thn h1 λitv s2 h2=>?_;obtain ⟨it,fp,tn,J,H2,rfl,I2,T,st2,f2,hW⟩:=h2;refine wpAny_newObj_type ?_;have hD:H2 s2.heap.objs.size=none:=I2.fresh;obtain ⟨W,⟨n0,w0⟩,turn⟩:=hW _ hD;generalize hDe:s2.heap.objs.size=D at *;have I3:Inv X pins σ (upd H2 D (.lst [])) { s2 with heap:=s2.heap.push { cls:=.type "list",dict:=none,data:=.seq ([]:List Value).toArray } }:=by
  subst hDe;exact I2.laid (t':=s2.toks) (λb u e=>Heap.get?_push_of_some _ e) (Nat.le_refl _) ⟨Nat.zero_le _,[],0,.nil,Heap.get?_push_size _ rfl⟩
 have ob2:=T.obj 0 _ st2;have ob3:∀ b∈fp,∃ o,(s2.heap.push { cls:=.type "list",dict:=none,data:=.seq ([]:List Value).toArray }).get? b=some o:=λb hb=>let ⟨o,e,_⟩:=ob2 b hb;⟨o,Heap.get?_push_of_some _ e⟩
 have f3:∀ b∈fp,WK X pins (upd H2 D (.lst [])) b:=λb hb=>by
  obtain ⟨o,e,_⟩:=ob2 b hb;have:b≠D:=by rw [← hDe];exact Nat.ne_of_lt (Heap.lt_size e)
  exact ⟨by rw [qC this];exact (f2 b hb).1,(f2 b hb).2⟩
 have k23:∀ b o,s2.heap.get? b=some o->(s2.heap.push { cls:=.type "list",dict:=none,data:=.seq ([]:List Value).toArray }).get? b=some o:=λb o e=>Heap.get?_push_of_some _ e;generalize hH3:upd H2 D (.lst [])=H3 at *;generalize hs3:({ s2 with heap:=s2.heap.push { cls:=.type "list",dict:=none,data:=.seq ([]:List Value).toArray } }:Shared)=s3 at *;have ob3:∀ b∈fp,∃ o,s3.heap.get? b=some o:=by rw [← hs3];exact ob3
 have k23:∀ b o,s2.heap.get? b=some o->s3.heap.get? b=some o:=by rw [← hs3];exact k23
 refine zT λh₁ hns hk hown=>?_;have I4:Inv (qg X N' scope s3 H3 fp) [] (cap m σ) H3 { s3 with heap:=h₁ }:=E8 hc I3 sc hcap f3 ob3 hns hk hown;have tn4:tn 0 h₁:=T.keep _ _ _ st2 λb hb o e=>hk b o (k23 b o e);have fr4:∀ b∈fp,H3 b=none:=λb hb=>(f3 b hb).1;have stat:∀ {H':Hp},(∀ b∈fp,H' b=none)->∀ b∈fp,WK (qg X N' scope s3 H3 fp) [] H' b:=λhn b hb=>by
  refine ⟨hn b hb,I4.ok.exf b hb |>.1,I4.ok.exfs b hb,.inl hb,λx c e=>(I4.ok.exf b hb).2 x c e,λp hp=>absurd (show p∈([]:List (Addr×Obj)) from hp) (by simp)⟩
 show codeAny (model X.prog X.w) X.A (.compStart (.ListComp elt [⟨tg,iter,ifs,0⟩] scope pos) 0 (.ref it) (.ref D) (qg X N' scope s3 H3 fp).env) (compPost (model X.prog X.w) X.A X.xe none (EP X pins σ Q) (.ref D) s3.heap.objs.size) { s3 with heap:=h₁ };have loop:codeAny (model X.prog X.w) X.A (.compLoop (.ListComp elt [⟨tg,iter,ifs,0⟩] scope pos) 0 (.ref it) (.ref D) (qg X N' scope s3 H3 fp).env) (compPost (model X.prog X.w) X.A X.xe none (EP X pins σ Q) (.ref D) s3.heap.objs.size) { s3 with heap:=h₁ }:=by
  refine codeAny_loop rfl (λn s'=>∃ i σ' H',Inv (qg X N' scope s3 H3 fp) [] σ' H' s'/\tn i s'.heap/\(∀ b∈fp,H' b=none)/\W i n σ' H') (λn s' hI=>?_) n0 ⟨0,cap m σ,H3,I4,tn4,fr4,w0⟩;show wpAny _ X.A ((compTurn (.ListComp elt [⟨tg,iter,ifs,0⟩] scope pos) 0 (.ref it) (.ref D) (qg X N' scope s3 H3 fp).env).onRaise (λx=>do noteFrame x (qg X N' scope s3 H3 fp).env;theTreesLotGoes x)) _ _ s';refine wpAny_noted ?_;rw [compTurn_list];refine wpAny_bind (wpAny_standAt (wpAny_bind ?_));obtain ⟨i,σ5,H5,I5,st5,fr5,w5⟩:=hI;rcases turn i n σ5 H5 w5 with ⟨stop,q⟩|⟨go,step⟩
  ·refine thn (T.done (qg X N' scope s3 H3 fp) rfl rfl rfl rfl i [] s' σ5 H5 _ I5 (stat fr5) st5 stop) λr s6 ⟨hr,I6⟩=>?_;subst hr;refine wpAny_pure ?_;obtain ⟨mm,hn6,_⟩:=I6.loc;exact ⟨mm,hn6,λh' sb=>⟨.ref D,H5,YR I3 f3 I6 sb,rfl,q⟩⟩
  ·refine thn (T.item (qg X N' scope s3 H3 fp) rfl rfl rfl rfl i [] s' σ5 H5 _ I5 (stat fr5) st5 go) λr s6 ⟨u,hr,h6⟩=>?_;subst hr;refine wpAny_bind (thn h6 λ_ s7 ⟨x,H7,I7,r7,y7,st7,fr7⟩=>?_);have I7':=I7.pinned (stat fr7) (T.obj _ _ st7);have again:∀ {σ8:L2.St} {H8:Hp} {s8:Shared},Inv (qg X N' scope s3 H3 fp) ([]++VS fp s7.heap) σ8 H8 s8->(∃ n',n'<n/\W (i+1) n' σ8 H8) ->
     ∃ m',m'<n/\∃ i σ' H',Inv (qg X N' scope s3 H3 fp) [] σ' H' s8/\tn i s8.heap/\(∀ b∈fp,H' b=none)/\W i m' σ' H':=λ{σ8 H8 s8} I8 ⟨n',hn,w8⟩=>by
    refine ⟨n',hn,i+1,σ8,H8,I8.unpinned,T.keep _ _ _ st7 λb hb o e=>(I8.pin (b,o) (mem_append_right _ (mem_append_right _ (q0 hb e)))).1,λb hb=>?_,w8⟩;obtain ⟨o,e,d⟩:=T.obj _ _ st7 b hb;exact (I8.pin (b,o) (mem_append_right _ (mem_append_right _ (q0 hb e)))).2.1
   refine wpAny_bind (wpAny_mono (hg s3 H3 fp _ s7 σ5 H7 x u _ I7' r7 (step x H7 y7)) (λ_ s8 ⟨σ8,H8,I8,q8⟩=>?_) λ_ _ z=>z.elim);refine wpAny_bind (wpAny_mono (hf s3 H3 fp _ s8 σ8 H8 _ I8 q8) (λk s9 ⟨H9,I9,q9⟩=>?_) λ_ _ z=>z.elim);cases k with
   |false=>
    rw [if_neg Bool.false_ne_true] at q9;exact wpAny_pure ⟨rfl,again I9 q9⟩
   |true=>
    rw [if_pos rfl] at q9;refine wpAny_bind (wpAny_bind (wpAny_mono (he s3 H3 fp _ s9 σ8 H9 _ I9 q9) (λw s10 ⟨y,H10,I10,r10,q10⟩=>?_) λ_ _ z=>z.elim));obtain ⟨zs,hz,hl,q10⟩:=q10;refine wpAny_bind (wpAny_mono (VY (X:=qg X N' scope s3 H3 fp) _ s10 σ8 H10 (.ref D) [y] (.ref D) [w] (λ_ H11=>H11=upd H10 D (.lst (zs++[y]))) I10 rfl (.cons r10 .nil) ⟨D,zs,y,rfl,rfl,hz,hl,rfl⟩) (λ_ s11 ⟨_,H11,I11,_,e11⟩=>?_) λ_ _ z=>z.elim);subst e11;exact wpAny_pure (wpAny_pure ⟨rfl,again I11 q10⟩)
 exact codeAny_compStart_list loop (T.self X.A 0 _ _ _ tn4 loop)
end
section
variable {K:Frg} {G G':Gp} {H H':Hp}
def qg1 {D:Addr} {o:HO} {ws:List V} (hD:H D=some (.lst ws)) {a:Addr} {vs:List V} (h:SqT K H a vs):SqT K (upd H D o) a vs:=by
 rcases h with h|h
 ·refine .inl ?_;rcases h with h|⟨ob,h⟩
  ·have:a≠D:=by intro e;subst e;rw [hD] at h;cases h
   exact .inl (by rw [qC this];exact h)
  ·have:a≠D:=by intro e;subst e;rw [hD] at h;cases h
   exact .inr ⟨ob,by rw [qC this];exact h⟩
 ·exact .inr h
mutual
def Rp.wrD {D:Addr} {o:HO} {ws:List V} (hD:H D=some (.lst ws)):∀ {x:T} {v:V},Rp K H x v->Rp K (upd H D o) x v
 |_,_,.non=>.non
 |_,_,.bl b=>.bl b
 |_,_,.int i=>.int i
 |_,_,.str x=>.str x
 |_,_,.ref a=>.ref a
 |_,_,.tup h hs=>.tup (qg1 hD h) (Rps.wrD hD hs)
def Rps.wrD {D:Addr} {o:HO} {ws:List V} (hD:H D=some (.lst ws)):∀ {x:List T} {v:List V},Rps K H x v->Rps K (upd H D o) x v
 |_,_,.nil=>.nil
 |_,_,.cons a b=>.cons (Rp.wrD hD a) (Rps.wrD hD b)
end
def HR.wrD {D:Addr} {o:HO} {ws:List V} (hr:HR K G H) (hD:H D=some (.lst ws)) (g:G D=none):HR K G (upd H D o):=λa ob e=>by
 have ha:a≠D:=by intro z;subst z;rw [g] at e;cases e
 have q:=hr a ob e;cases ob with
 |lst xs=>obtain ⟨vs,h1,h2⟩:=q;exact ⟨vs,by rw [qC ha];exact h1,h2.wrD hD⟩
 |frz xs=>obtain ⟨vs,⟨o1,h1⟩,h2⟩:=q;exact ⟨vs,⟨o1,by rw [qC ha];exact h1⟩,h2.wrD hD⟩
def Rel.wrD {D:Addr} {o:HO} {ws:List V} {τ:St3} {σ:L2.St} (r:Rel K τ G σ H) (hD:H D=some (.lst ws)) (g:G D=none):Rel K τ G σ (upd H D o):=
 ⟨r.hp.wrD hD g,r.len,λi t e=>let ⟨v,h1,h2⟩:=r.st i t e;⟨v,h1,h2.wrD hD⟩⟩
def Kp.wrD {D:Addr} {o:HO} (k:Kp G H G' H') (hD:H D=none):Kp G H G' (upd H' D o):=λa ob h g=>by
 obtain ⟨h1,h2⟩:=k a ob h g;exact ⟨by rw [qC (qw h hD)];exact h1,h2⟩
def qcZ {α:Type} {m:List (Option Nat)} {σ:List (Option α)} {i j:Nat} (h:m[i]?=some (some j)):(cap m σ)[i]?=some ((σ[j]?).join):=by
 unfold cap;rw [getElem?_map,h];rfl
def Rel.cap {τ:St3} {σ:L2.St} (r:Rel K τ G σ H) (m:List (Option Nat)):Rel K (cap m τ) G (L3.cap m σ) H:=by
 refine ⟨r.hp,by simp [L3.cap],λi t e=>?_⟩;obtain ⟨j,e1,e2⟩:=N0 e;obtain ⟨v,h1,h2⟩:=r.st j t e2;exact ⟨v,by rw [qcZ e1,h1];rfl,h2⟩
end
def MN (stay:Gp->Prop) (g:TG3) (tif:TT3) (te:TE3) (q:Q3):List T->List T->St3->Gp->Prop
 |[],ys,_,G=>stay G/\∀ p,G p=none->q (.ref p) (gu G p (.lst ys))
 |x::r,ys,τ,G=>stay G/\g x τ G λτ2 G2=>tif τ2 G2 λk G3=>if k=true then te τ2 G3 λy G4=>ys.length<sizeLine/\MN stay g tif te q r (ys++[y]) τ2 G4 else MN stay g tif te q r ys τ2 G3
def lc3 (wi:TI3) (g:TG3) (tif:TT3) (te:TE3) (m:List (Option Nat)):TE3:=λτ G q=>wi τ G λitems stay G1=>MN stay g tif te q items [] (cap m τ) G1
abbrev F3 (X:Cx) (ifs:List Expr) (t:TT3):Prop:=PF X ifs (lT X.K t)
def tt3:TT3:=λ_ G q=>q true G
def qoy {X:Cx}:F3 X [] tt3:=λpins s σ H Q I ⟨τ,G,q,rl,h,af⟩=>qkh pins s σ H Q I (af true G h H rl.hp Kp.refl)
def qnK {X:Cx} {c:Expr} {t:TT3} (h:C3 X c t):F3 X [c] t:=qkR h
section
variable {X:Cx}
def qp0 {elt tg iter:Expr} {ifs:List Expr} {scope:Scope} {pos:Pos} (N':List Str) (m:List (Option Nat)) {wi:TI3} {g:TG3} {tif:TT3} {te:TE3} (hc:X.calm=true) (hi:I3 X tg iter wi)
  (hg:∀ s H fp,G3 (qg X N' scope s H fp) tg g) (hf:∀ s H fp,F3 (qg X N' scope s H fp) ifs tif) (he:∀ s H fp,E3 (qg X N' scope s H fp) elt te)
  (hsc:SV X.env.scope scope=true) (hcap:ZX X.N N' scope m=true) (hs:∀ x,foldedSetIterable iter X.env x=pure x:=by intro _;rfl) :
  E3 X (.ListComp elt [⟨tg,iter,ifs,0⟩] scope pos) (lc3 wi g tif te m):=
 EM (qnP (g:=lG X.K g) (tif:=lT X.K tif) (te:=lE X.K te) hc hi hg hf he hsc hcap hs) λσ H Q ⟨τ,G,q,rl,h,af⟩=>by
  refine ⟨τ,G,_,rl,h,λitems stay G1 h1 J H1 hr1 k1 ok D hD=>?_⟩;have gD:G1 D=none:=hr1.free hD;refine ⟨λi n σ' H'=>n=items.length-i/\i<=items.length/\∃ τ' G' ys vs,Rel X.K τ' G' σ' H'/\Kp G1 H1 G' H'/\H' D=some (.lst vs)/\Rps X.K H' ys vs/\G' D=none/\MN stay g tif te q (items.drop i) ys τ' G',
   ⟨_,rfl,Nat.zero_le _,cap m τ,G1,[],[],((rl.next hr1 k1).cap m).next (hr1.laid hD) (Kp.laid hD),Kp.laid hD,qU,.nil,gD,by simpa using h1⟩,?_⟩
  rintro i n σ' H' ⟨rfl,hi,τ',G',ys,vs,rl',k',hDl,rys,gD',h'⟩;by_cases hlt:i<items.length
  ·rw [List.drop_eq_getElem_cons hlt] at h';obtain ⟨hst,h'⟩:=h';obtain ⟨go,yld,_⟩:=ok G' H' rl'.hp k' hst;have hx:items[i]?=some items[i]:=getElem?_eq_getElem hlt;refine .inr ⟨go i _ hx,λv H2 y=>?_⟩;obtain ⟨rv,hr2,k2⟩:=yld i _ v H2 hx y;have nxt:∀ {τ4:St3} {G4:Gp} {σ4:L2.St} {H4:Hp} {ys4:List T} {vs4:List V},Rel X.K τ4 G4 σ4 H4->Kp G1 H1 G4 H4->H4 D=some (.lst vs4)->Rps X.K H4 ys4 vs4->G4 D=none->MN stay g tif te q (items.drop (i+1)) ys4 τ4 G4 ->
     ∃ n',n'<items.length-i/\(n'=items.length-(i+1)/\i+1<=items.length/\∃ τ' G' ys vs,Rel X.K τ' G' σ4 H4/\Kp G1 H1 G' H4/\H4 D=some (.lst vs)/\Rps X.K H4 ys vs/\G' D=none/\MN stay g tif te q (items.drop (i+1)) ys τ' G'):=
    λ{τ4 G4 σ4 H4 ys4 vs4} a b c d e f=>⟨_,by omega,rfl,hlt,τ4,G4,ys4,vs4,a,b,c,d,e,f⟩
   refine ⟨_,τ',G',_,rv,rl'.next hr2 k2,h',λτ3 G3 h3 σ3 H3 rl3 k3=>⟨τ3,G3,_,rl3,h3,λk G4 h4 H4 hr4 k4=>?_⟩⟩;have kk:=(k2.trans k3).trans k4;obtain ⟨hD4,gD4⟩:=kk D _ hDl gD';have rys4:=rys.keep rl'.hp kk;cases k with
   |false=>
    rw [if_neg Bool.false_ne_true] at h4;refine qjp ?_;exact nxt (rl3.next hr4 k4) (k'.trans kk) hD4 rys4 gD4 h4
   |true=>
    rw [if_pos rfl] at h4;refine qhX ?_;refine ⟨τ3,G4,_,rl3.next hr4 k4,h4,λz G5 h5 w H5 rw5 hr5 k5=>?_⟩;obtain ⟨hD5,gD5⟩:=k5 D _ hD4 gD4;have rys5:=rys4.keep hr4 k5;exact ⟨vs,hD5,by rw [← rys.length];exact h5.1,nxt (((rl3.next hr4 k4).next hr5 k5).wrD hD5 gD5) (((k'.trans kk).trans k5).wrD hD) qU ((rys5.append (.cons rw5 .nil)).wrD hD5) gD5 h5.2⟩
  ·have e:i=items.length:=by omega
   subst e;rw [List.drop_length] at h';obtain ⟨_,_,stop⟩:=ok G' H' rl'.hp k' h'.1;refine .inl ⟨stop,af _ _ (h'.2 D gD') _ H' (.ref D) (λa o e=>?_) λa o e ga=>?_⟩
   ·by_cases ha:a=D
    ·subst ha;rw [qG] at e;cases e;exact ⟨vs,hDl,rys⟩
    ·rw [jK ha] at e;exact rl'.hp a o e
   ·obtain ⟨e1,g1⟩:=k1 a o e ga;obtain ⟨e2,g2⟩:=k' a o e1 g1;exact ⟨e2,by rw [jK (qw e1 hD)];exact g2⟩
end
structure Src (P:Program) (w:World) (it c:Addr) (St:Nat->Heap->Prop) (Has:Array Value->Heap->Prop):Prop where
 obj:∀ {k h},St k h->∃ o,h.get? it=some o/\∀ v,o.data≠.cell v
 keep:∀ {k h h'},St k h->(∀ o,h.get? it=some o->h'.get? it=some o)->St k h'
 hkeep:∀ {xs h h'},Has xs h->(∀ o,h.get? c=some o->h'.get? c=some o)->Has xs h'
 item:∀ {A:Around} {s:Shared} {k:Nat} {xs:Array Value} {x:Value} {Q:Value->Shared->Prop} {E:Value->Shared->Prop},St k s.heap->Has xs s.heap->xs[k]?=some x ->
  (∀ h',St (k+1) h'->Heap.SameBut it s.heap h'->Q x { s with heap:=h' })->wpAny (model P w) A (Builtin.SmallTypes.nextOf (.ref it)) Q E s
 done:∀ {A:Around} {s:Shared} {k:Nat} {xs:Array Value} {Q:Value->Shared->Prop} {E:Value->Shared->Prop},A.handled=none->St k s.heap->Has xs s.heap->xs[k]?=none ->
  (∀ h' e,Heap.ExtBut it s.heap h'->(∃ o,h'.get? e=some o/\o.cls=.type "StopIteration")->E (.ref e) { s with heap:=h' })->wpAny (model P w) A (Builtin.SmallTypes.nextOf (.ref it)) Q E s
def qcH {P:Program} {w:World} (it l:Addr):Src P w it l (λk h=>h.IsListIter it l k) (λxs h=>h.IsList l xs) where
 obj:=λst=>let ⟨o,e,_,d⟩:=st;⟨o,e,λv z=>by rw [d] at z;cases z⟩
 keep:=λst k=>st.at λo e=>k o e
 hkeep:=λst k=>st.at λo e=>k o e
 item:=λst hl hx hQ=>wpAny_nextOf_list_item st hl hx hQ
 done:=λhh st hl hx hE=>wpAny_nextOf_list_end hh st hl hx hE
def M5 {P:Program} {w:World} {A:Around} {s:Shared} {it t:Addr} {i:Nat} {its:Array Value} {x:Value} {Q:Value->Shared->Prop} {E:Value->Shared->Prop} (hit:s.heap.IsTupleIter it t i) (ht:s.heap.IsTuple t its) (hx:its[i]?=some x)
  (hQ:∀ h',h'.IsTupleIter it t (i+1)->Heap.SameBut it s.heap h'->Q x { s with heap:=h' }):wpAny (model P w) A (Builtin.SmallTypes.nextOf (.ref it)) Q E s:=by
 obtain ⟨o1,e1,c1,d1⟩:=id hit;obtain ⟨o2,e2,_,n2,d2⟩:=ht;unfold Builtin.SmallTypes.nextOf;refine wpAny_bind (wpAny_callSpecial?_slot (name:=Str.ofString "__next__") hit.typeIs F.slot_tuple_iterator_next (wpAny_call_entry F.slot_tuple_iterator_next hit.typeIs F.entry_tuple_iterator_next ?_ (F.args_tuple_iterator_next_1 _)));refine wpAny_bind (m:=field (.ref it) 0) (wpAny_field e1 d1 (x:=.ref t) rfl ?_);rw [if_neg (show ¬ ((Value.ref t==Value.none)=true) by exact Bool.false_ne_true)];refine wpAny_bind (m:=field (.ref it) 1) (wpAny_field e1 d1 (x:=.int i 0) rfl ?_);refine wpAny_bind (m:=seqItems? (.ref t)) (wpAny_seqItems e2 d2 ?_);simp only [Int.toNat_natCast,hx];refine wpAny_bind (wpAny_setField e1 d1 (by simp) (wpAny_pure ⟨x,rfl,wpAny_pure (hQ _ ⟨_,Heap.get?_update_self _ e1 (Obj.isFreed_of_fields (Obj.data_mapFields d1 _)),(Obj.cls_mapFields ..).trans c1,?_⟩ (Heap.SameBut.update ..))⟩));rw [Obj.data_mapFields d1];simp [rawInt]
def WV {P:Program} {w:World} {A:Around} {s:Shared} {it t:Addr} {i:Nat} {its:Array Value} {Q:Value->Shared->Prop} {E:Value->Shared->Prop} (hh:A.handled=none) (hit:s.heap.IsTupleIter it t i) (ht:s.heap.IsTuple t its) (hx:its[i]?=none)
  (hE:∀ h' e,Heap.ExtBut it s.heap h'->(∃ o,h'.get? e=some o/\o.cls=.type "StopIteration")->E (.ref e) { s with heap:=h' }):wpAny (model P w) A (Builtin.SmallTypes.nextOf (.ref it)) Q E s:=by
 obtain ⟨o1,e1,c1,d1⟩:=id hit;obtain ⟨o2,e2,_,n2,d2⟩:=ht;unfold Builtin.SmallTypes.nextOf;refine wpAny_bind (wpAny_callSpecial?_slot (name:=Str.ofString "__next__") hit.typeIs F.slot_tuple_iterator_next (wpAny_call_entry F.slot_tuple_iterator_next hit.typeIs F.entry_tuple_iterator_next ?_ (F.args_tuple_iterator_next_1 _)));refine wpAny_bind (m:=field (.ref it) 0) (wpAny_field e1 d1 (x:=.ref t) rfl ?_);rw [if_neg (show ¬ ((Value.ref t==Value.none)=true) by exact Bool.false_ne_true)];refine wpAny_bind (m:=field (.ref it) 1) (wpAny_field e1 d1 (x:=.int i 0) rfl ?_);refine wpAny_bind (m:=seqItems? (.ref t)) (wpAny_seqItems e2 d2 ?_);simp only [Int.toNat_natCast,hx];refine wpAny_bind (wpAny_rule (wpAny_bind (wpAny_setField e1 d1 (by simp) ?_)));refine wpAny_bind (m:=newExc (.type "StopIteration") []) ?_;simp only [newExc,newTuple];refine wpAny_bind (wpAny_newObj_type ?_ (by size_fits));refine wpAny_bind (m:=firstArgMember _ _) (wpAny_of_eq (a:=Value.none) (by first|rfl|(simp only [firstArgMember]<;>rfl)) (wpAny_newObj_type ?_ (by size_fits)));simp only [raiseNew];refine wpAny_bind (wpAny_handled ?_)
 first|rw [show A.in1.handled=Option.none from hh]|rw [show A.handled=Option.none from hh]
 exact wpAny_bind (wpAny_pure (wpAny_throw (hE _ _ (((Heap.SameBut.update ..).extBut.push _).push _) ⟨_,Heap.get?_push_size _ rfl,rfl⟩)))
def qfO {P:Program} {w:World} (it t:Addr):Src P w it t (λk h=>h.IsTupleIter it t k) (λxs h=>h.IsTuple t xs) where
 obj:=λst=>let ⟨o,e,_,d⟩:=st;⟨o,e,λv z=>by rw [d] at z;cases z⟩
 keep:=λst k=>st.at λo e=>k o e
 hkeep:=λst k=>st.at λo e=>k o e
 item:=λst hl hx hQ=>M5 st hl hx hQ
 done:=λhh st hl hx hE=>WV hh st hl hx hE
structure ZA (z ti to i1 i2 c1 c2:Addr):Prop where
 ne:([z,ti,to,i1,i2]:List Addr).Nodup
 a1:c1∉[z,to,i1,i2]
 a2:c2∉[z,to,i1,i2]
section
variable {P:Program} {w:World} {A:Around} {s:Shared} {z ti to i1 i2 c1 c2:Addr} {S1 S2:Nat->Heap->Prop} {H1 H2:Array Value->Heap->Prop} {k1 k2:Nat} {xs ys:Array Value} {x y a b:Value} {E:Value->Shared->Prop}
def qdc {Q:Value->Shared->Prop} (R1:Src P w i1 c1 S1 H1) (R2:Src P w i2 c2 S2 H2) (D:ZA z ti to i1 i2 c1 c2) (hz:IsZip s.heap z ti to .none) (hi:IsPair s.heap ti (.ref i1) (.ref i2)) (ho:IsPair s.heap to a b)
  (p1:S1 k1 s.heap) (p2:S2 k2 s.heap) (l1:H1 xs s.heap) (l2:H2 ys s.heap) (hx:xs[k1]?=some x) (hy:ys[k2]?=some y)
  (hQ:∀ h',IsZip h' z ti to (rawInt s.heap.objs.size)->IsPair h' to x y->S1 (k1+1) h'->S2 (k2+1) h'->IsPair h' s.heap.objs.size x y->(∀ c o,c∉[z,to,i1,i2]->s.heap.get? c=some o->h'.get? c=some o)->Q (.ref s.heap.objs.size) { s with heap:=h' }) :
  wpAny (model P w) A (Builtin.«zip.__next__» ⟨[.ref z],[]⟩) (λfin s'=>∃ v,fin=.done (.ret v)/\Q v s') E s:=by
 have ne:=D.ne;simp only [List.nodup_cons,mem_cons,not_mem_nil,not_or,or_false] at ne;obtain ⟨⟨n1,n2,n3,n4⟩,⟨n5,n6,n7⟩,⟨n8,n9⟩,n10,_⟩:=ne;have a1:=D.a1;have a2:=D.a2;simp only [mem_cons,not_mem_nil,not_or,or_false] at a1 a2;obtain ⟨q1,q2,q3,q4⟩:=a1;obtain ⟨r1,r2,r3,r4⟩:=a2;refine wpAny_bind (m:=field (.ref z) 2) (wpAny_field hz rfl (x:=.bool false) rfl ?_);refine wpAny_bind (m:=field (.ref z) 3) (wpAny_field hz rfl (x:=.ref ti) rfl ?_);refine wpAny_bind (wpAny_seqItems hi rfl ?_);refine wpAny_bind (m:=Builtin.SmallTypes.ownedTupleIsFree (.ref z)) ?_;unfold Builtin.SmallTypes.ownedTupleIsFree;refine wpAny_bind (wpAny_field hz rfl (x:=Value.none) rfl (wpAny_pure ?_));simp only [if_true];refine wpAny_bind (wpAny_rule (wpAny_bind (wpAny_field hz rfl (x:=.ref to) rfl (wpAny_bind (wpAny_setField_rec hz (by simp) λg1 z1 s1=>?_)))))
 replace z1:IsZip g1 z ti to Value.ellipsis:=z1
 refine wpAny_bind ?_;simp only [List.zipIdx_cons,List.zipIdx_nil,List.forIn_cons,List.forIn_nil];refine wpAny_bind (wpAny_bind (wpAny_onRaise (wpAny_bind (m:=Builtin.SmallTypes.nextOf (.ref i1)) ?_)));refine R1.item (R1.keep p1 λo e=>s1.extBut _ _ (Ne.symm n3) e) (R1.hkeep l1 λo e=>s1.extBut _ _ q1 e) hx λg2 p12 s2=>wpAny_pure ?_;have t2:IsPair g2 to a b:=s2.extBut _ _ n8 (s1.extBut _ _ (Ne.symm n2) ho);refine wpAny_bind (wpAny_seqItems t2 rfl (wpAny_bind (wpAny_updateSeq_pair t2 λg3 t3 s3=>?_)))
 replace t3:IsPair g3 to x b:=t3
 refine wpAny_bind (wpAny_letGo (wpAny_pure (wpAny_bind (wpAny_bind (wpAny_onRaise (wpAny_bind (m:=Builtin.SmallTypes.nextOf (.ref i2)) ?_))))));refine R2.item (R2.keep p2 λo e=>s3.extBut _ _ (Ne.symm n9) (s2.extBut _ _ (Ne.symm n10) (s1.extBut _ _ (Ne.symm n4) e))) (R2.hkeep l2 λo e=>s3.extBut _ _ r2 (s2.extBut _ _ r3 (s1.extBut _ _ r1 e))) hy λg4 p24 s4=>wpAny_pure ?_;have t4:IsPair g4 to x b:=s4.extBut _ _ n9 t3;refine wpAny_bind (wpAny_seqItems t4 rfl (wpAny_bind (wpAny_updateSeq_pair t4 λg5 t5 s5=>?_)))
 replace t5:IsPair g5 to x y:=t5
 refine wpAny_bind (wpAny_letGo (wpAny_pure (wpAny_pure (wpAny_bind (wpAny_seqItems t5 rfl (wpAny_bind (wpAny_newTuple ?_)))))));have sz:g5.objs.size=s.heap.objs.size:=by rw [s5.1,s4.1,s3.1,s2.1,s1.1]
 have z5:IsZip g5 z ti to Value.ellipsis:=s5.extBut _ _ n2 (s4.extBut _ _ n4 (s3.extBut _ _ n2 (s2.extBut _ _ n3 z1)));have kk:∀ c o,c∉[z,to,i1,i2]->s.heap.get? c=some o->g5.get? c=some o:=λc o hc e=>by
  simp only [mem_cons,not_mem_nil,not_or,or_false] at hc;exact s5.extBut _ _ hc.2.1 (s4.extBut _ _ hc.2.2.2 (s3.extBut _ _ hc.2.1 (s2.extBut _ _ hc.2.2.1 (s1.extBut _ _ hc.1 e))))
 have p15:S1 (k1+1) g5:=R1.keep p12 λo e=>s5.extBut _ _ (Ne.symm n8) (s4.extBut _ _ n10 (s3.extBut _ _ (Ne.symm n8) e));have p25:S2 (k2+1) g5:=R2.keep p24 λo e=>s5.extBut _ _ (Ne.symm n9) e;have zlt:z<g5.objs.size:=Heap.lt_size z5;refine wpAny_bind (m:=Builtin.SmallTypes.ownedTupleHandOut (.ref z) (.ref g5.objs.size)) ?_;unfold Builtin.SmallTypes.ownedTupleHandOut;have z6:IsZip (g5.push { cls:=.type "tuple",data:=.seq #[x,y] }) z ti to Value.ellipsis:=Heap.get?_push_of_some _ z5;refine wpAny_bind (wpAny_setField_rec z6 (by simp) λg7 z7 s7=>?_)
 replace z7:IsZip g7 z ti to (rawInt g5.objs.size):=z7
 refine wpAny_setField_rec z7 (by simp) λg8 z8 s8=>?_
 replace z8:IsZip g8 z ti to (rawInt g5.objs.size):=z8
 have up:∀ c o,c≠z->g5.get? c=some o->g8.get? c=some o:=λc o hc e=>s8.extBut _ _ hc (s7.extBut _ _ hc (Heap.get?_push_of_some _ e));have t8:IsPair g8 g5.objs.size x y:=s8.extBut _ _ (Nat.ne_of_gt zlt) (s7.extBut _ _ (Nat.ne_of_gt zlt) (Heap.get?_push_size _ rfl));rw [sz] at z8 t8;refine wpAny_pure ⟨_,rfl,?_⟩;show Q (Value.ref g5.objs.size) _;rw [sz];exact hQ g8 z8 (up _ _ (Ne.symm n2) t5) (R1.keep p15 λo e=>up _ o (Ne.symm n3) e) (R2.keep p25 λo e=>up _ o (Ne.symm n4) e) t8 λc o hc e=>up c o (λq=>hc (by simp [q])) (kk c o hc e)
def qhx {Q:Fin->Shared->Prop} (hh:A.handled=none) (R1:Src P w i1 c1 S1 H1) (R2:Src P w i2 c2 S2 H2) (D:ZA z ti to i1 i2 c1 c2) (hz:IsZip s.heap z ti to .none) (hi:IsPair s.heap ti (.ref i1) (.ref i2)) (ho:IsPair s.heap to a b)
  (p1:S1 k1 s.heap) (p2:S2 k2 s.heap) (l1:H1 xs s.heap) (l2:H2 ys s.heap) (hend:xs[k1]?=none\/ys[k2]?=none)
  (hE:∀ h' e,(∀ c o,c∉[z,to,i1,i2]->s.heap.get? c=some o->h'.get? c=some o)->(∃ o,h'.get? e=some o/\o.cls=.type "StopIteration")->E (.ref e) { s with heap:=h' }) :
  wpAny (model P w) A (Builtin.«zip.__next__» ⟨[.ref z],[]⟩) Q E s:=by
 have ne:=D.ne;simp only [List.nodup_cons,mem_cons,not_mem_nil,not_or,or_false] at ne;obtain ⟨⟨n1,n2,n3,n4⟩,⟨n5,n6,n7⟩,⟨n8,n9⟩,n10,_⟩:=ne;have a1:=D.a1;have a2:=D.a2;simp only [mem_cons,not_mem_nil,not_or,or_false] at a1 a2;obtain ⟨q1,q2,q3,q4⟩:=a1;obtain ⟨r1,r2,r3,r4⟩:=a2;refine wpAny_bind (m:=field (.ref z) 2) (wpAny_field hz rfl (x:=.bool false) rfl ?_);refine wpAny_bind (m:=field (.ref z) 3) (wpAny_field hz rfl (x:=.ref ti) rfl ?_);refine wpAny_bind (wpAny_seqItems hi rfl ?_);refine wpAny_bind (m:=Builtin.SmallTypes.ownedTupleIsFree (.ref z)) ?_;unfold Builtin.SmallTypes.ownedTupleIsFree;refine wpAny_bind (wpAny_field hz rfl (x:=Value.none) rfl (wpAny_pure ?_));simp only [if_true];refine wpAny_bind (wpAny_rule (wpAny_bind (wpAny_field hz rfl (x:=.ref to) rfl (wpAny_bind (wpAny_setField_rec hz (by simp) λg1 z1 s1=>?_)))))
 replace z1:IsZip g1 z ti to Value.ellipsis:=z1
 refine wpAny_bind ?_;simp only [List.zipIdx_cons,List.zipIdx_nil,List.forIn_cons,List.forIn_nil];refine wpAny_bind (wpAny_bind (wpAny_onRaise (wpAny_bind (m:=Builtin.SmallTypes.nextOf (.ref i1)) ?_)));cases hx:xs[k1]? with
 |none=>
  refine R1.done hh (R1.keep p1 λo e=>s1.extBut _ _ (Ne.symm n3) e) (R1.hkeep l1 λo e=>s1.extBut _ _ q1 e) hx λg2 e s2 ⟨oe,he,ce⟩=>?_;have z2:IsZip g2 z ti to Value.ellipsis:=s2 _ _ n3 z1;have ez:e≠z:=λq=>by subst q;rw [z2] at he;cases he;simp at ce
  refine wpAny_setField_rec z2 (by simp) λg3 _ s3=>hE g3 e (λc o hc q=>?_) ⟨oe,s3.extBut _ _ ez he,ce⟩;simp only [mem_cons,not_mem_nil,not_or,or_false] at hc;exact s3.extBut _ _ hc.1 (s2 _ _ hc.2.2.1 (s1.extBut _ _ hc.1 q))
 |some x=>
  have hy:ys[k2]?=none:=by rcases hend with q|q;rw [hx] at q;cases q;exact q
  refine R1.item (R1.keep p1 λo e=>s1.extBut _ _ (Ne.symm n3) e) (R1.hkeep l1 λo e=>s1.extBut _ _ q1 e) hx λg2 p12 s2=>wpAny_pure ?_;have t2:IsPair g2 to a b:=s2.extBut _ _ n8 (s1.extBut _ _ (Ne.symm n2) ho);refine wpAny_bind (wpAny_seqItems t2 rfl (wpAny_bind (wpAny_updateSeq_pair t2 λg3 t3 s3=>?_)));refine wpAny_bind (wpAny_letGo (wpAny_pure (wpAny_bind (wpAny_bind (wpAny_onRaise (wpAny_bind (m:=Builtin.SmallTypes.nextOf (.ref i2)) ?_))))));refine R2.done hh (R2.keep p2 λo e=>s3.extBut _ _ (Ne.symm n9) (s2.extBut _ _ (Ne.symm n10) (s1.extBut _ _ (Ne.symm n4) e))) (R2.hkeep l2 λo e=>s3.extBut _ _ r2 (s2.extBut _ _ r3 (s1.extBut _ _ r1 e))) hy λg4 e s4 ⟨oe,he,ce⟩=>?_;have z4:IsZip g4 z ti to Value.ellipsis:=s4 _ _ n4 (s3.extBut _ _ n2 (s2.extBut _ _ n3 z1));have ez:e≠z:=λq=>by subst q;rw [z4] at he;cases he;simp at ce
  refine wpAny_setField_rec z4 (by simp) λg5 _ s5=>hE g5 e (λc o hc q=>?_) ⟨oe,s5.extBut _ _ ez he,ce⟩;simp only [mem_cons,not_mem_nil,not_or,or_false] at hc;exact s5.extBut _ _ hc.1 (s4 _ _ hc.2.2.2 (s3.extBut _ _ hc.2.1 (s2.extBut _ _ hc.2.2.1 (s1.extBut _ _ hc.1 q))))
end
abbrev qon (b:Bool):String:=if b then "list_iterator" else "tuple_iterator"
abbrev zx (b:Bool) (c:Addr):Obj:={ cls:=.type (qon b),data:=.fields #[.ref c,.int 0 0] }
def qcS (b:Bool) (it c:Addr) (k:Nat) (h:Heap):Prop:=match b with|true=>h.IsListIter it c k|false=>h.IsTupleIter it c k
def SW (b:Bool) (c:Addr) (xs:Array Value) (h:Heap):Prop:=match b with|true=>h.IsList c xs|false=>h.IsTuple c xs
def zG {P:Program} {w:World} (b:Bool) (it c:Addr):Src P w it c (qcS b it c) (SW b c):=by
 cases b
 ·exact qfO it c
 ·exact qcH it c
def KL {P:Program} {w:World} {A:Around} {s:Shared} {b:Bool} {c:Addr} {xs:Array Value} {Q:Value->Shared->Prop} {E:Value->Shared->Prop} (h:SW b c xs s.heap) (q:Q (.ref s.heap.objs.size) { s with heap:=s.heap.push (zx b c) }) :
  wpAny (model P w) A (pyIter (.ref c)) Q E s:=by
 cases b
 ·exact wpAny_pyIter_tuple (show s.heap.IsTuple c xs from h) q
 ·exact wpAny_pyIter_list (show s.heap.IsList c xs from h) q
def qax {b:Bool} {c:Addr} {xs:Array Value} {h:Heap} {o:Obj} (q:SW b c xs h):SW b c xs (h.push o):=by
 cases b
 ·exact (show h.IsTuple c xs from q).at λ_ e=>Heap.get?_push_of_some _ e
 ·exact (show h.IsList c xs from q).at λ_ e=>Heap.get?_push_of_some _ e
abbrev zh1 (h:Heap) (o1:Obj):Heap:=h.push o1
abbrev zh2 (h:Heap) (o1 o2:Obj):Heap:=(zh1 h o1).push o2
abbrev zh3 (h:Heap) (o1 o2:Obj):Heap:=(zh2 h o1 o2).push { cls:=.type "tuple",data:=.seq #[.ref h.objs.size,.ref (zh1 h o1).objs.size] }
abbrev zh4 (h:Heap) (o1 o2:Obj):Heap:=(zh3 h o1 o2).push { cls:=.type "tuple",data:=.seq #[.none,.none] }
abbrev zh5 (h:Heap) (o1 o2:Obj):Heap:=(zh4 h o1 o2).push { cls:=.type "zip",data:=.fields #[.none,.bool false,.bool false,.ref (zh2 h o1 o2).objs.size,.ref (zh3 h o1 o2).objs.size] }
def qbw (c1 c2:Addr) (o1 o2:Obj) :
  Meets (Builtin.«zip.__new__» ⟨[.type "zip",.ref c1,.ref c2],[]⟩) (λ_ R s=>
   (∀ (P:Program) (w:World) (A:Around) (Q:Value->Shared->Prop) (E:Value->Shared->Prop),Q (.ref s.heap.objs.size) { s with heap:=zh1 s.heap o1 }->wpAny (model P w) A (pyIter (.ref c1)) Q E s) /\
   (∀ (P:Program) (w:World) (A:Around) (Q:Value->Shared->Prop) (E:Value->Shared->Prop),Q (.ref (zh1 s.heap o1).objs.size) { s with heap:=zh2 s.heap o1 o2 }->wpAny (model P w) A (pyIter (.ref c2)) Q E { s with heap:=zh1 s.heap o1 }) /\
   R (.ok (.ret (.ref (zh4 s.heap o1 o2).objs.size))) { s with heap:=zh5 s.heap o1 o2 }):=
 .of_wp λprog w A R s h=>by
  obtain ⟨hp,g,d,tk,os⟩:=s;obtain ⟨h1,h2,h⟩:=h;have hsub:=sub_zip;have k1:=λA Q E=>h1 prog w A Q E;have k2:=λA Q E=>h2 prog w A Q E
  wp_walk using k1 _ _ _,k2 _ _ _
  exact ⟨_,rfl,h⟩
def qdu (b1 b2:Bool) (z ti to i1 i2 c1 c2:Addr) (k:Nat) (h:Heap):Prop:=
 IsZip h z ti to .none/\IsPair h ti (.ref i1) (.ref i2)/\(∃ a b,IsPair h to a b)/\qcS b1 i1 c1 k h/\qcS b2 i2 c2 k h
section
variable {P:Program} {w:World} {A:Around} {s:Shared} {E:Value->Shared->Prop}
def qdb {b1 b2:Bool} {c1 c2:Addr} {xs ys:Array Value} {Q:Value->Shared->Prop} (h1:SW b1 c1 xs s.heap) (h2:SW b2 c2 ys s.heap)
  (q:∀ h',qdu b1 b2 (s.heap.objs.size+4) (s.heap.objs.size+2) (s.heap.objs.size+3) s.heap.objs.size (s.heap.objs.size+1) c1 c2 0 h'->(∀ c o,s.heap.get? c=some o->h'.get? c=some o)->Q (.ref (s.heap.objs.size+4)) { s with heap:=h' }) :
  wpAny (model P w) A (call (.type "zip") [.ref c1,.ref c2]) Q E s:=by
 refine callType_new F.called_zip (by decide) (F.typeCall_zip_2 _ _) (F.newCall_zip_2 _ _) (λobj=>F.args_object_init_3 obj _ _) F.entry_zip_new
  (qbw c1 c2 (zx b1 c1) (zx b2 c2)) ⟨λP w A Q E q=>KL h1 q,λP w A Q E q=>KL (s:={ s with heap:=zh1 s.heap (zx b1 c1) }) (qax h2) q,?_⟩
 have e1:(zh1 s.heap (zx b1 c1)).objs.size=s.heap.objs.size+1:=Heap.size_push ..;have e2:(zh2 s.heap (zx b1 c1) (zx b2 c2)).objs.size=s.heap.objs.size+2:=by rw [Heap.size_push,e1]
 have e3:(zh3 s.heap (zx b1 c1) (zx b2 c2)).objs.size=s.heap.objs.size+3:=by rw [Heap.size_push,e2]
 have e4:(zh4 s.heap (zx b1 c1) (zx b2 c2)).objs.size=s.heap.objs.size+4:=by rw [Heap.size_push,e3]
 have g5:(zh5 s.heap (zx b1 c1) (zx b2 c2)).get? (zh4 s.heap (zx b1 c1) (zx b2 c2)).objs.size=some _:=Heap.get?_push_size _ rfl;have g4:(zh5 s.heap (zx b1 c1) (zx b2 c2)).get? (zh3 s.heap (zx b1 c1) (zx b2 c2)).objs.size=some _:=Heap.get?_push_of_some _ (Heap.get?_push_size _ rfl);have g3:(zh5 s.heap (zx b1 c1) (zx b2 c2)).get? (zh2 s.heap (zx b1 c1) (zx b2 c2)).objs.size=some _:=Heap.get?_push_of_some _ (Heap.get?_push_of_some _ (Heap.get?_push_size _ rfl));have g2:(zh5 s.heap (zx b1 c1) (zx b2 c2)).get? (zh1 s.heap (zx b1 c1)).objs.size=some (zx b2 c2):=Heap.get?_push_of_some _ (Heap.get?_push_of_some _ (Heap.get?_push_of_some _ (Heap.get?_push_size _ rfl)));have g1:(zh5 s.heap (zx b1 c1) (zx b2 c2)).get? s.heap.objs.size=some (zx b1 c1):=Heap.get?_push_of_some _ (Heap.get?_push_of_some _ (Heap.get?_push_of_some _ (Heap.get?_push_of_some _ (Heap.get?_push_size _ rfl))));show _/\_;rw [e2,e3,e4] at g5;rw [e1,e2] at g3;rw [e3] at g4;rw [e1] at g2;rw [e4];refine ⟨⟨_,g5,rfl⟩,q _ ⟨g5,g3,⟨_,_,g4⟩,?_,?_⟩ λc o e=>Heap.get?_push_of_some _ (Heap.get?_push_of_some _ (Heap.get?_push_of_some _ (Heap.get?_push_of_some _ (Heap.get?_push_of_some _ e))))⟩
 ·cases b1<;>exact ⟨_,g1,rfl,rfl⟩
 ·cases b2<;>exact ⟨_,g2,rfl,rfl⟩
def qcp {b1 b2:Bool} {z ti to i1 i2 c1 c2:Addr} {k:Nat} {xs ys:Array Value} {x y:Value} {Q:Option Value->Shared->Prop} (D:ZA z ti to i1 i2 c1 c2) (st:qdu b1 b2 z ti to i1 i2 c1 c2 k s.heap) (l1:SW b1 c1 xs s.heap) (l2:SW b2 c2 ys s.heap) (hx:xs[k]?=some x) (hy:ys[k]?=some y)
  (hQ:∀ h',IsZip h' z ti to (rawInt s.heap.objs.size)->IsPair h' ti (.ref i1) (.ref i2)->(∃ a b,IsPair h' to a b)->qcS b1 i1 c1 (k+1) h'->qcS b2 i2 c2 (k+1) h'->IsPair h' s.heap.objs.size x y->(∀ c o,c∉[z,to,i1,i2]->s.heap.get? c=some o->h'.get? c=some o)->Q (some (.ref s.heap.objs.size)) { s with heap:=h' }) :
  wpAny (model P w) A (pyNext (.ref z)) Q E s:=by
 obtain ⟨hz,hi,⟨a,b,ho⟩,p1,p2⟩:=st;have ty:s.TypeIs (.ref z) "zip" := ⟨_,hz,rfl⟩
 have nti:ti∉[z,to,i1,i2]:=by
  have ne:=D.ne;simp only [List.nodup_cons,mem_cons,not_mem_nil,not_or,or_false] at ne ⊢;exact ⟨Ne.symm ne.1.1,ne.2.1.1,ne.2.1.2.1,ne.2.1.2.2⟩
 unfold pyNext;exact wpAny_bind (wpAny_attempt (wpAny_callSpecial?_slot (name:=Str.ofString "__next__") ty F.slot_zip_next (wpAny_call_entry F.slot_zip_next ty F.entry_zip_next
  (qdc (zG b1 i1 c1) (zG b2 i2 c2) D hz hi ho p1 p2 l1 l2 hx hy λh' u1 u2 u3 u4 u5 u6=>wpAny_pure (hQ h' u1 (u6 _ _ nti hi) ⟨_,_,u2⟩ u3 u4 u5 u6)) (F.args_zip_next_1 _))))
def RG {b1 b2:Bool} {z ti to i1 i2 c1 c2:Addr} {k:Nat} {xs ys:Array Value} {Q:Option Value->Shared->Prop} (hh:A.handled=none) (D:ZA z ti to i1 i2 c1 c2) (st:qdu b1 b2 z ti to i1 i2 c1 c2 k s.heap) (l1:SW b1 c1 xs s.heap) (l2:SW b2 c2 ys s.heap) (hend:xs[k]?=none\/ys[k]?=none)
  (hQ:∀ h',(∀ c o,c∉[z,to,i1,i2]->s.heap.get? c=some o->h'.get? c=some o)->Q none { s with heap:=h' }):wpAny (model P w) A (pyNext (.ref z)) Q E s:=by
 obtain ⟨hz,hi,⟨a,b,ho⟩,p1,p2⟩:=st;have ty:s.TypeIs (.ref z) "zip" := ⟨_,hz,rfl⟩
 unfold pyNext;refine wpAny_bind (wpAny_attempt (wpAny_callSpecial?_slot (name:=Str.ofString "__next__") ty F.slot_zip_next (wpAny_call_entry F.slot_zip_next ty F.entry_zip_next
  (qhx hh (zG b1 i1 c1) (zG b2 i2 c2) D hz hi ho p1 p2 l1 l2 hend λh' e hk ⟨o,q1,q2⟩=>?_) (F.args_zip_next_1 _))))
 exact wpAny_bind (wpAny_isInstance (T:="StopIteration") (b:=true) ⟨o,q1,q2⟩ isSubtype_stop (wpAny_pure (hQ _ hk)))
end
def SqB (K:Frg) (b:Bool) (H:Hp) (a:Addr) (xs:List V):Prop:=match b with|true=>SqL K H a xs|false=>SqT K H a xs
def SqB.get {X:Cx} {pins:List (Addr×Obj)} {σ:L2.St} {H:Hp} {s:Shared} {b:Bool} {a:Addr} {xs:List V} (I:Inv X pins σ H s) (h:SqB X.K b H a xs):∃ its:List Value,zI xs its/\SW b a its.toArray s.heap/\xs.length<=sizeLine:=by
 cases b
 ·obtain ⟨its,r,p,hz⟩:=I.tuple (show SqT X.K H a xs from h);exact ⟨its,r,(show s.heap.IsTuple a its.toArray from p),hz⟩
 ·obtain ⟨its,r,p,hz⟩:=I.list (show SqL X.K H a xs from h);exact ⟨its,r,p.isList,hz⟩
def SqB.inj {X:Cx} {pins:List (Addr×Obj)} {σ:L2.St} {H:Hp} {s:Shared} {b:Bool} {a:Addr} {xs ys:List V} (I:Inv X pins σ H s) (h:SqB X.K b H a xs) (h':SqB X.K b H a ys):xs=ys:=by
 cases b
 ·exact I.tuple_inj h h'
 ·exact I.list_inj h h'
def Itz (K:Frg) (b1 b2:Bool) (c1 c2:Addr):It:=
  ⟨λi H=>∃ xs ys x y,SqB K b1 H c1 xs/\SqB K b2 H c2 ys/\xs[i]?=some x/\ys[i]?=some y,
   λi H v H'=>∃ p x y,H p=none/\v=.ref p/\H'=upd H p (.tup [x,y])/\(∀ xs,SqB K b1 H c1 xs->xs[i]?=some x)/\(∀ ys,SqB K b2 H c2 ys->ys[i]?=some y),
   λi H=>∃ xs ys,SqB K b1 H c1 xs/\SqB K b2 H c2 ys/\(xs.length<=i\/ys.length<=i)⟩
def qhb {b:Bool} {c:Addr} {xs:Array Value} {h:Heap} (q:SW b c xs h):c<h.objs.size:=by
 cases b
 ·obtain ⟨o,e,_⟩:=(show h.IsTuple c xs from q);exact Heap.lt_size e
 ·obtain ⟨o,e,_⟩:=(show h.IsList c xs from q);exact Heap.lt_size e
def qck {P:Program} {w:World} {K:Frg} {es:List Expr} {k1:Nat} {pt:Pos} {b1 b2:Bool} {z ti to i1 i2 c1 c2:Addr} (D:ZA z ti to i1 i2 c1 c2):Turn P w K (.Tuple es k1 pt) (Itz K b1 b2 c1 c2) [z,ti,to,i1,i2] z (qdu b1 b2 z ti to i1 i2 c1 c2) where
 mem:=by simp
 obj:=λi h ⟨hz,hi,⟨a,b,ho⟩,p1,p2⟩ c hc=>by
  simp only [mem_cons,not_mem_nil,or_false] at hc;rcases hc with rfl|rfl|rfl|rfl|rfl
  ·exact ⟨_,hz,λv q=>by cases q⟩
  ·exact ⟨_,hi,λv q=>by cases q⟩
  ·exact ⟨_,ho,λv q=>by cases q⟩
  ·exact (zG (P:=P) (w:=w) b1 c c1).obj p1
  ·exact (zG (P:=P) (w:=w) b2 c c2).obj p2
 keep:=λi h h' ⟨hz,hi,⟨a,b,ho⟩,p1,p2⟩ k=>
  ⟨k z (by simp) _ hz,k ti (by simp) _ hi,⟨a,b,k to (by simp) _ ho⟩,(zG (P:=P) (w:=w) b1 i1 c1).keep p1 λo e=>k i1 (by simp) o e,(zG (P:=P) (w:=w) b2 i2 c2).keep p2 λo e=>k i2 (by simp) o e⟩
 item:=by
  intro X hP hw hK hc i pins s σ H E I hf st hg;subst hP hw hK;obtain ⟨xs,ys,x,y,sq1,sq2,hx,hy⟩:=hg;obtain ⟨its1,rv1,l1,z1⟩:=sq1.get I;obtain ⟨its2,rv2,l2,z2⟩:=sq2.get I;obtain ⟨u1,hu1,ru1⟩:=rv1.get hx;obtain ⟨u2,hu2,ru2⟩:=rv2.get hy;refine qcp D st l1 l2 (x:=u1) (y:=u2) (by simpa using hu1) (by simpa using hu2) λh' hz hi ho p1 p2 hp hk=>?_;have hfr:H s.heap.objs.size=none:=I.fresh;have free:∀ b∈[z,ti,to,i1,i2],H b=none:=λb hb=>(hf b hb).1;refine ⟨_,rfl,wpAny_letOwnedTupleGo_zip hz λh2 hz2 s2=>?_⟩;have zlt:z<s.heap.objs.size:=Heap.lt_size st.1;have hp2:IsPair h2 s.heap.objs.size u1 u2:=(s2.2 _ (Nat.ne_of_gt zlt)).trans hp;have ne:=D.ne;simp only [List.nodup_cons,mem_cons,not_mem_nil,not_or,or_false] at ne;have up:∀ c o,c≠z->h'.get? c=some o->h2.get? c=some o:=λc o hc e=>(s2.2 c hc).trans e;have kk:∀ c o,c∉[z,to,i1,i2]->s.heap.get? c=some o->h2.get? c=some o:=λc o hc e=>up c o (λq=>hc (by simp [q])) (hk c o hc e);have I3:Inv X pins σ (upd H s.heap.objs.size (.tup [x,y])) { s with heap:=h2 }:=by
   refine I.step (g':=s.gens) (d':=s.drawn) (t':=s.toks) (ch:=[z,to,i1,i2]) (λb hb=>?_) (λb o _ _ hcb e _=>kk b o hcb e) (λb o _ _ hcb e _=>⟨o.slots,kk b o hcb e⟩) (λb o _ e n=>by rw [qC (Nat.ne_of_lt (Heap.lt_size e))];exact n) (λb o hcb e=>⟨o,kk b o hcb e⟩)
    (λb _ e=>by rw [qC (qw e hfr)];exact e) (λb _ _ e=>by rw [qC (qw e hfr)];exact e) (λb ps e=>⟨#[],by rw [qC (qw e hfr),e];simp⟩) (λm hm=>?_) (λb u e=>?_) I.bare
   ·obtain ⟨f0,f1,f2,f3,f4,f5⟩:=hf b (by simp only [mem_cons,not_mem_nil,or_false] at hb ⊢;rcases hb with q|q|q|q<;>simp [q]);exact ⟨f3,f1,f4,f5⟩
   ·obtain ⟨o,es',ep,ho',r⟩:=hm;refine ⟨o,es',ep,kk _ o (λq=>?_) ho',r⟩;obtain ⟨f0,f1,_⟩:=hf X.env.locals (by simp only [mem_cons,not_mem_nil,or_false] at q ⊢;rcases q with q|q|q|q<;>simp [q]);exact f1 rfl
   ·by_cases hb:b=s.heap.objs.size
    ·subst hb;rw [qU] at e;cases e;exact ⟨by show 2<=sizeLine;decide,[u1,u2],.cons ru1 (.cons ru2 .nil),⟨_,hp2,rfl,_,rfl⟩⟩
    ·rw [qC hb] at e;refine (I.hok b u e).stay (λc v hcb q=>kk c v (λm=>?_) q) (λ_ q=>by rw [qC (qw q hfr)];exact q) λ_ _ q=>by rw [qC (qw q hfr)];exact q
     have hn:=free c (by simp only [mem_cons,not_mem_nil,or_false] at m ⊢;rcases m with q|q|q|q<;>simp [q]);rcases hcb with q|q
     ·rw [q] at hn;rw [hn] at e;cases e
     ·rw [hn] at q;cases q
  refine ⟨.ref s.heap.objs.size,_,I3,rfl,⟨_,x,y,hfr,rfl,rfl,λzs q=>by rw [q.inj I sq1];exact hx,λzs q=>by rw [q.inj I sq2];exact hy⟩,⟨hz2,up _ _ (Ne.symm ne.1.1) hi,let ⟨a,b,q⟩:=ho;⟨a,b,up _ _ (Ne.symm ne.1.2.1) q⟩,(zG (P:=X.prog) (w:=X.w) b1 i1 c1).keep p1 λo e=>up _ o (Ne.symm ne.1.2.2.1) e,(zG (P:=X.prog) (w:=X.w) b2 i2 c2).keep p2 λo e=>up _ o (Ne.symm ne.1.2.2.2) e⟩,λb hb=>?_⟩;rw [qC (λq=>?_)]
  ·exact free b hb
  ·subst q;obtain ⟨hz0,hi0,⟨a0,b0,ho0⟩,q1,q2⟩:=st;simp only [mem_cons,not_mem_nil,or_false] at hb;rcases hb with q|q|q|q|q
   ·exact absurd q (Nat.ne_of_gt zlt)
   ·exact absurd q (Nat.ne_of_gt (Heap.lt_size hi0))
   ·exact absurd q (Nat.ne_of_gt (Heap.lt_size ho0))
   ·obtain ⟨o,e,_⟩:=(zG (P:=X.prog) (w:=X.w) b1 i1 c1).obj q1;exact absurd q (Nat.ne_of_gt (Heap.lt_size e))
   ·obtain ⟨o,e,_⟩:=(zG (P:=X.prog) (w:=X.w) b2 i2 c2).obj q2;exact absurd q (Nat.ne_of_gt (Heap.lt_size e))
 done:=by
  intro X hP hw hK hc i pins s σ H E I hf st hg;subst hP hw hK;obtain ⟨xs,ys,sq1,sq2,hend⟩:=hg;obtain ⟨its1,rv1,l1,z1⟩:=sq1.get I;obtain ⟨its2,rv2,l2,z2⟩:=sq2.get I;have e1:=rv1.length;have e2:=rv2.length;refine RG (I.ok.hd hc) D st l1 l2 (by rcases hend with q|q;exact .inl (by simp;omega);exact .inr (by simp;omega)) λh' hk=>⟨rfl,?_⟩
  have free:∀ b∈[z,ti,to,i1,i2],H b=none:=λb hb=>(hf b hb).1;refine I.step (g':=s.gens) (d':=s.drawn) (t':=s.toks) (ch:=[z,to,i1,i2]) (λb hb=>?_) (λb o _ _ hcb e _=>hk b o hcb e) (λb o _ _ hcb e _=>⟨o.slots,hk b o hcb e⟩) (λ_ _ _ _ n=>n) (λb o hcb e=>⟨o,hk b o hcb e⟩) (λ_ _ e=>e) (λ_ _ _ e=>e) (λb ps e=>⟨#[],by rw [e];simp⟩) (λm hm=>?_) (λb u e=>?_) I.bare
  ·obtain ⟨f0,f1,f2,f3,f4,f5⟩:=hf b (by simp only [mem_cons,not_mem_nil,or_false] at hb ⊢;rcases hb with q|q|q|q<;>simp [q]);exact ⟨f3,f1,f4,f5⟩
  ·obtain ⟨o,es',ep,ho',r⟩:=hm;refine ⟨o,es',ep,hk _ o (λq=>?_) ho',r⟩;obtain ⟨f0,f1,_⟩:=hf X.env.locals (by simp only [mem_cons,not_mem_nil,or_false] at q ⊢;rcases q with q|q|q|q<;>simp [q]);exact f1 rfl
  ·refine (I.hok b u e).stay (λc v hcb q=>hk c v (λm=>?_) q) (λ_ q=>q) λ_ _ q=>q;have hn:=free c (by simp only [mem_cons,not_mem_nil,or_false] at m ⊢;rcases m with q|q|q|q<;>simp [q]);rcases hcb with q|q
   ·rw [q] at hn;rw [hn] at e;cases e
   ·rw [hn] at q;cases q
 self:=λA i s Q E st h=>wpAny_pyIter_zip st.1 h
def qi1 {n c1 c2:Addr} (h1:c1<n) (h2:c2<n):ZA (n+4) (n+2) (n+3) n (n+1) c1 c2:=by
 have k:∀ n c:Nat,c<n->c≠n+4/\c≠n+3/\c≠n/\c≠n+1:=λn c h=>by omega
 have d:∀ n:Nat,(([n+4,n+2,n+3,n,n+1]:List Nat)).Nodup:=λn=>by
  simp only [List.nodup_cons,mem_cons,not_mem_nil,not_or,or_false,List.nodup_nil,and_true,not_false_eq_true];omega
 refine ⟨d n,?_,?_⟩
 ·simp only [mem_cons,not_mem_nil,not_or,or_false];exact k n c1 h1
 ·simp only [mem_cons,not_mem_nil,not_or,or_false];exact k n c2 h2
section
variable {X:Cx} {a b e l:Expr} {es:List Expr} {pos:Pos}
def qiB {p pt:Pos} {k1:Nat} {ta:TA} (hg:Gl X "zip") (hm:X.mg "zip" = none) (ha:PA X [a,b] ta) (hs:starEach [a,b] X.env=[(false,eval a X.env),(false,eval b X.env)]:=by rfl) (hs2:starEach [b] X.env=[(false,eval b X.env)]:=by rfl) :
  PI X (.Tuple es k1 pt) (.Call (.Name "zip" p) [a,b] [] pos) (λσ H R=>ta σ H λvs H1=>∃ b1 b2 c1 c2 xs ys,vs=[.ref c1,.ref c2]/\SqB X.K b1 H1 c1 xs/\SqB X.K b2 H1 c2 ys/\R (Itz X.K b1 b2 c1 c2) H1):=by
 intro pins s σ H R I h;refine Call_ (V7 I hg hm PyProof.Rows.boot_zip (PyProof.Rows.callWith_type1 (thn (ha pos pins s σ H _ I h) λus s1 ⟨vs,H1,I1,r1,q1⟩=>?_) (by rw [hs,hs2]) (by rw [hs2];rfl)));obtain ⟨b1,b2,c1,c2,xs,ys,rfl,sq1,sq2,q⟩:=q1;obtain ⟨u1,u2,rfl,e1,e2⟩:=qbi r1;cases (show u1=Value.ref c1 from e1);cases (show u2=Value.ref c2 from e2);obtain ⟨its1,rv1,l1,z1⟩:=sq1.get I1;obtain ⟨its2,rv2,l2,z2⟩:=sq2.get I1;refine qdb l1 l2 λh' st hk=>wpAny_pyIter_zip st.1 ?_;refine ⟨s1.heap.objs.size+4,[s1.heap.objs.size+4,s1.heap.objs.size+2,s1.heap.objs.size+3,s1.heap.objs.size,s1.heap.objs.size+1],_,_,H1,rfl,I1.kept (t':=s1.toks) hk,qck (qi1 (qhb l1) (qhb l2)),st,λc hc=>?_,q⟩;have hle:s1.heap.objs.size<=c:=by
  simp only [mem_cons,not_mem_nil,or_false] at hc;rcases hc with rfl|rfl|rfl|rfl|rfl<;>first|exact Nat.le_refl _|exact Nat.le_add_right _ _
 exact I1.fpOk hle (I1.hok.fresh hle)
end
def jb (G:Gp):T->Option (List T)
 |.tup xs=>some xs
 |.ref p=>getL G p
 |_=>none
def qbZ {K:Frg} {G0:Gp} {H0:Hp} {x:T} {v:V} {us:List T} (hr0:HR K G0 H0) (rx:Rp K H0 x v) (h:jb G0 x=some us) :
  ∃ b c,v=.ref c/\∀ G H,HR K G H->Kp G0 H0 G H->jb G x=some us->∃ vs,SqB K b H c vs/\Rps K H us vs:=by
 cases rx with
 |tup hs rs=>
  cases h;exact ⟨false,_,rfl,λG H hr k _=>⟨_,(CM hr0 k hs:SqT K H _ _),rs.keep hr0 k⟩⟩
 |ref a=>exact ⟨true,a,rfl,λG H hr k hq=>let ⟨vs,h1,h2⟩:=zu hr (show getL G a=some us from hq);⟨vs,h1,h2⟩⟩
 |_=>cases h
def qcd (us vs:List T):List T:=(us.zip vs).map λp=>.tup [p.1,p.2]
def CP {us vs:List T} {i:Nat} {x:T} (h:(qcd us vs)[i]?=some x):∃ a b,us[i]?=some a/\vs[i]?=some b/\x=.tup [a,b]:=by
 unfold qcd at h;rw [getElem?_map] at h;cases e:(us.zip vs)[i]? with
 |none=>rw [e] at h;cases h
 |some p=>
  rw [e] at h;have:=List.getElem?_zip_eq_some.mp e;exact ⟨p.1,p.2,this.1,this.2,by simpa using h.symm⟩
def qmc {K:Frg} {b1 b2:Bool} {c1 c2:Addr} {x y:T} {us vs:List T} {G0:Gp} {H0:Hp}
  (f1:∀ G H,HR K G H->Kp G0 H0 G H->jb G x=some us->∃ vs,SqB K b1 H c1 vs/\Rps K H us vs) (f2:∀ G H,HR K G H->Kp G0 H0 G H->jb G y=some vs->∃ ws,SqB K b2 H c2 ws/\Rps K H vs ws) :
  qhI K (Itz K b1 b2 c1 c2) (qcd us vs) (λG=>jb G x=some us/\jb G y=some vs) G0 H0:=by
 intro G H hr k ⟨h1,h2⟩;obtain ⟨p,sp,rp⟩:=f1 G H hr k h1;obtain ⟨q,sq,rq⟩:=f2 G H hr k h2;refine ⟨λi z hz=>?_,λi z v H' hz hy=>?_,⟨p,q,sp,sq,?_⟩⟩
 ·obtain ⟨a,b,ha,hb,_⟩:=CP hz;obtain ⟨v,hv,_⟩:=rp.get ha;obtain ⟨w,hw,_⟩:=rq.get hb;exact ⟨p,q,v,w,sp,sq,hv,hw⟩
 ·obtain ⟨a,b,ha,hb,rfl⟩:=CP hz;obtain ⟨t,v1,v2,ht,rfl,rfl,g1,g2⟩:=hy;obtain ⟨v,hv,rv⟩:=rp.get ha;obtain ⟨w,hw,rw'⟩:=rq.get hb;have e1:=(g1 p sp).symm.trans hv;have e2:=(g2 q sq).symm.trans hw;obtain rfl:v1=v:=Option.some.inj e1;obtain rfl:v2=w:=Option.some.inj e2;have kk:Kp G H G (upd H t (.tup [v1,v2])):=Kp.laid ht;exact ⟨.tup (SqT.of qU) (.cons (rv.keep hr kk) (.cons (rw'.keep hr kk) .nil)),hr.laid ht,kk⟩
 ·rw [← rp.length,← rq.length,show (qcd us vs).length=min us.length vs.length by simp [qcd]];omega
def KG (ta:TA3):TI3:=λτ G r=>ta τ G λxs G1=>match xs with
 |[x,y]=>(match jb G1 x,jb G1 y with|some us,some vs=>r (qcd us vs) (λG=>jb G x=some us/\jb G y=some vs) G1|_,_=>False)
 |_=>False
section
variable {X:Cx} {a b e l:Expr} {es:List Expr} {pos:Pos} {t:TA3}
def qoH {p pt:Pos} {k1:Nat} (hg:Gl X "zip") (hm:X.mg "zip" = none) (ha:A3 X [a,b] t) (hs:starEach [a,b] X.env=[(false,eval a X.env),(false,eval b X.env)]:=by rfl) (hs2:starEach [b] X.env=[(false,eval b X.env)]:=by rfl) :
  I3 X (.Tuple es k1 pt) (.Call (.Name "zip" p) [a,b] [] pos) (KG t):=
 qkS (qiB hg hm ha hs hs2) λσ H R ⟨τ,G,r,rl,h,af⟩=>JS rl h λxs G1 h1 vs H1 rs hr1 k1 rl1=>by
  split at h1
  ·rename_i x y;split at h1
   ·rename_i us ws e1 e2;obtain ⟨v,u,rfl,r1,r2⟩:=qmr rs;obtain ⟨b1,c1,rfl,f1⟩:=qbZ hr1 r1 e1;obtain ⟨b2,c2,rfl,f2⟩:=qbZ hr1 r2 e2;obtain ⟨p,sp,_⟩:=f1 G1 H1 hr1 Kp.refl e1;obtain ⟨q,sq,_⟩:=f2 G1 H1 hr1 Kp.refl e2;exact ⟨b1,b2,c1,c2,p,q,rfl,sp,sq,af _ _ G1 h1 _ H1 hr1 k1 (qmc f1 f2)⟩
   ·exact h1.elim
  ·exact h1.elim
def NJ:List T->Gp->Q3->Prop:=λxs G q=>match xs with
 |[.ref p]=>(match getL G p with|some ys=>(match qeU ys with|some k=>q (.bl k) G|none=>False)|none=>False)
 |_=>False
def qbT {K:Frg} {H:Hp}:∀ {ys:List T} {vs:List V} {k:Bool},Rps K H ys vs->qeU ys=some k->∃ ks:List Bool,vs=ks.map V.bl/\ks.all id=k
 |_,_,_,.nil,h=>by cases h;exact ⟨[],rfl,rfl⟩
 |y::ys,_,k,.cons a b,h=>by
  unfold qeU at h;split at h
  ·rename_i e;cases e
  ·rename_i j r e;cases e;split at h
   ·rename_i i ei;obtain ⟨ks,rfl,hk⟩:=qbT b ei;cases a;cases h;exact ⟨j::ks,rfl,by rw [List.all_cons,hk];rfl⟩
   ·cases h
  ·cases h
def S0 {K:Frg}:SS K NJ (λxs H Q=>∃ (p:Addr) (ks:List Bool),xs=[.ref p]/\SqL K H p (ks.map V.bl)/\Q (.bl (ks.all id)) H):=λxs vs G H q Q hr rs h af=>by
 unfold NJ at h;split at h
 ·rename_i p;obtain ⟨v,rfl,r⟩:=CN rs;cases r;split at h
  ·rename_i ys e0;split at h
   ·rename_i k e1;obtain ⟨us,hs,r2⟩:=zu hr e0;obtain ⟨ks,rfl,hk⟩:=qbT r2 e1;exact ⟨p,ks,rfl,hs,by rw [hk];exact af _ G h _ H (.bl _) hr Kp.refl⟩
   ·exact h.elim
  ·exact h.elim
 ·exact h.elim
end
def qno:Value->Bool
 |.type t=>t == "list"
 |_=>false
def U7:List (Addr×Obj)->Bool
 |[]=>true
 |p::r=>if qno p.2.cls then false else U7 r
def XC:∀ {K:List (Addr×Obj)} {a:Addr} {o:Obj},U7 K=true->K.lookup a=some o->o.cls≠.type "list"
 |[],_,_,_,e=>by simp at e
 | (b,x)::r,a,o,h,e=>by
  unfold U7 at h;split at h
  ·cases h
  ·rename_i hx;rw [List.lookup_cons] at e;split at e
   ·cases e;intro z;rw [z] at hx;exact hx rfl
   ·exact XC h e
def MK {K:Frg} {H:Hp} {a:Addr} {ns:List Int} (hK:U7 K=true) (hO:qmi H) (hS:SqL K H a (ns.map V.int)):∃ o,H a=some (.frz o (.lst (ns.map V.int))):=by
 rcases hS with (h|h)|⟨o,its,n,h1,h2,_⟩
 ·rcases hO a with z|⟨o,xs,z⟩<;>(rw [h] at z;cases z)
 ·exact h
 ·exact absurd h2 (XC hK h1)
def only (a:Addr) (ns:List Int):Gp:=λb=>if b=a then some (.frz (ns.map T.int)) else none
def qht {K:Frg} {H:Hp} {a:Addr} {ns:List Int} (h:∃ o,H a=some (.frz o (.lst (ns.map V.int)))):HR K (only a ns) H:=λb o e=>by
 unfold only at e;split at e
 ·rename_i hb;subst hb;cases e;exact ⟨_,h,Rps.ints ns⟩
 ·cases e
def W8:Sp3:=λts G q=>∃ (a:Addr) (ns:List Int),ts=[.ref a]/\G a=some (.frz (ns.map T.int))/\ns.length<=63/\∀ G',q (.bl true) G'
def qnZ {l:PySem.W.OpenLaw} {k:Nat} {q:Program} {loose:List Str} {XP:(Str->Option Value)->Heap->Prop} {YP:World->Heap->Prop} {d:DefRec} {K:Params->PySem.W.Frag} {x:Str} (hn:l.most=some 63) (hdf:d.params.defaults=[]) (hr:Room k callerA)
  (hY:∀ (w:World) (h:Heap),YP w h->(K w.params).In h) (hK:∀ w:World,U7 (K w.params)=true)
  (F:∀ (w:World) (mg:Str->Option Value) (fa:Addr) (h:Heap),(K w.params).In h->h.Ns mainGlobals mg->mg d.name=some (.ref fa) ->
   ∃ fd:FuncData,(∀ (s:Shared) (u:Value),BindsTo s fd ⟨[u],[]⟩ [(x,u)])/\∀ base:Heap,(K w.params).In base->base.Ns mainGlobals mg->FnOk l.prog w (K w.params) mg base CX0 k fa fd [x] (lSp (K w.params) W8)) :
  PySem.W.WalkO q loose XP YP l.row.toRowW d [] (λf vs=>PySem.call f vs):=
 L2.qhk (n:=63) (k:=k) (x:=x) (CX:=λ_=>CX0) (sp:=λw=>lSp (K w.params) W8) hn (by decide) hdf hr hY F
  (λw H a ns hl hO hS=>⟨[.ref a],only a ns,λt _=>t=.bl true,qht (MK (hK w) hO hS),.cons (.ref a) .nil,⟨a,ns,rfl,by simp [only],hl,λ_=>rfl⟩,λt G' e v H' r _ _=>by subst e;cases r;rfl⟩) λ_ _ _ _ _ z=>z
def qfP {P:Program} {w:World} {K:Frg} {mg:Str->Option Value} {base:Heap} {x qual:Str} {st:Stmt} {f:Addr} {fd:FuncData} {N ps:List Str} {k:Nat} {sp:Sp3} {t3:TS3} (F:Fun K x qual st f fd) (S:FnScope N ps (qj st))
  (body:∀ (cdv:Value) (A:Around) (outer:List Env) (s:Shared) (H:Hp) (E:XK),Room k (A.deeper (envOfC qual (qj st) s.heap.objs.size f cdv)) ->
   B3 (qca CX0 P w K mg base N qual (qj st) f cdv A outer s H E).nox (z9 st) t3)
  (read:∀ ts G q,sp ts G q->ts.length=ps.length/\t3 { nx:=λ_ G'=>q .non G',rt:=q } (qr N ts) G):FnOk P w K mg base CX0 (k+1) f fd ps (lSp K sp):=by
 refine F.ok S (λvs H Q E ⟨ts,G,q,h1,h2,h3,h4⟩=>by rw [← h2.length];exact (read ts G q h3).1) λcdv A outer s H vs Q E hr ⟨ts,G,q,h1,h2,h3,h4⟩=>?_;refine ⟨_,body cdv A outer s H E hr,qr N ts,G,_,R8 h1 h2,(read ts G q h3).2,⟨λτ' G' h' σ' H' rl' k'=>h4 _ G' h' _ H' .non rl'.hp k',h4,λ_ _ z=>z.elim,λ_ _ z=>z.elim⟩⟩
abbrev eh1 (h:Heap) (o1:Obj):Heap:=h.push o1
abbrev eh2 (h:Heap) (o1:Obj):Heap:=(eh1 h o1).push { cls:=.type "enumerate",data:=.fields #[.none,.bool false,.ref h.objs.size,rawInt 0,.none,.none] }
def MR (c:Addr) (o1:Obj) (ob:Obj) :
  Meets (Builtin.«enumerate.__new__» ⟨[.type "enumerate",.ref c],[]⟩) (λ_ R s=>s.heap.get? c=some ob /\
   (∀ (P:Program) (w:World) (A:Around) (Q:Value->Shared->Prop) (E:Value->Shared->Prop),Q (.ref s.heap.objs.size) { s with heap:=eh1 s.heap o1 }->wpAny (model P w) A (pyIter (.ref c)) Q E s) /\
   R (.ok (.ret (.ref (eh1 s.heap o1).objs.size))) { s with heap:=eh2 s.heap o1 }):=
 .of_wp λprog w A R s h=>by
  obtain ⟨hp,g,d,tk,os⟩:=s;obtain ⟨hl,h1,h⟩:=h;have hsub:=sub_enumerate;have k1:=λA Q E=>h1 prog w A Q E
  wp_walk using wpAny_loadPart' hl
  refine wpAny_stack_any λst=>wpAny_pure ?_;split
  ·rename_i c _ _ _ _ _;cases (c==Value.type "enumerate")
   ·wp_walk using wpAny_loadPart' hl,k1 _ _ _
    exact ⟨_,rfl,h⟩
   ·wp_walk using wpAny_loadPart' hl,k1 _ _ _
    exact ⟨_,rfl,h⟩
  ·wp_walk using wpAny_loadPart' hl,k1 _ _ _
   exact ⟨_,rfl,h⟩
def qct {b:Bool} {c:Addr} {xs:Array Value} {h:Heap} (q:SW b c xs h):∃ o,h.get? c=some o:=by
 cases b
 ·obtain ⟨o,e,_⟩:=(show h.IsTuple c xs from q);exact ⟨o,e⟩
 ·obtain ⟨o,e,_⟩:=(show h.IsList c xs from q);exact ⟨o,e⟩
section
variable {P:Program} {w:World} {A:Around} {s:Shared} {E:Value->Shared->Prop}
def qbe {b:Bool} {c:Addr} {xs:Array Value} {Q:Value->Shared->Prop} (h1:SW b c xs s.heap)
  (q:∀ h',IsEnum h' (s.heap.objs.size+1) s.heap.objs.size 0 .none->qcS b s.heap.objs.size c 0 h'->(∀ c o,s.heap.get? c=some o->h'.get? c=some o)->Q (.ref (s.heap.objs.size+1)) { s with heap:=h' }) :
  wpAny (model P w) A (call (.type "enumerate") [.ref c]) Q E s:=by
 obtain ⟨ob,hob⟩:=qct h1;refine callType_new F.called_enumerate (by decide) (F.typeCall_enumerate_1 _) (F.newCall_enumerate_1 _) (λobj=>F.args_object_init_2 obj _) F.entry_enumerate_new
  (MR c (zx b c) ob) ⟨hob,λP w A Q E q=>KL h1 q,?_⟩
 have e1:(eh1 s.heap (zx b c)).objs.size=s.heap.objs.size+1:=Heap.size_push ..;have g2:(eh2 s.heap (zx b c)).get? (eh1 s.heap (zx b c)).objs.size=some _:=Heap.get?_push_size _ rfl;have g1:(eh2 s.heap (zx b c)).get? s.heap.objs.size=some (zx b c):=Heap.get?_push_of_some _ (Heap.get?_push_size _ rfl);show _/\_;rw [e1] at g2 ⊢;refine ⟨⟨_,g2,rfl⟩,q _ g2 ?_ λc o e=>Heap.get?_push_of_some _ (Heap.get?_push_of_some _ e)⟩;cases b<;>exact ⟨_,g1,rfl,rfl⟩
end
def qcq {P:Program} {w:World} {A:Around} (hh:A.handled=none) (b:Bool) (it c:Addr) (hne:c≠it) (xs:Array Value) :
  Draws P w A it [it,c] xs.size (λi v=>xs[i]?=some v) (λi h=>qcS b it c i h/\SW b c xs h) where
 live:=λi h st=>let ⟨o,e,_⟩:=(zG (P:=P) (w:=w) b it c).obj st.1;⟨o,e⟩
 frame:=λi h h' st hk=>⟨(zG (P:=P) (w:=w) b it c).keep st.1 λo e=>hk it (by simp) o e,(zG (P:=P) (w:=w) b it c).hkeep st.2 λo e=>hk c (by simp) o e⟩
 item:=λi s Q E hi st hQ=>by
  refine (zG (P:=P) (w:=w) b it c).item st.1 st.2 (x:=xs[i]) (by simp [hi]) λh' st' sb=>?_;exact hQ _ h' s.toks (by simp [hi]) ⟨st',(zG (P:=P) (w:=w) b it c).hkeep st.2 λo e=>(sb.2 c hne).trans e⟩ sb
 done:=λs Q E st hE=>(zG (P:=P) (w:=w) b it c).done hh st.1 st.2 (by simp) hE
def CH {P:Program} {w:World} {A:Around} {s:Shared} {E:Value->Shared->Prop} {b:Bool} {e it c:Addr} {i:Nat} {xs:Array Value} {old:Value} {Q:Option Value->Shared->Prop} (hh:A.handled=none) (he:IsEnum s.heap e it i old) (p1:qcS b it c i s.heap) (l1:SW b c xs s.heap) (hx:xs[i]?=none)
  (hQ:∀ h',Heap.ExtBut it s.heap h'->Q none { s with heap:=h' }):wpAny (model P w) A (pyNext (.ref e)) Q E s:=by
 have hT:s.TypeIs (.ref e) "enumerate" := ⟨_,he,rfl⟩
 unfold pyNext;refine wpAny_bind (wpAny_attempt (wpAny_callSpecial?_slot (name:=Str.ofString "__next__") hT F.slot_enumerate_next
  (wpAny_call_entry F.slot_enumerate_next hT F.entry_enumerate_next ?_ (F.args_enumerate_next_1 _))))
 show wpAny _ _ (field (.ref e) 2 >>= _) _ _ _;refine wpAny_bind (wpAny_field he rfl (x:=.ref it) rfl ?_);refine wpAny_bind ((zG (P:=P) (w:=w) b it c).done (show A.in1.handled=none from hh) p1 l1 hx λh' x he' hx'=>?_);obtain ⟨o,ho,hc⟩:=hx';refine wpAny_bind (wpAny_isInstance (T:="StopIteration") (b:=true) ⟨o,ho,hc⟩ isSubtype_stop ?_);exact wpAny_pure (hQ _ he')
def Ite (K:Frg) (b:Bool) (c:Addr):It:=
  ⟨λi H=>∃ xs x,SqB K b H c xs/\xs[i]?=some x,
   λi H v H'=>∃ p x,H p=none/\v=.ref p/\H'=upd H p (.tup [.int i,x])/\(∀ xs,SqB K b H c xs->xs[i]?=some x),
   λi H=>∃ xs,SqB K b H c xs/\xs.length<=i⟩
def qlt (b:Bool) (e it c:Addr) (k:Nat) (h:Heap):Prop:=(∃ old,IsEnum h e it k old)/\qcS b it c k h
def qag {P:Program} {w:World} {K:Frg} {es:List Expr} {k1:Nat} {pt:Pos} {b:Bool} {e it c:Addr} (n1:e≠it) (n2:c≠e) (n3:c≠it):Turn P w K (.Tuple es k1 pt) (Ite K b c) [e,it] e (qlt b e it c) where
 mem:=by simp
 obj:=λi h ⟨⟨old,he⟩,p1⟩ d hd=>by
  simp only [mem_cons,not_mem_nil,or_false] at hd;rcases hd with rfl|rfl
  ·exact ⟨_,he,λv q=>by cases q⟩
  ·exact (zG (P:=P) (w:=w) b d c).obj p1
 keep:=λi h h' ⟨⟨old,he⟩,p1⟩ k=>⟨⟨old,k e (by simp) _ he⟩,(zG (P:=P) (w:=w) b it c).keep p1 λo e=>k it (by simp) o e⟩
 item:=by
  intro X hP hw hK hc i pins s σ H E I hf st hg;subst hP hw hK;obtain ⟨xs,x,sq,hx⟩:=hg;obtain ⟨its,rv,l1,z1⟩:=sq.get I;obtain ⟨u,hu,ru⟩:=rv.get hx;obtain ⟨⟨old,he⟩,p1⟩:=st;have hil:i<its.toArray.size:=by have:=(List.getElem?_eq_some_iff.mp hu).1;simpa using this
  refine wpAny_pyNext_enum_itemD (qcq (show X.A.in1.handled=none from I.ok.hd hc) b it c n3 its.toArray) he ⟨p1,l1⟩ hil n1 (by simp only [mem_cons,not_mem_nil,or_false,not_or];exact ⟨n1,Ne.symm n2⟩) λy h' tk hy ho st' ht hsz hk=>?_;have hy':y=u:=by
   have:its.toArray[i]?=some u:=by simpa using hu
   rw [this] at hy;exact (Option.some.inj hy).symm
  subst hy';have hfr:H s.heap.objs.size=none:=I.fresh;have free:∀ b∈[e,it],H b=none:=λb hb=>(hf b hb).1;refine ⟨_,rfl,wpAny_letOwnedTupleGo_enum ho λh2 hz2 s2=>?_⟩;have elt:e<s.heap.objs.size:=Heap.lt_size he;have hp2:h2.get? s.heap.objs.size=some { cls:=.type "tuple",data:=.seq #[.int i tk,y] }:=(s2.2 _ (Nat.ne_of_gt elt)).trans ht;have up:∀ c o,c≠e->h'.get? c=some o->h2.get? c=some o:=λc o hc e=>(s2.2 c hc).trans e;have kk:∀ c o,c∉[e,it]->s.heap.get? c=some o->h2.get? c=some o:=λc o hc q=>by
   simp only [mem_cons,not_mem_nil,or_false,not_or] at hc;exact up c o hc.1 (hk c o hc.1 hc.2 q)
  have I3:Inv X pins σ (upd H s.heap.objs.size (.tup [.int i,x])) { s with heap:=h2,toks:=tk+1 }:=by
   refine I.step (g':=s.gens) (d':=s.drawn) (t':=tk+1) (ch:=[e,it]) (λb hb=>?_) (λb o _ _ hcb e _=>kk b o hcb e) (λb o _ _ hcb e _=>⟨o.slots,kk b o hcb e⟩) (λb o _ e n=>by rw [qC (Nat.ne_of_lt (Heap.lt_size e))];exact n) (λb o hcb e=>⟨o,kk b o hcb e⟩)
    (λb _ e=>by rw [qC (qw e hfr)];exact e) (λb _ _ e=>by rw [qC (qw e hfr)];exact e) (λb ps e=>⟨#[],by rw [qC (qw e hfr),e];simp⟩) (λm hm=>?_) (λb u e=>?_) I.bare
   ·obtain ⟨f0,f1,f2,f3,f4,f5⟩:=hf b hb;exact ⟨f3,f1,f4,f5⟩
   ·obtain ⟨o,es',ep,ho',r⟩:=hm;refine ⟨o,es',ep,kk _ o (λq=>?_) ho',r⟩;obtain ⟨f0,f1,_⟩:=hf X.env.locals q;exact f1 rfl
   ·by_cases hb:b=s.heap.objs.size
    ·subst hb;rw [qU] at e;cases e;exact ⟨by show 2<=sizeLine;decide,[.int i tk,y],.cons ⟨tk,rfl⟩ (.cons ru .nil),⟨_,hp2,rfl,_,rfl⟩⟩
    ·rw [qC hb] at e;refine (I.hok b u e).stay (λc v hcb q=>kk c v (λm=>?_) q) (λ_ q=>by rw [qC (qw q hfr)];exact q) λ_ _ q=>by rw [qC (qw q hfr)];exact q
     have hn:=free c m;rcases hcb with q|q
     ·rw [q] at hn;rw [hn] at e;cases e
     ·rw [hn] at q;cases q
  refine ⟨.ref s.heap.objs.size,_,I3,rfl,⟨_,x,hfr,rfl,rfl,λzs q=>by rw [q.inj I sq];exact hx⟩,⟨⟨_,by push_cast;exact hz2⟩,(zG (P:=X.prog) (w:=X.w) b it c).keep st'.1 λo e=>up _ o (Ne.symm n1) e⟩,λb hb=>?_⟩;rw [qC (λq=>?_)]
  ·exact free b hb
  ·subst q;simp only [mem_cons,not_mem_nil,or_false] at hb;rcases hb with q|q
   ·exact absurd q (Nat.ne_of_gt elt)
   ·obtain ⟨o,e,_⟩:=(zG (P:=X.prog) (w:=X.w) b it c).obj p1;exact absurd q (Nat.ne_of_gt (Heap.lt_size e))
 done:=by
  intro X hP hw hK hc i pins s σ H E I hf st hg;subst hP hw hK;obtain ⟨xs,sq,hend⟩:=hg;obtain ⟨its,rv,l1,z1⟩:=sq.get I;obtain ⟨⟨old,he⟩,p1⟩:=st;have e1:=rv.length;have free:∀ b∈[e,it],H b=none:=λb hb=>(hf b hb).1;refine CH (I.ok.hd hc) he p1 l1 (by simp;omega) λh' hk0=>⟨rfl,?_⟩
  have hk:∀ c o,c∉[e,it]->s.heap.get? c=some o->h'.get? c=some o:=λc o hcb q=>hk0 c o (by simp only [mem_cons,not_mem_nil,or_false,not_or] at hcb;exact hcb.2) q;refine I.step (g':=s.gens) (d':=s.drawn) (t':=s.toks) (ch:=[e,it]) (λb hb=>?_) (λb o _ _ hcb e _=>hk b o hcb e) (λb o _ _ hcb e _=>⟨o.slots,hk b o hcb e⟩) (λ_ _ _ _ n=>n) (λb o hcb e=>⟨o,hk b o hcb e⟩) (λ_ _ e=>e) (λ_ _ _ e=>e) (λb ps e=>⟨#[],by rw [e];simp⟩) (λm hm=>?_) (λb u e=>?_) I.bare
  ·obtain ⟨f0,f1,f2,f3,f4,f5⟩:=hf b hb;exact ⟨f3,f1,f4,f5⟩
  ·obtain ⟨o,es',ep,ho',r⟩:=hm;refine ⟨o,es',ep,hk _ o (λq=>?_) ho',r⟩;obtain ⟨f0,f1,_⟩:=hf X.env.locals q;exact f1 rfl
  ·refine (I.hok b u e).stay (λc v hcb q=>hk c v (λm=>?_) q) (λ_ q=>q) λ_ _ q=>q;have hn:=free c m;rcases hcb with q|q
   ·rw [q] at hn;rw [hn] at e;cases e
   ·rw [hn] at q;cases q
 self:=λA i s Q E st h=>let ⟨⟨old,he⟩,_⟩:=st;wpAny_pyIter_enum he h
section
variable {X:Cx} {a b e l:Expr} {es:List Expr} {pos:Pos}
def qg2 {p pt:Pos} {k1:Nat} {ta:TA} (hg:Gl X "enumerate") (hm:X.mg "enumerate" = none) (ha:PA X [a] ta) (hs:starEach [a] X.env=[(false,eval a X.env)]:=by rfl) :
  PI X (.Tuple es k1 pt) (.Call (.Name "enumerate" p) [a] [] pos) (λσ H R=>ta σ H λvs H1=>∃ b1 c1 xs,vs=[.ref c1]/\SqB X.K b1 H1 c1 xs/\R (Ite X.K b1 c1) H1):=by
 intro pins s σ H R I h;refine Call_ (V7 I hg hm PyProof.Rows.boot_enumerate (PyProof.Rows.callWith_type1 (thn (ha pos pins s σ H _ I h) λus s1 ⟨vs,H1,I1,r1,q1⟩=>?_) (by rw [hs];rfl) (by rfl)));obtain ⟨b1,c1,xs,rfl,sq1,q⟩:=q1;obtain ⟨u1,rfl,e1⟩:=Y9 r1;cases (show u1=Value.ref c1 from e1);obtain ⟨its1,rv1,l1,z1⟩:=sq1.get I1;refine qbe l1 λh' he hit hk=>wpAny_pyIter_enum he ?_;have lt:=qhb l1;have ne3:∀ n c:Nat,c<n->n+1≠n/\c≠n+1/\c≠n:=λn c h=>by omega
 obtain ⟨m1,m2,m3⟩:=ne3 _ _ lt;refine ⟨s1.heap.objs.size+1,[s1.heap.objs.size+1,s1.heap.objs.size],_,_,H1,rfl,I1.kept (t':=s1.toks) hk,qag m1 m2 m3,⟨⟨_,he⟩,hit⟩,λc hc=>?_,q⟩;have hle:s1.heap.objs.size<=c:=by
  simp only [mem_cons,not_mem_nil,or_false] at hc;rcases hc with rfl|rfl<;>first|exact Nat.le_refl _|exact Nat.le_add_right _ _
 exact I1.fpOk hle (I1.hok.fresh hle)
end
def jR (k:Nat):List T->List T
 |[]=>[]
 |x::r=>.tup [.int (k:Int),x]::jR (k+1) r
def qcO (us:List T):List T:=jR 0 us
def EL:∀ {us:List T} {k i:Nat} {x:T},(jR k us)[i]?=some x->∃ a,us[i]?=some a/\x=.tup [.int ((k+i:Nat):Int),a]
 |[],_,_,_,h=>by simp [jR] at h
 |u::us,k,0,x,h=>by simp [jR] at h;exact ⟨u,rfl,by simp [← h]⟩
 |u::us,k,i+1,x,h=>by
  simp [jR] at h;obtain ⟨a,ha,hx⟩:=EL h;exact ⟨a,by simpa using ha,by rw [hx];congr 4;omega⟩
def EI:∀ (us:List T) (k:Nat),(jR k us).length=us.length
 |[],_=>rfl
 |u::us,k=>by simp [jR,EI us]
def qaE (us:List T):(qcO us).length=us.length:=EI us 0
def RV {us:List T} {i:Nat} {x:T} (h:(qcO us)[i]?=some x):∃ a,us[i]?=some a/\x=.tup [.int (i:Int),a]:=by
 obtain ⟨a,ha,hx⟩:=EL h;exact ⟨a,ha,by rw [hx];congr 4;omega⟩
def qjm {K:Frg} {b1:Bool} {c1:Addr} {x:T} {us:List T} {G0:Gp} {H0:Hp}
  (f1:∀ G H,HR K G H->Kp G0 H0 G H->jb G x=some us->∃ vs,SqB K b1 H c1 vs/\Rps K H us vs) :
  qhI K (Ite K b1 c1) (qcO us) (λG=>jb G x=some us) G0 H0:=by
 intro G H hr k h1;obtain ⟨p,sp,rp⟩:=f1 G H hr k h1;refine ⟨λi z hz=>?_,λi z v H' hz hy=>?_,⟨p,sp,?_⟩⟩
 ·obtain ⟨a,ha,_⟩:=RV hz;obtain ⟨v,hv,_⟩:=rp.get ha;exact ⟨p,v,sp,hv⟩
 ·obtain ⟨a,ha,rfl⟩:=RV hz;obtain ⟨t,v1,ht,rfl,rfl,g1⟩:=hy;obtain ⟨v,hv,rv⟩:=rp.get ha;have e1:=(g1 p sp).symm.trans hv;obtain rfl:v1=v:=Option.some.inj e1;have kk:Kp G H G (upd H t (.tup [.int i,v1])):=Kp.laid ht;exact ⟨.tup (SqT.of qU) (.cons (.int _) (.cons (rv.keep hr kk) .nil)),hr.laid ht,kk⟩
 ·rw [← rp.length,qaE];exact Nat.le_refl _
def L7 (ta:TA3):TI3:=λτ G r=>ta τ G λxs G1=>match xs with
 |[x]=>(match jb G1 x with|some us=>r (qcO us) (λG=>jb G x=some us) G1|_=>False)
 |_=>False
section
variable {X:Cx} {a b e l:Expr} {es:List Expr} {pos:Pos} {t:TA3}
def qjB {p pt:Pos} {k1:Nat} (hg:Gl X "enumerate") (hm:X.mg "enumerate" = none) (ha:A3 X [a] t) (hs:starEach [a] X.env=[(false,eval a X.env)]:=by rfl) :
  I3 X (.Tuple es k1 pt) (.Call (.Name "enumerate" p) [a] [] pos) (L7 t):=
 qkS (qg2 hg hm ha hs) λσ H R ⟨τ,G,r,rl,h,af⟩=>JS rl h λxs G1 h1 vs H1 rs hr1 k1 rl1=>by
  split at h1
  ·rename_i x;split at h1
   ·rename_i us e1;obtain ⟨v,rfl,r1⟩:=CN rs;obtain ⟨b1,c1,rfl,f1⟩:=qbZ hr1 r1 e1;obtain ⟨p,sp,_⟩:=f1 G1 H1 hr1 Kp.refl e1;exact ⟨b1,c1,p,rfl,sp,af _ _ G1 h1 _ H1 hr1 k1 (qjm f1)⟩
   ·exact h1.elim
  ·exact h1.elim
end
section
variable {X:Cx} {a b c e:Expr} {es:List Expr} {ta tb tc te:TE3} {t:TA3} {pos:Pos}
def qoN (i:Nat) (r:R3) (te:TE3):TS3:=λd τ G=>match τ[i]? with
 |some (some x)=>te τ G λy G1=>r x y G1 λz G2=>d.nx (τ.set i (some z)) G2
 |_=>False
def qde (ns:List Int):Prop:=ns.length<=1000000/\∀ x∈ns,-1000000000000<=x/\x<=1000000000000
def S6 (ns:List Int):∀ j,j<=ns.length->preSum (λi=>ns.getD i 0) j=(ns.take j).sum
 |0,_=>by simp [preSum]
 |j+1,h=>by
  have hj:j<ns.length:=h;unfold preSum;rw [S6 ns j (by omega),List.take_succ_eq_append_getElem hj,List.sum_append,getD_eq_getElem?_getD,getElem?_eq_getElem hj];simp
def qdU:∀ (ns:List Int),(∀ x∈ns,-1000000000000<=x/\x<=1000000000000)->-1000000000000*(ns.length:Int)<=ns.sum/\ns.sum<=1000000000000*(ns.length:Int)
 |[],_=>by simp
 |n::r,h=>by
  have h1:=h n List.mem_cons_self;have h2:=qdU r λx hx=>h x (List.mem_cons_of_mem _ hx);rw [List.sum_cons,length_cons];omega
def C1 (hc:X.calm=true):QL X (.builtin "sum") (λxs H Q=>∃ (p:Addr) (ns:List Int),xs=[.ref p]/\SqL X.K H p (ns.map V.int)/\qde ns/\Q (.int ns.sum) H):=by
 intro pins s σ H xs us Q I r h;obtain ⟨p,ns,rfl,hq,ok,q⟩:=h;obtain ⟨u,rfl,rp⟩:=Y9 r;cases (show u=Value.ref p from rp);obtain ⟨its,rv,pl,hz⟩:=I.list hq;have hlen:its.length=ns.length:=by have:=rv.length;simp at this;omega
 have hp:p<s.heap.objs.size:=by obtain ⟨o,n,e,_⟩:=pl;exact Heap.lt_size e
 have bd:∀ j,j<=ns.length->InLong (preSum (λi=>ns.getD i 0) j):=λj hj=>by
  rw [S6 ns j hj];have:=qdU (ns.take j) λx hx=>ok.2 x (List.mem_of_mem_take hx);have hl:(ns.take j).length<=1000000:=Nat.le_trans (by rw [List.length_take];omega) ok.1;unfold InLong;omega
 refine call_sum_walk (wpAny_pyIter_list pl.isList ⟨s.heap.objs.size,_,_,_,_,_,λi=>ns.getD i 0,rfl,Walks.list (A:=X.A.in1) (show X.A.in1.handled=none from I.ok.hd hc) s.heap.objs.size p (Nat.ne_of_lt hp) its.toArray,⟨⟨_,Heap.get?_push_size _ rfl,rfl,rfl⟩,?_⟩,λb hb=>?_,λi v hv=>?_,λj hj=>?_,λh' tk t' hk=>?_⟩)
 ·obtain ⟨o,n,e,c,_,d⟩:=pl;exact ⟨o,Heap.get?_push_of_some _ e,c,n,d⟩
 ·have lt1:∀ n c:Nat,c<n->c<n+1:=λn c h=>by omega
  rw [show (({ s with heap:=s.heap.push _ }:Shared).heap.objs.size)=s.heap.objs.size+1 from Heap.size_push ..];simp only [mem_cons,not_mem_nil,or_false] at hb;rcases hb with rfl|rfl
  ·exact Nat.lt_succ_self _
  ·exact lt1 _ _ hp
 ·have hv':its[i]?=some v:=by simpa using hv
  obtain ⟨hi,_⟩:=List.getElem?_eq_some_iff.mp hv';have hi':i<ns.length:=by omega
  obtain ⟨u,hu,ru⟩:=rv.get (i:=i) (show (ns.map V.int)[i]?=some (V.int (ns[i])) by simp [hi']);rw [hv'] at hu;cases hu;obtain ⟨t,rfl⟩:=ru;exact ⟨t,by show Value.int ns[i] t=Value.int (ns.getD i 0) t;rw [getD_eq_getElem?_getD,getElem?_eq_getElem hi'];rfl⟩
 ·have hj':j<ns.length:=by rw [size_toArray] at hj;omega
  refine ⟨?_,bd _ hj'⟩;have:=ok.2 (ns.getD j 0) (by rw [getD_eq_getElem?_getD,getElem?_eq_getElem hj'];exact List.getElem_mem hj');show InLong (ns.getD j 0);unfold InLong;omega
 ·refine ⟨.int _,H,?_,⟨_,rfl⟩,by rw [size_toArray,hlen,S6 ns _ (Nat.le_refl _),List.take_length];exact q⟩;exact I.kept (h':=h') (t':=tk) λb o e=>hk b o (by simp;exact Nat.ne_of_lt (Heap.lt_size e)) (Heap.get?_push_of_some _ e)
def E9:List T->Option (List Int)
 |[]=>some []
 |.int i::r=>(match E9 r with|some ns=>some (i::ns)|none=>none)
 |_=>none
def J4 (ns:List Int):E9 (ns.map T.int)=some ns:=by
 induction ns with
 |nil=>rfl
 |cons n r ih=>simp [E9,ih]
def J7:∀ {xs:List T} {ns:List Int},E9 xs=some ns->xs=ns.map T.int
 |[],_,h=>by simp [E9] at h;subst h;rfl
 |x::r,ns,h=>by
  unfold E9 at h;split at h
  ·rename_i e;cases e
  ·rename_i i r' e;cases e;split at h
   ·rename_i ms e2;cases h;rw [J7 e2];rfl
   ·cases h
  ·cases h
def qks:List T->Gp->Q3->Prop:=λxs G q=>match xs with
 |[.ref p]=>(match getL G p with|some ys=>(match E9 ys with|some ns=>qde ns/\q (.int ns.sum) G|none=>False)|none=>False)
 |_=>False
def J8 {K:Frg} {H:Hp}:∀ {ns:List Int} {vs:List V},Rps K H (ns.map T.int) vs->vs=ns.map V.int
 |[],_,r=>by cases r;rfl
 |n::ns,_,r=>by
  cases r with
  |cons a b=>cases a;rw [J8 b];rfl
def qgD {K:Frg}:SS K qks (λxs H Q=>∃ (p:Addr) (ns:List Int),xs=[.ref p]/\SqL K H p (ns.map V.int)/\qde ns/\Q (.int ns.sum) H):=λxs vs G H q Q hr rs h af=>by
 unfold qks at h;split at h
 ·rename_i p;obtain ⟨v,rfl,r⟩:=CN rs;cases r;split at h
  ·rename_i ys e0;split at h
   ·rename_i ns e1;obtain ⟨us,hs,r2⟩:=zu hr e0;have:=J7 e1;subst this;have:=J8 r2;subst this;exact ⟨p,ns,rfl,hs,h.1,af _ G h.2 _ H (.int _) hr Kp.refl⟩
   ·exact h.elim
  ·exact h.elim
 ·exact h.elim
def qo4:List T->Gp->Q3->Prop:=λxs G q=>match xs with
 |[.ref p]=>(match getL G p with|some ys=>(match qml ys with|some k=>q (.bl k) G|none=>False)|none=>False)
 |_=>False
end
section
variable {X:Cx}
def qgu {elt tg iter:Expr} {ifs:List Expr} {scope:Scope} {pos cpos:Pos} {N':List Str} {m:List (Option Nat)} {wi:TI} {g:TG} {tif:TT} {te:TE} {use:Option (Value->Sem Unit)} {Qc:Value->Shared->Prop} {QD:Addr->Hp->Prop} (hc:X.calm=true) (hi:PI X tg iter wi)
  (hg:∀ s H fp,PG (qg X N' scope s H fp) tg g) (hf:∀ s H fp,PF (qg X N' scope s H fp) ifs tif) (he:∀ s H fp,PE (qg X N' scope s H fp) elt te)
  (hsc:SV X.env.scope scope=true) (hcap:ZX X.N N' scope m=true) (hs:∀ x,foldedSetIterable iter X.env x=pure x) {pins:List (Addr×Obj)} {s:Shared} {σ:L2.St} {H:Hp} (I:Inv X pins σ H s)
  (h:wi σ H λJ H1=>∀ D,H1 D=none ->
   ∃ W:Nat->Nat->L2.St->Hp->Prop,(∃ n,W 0 n (cap m σ) (upd H1 D (.lst [])))/\∀ i n σ H,W i n σ H ->
    (J.stop i H/\QD D H)\/(J.go i H/\∀ x H',J.yld i H x H'->g x σ H' λσ2 H2=>tif σ2 H2 λk H3=>
     if k=true then te σ2 H3 λy H4=>∃ zs,H4 D=some (.lst zs)/\zs.length<sizeLine/\∃ n',n'<n/\W (i+1) n' σ2 (upd H4 D (.lst (zs++[y])))
     else ∃ n',n'<n/\W (i+1) n' σ2 H3))
  (fin:∀ (D:Addr) (s3:Shared) (H3:Hp) (fp:List Addr) (s6:Shared) (H6:Hp) (σ6:L2.St) (r:Flow),Inv X pins σ H3 s3->(∀ b∈fp,WK X pins H3 b)->Inv (qg X N' scope s3 H3 fp) [] σ6 H6 s6->QD D H6->compPost (model X.prog X.w) X.A X.xe use Qc (.ref D) s3.heap.objs.size (.ok r) s6) :
  wpAny (model X.prog X.w) X.A (comprehension (.ListComp elt [⟨tg,iter,ifs,0⟩] scope pos) scope X.env cpos (newList []) false (eval iter X.env) use) Qc X.xe s:=by
 have sc:=YZ hsc;have hcl:∀ y∈scope.names,y.2=.free->∃ c,X.env.cells.lookup y.1=some c:=λy hy e=>by
  rcases (sc.free y hy e).2 with z|z
  ·exact I.ok.has y.1 (.inl z)
  ·exact I.ok.has y.1 (.inr z)
 refine wpAny_comprehension_free (g:=⟨tg,iter,ifs,0⟩) (gs:=[]) rfl hs (jN hcl) sc.kind sc.loc ?_;show wpAny _ _ (eval iter X.env) _ _ s;refine thn (hi pins s σ H _ I h) λv s1 h1=>thn h1 λitv s2 h2=>?_;obtain ⟨it,fp,tn,J,H2,rfl,I2,T,st2,f2,hW⟩:=h2;refine wpAny_newObj_type ?_;have hD:H2 s2.heap.objs.size=none:=I2.fresh;obtain ⟨W,⟨n0,w0⟩,turn⟩:=hW _ hD;generalize hDe:s2.heap.objs.size=D at *;have I3:Inv X pins σ (upd H2 D (.lst [])) { s2 with heap:=s2.heap.push { cls:=.type "list",dict:=none,data:=.seq ([]:List Value).toArray } }:=by
  subst hDe;exact I2.laid (t':=s2.toks) (λb u e=>Heap.get?_push_of_some _ e) (Nat.le_refl _) ⟨Nat.zero_le _,[],0,.nil,Heap.get?_push_size _ rfl⟩
 have ob2:=T.obj 0 _ st2;have ob3:∀ b∈fp,∃ o,(s2.heap.push { cls:=.type "list",dict:=none,data:=.seq ([]:List Value).toArray }).get? b=some o:=λb hb=>let ⟨o,e,_⟩:=ob2 b hb;⟨o,Heap.get?_push_of_some _ e⟩
 have f3:∀ b∈fp,WK X pins (upd H2 D (.lst [])) b:=λb hb=>by
  obtain ⟨o,e,_⟩:=ob2 b hb;have:b≠D:=by rw [← hDe];exact Nat.ne_of_lt (Heap.lt_size e)
  exact ⟨by rw [qC this];exact (f2 b hb).1,(f2 b hb).2⟩
 have k23:∀ b o,s2.heap.get? b=some o->(s2.heap.push { cls:=.type "list",dict:=none,data:=.seq ([]:List Value).toArray }).get? b=some o:=λb o e=>Heap.get?_push_of_some _ e;generalize hH3:upd H2 D (.lst [])=H3 at *;generalize hs3:({ s2 with heap:=s2.heap.push { cls:=.type "list",dict:=none,data:=.seq ([]:List Value).toArray } }:Shared)=s3 at *;have ob3:∀ b∈fp,∃ o,s3.heap.get? b=some o:=by rw [← hs3];exact ob3
 have k23:∀ b o,s2.heap.get? b=some o->s3.heap.get? b=some o:=by rw [← hs3];exact k23
 refine zT λh₁ hns hk hown=>?_;have I4:Inv (qg X N' scope s3 H3 fp) [] (cap m σ) H3 { s3 with heap:=h₁ }:=E8 hc I3 sc hcap f3 ob3 hns hk hown;have tn4:tn 0 h₁:=T.keep _ _ _ st2 λb hb o e=>hk b o (k23 b o e);have fr4:∀ b∈fp,H3 b=none:=λb hb=>(f3 b hb).1;have stat:∀ {H':Hp},(∀ b∈fp,H' b=none)->∀ b∈fp,WK (qg X N' scope s3 H3 fp) [] H' b:=λhn b hb=>by
  refine ⟨hn b hb,I4.ok.exf b hb |>.1,I4.ok.exfs b hb,.inl hb,λx c e=>(I4.ok.exf b hb).2 x c e,λp hp=>absurd (show p∈([]:List (Addr×Obj)) from hp) (by simp)⟩
 show codeAny (model X.prog X.w) X.A (.compStart (.ListComp elt [⟨tg,iter,ifs,0⟩] scope pos) 0 (.ref it) (.ref D) (qg X N' scope s3 H3 fp).env) (compPost (model X.prog X.w) X.A X.xe use Qc (.ref D) s3.heap.objs.size) { s3 with heap:=h₁ };have loop:codeAny (model X.prog X.w) X.A (.compLoop (.ListComp elt [⟨tg,iter,ifs,0⟩] scope pos) 0 (.ref it) (.ref D) (qg X N' scope s3 H3 fp).env) (compPost (model X.prog X.w) X.A X.xe use Qc (.ref D) s3.heap.objs.size) { s3 with heap:=h₁ }:=by
  refine codeAny_loop rfl (λn s'=>∃ i σ' H',Inv (qg X N' scope s3 H3 fp) [] σ' H' s'/\tn i s'.heap/\(∀ b∈fp,H' b=none)/\W i n σ' H') (λn s' hI=>?_) n0 ⟨0,cap m σ,H3,I4,tn4,fr4,w0⟩;show wpAny _ X.A ((compTurn (.ListComp elt [⟨tg,iter,ifs,0⟩] scope pos) 0 (.ref it) (.ref D) (qg X N' scope s3 H3 fp).env).onRaise (λx=>do noteFrame x (qg X N' scope s3 H3 fp).env;theTreesLotGoes x)) _ _ s';refine wpAny_noted ?_;rw [compTurn_list];refine wpAny_bind (wpAny_standAt (wpAny_bind ?_));obtain ⟨i,σ5,H5,I5,st5,fr5,w5⟩:=hI;rcases turn i n σ5 H5 w5 with ⟨stop,q⟩|⟨go,step⟩
  ·refine thn (T.done (qg X N' scope s3 H3 fp) rfl rfl rfl rfl i [] s' σ5 H5 _ I5 (stat fr5) st5 stop) λr s6 ⟨hr,I6⟩=>?_;subst hr;refine wpAny_pure ?_;exact fin D s3 H3 fp s6 H5 σ5 _ I3 f3 I6 q
  ·refine thn (T.item (qg X N' scope s3 H3 fp) rfl rfl rfl rfl i [] s' σ5 H5 _ I5 (stat fr5) st5 go) λr s6 ⟨u,hr,h6⟩=>?_;subst hr;refine wpAny_bind (thn h6 λ_ s7 ⟨x,H7,I7,r7,y7,st7,fr7⟩=>?_);have I7':=I7.pinned (stat fr7) (T.obj _ _ st7);have again:∀ {σ8:L2.St} {H8:Hp} {s8:Shared},Inv (qg X N' scope s3 H3 fp) ([]++VS fp s7.heap) σ8 H8 s8->(∃ n',n'<n/\W (i+1) n' σ8 H8) ->
     ∃ m',m'<n/\∃ i σ' H',Inv (qg X N' scope s3 H3 fp) [] σ' H' s8/\tn i s8.heap/\(∀ b∈fp,H' b=none)/\W i m' σ' H':=λ{σ8 H8 s8} I8 ⟨n',hn,w8⟩=>by
    refine ⟨n',hn,i+1,σ8,H8,I8.unpinned,T.keep _ _ _ st7 λb hb o e=>(I8.pin (b,o) (mem_append_right _ (mem_append_right _ (q0 hb e)))).1,λb hb=>?_,w8⟩;obtain ⟨o,e,d⟩:=T.obj _ _ st7 b hb;exact (I8.pin (b,o) (mem_append_right _ (mem_append_right _ (q0 hb e)))).2.1
   refine wpAny_bind (wpAny_mono (hg s3 H3 fp _ s7 σ5 H7 x u _ I7' r7 (step x H7 y7)) (λ_ s8 ⟨σ8,H8,I8,q8⟩=>?_) λ_ _ z=>z.elim);refine wpAny_bind (wpAny_mono (hf s3 H3 fp _ s8 σ8 H8 _ I8 q8) (λk s9 ⟨H9,I9,q9⟩=>?_) λ_ _ z=>z.elim);cases k with
   |false=>
    rw [if_neg Bool.false_ne_true] at q9;exact wpAny_pure ⟨rfl,again I9 q9⟩
   |true=>
    rw [if_pos rfl] at q9;refine wpAny_bind (wpAny_bind (wpAny_mono (he s3 H3 fp _ s9 σ8 H9 _ I9 q9) (λw s10 ⟨y,H10,I10,r10,q10⟩=>?_) λ_ _ z=>z.elim));obtain ⟨zs,hz,hl,q10⟩:=q10;refine wpAny_bind (wpAny_mono (VY (X:=qg X N' scope s3 H3 fp) _ s10 σ8 H10 (.ref D) [y] (.ref D) [w] (λ_ H11=>H11=upd H10 D (.lst (zs++[y]))) I10 rfl (.cons r10 .nil) ⟨D,zs,y,rfl,rfl,hz,hl,rfl⟩) (λ_ s11 ⟨_,H11,I11,_,e11⟩=>?_) λ_ _ z=>z.elim);subst e11;exact wpAny_pure (wpAny_pure ⟨rfl,again I11 q10⟩)
 exact codeAny_compStart_list loop (T.self X.A 0 _ _ _ tn4 loop)
def qdk {i:Nat} {y:Str} {py spos:Pos} {elt tg iter:Expr} {ifs:List Expr} {scope:Scope} {pos:Pos} {N':List Str} {m:List (Option Nat)} {wi:TI} {g:TG} {tif:TT} {te:TE} (hc:X.calm=true) (hN:X.N.Nodup) (hi:PI X tg iter wi)
  (hg:∀ s H fp,PG (qg X N' scope s H fp) tg g) (hf:∀ s H fp,PF (qg X N' scope s H fp) ifs tif) (he:∀ s H fp,PE (qg X N' scope s H fp) elt te)
  (hsc:SV X.env.scope scope=true) (hcap:ZX X.N N' scope m=true) (hs:∀ x,foldedSetIterable iter X.env x=pure x) (hiy:X.N[i]?=some y) (hl:X.env.scope.names.lookup y=some .local)
  (hsw:swapsWith (.ListComp elt [⟨tg,iter,ifs,0⟩] scope pos) (some (.Name y py)) spos.line X.env=pure true) :
  PS X (.Assign [.Name y py] (.ListComp elt [⟨tg,iter,ifs,0⟩] scope pos) spos) (qme (tLC wi g tif te m) (qcE i)):=by
 intro pins s σ H D I h;rw [exec_Assign_Name_used _ _ _ _ hsw];refine wpAny_bind (wpAny_standAt (wpAny_bind ?_));show wpAny _ X.A (do let _←comprehension (.ListComp elt [⟨tg,iter,ifs,0⟩] scope pos) scope X.env _ (newList []) false (eval iter X.env) (some (assign (.Name y py) X.env))) _ _ s;refine wpAny_bind (wpAny_mono (qgu (use:=some (assign (.Name y py) X.env)) (QD:=λD' H'=>D.nx (σ.set i (some (.ref D'))) H') (Qc:=λ_ s'=>∃ σ' H',Inv X pins σ' H' s'/\D.nx σ' H') hc hi hg hf he hsc hcap hs I h λD' s3 H3 fp s6 H6 σ6 r I3 f3 I6 q=>?_) (λ_ s' hq=>wpAny_pure (wpAny_pure hq)) λ_ _ e=>e);have I7:Inv X pins σ H6 s6:=YR (h2:=s6.heap) I3 f3 I6 ⟨rfl,λ_ _=>rfl⟩;obtain ⟨mm,hn6,_⟩:=I6.loc;have hfC:WK X pins H6 s3.heap.objs.size:=I3.fpOk (Nat.le_refl _) I6.free;obtain ⟨f0,f1,f2,f3',f4,f5⟩:=hfC;show wpAny _ X.A (assign (.Name y py) X.env (.ref D')) _ _ _;refine wpAny_assign_Name (DT I7 hN hiy (.inl hl) (v:=.ref D') rfl (λs8 I8 hch=>?_) (.inr hl));obtain ⟨a,sb,ha⟩:=hch;have hne:s3.heap.objs.size≠a:=by
  rcases ha with rfl|ha
  ·exact f1
  ·exact Ne.symm (f4 _ _ ha)
 refine ⟨mm,hn6.sameBut sb hne,λh' sb'=>⟨_,_,I8.turned (t':=s8.toks) (λb o hb e=>(sb'.2 b hb).trans e) f0 f1 f3' f4 f5,q⟩⟩
end
def qoB {K:Frg} {m:List (Option Nat)} {wi:TI3} {g:TG3} {tif:TT3} {te:TE3} {σ:L2.St} {H:Hp} {Q:VK} (hh:lE K (lc3 wi g tif te m) σ H Q):tLC (lI K wi) (lG K g) (lT K tif) (lE K te) m σ H Q:=by
  obtain ⟨τ,G,q,rl,h,af⟩:=hh;refine ⟨τ,G,_,rl,h,λitems stay G1 h1 J H1 hr1 k1 ok D hD=>?_⟩;have gD:G1 D=none:=hr1.free hD;refine ⟨λi n σ' H'=>n=items.length-i/\i<=items.length/\∃ τ' G' ys vs,Rel K τ' G' σ' H'/\Kp G1 H1 G' H'/\H' D=some (.lst vs)/\Rps K H' ys vs/\G' D=none/\MN stay g tif te q (items.drop i) ys τ' G',
   ⟨_,rfl,Nat.zero_le _,cap m τ,G1,[],[],((rl.next hr1 k1).cap m).next (hr1.laid hD) (Kp.laid hD),Kp.laid hD,qU,.nil,gD,by simpa using h1⟩,?_⟩
  rintro i n σ' H' ⟨rfl,hi,τ',G',ys,vs,rl',k',hDl,rys,gD',h'⟩;by_cases hlt:i<items.length
  ·rw [List.drop_eq_getElem_cons hlt] at h';obtain ⟨hst,h'⟩:=h';obtain ⟨go,yld,_⟩:=ok G' H' rl'.hp k' hst;have hx:items[i]?=some items[i]:=getElem?_eq_getElem hlt;refine .inr ⟨go i _ hx,λv H2 y=>?_⟩;obtain ⟨rv,hr2,k2⟩:=yld i _ v H2 hx y;have nxt:∀ {τ4:St3} {G4:Gp} {σ4:L2.St} {H4:Hp} {ys4:List T} {vs4:List V},Rel K τ4 G4 σ4 H4->Kp G1 H1 G4 H4->H4 D=some (.lst vs4)->Rps K H4 ys4 vs4->G4 D=none->MN stay g tif te q (items.drop (i+1)) ys4 τ4 G4 ->
     ∃ n',n'<items.length-i/\(n'=items.length-(i+1)/\i+1<=items.length/\∃ τ' G' ys vs,Rel K τ' G' σ4 H4/\Kp G1 H1 G' H4/\H4 D=some (.lst vs)/\Rps K H4 ys vs/\G' D=none/\MN stay g tif te q (items.drop (i+1)) ys τ' G'):=
    λ{τ4 G4 σ4 H4 ys4 vs4} a b c d e f=>⟨_,by omega,rfl,hlt,τ4,G4,ys4,vs4,a,b,c,d,e,f⟩
   refine ⟨_,τ',G',_,rv,rl'.next hr2 k2,h',λτ3 G3 h3 σ3 H3 rl3 k3=>⟨τ3,G3,_,rl3,h3,λk G4 h4 H4 hr4 k4=>?_⟩⟩;have kk:=(k2.trans k3).trans k4;obtain ⟨hD4,gD4⟩:=kk D _ hDl gD';have rys4:=rys.keep rl'.hp kk;cases k with
   |false=>
    rw [if_neg Bool.false_ne_true] at h4;refine qjp ?_;exact nxt (rl3.next hr4 k4) (k'.trans kk) hD4 rys4 gD4 h4
   |true=>
    rw [if_pos rfl] at h4;refine qhX ?_;refine ⟨τ3,G4,_,rl3.next hr4 k4,h4,λz G5 h5 w H5 rw5 hr5 k5=>?_⟩;obtain ⟨hD5,gD5⟩:=k5 D _ hD4 gD4;have rys5:=rys4.keep hr4 k5;exact ⟨vs,hD5,by rw [← rys.length];exact h5.1,nxt (((rl3.next hr4 k4).next hr5 k5).wrD hD5 gD5) (((k'.trans kk).trans k5).wrD hD) qU ((rys5.append (.cons rw5 .nil)).wrD hD5) gD5 h5.2⟩
  ·have e:i=items.length:=by omega
   subst e;rw [List.drop_length] at h';obtain ⟨_,_,stop⟩:=ok G' H' rl'.hp k' h'.1;refine .inl ⟨stop,af _ _ (h'.2 D gD') _ H' (.ref D) (λa o e=>?_) λa o e ga=>?_⟩
   ·by_cases ha:a=D
    ·subst ha;rw [qG] at e;cases e;exact ⟨vs,hDl,rys⟩
    ·rw [jK ha] at e;exact rl'.hp a o e
   ·obtain ⟨e1,g1⟩:=k1 a o e ga;obtain ⟨e2,g2⟩:=k' a o e1 g1;exact ⟨e2,by rw [jK (qw e1 hD)];exact g2⟩
def qgi {X:Cx} {py spos:Pos} {elt tg iter:Expr} {ifs:List Expr} {scope:Scope} {pos:Pos} {y:Str} (i:Nat) (N':List Str) (m:List (Option Nat)) {wi:TI3} {g:TG3} {tif:TT3} {te:TE3} (hc:X.calm=true) (hN:X.N.Nodup) (hi:I3 X tg iter wi)
  (hg:∀ s H fp,G3 (qg X N' scope s H fp) tg g) (hf:∀ s H fp,F3 (qg X N' scope s H fp) ifs tif) (he:∀ s H fp,E3 (qg X N' scope s H fp) elt te)
  (hsc:SV X.env.scope scope=true) (hcap:ZX X.N N' scope m=true) (hl:X.env.scope.names.lookup y=some .local) (hsw:swapsWith (.ListComp elt [⟨tg,iter,ifs,0⟩] scope pos) (some (.Name y py)) spos.line X.env=pure true) (hiy:X.N[i]?=some y:=by rfl) (hs:∀ x,foldedSetIterable iter X.env x=pure x:=by intro _;rfl) :
  S3 X (.Assign [.Name y py] (.ListComp elt [⟨tg,iter,ifs,0⟩] scope pos) spos) (zn (lc3 wi g tif te m) (gn3 i)):=
 qcf (qdk (g:=lG X.K g) (tif:=lT X.K tif) (te:=lE X.K te) hc hN hi hg hf he hsc hcap hs hiy hl hsw) λ_ σ H ⟨τ,G,d,rl,h,af⟩=>
  qoB ⟨τ,G,_,rl,h,λx G1 h1 v H1 rx hr1 k1=>af.nx _ G1 h1 _ H1 ((rl.next hr1 k1).set i rx) k1⟩
end L3
set_option autoImplicit true
namespace L3
open PySem PySem.Spec PyProof.Rows L2
structure jE3 (X:Cx) (e:Expr) (t:TE3):Prop where h:E3 X e t
structure jC3 (X:Cx) (e:Expr) (t:TT3):Prop where h:C3 X e t
structure jW3 (X:Cx) (e:Expr) (t:TT3):Prop where h:W3 X e t
structure jA3 (X:Cx) (e:List Expr) (t:TA3):Prop where h:A3 X e t
structure jP3 (X:Cx) (e:Option Expr) (t:TO3):Prop where h:P3 X e t
structure jS3 (X:Cx) (e:Stmt) (t:TS3):Prop where h:S3 X e t
structure jB3 (X:Cx) (e:List Stmt) (t:TS3):Prop where h:B3 X e t
structure jG3 (X:Cx) (e:Expr) (t:TG3):Prop where h:G3 X e t
structure jGs3 (X:Cx) (e:List Expr) (t:SQ):Prop where h:Gs3 X e t
structure jI3 (X:Cx) (tg e:Expr) (t:TI3):Prop where h:I3 X tg e t
structure jF3 (X:Cx) (e:List Expr) (t:TT3):Prop where h:F3 X e t
def qb {X:Cx} (i:Nat) {x:Str} {pos:Pos} (hN:X.N[i]?=some x:=by rfl) (hv:Vis X.env.scope x:=by first|exact Or.inl rfl|exact Or.inr (Or.inl rfl)|exact Or.inr (Or.inr rfl)) (hd:(x==("__debug__" : Str))=false:=by decide)
  (hcd:(x==("__classdict__" : Str))=false:=by decide):jE3 X (.Name x pos) (v3 i):=
 ⟨qmW (i:=i) (hN:=hN) (hv:=hv) (hd:=hd) (hcd:=hcd)⟩
def qd {X:Cx} {i:Int} {j pos}:jE3 X (.Constant (.int i) j pos) (c3 (.int i)):=
 ⟨qnw ⟩
def CV {X:Cx} {b:Bool} {j pos}:jE3 X (.Constant (.bool b) j pos) (c3 (.bl b)):=
 ⟨qpw ⟩
def N7 {X:Cx} {j pos}:jE3 X (.Constant .none j pos) (c3 .non):=
 ⟨qnS ⟩
def qX {X:Cx} {x:Str} {j pos}:jE3 X (.Constant (.str x) j pos) (c3 (.str x)):=
 ⟨qoi ⟩
def zP {ta:TE3} {tb:TE3} {pos:Pos} {a:Expr} {b:Expr} {X:Cx} {op:CmpOp} {r3:R3} {r:R2} (ho:OpR X (compareOp op) r) (hr:SU X.K r3 r) (ha:jE3 X a ta) (hb:jE3 X b tb) (hm:behindInMarks op b=false):jE3 X (.Compare a [op] [b] pos) (o3 r3 ta tb):=
 ⟨qnx (ho:=ho) (hr:=hr) (ha:=ha.h) (hb:=hb.h) (hm:=hm)⟩
def qO {ta:TE3} {tb:TE3} {pos:Pos} {a:Expr} {b:Expr} {X:Cx} {op:CmpOp} {r3:R3} {r:R2} (ho:OpR X (compareOp op) r) (hr:SU X.K r3 r) (ha:jE3 X a ta) (hb:jE3 X b tb) (hm:behindInMarks op b=false):jC3 X (.Compare a [op] [b] pos) (tb3 (o3 r3 ta tb)):=
 ⟨qow (ho:=ho) (hr:=hr) (ha:=ha.h) (hb:=hb.h) (hm:=hm)⟩
def DO {ta:TE3} {tb:TE3} {pos:Pos} {a:Expr} {b:Expr} {X:Cx} (ha:jE3 X a ta) (hb:jE3 X b tb):jE3 X (.BinOp a .Sub b pos) (o3 (iI (·-·)) ta tb):=
 ⟨qns (ha:=ha.h) (hb:=hb.h)⟩
def zd {ta:TE3} {tb:TE3} {pos:Pos} {a:Expr} {b:Expr} {X:Cx} (ha:jE3 X a ta) (hb:jE3 X b tb):jE3 X (.BinOp a .Mult b pos) (o3 (iC jy (·*·)) ta tb):=
 ⟨qol (ha:=ha.h) (hb:=hb.h)⟩
def jM {ta:TE3} {tb:TE3} {pos:Pos} {a:Expr} {b:Expr} {X:Cx} (ha:jE3 X a ta) (hb:jE3 X b tb):jE3 X (.BinOp a .Mod b pos) (o3 (iC (λ_ j=>0<j) (·%·)) ta tb):=
 ⟨qnq (ha:=ha.h) (hb:=hb.h)⟩
def W5 {ta:TE3} {tb:TE3} {pos:Pos} {a:Expr} {b:Expr} {X:Cx} (ha:jE3 X a ta) (hb:jE3 X b tb):jE3 X (.BinOp a .FloorDiv b pos) (o3 (iC qb4 (·/·)) ta tb):=
 ⟨qnC (ha:=ha.h) (hb:=hb.h)⟩
def qip {ta:TE3} {tb:TE3} {pos:Pos} {a:Expr} {b:Expr} {X:Cx} (ha:jE3 X a ta) (hb:jE3 X b tb):jE3 X (.BinOp a .Pow b pos) (o3 (iC qlC (λi j=>i ^ j.toNat)) ta tb):=
 ⟨qm7 (ha:=ha.h) (hb:=hb.h)⟩
def qgK {ta:TE3} {tb:TE3} {pos:Pos} {a:Expr} {b:Expr} {X:Cx} (ha:jE3 X a ta) (hb:jE3 X b tb):jE3 X (.BinOp a .BitAnd b pos) (o3 (iI Builtin.bitAnd) ta tb):=
 ⟨ql3 (ha:=ha.h) (hb:=hb.h)⟩
def DN {ta:TE3} {pos:Pos} {a:Expr} {X:Cx} (ha:jE3 X a ta):jE3 X (.UnaryOp .USub a pos) (u3 TH ta):=
 ⟨qor (ha:=ha.h)⟩
def SJ {tA:TT3} {pos:Pos} {a:Expr} {X:Cx} (ha:jC3 X a tA):jW3 X (.BoolOp .Or [a] pos) tA:=
 ⟨qn0 (ha:=ha.h)⟩
def SF {jw:List Expr} {tA:TT3} {tB:TT3} {pos:Pos} {a:Expr} {X:Cx} (ha:jC3 X a tA) (hb:jW3 X (.BoolOp .Or (b::jw) pos) tB):jW3 X (.BoolOp .Or (a::b::jw) pos) (or3 tA tB):=
 ⟨qpF (ha:=ha.h) (hb:=hb.h)⟩
def UB {tA:TT3} {pos:Pos} {a:Expr} {X:Cx} (ha:jC3 X a tA):jC3 X (.UnaryOp .Not a pos) (SX tA):=
 ⟨qog (ha:=ha.h)⟩
def JE {X:Cx} {e:Expr} {t:TE3} (h:jE3 X e t) (he:∀ whole,isTrue e X.env whole=(do let v←whole;standAt e.pos;holding [v] (truthy v)):=by intro _;rfl):jC3 X e (tb3 t):=
 ⟨qmX (h:=h.h) (he:=he)⟩
def Q8 {ta:TE3} {pos:Pos} {a:Expr} {X:Cx} {op} (h:jE3 X a ta):jE3 X (.BoolOp op [a] pos) ta:=
 ⟨qmS (h:=h.h)⟩
def jL {jw:List Expr} {ta:TE3} {tb:TE3} {pos:Pos} {a:Expr} {X:Cx} (ha:jE3 X a ta) (hb:jE3 X (.BoolOp .And (b::jw) pos) tb):jE3 X (.BoolOp .And (a::b::jw) pos) (ju ta tb):=
 ⟨qn3 (ha:=ha.h) (hb:=hb.h)⟩
def qob {jw:List Expr} {ta:TE3} {tb:TE3} {pos:Pos} {a:Expr} {X:Cx} (ha:jE3 X a ta) (hb:jE3 X (.BoolOp .Or (b::jw) pos) tb):jE3 X (.BoolOp .Or (a::b::jw) pos) (qhE ta tb):=
 ⟨qpX (ha:=ha.h) (hb:=hb.h)⟩
def qfG {ta:TE3} {pos:Pos} {a:Expr} {X:Cx} (ha:jE3 X a ta):jE3 X (.UnaryOp .Not a pos) (TW ta):=
 ⟨qnB (ha:=ha.h)⟩
def qhs {tA:TT3} {ta:TE3} {tb:TE3} {pos:Pos} {a:Expr} {b:Expr} {X:Cx} {c:Expr} (hc:jC3 X c tA) (ha:jE3 X a ta) (hb:jE3 X b tb):jE3 X (.IfExp c a b pos) (if3 tA ta tb):=
 ⟨qpS (hc:=hc.h) (ha:=ha.h) (hb:=hb.h)⟩
def qe {X:Cx} :jA3 X [] qk:=
 ⟨qok ⟩
def qa {te:TE3} {t:TA3} {es:List Expr} {X:Cx} (ha:jE3 X e te) (hr:jA3 X es t) (hs:starEach (e::es) X.env=(false,eval e X.env)::starEach es X.env:=by rfl):jA3 X (e::es) (qc te t):=
 ⟨qkT (ha:=ha.h) (hr:=hr.h) (hs:=hs)⟩
def qY {t:TA3} {pos:Pos} {es:List Expr} {X:Cx} {x1} (h:jA3 X es t):jE3 X (.Tuple es x1 pos) (jW t):=
 ⟨qnG (h:=h.h)⟩
def jp {t:TA3} {pos:Pos} {es:List Expr} {X:Cx} (h:jA3 X es t):jE3 X (.List es pos) (JH t):=
 ⟨qn8 (h:=h.h)⟩
def qB {t:TA3} {pos:Pos} {es:List Expr} {X:Cx} {x:Str} {p:Pos} {id:String} {r3:List T->Gp->Q3->Prop} {r:List V->Hp->VK->Prop} (hc:QL X (.builtin id) r) (hr:SS X.K r3 r) (hg:Gl X x) (hm:X.mg x=none) (hv:bootBuiltins x=some (.builtin id)) (ha:jA3 X (e::es) t) (hn:x≠"__name__" := by decide) (hdb:(x==("__debug__" : Str))=false:=by decide)
  (he:starEach (e::es) X.env=(false,eval e X.env)::starEach es X.env:=by rfl) (hpl:(backTo pos (starEach es X.env)).any (·.1)=false:=by rfl):jE3 X (.Call (.Name x p) (e::es) [] pos) (cb3 r3 t):=
 ⟨qgV (hc:=hc) (hr:=hr) (hg:=hg) (hm:=hm) (hv:=hv) (ha:=ha.h) (hn:=hn) (hdb:=hdb) (he:=he) (hpl:=hpl)⟩
def zO {t:TA3} {pos:Pos} {es:List Expr} {X:Cx} {x:Str} {p:Pos} {ty:String} {r3:List T->Gp->Q3->Prop} {r:List V->Hp->VK->Prop} (hc:QL X (.type ty) r) (hr:SS X.K r3 r) (hg:Gl X x) (hm:X.mg x=none) (hv:bootBuiltins x=some (.type ty)) (ha:jA3 X (e::es) t) (hn:x≠"__name__" := by decide) (hdb:(x==("__debug__" : Str))=false:=by decide)
  (he:starEach (e::es) X.env=(false,eval e X.env)::starEach es X.env:=by rfl) (hpl:(backTo pos (starEach es X.env)).any (·.1)=false:=by rfl):jE3 X (.Call (.Name x p) (e::es) [] pos) (cb3 r3 t):=
 ⟨qdn (hc:=hc) (hr:=hr) (hg:=hg) (hm:=hm) (hv:=hv) (ha:=ha.h) (hn:=hn) (hdb:=hdb) (he:=he) (hpl:=hpl)⟩
def qp {ta:TE3} {tb:TE3} {pos:Pos} {a:Expr} {b:Expr} {X:Cx} (ha:jE3 X a ta) (hb:jE3 X b tb) (hs:UN b:=by intro _ _;rfl):jE3 X (.Subscript a b pos) (o3 ix3 ta tb):=
 ⟨qpZ (ha:=ha.h) (hb:=hb.h) (hs:=hs)⟩
def SY {X:Cx} :jP3 X none np3:=
 ⟨qid ⟩
def Y8 {te:TE3} {e:Expr} {X:Cx} (h:jE3 X e te):jP3 X (some e) (sp3 te):=
 ⟨qiT (h:=h.h)⟩
def V8 {te:TE3} {pos:Pos} {e:Expr} {X:Cx} {lo hi:Option Expr} {tl th:TO3} {p2:Pos} (he:jE3 X e te) (hl:jP3 X lo tl) (hu:jP3 X hi th):jE3 X (.Subscript e (.Slice lo hi none p2) pos) (NM te tl th):=
 ⟨qgH (he:=he.h) (hl:=hl.h) (hu:=hu.h)⟩
def qD {ta:TE3} {tb:TE3} {pos:Pos} {a:Expr} {b:Expr} {X:Cx} (ha:jE3 X a ta) (hb:jE3 X b tb):jE3 X (.BinOp a .Add b pos) (o3 zK ta tb):=
 ⟨qja (ha:=ha.h) (hb:=hb.h)⟩
def qaw {t:TA3} {e:Expr} {X:Cx} {o:Expr} {to:TE3} {apos cpos:Pos} (ho:jE3 X o to) (ha:jA3 X [e] t)
  (hbase:attributeBase o "append" X.env (eval o X.env)=eval o X.env:=by rfl)
  (hfew:((backTo cpos (starEach [e] X.env)).all (λx=>!x.1)&&(backToKw cpos (keywordEach [] X.env)).all (λx=>x.1.isSome)
   && decide (([e]:List Expr).length+([]:List Keyword).length+(if ([]:List Keyword).isEmpty then 0 else 1)<30))=true:=by rfl)
  (hline:(apos.endLine==cpos.line)=true:=by rfl) (hs:starEach [e] X.env=(false,eval e X.env)::starEach [] X.env:=by rfl) (hplain:(backTo cpos (starEach [] X.env)).any (·.1)=false:=by rfl):jE3 X (.Call (.Attribute o "append" apos) [e] [] cpos) (bm3 qfq to t):=
 ⟨qcQ (ho:=ho.h) (ha:=ha.h) (hbase:=hbase) (hfew:=hfew) (hline:=hline) (hs:=hs) (hplain:=hplain)⟩
def SL {t:TA3} {e:Expr} {X:Cx} {o:Expr} {to:TE3} {apos cpos:Pos} (ho:jE3 X o to) (ha:jA3 X [e] t)
  (hbase:attributeBase o "extend" X.env (eval o X.env)=eval o X.env:=by rfl)
  (hfew:((backTo cpos (starEach [e] X.env)).all (λx=>!x.1)&&(backToKw cpos (keywordEach [] X.env)).all (λx=>x.1.isSome)
   && decide (([e]:List Expr).length+([]:List Keyword).length+(if ([]:List Keyword).isEmpty then 0 else 1)<30))=true:=by rfl)
  (hline:(apos.endLine==cpos.line)=true:=by rfl) (hs:starEach [e] X.env=(false,eval e X.env)::starEach [] X.env:=by rfl) (hplain:(backTo cpos (starEach [] X.env)).any (·.1)=false:=by rfl):jE3 X (.Call (.Attribute o "extend" apos) [e] [] cpos) (bm3 qcb to t):=
 ⟨qdq (ho:=ho.h) (ha:=ha.h) (hbase:=hbase) (hfew:=hfew) (hline:=hline) (hs:=hs) (hplain:=hplain)⟩
def QS {te:TE3} {pos:Pos} {e:Expr} {X:Cx} {tn:Str} {ty:String} {p p2:Pos} (he:jE3 X e te) (hg:Gl X "isinstance") (hm:X.mg "isinstance" = none) (hg2:Gl X tn) (hm2:X.mg tn=none) (hv:bootBuiltins tn=some (.type ty)) (hmem:ty∈QG:=by decide) (hn:tn≠"__name__" := by decide) (hdb:(tn==("__debug__" : Str))=false:=by decide)
  (hs:starEach [e,.Name tn p2] X.env=(false,eval e X.env)::starEach [.Name tn p2] X.env:=by rfl) (hs2:starEach [.Name tn p2] X.env=(false,eval (.Name tn p2) X.env)::starEach [] X.env:=by rfl) (hpl:(backTo pos (starEach [.Name tn p2] X.env)).any (·.1)=false:=by rfl):jE3 X (.Call (.Name "isinstance" p) [e,.Name tn p2] [] pos) (ER (λt=>QK t ty) te):=
 ⟨qoc (he:=he.h) (hg:=hg) (hm:=hm) (hg2:=hg2) (hm2:=hm2) (hv:=hv) (hmem:=hmem) (hn:=hn) (hdb:=hdb) (hs:=hs) (hs2:=hs2) (hpl:=hpl)⟩
def qaK {te:TE3} {pos:Pos} {e:Expr} {X:Cx} {tn tn':Str} {ty ty':String} {p p2 p3 p4:Pos} {x1} (he:jE3 X e te) (hg:Gl X "isinstance") (hm:X.mg "isinstance" = none) (hg2:Gl X tn) (hm2:X.mg tn=none) (hv:bootBuiltins tn=some (.type ty)) (hg3:Gl X tn') (hm3:X.mg tn'=none) (hv3:bootBuiltins tn'=some (.type ty'))
  (hmem:ty∈QG:=by decide) (hn:tn≠"__name__" := by decide) (hdb:(tn==("__debug__" : Str))=false:=by decide) (hmem3:ty'∈QG:=by decide) (hn3:tn'≠"__name__" := by decide) (hdb3:(tn'==("__debug__" : Str))=false:=by decide)
  (hs:starEach [e,.Tuple [.Name tn p2,.Name tn' p3] x1 p4] X.env=(false,eval e X.env)::starEach [.Tuple [.Name tn p2,.Name tn' p3] x1 p4] X.env:=by rfl) (hs2:starEach [.Tuple [.Name tn p2,.Name tn' p3] x1 p4] X.env=(false,eval (.Tuple [.Name tn p2,.Name tn' p3] x1 p4) X.env)::starEach [] X.env:=by rfl)
  (hs3:starEach [.Name tn p2,.Name tn' p3] X.env=(false,eval (.Name tn p2) X.env)::starEach [.Name tn' p3] X.env:=by rfl) (hs4:starEach [.Name tn' p3] X.env=(false,eval (.Name tn' p3) X.env)::starEach [] X.env:=by rfl)
  (hpl:(backTo pos (starEach [.Tuple [.Name tn p2,.Name tn' p3] x1 p4] X.env)).any (·.1)=false:=by rfl):jE3 X (.Call (.Name "isinstance" p) [e,.Tuple [.Name tn p2,.Name tn' p3] x1 p4] [] pos) (ER (λt=>QK t ty||QK t ty') te):=
 ⟨qh3 (he:=he.h) (hg:=hg) (hm:=hm) (hg2:=hg2) (hm2:=hm2) (hv:=hv) (hg3:=hg3) (hm3:=hm3) (hv3:=hv3) (hmem:=hmem) (hn:=hn) (hdb:=hdb) (hmem3:=hmem3) (hn3:=hn3) (hdb3:=hdb3) (hs:=hs) (hs2:=hs2) (hs3:=hs3) (hs4:=hs4) (hpl:=hpl)⟩
def qP {X:Cx} :jB3 X [] qL:=
 ⟨qnM ⟩
def qi {jw:List Stmt} {st:Stmt} {t1:TS3} {t2:TS3} {X:Cx} (h1:jS3 X st t1) (h2:jB3 X jw t2):jB3 X (st::jw) (qR t1 t2):=
 ⟨qiy (h1:=h1.h) (h2:=h2.h)⟩
def ql {st:Stmt} {t1:TS3} {X:Cx} (h1:jS3 X st t1):jB3 X [st] t1:=
 ⟨qov (h1:=h1.h)⟩
def TV {te:TE3} {pos:Pos} {e:Expr} {X:Cx} (he:jE3 X e te) (hs:swapsWith e none pos.line X.env=pure false:=by rfl):jS3 X (.Expr e pos) (WR te):=
 ⟨qlA (he:=he.h) (hs:=hs)⟩
def qo {te:TE3} {pos:Pos} {e:Expr} {X:Cx} (he:jE3 X e te):jS3 X (.Return (some e) pos) (qT te):=
 ⟨qos (he:=he.h)⟩
def zy {tA:TT3} {t1:TS3} {t2:TS3} {pos:Pos} {X:Cx} {c:Expr} {ba bb:List Stmt} (hc:jC3 X c tA) (ha:jB3 X ba t1) (hb:jB3 X bb t2):jS3 X (.If c ba bb pos) (zZ tA t1 t2):=
 ⟨qp2 (hc:=hc.h) (ha:=ha.h) (hb:=hb.h)⟩
def qcW {X:Cx} {sts:List Stmt}:jB3 X sts qhG:=
 ⟨qfS ⟩
def qN {pos:Pos} {X:Cx} {i:Nat} {x:Str} (hN:X.N.Nodup) (hi:X.N[i]?=some x:=by rfl) (hx:Loc X.env.scope x:=by first|exact Or.inl rfl|exact Or.inr rfl) (hf:X.fn x=true\/X.env.scope.names.lookup x=some .local:=by first|exact .inl rfl|exact .inr rfl):jG3 X (.Name x pos) (gn3 i):=
 ⟨qjK (hN:=hN) (hi:=hi) (hx:=hx) (hf:=hf)⟩
def jj {X:Cx} :jGs3 X [] jm:=
 ⟨qnU ⟩
def qt {es:List Expr} {X:Cx} {tg:TG3} {tgs:SQ} (h1:jG3 X e tg) (h2:jGs3 X es tgs) (hs:(assignEach (e::es) X.env).map (·.2)=assign e X.env::(assignEach es X.env).map (·.2):=by rfl):jGs3 X (e::es) (qx tg tgs):=
 ⟨qh6 (h1:=h1.h) (h2:=h2.h) (hs:=hs)⟩
def jf {pos:Pos} {es:List Expr} {X:Cx} {k:Nat} {tgs:SQ} {n:Nat} (hc:X.calm=true) (h:jGs3 X es tgs) (hn:(assignEach es X.env).length=n:=by rfl) (hst:(assignEach es X.env).findIdx? (·.1)=none:=by rfl):jG3 X (.Tuple es k pos) (jo n tgs):=
 ⟨qnD (hc:=hc) (h:=h.h) (hn:=hn) (hst:=hst)⟩
def qe4 {pos : Pos} {X : Cx} {o i : Expr} {to ti : TE3} (ho : jE3 X o to) (hi : jE3 X i ti) (ha : ∀ v,assign (.Subscript o i pos) X.env v = (do
      let ov←holding [v] (eval o X.env)
      let iv←holding [v,ov] (eval i X.env)
      standAt pos
      holding [v,ov,iv] (setItem ov iv v)
      release [v,ov,iv] []):=by intro _;rfl):jG3 X (.Subscript o i pos) (WE to ti):=
  ⟨qmZ (ho:=ho.h) (hi:=hi.h) (ha:=ha)⟩
def Y7 {te:TE3} {pos:Pos} {X:Cx} {tg e:Expr} {g:TG3} (he:jE3 X e te) (hg:jG3 X tg g) (hs:swapsWithSole [tg] e pos.line X.env=pure false:=by rfl) (hw:swappedStores [tg] e X.env=pure none:=by rfl)
  (h1:(assignEach [tg] X.env).map (·.2)=[assign tg X.env]:=by rfl):jS3 X (.Assign [tg] e pos) (zn te g):=
 ⟨qnR (he:=he.h) (hg:=hg.h) (hs:=hs) (hw:=hw) (h1:=h1)⟩
def zb {te:TE3} {pos:Pos} {X:Cx} (i:Nat) {x:Str} {e:Expr} {pos':Pos} (hN:X.N.Nodup) (he:jE3 X e te) (hi:X.N[i]?=some x:=by rfl) (hx:Loc X.env.scope x:=by first|exact Or.inl rfl|exact Or.inr rfl) (hs:swapsWith e (some (.Name x pos')) pos.line X.env=pure false:=by rfl) (hf:X.fn x=true\/X.env.scope.names.lookup x=some .local:=by first|exact .inl rfl|exact .inr rfl):jS3 X (.Assign [.Name x pos'] e pos) (zn te (gn3 i)):=
 ⟨qoJ (i:=i) (hN:=hN) (he:=he.h) (hi:=hi) (hx:=hx) (hs:=hs) (hf:=hf)⟩
def DR {pos:Pos} {X:Cx} {i j:Nat} {x y:Str} {a b:Expr} {tt:TA3} {px py pt:Pos} {kt k2 pt2} (hc:X.calm=true) (hN:X.N.Nodup) (hi:X.N[i]?=some x) (hj:X.N[j]?=some y) (hij:i≠j)
  (hx:X.env.scope.names.lookup x=some .local) (hy:X.env.scope.names.lookup y=some .local) (ha:jA3 X [a,b] tt)
  (hw:swappedStores [.Tuple [.Name x px,.Name y py] kt pt] (.Tuple [a,b] k2 pt2) X.env=pure (some [x,y]):=by rfl)
  (hs:swapsWithSole [.Tuple [.Name x px,.Name y py] kt pt] (.Tuple [a,b] k2 pt2) pos.line X.env=pure false:=by rfl):jS3 X (.Assign [.Tuple [.Name x px,.Name y py] kt pt] (.Tuple [a,b] k2 pt2) pos) (CC i j tt):=
 ⟨qna (hc:=hc) (hN:=hN) (hi:=hi) (hj:=hj) (hij:=hij) (hx:=hx) (hy:=hy) (ha:=ha.h) (hw:=hw) (hs:=hs)⟩
def Y5 {te:TE3} {X:Cx} {tg:Expr} {l:Expr} (hl:jE3 X l te):jI3 X tg l (VQ te):=
 ⟨qnX (hl:=hl.h)⟩
def zR {t:TA3} {pos:Pos} {a:Expr} {X:Cx} {tg:Expr} {p:Pos} (hg:Gl X "range") (hm:X.mg "range" = none) (ha:jA3 X [a] t) (hs:starEach [a] X.env=[(false,eval a X.env)]:=by rfl) (h1:∀ τ G q,t τ G q->t τ G λxs G=>q xs G/\xs.length=1):jI3 X tg (.Call (.Name "range" p) [a] [] pos) (QM t):=
 ⟨qcY (hg:=hg) (hm:=hm) (ha:=ha.h) (hs:=hs) (h1:=h1)⟩
def SC {t:TA3} {pos:Pos} {a:Expr} {b:Expr} {X:Cx} {tg:Expr} {p:Pos} (hg:Gl X "range") (hm:X.mg "range" = none) (ha:jA3 X [a,b] t) (hs:starEach [a,b] X.env=[(false,eval a X.env),(false,eval b X.env)]:=by rfl) (hs2:starEach [b] X.env=[(false,eval b X.env)]:=by rfl) (h1:∀ τ G q,t τ G q->t τ G λxs G=>q xs G/\xs.length=2):jI3 X tg (.Call (.Name "range" p) [a,b] [] pos) (QM t):=
 ⟨qdg (hg:=hg) (hm:=hm) (ha:=ha.h) (hs:=hs) (hs2:=hs2) (h1:=h1)⟩
def DG {pos:Pos} {X:Cx} {tg:Expr} {iter:Expr} {body:List Stmt} {wi:TI3} {g:TG3} {tb:TS3} (hp:PassesOwn (model X.prog X.w) X.A X.env X.xe) (hc:X.calm=true) (hi:jI3 X tg iter wi) (hg:jG3 X tg g) (hb:jB3 X body tb)
  (hs:∀ x,foldedSetIterable iter X.env x=pure x:=by intro _;rfl):jS3 X (.For tg iter body [] pos) (R0 wi g tb):=
 ⟨qnr (hp:=hp) (hc:=hc) (hi:=hi.h) (hg:=hg.h) (hb:=hb.h) (hs:=hs)⟩
def qcT {pos:Pos} {X:Cx} {c:Expr} {body:List Stmt} {tc:TT3} {tb:TS3} (hp:PassesOwn (model X.prog X.w) X.A X.env X.xe) (hc:jC3 X c tc) (hb:jB3 X body tb):jS3 X (.While c body [] pos) (K9 tc tb):=
 ⟨qgS (hp:=hp) (hc:=hc.h) (hb:=hb.h)⟩
def qh {t:TA3} {pos:Pos} {es:List Expr} {X:Cx} {k:Nat} {x:Str} {p:Pos} {sp:Sp3} (F:Fn3 X.prog X.w X.K X.mg X.base k x sp) (hr:Room k X.A) (hg:Gl X x) (ha:jA3 X (e::es) t) (hdb:(x==("__debug__" : Str))=false:=by decide)
  (he:starEach (e::es) X.env=(false,eval e X.env)::starEach es X.env:=by rfl) (hpl:(backTo pos (starEach es X.env)).any (·.1)=false:=by rfl):jE3 X (.Call (.Name x p) (e::es) [] pos) (cb3 sp t):=
 ⟨qkg (F:=F) (hr:=hr) (hg:=hg) (ha:=ha.h) (hdb:=hdb) (he:=he) (hpl:=hpl)⟩
def UC {X:Cx} {elt tg iter:Expr} {ifs:List Expr} {scope:Scope} {pos:Pos} (N':List Str) (m:List (Option Nat)) {wi:TI3} {g:TG3} {tif:TT3} {te:TE3} (hc:X.calm=true) (hi:jI3 X tg iter wi)
  (hg:∀ s H fp,jG3 (qg X N' scope s H fp) tg g) (hf:∀ s H fp,jF3 (qg X N' scope s H fp) ifs tif) (he:∀ s H fp,jE3 (qg X N' scope s H fp) elt te)
  (hsc:SV X.env.scope scope=true) (hcap:ZX X.N N' scope m=true) (hs:∀ x,foldedSetIterable iter X.env x=pure x:=by intro _;rfl):jE3 X (.ListComp elt [⟨tg,iter,ifs,0⟩] scope pos) (lc3 wi g tif te m):=
 ⟨qp0 (N':=N') (m:=m) (hc:=hc) (hi:=hi.h) (hg:=(λs H fp=>(hg s H fp).h)) (hf:=(λs H fp=>(hf s H fp).h)) (he:=(λs H fp=>(he s H fp).h)) (hsc:=hsc) (hcap:=hcap) (hs:=hs)⟩
def jq {X:Cx}:jF3 X [] tt3:=
 ⟨qoy ⟩
def qmb {X:Cx} {c:Expr} {t:TT3} (h:jC3 X c t):jF3 X [c] t:=
 ⟨qnK (h:=h.h)⟩
def qbn {t:TA3} {pos:Pos} {es:List Expr} {a:Expr} {b:Expr} {X:Cx} {p pt:Pos} {k1:Nat} (hg:Gl X "zip") (hm:X.mg "zip" = none) (ha:jA3 X [a,b] t) (hs:starEach [a,b] X.env=[(false,eval a X.env),(false,eval b X.env)]:=by rfl) (hs2:starEach [b] X.env=[(false,eval b X.env)]:=by rfl):jI3 X (.Tuple es k1 pt) (.Call (.Name "zip" p) [a,b] [] pos) (KG t):=
 ⟨qoH (hg:=hg) (hm:=hm) (ha:=ha.h) (hs:=hs) (hs2:=hs2)⟩
def qgU {t:TA3} {pos:Pos} {es:List Expr} {a:Expr} {X:Cx} {p pt:Pos} {k1:Nat} (hg:Gl X "enumerate") (hm:X.mg "enumerate" = none) (ha:jA3 X [a] t) (hs:starEach [a] X.env=[(false,eval a X.env)]:=by rfl):jI3 X (.Tuple es k1 pt) (.Call (.Name "enumerate" p) [a] [] pos) (L7 t):=
 ⟨qjB (hg:=hg) (hm:=hm) (ha:=ha.h) (hs:=hs)⟩
def qc6 {X:Cx} {py spos:Pos} {elt tg iter:Expr} {ifs:List Expr} {scope:Scope} {pos:Pos} {y:Str} (i:Nat) (N':List Str) (m:List (Option Nat)) {wi:TI3} {g:TG3} {tif:TT3} {te:TE3} (hc:X.calm=true) (hN:X.N.Nodup) (hi:jI3 X tg iter wi)
  (hg:∀ s H fp,jG3 (qg X N' scope s H fp) tg g) (hf:∀ s H fp,jF3 (qg X N' scope s H fp) ifs tif) (he:∀ s H fp,jE3 (qg X N' scope s H fp) elt te)
  (hsc:SV X.env.scope scope=true) (hcap:ZX X.N N' scope m=true) (hl:X.env.scope.names.lookup y=some .local) (hsw:swapsWith (.ListComp elt [⟨tg,iter,ifs,0⟩] scope pos) (some (.Name y py)) spos.line X.env=pure true) (hiy:X.N[i]?=some y:=by rfl) (hs:∀ x,foldedSetIterable iter X.env x=pure x:=by intro _;rfl):jS3 X (.Assign [.Name y py] (.ListComp elt [⟨tg,iter,ifs,0⟩] scope pos) spos) (zn (lc3 wi g tif te m) (gn3 i)):=
 ⟨qgi (i:=i) (N':=N') (m:=m) (hc:=hc) (hN:=hN) (hi:=hi.h) (hg:=(λs H fp=>(hg s H fp).h)) (hf:=(λs H fp=>(hf s H fp).h)) (he:=(λs H fp=>(he s H fp).h)) (hsc:=hsc) (hcap:=hcap) (hl:=hl) (hsw:=hsw) (hiy:=hiy) (hs:=hs)⟩
def jpt {X:Cx} {e:Expr} {t:TT3} (h:jW3 X e t):jC3 X e t:=⟨PW.pt h.h⟩
def qH {P:Program} {w:World} {K:Frg} {mg:Str->Option Value} {base:Heap} {x qual:Str} {st:Stmt} {f:Addr} {fd:FuncData} {N ps:List Str} {k:Nat} {sp:Sp3} {t3:TS3} (F:Fun K x qual st f fd) (S:FnScope N ps (qj st)) (bd:zh K fd ps []) (hm:mg x=some (.ref f))
  (body:∀ (cdv:Value) (A:Around) (outer:List Env) (s:Shared) (H:Hp) (E:XK),Room k (A.deeper (envOfC qual (qj st) s.heap.objs.size f cdv)) ->
   jB3 (qca CX0 P w K mg base N qual (qj st) f cdv A outer s H E).nox (z9 st) t3)
  (read:∀ ts G q,sp ts G q->ts.length=ps.length/\t3 { nx:=λ_ G'=>q .non G',rt:=q } (qr N ts) G):Fn3 P w K mg base (k+1) x sp:=
 ql9 F S bd hm (λcdv A outer s H E hr=>(body cdv A outer s H E hr).h) read
def qcN {P:Program} {w:World} {K:Frg} {mg:Str->Option Value} {base:Heap} {x qual:Str} {st:Stmt} {f:Addr} {fd:FuncData} {N ps:List Str} {k:Nat} {sp:Sp3} {t3:TS3} (F:Fun K x qual st f fd) (S:FnScope N ps (qj st))
  (body:∀ (cdv:Value) (A:Around) (outer:List Env) (s:Shared) (H:Hp) (E:XK),Room k (A.deeper (envOfC qual (qj st) s.heap.objs.size f cdv)) ->
   jB3 (qca CX0 P w K mg base N qual (qj st) f cdv A outer s H E).nox (z9 st) t3)
  (read:∀ ts G q,sp ts G q->ts.length=ps.length/\t3 { nx:=λ_ G'=>q .non G',rt:=q } (qr N ts) G):FnOk P w K mg base CX0 (k+1) f fd ps (lSp K sp):=
 qfP F S (λcdv A outer s H E hr=>(body cdv A outer s H E hr).h) read
open PySem.SeqAt
def Ex (G G':Gp):Prop:=∀ b o,G b=some o->G' b=some o
def Ex.refl {G:Gp}:Ex G G:=λ_ _ e=>e
def Ex.trans {G G1 G2:Gp} (a:Ex G G1) (b:Ex G1 G2):Ex G G2:=λx o e=>b x o (a x o e)
def V3 {G:Gp} {p:Addr} {o:O} (hp:G p=none):Ex G (gu G p o):=λb ob e=>by
 rw [jK (by rintro rfl;rw [hp] at e;cases e)];exact e
mutual
inductive Dp (G:Gp):T->PyData->Prop
 |non:Dp G .non .none
 |bl (b:Bool):Dp G (.bl b) (.bool b)
 |int (i:Int):Dp G (.int i) (.int i)
 |str (x:Str):Dp G (.str x) (.str x)
 |tup {xs:List T} {ds:List PyData}:Dps G xs ds->Dp G (.tup xs) (.tuple ds)
 |lst {p:Addr} {xs:List T} {ds:List PyData}:getL G p=some xs->Dps G xs ds->Dp G (.ref p) (.list ds)
inductive Dps (G:Gp):List T->List PyData->Prop
 |nil:Dps G [] []
 |cons {x:T} {d:PyData} {xs:List T} {ds:List PyData}:Dp G x d->Dps G xs ds->Dps G (x::xs) (d::ds)
end
def Ex.getL {G G':Gp} (e:Ex G G') {p:Addr} {xs:List T} (h:getL G p=some xs):getL G' p=some xs:=by
 unfold L3.getL at h ⊢;split at h
 ·rename_i ys g;cases h;rw [e _ _ g]
 ·rename_i ys g;cases h;rw [e _ _ g]
 ·cases h
mutual
def Dp.up {G G':Gp} (e:Ex G G'):∀ {x:T} {d:PyData},Dp G x d->Dp G' x d
 |_,_,.non=>.non
 |_,_,.bl b=>.bl b
 |_,_,.int i=>.int i
 |_,_,.str x=>.str x
 |_,_,.tup h=>.tup (Dps.up e h)
 |_,_,.lst h1 h2=>.lst (e.getL h1) (Dps.up e h2)
def Dps.up {G G':Gp} (e:Ex G G'):∀ {x:List T} {d:List PyData},Dps G x d->Dps G' x d
 |_,_,.nil=>.nil
 |_,_,.cons a b=>.cons (Dp.up e a) (Dps.up e b)
end
def Dps.length {G:Gp}:∀ {xs:List T} {ds:List PyData},Dps G xs ds->xs.length=ds.length
 |_,_,.nil=>rfl
 |_,_,.cons _ b=>by simp [Dps.length b]
def Dps.get {G:Gp}:∀ {xs:List T} {ds:List PyData} {i:Nat} {x:T},Dps G xs ds->xs[i]?=some x->∃ d,ds[i]?=some d/\Dp G x d
 |_,_,_,_,.nil,e=>by simp at e
 |_,_,0,_,.cons r _,e=>by simp at e;subst e;exact ⟨_,rfl,r⟩
 |_,_,i+1,x,.cons _ t,e=>by
  obtain ⟨u,h1,h2⟩:=Dps.get (i:=i) (x:=x) t (by simpa using e);exact ⟨u,by simpa using h1,h2⟩
mutual
inductive DV (K:Frg) (H:Hp):V->PyData->Prop
 |non:DV K H .non .none
 |bl (b:Bool):DV K H (.bl b) (.bool b)
 |int (i:Int):DV K H (.int i) (.int i)
 |str (x:Str):DV K H (.str x) (.str x)
 |tup {a:Addr} {vs:List V} {ds:List PyData}:SqT K H a vs->DVs K H vs ds->DV K H (.ref a) (.tuple ds)
 |lst {a:Addr} {vs:List V} {ds:List PyData}:SqL K H a vs->DVs K H vs ds->DV K H (.ref a) (.list ds)
inductive DVs (K:Frg) (H:Hp):List V->List PyData->Prop
 |nil:DVs K H [] []
 |cons {x:V} {d:PyData} {xs:List V} {ds:List PyData}:DV K H x d->DVs K H xs ds->DVs K H (x::xs) (d::ds)
end
mutual
def Dp.dv {K:Frg} {G:Gp} {H:Hp} (hr:HR K G H):∀ {x:T} {d:PyData} {v:V},Dp G x d->Rp K H x v->DV K H v d
 |_,_,_,.non,.non=>.non
 |_,_,_,.bl b,.bl _=>.bl b
 |_,_,_,.int i,.int _=>.int i
 |_,_,_,.str x,.str _=>.str x
 |_,_,_,.tup h,.tup hs rs=>.tup hs (Dps.dv hr h rs)
 |_,_,_,.lst g h,r=>by
  cases r;obtain ⟨_,hs,rs⟩:=zu hr g;exact .lst hs (Dps.dv hr h rs)
def Dps.dv {K:Frg} {G:Gp} {H:Hp} (hr:HR K G H):∀ {x:List T} {d:List PyData} {v:List V},Dps G x d->Rps K H x v->DVs K H v d
 |_,_,_,.nil,.nil=>.nil
 |_,_,_,.cons a b,.cons c d=>.cons (Dp.dv hr a c) (Dps.dv hr b d)
end
mutual
def ZI:PyData->PyData->Option Bool
 |.none,.none=>some true
 |.bool a,.bool b=>some (a==b)
 |.int a,.int b=>some (a==b)
 |.str a,.str b=>some (a==b)
 |.list xs,.list ys=>VZ xs ys
 |.tuple xs,.tuple ys=>VZ xs ys
 |_,_=>none
def VZ:List PyData->List PyData->Option Bool
 |[],[]=>some true
 |x::xs,y::ys=>match ZI x y,VZ xs ys with|some a,some b=>some (a&&b)|_,_=>none
 |_,_=>some false
end
mutual
def dpt:PyData->Nat
 |.list xs=>qhF xs+1
 |.tuple xs=>qhF xs+1
 |_=>0
def qhF:List PyData->Nat
 |[]=>0
 |x::xs=>max (dpt x) (qhF xs)
end
section
variable {X:Cx} {pins:List (Addr×Obj)} {σ:L2.St} {H:Hp} {s:Shared}
mutual
def DV.inj (I:Inv X pins σ H s):∀ {v:V} {d e:PyData},DV X.K H v d->DV X.K H v e->d=e
 |_,_,_,.non,.non=>rfl
 |_,_,_,.bl _,.bl _=>rfl
 |_,_,_,.int _,.int _=>rfl
 |_,_,_,.str _,.str _=>rfl
 |_,_,_,.tup h hs,.tup k ks=>by
  have:=I.tuple_inj h k;subst this;rw [DVs.inj I hs ks]
 |_,_,_,.lst h hs,.lst k ks=>by
  have:=I.list_inj h k;subst this;rw [DVs.inj I hs ks]
 |_,_,_,.tup h hs,.lst k ks=>by
  obtain ⟨i1,_,p1,_⟩:=I.tuple h;obtain ⟨i2,_,p2,_⟩:=I.list k;exact absurd rfl (ne_of_list_tuple p2.isList (show s.heap.IsTuple _ i1.toArray from p1))
 |_,_,_,.lst k ks,.tup h hs=>by
  obtain ⟨i1,_,p1,_⟩:=I.tuple h;obtain ⟨i2,_,p2,_⟩:=I.list k;exact absurd rfl (ne_of_list_tuple p2.isList (show s.heap.IsTuple _ i1.toArray from p1))
def DVs.inj (I:Inv X pins σ H s):∀ {v:List V} {d e:List PyData},DVs X.K H v d->DVs X.K H v e->d=e
 |_,_,_,.nil,.nil=>rfl
 |_,_,_,.cons a b,.cons c d=>by rw [DV.inj I a c,DVs.inj I b d]
end
mutual
def RI:∀ {d:PyData} {b:Bool},ZI d d=some b->b=true
 |.none,_,h=>by simp [ZI] at h;exact h
 |.bool _,_,h=>by simp [ZI] at h;exact h
 |.int _,_,h=>by simp [ZI] at h;exact h
 |.str _,_,h=>by simp [ZI] at h;exact h
 |.list xs,_,h=>by simp only [ZI] at h;exact UL h
 |.tuple xs,_,h=>by simp only [ZI] at h;exact UL h
 |.dict _,_,h=>by simp [ZI] at h
def UL:∀ {d:List PyData} {b:Bool},VZ d d=some b->b=true
 |[],_,h=>by simp [VZ] at h;exact h
 |x::xs,b,h=>by
  simp only [VZ] at h;split at h
  ·rename_i a c e1 e2;rw [RI e1,UL e2] at h;simpa using h.symm
  ·cases h
end
def JP:∀ {xs ys:List PyData} {b:Bool},VZ xs ys=some b->xs.length=ys.length->∃ e:Nat->Bool,(∀ (j:Nat) x y,xs[j]?=some x->ys[j]?=some y->ZI x y=some (e j))/\b=(List.range xs.length).all e
 |[],[],b,h,_=>by simp [VZ] at h;exact ⟨λ_=>true,by simp,by simp [h]⟩
 |x::xs,y::ys,b,h,hl=>by
  simp only [VZ] at h;split at h
  ·rename_i a c e1 e2;obtain ⟨e,h1,h2⟩:=JP e2 (by simpa using hl);refine ⟨λj=>match j with|0=>a|j+1=>e j,λj u v hu hv=>?_,?_⟩
   ·cases j with
    |zero=>simp at hu hv;subst hu;subst hv;exact e1
    |succ j=>exact h1 j u v (by simpa using hu) (by simpa using hv)
   ·rw [length_cons,List.range_succ_eq_map,List.all_cons,List.all_map];cases h;rw [h2];rfl
  ·cases h
 |[],_::_,_,_,hl=>by simp at hl
 |_::_,[],_,_,hl=>by simp at hl
def JN:∀ {xs ys:List PyData} {b:Bool},VZ xs ys=some b->xs.length≠ys.length->b=false/\∃ e:Nat->Bool,∀ (j:Nat) x y,xs[j]?=some x->ys[j]?=some y->ZI x y=some (e j)
 |[],[],_,_,hl=>by simp at hl
 |[],_::_,b,h,_=>by simp [VZ] at h;exact ⟨h,λ_=>true,by simp⟩
 |_::_,[],b,h,_=>by simp [VZ] at h;exact ⟨h,λ_=>true,by simp⟩
 |x::xs,y::ys,b,h,hl=>by
  simp only [VZ] at h;split at h
  ·rename_i a c e1 e2;obtain ⟨h0,e,h1⟩:=JN e2 (by simpa using hl);subst h0;refine ⟨by simpa using h.symm,λj=>match j with|0=>a|j+1=>e j,λj u v hu hv=>?_⟩;cases j with
   |zero=>simp at hu hv;subst hu;subst hv;exact e1
   |succ j=>exact h1 j u v (by simpa using hu) (by simpa using hv)
  ·cases h
def VW:∀ {xs:List PyData} {x:PyData},x∈xs->dpt x<=qhF xs
 |[],_,h=>by simp at h
 |y::ys,x,h=>by
  simp only [qhF];rcases mem_cons.mp h with e|e
  ·subst e;omega
  ·have:=VW e;omega
def DVs.get {K:Frg} {H:Hp}:∀ {xs:List V} {ds:List PyData} {i:Nat} {x:V},DVs K H xs ds->xs[i]?=some x->∃ d,ds[i]?=some d/\DV K H x d
 |_,_,_,_,.nil,e=>by simp at e
 |_,_,0,_,.cons r _,e=>by simp at e;subst e;exact ⟨_,rfl,r⟩
 |_,_,i+1,x,.cons _ t,e=>by
  obtain ⟨u,h1,h2⟩:=DVs.get (i:=i) (x:=x) t (by simpa using e);exact ⟨u,by simpa using h1,h2⟩
def DVs.length {K:Frg} {H:Hp}:∀ {xs:List V} {ds:List PyData},DVs K H xs ds->xs.length=ds.length
 |_,_,.nil=>rfl
 |_,_,.cons _ b=>by simp [DVs.length b]
def JY {vs:List V} {us:List Value} (r:zI vs us) {j:Nat} (h:j<us.toArray.size):∃ v,vs[j]?=some v/\ja v us.toArray[j]:=by
 have hj:j<vs.length:=by rw [r.length];simpa using h
 obtain ⟨u,hu,ru⟩:=r.get (getElem?_eq_getElem hj);refine ⟨vs[j],getElem?_eq_getElem hj,?_⟩;have hj2:j<us.length:=by simpa using h
 rw [getElem?_eq_getElem hj2] at hu;have:us[j]=u:=Option.some.inj hu;simpa [this] using ru
def CU (I:Inv X pins σ H s):∀ (n:Nat) {v u:V} {d e:PyData} {b:Bool} {x y:Value} {A:Around},DV X.K H v d->DV X.K H u e->ZI d e=some b->dpt d<=n->A.units+n<cLine->ja v x->ja u y ->
  RcAt A s x y b/\EqAt A s x y b:=by
 intro n;induction n with
 |zero=>
  intro v u d e b x y A hv hu h hd hn rx ry;cases hv with
  |non=>cases hu<;>simp [ZI] at h;subst h;cases (show x=Value.none from rx);cases (show y=Value.none from ry);exact ⟨RcAt.none_none,EqAt.same _⟩
  |bl a=>cases hu<;>simp [ZI] at h;subst h;cases (show x=Value.bool _ from rx);cases (show y=Value.bool _ from ry);exact ⟨RcAt.bool_bool _ _,EqAt.bool_bool _ _⟩
  |int a=>cases hu<;>simp [ZI] at h;subst h;obtain ⟨t,rfl⟩:=(show ∃ t,x=Value.int _ t from rx);obtain ⟨t',rfl⟩:=(show ∃ t,y=Value.int _ t from ry);exact ⟨RcAt.int_int _ _ _ _,EqAt.int_int _ _ _ _⟩
  |str a=>cases hu<;>simp [ZI] at h;subst h;obtain ⟨t,rfl⟩:=(show ∃ t,x=Value.str _ t from rx);obtain ⟨t',rfl⟩:=(show ∃ t,y=Value.str _ t from ry);exact ⟨RcAt.str_str _ _ _ _,EqAt.str_str _ _ _ _⟩
  |tup=>simp [dpt] at hd
  |lst=>simp [dpt] at hd
 |succ n ih=>
  intro v u d e b x y A hv hu h hd hn rx ry;have fin:∀ {l l':Addr} {k:Bool},x=.ref l->y=.ref l'->v=.ref l->u=.ref l'->b=k->RcAt A s x y k->RcAt A s x y b/\EqAt A s x y b:=by
   rintro l l' k rfl rfl rfl rfl rfl rc;refine ⟨rc,?_⟩;by_cases hll:l=l'
   ·subst hll;have:=DV.inj I hv hu;subst this;rw [RI h];exact EqAt.same _
   ·exact EqAt.of_refs hll rc
  cases hv with
  |non=>cases hu<;>simp [ZI] at h;subst h;cases (show x=Value.none from rx);cases (show y=Value.none from ry);exact ⟨RcAt.none_none,EqAt.same _⟩
  |bl a=>cases hu<;>simp [ZI] at h;subst h;cases (show x=Value.bool _ from rx);cases (show y=Value.bool _ from ry);exact ⟨RcAt.bool_bool _ _,EqAt.bool_bool _ _⟩
  |int a=>cases hu<;>simp [ZI] at h;subst h;obtain ⟨t,rfl⟩:=(show ∃ t,x=Value.int _ t from rx);obtain ⟨t',rfl⟩:=(show ∃ t,y=Value.int _ t from ry);exact ⟨RcAt.int_int _ _ _ _,EqAt.int_int _ _ _ _⟩
  |str a=>cases hu<;>simp [ZI] at h;subst h;obtain ⟨t,rfl⟩:=(show ∃ t,x=Value.str _ t from rx);obtain ⟨t',rfl⟩:=(show ∃ t,y=Value.str _ t from ry);exact ⟨RcAt.str_str _ _ _ _,EqAt.str_str _ _ _ _⟩
  |tup hq hs=>
   cases hu with
   |tup kq ks=>
    rename_i a1 vs1 ds1 a2 vs2 ds2;simp only [ZI] at h;obtain ⟨i1,r1,p1,z1⟩:=I.tuple hq;obtain ⟨i2,r2,p2,z2⟩:=I.tuple kq;have l1:=hs.length;have l2:=ks.length;have m1:=r1.length;have m2:=r2.length;have el:∀ (e:Nat->Bool),(∀ (j:Nat) x y,ds1[j]?=some x->ds2[j]?=some y->ZI x y=some (e j))->∀ j (h1:j<i1.toArray.size) (h2:j<i2.toArray.size),EqAt A.in1 s i1.toArray[j] i2.toArray[j] (e j):=λe he j h1 h2=>by
     obtain ⟨w1,g1,q1⟩:=JY r1 h1;obtain ⟨w2,g2,q2⟩:=JY r2 h2;obtain ⟨d1,f1,dv1⟩:=hs.get g1;obtain ⟨d2,f2,dv2⟩:=ks.get g2;have:=VW (mem_of_getElem? f1);exact (ih dv1 dv2 (he j d1 d2 f1 f2) (by simp only [dpt] at hd;omega) (show A.units+1+n<cLine by omega) q1 q2).2
    cases (show x=Value.ref a1 from rx);cases (show y=Value.ref a2 from ry);by_cases hl:ds1.length=ds2.length
    ·obtain ⟨e,he,hb⟩:=JP h hl;refine fin rfl rfl rfl rfl (k:=(List.range (min i1.toArray.size i2.toArray.size)).all e&&i1.toArray.size==i2.toArray.size) ?_ (RcAt.tuples (show s.heap.IsTuple a1 i1.toArray from p1) (show s.heap.IsTuple a2 i2.toArray from p2) (by omega) (el e he));have e1:i1.toArray.size=ds1.length:=by rw [size_toArray];omega
     have e2:i2.toArray.size=ds1.length:=by rw [size_toArray];omega
     rw [e1,e2,hb];simp
    ·obtain ⟨hb,e,he⟩:=JN h hl;refine fin rfl rfl rfl rfl (k:=(List.range (min i1.toArray.size i2.toArray.size)).all e&&i1.toArray.size==i2.toArray.size) ?_ (RcAt.tuples (show s.heap.IsTuple a1 i1.toArray from p1) (show s.heap.IsTuple a2 i2.toArray from p2) (by omega) (el e he));have e1:i1.toArray.size≠i2.toArray.size:=by rw [size_toArray,size_toArray];omega
     rw [hb];simp [e1];intro;omega
   |_=>simp [ZI] at h
  |lst hq hs=>
   cases hu with
   |lst kq ks=>
    rename_i a1 vs1 ds1 a2 vs2 ds2;simp only [ZI] at h;obtain ⟨i1,r1,p1,z1⟩:=I.list hq;obtain ⟨i2,r2,p2,z2⟩:=I.list kq;have l1:=hs.length;have l2:=ks.length;have m1:=r1.length;have m2:=r2.length;have el:∀ (e:Nat->Bool),(∀ (j:Nat) x y,ds1[j]?=some x->ds2[j]?=some y->ZI x y=some (e j))->∀ j (h1:j<i1.toArray.size) (h2:j<i2.toArray.size),EqAt A.in1 s i1.toArray[j] i2.toArray[j] (e j):=λe he j h1 h2=>by
     obtain ⟨w1,g1,q1⟩:=JY r1 h1;obtain ⟨w2,g2,q2⟩:=JY r2 h2;obtain ⟨d1,f1,dv1⟩:=hs.get g1;obtain ⟨d2,f2,dv2⟩:=ks.get g2;have:=VW (mem_of_getElem? f1);exact (ih dv1 dv2 (he j d1 d2 f1 f2) (by simp only [dpt] at hd;omega) (show A.units+1+n<cLine by omega) q1 q2).2
    cases (show x=Value.ref a1 from rx);cases (show y=Value.ref a2 from ry);by_cases hl:ds1.length=ds2.length
    ·obtain ⟨e,he,hb⟩:=JP h hl;refine fin rfl rfl rfl rfl (k:=(List.range i1.toArray.size).all e) ?_ (RcAt.lists p1.isList p2.isList (by rw [size_toArray,size_toArray];omega) (by omega) (el e he));have e1:i1.toArray.size=ds1.length:=by rw [size_toArray];omega
     rw [e1,hb]
    ·obtain ⟨hb,e,he⟩:=JN h hl;refine fin rfl rfl rfl rfl (k:=false) hb (RcAt.lists_lengths p1.isList p2.isList (by rw [size_toArray,size_toArray];simp;omega) (by omega))
   |_=>simp [ZI] at h
def qfM (I:Inv X pins σ H s) {n:Nat} {v u:V} {d e:PyData} {b:Bool} {x y:Value} {A:Around} (hv:DV X.K H v d) (hu:DV X.K H u e) (h:ZI d e=some b) (hd:dpt d<=n+1) (hn:A.units+(n+1)<cLine) (rx:ja v x) (ry:ja u y) (hs:dpt d≠0):RcNeAt A s x y (!b):=by
 cases hv with
 |tup hq hs'=>
  cases hu with
  |tup kq ks=>
   rename_i a1 vs1 ds1 a2 vs2 ds2;simp only [ZI] at h;obtain ⟨i1,r1,p1,z1⟩:=I.tuple hq;obtain ⟨i2,r2,p2,z2⟩:=I.tuple kq;have l1:=hs'.length;have l2:=ks.length;have m1:=r1.length;have m2:=r2.length;have el:∀ (e:Nat->Bool),(∀ (j:Nat) x y,ds1[j]?=some x->ds2[j]?=some y->ZI x y=some (e j))->∀ j (h1:j<i1.toArray.size) (h2:j<i2.toArray.size),EqAt A.in1 s i1.toArray[j] i2.toArray[j] (e j):=λe he j h1 h2=>by
    obtain ⟨w1,g1,q1⟩:=JY r1 h1;obtain ⟨w2,g2,q2⟩:=JY r2 h2;obtain ⟨d1,f1,dv1⟩:=hs'.get g1;obtain ⟨d2,f2,dv2⟩:=ks.get g2;have:=VW (mem_of_getElem? f1);exact (CU I n dv1 dv2 (he j d1 d2 f1 f2) (by simp only [dpt] at hd;omega) (show A.units+1+n<cLine by omega) q1 q2).2
   cases (show x=Value.ref a1 from rx);cases (show y=Value.ref a2 from ry);by_cases hl:ds1.length=ds2.length
   ·obtain ⟨e,he,hb⟩:=JP h hl;have:=RcNeAt.tuples (show s.heap.IsTuple a1 i1.toArray from p1) (show s.heap.IsTuple a2 i2.toArray from p2) (A:=A) (by omega) (el e he);have e1:i1.toArray.size=ds1.length:=by rw [size_toArray];omega
    have e2:i2.toArray.size=ds1.length:=by rw [size_toArray];omega
    rw [e1,e2] at this;rw [hb];simpa using this
   ·obtain ⟨hb,e,he⟩:=JN h hl;have:=RcNeAt.tuples (show s.heap.IsTuple a1 i1.toArray from p1) (show s.heap.IsTuple a2 i2.toArray from p2) (A:=A) (by omega) (el e he);have e1:(i1.toArray.size==i2.toArray.size)=false:=by rw [size_toArray,size_toArray];simp;omega
    rw [e1] at this;rw [hb];simpa using this
  |_=>simp [ZI] at h
 |lst hq hs'=>
  cases hu with
  |lst kq ks=>
   rename_i a1 vs1 ds1 a2 vs2 ds2;simp only [ZI] at h;obtain ⟨i1,r1,p1,z1⟩:=I.list hq;obtain ⟨i2,r2,p2,z2⟩:=I.list kq;have l1:=hs'.length;have l2:=ks.length;have m1:=r1.length;have m2:=r2.length;have el:∀ (e:Nat->Bool),(∀ (j:Nat) x y,ds1[j]?=some x->ds2[j]?=some y->ZI x y=some (e j))->∀ j (h1:j<i1.toArray.size) (h2:j<i2.toArray.size),EqAt A.in1 s i1.toArray[j] i2.toArray[j] (e j):=λe he j h1 h2=>by
    obtain ⟨w1,g1,q1⟩:=JY r1 h1;obtain ⟨w2,g2,q2⟩:=JY r2 h2;obtain ⟨d1,f1,dv1⟩:=hs'.get g1;obtain ⟨d2,f2,dv2⟩:=ks.get g2;have:=VW (mem_of_getElem? f1);exact (CU I n dv1 dv2 (he j d1 d2 f1 f2) (by simp only [dpt] at hd;omega) (show A.units+1+n<cLine by omega) q1 q2).2
   cases (show x=Value.ref a1 from rx);cases (show y=Value.ref a2 from ry);by_cases hl:ds1.length=ds2.length
   ·obtain ⟨e,he,hb⟩:=JP h hl;have:=RcNeAt.lists p1.isList p2.isList (A:=A) (by rw [size_toArray,size_toArray];omega) (by omega) (el e he);have e1:i1.toArray.size=ds1.length:=by rw [size_toArray];omega
    rw [e1] at this;rw [hb];exact this
   ·obtain ⟨hb,e,he⟩:=JN h hl;rw [hb];exact RcNeAt.lists_lengths p1.isList p2.isList (by rw [size_toArray,size_toArray];simp;omega) (by omega)
  |_=>simp [ZI] at h
 |_=>simp [dpt] at hs
def qhO (K:Frg) (neg:Bool):R2:=λx y H Q=>∃ d e b,DV K H x d/\DV K H y e/\ZI d e=some b/\dpt d<=40/\dpt d≠0/\Q (.bl (if neg then !b else b)) H
def qhV (hu:X.A.units+64<cLine):OpR X (compareOp .Eq) (qhO X.K false):=by
 intro pins s σ H x y v u Q I rx ry h;obtain ⟨d,e,b,hx,hy,hb,hd,_,q⟩:=h;exact (CU I 40 hx hy hb hd (by omega) rx ry).1 X.prog X.w X.xe _ ⟨.bl b,H,I,rfl,q⟩
def qlr (hu:X.A.units+64<cLine):OpR X (compareOp .NotEq) (qhO X.K true):=by
 intro pins s σ H x y v u Q I rx ry h;obtain ⟨d,e,b,hx,hy,hb,hd,hs,q⟩:=h;exact qfM I (n:=40) hx hy hb (by omega) (by omega) rx ry hs X.prog X.w X.xe _ ⟨.bl (!b),H,I,rfl,q⟩
end
def zS (neg:Bool):R3:=λx y G q=>match Z0 x y with
 |some k=>q (.bl (if neg then !k else k)) G
 |none=>∃ d e b,Dp G x d/\Dp G y e/\ZI d e=some b/\dpt d<=40/\dpt d≠0/\q (.bl (if neg then !b else b)) G
def qA {K:Frg}:SU K (zS false) (λx y H Q=>rEq x y H Q\/qhO K false x y H Q):=λx y v u G H q Q hr rx ry h af=>by
 unfold zS at h;split at h
 ·rename_i k e;obtain ⟨h1,h2⟩:=MF rx ry e;refine .inl ⟨h1,?_⟩;rw [h2];exact af _ G h _ H (.bl _) hr Kp.refl
 ·obtain ⟨d,e,b,h1,h2,h3,h4,h5,h6⟩:=h;exact .inr ⟨d,e,b,h1.dv hr rx,h2.dv hr ry,h3,h4,h5,af _ G h6 _ H (.bl _) hr Kp.refl⟩
def VB {K:Frg}:SU K (zS true) (λx y H Q=>rNe x y H Q\/qhO K true x y H Q):=λx y v u G H q Q hr rx ry h af=>by
 unfold zS at h;split at h
 ·rename_i k e;obtain ⟨h1,h2⟩:=MF rx ry e;refine .inl ⟨h1,?_⟩;rw [h2];exact af _ G h _ H (.bl _) hr Kp.refl
 ·obtain ⟨d,e,b,h1,h2,h3,h4,h5,h6⟩:=h;exact .inr ⟨d,e,b,h1.dv hr rx,h2.dv hr ry,h3,h4,h5,af _ G h6 _ H (.bl _) hr Kp.refl⟩
def qQ {X:Cx} (hu:X.A.units+64<cLine):OpR X (compareOp .Eq) (λx y H Q=>rEq x y H Q\/qhO X.K false x y H Q):=qmI.or (qhV hu)
def DB {X:Cx} (hu:X.A.units+64<cLine):OpR X (compareOp .NotEq) (λx y H Q=>rNe x y H Q\/qhO X.K true x y H Q):=qnm.or (qlr hu)
end L3
namespace L3
open PySem PySem.Spec PyProof.Rows L2
section
variable {X:Cx} {pins:List (Addr×Obj)} {σ:L2.St} {H:Hp} {s:Shared}
mutual
def DV.reads (I:Inv X pins σ H s):∀ {v:V} {d:PyData} {x:Value},DV X.K H v d->ja v x->∃ as,Reads s.heap x d as
 |_,_,x,.non,r=>by cases (show x=Value.none from r);exact ⟨_,.none⟩
 |_,_,x,.bl b,r=>by cases (show x=Value.bool b from r);exact ⟨_,.bool b⟩
 |_,_,x,.int i,r=>by obtain ⟨t,rfl⟩:=(show ∃ t,x=Value.int i t from r);exact ⟨_,.int i t⟩
 |_,_,x,.str y,r=>by obtain ⟨t,rfl⟩:=(show ∃ t,x=Value.str y t from r);exact ⟨_,.str y t⟩
 |_,_,x,.tup (a:=a) h hs,r=>by
  cases (show x=Value.ref a from r);obtain ⟨its,rv,⟨o,h1,h2,n,h3⟩,_⟩:=I.tuple h;obtain ⟨as,ra⟩:=DVs.reads I hs rv;exact ⟨as,.tuple h1 h2 h3 (by simpa using ra)⟩
 |_,_,x,.lst (a:=a) h hs,r=>by
  cases (show x=Value.ref a from r);obtain ⟨its,rv,p,_⟩:=I.list h;obtain ⟨o,h1,h2,n,h3⟩:=p.isList;obtain ⟨as,ra⟩:=DVs.reads I hs rv;exact ⟨a::as,.list h1 h2 h3 (by simpa using ra)⟩
def DVs.reads (I:Inv X pins σ H s):∀ {v:List V} {d:List PyData} {x:List Value},DVs X.K H v d->zI v x->∃ as,ReadsAll s.heap x d as
 |_,_,_,.nil,.nil=>⟨_,.nil⟩
 |_,_,_,.cons a b,.cons c d=>by
  obtain ⟨as,r1⟩:=DV.reads I a c;obtain ⟨bs,r2⟩:=DVs.reads I b d;exact ⟨_,.cons r1 r2⟩
end
structure ShOk (d:PyData):Prop where
 sh:d.showable=true
 nd:d.hasDict=false
 dp:d.depth<=40
 lv:d.leavesShort 13=true
 bk:d.bulk<=2 ^ 20
end
section
variable {X:Cx}
end
section
variable {prog:Program} {w:World} {A:Around} {R:Result->Shared->Prop} {s:Shared}
def UD (elt t1 i1 t2 i2:Expr) (f1 f2:List Expr) (scope:Scope) (pos:Pos) (it acc:Value) (env:Env) :
  compTurn (.ListComp elt [⟨t1,i1,f1,0⟩,⟨t2,i2,f2,0⟩] scope pos) 0 it acc env=(do
   standAt i1.pos
   match←pyNext it with
   |none=>pure (.done .next)
   |some v=>
    letOwnedTupleGo t1 it v
    assign t1 env v
    let mut ok:=true
    for c in f1 do
     if ok then ok←isTrue c env (eval c env)
    if ok then
     let x←eval i2 env
     standAt i2.pos
     let x←foldedSetIterable i2 env x
     let _←runOwn (.compStart (.ListComp elt [⟨t1,i1,f1,0⟩,⟨t2,i2,f2,0⟩] scope pos) 1 (← holding [x] (pyIter x)) acc env) env
    again (.compLoop (.ListComp elt [⟨t1,i1,f1,0⟩,⟨t2,i2,f2,0⟩] scope pos) 0 it acc env)):=by rfl
def C0 (elt t1 i1 t2 i2:Expr) (f1 f2:List Expr) (scope:Scope) (pos:Pos) (it acc:Value) (env:Env) :
  compTurn (.ListComp elt [⟨t1,i1,f1,0⟩,⟨t2,i2,f2,0⟩] scope pos) 1 it acc env=(do
   standAt i2.pos
   match←pyNext it with
   |none=>pure (.done .next)
   |some v=>
    letOwnedTupleGo t2 it v
    assign t2 env v
    let mut ok:=true
    for c in f2 do
     if ok then ok←isTrue c env (eval c env)
    if ok then
     (do let _←call (.builtin "list.append") [acc,← eval elt env])
    again (.compLoop (.ListComp elt [⟨t1,i1,f1,0⟩,⟨t2,i2,f2,0⟩] scope pos) 1 it acc env)):=by rfl
def JJ {elt t1 i1 t2 i2:Expr} {f1 f2:List Expr} {scope:Scope} {pos:Pos} {it acc:Value} {env:Env}
  (h0:codeAny (model prog w) A (.compLoop (.ListComp elt [⟨t1,i1,f1,0⟩,⟨t2,i2,f2,0⟩] scope pos) 1 it acc env) R s)
  (h:wpAny (model prog w) A (pyIter it) (λit' s'=>codeAny (model prog w) A (.compLoop (.ListComp elt [⟨t1,i1,f1,0⟩,⟨t2,i2,f2,0⟩] scope pos) 1 it' acc env) R s')
   (notedBy (model prog w) A env λx s'=>R (.error x) s') s) :
  codeAny (model prog w) A (.compStart (.ListComp elt [⟨t1,i1,f1,0⟩,⟨t2,i2,f2,0⟩] scope pos) 1 it acc env) R s:=by
 refine codeAny_of_tree ?_;show wpAny _ _ ((compStart (.ListComp elt [⟨t1,i1,f1,0⟩,⟨t2,i2,f2,0⟩] scope pos) 1 it acc env).onRaise (λx=>do noteFrame x env;standAt theWindowsPlace)) _ _ s;refine wpAny_notedAt ?_;unfold compStart;show wpAny _ _ (ask >>= _) _ _ s;refine wpAny_bind (wpAny_askSetting (wpAny_ite ?_));split
 ·first
   |exact wpAny_bind (wpAny_pure (wpAny_pure (And.intro rfl h0)))
   |exact wpAny_pure (And.intro rfl h0)
 ·first
   |exact wpAny_bind (wpAny_rule (wpAny_bind (wpAny_standAt (wpAny_bind (wpAny_mono h (λit' s' h'=>wpAny_pure (And.intro rfl h')) λ_ _ x=>x)))))
   | (refine wpAny_bind (wpAny_rule ?_);show wpAny _ _ (standAt i2.pos >>= _) _ _ s;exact wpAny_bind (wpAny_standAt (wpAny_bind (wpAny_mono h (λit' s' h'=>wpAny_pure (And.intro rfl h')) λ_ _ x=>x))))
end
def tIn (wi:TI) (g:TG) (tif:TT) (te:TE) (D:Addr) (N:L2.St->Hp->Prop) (σ:L2.St) (H:Hp):Prop:=wi σ H λJ H1=>
 ∃ W:Nat->Nat->L2.St->Hp->Prop,(∃ n,W 0 n σ H1)/\∀ i n σ H,W i n σ H ->
  (J.stop i H/\N σ H)\/(J.go i H/\∀ x H',J.yld i H x H'->g x σ H' λσ2 H2=>tif σ2 H2 λk H3=>
   if k=true then te σ2 H3 λy H4=>∃ zs,H4 D=some (.lst zs)/\zs.length<sizeLine/\∃ n',n'<n/\W (i+1) n' σ2 (upd H4 D (.lst (zs++[y])))
   else ∃ n',n'<n/\W (i+1) n' σ2 H3)
section
variable {X:Cx}
def qdZ {elt t1 i1 t2 i2:Expr} {f1 f2:List Expr} {scope:Scope} {pos:Pos} {wi:TI} {g:TG} {tif:TT} {te:TE} {D:Addr} {N:L2.St->Hp->Prop} (hc:X.calm=true) (hx:∀ v s,¬ X.xe v s) (hi:PI X t2 i2 wi) (hg:PG X t2 g) (hf:PF X f2 tif) (he:PE X elt te)
    (hs:∀ x,foldedSetIterable i2 X.env x=pure x) {pins:List (Addr×Obj)} {s:Shared} {σ:L2.St} {H:Hp} {E:Value->Shared->Prop} {α:Type} {kk:Sem α} {Q:α->Shared->Prop} (I:Inv X pins σ H s) (h:tIn wi g tif te D N σ H) (hk:∀ s' σ' H',Inv X pins σ' H' s'->N σ' H'->wpAny (model X.prog X.w) X.A kk Q E s') :
    wpAny (model X.prog X.w) X.A (do
            let x←eval i2 X.env
            standAt i2.pos
            let x←foldedSetIterable i2 X.env x
            let _←runOwn (.compStart (.ListComp elt [⟨t1,i1,f1,0⟩,⟨t2,i2,f2,0⟩] scope pos) 1 (← holding [x] (pyIter x)) (.ref D) X.env) X.env
            kk) Q E s:=by
  refine wpAny_bind (wpAny_mono (hi pins s σ H _ I h) (λv s1 h1=>?_) λ_ _ z=>(hx _ _ z).elim);refine wpAny_bind (wpAny_standAt (wpAny_bind (wpAny_of_eq (hs v) ?_)));refine wpAny_bind (wpAny_holding (wpAny_mono h1 (λitv s2 h2=>?_) λ_ _ z=>(hx _ _ z).elim));obtain ⟨it,fp,tn,J,H2,rfl,I2,T,st2,f2',W,⟨n0,w0⟩,turn⟩:=h2;have stat:∀ {H':Hp},(∀ b∈fp,H' b=none)->∀ b∈fp,WK X pins H' b:=λhn b hb=>⟨hn b hb,(f2' b hb).2⟩
  refine wpAny_bind (wpAny_runOwn ?_);show codeAny (model X.prog X.w) X.A (.compStart (.ListComp elt [⟨t1,i1,f1,0⟩,⟨t2,i2,f2,0⟩] scope pos) 1 (.ref it) (.ref D) X.env) _ s2;have loop:codeAny (model X.prog X.w) X.A (.compLoop (.ListComp elt [⟨t1,i1,f1,0⟩,⟨t2,i2,f2,0⟩] scope pos) 1 (.ref it) (.ref D) X.env) (λr s'=>match r with
      |.ok f=>wpAny (model X.prog X.w) X.A kk Q E s'
      |.error e=>cameBackBy (model X.prog X.w) X.A X.env E e s') s2:=by
    refine codeAny_loop rfl (λn s'=>∃ i σ' H',Inv X pins σ' H' s'/\tn i s'.heap/\(∀ b∈fp,H' b=none)/\W i n σ' H') (λn s' hI=>?_) n0 ⟨0,σ,H2,I2,st2,λb hb=>(f2' b hb).1,w0⟩;show wpAny _ X.A ((compTurn (.ListComp elt [⟨t1,i1,f1,0⟩,⟨t2,i2,f2,0⟩] scope pos) 1 (.ref it) (.ref D) X.env).onRaise (λx=>do noteFrame x X.env;theTreesLotGoes x)) _ _ s';refine wpAny_noted ?_;rw [C0];refine wpAny_bind (wpAny_standAt (wpAny_bind ?_));obtain ⟨i,σ5,H5,I5,st5,fr5,w5⟩:=hI;rcases turn i n σ5 H5 w5 with ⟨stop,q⟩|⟨go,step⟩
    · refine thn (T.done X rfl rfl rfl hc i pins s' σ5 H5 _ I5 (stat fr5) st5 stop) λr s6 ⟨hr,I6⟩=>?_;subst hr;exact wpAny_pure (hk _ σ5 H5 I6 q)
    · refine thn (T.item X rfl rfl rfl hc i pins s' σ5 H5 _ I5 (stat fr5) st5 go) λr s6 ⟨u,hr,h6⟩=>?_;subst hr;refine wpAny_bind (thn h6 λ_ s7 ⟨x,H7,I7,r7,y7,st7,fr7⟩=>?_);have I7':=I7.pinned (stat fr7) (T.obj _ _ st7);have again:∀ {σ8:L2.St} {H8:Hp} {s8:Shared},Inv X (pins++VS fp s7.heap) σ8 H8 s8->(∃ n',n'<n/\W (i+1) n' σ8 H8) ->
          ∃ m',m'<n/\∃ i σ' H',Inv X pins σ' H' s8/\tn i s8.heap/\(∀ b∈fp,H' b=none)/\W i m' σ' H':=λ{σ8 H8 s8} I8 ⟨n',hn,w8⟩=>by
        refine ⟨n',hn,i+1,σ8,H8,I8.unpinned,T.keep _ _ _ st7 λb hb o e=>(I8.pin (b,o) (mem_append_right _ (mem_append_right _ (q0 hb e)))).1,λb hb=>?_,w8⟩;obtain ⟨o,e,d⟩:=T.obj _ _ st7 b hb;exact (I8.pin (b,o) (mem_append_right _ (mem_append_right _ (q0 hb e)))).2.1
      refine wpAny_bind (wpAny_mono (hg _ s7 σ5 H7 x u _ I7' r7 (step x H7 y7)) (λ_ s8 ⟨σ8,H8,I8,q8⟩=>?_) λ_ _ z=>(hx _ _ z).elim);refine wpAny_bind (wpAny_mono (hf _ s8 σ8 H8 _ I8 q8) (λk s9 ⟨H9,I9,q9⟩=>?_) λ_ _ z=>(hx _ _ z).elim);cases k with
      |false=>
        rw [if_neg Bool.false_ne_true] at q9;exact wpAny_pure ⟨rfl,again I9 q9⟩
      |true=>
        rw [if_pos rfl] at q9;refine wpAny_bind (wpAny_bind (wpAny_mono (he _ s9 σ8 H9 _ I9 q9) (λw s10 ⟨y,H10,I10,r10,q10⟩=>?_) λ_ _ z=>(hx _ _ z).elim));obtain ⟨zs,hz,hl,q10⟩:=q10;refine wpAny_bind (wpAny_mono (VY (X:=X) _ s10 σ8 H10 (.ref D) [y] (.ref D) [w] (λ_ H11=>H11=upd H10 D (.lst (zs++[y]))) I10 rfl (.cons r10 .nil) ⟨D,zs,y,rfl,rfl,hz,hl,rfl⟩) (λ_ s11 ⟨_,H11,I11,_,e11⟩=>?_) λ_ _ z=>(hx _ _ z).elim);subst e11;exact wpAny_pure (wpAny_pure ⟨rfl,again I11 q10⟩)
  exact JJ loop (T.self X.A 0 _ _ _ st2 loop)
def qn9 (wi:TI) (g:TG) (tif:TT) (wi2:TI) (g2:TG) (tif2:TT) (te:TE) (m:List (Option Nat)):TE:=λσ H Q=>wi σ H λJ H1=>∀ D,H1 D=none ->
 ∃ W:Nat->Nat->L2.St->Hp->Prop,(∃ n,W 0 n (cap m σ) (upd H1 D (.lst [])))/\∀ i n σ H,W i n σ H ->
  (J.stop i H/\Q (.ref D) H)\/(J.go i H/\∀ x H',J.yld i H x H'->g x σ H' λσ2 H2=>tif σ2 H2 λk H3=>
   if k=true then tIn wi2 g2 tif2 te D (λσ4 H4=>∃ n',n'<n/\W (i+1) n' σ4 H4) σ2 H3
   else ∃ n',n'<n/\W (i+1) n' σ2 H3)
def qkF {elt tg iter t2 i2:Expr} {ifs f2:List Expr} {scope:Scope} {pos:Pos} {N':List Str} {m:List (Option Nat)} {wi:TI} {g:TG} {tif:TT} {wi2:TI} {g2:TG} {tif2:TT} {te:TE} (hc:X.calm=true) (hi:PI X tg iter wi)
  (hg:∀ s H fp,PG (qg X N' scope s H fp) tg g) (hf:∀ s H fp,PF (qg X N' scope s H fp) ifs tif) (hi2:∀ s H fp,PI (qg X N' scope s H fp) t2 i2 wi2) (hg2:∀ s H fp,PG (qg X N' scope s H fp) t2 g2) (hf2:∀ s H fp,PF (qg X N' scope s H fp) f2 tif2) (he:∀ s H fp,PE (qg X N' scope s H fp) elt te)
  (hsc:SV X.env.scope scope=true) (hcap:ZX X.N N' scope m=true) (hs:∀ x,foldedSetIterable iter X.env x=pure x:=by intro _;rfl) (hs2:∀ s H fp x,foldedSetIterable i2 (qg X N' scope s H fp).env x=pure x:=by intro _ _ _ _;rfl) :
  PE X (.ListComp elt [⟨tg,iter,ifs,0⟩,⟨t2,i2,f2,0⟩] scope pos) (qn9 wi g tif wi2 g2 tif2 te m):=by
 intro pins s σ H Q I h;have sc:=YZ hsc;have hcl:∀ y∈scope.names,y.2=.free->∃ c,X.env.cells.lookup y.1=some c:=λy hy e=>by
  rcases (sc.free y hy e).2 with z|z
  ·exact I.ok.has y.1 (.inl z)
  ·exact I.ok.has y.1 (.inr z)
 rw [eval_ListComp];refine wpAny_comprehension_free (use:=none) (g:=⟨tg,iter,ifs,0⟩) (gs:=[⟨t2,i2,f2,0⟩]) rfl hs (jN hcl) sc.kind sc.loc ?_;show wpAny _ _ (eval iter X.env) _ _ s;refine thn (hi pins s σ H _ I h) λv s1 h1=>thn h1 λitv s2 h2=>?_;obtain ⟨it,fp,tn,J,H2,rfl,I2,T,st2,fF2,hW⟩:=h2;refine wpAny_newObj_type ?_;have hD:H2 s2.heap.objs.size=none:=I2.fresh;obtain ⟨W,⟨n0,w0⟩,turn⟩:=hW _ hD;generalize hDe:s2.heap.objs.size=D at *;have I3:Inv X pins σ (upd H2 D (.lst [])) { s2 with heap:=s2.heap.push { cls:=.type "list",dict:=none,data:=.seq ([]:List Value).toArray } }:=by
  subst hDe;exact I2.laid (t':=s2.toks) (λb u e=>Heap.get?_push_of_some _ e) (Nat.le_refl _) ⟨Nat.zero_le _,[],0,.nil,Heap.get?_push_size _ rfl⟩
 have ob2:=T.obj 0 _ st2;have ob3:∀ b∈fp,∃ o,(s2.heap.push { cls:=.type "list",dict:=none,data:=.seq ([]:List Value).toArray }).get? b=some o:=λb hb=>let ⟨o,e,_⟩:=ob2 b hb;⟨o,Heap.get?_push_of_some _ e⟩
 have f3:∀ b∈fp,WK X pins (upd H2 D (.lst [])) b:=λb hb=>by
  obtain ⟨o,e,_⟩:=ob2 b hb;have:b≠D:=by rw [← hDe];exact Nat.ne_of_lt (Heap.lt_size e)
  exact ⟨by rw [qC this];exact (fF2 b hb).1,(fF2 b hb).2⟩
 have k23:∀ b o,s2.heap.get? b=some o->(s2.heap.push { cls:=.type "list",dict:=none,data:=.seq ([]:List Value).toArray }).get? b=some o:=λb o e=>Heap.get?_push_of_some _ e;generalize hH3:upd H2 D (.lst [])=H3 at *;generalize hs3:({ s2 with heap:=s2.heap.push { cls:=.type "list",dict:=none,data:=.seq ([]:List Value).toArray } }:Shared)=s3 at *;have ob3:∀ b∈fp,∃ o,s3.heap.get? b=some o:=by rw [← hs3];exact ob3
 have k23:∀ b o,s2.heap.get? b=some o->s3.heap.get? b=some o:=by rw [← hs3];exact k23
 refine zT λh₁ hns hk hown=>?_;have I4:Inv (qg X N' scope s3 H3 fp) [] (cap m σ) H3 { s3 with heap:=h₁ }:=E8 hc I3 sc hcap f3 ob3 hns hk hown;have tn4:tn 0 h₁:=T.keep _ _ _ st2 λb hb o e=>hk b o (k23 b o e);have fr4:∀ b∈fp,H3 b=none:=λb hb=>(f3 b hb).1;have stat:∀ {H':Hp},(∀ b∈fp,H' b=none)->∀ b∈fp,WK (qg X N' scope s3 H3 fp) [] H' b:=λhn b hb=>by
  refine ⟨hn b hb,I4.ok.exf b hb |>.1,I4.ok.exfs b hb,.inl hb,λx c e=>(I4.ok.exf b hb).2 x c e,λp hp=>absurd (show p∈([]:List (Addr×Obj)) from hp) (by simp)⟩
 show codeAny (model X.prog X.w) X.A (.compStart (.ListComp elt [⟨tg,iter,ifs,0⟩,⟨t2,i2,f2,0⟩] scope pos) 0 (.ref it) (.ref D) (qg X N' scope s3 H3 fp).env) (compPost (model X.prog X.w) X.A X.xe none (EP X pins σ Q) (.ref D) s3.heap.objs.size) { s3 with heap:=h₁ };have loop:codeAny (model X.prog X.w) X.A (.compLoop (.ListComp elt [⟨tg,iter,ifs,0⟩,⟨t2,i2,f2,0⟩] scope pos) 0 (.ref it) (.ref D) (qg X N' scope s3 H3 fp).env) (compPost (model X.prog X.w) X.A X.xe none (EP X pins σ Q) (.ref D) s3.heap.objs.size) { s3 with heap:=h₁ }:=by
  refine codeAny_loop rfl (λn s'=>∃ i σ' H',Inv (qg X N' scope s3 H3 fp) [] σ' H' s'/\tn i s'.heap/\(∀ b∈fp,H' b=none)/\W i n σ' H') (λn s' hI=>?_) n0 ⟨0,cap m σ,H3,I4,tn4,fr4,w0⟩;show wpAny _ X.A ((compTurn (.ListComp elt [⟨tg,iter,ifs,0⟩,⟨t2,i2,f2,0⟩] scope pos) 0 (.ref it) (.ref D) (qg X N' scope s3 H3 fp).env).onRaise (λx=>do noteFrame x (qg X N' scope s3 H3 fp).env;theTreesLotGoes x)) _ _ s';refine wpAny_noted ?_;rw [UD];refine wpAny_bind (wpAny_standAt (wpAny_bind ?_));obtain ⟨i,σ5,H5,I5,st5,fr5,w5⟩:=hI;rcases turn i n σ5 H5 w5 with ⟨stop,q⟩|⟨go,step⟩
  ·refine thn (T.done (qg X N' scope s3 H3 fp) rfl rfl rfl rfl i [] s' σ5 H5 _ I5 (stat fr5) st5 stop) λr s6 ⟨hr,I6⟩=>?_;subst hr;refine wpAny_pure ?_;obtain ⟨mm,hn6,_⟩:=I6.loc;exact ⟨mm,hn6,λh' sb=>⟨.ref D,H5,YR I3 f3 I6 sb,rfl,q⟩⟩
  ·refine thn (T.item (qg X N' scope s3 H3 fp) rfl rfl rfl rfl i [] s' σ5 H5 _ I5 (stat fr5) st5 go) λr s6 ⟨u,hr,h6⟩=>?_;subst hr;refine wpAny_bind (thn h6 λ_ s7 ⟨x,H7,I7,r7,y7,st7,fr7⟩=>?_);have I7':=I7.pinned (stat fr7) (T.obj _ _ st7);have again:∀ {σ8:L2.St} {H8:Hp} {s8:Shared},Inv (qg X N' scope s3 H3 fp) ([]++VS fp s7.heap) σ8 H8 s8->(∃ n',n'<n/\W (i+1) n' σ8 H8) ->
     ∃ m',m'<n/\∃ i σ' H',Inv (qg X N' scope s3 H3 fp) [] σ' H' s8/\tn i s8.heap/\(∀ b∈fp,H' b=none)/\W i m' σ' H':=λ{σ8 H8 s8} I8 ⟨n',hn,w8⟩=>by
    refine ⟨n',hn,i+1,σ8,H8,I8.unpinned,T.keep _ _ _ st7 λb hb o e=>(I8.pin (b,o) (mem_append_right _ (mem_append_right _ (q0 hb e)))).1,λb hb=>?_,w8⟩;obtain ⟨o,e,d⟩:=T.obj _ _ st7 b hb;exact (I8.pin (b,o) (mem_append_right _ (mem_append_right _ (q0 hb e)))).2.1
   refine wpAny_bind (wpAny_mono (hg s3 H3 fp _ s7 σ5 H7 x u _ I7' r7 (step x H7 y7)) (λ_ s8 ⟨σ8,H8,I8,q8⟩=>?_) λ_ _ z=>z.elim);refine wpAny_bind (wpAny_mono (hf s3 H3 fp _ s8 σ8 H8 _ I8 q8) (λk s9 ⟨H9,I9,q9⟩=>?_) λ_ _ z=>z.elim);cases k with
   |false=>
    rw [if_neg Bool.false_ne_true] at q9;exact wpAny_pure ⟨rfl,again I9 q9⟩
   |true=>
    rw [if_pos rfl] at q9;refine qdZ (X:=qg X N' scope s3 H3 fp) rfl (λ_ _ z=>z) (hi2 s3 H3 fp) (hg2 s3 H3 fp) (hf2 s3 H3 fp) (he s3 H3 fp) (hs2 s3 H3 fp) I9 q9 λs10 σ10 H10 I10 q10=>?_;exact wpAny_pure ⟨rfl,again I10 q10⟩
 exact codeAny_compStart_list loop (T.self X.A 0 _ _ _ tn4 loop)
end
def qhN (D:Addr) (stay:Gp->Prop) (g:TG3) (tif:TT3) (te:TE3) (N:St3->Gp->Prop):List T->St3->Gp->Prop
 |[],τ,G=>stay G/\N τ G
 |x::r,τ,G=>stay G/\g x τ G λτ2 G2=>tif τ2 G2 λk G3=>
  if k=true then te τ2 G3 λy G4=>(match G4 D with|some (.lst ys)=>ys.length<sizeLine/\qhN D stay g tif te N r τ2 (gu G4 D (.lst (ys++[y])))|_=>False) else qhN D stay g tif te N r τ2 G3
def MV (D:Addr) (stay:Gp->Prop) (g:TG3) (tif:TT3) (wi2:TI3) (g2:TG3) (tif2:TT3) (te:TE3) (q:Q3):List T->St3->Gp->Prop
 |[],_,G=>stay G/\q (.ref D) G
 |x::r,τ,G=>stay G/\g x τ G λτ2 G2=>tif τ2 G2 λk G3=>
  if k=true then wi2 τ2 G3 λitems2 stay2 G4=>qhN D stay2 g2 tif2 te (λτ' G'=>MV D stay g tif wi2 g2 tif2 te q r τ' G') items2 τ2 G4 else MV D stay g tif wi2 g2 tif2 te q r τ2 G3
def qfi (wi:TI3) (g:TG3) (tif:TT3) (wi2:TI3) (g2:TG3) (tif2:TT3) (te:TE3) (m:List (Option Nat)):TE3:=λτ G q=>wi τ G λitems stay G1=>∀ D,G1 D=none->MV D stay g tif wi2 g2 tif2 te q items (cap m τ) (gu G1 D (.lst []))
section
variable {K:Frg}
def qaa {wi2:TI3} {g2:TG3} {tif2:TT3} {te:TE3} {D:Addr} {N3:St3->Gp->Prop} {N:L2.St->Hp->Prop} {τ:St3} {G:Gp} {σ:L2.St} {H:Hp} {Gb:Gp} {Hb:Hp} (rl:Rel K τ G σ H) (kb:Kp Gb Hb G H) (h:wi2 τ G λitems stay G1=>qhN D stay g2 tif2 te N3 items τ G1)
  (hN:∀ τ' G' σ' H',Rel K τ' G' σ' H'->Kp Gb Hb G' H'->N3 τ' G'->N σ' H'):tIn (lI K wi2) (lG K g2) (lT K tif2) (lE K te) D N σ H:=by
 refine ⟨τ,G,_,rl,h,λitems stay G1 h1 J H1 hr1 k1 ok=>?_⟩;refine ⟨λi n σ' H'=>n=items.length-i/\i<=items.length/\∃ τ' G',Rel K τ' G' σ' H'/\Kp G1 H1 G' H'/\qhN D stay g2 tif2 te N3 (items.drop i) τ' G',⟨_,rfl,Nat.zero_le _,τ,G1,rl.next hr1 k1,Kp.refl,by simpa using h1⟩,?_⟩;rintro i n σ' H' ⟨rfl,hi,τ',G',rl',k',h'⟩;by_cases hlt:i<items.length
 ·rw [List.drop_eq_getElem_cons hlt] at h';obtain ⟨hst,h'⟩:=h';obtain ⟨go,yld,_⟩:=ok G' H' rl'.hp k' hst;have hx:items[i]?=some items[i]:=getElem?_eq_getElem hlt;refine .inr ⟨go i _ hx,λv H2 y=>?_⟩;obtain ⟨rv,hr2,k2⟩:=yld i _ v H2 hx y;refine ⟨_,τ',G',_,rv,rl'.next hr2 k2,h',λτ3 G3 h3 σ3 H3 rl3 k3=>⟨τ3,G3,_,rl3,h3,λk G4 h4 H4 hr4 k4=>?_⟩⟩;have kk:=(k2.trans k3).trans k4;cases k with
  |false=>
   rw [if_neg Bool.false_ne_true] at h4;refine qjp ?_;exact ⟨_,by omega,rfl,hlt,τ3,G4,rl3.next hr4 k4,k'.trans kk,h4⟩
  |true=>
   rw [if_pos rfl] at h4;refine qhX ?_;refine ⟨τ3,G4,_,rl3.next hr4 k4,h4,λz G5 h5 w H5 rw5 hr5 k5=>?_⟩;split at h5
   ·rename_i ys e1;obtain ⟨vs,g1,r1⟩:=hr5.lst e1;exact ⟨vs,g1,by rw [← r1.length];exact h5.1,_,by omega,rfl,hlt,τ3,_,((rl3.next hr4 k4).next hr5 k5).next (hr5.wr e1 (r1.append (.cons rw5 .nil))) (Kp.wr e1),((k'.trans kk).trans k5).trans (Kp.wr e1),h5.2⟩
   ·exact h5.elim
 ·have e:i=items.length:=by omega
  subst e;rw [List.drop_length] at h';obtain ⟨_,_,stop⟩:=ok G' H' rl'.hp k' h'.1;exact .inl ⟨stop,hN _ _ _ _ rl' ((kb.trans k1).trans k') h'.2⟩
end
section
variable {X:Cx}
def qnd {elt tg iter t2 i2:Expr} {ifs f2:List Expr} {scope:Scope} {pos:Pos} (N':List Str) (m:List (Option Nat)) {wi:TI3} {g:TG3} {tif:TT3} {wi2:TI3} {g2:TG3} {tif2:TT3} {te:TE3} (hc:X.calm=true) (hi:I3 X tg iter wi)
  (hg:∀ s H fp,G3 (qg X N' scope s H fp) tg g) (hf:∀ s H fp,F3 (qg X N' scope s H fp) ifs tif) (hi2:∀ s H fp,I3 (qg X N' scope s H fp) t2 i2 wi2) (hg2:∀ s H fp,G3 (qg X N' scope s H fp) t2 g2) (hf2:∀ s H fp,F3 (qg X N' scope s H fp) f2 tif2) (he:∀ s H fp,E3 (qg X N' scope s H fp) elt te)
  (hsc:SV X.env.scope scope=true) (hcap:ZX X.N N' scope m=true) (hs:∀ x,foldedSetIterable iter X.env x=pure x:=by intro _;rfl) (hs2:∀ s H fp x,foldedSetIterable i2 (qg X N' scope s H fp).env x=pure x:=by intro _ _ _ _;rfl) :
  E3 X (.ListComp elt [⟨tg,iter,ifs,0⟩,⟨t2,i2,f2,0⟩] scope pos) (qfi wi g tif wi2 g2 tif2 te m):=
 EM (qkF (g:=lG X.K g) (tif:=lT X.K tif) (wi2:=lI X.K wi2) (g2:=lG X.K g2) (tif2:=lT X.K tif2) (te:=lE X.K te) hc hi hg hf hi2 hg2 hf2 he hsc hcap hs hs2) λσ H Q ⟨τ,G,q,rl,h,af⟩=>by
  refine ⟨τ,G,_,rl,h,λitems stay G1 h1 J H1 hr1 k1 ok D hD=>?_⟩;have gD:G1 D=none:=hr1.free hD;have h1:=h1 D gD;have hr1':HR X.K (gu G1 D (.lst [])) (upd H1 D (.lst [])):=HR.newL hr1 hD .nil;have k1':Kp G1 H1 (gu G1 D (.lst [])) (upd H1 D (.lst [])):=Kp.newL hD;refine ⟨λi n σ' H'=>n=items.length-i/\i<=items.length/\∃ τ' G',Rel X.K τ' G' σ' H'/\Kp G1 H1 G' H'/\MV D stay g tif wi2 g2 tif2 te q (items.drop i) τ' G',
   ⟨_,rfl,Nat.zero_le _,cap m τ,_,((rl.next hr1 k1).cap m).next hr1' k1',k1',by simpa using h1⟩,?_⟩
  rintro i n σ' H' ⟨rfl,hi,τ',G',rl',k',h'⟩;by_cases hlt:i<items.length
  ·rw [List.drop_eq_getElem_cons hlt] at h';obtain ⟨hst,h'⟩:=h';obtain ⟨go,yld,_⟩:=ok G' H' rl'.hp k' hst;have hx:items[i]?=some items[i]:=getElem?_eq_getElem hlt;refine .inr ⟨go i _ hx,λv H2 y=>?_⟩;obtain ⟨rv,hr2,k2⟩:=yld i _ v H2 hx y;refine ⟨_,τ',G',_,rv,rl'.next hr2 k2,h',λτ3 G3 h3 σ3 H3 rl3 k3=>⟨τ3,G3,_,rl3,h3,λk G4 h4 H4 hr4 k4=>?_⟩⟩;have kk:=(k2.trans k3).trans k4;cases k with
   |false=>
    rw [if_neg Bool.false_ne_true] at h4;refine qjp ?_;exact ⟨_,by omega,rfl,hlt,τ3,G4,rl3.next hr4 k4,k'.trans kk,h4⟩
   |true=>
    rw [if_pos rfl] at h4;refine qhX ?_;exact qaa (rl3.next hr4 k4) (k'.trans kk) h4 λτ5 G5 σ5 H5 rl5 k5 h5=>⟨_,by omega,rfl,hlt,τ5,G5,rl5,k5,h5⟩
  ·have e:i=items.length:=by omega
   subst e;rw [List.drop_length] at h';obtain ⟨_,_,stop⟩:=ok G' H' rl'.hp k' h'.1;exact .inl ⟨stop,af _ _ h'.2 _ H' (.ref D) rl'.hp (k1.trans k')⟩
def qiL {elt tg iter t2 i2:Expr} {ifs f2:List Expr} {scope:Scope} {pos:Pos} (N':List Str) (m:List (Option Nat)) {wi:TI3} {g:TG3} {tif:TT3} {wi2:TI3} {g2:TG3} {tif2:TT3} {te:TE3} (hc:X.calm=true) (hi:jI3 X tg iter wi)
  (hg:∀ s H fp,jG3 (qg X N' scope s H fp) tg g) (hf:∀ s H fp,jF3 (qg X N' scope s H fp) ifs tif) (hi2:∀ s H fp,jI3 (qg X N' scope s H fp) t2 i2 wi2) (hg2:∀ s H fp,jG3 (qg X N' scope s H fp) t2 g2) (hf2:∀ s H fp,jF3 (qg X N' scope s H fp) f2 tif2) (he:∀ s H fp,jE3 (qg X N' scope s H fp) elt te)
  (hsc:SV X.env.scope scope=true) (hcap:ZX X.N N' scope m=true) (hs:∀ x,foldedSetIterable iter X.env x=pure x:=by intro _;rfl) (hs2:∀ s H fp x,foldedSetIterable i2 (qg X N' scope s H fp).env x=pure x:=by intro _ _ _ _;rfl) :
  jE3 X (.ListComp elt [⟨tg,iter,ifs,0⟩,⟨t2,i2,f2,0⟩] scope pos) (qfi wi g tif wi2 g2 tif2 te m):=
 ⟨qnd N' m hc hi.h (λs H fp=>(hg s H fp).h) (λs H fp=>(hf s H fp).h) (λs H fp=>(hi2 s H fp).h) (λs H fp=>(hg2 s H fp).h) (λs H fp=>(hf2 s H fp).h) (λs H fp=>(he s H fp).h) hsc hcap hs hs2⟩
end
section
variable {X:Cx}
def XB:∀ {its:List Value} {ns:List Int},zI (ns.map V.int) its->IntsAre its ns
 |_,[],h=>by cases h;exact .nil
 |_,n::ns,h=>by
  cases h with
  |cons r t=>
   obtain ⟨k,rfl⟩:=r;exact .cons n k (XB t)
end
section
variable {X:Cx} {tg a b c:Expr} {pos:Pos}
end
def EJ (ns:List Int):Nat:=(firstMet (λi=>ns.getD i 0) ns.length).length
section
variable {X:Cx}
def X7 (hc:X.calm=true):QL X (.type "set") (λxs H Q=>∃ (p:Addr) (ns:List Int),xs=[.ref p]/\SqL X.K H p (ns.map V.int)/\ns.length<4000/\∀ l S,H l=none->Q (.ref l) (upd H l (.set S (EJ ns)))):=by
 intro pins s σ H xs us Q I r h;obtain ⟨p,ns,rfl,hq,hl,q⟩:=h;obtain ⟨u,rfl,rp⟩:=Y9 r;cases (show u=Value.ref p from rp);obtain ⟨its,rv,pl,hz⟩:=I.list hq;have hlen:its.length=ns.length:=by have:=rv.length;simp at this;omega
 refine call_set_list (items:=its.toArray) (ns:=ns) (I.ok.hd hc) pl.isList (by simpa using XB rv) (by rw [size_toArray];unfold scanBound;omega) λh' tk hs kp=>?_;have e:(its.toArray).size=ns.length:=by rw [size_toArray];exact hlen
 rw [e] at hs;exact ⟨.ref s.heap.objs.size,_,I.laid (t':=tk) (o:=.set (λk'=>(firstMet (λi=>ns.getD i 0) ns.length).any (·==k')) (EJ ns)) (λb o hb=>kp b o (Heap.lt_size hb) hb) (Nat.le_refl _) hs,rfl,q _ _ (I.hok.fresh (Nat.le_refl _))⟩
def CZ:QL X (.builtin "len") (λxs H Q=>∃ a S n,xs=[.ref a]/\H a=some (.set S n)/\Q (.int n) H):=by
 intro pins s σ H xs us Q I r h;obtain ⟨a,S,n,rfl,ha,q⟩:=h;obtain ⟨u,rfl,rp⟩:=Y9 r;cases (show u=Value.ref a from rp);obtain ⟨o,es,ep,t,h1,h2,h3,_,_,h6,h7,h8⟩:=(show s.heap.SetOf (intKind X.prog X.w) a S n from I.hok a _ ha)
 refine call_len_set h1 h2 h3 h7 (by unfold scanBound at h6;omega) ⟨.int n,H,I.tok _,⟨_,by rw [h8]⟩,q⟩
def qfY (te:TE3):TE3:=λτ G q=>te τ G λx G1=>match x with
 |.ref p=>(match getL G1 p with|some ys=>(match E9 ys with|some ns=>ns.length<4000/\q (.int (EJ ns)) G1|none=>False)|none=>False)
 |_=>False
def qba {e:Expr} {te:TE3} {p p2 pos pos2:Pos} (hc:X.calm=true) (hg:Gl X "len") (hm:X.mg "len" = none) (hg2:Gl X "set") (hm2:X.mg "set" = none) (he:jE3 X e te)
  (h1:starEach [e] X.env=(false,eval e X.env)::starEach [] X.env:=by rfl) (h2:starEach [.Call (.Name "set" p2) [e] [] pos2] X.env=(false,eval (.Call (.Name "set" p2) [e] [] pos2) X.env)::starEach [] X.env:=by rfl)
  (h3:(backTo pos (starEach [] X.env)).any (·.1)=false:=by rfl) (h4:(backTo pos2 (starEach [] X.env)).any (·.1)=false:=by rfl):jE3 X (.Call (.Name "len" p) [.Call (.Name "set" p2) [e] [] pos2] [] pos) (qfY te):=
 ⟨EM (E6 CZ hg hm PySem.boot_len (ZO (RF (X7 hc) hg2 hm2 (show bootBuiltins "set" = some (.type "set") by decide +kernel) (ZO he.h XG h1) (he:=h1) (hpl:=h4)) XG h2) (he:=h2) (hpl:=h3)) λ_ _ _ ⟨τ,G,q,rl,h,af⟩=>zq rl h λx G1 h1 v H1 rx hr1 k1 rl1=>by
  split at h1
  ·rename_i l;cases rx;split at h1
   ·rename_i ys e0;split at h1
    ·rename_i ns e1;obtain ⟨us,hs,r2⟩:=zu hr1 e0;have:=J7 e1;subst this;have:=J8 r2;subst this;exact ⟨l,ns,rfl,hs,h1.1,λa S ha=>⟨a,S,_,rfl,qU,af _ _ h1.2 _ _ (.int _) (HR.laid hr1 ha) (k1.trans (Kp.laid ha))⟩⟩
    ·exact h1.elim
   ·exact h1.elim
  ·exact h1.elim⟩
end
section
variable {X:Cx} {a b:Expr} {ta tb:TE3} {pos:Pos}
structure ShW (d:PyData):Prop where
 sh:d.showable=true
 nd:d.hasDict=false
 dp:d.depth<=40
 fit:d.shown.length<=sizeLine
def ShOk.w {d:PyData} (h:ShOk d):ShW d:=⟨h.sh,h.nd,h.dp,PyData.shown_fits_bulk (by decide) (by decide) h.lv h.bk⟩
def NF (hg:X.A.guards=some []) (hu:X.A.units+64<cLine):QL X (.builtin "repr") (λxs H Q=>∃ a d,xs=[.ref a]/\DV X.K H (.ref a) d/\ShW d/\Q (.str d.shown) H):=by
 intro pins s σ H xs us Q I r h;obtain ⟨a,d,rfl,dv,ok,q⟩:=h;obtain ⟨u,rfl,rp⟩:=Y9 r;cases (show u=Value.ref a from rp);obtain ⟨as,rd⟩:=dv.reads I (show ja (.ref a) (.ref a) from rfl);refine repr_of_reads' rd ok.sh (PyData.noDict_hsm ok.nd) hg (by have:=ok.dp;omega) (λ_ _ e=>e) (λh' u tk hk=>?_) ok.fit;exact ⟨.str _,H,I.kept (h':=h') (t':=tk) hk,⟨_,rfl⟩,q⟩
def shV (st:Bool):V->Hp->(Str->Prop)->Prop:=λv H q=>match v with
 |.non=>q (Str.ofString "None")
 |.bl b=>q (if b=true then Str.ofString "True" else Str.ofString "False")
 |.int i=>i.natAbs.log2<1920/\q (Str.ofString (toString i))
 |.str x=>if st then q x else (reprText x).length<=sizeLine/\q (reprText x)
 |.ref a=>∃ d,DV X.K H (.ref a) d/\ShW d/\q d.shown
 |_=>False
def EF (hg:X.A.guards=some []) (hu:X.A.units+64<cLine):QL X (.builtin "repr") (λxs H Q=>∃ v,xs=[v]/\shV (X:=X) false v H λx=>Q (.str x) H):=by
 intro pins s σ H xs us Q I r h;obtain ⟨v,rfl,h⟩:=h;obtain ⟨u,rfl,rp⟩:=Y9 r;cases v with
 |non=>cases (show u=Value.none from rp);exact P.repr_of_none ⟨.str _,H,I.tok _,⟨_,rfl⟩,h⟩
 |bl b=>cases (show u=Value.bool b from rp);exact P.repr_of_bool ⟨.str _,H,I.tok _,⟨_,rfl⟩,h⟩
 |int i=>obtain ⟨t,rfl⟩:=(show ∃ t,u=Value.int i t from rp);exact P.repr_of_int h.1 ⟨.str _,H,I.tok _,⟨_,rfl⟩,h.2⟩
 |str x=>obtain ⟨t,rfl⟩:=(show ∃ t,u=Value.str x t from rp);exact P.repr_of_str ⟨.str _,H,I.tok _,⟨_,rfl⟩,h.2⟩ h.1
 |ref a=>
  obtain ⟨d,dv,ok,q⟩:=h;exact NF hg hu _ _ _ _ _ _ _ I r ⟨a,d,rfl,dv,ok,q⟩
 |_=>exact h.elim
def shT (st:Bool):T->Gp->(Str->Prop)->Prop:=λx G q=>match x with
 |.non=>q (Str.ofString "None")
 |.bl b=>q (if b=true then Str.ofString "True" else Str.ofString "False")
 |.int i=>i.natAbs.log2<1920/\q (Str.ofString (toString i))
 |.str x=>if st then q x else (reprText x).length<=sizeLine/\q (reprText x)
 |.tup _=>∃ d,Dp G x d/\ShW d/\q d.shown
 |.ref _=>∃ d,Dp G x d/\ShW d/\q d.shown
def KA (st:Bool):List T->Gp->Q3->Prop:=λxs G q=>match xs with
 |[x]=>shT st x G λy=>q (.str y) G
 |_=>False
def K3 {st:Bool}:SS X.K (KA st) (λxs H Q=>∃ v,xs=[v]/\shV (X:=X) st v H λx=>Q (.str x) H):=λxs vs G H q Q hr rs h af=>by
 unfold KA at h;split at h
 ·rename_i x;obtain ⟨v,rfl,r⟩:=CN rs;refine ⟨v,rfl,?_⟩;cases r with
  |non=>exact af _ G h _ H (.str _) hr Kp.refl
  |bl b=>exact af _ G h _ H (.str _) hr Kp.refl
  |int i=>exact ⟨h.1,af _ G h.2 _ H (.str _) hr Kp.refl⟩
  |str x=>
   cases st with
   |true=>exact af _ G h _ H (.str _) hr Kp.refl
   |false=>exact ⟨h.1,af _ G h.2 _ H (.str _) hr Kp.refl⟩
  |tup hs r2=>
   obtain ⟨d,h1,h2,h3⟩:=h;exact ⟨d,h1.dv hr (.tup hs r2),h2,af _ G h3 _ H (.str _) hr Kp.refl⟩
  |ref a=>
   obtain ⟨d,h1,h2,h3⟩:=h;exact ⟨d,h1.dv hr (.ref a),h2,af _ G h3 _ H (.str _) hr Kp.refl⟩
 ·exact h.elim
end
end L3
namespace HT
open PySem PySem.Spec PyProof.Rows
section
variable {prog:Program} {w:World} {A:Around} {E:Value->Shared->Prop} {s:Shared}
end
end HT
namespace L3
open PySem PySem.Spec PyProof.Rows L2
section
variable {X:Cx} {e ek:Expr} {p2 pos:Pos}
end
section
variable {X:Cx} {a b:Expr} {ta tb:TE3} {pos:Pos}
end
abbrev Rd (sp:Sp3) (n:Nat) (t:TS3) (N:List Str):Prop:=∀ ts G q,sp ts G q->ts.length=n/\t { nx:=λ_ G'=>q .non G',rt:=q } (qr N ts) G
def jgn {pos:Pos} {X:Cx} {x:Str} (i:Nat) (hN:decide X.N.Nodup=true:=by kernel_rfl) (hi:X.N[i]?=some x:=by rfl) (hx:Loc X.env.scope x:=by first|exact Or.inl rfl|exact Or.inr rfl) (hf:X.fn x=true\/X.env.scope.names.lookup x=some .local:=by first|exact .inl rfl|exact .inr rfl):jG3 X (.Name x pos) (gn3 i):=
 qN (of_decide_eq_true hN) hi hx hf
end L3
namespace L2
open PySem PySem.Spec PyProof.Rows
section
variable {X:Cx} {pos:Pos}
end
end L2
namespace L3
open PySem PySem.Spec PyProof.Rows L2
section
variable {X:Cx} {pos:Pos}
end
end L3
namespace HT
open PySem PyProof.Rows
section
variable {prog:Program} {w:World} {A:Around} {E:Value->Shared->Prop} {s:Shared}
abbrev oS (led:Bool):Obj:={ cls:=.type "set",dict:=none,data:=.set #[] 0 (.fresh 0 0 led) }
end
end HT
namespace L3
open PySem PySem.Spec PyProof.Rows L2
section
variable {X:Cx}
end
end L3
namespace Tb8
open PySem PySem.SetTable
def Up (xs:Array Nat):Prop:=∀ a b,a<b->b<xs.size->xs.getD a 0<xs.getD b 0
def gD {xs:Array Nat} {i d e:Nat} (h:i<xs.size):xs.getD i d=xs.getD i e:=by simp [Array.getD,h]
def Up.le {xs:Array Nat} (u:Up xs) {a b:Nat} (h:a<=b) (hb:b<xs.size):xs.getD a 0<=xs.getD b 0:=by
 rcases Nat.lt_or_ge a b with z|z
 ·exact Nat.le_of_lt (u a b z hb)
 ·rw [show a=b by omega];exact Nat.le_refl _
structure Bel (xs:Array Nat) (j r:Nat):Prop where
 le:r<=xs.size
 lo:∀ i,i<r->xs.getD i 0<j
 hi:∀ i,r<=i->i<xs.size->j<=xs.getD i 0
def X6 {xs:Array Nat} {j:Nat} (u:Up xs):∀ (fuel lo hi:Nat),lo<=hi->hi<=xs.size->hi-lo<=fuel->(∀ i,i<lo->xs.getD i 0<j)->(∀ i,hi<=i->i<xs.size->j<=xs.getD i 0)->Bel xs j (below.go xs j fuel lo hi)
 |0,lo,hi,h1,h2,h3,h4,h5=>by
  obtain rfl:lo=hi:=by omega
  exact ⟨h2,h4,h5⟩
 |fuel+1,lo,hi,h1,h2,h3,h4,h5=>by
  unfold below.go;by_cases c:lo<hi
  ·have hm:(lo+hi)/2<xs.size:=by omega
   rw [if_pos c];simp only;rw [gD (e:=0) hm];by_cases c2:xs.getD ((lo+hi)/2) 0<j
   ·rw [if_pos c2];exact X6 u fuel _ _ (by omega) h2 (by omega) (λi hi'=>Nat.lt_of_le_of_lt (u.le (show i<=(lo+hi)/2 by omega) hm) c2) h5
   ·rw [if_neg c2];exact X6 u fuel _ _ (by omega) (by omega) (by omega) h4 λi hi' hs=>Nat.le_trans (Nat.le_of_not_lt c2) (u.le hi' hs)
  ·rw [if_neg c];obtain rfl:lo=hi:=by omega
   exact ⟨h2,h4,h5⟩
def L9 {xs:Array Nat} {j:Nat} (u:Up xs):Bel xs j (below xs j):=X6 u _ _ _ (Nat.zero_le _) (Nat.le_refl _) (Nat.le_refl _) (λi h=>absurd h (Nat.not_lt_zero i)) λi h hs=>absurd hs (by omega)
def qci {xs:Array Nat} {i j:Nat} (h:xs[i]?=some j):i<xs.size/\xs.getD i 0=j:=by
 obtain ⟨h1,h2⟩:=Array.getElem?_eq_some_iff.mp h;exact ⟨h1,by simp [Array.getD,h1,h2]⟩
def XW {xs:Array Nat} {i:Nat} (h:i<xs.size):xs[i]?=some (xs.getD i 0):=by simp [Array.getD,h]
def qcw {xs:Array Nat} {i j:Nat} (u:Up xs) (h:xs[i]?=some j):below xs j=i:=by
 obtain ⟨h1,h2⟩:=qci h;have B:=L9 (j:=j) u;rcases Nat.lt_trichotomy (below xs j) i with z|z|z
 ·have:=B.hi _ (Nat.le_refl _) (by omega);have:=u _ _ z h1;omega
 ·exact z
 ·have:=B.lo i z;omega
def VX {t:SetTable} {i j:Nat} (u:Up t.place) (h:t.place[i]?=some j):t.slot j=.live i:=by
 unfold SetTable.slot;simp only;rw [qcw u h,h];simp
def W6 {t:SetTable} {j:Nat} (d:t.dummies=#[]) (h:∀ i:Nat,t.place[i]?≠some j):t.slot j=.empty:=by
 unfold SetTable.slot;simp only;rw [if_neg (by simpa using h _),if_neg];unfold has;rw [d];simp
def TC {t:SetTable} (u:Up t.place) (d:t.dummies=#[]) (j:Nat):(t.slot j=.empty/\∀ i:Nat,t.place[i]?≠some j)\/∃ i:Nat,t.slot j=.live i/\t.place[i]?=some j:=by
 by_cases c:∃ i:Nat,t.place[i]?=some j
 ·obtain ⟨i,h⟩:=c;exact .inr ⟨i,VX u h,h⟩
 ·have c':∀ i:Nat,t.place[i]?≠some j:=λi h=>c ⟨i,h⟩;exact .inl ⟨W6 d c',c'⟩
def adv (M:Nat) (p:Probe):Probe:=
 if p.more > 0 then { p with j:=p.j+1,more:=p.more-1 } else
 { p with j:=(leap M p.i p.perturb).1,more:=runEnd M (leap M p.i p.perturb).1-(leap M p.i p.perturb).1,i:=(leap M p.i p.perturb).1,perturb:=(leap M p.i p.perturb).2 }
def qlV (t:SetTable) (p:Probe):t.advance p=adv t.mask p:=rfl
def st (M:Nat) (h:Int):Probe:={ j:=bits h%(M+1),more:=runEnd M (bits h%(M+1))-bits h%(M+1),i:=bits h%(M+1),perturb:=bits h,dummy:=none }
def pth (M:Nat) (h:Int):Nat->Probe
 |0=>st M h
 |n+1=>adv M (pth M h n)
def SE (M:Nat) (h:Int):∀ n,(pth M h n).dummy=none
 |0=>rfl
 |n+1=>by
  have:=SE M h n;simp only [pth,adv];split<;>exact this
def K5 {M i:Nat} (h:i<=M):runEnd M i<=M/\i<=runEnd M i/\runEnd M i<=i+9:=by unfold runEnd;split<;>omega
def qfu (M:Nat) (h:Int):∀ n,(pth M h n).j+(pth M h n).more<=M
 |0=>by
  have:=Nat.mod_lt (bits h) (show 0<M+1 by omega);have:=K5 (M:=M) (i:=bits h%(M+1)) (by omega);simp only [pth,st];omega
 |n+1=>by
  have ih:=qfu M h n;simp only [pth,adv];split
  ·simp only;omega
  ·have:(leap M (pth M h n).i (pth M h n).perturb).1<M+1:=Nat.mod_lt _ (by omega);have:=K5 (M:=M) (i:=(leap M (pth M h n).i (pth M h n).perturb).1) (by omega);simp only;omega
def hd (M i p:Nat):Probe:={ j:=i,more:=runEnd M i-i,i:=i,perturb:=p,dummy:=none }
def lv (M:Nat) (h:Int):Nat->Nat×Nat
 |0=>(bits h%(M+1),bits h)
 |k+1=>leap M (lv M h k).1 (lv M h k).2
def qng {M:Nat} {h:Int} {i p:Nat}:∀ (m n j:Nat),pth M h n={ j:=j,more:=m,i:=i,perturb:=p,dummy:=none }->pth M h (n+m)={ j:=j+m,more:=0,i:=i,perturb:=p,dummy:=none }
 |0,n,j,e=>e
 |m+1,n,j,e=>by
  have e2:pth M h (n+1)={ j:=j+1,more:=m,i:=i,perturb:=p,dummy:=none }:=by
   rw [pth,e,adv];simp
  have:=qng m (n+1) (j+1) e2;rw [show n+1+m=n+(m+1) by omega,show j+1+m=j+(m+1) by omega] at this;exact this
def qcD (M:Nat) (h:Int):∀ k,(lv M h k).1<=M
 |0=>by have:=Nat.mod_lt (bits h) (show 0<M+1 by omega);simp only [lv];omega
 |k+1=>by
  have:(leap M (lv M h k).1 (lv M h k).2).1<M+1:=Nat.mod_lt _ (by omega);simp only [lv];omega
def qj9 (M:Nat) (h:Int):∀ k,∃ n,n<=10*k/\pth M h n=hd M (lv M h k).1 (lv M h k).2
 |0=>⟨0,by omega,rfl⟩
 |k+1=>by
  obtain ⟨n,hn,e⟩:=qj9 M h k;have r:=K5 (qcD M h k);have w:=qng _ n _ e;refine ⟨n+(runEnd M (lv M h k).1-(lv M h k).1)+1,by omega,?_⟩;rw [pth,w];rfl
def qbE (M:Nat) (h:Int):∀ k,(lv M h k).2=bits h/32 ^ k
 |0=>by simp [lv]
 |k+1=>by
  show (lv M h k).2/32=_;rw [qbE M h k,Nat.div_div_eq_div_mul,Nat.pow_succ]
def qgM (h:Int):bits h<2 ^ 64:=by
 unfold bits;have:=Int.emod_lt_of_pos h (show (0:Int)<2 ^ 64 by decide);have:=Int.emod_nonneg h (show (2 ^ 64:Int)≠0 by decide);omega
def stp (M x:Nat):Nat:=(x*5+1)%(M+1)
def its (M:Nat):Nat->Nat->Nat
 |0,x=>x
 |t+1,x=>stp M (its M t x)
def qbd (M:Nat) (h:Int):∀ t,(lv M h (13+t)).1=its M t (lv M h 13).1
 |0=>rfl
 |t+1=>by
  have z:(lv M h (13+t)).2/32=0:=by
   rw [qbE,Nat.div_div_eq_div_mul,← Nat.pow_succ];refine Nat.div_eq_of_lt (Nat.lt_of_lt_of_le (qgM h) ?_);exact Nat.le_trans (show 2 ^ 64<=32 ^ 14 by decide) (Nat.pow_le_pow_right (by omega) (by omega))
  show ((lv M h (13+t)).1*5+1+(lv M h (13+t)).2/32)%(M+1)=stp M (its M t _);rw [z,qbd M h t];rfl
def NI (M:Nat):Prop:=∀ x,x<=M->∀ c,c<=M->∃ t,t<=M/\its M t x=c
def qnl:NI 7:=by
 have:∀ x:Fin 8,∀ c:Fin 8,∃ t:Fin 8,its 7 t.val x.val=c.val:=by decide +kernel
 intro x hx c hc;obtain ⟨t,ht⟩:=this ⟨x,by omega⟩ ⟨c,by omega⟩;exact ⟨t.val,by omega,ht⟩
def qk9:NI 31:=by
 have:∀ x:Fin 32,∀ c:Fin 32,∃ t:Fin 32,its 31 t.val x.val=c.val:=by decide +kernel
 intro x hx c hc;obtain ⟨t,ht⟩:=this ⟨x,by omega⟩ ⟨c,by omega⟩;exact ⟨t.val,by omega,ht⟩
def X3 (M:Nat) (x t:Nat):∀ s,its M (s+t) x=its M s (its M t x)
 |0=>by rw [Nat.zero_add];rfl
 |s+1=>by rw [Nat.succ_add];show stp M (its M (s+t) x)=stp M _;rw [X3 M x t s]
def qgm:NI 127:=by
 have h:∀ c:Fin 128,∃ t:Fin 128,its 127 t.val 0=c.val:=by decide +kernel
 have z:its 127 128 0=0:=by decide +kernel
 intro x hx c hc;obtain ⟨a,ha⟩:=h ⟨x,by omega⟩;obtain ⟨b,hb⟩:=h ⟨c,by omega⟩;simp only at ha hb;have la:=a.isLt;have lb:=b.isLt;by_cases q:a.val<=b.val
 ·refine ⟨b.val-a.val,by omega,?_⟩;have:=X3 127 0 a.val (b.val-a.val);rw [Nat.sub_add_cancel q,hb,ha] at this;exact this.symm
 ·refine ⟨b.val+128-a.val,by omega,?_⟩;have:=X3 127 0 a.val (b.val+128-a.val);rw [Nat.sub_add_cancel (by omega),X3 127 0 128,z,hb,ha] at this;exact this.symm
def qjQ {M:Nat} (F:NI M) (h:Int) {c:Nat} (hc:c<=M):∃ n,n<10*turns M/\(pth M h n).j=c:=by
 obtain ⟨t,ht,e⟩:=F _ (qcD M h 13) c hc;obtain ⟨n,hn,e2⟩:=qj9 M h (13+t);refine ⟨n,by unfold turns;omega,?_⟩;rw [e2,hd,qbd,e]
def qbl {P:Nat->Prop} {n:Nat} (h:P n):∃ m,m<=n/\P m/\∀ k,k<m->¬ P k:=by
 induction n using Nat.strongRecOn with
 |_ n ih=>
  by_cases c:∃ k,k<n/\P k
  ·obtain ⟨k,hk,pk⟩:=c;obtain ⟨m,hm,r⟩:=ih k hk pk;exact ⟨m,by omega,r⟩
  ·exact ⟨n,Nat.le_refl _,h,λk hk pk=>c ⟨k,hk,pk⟩⟩
def qhi {xs:Array Nat} {M:Nat} (u:Up xs) (h:xs.size<=M):∃ c,c<=M/\∀ i:Nat,xs[i]?≠some c:=by
 by_cases c:∃ c,c<=M/\∀ i:Nat,xs[i]?≠some c
 ·exact c
 exfalso;have all:∀ c,c<=M->∃ i:Nat,xs[i]?=some c:=λd hd=>by
  by_cases z:∃ i:Nat,xs[i]?=some d
  ·exact z
  ·exact absurd ⟨d,hd,λi e=>z ⟨i,e⟩⟩ c
 have ge:∀ i,i<xs.size->i<=xs.getD i 0:=by
  intro i;induction i with
  |zero=>intro _;exact Nat.zero_le _
  |succ i ih=>
   intro hi;have:=ih (by omega);have:=u i (i+1) (by omega) hi;omega
 obtain ⟨i,hi⟩:=all M (Nat.le_refl _);obtain ⟨i1,i2⟩:=qci hi;obtain ⟨m,hm,⟨m1,m2⟩,hl⟩:=qbl (P:=λi=>i<xs.size/\i<xs.getD i 0) (n:=i) ⟨i1,by omega⟩;obtain ⟨k,hk⟩:=all m (by omega);obtain ⟨k1,k2⟩:=qci hk;rcases Nat.lt_or_ge k m with z|z
 ·have a:=ge k k1;have b:=hl k z;have:¬ k<xs.getD k 0:=λq=>b ⟨k1,q⟩;omega
 ·have:=u.le z k1;omega
def MW {t:SetTable} {h:Int} (F:NI t.mask) (u:Up t.place) (d:t.dummies=#[]) (s:t.place.size<=t.mask):∃ e,e<10*turns t.mask/\t.slot (pth t.mask h e).j=.empty/\∀ k,k<e->t.slot (pth t.mask h k).j≠.empty:=by
 obtain ⟨c,hc,hf⟩:=qhi u s;obtain ⟨n,hn,e⟩:=qjQ F h hc;obtain ⟨m,hm,pm,hl⟩:=qbl (P:=λn=>t.slot (pth t.mask h n).j=.empty) (n:=n) (by rw [e];exact W6 d hf);exact ⟨m,by omega,pm,hl⟩
def qaJ {t:SetTable} {hA:Nat->Int} {h:Int}:∀ (m fuel n:Nat),(∀ k,k<m->∃ i,t.slot (pth t.mask h (n+k)).j=.live i/\(hA i==h)=false)->m<=fuel->probe.go t hA h fuel (pth t.mask h n)=probe.go t hA h (fuel-m) (pth t.mask h (n+m))
 |0,fuel,n,_,_=>rfl
 |m+1,0,n,_,hf=>by omega
 |m+1,fuel+1,n,hs,hf=>by
  obtain ⟨i,e1,e2⟩:=hs 0 (by omega);rw [Nat.add_zero] at e1;rw [probe.go,e1];simp only [e2,Bool.false_eq_true,if_false];have:=qaJ m fuel (n+1) (λk hk=>by rw [show n+1+k=n+(k+1) by omega];exact hs (k+1) (by omega)) (by omega);rw [qlV,← pth,this,show n+1+m=n+(m+1) by omega,show fuel+1-(m+1)=fuel-m by omega]
def qc8 {t:SetTable} {hA:Nat->Int} {h:Int} {fuel n:Nat} (e:t.slot (pth t.mask h n).j=.empty) (hf:0<fuel):probe.go t hA h fuel (pth t.mask h n)=some (.empty (pth t.mask h n).j none):=by
 obtain ⟨f,rfl⟩:∃ f,fuel=f+1:=⟨fuel-1,by omega⟩
 rw [probe.go,e,SE]
def qgP {t:SetTable} {hA:Nat->Int} {h:Int} {fuel n i:Nat} (e:t.slot (pth t.mask h n).j=.live i) (eh:(hA i==h)=true) (hf:0<fuel):probe.go t hA h fuel (pth t.mask h n)=some (.candidate (pth t.mask h n).j i (pth t.mask h (n+1))):=by
 obtain ⟨f,rfl⟩:∃ f,fuel=f+1:=⟨fuel-1,by omega⟩
 rw [probe.go,e];simp only [eh,if_true];rfl
def ins {α:Type} (l:List α) (p:Nat) (x:α):List α:=l.take p++x::l.drop p
def CT {α:Type} {l:List α} {p:Nat} {x:α} (h:p<=l.length):(ins l p x).length=l.length+1:=by simp [ins];omega
def qbC {α:Type} {l:List α} {p:Nat} {x:α} (h:p<=l.length) (i:Nat):(ins l p x)[i]?=if i<p then l[i]? else if i=p then some x else l[i-1]?:=by
 have e:(l.take p).length=p:=by simp;omega
 unfold ins;split
 ·rename_i c;rw [List.getElem?_append_left (by omega),List.getElem?_take_of_lt c]
 ·rw [List.getElem?_append_right (by omega),e];split
  ·rename_i c;subst c;simp
  ·rename_i c1 c2;obtain ⟨k,rfl⟩:∃ k,i=p+(k+1):=⟨i-p-1,by omega⟩
   rw [show p+(k+1)-p=k+1 by omega,getElem?_cons_succ,List.getElem?_drop,show p+(k+1)-1=p+k by omega]
def U3 {α:Type} (xs:Array α) (p:Nat) (x:α) (h:p<=xs.size):(insertAt xs p x).toList=ins xs.toList p x:=by
 unfold insertAt ins;simp;exact List.take_of_length_le (by simp)
structure Ok8 (t:SetTable) (hs:List Int):Prop where
 up:Up t.place
 dm:t.dummies=#[]
 sz:t.place.size=hs.length
 fl:hs.length<=t.mask
 le:∀ (i j:Nat),t.place[i]?=some j->j<=t.mask
 fu:NI t.mask
 od:t.mask%2=1
 wy:∀ (i j:Nat) (h:Int),t.place[i]?=some j->hs[i]?=some h->∃ m,(pth t.mask h m).j=j/\∀ k,k<m->t.slot (pth t.mask h k).j≠.empty
def Ok8.ne {t:SetTable} {hs:List Int} (o:Ok8 t hs) {j:Nat}:t.slot j≠.empty↔∃ i:Nat,t.place[i]?=some j:=by
 rcases TC o.up o.dm j with ⟨e,h⟩|⟨i,e,h⟩
 ·exact ⟨λz=>absurd e z,λ⟨i,z⟩=>absurd z (h i)⟩
 ·exact ⟨λ_=>⟨i,h⟩,λ_ z=>by rw [e] at z;cases z⟩
def NH {α:Type} (xs:Array α) (i:Nat):xs[i]?=xs.toList[i]?:=by simp
def Ok8.put {t:SetTable} {hs:List Int} (o:Ok8 t hs) {j:Nat} {h:Int} (he:t.slot j=.empty) (hj:j<=t.mask) (hf:hs.length+1<=t.mask) (w:∃ m,(pth t.mask h m).j=j/\∀ k,k<m->t.slot (pth t.mask h k).j≠.empty) :
  (t.put j).2<=hs.length/\Ok8 (t.put j).1 (ins hs (t.put j).2 h)/\(t.put j).1.mask=t.mask:=by
 have hn:∀ i:Nat,t.place[i]?≠some j:=λi z=>(o.ne.mpr ⟨i,z⟩) he;have B:=L9 (j:=j) o.up;obtain ⟨p,hp⟩:∃ p,p=below t.place j:=⟨_,rfl⟩
 have hd:has t.dummies j=false:=by unfold has;rw [o.dm];simp
 have e1:(t.put j).1={ t with place:=insertAt t.place p j }:=by
  unfold SetTable.put;simp only [hd,hp];rfl
 have e2:(t.put j).2=p:=by unfold SetTable.put;rw [hp]
 rw [← hp] at B;have pl:p<=t.place.size:=B.le;have pl':p<=hs.length:=by rw [← o.sz];exact pl
 have gt:∀ i:Nat,(insertAt t.place p j)[i]?=if i<p then t.place[i]? else if i=p then some j else t.place[i-1]?:=λi=>by
  rw [NH,U3 _ _ _ pl,qbC (by simpa using pl),NH,NH]
 have hz:(insertAt t.place p j).size=t.place.size+1:=by
  rw [← Array.length_toList,U3 _ _ _ pl,CT (by simpa using pl),Array.length_toList]
 rw [e1,e2];have up':Up (insertAt t.place p j):=by
  intro a b hab hb;rw [hz] at hb;have ga:=gt a;have gb:=gt b;have da:(insertAt t.place p j)[a]?=some ((insertAt t.place p j).getD a 0):=XW (by rw [hz];omega);have db:(insertAt t.place p j)[b]?=some ((insertAt t.place p j).getD b 0):=XW (by rw [hz];omega);rw [da] at ga;rw [db] at gb;generalize (insertAt t.place p j).getD a 0=x at ga ⊢;generalize (insertAt t.place p j).getD b 0=y at gb ⊢;have gtj:∀ i:Nat,p<=i->i<t.place.size->j<t.place.getD i 0:=λi h1 h2=>by
   have a1:=B.hi i h1 h2;have a2:t.place.getD i 0≠j:=λz=>hn i (by rw [XW h2,z]);omega
  by_cases c1:a<p
  ·rw [if_pos c1,XW (by omega)] at ga;cases ga;by_cases c2:b<p
   ·rw [if_pos c2,XW (by omega)] at gb;cases gb;exact o.up a b hab (by omega)
   ·rw [if_neg c2] at gb;by_cases c3:b=p
    ·rw [if_pos c3] at gb;cases gb;exact B.lo a c1
    ·rw [if_neg c3,XW (by omega)] at gb;cases gb;exact Nat.lt_trans (B.lo a c1) (gtj _ (by omega) (by omega))
  ·rw [if_neg c1] at ga;have c2:¬ b<p:=by omega
   have c3:¬ b=p:=by omega
   rw [if_neg c2,if_neg c3,XW (by omega)] at gb;cases gb;by_cases c4:a=p
   ·rw [if_pos c4] at ga;cases ga;exact gtj _ (by omega) (by omega)
   ·rw [if_neg c4,XW (by omega)] at ga;cases ga;exact o.up _ _ (by omega) (by omega)
 have ne':∀ j',t.slot j'≠.empty->SetTable.slot { t with place:=insertAt t.place p j } j'≠.empty:=λj' z=>by
  obtain ⟨i,hi⟩:=o.ne.mp z;have:∃ i':Nat,(insertAt t.place p j)[i']?=some j':=by
   by_cases c:i<p
   ·exact ⟨i,by rw [gt,if_pos c,hi]⟩
   ·exact ⟨i+1,by rw [gt,if_neg (by omega),if_neg (by omega),Nat.add_sub_cancel,hi]⟩
  obtain ⟨i',hi'⟩:=this;rw [VX (t:={ t with place:=insertAt t.place p j }) up' hi'];exact λz=>by cases z
 refine ⟨pl',⟨up',o.dm,by rw [CT pl'];simp only;rw [hz,o.sz],by rw [CT pl'];exact hf,λi j' hi=>?_,o.fu,o.od,λi j' h' hi hh=>?_⟩,rfl⟩
 ·simp only at hi;rw [gt] at hi;split at hi
  ·exact o.le _ _ hi
  ·split at hi
   ·cases hi;exact hj
   ·exact o.le _ _ hi
 ·simp only at hi;rw [gt] at hi;rw [qbC pl'] at hh;have go:∀ i0:Nat,t.place[i0]?=some j'->hs[i0]?=some h'->∃ m,(pth t.mask h' m).j=j'/\∀ k,k<m->SetTable.slot { t with place:=insertAt t.place p j } (pth t.mask h' k).j≠.empty:=λi0 a b=>by
   obtain ⟨m,m1,m2⟩:=o.wy i0 j' h' a b;exact ⟨m,m1,λk hk=>ne' _ (m2 k hk)⟩
  split at hi
  ·rename_i c;rw [if_pos c] at hh;exact go i hi hh
  ·rename_i c;rw [if_neg c] at hh;split at hi
   ·rename_i c2;rw [if_pos c2] at hh;cases hi;cases hh;obtain ⟨m,m1,m2⟩:=w;exact ⟨m,m1,λk hk=>ne' _ (m2 k hk)⟩
   ·rename_i c2;rw [if_neg c2] at hh;exact go _ hi hh
def Ok8.fresh (f m:Nat) (led:Bool):Ok8 (SetTable.fresh f m led) []:=by
 refine ⟨λa b h hb=>?_,rfl,rfl,Nat.zero_le _,λi j h=>?_,qnl,(by show 7%2=1;rfl),λi j h a b=>?_⟩
 ·simp [SetTable.fresh] at hb
 ·simp [SetTable.fresh] at h
 ·simp at b
end Tb8
namespace Tb8
open PySem PyProof.Rows
section
variable {prog:Program} {w:World} {A:Around} {E:Value->Shared->Prop} {s:Shared}
abbrev IsP (prog:Program) (w:World) (h:Heap) (k:List Int) (a:Addr):Prop:=IsTupleKey (intKind prog w) h k a
abbrev hsh (prog:Program) (w:World) (k:List Int):Int:=tupleKeyHash (intKind prog w) k
def qkc {k:Int} {v:Value} (h:(intKind prog w).is k v=true):∃ t,v=.int k t:=by
 cases v<;>first|(cases h;done)|skip
 case int i t=>
  have:i=k:=by simpa [intKind,Value.isInt] using h
  exact ⟨t,by rw [this]⟩
def qeg {ks:List Int} {vs:List Value} (h:ItemsAre (intKind prog w) ks vs):∀ v∈vs,∃ i t,v=Value.int i t:=by
 induction h with
 |nil=>intro v hv;cases hv
 |cons h1 _ ih=>
  intro v hv;rcases mem_cons.mp hv with rfl|hv
  ·obtain ⟨t,e⟩:=qkc h1;exact ⟨_,t,e⟩
  ·exact ih v hv
def qpb {k:List Int} {a:Addr} {Q:Bool->Shared->Prop} (hk:IsP prog w s.heap k a) (h:Q false s):wpAny (model prog w) A (ofAClassStatement 8 (.ref a)) Q E s:=by
 have hT:=hk.typeIs;obtain ⟨o,items,n,ho,_,hd,hi⟩:=hk;unfold ofAClassStatement;refine wpAny_bind (wpAny_typeOf hT ?_);simp only [beq_self_eq_true,if_true];refine wpAny_bind (wpAny_pure ?_);simp only [Bool.not_true,Bool.false_eq_true,if_false];refine wpAny_bind (wpAny_seqItems ho hd ?_);refine wpAny_bind ?_;show wpAny _ _ (forIn items _ _) _ _ s;rw [← Array.forIn_toList];refine wpAny_forIn_list _ (λjw r s'=>r.1=none/\s'=s/\∀ v∈jw,∃ i t,v=Value.int i t) _ ?_ ?_ _ _ ⟨rfl,rfl,qeg hi⟩
 ·rintro v jw r s' ⟨hr,rfl,hall⟩;obtain ⟨i,t,rfl⟩:=hall v List.mem_cons_self;refine wpAny_bind (wpAny_pure ?_);simp only [Bool.false_eq_true,if_false];exact wpAny_pure ⟨rfl,rfl,λu hu=>hall u (List.mem_cons_of_mem _ hu)⟩
 ·rintro ⟨r1,r2⟩ s' ⟨hr,rfl,_⟩;simp only at hr;subst hr;exact wpAny_pure h
def qnE {k:List Int} {a:Addr} {ys:List Value} {Q:Bool->Shared->Prop} (hk:IsP prog w s.heap k a) (hy:∀ y∈ys,∃ k' b,y=Value.ref b/\IsP prog w s.heap k' b) (h:Q false s):wpAny (model prog w) A (searchCouldBeSeen (.ref a) ys) Q E s:=by
 unfold searchCouldBeSeen;refine wpAny_bind ?_;refine wpAny_forIn_list _ (λjw r s'=>r.1=none/\s'=s/\∀ y∈jw,∃ k' b,y=Value.ref b/\IsP prog w s.heap k' b) _ ?_ ?_ _ _ ⟨rfl,rfl,hy⟩
 ·rintro y jw r s' ⟨hr,rfl,hall⟩;obtain ⟨k',b,rfl,hb⟩:=hall y List.mem_cons_self;have nx:∀ y∈jw,∃ k' b,y=Value.ref b/\IsP prog w s'.heap k' b:=λu hu=>hall u (List.mem_cons_of_mem _ hu);simp only;refine wpAny_ite ?_;split
  ·exact wpAny_pure ⟨rfl,rfl,nx⟩
  refine wpAny_bind (wpAny_eqIsQuiet_tuple hk ?_);simp only [Bool.not_true,Bool.false_eq_true,if_false];refine wpAny_bind (wpAny_eqIsQuiet_tuple hb ?_);simp only [Bool.not_true,Bool.false_eq_true,if_false];refine wpAny_bind (qpb hk ?_);simp only [Bool.false_eq_true,if_false];refine wpAny_bind (qpb hb ?_);simp only [Bool.false_eq_true,if_false];exact wpAny_pure ⟨rfl,rfl,nx⟩
 ·rintro ⟨r1,r2⟩ s' ⟨hr,rfl,_⟩;simp only at hr;subst hr;exact wpAny_pure h
def qpC {k:List Int} {a:Addr} {Q:Bool->Shared->Prop} (hk:IsP prog w s.heap k a) (h:∀ b,Q b s):wpAny (model prog w) A (hashByValue 8 (.ref a)) Q E s:=by
 have hT:=hk.typeIs;obtain ⟨o,items,n,ho,_,hd,hi⟩:=hk;unfold hashByValue;refine wpAny_bind (wpAny_specialOf hT F.slot_tuple_hash.lookup ?_);simp only;refine wpAny_bind (wpAny_seqItems ho hd ?_);simp only [Option.getD_some];refine wpAny_bind ?_;show wpAny _ _ (forIn items _ _) _ _ s;rw [← Array.forIn_toList];refine wpAny_forIn_list _ (λjw r s'=>r.1=none/\s'=s/\∀ v∈jw,∃ i t,v=Value.int i t) _ ?_ ?_ _ _ ⟨rfl,rfl,qeg hi⟩
 ·rintro v jw r s' ⟨hr,rfl,hall⟩;obtain ⟨i,t,rfl⟩:=hall v List.mem_cons_self;refine wpAny_bind (wpAny_pure ?_);simp only [Bool.not_true,Bool.false_eq_true,if_false];exact wpAny_pure ⟨rfl,rfl,λu hu=>hall u (List.mem_cons_of_mem _ hu)⟩
 ·rintro ⟨r1,r2⟩ s' ⟨hr,rfl,_⟩;simp only at hr;subst hr;exact wpAny_pure (h _)
end
end Tb8
namespace Tb8
open PySem PyProof.Rows PySem.SetTable
section
variable {prog:Program} {w:World} {A:Around} {E:Value->Shared->Prop} {s:Shared}
def ent (prog:Program) (w:World) (q:List Int×Addr):Int×Value:=(hsh prog w q.1,.ref q.2)
structure PS (prog:Program) (w:World) (h:Heap) (S:Addr) (en:List (List Int×Addr)) (o:Obj) (es:Array (Int×Value)) (ep:Nat) (t:SetTable):Prop where
 ho:h.get? S=some o
 hc:o.ExactSet
 hd:o.data=.set es ep t
 he:es.toList=en.map (ent prog w)
 hP:∀ q∈en,IsP prog w h q.1 q.2
 ok:Ok8 t (en.map λq=>hsh prog w q.1)
 nd:(en.map (·.1)).Nodup
def PS.sz {h:Heap} {S:Addr} {en:List (List Int×Addr)} {o:Obj} {es:Array (Int×Value)} {ep:Nat} {t:SetTable} (p:PS prog w h S en o es ep t):es.size=en.length:=by
 have:=congrArg List.length p.he;simpa using this
def PS.fits {h:Heap} {S:Addr} {en:List (List Int×Addr)} {o:Obj} {es:Array (Int×Value)} {ep:Nat} {t:SetTable} (p:PS prog w h S en o es ep t):t.fits es.size=true:=by
 have a:=p.ok.sz;have b:=p.ok.fl;rw [length_map] at a b;have c:t.fill=t.place.size:=by unfold SetTable.fill;rw [p.ok.dm];rfl
 unfold SetTable.fits;rw [p.sz,c,a];simp [b]
def PS.at_ {h:Heap} {S:Addr} {en:List (List Int×Addr)} {o:Obj} {es:Array (Int×Value)} {ep:Nat} {t:SetTable} (p:PS prog w h S en o es ep t) (i:Nat):es[i]?=(en[i]?).map (ent prog w):=by
 rw [NH,p.he,getElem?_map]
def qhe {S:Addr} {en:List (List Int×Addr)} {o:Obj} {es:Array (Int×Value)} {ep:Nat} {t:SetTable} {k:List Int} {a:Addr} {e:Nat} {Q:SetFound->Shared->Prop} (hu:A.units<cLine) (p:PS prog w s.heap S en o es ep t) (hk:IsP prog w s.heap k a)
  (e0:e<10*turns t.mask) (e1:t.slot (pth t.mask (hsh prog w k) e).j=.empty) (e2:∀ m,m<e->t.slot (pth t.mask (hsh prog w k) m).j≠.empty)
  (q1:k∈en.map (·.1)->Q (.there none) s) (q2:k∉en.map (·.1)->Q (.free (pth t.mask (hsh prog w k) e).j false) s) :
  ∀ (d n fuel:Nat) (stand:Option Probe),e-n=d->n<=e->d<fuel->stand.getD (t.probeStart (hsh prog w k))=pth t.mask (hsh prog w k) n ->
   (∀ m,m<n->∀ i q,t.slot (pth t.mask (hsh prog w k) m).j=.live i->en[i]?=some q->q.1≠k) ->
   wpAny (model prog w) A (setSearchFrom S (.ref a) (hsh prog w k) true fuel stand) Q E s:=by
 intro d;induction d using Nat.strongRecOn with
 |_ d ih=>
  intro n fuel stand hd hn hf hst hno;obtain ⟨f,rfl⟩:∃ f,fuel=f+1:=⟨fuel-1,by omega⟩
  obtain ⟨H,hH⟩:∃ H:Nat->Int,H=λi=>(es[i]?.map (·.1)).getD 0:=⟨_,rfl⟩
  have hA:∀ i q,en[i]?=some q->H i=hsh prog w q.1:=λi q hq=>by rw [hH];simp only;rw [p.at_,hq];rfl
  -- the next that is met
  obtain ⟨m,hm1,⟨hm2,hm3⟩,hm4⟩:=qbl (P:=λm=>n<=m/\(t.slot (pth t.mask (hsh prog w k) m).j=.empty\/∃ i,t.slot (pth t.mask (hsh prog w k) m).j=.live i/\(H i==hsh prog w k)=true)) (n:=e) ⟨hn,.inl e1⟩;have sk:∀ x,x<m-n->∃ i,t.slot (pth t.mask (hsh prog w k) (n+x)).j=.live i/\(H i==hsh prog w k)=false:=λx hx=>by
   have b:=hm4 (n+x) (by omega);have c:¬ (t.slot (pth t.mask (hsh prog w k) (n+x)).j=.empty\/∃ i,t.slot (pth t.mask (hsh prog w k) (n+x)).j=.live i/\(H i==hsh prog w k)=true):=λz=>b ⟨by omega,z⟩;rcases TC p.ok.up p.ok.dm (pth t.mask (hsh prog w k) (n+x)).j with ⟨z,_⟩|⟨i,z,_⟩
   ·exact absurd (.inl z) c
   ·refine ⟨i,z,?_⟩;cases z2:(H i==hsh prog w k) with
    |true=>exact absurd (.inr ⟨i,z,z2⟩) c
    |false=>rfl
  have pr:t.probe H (hsh prog w k) (stand.getD (t.probeStart (hsh prog w k)))=SetTable.probe.go t H (hsh prog w k) (10*turns t.mask-(m-n)) (pth t.mask (hsh prog w k) m):=by
   rw [hst];show SetTable.probe.go t H (hsh prog w k) (10*turns t.mask) _=_;rw [qaJ (m-n) _ n sk (by omega),show n+(m-n)=m by omega]
  have gw:t.gaveWay=false:=by unfold SetTable.gaveWay;rw [p.ok.od];rfl
  unfold setSearchFrom;refine wpAny_bind (wpAny_setState_of p.ho p.hd p.fits ?_);simp only [gw,Bool.false_eq_true,if_false];rw [hH] at pr;rcases hm3 with hm3|⟨i,hm3,hm5⟩
  ·-- a free place
   obtain rfl:m=e:=by
    rcases Nat.lt_or_ge m e with z|z
    ·exact absurd hm3 (e2 m z)
    ·omega
   rw [qc8 hm3 (by omega)] at pr;generalize hX:t.probe _ _ _=X;obtain rfl:X=_:=hX.symm.trans pr;simp only;refine wpAny_pure (q2 λhin=>?_)
   -- it would have been met
   obtain ⟨q,hq,rfl⟩:=mem_map.mp hin;obtain ⟨i,hi⟩:=List.mem_iff_getElem?.mp hq;obtain ⟨j,hj⟩:∃ j,t.place[i]?=some j:=by
    have:=(List.getElem?_eq_some_iff.mp hi).1;have sz:=p.ok.sz;rw [length_map] at sz;exact ⟨_,XW (by omega)⟩
   obtain ⟨x,x1,x2⟩:=p.ok.wy i j (hsh prog w q.1) hj (by rw [getElem?_map,hi];rfl);have lv:t.slot (pth t.mask (hsh prog w q.1) x).j=.live i:=by rw [x1];exact VX p.ok.up hj
   have xe:x<m:=by
    rcases Nat.lt_trichotomy x m with z|z|z
    ·exact z
    ·rw [z,e1] at lv;cases lv
    ·exact absurd e1 (x2 m z)
   rcases Nat.lt_or_ge x n with z|z
   ·exact hno x z i q lv hi rfl
   ·refine hm4 x xe ⟨z,.inr ⟨i,lv,?_⟩⟩;rw [hA i q hi];simp
  ·-- one with the same hash
   rw [qgP hm3 (by rw [hH] at hm5;exact hm5) (by omega)] at pr;generalize hX:t.probe _ _ _=X;obtain rfl:X=_:=hX.symm.trans pr;simp only;have iP:∃ q,en[i]?=some q:=by
    rcases TC p.ok.up p.ok.dm (pth t.mask (hsh prog w k) m).j with ⟨z,_⟩|⟨i',z,z2⟩
    ·rw [z] at hm3;cases hm3
    ·rw [hm3] at z;cases z;have:=(qci z2).1;have sz:=p.ok.sz;rw [length_map] at sz;exact ⟨_,getElem?_eq_getElem (by omega)⟩
   obtain ⟨q,hq⟩:=iP;have hqP:=p.hP q (mem_of_getElem? hq);have ei:es[i]?=some (ent prog w q):=by rw [p.at_,hq];rfl
   have sm:t.sameMemory t.moves t.mask=some true:=by unfold SetTable.sameMemory;simp
   have me:m<e:=by
    rcases Nat.lt_or_ge m e with z|z
    ·exact z
    ·rw [show m=e by omega,e1] at hm3;cases hm3
   have jw:wpAny (model prog w) A (holding [Value.ref q.2] (eqBool (Value.ref q.2) (Value.ref a)) >>= λequal=>do
     let __x←setState S
     if (true&&equal)=true then pure (SetFound.there none)
     else match __x.2.snd.sameMemory t.moves t.mask with
      |some same=>match if same=true then __x.2.snd.slot (pth t.mask (hsh prog w k) m).j else Slot.empty with
       |Slot.live i'=>match __x.fst[i']? with
        |some (fst,y')=>do
         let __do_lift←isSame y' (Value.ref q.2)
         let still←pure (if __do_lift=true then some i' else none)
         match still with
          |none=>do
           rule "set.search.anew"
           setSearchFrom S (Value.ref a) (hsh prog w k) true f none
          |some i'=>if equal=true then pure (SetFound.there (some i')) else setSearchFrom S (Value.ref a) (hsh prog w k) true f (some (pth t.mask (hsh prog w k) (m+1)))
        |none=>do
         let still←pure none
         match still with
          |none=>do
           rule "set.search.anew"
           setSearchFrom S (Value.ref a) (hsh prog w k) true f none
          |some i'=>if equal=true then pure (SetFound.there (some i')) else setSearchFrom S (Value.ref a) (hsh prog w k) true f (some (pth t.mask (hsh prog w k) (m+1)))
       |x=>do
        let still←pure none
        match still with
         |none=>do
          rule "set.search.anew"
          setSearchFrom S (Value.ref a) (hsh prog w k) true f none
         |some i'=>if equal=true then pure (SetFound.there (some i')) else setSearchFrom S (Value.ref a) (hsh prog w k) true f (some (pth t.mask (hsh prog w k) (m+1)))
      |x=>unsupported "set.changed-during-lookup:is-the-new-block-at-the-old-address") Q E s:=by
    refine wpAny_bind (wpAny_holding (wpAny_eqBool_tuple hu hqP hk ?_));refine wpAny_bind (wpAny_setState_of p.ho p.hd p.fits ?_);by_cases c:q.1=k
    ·rw [decide_eq_true c];simp only [Bool.and_self,if_true];exact wpAny_pure (q1 (mem_map.mpr ⟨q,mem_of_getElem? hq,c⟩))
    ·rw [decide_eq_false c];simp only [Bool.and_false,Bool.false_eq_true,if_false,sm,if_true,hm3,ei,ent];refine wpAny_bind (wpAny_isSame_ref_self ?_);refine wpAny_bind (wpAny_pure ?_);simp only [if_true];refine ih (e-(m+1)) (by omega) (m+1) f _ rfl (by omega) (by omega) rfl λx hx i' q' hl hq'=>?_;rcases Nat.lt_or_ge x n with z|z
     ·exact hno x z i' q' hl hq'
     rcases Nat.lt_or_ge x m with z2|z2
     ·obtain ⟨i2,y1,y2⟩:=sk (x-n) (by omega);rw [show n+(x-n)=x by omega,hl] at y1;cases y1;rw [hA _ _ hq'] at y2;exact λz3=>by rw [z3] at y2;simp at y2
     ·obtain rfl:x=m:=by omega
      rw [hm3] at hl;cases hl;rw [hq] at hq';cases hq';exact c
   cases t.led with
   |true=>
    simp only [Bool.not_true,Bool.false_eq_true,if_false,ei,ent];exact jw
   |false=>
    simp only [Bool.not_false,if_true];refine wpAny_bind (qnE hk (λy hy=>?_) ?_)
    ·obtain ⟨x,hx,rfl⟩:=mem_map.mp hy;have hx2:x∈es.toList:=by
      have:=Array.mem_toList_iff.mp hx;exact Array.mem_toList_iff.mpr (Array.mem_of_mem_filter this)
     rw [p.he] at hx2;obtain ⟨q',hq',rfl⟩:=mem_map.mp hx2;exact ⟨q'.1,q'.2,rfl,p.hP q' hq'⟩
    ·simp only [Bool.false_eq_true,if_false,ei,ent];exact jw
end
end Tb8
namespace Tb8
open PySem PySem.SetTable
def own (ow:Array (Option Nat)) (j:Nat):Option Nat:=ow.getD j (some 0)
def LO {M:Nat} {h:Int} {c n:Nat} (e:pth M h n=hd M (lv M h c).1 (lv M h c).2) {k:Nat} (hk:(lv M h c).1+k<=runEnd M (lv M h c).1):(pth M h (n+k)).j=(lv M h c).1+k:=by
 have key:∀ k,(lv M h c).1+k<=runEnd M (lv M h c).1->pth M h (n+k)={ j:=(lv M h c).1+k,more:=runEnd M (lv M h c).1-((lv M h c).1+k),i:=(lv M h c).1,perturb:=(lv M h c).2,dummy:=none }:=by
  intro k;induction k with
  |zero=>intro _;exact e
  |succ k ih=>
   intro hk;have:=ih (by omega);rw [← Nat.add_assoc,pth,this,adv];simp only;rw [if_pos (by omega)];congr 1
 rw [key k hk]
def qcI {M:Nat} {h:Int} {c n:Nat} (e:pth M h n=hd M (lv M h c).1 (lv M h c).2):pth M h (n+(runEnd M (lv M h c).1-(lv M h c).1)+1)=hd M (lv M h (c+1)).1 (lv M h (c+1)).2:=by
 rw [pth,qng _ n _ e];rfl
def RK {n:Nat} {P:Nat->Bool} (h:(List.range n).find? P=none):∀ k,k<n->P k=false:=λk hk=>by
 have:=List.find?_eq_none.mp h k (mem_range.mpr hk);simpa using this
def qaQ {P:Nat->Bool}:∀ {n k:Nat},(List.range n).find? P=some k->k<n/\P k=true/\∀ i,i<k->P i=false:=by
 intro n;induction n with
 |zero=>intro k h;simp at h
 |succ n ih=>
  intro k h;rw [List.range_succ,List.find?_append] at h;cases e:(List.range n).find? P with
  |some k'=>
   rw [e] at h;simp at h;subst h;obtain ⟨a,b,c⟩:=ih e;exact ⟨by omega,b,c⟩
  |none=>
   rw [e] at h;simp [List.find?_cons] at h;split at h
   ·rename_i z;cases h;exact ⟨by omega,z,RK e⟩
   ·cases h
def qkA {M:Nat} {h:Int} {ow:Array (Option Nat)}:∀ (fuel c n:Nat),pth M h n=hd M (lv M h c).1 (lv M h c).2->(∀ m,m<n->own ow (pth M h m).j≠none)->(∃ c',c<=c'/\c'<c+fuel/\own ow (lv M h c').1=none) ->
  ∃ m,layClean.free M ow fuel (lv M h c).1 (lv M h c).2=some (pth M h m).j/\own ow (pth M h m).j=none/\∀ m',m'<m->own ow (pth M h m').j≠none
 |0,c,n,_,_,⟨c',h1,h2,_⟩=>by omega
 |fuel+1,c,n,e,hn,⟨c',h1,h2,h3⟩=>by
  have r:=K5 (qcD M h c);rw [layClean.free];cases f:(List.range (runEnd M (lv M h c).1+1-(lv M h c).1)).find? (λk=>(ow.getD ((lv M h c).1+k) (some 0)).isNone) with
  |some k=>
   obtain ⟨k1,k2,k3⟩:=qaQ f;refine ⟨n+k,?_,?_,λm' hm'=>?_⟩
   ·simp only;rw [LO e (by omega)]
   ·rw [LO e (by omega)];unfold own;exact Option.isNone_iff_eq_none.mp k2
   ·rcases Nat.lt_or_ge m' n with z|z
    ·exact hn m' z
    ·obtain ⟨x,rfl⟩:∃ x,m'=n+x:=⟨m'-n,by omega⟩
     rw [LO e (by omega)];have:=k3 x (by omega);unfold own;intro q;rw [q] at this;cases this
  |none=>
   have k3:=RK f;have all:∀ m,m<n+(runEnd M (lv M h c).1-(lv M h c).1)+1->own ow (pth M h m).j≠none:=λm hm=>by
    rcases Nat.lt_or_ge m n with z|z
    ·exact hn m z
    ·obtain ⟨x,rfl⟩:∃ x,m=n+x:=⟨m-n,by omega⟩
     rw [LO e (by omega)];have:=k3 x (by omega);unfold own;intro q;rw [q] at this;cases this
   have ne:c'≠c:=λz=>by
    subst z;have:=k3 0 (by omega);rw [Nat.add_zero] at this;unfold own at h3;rw [h3] at this;cases this
   exact qkA fuel (c+1) _ (qcI e) all ⟨c',by omega,by omega,h3⟩
structure Lay (M:Nat) (ow:Array (Option Nat)) (hs:List Int):Prop where
 sz:ow.size=M+1
 lt:∀ (j k:Nat),ow[j]?=some (some k)->k<hs.length
 ex:∀ k,k<hs.length->∃ j:Nat,ow[j]?=some (some k)
 un:∀ (j j' k:Nat),ow[j]?=some (some k)->ow[j']?=some (some k)->j=j'
 wy:∀ (j k:Nat) (h:Int),ow[j]?=some (some k)->hs[k]?=some h->∃ m,(pth M h m).j=j/\∀ x,x<m->own ow (pth M h x).j≠none
def EH {ow:Array (Option Nat)} {j:Nat} (h:j<ow.size):ow[j]?=some (own ow j):=by simp [own,Array.getD,h]
def qa7 {M:Nat} {h:Int} {n:Nat}:(pth M h n).j<=M:=by have:=qfu M h n;omega
def pig:∀ (b:Nat) (l:List Nat),(∀ x∈l,x<b)->l.Nodup->l.length<=b
 |0,l,h,_=>by
  cases l with
  |nil=>simp
  |cons a r=>exact absurd (h a (by simp)) (Nat.not_lt_zero a)
 |b+1,l,h,nd=>by
  have ih:=pig b (l.erase b) (λx hx=>by
   have q:=(List.Nodup.mem_erase_iff nd).mp hx;have:=h x q.2;have:=q.1;omega) (nd.erase b)
  rw [List.length_erase] at ih;split at ih<;>omega
def Lay.free {M:Nat} {ow:Array (Option Nat)} {hs:List Int} (l:Lay M ow hs) (hl:hs.length<=M):∃ c,c<=M/\own ow c=none:=by
 by_cases z:∃ c,c<=M/\own ow c=none
 ·exact z
 exfalso;have all:∀ c,c<=M->∃ k,ow[c]?=some (some k):=λc hc=>by
  have:=EH (ow:=ow) (j:=c) (by rw [l.sz];omega);cases q:own ow c with
  |none=>exact absurd ⟨c,hc,q⟩ z
  |some k=>exact ⟨k,by rw [this,q]⟩
 have inj:((List.range (M+1)).map λc=>(own ow c).getD 0).Nodup:=by
  rw [List.nodup_iff_pairwise_ne,List.pairwise_map];refine List.Pairwise.imp_of_mem (R:=(·<·)) (λ{a b} ha hb hab e=>?_) (List.pairwise_lt_range);obtain ⟨k1,h1⟩:=all a (by have:=mem_range.mp ha;omega);obtain ⟨k2,h2⟩:=all b (by have:=mem_range.mp hb;omega);have e1:=EH (ow:=ow) (j:=a) (by rw [l.sz];have:=mem_range.mp ha;omega);have e2:=EH (ow:=ow) (j:=b) (by rw [l.sz];have:=mem_range.mp hb;omega);rw [h1] at e1;rw [h2] at e2;rw [← Option.some.inj e1,← Option.some.inj e2] at e;simp only [Option.getD_some] at e;subst e;have:=l.un a b k1 h1 h2;omega
 have sub:∀ x∈((List.range (M+1)).map λc=>(own ow c).getD 0),x∈List.range hs.length:=λx hx=>by
  obtain ⟨c,hc,rfl⟩:=mem_map.mp hx;obtain ⟨k,hk⟩:=all c (by have:=mem_range.mp hc;omega);have e1:=EH (ow:=ow) (j:=c) (by rw [l.sz];have:=mem_range.mp hc;omega);rw [hk] at e1;rw [← Option.some.inj e1];exact mem_range.mpr (l.lt c k hk)
 have:=pig hs.length _ (λx hx=>mem_range.mp (sub x hx)) inj;simp at this;omega
def Lay.next {M:Nat} {ow:Array (Option Nat)} {hs:List Int} (F:NI M) (l:Lay M ow hs) (hl:hs.length<=M) (h:Int):∃ j,layClean.free M ow (turns M) (bits h%(M+1)) (bits h)=some j/\Lay M (ow.setIfInBounds j (some hs.length)) (hs++[h]):=by
 obtain ⟨c,hc,hf⟩:=l.free hl;obtain ⟨t,ht,e⟩:=F _ (qcD M h 13) c hc;obtain ⟨m,m1,m2,m3⟩:=qkA (M:=M) (h:=h) (ow:=ow) (turns M) 0 0 rfl (λm hm=>absurd hm (Nat.not_lt_zero m)) ⟨13+t,by omega,by unfold turns;omega,by rw [qbd,e];exact hf⟩;refine ⟨_,m1,?_⟩;obtain ⟨j,hj⟩:∃ j,j=(pth M h m).j:=⟨_,rfl⟩
 have jl:j<ow.size:=by rw [l.sz,hj];have:=qa7 (M:=M) (h:=h) (n:=m);omega
 rw [← hj] at m2 ⊢;have gt:∀ i:Nat,(ow.setIfInBounds j (some hs.length))[i]?=if j=i then some (some hs.length) else ow[i]?:=λi=>by
  rw [Array.getElem?_setIfInBounds];by_cases c:j=i
  ·rw [if_pos c,if_pos c,if_pos (by omega)]
  ·rw [if_neg c,if_neg c]
 have jn:ow[j]?=some none:=by rw [EH jl,m2]
 have on:∀ i,i<=M->own ow i≠none->own (ow.setIfInBounds j (some hs.length)) i≠none:=λi hi hn q=>by
  have s2:(ow.setIfInBounds j (some hs.length)).size=ow.size:=by simp
  have e1:=EH (ow:=ow.setIfInBounds j (some hs.length)) (j:=i) (by rw [s2,l.sz];omega);rw [gt,q] at e1;split at e1
  ·cases e1
  ·rw [EH (by rw [l.sz];omega)] at e1;exact hn (Option.some.inj e1)
 refine ⟨by simp [l.sz],λi k hk=>?_,λk hk=>?_,λi i' k h1 h2=>?_,λi k h' h1 h2=>?_⟩
 ·rw [gt] at hk;rw [length_append,List.length_singleton];split at hk
  ·cases hk;omega
  ·have:=l.lt i k hk;omega
 ·rw [length_append,List.length_singleton] at hk;rcases Nat.lt_or_ge k hs.length with z|z
  ·obtain ⟨i,hi⟩:=l.ex k z;refine ⟨i,?_⟩;rw [gt,if_neg (λq=>by rw [← q,jn] at hi;cases hi),hi]
  ·obtain rfl:k=hs.length:=by omega
   exact ⟨j,by rw [gt,if_pos rfl]⟩
 ·rw [gt] at h1 h2;split at h1
  ·rename_i q1;split at h2
   ·rename_i q2;omega
   ·cases h1;have:=l.lt i' _ h2;omega
  ·split at h2
   ·cases h2;have:=l.lt i _ h1;omega
   ·exact l.un i i' k h1 h2
 ·rw [gt] at h1;split at h1
  ·rename_i q;cases h1;rw [List.getElem?_append_right (by omega),Nat.sub_self] at h2;cases h2;exact ⟨m,by rw [← hj,q],λx hx=>on _ qa7 (m3 x hx)⟩
  ·have kl:=l.lt i k h1;rw [List.getElem?_append_left kl] at h2;obtain ⟨m',w1,w2⟩:=l.wy i k h' h1 h2;exact ⟨m',w1,λx hx=>on _ qa7 (w2 x hx)⟩
def Lay.start (M:Nat):Lay M (Array.replicate (M+1) none) []:=by
 have g:∀ j k:Nat,¬ (Array.replicate (M+1) (none:Option Nat))[j]?=some (some k):=λj k h=>by
  rw [Array.getElem?_replicate] at h;split at h<;>cases h
 exact ⟨by simp,λj k h=>absurd h (g j k),λk hk=>absurd hk (by simp),λj j' k h=>absurd h (g j k),λj k h q=>absurd q (g j k)⟩
def qb7 {M:Nat} (F:NI M):∀ (hs r:List Int) (ow:Array (Option Nat)),Lay M ow r->r.length+hs.length<=M+1 ->
  ∃ ow',hs.foldl (λacc h=>do
   let (owner,k)←acc
   let j←layClean.free M owner (turns M) (bits h%(M+1)) (bits h)
   pure (owner.setIfInBounds j (some k),k+1)) (some (ow,r.length))=some (ow',(r++hs).length)/\Lay M ow' (r++hs)
 |[],r,ow,l,_=>⟨ow,by simp,by simpa using l⟩
 |h::hs,r,ow,l,hl=>by
  rw [length_cons] at hl;obtain ⟨j,h1,h2⟩:=l.next F (by omega) h;have ih:=qb7 F hs (r++[h]) _ h2 (by rw [length_append,List.length_singleton];omega);rw [length_append,List.length_singleton,List.append_assoc] at ih;obtain ⟨ow',e1,e2⟩:=ih;refine ⟨ow',?_,e2⟩;rw [List.foldl_cons];simp only [Option.bind_eq_bind,Option.bind_some,h1,Option.pure_def];exact e1
def qkx {M:Nat} (F:NI M) {hs:Array Int} (hl:hs.size<=M+1):∃ ow,layClean M hs=some ow/\Lay M ow hs.toList:=by
 obtain ⟨ow,e1,e2⟩:=qb7 F hs.toList [] _ (Lay.start M) (by simpa using hl);refine ⟨ow,?_,by simpa using e2⟩;unfold layClean;rw [← Array.foldl_toList];rw [length_nil] at e1;rw [e1];rfl
def liv (M:Nat) (ow:Array (Option Nat)):List (Nat×Nat):=(List.range (M+1)).filterMap λj=>(ow.getD j none).map (j,·)
def VJ {M:Nat} {ow:Array (Option Nat)} {hs:List Int} (l:Lay M ow hs) {j k:Nat}:(j,k)∈liv M ow↔ow[j]?=some (some k):=by
 unfold liv;rw [List.mem_filterMap];constructor
 ·rintro ⟨x,hx,e⟩;obtain ⟨k',e1,e2⟩:=Option.map_eq_some_iff.mp e;cases e2;have:=mem_range.mp hx;have:j<ow.size:=by rw [l.sz];exact this
  have z:ow.getD j none=ow[j]:=by simp [Array.getD,this]
  rw [Array.getElem?_eq_getElem this,← z,e1]
 ·intro e;obtain ⟨h1,h2⟩:=Array.getElem?_eq_some_iff.mp e;refine ⟨j,mem_range.mpr (by rw [← l.sz];exact h1),?_⟩;have z:ow.getD j none=ow[j]:=by simp [Array.getD,h1]
  rw [z,h2];rfl
def qdE (M:Nat) (ow:Array (Option Nat)):((liv M ow).map (·.1)).Pairwise (·<·):=by
 unfold liv;rw [List.pairwise_map,List.pairwise_filterMap];refine List.Pairwise.imp (λ{a b} hab x hx y hy=>?_) List.pairwise_lt_range;obtain ⟨_,_,rfl⟩:=Option.map_eq_some_iff.mp hx;obtain ⟨_,_,rfl⟩:=Option.map_eq_some_iff.mp hy;exact hab
def qnA {l:List Nat} (h:l.Pairwise (·<·)):Up l.toArray:=by
 intro a b hab hb;have hb':b<l.length:=by simpa using hb
 have:=List.pairwise_iff_getElem.mp h a b (by omega) hb' hab;simpa [Array.getD,hb',show a<l.length by omega] using this
def LW {M:Nat} {ow:Array (Option Nat)} {hs:List Int} (l:Lay M ow hs):((liv M ow).map (·.2)).Perm (List.range hs.length):=by
 have nd:((liv M ow).map (·.2)).Nodup:=by
  rw [List.nodup_iff_pairwise_ne,List.pairwise_map];have u:=qdE M ow;rw [List.pairwise_map] at u;refine List.Pairwise.imp_of_mem (λ{a b} ha hb hab e=>?_) u;obtain ⟨a1,a2⟩:=a;obtain ⟨b1,b2⟩:=b;simp only at e hab;subst e;have:=l.un a1 b1 a2 ((VJ l).mp ha) ((VJ l).mp hb);omega
 refine (List.perm_ext_iff_of_nodup nd List.nodup_range).mpr λk=>?_;rw [mem_range,mem_map];constructor
 ·rintro ⟨⟨j,k'⟩,hq,rfl⟩;exact l.lt j _ ((VJ l).mp hq)
 ·intro hk;obtain ⟨j,hj⟩:=l.ex k hk;exact ⟨(j,k),(VJ l).mpr hj,rfl⟩
def qhc {M f mv:Nat} {led pl:Bool} {ow:Array (Option Nat)} {hs:List Int} (F:NI M) (od:M%2=1) (l:Lay M ow hs) (hl:hs.length<=M) :
  Ok8 { mask:=M,place:=((liv M ow).map (·.1)).toArray,dummies:=#[],finger:=f,led:=led,moves:=mv,plain:=pl } (((liv M ow).map (·.2)).map λk=>hs.getD k 0):=by
 have pm:=LW l;have ll:(liv M ow).length=hs.length:=by have:=pm.length_eq;simpa using this
 have up:Up ((liv M ow).map (·.1)).toArray:=qnA (qdE M ow);have at_:∀ (i j:Nat),((liv M ow).map (·.1)).toArray[i]?=some j->∃ k,(liv M ow)[i]?=some (j,k):=λi j h=>by
  rw [NH,getElem?_map] at h;obtain ⟨⟨a,b⟩,e1,e2⟩:=Option.map_eq_some_iff.mp h;exact ⟨b,by rw [e1];simp only at e2;rw [e2]⟩
 refine ⟨up,rfl,by simp [ll],by simp [ll];exact hl,λi j h=>?_,F,od,λi j h h1 h2=>?_⟩
 ·obtain ⟨k,hk⟩:=at_ i j h;have:=(VJ l).mp (mem_of_getElem? hk);have:=(Array.getElem?_eq_some_iff.mp this).1;rw [l.sz] at this;simp only;omega
 ·obtain ⟨k,hk⟩:=at_ i j h1;have o1:=(VJ l).mp (mem_of_getElem? hk);rw [getElem?_map,getElem?_map,hk] at h2;simp only [Option.map_some,Option.some.injEq] at h2;have kl:=l.lt j k o1;obtain ⟨m,m1,m2⟩:=l.wy j k h o1 (by rw [← h2,getD_eq_getElem?_getD,getElem?_eq_getElem kl];rfl);refine ⟨m,m1,λx hx=>?_⟩;have n1:=m2 x hx;have jl:(pth M h x).j<ow.size:=by rw [l.sz];have:=qa7 (M:=M) (h:=h) (n:=x);omega
  cases q:own ow (pth M h x).j with
  |none=>exact absurd q n1
  |some k'=>
   have o2:ow[(pth M h x).j]?=some (some k'):=by rw [EH jl,q]
   obtain ⟨i',hi'⟩:=List.mem_iff_getElem?.mp ((VJ l).mpr o2);have:((liv M ow).map (·.1)).toArray[i']?=some (pth M h x).j:=by rw [NH,getElem?_map,hi'];rfl
   rw [VX (t:={ mask:=M,place:=((liv M ow).map (·.1)).toArray,dummies:=#[],finger:=f,led:=led,moves:=mv,plain:=pl }) up this];exact λz=>by cases z
def qfT {t:SetTable} {hs:Array Int} {n M:Nat} (hM:sizeAbove n-1=M) (F:NI M) (od:M%2=1) (hl:hs.size<=M) :
  ∃ t' ord,t.relaid hs n=some (t',ord)/\ord.toList.Perm (List.range hs.size)/\Ok8 t' (ord.toList.map λk=>hs.toList.getD k 0)/\t'.mask=M:=by
 obtain ⟨ow,e1,e2⟩:=qkx F (hs:=hs) (by omega);refine ⟨{ mask:=M,place:=((liv M ow).map (·.1)).toArray,dummies:=#[],finger:=t.finger,led:=t.led,moves:=t.movedTo M,plain:=t.plain },((liv M ow).map (·.2)).toArray,?_,?_,?_,rfl⟩
 ·unfold SetTable.relaid SetTable.laid;rw [hM,e1];rfl
 ·have:=LW e2;simpa using this
 ·exact qhc F od e2 (by simpa using hl)
end Tb8
namespace Tb8
open PySem PyProof.Rows PySem.SetTable
section
variable {prog:Program} {w:World} {A:Around} {E:Value->Shared->Prop} {s:Shared}
def IsP.other {h h':Heap} {S a:Addr} {k:List Int} (p:IsP prog w h k a) (n:a≠S) (sb:Heap.SameBut S h h'):IsP prog w h' k a:=by
 obtain ⟨o,items,m,ho,r⟩:=p;exact ⟨o,items,m,(sb.2 a n).trans ho,r⟩
def PS.ne {h:Heap} {S:Addr} {en:List (List Int×Addr)} {o:Obj} {es:Array (Int×Value)} {ep:Nat} {t:SetTable} (p:PS prog w h S en o es ep t) {k:List Int} {a:Addr} (hk:IsP prog w h k a):a≠S:=by
 rintro rfl;obtain ⟨o',items,m,ho,hc,_⟩:=hk;obtain rfl:o'=o:=Option.some.inj (ho.symm.trans p.ho);have z:=hc.symm.trans p.hc.1;injection z with z;exact absurd z (by decide)
def PS.store {h:Heap} {S:Addr} {en en':List (List Int×Addr)} {o:Obj} {es es':Array (Int×Value)} {ep:Nat} {t t':SetTable} (p:PS prog w h S en o es ep t) (he:es'.toList=en'.map (ent prog w)) (hP:∀ q∈en',IsP prog w h q.1 q.2) (ok:Ok8 t' (en'.map λq=>hsh prog w q.1)) (nd:(en'.map (·.1)).Nodup) :
  ∃ o',PS prog w (h.update S (Obj.putSet es' t')) S en' o' es' (ep+1) t':=by
 have hp:Obj.putSet es' t' o={ o with data:=.set es' (ep+1) t' }:=by
  obtain ⟨c,d,da,sl⟩:=o;have hd:da=.set es ep t:=p.hd;subst hd;rfl
 have hg:(h.update S (Obj.putSet es' t')).get? S=some { o with data:=.set es' (ep+1) t' }:=by
  have:=Heap.get?_update_self (Obj.putSet es' t') p.ho (by rw [hp];rfl);rw [hp] at this;exact this
 exact ⟨_,hg,p.hc,rfl,he,λq hq=>(hP q hq).other (p.ne (hP q hq)) (.update ..),ok,nd⟩
def CD {α β:Type} {l:List α} {f:α->β} {g:α->Option β}:(∀ x∈l,g x=some (f x))->l.filterMap g=l.map f:=by
 induction l with
 |nil=>intro _;rfl
 |cons x r ih=>
  intro h;rw [List.filterMap_cons,h x (by simp),map_cons,ih λy hy=>h y (by simp [hy])]
def qfy {S:Addr} {en:List (List Int×Addr)} {o:Obj} {es:Array (Int×Value)} {ep:Nat} {t:SetTable} {n M:Nat} {Q:Unit->Shared->Prop} (p:PS prog w s.heap S en o es ep t) (hM:sizeAbove n-1=M) (hs:sizeAbove n<=1000) (F:NI M) (od:M%2=1) (hl:en.length<=M)
  (h:∀ h' en' o' es' ep' t',PS prog w h' S en' o' es' ep' t'->t'.mask=M->en'.Perm en->Heap.SameBut S s.heap h'->Q () { s with heap:=h' }):wpAny (model prog w) A (setRelay S n) Q E s:=by
 have sz:=p.sz;obtain ⟨t',ord,e1,e2,e3,e4⟩:=qfT (t:=t) (hs:=es.map (·.1)) hM F od (by simpa [sz] using hl);have e2':ord.toList.Perm (List.range en.length):=by simpa [sz] using e2
 obtain ⟨g,hg⟩:∃ g:Nat->List Int×Addr,g=λk=>en.getD k ([],0):=⟨_,rfl⟩
 have gl:∀ k∈ord.toList,k<en.length:=λk hk=>mem_range.mp (e2'.mem_iff.mp hk);have ga:∀ k,k<en.length->en[k]?=some (g k):=λk hk=>by rw [hg];simp [getD_eq_getElem?_getD,getElem?_eq_getElem hk]
 have pm:(ord.toList.map g).Perm en:=by
  refine (e2'.map g).trans ?_;have:(List.range en.length).map g=en:=by
   refine List.ext_getElem? λi=>?_;rw [getElem?_map];by_cases c:i<en.length
   ·rw [List.getElem?_range c,ga i c];rfl
   ·rw [List.getElem?_eq_none (by simpa using c),List.getElem?_eq_none (by simpa using c)];rfl
  rw [this]
 obtain ⟨es',he'⟩:∃ es',es'=ord.filterMap (es[·]?):=⟨_,rfl⟩
 have hes:es'.toList=(ord.toList.map g).map (ent prog w):=by
  rw [he',Array.toList_filterMap,map_map];exact CD λk hk=>by rw [p.at_,ga k (gl k hk)];rfl
 have es'z:es'.size=es.size:=by
  rw [← Array.length_toList,hes,length_map,pm.length_eq,sz]
 have ok:Ok8 t' ((ord.toList.map g).map λq=>hsh prog w q.1):=by
  have:((ord.toList.map g).map λq=>hsh prog w q.1)=ord.toList.map λk=>((es.map (·.1)).toList).getD k 0:=by
   rw [map_map];refine List.map_congr_left λk hk=>?_;rw [Array.toList_map,p.he,map_map,getD_eq_getElem?_getD,getElem?_map,ga k (gl k hk)];rfl
  rw [this];exact e3
 obtain ⟨o',q⟩:=p.store (en':=ord.toList.map g) hes (λq hq=>p.hP q (pm.mem_iff.mp hq)) ok ((pm.map _).nodup_iff.mpr p.nd);unfold setRelay;refine wpAny_bind (wpAny_setState_of p.ho p.hd p.fits ?_);dsimp only;rw [if_neg (by rw [sizeLine_eq];omega)];refine wpAny_bind ?_;rw [e1];show wpAny (model prog w) A (do
  if (ord.filterMap (es[·]?)).size != es.size then unsupported "internal:set-table-lost-an-element"
  pure (ord.filterMap (es[·]?),t')) _ E s
 rw [← he',es'z];simp only [bne_self_eq_false,Bool.false_eq_true,if_false];refine wpAny_bind (wpAny_pure ?_);refine wpAny_pure ?_;refine wpAny_storeSet_of p.ho p.hd ?_ (by rw [es'z,sz,sizeLine_eq];omega);exact h _ _ _ _ _ _ q e4 pm (.update ..)
def Gd (t:SetTable) (n:Nat):Prop:=(t.mask=7/\n<=4)\/(t.mask=31/\n<=18)\/(t.mask=127/\n<=76)
def qpt {S a:Addr} {en:List (List Int×Addr)} {o:Obj} {es:Array (Int×Value)} {ep:Nat} {t:SetTable} {k:List Int} {Q:Bool->Shared->Prop} (hu:A.units<cLine) (p:PS prog w s.heap S en o es ep t) (g:Gd t en.length) (hn:en.length<76) (hk:IsP prog w s.heap k a)
  (h:∀ b h' en' o' es' ep' t',PS prog w h' S en' o' es' ep' t'->Gd t' en'.length->(∀ q∈en',q∈en\/q=(k,a))->(∀ x,x∈en'.map (·.1)↔x∈en.map (·.1)\/x=k)->(k∈en.map (·.1)->en'.length=en.length)->(k∉en.map (·.1)->en'.length=en.length+1)->Heap.SameBut S s.heap h'->Q b { s with heap:=h' }) :
  wpAny (model prog w) A (setAddHashed S (.ref a) (hsh prog w k)) Q E s:=by
 obtain ⟨e,e0,e1,e2⟩:=MW (t:=t) (h:=hsh prog w k) p.ok.fu p.ok.up p.ok.dm (by have:=p.ok.sz;have:=p.ok.fl;simp at *;omega);have tm:t.mask<=127:=by rcases g with g|g|g<;>omega
 unfold setAddHashed;refine wpAny_holding ?_;unfold setAddHashedIn;refine wpAny_bind (wpAny_setState_of p.ho p.hd p.fits ?_);have bs:byScan (.ref a) es=false:=rfl;simp only [bs,Bool.false_eq_true,if_false];unfold setSearch;refine wpAny_bind (qhe (e:=e) hu p hk e0 e1 e2 (λhin=>?_) (λhin=>?_) e 0 100000 none (by omega) (Nat.zero_le _) (by unfold turns at e0;omega) rfl λm hm=>absurd hm (Nat.not_lt_zero m))
 ·exact wpAny_pure (h _ s.heap en o es ep t p g (λq hq=>.inl hq) (λx=>⟨.inl,λz=>z.elim id λz=>z▸hin⟩) (λ_=>rfl) (λz=>absurd hin z) (.refl ..))
 simp only;refine wpAny_bind (wpAny_setState_of p.ho p.hd p.fits ?_);obtain ⟨j,hj⟩:∃ j,j=(pth t.mask (hsh prog w k) e).j:=⟨_,rfl⟩
 rw [← hj] at e1 ⊢;obtain ⟨pl,ok1,mk1⟩:=p.ok.put (h:=hsh prog w k) e1 (by rw [hj];exact qa7) (by rcases g with g|g|g<;>(rw [length_map];omega)) ⟨e,hj.symm,λm hm=>e2 m hm⟩;simp only;generalize ht1:(t.put j).1=t1 at *;generalize hp1:(t.put j).2=pp at *;rw [length_map] at pl;have sz:=p.sz;have hes:(insertAt es pp (hsh prog w k,.ref a)).toList=(ins en pp (k,a)).map (ent prog w):=by
  rw [U3 _ _ _ (by rw [sz];exact pl),p.he];unfold ins;rw [List.map_append,map_cons,List.map_take,List.map_drop];rfl
 have hhs:(ins en pp (k,a)).map (λq=>hsh prog w q.1)=ins (en.map λq=>hsh prog w q.1) pp (hsh prog w k):=by
  unfold ins;rw [List.map_append,map_cons,List.map_take,List.map_drop]
 have pm:(ins en pp (k,a)).Perm ((k,a)::en):=by
  unfold ins;refine List.perm_middle.trans ?_;rw [List.take_append_drop]
 have il:(ins en pp (k,a)).length=en.length+1:=CT pl;have hP:∀ q∈ins en pp (k,a),IsP prog w s.heap q.1 q.2:=λq hq=>by
  rcases mem_cons.mp (pm.mem_iff.mp hq) with rfl|z
  ·exact hk
  ·exact p.hP q z
 have nd:((ins en pp (k,a)).map (·.1)).Nodup:=by
  rw [(pm.map _).nodup_iff,map_cons,List.nodup_cons];exact ⟨hin,p.nd⟩
 have sub:∀ q∈ins en pp (k,a),q∈en\/q=(k,a):=λq hq=>(mem_cons.mp (pm.mem_iff.mp hq)).elim .inr .inl;have mem:∀ x,x∈(ins en pp (k,a)).map (·.1)↔x∈en.map (·.1)\/x=k:=λx=>by
  rw [(pm.map _).mem_iff,map_cons,mem_cons];exact ⟨λz=>z.elim .inr .inl,λz=>z.elim .inr .inl⟩
 have main:∀ pl:Bool,wpAny (model prog w) A (do
   storeSet S (insertAt es pp (hsh prog w k,.ref a)) { t1 with plain:=pl }
   if (!false&&({ t1 with plain:=pl }:SetTable).tooFull)=true then setRelay S (grown (es.size+1))
   pure true) Q E s:=λb=>by
  have ok2:Ok8 { t1 with plain:=b } ((ins en pp (k,a)).map λq=>hsh prog w q.1):=by
   rw [hhs];exact ⟨ok1.up,ok1.dm,ok1.sz,ok1.fl,ok1.le,ok1.fu,ok1.od,ok1.wy⟩
  obtain ⟨o',q⟩:=p.store (t':={ t1 with plain:=b }) hes hP ok2 nd;have iz:(insertAt es pp (hsh prog w k,.ref a)).size=en.length+1:=by rw [← Array.length_toList,hes,length_map,il]
  refine wpAny_bind (wpAny_storeSet_of p.ho p.hd ?_ (by rw [iz,sizeLine_eq];omega));have fl:({ t1 with plain:=b }:SetTable).fill=en.length+1:=by
   have z:=ok2.sz;rw [length_map,il] at z;unfold SetTable.fill;rw [ok2.dm,z];rfl
  have tf:({ t1 with plain:=b }:SetTable).tooFull=decide ((en.length+1)*5 ≥ t.mask*3):=by
   unfold SetTable.tooFull;rw [fl,show ({ t1 with plain:=b }:SetTable).mask=t.mask from mk1]
  rw [tf];by_cases c:(en.length+1)*5 ≥ t.mask*3
  ·rw [decide_eq_true c];simp only [Bool.not_false,Bool.and_self,if_true];have n5:(en.length=4/\t.mask=7)\/(en.length=18/\t.mask=31):=by rcases g with g|g|g<;>omega
   rcases n5 with n5|n5
   rotate_left
   ·have hM:sizeAbove (grown (es.size+1))-1=127:=by rw [sz,n5.1];rfl
    have hM2:sizeAbove (grown (es.size+1))<=1000:=by rw [sz,n5.1];decide
    refine wpAny_bind (qfy (s:={ s with heap:=s.heap.update S (Obj.putSet (insertAt es pp (hsh prog w k,.ref a)) { t1 with plain:=b }) }) q hM hM2 qgm rfl (by rw [il];omega) λh' en' o'' es'' ep'' t'' q' mk pe sb=>?_);refine wpAny_pure (h _ h' en' o'' es'' ep'' t'' q' (.inr (.inr ⟨mk,by rw [pe.length_eq,il];omega⟩)) (λq hq=>sub q (pe.mem_iff.mp hq)) (λx=>by rw [(pe.map _).mem_iff];exact mem x) (λz=>absurd z hin) (λ_=>by rw [pe.length_eq,il]) (.trans (.update ..) sb))
   have hM:sizeAbove (grown (es.size+1))-1=31:=by rw [sz,n5.1];rfl
   have hM2:sizeAbove (grown (es.size+1))<=1000:=by rw [sz,n5.1];decide
   refine wpAny_bind (qfy (s:={ s with heap:=s.heap.update S (Obj.putSet (insertAt es pp (hsh prog w k,.ref a)) { t1 with plain:=b }) }) q hM hM2 qk9 rfl (by rw [il];omega) λh' en' o'' es'' ep'' t'' q' mk pe sb=>?_);refine wpAny_pure (h _ h' en' o'' es'' ep'' t'' q' (.inr (.inl ⟨mk,by rw [pe.length_eq,il];omega⟩)) (λq hq=>sub q (pe.mem_iff.mp hq)) (λx=>by rw [(pe.map _).mem_iff];exact mem x) (λz=>absurd z hin) (λ_=>by rw [pe.length_eq,il]) (.trans (.update ..) sb))
  ·rw [decide_eq_false c];simp only [Bool.not_false,Bool.and_false,Bool.false_eq_true,if_false];refine wpAny_bind (wpAny_pure (wpAny_pure ?_));refine h _ _ _ _ _ _ _ q ?_ sub mem (λz=>absurd z hin) (λ_=>il) (.update ..);have mk2:({ t1 with plain:=b }:SetTable).mask=t.mask:=mk1;unfold Gd;rw [mk2,il];rcases g with g|g|g<;>omega
 refine wpAny_ite ?_;split
 ·refine wpAny_bind (qpC hk λb=>?_);cases b with
  |true=>
   simp only [if_true];exact main t1.plain
  |false=>
   simp only [Bool.false_eq_true,if_false];exact main false
 ·refine wpAny_bind (wpAny_pure ?_);simp only [if_true];exact main t1.plain
end
def cnt (key:Nat->List Int):Nat->Nat
 |0=>0
 |j+1=>if ∃ i,i<j/\key i=key j then cnt key j else cnt key j+1
def LI (key:Nat->List Int):∀ j,cnt key j<=j
 |0=>Nat.le_refl _
 |j+1=>by
  have:=LI key j;unfold cnt;split<;>omega
def qe9 (prog:Program) (w:World) (h:Heap) (S:Addr) (n:Nat):Prop:=∃ en o es ep t,PS prog w h S en o es ep t/\en.length=n
section
variable {prog:Program} {w:World} {A:Around} {R:Result->Shared->Prop} {I:Addr} {fp wr:List Addr} {n:Nat} {P:Nat->Value->Prop} {St:Nat->Heap->Prop}
def PS.keep {h h':Heap} {S:Addr} {en:List (List Int×Addr)} {o:Obj} {es:Array (Int×Value)} {ep:Nat} {t:SetTable} (p:PS prog w h S en o es ep t) (k:h'.get? S=some o) (ki:∀ q∈en,IsP prog w h' q.1 q.2):PS prog w h' S en o es ep t:=⟨k,p.hc,p.hd,p.he,ki,p.ok,p.nd⟩
def IsP.keep {h h':Heap} {k:List Int} {a:Addr} (p:IsP prog w h k a) (hk:∀ o,h.get? a=some o->h'.get? a=some o):IsP prog w h' k a:=by
 obtain ⟨o,items,m,ho,r⟩:=p;exact ⟨o,items,m,hk o ho,r⟩
def qm2 (W:Walks prog w A.in1 I fp wr n P St) (key:Nat->List Int) (ad:Nat->Addr) (hval:∀ i v,P i v->v=.ref (ad i)) (S:Addr) (hSf:S∉fp) (hu:A.in1.units<cLine) (hn:n<=76) (had:∀ i,i<n->ad i∉wr) :
  ∀ (k j:Nat) (s:Shared) (en:List (List Int×Addr)) (o:Obj) (es:Array (Int×Value)) (ep:Nat) (t:SetTable),n-j=k->j<=n->St j s.heap->PS prog w s.heap S en o es ep t->Gd t en.length->(∀ q∈en,q.2∉wr) ->
  (∀ x,x∈en.map (·.1)↔∃ i,i<j/\key i=x)->en.length=cnt key j->(∀ i,i<n->IsP prog w s.heap (key i) (ad i)) ->
  (∀ h' tk,qe9 prog w h' S (cnt key n)->(∀ b o,b∉wr->b≠S->s.heap.get? b=some o->h'.get? b=some o)->R (.ok (.ret .none)) { s with heap:=h',toks:=tk }) ->
  codeAny (model prog w) A (.builtin "set.update.loop" ⟨[.ref S,.ref I],[]⟩) R s:=by
 have hSw:S∉wr:=λh=>hSf (W.sub _ h);intro k;induction k with
 |zero=>
  intro j s en o es ep t hk hj hst p g hw hm hc hP hR;obtain rfl:j=n:=by omega
  refine codeAny_builtin F.entry_set_update_loop ?_;rw [Around.under_plainId F.plain_set_update_loop _];show wpAny _ A.in1 (pyNext (.ref I) >>= _) _ _ s;refine wpAny_bind (W.done s _ _ hst λh' tk kp=>?_);show wpAny _ A.in1 (ret Value.none) _ _ _;exact wpAny_pure (hR h' tk ⟨en,o,es,ep,t,p.keep (kp S _ hSw p.ho) (λq hq=>(p.hP q hq).keep λo e=>kp _ o (hw q hq) e),hc⟩ λb o hb _ e=>kp b o hb e)
 |succ k ih=>
  intro j s en o es ep t hk hj hst p g hw hm hc hP hR;have lt:j<n:=by omega
  refine codeAny_builtin F.entry_set_update_loop ?_;rw [Around.under_plainId F.plain_set_update_loop _];show wpAny _ A.in1 (pyNext (.ref I) >>= _) _ _ s;refine wpAny_bind (W.item j s _ _ lt hst λv h' tk hv hst' kp=>?_);obtain rfl:=hval j v hv;have p':PS prog w h' S en o es ep t:=p.keep (kp S _ hSw p.ho) (λq hq=>(p.hP q hq).keep λo e=>kp _ o (hw q hq) e);have hP':∀ i,i<n->IsP prog w h' (key i) (ad i):=λi hi=>(hP i hi).keep λo e=>kp _ o (had i hi) e;show wpAny _ A.in1 (holding [Value.ref (ad j)] (setAdd S (.ref (ad j))) >>= _) _ _ _;refine wpAny_bind (wpAny_holding ?_);unfold setAdd;refine wpAny_holding ?_;refine wpAny_bind (wpAny_pyHash_tuple hu (hP' j lt) ?_);refine qpt (s:={ s with heap:=h',toks:=tk+((key j).length+1) }) hu p' g (by have:=LI key j;omega) (hP' j lt) λb h'' en' o' es' ep' t' q g' sub mem l1 l2 sb=>?_;refine wpAny_pure ⟨plainId_quiet F.plain_set_update_loop _,ih (j+1) _ en' o' es' ep' t' (by omega) lt (W.frame _ _ _ hst' λb hb o e=>?_) q g' ?_ (λx=>?_) ?_ (λi hi=>?_) λh3 tk3 hS3 kp3=>?_⟩
  ·exact (sb.2 b (λz:b=S=>hSf (by rw [← z];exact hb))).trans e
  ·intro q' hq';rcases sub q' hq' with z|rfl
   ·exact hw q' z
   ·exact had j lt
  ·rw [mem,hm];constructor
   ·rintro (⟨i,h1,h2⟩|rfl)
    ·exact ⟨i,by omega,h2⟩
    ·exact ⟨j,by omega,rfl⟩
   ·rintro ⟨i,h1,h2⟩;rcases Nat.lt_or_ge i j with z|z
    ·exact .inl ⟨i,z,h2⟩
    ·obtain rfl:i=j:=by omega
     exact .inr h2.symm
  ·unfold cnt;split
   ·rename_i c;rw [l1 ((hm _).mpr c),hc]
   ·rename_i c;rw [l2 (λz=>c ((hm _).mp z)),hc]
  ·exact (hP' i hi).other (p'.ne (hP' i hi)) sb
  ·exact hR h3 tk3 hS3 λb o hb hbS e=>kp3 b o hb hbS ((sb.2 b hbS).trans (kp b o hb e))
end
section
variable {prog:Program} {w:World} {A:Around} {E:Value->Shared->Prop} {s:Shared}
structure Tt (prog:Program) (w:World) (h:Heap) (l:Addr) (vs:Array Value) (key:Nat->List Int) (ad:Nat->Addr):Prop where
 tu:h.IsTuple l vs
 at_:∀ (i:Nat) v,vs[i]?=some v->v=.ref (ad i)
 is:∀ i,i<vs.size->IsP prog w h (key i) (ad i)
def Tt.lt {h:Heap} {l:Addr} {vs:Array Value} {key:Nat->List Int} {ad:Nat->Addr} (T:Tt prog w h l vs key ad) {i:Nat} (hi:i<vs.size):ad i<h.objs.size:=by
 obtain ⟨o,_,_,e,_⟩:=T.is i hi;exact Heap.lt_size e
def qnT {l:Addr} {vs:Array Value} {key:Nat->List Int} {ad:Nat->Addr} {led:Bool} {Q:PySem.Fin->Shared->Prop} {E':Value->Shared->Prop} (hh:A.handled=none) (hu:A.in1.units<cLine) (T:Tt prog w s.heap l vs key ad) (hb:vs.size<=76)
  (h:∀ h' tk,qe9 prog w h' s.heap.objs.size (cnt key vs.size)->(∀ b o,b<s.heap.objs.size->s.heap.get? b=some o->h'.get? b=some o)->wpAny (model prog w) A (ret Value.none) Q E' { s with heap:=h',toks:=tk }) :
  wpAny (model prog w) A (Builtin.«set.__init__» ⟨[.ref s.heap.objs.size,.ref l],[]⟩) Q E' { s with heap:=s.heap.push (HT.oS led) }:=by
 obtain ⟨⟨oc,od,da,os⟩,hg,hc,nl,hd⟩:=id T.tu;simp only at hc hd;subst hc hd;have hS:(s.heap.push (HT.oS led)).get? s.heap.objs.size=some (HT.oS led):=Heap.get?_push_size _ rfl;have hg':(s.heap.push (HT.oS led)).get? l=some { cls:=.type "tuple",dict:=od,data:=.seq vs nl,slots:=os }:=Heap.get?_push_of_some _ hg;have h1:=F.sub_tuple_set;have h2:=F.sub_tuple_frozenset;have ne:(Value.type "tuple" == Value.type "dict")=false:=by decide
 have hl1:=T.tu.push (HT.oS led);unfold Builtin.«set.__init__» noKeywords Builtin.Frozenset.updateFrom;generalize hPI:pyIter=PI
 wp_walk
 subst hPI;refine wpAny_pyIter_tuple hl1 ?_;refine wpAny_bind (wpAny_runValue ?_);have ll:l<s.heap.objs.size:=Heap.lt_size hg;have sz:(s.heap.push (HT.oS led)).objs.size=s.heap.objs.size+1:=Heap.size_push ..;refine qm2 (Walks.tuple (show A.in1.handled=none by simp [hh]) (s.heap.push (HT.oS led)).objs.size l (by rw [sz];exact Nat.ne_of_lt (Nat.lt_succ_of_lt ll)) vs) key ad T.at_ s.heap.objs.size
  (by rw [sz];simp only [mem_cons,not_mem_nil,or_false,not_or];exact ⟨Nat.ne_of_lt (Nat.lt_succ_self _),Nat.ne_of_gt ll⟩) hu hb (λi hi=>?_) vs.size 0 _ [] (HT.oS led) #[] 0 (.fresh 0 0 led) rfl (Nat.zero_le _) ⟨⟨_,Heap.get?_push_size _ rfl,rfl,rfl⟩,hl1.push _⟩ ?_ (.inl ⟨rfl,Nat.zero_le _⟩) (λq hq=>by cases hq) (λx=>?_) rfl (λi hi=>?_) ?_
 ·rw [sz];simp only [mem_cons,not_mem_nil,or_false];exact Nat.ne_of_lt (Nat.lt_succ_of_lt (T.lt hi))
 ·exact ⟨Heap.get?_push_of_some _ hS,⟨rfl,rfl,rfl⟩,rfl,rfl,λq hq=>(by cases hq),Ok8.fresh ..,by simp⟩
 ·simp
 ·exact (T.is i hi).keep λo e=>Heap.get?_push_of_some _ (Heap.get?_push_of_some _ e)
 ·intro h' tk hS' kp;show wpAny _ _ _ _ _ _;refine wpAny_pure (h h' tk hS' λb o hb e=>kp b o ?_ ?_ (Heap.get?_push_of_some _ (Heap.get?_push_of_some _ e)))
  ·rw [sz];simp only [mem_cons,not_mem_nil,or_false];exact Nat.ne_of_lt (Nat.lt_succ_of_lt hb)
  ·exact Nat.ne_of_lt hb
def qaf {l:Addr} {vs:Array Value} {key:Nat->List Int} {ad:Nat->Addr} {Q:Value->Shared->Prop} (hh:A.handled=none) (hu:A.units+8<cLine) (T:Tt prog w s.heap l vs key ad) (hb:vs.size<=76)
  (h:∀ h' tk,qe9 prog w h' s.heap.objs.size (cnt key vs.size)->(∀ b o,b<s.heap.objs.size->s.heap.get? b=some o->h'.get? b=some o)->Q (.ref s.heap.objs.size) { s with heap:=h',toks:=tk }) :
  wpAny (model prog w) A (call (.type "set") [.ref l]) Q E s:=by
 have C:=F.called_set;obtain ⟨c,tl,m1⟩:=C.mro;have m2:=C.made;have m3:=C.sub;have m4:=C.notType;have m5:=C.canCreate;have m6:=F.typeCall_set_1 (.ref l);refine wpAny_call (codeAny_of_tree ?_);show wpAny _ _ (callAny (.type "set") _) _ _ _;refine wpAny_pure ⟨Code.quiet_builtin _ (by decide +kernel),codeAny_builtin F.entry_type_call ?_⟩;rw [Around.under_plain (weight_type_call_type "set" [.ref l] []) rfl]
 repeat (any_goals (first|assumption|wp_step))
 refine codeAny_mono (code_set_new_1 (.ref l) (E:=E) (Q₁:=λv s₁=>∃ led,v=.ref s.heap.objs.size/\s₁={ s with heap:=s.heap.push (HT.oS led) }) λled=>⟨led,rfl,rfl⟩) λr s₁ hr=>?_;rcases r with e|f
 ·exact hr
 cases f<;>try exact hr.elim
 obtain ⟨led,rfl,rfl⟩:=hr;have hT:Shared.TypeIs { s with heap:=s.heap.push (HT.oS led) } (.ref s.heap.objs.size) "set" := ⟨_,Heap.get?_push_size _ rfl,rfl⟩
 have n1:=C.init.lookup;have n2:=C.init.bind (.ref s.heap.objs.size)
 repeat (any_goals (first|assumption|wp_step))
 refine codeAny_mono (codeAny_call_builtin (R:=wants (λr s₂=>r=.none/\∃ h' tk,s₂={ s with heap:=h',toks:=tk }/\qe9 prog w h' s.heap.objs.size (cnt key vs.size)/\∀ b o,b<s.heap.objs.size->s.heap.get? b=some o->h'.get? b=some o) E) C.init.plain F.entry_set_init (check_set_init_1 hT (qnT (by simp [hh]) (by simp;omega) T hb λh' tk hS hk=>wpAny_pure ⟨rfl,h',tk,rfl,hS,hk⟩))) λr₂ s₂ hr₂=>?_;rcases r₂ with e|f
 ·exact hr₂
 cases f<;>try exact hr₂.elim
 obtain ⟨rfl,h',tk,rfl,hS,hk⟩:=hr₂
 repeat (any_goals (first|assumption|wp_step))
 exact h _ _ hS hk
def qan {S:Addr} {n:Nat} {Q:Value->Shared->Prop} (p:qe9 prog w s.heap S n) (hn:n<=1000) (h:Q (.int n (s.toks+1)) { s with toks:=s.toks+1+1 }):wpAny (model prog w) A (call (.builtin "len") [.ref S]) Q E s:=by
 obtain ⟨en,o,es,ep,t,q,e⟩:=p;refine call_len_set q.ho q.hc q.hd q.fits (by rw [q.sz];omega) ?_;rw [q.sz,e];exact h
end
end Tb8
namespace L3
open PySem PySem.Spec PyProof.Rows L2
section
variable {X:Cx}
inductive Tks (K:Frg) (H:Hp):List V->List (List Int)->Prop
 |nil:Tks K H [] []
 |cons {a:Addr} {k:List Int} {vs:List V} {ks:List (List Int)}:SqT K H a (k.map V.int)->Tks K H vs ks->Tks K H (.ref a::vs) (k::ks)
def kAt (ks:List (List Int)) (i:Nat):List Int:=ks.getD i []
def L8 {prog:Program} {w:World}:∀ {k:List Int} {its:List Value},zI (k.map V.int) its->ItemsAre (intKind prog w) k its
 |[],_,r=>by cases r;exact .nil
 |i::k,_,r=>by
  cases r with
  |cons a b=>
   obtain ⟨t,rfl⟩:=a;exact .cons (intKind_is ..) (L8 b)
def qj3 {pins:List (Addr×Obj)} {σ:L2.St} {H:Hp} {s:Shared} (I:Inv X pins σ H s) {a:Addr}:∀ {vs:List V} {ks:List (List Int)} {its:List Value},Tks X.K H vs ks->zI vs its->∃ ad:Nat->Addr,its.length=ks.length/\(∀ (i:Nat) v,its[i]?=some v->v=.ref (ad i))/\∀ i,i<ks.length->Tb8.IsP X.prog X.w s.heap (kAt ks i) (ad i)
 |_,_,_,.nil,r=>by cases r;exact ⟨λ_=>0,rfl,λi v h=>by simp at h,λi h=>absurd h (by simp)⟩
 |_,_,_,.cons (a:=b) (k:=k) h t,r=>by
  cases r with
  |cons rb r=>
   obtain ⟨ad,h1,h2,h3⟩:=qj3 I (a:=a) t r;cases rb;obtain ⟨its',rv,⟨o,e,c,n,d⟩,_⟩:=I.tuple h;refine ⟨λi=>match i with|0=>b|i+1=>ad i,by simp [h1],λi v hv=>?_,λi hi=>?_⟩
   ·cases i with
    |zero=>simp at hv;exact hv.symm
    |succ i=>exact h2 i v (by simpa using hv)
   ·cases i with
    |zero=>exact ⟨o,_,n,e,c,d,by simpa [kAt] using L8 rv⟩
    |succ i=>exact h3 i (by simpa using hi)
def M8 {e:Expr} {te:TE} {p p2 pos pos2:Pos} (hc:X.calm=true) (hu:X.A.units+64<cLine) (hg:Gl X "len") (hm:X.mg "len" = none) (hg2:Gl X "set") (hm2:X.mg "set" = none) (he:PE X e te)
  (h1:starEach [e] X.env=(false,eval e X.env)::starEach [] X.env:=by rfl) (h2:starEach [.Call (.Name "set" p2) [e] [] pos2] X.env=(false,eval (.Call (.Name "set" p2) [e] [] pos2) X.env)::starEach [] X.env:=by rfl)
  (h3:(backTo pos (starEach [] X.env)).any (·.1)=false:=by rfl) (h4:(backTo pos2 (starEach [] X.env)).any (·.1)=false:=by rfl) :
  PE X (.Call (.Name "len" p) [.Call (.Name "set" p2) [e] [] pos2] [] pos) (λσ H Q=>te σ H λx H1=>∃ a vs ks,x=.ref a/\SqT X.K H1 a vs/\Tks X.K H1 vs ks/\ks.length<=76/\Q (.int (Tb8.cnt (kAt ks) ks.length)) H1):=by
 intro pins s σ H Q I h;refine wpAny_Call_Name_kw (V7 I hg hm PySem.boot_len ?_);refine PyProof.Rows.callWith_builtin1 ?_ h2 h3;rw [h2];show wpAny _ _ (spliced ((false,eval (.Call (.Name "set" p2) [e] [] pos2) X.env)::backTo pos (starEach [] X.env))) _ _ s;refine Calls.spliced_cons ?_;refine wpAny_Call_Name_kw (V7 I hg2 hm2 (show bootBuiltins "set" = some (.type "set") by decide +kernel) ?_);refine PyProof.Rows.callWith_type1 ?_ h1 h4;rw [h1];show wpAny _ _ (spliced ((false,eval e X.env)::backTo pos2 (starEach [] X.env))) _ _ s;refine Calls.spliced_cons (thn (he pins s σ H _ I h) λu s1 ⟨x,H1,I1,r1,a,vs,ks,ex,hq,ht,hl,q⟩=>?_);subst ex;cases r1;refine Calls.spliced_nil ?_;obtain ⟨its,rv,tp,_⟩:=I1.tuple hq;obtain ⟨ad,l1,l2,l3⟩:=qj3 I1 (a:=a) ht rv;have sz:its.toArray.size=ks.length:=by rw [size_toArray];exact l1
 refine Tb8.qaf (vs:=its.toArray) (key:=kAt ks) (ad:=ad) (I1.ok.hd hc) (by omega) ⟨tp,λi v hv=>l2 i v (by simpa using hv),λi hi=>l3 i (by omega)⟩ (by omega) λh' tk ps kp=>?_;refine Calls.spliced_nil ?_;rw [sz] at ps;refine Tb8.qan (s:={ s1 with heap:=h',toks:=tk }) ps (by have:=Tb8.LI (kAt ks) ks.length;omega) ?_;exact ⟨.int _,H1,I1.kept (h':=h') (t':=tk+1+1) λb o e=>kp b o (Heap.lt_size e) e,⟨_,rfl⟩,q⟩
def qc3:List T->Option (List (List Int))
 |[]=>some []
 |.tup ys::r=>(match E9 ys,qc3 r with|some k,some ks=>some (k::ks)|_,_=>none)
 |_=>none
def N9 (te:TE3):TE3:=λτ G q=>te τ G λx G1=>match x with
 |.tup ys=>(match qc3 ys with|some ks=>ks.length<=76/\q (.int (Tb8.cnt (kAt ks) ks.length)) G1|none=>False)
 |_=>False
def qez {K:Frg} {H:Hp}:∀ {ys:List T} {ks:List (List Int)} {vs:List V},qc3 ys=some ks->Rps K H ys vs->Tks K H vs ks
 |[],ks,_,h,r=>by
  simp only [qc3,Option.some.injEq] at h;subst h;cases r;exact .nil
 |y::ys,ks,_,h,r=>by
  cases r with
  |cons ra rb=>
   cases y<;>try (simp only [qc3] at h;cases h;done)
   case tup xs=>
    simp only [qc3] at h;split at h
    ·rename_i k ks' e1 e2;cases h;have:=J7 e1;subst this;cases ra with
     |tup hs r2=>
      have:=J8 r2;subst this;exact .cons hs (qez e2 rb)
    ·cases h
def MJ {e:Expr} {te:TE3} {p p2 pos pos2:Pos} (hc:X.calm=true) (hu:X.A.units+64<cLine) (hg:Gl X "len") (hm:X.mg "len" = none) (hg2:Gl X "set") (hm2:X.mg "set" = none) (he:jE3 X e te)
  (h1:starEach [e] X.env=(false,eval e X.env)::starEach [] X.env:=by rfl) (h2:starEach [.Call (.Name "set" p2) [e] [] pos2] X.env=(false,eval (.Call (.Name "set" p2) [e] [] pos2) X.env)::starEach [] X.env:=by rfl)
  (h3:(backTo pos (starEach [] X.env)).any (·.1)=false:=by rfl) (h4:(backTo pos2 (starEach [] X.env)).any (·.1)=false:=by rfl):jE3 X (.Call (.Name "len" p) [.Call (.Name "set" p2) [e] [] pos2] [] pos) (N9 te):=
 ⟨EM (M8 hc hu hg hm hg2 hm2 he.h h1 h2 h3 h4) λ_ _ _ ⟨τ,G,q,rl,h,af⟩=>zq rl h λx G1 h1 v H1 rx hr1 k1 rl1=>by
  split at h1
  ·rename_i ys;split at h1
   ·rename_i ks e1;cases rx with
    |tup hs r2=>exact ⟨_,_,ks,rfl,hs,qez e1 r2,h1.1,af _ _ h1.2 _ _ (.int _) hr1 k1⟩
   ·exact h1.elim
  ·exact h1.elim⟩
end
section
variable {X:Cx} {K:Frg} {w:World} {mg:Str->Option Value}
inductive Ents (K:Frg) (w:World):List DictEntry->List (Str×T)->Prop
 |nil:Ents K w [] []
 |cons {x:Str} {tk:Tok} {u:Value} {v:V} {t:T} {es:List DictEntry} {tab:List (Str×T)}:ja v u->(∀ H,Rp K H t v)->Ents K w es tab->Ents K w (⟨PyData.keyHash w.params x,.str x tk,u⟩::es) ((x,t)::tab)
def zv:List (Str×T)->Str->Option T
 |[],_=>none
 | (y,t)::r,x=>if y=x then some t else zv r x
structure Tb (K:Frg) (mg:Str->Option Value) (w:World) (x:Str) (tab:List (Str×T)):Prop where
 at_:∃ (d:Addr) (es:Array DictEntry) (ep:Nat),mg x=some (.ref d)/\K.lookup d=some ⟨.type "dict",none,.dict es ep,#[]⟩/\(d==sysModules)=false/\Ents K w es.toList tab
def Ents.keys {P:Program}:∀ {es:List DictEntry} {tab:List (Str×T)},Ents K w es tab->∀ e∈es,∃ k,(PySem.strKind P w).is k e.key=true/\e.hash=(PySem.strKind P w).hash k
 |_,_,.nil,e,h=>by cases h
 |_,_,.cons (x:=x) a b t,e,h=>by
  rcases mem_cons.mp h with rfl|h
  ·exact ⟨x,by show (x==x)=true;simp,rfl⟩
  ·exact Ents.keys t e h
def Ents.find:∀ {es:List DictEntry} {tab:List (Str×T)} (x:Str),Ents K w es tab ->
    (match zv tab x with
     |some t=>∃ (u:Value) (v:V),(es.find? λe=>Value.isStrOf x e.key).map (·.val)=some u/\ja v u/\∀ H,Rp K H t v
     |none=>(es.find? λe=>Value.isStrOf x e.key).map (·.val)=none)
  |_,_,x,.nil=>by simp [zv]
  |_,_,x,.cons (x:=y) (tk:=tk) (u:=u) (v:=v) (t:=t) (es:=es) (tab:=tab) a b r=>by
    by_cases e:y=x
    · have:Value.isStrOf x (Value.str y tk)=true:=by show (y==x)=true;simp [e]
      simp only [zv,e,if_true,List.find?_cons,this];subst e;simp only [this];exact ⟨u,v,rfl,a,b⟩
    · have:Value.isStrOf x (Value.str y tk)=false:=by show (y==x)=false;simp [e]
      have ih:=Ents.find x r;simp only [zv,e,if_false,List.find?_cons,this];exact ih
def Ents.map {P:Program} {h:Heap} {d:Addr} {es:Array DictEntry} {ep:Nat} {tab:List (Str×T)} (hd:h.get? d=some ⟨.type "dict",none,.dict es ep,#[]⟩) (en:Ents K w es.toList tab) :
  Heap.MapOf (PySem.strKind P w) h d (λx=>findBy Value.isStrOf es x):=
 ⟨_,es,ep,hd,⟨rfl,rfl,rfl⟩,rfl,λe he=>en.keys e (by simpa using he),λ_=>rfl⟩
def qpO (K:Frg) (d:Addr) (tab:List (Str×T)):R2:=λx y H Q=>x=.ref d/\∃ s t,y=.str s/\zv tab s=some t/\∀ v,Rp K H t v->Q v H
def qjb {d:Addr} {es:Array DictEntry} {ep:Nat} {tab:List (Str×T)} (hk:X.K.lookup d=some ⟨.type "dict",none,.dict es ep,#[]⟩) (en:Ents X.K X.w es.toList tab):IxR X (qpO X.K d tab):=by
 intro value slice pins s σ H x y v u Q I rx ry h hs;obtain ⟨rfl,z,t,rfl,ht,q⟩:=h;cases rx;obtain ⟨tk,rfl⟩:=ry;have hd:=I.kIn _ _ hk;have f:=en.find z;rw [ht] at f;obtain ⟨u,v,hf,rv,rp⟩:=f;have hf':findBy Value.isStrOf es z=some u:=by
  unfold findBy;rw [← Array.find?_toList];exact hf
 refine subscriptTail_builtinR (x:=u) ⟨_,hd,rfl⟩ PySem.F.slot_dict_getitem.lookup (wpAny_getItem_of (knd:=PySem.strKind X.prog X.w) (Q:=λr s'=>r=u/\EP X pins σ Q r s') (k:=z) (by show (z==z)=true;simp) (en.map hd) hf' ⟨rfl,v,H,I.tok _,rv,q v (rp H)⟩) hs
def qcJ (tab:List (Str×T)) (te:TE3):TE3:=λτ G q=>te τ G λx G1=>match x with|.str s=>(match zv tab s with|some t=>q t G1|none=>False)|_=>False
def qgF {x:Str} {e:Expr} {te:TE3} {tab:List (Str×T)} {p1 pos:Pos} (tb:Tb X.K X.mg X.w x tab) (hg:Gl X x) (he:jE3 X e te) (hs:UN e) (hd:(x==("__debug__" : Str))=false:=by decide):jE3 X (.Subscript (.Name x p1) e pos) (qcJ tab te):=by
 obtain ⟨d,es,ep,hm,hk,hn,en⟩:=tb.at_;exact ⟨EM (qkk (qjb hk en) (qa3 hg hm (v:=.ref d) rfl hd) he.h hs) λ_ _ _ ⟨τ,G,q,rl,h,af⟩=>zq rl h λy G1 h1 v H1 rx hr1 k1 rl1=>by
  cases y<;>try exact h1.elim
  case str z=>
   cases rx;unfold qcJ at h;simp only at h1;split at h1
   ·rename_i t ht;exact ⟨rfl,z,t,rfl,ht,λv rv=>af.back k1 _ _ h1 _ _ rv hr1 Kp.refl⟩
   ·exact h1.elim⟩
def qdi {d:Addr} {es:Array DictEntry} {ep:Nat} {tab:List (Str×T)} (hk:X.K.lookup d=some ⟨.type "dict",none,.dict es ep,#[]⟩) (hn:(d==sysModules)=false) (en:Ents X.K X.w es.toList tab):OpR X (compareOp .In) (λx y H Q=>y=.ref d/\∃ s,x=.str s/\Q (.bl (zv tab s).isSome) H):=by
 intro pins s σ H x y v u Q I rx ry h;obtain ⟨rfl,z,rfl,q⟩:=h;cases ry;obtain ⟨tk,rfl⟩:=rx;have hd:=I.kIn _ _ hk;refine wpAny_in_of (knd:=PySem.strKind X.prog X.w) (k:=z) (by show (z==z)=true;simp) hn (en.map hd) ?_;have f:=en.find z;have e:(findBy Value.isStrOf es z).isSome=(zv tab z).isSome:=by
  unfold findBy;rw [← Array.find?_toList];split at f
  ·rename_i t ht;obtain ⟨u,v,hf,_⟩:=f;rw [hf,ht];rfl
  ·rename_i ht;rw [f,ht];rfl
 rw [e];exact ⟨.bl _,H,I.tok _,rfl,q⟩
def qmk (tab:List (Str×T)) (te:TE3):TE3:=λτ G q=>te τ G λx G1=>match x with|.str s=>q (.bl (zv tab s).isSome) G1|_=>False
def qc2 {x:Str} {e:Expr} {te:TE3} {tab:List (Str×T)} {p1 pos:Pos} (tb:Tb X.K X.mg X.w x tab) (hg:Gl X x) (he:jE3 X e te) (hm2:behindInMarks .In (.Name x p1)=false:=by with_unfolding_all rfl) (hd:(x==("__debug__" : Str))=false:=by decide):jC3 X (.Compare e [.In] [.Name x p1] pos) (tb3 (qmk tab te)):=by
 obtain ⟨d,es,ep,hm,hk,hn,en⟩:=tb.at_;refine ⟨qmx (qaS (qdi hk hn en) he.h (qa3 hg hm (v:=.ref d) rfl hd) hm2) λ_ _ _ h=>qhg (t:=qmk tab te) (λ_ _ _ h'=>?_) h⟩;obtain ⟨τ,G,q,rl,h,af⟩:=h';refine zq rl h λy G1 h1 v H1 rx hr1 k1 rl1=>?_;cases y<;>try exact h1.elim
 case str z=>
  cases rx;exact ⟨rfl,z,rfl,af.back k1 _ _ h1 _ _ (.bl _) hr1 Kp.refl⟩
def RP (hc:X.calm=true):QL X (.builtin "min") (λxs H Q=>∃ (p:Addr) (ns:List Int),xs=[.ref p]/\SqL X.K H p (ns.map V.int)/\ns≠[]/\∀ m∈ns,(∀ a∈ns,m<=a)->Q (.int m) H):=by
 intro pins s σ H xs us Q I r h;obtain ⟨p,ns,rfl,hq,hne,q⟩:=h;obtain ⟨u,rfl,rp⟩:=Y9 r;cases (show u=Value.ref p from rp);obtain ⟨its,rv,pl,hz⟩:=I.list hq;have hlen:its.length=ns.length:=by have:=rv.length;simp at this;omega
 have hpos:0<ns.length:=List.length_pos_iff.mpr hne;have hp:p<s.heap.objs.size:=by obtain ⟨o,n,e,_⟩:=pl;exact Heap.lt_size e
 have vals:∀ (i:Nat) (v:Value),its.toArray[i]?=some v->∃ t,v=Value.int (ns.getD i 0) t:=λi v hv=>by
  have hv':its[i]?=some v:=by simpa using hv
  obtain ⟨hi,_⟩:=List.getElem?_eq_some_iff.mp hv';have hi':i<ns.length:=by omega
  obtain ⟨u,hu,ru⟩:=rv.get (i:=i) (show (ns.map V.int)[i]?=some (V.int (ns[i])) by simp [hi']);rw [hv'] at hu;cases hu;obtain ⟨t,rfl⟩:=ru;exact ⟨t,by show Value.int ns[i] t=Value.int (ns.getD i 0) t;rw [getD_eq_getElem?_getD,getElem?_eq_getElem hi'];rfl⟩
 refine call_min_walk (wpAny_pyIter_list pl.isList ⟨s.heap.objs.size,_,_,_,_,_,_,rfl,Walks.list (A:=X.A.in1) (show X.A.in1.handled=none from I.ok.hd hc) s.heap.objs.size p (Nat.ne_of_lt hp) its.toArray,⟨⟨_,Heap.get?_push_size _ rfl,rfl,rfl⟩,?_⟩,λb hb=>?_,by rw [size_toArray];omega,CmpOf.ints_lt (λi=>ns.getD i 0) vals,λv h' tk hP hk=>?_⟩)
 ·obtain ⟨o,n,e,c,_,d⟩:=pl;exact ⟨o,Heap.get?_push_of_some _ e,c,n,d⟩
 ·have lt1:∀ n c:Nat,c<n->c<n+1:=λn c h=>by omega
  rw [show (({ s with heap:=s.heap.push _ }:Shared).heap.objs.size)=s.heap.objs.size+1 from Heap.size_push ..];simp only [mem_cons,not_mem_nil,or_false] at hb;rcases hb with rfl|rfl
  ·exact Nat.lt_succ_self _
  ·exact lt1 _ _ hp
 ·obtain ⟨b1,b2⟩:=argBest_lt (λi=>ns.getD i 0) (its.toArray.size-1);obtain ⟨t,rfl⟩:=vals _ _ hP;rw [size_toArray] at b1 b2 ⊢;have gd:∀ j,j<ns.length->ns.getD j 0∈ns:=λj hj=>by rw [getD_eq_getElem?_getD,getElem?_eq_getElem hj];exact List.getElem_mem hj
  refine ⟨.int _,H,I.kept (h':=h') (t':=tk) λb o e=>hk b o (by simp;exact Nat.ne_of_lt (Heap.lt_size e)) (Heap.get?_push_of_some _ e),⟨_,rfl⟩,q _ (gd _ (by omega)) λa ha=>?_⟩;obtain ⟨j,hj,rfl⟩:=List.mem_iff_getElem.mp ha;have:=b2 j (by omega);have e:ns.getD j 0=ns[j]:=by rw [getD_eq_getElem?_getD,getElem?_eq_getElem hj];rfl
  rw [e] at this;exact this
def MS:List T->Gp->Q3->Prop:=λxs G q=>match xs with
 |[.ref p]=>(match getL G p with|some ys=>(match E9 ys with|some ns=>ns≠[]/\∀ m∈ns,(∀ a∈ns,m<=a)->q (.int m) G|none=>False)|none=>False)
 |_=>False
def LC {K:Frg}:SS K MS (λxs H Q=>∃ (p:Addr) (ns:List Int),xs=[.ref p]/\SqL K H p (ns.map V.int)/\ns≠[]/\∀ m∈ns,(∀ a∈ns,m<=a)->Q (.int m) H):=λxs vs G H q Q hr rs h af=>by
 unfold MS at h;split at h
 ·rename_i p;obtain ⟨v,rfl,r⟩:=CN rs;cases r;split at h
  ·rename_i ys e0;split at h
   ·rename_i ns e1;obtain ⟨us,hs,r2⟩:=zu hr e0;have:=J7 e1;subst this;have:=J8 r2;subst this;exact ⟨p,ns,rfl,hs,h.1,λm hm ha=>af _ _ (h.2 m hm ha) _ _ (.int _) hr Kp.refl⟩
   ·exact h.elim
  ·exact h.elim
 ·exact h.elim
def RA (hc:X.calm=true):QL X (.builtin "max") (λxs H Q=>∃ (p:Addr) (ns:List Int),xs=[.ref p]/\SqL X.K H p (ns.map V.int)/\ns≠[]/\∀ m∈ns,(∀ a∈ns,a<=m)->Q (.int m) H):=by
 intro pins s σ H xs us Q I r h;obtain ⟨p,ns,rfl,hq,hne,q⟩:=h;obtain ⟨u,rfl,rp⟩:=Y9 r;cases (show u=Value.ref p from rp);obtain ⟨its,rv,pl,hz⟩:=I.list hq;have hlen:its.length=ns.length:=by have:=rv.length;simp at this;omega
 have hpos:0<ns.length:=List.length_pos_iff.mpr hne;have hp:p<s.heap.objs.size:=by obtain ⟨o,n,e,_⟩:=pl;exact Heap.lt_size e
 have vals:∀ (i:Nat) (v:Value),its.toArray[i]?=some v->∃ t,v=Value.int (ns.getD i 0) t:=λi v hv=>by
  have hv':its[i]?=some v:=by simpa using hv
  obtain ⟨hi,_⟩:=List.getElem?_eq_some_iff.mp hv';have hi':i<ns.length:=by omega
  obtain ⟨u,hu,ru⟩:=rv.get (i:=i) (show (ns.map V.int)[i]?=some (V.int (ns[i])) by simp [hi']);rw [hv'] at hu;cases hu;obtain ⟨t,rfl⟩:=ru;exact ⟨t,by show Value.int ns[i] t=Value.int (ns.getD i 0) t;rw [getD_eq_getElem?_getD,getElem?_eq_getElem hi'];rfl⟩
 refine call_max_walk (wpAny_pyIter_list pl.isList ⟨s.heap.objs.size,_,_,_,_,_,_,rfl,Walks.list (A:=X.A.in1) (show X.A.in1.handled=none from I.ok.hd hc) s.heap.objs.size p (Nat.ne_of_lt hp) its.toArray,⟨⟨_,Heap.get?_push_size _ rfl,rfl,rfl⟩,?_⟩,λb hb=>?_,by rw [size_toArray];omega,CmpOf.ints_gt (λi=>ns.getD i 0) vals,λv h' tk hP hk=>?_⟩)
 ·obtain ⟨o,n,e,c,_,d⟩:=pl;exact ⟨o,Heap.get?_push_of_some _ e,c,n,d⟩
 ·have lt1:∀ n c:Nat,c<n->c<n+1:=λn c h=>by omega
  rw [show (({ s with heap:=s.heap.push _ }:Shared).heap.objs.size)=s.heap.objs.size+1 from Heap.size_push ..];simp only [mem_cons,not_mem_nil,or_false] at hb;rcases hb with rfl|rfl
  ·exact Nat.lt_succ_self _
  ·exact lt1 _ _ hp
 ·obtain ⟨b1,b2⟩:=argBest_gt (λi=>ns.getD i 0) (its.toArray.size-1);obtain ⟨t,rfl⟩:=vals _ _ hP;rw [size_toArray] at b1 b2 ⊢;have gd:∀ j,j<ns.length->ns.getD j 0∈ns:=λj hj=>by rw [getD_eq_getElem?_getD,getElem?_eq_getElem hj];exact List.getElem_mem hj
  refine ⟨.int _,H,I.kept (h':=h') (t':=tk) λb o e=>hk b o (by simp;exact Nat.ne_of_lt (Heap.lt_size e)) (Heap.get?_push_of_some _ e),⟨_,rfl⟩,q _ (gd _ (by omega)) λa ha=>?_⟩;obtain ⟨j,hj,rfl⟩:=List.mem_iff_getElem.mp ha;have:=b2 j (by omega);have e:ns.getD j 0=ns[j]:=by rw [getD_eq_getElem?_getD,getElem?_eq_getElem hj];rfl
  rw [e] at this;exact this
def M0:List T->Gp->Q3->Prop:=λxs G q=>match xs with
 |[.ref p]=>(match getL G p with|some ys=>(match E9 ys with|some ns=>ns≠[]/\∀ m∈ns,(∀ a∈ns,a<=m)->q (.int m) G|none=>False)|none=>False)
 |_=>False
def LV {K:Frg}:SS K M0 (λxs H Q=>∃ (p:Addr) (ns:List Int),xs=[.ref p]/\SqL K H p (ns.map V.int)/\ns≠[]/\∀ m∈ns,(∀ a∈ns,a<=m)->Q (.int m) H):=λxs vs G H q Q hr rs h af=>by
 unfold M0 at h;split at h
 ·rename_i p;obtain ⟨v,rfl,r⟩:=CN rs;cases r;split at h
  ·rename_i ys e0;split at h
   ·rename_i ns e1;obtain ⟨us,hs,r2⟩:=zu hr e0;have:=J7 e1;subst this;have:=J8 r2;subst this;exact ⟨p,ns,rfl,hs,h.1,λm hm ha=>af _ _ (h.2 m hm ha) _ _ (.int _) hr Kp.refl⟩
   ·exact h.elim
  ·exact h.elim
 ·exact h.elim
end
inductive Cv:List Str->List V->List (Value×Value)->Prop
 |nil:Cv [] [] []
 |cons {k:Str} {tk:Tok} {v:V} {u:Value} {ks:List Str} {xs:List V} {vs:List (Value×Value)}:ja v u->Cv ks xs vs->Cv (k::ks) (v::xs) ((.str k tk,u)::vs)
structure jD3 (X:Cx) (keys:List (Option Expr)) (values:List Expr) (ks:List Str) (t:TA3):Prop where
 h:∀ (pos:Pos) (pins:List (Addr×Obj)) (s:Shared) (σ:L2.St) (H:Hp) (Q:List V->Hp->Prop),Inv X pins σ H s->lA X.K t σ H Q ->
  wpAny (model X.prog X.w) X.A (evalPairs (pairTrees keys values X.env pos)) (λvs s'=>∃ xs H',Inv X pins σ H' s'/\Cv ks xs vs/\Q xs H') X.xe s
 len:keys.length=values.length
 all:(keys.all λx=>x.isSome)=true
section
variable {X:Cx}
def qlI:jD3 X [] [] [] qk:=
 ⟨λpos pins s σ H Q I ⟨τ,G,q,rl,h,af⟩=>by
  show wpAny _ _ (evalPairs []) _ _ _;exact wpAny_pure ⟨[],H,I,.nil,af _ _ h _ _ .nil rl.hp Kp.refl⟩,rfl,rfl⟩
def D6 {k:Str} {j:Nat} {kp:Pos} {v:Expr} {tv:TE3} {keys:List (Option Expr)} {values:List Expr} {ks:List Str} {t:TA3} (hv:jE3 X v tv) (r:jD3 X keys values ks t) :
  jD3 X (some (.Constant (.str k) j kp)::keys) (v::values) (k::ks) (qc tv t):=
 ⟨λpos pins s σ H Q I ⟨τ,G,q,rl,h,af⟩=>by
  show wpAny _ _ (evalPairs ((eval (.Constant (.str k) j kp) X.env,do let x←eval v X.env;standAt pos;pure x)::pairTrees keys values X.env pos)) _ _ _;refine evalPairs_cons (thn (qd1 (X:=X) (x:=k) (j:=j) (pos:=kp) pins s σ H (λy H'=>y=.str k/\H'=H) I ⟨rfl,rfl⟩) λkv s1 ⟨y,H1,I1,ry,ey,eH⟩=>?_);subst ey;subst eH;obtain ⟨tk,rfl⟩:=ry;refine wpAny_bind (thn (hv.h pins s1 σ H1 (λx H2=>lA X.K t σ H2 λxs H3=>Q (x::xs) H3) I1 (zq rl h λx G1 h1 v H2 rx hr1 k1 rl1=>⟨τ,G1,_,rl1,h1,λxs G2 h2 vs H3 rs hr2 k2=>af _ _ h2 _ _ (.cons (rx.keep hr1 k2) rs) hr2 (k1.trans k2)⟩)) λu s2 ⟨x,H2,I2,rx,q2⟩=>?_);refine wpAny_bind (wpAny_standAt (wpAny_pure ?_));exact thn (r.h pos pins s2 σ H2 _ I2 q2) λvs s3 ⟨xs,H3,I3,cv,q3⟩=>⟨x::xs,H3,I3,.cons rx cv,q3⟩,by simp [r.len],by simpa using r.all⟩
def Cv.carries {P:Program} {w:World}:∀ {ks:List Str} {xs:List V} {vs:List (Value×Value)},Cv ks xs vs->Carries (PySem.strKind P w) vs (ks.zip (vs.map (·.2)))
 |_,_,_,.nil=>True.intro
 |_,_,_,.cons (k:=k) r t=>⟨by show (k==k)=true;simp,rfl,t.carries⟩
def Cv.len:∀ {ks:List Str} {xs:List V} {vs:List (Value×Value)},Cv ks xs vs->ks.length=vs.length
 |_,_,_,.nil=>rfl
 |_,_,_,.cons _ t=>by simp [t.len]
def qcK:List Str->List V->Str->Option V
 |k::ks,v::vs,x=>if k=x then some v else qcK ks vs x
 |_,_,_=>none
def Cv.get:∀ {ks:List Str} {xs:List V} {vs:List (Value×Value)} {x:Str} {v:V},Cv ks xs vs->qcK ks xs x=some v->∃ u,valueAt (ks.zip (vs.map (·.2))) x=some u/\ja v u
 |_,_,_,x,v,.nil,h=>by simp [qcK] at h
 |_,_,_,x,v,.cons (k:=k) (u:=u) r t,h=>by
  by_cases e:k=x
  ·simp [qcK,e] at h;subst h;exact ⟨u,by simp [valueAt,e],r⟩
  ·simp [qcK,e] at h;obtain ⟨u',h1,h2⟩:=Cv.get t h;exact ⟨u',by simpa [valueAt,e] using h1,h2⟩
def qmG (ks:List Str) (tv:TA) (te:TE):TE:=λσ H Q=>tv σ H λxs H1=>te σ H1 λy H2=>∃ k v,y=.str k/\qcK ks xs k=some v/\Q v H2
def qgT {keys:List (Option Expr)} {values:List Expr} {ks:List Str} {t:TA3} {e:Expr} {te:TE} {p1 pos:Pos} (hd:jD3 X keys values ks t) (he:PE X e te) (hs:UN e) (nd:ks.Nodup) (ne:keys≠[]) (h15:keys.length<=15) :
  PE X (.Subscript (.Dict keys values p1) e pos) (qmG ks (lA X.K t) te):=by
 intro pins s σ H Q I hl;refine Subscript_ ?_;refine wpAny_Dict_walk (knd:=PySem.strKind X.prog X.w) hd.all hd.len ne h15 ?_;have hsz:=I.sz;have hlt:=I.lt;have I0:Inv X pins σ H { s with heap:=s.heap.push { cls:=.type "dict",data:=.dict #[] } }:=I.kept (t':=s.toks) λb o e=>Heap.get?_push_of_some _ e;have ok0:H s.heap.objs.size=none/\s.heap.objs.size≠X.env.locals/\s.heap.objs.size∉X.fs:=⟨I.fresh,λz=>Nat.lt_irrefl _ (z▸hlt),I.nofs (Nat.le_refl _)⟩
 have hcell:∀ x c,X.env.cells.lookup x=some c->c≠s.heap.objs.size:=λx c e z=>by
  obtain ⟨v,o,ho,_⟩:=I.cell x c e;have:=Heap.lt_size ho;rw [z] at this;exact Nat.lt_irrefl _ this
 have hpin:∀ p∈X.pn++pins,p.1≠s.heap.objs.size:=λp hp z=>by
  have:=Heap.lt_size (I.pin p hp).1;rw [z] at this;exact Nat.lt_irrefl _ this
 have Ip:Inv X (pins++[(s.heap.objs.size,{ cls:=.type "dict",data:=.dict #[] })]) σ H { s with heap:=s.heap.push { cls:=.type "dict",data:=.dict #[] } }:=I0.pins_of λp hp=>by
  rcases List.mem_append.mp hp with z|z
  ·exact I0.pin p (mem_append_right _ z)
  ·simp only [List.mem_singleton] at z;subst z;exact ⟨Heap.get?_push_size _ rfl,ok0.1,ok0.2.1,ok0.2.2,λv=>by simp⟩
 refine thn (hd.h p1 _ _ σ H _ Ip hl) λvs s1 ⟨xs,H1,I1,cv,q1⟩=>?_;have p1':=I1.pin (s.heap.objs.size,{ cls:=.type "dict",data:=.dict #[] }) (by simp);have hkeys:(List.map (λx=>x.fst) (ks.zip (vs.map (·.2))))=ks:=by
  have:=cv.len;rw [List.map_fst_zip (by simp;omega)]
 refine ⟨ks.zip (vs.map (·.2)),cv.carries,⟨_,#[],0,p1'.1,⟨rfl,rfl,rfl⟩,rfl,λe he=>by simp at he,by first|exact True.intro|constructor,by simp⟩,λh' hd' hsame=>?_⟩;rw [merged_nil_of_nodup _ (by rw [hkeys];exact nd)] at hd';have I1u:Inv X pins σ H1 s1:=I1.unpinned;have I2:Inv X pins σ H1 { heap:=h',gens:=s1.gens,drawn:=s1.drawn,toks:=s1.toks+vs.length,os:=s1.os }:=
  I1u.turned (it:=s.heap.objs.size) (λb o hb e=>by rw [hsame.2 b hb];exact e) p1'.2.1 ok0.2.1 (.inr hsz) hcell hpin
 obtain ⟨o,es,ep,ho,hx,hdata,hk,hp,hn⟩:=hd';have I3:Inv X (pins++[(s.heap.objs.size,o)]) σ H1 { heap:=h',gens:=s1.gens,drawn:=s1.drawn,toks:=s1.toks+vs.length,os:=s1.os }:=I2.pins_of λp hp=>by
  rcases List.mem_append.mp hp with z|z
  ·exact I2.pin p (mem_append_right _ z)
  ·simp only [List.mem_singleton] at z;subst z;exact ⟨ho,p1'.2.1,ok0.2.1,ok0.2.2,λv=>by rw [hdata];simp⟩
 refine thn (he _ _ σ H1 _ I3 q1) λu s2 ⟨y,H2,I4,ry,k,v,ey,hg,q2⟩=>?_;subst ey;obtain ⟨tk,rfl⟩:=ry;have po:=I4.pin (s.heap.objs.size,o) (by simp);have dd:s2.heap.DictOf (PySem.strKind X.prog X.w) s.heap.objs.size (ks.zip (vs.map (·.2))):=⟨o,es,ep,po.1,hx,hdata,hk,hp,hn⟩
 obtain ⟨u,hu,ru⟩:=cv.get hg;exact subscriptTail_builtinR (x:=u) ⟨_,po.1,hx.1⟩ PySem.F.slot_dict_getitem.lookup (wpAny_getItem_of (knd:=PySem.strKind X.prog X.w) (Q:=λr s'=>r=u/\EP X pins σ Q r s') (k:=k) (by show (k==k)=true;simp) dd.mapOf hu ⟨rfl,v,H2,I4.unpinned.tok _,ru,q2⟩) (hs _ _)
def qgX (ks:List Str) (t:TA3) (te:TE3):TE3:=λτ G q=>t τ G λxs G1=>te τ G1 λy G2=>match y with|.str k=>(match zv (ks.zip xs) k with|some x=>q x G2|none=>False)|_=>False
def qb6 {K:Frg} {H:Hp}:∀ {ks:List Str} {xs:List T} {vs:List V} {k:Str} {x:T},Rps K H xs vs->zv (ks.zip xs) k=some x->∃ v,qcK ks vs k=some v/\Rp K H x v
 |[],_,_,k,x,_,h=>by simp [zv] at h
 |_::_,_,_,k,x,.nil,h=>by simp [zv] at h
 |y::ks,_,_,k,x,.cons (v:=v) r t,h=>by
  by_cases e:y=k
  ·simp [zv,e] at h;subst h;exact ⟨v,by simp [qcK,e],r⟩
  ·simp [zv,e] at h;obtain ⟨v,h1,h2⟩:=qb6 t h;exact ⟨v,by simpa [qcK,e] using h1,h2⟩
def qg3 {keys:List (Option Expr)} {values:List Expr} {ks:List Str} {t:TA3} {e:Expr} {te:TE3} {p1 pos:Pos} (hd:jD3 X keys values ks t) (he:jE3 X e te) (hs:UN e:=by intro _ _;rfl) (nd:ks.Nodup:=by decide) (ne:keys≠[]:=by simp) (h15:keys.length<=15:=by decide) :
  jE3 X (.Subscript (.Dict keys values p1) e pos) (qgX ks t te):=
 ⟨EM (qgT hd he.h hs nd ne h15) λσ H Q ⟨τ,G,q,rl,h,af⟩=>
  ⟨τ,G,_,rl,h,λxs G1 h1 vs H1 rs hr1 k1=>zq (rl.next hr1 k1) h1 λy G2 h2 v H2 ry hr2 k2 rl2=>by
   cases y<;>try exact h2.elim
   case str k=>
    cases ry;simp only at h2;split at h2
    ·rename_i x hx;obtain ⟨v,hv,rv⟩:=qb6 (rs.keep hr1 k2) hx;exact ⟨k,v,rfl,hv,af _ _ h2 _ _ rv hr2 (k1.trans k2)⟩
    ·exact h2.elim⟩⟩
end
def L0 {K:Frg} {p:Addr} {od:Option Addr} {n:Nat} {sl:Array (Option Value)} {i j:Int} {ti tj:Tok} (h:K.lookup p=some ⟨.type "tuple",od,.seq #[.int i ti,.int j tj] n,sl⟩):∀ H,Rp K H (.tup [.int i,.int j]) (.ref p):=λH=>
 .tup (vs:=[.int i,.int j]) (.inr ⟨_,_,_,h,rfl,rfl,by show 2<=sizeLine;decide,.cons ⟨_,rfl⟩ (.cons ⟨_,rfl⟩ .nil)⟩) (.cons (.int _) (.cons (.int _) .nil))
def jO:List (Str×T):=[("row",.tup [.int 0,.int 1]),("column",.tup [.int 1,.int 0]),("slant",.tup [.int 1,.int 1]),("back",.tup [.int 1,.int (-1)])]
open PySem.SeqAt
def qcg (dx:PyData):List PyData->Option Bool
 |[]=>some false
 |d::ds=>(match ZI d dx,qcg dx ds with|some b,some c=>some (b||c)|_,_=>none)
def LP {dx:PyData}:∀ {ds:List PyData} {b:Bool},qcg dx ds=some b->∃ bs:List Bool,bs.length=ds.length/\(∀ (j:Nat) d,ds[j]?=some d->∃ c,bs[j]?=some c/\ZI d dx=some c)/\b=bs.any id
 |[],b,h=>by simp [qcg] at h;subst h;exact ⟨[],rfl,λj d hd=>by simp at hd,rfl⟩
 |d::ds,b,h=>by
  unfold qcg at h;split at h
  ·rename_i b1 c1 e1 e2;cases h;obtain ⟨bs,hl,ha,hb⟩:=LP e2;refine ⟨b1::bs,by simp [hl],λj d' hd=>?_,by simp [hb]⟩;cases j with
   |zero=>simp at hd;subst hd;exact ⟨b1,rfl,e1⟩
   |succ j=>simpa using ha j d' (by simpa using hd)
  ·cases h
section
variable {X:Cx} {pins:List (Addr×Obj)} {σ:L2.St} {H:Hp} {s:Shared}
def qaj (I:Inv X pins σ H s) {x:V} {dx:PyData} {v:Value} {xs:List V} {ds:List PyData} {its:List Value} {b:Bool} (hu:X.A.units+64<cLine) (hx:DV X.K H x dx) (rx:ja x v) (hs:DVs X.K H xs ds) (rs:zI xs its) (hb:qcg dx ds=some b) (hd:∀ d∈ds,dpt d<=40) :
  ∃ e:Value->Bool,(∀ y∈its,EqAt X.A.in1 s y v (e y))/\its.any e=b:=by
 obtain ⟨bs,hl,ha,rfl⟩:=LP hb;have un:X.A.in1.units+40<cLine:=by
  have:X.A.in1.units<=X.A.units+8:=by first|(show X.A.units+1<=_;omega)|(show X.A.units<=_;omega)|(simp [Around.in1];omega)
  omega
 have at_:∀ (j:Nat) y,its[j]?=some y->∃ c,bs[j]?=some c/\EqAt X.A.in1 s y v c:=λj y hj=>by
  obtain ⟨hj1,_⟩:=List.getElem?_eq_some_iff.mp hj;have hxl:j<xs.length:=by rw [rs.length];exact hj1
  obtain ⟨u,hu',ru⟩:=rs.get (getElem?_eq_getElem hxl);rw [hj] at hu';cases hu';obtain ⟨d,hd1,hd2⟩:=hs.get (getElem?_eq_getElem hxl);obtain ⟨c,hc1,hc2⟩:=ha j d hd1;exact ⟨c,hc1,(CU I 40 hd2 hx hc2 (hd d (mem_of_getElem? hd1)) un ru rx).2⟩
 classical
 refine ⟨λy=>decide (∃ j:Nat,its[j]?=some y/\bs[j]?=some true),λy hy=>?_,?_⟩
 ·by_cases he:∃ j:Nat,its[j]?=some y/\bs[j]?=some true
  ·obtain ⟨j,h1,h2⟩:=id he;obtain ⟨c,hc,eq⟩:=at_ j y h1;rw [h2] at hc;cases hc;simpa [he] using eq
  ·obtain ⟨j,hj,e⟩:=List.mem_iff_getElem.mp hy;have hj':its[j]?=some y:=by rw [getElem?_eq_getElem hj,e]
   obtain ⟨c,hc,eq⟩:=at_ j y hj';cases c with
   |true=>exact absurd ⟨j,hj',hc⟩ he
   |false=>simpa [he] using eq
 ·rw [Bool.eq_iff_iff,List.any_eq_true,List.any_eq_true];constructor
  ·rintro ⟨y,_,hy⟩;obtain ⟨j,_,h2⟩:=of_decide_eq_true hy;exact ⟨true,mem_of_getElem? h2,rfl⟩
  ·rintro ⟨c,hc,e⟩;have:c=true:=e;subst this;obtain ⟨j,hj,ej⟩:=List.mem_iff_getElem.mp hc;have hl2:its.length=bs.length:=by rw [← rs.length,hs.length,hl]
   have hj2:j<its.length:=by omega
   exact ⟨its[j],List.getElem_mem hj2,decide_eq_true ⟨j,getElem?_eq_getElem hj2,by rw [getElem?_eq_getElem hj,ej]⟩⟩
def qoL (K:Frg) (neg:Bool):R2:=λx y H Q=>∃ p xs dx ds b,y=.ref p/\(SqL K H p xs\/SqT K H p xs)/\DV K H x dx/\DVs K H xs ds/\qcg dx ds=some b/\(∀ d∈ds,dpt d<=40)/\Q (.bl (if neg then !b else b)) H
def qbx (hu:X.A.units+64<cLine):OpR X (compareOp .NotIn) (qoL X.K true):=by
 intro pins s σ H x y v u Q I rx ry h;obtain ⟨p,xs,dx,ds,b,rfl,hq,hx,hs,hb,hd,q⟩:=h;cases ry;rcases hq with hq|hq
 ·obtain ⟨its,r,pl,hz⟩:=I.list hq;obtain ⟨e,he,ha⟩:=qaj I hu hx rx hs r hb hd;refine SeqAt.notIn_listAt e pl.isList (λw hw=>he w (by simpa using hw)) ⟨.bl _,H,I,rfl,?_⟩;rw [show its.toArray.any e=its.any e by simp,ha];exact q
 ·obtain ⟨its,r,pl,hz⟩:=I.tuple hq;obtain ⟨e,he,ha⟩:=qaj I hu hx rx hs r hb hd;refine SeqAt.notIn_tupleAt e pl (λw hw=>he w (by simpa using hw)) ⟨.bl _,H,I,rfl,?_⟩;rw [show its.toArray.any e=its.any e by simp,ha];exact q
end
def qpo (neg:Bool):R3:=λx y G q=>∃ ys dx ds b,jb G y=some ys/\Dp G x dx/\Dps G ys ds/\qcg dx ds=some b/\(∀ d∈ds,dpt d<=40)/\q (.bl (if neg then !b else b)) G
def qfX {K:Frg} {neg:Bool}:SU K (qpo neg) (qoL K neg):=λx y v u G H q Q hr rx ry h af=>by
 obtain ⟨ys,dx,ds,b,h1,h2,h3,h4,h5,h6⟩:=h;cases y with
 |tup zs=>
  simp [jb] at h1;subst h1;cases ry with
  |tup hs rs=>exact ⟨_,_,dx,ds,b,rfl,.inr hs,h2.dv hr rx,h3.dv hr rs,h4,h5,af _ G h6 _ H (.bl _) hr Kp.refl⟩
 |ref p=>
  simp [jb] at h1;cases ry;obtain ⟨us,hs,rs⟩:=zu hr h1;exact ⟨_,_,dx,ds,b,rfl,.inl hs,h2.dv hr rx,h3.dv hr rs,h4,h5,af _ G h6 _ H (.bl _) hr Kp.refl⟩
 |_=>simp [jb] at h1
end L3
namespace HT
open PySem PySem.Spec PyProof.Rows L2
section
open PySem.SeqAt
open PySem.MeetsSeq PySem.MeetsSeq2 PySem.MeetsSeq3
end
section
variable {prog:Program} {w:World} {A:Around} {E:Value->Shared->Prop} {s:Shared}
end
end HT
namespace L3
open PySem PySem.Spec PyProof.Rows L2
section
variable {X:Cx}
end
end L3
namespace HT
open PySem PyProof.Rows
section
variable {prog:Program} {w:World} {A:Around} {R:Result->Shared->Prop} {I:Addr} {fp wr:List Addr} {n:Nat} {P:Nat->Value->Prop} {St:Nat->Heap->Prop}
end
section
variable {prog:Program} {w:World} {A:Around} {E:Value->Shared->Prop} {s:Shared}
end
end HT
namespace L3
open PySem PySem.Spec PyProof.Rows L2
section
variable {X:Cx}
end
section
variable {X:Cx}
end
section
variable {X:Cx}
def qdz {elt tg iter t2 i2:Expr} {ifs f2:List Expr} {scope:Scope} {pos cpos:Pos} {N':List Str} {m:List (Option Nat)} {wi:TI} {g:TG} {tif:TT} {wi2:TI} {g2:TG} {tif2:TT} {te:TE} {use:Option (Value->Sem Unit)} {Qc:Value->Shared->Prop} {QD:Addr->Hp->Prop} (hc:X.calm=true) (hi:PI X tg iter wi)
  (hg:∀ s H fp,PG (qg X N' scope s H fp) tg g) (hf:∀ s H fp,PF (qg X N' scope s H fp) ifs tif) (hi2:∀ s H fp,PI (qg X N' scope s H fp) t2 i2 wi2) (hg2:∀ s H fp,PG (qg X N' scope s H fp) t2 g2) (hf2:∀ s H fp,PF (qg X N' scope s H fp) f2 tif2) (he:∀ s H fp,PE (qg X N' scope s H fp) elt te)
  (hsc:SV X.env.scope scope=true) (hcap:ZX X.N N' scope m=true) (hs:∀ x,foldedSetIterable iter X.env x=pure x) (hs2:∀ s H fp x,foldedSetIterable i2 (qg X N' scope s H fp).env x=pure x) {pins:List (Addr×Obj)} {s:Shared} {σ:L2.St} {H:Hp} (I:Inv X pins σ H s)
  (h:wi σ H λJ H1=>∀ D,H1 D=none ->
   ∃ W:Nat->Nat->L2.St->Hp->Prop,(∃ n,W 0 n (cap m σ) (upd H1 D (.lst [])))/\∀ i n σ H,W i n σ H ->
    (J.stop i H/\QD D H)\/(J.go i H/\∀ x H',J.yld i H x H'->g x σ H' λσ2 H2=>tif σ2 H2 λk H3=>
     if k=true then tIn wi2 g2 tif2 te D (λσ4 H4=>∃ n',n'<n/\W (i+1) n' σ4 H4) σ2 H3
     else ∃ n',n'<n/\W (i+1) n' σ2 H3))
  (fin:∀ (D:Addr) (s3:Shared) (H3:Hp) (fp:List Addr) (s6:Shared) (H6:Hp) (σ6:L2.St) (r:Flow),Inv X pins σ H3 s3->(∀ b∈fp,WK X pins H3 b)->Inv (qg X N' scope s3 H3 fp) [] σ6 H6 s6->QD D H6->compPost (model X.prog X.w) X.A X.xe use Qc (.ref D) s3.heap.objs.size (.ok r) s6) :
  wpAny (model X.prog X.w) X.A (comprehension (.ListComp elt [⟨tg,iter,ifs,0⟩,⟨t2,i2,f2,0⟩] scope pos) scope X.env cpos (newList []) false (eval iter X.env) use) Qc X.xe s:=by
 have sc:=YZ hsc;have hcl:∀ y∈scope.names,y.2=.free->∃ c,X.env.cells.lookup y.1=some c:=λy hy e=>by
  rcases (sc.free y hy e).2 with z|z
  ·exact I.ok.has y.1 (.inl z)
  ·exact I.ok.has y.1 (.inr z)
 refine wpAny_comprehension_free (g:=⟨tg,iter,ifs,0⟩) (gs:=[⟨t2,i2,f2,0⟩]) rfl hs (jN hcl) sc.kind sc.loc ?_;show wpAny _ _ (eval iter X.env) _ _ s;refine thn (hi pins s σ H _ I h) λv s1 h1=>thn h1 λitv s2 h2=>?_;obtain ⟨it,fp,tn,J,H2,rfl,I2,T,st2,fF2,hW⟩:=h2;refine wpAny_newObj_type ?_;have hD:H2 s2.heap.objs.size=none:=I2.fresh;obtain ⟨W,⟨n0,w0⟩,turn⟩:=hW _ hD;generalize hDe:s2.heap.objs.size=D at *;have I3:Inv X pins σ (upd H2 D (.lst [])) { s2 with heap:=s2.heap.push { cls:=.type "list",dict:=none,data:=.seq ([]:List Value).toArray } }:=by
  subst hDe;exact I2.laid (t':=s2.toks) (λb u e=>Heap.get?_push_of_some _ e) (Nat.le_refl _) ⟨Nat.zero_le _,[],0,.nil,Heap.get?_push_size _ rfl⟩
 have ob2:=T.obj 0 _ st2;have ob3:∀ b∈fp,∃ o,(s2.heap.push { cls:=.type "list",dict:=none,data:=.seq ([]:List Value).toArray }).get? b=some o:=λb hb=>let ⟨o,e,_⟩:=ob2 b hb;⟨o,Heap.get?_push_of_some _ e⟩
 have f3:∀ b∈fp,WK X pins (upd H2 D (.lst [])) b:=λb hb=>by
  obtain ⟨o,e,_⟩:=ob2 b hb;have:b≠D:=by rw [← hDe];exact Nat.ne_of_lt (Heap.lt_size e)
  exact ⟨by rw [qC this];exact (fF2 b hb).1,(fF2 b hb).2⟩
 have k23:∀ b o,s2.heap.get? b=some o->(s2.heap.push { cls:=.type "list",dict:=none,data:=.seq ([]:List Value).toArray }).get? b=some o:=λb o e=>Heap.get?_push_of_some _ e;generalize hH3:upd H2 D (.lst [])=H3 at *;generalize hs3:({ s2 with heap:=s2.heap.push { cls:=.type "list",dict:=none,data:=.seq ([]:List Value).toArray } }:Shared)=s3 at *;have ob3:∀ b∈fp,∃ o,s3.heap.get? b=some o:=by rw [← hs3];exact ob3
 have k23:∀ b o,s2.heap.get? b=some o->s3.heap.get? b=some o:=by rw [← hs3];exact k23
 refine zT λh₁ hns hk hown=>?_;have I4:Inv (qg X N' scope s3 H3 fp) [] (cap m σ) H3 { s3 with heap:=h₁ }:=E8 hc I3 sc hcap f3 ob3 hns hk hown;have tn4:tn 0 h₁:=T.keep _ _ _ st2 λb hb o e=>hk b o (k23 b o e);have fr4:∀ b∈fp,H3 b=none:=λb hb=>(f3 b hb).1;have stat:∀ {H':Hp},(∀ b∈fp,H' b=none)->∀ b∈fp,WK (qg X N' scope s3 H3 fp) [] H' b:=λhn b hb=>by
  refine ⟨hn b hb,I4.ok.exf b hb |>.1,I4.ok.exfs b hb,.inl hb,λx c e=>(I4.ok.exf b hb).2 x c e,λp hp=>absurd (show p∈([]:List (Addr×Obj)) from hp) (by simp)⟩
 show codeAny (model X.prog X.w) X.A (.compStart (.ListComp elt [⟨tg,iter,ifs,0⟩,⟨t2,i2,f2,0⟩] scope pos) 0 (.ref it) (.ref D) (qg X N' scope s3 H3 fp).env) (compPost (model X.prog X.w) X.A X.xe use Qc (.ref D) s3.heap.objs.size) { s3 with heap:=h₁ };have loop:codeAny (model X.prog X.w) X.A (.compLoop (.ListComp elt [⟨tg,iter,ifs,0⟩,⟨t2,i2,f2,0⟩] scope pos) 0 (.ref it) (.ref D) (qg X N' scope s3 H3 fp).env) (compPost (model X.prog X.w) X.A X.xe use Qc (.ref D) s3.heap.objs.size) { s3 with heap:=h₁ }:=by
  refine codeAny_loop rfl (λn s'=>∃ i σ' H',Inv (qg X N' scope s3 H3 fp) [] σ' H' s'/\tn i s'.heap/\(∀ b∈fp,H' b=none)/\W i n σ' H') (λn s' hI=>?_) n0 ⟨0,cap m σ,H3,I4,tn4,fr4,w0⟩;show wpAny _ X.A ((compTurn (.ListComp elt [⟨tg,iter,ifs,0⟩,⟨t2,i2,f2,0⟩] scope pos) 0 (.ref it) (.ref D) (qg X N' scope s3 H3 fp).env).onRaise (λx=>do noteFrame x (qg X N' scope s3 H3 fp).env;theTreesLotGoes x)) _ _ s';refine wpAny_noted ?_;rw [UD];refine wpAny_bind (wpAny_standAt (wpAny_bind ?_));obtain ⟨i,σ5,H5,I5,st5,fr5,w5⟩:=hI;rcases turn i n σ5 H5 w5 with ⟨stop,q⟩|⟨go,step⟩
  ·refine thn (T.done (qg X N' scope s3 H3 fp) rfl rfl rfl rfl i [] s' σ5 H5 _ I5 (stat fr5) st5 stop) λr s6 ⟨hr,I6⟩=>?_;subst hr;refine wpAny_pure ?_;exact fin D s3 H3 fp s6 H5 σ5 _ I3 f3 I6 q
  ·refine thn (T.item (qg X N' scope s3 H3 fp) rfl rfl rfl rfl i [] s' σ5 H5 _ I5 (stat fr5) st5 go) λr s6 ⟨u,hr,h6⟩=>?_;subst hr;refine wpAny_bind (thn h6 λ_ s7 ⟨x,H7,I7,r7,y7,st7,fr7⟩=>?_);have I7':=I7.pinned (stat fr7) (T.obj _ _ st7);have again:∀ {σ8:L2.St} {H8:Hp} {s8:Shared},Inv (qg X N' scope s3 H3 fp) ([]++VS fp s7.heap) σ8 H8 s8->(∃ n',n'<n/\W (i+1) n' σ8 H8) ->
     ∃ m',m'<n/\∃ i σ' H',Inv (qg X N' scope s3 H3 fp) [] σ' H' s8/\tn i s8.heap/\(∀ b∈fp,H' b=none)/\W i m' σ' H':=λ{σ8 H8 s8} I8 ⟨n',hn,w8⟩=>by
    refine ⟨n',hn,i+1,σ8,H8,I8.unpinned,T.keep _ _ _ st7 λb hb o e=>(I8.pin (b,o) (mem_append_right _ (mem_append_right _ (q0 hb e)))).1,λb hb=>?_,w8⟩;obtain ⟨o,e,d⟩:=T.obj _ _ st7 b hb;exact (I8.pin (b,o) (mem_append_right _ (mem_append_right _ (q0 hb e)))).2.1
   refine wpAny_bind (wpAny_mono (hg s3 H3 fp _ s7 σ5 H7 x u _ I7' r7 (step x H7 y7)) (λ_ s8 ⟨σ8,H8,I8,q8⟩=>?_) λ_ _ z=>z.elim);refine wpAny_bind (wpAny_mono (hf s3 H3 fp _ s8 σ8 H8 _ I8 q8) (λk s9 ⟨H9,I9,q9⟩=>?_) λ_ _ z=>z.elim);cases k with
   |false=>
    rw [if_neg Bool.false_ne_true] at q9;exact wpAny_pure ⟨rfl,again I9 q9⟩
   |true=>
    rw [if_pos rfl] at q9;refine qdZ (X:=qg X N' scope s3 H3 fp) rfl (λ_ _ z=>z) (hi2 s3 H3 fp) (hg2 s3 H3 fp) (hf2 s3 H3 fp) (he s3 H3 fp) (hs2 s3 H3 fp) I9 q9 λs10 σ10 H10 I10 q10=>?_;exact wpAny_pure ⟨rfl,again I10 q10⟩
 exact codeAny_compStart_list loop (T.self X.A 0 _ _ _ tn4 loop)
def qbY {i:Nat} {y:Str} {py spos:Pos} {elt tg iter t2 i2:Expr} {ifs f2:List Expr} {scope:Scope} {pos:Pos} {N':List Str} {m:List (Option Nat)} {wi:TI} {g:TG} {tif:TT} {wi2:TI} {g2:TG} {tif2:TT} {te:TE} (hc:X.calm=true) (hN:X.N.Nodup) (hi:PI X tg iter wi)
  (hg:∀ s H fp,PG (qg X N' scope s H fp) tg g) (hf:∀ s H fp,PF (qg X N' scope s H fp) ifs tif) (hi2:∀ s H fp,PI (qg X N' scope s H fp) t2 i2 wi2) (hg2:∀ s H fp,PG (qg X N' scope s H fp) t2 g2) (hf2:∀ s H fp,PF (qg X N' scope s H fp) f2 tif2) (he:∀ s H fp,PE (qg X N' scope s H fp) elt te)
  (hsc:SV X.env.scope scope=true) (hcap:ZX X.N N' scope m=true) (hs:∀ x,foldedSetIterable iter X.env x=pure x) (hs2:∀ s H fp x,foldedSetIterable i2 (qg X N' scope s H fp).env x=pure x) (hiy:X.N[i]?=some y) (hl:X.env.scope.names.lookup y=some .local)
  (hsw:swapsWith (.ListComp elt [⟨tg,iter,ifs,0⟩,⟨t2,i2,f2,0⟩] scope pos) (some (.Name y py)) spos.line X.env=pure true) :
  PS X (.Assign [.Name y py] (.ListComp elt [⟨tg,iter,ifs,0⟩,⟨t2,i2,f2,0⟩] scope pos) spos) (qme (qn9 wi g tif wi2 g2 tif2 te m) (qcE i)):=by
 intro pins s σ H D I h;rw [exec_Assign_Name_used _ _ _ _ hsw];refine wpAny_bind (wpAny_standAt (wpAny_bind ?_));show wpAny _ X.A (do let _←comprehension (.ListComp elt [⟨tg,iter,ifs,0⟩,⟨t2,i2,f2,0⟩] scope pos) scope X.env _ (newList []) false (eval iter X.env) (some (assign (.Name y py) X.env))) _ _ s;refine wpAny_bind (wpAny_mono (qdz (use:=some (assign (.Name y py) X.env)) (QD:=λD' H'=>D.nx (σ.set i (some (.ref D'))) H') (Qc:=λ_ s'=>∃ σ' H',Inv X pins σ' H' s'/\D.nx σ' H') hc hi hg hf hi2 hg2 hf2 he hsc hcap hs hs2 I h λD' s3 H3 fp s6 H6 σ6 r I3 f3 I6 q=>?_) (λ_ s' hq=>wpAny_pure (wpAny_pure hq)) λ_ _ e=>e);have I7:Inv X pins σ H6 s6:=YR (h2:=s6.heap) I3 f3 I6 ⟨rfl,λ_ _=>rfl⟩;obtain ⟨mm,hn6,_⟩:=I6.loc;have hfC:WK X pins H6 s3.heap.objs.size:=I3.fpOk (Nat.le_refl _) I6.free;obtain ⟨f0,f1,f2,f3',f4,f5⟩:=hfC;show wpAny _ X.A (assign (.Name y py) X.env (.ref D')) _ _ _;refine wpAny_assign_Name (DT I7 hN hiy (.inl hl) (v:=.ref D') rfl (λs8 I8 hch=>?_) (.inr hl));obtain ⟨a,sb,ha⟩:=hch;have hne:s3.heap.objs.size≠a:=by
  rcases ha with rfl|ha
  ·exact f1
  ·exact Ne.symm (f4 _ _ ha)
 refine ⟨mm,hn6.sameBut sb hne,λh' sb'=>⟨_,_,I8.turned (t':=s8.toks) (λb o hb e=>(sb'.2 b hb).trans e) f0 f1 f3' f4 f5,q⟩⟩
end
def qiY {K:Frg} {m:List (Option Nat)} {wi:TI3} {g:TG3} {tif:TT3} {wi2:TI3} {g2:TG3} {tif2:TT3} {te:TE3} {σ:L2.St} {H:Hp} {Q:VK} (hh:lE K (qfi wi g tif wi2 g2 tif2 te m) σ H Q):qn9 (lI K wi) (lG K g) (lT K tif) (lI K wi2) (lG K g2) (lT K tif2) (lE K te) m σ H Q:=by
  obtain ⟨τ,G,q,rl,h,af⟩:=hh;refine ⟨τ,G,_,rl,h,λitems stay G1 h1 J H1 hr1 k1 ok D hD=>?_⟩;have gD:G1 D=none:=hr1.free hD;have h1:=h1 D gD;have hr1':HR K (gu G1 D (.lst [])) (upd H1 D (.lst [])):=HR.newL hr1 hD .nil;have k1':Kp G1 H1 (gu G1 D (.lst [])) (upd H1 D (.lst [])):=Kp.newL hD;refine ⟨λi n σ' H'=>n=items.length-i/\i<=items.length/\∃ τ' G',Rel K τ' G' σ' H'/\Kp G1 H1 G' H'/\MV D stay g tif wi2 g2 tif2 te q (items.drop i) τ' G',
   ⟨_,rfl,Nat.zero_le _,cap m τ,_,((rl.next hr1 k1).cap m).next hr1' k1',k1',by simpa using h1⟩,?_⟩
  rintro i n σ' H' ⟨rfl,hi,τ',G',rl',k',h'⟩;by_cases hlt:i<items.length
  ·rw [List.drop_eq_getElem_cons hlt] at h';obtain ⟨hst,h'⟩:=h';obtain ⟨go,yld,_⟩:=ok G' H' rl'.hp k' hst;have hx:items[i]?=some items[i]:=getElem?_eq_getElem hlt;refine .inr ⟨go i _ hx,λv H2 y=>?_⟩;obtain ⟨rv,hr2,k2⟩:=yld i _ v H2 hx y;refine ⟨_,τ',G',_,rv,rl'.next hr2 k2,h',λτ3 G3 h3 σ3 H3 rl3 k3=>⟨τ3,G3,_,rl3,h3,λk G4 h4 H4 hr4 k4=>?_⟩⟩;have kk:=(k2.trans k3).trans k4;cases k with
   |false=>
    rw [if_neg Bool.false_ne_true] at h4;refine qjp ?_;exact ⟨_,by omega,rfl,hlt,τ3,G4,rl3.next hr4 k4,k'.trans kk,h4⟩
   |true=>
    rw [if_pos rfl] at h4;refine qhX ?_;exact qaa (rl3.next hr4 k4) (k'.trans kk) h4 λτ5 G5 σ5 H5 rl5 k5 h5=>⟨_,by omega,rfl,hlt,τ5,G5,rl5,k5,h5⟩
  ·have e:i=items.length:=by omega
   subst e;rw [List.drop_length] at h';obtain ⟨_,_,stop⟩:=ok G' H' rl'.hp k' h'.1;exact .inl ⟨stop,af _ _ h'.2 _ H' (.ref D) rl'.hp (k1.trans k')⟩
def qcu {X:Cx} {py spos:Pos} {elt tg iter t2 i2:Expr} {ifs f2:List Expr} {scope:Scope} {pos:Pos} {y:Str} (i:Nat) (N':List Str) (m:List (Option Nat)) {wi:TI3} {g:TG3} {tif:TT3} {wi2:TI3} {g2:TG3} {tif2:TT3} {te:TE3} (hc:X.calm=true) (hN:X.N.Nodup) (hi:I3 X tg iter wi)
  (hg:∀ s H fp,G3 (qg X N' scope s H fp) tg g) (hf:∀ s H fp,F3 (qg X N' scope s H fp) ifs tif) (hi2:∀ s H fp,I3 (qg X N' scope s H fp) t2 i2 wi2) (hg2:∀ s H fp,G3 (qg X N' scope s H fp) t2 g2) (hf2:∀ s H fp,F3 (qg X N' scope s H fp) f2 tif2) (he:∀ s H fp,E3 (qg X N' scope s H fp) elt te)
  (hsc:SV X.env.scope scope=true) (hcap:ZX X.N N' scope m=true) (hl:X.env.scope.names.lookup y=some .local) (hsw:swapsWith (.ListComp elt [⟨tg,iter,ifs,0⟩,⟨t2,i2,f2,0⟩] scope pos) (some (.Name y py)) spos.line X.env=pure true) (hiy:X.N[i]?=some y) (hs:∀ x,foldedSetIterable iter X.env x=pure x) (hs2:∀ s H fp x,foldedSetIterable i2 (qg X N' scope s H fp).env x=pure x) :
  S3 X (.Assign [.Name y py] (.ListComp elt [⟨tg,iter,ifs,0⟩,⟨t2,i2,f2,0⟩] scope pos) spos) (zn (qfi wi g tif wi2 g2 tif2 te m) (gn3 i)):=
 qcf (qbY (g:=lG X.K g) (tif:=lT X.K tif) (wi2:=lI X.K wi2) (g2:=lG X.K g2) (tif2:=lT X.K tif2) (te:=lE X.K te) hc hN hi hg hf hi2 hg2 hf2 he hsc hcap hs hs2 hiy hl hsw) λ_ σ H ⟨τ,G,d,rl,h,af⟩=>
  qiY ⟨τ,G,_,rl,h,λx G1 h1 v H1 rx hr1 k1=>af.nx _ G1 h1 _ H1 ((rl.next hr1 k1).set i rx) k1⟩
def qaY {X:Cx} {py spos:Pos} {elt tg iter t2 i2:Expr} {ifs f2:List Expr} {scope:Scope} {pos:Pos} {y:Str} (i:Nat) (N':List Str) (m:List (Option Nat)) {wi:TI3} {g:TG3} {tif:TT3} {wi2:TI3} {g2:TG3} {tif2:TT3} {te:TE3} (hc:X.calm=true) (hN:X.N.Nodup) (hi:jI3 X tg iter wi)
  (hg:∀ s H fp,jG3 (qg X N' scope s H fp) tg g) (hf:∀ s H fp,jF3 (qg X N' scope s H fp) ifs tif) (hi2:∀ s H fp,jI3 (qg X N' scope s H fp) t2 i2 wi2) (hg2:∀ s H fp,jG3 (qg X N' scope s H fp) t2 g2) (hf2:∀ s H fp,jF3 (qg X N' scope s H fp) f2 tif2) (he:∀ s H fp,jE3 (qg X N' scope s H fp) elt te)
  (hsc:SV X.env.scope scope=true) (hcap:ZX X.N N' scope m=true) (hl:X.env.scope.names.lookup y=some .local) (hsw:swapsWith (.ListComp elt [⟨tg,iter,ifs,0⟩,⟨t2,i2,f2,0⟩] scope pos) (some (.Name y py)) spos.line X.env=pure true) (hiy:X.N[i]?=some y:=by rfl) (hs:∀ x,foldedSetIterable iter X.env x=pure x:=by intro _;rfl) (hs2:∀ s H fp x,foldedSetIterable i2 (qg X N' scope s H fp).env x=pure x:=by intro _ _ _ _;rfl) :
  jS3 X (.Assign [.Name y py] (.ListComp elt [⟨tg,iter,ifs,0⟩,⟨t2,i2,f2,0⟩] scope pos) spos) (zn (qfi wi g tif wi2 g2 tif2 te m) (gn3 i)):=
 ⟨qcu i N' m hc hN hi.h (λs H fp=>(hg s H fp).h) (λs H fp=>(hf s H fp).h) (λs H fp=>(hi2 s H fp).h) (λs H fp=>(hg2 s H fp).h) (λs H fp=>(hf2 s H fp).h) (λs H fp=>(he s H fp).h) hsc hcap hl hsw hiy hs hs2⟩
def qar:Sp3:=λ_ _ _=>False
def EU {P:Program} {w:World} {K:Frg} {mg:Str->Option Value} {base:Heap} {x qual:Str} {st:Stmt} {f:Addr} {fd:FuncData} {ps:List Str} (F:Fun K x qual st f fd) (bd:zh K fd ps []) (hm:mg x=some (.ref f)):Fn3 P w K mg base 0 x qar:=
 ⟨f,fd,ps,⟨λvs H Q E ⟨_,_,_,_,_,h,_⟩=>h.elim,λA outer s H args us vs Q E _ _ _ _ ⟨_,_,_,_,_,h,_⟩=>h.elim⟩,bd,F.kp,hm⟩
def ixT (xs:List T) (i:Int) (G:Gp) (q:Q3):ix3 (.tup xs) (.int i) G q=(match L2.atI xs i with|some z=>q z G|none=>False):=rfl
def ixR (p:Addr) (i:Int) (G:Gp) (q:Q3):ix3 (.ref p) (.int i) G q=(match getL G p with|some xs=>(match L2.atI xs i with|some z=>q z G|none=>False)|none=>False):=rfl
def LZ {α:Type} {xs:List α} {i:Int} (h0:0<=i) (h1:i<(xs.length:Int)):L2.atI xs i=xs[i.toNat]?:=by
 unfold L2.atI ixN;have e1:i.toNat<xs.length:=by omega
 simp [h0,e1,h1]
def VV:¬ Str.ofString "skew" = Str.ofString "rests" := by decide
def XZ:¬ Str.ofString "rests" = Str.ofString "skew" := by decide
def SA:¬ Str.ofString "row" = Str.ofString "block" := by decide
def KH:¬ Str.ofString "row" = Str.ofString "step" := by decide
def R6:¬ Str.ofString "row" = Str.ofString "cells" := by decide
def DJ:¬ Str.ofString "column" = Str.ofString "block" := by decide
def WM:¬ Str.ofString "column" = Str.ofString "step" := by decide
def DU:¬ Str.ofString "column" = Str.ofString "cells" := by decide
def WQ:¬ Str.ofString "slant" = Str.ofString "block" := by decide
def X0:¬ Str.ofString "slant" = Str.ofString "step" := by decide
def WX:¬ Str.ofString "slant" = Str.ofString "cells" := by decide
def CG:¬ Str.ofString "back" = Str.ofString "block" := by decide
def RH:¬ Str.ofString "back" = Str.ofString "step" := by decide
def CB:¬ Str.ofString "back" = Str.ofString "cells" := by decide
def Y4:¬ Str.ofString "block" = Str.ofString "cells" := by decide
def V5:¬ Str.ofString "step" = Str.ofString "block" := by decide
def UH:¬ Str.ofString "step" = Str.ofString "cells" := by decide
def WS:¬ Str.ofString "cells" = Str.ofString "block" := by decide
def CS:¬ Str.ofString "cells" = Str.ofString "step" := by decide
def cm {i j:Int} (h1:-1000000<j) (h2:j<1000000):jy i j:=.inr ⟨by omega,by omega⟩
def qds {stay:Gp->Prop} {g:TG3} {tif:TT3} {te:TE3} {q:Q3} (items:List T) (Pv:Nat->List T->St3->Gp->Prop) {τ:St3} {G:Gp} (h0:Pv 0 [] τ G) (hst:∀ i ys τ G,i<=items.length->Pv i ys τ G->stay G)
  (hs:∀ i x ys τ G (R:List T->St3->Gp->Prop),items[i]?=some x->Pv i ys τ G->(∀ ys' τ' G',Pv (i+1) ys' τ' G'->R ys' τ' G') ->
   g x τ G λτ2 G2=>tif τ2 G2 λk G3=>if k=true then te τ2 G3 λy G4=>ys.length<sizeLine/\R (ys++[y]) τ2 G4 else R ys τ2 G3)
  (hd:∀ ys τ G,Pv items.length ys τ G->∀ p,G p=none->q (.ref p) (gu G p (.lst ys))):MN stay g tif te q items [] τ G:=by
 have key:∀ (r:List T) (i:Nat) ys τ G,items.drop i=r->i<=items.length->Pv i ys τ G->MN stay g tif te q r ys τ G:=by
  intro r;induction r with
  |nil=>
   intro i ys τ G e hi p;have:i=items.length:=by have:=congrArg List.length e;simp at this;omega
   subst this;exact ⟨hst _ ys τ G hi p,hd ys τ G p⟩
  |cons x r ih=>
   intro i ys τ G e hi p;have hl:i<items.length:=by
    apply Classical.byContradiction;intro z;rw [List.drop_eq_nil_of_le (by omega)] at e;cases e
   have e':=List.drop_eq_getElem_cons hl;rw [e] at e';injection e' with e1 e2;exact ⟨hst i ys τ G hi p,hs i x ys τ G _ (by rw [getElem?_eq_getElem hl,e1]) p λys2 τ2 G2 p2=>ih (i+1) ys2 τ2 G2 e2.symm hl p2⟩
 exact key items 0 [] τ G (by simp) (Nat.zero_le _) h0
def qai {lo:Int} {n i:Nat} {x:T} (h:(MY lo n)[i]?=some x):i<n/\x=T.int (lo+(i:Int)):=by
 unfold MY at h;rw [getElem?_map] at h;cases e:(List.range n)[i]? with
 |none=>rw [e] at h;cases h
 |some k=>
  rw [e] at h;obtain ⟨hi,hk⟩:=List.getElem?_eq_some_iff.mp e;simp at hi hk;subst hk;exact ⟨hi,by simpa using h.symm⟩
def qaD (lo:Int) (n:Nat):(MY lo n).length=n:=by simp [MY]
end L3
namespace Bk
open PySem L2 L3
def ZQ:TS3:=(qT (ju (ER (λt=>QK t "int") (v3 0)) (TW (ER (λt=>QK t "bool") (v3 0)))))
def UI (S_is_number:Sp3):TS3:=(qT (ju (ER (λt=>QK t "tuple") (v3 0)) (ju (o3 (zS false) (cb3 EG (qc (v3 0) qk)) (c3 (.int 2))) (ju (cb3 S_is_number (qc (o3 ix3 (v3 0) (c3 (.int 0))) qk)) (cb3 S_is_number (qc (o3 ix3 (v3 0) (c3 (.int 1))) qk))))))
def V1:TS3:=(qR (zn (o3 (iC (λ_ j=>0<j) (·%·)) (o3 (iC jy (·*·)) (o3 zK (o3 zK (o3 (iC (λ_ j=>0<j) (·%·)) (v3 0) (c3 (.int 2147483629))) (o3 (iC jy (·*·)) (o3 (iC jy (·*·)) (v3 1) (v3 1)) (c3 (.int 7919)))) (c3 (.int 11))) (c3 (.int 48271))) (c3 (.int 2147483647))) (gn3 2)) (qT (o3 (iC (λ_ j=>0<j) (·%·)) (o3 (iC jy (·*·)) (v3 2) (v3 2)) (c3 (.int 1999999973)))))
def YC:TS3:=(qR (zn (if3 (tb3 (o3 (iB λi j=>decide (i<j)) (v3 1) (cb3 EG (qc (v3 0) qk)))) (o3 ix3 (v3 0) (v3 1)) (c3 (.int 0))) (gn3 2)) (qR (zn (if3 (tb3 (o3 (iB λi j=>decide (j<=i)) (cb3 qfQ (qc (v3 2) qk)) (o3 (iC qlC (λi j=>i ^ j.toNat)) (c3 (.int 10)) (c3 (.int 18))))) (cb3 qfQ (qc (v3 2) qk)) (c3 (.int 0))) (gn3 3)) (qT (JH (qc (v3 3) (qc (o3 zK (v3 2) (o3 (iC jy (·*·)) (c3 (.int 1000003)) (v3 1))) (qc (c3 (.int 0)) qk)))))))
def YT (S_law_mix:Sp3):TS3:=(qR (zn (o3 zK (o3 ix3 (v3 0) (c3 (.int 2))) (c3 (.int 1))) (WE (v3 0) (c3 (.int 2)))) (qR (zZ (tb3 (o3 (iB λi j=>decide (j<i)) (o3 ix3 (v3 0) (c3 (.int 0))) (c3 (.int 0)))) (qR (zn (o3 (iC (λ_ j=>0<j) (·%·)) (o3 ix3 (v3 0) (c3 (.int 0))) (v3 1)) (gn3 2)) (qR (zn (o3 (iC qb4 (·/·)) (o3 ix3 (v3 0) (c3 (.int 0))) (v3 1)) (WE (v3 0) (c3 (.int 0)))) (qT (v3 2)))) qL) (qT (o3 (iC (λ_ j=>0<j) (·%·)) (o3 (iC qb4 (·/·)) (cb3 S_law_mix (qc (cb3 S_law_mix (qc (o3 ix3 (v3 0) (c3 (.int 1))) (qc (o3 ix3 (v3 0) (c3 (.int 2))) qk))) (qc (o3 zK (o3 ix3 (v3 0) (c3 (.int 2))) (c3 (.int 64))) qk))) (c3 (.int 64))) (v3 1)))))
def Z8 (S_law_pick:Sp3):TS3:=(qR (zn (o3 ix3 (JH (qc (c3 (.int 6)) (qc (c3 (.int 6)) (qc (c3 (.int 6)) (qc (c3 (.int 16)) qk))))) (cb3 S_law_pick (qc (v3 0) (qc (c3 (.int 4)) qk)))) (gn3 1)) (qR (CC 2 3 (qc (o3 zK (c3 (.int 1)) (cb3 S_law_pick (qc (v3 0) (qc (v3 1) qk)))) (qc (o3 zK (c3 (.int 1)) (cb3 S_law_pick (qc (v3 0) (qc (v3 1) qk)))) qk))) (qT (o3 ix3 (JH (qc (jW (qc (v3 2) (qc (v3 3) qk))) (qc (jW (qc (v3 2) (qc (v3 3) qk))) (qc (jW (qc (v3 2) (qc (v3 3) qk))) (qc (jW (qc (v3 2) (qc (v3 2) qk))) qk))))) (cb3 S_law_pick (qc (v3 0) (qc (c3 (.int 4)) qk)))))))
def V9:TS3:=(qR (K9 (tb3 (o3 (iB λi j=>decide (j<i)) (v3 1) (c3 (.int 0)))) (CC 0 1 (qc (v3 1) (qc (o3 (iC (λ_ j=>0<j) (·%·)) (v3 0) (v3 1)) qk)))) (qT (v3 0)))
def YV (S_law_sides:Sp3) (S_law_pick:Sp3):TS3:=(qR (zn (cb3 S_law_sides (qc (v3 0) qk)) (jo 2 (qx (gn3 1) (qx (gn3 2) jm)))) (qR (zn (o3 zK (c3 (.int 1)) (cb3 S_law_pick (qc (v3 0) (qc (o3 ix3 (JH (qc (c3 (.int 8)) (qc (c3 (.int 8)) (qc (c3 (.int 17)) (qc (c3 (.int 32)) qk))))) (cb3 S_law_pick (qc (v3 0) (qc (c3 (.int 4)) qk)))) qk)))) (gn3 3)) (qR (zn (o3 ix3 (JH (qc (v3 3) (qc (c3 (.int 10)) (qc (c3 (.int 100)) qk)))) (cb3 S_law_pick (qc (v3 0) (qc (c3 (.int 3)) qk)))) (gn3 4)) (qT (jW (qc (c3 (.str "skew")) (qc (v3 1) (qc (v3 2) (qc (v3 3) (qc (cb3 S_law_pick (qc (v3 0) (qc (v3 4) qk))) (qc (cb3 S_law_pick (qc (v3 0) (qc (v3 4) qk))) qk)))))))))))
def ZW (S_law_sides:Sp3) (S_law_pick:Sp3) (S_law_gcd:Sp3):TS3:=(qR (zn (cb3 S_law_sides (qc (v3 0) qk)) (jo 2 (qx (gn3 1) (qx (gn3 2) jm)))) (qR (zn (o3 zK (c3 (.int 1)) (cb3 S_law_pick (qc (v3 0) (qc (o3 ix3 (JH (qc (c3 (.int 8)) (qc (c3 (.int 17)) (qc (c3 (.int 32)) qk)))) (cb3 S_law_pick (qc (v3 0) (qc (c3 (.int 3)) qk)))) qk)))) (gn3 3)) (qR (zn (o3 zK (u3 TH (o3 (iC qb4 (·/·)) (o3 (iC jy (·*·)) (u3 TH (v3 1)) (v3 2)) (v3 3))) (cb3 S_law_pick (qc (v3 0) (qc (c3 (.int 4)) qk)))) (gn3 4)) (qR (R0 (QM (qc (c3 (.int 32)) qk)) (gn3 5) (zZ (tb3 (o3 (iB λi j=>decide (j<i)) (cb3 S_law_gcd (qc (v3 3) (qc (v3 4) qk))) (c3 (.int 1)))) (zn (o3 zK (v3 4) (c3 (.int 1))) (gn3 4)) qL)) (qT (jW (qc (c3 (.str "rests")) (qc (v3 1) (qc (v3 2) (qc (v3 3) (qc (v3 4) qk)))))))))))
def YI (S_law_size:Sp3) (S_law_odd:Sp3) (S_law_bank:Sp3):TS3:=(qR (zn (cb3 S_law_size (qc (v3 0) qk)) (jo 3 (qx (gn3 3) (qx (gn3 4) (qx (gn3 5) jm))))) (qR (zZ (tb3 (o3 (zS false) (o3 ix3 (v3 0) (c3 (.int 0))) (c3 (.str "skew")))) (qT (o3 (iC (λ_ j=>0<j) (·%·)) (o3 zK (o3 (iC jy (·*·)) (o3 ix3 (v3 0) (c3 (.int 4))) (v3 1)) (o3 (iC jy (·*·)) (o3 ix3 (v3 0) (c3 (.int 5))) (v3 2))) (v3 5))) qL) (qR (zZ (tb3 (o3 (zS false) (o3 ix3 (v3 0) (c3 (.int 0))) (c3 (.str "rests")))) (qT (o3 (iC (λ_ j=>0<j) (·%·)) (o3 zK (o3 (iC jy (·*·)) (v3 1) (v3 4)) (v3 2)) (v3 5))) qL) (qR (zZ (tb3 (o3 (zS false) (o3 ix3 (v3 0) (c3 (.int 0))) (c3 (.str "bits")))) (qR (zn (lc3 (L7 (qc (o3 ix3 (v3 0) (c3 (.int 3))) qk)) (jo 2 (qx (gn3 0) (qx (gn3 1) jm))) (tb3 (cb3 S_law_odd (qc (o3 (iI Builtin.bitAnd) (o3 zK (o3 (iC jy (·*·)) (v3 3) (v3 4)) (v3 2)) (v3 1)) qk))) (o3 ix3 (JH (qc (c3 (.int 1)) (qc (c3 (.int 2)) (qc (c3 (.int 4)) (qc (c3 (.int 8)) (qc (c3 (.int 16)) qk)))))) (v3 0)) [none,none,some 2,some 1,some 4]) (gn3 6)) (qT (cb3 qks (qc (v3 6) qk)))) qL) (qR (zZ (tb3 (o3 (zS false) (o3 ix3 (v3 0) (c3 (.int 0))) (c3 (.str "table")))) (qT (o3 ix3 (o3 ix3 (o3 ix3 (v3 0) (c3 (.int 2))) (v3 1)) (v3 2))) qL) (qR (zn (cb3 S_law_size (qc (o3 ix3 (v3 0) (c3 (.int 2))) qk)) (jo 3 (qx (gn3 7) (qx (gn3 8) (qx (gn3 9) jm))))) (qT (o3 zK (o3 (iC jy (·*·)) (cb3 S_law_bank (qc (o3 ix3 (v3 0) (c3 (.int 1))) (qc (o3 (iC qb4 (·/·)) (v3 1) (v3 7)) (qc (o3 (iC qb4 (·/·)) (v3 2) (v3 8)) qk)))) (v3 9)) (cb3 S_law_bank (qc (o3 ix3 (v3 0) (c3 (.int 2))) (qc (o3 (iC (λ_ j=>0<j) (·%·)) (v3 1) (v3 7)) (qc (o3 (iC (λ_ j=>0<j) (·%·)) (v3 2) (v3 8)) qk))))))))))))
def UY (S_law_same:Sp3):TS3:=(qR (zZ (tb3 (ER (λt=>QK t "list" || QK t "tuple") (v3 1))) (qR (zZ (or3 (tb3 (o3 (zS true) (ER (λt=>QK t "list") (v3 0)) (ER (λt=>QK t "list") (v3 1)))) (tb3 (o3 (zS true) (ER (λt=>QK t "tuple") (v3 0)) (ER (λt=>QK t "tuple") (v3 1))))) (qT (c3 (.bl false))) qL) (qT (ju (o3 (zS false) (cb3 EG (qc (v3 0) qk)) (cb3 EG (qc (v3 1) qk))) (cb3 NJ (qc (lc3 (KG (qc (v3 0) (qc (v3 1) qk))) (jo 2 (qx (gn3 0) (qx (gn3 1) jm))) tt3 (cb3 S_law_same (qc (v3 0) (qc (v3 1) qk))) [none,none]) qk))))) qL) (qR (zZ (or3 (tb3 (o3 (qhP false) (v3 1) (c3 .non))) (tb3 (ER (λt=>QK t "str" || QK t "bool") (v3 1)))) (qT (ju (o3 (zS false) (v3 0) (v3 1)) (ju (o3 (zS false) (ER (λt=>QK t "bool") (v3 0)) (ER (λt=>QK t "bool") (v3 1))) (o3 (zS false) (o3 (qhP false) (v3 0) (c3 .non)) (o3 (qhP false) (v3 1) (c3 .non)))))) qL) (qT (ju (ER (λt=>QK t "int") (v3 0)) (ju (TW (ER (λt=>QK t "bool") (v3 0))) (o3 (zS false) (v3 0) (v3 1)))))))
inductive Dl where
 |skew (r c b x y:Int)
 |rests (r c b p:Int)
 |bits (h l:Nat) (ms:List Int)
 |table (b:Int) (cells:List (List Int))
 |joined (d e:Dl)
def qoY (r:List Int):T:=.tup (r.map T.int)
def Dl.t:Dl->T
 |.skew r c b x y=>.tup [.str "skew",.int r,.int c,.int b,.int x,.int y]
 |.rests r c b p=>.tup [.str "rests",.int r,.int c,.int b,.int p]
 |.bits h l ms=>.tup [.str "bits",.int h,.int l,.tup (ms.map T.int)]
 |.table b cells=>.tup [.str "table",.int b,.tup (cells.map qoY)]
 |.joined d e=>.tup [.str "joined",d.t,e.t]
def Dl.R:Dl->Int
 |.skew r _ _ _ _=>r
 |.rests r _ _ _=>r
 |.bits h _ _=>2 ^ h
 |.table _ cells=>cells.length
 |.joined d e=>d.R*e.R
def Dl.C:Dl->Int
 |.skew _ c _ _ _=>c
 |.rests _ c _ _=>c
 |.bits _ l _=>2 ^ l
 |.table _ cells=>((cells[0]?).getD []).length
 |.joined d e=>d.C*e.C
def Dl.B:Dl->Int
 |.skew _ _ b _ _=>b
 |.rests _ _ b _=>b
 |.bits _ _ ms=>2 ^ ms.length
 |.table b _=>b
 |.joined d e=>d.B*e.B
def Dl.Ok:Dl->Prop
 |.skew r c b x y=>1<=r/\r<=60/\1<=c/\c<=60/\1<=b/\b<=1000/\0<=x/\x<=1000/\0<=y/\y<=1000
 |.rests r c b p=>1<=r/\r<=60/\1<=c/\c<=60/\1<=b/\b<=1000/\1<=p/\p<=100000/\Int.gcd b p=1/\r*c<=b*p
 |.bits h l ms=>h<=4/\l<=4/\ms.length<=5/\∀ m∈ms,0<=m/\m<2 ^ (h+l)
 |.table b cells=>1<=b/\b<=1000/\1<=cells.length/\cells.length<=60/\∃ c,1<=c/\c<=60/\∀ row∈cells,row.length=c/\∀ x∈row,0<=x/\x<b
 |.joined d e=>d.Ok/\e.Ok/\d.R*e.R<=4096/\d.C*e.C<=4096/\d.B*e.B<=4096
def Dl.dep:Dl->Nat
 |.joined d e=>max d.dep e.dep+1
 |_=>0
def p2 (n:Nat):((2:Int) ^ n)=((2 ^ n:Nat):Int):=by simp
def qaG (n:Nat):(1:Int)<=2 ^ n:=by
 rw [p2];have:=Nat.one_le_two_pow (n:=n);omega
def qgn {n k:Nat} (h:n<=k):(2:Int) ^ n<=2 ^ k:=by
 rw [p2,p2];have:=Nat.pow_le_pow_right (n:=2) (by omega) h;omega
structure Lims (d:Dl):Prop where
 r1:1<=d.R
 r2:d.R<=4096
 c1:1<=d.C
 c2:d.C<=4096
 b1:1<=d.B
 b2:d.B<=4096
def YB {a b:Int} (h1:1<=a) (h2:1<=b):1<=a*b:=by
 have:=Int.mul_le_mul (a:=1) (b:=1) (c:=a) (d:=b) h1 h2 (by omega) (by omega);omega
def Dl.lims:∀ {d:Dl},d.Ok->Lims d
 |.skew r c b x y,⟨h1,h2,h3,h4,h5,h6,_⟩=>⟨h1,by simp [Dl.R];omega,h3,by simp [Dl.C];omega,h5,by simp [Dl.B];omega⟩
 |.rests r c b x,⟨h1,h2,h3,h4,h5,h6,_⟩=>⟨h1,by simp [Dl.R];omega,h3,by simp [Dl.C];omega,h5,by simp [Dl.B];omega⟩
 |.bits h l ms,⟨h1,h2,h3,_⟩=>by
  have e1:=qgn h1;have e2:=qgn h2;have e3:=qgn h3;refine ⟨qaG _,?_,qaG _,?_,qaG _,?_⟩<;>simp [Dl.R,Dl.C,Dl.B]<;>omega
 |.table b cells,⟨h1,h2,h3,h4,c,h5,h6,h7⟩=>by
  have e0:cells[0]?=some cells[0]:=getElem?_eq_getElem (by omega);have e1:=(h7 cells[0] (List.getElem_mem _)).1;have e2:(Dl.table b cells).C=c:=by simp [Dl.C,e0,e1]
  exact ⟨by simp [Dl.R];omega,by simp [Dl.R];omega,by rw [e2];omega,by rw [e2];omega,h1,by simp [Dl.B];omega⟩
 |.joined d e,⟨h1,h2,h3,h4,h5⟩=>by
  have a:=Dl.lims h1;have b:=Dl.lims h2;exact ⟨YB a.r1 b.r1,h3,YB a.c1 b.c1,h4,YB a.b1 b.b1,h5⟩
abbrev qcl (q:Q3):Ends3:={ nx:=λ_ G'=>q .non G',rt:=q }
def jX {A B:TS3} {d:Ends3} {τ:St3} {G:Gp} (h:∀ nx,nx=B d->A { d with nx:=nx } τ G):qR A B d τ G:=h _ rfl
def Lf (G:Gp) (a:Addr) (n:Int):Prop:=∃ o c m,G a=some (.lst [.int o,.int c,.int m])/\0<=o/\0<=m/\m<=n
def Ext (a:Addr) (G G':Gp):Prop:=∀ b o,b≠a->G b=some o->G' b=some o
def Lf.ne {G:Gp} {a p:Addr} {n:Int} (h:Lf G a n) (hp:G p=none):p≠a:=by
 rintro rfl;obtain ⟨o,c,m,e,_⟩:=h;rw [hp] at e;cases e
def Lf.new {G:Gp} {a p:Addr} {n:Int} {ob:O} (h:Lf G a n) (hp:p≠a):Lf (gu G p ob) a n:=by
 obtain ⟨o,c,m,e,r⟩:=h;exact ⟨o,c,m,by rw [jK (Ne.symm hp)];exact e,r⟩
def Lf.mono {G:Gp} {a:Addr} {n k:Int} (h:Lf G a n) (hk:n<=k):Lf G a k:=by
 obtain ⟨o,c,m,e,h1,h2,h3⟩:=h;exact ⟨o,c,m,e,h1,h2,by omega⟩
def Lf.ex {G G':Gp} {a:Addr} {n:Int} (h:Lf G a n) (e:Ex G G'):Lf G' a n:=by
 obtain ⟨o,c,m,e1,h1⟩:=h;exact ⟨o,c,m,e _ _ e1,h1⟩
def Ext.trans {a:Addr} {G G1 G2:Gp} (x:Ext a G G1) (y:Ext a G1 G2):Ext a G G2:=λb o hb e=>y b o hb (x b o hb e)
def JR {a p:Addr} {G:Gp} {ob:O} (hp:G p=none):Ext a G (gu G p ob):=λb o _ e=>by
 rw [jK (by rintro rfl;rw [hp] at e;cases e)];exact e
def XE {a:Addr} {G G':Gp} (h:Ex G G'):Ext a G G':=λb o _ e=>h b o e
def W4:Sp3:=λts G q=>∃ c k,ts=[.int c,.int k]/\0<=k/\k<4294967296/\∀ m,0<=m->m<1999999973->q (.int m) G
def ZL:Sp3:=λts G q=>∃ (a:Addr) (k:Int) (ns:List Int),ts=[.ref a,.int k]/\G a=some (.frz (ns.map T.int))/\ns.length<=63/\0<=k/\k<=63/\∀ p o c,G p=none->0<=o->q (.ref p) (gu G p (.lst [.int o,.int c,.int 0]))
def qK:Sp3:=λts G q=>∃ a n many,ts=[.ref a,.int many]/\1<=many/\many<1073741824/\Lf G a n/\n<1073741824/\∀ d G',0<=d->d<many->Lf G' a (n+1)->Ext a G G'->q (.int d) G'
def jI:Sp3:=λts G q=>∃ a n,ts=[.ref a]/\Lf G a n/\n<100000000/\∀ r c G',1<=r->r<=16->1<=c->c<=16->Lf G' a (n+4)->Ext a G G'->q (.tup [.int r,.int c]) G'
def XM:Sp3:=λts G q=>∃ x y:Int,ts=[.int x,.int y]/\0<=x/\0<=y/\q (.int (Int.gcd x y:Nat)) G
structure Dr (d:Dl) (r c b:Int):Prop where
 ok:d.Ok
 r2:d.R<=r
 c2:d.C<=c
 b2:d.B<=b
def QQ:Sp3:=λts G q=>∃ a n,ts=[.ref a]/\Lf G a n/\n<10000000/\∀ r c b p G',Dr (.rests r c b p) 16 16 32->Lf G' a (n+10)->Ext a G G'->q (Dl.rests r c b p).t G'
def zW {a:Addr} {n many:Int} {G:Gp} {q:Q3} (hL:Lf G a n) (h1:1<=many) (h2:many<1073741824) (hn:n<1073741824) (h:∀ d G',0<=d->d<many->Lf G' a (n+1)->Ext a G G'->q (.int d) G'):qK [.ref a,.int many] G q:=⟨a,n,many,rfl,h1,h2,hL,hn,h⟩
def M7:∀ ts G q,W4 ts G q->ts.length=2/\V1 (qcl q) (qr ["_law_cell","_law_k","_law_m"] ts) G:=by
 rintro ts G q ⟨c,k,rfl,h1,h2,h⟩;refine ⟨rfl,?_⟩;simp only [V1,qR,zn,o3,v3,qr,map_cons,List.map_nil,length_cons,length_nil,Nat.zero_add,Nat.reduceAdd,Nat.reduceSub,List.replicate_one,cons_append,List.nil_append,Nat.zero_lt_succ,getElem?_pos,getElem_cons_zero,c3,iC,Int.reduceLT,Nat.reduceLT,getElem_cons_succ,zK,gn3,qT,set_cons_succ,set_cons_zero,Nat.lt_add_one,true_and];exact ⟨.inl ⟨by omega,by omega⟩,cm (by omega) (by omega),cm (by omega) (by omega),.inl ⟨by omega,by omega⟩,h _ (Int.emod_nonneg _ (by omega)) (Int.emod_lt_of_pos _ (by omega))⟩
def cp:qlC 10 18:=⟨by decide,by decide,by decide⟩
def TZ:∀ ts G q,ZL ts G q->ts.length=2/\YC (qcl q) (qr ["_law_script","_law_k","_law_cell","_law_own"] ts) G:=by
 rintro ts G q ⟨a,k,ns,rfl,hG,hl,h1,h2,h⟩;refine ⟨rfl,?_⟩;simp only [YC,qR,zn,if3,tb3,o3,v3,qr,map_cons,List.map_nil,length_cons,length_nil,Nat.zero_add,Nat.reduceAdd,Nat.reduceSub,List.reduceReplicate,cons_append,List.nil_append,Nat.reduceLT,getElem?_pos,getElem_cons_succ,getElem_cons_zero,cb3,qc,Nat.zero_lt_succ,qk,EG,getL,hG,iB,length_map,decide_eq_true_eq,gn3,set_cons_succ,set_cons_zero,qfQ,c3,iC,Int.reduceToNat,Int.reducePow,qT,JH,Nat.lt_add_one,zK,ne_eq,sizeLine_eq,Nat.reduceLeDiff,true_and,gu,ixR,atI,ixN,getElem?_map,Int.lt_irrefl,↓reduceIte,Int.reduceLE,decide_false,Bool.false_eq_true,Int.zero_add];have ck:jy 1000003 k:=cm (by omega) (by omega);by_cases hk:k<ns.length
 ·have hk':k.toNat<ns.length:=by omega
  simp [hk,h1,hk',cp,ck];split
  ·split
   ·exact λp hp=>h p (-ns[k.toNat]) _ hp (by omega)
   ·exact λp hp=>h p 0 _ hp (by omega)
  ·split
   ·exact λp hp=>h p ns[k.toNat] _ hp (by omega)
   ·exact λp hp=>h p 0 _ hp (by omega)
 ·simp [hk,cp,ck];exact λp hp=>h p 0 _ hp (by omega)
def TR:∀ ts G q,qK ts G q->ts.length=2/\YT W4 (qcl q) (qr ["_law_left_here","_law_many","_law_digit"] ts) G:=by
 rintro ts G q ⟨a,n,many,rfl,m1,m2,⟨o,c,m,hG,ho,hm,hn⟩,h3,h⟩;refine ⟨rfl,?_⟩;unfold YT;refine jX λnx1 q1=>?_;simp only [zn,o3,v3,qr,map_cons,List.map_nil,length_cons,length_nil,Nat.zero_add,Nat.reduceAdd,Nat.reduceSub,List.replicate_one,cons_append,List.nil_append,Nat.zero_lt_succ,getElem?_pos,getElem_cons_zero,c3,zK,ne_eq,sizeLine_eq,WE,qcB,ixN,Int.zero_le_ofNat,↓reduceIte,Int.reduceToNat,tb3,iB,decide_eq_true_eq,Nat.reduceLT,getElem_cons_succ,iC,gn3,set_cons_succ,set_cons_zero,Std.le_refl,Int.natCast_pos,Int.toNat_zero,qT,Nat.lt_add_one,ixR,getL,atI,qL,cb3,qc,qk,Int.toNat_one,List.length_set,hG,Int.cast_ofNat_Int,Int.reduceLT,Option.bind_some,qG];rw [q1];clear q1;refine jX λnx2 q2=>?_;simp only [zZ,zn,o3,v3,qr,map_cons,List.map_nil,length_cons,length_nil,Nat.zero_add,Nat.reduceAdd,Nat.reduceSub,List.replicate_one,cons_append,List.nil_append,Nat.zero_lt_succ,getElem?_pos,getElem_cons_zero,c3,zK,ne_eq,sizeLine_eq,WE,qcB,ixN,Int.zero_le_ofNat,↓reduceIte,Int.reduceToNat,tb3,iB,decide_eq_true_eq,Nat.reduceLT,getElem_cons_succ,iC,gn3,set_cons_succ,set_cons_zero,Std.le_refl,Int.natCast_pos,Int.toNat_zero,qT,Nat.lt_add_one,ixR,getL,atI,qL,cb3,qc,qk,Int.toNat_one,List.length_set,hG,Int.cast_ofNat_Int,Int.reduceLT,Option.bind_some,qG];split
 ·simp only [qR,zn,o3,v3,length_cons,length_nil,Nat.zero_add,Nat.reduceAdd,Nat.zero_lt_succ,getElem?_pos,getElem_cons_zero,c3,Nat.reduceLT,getElem_cons_succ,iC,gn3,set_cons_succ,set_cons_zero,WE,qcB,ixN,Std.le_refl,↓reduceIte,Int.natCast_pos,Int.toNat_zero,qT,Nat.lt_add_one,ixR,getL,atI,qG,Int.cast_ofNat_Int,Int.reduceLT,Option.bind_some];refine ⟨by omega,⟨by omega,m2⟩,h _ _ (Int.emod_nonneg _ (by omega)) (Int.emod_lt_of_pos _ (by omega)) ⟨o/many,c,m+1,qG,Int.ediv_nonneg ho (by omega),by omega,by omega⟩ λb ob hb e=>?_⟩;rw [jK hb,jK hb];exact e
 ·rw [q2];clear q2;simp only [zn,o3,v3,qr,map_cons,List.map_nil,length_cons,length_nil,Nat.zero_add,Nat.reduceAdd,Nat.reduceSub,List.replicate_one,cons_append,List.nil_append,Nat.zero_lt_succ,getElem?_pos,getElem_cons_zero,c3,zK,ne_eq,sizeLine_eq,WE,qcB,ixN,Int.zero_le_ofNat,↓reduceIte,Int.reduceToNat,tb3,iB,decide_eq_true_eq,Nat.reduceLT,getElem_cons_succ,iC,gn3,set_cons_succ,set_cons_zero,Std.le_refl,Int.natCast_pos,Int.toNat_zero,qT,Nat.lt_add_one,ixR,getL,atI,qL,cb3,qc,qk,Int.toNat_one,List.length_set,hG,Int.cast_ofNat_Int,Int.reduceLT,Option.bind_some,qG];refine ⟨c,m+1,rfl,by omega,by omega,λu u1 u2=>?_⟩;simp only [zn,o3,v3,qr,map_cons,List.map_nil,length_cons,length_nil,Nat.zero_add,Nat.reduceAdd,Nat.reduceSub,List.replicate_one,cons_append,List.nil_append,Nat.zero_lt_succ,getElem?_pos,getElem_cons_zero,c3,zK,ne_eq,sizeLine_eq,WE,qcB,ixN,Int.zero_le_ofNat,↓reduceIte,Int.reduceToNat,tb3,iB,decide_eq_true_eq,Nat.reduceLT,getElem_cons_succ,iC,gn3,set_cons_succ,set_cons_zero,Std.le_refl,Int.natCast_pos,Int.toNat_zero,qT,Nat.lt_add_one,ixR,getL,atI,qL,cb3,qc,qk,Int.toNat_one,List.length_set,hG,Int.cast_ofNat_Int,Int.reduceLT,Option.bind_some,qG];refine ⟨u,m+1+64,rfl,by omega,by omega,λv v1 v2=>?_⟩;refine ⟨⟨by omega,by omega⟩,by omega,h _ _ (Int.emod_nonneg _ (by omega)) (Int.emod_lt_of_pos _ (by omega)) ⟨o,c,m+1,qG,ho,by omega,by omega⟩ λb ob hb e=>?_⟩;rw [jK hb];exact e
def qcM {x y:Int} (hy:0<y):Int.gcd y (x%y)=Int.gcd x y:=by
 rw [Int.emod_def,Int.gcd_comm x y];simp
def MX:∀ ts G q,XM ts G q->ts.length=2/\V9 (qcl q) (qr ["_law_one","_law_other"] ts) G:=by
 rintro ts G q ⟨x,y,rfl,hx,hy,h⟩;refine ⟨rfl,?_⟩;simp only [V9,qR,K9,qr,map_cons,List.map_nil,length_cons,length_nil,Nat.zero_add,Nat.reduceAdd,Nat.sub_self,List.replicate_zero,List.append_nil,tb3,o3,v3,c3,iB,decide_eq_true_eq,CC,qc,iC,qk,qT];refine ⟨λn τ G'=>G'=G/\∃ u v:Int,τ=[some (.int u),some (.int v)]/\n=v.toNat/\0<=u/\0<=v/\Int.gcd u v=Int.gcd x y,⟨_,rfl,x,y,rfl,rfl,hx,hy,rfl⟩,?_⟩;rintro n τ G' ⟨eG,u,v,rfl,rfl,hu,hv,e⟩;simp;by_cases h0:0<v
 ·simp [h0];refine ⟨λτ' G'=>G'=G/\∃ x' y':Int,τ'=[some (.int x'),some (.int y')]/\y'.toNat<v.toNat/\0<=x'/\0<=y'/\Int.gcd x' y'=Int.gcd x y,λτ' G' ⟨e1,x',y',e2,e3,e4,e5,e6⟩=>⟨y'.toNat,by omega,e1,x',y',e2,rfl,e4,e5,e6⟩,eG,v,u%v,rfl,?_,hv,Int.emod_nonneg _ (by omega),by rw [qcM h0,e]⟩;have:=Int.emod_lt_of_pos u h0;omega
 ·have:v=0:=by omega
  subst this;simp at e;simp [eG];have:u=(Int.gcd x y:Nat):=by omega
  rw [this];exact h
def qoW {d:Int} (h1:0<=d) (h2:d<4) {x0 x1 x2 x3:T} {P:T->Prop} (p0:P x0) (p1:P x1) (p2:P x2) (p3:P x3):∃ x,L2.atI [x0,x1,x2,x3] d=some x/\P x:=by
 have:d=0\/d=1\/d=2\/d=3:=by omega
 rcases this with rfl|rfl|rfl|rfl
 ·exact ⟨x0,rfl,p0⟩
 ·exact ⟨x1,rfl,p1⟩
 ·exact ⟨x2,rfl,p2⟩
 ·exact ⟨x3,rfl,p3⟩
def qpp {d:Int} (h1:0<=d) (h2:d<3) {x0 x1 x2:T} {P:T->Prop} (p0:P x0) (p1:P x1) (p2:P x2):∃ x,L2.atI [x0,x1,x2] d=some x/\P x:=by
 have:d=0\/d=1\/d=2:=by omega
 rcases this with rfl|rfl|rfl
 ·exact ⟨x0,rfl,p0⟩
 ·exact ⟨x1,rfl,p1⟩
 ·exact ⟨x2,rfl,p2⟩
def SG:∀ ts G q,jI ts G q->ts.length=1/\Z8 qK (qcl q) (qr ["_law_left_here","_law_wide","_law_rows","_law_columns"] ts) G:=by
 rintro ts G q ⟨a,n,rfl,hL,hn,h⟩;refine ⟨rfl,?_⟩;unfold Z8;refine jX λnx1 q1=>?_;simp only [zn,o3,JH,qc,c3,qk,length_cons,length_nil,Nat.zero_add,Nat.reduceAdd,sizeLine_eq,Nat.reduceLeDiff,cb3,v3,qr,map_cons,List.map_nil,Nat.add_one_sub_one,List.reduceReplicate,cons_append,List.nil_append,Nat.zero_lt_succ,getElem?_pos,getElem_cons_zero,gn3,set_cons_succ,set_cons_zero,true_and];intro p hp;have hpa:=hL.ne hp;refine zW (hL.new hpa) (by decide) (by decide) (by omega) λd G1 d1 d2 L1 E1=>?_;have g1:=E1 p _ hpa qG;obtain ⟨w,hw,w',rfl,w1,w2⟩:=qoW d1 d2 (P:=λt=>∃ w,t=T.int w/\1<=w/\w<=16) ⟨6,rfl,by decide⟩ ⟨6,rfl,by decide⟩ ⟨6,rfl,by decide⟩ ⟨16,rfl,by decide⟩;simp only [ixR,getL,g1,hw];rw [q1];clear q1;refine jX λnx2 q2=>?_;simp only [CC,qc,o3,c3,cb3,v3,length_cons,length_nil,Nat.zero_add,Nat.reduceAdd,Nat.zero_lt_succ,getElem?_pos,getElem_cons_zero,Nat.reduceLT,getElem_cons_succ,qk,zK,ne_eq,sizeLine_eq,set_cons_succ,set_cons_zero];refine zW L1 w1 (by omega) (by omega) λr G2 r1 r2 L2' E2=>?_;simp only [iI,qR,zn,o3,JH,qc,c3,qk,length_cons,length_nil,Nat.zero_add,Nat.reduceAdd,sizeLine_eq,Nat.reduceLeDiff,cb3,v3,qr,map_cons,List.map_nil,Nat.add_one_sub_one,List.reduceReplicate,cons_append,List.nil_append,Nat.zero_lt_succ,getElem?_pos,getElem_cons_zero,gn3,CC,set_cons_succ,set_cons_zero,Nat.reduceLT,getElem_cons_succ,zK,ne_eq,qT,jW,Nat.lt_add_one,true_and,gu];refine zW L2' w1 (by omega) (by omega) λc G3 c1 c2 L3' E3=>?_;simp only [iI,qR,zn,o3,JH,qc,c3,qk,length_cons,length_nil,Nat.zero_add,Nat.reduceAdd,sizeLine_eq,Nat.reduceLeDiff,cb3,v3,qr,map_cons,List.map_nil,Nat.add_one_sub_one,List.reduceReplicate,cons_append,List.nil_append,Nat.zero_lt_succ,getElem?_pos,getElem_cons_zero,gn3,CC,set_cons_succ,set_cons_zero,Nat.reduceLT,getElem_cons_succ,zK,ne_eq,qT,jW,Nat.lt_add_one,true_and,gu];rw [q2];clear q2;simp only [qT,o3,JH,qc,jW,v3,length_cons,length_nil,Nat.zero_add,Nat.reduceAdd,Nat.reduceLT,getElem?_pos,getElem_cons_succ,getElem_cons_zero,Nat.lt_add_one,qk,sizeLine_eq,Nat.reduceLeDiff,cb3,Nat.zero_lt_succ,c3,true_and];intro p2 hp2;have hpa2:=L3'.ne hp2;refine zW (L3'.new hpa2) (by decide) (by decide) (by omega) λe G4 e1 e2 L4 E4=>?_;have g4:=E4 p2 _ hpa2 qG;have x1:1<=1+r:=by omega
 have x2:1+r<=16:=by omega
 have x3:1<=1+c:=by omega
 have x4:1+c<=16:=by omega
 obtain ⟨t,ht,r',c',rfl,z1,z2,z3,z4⟩:=qoW e1 e2 (P:=λt=>∃ r' c',t=T.tup [.int r',.int c']/\1<=r'/\r'<=16/\1<=c'/\c'<=16) ⟨1+r,1+c,rfl,x1,x2,x3,x4⟩ ⟨1+r,1+c,rfl,x1,x2,x3,x4⟩ ⟨1+r,1+c,rfl,x1,x2,x3,x4⟩ ⟨1+r,1+r,rfl,x1,x2,x1,x2⟩;simp only [ixR,getL,g4,ht];exact h r' c' G4 z1 z2 z3 z4 (L4.mono (by omega)) ((((JR hp).trans E1).trans (E2.trans E3)).trans ((JR hp2).trans E4))
def cop {b p:Int} (hb:1<=b):∃ k:Nat,(k:Int)<b/\Int.gcd b (p+k)=1:=by
 refine ⟨((1-p)%b).toNat,?_,?_⟩
 ·have:=Int.emod_nonneg (1-p) (show b≠0 by omega);have:=Int.emod_lt_of_pos (1-p) (show 0<b by omega);omega
 ·have h1:=Int.emod_nonneg (1-p) (show b≠0 by omega);have h2:=Int.emod_add_mul_ediv (1-p) b;have e:p+(((1-p)%b).toNat:Int)=1+b*(-((1-p)/b)):=by
   rw [Int.toNat_of_nonneg h1,Int.mul_neg];omega
  rw [e];simp
structure Plc (b p0 pl:Int) (i:Nat):Prop where
 lo:p0<=pl
 hi:pl<=p0+i
 at_:Int.gcd b pl=1\/(pl=p0+i/\∀ k:Nat,k<i->Int.gcd b (p0+k)≠1)
def Plc.done {b p0 pl:Int} {n:Nat} (h:Plc b p0 pl n) (hb:1<=b) (hn:b<=n):Int.gcd b pl=1:=by
 rcases h.at_ with h|⟨_,h⟩
 ·exact h
 ·obtain ⟨k,h1,h2⟩:=cop (p:=p0) hb;exact absurd h2 (h k (by omega))
def Plc.next {b p0 pl:Int} {i:Nat} (h:Plc b p0 pl i) (hb:1<=b) (hp:1<=p0) (hg:(1:Int)<(Int.gcd b pl:Nat)):Plc b p0 (pl+1) (i+1):=by
 rcases h.at_ with z|⟨z1,z2⟩
 ·rw [z] at hg;simp at hg
 ·refine ⟨by have:=h.lo;omega,by omega,.inr ⟨by omega,λk hk=>?_⟩⟩;rcases Nat.lt_or_ge k i with q|q
  ·exact z2 k q
  ·have:k=i:=by omega
   subst this;rw [← z1];omega
def Plc.stay {b p0 pl:Int} {i:Nat} (h:Plc b p0 pl i) (hb:1<=b) (hp:1<=p0) (hg:¬ (1:Int)<(Int.gcd b pl:Nat)):Plc b p0 pl (i+1):=by
 have g0:0<Int.gcd b pl:=Int.gcd_pos_of_ne_zero_left _ (by omega);exact ⟨h.lo,by have:=h.hi;omega,.inl (by omega)⟩
def qin {r c b:Int} (hr:1<=r) (hc:1<=c) (hb:1<=b):1<=-(-r*c/b)/\r*c<=b*-(-r*c/b)/\-(-r*c/b)<=r*c:=by
 have h1:=YB hr hc;have e:-r*c=-(r*c):=Int.neg_mul ..;rw [e];have h2:=Int.ediv_neg_of_neg_of_pos (a:=-(r*c)) (b:=b) (by omega) (by omega);have h3:=Int.mul_ediv_self_le (x:=-(r*c)) (k:=b) (by omega);have h4:-(r*c)<=-(r*c)/b:=by
  have:=Int.le_ediv_of_mul_le (a:=-(r*c)) (b:=-(r*c)) (c:=b) (by omega) (by
   have:=Int.mul_le_mul_of_nonneg_left hb (show (0:Int)<=r*c by omega);rw [Int.neg_mul];omega)
  exact this
 rw [Int.mul_neg];omega
def RQ:∀ ts G q,QQ ts G q->ts.length=1/\ZW jI qK XM (qcl q) (qr ["_law_left_here","_law_rows","_law_columns","_law_banks","_law_places","_law_turn"] ts) G:=by
 rintro ts G q ⟨a,n,rfl,hL,hn,h⟩;refine ⟨rfl,?_⟩;unfold ZW;refine jX λnx1 q1=>?_;simp only [zn,cb3,qc,v3,qr,map_cons,List.map_nil,length_cons,length_nil,Nat.zero_add,Nat.reduceAdd,Nat.add_one_sub_one,List.reduceReplicate,cons_append,List.nil_append,Nat.zero_lt_succ,getElem?_pos,getElem_cons_zero,qk,jo,qx,gn3,jm,set_cons_succ,set_cons_zero];refine ⟨a,n,rfl,hL,by omega,λr c G1 r1 r2 c1 c2 L1 E1=>?_⟩;simp only [length_cons,length_nil,Nat.zero_add,Nat.reduceAdd,true_and];rw [q1];clear q1;refine jX λnx2 q2=>?_;simp only [zn,o3,c3,cb3,qc,v3,length_cons,length_nil,Nat.zero_add,Nat.reduceAdd,Nat.zero_lt_succ,getElem?_pos,getElem_cons_zero,JH,qk,sizeLine_eq,Nat.reduceLeDiff,zK,ne_eq,gn3,set_cons_succ,set_cons_zero,true_and];intro p hp;have hpa:=L1.ne hp;refine zW (L1.new hpa) (by decide) (by decide) (by omega) λd G2 d1 d2 L2' E2=>?_;have g2:=E2 p _ hpa qG;obtain ⟨w,hw,w',rfl,w1,w2⟩:=qpp d1 d2 (P:=λt=>∃ w,t=T.int w/\1<=w/\w<=32) ⟨8,rfl,by decide⟩ ⟨17,rfl,by decide⟩ ⟨32,rfl,by decide⟩;simp only [ixR,getL,g2,hw];refine zW L2' w1 (by omega) (by omega) λb G3 b1 b2 L3' E3=>?_;simp [qR,zn,gn3,qT,qkY,zZ,WR,qhG,qL,v3,c3,o3,u3,TH,L3.ixT,L3.ixR,zK,iI,iC,iB,zS,Z0,qhP,tb3,qoV,or3,SX,ju,qhE,TW,if3,ch3,cb3,qc,qk,ER,tyT,QK,jW,JH,NM,np3,sp3,jo,qx,jm,WE,qcB,CC,qr,bm3,qfq,qcb,EG,qfQ,qg8,qo5,NP,ZE,RT,NJ,qo4,qoN,WF,HT.sIx,getL,in3,U6,eqF,gu,sizeLine_eq,getElem?_cons_zero,getElem?_cons_succ];rw [q2];clear q2;refine jX λnx3 q3=>?_;simp only [zn,o3,u3,v3,length_cons,length_nil,Nat.zero_add,Nat.reduceAdd,Nat.reduceLT,getElem?_pos,getElem_cons_succ,getElem_cons_zero,TH,iC,cb3,qc,Nat.zero_lt_succ,c3,qk,zK,ne_eq,sizeLine_eq,gn3,set_cons_succ,set_cons_zero];refine ⟨cm (by omega) (by omega),⟨by omega,by omega⟩,zW L3' (by omega) (by omega) (by omega) λe G4 e1 e2 L4 E4=>?_⟩;obtain ⟨u1,u2,u3⟩:=qin r1 c1 (show 1<=1+b by omega);have rc:r*c<=16*16:=Int.mul_le_mul r2 c2 (by omega) (by omega);simp [qR,zn,gn3,qT,qkY,zZ,WR,qhG,qL,v3,c3,o3,u3,TH,L3.ixT,L3.ixR,zK,iI,iC,iB,zS,Z0,qhP,tb3,qoV,or3,SX,ju,qhE,TW,if3,ch3,cb3,qc,qk,ER,tyT,QK,jW,JH,NM,np3,sp3,jo,qx,jm,WE,qcB,CC,qr,bm3,qfq,qcb,EG,qfQ,qg8,qo5,NP,ZE,RT,NJ,qo4,qoN,WF,HT.sIx,getL,in3,U6,eqF,gu,sizeLine_eq,getElem?_cons_zero,getElem?_cons_succ];rw [q3];clear q3;simp only [qR,R0,QM,qc,c3,qk,Int.reducePow,Int.reduceNeg,Int.neg_ofNat_le_ofNat,Int.reduceLT,and_self,Int.reduceToNat,true_and];obtain ⟨p0,hp0⟩:∃ p0,p0=-(-r*c/(1+b))+e:=⟨_,rfl⟩
 refine D5 _ (λi τ G'=>G'=G4/\∃ (pl:Int) (x:Option T),τ=[some (.ref a),some (.int r),some (.int c),some (.int (1+b)),some (.int pl),x]/\Plc (1+b) p0 pl i) ⟨rfl,_,none,by rw [← hp0],⟨by omega,by omega,.inr ⟨by omega,by omega⟩⟩⟩ (λ_ _ _ _ _=>True.intro) ?_ ?_
 ·rintro i x τ G' nx hx ⟨rfl,pl,y,rfl,P⟩ hn;simp only [gn3,zZ,tb3,o3,cb3,qc,v3,set_cons_succ,set_cons_zero,length_cons,length_nil,Nat.zero_add,Nat.reduceAdd,Nat.reduceLT,getElem?_pos,getElem_cons_succ,getElem_cons_zero,qk,c3,iB,decide_eq_true_eq,zn,zK,qL];refine ⟨1+b,pl,rfl,by omega,by have:=P.lo;omega,?_⟩;simp;split
  ·rename_i hg;exact hn _ _ ⟨rfl,_,_,rfl,P.next (by omega) (by omega) (by omega)⟩
  ·rename_i hg;exact hn _ _ ⟨rfl,_,_,rfl,P.stay (by omega) (by omega) (by omega)⟩
 ·rintro τ G' ⟨rfl,pl,x,rfl,P⟩;simp only [qT,jW,qc,c3,v3,length_cons,length_nil,Nat.zero_add,Nat.reduceAdd,Nat.reduceLT,getElem?_pos,getElem_cons_succ,getElem_cons_zero,qk,sizeLine_eq,Nat.reduceLeDiff,true_and];rw [qaD] at P;have lo:=P.lo;have hi:=P.hi;have m1:(1+b)*-(-r*c/(1+b))<=(1+b)*pl:=Int.mul_le_mul_of_nonneg_left (by omega) (by omega);exact h r c (1+b) pl G' ⟨⟨r1,by omega,c1,by omega,by omega,by omega,by omega,by omega,P.done (by omega) (by omega),by omega⟩,r2,c2,by show 1+b<=32;omega⟩ (L4.mono (by omega)) (E1.trans (((JR hp).trans E2).trans (E3.trans E4)))
def EQ:Nat->PyData->Prop
 |_,.none=>True
 |_,.bool _=>True
 |_,.int _=>True
 |_,.str _=>True
 |n+1,.list ds=>ds.length<=1000000/\∀ d∈ds,EQ n d
 |n+1,.tuple ds=>ds.length<=1000000/\∀ d∈ds,EQ n d
 |_,_=>False
def jv:Nat->Sp3
 |0=>qar
 |n+1=>λts G q=>∃ (x y:T) (d:PyData),ts=[x,y]/\Dp G x d/\Dp G y d/\EQ n d/\∀ G',Ex G G'->q (.bl true) G'
def K6 {G G':Gp} (e:Ex G G') {x:T} {us:List T} (h:jb G x=some us):jb G' x=some us:=by
 cases x<;>simp [jb] at h ⊢
 ·exact h
 ·exact e.getL h
def qc7 (n:Nat):qeU (List.replicate n (.bl true))=some true:=by
 induction n with
 |zero=>rfl
 |succ n ih=>rw [List.replicate_succ];simp [qeU,ih]
def LA {G:Gp} {n:Nat} {x y:T} {us vs:List T} {ds:List PyData} {q:Q3} (hx:jb G x=some us) (hy:jb G y=some vs) (du:Dps G us ds) (dv:Dps G vs ds) (hl:us.length<=1000000) (hd:∀ d∈ds,∃ m,n=m+1/\EQ m d) (h:∀ G',Ex G G'->q (.bl true) G') :
  MN (λG=>jb G x=some us/\jb G y=some vs) (jo 2 (qx (gn3 0) (qx (gn3 1) jm))) tt3 (cb3 (jv n) (qc (v3 0) (qc (v3 1) qk))) (λx G1=>NJ [x] G1 q) (qcd us vs) [] [none,none] G:=by
 have e1:=du.length;have e2:=dv.length;refine qds _ (λi ys τ G'=>Ex G G'/\ys=List.replicate i (.bl true)/\∃ x0 x1,τ=[x0,x1]) ⟨Ex.refl,rfl,none,none,rfl⟩ (λi ys τ G' _ hp=>⟨K6 hp.1 hx,K6 hp.1 hy⟩) ?_ ?_
 ·rintro i z ys τ G' R hz ⟨E,rfl,x0,x1,rfl⟩ hR;obtain ⟨a,b,ha,hb,rfl⟩:=CP hz;obtain ⟨d,hd1,da⟩:=du.get ha;obtain ⟨d',hd2,db⟩:=dv.get hb;rw [hd1] at hd2;cases hd2;obtain ⟨m,rfl,dl⟩:=hd d (mem_of_getElem? hd1);have hi:=(List.getElem?_eq_some_iff.mp ha).1;simp only [jo,length_cons,length_nil,Nat.zero_add,Nat.reduceAdd,qx,gn3,jm,tt3,↓reduceIte,cb3,qc,v3,set_cons_zero,set_cons_succ,Nat.zero_lt_succ,getElem?_pos,getElem_cons_zero,Nat.lt_add_one,getElem_cons_succ,qk,List.length_replicate,sizeLine_eq,true_and];refine ⟨a,b,d,rfl,da.up E,db.up E,dl,λG2 E2=>⟨by omega,hR _ _ _ ⟨E.trans E2,?_,_,_,rfl⟩⟩⟩;rw [List.replicate_succ']
 ·rintro ys τ G' ⟨E,rfl,x0,x1,rfl⟩ p hp;simp [NJ,getL,qG,qc7];exact h _ (E.trans (V3 hp))
def qdr {n:Nat} {ds:List PyData} (h:EQ n (.list ds)):ds.length<=1000000/\∀ d∈ds,∃ m,n=m+1/\EQ m d:=by
 cases n with
 |zero=>exact h.elim
 |succ n=>exact ⟨h.1,λd hd=>⟨n,rfl,h.2 d hd⟩⟩
def qbs {n:Nat} {ds:List PyData} (h:EQ n (.tuple ds)):ds.length<=1000000/\∀ d∈ds,∃ m,n=m+1/\EQ m d:=by
 cases n with
 |zero=>exact h.elim
 |succ n=>exact ⟨h.1,λd hd=>⟨n,rfl,h.2 d hd⟩⟩
def qj8 {x:T} {G:Gp} {q:Q3} (h:Z0 x x=some true) (k:q (.bl true) G):zS false x x G q:=by
 unfold zS;rw [h];exact k
def qaT {ta tb:TE3} {e:Ends3} {τ:St3} {G:Gp} {x:T} (h:∀ q',q' x G->ta τ G q') (k:x=.bl true) (h2:tb τ G e.rt):qT (ju ta tb) e τ G:=h _ (by subst k;exact h2)
def qo6 {ta tb:TE3} {τ:St3} {G:Gp} {x:T} (ha:∀ q',q' x G->ta τ G q') (hb:∀ q',q' x G->tb τ G q') (h:Z0 x x=some true):∀ q',q' (.bl true) G->o3 (zS false) ta tb τ G q':=λq' k=>ha _ (hb _ (qj8 h k))
def MO {c:TT3} {a b:TS3} {e:Ends3} {τ:St3} {G:Gp} (h:∀ A,A=a->zZ c A b e τ G):zZ c a b e τ G:=h _ rfl
def j6 (n:Nat):∀ ts G q,jv (n+1) ts G q->ts.length=2/\UY (jv n) (qcl q) (qr ["_law_found","_law_due"] ts) G:=by
 rintro ts G q ⟨x,y,d,rfl,hx,hy,hd,h⟩;refine ⟨rfl,?_⟩;have h0:=h G Ex.refl;cases hx with
 |non=>cases hy;exact h0
 |bl b=>cases hy;cases b<;>exact h0
 |int i=>cases hy;exact qj8 (x:=.int i) (by simp [Z0]) h0
 |str s=>
  cases hy;refine jX λnx1 q1=>?_;refine MO λA1 hA=>?_;clear hA;show nx1 _ _;rw [q1];clear q1;refine jX λnx2 q2=>?_;refine MO λA2 hA=>?_;show A2 _ _ _;rw [hA];exact qaT (qo6 (x:=.str s) (λ_ k=>k) (λ_ k=>k) (by simp [Z0])) rfl h0
 |tup dx=>
  cases hy with
  |tup dy=>
   rename_i xs ds ys;have e1:=dx.length;have e2:=dy.length;obtain ⟨l1,l2⟩:=qbs hd;have key:=LA (n:=n) (x:=.tup xs) (y:=.tup ys) (us:=xs) (vs:=ys) (q:=q) rfl rfl dx dy (by omega) l2 h;have e3:xs.length=ys.length:=by omega
   refine jX λnx1 q1=>?_;clear q1;refine MO λA1 hA=>?_;show A1 _ _ _;rw [hA];clear hA;refine jX λnx2 q2=>?_;refine MO λA2 hA=>?_;show nx2 _ _;rw [q2];clear q2;exact qaT (qo6 (x:=.int ys.length) (λ_ k=>by rw [← e3] at k;exact k) (λ_ k=>k) (by simp [Z0])) rfl key
 |lst gx dx=>
  cases hy with
  |lst gy dy=>
   rename_i p1 xs ds p2 ys;have e1:=dx.length;have e2:=dy.length;obtain ⟨l1,l2⟩:=qdr hd;have key:=LA (n:=n) (x:=.ref p1) (y:=.ref p2) (us:=xs) (vs:=ys) (q:=q) gx gy dx dy (by omega) l2 h;have e3:xs.length=ys.length:=by omega
   refine jX λnx1 q1=>?_;clear q1;refine MO λA1 hA=>?_;simp only [zZ,tb3,ER,v3,qr,map_cons,List.map_nil,length_cons,length_nil,Nat.zero_add,Nat.reduceAdd,Nat.sub_self,List.replicate_zero,List.append_nil,Nat.lt_add_one,getElem?_pos,getElem_cons_succ,getElem_cons_zero,tyT,gx,gy,Option.isSome_some,↓reduceIte,QK,BEq.rfl,String.reduceBEq,Bool.and_self,Bool.or_false,Bool.or_self,or3,o3,Nat.zero_lt_succ,zS,Z0,decide_true,Bool.not_true,Bool.false_eq_true,qL];rw [hA];clear hA;refine jX λnx2 q2=>?_;refine MO λA2 hA=>?_;clear hA;simp only [zZ,tb3,ER,v3,qr,map_cons,List.map_nil,length_cons,length_nil,Nat.zero_add,Nat.reduceAdd,Nat.sub_self,List.replicate_zero,List.append_nil,Nat.lt_add_one,getElem?_pos,getElem_cons_succ,getElem_cons_zero,tyT,gx,gy,Option.isSome_some,↓reduceIte,QK,BEq.rfl,String.reduceBEq,Bool.and_self,Bool.or_false,Bool.or_self,or3,o3,Nat.zero_lt_succ,zS,Z0,decide_true,Bool.not_true,Bool.false_eq_true,qL];rw [q2];clear q2;simp only [jb,NJ,qr,map_cons,List.map_nil,length_cons,length_nil,Nat.zero_add,Nat.reduceAdd,Nat.sub_self,List.replicate_zero,List.append_nil,Nat.lt_add_one,getElem?_pos,getElem_cons_succ,getElem_cons_zero,gy,↓reduceIte,o3,v3,Nat.zero_lt_succ,gx,zS,Z0,decide_true,Bool.false_eq_true,qT,ju,cb3,qc,qk,EG,e3,lc3,KG,cap] at key ⊢;exact key
def qm3 {α:Type} {x:α} {xs:List α}:L2.atI (x::xs) 0=some x:=by simp [L2.atI,ixN]
def qn5 {α:Type} {x y:α} {xs:List α}:L2.atI (x::y::xs) 1=some y:=by
 rw [LZ (by omega) (by simp;omega)];rfl
def KN {a b x y:Int} (h0:1<=a) (h1:a<=x) (h2:1<=b) (h3:b<=y):a*b<=x*y:=Int.mul_le_mul h1 h3 (by omega) (by omega)
def Dr.join {d e:Dl} {r c b r' c' b':Int} (D:Dr d r c b) (E:Dr e r' c' b') (h1:r*r'<=4096) (h2:c*c'<=4096) (h3:b*b'<=4096):Dr (.joined d e) (r*r') (c*c') (b*b'):=by
 have Ld:=Dl.lims D.ok;have Le:=Dl.lims E.ok;have a1:=KN Ld.r1 D.r2 Le.r1 E.r2;have a2:=KN Ld.c1 D.c2 Le.c1 E.c2;have a3:=KN Ld.b1 D.b2 Le.b1 E.b2;exact ⟨⟨D.ok,E.ok,by omega,by omega,by omega⟩,a1,a2,a3⟩
structure SD (k n:Nat) (d:PyData):Prop where
 sh:d.showable=true
 nd:d.hasDict=false
 dp:d.depth<=k
 lv:d.leavesShort 13=true
 bk:d.bulk<=n
def SD.ok {k n:Nat} {d:PyData} (h:SD k n d) (hk:k<=40) (hn:n<=2 ^ 20):ShOk d:=⟨h.sh,h.nd,Nat.le_trans h.dp hk,h.lv,Nat.le_trans h.bk hn⟩
def SD.w {k n:Nat} {d:PyData} (h:SD k n d) (hk:k<=40) (hn:n<=2 ^ 20):ShW d:=(h.ok hk hn).w
def SD.mono {k n k' n':Nat} {d:PyData} (h:SD k n d) (hk:k<=k') (hn:n<=n'):SD k' n' d:=⟨h.sh,h.nd,Nat.le_trans h.dp hk,h.lv,Nat.le_trans h.bk hn⟩
def zk (k n:Nat) {i:Int} (h:-1000000<=i/\i<=1000000):SD k n (.int i):=by
 refine ⟨?_,rfl,Nat.zero_le _,?_,Nat.zero_le _⟩
 ·simp only [PyData.showable];have:i.natAbs<2 ^ 20:=by omega
  have h2:i.natAbs.log2<20\/i.natAbs=0:=by
   rcases Nat.eq_zero_or_pos i.natAbs with z|z
   ·exact .inr z
   ·exact .inl ((Nat.log2_lt (by omega)).mpr this)
  rcases h2 with h2|h2
  ·simp;omega
  ·simp [h2]
 ·have:=PyProof.Rows.intsShortAll_ints2 [i] (by intro n hn;simp at hn;subst hn;omega);simpa [PyData.intsShortAll,PyData.intsShort,PyData.leavesShort] using this
def ZB (k n:Nat) {x:Str} (h:x.cps.size<=n) (hc:(x.cps.toList.all λc=>decide (c<16 ^ 8))=true):SD k n (.str x):=⟨rfl,rfl,Nat.zero_le _,hc,h⟩
structure SDs (k n:Nat) (ds:List PyData):Prop where
 sh:PyData.showableAll ds=true
 nd:PyData.hasDictAll ds=false
 dp:PyData.depthAll ds<=k
 lv:PyData.leavesShortAll 13 ds=true
 bk:PyData.bulkAll ds<=n
def zE (k n:Nat):SDs k n []:=⟨rfl,rfl,Nat.zero_le _,rfl,Nat.zero_le _⟩
def qm {k n m s:Nat} {d:PyData} {ds:List PyData} (h:SD k n d) (t:SDs k m ds) (hs:n+1+m<=s):SDs k s (d::ds):=by
 refine ⟨?_,?_,?_,?_,?_⟩
 ·simp [PyData.showableAll,h.sh,t.sh]
 ·simp [PyData.hasDictAll,h.nd,t.nd]
 ·simp only [PyData.depthAll];exact Nat.max_le.mpr ⟨h.dp,t.dp⟩
 ·simp [PyData.leavesShortAll,h.lv,t.lv]
 ·simp only [PyData.bulkAll];have:=h.bk;have:=t.bk;omega
def qS {k n:Nat} {ds:List PyData} (t:SDs k n ds):SD (k+1) n (.tuple ds):=by
 refine ⟨?_,?_,?_,?_,?_⟩
 ·simpa [PyData.showable] using t.sh
 ·simpa [PyData.hasDict] using t.nd
 ·simp only [PyData.depth];have:=t.dp;omega
 ·simpa [PyData.leavesShort] using t.lv
 ·simp only [PyData.bulk];exact t.bk
def C2 {k n:Nat} {ds:List PyData} (t:SDs k n ds):SD (k+1) n (.list ds):=by
 refine ⟨?_,?_,?_,?_,?_⟩
 ·simpa [PyData.showable] using t.sh
 ·simpa [PyData.hasDict] using t.nd
 ·simp only [PyData.depth];have:=t.dp;omega
 ·simpa [PyData.leavesShort] using t.lv
 ·simp only [PyData.bulk];exact t.bk
def U1 {k n:Nat}:∀ {ds:List PyData},(∀ d∈ds,SD k n d)->SDs k (ds.length*(n+1)) ds
 |[],_=>zE _ _
 |d::ds,h=>qm (h d (by simp)) (U1 λx hx=>h x (by simp [hx])) (by rw [length_cons,Nat.succ_mul];omega)
def C4 {k:Nat} {ns:List Int} (h:∀ n∈ns,-1000000<=n/\n<=1000000):SDs k ns.length (ns.map PyData.int):=by
 have:=U1 (k:=k) (n:=0) (ds:=ns.map PyData.int) (by intro d hd;obtain ⟨i,hi,rfl⟩:=mem_map.mp hd;exact zk _ _ (h i hi));simpa using this
def _root_.L3.Dps.append {G:Gp}:∀ {xs ys:List T} {ds es:List PyData},Dps G xs ds->Dps G ys es->Dps G (xs++ys) (ds++es)
 |_,_,_,_,.nil,b=>b
 |_,_,_,_,.cons a t,b=>.cons a (L3.Dps.append t b)
def _root_.L3.Dps.take {G:Gp}:∀ {xs:List T} {ds:List PyData} (i:Nat),Dps G xs ds->Dps G (xs.take i) (ds.take i)
 |_,_,0,_=>.nil
 |_,_,_+1,.nil=>.nil
 |_,_,i+1,.cons a t=>.cons a (L3.Dps.take i t)
def _root_.L3.Dps.drop {G:Gp}:∀ {xs:List T} {ds:List PyData} (i:Nat),Dps G xs ds->Dps G (xs.drop i) (ds.drop i)
 |_,_,0,h=>h
 |_,_,_+1,.nil=>.nil
 |_,_,i+1,.cons a t=>L3.Dps.drop i t
def EZ:TS3:=(qT (lc3 (QM (qc (v3 2) qk)) (gn3 0) tt3 (jW (qc (o3 (iC jy (·*·)) (v3 0) (v3 1)) (qc (o3 (iC jy (·*·)) (v3 0) (v3 2)) qk))) [none,some 0,some 1]))
def YD (S_strung:Sp3):TS3:=(qR (zn (o3 ix3 (v3 0) (c3 (.int 0))) (gn3 1)) (qR (zZ (tb3 (o3 (zS false) (v3 1) (c3 (.str "cells")))) (qT (cb3 RT (qc (o3 ix3 (v3 0) (c3 (.int 1))) qk))) qL) (qR (zZ (tb3 (o3 (zS false) (v3 1) (c3 (.str "block")))) (qT (qfi (QM (qc (o3 ix3 (v3 0) (c3 (.int 1))) qk)) (gn3 0) tt3 (QM (qc (o3 ix3 (v3 2) (c3 (.int 2))) qk)) (gn3 1) tt3 (jW (qc (v3 0) (qc (v3 1) qk))) [none,none,some 0])) qL) (qR (zZ (tb3 (o3 (zS false) (v3 1) (c3 (.str "step")))) (qT (cb3 S_strung (qc (o3 ix3 (v3 0) (c3 (.int 1))) (qc (o3 ix3 (v3 0) (c3 (.int 2))) (qc (o3 ix3 (v3 0) (c3 (.int 3))) qk))))) qL) (qR (zn (qcJ jO (v3 1)) (jo 2 (qx (gn3 2) (qx (gn3 3) jm)))) (qT (cb3 S_strung (qc (v3 2) (qc (v3 3) (qc (o3 ix3 (v3 0) (c3 (.int 1))) qk))))))))))
def YN (S_law_pick:Sp3):TS3:=(qT (o3 zK (c3 (.int 1)) (cb3 S_law_pick (qc (v3 0) (qc (o3 ix3 (JH (qc (c3 (.int 5)) (qc (c3 (.int 5)) (qc (c3 (.int 5)) (qc (c3 (.int 5)) (qc (c3 (.int 5)) (qc (c3 (.int 5)) (qc (c3 (.int 8)) (qc (c3 (.int 16)) qk))))))))) (cb3 S_law_pick (qc (v3 0) (qc (c3 (.int 8)) qk)))) qk)))))
def YA (S_law_pick:Sp3) (S_law_many:Sp3):TS3:=(qR (zn (cb3 S_law_pick (qc (v3 0) (qc (c3 (.int 9)) qk))) (gn3 1)) (qR (zZ (tb3 (o3 (iB λi j=>decide (i<j)) (v3 1) (c3 (.int 4)))) (qT (jW (qc (o3 ix3 (JH (qc (c3 (.str "row")) (qc (c3 (.str "column")) (qc (c3 (.str "slant")) (qc (c3 (.str "back")) qk))))) (v3 1)) (qc (cb3 S_law_many (qc (v3 0) qk)) qk)))) qL) (qR (zZ (tb3 (o3 (iB λi j=>decide (i<j)) (v3 1) (c3 (.int 6)))) (qR (CC 2 3 (qc (cb3 S_law_pick (qc (v3 0) (qc (c3 (.int 2)) qk))) (qc (o3 zK (c3 (.int 1)) (cb3 S_law_pick (qc (v3 0) (qc (c3 (.int 4)) qk)))) qk))) (qR (zn (o3 zK (c3 (.int 1)) (cb3 S_law_pick (qc (v3 0) (qc (o3 (iC qb4 (·/·)) (c3 (.int 16)) (v3 3)) qk)))) (gn3 4)) (qT (o3 ix3 (JH (qc (jW (qc (c3 (.str "block")) (qc (v3 3) (qc (v3 4) qk)))) (qc (jW (qc (c3 (.str "block")) (qc (v3 4) (qc (v3 3) qk)))) qk))) (v3 2))))) qL) (qR (zZ (tb3 (o3 (iB λi j=>decide (i<j)) (v3 1) (c3 (.int 8)))) (qR (CC 5 6 (qc (o3 (iI (·-·)) (cb3 S_law_pick (qc (v3 0) (qc (c3 (.int 7)) qk))) (c3 (.int 3))) (qc (o3 (iI (·-·)) (cb3 S_law_pick (qc (v3 0) (qc (c3 (.int 9)) qk))) (c3 (.int 4))) qk))) (qR (zZ (tb3 (o3 (zS false) (cb3 S_law_pick (qc (v3 0) (qc (c3 (.int 6)) qk))) (c3 (.int 0)))) (qT (jW (qc (c3 (.str "step")) (qc (o3 (iC jy (·*·)) (c3 (.int 5)) (v3 5)) (qc (o3 zK (o3 (iC jy (·*·)) (c3 (.int 3)) (v3 6)) (cb3 NP (qc (ju (o3 (zS false) (v3 5) (c3 (.int 0))) (o3 (zS false) (v3 6) (c3 (.int 0)))) qk))) (qc (o3 zK (c3 (.int 1)) (cb3 S_law_pick (qc (v3 0) (qc (c3 (.int 4)) qk)))) qk)))))) qL) (qT (jW (qc (c3 (.str "step")) (qc (v3 5) (qc (o3 zK (v3 6) (cb3 NP (qc (ju (o3 (zS false) (v3 5) (c3 (.int 0))) (o3 (zS false) (v3 6) (c3 (.int 0)))) qk))) (qc (cb3 S_law_many (qc (v3 0) qk)) qk)))))))) qL) (qR (CC 7 8 (qc (JH qk) (qc (o3 zK (c3 (.int 1)) (o3 (iC jy (·*·)) (c3 (.int 4)) (cb3 NP (qc (o3 (zS false) (cb3 S_law_pick (qc (v3 0) (qc (c3 (.int 5)) qk))) (c3 (.int 0))) qk)))) qk))) (qR (R0 (QM (qc (cb3 S_law_many (qc (v3 0) qk)) qk)) (gn3 9) (qR (zn (jW (qc (o3 (iC jy (·*·)) (v3 8) (o3 (iI (·-·)) (cb3 S_law_pick (qc (v3 0) (qc (c3 (.int 6)) qk))) (c3 (.int 2)))) (qc (o3 (iC jy (·*·)) (v3 8) (o3 (iI (·-·)) (cb3 S_law_pick (qc (v3 0) (qc (c3 (.int 6)) qk))) (c3 (.int 2)))) qk))) (gn3 10)) (zZ (tb3 (o3 (qpo true) (v3 10) (v3 7))) (WR (bm3 qfq (v3 7) (qc (v3 10) qk))) qL))) (qT (jW (qc (c3 (.str "cells")) (qc (cb3 ZE (qc (v3 7) qk)) qk))))))))))
def ZV:TS3:=(qR (zZ (tb3 (o3 (zS false) (o3 ix3 (v3 0) (c3 (.int 0))) (c3 (.str "cells")))) (qT (cb3 RT (qc (o3 ix3 (v3 0) (c3 (.int 1))) qk))) qL) (qR (zZ (tb3 (o3 (zS false) (o3 ix3 (v3 0) (c3 (.int 0))) (c3 (.str "block")))) (qR (zn (JH qk) (gn3 1)) (qR (R0 (QM (qc (o3 ix3 (v3 0) (c3 (.int 1))) qk)) (gn3 2) (WR (bm3 qcb (v3 1) (qc (lc3 (QM (qc (o3 ix3 (v3 0) (c3 (.int 2))) qk)) (gn3 0) tt3 (jW (qc (v3 1) (qc (v3 0) qk))) [none,some 2]) qk)))) (qT (v3 1)))) qL) (qR (zn (qgX ["row","column","slant","back","step"] (qc (jW (qc (c3 (.int 0)) (qc (c3 (.int 1)) qk))) (qc (jW (qc (c3 (.int 1)) (qc (c3 (.int 0)) qk))) (qc (jW (qc (c3 (.int 1)) (qc (c3 (.int 1)) qk))) (qc (jW (qc (c3 (.int 1)) (qc (u3 TH (c3 (.int 1))) qk))) (qc (NM (v3 0) (sp3 (c3 (.int 1))) (sp3 (c3 (.int 3)))) qk))))) (o3 ix3 (v3 0) (c3 (.int 0)))) (jo 2 (qx (gn3 3) (qx (gn3 4) jm)))) (qT (lc3 (QM (qc (o3 ix3 (v3 0) (u3 TH (c3 (.int 1)))) qk)) (gn3 0) tt3 (jW (qc (o3 (iC jy (·*·)) (v3 0) (v3 1)) (qc (o3 (iC jy (·*·)) (v3 0) (v3 2)) qk))) [none,some 3,some 4])))))
def QR (S_law_size:Sp3) (S_law_cells:Sp3):TS3:=(qR (zn (cb3 S_law_size (qc (v3 0) qk)) (jo 3 (qx (gn3 2) (qx (gn3 3) (qx (gn3 4) jm))))) (qR (zn (cb3 S_law_cells (qc (v3 1) qk)) (gn3 5)) (qR (CC 6 7 (qc (lc3 (VQ (v3 5)) (jo 2 (qx (gn3 0) (qx (gn3 1) jm))) tt3 (v3 0) [none,none]) (qc (lc3 (VQ (v3 5)) (jo 2 (qx (gn3 0) (qx (gn3 1) jm))) tt3 (v3 1) [none,none]) qk))) (qR (zn (JH qk) (gn3 8)) (qR (R0 (QM (qc (u3 TH (cb3 MS (qc (v3 6) qk))) (qc (o3 (iI (·-·)) (v3 2) (cb3 M0 (qc (v3 6) qk))) qk))) (gn3 9) (WR (bm3 qcb (v3 8) (qc (lc3 (QM (qc (u3 TH (cb3 MS (qc (v3 7) qk))) (qc (o3 (iI (·-·)) (v3 3) (cb3 M0 (qc (v3 7) qk))) qk))) (gn3 0) tt3 (jW (qc (v3 1) (qc (v3 0) qk))) [none,some 9]) qk)))) (qT (v3 8)))))))
def YQ (S_law_cells:Sp3) (S_law_bank:Sp3):TS3:=(qT (lc3 (VQ (cb3 S_law_cells (qc (v3 1) qk))) (jo 2 (qx (gn3 0) (qx (gn3 1) jm))) tt3 (cb3 S_law_bank (qc (v3 2) (qc (o3 zK (o3 ix3 (v3 3) (c3 (.int 0))) (v3 0)) (qc (o3 zK (o3 ix3 (v3 3) (c3 (.int 1))) (v3 1)) qk)))) [none,none,some 0,some 2]))
def ZJ {G:Gp} {p:Addr} {xs:List T} (h:G p=some (.lst xs)):getL G p=some xs:=by unfold getL;rw [h]
def qfK {xs:List T} {d:Int} (h0:0<=d) (h1:d<(xs.length:Int)):∃ z,L2.atI xs d=some z/\z∈xs:=by
 rw [LZ h0 h1];have:d.toNat<xs.length:=by omega
 exact ⟨xs[d.toNat],getElem?_eq_getElem this,List.getElem_mem this⟩
inductive Wk where
 |line (k m:Nat)
 |block (h w:Nat)
 |step (d a:Int) (m:Nat)
 |cells (ps:List (Int×Int))
def JG:Nat->Str
 |0=>"row" |1=>"column" |2=>"slant" |_=>"back"
def lnD:Nat->Int
 |0=>0|_=>1
def lnA:Nat->Int
 |0=>1|1=>0|2=>1|_=>-1
def pT (p:Int×Int):T:=.tup [.int p.1,.int p.2]
def Wk.t:Wk->T
 |.line k m=>.tup [.str (JG k),.int m]
 |.block h w=>.tup [.str "block",.int h,.int w]
 |.step d a m=>.tup [.str "step",.int d,.int a,.int m]
 |.cells ps=>.tup [.str "cells",.tup (ps.map pT)]
def qV (d a:Int) (m:Nat):List (Int×Int):=(List.range m).map λ(t:Nat)=>((t:Int)*d,(t:Int)*a)
def zL (h w:Nat):List (Int×Int):=(List.range h).flatMap λ(p:Nat)=>(List.range w).map λ(q:Nat)=>((p:Int),(q:Int))
def Wk.pc:Wk->List (Int×Int)
 |.line k m=>qV (lnD k) (lnA k) m
 |.block h w=>zL h w
 |.step d a m=>qV d a m
 |.cells ps=>ps
def Wk.Ok:Wk->Prop
 |.line k m=>k<4/\1<=m/\m<=16
 |.block h w=>1<=h/\1<=w/\h<=16/\w<=16/\h*w<=16
 |.step d a m=>(-16<=d/\d<=16)/\(-16<=a/\a<=16)/\1<=m/\m<=16
 |.cells ps=>1<=ps.length/\ps.length<=16/\ps.Nodup/\∀ p∈ps,(-16<=p.1/\p.1<=16)/\(-16<=p.2/\p.2<=16)
def XQ (h w:Nat):zL (h+1) w=zL h w++(List.range w).map λ(q:Nat)=>((h:Int),(q:Int)):=by
 simp [zL,List.range_succ]
def V4 (h w:Nat):(zL h w).length=h*w:=by
 induction h with
 |zero=>simp [zL]
 |succ h ih=>rw [XQ,length_append,ih,length_map,length_range,Nat.succ_mul]
def MG {w:Wk} (ok:w.Ok):1<=w.pc.length/\w.pc.length<=16:=by
 cases w with
 |line k m=>simp only [Wk.pc,qV,length_map,length_range];exact ok.2
 |block h v=>
  obtain ⟨h1,h2,h3,h4,h5⟩:=ok;simp only [Wk.pc,V4];exact ⟨Nat.mul_le_mul h1 h2,h5⟩
 |step d a m=>simp only [Wk.pc,qV,length_map,length_range];exact ok.2.2
 |cells ps=>exact ⟨ok.1,ok.2.1⟩
def VR:Sp3:=λts G q=>∃ a n,ts=[.ref a]/\Lf G a n/\n<10000000/\∀ (m:Nat) G',1<=m->m<=16->Lf G' a (n+2)->Ext a G G'->q (.int m) G'
def KO:∀ ts G q,VR ts G q->ts.length=1/\YN qK (qcl q) (qr ["_law_left_here"] ts) G:=by
 rintro ts G q ⟨a,n,rfl,hL,hn,h⟩;refine ⟨rfl,?_⟩;simp only [YN,qT,o3,c3,cb3,qc,v3,qr,map_cons,List.map_nil,length_cons,length_nil,Nat.zero_add,Nat.sub_self,List.replicate_zero,List.append_nil,Nat.lt_add_one,getElem?_pos,getElem_cons_zero,JH,qk,Nat.reduceAdd,sizeLine_eq,Nat.reduceLeDiff,zK,ne_eq,true_and];intro p hp;have np:=hL.ne hp;refine zW (hL.new np) (by omega) (by omega) (by omega) λd G1 d0 d1 L1 E1=>?_;have g:=ZJ (E1 _ _ np qG);obtain ⟨z,hz,hm⟩:=qfK (xs:=[T.int 5,.int 5,.int 5,.int 5,.int 5,.int 5,.int 8,.int 16]) d0 (by simpa using d1);simp only [L3.ixR,g,hz];have:∃ k:Int,z=.int k/\1<=k/\k<=16:=by
  simp only [mem_cons,not_mem_nil,or_false] at hm;rcases hm with rfl|rfl|rfl|rfl|rfl|rfl|rfl|rfl<;>exact ⟨_,rfl,by omega,by omega⟩
 obtain ⟨k,rfl,k1,k2⟩:=this;refine zW L1 (by omega) (by omega) (by omega) λe G2 e0 e1 L2' E2=>?_;simp;obtain ⟨e',rfl⟩:=Int.eq_ofNat_of_zero_le e0;have:=h (e'+1) G2 (by omega) (by omega) (L2'.mono (by omega)) ((JR hp).trans (E1.trans E2));rw [show (1:Int)+(e':Int)=((e'+1:Nat):Int) by omega];exact this
def pD (p:Int×Int):PyData:=.tuple [.int p.1,.int p.2]
def qld (G:Gp) (p:Int×Int):Dp G (pT p) (pD p):=.tup (.cons (.int _) (.cons (.int _) .nil))
def qeA (G:Gp):∀ ps:List (Int×Int),Dps G (ps.map pT) (ps.map pD)
 |[]=>.nil
 |p::ps=>.cons (qld G p) (qeA G ps)
def qny (p r:Int×Int):ZI (pD p) (pD r)=some (decide (p=r)):=by
 obtain ⟨a,b⟩:=p;obtain ⟨c,d⟩:=r;simp only [pD,ZI,VZ];by_cases h:a=c<;>by_cases h':b=d<;>simp [h,h']
def pIn (r:Int×Int):∀ ps:List (Int×Int),qcg (pD r) (ps.map pD)=some (decide (r∈ps))
 |[]=>by simp [qcg]
 |p::ps=>by
  simp only [map_cons,qcg,qny,pIn r ps];by_cases h:p=r
  ·subst h;simp
  ·have h':¬ r=p:=λz=>h z.symm;simp [h,h']
def qkq (p:Int×Int):dpt (pD p)<=40:=by simp [pD,dpt,qhF]
def YG (S_cells_of:Sp3):TS3:=(qR (zn (v3 1) (jo 2 (qx (gn3 3) (qx (gn3 4) jm)))) (qT (cb3 ZE (qc (lc3 (VQ (cb3 S_cells_of (qc (v3 2) qk))) (jo 2 (qx (gn3 0) (qx (gn3 1) jm))) tt3 (o3 (iC (λ_ j=>0<j) (·%·)) (o3 zK (o3 (iC jy (·*·)) (v3 3) (v3 0)) (o3 (iC jy (·*·)) (v3 4) (v3 1))) (v3 2)) [none,none,some 0,some 3,some 4]) qk))))
end Bk
namespace Pu
open PySem L2 L3
def cif {α:Type} (P:Prop) (a b:α):α:=@ite α P (Classical.propDecidable P) a b
def zH {α:Type} {P:Prop} {a b:α} (h:P):cif P a b=a:=@if_pos P (Classical.propDecidable P) h α a b
def DF {α:Type} {P:Prop} {a b:α} (h:¬ P):cif P a b=b:=@if_neg P (Classical.propDecidable P) h α a b
structure Tru (b:Bool):Prop where
 h:b=true
mutual
inductive Dq (G:Gp):T->PyData->Prop
 |non:Dq G .non .none
 |bl (b:Bool):Dq G (.bl b) (.bool b)
 |int (i:Int):Dq G (.int i) (.int i)
 |str (x:Str):Dq G (.str x) (.str x)
 |tup {xs:List T} {ds:List PyData}:Dqs G xs ds->Dq G (.tup xs) (.tuple ds)
 |lst {p:Addr} {xs:List T} {ds:List PyData}:G p=some (.lst xs)->Dqs G xs ds->Dq G (.ref p) (.list ds)
inductive Dqs (G:Gp):List T->List PyData->Prop
 |nil:Dqs G [] []
 |cons {x:T} {d:PyData} {xs:List T} {ds:List PyData}:Dq G x d->Dqs G xs ds->Dqs G (x::xs) (d::ds)
end
mutual
def Dq.up {G G':Gp} (e:Ex G G'):∀ {x:T} {d:PyData},Dq G x d->Dq G' x d
 |_,_,.non=>.non
 |_,_,.bl b=>.bl b
 |_,_,.int i=>.int i
 |_,_,.str x=>.str x
 |_,_,.tup h=>.tup (Dqs.up e h)
 |_,_,.lst h1 h2=>.lst (e _ _ h1) (Dqs.up e h2)
def Dqs.up {G G':Gp} (e:Ex G G'):∀ {x:List T} {d:List PyData},Dqs G x d->Dqs G' x d
 |_,_,.nil=>.nil
 |_,_,.cons a b=>.cons (Dq.up e a) (Dqs.up e b)
end
def zD {G:Gp} {p:Addr} {xs:List T} (h:G p=some (.lst xs)):getL G p=some xs:=by unfold getL;rw [h]
mutual
def Dq.dp {G:Gp}:∀ {x:T} {d:PyData},Dq G x d->Dp G x d
 |_,_,.non=>.non
 |_,_,.bl b=>.bl b
 |_,_,.int i=>.int i
 |_,_,.str x=>.str x
 |_,_,.tup h=>.tup (Dqs.dp h)
 |_,_,.lst h1 h2=>.lst (zD h1) (Dqs.dp h2)
def Dqs.dp {G:Gp}:∀ {x:List T} {d:List PyData},Dqs G x d->Dps G x d
 |_,_,.nil=>.nil
 |_,_,.cons a b=>.cons (Dq.dp a) (Dqs.dp b)
end
def Dqs.length {G:Gp}:∀ {xs:List T} {ds:List PyData},Dqs G xs ds->xs.length=ds.length
 |_,_,.nil=>rfl
 |_,_,.cons _ b=>by simp [Dqs.length b]
def Dqs.get {G:Gp}:∀ {xs:List T} {ds:List PyData} {i:Nat} {d:PyData},Dqs G xs ds->ds[i]?=some d->∃ x,xs[i]?=some x/\Dq G x d
 |_,_,_,_,.nil,e=>by simp at e
 |_,_,0,_,.cons r _,e=>by simp at e;subst e;exact ⟨_,rfl,r⟩
 |_,_,i+1,d,.cons _ t,e=>by
  obtain ⟨u,h1,h2⟩:=Dqs.get (i:=i) (d:=d) t (by simpa using e);exact ⟨u,by simpa using h1,h2⟩
def Dqs.append {G:Gp}:∀ {xs:List T} {ds:List PyData} {ys:List T} {es:List PyData},Dqs G xs ds->Dqs G ys es->Dqs G (xs++ys) (ds++es)
 |_,_,_,_,.nil,h=>h
 |_,_,_,_,.cons a b,h=>.cons a (Dqs.append b h)
def Dqs.drop {G:Gp}:∀ {xs:List T} {ds:List PyData} (n:Nat),Dqs G xs ds->Dqs G (xs.drop n) (ds.drop n)
 |_,_,0,h=>h
 |_,_,_+1,.nil=>.nil
 |_,_,n+1,.cons _ b=>Dqs.drop n b
def Dqs.take {G:Gp}:∀ {xs:List T} {ds:List PyData} (n:Nat),Dqs G xs ds->Dqs G (xs.take n) (ds.take n)
 |_,_,0,h=>by simp;exact .nil
 |_,_,_+1,.nil=>.nil
 |_,_,n+1,.cons a b=>.cons a (Dqs.take n b)
def Dqs.ints {G:Gp}:∀ {ns:List Int} {xs:List T},Dqs G xs (ns.map PyData.int)->xs=ns.map T.int
 |[],_,.nil=>rfl
 |n::ns,_,.cons a b=>by cases a;rw [Dqs.ints b];rfl
def Dqs.ofInts {G:Gp}:∀ (ns:List Int),Dqs G (ns.map T.int) (ns.map PyData.int)
 |[]=>.nil
 |n::r=>.cons (.int n) (Dqs.ofInts r)
def rs (D:Addr->Prop) (G:Gp):Gp:=λb=>cif (D b) none (G b)
def qJ {D:Addr->Prop} {G:Gp} {b:Addr} {o:O} (h:rs D G b=some o):¬ D b/\G b=some o:=by
 unfold rs cif at h;split at h
 ·cases h
 ·rename_i n;exact ⟨n,h⟩
def jP {D:Addr->Prop} {G:Gp} {b:Addr} (n:¬ D b):rs D G b=G b:=by unfold rs;exact DF n
def JL {D:Addr->Prop} {G:Gp}:Ex (rs D G) G:=λb o h=>(qJ h).2
def Q1 {D:Addr->Prop} {G G':Gp} (e:Ex G G'):Ex (rs D G) (rs D G'):=λb o h=>by
 obtain ⟨n,h⟩:=qJ h;rw [jP n];exact e _ _ h
def jc {D D':Addr->Prop} {G:Gp} (h:∀ b,D' b->D b):Ex (rs D G) (rs D' G):=λb o e=>by
 obtain ⟨n,e⟩:=qJ e;rw [jP λz=>n (h b z)];exact e
def Dom (D:Addr->Prop) (G:Gp):Prop:=∀ b,D b->G b≠none
def Dom.up {D:Addr->Prop} {G G':Gp} (h:Dom D G) (e:Ex G G'):Dom D G':=λb d z=>by
 cases g:G b with
 |none=>exact h b d g
 |some o=>rw [e _ _ g] at z;cases z
def ql6 {D:Addr->Prop} {G:Gp} {p:Addr} {o:O} (hd:Dom D G) (hp:G p=none):rs D (gu G p o) p=some o:=by
 rw [jP λz=>hd p z hp,qG]
inductive Sl where
 |un|sh (d:PyData)|ow (ds:List PyData)
abbrev Rho:=List Sl
def Sl.d:Sl->Option PyData
 |.un=>none|.sh d=>some d|.ow ds=>some (.list ds)
def vw (ρ:Rho) (i:Nat):Option PyData:=(ρ[i]?).bind Sl.d
def XD (fv:List Nat) (D:Addr->Prop) (G:Gp) (τ:St3) (ρ:Rho):Prop:=∀ i∈fv,∀ d,vw ρ i=some d->∃ t,τ[i]?=some (some t)/\Dq (rs D G) t d
def XD.up {fv:List Nat} {D:Addr->Prop} {G G':Gp} {τ:St3} {ρ:Rho} (h:XD fv D G τ ρ) (e:Ex G G'):XD fv D G' τ ρ:=λi hi d hd=>
 let ⟨t,a,b⟩:=h i hi d hd;⟨t,a,b.up (Q1 e)⟩
def XD.l {fv gv:List Nat} {D:Addr->Prop} {G:Gp} {τ:St3} {ρ:Rho} (h:XD (fv++gv) D G τ ρ):XD fv D G τ ρ:=λi hi=>h i (by simp [hi])
def XD.r {fv gv:List Nat} {D:Addr->Prop} {G:Gp} {τ:St3} {ρ:Rho} (h:XD (fv++gv) D G τ ρ):XD gv D G τ ρ:=λi hi=>h i (by simp [hi])
def Nw (D:Addr->Prop) (G G':Gp) (x:T) (d:PyData):Prop:=d=.none\/∃ p xs ds,x=.ref p/\d=.list ds/\G p=none/\G' p=some (.lst xs)/\Dqs (rs (λb=>D b\/b=p) G') xs ds
def Nw.back {D:Addr->Prop} {G0 G G':Gp} {x:T} {d:PyData} (h:Nw D G G' x d) (e:Ex G0 G):Nw D G0 G' x d:=by
 rcases h with h|⟨p,xs,ds,a,b,c,r⟩
 ·exact .inl h
 refine .inr ⟨p,xs,ds,a,b,?_,r⟩;cases z:G0 p with
 |none=>rfl
 |some o=>rw [e _ _ z] at c;cases c
structure PuE (t:TE3) where
 f:Rho->Option PyData
 fv:List Nat
 nw:Bool
 ok:∀ {D τ ρ G} {q:Q3} {d},XD fv D G τ ρ->Dom D G->f ρ=some d->(∀ x G',Ex G G'->Dq (rs D G') x d->(nw=true->Nw D G G' x d)->q x G')->t τ G q
structure PuC (t:TT3) where
 f:Rho->Option Bool
 fv:List Nat
 ok:∀ {D τ ρ G} {q:Bool->Gp->Prop} {k},XD fv D G τ ρ->Dom D G->f ρ=some k->(∀ G',Ex G G'->q k G')->t τ G q
structure PuA (t:TA3) where
 f:Rho->Option (List PyData)
 fv:List Nat
 n:Nat
 ln:∀ {ρ d},f ρ=some d->d.length=n
 ok:∀ {D τ ρ G} {q:List T->Gp->Prop} {d},XD fv D G τ ρ->Dom D G->f ρ=some d->(∀ x G',Ex G G'->Dqs (rs D G') x d->q x G')->t τ G q
structure PuO (t:TO3) where
 f:Rho->Option (Option Int)
 fv:List Nat
 ok:∀ {D τ ρ G} {q:Option Int->Gp->Prop} {k},XD fv D G τ ρ->Dom D G->f ρ=some k->(∀ G',Ex G G'->q k G')->t τ G q
structure PuI (t:TI3) where
 f:Rho->Option (List PyData)
 fv:List Nat
 /-- numbers alone -/
 nm:Bool
 ok:∀ {D τ ρ G} {r:List T->(Gp->Prop)->Gp->Prop} {ds},XD fv D G τ ρ->Dom D G->f ρ=some ds ->
  (∀ items stay G',Ex G G'->Dqs (rs D G') items ds->(∀ G'',(nm=true\/Ex (rs D G') G'')->stay G'')->(nm=true->∃ ns:List Int,ds=ns.map PyData.int)->r items stay G')->t τ G r
structure OpD (r:R3) where
 f:PyData->PyData->Option PyData
 nw:Bool
 ok:∀ {D G x y d e v} {q:Q3},Dq (rs D G) x d->Dq (rs D G) y e->Dom D G->f d e=some v->(∀ z G',Ex G G'->Dq (rs D G') z v->(nw=true->Nw D G G' z v)->q z G')->r x y G q
structure FnD (r:List T->Gp->Q3->Prop) where
 f:List PyData->Option PyData
 nw:Bool
 ok:∀ {D G xs ds v} {q:Q3},Dqs (rs D G) xs ds->Dom D G->f ds=some v->(∀ z G',Ex G G'->Dq (rs D G') z v->(nw=true->Nw D G G' z v)->q z G')->r xs G q
def bV (i:Nat):PuE (v3 i):=⟨λρ=>vw ρ i,[i],false,λhv hd hf k=>by
 obtain ⟨t,e,h⟩:=hv i (by simp) _ hf;unfold v3;rw [e];exact k t _ Ex.refl h (λz=>by cases z)⟩
def qF (i:Int):PuE (c3 (.int i)):=⟨λ_=>some (.int i),[],false,λhv hd hf k=>by cases hf;exact k _ _ Ex.refl (.int i) (λz=>by cases z)⟩
def bBl (i:Bool):PuE (c3 (.bl i)):=⟨λ_=>some (.bool i),[],false,λhv hd hf k=>by cases hf;exact k _ _ Ex.refl (.bl i) (λz=>by cases z)⟩
def WJ (i:Str):PuE (c3 (.str i)):=⟨λ_=>some (.str i),[],false,λhv hd hf k=>by cases hf;exact k _ _ Ex.refl (.str i) (λz=>by cases z)⟩
def bO {r:R3} {ta tb:TE3} (R:OpD r) (a:PuE ta) (b:PuE tb):PuE (o3 r ta tb):=
 ⟨λρ=>(a.f ρ).bind λx=>(b.f ρ).bind λy=>R.f x y,a.fv++b.fv,R.nw,λhv hd hf k=>by
  obtain ⟨x,e1,hf⟩:=obb hf;obtain ⟨y,e2,hf⟩:=obb hf;exact a.ok hv.l hd e1 λx' G1 E1 D1 _=>b.ok (hv.r.up E1) (hd.up E1) e2 λy' G2 E2 D2 _=>R.ok (D1.up (Q1 E2)) D2 ((hd.up E1).up E2) hf λz G3 E3 D3 N3=>k z G3 ((E1.trans E2).trans E3) D3 λh=>(N3 h).back (E1.trans E2)⟩
def qI:PuA qk:=⟨λ_=>some [],[],0,(λh=>by cases h;rfl),λhv hd hf k=>by cases hf;exact k _ _ Ex.refl .nil⟩
def qf {ta:TE3} {tr:TA3} (a:PuE ta) (r:PuA tr):PuA (qc ta tr):=
 ⟨λρ=>(a.f ρ).bind λx=>(r.f ρ).bind λxs=>some (x::xs),a.fv++r.fv,r.n+1,(λhf=>by
  obtain ⟨x,e1,hf⟩:=obb hf;obtain ⟨xs,e2,hf⟩:=obb hf;cases hf;simp [r.ln e2]),λhv hd hf k=>by
  obtain ⟨x,e1,hf⟩:=obb hf;obtain ⟨xs,e2,hf⟩:=obb hf;cases hf;exact a.ok hv.l hd e1 λx' G1 E1 D1 _=>r.ok (hv.r.up E1) (hd.up E1) e2 λy' G2 E2 D2=>k _ G2 (E1.trans E2) (.cons (D1.up (Q1 E2)) D2)⟩
def few {n:Nat} (h:Tru (Nat.ble n 1000)):n<=sizeLine:=Nat.le_trans (Nat.le_of_ble_eq_true h.h) (by rw [sizeLine_eq];omega)
def C7 {t:TA3} (a:PuA t) (hn:Tru (Nat.ble a.n 1000)):PuE (jW t):=⟨λρ=>(a.f ρ).map .tuple,a.fv,false,λhv hd hf k=>by
 obtain ⟨xs,e1,rfl⟩:=Option.map_eq_some_iff.mp hf;exact a.ok hv hd e1 λx G1 E1 D1=>⟨by rw [D1.length,a.ln e1];exact few hn,k _ _ E1 (.tup D1) (λz=>by cases z)⟩⟩
def K7 {D:Addr->Prop} {G:Gp} {p:Addr} {xs:List T} {ds:List PyData} (hp:G p=none) (h:Dqs (rs D G) xs ds):Nw D G (gu G p (.lst xs)) (.ref p) (.list ds):=
 .inr ⟨p,xs,ds,rfl,rfl,hp,qG,h.up λb o e=>by
  obtain ⟨n,e⟩:=qJ e;have:b≠p:=by rintro rfl;rw [hp] at e;cases e
  rw [jP (by rintro (z|z);exact n z;exact this z),jK this];exact e⟩
def W0 {D:Addr->Prop} {G:Gp} {p:Addr} {xs:List T} {ds:List PyData} (hd:Dom D G) (hp:G p=none) (h:Dqs (rs D G) xs ds):Dq (rs D (gu G p (.lst xs))) (.ref p) (.list ds):=
 .lst (ql6 hd hp) (h.up (Q1 (V3 hp)))
def NL {t:TA3} (a:PuA t) (hn:Tru (Nat.ble a.n 1000)):PuE (JH t):=⟨λρ=>(a.f ρ).map .list,a.fv,true,λhv hd hf k=>by
 obtain ⟨xs,e1,rfl⟩:=Option.map_eq_some_iff.mp hf;exact a.ok hv hd e1 λx G1 E1 D1=>⟨by rw [D1.length,a.ln e1];exact few hn,λp hp=>k _ _ (E1.trans (V3 hp)) (W0 (hd.up E1) hp D1) λ_=>(K7 hp D1).back E1⟩⟩
def qE {r:List T->Gp->Q3->Prop} {t:TA3} (R:FnD r) (a:PuA t):PuE (cb3 r t):=
 ⟨λρ=>(a.f ρ).bind R.f,a.fv,R.nw,λhv hd hf k=>by
  obtain ⟨x,e1,hf⟩:=obb hf;exact a.ok hv hd e1 λx' G1 E1 D1=>R.ok D1 (hd.up E1) hf λz G3 E3 D3 N3=>k z G3 (E1.trans E3) D3 λh=>(N3 h).back E1⟩
def asB:PyData->Option Bool
 |.bool b=>some b
 |_=>none
def asI:PyData->Option Int
 |.int b=>some b
 |_=>none
def RY {d:PyData} {b:Bool} (h:asB d=some b):d=.bool b:=by cases d<;>simp [asB] at h;subst h;rfl
def qeX {d:PyData} {b:Int} (h:asI d=some b):d=.int b:=by cases d<;>simp [asI] at h;subst h;rfl
def bTb {t:TE3} (a:PuE t):PuC (tb3 t):=⟨λρ=>(a.f ρ).bind asB,a.fv,λhv hd hf k=>by
 obtain ⟨x,e1,hf⟩:=obb hf;have:=RY hf;subst this;exact a.ok hv hd e1 λx' G1 E1 D1 _=>by cases D1;exact k G1 E1⟩
def bOr {t u:TT3} (a:PuC t) (b:PuC u):PuC (or3 t u):=⟨λρ=>(a.f ρ).bind λk=>if k then some true else b.f ρ,a.fv++b.fv,λhv hd hf k=>by
 obtain ⟨x,e1,hf⟩:=obb hf;refine a.ok hv.l hd e1 λG1 E1=>?_;cases x with
 |false=>exact b.ok (hv.r.up E1) (hd.up E1) hf λG2 E2=>k G2 (E1.trans E2)
 |true=>cases hf;exact k G1 E1⟩
def qce {t:TT3} (a:PuC t):PuC (SX t):=⟨λρ=>(a.f ρ).map (! ·),a.fv,λhv hd hf k=>by
 obtain ⟨x,e1,hf⟩:=Option.map_eq_some_iff.mp hf;subst hf;exact a.ok hv hd e1 λG1 E1=>k G1 E1⟩
def bTt:PuC tt3:=⟨λ_=>some true,[],λhv hd hf k=>by cases hf;exact k _ Ex.refl⟩
def DX {ta tb:TE3} (a:PuE ta) (b:PuE tb):PuE (ju ta tb):=⟨λρ=>((a.f ρ).bind asB).bind λk=>if k then b.f ρ else some (.bool false),a.fv++b.fv,false,λhv hd hf k=>by
 obtain ⟨x,e1,hf⟩:=obb hf;obtain ⟨y,e1,e2⟩:=obb e1;have:=RY e2;subst this;refine a.ok hv.l hd e1 λx' G1 E1 D1 _=>?_;cases D1;cases x with
 |true=>exact b.ok (hv.r.up E1) (hd.up E1) hf λz G2 E2 D2 _=>k z G2 (E1.trans E2) D2 (λz=>by cases z)
 |false=>cases hf;exact k _ G1 E1 (.bl false) (λz=>by cases z)⟩
def qpv {ta tb:TE3} (a:PuE ta) (b:PuE tb):PuE (qhE ta tb):=⟨λρ=>((a.f ρ).bind asB).bind λk=>if k then some (.bool true) else b.f ρ,a.fv++b.fv,false,λhv hd hf k=>by
 obtain ⟨x,e1,hf⟩:=obb hf;obtain ⟨y,e1,e2⟩:=obb e1;have:=RY e2;subst this;refine a.ok hv.l hd e1 λx' G1 E1 D1 _=>?_;cases D1;cases x with
 |false=>exact b.ok (hv.r.up E1) (hd.up E1) hf λz G2 E2 D2 _=>k z G2 (E1.trans E2) D2 (λz=>by cases z)
 |true=>cases hf;exact k _ G1 E1 (.bl true) (λz=>by cases z)⟩
def qiw {ta:TE3} (a:PuE ta):PuE (TW ta):=⟨λρ=>((a.f ρ).bind asB).map λk=>.bool (!k),a.fv,false,λhv hd hf k=>by
 obtain ⟨x,e1,hf⟩:=Option.map_eq_some_iff.mp hf;obtain ⟨y,e1,e2⟩:=obb e1;have:=RY e2;subst this;subst hf;refine a.ok hv hd e1 λx' G1 E1 D1 _=>?_;cases D1;exact k _ G1 E1 (.bl _) (λz=>by cases z)⟩
def qhJ {ta:TE3} (a:PuE ta):PuE (u3 TH ta):=⟨λρ=>((a.f ρ).bind asI).map λi=>.int (-i),a.fv,false,λhv hd hf k=>by
 obtain ⟨x,e1,hf⟩:=Option.map_eq_some_iff.mp hf;obtain ⟨y,e1,e2⟩:=obb e1;have:=qeX e2;subst this;subst hf;refine a.ok hv hd e1 λx' G1 E1 D1 _=>?_;cases D1;exact k _ G1 E1 (.int _) (λz=>by cases z)⟩
def tyD:PyData->Option String
 |.none=>some "NoneType" |.bool _=>some "bool" |.int _=>some "int" |.str _=>some "str" |.tuple _=>some "tuple" |.list _=>some "list" |.dict _=>none
def qfV {ta:TE3} (g:String->Bool) (a:PuE ta):PuE (ER g ta):=⟨λρ=>(a.f ρ).bind λd=>(tyD d).map λt=>.bool (g t),a.fv,false,λhv hd hf k=>by
 obtain ⟨x,e1,hf⟩:=obb hf;obtain ⟨y,e2,hf⟩:=Option.map_eq_some_iff.mp hf;subst hf;refine a.ok hv hd e1 λx' G1 E1 D1 _=>?_;have:tyT G1 x'=some y:=by
  cases D1 with
  |lst h _=>have g:=zD (qJ h).2;simp [tyT,g];simpa [tyD] using e2
  |_=>simpa [tyT,tyD] using e2
 simp only [this];exact k _ G1 E1 (.bl _) (λz=>by cases z)⟩
def bNp:PuO np3:=⟨λ_=>some none,[],λhv hd hf k=>by cases hf;exact k _ Ex.refl⟩
def bSp {t:TE3} (a:PuE t):PuO (sp3 t):=⟨λρ=>((a.f ρ).bind asI).map some,a.fv,λhv hd hf k=>by
 obtain ⟨x,e1,hf⟩:=Option.map_eq_some_iff.mp hf;obtain ⟨y,e1,e2⟩:=obb e1;have:=qeX e2;subst this;subst hf;refine a.ok hv hd e1 λx' G1 E1 D1 _=>?_;cases D1;exact k G1 E1⟩
def Dqs.cut {G:Gp} {xs:List T} {ds:List PyData} (h:Dqs G xs ds) (lo hi:Option Int):Dqs G (WF xs lo hi) (WF ds lo hi):=by
 unfold WF;rw [h.length];exact (h.drop _).take _
def slD (d:PyData) (lo hi:Option Int):Option PyData:=match d with
 |.tuple xs=>cif (HT.sIx xs.length 0 lo=0/\HT.sIx xs.length xs.length hi=xs.length) none (some (.tuple (WF xs lo hi)))
 |.list xs=>some (.list (WF xs lo hi))
 |_=>none
def bSl {te:TE3} {tl th:TO3} (a:PuE te) (l:PuO tl) (h:PuO th):PuE (NM te tl th):=⟨λρ=>(a.f ρ).bind λd=>(l.f ρ).bind λlo=>(h.f ρ).bind λhi=>slD d lo hi,a.fv++(l.fv++h.fv),false,λhv hd hf k=>by
 obtain ⟨d,e1,hf⟩:=obb hf;obtain ⟨lo,e2,hf⟩:=obb hf;obtain ⟨hi,e3,hf⟩:=obb hf;refine a.ok hv.l hd e1 λx' G1 E1 D1 _=>l.ok (hv.r.l.up E1) (hd.up E1) e2 λG2 E2=>h.ok (hv.r.r.up (E1.trans E2)) (hd.up (E1.trans E2)) e3 λG3 E3=>?_;have E:=(E1.trans E2).trans E3;have D3:=(D1.up (Q1 E2)).up (Q1 E3);unfold slD at hf;cases D3 with
 |tup hs=>
  simp only [cif] at hf;split at hf
  ·cases hf
  ·rename_i n;cases hf;exact ⟨by rw [hs.length];exact n,k _ _ E (.tup (hs.cut _ _)) (λz=>by cases z)⟩
 |lst g hs=>
  simp only at hf;cases hf;simp only [sl3,zD (qJ g).2];intro p hp;exact k _ _ (E.trans (V3 hp)) (W0 (hd.up E) hp (hs.cut _ _)) (λz=>by cases z)
 |_=>simp at hf⟩
def JK:List PyData->Option (List Int)
 |[]=>some []
 |.int i::r=>(JK r).map (i::·)
 |_=>none
def DI (ns:List Int):JK (ns.map PyData.int)=some ns:=by
 induction ns with
 |nil=>rfl
 |cons n r ih=>simp [JK,ih]
def YO:∀ {xs:List PyData} {ns:List Int},JK xs=some ns->xs=ns.map PyData.int
 |[],_,h=>by simp [JK] at h;subst h;rfl
 |.int i::r,ns,h=>by
  simp only [JK] at h;obtain ⟨ms,e,rfl⟩:=Option.map_eq_some_iff.mp h;rw [YO e];rfl
 |.none::r,ns,h=>by simp [JK] at h
 |.bool _::r,ns,h=>by simp [JK] at h
 |.str _::r,ns,h=>by simp [JK] at h
 |.list _::r,ns,h=>by simp [JK] at h
 |.tuple _::r,ns,h=>by simp [JK] at h
 |.dict _::r,ns,h=>by simp [JK] at h
def N4 (d:PyData):Option PyData:=match d with
 |.list ds=>(JK ds).bind λns=>cif (ns.length<4000) (some (.int (EJ ns))) none
 |_=>none
def qkU {te:TE3} (a:PuE te):PuE (qfY te):=⟨λρ=>(a.f ρ).bind N4,a.fv,false,λhv hd hf k=>by
 obtain ⟨d,e1,hf⟩:=obb hf;refine a.ok hv hd e1 λx' G1 E1 D1 _=>?_;unfold N4 at hf;cases D1 with
 |lst g hs=>
  simp only at hf;obtain ⟨ns,en,hf⟩:=obb hf;unfold cif at hf;split at hf
  ·rename_i hl;cases hf;have:=YO en;subst this;have:=hs.ints;subst this;simp only [zD (qJ g).2,J4];exact ⟨hl,k _ _ E1 (.int _) (λz=>by cases z)⟩
  ·cases hf
 |_=>simp at hf⟩
def opI (g:Int->Int->Int):OpD (iI g):=⟨λd e=>match d,e with|.int i,.int j=>some (.int (g i j))|_,_=>none,false,λ{D G x y d e v q} hx hy hd hf k=>by
 cases hx<;>try (simp at hf;done)
 cases hy<;>try (simp at hf;done)
 cases hf;exact k _ _ Ex.refl (.int _) (λz=>by cases z)⟩
def cI (C:Int->Int->Prop) (g:Int->Int->Int) (d e:PyData):Option PyData:=match d,e with|.int i,.int j=>cif (C i j) (some (.int (g i j))) none|_,_=>none
def opC (C:Int->Int->Prop) (g:Int->Int->Int):OpD (iC C g):=⟨cI C g,false,λ{D G x y d e v q} hx hy hd hf k=>by
 unfold cI at hf;cases hx<;>try (simp at hf;done)
 cases hy<;>try (simp at hf;done)
 simp only [cif] at hf;split at hf
 ·rename_i c;cases hf;exact ⟨c,k _ _ Ex.refl (.int _) (λz=>by cases z)⟩
 ·cases hf⟩
def opB (g:Int->Int->Bool):OpD (iB g):=⟨λd e=>match d,e with|.int i,.int j=>some (.bool (g i j))|_,_=>none,false,λ{D G x y d e v q} hx hy hd hf k=>by
 cases hx<;>try (simp at hf;done)
 cases hy<;>try (simp at hf;done)
 cases hf;exact k _ _ Ex.refl (.bl _) (λz=>by cases z)⟩
def qf4:PyData->PyData->Option Bool
 |.none,.none=>some true|.none,.int _=>some false|.int _,.none=>some false|.none,.bool _=>some false|.bool _,.none=>some false|.none,.str _=>some false|.str _,.none=>some false
 |.int i,.int j=>some (decide (i=j))|.bool i,.bool j=>some (decide (i=j))|.str i,.str j=>some (decide (i=j))
 |.int _,.str _=>some false|.str _,.int _=>some false|.bool _,.str _=>some false|.str _,.bool _=>some false
 |_,_=>none
def qb9 {G:Gp} {x y:T} {d e:PyData} (hx:Dq G x d) (hy:Dq G y e):Z0 x y=qf4 d e:=by
 cases hx<;>cases hy<;>rfl
def eqD (neg:Bool) (d e:PyData):Option PyData:=match qf4 d e with
 |some k=>some (.bool (if neg then !k else k))
 |none=>cif (dpt d<=40/\dpt d≠0) ((ZI d e).map λb=>.bool (if neg then !b else b)) none
def Y6 (neg:Bool):OpD (zS neg):=⟨eqD neg,false,λ{D G x y d e v q} hx hy hd hf k=>by
 unfold zS;rw [qb9 hx hy];unfold eqD at hf;cases h:qf4 d e with
 |some b=>rw [h] at hf;cases hf;exact k _ _ Ex.refl (.bl _) (λz=>by cases z)
 |none=>
  rw [h] at hf;simp only [cif] at hf ⊢;split at hf
  ·rename_i c;obtain ⟨b,e1,rfl⟩:=Option.map_eq_some_iff.mp hf;exact ⟨d,e,b,(hx.up JL).dp,(hy.up JL).dp,e1,c.1,c.2,k _ _ Ex.refl (.bl _) (λz=>by cases z)⟩
  ·cases hf⟩
def ixD (d e:PyData):Option PyData:=match d,e with
 |.tuple xs,.int i=>atI xs i
 |.list xs,.int i=>atI xs i
 |_,_=>none
def Dqs.atI {G:Gp} {xs:List T} {ds:List PyData} {i:Int} {d:PyData} (h:Dqs G xs ds) (e:L2.atI ds i=some d):∃ x,L2.atI xs i=some x/\Dq G x d:=by
 unfold L2.atI at e ⊢;rw [h.length];obtain ⟨j,e1,e2⟩:=obb e;obtain ⟨x,hx,r⟩:=h.get e2;exact ⟨x,by rw [e1];exact hx,r⟩
def zl:OpD ix3:=⟨ixD,false,λ{D G x y d e v q} hx hy hd hf k=>by
 unfold ixD at hf;cases hx with
 |tup hs=>
  cases hy<;>try (simp at hf;done)
  obtain ⟨x,e1,r⟩:=hs.atI hf;simp only [ix3,e1];exact k _ _ Ex.refl r (λz=>by cases z)
 |lst g hs=>
  cases hy<;>try (simp at hf;done)
  obtain ⟨x,e1,r⟩:=hs.atI hf;simp only [ix3,zD (qJ g).2,e1];exact k _ _ Ex.refl r (λz=>by cases z)
 |_=>simp at hf⟩
def qiz (d e:PyData):Option PyData:=match d,e with
 |.tuple xs,.tuple ys=>cif (xs≠[]/\xs.length+ys.length<=sizeLine) (some (.tuple (xs++ys))) none
 |.list xs,.list ys=>cif (xs.length+ys.length<=sizeLine) (some (.list (xs++ys))) none
 |.int i,.int j=>some (.int (i+j))
 |_,_=>none
def JM:OpD zK:=⟨qiz,false,λ{D G x y d e v q} hx hy hd hf k=>by
  unfold qiz at hf;cases hx with
  | int i => cases hy <;> try (simp at hf;done)
             cases hf;exact k _ _ Ex.refl (.int _) (λz=>by cases z)
  |tup hs=>
    cases hy<;>try (simp at hf;done)
    rename_i hs2;simp only [cif] at hf;split at hf
    · rename_i c;cases hf;refine ⟨?_,by rw [hs.length,hs2.length];exact c.2,k _ _ Ex.refl (.tup (hs.append hs2)) (λz=>by cases z)⟩;rintro rfl;cases hs;exact c.1 rfl
    · cases hf
  |lst g hs=>
    cases hy<;>try (simp at hf;done)
    rename_i g2 hs2;simp only [cif] at hf;split at hf
    · rename_i c;cases hf;simp only [zK,(qJ g).2,(qJ g2).2];exact ⟨by rw [hs.length,hs2.length];exact c,λp hp=>k _ _ (V3 hp) (W0 hd hp (hs.append hs2)) (λz=>by cases z)⟩
    · cases hf
  |_=>simp at hf⟩
def S7:PyData->Bool
 |.none=>true|.bool _=>true|.int _=>true|.str _=>true|_=>false
def qhD:PyData->PyData->Bool
 |.none,.none=>true
 |.bool a,.bool b=>a==b
 |.bool a,.int b=>(if a then 1 else 0)==b
 |.int a,.bool b=>a==(if b then 1 else 0)
 |.int a,.int b=>a==b
 |.str a,.str b=>a==b
 |_,_=>false
def WA {G:Gp} {x:T} {d:PyData} (h:Dq G x d):U6 x=S7 d:=by cases h<;>rfl
def UU {G:Gp}:∀ {x:List T} {d:List PyData},Dqs G x d->x.all U6=d.all S7
 |_,_,.nil=>rfl
 |_,_,.cons a b=>by rw [List.all_cons,List.all_cons,WA a,UU b]
def qdm {G:Gp} {x y:T} {d e:PyData} (h:Dq G x d) (h':Dq G y e):eqF x y=qhD d e:=by cases h<;>cases h'<;>rfl
def DC {G:Gp} {x:T} {d:PyData} (h:Dq G x d):∀ {ys:List T} {es:List PyData},Dqs G ys es->(ys.any λy=>eqF y x)=es.any λy=>qhD y d
 |_,_,.nil=>rfl
 |_,_,.cons a b=>by rw [List.any_cons,List.any_cons,qdm a h,DC h b]
def inD (neg:Bool) (d e:PyData):Option PyData:=match e with
 |.tuple ys=>cif (S7 d=true/\ys.all S7=true) (some (.bool (if neg then !(ys.any λy=>qhD y d) else (ys.any λy=>qhD y d)))) none
 |.list ys=>cif (S7 d=true/\ys.all S7=true) (some (.bool (if neg then !(ys.any λy=>qhD y d) else (ys.any λy=>qhD y d)))) none
 |_=>none
def qo3 (neg:Bool):OpD (in3 neg):=⟨inD neg,false,λ{D G x y d e v q} hx hy hd hf k=>by
 unfold inD at hf;cases hy with
 |tup hs=>
  simp only [cif] at hf;split at hf
  ·rename_i c;cases hf;refine ⟨by rw [WA hx];exact c.1,by rw [UU hs];exact c.2,?_⟩;rw [DC hx hs];exact k _ _ Ex.refl (.bl _) (λz=>by cases z)
  ·cases hf
 |lst g hs=>
  simp only [cif] at hf;split at hf
  ·rename_i c;cases hf;refine ⟨by rw [WA hx];exact c.1,?_⟩;simp only [zD (qJ g).2];refine ⟨by rw [UU hs];exact c.2,?_⟩;rw [DC hx hs];exact k _ _ Ex.refl (.bl _) (λz=>by cases z)
  ·cases hf
 |_=>simp at hf⟩
def qmy:List PyData->Option PyData
 |[.tuple xs]=>some (.int xs.length)
 |[.list xs]=>some (.int xs.length)
 |_=>none
def NO:FnD EG:=⟨qmy,false,λ{D G xs ds v q} hx hd hf k=>by
 unfold qmy at hf;split at hf
 ·cases hx with
  |cons a b=>cases b;cases a;rename_i hs;cases hf;simp only [EG];rw [hs.length];exact k _ _ Ex.refl (.int _) (λz=>by cases z)
 ·cases hx with
  |cons a b=>cases b;cases a;rename_i g hs;cases hf;simp only [EG,zD (qJ g).2];rw [hs.length];exact k _ _ Ex.refl (.int _) (λz=>by cases z)
 ·cases hf⟩
def qmp:List PyData->Option PyData
 |[.tuple xs]=>some (.tuple xs)
 |[.list xs]=>some (.tuple xs)
 |_=>none
def qhH:FnD ZE:=⟨qmp,false,λ{D G xs ds v q} hx hd hf k=>by
 unfold qmp at hf;split at hf
 ·cases hx with
  |cons a b=>cases b;cases a;rename_i hs;cases hf;exact k _ _ Ex.refl (.tup hs) (λz=>by cases z)
 ·cases hx with
  |cons a b=>cases b;cases a;rename_i g hs;cases hf;simp only [ZE,zD (qJ g).2];exact k _ _ Ex.refl (.tup hs) (λz=>by cases z)
 ·cases hf⟩
def qmv:List PyData->Option PyData
 |[.tuple xs]=>some (.list xs)
 |[.list xs]=>some (.list xs)
 |_=>none
def qmf:FnD RT:=⟨qmv,true,λ{D G xs ds v q} hx hd hf k=>by
 unfold qmv at hf;split at hf
 ·cases hx with
  |cons a b=>cases b;cases a;rename_i hs;cases hf;exact λp hp=>k _ _ (V3 hp) (W0 hd hp hs) λ_=>K7 hp hs
 ·cases hx with
  |cons a b=>cases b;cases a;rename_i g hs;cases hf;simp only [RT,zD (qJ g).2];exact λp hp=>k _ _ (V3 hp) (W0 hd hp hs) λ_=>K7 hp hs
 ·cases hf⟩
def MT:List PyData->Option (List Bool)
 |[]=>some []
 |.bool i::r=>(MT r).map (i::·)
 |_=>none
def qc0 (ns:List Bool):MT (ns.map PyData.bool)=some ns:=by
 induction ns with
 |nil=>rfl
 |cons n r ih=>simp [MT,ih]
def qbU {G:Gp}:∀ {xs:List T} {ds:List PyData} {ns:List Bool},Dqs G xs ds->MT ds=some ns->qeU xs=some (ns.all id)/\qml xs=some (ns.any id)
 |_,_,_,.nil,h=>by simp [MT] at h;subst h;exact ⟨rfl,rfl⟩
 |_,.bool i::r,ns,.cons a b,h=>by
  simp only [MT] at h;obtain ⟨ms,e,rfl⟩:=Option.map_eq_some_iff.mp h;obtain ⟨h1,h2⟩:=qbU b e;cases a;simp [qeU,qml,h1,h2]
 |_,.int _::r,ns,_,h=>by simp [MT] at h
 |_,.none::r,ns,_,h=>by simp [MT] at h
 |_,.str _::r,ns,_,h=>by simp [MT] at h
 |_,.list _::r,ns,_,h=>by simp [MT] at h
 |_,.tuple _::r,ns,_,h=>by simp [MT] at h
 |_,.dict _::r,ns,_,h=>by simp [MT] at h
def qlF:List PyData->Option PyData
 |[.list xs]=>(MT xs).map λns=>.bool (ns.all id)
 |_=>none
def qn6:FnD NJ:=⟨qlF,false,λ{D G xs ds v q} hx hd hf k=>by
 unfold qlF at hf;split at hf
 ·obtain ⟨ns,e,rfl⟩:=Option.map_eq_some_iff.mp hf;cases hx with
  |cons a b=>cases b;cases a;rename_i g hs;simp only [NJ,zD (qJ g).2,(qbU hs e).1];exact k _ _ Ex.refl (.bl _) (λz=>by cases z)
 ·cases hf⟩
def qnn:List PyData->Option PyData
 |[.list xs]=>(JK xs).bind λns=>cif (qde ns) (some (.int ns.sum)) none
 |_=>none
def qnN:FnD qks:=⟨qnn,false,λ{D G xs ds v q} hx hd hf k=>by
 unfold qnn at hf;split at hf
 ·obtain ⟨ns,e,hf⟩:=obb hf;unfold cif at hf;split at hf
  ·rename_i c;cases hf;cases hx with
   |cons a b=>cases b;cases a;rename_i g hs;have:=YO e;subst this;have:=hs.ints;subst this;simp only [qks,zD (qJ g).2,J4];exact ⟨c,k _ _ Ex.refl (.int _) (λz=>by cases z)⟩
  ·cases hf
 ·cases hf⟩
def mn:List Int->Int
 |[]=>0|[a]=>a|a::b::r=>min a (mn (b::r))
def mx:List Int->Int
 |[]=>0|[a]=>a|a::b::r=>max a (mx (b::r))
def ML:∀ {ns:List Int} {m:Int},m∈ns->mn ns<=m
 |[a],m,h=>by simp at h;subst h;exact Int.le_refl _
 |a::b::r,m,h=>by
  unfold mn;rcases mem_cons.mp h with rfl|h
  ·omega
  ·have:=ML h;omega
def LM:∀ {ns:List Int},ns≠[]->mn ns∈ns
 |[a],_=>by simp [mn]
 |a::b::r,_=>by
  unfold mn;have:=LM (ns:=b::r) (by simp);rcases Int.le_total a (mn (b::r)) with h|h
  ·rw [Int.min_eq_left h];simp
  ·rw [Int.min_eq_right h];exact List.mem_cons_of_mem _ this
def qco:∀ {ns:List Int} {m:Int},m∈ns->m<=mx ns
 |[a],m,h=>by simp at h;subst h;exact Int.le_refl _
 |a::b::r,m,h=>by
  unfold mx;rcases mem_cons.mp h with rfl|h
  ·omega
  ·have:=qco h;omega
def LR:∀ {ns:List Int},ns≠[]->mx ns∈ns
 |[a],_=>by simp [mx]
 |a::b::r,_=>by
  unfold mx;have:=LR (ns:=b::r) (by simp);rcases Int.le_total a (mx (b::r)) with h|h
  ·rw [Int.max_eq_right h];exact List.mem_cons_of_mem _ this
  ·rw [Int.max_eq_left h];simp
def mnD:List PyData->Option PyData
 |[.list xs]=>(JK xs).bind λns=>cif (ns≠[]) (some (.int (mn ns))) none
 |_=>none
def qfW:FnD MS:=⟨mnD,false,λ{D G xs ds v q} hx hd hf k=>by
 unfold mnD at hf;split at hf
 ·obtain ⟨ns,e,hf⟩:=obb hf;unfold cif at hf;split at hf
  ·rename_i c;cases hf;cases hx with
   |cons a b=>
    cases b;cases a;rename_i g hs;have:=YO e;subst this;have:=hs.ints;subst this;simp only [MS,zD (qJ g).2,J4];refine ⟨c,λm hm hl=>?_⟩;have:m=mn ns:=Int.le_antisymm (hl _ (LM c)) (ML hm);subst this;exact k _ _ Ex.refl (.int _) (λz=>by cases z)
  ·cases hf
 ·cases hf⟩
def mxD:List PyData->Option PyData
 |[.list xs]=>(JK xs).bind λns=>cif (ns≠[]) (some (.int (mx ns))) none
 |_=>none
def qgq:FnD M0:=⟨mxD,false,λ{D G xs ds v q} hx hd hf k=>by
 unfold mxD at hf;split at hf
 ·obtain ⟨ns,e,hf⟩:=obb hf;unfold cif at hf;split at hf
  ·rename_i c;cases hf;cases hx with
   |cons a b=>
    cases b;cases a;rename_i g hs;have:=YO e;subst this;have:=hs.ints;subst this;simp only [M0,zD (qJ g).2,J4];refine ⟨c,λm hm hl=>?_⟩;have:m=mx ns:=Int.le_antisymm (qco hm) (hl _ (LR c));subst this;exact k _ _ Ex.refl (.int _) (λz=>by cases z)
  ·cases hf
 ·cases hf⟩
def PSp (F:List PyData->Option PyData) (fr:Bool):Sp3:=λts G q=>∃ (D:Addr->Prop) (ds:List PyData) (d:PyData),Dqs (rs D G) ts ds/\Dom D G/\F ds=some d/\∀ x G',Ex G G'->Dq (rs D G') x d->(fr=true->Nw D G G' x d)->q x G'
def ze (F:List PyData->Option PyData) (fr:Bool):FnD (PSp F fr):=⟨F,fr,λ{D G xs ds v q} hx hd hf k=>⟨D,ds,v,hx,hd,hf,k⟩⟩
def NC:PyData->Option (List PyData)
 |.tuple xs=>some xs
 |.list xs=>some xs
 |_=>none
def NK {t:TE3} (a:PuE t):PuI (VQ t):=⟨λρ=>(a.f ρ).bind NC,a.fv,false,λ{D τ ρ G r ds} hv hd hf k=>by
 obtain ⟨d,e1,hf⟩:=obb hf;refine a.ok hv hd e1 λx G1 E1 D1 _=>?_;unfold NC at hf;cases D1 with
 |tup hs=>cases hf;exact k _ _ _ E1 hs (λ_ _=>trivial) (λz=>by cases z)
 |lst g hs=>
  cases hf;simp only [zD (qJ g).2];refine k _ _ _ E1 hs (λG2 h=>?_) (λz=>by cases z);rcases h with h|h
  ·cases h
  ·exact zD (h _ _ g)
 |_=>simp at hf⟩
def JD (lo:Int) (n:Nat):List Int:=(List.range n).map λ(i:Nat)=>lo+(i:Int)
def qem (lo:Int) (n:Nat):MY lo n=(JD lo n).map T.int:=by simp [MY,JD,map_map,Function.comp_def]
def qgg:List PyData->Option (List PyData)
 |[.int j]=>cif (-(2 ^ 62)<=j/\j<2 ^ 62) (some ((JD 0 j.toNat).map PyData.int)) none
 |[.int i,.int j]=>cif (-(2 ^ 62)<=i/\i<2 ^ 62/\-(2 ^ 62)<=j/\j<2 ^ 62) (some ((JD i (j-i).toNat).map PyData.int)) none
 |_=>none
def qbm {t:TA3} (a:PuA t):PuI (QM t):=⟨λρ=>(a.f ρ).bind qgg,a.fv,true,λ{D τ ρ G r ds} hv hd hf k=>by
 obtain ⟨d,e1,hf⟩:=obb hf;refine a.ok hv hd e1 λx G1 E1 D1=>?_;unfold qgg at hf;split at hf
 ·unfold cif at hf;split at hf
  ·rename_i c;cases hf;cases D1 with
   |cons a b=>cases b;cases a;simp only;rw [qem];exact ⟨c,k _ _ _ E1 (Dqs.ofInts _) (λ_ _=>trivial) λ_=>⟨_,rfl⟩⟩
  ·cases hf
 ·unfold cif at hf;split at hf
  ·rename_i c;cases hf;cases D1 with
   |cons a b=>cases b with
    |cons b c'=>cases c';cases a;cases b;simp only;rw [qem];exact ⟨c,k _ _ _ E1 (Dqs.ofInts _) (λ_ _=>trivial) λ_=>⟨_,rfl⟩⟩
  ·cases hf
 ·cases hf⟩
def qhL (us vs:List PyData):List PyData:=(us.zip vs).map λp=>.tuple [p.1,p.2]
def Dqs.zip {G:Gp}:∀ {xs:List T} {ds:List PyData} {ys:List T} {es:List PyData},Dqs G xs ds->Dqs G ys es->Dqs G (qcd xs ys) (qhL ds es)
 |_,_,_,_,.nil,_=>by simp [qcd,qhL];exact .nil
 |_,_,_,_,.cons _ _,.nil=>by simp [qcd,qhL];exact .nil
 |_,_,_,_,.cons a b,.cons c d=>.cons (.tup (.cons a (.cons c .nil))) (Dqs.zip b d)
def XS {G:Gp} {x:T} {d:PyData} {ds:List PyData} (h:Dq G x d) (e:NC d=some ds):∃ us,jb G x=some us/\Dqs G us ds:=by
 unfold NC at e;cases h with
 |tup hs=>cases e;exact ⟨_,rfl,hs⟩
 |lst g hs=>cases e;exact ⟨_,zD g,hs⟩
 |_=>simp at e
def XJ {G G':Gp} {x:T} {us:List T} (e:Ex G G') (h:jb G x=some us):jb G' x=some us:=by
 cases x with
 |tup xs=>exact h
 |ref p=>exact e.getL h
 |_=>cases h
def qnv {t:TA3} (a:PuA t):PuI (KG t):=⟨λρ=>(a.f ρ).bind λds=>match ds with|[d,e]=>(NC d).bind λus=>(NC e).bind λvs=>some (qhL us vs)|_=>none,a.fv,false,λ{D τ ρ G r ds} hv hd hf k=>by
 obtain ⟨d,e1,hf⟩:=obb hf;refine a.ok hv hd e1 λx G1 E1 D1=>?_;split at hf
 ·obtain ⟨us,e2,hf⟩:=obb hf;obtain ⟨vs,e3,hf⟩:=obb hf;cases hf;cases D1 with
  |cons a b=>cases b with
   |cons b c=>
    cases c;obtain ⟨us',h1,h2⟩:=XS a e2;obtain ⟨vs',h3,h4⟩:=XS b e3;simp only [XJ JL h1,XJ JL h3];refine k _ _ _ E1 (h2.zip h4) (λG2 h=>?_) (λz=>by cases z);rcases h with h|h
    ·cases h
    ·exact ⟨XJ h h1,XJ h h3⟩
 ·cases hf⟩
def enD (k:Nat):List PyData->List PyData
 |[]=>[]
 |x::r=>.tuple [.int (k:Int),x]::enD (k+1) r
def Dqs.enum {G:Gp}:∀ {xs:List T} {ds:List PyData} (k:Nat),Dqs G xs ds->Dqs G (jR k xs) (enD k ds)
 |_,_,_,.nil=>.nil
 |_,_,k,.cons a b=>.cons (.tup (.cons (.int _) (.cons a .nil))) (Dqs.enum (k+1) b)
def qjH {t:TA3} (a:PuA t):PuI (L7 t):=⟨λρ=>(a.f ρ).bind λds=>match ds with|[d]=>(NC d).map λus=>enD 0 us|_=>none,a.fv,false,λ{D τ ρ G r ds} hv hd hf k=>by
 obtain ⟨d,e1,hf⟩:=obb hf;refine a.ok hv hd e1 λx G1 E1 D1=>?_;split at hf
 ·obtain ⟨us,e2,rfl⟩:=Option.map_eq_some_iff.mp hf;cases D1 with
  |cons a b=>
   cases b;obtain ⟨us',h1,h2⟩:=XS a e2;simp only [XJ JL h1];refine k _ _ _ E1 (h2.enum 0) (λG2 h=>?_) (λz=>by cases z);rcases h with h|h
   ·cases h
   ·exact XJ h h1
 ·cases hf⟩
inductive Bd (H:Gp):List (Nat×T)->List (Nat×PyData)->Prop
 |nil:Bd H [] []
 |cons {i:Nat} {x:T} {d:PyData} {ts:List (Nat×T)} {bs:List (Nat×PyData)}:Dq H x d->Bd H ts bs->Bd H ((i,x)::ts) ((i,d)::bs)
def Bd.append {H:Gp}:∀ {ts:List (Nat×T)} {bs:List (Nat×PyData)} {us:List (Nat×T)} {cs:List (Nat×PyData)},Bd H ts bs->Bd H us cs->Bd H (ts++us) (bs++cs)
 |_,_,_,_,.nil,h=>h
 |_,_,_,_,.cons a b,h=>.cons a (Bd.append b h)
def Bd.up {H H':Gp} (e:Ex H H'):∀ {ts:List (Nat×T)} {bs:List (Nat×PyData)},Bd H ts bs->Bd H' ts bs
 |_,_,.nil=>.nil
 |_,_,.cons a b=>.cons (a.up e) (Bd.up e b)
def sets:St3->List (Nat×T)->St3
 |τ,[]=>τ
 |τ,p::r=>sets (τ.set p.1 (some p.2)) r
def JI:Rho->List (Nat×PyData)->Rho
 |ρ,[]=>ρ
 |ρ,p::r=>JI (ρ.set p.1 (.sh p.2)) r
def LB:∀ (τ:St3) (a b:List (Nat×T)),sets τ (a++b)=sets (sets τ a) b
 |τ,[],b=>rfl
 |τ,p::a,b=>by simp only [cons_append,sets];exact LB _ a b
structure PuG (g:TG3) where
 f:PyData->Option (List (Nat×PyData))
 tg:List Nat
 at':∀ {d bs},f d=some bs->∀ p∈bs,p.1∈tg
 ok:∀ {H x d bs},Dq H x d->f d=some bs->∃ ts,Bd H ts bs/\∀ τ G (q:St3->Gp->Prop),q (sets τ ts) G->g x τ G q
structure PuGs (g:SQ) where
 f:List PyData->Option (List (Nat×PyData))
 tg:List Nat
 at':∀ {d bs},f d=some bs->∀ p∈bs,p.1∈tg
 ok:∀ {H x d bs},Dqs H x d->f d=some bs->∃ ts,Bd H ts bs/\∀ τ G (q:St3->Gp->Prop),q (sets τ ts) G->g x τ G q
def gN (i:Nat):PuG (gn3 i):=⟨λd=>some [(i,d)],[i],λh p hp=>by cases h;simp at hp;subst hp;simp,λhx h=>by cases h;exact ⟨_,.cons hx .nil,λτ G q hq=>hq⟩⟩
def XI:PuGs jm:=⟨λds=>match ds with|[]=>some []|_=>none,[],(λh p hp=>by split at h;cases h;cases hp;cases h),λhx h=>by
 split at h
 ·cases h;cases hx;exact ⟨[],.nil,λτ G q hq=>hq⟩
 ·cases h⟩
def zi {t:TG3} {u:SQ} (a:PuG t) (b:PuGs u):PuGs (qx t u):=⟨λds=>match ds with|d::r=>(a.f d).bind λx=>(b.f r).map λy=>x++y|[]=>none,a.tg++b.tg,(λh p hp=>by
 split at h
 ·obtain ⟨x,e1,h⟩:=obb h;obtain ⟨y,e2,rfl⟩:=Option.map_eq_some_iff.mp h;rcases List.mem_append.mp hp with z|z
  ·exact List.mem_append.mpr (.inl (a.at' e1 p z))
  ·exact List.mem_append.mpr (.inr (b.at' e2 p z))
 ·cases h),λhx h=>by
 split at h
 ·obtain ⟨x,e1,h⟩:=obb h;obtain ⟨y,e2,rfl⟩:=Option.map_eq_some_iff.mp h;cases hx with
  |cons hx hr=>
   obtain ⟨ts,b1,k1⟩:=a.ok hx e1;obtain ⟨us,b2,k2⟩:=b.ok hr e2;refine ⟨ts++us,b1.append b2,λτ G q hq=>k1 τ G _ (k2 _ G q ?_)⟩;rw [← LB];exact hq
 ·cases h⟩
def XN {u:SQ} (n:Nat) (b:PuGs u):PuG (jo n u):=⟨λd=>match d with|.tuple ds=>if ds.length=n then b.f ds else none|_=>none,b.tg,(λh p hp=>by
 split at h
 ·split at h
  ·exact b.at' h p hp
  ·cases h
 ·cases h),λhx h=>by
 split at h
 ·split at h
  ·rename_i c;cases hx with
   |tup hs=>
    obtain ⟨ts,b1,k1⟩:=b.ok hs h;exact ⟨ts,b1,λτ G q hq=>⟨by rw [hs.length];exact c,k1 τ G q hq⟩⟩
  ·cases h
 ·cases h⟩
structure VA (D:Addr->Prop) (G:Gp) (τ:St3) (ρ:Rho):Prop where
 len:ρ.length=τ.length
 vw:∀ i d,vw ρ i=some d->∃ t,τ[i]?=some (some t)/\Dq (rs D G) t d
def VA.view {D:Addr->Prop} {G:Gp} {τ:St3} {ρ:Rho} (h:VA D G τ ρ) (fv:List Nat):XD fv D G τ ρ:=λi _ d e=>h.vw i d e
def VA.upx {D:Addr->Prop} {G G':Gp} {τ:St3} {ρ:Rho} (h:VA D G τ ρ) (e:Ex (rs D G) (rs D G')):VA D G' τ ρ:=⟨h.len,λi d hd=>let ⟨t,a,b⟩:=h.vw i d hd;⟨t,a,b.up e⟩⟩
def VA.up {D:Addr->Prop} {G G':Gp} {τ:St3} {ρ:Rho} (h:VA D G τ ρ) (e:Ex G G'):VA D G' τ ρ:=h.upx (Q1 e)
def qfk {ρ:Rho} {i j:Nat} {s:Sl}:vw (ρ.set i s) j=if i=j then (if i<ρ.length then s.d else none) else vw ρ j:=by
 unfold vw;rw [getElem?_set];split
 ·subst j;split
  ·rfl
  ·rfl
 ·rfl
def VA.set {D:Addr->Prop} {G:Gp} {τ:St3} {ρ:Rho} (h:VA D G τ ρ) {i:Nat} {x:T} {d:PyData} (hx:Dq (rs D G) x d):VA D G (τ.set i (some x)) (ρ.set i (.sh d)):=by
 refine ⟨by simp [h.len],λj e he=>?_⟩;rw [qfk] at he;split at he
 ·subst j;split at he
  ·rename_i l;cases he;refine ⟨x,?_,hx⟩;rw [getElem?_set,if_pos rfl,if_pos (by rw [← h.len];exact l)]
  ·cases he
 ·rename_i n;obtain ⟨t,a,b⟩:=h.vw j e he;exact ⟨t,by rw [getElem?_set,if_neg n];exact a,b⟩
def VA.sets {D:Addr->Prop} {G:Gp}:∀ {ts:List (Nat×T)} {bs:List (Nat×PyData)} {τ:St3} {ρ:Rho},VA D G τ ρ->Bd (rs D G) ts bs->VA D G (Pu.sets τ ts) (JI ρ bs)
 |_,_,_,_,h,.nil=>h
 |_,_,_,_,h,.cons a b=>by unfold Pu.sets JI;exact VA.sets (h.set a) b
def VA.keep {D:Addr->Prop} {G:Gp} {ρ:Rho}:∀ {ts:List (Nat×T)} {τ:St3},VA D G τ ρ->(∀ p∈ts,Pu.vw ρ p.1=none)->VA D G (Pu.sets τ ts) ρ
 |[],_,h,_=>h
 |p::r,τ,h,hn=>VA.keep (ts:=r) ⟨by rw [List.length_set];exact h.len,λj d hd=>by
   have:p.1≠j:=by rintro rfl;rw [hn p (by simp)] at hd;cases hd
   obtain ⟨t,a,b⟩:=h.vw j d hd;exact ⟨t,by rw [getElem?_set,if_neg this];exact a,b⟩⟩ λq hq=>hn q (by simp [hq])
def SR (m:List (Option Nat)) (ρ:Rho):Rho:=m.map λo=>match o with|some j=>(match vw ρ j with|some d=>.sh d|none=>.un)|none=>.un
def VA.cap {m:List (Option Nat)} {D:Addr->Prop} {G:Gp} {τ:St3} {ρ:Rho} (h:XD (m.filterMap id) D G τ ρ):VA D G (L3.cap m τ) (SR m ρ):=by
 refine ⟨by simp [SR,L3.cap],λi d hd=>?_⟩;unfold Pu.vw SR at hd;rw [getElem?_map] at hd;cases e:m[i]? with
 |none=>rw [e] at hd;cases hd
 |some o=>
  rw [e] at hd;cases o with
  |none=>cases hd
  |some j=>
   simp only [Option.map_some,Option.bind_some] at hd;cases e2:Pu.vw ρ j with
   |none=>rw [e2] at hd;cases hd
   |some d'=>
    rw [e2] at hd;have hd':d'=d:=by simpa [Sl.d] using hd
    subst hd';obtain ⟨t,a,b⟩:=h j (List.mem_filterMap.mpr ⟨some j,mem_of_getElem? e,rfl⟩) d' e2;refine ⟨t,?_,b⟩;unfold L3.cap;rw [getElem?_map,e];simp [a]
def K1 {m:List (Option Nat)} {ρ:Rho} {i:Nat} (h:m[i]?=some none):vw (SR m ρ) i=none:=by
 unfold vw SR;rw [getElem?_map,h];rfl
def lcP (h:PyData->Option (Option PyData)):List PyData->Option (List PyData)
 |[]=>some []
 |d::r=>(h d).bind λo=>(lcP h r).bind λys=>some (match o with|some y=>y::ys|none=>ys)
def lcH (gf:PyData->Option (List (Nat×PyData))) (cf:Rho->Option Bool) (ef:Rho->Option PyData) (ρ:Rho) (d:PyData):Option (Option PyData):=
 (gf d).bind λbs=>(cf (JI ρ bs)).bind λk=>if k then (ef (JI ρ bs)).map some else some none
def jg {h:PyData->Option (Option PyData)} {α:Type} {g:α->PyData} {k:α->PyData} {xs:List α} (hh:∀ a∈xs,h (g a)=some (some (k a))):lcP h (xs.map g)=some (xs.map k):=by
 induction xs with
 |nil=>rfl
 |cons a r ih=>simp only [map_cons,lcP,hh a (by simp),Option.bind_some,ih λb hb=>hh b (by simp [hb])]
def qcx {H:Gp}:∀ {ts:List (Nat×T)} {bs:List (Nat×PyData)},Bd H ts bs->∀ p∈ts,∃ q∈bs,q.1=p.1
 |_,_,.nil,p,hp=>by cases hp
 |_,_,.cons a b,p,hp=>by
  rcases mem_cons.mp hp with rfl|hp
  ·exact ⟨_,List.mem_cons_self,rfl⟩
  ·obtain ⟨q,hq,e⟩:=qcx b p hp;exact ⟨q,by simp [hq],e⟩
def qgB {stay:Gp->Prop} {g:TG3} {tif:TT3} {te:TE3} {q:Q3} (pg:PuG g) (pc:PuC tif) (pe:PuE te) {D:Addr->Prop} {ρ0:Rho} {G0:Gp} (hs:∀ G,Ex G0 G->stay G) (hm:∀ i∈pg.tg,vw ρ0 i=none) (fin:List PyData) (hfin:fin.length<=sizeLine)
  (k:∀ G ys,Ex G0 G->Dqs (rs D G) ys fin->∀ p,G p=none->q (.ref p) (gu G p (.lst ys))) :
  ∀ (ds:List PyData) (items ys:List T) (es fs:List PyData) (τ:St3) (G:Gp),Dqs (rs D G0) items ds->VA D G τ ρ0->Ex G0 G->Dom D G->Dqs (rs D G) ys es->lcP (lcH pg.f pc.f pe.f ρ0) ds=some fs->es++fs=fin->MN stay g tif te q items ys τ G
 |_,_,ys,es,fs,τ,G,.nil,va,E,hd,hy,hf,hl=>by
  cases hf;rw [List.append_nil] at hl;subst hl;exact ⟨hs G E,k G ys E hy⟩
 |d::ds,x::items,ys,es,fs,τ,G,.cons hx hr,va,E,hd,hy,hf,hl=>by
  unfold lcP at hf;obtain ⟨o,e1,hf⟩:=obb hf;obtain ⟨jw,e2,hf⟩:=obb hf;unfold lcH at e1;obtain ⟨bs,e3,e1⟩:=obb e1;obtain ⟨c,e4,e1⟩:=obb e1;obtain ⟨ts,bd,kg⟩:=pg.ok (hx.up (Q1 E)) e3;refine ⟨hs G E,kg τ G _ ?_⟩;have va1:=va.sets bd;have va2:=va.keep (ts:=ts) λp hp=>by
   obtain ⟨q,hq,e⟩:=qcx bd p hp;rw [← e];exact hm _ (pg.at' e3 q hq)
  refine pc.ok (va1.view _) hd e4 λG1 E1=>?_;cases c with
  |true=>
   rw [if_pos rfl];rw [if_pos rfl] at e1;obtain ⟨y,e5,rfl⟩:=Option.map_eq_some_iff.mp e1;simp only [Option.some.injEq] at hf;subst hf;refine pe.ok ((va1.up E1).view _) (hd.up E1) e5 λz G2 E2 D2 _=>⟨?_,?_⟩
   ·rw [hy.length];rw [← hl] at hfin;simp at hfin;omega
   ·refine qgB pg pc pe hs hm fin hfin k ds items (ys++[z]) (es++[y]) jw _ G2 hr ((va2.up E1).up E2) (E.trans (E1.trans E2)) ((hd.up E1).up E2) (((hy.up (Q1 E1)).up (Q1 E2)).append (.cons D2 .nil)) e2 ?_;rw [← hl];simp
  |false=>
   rw [if_neg Bool.false_ne_true];simp at e1;subst e1;simp only [Option.some.injEq] at hf;subst hf;exact qgB pg pc pe hs hm fin hfin k ds items ys es jw _ G1 hr (va2.up E1) (E.trans E1) (hd.up E1) (hy.up (Q1 E1)) e2 hl
def lcF (pi:Rho->Option (List PyData)) (h:Rho->PyData->Option (Option PyData)) (m:List (Option Nat)) (ρ:Rho):Option PyData:=
 (pi ρ).bind λds=>(lcP (h (SR m ρ)) ds).bind λfs=>cif (fs.length<=sizeLine) (some (.list fs)) none
def bLc {wi:TI3} {g:TG3} {tif:TT3} {te:TE3} (pi:PuI wi) (pg:PuG g) (pc:PuC tif) (pe:PuE te) (m:List (Option Nat)) (hm:Tru (pg.tg.all λi=>m[i]?==some none)):PuE (lc3 wi g tif te m):=
 ⟨lcF pi.f (lcH pg.f pc.f pe.f) m,pi.fv++m.filterMap id,true,λ{D τ ρ G q d} hv hd hf k=>by
  unfold lcF at hf;obtain ⟨ds,e1,hf⟩:=obb hf;obtain ⟨fs,e2,hf⟩:=obb hf;unfold cif at hf;split at hf
  ·rename_i hl;cases hf;refine pi.ok hv.l hd e1 λitems stay G1 E1 D1 hs _=>?_;have va:=(VA.cap (m:=m) hv.r).up E1;refine qgB pg pc pe (D:=D) (ρ0:=SR m ρ) (G0:=G1) (λG2 E2=>hs G2 (.inr (JL.trans E2))) (λi hi=>K1 ?_) fs hl (λG2 ys E2 D2 p hp=>?_) ds items [] [] fs _ G1 D1 va Ex.refl (hd.up E1) .nil e2 (by simp)
   ·have:=List.all_eq_true.mp hm.h i hi;simpa using this
   ·exact k _ _ ((E1.trans E2).trans (V3 hp)) (W0 ((hd.up E1).up E2) hp D2) λ_=>(K7 hp D2).back (E1.trans E2)
  ·cases hf⟩
def E0 (p:Addr) (G G':Gp):Prop:=∀ b o,b≠p->G b=some o->G' b=some o
def E0.refl {p:Addr} {G:Gp}:E0 p G G:=λ_ _ _ e=>e
def E0.trans {p:Addr} {G G1 G2:Gp} (a:E0 p G G1) (b:E0 p G1 G2):E0 p G G2:=λx o n e=>b x o n (a x o n e)
def E0.of {p:Addr} {G G1:Gp} (a:Ex G G1):E0 p G G1:=λx o _ e=>a x o e
def E0.wr {p:Addr} {G:Gp} {o:O}:E0 p G (gu G p o):=λb ob n e=>by rw [jK n];exact e
def E0.rs {p:Addr} {D:Addr->Prop} {G G1:Gp} (a:E0 p G G1):Ex (rs (λb=>D b\/b=p) G) (rs (λb=>D b\/b=p) G1):=λb o h=>by
 obtain ⟨n,h⟩:=qJ h;rw [jP n];exact a b o (λz=>n (.inr z)) h
def qjw {D:Addr->Prop} {G:Gp} {p:Addr} {o:O} (h:Dom D G):Dom D (gu G p o):=λb d z=>by
 by_cases e:b=p
 ·subst e;rw [qG] at z;cases z
 ·rw [jK e] at z;exact h b d z
def qf8 {p:Addr} {stay:Gp->Prop} {g:TG3} {tif:TT3} {te:TE3} {N:St3->Gp->Prop} (pg:PuG g) (pc:PuC tif) (pe:PuE te) {D:Addr->Prop} {ρ0:Rho} {G0:Gp} (hs:∀ G,Ex (rs (λb=>D b\/b=p) G0) G->stay G) (hm:∀ i∈pg.tg,vw ρ0 i=none) (fin:List PyData) (hfin:fin.length<=sizeLine)
  (k:∀ τ G ys,VA (λb=>D b\/b=p) G τ ρ0->E0 p G0 G->Dom (λb=>D b\/b=p) G->G p=some (.lst ys)->Dqs (rs (λb=>D b\/b=p) G) ys fin->N τ G) :
  ∀ (ds:List PyData) (items ys:List T) (es fs:List PyData) (τ:St3) (G:Gp),Dqs (rs (λb=>D b\/b=p) G0) items ds->VA (λb=>D b\/b=p) G τ ρ0->E0 p G0 G->Dom (λb=>D b\/b=p) G->G p=some (.lst ys)->Dqs (rs (λb=>D b\/b=p) G) ys es->lcP (lcH pg.f pc.f pe.f ρ0) ds=some fs->es++fs=fin->qhN p stay g tif te N items τ G
 |_,_,ys,es,fs,τ,G,.nil,va,E,hd,gp,hy,hf,hl=>by
  cases hf;rw [List.append_nil] at hl;subst hl;exact ⟨hs G (E.rs.trans JL),k τ G ys va E hd gp hy⟩
 |d::ds,x::items,ys,es,fs,τ,G,.cons hx hr,va,E,hd,gp,hy,hf,hl=>by
  unfold lcP at hf;obtain ⟨o,e1,hf⟩:=obb hf;obtain ⟨jw,e2,hf⟩:=obb hf;unfold lcH at e1;obtain ⟨bs,e3,e1⟩:=obb e1;obtain ⟨c,e4,e1⟩:=obb e1;obtain ⟨ts,bd,kg⟩:=pg.ok (hx.up E.rs) e3;refine ⟨hs G (E.rs.trans JL),kg τ G _ ?_⟩;have va1:=va.sets bd;have va2:=va.keep (ts:=ts) λp hp=>by
   obtain ⟨q,hq,e⟩:=qcx bd p hp;rw [← e];exact hm _ (pg.at' e3 q hq)
  refine pc.ok (va1.view _) hd e4 λG1 E1=>?_;cases c with
  |true=>
   rw [if_pos rfl];rw [if_pos rfl] at e1;obtain ⟨y,e5,rfl⟩:=Option.map_eq_some_iff.mp e1;simp only [Option.some.injEq] at hf;subst hf;refine pe.ok ((va1.up E1).view _) (hd.up E1) e5 λz G2 E2 D2 _=>?_;simp only [E2 _ _ (E1 _ _ gp)];have W:E0 p G2 (gu G2 p (.lst (ys++[z]))):=E0.wr;refine ⟨?_,?_⟩
   ·rw [hy.length];rw [← hl] at hfin;simp at hfin;omega
   ·refine qf8 pg pc pe hs hm fin hfin k ds items (ys++[z]) (es++[y]) jw _ _ hr (((va2.up E1).up E2).upx W.rs) ((E.trans (E0.of (E1.trans E2))).trans W) (qjw ((hd.up E1).up E2)) qG ((((hy.up (Q1 E1)).up (Q1 E2)).append (.cons D2 .nil)).up W.rs) e2 ?_;rw [← hl];simp
  |false=>
   rw [if_neg Bool.false_ne_true];simp at e1;subst e1;simp only [Option.some.injEq] at hf;subst hf;exact qf8 pg pc pe hs hm fin hfin k ds items ys es jw _ G1 hr (va2.up E1) (E.trans (E0.of E1)) (hd.up E1) (E1 _ _ gp) (hy.up (Q1 E1)) e2 hl
def qgk (h:PyData->Option (Option (List PyData))):List PyData->Option (List PyData)
 |[]=>some []
 |d::r=>(h d).bind λo=>(qgk h r).bind λys=>some (match o with|some y=>y++ys|none=>ys)
def qkm (gf:PyData->Option (List (Nat×PyData))) (cf:Rho->Option Bool) (it:Rho->Option (List PyData)) (h:Rho->PyData->Option (Option PyData)) (ρ:Rho) (d:PyData):Option (Option (List PyData)):=
 (gf d).bind λbs=>(cf (JI ρ bs)).bind λk=>if k then ((it (JI ρ bs)).bind λds=>lcP (h (JI ρ bs)) ds).map some else some none
def KY:∀ {bs:List (Nat×PyData)} {ρ:Rho} {i:Nat},(∀ p∈bs,p.1≠i)->vw (JI ρ bs) i=vw ρ i
 |[],_,_,_=>rfl
 |p::r,ρ,i,h=>by
  unfold JI;rw [KY (λq hq=>h q (by simp [hq])),qfk,if_neg (h p (by simp))]
def MH:∀ (bs:List (Nat×PyData)) (ρ:Rho),(JI ρ bs).length=ρ.length
 |[],τ=>rfl
 |p::r,τ=>by unfold JI;rw [MH r];simp
def qac {p:Addr} {stay:Gp->Prop} {g g2:TG3} {tif tif2:TT3} {wi2:TI3} {te:TE3} {q:Q3} (pg:PuG g) (pc:PuC tif) (pi2:PuI wi2) (pg2:PuG g2) (pc2:PuC tif2) (pe:PuE te) {D:Addr->Prop} {ρ0:Rho} {G0:Gp} (hs:∀ G,Ex (rs (λb=>D b\/b=p) G0) G->stay G) (hm:∀ i∈pg.tg,vw ρ0 i=none) (hm2:∀ i∈pg2.tg,vw ρ0 i=none) (hdj:∀ i∈pg2.tg,i∉pg.tg) (fin:List PyData) (hfin:fin.length<=sizeLine)
  (k:∀ G ys,E0 p G0 G->G p=some (.lst ys)->Dqs (rs (λb=>D b\/b=p) G) ys fin->q (.ref p) G) :
  ∀ (ds:List PyData) (items ys:List T) (es fs:List PyData) (τ:St3) (G:Gp),Dqs (rs (λb=>D b\/b=p) G0) items ds->VA (λb=>D b\/b=p) G τ ρ0->E0 p G0 G->Dom (λb=>D b\/b=p) G->G p=some (.lst ys)->Dqs (rs (λb=>D b\/b=p) G) ys es->qgk (qkm pg.f pc.f pi2.f (lcH pg2.f pc2.f pe.f) ρ0) ds=some fs->es++fs=fin->MV p stay g tif wi2 g2 tif2 te q items τ G
 |_,_,ys,es,fs,τ,G,.nil,va,E,hd,gp,hy,hf,hl=>by
  cases hf;rw [List.append_nil] at hl;subst hl;exact ⟨hs G (E.rs.trans JL),k G ys E gp hy⟩
 |d::ds,x::items,ys,es,fs,τ,G,.cons hx hr,va,E,hd,gp,hy,hf,hl=>by
  unfold qgk at hf;obtain ⟨o,e1,hf⟩:=obb hf;obtain ⟨jw,e2,hf⟩:=obb hf;unfold qkm at e1;obtain ⟨bs,e3,e1⟩:=obb e1;obtain ⟨c,e4,e1⟩:=obb e1;obtain ⟨ts,bd,kg⟩:=pg.ok (hx.up E.rs) e3;refine ⟨hs G (E.rs.trans JL),kg τ G _ ?_⟩;have va1:=va.sets bd;have va2:=va.keep (ts:=ts) λp hp=>by
   obtain ⟨q,hq,e⟩:=qcx bd p hp;rw [← e];exact hm _ (pg.at' e3 q hq)
  refine pc.ok (va1.view _) hd e4 λG1 E1=>?_;cases c with
  |true=>
   rw [if_pos rfl];rw [if_pos rfl] at e1;obtain ⟨y,e5,rfl⟩:=Option.map_eq_some_iff.mp e1;obtain ⟨ds2,e6,e5⟩:=obb e5;simp only [Option.some.injEq] at hf;subst hf;refine pi2.ok ((va1.up E1).view _) (hd.up E1) e6 λitems2 stay2 G2 E2 D2 hs2 _=>?_;have l2:(es++y).length<=sizeLine:=by
    rw [← hl] at hfin;simp at hfin ⊢;omega
   refine qf8 pg2 pc2 pe (ρ0:=JI ρ0 bs) (G0:=G2) (λG3 E3=>hs2 G3 (.inr E3)) (λi hi=>?_) (es++y) l2 (λτ3 G3 zs va3 E3 hd3 gp3 hz=>?_) ds2 items2 ys es y _ G2 D2 ((va1.up E1).up E2) E0.refl ((hd.up E1).up E2) (E2 _ _ (E1 _ _ gp)) ((hy.up (Q1 E1)).up (Q1 E2)) e5 rfl
   ·rw [KY λq hq e=>hdj i hi (by rw [← e];exact pg.at' e3 q hq)];exact hm2 i hi
   ·have E4:E0 p G G3:=(E0.of (E1.trans E2)).trans E3;have va4:VA (λb=>D b\/b=p) G3 τ3 ρ0:=⟨by rw [← va3.len,MH],λi d' hd'=>va3.vw i d' (by
     rw [KY λq hq e=>?_];exact hd';rw [← e,hm _ (pg.at' e3 q hq)] at hd';cases hd')⟩
    exact qac pg pc pi2 pg2 pc2 pe hs hm hm2 hdj fin hfin k ds items zs (es++y) jw τ3 G3 hr va4 (E.trans E4) hd3 gp3 hz e2 (by rw [← hl];simp)
  |false=>
   rw [if_neg Bool.false_ne_true];simp at e1;subst e1;simp only [Option.some.injEq] at hf;subst hf;exact qac pg pc pi2 pg2 pc2 pe hs hm hm2 hdj fin hfin k ds items ys es jw _ G1 hr (va2.up E1) (E.trans (E0.of E1)) (hd.up E1) (E1 _ _ gp) (hy.up (Q1 E1)) e2 hl
def qle (pi:Rho->Option (List PyData)) (h:Rho->PyData->Option (Option (List PyData))) (m:List (Option Nat)) (ρ:Rho):Option PyData:=
 (pi ρ).bind λds=>(qgk (h (SR m ρ)) ds).bind λfs=>cif (fs.length<=sizeLine) (some (.list fs)) none
def MD {h:PyData->Option (Option (List PyData))} {α:Type} {g:α->PyData} {k:α->List PyData} {xs:List α} (hh:∀ a∈xs,h (g a)=some (some (k a))):qgk h (xs.map g)=some (xs.flatMap k):=by
 induction xs with
 |nil=>rfl
 |cons a r ih=>simp only [map_cons,qgk,hh a (by simp),Option.bind_some,ih λb hb=>hh b (by simp [hb]),List.flatMap_cons]
def qmq {wi wi2:TI3} {g g2:TG3} {tif tif2:TT3} {te:TE3} (pi:PuI wi) (pg:PuG g) (pc:PuC tif) (pi2:PuI wi2) (pg2:PuG g2) (pc2:PuC tif2) (pe:PuE te) (m:List (Option Nat)) (hm:Tru (pg.tg.all λi=>m[i]?==some none)) (hm2:Tru (pg2.tg.all λi=>m[i]?==some none)) (hdj:Tru (pg2.tg.all λi=>!pg.tg.contains i)):PuE (qfi wi g tif wi2 g2 tif2 te m):=
 ⟨qle pi.f (qkm pg.f pc.f pi2.f (lcH pg2.f pc2.f pe.f)) m,pi.fv++m.filterMap id,true,λ{D τ ρ G q d} hv hd hf k=>by
  unfold qle at hf;obtain ⟨ds,e1,hf⟩:=obb hf;obtain ⟨fs,e2,hf⟩:=obb hf;unfold cif at hf;split at hf
  ·rename_i hl;cases hf;refine pi.ok hv.l hd e1 λitems stay G1 E1 D1 hs _ p hp=>?_;have va:=(VA.cap (m:=m) hv.r).up E1;have np:∀ {b o},G1 b=some o->b≠p:=λe=>by rintro rfl;rw [hp] at e;cases e
   have X1:Ex (rs D G1) (rs (λb=>D b\/b=p) (gu G1 p (.lst []))):=λb o e=>by
    obtain ⟨n,e⟩:=qJ e;rw [jP (by rintro (z|z);exact n z;exact np e z),jK (np e)];exact e
   refine qac pg pc pi2 pg2 pc2 pe (D:=D) (ρ0:=SR m ρ) (G0:=gu G1 p (.lst [])) (p:=p) (λG2 E2=>hs G2 (.inr (X1.trans E2))) (λi hi=>K1 ?_) (λi hi=>K1 ?_) (λi hi hj=>?_) fs hl (λG2 ys E2 gp D2=>?_) ds items [] [] fs _ _ (D1.up X1) ⟨va.len,λi d hd=>let ⟨t,a,b⟩:=va.vw i d hd;⟨t,a,b.up X1⟩⟩ E0.refl ?_ qG .nil e2 (by simp)
   ·simpa using List.all_eq_true.mp hm.h i hi
   ·simpa using List.all_eq_true.mp hm2.h i hi
   ·have:=List.all_eq_true.mp hdj.h i hi;simp at this;exact this hj
   ·have EE:Ex G1 G2:=λb o e=>E2 b o (np e) (by rw [jK (np e)];exact e);have hdp:¬ D p:=λz=>(hd.up E1) p z hp;refine k _ _ (E1.trans EE) (.lst (by rw [jP hdp];exact gp) (D2.up (jc λb z=>.inl z))) λ_=>Nw.back (.inr ⟨p,ys,fs,rfl,rfl,hp,gp,D2⟩) E1
   ·intro b hb z;by_cases e:b=p
    ·subst e;rw [qG] at z;cases z
    ·rw [jK e] at z;rcases hb with hb|hb
     ·exact (hd.up E1) b hb z
     ·exact e hb
  ·cases hf⟩
def AD (D:Addr->Prop) (A:Nat->Option Addr) (b:Addr):Prop:=D b\/∃ i,A i=some b
structure RS (D:Addr->Prop) (G0:Gp) (A:Nat->Option Addr) (τ:St3) (ρ:Rho) (G:Gp):Prop where
 ex:Ex G0 G
 dm:Dom D G0
 fr:∀ i p,A i=some p->G0 p=none
 da:∀ i p,A i=some p->G p≠none
 inj:∀ i j p,A i=some p->A j=some p->i=j
 len:ρ.length=τ.length
 sh:∀ (i:Nat) (d:PyData),ρ[i]?=some (Sl.sh d)->∃ t,τ[i]?=some (some t)/\Dq (rs (AD D A) G) t d
 ow:∀ (i:Nat) (ds:List PyData),ρ[i]?=some (Sl.ow ds)->∃ p xs,A i=some p/\τ[i]?=some (some (.ref p))/\G p=some (.lst xs)/\Dqs (rs (AD D A) G) xs ds
section
variable {D:Addr->Prop} {G0 G G':Gp} {A A':Nat->Option Addr} {τ:St3} {ρ:Rho}
def RS.nd (h:RS D G0 A τ ρ G) {i:Nat} {p:Addr} (e:A i=some p):¬ D p:=λz=>h.dm p z (h.fr i p e)
def RS.dom (h:RS D G0 A τ ρ G):Dom (AD D A) G:=λb hb=>by
 rcases hb with hb|⟨i,hi⟩
 ·exact (h.dm.up h.ex) b hb
 ·exact h.da i b hi
def RS.domD (h:RS D G0 A τ ρ G):Dom D G:=h.dm.up h.ex
def RS.up (h:RS D G0 A τ ρ G) (e:Ex G G'):RS D G0 A τ ρ G':=
 ⟨h.ex.trans e,h.dm,h.fr,λi p a z=>(h.da i p a) (by
  cases g:G p with
  |none=>rfl
  |some o=>rw [e _ _ g] at z;cases z),h.inj,h.len,λi d a=>let ⟨t,b,c⟩:=h.sh i d a;⟨t,b,c.up (Q1 e)⟩,λi ds a=>let ⟨p,xs,b,c,d,f⟩:=h.ow i ds a;⟨p,xs,b,c,e _ _ d,f.up (Q1 e)⟩⟩
def RS.viewAll (h:RS D G0 A τ ρ G) (fv:List Nat):XD fv D G τ ρ:=λi _ d hd=>by
 unfold vw at hd;obtain ⟨s,e,hd⟩:=obb hd;have less:Ex (rs (AD D A) G) (rs D G):=jc λb z=>.inl z;cases s with
 |un=>cases hd
 |sh d'=>
  cases hd;obtain ⟨t,b,c⟩:=h.sh i _ e;exact ⟨t,b,c.up less⟩
 |ow ds=>
  cases hd;obtain ⟨p,xs,b,c,g,f⟩:=h.ow i _ e;exact ⟨_,c,.lst (by rw [jP (h.nd b)];exact g) (f.up less)⟩
def RS.view (h:RS D G0 A τ ρ G) {fv:List Nat} (hn:∀ i∈fv,A i=none):XD fv (AD D A) G τ ρ:=λi hi d hd=>by
 unfold vw at hd;obtain ⟨s,e,hd⟩:=obb hd;cases s with
 |un=>cases hd
 |sh d'=>
  cases hd;exact h.sh i _ e
 |ow ds=>
  obtain ⟨p,xs,b,_⟩:=h.ow i _ e;rw [hn i hi] at b;cases b
def Sl.dem:Sl->Sl
 |.ow ds=>.sh (.list ds)
 |s=>s
def dm:List Bool->Rho->Rho
 |b::m,s::r=>(match b with|true=>s.dem|false=>s)::dm m r
 |_,r=>r
def mkb (m:List Bool) (i:Nat):Bool:=(m[i]?).getD false
def qa0:∀ (m:List Bool) (ρ:Rho) (i:Nat),(dm m ρ)[i]?=(ρ[i]?).map λs=>if mkb m i=true then s.dem else s
 |[],ρ,i=>by simp [dm,mkb]
 |b::m,[],i=>by simp [dm]
 |b::m,s::r,0=>by cases b<;>simp [dm,mkb]
 |b::m,s::r,i+1=>by
  have:=qa0 m r i;simp only [dm,getElem?_cons_succ,mkb] at this ⊢;exact this
def qmM (s:Sl):s.dem.d=s.d:=by cases s<;>rfl
def qoz (m:List Bool) (ρ:Rho) (i:Nat):vw (dm m ρ) i=vw ρ i:=by
 unfold vw;rw [qa0];cases ρ[i]? with
 |none=>rfl
 |some s=>
  simp only [Option.map_some,Option.bind_some];split
  ·exact qmM s
  ·rfl
def qdC:∀ (m:List Bool) (ρ:Rho),(dm m ρ).length=ρ.length
 |[],ρ=>rfl
 |b::m,[]=>rfl
 |b::m,s::r=>by simp [dm,qdC m r]
def Ad (m:List Bool) (A:Nat->Option Addr):Nat->Option Addr:=λi=>if mkb m i=true then none else A i
def D9 {m:List Bool} {i:Nat} {p:Addr} (h:Ad m A i=some p):A i=some p/\mkb m i=false:=by
 unfold Ad at h;split at h
 ·cases h
 ·rename_i n;exact ⟨h,by simpa using n⟩
def RS.dem (h:RS D G0 A τ ρ G) (m:List Bool):RS D G0 (Ad m A) τ (Pu.dm m ρ) G:=by
 have less:Ex (rs (AD D A) G) (rs (AD D (Ad m A)) G):=jc λb z=>by
  rcases z with z|⟨i,z⟩
  ·exact .inl z
  ·exact .inr ⟨i,(D9 z).1⟩
 refine ⟨h.ex,h.dm,λi p e=>h.fr i p (D9 e).1,λi p e=>h.da i p (D9 e).1,λi j p a b=>h.inj i j p (D9 a).1 (D9 b).1,by rw [qdC];exact h.len,λi d e=>?_,λi ds e=>?_⟩
 ·rw [qa0] at e;obtain ⟨s,e1,e2⟩:=Option.map_eq_some_iff.mp e;cases s with
  |un=>split at e2<;>cases e2
  |sh d'=>
   have:d'=d:=by split at e2<;>(cases e2;rfl)
   subst this;obtain ⟨t,b,c⟩:=h.sh i _ e1;exact ⟨t,b,c.up less⟩
  |ow ds=>
   split at e2
   ·rename_i hm;cases e2;obtain ⟨p,xs,b,c,g,f⟩:=h.ow i _ e1;refine ⟨_,c,.lst ?_ (f.up less)⟩;rw [jP]
    ·exact g
    ·rintro (z|⟨j,z⟩)
     ·exact h.nd b z
     ·have:=h.inj i j p b (D9 z).1;subst this;rw [(D9 z).2] at hm;cases hm
   ·cases e2
 ·rw [qa0] at e;obtain ⟨s,e1,e2⟩:=Option.map_eq_some_iff.mp e;cases s with
  |un=>split at e2<;>cases e2
  |sh d'=>split at e2<;>cases e2
  |ow ds'=>
   split at e2
   ·cases e2
   ·rename_i hm;cases e2;obtain ⟨p,xs,b,c,g,f⟩:=h.ow i _ e1;exact ⟨p,xs,by unfold Ad;rw [if_neg hm];exact b,c,g,f.up less⟩
def RS.viewD (h:RS D G0 A τ ρ G) {m:List Bool} {fv:List Nat} (hm:Tru (fv.all (mkb m))):XD fv (AD D (Ad m A)) G τ ρ:=by
 have:=(h.dem m).view (fv:=fv) λi hi=>by unfold Ad;rw [if_pos (List.all_eq_true.mp hm.h i hi)]
 intro i hi d hd;exact this i hi d (by rw [qoz];exact hd)
def Er (A:Nat->Option Addr) (i:Nat):Nat->Option Addr:=λj=>if j=i then none else A j
def DS {i j:Nat} {p:Addr} (h:Er A i j=some p):A j=some p/\j≠i:=by
 unfold Er at h;split at h
 ·cases h
 ·rename_i n;exact ⟨h,n⟩
def RS.put (h:RS D G0 A τ ρ G) (i:Nat) {x:T} {d:PyData} (hx:Dq (rs (AD D A) G) x d):RS D G0 (Er A i) (τ.set i (some x)) (ρ.set i (.sh d)) G:=by
 have less:Ex (rs (AD D A) G) (rs (AD D (Er A i)) G):=jc λb z=>by
  rcases z with z|⟨j,z⟩
  ·exact .inl z
  ·exact .inr ⟨j,(DS z).1⟩
 refine ⟨h.ex,h.dm,λj p e=>h.fr j p (DS e).1,λj p e=>h.da j p (DS e).1,λj k p a b=>h.inj j k p (DS a).1 (DS b).1,by simp [h.len],λj e he=>?_,λj ds e=>?_⟩
 ·rw [getElem?_set] at he ⊢;split at he
  ·rename_i hj;rw [if_pos hj];split at he
   ·rename_i hl;cases he;exact ⟨x,by rw [if_pos (by rw [← h.len];exact hl)],hx.up less⟩
   ·cases he
  ·rename_i hj;rw [if_neg hj];obtain ⟨t,b,c⟩:=h.sh j _ he;exact ⟨t,b,c.up less⟩
 ·rw [getElem?_set] at e ⊢;split at e
  ·split at e<;>cases e
  ·rename_i hj;rw [if_neg hj];obtain ⟨p,xs,b,c,g,f⟩:=h.ow j _ e;exact ⟨p,xs,by unfold Er;rw [if_neg (λz=>hj z.symm)];exact b,c,g,f.up less⟩
def RS.puts:∀ {ts:List (Nat×T)} {bs:List (Nat×PyData)} {A:Nat->Option Addr} {τ:St3} {ρ:Rho},RS D G0 A τ ρ G->Bd (rs (AD D A) G) ts bs->∃ A',RS D G0 A' (sets τ ts) (JI ρ bs) G
 |_,_,A,_,_,h,.nil=>⟨A,h⟩
 |_,_,A,_,_,h,.cons (i:=i) a b=>by
  unfold sets JI;exact RS.puts (h.put i a) (b.up (jc λb z=>by
   rcases z with z|⟨j,z⟩
   ·exact .inl z
   ·exact .inr ⟨j,(DS z).1⟩))
def RS.putN (h:RS D G0 A τ ρ G) (i:Nat) {x:T} {d:PyData} {ds:List PyData} (hd:d=.list ds) (E:Ex G G') (hx:Nw (AD D A) G G' x d):RS D G0 (λj=>if j=i then (match x with|.ref p=>some p|_=>none) else A j) (τ.set i (some x)) (ρ.set i (.ow ds)) G':=by
 rcases hx with hx|⟨p,xs,ds',rfl,e',gp,gp',hs⟩
 ·rw [hd] at hx;cases hx
 rw [hd] at e';cases e';have np:∀ {j q},A j=some q->q≠p:=λe=>by rintro rfl;exact h.da _ _ e gp
 have X1:Ex (rs (AD D A) G) (rs (AD D (λj=>if j=i then some p else A j)) G'):=λb o e=>by
  obtain ⟨n,e⟩:=qJ e;rw [jP]
  ·exact E _ _ e
  ·rintro (z|⟨j,z⟩)
   ·exact n (.inl z)
   ·simp only at z;split at z
    ·cases z;rw [gp] at e;cases e
    ·exact n (.inr ⟨j,z⟩)
 refine ⟨h.ex.trans E,h.dm,λj q e=>?_,λj q e=>?_,λj k q a b=>?_,by simp [h.len],λj e he=>?_,λj es e=>?_⟩
 ·simp only at e;split at e
  ·cases e;cases z:G0 p with
   |none=>rfl
   |some o=>rw [h.ex _ _ z] at gp;cases gp
  ·exact h.fr j q e
 ·simp only at e;split at e
  ·cases e;rw [gp'];simp
  ·exact (h.up E).da j q e
 ·simp only at a b;split at a
  ·cases a;split at b
   ·rename_i h1 h2;rw [h1,h2]
   ·exact absurd rfl (np b)
  ·split at b
   ·cases b;exact absurd rfl (np a)
   ·exact h.inj j k q a b
 ·rw [getElem?_set] at he ⊢;split at he
  ·split at he<;>cases he
  ·rename_i hj;rw [if_neg hj];obtain ⟨t,b,c⟩:=h.sh j _ he;exact ⟨t,b,c.up X1⟩
 ·rw [getElem?_set] at e ⊢;split at e
  ·rename_i hj;subst hj;split at e
   ·rename_i hl;cases e;refine ⟨p,xs,by simp,by rw [if_pos rfl,if_pos (by rw [← h.len];exact hl)],gp',hs.up (jc λb z=>?_)⟩;rcases z with z|⟨j,z⟩
    ·exact .inl (.inl z)
    ·simp only at z;split at z
     ·cases z;exact .inr rfl
     ·exact .inl (.inr ⟨j,z⟩)
   ·cases e
  ·rename_i hj;rw [if_neg hj];obtain ⟨q,ys,b,c,g,f⟩:=h.ow j _ e;exact ⟨q,ys,by rw [if_neg (λz=>hj z.symm)];exact b,c,E _ _ g,f.up X1⟩
def RS.wr (h:RS D G0 A τ ρ G) {i:Nat} {p:Addr} {xs:List T} {ds:List PyData} (hi:A i=some p) (ht:τ[i]?=some (some (.ref p))) (hs:Dqs (rs (AD D A) G) xs ds):RS D G0 A τ (ρ.set i (.ow ds)) (gu G p (.lst xs)):=by
 have X1:Ex (rs (AD D A) G) (rs (AD D A) (gu G p (.lst xs))):=λb o e=>by
  obtain ⟨n,e⟩:=qJ e;rw [jP n,jK (by rintro rfl;exact n (.inr ⟨i,hi⟩))];exact e
 refine ⟨λb o e=>?_,h.dm,h.fr,λj q e=>?_,h.inj,by simp [h.len],λj e he=>?_,λj es e=>?_⟩
 ·rw [jK (by rintro rfl;rw [h.fr i _ hi] at e;cases e)];exact h.ex _ _ e
 ·by_cases z:q=p
  ·subst z;rw [qG];simp
  ·rw [jK z];exact h.da j q e
 ·rw [getElem?_set] at he;split at he
  ·split at he<;>cases he
  ·obtain ⟨t,b,c⟩:=h.sh j _ he;exact ⟨t,b,c.up X1⟩
 ·rw [getElem?_set] at e;split at e
  ·rename_i hj;subst hj;split at e
   ·cases e;exact ⟨p,xs,hi,ht,qG,hs.up X1⟩
   ·cases e
  ·rename_i hj;obtain ⟨q,ys,b,c,g,f⟩:=h.ow j _ e;exact ⟨q,ys,b,c,by rw [jK (by rintro rfl;exact hj (h.inj i j _ hi b))];exact g,f.up X1⟩
def RS.base {Gb:Gp} (h:RS D Gb A τ ρ G) (e:Ex G0 Gb) (hd:Dom D G0):RS D G0 A τ ρ G:=
 ⟨e.trans h.ex,hd,(λi p a=>by
  cases z:G0 p with
  |none=>rfl
  |some o=>have:=h.fr i p a;rw [e _ _ z] at this;cases this),h.da,h.inj,h.len,h.sh,h.ow⟩
end
inductive Ot where
 |nx (ρ:Rho)|bk (ρ:Rho)|ct (ρ:Rho)|rt (d:PyData) (fr:Bool)
def qiA (D:Addr->Prop) (G0:Gp) (e:Ends3):Ot->Prop
 |.nx ρ=>∀ A τ G,RS D G0 A τ ρ G->e.nx τ G
 |.bk ρ=>∀ A τ G,RS D G0 A τ ρ G->e.bk τ G
 |.ct ρ=>∀ A τ G,RS D G0 A τ ρ G->e.ct τ G
 |.rt d fr=>∀ x G,Ex G0 G->Dq (rs D G) x d->(fr=true->Nw D G0 G x d)->e.rt x G
def qiA.base {D:Addr->Prop} {G0 Gb:Gp} {e:Ends3} {o:Ot} (h:qiA D G0 e o) (x:Ex G0 Gb) (hd:Dom D G0):qiA D Gb e o:=by
 cases o with
 |nx ρ=>exact λA τ G r=>h A τ G (r.base x hd)
 |bk ρ=>exact λA τ G r=>h A τ G (r.base x hd)
 |ct ρ=>exact λA τ G r=>h A τ G (r.base x hd)
 |rt d fr=>exact λy G a b c=>h y G (x.trans a) b λz=>(c z).back x
structure PuS (t:TS3) where
 f:Nat->Rho->Option Ot
 ok:∀ {D G0 A τ ρ G n o} {e:Ends3},RS D G0 A τ ρ G->f n ρ=some o->qiA D G0 e o->t e τ G
def QA:PuS qL:=⟨λ_ ρ=>some (.nx ρ),λh hf k=>by cases hf;exact k _ _ _ h⟩
def qpP:PuS qhG:=⟨λ_ ρ=>none,λh hf k=>by cases hf⟩
def qms (a b:Nat->Rho->Option Ot) (n:Nat) (ρ:Rho):Option Ot:=(a n ρ).bind λo=>match o with|.nx ρ'=>b n ρ'|o=>some o
def QV {t u:TS3} (a:PuS t) (b:PuS u):PuS (qR t u):=⟨qms a.f b.f,λ{D G0 A τ ρ G n o e} h hf k=>by
 unfold qms at hf;obtain ⟨o1,e1,hf⟩:=obb hf;refine a.ok h e1 ?_;cases o1 with
 |nx ρ'=>exact λA' τ' G' h'=>b.ok h' hf k
 |bk ρ'=>cases hf;exact k
 |ct ρ'=>cases hf;exact k
 |rt d fr=>cases hf;exact k⟩
def sIf {c:TT3} {t u:TS3} (pc:PuC c) (a:PuS t) (b:PuS u):PuS (zZ c t u):=⟨λn ρ=>(pc.f ρ).bind λk=>if k then a.f n ρ else b.f n ρ,λh hf k=>by
 obtain ⟨o1,e1,hf⟩:=obb hf;refine pc.ok (h.viewAll _) h.domD e1 λG1 E1=>?_;cases o1 with
 |true=>exact a.ok (h.up E1) hf k
 |false=>exact b.ok (h.up E1) hf k⟩
def ZR {t:TE3} (a:PuE t):PuS (qT t):=⟨λ_ ρ=>(a.f ρ).map λd=>.rt d a.nw,λh hf k=>by
 obtain ⟨d,e1,rfl⟩:=Option.map_eq_some_iff.mp hf;exact a.ok (h.viewAll _) h.domD e1 λx G1 E1 D1 N1=>k x G1 (h.ex.trans E1) D1 λz=>(N1 z).back h.ex⟩
def qf7 (ρ:Rho) (i:Nat):Option Ot:=match ρ[i]? with|some (.ow ds)=>some (.rt (.list ds) true)|some (.sh d)=>some (.rt d false)|_=>none
def qcG (i:Nat):PuS (qT (v3 i)):=⟨λ_ ρ=>qf7 ρ i,λh hf k=>by
 unfold qf7 at hf;split at hf
 ·rename_i ds e;cases hf;obtain ⟨p,xs,b,c,g,f⟩:=h.ow i _ e;simp only [qT,v3,c];refine k _ _ h.ex (.lst (by rw [jP (h.nd b)];exact g) (f.up (jc λb z=>.inl z))) λ_=>.inr ⟨p,xs,ds,rfl,rfl,h.fr i p b,g,f.up (jc λq z=>?_)⟩;rcases z with z|z
  ·exact .inl z
  ·subst z;exact .inr ⟨i,b⟩
 ·rename_i d e;cases hf;obtain ⟨t,b,c⟩:=h.sh i _ e;simp only [qT,v3,b];exact k _ _ h.ex (c.up (jc λb z=>.inl z)) (λz=>by cases z)
 ·cases hf⟩
def qfc:PyData->Bool
 |.none=>true|.bool _=>true|.int _=>true|.str _=>true|_=>false
def XA {H H':Gp} {x:T} {d:PyData} (h:Dq H x d) (s:qfc d=true):Dq H' x d:=by
 cases h<;>first|(constructor;done)|(simp [qfc] at s;done)
def qps:PyData->Sl
 |.list ds=>.ow ds
 |d=>.sh d
def NR (m:List Bool) (nw:Bool) (i:Nat) (d:PyData) (ρ:Rho):Rho:=if qfc d then ρ.set i (.sh d) else (dm m ρ).set i (if nw then qps d else .sh d)
def NQ {t:TE3} (a:PuE t) (i:Nat) (m:List Bool) (hm:Tru (a.fv.all (mkb m))):PuS (zn t (gn3 i)):=⟨λ_ ρ=>(a.f ρ).map λd=>.nx (NR m a.nw i d ρ),λ{D G0 A τ ρ G n o e} h hf k=>by
 obtain ⟨d,e1,rfl⟩:=Option.map_eq_some_iff.mp hf;refine a.ok (h.viewD hm) (h.dem m).dom e1 λx G1 E1 D1 N1=>?_;unfold NR at k;show e.nx (τ.set i (some x)) G1;split at k
 ·rename_i hs;exact k _ _ _ ((h.up E1).put i (XA D1 hs))
 ·split at k
  ·rename_i hn;have N:=N1 hn;rcases id N with h2|⟨p,xs,ds,h1,h2,_⟩
   ·subst h2;rename_i hs;exact absurd rfl hs
   subst h2;exact k _ _ _ ((h.dem m).putN i rfl E1 N)
  ·exact k _ _ _ (((h.dem m).up E1).put i D1)⟩
def S5 {t:TE3} {g:TG3} (a:PuE t) (pg:PuG g) (m:List Bool) (hm:Tru (a.fv.all (mkb m))):PuS (zn t g):=⟨λ_ ρ=>(a.f ρ).bind λd=>(pg.f d).map λbs=>.nx (JI (dm m ρ) bs),λ{D G0 A τ ρ G n o e} h hf k=>by
 obtain ⟨d,e1,hf⟩:=obb hf;obtain ⟨bs,e2,rfl⟩:=Option.map_eq_some_iff.mp hf;refine a.ok (h.viewD hm) (h.dem m).dom e1 λx G1 E1 D1 N1=>?_;obtain ⟨ts,bd,kg⟩:=pg.ok D1 e2;refine kg _ _ _ ?_;obtain ⟨A',h'⟩:=((h.dem m).up E1).puts bd;exact k _ _ _ h'⟩
def qmn (i j:Nat) (m:List Bool) (ds:List PyData) (ρ:Rho):Option Ot:=match ds with
 |[d,e]=>if qfc d&&qfc e then some (.nx ((ρ.set i (.sh d)).set j (.sh e))) else some (.nx (((dm m ρ).set i (.sh d)).set j (.sh e)))
 |_=>none
def qlH {D:Addr->Prop} {A:Nat->Option Addr} {G:Gp} {i:Nat}:Ex (rs (AD D A) G) (rs (AD D (Er A i)) G):=jc λb z=>by
 rcases z with z|⟨j,z⟩
 ·exact .inl z
 ·exact .inr ⟨j,(DS z).1⟩
def qmD {t:TA3} (a:PuA t) (i j:Nat) (m:List Bool) (hm:Tru (a.fv.all (mkb m))):PuS (CC i j t):=⟨λ_ ρ=>(a.f ρ).bind λds=>qmn i j m ds ρ,λ{D G0 A τ ρ G n o e} h hf k=>by
 obtain ⟨ds,e1,hf⟩:=obb hf;refine a.ok (h.viewD hm) (h.dem m).dom e1 λx G1 E1 D1=>?_;unfold qmn at hf;split at hf
 ·cases D1 with
  |cons a b=>cases b with
   |cons b c=>
    cases c;split at hf
    ·rename_i hs;cases hf;rw [Bool.and_eq_true] at hs;exact k _ _ _ (((h.up E1).put i (XA a hs.1)).put j (XA b hs.2))
    ·cases hf;exact k _ _ _ ((((h.dem m).up E1).put i a).put j (b.up qlH))
 ·cases hf⟩
def slot (ρ:Rho) (i:Nat):Option (List PyData):=match ρ[i]? with|some (.ow ds)=>some ds|_=>none
def qgh {ρ:Rho} {i:Nat} {ds:List PyData} (h:slot ρ i=some ds):ρ[i]?=some (.ow ds):=by
 unfold slot at h;split at h
 ·rename_i e;cases h;exact e
 ·cases h
def dmS (m:List Bool) (d:PyData) (ρ:Rho):Rho:=if qfc d then ρ else dm m ρ
def RS.evalS {D:Addr->Prop} {G0 G:Gp} {A:Nat->Option Addr} {τ:St3} {ρ:Rho} (h:RS D G0 A τ ρ G) {t:TE3} (a:PuE t) (m:List Bool) (hm:Tru (a.fv.all (mkb m))) {d:PyData} (hf:a.f ρ=some d):∃ A1,RS D G0 A1 τ (dmS m d ρ) G/\∀ q:Q3,(∀ x G',Ex G G'->Dq (rs (AD D A1) G') x d->q x G')->t τ G q:=by
 unfold dmS;by_cases hs:qfc d=true
 ·rw [if_pos hs];exact ⟨A,h,λq k=>a.ok (h.viewAll _) h.domD hf λx G1 E1 D1 _=>k x G1 E1 (XA D1 hs)⟩
 ·rw [if_neg hs];exact ⟨Ad m A,h.dem m,λq k=>a.ok (h.viewD hm) (h.dem m).dom hf λx G1 E1 D1 _=>k x G1 E1 D1⟩
def qkO (i:Nat) (d:PyData) (ρ:Rho):Option Ot:=match d with|.list es=>(slot ρ i).bind λds=>cif (ds.length+es.length<=sizeLine) (some (.nx (ρ.set i (.ow (ds++es))))) none|_=>none
def qmJ {t:TE3} (a:PuE t) (i:Nat) (m:List Bool) (hm:Tru (a.fv.all (mkb m))):PuS (WR (bm3 qcb (v3 i) (qc t qk))):=⟨λ_ ρ=>(a.f ρ).bind λd=>qkO i d (dmS m d ρ),λ{D G0 A τ ρ G n o e} h hf k=>by
 obtain ⟨d,e1,hf⟩:=obb hf;obtain ⟨A1,h1,ev⟩:=h.evalS a m hm e1;unfold qkO at hf;split at hf
 ·obtain ⟨ds,e2,hf⟩:=obb hf;unfold cif at hf;split at hf
  ·rename_i hl;cases hf;obtain ⟨p,xs,b,c,g,f⟩:=h1.ow i _ (qgh e2);simp only [WR,bm3,v3,c,zD g];refine ⟨rfl,ev _ λx G1 E1 D1=>?_⟩;cases D1 with
   |lst g2 hs2=>
    simp only [qk,qcb,E1 _ _ g,(qJ g2).2];exact ⟨by rw [f.length,hs2.length];exact hl,k _ _ _ ((h1.up E1).wr b c ((f.up (Q1 E1)).append hs2))⟩
  ·cases hf
 ·cases hf⟩
def N2 (gf:PyData->Option (List (Nat×PyData))) (bf:Rho->Option Ot):List PyData->Rho->Option Ot
 |[],ρ=>some (.nx ρ)
 |d::r,ρ=>(gf d).bind λbs=>(bf (JI ρ bs)).bind λo=>match o with
  |.nx ρ'=>N2 gf bf r ρ'
  |.ct ρ'=>N2 gf bf r ρ'
  |.bk ρ'=>some (.nx ρ')
  |.rt d b=>some (.rt d b)
def LL {stay:Gp->Prop} {g:TG3} {tb:TS3} {e:Ends3} (pg:PuG g) (pb:PuS tb) {D:Addr->Prop} {G0:Gp} {n:Nat} {o:Ot} {items0:List T} (hs:∀ A τ ρ G,RS D G0 A τ ρ G->stay G) (k:qiA D G0 e o) :
  ∀ (ds:List PyData) (items:List T),(∀ A τ ρ G,RS D G0 A τ ρ G->Dqs (rs (AD D A) G) items ds)->∀ A τ ρ G,RS D G0 A τ ρ G->N2 pg.f (pb.f n) ds ρ=some o->C5 stay g tb e items τ G
 |[],items,hi,A,τ,ρ,G,h,hf=>by
  cases hf;have:=hi _ _ _ _ h;cases this;exact ⟨hs _ _ _ _ h,k _ _ _ h⟩
 |d::ds,items,hi,A,τ,ρ,G,h,hf=>by
  have hh:=hi _ _ _ _ h;cases hh with
  |cons hx hr=>
   rename_i x items;unfold N2 at hf;obtain ⟨bs,e1,hf⟩:=obb hf;obtain ⟨o1,e2,hf⟩:=obb hf;obtain ⟨ts,bd,kg⟩:=pg.ok hx e1;refine ⟨hs _ _ _ _ h,kg _ _ _ ?_⟩;obtain ⟨A',h'⟩:=h.puts bd;refine pb.ok h' e2 ?_;have hi':∀ A τ ρ G,RS D G0 A τ ρ G->Dqs (rs (AD D A) G) items ds:=λA τ ρ G h=>by
    have:=hi _ _ _ _ h;cases this with
    |cons a b=>exact b
   cases o1 with
   |nx ρ'=>exact λA2 τ2 G2 h2=>LL (items0:=items0) pg pb hs k ds items hi' _ _ _ _ h2 hf
   |ct ρ'=>exact λA2 τ2 G2 h2=>LL (items0:=items0) pg pb hs k ds items hi' _ _ _ _ h2 hf
   |bk ρ'=>cases hf;exact k
   |rt d fr=>cases hf;exact k
def qmw (pi:Rho->Option (List PyData)) (nm:Bool) (m:List Bool) (gf:PyData->Option (List (Nat×PyData))) (bf:Nat->Rho->Option Ot) (n:Nat) (ρ:Rho):Option Ot:=(pi ρ).bind λds=>N2 gf (bf n) ds (if nm then ρ else dm m ρ)
def qoo {wi:TI3} {g:TG3} {tb:TS3} (pi:PuI wi) (pg:PuG g) (pb:PuS tb) (m:List Bool) (hm:Tru (pi.fv.all (mkb m))):PuS (R0 wi g tb):=⟨qmw pi.f pi.nm m pg.f pb.f,λ{D G0 A τ ρ G n o e} h hf k=>by
 unfold qmw at hf;obtain ⟨ds,e1,hf⟩:=obb hf;refine pi.ok (h.viewD hm) (h.dem m).dom e1 λitems stay G1 E1 D1 hs hnm=>?_;cases hb:pi.nm with
 |true=>
  rw [hb,if_pos rfl] at hf;obtain ⟨ns,rfl⟩:=hnm hb;have:=D1.ints;subst this;exact LL (items0:=[]) pg pb (λ_ _ _ _ _=>hs _ (.inl hb)) k _ _ (λA τ ρ G _=>Dqs.ofInts _) _ _ _ _ (h.up E1) hf
 |false=>
  rw [hb,if_neg Bool.false_ne_true] at hf;have h1:=(h.dem m).up E1;have b1:Ex G0 (rs (λb=>∃ i,Ad m A i=some b) G1):=λb o e=>by
   rw [jP]
   ·exact h1.ex _ _ e
   ·rintro ⟨i,z⟩;rw [h1.fr i _ z] at e;cases e
  have h2:RS D (rs (λb=>∃ i,Ad m A i=some b) G1) (Ad m A) τ (dm m ρ) G1:=⟨JL,h.dm.up b1,λi p z=>by unfold rs;exact zH ⟨i,z⟩,h1.da,h1.inj,h1.len,h1.sh,h1.ow⟩
  have X:∀ A2 τ2 ρ2 G2,RS D (rs (λb=>∃ i,Ad m A i=some b) G1) A2 τ2 ρ2 G2->Ex (rs (AD D (Ad m A)) G1) (rs (AD D A2) G2):=λA2 τ2 ρ2 G2 r b o e=>by
   obtain ⟨n1,e⟩:=qJ e;have eb:rs (λb=>∃ i,Ad m A i=some b) G1 b=some o:=by rw [jP (λz=>n1 (.inr z))];exact e
   rw [jP]
   ·exact r.ex _ _ eb
   ·rintro (z|⟨i,z⟩)
    ·exact n1 (.inl z)
    ·rw [r.fr i _ z] at eb;cases eb
  exact LL (items0:=[]) pg pb (λA2 τ2 ρ2 G2 r=>hs _ (.inr ((X _ _ _ _ r).trans JL))) (k.base b1 h.dm) _ _ (λA2 τ2 ρ2 G2 r=>D1.up (X _ _ _ _ r)) _ _ _ _ h2 hf⟩
def EN (fr:Bool):Option Ot->Option PyData
 |some (.rt d b)=>if fr=true/\b=false then (match d with|.none=>some .none|_=>none) else some d
 |some (.nx _)=>if fr then none else some .none
 |_=>none
def st (ds:List PyData) (N:Nat):Rho:=ds.map Sl.sh++List.replicate (N-ds.length) .un
def run (f:Nat->Rho->Option Ot) (k N n:Nat) (fr:Bool) (ds:List PyData):Option PyData:=if ds.length=k then EN fr (f n (st ds N)) else none
def zf {t:TS3} (b:PuS t) (N:List Str) (k n:Nat) (fr:Bool):∀ ts G q,PSp (run b.f k N.length n fr) fr ts G q->ts.length=k/\t { nx:=λ_ G'=>q .non G',rt:=q } (qr N ts) G:=by
 rintro ts G q ⟨D,ds,d,hs,hd,hf,h⟩;unfold run at hf;split at hf
 ·rename_i hk;refine ⟨by rw [hs.length];exact hk,?_⟩;have r:RS D G (λ_=>none) (qr N ts) (st ds N.length) G:=by
   refine ⟨Ex.refl,hd,(λi p e=>by cases e),(λi p e=>by cases e),(λi j p e=>by cases e),(by simp [st,qr,hs.length]),λi d' e=>?_,λi es e=>?_⟩
   ·unfold st at e;unfold qr;by_cases hi:i<ds.length
    ·rw [List.getElem?_append_left (by simpa using hi),getElem?_map] at e;obtain ⟨d2,e3,e4⟩:=Option.map_eq_some_iff.mp e;cases e4;obtain ⟨x,e5,hx⟩:=hs.get e3;refine ⟨x,?_,hx.up (jc λb z=>?_)⟩
     ·rw [List.getElem?_append_left (by simp [hs.length];exact hi),getElem?_map,e5];rfl
     ·rcases z with z|⟨i,z⟩
      ·exact z
      ·cases z
    ·rw [List.getElem?_append_right (by simpa using hi),List.getElem?_replicate] at e;split at e<;>cases e
   ·unfold st at e;by_cases hi:i<ds.length
    ·rw [List.getElem?_append_left (by simpa using hi),getElem?_map] at e;obtain ⟨d2,e3,e4⟩:=Option.map_eq_some_iff.mp e;cases e4
    ·rw [List.getElem?_append_right (by simpa using hi),List.getElem?_replicate] at e;split at e<;>cases e
  unfold EN at hf;split at hf
  ·rename_i d' b' e;split at hf
   ·split at hf
    ·cases hf;exact b.ok r e λx G' a c z=>h x G' a c λ_=>.inl rfl
    ·cases hf
   ·rename_i hb;cases hf;exact b.ok r e λx G' a c z=>h x G' a c λw=>z (by
     cases b' with
     |true=>rfl
     |false=>exact absurd ⟨w,rfl⟩ hb)
  ·rename_i ρ' e;split at hf
   ·cases hf
   ·rename_i hb;cases hf;exact b.ok r e λA τ G' r'=>h .non G' r'.ex .non λw=>absurd w hb
  ·cases hf
 ·cases hf
mutual
def tD:T->Option PyData
 |.non=>some .none|.bl b=>some (.bool b)|.int i=>some (.int i)|.str x=>some (.str x)|.tup xs=>(tDs xs).map .tuple|.ref _=>none
def tDs:List T->Option (List PyData)
 |[]=>some []
 |x::r=>(tD x).bind λd=>(tDs r).map (d::·)
end
mutual
def qjf {G:Gp}:∀ (t:T) {d:PyData},tD t=some d->Dq G t d
 |.non,_,h=>by cases h;exact .non
 |.bl b,_,h=>by cases h;exact .bl b
 |.int b,_,h=>by cases h;exact .int b
 |.str b,_,h=>by cases h;exact .str b
 |.tup xs,_,h=>by
  unfold tD at h;obtain ⟨ds,e,rfl⟩:=Option.map_eq_some_iff.mp h;exact .tup (qfA xs e)
 |.ref _,_,h=>by cases h
def qfA {G:Gp}:∀ (t:List T) {d:List PyData},tDs t=some d->Dqs G t d
 |[],_,h=>by cases h;exact .nil
 |x::r,_,h=>by
  unfold tDs at h;obtain ⟨d,e,h⟩:=obb h;obtain ⟨ds,e2,rfl⟩:=Option.map_eq_some_iff.mp h;exact .cons (qjf x e) (qfA r e2)
end
def asS:PyData->Option Str
 |.str s=>some s
 |_=>none
def qbQ {d:PyData} {b:Str} (h:asS d=some b):d=.str b:=by cases d<;>simp [asS] at h;subst h;rfl
def qiN (tab:List (Str×T)) {te:TE3} (a:PuE te):PuE (qcJ tab te):=⟨λρ=>((a.f ρ).bind asS).bind λs=>(zv tab s).bind tD,a.fv,false,λhv hd hf k=>by
 obtain ⟨s,e1,hf⟩:=obb hf;obtain ⟨d,e1,e2⟩:=obb e1;have:=qbQ e2;subst this;obtain ⟨t,e3,hf⟩:=obb hf;refine a.ok hv hd e1 λx' G1 E1 D1 _=>?_;cases D1;simp only [e3];exact k _ _ E1 (qjf t hf) (λz=>by cases z)⟩
def qpe (tab:List (Str×T)) {te:TE3} (a:PuE te):PuE (qmk tab te):=⟨λρ=>((a.f ρ).bind asS).map λs=>.bool (zv tab s).isSome,a.fv,false,λhv hd hf k=>by
 obtain ⟨s,e1,rfl⟩:=Option.map_eq_some_iff.mp hf;obtain ⟨d,e1,e2⟩:=obb e1;have:=qbQ e2;subst this;refine a.ok hv hd e1 λx' G1 E1 D1 _=>?_;cases D1;exact k _ _ E1 (.bl _) (λz=>by cases z)⟩
def qdh:List Str->List PyData->Str->Option PyData
 |k::ks,x::xs,s=>if k=s then some x else qdh ks xs s
 |_,_,_=>none
def qb0 {G:Gp}:∀ (ks:List Str) {xs:List T} {ds:List PyData} {s:Str} {d:PyData},Dqs G xs ds->qdh ks ds s=some d->∃ x,zv (ks.zip xs) s=some x/\Dq G x d
 |[],_,_,_,_,_,h=>by simp [qdh] at h
 |k::ks,_,_,_,_,.nil,h=>by simp [qdh] at h
 |k::ks,_,_,s,d,.cons a b,h=>by
  unfold qdh at h;simp only [List.zip_cons_cons,zv];split at h
  ·rename_i e;cases h;exact ⟨_,by rw [if_pos e],a⟩
  ·rename_i e;obtain ⟨x,h1,h2⟩:=qb0 ks b h;exact ⟨x,by rw [if_neg e];exact h1,h2⟩
def qkI (ks:List Str) {t:TA3} {te:TE3} (a:PuA t) (b:PuE te):PuE (qgX ks t te):=⟨λρ=>(a.f ρ).bind λds=>((b.f ρ).bind asS).bind λs=>qdh ks ds s,a.fv++b.fv,false,λhv hd hf k=>by
 obtain ⟨ds,e1,hf⟩:=obb hf;obtain ⟨s,e2,hf⟩:=obb hf;obtain ⟨d,e2,e3⟩:=obb e2;have:=qbQ e3;subst this;refine a.ok hv.l hd e1 λxs G1 E1 D1=>b.ok (hv.r.up E1) (hd.up E1) e2 λy G2 E2 D2 _=>?_;cases D2;obtain ⟨x,h1,h2⟩:=qb0 ks (D1.up (Q1 E2)) hf;simp only [h1];exact k _ _ (E1.trans E2) h2 (λz=>by cases z)⟩
def qcr {fr:Bool}:∀ ts G q,PSp (λ_=>none) fr ts G q->False:=λts G q ⟨_,_,_,_,_,h,_⟩=>by cases h
def Fn3.pz {P:Program} {w:World} {K:Frg} {mg:Str->Option Value} {base:Heap} {k:Nat} {x:Str} {sp:Sp3} (F:Fn3 P w K mg base k x sp) (fr:Bool):Fn3 P w K mg base k x (PSp (λ_=>none) fr):=F.imp λts G q h=>(qcr ts G q h).elim
def qpn {i:Nat}:(bV i).f=λρ=>vw ρ i:=id rfl
def qfl {i:Int}:(qF i).f=λ_=>some (.int i):=id rfl
def qjj {i:Bool}:(bBl i).f=λ_=>some (.bool i):=id rfl
def qdA {i:Str}:(WJ i).f=λ_=>some (.str i):=id rfl
def qoM {r:R3} {ta tb:TE3} {R:OpD r} {a:PuE ta} {b:PuE tb}:(bO R a b).f=λρ=>(a.f ρ).bind λx=>(b.f ρ).bind λy=>R.f x y:=id rfl
def qdI:qI.f=λ_=>some []:=id rfl
def qal {ta:TE3} {tr:TA3} {a:PuE ta} {r:PuA tr}:(qf a r).f=λρ=>(a.f ρ).bind λx=>(r.f ρ).bind λxs=>some (x::xs):=id rfl
def qdT {t:TA3} {a:PuA t} {hn:Tru (Nat.ble a.n 1000)}:(C7 a hn).f=λρ=>(a.f ρ).map .tuple:=id rfl
def qd6 {t:TA3} {a:PuA t} {hn:Tru (Nat.ble a.n 1000)}:(NL a hn).f=λρ=>(a.f ρ).map .list:=id rfl
def qbJ {r:List T->Gp->Q3->Prop} {t:TA3} {R:FnD r} {a:PuA t}:(qE R a).f=λρ=>(a.f ρ).bind R.f:=id rfl
def qlz {t:TE3} {a:PuE t}:(bTb a).f=λρ=>(a.f ρ).bind asB:=id rfl
def qlS {t u:TT3} {a:PuC t} {b:PuC u}:(bOr a b).f=λρ=>(a.f ρ).bind λk=>if k then some true else b.f ρ:=id rfl
def qeb {t:TT3} {a:PuC t}:(qce a).f=λρ=>(a.f ρ).map (! ·):=id rfl
def qki:bTt.f=λ_=>some true:=id rfl
def qbD {ta tb:TE3} {a:PuE ta} {b:PuE tb}:(DX a b).f=λρ=>((a.f ρ).bind asB).bind λk=>if k then b.f ρ else some (.bool false):=id rfl
def qb1 {ta:TE3} {a:PuE ta}:(qiw a).f=λρ=>((a.f ρ).bind asB).map λk=>.bool (!k):=id rfl
def qe7 {ta:TE3} {a:PuE ta}:(qhJ a).f=λρ=>((a.f ρ).bind asI).map λi=>.int (-i):=id rfl
def qfd {ta:TE3} {g:String->Bool} {a:PuE ta}:(qfV g a).f=λρ=>(a.f ρ).bind λd=>(tyD d).map λt=>.bool (g t):=id rfl
def qjt:bNp.f=λ_=>some none:=id rfl
def qj2 {t:TE3} {a:PuE t}:(bSp a).f=λρ=>((a.f ρ).bind asI).map some:=id rfl
def qjZ {te:TE3} {tl th:TO3} {a:PuE te} {l:PuO tl} {h:PuO th}:(bSl a l h).f=λρ=>(a.f ρ).bind λd=>(l.f ρ).bind λlo=>(h.f ρ).bind λhi=>slD d lo hi:=id rfl
def qa4 {te:TE3} {a:PuE te}:(qkU a).f=λρ=>(a.f ρ).bind N4:=id rfl
def qa2 {tab:List (Str×T)} {te:TE3} {a:PuE te}:(qiN tab a).f=λρ=>((a.f ρ).bind asS).bind λs=>(zv tab s).bind tD:=id rfl
def qeY {tab:List (Str×T)} {te:TE3} {a:PuE te}:(qpe tab a).f=λρ=>((a.f ρ).bind asS).map λs=>.bool (zv tab s).isSome:=id rfl
def NW {ks:List Str} {t:TA3} {te:TE3} {a:PuA t} {b:PuE te}:(qkI ks a b).f=λρ=>(a.f ρ).bind λds=>((b.f ρ).bind asS).bind λs=>qdh ks ds s:=id rfl
def qi9 {wi:TI3} {g:TG3} {tif:TT3} {te:TE3} {pi:PuI wi} {pg:PuG g} {pc:PuC tif} {pe:PuE te} {m:List (Option Nat)} {hm:Tru (pg.tg.all λi=>m[i]?==some none)}:(bLc pi pg pc pe m hm).f=lcF pi.f (lcH pg.f pc.f pe.f) m:=id rfl
def qdJ {wi wi2:TI3} {g g2:TG3} {tif tif2:TT3} {te:TE3} {pi:PuI wi} {pg:PuG g} {pc:PuC tif} {pi2:PuI wi2} {pg2:PuG g2} {pc2:PuC tif2} {pe:PuE te} {m:List (Option Nat)} {hm:Tru (pg.tg.all λi=>m[i]?==some none)} {hm2:Tru (pg2.tg.all λi=>m[i]?==some none)} {hdj:Tru (pg2.tg.all λi=>!pg.tg.contains i)}:(qmq pi pg pc pi2 pg2 pc2 pe m hm hm2 hdj).f=qle pi.f (qkm pg.f pc.f pi2.f (lcH pg2.f pc2.f pe.f)) m:=id rfl
def qeE:NO.f=qmy:=id rfl
def qfj:qhH.f=qmp:=id rfl
def qeu:qmf.f=qmv:=id rfl
def qfh:qn6.f=qlF:=id rfl
def qea:qnN.f=qnn:=id rfl
def NV:qfW.f=mnD:=id rfl
def qaU:qgq.f=mxD:=id rfl
def qb3 {F:List PyData->Option PyData} {fr:Bool}:(ze F fr).f=F:=id rfl
def qjI {g:Int->Int->Int} {i j:Int}:(opI g).f (.int i) (.int j)=some (.int (g i j)):=id rfl
def qjM {C:Int->Int->Prop} {g:Int->Int->Int}:(opC C g).f=cI C g:=id rfl
def qfm {n:Bool}:(Y6 n).f=eqD n:=id rfl
def qdS {n:Bool}:(qo3 n).f=inD n:=id rfl
def qdD:zl.f=ixD:=id rfl
def qaR:JM.f=qiz:=id rfl
def qeS {t:TE3} {a:PuE t}:(NK a).f=λρ=>(a.f ρ).bind NC:=id rfl
def qfg {t:TA3} {a:PuA t}:(qbm a).f=λρ=>(a.f ρ).bind qgg:=id rfl
def qeT {t:TA3} {a:PuA t}:(qnv a).f=λρ=>(a.f ρ).bind λds=>match ds with|[d,e]=>(NC d).bind λus=>(NC e).bind λvs=>some (qhL us vs)|_=>none:=id rfl
def qbr {t:TA3} {a:PuA t}:(qjH a).f=λρ=>(a.f ρ).bind λds=>match ds with|[d]=>(NC d).map λus=>enD 0 us|_=>none:=id rfl
def qbh {t:TE3} {a:PuE t}:(NK a).nm=false:=id rfl
def qat {t:TA3} {a:PuA t}:(qbm a).nm=true:=id rfl
def qph {i:Nat}:(gN i).f=λd=>some [(i,d)]:=id rfl
def qee:XI.f []=some []:=id rfl
def qbO {t:TG3} {u:SQ} {a:PuG t} {b:PuGs u} {d:PyData} {r:List PyData}:(zi a b).f (d::r)=(a.f d).bind λx=>(b.f r).map λy=>x++y:=id rfl
def qdG {u:SQ} {n:Nat} {b:PuGs u} {ds:List PyData}:(XN n b).f (.tuple ds)=if ds.length=n then b.f ds else none:=id rfl
def qa5:QA.f=λ_ ρ=>some (.nx ρ):=id rfl
def qef {t u:TS3} {a:PuS t} {b:PuS u}:(QV a b).f=qms a.f b.f:=id rfl
def qk8 {c:TT3} {t u:TS3} {pc:PuC c} {a:PuS t} {b:PuS u}:(sIf pc a b).f=λn ρ=>(pc.f ρ).bind λk=>if k then a.f n ρ else b.f n ρ:=id rfl
def qec {t:TE3} {a:PuE t}:(ZR a).f=λ_ ρ=>(a.f ρ).map λd=>.rt d a.nw:=id rfl
def qbo {i:Nat}:(qcG i).f=λ_ ρ=>qf7 ρ i:=id rfl
def qdP {t:TE3} {a:PuE t} {i:Nat} {m:List Bool} {hm:Tru (a.fv.all (mkb m))}:(NQ a i m hm).f=λ_ ρ=>(a.f ρ).map λd=>.nx (NR m a.nw i d ρ):=id rfl
def qb2 {t:TE3} {g:TG3} {a:PuE t} {pg:PuG g} {m:List Bool} {hm:Tru (a.fv.all (mkb m))}:(S5 a pg m hm).f=λ_ ρ=>(a.f ρ).bind λd=>(pg.f d).map λbs=>.nx (JI (dm m ρ) bs):=id rfl
def qfx {t:TA3} {a:PuA t} {i j:Nat} {m:List Bool} {hm:Tru (a.fv.all (mkb m))}:(qmD a i j m hm).f=λ_ ρ=>(a.f ρ).bind λds=>qmn i j m ds ρ:=id rfl
def qdR {t:TE3} {a:PuE t} {i:Nat} {m:List Bool} {hm:Tru (a.fv.all (mkb m))}:(qmJ a i m hm).f=λ_ ρ=>(a.f ρ).bind λd=>qkO i d (dmS m d ρ):=id rfl
def qd9 {wi:TI3} {g:TG3} {tb:TS3} {pi:PuI wi} {pg:PuG g} {pb:PuS tb} {m:List Bool} {hm:Tru (pi.fv.all (mkb m))}:(qoo pi pg pb m hm).f=qmw pi.f pi.nm m pg.f pb.f:=id rfl
def qdF {i:Bool}:(bBl i).nw=false:=id rfl
def qjC {r:R3} {ta tb:TE3} {R:OpD r} {a:PuE ta} {b:PuE tb}:(bO R a b).nw=R.nw:=id rfl
def qaW {t:TA3} {a:PuA t} {hn:Tru (Nat.ble a.n 1000)}:(C7 a hn).nw=false:=id rfl
def qaA {t:TA3} {a:PuA t} {hn:Tru (Nat.ble a.n 1000)}:(NL a hn).nw=true:=id rfl
def LN {r:List T->Gp->Q3->Prop} {t:TA3} {R:FnD r} {a:PuA t}:(qE R a).nw=R.nw:=id rfl
def LJ {F:List PyData->Option PyData} {fr:Bool}:(ze F fr).nw=fr:=id rfl
def LU {ta tb:TE3} {a:PuE ta} {b:PuE tb}:(DX a b).nw=false:=id rfl
def qd3 {te:TE3} {tl th:TO3} {a:PuE te} {l:PuO tl} {h:PuO th}:(bSl a l h).nw=false:=id rfl
def qej {wi:TI3} {g:TG3} {tif:TT3} {te:TE3} {pi:PuI wi} {pg:PuG g} {pc:PuC tif} {pe:PuE te} {m:List (Option Nat)} {hm:Tru (pg.tg.all λi=>m[i]?==some none)}:(bLc pi pg pc pe m hm).nw=true:=id rfl
def qae {wi wi2:TI3} {g g2:TG3} {tif tif2:TT3} {te:TE3} {pi:PuI wi} {pg:PuG g} {pc:PuC tif} {pi2:PuI wi2} {pg2:PuG g2} {pc2:PuC tif2} {pe:PuE te} {m:List (Option Nat)} {hm:Tru (pg.tg.all λi=>m[i]?==some none)} {hm2:Tru (pg2.tg.all λi=>m[i]?==some none)} {hdj:Tru (pg2.tg.all λi=>!pg.tg.contains i)}:(qmq pi pg pc pi2 pg2 pc2 pe m hm hm2 hdj).nw=true:=id rfl
def qbq:qhH.nw=false:=id rfl
def qad:qnN.nw=false:=id rfl
def NS:qmf.nw=true:=id rfl
def qbR:zl.nw=false:=id rfl
def K8:JM.nw=false:=id rfl
def qbp {n:Bool}:(Y6 n).nw=false:=id rfl
def qeJ {C:Int->Int->Prop} {g:Int->Int->Int}:(opC C g).nw=false:=id rfl
def qoX {s:Sl} {r:Rho}:vw (s::r) 0=s.d:=id rfl
def qpd {s:Sl} {r:Rho} {i:Nat}:vw (s::r) (i+1)=vw r i:=id rfl
def qk3 {d:PyData}:(Sl.sh d).d=some d:=id rfl
def qik {ds:List PyData}:(Sl.ow ds).d=some (.list ds):=id rfl
def qbG {r:Rho} {ds:List PyData}:qf7 (.ow ds::r) 0=some (.rt (.list ds) true):=id rfl
def qay {r:Rho} {d:PyData}:qf7 (.sh d::r) 0=some (.rt d false):=id rfl
def qd7 {s:Sl} {r:Rho} {i:Nat}:qf7 (s::r) (i+1)=qf7 r i:=id rfl
def qib {xs:List PyData} {i:Int}:ixD (.tuple xs) (.int i)=L2.atI xs i:=id rfl
def qka {xs:List PyData} {i:Int}:ixD (.list xs) (.int i)=L2.atI xs i:=id rfl
def at0 {α:Type} {a:α} {r:List α}:L2.atI (a::r) 0=some a:=by simp [L2.atI,ixN]
def at1 {α:Type} {a b:α} {r:List α}:L2.atI (a::b::r) 1=some b:=by
 have h:ixN (a::b::r).length 1=some 1:=by unfold ixN;rw [if_pos (by omega),if_pos (by simp;omega)];rfl
 unfold L2.atI;rw [h];rfl
def at2 {α:Type} {a b c:α} {r:List α}:L2.atI (a::b::c::r) 2=some c:=by
 have h:ixN (a::b::c::r).length 2=some 2:=by unfold ixN;rw [if_pos (by omega),if_pos (by simp;omega)];rfl
 unfold L2.atI;rw [h];rfl
def at3 {α:Type} {a b c d:α} {r:List α}:L2.atI (a::b::c::d::r) 3=some d:=by
 have h:ixN (a::b::c::d::r).length 3=some 3:=by unfold ixN;rw [if_pos (by omega),if_pos (by simp;omega)];rfl
 unfold L2.atI;rw [h];rfl
def at4 {α:Type} {a b c d e:α} {r:List α}:L2.atI (a::b::c::d::e::r) 4=some e:=by
 have h:ixN (a::b::c::d::e::r).length 4=some 4:=by unfold ixN;rw [if_pos (by omega),if_pos (by simp;omega)];rfl
 unfold L2.atI;rw [h];rfl
def at5 {α:Type} {a b c d e f:α} {r:List α}:L2.atI (a::b::c::d::e::f::r) 5=some f:=by
 have h:ixN (a::b::c::d::e::f::r).length 5=some 5:=by unfold ixN;rw [if_pos (by omega),if_pos (by simp;omega)];rfl
 unfold L2.atI;rw [h];rfl
def atN {α:Type} {xs:List α} {k:Nat} (h:k<xs.length):L2.atI xs (k:Int)=xs[k]?:=by
 have e:ixN xs.length (k:Int)=some k:=by unfold ixN;rw [if_pos (by omega),if_pos (by omega)];rfl
 unfold L2.atI;rw [e];rfl
def eqS {n:Bool} {a b:Str}:eqD n (.str a) (.str b)=some (.bool (if n then !decide (a=b) else decide (a=b))):=id rfl
def eqI {n:Bool} {a b:Int}:eqD n (.int a) (.int b)=some (.bool (if n then !decide (a=b) else decide (a=b))):=id rfl
def qf1 {C:Int->Int->Prop} {g:Int->Int->Int} {i j:Int} (h:C i j):cI C g (.int i) (.int j)=some (.int (g i j)):=by simp only [cI];exact zH h
def qiq {i j:Int} (h:-1000000<j/\j<1000000):cI jy (·*·) (.int i) (.int j)=some (.int (i*j)):=qf1 (.inr ⟨by omega,by omega⟩)
def JO {i j:Int} (h:-1000000<i/\i<1000000):cI jy (·*·) (.int i) (.int j)=some (.int (i*j)):=qf1 (.inl ⟨by omega,by omega⟩)
def XR {i j:Int} (h:0<j):cI (λ_ j=>0<j) (·%·) (.int i) (.int j)=some (.int (i%j)):=qf1 h
def qpi {i j:Int}:qiz (.int i) (.int j)=some (.int (i+j)):=id rfl
def qdO {j:Int} (h:-1000000000<=j/\j<1000000000):qgg [.int j]=some ((JD 0 j.toNat).map PyData.int):=by simp only [qgg];exact zH ⟨by omega,by omega⟩
def qoQ {i j:Int} (h:-1000000000<=i/\i<1000000000/\-1000000000<=j/\j<1000000000):qgg [.int i,.int j]=some ((JD i (j-i).toNat).map PyData.int):=by simp only [qgg];exact zH ⟨by omega,by omega,by omega,by omega⟩
def JF {pi:Rho->Option (List PyData)} {h:Rho->PyData->Option (Option PyData)} {m:List (Option Nat)} {ρ:Rho} {ds fs:List PyData} (h1:pi ρ=some ds) (h2:lcP (h (SR m ρ)) ds=some fs) (h3:fs.length<=16777216):lcF pi h m ρ=some (.list fs):=by unfold lcF;rw [h1];simp only [Option.bind_some,h2];exact zH h3
def N8 {pi:Rho->Option (List PyData)} {h:Rho->PyData->Option (Option (List PyData))} {m:List (Option Nat)} {ρ:Rho} {ds fs:List PyData} (h1:pi ρ=some ds) (h2:qgk (h (SR m ρ)) ds=some fs) (h3:fs.length<=16777216):qle pi h m ρ=some (.list fs):=by unfold qle;rw [h1];simp only [Option.bind_some,h2];exact zH h3
def qdv {gf:PyData->Option (List (Nat×PyData))} {bf:Rho->Option Ot} {α:Type} {g:α->PyData} (xs:List α) (I:Nat->Rho->Prop) {ρ:Rho} (h0:I 0 ρ)
  (hs:∀ i x ρ,xs[i]?=some x->I i ρ->∃ bs ρ',gf (g x)=some bs/\(bf (JI ρ bs)=some (.nx ρ')\/bf (JI ρ bs)=some (.ct ρ'))/\I (i+1) ρ'):∃ ρ',N2 gf bf (xs.map g) ρ=some (.nx ρ')/\I xs.length ρ':=by
 have key:∀ (r:List α) (i:Nat) (ρ:Rho),xs.drop i=r->i<=xs.length->I i ρ->∃ ρ',N2 gf bf (r.map g) ρ=some (.nx ρ')/\I xs.length ρ':=by
  intro r;induction r with
  |nil=>
   intro i ρ e hi h;have:i=xs.length:=by
    have:=congrArg List.length e;simp at this;omega
   subst this;exact ⟨ρ,rfl,h⟩
  |cons x r ih=>
   intro i ρ e hi h;have hl:i<xs.length:=by
    have:=congrArg List.length e;simp at this;omega
   have e':=List.drop_eq_getElem_cons hl;rw [e] at e';injection e' with e1 e2;obtain ⟨bs,ρ',h1,h2,h3⟩:=hs i x ρ (by rw [getElem?_eq_getElem hl,e1]) h;obtain ⟨ρ2,h4,h5⟩:=ih (i+1) ρ' e2.symm hl h3;refine ⟨ρ2,?_,h5⟩;simp only [map_cons,N2,h1,Option.bind_some];rcases h2 with h2|h2<;>(rw [h2];exact h4)
 exact key xs 0 ρ (by simp) (Nat.zero_le _) h0
def sqk (b:Nat->Rho->Option Ot) (n:Nat) (o:Ot):Option Ot:=match o with|.nx ρ'=>b n ρ'|o=>some o
def qeM {a b:Nat->Rho->Option Ot} {n:Nat} {ρ:Rho}:qms a b n ρ=(a n ρ).bind (sqk b n):=id rfl
def qft {b:Nat->Rho->Option Ot} {n:Nat} {ρ:Rho}:sqk b n (.nx ρ)=b n ρ:=id rfl
def qff {b:Nat->Rho->Option Ot} {n:Nat} {d:PyData} {f:Bool}:sqk b n (.rt d f)=some (.rt d f):=id rfl
def NX {d:PyData}:EN true (some (.rt d true))=some d:=id rfl
def qd0 {d:PyData} {b:Bool}:EN false (some (.rt d b))=some d:=by simp [EN]
def qkl {b:Bool}:asB (.bool b)=some b:=id rfl
def qlq {b:Int}:asI (.int b)=some b:=id rfl
def qif {b:Str}:asS (.str b)=some b:=id rfl
def qeC {xs:List PyData}:qmy [.tuple xs]=some (.int xs.length):=id rfl
def qe0 {xs:List PyData}:qmp [.list xs]=some (.tuple xs):=id rfl
def qel {xs:List PyData}:qmv [.tuple xs]=some (.list xs):=id rfl
def qbK {xs:List Bool}:qlF [.list (xs.map PyData.bool)]=some (.bool (xs.all id)):=by simp only [qlF,qc0,Option.map_some]
def qiM {xs:List Int} (h:xs≠[]):mnD [.list (xs.map PyData.int)]=some (.int (mn xs)):=by simp only [mnD,DI,Option.bind_some];exact zH h
def qjT {xs:List Int} (h:xs≠[]):mxD [.list (xs.map PyData.int)]=some (.int (mx xs)):=by simp only [mxD,DI,Option.bind_some];exact zH h
def qhh {xs:List Int} (h:xs.length<4000):N4 (.list (xs.map PyData.int))=some (.int (EJ xs)):=by simp only [N4,DI,Option.bind_some];exact zH h
def qes {xs:List PyData}:NC (.tuple xs)=some xs:=id rfl
def qfo {xs:List PyData}:NC (.list xs)=some xs:=id rfl
def qiQ {i:Int}:tyD (.int i)=some "int" := id rfl
def qi3 {i:Str}:tyD (.str i)=some "str" := id rfl
def qiW {i:List PyData}:tyD (.tuple i)=some "tuple" := id rfl
def qjF {m:List Bool} {nw:Bool} {i:Nat} {v:Int} {ρ:Rho}:NR m nw i (.int v) ρ=ρ.set i (.sh (.int v)):=id rfl
def qhZ {m:List Bool} {nw:Bool} {i:Nat} {v:Str} {ρ:Rho}:NR m nw i (.str v) ρ=ρ.set i (.sh (.str v)):=id rfl
def qcF {m:List Bool} {nw:Bool} {i:Nat} {v:List PyData} {ρ:Rho}:NR m nw i (.tuple v) ρ=(dm m ρ).set i (.sh (.tuple v)):=by cases nw<;>rfl
def qeR {m:List Bool} {i:Nat} {v:List PyData} {ρ:Rho}:NR m true i (.list v) ρ=(dm m ρ).set i (.ow v):=id rfl
def qj0 {m:List Bool} {v:List PyData} {ρ:Rho}:dmS m (.list v) ρ=dm m ρ:=id rfl
def qpf {ρ:Rho}:dm [] ρ=ρ:=id rfl
def qo8 {m:List Bool} {s:Sl} {ρ:Rho}:dm (true::m) (s::ρ)=s.dem::dm m ρ:=id rfl
def qoS {m:List Bool} {s:Sl} {ρ:Rho}:dm (false::m) (s::ρ)=s::dm m ρ:=id rfl
def qh7 {ds:List PyData}:(Sl.ow ds).dem=.sh (.list ds):=id rfl
def qlN {d:PyData}:(Sl.sh d).dem=.sh d:=id rfl
def qjW {ρ:Rho}:SR [] ρ=[]:=id rfl
def ql1 {m:List (Option Nat)} {ρ:Rho}:SR (none::m) ρ=.un::SR m ρ:=id rfl
def cp (o:Option PyData):Sl:=match o with|some d=>.sh d|none=>.un
def qj5 {m:List (Option Nat)} {j:Nat} {ρ:Rho}:SR (some j::m) ρ=cp (vw ρ j)::SR m ρ:=id rfl
def qo9 {d:PyData}:cp (some d)=.sh d:=id rfl
def qd8 {pi:Rho->Option (List PyData)} {m:List Bool} {gf:PyData->Option (List (Nat×PyData))} {bf:Nat->Rho->Option Ot} {n:Nat} {ρ:Rho}:qmw pi true m gf bf n ρ=(pi ρ).bind λds=>N2 gf (bf n) ds ρ:=id rfl
def qeB {ρ:Rho}:JI ρ []=ρ:=id rfl
def qdX {ρ:Rho} {i:Nat} {d:PyData} {r:List (Nat×PyData)}:JI ρ ((i,d)::r)=JI (ρ.set i (.sh d)) r:=id rfl
def UF {gf:PyData->Option (List (Nat×PyData))} {cf:Rho->Option Bool} {ef:Rho->Option PyData} {ρ:Rho} {d:PyData}:lcH gf cf ef ρ d=(gf d).bind λbs=>(cf (JI ρ bs)).bind λk=>if k then (ef (JI ρ bs)).map some else some none:=id rfl
def qeZ {gf:PyData->Option (List (Nat×PyData))} {cf:Rho->Option Bool} {it:Rho->Option (List PyData)} {h:Rho->PyData->Option (Option PyData)} {ρ:Rho} {d:PyData}:qkm gf cf it h ρ d=(gf d).bind λbs=>(cf (JI ρ bs)).bind λk=>if k then ((it (JI ρ bs)).bind λds=>lcP (h (JI ρ bs)) ds).map some else some none:=id rfl
def Nx (o:Option Ot) (P:Rho->Prop):Prop:=match o with|some (.nx ρ)=>P ρ|some (.ct ρ)=>P ρ|_=>False
def qjl {ρ:Rho} {P:Rho->Prop}:Nx (some (.nx ρ)) P=P ρ:=id rfl
def qnk {o:Option Ot} {P:Rho->Prop} (h:Nx o P):∃ ρ,(o=some (.nx ρ)\/o=some (.ct ρ))/\P ρ:=by
 unfold Nx at h;split at h
 ·exact ⟨_,.inl rfl,h⟩
 ·exact ⟨_,.inr rfl,h⟩
 ·exact h.elim
section
variable {gf:PyData->Option (List (Nat×PyData))} {bf:Rho->Option Ot} {α:Type} {g:α->PyData} {ρ:Rho} {Q:Option Ot->Prop} {F:Ot->Option Ot}
def qdt (xs:List α) (I:Nat->Rho->Prop) (h0:I 0 ρ) (hs:∀ i x ρ,xs[i]?=some x->I i ρ->Nx ((gf (g x)).bind λbs=>bf (JI ρ bs)) (I (i+1))) (k:∀ ρ',I xs.length ρ'->Q (some (.nx ρ'))):Q (N2 gf bf (xs.map g) ρ):=by
 obtain ⟨ρ',e,h⟩:=qdv (gf:=gf) (bf:=bf) (g:=g) xs I h0 λi x ρ hx hi=>by
  obtain ⟨ρ2,e,h⟩:=qnk (hs i x ρ hx hi);cases e1:gf (g x) with
  |none=>rw [e1] at e;rcases e with e|e<;>cases e
  |some bs=>rw [e1] at e;exact ⟨bs,ρ2,rfl,e,h⟩
 rw [e];exact k ρ' h
def qau (xs:List α) (I:Nat->Rho->Prop) (h0:I 0 ρ) (hs:∀ i x ρ,xs[i]?=some x->I i ρ->Nx ((gf (g x)).bind λbs=>bf (JI ρ bs)) (I (i+1))) (k:∀ ρ',I xs.length ρ'->Q (F (.nx ρ'))):Q ((N2 gf bf (xs.map g) ρ).bind F):=
 qdt (Q:=λo=>Q (o.bind F)) xs I h0 hs k
end
def RW {α:Type} {us:List α} (h:us.length=1):∃ a0,us=[a0]:=List.length_eq_one_iff.mp h
def qcc {α:Type} {us:List α} (h:us.length=2):∃ a0 a1,us=[a0,a1]:=by
 obtain ⟨a0,r,rfl⟩:=List.exists_cons_of_length_pos (show 0<us.length by omega);obtain ⟨a1,rfl⟩:=RW (show r.length=1 by simpa using h);exact ⟨a0,a1,rfl⟩
def qhK {α:Type} {us:List α} (h:us.length=3):∃ a0 a1 a2,us=[a0,a1,a2]:=by
 obtain ⟨a0,r,rfl⟩:=List.exists_cons_of_length_pos (show 0<us.length by omega);obtain ⟨a1,a2,rfl⟩:=qcc (show r.length=2 by simpa using h);exact ⟨a0,a1,a2,rfl⟩
def qoO {α:Type} {us:List α} (h:us.length=4):∃ a0 a1 a2 a3,us=[a0,a1,a2,a3]:=by
 obtain ⟨a0,r,rfl⟩:=List.exists_cons_of_length_pos (show 0<us.length by omega);obtain ⟨a1,a2,a3,rfl⟩:=qhK (show r.length=3 by simpa using h);exact ⟨a0,a1,a2,a3,rfl⟩
end Pu
namespace Pv
open PySem L2 L3 Pu
def EV:PuS (Bk.EZ):=(ZR (bLc (qbm (qf (bV 2) qI)) (gN 0) bTt (C7 (qf (bO (opC jy (·*·)) (bV 0) (bV 1)) (qf (bO (opC jy (·*·)) (bV 0) (bV 2)) qI)) ⟨rfl⟩) [none,some 0,some 1] ⟨rfl⟩))
def zw:List PyData->Option PyData:=run (EV).f 3 3 1000000000 true
def qbV:∀ ts G q,PSp (zw) true ts G q->ts.length=3/\Bk.EZ { nx:=λ_ G'=>q .non G',rt:=q } (qr ["down","along","many"] ts) G:=zf (EV) ["down","along","many"] 3 1000000000 true
def qao {x0 x1 x2:PyData}:zw [x0,x1,x2]=EN true ((EV).f 1000000000 [.sh x0,.sh x1,.sh x2]):=id rfl
def js (zw:List PyData->Option PyData):PuS (Bk.YD (PSp zw true)):=(QV (NQ (bO zl (bV 0) (qF 0)) 1 [true] ⟨rfl⟩) (QV (sIf (bTb (bO (Y6 false) (bV 1) (WJ "cells"))) (ZR (qE qmf (qf (bO zl (bV 0) (qF 1)) qI))) QA) (QV (sIf (bTb (bO (Y6 false) (bV 1) (WJ "block"))) (ZR (qmq (qbm (qf (bO zl (bV 0) (qF 1)) qI)) (gN 0) bTt (qbm (qf (bO zl (bV 2) (qF 2)) qI)) (gN 1) bTt (C7 (qf (bV 0) (qf (bV 1) qI)) ⟨rfl⟩) [none,none,some 0] ⟨rfl⟩ ⟨rfl⟩ ⟨rfl⟩)) QA) (QV (sIf (bTb (bO (Y6 false) (bV 1) (WJ "step"))) (ZR (qE (ze zw true) (qf (bO zl (bV 0) (qF 1)) (qf (bO zl (bV 0) (qF 2)) (qf (bO zl (bV 0) (qF 3)) qI))))) QA) (QV (S5 (qiN jO (bV 1)) (XN 2 (zi (gN 2) (zi (gN 3) XI))) [false,true] ⟨rfl⟩) (ZR (qE (ze zw true) (qf (bV 2) (qf (bV 3) (qf (bO zl (bV 0) (qF 1)) qI))))))))))
def qy:List PyData->Option PyData:=run (js zw).f 1 4 1000000000 true
def T0:∀ ts G q,PSp (qy) true ts G q->ts.length=1/\Bk.YD (PSp zw true) { nx:=λ_ G'=>q .non G',rt:=q } (qr ["walk","kind","down","along"] ts) G:=zf (js zw) ["walk","kind","down","along"] 1 1000000000 true
def ZM {x0:PyData}:qy [x0]=EN true ((js zw).f 1000000000 [.sh x0,.un,.un,.un]):=id rfl
def QT:TS3:=(qR (zZ (tb3 (o3 (zS false) (o3 ix3 (v3 0) (c3 (.int 0))) (c3 (.str "rests")))) (qT (jW (qc (o3 ix3 (v3 0) (c3 (.int 2))) (qc (c3 (.int 1)) qk)))) qL) (qT (jW (qc (o3 ix3 (v3 0) (c3 (.int 4))) (qc (o3 ix3 (v3 0) (c3 (.int 5))) qk)))))
def jG:PuS (Pv.QT):=(QV (sIf (bTb (bO (Y6 false) (bO zl (bV 0) (qF 0)) (WJ "rests"))) (ZR (C7 (qf (bO zl (bV 0) (qF 2)) (qf (qF 1) qI)) ⟨rfl⟩)) QA) (ZR (C7 (qf (bO zl (bV 0) (qF 4)) (qf (bO zl (bV 0) (qF 5)) qI)) ⟨rfl⟩)))
def qM:List PyData->Option PyData:=run (jG).f 1 1 1000000000 false
def X9:∀ ts G q,PSp (qM) false ts G q->ts.length=1/\Pv.QT { nx:=λ_ G'=>q .non G',rt:=q } (qr ["dealing"] ts) G:=zf (jG) ["dealing"] 1 1000000000 false
def XY {x0:PyData}:qM [x0]=EN false ((jG).f 1000000000 [.sh x0]):=id rfl
def YE (qy:List PyData->Option PyData):PuS (Bk.YG (PSp qy true)):=(QV (S5 (bV 1) (XN 2 (zi (gN 3) (zi (gN 4) XI))) [false,true] ⟨rfl⟩) (ZR (qE qhH (qf (bLc (NK (qE (ze qy true) (qf (bV 2) qI))) (XN 2 (zi (gN 0) (zi (gN 1) XI))) bTt (bO (opC (λ_ j=>0<j) (·%·)) (bO JM (bO (opC jy (·*·)) (bV 3) (bV 0)) (bO (opC jy (·*·)) (bV 4) (bV 1))) (bV 2)) [none,none,some 0,some 3,some 4] ⟨rfl⟩) qI))))
def qZ:List PyData->Option PyData:=run (YE qy).f 3 5 1000000000 false
def KF:∀ ts G q,PSp (qZ) false ts G q->ts.length=3/\Bk.YG (PSp qy true) { nx:=λ_ G'=>q .non G',rt:=q } (qr ["banks","factors","walk","a","b"] ts) G:=zf (YE qy) ["banks","factors","walk","a","b"] 3 1000000000 false
def SZ {x0 x1 x2:PyData}:qZ [x0,x1,x2]=EN false ((YE qy).f 1000000000 [.sh x0,.sh x1,.sh x2,.un,.un]):=id rfl
def YX (S_factors_of:Sp3) (S_rests_by:Sp3):TS3:=(qT (cb3 S_rests_by (qc (o3 ix3 (v3 0) (c3 (.int 3))) (qc (cb3 S_factors_of (qc (v3 0) qk)) (qc (v3 1) qk)))))
def YS (qM:List PyData->Option PyData) (qZ:List PyData->Option PyData):PuS (Pv.YX (PSp qM false) (PSp qZ false)):=(ZR (qE (ze qZ false) (qf (bO zl (bV 0) (qF 3)) (qf (qE (ze qM false) (qf (bV 0) qI)) (qf (bV 1) qI)))))
def zr:List PyData->Option PyData:=run (YS qM qZ).f 2 2 1000000000 false
def T5:∀ ts G q,PSp (zr) false ts G q->ts.length=2/\Pv.YX (PSp qM false) (PSp qZ false) { nx:=λ_ G'=>q .non G',rt:=q } (qr ["dealing","walk"] ts) G:=zf (YS qM qZ) ["dealing","walk"] 2 1000000000 false
def TD {x0 x1:PyData}:zr [x0,x1]=EN false ((YS qM qZ).f 1000000000 [.sh x0,.sh x1]):=id rfl
open Bk (Wk Dl qV zL JG lnD lnA)
def pD (p:Int×Int):PyData:=.tuple [.int p.1,.int p.2]
def Wk.d:Wk->PyData
 |.line k m=>.tuple [.str (JG k),.int m]
 |.block h w=>.tuple [.str "block",.int h,.int w]
 |.step d a m=>.tuple [.str "step",.int d,.int a,.int m]
 |.cells ps=>.tuple [.str "cells",.tuple (ps.map pD)]
def qmj (r:List Int):PyData:=.tuple (r.map PyData.int)
def dlD:Dl->PyData
 |.skew r c b x y=>.tuple [.str "skew",.int r,.int c,.int b,.int x,.int y]
 |.rests r c b p=>.tuple [.str "rests",.int r,.int c,.int b,.int p]
 |.bits h l ms=>.tuple [.str "bits",.int h,.int l,.tuple (ms.map PyData.int)]
 |.table b cells=>.tuple [.str "table",.int b,.tuple (cells.map qmj)]
 |.joined d e=>.tuple [.str "joined",dlD d,dlD e]
def qb5 (G:Gp):∀ (cs:List (List Int)),Dqs G (cs.map Bk.qoY) (cs.map qmj)
 |[]=>.nil
 |r::cs=>.cons (.tup (Dqs.ofInts r)) (qb5 G cs)
def qgZ (G:Gp):∀ (d:Dl),Dq G d.t (dlD d)
 |.skew r c b x y=>.tup (.cons (.str _) (.cons (.int _) (.cons (.int _) (.cons (.int _) (.cons (.int _) (.cons (.int _) .nil))))))
 |.rests r c b p=>.tup (.cons (.str _) (.cons (.int _) (.cons (.int _) (.cons (.int _) (.cons (.int _) .nil)))))
 |.bits h l ms=>.tup (.cons (.str _) (.cons (.int _) (.cons (.int _) (.cons (.tup (Dqs.ofInts ms)) .nil))))
 |.table b cells=>.tup (.cons (.str _) (.cons (.int _) (.cons (.tup (qb5 G cells)) .nil)))
 |.joined d e=>.tup (.cons (.str _) (.cons (qgZ G d) (.cons (qgZ G e) .nil)))
def LG (G:Gp):∀ (cs:List (Int×Int)),Dqs G (cs.map Bk.pT) (cs.map pD)
 |[]=>.nil
 |p::cs=>.cons (.tup (.cons (.int _) (.cons (.int _) .nil))) (LG G cs)
def qmE (G:Gp):∀ (w:Wk),Dq G w.t (Wk.d w)
 |.line k m=>.tup (.cons (.str _) (.cons (.int _) .nil))
 |.block h v=>.tup (.cons (.str _) (.cons (.int _) (.cons (.int _) .nil)))
 |.step d a m=>.tup (.cons (.str _) (.cons (.int _) (.cons (.int _) (.cons (.int _) .nil))))
 |.cells ps=>.tup (.cons (.str _) (.cons (.tup (LG G ps)) .nil))
end Pv
namespace Pu
open PySem L2 L3
open Bk (Lf Ext)
section
variable {D:Addr->Prop} {a:Addr} {G G' G0:Gp} {n n':Nat} {fv gv:List Nat} {l:Nat} {τ:St3} {ρ:Rho}
def SK (e:Ext a G G') (h:D a):Ex (rs D G) (rs D G'):=λb o x=>by
 obtain ⟨n,x⟩:=qJ x;rw [jP n];exact e b o (by rintro rfl;exact n h) x
def WD {k:Int} (h:Lf G a k):G a≠none:=by
 obtain ⟨o,c,m,e,_⟩:=h;rw [e];simp
def DQ {k:Int} (hd:Dom D G) (e:Ext a G G') (lf:Lf G' a k):Dom D G':=λb hb z=>by
 by_cases h:b=a
 ·subst h;exact WD lf z
 ·cases g:G b with
  |none=>exact hd b hb g
  |some o=>rw [e b o h g] at z;cases z
def Nw.backx {x:T} {d:PyData} {k:Int} (h:Nw D G G' x d) (e:Ext a G0 G) (lf:Lf G a k):Nw D G0 G' x d:=by
 rcases h with h|⟨p,xs,ds,h1,h2,c,r⟩
 ·exact .inl h
 refine .inr ⟨p,xs,ds,h1,h2,?_,r⟩;cases z:G0 p with
 |none=>rfl
 |some o=>
  by_cases hp:p=a
  ·subst hp;exact absurd c (WD lf)
  ·rw [e p o hp z] at c;cases c
structure Ln (fv:List Nat) (l:Nat) (D:Addr->Prop) (G:Gp) (τ:St3) (ρ:Rho) (a:Addr) (n:Nat):Prop where
 v:XD fv D G τ ρ
 d:Dom D G
 da:D a
 tl:τ[l]?=some (some (.ref a))
 ul:vw ρ l=none
 lf:Lf G a n
def Ln.up (h:Ln fv l D G τ ρ a n) (e:Ext a G G') (lf:Lf G' a n'):Ln fv l D G' τ ρ a n':=
 ⟨λi hi d hd=>let ⟨t,x,y⟩:=h.v i hi d hd;⟨t,x,y.up (SK e h.da)⟩,DQ h.d e lf,h.da,h.tl,h.ul,lf⟩
def Ln.fst (h:Ln (fv++gv) l D G τ ρ a n):Ln fv l D G τ ρ a n:=⟨h.v.l,h.d,h.da,h.tl,h.ul,h.lf⟩
def Ln.snd (h:Ln (fv++gv) l D G τ ρ a n):Ln gv l D G τ ρ a n:=⟨h.v.r,h.d,h.da,h.tl,h.ul,h.lf⟩
end
abbrev QD:=PyData->Nat->Prop
structure PwE (l:Nat) (t:TE3) where
 w:Rho->Nat->QD->Prop
 fv:List Nat
 nw:Bool
 mono:∀ {ρ n} {Q Q':QD},w ρ n Q->(∀ d m,Q d m->Q' d m)->w ρ n Q'
 ok:∀ {D τ ρ G a n} {q:Q3} {Q:QD},Ln fv l D G τ ρ a n->w ρ n Q->(∀ x d G' n',Q d n'->Ext a G G'->Lf G' a n'->Dq (rs D G') x d->(nw=true->Nw D G G' x d)->q x G')->t τ G q
structure PwC (l:Nat) (t:TT3) where
 w:Rho->Nat->(Bool->Nat->Prop)->Prop
 fv:List Nat
 mono:∀ {ρ n} {Q Q':Bool->Nat->Prop},w ρ n Q->(∀ d m,Q d m->Q' d m)->w ρ n Q'
 ok:∀ {D τ ρ G a n} {q:Bool->Gp->Prop} {Q:Bool->Nat->Prop},Ln fv l D G τ ρ a n->w ρ n Q->(∀ k G' n',Q k n'->Ext a G G'->Lf G' a n'->q k G')->t τ G q
structure PwA (l:Nat) (t:TA3) where
 w:Rho->Nat->(List PyData->Nat->Prop)->Prop
 fv:List Nat
 k:Nat
 mono:∀ {ρ n} {Q Q':List PyData->Nat->Prop},w ρ n Q->(∀ d m,Q d m->Q' d m)->w ρ n Q'
 ok:∀ {D τ ρ G a n} {q:List T->Gp->Prop} {Q:List PyData->Nat->Prop},Ln fv l D G τ ρ a n->w ρ n Q->(∀ x d G' n',Q d n'->d.length=k->Ext a G G'->Lf G' a n'->Dqs (rs D G') x d->q x G')->t τ G q
structure PwI (l:Nat) (t:TI3) where
 w:Rho->Nat->(List PyData->Nat->Prop)->Prop
 fv:List Nat
 nm:Bool
 mono:∀ {ρ n} {Q Q':List PyData->Nat->Prop},w ρ n Q->(∀ d m,Q d m->Q' d m)->w ρ n Q'
 ok:∀ {D τ ρ G a n} {r:List T->(Gp->Prop)->Gp->Prop} {Q:List PyData->Nat->Prop},Ln fv l D G τ ρ a n->w ρ n Q ->
  (∀ items stay ds G' n',Q ds n'->Ext a G G'->Lf G' a n'->Dqs (rs D G') items ds->(∀ G'',(nm=true\/Ex (rs D G') G'')->stay G'')->(nm=true->∃ ns:List Int,ds=ns.map PyData.int)->r items stay G')->t τ G r
structure DrD (r:List T->Gp->Q3->Prop) where
 W:List PyData->Nat->QD->Prop
 nw:Bool
 mono:∀ {ds n} {Q Q':QD},W ds n Q->(∀ d m,Q d m->Q' d m)->W ds n Q'
 ok:∀ {D:Addr->Prop} {G:Gp} {a:Addr} {n:Nat} {ts:List T} {ds:List PyData} {q:Q3} {Q:QD},Lf G a n->D a->Dom D G->Dqs (rs D G) ts ds->W ds n Q->(∀ x d G' n',Q d n'->Ext a G G'->Lf G' a n'->Dq (rs D G') x d->(nw=true->Nw D G G' x d)->q x G')->r (.ref a::ts) G q
section
variable {l:Nat}
def eOf {t:TE3} (b:PuE t):PwE l t:=⟨λρ n Q=>∃ d,b.f ρ=some d/\Q d n,b.fv,b.nw,λ⟨d,h1,h2⟩ h=>⟨d,h1,h _ _ h2⟩,λh ⟨d,h1,h2⟩ k=>
 b.ok h.v h.d h1 λx G1 E1 D1 N1=>k x d G1 _ h2 (Bk.XE E1) (h.lf.ex E1) D1 N1⟩
def cOf {t:TT3} (b:PuC t):PwC l t:=⟨λρ n Q=>∃ d,b.f ρ=some d/\Q d n,b.fv,λ⟨d,h1,h2⟩ h=>⟨d,h1,h _ _ h2⟩,λh ⟨d,h1,h2⟩ k=>
 b.ok h.v h.d h1 λG1 E1=>k d G1 _ h2 (Bk.XE E1) (h.lf.ex E1)⟩
def aOf {t:TA3} (b:PuA t):PwA l t:=⟨λρ n Q=>∃ d,b.f ρ=some d/\Q d n,b.fv,b.n,λ⟨d,h1,h2⟩ h=>⟨d,h1,h _ _ h2⟩,λh ⟨d,h1,h2⟩ k=>
 b.ok h.v h.d h1 λx G1 E1 D1=>k x d G1 _ h2 (b.ln h1) (Bk.XE E1) (h.lf.ex E1) D1⟩
def iOf {t:TI3} (b:PuI t):PwI l t:=⟨λρ n Q=>∃ d,b.f ρ=some d/\Q d n,b.fv,b.nm,λ⟨d,h1,h2⟩ h=>⟨d,h1,h _ _ h2⟩,λh ⟨d,h1,h2⟩ k=>
 b.ok h.v h.d h1 λitems stay G1 E1 D1 s nm=>k items stay d G1 _ h2 (Bk.XE E1) (h.lf.ex E1) D1 s nm⟩
def eO {r:R3} {ta tb:TE3} (R:OpD r) (a:PwE l ta) (b:PwE l tb):PwE l (o3 r ta tb):=
 ⟨λρ n Q=>a.w ρ n λx n1=>b.w ρ n1 λy n2=>∃ v,R.f x y=some v/\Q v n2,a.fv++b.fv,R.nw,λh k=>a.mono h λx n1 h=>b.mono h λy n2 ⟨v,h1,h2⟩=>⟨v,h1,k _ _ h2⟩,λh hw k=>
  a.ok h.fst hw λx dx G1 n1 h1 E1 L1 D1 _=>b.ok (h.snd.up E1 L1) h1 λy dy G2 n2 ⟨v,e,hq⟩ E2 L2 D2 _=>R.ok (D1.up (SK E2 h.da)) D2 (DQ (DQ h.d E1 L1) E2 L2) e λz G3 E3 D3 N3=>k z v G3 n2 hq ((E1.trans E2).trans (Bk.XE E3)) (L2.ex E3) D3 λz=>(N3 z).backx (E1.trans E2) L2⟩
def VT {ta:TE3} {tr:TA3} (a:PwE l ta) (r:PwA l tr):PwA l (qc ta tr):=
 ⟨λρ n Q=>a.w ρ n λx n1=>r.w ρ n1 λxs n2=>Q (x::xs) n2,a.fv++r.fv,r.k+1,λh k=>a.mono h λx n1 h=>r.mono h λxs n2 h=>k _ _ h,λh hw k=>
  a.ok h.fst hw λx dx G1 n1 h1 E1 L1 D1 _=>r.ok (h.snd.up E1 L1) h1 λy dy G2 n2 hq hl E2 L2 D2=>k _ _ G2 n2 hq (by simp [hl]) (E1.trans E2) L2 (.cons (D1.up (SK E2 h.da)) D2)⟩
def qmg {t:TA3} (b:PwA l t) (hn:Tru (Nat.ble b.k 1000)):PwE l (jW t):=⟨λρ n Q=>b.w ρ n λxs n1=>Q (.tuple xs) n1,b.fv,false,λh k=>b.mono h λxs n1 h=>k _ _ h,λh hw k=>
 b.ok h hw λx dx G1 n1 h1 hl E1 L1 D1=>⟨by rw [D1.length,hl];exact few hn,k _ _ _ _ h1 E1 L1 (.tup D1) (λz=>by cases z)⟩⟩
def qg4 {r:List T->Gp->Q3->Prop} {t:TA3} (R:FnD r) (b:PwA l t):PwE l (cb3 r t):=⟨λρ n Q=>b.w ρ n λxs n1=>∃ v,R.f xs=some v/\Q v n1,b.fv,R.nw,λh k=>b.mono h λxs n1 ⟨v,h1,h2⟩=>⟨v,h1,k _ _ h2⟩,λh hw k=>
 b.ok h hw λx dx G1 n1 ⟨v,e,hq⟩ hl E1 L1 D1=>R.ok D1 (DQ h.d E1 L1) e λz G3 E3 D3 N3=>k z v G3 n1 hq (E1.trans (Bk.XE E3)) (L1.ex E3) D3 λz=>(N3 z).backx E1 L1⟩
def eDr {r:List T->Gp->Q3->Prop} {t:TA3} (R:DrD r) (b:PwA l t):PwE l (cb3 r (qc (v3 l) t)):=⟨λρ n Q=>b.w ρ n λxs n1=>R.W xs n1 Q,b.fv,R.nw,λh k=>b.mono h λxs n1 h=>R.mono h k,λ{D τ ρ G a n q Q} h hw k=>by
 simp only [cb3,qc,v3,h.tl];exact b.ok h hw λx dx G1 n1 hW hl E1 L1 D1=>R.ok L1 h.da (DQ h.d E1 L1) D1 hW λz d G3 n3 hq E3 L3 D3 N3=>k z d G3 n3 hq (E1.trans E3) L3 D3 λz=>(N3 z).backx E1 L1⟩
def cTb {t:TE3} (b:PwE l t):PwC l (tb3 t):=⟨λρ n Q=>b.w ρ n λd n1=>∃ k,asB d=some k/\Q k n1,b.fv,λh k=>b.mono h λd m ⟨v,h1,h2⟩=>⟨v,h1,k _ _ h2⟩,λh hw k=>b.ok h hw λx d G1 n1 ⟨v,e,hq⟩ E1 L1 D1 _=>by
 have:=RY e;subst this;cases D1;exact k _ _ _ hq E1 L1⟩
def eIf {t:TT3} {ta tb:TE3} (c:PwC l t) (a:PwE l ta) (b:PwE l tb):PwE l (if3 t ta tb):=⟨λρ n Q=>c.w ρ n λk n1=>if k then a.w ρ n1 Q else b.w ρ n1 Q,c.fv++(a.fv++b.fv),false,λh k=>c.mono h λj m h=>by
  cases j with
  |true=>rw [if_pos rfl] at h ⊢;exact a.mono h k
  |false=>exact b.mono h k,λh hw k=>c.ok h.fst hw λj G1 n1 hj E1 L1=>by
  cases j with
  |true=>rw [if_pos rfl] at hj ⊢;exact a.ok (h.snd.fst.up E1 L1) hj λx d G2 n2 hq E2 L2 D2 _=>k _ _ _ _ hq (E1.trans E2) L2 D2 (λz=>by cases z)
  |false=>exact b.ok (h.snd.snd.up E1 L1) hj λx d G2 n2 hq E2 L2 D2 _=>k _ _ _ _ hq (E1.trans E2) L2 D2 (λz=>by cases z)⟩
end
def VA.ext {D:Addr->Prop} {a:Addr} {G G':Gp} {τ:St3} {ρ:Rho} (h:VA D G τ ρ) (e:Ext a G G') (da:D a):VA D G' τ ρ:=h.upx (SK e da)
structure RL (l:Nat) (a:Addr) (z0:Option (Option T)×Nat) (D:Addr->Prop) (G0:Gp) (A:Nat->Option Addr) (τ:St3) (ρ:Rho) (G:Gp) (n:Nat):Prop where
 r:RS D G0 A τ ρ G
 al:A l=some a
 tl:τ[l]?=some (some (.ref a))
 ul:ρ[l]?=some Sl.un
 lf:Lf G a n
 tz:τ[0]?=z0.1/\τ.length=z0.2
section
variable {l:Nat} {a:Addr} {z0:Option (Option T)×Nat} {D:Addr->Prop} {G0 G G':Gp} {A:Nat->Option Addr} {τ:St3} {ρ:Rho} {n n':Nat}
def RL.vl (h:RL l a z0 D G0 A τ ρ G n):vw ρ l=none:=by unfold vw;rw [h.ul];rfl
def RL.up (h:RL l a z0 D G0 A τ ρ G n) (e:Ext a G G') (lf:Lf G' a n'):RL l a z0 D G0 A τ ρ G' n':=by
 have X:Ex (rs (AD D A) G) (rs (AD D A) G'):=SK e (.inr ⟨l,h.al⟩);refine ⟨⟨λb o x=>e b o (by rintro rfl;rw [h.r.fr l _ h.al] at x;cases x) (h.r.ex b o x),h.r.dm,h.r.fr,λi p hp z=>?_,h.r.inj,h.r.len,λi d x=>let ⟨t,y,z⟩:=h.r.sh i d x;⟨t,y,z.up X⟩,λi ds x=>?_⟩,h.al,h.tl,h.ul,lf,h.tz⟩
 ·by_cases c:p=a
  ·subst c;exact WD lf z
  ·cases g:G p with
   |none=>exact h.r.da i p hp g
   |some o=>rw [e p o c g] at z;cases z
 ·obtain ⟨p,xs,y1,y2,y3,y4⟩:=h.r.ow i ds x;refine ⟨p,xs,y1,y2,e p _ ?_ y3,y4.up X⟩;rintro rfl;have:=h.r.inj i l _ y1 h.al;subst this;rw [h.ul] at x;cases x
def RL.all (h:RL l a z0 D G0 A τ ρ G n) (fv:List Nat):Ln fv l (λb=>D b\/b=a) G τ ρ a n:=by
 refine ⟨λi _ d hd=>?_,λb hb=>?_,.inr rfl,h.tl,h.vl,h.lf⟩
 ·unfold vw at hd;obtain ⟨s,e,hd⟩:=obb hd;have less:Ex (rs (AD D A) G) (rs (λb=>D b\/b=a) G):=jc λb z=>by
   rcases z with z|z
   ·exact .inl z
   ·subst z;exact .inr ⟨l,h.al⟩
  cases s with
  |un=>cases hd
  |sh d'=>
   cases hd;obtain ⟨t,b,c⟩:=h.r.sh i _ e;exact ⟨t,b,c.up less⟩
  |ow ds=>
   cases hd;obtain ⟨p,xs,b,c,g,f⟩:=h.r.ow i _ e;refine ⟨_,c,.lst ?_ (f.up less)⟩;rw [jP]
   ·exact g
   ·rintro (z|z)
    ·exact h.r.nd b z
    ·subst z;have:=h.r.inj i l _ b h.al;subst this;rw [h.ul] at e;cases e
 ·rcases hb with hb|hb
  ·exact h.r.domD b hb
  ·subst hb;exact WD h.lf
def qo2 {m:List Bool} (hm:mkb m l=false) (al:A l=some a):Ad m A l=some a:=by unfold Ad;rw [if_neg (by rw [hm];simp)];exact al
def RL.dem (h:RL l a z0 D G0 A τ ρ G n) {m:List Bool} (hm:mkb m l=false):RL l a z0 D G0 (Ad m A) τ (Pu.dm m ρ) G n:=
 ⟨h.r.dem m,qo2 hm h.al,h.tl,by rw [qa0,h.ul];simp [hm],h.lf,h.tz⟩
def RL.ln (h:RL l a z0 D G0 A τ ρ G n) {m:List Bool} {fv:List Nat} (hm:mkb m l=false) (hf:Tru (fv.all (mkb m))):Ln fv l (AD D (Ad m A)) G τ ρ a n:=
 ⟨h.r.viewD hf,(h.r.dem m).dom,.inr ⟨l,qo2 hm h.al⟩,h.tl,h.vl,h.lf⟩
def RL.put (h:RL l a z0 D G0 A τ ρ G n) {i:Nat} (hi:i≠l) (h0:i≠0) {x:T} {d:PyData} (hx:Dq (rs (AD D A) G) x d):RL l a z0 D G0 (Er A i) (τ.set i (some x)) (ρ.set i (.sh d)) G n:=
 ⟨h.r.put i hx,by unfold Er;rw [if_neg (λz=>hi z.symm)];exact h.al,by rw [getElem?_set,if_neg hi];exact h.tl,by rw [getElem?_set,if_neg hi];exact h.ul,h.lf,⟨by rw [getElem?_set,if_neg h0];exact h.tz.1,by rw [List.length_set];exact h.tz.2⟩⟩
def RL.puts:∀ {ts:List (Nat×T)} {bs:List (Nat×PyData)} {A:Nat->Option Addr} {τ:St3} {ρ:Rho},RL l a z0 D G0 A τ ρ G n->Bd (rs (AD D A) G) ts bs->(∀ p∈bs,p.1≠l/\p.1≠0)->∃ A',RL l a z0 D G0 A' (sets τ ts) (JI ρ bs) G n
 |_,_,A,_,_,h,.nil,_=>⟨A,h⟩
 |_,_,A,_,_,h,.cons x b,hn=>by
  unfold sets JI;exact RL.puts (h.put (hn _ List.mem_cons_self).1 (hn _ List.mem_cons_self).2 x) (b.up qlH) (λp hp=>hn p (List.mem_cons_of_mem _ hp))
def RL.putN (h:RL l a z0 D G0 A τ ρ G n) {i:Nat} (hi:i≠l) (h0:i≠0) {x:T} {d:PyData} {ds:List PyData} (hd:d=.list ds) (E:Ext a G G') (lf:Lf G' a n') (hx:Nw (AD D A) G G' x d):∃ A',RL l a z0 D G0 A' (τ.set i (some x)) (ρ.set i (.ow ds)) G' n':=by
 have h1:=h.up E lf;rcases hx with hx|⟨p,xs,ds',rfl,e',gp,gp',hs⟩
 ·rw [hd] at hx;cases hx
 rw [hd] at e';cases e';have np:∀ {j q},A j=some q->q≠p:=λe=>by rintro rfl;exact h.r.da _ _ e gp
 have X1:Ex (rs (AD D A) G) (rs (AD D (λj=>if j=i then some p else A j)) G'):=λb o e=>by
  obtain ⟨n,e⟩:=qJ e;rw [jP]
  ·exact E b o (by rintro rfl;exact n (.inr ⟨l,h.al⟩)) e
  ·rintro (z|⟨j,z⟩)
   ·exact n (.inl z)
   ·simp only at z;split at z
    ·cases z;rw [gp] at e;cases e
    ·exact n (.inr ⟨j,z⟩)
 refine ⟨λj=>if j=i then some p else A j,⟨h1.r.ex,h.r.dm,λj q e=>?_,λj q e=>?_,λj k q x y=>?_,by simp [h.r.len],λj e he=>?_,λj es e=>?_⟩,by rw [if_neg (λz=>hi z.symm)];exact h.al,by rw [getElem?_set,if_neg hi];exact h.tl,by rw [getElem?_set,if_neg hi];exact h.ul,lf,⟨by rw [getElem?_set,if_neg h0];exact h.tz.1,by rw [List.length_set];exact h.tz.2⟩⟩
 ·split at e
  ·cases e;cases z:G0 p with
   |none=>rfl
   |some o=>rw [h.r.ex _ _ z] at gp;cases gp
  ·exact h.r.fr j q e
 ·split at e
  ·cases e;rw [gp'];simp
  ·exact h1.r.da j q e
 ·split at x
  ·cases x;split at y
   ·rename_i h1 h2;rw [h1,h2]
   ·exact absurd rfl (np y)
  ·split at y
   ·cases y;exact absurd rfl (np x)
   ·exact h.r.inj j k q x y
 ·rw [getElem?_set] at he ⊢;split at he
  ·split at he<;>cases he
  ·rename_i hj;rw [if_neg hj];obtain ⟨t,b,c⟩:=h.r.sh j _ he;exact ⟨t,b,c.up X1⟩
 ·rw [getElem?_set] at e ⊢;split at e
  ·rename_i hj;subst hj;split at e
   ·rename_i hl;cases e;refine ⟨p,xs,by simp,by rw [if_pos rfl,if_pos (by rw [← h.r.len];exact hl)],gp',hs.up (jc λb z=>?_)⟩;rcases z with z|⟨j,z⟩
    ·exact .inl (.inl z)
    ·simp only at z;split at z
     ·cases z;exact .inr rfl
     ·exact .inl (.inr ⟨j,z⟩)
   ·cases e
  ·rename_i hj;rw [if_neg hj];obtain ⟨q,ys,b,c,g,f⟩:=h1.r.ow j _ e;obtain ⟨q',ys',b',c',g',f'⟩:=h.r.ow j _ e;rw [b] at b';cases b';have:G' q=some (.lst ys'):=E q _ (by rintro rfl;have:=h.r.inj j l _ b h.al;subst this;rw [h.ul] at e;cases e) g';exact ⟨q,ys',by rw [if_neg (λz=>hj z.symm)];exact b,c,this,f'.up X1⟩
def RL.wr (h:RL l a z0 D G0 A τ ρ G n) {i:Nat} {p:Addr} {xs:List T} {ds ds0:List PyData} (ho:ρ[i]?=some (Sl.ow ds0)) (hi:A i=some p) (ht:τ[i]?=some (some (.ref p))) (hs:Dqs (rs (AD D A) G) xs ds):RL l a z0 D G0 A τ (ρ.set i (.ow ds)) (gu G p (.lst xs)) n:=by
 have il:i≠l:=by rintro rfl;rw [h.ul] at ho;cases ho
 have pa:p≠a:=by rintro rfl;exact il (h.r.inj i l _ hi h.al)
 exact ⟨h.r.wr hi ht hs,h.al,h.tl,by rw [getElem?_set,if_neg il];exact h.ul,h.lf.new pa,h.tz⟩
end
abbrev QO:=Ot->Nat->Prop
def qbF (l:Nat) (a:Addr) (z0:Option (Option T)×Nat) (D:Addr->Prop) (G0:Gp) (e:Ends3):Ot->Nat->Prop
 |.nx ρ,n=>∀ A τ G,RL l a z0 D G0 A τ ρ G n->e.nx τ G
 |.bk ρ,n=>∀ A τ G,RL l a z0 D G0 A τ ρ G n->e.bk τ G
 |.ct ρ,n=>∀ A τ G,RL l a z0 D G0 A τ ρ G n->e.ct τ G
 |.rt d fr,n=>∀ x G,Ex G0 G->Lf G a n->Dq (rs (λb=>D b\/b=a) G) x d->(fr=true->Nw (λb=>D b\/b=a) G0 G x d)->e.rt x G
structure PwS (l:Nat) (t:TS3) where
 w:Rho->Nat->QO->Prop
 mono:∀ {ρ n} {Q Q':QO},w ρ n Q->(∀ o m,Q o m->Q' o m)->w ρ n Q'
 ok:∀ {a z0 D G0 A τ ρ G n} {e:Ends3} {Q:QO},RL l a z0 D G0 A τ ρ G n->w ρ n Q->(∀ o m,Q o m->qbF l a z0 D G0 e o m)->t e τ G
section
variable {l:Nat}
def qam:PwS l qL:=⟨λρ n Q=>Q (.nx ρ) n,λh k=>k _ _ h,λh hw k=>k _ _ hw _ _ _ h⟩
def sqw (b:Rho->Nat->QO->Prop) (Q:QO):QO:=λo n=>match o with|.nx ρ'=>b ρ' n Q|o=>Q o n
def NN {t u:TS3} (x:PwS l t) (y:PwS l u):PwS l (qR t u):=⟨λρ n Q=>x.w ρ n (sqw y.w Q),λh k=>x.mono h λo m h=>by
  cases o with
  |nx ρ=>exact y.mono h k
  |bk ρ=>exact k _ _ h
  |ct ρ=>exact k _ _ h
  |rt d f=>exact k _ _ h,λh hw k=>x.ok h hw λo m h=>by
  cases o with
  |nx ρ=>exact λA τ G r=>y.ok r h k
  |bk ρ=>exact k _ _ h
  |ct ρ=>exact k _ _ h
  |rt d f=>exact k _ _ h⟩
def wIf {c:TT3} {t u:TS3} (pc:PwC l c) (x:PwS l t) (y:PwS l u):PwS l (zZ c t u):=⟨λρ n Q=>pc.w ρ n λk n1=>if k then x.w ρ n1 Q else y.w ρ n1 Q,λh k=>pc.mono h λj m h=>by
  cases j with
  |true=>rw [if_pos rfl] at h ⊢;exact x.mono h k
  |false=>exact y.mono h k,λh hw k=>pc.ok (h.all _) hw λj G1 n1 hj E1 L1=>by
  cases j with
  |true=>rw [if_pos rfl] at hj ⊢;exact x.ok (h.up E1 L1) hj k
  |false=>exact y.ok (h.up E1 L1) hj k⟩
def qfU {a:Addr} {z0:Option (Option T)×Nat} {D:Addr->Prop} {G0 G G':Gp} {A:Nat->Option Addr} {τ:St3} {ρ:Rho} {n:Nat} (h:RL l a z0 D G0 A τ ρ G n) (e:Ext a G G'):Ex G0 G':=λb o x=>e b o (by rintro rfl;rw [h.r.fr l _ h.al] at x;cases x) (h.r.ex b o x)
def qhM {t:TE3} (x:PwE l t):PwS l (qT t):=⟨λρ n Q=>x.w ρ n λd n1=>Q (.rt d x.nw) n1,λh k=>x.mono h λd m h=>k _ _ h,λh hw k=>x.ok (h.all _) hw λy d G1 n1 hq E1 L1 D1 N1=>k _ _ hq y G1 (qfU h E1) L1 D1 λz=>(N1 z).back h.r.ex⟩
def qcC {t:TE3} (x:PwE l t) (i:Nat) (m:List Bool) (hm:Tru (x.fv.all (mkb m))) (hl:Tru (!mkb m l&&(i != l&&i != 0))):PwS l (zn t (gn3 i)):=⟨λρ n Q=>x.w ρ n λd n1=>Q (.nx (NR m x.nw i d ρ)) n1,λh k=>x.mono h λd m h=>k _ _ h,λ{a z0 D G0 A τ ρ G n e Q} h hw k=>by
 have hl':mkb m l=false/\i≠l/\i≠0:=by simpa using hl.h
 refine x.ok (h.ln hl'.1 hm) hw λy d G1 n1 hq E1 L1 D1 N1=>?_;have k:=k _ _ hq;unfold NR at k;show e.nx (τ.set i (some y)) G1;split at k
 ·rename_i hs;exact k _ _ _ ((h.up E1 L1).put hl'.2.1 hl'.2.2 (XA D1 hs))
 ·split at k
  ·rename_i hn;have N:=N1 hn;rcases id N with h2|⟨p,xs,ds,h1,h2,_⟩
   ·subst h2;rename_i hs;exact absurd rfl hs
   subst h2;obtain ⟨A',r⟩:=(h.dem hl'.1).putN hl'.2.1 hl'.2.2 rfl E1 L1 N;exact k _ _ _ r
  ·exact k _ _ _ (((h.dem hl'.1).up E1 L1).put hl'.2.1 hl'.2.2 D1)⟩
def qim {t:TE3} {g:TG3} (x:PwE l t) (pg:PuG g) (m:List Bool) (hm:Tru (x.fv.all (mkb m))) (hl:Tru (!mkb m l&&pg.tg.all (λi=>i != l&&i != 0))):PwS l (zn t g):=⟨λρ n Q=>x.w ρ n λd n1=>∃ bs,pg.f d=some bs/\Q (.nx (JI (dm m ρ) bs)) n1,λh k=>x.mono h λd m ⟨bs,h1,h2⟩=>⟨bs,h1,k _ _ h2⟩,λ{a z0 D G0 A τ ρ G n e Q} h hw k=>by
 have hl':mkb m l=false/\∀ i∈pg.tg,i≠l/\i≠0:=by simpa using hl.h
 refine x.ok (h.ln hl'.1 hm) hw λy d G1 n1 ⟨bs,e2,hq⟩ E1 L1 D1 N1=>?_;obtain ⟨ts,bd,kg⟩:=pg.ok D1 e2;refine kg _ _ _ ?_;obtain ⟨A',h'⟩:=((h.dem hl'.1).up E1 L1).puts bd (λp hp=>hl'.2 _ (pg.at' e2 p hp));exact k _ _ hq _ _ _ h'⟩
def RL.evalS {a:Addr} {z0:Option (Option T)×Nat} {D:Addr->Prop} {G0 G:Gp} {A:Nat->Option Addr} {τ:St3} {ρ:Rho} {n:Nat} (h:RL l a z0 D G0 A τ ρ G n) {t:TE3} (x:PwE l t) (m:List Bool) (hm:Tru (x.fv.all (mkb m))) (hl:mkb m l=false) {Q:QD} (hw:x.w ρ n Q) (q:Q3) (k:∀ y d G' n' A1,Q d n'->RL l a z0 D G0 A1 τ (dmS m d ρ) G' n'->Ext a G G'->Dq (rs (AD D A1) G') y d->q y G'):t τ G q:=by
 refine x.ok (h.ln hl hm) hw λy d G1 n1 hq E1 L1 D1 _=>?_;by_cases hs:qfc d=true
 ·exact k y d G1 n1 A hq (by unfold dmS;rw [if_pos hs];exact h.up E1 L1) E1 (XA D1 hs)
 ·exact k y d G1 n1 _ hq (by unfold dmS;rw [if_neg hs];exact (h.dem hl).up E1 L1) E1 D1
def qch (gf:PyData->Option (List (Nat×PyData))) (bw:Rho->Nat->QO->Prop):List PyData->Rho->Nat->QO->Prop
 |[],ρ,n,Q=>Q (.nx ρ) n
 |d::r,ρ,n,Q=>∃ bs,gf d=some bs/\bw (JI ρ bs) n λo n1=>match o with
  |.nx ρ'=>qch gf bw r ρ' n1 Q
  |.ct ρ'=>qch gf bw r ρ' n1 Q
  |.bk ρ'=>Q (.nx ρ') n1
  |.rt d b=>Q (.rt d b) n1
def WH {g:TG3} {tb:TS3} (pg:PuG g) (pb:PwS l tb):∀ {ds:List PyData} {ρ:Rho} {n:Nat} {Q Q':QO},qch pg.f pb.w ds ρ n Q->(∀ o m,Q o m->Q' o m)->qch pg.f pb.w ds ρ n Q'
 |[],_,_,_,_,h,k=>k _ _ h
 |d::r,_,_,_,_,⟨bs,e,h⟩,k=>⟨bs,e,pb.mono h λo m h=>by
   cases o with
   |nx ρ=>exact WH pg pb h k
   |ct ρ=>exact WH pg pb h k
   |bk ρ=>exact k _ _ h
   |rt d b=>exact k _ _ h⟩
def CJ {stay:Gp->Prop} {g:TG3} {tb:TS3} {e:Ends3} (pg:PuG g) (pb:PwS l tb) {a:Addr} {z0:Option (Option T)×Nat} {D:Addr->Prop} {G0:Gp} {Q:QO} (hl:∀ i∈pg.tg,i≠l/\i≠0) (hs:∀ A τ ρ G n,RL l a z0 D G0 A τ ρ G n->stay G) (k:∀ o m,Q o m->qbF l a z0 D G0 e o m) :
  ∀ (ds:List PyData) (items:List T),(∀ A τ ρ G n,RL l a z0 D G0 A τ ρ G n->Dqs (rs (AD D A) G) items ds)->∀ A τ ρ G n,RL l a z0 D G0 A τ ρ G n->qch pg.f pb.w ds ρ n Q->C5 stay g tb e items τ G
 |[],items,hi,A,τ,ρ,G,n,h,hw=>by
  have:=hi _ _ _ _ _ h;cases this;exact ⟨hs _ _ _ _ _ h,k _ _ hw _ _ _ h⟩
 |d::ds,items,hi,A,τ,ρ,G,n,h,⟨bs,e1,hw⟩=>by
  have hh:=hi _ _ _ _ _ h;cases hh with
  |cons hx hr=>
   rename_i x items;obtain ⟨ts,bd,kg⟩:=pg.ok hx e1;refine ⟨hs _ _ _ _ _ h,kg _ _ _ ?_⟩;obtain ⟨A',h'⟩:=h.puts bd λp hp=>hl _ (pg.at' e1 p hp);have hi':∀ A τ ρ G n,RL l a z0 D G0 A τ ρ G n->Dqs (rs (AD D A) G) items ds:=λA τ ρ G n h=>by
    have:=hi _ _ _ _ _ h;cases this with
    |cons a b=>exact b
   refine pb.ok h' hw λo m hq=>?_;cases o with
   |nx ρ'=>exact λA2 τ2 G2 h2=>CJ pg pb hl hs k ds items hi' _ _ _ _ _ h2 hq
   |ct ρ'=>exact λA2 τ2 G2 h2=>CJ pg pb hl hs k ds items hi' _ _ _ _ _ h2 hq
   |bk ρ'=>exact k _ _ hq
   |rt d fr=>exact k _ _ hq
def RL.base {a:Addr} {z0:Option (Option T)×Nat} {D:Addr->Prop} {G0 Gb G:Gp} {A:Nat->Option Addr} {τ:St3} {ρ:Rho} {n:Nat} (h:RL l a z0 D Gb A τ ρ G n) (e:Ex G0 Gb) (hd:Dom D G0):RL l a z0 D G0 A τ ρ G n:=⟨h.r.base e hd,h.al,h.tl,h.ul,h.lf,h.tz⟩
def qbF.base {a:Addr} {z0:Option (Option T)×Nat} {D:Addr->Prop} {G0 Gb:Gp} {e:Ends3} {o:Ot} {n:Nat} (h:qbF l a z0 D G0 e o n) (x:Ex G0 Gb) (hd:Dom D G0):qbF l a z0 D Gb e o n:=by
 cases o with
 |nx ρ=>exact λA τ G r=>h A τ G (r.base x hd)
 |bk ρ=>exact λA τ G r=>h A τ G (r.base x hd)
 |ct ρ=>exact λA τ G r=>h A τ G (r.base x hd)
 |rt d fr=>exact λy G p q r z=>h y G (x.trans p) q r λw=>(z w).back x
def qox {wi:TI3} {g:TG3} {tb:TS3} (pi:PwI l wi) (pg:PuG g) (pb:PwS l tb) (m:List Bool) (hm:Tru (pi.fv.all (mkb m))) (hl:Tru (!mkb m l&&pg.tg.all (λi=>i != l&&i != 0))):PwS l (R0 wi g tb):=⟨λρ n Q=>pi.w ρ n λds n1=>qch pg.f pb.w ds (if pi.nm then ρ else dm m ρ) n1 Q,λh k=>pi.mono h λd m h=>WH pg pb h k,λ{a z0 D G0 A τ ρ G n e Q} h hw k=>by
 have hl':mkb m l=false/\∀ i∈pg.tg,i≠l/\i≠0:=by simpa using hl.h
 refine pi.ok (h.ln hl'.1 hm) hw λitems stay ds G1 n1 hq E1 L1 D1 hs hnm=>?_;cases hb:pi.nm with
 |true=>
  rw [hb,if_pos rfl] at hq;obtain ⟨ns,rfl⟩:=hnm hb;have:=D1.ints;subst this;exact CJ pg pb hl'.2 (λ_ _ _ _ _ _=>hs _ (.inl hb)) k _ _ (λA τ ρ G _ _=>Dqs.ofInts _) _ _ _ _ _ (h.up E1 L1) hq
 |false=>
  rw [hb,if_neg Bool.false_ne_true] at hq;have h1:=(h.dem hl'.1).up E1 L1;have b1:Ex G0 (rs (λb=>∃ i,Ad m A i=some b) G1):=λb o e=>by
   rw [jP]
   ·exact h1.r.ex _ _ e
   ·rintro ⟨i,z⟩;rw [h1.r.fr i _ z] at e;cases e
  have h2:RL l a z0 D (rs (λb=>∃ i,Ad m A i=some b) G1) (Ad m A) τ (dm m ρ) G1 n1:=⟨⟨JL,h.r.dm.up b1,λi p z=>by unfold rs;exact zH ⟨i,z⟩,h1.r.da,h1.r.inj,h1.r.len,h1.r.sh,h1.r.ow⟩,h1.al,h1.tl,h1.ul,h1.lf,h1.tz⟩
  have X:∀ A2 τ2 ρ2 G2,RS D (rs (λb=>∃ i,Ad m A i=some b) G1) A2 τ2 ρ2 G2->Ex (rs (AD D (Ad m A)) G1) (rs (AD D A2) G2):=λA2 τ2 ρ2 G2 r b o e=>by
   obtain ⟨n1,e⟩:=qJ e;have eb:rs (λb=>∃ i,Ad m A i=some b) G1 b=some o:=by rw [jP (λz=>n1 (.inr z))];exact e
   rw [jP]
   ·exact r.ex _ _ eb
   ·rintro (z|⟨i,z⟩)
    ·exact n1 (.inl z)
    ·rw [r.fr i _ z] at eb;cases eb
  exact CJ pg pb hl'.2 (λA2 τ2 ρ2 G2 n2 r=>hs _ (.inr ((X _ _ _ _ r.r).trans JL))) (λo m hq=>(k o m hq).base b1 h.r.dm) _ _ (λA2 τ2 ρ2 G2 n2 r=>D1.up (X _ _ _ _ r.r)) _ _ _ _ _ h2 hq⟩
end
def DSp (W:List PyData->Nat->QD->Prop) (fr:Bool):Sp3:=λts G q=>∃ (D:Addr->Prop) (a:Addr) (n:Nat) (ts':List T) (ds:List PyData) (Q:QD),ts=.ref a::ts'/\Lf G a n/\D a/\Dom D G/\Dqs (rs D G) ts' ds/\W ds n Q/\∀ x d G' n',Q d n'->Ext a G G'->Lf G' a n'->Dq (rs D G') x d->(fr=true->Nw D G G' x d)->q x G'
structure Wm where
 W:List PyData->Nat->QD->Prop
 mono:∀ {ds n} {Q Q':QD},W ds n Q->(∀ d m,Q d m->Q' d m)->W ds n Q'
def dSp (w:Wm) (fr:Bool):DrD (DSp w.W fr):=⟨w.W,fr,w.mono,λ{D G a n ts ds q Q} lf da hd hs hw k=>⟨D,a,n,ts,ds,Q,rfl,lf,da,hd,hs,hw,k⟩⟩
def qmt (fr:Bool) (Q:QD):QO:=λo n=>match o with
 |.rt d b=>(fr=true->b=true)/\∃ m,n<=m/\Q d m
 |.nx _=>fr=false/\∃ m,n<=m/\Q .none m
 |_=>False
def qm5 {t:TS3} (b:PwS 0 t) (k N:Nat) (fr:Bool):Wm:=⟨λds n Q=>ds.length+1=k/\b.w (.un::(ds.map Sl.sh++List.replicate (N-(ds.length+1)) .un)) n (qmt fr Q),λ⟨h1,h2⟩ k=>⟨h1,b.mono h2 λo m h=>by
 cases o with
 |rt d f=>obtain ⟨h1,m,h2,h3⟩:=h;exact ⟨h1,m,h2,k _ _ h3⟩
 |nx ρ=>obtain ⟨h1,m,h2,h3⟩:=h;exact ⟨h1,m,h2,k _ _ h3⟩
 |bk ρ=>exact h
 |ct ρ=>exact h⟩⟩
def qa9 {t:TS3} (b:PwS 0 t) (N:List Str) (k:Nat) (fr:Bool):∀ ts G q,DSp (qm5 b k N.length fr).W fr ts G q->ts.length=k/\t { nx:=λ_ G'=>q .non G',rt:=q } (qr N ts) G:=by
 rintro ts G q ⟨D,a,n,ts',ds,Q,rfl,lf,da,hd,hs,⟨hk,hw⟩,h⟩;refine ⟨by simp [hs.length];omega,?_⟩;have DD:∀ b,(D b/\b≠a)\/b=a↔D b:=λb=>by
  by_cases e:b=a
  ·subst e;simp [da]
  ·simp [e]
 have rr:∀ H,rs (λb=>(D b/\b≠a)\/b=a) H=rs D H:=λH=>by
  have:(λb=>(D b/\b≠a)\/b=a)=D:=funext λb=>propext (DD b);rw [this]
 have ad:AD (λb=>D b/\b≠a) (λi=>if i=0 then some a else none)=D:=funext λb=>propext ⟨(λz=>by
   rcases z with z|⟨i,z⟩
   ·exact z.1
   ·simp only at z;split at z
    ·cases z;exact da
    ·cases z),(λz=>by
   by_cases e:b=a
   ·subst e;exact .inr ⟨0,rfl⟩
   ·exact .inl ⟨z,e⟩)⟩
 have ga:G a≠none:=WD lf;have r:RL 0 a (some (some (.ref a)),(qr N (.ref a::ts')).length) (λb=>D b/\b≠a) (rs (λb=>b=a) G) (λi=>if i=0 then some a else none) (qr N (.ref a::ts')) (.un::(ds.map Sl.sh++List.replicate (N.length-(ds.length+1)) .un)) G n:=by
  refine ⟨⟨JL,λb hb=>by rw [jP (D:=λb=>b=a) hb.2];exact hd b hb.1,λi p e=>?_,λi p e=>?_,λi j p e e'=>?_,by simp [qr,hs.length],λi d' e=>?_,λi es e=>?_⟩,rfl,by simp [qr],rfl,lf,⟨by simp [qr],rfl⟩⟩
  ·split at e
   ·cases e;unfold rs;exact zH rfl
   ·cases e
  ·split at e
   ·cases e;exact ga
   ·cases e
  ·split at e
   ·split at e'
    ·rename_i h1 h2;rw [h1,h2]
    ·cases e'
   ·cases e
  ·rw [ad];cases i with
   |zero=>cases e
   |succ i=>
    rw [getElem?_cons_succ] at e;by_cases hi:i<ds.length
    ·rw [List.getElem?_append_left (by simpa using hi),getElem?_map] at e;obtain ⟨d2,e3,e4⟩:=Option.map_eq_some_iff.mp e;cases e4;obtain ⟨x,e5,hx⟩:=hs.get e3;refine ⟨x,?_,hx⟩;unfold qr;rw [List.getElem?_append_left (by simp [hs.length];exact hi),getElem?_map,getElem?_cons_succ,e5];rfl
    ·rw [List.getElem?_append_right (by simpa using hi),List.getElem?_replicate] at e;split at e<;>cases e
  ·cases i with
   |zero=>cases e
   |succ i=>
    rw [getElem?_cons_succ] at e;by_cases hi:i<ds.length
    ·rw [List.getElem?_append_left (by simpa using hi),getElem?_map] at e;obtain ⟨d2,e3,e4⟩:=Option.map_eq_some_iff.mp e;cases e4
    ·rw [List.getElem?_append_right (by simpa using hi),List.getElem?_replicate] at e;split at e<;>cases e
 have xe:∀ {G'},Ex (rs (λb=>b=a) G) G'->Ext a G G':=λe b o n x=>e b o (by rw [jP (D:=λb=>b=a) n];exact x);refine b.ok r hw λo m hq=>?_;cases o with
 |rt d f=>
  intro x G' E L Dx0 N;have Dx:=Dx0;rw [rr] at Dx;obtain ⟨hq1,m2,hm,hq2⟩:=hq;refine h x d G' m2 hq2 (xe E) (L.mono (by omega)) Dx λz=>?_;rcases N (hq1 z) with h2|⟨p,xs,ds',h1,h2,c,g,f'⟩
  ·exact .inl h2
  have np:p≠a:=by
   rintro rfl;rw [h1] at Dx0;cases Dx0 with
   |lst g0 _=>exact (qJ g0).1 (.inr rfl)
  refine .inr ⟨p,xs,ds',h1,h2,by rw [jP (D:=λb=>b=a) np] at c;exact c,g,f'.up (jc λb z=>?_)⟩;rcases z with z|z
  ·exact .inl ((DD b).mpr z)
  ·exact .inr z
 |nx ρ=>
  obtain ⟨hq1,m2,hm,hq2⟩:=hq;exact λA τ G' r'=>h .non .none G' m2 hq2 (xe r'.r.ex) (r'.lf.mono (by omega)) .non λz=>by rw [hq1] at z;cases z
 |bk ρ=>exact hq.elim
 |ct ρ=>exact hq.elim
end Pu
namespace Pu
open PySem L2 L3
open Bk (Lf Ext Dl Wk Dr)
def okW:QO:=λo _=>match o with|.nx _=>True|.ct _=>True|_=>False
def qpk (K:Int):TE3:=o3 zK (c3 (.int 1)) (cb3 qg8 (qc (c3 (.int K)) (qc (cb3 EG (qc (v3 0) qk)) qk)))
def qlM {i:Nat} {τ:St3} {t:T} {G:Gp} {q:Q3} (h:τ[i]?=some (some t)):v3 i τ G q=q t G:=by unfold v3;rw [h]
def qo7 (K:Int) (R:TS3):TS3:=qR (R0 (QM (qc (qpk K) qk)) (gn3 1) (qR (zn (cb3 Bk.ZL (qc (v3 0) (qc (v3 1) qk))) (gn3 2)) R)) (qT (c3 (.bl true)))
def qc4 {R:TS3} (b:PwS 2 R) (N:List Str) (K:Int) (M:Nat) (hK:0<=K/\K<=60) (hN:N.length=M+3) (h:∀ k:Nat,k<=60->b.w ([.un,.sh (.int k),.un]++List.replicate M .un) 0 okW):∀ ts G q,W8 ts G q->ts.length=1/\qo7 K R { nx:=λ_ G'=>q .non G',rt:=q } (qr N ts) G:=by
 rintro ts G q ⟨a,ns,rfl,hG,hl,hq⟩;refine ⟨rfl,?_⟩;have s0:(qr N [T.ref a])[0]?=some (some (.ref a)):=by simp [qr]
 have gl:getL G a=some (ns.map T.int):=by unfold getL;rw [hG]
 simp only [qo7,qR,R0,QM,qpk,qc,qk,o3,c3,cb3,v3,s0,EG,gl,qg8,zK,length_map];have cnt:((1+(if ((ns.length:Nat):Int)<K then ((ns.length:Nat):Int) else K)).toNat)<=61:=by split<;>omega
 refine ⟨⟨by split<;>omega,by split<;>omega⟩,?_⟩;refine D5 _ (λ_ τ G'=>G' a=some (.frz (ns.map T.int))/\τ[0]?=some (some (.ref a))/\τ.length=M+3) ⟨hG,s0,by simp [qr,hN]⟩ (λ_ _ _ _ _=>True.intro) ?_ ?_
 ·rintro i z τ G' nx hz ⟨gA,t0,tl⟩ hn;obtain ⟨hi,rfl⟩:=qai hz;have hi2:i<=60:=by omega
  have t1:(τ.set 1 (some (T.int (0+(i:Int)))))[0]?=some (some (.ref a)):=by rw [getElem?_set,if_neg (by omega)];exact t0
  have t2:(τ.set 1 (some (T.int (0+(i:Int)))))[1]?=some (some (T.int (0+(i:Int)))):=by rw [getElem?_set,if_pos rfl,if_pos (by omega)]
  show v3 0 (τ.set 1 (some (T.int (0+(i:Int))))) G' (λx G1=>v3 1 (τ.set 1 (some (T.int (0+(i:Int))))) G1 λy G2=>Bk.ZL [x,y] G2 λz G3=>R _ ((τ.set 1 (some (T.int (0+(i:Int))))).set 2 (some z)) G3);rw [qlM t1,qlM t2];refine ⟨a,_,ns,rfl,gA,hl,by omega,by omega,λp o c hp ho=>?_⟩;have pa:a≠p:=by rintro rfl;rw [gA] at hp;cases hp
  have r:RL 2 p (some (some (.ref a)),M+3) (λ_=>False) G' (λj=>if j=2 then some p else none) ((τ.set 1 (some (T.int (0+(i:Int))))).set 2 (some (.ref p))) ([.un,.sh (.int i),.un]++List.replicate M .un) (gu G' p (.lst [.int o,.int c,.int 0])) 0:=by
   refine ⟨⟨V3 hp,λb z=>z.elim,λj q e=>?_,λj q e=>?_,λj k q e e'=>?_,by simp [tl],λj d e=>?_,λj ds e=>?_⟩,rfl,by rw [getElem?_set,if_pos rfl,if_pos (by simp;omega)],rfl,⟨o,c,0,qG,ho,by omega,by omega⟩,⟨by rw [getElem?_set,if_neg (by omega)];exact t1,by simp [tl]⟩⟩
   ·split at e
    ·cases e;exact hp
    ·cases e
   ·split at e
    ·cases e;rw [qG];simp
    ·cases e
   ·split at e
    ·split at e'
     ·rename_i h1 h2;rw [h1,h2]
     ·cases e'
    ·cases e
   ·match j,e with
    |0,e=>cases e
    |1,e=>
     cases e;refine ⟨.int (0+(i:Int)),by rw [getElem?_set,if_neg (by omega)];exact t2,?_⟩;rw [Int.zero_add];exact .int _
    |2,e=>cases e
    |j+3,e=>
     simp only [cons_append,List.nil_append,getElem?_cons_succ,List.getElem?_replicate] at e;split at e<;>cases e
   ·match j,e with
    |0,e=>cases e
    |1,e=>cases e
    |2,e=>cases e
    |j+3,e=>
     simp only [cons_append,List.nil_append,getElem?_cons_succ,List.getElem?_replicate] at e;split at e<;>cases e
  refine b.ok r (h i hi2) λo' m ho'=>?_;cases o' with
  |nx ρ'=>exact λA τ' G2 r2=>hn _ _ ⟨r2.r.ex _ _ gA,r2.tz.1,r2.tz.2⟩
  |ct ρ'=>exact λA τ' G2 r2=>hn _ _ ⟨r2.r.ex _ _ gA,r2.tz.1,r2.tz.2⟩
  |bk ρ'=>exact ho'.elim
  |rt d f=>exact ho'.elim
 ·rintro τ G' ⟨gA,t0,tl⟩;exact hq G'
def KK {G:Gp} {ts:List T} (h:Dqs G ts []):ts=[]:=by cases h;rfl
def qoE {G:Gp} {ts:List T} {i:Int} (h:Dqs G ts [.int i]):ts=[.int i]:=by
 cases h with
 |cons a b=>cases b;cases a;rfl
def lfc {G:Gp} {a:Addr} {n c:Nat} (h:Lf G a ((n:Int)+(c:Int))):Lf G a ((n+c:Nat):Int):=by rw [Int.natCast_add];exact h
def DW:DrD Bk.qK:=⟨λds n Q=>∃ m:Int,ds=[.int m]/\(1<=m/\m<1073741824)/\n<1000000000/\∀ d:Int,0<=d->d<m->Q (.int d) (n+1),false,
 λ⟨m,h1,h2,h3,h4⟩ k=>⟨m,h1,h2,h3,λd x y=>k _ _ (h4 d x y)⟩,λ{D G a n ts ds q Q} lf da hd hs ⟨m,h1,h2,h3,h4⟩ k=>by
 subst h1;have:=qoE hs;subst this;exact ⟨a,n,m,rfl,h2.1,h2.2,lf,by omega,λd G' x y L E=>k _ _ G' (n+1) (h4 d x y) E (lfc (c:=1) L) (.int d) (λz=>by cases z)⟩⟩
def qdQ:DrD Bk.jI:=⟨λds n Q=>ds=[]/\n<10000000/\∀ r c:Int,1<=r/\r<=16->1<=c/\c<=16->Q (.tuple [.int r,.int c]) (n+4),false,
 λ⟨h1,h3,h4⟩ k=>⟨h1,h3,λr c x y=>k _ _ (h4 r c x y)⟩,λ{D G a n ts ds q Q} lf da hd hs ⟨h1,h3,h4⟩ k=>by
 subst h1;have:=KK hs;subst this;exact ⟨a,n,rfl,lf,by omega,λr c G' a1 a2 a3 a4 L E=>k _ _ G' (n+4) (h4 r c ⟨a1,a2⟩ ⟨a3,a4⟩) E (lfc (c:=4) L) (.tup (.cons (.int _) (.cons (.int _) .nil))) (λz=>by cases z)⟩⟩
def qfH:DrD Bk.QQ:=⟨λds n Q=>ds=[]/\n<1000000/\∀ r c b p,Dr (.rests r c b p) 16 16 32->Q (Pv.dlD (.rests r c b p)) (n+10),false,
 λ⟨h1,h3,h4⟩ k=>⟨h1,h3,λr c b x z=>k _ _ (h4 r c b x z)⟩,λ{D G a n ts ds q Q} lf da hd hs ⟨h1,h3,h4⟩ k=>by
 subst h1;have:=KK hs;subst this;exact ⟨a,n,rfl,lf,by omega,λr c b x G' a1 L E=>k _ _ G' (n+10) (h4 r c b x a1) E (lfc (c:=10) L) (Pv.qgZ _ _) (λz=>by cases z)⟩⟩
def qhQ (n:Nat):FnD (Bk.jv (n+1)):=⟨λds=>match ds with|[d,e]=>cif (d=e/\Bk.EQ n d) (some (.bool true)) none|_=>none,false,λ{D G xs ds v q} hx hd hf k=>by
 split at hf
 ·unfold cif at hf;split at hf
  ·rename_i c;cases hf;obtain ⟨rfl,c⟩:=c;cases hx with
   |cons x b=>cases b with
    |cons y b=>
     cases b;exact ⟨_,_,_,rfl,(x.up JL).dp,(y.up JL).dp,c,λG' E=>k _ _ E (.bl true) (λz=>by cases z)⟩
  ·cases hf
 ·cases hf⟩
def qgd {n:Nat} {d:PyData} (h:Bk.EQ n d):(qhQ n).f [d,d]=some (.bool true):=zH ⟨rfl,h⟩
def qiV {l:Nat} {t:TE3} {b:PuE t}:(eOf (l:=l) b).w=λρ n Q=>∃ d,b.f ρ=some d/\Q d n:=id rfl
def qlj {l:Nat} {t:TT3} {b:PuC t}:(cOf (l:=l) b).w=λρ n Q=>∃ d,b.f ρ=some d/\Q d n:=id rfl
def qjd {l:Nat} {t:TA3} {b:PuA t}:(aOf (l:=l) b).w=λρ n Q=>∃ d,b.f ρ=some d/\Q d n:=id rfl
def qi8 {l:Nat} {t:TI3} {b:PuI t}:(iOf (l:=l) b).w=λρ n Q=>∃ d,b.f ρ=some d/\Q d n:=id rfl
def qoZ {l:Nat} {r:R3} {ta tb:TE3} {R:OpD r} {a:PwE l ta} {b:PwE l tb}:(eO R a b).w=λρ n Q=>a.w ρ n λx n1=>b.w ρ n1 λy n2=>∃ v,R.f x y=some v/\Q v n2:=id rfl
def qah {l:Nat} {ta:TE3} {tr:TA3} {a:PwE l ta} {r:PwA l tr}:(VT a r).w=λρ n Q=>a.w ρ n λx n1=>r.w ρ n1 λxs n2=>Q (x::xs) n2:=id rfl
def qfs {l:Nat} {t:TA3} {b:PwA l t} {hn:Tru (Nat.ble b.k 1000)}:(qmg b hn).w=λρ n Q=>b.w ρ n λxs n1=>Q (.tuple xs) n1:=id rfl
def qaZ {l:Nat} {r:List T->Gp->Q3->Prop} {t:TA3} {R:FnD r} {b:PwA l t}:(qg4 R b).w=λρ n Q=>b.w ρ n λxs n1=>∃ v,R.f xs=some v/\Q v n1:=id rfl
def qlb {l:Nat} {r:List T->Gp->Q3->Prop} {t:TA3} {R:DrD r} {b:PwA l t}:(eDr R b).w=λρ n Q=>b.w ρ n λxs n1=>R.W xs n1 Q:=id rfl
def qk2 {l:Nat} {t:TE3} {b:PwE l t}:(cTb b).w=λρ n Q=>b.w ρ n λd n1=>∃ k,asB d=some k/\Q k n1:=id rfl
def qh2 {l:Nat} {t:TT3} {ta tb:TE3} {c:PwC l t} {a:PwE l ta} {b:PwE l tb}:(eIf c a b).w=λρ n Q=>c.w ρ n λk n1=>if k then a.w ρ n1 Q else b.w ρ n1 Q:=id rfl
def qeo {l:Nat} {t:TI3} {b:PuI t}:(iOf (l:=l) b).nm=b.nm:=id rfl
def qfE {l:Nat} {t:TE3} {b:PuE t}:(eOf (l:=l) b).nw=b.nw:=id rfl
def qiX {l:Nat} {r:R3} {ta tb:TE3} {R:OpD r} {a:PwE l ta} {b:PwE l tb}:(eO R a b).nw=R.nw:=id rfl
def qbt {l:Nat} {t:TA3} {b:PwA l t} {hn:Tru (Nat.ble b.k 1000)}:(qmg b hn).nw=false:=id rfl
def MA {l:Nat} {r:List T->Gp->Q3->Prop} {t:TA3} {R:FnD r} {b:PwA l t}:(qg4 R b).nw=R.nw:=id rfl
def qfD {l:Nat} {r:List T->Gp->Q3->Prop} {t:TA3} {R:DrD r} {b:PwA l t}:(eDr R b).nw=R.nw:=id rfl
def qeV {l:Nat} {t:TT3} {ta tb:TE3} {c:PwC l t} {a:PwE l ta} {b:PwE l tb}:(eIf c a b).nw=false:=id rfl
def qbc {l:Nat}:(qam (l:=l)).w=λρ n Q=>Q (.nx ρ) n:=id rfl
def qfn {b:Rho->Nat->QO->Prop} {Q:QO} {ρ:Rho} {n:Nat}:sqw b Q (.nx ρ) n=b ρ n Q:=id rfl
def qd2 {b:Rho->Nat->QO->Prop} {Q:QO} {d:PyData} {f:Bool} {n:Nat}:sqw b Q (.rt d f) n=Q (.rt d f) n:=id rfl
def qky {l:Nat} {c:TT3} {t u:TS3} {pc:PwC l c} {x:PwS l t} {y:PwS l u}:(wIf pc x y).w=λρ n Q=>pc.w ρ n λk n1=>if k then x.w ρ n1 Q else y.w ρ n1 Q:=id rfl
def qdL {l:Nat} {t:TE3} {x:PwE l t}:(qhM x).w=λρ n Q=>x.w ρ n λd n1=>Q (.rt d x.nw) n1:=id rfl
def qew {l:Nat} {t:TE3} {x:PwE l t} {i:Nat} {m:List Bool} {hm:Tru (x.fv.all (mkb m))} {hl:Tru (!mkb m l&&(i != l&&i != 0))}:(qcC x i m hm hl).w=λρ n Q=>x.w ρ n λd n1=>Q (.nx (NR m x.nw i d ρ)) n1:=id rfl
def qbj {l:Nat} {t:TE3} {g:TG3} {x:PwE l t} {pg:PuG g} {m:List Bool} {hm:Tru (x.fv.all (mkb m))} {hl:Tru (!mkb m l&&pg.tg.all (λi=>i != l&&i != 0))}:(qim x pg m hm hl).w=λρ n Q=>x.w ρ n λd n1=>∃ bs,pg.f d=some bs/\Q (.nx (JI (dm m ρ) bs)) n1:=id rfl
def qe1 {l:Nat} {wi:TI3} {g:TG3} {tb:TS3} {pi:PwI l wi} {pg:PuG g} {pb:PwS l tb} {m:List Bool} {hm:Tru (pi.fv.all (mkb m))} {hl:Tru (!mkb m l&&pg.tg.all (λi=>i != l&&i != 0))}:(qox pi pg pb m hm hl).w=λρ n Q=>pi.w ρ n λds n1=>qch pg.f pb.w ds (if pi.nm then ρ else dm m ρ) n1 Q:=id rfl
def qa8 {ds:List PyData} {n:Nat} {Q:QD}:DW.W ds n Q=(∃ m:Int,ds=[.int m]/\(1<=m/\m<1073741824)/\n<1000000000/\∀ d:Int,0<=d->d<m->Q (.int d) (n+1)):=id rfl
def LY {ds:List PyData} {n:Nat} {Q:QD}:qdQ.W ds n Q=(ds=[]/\n<10000000/\∀ r c:Int,1<=r/\r<=16->1<=c/\c<=16->Q (.tuple [.int r,.int c]) (n+4)):=id rfl
def LQ {ds:List PyData} {n:Nat} {Q:QD}:qfH.W ds n Q=(ds=[]/\n<1000000/\∀ r c b p,Dr (.rests r c b p) 16 16 32->Q (Pv.dlD (.rests r c b p)) (n+10)):=id rfl
def qlg {w:Wm} {fr:Bool}:(dSp w fr).W=w.W:=id rfl
def qdM {w:Wm} {fr:Bool}:(dSp w fr).nw=fr:=id rfl
def qaO {Q:QD} {d:PyData} {b:Bool} {n:Nat}:qmt false Q (.rt d b) n=∃ m,n<=m/\Q d m:=propext ⟨λh=>h.2,λh=>⟨λz=>(Bool.false_ne_true z).elim,h⟩⟩
def qey {ρ:Rho} {n:Nat}:okW (.nx ρ) n=True:=id rfl
def qi2 {α:Type} {v:α} {P:α->Prop}:(∃ d,some v=some d/\P d)=P v:=propext ⟨λ⟨d,h1,h2⟩=>by cases h1;exact h2,λh=>⟨v,rfl,h⟩⟩
def qdN {v:Int} {P:Int->Prop}:(∃ m:Int,[PyData.int v]=[.int m]/\P m)=P v:=propext ⟨λ⟨d,h1,h2⟩=>by cases h1;exact h2,λh=>⟨v,rfl,h⟩⟩
def qfz {m:List Bool} {nw:Bool} {i:Nat} {d:Dl} {ρ:Rho}:NR m nw i (Pv.dlD d) ρ=(dm m ρ).set i (.sh (Pv.dlD d)):=by cases d<;>exact qcF
def qek {m:List Bool} {nw:Bool} {i:Nat} {w:Wk} {ρ:Rho}:NR m nw i (Pv.Wk.d w) ρ=(dm m ρ).set i (.sh (Pv.Wk.d w)):=by cases w<;>exact qcF
def DE {l:Nat} {t u:TS3} {x:PwS l t} {y:PwS l u} {ρ:Rho} {n:Nat} {Q:QO} (h:∀ Y:Rho->Nat->QO->Prop,Y=y.w->x.w ρ n (sqw Y Q)):(NN x y).w ρ n Q:=h _ rfl
def qav {ks:List Int} {d:Int} {P:PyData->Prop} (h0:0<=d) (h1:d<(ks.length:Int)) (h:∀ k∈ks,P (.int k)):∃ v,L2.atI (ks.map PyData.int) d=some v/\P v:=by
 obtain ⟨i,rfl⟩:=Int.eq_ofNat_of_zero_le h0;have hi:i<ks.length:=by omega
 refine ⟨.int ks[i],?_,h _ (List.getElem_mem hi)⟩;have:=atN (xs:=ks.map PyData.int) (k:=i) (by simpa using hi);rw [getElem?_map,getElem?_eq_getElem hi] at this;exact this
structure Mn (bw:Rho->Nat->QO->Prop):Prop where
 h:∀ ρ n (Q Q':QO),bw ρ n Q->(∀ o m,Q o m->Q' o m)->bw ρ n Q'
def PwS.mn {l:Nat} {t:TS3} (b:PwS l t):Mn b.w:=⟨λ_ _ _ _ h k=>b.mono h k⟩
section
variable {l:Nat} {g:TG3} {tb:TS3}
def LD {gf:PyData->Option (List (Nat×PyData))} {bw:Rho->Nat->QO->Prop} {α:Type} {f:α->PyData} (xs:List α) (mono:Mn bw) (I:Nat->Rho->Nat->Prop) {ρ:Rho} {n:Nat} {Q:QO} (h0:I 0 ρ n)
  (hs:∀ i x ρ n,xs[i]?=some x->I i ρ n->∃ bs,gf (f x)=some bs/\bw (JI ρ bs) n λo m=>match o with|.nx ρ'=>I (i+1) ρ' m|.ct ρ'=>I (i+1) ρ' m|.bk ρ'=>Q (.nx ρ') m|.rt d b=>Q (.rt d b) m)
  (k:∀ ρ n,I xs.length ρ n->Q (.nx ρ) n):qch gf bw (xs.map f) ρ n Q:=by
 have key:∀ (r:List α) (i:Nat) (ρ:Rho) (n:Nat),xs.drop i=r->i<=xs.length->I i ρ n->qch gf bw (r.map f) ρ n Q:=by
  intro r;induction r with
  |nil=>
   intro i ρ n e hi h;have:i=xs.length:=by
    have:=congrArg List.length e;simp at this;omega
   subst this;exact k ρ n h
  |cons x r ih=>
   intro i ρ n e hi h;have hl:i<xs.length:=by
    have:=congrArg List.length e;simp at this;omega
   have e':=List.drop_eq_getElem_cons hl;rw [e] at e';injection e' with e1 e2;obtain ⟨bs,h1,h2⟩:=hs i x ρ n (by rw [getElem?_eq_getElem hl,e1]) h;refine ⟨bs,h1,mono.h _ _ _ _ h2 λo m h=>?_⟩;cases o with
   |nx ρ'=>exact ih (i+1) ρ' m e2.symm hl h
   |ct ρ'=>exact ih (i+1) ρ' m e2.symm hl h
   |bk ρ'=>exact h
   |rt d b=>exact h
 exact key xs 0 ρ n (by simp) (Nat.zero_le _) h0
end
def qbz {α β:Type} {x:α} {f:α->Option β}:(some x).bind f=f x:=id rfl
def qdH {α β:Type} {x:α} {f:α->β}:(some x).map f=some (f x):=id rfl
def qk4 {α:Type} {x:α} {r:List α}:(x::r).length=r.length+1:=id rfl
def qkK {α:Type}:([]:List α).length=0:=id rfl
def qit {α:Type} {x y:α} {r:List α}:(x::r).set 0 y=y::r:=id rfl
def qlf {α:Type} {x y:α} {r:List α} {i:Nat}:(x::r).set (i+1) y=x::r.set i y:=id rfl
def qjk {α:Type} {r:List α}:r++[]=r:=List.append_nil r
def qi6 {α:Type} {x:α} {r s:List α}:(x::r)++s=x::(r++s):=id rfl
def qkd {α:Type} {s:List α}:[]++s=s:=id rfl
def qhU {n:Nat}:0+n=n:=Nat.zero_add n
def qiH {p:Prop}:(True/\p)=p:=true_and p
def qll {α:Type} {a b:α} {i:Decidable True}:@ite α True i a b=a:=if_pos trivial
def qlk {α:Type} {a b:α} {i:Decidable False}:@ite α False i a b=b:=if_neg not_false
def qix:(false=true)=False:=Bool.false_eq_true
def qj6:(!true)=false:=id rfl
def qkH:(!false)=true:=id rfl
def qkn {i:Decidable True}:@decide True i=true:=decide_true i
def qiG {i:Decidable False}:@decide False i=false:=decide_false i
def ai{a b:Prop}(x:a)(y:b):a/\b:=⟨x,y⟩
def pwA:=(ai (ai (ai (ai (ai (ai (ai @Pu.qiV @Pu.qlj) (ai @Pu.qjd (ai @Pu.qi8 @Pu.qoZ))) (ai (ai @Pu.qah (ai @Pu.qfs @Pu.qaZ)) (ai @Pu.qlb (ai @Pu.qk2 @Pu.qh2)))) (ai (ai (ai @Pu.qeo (ai @Pu.qfE @Pu.qiX)) (ai @Pu.qbt (ai @Pu.MA @Pu.qfD))) (ai (ai @Pu.qeV (ai @Pu.qbc @Pu.qfn)) (ai @Pu.qd2 (ai @Pu.qky @Pu.qdL))))) (ai (ai (ai (ai @Pu.qew @Pu.qbj) (ai @Pu.qe1 (ai @Pu.qa8 @Pu.LY))) (ai (ai @Pu.LQ (ai @Pu.qlg @Pu.qdM)) (ai @Pu.qaO (ai @Pu.qey @Pu.qdN)))) (ai (ai (ai @Pu.qfz (ai @Pu.qek @Pu.qjl)) (ai @Pu.qpn (ai @Pu.qfl @Pu.qjj))) (ai (ai @Pu.qdA (ai @Pu.qoM @Pu.qdI)) (ai @Pu.qal (ai @Pu.qdT @Pu.qd6)))))) (ai (ai (ai (ai (ai @Pu.qbJ @Pu.qlz) (ai @Pu.qlS (ai @Pu.qeb @Pu.qki))) (ai (ai @Pu.qbD (ai @Pu.qb1 @Pu.qe7)) (ai @Pu.qfd (ai @Pu.qjt @Pu.qj2)))) (ai (ai (ai @Pu.qjZ (ai @Pu.qa4 @Pu.qa2)) (ai @Pu.qeY (ai @Pu.NW @Pu.qi9))) (ai (ai @Pu.qdJ (ai @Pu.qeE @Pu.qfj)) (ai @Pu.qeu (ai @Pu.qfh @Pu.qea))))) (ai (ai (ai (ai @Pu.NV (ai @Pu.qaU @Pu.qb3)) (ai @Pu.qjI (ai @Pu.qjM @Pu.qfm))) (ai (ai @Pu.qdS (ai @Pu.qdD @Pu.qaR)) (ai @Pu.qeS (ai @Pu.qfg @Pu.qeT)))) (ai (ai (ai @Pu.qbr (ai @Pu.qbh @Pu.qat)) (ai @Pu.qph (ai @Pu.qee @Pu.qbO))) (ai (ai @Pu.qdG (ai @Pu.qa5 @Pu.qef)) (ai @Pu.qk8 (ai @Pu.qec @Pu.qbo))))))) (ai (ai (ai (ai (ai (ai @Pu.qdP @Pu.qb2) (ai @Pu.qfx (ai @Pu.qdR @Pu.qd9))) (ai (ai @Pu.qdF (ai @Pu.qjC @Pu.qaW)) (ai @Pu.qaA (ai @Pu.LN @Pu.LJ)))) (ai (ai (ai @Pu.LU (ai @Pu.qd3 @Pu.qej)) (ai @Pu.qae (ai @Pu.qbq @Pu.qad))) (ai (ai @Pu.NS (ai @Pu.qbR @Pu.K8)) (ai @Pu.qbp (ai @Pu.qeJ @Pu.qoX))))) (ai (ai (ai (ai @Pu.qpd @Pu.qk3) (ai @Pu.qik (ai @Pu.qbG @Pu.qay))) (ai (ai @Pu.qd7 (ai @Pu.qib @Pu.qka)) (ai @Pu.at0 (ai @Pu.at1 @Pu.at2)))) (ai (ai (ai @Pu.at3 (ai @Pu.at4 @Pu.at5)) (ai @Pu.eqS (ai @Pu.eqI @Pu.qpi))) (ai (ai @Pu.qeM (ai @Pu.qft @Pu.qff)) (ai @Pu.NX (ai @Pu.qd0 @Pu.qkl)))))) (ai (ai (ai (ai (ai @Pu.qlq @Pu.qif) (ai @Pu.qeC (ai @Pu.qe0 @Pu.qel))) (ai (ai @Pu.qbK (ai @Pu.qes @Pu.qfo)) (ai @Pu.qiQ (ai @Pu.qi3 @Pu.qiW)))) (ai (ai (ai @Pu.qjF (ai @Pu.qhZ @Pu.qcF)) (ai @Pu.qeR (ai @Pu.qj0 @Pu.qpf))) (ai (ai @Pu.qo8 (ai @Pu.qoS @Pu.qh7)) (ai @Pu.qlN (ai @Pu.qjW @Pu.ql1))))) (ai (ai (ai (ai @Pu.qj5 (ai @Pu.qo9 @Pu.qd8)) (ai @Pu.qeB (ai @Pu.qdX @Pu.qi2))) (ai (ai @Pu.qbz (ai @Pu.qdH @Pu.qk4)) (ai @Pu.qkK (ai @Pu.qit @Pu.qlf)))) (ai (ai (ai @Pu.qjk (ai @Pu.qi6 @Pu.qkd)) (ai @Pu.qhU (ai @Pu.qiH @Pu.qll))) (ai (ai @Pu.qlk (ai @Pu.qix @Pu.qj6)) (ai @Pu.qkH (ai @Pu.qkn @Pu.qiG))))))))
end Pu
namespace Bk
open PySem L2 L3
def nzW:Wk->Prop
 |.step d a _=>d≠0\/a≠0
 |_=>True
def QN:Sp3:=λts G q=>∃ a n,ts=[.ref a]/\Lf G a n/\n<1000000/\∀ (w:Wk) G',w.Ok->nzW w->Lf G' a (n+60)->Ext a G G'->q w.t G'
def SB:∀ ts G q,QN ts G q->ts.length=1/\YA qK VR (qcl q) (qr ["_law_left_here","_law_way","_law_lying","_law_high","_law_wide","_law_down","_law_along","_law_pairs","_law_far","_law_turn","_law_pair"] ts) G:=by
 rintro ts G q ⟨a,n,rfl,hL,hn,h⟩;refine ⟨rfl,?_⟩;unfold YA;refine jX λnx1 q1=>?_;simp only [zn,cb3,qc,v3,qr,map_cons,List.map_nil,length_cons,length_nil,Nat.zero_add,Nat.reduceAdd,Nat.add_one_sub_one,List.reduceReplicate,cons_append,List.nil_append,Nat.zero_lt_succ,getElem?_pos,getElem_cons_zero,c3,qk,gn3,set_cons_succ,set_cons_zero];refine zW hL (by omega) (by omega) (by omega) λway G1 w0 w1 L1 E1=>?_
 try simp
 rw [q1];clear q1;refine jX λnx2 q2=>?_;by_cases lt:way<4
 ·simp only [zZ,tb3,o3,v3,length_cons,length_nil,Nat.zero_add,Nat.reduceAdd,Nat.reduceLT,getElem?_pos,getElem_cons_succ,getElem_cons_zero,c3,iB,lt,decide_true,↓reduceIte,qT,jW,qc,JH,qk,sizeLine_eq,Nat.reduceLeDiff,cb3,Nat.zero_lt_succ,true_and,ixR];intro p hp;have np:=L1.ne hp;have L3':=L1.new np (ob:=.lst [.str "row",.str "column",.str "slant",.str "back"]);obtain ⟨k,rfl⟩:=Int.eq_ofNat_of_zero_le w0;have hk:k<4:=by omega
  have e1:L2.atI [T.str (Str.ofString "row"),.str (Str.ofString "column"),.str (Str.ofString "slant"),.str (Str.ofString "back")] (k:Int)=some (.str (JG k)):=by
   rcases k with _|_|_|_|k
   ·rfl
   ·rfl
   ·rfl
   ·rfl
   ·omega
  simp only [L3.ixR,ZJ qG,e1];refine ⟨a,_,rfl,L3',by omega,λm G2 m1 m2 L4 E4=>?_⟩;exact h (.line k m) _ ⟨hk,m1,m2⟩ trivial (L4.mono (by omega)) (E1.trans ((JR hp).trans E4))
 simp only [zZ,tb3,o3,v3,c3,iB,getElem?_cons_zero,getElem?_cons_succ,lt,decide_false,Bool.false_eq_true,if_false,qL];rw [q2];clear q2;refine jX λnx3 q3=>?_;by_cases lt6:way<6
 ·simp only [zZ,tb3,o3,v3,c3,iB,getElem?_cons_zero,getElem?_cons_succ,lt6,decide_true,if_true];refine jX λnx4 q4=>?_;simp only [CC,qc,cb3,v3,length_cons,length_nil,Nat.zero_add,Nat.reduceAdd,Nat.zero_lt_succ,getElem?_pos,getElem_cons_zero,c3,qk,o3,zK,ne_eq,sizeLine_eq,set_cons_succ,set_cons_zero];refine zW L1 (by omega) (by omega) (by omega) λly G2 y0 y1 L2' E2=>?_
  try simp
  refine zW L2' (by omega) (by omega) (by omega) λhi G3 h0 h1 L3' E3=>?_
  try simp
  rw [q4];clear q4;obtain ⟨hh,rfl⟩:=Int.eq_ofNat_of_zero_le h0;refine jX λnx5 q5=>?_;simp only [zn,o3,c3,cb3,qc,v3,length_cons,length_nil,Nat.zero_add,Nat.reduceAdd,Nat.zero_lt_succ,getElem?_pos,getElem_cons_zero,Nat.reduceLT,getElem_cons_succ,iC,qk,zK,ne_eq,sizeLine_eq,gn3,set_cons_succ,set_cons_zero];have dv:1<=(16:Int)/(1+(hh:Int))/\(16:Int)/(1+(hh:Int))<=16:=by
   have:hh=0\/hh=1\/hh=2\/hh=3:=by omega
   rcases this with rfl|rfl|rfl|rfl<;>decide
  refine ⟨⟨by omega,by omega⟩,zW L3' (by omega) (by omega) (by omega) λwi G4 u0 u1 L4 E4=>?_⟩
  try simp
  rw [q5];clear q5;obtain ⟨ww,rfl⟩:=Int.eq_ofNat_of_zero_le u0;have pr:(hh+1)*(ww+1)<=16:=by
   have:hh=0\/hh=1\/hh=2\/hh=3:=by omega
   rcases this with rfl|rfl|rfl|rfl<;>simp at u1<;>omega
  simp only [qT,o3,JH,qc,jW,c3,v3,length_cons,length_nil,Nat.zero_add,Nat.reduceAdd,Nat.reduceLT,getElem?_pos,getElem_cons_succ,getElem_cons_zero,qk,sizeLine_eq,Nat.reduceLeDiff,ixR,true_and];intro p hp;have np:=L4.ne hp;have X4:=E1.trans (E2.trans (E3.trans E4));have z1:(1:Int)+(hh:Int)=((hh+1:Nat):Int):=by omega
  have z2:(1:Int)+(ww:Int)=((ww+1:Nat):Int):=by omega
  rw [z1,z2];have hl:ly=0\/ly=1:=by omega
  rcases hl with rfl|rfl
  ·simp only [L3.ixR,ZJ qG,qm3];exact h (.block (hh+1) (ww+1)) _ ⟨by omega,by omega,by omega,by omega,pr⟩ trivial ((L4.new np).mono (by omega)) (X4.trans (JR hp))
  ·simp only [L3.ixR,ZJ qG,qn5];exact h (.block (ww+1) (hh+1)) _ ⟨by omega,by omega,by omega,by omega,by rw [Nat.mul_comm];exact pr⟩ trivial ((L4.new np).mono (by omega)) (X4.trans (JR hp))
 simp only [zZ,tb3,o3,v3,c3,iB,getElem?_cons_zero,getElem?_cons_succ,lt6,decide_false,Bool.false_eq_true,if_false,qL];rw [q3];clear q3;refine jX λnx4 q4=>?_;by_cases lt8:way<8
 ·simp only [zZ,tb3,o3,v3,c3,iB,getElem?_cons_zero,getElem?_cons_succ,lt8,decide_true,if_true];refine jX λnx5 q5=>?_;simp only [CC,qc,o3,cb3,v3,length_cons,length_nil,Nat.zero_add,Nat.reduceAdd,Nat.zero_lt_succ,getElem?_pos,getElem_cons_zero,c3,qk,iI,set_cons_succ,set_cons_zero];refine zW L1 (by omega) (by omega) (by omega) λd G2 d0 d1 L2' E2=>?_
  try simp
  refine zW L2' (by omega) (by omega) (by omega) λal G3 a0 a1 L3' E3=>?_
  try simp
  rw [q5];clear q5;obtain ⟨D,hD⟩:∃ D,D=d-3:=⟨_,rfl⟩
  obtain ⟨A,hA⟩:∃ A,A=al-4:=⟨_,rfl⟩
  rw [← hD,← hA];refine jX λnx6 q6=>?_;simp only [zZ,tb3,o3,cb3,qc,v3,length_cons,length_nil,Nat.zero_add,Nat.reduceAdd,Nat.zero_lt_succ,getElem?_pos,getElem_cons_zero,c3,qk,zS,Z0,Bool.false_eq_true,↓reduceIte,qT,jW,Nat.reduceLT,getElem_cons_succ,iC,ju,decide_eq_true_eq,NP,zK,ne_eq,sizeLine_eq,Nat.reduceLeDiff,true_and,Int.add_zero,qL,exists_and_left,Bool.exists_bool];refine zW L3' (by omega) (by omega) (by omega) λsix G4 s0 s1 L4 E4=>?_;have X4:=E1.trans (E2.trans (E3.trans E4));by_cases k0:six=0
  ·subst k0;simp only [decide_true,↓reduceIte];refine ⟨cm (by omega) (by omega),cm (by omega) (by omega),?_⟩;have fin:∀ e:Int,0<=e->e<=1->(D≠0\/3*A+e≠0/\A+e≠0)->qK [.ref a,.int 4] G4 λx G'=>(match T.int 1,x with|.int i,.int j=>q (.tup [.str (Str.ofString "step"),.int (5*D),.int (3*A+e),.int (i+j)]) G'|_,_=>False):=by
    intro e e0 e1 e2;refine zW L4 (by omega) (by omega) (by omega) λm G5 m0 m1 L5 E5=>?_;obtain ⟨m',rfl⟩:=Int.eq_ofNat_of_zero_le m0;have:=h (.step (5*D) (3*A+e) (m'+1)) G5 ⟨⟨by omega,by omega⟩,⟨by omega,by omega⟩,by omega,by omega⟩ (by simp only [nzW];omega) (L5.mono (by omega)) (X4.trans E5);simp only [Wk.t] at this;rw [show ((m'+1:Nat):Int)=1+(m':Int) by omega] at this;exact this
   by_cases hD0:D=0
   ·by_cases hA0:A=0
    ·have:=fin 1 (by omega) (by omega) (by omega);simp only [hD0,Int.mul_zero,hA0,Int.zero_add,↓reduceIte] at this ⊢;exact this
    ·have:=fin 0 (by omega) (by omega) (by omega);simp only [hD0,Int.mul_zero,Int.add_zero,↓reduceIte,hA0] at this ⊢;exact this
   ·have:=fin 0 (by omega) (by omega) (by omega);simp only [Int.add_zero,hD0,↓reduceIte] at this ⊢;exact this
  ·simp [k0];rw [q6];clear q6;have fin:∀ e:Int,0<=e->e<=1->(D≠0\/3*A+e≠0/\A+e≠0)->VR [.ref a] G4 λx G'=>q (.tup [.str (Str.ofString "step"),.int D,.int (A+e),x]) G':=by
    intro e e0 e1 e2;refine ⟨a,_,rfl,L4,by omega,λm G5 m0 m1 L5 E5=>?_⟩;exact h (.step D (A+e) m) G5 ⟨⟨by omega,by omega⟩,⟨by omega,by omega⟩,by omega,by omega⟩ (by simp only [nzW];omega) (L5.mono (by omega)) (X4.trans E5)
   by_cases hD0:D=0
   ·by_cases hA0:A=0
    ·have:=fin 1 (by omega) (by omega) (by omega);simp only [hD0,hA0,Int.zero_add,qT,jW,qc,c3,v3,length_cons,length_nil,Nat.zero_add,Nat.reduceAdd,Nat.reduceLT,getElem?_pos,getElem_cons_succ,getElem_cons_zero,o3,cb3,ju,zS,Z0,decide_true,Bool.false_eq_true,↓reduceIte,qk,NP,zK,Nat.zero_lt_succ,sizeLine_eq,Nat.reduceLeDiff,true_and] at this ⊢;exact this
    ·have:=fin 0 (by omega) (by omega) (by omega);simp only [hD0,Int.add_zero,qT,jW,qc,c3,v3,length_cons,length_nil,Nat.zero_add,Nat.reduceAdd,Nat.reduceLT,getElem?_pos,getElem_cons_succ,getElem_cons_zero,o3,cb3,ju,zS,Z0,decide_true,Bool.false_eq_true,↓reduceIte,hA0,decide_false,qk,NP,zK,Nat.zero_lt_succ,sizeLine_eq,Nat.reduceLeDiff,true_and] at this ⊢;exact this
   ·have:=fin 0 (by omega) (by omega) (by omega);simp only [Int.add_zero,qT,jW,qc,c3,v3,length_cons,length_nil,Nat.zero_add,Nat.reduceAdd,Nat.reduceLT,getElem?_pos,getElem_cons_succ,getElem_cons_zero,o3,cb3,ju,zS,Z0,hD0,decide_false,Bool.false_eq_true,↓reduceIte,qk,NP,zK,Nat.zero_lt_succ,sizeLine_eq,Nat.reduceLeDiff,true_and] at this ⊢;exact this
 simp only [zZ,tb3,o3,v3,c3,iB,getElem?_cons_zero,getElem?_cons_succ,lt8,decide_false,Bool.false_eq_true,if_false,qL];rw [q4];clear q4;refine jX λnx5 q5=>?_;simp only [CC,qc,JH,qk,length_nil,sizeLine_eq,Nat.zero_le,o3,c3,cb3,v3,length_cons,Nat.zero_add,Nat.reduceAdd,Nat.zero_lt_succ,getElem?_pos,getElem_cons_zero,zS,Z0,NP,iC,Bool.false_eq_true,↓reduceIte,zK,set_cons_succ,set_cons_zero,ne_eq,exists_and_left,Bool.exists_bool,Int.mul_zero,Int.add_zero,Int.mul_one,Int.reduceAdd,true_and];intro pp hpp;have npp:=L1.ne hpp;have Lp:=L1.new npp (ob:=.lst []);refine zW Lp (by omega) (by omega) (by omega) λfv G2 f0 f1 L2' E2=>?_;have gp2:=E2 _ _ npp qG;have X2:Ext a G G2:=E1.trans ((JR hpp).trans E2);have hf:∃ far:Int,(far=1\/far=5)/\nx5=nx5:=⟨1,.inl rfl,rfl⟩
 clear hf;have fin:∀ far:Int,far=1\/far=5->nx5 [some (.ref a),some (.int way),none,none,none,none,none,some (.ref pp),some (.int far),none,none] G2:=by
  intro far hfar;rw [q5];clear q5;refine jX λnx6 q6=>?_;simp only [R0,QM,cb3,qc,qk,v3,getElem?_cons_zero,getElem?_cons_succ];refine ⟨a,_,rfl,L2',by omega,λm G3 m1 m2 L3' E3=>?_⟩;have gp3:=E3 _ _ npp gp2;refine ⟨⟨by omega,by omega⟩,?_⟩;rw [Int.toNat_natCast];refine D5 _ (λi τ G'=>∃ ps:List (Int×Int),G' pp=some (.lst (ps.map pT))/\(1<=i->1<=ps.length)/\ps.length<=i/\ps.Nodup/\(∀ p∈ps,(-16<=p.1/\p.1<=16)/\(-16<=p.2/\p.2<=16))/\Lf G' a (n+5+2*i)/\Ext a G G'/\∃ x9 x10,τ=[some (.ref a),some (.int way),none,none,none,none,none,some (.ref pp),some (.int far),x9,x10])
   ⟨[],gp3,by omega,by simp,by simp,(by intro p hp;cases hp),by simpa using L3'.mono (by omega),X2.trans E3,none,none,rfl⟩ (λ_ _ _ _ _=>True.intro) ?_ ?_
  ·rintro i z τ G' nx hz ⟨ps,gp,i1,pl,nd,bd,L,E,x9,x10,rfl⟩ hnx;obtain ⟨hi,rfl⟩:=qai hz;simp only [gn3,set_cons_succ,set_cons_zero];refine jX λnx7 q7=>?_;simp only [zn,jW,qc,o3,v3,Int.zero_add,length_cons,length_nil,Nat.zero_add,Nat.reduceAdd,Nat.reduceLT,getElem?_pos,getElem_cons_succ,getElem_cons_zero,cb3,Nat.zero_lt_succ,c3,qk,iI,iC,sizeLine_eq,Nat.reduceLeDiff,gn3,set_cons_succ,set_cons_zero,true_and];refine zW L (by omega) (by omega) (by omega) λu G4 u0 u1 L4 E4=>?_
   try simp
   refine ⟨cm (by omega) (by omega),zW L4 (by omega) (by omega) (by omega) λv G5 v0 v1 L5 E5=>?_⟩
   try simp
   refine ⟨cm (by omega) (by omega),?_⟩;rw [q7];clear q7;have gp5:=E5 _ _ npp (E4 _ _ npp gp);have X5:=E.trans (E4.trans E5);have pe:T.tup [.int (far*(u-2)),.int (far*(v-2))]=pT (far*(u-2),far*(v-2)):=rfl;rw [pe];have pb:(-16<=far*(u-2)/\far*(u-2)<=16)/\(-16<=far*(v-2)/\far*(v-2)<=16):=by rcases hfar with rfl|rfl<;>omega
   generalize hP:(far*(u-2),far*(v-2))=P at *;have pb':(-16<=P.1/\P.1<=16)/\(-16<=P.2/\P.2<=16):=by rw [← hP];exact pb
   simp only [zZ,tb3,o3,v3,getElem?_cons_zero,getElem?_cons_succ];refine ⟨_,_,_,_,ZJ gp5,qld _ _,qeA _ _,pIn _ _,λd hd=>?_,?_⟩
   ·obtain ⟨p,_,rfl⟩:=mem_map.mp hd;exact qkq p
   ·by_cases hm:P∈ps
    ·simp only [↓reduceIte,hm,decide_true,Bool.not_true,Bool.false_eq_true,qL];exact hnx _ _ ⟨ps,gp5,λ_=>List.length_pos_of_mem hm,by omega,nd,bd,L5.mono (by omega),X5,_,_,rfl⟩
    ·simp only [↓reduceIte,hm,decide_false,Bool.not_false,WR,bm3,v3,length_cons,length_nil,Nat.zero_add,Nat.reduceAdd,Nat.reduceLT,getElem?_pos,getElem_cons_succ,getElem_cons_zero,qc,Nat.lt_add_one,qk,qfq,gp5,length_map,sizeLine_eq];refine ⟨by rw [ZJ gp5];rfl,by omega,?_⟩;refine hnx _ _ ⟨ps++[P],by rw [qG];simp,λ_=>by simp,by simp;omega,?_,λp hp=>?_,L5.new npp |>.mono (by omega),λb o hb eb=>?_,_,_,rfl⟩
     ·rw [List.nodup_append];exact ⟨nd,by simp,λx hx y hy=>by simp at hy;subst hy;rintro rfl;exact hm hx⟩
     ·rcases List.mem_append.mp hp with hp|hp
      ·exact bd p hp
      ·simp at hp;subst hp;exact pb'
     ·have:b≠pp:=by
       rintro rfl;have:=E1 _ _ hb eb;rw [hpp] at this;cases this
      rw [jK this];exact X5 _ _ hb eb
  ·rintro τ G' ⟨ps,gp,i1,pl,nd,bd,L,E,x9,x10,rfl⟩;rw [qaD] at i1 pl L;show nx6 _ _;rw [q6];simp only [qT,jW,qc,c3,cb3,v3,length_cons,length_nil,Nat.zero_add,Nat.reduceAdd,Nat.reduceLT,getElem?_pos,getElem_cons_succ,getElem_cons_zero,qk,ZE,ZJ gp,sizeLine_eq,Nat.reduceLeDiff,true_and];exact h (.cells ps) G' ⟨i1 m1,by omega,nd,bd⟩ trivial (L.mono (by omega)) E
 by_cases k0:fv=0
 ·have:=fin 5 (.inr rfl);simp only [k0,decide_true,↓reduceIte,Int.mul_one,Int.reduceAdd];exact ⟨cm (by omega) (by omega),this⟩
 ·have:=fin 1 (.inl rfl);simp only [k0,decide_false,Bool.false_eq_true,↓reduceIte,Int.mul_zero,Int.add_zero];exact ⟨cm (by omega) (by omega),this⟩
end Bk
namespace Pu
open PySem L2 L3
open Bk (Wk)
def qa1:DrD Bk.QN:=⟨λds n Q=>ds=[]/\n<1000000/\∀ w:Wk,w.Ok->Bk.nzW w->Q (Pv.Wk.d w) (n+60),false,
 λ⟨h1,h3,h4⟩ k=>⟨h1,h3,λw x y=>k _ _ (h4 w x y)⟩,λ{D G a n ts ds q Q} lf da hd hs ⟨h1,h3,h4⟩ k=>by
 subst h1;have:=KK hs;subst this;exact ⟨a,n,rfl,lf,by omega,λw G' x y L E=>k _ _ G' (n+60) (h4 w x y) E (lfc (c:=60) L) (Pv.qmE _ w) (λz=>by cases z)⟩⟩
def qdx {ds:List PyData} {n:Nat} {Q:QD}:qa1.W ds n Q=(ds=[]/\n<1000000/\∀ w:Wk,w.Ok->Bk.nzW w->Q (Pv.Wk.d w) (n+60)):=id rfl
def qbW:qa1.nw=false:=id rfl
end Pu
namespace Pu
open PySem L2 L3
open Bk (Lf Ext Dl Wk Dr)
def the (S:PyData->Prop):Option PyData:=@dite _ (∃ v,S v) (Classical.propDecidable _) (λh=>some (Classical.choose h)) λ_=>none
end Pu
namespace Pu
open PySem L2 L3
open Bk (Lf Ext Dl Wk Dr SD SDs qS C2 qm zE zk ZB C4 U1)
def qg7:∀ d:Dl,d.Ok->SD (d.dep+4) (8000*4 ^ d.dep) (Pv.dlD d)
 |.skew r c b x y,ok=>by
  simp only [Dl.Ok] at ok;refine (qS (k:=2) (n:=20) ?_).mono (by simp [Dl.dep]) (by simp [Dl.dep]);refine qm (ZB (n:=4) 2 (by decide) (by decide)) (m:=15) (qm (n:=0) (m:=12) (zk _ _ (by omega)) (qm (n:=0) (m:=9) (zk _ _ (by omega)) (qm (n:=0) (m:=6) (zk _ _ (by omega)) (qm (n:=0) (m:=3) (zk _ _ (by omega)) (qm (n:=0) (m:=0) (zk _ _ (by omega)) (zE _ _) (by omega)) (by omega)) (by omega)) (by omega)) (by omega)) (by omega)
 |.rests r c b p,ok=>by
  simp only [Dl.Ok] at ok;refine (qS (k:=2) (n:=20) ?_).mono (by simp [Dl.dep]) (by simp [Dl.dep]);refine qm (ZB (n:=5) 2 (by decide) (by decide)) (m:=12) (qm (n:=0) (m:=9) (zk _ _ (by omega)) (qm (n:=0) (m:=6) (zk _ _ (by omega)) (qm (n:=0) (m:=3) (zk _ _ (by omega)) (qm (n:=0) (m:=0) (zk _ _ (by omega)) (zE _ _) (by omega)) (by omega)) (by omega)) (by omega)) (by omega)
 |.bits h l ms,ok=>by
  simp only [Dl.Ok] at ok;have p8:(2:Int) ^ (h+l)<=2 ^ 8:=by
   have:=Nat.pow_le_pow_right (n:=2) (by omega) (show h+l<=8 by omega);have e1:((2 ^ (h+l):Nat):Int)=2 ^ (h+l):=by simp
   have e2:((2 ^ 8:Nat):Int)=2 ^ 8:=by simp
   omega
  have e:(2:Int) ^ 8=256:=by decide
  refine (qS (k:=2) (n:=30) ?_).mono (by simp [Dl.dep]) (by simp [Dl.dep]);refine qm (ZB (n:=4) 2 (by decide) (by decide)) (m:=16) (qm (n:=0) (m:=12) (zk _ _ (by omega)) (qm (n:=0) (m:=8) (zk _ _ (by omega)) (qm (n:=ms.length) (m:=0) (qS (k:=1) (C4 λm hm=>by have:=ok.2.2.2 m hm;omega)) (zE _ _) (by omega)) (by omega)) (by omega)) (by omega)
 |.table b cells,ok=>by
  obtain ⟨b1,b2,l1,l2,c,c1,c2,hc⟩:=ok;have rows:SDs 2 (cells.length*(60+1)) (cells.map Pv.qmj):=by
   have:=U1 (k:=2) (n:=60) (ds:=cells.map Pv.qmj) (λd hd=>by
    obtain ⟨r,hr,rfl⟩:=mem_map.mp hd;have h:=hc r hr;exact (qS (k:=1) (C4 λm hm=>by have:=h.2 m hm;omega)).mono (by omega) (by rw [h.1];exact c2))
   rwa [length_map] at this
  refine (qS (k:=3) (n:=4000) ?_).mono (by simp [Dl.dep]) (by simp [Dl.dep]);refine qm (ZB (n:=5) 3 (by decide) (by decide)) (m:=3900) (qm (n:=0) (m:=3800) (zk _ _ (by omega)) (qm (n:=cells.length*(60+1)) (m:=0) (qS (k:=2) rows) (zE _ _) (by omega)) (by omega)) (by omega)
 |.joined d e,ok=>by
  simp only [Dl.Ok] at ok;have a:=qg7 d ok.1;have b:=qg7 e ok.2.1;have m1:4 ^ d.dep<=4 ^ max d.dep e.dep:=Nat.pow_le_pow_right (by omega) (Nat.le_max_left ..);have m2:4 ^ e.dep<=4 ^ max d.dep e.dep:=Nat.pow_le_pow_right (by omega) (Nat.le_max_right ..);have p0:1<=4 ^ max d.dep e.dep:=Nat.pow_pos (by omega);show SD (max d.dep e.dep+1+4) (8000*4 ^ (max d.dep e.dep+1)) (.tuple [.str "joined",Pv.dlD d,Pv.dlD e]);rw [Nat.pow_succ];generalize 4 ^ max d.dep e.dep=P at m1 m2 p0;generalize hM:max d.dep e.dep=M;have d1:d.dep<=M:=by rw [← hM];exact Nat.le_max_left ..
  have d2:e.dep<=M:=by rw [← hM];exact Nat.le_max_right ..
  refine qS (k:=M+4) ?_;exact qm (n:=6) (m:=16000*P+10) (ZB _ _ (by decide) (by decide)) (qm (n:=8000*P) (m:=8000*P+5) (a.mono (by omega) (by omega)) (qm (n:=8000*P) (m:=0) (b.mono (by omega) (by omega)) (zE _ _) (by omega)) (by omega)) (by omega)
def qmA {w:Wk} (ok:w.Ok):SD 4 200 (Pv.Wk.d w):=by
 cases w with
 |line k m=>
  obtain ⟨h1,h2,h3⟩:=ok;have:k=0\/k=1\/k=2\/k=3:=by omega
  refine (qS (k:=2) (n:=20) ?_).mono (by omega) (by omega);rcases this with rfl|rfl|rfl|rfl<;>exact qm (n:=6) (m:=5) (ZB _ _ (by decide) (by decide)) (qm (n:=0) (m:=0) (zk _ _ (by omega)) (zE _ _) (by omega)) (by omega)
 |block h v=>
  obtain ⟨h1,h2,h3,h4,_⟩:=ok;refine (qS (k:=2) (n:=20) ?_).mono (by omega) (by omega);exact qm (n:=5) (m:=5) (ZB _ _ (by decide) (by decide)) (qm (n:=0) (m:=2) (zk _ _ (by omega)) (qm (n:=0) (m:=0) (zk _ _ (by omega)) (zE _ _) (by omega)) (by omega)) (by omega)
 |step d a m=>
  obtain ⟨h1,h2,h3,h4⟩:=ok;refine (qS (k:=2) (n:=20) ?_).mono (by omega) (by omega);exact qm (n:=4) (m:=8) (ZB _ _ (by decide) (by decide)) (qm (n:=0) (m:=5) (zk _ _ (by omega)) (qm (n:=0) (m:=2) (zk _ _ (by omega)) (qm (n:=0) (m:=0) (zk _ _ (by omega)) (zE _ _) (by omega)) (by omega)) (by omega)) (by omega)
 |cells ps=>
  obtain ⟨h1,h2,_,h4⟩:=ok;have pr:SDs 2 (ps.length*(4+1)) (ps.map Pv.pD):=by
   have:=U1 (k:=2) (n:=4) (ds:=ps.map Pv.pD) (λd hd=>by
    obtain ⟨p,hp,rfl⟩:=mem_map.mp hd;have q:=h4 p hp;exact qS (k:=1) (qm (n:=0) (m:=2) (zk _ _ (by omega)) (qm (n:=0) (m:=0) (zk _ _ (by omega)) (zE _ _) (by omega)) (by omega)))
   rwa [length_map] at this
  exact qS (k:=3) (qm (n:=5) (m:=100) (ZB _ _ (by decide) (by decide)) (qm (n:=ps.length*(4+1)) (m:=0) (qS (k:=2) pr) (zE _ _) (by omega)) (by omega))
end Pu
namespace Pu
open PySem L2 L3
def qcn (st:Bool):List PyData->Option PyData
 |[.none]=>some (.str "None")
 |[.bool b]=>some (.str (if b=true then Str.ofString "True" else Str.ofString "False"))
 |[.int i]=>cif (i.natAbs.log2<1920) (some (.str (Str.ofString (toString i)))) none
 |[.str x]=>match st with
  |true=>some (.str x)
  |false=>cif ((reprText x).length<=sizeLine) (some (.str (reprText x))) none
 |[.list ds]=>cif (ShW (.list ds)) (some (.str (PyData.list ds).shown)) none
 |[.tuple ds]=>cif (ShW (.tuple ds)) (some (.str (PyData.tuple ds).shown)) none
 |_=>none
def JX {α:Type} {c:Prop} {x:α} {d:α} (h:cif c (some x) none=some d):c/\x=d:=by
 unfold cif at h;split at h
 ·rename_i z;exact ⟨z,Option.some.inj h⟩
 ·cases h
def qcP (st:Bool):FnD (KA st):=⟨qcn st,false,λ{D G xs ds v q} hx hd hf k=>by
 cases hx with
 |nil=>cases hf
 |cons a b=>
  cases b with
  |cons b1 b2=>cases a<;>cases hf
  |nil=>
   have dp:=(a.up JL).dp;have fin:∀ (x:Str) {w:PyData},w=v->w=.str x->q (.str x) G:=λx w e1 e2=>k _ _ Ex.refl (by rw [← e1,e2];exact .str _) (λz=>by cases z);cases a with
   |non=>exact fin _ (Option.some.inj hf) rfl
   |bl b=>exact fin _ (Option.some.inj hf) rfl
   |int i=>exact ⟨(JX hf).1,fin _ (JX hf).2 rfl⟩
   |str x=>
    cases st with
    |true=>exact fin _ (Option.some.inj hf) rfl
    |false=>exact ⟨(JX hf).1,fin _ (JX hf).2 rfl⟩
   |tup hs=>exact ⟨_,dp,(JX hf).1,fin _ (JX hf).2 rfl⟩
   |lst g hs=>exact ⟨_,dp,(JX hf).1,fin _ (JX hf).2 rfl⟩⟩
def qbu {st:Bool}:(qcP st).f=qcn st:=id rfl
def MB {st:Bool}:(qcP st).nw=false:=id rfl
def qkv {st:Bool} {ds:List PyData} (h:ShW (.list ds)):qcn st [.list ds]=some (.str (PyData.list ds).shown):=zH h
def MC {a m:Int} {n:Nat} (h:m∈JD a n):a<=m/\m<a+n:=by
 unfold JD at h;obtain ⟨i,hi,rfl⟩:=mem_map.mp h;have:=mem_range.mp hi;omega
def qap {xs:List PyData} {lo hi:Option Int} {d:PyData} (h:d∈WF xs lo hi):d∈xs:=List.mem_of_mem_drop (List.mem_of_mem_take h)
def qhw (xs:List PyData) (lo hi:Option Int):(WF xs lo hi).length<=xs.length:=by
 unfold WF;rw [List.length_take,List.length_drop];omega
def qhW {xs:List PyData} {lo hi:Option Int}:slD (.list xs) lo hi=some (.list (WF xs lo hi)):=id rfl
def qkV {xs ys:List PyData} (h:xs.length+ys.length<=16777216):qiz (.list xs) (.list ys)=some (.list (xs++ys)):=zH (by rw [sizeLine_eq];exact h)
def qeQ:List PyData->Option (List (List Int))
 |[]=>some []
 |.tuple ys::r=>(match JK ys,qeQ r with|some k,some ks=>some (k::ks)|_,_=>none)
 |_=>none
def qet {G:Gp}:∀ {xs:List T} {ds:List PyData} {ks:List (List Int)},Dqs G xs ds->qeQ ds=some ks->qc3 xs=some ks
 |_,[],ks,h,e=>by cases h;simpa [qeQ,qc3] using e
 |_,d::ds,ks,h,e=>by
  cases h with
  |cons a b=>
   cases d<;>try (simp only [qeQ] at e;cases e;done)
   case tuple ys=>
    simp only [qeQ] at e;split at e
    ·rename_i k ks' e1 e2;cases e;cases a with
     |tup hs=>
      have:=YO e1;subst this;have:=hs.ints;subst this;simp only [qc3,J4,qet b e2]
    ·cases e
def RE (d:PyData):Option PyData:=match d with
 |.tuple ds=>(qeQ ds).bind λks=>cif (ks.length<=76) (some (.int (Tb8.cnt (kAt ks) ks.length))) none
 |_=>none
def qfa {te:TE3} (a:PuE te):PuE (N9 te):=⟨λρ=>(a.f ρ).bind RE,a.fv,false,λhv hd hf k=>by
 obtain ⟨d,e1,hf⟩:=obb hf;refine a.ok hv hd e1 λx' G1 E1 D1 _=>?_;unfold RE at hf;cases D1 with
 |tup hs=>
  simp only at hf;obtain ⟨ks,en,hf⟩:=obb hf;unfold cif at hf;split at hf
  ·rename_i hl;cases hf;simp only [qet hs en];exact ⟨hl,k _ _ E1 (.int _) (λz=>by cases z)⟩
  ·cases hf
 |_=>simp at hf⟩
def qcR {te:TE3} {a:PuE te}:(qfa a).f=λρ=>(a.f ρ).bind RE:=id rfl
def qj7 (ps:List (Int×Int)):Nat:=Tb8.cnt (kAt (ps.map λp=>[p.1,p.2])) ps.length
def qjU:∀ ps:List (Int×Int),qeQ (ps.map λp=>.tuple [.int p.1,.int p.2])=some (ps.map λp=>[p.1,p.2])
 |[]=>rfl
 |p::ps=>by simp only [map_cons,qeQ,JK,qjU ps];rfl
def qg5 {ps:List (Int×Int)} (h:ps.length<=76):RE (.tuple (ps.map λp=>.tuple [.int p.1,.int p.2]))=some (.int (qj7 ps)):=by
 simp only [RE,qjU,Option.bind_some];rw [zH (by simpa using h)];simp [qj7]
def qaM {key:Nat->List Int}:∀ {n:Nat},Tb8.cnt key n=n↔∀ i j,i<j->j<n->key i≠key j
 |0=>⟨λ_ i j _ h=>absurd h (Nat.not_lt_zero j),λ_=>rfl⟩
 |n+1=>by
  have ih:=qaM (key:=key) (n:=n);have le:=Tb8.LI key n;unfold Tb8.cnt;constructor
  ·intro h;split at h
   ·omega
   ·rename_i c;intro i j hij hj e;rcases Nat.lt_or_ge j n with z|z
    ·exact ih.mp (by omega) i j hij z e
    ·obtain rfl:j=n:=by omega
     exact c ⟨i,hij,e⟩
  ·intro h;rw [if_neg (λ⟨i,hi,e⟩=>h i n hi (by omega) e),ih.mpr λi j hij hj=>h i j hij (by omega)]
def qdd {ps:List (Int×Int)}:qj7 ps=ps.length↔ps.Nodup:=by
 unfold qj7;rw [qaM,List.nodup_iff_pairwise_ne,List.pairwise_iff_getElem];have k:∀ i (h:i<ps.length),kAt (ps.map λp=>[p.1,p.2]) i=[ps[i].1,ps[i].2]:=λi h=>by
  unfold kAt;rw [getD_eq_getElem?_getD,getElem?_map,getElem?_eq_getElem h];rfl
 constructor
 ·intro h i j hi hj hij e;exact h i j hij hj (by rw [k i hi,k j hj,e])
 ·intro h i j hij hj e;rw [k i (by omega),k j hj] at e;simp only [List.cons.injEq,and_true] at e;exact h i j (by omega) hj hij (Prod.ext e.1 e.2)
end Pu
namespace Pv
open PySem L2 L3 Pu
open Bk (Wk qV zL JG lnD lnA)
def qdj {lo:Int} {n i:Nat} {x:Int} (h:(JD lo n)[i]?=some x):i<n/\x=lo+i:=by
 unfold JD at h;rw [getElem?_map] at h;obtain ⟨k,e1,e2⟩:=Option.map_eq_some_iff.mp h;obtain ⟨hl,hk⟩:=List.getElem?_eq_some_iff.mp e1;simp at hl hk;subst hk;exact ⟨hl,e2.symm⟩
def ZZ (lo:Int) (n:Nat):(JD lo n).length=n:=by simp [JD]
def DL {d a:Int} {m:Nat} (hd:-1000<=d/\d<=1000) (ha:-1000<=a/\a<=1000) (hm:m<=10000):zw [.int d,.int a,.int m]=some (.list ((qV d a m).map pD)):=by
 rw [qao]
 try simp only [Pu.pwA,EV]
 rw [JF (ds:=(JD 0 m).map PyData.int) (fs:=(qV d a m).map pD)]
 ·try simp only [Pu.pwA]
 ·try simp (disch:=omega) only [Pu.pwA,qdO,Int.toNat_natCast]
 ·have:qV d a m=(JD 0 m).map λi=>(i*d,i*a):=by simp [qV,JD,map_map,Function.comp_def]
  rw [this,map_map];refine jg λi hi=>?_
  try simp (disch:=omega) only [Pu.pwA,UF,qiq,Function.comp_def,pD]
 ·simp [qV];omega
def Big:Wk->Prop
 |.line k m=>k<4/\m<=1000
 |.block h w=>h<=1000/\w<=1000
 |.step d a m=>(-1000<=d/\d<=1000)/\(-1000<=a/\a<=1000)/\m<=1000
 |.cells ps=>ps.length<=1000
def UT {w:Wk} (ok:Big w):qy [Wk.d w]=some (.list (w.pc.map pD)):=by
 cases w with
 |cells ps=>
  rw [ZM]
  try simp only [Pu.pwA,js,Wk.d,eq_self,Wk.pc]
 |block h v=>
  obtain ⟨h1,h2⟩:=ok;rw [ZM]
  try simp only [Pu.pwA,js,Wk.d,eq_self,L3.Y4,Wk.pc]
  rw [N8 (ds:=(JD 0 h).map PyData.int) (fs:=(zL h v).map pD)]
  ·try simp only [Pu.pwA]
  ·try simp (disch:=omega) only [Pu.pwA,qdO,Int.toNat_natCast]
  ·have:(zL h v).map pD=(JD 0 h).flatMap λp=>(JD 0 v).map λq=>pD (p,q):=by
    simp only [zL,JD,List.map_flatMap,map_map,List.flatMap_map,Function.comp_def,Int.zero_add]
   rw [this];refine MD λp hp=>?_
   try simp (disch:=omega) only [Pu.pwA,qeZ,qdO,Int.toNat_natCast]
   rw [jg (k:=λq=>pD (p,q)) λq hq=>?_]
   ·try simp only [Pu.pwA]
   ·try simp only [Pu.pwA,UF,pD]
  ·have:=Nat.mul_le_mul h1 h2;rw [length_map,Bk.V4];omega
 |step d a m=>
  obtain ⟨h1,h2,h3⟩:=ok;rw [ZM]
  try simp only [Pu.pwA,js,Wk.d,eq_self,L3.UH,L3.V5,Wk.pc,DL h1 h2 (show m<=10000 by omega)]
 |line k m=>
  obtain ⟨h1,h2⟩:=ok;have key:∀ (s:Str) (d a:Int),¬ s=Str.ofString "cells" -> ¬ s=Str.ofString "block" -> ¬ s=Str.ofString "step" -> (-1000<=d/\d<=1000)->(-1000<=a/\a<=1000)->(zv jO s).bind tD=some (.tuple [.int d,.int a])->qy [.tuple [.str s,.int (m:Int)]]=some (.list ((qV d a m).map pD)):=by
   intro s d a n1 n2 n3 hd ha e;rw [ZM]
   try simp only [Pu.pwA,js,n1,n2,n3,e,DL (d:=d) (a:=a) (m:=m) hd ha (by omega)]
  have:(k=0\/k=1\/k=2\/k=3):=by omega
  rcases this with rfl|rfl|rfl|rfl
  ·exact key "row" 0 1 L3.R6 L3.SA L3.KH (by decide) (by decide) rfl
  ·exact key "column" 1 0 L3.DU L3.DJ L3.WM (by decide) (by decide) rfl
  ·exact key "slant" 1 1 L3.WX L3.WQ L3.X0 (by decide) (by decide) rfl
  ·exact key "back" 1 (-1) L3.CB L3.CG L3.RH (by decide) (by decide) rfl
end Pv
namespace Pv
open PySem L2 L3 Pu
open Bk (Wk Dl qV zL JG lnD lnA)
def qeh {w:Wk} (ok:w.Ok):Big w:=by
 cases w with
 |line k m=>obtain ⟨h1,h2,h3⟩:=ok;exact ⟨h1,by omega⟩
 |block h v=>obtain ⟨h1,h2,h3,h4,h5⟩:=ok;exact ⟨by omega,by omega⟩
 |step d a m=>obtain ⟨h1,h2,h3,h4⟩:=ok;exact ⟨by omega,by omega,by omega⟩
 |cells ps=>have h:=ok.2.1;show ps.length<=1000;omega
def Pl:Dl->Prop
 |.skew ..=>True
 |.rests ..=>True
 |_=>False
def fA:Dl->Int
 |.skew _ _ _ x _=>x
 |.rests _ c _ _=>c
 |_=>0
def fB:Dl->Int
 |.skew _ _ _ _ y=>y
 |.rests ..=>1
 |_=>0
def qcz {d:Dl} (hp:Pl d) (ok:d.Ok):(0<=fA d/\fA d<=1000)/\(0<=fB d/\fB d<=1000)/\1<=d.B/\d.B<=1000:=by
 cases d<;>simp [Pl] at hp<;>simp [Dl.Ok] at ok<;>simp [fA,fB,Dl.B]<;>omega
def qoK {d:Dl} (hp:Pl d):qM [dlD d]=some (.tuple [.int (fA d),.int (fB d)]):=by
 rw [XY];cases d<;>simp [Pl] at hp
 ·try simp only [Pu.pwA,jG,dlD,fA,fB,L3.VV]
 ·try simp only [Pu.pwA,jG,dlD,fA,fB,eq_self]
def rst (B a b:Int) (cs:List (Int×Int)):List Int:=cs.map λp=>(a*p.1+b*p.2)%B
def qf2 (B a b:Int) (cs:List (Int×Int)):(rst B a b cs).length=cs.length:=by simp [rst]
def qbb {w:Wk} (ok:Big w):w.pc.length<=1000000:=by
 cases w with
 |line k m=>simp only [Wk.pc,qV,length_map,length_range];have:=ok.2;omega
 |block h v=>simp only [Wk.pc,Bk.V4];exact Nat.mul_le_mul ok.1 ok.2
 |step d a m=>simp only [Wk.pc,qV,length_map,length_range];have:=ok.2.2;omega
 |cells ps=>have:ps.length<=1000:=ok;simp only [Wk.pc];omega
def qpU {B a b:Int} {w:Wk} (hB:1<=B) (ha:0<=a/\a<=1000) (hb:0<=b/\b<=1000) (ok:Big w):qZ [.int B,.tuple [.int a,.int b],Wk.d w]=some (.tuple ((rst B a b w.pc).map PyData.int)):=by
 rw [SZ];have hl:=qbb ok
 try simp only [Pu.pwA,YE]
 rw [JF (ds:=w.pc.map pD) (fs:=(rst B a b w.pc).map PyData.int)]
 ·try simp only [Pu.pwA]
 ·try simp only [Pu.pwA,UT ok]
 ·rw [rst,map_map];refine jg λp hp=>?_
  try simp (disch:=omega) only [Pu.pwA,UF,pD,JO,XR,Function.comp_def]
 ·simp [rst];omega
def qpy {d:Dl} {w:Wk} (hp:Pl d) (okd:d.Ok) (ok:Big w):zr [dlD d,Wk.d w]=some (.tuple ((rst d.B (fA d) (fB d) w.pc).map PyData.int)):=by
 obtain ⟨h1,h2,h3,_⟩:=qcz hp okd;rw [TD];have e:∀ n:Nat,∃ xs,dlD d=.tuple xs/\L2.atI xs 3=some (.int d.B):=λ_=>by
  cases d<;>simp [Pl] at hp
  ·exact ⟨_,rfl,at3⟩
  ·exact ⟨_,rfl,at3⟩
 obtain ⟨xs,e1,e2⟩:=e 0;have e3:=qoK hp;rw [e1] at e3 ⊢
 try simp only [Pu.pwA,YS,e2,e3,qpU h3 h1 h2 ok]
def szD (d:Dl):PyData:=.tuple [.int d.R,.int d.C,.int d.B]
def dn (cs:List (Int×Int)):List Int:=cs.map λp=>p.1
def al (cs:List (Int×Int)):List Int:=cs.map λp=>p.2
def stI (R C:Int) (cs:List (Int×Int)):List (Int×Int):=(JD (-(mn (dn cs))) (R-mx (dn cs) - -(mn (dn cs))).toNat).flatMap λi=>(JD (-(mn (al cs))) (C-mx (al cs) - -(mn (al cs))).toNat).map λj=>(i,j)
def EY {α β:Type} (xs:List α) (ys:List β) {γ:Type} (f:α->β->γ):(xs.flatMap λa=>ys.map λb=>f a b).length=xs.length*ys.length:=by
 induction xs with
 |nil=>simp
 |cons a r ih=>simp only [List.flatMap_cons,length_append,length_map,ih,length_cons,Nat.succ_mul];omega
structure Cb (cs:List (Int×Int)):Prop where
 ne:cs≠[]
 b:∀ p∈cs,(-1000000<=p.1/\p.1<=1000000)/\(-1000000<=p.2/\p.2<=1000000)
def Cb.lim {cs:List (Int×Int)} (h:Cb cs):(-1000000<=mn (dn cs)/\mn (dn cs)<=mx (dn cs)/\mx (dn cs)<=1000000)/\(-1000000<=mn (al cs)/\mn (al cs)<=mx (al cs)/\mx (al cs)<=1000000):=by
 have n1:dn cs≠[]:=by simp [dn,h.ne]
 have n2:al cs≠[]:=by simp [al,h.ne]
 have m1:=LM n1;have m2:=LR n1;have m3:=LM n2;have m4:=LR n2;have l1:=ML m2;have l2:=ML m4;have b1:∀ x∈dn cs,-1000000<=x/\x<=1000000:=λx hx=>by
  obtain ⟨p,hp,rfl⟩:=mem_map.mp hx;exact (h.b p hp).1
 have b2:∀ x∈al cs,-1000000<=x/\x<=1000000:=λx hx=>by
  obtain ⟨p,hp,rfl⟩:=mem_map.mp hx;exact (h.b p hp).2
 have:=b1 _ m1;have:=b1 _ m2;have:=b2 _ m3;have:=b2 _ m4;omega
def qga {R C:Int} {cs:List (Int×Int)} (h:Cb cs) (hR:R<=4096) (hC:C<=4096):(stI R C cs).length<=16777216:=by
 obtain ⟨⟨h1,h2,h3⟩,⟨h4,h5,h6⟩⟩:=h.lim;unfold stI;rw [EY,ZZ,ZZ];have a:(R-mx (dn cs) - -(mn (dn cs))).toNat<=4096:=by omega
 have b:(C-mx (al cs) - -(mn (al cs))).toNat<=4096:=by omega
 exact Nat.le_trans (Nat.mul_le_mul a b) (by decide)
end Pv
namespace Pv
open PySem L2 L3 Pu
open Bk (Dl)
end Pv
namespace Hd
open PySem L2 L3 PySem.W
def oF (x:Str) (st:Stmt) (pm cd:Value):Obj:=⟨.type "function",none,.func (PySem.W.fnOf x x (ZU st) (z9 st) (qj st) .none .none .none pm none cd .none),#[]⟩
def oG (x:Str) (st:Stmt):Obj:=⟨.none,none,.func { name:=x,qualname:=x,params:=ZU st,body:=.stmts (z9 st),scope:=qj st,globals:=0,closure:=[],defaults:=.none,kwdefaults:=.none },#[]⟩
def oC (vs:List Value):Obj:=⟨.type "code",none,.fields vs.toArray,#[]⟩
def oT (vs:List Value):Obj:=⟨.type "tuple",none,.seq vs.toArray 0,#[]⟩
def eD (P:Params):Value×Value->DictEntry
 | (.str x t,v)=>⟨PyData.keyHash P x,.str x t,v⟩
 | (u,v)=>⟨0,u,v⟩
def oD (P:Params) (n:Nat) (es:List (Value×Value)):Obj:=⟨.type "dict",none,.dict (es.map (eD P)).toArray n,#[]⟩
def oK (x:Str) (t l n m:Nat) (a b:Addr) (u v z:Value) (e y q:Nat):Obj:=oC [.str x t,.str x (t+1),.str "/claim/cut.py" (t+2),.int l 0,.int n 0,.int 0 0,.int 0 0,.int 3 0,.ref a,.bool true,.int m 0,.ref b,u,v,z,.ref e,.int y 0,.int l 0,.str "/claim/cut.py" q]
def nmV:List Str->Nat->List Value
 |[],_=>[]
 |x::r,t=>.str x t::nmV r (t+1)
def oN (xs:List Str) (t:Nat):Obj:=oT (nmV xs t)
abbrev nd (o:Obj) (l r:PySem.W.BT):PySem.W.BT:=.node o l r
abbrev lf (o:Obj):PySem.W.BT:=.node o .nil .nil
def zM {K:Frg} (x:Str) (st:Stmt) (f:Addr) (pm cd:Value) (l:K.lookup f=some (oF x st pm cd)) (c:PySem.W.codeIn K cd x=true) (k:PySem.W.keepIn K (.ref f)=true) :
  Fun K x x st f (PySem.W.fnOf x x (ZU st) (z9 st) (qj st) .none .none .none pm none cd .none):=qlu l c k
def zJ {K:Frg} {h:Heap} {mg:Str->Option Value} (X:K.In h) (G:h.Ns mainGlobals mg) (n:Str) (v:Value) (e:PySem.W.nsIn K mainGlobals n=some (some v)):mg n=some v:=PySem.W.mg_of X G e
def J3 {K:Frg} {h:Heap} {mg:Str->Option Value} (X:K.In h) (G:h.Ns mainGlobals mg) (n:Str) (e:PySem.W.nsIn K mainGlobals n=some none):mg n=none:=PySem.W.mg_none_of X G e
def head {l:OpenLaw} {q:Program} {loose:List Str} {K:Params->Frag} {as:List Addr} {d:DefRec} {N:Nat} {k:Nat} {x:Str} (ha:∀ P,as=(K P).map (·.1))
  (ok:l.wellSaid=true)
  (left:LeftO l.prog q loose (λs=>xlAt q [] s&&recOk [] s) (λs=>as.map s.heap.get?) (λw=>(K w.params).map λp=>some p.2) N)
  (hdef:defOf q l.name=some (d,[])) (hp:l.prog.theDef l.name=some (d.params,d.body,d.scope)) (hk:kwWritten? d.params.kwonlyargs d.params.kw_defaults=some [])
  (hwr:(!l.row.writes||l.row.records.isEmpty)=true) (ok2:(chainsOk q&&opensWell l.prog&&(frees l.row.toRowW&&l.row.within.isEmpty))=true) (hb:l.prog.bare) (hw:l.row.toRowW.promised)
  (hn:l.most=some 63) (hdf:d.params.defaults=[]) (hr:Room k callerA) (hK:∀ w:World,U7 (K w.params)=true)
  (F:∀ (w:World) (mg:Str->Option Value) (fa:Addr) (h:Heap),(K w.params).In h->h.Ns mainGlobals mg->mg d.name=some (.ref fa) ->
   ∃ fd:FuncData,(∀ (s:Shared) (u:Value),BindsTo s fd ⟨[u],[]⟩ [(x,u)])/\∀ base:Heap,(K w.params).In base->base.Ns mainGlobals mg->FnOk l.prog w (K w.params) mg base CX0 k fa fd [x] (lSp (K w.params) W8)):l.Holds:=by
 refine holds_law ok λsaid=>?_;exact holds_open (q:=q) (loose:=loose) (Xt:=λs=>xlAt q [] s&&recOk [] s) (XP:=XL q []) (Yf:=Hook.obs (kHook K as ha)) (Ya:=Hook.val (kHook K as ha)) (YP:=Hook.says (kHook K as ha)) (N:=N) left
  (Hook.of (kHook K as ha)) (Hook.keeps (kHook K as ha)) (λs e=>xl_of s (Bool.and_eq_true_iff.mp e).1) XL.keeps hdef hp hk (λs e=>recFacts_of (Bool.and_eq_true_iff.mp e).2) hwr said ok2 hb hw
  (L3.qnZ (l:=l) (k:=k) (x:=x) hn hdf hr (λw h Y=>kIn_of Y) hK F)
end Hd
namespace K21
open PySem L2 L3 Bk
def top (i : Nat) : Stmt := PySem.Challenge.pw_bankwalk_k21_rests_of_walks.main.body.getD i (.Pass ⟨0,0,0,0⟩)
variable {P:Program} {w:World} {K:Frg} {mg:Str->Option Value} {base:Heap} {f:Addr} {fd:FuncData} {k:Nat} {sp:Sp3}
abbrev jE:Stmt:=top 1
abbrev ZN:List Str:=["thing"]
abbrev VF:List Str:=["thing"]
def RO:FnScope ZN VF (qj jE):=⟨rfl,rfl,rfl,by decide +kernel,rfl,by decide +kernel,by decide +kernel⟩
def SN (F:Fun K "is_number" "is_number" jE f fd) (bd:zh K fd VF []) (hm:mg "is_number" = some (.ref f))  (m_isinstance:mg "isinstance" = none) (m_bool:mg "bool" = none) (m_int:mg "int" = none)
  (read:Rd sp 1 (Bk.ZQ) ZN):Fn3 P w K mg base (k+1) "is_number" sp:=
 qH (t3:=(Bk.ZQ)) F RO bd hm (λcdv A outer s H E hr=>(ql (qo (jL (QS (qb 0) rfl m_isinstance rfl m_int PyProof.Rows.boot_int) (Q8 (qfG (QS (qb 0) rfl m_isinstance rfl m_bool PyProof.Rows.boot_bool))))))) read
abbrev zN:Stmt:=top 2
abbrev jk:List Str:=["thing","least"]
abbrev ZY:List Str:=["thing","least"]
def WN:FnScope jk ZY (qj zN):=⟨rfl,rfl,rfl,by decide +kernel,rfl,by decide +kernel,by decide +kernel⟩
def jU (S_is_number:Sp3):TS3:=(qT (ju (cb3 S_is_number (qc (v3 0) qk)) (o3 (iB λi j=>decide (j<=i)) (v3 0) (v3 1))))
def WW {S_is_number:Sp3} (F:Fun K "is_at_least" "is_at_least" zN f fd) (bd:zh K fd ZY []) (hm:mg "is_at_least" = some (.ref f)) (qq:Fn3 P w K mg base k "is_number" S_is_number) 
  (read:Rd sp 2 (jU S_is_number) jk):Fn3 P w K mg base (k+1) "is_at_least" sp:=
 qH (t3:=(jU S_is_number)) F WN bd hm (λcdv A outer s H E hr=>(ql (qo (jL (qh qq hr rfl (qa (qb 0) qe)) (Q8 (zP qli UJ (qb 0) (qb 1) (qv _))))))) read
abbrev zA:Stmt:=top 3
abbrev jz:List Str:=["things","least"]
abbrev Q0:List Str:=["things","least"]
def DZ:FnScope jz Q0 (qj zA):=⟨rfl,rfl,rfl,by decide +kernel,rfl,by decide +kernel,by decide +kernel⟩
def jx (S_is_at_least:Sp3):TS3:=(qT (cb3 NJ (qc (lc3 (VQ (v3 0)) (gn3 0) tt3 (cb3 S_is_at_least (qc (v3 0) (qc (v3 1) qk))) [none,some 1]) qk)))
def WG {S_is_at_least:Sp3} (F:Fun K "are_at_least" "are_at_least" zA f fd) (bd:zh K fd Q0 []) (hm:mg "are_at_least" = some (.ref f)) (qs:Fn3 P w K mg base k "is_at_least" S_is_at_least) (m_all:mg "all" = none)
  (read:Rd sp 2 (jx S_is_at_least) jz):Fn3 P w K mg base (k+1) "are_at_least" sp:=
 qH (t3:=(jx S_is_at_least)) F DZ bd hm (λcdv A outer s H E hr=>(ql (qo (qB (QZ rfl) S0 rfl m_all PyProof.Rows.boot_all (qa (UC ["thing","least"] [none,some 1] rfl (Y5 (qb 0)) (λ_ _ _=>(jgn 0)) (λ_ _ _=>jq) (λ_ _ _=>(qh qs hr rfl (qa (qb 0) (qa (qb 1) qe)))) (by kernel_rfl) (by kernel_rfl)) qe))))) read
abbrev Q2:Stmt:=top 4
abbrev VU:List Str:=["thing"]
abbrev DH:List Str:=["thing"]
def MP:FnScope VU DH (qj Q2):=⟨rfl,rfl,rfl,by decide +kernel,rfl,by decide +kernel,by decide +kernel⟩
def MI {S_is_number:Sp3} (F:Fun K "is_pair" "is_pair" Q2 f fd) (bd:zh K fd DH []) (hm:mg "is_pair" = some (.ref f)) (qq:Fn3 P w K mg base k "is_number" S_is_number) (m_len:mg "len" = none) (m_isinstance:mg "isinstance" = none) (m_tuple:mg "tuple" = none)
  (read:Rd sp 1 (Bk.UI S_is_number) VU):Fn3 P w K mg base (k+1) "is_pair" sp:=
 qH (t3:=(Bk.UI S_is_number)) F MP bd hm (λcdv A outer s H E hr=>(ql (qo (jL (QS (qb 0) rfl m_isinstance rfl m_tuple PyProof.Rows.boot_tuple) (jL (zP (qQ hr.units) qA (qB zm zU rfl m_len PySem.boot_len (qa (qb 0) qe)) qd (qv _)) (jL (qh qq hr rfl (qa (qp (qb 0) qd) qe)) (Q8 (qh qq hr rfl (qa (qp (qb 0) qd) qe))))))))) read
abbrev Q7:Stmt:=top 10
abbrev V0:List Str:=["thing"]
abbrev WC:List Str:=["thing"]
def M4:FnScope V0 WC (qj Q7):=⟨rfl,rfl,rfl,by decide +kernel,rfl,by decide +kernel,by decide +kernel⟩
def V2 (S_is_number:Sp3) (S_is_at_least:Sp3):TS3:=(qR (zZ (or3 (tb3 (o3 (zS true) (cb3 EG (qc (v3 0) qk)) (c3 (.int 4)))) (or3 (SX (tb3 (cb3 S_is_number (qc (o3 ix3 (v3 0) (c3 (.int 1))) qk)))) (SX (tb3 (cb3 S_is_number (qc (o3 ix3 (v3 0) (c3 (.int 2))) qk)))))) (qT (c3 (.bl false))) qL) (qT (ju (qhE (o3 (zS true) (o3 ix3 (v3 0) (c3 (.int 1))) (c3 (.int 0))) (o3 (zS true) (o3 ix3 (v3 0) (c3 (.int 2))) (c3 (.int 0)))) (cb3 S_is_at_least (qc (o3 ix3 (v3 0) (c3 (.int 3))) (qc (c3 (.int 1)) qk))))))
def NB {S_is_number:Sp3} {S_is_at_least:Sp3} (F:Fun K "is_step" "is_step" Q7 f fd) (bd:zh K fd WC []) (hm:mg "is_step" = some (.ref f)) (qq:Fn3 P w K mg base k "is_number" S_is_number) (qs:Fn3 P w K mg base k "is_at_least" S_is_at_least) (m_len:mg "len" = none)
  (read:Rd sp 1 (V2 S_is_number S_is_at_least) V0):Fn3 P w K mg base (k+1) "is_step" sp:=
 qH (t3:=(V2 S_is_number S_is_at_least)) F M4 bd hm (λcdv A outer s H E hr=>(qi (zy (jpt (SF (qO (DB hr.units) VB (qB zm zU rfl m_len PySem.boot_len (qa (qb 0) qe)) qd (qv _)) (SF (UB (JE (qh qq hr rfl (qa (qp (qb 0) qd) qe)))) (SJ (UB (JE (qh qq hr rfl (qa (qp (qb 0) qd) qe)))))))) (ql (qo CV)) qP) (ql (qo (jL (qob (zP (DB hr.units) VB (qp (qb 0) qd) qd (qv _)) (Q8 (zP (DB hr.units) VB (qp (qb 0) qd) qd (qv _)))) (Q8 (qh qs hr rfl (qa (qp (qb 0) qd) (qa qd qe))))))))) read
abbrev j5:Stmt:=top 11
abbrev jr:List Str:=["thing"]
abbrev U9:List Str:=["thing"]
def KW:FnScope jr U9 (qj j5):=⟨rfl,rfl,rfl,by decide +kernel,rfl,by decide +kernel,by decide +kernel⟩
def YH (S_is_pair:Sp3):TS3:=(qR (zZ (or3 (tb3 (o3 (zS true) (cb3 EG (qc (v3 0) qk)) (c3 (.int 2)))) (or3 (SX (tb3 (ER (λt=>QK t "tuple") (o3 ix3 (v3 0) (c3 (.int 1)))))) (tb3 (o3 (zS false) (cb3 EG (qc (o3 ix3 (v3 0) (c3 (.int 1))) qk)) (c3 (.int 0)))))) (qT (c3 (.bl false))) qL) (qR (zZ (SX (tb3 (cb3 NJ (qc (lc3 (VQ (o3 ix3 (v3 0) (c3 (.int 1)))) (gn3 0) tt3 (cb3 S_is_pair (qc (v3 0) qk)) [none]) qk)))) (qT (c3 (.bl false))) qL) (qT (o3 (zS false) (N9 (o3 ix3 (v3 0) (c3 (.int 1)))) (cb3 EG (qc (o3 ix3 (v3 0) (c3 (.int 1))) qk))))))
def K2 {S_is_pair:Sp3} (F:Fun K "is_cells" "is_cells" j5 f fd) (bd:zh K fd U9 []) (hm:mg "is_cells" = some (.ref f)) (jC:Fn3 P w K mg base k "is_pair" S_is_pair) (m_len:mg "len" = none) (m_isinstance:mg "isinstance" = none) (m_tuple:mg "tuple" = none) (m_all:mg "all" = none) (m_set:mg "set" = none)
  (read:Rd sp 1 (YH S_is_pair) jr):Fn3 P w K mg base (k+1) "is_cells" sp:=
 qH (t3:=(YH S_is_pair)) F KW bd hm (λcdv A outer s H E hr=>(qi (zy (jpt (SF (qO (DB hr.units) VB (qB zm zU rfl m_len PySem.boot_len (qa (qb 0) qe)) qd (qv _)) (SF (UB (JE (QS (qp (qb 0) qd) rfl m_isinstance rfl m_tuple PyProof.Rows.boot_tuple))) (SJ (qO (qQ hr.units) qA (qB zm zU rfl m_len PySem.boot_len (qa (qp (qb 0) qd) qe)) qd (qv _)))))) (ql (qo CV)) qP) (qi (zy (UB (JE (qB (QZ rfl) S0 rfl m_all PyProof.Rows.boot_all (qa (UC ["cell"] [none] rfl (Y5 (qp (qb 0) qd)) (λ_ _ _=>(jgn 0)) (λ_ _ _=>jq) (λ_ _ _=>(qh jC hr rfl (qa (qb 0) qe))) (by kernel_rfl) (by kernel_rfl)) qe)))) (ql (qo CV)) qP) (ql (qo (zP (qQ hr.units) qA (MJ rfl hr.units rfl m_len rfl m_set (qp (qb 0) qd)) (qB zm zU rfl m_len PySem.boot_len (qa (qp (qb 0) qd) qe)) (qv _))))))) read
abbrev ZD:Stmt:=top 12
abbrev J0:List Str:=["thing","kind"]
abbrev DM:List Str:=["thing"]
def W7:FnScope J0 DM (qj ZD):=⟨rfl,rfl,rfl,by decide +kernel,rfl,by decide +kernel,by decide +kernel⟩
def UA (S_is_at_least:Sp3) (S_are_at_least:Sp3) (S_is_step:Sp3) (S_is_cells:Sp3):TS3:=(qR (zZ (or3 (SX (tb3 (ER (λt=>QK t "tuple") (v3 0)))) (or3 (tb3 (o3 (zS false) (cb3 EG (qc (v3 0) qk)) (c3 (.int 0)))) (SX (tb3 (ER (λt=>QK t "str") (o3 ix3 (v3 0) (c3 (.int 0)))))))) (qT (c3 (.bl false))) qL) (qR (zn (o3 ix3 (v3 0) (c3 (.int 0))) (gn3 1)) (qR (zZ (tb3 (qmk jO (v3 1))) (qT (ju (o3 (zS false) (cb3 EG (qc (v3 0) qk)) (c3 (.int 2))) (cb3 S_is_at_least (qc (o3 ix3 (v3 0) (c3 (.int 1))) (qc (c3 (.int 1)) qk))))) qL) (qR (zZ (tb3 (o3 (zS false) (v3 1) (c3 (.str "block")))) (qT (ju (o3 (zS false) (cb3 EG (qc (v3 0) qk)) (c3 (.int 3))) (cb3 S_are_at_least (qc (NM (v3 0) (sp3 (c3 (.int 1))) np3) (qc (c3 (.int 1)) qk))))) qL) (qR (zZ (tb3 (o3 (zS false) (v3 1) (c3 (.str "step")))) (qT (cb3 S_is_step (qc (v3 0) qk))) qL) (qT (ju (o3 (zS false) (v3 1) (c3 (.str "cells"))) (cb3 S_is_cells (qc (v3 0) qk)))))))))
def MU {S_is_at_least:Sp3} {S_are_at_least:Sp3} {S_is_step:Sp3} {S_is_cells:Sp3} (F:Fun K "is_walk" "is_walk" ZD f fd) (bd:zh K fd DM []) (hm:mg "is_walk" = some (.ref f)) (qs:Fn3 P w K mg base k "is_at_least" S_is_at_least) (zt:Fn3 P w K mg base k "are_at_least" S_are_at_least) (Q4:Fn3 P w K mg base k "is_step" S_is_step) (zY:Fn3 P w K mg base k "is_cells" S_is_cells) (m_isinstance:mg "isinstance" = none) (m_str:mg "str" = none) (m_len:mg "len" = none) (m_tuple:mg "tuple" = none) (m_STRIDES:Tb K mg w "STRIDES" jO)
  (read:Rd sp 1 (UA S_is_at_least S_are_at_least S_is_step S_is_cells) J0):Fn3 P w K mg base (k+1) "is_walk" sp:=
 qH (t3:=(UA S_is_at_least S_are_at_least S_is_step S_is_cells)) F W7 bd hm (λcdv A outer s H E hr=>(qi (zy (jpt (SF (UB (JE (QS (qb 0) rfl m_isinstance rfl m_tuple PyProof.Rows.boot_tuple))) (SF (qO (qQ hr.units) qA (qB zm zU rfl m_len PySem.boot_len (qa (qb 0) qe)) qd (qv _)) (SJ (UB (JE (QS (qp (qb 0) qd) rfl m_isinstance rfl m_str PyProof.Rows.boot_str))))))) (ql (qo CV)) qP) (qi (zb 1 W7.nd (qp (qb 0) qd)) (qi (zy (qc2 m_STRIDES rfl (qb 1)) (ql (qo (jL (zP (qQ hr.units) qA (qB zm zU rfl m_len PySem.boot_len (qa (qb 0) qe)) qd (qv _)) (Q8 (qh qs hr rfl (qa (qp (qb 0) qd) (qa qd qe))))))) qP) (qi (zy (qO (qQ hr.units) qA (qb 1) qX (qv _)) (ql (qo (jL (zP (qQ hr.units) qA (qB zm zU rfl m_len PySem.boot_len (qa (qb 0) qe)) qd (qv _)) (Q8 (qh zt hr rfl (qa (V8 (qb 0) (Y8 qd) SY) (qa qd qe))))))) qP) (qi (zy (qO (qQ hr.units) qA (qb 1) qX (qv _)) (ql (qo (qh Q4 hr rfl (qa (qb 0) qe)))) qP) (ql (qo (jL (zP (qQ hr.units) qA (qb 1) qX (qv _)) (Q8 (qh zY hr rfl (qa (qb 0) qe)))))))))))) read
abbrev JQ:Stmt:=top 13
abbrev LF:List Str:=["down","along","many"]
abbrev C6:List Str:=["down","along","many"]
def qaX:FnScope LF C6 (qj JQ):=⟨rfl,rfl,rfl,by decide +kernel,rfl,by decide +kernel,by decide +kernel⟩
def qaB (F:Fun K "strung" "strung" JQ f fd) (bd:zh K fd C6 []) (hm:mg "strung" = some (.ref f))  (m_range:mg "range" = none)
  (read:Rd sp 3 (Bk.EZ) LF):Fn3 P w K mg base (k+1) "strung" sp:=
 qH (t3:=(Bk.EZ)) F qaX bd hm (λcdv A outer s H E hr=>(ql (qo (UC ["t","down","along"] [none,some 0,some 1] rfl (zR rfl m_range (qa (qb 2) qe) (h1:=by intro _ _ _ h;simpa [qc,qk] using h)) (λ_ _ _=>(jgn 0)) (λ_ _ _=>jq) (λ_ _ _=>(qY (qa (zd (qb 0) (qb 1)) (qa (zd (qb 0) (qb 2)) qe)))) (by kernel_rfl) (by kernel_rfl))))) read
abbrev j2:Stmt:=top 14
abbrev XO:List Str:=["walk","kind","down","along"]
abbrev UX:List Str:=["walk"]
def JA:FnScope XO UX (qj j2):=⟨rfl,rfl,rfl,by decide +kernel,rfl,by decide +kernel,by decide +kernel⟩
def S4 {S_strung:Sp3} (F:Fun K "cells_of" "cells_of" j2 f fd) (bd:zh K fd UX []) (hm:mg "cells_of" = some (.ref f)) (zw:Fn3 P w K mg base k "strung" S_strung) (m_list:mg "list" = none) (m_range:mg "range" = none) (m_STRIDES:Tb K mg w "STRIDES" jO)
  (read:Rd sp 1 (Bk.YD S_strung) XO):Fn3 P w K mg base (k+1) "cells_of" sp:=
 qH (t3:=(Bk.YD S_strung)) F JA bd hm (λcdv A outer s H E hr=>(qi (zb 1 JA.nd (qp (qb 0) qd)) (qi (zy (qO (qQ hr.units) qA (qb 1) qX (qv _)) (ql (qo (zO EK LS rfl m_list PyProof.Rows.boot_list (qa (qp (qb 0) qd) qe)))) qP) (qi (zy (qO (qQ hr.units) qA (qb 1) qX (qv _)) (ql (qo (qiL ["p","q","walk"] [none,none,some 0] rfl (zR rfl m_range (qa (qp (qb 0) qd) qe) (h1:=by intro _ _ _ h;simpa [qc,qk] using h)) (λ_ _ _=>(jgn 0)) (λ_ _ _=>jq) (λ_ _ _=>(zR rfl m_range (qa (qp (qb 2) qd) qe) (h1:=by intro _ _ _ h;simpa [qc,qk] using h))) (λ_ _ _=>(jgn 1)) (λ_ _ _=>jq) (λ_ _ _=>(qY (qa (qb 0) (qa (qb 1) qe)))) (by kernel_rfl) (by kernel_rfl)))) qP) (qi (zy (qO (qQ hr.units) qA (qb 1) qX (qv _)) (ql (qo (qh zw hr rfl (qa (qp (qb 0) qd) (qa (qp (qb 0) qd) (qa (qp (qb 0) qd) qe)))))) qP) (qi (Y7 (qgF m_STRIDES rfl (qb 1) (λ_ _=>rfl)) (jf rfl (qt (qN (i:=2) (JA.nd)) (qt (qN (i:=3) (JA.nd)) jj)))) (ql (qo (qh zw hr rfl (qa (qb 2) (qa (qb 3) (qa (qp (qb 0) qd) qe)))))))))))) read
abbrev je:Stmt:=top 16
abbrev JV:List Str:=["dealing"]
abbrev J1:List Str:=["dealing"]
def CL:FnScope JV J1 (qj je):=⟨rfl,rfl,rfl,by decide +kernel,rfl,by decide +kernel,by decide +kernel⟩
def CQ (F:Fun K "factors_of" "factors_of" je f fd) (bd:zh K fd J1 []) (hm:mg "factors_of" = some (.ref f))  
  (read:Rd sp 1 (Pv.QT) JV):Fn3 P w K mg base (k+1) "factors_of" sp:=
 qH (t3:=(Pv.QT)) F CL bd hm (λcdv A outer s H E hr=>(qi (zy (qO (qQ hr.units) qA (qp (qb 0) qd) qX (qv _)) (ql (qo (qY (qa (qp (qb 0) qd) (qa qd qe))))) qP) (ql (qo (qY (qa (qp (qb 0) qd) (qa (qp (qb 0) qd) qe))))))) read
abbrev QE:Stmt:=top 17
abbrev W2:List Str:=["banks","factors","walk","a","b"]
abbrev UV:List Str:=["banks","factors","walk"]
def VO:FnScope W2 UV (qj QE):=⟨rfl,rfl,rfl,by decide +kernel,rfl,by decide +kernel,by decide +kernel⟩
def TK {S_cells_of:Sp3} (F:Fun K "rests_by" "rests_by" QE f fd) (bd:zh K fd UV []) (hm:mg "rests_by" = some (.ref f)) (qy:Fn3 P w K mg base k "cells_of" S_cells_of) (m_tuple:mg "tuple" = none)
  (read:Rd sp 3 (Bk.YG S_cells_of) W2):Fn3 P w K mg base (k+1) "rests_by" sp:=
 qH (t3:=(Bk.YG S_cells_of)) F VO bd hm (λcdv A outer s H E hr=>(qi (Y7 (qb 1) (jf rfl (qt (qN (i:=3) (VO.nd)) (qt (qN (i:=4) (VO.nd)) jj)))) (ql (qo (zO jh JZ rfl m_tuple PyProof.Rows.boot_tuple (qa (UC ["p","q","banks","a","b"] [none,none,some 0,some 3,some 4] rfl (Y5 (qh qy hr rfl (qa (qb 2) qe))) (λ_ _ _=>(jf rfl (qt (jgn 0) (qt (jgn 1) jj)))) (λ_ _ _=>jq) (λ_ _ _=>(jM (qD (zd (qb 3) (qb 0)) (zd (qb 4) (qb 1))) (qb 2))) (by kernel_rfl) (by kernel_rfl)) qe)))))) read
abbrev j9:Stmt:=top 18
abbrev EB:List Str:=["dealing","walk"]
abbrev ED:List Str:=["dealing","walk"]
def TU:FnScope EB ED (qj j9):=⟨rfl,rfl,rfl,by decide +kernel,rfl,by decide +kernel,by decide +kernel⟩
def K0 {S_factors_of:Sp3} {S_rests_by:Sp3} (F:Fun K "rests_of" "rests_of" j9 f fd) (bd:zh K fd ED []) (hm:mg "rests_of" = some (.ref f)) (qM:Fn3 P w K mg base k "factors_of" S_factors_of) (qZ:Fn3 P w K mg base k "rests_by" S_rests_by) 
  (read:Rd sp 2 (Pv.YX S_factors_of S_rests_by) EB):Fn3 P w K mg base (k+1) "rests_of" sp:=
 qH (t3:=(Pv.YX S_factors_of S_rests_by)) F TU bd hm (λcdv A outer s H E hr=>(ql (qo (qh qZ hr rfl (qa (qp (qb 0) qd) (qa (qh qM hr rfl (qa (qb 0) qe)) (qa (qb 1) qe))))))) read
abbrev JW:Stmt:=top 20
abbrev E7:List Str:=["one","other","rows","columns","pairs","walk"]
abbrev CY:List Str:=["one","other","rows","columns"]
def D0:FnScope E7 CY (qj JW):=⟨rfl,rfl,rfl,by decide +kernel,rfl,by decide +kernel,by decide +kernel⟩
def ET (S_cells_of:Sp3) (S_is_walk:Sp3):TS3:=(qR (zn (qfi (VQ (cb3 S_cells_of (qc (v3 0) qk))) (jo 2 (qx (gn3 0) (qx (gn3 1) jm))) tt3 (VQ (cb3 S_cells_of (qc (v3 4) qk))) (jo 2 (qx (gn3 2) (qx (gn3 3) jm))) tt3 (jW (qc (o3 zK (o3 (iC jy (·*·)) (v3 0) (v3 5)) (v3 2)) (qc (o3 zK (o3 (iC jy (·*·)) (v3 1) (v3 6)) (v3 3)) qk))) [none,none,none,none,some 1,some 2,some 3]) (gn3 4)) (qR (zn (jW (qc (c3 (.str "cells")) (qc (cb3 ZE (qc (v3 4) qk)) qk))) (gn3 5)) (qR (zZ (SX (tb3 (cb3 S_is_walk (qc (v3 5) qk)))) qhG qL) (qT (v3 5)))))
def qbX {S_cells_of:Sp3} {S_is_walk:Sp3} (F:Fun K "spread" "spread" JW f fd) (bd:zh K fd CY []) (hm:mg "spread" = some (.ref f)) (qy:Fn3 P w K mg base k "cells_of" S_cells_of) (jA:Fn3 P w K mg base k "is_walk" S_is_walk) (m_tuple:mg "tuple" = none)
  (read:Rd sp 4 (ET S_cells_of S_is_walk) E7):Fn3 P w K mg base (k+1) "spread" sp:=
 qH (t3:=(ET S_cells_of S_is_walk)) F D0 bd hm (λcdv A outer s H E hr=>(qi (qaY 4 ["p","q","r","t","other","rows","columns"] [none,none,none,none,some 1,some 2,some 3] rfl D0.nd (Y5 (qh qy hr rfl (qa (qb 0) qe))) (λ_ _ _=>(jf rfl (qt (jgn 0) (qt (jgn 1) jj)))) (λ_ _ _=>jq) (λ_ _ _=>(Y5 (qh qy hr rfl (qa (qb 4) qe)))) (λ_ _ _=>(jf rfl (qt (jgn 2) (qt (jgn 3) jj)))) (λ_ _ _=>jq) (λ_ _ _=>(qY (qa (qD (zd (qb 0) (qb 5)) (qb 2)) (qa (qD (zd (qb 1) (qb 6)) (qb 3)) qe)))) (by kernel_rfl) (by kernel_rfl) rfl rfl) (qi (zb 5 D0.nd (qY (qa qX (qa (zO jh JZ rfl m_tuple PyProof.Rows.boot_tuple (qa (qb 4) qe)) qe)))) (qi (zy (UB (JE (qh jA hr rfl (qa (qb 5) qe)))) qcW qP) (ql (qo (qb 5))))))) read
abbrev ZC:Stmt:=top 22
abbrev D7:List Str:=["_law_cell","_law_k","_law_m"]
abbrev DP:List Str:=["_law_cell","_law_k"]
def XH:FnScope D7 DP (qj ZC):=⟨rfl,rfl,rfl,by decide +kernel,rfl,by decide +kernel,by decide +kernel⟩
def MQ (F:Fun K "_law_mix" "_law_mix" ZC f fd) (bd:zh K fd DP []) (hm:mg "_law_mix" = some (.ref f))  
  (read:Rd sp 2 (Bk.V1) D7):Fn3 P w K mg base (k+1) "_law_mix" sp:=
 qH (t3:=(Bk.V1)) F XH bd hm (λcdv A outer s H E hr=>(qi (zb 2 XH.nd (jM (zd (qD (qD (jM (qb 0) qd) (zd (zd (qb 1) (qb 1)) qd)) qd) qd) qd)) (ql (qo (jM (zd (qb 2) (qb 2)) qd))))) read
abbrev QB:Stmt:=top 23
abbrev EA:List Str:=["_law_script","_law_k","_law_cell","_law_own"]
abbrev UM:List Str:=["_law_script","_law_k"]
def VG:FnScope EA UM (qj QB):=⟨rfl,rfl,rfl,by decide +kernel,rfl,by decide +kernel,by decide +kernel⟩
def TQ (F:Fun K "_law_left" "_law_left" QB f fd) (bd:zh K fd UM []) (hm:mg "_law_left" = some (.ref f))  (m_len:mg "len" = none) (m_abs:mg "abs" = none)
  (read:Rd sp 2 (Bk.YC) EA):Fn3 P w K mg base (k+1) "_law_left" sp:=
 qH (t3:=(Bk.YC)) F VG bd hm (λcdv A outer s H E hr=>(qi (zb 2 VG.nd (qhs (qO qcv UJ (qb 1) (qB zm zU rfl m_len PySem.boot_len (qa (qb 0) qe)) (qv _)) (qp (qb 0) (qb 1)) qd)) (qi (zb 3 VG.nd (qhs (qO qli UJ (qB K4 NT rfl m_abs PyProof.Rows.boot_abs (qa (qb 2) qe)) (qip qd qd) (qv _)) (qB K4 NT rfl m_abs PyProof.Rows.boot_abs (qa (qb 2) qe)) qd)) (ql (qo (jp (qa (qb 3) (qa (qD (qb 2) (zd qd (qb 1))) (qa qd qe))))))))) read
abbrev QI:Stmt:=top 24
abbrev UQ:List Str:=["_law_left_here","_law_many_here","_law_digit"]
abbrev U8:List Str:=["_law_left_here","_law_many_here"]
def WI:FnScope UQ U8 (qj QI):=⟨rfl,rfl,rfl,by decide +kernel,rfl,by decide +kernel,by decide +kernel⟩
def TY {S_law_mix:Sp3} (F:Fun K "_law_pick" "_law_pick" QI f fd) (bd:zh K fd U8 []) (hm:mg "_law_pick" = some (.ref f)) (F_law_mix:Fn3 P w K mg base k "_law_mix" S_law_mix) 
  (read:Rd sp 2 (Bk.YT S_law_mix) UQ):Fn3 P w K mg base (k+1) "_law_pick" sp:=
 qH (t3:=(Bk.YT S_law_mix)) F WI bd hm (λcdv A outer s H E hr=>(qi (Y7 (qD (qp (qb 0) qd) qd) (qe4 (qb 0) qd)) (qi (zy (qO qgf UJ (qp (qb 0) qd) qd (qv _)) (qi (zb 2 WI.nd (jM (qp (qb 0) qd) (qb 1))) (qi (Y7 (W5 (qp (qb 0) qd) (qb 1)) (qe4 (qb 0) qd)) (ql (qo (qb 2))))) qP) (ql (qo (jM (W5 (qh F_law_mix hr rfl (qa (qh F_law_mix hr rfl (qa (qp (qb 0) qd) (qa (qp (qb 0) qd) qe))) (qa (qD (qp (qb 0) qd) qd) qe))) qd) (qb 1))))))) read
abbrev jF:Stmt:=top 25
abbrev VD:List Str:=["_law_left_here","_law_wide","_law_rows","_law_columns"]
abbrev VI:List Str:=["_law_left_here"]
def JT:FnScope VD VI (qj jF):=⟨rfl,rfl,rfl,by decide +kernel,rfl,by decide +kernel,by decide +kernel⟩
def R9 {S_law_pick:Sp3} (F:Fun K "_law_sides" "_law_sides" jF f fd) (bd:zh K fd VI []) (hm:mg "_law_sides" = some (.ref f)) (F_law_pick:Fn3 P w K mg base k "_law_pick" S_law_pick) 
  (read:Rd sp 1 (Bk.Z8 S_law_pick) VD):Fn3 P w K mg base (k+1) "_law_sides" sp:=
 qH (t3:=(Bk.Z8 S_law_pick)) F JT bd hm (λcdv A outer s H E hr=>(qi (zb 1 JT.nd (qp (jp (qa qd (qa qd (qa qd (qa qd qe))))) (qh F_law_pick hr rfl (qa (qb 0) (qa qd qe))))) (qi (DR (i:=2) (j:=3) rfl JT.nd rfl rfl (by decide) rfl rfl (qa (qD qd (qh F_law_pick hr rfl (qa (qb 0) (qa (qb 1) qe)))) (qa (qD qd (qh F_law_pick hr rfl (qa (qb 0) (qa (qb 1) qe)))) qe))) (ql (qo (qp (jp (qa (qY (qa (qb 2) (qa (qb 3) qe))) (qa (qY (qa (qb 2) (qa (qb 3) qe))) (qa (qY (qa (qb 2) (qa (qb 3) qe))) (qa (qY (qa (qb 2) (qa (qb 2) qe))) qe))))) (qh F_law_pick hr rfl (qa (qb 0) (qa qd qe))))))))) read
abbrev Q9:Stmt:=top 26
abbrev D8:List Str:=["_law_one","_law_other"]
abbrev DA:List Str:=["_law_one","_law_other"]
def WZ:FnScope D8 DA (qj Q9):=⟨rfl,rfl,rfl,by decide +kernel,rfl,by decide +kernel,by decide +kernel⟩
def MZ (F:Fun K "_law_gcd" "_law_gcd" Q9 f fd) (bd:zh K fd DA []) (hm:mg "_law_gcd" = some (.ref f))  
  (read:Rd sp 2 (Bk.V9) D8):Fn3 P w K mg base (k+1) "_law_gcd" sp:=
 qH (t3:=(Bk.V9)) F WZ bd hm (λcdv A outer s H E hr=>(qi (qcT PassesOwn.never (qO qgf UJ (qb 1) qd (qv _)) (ql (DR (i:=0) (j:=1) rfl WZ.nd rfl rfl (by decide) rfl rfl (qa (qb 1) (qa (jM (qb 0) (qb 1)) qe))))) (ql (qo (qb 0))))) read
abbrev QH:Stmt:=top 27
abbrev Q6:List Str:=["_law_left_here","_law_rows","_law_columns","_law_banks","_law_wide"]
abbrev U5:List Str:=["_law_left_here"]
def j1:FnScope Q6 U5 (qj QH):=⟨rfl,rfl,rfl,by decide +kernel,rfl,by decide +kernel,by decide +kernel⟩
def T8 {S_law_sides:Sp3} {S_law_pick:Sp3} (F:Fun K "_law_skew" "_law_skew" QH f fd) (bd:zh K fd U5 []) (hm:mg "_law_skew" = some (.ref f)) (F_law_sides:Fn3 P w K mg base k "_law_sides" S_law_sides) (F_law_pick:Fn3 P w K mg base k "_law_pick" S_law_pick) 
  (read:Rd sp 1 (Bk.YV S_law_sides S_law_pick) Q6):Fn3 P w K mg base (k+1) "_law_skew" sp:=
 qH (t3:=(Bk.YV S_law_sides S_law_pick)) F j1 bd hm (λcdv A outer s H E hr=>(qi (Y7 (qh F_law_sides hr rfl (qa (qb 0) qe)) (jf rfl (qt (qN (i:=1) (j1.nd)) (qt (qN (i:=2) (j1.nd)) jj)))) (qi (zb 3 j1.nd (qD qd (qh F_law_pick hr rfl (qa (qb 0) (qa (qp (jp (qa qd (qa qd (qa qd (qa qd qe))))) (qh F_law_pick hr rfl (qa (qb 0) (qa qd qe)))) qe))))) (qi (zb 4 j1.nd (qp (jp (qa (qb 3) (qa qd (qa qd qe)))) (qh F_law_pick hr rfl (qa (qb 0) (qa qd qe))))) (ql (qo (qY (qa qX (qa (qb 1) (qa (qb 2) (qa (qb 3) (qa (qh F_law_pick hr rfl (qa (qb 0) (qa (qb 4) qe))) (qa (qh F_law_pick hr rfl (qa (qb 0) (qa (qb 4) qe))) qe))))))))))))) read
abbrev jH:Stmt:=top 28
abbrev VL:List Str:=["_law_left_here","_law_rows","_law_columns","_law_banks","_law_places","_law_turn"]
abbrev VC:List Str:=["_law_left_here"]
def zz:FnScope VL VC (qj jH):=⟨rfl,rfl,rfl,by decide +kernel,rfl,by decide +kernel,by decide +kernel⟩
def RM {S_law_sides:Sp3} {S_law_pick:Sp3} {S_law_gcd:Sp3} (F:Fun K "_law_rests" "_law_rests" jH f fd) (bd:zh K fd VC []) (hm:mg "_law_rests" = some (.ref f)) (F_law_sides:Fn3 P w K mg base k "_law_sides" S_law_sides) (F_law_pick:Fn3 P w K mg base k "_law_pick" S_law_pick) (F_law_gcd:Fn3 P w K mg base k "_law_gcd" S_law_gcd) (m_range:mg "range" = none)
  (read:Rd sp 1 (Bk.ZW S_law_sides S_law_pick S_law_gcd) VL):Fn3 P w K mg base (k+1) "_law_rests" sp:=
 qH (t3:=(Bk.ZW S_law_sides S_law_pick S_law_gcd)) F zz bd hm (λcdv A outer s H E hr=>(qi (Y7 (qh F_law_sides hr rfl (qa (qb 0) qe)) (jf rfl (qt (qN (i:=1) (zz.nd)) (qt (qN (i:=2) (zz.nd)) jj)))) (qi (zb 3 zz.nd (qD qd (qh F_law_pick hr rfl (qa (qb 0) (qa (qp (jp (qa qd (qa qd (qa qd qe)))) (qh F_law_pick hr rfl (qa (qb 0) (qa qd qe)))) qe))))) (qi (zb 4 zz.nd (qD (DN (W5 (zd (DN (qb 1)) (qb 2)) (qb 3))) (qh F_law_pick hr rfl (qa (qb 0) (qa qd qe))))) (qi (DG PassesOwn.never rfl (zR rfl m_range (qa qd qe) (h1:=by intro _ _ _ h;simpa [qc,qk] using h)) (qN (i:=5) (zz.nd)) (ql (zy (qO qgf UJ (qh F_law_gcd hr rfl (qa (qb 3) (qa (qb 4) qe))) qd (qv _)) (ql (zb 4 zz.nd (qD (qb 4) qd))) qP))) (ql (qo (qY (qa qX (qa (qb 1) (qa (qb 2) (qa (qb 3) (qa (qb 4) qe))))))))))))) read
abbrev jB:Stmt:=top 29
abbrev JB:List Str:=["_law_left_here"]
abbrev VN:List Str:=["_law_left_here"]
def C9:FnScope JB VN (qj jB):=⟨rfl,rfl,rfl,by decide +kernel,rfl,by decide +kernel,by decide +kernel⟩
def ZS (S_law_pick:Sp3) (S_law_rests:Sp3) (S_law_skew:Sp3):TS3:=(qT (if3 (tb3 (o3 (zS false) (cb3 S_law_pick (qc (v3 0) (qc (c3 (.int 3)) qk))) (c3 (.int 0)))) (cb3 S_law_rests (qc (v3 0) qk)) (cb3 S_law_skew (qc (v3 0) qk))))
def RB {S_law_pick:Sp3} {S_law_rests:Sp3} {S_law_skew:Sp3} (F:Fun K "_law_plain" "_law_plain" jB f fd) (bd:zh K fd VN []) (hm:mg "_law_plain" = some (.ref f)) (F_law_pick:Fn3 P w K mg base k "_law_pick" S_law_pick) (F_law_rests:Fn3 P w K mg base k "_law_rests" S_law_rests) (F_law_skew:Fn3 P w K mg base k "_law_skew" S_law_skew) 
  (read:Rd sp 1 (ZS S_law_pick S_law_rests S_law_skew) JB):Fn3 P w K mg base (k+1) "_law_plain" sp:=
 qH (t3:=(ZS S_law_pick S_law_rests S_law_skew)) F C9 bd hm (λcdv A outer s H E hr=>(ql (qo (qhs (qO (qQ hr.units) qA (qh F_law_pick hr rfl (qa (qb 0) (qa qd qe))) qd (qv _)) (qh F_law_rests hr rfl (qa (qb 0) qe)) (qh F_law_skew hr rfl (qa (qb 0) qe)))))) read
abbrev j7:Stmt:=top 30
abbrev YW:List Str:=["_law_dealing","_law_two","_law_one","_law_other"]
abbrev UO:List Str:=["_law_dealing"]
def VP:FnScope YW UO (qj j7):=⟨rfl,rfl,rfl,by decide +kernel,rfl,by decide +kernel,by decide +kernel⟩
def YL (S_law_size:Sp3):TS3:=(qR (zZ (tb3 (o3 (in3 false) (o3 ix3 (v3 0) (c3 (.int 0))) (jW (qc (c3 (.str "skew")) (qc (c3 (.str "rests")) qk))))) (qT (NM (v3 0) (sp3 (c3 (.int 1))) (sp3 (c3 (.int 4))))) qL) (qR (zZ (tb3 (o3 (zS false) (o3 ix3 (v3 0) (c3 (.int 0))) (c3 (.str "bits")))) (qR (zn (JH (qc (c3 (.int 1)) (qc (c3 (.int 2)) (qc (c3 (.int 4)) (qc (c3 (.int 8)) (qc (c3 (.int 16)) (qc (c3 (.int 32)) qk))))))) (gn3 1)) (qT (jW (qc (o3 ix3 (v3 1) (o3 ix3 (v3 0) (c3 (.int 1)))) (qc (o3 ix3 (v3 1) (o3 ix3 (v3 0) (c3 (.int 2)))) (qc (o3 ix3 (v3 1) (cb3 EG (qc (o3 ix3 (v3 0) (c3 (.int 3))) qk))) qk)))))) qL) (qR (zZ (tb3 (o3 (zS false) (o3 ix3 (v3 0) (c3 (.int 0))) (c3 (.str "table")))) (qT (jW (qc (cb3 EG (qc (o3 ix3 (v3 0) (c3 (.int 2))) qk)) (qc (cb3 EG (qc (o3 ix3 (o3 ix3 (v3 0) (c3 (.int 2))) (c3 (.int 0))) qk)) (qc (o3 ix3 (v3 0) (c3 (.int 1))) qk))))) qL) (qR (CC 2 3 (qc (cb3 S_law_size (qc (o3 ix3 (v3 0) (c3 (.int 1))) qk)) (qc (cb3 S_law_size (qc (o3 ix3 (v3 0) (c3 (.int 2))) qk)) qk))) (qT (cb3 ZE (qc (lc3 (KG (qc (v3 2) (qc (v3 3) qk))) (jo 2 (qx (gn3 0) (qx (gn3 1) jm))) tt3 (o3 (iC jy (·*·)) (v3 0) (v3 1)) [none,none]) qk)))))))
def KB {S_law_size:Sp3} (F:Fun K "_law_size" "_law_size" j7 f fd) (bd:zh K fd UO []) (hm:mg "_law_size" = some (.ref f)) (qu:Fn3 P w K mg base k "_law_size" S_law_size) (m_len:mg "len" = none) (m_zip:mg "zip" = none) (m_tuple:mg "tuple" = none)
  (read:Rd sp 1 (YL S_law_size) YW):Fn3 P w K mg base (k+1) "_law_size" sp:=
 qH (t3:=(YL S_law_size)) F VP bd hm (λcdv A outer s H E hr=>(qi (zy (qO qaq qkD (qp (qb 0) qd) (qY (qa qX (qa qX qe))) (by with_unfolding_all rfl)) (ql (qo (V8 (qb 0) (Y8 qd) (Y8 qd)))) qP) (qi (zy (qO (qQ hr.units) qA (qp (qb 0) qd) qX (qv _)) (qi (zb 1 VP.nd (jp (qa qd (qa qd (qa qd (qa qd (qa qd (qa qd qe)))))))) (ql (qo (qY (qa (qp (qb 1) (qp (qb 0) qd)) (qa (qp (qb 1) (qp (qb 0) qd)) (qa (qp (qb 1) (qB zm zU rfl m_len PySem.boot_len (qa (qp (qb 0) qd) qe))) qe))))))) qP) (qi (zy (qO (qQ hr.units) qA (qp (qb 0) qd) qX (qv _)) (ql (qo (qY (qa (qB zm zU rfl m_len PySem.boot_len (qa (qp (qb 0) qd) qe)) (qa (qB zm zU rfl m_len PySem.boot_len (qa (qp (qp (qb 0) qd) qd) qe)) (qa (qp (qb 0) qd) qe)))))) qP) (qi (DR (i:=2) (j:=3) rfl VP.nd rfl rfl (by decide) rfl rfl (qa (qh qu hr rfl (qa (qp (qb 0) qd) qe)) (qa (qh qu hr rfl (qa (qp (qb 0) qd) qe)) qe))) (ql (qo (zO jh JZ rfl m_tuple PyProof.Rows.boot_tuple (qa (UC ["_law_x","_law_y"] [none,none] rfl (qbn rfl m_zip (qa (qb 2) (qa (qb 3) qe))) (λ_ _ _=>(jf rfl (qt (jgn 0) (qt (jgn 1) jj)))) (λ_ _ _=>jq) (λ_ _ _=>(zd (qb 0) (qb 1))) (by kernel_rfl) (by kernel_rfl)) qe))))))))) read
abbrev EC:Stmt:=top 31
abbrev qaC:List Str:=["_law_number","_law_found","_law_t"]
abbrev qaz:List Str:=["_law_number"]
abbrev QC:Stmt:=top 32
abbrev YM:List Str:=["_law_dealing","_law_i","_law_j","_law_rows","_law_columns","_law_banks","_law_some","_law_high","_law_wide","_law_more"]
abbrev UZ:List Str:=["_law_dealing","_law_i","_law_j"]
def zF:FnScope YM UZ (qj QC):=⟨rfl,rfl,rfl,by decide +kernel,rfl,by decide +kernel,by decide +kernel⟩
def S8 {S_law_size:Sp3} {S_law_odd:Sp3} {S_law_bank:Sp3} (F:Fun K "_law_bank" "_law_bank" QC f fd) (bd:zh K fd UZ []) (hm:mg "_law_bank" = some (.ref f)) (qu:Fn3 P w K mg base k "_law_size" S_law_size) (F_law_odd:Fn3 P w K mg base k "_law_odd" S_law_odd) (zg:Fn3 P w K mg base k "_law_bank" S_law_bank) (m_enumerate:mg "enumerate" = none) (m_sum:mg "sum" = none)
  (read:Rd sp 3 (Bk.YI S_law_size S_law_odd S_law_bank) YM):Fn3 P w K mg base (k+1) "_law_bank" sp:=
 qH (t3:=(Bk.YI S_law_size S_law_odd S_law_bank)) F zF bd hm (λcdv A outer s H E hr=>(qi (Y7 (qh qu hr rfl (qa (qb 0) qe)) (jf rfl (qt (qN (i:=3) (zF.nd)) (qt (qN (i:=4) (zF.nd)) (qt (qN (i:=5) (zF.nd)) jj))))) (qi (zy (qO (qQ hr.units) qA (qp (qb 0) qd) qX (qv _)) (ql (qo (jM (qD (zd (qp (qb 0) qd) (qb 1)) (zd (qp (qb 0) qd) (qb 2))) (qb 5)))) qP) (qi (zy (qO (qQ hr.units) qA (qp (qb 0) qd) qX (qv _)) (ql (qo (jM (qD (zd (qb 1) (qb 4)) (qb 2)) (qb 5)))) qP) (qi (zy (qO (qQ hr.units) qA (qp (qb 0) qd) qX (qv _)) (qi (qc6 6 ["_law_t","_law_mask","_law_j","_law_i","_law_columns"] [none,none,some 2,some 1,some 4] rfl zF.nd (qgU rfl m_enumerate (qa (qp (qb 0) qd) qe)) (λ_ _ _=>(jf rfl (qt (jgn 0) (qt (jgn 1) jj)))) (λ_ _ _=>qmb (JE (qh F_law_odd hr rfl (qa (qgK (qD (zd (qb 3) (qb 4)) (qb 2)) (qb 1)) qe)))) (λ_ _ _=>(qp (jp (qa qd (qa qd (qa qd (qa qd (qa qd qe)))))) (qb 0))) (by kernel_rfl) (by kernel_rfl) rfl rfl) (ql (qo (qB (C1 rfl) qgD rfl m_sum PyProof.Rows.boot_sum (qa (qb 6) qe))))) qP) (qi (zy (qO (qQ hr.units) qA (qp (qb 0) qd) qX (qv _)) (ql (qo (qp (qp (qp (qb 0) qd) (qb 1)) (qb 2)))) qP) (qi (Y7 (qh qu hr rfl (qa (qp (qb 0) qd) qe)) (jf rfl (qt (qN (i:=7) (zF.nd)) (qt (qN (i:=8) (zF.nd)) (qt (qN (i:=9) (zF.nd)) jj))))) (ql (qo (qD (zd (qh zg hr rfl (qa (qp (qb 0) qd) (qa (W5 (qb 1) (qb 7)) (qa (W5 (qb 2) (qb 8)) qe)))) (qb 9)) (qh zg hr rfl (qa (qp (qb 0) qd) (qa (jM (qb 1) (qb 7)) (qa (jM (qb 2) (qb 8)) qe)))))))))))))) read
abbrev j8:Stmt:=top 33
abbrev YF:List Str:=["_law_left_here"]
abbrev U0:List Str:=["_law_left_here"]
def T1:FnScope YF U0 (qj j8):=⟨rfl,rfl,rfl,by decide +kernel,rfl,by decide +kernel,by decide +kernel⟩
def KJ {S_law_pick:Sp3} (F:Fun K "_law_many" "_law_many" j8 f fd) (bd:zh K fd U0 []) (hm:mg "_law_many" = some (.ref f)) (F_law_pick:Fn3 P w K mg base k "_law_pick" S_law_pick) 
  (read:Rd sp 1 (Bk.YN S_law_pick) YF):Fn3 P w K mg base (k+1) "_law_many" sp:=
 qH (t3:=(Bk.YN S_law_pick)) F T1 bd hm (λcdv A outer s H E hr=>(ql (qo (qD qd (qh F_law_pick hr rfl (qa (qb 0) (qa (qp (jp (qa qd (qa qd (qa qd (qa qd (qa qd (qa qd (qa qd (qa qd qe))))))))) (qh F_law_pick hr rfl (qa (qb 0) (qa qd qe)))) qe))))))) read
abbrev j4:Stmt:=top 34
abbrev UP:List Str:=["_law_left_here","_law_way","_law_lying","_law_high","_law_wide","_law_down","_law_along","_law_pairs","_law_far","_law_turn","_law_pair"]
abbrev UK:List Str:=["_law_left_here"]
def zC:FnScope UP UK (qj j4):=⟨rfl,rfl,rfl,by decide +kernel,rfl,by decide +kernel,by decide +kernel⟩
def KS {S_law_pick:Sp3} {S_law_many:Sp3} (F:Fun K "_law_walk" "_law_walk" j4 f fd) (bd:zh K fd UK []) (hm:mg "_law_walk" = some (.ref f)) (F_law_pick:Fn3 P w K mg base k "_law_pick" S_law_pick) (F_law_many:Fn3 P w K mg base k "_law_many" S_law_many) (m_int:mg "int" = none) (m_range:mg "range" = none) (m_tuple:mg "tuple" = none)
  (read:Rd sp 1 (Bk.YA S_law_pick S_law_many) UP):Fn3 P w K mg base (k+1) "_law_walk" sp:=
 qH (t3:=(Bk.YA S_law_pick S_law_many)) F zC bd hm (λcdv A outer s H E hr=>(qi (zb 1 zC.nd (qh F_law_pick hr rfl (qa (qb 0) (qa qd qe)))) (qi (zy (qO qcv UJ (qb 1) qd (qv _)) (ql (qo (qY (qa (qp (jp (qa qX (qa qX (qa qX (qa qX qe))))) (qb 1)) (qa (qh F_law_many hr rfl (qa (qb 0) qe)) qe))))) qP) (qi (zy (qO qcv UJ (qb 1) qd (qv _)) (qi (DR (i:=2) (j:=3) rfl zC.nd rfl rfl (by decide) rfl rfl (qa (qh F_law_pick hr rfl (qa (qb 0) (qa qd qe))) (qa (qD qd (qh F_law_pick hr rfl (qa (qb 0) (qa qd qe)))) qe))) (qi (zb 4 zC.nd (qD qd (qh F_law_pick hr rfl (qa (qb 0) (qa (W5 qd (qb 3)) qe))))) (ql (qo (qp (jp (qa (qY (qa qX (qa (qb 3) (qa (qb 4) qe)))) (qa (qY (qa qX (qa (qb 4) (qa (qb 3) qe)))) qe))) (qb 2)))))) qP) (qi (zy (qO qcv UJ (qb 1) qd (qv _)) (qi (DR (i:=5) (j:=6) rfl zC.nd rfl rfl (by decide) rfl rfl (qa (DO (qh F_law_pick hr rfl (qa (qb 0) (qa qd qe))) qd) (qa (DO (qh F_law_pick hr rfl (qa (qb 0) (qa qd qe))) qd) qe))) (qi (zy (qO (qQ hr.units) qA (qh F_law_pick hr rfl (qa (qb 0) (qa qd qe))) qd (qv _)) (ql (qo (qY (qa qX (qa (zd qd (qb 5)) (qa (qD (zd qd (qb 6)) (zO WB KC rfl m_int PyProof.Rows.boot_int (qa (jL (zP (qQ hr.units) qA (qb 5) qd (qv _)) (Q8 (zP (qQ hr.units) qA (qb 6) qd (qv _)))) qe))) (qa (qD qd (qh F_law_pick hr rfl (qa (qb 0) (qa qd qe)))) qe))))))) qP) (ql (qo (qY (qa qX (qa (qb 5) (qa (qD (qb 6) (zO WB KC rfl m_int PyProof.Rows.boot_int (qa (jL (zP (qQ hr.units) qA (qb 5) qd (qv _)) (Q8 (zP (qQ hr.units) qA (qb 6) qd (qv _)))) qe))) (qa (qh F_law_many hr rfl (qa (qb 0) qe)) qe))))))))) qP) (qi (DR (i:=7) (j:=8) rfl zC.nd rfl rfl (by decide) rfl rfl (qa (jp qe) (qa (qD qd (zd qd (zO WB KC rfl m_int PyProof.Rows.boot_int (qa (zP (qQ hr.units) qA (qh F_law_pick hr rfl (qa (qb 0) (qa qd qe))) qd (qv _)) qe)))) qe))) (qi (DG PassesOwn.never rfl (zR rfl m_range (qa (qh F_law_many hr rfl (qa (qb 0) qe)) qe) (h1:=by intro _ _ _ h;simpa [qc,qk] using h)) (qN (i:=9) (zC.nd)) (qi (zb 10 zC.nd (qY (qa (zd (qb 8) (DO (qh F_law_pick hr rfl (qa (qb 0) (qa qd qe))) qd)) (qa (zd (qb 8) (DO (qh F_law_pick hr rfl (qa (qb 0) (qa qd qe))) qd)) qe)))) (ql (zy (qO (qbx hr.units) qfX (qb 10) (qb 7) (by with_unfolding_all rfl)) (ql (TV (qaw (qb 7) (qa (qb 10) qe)))) qP)))) (ql (qo (qY (qa qX (qa (zO jh JZ rfl m_tuple PyProof.Rows.boot_tuple (qa (qb 7) qe)) qe)))))))))))) read
abbrev jJ:Stmt:=top 35
abbrev ZP:List Str:=["_law_walk_here","_law_found","_law_p","_law_down","_law_along"]
abbrev VM:List Str:=["_law_walk_here"]
def jD:FnScope ZP VM (qj jJ):=⟨rfl,rfl,rfl,by decide +kernel,rfl,by decide +kernel,by decide +kernel⟩
def R4 (F:Fun K "_law_cells" "_law_cells" jJ f fd) (bd:zh K fd VM []) (hm:mg "_law_cells" = some (.ref f))  (m_list:mg "list" = none) (m_range:mg "range" = none)
  (read:Rd sp 1 (Bk.ZV) ZP):Fn3 P w K mg base (k+1) "_law_cells" sp:=
 qH (t3:=(Bk.ZV)) F jD bd hm (λcdv A outer s H E hr=>(qi (zy (qO (qQ hr.units) qA (qp (qb 0) qd) qX (qv _)) (ql (qo (zO EK LS rfl m_list PyProof.Rows.boot_list (qa (qp (qb 0) qd) qe)))) qP) (qi (zy (qO (qQ hr.units) qA (qp (qb 0) qd) qX (qv _)) (qi (zb 1 jD.nd (jp qe)) (qi (DG PassesOwn.never rfl (zR rfl m_range (qa (qp (qb 0) qd) qe) (h1:=by intro _ _ _ h;simpa [qc,qk] using h)) (qN (i:=2) (jD.nd)) (ql (TV (SL (qb 1) (qa (UC ["_law_q","_law_p"] [none,some 2] rfl (zR rfl m_range (qa (qp (qb 0) qd) qe) (h1:=by intro _ _ _ h;simpa [qc,qk] using h)) (λ_ _ _=>(jgn 0)) (λ_ _ _=>jq) (λ_ _ _=>(qY (qa (qb 1) (qa (qb 0) qe)))) (by kernel_rfl) (by kernel_rfl)) qe))))) (ql (qo (qb 1))))) qP) (qi (Y7 (qg3 (D6 (qY (qa qd (qa qd qe))) (D6 (qY (qa qd (qa qd qe))) (D6 (qY (qa qd (qa qd qe))) (D6 (qY (qa qd (qa (DN qd) qe))) (D6 (V8 (qb 0) (Y8 qd) (Y8 qd)) qlI))))) (qp (qb 0) qd)) (jf rfl (qt (qN (i:=3) (jD.nd)) (qt (qN (i:=4) (jD.nd)) jj)))) (ql (qo (UC ["_law_t","_law_down","_law_along"] [none,some 3,some 4] rfl (zR rfl m_range (qa (qp (qb 0) (DN qd)) qe) (h1:=by intro _ _ _ h;simpa [qc,qk] using h)) (λ_ _ _=>(jgn 0)) (λ_ _ _=>jq) (λ_ _ _=>(qY (qa (zd (qb 0) (qb 1)) (qa (zd (qb 0) (qb 2)) qe)))) (by kernel_rfl) (by kernel_rfl)))))))) read
abbrev jd:Stmt:=top 36
abbrev QU:List Str:=["_law_dealing","_law_walk_here","_law_rows","_law_columns","_law_banks","_law_cells_here","_law_downs","_law_alongs","_law_found","_law_i"]
abbrev JU:List Str:=["_law_dealing","_law_walk_here"]
def zc:FnScope QU JU (qj jd):=⟨rfl,rfl,rfl,by decide +kernel,rfl,by decide +kernel,by decide +kernel⟩
def XX {S_law_size:Sp3} {S_law_cells:Sp3} (F:Fun K "_law_starts" "_law_starts" jd f fd) (bd:zh K fd JU []) (hm:mg "_law_starts" = some (.ref f)) (qu:Fn3 P w K mg base k "_law_size" S_law_size) (qz:Fn3 P w K mg base k "_law_cells" S_law_cells) (m_min:mg "min" = none) (m_max:mg "max" = none) (m_range:mg "range" = none)
  (read:Rd sp 2 (Bk.QR S_law_size S_law_cells) QU):Fn3 P w K mg base (k+1) "_law_starts" sp:=
 qH (t3:=(Bk.QR S_law_size S_law_cells)) F zc bd hm (λcdv A outer s H E hr=>(qi (Y7 (qh qu hr rfl (qa (qb 0) qe)) (jf rfl (qt (qN (i:=2) (zc.nd)) (qt (qN (i:=3) (zc.nd)) (qt (qN (i:=4) (zc.nd)) jj))))) (qi (zb 5 zc.nd (qh qz hr rfl (qa (qb 1) qe))) (qi (DR (i:=6) (j:=7) rfl zc.nd rfl rfl (by decide) rfl rfl (qa (UC ["_law_p","_law_q"] [none,none] rfl (Y5 (qb 5)) (λ_ _ _=>(jf rfl (qt (jgn 0) (qt (jgn 1) jj)))) (λ_ _ _=>jq) (λ_ _ _=>(qb 0)) (by kernel_rfl) (by kernel_rfl)) (qa (UC ["_law_p","_law_q"] [none,none] rfl (Y5 (qb 5)) (λ_ _ _=>(jf rfl (qt (jgn 0) (qt (jgn 1) jj)))) (λ_ _ _=>jq) (λ_ _ _=>(qb 1)) (by kernel_rfl) (by kernel_rfl)) qe))) (qi (zb 8 zc.nd (jp qe)) (qi (DG PassesOwn.never rfl (SC rfl m_range (qa (DN (qB (RP rfl) LC rfl m_min PyProof.Rows.boot_min (qa (qb 6) qe))) (qa (DO (qb 2) (qB (RA rfl) LV rfl m_max PyProof.Rows.boot_max (qa (qb 6) qe))) qe)) (h1:=by intro _ _ _ h;simpa [qc,qk] using h)) (qN (i:=9) (zc.nd)) (ql (TV (SL (qb 8) (qa (UC ["_law_j","_law_i"] [none,some 9] rfl (SC rfl m_range (qa (DN (qB (RP rfl) LC rfl m_min PyProof.Rows.boot_min (qa (qb 7) qe))) (qa (DO (qb 3) (qB (RA rfl) LV rfl m_max PyProof.Rows.boot_max (qa (qb 7) qe))) qe)) (h1:=by intro _ _ _ h;simpa [qc,qk] using h)) (λ_ _ _=>(jgn 0)) (λ_ _ _=>jq) (λ_ _ _=>(qY (qa (qb 1) (qa (qb 0) qe)))) (by kernel_rfl) (by kernel_rfl)) qe))))) (ql (qo (qb 8))))))))) read
abbrev j3:Stmt:=top 37
abbrev J9:List Str:=["_law_dealing","_law_walk_here","_law_start"]
abbrev US:List Str:=["_law_dealing","_law_walk_here","_law_start"]
def T3:FnScope J9 US (qj j3):=⟨rfl,rfl,rfl,by decide +kernel,rfl,by decide +kernel,by decide +kernel⟩
def TN {S_law_cells:Sp3} {S_law_bank:Sp3} (F:Fun K "_law_from" "_law_from" j3 f fd) (bd:zh K fd US []) (hm:mg "_law_from" = some (.ref f)) (qz:Fn3 P w K mg base k "_law_cells" S_law_cells) (zg:Fn3 P w K mg base k "_law_bank" S_law_bank) 
  (read:Rd sp 3 (Bk.YQ S_law_cells S_law_bank) J9):Fn3 P w K mg base (k+1) "_law_from" sp:=
 qH (t3:=(Bk.YQ S_law_cells S_law_bank)) F T3 bd hm (λcdv A outer s H E hr=>(ql (qo (UC ["_law_p","_law_q","_law_dealing","_law_start"] [none,none,some 0,some 2] rfl (Y5 (qh qz hr rfl (qa (qb 1) qe))) (λ_ _ _=>(jf rfl (qt (jgn 0) (qt (jgn 1) jj)))) (λ_ _ _=>jq) (λ_ _ _=>(qh zg hr rfl (qa (qb 2) (qa (qD (qp (qb 3) qd) (qb 0)) (qa (qD (qp (qb 3) qd) (qb 1)) qe))))) (by kernel_rfl) (by kernel_rfl))))) read
abbrev QF:Stmt:=top 38
abbrev W9:List Str:=["_law_found","_law_due"]
abbrev U2:List Str:=["_law_found","_law_due"]
def KM:FnScope W9 U2 (qj QF):=⟨rfl,rfl,rfl,by decide +kernel,rfl,by decide +kernel,by decide +kernel⟩
def j0 {S_law_same:Sp3} (F:Fun K "_law_same" "_law_same" QF f fd) (bd:zh K fd U2 []) (hm:mg "_law_same" = some (.ref f)) (F_law_same:Fn3 P w K mg base k "_law_same" S_law_same) (m_isinstance:mg "isinstance" = none) (m_list:mg "list" = none) (m_tuple:mg "tuple" = none) (m_zip:mg "zip" = none) (m_all:mg "all" = none) (m_len:mg "len" = none) (m_str:mg "str" = none) (m_bool:mg "bool" = none) (m_int:mg "int" = none)
  (read:Rd sp 2 (Bk.UY S_law_same) W9):Fn3 P w K mg base (k+1) "_law_same" sp:=
 qH (t3:=(Bk.UY S_law_same)) F KM bd hm (λcdv A outer s H E hr=>(qi (zy (JE (qaK (qb 1) rfl m_isinstance rfl m_list PyProof.Rows.boot_list rfl m_tuple PyProof.Rows.boot_tuple)) (qi (zy (jpt (SF (qO (DB hr.units) VB (QS (qb 0) rfl m_isinstance rfl m_list PyProof.Rows.boot_list) (QS (qb 1) rfl m_isinstance rfl m_list PyProof.Rows.boot_list) (qv _)) (SJ (qO (DB hr.units) VB (QS (qb 0) rfl m_isinstance rfl m_tuple PyProof.Rows.boot_tuple) (QS (qb 1) rfl m_isinstance rfl m_tuple PyProof.Rows.boot_tuple) (qv _))))) (ql (qo CV)) qP) (ql (qo (jL (zP (qQ hr.units) qA (qB zm zU rfl m_len PySem.boot_len (qa (qb 0) qe)) (qB zm zU rfl m_len PySem.boot_len (qa (qb 1) qe)) (qv _)) (Q8 (qB (QZ rfl) S0 rfl m_all PyProof.Rows.boot_all (qa (UC ["_law_one","_law_other"] [none,none] rfl (qbn rfl m_zip (qa (qb 0) (qa (qb 1) qe))) (λ_ _ _=>(jf rfl (qt (jgn 0) (qt (jgn 1) jj)))) (λ_ _ _=>jq) (λ_ _ _=>(qh F_law_same hr rfl (qa (qb 0) (qa (qb 1) qe)))) (by kernel_rfl) (by kernel_rfl)) qe))))))) qP) (qi (zy (jpt (SF (qO qbL KR (qb 1) N7 (qv _)) (SJ (JE (qaK (qb 1) rfl m_isinstance rfl m_str PyProof.Rows.boot_str rfl m_bool PyProof.Rows.boot_bool))))) (ql (qo (jL (zP (qQ hr.units) qA (qb 0) (qb 1) (qv _)) (jL (zP (qQ hr.units) qA (QS (qb 0) rfl m_isinstance rfl m_bool PyProof.Rows.boot_bool) (QS (qb 1) rfl m_isinstance rfl m_bool PyProof.Rows.boot_bool) (qv _)) (Q8 (zP (qQ hr.units) qA (zP qbL KR (qb 0) N7 (qv _)) (zP qbL KR (qb 1) N7 (qv _)) (qv _))))))) qP) (ql (qo (jL (QS (qb 0) rfl m_isinstance rfl m_int PyProof.Rows.boot_int) (jL (qfG (QS (qb 0) rfl m_isinstance rfl m_bool PyProof.Rows.boot_bool)) (Q8 (zP (qQ hr.units) qA (qb 0) (qb 1) (qv _)))))))))) read
abbrev QJ:Stmt:=top 39
abbrev ZH:List Str:=["_law_dealing","_law_p","_law_q"]
abbrev UW:List Str:=["_law_dealing","_law_p","_law_q"]
def KI:FnScope ZH UW (qj QJ):=⟨rfl,rfl,rfl,by decide +kernel,rfl,by decide +kernel,by decide +kernel⟩
def YY:TS3:=(qR (zZ (tb3 (o3 (zS false) (o3 ix3 (v3 0) (c3 (.int 0))) (c3 (.str "rests")))) (qT (o3 (iC (λ_ j=>0<j) (·%·)) (o3 zK (o3 (iC jy (·*·)) (o3 ix3 (v3 0) (c3 (.int 2))) (v3 1)) (v3 2)) (o3 ix3 (v3 0) (c3 (.int 3))))) qL) (qT (o3 (iC (λ_ j=>0<j) (·%·)) (o3 zK (o3 (iC (λ_ j=>0<j) (·%·)) (o3 (iC jy (·*·)) (o3 ix3 (v3 0) (c3 (.int 4))) (v3 1)) (o3 ix3 (v3 0) (c3 (.int 3)))) (o3 (iC (λ_ j=>0<j) (·%·)) (o3 (iC jy (·*·)) (o3 ix3 (v3 0) (c3 (.int 5))) (v3 2)) (o3 ix3 (v3 0) (c3 (.int 3))))) (o3 ix3 (v3 0) (c3 (.int 3))))))
def KP (F:Fun K "_law_rest" "_law_rest" QJ f fd) (bd:zh K fd UW []) (hm:mg "_law_rest" = some (.ref f))  
  (read:Rd sp 3 (YY) ZH):Fn3 P w K mg base (k+1) "_law_rest" sp:=
 qH (t3:=(YY)) F KI bd hm (λcdv A outer s H E hr=>(qi (zy (qO (qQ hr.units) qA (qp (qb 0) qd) qX (qv _)) (ql (qo (jM (qD (zd (qp (qb 0) qd) (qb 1)) (qb 2)) (qp (qb 0) qd)))) qP) (ql (qo (jM (qD (jM (zd (qp (qb 0) qd) (qb 1)) (qp (qb 0) qd)) (jM (zd (qp (qb 0) qd) (qb 2)) (qp (qb 0) qd))) (qp (qb 0) qd)))))) read
abbrev zQ:Stmt:=top 40
abbrev jT:List Str:=["_law_dealing","_law_walk_here","_law_start","_law_rests_here","_law_banks","_law_told"]
abbrev ZT:List Str:=["_law_dealing","_law_walk_here","_law_start","_law_rests_here"]
def QY:FnScope jT ZT (qj zQ):=⟨rfl,rfl,rfl,by decide +kernel,rfl,by decide +kernel,by decide +kernel⟩
def jQ (S_law_size:Sp3) (S_law_from:Sp3):TS3:=(qR (zn (o3 ix3 (cb3 S_law_size (qc (v3 0) qk)) (c3 (.int 2))) (gn3 4)) (qR (zn (cb3 S_law_from (qc (v3 0) (qc (v3 1) (qc (v3 2) qk)))) (gn3 5)) (qT (o3 (zS false) (qfY (lc3 (KG (qc (v3 5) (qc (v3 3) qk))) (jo 2 (qx (gn3 0) (qx (gn3 1) jm))) tt3 (o3 (iC (λ_ j=>0<j) (·%·)) (o3 (iI (·-·)) (v3 0) (v3 1)) (v3 2)) [none,none,some 4])) (c3 (.int 1))))))
def WP {S_law_size:Sp3} {S_law_from:Sp3} (F:Fun K "_law_shifted" "_law_shifted" zQ f fd) (bd:zh K fd ZT []) (hm:mg "_law_shifted" = some (.ref f)) (qu:Fn3 P w K mg base k "_law_size" S_law_size) (zX:Fn3 P w K mg base k "_law_from" S_law_from) (m_zip:mg "zip" = none) (m_len:mg "len" = none) (m_set:mg "set" = none)
  (read:Rd sp 4 (jQ S_law_size S_law_from) jT):Fn3 P w K mg base (k+1) "_law_shifted" sp:=
 qH (t3:=(jQ S_law_size S_law_from)) F QY bd hm (λcdv A outer s H E hr=>(qi (zb 4 QY.nd (qp (qh qu hr rfl (qa (qb 0) qe)) qd)) (qi (zb 5 QY.nd (qh zX hr rfl (qa (qb 0) (qa (qb 1) (qa (qb 2) qe))))) (ql (qo (zP (qQ hr.units) qA (qba rfl rfl m_len rfl m_set (UC ["_law_bank_here","_law_rest_here","_law_banks"] [none,none,some 4] rfl (qbn rfl m_zip (qa (qb 5) (qa (qb 3) qe))) (λ_ _ _=>(jf rfl (qt (jgn 0) (qt (jgn 1) jj)))) (λ_ _ _=>jq) (λ_ _ _=>(jM (DO (qb 0) (qb 1)) (qb 2))) (by kernel_rfl) (by kernel_rfl))) qd (qv _))))))) read
abbrev J2:Stmt:=top 41
abbrev qcV:List Str:=["_law_script","_law_k","_law_left_here","_law_dealing","_law_turn","_law_walk_here","_law_kept","_law_due","_law_some","_law_start"]
abbrev qh8:List Str:=["_law_script"]
def J6:FnScope qcV qh8 (qj J2):=⟨rfl,rfl,rfl,by decide +kernel,rfl,by decide +kernel,by decide +kernel⟩
def qhA (S_law_left:Sp3) (S_law_plain:Sp3) (S_law_walk:Sp3) (S_law_pick:Sp3) (S_spread:Sp3) (S_law_cells:Sp3) (S_law_rest:Sp3) (S_rests_of:Sp3) (S_law_same:Sp3) (S_law_starts:Sp3) (S_law_shifted:Sp3):TS3:=(qR (R0 (QM (qc (o3 zK (c3 (.int 1)) (cb3 qg8 (qc (c3 (.int 24)) (qc (cb3 EG (qc (v3 0) qk)) qk)))) qk)) (gn3 1) (qR (zn (cb3 S_law_left (qc (v3 0) (qc (v3 1) qk))) (gn3 2)) (qR (zn (cb3 S_law_plain (qc (v3 2) qk)) (gn3 3)) (R0 (QM (qc (c3 (.int 3)) qk)) (gn3 4) (qR (zn (cb3 S_law_walk (qc (v3 2) qk)) (gn3 5)) (qR (zZ (tb3 (o3 (zS false) (cb3 S_law_pick (qc (v3 2) (qc (c3 (.int 6)) qk))) (c3 (.int 0)))) (zn (cb3 S_spread (qc (v3 5) (qc (jW (qc (c3 (.str "row")) (qc (o3 zK (c3 (.int 1)) (cb3 S_law_pick (qc (v3 2) (qc (c3 (.int 4)) qk)))) qk))) (qc (o3 zK (c3 (.int 1)) (cb3 S_law_pick (qc (v3 2) (qc (c3 (.int 3)) qk)))) (qc (o3 zK (c3 (.int 4)) (cb3 S_law_pick (qc (v3 2) (qc (c3 (.int 3)) qk)))) qk))))) (gn3 5)) qL) (qR (zn (cb3 (KA false) (qc (JH (qc (v3 3) (qc (v3 5) qk))) qk)) (gn3 6)) (qR (zn (cb3 ZE (qc (lc3 (VQ (cb3 S_law_cells (qc (v3 5) qk))) (jo 2 (qx (gn3 0) (qx (gn3 1) jm))) tt3 (cb3 S_law_rest (qc (v3 2) (qc (v3 0) (qc (v3 1) qk)))) [none,none,some 3]) qk)) (gn3 7)) (qR (zZ (SX (tb3 (cb3 S_law_same (qc (JH (qc (cb3 S_rests_of (qc (v3 3) (qc (v3 5) qk))) (qc (cb3 S_rests_of (qc (v3 3) (qc (v3 5) qk))) qk))) (qc (JH (qc (v3 7) (qc (v3 7) qk))) qk))))) (qT (c3 (.bl false))) qL) (qR (zn (cb3 S_law_starts (qc (v3 3) (qc (v3 5) qk))) (gn3 8)) (qR (R0 (VQ (o3 zK (NM (v3 8) np3 (sp3 (c3 (.int 2)))) (NM (v3 8) (sp3 (u3 TH (c3 (.int 1)))) np3))) (gn3 9) (zZ (SX (tb3 (cb3 S_law_shifted (qc (v3 3) (qc (v3 5) (qc (v3 9) (qc (v3 7) qk))))))) (qT (c3 (.bl false))) qL)) (zZ (tb3 (o3 (zS true) (cb3 (KA false) (qc (JH (qc (v3 3) (qc (v3 5) qk))) qk)) (v3 6))) (qT (c3 (.bl false))) qL)))))))))))) (qT (c3 (.bl true))))
def qlB {S_law_left:Sp3} {S_law_plain:Sp3} {S_law_walk:Sp3} {S_law_pick:Sp3} {S_spread:Sp3} {S_law_cells:Sp3} {S_law_rest:Sp3} {S_rests_of:Sp3} {S_law_same:Sp3} {S_law_starts:Sp3} {S_law_shifted:Sp3} (F:Fun K "law" "law" J2 f fd) (F_law_left:Fn3 P w K mg base k "_law_left" S_law_left) (F_law_plain:Fn3 P w K mg base k "_law_plain" S_law_plain) (F_law_walk:Fn3 P w K mg base k "_law_walk" S_law_walk) (F_law_pick:Fn3 P w K mg base k "_law_pick" S_law_pick) (QW:Fn3 P w K mg base k "spread" S_spread) (qz:Fn3 P w K mg base k "_law_cells" S_law_cells) (zV:Fn3 P w K mg base k "_law_rest" S_law_rest) (zr:Fn3 P w K mg base k "rests_of" S_rests_of) (F_law_same:Fn3 P w K mg base k "_law_same" S_law_same) (zj:Fn3 P w K mg base k "_law_starts" S_law_starts) (za:Fn3 P w K mg base k "_law_shifted" S_law_shifted) (m_len:mg "len" = none) (m_min:mg "min" = none) (m_range:mg "range" = none) (m_repr:mg "repr" = none) (m_tuple:mg "tuple" = none)
  (read:Rd sp 1 (qhA S_law_left S_law_plain S_law_walk S_law_pick S_spread S_law_cells S_law_rest S_rests_of S_law_same S_law_starts S_law_shifted) qcV):FnOk P w K mg base CX0 (k+1) f fd qh8 (lSp K sp):=
 qcN (t3:=(qhA S_law_left S_law_plain S_law_walk S_law_pick S_spread S_law_cells S_law_rest S_rests_of S_law_same S_law_starts S_law_shifted)) F J6 (λcdv A outer s H E hr=>(qi (DG PassesOwn.never rfl (zR rfl m_range (qa (qD qd (qB (qby rfl) qhd rfl m_min PyProof.Rows.boot_min (qa qd (qa (qB zm zU rfl m_len PySem.boot_len (qa (qb 0) qe)) qe)))) qe) (h1:=by intro _ _ _ h;simpa [qc,qk] using h)) (qN (i:=1) (J6.nd)) (qi (zb 2 J6.nd (qh F_law_left hr rfl (qa (qb 0) (qa (qb 1) qe)))) (qi (zb 3 J6.nd (qh F_law_plain hr rfl (qa (qb 2) qe))) (ql (DG PassesOwn.never rfl (zR rfl m_range (qa qd qe) (h1:=by intro _ _ _ h;simpa [qc,qk] using h)) (qN (i:=4) (J6.nd)) (qi (zb 5 J6.nd (qh F_law_walk hr rfl (qa (qb 2) qe))) (qi (zy (qO (qQ hr.units) qA (qh F_law_pick hr rfl (qa (qb 2) (qa qd qe))) qd (qv _)) (ql (zb 5 J6.nd (qh QW hr rfl (qa (qb 5) (qa (qY (qa qX (qa (qD qd (qh F_law_pick hr rfl (qa (qb 2) (qa qd qe)))) qe))) (qa (qD qd (qh F_law_pick hr rfl (qa (qb 2) (qa qd qe)))) (qa (qD qd (qh F_law_pick hr rfl (qa (qb 2) (qa qd qe)))) qe))))))) qP) (qi (zb 6 J6.nd (qB (EF hr.gd hr.units) K3 rfl m_repr PyProof.Rows.boot_repr (qa (jp (qa (qb 3) (qa (qb 5) qe))) qe))) (qi (zb 7 J6.nd (zO jh JZ rfl m_tuple PyProof.Rows.boot_tuple (qa (UC ["_law_p","_law_q","_law_dealing"] [none,none,some 3] rfl (Y5 (qh qz hr rfl (qa (qb 5) qe))) (λ_ _ _=>(jf rfl (qt (jgn 0) (qt (jgn 1) jj)))) (λ_ _ _=>jq) (λ_ _ _=>(qh zV hr rfl (qa (qb 2) (qa (qb 0) (qa (qb 1) qe))))) (by kernel_rfl) (by kernel_rfl)) qe))) (qi (zy (UB (JE (qh F_law_same hr rfl (qa (jp (qa (qh zr hr rfl (qa (qb 3) (qa (qb 5) qe))) (qa (qh zr hr rfl (qa (qb 3) (qa (qb 5) qe))) qe))) (qa (jp (qa (qb 7) (qa (qb 7) qe))) qe))))) (ql (qo CV)) qP) (qi (zb 8 J6.nd (qh zj hr rfl (qa (qb 3) (qa (qb 5) qe)))) (qi (DG PassesOwn.never rfl (Y5 (qD (V8 (qb 8) SY (Y8 qd)) (V8 (qb 8) (Y8 (DN qd)) SY))) (qN (i:=9) (J6.nd)) (ql (zy (UB (JE (qh za hr rfl (qa (qb 3) (qa (qb 5) (qa (qb 9) (qa (qb 7) qe))))))) (ql (qo CV)) qP))) (ql (zy (qO (DB hr.units) VB (qB (EF hr.gd hr.units) K3 rfl m_repr PyProof.Rows.boot_repr (qa (jp (qa (qb 3) (qa (qb 5) qe))) qe)) (qb 6) (qv _)) (ql (qo CV)) qP)))))))))))))) (ql (qo CV)))) read
end K21
namespace K21
open PySem L2 L3 Pu
def ZK:PuS (Bk.ZQ):=(ZR (DX (qfV (λt=>QK t "int") (bV 0)) (qiw (qfV (λt=>QK t "bool") (bV 0)))))
def qq:List PyData->Option PyData:=Pu.run ZK.f 1 1 1000000000 false
def RZ:Rd (PSp qq false) 1 (Bk.ZQ) ZN:=zf ZK ZN 1 1000000000 false
def R7 {x0:PyData}:qq [x0]=EN false (ZK.f 1000000000 [.sh x0]):=id rfl
def V6:PuS (K21.jU (PSp qq false)):=(ZR (DX (qE (ze qq false) (qf (bV 0) qI)) (bO (opB λi j=>decide (j<=i)) (bV 0) (bV 1))))
def qs:List PyData->Option PyData:=Pu.run V6.f 2 2 1000000000 false
def WT:Rd (PSp qs false) 2 (K21.jU (PSp qq false)) jk:=zf V6 jk 2 1000000000 false
def Y0:PuS (K21.jx (PSp qs false)):=(ZR (qE qn6 (qf (bLc (NK (bV 0)) (gN 0) bTt (qE (ze qs false) (qf (bV 0) (qf (bV 1) qI))) [none,some 1] ⟨rfl⟩) qI)))
def zt:List PyData->Option PyData:=Pu.run Y0.f 2 2 1000000000 false
def D4:Rd (PSp zt false) 2 (K21.jx (PSp qs false)) jz:=zf Y0 jz 2 1000000000 false
def UG:PuS (Bk.UI (PSp qq false)):=(ZR (DX (qfV (λt=>QK t "tuple") (bV 0)) (DX (bO (Y6 false) (qE NO (qf (bV 0) qI)) (qF 2)) (DX (qE (ze qq false) (qf (bO zl (bV 0) (qF 0)) qI)) (qE (ze qq false) (qf (bO zl (bV 0) (qF 1)) qI))))))
def jC:List PyData->Option PyData:=Pu.run UG.f 1 1 1000000000 false
def NE:Rd (PSp jC false) 1 (Bk.UI (PSp qq false)) VU:=zf UG VU 1 1000000000 false
def NA {x0:PyData}:jC [x0]=EN false (UG.f 1000000000 [.sh x0]):=id rfl
def RR:PuS (K21.V2 (PSp qq false) (PSp qs false)):=(QV (sIf (bOr (bTb (bO (Y6 true) (qE NO (qf (bV 0) qI)) (qF 4))) (bOr (qce (bTb (qE (ze qq false) (qf (bO zl (bV 0) (qF 1)) qI)))) (qce (bTb (qE (ze qq false) (qf (bO zl (bV 0) (qF 2)) qI)))))) (ZR (bBl false)) QA) (ZR (DX (qpv (bO (Y6 true) (bO zl (bV 0) (qF 1)) (qF 0)) (bO (Y6 true) (bO zl (bV 0) (qF 2)) (qF 0))) (qE (ze qs false) (qf (bO zl (bV 0) (qF 3)) (qf (qF 1) qI))))))
def Q4:List PyData->Option PyData:=Pu.run RR.f 1 1 1000000000 false
def ND:Rd (PSp Q4 false) 1 (K21.V2 (PSp qq false) (PSp qs false)) V0:=zf RR V0 1 1000000000 false
def YU:PuS (K21.YH (PSp jC false)):=(QV (sIf (bOr (bTb (bO (Y6 true) (qE NO (qf (bV 0) qI)) (qF 2))) (bOr (qce (bTb (qfV (λt=>QK t "tuple") (bO zl (bV 0) (qF 1))))) (bTb (bO (Y6 false) (qE NO (qf (bO zl (bV 0) (qF 1)) qI)) (qF 0))))) (ZR (bBl false)) QA) (QV (sIf (qce (bTb (qE qn6 (qf (bLc (NK (bO zl (bV 0) (qF 1))) (gN 0) bTt (qE (ze jC false) (qf (bV 0) qI)) [none] ⟨rfl⟩) qI)))) (ZR (bBl false)) QA) (ZR (bO (Y6 false) (qfa (bO zl (bV 0) (qF 1))) (qE NO (qf (bO zl (bV 0) (qF 1)) qI))))))
def zY:List PyData->Option PyData:=Pu.run YU.f 1 1 1000000000 false
def KZ:Rd (PSp zY false) 1 (K21.YH (PSp jC false)) jr:=zf YU jr 1 1000000000 false
def T2 {x0:PyData}:zY [x0]=EN false (YU.f 1000000000 [.sh x0]):=id rfl
def UE:PuS (K21.UA (PSp qs false) (PSp zt false) (PSp Q4 false) (PSp zY false)):=(QV (sIf (bOr (qce (bTb (qfV (λt=>QK t "tuple") (bV 0)))) (bOr (bTb (bO (Y6 false) (qE NO (qf (bV 0) qI)) (qF 0))) (qce (bTb (qfV (λt=>QK t "str") (bO zl (bV 0) (qF 0))))))) (ZR (bBl false)) QA) (QV (NQ (bO zl (bV 0) (qF 0)) 1 [true] ⟨rfl⟩) (QV (sIf (bTb (qpe jO (bV 1))) (ZR (DX (bO (Y6 false) (qE NO (qf (bV 0) qI)) (qF 2)) (qE (ze qs false) (qf (bO zl (bV 0) (qF 1)) (qf (qF 1) qI))))) QA) (QV (sIf (bTb (bO (Y6 false) (bV 1) (WJ "block"))) (ZR (DX (bO (Y6 false) (qE NO (qf (bV 0) qI)) (qF 3)) (qE (ze zt false) (qf (bSl (bV 0) (bSp (qF 1)) bNp) (qf (qF 1) qI))))) QA) (QV (sIf (bTb (bO (Y6 false) (bV 1) (WJ "step"))) (ZR (qE (ze Q4 false) (qf (bV 0) qI))) QA) (ZR (DX (bO (Y6 false) (bV 1) (WJ "cells")) (qE (ze zY false) (qf (bV 0) qI)))))))))
def jA:List PyData->Option PyData:=Pu.run UE.f 1 2 1000000000 false
def MM:Rd (PSp jA false) 1 (K21.UA (PSp qs false) (PSp zt false) (PSp Q4 false) (PSp zY false)) J0:=zf UE J0 1 1000000000 false
def NG {x0:PyData}:jA [x0]=EN false (UE.f 1000000000 [.sh x0,.un]):=id rfl
def EX:PuS (K21.ET (PSp Pv.qy true) (PSp jA false)):=(QV (NQ (qmq (NK (qE (ze Pv.qy true) (qf (bV 0) qI))) (XN 2 (zi (gN 0) (zi (gN 1) XI))) bTt (NK (qE (ze Pv.qy true) (qf (bV 4) qI))) (XN 2 (zi (gN 2) (zi (gN 3) XI))) bTt (C7 (qf (bO JM (bO (opC jy (·*·)) (bV 0) (bV 5)) (bV 2)) (qf (bO JM (bO (opC jy (·*·)) (bV 1) (bV 6)) (bV 3)) qI)) ⟨rfl⟩) [none,none,none,none,some 1,some 2,some 3] ⟨rfl⟩ ⟨rfl⟩ ⟨rfl⟩) 4 [true,true,true,true] ⟨rfl⟩) (QV (NQ (C7 (qf (WJ "cells") (qf (qE qhH (qf (bV 4) qI)) qI)) ⟨rfl⟩) 5 [false,false,false,false,true] ⟨rfl⟩) (QV (sIf (qce (bTb (qE (ze jA false) (qf (bV 5) qI)))) qpP QA) (qcG 5))))
def QW:List PyData->Option PyData:=Pu.run EX.f 4 6 1000000000 false
def qbH:Rd (PSp QW false) 4 (K21.ET (PSp Pv.qy true) (PSp jA false)) E7:=zf EX E7 4 1000000000 false
def qb8 {x0 x1 x2 x3:PyData}:QW [x0,x1,x2,x3]=EN false (EX.f 1000000000 [.sh x0,.sh x1,.sh x2,.sh x3,.un,.un]):=id rfl
def YJ:PwS 0 (Bk.YV Bk.jI Bk.qK):=(NN (qim (eDr qdQ (aOf qI)) (XN 2 (zi (gN 1) (zi (gN 2) XI))) [] ⟨rfl⟩ ⟨rfl⟩) (NN (qcC (eO JM (eOf (qF 1)) (eDr DW (VT (eO zl (eOf (NL (qf (qF 8) (qf (qF 8) (qf (qF 17) (qf (qF 32) qI)))) ⟨rfl⟩)) (eDr DW (aOf (qf (qF 4) qI)))) (aOf qI)))) 3 [] ⟨rfl⟩ ⟨rfl⟩) (NN (qcC (eO zl (eOf (NL (qf (bV 3) (qf (qF 10) (qf (qF 100) qI))) ⟨rfl⟩)) (eDr DW (aOf (qf (qF 3) qI)))) 4 [false,false,false,true] ⟨rfl⟩ ⟨rfl⟩) (qhM (qmg (VT (eOf (WJ "skew")) (VT (eOf (bV 1)) (VT (eOf (bV 2)) (VT (eOf (bV 3)) (VT (eDr DW (aOf (qf (bV 4) qI))) (VT (eDr DW (aOf (qf (bV 4) qI))) (aOf qI))))))) ⟨rfl⟩)))))
def jZ:Wm:=qm5 YJ 1 5 false
def T4:Rd (DSp jZ.W false) 1 (Bk.YV Bk.jI Bk.qK) Q6:=qa9 YJ Q6 1 false
def S9 {n:Nat} {Q:QD}:jZ.W [] n Q=(0+1=1/\YJ.w [.un,.un,.un,.un,.un] n (qmt false Q)):=id rfl
def Z9:PwS 0 (K21.ZS Bk.qK Bk.QQ (DSp jZ.W false)):=(qhM (eIf (cTb (eO (Y6 false) (eDr DW (aOf (qf (qF 3) qI))) (eOf (qF 0)))) (eDr qfH (aOf qI)) (eDr (dSp jZ false) (aOf qI))))
def jt:Wm:=qm5 Z9 1 1 false
def RJ:Rd (DSp jt.W false) 1 (K21.ZS Bk.qK Bk.QQ (DSp jZ.W false)) JB:=qa9 Z9 JB 1 false
def RC {n:Nat} {Q:QD}:jt.W [] n Q=(0+1=1/\Z9.w [.un] n (qmt false Q)):=id rfl
def ZF:PuS (K21.YL (PSp (λ_=>none) false)):=(QV (sIf (bTb (bO (qo3 false) (bO zl (bV 0) (qF 0)) (C7 (qf (WJ "skew") (qf (WJ "rests") qI)) ⟨rfl⟩))) (ZR (bSl (bV 0) (bSp (qF 1)) (bSp (qF 4)))) QA) (QV (sIf (bTb (bO (Y6 false) (bO zl (bV 0) (qF 0)) (WJ "bits"))) (QV (NQ (NL (qf (qF 1) (qf (qF 2) (qf (qF 4) (qf (qF 8) (qf (qF 16) (qf (qF 32) qI)))))) ⟨rfl⟩) 1 [] ⟨rfl⟩) (ZR (C7 (qf (bO zl (bV 1) (bO zl (bV 0) (qF 1))) (qf (bO zl (bV 1) (bO zl (bV 0) (qF 2))) (qf (bO zl (bV 1) (qE NO (qf (bO zl (bV 0) (qF 3)) qI))) qI))) ⟨rfl⟩))) QA) (QV (sIf (bTb (bO (Y6 false) (bO zl (bV 0) (qF 0)) (WJ "table"))) (ZR (C7 (qf (qE NO (qf (bO zl (bV 0) (qF 2)) qI)) (qf (qE NO (qf (bO zl (bO zl (bV 0) (qF 2)) (qF 0)) qI)) (qf (bO zl (bV 0) (qF 1)) qI))) ⟨rfl⟩)) QA) (QV (qmD (qf (qE (ze (λ_=>none) false) (qf (bO zl (bV 0) (qF 1)) qI)) (qf (qE (ze (λ_=>none) false) (qf (bO zl (bV 0) (qF 2)) qI)) qI)) 2 3 [true] ⟨rfl⟩) (ZR (qE qhH (qf (bLc (qnv (qf (bV 2) (qf (bV 3) qI))) (XN 2 (zi (gN 0) (zi (gN 1) XI))) bTt (bO (opC jy (·*·)) (bV 0) (bV 1)) [none,none] ⟨rfl⟩) qI)))))))
def qu:List PyData->Option PyData:=Pu.run ZF.f 1 4 1000000000 false
def T7:Rd (PSp qu false) 1 (K21.YL (PSp (λ_=>none) false)) YW:=zf ZF YW 1 1000000000 false
def TF {x0:PyData}:qu [x0]=EN false (ZF.f 1000000000 [.sh x0,.un,.un,.un]):=id rfl
def ZG:PuS (Bk.YI (PSp qu false) (PSp (λ_=>none) false) (PSp (λ_=>none) false)):=(QV (S5 (qE (ze qu false) (qf (bV 0) qI)) (XN 3 (zi (gN 3) (zi (gN 4) (zi (gN 5) XI)))) [true] ⟨rfl⟩) (QV (sIf (bTb (bO (Y6 false) (bO zl (bV 0) (qF 0)) (WJ "skew"))) (ZR (bO (opC (λ_ j=>0<j) (·%·)) (bO JM (bO (opC jy (·*·)) (bO zl (bV 0) (qF 4)) (bV 1)) (bO (opC jy (·*·)) (bO zl (bV 0) (qF 5)) (bV 2))) (bV 5))) QA) (QV (sIf (bTb (bO (Y6 false) (bO zl (bV 0) (qF 0)) (WJ "rests"))) (ZR (bO (opC (λ_ j=>0<j) (·%·)) (bO JM (bO (opC jy (·*·)) (bV 1) (bV 4)) (bV 2)) (bV 5))) QA) (QV (sIf (bTb (bO (Y6 false) (bO zl (bV 0) (qF 0)) (WJ "bits"))) (QV (NQ (bLc (qjH (qf (bO zl (bV 0) (qF 3)) qI)) (XN 2 (zi (gN 0) (zi (gN 1) XI))) (bTb (qE (ze (λ_=>none) false) (qf (bO (opI Builtin.bitAnd) (bO JM (bO (opC jy (·*·)) (bV 3) (bV 4)) (bV 2)) (bV 1)) qI))) (bO zl (NL (qf (qF 1) (qf (qF 2) (qf (qF 4) (qf (qF 8) (qf (qF 16) qI))))) ⟨rfl⟩) (bV 0)) [none,none,some 2,some 1,some 4] ⟨rfl⟩) 6 [true,true,true,false,true] ⟨rfl⟩) (ZR (qE qnN (qf (bV 6) qI)))) QA) (QV (sIf (bTb (bO (Y6 false) (bO zl (bV 0) (qF 0)) (WJ "table"))) (ZR (bO zl (bO zl (bO zl (bV 0) (qF 2)) (bV 1)) (bV 2))) QA) (QV (S5 (qE (ze qu false) (qf (bO zl (bV 0) (qF 2)) qI)) (XN 3 (zi (gN 7) (zi (gN 8) (zi (gN 9) XI)))) [true] ⟨rfl⟩) (ZR (bO JM (bO (opC jy (·*·)) (qE (ze (λ_=>none) false) (qf (bO zl (bV 0) (qF 1)) (qf (bO (opC qb4 (·/·)) (bV 1) (bV 7)) (qf (bO (opC qb4 (·/·)) (bV 2) (bV 8)) qI)))) (bV 9)) (qE (ze (λ_=>none) false) (qf (bO zl (bV 0) (qF 2)) (qf (bO (opC (λ_ j=>0<j) (·%·)) (bV 1) (bV 7)) (qf (bO (opC (λ_ j=>0<j) (·%·)) (bV 2) (bV 8)) qI))))))))))))
def zg:List PyData->Option PyData:=Pu.run ZG.f 3 10 1000000000 false
def TX:Rd (PSp zg false) 3 (Bk.YI (PSp qu false) (PSp (λ_=>none) false) (PSp (λ_=>none) false)) YM:=zf ZG YM 3 1000000000 false
def KD {x0 x1 x2:PyData}:zg [x0,x1,x2]=EN false (ZG.f 1000000000 [.sh x0,.sh x1,.sh x2,.un,.un,.un,.un,.un,.un,.un]):=id rfl
def zB:PuS (Bk.ZV):=(QV (sIf (bTb (bO (Y6 false) (bO zl (bV 0) (qF 0)) (WJ "cells"))) (ZR (qE qmf (qf (bO zl (bV 0) (qF 1)) qI))) QA) (QV (sIf (bTb (bO (Y6 false) (bO zl (bV 0) (qF 0)) (WJ "block"))) (QV (NQ (NL qI ⟨rfl⟩) 1 [] ⟨rfl⟩) (QV (qoo (qbm (qf (bO zl (bV 0) (qF 1)) qI)) (gN 2) (qmJ (bLc (qbm (qf (bO zl (bV 0) (qF 2)) qI)) (gN 0) bTt (C7 (qf (bV 1) (qf (bV 0) qI)) ⟨rfl⟩) [none,some 2] ⟨rfl⟩) 1 [true,false,true] ⟨rfl⟩) [true] ⟨rfl⟩) (qcG 1))) QA) (QV (S5 (qkI ["row","column","slant","back","step"] (qf (C7 (qf (qF 0) (qf (qF 1) qI)) ⟨rfl⟩) (qf (C7 (qf (qF 1) (qf (qF 0) qI)) ⟨rfl⟩) (qf (C7 (qf (qF 1) (qf (qF 1) qI)) ⟨rfl⟩) (qf (C7 (qf (qF 1) (qf (qhJ (qF 1)) qI)) ⟨rfl⟩) (qf (bSl (bV 0) (bSp (qF 1)) (bSp (qF 3))) qI))))) (bO zl (bV 0) (qF 0))) (XN 2 (zi (gN 3) (zi (gN 4) XI))) [true] ⟨rfl⟩) (ZR (bLc (qbm (qf (bO zl (bV 0) (qhJ (qF 1))) qI)) (gN 0) bTt (C7 (qf (bO (opC jy (·*·)) (bV 0) (bV 1)) (qf (bO (opC jy (·*·)) (bV 0) (bV 2)) qI)) ⟨rfl⟩) [none,some 3,some 4] ⟨rfl⟩)))))
def qz:List PyData->Option PyData:=Pu.run zB.f 1 5 1000000000 true
def R5:Rd (PSp qz true) 1 (Bk.ZV) ZP:=zf zB ZP 1 1000000000 true
def SH {x0:PyData}:qz [x0]=EN true (zB.f 1000000000 [.sh x0,.un,.un,.un,.un]):=id rfl
def QP:PuS (Bk.QR (PSp qu false) (PSp qz true)):=(QV (S5 (qE (ze qu false) (qf (bV 0) qI)) (XN 3 (zi (gN 2) (zi (gN 3) (zi (gN 4) XI)))) [true] ⟨rfl⟩) (QV (NQ (qE (ze qz true) (qf (bV 1) qI)) 5 [false,true] ⟨rfl⟩) (QV (qmD (qf (bLc (NK (bV 5)) (XN 2 (zi (gN 0) (zi (gN 1) XI))) bTt (bV 0) [none,none] ⟨rfl⟩) (qf (bLc (NK (bV 5)) (XN 2 (zi (gN 0) (zi (gN 1) XI))) bTt (bV 1) [none,none] ⟨rfl⟩) qI)) 6 7 [false,false,false,false,false,true] ⟨rfl⟩) (QV (NQ (NL qI ⟨rfl⟩) 8 [] ⟨rfl⟩) (QV (qoo (qbm (qf (qhJ (qE qfW (qf (bV 6) qI))) (qf (bO (opI (·-·)) (bV 2) (qE qgq (qf (bV 6) qI))) qI))) (gN 9) (qmJ (bLc (qbm (qf (qhJ (qE qfW (qf (bV 7) qI))) (qf (bO (opI (·-·)) (bV 3) (qE qgq (qf (bV 7) qI))) qI))) (gN 0) bTt (C7 (qf (bV 1) (qf (bV 0) qI)) ⟨rfl⟩) [none,some 9] ⟨rfl⟩) 8 [false,false,false,true,false,false,false,true,false,true] ⟨rfl⟩) [false,false,true,false,false,false,true] ⟨rfl⟩) (qcG 8))))))
def zj:List PyData->Option PyData:=Pu.run QP.f 2 10 1000000000 true
def CI:Rd (PSp zj true) 2 (Bk.QR (PSp qu false) (PSp qz true)) QU:=zf QP QU 2 1000000000 true
def XT {x0 x1:PyData}:zj [x0,x1]=EN true (QP.f 1000000000 [.sh x0,.sh x1,.un,.un,.un,.un,.un,.un,.un,.un]):=id rfl
def YK:PuS (Bk.YQ (PSp qz true) (PSp zg false)):=(ZR (bLc (NK (qE (ze qz true) (qf (bV 1) qI))) (XN 2 (zi (gN 0) (zi (gN 1) XI))) bTt (qE (ze zg false) (qf (bV 2) (qf (bO JM (bO zl (bV 3) (qF 0)) (bV 0)) (qf (bO JM (bO zl (bV 3) (qF 1)) (bV 1)) qI)))) [none,none,some 0,some 2] ⟨rfl⟩))
def zX:List PyData->Option PyData:=Pu.run YK.f 3 3 1000000000 true
def TJ:Rd (PSp zX true) 3 (Bk.YQ (PSp qz true) (PSp zg false)) J9:=zf YK J9 3 1000000000 true
def KQ {x0 x1 x2:PyData}:zX [x0,x1,x2]=EN true (YK.f 1000000000 [.sh x0,.sh x1,.sh x2]):=id rfl
def Q5:PuS (K21.YY):=(QV (sIf (bTb (bO (Y6 false) (bO zl (bV 0) (qF 0)) (WJ "rests"))) (ZR (bO (opC (λ_ j=>0<j) (·%·)) (bO JM (bO (opC jy (·*·)) (bO zl (bV 0) (qF 2)) (bV 1)) (bV 2)) (bO zl (bV 0) (qF 3)))) QA) (ZR (bO (opC (λ_ j=>0<j) (·%·)) (bO JM (bO (opC (λ_ j=>0<j) (·%·)) (bO (opC jy (·*·)) (bO zl (bV 0) (qF 4)) (bV 1)) (bO zl (bV 0) (qF 3))) (bO (opC (λ_ j=>0<j) (·%·)) (bO (opC jy (·*·)) (bO zl (bV 0) (qF 5)) (bV 2)) (bO zl (bV 0) (qF 3)))) (bO zl (bV 0) (qF 3)))))
def zV:List PyData->Option PyData:=Pu.run Q5.f 3 3 1000000000 false
def TL:Rd (PSp zV false) 3 (K21.YY) ZH:=zf Q5 ZH 3 1000000000 false
def TM {x0 x1 x2:PyData}:zV [x0,x1,x2]=EN false (Q5.f 1000000000 [.sh x0,.sh x1,.sh x2]):=id rfl
def jS:PuS (K21.jQ (PSp qu false) (PSp zX true)):=(QV (NQ (bO zl (qE (ze qu false) (qf (bV 0) qI)) (qF 2)) 4 [true] ⟨rfl⟩) (QV (NQ (qE (ze zX true) (qf (bV 0) (qf (bV 1) (qf (bV 2) qI)))) 5 [true,true,true] ⟨rfl⟩) (ZR (bO (Y6 false) (qkU (bLc (qnv (qf (bV 5) (qf (bV 3) qI))) (XN 2 (zi (gN 0) (zi (gN 1) XI))) bTt (bO (opC (λ_ j=>0<j) (·%·)) (bO (opI (·-·)) (bV 0) (bV 1)) (bV 2)) [none,none,some 4] ⟨rfl⟩)) (qF 1)))))
def za:List PyData->Option PyData:=Pu.run jS.f 4 6 1000000000 false
def WO:Rd (PSp za false) 4 (K21.jQ (PSp qu false) (PSp zX true)) jT:=zf jS jT 4 1000000000 false
def WU {x0 x1 x2 x3:PyData}:za [x0,x1,x2,x3]=EN false (jS.f 1000000000 [.sh x0,.sh x1,.sh x2,.sh x3,.un,.un]):=id rfl
def qnj (S_law_plain:Sp3) (S_law_walk:Sp3) (S_law_pick:Sp3) (S_spread:Sp3) (S_law_cells:Sp3) (S_law_rest:Sp3) (S_rests_of:Sp3) (S_law_same:Sp3) (S_law_starts:Sp3) (S_law_shifted:Sp3):TS3:=(qR (zn (cb3 S_law_plain (qc (v3 2) qk)) (gn3 3)) (R0 (QM (qc (c3 (.int 3)) qk)) (gn3 4) (qR (zn (cb3 S_law_walk (qc (v3 2) qk)) (gn3 5)) (qR (zZ (tb3 (o3 (zS false) (cb3 S_law_pick (qc (v3 2) (qc (c3 (.int 6)) qk))) (c3 (.int 0)))) (zn (cb3 S_spread (qc (v3 5) (qc (jW (qc (c3 (.str "row")) (qc (o3 zK (c3 (.int 1)) (cb3 S_law_pick (qc (v3 2) (qc (c3 (.int 4)) qk)))) qk))) (qc (o3 zK (c3 (.int 1)) (cb3 S_law_pick (qc (v3 2) (qc (c3 (.int 3)) qk)))) (qc (o3 zK (c3 (.int 4)) (cb3 S_law_pick (qc (v3 2) (qc (c3 (.int 3)) qk)))) qk))))) (gn3 5)) qL) (qR (zn (cb3 (KA false) (qc (JH (qc (v3 3) (qc (v3 5) qk))) qk)) (gn3 6)) (qR (zn (cb3 ZE (qc (lc3 (VQ (cb3 S_law_cells (qc (v3 5) qk))) (jo 2 (qx (gn3 0) (qx (gn3 1) jm))) tt3 (cb3 S_law_rest (qc (v3 2) (qc (v3 0) (qc (v3 1) qk)))) [none,none,some 3]) qk)) (gn3 7)) (qR (zZ (SX (tb3 (cb3 S_law_same (qc (JH (qc (cb3 S_rests_of (qc (v3 3) (qc (v3 5) qk))) (qc (cb3 S_rests_of (qc (v3 3) (qc (v3 5) qk))) qk))) (qc (JH (qc (v3 7) (qc (v3 7) qk))) qk))))) (qT (c3 (.bl false))) qL) (qR (zn (cb3 S_law_starts (qc (v3 3) (qc (v3 5) qk))) (gn3 8)) (qR (R0 (VQ (o3 zK (NM (v3 8) np3 (sp3 (c3 (.int 2)))) (NM (v3 8) (sp3 (u3 TH (c3 (.int 1)))) np3))) (gn3 9) (zZ (SX (tb3 (cb3 S_law_shifted (qc (v3 3) (qc (v3 5) (qc (v3 9) (qc (v3 7) qk))))))) (qT (c3 (.bl false))) qL)) (zZ (tb3 (o3 (zS true) (cb3 (KA false) (qc (JH (qc (v3 3) (qc (v3 5) qk))) qk)) (v3 6))) (qT (c3 (.bl false))) qL))))))))))
def XV:=((wIf (cOf (qce (bTb (qE (ze za false) (qf (bV 3) (qf (bV 5) (qf (bV 9) (qf (bV 7) qI)))))))) (qhM (eOf (bBl false))) qam):PwS 2 _)
def CW:=((NN (qcC (eDr qa1 (aOf qI)) 5 [] ⟨rfl⟩ ⟨rfl⟩) (NN (wIf (cTb (eO (Y6 false) (eDr DW (aOf (qf (qF 6) qI))) (eOf (qF 0)))) (qcC (qg4 (ze QW false) (VT (eOf (bV 5)) (VT (qmg (VT (eOf (WJ "row")) (VT (eO JM (eOf (qF 1)) (eDr DW (aOf (qf (qF 4) qI)))) (aOf qI))) ⟨rfl⟩) (VT (eO JM (eOf (qF 1)) (eDr DW (aOf (qf (qF 3) qI)))) (VT (eO JM (eOf (qF 4)) (eDr DW (aOf (qf (qF 3) qI)))) (aOf qI)))))) 5 [false,false,false,false,false,true] ⟨rfl⟩ ⟨rfl⟩) qam) (NN (qcC (eOf (qE (qcP false) (qf (NL (qf (bV 3) (qf (bV 5) qI)) ⟨rfl⟩) qI))) 6 [false,false,false,true,false,true] ⟨rfl⟩ ⟨rfl⟩) (NN (qcC (eOf (qE qhH (qf (bLc (NK (qE (ze qz true) (qf (bV 5) qI))) (XN 2 (zi (gN 0) (zi (gN 1) XI))) bTt (qE (ze zV false) (qf (bV 2) (qf (bV 0) (qf (bV 1) qI)))) [none,none,some 3] ⟨rfl⟩) qI))) 7 [false,false,false,true,false,true] ⟨rfl⟩ ⟨rfl⟩) (NN (wIf (cOf (qce (bTb (qE (qhQ 4) (qf (NL (qf (qE (ze Pv.zr false) (qf (bV 3) (qf (bV 5) qI))) (qf (qE (ze Pv.zr false) (qf (bV 3) (qf (bV 5) qI))) qI)) ⟨rfl⟩) (qf (NL (qf (bV 7) (qf (bV 7) qI)) ⟨rfl⟩) qI)))))) (qhM (eOf (bBl false))) qam) (NN (qcC (eOf (qE (ze zj true) (qf (bV 3) (qf (bV 5) qI)))) 8 [false,false,false,true,false,true] ⟨rfl⟩ ⟨rfl⟩) (NN (qox (iOf (NK (bO JM (bSl (bV 8) bNp (bSp (qF 2))) (bSl (bV 8) (bSp (qhJ (qF 1))) bNp)))) (gN 9) XV [false,false,false,false,false,false,false,false,true] ⟨rfl⟩ ⟨rfl⟩) (wIf (cOf (bTb (bO (Y6 true) (qE (qcP false) (qf (NL (qf (bV 3) (qf (bV 5) qI)) ⟨rfl⟩) qI)) (bV 6)))) (qhM (eOf (bBl false))) qam)))))))):PwS 2 _)
def qc1:PwS 2 (qnj (DSp jt.W false) Bk.QN Bk.qK (PSp QW false) (PSp qz true) (PSp zV false) (PSp Pv.zr false) (Bk.jv 5) (PSp zj true) (PSp za false)):=(NN (qcC (eDr (dSp jt false) (aOf qI)) 3 [] ⟨rfl⟩ ⟨rfl⟩) (qox (iOf (qbm (qf (qF 3) qI))) (gN 4) CW [] ⟨rfl⟩ ⟨rfl⟩))
def qjE (h:∀ k:Nat,k<=60->qc1.w [.un,.sh (.int k),.un,.un,.un,.un,.un,.un,.un,.un] 0 okW):Rd W8 1 (K21.qhA Bk.ZL (DSp jt.W false) Bk.QN Bk.qK (PSp QW false) (PSp qz true) (PSp zV false) (PSp Pv.zr false) (Bk.jv 5) (PSp zj true) (PSp za false)) qcV:=qc4 qc1 qcV 24 7 ⟨by decide,by decide⟩ rfl h
end K21
namespace K21
open PySem L2 L3 Pu Pv
open Bk (Wk Dl Dr qV zL JG lnD lnA)
def qak {i:Nat} {es ds:List PyData} {ρ:Rho} (h:slot ρ i=some ds) (hl:ds.length+es.length<=16777216):qkO i (.list es) ρ=some (.nx (ρ.set i (.ow (ds++es)))):=by unfold qkO;rw [h];simp only [Option.bind_some];exact zH hl
def qgN {s:Str} {m:Int}:slD (.tuple [.str s,.int m]) (some 1) (some 3)=some (.tuple [.int m]):=DF (by simp [HT.sIx])
def qhu {s:Str} {u v m:Int}:slD (.tuple [.str s,.int u,.int v,.int m]) (some 1) (some 3)=some (.tuple [.int u,.int v]):=DF (by simp [HT.sIx])
def qof {x y:PyData}:L2.atI [x,y] (-1)=some y:=rfl
def qmV {x y z w:PyData}:L2.atI [x,y,z,w] (-1)=some w:=rfl
def qmu {w:Wk} (ok:Big w):qz [Wk.d w]=some (.list (w.pc.map pD)):=by
 rw [SH];cases w with
 |cells ps=>
  try simp only [Pu.pwA,zB,Wk.d,eq_self,Wk.pc]
 |block h v=>
  obtain ⟨h1,h2⟩:=ok
  try simp (disch:=omega) only [Pu.pwA,zB,Wk.d,eq_self,L3.Y4,Wk.pc,qdO,Int.toNat_natCast]
  rw [Option.bind_assoc];refine qau (Q:=λo=>EN true o=_) (JD 0 h) (λi ρ=>∃ s2 s3 s4,ρ=[.sh (Wk.d (.block h v)),.ow ((zL i v).map pD),s2,s3,s4]) ⟨_,_,_,rfl⟩ ?_ ?_
  ·rintro i x ρ hx ⟨s2,s3,s4,rfl⟩;obtain ⟨hi,rfl⟩:=qdj hx
   try simp only [Pu.pwA,Wk.d]
   rw [JF (ds:=(JD 0 v).map PyData.int) (fs:=((List.range v).map λ(q:Nat)=>((i:Int),(q:Int))).map pD)]
   rotate_left
   ·try simp (disch:=omega) only [Pu.pwA,qdO,Int.toNat_natCast]
   ·unfold JD;rw [map_map,map_map];refine jg λq hq=>?_
    try simp only [Pu.pwA,UF,pD,Int.zero_add,Function.comp_def]
   ·simp;omega
   try simp only [Pu.pwA]
   rw [qak (ds:=(zL i v).map pD) rfl (by
    have:=Nat.mul_le_mul (show i<=1000 by omega) h2;rw [length_map,Bk.V4,length_map,length_map,length_range];omega)]
   try simp only [Pu.pwA]
   rw [Bk.XQ,List.map_append];exact ⟨_,_,_,rfl⟩
  ·rintro ρ ⟨s2,s3,s4,rfl⟩;rw [ZZ]
   try simp only [Pu.pwA]
 |step d a m=>
  obtain ⟨h1,h2,h3⟩:=ok;have e5:qdh ["row","column","slant","back","step"] [.tuple [.int 0,.int 1],.tuple [.int 1,.int 0],.tuple [.int 1,.int 1],.tuple [.int 1,.int (-1)],.tuple [.int d,.int a]] "step" = some (.tuple [.int d,.int a]):=rfl
  try simp only [Pu.pwA,zB,Wk.d,L3.UH,L3.V5,Wk.pc,qhu,e5]
  rw [JF (ds:=(JD 0 m).map PyData.int) (fs:=(qV d a m).map pD)]
  ·try simp only [Pu.pwA]
  ·try simp (disch:=omega) only [Pu.pwA,qmV,qdO,Int.toNat_natCast]
  ·unfold qV JD;rw [map_map,map_map];refine jg λt ht=>?_;have:=mem_range.mp ht
   try simp (disch:=omega) only [Pu.pwA,UF,pD,JO,Int.zero_add,Function.comp_def]
  ·simp [qV];omega
 |line k m=>
  obtain ⟨h1,h2⟩:=ok;have key:∀ (d a:Int),(-1000<=d/\d<=1000)->(-1000<=a/\a<=1000)->∀ s:Str,Str.ofString "cells" ≠ s->Str.ofString "block" ≠ s->qdh ["row","column","slant","back","step"] [.tuple [.int 0,.int 1],.tuple [.int 1,.int 0],.tuple [.int 1,.int 1],.tuple [.int 1,.int (-1)],.tuple [.int (m:Int)]] s=some (.tuple [.int d,.int a])->EN true (zB.f 1000000000 [.sh (.tuple [.str s,.int (m:Int)]),.un,.un,.un,.un])=some (.list ((qV d a m).map pD)):=by
   intro d a hd ha s n1 n2 e5;have n1':¬ s=Str.ofString "cells" := λz=>n1 z.symm;have n2':¬ s=Str.ofString "block" := λz=>n2 z.symm
   try simp only [Pu.pwA,zB,n1',n2',qgN,e5]
   rw [JF (ds:=(JD 0 m).map PyData.int) (fs:=(qV d a m).map pD)]
   ·try simp only [Pu.pwA]
   ·try simp (disch:=omega) only [Pu.pwA,qof,qdO,Int.toNat_natCast]
   ·unfold qV JD;rw [map_map,map_map];refine jg λt ht=>?_;have:=mem_range.mp ht
    try simp (disch:=omega) only [Pu.pwA,UF,pD,JO,Int.zero_add,Function.comp_def]
   ·simp [qV];omega
  have:(k=0\/k=1\/k=2\/k=3):=by omega
  rcases this with rfl|rfl|rfl|rfl
  ·exact key 0 1 (by omega) (by omega) "row" (by decide) (by decide) rfl
  ·exact key 1 0 (by omega) (by omega) "column" (by decide) (by decide) rfl
  ·exact key 1 1 (by omega) (by omega) "slant" (by decide) (by decide) rfl
  ·exact key 1 (-1) (by omega) (by omega) "back" (by decide) (by decide) rfl
def LK {s:Str} (h:s=Str.ofString "skew" ∨ s=Str.ofString "rests"):inD false (.str s) (.tuple [.str "skew",.str "rests"])=some (.bool true):=by
 refine (zH (by simp [S7])).trans ?_;rcases h with rfl|rfl<;>rfl
def qkw {i j:Nat} {m:List Bool} {x y:List PyData} {ρ:Rho}:qmn i j m [.list x,.list y] ρ=some (.nx (((dm m ρ).set i (.sh (.list x))).set j (.sh (.list y)))):=id rfl
def qhv {d:Dl} (hp:Pl d):qu [dlD d]=some (szD d):=by
 rw [TF];cases d with
 |skew r c b x y=>
  have c1:slD (.tuple [.str "skew",.int r,.int c,.int b,.int x,.int y]) (some 1) (some 4)=some (.tuple [.int r,.int c,.int b]):=DF (by simp [HT.sIx])
  try simp only [Pu.pwA,ZF,dlD,LK (.inl rfl),c1,szD,Dl.R,Dl.C,Dl.B]
 |rests r c b q=>
  have c1:slD (.tuple [.str "rests",.int r,.int c,.int b,.int q]) (some 1) (some 4)=some (.tuple [.int r,.int c,.int b]):=DF (by simp [HT.sIx])
  try simp only [Pu.pwA,ZF,dlD,LK (.inr rfl),c1,szD,Dl.R,Dl.C,Dl.B]
 |_=>simp [Pl] at hp
def qmR {d:Dl} {w:Wk} (hp:Pl d) (okd:d.Ok) (ok:Big w) (hc:Cb w.pc):zj [dlD d,Wk.d w]=some (.list ((stI d.R d.C w.pc).map pD)):=by
 have hl:=qbb ok;have l:=Dl.lims okd;have:=l.r1;have:=l.r2;have:=l.c1;have:=l.c2;obtain ⟨⟨h1,h2,h3⟩,⟨h4,h5,h6⟩⟩:=hc.lim;rw [XT]
 try simp only [Pu.pwA,QP,qhv hp,szD,qmu ok]
 rw [JF (ds:=w.pc.map pD) (fs:=(dn w.pc).map PyData.int) rfl (by
  rw [dn,map_map];refine jg λp hp=>?_
  try simp only [Pu.pwA,UF,pD,Function.comp_def]) (by simp [dn];omega)]
 try simp only [Pu.pwA]
 rw [JF (ds:=w.pc.map pD) (fs:=(al w.pc).map PyData.int) rfl (by
  rw [al,map_map];refine jg λp hp=>?_
  try simp only [Pu.pwA,UF,pD,Function.comp_def]) (by simp [al];omega)]
 try simp only [Pu.pwA]
 have n1:dn w.pc≠[]:=by simp [dn,hc.ne]
 have n2:al w.pc≠[]:=by simp [al,hc.ne]
 try simp (disch:=omega) only [Pu.pwA,qkw,qiM n1,qjT n1,qoQ]
 have row:∀ i:Int,(JD (-(mn (al w.pc))) (d.C-mx (al w.pc) - -(mn (al w.pc))).toNat).length<=4096:=λi=>by rw [ZZ];omega
 have rows:(JD (-(mn (dn w.pc))) (d.R-mx (dn w.pc) - -(mn (dn w.pc))).toNat).length<=4096:=by rw [ZZ];omega
 have fl:∀ i,(((JD (-(mn (dn w.pc))) (d.R-mx (dn w.pc) - -(mn (dn w.pc))).toNat).take i).flatMap λi=>(JD (-(mn (al w.pc))) (d.C-mx (al w.pc) - -(mn (al w.pc))).toNat).map λj=>(i,j)).length<=i*4096:=λi=>by
  rw [EY];exact Nat.mul_le_mul (by rw [List.length_take];omega) (row 0)
 refine qau (Q:=λo=>EN true o=_) (JD (-(mn (dn w.pc))) (d.R-mx (dn w.pc) - -(mn (dn w.pc))).toNat) (λi ρ=>∃ s9,ρ=[.sh (dlD d),.sh (Wk.d w),.sh (.int d.R),.sh (.int d.C),.sh (.int d.B),.sh (.list (w.pc.map pD)),.sh (.list ((dn w.pc).map PyData.int)),.sh (.list ((al w.pc).map PyData.int)),.ow ((((JD (-(mn (dn w.pc))) (d.R-mx (dn w.pc) - -(mn (dn w.pc))).toNat).take i).flatMap λi=>(JD (-(mn (al w.pc))) (d.C-mx (al w.pc) - -(mn (al w.pc))).toNat).map λj=>(i,j)).map pD),s9]) ⟨_,rfl⟩ ?_ ?_
 ·rintro i x ρ hx ⟨s9,rfl⟩;have hi:=(List.getElem?_eq_some_iff.mp hx).1
  try simp only [Pu.pwA]
  rw [JF (ds:=(JD (-(mn (al w.pc))) (d.C-mx (al w.pc) - -(mn (al w.pc))).toNat).map PyData.int) (fs:=((JD (-(mn (al w.pc))) (d.C-mx (al w.pc) - -(mn (al w.pc))).toNat).map λj=>(x,j)).map pD)]
  rotate_left
  ·try simp (disch:=omega) only [Pu.pwA,qiM n2,qjT n2,qoQ]
  ·rw [map_map];refine jg λq hq=>?_
   try simp only [Pu.pwA,UF,pD,Function.comp_def]
  ·rw [length_map,length_map];have:=row 0;omega
  try simp only [Pu.pwA]
  rw [qak rfl (by
   rw [length_map,length_map,length_map];have a:=fl i;have b:=row 0;have:=Nat.mul_le_mul (show i<=4095 by omega) (Nat.le_refl 4096);omega)]
  try simp only [Pu.pwA]
  rw [List.take_add_one,hx,Option.toList_some,List.flatMap_append,List.map_append];exact ⟨.sh (.int x),by simp⟩
 ·rintro ρ ⟨s9,rfl⟩;rw [List.take_length]
  try simp only [Pu.pwA]
  rfl
def qjs {n:Nat} {Q:QD} (hn:n<900000) (h:∀ r c b x y:Int,(1<=r/\r<=16)->(1<=c/\c<=16)->(1<=b/\b<=32)->(0<=x/\x<=99)->(0<=y/\y<=99)->Q (dlD (.skew r c b x y)) (n+9)):jZ.W [] n Q:=by
 rw [S9];refine ⟨rfl,?_⟩;unfold YJ;refine DE λY1 h1=>?_
 try simp only [Pu.pwA]
 refine ⟨by omega,λr c hr hc=>?_⟩
 try simp only [Pu.pwA]
 rw [h1];refine DE λY2 h2=>?_
 try simp only [Pu.pwA]
 refine ⟨by omega,by omega,λd h0 h1=>?_⟩;refine qav (ks:=[8,8,17,32]) h0 (by simpa using h1) λk hk=>?_;have hk2:8<=k/\k<=32:=by simp at hk;omega
 try simp only [Pu.pwA]
 refine ⟨by omega,by omega,λb b0 b1=>?_⟩
 try simp only [Pu.pwA]
 rw [h2];refine DE λY3 h3=>?_
 try simp only [Pu.pwA]
 refine ⟨by omega,by omega,λe e0 e1=>?_⟩;refine qav (ks:=[1+b,10,100]) e0 (by simpa using e1) λw hw=>?_;have hw2:1<=w/\w<=100:=by simp at hw;omega
 try simp only [Pu.pwA]
 rw [h3]
 try simp only [Pu.pwA]
 refine ⟨by omega,by omega,λx x0 x1=>?_⟩
 try simp only [Pu.pwA]
 refine ⟨by omega,by omega,λy y0 y1=>?_⟩
 try simp only [Pu.pwA]
 exact ⟨_,by omega,h r c (1+b) x y hr hc (by omega) (by omega) (by omega)⟩
def P99:Dl->Prop
 |.skew _ _ _ x y=>x<=99/\y<=99
 |.rests ..=>True
 |_=>False
def p99 {d:Dl} (h:P99 d):Pl d:=by cases d<;>simp [P99] at h<;>trivial
def qfN {n:Nat} {Q:QD} (hn:n<800000) (h:∀ d:Dl,P99 d->Dr d 16 16 32->Q (dlD d) (n+11)):jt.W [] n Q:=by
 rw [RC];refine ⟨rfl,?_⟩
 try simp only [Pu.pwA,Z9]
 refine ⟨by omega,by omega,λd h0 h1=>?_⟩;by_cases e:d=0
 ·try simp only [Pu.pwA,e]
  exact ⟨by omega,λr c b p D=>⟨_,by omega,h (.rests r c b p) trivial D⟩⟩
 ·try simp only [Pu.pwA,e]
  refine qjs (by omega) λr c b x y hr hc hb hx hy=>⟨_,by omega,h (.skew r c b x y) ⟨hx.2,hy.2⟩ ⟨?_,hr.2,hc.2,hb.2⟩⟩
  simp only [Dl.Ok];omega
end K21
namespace K21
open PySem L2 L3 Pu Pv
open Bk (Wk Dl Dr qV zL JG lnD lnA nzW)
def inT (d:Dl) (p:Int×Int):Prop:=(0<=p.1/\p.1<d.R)/\(0<=p.2/\p.2<d.C)
def bk (d:Dl) (p:Int×Int):Int:=(fA d*p.1+fB d*p.2)%d.B
def J5 {t:Nat} {u:Int} (h:t<=16) (hu:-16<=u/\u<=16):-256<=(t:Int)*u/\(t:Int)*u<=256:=by
 have a:(t:Int)*u<=(t:Int)*16:=Int.mul_le_mul_of_nonneg_left hu.2 (Int.natCast_nonneg _);have b:(t:Int)*(-16)<=(t:Int)*u:=Int.mul_le_mul_of_nonneg_left hu.1 (Int.natCast_nonneg _);omega
def qnu {w:Wk} (ok:w.Ok):Cb w.pc:=by
 have h:=Bk.MG ok;refine ⟨λe=>by rw [e] at h;simp at h,λp hp=>?_⟩;cases w with
 |cells ps=>have:=ok.2.2.2 p hp;omega
 |block h v=>
  obtain ⟨i,hi,hq⟩:=List.mem_flatMap.mp hp;obtain ⟨j,hj,rfl⟩:=mem_map.mp hq;have:=mem_range.mp hi;have:=mem_range.mp hj;obtain ⟨_,_,h3,h4,_⟩:=ok;simp only;omega
 |step u v m=>
  obtain ⟨t,ht,rfl⟩:=mem_map.mp hp;have:=mem_range.mp ht;obtain ⟨h1,h2,h3,h4⟩:=ok;have b1:=J5 (t:=t) (u:=u) (by omega) h1;have b2:=J5 (t:=t) (u:=v) (by omega) h2;simp only;omega
 |line k m=>
  obtain ⟨t,ht,rfl⟩:=mem_map.mp hp;have:=mem_range.mp ht;obtain ⟨h1,h2,h3⟩:=ok;have b0:(-16<=Bk.lnD k/\Bk.lnD k<=16)/\(-16<=Bk.lnA k/\Bk.lnA k<=16):=by
   match k,h1 with
   |0,_=>decide
   |1,_=>decide
   |2,_=>decide
   |3,_=>decide
  have b1:=J5 (t:=t) (u:=Bk.lnD k) (by omega) b0.1;have b2:=J5 (t:=t) (u:=Bk.lnA k) (by omega) b0.2;simp only;omega
def qmH {d:Dl} {i j:Int} (hp:Pl d) (ok:d.Ok) (h:inT d (i,j)):zg [dlD d,.int i,.int j]=some (.int (bk d (i,j))):=by
 obtain ⟨⟨h1,h2⟩,h3,h4⟩:=h;have l:=Dl.lims ok;have:=l.r1;have:=l.r2;have:=l.c1;have:=l.c2;have f:=qcz hp ok;have sz:=qhv hp;rw [KD];cases d with
 |skew r c b x y=>
  simp only [fA,fB,Dl.B,Dl.R,Dl.C,bk,szD,dlD] at *
  try simp (disch:=omega) only [Pu.pwA,ZG,sz,eq_self,JO,XR]
 |rests r c b q=>
  simp only [fA,fB,Dl.B,Dl.R,Dl.C,bk,szD,dlD] at *
  try simp (disch:=omega) only [Pu.pwA,ZG,sz,eq_self,L3.XZ,JO,XR]
  rw [Int.one_mul,Int.mul_comm]
 |_=>simp [Pl] at hp
def qot {R C:Int} {cs:List (Int×Int)} {s:Int×Int} (h:s∈stI R C cs) {p:Int×Int} (hp:p∈cs):(0<=s.1+p.1/\s.1+p.1<R)/\(0<=s.2+p.2/\s.2+p.2<C):=by
 obtain ⟨i,hi,h⟩:=List.mem_flatMap.mp h;obtain ⟨j,hj,rfl⟩:=mem_map.mp h;have a:=MC hi;have b:=MC hj;have m1:=ML (show p.1∈dn cs from mem_map.mpr ⟨p,hp,rfl⟩);have m2:=qco (show p.1∈dn cs from mem_map.mpr ⟨p,hp,rfl⟩);have m3:=ML (show p.2∈al cs from mem_map.mpr ⟨p,hp,rfl⟩);have m4:=qco (show p.2∈al cs from mem_map.mpr ⟨p,hp,rfl⟩);simp only;omega
def qgv {d a:Int} {m:Nat} (h:d≠0\/a≠0):(qV d a m).Nodup:=by
 unfold qV;refine List.pairwise_map.mpr (List.nodup_range.imp λ{s t} hne e=>hne ?_);have e1:(s:Int)*d=(t:Int)*d:=congrArg Prod.fst e;have e2:(s:Int)*a=(t:Int)*a:=congrArg Prod.snd e;rcases h with h|h
 ·have:=Int.eq_of_mul_eq_mul_right h e1;omega
 ·have:=Int.eq_of_mul_eq_mul_right h e2;omega
def qm8 (h w:Nat):(zL h w).Nodup:=by
 unfold zL;refine List.pairwise_flatMap.mpr ⟨λp _=>List.pairwise_map.mpr (List.nodup_range.imp λ{s t} hne e=>hne ?_),List.nodup_range.imp λ{s t} hne x hx y hy e=>hne ?_⟩
 ·have:=congrArg Prod.snd e;simp only at this;omega
 ·obtain ⟨q,_,rfl⟩:=mem_map.mp hx;obtain ⟨r,_,rfl⟩:=mem_map.mp hy;have:=congrArg Prod.fst e;simp only at this;omega
def qni {w:Wk} (ok:w.Ok) (nz:nzW w):w.pc.Nodup:=by
 cases w with
 |line k m=>
  refine qgv ?_
  match k with
  |0=>exact .inr (by decide)
  |1=>exact .inl (by decide)
  |2=>exact .inl (by decide)
  |k+3=>exact .inl (show (1:Int)≠0 by decide)
 |block h w=>exact qm8 h w
 |step d a m=>exact qgv nz
 |cells ps=>exact ok.2.2.1
def qfC {w:Wk} (ok:w.Ok):∀ p∈w.pc,(-256<=p.1/\p.1<=256)/\(-256<=p.2/\p.2<=256):=by
 intro p hp;cases w with
 |cells ps=>have:=ok.2.2.2 p hp;omega
 |block h v=>
  obtain ⟨i,hi,hq⟩:=List.mem_flatMap.mp hp;obtain ⟨j,hj,rfl⟩:=mem_map.mp hq;have:=mem_range.mp hi;have:=mem_range.mp hj;obtain ⟨_,_,h3,h4,_⟩:=ok;simp only;omega
 |step u v m=>
  obtain ⟨t,ht,rfl⟩:=mem_map.mp hp;have:=mem_range.mp ht;obtain ⟨h1,h2,h3,h4⟩:=ok;have b1:=J5 (t:=t) (u:=u) (by omega) h1;have b2:=J5 (t:=t) (u:=v) (by omega) h2;simp only;omega
 |line k m=>
  obtain ⟨t,ht,rfl⟩:=mem_map.mp hp;have:=mem_range.mp ht;obtain ⟨h1,h2,h3⟩:=ok;have b0:(-16<=Bk.lnD k/\Bk.lnD k<=16)/\(-16<=Bk.lnA k/\Bk.lnA k<=16):=by
   match k,h1 with
   |0,_=>decide
   |1,_=>decide
   |2,_=>decide
   |3,_=>decide
  have b1:=J5 (t:=t) (u:=Bk.lnD k) (by omega) b0.1;have b2:=J5 (t:=t) (u:=Bk.lnA k) (by omega) b0.2;simp only;omega
def spr (cs ds:List (Int×Int)) (R C:Int):List (Int×Int):=cs.flatMap λp=>ds.map λr=>(p.1*R+r.1,p.2*C+r.2)
def al1 {m:Nat} {r:Int×Int} (h:r∈qV 0 1 m):r.1=0/\0<=r.2/\r.2<m:=by
 obtain ⟨t,ht,rfl⟩:=mem_map.mp h;have:=mem_range.mp ht;simp only;omega
def qhT {cs:List (Int×Int)} {m:Nat} {R C:Int} (h:cs.Nodup) (hm:m<=4) (hR:R=1\/R=2\/R=3) (hC:C=4\/C=5\/C=6):(spr cs (qV 0 1 m) R C).Nodup:=by
 unfold spr;refine List.pairwise_flatMap.mpr ⟨λp _=>List.pairwise_map.mpr ((qgv (.inr (by decide))).imp λ{s t} hne e=>hne ?_),h.imp λ{s t} hne x hx y hy e=>hne ?_⟩
 ·have e1:=congrArg Prod.fst e;have e2:=congrArg Prod.snd e;simp only at e1 e2;exact Prod.ext (by omega) (by omega)
 ·obtain ⟨q,hq,rfl⟩:=mem_map.mp hx;obtain ⟨r,hr,rfl⟩:=mem_map.mp hy;have q1:=al1 hq;have r1:=al1 hr;have e1:=congrArg Prod.fst e;have e2:=congrArg Prod.snd e;simp only at e1 e2;refine Prod.ext ?_ ?_
  ·rcases hR with rfl|rfl|rfl<;>omega
  ·rcases hC with rfl|rfl|rfl<;>omega
def qgb {cs:List (Int×Int)} {m:Nat} {R C:Int} (h:∀ p∈cs,(-256<=p.1/\p.1<=256)/\(-256<=p.2/\p.2<=256)) (hm:m<=4) (hR:R=1\/R=2\/R=3) (hC:C=4\/C=5\/C=6):∀ p∈spr cs (qV 0 1 m) R C,(-2000<=p.1/\p.1<=2000)/\(-2000<=p.2/\p.2<=2000):=by
 intro p hp;obtain ⟨q,hq,hp⟩:=List.mem_flatMap.mp hp;obtain ⟨r,hr,rfl⟩:=mem_map.mp hp;have:=h q hq;have:=al1 hr;simp only;rcases hR with rfl|rfl|rfl<;>rcases hC with rfl|rfl|rfl<;>omega
def N5 (cs ds:List (Int×Int)) (R C:Int):(spr cs ds R C).length=cs.length*ds.length:=EY cs ds λp r=>(p.1*R+r.1,p.2*C+r.2)
def q1:QK "int" "int" = true:=rfl
def q2:QK "int" "bool" = false:=rfl
def q3:QK "tuple" "tuple" = true:=rfl
def q4:QK "str" "str" = true:=rfl
def qoC {i:Int}:qq [.int i]=some (.bool true):=by
 rw [R7]
 try simp only [Pu.pwA,ZK,q1,q2,Bool.not_false]
def qm4 {p:Int×Int}:jC [pD p]=some (.bool true):=by
 have t2:((1+1:Nat):Int)=2:=rfl;rw [NA]
 try simp only [Pu.pwA,UG,pD,q3,t2,qoC,decide_true]
def qnV {ps:List (Int×Int)} (l1:1<=ps.length) (l2:ps.length<=76) (nd:ps.Nodup):zY [.tuple [.str "cells",.tuple (ps.map pD)]]=some (.bool true):=by
 have t2:((0+1+1:Nat):Int)=2:=rfl;have ne':¬ (((ps.map pD).length:Int)=0):=by simp;intro z;rw [z] at l1;simp at l1
 have ls:=qg5 (ps:=ps) l2;rw [show (ps.map λp=>PyData.tuple [.int p.1,.int p.2])=ps.map pD from rfl] at ls;have un:decide ((qj7 ps:Int)=((ps.map pD).length:Int))=true:=by
  rw [decide_eq_true_eq,length_map];have:=qdd.mpr nd;omega
 rw [T2]
 try simp only [Pu.pwA,YU,length_cons,length_nil,t2,q3,ne',decide_true,decide_false,Bool.not_true]
 rw [JF (ds:=ps.map pD) (fs:=ps.map λ_=>PyData.bool true)]
 ·have al:(ps.map λ_=>PyData.bool true)=(ps.map λ_=>true).map PyData.bool:=by rw [map_map];rfl
  have al':(ps.map λ_=>true).all id=true:=by simp
  rw [al]
  try simp only [Pu.pwA,qbK,al',qcR,ls,un,Bool.not_true]
 ·try simp only [Pu.pwA]
 ·refine jg λp hp=>?_
  try simp only [Pu.pwA,UF,qm4]
 ·simp;omega
def qn1 {ps:List (Int×Int)} (l1:1<=ps.length) (l2:ps.length<=76) (nd:ps.Nodup):jA [.tuple [.str "cells",.tuple (ps.map pD)]]=some (.bool true):=by
 have t0:¬ (((0+1+1:Nat):Int)=0):=by decide
 have b1:(zv jO "cells").isSome=false:=by decide
 rw [NG]
 try simp only [Pu.pwA,UE,q3,q4,t0,b1,L3.WS,L3.CS,qnV l1 l2 nd,length_cons,length_nil,decide_true,decide_false,Bool.not_true]
def qpI {w:Wk} {m:Nat} {R C:Int} (ok:w.Ok) (nz:nzW w) (m1:1<=m) (hm:m<=4) (hR:R=1\/R=2\/R=3) (hC:C=4\/C=5\/C=6):QW [Wk.d w,.tuple [.str "row",.int m],.int R,.int C]=some (Wk.d (.cells (spr w.pc (qV 0 1 m) R C))):=by
 have c1:=UT (qeh ok);have c2:qy [.tuple [.str "row",.int m]]=some (.list ((qV 0 1 m).map pD)):=UT (w:=.line 0 m) ⟨by omega,by omega⟩;have lw:=Bk.MG ok;have la:(qV 0 1 m).length=m:=by simp [qV]
 have sl:=N5 w.pc (qV 0 1 m) R C;rw [la] at sl;have s1:=Nat.mul_le_mul lw.2 hm;have s2:=Nat.mul_le_mul lw.1 m1;rw [qb8]
 try simp only [Pu.pwA,EX]
 rw [N8 (ds:=w.pc.map pD) (fs:=(spr w.pc (qV 0 1 m) R C).map pD)]
 rotate_left
 ·try simp only [Pu.pwA,c1]
 ·rw [show (spr w.pc (qV 0 1 m) R C).map pD=w.pc.flatMap λp=>((qV 0 1 m).map λr=>pD (p.1*R+r.1,p.2*C+r.2)) by unfold spr;rw [List.map_flatMap];congr 1;funext p;rw [map_map];rfl];refine MD λp hp=>?_;have pl:=qfC ok p hp
  try simp only [Pu.pwA,qeZ,pD]
  try simp only [Pu.pwA,c2]
  rw [jg (g:=pD) (k:=λr=>pD (p.1*R+r.1,p.2*C+r.2))]
  ·rfl
  ·intro r hr
   try simp (disch:=omega) only [Pu.pwA,UF,pD,JO]
 ·rw [length_map];omega
 have iw:=qn1 (ps:=spr w.pc (qV 0 1 m) R C) (by omega) (by omega) (qhT (qni ok nz) hm hR hC)
 try simp only [Pu.pwA,iw,Wk.d,Bool.not_true]
end K21
namespace K21
open PySem L2 L3 Pu Pv
open Bk (Wk Dl Dr qV zL JG lnD lnA nzW SD SDs zk ZB qS C2 qm zE)
def fm1 {val:Nat->Int} {c:Int}:∀ i:Nat,(∀ j,j<i+1->val j=c)->PyProof.Rows.firstMet val (i+1)=[c]
 |0,h=>by rw [PyProof.Rows.firstMet_succ,PyProof.Rows.firstMet_zero,h 0 (by omega)];simp [PyProof.Rows.step_dedup]
 |i+1,h=>by rw [PyProof.Rows.firstMet_succ,fm1 i (λj hj=>h j (by omega)),h (i+1) (by omega)];simp [PyProof.Rows.step_dedup]
def dc1 {ns:List Int} {c:Int} (l:1<=ns.length) (h:∀ x∈ns,x=c):EJ ns=1:=by
 unfold EJ;obtain ⟨n,hn⟩:∃ n,ns.length=n+1:=⟨ns.length-1,by omega⟩
 rw [hn,fm1 (c:=c) n λj hj=>?_]
 ·rfl
 ·have hj':j<ns.length:=by omega
  rw [getD_eq_getElem?_getD,getElem?_eq_getElem hj'];exact h _ (List.getElem_mem hj')
def qpK {d:Dl} {p q:Int} (hp:Pl d) (ok:d.Ok):zV [dlD d,.int p,.int q]=some (.int ((fA d*p+fB d*q)%d.B)):=by
 have f:=qcz hp ok;rw [TM];cases d with
 |skew r c b x y=>
  simp only [fA,fB,Dl.B,dlD] at *
  try simp (disch:=omega) only [Pu.pwA,Q5,L3.VV,JO,XR]
  rw [← Int.add_emod]
 |rests r c b q=>
  simp only [fA,fB,Dl.B,dlD] at *
  try simp (disch:=omega) only [Pu.pwA,Q5,eq_self,JO,XR]
  rw [Int.one_mul]
 |_=>simp [Pl] at hp
def qnf {d:Dl} {w:Wk} {s:Int×Int} (hp:Pl d) (okd:d.Ok) (ok:Big w) (hs:s∈stI d.R d.C w.pc):zX [dlD d,Wk.d w,pD s]=some (.list ((w.pc.map λp=>bk d (s.1+p.1,s.2+p.2)).map PyData.int)):=by
 have hl:=qbb ok;rw [KQ]
 try simp only [Pu.pwA,YK,qmu ok]
 rw [JF (ds:=w.pc.map pD) (fs:=(w.pc.map λp=>bk d (s.1+p.1,s.2+p.2)).map PyData.int)]
 ·try simp only [Pu.pwA]
 ·try simp only [Pu.pwA,qmu ok]
 ·rw [map_map];refine jg λp hp'=>?_;have:=qmH hp okd (i:=s.1+p.1) (j:=s.2+p.2) (qot hs hp')
  try simp only [Pu.pwA,UF,pD,this,Function.comp_def]
 ·simp;omega
def qou {d:Dl} {w:Wk} {s:Int×Int} (hp:Pl d) (okd:d.Ok) (ok:Big w) (ne:w.pc≠[]) (l:w.pc.length<=1000) (hs:s∈stI d.R d.C w.pc):za [dlD d,Wk.d w,pD s,.tuple ((rst d.B (fA d) (fB d) w.pc).map PyData.int)]=some (.bool true):=by
 have f:=qcz hp okd;have l0:=List.length_pos_iff.mpr ne;have fr:=qnf hp okd ok hs;have dc:EJ (w.pc.map λp=>(fA d*s.1+fB d*s.2)%d.B)=1:=dc1 (c:=(fA d*s.1+fB d*s.2)%d.B) (by simp;omega) λx hx=>by
  obtain ⟨_,_,rfl⟩:=mem_map.mp hx;rfl
 rw [WU]
 try simp only [Pu.pwA,jS,qhv hp,szD,fr]
 rw [JF (ds:=w.pc.map λp=>.tuple [.int (bk d (s.1+p.1,s.2+p.2)),.int ((fA d*p.1+fB d*p.2)%d.B)]) (fs:=w.pc.map λp=>PyData.int ((fA d*s.1+fB d*s.2)%d.B))]
 ·have e:((1:Nat):Int)=1:=rfl;rw [show (w.pc.map λp=>PyData.int ((fA d*s.1+fB d*s.2)%d.B))=(w.pc.map λp=>(fA d*s.1+fB d*s.2)%d.B).map PyData.int by rw [map_map];rfl]
  try simp only [Pu.pwA,qhh (show (w.pc.map λp=>(fA d*s.1+fB d*s.2)%d.B).length<4000 by simp;omega),dc,e,decide_true]
 ·try simp only [Pu.pwA,qhL,rst,map_map]
  rw [List.zip_map',map_map];rfl
 ·refine jg λp hp'=>?_;have e:(bk d (s.1+p.1,s.2+p.2)-(fA d*p.1+fB d*p.2)%d.B)%d.B=(fA d*s.1+fB d*s.2)%d.B:=by
   unfold bk;simp only;rw [← Int.sub_emod];congr 1;rw [Int.mul_add,Int.mul_add];omega
  try simp (disch:=omega) only [Pu.pwA,UF,XR,e,Function.comp_def]
 ·simp;omega
def qcL {gf:PyData->Option (List (Nat×PyData))} {bw:Rho->Nat->QO->Prop} (xs:List PyData) (mono:Mn bw) (I:Rho->Nat->Prop) {ρ:Rho} {n:Nat} {Q:QO} (h0:I ρ n)
  (hs:∀ x∈xs,∀ ρ n,I ρ n->∃ bs,gf x=some bs/\bw (JI ρ bs) n λo m=>match o with|.nx ρ'=>I ρ' m|.ct ρ'=>I ρ' m|.bk ρ'=>Q (.nx ρ') m|.rt d b=>Q (.rt d b) m)
  (k:∀ ρ n,I ρ n->Q (.nx ρ) n):qch gf bw xs ρ n Q:=by
 have:=LD (gf:=gf) (f:=id) xs mono (λ_=>I) h0 (λi x ρ n hx h=>hs x (mem_of_getElem? hx) ρ n h) k;rw [List.map_id] at this;exact this
def qhS {ns:List Int} (h:ns.length<=1000000):Bk.EQ 4 (.list [.tuple (ns.map PyData.int),.tuple (ns.map PyData.int)]):=by
 have t:Bk.EQ 3 (.tuple (ns.map PyData.int)):=⟨by simpa using h,λd hd=>by
  obtain ⟨i,_,rfl⟩:=mem_map.mp hd
  trivial⟩
 exact ⟨by simp,λd hd=>by
  simp only [mem_cons,not_mem_nil,or_false] at hd;rcases hd with rfl|rfl<;>exact t⟩
structure Wg (w:Wk):Prop where
 big:Big w
 cb:Cb w.pc
 len:w.pc.length<=64
 sd:SD 4 1000 (Wk.d w)
def qn4 {w:Wk} (ok:w.Ok):Wg w:=⟨qeh ok,qnu ok,by have:=Bk.MG ok;omega,(qmA ok).mono (by decide) (by decide)⟩
def qmC {w:Wk} {m:Nat} {R C:Int} (ok:w.Ok) (m1:1<=m) (hm:m<=4) (hR:R=1\/R=2\/R=3) (hC:C=4\/C=5\/C=6):Wg (.cells (spr w.pc (qV 0 1 m) R C)):=by
 have lw:=Bk.MG ok;have la:(qV 0 1 m).length=m:=by simp [qV]
 have sl:=N5 w.pc (qV 0 1 m) R C;rw [la] at sl;have s1:=Nat.mul_le_mul lw.2 hm;have s2:=Nat.mul_le_mul lw.1 m1;have lim:=qgb (qfC ok) hm hR hC;generalize spr w.pc (qV 0 1 m) R C=ps at *;refine ⟨show ps.length<=1000 by omega,⟨?_,λp hp=>?_⟩,show ps.length<=64 by omega,?_⟩
 ·intro z;have:ps=[]:=z;rw [this] at sl;simp at sl;omega
 ·have:=lim p hp;omega
 ·have pr:SDs 2 (ps.length*(4+1)) (ps.map Pv.pD):=by
   have:=Bk.U1 (k:=2) (n:=4) (ds:=ps.map Pv.pD) (λd hd=>by
    obtain ⟨p,hp,rfl⟩:=mem_map.mp hd;have q:=lim p hp;exact (qS (k:=1) (n:=4) (qm (n:=0) (m:=2) (zk _ _ (by omega)) (qm (n:=0) (m:=0) (zk _ _ (by omega)) (zE _ _) (by omega)) (by omega))).mono (by decide) (by decide))
   rw [length_map] at this;exact this
  have t:=qS pr;exact (qS (k:=3) (n:=1000) (qm (n:=6) (m:=400) (ZB _ _ (by decide) (by decide)) (qm (n:=330) (m:=0) (t.mono (by decide) (by omega)) (zE _ _) (by omega)) (by omega))).mono (by decide) (by decide)
def qij:∀ k:Nat,k<=60->qc1.w [.un,.sh (.int k),.un,.un,.un,.un,.un,.un,.un,.un] 0 okW:=by
 intro k hk;unfold qc1;refine DE λY1 h1=>?_
 try simp only [Pu.pwA]
 refine qfN (by omega) λd p99' D=>?_;have hp:Pl d:=p99 p99';have okd:d.Ok:=D.ok;have lm:=Dl.lims okd;have sdd:=qg7 d okd;have dp:d.dep=0:=by cases d<;>simp [Pl] at hp<;>rfl
 rw [dp] at sdd
 try simp only [Pu.pwA]
 rw [h1]
 try simp (disch:=omega) only [Pu.pwA,qdO]
 refine LD (JD 0 (3:Int).toNat) CW.mn (λi ρ n=>n<=20+70*i/\∃ s4 s5 s6 s7 s8 s9,ρ=[.un,.sh (.int k),.un,.sh (dlD d),s4,s5,s6,s7,s8,s9]) ⟨by omega,_,_,_,_,_,_,rfl⟩ ?_ ?_
 ·rintro i x ρ n hx ⟨hn,s4,s5,s6,s7,s8,s9,rfl⟩;have hi:i<3:=(List.getElem?_eq_some_iff.mp hx).1;refine ⟨_,rfl,?_⟩;unfold CW;refine DE λZ1 g1=>?_
  try simp only [Pu.pwA,qdx,qbW]
  refine ⟨by omega,λw ok nz=>?_⟩
  try simp only [Pu.pwA]
  rw [g1];refine DE λZ2 g2=>?_;have go:∀ (v:Wk) (n':Nat),Wg v->n'<=20+70*(i+1)->Z2 [.un,.sh (.int k),.un,.sh (dlD d),.sh (.int x),.sh (Wk.d v),s6,s7,s8,s9] n' λo m=>match o with|.nx ρ'=>m<=20+70*(i+1)/\∃ s4 s5 s6 s7 s8 s9,ρ'=[.un,.sh (.int k),.un,.sh (dlD d),s4,s5,s6,s7,s8,s9]|.ct ρ'=>m<=20+70*(i+1)/\∃ s4 s5 s6 s7 s8 s9,ρ'=[.un,.sh (.int k),.un,.sh (dlD d),s4,s5,s6,s7,s8,s9]|.bk ρ'=>True|.rt d b=>okW (.rt d b) m:=by
   intro v n' g hn';obtain ⟨big,cb,len,sd⟩:=g;rw [g2];refine DE λZ3 g3=>?_;have sh:qcn false [.list [dlD d,Wk.d v]]=some (.str (PyData.list [dlD d,Wk.d v]).shown):=qkv ((C2 (k:=4) (n:=20000) (qm (n:=8000) (m:=2000) sdd (qm (n:=1000) (m:=0) sd (zE _ _) (by omega)) (by omega))).w (by decide) (by decide));generalize (PyData.list [dlD d,Wk.d v]).shown=tx at sh
   try simp only [Pu.pwA,qbu,MB,sh]
   rw [g3];refine DE λZ4 g4=>?_
   try simp only [Pu.pwA]
   rw [JF (ds:=v.pc.map pD) (fs:=(rst d.B (fA d) (fB d) v.pc).map PyData.int)]
   rotate_left
   ·try simp only [Pu.pwA,qmu big]
   ·unfold rst;rw [map_map];refine jg λp hp'=>?_
    try simp only [Pu.pwA,UF,pD,qpK hp okd,Function.comp_def]
   ·simp [rst];omega
   try simp only [Pu.pwA]
   rw [g4];refine DE λZ5 g5=>?_;have ro:=qpy hp okd big;have sm:=qgd (n:=4) (qhS (ns:=rst d.B (fA d) (fB d) v.pc) (by rw [qf2];omega))
   try simp only [Pu.pwA,ro,sm,Bool.not_true]
   rw [g5];refine DE λZ6 g6=>?_
   try simp only [Pu.pwA,qmR hp okd big cb]
   rw [g6];refine DE λZ7 g7=>?_;have sl:=qga (R:=d.R) (C:=d.C) cb lm.r2 lm.c2;have e1:slD (.list ((stI d.R d.C v.pc).map pD)) none (some 2)=some (.list (WF ((stI d.R d.C v.pc).map pD) none (some 2))):=qhW;have e2:slD (.list ((stI d.R d.C v.pc).map pD)) (some (-1)) none=some (.list (WF ((stI d.R d.C v.pc).map pD) (some (-1)) none)):=qhW;have m1:∀ y∈WF ((stI d.R d.C v.pc).map pD) none (some 2),∃ s∈stI d.R d.C v.pc,y=pD s:=λy hy=>by
    obtain ⟨s,hs,rfl⟩:=mem_map.mp (qap hy);exact ⟨s,hs,rfl⟩
   have m2:∀ y∈WF ((stI d.R d.C v.pc).map pD) (some (-1)) none,∃ s∈stI d.R d.C v.pc,y=pD s:=λy hy=>by
    obtain ⟨s,hs,rfl⟩:=mem_map.mp (qap hy);exact ⟨s,hs,rfl⟩
   have l1:(WF ((stI d.R d.C v.pc).map pD) none (some 2)).length<=2:=by
    unfold WF;rw [List.length_take];have:HT.sIx ((stI d.R d.C v.pc).map pD).length ((stI d.R d.C v.pc).map pD).length (some 2)<=2:=by
     rw [show (2:Int)=((2:Nat):Int) from rfl,HT.qgL];omega
    omega
   have l2:=qhw ((stI d.R d.C v.pc).map pD) (some (-1)) none;rw [length_map] at l2;have slen:(stI d.R d.C v.pc).length<=16*16:=by
    obtain ⟨⟨q1,q2,q3⟩,⟨q4,q5,q6⟩⟩:=cb.lim;have r2:=D.r2;have c2:=D.c2;unfold Pv.stI;rw [EY,ZZ,ZZ];exact Nat.mul_le_mul (by omega) (by omega)
   generalize WF ((stI d.R d.C v.pc).map pD) none (some 2)=A at *;generalize WF ((stI d.R d.C v.pc).map pD) (some (-1)) none=B at *;have ct:=qkV (xs:=A) (ys:=B) (by omega)
   try simp only [Pu.pwA,e1,e2,ct]
   refine qcL _ XV.mn (λρ n=>n=n'/\∃ s9,ρ=[.un,.sh (.int k),.un,.sh (dlD d),.sh (.int x),.sh (Wk.d v),.sh (.str tx),.sh (.tuple ((rst d.B (fA d) (fB d) v.pc).map PyData.int)),.sh (.list ((stI d.R d.C v.pc).map pD)),s9]) ⟨rfl,_,rfl⟩ ?_ ?_
   ·rintro y hy ρ n ⟨rfl,s9,rfl⟩;obtain ⟨s,hs,rfl⟩:∃ s∈stI d.R d.C v.pc,y=pD s:=(List.mem_append.mp hy).elim (m1 y) (m2 y);have sh:=qou hp okd big cb.ne (by omega) hs;refine ⟨_,rfl,?_⟩
    try simp only [Pu.pwA,XV,sh,Bool.not_true]
    exact ⟨_,rfl⟩
   ·rintro ρ n ⟨rfl,s9,rfl⟩
    try simp only [Pu.pwA]
    rw [g7]
    try simp only [Pu.pwA,qbu,MB,sh,decide_true,Bool.not_true]
    exact ⟨hn',_,_,_,_,_,_,rfl⟩
  try simp only [Pu.pwA]
  refine ⟨by omega,by omega,λf f0 f1=>?_⟩;by_cases c:f=0
  ·try simp only [Pu.pwA,c,decide_true]
   refine ⟨by omega,by omega,λa a0 a1=>?_⟩
   try simp only [Pu.pwA]
   refine ⟨by omega,by omega,λb b0 b1=>?_⟩
   try simp only [Pu.pwA]
   refine ⟨by omega,by omega,λe e0 e1=>?_⟩
   try simp only [Pu.pwA]
   obtain ⟨m,em⟩:∃ m:Nat,1+a=(m:Int):=⟨(1+a).toNat,by omega⟩
   rw [em]
   try simp only [Pu.pwA,qpI (m:=m) (R:=1+b) (C:=4+e) ok nz (by omega) (by omega) (by omega) (by omega)]
   exact go _ _ (qmC ok (by omega) (by omega) (by omega) (by omega)) (by omega)
  ·try simp only [Pu.pwA,c,decide_false]
   exact go w _ (qn4 ok) (by omega)
 ·intro ρ n h
  try simp only [Pu.pwA]
end K21
namespace K21
open PySem L2 L3 Bk
abbrev qiu : Env := { scope := PySem.Challenge.pw_bankwalk_k21_rests_of_walks.main.scope,locals := mainNs,globals := mainNs,cells := [],code := .ref 13,frame := some 14 }
abbrev qbB : List Stmt := PySem.W.behindTheImports PySem.Challenge.pw_bankwalk_k21_rests_of_walks
abbrev XU:Code:=.body qbB qiu
abbrev qkp:List Frame:=[PySem.W.topFrame ⟨0,0,0,0⟩]
def zp:Obj:=Hd.oT []
def jY:Obj:=⟨.none,none,.fields #[],#[]⟩
def qmm:Obj:=Hd.oC [.str "<module>" 182,.str "<module>" 183,.str "/claim/cut.py" 184,.int (1) 0,.int (0) 0,.int (0) 0,.int (0) 0,.int (0) 0,.ref 11,.bool false,.int (181) 0,.ref 12,.none,.none,.none,.none,.int (185) 0,.int (1) 0,.str "/claim/cut.py" 186]
def qmh:Obj:=⟨.type "frame",none,.plain,#[some (.ref 13),some (.ref 3),some (.ref 3),none,some (.str "__main__" 164),none,some (.ref 0)]⟩
def qj1 (P:Params):Heap:=⟨Array.mk [PySem.W.boot_o_0 P,PySem.W.boot_o_1 P,PySem.W.boot_o_2 P,PySem.W.boot_o_3 P,PySem.W.boot_o_4 P,PySem.W.boot_o_5 P,PySem.W.boot_o_6 P,PySem.W.boot_o_7 P,PySem.W.boot_o_8 P,PySem.W.boot_o_9 P,PySem.W.boot_o_10 P,zp,jY,qmm,qmh],{ }⟩
def qlc (P:Params):PySem.W.BT:=(Hd.nd (PySem.W.boot_o_0 P) (Hd.nd (PySem.W.boot_o_1 P) (Hd.nd (PySem.W.boot_o_3 P) (Hd.lf (PySem.W.boot_o_7 P)) (Hd.lf zp)) (Hd.nd (PySem.W.boot_o_5 P) (Hd.lf (PySem.W.boot_o_9 P)) (Hd.lf qmm))) (Hd.nd (PySem.W.boot_o_2 P) (Hd.nd (PySem.W.boot_o_4 P) (Hd.lf (PySem.W.boot_o_8 P)) (Hd.lf jY)) (Hd.nd (PySem.W.boot_o_6 P) (Hd.lf (PySem.W.boot_o_10 P)) (Hd.lf qmh))))
set_option maxRecDepth 100000 in
set_option maxHeartbeats 0 in
def qkL (w : World) (os : OsState) : PySem.W.topGo treeTable PySem.Challenge.pw_bankwalk_k21_rests_of_walks w 11 (some (Value.ref 6)) 12 ⟨PySem.W.boot_heap w.params,Array.mk [],PySem.W.boot_drawn,PySem.W.boot_toks,os⟩ (PySem.W.topStub PySem.Challenge.pw_bankwalk_k21_rests_of_walks) = some (⟨qj1 w.params,#[],{ },187,os⟩,⟨denote treeTable XU,XU,⟨0,0,0,0⟩,qkp⟩) := by kernel_rfl
set_option maxRecDepth 100000 in
set_option maxHeartbeats 0 in
def qie (w : World) (os : OsState) : PySem.W.segRun treeTable PySem.Challenge.pw_bankwalk_k21_rests_of_walks w 11 (some (Value.ref 6)) 1 1 ⟨qj1 w.params,#[],{ },187,os⟩ (PySem.W.blockOf qbB qiu XU ⟨0,0,0,0⟩ qkp) = some (.next,(⟨qlc w.params,15,{ },#[],{ },187,os⟩ : PySem.W.SharedT).abs,XU,⟨0,0,0,0⟩) := by kernel_rfl
def qpr (P:Params):Obj:=Hd.oD P 21 [(.str "__name__" 165,.str "bankwalk.walks" 253),(.str "__doc__" 166,.none),(.str "__package__" 167,.none),(.str "__loader__" 168,.builtin "__main__.__loader__#opaque"),(.str "__spec__" 169,.none),(.str "__annotations__" 170,.ref 6),(.str "__builtins__" 171,.ref 4),(.str "__file__" 173,.str "/claim/cut.py" 172),(.str "__cached__" 174,.none),(.str "is_number" 195,.ref 21),(.str "is_at_least" 203,.ref 28),(.str "are_at_least" 209,.ref 33),(.str "is_pair" 216,.ref 40),(.str "BankError" 236,.ref 50),(.str "NoWalk" 252,.ref 63),(.str "STRIDES" 272,.ref 66),(.str "is_step" 279,.ref 77),(.str "is_cells" 285,.ref 82),(.str "is_walk" 293,.ref 89),(.str "strung" 299,.ref 94),(.str "cells_of" 305,.ref 99)]
def qpJ:Obj:=⟨.none,none,.fields #[.int (2) 0,.int (0) 0,.ref 20,.int (4) 0,.int (0) 0,.ref 27,.int (6) 0,.int (0) 0,.ref 32,.int (8) 0,.int (0) 0,.ref 39,.int (11) 0,.int (0) 0,.ref 46,.int (13) 0,.int (0) 0,.ref 59,.int (17) 0,.int (0) 0,.ref 76,.int (21) 0,.int (0) 0,.ref 81,.int (27) 0,.int (0) 0,.ref 88,.int (38) 0,.int (0) 0,.ref 93,.int (40) 0,.int (0) 0,.ref 98],#[]⟩
def qoT:Obj:=Hd.oN jr 192
def qpa:Obj:=Hd.oG "is_number" jE
def qmQ:Obj:=Hd.oK "is_number" 189 2 1 181 15 16 .none (.ref 17) (.ref 18) 19 193 194
def qgG:Obj:=Hd.oF "is_number" jE (.str "bankwalk.basics" 187) (.ref 20)
def qiF:Obj:=Hd.oN jk 199
def qju:Obj:=Hd.oG "is_at_least" zN
def qgE:Obj:=Hd.oK "is_at_least" 196 4 2 181 22 23 .none (.ref 24) (.ref 25) 26 201 202
def qgx:Obj:=Hd.oF "is_at_least" zN (.str "bankwalk.basics" 187) (.ref 27)
def qiK:Obj:=Hd.oG "are_at_least" zA
def qfR:Obj:=Hd.oK "are_at_least" 204 6 2 181 29 30 .none .none .none 31 207 208
def qhr:Obj:=Hd.oF "are_at_least" zA (.str "bankwalk.basics" 187) (.ref 32)
def qkB:Obj:=Hd.oN jr 213
def qkt:Obj:=Hd.oG "is_pair" Q2
def qgy:Obj:=Hd.oK "is_pair" 210 8 1 181 34 35 .none (.ref 36) (.ref 37) 38 214 215
def qg6:Obj:=Hd.oF "is_pair" Q2 (.str "bankwalk.basics" 187) (.ref 39)
def qke:Obj:=Hd.oT [.type "ValueError"]
def qcA:Obj:=⟨.type "builtin_function_or_method",none,.fields #[.builtin "type.__prepare__",.type "type"],#[]⟩
def qh5 (P:Params):Obj:=Hd.oD P 4 [(.str "__module__" 226,.str "bankwalk.errors" 217),(.str "__qualname__" 228,.str "BankError" 227),(.str "__firstlineno__" 230,.int (11) 229),(.str "__static_attributes__" 231,.ref 48)]
def qkZ:Obj:=Hd.oC [.str "BankError" 221,.str "BankError" 222,.str "/claim/cut.py" 223,.int (11) 0,.int (0) 0,.int (0) 0,.int (0) 0,.int (0) 0,.ref 44,.bool false,.int (181) 0,.ref 45,.none,.none,.none,.none,.int (224) 0,.int (11) 0,.str "/claim/cut.py" 225]
def qkM:Obj:=⟨.type "frame",none,.plain,#[some (.ref 46),some (.ref 3),some (.ref 43),none,some (.str "bankwalk.errors" 217),none,some (.ref 0)]⟩
def qjA (P:Params):Obj:=Hd.oD P 3 [(.str "__module__" 226,.str "bankwalk.errors" 217),(.str "__firstlineno__" 230,.int (11) 229),(.str "__static_attributes__" 231,.ref 48),(.str "__weakref__" 233,.ref 51),(.str "__doc__" 234,.none)]
def qlU:Obj:=⟨.type "type",none,.cls ({ name:=Str.ofString "BankError",bases:=[Value.type "ValueError"],  mro:=    [Value.ref 50,Value.type "ValueError",Value.type "Exception",Value.type "BaseException",Value.type "object"],  ns:=49,qualname:=Str.ofString "BankError",subclasses:=[Value.ref 63] }),#[some (.ref 41),none,some (.str "BankError" 219),some (.str "BankError" 227),some (.builtin "ValueError.__new__"),some (.bool true)]⟩
def qiU:Obj:=⟨.type "getset_descriptor",none,.fields #[.str "__weakref__" 232,.ref 50,.builtin "ExceptionGroup.__weakref__",.none],#[]⟩
def qls:Obj:=⟨.type "super",none,.fields #[.ref 50,.ref 50,.ref 50],#[]⟩
def qjv:Obj:=⟨.type "builtin_function_or_method",none,.fields #[.builtin "object.__init_subclass__",.ref 50],#[]⟩
def qlp:Obj:=Hd.oT [.ref 50]
def qlD (P:Params):Obj:=Hd.oD P 4 [(.str "__module__" 244,.str "bankwalk.errors" 217),(.str "__qualname__" 246,.str "NoWalk" 245),(.str "__firstlineno__" 248,.int (13) 247),(.str "__static_attributes__" 249,.ref 61)]
def qig:Obj:=Hd.oC [.str "NoWalk" 239,.str "NoWalk" 240,.str "/claim/cut.py" 241,.int (13) 0,.int (0) 0,.int (0) 0,.int (0) 0,.int (0) 0,.ref 57,.bool false,.int (181) 0,.ref 58,.none,.none,.none,.none,.int (242) 0,.int (13) 0,.str "/claim/cut.py" 243]
def qkj:Obj:=⟨.type "frame",none,.plain,#[some (.ref 59),some (.ref 3),some (.ref 56),none,some (.str "bankwalk.errors" 217),none,some (.ref 0)]⟩
def qiO (P:Params):Obj:=Hd.oD P 2 [(.str "__module__" 244,.str "bankwalk.errors" 217),(.str "__firstlineno__" 248,.int (13) 247),(.str "__static_attributes__" 249,.ref 61),(.str "__doc__" 250,.none)]
def qjo:Obj:=⟨.type "type",none,.cls ({ name:=Str.ofString "NoWalk",bases:=[Value.ref 50],  mro:=    [Value.ref 63,Value.ref 50,Value.type "ValueError",Value.type "Exception",Value.type "BaseException",      Value.type "object"],  ns:=62,qualname:=Str.ofString "NoWalk" }),#[some (.ref 54),none,some (.str "NoWalk" 237),some (.str "NoWalk" 245),some (.builtin "ValueError.__new__"),some (.bool true)]⟩
def qjY:Obj:=⟨.type "super",none,.fields #[.ref 63,.ref 63,.ref 63],#[]⟩
def qjS:Obj:=⟨.type "builtin_function_or_method",none,.fields #[.builtin "object.__init_subclass__",.ref 63],#[]⟩
def qgz (P:Params):Obj:=Hd.oD P 4 [(.str "row" 255,.ref 67),(.str "column" 258,.ref 68),(.str "slant" 261,.ref 69),(.str "back" 264,.ref 70)]
def qgQ:Obj:=Hd.oT [.int (0) 256,.int (1) 257]
def qgr:Obj:=Hd.oT [.int (1) 259,.int (0) 260]
def qhz:Obj:=Hd.oT [.int (1) 262,.int (1) 263]
def qgw:Obj:=Hd.oT [.int (1) 265,.int (-1) 267]
def qis:Obj:=Hd.oN jr 276
def qiI:Obj:=Hd.oG "is_step" Q7
def qha:Obj:=Hd.oK "is_step" 273 17 1 181 71 72 .none (.ref 73) (.ref 74) 75 277 278
def qhp:Obj:=Hd.oF "is_step" Q7 (.str "bankwalk.walks" 253) (.ref 76)
def qjg:Obj:=Hd.oG "is_cells" j5
def qgj:Obj:=Hd.oK "is_cells" 280 21 1 181 78 79 .none .none .none 80 283 284
def qgs:Obj:=Hd.oF "is_cells" j5 (.str "bankwalk.walks" 253) (.ref 81)
def qji:Obj:=Hd.oN J0 289
def qjX:Obj:=Hd.oG "is_walk" ZD
def qgR:Obj:=Hd.oK "is_walk" 286 27 1 181 83 84 .none (.ref 85) (.ref 86) 87 291 292
def qhl:Obj:=Hd.oF "is_walk" ZD (.str "bankwalk.walks" 253) (.ref 88)
def qjR:Obj:=Hd.oG "strung" JQ
def qg9:Obj:=Hd.oK "strung" 294 38 3 181 90 91 .none .none .none 92 297 298
def qgI:Obj:=Hd.oF "strung" JQ (.str "bankwalk.walks" 253) (.ref 93)
def qiE:Obj:=Hd.oG "cells_of" j2
def qgY:Obj:=Hd.oK "cells_of" 300 40 1 181 95 96 .none .none .none 97 303 304
def qg0:Obj:=Hd.oF "cells_of" j2 (.str "bankwalk.walks" 253) (.ref 98)
def qkJ (P:Params):PySem.W.BT:=(Hd.nd (PySem.W.boot_o_0 P) (Hd.nd (PySem.W.boot_o_1 P) (Hd.nd (qpr P) (Hd.nd (PySem.W.boot_o_7 P) (Hd.nd zp (Hd.nd qiK (Hd.lf qjo) (Hd.lf zp)) (Hd.nd qkM (Hd.lf jY) .nil)) (Hd.nd jY (Hd.nd qgy (Hd.lf zp) .nil) (Hd.nd qcA (Hd.lf qjX) .nil))) (Hd.nd zp (Hd.nd qpa (Hd.nd jY (Hd.lf qgQ) (Hd.lf qg0)) (Hd.nd qiU (Hd.lf zp) .nil)) (Hd.nd qgE (Hd.nd (qh5 P) (Hd.lf qiI) .nil) (Hd.nd qig (Hd.lf jY) .nil)))) (Hd.nd (PySem.W.boot_o_5 P) (Hd.nd (PySem.W.boot_o_9 P) (Hd.nd qoT (Hd.nd qhr (Hd.lf qjS) (Hd.lf qiE)) (Hd.nd (qjA P) (Hd.lf qgj) .nil)) (Hd.nd zp (Hd.nd qke (Hd.lf qis) .nil) (Hd.nd zp (Hd.lf qhl) .nil))) (Hd.nd qmm (Hd.nd qgG (Hd.nd zp (Hd.lf qhz) .nil) (Hd.nd qjv (Hd.lf qji) .nil)) (Hd.nd zp (Hd.nd jY (Hd.lf qhp) .nil) (Hd.nd zp (Hd.lf qg9) .nil))))) (Hd.nd (PySem.W.boot_o_2 P) (Hd.nd (PySem.W.boot_o_4 P) (Hd.nd (PySem.W.boot_o_8 P) (Hd.nd jY (Hd.nd qfR (Hd.lf qjY) (Hd.lf jY)) (Hd.nd zp (Hd.lf qjg) .nil)) (Hd.nd qiF (Hd.nd qg6 (Hd.lf jY) .nil) (Hd.nd (qlD P) (Hd.lf qgR) .nil))) (Hd.nd qpJ (Hd.nd qmQ (Hd.nd qkB (Hd.lf qgr) .nil) (Hd.nd qls (Hd.lf jY) .nil)) (Hd.nd qgx (Hd.nd zp (Hd.lf qha) .nil) (Hd.nd qkj (Hd.lf qjR) .nil)))) (Hd.nd (PySem.W.boot_o_6 P) (Hd.nd (PySem.W.boot_o_10 P) (Hd.nd zp (Hd.nd zp (Hd.lf (qgz P)) (Hd.lf qgY)) (Hd.nd qlU (Hd.lf qgs) .nil)) (Hd.nd qju (Hd.nd qcA (Hd.lf zp) .nil) (Hd.nd jY (Hd.lf zp) .nil))) (Hd.nd qmh (Hd.nd zp (Hd.nd qkt (Hd.lf qgw) .nil) (Hd.nd qlp (Hd.lf zp) .nil)) (Hd.nd jY (Hd.nd qkZ (Hd.lf zp) .nil) (Hd.nd (qiO P) (Hd.lf qgI) .nil))))))
abbrev qeF:List Stmt:=(qbB.drop 0).take 15
def qeH (os : OsState) (w : World) : Prop := PySem.W.segRunT treeTable PySem.Challenge.pw_bankwalk_k21_rests_of_walks w 11 (some (Value.ref 6)) 1 765 (⟨qlc w.params,15,{ },#[],{ },187,os⟩ : PySem.W.SharedT) (PySem.W.piecesOf qeF qiu XU ⟨0,0,0,0⟩ qkp) = some (.next,(⟨qkJ w.params,100,{ },#[],{ },306,os⟩ : PySem.W.SharedT),XU,⟨40,0,49,39⟩)
set_option maxRecDepth 100000 in
set_option maxHeartbeats 0 in
def qlL (w:World) (os:OsState):qeH os w:=
 PySem.W.byRow2 "special-get-raises" (P:=qeH os) (λw=>show _=_ by kernel_rfl) (λw=>show _=_ by kernel_rfl) w
def qlT (P:Params):Obj:=Hd.oD P 45 [(.str "__name__" 165,.str "law_bankwalk_k21_rests_of_walks" 337),(.str "__doc__" 166,.none),(.str "__package__" 167,.none),(.str "__loader__" 168,.builtin "__main__.__loader__#opaque"),(.str "__spec__" 169,.none),(.str "__annotations__" 170,.ref 6),(.str "__builtins__" 171,.ref 4),(.str "__file__" 173,.str "/claim/cut.py" 172),(.str "__cached__" 174,.none),(.str "is_number" 195,.ref 21),(.str "is_at_least" 203,.ref 28),(.str "are_at_least" 209,.ref 33),(.str "is_pair" 216,.ref 40),(.str "BankError" 236,.ref 50),(.str "NoWalk" 252,.ref 63),(.str "STRIDES" 272,.ref 66),(.str "is_step" 279,.ref 77),(.str "is_cells" 285,.ref 82),(.str "is_walk" 293,.ref 89),(.str "strung" 299,.ref 94),(.str "cells_of" 305,.ref 99),(.str "factors_of" 314,.ref 106),(.str "rests_by" 320,.ref 111),(.str "rests_of" 328,.ref 118),(.str "spread" 336,.ref 123),(.str "_law_mix" 347,.ref 130),(.str "_law_left" 357,.ref 137),(.str "_law_pick" 366,.ref 144),(.str "_law_sides" 376,.ref 151),(.str "_law_gcd" 384,.ref 158),(.str "_law_skew" 395,.ref 165),(.str "_law_rests" 407,.ref 172),(.str "_law_plain" 414,.ref 179),(.str "_law_size" 420,.ref 184),(.str "_law_odd" 429,.ref 191),(.str "_law_bank" 435,.ref 196),(.str "_law_many" 442,.ref 203),(.str "_law_walk" 459,.ref 210),(.str "_law_cells" 465,.ref 215),(.str "_law_starts" 471,.ref 220),(.str "_law_from" 477,.ref 225),(.str "_law_same" 483,.ref 230),(.str "_law_rest" 492,.ref 237),(.str "_law_shifted" 498,.ref 242),(.str "law" 504,.ref 247)]
def qop:Obj:=⟨.none,none,.fields #[.int (2) 0,.int (0) 0,.ref 20,.int (4) 0,.int (0) 0,.ref 27,.int (6) 0,.int (0) 0,.ref 32,.int (8) 0,.int (0) 0,.ref 39,.int (11) 0,.int (0) 0,.ref 46,.int (13) 0,.int (0) 0,.ref 59,.int (17) 0,.int (0) 0,.ref 76,.int (21) 0,.int (0) 0,.ref 81,.int (27) 0,.int (0) 0,.ref 88,.int (38) 0,.int (0) 0,.ref 93,.int (40) 0,.int (0) 0,.ref 98,.int (51) 0,.int (0) 0,.ref 105,.int (55) 0,.int (0) 0,.ref 110,.int (58) 0,.int (0) 0,.ref 117,.int (61) 0,.int (0) 0,.ref 122,.int (68) 0,.int (0) 0,.ref 129,.int (71) 0,.int (0) 0,.ref 136,.int (75) 0,.int (0) 0,.ref 143,.int (82) 0,.int (0) 0,.ref 150,.int (86) 0,.int (0) 0,.ref 157,.int (90) 0,.int (0) 0,.ref 164,.int (95) 0,.int (0) 0,.ref 171,.int (103) 0,.int (0) 0,.ref 178,.int (105) 0,.int (0) 0,.ref 183,.int (115) 0,.int (0) 0,.ref 190,.int (120) 0,.int (0) 0,.ref 195,.int (133) 0,.int (0) 0,.ref 202,.int (135) 0,.int (0) 0,.ref 209,.int (154) 0,.int (0) 0,.ref 214,.int (164) 0,.int (0) 0,.ref 219,.int (172) 0,.int (0) 0,.ref 224,.int (174) 0,.int (0) 0,.ref 229,.int (182) 0,.int (0) 0,.ref 236,.int (186) 0,.int (0) 0,.ref 241,.int (190) 0,.int (0) 0,.ref 246],#[]⟩
def qnz:Obj:=Hd.oN JV 311
def qom:Obj:=Hd.oG "factors_of" je
def qk0:Obj:=Hd.oK "factors_of" 308 51 1 181 100 101 .none (.ref 102) (.ref 103) 104 312 313
def qlh:Obj:=Hd.oF "factors_of" je (.str "bankwalk.rests" 306) (.ref 105)
def qnQ:Obj:=Hd.oG "rests_by" QE
def qln:Obj:=Hd.oK "rests_by" 315 55 3 181 107 108 .none .none .none 109 318 319
def qj4:Obj:=Hd.oF "rests_by" QE (.str "bankwalk.rests" 306) (.ref 110)
def qm0:Obj:=Hd.oN EB 324
def qm1:Obj:=Hd.oG "rests_of" j9
def qjc:Obj:=Hd.oK "rests_of" 321 58 2 181 112 113 .none (.ref 114) (.ref 115) 116 326 327
def qlm:Obj:=Hd.oF "rests_of" j9 (.str "bankwalk.rests" 306) (.ref 117)
def qoA:Obj:=Hd.oG "spread" JW
def qjL:Obj:=Hd.oK "spread" 331 61 4 181 119 120 .none .none .none 121 334 335
def ql8:Obj:=Hd.oF "spread" JW (.str "bankwalk.joining" 329) (.ref 122)
def qn2:Obj:=Hd.oN D7 342
def qoh:Obj:=Hd.oG "_law_mix" ZC
def qk6:Obj:=Hd.oK "_law_mix" 339 68 2 181 124 125 .none (.ref 126) (.ref 127) 128 345 346
def qjV:Obj:=Hd.oF "_law_mix" ZC (.str "law_bankwalk_k21_rests_of_walks" 337) (.ref 129)
def qmz:Obj:=Hd.oN EA 351
def qoD:Obj:=Hd.oG "_law_left" QB
def qii:Obj:=Hd.oK "_law_left" 348 71 2 181 131 132 .none (.ref 133) (.ref 134) 135 355 356
def qko:Obj:=Hd.oF "_law_left" QB (.str "law_bankwalk_k21_rests_of_walks" 337) (.ref 136)
def qmN:Obj:=Hd.oN UQ 361
def qnJ:Obj:=Hd.oG "_law_pick" QI
def qje:Obj:=Hd.oK "_law_pick" 358 75 2 181 138 139 .none (.ref 140) (.ref 141) 142 364 365
def qh1:Obj:=Hd.oF "_law_pick" QI (.str "law_bankwalk_k21_rests_of_walks" 337) (.ref 143)
def qmT:Obj:=Hd.oN VD 370
def qmL:Obj:=Hd.oG "_law_sides" jF
def qlK:Obj:=Hd.oK "_law_sides" 367 82 1 181 145 146 .none (.ref 147) (.ref 148) 149 374 375
def qlQ:Obj:=Hd.oF "_law_sides" jF (.str "law_bankwalk_k21_rests_of_walks" 337) (.ref 150)
def qoe:Obj:=Hd.oN D8 380
def qmF:Obj:=Hd.oG "_law_gcd" Q9
def qiS:Obj:=Hd.oK "_law_gcd" 377 86 2 181 152 153 .none (.ref 154) (.ref 155) 156 382 383
def qh4:Obj:=Hd.oF "_law_gcd" Q9 (.str "law_bankwalk_k21_rests_of_walks" 337) (.ref 157)
def qnL:Obj:=Hd.oN Q6 388
def qoj:Obj:=Hd.oG "_law_skew" QH
def qep:Obj:=Hd.oK "_law_skew" 385 90 1 181 159 160 .none (.ref 161) (.ref 162) 163 393 394
def qeK:Obj:=Hd.oF "_law_skew" QH (.str "law_bankwalk_k21_rests_of_walks" 337) (.ref 164)
def qk1:Obj:=Hd.oN VL 399
def qk5:Obj:=Hd.oG "_law_rests" jH
def qd5:Obj:=Hd.oK "_law_rests" 396 95 1 181 166 167 .none (.ref 168) (.ref 169) 170 405 406
def qeL:Obj:=Hd.oF "_law_rests" jH (.str "law_bankwalk_k21_rests_of_walks" 337) (.ref 171)
def qil:Obj:=Hd.oN YF 411
def qlO:Obj:=Hd.oG "_law_plain" jB
def qfI:Obj:=Hd.oK "_law_plain" 408 103 1 181 173 174 .none (.ref 175) (.ref 176) 177 412 413
def qeN:Obj:=Hd.oF "_law_plain" jB (.str "law_bankwalk_k21_rests_of_walks" 337) (.ref 178)
def qiP:Obj:=Hd.oG "_law_size" j7
def qeW:Obj:=Hd.oK "_law_size" 415 105 1 181 180 181 .none .none .none 182 418 419
def qfe:Obj:=Hd.oF "_law_size" j7 (.str "law_bankwalk_k21_rests_of_walks" 337) (.ref 183)
def qiZ:Obj:=Hd.oN qaC 424
def qkP:Obj:=Hd.oG "_law_odd" EC
def qdB:Obj:=Hd.oK "_law_odd" 421 115 1 181 185 186 .none (.ref 187) (.ref 188) 189 427 428
def qe3:Obj:=Hd.oF "_law_odd" EC (.str "law_bankwalk_k21_rests_of_walks" 337) (.ref 190)
def qkC:Obj:=Hd.oG "_law_bank" QC
def qdW:Obj:=Hd.oK "_law_bank" 430 120 3 181 192 193 .none .none .none 194 433 434
def qeD:Obj:=Hd.oF "_law_bank" QC (.str "law_bankwalk_k21_rests_of_walks" 337) (.ref 195)
def qlX:Obj:=Hd.oN YF 439
def qlx:Obj:=Hd.oG "_law_many" j8
def qev:Obj:=Hd.oK "_law_many" 436 133 1 181 197 198 .none (.ref 199) (.ref 200) 201 440 441
def qdV:Obj:=Hd.oF "_law_many" j8 (.str "law_bankwalk_k21_rests_of_walks" 337) (.ref 202)
def qic:Obj:=Hd.oN UP 446
def qkb:Obj:=Hd.oG "_law_walk" j4
def qeq:Obj:=Hd.oK "_law_walk" 443 135 1 181 204 205 .none (.ref 206) (.ref 207) 208 457 458
def qe5:Obj:=Hd.oF "_law_walk" j4 (.str "law_bankwalk_k21_rests_of_walks" 337) (.ref 209)
def qia:Obj:=Hd.oG "_law_cells" jJ
def qfv:Obj:=Hd.oK "_law_cells" 460 154 1 181 211 212 .none .none .none 213 463 464
def qdY:Obj:=Hd.oF "_law_cells" jJ (.str "law_bankwalk_k21_rests_of_walks" 337) (.ref 214)
def qlP:Obj:=Hd.oG "_law_starts" jd
def qex:Obj:=Hd.oK "_law_starts" 466 164 2 181 216 217 .none .none .none 218 469 470
def qfB:Obj:=Hd.oF "_law_starts" jd (.str "law_bankwalk_k21_rests_of_walks" 337) (.ref 219)
def qlW:Obj:=Hd.oG "_law_from" j3
def qdK:Obj:=Hd.oK "_law_from" 472 172 3 181 221 222 .none .none .none 223 475 476
def qfJ:Obj:=Hd.oF "_law_from" j3 (.str "law_bankwalk_k21_rests_of_walks" 337) (.ref 224)
def qlR:Obj:=Hd.oG "_law_same" QF
def qed:Obj:=Hd.oK "_law_same" 478 174 2 181 226 227 .none .none .none 228 481 482
def qe6:Obj:=Hd.oF "_law_same" QF (.str "law_bankwalk_k21_rests_of_walks" 337) (.ref 229)
def qjx:Obj:=Hd.oN ZH 487
def qiJ:Obj:=Hd.oG "_law_rest" QJ
def qfF:Obj:=Hd.oK "_law_rest" 484 182 3 181 231 232 .none (.ref 233) (.ref 234) 235 490 491
def qfb:Obj:=Hd.oF "_law_rest" QJ (.str "law_bankwalk_k21_rests_of_walks" 337) (.ref 236)
def qku:Obj:=Hd.oG "_law_shifted" zQ
def qer:Obj:=Hd.oK "_law_shifted" 493 186 4 181 238 239 .none .none .none 240 496 497
def qeO:Obj:=Hd.oF "_law_shifted" zQ (.str "law_bankwalk_k21_rests_of_walks" 337) (.ref 241)
def ql7:Obj:=Hd.oG "law" J2
def qeG:Obj:=Hd.oK "law" 499 190 1 181 243 244 .none .none .none 245 502 503
def qe8:Obj:=Hd.oF "law" J2 (.str "law_bankwalk_k21_rests_of_walks" 337) (.ref 246)
def qgJ (P:Params):PySem.W.BT:=(Hd.nd (PySem.W.boot_o_0 P) (Hd.nd (PySem.W.boot_o_1 P) (Hd.nd (qlT P) (Hd.nd (PySem.W.boot_o_7 P) (Hd.nd zp (Hd.nd qiK (Hd.nd qjo (Hd.lf zp) (Hd.lf qe3)) (Hd.nd zp (Hd.lf zp) (Hd.lf qlW))) (Hd.nd qkM (Hd.nd jY (Hd.lf qje) (Hd.lf zp)) (Hd.nd qj4 (Hd.lf qil) (Hd.lf jY)))) (Hd.nd jY (Hd.nd qgy (Hd.nd zp (Hd.lf qoD) (Hd.lf qlX)) (Hd.nd zp (Hd.lf jY) (Hd.lf zp))) (Hd.nd qcA (Hd.nd qjX (Hd.lf qlQ) (Hd.lf qdY)) (Hd.nd zp (Hd.lf qeW) (Hd.lf qe8))))) (Hd.nd zp (Hd.nd qpa (Hd.nd jY (Hd.nd qgQ (Hd.lf zp) (Hd.lf qdW)) (Hd.nd qg0 (Hd.lf qoj) (Hd.lf jY))) (Hd.nd qiU (Hd.nd zp (Hd.lf qmT) (Hd.lf zp)) (Hd.nd zp (Hd.lf qeN) (Hd.lf zp)))) (Hd.nd qgE (Hd.nd (qh5 P) (Hd.nd qiI (Hd.lf jY) (Hd.lf qdV)) (Hd.nd zp (Hd.lf qd5) (Hd.lf qiJ))) (Hd.nd qig (Hd.nd jY (Hd.lf zp) (Hd.lf qex)) (Hd.nd ql8 (Hd.lf qiZ) .nil))))) (Hd.nd (PySem.W.boot_o_5 P) (Hd.nd (PySem.W.boot_o_9 P) (Hd.nd qoT (Hd.nd qhr (Hd.nd qjS (Hd.lf qk6) (Hd.lf jY)) (Hd.nd qiE (Hd.lf qnL) (Hd.lf qfJ))) (Hd.nd (qjA P) (Hd.nd qgj (Hd.lf zp) (Hd.lf qeq)) (Hd.nd jY (Hd.lf qlO) (Hd.lf qer)))) (Hd.nd zp (Hd.nd qke (Hd.nd qis (Hd.lf qko) (Hd.lf qlx)) (Hd.nd qk0 (Hd.lf zp) (Hd.lf qjx))) (Hd.nd zp (Hd.nd qhl (Hd.lf jY) (Hd.lf jY)) (Hd.nd qoA (Hd.lf zp) .nil)))) (Hd.nd qmm (Hd.nd qgG (Hd.nd zp (Hd.nd qhz (Hd.lf qmz) (Hd.lf zp)) (Hd.nd jY (Hd.lf qeK) (Hd.lf qed))) (Hd.nd qjv (Hd.nd qji (Hd.lf qmL) (Hd.lf qia)) (Hd.nd qjc (Hd.lf jY) (Hd.lf ql7)))) (Hd.nd zp (Hd.nd jY (Hd.nd qhp (Hd.lf zp) (Hd.lf jY)) (Hd.nd qnQ (Hd.lf zp) (Hd.lf qfb))) (Hd.nd zp (Hd.nd qg9 (Hd.lf qiS) (Hd.lf zp)) (Hd.nd jY (Hd.lf qkP) .nil)))))) (Hd.nd (PySem.W.boot_o_2 P) (Hd.nd (PySem.W.boot_o_4 P) (Hd.nd (PySem.W.boot_o_8 P) (Hd.nd jY (Hd.nd qfR (Hd.nd qjY (Hd.lf qoh) (Hd.lf zp)) (Hd.nd jY (Hd.lf jY) (Hd.lf qdK))) (Hd.nd zp (Hd.nd qjg (Hd.lf qh1) (Hd.lf qkb)) (Hd.nd zp (Hd.lf zp) (Hd.lf qku)))) (Hd.nd qiF (Hd.nd qg6 (Hd.nd jY (Hd.lf qii) (Hd.lf zp)) (Hd.nd qom (Hd.lf qk1) (Hd.lf jY))) (Hd.nd (qlD P) (Hd.nd qgR (Hd.lf zp) (Hd.lf zp)) (Hd.nd jY (Hd.lf qfe) .nil)))) (Hd.nd qop (Hd.nd qmQ (Hd.nd qkB (Hd.nd qgr (Hd.lf jY) (Hd.lf qeD)) (Hd.nd zp (Hd.lf qep) (Hd.lf qlR))) (Hd.nd qls (Hd.nd jY (Hd.lf zp) (Hd.lf jY)) (Hd.nd qm1 (Hd.lf zp) (Hd.lf jY)))) (Hd.nd qgx (Hd.nd zp (Hd.nd qha (Hd.lf qmN) (Hd.lf zp)) (Hd.nd jY (Hd.lf qeL) (Hd.lf qfF))) (Hd.nd qkj (Hd.nd qjR (Hd.lf qmF) (Hd.lf qfB)) (Hd.nd zp (Hd.lf zp) .nil))))) (Hd.nd (PySem.W.boot_o_6 P) (Hd.nd (PySem.W.boot_o_10 P) (Hd.nd zp (Hd.nd zp (Hd.nd (qgz P) (Hd.lf qjV) (Hd.lf qkC)) (Hd.nd qgY (Hd.lf zp) (Hd.lf zp))) (Hd.nd qlU (Hd.nd qgs (Hd.lf jY) (Hd.lf qe5)) (Hd.nd qm0 (Hd.lf qfI) (Hd.lf qeO)))) (Hd.nd qju (Hd.nd qcA (Hd.nd zp (Hd.lf zp) (Hd.lf qev)) (Hd.nd qlh (Hd.lf qk5) (Hd.lf zp))) (Hd.nd jY (Hd.nd zp (Hd.lf qoe) (Hd.lf qlP)) (Hd.nd qjL (Hd.lf jY) .nil)))) (Hd.nd qmh (Hd.nd zp (Hd.nd qkt (Hd.nd qgw (Hd.lf zp) (Hd.lf jY)) (Hd.nd qnz (Hd.lf zp) (Hd.lf qe6))) (Hd.nd qlp (Hd.nd zp (Hd.lf qlK) (Hd.lf qfv)) (Hd.nd qlm (Hd.lf qiP) (Hd.lf qeG)))) (Hd.nd jY (Hd.nd qkZ (Hd.nd zp (Hd.lf qnJ) (Hd.lf qic)) (Hd.nd qln (Hd.lf jY) (Hd.lf zp))) (Hd.nd (qiO P) (Hd.nd qgI (Hd.lf qh4) (Hd.lf jY)) (Hd.nd qn2 (Hd.lf qdB) .nil)))))))
abbrev qen:List Stmt:=(qbB.drop 15).take 27
set_option maxRecDepth 100000 in
set_option maxHeartbeats 0 in
def qi0 (w : World) (os : OsState) : PySem.W.segRunT treeTable PySem.Challenge.pw_bankwalk_k21_rests_of_walks w 11 (some (Value.ref 6)) 1 729 (⟨qkJ w.params,100,{ },#[],{ },306,os⟩ : PySem.W.SharedT) (PySem.W.piecesOf qen qiu XU ⟨40,0,49,39⟩ qkp) = some (.next,(⟨qgJ w.params,248,{ },#[],{ },505,os⟩ : PySem.W.SharedT),XU,⟨190,0,208,15⟩) := by kernel_rfl
abbrev qgo (P:Params):Heap:=PySem.W.absHeap (qgJ P) 248 { }
def Kf (P:Params):PySem.W.Frag:=[(3,qlT P),(20,qmQ),(21,qgG),(27,qgE),(28,qgx),(32,qfR),(33,qhr),(39,qgy),(40,qg6),(66,qgz P),(67,qgQ),(68,qgr),(69,qhz),(70,qgw),(76,qha),(77,qhp),(81,qgj),(82,qgs),(88,qgR),(89,qhl),(93,qg9),(94,qgI),(98,qgY),(99,qg0),(105,qk0),(106,qlh),(110,qln),(111,qj4),(117,qjc),(118,qlm),(122,qjL),(123,ql8),(129,qk6),(130,qjV),(136,qii),(137,qko),(143,qje),(144,qh1),(150,qlK),(151,qlQ),(157,qiS),(158,qh4),(164,qep),(165,qeK),(171,qd5),(172,qeL),(178,qfI),(179,qeN),(183,qeW),(184,qfe),(190,qdB),(191,qe3),(195,qdW),(196,qeD),(202,qev),(203,qdV),(209,qeq),(210,qe5),(214,qfv),(215,qdY),(219,qex),(220,qfB),(224,qdK),(225,qfJ),(229,qed),(230,qe6),(236,qfF),(237,qfb),(241,qer),(242,qeO),(246,qeG),(247,qe8)]
def qjJ {l:PySem.W.OpenLaw} {w:World} {h:Heap} {mg:Str->Option Value} {fa:Addr} (X:(Kf w.params).In h) (G:h.Ns mainGlobals mg) (hfa:mg "law" = some (.ref fa)) :
  ∃ fd:FuncData,(∀ (s:Shared) (v:Value),BindsTo s fd ⟨[v],[]⟩ [("_law_script",v)])/\∀ base:Heap,(Kf w.params).In base->base.Ns mainGlobals mg->FnOk l.prog w (Kf w.params) mg base CX0 6 fa fd ["_law_script"] (lSp (Kf w.params) W8):=by
 have e:=hfa.symm.trans (Hd.zJ X G "law" (.ref 247) (by kernel_rfl));cases e;have F0:=Hd.zM (K:=Kf w.params) "is_number" jE 21 (.str "bankwalk.basics" 187) (.ref 20) (by kernel_rfl) (by kernel_rfl) (by kernel_rfl);have b0:=F0.binds (ps:=VF) λ_ _ _ _ _ _ us hl=>by obtain ⟨_,rfl⟩:=Pu.RW hl;rfl
 have m0:=Hd.zJ X G "is_number" (.ref 21) (by kernel_rfl);have F1:=Hd.zM (K:=Kf w.params) "is_at_least" zN 28 (.str "bankwalk.basics" 187) (.ref 27) (by kernel_rfl) (by kernel_rfl) (by kernel_rfl);have b1:=F1.binds (ps:=ZY) λ_ _ _ _ _ _ us hl=>by obtain ⟨_,_,rfl⟩:=Pu.qcc hl;rfl
 have m1:=Hd.zJ X G "is_at_least" (.ref 28) (by kernel_rfl);have F2:=Hd.zM (K:=Kf w.params) "are_at_least" zA 33 (.str "bankwalk.basics" 187) (.ref 32) (by kernel_rfl) (by kernel_rfl) (by kernel_rfl);have b2:=F2.binds (ps:=Q0) λ_ _ _ _ _ _ us hl=>by obtain ⟨_,_,rfl⟩:=Pu.qcc hl;rfl
 have m2:=Hd.zJ X G "are_at_least" (.ref 33) (by kernel_rfl);have F3:=Hd.zM (K:=Kf w.params) "is_pair" Q2 40 (.str "bankwalk.basics" 187) (.ref 39) (by kernel_rfl) (by kernel_rfl) (by kernel_rfl);have b3:=F3.binds (ps:=DH) λ_ _ _ _ _ _ us hl=>by obtain ⟨_,rfl⟩:=Pu.RW hl;rfl
 have m3:=Hd.zJ X G "is_pair" (.ref 40) (by kernel_rfl);have F4:=Hd.zM (K:=Kf w.params) "is_step" Q7 77 (.str "bankwalk.walks" 253) (.ref 76) (by kernel_rfl) (by kernel_rfl) (by kernel_rfl);have b4:=F4.binds (ps:=WC) λ_ _ _ _ _ _ us hl=>by obtain ⟨_,rfl⟩:=Pu.RW hl;rfl
 have m4:=Hd.zJ X G "is_step" (.ref 77) (by kernel_rfl);have F5:=Hd.zM (K:=Kf w.params) "is_cells" j5 82 (.str "bankwalk.walks" 253) (.ref 81) (by kernel_rfl) (by kernel_rfl) (by kernel_rfl);have b5:=F5.binds (ps:=U9) λ_ _ _ _ _ _ us hl=>by obtain ⟨_,rfl⟩:=Pu.RW hl;rfl
 have m5:=Hd.zJ X G "is_cells" (.ref 82) (by kernel_rfl);have F6:=Hd.zM (K:=Kf w.params) "is_walk" ZD 89 (.str "bankwalk.walks" 253) (.ref 88) (by kernel_rfl) (by kernel_rfl) (by kernel_rfl);have b6:=F6.binds (ps:=DM) λ_ _ _ _ _ _ us hl=>by obtain ⟨_,rfl⟩:=Pu.RW hl;rfl
 have m6:=Hd.zJ X G "is_walk" (.ref 89) (by kernel_rfl);have F7:=Hd.zM (K:=Kf w.params) "strung" JQ 94 (.str "bankwalk.walks" 253) (.ref 93) (by kernel_rfl) (by kernel_rfl) (by kernel_rfl);have b7:=F7.binds (ps:=C6) λ_ _ _ _ _ _ us hl=>by obtain ⟨_,_,_,rfl⟩:=Pu.qhK hl;rfl
 have m7:=Hd.zJ X G "strung" (.ref 94) (by kernel_rfl);have F8:=Hd.zM (K:=Kf w.params) "cells_of" j2 99 (.str "bankwalk.walks" 253) (.ref 98) (by kernel_rfl) (by kernel_rfl) (by kernel_rfl);have b8:=F8.binds (ps:=UX) λ_ _ _ _ _ _ us hl=>by obtain ⟨_,rfl⟩:=Pu.RW hl;rfl
 have m8:=Hd.zJ X G "cells_of" (.ref 99) (by kernel_rfl);have F9:=Hd.zM (K:=Kf w.params) "factors_of" je 106 (.str "bankwalk.rests" 306) (.ref 105) (by kernel_rfl) (by kernel_rfl) (by kernel_rfl);have b9:=F9.binds (ps:=J1) λ_ _ _ _ _ _ us hl=>by obtain ⟨_,rfl⟩:=Pu.RW hl;rfl
 have m9:=Hd.zJ X G "factors_of" (.ref 106) (by kernel_rfl);have F10:=Hd.zM (K:=Kf w.params) "rests_by" QE 111 (.str "bankwalk.rests" 306) (.ref 110) (by kernel_rfl) (by kernel_rfl) (by kernel_rfl);have b10:=F10.binds (ps:=UV) λ_ _ _ _ _ _ us hl=>by obtain ⟨_,_,_,rfl⟩:=Pu.qhK hl;rfl
 have m10:=Hd.zJ X G "rests_by" (.ref 111) (by kernel_rfl);have F11:=Hd.zM (K:=Kf w.params) "rests_of" j9 118 (.str "bankwalk.rests" 306) (.ref 117) (by kernel_rfl) (by kernel_rfl) (by kernel_rfl);have b11:=F11.binds (ps:=ED) λ_ _ _ _ _ _ us hl=>by obtain ⟨_,_,rfl⟩:=Pu.qcc hl;rfl
 have m11:=Hd.zJ X G "rests_of" (.ref 118) (by kernel_rfl);have F12:=Hd.zM (K:=Kf w.params) "spread" JW 123 (.str "bankwalk.joining" 329) (.ref 122) (by kernel_rfl) (by kernel_rfl) (by kernel_rfl);have b12:=F12.binds (ps:=CY) λ_ _ _ _ _ _ us hl=>by obtain ⟨_,_,_,_,rfl⟩:=Pu.qoO hl;rfl
 have m12:=Hd.zJ X G "spread" (.ref 123) (by kernel_rfl);have F13:=Hd.zM (K:=Kf w.params) "_law_mix" ZC 130 (.str "law_bankwalk_k21_rests_of_walks" 337) (.ref 129) (by kernel_rfl) (by kernel_rfl) (by kernel_rfl);have b13:=F13.binds (ps:=DP) λ_ _ _ _ _ _ us hl=>by obtain ⟨_,_,rfl⟩:=Pu.qcc hl;rfl
 have m13:=Hd.zJ X G "_law_mix" (.ref 130) (by kernel_rfl);have F14:=Hd.zM (K:=Kf w.params) "_law_left" QB 137 (.str "law_bankwalk_k21_rests_of_walks" 337) (.ref 136) (by kernel_rfl) (by kernel_rfl) (by kernel_rfl);have b14:=F14.binds (ps:=UM) λ_ _ _ _ _ _ us hl=>by obtain ⟨_,_,rfl⟩:=Pu.qcc hl;rfl
 have m14:=Hd.zJ X G "_law_left" (.ref 137) (by kernel_rfl);have F15:=Hd.zM (K:=Kf w.params) "_law_pick" QI 144 (.str "law_bankwalk_k21_rests_of_walks" 337) (.ref 143) (by kernel_rfl) (by kernel_rfl) (by kernel_rfl);have b15:=F15.binds (ps:=U8) λ_ _ _ _ _ _ us hl=>by obtain ⟨_,_,rfl⟩:=Pu.qcc hl;rfl
 have m15:=Hd.zJ X G "_law_pick" (.ref 144) (by kernel_rfl);have F16:=Hd.zM (K:=Kf w.params) "_law_sides" jF 151 (.str "law_bankwalk_k21_rests_of_walks" 337) (.ref 150) (by kernel_rfl) (by kernel_rfl) (by kernel_rfl);have b16:=F16.binds (ps:=VI) λ_ _ _ _ _ _ us hl=>by obtain ⟨_,rfl⟩:=Pu.RW hl;rfl
 have m16:=Hd.zJ X G "_law_sides" (.ref 151) (by kernel_rfl);have F17:=Hd.zM (K:=Kf w.params) "_law_gcd" Q9 158 (.str "law_bankwalk_k21_rests_of_walks" 337) (.ref 157) (by kernel_rfl) (by kernel_rfl) (by kernel_rfl);have b17:=F17.binds (ps:=DA) λ_ _ _ _ _ _ us hl=>by obtain ⟨_,_,rfl⟩:=Pu.qcc hl;rfl
 have m17:=Hd.zJ X G "_law_gcd" (.ref 158) (by kernel_rfl);have F18:=Hd.zM (K:=Kf w.params) "_law_skew" QH 165 (.str "law_bankwalk_k21_rests_of_walks" 337) (.ref 164) (by kernel_rfl) (by kernel_rfl) (by kernel_rfl);have b18:=F18.binds (ps:=U5) λ_ _ _ _ _ _ us hl=>by obtain ⟨_,rfl⟩:=Pu.RW hl;rfl
 have m18:=Hd.zJ X G "_law_skew" (.ref 165) (by kernel_rfl);have F19:=Hd.zM (K:=Kf w.params) "_law_rests" jH 172 (.str "law_bankwalk_k21_rests_of_walks" 337) (.ref 171) (by kernel_rfl) (by kernel_rfl) (by kernel_rfl);have b19:=F19.binds (ps:=VC) λ_ _ _ _ _ _ us hl=>by obtain ⟨_,rfl⟩:=Pu.RW hl;rfl
 have m19:=Hd.zJ X G "_law_rests" (.ref 172) (by kernel_rfl);have F20:=Hd.zM (K:=Kf w.params) "_law_plain" jB 179 (.str "law_bankwalk_k21_rests_of_walks" 337) (.ref 178) (by kernel_rfl) (by kernel_rfl) (by kernel_rfl);have b20:=F20.binds (ps:=VN) λ_ _ _ _ _ _ us hl=>by obtain ⟨_,rfl⟩:=Pu.RW hl;rfl
 have m20:=Hd.zJ X G "_law_plain" (.ref 179) (by kernel_rfl);have F21:=Hd.zM (K:=Kf w.params) "_law_size" j7 184 (.str "law_bankwalk_k21_rests_of_walks" 337) (.ref 183) (by kernel_rfl) (by kernel_rfl) (by kernel_rfl);have b21:=F21.binds (ps:=UO) λ_ _ _ _ _ _ us hl=>by obtain ⟨_,rfl⟩:=Pu.RW hl;rfl
 have m21:=Hd.zJ X G "_law_size" (.ref 184) (by kernel_rfl);have F22:=Hd.zM (K:=Kf w.params) "_law_odd" EC 191 (.str "law_bankwalk_k21_rests_of_walks" 337) (.ref 190) (by kernel_rfl) (by kernel_rfl) (by kernel_rfl);have b22:=F22.binds (ps:=qaz) λ_ _ _ _ _ _ us hl=>by obtain ⟨_,rfl⟩:=Pu.RW hl;rfl
 have m22:=Hd.zJ X G "_law_odd" (.ref 191) (by kernel_rfl);have F23:=Hd.zM (K:=Kf w.params) "_law_bank" QC 196 (.str "law_bankwalk_k21_rests_of_walks" 337) (.ref 195) (by kernel_rfl) (by kernel_rfl) (by kernel_rfl);have b23:=F23.binds (ps:=UZ) λ_ _ _ _ _ _ us hl=>by obtain ⟨_,_,_,rfl⟩:=Pu.qhK hl;rfl
 have m23:=Hd.zJ X G "_law_bank" (.ref 196) (by kernel_rfl);have F24:=Hd.zM (K:=Kf w.params) "_law_many" j8 203 (.str "law_bankwalk_k21_rests_of_walks" 337) (.ref 202) (by kernel_rfl) (by kernel_rfl) (by kernel_rfl);have b24:=F24.binds (ps:=U0) λ_ _ _ _ _ _ us hl=>by obtain ⟨_,rfl⟩:=Pu.RW hl;rfl
 have m24:=Hd.zJ X G "_law_many" (.ref 203) (by kernel_rfl);have F25:=Hd.zM (K:=Kf w.params) "_law_walk" j4 210 (.str "law_bankwalk_k21_rests_of_walks" 337) (.ref 209) (by kernel_rfl) (by kernel_rfl) (by kernel_rfl);have b25:=F25.binds (ps:=UK) λ_ _ _ _ _ _ us hl=>by obtain ⟨_,rfl⟩:=Pu.RW hl;rfl
 have m25:=Hd.zJ X G "_law_walk" (.ref 210) (by kernel_rfl);have F26:=Hd.zM (K:=Kf w.params) "_law_cells" jJ 215 (.str "law_bankwalk_k21_rests_of_walks" 337) (.ref 214) (by kernel_rfl) (by kernel_rfl) (by kernel_rfl);have b26:=F26.binds (ps:=VM) λ_ _ _ _ _ _ us hl=>by obtain ⟨_,rfl⟩:=Pu.RW hl;rfl
 have m26:=Hd.zJ X G "_law_cells" (.ref 215) (by kernel_rfl);have F27:=Hd.zM (K:=Kf w.params) "_law_starts" jd 220 (.str "law_bankwalk_k21_rests_of_walks" 337) (.ref 219) (by kernel_rfl) (by kernel_rfl) (by kernel_rfl);have b27:=F27.binds (ps:=JU) λ_ _ _ _ _ _ us hl=>by obtain ⟨_,_,rfl⟩:=Pu.qcc hl;rfl
 have m27:=Hd.zJ X G "_law_starts" (.ref 220) (by kernel_rfl);have F28:=Hd.zM (K:=Kf w.params) "_law_from" j3 225 (.str "law_bankwalk_k21_rests_of_walks" 337) (.ref 224) (by kernel_rfl) (by kernel_rfl) (by kernel_rfl);have b28:=F28.binds (ps:=US) λ_ _ _ _ _ _ us hl=>by obtain ⟨_,_,_,rfl⟩:=Pu.qhK hl;rfl
 have m28:=Hd.zJ X G "_law_from" (.ref 225) (by kernel_rfl);have F29:=Hd.zM (K:=Kf w.params) "_law_same" QF 230 (.str "law_bankwalk_k21_rests_of_walks" 337) (.ref 229) (by kernel_rfl) (by kernel_rfl) (by kernel_rfl);have b29:=F29.binds (ps:=U2) λ_ _ _ _ _ _ us hl=>by obtain ⟨_,_,rfl⟩:=Pu.qcc hl;rfl
 have m29:=Hd.zJ X G "_law_same" (.ref 230) (by kernel_rfl);have F30:=Hd.zM (K:=Kf w.params) "_law_rest" QJ 237 (.str "law_bankwalk_k21_rests_of_walks" 337) (.ref 236) (by kernel_rfl) (by kernel_rfl) (by kernel_rfl);have b30:=F30.binds (ps:=UW) λ_ _ _ _ _ _ us hl=>by obtain ⟨_,_,_,rfl⟩:=Pu.qhK hl;rfl
 have m30:=Hd.zJ X G "_law_rest" (.ref 237) (by kernel_rfl);have F31:=Hd.zM (K:=Kf w.params) "_law_shifted" zQ 242 (.str "law_bankwalk_k21_rests_of_walks" 337) (.ref 241) (by kernel_rfl) (by kernel_rfl) (by kernel_rfl);have b31:=F31.binds (ps:=ZT) λ_ _ _ _ _ _ us hl=>by obtain ⟨_,_,_,_,rfl⟩:=Pu.qoO hl;rfl
 have m31:=Hd.zJ X G "_law_shifted" (.ref 242) (by kernel_rfl);have F32:=Hd.zM (K:=Kf w.params) "law" J2 247 (.str "law_bankwalk_k21_rests_of_walks" 337) (.ref 246) (by kernel_rfl) (by kernel_rfl) (by kernel_rfl);have g_isinstance:=Hd.J3 X G "isinstance" (by kernel_rfl);have g_bool:=Hd.J3 X G "bool" (by kernel_rfl);have g_int:=Hd.J3 X G "int" (by kernel_rfl);have g_all:=Hd.J3 X G "all" (by kernel_rfl);have g_len:=Hd.J3 X G "len" (by kernel_rfl);have g_tuple:=Hd.J3 X G "tuple" (by kernel_rfl);have g_set:=Hd.J3 X G "set" (by kernel_rfl);have g_str:=Hd.J3 X G "str" (by kernel_rfl);have g_STRIDES:Tb (Kf w.params) mg w "STRIDES" jO:=⟨66,_,4,Hd.zJ X G "STRIDES" (.ref 66) (by kernel_rfl),(show (Kf w.params).lookup 66=some ⟨.type "dict",none,.dict #[⟨PyData.keyHash w.params "row",.str "row" 255,.ref 67⟩,⟨PyData.keyHash w.params "column",.str "column" 258,.ref 68⟩,⟨PyData.keyHash w.params "slant",.str "slant" 261,.ref 69⟩,⟨PyData.keyHash w.params "back",.str "back" 264,.ref 70⟩] 4,#[]⟩ by kernel_rfl),rfl,(.cons (v:=.ref 67) rfl (L0 (show (Kf w.params).lookup 67=some ⟨.type "tuple",none,.seq #[.int (0) 256,.int (1) 257] 0,#[]⟩ by kernel_rfl)) (.cons (v:=.ref 68) rfl (L0 (show (Kf w.params).lookup 68=some ⟨.type "tuple",none,.seq #[.int (1) 259,.int (0) 260] 0,#[]⟩ by kernel_rfl)) (.cons (v:=.ref 69) rfl (L0 (show (Kf w.params).lookup 69=some ⟨.type "tuple",none,.seq #[.int (1) 262,.int (1) 263] 0,#[]⟩ by kernel_rfl)) (.cons (v:=.ref 70) rfl (L0 (show (Kf w.params).lookup 70=some ⟨.type "tuple",none,.seq #[.int (1) 265,.int (-1) 267] 0,#[]⟩ by kernel_rfl)) .nil))))⟩
 have g_range:=Hd.J3 X G "range" (by kernel_rfl);have g_list:=Hd.J3 X G "list" (by kernel_rfl);have g_abs:=Hd.J3 X G "abs" (by kernel_rfl);have g_zip:=Hd.J3 X G "zip" (by kernel_rfl);have g_enumerate:=Hd.J3 X G "enumerate" (by kernel_rfl);have g_sum:=Hd.J3 X G "sum" (by kernel_rfl);have g_min:=Hd.J3 X G "min" (by kernel_rfl);have g_max:=Hd.J3 X G "max" (by kernel_rfl);have g_repr:=Hd.J3 X G "repr" (by kernel_rfl);refine ⟨PySem.W.fnOf "law" "law" (ZU J2) (z9 J2) (qj J2) .none .none .none (.str "law_bankwalk_k21_rests_of_walks" 337) none (.ref 246) .none,λs v=>.of_eq rfl,λbase _ _=>?_⟩;have O_is_number:=SN (P:=l.prog) (w:=w) (base:=base) (k:=0) F0 b0 m0  g_isinstance g_bool g_int RZ;have O_is_at_least:=WW (P:=l.prog) (w:=w) (base:=base) (k:=1) F1 b1 m1 O_is_number  WT;have O_are_at_least:=WG (P:=l.prog) (w:=w) (base:=base) (k:=2) F2 b2 m2 O_is_at_least g_all D4;have O_is_pair:=MI (P:=l.prog) (w:=w) (base:=base) (k:=1) F3 b3 m3 O_is_number g_len g_isinstance g_tuple NE;have O_is_step:=NB (P:=l.prog) (w:=w) (base:=base) (k:=2) F4 b4 m4 (O_is_number.mono (by decide)) O_is_at_least g_len ND;have O_is_cells:=K2 (P:=l.prog) (w:=w) (base:=base) (k:=2) F5 b5 m5 O_is_pair g_len g_isinstance g_tuple g_all g_set KZ;have O_is_walk:=MU (P:=l.prog) (w:=w) (base:=base) (k:=3) F6 b6 m6 (O_is_at_least.mono (by decide)) O_are_at_least O_is_step O_is_cells g_isinstance g_str g_len g_tuple g_STRIDES MM;have O_strung:=qaB (P:=l.prog) (w:=w) (base:=base) (k:=0) F7 b7 m7  g_range Pv.qbV;have O_cells_of:=S4 (P:=l.prog) (w:=w) (base:=base) (k:=1) F8 b8 m8 O_strung g_list g_range g_STRIDES Pv.T0;have O_factors_of:=CQ (P:=l.prog) (w:=w) (base:=base) (k:=0) F9 b9 m9   Pv.X9;have O_rests_by:=TK (P:=l.prog) (w:=w) (base:=base) (k:=2) F10 b10 m10 O_cells_of g_tuple Pv.KF;have O_rests_of:=K0 (P:=l.prog) (w:=w) (base:=base) (k:=3) F11 b11 m11 (O_factors_of.mono (by decide)) O_rests_by  Pv.T5;have O_spread:=qbX (P:=l.prog) (w:=w) (base:=base) (k:=4) F12 b12 m12 (O_cells_of.mono (by decide)) O_is_walk g_tuple qbH;have O_law_mix:=MQ (P:=l.prog) (w:=w) (base:=base) (k:=0) F13 b13 m13   Bk.M7;have O_law_left:=TQ (P:=l.prog) (w:=w) (base:=base) (k:=0) F14 b14 m14  g_len g_abs Bk.TZ;have O_law_pick:=TY (P:=l.prog) (w:=w) (base:=base) (k:=1) F15 b15 m15 O_law_mix  Bk.TR;have O_law_sides:=R9 (P:=l.prog) (w:=w) (base:=base) (k:=2) F16 b16 m16 O_law_pick  Bk.SG;have O_law_gcd:=MZ (P:=l.prog) (w:=w) (base:=base) (k:=0) F17 b17 m17   Bk.MX;have O_law_skew:=T8 (P:=l.prog) (w:=w) (base:=base) (k:=3) F18 b18 m18 O_law_sides (O_law_pick.mono (by decide))  T4;have O_law_rests:=RM (P:=l.prog) (w:=w) (base:=base) (k:=3) F19 b19 m19 O_law_sides (O_law_pick.mono (by decide)) (O_law_gcd.mono (by decide)) g_range Bk.RQ;have O_law_plain:=RB (P:=l.prog) (w:=w) (base:=base) (k:=4) F20 b20 m20 (O_law_pick.mono (by decide)) O_law_rests O_law_skew  RJ;have O_law_odd:=Pu.Fn3.pz (EU (P:=l.prog) (w:=w) (base:=base) F22 b22 m22) false;have O_law_many:=KJ (P:=l.prog) (w:=w) (base:=base) (k:=2) F24 b24 m24 O_law_pick  Bk.KO;have O_law_walk:=KS (P:=l.prog) (w:=w) (base:=base) (k:=3) F25 b25 m25 (O_law_pick.mono (by decide)) O_law_many g_int g_range g_tuple Bk.SB;have O_law_cells:=R4 (P:=l.prog) (w:=w) (base:=base) (k:=0) F26 b26 m26  g_list g_range R5;have O_law_rest:=KP (P:=l.prog) (w:=w) (base:=base) (k:=0) F30 b30 m30   TL;have O_law_size_0:=Pu.Fn3.pz (EU (P:=l.prog) (w:=w) (base:=base) F21 b21 m21) false;have O_law_size_1:=KB (P:=l.prog) (w:=w) (base:=base) (k:=0) F21 b21 m21 O_law_size_0 g_len g_zip g_tuple T7;have O_law_starts:=XX (P:=l.prog) (w:=w) (base:=base) (k:=1) F27 b27 m27 O_law_size_1 O_law_cells g_min g_max g_range CI;have O_law_bank_0:=Pu.Fn3.pz (EU (P:=l.prog) (w:=w) (base:=base) F23 b23 m23) false;have O_law_bank_1:=S8 (P:=l.prog) (w:=w) (base:=base) (k:=1) F23 b23 m23 O_law_size_1 (O_law_odd.mono (by decide)) (O_law_bank_0.mono (by decide)) g_enumerate g_sum TX;have O_law_from:=TN (P:=l.prog) (w:=w) (base:=base) (k:=2) F28 b28 m28 (O_law_cells.mono (by decide)) O_law_bank_1  TJ;have O_law_shifted:=WP (P:=l.prog) (w:=w) (base:=base) (k:=3) F31 b31 m31 (O_law_size_1.mono (by decide)) O_law_from g_zip g_len g_set WO;have O_law_same_0:=EU (P:=l.prog) (w:=w) (base:=base) F29 b29 m29;have O_law_same_1:=j0 (P:=l.prog) (w:=w) (base:=base) (k:=0) F29 b29 m29 O_law_same_0 g_isinstance g_list g_tuple g_zip g_all g_len g_str g_bool g_int (Bk.j6 0);have O_law_same_2:=j0 (P:=l.prog) (w:=w) (base:=base) (k:=1) F29 b29 m29 O_law_same_1 g_isinstance g_list g_tuple g_zip g_all g_len g_str g_bool g_int (Bk.j6 1);have O_law_same_3:=j0 (P:=l.prog) (w:=w) (base:=base) (k:=2) F29 b29 m29 O_law_same_2 g_isinstance g_list g_tuple g_zip g_all g_len g_str g_bool g_int (Bk.j6 2);have O_law_same_4:=j0 (P:=l.prog) (w:=w) (base:=base) (k:=3) F29 b29 m29 O_law_same_3 g_isinstance g_list g_tuple g_zip g_all g_len g_str g_bool g_int (Bk.j6 3);have O_law_same_5:=j0 (P:=l.prog) (w:=w) (base:=base) (k:=4) F29 b29 m29 O_law_same_4 g_isinstance g_list g_tuple g_zip g_all g_len g_str g_bool g_int (Bk.j6 4);exact qlB (k:=5) F32 (O_law_left.mono (by decide)) O_law_plain (O_law_walk.mono (by decide)) (O_law_pick.mono (by decide)) O_spread (O_law_cells.mono (by decide)) (O_law_rest.mono (by decide)) (O_rests_of.mono (by decide)) O_law_same_5 (O_law_starts.mono (by decide)) (O_law_shifted.mono (by decide)) g_len g_min g_range g_repr g_tuple (qjE qij)
set_option maxRecDepth 100000 in
set_option maxHeartbeats 0 in
def qkX (w : World) (os : OsState) : PySem.W.topRun treeTable PySem.Challenge.pw_bankwalk_k21_rests_of_walks w 11 (some (Value.ref 6)) 2 (⟨qgJ w.params,248,{ },#[],{ },505,os⟩ : PySem.W.SharedT).abs (PySem.W.restOf [] qiu XU ⟨190,0,208,15⟩ qkp) = some ⟨qgo w.params,#[],{ },505,os⟩ := by kernel_rfl
def qmO:(qeF++(qen++[]))=qbB:=by kernel_rfl
set_option maxRecDepth 100000 in
set_option maxHeartbeats 0 in
def qhC (w : World) (os : OsState) : PySem.W.topRun treeTable PySem.Challenge.pw_bankwalk_k21_rests_of_walks w 11 (some (Value.ref 6)) (12 + (1 + (765 + (729 + 2)))) ⟨PySem.W.boot_heap w.params,Array.mk [],PySem.W.boot_drawn,PySem.W.boot_toks,os⟩ (PySem.W.topStub PySem.Challenge.pw_bankwalk_k21_rests_of_walks) = some ⟨qgo w.params,#[],{ },505,os⟩ := by
 have h:=(PySem.W.piece_app (PySem.W.segRun_of (qlL w os)) (PySem.W.piece_app (PySem.W.segRun_of (qi0 w os)) (qkX w os)))
 rw [qmO] at h;exact PySem.W.go_top (qkL w os) (PySem.W.piece_block (qie w os) h)
abbrev Q : Program := PySem.W.view PySem.Challenge.pw_bankwalk_k21_rests_of_walks [1,2,3,4,6,7,9,10,11,12,13,14,16,17,18,20,22,23,24,25,26,27,28,29,30,31,32,33,34,35,36,37,38,39,40,41]
set_option maxRecDepth 100000 in
set_option maxHeartbeats 0 in
def left : PySem.W.LeftO PySem.Challenge.pw_bankwalk_k21_rests_of_walks Q ["STRIDES"] (λs=>PySem.W.xlAt Q [] s&&PySem.W.recOk [] s) (λs=>([3,20,21,27,28,32,33,39,40,66,67,68,69,70,76,77,81,82,88,89,93,94,98,99,105,106,110,111,117,118,122,123,129,130,136,137,143,144,150,151,157,158,164,165,171,172,178,179,183,184,190,191,195,196,202,203,209,210,214,215,219,220,224,225,229,230,236,237,241,242,246,247]:List Addr).map s.heap.get?) (λw=>(Kf w.params).map λp=>some p.2) 3110:=
 PySem.W.LeftO.of_pieces (H₀:=PySem.W.boot_heap) (H₁:=qgo) (gs₀:=Array.mk []) (gs₁:=#[]) (d₀:=PySem.W.boot_drawn) (d₁:={ }) (k₀:=PySem.W.boot_toks) (k₁:=505) (m₀:=11) (ann:=some (Value.ref 6)) (M:=(12+(1+(765+(729+2)))))
  (PySem.W.boot_open (by kernel_rfl) (by kernel_rfl) (λs=>by kernel_rfl)) (λw=>by kernel_rfl) qhC (by kernel_rfl) (λw=>by kernel_rfl)
end K21
open PySem PySem.W PyProof.Rows
set_option maxRecDepth 100000 in
set_option maxHeartbeats 0 in
theorem PySem.Challenge.cw_bankwalk_k21_rests_of_walks_holds : PySem.Challenge.rw_bankwalk_k21_rests_of_walks.Holds :=
 Hd.head (l := PySem.Challenge.rw_bankwalk_k21_rests_of_walks) (q := K21.Q) (loose := ["STRIDES"]) (K:=K21.Kf) (as:=[3,20,21,27,28,32,33,39,40,66,67,68,69,70,76,77,81,82,88,89,93,94,98,99,105,106,110,111,117,118,122,123,129,130,136,137,143,144,150,151,157,158,164,165,171,172,178,179,183,184,190,191,195,196,202,203,209,210,214,215,219,220,224,225,229,230,236,237,241,242,246,247]) (N:=3110) (k:=6) (x:="_law_script")
  (d:=⟨"law",L2.ZU K21.J2,L2.z9 K21.J2,L2.qj K21.J2,⟨190,0,208,15⟩⟩) (λ_=>by kernel_rfl) (by kernel_rfl) K21.left (by kernel_rfl) (by kernel_rfl) (by kernel_rfl) (by kernel_rfl) (by kernel_rfl)
  ⟨rfl,rfl,rfl,rfl,rfl,by decide +kernel⟩ (by w_witness2) rfl (by kernel_rfl) ⟨rfl,by decide,by decide,rfl⟩ (λw=>by kernel_rfl) λw mg fa h KX G hmg=>K21.qjJ KX G hmg
