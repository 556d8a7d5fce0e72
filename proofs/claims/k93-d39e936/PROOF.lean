import PyProof.Rows.All
import Wide.All
import OpenK.AllK
import Wide.FinOn
import Lean
import PyProof.EqAt
import PyProof.EqKinds
import PyProof.TupleCall
import PyProof.NeKinds
import KE.KRevSl
import PyProof.FactsAll.bool_2
import PyProof.Rows.EqBoolInt
import PyProof.Rows.IntBool
import PySem.Challenge.RW_bankwalk_k93_whole_rests_beside_looks
-- CHANGE: your row's module here,as the last of these rows
set_option Elab.async false
set_option genSizeOf false
set_option genInjectivity false
noncomputable section
abbrev Frg:=PySem.W.Frag
open List (getElem_cons_zero length_cons getElem?_cons_succ getElem_cons_succ getElem?_cons_zero length_nil set_cons_zero set_cons_succ length_map not_mem_nil mem_append_right map_cons mem_cons getElem?_set getElem?_map cons_append size_toArray getElem?_eq_getElem map_map mem_of_getElem? mem_map length_append getD_eq_getElem?_getD mem_range length_range)
def obb{α β:Type _}{o:Option α}{f:α->Option β}{b:β}(h:o.bind f=some b):∃a,o=some a/\f a=some b:=Option.bind_eq_some_iff.mp h
set_option linter.all false
set_option maxRecDepth 100000
namespace L2
open PySem PySem.Spec PyProof.Rows
abbrev Key:=Sum Int Str
def qh0:Key->Value->Bool
 |.inl k,v=>Value.isInt k v
 |.inr x,v=>Value.isStrOf x v
def qpt (w:World):Key->Int
 |.inl k=>hashInt k
 |.inr x=>hashStr w x
def zF:∀ {k:Key} {v:Value},qh0 k v=true->(∃ i t,k=Sum.inl i/\v=Value.int i t)\/(∃ x t,k=Sum.inr x/\v=Value.str x t)
 |.inl i,v,h=>by
  obtain ⟨t,e⟩:=Value.isInt_shape (k:=i) (v:=v) h;exact .inl ⟨i,t,rfl,e⟩
 |.inr x,v,h=>by
  obtain ⟨t,e⟩:=Value.isStrOf_shape (x:=x) (v:=v) h;exact .inr ⟨x,t,rfl,e⟩
def qhQ (a b:Int):decide ((Sum.inl a:Key)=Sum.inl b)=(a==b):=by
 by_cases e:a=b
 ·subst e;simp
 ·have h:¬ (Sum.inl a:Key)=Sum.inl b:=λq=>e (Sum.inl.inj q);rw [decide_eq_false h];exact (beq_eq_false_iff_ne.mpr e).symm
def qh2 (a b:Str):decide ((Sum.inr a:Key)=Sum.inr b)=decide (a=b):=by
 by_cases e:a=b
 ·subst e;simp
 ·have h:¬ (Sum.inr a:Key)=Sum.inr b:=λq=>e (Sum.inr.inj q);rw [decide_eq_false h,decide_eq_false e]
def qic (a:Int) (b:Str):decide ((Sum.inl a:Key)=Sum.inr b)=false:=decide_eq_false (λq=>nomatch q)
def qki (a:Str) (b:Int):decide ((Sum.inr a:Key)=Sum.inl b)=false:=decide_eq_false (λq=>nomatch q)
def qb8 (prog:Program) (w:World):PySem.KeyKind prog w Key where
 is:=qh0
 hash:=qpt w
 inj:=λv a b ha hb=>by
  rcases zF ha with ⟨i,t,rfl,rfl⟩|⟨x,t,rfl,rfl⟩
  ·rcases zF hb with ⟨j,u,rfl,e⟩|⟨y,u,rfl,e⟩
   ·injection e with e1 _;rw [e1]
   ·exact nomatch e
  ·rcases zF hb with ⟨j,u,rfl,e⟩|⟨y,u,rfl,e⟩
   ·exact nomatch e
   ·injection e with e1 _;rw [e1]
 byValue:=λk v h=>by
  rcases zF h with ⟨i,t,rfl,rfl⟩|⟨x,t,rfl,rfl⟩<;>rfl
 pyHash:=λhv h=>by
  rcases zF hv with ⟨i,t,rfl,rfl⟩|⟨x,t,rfl,rfl⟩
  ·exact wpAny_pyHash_int h
  ·exact wpAny_pyHash_str h
 eqBool:=λhu hv h=>by
  rcases zF hu with ⟨i,t,rfl,rfl⟩|⟨x,t,rfl,rfl⟩
  ·rcases zF hv with ⟨j,u,rfl,rfl⟩|⟨y,u,rfl,rfl⟩
   ·rw [qhQ] at h;exact wpAny_eqBool_int h
   ·rw [qic] at h;exact SeqAt.EqAt.int_str i t y u _ _ _ _ h
  ·rcases zF hv with ⟨j,u,rfl,rfl⟩|⟨y,u,rfl,rfl⟩
   ·rw [qki] at h;exact SeqAt.EqAt.str_int x t j u _ _ _ _ h
   ·rw [qh2] at h;exact wpAny_eqBool_str h
 «strs»:=λk x t v h=>by
  rcases zF h with ⟨i,u,rfl,e⟩|⟨y,u,rfl,e⟩
  ·exact nomatch e
  ·injection e with e1 _;subst e1;cases v<;>rfl
set_option genInjectivity true in
inductive V where
 |non|bl (b:Bool)|int (i:Int)|str (x:Str)|byt (b:Array UInt8)|flt (b:UInt64)|ref (a:Addr)|ty (n:String)
 deriving DecidableEq
def jJ:V->Value->Prop
 |.non,u=>u=Value.none
 |.bl b,u=>u=Value.bool b
 |.int i,u=>∃ t,u=Value.int i t
 |.str x,u=>∃ t,u=Value.str x t
 |.byt b,u=>∃ t,u=Value.bytes b t
 |.flt b,u=>∃ t,u=Value.float b t
 |.ref a,u=>u=Value.ref a
 |.ty n,u=>u=Value.type n
abbrev jk:List V->List Value->Prop:=Paired jJ
def jk.length {xs:List V} {us:List Value} (r:jk xs us):xs.length=us.length:=Paired.length r
def jk.get:∀ {xs:List V} {us:List Value} {i:Nat} {x:V},jk xs us->xs[i]?=some x->∃ u,us[i]?=some u/\jJ x u
 |_,_,_,_,.nil,e=>by simp at e
 |_,_,0,_,.cons r _,e=>by simp at e;subst e;exact ⟨_,rfl,r⟩
 |_,_,i+1,x,.cons _ t,e=>by
  obtain ⟨u,h1,h2⟩:=jk.get (i:=i) (x:=x) t (by simpa using e);exact ⟨u,by simpa using h1,h2⟩
def jk.set {x:V} {u:Value} (r:jJ x u):∀ {xs:List V} {us:List Value} (i:Nat),jk xs us->jk (xs.set i x) (us.set i u)
 |_,_,_,.nil=>.nil
 |_,_,0,.cons _ t=>.cons r t
 |_,_,i+1,.cons q t=>.cons q (jk.set r i t)
def jk.append:∀ {xs ys:List V} {us ws:List Value},jk xs us->jk ys ws->jk (xs++ys) (us++ws)
 |_,_,_,_,.nil,s=>s
 |_,_,_,_,.cons r t,s=>.cons r (jk.append t s)
def jk.take:∀ {xs:List V} {us:List Value} (n:Nat),jk xs us->jk (xs.take n) (us.take n)
 |_,_,0,_=>.nil
 |_,_,_+1,.nil=>.nil
 |_,_,n+1,.cons r t=>.cons r (jk.take n t)
def jk.drop:∀ {xs:List V} {us:List Value} (n:Nat),jk xs us->jk (xs.drop n) (us.drop n)
 |_,_,0,r=>r
 |_,_,_+1,.nil=>.nil
 |_,_,n+1,.cons _ t=>jk.drop n t
def qoF:Option V->Option Value->Prop
 |some v,some u=>jJ v u
 |none,none=>True
 |_,_=>False
def KV {κ:Type}:List (κ×V)->List (κ×Value)->Prop:=Paired λ(p:κ×V) (q:κ×Value)=>p.1=q.1/\jJ p.2 q.2
def kV:Key->V
 |.inl i=>.int i
 |.inr x=>.str x
inductive HO where
 /-- a list -/
 |lst (xs:List V)
 /-- a tuple (never changes) -/
 |tup (xs:List V)
 /-- a dict whose keys are ints and texts;one whose keys are tuples of ints and texts (the empty one is both) -/
 |dK (kvs:List (Key×V))|dT (kvs:List (List Key×V))
 /-- a set of ints: its members,its size -/
 |set (S:Int->Bool) (n:Nat)
 /-- an instance of the class at C,its dict at dx,its attributes -/
 |ins (C dx:Addr) (fs:List (Str×V))
 /-- the dict of the instance at x -/
 |own (x:Addr)
 /-- the dict of an exception -/
 |xd (fs:List (Str×V))
 /-- a bound method,f of x -/
 |met (f x:Addr)
 /-- a range object lo,lo+1,.. below hi -/
 |rng (lo hi:Int)
 /-- a thing that is known to the object (the script;a dict while a loop walks it): read,never written while it is so -/
 |frz (o:Obj) (u:HO)
 /-- a code object's table -/
 |tbl (ps:Array Value)
 /-- any other thing,by what is true of its one object (a def of one's own: SetO a S n:=HO.ext λh=>..) -/
 |ext (φ:Heap->Prop)
abbrev Hp:=Addr->Option HO
def upd (H:Hp) (a:Addr) (o:HO):Hp:=λb=>if b=a then some o else H b
def zf {H:Hp} {a:Addr} {o:HO}:upd H a o a=some o:=by unfold upd;rw [if_pos rfl]
def qK {H:Hp} {a b:Addr} {o:HO} (h:b≠a):upd H a o b=H b:=by unfold upd;rw [if_neg h]
def qB {H:Hp} {a b:Addr} {o:HO} (h:H a=some o) (h':H b=none):a≠b:=by
 intro e;subst e;rw [h] at h';cases h'
section
variable (P:Program) (w:World)
def U1 (H:Hp) (h:Heap) (a:Addr):HO->Prop
 |.lst xs=>xs.length<=sizeLine/\∃ (its:List Value) (n:Nat),jk xs its/\h.get? a=some { cls:=.type "list",data:=.seq its.toArray n }
 |.tup xs=>xs.length<=sizeLine/\∃ its:List Value,jk xs its/\IsTup h a its.toArray
 |.dK kvs=>kvs.length<=sizeLine/\(a==sysModules)=false/\∃ vs,KV kvs vs/\h.DictOf (qb8 P w) a vs
 |.dT kvs=>kvs.length<=sizeLine/\(a==sysModules)=false/\∃ xs:List (List Key×Addr×Value),
   Paired (λ(p:List Key×V) (q:List Key×Addr×Value)=>p.1=q.1/\H q.2.1=some (.tup (p.1.map kV))/\jJ p.2 q.2.2) kvs xs /\
   ∃ o es ep,h.get? a=some o/\o.ExactDict/\o.data=.dict es ep/\es.toList=xs.map (entryOfKey (tupleKind (qb8 P w)))/\(xs.map (·.1)).Nodup
 |.set S n=>h.SetOf (intKind P w) a S n
 |.ins C dx fs=>H dx=some (.own a)/\fs.length<=1000/\dx≠a/\h.get? a=some (PySem.W.instObj C dx) /\
   ∃ mA,h.Ns1 dx mA/\(∀ f,qoF (fs.lookup f) (mA f))/\PySem.Within mA (fs.map (·.1))
 |.own _=>∃ o,h.get? a=some o
 |.xd fs=>∃ mA,h.Ns1 a mA/\∀ f,qoF (fs.lookup f) (mA f)
 |.rng lo hi=>∃ t u v,h.get? a=some { cls:=.type "range",data:=.fields #[.int lo t,.int hi u,.int 1 v] }
 |.frz o u=>h.get? a=some o/\U1 H h a u
 |.tbl ps=>h.get? a=some { cls:=.none,data:=.fields ps }
 |.met f x=>h.get? a=some (PySem.W.methodObj (.ref f) (.ref x))
 |.ext φ=>φ h/\(∃ o,h.get? a=some o)/\∀ h1 h2:Heap,φ h1->(∀ o,h1.get? a=some o->h2.get? a=some o)->φ h2
def HOk (H:Hp) (h:Heap):Prop:=∀ a o,H a=some o->U1 P w H h a o
end
section
variable {P:Program} {w:World} {H H':Hp} {h h':Heap} {a:Addr} {o:HO}
def U1.lt (x:U1 P w H h a o):a<h.objs.size:=by
 cases o with
 |lst xs=>obtain ⟨_,_,_,_,e⟩:=x;exact Heap.lt_size e
 |tup xs=>obtain ⟨_,_,_,p⟩:=x;exact p.lt
 |dK kvs=>obtain ⟨_,_,_,_,o,_,_,e,_⟩:=x;exact Heap.lt_size e
 |dT kvs=>obtain ⟨_,_,_,_,o,_,_,e,_⟩:=x;exact Heap.lt_size e
 |set S n=>obtain ⟨o,_,_,_,e,_⟩:=x;exact Heap.lt_size e
 |ins C dx fs=>obtain ⟨_,_,_,e,_⟩:=x;exact Heap.lt_size e
 |own y=>obtain ⟨_,e⟩:=x;exact Heap.lt_size e
 |xd fs=>obtain ⟨_,⟨_,_,_,e,_⟩,_⟩:=x;exact Heap.lt_size e
 |rng lo hi=>obtain ⟨_,_,_,e⟩:=x;exact Heap.lt_size e
 |frz ob u=>obtain ⟨e,_⟩:=x;exact Heap.lt_size e
 |tbl ps=>exact Heap.lt_size (show h.get? a=some _ from x)
 |met f y=>exact Heap.lt_size (show h.get? a=some _ from x)
 |ext φ=>obtain ⟨_,⟨_,e⟩,_⟩:=x;exact Heap.lt_size e
def Paired.mapP {α β:Type} {F G:α->β->Prop}:∀ {l₁:List α} {l₂:List β},Paired F l₁ l₂->(∀ a b,F a b->G a b)->Paired G l₁ l₂
 |_,_,.nil,_=>.nil
 |_,_,.cons r t,f=>.cons (f _ _ r) (Paired.mapP t f)
def U1.stay (x:U1 P w H h a o) (k:∀ b u,(b=a\/H b=some (.own a))->h.get? b=some u->h'.get? b=some u)
  (ho:∀ b,H b=some (.own a)->H' b=some (.own a)) (ht:∀ b xs,H b=some (.tup xs)->H' b=some (.tup xs)):U1 P w H' h' a o:=by
 induction o with
 |lst xs=>obtain ⟨z,its,n,r,e⟩:=x;exact ⟨z,its,n,r,k _ _ (.inl rfl) e⟩
 |tup xs=>obtain ⟨z,its,r,ob,e,c⟩:=x;exact ⟨z,its,r,ob,k _ _ (.inl rfl) e,c⟩
 |dK kvs=>obtain ⟨z,y,vs,r,ob,es,ep,e,c⟩:=x;exact ⟨z,y,vs,r,ob,es,ep,k _ _ (.inl rfl) e,c⟩
 |dT kvs=>
  obtain ⟨z,y,xs,r,ob,es,ep,e,c⟩:=x;exact ⟨z,y,xs,Paired.mapP r λp q z=>⟨z.1,ht _ _ z.2.1,z.2.2⟩,ob,es,ep,k _ _ (.inl rfl) e,c⟩
 |set S n=>obtain ⟨ob,es,ep,t,e,c⟩:=x;exact ⟨ob,es,ep,t,k _ _ (.inl rfl) e,c⟩
 |ins C dx fs=>
  obtain ⟨d,z,ne,e,mA,⟨od,es,ep,e2,c⟩,r⟩:=x;exact ⟨ho _ d,z,ne,k _ _ (.inl rfl) e,mA,⟨od,es,ep,k _ _ (.inr d) e2,c⟩,r⟩
 |own y=>obtain ⟨ob,e⟩:=x;exact ⟨ob,k _ _ (.inl rfl) e⟩
 |xd fs=>obtain ⟨mA,⟨od,es,ep,e,c⟩,r⟩:=x;exact ⟨mA,⟨od,es,ep,k _ _ (.inl rfl) e,c⟩,r⟩
 |rng lo hi=>obtain ⟨t,u,v,e⟩:=x;exact ⟨t,u,v,k _ _ (.inl rfl) e⟩
 |frz ob u ih=>obtain ⟨e,q⟩:=x;exact ⟨k _ _ (.inl rfl) e,ih q⟩
 |tbl ps=>
  have e:h.get? a=some { cls:=.none,data:=.fields ps }:=x;show h'.get? a=some { cls:=.none,data:=.fields ps };exact k a _ (.inl rfl) e
 |met f y=>
  have e:h.get? a=some (PySem.W.methodObj (.ref f) (.ref y)):=x;show h'.get? a=some (PySem.W.methodObj (.ref f) (.ref y));exact k a _ (.inl rfl) e
 |ext φ=>obtain ⟨p,⟨o,e⟩,st⟩:=x;exact ⟨st _ _ p λo q=>k _ _ (.inl rfl) q,⟨o,k _ _ (.inl rfl) e⟩,st⟩
def HOk.lt (x:HOk P w H h) (e:H a=some o):a<h.objs.size:=(x a o e).lt
def HOk.fresh (x:HOk P w H h) (e:h.objs.size<=a):H a=none:=by
 cases q:H a with
 |none=>rfl
 |some u=>exact absurd (Nat.lt_of_lt_of_le (x.lt q) e) (Nat.lt_irrefl _)
def HOk.kept (x:HOk P w H h) (k:∀ b u,h.get? b=some u->h'.get? b=some u):HOk P w H h':=λa o e=>
 (x a o e).stay (λb u _ q=>k b u q) (λ_ q=>q) λ_ _ q=>q
def HOk.laid (x:HOk P w H h) (k:∀ b u,h.get? b=some u->h'.get? b=some u) (hp:h.objs.size<=a) (new:U1 P w (upd H a o) h' a o):HOk P w (upd H a o) h':=λb u e=>by
 have hn:=x.fresh hp;by_cases hb:b=a
 ·subst hb;rw [zf] at e;cases e;exact new
 ·rw [qK hb] at e;exact (x b u e).stay (λc v _ q=>k c v q) (λc q=>by rw [qK (qB q hn)];exact q) λc xs q=>by rw [qK (qB q hn)];exact q
end
def Rd (H:Hp) (a:Addr) (u:HO):Prop:=H a=some u\/∃ o,H a=some (.frz o u)
def Rd.ok {P:Program} {w:World} {H:Hp} {h:Heap} {a:Addr} {u:HO} (r:Rd H a u) (x:HOk P w H h):U1 P w H h a u:=by
 rcases r with r|⟨o,r⟩
 ·exact x a u r
 ·obtain ⟨_,q⟩:=x a _ r;exact q
def Mut:Option HO->Prop
 |some (.lst _)=>True
 |some (.dK _)=>True
 |some (.dT _)=>True
 |some (.set _ _)=>True
 |some (.ins _ _ _)=>True
 |some (.ext _)=>True
 |_=>False
section
variable {P:Program} {w:World} {H:Hp} {h h':Heap} {x e:Addr} {o':HO}
def HOk.write (ok:HOk P w H h) (mu:Mut (H x)) (he:e=x\/H e=some (.own x)) (k:∀ b u,b≠e->h.get? b=some u->h'.get? b=some u) (heo:∃ u,h'.get? e=some u)
  (new:U1 P w (upd H x o') h' x o'):HOk P w (upd H x o') h':=λb u q=>by
 have nown:∀ c y,H c=some (.own y)->c≠x:=λc y r z=>by subst z;rw [r] at mu;exact mu
 have ntup:∀ c xs,H c=some (.tup xs)->c≠x:=λc xs r z=>by subst z;rw [r] at mu;exact mu
 by_cases hb:b=x
 ·subst hb;rw [zf] at q;cases q;exact new
 ·rw [qK hb] at q;by_cases hbe:b=e
  ·have q':H b=some (.own x):=by
    rcases he with z|z
    ·exact absurd (hbe.trans z) hb
    ·rw [hbe];exact z
   rw [q] at q';cases q';obtain ⟨v,hv⟩:=heo;exact ⟨v,by rw [hbe];exact hv⟩
  ·refine (ok b u q).stay (λc v hc r=>k c v ?_ r) (λc r=>by rw [qK (nown c b r)];exact r) λc xs r=>by rw [qK (ntup c xs r)];exact r
   rcases hc with rfl|hc
   ·exact hbe
   ·rintro rfl;rcases he with z|z
    ·exact nown c b hc z
    ·rw [hc] at z;cases z;exact hb rfl
end
structure Un (fs ex:List Addr) (H H':Hp) (h h':Heap):Prop where
 keep:∀ b o,h.get? b=some o->H b=none->b∉fs->b∉ex->h'.get? b=some o
 slot:∀ b o,h.get? b=some o->H b=none->b∈fs->b∉ex->∃ sl,h'.get? b=some { o with slots:=sl }
 free:∀ b o,h.get? b=some o->H b=none->b∉ex->H' b=none
 there:∀ b o,h.get? b=some o->b∉ex->∃ o',h'.get? b=some o'
 tups:∀ b xs,H b=some (.tup xs)->H' b=some (.tup xs)
 frzs:∀ b o u,H b=some (.frz o u)->H' b=some (.frz o u)
 tbls:∀ b ps,H b=some (.tbl ps)->∃ more,H' b=some (.tbl (ps++more))
section
variable {fs fs' ex ex':List Addr} {H H1 H2:Hp} {h h1 h2 h':Heap} {a x e:Addr} {o:HO}
def Un.any (u:Un fs ex H H1 h h1) {b:Addr} {ob:Obj} (q:h.get? b=some ob) (n:H b=none) (hx:b∉ex):∃ sl,h1.get? b=some { ob with slots:=sl }:=by
 by_cases hb:b∈fs
 ·exact u.slot b ob q n hb hx
 ·exact ⟨ob.slots,u.keep b ob q n hb hx⟩
def Un.kept (k:∀ b u,h.get? b=some u->h'.get? b=some u):Un fs ex H H h h':=
 ⟨λb ob q _ _ _=>k b ob q,λb ob q _ _ _=>⟨ob.slots,k b ob q⟩,λ_ _ _ n _=>n,λb ob q _=>⟨ob,k b ob q⟩,λ_ _ q=>q,λ_ _ _ q=>q,λ_ ps q=>⟨#[],by rw [q];simp⟩⟩
def Un.refl:Un fs ex H H h h:=Un.kept λ_ _ q=>q
def Un.laid (k:∀ b u,h.get? b=some u->h'.get? b=some u) (hp:h.objs.size<=a) (hn:H a=none):Un fs ex H (upd H a o) h h' where
 keep:=λb u q _ _ _=>k b u q
 slot:=λb u q _ _ _=>⟨u.slots,k b u q⟩
 free:=λb u q n _=>by rw [qK (Nat.ne_of_lt (Nat.lt_of_lt_of_le (Heap.lt_size q) hp))];exact n
 there:=λb u q _=>⟨u,k b u q⟩
 tups:=λb xs q=>by rw [qK (qB q hn)];exact q
 frzs:=λb u xs q=>by rw [qK (qB q hn)];exact q
 tbls:=λb ps q=>⟨#[],by rw [qK (qB q hn),q];simp⟩
def Un.write (mu:Mut (H x)) (he:e=x\/H e=some (.own x)) (k:∀ b u,b≠e->h.get? b=some u->h'.get? b=some u) (heo:∃ u,h'.get? e=some u):Un fs ex H (upd H x o) h h':=by
 have hx:∀ b,H b=none->b≠x:=λb n z=>by subst z;rw [n] at mu;exact mu
 have hb:∀ b,H b=none->b≠e:=λb n z=>by
  subst z;rcases he with r|r
  ·exact hx b n r
  ·rw [n] at r;cases r
 have hm:∀ b u,H b=some u->¬ Mut (some u)->b≠x:=λb u q nm z=>by subst z;rw [q] at mu;exact nm mu
 refine ⟨λb u q n _ _=>k b u (hb b n) q,λb u q n _ _=>⟨u.slots,k b u (hb b n) q⟩,λb u q n _=>by rw [qK (hx b n)];exact n,λb u q _=>?_,
  λb xs q=>by rw [qK (hm b _ q λz=>z)];exact q,λb u xs q=>by rw [qK (hm b _ q λz=>z)];exact q,λb ps q=>⟨#[],by rw [qK (hm b _ q λz=>z),q];simp⟩⟩
 by_cases hbe:b=e
 ·subst hbe;exact heo
 ·exact ⟨u,k b u hbe q⟩
end
def trk (h:Heap) (H:Hp):List Addr:=(List.range h.objs.size).filter λa=>(H a).isSome
def qcW (h:Heap) (H:Hp):Heap:=PySem.W.hideAll h (trk h H)
def qce (h:Heap) (H:Hp):(qcW h H).objs.size=h.objs.size:=PySem.W.hideAll_size _ _
def qcN {h:Heap} {H:Hp} {b:Addr} {o:Obj} (e:h.get? b=some o) (n:H b=none):(qcW h H).get? b=some o:=
 PySem.W.hideAll_get _ e λhm=>by
  have q:(H b).isSome=true:=(List.mem_filter.mp hm).2;rw [n] at q;simp at q
def qhE {h:Heap} {H:Hp} {b:Addr} {o:Obj} (e:(qcW h H).get? b=some o):h.get? b=some o/\H b=none:=by
 have e':h.get? b=some o:=PySem.W.of_hideAll (trk h H) e;refine ⟨e',?_⟩;cases q:H b with
 |none=>rfl
 |some x=>
  have hm:b∈trk h H:=List.mem_filter.mpr ⟨mem_range.mpr (Heap.lt_size e'),by simp [q]⟩;have z:(qcW h H).get? b=none:=PySem.W.hideAll_none (trk h H) hm;rw [z] at e;cases e
def qgg (g h:Heap) (L:Addr):List (Addr×Obj):=(List.range h.objs.size).filterMap λa=>if a=L\/(g.get? a).isSome=true then none else (h.get? a).map λo=>(a,o)
def ZB (g h:Heap) (L d:Addr):List (Addr×Obj):=(qgg g h L).filter λp=>decide (p.1≠d)
structure Mod (K:Frg) (mg:Str->Option Value) (base:Heap):Prop where
 kin:K.In base
 glob:base.Ns mainGlobals mg
 blt:∃ mb,base.Ns builtinsNs mb/\∀ x:Str,x≠"__name__" -> mb x=bootBuiltins x
 nolimit:base.NoLimit
structure Cx where
 prog:Program
 w:World
 K:PySem.W.Frag
 mg:Str->Option Value
 base:Heap
 A:Around
 N:List Str
 s₀:Shared
 H₀:Hp
 env:Env
 outer:List Env
 stack:List Env
 ex:List Addr
 fn:Str->Bool
 calm:Bool
 pn:List (Addr×Obj)
 xe:Value->Shared->Prop
def frs (l:List Env):List Addr:=l.filterMap (·.frame)
abbrev Cx.fs (X:Cx):List Addr:=frs X.outer
def Vis (sc:Scope) (x:Str):Prop:=sc.names.lookup x=some .local\/sc.names.lookup x=some .cell\/sc.names.lookup x=some .free
def Loc (sc:Scope) (x:Str):Prop:=sc.names.lookup x=some .local\/sc.names.lookup x=some .cell
def qpw (env:Env) (h:Heap) (m:Str->Option Value) (x:Str) (u:Value):Prop:=
 (env.kindOf x=some .local/\m x=some u)\/((env.kindOf x=some .cell\/env.kindOf x=some .free)/\∃ c,env.cells.lookup x=some c/\h.IsCell c (some u))
structure Cx.Ok (X:Cx):Prop where
 mod:Mod X.K X.mg X.base
 kind:X.env.scope.kind=.function
 glob:X.env.globals=mainGlobals
 blt:X.env.builtins=builtinsNs
 above:X.s₀.heap.objs.size<=X.env.locals
 inj:∀ x y c,X.env.cells.lookup x=some c->X.env.cells.lookup y=some c->x=y
 has:∀ x,(X.env.kindOf x=some .cell\/X.env.kindOf x=some .free)->∃ c,X.env.cells.lookup x=some c
 cab:∀ x c,X.fn x=true->X.env.cells.lookup x=some c->X.s₀.heap.objs.size<=c
 hd:X.calm=true->X.A.handled=none
 frames:X.A.frames=some X.stack
 stk:X.stack=X.outer\/(X.stack=X.env::X.outer/\X.env.frame=some X.env.locals)
 exf:∀ b∈X.ex,b≠X.env.locals/\∀ x c,X.env.cells.lookup x=some c->c≠b
 bs:∀ b o,X.base.get? b=some o->X.s₀.heap.get? b=some o/\X.H₀ b=none
 bsz:X.base.objs.size<=X.s₀.heap.objs.size
 noex:∀ b o,X.base.get? b=some o->b∉X.ex
 exfs:∀ b∈X.ex,b∉X.fs
 funs:X.s₀.heap.FunFrames X.base X.outer
 frf:∀ b∈X.fs,X.H₀ b=none
structure Inv (X:Cx) (pins:List (Addr×Obj)) (σ:List (Option V)) (H:Hp) (s:Shared):Prop where
 ok:X.Ok
 os:s.os=X.s₀.os
 bare:AllBare s.gens
 base:Un X.fs X.ex X.H₀ H X.s₀.heap s.heap
 loc:∃ m,s.heap.Ns X.env.locals m/\∀ (i:Nat) (x:Str) (v:V),X.N[i]?=some x->σ[i]?=some (some v)->Vis X.env.scope x->∃ u,jJ v u/\qpw X.env s.heap m x u
 cell:∀ x c,X.env.cells.lookup x=some c->∃ v,s.heap.IsCell c v
 free:H X.env.locals=none
 freeC:∀ x c,X.env.cells.lookup x=some c->H c=none
 pin:∀ p∈X.pn++pins,s.heap.get? p.1=some p.2/\H p.1=none/\p.1≠X.env.locals/\p.1∉X.fs/\∀ v,p.2.data≠.cell v
 hok:HOk X.prog X.w H s.heap
 len:σ.length=X.N.length
section
variable {X:Cx} {pins:List (Addr×Obj)} {σ:List (Option V)} {H H':Hp} {s:Shared} {h':Heap}
def Cx.Ok.nofr (ok:X.Ok) {b:Addr} {o:Obj} (e:X.base.get? b=some o):b∉X.fs:=λhb=>by
 have:=(ok.funs.mem hb).1;rw [e] at this;cases this
def Inv.bs (I:Inv X pins σ H s):∀ b o,X.base.get? b=some o->s.heap.get? b=some o/\H b=none:=λb o e=>
 ⟨I.base.keep b o (I.ok.bs b o e).1 (I.ok.bs b o e).2 (I.ok.nofr e) (I.ok.noex b o e),I.base.free b o (I.ok.bs b o e).1 (I.ok.bs b o e).2 (I.ok.noex b o e)⟩
def Inv.bk (I:Inv X pins σ H s):∀ b o,X.base.get? b=some o->s.heap.get? b=some o:=λb o e=>(I.bs b o e).1
def Inv.mod (I:Inv X pins σ H s):Mod X.K X.mg X.base:=I.ok.mod
def Inv.kIn (I:Inv X pins σ H s):X.K.In s.heap:=I.ok.mod.kin.keeps I.bk
def Inv.nolimit (I:Inv X pins σ H s):s.heap.NoLimit:=I.ok.mod.nolimit.keeps I.bk
def Inv.fr (I:Inv X pins σ H s):∃ m,Fr X.base X.env.locals s.heap m:=
 let ⟨m,hn,_⟩:=I.loc
 ⟨m,hn,I.bk,Nat.le_trans I.ok.bsz I.ok.above⟩
def Inv.lt (I:Inv X pins σ H s):X.env.locals<s.heap.objs.size:=let ⟨_,hn,_⟩:=I.loc;hn.lt
def Inv.sz (I:Inv X pins σ H s):X.s₀.heap.objs.size<=s.heap.objs.size:=Nat.le_trans I.ok.above (Nat.le_of_lt I.lt)
def Inv.nofs (I:Inv X pins σ H s) {a:Addr} (h:s.heap.objs.size<=a):a∉X.fs:=λhb=>by
 obtain ⟨_,o,ho,_⟩:=I.ok.funs.mem hb;exact absurd (Nat.lt_of_lt_of_le (Heap.lt_size ho) (Nat.le_trans I.sz h)) (Nat.lt_irrefl _)
def Inv.cne (I:Inv X pins σ H s):∀ x c,X.env.cells.lookup x=some c->c≠X.env.locals:=λx c e z=>by
 obtain ⟨v,o,ho,hd⟩:=I.cell x c e;obtain ⟨m,⟨o',es,ep,ho',hd',_⟩,_⟩:=I.loc;rw [z,ho'] at ho;cases ho;rw [hd'] at hd;cases hd
def Inv.funs (I:Inv X pins σ H s):s.heap.FunFrames X.base X.outer:=by
 have all:∀ (l:List Env),(∀ b∈frs l,b∈X.fs)->X.s₀.heap.FunFrames X.base l->s.heap.FunFrames X.base l:=by
  intro l;induction l with
  |nil=>intro _ _;trivial
  |cons env r ih=>
   intro hs hl;obtain ⟨hk,⟨L,o,hf,hn,ho,hd⟩,hr⟩:=hl;have hL:L∈X.fs:=hs L (by unfold frs;rw [List.filterMap_cons,hf];exact List.mem_cons_self);obtain ⟨sl,e⟩:=I.base.slot L o ho (I.ok.frf L hL) hL λz=>I.ok.exfs L z hL;exact ⟨hk,⟨L,_,hf,hn,e,hd⟩,ih (λb hb=>hs b (by unfold frs;rw [List.filterMap_cons,hf];exact List.mem_cons_of_mem _ hb)) hr⟩
 exact all X.outer (λ_ hb=>hb) I.ok.funs
def Inv.stack (I:Inv X pins σ H s):s.heap.FunFrames X.base X.stack:=by
 rcases I.ok.stk with e|⟨e,hf⟩
 ·rw [e];exact I.funs
 ·rw [e];obtain ⟨m,hn,_⟩:=I.loc;refine .cons (by rw [I.ok.kind];decide) hf hn ?_ I.funs;exact Heap.get?_none_of_le (Nat.le_trans I.ok.bsz I.ok.above)
def Inv.stkSub (I:Inv X pins σ H s):∀ b∈frs X.stack,b∈X.env.locals::X.fs:=λb hb=>by
 rcases I.ok.stk with e|⟨e,hf⟩
 ·rw [e] at hb;exact List.mem_cons_of_mem _ hb
 ·rw [e] at hb;unfold frs at hb;rw [List.filterMap_cons,hf] at hb;exact hb
def Inv.stkFree (I:Inv X pins σ H s):∀ b∈frs X.stack,H b=none:=λb hb=>by
 rcases mem_cons.mp (I.stkSub b hb) with e|hb
 ·rw [e];exact I.free
 ·obtain ⟨_,o,ho,_⟩:=I.ok.funs.mem hb;exact I.base.free b o ho (I.ok.frf b hb) λz=>I.ok.exfs b z hb
def Inv.step {g':Array GenState} {t':Nat} {d':Drawn} {ch:List Addr} (I:Inv X pins σ H s)
  (hch:∀ b∈ch,(b∈X.ex\/X.s₀.heap.objs.size<=b)/\b≠X.env.locals/\(∀ x c,X.env.cells.lookup x=some c->c≠b)/\∀ p∈X.pn++pins,p.1≠b)
  (keep:∀ b o,b≠X.env.locals->b∉X.fs->b∉ch->s.heap.get? b=some o->H b=none->h'.get? b=some o)
  (slot:∀ b o,b≠X.env.locals->b∈X.fs->b∉ch->s.heap.get? b=some o->H b=none->∃ sl,h'.get? b=some { o with slots:=sl }) (free:∀ b o,b∉ch->s.heap.get? b=some o->H b=none->H' b=none)
  (there:∀ b o,b∉ch->s.heap.get? b=some o->∃ o',h'.get? b=some o')
  (tups:∀ b xs,H b=some (.tup xs)->H' b=some (.tup xs)) (frzs:∀ b o u,H b=some (.frz o u)->H' b=some (.frz o u)) (tbls:∀ b ps,H b=some (.tbl ps)->∃ more,H' b=some (.tbl (ps++more)))
  (ns:∀ m,s.heap.Ns X.env.locals m->h'.Ns X.env.locals m) (hok:HOk X.prog X.w H' h') (hg:AllBare g') :
  Inv X pins σ H' { s with heap:=h',gens:=g',drawn:=d',toks:=t' }:=by
 have neL:∀ b o,X.s₀.heap.get? b=some o->b≠X.env.locals:=λb o e=>Nat.ne_of_lt (Nat.lt_of_lt_of_le (Heap.lt_size e) I.ok.above);have neC:∀ b o,X.s₀.heap.get? b=some o->b∉X.ex->b∉ch:=λb o e hx hb=>by
  rcases (hch b hb).1 with z|z
  ·exact hx z
  ·exact absurd (Nat.lt_of_lt_of_le (Heap.lt_size e) z) (Nat.lt_irrefl _)
 have cellK:∀ x c,X.env.cells.lookup x=some c->∀ v,s.heap.IsCell c v->h'.IsCell c v:=λx c e v ⟨o,ho,hd⟩=>by
  have nch:c∉ch:=λz=>(hch c z).2.2.1 x c e rfl;by_cases hc:c∈X.fs
  ·obtain ⟨sl,q⟩:=slot c o (I.cne x c e) hc nch ho (I.freeC x c e);exact ⟨_,q,hd⟩
  ·exact ⟨o,keep c o (I.cne x c e) hc nch ho (I.freeC x c e),hd⟩
 refine ⟨I.ok,I.os,hg,⟨λb o e n hb hx=>?_,λb o e n hb hx=>?_,λb o e n hx=>?_,λb o e hx=>?_,λb xs e=>tups b xs (I.base.tups b xs e),λb o xs e=>frzs b o xs (I.base.frzs b o xs e),λb ps e=>?_⟩,?_,λx c e=>?_,?_,λx c e=>?_,λp hp=>?_,hok,I.len⟩
 ·exact keep b o (neL b o e) hb (neC b o e hx) (I.base.keep b o e n hb hx) (I.base.free b o e n hx)
 ·obtain ⟨sl,e1⟩:=I.base.slot b o e n hb hx;obtain ⟨sl',e2⟩:=slot b _ (neL b o e) hb (neC b o e hx) e1 (I.base.free b o e n hx);exact ⟨sl',e2⟩
 ·obtain ⟨o',e1⟩:=I.base.there b o e hx;exact free b o' (neC b o e hx) e1 (I.base.free b o e n hx)
 ·obtain ⟨o',e1⟩:=I.base.there b o e hx;exact there b o' (neC b o e hx) e1
 ·obtain ⟨m1,e1⟩:=I.base.tbls b ps e;obtain ⟨m2,e2⟩:=tbls b _ e1;exact ⟨m1++m2,by rw [e2,Array.append_assoc]⟩
 ·obtain ⟨m,hn,hl⟩:=I.loc;refine ⟨m,ns m hn,λi x v e1 e2 e3=>?_⟩;obtain ⟨u,r,l⟩:=hl i x v e1 e2 e3;refine ⟨u,r,?_⟩;rcases l with l|⟨k,c,e,z⟩
  ·exact .inl l
  ·exact .inr ⟨k,c,e,cellK x c e _ z⟩
 ·obtain ⟨v,z⟩:=I.cell x c e;exact ⟨v,cellK x c e v z⟩
 ·obtain ⟨m,⟨o,_,_,ho,_⟩,_⟩:=I.loc;exact free _ o (λz=>(hch _ z).2.1 rfl) ho I.free
 ·obtain ⟨v,o,ho,hd⟩:=I.cell x c e;exact free c o (λz=>(hch c z).2.2.1 x c e rfl) ho (I.freeC x c e)
 ·obtain ⟨e,n,ne,nf,d⟩:=I.pin p hp;have nch:p.1∉ch:=λz=>(hch p.1 z).2.2.2 p hp rfl;exact ⟨keep p.1 p.2 ne nf nch e n,free p.1 p.2 nch e n,ne,nf,d⟩
def Inv.un {t':Nat} (I:Inv X pins σ H s) (u:Un X.fs [] H H' s.heap h') (hok:HOk X.prog X.w H' h'):Inv X pins σ H' { s with heap:=h',toks:=t' }:=by
 obtain ⟨m,⟨o,es,ep,ho,r⟩,_⟩:=id I.loc;obtain ⟨sl,hL⟩:=u.any ho I.free (by simp);exact I.step (g':=s.gens) (d':=s.drawn) (ch:=[]) (λ_ z=>nomatch z) (λb o _ hb _ e n=>u.keep b o e n hb (by simp)) (λb o _ hb _ e n=>u.slot b o e n hb (by simp)) (λb o _ e n=>u.free b o e n (by simp)) (λb o _ e=>u.there b o e (by simp)) u.tups u.frzs u.tbls (λm' hm=>by
  obtain ⟨o',es',ep',ho',r'⟩:=hm;rw [ho] at ho';cases ho';exact ⟨_,es',ep',hL,r'⟩) hok I.bare
def Inv.call {g':Array GenState} {t':Nat} {d':Drawn} {ch:List Addr} (I:Inv X pins σ H s) (u:Un (frs X.stack) ch H H' s.heap h') (hok:HOk X.prog X.w H' h') (hg:AllBare g')
  (hch:∀ b∈ch,(b∈X.ex\/X.s₀.heap.objs.size<=b)/\b≠X.env.locals/\(∀ x c,X.env.cells.lookup x=some c->c≠b)/\∀ p∈X.pn++pins,p.1≠b) :
  Inv X pins σ H' { s with heap:=h',gens:=g',drawn:=d',toks:=t' }:=by
 obtain ⟨m,⟨o,es,ep,ho,r⟩,_⟩:=id I.loc;obtain ⟨sl,hL⟩:=u.any ho I.free λz=>(hch _ z).2.1 rfl;exact I.step (ch:=ch) hch (λb o hL hb hc e n=>u.keep b o e n (λz=>(mem_cons.mp (I.stkSub b z)).elim hL hb) hc) (λb o _ _ hc e n=>u.any e n hc) (λb o hc e n=>u.free b o e n hc) (λb o hc e=>u.there b o e hc) u.tups u.frzs u.tbls (λm' hm=>by
  obtain ⟨o',es',ep',ho',r'⟩:=hm;rw [ho] at ho';cases ho';exact ⟨_,es',ep',hL,r'⟩) hok hg
def Inv.turned {t':Nat} {it:Addr} (I:Inv X pins σ H s) (k:∀ b o,b≠it->s.heap.get? b=some o->h'.get? b=some o) (hn:H it=none) (hL:it≠X.env.locals)
  (h1:it∈X.ex\/X.s₀.heap.objs.size<=it) (h2:∀ x c,X.env.cells.lookup x=some c->c≠it) (h3:∀ p∈X.pn++pins,p.1≠it):Inv X pins σ H { s with heap:=h',toks:=t' }:=by
 have nit:∀ b u,H b=some u->b≠it:=λb u e z=>by rw [z,hn] at e;cases e
 refine I.step (g':=s.gens) (d':=s.drawn) (ch:=[it]) (λb hb=>?_) (λb o _ _ hc e _=>k b o (λz=>hc (by simp [z])) e) (λb o _ _ hc e _=>⟨o.slots,k b o (λz=>hc (by simp [z])) e⟩) (λ_ _ _ _ n=>n)
  (λb o hc e=>⟨o,k b o (λz=>hc (by simp [z])) e⟩) (λ_ _ e=>e) (λ_ _ _ e=>e) (λb ps e=>⟨#[],by rw [e];simp⟩) (λm hm=>?_) (λb u e=>?_) I.bare
 ·have e:b=it:=by simpa using hb
  subst e;exact ⟨h1,hL,h2,h3⟩
 ·obtain ⟨o,es,ep,ho,r⟩:=hm;exact ⟨o,es,ep,k _ o (Ne.symm hL) ho,r⟩
 ·refine (I.hok b u e).stay (λc v hc q=>k c v ?_ q) (λ_ q=>q) λ_ _ q=>q;rcases hc with z|z
  ·rw [z];exact nit b u e
  ·exact nit c _ z
def Inv.tok (I:Inv X pins σ H s) (t:Nat):Inv X pins σ H { s with toks:=t }:=I.un (h':=s.heap) (t':=t) Un.refl I.hok
def Inv.kept {t':Nat} (I:Inv X pins σ H s) (k:∀ b u,s.heap.get? b=some u->h'.get? b=some u):Inv X pins σ H { s with heap:=h',toks:=t' }:=I.un (Un.kept k) (I.hok.kept k)
def Inv.laid {a:Addr} {o:HO} {t':Nat} (I:Inv X pins σ H s) (k:∀ b u,s.heap.get? b=some u->h'.get? b=some u) (hp:s.heap.objs.size<=a) (new:U1 X.prog X.w (upd H a o) h' a o) :
  Inv X pins σ (upd H a o) { s with heap:=h',toks:=t' }:=I.un (Un.laid k hp (I.hok.fresh hp)) (I.hok.laid k hp new)
def Inv.write {x e:Addr} {o:HO} {t':Nat} (I:Inv X pins σ H s) (mu:Mut (H x)) (he:e=x\/H e=some (.own x)) (k:∀ b u,b≠e->s.heap.get? b=some u->h'.get? b=some u) (heo:∃ u,h'.get? e=some u)
  (new:U1 X.prog X.w (upd H x o) h' x o):Inv X pins σ (upd H x o) { s with heap:=h',toks:=t' }:=I.un (Un.write mu he k heo) (I.hok.write mu he k heo new)
def Inv.pins_of {pins':List (Addr×Obj)} (I:Inv X pins σ H s) (h:∀ p∈pins',s.heap.get? p.1=some p.2/\H p.1=none/\p.1≠X.env.locals/\p.1∉X.fs/\∀ v,p.2.data≠.cell v):Inv X pins' σ H s:=
 ⟨I.ok,I.os,I.bare,I.base,I.loc,I.cell,I.free,I.freeC,λp hp=>(List.mem_append.mp hp).elim (λz=>I.pin p (List.mem_append_left _ z)) (h p),I.hok,I.len⟩
def MW {N:List Str} (hN:N.Nodup) {i j:Nat} {x:Str} (a:N[i]?=some x) (b:N[j]?=some x):i=j:=by
 obtain ⟨h1,e1⟩:=List.getElem?_eq_some_iff.mp a;obtain ⟨h2,e2⟩:=List.getElem?_eq_some_iff.mp b;exact (List.getElem_inj hN).mp (e1.trans e2.symm)
def TV {M:Model} {A:Around} {E:Value->Shared->Prop} {i:Nat} {x:Str} {v:V} {u:Value} {Q:Unit->Shared->Prop} (I:Inv X pins σ H s) (hN:X.N.Nodup) (hi:X.N[i]?=some x) (hx:Loc X.env.scope x) (r:jJ v u)
  (h:∀ s',Inv X pins (σ.set i (some v)) H s'->(∃ a,Heap.SameBut a s.heap s'.heap/\(a=X.env.locals\/X.env.cells.lookup x=some a))->Q () s') (hf:X.fn x=true\/X.env.scope.names.lookup x=some .local:=by first|exact .inl rfl|exact .inr rfl|assumption):wpAny M A (storeName X.env x u) Q E s:=by
 obtain ⟨m,hn,hl⟩:=id I.loc;have hcls:(X.env.scope.kind==.class||(X.env.scope.kind==.module&&X.env.locals != X.env.globals))=false:=by rw [I.ok.kind];rfl
 have hiσ:i<σ.length:=by rw [I.len];exact (List.getElem?_eq_some_iff.mp hi).1
 have cne:=I.cne;have tracked:∀ {a:Addr} {h':Heap},(∃ o,s.heap.get? a=some o/\H a=none)->Heap.SameBut a s.heap h'->HOk X.prog X.w H h':=λ{a h'} ha hs b ob e=>by
  obtain ⟨_,_,hfree⟩:=ha;refine (I.hok b ob e).stay (λc w' hc q=>(hs.2 c ?_).trans q) (λ_ q=>q) λ_ _ q=>q;rintro rfl;rcases hc with rfl|hc
  ·rw [hfree] at e;cases e
  ·rw [hfree] at hc;cases hc
 rcases hx with hk|hk
 ·refine wpAny_storeName_local hk hn (λh' hn' hs=>?_) hcls;obtain ⟨oL,_,_,hoL,_⟩:=id hn;refine h _ ⟨I.ok,I.os,I.bare,⟨λb o e n hb hx=>?_,λb o e n hb hx=>?_,I.base.free,λb o e hx=>?_,I.base.tups,I.base.frzs,I.base.tbls⟩,⟨_,hn',λj y v' e1 e2 e3=>?_⟩,λy c e=>?_,I.free,I.freeC,λp hp=>?_,tracked ⟨oL,hoL,I.free⟩ hs,by simpa using I.len⟩ ⟨_,hs,.inl rfl⟩
  ·exact (hs.2 b (Nat.ne_of_lt (Nat.lt_of_lt_of_le (Heap.lt_size e) I.ok.above))).trans (I.base.keep b o e n hb hx)
  ·obtain ⟨sl,e1⟩:=I.base.slot b o e n hb hx;exact ⟨sl,(hs.2 b (Nat.ne_of_lt (Nat.lt_of_lt_of_le (Heap.lt_size e) I.ok.above))).trans e1⟩
  ·obtain ⟨o',e1⟩:=I.base.there b o e hx;exact ⟨o',(hs.2 b (Nat.ne_of_lt (Nat.lt_of_lt_of_le (Heap.lt_size e) I.ok.above))).trans e1⟩
  ·by_cases hj:j=i
   ·subst hj;rw [hi] at e1;cases e1;rw [List.getElem?_set_self hiσ] at e2;cases e2;exact ⟨u,r,.inl ⟨hk,by simp⟩⟩
   ·rw [List.getElem?_set_ne (Ne.symm hj)] at e2;obtain ⟨u',r',q⟩:=hl j y v' e1 e2 e3;refine ⟨u',r',?_⟩;rcases q with ⟨k,e⟩|⟨k,c,e,z⟩
    ·refine .inl ⟨k,?_⟩;have:y≠x:=λe=>hj (MW hN e1 (e▸hi));simp [this,e]
    ·exact .inr ⟨k,c,e,z.sameBut hs (cne y c e)⟩
  ·obtain ⟨w',z⟩:=I.cell y c e;exact ⟨w',z.sameBut hs (cne y c e)⟩
  ·obtain ⟨e,n,ne,nf,d⟩:=I.pin p hp;exact ⟨(hs.2 p.1 ne).trans e,n,ne,nf,d⟩
 ·have hfn:X.fn x=true:=by
   rcases hf with z|z
   ·exact z
   ·rw [z] at hk;cases hk
  obtain ⟨c,hc⟩:=I.ok.has x (.inl hk);obtain ⟨w',z⟩:=I.cell x c hc;refine wpAny_storeName_cell I.ok.kind hk hc z (λh' hc' hs=>?_);obtain ⟨oc,hoc,hocd⟩:=id z;refine h { s with heap:=h' } ⟨I.ok,I.os,I.bare,⟨λb o e n hb hx=>?_,λb o e n hb hx=>?_,I.base.free,λb o e hx=>?_,I.base.tups,I.base.frzs,I.base.tbls⟩,⟨m,hn.sameBut hs (Ne.symm (cne x c hc)),λj y v' e1 e2 e3=>?_⟩,λy c' e=>?_,I.free,I.freeC,λp hp=>?_,tracked ⟨oc,hoc,I.freeC x c hc⟩ hs,by simpa using I.len⟩ ⟨c,hs,.inr hc⟩
  ·exact (hs.2 b (Nat.ne_of_lt (Nat.lt_of_lt_of_le (Heap.lt_size e) (I.ok.cab x c hfn hc)))).trans (I.base.keep b o e n hb hx)
  ·obtain ⟨sl,e1⟩:=I.base.slot b o e n hb hx;exact ⟨sl,(hs.2 b (Nat.ne_of_lt (Nat.lt_of_lt_of_le (Heap.lt_size e) (I.ok.cab x c hfn hc)))).trans e1⟩
  ·obtain ⟨o',e1⟩:=I.base.there b o e hx;exact ⟨o',(hs.2 b (Nat.ne_of_lt (Nat.lt_of_lt_of_le (Heap.lt_size e) (I.ok.cab x c hfn hc)))).trans e1⟩
  ·by_cases hj:j=i
   ·subst hj;rw [hi] at e1;cases e1;rw [List.getElem?_set_self hiσ] at e2;cases e2;exact ⟨u,r,.inr ⟨.inl hk,c,hc,hc'⟩⟩
   ·rw [List.getElem?_set_ne (Ne.symm hj)] at e2;obtain ⟨u',r',q⟩:=hl j y v' e1 e2 e3;refine ⟨u',r',?_⟩;rcases q with q|⟨k,c',e,z'⟩
    ·exact .inl q
    ·refine .inr ⟨k,c',e,z'.sameBut hs ?_⟩;rintro rfl;exact hj (MW hN e1 (I.ok.inj _ _ _ e hc▸hi))
  ·by_cases hcc:c'=c
   ·subst hcc;exact ⟨_,hc'⟩
   ·obtain ⟨w2,z2⟩:=I.cell y c' e;exact ⟨w2,z2.sameBut hs hcc⟩
  ·obtain ⟨e,n,ne,nf,d⟩:=I.pin p hp;refine ⟨(hs.2 p.1 ?_).trans e,n,ne,nf,d⟩;intro q;rw [q,hoc] at e;have q':oc=p.2:=Option.some.inj e;exact d w' (by rw [← q'];exact hocd)
def UP {M:Model} {A:Around} {E:Value->Shared->Prop} {i:Nat} {x:Str} {v:V} {u:Value} {Q:Unit->Shared->Prop} (I:Inv X pins σ H s) (hN:X.N.Nodup) (hi:X.N[i]?=some x) (hx:Loc X.env.scope x) (r:jJ v u)
  (h:∀ s',Inv X pins (σ.set i (some v)) H s'->Q () s') (hf:X.fn x=true\/X.env.scope.names.lookup x=some .local:=by first|exact .inl rfl|exact .inr rfl|assumption):wpAny M A (storeName X.env x u) Q E s:=
 TV I hN hi hx r (λs' I' _=>h s' I') hf
def Inv.call' {s':Shared} {ch:List Addr} (I:Inv X pins σ H s) (ho:s'.os=s.os) (u:Un (frs X.stack) ch H H' s.heap s'.heap) (hok:HOk X.prog X.w H' s'.heap) (hg:AllBare s'.gens)
  (hch:∀ b∈ch,(b∈X.ex\/X.s₀.heap.objs.size<=b)/\b≠X.env.locals/\(∀ x c,X.env.cells.lookup x=some c->c≠b)/\∀ p∈X.pn++pins,p.1≠b):Inv X pins σ H' s':=by
 obtain ⟨h',g',d',t',o'⟩:=s';have e:o'=s.os:=ho;subst e;exact I.call (g':=g') (t':=t') (d':=d') u hok hg hch
end
abbrev XK:=Value->Option Addr->Hp->Prop
abbrev St:=List (Option V)
abbrev VK:=V->Hp->Prop
abbrev TE:=St->Hp->VK->Prop
abbrev TT:=St->Hp->(Bool->Hp->Prop)->Prop
abbrev TA:=St->Hp->(List V->Hp->Prop)->Prop
structure Ends where
 nx:St->Hp->Prop
 rt:VK
 bk:St->Hp->Prop:=λ_ _=>False
 ct:St->Hp->Prop:=λ_ _=>False
abbrev TS:=Ends->St->Hp->Prop
def EP (X:Cx) (pins:List (Addr×Obj)) (σ:St) (Q:VK) (u:Value) (s':Shared):Prop:=∃ v H',Inv X pins σ H' s'/\jJ v u/\Q v H'
def TP (X:Cx) (pins:List (Addr×Obj)) (σ:St) (Q:Bool->Hp->Prop) (b:Bool) (s':Shared):Prop:=∃ H',Inv X pins σ H' s'/\Q b H'
def AP (X:Cx) (pins:List (Addr×Obj)) (σ:St) (Q:List V->Hp->Prop) (us:List Value) (s':Shared):Prop:=∃ vs H',Inv X pins σ H' s'/\jk vs us/\Q vs H'
def SP (X:Cx) (pins:List (Addr×Obj)) (D:Ends) (f:Flow) (s':Shared):Prop:=
 match f with
 |.next=>∃ σ' H',Inv X pins σ' H' s'/\D.nx σ' H'
 |.brk=>∃ σ' H',Inv X pins σ' H' s'/\D.bk σ' H'
 |.cont=>∃ σ' H',Inv X pins σ' H' s'/\D.ct σ' H'
 |.ret u=>∃ v σ' H',Inv X pins σ' H' s'/\jJ v u/\D.rt v H'
def PE (X:Cx) (e:Expr) (t:TE):Prop:=
 ∀ (pins:List (Addr×Obj)) (s:Shared) (σ:St) (H:Hp) (Q:VK),Inv X pins σ H s->t σ H Q->wpAny (model X.prog X.w) X.A (eval e X.env) (EP X pins σ Q) X.xe s
def PT (X:Cx) (e:Expr) (t:TT):Prop:=
 ∀ (pins:List (Addr×Obj)) (s:Shared) (σ:St) (H:Hp) (Q:Bool->Hp->Prop),Inv X pins σ H s->t σ H Q->wpAny (model X.prog X.w) X.A (isTrue e X.env (eval e X.env)) (TP X pins σ Q) X.xe s
def PW (X:Cx) (e:Expr) (t:TT):Prop:=
 ∀ (whole:Sem Value) (pins:List (Addr×Obj)) (s:Shared) (σ:St) (H:Hp) (Q:Bool->Hp->Prop),Inv X pins σ H s->t σ H Q->wpAny (model X.prog X.w) X.A (isTrue e X.env whole) (TP X pins σ Q) X.xe s
def PW.pt {X:Cx} {e:Expr} {t:TT} (h:PW X e t):PT X e t:=h _
def PA (X:Cx) (es:List Expr) (t:TA):Prop:=
 ∀ (pos:Pos) (pins:List (Addr×Obj)) (s:Shared) (σ:St) (H:Hp) (Q:List V->Hp->Prop),Inv X pins σ H s->t σ H Q->wpAny (model X.prog X.w) X.A (spliced (backTo pos (starEach es X.env))) (AP X pins σ Q) X.xe s
def PS (X:Cx) (st:Stmt) (t:TS):Prop:=
 ∀ (pins:List (Addr×Obj)) (s:Shared) (σ:St) (H:Hp) (D:Ends),Inv X pins σ H s->t D σ H->wpAny (model X.prog X.w) X.A (exec st X.env) (SP X pins D) X.xe s
def PSs (X:Cx) (st:List Stmt) (t:TS):Prop:=
 ∀ (pins:List (Addr×Obj)) (s:Shared) (σ:St) (H:Hp) (D:Ends),Inv X pins σ H s->t D σ H->wpAny (model X.prog X.w) X.A (execs st X.env) (SP X pins D) X.xe s
def thn {α:Type} {t:Sem α} {Q Q':α->Shared->Prop} {M:Model} {A:Around} {E:Value->Shared->Prop} {s:Shared} (h:wpAny M A t Q E s) (hQ:∀ a s,Q a s->Q' a s):wpAny M A t Q' E s:=wpAny_mono h hQ λ_ _ x=>x
section
variable {X:Cx}
def qpS (i:Nat):TE:=λσ H Q=>∃ v,σ[i]?=some (some v)/\Q v H
def tC (v:V):TE:=λ_ H Q=>Q v H
def qlo {i:Nat} {x:Str} {pos:Pos} (hN:X.N[i]?=some x) (hv:Vis X.env.scope x) (hd:(x==("__debug__" : Str))=false:=by decide) (hcd:(x==("__classdict__" : Str))=false:=by decide):PE X (.Name x pos) (qpS i):=by
 intro pins s σ H Q I h;obtain ⟨v,e,h⟩:=h;obtain ⟨m,hn,hl⟩:=I.loc;obtain ⟨u,r,l⟩:=hl i x v hN e hv;have fin:EP X pins σ Q u s:=⟨v,H,I,r,h⟩
 rcases l with ⟨hk,hm⟩|⟨hk,c,hc,hcell⟩
 ·exact wpAny_Name (wpAny_loadName_local I.ok.kind hk hn hm fin) hd
 ·rcases hk with hk|hk
  ·exact wpAny_Name (wpAny_loadName_cell I.ok.kind hk hc hcell fin) hd
  ·exact wpAny_Name (wpAny_loadName_free I.ok.kind hk hc hcell fin hcd) hd
def qjA {i j pos}:PE X (.Constant (.int i) j pos) (tC (.int i)):=λ_ _ _ H _ I h=>wpAny_Constant_int ⟨.int i,H,I.tok _,⟨_,rfl⟩,h⟩
def qmV {b j pos}:PE X (.Constant (.bool b) j pos) (tC (.bl b)):=λ_ _ _ H _ I h=>Constant_bool ⟨.bl b,H,I,rfl,h⟩
def qll {j pos}:PE X (.Constant .none j pos) (tC .non):=λ_ _ _ H _ I h=>Constant_none ⟨.non,H,I,rfl,h⟩
def qd8 {x j pos}:PE X (.Constant (.str x) j pos) (tC (.str x)):=λ_ _ _ H _ I h=>Calls.Constant_str ⟨.str x,H,I.tok _,⟨_,rfl⟩,h⟩
def Gl (X:Cx) (x:Str):Prop:=X.env.kindOf x=some .globalImplicit
def qbS {E:Value->Shared->Prop} {pins:List (Addr×Obj)} {s:Shared} {σ:St} {H:Hp} {x:Str} {u:Value} {pos:Pos} {Q:Value->Shared->Prop} (I:Inv X pins σ H s) (hg:Gl X x) (hm:X.mg x=some u) (h:Q u s)
  (hd:(x==("__debug__" : Str))=false:=by decide):wpAny (model X.prog X.w) X.A (eval (.Name x pos) X.env) Q E s:=
 Calls.Name_function_global I.ok.kind hg (Calls.loadGlobal_global (by rw [I.ok.glob];exact I.mod.glob.keeps I.bk) hm h) hd
def CI {E:Value->Shared->Prop} {pins:List (Addr×Obj)} {s:Shared} {σ:St} {H:Hp} {x:Str} {u:Value} {pos:Pos} {Q:Value->Shared->Prop} (I:Inv X pins σ H s) (hg:Gl X x) (hm:X.mg x=none) (hv:bootBuiltins x=some u) (h:Q u s)
  (hn:x≠"__name__" := by decide) (hd:(x==("__debug__" : Str))=false:=by decide):wpAny (model X.prog X.w) X.A (eval (.Name x pos) X.env) Q E s:=by
 obtain ⟨mb,h1,h2⟩:=I.mod.blt;exact Calls.Name_function_global I.ok.kind hg (Calls.loadGlobal_builtin (by rw [I.ok.glob];exact I.mod.glob.keeps I.bk) hm (by rw [I.ok.blt];exact h1.keeps I.bk) ((h2 x hn).trans hv) h) hd
def qgH {x:Str} {v:V} {u:Value} {pos:Pos} (hg:Gl X x) (hm:X.mg x=some u) (r:jJ v u) (hd:(x==("__debug__" : Str))=false:=by decide):PE X (.Name x pos) (tC v):=
 λ_ _ _ H _ I h=>qbS I hg hm ⟨v,H,I,r,h⟩ hd
variable {a b:Expr} {ta tb:TE} {pos:Pos}
def tB (t:TE):TT:=λσ H Q=>t σ H λx H1=>∃ c,x=.bl c/\Q c H1
def qlZ {e:Expr} {t:TE} (h:PE X e t) (he:∀ whole,isTrue e X.env whole=(do let v←whole;standAt e.pos;holding [v] (truthy v)):=by intro _;rfl):PT X e (tB t):=by
 intro pins s σ H Q I hw;refine isTrue_plain (thn (h pins s σ H _ I hw) λv s1 ⟨x,H1,I1,r1,q1⟩=>?_) (he _);obtain ⟨d,rfl,q⟩:=q1;cases r1;exact wpAny_truthy_bool ⟨H1,I1,q⟩
variable {tA tB':TT} {ZB:List Expr}
def qpX (t u:TT):TT:=λσ H Q=>t σ H λc H1=>if c=true then u σ H1 Q else Q false H1
def tOr (t u:TT):TT:=λσ H Q=>t σ H λc H1=>if c=true then Q true H1 else u σ H1 Q
def qpE (t:TT):TT:=λσ H Q=>t σ H λc H1=>Q (!c) H1
def qf4 (ha:PT X a tA):PW X (.BoolOp .And [a] pos) tA:=by
 intro wh pins s σ H Q I h;refine isTrue_and (thn (ha pins s σ H Q I h) λc s1 e=>?_);cases c with
 |true=>exact isTrue_and_nil e
 |false=>exact e
def qj2 (ha:PT X a tA):PW X (.BoolOp .Or [a] pos) tA:=by
 intro wh pins s σ H Q I h;refine isTrue_or (thn (ha pins s σ H Q I h) λc s1 e=>?_);cases c with
 |false=>exact isTrue_or_nil e
 |true=>exact e
def qhP (ha:PT X a tA) (hb:PW X (.BoolOp .And (b::ZB) pos) tB'):PW X (.BoolOp .And (a::b::ZB) pos) (qpX tA tB'):=by
 intro wh pins s σ H Q I h;refine isTrue_and (thn (ha pins s σ H _ I h) λc s1 ⟨H1,I1,q1⟩=>?_);cases c with
 |true=>exact hb wh pins s1 σ H1 Q I1 q1
 |false=>exact ⟨H1,I1,q1⟩
def qnr (ha:PT X a tA) (hb:PW X (.BoolOp .Or (b::ZB) pos) tB'):PW X (.BoolOp .Or (a::b::ZB) pos) (tOr tA tB'):=by
 intro wh pins s σ H Q I h;refine isTrue_or (thn (ha pins s σ H _ I h) λc s1 ⟨H1,I1,q1⟩=>?_);cases c with
 |true=>exact ⟨H1,I1,q1⟩
 |false=>exact hb wh pins s1 σ H1 Q I1 q1
def qhU (ha:PT X a tA):PT X (.UnaryOp .Not a pos) (qpE tA):=by
 intro pins s σ H Q I h;exact isTrue_not (ha pins s σ H (λc H1=>Q (!c) H1) I h)
def qm0 (ta tb:TE):TE:=λσ H Q=>ta σ H λx H1=>∃ c,x=.bl c/\if c=true then tb σ H1 Q else Q (.bl false) H1
def qhS {op} {t:TE} (h:PE X a t):PE X (.BoolOp op [a] pos) t:=λpins s σ H Q I hw=>BoolOp_one (h pins s σ H Q I hw)
def qmd (ha:PE X a ta) (hb:PE X (.BoolOp .And (b::ZB) pos) tb):PE X (.BoolOp .And (a::b::ZB) pos) (qm0 ta tb):=by
 intro pins s σ H Q I h;refine BoolOp_and (thn (ha pins s σ H _ I h) λv s1 ⟨x,H1,I1,r1,q1⟩=>?_);obtain ⟨c,rfl,q1⟩:=q1;cases r1;refine wpAny_truthy_bool ?_;cases c with
 |true=>exact hb pins s1 σ H1 Q I1 q1
 |false=>exact ⟨.bl false,H1,I1,rfl,q1⟩
def tIf (t:TT) (ta tb:TE):TE:=λσ H Q=>t σ H λc H1=>if c=true then ta σ H1 Q else tb σ H1 Q
def qc6 {c:Expr} (hc:PT X c tA) (ha:PE X a ta) (hb:PE X b tb):PE X (.IfExp c a b pos) (tIf tA ta tb):=by
 intro pins s σ H Q I h;refine wpAny_IfExp (thn (hc pins s σ H _ I h) λd s1 ⟨H1,I1,q1⟩=>?_);cases d with
 |true=>exact ha pins s1 σ H1 Q I1 q1
 |false=>exact hb pins s1 σ H1 Q I1 q1
end
def SqL (K:Frg) (H:Hp) (a:Addr) (xs:List V):Prop:=
 Rd H a (.lst xs) ∨
  ∃ (o:Obj) (its:Array Value) (n:Nat),K.lookup a=some o/\o.cls=.type "list"/\o.dict=none/\o.data=.seq its n/\its.size<=sizeLine/\jk xs its.toList
def SqT (K:Frg) (H:Hp) (a:Addr) (xs:List V):Prop:=
 Rd H a (.tup xs) ∨
  ∃ (o:Obj) (its:Array Value) (n:Nat),K.lookup a=some o/\o.cls=.type "tuple"/\o.data=.seq its n/\its.size<=sizeLine/\jk xs its.toList
def qpM:Value->Option V
 |.none=>some .non
 |.bool b=>some (.bl b)
 |.int i _=>some (.int i)
 |.str x _=>some (.str x)
 |.bytes b _=>some (.byt b)
 |.float b _=>some (.flt b)
 |.ref a=>some (.ref a)
 |.type n=>some (.ty n)
 |_=>none
def jJ.abs {x:V} {u:Value} (r:jJ x u):qpM u=some x:=by
 cases x with
 |non=>cases r;rfl
 |bl _=>cases r;rfl
 |int _=>obtain ⟨t,rfl⟩:=r;rfl
 |str _=>obtain ⟨t,rfl⟩:=r;rfl
 |byt _=>obtain ⟨t,rfl⟩:=r;rfl
 |flt _=>obtain ⟨t,rfl⟩:=r;rfl
 |ref _=>cases r;rfl
 |ty _=>cases r;rfl
def jJ.inj {x y:V} {u:Value} (r:jJ x u) (q:jJ y u):x=y:=Option.some.inj (r.abs.symm.trans q.abs)
def jk.inj:∀ {xs ys:List V} {us:List Value},jk xs us->jk ys us->xs=ys
 |_,_,_,.nil,.nil=>rfl
 |_,_,_,.cons r t,.cons r' t'=>by rw [r.inj r',jk.inj t t']
section
variable {X:Cx} {pins:List (Addr×Obj)} {σ:St} {H:Hp} {s:Shared} {a:Addr} {xs ys:List V}
def SqL.of {K:Frg} (h:H a=some (.lst xs)):SqL K H a xs:=.inl (.inl h)
def SqT.of {K:Frg} (h:H a=some (.tup xs)):SqT K H a xs:=.inl (.inl h)
def Inv.list (I:Inv X pins σ H s) (h:SqL X.K H a xs):∃ its:List Value,jk xs its/\PlainL s.heap a its.toArray/\xs.length<=sizeLine:=by
 rcases h with h|⟨o,its,n,hk,hc,hd,hs,hz,r⟩
 ·obtain ⟨z,its,n,r,e⟩:=h.ok I.hok;exact ⟨its,r,⟨_,n,e,rfl,rfl,rfl⟩,z⟩
 ·refine ⟨its.toList,r,⟨o,n,I.kIn a o hk,hc,hd,by simpa using hs⟩,?_⟩;have e:=r.length;simp only [Array.length_toList] at e;omega
def Inv.tuple (I:Inv X pins σ H s) (h:SqT X.K H a xs):∃ its:List Value,jk xs its/\IsTup s.heap a its.toArray/\xs.length<=sizeLine:=by
 rcases h with h|⟨o,its,n,hk,hc,hs,hz,r⟩
 ·obtain ⟨z,its,r,p⟩:=h.ok I.hok;exact ⟨its,r,p,z⟩
 ·refine ⟨its.toList,r,⟨o,I.kIn a o hk,hc,n,by simpa using hs⟩,?_⟩;have e:=r.length;simp only [Array.length_toList] at e;omega
def Inv.list_inj (I:Inv X pins σ H s) (h:SqL X.K H a xs) (h':SqL X.K H a ys):xs=ys:=by
 obtain ⟨its,r,⟨o,n,e,_,_,d⟩,_⟩:=I.list h;obtain ⟨its',r',⟨o',n',e',_,_,d'⟩,_⟩:=I.list h';rw [e] at e';cases e';rw [d] at d';injection d' with d1 _;have:its=its':=by simpa using congrArg Array.toList d1
 subst this;exact r.inj r'
def Inv.tuple_inj (I:Inv X pins σ H s) (h:SqT X.K H a xs) (h':SqT X.K H a ys):xs=ys:=by
 obtain ⟨its,r,⟨o,e,_,n,d⟩,_⟩:=I.tuple h;obtain ⟨its',r',⟨o',e',_,n',d'⟩,_⟩:=I.tuple h';rw [e] at e';cases e';rw [d] at d';injection d' with d1 _;have:its=its':=by simpa using congrArg Array.toList d1
 subst this;exact r.inj r'
end
abbrev Cx.wish (X:Cx) (E:Value->Shared->Prop):Cx:={ X with xe:=E }
abbrev Cx.nox (X:Cx):Cx:=X.wish λ_ _=>False
def Cx.Ok.wish {X:Cx} (ok:X.Ok) (E:Value->Shared->Prop):(X.wish E).Ok:=
 ⟨ok.mod,ok.kind,ok.glob,ok.blt,ok.above,ok.inj,ok.has,ok.cab,ok.hd,ok.frames,ok.stk,ok.exf,ok.bs,ok.bsz,ok.noex,ok.exfs,ok.funs,ok.frf⟩
def Cx.Ok.unwish {X:Cx} {E:Value->Shared->Prop} (ok:(X.wish E).Ok):X.Ok:=
 ⟨ok.mod,ok.kind,ok.glob,ok.blt,ok.above,ok.inj,ok.has,ok.cab,ok.hd,ok.frames,ok.stk,ok.exf,ok.bs,ok.bsz,ok.noex,ok.exfs,ok.funs,ok.frf⟩
section
variable {X:Cx} {pins:List (Addr×Obj)} {σ:St} {H:Hp} {s:Shared} {E:Value->Shared->Prop}
def Inv.wish (I:Inv X pins σ H s) (E:Value->Shared->Prop):Inv (X.wish E) pins σ H s:=⟨I.ok.wish E,I.os,I.bare,I.base,I.loc,I.cell,I.free,I.freeC,I.pin,I.hok,I.len⟩
def Inv.unwish (I:Inv (X.wish E) pins σ H s):Inv X pins σ H s:=⟨I.ok.unwish,I.os,I.bare,I.base,I.loc,I.cell,I.free,I.freeC,I.pin,I.hok,I.len⟩
def SP.unwish {D:Ends} {f:Flow} {s':Shared} (h:SP (X.wish E) pins D f s'):SP X pins D f s':=by
 cases f with
 |next=>obtain ⟨σ',H',I,q⟩:=h;exact ⟨σ',H',I.unwish,q⟩
 |brk=>obtain ⟨σ',H',I,q⟩:=h;exact ⟨σ',H',I.unwish,q⟩
 |cont=>obtain ⟨σ',H',I,q⟩:=h;exact ⟨σ',H',I.unwish,q⟩
 |ret u=>obtain ⟨v,σ',H',I,r,q⟩:=h;exact ⟨v,σ',H',I.unwish,r,q⟩
def PSs.nox {st:List Stmt} {t:TS} (h:PSs X.nox st t):PSs X st t:=λpins s σ H D I hw=>
 wpAny_mono (h pins s σ H D (I.wish _) hw) (λ_ _ q=>q.unwish) λ_ _ z=>False.elim z
end
section
variable {X:Cx} {st:Stmt} {ZB:List Stmt} {t u:TS} {e:Expr} {te:TE} {pos:Pos}
def qno:TS:=λD σ H=>D.nx σ H
def qpA (t u:TS):TS:=λD σ H=>t { D with nx:=u D } σ H
def qgK:PSs X [] qno:=λ_ _ σ H _ I h=>wpAny_execs_nil ⟨σ,H,I,h⟩
def qcI (h1:PS X st t) (h2:PSs X ZB u):PSs X (st::ZB) (qpA t u):=by
 intro pins s σ H D I h;refine wpAny_execs_cons (thn (h1 pins s σ H { D with nx:=u D } I h) λf s1 q=>?_);cases f with
 |next=>
  obtain ⟨σ',H',I',q⟩:=q;exact h2 pins s1 σ' H' D I' q
 |ret v=>exact q
 |brk=>exact q
 |cont=>exact q
def qhy (h1:PS X st t):PSs X [st] t:=by
 intro pins s σ H D I h;refine wpAny_execs_cons (thn (h1 pins s σ H D I h) λf s1 q=>?_);cases f with
 |next=>exact wpAny_execs_nil q
 |ret v=>exact q
 |brk=>exact q
 |cont=>exact q
def Inv.quiet {pins:List (Addr×Obj)} {σ:St} {H:Hp} {s:Shared} (I:Inv X pins σ H s):interactive X.env=false:=by simp [interactive,I.ok.kind]
def qnN (te:TE):TS:=λD σ H=>te σ H λ_ H1=>D.nx σ H1
def qhe (he:PE X e te) (hs:swapsWith e none pos.line X.env=pure false:=by rfl):PS X (.Expr e pos) (qnN te):=by
 intro pins s σ H D I h;exact wpAny_Expr_any (thn (he pins s σ H _ I h) λv s1 ⟨x,H1,I1,r1,q1⟩=>⟨σ,H1,I1,q1⟩) I.quiet hs
def qpm (te:TE):TS:=λD σ H=>te σ H D.rt
def qiI (he:PE X e te):PS X (.Return (some e) pos) (qpm te):=by
 intro pins s σ H D I h;exact wpAny_Return_some (thn (he pins s σ H _ I h) λv s1 ⟨x,H1,I1,r1,q1⟩=>⟨x,σ,H1,I1,r1,q1⟩)
def qp1 (c:TT) (t u:TS):TS:=λD σ H=>c σ H λb H1=>if b=true then t D σ H1 else u D σ H1
def qnB {c:Expr} {a b:List Stmt} {tc:TT} (hc:PT X c tc) (ha:PSs X a t) (hb:PSs X b u):PS X (.If c a b pos) (qp1 tc t u):=by
 intro pins s σ H D I h;refine wpAny_If (thn (hc pins s σ H _ I h) λd s1 ⟨H1,I1,q1⟩=>?_);cases d with
 |true=>exact ha pins s1 σ H1 D I1 q1
 |false=>exact hb pins s1 σ H1 D I1 q1
end
abbrev TG:=V->St->Hp->(St->Hp->Prop)->Prop
abbrev TGs:=List V->St->Hp->(St->Hp->Prop)->Prop
def PG (X:Cx) (target:Expr) (t:TG):Prop:=
 ∀ (pins:List (Addr×Obj)) (s:Shared) (σ:St) (H:Hp) (v:V) (u:Value) (Q:St->Hp->Prop),Inv X pins σ H s->jJ v u->t v σ H Q ->
  wpAny (model X.prog X.w) X.A (assign target X.env u) (λ_ s'=>∃ σ' H',Inv X pins σ' H' s'/\Q σ' H') X.xe s
def PGs (X:Cx) (ts:List Expr) (t:TGs):Prop:=
 ∀ (pins:List (Addr×Obj)) (s:Shared) (σ:St) (H:Hp) (vs:List V) (us:List Value) (Q:St->Hp->Prop),Inv X pins σ H s->jk vs us->t vs σ H Q ->
  wpAny (model X.prog X.w) X.A (assignInOrder ((assignEach ts X.env).map (·.2)) us) (λ_ s'=>∃ σ' H',Inv X pins σ' H' s'/\Q σ' H') X.xe s
abbrev qnU:=V->V->V->Hp->(Hp->Prop)->Prop
def qoD (X:Cx) (t:qnU):Prop:=
 ∀ (pins:List (Addr×Obj)) (s:Shared) (σ:St) (H:Hp) (o i v:V) (ov iv u:Value) (Q:Hp->Prop),Inv X pins σ H s->jJ o ov->jJ i iv->jJ v u->t o i v H Q ->
  wpAny (model X.prog X.w) X.A (setItem ov iv u) (λ_ s'=>∃ H',Inv X pins σ H' s'/\Q H') X.xe s
abbrev TIp:=V->V->Hp->VK->Prop
def PIp (X:Cx) (op:Operator) (t:TIp):Prop:=
 ∀ (pins:List (Addr×Obj)) (s:Shared) (σ:St) (H:Hp) (x y:V) (v u:Value) (Q:VK),Inv X pins σ H s->jJ x v->jJ y u->t x y H Q ->
  wpAny (model X.prog X.w) X.A (inplaceOp op v u) (EP X pins σ Q) X.xe s
section
variable {X:Cx} {pos:Pos}
def qfN (i:Nat):TG:=λv σ H Q=>Q (σ.set i (some v)) H
def qgd {i:Nat} {x:Str} (hN:X.N.Nodup) (hi:X.N[i]?=some x) (hx:Loc X.env.scope x) (hf:X.fn x=true\/X.env.scope.names.lookup x=some .local:=by first|exact .inl rfl|exact .inr rfl|assumption):PG X (.Name x pos) (qfN i):=by
 intro pins s σ H v u Q I r h;exact wpAny_assign_Name (UP I hN hi hx r (λs' I'=>⟨_,H,I',h⟩) hf)
def U8:TGs:=λvs σ H Q=>vs=[]/\Q σ H
def qY (t:TG) (u:TGs):TGs:=λvs σ H Q=>∃ v r,vs=v::r/\t v σ H λσ' H'=>u r σ' H' Q
def qfJ:PGs X [] U8:=by
 intro pins s σ H vs us Q I r h;obtain ⟨e,h⟩:=h;subst e;cases r;exact assignInOrder_nil ⟨σ,H,I,h⟩
def qdu {e:Expr} {es:List Expr} {t:TG} {u:TGs} (h1:PG X e t) (h2:PGs X es u)
  (hs:(assignEach (e::es) X.env).map (·.2)=assign e X.env::(assignEach es X.env).map (·.2):=by rfl):PGs X (e::es) (qY t u):=by
 intro pins s σ H vs us Q I r h;obtain ⟨v,vr,e1,h⟩:=h;subst e1;cases r with
 |cons r rr=>
  rw [hs];refine assignInOrder_cons (thn (h1 pins s σ H _ _ _ I r h) λ_ s1 ⟨σ1,H1,I1,q1⟩=>?_);exact h2 pins s1 σ1 H1 _ _ Q I1 rr q1
def U7 (K:Frg) (n:Nat) (t:TGs):TG:=λv σ H Q=>∃ a xs,v=.ref a/\SqT K H a xs/\xs.length=n/\t xs σ H Q
def qlI {es:List Expr} {k:Nat} {t:TGs} {n:Nat} (hc:X.calm=true) (h:PGs X es t)
  (hn:(assignEach es X.env).length=n:=by rfl) (hst:(assignEach es X.env).findIdx? (·.1)=none:=by rfl):PG X (.Tuple es k pos) (U7 X.K n t):=by
 intro pins s σ H v u Q I r hw;obtain ⟨a,xs,e1,hq,hl,hw⟩:=hw;subst e1;cases r;obtain ⟨its,rv,ht,hz⟩:=I.tuple hq;refine assign_Tuple_tuple (I.ok.hd hc) ht (by simp [hn,← hl,rv.length]) hst λh' hx=>?_;have I1:Inv X pins σ H { s with heap:=h' }:=I.kept (t':=s.toks) λb o e=>hx b o (Nat.ne_of_lt (Heap.lt_size e)) e;exact h pins _ σ H xs _ Q I1 (by simpa using rv) hw
def qpJ (to ti:TE) (t:qnU):TG:=λv σ H Q=>to σ H λo H1=>ti σ H1 λi H2=>t o i v H2 λH3=>Q σ H3
def ql2 {o i:Expr} {to ti:TE} {t:qnU} (ho:PE X o to) (hi:PE X i ti) (hs:qoD X t)
  (ha:∀ v,assign (.Subscript o i pos) X.env v=(do
   let ov←holding [v] (eval o X.env)
   let iv←holding [v,ov] (eval i X.env)
   standAt pos
   holding [v,ov,iv] (setItem ov iv v)
   release [v,ov,iv] []):=by intro _;rfl):PG X (.Subscript o i pos) (qpJ to ti t):=by
 intro pins s σ H v u Q I r h;rw [ha];refine wpAny_bind (wpAny_holding (thn (ho pins s σ H _ I h) λov s1 ⟨x,H1,I1,r1,q1⟩=>?_));refine wpAny_bind (wpAny_holding (thn (hi pins s1 σ H1 _ I1 q1) λiv s2 ⟨y,H2,I2,r2,q2⟩=>?_));refine wpAny_bind (wpAny_standAt (wpAny_bind (wpAny_holding (thn (hs pins s2 σ H2 x y v ov iv u _ I2 r1 r2 r q2) λ_ s3 ⟨H3,I3,q3⟩=>?_))));exact wpAny_release ⟨σ,H3,I3,q3⟩
def qmR (te:TE) (g:TG):TS:=λD σ H=>te σ H λx H1=>g x σ H1 D.nx
def qj4 {tg e:Expr} {te:TE} {g:TG} (he:PE X e te) (hg:PG X tg g) (hs:swapsWithSole [tg] e pos.line X.env=pure false:=by rfl) (hw:swappedStores [tg] e X.env=pure none:=by rfl)
  (h1:(assignEach [tg] X.env).map (·.2)=[assign tg X.env]:=by rfl):PS X (.Assign [tg] e pos) (qmR te g):=by
 intro pins s σ H D I h;refine wpAny_Assign_stores (thn (he pins s σ H _ I h) λv s1 ⟨x,H1,I1,r1,q1⟩=>?_) hs hw;rw [h1];exact thn (hg pins s1 σ H1 x v _ I1 r1 q1) λ_ s2 q=>q
def qkB {i:Nat} {x:Str} {e:Expr} {te:TE} {pos':Pos} (hN:X.N.Nodup) (hi:X.N[i]?=some x) (hx:Loc X.env.scope x) (he:PE X e te) (hs:swapsWith e (some (.Name x pos')) pos.line X.env=pure false:=by rfl) (hf:X.fn x=true\/X.env.scope.names.lookup x=some .local:=by first|exact .inl rfl|exact .inr rfl|assumption) :
  PS X (.Assign [.Name x pos'] e pos) (qmR te (qfN i)):=by
 intro pins s σ H D I h;refine wpAny_Assign_Name (thn (he pins s σ H _ I h) λv s1 ⟨y,H1,I1,r1,q1⟩=>?_) hs;exact UP I1 hN hi hx r1 (λs2 I2=>⟨_,H1,I2,q1⟩) hf
def qpz (i j:Nat) (ta:TA):TS:=λD σ H=>ta σ H λvs H1=>∃ v w,vs=[v,w]/\D.nx ((σ.set i (some v)).set j (some w)) H1
def qlN {i j:Nat} {x y:Str} {a b:Expr} {ta:TA} {px py pt:Pos} {kt k2 pt2} (hc:X.calm=true) (hN:X.N.Nodup) (hi:X.N[i]?=some x) (hj:X.N[j]?=some y) (hij:i≠j)
  (hx:X.env.scope.names.lookup x=some .local) (hy:X.env.scope.names.lookup y=some .local) (ha:PA X [a,b] ta)
  (hw:swappedStores [.Tuple [.Name x px,.Name y py] kt pt] (.Tuple [a,b] k2 pt2) X.env=pure (some [x,y]))
  (hs:swapsWithSole [.Tuple [.Name x px,.Name y py] kt pt] (.Tuple [a,b] k2 pt2) pos.line X.env=pure false:=by rfl) :
  PS X (.Assign [.Tuple [.Name x px,.Name y py] kt pt] (.Tuple [a,b] k2 pt2) pos) (qpz i j ta):=by
 intro pins s σ H D I h;rw [exec_Assign_arm];refine wpAny_bind (wpAny_standAt ?_);rw [hs];refine wpAny_bind (wpAny_pure ?_);rw [if_neg (by decide)];refine wpAny_bind (Tuple_ (thn (ha _ pins s σ H _ I h) λus s1 ⟨vs,H1,I1,r1,q1⟩=>?_));obtain ⟨v,w,e1,q1⟩:=q1;subst e1;obtain ⟨u1,u2,rfl,rv,rw'⟩:∃ u1 u2,us=[u1,u2]/\jJ v u1/\jJ w u2:=by
  cases r1 with
  |cons p q=>
   cases q with
   |cons p' q'=>
    cases q';exact ⟨_,_,rfl,p,p'⟩
 refine wpAny_newObj_type ?_ (by show 2<=sizeLine;decide);have I2:Inv X pins σ H1 { s1 with heap:=s1.heap.push { cls:=.type "tuple",data:=.seq [u1,u2].toArray } }:=I1.kept (t':=s1.toks) λb o e=>Heap.get?_push_of_some _ e;rw [hw];refine wpAny_bind (wpAny_pure ?_);show wpAny (model X.prog X.w) X.A (do rule "assign.swapped-stores";let items←unpackItems (.ref s1.heap.objs.size) 2 none;assignInOrder [λv=>bindName X.env y v,λv=>bindName X.env x v] items.reverse;pure Flow.next) _ _ _;refine wpAny_bind (wpAny_rule (wpAny_bind (unpackItems_tuple (items:=#[u1,u2]) (I.ok.hd hc) (IsTup.new s1.heap _) λh' hx'=>?_)));have I3:=I2.kept (h':=h') (t':=s1.toks) λb o e=>hx' b o (Nat.ne_of_lt (Heap.lt_size e)) e;show wpAny _ _ (assignInOrder [λv=>bindName X.env y v,λv=>bindName X.env x v] [u2,u1] >>= λ_=>pure Flow.next) _ _ _;refine wpAny_bind (assignInOrder_cons (wpAny_bindName (UP I3 hN hj (.inl hy) rw' (λs2 I4=>?_) (.inr hy))));refine assignInOrder_cons (wpAny_bindName (UP I4 hN hi (.inl hx) rv (λs3 I5=>assignInOrder_nil (wpAny_pure ?_)) (.inr hx)));rw [List.set_comm _ _ (Ne.symm hij)] at I5;exact ⟨_,H1,I5,q1⟩
def qpK (i:Nat) (te:TE) (ti:TIp):TS:=λD σ H=>∃ x,σ[i]?=some (some x)/\te σ H λy H1=>ti x y H1 λz H2=>D.nx (σ.set i (some z)) H2
def qka {i:Nat} {x:Str} {e:Expr} {te:TE} {op:Operator} {ti:TIp} {pos':Pos} (hN:X.N.Nodup) (hi:X.N[i]?=some x) (hx:Loc X.env.scope x) (he:PE X e te) (ho:PIp X op ti) (hf:X.fn x=true\/X.env.scope.names.lookup x=some .local:=by first|exact .inl rfl|exact .inr rfl|assumption) :
  PS X (.AugAssign (.Name x pos') op e pos) (qpK i te ti):=by
 intro pins s σ H D I h;obtain ⟨v,e1,h⟩:=h;obtain ⟨m,hn,hl⟩:=I.loc;have vis:Vis X.env.scope x:=by rcases hx with k|k;exact .inl k;exact .inr (.inl k)
 obtain ⟨u,r,l⟩:=hl i x v hi e1 vis;refine wpAny_AugAssign_Name ?_;have go:wpAny (model X.prog X.w) X.A (eval e X.env) (λw s₂=>wpAny (model X.prog X.w) X.A (inplaceOp op u w) (λr s₃=>wpAny (model X.prog X.w) X.A (storeName X.env x r) (λ_=>SP X pins D .next) X.xe s₃) X.xe s₂) X.xe s:=by
  refine thn (he pins s σ H _ I h) λw s1 ⟨y,H1,I1,r1,q1⟩=>?_;refine thn (ho pins s1 σ H1 v y u w _ I1 r r1 q1) λz s2 ⟨zv,H2,I2,r2,q2⟩=>?_;exact UP I2 hN hi hx r2 (λs3 I3=>⟨_,H2,I3,q2⟩) hf
 rcases l with ⟨hk,hm⟩|⟨hk,c,hc,hcell⟩
 ·exact wpAny_loadName_local I.ok.kind hk hn hm go
 ·rcases hk with hk|hk
  ·exact wpAny_loadName_cell I.ok.kind hk hc hcell go
  ·rcases hx with k|k
   ·have:X.env.scope.names.lookup x=some .free:=hk;rw [k] at this;cases this
   ·have:X.env.scope.names.lookup x=some .free:=hk;rw [k] at this;cases this
def ipI (f:Int->Int->Int):TIp:=λx y H Q=>∃ i j,x=.int i/\y=.int j/\Q (.int (f i j)) H
def qjw:PIp X .Add (ipI λi j=>i+j):=by
 intro pins s σ H x y v u Q I r1 r2 h;obtain ⟨i,j,e1,e2,q⟩:=h;subst e1;subst e2;obtain ⟨t,rfl⟩:=r1;obtain ⟨t',rfl⟩:=r2;exact iadd_int ⟨.int _,H,I.tok _,⟨_,rfl⟩,q⟩
end
section
variable {X:Cx} {pos:Pos}
def qjB (c:TT) (tb:TS):TS:=λD σ H=>∃ W:Nat->St->Hp->Prop,(∃ m,W m σ H)/\∀ m σ H,W m σ H ->
 c σ H λb H1=>if b=true then ∃ N:St->Hp->Prop,(∀ σ' H',N σ' H'->∃ m',m'<m/\W m' σ' H')/\tb { D with nx:=N,ct:=N,bk:=D.nx } σ H1 else D.nx σ H1
def qc7 {c:Expr} {body:List Stmt} {tc:TT} {tb:TS} (hp:PassesOwn (model X.prog X.w) X.A X.env X.xe) (hc:PT X c tc) (hb:PSs X body tb):PS X (.While c body [] pos) (qjB tc tb):=by
 intro pins s σ H D I h;obtain ⟨W,⟨m0,w0⟩,turn⟩:=h;refine wpAny_While (codeAny_whileLoop (λn s'=>∃ σ' H',Inv X pins σ' H' s'/\W n σ' H') ?_ m0 ⟨σ,H,I,w0⟩);rintro n s1 ⟨σ1,H1,I1,w1⟩;refine wpAny_passesOwn hp (thn (hc pins s1 σ1 H1 _ I1 (turn n σ1 H1 w1)) λb s2 ⟨H2,I2,q2⟩=>?_);cases b with
 |true=>
  obtain ⟨N,hN,q2⟩:=q2;rw [if_pos rfl];refine wpAny_passesOwn hp (thn (hb pins s2 σ1 H2 _ I2 q2) λf s3 q3=>?_);cases f with
  |next=>
   obtain ⟨σ3,H3,I3,n3⟩:=q3;obtain ⟨m',hm,w3⟩:=hN σ3 H3 n3;exact ⟨m',hm,σ3,H3,I3,w3⟩
  |cont=>
   obtain ⟨σ3,H3,I3,n3⟩:=q3;obtain ⟨m',hm,w3⟩:=hN σ3 H3 n3;exact ⟨m',hm,σ3,H3,I3,w3⟩
  |brk=>exact q3
  |ret v=>exact q3
 |false=>
  rw [if_neg Bool.false_ne_true];exact wpAny_execs_nil ⟨σ1,H2,I2,q2⟩
end
structure It where
 go:Nat->Hp->Prop
 yld:Nat->Hp->V->Hp->Prop
 stop:Nat->Hp->Prop
def S9 (X:Cx) (pins:List (Addr×Obj)) (H:Hp) (b:Addr):Prop:=
 H b=none/\b≠X.env.locals/\b∉X.fs/\(b∈X.ex\/X.s₀.heap.objs.size<=b)/\(∀ x c,X.env.cells.lookup x=some c->c≠b)/\∀ p∈X.pn++pins,p.1≠b
def Inv.fpOk {X:Cx} {pins:List (Addr×Obj)} {σ:St} {H H':Hp} {s:Shared} {b:Addr} (I:Inv X pins σ H s) (hb:s.heap.objs.size<=b) (hn:H' b=none):S9 X pins H' b:=by
 refine ⟨hn,Nat.ne_of_gt (Nat.lt_of_lt_of_le I.lt hb),I.nofs hb,.inr (Nat.le_trans I.sz hb),λx c e z=>?_,λp hp z=>?_⟩
 ·obtain ⟨v,q⟩:=I.cell x c e;exact absurd (Nat.lt_of_lt_of_le q.lt (by rw [z];exact hb)) (Nat.lt_irrefl _)
 ·exact absurd (Nat.lt_of_lt_of_le (Heap.lt_size (I.pin p hp).1) (by rw [z];exact hb)) (Nat.lt_irrefl _)
structure Turn (P:Program) (w:World) (K:Frg) (tg:Expr) (J:It) (fp:List Addr) (it:Addr) (tn:Nat->Heap->Prop):Prop where
 mem:it∈fp
 obj:∀ i h,tn i h->∀ b∈fp,∃ o,h.get? b=some o/\∀ v,o.data≠.cell v
 keep:∀ i h h',tn i h->(∀ b∈fp,∀ o,h.get? b=some o->h'.get? b=some o)->tn i h'
 item:∀ (X:Cx),X.prog=P->X.w=w->X.K=K->X.calm=true->∀ (i:Nat) (pins:List (Addr×Obj)) (s:Shared) (σ:St) (H:Hp) (E:Value->Shared->Prop),Inv X pins σ H s->(∀ b∈fp,S9 X pins H b)->tn i s.heap->J.go i H ->
  wpAny (model P w) X.A (pyNext (.ref it)) (λr s1=>∃ u,r=some u /\
   wpAny (model P w) X.A (letOwnedTupleGo tg (.ref it) u) (λ_ s2=>∃ x H',Inv X pins σ H' s2/\jJ x u/\J.yld i H x H'/\tn (i+1) s2.heap/\∀ b∈fp,H' b=none) E s1) E s
 done:∀ (X:Cx),X.prog=P->X.w=w->X.K=K->X.calm=true->∀ (i:Nat) (pins:List (Addr×Obj)) (s:Shared) (σ:St) (H:Hp) (E:Value->Shared->Prop),Inv X pins σ H s->(∀ b∈fp,S9 X pins H b)->tn i s.heap->J.stop i H ->
  wpAny (model P w) X.A (pyNext (.ref it)) (λr s1=>r=none/\Inv X pins σ H s1) E s
 self:∀ (A:Around) (i:Nat) (s:Shared) (Q:Value->Shared->Prop) (E:Value->Shared->Prop),tn i s.heap->Q (.ref it) s->wpAny (model P w) A (pyIter (.ref it)) Q E s
abbrev TI:=St->Hp->(It->Hp->Prop)->Prop
def PIE (X:Cx) (pins:List (Addr×Obj)) (σ:St) (tg:Expr) (R:It->Hp->Prop) (itv:Value) (s2:Shared):Prop:=
 ∃ (it:Addr) (fp:List Addr) (tn:Nat->Heap->Prop) (J:It) (H':Hp),itv=.ref it/\Inv X pins σ H' s2/\Turn X.prog X.w X.K tg J fp it tn/\tn 0 s2.heap/\(∀ b∈fp,S9 X pins H' b)/\R J H'
def PI (X:Cx) (tg iter:Expr) (wi:TI):Prop:=
 ∀ (pins:List (Addr×Obj)) (s:Shared) (σ:St) (H:Hp) (R:It->Hp->Prop),Inv X pins σ H s->wi σ H R ->
  wpAny (model X.prog X.w) X.A (eval iter X.env) (λv s1=>wpAny (model X.prog X.w) X.A (pyIter v) (PIE X pins σ tg R) X.xe s1) X.xe s
def qg7 {M:Model} {A:Around} {E:Value->Shared->Prop} {s:Shared} {tg:Expr} {it:Addr} {u:Value} {o:Obj} {n:String} {vs:Array Value} {Q:Unit->Shared->Prop} (ho:s.heap.get? it=some o) (hc:o.cls=.type n) (hd:o.data=.fields vs)
    (hn:["enumerate","zip","dict_itemiterator","dict_reverseitemiterator","odict_iterator","itertools.zip_longest","itertools.pairwise"].contains n=false) (hQ:Q () s):wpAny M A (letOwnedTupleGo tg (.ref it) u) Q E s:=by
  unfold letOwnedTupleGo;cases tg<;>first
    |exact wpAny_pure hQ
    | (cases u<;>first
        |exact wpAny_pure hQ
        | (refine wpAny_bind (wpAny_load ho ?_)
           rw [hc,hd];show wpAny M A (if (["enumerate","zip","dict_itemiterator","dict_reverseitemiterator","odict_iterator","itertools.zip_longest","itertools.pairwise"].contains n&&vs[0]?==some (rawInt _))=true then _ else _) Q E s;rw [if_neg (by intro h;rw [hn,Bool.false_and] at h;cases h)];exact wpAny_pure hQ))
def Itl (K:Frg) (a:Addr):It:=
 ⟨λi H=>∃ xs x,SqL K H a xs/\xs[i]?=some x,λi H x H'=>H'=H/\∀ xs,SqL K H a xs->xs[i]?=some x,λi H=>∃ xs,SqL K H a xs/\xs.length<=i⟩
def Itt (K:Frg) (a:Addr):It:=
 ⟨λi H=>∃ xs x,SqT K H a xs/\xs[i]?=some x,λi H x H'=>H'=H/\∀ xs,SqT K H a xs->xs[i]?=some x,λi H=>∃ xs,SqT K H a xs/\xs.length<=i⟩
def Itr (lo:Int) (n:Nat):It:=⟨λi _=>i<n,λi H x H'=>H'=H/\x=.int (lo+i),λi _=>n<=i⟩
def qbB {P:Program} {w:World} {K:Frg} {tg:Expr} (a it:Addr):Turn P w K tg (Itl K a) [it] it (λi h=>h.IsListIter it a i) where
 mem:=by simp
 obj:=λi h st b hb=>by
  have e:b=it:=by simpa using hb
  subst e;obtain ⟨o,e,c,d⟩:=st;exact ⟨o,e,λv z=>by rw [d] at z;cases z⟩
 keep:=λi h h' st k=>st.at λo e=>k it (by simp) o e
 item:=by
  intro X hP hw hK hc i pins s σ H E I hf st hg;subst hP hw hK;obtain ⟨xs,x,hq,hx⟩:=hg;obtain ⟨its,rv,p,hz⟩:=I.list hq;obtain ⟨u,hu,ru⟩:=rv.get hx;obtain ⟨f0,f1,f2,f3,f4,f5⟩:=hf it (by simp);refine wpAny_pyNext_list_item st p.isList (x:=u) (by simpa using hu) λh' st' sb=>?_;have I1:Inv X pins σ H { s with heap:=h' }:=I.turned (t':=s.toks) (λb o hb e=>(sb.2 b hb).trans e) f0 f1 f3 f4 f5;obtain ⟨o,e,c,d⟩:=id st';exact ⟨u,rfl,qg7 (s:={ s with heap:=h' }) e c d (by decide) ⟨x,H,I1,ru,⟨rfl,λys hy=>by rw [I.list_inj hy hq];exact hx⟩,st',λb hb=>(hf b hb).1⟩⟩
 done:=by
  intro X hP hw hK hc i pins s σ H E I hf st hg;subst hP hw hK;obtain ⟨xs,hq,hx⟩:=hg;obtain ⟨its,rv,p,hz⟩:=I.list hq;obtain ⟨f0,f1,f2,f3,f4,f5⟩:=hf it (by simp);have hl:=rv.length;exact wpAny_pyNext_list_end (I.ok.hd hc) st p.isList (by simp;omega) λh' eb=>⟨rfl,I.turned (t':=s.toks) (λb o hb e=>eb b o hb e) f0 f1 f3 f4 f5⟩
 self:=λ_ _ _ _ _ st h=>wpAny_pyIter_listiter st h
def N5 {P:Program} {w:World} {K:Frg} {tg:Expr} (a it:Addr):Turn P w K tg (Itt K a) [it] it (λi h=>h.IsTupleIter it a i) where
 mem:=by simp
 obj:=λi h st b hb=>by
  have e:b=it:=by simpa using hb
  subst e;obtain ⟨o,e,c,d⟩:=st;exact ⟨o,e,λv z=>by rw [d] at z;cases z⟩
 keep:=λi h h' st k=>st.at λo e=>k it (by simp) o e
 item:=by
  intro X hP hw hK hc i pins s σ H E I hf st hg;subst hP hw hK;obtain ⟨xs,x,hq,hx⟩:=hg;obtain ⟨its,rv,p,hz⟩:=I.tuple hq;obtain ⟨u,hu,ru⟩:=rv.get hx;obtain ⟨f0,f1,f2,f3,f4,f5⟩:=hf it (by simp);refine wpAny_pyNext_tuple_item st (show s.heap.IsTuple a its.toArray from p) (x:=u) (by simpa using hu) λh' st' sb=>?_;have I1:Inv X pins σ H { s with heap:=h' }:=I.turned (t':=s.toks) (λb o hb e=>(sb.2 b hb).trans e) f0 f1 f3 f4 f5;obtain ⟨o,e,c,d⟩:=id st';exact ⟨u,rfl,qg7 (s:={ s with heap:=h' }) e c d (by decide) ⟨x,H,I1,ru,⟨rfl,λys hy=>by rw [I.tuple_inj hy hq];exact hx⟩,st',λb hb=>(hf b hb).1⟩⟩
 done:=by
  intro X hP hw hK hc i pins s σ H E I hf st hg;subst hP hw hK;obtain ⟨xs,hq,hx⟩:=hg;obtain ⟨its,rv,p,hz⟩:=I.tuple hq;obtain ⟨f0,f1,f2,f3,f4,f5⟩:=hf it (by simp);have hl:=rv.length;exact wpAny_pyNext_tuple_end (I.ok.hd hc) st (show s.heap.IsTuple a its.toArray from p) (by simp;omega) λh' eb=>⟨rfl,I.turned (t':=s.toks) (λb o hb e=>eb b o hb e) f0 f1 f3 f4 f5⟩
 self:=λ_ _ _ _ _ st h=>wpAny_pyIter_tupleiter st h
def NI {P:Program} {w:World} {K:Frg} {tg:Expr} (it:Addr) (lo:Int) (n:Nat):Turn P w K tg (Itr lo n) [it] it (λi h=>IsRangeIter h it (lo+(i:Nat)*1) ((n:Int)-(i:Nat)) 1) where
 mem:=by simp
 obj:=λi h st b hb=>by
  have e:b=it:=by simpa using hb
  subst e;exact ⟨_,st,λv z=>by
   have z':Data.fields _=Data.cell v:=z;cases z'⟩
 keep:=λi h h' st k=>k it (by simp) _ st
 item:=by
  intro X hP hw hK hc i pins s σ H E I hf st hg;subst hP hw hK;obtain ⟨f0,f1,f2,f3,f4,f5⟩:=hf it (by simp);have W:=Walks.range (prog:=X.prog) (w:=X.w) (I.ok.hd hc) it lo 1 n;refine W.item i s _ _ hg st λv h' tk hv st' kk=>?_;obtain ⟨t,rfl⟩:=hv;have I1:Inv X pins σ H { s with heap:=h',toks:=tk }:=I.turned (λb o hb e=>kk b o (by simpa using hb) e) f0 f1 f3 f4 f5;refine ⟨_,rfl,qg7 (s:={ s with heap:=h',toks:=tk }) (n:="range_iterator") st' rfl rfl (by decide) ⟨.int (lo+i),H,I1,⟨t,?_⟩,⟨rfl,rfl⟩,st',λb hb=>(hf b hb).1⟩⟩;rw [Int.mul_one]
 done:=by
  intro X hP hw hK hc i pins s σ H E I hf st hg;subst hP hw hK;obtain ⟨f0,f1,f2,f3,f4,f5⟩:=hf it (by simp);exact wpAny_pyNext_range_end (I.ok.hd hc) st (by have:n<=i:=hg;omega) λh' eb=>⟨rfl,I.turned (t':=s.toks) (λb o hb e=>eb b o hb e) f0 f1 f3 f4 f5⟩
 self:=λ_ _ _ _ _ st h=>wpAny_pyIter_rangeiter st h
section
variable {X:Cx} {tg:Expr}
def MH {pins:List (Addr×Obj)} {σ:St} {H:Hp} {s:Shared} {R:It->Hp->Prop} {E:Value->Shared->Prop} {lo hi:Int} {t u v:Tok} {tk:Nat} (I:Inv X pins σ H s) (h1:-(2 ^ 62)<=lo) (h2:lo<2 ^ 62) (h3:-(2 ^ 62)<=hi) (h4:hi<2 ^ 62)
  (q:R (Itr lo (hi-lo).toNat) H):wpAny (model X.prog X.w) X.A (pyIter (.ref s.heap.objs.size)) (PIE X pins σ tg R) E { s with heap:=s.heap.push { cls:=.type "range",data:=.fields #[.int lo t,.int hi u,.int 1 v] },toks:=tk }:=by
 refine wpAny_pyIter_range (IsRange.new ..) (small_one h1 h2 h3 h4) ?_;have I1:Inv X pins σ H { s with heap:=s.heap.push { cls:=.type "range",data:=.fields #[.int lo t,.int hi u,.int 1 v] },toks:=tk }:=I.kept λb o e=>Heap.get?_push_of_some _ e;refine ⟨(s.heap.push { cls:=.type "range",data:=.fields #[.int lo t,.int hi u,.int 1 v] }).objs.size,[(s.heap.push { cls:=.type "range",data:=.fields #[.int lo t,.int hi u,.int 1 v] }).objs.size],_,_,H,rfl,
  I1.kept (t':=tk) λb o e=>Heap.get?_push_of_some _ e,NI _ lo (hi-lo).toNat,?_,λb hb=>?_,q⟩
 ·have e1:lo+((0:Nat):Int)*1=lo:=by simp
  have e2:(((hi-lo).toNat:Nat):Int)-((0:Nat):Int)=Builtin.Range.rangeSize lo hi 1:=by rw [rangeSize_one];split<;>omega
  show IsRangeIter _ _ (lo+((0:Nat):Int)*1) ((((hi-lo).toNat:Nat):Int)-((0:Nat):Int)) 1;rw [e1,e2];exact Heap.get?_push_size _ rfl
 ·have e:b=(s.heap.push { cls:=.type "range",data:=.fields #[.int lo t,.int hi u,.int 1 v] }).objs.size:=by simpa using hb
  subst e;exact I1.fpOk (Nat.le_refl _) (I1.hok.fresh (Nat.le_refl _))
def qnk (ta:TA):TI:=λσ H R=>ta σ H λvs H1=>∃ j:Int,vs=[.int j]/\-(2 ^ 62)<=j/\j<2 ^ 62/\R (Itr 0 j.toNat) H1
def qnI (ta:TA):TI:=λσ H R=>ta σ H λvs H1=>∃ i j:Int,vs=[.int i,.int j]/\(-(2 ^ 62)<=i/\i<2 ^ 62/\-(2 ^ 62)<=j/\j<2 ^ 62)/\R (Itr i (j-i).toNat) H1
def qa4 {a:Expr} {ta:TA} {p pos:Pos} (hg:Gl X "range") (hm:X.mg "range" = none) (ha:PA X [a] ta) (hs:starEach [a] X.env=[(false,eval a X.env)]:=by rfl):PI X tg (.Call (.Name "range" p) [a] [] pos) (qnk ta):=by
 intro pins s σ H R I h;refine Call_ (CI I hg hm boot_range (PyProof.Rows.callWith_type1 (thn (ha pos pins s σ H _ I h) λus s1 ⟨vs,H1,I1,r1,q1⟩=>?_) hs rfl));obtain ⟨j,e,q1,q2,q⟩:=q1;subst e;cases r1 with
 |cons r rr=>
  cases rr;obtain ⟨t,rfl⟩:=r;exact call_range_1 (MH I1 (by omega) (by omega) q1 q2 (by simpa using q))
def qa6 {a b:Expr} {ta:TA} {p pos:Pos} (hg:Gl X "range") (hm:X.mg "range" = none) (ha:PA X [a,b] ta) (hs:starEach [a,b] X.env=[(false,eval a X.env),(false,eval b X.env)]:=by rfl) (hs2:starEach [b] X.env=[(false,eval b X.env)]:=by rfl) :
  PI X tg (.Call (.Name "range" p) [a,b] [] pos) (qnI ta):=by
 intro pins s σ H R I h;refine Call_ (CI I hg hm boot_range (PyProof.Rows.callWith_type1 (thn (ha pos pins s σ H _ I h) λus s1 ⟨vs,H1,I1,r1,q1⟩=>?_) (by rw [hs,hs2]) (by rw [hs2];rfl)));obtain ⟨i,j,e,⟨q1,q2,q3,q4⟩,q⟩:=q1;subst e;cases r1 with
 |cons r rr=>
  cases rr with
  |cons r' rr=>
   cases rr;obtain ⟨t,rfl⟩:=r;obtain ⟨t',rfl⟩:=r';exact call_range_2 (MH I1 q1 q2 q3 q4 q)
def qpN (wi:TI) (g:TG) (tb:TS):TS:=λD σ H=>wi σ H λJ H1=>∃ W:Nat->Nat->St->Hp->Prop,(∃ m,W 0 m σ H1)/\∀ i m σ H,W i m σ H ->
 (J.stop i H/\D.nx σ H)\/(J.go i H/\∃ N:St->Hp->Prop,(∀ σ' H',N σ' H'->∃ m',m'<m/\W (i+1) m' σ' H')/\∀ x H',J.yld i H x H'->g x σ H' λσ2 H2=>tb { D with nx:=N,ct:=N,bk:=D.nx } σ2 H2)
def DK (fp:List Addr) (h:Heap):List (Addr×Obj):=fp.filterMap λb=>(h.get? b).map λo=>(b,o)
def zH {fp:List Addr} {h:Heap} {b:Addr} {o:Obj} (hb:b∈fp) (e:h.get? b=some o):(b,o)∈DK fp h:=List.mem_filterMap.mpr ⟨b,hb,by rw [e];rfl⟩
def qbm {fp:List Addr} {h:Heap} {p:Addr×Obj} (hp:p∈DK fp h):p.1∈fp/\h.get? p.1=some p.2:=by
 obtain ⟨b,hb,e⟩:=List.mem_filterMap.mp hp;cases q:h.get? b with
 |none=>rw [q] at e;cases e
 |some o=>
  rw [q] at e;have e':(b,o)=p:=Option.some.inj e;subst e';exact ⟨hb,q⟩
def Inv.pinned {pins:List (Addr×Obj)} {σ:St} {H:Hp} {s:Shared} {fp:List Addr} (I:Inv X pins σ H s) (hf:∀ b∈fp,S9 X pins H b) (ho:∀ b∈fp,∃ o,s.heap.get? b=some o/\∀ v,o.data≠.cell v):Inv X (pins++DK fp s.heap) σ H s:=
 I.pins_of λp hp=>(List.mem_append.mp hp).elim (λz=>I.pin p (mem_append_right _ z)) λz=>by
  obtain ⟨hb,e⟩:=qbm z;obtain ⟨f0,f1,f2,_⟩:=hf p.1 hb;obtain ⟨o,e',d⟩:=ho p.1 hb;rw [e] at e';cases e';exact ⟨e,f0,f1,f2,d⟩
def Inv.unpinned {pins pl:List (Addr×Obj)} {σ:St} {H:Hp} {s:Shared} (I:Inv X (pins++pl) σ H s):Inv X pins σ H s:=I.pins_of λp hp=>I.pin p (mem_append_right _ (List.mem_append_left _ hp))
def qj8 {iter:Expr} {body:List Stmt} {wi:TI} {g:TG} {tb:TS} {pos:Pos} (hp:PassesOwn (model X.prog X.w) X.A X.env X.xe) (hc:X.calm=true) (hi:PI X tg iter wi) (hg:PG X tg g) (hb:PSs X body tb)
  (hs:∀ x,foldedSetIterable iter X.env x=pure x:=by intro _;rfl):PS X (.For tg iter body [] pos) (qpN wi g tb):=by
 intro pins s σ H D I h;refine wpAny_For (thn (hi pins s σ H _ I h) λv s1 h1=>thn h1 λitv s2 h2=>?_) hs;obtain ⟨it,fp,tn,J,H2,e,I2,T,st2,f2,W,⟨m0,w0⟩,turn⟩:=h2;subst e
 -- what stays true of the iterator's objects through the loop
 have stat:∀ {H':Hp},(∀ b∈fp,H' b=none)->∀ b∈fp,S9 X pins H' b:=λhn b hb=>⟨hn b hb,(f2 b hb).2⟩
 refine codeAny_forLoop_any (λn s'=>∃ i σ' H',Inv X pins σ' H' s'/\tn i s'.heap/\(∀ b∈fp,H' b=none)/\W i n σ' H') ?_ m0 ⟨0,σ,H2,I2,st2,λb hb=>(f2 b hb).1,w0⟩;rintro n s3 ⟨i,σ3,H3,I3,st3,fr3,w3⟩;rcases turn i n σ3 H3 w3 with ⟨stop,qn⟩|⟨go,N,hN,step⟩
 ·refine wpAny_passesOwn hp (thn (T.done X rfl rfl rfl hc i pins s3 σ3 H3 X.xe I3 (stat fr3) st3 stop) λr s4 ⟨hr,I4⟩=>?_);subst hr;exact wpAny_execs_nil ⟨σ3,H3,I4,qn⟩
 ·refine wpAny_passesOwn hp (thn (T.item X rfl rfl rfl hc i pins s3 σ3 H3 X.xe I3 (stat fr3) st3 go) λr s4 ⟨u,hr,h4⟩=>?_);subst hr;refine wpAny_passesOwn hp (thn h4 λ_ s5 ⟨x,H5,I5,r5,y5,st5,fr5⟩=>?_);have I5':=I5.pinned (stat fr5) (T.obj _ _ st5);refine wpAny_passesOwn hp (thn (hg _ s5 σ3 H5 x u _ I5' r5 (step x H5 y5)) λ_ s6 ⟨σ6,H6,I6,q6⟩=>?_);refine wpAny_passesOwn hp (thn (hb _ s6 σ6 H6 _ I6 q6) λf s7 q7=>?_);have again:∀ {σ7:St} {H7:Hp},Inv X (pins++DK fp s5.heap) σ7 H7 s7->N σ7 H7->∃ m,m<n/\∃ i σ' H',Inv X pins σ' H' s7/\tn i s7.heap/\(∀ b∈fp,H' b=none)/\W i m σ' H':=λ{σ7 H7} I7 n7=>by
   obtain ⟨m',hm,w7⟩:=hN σ7 H7 n7;refine ⟨m',hm,i+1,σ7,H7,I7.unpinned,T.keep _ _ _ st5 λb hb o e=>(I7.pin (b,o) (mem_append_right _ (mem_append_right _ (zH hb e)))).1,λb hb=>?_,w7⟩;obtain ⟨o,e,d⟩:=T.obj _ _ st5 b hb;exact (I7.pin (b,o) (mem_append_right _ (mem_append_right _ (zH hb e)))).2.1
  cases f with
  |next=>obtain ⟨σ7,H7,I7,n7⟩:=q7;exact again I7 n7
  |cont=>obtain ⟨σ7,H7,I7,n7⟩:=q7;exact again I7 n7
  |brk=>obtain ⟨σ7,H7,I7,q7⟩:=q7;exact ⟨σ7,H7,I7.unpinned,q7⟩
  |ret v=>obtain ⟨x7,σ7,H7,I7,r7,q7⟩:=q7;exact ⟨x7,σ7,H7,I7.unpinned,r7,q7⟩
end
abbrev R2:=V->V->Hp->VK->Prop
def OpR (X:Cx) (f:Value->Value->Sem Value) (r:R2):Prop:=
 ∀ (pins:List (Addr×Obj)) (s:Shared) (σ:St) (H:Hp) (x y:V) (v u:Value) (Q:VK),Inv X pins σ H s->jJ x v->jJ y u->r x y H Q ->
  wpAny (model X.prog X.w) X.A (f v u) (EP X pins σ Q) X.xe s
def UnR (X:Cx) (f:Value->Sem Value) (r:V->Hp->VK->Prop):Prop:=
 ∀ (pins:List (Addr×Obj)) (s:Shared) (σ:St) (H:Hp) (x:V) (v:Value) (Q:VK),Inv X pins σ H s->jJ x v->r x H Q ->
  wpAny (model X.prog X.w) X.A (f v) (EP X pins σ Q) X.xe s
def J9 (X:Cx) (f:Value) (r:List V->Hp->VK->Prop):Prop:=
 ∀ (pins:List (Addr×Obj)) (s:Shared) (σ:St) (H:Hp) (xs:List V) (us:List Value) (Q:VK),Inv X pins σ H s->jk xs us->r xs H Q ->
  wpAny (model X.prog X.w) X.A (call f us) (EP X pins σ Q) X.xe s
def tOp (r:R2) (ta tb:TE):TE:=λσ H Q=>ta σ H λx H1=>tb σ H1 λy H2=>r x y H2 Q
def tUn (r:V->Hp->VK->Prop) (ta:TE):TE:=λσ H Q=>ta σ H λx H1=>r x H1 Q
def rI (C:Int->Int->Prop) (g:Int->Int->V):R2:=λx y H Q=>∃ i j,x=.int i/\y=.int j/\C i j/\Q (g i j) H
def rI0 (g:Int->Int->V):R2:=λx y H Q=>∃ i j,x=.int i/\y=.int j/\Q (g i j) H
def rU (g:Int->V):V->Hp->VK->Prop:=λx H Q=>∃ i,x=.int i/\Q (g i) H
section
variable {X:Cx} {a b c:Expr} {ta tb tc:TE} {pos:Pos}
def qon (ha:PE X a ta) (hb:PE X b tb) {pins:List (Addr×Obj)} {s:Shared} {σ:St} {H:Hp} {R:V->V->Hp->Prop} (I:Inv X pins σ H s)
  (h:ta σ H λx H1=>tb σ H1 λy H2=>R x y H2) {Q:Value->Shared->Prop} {f:Value->Value->Sem Value}
  (hf:∀ v u s2 x y H2,Inv X pins σ H2 s2->jJ x v->jJ y u->R x y H2->wpAny (model X.prog X.w) X.A (f v u) Q X.xe s2) :
  wpAny (model X.prog X.w) X.A (eval a X.env) (λv s₁=>wpAny (model X.prog X.w) X.A (eval b X.env) (λu s₂=>wpAny (model X.prog X.w) X.A (f v u) Q X.xe s₂) X.xe s₁) X.xe s:=by
 refine thn (ha pins s σ H _ I h) λv s1 ⟨x,H1,I1,r1,q1⟩=>?_;refine thn (hb pins s1 σ H1 _ I1 q1) λu s2 ⟨y,H2,I2,r2,q2⟩=>?_;exact hf v u s2 x y H2 I2 r1 r2 q2
def qnt {op:Operator} {r:R2} (ho:OpR X (binaryOp op) r) (ha:PE X a ta) (hb:PE X b tb):PE X (.BinOp a op b pos) (tOp r ta tb):=by
 intro pins s σ H Q I h;exact wpAny_BinOp (qon ha hb I h λv u s2 x y H2 I2 rx ry q=>ho pins s2 σ H2 x y v u Q I2 rx ry q)
def qn4 {op:UnaryOp} {r:V->Hp->VK->Prop} (ho:UnR X (unaryOp op) r) (ha:PE X a ta):PE X (.UnaryOp op a pos) (tUn r ta):=by
 intro pins s σ H Q I h;exact UnaryOp_ (thn (ha pins s σ H _ I h) λv s1 ⟨x,H1,I1,r1,q1⟩=>ho pins s1 σ H1 x v Q I1 r1 q1)
def opI {f:Value->Value->Sem Value} {C:Int->Int->Prop} {g:Int->Int->Int}
  (rule:∀ (i j:Int) (t u:Tok) (s:Shared) (Q:Value->Shared->Prop) (E:Value->Shared->Prop),C i j->Q (.int (g i j) s.toks) { s with toks:=s.toks+1 }->wpAny (model X.prog X.w) X.A (f (.int i t) (.int j u)) Q E s) :
  OpR X f (rI C λi j=>.int (g i j)):=by
 intro pins s σ H x y v u Q I rx ry h;obtain ⟨i,j,rfl,rfl,hc,q⟩:=h;obtain ⟨t,rfl⟩:=rx;obtain ⟨t',rfl⟩:=ry;exact rule i j t t' s _ _ hc ⟨.int (g i j),H,I.tok _,⟨_,rfl⟩,q⟩
def qm5 {f:Value->Value->Sem Value} {g:Int->Int->Int}
  (rule:∀ (i j:Int) (t u:Tok) (s:Shared) (Q:Value->Shared->Prop) (E:Value->Shared->Prop),Q (.int (g i j) s.toks) { s with toks:=s.toks+1 }->wpAny (model X.prog X.w) X.A (f (.int i t) (.int j u)) Q E s) :
  OpR X f (rI0 λi j=>.int (g i j)):=by
 intro pins s σ H x y v u Q I rx ry h;obtain ⟨i,j,rfl,rfl,q⟩:=h;obtain ⟨t,rfl⟩:=rx;obtain ⟨t',rfl⟩:=ry;exact rule i j t t' s _ _ ⟨.int (g i j),H,I.tok _,⟨_,rfl⟩,q⟩
def qnH {f:Value->Value->Sem Value} {g:Int->Int->Bool}
  (rule:∀ (i j:Int) (t u:Tok) (s:Shared) (Q:Value->Shared->Prop) (E:Value->Shared->Prop),Q (.bool (g i j)) s->wpAny (model X.prog X.w) X.A (f (.int i t) (.int j u)) Q E s) :
  OpR X f (rI0 λi j=>.bl (g i j)):=by
 intro pins s σ H x y v u Q I rx ry h;obtain ⟨i,j,rfl,rfl,q⟩:=h;obtain ⟨t,rfl⟩:=rx;obtain ⟨t',rfl⟩:=ry;exact rule i j t t' s _ _ ⟨.bl (g i j),H,I,rfl,q⟩
def M6 (i j:Int):Prop:=0<j/\j<1073741824
def KP (i j:Int):Prop:=0<=j/\j<=1000000/\i.natAbs<2 ^ 64
def zE (i j:Int):Prop:=(-(2 ^ 64)<i/\i<2 ^ 64)\/(-(2 ^ 64)<j/\j<2 ^ 64)
def zE.ok {i j:Int} (h:zE i j):IntMulOk i j:=by
 rcases h with ⟨h1,h2⟩|⟨h1,h2⟩
 ·exact .of_left (intBits_le_64 h1 h2)
 ·exact .of_right (intBits_le_64 h1 h2)
def qlU:OpR X (binaryOp .Add) (rI0 λi j=>.int (i+j)):=qm5 λ_ _ _ _ _ _ _ q=>add_int q
def qkc:OpR X (binaryOp .Sub) (rI0 λi j=>.int (i-j)):=qm5 λ_ _ _ _ _ _ _ q=>sub_int q
def qma:OpR X (binaryOp .Mult) (rI zE λi j=>.int (i*j)):=opI λ_ _ _ _ _ _ _ hc q=>mul_int q hc.ok
def qgG:OpR X (binaryOp .FloorDiv) (rI M6 λi j=>.int (i/j)):=opI λi j _ _ _ _ _ hc q=>by
 have h1:(0:Int)<j:=hc.1;have h2:j<1073741824:=hc.2;exact floordiv_int (by omega) (by rw [Int.fdiv_eq_ediv_of_nonneg i (by omega)];exact q) (.inl (PyProof.noPylong_small (by omega)))
def qkj:OpR X (binaryOp .Mod) (rI (λ_ j=>0<j) λi j=>.int (i%j)):=opI λi j _ _ _ _ _ hc q=>by
 have h1:(0:Int)<j:=hc;exact mod_int' (by omega) (by rw [Int.fmod_eq_emod_of_nonneg i (by omega)];exact q)
def qjq:OpR X (binaryOp .Pow) (rI KP λi j=>.int (i ^ j.toNat)):=opI λ_ _ _ _ _ _ _ hc q=>pow_int_small hc.1 hc.2.1 hc.2.2 q
def qjz:OpR X (binaryOp .LShift) (rI KP λi j=>.int (i*2 ^ j.toNat)):=opI λ_ _ _ _ _ _ _ hc q=>lshift_int_small hc.1 hc.2.1 hc.2.2 q
def qie:OpR X (binaryOp .BitAnd) (rI0 λi j=>.int (Builtin.bitAnd i j)):=qm5 λ_ _ _ _ _ _ _ q=>and_int q
def unI {f:Value->Sem Value} {g:Int->Int}
  (rule:∀ (i:Int) (t:Tok) (s:Shared) (Q:Value->Shared->Prop) (E:Value->Shared->Prop),Q (.int (g i) s.toks) { s with toks:=s.toks+1 }->wpAny (model X.prog X.w) X.A (f (.int i t)) Q E s) :
  UnR X f (rU λi=>.int (g i)):=by
 intro pins s σ H x v Q I rx h;obtain ⟨i,rfl,q⟩:=h;obtain ⟨t,rfl⟩:=rx;exact rule i t s _ _ ⟨.int (g i),H,I.tok _,⟨_,rfl⟩,q⟩
def qkb:UnR X (unaryOp .USub) (rU λi=>.int (-i)):=unI λ_ _ _ _ _ q=>neg_int q
end
def qnm:V->V->Bool
 |.non,.non=>true|.non,.int _=>true|.int _,.non=>true|.non,.bl _=>true|.bl _,.non=>true|.non,.str _=>true|.str _,.non=>true
 |.int _,.int _=>true|.bl _,.bl _=>true|.str _,.str _=>true|.byt _,.byt _=>true
 |.int _,.str _=>true|.str _,.int _=>true|.bl _,.str _=>true|.str _,.bl _=>true
 |_,_=>false
def rEq:R2:=λx y H Q=>qnm x y=true/\Q (.bl (decide (x=y))) H
def rNe:R2:=λx y H Q=>qnm x y=true/\Q (.bl (!decide (x=y))) H
def qax {i j:Int}:decide (V.int i=V.int j)=(i==j):=by
 rw [Bool.eq_iff_iff];simp
def qej {i j:Bool}:decide (V.bl i=V.bl j)=(i==j):=by
 rw [Bool.eq_iff_iff];simp
def qal {i j:Str}:decide (V.str i=V.str j)=(i==j):=by
 rw [Bool.eq_iff_iff];simp
def qb4 {i j:Array UInt8}:decide (V.byt i=V.byt j)=(i.toList==j.toList):=by
 rw [Bool.eq_iff_iff];cases i;cases j;simp
section
variable {X:Cx} {a b c:Expr} {ta tb tc:TE} {pos:Pos}
def zi {pins:List (Addr×Obj)} {σ:St} {H:Hp} {s:Shared} {Q:VK} {k k':Bool} (I:Inv X pins σ H s) (q:Q (.bl k) H) (e:k=k'):EP X pins σ Q (.bool k') s:=by
 subst e;exact ⟨.bl k,H,I,rfl,q⟩
def qn1:OpR X (compareOp .Eq) rEq:=by
 intro pins s σ H x y v u Q I rx ry h;obtain ⟨hs,q⟩:=h;cases x with
 |non=>
  cases rx;cases y with
  |non=>cases ry;exact PySem.EqNone.eq_none_none (zi I q (by simp))
  |bl j=>cases ry;exact PySem.EqNone.eq_none_bool (zi I q (by simp))
  |int j=>obtain ⟨t',rfl⟩:=ry;exact PySem.EqNone.eq_none_int (zi I q (by simp))
  |str j=>obtain ⟨t',rfl⟩:=ry;exact PySem.EqNone.eq_none_str (zi I q (by simp))
  |_=>exact absurd (show false=true from hs) Bool.false_ne_true
 |bl i=>
  cases rx;cases y with
  |non=>cases ry;exact PySem.EqNone.eq_bool_none (zi I q (by simp))
  |bl j=>cases ry;exact eq_bool (zi I q qej)
  |str j=>obtain ⟨t',rfl⟩:=ry;exact PySem.EqMixed.eq_bool_str (zi I q (by simp))
  |_=>exact absurd (show false=true from hs) Bool.false_ne_true
 |int i=>
  obtain ⟨t,rfl⟩:=rx;cases y with
  |non=>cases ry;exact PySem.EqNone.eq_int_none (zi I q (by simp))
  |int j=>obtain ⟨t',rfl⟩:=ry;exact eq_int (zi I q qax)
  |str j=>obtain ⟨t',rfl⟩:=ry;exact PySem.EqMixed.eq_int_str (zi I q (by simp))
  |_=>exact absurd (show false=true from hs) Bool.false_ne_true
 |str i=>
  obtain ⟨t,rfl⟩:=rx;cases y with
  |non=>cases ry;exact PySem.EqNone.eq_str_none (zi I q (by simp))
  |bl j=>cases ry;exact PySem.EqMixed.eq_str_bool (zi I q (by simp))
  |int j=>obtain ⟨t',rfl⟩:=ry;exact PySem.EqMixed.eq_str_int (zi I q (by simp))
  |str j=>obtain ⟨t',rfl⟩:=ry;exact eq_str (zi I q qal)
  |_=>exact absurd (show false=true from hs) Bool.false_ne_true
 |byt i=>
  obtain ⟨t,rfl⟩:=rx;cases y with
  |byt j=>obtain ⟨t',rfl⟩:=ry;exact PySem.W.eq_bytes (zi I q qb4)
  |_=>exact absurd (show false=true from hs) Bool.false_ne_true
 |_=>cases y<;>exact absurd (show false=true from hs) Bool.false_ne_true
def qnp:OpR X (compareOp .NotEq) rNe:=by
 intro pins s σ H x y v u Q I rx ry h;obtain ⟨hs,q⟩:=h;cases x with
 |non=>
  cases rx;cases y with
  |non=>cases ry;exact PySem.EqNone.ne_none_none (zi I q (by simp))
  |bl j=>cases ry;exact PySem.EqNone.ne_none_bool (zi I q (by simp))
  |int j=>obtain ⟨t',rfl⟩:=ry;exact PySem.EqNone.ne_none_int (zi I q (by simp))
  |str j=>obtain ⟨t',rfl⟩:=ry;exact PySem.EqNone.ne_none_str (zi I q (by simp))
  |_=>exact absurd (show false=true from hs) Bool.false_ne_true
 |bl i=>
  cases rx;cases y with
  |non=>cases ry;exact PySem.EqNone.ne_bool_none (zi I q (by simp))
  |bl j=>cases ry;exact ne_bool (zi I q (congrArg not qej))
  |str j=>obtain ⟨t',rfl⟩:=ry;exact PySem.EqMixed.ne_bool_str (zi I q (by simp))
  |_=>exact absurd (show false=true from hs) Bool.false_ne_true
 |int i=>
  obtain ⟨t,rfl⟩:=rx;cases y with
  |non=>cases ry;exact PySem.EqNone.ne_int_none (zi I q (by simp))
  |int j=>obtain ⟨t',rfl⟩:=ry;exact ne_int (zi I q (congrArg not qax))
  |str j=>obtain ⟨t',rfl⟩:=ry;exact PySem.EqMixed.ne_int_str (zi I q (by simp))
  |_=>exact absurd (show false=true from hs) Bool.false_ne_true
 |str i=>
  obtain ⟨t,rfl⟩:=rx;cases y with
  |non=>cases ry;exact PySem.EqNone.ne_str_none (zi I q (by simp))
  |bl j=>cases ry;exact PySem.EqMixed.ne_str_bool (zi I q (by simp))
  |int j=>obtain ⟨t',rfl⟩:=ry;exact PySem.EqMixed.ne_str_int (zi I q (by simp))
  |str j=>obtain ⟨t',rfl⟩:=ry;exact ne_str (zi I q (congrArg not qal))
  |_=>exact absurd (show false=true from hs) Bool.false_ne_true
 |byt i=>
  obtain ⟨t,rfl⟩:=rx;cases y with
  |byt j=>obtain ⟨t',rfl⟩:=ry;exact PySem.W.ne_bytes (zi I q (congrArg not qb4))
  |_=>exact absurd (show false=true from hs) Bool.false_ne_true
 |_=>cases y<;>exact absurd (show false=true from hs) Bool.false_ne_true
def qc1:OpR X (compareOp .Lt) (rI0 λi j=>.bl (decide (i<j))):=qnH λ_ _ _ _ _ _ _ q=>lt_int q
def TY:OpR X (compareOp .Gt) (rI0 λi j=>.bl (decide (j<i))):=qnH λ_ _ _ _ _ _ _ q=>gt_int q
def qn7:OpR X (compareOp .GtE) (rI0 λi j=>.bl (decide (j<=i))):=qnH λ_ _ _ _ _ _ _ q=>ge_int q
def qjn:OpR X (compareOp .Is) (λx y H Q=>y=.non/\Q (.bl (decide (x=.non))) H):=by
 intro pins s σ H x y v u Q I rx ry h;obtain ⟨rfl,q⟩:=h;cases ry;refine is_none_gen (zi I q ?_);cases x<;>first
  | (cases rx;rfl)
  | (obtain ⟨t,rfl⟩:=rx;rfl)
def OpR.or {f:Value->Value->Sem Value} {r r':R2} (h:OpR X f r) (h':OpR X f r'):OpR X f (λx y H Q=>r x y H Q\/r' x y H Q):=by
 intro pins s σ H x y v u Q I rx ry q;rcases q with q|q
 ·exact h pins s σ H x y v u Q I rx ry q
 ·exact h' pins s σ H x y v u Q I rx ry q
def qE (b:Expr) {op:CmpOp} (h:op≠.In:=by decide) (h2:op≠.NotIn:=by decide):behindInMarks op b=false:=by
 have e1:(op==CmpOp.In)=false:=by cases op<;>first|rfl|exact absurd rfl h
 have e2:(op==CmpOp.NotIn)=false:=by cases op<;>first|rfl|exact absurd rfl h2
 cases b<;>simp [behindInMarks,e1,e2]
def qfM {op:CmpOp} {r:R2} (ho:OpR X (compareOp op) r) (ha:PE X a ta) (hb:PE X b tb) (hm:behindInMarks op b=false):PE X (.Compare a [op] [b] pos) (tOp r ta tb):=by
 intro pins s σ H Q I h;exact wpAny_Compare1 (qon ha hb I h λv u s2 x y H2 I2 rx ry q=>ho pins s2 σ H2 x y v u Q I2 rx ry q) hm
def qkp (t:TE):TT:=λσ H Q=>t σ H λx H'=>∃ k,x=.bl k/\Q k H'
def qf1 {op:CmpOp} {r:R2} (ho:OpR X (compareOp op) r) (ha:PE X a ta) (hb:PE X b tb) (hm:behindInMarks op b=false):PT X (.Compare a [op] [b] pos) (qkp (tOp r ta tb)):=by
 intro pins s σ H Q I h;refine wpAny_isTrue_Compare1 (thn (ha pins s σ H _ I h) λv s1 ⟨x,H1,I1,r1,q1⟩=>thn (hb pins s1 σ H1 _ I1 q1) λu s2 ⟨y,H2,I2,r2,q2⟩=>
  thn (ho pins s2 σ H2 x y v u _ I2 r1 r2 q2) λc s3 ⟨z,H3,I3,r3,k,e,q3⟩=>?_) hm
 subst e;cases r3;exact wpAny_truthy_bool ⟨H3,I3,q3⟩
def TL:(sizeLine:Nat)<2 ^ 63:=by rw [sizeLine_eq];decide
def EY {x:V} {us:List Value} (r:jk [x] us):∃ u,us=[u]/\jJ x u:=by
 cases r with
 |cons r1 r2=>cases r2;exact ⟨_,rfl,r1⟩
def qiJ {x y:V} {us:List Value} (r:jk [x,y] us):∃ u w',us=[u,w']/\jJ x u/\jJ y w':=by
 cases r with
 |cons r1 r2=>
  cases r2 with
  |cons r3 r4=>cases r4;exact ⟨_,_,rfl,r1,r3⟩
def NH:J9 X (.builtin "abs") (λxs H Q=>∃ i,xs=[.int i]/\Q (.int (if i<0 then -i else i)) H):=by
 intro pins s σ H xs us Q I r h;obtain ⟨i,rfl,q⟩:=h;obtain ⟨u,rfl,t,rfl⟩:=EY r;exact call_abs_int λu tk=>⟨.int (if i<0 then -i else i),H,I.tok _,⟨_,rfl⟩,q⟩
def T2 (hc:X.calm=true):J9 X (.builtin "min") (λxs H Q=>∃ i j,xs=[.int i,.int j]/\Q (.int (if j<i then j else i)) H):=by
 intro pins s σ H xs us Q I r h;obtain ⟨i,j,rfl,q⟩:=h;obtain ⟨u,w',rfl,⟨t,rfl⟩,⟨t',rfl⟩⟩:=qiJ r;refine min_two_ints (I.ok.hd hc) λh' tk k=>⟨_,H,I.kept k,?_,q⟩
 by_cases hj:j<i
 ·rw [if_pos hj,if_pos hj];exact ⟨_,rfl⟩
 ·rw [if_neg hj,if_neg hj];exact ⟨_,rfl⟩
def jX:J9 X (.type "int") (λxs H Q=>(∃ i,xs=[.int i]/\Q (.int i) H)\/∃ k,xs=[.bl k]/\Q (.int (if k then 1 else 0)) H):=by
 intro pins s σ H xs us Q I r h;rcases h with ⟨i,rfl,q⟩|⟨k,rfl,q⟩
 ·obtain ⟨u,rfl,t,rfl⟩:=EY r;exact call_int_int ⟨.int i,H,I,⟨_,rfl⟩,q⟩
 ·obtain ⟨u,rfl,r1⟩:=EY r;cases r1;exact call_int_bool ⟨.int (if k then 1 else 0),H,I.tok _,⟨_,rfl⟩,q⟩
def qoO (K:Frg) (x:V) (H:Hp) (n:Nat):Prop:=
 match x with
 |.str y=>y.length<=sizeLine/\n=y.length
 |.byt y=>y.size<=sizeLine/\n=y.size
 |.ref p=>(∃ xs,SqL K H p xs/\n=xs.length)\/∃ xs,SqT K H p xs/\n=xs.length
 |_=>False
def zb:J9 X (.builtin "len") (λxs H Q=>∃ x n,xs=[x]/\qoO X.K x H n/\Q (.int n) H):=by
 intro pins s σ H xs us Q I r h;obtain ⟨x,n,rfl,e,q⟩:=h;obtain ⟨u,rfl,rx⟩:=EY r;have hl:=TL;have hs:sizeLine=16777216:=sizeLine_eq;cases x with
 |str y=>
  obtain ⟨t,rfl⟩:=rx;obtain ⟨hy,e'⟩:y.length<=sizeLine/\n=y.length:=e;subst e';exact len_str (by omega) ⟨.int _,H,I.tok _,⟨_,rfl⟩,q⟩
 |byt y=>
  obtain ⟨t,rfl⟩:=rx;obtain ⟨hy,e'⟩:y.size<=sizeLine/\n=y.size:=e;subst e';exact PySem.W.len_bytes (by omega) ⟨.int _,H,I.tok _,⟨_,rfl⟩,q⟩
 |ref p=>
  cases rx;have e':(∃ xs,SqL X.K H p xs/\n=xs.length)\/∃ xs,SqT X.K H p xs/\n=xs.length:=e;rcases e' with ⟨xs,hx,e'⟩|⟨xs,hx,e'⟩
  ·subst e';obtain ⟨its,r',pl,hz⟩:=I.list hx;have hlen:=r'.length;exact Calls.call_len_list pl.isList (by simp only [size_toArray];omega) ⟨.int xs.length,H,I.tok _,⟨_,by simp only [size_toArray];rw [hlen]⟩,q⟩
  ·subst e';obtain ⟨its,r',pl,hz⟩:=I.tuple hx;have hlen:=r'.length;exact len_tuple pl (by simp only [size_toArray];omega) ⟨.int xs.length,H,I.tok _,⟨_,by simp only [size_toArray];rw [hlen]⟩,q⟩
 |_=>exact (show False from e).elim
end
section
variable {prog:Program} {w:World} {A:Around} {E:Value->Shared->Prop} {s:Shared} {K:Frg} {x dx C f:Addr} {mA:Str->Option Value} {name:Str} {v:Value}
end
section
variable {P:Program} {w:World} {H H':Hp} {h h':Heap} {a C dx:Addr} {fs fs':List (Str×V)}
end
section
variable {X:Cx} {pins:List (Addr×Obj)} {σ:St} {H:Hp} {s:Shared} {a C dx:Addr} {fs:List (Str×V)} {f:Str} {v:V} {A:Around} {E:Value->Shared->Prop}
def Inv.made (I:Inv X pins σ H s):Inv X pins σ (upd (upd H s.heap.objs.size (.own (s.heap.objs.size+1))) (s.heap.objs.size+1) (.ins C s.heap.objs.size []))
  { s with heap:=(s.heap.push PySem.W.emptyDict).push (PySem.W.instObj C s.heap.objs.size) }:=by
 have e1:(s.heap.push PySem.W.emptyDict).get? s.heap.objs.size=some PySem.W.emptyDict:=Heap.get?_push_size s.heap rfl;have e2:((s.heap.push PySem.W.emptyDict).push (PySem.W.instObj C s.heap.objs.size)).get? (s.heap.objs.size+1)=some (PySem.W.instObj C s.heap.objs.size):=by
  have:=Heap.get?_push_size (s.heap.push PySem.W.emptyDict) (o:=PySem.W.instObj C s.heap.objs.size) rfl
  rwa [Heap.size_push] at this
 have e3:(s.heap.push PySem.W.emptyDict).Ns s.heap.objs.size (λ_=>none):=⟨PySem.W.emptyDict,#[],_,e1,rfl,(λe he=>absurd he (by simp)),λ_=>rfl⟩
 have I1:=I.laid (a:=s.heap.objs.size) (o:=.own (s.heap.objs.size+1)) (h':=s.heap.push PySem.W.emptyDict) (t':=s.toks) (λb u q=>Heap.get?_push_of_some _ q) (Nat.le_refl _) ⟨_,e1⟩;refine I1.laid (a:=s.heap.objs.size+1) (o:=.ins C s.heap.objs.size []) (t':=s.toks) (λb u q=>Heap.get?_push_of_some _ q) (Nat.le_of_eq (Heap.size_push _ _)) ?_;have ne:s.heap.objs.size≠s.heap.objs.size+1:=Nat.ne_of_lt (Nat.lt_succ_self _);refine ⟨by rw [qK ne,zf],Nat.zero_le _,ne,e2,λ_=>none,(Heap.Ns1.of_empty e3).at λo q=>Heap.get?_push_of_some _ q,λ_=>True.intro,λy hy=>absurd rfl hy⟩
end
section
variable {X:Cx} {o e value:Expr} {f:Str} {pos pos' tpos:Pos} {ta tv:TE}
end
section
variable {X:Cx} {pins:List (Addr×Obj)} {σ:St} {H:Hp} {s:Shared} {A:Around} {E:Value->Shared->Prop} {Q:Value->Shared->Prop} {c:Value} {b:Bool}
end
structure Room (k:Nat) (A:Around):Prop where
 hd:A.handled=none
 dp:A.depth+3*k+5<recursionLimit
 un:A.units+16*k+200<cLine
 gd:A.guards=some []
def Room.mono {j k:Nat} {A:Around} (r:Room k A) (h:j<=k):Room j A:=⟨r.hd,by have:=r.dp;omega,by have:=r.un;omega,r.gd⟩
def Room.deeper {k:Nat} {A:Around} (r:Room (k+1) A) (env:Env):Room k (A.deeper env):=
 ⟨r.hd,by have:=r.dp;show A.depth+1+3*k+5<_;omega,by have:=r.un;show A.units+3+16*k+200<_;omega,r.gd⟩
def Room.in1 {k:Nat} {A:Around} (r:Room (k+1) A):Room k A.in1:=
 ⟨r.hd,by have:=r.dp;show A.depth+3*k+5<_;omega,by have:=r.un;show A.units+1+16*k+200<_;omega,r.gd⟩
def Room.depth {k:Nat} {A:Around} (r:Room k A):A.depth<recursionLimit:=by have:=r.dp;omega
def Room.units {k:Nat} {A:Around} (r:Room k A):A.units+64<cLine:=by have:=r.un;omega
def qpV:TA:=λ_ H Q=>Q [] H
def qnL (ta:TE) (tr:TA):TA:=λσ H Q=>ta σ H λx H1=>tr σ H1 λxs H2=>Q (x::xs) H2
section
variable {X:Cx} {e:Expr} {es:List Expr} {te:TE} {t:TA} {pos:Pos}
def T4:PA X [] qpV:=λ_ _ _ _ H Q I h=>Calls.spliced_nil ⟨[],H,I,.nil,h⟩
def WP (ha:PE X e te) (hr:PA X es t) (hs:starEach (e::es) X.env=(false,eval e X.env)::starEach es X.env:=by rfl):PA X (e::es) (qnL te t):=by
 intro pos pins s σ H Q I h;rw [hs];show wpAny _ _ (spliced ((false,eval e X.env)::backTo pos (starEach es X.env))) _ _ s;refine Calls.spliced_cons (thn (ha pins s σ H _ I h) λu s1 ⟨x,H1,I1,r1,q1⟩=>?_);exact thn (hr pos pins s1 σ H1 _ I1 q1) λus s2 ⟨xs,H2,I2,r2,q2⟩=>⟨x::xs,H2,I2,.cons r1 r2,q2⟩
def qp3 (t:TA):TE:=λσ H Q=>t σ H λxs H1=>xs.length<=sizeLine/\∀ p,H1 p=none->Q (.ref p) (upd H1 p (.tup xs))
def qpR (t:TA):TE:=λσ H Q=>t σ H λxs H1=>xs.length<=sizeLine/\∀ p,H1 p=none->Q (.ref p) (upd H1 p (.lst xs))
def qkw {x1} (h:PA X es t):PE X (.Tuple es x1 pos) (qp3 t):=by
 intro pins s σ H Q I hq;refine wpAny_Tuple_spliced (thn (h pos pins s σ H _ I hq) λus s1 ⟨xs,H1,I1,r,z,q⟩=>⟨by rw [← r.length];exact z,?_⟩);have hf:H1 s1.heap.objs.size=none:=I1.hok.fresh (Nat.le_refl _);refine ⟨.ref s1.heap.objs.size,upd H1 s1.heap.objs.size (.tup xs),I1.laid (t':=s1.toks) (λb u e=>Heap.get?_push_of_some _ e) (Nat.le_refl _) ?_,rfl,q _ hf⟩;exact ⟨z,us,r,⟨_,Heap.get?_push_size _ rfl,rfl,_,rfl⟩⟩
def qi4 (h:PA X es t):PE X (.List es pos) (qpR t):=by
 intro pins s σ H Q I hq;refine wpAny_List_spliced (thn (h pos pins s σ H _ I hq) λus s1 ⟨xs,H1,I1,r,z,q⟩=>⟨by rw [← r.length];exact z,?_⟩);have hf:H1 s1.heap.objs.size=none:=I1.hok.fresh (Nat.le_refl _);refine ⟨.ref s1.heap.objs.size,upd H1 s1.heap.objs.size (.lst xs),I1.laid (t':=s1.toks) (λb u e=>Heap.get?_push_of_some _ e) (Nat.le_refl _) ?_,rfl,q _ hf⟩;exact ⟨z,us,0,r,Heap.get?_push_size _ rfl⟩
end
abbrev Sp:=List V->Hp->VK->XK->Prop
abbrev CXT:=List Env->Hp->Shared->XK->Value->Shared->Prop
structure Env0 (P:Program) (w:World) (K:Frg) (mg:Str->Option Value) (base:Heap) (A:Around) (outer:List Env) (s:Shared) (H:Hp):Prop where
 frames:A.frames=some outer
 mod:Mod K mg base
 bs:∀ b o,base.get? b=some o->s.heap.get? b=some o/\H b=none
 bsz:base.objs.size<=s.heap.objs.size
 funs:s.heap.FunFrames base outer
 frf:∀ b∈frs outer,H b=none
 hok:HOk P w H s.heap
 bare:AllBare s.gens
def CE (outer:List Env) (P:Program) (w:World) (H:Hp) (s:Shared) (Q:VK) (u:Value) (s':Shared):Prop:=
 ∃ v H',s'.os=s.os/\AllBare s'.gens/\Un (frs outer) [] H H' s.heap s'.heap/\HOk P w H' s'.heap/\jJ v u/\Q v H'
def CR (CX:CXT) (outer:List Env) (P:Program) (w:World) (H:Hp) (s:Shared) (Q:VK) (E:XK) (r:Result) (s':Shared):Prop:=
 match r with
 |.ok (.ret u)=>CE outer P w H s Q u s'
 |.ok _=>False
 |.error e=>CX outer H s E e s'
structure FnOk (P:Program) (w:World) (K:Frg) (mg:Str->Option Value) (base:Heap) (CX:CXT) (k:Nat) (f:Addr) (fd:FuncData) (ps:List Str) (sp:Sp):Prop where
 len:∀ vs H Q E,sp vs H Q E->vs.length=ps.length
 run:∀ (A:Around) (outer:List Env) (s:Shared) (H:Hp) (args:Args) (us:List Value) (vs:List V) (Q:VK) (E:XK),Room k A->Env0 P w K mg base A outer s H->BindsTo s fd args (ps.zip us)->jk vs us->sp vs H Q E ->
  codeAny (model P w) A (.call (.ref f) args) (CR CX outer P w H s Q E) s
def FnOk.mono {P:Program} {w:World} {K:Frg} {mg:Str->Option Value} {base:Heap} {CX:CXT} {j k:Nat} {f:Addr} {fd:FuncData} {ps:List Str} {sp:Sp} (F:FnOk P w K mg base CX j f fd ps sp) (h:j<=k) :
  FnOk P w K mg base CX k f fd ps sp:=⟨F.len,λA outer s H args us vs Q E hr=>F.run A outer s H args us vs Q E (hr.mono h)⟩
def FnOk.imp {P:Program} {w:World} {K:Frg} {mg:Str->Option Value} {base:Heap} {CX:CXT} {k:Nat} {f:Addr} {fd:FuncData} {ps:List Str} {sp sp':Sp} (F:FnOk P w K mg base CX k f fd ps sp)
  (h:∀ vs H Q E,sp' vs H Q E->sp vs H Q E):FnOk P w K mg base CX k f fd ps sp':=
 ⟨λvs H Q E q=>F.len vs H Q E (h _ _ _ _ q),λA outer s H args us vs Q E hr he hb hv hs=>F.run A outer s H args us vs Q E hr he hb hv (h _ _ _ _ hs)⟩
def Env0.in1 {P:Program} {w:World} {K:Frg} {mg:Str->Option Value} {base:Heap} {A:Around} {outer:List Env} {s:Shared} {H:Hp} (e:Env0 P w K mg base A outer s H) :
  Env0 P w K mg base A.in1 outer s H:=⟨e.frames,e.mod,e.bs,e.bsz,e.funs,e.frf,e.hok,e.bare⟩
section
variable {X:Cx} {pins:List (Addr×Obj)} {σ:St} {H:Hp} {s s':Shared}
def Inv.env0 (I:Inv X pins σ H s):Env0 X.prog X.w X.K X.mg X.base X.A X.stack s H:=
 ⟨I.ok.frames,I.ok.mod,I.bs,Nat.le_trans I.ok.bsz I.sz,I.stack,I.stkFree,I.hok,I.bare⟩
def Inv.after {Q:VK} {u:Value} (I:Inv X pins σ H s) (h:CE X.stack X.prog X.w H s Q u s'):EP X pins σ Q u s':=by
 obtain ⟨v,H',os,bare,un,hok,r,q⟩:=h;obtain ⟨hh,g,d,t,os'⟩:=s';obtain rfl:os'=s.os:=os;exact ⟨v,H',I.call (h':=hh) (g':=g) (d':=d) (t':=t) (ch:=[]) un hok bare (λb z=>absurd z (by simp)),r,q⟩
end
def qnu (sp:Sp) (dvs:List V) (E:XK) (t:TA):TE:=λσ H Q=>t σ H λvs H1=>sp (vs++dvs) H1 Q E
def zr (K:Frg) (fd:FuncData) (ps:List Str) (ds:List Value):Prop:=
 ∀ (s:Shared) (us:List Value),K.In s.heap->(us++ds).length=ps.length->BindsTo s fd ⟨us,[]⟩ (ps.zip (us++ds))
def zr.all {K:Frg} {fd:FuncData} {ps:List Str} (h:∀ us:List Value,us.length=ps.length->bindArgs fd ⟨us,[]⟩=pure (ps.zip us)):zr K fd ps []:=λs us _ hl=>by
 rw [List.append_nil] at hl ⊢;exact .of_eq (h us hl)
def qai (CX:CXT) (X:Cx) (E:XK):Prop:=∀ (pins:List (Addr×Obj)) (σ:St) (H:Hp) (s:Shared) (e:Value) (s':Shared),Inv X pins σ H s->CX X.stack H s E e s'->X.xe e s'
section
variable {X:Cx} {CX:CXT} {k:Nat} {f C:Addr} {fd:FuncData} {ps:List Str} {sp:Sp} {dvs:List V} {ds:List Value} {E:XK} {x m:Str} {p pos apos:Pos} {e o:Expr} {es:List Expr} {ta:TE} {t:TA}
def qiQ {pins:List (Addr×Obj)} {σ:St} {H:Hp} {s:Shared} {Q:VK} {us:List Value} {vs:List V} (F:FnOk X.prog X.w X.K X.mg X.base CX k f fd ps sp) (hr:Room k X.A) (hb:zr X.K fd ps ds) (hd:jk dvs ds) (hx:qai CX X E)
  (I:Inv X pins σ H s) (r:jk vs us) (h:sp (vs++dvs) H Q E):wpAny (model X.prog X.w) X.A (call (.ref f) us) (EP X pins σ Q) X.xe s:=by
 have r2:jk (vs++dvs) (us++ds):=r.append hd;have hl:(us++ds).length=ps.length:=by rw [← r2.length];exact F.len _ _ _ _ h
 refine wpAny_call (codeAny_mono (F.run X.A X.stack s H ⟨us,[]⟩ (us++ds) (vs++dvs) Q E hr I.env0 (hb s us I.kIn hl) r2 h) λr s' hq=>?_);cases r with
 |error e=>exact hx pins σ H s e s' I hq
 |ok fl=>
  cases fl with
  |ret u=>exact I.after hq
  |next=>exact False.elim hq
  |brk=>exact False.elim hq
  |cont=>exact False.elim hq
def qg8 (F:FnOk X.prog X.w X.K X.mg X.base CX k f fd ps sp) (hr:Room k X.A) (hg:Gl X x) (hm:X.mg x=some (.ref f)) (hk:PySem.W.keepIn X.K (.ref f)=true) (hb:zr X.K fd ps ds) (hd:jk dvs ds) (hx:qai CX X E)
  (ha:PA X (e::es) t) (hdb:(x==("__debug__" : Str))=false:=by decide) (he:starEach (e::es) X.env=(false,eval e X.env)::starEach es X.env:=by rfl) (hpl:(backTo pos (starEach es X.env)).any (·.1)=false:=by rfl) :
  PE X (.Call (.Name x p) (e::es) [] pos) (qnu sp dvs E t):=by
 intro pins s σ H Q I h;refine wpAny_Call_Name_kw (qbS I hg hm ?_ hdb);refine PySem.W.callWith_K (h₀:=X.base) I.ok.mod.kin hk (thn (ha pos pins s σ H _ I h) λus s1 ⟨vs,H1,I1,r,q⟩=>⟨I1.kIn,?_⟩) he hpl;exact qiQ F hr hb hd hx I1 r q
end
section
variable {X:Cx} {CX:CXT} {k:Nat} {f C:Addr} {fd:FuncData} {ps ks:List Str} {sp:Sp} {E:XK} {x m:Str} {p pos apos kpos:Pos} {e o:Expr} {es:List Expr} {kws:List Keyword} {te ta:TE} {t tk:TA} {nm:Option Str}
variable {g:List Value->List Value->List Value} {gV:List V->List V->List V}
end
structure FnScope (N P:List Str) (sc:Scope):Prop where
 kind:sc.kind=.function
 co:sc.isCoroutine=false
 gen:sc.isGenerator=false
 nd:N.Nodup
 pre:N.take P.length=P
 par:∀ x∈P,sc.names.lookup x=some .local\/sc.names.lookup x=some .cell
 nofree:∀ y∈sc.names,y.2≠.free
def KH {kindOf:Str->Option NameKind} {x:Str}:∀ {binds:List (Str×Value)} {m:Str->Option Value},(∀ v,(x,v)∉binds)->bindL kindOf binds m x=m x
 |[],_,_=>rfl
 | (n,v)::r,m,h=>by
  unfold bindL;rw [KH λw hw=>h w (List.mem_cons_of_mem _ hw)];split
  ·have:x≠n:=by rintro rfl;exact h v List.mem_cons_self
   simp [this]
  ·rfl
def SU {kindOf:Str->Option NameKind} {x:Str}:∀ {binds:List (Str×Value)} {m:Str->Option Value},(∀ v,(x,v)∉binds)->bindC kindOf binds m x=m x
 |[],_,_=>rfl
 | (n,v)::r,m,h=>by
  unfold bindC;rw [SU λw hw=>h w (List.mem_cons_of_mem _ hw)];split
  ·rfl
  ·have:x≠n:=by rintro rfl;exact h v List.mem_cons_self
   simp [this]
def T5 {kindOf:Str->Option NameKind} {x:Str} {v:Value}:∀ {P:List Str} {vs:List Value} {i:Nat} {m:Str->Option Value},P.Nodup->P[i]?=some x->vs[i]?=some v->kindOf x=some .local ->
  bindL kindOf (P.zip vs) m x=some v
 |[],_,_,_,_,h,_,_=>by simp at h
 |_::_,[],_,_,_,_,h,_=>by simp at h
 |p::P,w::vs,0,m,nd,h1,h2,hk=>by
  simp at h1 h2;subst h1;subst h2;show bindL kindOf ((p,w)::P.zip vs) m p=_;unfold bindL;rw [KH λv hv=>(List.nodup_cons.mp nd).1 (List.of_mem_zip hv).1,if_pos hk];simp
 |p::P,w::vs,i+1,m,nd,h1,h2,hk=>by
  show bindL kindOf ((p,w)::P.zip vs) m x=_;unfold bindL;exact T5 (i:=i) (List.nodup_cons.mp nd).2 (by simpa using h1) (by simpa using h2) hk
def SX {kindOf:Str->Option NameKind} {x:Str} {v:Value}:∀ {P:List Str} {vs:List Value} {i:Nat} {m:Str->Option Value},P.Nodup->P[i]?=some x->vs[i]?=some v->kindOf x≠some .local ->
  bindC kindOf (P.zip vs) m x=some v
 |[],_,_,_,_,h,_,_=>by simp at h
 |_::_,[],_,_,_,_,h,_=>by simp at h
 |p::P,w::vs,0,m,nd,h1,h2,hk=>by
  simp at h1 h2;subst h1;subst h2;show bindC kindOf ((p,w)::P.zip vs) m p=_;unfold bindC;rw [SU λv hv=>(List.nodup_cons.mp nd).1 (List.of_mem_zip hv).1,if_neg hk];simp
 |p::P,w::vs,i+1,m,nd,h1,h2,hk=>by
  show bindC kindOf ((p,w)::P.zip vs) m x=_;unfold bindC;exact SX (i:=i) (List.nodup_cons.mp nd).2 (by simpa using h1) (by simpa using h2) hk
def W7 (N:List Str) (vs:List V):St:=vs.map some++List.replicate (N.length-vs.length) none
def qcu (CX:CXT) (P:Program) (w:World) (K:Frg) (mg:Str->Option Value) (base:Heap) (N:List Str) (qual:Str) (scope:Scope) (f:Addr) (cd:Value) (A:Around) (outer:List Env) (s:Shared) (H:Hp) (E:XK):Cx where
 prog:=P
 w:=w
 K:=K
 mg:=mg
 base:=base
 A:=A.deeper (envOfC qual scope s.heap.objs.size f cd)
 N:=N
 s₀:=s
 H₀:=H
 env:=envOfC qual scope s.heap.objs.size f cd
 outer:=outer
 stack:=envOfC qual scope s.heap.objs.size f cd::outer
 ex:=[]
 calm:=true
 fn:=λ_=>true
 pn:=[]
 xe:=λe s'=>wpAny (model P w) (A.deeper (envOfC qual scope s.heap.objs.size f cd)) (leaving (envOfC qual scope s.heap.objs.size f cd) e) (λ_ s''=>CX outer H s E e s'') (λe' s''=>CX outer H s E e' s'') s'
def M0 {sc:Scope} {n:Nat} {x:Str} (h:sc.names.lookup x=some .cell):∃ c,(cellsFrom n sc.names []).lookup x=some c:=by
 have q:=PySem.W.cellsFrom_some sc.names n [] (.inl h);exact Option.isSome_iff_exists.mp q
def qcg {CX:CXT} {P:Program} {w:World} {K:Frg} {mg:Str->Option Value} {base:Heap} {N ps:List Str} {qual:Str} {scope:Scope} {f:Addr} {cd:Value} {A:Around} {outer:List Env} {s s1:Shared} {H:Hp} {E:XK} {us:List Value} {vs:List V}
  (S:FnScope N ps scope) (hd:A.handled=none) (e0:Env0 P w K mg base A outer s H) (hl:vs.length=ps.length) (r:jk vs us)
  (x:InCallC s s.heap.objs.size (bindL (envOfC qual scope s.heap.objs.size f cd).kindOf (ps.zip us) λ_=>none) (cellsFrom (s.heap.objs.size+1) scope.names []) (bindC (envOfC qual scope s.heap.objs.size f cd).kindOf (ps.zip us) λ_=>none) s1) :
  Inv (qcu CX P w K mg base N qual scope f cd A outer s H E) [] (W7 N vs) H s1:=by
 have hpl:ps.length<=N.length:=by have:=congrArg List.length S.pre;rw [List.length_take] at this;omega
 obtain ⟨h1,tk,rfl,hk⟩:=x.done;have noA:∀ b:Addr,b∉(qcu CX P w K mg base N qual scope f cd A outer s H E).ex:=λb z=>absurd (show b∈([]:List Addr) from z) (by simp);refine ⟨⟨e0.mod,S.kind,rfl,rfl,Nat.le_refl _,λy z c h1 h2=>?_,λy hy=>?_,λy c _ h=>?_,λ_=>hd,Around.frames_deeper e0.frames,.inr ⟨rfl,rfl⟩,λb z=>absurd z (noA b),e0.bs,e0.bsz,λb _ _=>noA b,λb z=>absurd z (noA b),e0.funs,e0.frf⟩,
  rfl,e0.bare,Un.kept hk,⟨_,x.toInCall.ns,λi y v h1 h2 h3=>?_⟩,λy c h=>⟨_,x.cell y c h⟩,e0.hok.fresh (Nat.le_refl _),λy c h=>?_,λp hp=>absurd (show p∈([]:List (Addr×Obj)) from hp) (by simp),e0.hok.kept hk,?_⟩
 ·exact name_of_addr x.apart (PySem.mem_of_lookup h1) (PySem.mem_of_lookup h2)
 ·have hy:scope.names.lookup y=some .cell\/scope.names.lookup y=some .free:=hy;rcases hy with hy|hy
  ·exact M0 hy
  ·exact absurd rfl (S.nofree _ (PySem.mem_of_lookup hy))
 ·exact Nat.le_of_lt (x.above y c (PySem.mem_of_lookup h))
 ·have hi:i<vs.length:=by
   unfold W7 at h2;by_cases hi:i<vs.length
   ·exact hi
   ·rw [List.getElem?_append_right (by simpa using hi)] at h2;rw [List.getElem?_replicate] at h2;split at h2<;>cases h2
  have ha:vs[i]?=some v:=by
   unfold W7 at h2;rw [List.getElem?_append_left (by simpa using hi),getElem?_map] at h2;cases e:vs[i]? with
   |none=>rw [e] at h2;cases h2
   |some a=>rw [e] at h2;cases h2;rfl
  obtain ⟨u,hu,rv⟩:=r.get ha;have hp:ps[i]?=some y:=by
   rw [← S.pre,List.getElem?_take_of_lt (by omega)];exact h1
  have ndP:ps.Nodup:=by rw [← S.pre];exact S.nd.sublist (List.take_sublist _ _)
  refine ⟨u,rv,?_⟩;rcases S.par y (mem_of_getElem? hp) with k|k
  ·exact .inl ⟨k,T5 ndP hp hu k⟩
  ·obtain ⟨c,e⟩:=M0 (n:=s.heap.objs.size+1) k;refine .inr ⟨.inl k,c,e,?_⟩;have q:=x.cell y c e;rw [SX ndP hp hu (by show scope.names.lookup y≠_;rw [k];decide)] at q;exact q
 ·exact e0.hok.fresh (Nat.le_of_lt (x.above y c (PySem.mem_of_lookup h)))
 ·unfold W7;show _=N.length;rw [length_append,length_map,List.length_replicate];omega
def qng {CX:CXT} {P:Program} {w:World} {K:Frg} {mg:Str->Option Value} {base:Heap} {k:Nat} {f:Addr} {name qual:Str} {params:Arguments} {body:List Stmt} {scope:Scope} {dV kV doc pm cdv ct oc:Value} {an od:Option Addr}
  {osl:Array (Option Value)} {N ps:List Str} {sp:Sp} (lk:K.lookup f=some ⟨oc,od,.func (PySem.W.fnOf name qual params body scope dV kV doc pm an cdv ct),osl⟩) (hcd:PySem.W.codeIn K cdv qual=true) (S:FnScope N ps scope)
  (len:∀ vs H Q E,sp vs H Q E->vs.length=ps.length)
  (hbody:∀ (A:Around) (outer:List Env) (s:Shared) (H:Hp) (vs:List V) (Q:VK) (E:XK),Room k (A.deeper (envOfC qual scope s.heap.objs.size f cdv))->sp vs H Q E ->
   ∃ t,PSs (qcu CX P w K mg base N qual scope f cdv A outer s H E) body t/\t { nx:=λ_ H'=>Q .non H',rt:=Q } (W7 N vs) H) :
  FnOk P w K mg base CX (k+1) f (PySem.W.fnOf name qual params body scope dV kV doc pm an cdv ct) ps sp:=by
 refine ⟨len,λA outer s H args us vs Q E hr e0 hb r hsp=>?_⟩;have hl:=len _ _ _ _ hsp;have KX:K.In s.heap:=e0.mod.kin.keeps λb o e=>(e0.bs b o e).1;have lim:s.heap.NoLimit:=e0.mod.nolimit.keeps λb o e=>(e0.bs b o e).1;have hkind:∀ y∈ps.zip us,scope.names.lookup y.1=some .local\/(scope.names.lookup y.1=some .cell/\((cellsFrom (s.heap.objs.size+1) scope.names []).lookup y.1).isSome=true):=λ⟨n,v⟩ hy=>by
  rcases S.par n (List.of_mem_zip hy).1 with q|q
  ·exact .inl q
  ·exact .inr ⟨q,PySem.W.cellsFrom_some _ _ _ (.inl q)⟩
 refine codeAny_call_function hr.depth (KX _ _ lk) rfl S.co S.gen rfl (PySem.W.codeRec_of KX hcd) (hb _ _ _ _ ?_);refine wpAny_newFunctionEnv_cells S.kind hkind λenv he s1 x=>?_;subst he;refine ⟨lim.keeps x.toInCall.keep,codeAny_func ?_⟩;obtain ⟨t,ht,hq⟩:=hbody A outer s H vs Q E (hr.deeper _) hsp;have I:Inv (qcu CX P w K mg base N qual scope f cdv A outer s H E) [] (W7 N vs) H s1:=qcg S hr.hd e0 hl r x;refine wpAny_mono (ht [] s1 (W7 N vs) H _ I hq) (λfl s' hs=>?_) λe s' hs=>hs;have fin:∀ {σ':St} {H':Hp} {v:V} {u:Value},Inv (qcu CX P w K mg base N qual scope f cdv A outer s H E) [] σ' H' s'->jJ v u->Q v H'->CE outer P w H s Q u s':=
  λ{σ' H' v u} J rv q=>⟨v,H',J.os,J.bare,J.base,J.hok,rv,q⟩
 cases fl with
 |ret u=>
  obtain ⟨v,σ',H',J,rv,q⟩:=hs;exact fin J rv q
 |next=>
  obtain ⟨σ',H',J,q⟩:=hs;exact fin (v:=V.non) (u:=Value.none) J rfl q
 |brk=>
  obtain ⟨_,_,_,q⟩:=hs;exact False.elim q
 |cont=>
  obtain ⟨_,_,_,q⟩:=hs;exact False.elim q
section
variable {X:Cx} {x:Str} {p pos:Pos} {e:Expr} {es:List Expr} {t:TA} {id T:String} {r:List V->Hp->VK->Prop}
def tCB (r:List V->Hp->VK->Prop) (t:TA):TE:=λσ H Q=>t σ H λvs H1=>r vs H1 Q
def R8 (hc:J9 X (.builtin id) r) (hg:Gl X x) (hm:X.mg x=none) (hv:bootBuiltins x=some (.builtin id)) (ha:PA X (e::es) t) (hn:x≠"__name__" := by decide) (hdb:(x==("__debug__" : Str))=false:=by decide)
  (he:starEach (e::es) X.env=(false,eval e X.env)::starEach es X.env:=by rfl) (hpl:(backTo pos (starEach es X.env)).any (·.1)=false:=by rfl):PE X (.Call (.Name x p) (e::es) [] pos) (tCB r t):=by
 intro pins s σ H Q I h;refine wpAny_Call_Name_kw (CI I hg hm hv ?_ hn hdb);exact PyProof.Rows.callWith_builtin1 (thn (ha pos pins s σ H _ I h) λus s1 ⟨vs,H1,I1,r1,q1⟩=>hc pins s1 σ H1 vs us Q I1 r1 q1) he hpl
def XD (hc:J9 X (.type T) r) (hg:Gl X x) (hm:X.mg x=none) (hv:bootBuiltins x=some (.type T)) (ha:PA X (e::es) t) (hn:x≠"__name__" := by decide) (hdb:(x==("__debug__" : Str))=false:=by decide)
  (he:starEach (e::es) X.env=(false,eval e X.env)::starEach es X.env:=by rfl) (hpl:(backTo pos (starEach es X.env)).any (·.1)=false:=by rfl):PE X (.Call (.Name x p) (e::es) [] pos) (tCB r t):=by
 intro pins s σ H Q I h;refine wpAny_Call_Name_kw (CI I hg hm hv ?_ hn hdb);exact PyProof.Rows.callWith_type1 (thn (ha pos pins s σ H _ I h) λus s1 ⟨vs,H1,I1,r1,q1⟩=>hc pins s1 σ H1 vs us Q I1 r1 q1) he hpl
end
end L2
namespace HT
open PySem PyProof.Rows
def qcw (A:Around) (s:Shared) (a:Int) (t:Tok) (c:Int) (u:Tok):∃ e,SeqAt.EqAt A s (.int a t) (.int c u) e/\(e=true↔a=c):=
 ⟨(a==c),SeqAt.EqAt.int_int a t c u,by simp⟩
section
open PySem.SeqAt
open PySem.MeetsSeq PySem.MeetsSeq2 PySem.MeetsSeq3
end
section
variable {prog:Program} {w:World} {A:Around} {E:Value->Shared->Prop} {s:Shared}
def qgW {t b:Addr} {vs ws:List Value} {Q:Value->Shared->Prop} (ht:IsTup s.heap t vs.toArray) (hb:IsTup s.heap b ws.toArray) (hv:vs≠[])
  (h1:ws=[]->Q (.ref t) s) (h2:ws≠[]->Q (.ref s.heap.objs.size) { s with heap:=s.heap.push { cls:=.type "tuple",data:=.seq (vs++ws).toArray } })
  (hsz:vs.length+ws.length<=sizeLine):wpAny (model prog w) A (binaryOp .Add (.ref t) (.ref b)) Q E s:=by
 obtain ⟨⟨cls,dd,data,sl⟩,ho,hc,n,hd⟩:=id ht;obtain ⟨⟨cls2,dd2,data2,sl2⟩,ho2,hc2,n2,hd2⟩:=id hb;simp only at hc hd hc2 hd2;subst hc hd hc2 hd2;have e:vs.toArray++ws.toArray=(vs++ws).toArray:=by simp
 by_cases hw:ws=[]
 ·exact concat_meets ⟨_,ho,rfl⟩ ⟨_,ho2,rfl⟩ noFill_tuple_add seq_tuple_add PySem.F.slot_tuple_add PySem.F.entry_tuple_add (PySem.F.args_tuple_add_2 _ _)
   (tuple_addW1 t b vs.toArray ws.toArray n n2 dd dd2 sl sl2 (by simpa using hv) (by simp [hw])) ⟨ho,ho2,h1 hw⟩
 ·refine concat_meets ⟨_,ho,rfl⟩ ⟨_,ho2,rfl⟩ noFill_tuple_add seq_tuple_add PySem.F.slot_tuple_add PySem.F.entry_tuple_add (PySem.F.args_tuple_add_2 _ _)
   (tuple_addW2 t b vs.toArray ws.toArray n n2 dd dd2 sl sl2 (by simpa using hv) (by simpa using hw) (by rw [size_toArray,size_toArray];exact hsz)) ⟨ho,ho2,?_⟩
  rw [e];exact h2 hw
def sIx (n d:Nat):Option Int->Nat
 |none=>d
 |some v=>if v<0 then (v+(n:Int)).toNat else min v.toNat n
def qhZ (n d:Nat) (hd:d<=n) (o:Option Int):sIx n d o<=n:=by
 cases o with
 |none=>exact hd
 |some v=>
  show (if v<0 then (v+(n:Int)).toNat else min v.toNat n)<=n;by_cases hv:v<0
  ·rw [if_pos hv];omega
  ·rw [if_neg hv];exact Nat.min_le_right _ _
def qbx (v:Int) (n d:Nat):(if v<0 then max (v+(n:Int)) 0 else min v (n:Int))=((sIx n d (some v):Nat):Int):=by
 show (if v<0 then max (v+(n:Int)) 0 else min v (n:Int))=(((if v<0 then (v+(n:Int)).toNat else min v.toNat n):Nat):Int);by_cases hv:v<0
 ·simp only [if_pos hv];omega
 ·simp only [if_neg hv];omega
def N4 (lo hi:Option Int) (n:Nat):Builtin.Slice.sliceAdjust lo hi 1 (n:Int)=(((sIx n 0 lo:Nat):Int),((sIx n n hi:Nat):Int)):=by
 have h1:¬ ((1:Int)<0):=by omega
 unfold Builtin.Slice.sliceAdjust;simp only [h1,if_false];refine Prod.ext ?_ ?_
 ·cases lo with
  |none=>rfl
  |some v=>exact qbx v n 0
 ·cases hi with
  |none=>rfl
  |some v=>exact qbx v n n
def qaa (i j:Nat):Builtin.Slice.slicePlaces (i:Int) (j:Int) 1=j-i:=by
 unfold Builtin.Slice.slicePlaces;have h1:(1:Int) > 0:=by omega
 simp only [h1,if_true,Int.ediv_one];split<;>omega
def CD {v:Value} {o:Option Int} {Q:Option Int->Shared->Prop} (p:IsPart v o) (h:Q o s):wpAny (model prog w) A (Builtin.Slice.slicePartIndex v) Q E s:=by
 cases p with
 |none=>exact slicePart_none h
 |int i t=>exact slicePart_int h
def DW {sl:Addr} {vl vu:Value} {lo hi:Option Int} {n:Nat} {Q:Int×Int×Nat->Shared->Prop} (hs:s.heap.IsSliceOf sl vl vu .none) (pl:IsPart vl lo) (pu:IsPart vu hi)
  (h:Q (((sIx n 0 lo:Nat):Int),1,sIx n n hi-sIx n 0 lo) s):wpAny (model prog w) A (Builtin.Slice.sliceApplied (.ref sl) (pure (n:Int))) Q E s:=by
 obtain ⟨os,hos,hcs,hds⟩:=id hs;unfold Builtin.Slice.sliceApplied Builtin.Slice.sliceFields;refine wpAny_bind (wpAny_bind (wpAny_field hos hds (x:=vl) rfl (wpAny_bind (wpAny_field hos hds (x:=vu) rfl (wpAny_bind (wpAny_field hos hds (x:=.none) rfl (wpAny_pure ?_)))))));refine wpAny_bind (slicePart_none ?_);show wpAny _ _ (if ((1:Int)==0)=true then _ else _) _ _ s;rw [if_neg (by decide)];refine wpAny_bind (CD pl (wpAny_bind (CD pu (wpAny_bind (wpAny_pure ?_)))));show wpAny _ _ (match Builtin.Slice.sliceAdjust lo hi 1 (n:Int) with|(lo,hi)=>pure (lo,(1:Int),Builtin.Slice.slicePlaces lo hi 1)) _ _ s;rw [N4 lo hi n];show wpAny _ _ (pure (((sIx n 0 lo:Nat):Int),(1:Int),Builtin.Slice.slicePlaces ((sIx n 0 lo:Nat):Int) ((sIx n n hi:Nat):Int) 1)) _ _ s;rw [qaa];exact wpAny_pure h
def qcV (xs:Array Value) (i k:Nat):((List.range k).filterMap λ(m:Nat)=>xs[((i:Int)+(m:Int)*1).toNat]?).toArray=((xs.toList.drop i).take k).toArray:=by
 have e:(λ(m:Nat)=>xs[((i:Int)+(m:Int)*1).toNat]?)=λm=>xs[i+m]?:=by
  funext m;have:((i:Int)+(m:Int)*1).toNat=i+m:=by omega
  rw [this]
 rw [e];have:=pick_run xs i k;rw [List.filterMap_map] at this;have e2:((λx=>xs[x]?)∘λx=>i+x)=λm=>xs[i+m]?:=rfl;rw [e2] at this;rw [this]
def E7 {t sl:Addr} {items:Array Value} {vl vu:Value} {lo hi:Option Int} {Q:Value->Shared->Prop} (ht:IsTup s.heap t items) (hs:s.heap.IsSliceOf sl vl vu .none) (pl:IsPart vl lo) (pu:IsPart vu hi)
  (hw:¬ (sIx items.size 0 lo=0/\sIx items.size items.size hi=items.size))
  (h:Q (.ref s.heap.objs.size) { s with heap:=s.heap.push { cls:=.type "tuple",data:=.seq ((items.toList.drop (sIx items.size 0 lo)).take (sIx items.size items.size hi-sIx items.size 0 lo)).toArray } })
  (hsz:items.size<=sizeLine):wpAny (model prog w) A (getItem (.ref t) (.ref sl)) Q E s:=by
 have htake:sizeOk (.seq ((items.toList.drop (sIx items.size 0 lo)).take (sIx items.size items.size hi-sIx items.size 0 lo)).toArray):=by
  show ((items.toList.drop (sIx items.size 0 lo)).take (sIx items.size items.size hi-sIx items.size 0 lo)).toArray.size<=sizeLine;rw [size_toArray,List.length_take,List.length_drop,Array.length_toList];omega
 have hj:sIx items.size items.size hi<=items.size:=qhZ _ _ (Nat.le_refl _) hi;obtain ⟨os,hos,hcs,hds⟩:=id hs;have hTs:s.TypeIs (.ref sl) "slice" := ⟨os,hos,hcs⟩
 unfold getItem
 try with_reducible refine wpAny_holding ?_
 first|refine wpAny_bind (wpAny_pure ?_)|skip
 refine wpAny_bind (wpAny_sequenceKey ht.typeIs (by decide) ?_);refine wpAny_bind (wpAny_callSpecial?_slot (name:=Str.ofString "__getitem__") ht.typeIs PyProof.Rows.slot_tuple_getitem
  (wpAny_call_entry PyProof.Rows.slot_tuple_getitem ht.typeIs entry_tuple_getitem ?_ (args_tuple_getitem _ _)))
 show wpAny _ _ (Builtin.Tuple.tupleItemsOf (.ref t) >>= _) _ _ s;refine wpAny_bind (tupleItemsOf_ ht ?_);refine wpAny_bind (wpAny_typeOf hTs ?_);rw [if_pos (by decide)];refine wpAny_bind (DW hs pl pu ?_);have hno:¬ ((((sIx items.size 0 lo:Nat):Int)==0&&(1:Int)==1&&(sIx items.size items.size hi-sIx items.size 0 lo)==items.size)=true):=by
  intro q;rw [Bool.and_eq_true,Bool.and_eq_true] at q;have q1:((sIx items.size 0 lo:Nat):Int)=0:=eq_of_beq q.1.1;have q2:sIx items.size items.size hi-sIx items.size 0 lo=items.size:=eq_of_beq q.2;exact hw ⟨by omega,by omega⟩
 show wpAny _ _ (if (((sIx items.size 0 lo:Nat):Int)==0&&(1:Int)==1&&(sIx items.size items.size hi-sIx items.size 0 lo)==items.size)=true then _ else _) _ _ s;rw [if_neg hno,qcV]
 first
  |exact wpAny_bind (m:=Builtin.Tuple.tupleExact _) (wpAny_newObj_type (wpAny_pure ⟨_,rfl,wpAny_pure h⟩) htake)
  |exact wpAny_bind (m:=Builtin.Tuple.tupleExact _) (wpAny_newObj_type (wpAny_bind (wpAny_pure (wpAny_pure ⟨_,rfl,wpAny_pure h⟩))) htake)
  |exact wpAny_bind (wpAny_bind (m:=Builtin.Tuple.tupleExact _) (wpAny_newObj_type (wpAny_pure (wpAny_pure ⟨_,rfl,wpAny_pure h⟩)) htake))
  |exact wpAny_bind (wpAny_bind (m:=Builtin.Tuple.tupleExact _) (wpAny_newObj_type (wpAny_pure ⟨_,rfl,wpAny_pure h⟩) htake))
end
end HT
namespace L2
open PySem PySem.Spec PyProof.Rows
abbrev TO:=St->Hp->(Option Int->Hp->Prop)->Prop
def PO (X:Cx) (e:Option Expr) (t:TO):Prop:=
 ∀ (pins:List (Addr×Obj)) (s:Shared) (σ:St) (H:Hp) (Q:Option Int->Hp->Prop),Inv X pins σ H s->t σ H Q ->
  wpAny (model X.prog X.w) X.A (evalPart e X.env) (λu s'=>∃ o H',Inv X pins σ H' s'/\IsPart u o/\Q o H') X.xe s
def qhA:TO:=λ_ H Q=>Q none H
def qnZ (t:TE):TO:=λσ H Q=>t σ H λx H1=>∃ i,x=.int i/\Q (some i) H1
section
variable {X:Cx} {e:Expr} {te:TE} {lo hi:Option Expr} {tl th:TO} {pos p2:Pos}
def qgv:PO X none qhA:=by
 intro pins s σ H Q I h;rw [evalPart_none];exact wpAny_pure ⟨none,H,I,.none,h⟩
def qgB (h:PE X e te):PO X (some e) (qnZ te):=by
 intro pins s σ H Q I hw;rw [evalPart_some];refine thn (h pins s σ H _ I hw) λu s1 ⟨x,H1,I1,r1,q1⟩=>?_;obtain ⟨i,rfl,q⟩:=q1;obtain ⟨t,rfl⟩:=r1;exact ⟨some i,H1,I1,.int i t,q⟩
def SlR (X:Cx) (r:V->Option Int->Option Int->Hp->VK->Prop):Prop:=
 ∀ (pins:List (Addr×Obj)) (s:Shared) (σ:St) (H:Hp) (x:V) (v vl vu:Value) (lo hi:Option Int) (sl:Addr) (Q:VK),Inv X pins σ H s->jJ x v->s.heap.IsSliceOf sl vl vu .none->IsPart vl lo->IsPart vu hi->r x lo hi H Q ->
  ∃ T id,typeLookup (.type T) "__getitem__" = pure (some (.builtin id))/\s.TypeIs v T/\wpAny (model X.prog X.w) X.A (getItem v (.ref sl)) (EP X pins σ Q) X.xe s
def SlR.or {r r':V->Option Int->Option Int->Hp->VK->Prop} (h:SlR X r) (h':SlR X r'):SlR X (λx lo hi H Q=>r x lo hi H Q\/r' x lo hi H Q):=by
 intro pins s σ H x v vl vu lo hi sl Q I rx hs pl pu q;rcases q with q|q
 ·exact h pins s σ H x v vl vu lo hi sl Q I rx hs pl pu q
 ·exact h' pins s σ H x v vl vu lo hi sl Q I rx hs pl pu q
def tSl (r:V->Option Int->Option Int->Hp->VK->Prop) (te:TE) (tl th:TO):TE:=λσ H Q=>te σ H λx H1=>tl σ H1 λl H2=>th σ H2 λu H3=>r x l u H3 Q
def qcR {r:V->Option Int->Option Int->Hp->VK->Prop} (hr:SlR X r) (he:PE X e te) (hl:PO X lo tl) (hu:PO X hi th):PE X (.Subscript e (.Slice lo hi none p2) pos) (tSl r te tl th):=by
 intro pins s σ H Q I h;refine Subscript_ (thn (he pins s σ H _ I h) λv s1 ⟨x,H1,I1,r1,q1⟩=>?_);refine wpAny_Slice (thn (hl pins s1 σ H1 _ I1 q1) λvl s2 ⟨l,H2,I2,pl,q2⟩=>thn (hu pins s2 σ H2 _ I2 q2) λvu s3 ⟨u,H3,I3,pu,q3⟩=>?_);rw [evalPart_none];refine wpAny_pure ?_;have I4:Inv X pins σ H3 { s3 with heap:=s3.heap.push { cls:=.type "slice",data:=.fields #[vl,vu,.none] } }:=I3.kept (t':=s3.toks) λb ob q=>Heap.get?_push_of_some _ q;obtain ⟨T,id,hT,ht,hg⟩:=hr pins { s3 with heap:=s3.heap.push { cls:=.type "slice",data:=.fields #[vl,vu,.none] } } σ H3 x v vl vu l u s3.heap.objs.size Q I4 r1 (Heap.IsSliceOf.new ..) pl pu q3;show wpAny (model X.prog X.w) X.A (subscriptTail e (.Slice lo hi none p2) v (.ref s3.heap.objs.size)) (EP X pins σ Q) X.xe { s3 with heap:=s3.heap.push { cls:=.type "slice",data:=.fields #[vl,vu,.none] } };exact tail_any (ops:=[.ref s3.heap.objs.size,v]) ht hT hg (by with_unfolding_all rfl)
def qeK (xs:List V) (lo hi:Option Int):List V:=(xs.drop (HT.sIx xs.length 0 lo)).take (HT.sIx xs.length xs.length hi-HT.sIx xs.length 0 lo)
def WU (xs:List V) (lo hi:Option Int):(qeK xs lo hi).length<=xs.length:=by
 unfold qeK;rw [List.length_take,List.length_drop];omega
def qpv (K:Frg):V->Option Int->Option Int->Hp->VK->Prop:=λx lo hi H Q=>∃ a xs,x=.ref a/\SqT K H a xs /\
 ¬ (HT.sIx xs.length 0 lo=0/\HT.sIx xs.length xs.length hi=xs.length)/\∀ p,H p=none->Q (.ref p) (upd H p (.tup (qeK xs lo hi)))
def qh8:SlR X (qpv X.K):=by
 intro pins s σ H x v vl vu lo hi sl Q I rx hs pl pu h;obtain ⟨a,xs,rfl,hx,hw,q⟩:=h;cases rx;obtain ⟨its,r,ht,hz⟩:=I.tuple hx;have hlen:its.toArray.size=xs.length:=by rw [size_toArray];exact r.length.symm
 refine ⟨"tuple",_,PyProof.Rows.slot_tuple_getitem.lookup,ht.typeIs,?_⟩;refine HT.E7 ht hs pl pu (by rw [hlen];exact hw) ?_ (by rw [hlen];exact hz);rw [hlen];refine ⟨.ref s.heap.objs.size,_,I.laid (t':=s.toks) (o:=.tup (qeK xs lo hi)) (λb ob q=>Heap.get?_push_of_some _ q) (Nat.le_refl _) ?_,rfl,q _ (I.hok.fresh (Nat.le_refl _))⟩;exact ⟨Nat.le_trans (WU xs lo hi) hz,_,(r.drop (HT.sIx xs.length 0 lo)).take (HT.sIx xs.length xs.length hi-HT.sIx xs.length 0 lo),IsTup.new _ _⟩
def qiR (K:Frg):R2:=λx y H Q=>∃ a b xs ys,x=.ref a/\y=.ref b/\SqT K H a xs/\SqT K H b ys/\xs≠[]/\xs.length+ys.length<=sizeLine /\
 (ys=[]->Q (.ref a) H)/\(ys≠[]->∀ p,H p=none->Q (.ref p) (upd H p (.tup (xs++ys))))
def jk.nil_iff {xs:List V} {us:List Value} (r:jk xs us):us=[]↔xs=[]:=by
 cases r with
 |nil=>simp
 |cons _ _=>simp
def qfS:OpR X (binaryOp .Add) (qiR X.K):=by
 intro pins s σ H x y v u Q I rx ry h;obtain ⟨a,b,xs,ys,rfl,rfl,ha,hb,hx,hz,q1,q2⟩:=h;cases rx;cases ry;obtain ⟨its,r1,p1,_⟩:=I.tuple ha;obtain ⟨its2,r2,p2,_⟩:=I.tuple hb;refine HT.qgW p1 p2 (λz=>hx (r1.nil_iff.mp z)) (λz=>⟨.ref a,H,I,rfl,q1 (r2.nil_iff.mp z)⟩) (λz=>?_) (by rw [← r1.length,← r2.length];exact hz);refine ⟨.ref s.heap.objs.size,_,I.laid (t':=s.toks) (o:=.tup (xs++ys)) (λb ob q=>Heap.get?_push_of_some _ q) (Nat.le_refl _) ?_,rfl,q2 (λw=>z (r2.nil_iff.mpr w)) _ (I.hok.fresh (Nat.le_refl _))⟩;exact ⟨by rw [length_append];exact hz,_,r1.append r2,IsTup.new _ _⟩
end
def ixN (n:Nat) (i:Int):Option Nat:=if 0<=i then (if i<n then some i.toNat else none) else if -(n:Int)<=i then some (i+n).toNat else none
def atI {α:Type} (xs:List α) (i:Int):Option α:=(ixN xs.length i).bind λj=>xs[j]?
def qca {n:Nat} {i:Int} {j:Nat} (h:ixN n i=some j):seqIndex? i n=some j/\j<n/\-(n:Int)<=i/\i<n:=by
 unfold ixN at h;by_cases h0:0<=i
 ·rw [if_pos h0] at h;by_cases h1:i<n
  ·rw [if_pos h1] at h;have e:i.toNat=j:=Option.some.inj h;exact ⟨by rw [seqIndex_of h0 h1,e],by omega,by omega,h1⟩
  ·rw [if_neg h1] at h;cases h
 ·rw [if_neg h0] at h;by_cases h1:-(n:Int)<=i
  ·rw [if_pos h1] at h;have e:(i+n).toNat=j:=Option.some.inj h;exact ⟨by rw [seqIndex_neg (by omega) h1,e],by omega,h1,by omega⟩
  ·rw [if_neg h1] at h;cases h
def LY {α:Type} {xs:List α} {i:Int} {v:α} (h:atI xs i=some v):∃ j,seqIndex? i xs.length=some j/\xs[j]?=some v/\j<xs.length/\-(xs.length:Int)<=i/\i<xs.length:=by
 unfold atI at h;cases e:ixN xs.length i with
 |none=>rw [e] at h;cases h
 |some j=>
  rw [e] at h;obtain ⟨h1,h2,h3,h4⟩:=qca e;exact ⟨j,h1,h,h2,h3,h4⟩
def EQ (b:Expr):Prop:=∀ o i,subscripted b false o i=operate [o,i] (getItem o i)
def IxR (X:Cx) (r:R2):Prop:=
 ∀ (value slice:Expr) (pins:List (Addr×Obj)) (s:Shared) (σ:St) (H:Hp) (x y:V) (v u:Value) (Q:VK),Inv X pins σ H s->jJ x v->jJ y u->r x y H Q ->
  subscripted slice false v u=operate [v,u] (getItem v u)->wpAny (model X.prog X.w) X.A (subscriptTail value slice v u) (EP X pins σ Q) X.xe s
def MtR (X:Cx) (id:String) (r:V->List V->Hp->VK->Prop):Prop:=
 ∀ (pins:List (Addr×Obj)) (s:Shared) (σ:St) (H:Hp) (x:V) (xs:List V) (v:Value) (us:List Value) (Q:VK),Inv X pins σ H s->jJ x v->jk xs us->r x xs H Q ->
  wpAny (model X.prog X.w) X.A (call (.builtin id) (v::us)) (EP X pins σ Q) X.xe s
section
variable {X:Cx} {a b:Expr} {ta tb:TE} {pos:Pos}
def IxR.or {r r':R2} (h:IxR X r) (h':IxR X r'):IxR X (λx y H Q=>r x y H Q\/r' x y H Q):=by
 intro value slice pins s σ H x y v u Q I rx ry q hs;rcases q with q|q
 ·exact h value slice pins s σ H x y v u Q I rx ry q hs
 ·exact h' value slice pins s σ H x y v u Q I rx ry q hs
def qh6 {r:R2} (hr:IxR X r) (ha:PE X a ta) (hb:PE X b tb) (hs:EQ b):PE X (.Subscript a b pos) (tOp r ta tb):=by
 intro pins s σ H Q I h;exact Subscript_ (qon ha hb I h λv u s2 x y H2 I2 rx ry q=>hr a b pins s2 σ H2 x y v u Q I2 rx ry q (hs _ _))
def qo1 (K:Frg):R2:=λx y H Q=>∃ p xs i v,x=.ref p/\y=.int i/\SqL K H p xs/\atI xs i=some v/\Q v H
def qow (K:Frg):R2:=λx y H Q=>∃ p xs i v,x=.ref p/\y=.int i/\SqT K H p xs/\atI xs i=some v/\Q v H
def qo8:R2:=λx y H Q=>∃ z i c,x=.str z/\y=.int i/\z.length<=sizeLine/\atI z.cps.toList i=some c/\Q (.str ⟨#[c]⟩) H
def qg5:IxR X (qo1 X.K):=by
 intro value slice pins s σ H x y v u Q I rx ry h hs;obtain ⟨p,xs,i,z,rfl,rfl,hq,he,q⟩:=h;cases rx;obtain ⟨t,rfl⟩:=ry;obtain ⟨its,r,pl,hz⟩:=I.list hq;obtain ⟨j,h1,h2,h3,h4,h5⟩:=LY he;obtain ⟨w,ew,rw'⟩:=r.get h2;have hl:=r.length;have hn:=TL;have fin:EP X pins σ Q w s:=⟨z,H,I,rw',q⟩
 by_cases h0:0<=i
 ·have hj:i.toNat=j:=by
   rw [seqIndex_of h0 h5] at h1;exact Option.some.inj h1
  exact item_listR pl.isList h0 (by omega) (by rw [hj];simpa using ew) fin hs
 ·have hj:(i+(its.toArray.size:Int)).toNat=j:=by
   rw [seqIndex_neg (by omega) h4] at h1;rw [size_toArray,← hl];exact Option.some.inj h1
  exact subscriptTail_builtinR (x:=w) pl.isList.typeIs slot_list_getitem.lookup
   (wpAny_getItem_list_neg (Q:=λr s'=>r=w/\EP X pins σ Q r s') pl.isList (by omega) (by rw [size_toArray]<;>omega) (by omega) (by rw [hj];simpa using ew) ⟨rfl,fin⟩) hs
def qjs:IxR X (qow X.K):=by
 intro value slice pins s σ H x y v u Q I rx ry h hs;obtain ⟨p,xs,i,z,rfl,rfl,hq,he,q⟩:=h;cases rx;obtain ⟨t,rfl⟩:=ry;obtain ⟨its,r,pl,hz⟩:=I.tuple hq;obtain ⟨j,h1,h2,h3,h4,h5⟩:=LY he;obtain ⟨w,ew,rw'⟩:=r.get h2;have hl:=r.length;have hn:=TL;have fin:EP X pins σ Q w s:=⟨z,H,I,rw',q⟩
 exact subscriptTail_builtinR (x:=w) pl.typeIs slot_tuple_getitem.lookup
  (getItem_tuple (j:=j) (Q:=λr s'=>r=w/\EP X pins σ Q r s') pl (by omega) (by omega) (by rw [size_toArray,← hl];exact h1) (by simpa using ew) ⟨rfl,fin⟩) hs
def qkO:IxR X qo8:=by
 intro value slice pins s σ H x y v u Q I rx ry h hs;obtain ⟨z,i,c,rfl,rfl,hz,he,q⟩:=h;obtain ⟨t,rfl⟩:=rx;obtain ⟨t',rfl⟩:=ry;obtain ⟨j,h1,h2,h3,h4,h5⟩:=LY he;have hl:z.cps.toList.length=z.length:=by simp [Str.length]
 rw [hl] at h1 h4 h5;have hn:=TL;exact tail_any (typeIs_str s z t) slot_str_getitem.lookup (getItem_str (c:=c) (by
  have e1:decide (i < -(2 ^ 63:Int))=false:=decide_eq_false (by omega);have e2:decide (i ≥ 2 ^ 63)=false:=decide_eq_false (by omega);rw [e1,e2,Bool.or_false]) (by rw [h1];simpa using h2) ⟨.str ⟨#[c]⟩,H,I.tok _,⟨_,rfl⟩,q⟩) hs
def rIx (K:Frg):R2:=λx y H Q=>qo1 K x y H Q\/qow K x y H Q\/qo8 x y H Q
def qjS:IxR X (rIx X.K):=qg5.or (qjs.or qkO)
def N8 (its:List Value) (n j:Nat) (u:Value):Obj.mapSeq (·.setIfInBounds j u) { cls:=.type "list",data:=.seq its.toArray n }={ cls:=.type "list",data:=.seq (its.set j u).toArray n }:=by
 simp [Obj.mapSeq]
def Inv.lst {pins:List (Addr×Obj)} {σ:St} {H:Hp} {s:Shared} {p:Addr} {xs:List V} (I:Inv X pins σ H s) (h:H p=some (.lst xs)) :
  ∃ (its:List Value) (n:Nat),jk xs its/\s.heap.get? p=some { cls:=.type "list",data:=.seq its.toArray n }/\xs.length<=sizeLine:=by
 obtain ⟨z,its,n,r,e⟩:=I.hok p _ h;exact ⟨its,n,r,e,z⟩
def Inv.lstUpd {pins:List (Addr×Obj)} {σ:St} {H:Hp} {s:Shared} {p:Addr} {xs ys:List V} {its its':List Value} {n n':Nat} {f:Obj->Obj} (I:Inv X pins σ H s) (h:H p=some (.lst xs))
  (ho:s.heap.get? p=some { cls:=.type "list",data:=.seq its.toArray n }) (hf:f { cls:=.type "list",data:=.seq its.toArray n }={ cls:=.type "list",data:=.seq its'.toArray n' }) (r:jk ys its') (hz:ys.length<=sizeLine) (t:Nat) :
  Inv X pins σ (upd H p (.lst ys)) { s with heap:=s.heap.update p f,toks:=t }:=by
 have e:(s.heap.update p f).get? p=some { cls:=.type "list",data:=.seq its'.toArray n' }:=by
  rw [Heap.get?_update_self f ho (by rw [hf]<;>rfl),hf]
 refine I.write (x:=p) (e:=p) (by rw [h];trivial) (.inl rfl) (λb u hb q=>(Heap.get?_update_other _ _ (Ne.symm hb)).trans q) ⟨_,e⟩ ?_;exact ⟨hz,its',n',r,e⟩
def qnw:V->V->V->Hp->(Hp->Prop)->Prop:=λo i v H Q=>∃ p xs k j,o=.ref p/\i=.int k/\H p=some (.lst xs)/\ixN xs.length k=some j/\Q (upd H p (.lst (xs.set j v)))
def qcG:qoD X qnw:=by
 intro pins s σ H o i v ov iv u Q I ro ri rv h;obtain ⟨p,xs,k,j,rfl,rfl,hp,hj,q⟩:=h;cases ro;obtain ⟨t,rfl⟩:=ri;obtain ⟨its,n,r,ho,hz⟩:=I.lst hp;obtain ⟨h1,h2,h3,h4⟩:=qca hj;have hl:=r.length;have hn:=TL;have I':Inv X pins σ (upd H p (.lst (xs.set j v))) { s with heap:=s.heap.update p (Obj.mapSeq (·.setIfInBounds j u)) }:=
  I.lstUpd hp ho (N8 its n j u) (r.set rv j) (by rw [List.length_set];exact hz) s.toks
 by_cases h0:0<=k
 ·have hk:k.toNat=j:=by
   rw [seqIndex_of h0 h4] at h1;exact Option.some.inj h1
  exact PySem.W.ki_setAt ho h0 (by omega) (by rw [size_toArray,← hl];exact h4) (by rw [hk];exact ⟨_,I',q⟩)
 ·have hk:(k+(its.toArray.size:Int)).toNat=j:=by
   rw [seqIndex_neg (by omega) h3] at h1;rw [size_toArray,← hl];exact Option.some.inj h1
  exact PySem.W.ki_setBack ho (by omega) (by rw [size_toArray,← hl];exact h3) (by omega) (by rw [hk];exact ⟨_,I',q⟩)
def TU (lo hi:Option Int) (n:Nat):(sliceBounds lo hi none n).1=((HT.sIx n 0 lo:Nat):Int)/\(sliceBounds lo hi none n).2.1=((HT.sIx n n hi:Nat):Int)/\(sliceBounds lo hi none n).2.2=1:=by
 refine ⟨?_,?_,rfl⟩
 ·cases lo with
  |none=>simp [sliceBounds,HT.sIx]
  |some i=>
   simp only [sliceBounds,HT.sIx,Option.getD_none,show (1:Int) > 0 by decide,if_true];by_cases h:i<0
   ·simp only [h,if_true]<;>omega
   ·simp only [h,if_false]<;>omega
 ·cases hi with
  |none=>simp [sliceBounds,HT.sIx]
  |some i=>
   simp only [sliceBounds,HT.sIx,Option.getD_none,show (1:Int) > 0 by decide,if_true];by_cases h:i<0
   ·simp only [h,if_true]<;>omega
   ·simp only [h,if_false]<;>omega
def CY (its:List Value) (lo hi:Option Int):slicePick its.toArray lo hi none=((its.drop (HT.sIx its.length 0 lo)).take (HT.sIx its.length its.length hi-HT.sIx its.length 0 lo)).toArray:=by
 obtain ⟨h1,h2,h3⟩:=TU lo hi its.toArray.size;unfold slicePick;rw [h1,h2,h3];simp only [sliceRange_one,pick_run,size_toArray]<;>rfl
def qpo (K:Frg):V->Option Int->Option Int->Hp->VK->Prop:=λx lo hi H Q=>∃ a xs,x=.ref a/\SqL K H a xs/\∀ p,H p=none->Q (.ref p) (upd H p (.lst (qeK xs lo hi)))
def qgx:SlR X (qpo X.K):=by
 intro pins s σ H x v vl vu lo hi sl Q I rx hs pl pu h;obtain ⟨a,xs,rfl,hx,q⟩:=h;cases rx;obtain ⟨its,r,ht,hz⟩:=I.list hx;have hlen:=r.length;refine ⟨"list",_,slot_list_getitem.lookup,ht.isList.typeIs,?_⟩;refine wpAny_getItem_list_slice ht.isList hs pl pu .none (by simp) ?_ (by rw [size_toArray]<;>omega);rw [CY,← hlen];refine ⟨.ref s.heap.objs.size,_,I.laid (t':=s.toks) (o:=.lst (qeK xs lo hi)) (λb ob q=>Heap.get?_push_of_some _ q) (Nat.le_refl _) ?_,rfl,q _ (I.hok.fresh (Nat.le_refl _))⟩;exact ⟨Nat.le_trans (WU xs lo hi) hz,_,0,(r.drop (HT.sIx xs.length 0 lo)).take (HT.sIx xs.length xs.length hi-HT.sIx xs.length 0 lo),Heap.get?_push_size _ rfl⟩
def X8:V->Bool
 |.non=>true
 |.bl _=>true
 |.int _=>true
 |.str _=>true
 |_=>false
def eqV:V->V->Bool
 |.non,.non=>true
 |.bl a,.bl b=>a==b
 |.bl a,.int b=>(if a then 1 else 0)==b
 |.int a,.bl b=>a==(if b then 1 else 0)
 |.int a,.int b=>a==b
 |.str a,.str b=>a==b
 |_,_=>false
def qkQ {A:Around} {s:Shared} {y x:V} {u v:Value} (ry:jJ y u) (rx:jJ x v) (fy:X8 y=true) (fx:X8 x=true):SeqAt.EqAt A s u v (eqV y x):=by
 cases y with
 |non=>
  cases ry;cases x with
  |non=>cases rx;exact SeqAt.EqAt.same _
  |bl b=>cases rx;exact SeqAt.EqAt.none_bool b
  |int b=>obtain ⟨t,rfl⟩:=rx;exact SeqAt.EqAt.none_int b t
  |str b=>obtain ⟨t,rfl⟩:=rx;exact SeqAt.EqAt.none_str b t
  |_=>exact absurd (show false=true from fx) Bool.false_ne_true
 |bl a=>
  cases ry;cases x with
  |non=>cases rx;exact SeqAt.EqAt.bool_none a
  |bl b=>cases rx;exact SeqAt.EqAt.bool_bool a b
  |int b=>obtain ⟨t,rfl⟩:=rx;exact SeqAt.EqAt.bool_int a b t
  |str b=>obtain ⟨t,rfl⟩:=rx;exact SeqAt.EqAt.bool_str a b t
  |_=>exact absurd (show false=true from fx) Bool.false_ne_true
 |int a=>
  obtain ⟨t',rfl⟩:=ry;cases x with
  |non=>cases rx;exact SeqAt.EqAt.int_none a t'
  |bl b=>cases rx;exact SeqAt.EqAt.int_bool a t' b
  |int b=>obtain ⟨t,rfl⟩:=rx;exact SeqAt.EqAt.int_int a t' b t
  |str b=>obtain ⟨t,rfl⟩:=rx;exact SeqAt.EqAt.int_str a t' b t
  |_=>exact absurd (show false=true from fx) Bool.false_ne_true
 |str a=>
  obtain ⟨t',rfl⟩:=ry;cases x with
  |non=>cases rx;exact SeqAt.EqAt.str_none a t'
  |bl b=>cases rx;exact SeqAt.EqAt.str_bool a t' b
  |int b=>obtain ⟨t,rfl⟩:=rx;exact SeqAt.EqAt.str_int a t' b t
  |str b=>obtain ⟨t,rfl⟩:=rx;exact SeqAt.EqAt.str_str a t' b t
  |_=>exact absurd (show false=true from fx) Bool.false_ne_true
 |_=>exact absurd (show false=true from fy) Bool.false_ne_true
def eqU (x:V) (u:Value):Bool:=match u with
 |.none=>eqV .non x
 |.bool b=>eqV (.bl b) x
 |.int i _=>eqV (.int i) x
 |.str z _=>eqV (.str z) x
 |_=>false
def qeV {x y:V} {u:Value} (r:jJ y u) (f:X8 y=true):eqU x u=eqV y x:=by
 cases y with
 |non=>cases r;rfl
 |bl b=>cases r;rfl
 |int i=>obtain ⟨t,rfl⟩:=r;rfl
 |str z=>obtain ⟨t,rfl⟩:=r;rfl
 |_=>exact absurd (show false=true from f) Bool.false_ne_true
def LO {x:V}:∀ {xs:List V} {us:List Value},jk xs us->xs.all X8=true->us.any (eqU x)=xs.any λy=>eqV y x
 |_,_,.nil,_=>rfl
 |y::xs,u::us,.cons r t,f=>by
  rw [List.all_cons,Bool.and_eq_true] at f;rw [List.any_cons,List.any_cons,qeV r f.1,LO t f.2]
def RT {A:Around} {s:Shared} {x:V} {v:Value} (rx:jJ x v) (fx:X8 x=true):∀ {xs:List V} {us:List Value},jk xs us->xs.all X8=true->∀ u∈us,SeqAt.EqAt A s u v (eqU x u)
 |_,_,.nil,_=>λu hu=>by cases hu
 |y::xs,u::us,.cons r t,f=>λu' hu=>by
  rw [List.all_cons,Bool.and_eq_true] at f;rcases mem_cons.mp hu with rfl|hu
  ·rw [qeV r f.1];exact qkQ r rx f.1 fx
  ·exact RT rx fx t f.2 u' hu
def inV (x:V) (xs:List V):Bool:=xs.any λy=>eqV y x
def rIn (K:Frg) (neg:Bool):R2:=λx y H Q=>∃ p xs,y=.ref p/\(SqL K H p xs\/SqT K H p xs)/\X8 x=true/\xs.all X8=true/\Q (.bl (if neg then !inV x xs else inV x xs)) H
def qaX:OpR X (compareOp .In) (rIn X.K false):=by
 intro pins s σ H x y v u Q I rx ry h;obtain ⟨p,xs,rfl,hq,fx,fs,q⟩:=h;cases ry;rcases hq with hq|hq
 ·obtain ⟨its,r,pl,hz⟩:=I.list hq;refine SeqAt.in_listAt (eqU x) pl.isList (λw hw=>RT rx fx r fs w (by simpa using hw)) ⟨.bl _,H,I,rfl,?_⟩;rw [show its.toArray.any (eqU x)=its.any (eqU x) by simp,LO r fs];exact q
 ·obtain ⟨its,r,pl,hz⟩:=I.tuple hq;refine SeqAt.in_tupleAt (eqU x) pl (λw hw=>RT rx fx r fs w (by simpa using hw)) ⟨.bl _,H,I,rfl,?_⟩;rw [show its.toArray.any (eqU x)=its.any (eqU x) by simp,LO r fs];exact q
def DR:J9 X (.type "list") (λxs H Q=>∃ p ys,xs=[.ref p]/\(SqL X.K H p ys\/SqT X.K H p ys)/\∀ l,H l=none->Q (.ref l) (upd H l (.lst ys))):=by
 intro pins s σ H xs us Q I r h;obtain ⟨p,ys,rfl,hq,q⟩:=h;obtain ⟨u,rfl,rx⟩:=EY r;cases rx;have fin:∀ (its:List Value),jk ys its->ys.length<=sizeLine->∀ (h':Heap) (c':Nat),(∀ b o',s.heap.get? b=some o'->h'.get? b=some o') ->
   h'.get? s.heap.objs.size=some { cls:=.type "list",dict:=none,data:=.seq its.toArray c',slots:=#[] }->EP X pins σ Q (.ref s.heap.objs.size) { s with heap:=h' }:=λits r' hz h' c' kp e=>
  ⟨.ref s.heap.objs.size,_,I.laid (t':=s.toks) kp (Nat.le_refl _) (show U1 X.prog X.w _ h' _ (.lst ys) from ⟨hz,its,c',r',e⟩),rfl,q _ (I.hok.fresh (Nat.le_refl _))⟩
 rcases hq with hq|hq
 ·obtain ⟨its,r',pl,hz⟩:=I.list hq;have hlen:=r'.length;obtain ⟨o,ho,hc,n,hd⟩:=pl.isList;exact call_list_seq p (.inl rfl) ho hc hd (λh' c' kp e=>fin its r' hz h' c' kp e) (by simp only [size_toArray]<;>omega)
 ·obtain ⟨its,r',pl,hz⟩:=I.tuple hq;have hlen:=r'.length;obtain ⟨o,ho,hc,n,hd⟩:=pl;exact call_list_seq p (.inr rfl) ho hc hd (λh' c' kp e=>fin its r' hz h' c' kp e) (by simp only [size_toArray]<;>omega)
def JW:J9 X (.type "tuple") (λxs H Q=>∃ p ys,xs=[.ref p]/\((SqL X.K H p ys/\∀ l,H l=none->Q (.ref l) (upd H l (.tup ys)))\/(SqT X.K H p ys/\Q (.ref p) H))):=by
 intro pins s σ H xs us Q I r h;obtain ⟨p,ys,rfl,h⟩:=h;obtain ⟨u,rfl,rx⟩:=EY r;cases rx;rcases h with ⟨hq,q⟩|⟨hq,q⟩
 ·obtain ⟨its,r',pl,hz⟩:=I.list hq;have hlen:=r'.length;refine call_tuple_list pl.isList (λh' kp=>?_) (by simp only [size_toArray]<;>omega);have I1:Inv X pins σ H { s with heap:=h' }:=I.kept (t':=s.toks) kp;have I2:Inv X pins σ (upd H h'.objs.size (.tup ys)) { s with heap:=h'.push { cls:=.type "tuple",data:=.seq its.toArray } }:=
   I1.laid (t':=s.toks) (λb o e=>Heap.get?_push_of_some _ e) (Nat.le_refl _) (show U1 X.prog X.w _ _ _ (.tup ys) from ⟨hz,its,r',IsTup.new _ _⟩)
  exact ⟨.ref h'.objs.size,_,I2,rfl,q _ (I1.hok.fresh (Nat.le_refl _))⟩
 ·obtain ⟨its,r',pl,hz⟩:=I.tuple hq;exact call_tuple_same pl ⟨.ref p,H,I,rfl,q⟩
def tyV (K:Frg) (T:String) (x:V) (H:Hp):Prop:=match x with
 |.str _=>T="str"
 |.int _=>T="int"
 |.ref p=>(T="list"/\∃ xs,SqL K H p xs)\/(T="tuple"/\∃ o,K.lookup p=some o/\o.cls=.type "tuple"/\o.dict=none) ∨
   (T="dict"/\((∃ kvs,H p=some (.dK kvs))\/∃ kvs,H p=some (.dT kvs)))\/(T="set"/\∃ S n,H p=some (.set S n))
 |_=>False
def qkP {pins:List (Addr×Obj)} {σ:St} {H:Hp} {s:Shared} {T:String} {x:V} {v:Value} (I:Inv X pins σ H s) (r:jJ x v) (ty:tyV X.K T x H) :
  s.TypeIs v T/\∀ a,v=.ref a->∃ ob,s.heap.get? a=some ob/\ob.dict=none:=by
 cases x with
 |str z=>
  obtain ⟨t,rfl⟩:=r;cases (show T="str" from ty);exact ⟨typeIs_str s z t,λ_ e=>nomatch e⟩
 |int i=>
  obtain ⟨t,rfl⟩:=r;cases (show T="int" from ty);exact ⟨typeIs_int s i t,λ_ e=>nomatch e⟩
 |ref p=>
  cases r;rcases ty with ⟨rfl,xs,hq⟩|⟨rfl,o,hk,hc,hd⟩|⟨rfl,hk⟩|⟨rfl,S,n,hk⟩
  ·obtain ⟨its,_,pl,_⟩:=I.list hq;refine ⟨pl.isList.typeIs,λa e=>?_⟩;cases e;obtain ⟨o,n,e,c,hd,_⟩:=pl;exact ⟨o,e,hd⟩
  ·refine ⟨⟨o,I.kIn p o hk,hc⟩,λa e=>?_⟩;cases e;exact ⟨o,I.kIn _ o hk,hd⟩
  ·have z:∃ o,s.heap.get? p=some o/\o.ExactDict:=by
    rcases hk with ⟨kvs,hk⟩|⟨kvs,hk⟩
    ·obtain ⟨_,_,_,_,o,_,_,e,ex,_⟩:=I.hok p _ hk;exact ⟨o,e,ex⟩
    ·obtain ⟨_,_,_,_,o,_,_,e,ex,_⟩:=I.hok p _ hk;exact ⟨o,e,ex⟩
   obtain ⟨o,e,ex⟩:=z;refine ⟨⟨o,e,ex.1⟩,λa e2=>?_⟩;cases e2;exact ⟨o,e,ex.2.1⟩
  ·obtain ⟨o,_,_,_,e,ex,_⟩:=I.hok p _ hk;refine ⟨⟨o,e,ex.1⟩,λa e2=>?_⟩;cases e2;exact ⟨o,e,ex.2.1⟩
 |_=>exact False.elim ty
def tBM (K:Frg) (T:String) (r:V->List V->Hp->VK->Prop) (to:TE) (t:TA):TE:=λσ H Q=>to σ H λx H1=>tyV K T x H1/\t σ H1 λxs H2=>r x xs H2 Q
variable {o e:Expr} {es:List Expr} {to:TE} {t:TA} {name:Str} {apos cpos:Pos} {T id:String} {r:V->List V->Hp->VK->Prop}
def qoc (pa:PlainAttrs T) (slot:Slot T name id) (hty:typeOf (.builtin id)=pure (.type "method_descriptor")) (hm:MtR X id r) (ho:PE X o to) (ha:PA X (e::es) t)
  (hbase:attributeBase o name X.env (eval o X.env)=eval o X.env:=by rfl)
  (hfew:((backTo cpos (starEach (e::es) X.env)).all (λx=>!x.1)&&(backToKw cpos (keywordEach [] X.env)).all (λx=>x.1.isSome)
   && decide ((e::es).length+([]:List Keyword).length+(if ([]:List Keyword).isEmpty then 0 else 1)<30))=true:=by rfl)
  (hline:(apos.endLine==cpos.line)=true:=by rfl) (hs:starEach (e::es) X.env=(false,eval e X.env)::starEach es X.env:=by rfl) (hplain:(backTo cpos (starEach es X.env)).any (·.1)=false:=by rfl) :
  PE X (.Call (.Attribute o name apos) (e::es) [] cpos) (tBM X.K T r to t):=by
 intro pins s σ H Q I h;refine wpAny_Call_method_late hbase hfew hline rfl (thn (ho pins s σ H _ I h) λv s1 ⟨x,H1,I1,r1,ty,q1⟩=>?_);obtain ⟨h1,h2⟩:=qkP I1 r1 ty;refine ⟨T,id,pa,slot,hty,h1,h2,?_⟩;have hA:=ha cpos pins s1 σ H1 _ I1 q1;rw [hs] at hA ⊢;refine Calls.callWith_builtin (by show (false||(backTo cpos (starEach es X.env)).any (·.1))=false;rw [hplain]<;>rfl) (Calls.evalArgs_plain ?_);exact thn hA λus s2 ⟨vs,H2,I2,r2,q2⟩=>hm pins s2 σ H2 x vs v us Q I2 r1 r2 q2
end
def MtM (X:Cx) (id:String) (r:V->List V->Hp->VK->Prop):Prop:=
 ∀ (pins:List (Addr×Obj)) (s:Shared) (σ:St) (H:Hp) (x:V) (xs:List V) (v:Value) (us:List Value) (Q:VK),Inv X pins σ H s->jJ x v->jk xs us->r x xs H Q ->
  wpAny (model X.prog X.w) X.A (call (.builtin id) (v::us)) (EP X pins σ Q) X.xe s
def jk.one:∀ {x:V} {us:List Value},jk [x] us->∃ u,us=[u]/\jJ x u
 |_,_,.cons r .nil=>⟨_,rfl,r⟩
def jk.reverse {xs:List V} {us:List Value} (h:jk xs us):jk xs.reverse us.reverse:=by
 induction h with
 |nil=>exact .nil
 |cons r t ih=>rw [List.reverse_cons,List.reverse_cons];exact jk.append ih (.cons r .nil)
section
variable {X:Cx} {pins:List (Addr×Obj)} {σ:St} {H:Hp} {s:Shared} {l b:Addr} {xs ys zs:List V}
def Inv.lset {its its':List Value} {n:Nat} {f:Array Value->Array Value} {t':Nat} (I:Inv X pins σ H s) (hH:H l=some (.lst xs))
  (e:s.heap.get? l=some { cls:=.type "list",data:=.seq its.toArray n }) (hf:f its.toArray=its'.toArray) (hv:jk ys its') (hz:ys.length<=sizeLine) :
  Inv X pins σ (upd H l (.lst ys)) { s with heap:=s.heap.update l (Obj.mapSeq f),toks:=t' }:=by
 have q:=PySem.IsL.update e f;rw [hf] at q;refine I.write (x:=l) (e:=l) (by rw [hH];exact trivial) (.inl rfl) (λb' u hb hu=>(Heap.get?_update_other s.heap (Obj.mapSeq f) (Ne.symm hb)).trans hu) ⟨_,q⟩ ?_;exact ⟨hz,its',_,hv,q⟩
def Inv.lnew {its:List Value} {t':Nat} (I:Inv X pins σ H s) (hv:jk ys its) (hz:ys.length<=sizeLine) :
  Inv X pins σ (upd H s.heap.objs.size (.lst ys)) { s with heap:=s.heap.push { cls:=.type "list",data:=.seq its.toArray },toks:=t' }:=
 I.laid (λ_ _ q=>Heap.get?_push_of_some _ q) (Nat.le_refl _) ⟨hz,its,0,hv,Heap.get?_push_size _ rfl⟩
def Inv.fresh (I:Inv X pins σ H s):H s.heap.objs.size=none:=I.hok.fresh (Nat.le_refl _)
def Inv.lstM (I:Inv X pins σ H s) (hH:H l=some (.lst xs)):xs.length<=sizeLine/\∃ (its:List Value) (n:Nat),jk xs its/\xs.length=its.length/\s.heap.get? l=some { cls:=.type "list",data:=.seq its.toArray n }:=by
 obtain ⟨z,its,n,r,e⟩:=I.hok l _ hH;exact ⟨z,its,n,r,r.length,e⟩
def qdi {n:Nat} (h:n<=sizeLine):Builtin.List.listTooLong n=false:=by
 unfold Builtin.List.listTooLong;exact decide_eq_false (by omega)
end
section
variable {X:Cx}
def qbG:V->List V->Hp->VK->Prop:=λx vs H Q=>∃ l xs y,x=.ref l/\vs=[y]/\H l=some (.lst xs)/\xs.length<sizeLine/\Q .non (upd H l (.lst (xs++[y])))
def UQ:MtM X "list.append" qbG:=by
 intro pins s σ H x vs v us Q I rx rv h;obtain ⟨l,xs,y,rfl,rfl,hH,hz,q⟩:=h;cases rx;obtain ⟨u,rfl,ru⟩:=rv.one;obtain ⟨z,its,n,r,hl,e⟩:=I.lstM hH;refine call_meets F.slot_list_append ⟨_,e,rfl⟩ F.entry_list_append (F.args_list_append_2 _ _) (PySem.list_append l its.toArray n u (by rw [size_toArray];omega)) ⟨e,?_⟩;refine ⟨.non,_,I.lset (its':=its++[u]) hH e (by simp) (r.append (.cons ru .nil)) ?_,rfl,q⟩;rw [length_append,List.length_singleton];omega
def qbW:V->List V->Hp->VK->Prop:=λx vs H Q=>∃ l b xs zs,x=.ref l/\vs=[.ref b]/\H l=some (.lst xs)/\H b=some (.lst zs)/\xs.length+zs.length<=sizeLine/\Q .non (upd H l (.lst (xs++zs)))
def qbi:MtM X "list.extend" qbW:=by
 intro pins s σ H x vs v us Q I rx rv h;obtain ⟨l,b,xs,zs,rfl,rfl,hH,hB,hz,q⟩:=h;cases rx;obtain ⟨u,rfl,ru⟩:=rv.one;cases ru;obtain ⟨z,its,n,r,hl,e⟩:=I.lstM hH;obtain ⟨z2,its2,n2,r2,hl2,e2⟩:=I.lstM hB;have hsz:its.toArray.size+its2.toArray.size<=sizeLine:=by rw [size_toArray,size_toArray];omega
 have hlong:¬ (!its.toArray.isEmpty&&Builtin.List.listTooLong (its.toArray.size+its2.toArray.size))=true:=by
  rw [qdi hsz,Bool.and_false];exact Bool.false_ne_true
 refine call_meets F.slot_list_extend ⟨_,e,rfl⟩ F.entry_list_extend (F.args_list_extend_2 _ _)
  (AutoSeq1.list_extend_list_list_0 l its.toArray n b its2.toArray n2 hlong (by rw [size_toArray];omega) (by omega)) ⟨e,e2,?_⟩
 refine ⟨.non,_,I.lset (its':=its++its2) hH e (by simp) (r.append r2) ?_,rfl,q⟩;rw [length_append];omega
def qo5:R2:=λx y H Q=>∃ l b xs zs,x=.ref l/\y=.ref b/\H l=some (.lst xs)/\H b=some (.lst zs)/\xs.length+zs.length<=sizeLine/\∀ p,H p=none->Q (.ref p) (upd H p (.lst (xs++zs)))
def qk0:OpR X (binaryOp .Add) qo5:=by
 intro pins s σ H x y v u Q I rx ry h;obtain ⟨l,b,xs,zs,rfl,rfl,hH,hB,hz,q⟩:=h;cases rx;cases ry;obtain ⟨z,its,n,r,hl,e⟩:=I.lstM hH;obtain ⟨z2,its2,n2,r2,hl2,e2⟩:=I.lstM hB;refine PySem.P.add_list e e2 ?_ (by rw [size_toArray,size_toArray];omega);have ea:its.toArray++its2.toArray=(its++its2).toArray:=by simp
 rw [ea];exact ⟨.ref _,_,I.lnew (t':=s.toks) (r.append r2) (by rw [length_append];omega),rfl,q _ I.fresh⟩
end
section
variable {prog:Program} {w:World} {A:Around} {E:Value->Shared->Prop} {s:Shared}
end
section
variable {X:Cx}
end
end L2
namespace Att
open PySem PySem.W PySem.Calls PyProof.Rows
def WY {P:Params} {h:Heap}:∀ (ns:List Int) (vs:List Value),WellAll P h vs (ns.map WData.int)->IntsAre vs ns:=by
 intro ns;induction ns with
 |nil=>
  intro vs w;rw [List.map_nil] at w;cases w;exact .nil
 |cons n ns ih=>
  intro vs w;rw [map_cons] at w;cases w with
  |cons a b=>
   cases a;exact .cons _ _ (ih _ b)
def qbM {l:OpenLaw} {n:Nat} (hn:l.most=some n) {P:Params} {h:Heap} {args:List WData} {vals:List Value}
  (hpre:l.row.toRowW.claim.pre args=true) (hwl:WellAll P h vals args) :
  ∃ a vs ns,vals=[Value.ref a]/\args=[WData.list (ns.map WData.int)]/\h.get? a=some { cls:=.type "list",data:=.seq vs.toArray }/\IntsAre vs ns/\ns.length<=n:=by
 have hsh:WShape.hasAll [] args [.list .int]=true:=(pre_splitW hpre).1;have hc:l.pre.holds [] { args:=args }=true:=(pre_splitW hpre).2;obtain ⟨d,r,rfl,h1,h2⟩:=hasAllW_cons hsh;obtain rfl:=hasAllW_nil h2;obtain ⟨xs,rfl,h3⟩:=hasW_list h1;obtain ⟨ns,rfl⟩:=items_int h3;have hlen:ns.length<=n:=by
  unfold OpenLaw.pre at hc;have h4:(WTm.not (.lt (.lit (.int (n:Int))) (.len (.arg 0)))).holds [] { args:=[.list (ns.map .int)] }=true:=by
   have h4:=(holds_andW hc).1;rw [hn] at h4;exact h4
  have h5:=condW_of h4 (w_not (w_lt w_lit (w_len_list (w_arg rfl))));rw [length_map] at h5;refine Nat.le_of_not_lt λq=>?_;have q':(n:Int)<((ns.length:Nat):Int):=by omega
  first
   | (rw [decide_eq_true q'] at h5;exact absurd h5 (by decide))
   | (simp at h5;omega)
 cases hwl with
 |cons w1 w2=>
  cases w2;cases w1 with
  |list ho hall=>exact ⟨_,_,ns,rfl,rfl,ho,WY ns _ hall,hlen⟩
def qaM (l:OpenLaw) (args:List WData):l.row.toRowW.claim.post args (.bool true) args=true:=
 postW_of (r:=l.row.toRowW) (X:=(true==true))
  (show WShape.has [] (.bool true) .bool=true by first|rfl|decide|simp [WShape.has,WShape.arms,WShape.armsAll])
  (show (WTm.eq .res (.lit (.bool true))).value [] { args:=args,res:=some (.bool true),after:=args }=some (.bool (true==true)) from w_eq_bool (w_res rfl) w_lit) rfl
def LW {l:OpenLaw} {n:Nat} {q:Program} {loose:List Str} {XP:(Str->Option Value)->Heap->Prop} {YP:World->Heap->Prop} {d:DefRec}
  (hn:l.most=some n) (hdf:d.params.defaults=[])
  (call:∀ (w:World) (s₀ s₁:Shared) (mg mb:Str->Option Value) (fa:Addr) (o:Obj) (pm cd doc:Value) (a:Addr) (vs:List Value) (ns:List Int),
   Ground q loose [] XP w s₀ mg mb s₁.heap->YP w s₁.heap ->
   s₁.heap.get? fa=some o->o.data=.func (docDef d.name d.params d.body d.scope pm cd doc)->s₁.heap.CodeRec cd d.name->mg d.name=some (.ref fa) ->
   s₁.heap.get? a=some { cls:=.type "list",data:=.seq vs.toArray }->IntsAre vs ns->ns.length<=n->s₁.gens=#[] ->
   codeAny (model l.prog w) callerA (.call (.ref fa) ⟨[.ref a],[]⟩) (λr s'=>r=.ok (.ret (.bool true))/\OldK s₁.heap s'.heap/\s'.os=s₁.os/\AllBare s'.gens) s₁) :
  WalkO q loose XP YP l.row.toRowW d [] (λf vs=>PySem.call f vs):=by
 intro w s₀ s₁ mg mb G Y fa o pm cd doc dV kV ho hd hcd hD hmg hg args vals as hpre hlay hrd hwl hlo;obtain rfl:dV=.none:=Dflts.none hD hdf;obtain rfl:kV=.none:=Dflts.noKw hD;obtain ⟨a,vs,ns,rfl,rfl,hobj,hints,hlen⟩:=qbM hn hpre hwl;refine enter_call (codeAny_mono (call w s₀ s₁ mg mb fa o pm cd doc a vs ns G Y ho (fd_plain hd) hcd hmg hobj hints hlen hg) λr s' hq=>?_);obtain ⟨rfl,h2,h3,h4⟩:=hq;exact ⟨.inl ⟨.bool true,.bool true,[],rfl,λ_=>rfl,.bool true,qaM l _,λ_=>⟨List.Pairwise.nil,λ_ hm=>(nomatch hm)⟩⟩,h2,h3,h4⟩
section
variable {prog:Program} {w:World} {A:Around} {E:Value->Shared->Prop} {s:Shared} {K:Frag}
end
end Att
namespace L2
open PySem PySem.Spec PyProof.Rows
def S0:∀ {vs:List Value} {ns:List Int},IntsAre vs ns->jk (ns.map V.int) vs
 |_,_,.nil=>.nil
 |_,_,.cons n t h=>.cons ⟨t,rfl⟩ (S0 h)
def qmm (H:Hp):Prop:=∀ b,H b=none\/∃ o xs,H b=some (.frz o (.lst xs))
def qdc {P:Program} {w:World} {K:Frg} {mg mb:Str->Option Value} {CX:CXT} {k:Nat} {fa a:Addr} {fd:FuncData} {x:Str} {sp:Sp} {s₁:Shared} {vs:List Value} {ns:List Int}
  (KX:K.In s₁.heap) (hns:s₁.heap.Ns mainGlobals mg) (hb:s₁.heap.Ns builtinsNs mb) (hbb:∀ x:Str,x≠"__name__" -> mb x=bootBuiltins x) (hlim:s₁.heap.NoLimit) (hg:s₁.gens=#[])
  (ha:s₁.heap.get? a=some { cls:=.type "list",data:=.seq vs.toArray }) (hi:IntsAre vs ns) (hl:ns.length<=sizeLine) (hr:Room k callerA)
  (F:∀ base:Heap,K.In base->base.Ns mainGlobals mg->FnOk P w K mg base CX k fa fd [x] sp) (hbind:∀ (s:Shared) (u:Value),BindsTo s fd ⟨[u],[]⟩ [(x,u)])
  (hsp:∀ H:Hp,qmm H->SqL K H a (ns.map V.int)->sp [.ref a] H (λv _=>v=.bl true) λ_ _ _=>False)
  (hCX:∀ H e s',CX [] H s₁ (λ_ _ _=>False) e s'->False) :
  codeAny (model P w) callerA (.call (.ref fa) ⟨[.ref a],[]⟩) (λr s'=>r=.ok (.ret (.bool true))/\OldK s₁.heap s'.heap/\s'.os=s₁.os/\AllBare s'.gens) s₁:=by
 have rv:=S0 hi;have lenV:=hi.length
 -- from an abstract heap in which nothing but the script may be tracked
 have core:∀ H:Hp,qmm H->SqL K H a (ns.map V.int)->HOk P w H s₁.heap->(∀ b,H b≠none->b=a)->(H a≠none->K.lookup a=none) ->
   codeAny (model P w) callerA (.call (.ref fa) ⟨[.ref a],[]⟩) (λr s'=>r=.ok (.ret (.bool true))/\OldK s₁.heap s'.heap/\s'.os=s₁.os/\AllBare s'.gens) s₁:=by
  intro H hO hS hok hA hK;have base_of:∀ {b:Addr} {o:Obj},s₁.heap.get? b=some o->H b=none->(qcW s₁.heap H).get? b=some o:=λe n=>qcN e n;have noA:∀ {b:Addr} {o:Obj} {es:Array DictEntry} {ep:Nat},s₁.heap.get? b=some o->o.data=.dict es ep->H b=none:=λ{b o es ep} e d=>by
   cases q:H b with
   |none=>rfl
   |some u=>
    have e':b=a:=hA b (by rw [q];simp);subst e';rw [ha] at e;cases e;have d':Data.seq vs.toArray _=Data.dict es ep:=d;cases d'
  have nsK:∀ {b:Addr} {m:Str->Option Value},s₁.heap.Ns b m->(qcW s₁.heap H).Ns b m:=λ{b m} ⟨o,es,ep,e,d,r⟩=>⟨o,es,ep,base_of e (noA e d),d,r⟩
  have hKb:K.In (qcW s₁.heap H):=λb o e=>base_of (KX b o e) (by
   cases q:H b with
   |none=>rfl
   |some u=>
    have e':b=a:=hA b (by rw [q];simp);subst e';rw [hK (by rw [q];simp)] at e;cases e)
  have hM:Mod K mg (qcW s₁.heap H):=⟨hKb,nsK hns,⟨mb,nsK hb,hbb⟩,let ⟨mc,h1,h2⟩:=hlim;⟨mc,nsK h1,h2⟩⟩
  have e0:Env0 P w K mg (qcW s₁.heap H) callerA [] s₁ H:=⟨rfl,hM,λb o e=>qhE e,Nat.le_of_eq (qce _ _),trivial,λb hb=>absurd (show b∈([]:List Addr) from hb) (by simp),hok,.of_eq hg⟩
  refine codeAny_mono ((F _ hKb (nsK hns)).run callerA [] s₁ H ⟨[.ref a],[]⟩ [.ref a] [.ref a] _ _ hr e0 (hbind s₁ (.ref a)) (.cons rfl .nil) (hsp H hO hS)) λr s' h=>?_;cases r with
  |error e=>exact (hCX H e s' h).elim
  |ok fl=>
   cases fl with
   |next=>exact False.elim h
   |brk=>exact False.elim h
   |cont=>exact False.elim h
   |ret u=>
    obtain ⟨v,H',os,bare,un,hok',r',q⟩:=h;have q':v=.bl true:=q;subst q';obtain rfl:u=Value.bool true:=r';refine ⟨rfl,OldK.of_keep λb o e=>?_,os,bare⟩;cases q:H b with
    |none=>exact un.keep b o e q (by intro z;exact absurd (show b∈([]:List Addr) from z) (by simp)) (by simp)
    |some u=>
     rcases hO b with z|⟨ob,xs,z⟩
     ·rw [q] at z;cases z
     ·have z2:=un.frzs b ob _ z;obtain ⟨e1,_⟩:=hok b _ z;obtain ⟨e2,_⟩:=hok' b _ z2;rw [e] at e1;cases e1;exact e2
 cases hk:K.lookup a with
 |some o=>
  -- the script is one of the module's own objects
  have e:=KX a o hk;rw [ha] at e;cases e;refine core (λ_=>none) (λ_=>.inl rfl) (.inr ⟨_,vs.toArray,_,hk,rfl,rfl,rfl,by rw [size_toArray,lenV];exact hl,by simpa using rv⟩) (λb u z=>by have z':(none:Option HO)=some u:=z;cases z') (λb z=>absurd rfl z) λz=>absurd rfl z
 |none=>
  refine core (λb=>if b=a then some (.frz { cls:=.type "list",data:=.seq vs.toArray } (.lst (ns.map V.int))) else none) (λb=>?_) (.inl (.inr ⟨{ cls:=.type "list",data:=.seq vs.toArray },if_pos rfl⟩)) (λb u z=>?_) (λb z=>?_) λ_=>hk
  ·by_cases hb:b=a
   ·exact .inr ⟨_,_,if_pos hb⟩
   ·exact .inl (if_neg hb)
  ·by_cases hb:b=a
   ·have z':=(if_pos hb).symm.trans z;cases z';subst hb;exact ⟨ha,by rw [length_map];exact hl,vs,_,rv,ha⟩
   ·have z':=(if_neg hb).symm.trans z;cases z'
  ·by_cases hb:b=a
   ·exact hb
   ·exact absurd (if_neg hb) z
def qgo {l:PySem.W.OpenLaw} {n k:Nat} {q:Program} {loose:List Str} {XP:(Str->Option Value)->Heap->Prop} {YP:World->Heap->Prop} {d:DefRec} {K:Params->PySem.W.Frag} {CX:World->CXT} {sp:World->Sp} {x:Str}
  (hn:l.most=some n) (hn2:n<=sizeLine) (hdf:d.params.defaults=[]) (hr:Room k callerA)
  (hY:∀ (w:World) (h:Heap),YP w h->(K w.params).In h)
  (F:∀ (w:World) (mg:Str->Option Value) (fa:Addr) (h:Heap),(K w.params).In h->h.Ns mainGlobals mg->mg d.name=some (.ref fa) ->
   ∃ fd:FuncData,(∀ (s:Shared) (u:Value),BindsTo s fd ⟨[u],[]⟩ [(x,u)]) /\
    ∀ base:Heap,(K w.params).In base->base.Ns mainGlobals mg->FnOk l.prog w (K w.params) mg base (CX w) k fa fd [x] (sp w))
  (hsp:∀ (w:World) (H:Hp) (a:Addr) (ns:List Int),ns.length<=n->qmm H->SqL (K w.params) H a (ns.map V.int)->sp w [.ref a] H (λv _=>v=.bl true) λ_ _ _=>False)
  (hCX:∀ (w:World) (H:Hp) (s:Shared) (e:Value) (s':Shared),CX w [] H s (λ_ _ _=>False) e s'->False) :
  PySem.W.WalkO q loose XP YP l.row.toRowW d [] (λf vs=>PySem.call f vs):=by
 refine Att.LW hn hdf λw s₀ s₁ mg mb fa o pm cd doc a vs ns G Y ho hd hcd hmg hobj hints hlen hg=>?_;have KX:=hY w _ Y;obtain ⟨fd,hb,hF⟩:=F w mg fa _ KX G.T.g hmg;exact qdc KX G.T.g G.T.b G.T.builtins G.T.nolimit hg hobj hints (Nat.le_trans hlen hn2) hr hF hb (λH hO hS=>hsp w H a ns hlen hO hS) λH e s'=>hCX w H s₁ e s'
def JH (s:Stmt):Arguments:=match s with
 |.FunctionDef _ a _ _ _ _ _ _ _ _=>a
 |_=>{ posonlyargs:=[],args:=[],vararg:=none,kwonlyargs:=[],kw_defaults:=[],kwarg:=none,defaults:=[] }
def jI (s:Stmt):List Stmt:=match s with
 |.FunctionDef _ _ b _ _ _ _ _ _ _=>b
 |_=>[]
def qj (s:Stmt):Scope:=match s with
 |.FunctionDef _ _ _ _ _ _ sc _ _ _=>sc
 |_=>{ kind:=.function,names:=[],isGenerator:=false,isCoroutine:=false }
abbrev CX0:CXT:=λ_ _ _ _ _ _=>False
abbrev E0:XK:=λ_ _ _=>False
def qoa {X:Cx}:qai CX0 X E0:=λ_ _ _ _ _ _ _ h=>h.elim
structure Fun (K:Frg) (x qual:Str) (st:Stmt) (f:Addr) (fd:FuncData):Prop where
 ex:∃ (oc:Value) (od:Option Addr) (kV doc pm:Value) (an:Option Addr) (cdv ct:Value) (osl:Array (Option Value)),
  fd=PySem.W.fnOf x qual (JH st) (jI st) (qj st) .none kV doc pm an cdv ct/\K.lookup f=some ⟨oc,od,.func fd,osl⟩/\PySem.W.codeIn K cdv qual=true
 kp:PySem.W.keepIn K (.ref f)=true
section
variable {P:Program} {w:World} {K:Frg} {mg:Str->Option Value} {base:Heap}
def Fun.ok {x qual:Str} {st:Stmt} {f:Addr} {fd:FuncData} {N ps:List Str} {k:Nat} {sp:Sp} (F:Fun K x qual st f fd) (S:FnScope N ps (qj st)) (len:∀ vs H Q E,sp vs H Q E->vs.length=ps.length)
  (hbody:∀ (cdv:Value) (A:Around) (outer:List Env) (s:Shared) (H:Hp) (vs:List V) (Q:VK) (E:XK),Room k (A.deeper (envOfC qual (qj st) s.heap.objs.size f cdv))->sp vs H Q E ->
   ∃ t,PSs (qcu CX0 P w K mg base N qual (qj st) f cdv A outer s H E).nox (jI st) t/\t { nx:=λ_ H'=>Q .non H',rt:=Q } (W7 N vs) H):FnOk P w K mg base CX0 (k+1) f fd ps sp:=by
 obtain ⟨oc,od,kV,doc,pm,an,cdv,ct,osl,rfl,lk,hcd⟩:=F.ex;refine qng lk hcd S len λA outer s H vs Q E hr hsp=>?_;obtain ⟨t,h,q⟩:=hbody cdv A outer s H vs Q E hr hsp;exact ⟨t,h.nox,q⟩
def Fun.binds {x qual:Str} {st:Stmt} {f:Addr} {fd:FuncData} {ps:List Str} (F:Fun K x qual st f fd)
  (h:∀ (kV doc pm:Value) (an:Option Addr) (cdv ct:Value) (us:List Value),us.length=ps.length->bindArgs (PySem.W.fnOf x qual (JH st) (jI st) (qj st) .none kV doc pm an cdv ct) ⟨us,[]⟩=pure (ps.zip us)):zr K fd ps []:=by
 obtain ⟨oc,od,kV,doc,pm,an,cdv,ct,osl,rfl,lk,hcd⟩:=F.ex;exact .all (h kV doc pm an cdv ct)
def qky {x qual:Str} {st:Stmt} {f:Addr} {oc:Value} {od an:Option Addr} {osl:Array (Option Value)} {kV doc pm cdv ct:Value} (l:K.lookup f=some ⟨oc,od,.func (PySem.W.fnOf x qual (JH st) (jI st) (qj st) .none kV doc pm an cdv ct),osl⟩)
  (c:PySem.W.codeIn K cdv qual=true) (k:PySem.W.keepIn K (.ref f)=true):Fun K x qual st f (PySem.W.fnOf x qual (JH st) (jI st) (qj st) .none kV doc pm an cdv ct):=⟨⟨oc,od,kV,doc,pm,an,cdv,ct,osl,rfl,l,c⟩,k⟩
end
section
variable {X:Cx}
end
def qms {A B:Prop} (h:B):if false=true then A else B:=by
 rw [if_neg Bool.false_ne_true];exact h
def qmj {A B:Prop} (h:A):if true=true then A else B:=by
 rw [if_pos rfl];exact h
end L2
set_option maxHeartbeats 4000000
namespace L3
open PySem PySem.Spec PyProof.Rows L2
set_option genInjectivity true in
inductive T where
 |non|bl (b:Bool)|int (i:Int)|str (x:Str)|tup (xs:List T)|ref (a:Addr)
inductive O where
 |lst (xs:List T)
 |frz (xs:List T)
abbrev Gp:=Addr->Option O
def gu (G:Gp) (a:Addr) (o:O):Gp:=λb=>if b=a then some o else G b
def qT {G:Gp} {a:Addr} {o:O}:gu G a o a=some o:=by unfold gu;rw [if_pos rfl]
def QE {G:Gp} {a b:Addr} {o:O} (h:b≠a):gu G a o b=G b:=by unfold gu;rw [if_neg h]
mutual
inductive Rp (K:Frg) (H:Hp):T->V->Prop
 |non:Rp K H .non .non
 |bl (b:Bool):Rp K H (.bl b) (.bl b)
 |int (i:Int):Rp K H (.int i) (.int i)
 |str (x:Str):Rp K H (.str x) (.str x)
 |ref (a:Addr):Rp K H (.ref a) (.ref a)
 |tup {xs:List T} {a:Addr} {vs:List V}:SqT K H a vs->Rps K H xs vs->Rp K H (.tup xs) (.ref a)
inductive Rps (K:Frg) (H:Hp):List T->List V->Prop
 |nil:Rps K H [] []
 |cons {x:T} {v:V} {xs:List T} {vs:List V}:Rp K H x v->Rps K H xs vs->Rps K H (x::xs) (v::vs)
end
def OR (K:Frg) (H:Hp) (a:Addr):O->Prop
 |.lst xs=>∃ vs,H a=some (.lst vs)/\Rps K H xs vs
 |.frz xs=>∃ vs,(∃ o,H a=some (.frz o (.lst vs)))/\Rps K H xs vs
def HR (K:Frg) (G:Gp) (H:Hp):Prop:=∀ a o,G a=some o->OR K H a o
def Kp (G:Gp) (H:Hp) (G':Gp) (H':Hp):Prop:=∀ a o,H a=some o->G a=none->H' a=some o/\G' a=none
def Kp.refl {G:Gp} {H:Hp}:Kp G H G H:=λ_ _ h g=>⟨h,g⟩
def Kp.trans {G G1 G2:Gp} {H H1 H2:Hp} (a:Kp G H G1 H1) (b:Kp G1 H1 G2 H2):Kp G H G2 H2:=λx o h g=>
 let ⟨h1,g1⟩:=a x o h g;b x o h1 g1
section
variable {K:Frg} {G G':Gp} {H H':Hp}
def HR.noneT (hr:HR K G H) {a:Addr} {vs:List V} (h:Rd H a (.tup vs)):G a=none:=by
 cases e:G a with
 |none=>rfl
 |some o=>
  have q:=hr a o e;cases o with
  |lst xs=>
   obtain ⟨us,q1,_⟩:=q;rcases h with h|⟨ob,h⟩<;>(rw [q1] at h;cases h)
  |frz xs=>
   obtain ⟨us,⟨o1,q1⟩,_⟩:=q;rcases h with h|⟨ob,h⟩<;>(rw [q1] at h;cases h)
def R9 (hr:HR K G H) (k:Kp G H G' H') {a:Addr} {vs:List V} (h:SqT K H a vs):SqT K H' a vs:=by
 rcases h with h|h
 ·have g:=hr.noneT h;rcases h with h|⟨o,h⟩
  ·exact .inl (.inl (k a _ h g).1)
  ·exact .inl (.inr ⟨o,(k a _ h g).1⟩)
 ·exact .inr h
mutual
def Rp.keep (hr:HR K G H) (k:Kp G H G' H'):∀ {x:T} {v:V},Rp K H x v->Rp K H' x v
 |_,_,.non=>.non
 |_,_,.bl b=>.bl b
 |_,_,.int i=>.int i
 |_,_,.str x=>.str x
 |_,_,.ref a=>.ref a
 |_,_,.tup h hs=>.tup (R9 hr k h) (Rps.keep hr k hs)
def Rps.keep (hr:HR K G H) (k:Kp G H G' H'):∀ {x:List T} {v:List V},Rps K H x v->Rps K H' x v
 |_,_,.nil=>.nil
 |_,_,.cons a b=>.cons (Rp.keep hr k a) (Rps.keep hr k b)
end
def Rps.length:∀ {xs:List T} {vs:List V},Rps K H xs vs->xs.length=vs.length
 |_,_,.nil=>rfl
 |_,_,.cons _ b=>by simp [Rps.length b]
def Rps.get:∀ {xs:List T} {vs:List V} {i:Nat} {x:T},Rps K H xs vs->xs[i]?=some x->∃ v,vs[i]?=some v/\Rp K H x v
 |_,_,_,_,.nil,e=>by simp at e
 |_,_,0,_,.cons r _,e=>by simp at e;subst e;exact ⟨_,rfl,r⟩
 |_,_,i+1,x,.cons _ t,e=>by
  obtain ⟨u,h1,h2⟩:=Rps.get (i:=i) (x:=x) t (by simpa using e);exact ⟨u,by simpa using h1,h2⟩
def Rps.append:∀ {xs ys:List T} {vs us:List V},Rps K H xs vs->Rps K H ys us->Rps K H (xs++ys) (vs++us)
 |_,_,_,_,.nil,s=>s
 |_,_,_,_,.cons r t,s=>.cons r (Rps.append t s)
def Rps.take:∀ {xs:List T} {vs:List V} (n:Nat),Rps K H xs vs->Rps K H (xs.take n) (vs.take n)
 |_,_,0,_=>.nil
 |_,_,_+1,.nil=>.nil
 |_,_,n+1,.cons r t=>.cons r (Rps.take n t)
def Rps.drop:∀ {xs:List T} {vs:List V} (n:Nat),Rps K H xs vs->Rps K H (xs.drop n) (vs.drop n)
 |_,_,0,r=>r
 |_,_,_+1,.nil=>.nil
 |_,_,n+1,.cons _ t=>Rps.drop n t
def Rps.set {x:T} {v:V} (r:Rp K H x v):∀ {xs:List T} {vs:List V} (i:Nat),Rps K H xs vs->Rps K H (xs.set i x) (vs.set i v)
 |_,_,_,.nil=>.nil
 |_,_,0,.cons _ t=>.cons r t
 |_,_,i+1,.cons q t=>.cons q (Rps.set r i t)
def Rps.ints:∀ (ns:List Int),Rps K H (ns.map T.int) (ns.map V.int)
 |[]=>.nil
 |n::r=>.cons (.int n) (Rps.ints r)
def Rps.reverse {xs:List T} {vs:List V} (h:Rps K H xs vs):Rps K H xs.reverse vs.reverse:=by
 induction xs generalizing vs with
 |nil=>cases h;exact .nil
 |cons x r ih=>
  cases h with
  |cons a b=>
   rw [List.reverse_cons,List.reverse_cons];exact (ih b).append (.cons a .nil)
def Kp.laid {p:Addr} {ho:HO} (hp:H p=none):Kp G H G (upd H p ho):=λa o h g=>⟨by rw [qK (qB h hp)];exact h,g⟩
def HR.free (hr:HR K G H) {p:Addr} (hp:H p=none):G p=none:=by
 cases e:G p with
 |none=>rfl
 |some o=>
  have q:=hr p o e;cases o with
  |lst xs=>obtain ⟨us,q1,_⟩:=q;rw [hp] at q1;cases q1
  |frz xs=>obtain ⟨us,⟨o1,q1⟩,_⟩:=q;rw [hp] at q1;cases q1
def OR.keep (hr:HR K G H) (k:Kp G H G' H') {a:Addr} {o:O} (h:OR K H a o) (e:∀ u,H a=some u->H' a=some u):OR K H' a o:=by
 cases o with
 |lst xs=>obtain ⟨vs,h1,h2⟩:=h;exact ⟨vs,e _ h1,h2.keep hr k⟩
 |frz xs=>obtain ⟨vs,⟨o,h1⟩,h2⟩:=h;exact ⟨vs,⟨o,e _ h1⟩,h2.keep hr k⟩
def HR.laid (hr:HR K G H) {p:Addr} {ho:HO} (hp:H p=none):HR K G (upd H p ho):=λa o e=>
 (hr a o e).keep hr (Kp.laid hp) λu h=>by rw [qK (qB h hp)];exact h
def Kp.newL {p:Addr} {ho:HO} {o':O} (hp:H p=none):Kp G H (gu G p o') (upd H p ho):=λa o h g=>
 ⟨by rw [qK (qB h hp)];exact h,by rw [QE (qB h hp)];exact g⟩
def HR.newL (hr:HR K G H) {p:Addr} {xs:List T} {vs:List V} (hp:H p=none) (r:Rps K H xs vs):HR K (gu G p (.lst xs)) (upd H p (.lst vs)):=λa o e=>by
 by_cases ha:a=p
 ·subst ha;rw [qT] at e;cases e;exact ⟨vs,zf,r.keep hr (Kp.laid hp)⟩
 ·rw [QE ha] at e;exact (hr a o e).keep hr (Kp.laid hp) λu h=>by rw [qK ha];exact h
def Kp.wr {p:Addr} {ho:HO} {o o':O} (g:G p=some o):Kp G H (gu G p o') (upd H p ho):=λa ob h ga=>by
 have ha:a≠p:=by intro e;subst e;rw [g] at ga;cases ga
 exact ⟨by rw [qK ha];exact h,by rw [QE ha];exact ga⟩
def HR.wr (hr:HR K G H) {p:Addr} {ys xs:List T} {vs:List V} (g:G p=some (.lst ys)) (r:Rps K H xs vs):HR K (gu G p (.lst xs)) (upd H p (.lst vs)):=λa o e=>by
 have k:Kp G H (gu G p (.lst xs)) (upd H p (.lst vs)):=Kp.wr g;by_cases ha:a=p
 ·subst ha;rw [qT] at e;cases e;exact ⟨vs,zf,r.keep hr k⟩
 ·rw [QE ha] at e;exact (hr a o e).keep hr k λu h=>by rw [qK ha];exact h
end
abbrev St3:=List (Option T)
structure Rel (K:Frg) (τ:St3) (G:Gp) (σ:L2.St) (H:Hp):Prop where
 hp:HR K G H
 len:τ.length=σ.length
 st:∀ (i:Nat) (t:T),τ[i]?=some (some t)->∃ v,σ[i]?=some (some v)/\Rp K H t v
def Rel.next {K:Frg} {τ:St3} {G G':Gp} {σ:L2.St} {H H':Hp} (r:Rel K τ G σ H) (hr:HR K G' H') (k:Kp G H G' H'):Rel K τ G' σ H':=
 ⟨hr,r.len,λi t e=>let ⟨v,h1,h2⟩:=r.st i t e;⟨v,h1,h2.keep r.hp k⟩⟩
def Rel.set {K:Frg} {τ:St3} {G:Gp} {σ:L2.St} {H:Hp} {t:T} {v:V} (r:Rel K τ G σ H) (i:Nat) (h:Rp K H t v):Rel K (τ.set i (some t)) G (σ.set i (some v)) H:=by
 refine ⟨r.hp,by simp [r.len],λj u e=>?_⟩;by_cases hij:i=j
 ·subst hij;rw [List.getElem?_set_self'] at e;have hl:i<τ.length:=by
   cases q:τ[i]? with
   |none=>rw [q] at e;cases e
   |some z=>exact (List.getElem?_eq_some_iff.mp q).1
  rw [getElem?_eq_getElem hl] at e;have e':t=u:=by simpa using e
  subst e';exact ⟨v,by rw [List.getElem?_set_self (by rw [← r.len];exact hl)],h⟩
 ·rw [List.getElem?_set_ne hij] at e;obtain ⟨w,h1,h2⟩:=r.st j u e;exact ⟨w,by rw [List.getElem?_set_ne hij];exact h1,h2⟩
abbrev Q3:=T->Gp->Prop
abbrev TE3:=St3->Gp->Q3->Prop
abbrev TT3:=St3->Gp->(Bool->Gp->Prop)->Prop
abbrev TA3:=St3->Gp->(List T->Gp->Prop)->Prop
def Aft (K:Frg) (G:Gp) (H:Hp) (q:Q3) (Q:VK):Prop:=∀ x G',q x G'->∀ v H',Rp K H' x v->HR K G' H'->Kp G H G' H'->Q v H'
def qml (K:Frg) (G:Gp) (H:Hp) (q:Bool->Gp->Prop) (Q:Bool->Hp->Prop):Prop:=∀ x G',q x G'->∀ H',HR K G' H'->Kp G H G' H'->Q x H'
def qpL (K:Frg) (G:Gp) (H:Hp) (q:List T->Gp->Prop) (Q:List V->Hp->Prop):Prop:=∀ x G',q x G'->∀ v H',Rps K H' x v->HR K G' H'->Kp G H G' H'->Q v H'
def lE (K:Frg) (t:TE3):TE:=λσ H Q=>∃ τ G q,Rel K τ G σ H/\t τ G q/\Aft K G H q Q
def lT (K:Frg) (t:TT3):TT:=λσ H Q=>∃ τ G q,Rel K τ G σ H/\t τ G q/\qml K G H q Q
def lA (K:Frg) (t:TA3):TA:=λσ H Q=>∃ τ G q,Rel K τ G σ H/\t τ G q/\qpL K G H q Q
abbrev E3 (X:Cx) (e:Expr) (t:TE3):Prop:=PE X e (lE X.K t)
abbrev C3 (X:Cx) (e:Expr) (t:TT3):Prop:=PT X e (lT X.K t)
abbrev W3 (X:Cx) (e:Expr) (t:TT3):Prop:=PW X e (lT X.K t)
abbrev A3 (X:Cx) (es:List Expr) (t:TA3):Prop:=PA X es (lA X.K t)
def Aft.back {K:Frg} {G G1:Gp} {H H1:Hp} {q:Q3} {Q:VK} (a:Aft K G H q Q) (k:Kp G H G1 H1):Aft K G1 H1 q Q:=λx G' h v H' r hr k'=>a x G' h v H' r hr (k.trans k')
def qml.back {K:Frg} {G G1:Gp} {H H1:Hp} {q:Bool->Gp->Prop} {Q:Bool->Hp->Prop} (a:qml K G H q Q) (k:Kp G H G1 H1):qml K G1 H1 q Q:=λx G' h H' hr k'=>a x G' h H' hr (k.trans k')
def XR {X:Cx} {e:Expr} {t t':TE} (h:PE X e t) (w:∀ σ H Q,t' σ H Q->t σ H Q):PE X e t':=λpins s σ H Q I q=>h pins s σ H Q I (w σ H Q q)
def qnb {X:Cx} {e:Expr} {t t':TT} (h:PT X e t) (w:∀ σ H Q,t' σ H Q->t σ H Q):PT X e t':=λpins s σ H Q I q=>h pins s σ H Q I (w σ H Q q)
def qoV {X:Cx} {e:Expr} {t t':TT} (h:PW X e t) (w:∀ σ H Q,t' σ H Q->t σ H Q):PW X e t':=λwh pins s σ H Q I q=>h wh pins s σ H Q I (w σ H Q q)
def qo2 {X:Cx} {e:List Expr} {t t':TA} (h:PA X e t) (w:∀ σ H Q,t' σ H Q->t σ H Q):PA X e t':=λpos pins s σ H Q I q=>h pos pins s σ H Q I (w σ H Q q)
def jo {K:Frg} {ta:TE3} {τ:St3} {G:Gp} {σ:L2.St} {H:Hp} {q:Q3} {Q:VK} (r:Rel K τ G σ H) (h:ta τ G q)
  (n:∀ x G1,q x G1->∀ v H1,Rp K H1 x v->HR K G1 H1->Kp G H G1 H1->Rel K τ G1 σ H1->Q v H1):lE K ta σ H Q:=
 ⟨τ,G,q,r,h,λx G1 hq v H1 rx hr k=>n x G1 hq v H1 rx hr k (r.next hr k)⟩
def CK {K:Frg} {ta:TT3} {τ:St3} {G:Gp} {σ:L2.St} {H:Hp} {q:Bool->Gp->Prop} {Q:Bool->Hp->Prop} (r:Rel K τ G σ H) (h:ta τ G q)
  (n:∀ x G1,q x G1->∀ H1,HR K G1 H1->Kp G H G1 H1->Rel K τ G1 σ H1->Q x H1):lT K ta σ H Q:=
 ⟨τ,G,q,r,h,λx G1 hq H1 hr k=>n x G1 hq H1 hr k (r.next hr k)⟩
def YN {K:Frg} {ta:TA3} {τ:St3} {G:Gp} {σ:L2.St} {H:Hp} {q:List T->Gp->Prop} {Q:List V->Hp->Prop} (r:Rel K τ G σ H) (h:ta τ G q)
  (n:∀ x G1,q x G1->∀ v H1,Rps K H1 x v->HR K G1 H1->Kp G H G1 H1->Rel K τ G1 σ H1->Q v H1):lA K ta σ H Q:=
 ⟨τ,G,q,r,h,λx G1 hq v H1 rx hr k=>n x G1 hq v H1 rx hr k (r.next hr k)⟩
section
variable {X:Cx} {a b c:Expr} {ta tb tc:TE3} {pos:Pos}
def v3 (i:Nat):TE3:=λτ G q=>match τ[i]? with|some (some t)=>q t G|_=>False
def qne (i:Nat) {x:Str} {pos:Pos} (hN:X.N[i]?=some x:=by rfl) (hv:Vis X.env.scope x:=by first|exact Or.inl rfl|exact Or.inr (Or.inl rfl)|exact Or.inr (Or.inr rfl)) (hd:(x==("__debug__" : Str))=false:=by decide)
  (hcd:(x==("__classdict__" : Str))=false:=by decide):E3 X (.Name x pos) (v3 i):=by
 refine XR (qlo (i:=i) hN hv hd hcd) λσ H Q ⟨τ,G,q,r,h,af⟩=>?_;unfold v3 at h;split at h
 ·rename_i t e;obtain ⟨v,e2,rv⟩:=r.st i t e;exact ⟨v,e2,af t G h v H rv r.hp Kp.refl⟩
 ·exact h.elim
def c3 (t:T):TE3:=λ_ G q=>q t G
def e_c {t:T} {v:V} {e:Expr} (h:PE X e (tC v)) (hr:∀ H,Rp X.K H t v):E3 X e (c3 t):=XR h λσ H Q ⟨τ,G,q,r,h,af⟩=>af t G h v H (hr H) r.hp Kp.refl
def qmK {i:Int} {j pos}:E3 X (.Constant (.int i) j pos) (c3 (.int i)):=e_c qjA λ_=>.int i
def qpp {b:Bool} {j pos}:E3 X (.Constant (.bool b) j pos) (c3 (.bl b)):=e_c qmV λ_=>.bl b
def qmS {j pos}:E3 X (.Constant .none j pos) (c3 .non):=e_c qll λ_=>.non
def qnq {x:Str} {j pos}:E3 X (.Constant (.str x) j pos) (c3 (.str x)):=e_c qd8 λ_=>.str x
def n3:TE3:=λ_ _ _=>False
abbrev R3:=T->T->Gp->Q3->Prop
def TF (K:Frg) (r3:R3) (r:R2):Prop:=∀ x y v u G H q Q,HR K G H->Rp K H x v->Rp K H y u->r3 x y G q->Aft K G H q Q->r v u H Q
def o3 (r:R3) (ta tb:TE3):TE3:=λτ G q=>ta τ G λx G1=>tb τ G1 λy G2=>r x y G2 q
def qcP {K:Frg} {r3:R3} {r:R2} (hr:TF K r3 r) {σ:L2.St} {H:Hp} {Q:VK} (h:lE K (o3 r3 ta tb) σ H Q):tOp r (lE K ta) (lE K tb) σ H Q:=by
 obtain ⟨τ,G,q,rl,h,af⟩:=h;refine jo rl h λx G1 h1 v H1 rx hr1 k1 rl1=>jo rl1 h1 λy G2 h2 u H2 ry hr2 k2 rl2=>?_;exact hr x y v u G2 H2 q Q hr2 (rx.keep hr1 k2) ry h2 (af.back (k1.trans k2))
def qff {op:Operator} {r3:R3} {r:R2} (ho:OpR X (binaryOp op) r) (hr:TF X.K r3 r) (ha:E3 X a ta) (hb:E3 X b tb):E3 X (.BinOp a op b pos) (o3 r3 ta tb):=
 XR (qnt ho ha hb) λ_ _ _ h=>qcP hr h
def qop {op:CmpOp} {r3:R3} {r:R2} (ho:OpR X (compareOp op) r) (hr:TF X.K r3 r) (ha:E3 X a ta) (hb:E3 X b tb) (hm:behindInMarks op b=false):E3 X (.Compare a [op] [b] pos) (o3 r3 ta tb):=
 XR (qfM ho ha hb hm) λ_ _ _ h=>qcP hr h
def tb3 (t:TE3):TT3:=λτ G q=>t τ G λx G'=>match x with|.bl k=>q k G'|_=>False
def qls {K:Frg} {t:TE3} {t2:TE} (hw:∀ σ H Q,lE K t σ H Q->t2 σ H Q) {σ:L2.St} {H:Hp} {Q:Bool->Hp->Prop} (h:lT K (tb3 t) σ H Q):qkp t2 σ H Q:=by
 obtain ⟨τ,G,q,rl,h,af⟩:=h;refine hw _ _ _ (jo rl h λx G1 h1 v H1 rx hr1 k1 rl1=>?_);cases x with
 |bl k=>cases rx;exact ⟨k,rfl,af k G1 h1 H1 hr1 k1⟩
 |_=>exact h1.elim
def qob {op:CmpOp} {r3:R3} {r:R2} (ho:OpR X (compareOp op) r) (hr:TF X.K r3 r) (ha:E3 X a ta) (hb:E3 X b tb) (hm:behindInMarks op b=false):C3 X (.Compare a [op] [b] pos) (tb3 (o3 r3 ta tb)):=
 qnb (qf1 ho ha hb hm) λ_ _ _ h=>qls (λ_ _ _=>qcP hr) h
def ch3 (r r':R3) (ta tb tc:TE3):TE3:=λτ G q=>ta τ G λx G1=>tb τ G1 λy G2=>r x y G2 λz G3=>match z with
 |.bl k=>if k=true then tc τ G3 λw G4=>r' y w G4 q else q (.bl false) G3
 |_=>False
def qoE (K:Frg) (r3:T->Gp->Q3->Prop) (r:V->Hp->VK->Prop):Prop:=∀ x v G H q Q,HR K G H->Rp K H x v->r3 x G q->Aft K G H q Q->r v H Q
def u3 (r:T->Gp->Q3->Prop) (ta:TE3):TE3:=λτ G q=>ta τ G λx G1=>r x G1 q
def qp4 {op:UnaryOp} {r3:T->Gp->Q3->Prop} {r:V->Hp->VK->Prop} (ho:UnR X (unaryOp op) r) (hr:qoE X.K r3 r) (ha:E3 X a ta):E3 X (.UnaryOp op a pos) (u3 r3 ta):=
 XR (qn4 ho ha) λ_ _ _ ⟨τ,G,q,rl,h,af⟩=>jo rl h λx G1 h1 v H1 rx hr1 k1 rl1=>hr x v G1 H1 q _ hr1 rx h1 (af.back k1)
def T9:T->Gp->Q3->Prop:=λx G q=>match x with|.int i=>q (.int (-i)) G|_=>False
def qgz {K:Frg}:qoE K T9 (rU λi=>.int (-i)):=λx v G H q Q hr rx h af=>by
 cases x with
 |int i=>cases rx;exact ⟨i,rfl,af _ G h _ H (.int _) hr Kp.refl⟩
 |_=>exact h.elim
def iI (f:Int->Int->Int):R3:=λx y G q=>match x,y with|.int i,.int j=>q (.int (f i j)) G|_,_=>False
def iC (C:Int->Int->Prop) (f:Int->Int->Int):R3:=λx y G q=>match x,y with|.int i,.int j=>C i j/\q (.int (f i j)) G|_,_=>False
def iB (f:Int->Int->Bool):R3:=λx y G q=>match x,y with|.int i,.int j=>q (.bl (f i j)) G|_,_=>False
def qeL {K:Frg} {f:Int->Int->Int}:TF K (iI f) (rI0 λi j=>.int (f i j)):=λx y v u G H q Q hr rx ry h af=>by
 cases x<;>try exact h.elim
 cases y<;>try exact h.elim
 cases rx;cases ry;exact ⟨_,_,rfl,rfl,af _ G h _ H (.int _) hr Kp.refl⟩
def KC {K:Frg} {C:Int->Int->Prop} {f:Int->Int->Int}:TF K (iC C f) (rI C λi j=>.int (f i j)):=λx y v u G H q Q hr rx ry h af=>by
 cases x<;>try exact h.elim
 cases y<;>try exact h.elim
 cases rx;cases ry;exact ⟨_,_,rfl,rfl,h.1,af _ G h.2 _ H (.int _) hr Kp.refl⟩
def JB {K:Frg} {f:Int->Int->Bool}:TF K (iB f) (rI0 λi j=>.bl (f i j)):=λx y v u G H q Q hr rx ry h af=>by
 cases x<;>try exact h.elim
 cases y<;>try exact h.elim
 cases rx;cases ry;exact ⟨_,_,rfl,rfl,af _ G h _ H (.bl _) hr Kp.refl⟩
def qnD (ha:E3 X a ta) (hb:E3 X b tb):E3 X (.BinOp a .Sub b pos) (o3 (iI (·-·)) ta tb):=qff qkc qeL ha hb
def qnA (ha:E3 X a ta) (hb:E3 X b tb):E3 X (.BinOp a .Mult b pos) (o3 (iC zE (·*·)) ta tb):=qff qma KC ha hb
def qou (ha:E3 X a ta) (hb:E3 X b tb):E3 X (.BinOp a .Mod b pos) (o3 (iC (λ_ j=>0<j) (·%·)) ta tb):=qff qkj KC ha hb
def qni (ha:E3 X a ta) (hb:E3 X b tb):E3 X (.BinOp a .FloorDiv b pos) (o3 (iC M6 (·/·)) ta tb):=qff qgG KC ha hb
def qmP (ha:E3 X a ta) (hb:E3 X b tb):E3 X (.BinOp a .Pow b pos) (o3 (iC KP (λi j=>i ^ j.toNat)) ta tb):=qff qjq KC ha hb
def qlt (ha:E3 X a ta) (hb:E3 X b tb):E3 X (.BinOp a .BitAnd b pos) (o3 (iI Builtin.bitAnd) ta tb):=qff qie qeL ha hb
def qnW (ha:E3 X a ta) (hb:E3 X b tb):E3 X (.BinOp a .LShift b pos) (o3 (iC KP (λi j=>i*2 ^ j.toNat)) ta tb):=qff qjz KC ha hb
def qmW (ha:E3 X a ta):E3 X (.UnaryOp .USub a pos) (u3 T9 ta):=qp4 qkb qgz ha
def WM:T->T->Option Bool
 |.non,.non=>some true|.non,.int _=>some false|.int _,.non=>some false|.non,.bl _=>some false|.bl _,.non=>some false|.non,.str _=>some false|.str _,.non=>some false
 |.int i,.int j=>some (decide (i=j))|.bl i,.bl j=>some (decide (i=j))|.str i,.str j=>some (decide (i=j))
 |.int _,.str _=>some false|.str _,.int _=>some false|.bl _,.str _=>some false|.str _,.bl _=>some false
 |_,_=>none
def NB {K:Frg} {H:Hp} {x y:T} {v u:V} {k:Bool} (rx:Rp K H x v) (ry:Rp K H y u) (h:WM x y=some k):qnm v u=true/\decide (v=u)=k:=by
 cases rx<;>cases ry<;>simp [WM] at h<;>subst h<;>refine ⟨rfl,?_⟩<;>simp
def qhO (neg:Bool):R3:=λx y G q=>match y with|.non=>q (.bl (match x with|.non=>!neg|_=>neg)) G|_=>False
def qi3 {K:Frg} {H:Hp} {x:T} {v:V} (rx:Rp K H x v):decide (v=.non)=(match x with|.non=>true|_=>false):=by
 cases rx<;>simp
def qhg {K:Frg}:TF K (qhO false) (λx y H Q=>y=.non/\Q (.bl (decide (x=.non))) H):=λx y v u G H q Q hr rx ry h af=>by
 cases y<;>try exact h.elim
 cases ry;refine ⟨rfl,?_⟩;rw [qi3 rx];refine af _ G h _ H ?_ hr Kp.refl;cases x<;>exact .bl _
variable {tA tB:TT3} {ZB:List Expr}
def qhG (t u:TT3):TT3:=λτ G q=>t τ G λk G1=>if k=true then u τ G1 q else q false G1
def or3 (t u:TT3):TT3:=λτ G q=>t τ G λk G1=>if k=true then q true G1 else u τ G1 q
def qaf (t:TT3):TT3:=λτ G q=>t τ G λk G1=>q (!k) G1
def qlQ (ha:C3 X a tA):W3 X (.BoolOp .And [a] pos) tA:=qf4 ha
def qoi (ha:C3 X a tA):W3 X (.BoolOp .Or [a] pos) tA:=qj2 ha
def qnj (ha:C3 X a tA) (hb:W3 X (.BoolOp .And (b::ZB) pos) tB):W3 X (.BoolOp .And (a::b::ZB) pos) (qhG tA tB):=
 qoV (qhP ha hb) λ_ _ _ ⟨τ,G,q,rl,h,af⟩=>CK rl h λk G1 h1 H1 hr1 k1 rl1=>by
  cases k with
  |true=>rw [if_pos rfl] at h1 ⊢;exact ⟨τ,G1,q,rl1,h1,af.back k1⟩
  |false=>rw [if_neg Bool.false_ne_true] at h1 ⊢;exact af _ G1 h1 H1 hr1 k1
def qpr (ha:C3 X a tA) (hb:W3 X (.BoolOp .Or (b::ZB) pos) tB):W3 X (.BoolOp .Or (a::b::ZB) pos) (or3 tA tB):=
 qoV (qnr ha hb) λ_ _ _ ⟨τ,G,q,rl,h,af⟩=>CK rl h λk G1 h1 H1 hr1 k1 rl1=>by
  cases k with
  |true=>rw [if_pos rfl] at h1 ⊢;exact af _ G1 h1 H1 hr1 k1
  |false=>rw [if_neg Bool.false_ne_true] at h1 ⊢;exact ⟨τ,G1,q,rl1,h1,af.back k1⟩
def qoo (ha:C3 X a tA):C3 X (.UnaryOp .Not a pos) (qaf tA):=
 qnb (qhU ha) λ_ _ _ ⟨τ,G,q,rl,h,af⟩=>CK rl h λk G1 h1 H1 hr1 k1 rl1=>af _ G1 h1 H1 hr1 k1
def qot {e:Expr} {t:TE3} (h:E3 X e t) (he:∀ whole,isTrue e X.env whole=(do let v←whole;standAt e.pos;holding [v] (truthy v)):=by intro _;rfl):C3 X e (tb3 t):=
 qnb (qlZ h he) λ_ _ _ h=>qls (λ_ _ _ h=>h) h
def VT (ta tb:TE3):TE3:=λτ G q=>ta τ G λx G1=>match x with|.bl k=>if k=true then tb τ G1 q else q (.bl false) G1|_=>False
def qpf (ta tb:TE3):TE3:=λτ G q=>ta τ G λx G1=>match x with|.bl k=>if k=true then q (.bl true) G1 else tb τ G1 q|_=>False
def qj7 (ta:TE3):TE3:=λτ G q=>ta τ G λx G1=>match x with|.bl k=>q (.bl (!k)) G1|_=>False
def qnS {op} (h:E3 X a ta):E3 X (.BoolOp op [a] pos) ta:=qhS h
def qnn (ha:E3 X a ta) (hb:E3 X (.BoolOp .And (b::ZB) pos) tb):E3 X (.BoolOp .And (a::b::ZB) pos) (VT ta tb):=
 XR (qmd ha hb) λ_ _ _ ⟨τ,G,q,rl,h,af⟩=>jo rl h λx G1 h1 v H1 rx hr1 k1 rl1=>by
  cases x with
  |bl k=>
   cases rx;refine ⟨k,rfl,?_⟩;cases k with
   |true=>rw [if_pos rfl];exact ⟨τ,G1,q,rl1,(show tb τ G1 q from by simpa using h1),af.back k1⟩
   |false=>rw [if_neg Bool.false_ne_true];exact af _ G1 (by simpa using h1) _ H1 (.bl false) hr1 k1
  |_=>exact h1.elim
def if3 (t:TT3) (ta tb:TE3):TE3:=λτ G q=>t τ G λk G1=>if k=true then ta τ G1 q else tb τ G1 q
def qpl {c:Expr} (hc:C3 X c tA) (ha:E3 X a ta) (hb:E3 X b tb):E3 X (.IfExp c a b pos) (if3 tA ta tb):=
 XR (qc6 hc ha hb) λ_ _ _ ⟨τ,G,q,rl,h,af⟩=>CK rl h λk G1 h1 H1 hr1 k1 rl1=>by
  cases k with
  |true=>rw [if_pos rfl] at h1 ⊢;exact ⟨τ,G1,q,rl1,h1,af.back k1⟩
  |false=>rw [if_neg Bool.false_ne_true] at h1 ⊢;exact ⟨τ,G1,q,rl1,h1,af.back k1⟩
variable {e:Expr} {es:List Expr} {te:TE3} {t:TA3}
def qi:TA3:=λ_ G q=>q [] G
def qc (ta:TE3) (tr:TA3):TA3:=λτ G q=>ta τ G λx G1=>tr τ G1 λxs G2=>q (x::xs) G2
def qnK:A3 X [] qi:=qo2 T4 λ_ H _ ⟨τ,G,q,rl,h,af⟩=>af _ G h _ H .nil rl.hp Kp.refl
def qme (ha:E3 X e te) (hr:A3 X es t) (hs:starEach (e::es) X.env=(false,eval e X.env)::starEach es X.env:=by rfl):A3 X (e::es) (qc te t):=
 qo2 (WP ha hr hs) λ_ _ _ ⟨τ,G,q,rl,h,af⟩=>jo rl h λx G1 h1 v H1 rx hr1 k1 rl1=>YN rl1 h1 λxs G2 h2 vs H2 rs hr2 k2 rl2=>
  af _ G2 h2 _ H2 (.cons (rx.keep hr1 k2) rs) hr2 (k1.trans k2)
def zU (t:TA3):TE3:=λτ G q=>t τ G λxs G1=>xs.length<=sizeLine/\q (.tup xs) G1
def VV (t:TA3):TE3:=λτ G q=>t τ G λxs G1=>xs.length<=sizeLine/\∀ p,G1 p=none->q (.ref p) (gu G1 p (.lst xs))
def qmQ {x1} (h:A3 X es t):E3 X (.Tuple es x1 pos) (zU t):=
 XR (qkw h) λ_ _ _ ⟨τ,G,q,rl,h,af⟩=>YN rl h λxs G1 h1 vs H1 rs hr1 k1 rl1=>⟨by rw [← rs.length];exact h1.1,λp hp=>
  af _ G1 h1.2 _ _ (.tup (SqT.of zf) (rs.keep hr1 (Kp.laid hp))) (hr1.laid hp) (k1.trans (Kp.laid hp))⟩
def qoj (h:A3 X es t):E3 X (.List es pos) (VV t):=
 XR (qi4 h) λ_ _ _ ⟨τ,G,q,rl,h,af⟩=>YN rl h λxs G1 h1 vs H1 rs hr1 k1 rl1=>⟨by rw [← rs.length];exact h1.1,λp hp=>
  af _ _ (h1.2 p (hr1.free hp)) _ _ (.ref p) (hr1.newL hp rs) (k1.trans (Kp.newL hp))⟩
def ML (K:Frg) (r3:List T->Gp->Q3->Prop) (r:List V->Hp->VK->Prop):Prop:=∀ xs vs G H q Q,HR K G H->Rps K H xs vs->r3 xs G q->Aft K G H q Q->r vs H Q
def cb3 (r:List T->Gp->Q3->Prop) (t:TA3):TE3:=λτ G q=>t τ G λxs G1=>r xs G1 q
def qhR {K:Frg} {r3:List T->Gp->Q3->Prop} {r:List V->Hp->VK->Prop} (hr:ML K r3 r) {σ:L2.St} {H:Hp} {Q:VK} (h:lE K (cb3 r3 t) σ H Q):tCB r (lA K t) σ H Q:=by
 obtain ⟨τ,G,q,rl,h,af⟩:=h;exact YN rl h λxs G1 h1 vs H1 rs hr1 k1 rl1=>hr xs vs G1 H1 q Q hr1 rs h1 (af.back k1)
def qht {x:Str} {p:Pos} {id:String} {r3:List T->Gp->Q3->Prop} {r:List V->Hp->VK->Prop} (hc:J9 X (.builtin id) r) (hr:ML X.K r3 r) (hg:Gl X x) (hm:X.mg x=none) (hv:bootBuiltins x=some (.builtin id)) (ha:A3 X (e::es) t) (hn:x≠"__name__" := by decide) (hdb:(x==("__debug__" : Str))=false:=by decide)
  (he:starEach (e::es) X.env=(false,eval e X.env)::starEach es X.env:=by rfl) (hpl:(backTo pos (starEach es X.env)).any (·.1)=false:=by rfl):E3 X (.Call (.Name x p) (e::es) [] pos) (cb3 r3 t):=
 XR (R8 hc hg hm hv ha hn hdb he hpl) λ_ _ _ h=>qhR hr h
def qdk {x:Str} {p:Pos} {ty:String} {r3:List T->Gp->Q3->Prop} {r:List V->Hp->VK->Prop} (hc:J9 X (.type ty) r) (hr:ML X.K r3 r) (hg:Gl X x) (hm:X.mg x=none) (hv:bootBuiltins x=some (.type ty)) (ha:A3 X (e::es) t) (hn:x≠"__name__" := by decide) (hdb:(x==("__debug__" : Str))=false:=by decide)
  (he:starEach (e::es) X.env=(false,eval e X.env)::starEach es X.env:=by rfl) (hpl:(backTo pos (starEach es X.env)).any (·.1)=false:=by rfl):E3 X (.Call (.Name x p) (e::es) [] pos) (cb3 r3 t):=
 XR (XD hc hg hm hv ha hn hdb he hpl) λ_ _ _ h=>qhR hr h
end
def getL (G:Gp) (p:Addr):Option (List T):=match G p with|some (.lst xs)=>some xs|some (.frz xs)=>some xs|none=>none
section
variable {K:Frg} {G G':Gp} {H H':Hp}
def jg (hr:HR K G H) {p:Addr} {xs:List T} (h:getL G p=some xs):∃ vs,SqL K H p vs/\Rps K H xs vs:=by
 unfold getL at h;split at h
 ·rename_i ys e;cases h;obtain ⟨vs,h1,h2⟩:=hr p _ e;exact ⟨vs,SqL.of h1,h2⟩
 ·rename_i ys e;cases h;obtain ⟨vs,⟨o,h1⟩,h2⟩:=hr p _ e;exact ⟨vs,.inl (.inr ⟨o,h1⟩),h2⟩
 ·cases h
def HR.lst (hr:HR K G H) {p:Addr} {xs:List T} (h:G p=some (.lst xs)):∃ vs,H p=some (.lst vs)/\Rps K H xs vs:=hr p _ h
def Rps.atI {xs:List T} {vs:List V} {i:Int} {x:T} (r:Rps K H xs vs) (h:atI xs i=some x):∃ v,L2.atI vs i=some v/\Rp K H x v:=by
 unfold L2.atI at h ⊢;rw [← r.length];cases e:ixN xs.length i with
 |none=>rw [e] at h;cases h
 |some j=>
  rw [e] at h;exact r.get (by simpa using h)
end
def ix3:R3:=λx y G q=>match x,y with
 |.tup xs,.int i=>(match atI xs i with|some z=>q z G|none=>False)
 |.ref p,.int i=>(match getL G p with|some xs=>(match atI xs i with|some z=>q z G|none=>False)|none=>False)
 |_,_=>False
section
variable {X:Cx} {a b c e:Expr} {es:List Expr} {ta tb tc te:TE3} {t:TA3} {pos:Pos}
def qiF {K:Frg}:TF K ix3 (rIx K):=λx y v u G H q Q hr rx ry h af=>by
 cases x<;>try exact h.elim
 case tup xs=>
  cases y<;>try exact h.elim
  case int i=>
   unfold ix3 at h;simp only at h;split at h
   ·rename_i z e;cases ry;cases rx with
    |tup hs rs=>
     obtain ⟨w,e2,rw'⟩:=rs.atI e;exact .inr (.inl ⟨_,_,i,w,rfl,rfl,hs,e2,af z G h w H rw' hr Kp.refl⟩)
   ·exact h.elim
 case ref p=>
  cases y<;>try exact h.elim
  case int i=>
   unfold ix3 at h;simp only at h;split at h
   ·rename_i xs e0;split at h
    ·rename_i z e;cases ry;cases rx;obtain ⟨vs,hs,rs⟩:=jg hr e0;obtain ⟨w,e2,rw'⟩:=rs.atI e;exact .inl ⟨p,vs,i,w,rfl,rfl,hs,e2,af z G h w H rw' hr Kp.refl⟩
    ·exact h.elim
   ·exact h.elim
def qpG (ha:E3 X a ta) (hb:E3 X b tb) (hs:EQ b:=by intro _ _;rfl):E3 X (.Subscript a b pos) (o3 ix3 ta tb):=XR (qh6 qjS ha hb hs) λ_ _ _ h=>qcP qiF h
def qcd {α:Type} (xs:List α) (lo hi:Option Int):List α:=(xs.drop (HT.sIx xs.length 0 lo)).take (HT.sIx xs.length xs.length hi-HT.sIx xs.length 0 lo)
def Rps.cut {K:Frg} {H:Hp} {xs:List T} {vs:List V} (r:Rps K H xs vs) (lo hi:Option Int):Rps K H (qcd xs lo hi) (qeK vs lo hi):=by
 unfold qcd qeK;rw [r.length];exact (r.drop _).take _
abbrev TO3:=St3->Gp->(Option Int->Gp->Prop)->Prop
def lO (K:Frg) (t:TO3):TO:=λσ H Q=>∃ τ G q,Rel K τ G σ H/\t τ G q/\∀ x G',q x G'->∀ H',HR K G' H'->Kp G H G' H'->Q x H'
abbrev P3 (X:Cx) (e:Option Expr) (t:TO3):Prop:=PO X e (lO X.K t)
def np3:TO3:=λ_ G q=>q none G
def sp3 (t:TE3):TO3:=λτ G q=>t τ G λx G1=>match x with|.int i=>q (some i) G1|_=>False
def qoG {X:Cx} {e:Option Expr} {t t':TO} (h:PO X e t) (w:∀ σ H Q,t' σ H Q->t σ H Q):PO X e t':=λpins s σ H Q I q=>h pins s σ H Q I (w σ H Q q)
def qlq:P3 X none np3:=qoG qgv λ_ H _ ⟨τ,G,q,rl,h,af⟩=>af none G h H rl.hp Kp.refl
def qj5 (h:E3 X e te):P3 X (some e) (sp3 te):=qoG (qgB h) λ_ _ _ ⟨τ,G,q,rl,h,af⟩=>jo rl h λx G1 h1 v H1 rx hr1 k1 rl1=>by
 cases x<;>try exact h1.elim
 cases rx;exact ⟨_,rfl,af _ G1 h1 H1 hr1 k1⟩
def sl3:T->Option Int->Option Int->Gp->Q3->Prop:=λx lo hi G q=>match x with
 |.tup xs=>¬ (HT.sIx xs.length 0 lo=0/\HT.sIx xs.length xs.length hi=xs.length)/\q (.tup (qcd xs lo hi)) G
 |.ref p=>(match getL G p with|some xs=>∀ a,G a=none->q (.ref a) (gu G a (.lst (qcd xs lo hi)))|none=>False)
 |_=>False
def qcy (te:TE3) (tl th:TO3):TE3:=λτ G q=>te τ G λx G1=>tl τ G1 λl G2=>th τ G2 λu G3=>sl3 x l u G3 q
def qhb {lo hi:Option Expr} {tl th:TO3} {p2:Pos} (he:E3 X e te) (hl:P3 X lo tl) (hu:P3 X hi th):E3 X (.Subscript e (.Slice lo hi none p2) pos) (qcy te tl th):=
 XR (qcR (qh8.or qgx) he hl hu) λ_ _ _ ⟨τ,G,q,rl,h,af⟩=>jo rl h λx G1 h1 v H1 rx hr1 k1 rl1=>
  ⟨τ,G1,_,rl1,h1,λl G2 h2 H2 hr2 k2=>⟨τ,G2,_,rl1.next hr2 k2,h2,λu G3 h3 H3 hr3 k3=>by
   have kk:=(k1.trans k2).trans k3;have rx3:=(rx.keep hr1 k2).keep hr2 k3;cases x<;>try exact h3.elim
   case tup xs=>
    cases rx3 with
    |tup hs rs=>
     refine .inl ⟨_,_,rfl,hs,by rw [← rs.length];exact h3.1,λp hp=>?_⟩;exact af _ G3 h3.2 _ _ (.tup (SqT.of zf) ((rs.cut _ _).keep hr3 (Kp.laid hp))) (hr3.laid hp) (kk.trans (Kp.laid hp))
   case ref p=>
    unfold sl3 at h3;simp only at h3;split at h3
    ·rename_i xs e0;cases rx3;obtain ⟨vs,hs,rs⟩:=jg hr3 e0;refine .inr ⟨p,vs,rfl,hs,λa ha=>?_⟩;exact af _ _ (h3 a (hr3.free ha)) _ _ (.ref a) (hr3.newL ha (rs.cut _ _)) (kk.trans (Kp.newL ha))
    ·exact h3.elim⟩⟩
def qb1 {K:Frg} {H:Hp} {xs:List T} {vs:List V} (r:Rps K H xs vs):vs=[]↔xs=[]:=by
 cases r<;>simp
def zS:R3:=λx y G q=>match x,y with
 |.tup xs,.tup ys=>xs≠[]/\xs.length+ys.length<=sizeLine/\q (.tup (xs++ys)) G
 |.ref a,.ref b=>(match G a,G b with|some (.lst xs),some (.lst ys)=>xs.length+ys.length<=sizeLine/\∀ p,G p=none->q (.ref p) (gu G p (.lst (xs++ys)))|_,_=>False)
 |.int i,.int j=>q (.int (i+j)) G
 |_,_=>False
def qhh {K:Frg}:TF K zS (λx y H Q=>(rI0 (λi j=>.int (i+j)) x y H Q\/qiR K x y H Q)\/qo5 x y H Q):=λx y v u G H q Q hr rx ry h af=>by
 cases x<;>try exact h.elim
 case int i=>
  cases y<;>try exact h.elim
  cases rx;cases ry;exact .inl (.inl ⟨_,_,rfl,rfl,af _ G h _ H (.int _) hr Kp.refl⟩)
 case tup xs=>
  cases y<;>try exact h.elim
  case tup ys=>
   obtain ⟨h1,h2,h3⟩:=h;cases rx with
   |tup hs rs=>
    cases ry with
    |tup hs' rs'=>
     refine .inl (.inr ⟨_,_,_,_,rfl,rfl,hs,hs',λz=>h1 ((qb1 rs).mp z),by rw [← rs.length,← rs'.length];exact h2,λz=>?_,λz p hp=>?_⟩)
     ·have e:=(qb1 rs').mp z;subst e;rw [List.append_nil] at h3;exact af _ G h3 _ H (.tup hs rs) hr Kp.refl
     ·exact af _ G h3 _ _ (.tup (SqT.of zf) ((rs.append rs').keep hr (Kp.laid hp))) (hr.laid hp) (Kp.laid hp)
 case ref a=>
  cases y<;>try exact h.elim
  case ref b=>
   unfold zS at h;simp only at h;split at h
   ·rename_i xs ys e1 e2;cases rx;cases ry;obtain ⟨vs,g1,r1⟩:=hr.lst e1;obtain ⟨us,g2,r2⟩:=hr.lst e2;refine .inr ⟨a,b,vs,us,rfl,rfl,g1,g2,by rw [← r1.length,← r2.length];exact h.1,λp hp=>?_⟩;exact af _ _ (h.2 p (hr.free hp)) _ _ (.ref p) (hr.newL hp (r1.append r2)) (Kp.newL hp)
   ·exact h.elim
def qiW (ha:E3 X a ta) (hb:E3 X b tb):E3 X (.BinOp a .Add b pos) (o3 zS ta tb):=qff ((qlU.or qfS).or qk0) qhh ha hb
def EW:T->Bool
 |.non=>true|.bl _=>true|.int _=>true|.str _=>true|_=>false
def eqF:T->T->Bool
 |.non,.non=>true
 |.bl a,.bl b=>a==b
 |.bl a,.int b=>(if a then 1 else 0)==b
 |.int a,.bl b=>a==(if b then 1 else 0)
 |.int a,.int b=>a==b
 |.str a,.str b=>a==b
 |_,_=>false
def LZ {K:Frg} {H:Hp} {x:T} {v:V} (r:Rp K H x v) (h:EW x=true):X8 v=true:=by
 cases r<;>first|rfl|(cases h)
def C1 {K:Frg} {H:Hp}:∀ {x:List T} {v:List V},Rps K H x v->x.all EW=true->v.all X8=true
 |_,_,.nil,_=>rfl
 |_,_,.cons a b,h=>by
  rw [List.all_cons,Bool.and_eq_true] at h ⊢;exact ⟨LZ a h.1,C1 b h.2⟩
def qkg {K:Frg} {H:Hp} {x y:T} {v u:V} (r:Rp K H x v) (s:Rp K H y u) (h:EW x=true) (h':EW y=true):eqV v u=eqF x y:=by
 cases r<;>first|(cases h;done)|(cases s<;>first|rfl|(cases h';done))
def qbt {K:Frg} {H:Hp} {x:T} {v:V} (r:Rp K H x v) (h:EW x=true):∀ {ys:List T} {us:List V},Rps K H ys us->ys.all EW=true->inV v us=ys.any λy=>eqF y x
 |_,_,.nil,_=>rfl
 |_,_,.cons a b,h'=>by
  rw [List.all_cons,Bool.and_eq_true] at h';unfold inV;rw [List.any_cons,List.any_cons,qkg a r h'.1 h];congr 1;exact qbt r h b h'.2
def in3 (neg:Bool):R3:=λx y G q=>EW x=true/\match y with
 |.tup ys=>ys.all EW=true/\q (.bl (if neg then !(ys.any λy=>eqF y x) else (ys.any λy=>eqF y x))) G
 |.ref p=>(match getL G p with|some ys=>ys.all EW=true/\q (.bl (if neg then !(ys.any λy=>eqF y x) else (ys.any λy=>eqF y x))) G|none=>False)
 |_=>False
def qh4 {K:Frg} {neg:Bool}:TF K (in3 neg) (rIn K neg):=λx y v u G H q Q hr rx ry h af=>by
 obtain ⟨hf,h⟩:=h;cases y<;>try exact h.elim
 case tup ys=>
  cases ry with
  |tup hs rs=>
   refine ⟨_,_,rfl,.inr hs,LZ rx hf,C1 rs h.1,?_⟩;rw [qbt rx hf rs h.1];exact af _ G h.2 _ H (.bl _) hr Kp.refl
 case ref p=>
  simp only at h;split at h
  ·rename_i ys e;cases ry;obtain ⟨us,hs,rs⟩:=jg hr e;refine ⟨_,_,rfl,.inl hs,LZ rx hf,C1 rs h.1,?_⟩;rw [qbt rx hf rs h.1];exact af _ G h.2 _ H (.bl _) hr Kp.refl
  ·exact h.elim
def UA:List T->Gp->Q3->Prop:=λxs G q=>match xs with
 |[.tup ys]=>q (.int ys.length) G
 |[.str y]=>y.length<=sizeLine/\q (.int y.length) G
 |[.ref p]=>(match getL G p with|some ys=>q (.int ys.length) G|none=>False)
 |_=>False
def TJ {K:Frg} {H:Hp} {x:T} {vs:List V} (r:Rps K H [x] vs):∃ v,vs=[v]/\Rp K H x v:=by
 cases r with
 |cons a b=>cases b;exact ⟨_,rfl,a⟩
def qmr {K:Frg} {H:Hp} {x y:T} {vs:List V} (r:Rps K H [x,y] vs):∃ v u,vs=[v,u]/\Rp K H x v/\Rp K H y u:=by
 cases r with
 |cons a b=>cases b with|cons c d=>cases d;exact ⟨_,_,rfl,a,c⟩
def zw {K:Frg}:ML K UA (λxs H Q=>∃ x n,xs=[x]/\qoO K x H n/\Q (.int n) H):=λxs vs G H q Q hr rs h af=>by
 unfold UA at h;split at h
 ·obtain ⟨v,rfl,r⟩:=TJ rs;cases r with
  |tup hs r2=>exact ⟨_,_,rfl,.inr ⟨_,hs,rfl⟩,by rw [← r2.length];exact af _ G h _ H (.int _) hr Kp.refl⟩
 ·obtain ⟨v,rfl,r⟩:=TJ rs;cases r;exact ⟨_,_,rfl,⟨h.1,rfl⟩,af _ G h.2 _ H (.int _) hr Kp.refl⟩
 ·obtain ⟨v,rfl,r⟩:=TJ rs;split at h
  ·rename_i ys e;cases r;obtain ⟨us,hs,r2⟩:=jg hr e;exact ⟨_,_,rfl,.inl ⟨_,hs,rfl⟩,by rw [← r2.length];exact af _ G h _ H (.int _) hr Kp.refl⟩
  ·exact h.elim
 ·exact h.elim
def qgA:List T->Gp->Q3->Prop:=λxs G q=>match xs with|[.int i]=>q (.int (if i<0 then -i else i)) G|_=>False
def qba {K:Frg}:ML K qgA (λxs H Q=>∃ i,xs=[.int i]/\Q (.int (if i<0 then -i else i)) H):=λxs vs G H q Q hr rs h af=>by
 unfold qgA at h;split at h
 ·obtain ⟨v,rfl,r⟩:=TJ rs;cases r;exact ⟨_,rfl,af _ G h _ H (.int _) hr Kp.refl⟩
 ·exact h.elim
def qdp:List T->Gp->Q3->Prop:=λxs G q=>match xs with|[.int i,.int j]=>q (.int (if j<i then j else i)) G|_=>False
def qbn {K:Frg}:ML K qdp (λxs H Q=>∃ i j,xs=[.int i,.int j]/\Q (.int (if j<i then j else i)) H):=λxs vs G H q Q hr rs h af=>by
 unfold qdp at h;split at h
 ·obtain ⟨v,u,rfl,r,r'⟩:=qmr rs;cases r;cases r';exact ⟨_,_,rfl,af _ G h _ H (.int _) hr Kp.refl⟩
 ·exact h.elim
def qpg:List T->Gp->Q3->Prop:=λxs G q=>match xs with|[.int i,.int j]=>q (.int (if j > i then j else i)) G|_=>False
def RK:List T->Gp->Q3->Prop:=λxs G q=>match xs with|[.int i]=>q (.int i) G|[.bl k]=>q (.int (if k then 1 else 0)) G|_=>False
def YR {K:Frg}:ML K RK (λxs H Q=>(∃ i,xs=[.int i]/\Q (.int i) H)\/∃ k,xs=[.bl k]/\Q (.int (if k then 1 else 0)) H):=λxs vs G H q Q hr rs h af=>by
 unfold RK at h;split at h
 ·obtain ⟨v,rfl,r⟩:=TJ rs;cases r;exact .inl ⟨_,rfl,af _ G h _ H (.int _) hr Kp.refl⟩
 ·obtain ⟨v,rfl,r⟩:=TJ rs;cases r;exact .inr ⟨_,rfl,af _ G h _ H (.int _) hr Kp.refl⟩
 ·exact h.elim
def VP:List T->Gp->Q3->Prop:=λxs G q=>match xs with
 |[.tup ys]=>q (.tup ys) G
 |[.ref p]=>(match getL G p with|some ys=>q (.tup ys) G|none=>False)
 |_=>False
def WZ {K:Frg}:ML K VP (λxs H Q=>∃ p ys,xs=[.ref p]/\((SqL K H p ys/\∀ l,H l=none->Q (.ref l) (upd H l (.tup ys)))\/(SqT K H p ys/\Q (.ref p) H))):=λxs vs G H q Q hr rs h af=>by
 unfold VP at h;split at h
 ·obtain ⟨v,rfl,r⟩:=TJ rs;cases r with
  |tup hs r2=>exact ⟨_,_,rfl,.inr ⟨hs,af _ G h _ H (.tup hs r2) hr Kp.refl⟩⟩
 ·obtain ⟨v,rfl,r⟩:=TJ rs;split at h
  ·rename_i ys e;cases r;obtain ⟨us,hs,r2⟩:=jg hr e;exact ⟨_,_,rfl,.inl ⟨hs,λl hl=>af _ G h _ _ (.tup (SqT.of zf) (r2.keep hr (Kp.laid hl))) (hr.laid hl) (Kp.laid hl)⟩⟩
  ·exact h.elim
 ·exact h.elim
def TB:List T->Gp->Q3->Prop:=λxs G q=>match xs with
 |[.tup ys]=>∀ p,G p=none->q (.ref p) (gu G p (.lst ys))
 |[.ref p]=>(match getL G p with|some ys=>∀ p,G p=none->q (.ref p) (gu G p (.lst ys))|none=>False)
 |_=>False
def MS {K:Frg}:ML K TB (λxs H Q=>∃ p ys,xs=[.ref p]/\(SqL K H p ys\/SqT K H p ys)/\∀ l,H l=none->Q (.ref l) (upd H l (.lst ys))):=λxs vs G H q Q hr rs h af=>by
 unfold TB at h;split at h
 ·obtain ⟨v,rfl,r⟩:=TJ rs;cases r with
  |tup hs r2=>exact ⟨_,_,rfl,.inr hs,λl hl=>af _ _ (h l (hr.free hl)) _ _ (.ref l) (hr.newL hl r2) (Kp.newL hl)⟩
 ·obtain ⟨v,rfl,r⟩:=TJ rs;split at h
  ·rename_i ys e;cases r;obtain ⟨us,hs,r2⟩:=jg hr e;exact ⟨_,_,rfl,.inl hs,λl hl=>af _ _ (h l (hr.free hl)) _ _ (.ref l) (hr.newL hl r2) (Kp.newL hl)⟩
  ·exact h.elim
 ·exact h.elim
def qck:T->List T->Gp->Q3->Prop:=λx xs G q=>match x,xs with
 |.ref l,[.ref b]=>(match G l,G b with|some (.lst ys),some (.lst zs)=>ys.length+zs.length<=sizeLine/\q .non (gu G l (.lst (ys++zs)))|_,_=>False)
 |_,_=>False
def qeH:T->List T->Gp->Q3->Prop:=λx xs G q=>match x,xs with
 |.ref l,[y]=>(match G l with|some (.lst ys)=>ys.length<sizeLine/\q .non (gu G l (.lst (ys++[y])))|_=>False)
 |_,_=>False
def qoh (K:Frg) (r3:T->List T->Gp->Q3->Prop) (r:V->List V->Hp->VK->Prop):Prop:=∀ x xs v vs G H q Q,HR K G H->Rp K H x v->Rps K H xs vs->r3 x xs G q->Aft K G H q Q->r v vs H Q
def qhB {K:Frg}:qoh K qck qbW:=λx xs v vs G H q Q hr rx rs h af=>by
 unfold qck at h;split at h
 ·rename_i l b;split at h
  ·rename_i ys zs e1 e2;cases rx;obtain ⟨u,rfl,r⟩:=TJ rs;cases r;obtain ⟨vs,g1,r1⟩:=hr.lst e1;obtain ⟨us,g2,r2⟩:=hr.lst e2;exact ⟨l,b,vs,us,rfl,rfl,g1,g2,by rw [← r1.length,← r2.length];exact h.1,af _ _ h.2 _ _ .non (hr.wr e1 (r1.append r2)) (Kp.wr e1)⟩
  ·exact h.elim
 ·exact h.elim
def qgT {K:Frg}:qoh K qeH qbG:=λx xs v vs G H q Q hr rx rs h af=>by
 unfold qeH at h;split at h
 ·rename_i l y;split at h
  ·rename_i ys e1;cases rx;obtain ⟨u,rfl,r⟩:=TJ rs;obtain ⟨vs,g1,r1⟩:=hr.lst e1;exact ⟨l,vs,u,rfl,rfl,g1,by rw [← r1.length];exact h.1,af _ _ h.2 _ _ .non (hr.wr e1 (r1.append (.cons r .nil))) (Kp.wr e1)⟩
  ·exact h.elim
 ·exact h.elim
def bm3 (r:T->List T->Gp->Q3->Prop) (to:TE3) (t:TA3):TE3:=λτ G q=>to τ G λx G1=>(match x with|.ref p=>(getL G1 p).isSome=true|_=>False)/\t τ G1 λxs G2=>r x xs G2 q
def qpc {o:Expr} {to:TE3} {name:Str} {apos cpos:Pos} {id:String} {r3:T->List T->Gp->Q3->Prop} {r:V->List V->Hp->VK->Prop} (slot:Slot "list" name id) (hty:typeOf (.builtin id)=pure (.type "method_descriptor")) (hm:MtR X id r) (hr:qoh X.K r3 r) (ho:E3 X o to) (ha:A3 X (e::es) t)
  (hbase:attributeBase o name X.env (eval o X.env)=eval o X.env:=by rfl)
  (hfew:((backTo cpos (starEach (e::es) X.env)).all (λx=>!x.1)&&(backToKw cpos (keywordEach [] X.env)).all (λx=>x.1.isSome)
   && decide ((e::es).length+([]:List Keyword).length+(if ([]:List Keyword).isEmpty then 0 else 1)<30))=true:=by rfl)
  (hline:(apos.endLine==cpos.line)=true:=by rfl) (hs:starEach (e::es) X.env=(false,eval e X.env)::starEach es X.env:=by rfl) (hplain:(backTo cpos (starEach es X.env)).any (·.1)=false:=by rfl) :
  E3 X (.Call (.Attribute o name apos) (e::es) [] cpos) (bm3 r3 to t):=
 XR (qoc PySem.F.plainAttrs_list slot hty hm ho ha hbase hfew hline hs hplain) λ_ _ _ ⟨τ,G,q,rl,h,af⟩=>jo rl h λx G1 h1 v H1 rx hr1 k1 rl1=>by
  obtain ⟨hp,h1⟩:=h1;cases x<;>try exact hp.elim
  case ref p=>
   cases rx;have hp':(getL G1 p).isSome=true:=hp;obtain ⟨ys,e⟩:=Option.isSome_iff_exists.mp hp';obtain ⟨us,hs,r2⟩:=jg hr1 e;exact ⟨.inl ⟨rfl,us,hs⟩,YN rl1 h1 λxs G2 h2 vs H2 rs hr2 k2 rl2=>hr _ xs _ vs G2 H2 q _ hr2 (.ref p) rs h2 (af.back (k1.trans k2))⟩
def qc9 {o:Expr} {to:TE3} {apos cpos:Pos} (ho:E3 X o to) (ha:A3 X [e] t)
  (hbase:attributeBase o "append" X.env (eval o X.env)=eval o X.env:=by rfl)
  (hfew:((backTo cpos (starEach [e] X.env)).all (λx=>!x.1)&&(backToKw cpos (keywordEach [] X.env)).all (λx=>x.1.isSome)
   && decide (([e]:List Expr).length+([]:List Keyword).length+(if ([]:List Keyword).isEmpty then 0 else 1)<30))=true:=by rfl)
  (hline:(apos.endLine==cpos.line)=true:=by rfl) (hs:starEach [e] X.env=(false,eval e X.env)::starEach [] X.env:=by rfl) (hplain:(backTo cpos (starEach [] X.env)).any (·.1)=false:=by rfl) :
  E3 X (.Call (.Attribute o "append" apos) [e] [] cpos) (bm3 qeH to t):=qpc PySem.F.slot_list_append PySem.F.type_list_append UQ qgT ho ha hbase hfew hline hs hplain
def qcK {o:Expr} {to:TE3} {apos cpos:Pos} (ho:E3 X o to) (ha:A3 X [e] t)
  (hbase:attributeBase o "extend" X.env (eval o X.env)=eval o X.env:=by rfl)
  (hfew:((backTo cpos (starEach [e] X.env)).all (λx=>!x.1)&&(backToKw cpos (keywordEach [] X.env)).all (λx=>x.1.isSome)
   && decide (([e]:List Expr).length+([]:List Keyword).length+(if ([]:List Keyword).isEmpty then 0 else 1)<30))=true:=by rfl)
  (hline:(apos.endLine==cpos.line)=true:=by rfl) (hs:starEach [e] X.env=(false,eval e X.env)::starEach [] X.env:=by rfl) (hplain:(backTo cpos (starEach [] X.env)).any (·.1)=false:=by rfl) :
  E3 X (.Call (.Attribute o "extend" apos) [e] [] cpos) (bm3 qck to t):=qpc PySem.F.slot_list_extend PySem.F.type_list_extend qbi qhB ho ha hbase hfew hline hs hplain
end
def tyT (G:Gp):T->Option String
 |.non=>some "NoneType" |.bl _=>some "bool" |.int _=>some "int" |.str _=>some "str" |.tup _=>some "tuple"
 |.ref p=>if (getL G p).isSome then some "list" else none
def qoM (t c:String):Bool:=t==c||(t == "bool" && c == "int")
section
variable {X:Cx} {a b c e:Expr} {es:List Expr} {ta tb tc te:TE3} {t:TA3} {pos:Pos}
def qoX (f:String->Bool) (te:TE3):TE3:=λτ G q=>te τ G λx G1=>match tyT G1 x with|some t=>q (.bl (f t)) G1|none=>False
structure Ends3 where
 nx:St3->Gp->Prop
 rt:Q3
 bk:St3->Gp->Prop:=λ_ _=>False
 ct:St3->Gp->Prop:=λ_ _=>False
abbrev TS3:=Ends3->St3->Gp->Prop
def qeX (K:Frg) (G:Gp) (H:Hp) (q:St3->Gp->Prop) (Q:L2.St->Hp->Prop):Prop:=∀ τ G',q τ G'->∀ σ H',Rel K τ G' σ H'->Kp G H G' H'->Q σ H'
structure AftD (K:Frg) (G:Gp) (H:Hp) (d:Ends3) (D:Ends):Prop where
 nx:qeX K G H d.nx D.nx
 rt:Aft K G H d.rt D.rt
 bk:qeX K G H d.bk D.bk
 ct:qeX K G H d.ct D.ct
def qeX.back {K:Frg} {G G1:Gp} {H H1:Hp} {q:St3->Gp->Prop} {Q:L2.St->Hp->Prop} (a:qeX K G H q Q) (k:Kp G H G1 H1):qeX K G1 H1 q Q:=λx G' h v H' r k'=>a x G' h v H' r (k.trans k')
def AftD.back {K:Frg} {G G1:Gp} {H H1:Hp} {d:Ends3} {D:Ends} (a:AftD K G H d D) (k:Kp G H G1 H1):AftD K G1 H1 d D:=⟨a.nx.back k,a.rt.back k,a.bk.back k,a.ct.back k⟩
def lS (K:Frg) (t:TS3):TS:=λD σ H=>∃ τ G d,Rel K τ G σ H/\t d τ G/\AftD K G H d D
abbrev S3 (X:Cx) (st:Stmt) (t:TS3):Prop:=PS X st (lS X.K t)
abbrev B3 (X:Cx) (st:List Stmt) (t:TS3):Prop:=PSs X st (lS X.K t)
def qco {X:Cx} {st:Stmt} {t t':TS} (h:PS X st t) (w:∀ D σ H,t' D σ H->t D σ H):PS X st t':=λpins s σ H D I q=>h pins s σ H D I (w D σ H q)
def qiH {X:Cx} {st:List Stmt} {t t':TS} (h:PSs X st t) (w:∀ D σ H,t' D σ H->t D σ H):PSs X st t':=λpins s σ H D I q=>h pins s σ H D I (w D σ H q)
variable {st:Stmt} {ZB:List Stmt} {t1 t2:TS3} {tA:TT3}
def za:TS3:=λd τ G=>d.nx τ G
def qO (t u:TS3):TS3:=λd τ G=>t { d with nx:=u d } τ G
def qnx:B3 X [] za:=qiH qgK λ_ σ H ⟨τ,G,d,rl,h,af⟩=>af.nx τ G h σ H rl Kp.refl
def qjl (h1:S3 X st t1) (h2:B3 X ZB t2):B3 X (st::ZB) (qO t1 t2):=qiH (qcI h1 h2) λD σ H ⟨τ,G,d,rl,h,af⟩=>
 ⟨τ,G,{ d with nx:=t2 d },rl,h,⟨λτ' G' h' σ' H' rl' k'=>⟨τ',G',d,rl',h',af.back k'⟩,af.rt,af.bk,af.ct⟩⟩
def qmN (h1:S3 X st t1):B3 X [st] t1:=qhy h1
def XZ (te:TE3):TS3:=λd τ G=>te τ G λ_ G1=>d.nx τ G1
def qj9 (he:E3 X e te) (hs:swapsWith e none pos.line X.env=pure false:=by rfl):S3 X (.Expr e pos) (XZ te):=qco (qhe he hs) λ_ σ H ⟨τ,G,d,rl,h,af⟩=>
 jo rl h λx G1 h1 v H1 rx hr1 k1 rl1=>af.nx τ G1 h1 σ H1 rl1 k1
def zd (te:TE3):TS3:=λd τ G=>te τ G d.rt
def qoe (he:E3 X e te):S3 X (.Return (some e) pos) (zd te):=qco (qiI he) λ_ σ H ⟨τ,G,d,rl,h,af⟩=>⟨τ,G,d.rt,rl,h,af.rt⟩
def qln:TS3:=λd _ G=>d.rt .non G
def QB (c:TT3) (t u:TS3):TS3:=λd τ G=>c τ G λk G1=>if k=true then t d τ G1 else u d τ G1
def qpq {c:Expr} {ba bb:List Stmt} (hc:C3 X c tA) (ha:B3 X ba t1) (hb:B3 X bb t2):S3 X (.If c ba bb pos) (QB tA t1 t2):=qco (qnB hc ha hb) λ_ σ H ⟨τ,G,d,rl,h,af⟩=>
 CK rl h λk G1 h1 H1 hr1 k1 rl1=>by
  cases k with
  |true=>rw [if_pos rfl] at h1 ⊢;exact ⟨τ,G1,d,rl1,h1,af.back k1⟩
  |false=>rw [if_neg Bool.false_ne_true] at h1 ⊢;exact ⟨τ,G1,d,rl1,h1,af.back k1⟩
def qoU:TS3:=λ_ _ _=>False
abbrev TG3:=T->St3->Gp->(St3->Gp->Prop)->Prop
abbrev KR:=List T->St3->Gp->(St3->Gp->Prop)->Prop
def lG (K:Frg) (t:TG3):TG:=λv σ H Q=>∃ x τ G q,Rp K H x v/\Rel K τ G σ H/\t x τ G q/\qeX K G H q Q
def lGs (K:Frg) (t:KR):TGs:=λv σ H Q=>∃ x τ G q,Rps K H x v/\Rel K τ G σ H/\t x τ G q/\qeX K G H q Q
abbrev G3 (X:Cx) (e:Expr) (t:TG3):Prop:=PG X e (lG X.K t)
abbrev Gs3 (X:Cx) (es:List Expr) (t:KR):Prop:=PGs X es (lGs X.K t)
def qm9 {X:Cx} {e:Expr} {t t':TG} (h:PG X e t) (w:∀ v σ H Q,t' v σ H Q->t v σ H Q):PG X e t':=λpins s σ H v u Q I r q=>h pins s σ H v u Q I r (w v σ H Q q)
def qix {X:Cx} {e:List Expr} {t t':TGs} (h:PGs X e t) (w:∀ v σ H Q,t' v σ H Q->t v σ H Q):PGs X e t':=λpins s σ H v u Q I r q=>h pins s σ H v u Q I r (w v σ H Q q)
def gn3 (i:Nat):TG3:=λx τ G q=>q (τ.set i (some x)) G
def qjU {i:Nat} {x:Str} (hN:X.N.Nodup) (hi:X.N[i]?=some x:=by rfl) (hx:Loc X.env.scope x:=by first|exact Or.inl rfl|exact Or.inr rfl) (hf:X.fn x=true\/X.env.scope.names.lookup x=some .local:=by first|exact .inl rfl|exact .inr rfl):G3 X (.Name x pos) (gn3 i):=
 qm9 (qgd hN hi hx hf) λv σ H Q ⟨x,τ,G,q,rx,rl,h,af⟩=>af _ G h _ H (rl.set i rx) Kp.refl
def ji:KR:=λxs τ G q=>match xs with|[]=>q τ G|_=>False
def qr (t:TG3) (u:KR):KR:=λxs τ G q=>match xs with|x::r=>t x τ G λτ' G'=>u r τ' G' q|[]=>False
def qnv:Gs3 X [] ji:=qix qfJ λv σ H Q ⟨x,τ,G,q,rx,rl,h,af⟩=>by
 cases rx with
 |nil=>exact ⟨rfl,af _ G h _ H rl Kp.refl⟩
 |cons _ _=>exact h.elim
def qj6 {tg:TG3} {tgs:KR} (h1:G3 X e tg) (h2:Gs3 X es tgs) (hs:(assignEach (e::es) X.env).map (·.2)=assign e X.env::(assignEach es X.env).map (·.2):=by rfl):Gs3 X (e::es) (qr tg tgs):=qix (qdu h1 h2 hs) λv σ H Q ⟨x,τ,G,q,rx,rl,h,af⟩=>by
 cases rx with
 |nil=>exact h.elim
 |cons r rs=>exact ⟨_,_,rfl,_,τ,G,_,r,rl,h,λτ' G' h' σ' H' rl' k'=>⟨_,τ',G',q,rs.keep rl.hp k',rl',h',af.back k'⟩⟩
def jf (n:Nat) (t:KR):TG3:=λx τ G q=>match x with|.tup xs=>xs.length=n/\t xs τ G q|_=>False
def qnX {k:Nat} {tgs:KR} {n:Nat} (hc:X.calm=true) (h:Gs3 X es tgs) (hn:(assignEach es X.env).length=n:=by rfl) (hst:(assignEach es X.env).findIdx? (·.1)=none:=by rfl):G3 X (.Tuple es k pos) (jf n tgs):=
 qm9 (qlI hc h hn hst) λv σ H Q ⟨x,τ,G,q,rx,rl,h,af⟩=>by
  cases x<;>try exact h.elim
  case tup xs=>
   cases rx with
   |tup hs rs=>exact ⟨_,_,rfl,hs,by rw [← rs.length];exact h.1,_,τ,G,q,rs,rl,h.2,af⟩
def qcE:T->T->T->Gp->(Gp->Prop)->Prop:=λo i v G q=>match o,i with
 |.ref p,.int k=>(match G p with|some (.lst xs)=>(match ixN xs.length k with|some j=>q (gu G p (.lst (xs.set j v)))|none=>False)|_=>False)
 |_,_=>False
def XJ (to ti:TE3):TG3:=λx τ G q=>to τ G λo G1=>ti τ G1 λi G2=>qcE o i x G2 λG3=>q τ G3
def qnV {o i : Expr} {to ti : TE3} (ho : E3 X o to) (hi : E3 X i ti) (ha : ∀ v,assign (.Subscript o i pos) X.env v = (do
      let ov←holding [v] (eval o X.env)
      let iv←holding [v,ov] (eval i X.env)
      standAt pos
      holding [v,ov,iv] (setItem ov iv v)
      release [v,ov,iv] []):=by intro _;rfl):G3 X (.Subscript o i pos) (XJ to ti):=
  qm9 (ql2 ho hi qcG ha) λv σ H Q ⟨x,τ,G,q,rx,rl,h,af⟩=>jo rl h λy G1 h1 u H1 ry hr1 k1 rl1=>jo rl1 h1 λz G2 h2 w H2 rz hr2 k2 rl2=>by
    have rx2:=(rx.keep rl.hp k1).keep hr1 k2;have ry2:=ry.keep hr1 k2;unfold qcE at h2;split at h2
    · rename_i p k;split at h2
      · rename_i xs e;split at h2
        · rename_i j ej;cases ry2;cases rz;obtain ⟨vs,g1,r1⟩:=hr2.lst e;have kk:Kp G2 H2 (gu G2 p (.lst (xs.set j x))) (upd H2 p (.lst (vs.set j v))):=Kp.wr e;exact ⟨p,vs,k,j,rfl,rfl,g1,by rw [← r1.length];exact ej,af τ _ h2 σ _ (rl2.next (hr2.wr e (r1.set rx2 j)) kk) ((k1.trans k2).trans kk)⟩
        · exact h2.elim
      · exact h2.elim
    · exact h2.elim
def zg (te:TE3) (g:TG3):TS3:=λd τ G=>te τ G λx G1=>g x τ G1 d.nx
def qnQ {tg e:Expr} {g:TG3} (he:E3 X e te) (hg:G3 X tg g) (hs:swapsWithSole [tg] e pos.line X.env=pure false:=by rfl) (hw:swappedStores [tg] e X.env=pure none:=by rfl)
  (h1:(assignEach [tg] X.env).map (·.2)=[assign tg X.env]:=by rfl):S3 X (.Assign [tg] e pos) (zg te g):=qco (qj4 he hg hs hw h1) λ_ σ H ⟨τ,G,d,rl,h,af⟩=>
 jo rl h λx G1 h1 v H1 rx hr1 k1 rl1=>⟨x,τ,G1,d.nx,rx,rl1,h1,af.nx.back k1⟩
def qmU (i:Nat) {x:Str} {e:Expr} {pos':Pos} (hN:X.N.Nodup) (he:E3 X e te) (hi:X.N[i]?=some x:=by rfl) (hx:Loc X.env.scope x:=by first|exact Or.inl rfl|exact Or.inr rfl) (hs:swapsWith e (some (.Name x pos')) pos.line X.env=pure false:=by rfl) (hf:X.fn x=true\/X.env.scope.names.lookup x=some .local:=by first|exact .inl rfl|exact .inr rfl) :
  S3 X (.Assign [.Name x pos'] e pos) (zg te (gn3 i)):=qco (qkB hN hi hx he hs hf) λ_ σ H ⟨τ,G,d,rl,h,af⟩=>
 jo rl h λx G1 h1 v H1 rx hr1 k1 rl1=>af.nx _ G1 h1 _ H1 (rl1.set i rx) k1
def WD (i j:Nat) (ta:TA3):TS3:=λd τ G=>ta τ G λxs G1=>match xs with|[x,y]=>d.nx ((τ.set i (some x)).set j (some y)) G1|_=>False
def qn3 {i j:Nat} {x y:Str} {a b:Expr} {tt:TA3} {px py pt:Pos} {kt k2 pt2} (hc:X.calm=true) (hN:X.N.Nodup) (hi:X.N[i]?=some x) (hj:X.N[j]?=some y) (hij:i≠j)
  (hx:X.env.scope.names.lookup x=some .local) (hy:X.env.scope.names.lookup y=some .local) (ha:A3 X [a,b] tt)
  (hw:swappedStores [.Tuple [.Name x px,.Name y py] kt pt] (.Tuple [a,b] k2 pt2) X.env=pure (some [x,y]):=by rfl)
  (hs:swapsWithSole [.Tuple [.Name x px,.Name y py] kt pt] (.Tuple [a,b] k2 pt2) pos.line X.env=pure false:=by rfl) :
  S3 X (.Assign [.Tuple [.Name x px,.Name y py] kt pt] (.Tuple [a,b] k2 pt2) pos) (WD i j tt):=qco (qlN hc hN hi hj hij hx hy ha hw hs) λ_ σ H ⟨τ,G,d,rl,h,af⟩=>
 YN rl h λxs G1 h1 vs H1 rs hr1 k1 rl1=>by
  split at h1
  ·obtain ⟨v,u,rfl,r,r'⟩:=qmr rs;exact ⟨v,u,rfl,af.nx _ G1 h1 _ H1 ((rl1.set i r).set j r') k1⟩
  ·exact h1.elim
end
abbrev TI3:=St3->Gp->(List T->(Gp->Prop)->Gp->Prop)->Prop
def qhJ (K:Frg) (J:It) (items:List T) (stay:Gp->Prop) (G0:Gp) (H0:Hp):Prop:=∀ G H,HR K G H->Kp G0 H0 G H->stay G ->
 (∀ i x,items[i]?=some x->J.go i H)/\(∀ i x v H',items[i]?=some x->J.yld i H v H'->Rp K H' x v/\HR K G H'/\Kp G H G H')/\J.stop items.length H
def lI (K:Frg) (wi:TI3):TI:=λσ H R=>∃ τ G r,Rel K τ G σ H/\wi τ G r/\∀ items stay G',r items stay G'->∀ J H',HR K G' H'->Kp G H G' H'->qhJ K J items stay G' H'->R J H'
abbrev I3 (X:Cx) (tg iter:Expr) (wi:TI3):Prop:=PI X tg iter (lI X.K wi)
def qiA {X:Cx} {tg e:Expr} {t t':TI} (h:PI X tg e t) (w:∀ σ H R,t' σ H R->t σ H R):PI X tg e t':=λpins s σ H R I q=>h pins s σ H R I (w σ H R q)
section
variable {X:Cx} {a b c e l tg:Expr} {es:List Expr} {ta tb tc te:TE3} {t:TA3} {pos:Pos}
def qly {tl:TE} (hl:PE X l tl):PI X tg l (λσ H R=>tl σ H λx H1=>∃ a,x=.ref a/\(((∃ xs,SqL X.K H1 a xs)/\R (Itl X.K a) H1)\/((∃ xs,SqT X.K H1 a xs)/\R (Itt X.K a) H1))):=by
 intro pins s σ H R I h;refine thn (hl pins s σ H _ I h) λv s1 ⟨x,H1,I1,r1,q1⟩=>?_;obtain ⟨a,e,⟨⟨xs,hq⟩,q⟩|⟨⟨xs,hq⟩,q⟩⟩:=q1
 ·subst e;cases r1;obtain ⟨its,rv,p,hz⟩:=I1.list hq;refine wpAny_pyIter_list p.isList ?_;refine ⟨s1.heap.objs.size,[s1.heap.objs.size],_,_,H1,rfl,I1.kept (t':=s1.toks) λb o e=>Heap.get?_push_of_some _ e,qbB a _,⟨_,Heap.get?_push_size _ rfl,rfl,rfl⟩,λb hb=>?_,q⟩;have e:b=s1.heap.objs.size:=by simpa using hb
  subst e;exact I1.fpOk (Nat.le_refl _) (I1.hok.fresh (Nat.le_refl _))
 ·subst e;cases r1;obtain ⟨its,rv,p,hz⟩:=I1.tuple hq;refine wpAny_pyIter_tuple (show s1.heap.IsTuple a its.toArray from p) ?_;refine ⟨s1.heap.objs.size,[s1.heap.objs.size],_,_,H1,rfl,I1.kept (t':=s1.toks) λb o e=>Heap.get?_push_of_some _ e,N5 a _,⟨_,Heap.get?_push_size _ rfl,rfl,rfl⟩,λb hb=>?_,q⟩;have e:b=s1.heap.objs.size:=by simpa using hb
  subst e;exact I1.fpOk (Nat.le_refl _) (I1.hok.fresh (Nat.le_refl _))
def WQ (tl:TE3):TI3:=λτ G r=>tl τ G λx G1=>match x with
 |.tup xs=>r xs (λ_=>True) G1
 |.ref p=>(match getL G1 p with|some xs=>r xs (λG=>getL G p=some xs) G1|none=>False)
 |_=>False
def qiG {K:Frg} {p:Addr} {xs:List T} {G0:Gp} {H0:Hp}:qhJ K (Itl K p) xs (λG=>getL G p=some xs) G0 H0:=by
 intro G H hr _ hs;obtain ⟨vs,sq,rs⟩:=jg hr hs;refine ⟨λi x hi=>?_,λi x v H' hi y=>?_,⟨vs,sq,by rw [rs.length];exact Nat.le_refl _⟩⟩
 ·obtain ⟨v,hv,_⟩:=rs.get hi;exact ⟨vs,v,sq,hv⟩
 ·obtain ⟨e,y⟩:=y;subst e;obtain ⟨w,hw,rw'⟩:=rs.get hi;have e2:=(y vs sq).symm.trans hw;cases e2;exact ⟨rw',hr,Kp.refl⟩
def qks {K:Frg} {p:Addr} {xs:List T} {vs:List V} {G0:Gp} {H0:Hp} (hr0:HR K G0 H0) (sq0:SqT K H0 p vs) (rs0:Rps K H0 xs vs):qhJ K (Itt K p) xs (λ_=>True) G0 H0:=by
 intro G H hr k _;have sq:=R9 hr0 k sq0;have rs:=rs0.keep hr0 k;refine ⟨λi x hi=>?_,λi x v H' hi y=>?_,⟨vs,sq,by rw [rs.length];exact Nat.le_refl _⟩⟩
 ·obtain ⟨v,hv,_⟩:=rs.get hi;exact ⟨vs,v,sq,hv⟩
 ·obtain ⟨e,y⟩:=y;subst e;obtain ⟨w,hw,rw'⟩:=rs.get hi;have e2:=(y vs sq).symm.trans hw;cases e2;exact ⟨rw',hr,Kp.refl⟩
def qnP (hl:E3 X l te):I3 X tg l (WQ te):=qiA (qly hl) λσ H R ⟨τ,G,r,rl,h,af⟩=>jo rl h λx G1 h1 v H1 rx hr1 k1 rl1=>by
 cases x<;>try exact h1.elim
 case tup xs=>
  cases rx with
  |tup hs rs=>exact ⟨_,rfl,.inr ⟨⟨_,hs⟩,af _ _ G1 h1 _ H1 hr1 k1 (qks hr1 hs rs)⟩⟩
 case ref p=>
  simp only at h1;split at h1
  ·rename_i xs e0;cases rx;obtain ⟨vs,hs,rs⟩:=jg hr1 e0;exact ⟨_,rfl,.inl ⟨⟨_,hs⟩,af _ _ G1 h1 _ H1 hr1 k1 qiG⟩⟩
  ·exact h1.elim
def qae (lo:Int) (n:Nat):List T:=(List.range n).map λ(i:Nat)=>T.int (lo+(i:Int))
def qeR {K:Frg} {lo:Int} {n:Nat} {G0:Gp} {H0:Hp}:qhJ K (Itr lo n) (qae lo n) (λ_=>True) G0 H0:=by
 intro G H hr k _;have hl:(qae lo n).length=n:=by simp [qae]
 refine ⟨λi x hi=>?_,λi x v H' hi y=>?_,(show n<=(qae lo n).length by rw [hl];exact Nat.le_refl n)⟩
 ·have:=(List.getElem?_eq_some_iff.mp hi).1;rw [hl] at this;exact this
 ·obtain ⟨e,y⟩:=y;subst e;subst y;have h1:=(List.getElem?_eq_some_iff.mp hi).1;rw [hl] at h1;unfold qae at hi;rw [getElem?_map,List.getElem?_range h1] at hi;have e:T.int (lo+(i:Int))=x:=by simpa using hi
  subst e;exact ⟨.int _,hr,Kp.refl⟩
def zz (ta:TA3):TI3:=λτ G r=>ta τ G λxs G1=>match xs with
 |[.int j]=>(-(2 ^ 62)<=j/\j<2 ^ 62)/\r (qae 0 j.toNat) (λ_=>True) G1
 |[.int i,.int j]=>(-(2 ^ 62)<=i/\i<2 ^ 62/\-(2 ^ 62)<=j/\j<2 ^ 62)/\r (qae i (j-i).toNat) (λ_=>True) G1
 |_=>False
def qcL {p:Pos} (hg:Gl X "range") (hm:X.mg "range" = none) (ha:A3 X [a] t) (hs:starEach [a] X.env=[(false,eval a X.env)]:=by rfl) (h1:∀ τ G q,t τ G q->t τ G λxs G=>q xs G/\xs.length=1):I3 X tg (.Call (.Name "range" p) [a] [] pos) (zz t):=
 qiA (qa4 hg hm ha hs) λσ H R ⟨τ,G,r,rl,h,af⟩=>YN rl (h1 _ _ _ h) λxs G1 h1 vs H1 rs hr1 k1 rl1=>by
  obtain ⟨h1,hl⟩:=h1;simp only at h1;split at h1
  ·obtain ⟨v,rfl,r1⟩:=TJ rs;cases r1;exact ⟨_,rfl,h1.1.1,h1.1.2,af _ _ G1 h1.2 _ H1 hr1 k1 qeR⟩
  ·simp at hl
  ·exact h1.elim
def qcx {p:Pos} (hg:Gl X "range") (hm:X.mg "range" = none) (ha:A3 X [a,b] t) (hs:starEach [a,b] X.env=[(false,eval a X.env),(false,eval b X.env)]:=by rfl) (hs2:starEach [b] X.env=[(false,eval b X.env)]:=by rfl) (h1:∀ τ G q,t τ G q->t τ G λxs G=>q xs G/\xs.length=2):I3 X tg (.Call (.Name "range" p) [a,b] [] pos) (zz t):=
 qiA (qa6 hg hm ha hs hs2) λσ H R ⟨τ,G,r,rl,h,af⟩=>YN rl (h1 _ _ _ h) λxs G1 h1 vs H1 rs hr1 k1 rl1=>by
  obtain ⟨h1,hl⟩:=h1;simp only at h1;split at h1
  ·simp at hl
  ·obtain ⟨v,u,rfl,r1,r2⟩:=qmr rs;cases r1;cases r2;exact ⟨_,_,rfl,h1.1,af _ _ G1 h1.2 _ H1 hr1 k1 qeR⟩
  ·exact h1.elim
def R4 (stay:Gp->Prop) (g:TG3) (tb:TS3) (d:Ends3):List T->St3->Gp->Prop
 |[],τ,G=>stay G/\d.nx τ G
 |x::r,τ,G=>stay G/\g x τ G λτ2 G2=>tb { d with nx:=R4 stay g tb d r,ct:=R4 stay g tb d r,bk:=d.nx } τ2 G2
def DP (wi:TI3) (g:TG3) (tb:TS3):TS3:=λd τ G=>wi τ G λitems stay G1=>R4 stay g tb d items τ G1
def qna {iter:Expr} {body:List Stmt} {wi:TI3} {g:TG3} {tb:TS3} (hp:PassesOwn (model X.prog X.w) X.A X.env X.xe) (hc:X.calm=true) (hi:I3 X tg iter wi) (hg:G3 X tg g) (hb:B3 X body tb)
  (hs:∀ x,foldedSetIterable iter X.env x=pure x:=by intro _;rfl):S3 X (.For tg iter body [] pos) (DP wi g tb):=
 qco (qj8 hp hc hi hg hb hs) λD σ H ⟨τ,G,d,rl,h,af⟩=>by
  refine ⟨τ,G,_,rl,h,λitems stay G1 h1 J H1 hr1 k1 ok=>?_⟩;refine ⟨λi m σ' H'=>m=items.length-i/\i<=items.length/\∃ τ' G',Rel X.K τ' G' σ' H'/\Kp G1 H1 G' H'/\R4 stay g tb d (items.drop i) τ' G',⟨_,rfl,Nat.zero_le _,τ,G1,rl.next hr1 k1,Kp.refl,by simpa using h1⟩,?_⟩;rintro i m σ' H' ⟨rfl,hi,τ',G',rl',k',h'⟩;by_cases hlt:i<items.length
  ·rw [List.drop_eq_getElem_cons hlt] at h';obtain ⟨hst,h'⟩:=h';obtain ⟨go,yld,_⟩:=ok G' H' rl'.hp k' hst;have hx:items[i]?=some items[i]:=getElem?_eq_getElem hlt;refine .inr ⟨go i _ hx,λσ2 H2=>∃ τ2 G2,Rel X.K τ2 G2 σ2 H2/\Kp G1 H1 G2 H2/\R4 stay g tb d (items.drop (i+1)) τ2 G2,λσ2 H2 h2=>⟨_,by omega,rfl,hlt,h2⟩,λv H2 y=>?_⟩;obtain ⟨rv,hr2,k2⟩:=yld i _ v H2 hx y;have k3:Kp G1 H1 G' H2:=k'.trans k2;refine ⟨_,τ',G',_,rv,rl'.next hr2 k2,h',λτ3 G3 h3 σ3 H3 rl3 k4=>?_⟩;have k5:Kp G H G3 H3:=(k1.trans k3).trans k4;refine ⟨τ3,G3,_,rl3,h3,⟨λτ4 G4 h4 σ4 H4 rl4 k6=>⟨τ4,G4,rl4,(k3.trans k4).trans k6,h4⟩,af.rt.back k5,af.nx.back k5,λτ4 G4 h4 σ4 H4 rl4 k6=>⟨τ4,G4,rl4,(k3.trans k4).trans k6,h4⟩⟩⟩
  ·have e:i=items.length:=by omega
   subst e;rw [List.drop_length] at h';obtain ⟨_,_,stop⟩:=ok G' H' rl'.hp k' h'.1;exact .inl ⟨stop,af.nx τ' G' h'.2 σ' H' rl' (k1.trans k')⟩
def WO {stay:Gp->Prop} {g:TG3} {tb:TS3} {d:Ends3} (items:List T) (Pv:Nat->St3->Gp->Prop) {τ:St3} {G:Gp} (h0:Pv 0 τ G) (hst:∀ i τ G,i<=items.length->Pv i τ G->stay G)
  (hs:∀ i x τ G (nx:St3->Gp->Prop),items[i]?=some x->Pv i τ G->(∀ τ G,Pv (i+1) τ G->nx τ G)->g x τ G λτ2 G2=>tb { d with nx:=nx,ct:=nx,bk:=d.nx } τ2 G2)
  (hd:∀ τ G,Pv items.length τ G->d.nx τ G):R4 stay g tb d items τ G:=by
 have key:∀ (r:List T) (i:Nat) τ G,items.drop i=r->i<=items.length->Pv i τ G->R4 stay g tb d r τ G:=by
  intro r;induction r with
  |nil=>
   intro i τ G e hi p;have:i=items.length:=by have:=congrArg List.length e;simp at this;omega
   subst this;exact ⟨hst _ τ G hi p,hd τ G p⟩
  |cons x r ih=>
   intro i τ G e hi p;have hl:i<items.length:=by
    apply Classical.byContradiction;intro z;rw [List.drop_eq_nil_of_le (by omega)] at e;cases e
   have e':=List.drop_eq_getElem_cons hl;rw [e] at e';injection e' with e1 e2;refine ⟨hst i τ G hi p,hs i x τ G _ (by rw [getElem?_eq_getElem hl,e1]) p λτ2 G2 p2=>ih (i+1) τ2 G2 e2.symm hl p2⟩
 exact key items 0 τ G (by simp) (Nat.zero_le _) h0
def W1 (c:TT3) (tb:TS3):TS3:=λd τ G=>∃ W:Nat->St3->Gp->Prop,(∃ m,W m τ G)/\∀ m τ G,W m τ G ->
 c τ G λb G1=>if b=true then ∃ N:St3->Gp->Prop,(∀ τ' G',N τ' G'->∃ m',m'<m/\W m' τ' G')/\tb { d with nx:=N,ct:=N,bk:=d.nx } τ G1 else d.nx τ G1
def qgY {c:Expr} {body:List Stmt} {tc:TT3} {tb:TS3} (hp:PassesOwn (model X.prog X.w) X.A X.env X.xe) (hc:C3 X c tc) (hb:B3 X body tb):S3 X (.While c body [] pos) (W1 tc tb):=
 qco (qc7 hp hc hb) λD σ H ⟨τ,G,d,rl,⟨W,⟨m0,w0⟩,turn⟩,af⟩=>by
  refine ⟨λm σ' H'=>∃ τ' G',Rel X.K τ' G' σ' H'/\Kp G H G' H'/\W m τ' G',⟨m0,τ,G,rl,Kp.refl,w0⟩,?_⟩;rintro m σ' H' ⟨τ',G',rl',k',w'⟩;refine CK rl' (turn m τ' G' w') λb G1 h1 H1 hr1 k1 rl1=>?_;cases b with
  |true=>
   rw [if_pos rfl] at h1 ⊢;obtain ⟨N,hN,h1⟩:=h1;refine ⟨λσ2 H2=>∃ τ2 G2,Rel X.K τ2 G2 σ2 H2/\Kp G H G2 H2/\N τ2 G2,λσ2 H2 ⟨τ2,G2,r2,k2,n2⟩=>?_,τ',G1,_,rl1,h1,⟨λτ2 G2 h2 σ2 H2 r2 k2=>⟨τ2,G2,r2,(k'.trans k1).trans k2,h2⟩,af.rt.back (k'.trans k1),af.nx.back (k'.trans k1),λτ2 G2 h2 σ2 H2 r2 k2=>⟨τ2,G2,r2,(k'.trans k1).trans k2,h2⟩⟩⟩;obtain ⟨m',hm,w2⟩:=hN τ2 G2 n2;exact ⟨m',hm,τ2,G2,r2,k2,w2⟩
  |false=>
   rw [if_neg Bool.false_ne_true] at h1 ⊢;exact af.nx τ' G1 h1 σ' H1 rl1 (k'.trans k1)
abbrev Sp3:=List T->Gp->Q3->Prop
def lSp (K:Frg) (sp:Sp3):Sp:=λvs H Q _=>∃ ts G q,HR K G H/\Rps K H ts vs/\sp ts G q/\Aft K G H q Q
def Fn3 (P:Program) (w:World) (K:Frg) (mg:Str->Option Value) (base:Heap) (k:Nat) (x:Str) (sp:Sp3):Prop:=
 ∃ f fd ps,FnOk P w K mg base CX0 k f fd ps (lSp K sp)/\zr K fd ps []/\PySem.W.keepIn K (.ref f)=true/\mg x=some (.ref f)
def Fn3.mono {P:Program} {w:World} {K:Frg} {mg:Str->Option Value} {base:Heap} {j k:Nat} {x:Str} {sp:Sp3} (F:Fn3 P w K mg base j x sp) (h:j<=k):Fn3 P w K mg base k x sp:=
 let ⟨f,fd,ps,a,b,c,d⟩:=F;⟨f,fd,ps,a.mono h,b,c,d⟩
def Fn3.imp {P:Program} {w:World} {K:Frg} {mg:Str->Option Value} {base:Heap} {k:Nat} {x:Str} {sp sp':Sp3} (F:Fn3 P w K mg base k x sp) (h:∀ ts G q,sp' ts G q->sp ts G q):Fn3 P w K mg base k x sp':=
 let ⟨f,fd,ps,a,b,c,d⟩:=F;⟨f,fd,ps,a.imp λvs H Q E ⟨ts,G,q,h1,h2,h3,h4⟩=>⟨ts,G,q,h1,h2,h _ _ _ h3,h4⟩,b,c,d⟩
def qkv {k:Nat} {x:Str} {p:Pos} {sp:Sp3} (F:Fn3 X.prog X.w X.K X.mg X.base k x sp) (hr:Room k X.A) (hg:Gl X x) (ha:A3 X (e::es) t) (hdb:(x==("__debug__" : Str))=false:=by decide)
  (he:starEach (e::es) X.env=(false,eval e X.env)::starEach es X.env:=by rfl) (hpl:(backTo pos (starEach es X.env)).any (·.1)=false:=by rfl):E3 X (.Call (.Name x p) (e::es) [] pos) (cb3 sp t):=by
 obtain ⟨f,fd,ps,F,b,kp,m⟩:=F;refine XR (qg8 F hr hg m kp b .nil qoa ha hdb he hpl) λσ H Q ⟨τ,G,q,rl,h,af⟩=>YN rl h λxs G1 h1 vs H1 rs hr1 k1 rl1=>?_;rw [List.append_nil];exact ⟨xs,G1,q,hr1,rs,h1,af.back k1⟩
def qu (N:List Str) (ts:List T):St3:=ts.map some++List.replicate (N.length-ts.length) none
def T7 {K:Frg} {N:List Str} {G:Gp} {H:Hp} {ts:List T} {vs:List V} (hr:HR K G H) (rs:Rps K H ts vs):Rel K (qu N ts) G (L2.W7 N vs) H:=by
 refine ⟨hr,by simp [qu,L2.W7,rs.length],λi t e=>?_⟩;unfold qu at e;by_cases hi:i<ts.length
 ·rw [List.getElem?_append_left (by simpa using hi),getElem?_map] at e;cases q:ts[i]? with
  |none=>rw [q] at e;cases e
  |some z=>
   rw [q] at e;have e':z=t:=by simpa using e
   subst e';obtain ⟨v,hv,r⟩:=rs.get q;refine ⟨v,?_,r⟩;unfold L2.W7;rw [List.getElem?_append_left (by rw [length_map,← rs.length];exact hi),getElem?_map,hv];rfl
 ·rw [List.getElem?_append_right (by simpa using hi),List.getElem?_replicate] at e;split at e<;>cases e
def qjb {P:Program} {w:World} {K:Frg} {mg:Str->Option Value} {base:Heap} {x qual:Str} {st:Stmt} {f:Addr} {fd:FuncData} {N ps:List Str} {k:Nat} {sp:Sp3} {t3:TS3} (F:Fun K x qual st f fd) (S:FnScope N ps (qj st)) (bd:zr K fd ps []) (hm:mg x=some (.ref f))
  (body:∀ (cdv:Value) (A:Around) (outer:List Env) (s:Shared) (H:Hp) (E:XK),Room k (A.deeper (envOfC qual (qj st) s.heap.objs.size f cdv)) ->
   B3 (qcu CX0 P w K mg base N qual (qj st) f cdv A outer s H E).nox (jI st) t3)
  (read:∀ ts G q,sp ts G q->ts.length=ps.length/\t3 { nx:=λ_ G'=>q .non G',rt:=q } (qu N ts) G):Fn3 P w K mg base (k+1) x sp:=by
 refine ⟨f,fd,ps,F.ok S (λvs H Q E ⟨ts,G,q,h1,h2,h3,h4⟩=>by rw [← h2.length];exact (read ts G q h3).1) λcdv A outer s H vs Q E hr ⟨ts,G,q,h1,h2,h3,h4⟩=>?_,bd,F.kp,hm⟩;refine ⟨_,body cdv A outer s H E hr,qu N ts,G,_,T7 h1 h2,(read ts G q h3).2,⟨λτ' G' h' σ' H' rl' k'=>h4 _ G' h' _ H' .non rl'.hp k',h4,λ_ _ z=>z.elim,λ_ _ z=>z.elim⟩⟩
def qo3 (xs:List T):Option Bool:=match xs with
 |[]=>some true
 |.bl k::r=>(match qo3 r with|some j=>some (k&&j)|none=>none)
 |_=>none
def qoQ (xs:List T):Option Bool:=match xs with
 |[]=>some false
 |.bl k::r=>(match qoQ r with|some j=>some (k||j)|none=>none)
 |_=>none
end
def XW (env:Env):List (Str×NameKind)->List (Str×Addr)->List (Str×Addr)
 |[],cs=>cs
 | (n,k)::r,cs=>if k=.free then XW env r ((n,(env.cells.lookup n).getD 0)::cs) else XW env r cs
def JT {scope:Scope} {env:Env} (h:∀ y∈scope.names,y.2=.free->∃ c,env.cells.lookup y.1=some c):closureFor scope env=pure (XW env scope.names []):=by
 have key:∀ (l:List (Str×NameKind)) (cs:List (Str×Addr)),(∀ y∈l,y.2=.free->∃ c,env.cells.lookup y.1=some c) ->
   (forIn l cs λ(x:Str×NameKind) (r:List (Str×Addr))=>if (x.2==NameKind.free)=true then (do let a←cellOf env x.1;pure (ForInStep.yield ((x.1,a)::r))) else pure (ForInStep.yield r))=(pure (XW env l cs):Sem _):=by
  intro l;induction l with
  |nil=>intro cs _;rfl
  |cons y r ih=>
   intro cs hl;obtain ⟨n,k⟩:=y;rw [List.forIn_cons];by_cases hk:k=.free
   ·subst hk;obtain ⟨c,hc⟩:=hl (n,.free) List.mem_cons_self rfl;have e:cellOf env n=pure c:=by unfold cellOf;rw [show List.lookup n env.cells=some c from hc]
    simp only [beq_self_eq_true,if_true];rw [e,pure_bind,pure_bind];show forIn r ((n,c)::cs) _=_;rw [ih _ λz hz=>hl z (List.mem_cons_of_mem _ hz)];show _=(pure (if NameKind.free=NameKind.free then XW env r ((n,(env.cells.lookup n).getD 0)::cs) else XW env r cs):Sem _);rw [if_pos rfl,show List.lookup n env.cells=some c from hc];rfl
   ·have hb:(k==NameKind.free)=false:=by cases k<;>first|rfl|exact absurd rfl hk
    simp only [hb,Bool.false_eq_true,if_false];rw [pure_bind];show forIn r cs _=_;rw [ih _ λz hz=>hl z (List.mem_cons_of_mem _ hz)];show _=(pure (if k=NameKind.free then XW env r ((n,(env.cells.lookup n).getD 0)::cs) else XW env r cs):Sem _);rw [if_neg hk]
 have:=key scope.names [] h;unfold closureFor;refine Eq.trans ?_ this;exact bind_pure (m:=Sem) _
def V5 {env:Env}:∀ (l:List (Str×NameKind)) (cs:List (Str×Addr)) (x:Str) (c:Addr),(∀ y∈l,y.2=.free->∃ c,env.cells.lookup y.1=some c) ->
  (∀ x c,cs.lookup x=some c->env.cells.lookup x=some c)->(XW env l cs).lookup x=some c->env.cells.lookup x=some c
 |[],_,_,_,_,h,e=>h _ _ e
 | (n,k)::r,cs,x,c,hl,h,e=>by
  unfold XW at e;split at e
  ·rename_i hk;refine V5 r _ x c (λy hy=>hl y (List.mem_cons_of_mem _ hy)) (λx c e=>?_) e;rw [List.lookup_cons] at e;split at e
   ·rename_i hx;have hx':x=n:=by simpa using hx
    subst hx';obtain ⟨d,hd⟩:=hl (x,k) List.mem_cons_self hk;have hd:List.lookup x env.cells=some d:=hd;rw [hd] at e ⊢;exact e
   ·exact h _ _ e
  ·exact V5 r cs x c (λy hy=>hl y (List.mem_cons_of_mem _ hy)) h e
def WE {env:Env}:∀ (l:List (Str×NameKind)) (cs:List (Str×Addr)) (x:Str),((x,NameKind.free)∈l\/∃ c,cs.lookup x=some c)->∃ c,(XW env l cs).lookup x=some c
 |[],_,_,h=>by
  rcases h with h|h
  ·simp at h
  ·exact h
 | (n,k)::r,cs,x,h=>by
  unfold XW;have put:∀ d:Addr,(x=n\/∃ c,cs.lookup x=some c)->∃ c,((n,d)::cs).lookup x=some c:=λd z=>by
   rw [List.lookup_cons];cases hx:x==n with
   |true=>exact ⟨d,rfl⟩
   |false=>
    rcases z with z|z
    ·rw [z] at hx;simp at hx
    ·exact z
  split
  ·rename_i hk;refine WE r _ x ?_;rcases h with h|h
   ·rcases mem_cons.mp h with e|e
    ·cases e;exact .inr (put _ (.inl rfl))
    ·exact .inl e
   ·exact .inr (put _ (.inr h))
  ·rename_i hk;refine WE r _ x ?_;rcases h with h|h
   ·rcases mem_cons.mp h with e|e
    ·cases e;exact absurd rfl hk
    ·exact .inl e
   ·exact .inr h
def R0 {env:Env}:∀ (l:List (Str×NameKind)) (cs:List (Str×Addr)) (x:Str) (c:Addr),(XW env l cs).lookup x=some c->(x,NameKind.free)∈l\/cs.lookup x=some c
 |[],_,_,_,e=>.inr e
 | (n,k)::r,cs,x,c,e=>by
  unfold XW at e;split at e
  ·rename_i hk;rcases R0 r _ x c e with z|z
   ·exact .inl (List.mem_cons_of_mem _ z)
   ·rw [List.lookup_cons] at z;split at z
    ·rename_i hx;have hx':x=n:=by simpa using hx
     subst hx';subst hk;exact .inl List.mem_cons_self
    ·exact .inr z
  ·rcases R0 r cs x c e with z|z
   ·exact .inl (List.mem_cons_of_mem _ z)
   ·exact .inr z
def EA {α:Type}:∀ (xs ys:List (Str×α)) (x:Str),(xs++ys).lookup x=(match xs.lookup x with|some c=>some c|none=>ys.lookup x)
 |[],ys,x=>rfl
 | (n,c)::xs,ys,x=>by
  rw [cons_append,List.lookup_cons,List.lookup_cons];cases x==n with
  |true=>rfl
  |false=>exact EA xs ys x
def jF:∀ (l:List (Str×NameKind)) {n:Nat} {acc:List (Str×Addr)},cellsFrom n l acc=cellsFrom n l []++acc
 |[],_,_=>rfl
 | (x,k)::r,n,acc=>by
  unfold cellsFrom;split
  ·rw [jF r (acc:=(x,n)::acc),jF r (acc:=[(x,n)]),List.append_assoc];rfl
  ·exact jF r
def JQ:∀ (l:List (Str×NameKind)) (n:Nat) (acc:List (Str×Addr)) (x:Str) (c:Addr),(x,c)∈cellsFrom n l acc->(x,NameKind.cell)∈l\/(x,c)∈acc
 |[],_,_,_,_,h=>.inr h
 | (y,k)::r,n,acc,x,c,h=>by
  unfold cellsFrom at h;split at h
  ·rename_i hk;have hk:k=.cell:=by simpa using hk
   rcases JQ r _ _ x c h with z|z
   ·exact .inl (List.mem_cons_of_mem _ z)
   ·rcases mem_cons.mp z with e|e
    ·cases e;subst hk;exact .inl List.mem_cons_self
    ·exact .inr e
  ·rcases JQ r _ _ x c h with z|z
   ·exact .inl (List.mem_cons_of_mem _ z)
   ·exact .inr z
def QM:∀ (l:List (Str×NameKind)) (n:Nat) (acc:List (Str×Addr)) (x:Str),((x,NameKind.cell)∈l\/∃ c,acc.lookup x=some c)->∃ c,(cellsFrom n l acc).lookup x=some c
 |[],_,_,_,h=>by
  rcases h with h|h
  ·simp at h
  ·exact h
 | (y,k)::r,n,acc,x,h=>by
  unfold cellsFrom;have put:(x=y\/∃ c,acc.lookup x=some c)->∃ c,((y,n)::acc).lookup x=some c:=λz=>by
   rw [List.lookup_cons];cases hx:x==y with
   |true=>exact ⟨n,rfl⟩
   |false=>
    rcases z with z|z
    ·rw [z] at hx;simp at hx
    ·exact z
  split
  ·refine QM r _ _ x ?_;rcases h with h|h
   ·rcases mem_cons.mp h with e|e
    ·cases e;exact .inr (put (.inl rfl))
    ·exact .inl e
   ·exact .inr (put (.inr h))
  ·rename_i hk;refine QM r _ _ x ?_;rcases h with h|h
   ·rcases mem_cons.mp h with e|e
    ·cases e;exact absurd rfl hk
    ·exact .inl e
   ·exact .inr h
def QG {M:Model} {A:Around} {E:Value->Shared->Prop} {s:Shared} {scope:Scope} {globals:Addr} {cl:List (Str×Addr)} {qual:Str} {env:Env} {Q:Env->Shared->Prop}
  (hQ:∀ h₁:Heap,h₁.Ns s.heap.objs.size (λ_=>none)->(∀ b o,s.heap.get? b=some o->h₁.get? b=some o)->CellsOk h₁ (s.heap.objs.size+1) (cellsFrom (s.heap.objs.size+1) scope.names [])->Q (newEnv scope s.heap.objs.size globals (cellsFrom (s.heap.objs.size+1) scope.names cl) qual none .none (some env) builtinsNs) { s with heap:=h₁ }) :
  wpAny M A (newFunctionEnv scope globals cl [] qual none .none (some env)) Q E s:=by
 simp only [newFunctionEnv,Option.isSome_some,if_true];refine wpAny_bind (wpAny_alloc ?_);refine wpAny_bind (wpAny_layCells _ (λname kind cells=>by cases hkc:kind==NameKind.cell<;>simp [hkc]) _ _ _ _ ?_);have ok:=cellsFrom_ok scope.names (s.heap.push { cls:=.type "dict",data:=.dict #[] }) (s.heap.objs.size+1) [] ⟨λ_ _ hm=>(nomatch hm),List.Pairwise.nil⟩ (by rw [Heap.size_push];exact Nat.le_refl _);rw [Heap.size_push] at ok;rw [show ({ s with heap:=s.heap.push { cls:=.type "dict",data:=.dict #[] } }:Shared).heap.objs.size=s.heap.objs.size+1 from Heap.size_push ..];rw [List.forIn_nil];refine wpAny_bind (wpAny_pure (wpAny_pure ?_));exact hQ _ ((Heap.Ns.new s.heap (.type "dict")).keeps (pushCells_keeps _ _)) (λb o e=>pushCells_keeps _ _ b o (Heap.get?_push_of_some _ e)) ok
def ql (X:Cx) (N':List Str) (scope:Scope) (s:Shared) (H:Hp) (fp:List Addr):Cx where
 prog:=X.prog
 w:=X.w
 K:=X.K
 mg:=X.mg
 base:=X.base
 A:=X.A
 N:=N'
 s₀:=s
 H₀:=H
 env:=compEnvC scope (cellsFrom (s.heap.objs.size+1) scope.names (XW X.env scope.names [])) s.heap.objs.size X.env
 outer:=X.stack
 stack:=X.stack
 ex:=fp
 fn:=λx=>scope.names.lookup x==some .cell
 calm:=true
 pn:=[]
 xe:=λ_ _=>False
def qag (outer inner:Scope):Bool:=(inner.kind==.function)&&inner.names.all λy=>
 (y.2 != .cell||inner.names.lookup y.1==some .cell)&&(y.2 != .local||inner.names.lookup y.1==some .local)&&(y.2 != .free||(inner.names.lookup y.1==some .free&&(outer.names.lookup y.1==some .cell||outer.names.lookup y.1==some .free)))
def cap {α:Type} (m:List (Option Nat)) (σ:List (Option α)):List (Option α):=m.map λo=>match o with|some j=>(σ[j]?).join|none=>none
def UG (N N':List Str) (scope:Scope) (m:List (Option Nat)):Bool:=(m.length==N'.length)&&(m.zip N').all λp=>match p.1 with
 |none=>true
 |some j=>N[j]?==some p.2&&scope.names.lookup p.2==some .free
def qa7 {α:Type} {m:List (Option Nat)} {σ:List (Option α)} {i:Nat} {v:α} (h:(cap m σ)[i]?=some (some v)):∃ j,m[i]?=some (some j)/\σ[j]?=some (some v):=by
 unfold cap at h;rw [getElem?_map] at h;cases e:m[i]? with
 |none=>rw [e] at h;cases h
 |some o=>
  rw [e] at h;cases o with
  |none=>cases h
  |some j=>
   refine ⟨j,rfl,?_⟩;have h':(σ[j]?).join=some v:=by simpa using h
   cases q:σ[j]? with
   |none=>rw [q] at h';cases h'
   |some z=>rw [q] at h';exact congrArg some h'
def qbH {N N':List Str} {scope:Scope} {m:List (Option Nat)} (h:UG N N' scope m=true) {i j:Nat} {x:Str} (e:m[i]?=some (some j)) (hx:N'[i]?=some x):N[j]?=some x/\scope.names.lookup x=some .free:=by
 unfold UG at h;rw [Bool.and_eq_true] at h;have hm:(some j,x)∈m.zip N':=mem_of_getElem? (i:=i) (List.getElem?_zip_eq_some.mpr ⟨e,hx⟩);have:=List.all_eq_true.mp h.2 _ hm;simp only [Bool.and_eq_true,beq_iff_eq] at this;exact this
def qg4 {N N':List Str} {scope:Scope} {m:List (Option Nat)} {α:Type} (σ:List (Option α)) (h:UG N N' scope m=true):(cap m σ).length=N'.length:=by
 unfold UG at h;rw [Bool.and_eq_true] at h;unfold cap;rw [length_map];simpa using h.1
structure ScFacts (outer inner:Scope):Prop where
 kind:inner.kind=.function
 own:∀ y∈inner.names,y.2=.cell->inner.names.lookup y.1=some .cell
 loc:∀ y∈inner.names,y.2=.local->inner.names.lookup y.1=some .local
 free:∀ y∈inner.names,y.2=.free->inner.names.lookup y.1=some .free/\(outer.names.lookup y.1=some .cell\/outer.names.lookup y.1=some .free)
def EM {outer inner:Scope} (h:qag outer inner=true):ScFacts outer inner:=by
 unfold qag at h;rw [Bool.and_eq_true] at h;have ha:=List.all_eq_true.mp h.2;refine ⟨by simpa using h.1,λy hy e=>?_,λy hy e=>?_,λy hy e=>?_⟩
 ·have:=ha y hy;rw [e] at this;simpa using this
 ·have:=ha y hy;rw [e] at this;simpa using this
 ·have:=ha y hy;rw [e] at this;simpa using this
def ZN {scope:Scope} {env:Env} {x:Str} {k:NameKind} (h:(relabel scope env).names.lookup x=some k):scope.names.lookup x=some k\/(k=.cell/\scope.names.lookup x=some .free):=by
 have key:∀ (l:List (Str×NameKind)),(l.map λ(n,k)=>if (k==NameKind.free&&env.scope.kind==.function&&env.kindOf n==some .cell) then (n,NameKind.cell) else (n,k)).lookup x=some k->l.lookup x=some k\/(k=.cell/\l.lookup x=some .free):=by
  intro l;induction l with
  |nil=>intro h;simp at h
  |cons y r ih=>
   intro h;obtain ⟨n,j⟩:=y;rw [map_cons] at h;dsimp only at h;by_cases hc:(j==NameKind.free&&env.scope.kind==.function&&env.kindOf n==some .cell)=true
   ·rw [if_pos hc,List.lookup_cons] at h;rw [List.lookup_cons];cases hx:x==n with
    |true=>
     rw [hx] at h;have hk:NameKind.cell=k:=by simpa using h
     have hj:j=.free:=by simp only [Bool.and_eq_true,beq_iff_eq] at hc;exact hc.1.1
     exact .inr ⟨hk.symm,by rw [hj]⟩
    |false=>rw [hx] at h;exact ih h
   ·rw [if_neg hc,List.lookup_cons] at h;rw [List.lookup_cons];cases hx:x==n with
    |true=>rw [hx] at h;exact .inl h
    |false=>rw [hx] at h;exact ih h
 exact key scope.names h
def PF (X:Cx) (ifs:List Expr) (t:TT):Prop:=
 ∀ (pins:List (Addr×Obj)) (s:Shared) (σ:L2.St) (H:Hp) (Q:Bool->Hp->Prop),Inv X pins σ H s->t σ H Q ->
  wpAny (model X.prog X.w) X.A (forIn ifs true λc r=>if r=true then do let ok←isTrue c X.env (eval c X.env);pure (ForInStep.yield ok) else pure (ForInStep.yield r)) (TP X pins σ Q) X.xe s
def qjN {X:Cx}:PF X [] (λ_ H Q=>Q true H):=λ_ _ _ H _ I h=>wpAny_tests_nil ⟨H,I,h⟩
def qlG {X:Cx} {c:Expr} {t:TT} (h:PT X c t):PF X [c] t:=λpins s σ H Q I q=>wpAny_tests_one (h pins s σ H Q I q)
section
variable {X:Cx} {pins:List (Addr×Obj)} {σ:L2.St} {H:Hp} {s:Shared}
def RV {N':List Str} {scope:Scope} {fp:List Addr} {m:List (Option Nat)} {h1:Heap} {mm:Str->Option Value} (hc:X.calm=true) (I:Inv X pins σ H s) (sc:ScFacts X.env.scope scope) (hcap:UG X.N N' scope m=true)
  (hfp:∀ b∈fp,S9 X pins H b) (hob:∀ b∈fp,∃ o,s.heap.get? b=some o) (hns:h1.Ns s.heap.objs.size mm) (hk:∀ b o,s.heap.get? b=some o->h1.get? b=some o) (hown:CellsOk h1 (s.heap.objs.size+1) (cellsFrom (s.heap.objs.size+1) scope.names [])) :
  Inv (ql X N' scope s H fp) [] (cap m σ) H { s with heap:=h1 }:=by
 have hcl:∀ y∈scope.names,y.2=.free->∃ c,X.env.cells.lookup y.1=some c:=λy hy e=>by
  rcases (sc.free y hy e).2 with z|z
  ·exact I.ok.has y.1 (.inl z)
  ·exact I.ok.has y.1 (.inr z)
 have cl:∀ x c,(XW X.env scope.names []).lookup x=some c->X.env.cells.lookup x=some c:=λx c e=>V5 scope.names [] x c hcl (λ_ _ z=>by simp at z) e;have clt:∀ x c,(XW X.env scope.names []).lookup x=some c->c<s.heap.objs.size:=λx c e=>by
  obtain ⟨v,q⟩:=I.cell x c (cl x c e);exact q.lt
 -- a cell of the block: its own,or one from around
 have cs:∀ x c,(cellsFrom (s.heap.objs.size+1) scope.names (XW X.env scope.names [])).lookup x=some c->((x,c)∈cellsFrom (s.heap.objs.size+1) scope.names []/\s.heap.objs.size+1<=c/\h1.IsCell c none)\/(XW X.env scope.names []).lookup x=some c:=λx c e=>by
  rw [jF,EA] at e;cases q:(cellsFrom (s.heap.objs.size+1) scope.names []).lookup x with
  |none=>rw [q] at e;exact .inr e
  |some d=>
   rw [q] at e;cases e;have mem:=PySem.mem_of_lookup q;exact .inl ⟨mem,(hown.empty x _ mem).2,(hown.empty x _ mem).1⟩
 have fpne:∀ b∈fp,b≠s.heap.objs.size:=λb hb=>let ⟨o,e⟩:=hob b hb;Nat.ne_of_lt (Heap.lt_size e)
 refine ⟨⟨I.ok.mod,sc.kind,I.ok.glob,I.ok.blt,Nat.le_refl _,λx y c e1 e2=>?_,λx hx=>?_,λx c hf e=>?_,λ_=>I.ok.hd hc,I.ok.frames,.inl rfl,λb hb=>⟨fpne b hb,λx c e=>?_⟩,I.bs,Nat.le_trans I.ok.bsz I.sz,λb o e hb=>?_,λb hb z=>?_,I.stack,I.stkFree⟩,
  rfl,I.bare,Un.kept hk,⟨mm,hns,λi x v e1 e2 e3=>?_⟩,λx c e=>?_,I.fresh,λx c e=>?_,λp hp=>absurd (show p∈([]:List (Addr×Obj)) from hp) (by simp),I.hok.kept hk,qg4 σ hcap⟩
 ·rcases cs x c e1 with ⟨m1,l1,_⟩|z1<;>rcases cs y c e2 with ⟨m2,l2,_⟩|z2
  ·exact PySem.name_of_addr hown.apart m1 m2
  ·exact absurd (clt y c z2) (Nat.not_lt.mpr (Nat.le_trans (Nat.le_succ _) l1))
  ·exact absurd (clt x c z1) (Nat.not_lt.mpr (Nat.le_trans (Nat.le_succ _) l2))
  ·exact I.ok.inj x y c (cl x c z1) (cl y c z2)
 ·have hx:(relabel scope X.env).names.lookup x=some .cell\/(relabel scope X.env).names.lookup x=some .free:=hx;have hf:scope.names.lookup x=some .cell\/scope.names.lookup x=some .free:=by
   rcases hx with z|z
   ·rcases ZN z with q|⟨_,q⟩
    ·exact .inl q
    ·exact .inr q
   ·rcases ZN z with q|⟨q,_⟩
    ·exact .inr q
    ·cases q
  show ∃ c,(cellsFrom (s.heap.objs.size+1) scope.names (XW X.env scope.names [])).lookup x=some c;rcases hf with hf|hf
  ·exact QM scope.names _ _ x (.inl (PySem.mem_of_lookup hf))
  ·exact QM scope.names _ _ x (.inr (WE scope.names [] x (.inl (PySem.mem_of_lookup hf))))
 ·have hf:scope.names.lookup x=some .cell:=by simpa [ql] using hf
  rcases cs x c e with ⟨_,l1,_⟩|z1
  ·exact Nat.le_trans (Nat.le_succ _) l1
  ·rcases R0 scope.names [] x c z1 with q|q
   ·rw [(sc.free _ q rfl).1] at hf;cases hf
   ·simp at q
 ·rcases cs x c e with ⟨_,l1,_⟩|z1
  ·obtain ⟨o,eo⟩:=hob b hb;exact Nat.ne_of_gt (Nat.lt_of_lt_of_le (Heap.lt_size eo) (Nat.le_trans (Nat.le_succ _) l1))
  ·exact (hfp b hb).2.2.2.2.1 x c (cl x c z1)
 ·rcases (hfp b hb).2.2.2.1 with z|z
  ·exact I.ok.noex b o e z
  ·exact absurd (Nat.lt_of_lt_of_le (Heap.lt_size e) (Nat.le_trans I.ok.bsz z)) (Nat.lt_irrefl _)
 ·rcases mem_cons.mp (I.stkSub b z) with q|q
  ·exact (hfp b hb).2.1 q
  ·exact (hfp b hb).2.2.1 q
 ·obtain ⟨j,ej,es⟩:=qa7 e2;obtain ⟨hN,hfr⟩:=qbH hcap ej e1;have mem:=PySem.mem_of_lookup hfr;have ho:=(sc.free _ mem rfl).2;obtain ⟨m0,hn0,hl0⟩:=I.loc;obtain ⟨u,ru,lk⟩:=hl0 j x v hN es (ho.elim (λz=>.inr (.inl z)) λz=>.inr (.inr z));refine ⟨u,ru,.inr ⟨?_,?_⟩⟩
  ·rcases e3 with z|z|z
   ·rcases ZN z with q|⟨q,_⟩
    ·rw [hfr] at q;cases q
    ·cases q
   ·exact .inl z
   ·exact .inr z
  ·rcases lk with ⟨z,_⟩|⟨_,c,hc',hcell⟩
   ·have z:X.env.scope.names.lookup x=some .local:=z;rcases ho with q|q<;>(rw [z] at q;cases q)
   ·obtain ⟨c',hc2⟩:=WE (env:=X.env) scope.names [] x (.inl mem);have e:=cl x c' hc2;rw [hc'] at e;cases e;obtain ⟨o,eo,d⟩:=hcell;refine ⟨c,?_,o,hk c o eo,d⟩;show (cellsFrom (s.heap.objs.size+1) scope.names (XW X.env scope.names [])).lookup x=some c;rw [jF,EA];cases q:(cellsFrom (s.heap.objs.size+1) scope.names []).lookup x with
    |none=>exact hc2
    |some d=>
     rcases JQ scope.names _ [] x d (PySem.mem_of_lookup q) with z|z
     ·rw [sc.own _ z rfl] at hfr;cases hfr
     ·simp at z
 ·rcases cs x c e with ⟨_,_,z⟩|z1
  ·exact ⟨none,z⟩
  ·obtain ⟨v,o,eo,d⟩:=I.cell x c (cl x c z1);exact ⟨v,o,hk c o eo,d⟩
 ·rcases cs x c e with ⟨_,l1,_⟩|z1
  ·exact I.hok.fresh (Nat.le_trans (Nat.le_succ _) l1)
  ·exact I.freeC x c (cl x c z1)
def EJ {N':List Str} {scope:Scope} {fp:List Addr} {pins':List (Addr×Obj)} {σ':L2.St} {H':Hp} {s':Shared} {h2:Heap} (I:Inv X pins σ H s) (hfp:∀ b∈fp,S9 X pins H b) (J:Inv (ql X N' scope s H fp) pins' σ' H' s')
  (sb:Heap.SameBut s.heap.objs.size s'.heap h2):Inv X pins σ H' { s' with heap:=h2 }:=by
 have ne:∀ b o,s.heap.get? b=some o->b≠s.heap.objs.size:=λb o e=>Nat.ne_of_lt (Heap.lt_size e);have g:∀ b,b≠s.heap.objs.size->h2.get? b=s'.heap.get? b:=λb hb=>sb.2 b hb;have hn:H' s.heap.objs.size=none:=J.free;have u:Un (frs X.stack) fp H H' s.heap s'.heap:=J.base;refine I.call' (s':={ s' with heap:=h2 }) J.os ⟨λb o e n hb hx=>?_,λb o e n hb hx=>?_,u.free,λb o e hx=>?_,u.tups,u.frzs,u.tbls⟩ (λa o e=>?_) J.bare λb hb=>⟨(hfp b hb).2.2.2.1,(hfp b hb).2.1,(hfp b hb).2.2.2.2.1,(hfp b hb).2.2.2.2.2⟩
 ·show h2.get? b=_;rw [g b (ne b o e)];exact u.keep b o e n hb hx
 ·show ∃ sl,h2.get? b=_;rw [g b (ne b o e)];exact u.slot b o e n hb hx
 ·show ∃ o',h2.get? b=_;rw [g b (ne b o e)];exact u.there b o e hx
 ·refine (J.hok a o e).stay (λb v hb q=>?_) (λ_ q=>q) λ_ _ q=>q;have hb':b≠s.heap.objs.size:=by
   intro z;subst z;rcases hb with z|z
   ·rw [← z] at e;rw [hn] at e;cases e
   ·rw [hn] at z;cases z
  rw [g b hb'];exact q
end
def tLC (wi:TI) (g:TG) (tif:TT) (te:TE) (m:List (Option Nat)):TE:=λσ H Q=>wi σ H λJ H1=>∀ D,H1 D=none ->
 ∃ W:Nat->Nat->L2.St->Hp->Prop,(∃ n,W 0 n (cap m σ) (upd H1 D (.lst [])))/\∀ i n σ H,W i n σ H ->
  (J.stop i H/\Q (.ref D) H)\/(J.go i H/\∀ x H',J.yld i H x H'->g x σ H' λσ2 H2=>tif σ2 H2 λk H3=>
   if k=true then te σ2 H3 λy H4=>∃ zs,H4 D=some (.lst zs)/\zs.length<sizeLine/\∃ n',n'<n/\W (i+1) n' σ2 (upd H4 D (.lst (zs++[y])))
   else ∃ n',n'<n/\W (i+1) n' σ2 H3)
section
variable {X:Cx}
def qnO {elt tg iter:Expr} {ifs:List Expr} {scope:Scope} {pos:Pos} {N':List Str} {m:List (Option Nat)} {wi:TI} {g:TG} {tif:TT} {te:TE} (hc:X.calm=true) (hi:PI X tg iter wi)
  (hg:∀ s H fp,PG (ql X N' scope s H fp) tg g) (hf:∀ s H fp,PF (ql X N' scope s H fp) ifs tif) (he:∀ s H fp,PE (ql X N' scope s H fp) elt te)
  (hsc:qag X.env.scope scope=true) (hcap:UG X.N N' scope m=true) (hs:∀ x,foldedSetIterable iter X.env x=pure x:=by intro _;rfl) :
  PE X (.ListComp elt [⟨tg,iter,ifs,0⟩] scope pos) (tLC wi g tif te m):=by
 intro pins s σ H Q I h;have sc:=EM hsc;have hcl:∀ y∈scope.names,y.2=.free->∃ c,X.env.cells.lookup y.1=some c:=λy hy e=>by
  rcases (sc.free y hy e).2 with z|z
  ·exact I.ok.has y.1 (.inl z)
  ·exact I.ok.has y.1 (.inr z)
 rw [eval_ListComp];refine wpAny_comprehension_free (use:=none) (g:=⟨tg,iter,ifs,0⟩) (gs:=[]) rfl hs (JT hcl) sc.kind sc.loc ?_;show wpAny _ _ (eval iter X.env) _ _ s;refine thn (hi pins s σ H _ I h) λv s1 h1=>thn h1 λitv s2 h2=>?_;obtain ⟨it,fp,tn,J,H2,rfl,I2,T,st2,f2,hW⟩:=h2;refine wpAny_newObj_type ?_;have hD:H2 s2.heap.objs.size=none:=I2.fresh;obtain ⟨W,⟨n0,w0⟩,turn⟩:=hW _ hD;generalize hDe:s2.heap.objs.size=D at *;have I3:Inv X pins σ (upd H2 D (.lst [])) { s2 with heap:=s2.heap.push { cls:=.type "list",dict:=none,data:=.seq ([]:List Value).toArray } }:=by
  subst hDe;exact I2.laid (t':=s2.toks) (λb u e=>Heap.get?_push_of_some _ e) (Nat.le_refl _) ⟨Nat.zero_le _,[],0,.nil,Heap.get?_push_size _ rfl⟩
 have ob2:=T.obj 0 _ st2;have ob3:∀ b∈fp,∃ o,(s2.heap.push { cls:=.type "list",dict:=none,data:=.seq ([]:List Value).toArray }).get? b=some o:=λb hb=>let ⟨o,e,_⟩:=ob2 b hb;⟨o,Heap.get?_push_of_some _ e⟩
 have f3:∀ b∈fp,S9 X pins (upd H2 D (.lst [])) b:=λb hb=>by
  obtain ⟨o,e,_⟩:=ob2 b hb;have:b≠D:=by rw [← hDe];exact Nat.ne_of_lt (Heap.lt_size e)
  exact ⟨by rw [qK this];exact (f2 b hb).1,(f2 b hb).2⟩
 have k23:∀ b o,s2.heap.get? b=some o->(s2.heap.push { cls:=.type "list",dict:=none,data:=.seq ([]:List Value).toArray }).get? b=some o:=λb o e=>Heap.get?_push_of_some _ e;generalize hH3:upd H2 D (.lst [])=H3 at *;generalize hs3:({ s2 with heap:=s2.heap.push { cls:=.type "list",dict:=none,data:=.seq ([]:List Value).toArray } }:Shared)=s3 at *;have ob3:∀ b∈fp,∃ o,s3.heap.get? b=some o:=by rw [← hs3];exact ob3
 have k23:∀ b o,s2.heap.get? b=some o->s3.heap.get? b=some o:=by rw [← hs3];exact k23
 refine QG λh₁ hns hk hown=>?_;have I4:Inv (ql X N' scope s3 H3 fp) [] (cap m σ) H3 { s3 with heap:=h₁ }:=RV hc I3 sc hcap f3 ob3 hns hk hown;have tn4:tn 0 h₁:=T.keep _ _ _ st2 λb hb o e=>hk b o (k23 b o e);have fr4:∀ b∈fp,H3 b=none:=λb hb=>(f3 b hb).1;have stat:∀ {H':Hp},(∀ b∈fp,H' b=none)->∀ b∈fp,S9 (ql X N' scope s3 H3 fp) [] H' b:=λhn b hb=>by
  refine ⟨hn b hb,I4.ok.exf b hb |>.1,I4.ok.exfs b hb,.inl hb,λx c e=>(I4.ok.exf b hb).2 x c e,λp hp=>absurd (show p∈([]:List (Addr×Obj)) from hp) (by simp)⟩
 show codeAny (model X.prog X.w) X.A (.compStart (.ListComp elt [⟨tg,iter,ifs,0⟩] scope pos) 0 (.ref it) (.ref D) (ql X N' scope s3 H3 fp).env) (compPost (model X.prog X.w) X.A X.xe none (EP X pins σ Q) (.ref D) s3.heap.objs.size) { s3 with heap:=h₁ };have loop:codeAny (model X.prog X.w) X.A (.compLoop (.ListComp elt [⟨tg,iter,ifs,0⟩] scope pos) 0 (.ref it) (.ref D) (ql X N' scope s3 H3 fp).env) (compPost (model X.prog X.w) X.A X.xe none (EP X pins σ Q) (.ref D) s3.heap.objs.size) { s3 with heap:=h₁ }:=by
  refine codeAny_loop rfl (λn s'=>∃ i σ' H',Inv (ql X N' scope s3 H3 fp) [] σ' H' s'/\tn i s'.heap/\(∀ b∈fp,H' b=none)/\W i n σ' H') (λn s' hI=>?_) n0 ⟨0,cap m σ,H3,I4,tn4,fr4,w0⟩;show wpAny _ X.A ((compTurn (.ListComp elt [⟨tg,iter,ifs,0⟩] scope pos) 0 (.ref it) (.ref D) (ql X N' scope s3 H3 fp).env).onRaise (λx=>do noteFrame x (ql X N' scope s3 H3 fp).env;theTreesLotGoes x)) _ _ s';refine wpAny_noted ?_;rw [compTurn_list];refine wpAny_bind (wpAny_standAt (wpAny_bind ?_));obtain ⟨i,σ5,H5,I5,st5,fr5,w5⟩:=hI;rcases turn i n σ5 H5 w5 with ⟨stop,q⟩|⟨go,step⟩
  ·refine thn (T.done (ql X N' scope s3 H3 fp) rfl rfl rfl rfl i [] s' σ5 H5 _ I5 (stat fr5) st5 stop) λr s6 ⟨hr,I6⟩=>?_;subst hr;refine wpAny_pure ?_;obtain ⟨mm,hn6,_⟩:=I6.loc;exact ⟨mm,hn6,λh' sb=>⟨.ref D,H5,EJ I3 f3 I6 sb,rfl,q⟩⟩
  ·refine thn (T.item (ql X N' scope s3 H3 fp) rfl rfl rfl rfl i [] s' σ5 H5 _ I5 (stat fr5) st5 go) λr s6 ⟨u,hr,h6⟩=>?_;subst hr;refine wpAny_bind (thn h6 λ_ s7 ⟨x,H7,I7,r7,y7,st7,fr7⟩=>?_);have I7':=I7.pinned (stat fr7) (T.obj _ _ st7);have again:∀ {σ8:L2.St} {H8:Hp} {s8:Shared},Inv (ql X N' scope s3 H3 fp) ([]++DK fp s7.heap) σ8 H8 s8->(∃ n',n'<n/\W (i+1) n' σ8 H8) ->
     ∃ m',m'<n/\∃ i σ' H',Inv (ql X N' scope s3 H3 fp) [] σ' H' s8/\tn i s8.heap/\(∀ b∈fp,H' b=none)/\W i m' σ' H':=λ{σ8 H8 s8} I8 ⟨n',hn,w8⟩=>by
    refine ⟨n',hn,i+1,σ8,H8,I8.unpinned,T.keep _ _ _ st7 λb hb o e=>(I8.pin (b,o) (mem_append_right _ (mem_append_right _ (zH hb e)))).1,λb hb=>?_,w8⟩;obtain ⟨o,e,d⟩:=T.obj _ _ st7 b hb;exact (I8.pin (b,o) (mem_append_right _ (mem_append_right _ (zH hb e)))).2.1
   refine wpAny_bind (wpAny_mono (hg s3 H3 fp _ s7 σ5 H7 x u _ I7' r7 (step x H7 y7)) (λ_ s8 ⟨σ8,H8,I8,q8⟩=>?_) λ_ _ z=>z.elim);refine wpAny_bind (wpAny_mono (hf s3 H3 fp _ s8 σ8 H8 _ I8 q8) (λk s9 ⟨H9,I9,q9⟩=>?_) λ_ _ z=>z.elim);cases k with
   |false=>
    rw [if_neg Bool.false_ne_true] at q9;exact wpAny_pure ⟨rfl,again I9 q9⟩
   |true=>
    rw [if_pos rfl] at q9;refine wpAny_bind (wpAny_bind (wpAny_mono (he s3 H3 fp _ s9 σ8 H9 _ I9 q9) (λw s10 ⟨y,H10,I10,r10,q10⟩=>?_) λ_ _ z=>z.elim));obtain ⟨zs,hz,hl,q10⟩:=q10;refine wpAny_bind (wpAny_mono (UQ (X:=ql X N' scope s3 H3 fp) _ s10 σ8 H10 (.ref D) [y] (.ref D) [w] (λ_ H11=>H11=upd H10 D (.lst (zs++[y]))) I10 rfl (.cons r10 .nil) ⟨D,zs,y,rfl,rfl,hz,hl,rfl⟩) (λ_ s11 ⟨_,H11,I11,_,e11⟩=>?_) λ_ _ z=>z.elim);subst e11;exact wpAny_pure (wpAny_pure ⟨rfl,again I11 q10⟩)
 exact codeAny_compStart_list loop (T.self X.A 0 _ _ _ tn4 loop)
end
section
variable {K:Frg} {G G':Gp} {H H':Hp}
def qhq {D:Addr} {o:HO} {ws:List V} (hD:H D=some (.lst ws)) {a:Addr} {vs:List V} (h:SqT K H a vs):SqT K (upd H D o) a vs:=by
 rcases h with h|h
 ·refine .inl ?_;rcases h with h|⟨ob,h⟩
  ·have:a≠D:=by intro e;subst e;rw [hD] at h;cases h
   exact .inl (by rw [qK this];exact h)
  ·have:a≠D:=by intro e;subst e;rw [hD] at h;cases h
   exact .inr ⟨ob,by rw [qK this];exact h⟩
 ·exact .inr h
mutual
def Rp.wrD {D:Addr} {o:HO} {ws:List V} (hD:H D=some (.lst ws)):∀ {x:T} {v:V},Rp K H x v->Rp K (upd H D o) x v
 |_,_,.non=>.non
 |_,_,.bl b=>.bl b
 |_,_,.int i=>.int i
 |_,_,.str x=>.str x
 |_,_,.ref a=>.ref a
 |_,_,.tup h hs=>.tup (qhq hD h) (Rps.wrD hD hs)
def Rps.wrD {D:Addr} {o:HO} {ws:List V} (hD:H D=some (.lst ws)):∀ {x:List T} {v:List V},Rps K H x v->Rps K (upd H D o) x v
 |_,_,.nil=>.nil
 |_,_,.cons a b=>.cons (Rp.wrD hD a) (Rps.wrD hD b)
end
def HR.wrD {D:Addr} {o:HO} {ws:List V} (hr:HR K G H) (hD:H D=some (.lst ws)) (g:G D=none):HR K G (upd H D o):=λa ob e=>by
 have ha:a≠D:=by intro z;subst z;rw [g] at e;cases e
 have q:=hr a ob e;cases ob with
 |lst xs=>obtain ⟨vs,h1,h2⟩:=q;exact ⟨vs,by rw [qK ha];exact h1,h2.wrD hD⟩
 |frz xs=>obtain ⟨vs,⟨o1,h1⟩,h2⟩:=q;exact ⟨vs,⟨o1,by rw [qK ha];exact h1⟩,h2.wrD hD⟩
def Rel.wrD {D:Addr} {o:HO} {ws:List V} {τ:St3} {σ:L2.St} (r:Rel K τ G σ H) (hD:H D=some (.lst ws)) (g:G D=none):Rel K τ G σ (upd H D o):=
 ⟨r.hp.wrD hD g,r.len,λi t e=>let ⟨v,h1,h2⟩:=r.st i t e;⟨v,h1,h2.wrD hD⟩⟩
def Kp.wrD {D:Addr} {o:HO} (k:Kp G H G' H') (hD:H D=none):Kp G H G' (upd H' D o):=λa ob h g=>by
 obtain ⟨h1,h2⟩:=k a ob h g;exact ⟨by rw [qK (qB h hD)];exact h1,h2⟩
def qcB {α:Type} {m:List (Option Nat)} {σ:List (Option α)} {i j:Nat} (h:m[i]?=some (some j)):(cap m σ)[i]?=some ((σ[j]?).join):=by
 unfold cap;rw [getElem?_map,h];rfl
def Rel.cap {τ:St3} {σ:L2.St} (r:Rel K τ G σ H) (m:List (Option Nat)):Rel K (cap m τ) G (L3.cap m σ) H:=by
 refine ⟨r.hp,by simp [L3.cap],λi t e=>?_⟩;obtain ⟨j,e1,e2⟩:=qa7 e;obtain ⟨v,h1,h2⟩:=r.st j t e2;exact ⟨v,by rw [qcB e1,h1];rfl,h2⟩
end
def qcr (stay:Gp->Prop) (g:TG3) (tif:TT3) (te:TE3) (q:Q3):List T->List T->St3->Gp->Prop
 |[],ys,_,G=>stay G/\∀ p,G p=none->q (.ref p) (gu G p (.lst ys))
 |x::r,ys,τ,G=>stay G/\g x τ G λτ2 G2=>tif τ2 G2 λk G3=>if k=true then te τ2 G3 λy G4=>ys.length<sizeLine/\qcr stay g tif te q r (ys++[y]) τ2 G4 else qcr stay g tif te q r ys τ2 G3
def lc3 (wi:TI3) (g:TG3) (tif:TT3) (te:TE3) (m:List (Option Nat)):TE3:=λτ G q=>wi τ G λitems stay G1=>qcr stay g tif te q items [] (cap m τ) G1
abbrev F3 (X:Cx) (ifs:List Expr) (t:TT3):Prop:=PF X ifs (lT X.K t)
def tt3:TT3:=λ_ G q=>q true G
def qnh {X:Cx}:F3 X [] tt3:=λpins s σ H Q I ⟨τ,G,q,rl,h,af⟩=>qjN pins s σ H Q I (af true G h H rl.hp Kp.refl)
def qnd {X:Cx} {c:Expr} {t:TT3} (h:C3 X c t):F3 X [c] t:=qlG h
section
variable {X:Cx}
def qpI {elt tg iter:Expr} {ifs:List Expr} {scope:Scope} {pos:Pos} (N':List Str) (m:List (Option Nat)) {wi:TI3} {g:TG3} {tif:TT3} {te:TE3} (hc:X.calm=true) (hi:I3 X tg iter wi)
  (hg:∀ s H fp,G3 (ql X N' scope s H fp) tg g) (hf:∀ s H fp,F3 (ql X N' scope s H fp) ifs tif) (he:∀ s H fp,E3 (ql X N' scope s H fp) elt te)
  (hsc:qag X.env.scope scope=true) (hcap:UG X.N N' scope m=true) (hs:∀ x,foldedSetIterable iter X.env x=pure x:=by intro _;rfl) :
  E3 X (.ListComp elt [⟨tg,iter,ifs,0⟩] scope pos) (lc3 wi g tif te m):=
 XR (qnO (g:=lG X.K g) (tif:=lT X.K tif) (te:=lE X.K te) hc hi hg hf he hsc hcap hs) λσ H Q ⟨τ,G,q,rl,h,af⟩=>by
  refine ⟨τ,G,_,rl,h,λitems stay G1 h1 J H1 hr1 k1 ok D hD=>?_⟩;have gD:G1 D=none:=hr1.free hD;refine ⟨λi n σ' H'=>n=items.length-i/\i<=items.length/\∃ τ' G' ys vs,Rel X.K τ' G' σ' H'/\Kp G1 H1 G' H'/\H' D=some (.lst vs)/\Rps X.K H' ys vs/\G' D=none/\qcr stay g tif te q (items.drop i) ys τ' G',
   ⟨_,rfl,Nat.zero_le _,cap m τ,G1,[],[],((rl.next hr1 k1).cap m).next (hr1.laid hD) (Kp.laid hD),Kp.laid hD,zf,.nil,gD,by simpa using h1⟩,?_⟩
  rintro i n σ' H' ⟨rfl,hi,τ',G',ys,vs,rl',k',hDl,rys,gD',h'⟩;by_cases hlt:i<items.length
  ·rw [List.drop_eq_getElem_cons hlt] at h';obtain ⟨hst,h'⟩:=h';obtain ⟨go,yld,_⟩:=ok G' H' rl'.hp k' hst;have hx:items[i]?=some items[i]:=getElem?_eq_getElem hlt;refine .inr ⟨go i _ hx,λv H2 y=>?_⟩;obtain ⟨rv,hr2,k2⟩:=yld i _ v H2 hx y;have nxt:∀ {τ4:St3} {G4:Gp} {σ4:L2.St} {H4:Hp} {ys4:List T} {vs4:List V},Rel X.K τ4 G4 σ4 H4->Kp G1 H1 G4 H4->H4 D=some (.lst vs4)->Rps X.K H4 ys4 vs4->G4 D=none->qcr stay g tif te q (items.drop (i+1)) ys4 τ4 G4 ->
     ∃ n',n'<items.length-i/\(n'=items.length-(i+1)/\i+1<=items.length/\∃ τ' G' ys vs,Rel X.K τ' G' σ4 H4/\Kp G1 H1 G' H4/\H4 D=some (.lst vs)/\Rps X.K H4 ys vs/\G' D=none/\qcr stay g tif te q (items.drop (i+1)) ys τ' G'):=
    λ{τ4 G4 σ4 H4 ys4 vs4} a b c d e f=>⟨_,by omega,rfl,hlt,τ4,G4,ys4,vs4,a,b,c,d,e,f⟩
   refine ⟨_,τ',G',_,rv,rl'.next hr2 k2,h',λτ3 G3 h3 σ3 H3 rl3 k3=>⟨τ3,G3,_,rl3,h3,λk G4 h4 H4 hr4 k4=>?_⟩⟩;have kk:=(k2.trans k3).trans k4;obtain ⟨hD4,gD4⟩:=kk D _ hDl gD';have rys4:=rys.keep rl'.hp kk;cases k with
   |false=>
    rw [if_neg Bool.false_ne_true] at h4;refine qms ?_;exact nxt (rl3.next hr4 k4) (k'.trans kk) hD4 rys4 gD4 h4
   |true=>
    rw [if_pos rfl] at h4;refine qmj ?_;refine ⟨τ3,G4,_,rl3.next hr4 k4,h4,λz G5 h5 w H5 rw5 hr5 k5=>?_⟩;obtain ⟨hD5,gD5⟩:=k5 D _ hD4 gD4;have rys5:=rys4.keep hr4 k5;exact ⟨vs,hD5,by rw [← rys.length];exact h5.1,nxt (((rl3.next hr4 k4).next hr5 k5).wrD hD5 gD5) (((k'.trans kk).trans k5).wrD hD) zf ((rys5.append (.cons rw5 .nil)).wrD hD5) gD5 h5.2⟩
  ·have e:i=items.length:=by omega
   subst e;rw [List.drop_length] at h';obtain ⟨_,_,stop⟩:=ok G' H' rl'.hp k' h'.1;refine .inl ⟨stop,af _ _ (h'.2 D gD') _ H' (.ref D) (λa o e=>?_) λa o e ga=>?_⟩
   ·by_cases ha:a=D
    ·subst ha;rw [qT] at e;cases e;exact ⟨vs,hDl,rys⟩
    ·rw [QE ha] at e;exact rl'.hp a o e
   ·obtain ⟨e1,g1⟩:=k1 a o e ga;obtain ⟨e2,g2⟩:=k' a o e1 g1;exact ⟨e2,by rw [QE (qB e1 hD)];exact g2⟩
end
structure Src (P:Program) (w:World) (it c:Addr) (St:Nat->Heap->Prop) (Has:Array Value->Heap->Prop):Prop where
 obj:∀ {k h},St k h->∃ o,h.get? it=some o/\∀ v,o.data≠.cell v
 keep:∀ {k h h'},St k h->(∀ o,h.get? it=some o->h'.get? it=some o)->St k h'
 hkeep:∀ {xs h h'},Has xs h->(∀ o,h.get? c=some o->h'.get? c=some o)->Has xs h'
 item:∀ {A:Around} {s:Shared} {k:Nat} {xs:Array Value} {x:Value} {Q:Value->Shared->Prop} {E:Value->Shared->Prop},St k s.heap->Has xs s.heap->xs[k]?=some x ->
  (∀ h',St (k+1) h'->Heap.SameBut it s.heap h'->Q x { s with heap:=h' })->wpAny (model P w) A (Builtin.SmallTypes.nextOf (.ref it)) Q E s
 done:∀ {A:Around} {s:Shared} {k:Nat} {xs:Array Value} {Q:Value->Shared->Prop} {E:Value->Shared->Prop},A.handled=none->St k s.heap->Has xs s.heap->xs[k]?=none ->
  (∀ h' e,Heap.ExtBut it s.heap h'->(∃ o,h'.get? e=some o/\o.cls=.type "StopIteration")->E (.ref e) { s with heap:=h' })->wpAny (model P w) A (Builtin.SmallTypes.nextOf (.ref it)) Q E s
def qcz {P:Program} {w:World} (it l:Addr):Src P w it l (λk h=>h.IsListIter it l k) (λxs h=>h.IsList l xs) where
 obj:=λst=>let ⟨o,e,_,d⟩:=st;⟨o,e,λv z=>by rw [d] at z;cases z⟩
 keep:=λst k=>st.at λo e=>k o e
 hkeep:=λst k=>st.at λo e=>k o e
 item:=λst hl hx hQ=>wpAny_nextOf_list_item st hl hx hQ
 done:=λhh st hl hx hE=>wpAny_nextOf_list_end hh st hl hx hE
def NS {P:Program} {w:World} {A:Around} {s:Shared} {it t:Addr} {i:Nat} {its:Array Value} {x:Value} {Q:Value->Shared->Prop} {E:Value->Shared->Prop} (hit:s.heap.IsTupleIter it t i) (ht:s.heap.IsTuple t its) (hx:its[i]?=some x)
  (hQ:∀ h',h'.IsTupleIter it t (i+1)->Heap.SameBut it s.heap h'->Q x { s with heap:=h' }):wpAny (model P w) A (Builtin.SmallTypes.nextOf (.ref it)) Q E s:=by
 obtain ⟨o1,e1,c1,d1⟩:=id hit;obtain ⟨o2,e2,_,n2,d2⟩:=ht;unfold Builtin.SmallTypes.nextOf;refine wpAny_bind (wpAny_callSpecial?_slot (name:=Str.ofString "__next__") hit.typeIs F.slot_tuple_iterator_next (wpAny_call_entry F.slot_tuple_iterator_next hit.typeIs F.entry_tuple_iterator_next ?_ (F.args_tuple_iterator_next_1 _)));refine wpAny_bind (m:=field (.ref it) 0) (wpAny_field e1 d1 (x:=.ref t) rfl ?_);rw [if_neg (show ¬ ((Value.ref t==Value.none)=true) by exact Bool.false_ne_true)];refine wpAny_bind (m:=field (.ref it) 1) (wpAny_field e1 d1 (x:=.int i 0) rfl ?_);refine wpAny_bind (m:=seqItems? (.ref t)) (wpAny_seqItems e2 d2 ?_);simp only [Int.toNat_natCast,hx];refine wpAny_bind (wpAny_setField e1 d1 (by simp) (wpAny_pure ⟨x,rfl,wpAny_pure (hQ _ ⟨_,Heap.get?_update_self _ e1 (Obj.isFreed_of_fields (Obj.data_mapFields d1 _)),(Obj.cls_mapFields ..).trans c1,?_⟩ (Heap.SameBut.update ..))⟩));rw [Obj.data_mapFields d1];simp [rawInt]
def XU {P:Program} {w:World} {A:Around} {s:Shared} {it t:Addr} {i:Nat} {its:Array Value} {Q:Value->Shared->Prop} {E:Value->Shared->Prop} (hh:A.handled=none) (hit:s.heap.IsTupleIter it t i) (ht:s.heap.IsTuple t its) (hx:its[i]?=none)
  (hE:∀ h' e,Heap.ExtBut it s.heap h'->(∃ o,h'.get? e=some o/\o.cls=.type "StopIteration")->E (.ref e) { s with heap:=h' }):wpAny (model P w) A (Builtin.SmallTypes.nextOf (.ref it)) Q E s:=by
 obtain ⟨o1,e1,c1,d1⟩:=id hit;obtain ⟨o2,e2,_,n2,d2⟩:=ht;unfold Builtin.SmallTypes.nextOf;refine wpAny_bind (wpAny_callSpecial?_slot (name:=Str.ofString "__next__") hit.typeIs F.slot_tuple_iterator_next (wpAny_call_entry F.slot_tuple_iterator_next hit.typeIs F.entry_tuple_iterator_next ?_ (F.args_tuple_iterator_next_1 _)));refine wpAny_bind (m:=field (.ref it) 0) (wpAny_field e1 d1 (x:=.ref t) rfl ?_);rw [if_neg (show ¬ ((Value.ref t==Value.none)=true) by exact Bool.false_ne_true)];refine wpAny_bind (m:=field (.ref it) 1) (wpAny_field e1 d1 (x:=.int i 0) rfl ?_);refine wpAny_bind (m:=seqItems? (.ref t)) (wpAny_seqItems e2 d2 ?_);simp only [Int.toNat_natCast,hx];refine wpAny_bind (wpAny_rule (wpAny_bind (wpAny_setField e1 d1 (by simp) ?_)));refine wpAny_bind (m:=newExc (.type "StopIteration") []) ?_;simp only [newExc,newTuple];refine wpAny_bind (wpAny_newObj_type ?_ (by size_fits));refine wpAny_bind (m:=firstArgMember _ _) (wpAny_of_eq (a:=Value.none) (by first|rfl|(simp only [firstArgMember]<;>rfl)) (wpAny_newObj_type ?_ (by size_fits)));simp only [raiseNew];refine wpAny_bind (wpAny_handled ?_)
 first|rw [show A.in1.handled=Option.none from hh]|rw [show A.handled=Option.none from hh]
 exact wpAny_bind (wpAny_pure (wpAny_throw (hE _ _ (((Heap.SameBut.update ..).extBut.push _).push _) ⟨_,Heap.get?_push_size _ rfl,rfl⟩)))
def qgh {P:Program} {w:World} (it t:Addr):Src P w it t (λk h=>h.IsTupleIter it t k) (λxs h=>h.IsTuple t xs) where
 obj:=λst=>let ⟨o,e,_,d⟩:=st;⟨o,e,λv z=>by rw [d] at z;cases z⟩
 keep:=λst k=>st.at λo e=>k o e
 hkeep:=λst k=>st.at λo e=>k o e
 item:=λst hl hx hQ=>NS st hl hx hQ
 done:=λhh st hl hx hE=>XU hh st hl hx hE
structure ZA (z ti to i1 i2 c1 c2:Addr):Prop where
 ne:([z,ti,to,i1,i2]:List Addr).Nodup
 a1:c1∉[z,to,i1,i2]
 a2:c2∉[z,to,i1,i2]
section
variable {P:Program} {w:World} {A:Around} {s:Shared} {z ti to i1 i2 c1 c2:Addr} {S1 S2:Nat->Heap->Prop} {H1 H2:Array Value->Heap->Prop} {k1 k2:Nat} {xs ys:Array Value} {x y a b:Value} {E:Value->Shared->Prop}
def qdl {Q:Value->Shared->Prop} (R1:Src P w i1 c1 S1 H1) (R2:Src P w i2 c2 S2 H2) (D:ZA z ti to i1 i2 c1 c2) (hz:IsZip s.heap z ti to .none) (hi:IsPair s.heap ti (.ref i1) (.ref i2)) (ho:IsPair s.heap to a b)
  (p1:S1 k1 s.heap) (p2:S2 k2 s.heap) (l1:H1 xs s.heap) (l2:H2 ys s.heap) (hx:xs[k1]?=some x) (hy:ys[k2]?=some y)
  (hQ:∀ h',IsZip h' z ti to (rawInt s.heap.objs.size)->IsPair h' to x y->S1 (k1+1) h'->S2 (k2+1) h'->IsPair h' s.heap.objs.size x y->(∀ c o,c∉[z,to,i1,i2]->s.heap.get? c=some o->h'.get? c=some o)->Q (.ref s.heap.objs.size) { s with heap:=h' }) :
  wpAny (model P w) A (Builtin.«zip.__next__» ⟨[.ref z],[]⟩) (λfin s'=>∃ v,fin=.done (.ret v)/\Q v s') E s:=by
 have ne:=D.ne;simp only [List.nodup_cons,mem_cons,not_mem_nil,not_or,or_false] at ne;obtain ⟨⟨n1,n2,n3,n4⟩,⟨n5,n6,n7⟩,⟨n8,n9⟩,n10,_⟩:=ne;have a1:=D.a1;have a2:=D.a2;simp only [mem_cons,not_mem_nil,not_or,or_false] at a1 a2;obtain ⟨q1,q2,q3,q4⟩:=a1;obtain ⟨r1,r2,r3,r4⟩:=a2;refine wpAny_bind (m:=field (.ref z) 2) (wpAny_field hz rfl (x:=.bool false) rfl ?_);refine wpAny_bind (m:=field (.ref z) 3) (wpAny_field hz rfl (x:=.ref ti) rfl ?_);refine wpAny_bind (wpAny_seqItems hi rfl ?_);refine wpAny_bind (m:=Builtin.SmallTypes.ownedTupleIsFree (.ref z)) ?_;unfold Builtin.SmallTypes.ownedTupleIsFree;refine wpAny_bind (wpAny_field hz rfl (x:=Value.none) rfl (wpAny_pure ?_));simp only [if_true];refine wpAny_bind (wpAny_rule (wpAny_bind (wpAny_field hz rfl (x:=.ref to) rfl (wpAny_bind (wpAny_setField_rec hz (by simp) λg1 z1 s1=>?_)))))
 replace z1:IsZip g1 z ti to Value.ellipsis:=z1
 refine wpAny_bind ?_;simp only [List.zipIdx_cons,List.zipIdx_nil,List.forIn_cons,List.forIn_nil];refine wpAny_bind (wpAny_bind (wpAny_onRaise (wpAny_bind (m:=Builtin.SmallTypes.nextOf (.ref i1)) ?_)));refine R1.item (R1.keep p1 λo e=>s1.extBut _ _ (Ne.symm n3) e) (R1.hkeep l1 λo e=>s1.extBut _ _ q1 e) hx λg2 p12 s2=>wpAny_pure ?_;have t2:IsPair g2 to a b:=s2.extBut _ _ n8 (s1.extBut _ _ (Ne.symm n2) ho);refine wpAny_bind (wpAny_seqItems t2 rfl (wpAny_bind (wpAny_updateSeq_pair t2 λg3 t3 s3=>?_)))
 replace t3:IsPair g3 to x b:=t3
 refine wpAny_bind (wpAny_letGo (wpAny_pure (wpAny_bind (wpAny_bind (wpAny_onRaise (wpAny_bind (m:=Builtin.SmallTypes.nextOf (.ref i2)) ?_))))));refine R2.item (R2.keep p2 λo e=>s3.extBut _ _ (Ne.symm n9) (s2.extBut _ _ (Ne.symm n10) (s1.extBut _ _ (Ne.symm n4) e))) (R2.hkeep l2 λo e=>s3.extBut _ _ r2 (s2.extBut _ _ r3 (s1.extBut _ _ r1 e))) hy λg4 p24 s4=>wpAny_pure ?_;have t4:IsPair g4 to x b:=s4.extBut _ _ n9 t3;refine wpAny_bind (wpAny_seqItems t4 rfl (wpAny_bind (wpAny_updateSeq_pair t4 λg5 t5 s5=>?_)))
 replace t5:IsPair g5 to x y:=t5
 refine wpAny_bind (wpAny_letGo (wpAny_pure (wpAny_pure (wpAny_bind (wpAny_seqItems t5 rfl (wpAny_bind (wpAny_newTuple ?_)))))));have sz:g5.objs.size=s.heap.objs.size:=by rw [s5.1,s4.1,s3.1,s2.1,s1.1]
 have z5:IsZip g5 z ti to Value.ellipsis:=s5.extBut _ _ n2 (s4.extBut _ _ n4 (s3.extBut _ _ n2 (s2.extBut _ _ n3 z1)));have kk:∀ c o,c∉[z,to,i1,i2]->s.heap.get? c=some o->g5.get? c=some o:=λc o hc e=>by
  simp only [mem_cons,not_mem_nil,not_or,or_false] at hc;exact s5.extBut _ _ hc.2.1 (s4.extBut _ _ hc.2.2.2 (s3.extBut _ _ hc.2.1 (s2.extBut _ _ hc.2.2.1 (s1.extBut _ _ hc.1 e))))
 have p15:S1 (k1+1) g5:=R1.keep p12 λo e=>s5.extBut _ _ (Ne.symm n8) (s4.extBut _ _ n10 (s3.extBut _ _ (Ne.symm n8) e));have p25:S2 (k2+1) g5:=R2.keep p24 λo e=>s5.extBut _ _ (Ne.symm n9) e;have zlt:z<g5.objs.size:=Heap.lt_size z5;refine wpAny_bind (m:=Builtin.SmallTypes.ownedTupleHandOut (.ref z) (.ref g5.objs.size)) ?_;unfold Builtin.SmallTypes.ownedTupleHandOut;have z6:IsZip (g5.push { cls:=.type "tuple",data:=.seq #[x,y] }) z ti to Value.ellipsis:=Heap.get?_push_of_some _ z5;refine wpAny_bind (wpAny_setField_rec z6 (by simp) λg7 z7 s7=>?_)
 replace z7:IsZip g7 z ti to (rawInt g5.objs.size):=z7
 refine wpAny_setField_rec z7 (by simp) λg8 z8 s8=>?_
 replace z8:IsZip g8 z ti to (rawInt g5.objs.size):=z8
 have up:∀ c o,c≠z->g5.get? c=some o->g8.get? c=some o:=λc o hc e=>s8.extBut _ _ hc (s7.extBut _ _ hc (Heap.get?_push_of_some _ e));have t8:IsPair g8 g5.objs.size x y:=s8.extBut _ _ (Nat.ne_of_gt zlt) (s7.extBut _ _ (Nat.ne_of_gt zlt) (Heap.get?_push_size _ rfl));rw [sz] at z8 t8;refine wpAny_pure ⟨_,rfl,?_⟩;show Q (Value.ref g5.objs.size) _;rw [sz];exact hQ g8 z8 (up _ _ (Ne.symm n2) t5) (R1.keep p15 λo e=>up _ o (Ne.symm n3) e) (R2.keep p25 λo e=>up _ o (Ne.symm n4) e) t8 λc o hc e=>up c o (λq=>hc (by simp [q])) (kk c o hc e)
def qgm {Q:Fin->Shared->Prop} (hh:A.handled=none) (R1:Src P w i1 c1 S1 H1) (R2:Src P w i2 c2 S2 H2) (D:ZA z ti to i1 i2 c1 c2) (hz:IsZip s.heap z ti to .none) (hi:IsPair s.heap ti (.ref i1) (.ref i2)) (ho:IsPair s.heap to a b)
  (p1:S1 k1 s.heap) (p2:S2 k2 s.heap) (l1:H1 xs s.heap) (l2:H2 ys s.heap) (hend:xs[k1]?=none\/ys[k2]?=none)
  (hE:∀ h' e,(∀ c o,c∉[z,to,i1,i2]->s.heap.get? c=some o->h'.get? c=some o)->(∃ o,h'.get? e=some o/\o.cls=.type "StopIteration")->E (.ref e) { s with heap:=h' }) :
  wpAny (model P w) A (Builtin.«zip.__next__» ⟨[.ref z],[]⟩) Q E s:=by
 have ne:=D.ne;simp only [List.nodup_cons,mem_cons,not_mem_nil,not_or,or_false] at ne;obtain ⟨⟨n1,n2,n3,n4⟩,⟨n5,n6,n7⟩,⟨n8,n9⟩,n10,_⟩:=ne;have a1:=D.a1;have a2:=D.a2;simp only [mem_cons,not_mem_nil,not_or,or_false] at a1 a2;obtain ⟨q1,q2,q3,q4⟩:=a1;obtain ⟨r1,r2,r3,r4⟩:=a2;refine wpAny_bind (m:=field (.ref z) 2) (wpAny_field hz rfl (x:=.bool false) rfl ?_);refine wpAny_bind (m:=field (.ref z) 3) (wpAny_field hz rfl (x:=.ref ti) rfl ?_);refine wpAny_bind (wpAny_seqItems hi rfl ?_);refine wpAny_bind (m:=Builtin.SmallTypes.ownedTupleIsFree (.ref z)) ?_;unfold Builtin.SmallTypes.ownedTupleIsFree;refine wpAny_bind (wpAny_field hz rfl (x:=Value.none) rfl (wpAny_pure ?_));simp only [if_true];refine wpAny_bind (wpAny_rule (wpAny_bind (wpAny_field hz rfl (x:=.ref to) rfl (wpAny_bind (wpAny_setField_rec hz (by simp) λg1 z1 s1=>?_)))))
 replace z1:IsZip g1 z ti to Value.ellipsis:=z1
 refine wpAny_bind ?_;simp only [List.zipIdx_cons,List.zipIdx_nil,List.forIn_cons,List.forIn_nil];refine wpAny_bind (wpAny_bind (wpAny_onRaise (wpAny_bind (m:=Builtin.SmallTypes.nextOf (.ref i1)) ?_)));cases hx:xs[k1]? with
 |none=>
  refine R1.done hh (R1.keep p1 λo e=>s1.extBut _ _ (Ne.symm n3) e) (R1.hkeep l1 λo e=>s1.extBut _ _ q1 e) hx λg2 e s2 ⟨oe,he,ce⟩=>?_;have z2:IsZip g2 z ti to Value.ellipsis:=s2 _ _ n3 z1;have ez:e≠z:=λq=>by subst q;rw [z2] at he;cases he;simp at ce
  refine wpAny_setField_rec z2 (by simp) λg3 _ s3=>hE g3 e (λc o hc q=>?_) ⟨oe,s3.extBut _ _ ez he,ce⟩;simp only [mem_cons,not_mem_nil,not_or,or_false] at hc;exact s3.extBut _ _ hc.1 (s2 _ _ hc.2.2.1 (s1.extBut _ _ hc.1 q))
 |some x=>
  have hy:ys[k2]?=none:=by rcases hend with q|q;rw [hx] at q;cases q;exact q
  refine R1.item (R1.keep p1 λo e=>s1.extBut _ _ (Ne.symm n3) e) (R1.hkeep l1 λo e=>s1.extBut _ _ q1 e) hx λg2 p12 s2=>wpAny_pure ?_;have t2:IsPair g2 to a b:=s2.extBut _ _ n8 (s1.extBut _ _ (Ne.symm n2) ho);refine wpAny_bind (wpAny_seqItems t2 rfl (wpAny_bind (wpAny_updateSeq_pair t2 λg3 t3 s3=>?_)));refine wpAny_bind (wpAny_letGo (wpAny_pure (wpAny_bind (wpAny_bind (wpAny_onRaise (wpAny_bind (m:=Builtin.SmallTypes.nextOf (.ref i2)) ?_))))));refine R2.done hh (R2.keep p2 λo e=>s3.extBut _ _ (Ne.symm n9) (s2.extBut _ _ (Ne.symm n10) (s1.extBut _ _ (Ne.symm n4) e))) (R2.hkeep l2 λo e=>s3.extBut _ _ r2 (s2.extBut _ _ r3 (s1.extBut _ _ r1 e))) hy λg4 e s4 ⟨oe,he,ce⟩=>?_;have z4:IsZip g4 z ti to Value.ellipsis:=s4 _ _ n4 (s3.extBut _ _ n2 (s2.extBut _ _ n3 z1));have ez:e≠z:=λq=>by subst q;rw [z4] at he;cases he;simp at ce
  refine wpAny_setField_rec z4 (by simp) λg5 _ s5=>hE g5 e (λc o hc q=>?_) ⟨oe,s5.extBut _ _ ez he,ce⟩;simp only [mem_cons,not_mem_nil,not_or,or_false] at hc;exact s5.extBut _ _ hc.1 (s4 _ _ hc.2.2.2 (s3.extBut _ _ hc.2.1 (s2.extBut _ _ hc.2.2.1 (s1.extBut _ _ hc.1 q))))
end
abbrev qn2 (b:Bool):String:=if b then "list_iterator" else "tuple_iterator"
abbrev zR (b:Bool) (c:Addr):Obj:={ cls:=.type (qn2 b),data:=.fields #[.ref c,.int 0 0] }
def qdz (b:Bool) (it c:Addr) (k:Nat) (h:Heap):Prop:=match b with|true=>h.IsListIter it c k|false=>h.IsTupleIter it c k
def KO (b:Bool) (c:Addr) (xs:Array Value) (h:Heap):Prop:=match b with|true=>h.IsList c xs|false=>h.IsTuple c xs
def zY {P:Program} {w:World} (b:Bool) (it c:Addr):Src P w it c (qdz b it c) (KO b c):=by
 cases b
 ·exact qgh it c
 ·exact qcz it c
def LU {P:Program} {w:World} {A:Around} {s:Shared} {b:Bool} {c:Addr} {xs:Array Value} {Q:Value->Shared->Prop} {E:Value->Shared->Prop} (h:KO b c xs s.heap) (q:Q (.ref s.heap.objs.size) { s with heap:=s.heap.push (zR b c) }) :
  wpAny (model P w) A (pyIter (.ref c)) Q E s:=by
 cases b
 ·exact wpAny_pyIter_tuple (show s.heap.IsTuple c xs from h) q
 ·exact wpAny_pyIter_list (show s.heap.IsList c xs from h) q
def qaP {b:Bool} {c:Addr} {xs:Array Value} {h:Heap} {o:Obj} (q:KO b c xs h):KO b c xs (h.push o):=by
 cases b
 ·exact (show h.IsTuple c xs from q).at λ_ e=>Heap.get?_push_of_some _ e
 ·exact (show h.IsList c xs from q).at λ_ e=>Heap.get?_push_of_some _ e
abbrev zh1 (h:Heap) (o1:Obj):Heap:=h.push o1
abbrev zh2 (h:Heap) (o1 o2:Obj):Heap:=(zh1 h o1).push o2
abbrev zh3 (h:Heap) (o1 o2:Obj):Heap:=(zh2 h o1 o2).push { cls:=.type "tuple",data:=.seq #[.ref h.objs.size,.ref (zh1 h o1).objs.size] }
abbrev zh4 (h:Heap) (o1 o2:Obj):Heap:=(zh3 h o1 o2).push { cls:=.type "tuple",data:=.seq #[.none,.none] }
abbrev zh5 (h:Heap) (o1 o2:Obj):Heap:=(zh4 h o1 o2).push { cls:=.type "zip",data:=.fields #[.none,.bool false,.bool false,.ref (zh2 h o1 o2).objs.size,.ref (zh3 h o1 o2).objs.size] }
def qby (c1 c2:Addr) (o1 o2:Obj) :
  Meets (Builtin.«zip.__new__» ⟨[.type "zip",.ref c1,.ref c2],[]⟩) (λ_ R s=>
   (∀ (P:Program) (w:World) (A:Around) (Q:Value->Shared->Prop) (E:Value->Shared->Prop),Q (.ref s.heap.objs.size) { s with heap:=zh1 s.heap o1 }->wpAny (model P w) A (pyIter (.ref c1)) Q E s) /\
   (∀ (P:Program) (w:World) (A:Around) (Q:Value->Shared->Prop) (E:Value->Shared->Prop),Q (.ref (zh1 s.heap o1).objs.size) { s with heap:=zh2 s.heap o1 o2 }->wpAny (model P w) A (pyIter (.ref c2)) Q E { s with heap:=zh1 s.heap o1 }) /\
   R (.ok (.ret (.ref (zh4 s.heap o1 o2).objs.size))) { s with heap:=zh5 s.heap o1 o2 }):=
 .of_wp λprog w A R s h=>by
  obtain ⟨hp,g,d,tk,os⟩:=s;obtain ⟨h1,h2,h⟩:=h;have hsub:=sub_zip;have k1:=λA Q E=>h1 prog w A Q E;have k2:=λA Q E=>h2 prog w A Q E
  wp_walk using k1 _ _ _,k2 _ _ _
  exact ⟨_,rfl,h⟩
def qc8 (b1 b2:Bool) (z ti to i1 i2 c1 c2:Addr) (k:Nat) (h:Heap):Prop:=
 IsZip h z ti to .none/\IsPair h ti (.ref i1) (.ref i2)/\(∃ a b,IsPair h to a b)/\qdz b1 i1 c1 k h/\qdz b2 i2 c2 k h
section
variable {P:Program} {w:World} {A:Around} {s:Shared} {E:Value->Shared->Prop}
def qcA {b1 b2:Bool} {c1 c2:Addr} {xs ys:Array Value} {Q:Value->Shared->Prop} (h1:KO b1 c1 xs s.heap) (h2:KO b2 c2 ys s.heap)
  (q:∀ h',qc8 b1 b2 (s.heap.objs.size+4) (s.heap.objs.size+2) (s.heap.objs.size+3) s.heap.objs.size (s.heap.objs.size+1) c1 c2 0 h'->(∀ c o,s.heap.get? c=some o->h'.get? c=some o)->Q (.ref (s.heap.objs.size+4)) { s with heap:=h' }) :
  wpAny (model P w) A (call (.type "zip") [.ref c1,.ref c2]) Q E s:=by
 refine callType_new F.called_zip (by decide) (F.typeCall_zip_2 _ _) (F.newCall_zip_2 _ _) (λobj=>F.args_object_init_3 obj _ _) F.entry_zip_new
  (qby c1 c2 (zR b1 c1) (zR b2 c2)) ⟨λP w A Q E q=>LU h1 q,λP w A Q E q=>LU (s:={ s with heap:=zh1 s.heap (zR b1 c1) }) (qaP h2) q,?_⟩
 have e1:(zh1 s.heap (zR b1 c1)).objs.size=s.heap.objs.size+1:=Heap.size_push ..;have e2:(zh2 s.heap (zR b1 c1) (zR b2 c2)).objs.size=s.heap.objs.size+2:=by rw [Heap.size_push,e1]
 have e3:(zh3 s.heap (zR b1 c1) (zR b2 c2)).objs.size=s.heap.objs.size+3:=by rw [Heap.size_push,e2]
 have e4:(zh4 s.heap (zR b1 c1) (zR b2 c2)).objs.size=s.heap.objs.size+4:=by rw [Heap.size_push,e3]
 have g5:(zh5 s.heap (zR b1 c1) (zR b2 c2)).get? (zh4 s.heap (zR b1 c1) (zR b2 c2)).objs.size=some _:=Heap.get?_push_size _ rfl;have g4:(zh5 s.heap (zR b1 c1) (zR b2 c2)).get? (zh3 s.heap (zR b1 c1) (zR b2 c2)).objs.size=some _:=Heap.get?_push_of_some _ (Heap.get?_push_size _ rfl);have g3:(zh5 s.heap (zR b1 c1) (zR b2 c2)).get? (zh2 s.heap (zR b1 c1) (zR b2 c2)).objs.size=some _:=Heap.get?_push_of_some _ (Heap.get?_push_of_some _ (Heap.get?_push_size _ rfl));have g2:(zh5 s.heap (zR b1 c1) (zR b2 c2)).get? (zh1 s.heap (zR b1 c1)).objs.size=some (zR b2 c2):=Heap.get?_push_of_some _ (Heap.get?_push_of_some _ (Heap.get?_push_of_some _ (Heap.get?_push_size _ rfl)));have g1:(zh5 s.heap (zR b1 c1) (zR b2 c2)).get? s.heap.objs.size=some (zR b1 c1):=Heap.get?_push_of_some _ (Heap.get?_push_of_some _ (Heap.get?_push_of_some _ (Heap.get?_push_of_some _ (Heap.get?_push_size _ rfl))));show _/\_;rw [e2,e3,e4] at g5;rw [e1,e2] at g3;rw [e3] at g4;rw [e1] at g2;rw [e4];refine ⟨⟨_,g5,rfl⟩,q _ ⟨g5,g3,⟨_,_,g4⟩,?_,?_⟩ λc o e=>Heap.get?_push_of_some _ (Heap.get?_push_of_some _ (Heap.get?_push_of_some _ (Heap.get?_push_of_some _ (Heap.get?_push_of_some _ e))))⟩
 ·cases b1<;>exact ⟨_,g1,rfl,rfl⟩
 ·cases b2<;>exact ⟨_,g2,rfl,rfl⟩
def qcv {b1 b2:Bool} {z ti to i1 i2 c1 c2:Addr} {k:Nat} {xs ys:Array Value} {x y:Value} {Q:Option Value->Shared->Prop} (D:ZA z ti to i1 i2 c1 c2) (st:qc8 b1 b2 z ti to i1 i2 c1 c2 k s.heap) (l1:KO b1 c1 xs s.heap) (l2:KO b2 c2 ys s.heap) (hx:xs[k]?=some x) (hy:ys[k]?=some y)
  (hQ:∀ h',IsZip h' z ti to (rawInt s.heap.objs.size)->IsPair h' ti (.ref i1) (.ref i2)->(∃ a b,IsPair h' to a b)->qdz b1 i1 c1 (k+1) h'->qdz b2 i2 c2 (k+1) h'->IsPair h' s.heap.objs.size x y->(∀ c o,c∉[z,to,i1,i2]->s.heap.get? c=some o->h'.get? c=some o)->Q (some (.ref s.heap.objs.size)) { s with heap:=h' }) :
  wpAny (model P w) A (pyNext (.ref z)) Q E s:=by
 obtain ⟨hz,hi,⟨a,b,ho⟩,p1,p2⟩:=st;have ty:s.TypeIs (.ref z) "zip" := ⟨_,hz,rfl⟩
 have nti:ti∉[z,to,i1,i2]:=by
  have ne:=D.ne;simp only [List.nodup_cons,mem_cons,not_mem_nil,not_or,or_false] at ne ⊢;exact ⟨Ne.symm ne.1.1,ne.2.1.1,ne.2.1.2.1,ne.2.1.2.2⟩
 unfold pyNext;exact wpAny_bind (wpAny_attempt (wpAny_callSpecial?_slot (name:=Str.ofString "__next__") ty F.slot_zip_next (wpAny_call_entry F.slot_zip_next ty F.entry_zip_next
  (qdl (zY b1 i1 c1) (zY b2 i2 c2) D hz hi ho p1 p2 l1 l2 hx hy λh' u1 u2 u3 u4 u5 u6=>wpAny_pure (hQ h' u1 (u6 _ _ nti hi) ⟨_,_,u2⟩ u3 u4 u5 u6)) (F.args_zip_next_1 _))))
def SV {b1 b2:Bool} {z ti to i1 i2 c1 c2:Addr} {k:Nat} {xs ys:Array Value} {Q:Option Value->Shared->Prop} (hh:A.handled=none) (D:ZA z ti to i1 i2 c1 c2) (st:qc8 b1 b2 z ti to i1 i2 c1 c2 k s.heap) (l1:KO b1 c1 xs s.heap) (l2:KO b2 c2 ys s.heap) (hend:xs[k]?=none\/ys[k]?=none)
  (hQ:∀ h',(∀ c o,c∉[z,to,i1,i2]->s.heap.get? c=some o->h'.get? c=some o)->Q none { s with heap:=h' }):wpAny (model P w) A (pyNext (.ref z)) Q E s:=by
 obtain ⟨hz,hi,⟨a,b,ho⟩,p1,p2⟩:=st;have ty:s.TypeIs (.ref z) "zip" := ⟨_,hz,rfl⟩
 unfold pyNext;refine wpAny_bind (wpAny_attempt (wpAny_callSpecial?_slot (name:=Str.ofString "__next__") ty F.slot_zip_next (wpAny_call_entry F.slot_zip_next ty F.entry_zip_next
  (qgm hh (zY b1 i1 c1) (zY b2 i2 c2) D hz hi ho p1 p2 l1 l2 hend λh' e hk ⟨o,q1,q2⟩=>?_) (F.args_zip_next_1 _))))
 exact wpAny_bind (wpAny_isInstance (T:="StopIteration") (b:=true) ⟨o,q1,q2⟩ isSubtype_stop (wpAny_pure (hQ _ hk)))
end
def SqB (K:Frg) (b:Bool) (H:Hp) (a:Addr) (xs:List V):Prop:=match b with|true=>SqL K H a xs|false=>SqT K H a xs
def SqB.get {X:Cx} {pins:List (Addr×Obj)} {σ:L2.St} {H:Hp} {s:Shared} {b:Bool} {a:Addr} {xs:List V} (I:Inv X pins σ H s) (h:SqB X.K b H a xs):∃ its:List Value,jk xs its/\KO b a its.toArray s.heap/\xs.length<=sizeLine:=by
 cases b
 ·obtain ⟨its,r,p,hz⟩:=I.tuple (show SqT X.K H a xs from h);exact ⟨its,r,(show s.heap.IsTuple a its.toArray from p),hz⟩
 ·obtain ⟨its,r,p,hz⟩:=I.list (show SqL X.K H a xs from h);exact ⟨its,r,p.isList,hz⟩
def SqB.inj {X:Cx} {pins:List (Addr×Obj)} {σ:L2.St} {H:Hp} {s:Shared} {b:Bool} {a:Addr} {xs ys:List V} (I:Inv X pins σ H s) (h:SqB X.K b H a xs) (h':SqB X.K b H a ys):xs=ys:=by
 cases b
 ·exact I.tuple_inj h h'
 ·exact I.list_inj h h'
def Itz (K:Frg) (b1 b2:Bool) (c1 c2:Addr):It:=
  ⟨λi H=>∃ xs ys x y,SqB K b1 H c1 xs/\SqB K b2 H c2 ys/\xs[i]?=some x/\ys[i]?=some y,
   λi H v H'=>∃ p x y,H p=none/\v=.ref p/\H'=upd H p (.tup [x,y])/\(∀ xs,SqB K b1 H c1 xs->xs[i]?=some x)/\(∀ ys,SqB K b2 H c2 ys->ys[i]?=some y),
   λi H=>∃ xs ys,SqB K b1 H c1 xs/\SqB K b2 H c2 ys/\(xs.length<=i\/ys.length<=i)⟩
def qfZ {b:Bool} {c:Addr} {xs:Array Value} {h:Heap} (q:KO b c xs h):c<h.objs.size:=by
 cases b
 ·obtain ⟨o,e,_⟩:=(show h.IsTuple c xs from q);exact Heap.lt_size e
 ·obtain ⟨o,e,_⟩:=(show h.IsList c xs from q);exact Heap.lt_size e
def qcX {P:Program} {w:World} {K:Frg} {es:List Expr} {k1:Nat} {pt:Pos} {b1 b2:Bool} {z ti to i1 i2 c1 c2:Addr} (D:ZA z ti to i1 i2 c1 c2):Turn P w K (.Tuple es k1 pt) (Itz K b1 b2 c1 c2) [z,ti,to,i1,i2] z (qc8 b1 b2 z ti to i1 i2 c1 c2) where
 mem:=by simp
 obj:=λi h ⟨hz,hi,⟨a,b,ho⟩,p1,p2⟩ c hc=>by
  simp only [mem_cons,not_mem_nil,or_false] at hc;rcases hc with rfl|rfl|rfl|rfl|rfl
  ·exact ⟨_,hz,λv q=>by cases q⟩
  ·exact ⟨_,hi,λv q=>by cases q⟩
  ·exact ⟨_,ho,λv q=>by cases q⟩
  ·exact (zY (P:=P) (w:=w) b1 c c1).obj p1
  ·exact (zY (P:=P) (w:=w) b2 c c2).obj p2
 keep:=λi h h' ⟨hz,hi,⟨a,b,ho⟩,p1,p2⟩ k=>
  ⟨k z (by simp) _ hz,k ti (by simp) _ hi,⟨a,b,k to (by simp) _ ho⟩,(zY (P:=P) (w:=w) b1 i1 c1).keep p1 λo e=>k i1 (by simp) o e,(zY (P:=P) (w:=w) b2 i2 c2).keep p2 λo e=>k i2 (by simp) o e⟩
 item:=by
  intro X hP hw hK hc i pins s σ H E I hf st hg;subst hP hw hK;obtain ⟨xs,ys,x,y,sq1,sq2,hx,hy⟩:=hg;obtain ⟨its1,rv1,l1,z1⟩:=sq1.get I;obtain ⟨its2,rv2,l2,z2⟩:=sq2.get I;obtain ⟨u1,hu1,ru1⟩:=rv1.get hx;obtain ⟨u2,hu2,ru2⟩:=rv2.get hy;refine qcv D st l1 l2 (x:=u1) (y:=u2) (by simpa using hu1) (by simpa using hu2) λh' hz hi ho p1 p2 hp hk=>?_;have hfr:H s.heap.objs.size=none:=I.fresh;have free:∀ b∈[z,ti,to,i1,i2],H b=none:=λb hb=>(hf b hb).1;refine ⟨_,rfl,wpAny_letOwnedTupleGo_zip hz λh2 hz2 s2=>?_⟩;have zlt:z<s.heap.objs.size:=Heap.lt_size st.1;have hp2:IsPair h2 s.heap.objs.size u1 u2:=(s2.2 _ (Nat.ne_of_gt zlt)).trans hp;have ne:=D.ne;simp only [List.nodup_cons,mem_cons,not_mem_nil,not_or,or_false] at ne;have up:∀ c o,c≠z->h'.get? c=some o->h2.get? c=some o:=λc o hc e=>(s2.2 c hc).trans e;have kk:∀ c o,c∉[z,to,i1,i2]->s.heap.get? c=some o->h2.get? c=some o:=λc o hc e=>up c o (λq=>hc (by simp [q])) (hk c o hc e);have I3:Inv X pins σ (upd H s.heap.objs.size (.tup [x,y])) { s with heap:=h2 }:=by
   refine I.step (g':=s.gens) (d':=s.drawn) (t':=s.toks) (ch:=[z,to,i1,i2]) (λb hb=>?_) (λb o _ _ hcb e _=>kk b o hcb e) (λb o _ _ hcb e _=>⟨o.slots,kk b o hcb e⟩) (λb o _ e n=>by rw [qK (Nat.ne_of_lt (Heap.lt_size e))];exact n) (λb o hcb e=>⟨o,kk b o hcb e⟩)
    (λb _ e=>by rw [qK (qB e hfr)];exact e) (λb _ _ e=>by rw [qK (qB e hfr)];exact e) (λb ps e=>⟨#[],by rw [qK (qB e hfr),e];simp⟩) (λm hm=>?_) (λb u e=>?_) I.bare
   ·obtain ⟨f0,f1,f2,f3,f4,f5⟩:=hf b (by simp only [mem_cons,not_mem_nil,or_false] at hb ⊢;rcases hb with q|q|q|q<;>simp [q]);exact ⟨f3,f1,f4,f5⟩
   ·obtain ⟨o,es',ep,ho',r⟩:=hm;refine ⟨o,es',ep,kk _ o (λq=>?_) ho',r⟩;obtain ⟨f0,f1,_⟩:=hf X.env.locals (by simp only [mem_cons,not_mem_nil,or_false] at q ⊢;rcases q with q|q|q|q<;>simp [q]);exact f1 rfl
   ·by_cases hb:b=s.heap.objs.size
    ·subst hb;rw [zf] at e;cases e;exact ⟨by show 2<=sizeLine;decide,[u1,u2],.cons ru1 (.cons ru2 .nil),⟨_,hp2,rfl,_,rfl⟩⟩
    ·rw [qK hb] at e;refine (I.hok b u e).stay (λc v hcb q=>kk c v (λm=>?_) q) (λ_ q=>by rw [qK (qB q hfr)];exact q) λ_ _ q=>by rw [qK (qB q hfr)];exact q
     have hn:=free c (by simp only [mem_cons,not_mem_nil,or_false] at m ⊢;rcases m with q|q|q|q<;>simp [q]);rcases hcb with q|q
     ·rw [q] at hn;rw [hn] at e;cases e
     ·rw [hn] at q;cases q
  refine ⟨.ref s.heap.objs.size,_,I3,rfl,⟨_,x,y,hfr,rfl,rfl,λzs q=>by rw [q.inj I sq1];exact hx,λzs q=>by rw [q.inj I sq2];exact hy⟩,⟨hz2,up _ _ (Ne.symm ne.1.1) hi,let ⟨a,b,q⟩:=ho;⟨a,b,up _ _ (Ne.symm ne.1.2.1) q⟩,(zY (P:=X.prog) (w:=X.w) b1 i1 c1).keep p1 λo e=>up _ o (Ne.symm ne.1.2.2.1) e,(zY (P:=X.prog) (w:=X.w) b2 i2 c2).keep p2 λo e=>up _ o (Ne.symm ne.1.2.2.2) e⟩,λb hb=>?_⟩;rw [qK (λq=>?_)]
  ·exact free b hb
  ·subst q;obtain ⟨hz0,hi0,⟨a0,b0,ho0⟩,q1,q2⟩:=st;simp only [mem_cons,not_mem_nil,or_false] at hb;rcases hb with q|q|q|q|q
   ·exact absurd q (Nat.ne_of_gt zlt)
   ·exact absurd q (Nat.ne_of_gt (Heap.lt_size hi0))
   ·exact absurd q (Nat.ne_of_gt (Heap.lt_size ho0))
   ·obtain ⟨o,e,_⟩:=(zY (P:=X.prog) (w:=X.w) b1 i1 c1).obj q1;exact absurd q (Nat.ne_of_gt (Heap.lt_size e))
   ·obtain ⟨o,e,_⟩:=(zY (P:=X.prog) (w:=X.w) b2 i2 c2).obj q2;exact absurd q (Nat.ne_of_gt (Heap.lt_size e))
 done:=by
  intro X hP hw hK hc i pins s σ H E I hf st hg;subst hP hw hK;obtain ⟨xs,ys,sq1,sq2,hend⟩:=hg;obtain ⟨its1,rv1,l1,z1⟩:=sq1.get I;obtain ⟨its2,rv2,l2,z2⟩:=sq2.get I;have e1:=rv1.length;have e2:=rv2.length;refine SV (I.ok.hd hc) D st l1 l2 (by rcases hend with q|q;exact .inl (by simp;omega);exact .inr (by simp;omega)) λh' hk=>⟨rfl,?_⟩
  have free:∀ b∈[z,ti,to,i1,i2],H b=none:=λb hb=>(hf b hb).1;refine I.step (g':=s.gens) (d':=s.drawn) (t':=s.toks) (ch:=[z,to,i1,i2]) (λb hb=>?_) (λb o _ _ hcb e _=>hk b o hcb e) (λb o _ _ hcb e _=>⟨o.slots,hk b o hcb e⟩) (λ_ _ _ _ n=>n) (λb o hcb e=>⟨o,hk b o hcb e⟩) (λ_ _ e=>e) (λ_ _ _ e=>e) (λb ps e=>⟨#[],by rw [e];simp⟩) (λm hm=>?_) (λb u e=>?_) I.bare
  ·obtain ⟨f0,f1,f2,f3,f4,f5⟩:=hf b (by simp only [mem_cons,not_mem_nil,or_false] at hb ⊢;rcases hb with q|q|q|q<;>simp [q]);exact ⟨f3,f1,f4,f5⟩
  ·obtain ⟨o,es',ep,ho',r⟩:=hm;refine ⟨o,es',ep,hk _ o (λq=>?_) ho',r⟩;obtain ⟨f0,f1,_⟩:=hf X.env.locals (by simp only [mem_cons,not_mem_nil,or_false] at q ⊢;rcases q with q|q|q|q<;>simp [q]);exact f1 rfl
  ·refine (I.hok b u e).stay (λc v hcb q=>hk c v (λm=>?_) q) (λ_ q=>q) λ_ _ q=>q;have hn:=free c (by simp only [mem_cons,not_mem_nil,or_false] at m ⊢;rcases m with q|q|q|q<;>simp [q]);rcases hcb with q|q
   ·rw [q] at hn;rw [hn] at e;cases e
   ·rw [hn] at q;cases q
 self:=λA i s Q E st h=>wpAny_pyIter_zip st.1 h
def qkX {n c1 c2:Addr} (h1:c1<n) (h2:c2<n):ZA (n+4) (n+2) (n+3) n (n+1) c1 c2:=by
 have k:∀ n c:Nat,c<n->c≠n+4/\c≠n+3/\c≠n/\c≠n+1:=λn c h=>by omega
 have d:∀ n:Nat,(([n+4,n+2,n+3,n,n+1]:List Nat)).Nodup:=λn=>by
  simp only [List.nodup_cons,mem_cons,not_mem_nil,not_or,or_false,List.nodup_nil,and_true,not_false_eq_true];omega
 refine ⟨d n,?_,?_⟩
 ·simp only [mem_cons,not_mem_nil,not_or,or_false];exact k n c1 h1
 ·simp only [mem_cons,not_mem_nil,not_or,or_false];exact k n c2 h2
section
variable {X:Cx} {a b e l:Expr} {es:List Expr} {pos:Pos}
def qjJ {p pt:Pos} {k1:Nat} {ta:TA} (hg:Gl X "zip") (hm:X.mg "zip" = none) (ha:PA X [a,b] ta) (hs:starEach [a,b] X.env=[(false,eval a X.env),(false,eval b X.env)]:=by rfl) (hs2:starEach [b] X.env=[(false,eval b X.env)]:=by rfl) :
  PI X (.Tuple es k1 pt) (.Call (.Name "zip" p) [a,b] [] pos) (λσ H R=>ta σ H λvs H1=>∃ b1 b2 c1 c2 xs ys,vs=[.ref c1,.ref c2]/\SqB X.K b1 H1 c1 xs/\SqB X.K b2 H1 c2 ys/\R (Itz X.K b1 b2 c1 c2) H1):=by
 intro pins s σ H R I h;refine Call_ (CI I hg hm PyProof.Rows.boot_zip (PyProof.Rows.callWith_type1 (thn (ha pos pins s σ H _ I h) λus s1 ⟨vs,H1,I1,r1,q1⟩=>?_) (by rw [hs,hs2]) (by rw [hs2];rfl)));obtain ⟨b1,b2,c1,c2,xs,ys,rfl,sq1,sq2,q⟩:=q1;obtain ⟨u1,u2,rfl,e1,e2⟩:=qiJ r1;cases (show u1=Value.ref c1 from e1);cases (show u2=Value.ref c2 from e2);obtain ⟨its1,rv1,l1,z1⟩:=sq1.get I1;obtain ⟨its2,rv2,l2,z2⟩:=sq2.get I1;refine qcA l1 l2 λh' st hk=>wpAny_pyIter_zip st.1 ?_;refine ⟨s1.heap.objs.size+4,[s1.heap.objs.size+4,s1.heap.objs.size+2,s1.heap.objs.size+3,s1.heap.objs.size,s1.heap.objs.size+1],_,_,H1,rfl,I1.kept (t':=s1.toks) hk,qcX (qkX (qfZ l1) (qfZ l2)),st,λc hc=>?_,q⟩;have hle:s1.heap.objs.size<=c:=by
  simp only [mem_cons,not_mem_nil,or_false] at hc;rcases hc with rfl|rfl|rfl|rfl|rfl<;>first|exact Nat.le_refl _|exact Nat.le_add_right _ _
 exact I1.fpOk hle (I1.hok.fresh hle)
end
def ZR (G:Gp):T->Option (List T)
 |.tup xs=>some xs
 |.ref p=>getL G p
 |_=>none
def qav {K:Frg} {G0:Gp} {H0:Hp} {x:T} {v:V} {us:List T} (hr0:HR K G0 H0) (rx:Rp K H0 x v) (h:ZR G0 x=some us) :
  ∃ b c,v=.ref c/\∀ G H,HR K G H->Kp G0 H0 G H->ZR G x=some us->∃ vs,SqB K b H c vs/\Rps K H us vs:=by
 cases rx with
 |tup hs rs=>
  cases h;exact ⟨false,_,rfl,λG H hr k _=>⟨_,(R9 hr0 k hs:SqT K H _ _),rs.keep hr0 k⟩⟩
 |ref a=>exact ⟨true,a,rfl,λG H hr k hq=>let ⟨vs,h1,h2⟩:=jg hr (show getL G a=some us from hq);⟨vs,h1,h2⟩⟩
 |_=>cases h
def qdj (us vs:List T):List T:=(us.zip vs).map λp=>.tup [p.1,p.2]
def MG {us vs:List T} {i:Nat} {x:T} (h:(qdj us vs)[i]?=some x):∃ a b,us[i]?=some a/\vs[i]?=some b/\x=.tup [a,b]:=by
 unfold qdj at h;rw [getElem?_map] at h;cases e:(us.zip vs)[i]? with
 |none=>rw [e] at h;cases h
 |some p=>
  rw [e] at h;have:=List.getElem?_zip_eq_some.mp e;exact ⟨p.1,p.2,this.1,this.2,by simpa using h.symm⟩
def qjd {K:Frg} {b1 b2:Bool} {c1 c2:Addr} {x y:T} {us vs:List T} {G0:Gp} {H0:Hp}
  (f1:∀ G H,HR K G H->Kp G0 H0 G H->ZR G x=some us->∃ vs,SqB K b1 H c1 vs/\Rps K H us vs) (f2:∀ G H,HR K G H->Kp G0 H0 G H->ZR G y=some vs->∃ ws,SqB K b2 H c2 ws/\Rps K H vs ws) :
  qhJ K (Itz K b1 b2 c1 c2) (qdj us vs) (λG=>ZR G x=some us/\ZR G y=some vs) G0 H0:=by
 intro G H hr k ⟨h1,h2⟩;obtain ⟨p,sp,rp⟩:=f1 G H hr k h1;obtain ⟨q,sq,rq⟩:=f2 G H hr k h2;refine ⟨λi z hz=>?_,λi z v H' hz hy=>?_,⟨p,q,sp,sq,?_⟩⟩
 ·obtain ⟨a,b,ha,hb,_⟩:=MG hz;obtain ⟨v,hv,_⟩:=rp.get ha;obtain ⟨w,hw,_⟩:=rq.get hb;exact ⟨p,q,v,w,sp,sq,hv,hw⟩
 ·obtain ⟨a,b,ha,hb,rfl⟩:=MG hz;obtain ⟨t,v1,v2,ht,rfl,rfl,g1,g2⟩:=hy;obtain ⟨v,hv,rv⟩:=rp.get ha;obtain ⟨w,hw,rw'⟩:=rq.get hb;have e1:=(g1 p sp).symm.trans hv;have e2:=(g2 q sq).symm.trans hw;obtain rfl:v1=v:=Option.some.inj e1;obtain rfl:v2=w:=Option.some.inj e2;have kk:Kp G H G (upd H t (.tup [v1,v2])):=Kp.laid ht;exact ⟨.tup (SqT.of zf) (.cons (rv.keep hr kk) (.cons (rw'.keep hr kk) .nil)),hr.laid ht,kk⟩
 ·rw [← rp.length,← rq.length,show (qdj us vs).length=min us.length vs.length by simp [qdj]];omega
def qcH (ta:TA3):TI3:=λτ G r=>ta τ G λxs G1=>match xs with
 |[x,y]=>(match ZR G1 x,ZR G1 y with|some us,some vs=>r (qdj us vs) (λG=>ZR G x=some us/\ZR G y=some vs) G1|_,_=>False)
 |_=>False
section
variable {X:Cx} {a b e l:Expr} {es:List Expr} {pos:Pos} {t:TA3}
def qm1 {p pt:Pos} {k1:Nat} (hg:Gl X "zip") (hm:X.mg "zip" = none) (ha:A3 X [a,b] t) (hs:starEach [a,b] X.env=[(false,eval a X.env),(false,eval b X.env)]:=by rfl) (hs2:starEach [b] X.env=[(false,eval b X.env)]:=by rfl) :
  I3 X (.Tuple es k1 pt) (.Call (.Name "zip" p) [a,b] [] pos) (qcH t):=
 qiA (qjJ hg hm ha hs hs2) λσ H R ⟨τ,G,r,rl,h,af⟩=>YN rl h λxs G1 h1 vs H1 rs hr1 k1 rl1=>by
  split at h1
  ·rename_i x y;split at h1
   ·rename_i us ws e1 e2;obtain ⟨v,u,rfl,r1,r2⟩:=qmr rs;obtain ⟨b1,c1,rfl,f1⟩:=qav hr1 r1 e1;obtain ⟨b2,c2,rfl,f2⟩:=qav hr1 r2 e2;obtain ⟨p,sp,_⟩:=f1 G1 H1 hr1 Kp.refl e1;obtain ⟨q,sq,_⟩:=f2 G1 H1 hr1 Kp.refl e2;exact ⟨b1,b2,c1,c2,p,q,rfl,sp,sq,af _ _ G1 h1 _ H1 hr1 k1 (qjd f1 f2)⟩
   ·exact h1.elim
  ·exact h1.elim
def qoS:List T->Gp->Q3->Prop:=λxs G q=>match xs with
 |[.ref p]=>(match getL G p with|some ys=>(match qo3 ys with|some k=>q (.bl k) G|none=>False)|none=>False)
 |_=>False
end
def qom:Value->Bool
 |.type t=>t == "list"
 |_=>false
def EC:List (Addr×Obj)->Bool
 |[]=>true
 |p::r=>if qom p.2.cls then false else EC r
def CH:∀ {K:List (Addr×Obj)} {a:Addr} {o:Obj},EC K=true->K.lookup a=some o->o.cls≠.type "list"
 |[],_,_,_,e=>by simp at e
 | (b,x)::r,a,o,h,e=>by
  unfold EC at h;split at h
  ·cases h
  ·rename_i hx;rw [List.lookup_cons] at e;split at e
   ·cases e;intro z;rw [z] at hx;exact hx rfl
   ·exact CH h e
def NL {K:Frg} {H:Hp} {a:Addr} {ns:List Int} (hK:EC K=true) (hO:qmm H) (hS:SqL K H a (ns.map V.int)):∃ o,H a=some (.frz o (.lst (ns.map V.int))):=by
 rcases hS with (h|h)|⟨o,its,n,h1,h2,_⟩
 ·rcases hO a with z|⟨o,xs,z⟩<;>(rw [h] at z;cases z)
 ·exact h
 ·exact absurd h2 (CH hK h1)
def only (a:Addr) (ns:List Int):Gp:=λb=>if b=a then some (.frz (ns.map T.int)) else none
def qhd {K:Frg} {H:Hp} {a:Addr} {ns:List Int} (h:∃ o,H a=some (.frz o (.lst (ns.map V.int)))):HR K (only a ns) H:=λb o e=>by
 unfold only at e;split at e
 ·rename_i hb;subst hb;cases e;exact ⟨_,h,Rps.ints ns⟩
 ·cases e
def CL:Sp3:=λts G q=>∃ (a:Addr) (ns:List Int),ts=[.ref a]/\G a=some (.frz (ns.map T.int))/\ns.length<=63/\∀ G',q (.bl true) G'
def qok {l:PySem.W.OpenLaw} {k:Nat} {q:Program} {loose:List Str} {XP:(Str->Option Value)->Heap->Prop} {YP:World->Heap->Prop} {d:DefRec} {K:Params->PySem.W.Frag} {x:Str} (hn:l.most=some 63) (hdf:d.params.defaults=[]) (hr:Room k callerA)
  (hY:∀ (w:World) (h:Heap),YP w h->(K w.params).In h) (hK:∀ w:World,EC (K w.params)=true)
  (F:∀ (w:World) (mg:Str->Option Value) (fa:Addr) (h:Heap),(K w.params).In h->h.Ns mainGlobals mg->mg d.name=some (.ref fa) ->
   ∃ fd:FuncData,(∀ (s:Shared) (u:Value),BindsTo s fd ⟨[u],[]⟩ [(x,u)])/\∀ base:Heap,(K w.params).In base->base.Ns mainGlobals mg->FnOk l.prog w (K w.params) mg base CX0 k fa fd [x] (lSp (K w.params) CL)) :
  PySem.W.WalkO q loose XP YP l.row.toRowW d [] (λf vs=>PySem.call f vs):=
 L2.qgo (n:=63) (k:=k) (x:=x) (CX:=λ_=>CX0) (sp:=λw=>lSp (K w.params) CL) hn (by decide) hdf hr hY F
  (λw H a ns hl hO hS=>⟨[.ref a],only a ns,λt _=>t=.bl true,qhd (NL (hK w) hO hS),.cons (.ref a) .nil,⟨a,ns,rfl,by simp [only],hl,λ_=>rfl⟩,λt G' e v H' r _ _=>by subst e;cases r;rfl⟩) λ_ _ _ _ _ z=>z
def qgs {P:Program} {w:World} {K:Frg} {mg:Str->Option Value} {base:Heap} {x qual:Str} {st:Stmt} {f:Addr} {fd:FuncData} {N ps:List Str} {k:Nat} {sp:Sp3} {t3:TS3} (F:Fun K x qual st f fd) (S:FnScope N ps (qj st))
  (body:∀ (cdv:Value) (A:Around) (outer:List Env) (s:Shared) (H:Hp) (E:XK),Room k (A.deeper (envOfC qual (qj st) s.heap.objs.size f cdv)) ->
   B3 (qcu CX0 P w K mg base N qual (qj st) f cdv A outer s H E).nox (jI st) t3)
  (read:∀ ts G q,sp ts G q->ts.length=ps.length/\t3 { nx:=λ_ G'=>q .non G',rt:=q } (qu N ts) G):FnOk P w K mg base CX0 (k+1) f fd ps (lSp K sp):=by
 refine F.ok S (λvs H Q E ⟨ts,G,q,h1,h2,h3,h4⟩=>by rw [← h2.length];exact (read ts G q h3).1) λcdv A outer s H vs Q E hr ⟨ts,G,q,h1,h2,h3,h4⟩=>?_;refine ⟨_,body cdv A outer s H E hr,qu N ts,G,_,T7 h1 h2,(read ts G q h3).2,⟨λτ' G' h' σ' H' rl' k'=>h4 _ G' h' _ H' .non rl'.hp k',h4,λ_ _ z=>z.elim,λ_ _ z=>z.elim⟩⟩
abbrev eh1 (h:Heap) (o1:Obj):Heap:=h.push o1
abbrev eh2 (h:Heap) (o1:Obj):Heap:=(eh1 h o1).push { cls:=.type "enumerate",data:=.fields #[.none,.bool false,.ref h.objs.size,rawInt 0,.none,.none] }
def N2 (c:Addr) (o1:Obj) (ob:Obj) :
  Meets (Builtin.«enumerate.__new__» ⟨[.type "enumerate",.ref c],[]⟩) (λ_ R s=>s.heap.get? c=some ob /\
   (∀ (P:Program) (w:World) (A:Around) (Q:Value->Shared->Prop) (E:Value->Shared->Prop),Q (.ref s.heap.objs.size) { s with heap:=eh1 s.heap o1 }->wpAny (model P w) A (pyIter (.ref c)) Q E s) /\
   R (.ok (.ret (.ref (eh1 s.heap o1).objs.size))) { s with heap:=eh2 s.heap o1 }):=
 .of_wp λprog w A R s h=>by
  obtain ⟨hp,g,d,tk,os⟩:=s;obtain ⟨hl,h1,h⟩:=h;have hsub:=sub_enumerate;have k1:=λA Q E=>h1 prog w A Q E
  wp_walk using wpAny_loadPart' hl
  refine wpAny_stack_any λst=>wpAny_pure ?_;split
  ·rename_i c _ _ _ _ _;cases (c==Value.type "enumerate")
   ·wp_walk using wpAny_loadPart' hl,k1 _ _ _
    exact ⟨_,rfl,h⟩
   ·wp_walk using wpAny_loadPart' hl,k1 _ _ _
    exact ⟨_,rfl,h⟩
  ·wp_walk using wpAny_loadPart' hl,k1 _ _ _
   exact ⟨_,rfl,h⟩
def qcZ {b:Bool} {c:Addr} {xs:Array Value} {h:Heap} (q:KO b c xs h):∃ o,h.get? c=some o:=by
 cases b
 ·obtain ⟨o,e,_⟩:=(show h.IsTuple c xs from q);exact ⟨o,e⟩
 ·obtain ⟨o,e,_⟩:=(show h.IsList c xs from q);exact ⟨o,e⟩
section
variable {P:Program} {w:World} {A:Around} {s:Shared} {E:Value->Shared->Prop}
def qaJ {b:Bool} {c:Addr} {xs:Array Value} {Q:Value->Shared->Prop} (h1:KO b c xs s.heap)
  (q:∀ h',IsEnum h' (s.heap.objs.size+1) s.heap.objs.size 0 .none->qdz b s.heap.objs.size c 0 h'->(∀ c o,s.heap.get? c=some o->h'.get? c=some o)->Q (.ref (s.heap.objs.size+1)) { s with heap:=h' }) :
  wpAny (model P w) A (call (.type "enumerate") [.ref c]) Q E s:=by
 obtain ⟨ob,hob⟩:=qcZ h1;refine callType_new F.called_enumerate (by decide) (F.typeCall_enumerate_1 _) (F.newCall_enumerate_1 _) (λobj=>F.args_object_init_2 obj _) F.entry_enumerate_new
  (N2 c (zR b c) ob) ⟨hob,λP w A Q E q=>LU h1 q,?_⟩
 have e1:(eh1 s.heap (zR b c)).objs.size=s.heap.objs.size+1:=Heap.size_push ..;have g2:(eh2 s.heap (zR b c)).get? (eh1 s.heap (zR b c)).objs.size=some _:=Heap.get?_push_size _ rfl;have g1:(eh2 s.heap (zR b c)).get? s.heap.objs.size=some (zR b c):=Heap.get?_push_of_some _ (Heap.get?_push_size _ rfl);show _/\_;rw [e1] at g2 ⊢;refine ⟨⟨_,g2,rfl⟩,q _ g2 ?_ λc o e=>Heap.get?_push_of_some _ (Heap.get?_push_of_some _ e)⟩;cases b<;>exact ⟨_,g1,rfl,rfl⟩
end
def qdv {P:Program} {w:World} {A:Around} (hh:A.handled=none) (b:Bool) (it c:Addr) (hne:c≠it) (xs:Array Value) :
  Draws P w A it [it,c] xs.size (λi v=>xs[i]?=some v) (λi h=>qdz b it c i h/\KO b c xs h) where
 live:=λi h st=>let ⟨o,e,_⟩:=(zY (P:=P) (w:=w) b it c).obj st.1;⟨o,e⟩
 frame:=λi h h' st hk=>⟨(zY (P:=P) (w:=w) b it c).keep st.1 λo e=>hk it (by simp) o e,(zY (P:=P) (w:=w) b it c).hkeep st.2 λo e=>hk c (by simp) o e⟩
 item:=λi s Q E hi st hQ=>by
  refine (zY (P:=P) (w:=w) b it c).item st.1 st.2 (x:=xs[i]) (by simp [hi]) λh' st' sb=>?_;exact hQ _ h' s.toks (by simp [hi]) ⟨st',(zY (P:=P) (w:=w) b it c).hkeep st.2 λo e=>(sb.2 c hne).trans e⟩ sb
 done:=λs Q E st hE=>(zY (P:=P) (w:=w) b it c).done hh st.1 st.2 (by simp) hE
def SA {P:Program} {w:World} {A:Around} {s:Shared} {E:Value->Shared->Prop} {b:Bool} {e it c:Addr} {i:Nat} {xs:Array Value} {old:Value} {Q:Option Value->Shared->Prop} (hh:A.handled=none) (he:IsEnum s.heap e it i old) (p1:qdz b it c i s.heap) (l1:KO b c xs s.heap) (hx:xs[i]?=none)
  (hQ:∀ h',Heap.ExtBut it s.heap h'->Q none { s with heap:=h' }):wpAny (model P w) A (pyNext (.ref e)) Q E s:=by
 have hT:s.TypeIs (.ref e) "enumerate" := ⟨_,he,rfl⟩
 unfold pyNext;refine wpAny_bind (wpAny_attempt (wpAny_callSpecial?_slot (name:=Str.ofString "__next__") hT F.slot_enumerate_next
  (wpAny_call_entry F.slot_enumerate_next hT F.entry_enumerate_next ?_ (F.args_enumerate_next_1 _))))
 show wpAny _ _ (field (.ref e) 2 >>= _) _ _ _;refine wpAny_bind (wpAny_field he rfl (x:=.ref it) rfl ?_);refine wpAny_bind ((zY (P:=P) (w:=w) b it c).done (show A.in1.handled=none from hh) p1 l1 hx λh' x he' hx'=>?_);obtain ⟨o,ho,hc⟩:=hx';refine wpAny_bind (wpAny_isInstance (T:="StopIteration") (b:=true) ⟨o,ho,hc⟩ isSubtype_stop ?_);exact wpAny_pure (hQ _ he')
def Ite (K:Frg) (b:Bool) (c:Addr):It:=
  ⟨λi H=>∃ xs x,SqB K b H c xs/\xs[i]?=some x,
   λi H v H'=>∃ p x,H p=none/\v=.ref p/\H'=upd H p (.tup [.int i,x])/\(∀ xs,SqB K b H c xs->xs[i]?=some x),
   λi H=>∃ xs,SqB K b H c xs/\xs.length<=i⟩
def qlw (b:Bool) (e it c:Addr) (k:Nat) (h:Heap):Prop:=(∃ old,IsEnum h e it k old)/\qdz b it c k h
def qa8 {P:Program} {w:World} {K:Frg} {es:List Expr} {k1:Nat} {pt:Pos} {b:Bool} {e it c:Addr} (n1:e≠it) (n2:c≠e) (n3:c≠it):Turn P w K (.Tuple es k1 pt) (Ite K b c) [e,it] e (qlw b e it c) where
 mem:=by simp
 obj:=λi h ⟨⟨old,he⟩,p1⟩ d hd=>by
  simp only [mem_cons,not_mem_nil,or_false] at hd;rcases hd with rfl|rfl
  ·exact ⟨_,he,λv q=>by cases q⟩
  ·exact (zY (P:=P) (w:=w) b d c).obj p1
 keep:=λi h h' ⟨⟨old,he⟩,p1⟩ k=>⟨⟨old,k e (by simp) _ he⟩,(zY (P:=P) (w:=w) b it c).keep p1 λo e=>k it (by simp) o e⟩
 item:=by
  intro X hP hw hK hc i pins s σ H E I hf st hg;subst hP hw hK;obtain ⟨xs,x,sq,hx⟩:=hg;obtain ⟨its,rv,l1,z1⟩:=sq.get I;obtain ⟨u,hu,ru⟩:=rv.get hx;obtain ⟨⟨old,he⟩,p1⟩:=st;have hil:i<its.toArray.size:=by have:=(List.getElem?_eq_some_iff.mp hu).1;simpa using this
  refine wpAny_pyNext_enum_itemD (qdv (show X.A.in1.handled=none from I.ok.hd hc) b it c n3 its.toArray) he ⟨p1,l1⟩ hil n1 (by simp only [mem_cons,not_mem_nil,or_false,not_or];exact ⟨n1,Ne.symm n2⟩) λy h' tk hy ho st' ht hsz hk=>?_;have hy':y=u:=by
   have:its.toArray[i]?=some u:=by simpa using hu
   rw [this] at hy;exact (Option.some.inj hy).symm
  subst hy';have hfr:H s.heap.objs.size=none:=I.fresh;have free:∀ b∈[e,it],H b=none:=λb hb=>(hf b hb).1;refine ⟨_,rfl,wpAny_letOwnedTupleGo_enum ho λh2 hz2 s2=>?_⟩;have elt:e<s.heap.objs.size:=Heap.lt_size he;have hp2:h2.get? s.heap.objs.size=some { cls:=.type "tuple",data:=.seq #[.int i tk,y] }:=(s2.2 _ (Nat.ne_of_gt elt)).trans ht;have up:∀ c o,c≠e->h'.get? c=some o->h2.get? c=some o:=λc o hc e=>(s2.2 c hc).trans e;have kk:∀ c o,c∉[e,it]->s.heap.get? c=some o->h2.get? c=some o:=λc o hc q=>by
   simp only [mem_cons,not_mem_nil,or_false,not_or] at hc;exact up c o hc.1 (hk c o hc.1 hc.2 q)
  have I3:Inv X pins σ (upd H s.heap.objs.size (.tup [.int i,x])) { s with heap:=h2,toks:=tk+1 }:=by
   refine I.step (g':=s.gens) (d':=s.drawn) (t':=tk+1) (ch:=[e,it]) (λb hb=>?_) (λb o _ _ hcb e _=>kk b o hcb e) (λb o _ _ hcb e _=>⟨o.slots,kk b o hcb e⟩) (λb o _ e n=>by rw [qK (Nat.ne_of_lt (Heap.lt_size e))];exact n) (λb o hcb e=>⟨o,kk b o hcb e⟩)
    (λb _ e=>by rw [qK (qB e hfr)];exact e) (λb _ _ e=>by rw [qK (qB e hfr)];exact e) (λb ps e=>⟨#[],by rw [qK (qB e hfr),e];simp⟩) (λm hm=>?_) (λb u e=>?_) I.bare
   ·obtain ⟨f0,f1,f2,f3,f4,f5⟩:=hf b hb;exact ⟨f3,f1,f4,f5⟩
   ·obtain ⟨o,es',ep,ho',r⟩:=hm;refine ⟨o,es',ep,kk _ o (λq=>?_) ho',r⟩;obtain ⟨f0,f1,_⟩:=hf X.env.locals q;exact f1 rfl
   ·by_cases hb:b=s.heap.objs.size
    ·subst hb;rw [zf] at e;cases e;exact ⟨by show 2<=sizeLine;decide,[.int i tk,y],.cons ⟨tk,rfl⟩ (.cons ru .nil),⟨_,hp2,rfl,_,rfl⟩⟩
    ·rw [qK hb] at e;refine (I.hok b u e).stay (λc v hcb q=>kk c v (λm=>?_) q) (λ_ q=>by rw [qK (qB q hfr)];exact q) λ_ _ q=>by rw [qK (qB q hfr)];exact q
     have hn:=free c m;rcases hcb with q|q
     ·rw [q] at hn;rw [hn] at e;cases e
     ·rw [hn] at q;cases q
  refine ⟨.ref s.heap.objs.size,_,I3,rfl,⟨_,x,hfr,rfl,rfl,λzs q=>by rw [q.inj I sq];exact hx⟩,⟨⟨_,by push_cast;exact hz2⟩,(zY (P:=X.prog) (w:=X.w) b it c).keep st'.1 λo e=>up _ o (Ne.symm n1) e⟩,λb hb=>?_⟩;rw [qK (λq=>?_)]
  ·exact free b hb
  ·subst q;simp only [mem_cons,not_mem_nil,or_false] at hb;rcases hb with q|q
   ·exact absurd q (Nat.ne_of_gt elt)
   ·obtain ⟨o,e,_⟩:=(zY (P:=X.prog) (w:=X.w) b it c).obj p1;exact absurd q (Nat.ne_of_gt (Heap.lt_size e))
 done:=by
  intro X hP hw hK hc i pins s σ H E I hf st hg;subst hP hw hK;obtain ⟨xs,sq,hend⟩:=hg;obtain ⟨its,rv,l1,z1⟩:=sq.get I;obtain ⟨⟨old,he⟩,p1⟩:=st;have e1:=rv.length;have free:∀ b∈[e,it],H b=none:=λb hb=>(hf b hb).1;refine SA (I.ok.hd hc) he p1 l1 (by simp;omega) λh' hk0=>⟨rfl,?_⟩
  have hk:∀ c o,c∉[e,it]->s.heap.get? c=some o->h'.get? c=some o:=λc o hcb q=>hk0 c o (by simp only [mem_cons,not_mem_nil,or_false,not_or] at hcb;exact hcb.2) q;refine I.step (g':=s.gens) (d':=s.drawn) (t':=s.toks) (ch:=[e,it]) (λb hb=>?_) (λb o _ _ hcb e _=>hk b o hcb e) (λb o _ _ hcb e _=>⟨o.slots,hk b o hcb e⟩) (λ_ _ _ _ n=>n) (λb o hcb e=>⟨o,hk b o hcb e⟩) (λ_ _ e=>e) (λ_ _ _ e=>e) (λb ps e=>⟨#[],by rw [e];simp⟩) (λm hm=>?_) (λb u e=>?_) I.bare
  ·obtain ⟨f0,f1,f2,f3,f4,f5⟩:=hf b hb;exact ⟨f3,f1,f4,f5⟩
  ·obtain ⟨o,es',ep,ho',r⟩:=hm;refine ⟨o,es',ep,hk _ o (λq=>?_) ho',r⟩;obtain ⟨f0,f1,_⟩:=hf X.env.locals q;exact f1 rfl
  ·refine (I.hok b u e).stay (λc v hcb q=>hk c v (λm=>?_) q) (λ_ q=>q) λ_ _ q=>q;have hn:=free c m;rcases hcb with q|q
   ·rw [q] at hn;rw [hn] at e;cases e
   ·rw [hn] at q;cases q
 self:=λA i s Q E st h=>let ⟨⟨old,he⟩,_⟩:=st;wpAny_pyIter_enum he h
section
variable {X:Cx} {a b e l:Expr} {es:List Expr} {pos:Pos}
def qge {p pt:Pos} {k1:Nat} {ta:TA} (hg:Gl X "enumerate") (hm:X.mg "enumerate" = none) (ha:PA X [a] ta) (hs:starEach [a] X.env=[(false,eval a X.env)]:=by rfl) :
  PI X (.Tuple es k1 pt) (.Call (.Name "enumerate" p) [a] [] pos) (λσ H R=>ta σ H λvs H1=>∃ b1 c1 xs,vs=[.ref c1]/\SqB X.K b1 H1 c1 xs/\R (Ite X.K b1 c1) H1):=by
 intro pins s σ H R I h;refine Call_ (CI I hg hm PyProof.Rows.boot_enumerate (PyProof.Rows.callWith_type1 (thn (ha pos pins s σ H _ I h) λus s1 ⟨vs,H1,I1,r1,q1⟩=>?_) (by rw [hs];rfl) (by rfl)));obtain ⟨b1,c1,xs,rfl,sq1,q⟩:=q1;obtain ⟨u1,rfl,e1⟩:=EY r1;cases (show u1=Value.ref c1 from e1);obtain ⟨its1,rv1,l1,z1⟩:=sq1.get I1;refine qaJ l1 λh' he hit hk=>wpAny_pyIter_enum he ?_;have lt:=qfZ l1;have ne3:∀ n c:Nat,c<n->n+1≠n/\c≠n+1/\c≠n:=λn c h=>by omega
 obtain ⟨m1,m2,m3⟩:=ne3 _ _ lt;refine ⟨s1.heap.objs.size+1,[s1.heap.objs.size+1,s1.heap.objs.size],_,_,H1,rfl,I1.kept (t':=s1.toks) hk,qa8 m1 m2 m3,⟨⟨_,he⟩,hit⟩,λc hc=>?_,q⟩;have hle:s1.heap.objs.size<=c:=by
  simp only [mem_cons,not_mem_nil,or_false] at hc;rcases hc with rfl|rfl<;>first|exact Nat.le_refl _|exact Nat.le_add_right _ _
 exact I1.fpOk hle (I1.hok.fresh hle)
end
def QL (k:Nat):List T->List T
 |[]=>[]
 |x::r=>.tup [.int (k:Int),x]::QL (k+1) r
def qdr (us:List T):List T:=QL 0 us
def DJ:∀ {us:List T} {k i:Nat} {x:T},(QL k us)[i]?=some x->∃ a,us[i]?=some a/\x=.tup [.int ((k+i:Nat):Int),a]
 |[],_,_,_,h=>by simp [QL] at h
 |u::us,k,0,x,h=>by simp [QL] at h;exact ⟨u,rfl,by simp [← h]⟩
 |u::us,k,i+1,x,h=>by
  simp [QL] at h;obtain ⟨a,ha,hx⟩:=DJ h;exact ⟨a,by simpa using ha,by rw [hx];congr 4;omega⟩
def DS:∀ (us:List T) (k:Nat),(QL k us).length=us.length
 |[],_=>rfl
 |u::us,k=>by simp [QL,DS us]
def qbs (us:List T):(qdr us).length=us.length:=DS us 0
def TC {us:List T} {i:Nat} {x:T} (h:(qdr us)[i]?=some x):∃ a,us[i]?=some a/\x=.tup [.int (i:Int),a]:=by
 obtain ⟨a,ha,hx⟩:=DJ h;exact ⟨a,ha,by rw [hx];congr 4;omega⟩
def ql6 {K:Frg} {b1:Bool} {c1:Addr} {x:T} {us:List T} {G0:Gp} {H0:Hp}
  (f1:∀ G H,HR K G H->Kp G0 H0 G H->ZR G x=some us->∃ vs,SqB K b1 H c1 vs/\Rps K H us vs) :
  qhJ K (Ite K b1 c1) (qdr us) (λG=>ZR G x=some us) G0 H0:=by
 intro G H hr k h1;obtain ⟨p,sp,rp⟩:=f1 G H hr k h1;refine ⟨λi z hz=>?_,λi z v H' hz hy=>?_,⟨p,sp,?_⟩⟩
 ·obtain ⟨a,ha,_⟩:=TC hz;obtain ⟨v,hv,_⟩:=rp.get ha;exact ⟨p,v,sp,hv⟩
 ·obtain ⟨a,ha,rfl⟩:=TC hz;obtain ⟨t,v1,ht,rfl,rfl,g1⟩:=hy;obtain ⟨v,hv,rv⟩:=rp.get ha;have e1:=(g1 p sp).symm.trans hv;obtain rfl:v1=v:=Option.some.inj e1;have kk:Kp G H G (upd H t (.tup [.int i,v1])):=Kp.laid ht;exact ⟨.tup (SqT.of zf) (.cons (.int _) (.cons (rv.keep hr kk) .nil)),hr.laid ht,kk⟩
 ·rw [← rp.length,qbs];exact Nat.le_refl _
def MU (ta:TA3):TI3:=λτ G r=>ta τ G λxs G1=>match xs with
 |[x]=>(match ZR G1 x with|some us=>r (qdr us) (λG=>ZR G x=some us) G1|_=>False)
 |_=>False
section
variable {X:Cx} {a b e l:Expr} {es:List Expr} {pos:Pos} {t:TA3}
def qlP {p pt:Pos} {k1:Nat} (hg:Gl X "enumerate") (hm:X.mg "enumerate" = none) (ha:A3 X [a] t) (hs:starEach [a] X.env=[(false,eval a X.env)]:=by rfl) :
  I3 X (.Tuple es k1 pt) (.Call (.Name "enumerate" p) [a] [] pos) (MU t):=
 qiA (qge hg hm ha hs) λσ H R ⟨τ,G,r,rl,h,af⟩=>YN rl h λxs G1 h1 vs H1 rs hr1 k1 rl1=>by
  split at h1
  ·rename_i x;split at h1
   ·rename_i us e1;obtain ⟨v,rfl,r1⟩:=TJ rs;obtain ⟨b1,c1,rfl,f1⟩:=qav hr1 r1 e1;obtain ⟨p,sp,_⟩:=f1 G1 H1 hr1 Kp.refl e1;exact ⟨b1,c1,p,rfl,sp,af _ _ G1 h1 _ H1 hr1 k1 (ql6 f1)⟩
   ·exact h1.elim
  ·exact h1.elim
end
section
variable {X:Cx} {a b c e:Expr} {es:List Expr} {ta tb tc te:TE3} {t:TA3} {pos:Pos}
def qdx (i:Nat) (r:R3) (te:TE3):TS3:=λd τ G=>match τ[i]? with
 |some (some x)=>te τ G λy G1=>r x y G1 λz G2=>d.nx (τ.set i (some z)) G2
 |_=>False
def qcD (i:Nat) {x:Str} {pos':Pos} (hN:X.N.Nodup) (he:E3 X e te) (hi:X.N[i]?=some x:=by rfl) (hx:Loc X.env.scope x:=by first|exact Or.inl rfl|exact Or.inr rfl) (hf:X.fn x=true\/X.env.scope.names.lookup x=some .local:=by first|exact .inl rfl|exact .inr rfl) :
  S3 X (.AugAssign (.Name x pos') .Add e pos) (qdx i (iI (·+·)) te):=
 qco (qka (i:=i) hN hi hx he qjw hf) λD σ H ⟨τ,G,d,rl,h,af⟩=>by
  unfold qdx at h;split at h
  ·rename_i x e1;obtain ⟨v,e2,rv⟩:=rl.st i x e1;refine ⟨v,e2,jo rl h λy G1 h1 u H1 ry hr1 k1 rl1=>?_⟩;have rv1:=rv.keep rl.hp k1;cases x<;>try exact h1.elim
   cases y<;>try exact h1.elim
   cases rv1;cases ry;exact ⟨_,_,rfl,rfl,af.nx _ G1 h1 _ H1 (rl1.set i (.int _)) k1⟩
  ·exact h.elim
def qdb (ns:List Int):Prop:=ns.length<=1000000/\∀ x∈ns,-1000000000000<=x/\x<=1000000000000
def LK (ns:List Int):∀ j,j<=ns.length->preSum (λi=>ns.getD i 0) j=(ns.take j).sum
 |0,_=>by simp [preSum]
 |j+1,h=>by
  have hj:j<ns.length:=h;unfold preSum;rw [LK ns j (by omega),List.take_succ_eq_append_getElem hj,List.sum_append,getD_eq_getElem?_getD,getElem?_eq_getElem hj];simp
def qeP:∀ (ns:List Int),(∀ x∈ns,-1000000000000<=x/\x<=1000000000000)->-1000000000000*(ns.length:Int)<=ns.sum/\ns.sum<=1000000000000*(ns.length:Int)
 |[],_=>by simp
 |n::r,h=>by
  have h1:=h n List.mem_cons_self;have h2:=qeP r λx hx=>h x (List.mem_cons_of_mem _ hx);rw [List.sum_cons,length_cons];omega
def RH (hc:X.calm=true):J9 X (.builtin "sum") (λxs H Q=>∃ (p:Addr) (ns:List Int),xs=[.ref p]/\SqL X.K H p (ns.map V.int)/\qdb ns/\Q (.int ns.sum) H):=by
 intro pins s σ H xs us Q I r h;obtain ⟨p,ns,rfl,hq,ok,q⟩:=h;obtain ⟨u,rfl,rp⟩:=EY r;cases (show u=Value.ref p from rp);obtain ⟨its,rv,pl,hz⟩:=I.list hq;have hlen:its.length=ns.length:=by have:=rv.length;simp at this;omega
 have hp:p<s.heap.objs.size:=by obtain ⟨o,n,e,_⟩:=pl;exact Heap.lt_size e
 have bd:∀ j,j<=ns.length->InLong (preSum (λi=>ns.getD i 0) j):=λj hj=>by
  rw [LK ns j hj];have:=qeP (ns.take j) λx hx=>ok.2 x (List.mem_of_mem_take hx);have hl:(ns.take j).length<=1000000:=Nat.le_trans (by rw [List.length_take];omega) ok.1;unfold InLong;omega
 refine call_sum_walk (wpAny_pyIter_list pl.isList ⟨s.heap.objs.size,_,_,_,_,_,λi=>ns.getD i 0,rfl,Walks.list (A:=X.A.in1) (show X.A.in1.handled=none from I.ok.hd hc) s.heap.objs.size p (Nat.ne_of_lt hp) its.toArray,⟨⟨_,Heap.get?_push_size _ rfl,rfl,rfl⟩,?_⟩,λb hb=>?_,λi v hv=>?_,λj hj=>?_,λh' tk t' hk=>?_⟩)
 ·obtain ⟨o,n,e,c,_,d⟩:=pl;exact ⟨o,Heap.get?_push_of_some _ e,c,n,d⟩
 ·have lt1:∀ n c:Nat,c<n->c<n+1:=λn c h=>by omega
  rw [show (({ s with heap:=s.heap.push _ }:Shared).heap.objs.size)=s.heap.objs.size+1 from Heap.size_push ..];simp only [mem_cons,not_mem_nil,or_false] at hb;rcases hb with rfl|rfl
  ·exact Nat.lt_succ_self _
  ·exact lt1 _ _ hp
 ·have hv':its[i]?=some v:=by simpa using hv
  obtain ⟨hi,_⟩:=List.getElem?_eq_some_iff.mp hv';have hi':i<ns.length:=by omega
  obtain ⟨u,hu,ru⟩:=rv.get (i:=i) (show (ns.map V.int)[i]?=some (V.int (ns[i])) by simp [hi']);rw [hv'] at hu;cases hu;obtain ⟨t,rfl⟩:=ru;exact ⟨t,by show Value.int ns[i] t=Value.int (ns.getD i 0) t;rw [getD_eq_getElem?_getD,getElem?_eq_getElem hi'];rfl⟩
 ·have hj':j<ns.length:=by rw [size_toArray] at hj;omega
  refine ⟨?_,bd _ hj'⟩;have:=ok.2 (ns.getD j 0) (by rw [getD_eq_getElem?_getD,getElem?_eq_getElem hj'];exact List.getElem_mem hj');show InLong (ns.getD j 0);unfold InLong;omega
 ·refine ⟨.int _,H,?_,⟨_,rfl⟩,by rw [size_toArray,hlen,LK ns _ (Nat.le_refl _),List.take_length];exact q⟩;exact I.kept (h':=h') (t':=tk) λb o e=>hk b o (by simp;exact Nat.ne_of_lt (Heap.lt_size e)) (Heap.get?_push_of_some _ e)
def DG:List T->Option (List Int)
 |[]=>some []
 |.int i::r=>(match DG r with|some ns=>some (i::ns)|none=>none)
 |_=>none
def YF (ns:List Int):DG (ns.map T.int)=some ns:=by
 induction ns with
 |nil=>rfl
 |cons n r ih=>simp [DG,ih]
def ZD:∀ {xs:List T} {ns:List Int},DG xs=some ns->xs=ns.map T.int
 |[],_,h=>by simp [DG] at h;subst h;rfl
 |x::r,ns,h=>by
  unfold DG at h;split at h
  ·rename_i e;cases e
  ·rename_i i r' e;cases e;split at h
   ·rename_i ms e2;cases h;rw [ZD e2];rfl
   ·cases h
  ·cases h
def qiL:List T->Gp->Q3->Prop:=λxs G q=>match xs with
 |[.ref p]=>(match getL G p with|some ys=>(match DG ys with|some ns=>qdb ns/\q (.int ns.sum) G|none=>False)|none=>False)
 |_=>False
def ZC {K:Frg} {H:Hp}:∀ {ns:List Int} {vs:List V},Rps K H (ns.map T.int) vs->vs=ns.map V.int
 |[],_,r=>by cases r;rfl
 |n::ns,_,r=>by
  cases r with
  |cons a b=>cases a;rw [ZC b];rfl
def qgO {K:Frg}:ML K qiL (λxs H Q=>∃ (p:Addr) (ns:List Int),xs=[.ref p]/\SqL K H p (ns.map V.int)/\qdb ns/\Q (.int ns.sum) H):=λxs vs G H q Q hr rs h af=>by
 unfold qiL at h;split at h
 ·rename_i p;obtain ⟨v,rfl,r⟩:=TJ rs;cases r;split at h
  ·rename_i ys e0;split at h
   ·rename_i ns e1;obtain ⟨us,hs,r2⟩:=jg hr e0;have:=ZD e1;subst this;have:=ZC r2;subst this;exact ⟨p,ns,rfl,hs,h.1,af _ G h.2 _ H (.int _) hr Kp.refl⟩
   ·exact h.elim
  ·exact h.elim
 ·exact h.elim
def qo7:List T->Gp->Q3->Prop:=λxs G q=>match xs with
 |[.ref p]=>(match getL G p with|some ys=>(match qoQ ys with|some k=>q (.bl k) G|none=>False)|none=>False)
 |_=>False
end
section
variable {X:Cx}
def qgL {elt tg iter:Expr} {ifs:List Expr} {scope:Scope} {pos cpos:Pos} {N':List Str} {m:List (Option Nat)} {wi:TI} {g:TG} {tif:TT} {te:TE} {use:Option (Value->Sem Unit)} {Qc:Value->Shared->Prop} {QD:Addr->Hp->Prop} (hc:X.calm=true) (hi:PI X tg iter wi)
  (hg:∀ s H fp,PG (ql X N' scope s H fp) tg g) (hf:∀ s H fp,PF (ql X N' scope s H fp) ifs tif) (he:∀ s H fp,PE (ql X N' scope s H fp) elt te)
  (hsc:qag X.env.scope scope=true) (hcap:UG X.N N' scope m=true) (hs:∀ x,foldedSetIterable iter X.env x=pure x) {pins:List (Addr×Obj)} {s:Shared} {σ:L2.St} {H:Hp} (I:Inv X pins σ H s)
  (h:wi σ H λJ H1=>∀ D,H1 D=none ->
   ∃ W:Nat->Nat->L2.St->Hp->Prop,(∃ n,W 0 n (cap m σ) (upd H1 D (.lst [])))/\∀ i n σ H,W i n σ H ->
    (J.stop i H/\QD D H)\/(J.go i H/\∀ x H',J.yld i H x H'->g x σ H' λσ2 H2=>tif σ2 H2 λk H3=>
     if k=true then te σ2 H3 λy H4=>∃ zs,H4 D=some (.lst zs)/\zs.length<sizeLine/\∃ n',n'<n/\W (i+1) n' σ2 (upd H4 D (.lst (zs++[y])))
     else ∃ n',n'<n/\W (i+1) n' σ2 H3))
  (fin:∀ (D:Addr) (s3:Shared) (H3:Hp) (fp:List Addr) (s6:Shared) (H6:Hp) (σ6:L2.St) (r:Flow),Inv X pins σ H3 s3->(∀ b∈fp,S9 X pins H3 b)->Inv (ql X N' scope s3 H3 fp) [] σ6 H6 s6->QD D H6->compPost (model X.prog X.w) X.A X.xe use Qc (.ref D) s3.heap.objs.size (.ok r) s6) :
  wpAny (model X.prog X.w) X.A (comprehension (.ListComp elt [⟨tg,iter,ifs,0⟩] scope pos) scope X.env cpos (newList []) false (eval iter X.env) use) Qc X.xe s:=by
 have sc:=EM hsc;have hcl:∀ y∈scope.names,y.2=.free->∃ c,X.env.cells.lookup y.1=some c:=λy hy e=>by
  rcases (sc.free y hy e).2 with z|z
  ·exact I.ok.has y.1 (.inl z)
  ·exact I.ok.has y.1 (.inr z)
 refine wpAny_comprehension_free (g:=⟨tg,iter,ifs,0⟩) (gs:=[]) rfl hs (JT hcl) sc.kind sc.loc ?_;show wpAny _ _ (eval iter X.env) _ _ s;refine thn (hi pins s σ H _ I h) λv s1 h1=>thn h1 λitv s2 h2=>?_;obtain ⟨it,fp,tn,J,H2,rfl,I2,T,st2,f2,hW⟩:=h2;refine wpAny_newObj_type ?_;have hD:H2 s2.heap.objs.size=none:=I2.fresh;obtain ⟨W,⟨n0,w0⟩,turn⟩:=hW _ hD;generalize hDe:s2.heap.objs.size=D at *;have I3:Inv X pins σ (upd H2 D (.lst [])) { s2 with heap:=s2.heap.push { cls:=.type "list",dict:=none,data:=.seq ([]:List Value).toArray } }:=by
  subst hDe;exact I2.laid (t':=s2.toks) (λb u e=>Heap.get?_push_of_some _ e) (Nat.le_refl _) ⟨Nat.zero_le _,[],0,.nil,Heap.get?_push_size _ rfl⟩
 have ob2:=T.obj 0 _ st2;have ob3:∀ b∈fp,∃ o,(s2.heap.push { cls:=.type "list",dict:=none,data:=.seq ([]:List Value).toArray }).get? b=some o:=λb hb=>let ⟨o,e,_⟩:=ob2 b hb;⟨o,Heap.get?_push_of_some _ e⟩
 have f3:∀ b∈fp,S9 X pins (upd H2 D (.lst [])) b:=λb hb=>by
  obtain ⟨o,e,_⟩:=ob2 b hb;have:b≠D:=by rw [← hDe];exact Nat.ne_of_lt (Heap.lt_size e)
  exact ⟨by rw [qK this];exact (f2 b hb).1,(f2 b hb).2⟩
 have k23:∀ b o,s2.heap.get? b=some o->(s2.heap.push { cls:=.type "list",dict:=none,data:=.seq ([]:List Value).toArray }).get? b=some o:=λb o e=>Heap.get?_push_of_some _ e;generalize hH3:upd H2 D (.lst [])=H3 at *;generalize hs3:({ s2 with heap:=s2.heap.push { cls:=.type "list",dict:=none,data:=.seq ([]:List Value).toArray } }:Shared)=s3 at *;have ob3:∀ b∈fp,∃ o,s3.heap.get? b=some o:=by rw [← hs3];exact ob3
 have k23:∀ b o,s2.heap.get? b=some o->s3.heap.get? b=some o:=by rw [← hs3];exact k23
 refine QG λh₁ hns hk hown=>?_;have I4:Inv (ql X N' scope s3 H3 fp) [] (cap m σ) H3 { s3 with heap:=h₁ }:=RV hc I3 sc hcap f3 ob3 hns hk hown;have tn4:tn 0 h₁:=T.keep _ _ _ st2 λb hb o e=>hk b o (k23 b o e);have fr4:∀ b∈fp,H3 b=none:=λb hb=>(f3 b hb).1;have stat:∀ {H':Hp},(∀ b∈fp,H' b=none)->∀ b∈fp,S9 (ql X N' scope s3 H3 fp) [] H' b:=λhn b hb=>by
  refine ⟨hn b hb,I4.ok.exf b hb |>.1,I4.ok.exfs b hb,.inl hb,λx c e=>(I4.ok.exf b hb).2 x c e,λp hp=>absurd (show p∈([]:List (Addr×Obj)) from hp) (by simp)⟩
 show codeAny (model X.prog X.w) X.A (.compStart (.ListComp elt [⟨tg,iter,ifs,0⟩] scope pos) 0 (.ref it) (.ref D) (ql X N' scope s3 H3 fp).env) (compPost (model X.prog X.w) X.A X.xe use Qc (.ref D) s3.heap.objs.size) { s3 with heap:=h₁ };have loop:codeAny (model X.prog X.w) X.A (.compLoop (.ListComp elt [⟨tg,iter,ifs,0⟩] scope pos) 0 (.ref it) (.ref D) (ql X N' scope s3 H3 fp).env) (compPost (model X.prog X.w) X.A X.xe use Qc (.ref D) s3.heap.objs.size) { s3 with heap:=h₁ }:=by
  refine codeAny_loop rfl (λn s'=>∃ i σ' H',Inv (ql X N' scope s3 H3 fp) [] σ' H' s'/\tn i s'.heap/\(∀ b∈fp,H' b=none)/\W i n σ' H') (λn s' hI=>?_) n0 ⟨0,cap m σ,H3,I4,tn4,fr4,w0⟩;show wpAny _ X.A ((compTurn (.ListComp elt [⟨tg,iter,ifs,0⟩] scope pos) 0 (.ref it) (.ref D) (ql X N' scope s3 H3 fp).env).onRaise (λx=>do noteFrame x (ql X N' scope s3 H3 fp).env;theTreesLotGoes x)) _ _ s';refine wpAny_noted ?_;rw [compTurn_list];refine wpAny_bind (wpAny_standAt (wpAny_bind ?_));obtain ⟨i,σ5,H5,I5,st5,fr5,w5⟩:=hI;rcases turn i n σ5 H5 w5 with ⟨stop,q⟩|⟨go,step⟩
  ·refine thn (T.done (ql X N' scope s3 H3 fp) rfl rfl rfl rfl i [] s' σ5 H5 _ I5 (stat fr5) st5 stop) λr s6 ⟨hr,I6⟩=>?_;subst hr;refine wpAny_pure ?_;exact fin D s3 H3 fp s6 H5 σ5 _ I3 f3 I6 q
  ·refine thn (T.item (ql X N' scope s3 H3 fp) rfl rfl rfl rfl i [] s' σ5 H5 _ I5 (stat fr5) st5 go) λr s6 ⟨u,hr,h6⟩=>?_;subst hr;refine wpAny_bind (thn h6 λ_ s7 ⟨x,H7,I7,r7,y7,st7,fr7⟩=>?_);have I7':=I7.pinned (stat fr7) (T.obj _ _ st7);have again:∀ {σ8:L2.St} {H8:Hp} {s8:Shared},Inv (ql X N' scope s3 H3 fp) ([]++DK fp s7.heap) σ8 H8 s8->(∃ n',n'<n/\W (i+1) n' σ8 H8) ->
     ∃ m',m'<n/\∃ i σ' H',Inv (ql X N' scope s3 H3 fp) [] σ' H' s8/\tn i s8.heap/\(∀ b∈fp,H' b=none)/\W i m' σ' H':=λ{σ8 H8 s8} I8 ⟨n',hn,w8⟩=>by
    refine ⟨n',hn,i+1,σ8,H8,I8.unpinned,T.keep _ _ _ st7 λb hb o e=>(I8.pin (b,o) (mem_append_right _ (mem_append_right _ (zH hb e)))).1,λb hb=>?_,w8⟩;obtain ⟨o,e,d⟩:=T.obj _ _ st7 b hb;exact (I8.pin (b,o) (mem_append_right _ (mem_append_right _ (zH hb e)))).2.1
   refine wpAny_bind (wpAny_mono (hg s3 H3 fp _ s7 σ5 H7 x u _ I7' r7 (step x H7 y7)) (λ_ s8 ⟨σ8,H8,I8,q8⟩=>?_) λ_ _ z=>z.elim);refine wpAny_bind (wpAny_mono (hf s3 H3 fp _ s8 σ8 H8 _ I8 q8) (λk s9 ⟨H9,I9,q9⟩=>?_) λ_ _ z=>z.elim);cases k with
   |false=>
    rw [if_neg Bool.false_ne_true] at q9;exact wpAny_pure ⟨rfl,again I9 q9⟩
   |true=>
    rw [if_pos rfl] at q9;refine wpAny_bind (wpAny_bind (wpAny_mono (he s3 H3 fp _ s9 σ8 H9 _ I9 q9) (λw s10 ⟨y,H10,I10,r10,q10⟩=>?_) λ_ _ z=>z.elim));obtain ⟨zs,hz,hl,q10⟩:=q10;refine wpAny_bind (wpAny_mono (UQ (X:=ql X N' scope s3 H3 fp) _ s10 σ8 H10 (.ref D) [y] (.ref D) [w] (λ_ H11=>H11=upd H10 D (.lst (zs++[y]))) I10 rfl (.cons r10 .nil) ⟨D,zs,y,rfl,rfl,hz,hl,rfl⟩) (λ_ s11 ⟨_,H11,I11,_,e11⟩=>?_) λ_ _ z=>z.elim);subst e11;exact wpAny_pure (wpAny_pure ⟨rfl,again I11 q10⟩)
 exact codeAny_compStart_list loop (T.self X.A 0 _ _ _ tn4 loop)
def qdf {i:Nat} {y:Str} {py spos:Pos} {elt tg iter:Expr} {ifs:List Expr} {scope:Scope} {pos:Pos} {N':List Str} {m:List (Option Nat)} {wi:TI} {g:TG} {tif:TT} {te:TE} (hc:X.calm=true) (hN:X.N.Nodup) (hi:PI X tg iter wi)
  (hg:∀ s H fp,PG (ql X N' scope s H fp) tg g) (hf:∀ s H fp,PF (ql X N' scope s H fp) ifs tif) (he:∀ s H fp,PE (ql X N' scope s H fp) elt te)
  (hsc:qag X.env.scope scope=true) (hcap:UG X.N N' scope m=true) (hs:∀ x,foldedSetIterable iter X.env x=pure x) (hiy:X.N[i]?=some y) (hl:X.env.scope.names.lookup y=some .local)
  (hsw:swapsWith (.ListComp elt [⟨tg,iter,ifs,0⟩] scope pos) (some (.Name y py)) spos.line X.env=pure true) :
  PS X (.Assign [.Name y py] (.ListComp elt [⟨tg,iter,ifs,0⟩] scope pos) spos) (qmR (tLC wi g tif te m) (qfN i)):=by
 intro pins s σ H D I h;rw [exec_Assign_Name_used _ _ _ _ hsw];refine wpAny_bind (wpAny_standAt (wpAny_bind ?_));show wpAny _ X.A (do let _←comprehension (.ListComp elt [⟨tg,iter,ifs,0⟩] scope pos) scope X.env _ (newList []) false (eval iter X.env) (some (assign (.Name y py) X.env))) _ _ s;refine wpAny_bind (wpAny_mono (qgL (use:=some (assign (.Name y py) X.env)) (QD:=λD' H'=>D.nx (σ.set i (some (.ref D'))) H') (Qc:=λ_ s'=>∃ σ' H',Inv X pins σ' H' s'/\D.nx σ' H') hc hi hg hf he hsc hcap hs I h λD' s3 H3 fp s6 H6 σ6 r I3 f3 I6 q=>?_) (λ_ s' hq=>wpAny_pure (wpAny_pure hq)) λ_ _ e=>e);have I7:Inv X pins σ H6 s6:=EJ (h2:=s6.heap) I3 f3 I6 ⟨rfl,λ_ _=>rfl⟩;obtain ⟨mm,hn6,_⟩:=I6.loc;have hfC:S9 X pins H6 s3.heap.objs.size:=I3.fpOk (Nat.le_refl _) I6.free;obtain ⟨f0,f1,f2,f3',f4,f5⟩:=hfC;show wpAny _ X.A (assign (.Name y py) X.env (.ref D')) _ _ _;refine wpAny_assign_Name (TV I7 hN hiy (.inl hl) (v:=.ref D') rfl (λs8 I8 hch=>?_) (.inr hl));obtain ⟨a,sb,ha⟩:=hch;have hne:s3.heap.objs.size≠a:=by
  rcases ha with rfl|ha
  ·exact f1
  ·exact Ne.symm (f4 _ _ ha)
 refine ⟨mm,hn6.sameBut sb hne,λh' sb'=>⟨_,_,I8.turned (t':=s8.toks) (λb o hb e=>(sb'.2 b hb).trans e) f0 f1 f3' f4 f5,q⟩⟩
end
def qnY {K:Frg} {m:List (Option Nat)} {wi:TI3} {g:TG3} {tif:TT3} {te:TE3} {σ:L2.St} {H:Hp} {Q:VK} (hh:lE K (lc3 wi g tif te m) σ H Q):tLC (lI K wi) (lG K g) (lT K tif) (lE K te) m σ H Q:=by
  obtain ⟨τ,G,q,rl,h,af⟩:=hh;refine ⟨τ,G,_,rl,h,λitems stay G1 h1 J H1 hr1 k1 ok D hD=>?_⟩;have gD:G1 D=none:=hr1.free hD;refine ⟨λi n σ' H'=>n=items.length-i/\i<=items.length/\∃ τ' G' ys vs,Rel K τ' G' σ' H'/\Kp G1 H1 G' H'/\H' D=some (.lst vs)/\Rps K H' ys vs/\G' D=none/\qcr stay g tif te q (items.drop i) ys τ' G',
   ⟨_,rfl,Nat.zero_le _,cap m τ,G1,[],[],((rl.next hr1 k1).cap m).next (hr1.laid hD) (Kp.laid hD),Kp.laid hD,zf,.nil,gD,by simpa using h1⟩,?_⟩
  rintro i n σ' H' ⟨rfl,hi,τ',G',ys,vs,rl',k',hDl,rys,gD',h'⟩;by_cases hlt:i<items.length
  ·rw [List.drop_eq_getElem_cons hlt] at h';obtain ⟨hst,h'⟩:=h';obtain ⟨go,yld,_⟩:=ok G' H' rl'.hp k' hst;have hx:items[i]?=some items[i]:=getElem?_eq_getElem hlt;refine .inr ⟨go i _ hx,λv H2 y=>?_⟩;obtain ⟨rv,hr2,k2⟩:=yld i _ v H2 hx y;have nxt:∀ {τ4:St3} {G4:Gp} {σ4:L2.St} {H4:Hp} {ys4:List T} {vs4:List V},Rel K τ4 G4 σ4 H4->Kp G1 H1 G4 H4->H4 D=some (.lst vs4)->Rps K H4 ys4 vs4->G4 D=none->qcr stay g tif te q (items.drop (i+1)) ys4 τ4 G4 ->
     ∃ n',n'<items.length-i/\(n'=items.length-(i+1)/\i+1<=items.length/\∃ τ' G' ys vs,Rel K τ' G' σ4 H4/\Kp G1 H1 G' H4/\H4 D=some (.lst vs)/\Rps K H4 ys vs/\G' D=none/\qcr stay g tif te q (items.drop (i+1)) ys τ' G'):=
    λ{τ4 G4 σ4 H4 ys4 vs4} a b c d e f=>⟨_,by omega,rfl,hlt,τ4,G4,ys4,vs4,a,b,c,d,e,f⟩
   refine ⟨_,τ',G',_,rv,rl'.next hr2 k2,h',λτ3 G3 h3 σ3 H3 rl3 k3=>⟨τ3,G3,_,rl3,h3,λk G4 h4 H4 hr4 k4=>?_⟩⟩;have kk:=(k2.trans k3).trans k4;obtain ⟨hD4,gD4⟩:=kk D _ hDl gD';have rys4:=rys.keep rl'.hp kk;cases k with
   |false=>
    rw [if_neg Bool.false_ne_true] at h4;refine qms ?_;exact nxt (rl3.next hr4 k4) (k'.trans kk) hD4 rys4 gD4 h4
   |true=>
    rw [if_pos rfl] at h4;refine qmj ?_;refine ⟨τ3,G4,_,rl3.next hr4 k4,h4,λz G5 h5 w H5 rw5 hr5 k5=>?_⟩;obtain ⟨hD5,gD5⟩:=k5 D _ hD4 gD4;have rys5:=rys4.keep hr4 k5;exact ⟨vs,hD5,by rw [← rys.length];exact h5.1,nxt (((rl3.next hr4 k4).next hr5 k5).wrD hD5 gD5) (((k'.trans kk).trans k5).wrD hD) zf ((rys5.append (.cons rw5 .nil)).wrD hD5) gD5 h5.2⟩
  ·have e:i=items.length:=by omega
   subst e;rw [List.drop_length] at h';obtain ⟨_,_,stop⟩:=ok G' H' rl'.hp k' h'.1;refine .inl ⟨stop,af _ _ (h'.2 D gD') _ H' (.ref D) (λa o e=>?_) λa o e ga=>?_⟩
   ·by_cases ha:a=D
    ·subst ha;rw [qT] at e;cases e;exact ⟨vs,hDl,rys⟩
    ·rw [QE ha] at e;exact rl'.hp a o e
   ·obtain ⟨e1,g1⟩:=k1 a o e ga;obtain ⟨e2,g2⟩:=k' a o e1 g1;exact ⟨e2,by rw [QE (qB e1 hD)];exact g2⟩
def qhk {X:Cx} {py spos:Pos} {elt tg iter:Expr} {ifs:List Expr} {scope:Scope} {pos:Pos} {y:Str} (i:Nat) (N':List Str) (m:List (Option Nat)) {wi:TI3} {g:TG3} {tif:TT3} {te:TE3} (hc:X.calm=true) (hN:X.N.Nodup) (hi:I3 X tg iter wi)
  (hg:∀ s H fp,G3 (ql X N' scope s H fp) tg g) (hf:∀ s H fp,F3 (ql X N' scope s H fp) ifs tif) (he:∀ s H fp,E3 (ql X N' scope s H fp) elt te)
  (hsc:qag X.env.scope scope=true) (hcap:UG X.N N' scope m=true) (hl:X.env.scope.names.lookup y=some .local) (hsw:swapsWith (.ListComp elt [⟨tg,iter,ifs,0⟩] scope pos) (some (.Name y py)) spos.line X.env=pure true) (hiy:X.N[i]?=some y:=by rfl) (hs:∀ x,foldedSetIterable iter X.env x=pure x:=by intro _;rfl) :
  S3 X (.Assign [.Name y py] (.ListComp elt [⟨tg,iter,ifs,0⟩] scope pos) spos) (zg (lc3 wi g tif te m) (gn3 i)):=
 qco (qdf (g:=lG X.K g) (tif:=lT X.K tif) (te:=lE X.K te) hc hN hi hg hf he hsc hcap hs hiy hl hsw) λ_ σ H ⟨τ,G,d,rl,h,af⟩=>
  qnY ⟨τ,G,_,rl,h,λx G1 h1 v H1 rx hr1 k1=>af.nx _ G1 h1 _ H1 ((rl.next hr1 k1).set i rx) k1⟩
end L3
set_option autoImplicit true
namespace L3
open PySem PySem.Spec PyProof.Rows L2
structure jE3 (X:Cx) (e:Expr) (t:TE3):Prop where h:E3 X e t
structure jC3 (X:Cx) (e:Expr) (t:TT3):Prop where h:C3 X e t
structure jW3 (X:Cx) (e:Expr) (t:TT3):Prop where h:W3 X e t
structure jA3 (X:Cx) (e:List Expr) (t:TA3):Prop where h:A3 X e t
structure jP3 (X:Cx) (e:Option Expr) (t:TO3):Prop where h:P3 X e t
structure jS3 (X:Cx) (e:Stmt) (t:TS3):Prop where h:S3 X e t
structure jB3 (X:Cx) (e:List Stmt) (t:TS3):Prop where h:B3 X e t
structure jG3 (X:Cx) (e:Expr) (t:TG3):Prop where h:G3 X e t
structure jGs3 (X:Cx) (e:List Expr) (t:KR):Prop where h:Gs3 X e t
structure jI3 (X:Cx) (tg e:Expr) (t:TI3):Prop where h:I3 X tg e t
structure jF3 (X:Cx) (e:List Expr) (t:TT3):Prop where h:F3 X e t
def qb {X:Cx} (i:Nat) {x:Str} {pos:Pos} (hN:X.N[i]?=some x:=by rfl) (hv:Vis X.env.scope x:=by first|exact Or.inl rfl|exact Or.inr (Or.inl rfl)|exact Or.inr (Or.inr rfl)) (hd:(x==("__debug__" : Str))=false:=by decide)
  (hcd:(x==("__classdict__" : Str))=false:=by decide):jE3 X (.Name x pos) (v3 i):=
 ⟨qne (i:=i) (hN:=hN) (hv:=hv) (hd:=hd) (hcd:=hcd)⟩
def qd {X:Cx} {i:Int} {j pos}:jE3 X (.Constant (.int i) j pos) (c3 (.int i)):=
 ⟨qmK ⟩
def UX {X:Cx} {b:Bool} {j pos}:jE3 X (.Constant (.bool b) j pos) (c3 (.bl b)):=
 ⟨qpp ⟩
def qdD {X:Cx} {j pos}:jE3 X (.Constant .none j pos) (c3 .non):=
 ⟨qmS ⟩
def ze {X:Cx} {x:Str} {j pos}:jE3 X (.Constant (.str x) j pos) (c3 (.str x)):=
 ⟨qnq ⟩
def Q5 {ta:TE3} {tb:TE3} {pos:Pos} {a:Expr} {b:Expr} {X:Cx} {op:CmpOp} {r3:R3} {r:R2} (ho:OpR X (compareOp op) r) (hr:TF X.K r3 r) (ha:jE3 X a ta) (hb:jE3 X b tb) (hm:behindInMarks op b=false):jE3 X (.Compare a [op] [b] pos) (o3 r3 ta tb):=
 ⟨qop (ho:=ho) (hr:=hr) (ha:=ha.h) (hb:=hb.h) (hm:=hm)⟩
def qX {ta:TE3} {tb:TE3} {pos:Pos} {a:Expr} {b:Expr} {X:Cx} {op:CmpOp} {r3:R3} {r:R2} (ho:OpR X (compareOp op) r) (hr:TF X.K r3 r) (ha:jE3 X a ta) (hb:jE3 X b tb) (hm:behindInMarks op b=false):jC3 X (.Compare a [op] [b] pos) (tb3 (o3 r3 ta tb)):=
 ⟨qob (ho:=ho) (hr:=hr) (ha:=ha.h) (hb:=hb.h) (hm:=hm)⟩
def j5 {ta:TE3} {tb:TE3} {pos:Pos} {a:Expr} {b:Expr} {X:Cx} (ha:jE3 X a ta) (hb:jE3 X b tb):jE3 X (.BinOp a .Sub b pos) (o3 (iI (·-·)) ta tb):=
 ⟨qnD (ha:=ha.h) (hb:=hb.h)⟩
def qV {ta:TE3} {tb:TE3} {pos:Pos} {a:Expr} {b:Expr} {X:Cx} (ha:jE3 X a ta) (hb:jE3 X b tb):jE3 X (.BinOp a .Mult b pos) (o3 (iC zE (·*·)) ta tb):=
 ⟨qnA (ha:=ha.h) (hb:=hb.h)⟩
def JA {ta:TE3} {tb:TE3} {pos:Pos} {a:Expr} {b:Expr} {X:Cx} (ha:jE3 X a ta) (hb:jE3 X b tb):jE3 X (.BinOp a .Mod b pos) (o3 (iC (λ_ j=>0<j) (·%·)) ta tb):=
 ⟨qou (ha:=ha.h) (hb:=hb.h)⟩
def WV {ta:TE3} {tb:TE3} {pos:Pos} {a:Expr} {b:Expr} {X:Cx} (ha:jE3 X a ta) (hb:jE3 X b tb):jE3 X (.BinOp a .FloorDiv b pos) (o3 (iC M6 (·/·)) ta tb):=
 ⟨qni (ha:=ha.h) (hb:=hb.h)⟩
def ql9 {ta:TE3} {tb:TE3} {pos:Pos} {a:Expr} {b:Expr} {X:Cx} (ha:jE3 X a ta) (hb:jE3 X b tb):jE3 X (.BinOp a .Pow b pos) (o3 (iC KP (λi j=>i ^ j.toNat)) ta tb):=
 ⟨qmP (ha:=ha.h) (hb:=hb.h)⟩
def qgw {ta:TE3} {tb:TE3} {pos:Pos} {a:Expr} {b:Expr} {X:Cx} (ha:jE3 X a ta) (hb:jE3 X b tb):jE3 X (.BinOp a .BitAnd b pos) (o3 (iI Builtin.bitAnd) ta tb):=
 ⟨qlt (ha:=ha.h) (hb:=hb.h)⟩
def qb9 {ta:TE3} {tb:TE3} {pos:Pos} {a:Expr} {b:Expr} {X:Cx} (ha:jE3 X a ta) (hb:jE3 X b tb):jE3 X (.BinOp a .LShift b pos) (o3 (iC KP (λi j=>i*2 ^ j.toNat)) ta tb):=
 ⟨qnW (ha:=ha.h) (hb:=hb.h)⟩
def VR {ta:TE3} {pos:Pos} {a:Expr} {X:Cx} (ha:jE3 X a ta):jE3 X (.UnaryOp .USub a pos) (u3 T9 ta):=
 ⟨qmW (ha:=ha.h)⟩
def qho {tA:TT3} {pos:Pos} {a:Expr} {X:Cx} (ha:jC3 X a tA):jW3 X (.BoolOp .And [a] pos) tA:=
 ⟨qlQ (ha:=ha.h)⟩
def qdW {tA:TT3} {pos:Pos} {a:Expr} {X:Cx} (ha:jC3 X a tA):jW3 X (.BoolOp .Or [a] pos) tA:=
 ⟨qoi (ha:=ha.h)⟩
def qiM {ZB:List Expr} {tA:TT3} {tB:TT3} {pos:Pos} {a:Expr} {X:Cx} (ha:jC3 X a tA) (hb:jW3 X (.BoolOp .And (b::ZB) pos) tB):jW3 X (.BoolOp .And (a::b::ZB) pos) (qhG tA tB):=
 ⟨qnj (ha:=ha.h) (hb:=hb.h)⟩
def qjo {ZB:List Expr} {tA:TT3} {tB:TT3} {pos:Pos} {a:Expr} {X:Cx} (ha:jC3 X a tA) (hb:jW3 X (.BoolOp .Or (b::ZB) pos) tB):jW3 X (.BoolOp .Or (a::b::ZB) pos) (or3 tA tB):=
 ⟨qpr (ha:=ha.h) (hb:=hb.h)⟩
def qb0 {tA:TT3} {pos:Pos} {a:Expr} {X:Cx} (ha:jC3 X a tA):jC3 X (.UnaryOp .Not a pos) (qaf tA):=
 ⟨qoo (ha:=ha.h)⟩
def CS {X:Cx} {e:Expr} {t:TE3} (h:jE3 X e t) (he:∀ whole,isTrue e X.env whole=(do let v←whole;standAt e.pos;holding [v] (truthy v)):=by intro _;rfl):jC3 X e (tb3 t):=
 ⟨qot (h:=h.h) (he:=he)⟩
def KN {ta:TE3} {pos:Pos} {a:Expr} {X:Cx} {op} (h:jE3 X a ta):jE3 X (.BoolOp op [a] pos) ta:=
 ⟨qnS (h:=h.h)⟩
def CQ {ZB:List Expr} {ta:TE3} {tb:TE3} {pos:Pos} {a:Expr} {X:Cx} (ha:jE3 X a ta) (hb:jE3 X (.BoolOp .And (b::ZB) pos) tb):jE3 X (.BoolOp .And (a::b::ZB) pos) (VT ta tb):=
 ⟨qnn (ha:=ha.h) (hb:=hb.h)⟩
def qc0 {tA:TT3} {ta:TE3} {tb:TE3} {pos:Pos} {a:Expr} {b:Expr} {X:Cx} {c:Expr} (hc:jC3 X c tA) (ha:jE3 X a ta) (hb:jE3 X b tb):jE3 X (.IfExp c a b pos) (if3 tA ta tb):=
 ⟨qpl (hc:=hc.h) (ha:=ha.h) (hb:=hb.h)⟩
def qe {X:Cx} :jA3 X [] qi:=
 ⟨qnK ⟩
def qa {te:TE3} {t:TA3} {es:List Expr} {X:Cx} (ha:jE3 X e te) (hr:jA3 X es t) (hs:starEach (e::es) X.env=(false,eval e X.env)::starEach es X.env:=by rfl):jA3 X (e::es) (qc te t):=
 ⟨qme (ha:=ha.h) (hr:=hr.h) (hs:=hs)⟩
def qA {t:TA3} {pos:Pos} {es:List Expr} {X:Cx} {x1} (h:jA3 X es t):jE3 X (.Tuple es x1 pos) (zU t):=
 ⟨qmQ (h:=h.h)⟩
def QJ {t:TA3} {pos:Pos} {es:List Expr} {X:Cx} (h:jA3 X es t):jE3 X (.List es pos) (VV t):=
 ⟨qoj (h:=h.h)⟩
def qz {t:TA3} {pos:Pos} {es:List Expr} {X:Cx} {x:Str} {p:Pos} {id:String} {r3:List T->Gp->Q3->Prop} {r:List V->Hp->VK->Prop} (hc:J9 X (.builtin id) r) (hr:ML X.K r3 r) (hg:Gl X x) (hm:X.mg x=none) (hv:bootBuiltins x=some (.builtin id)) (ha:jA3 X (e::es) t) (hn:x≠"__name__" := by decide) (hdb:(x==("__debug__" : Str))=false:=by decide)
  (he:starEach (e::es) X.env=(false,eval e X.env)::starEach es X.env:=by rfl) (hpl:(backTo pos (starEach es X.env)).any (·.1)=false:=by rfl):jE3 X (.Call (.Name x p) (e::es) [] pos) (cb3 r3 t):=
 ⟨qht (hc:=hc) (hr:=hr) (hg:=hg) (hm:=hm) (hv:=hv) (ha:=ha.h) (hn:=hn) (hdb:=hdb) (he:=he) (hpl:=hpl)⟩
def zx {t:TA3} {pos:Pos} {es:List Expr} {X:Cx} {x:Str} {p:Pos} {ty:String} {r3:List T->Gp->Q3->Prop} {r:List V->Hp->VK->Prop} (hc:J9 X (.type ty) r) (hr:ML X.K r3 r) (hg:Gl X x) (hm:X.mg x=none) (hv:bootBuiltins x=some (.type ty)) (ha:jA3 X (e::es) t) (hn:x≠"__name__" := by decide) (hdb:(x==("__debug__" : Str))=false:=by decide)
  (he:starEach (e::es) X.env=(false,eval e X.env)::starEach es X.env:=by rfl) (hpl:(backTo pos (starEach es X.env)).any (·.1)=false:=by rfl):jE3 X (.Call (.Name x p) (e::es) [] pos) (cb3 r3 t):=
 ⟨qdk (hc:=hc) (hr:=hr) (hg:=hg) (hm:=hm) (hv:=hv) (ha:=ha.h) (hn:=hn) (hdb:=hdb) (he:=he) (hpl:=hpl)⟩
def qq {ta:TE3} {tb:TE3} {pos:Pos} {a:Expr} {b:Expr} {X:Cx} (ha:jE3 X a ta) (hb:jE3 X b tb) (hs:EQ b:=by intro _ _;rfl):jE3 X (.Subscript a b pos) (o3 ix3 ta tb):=
 ⟨qpG (ha:=ha.h) (hb:=hb.h) (hs:=hs)⟩
def qgI {X:Cx} :jP3 X none np3:=
 ⟨qlq ⟩
def V1 {te:TE3} {e:Expr} {X:Cx} (h:jE3 X e te):jP3 X (some e) (sp3 te):=
 ⟨qj5 (h:=h.h)⟩
def D7 {te:TE3} {pos:Pos} {e:Expr} {X:Cx} {lo hi:Option Expr} {tl th:TO3} {p2:Pos} (he:jE3 X e te) (hl:jP3 X lo tl) (hu:jP3 X hi th):jE3 X (.Subscript e (.Slice lo hi none p2) pos) (qcy te tl th):=
 ⟨qhb (he:=he.h) (hl:=hl.h) (hu:=hu.h)⟩
def qy {ta:TE3} {tb:TE3} {pos:Pos} {a:Expr} {b:Expr} {X:Cx} (ha:jE3 X a ta) (hb:jE3 X b tb):jE3 X (.BinOp a .Add b pos) (o3 zS ta tb):=
 ⟨qiW (ha:=ha.h) (hb:=hb.h)⟩
def qbu {t:TA3} {e:Expr} {X:Cx} {o:Expr} {to:TE3} {apos cpos:Pos} (ho:jE3 X o to) (ha:jA3 X [e] t)
  (hbase:attributeBase o "append" X.env (eval o X.env)=eval o X.env:=by rfl)
  (hfew:((backTo cpos (starEach [e] X.env)).all (λx=>!x.1)&&(backToKw cpos (keywordEach [] X.env)).all (λx=>x.1.isSome)
   && decide (([e]:List Expr).length+([]:List Keyword).length+(if ([]:List Keyword).isEmpty then 0 else 1)<30))=true:=by rfl)
  (hline:(apos.endLine==cpos.line)=true:=by rfl) (hs:starEach [e] X.env=(false,eval e X.env)::starEach [] X.env:=by rfl) (hplain:(backTo cpos (starEach [] X.env)).any (·.1)=false:=by rfl):jE3 X (.Call (.Attribute o "append" apos) [e] [] cpos) (bm3 qeH to t):=
 ⟨qc9 (ho:=ho.h) (ha:=ha.h) (hbase:=hbase) (hfew:=hfew) (hline:=hline) (hs:=hs) (hplain:=hplain)⟩
def SW {t:TA3} {e:Expr} {X:Cx} {o:Expr} {to:TE3} {apos cpos:Pos} (ho:jE3 X o to) (ha:jA3 X [e] t)
  (hbase:attributeBase o "extend" X.env (eval o X.env)=eval o X.env:=by rfl)
  (hfew:((backTo cpos (starEach [e] X.env)).all (λx=>!x.1)&&(backToKw cpos (keywordEach [] X.env)).all (λx=>x.1.isSome)
   && decide (([e]:List Expr).length+([]:List Keyword).length+(if ([]:List Keyword).isEmpty then 0 else 1)<30))=true:=by rfl)
  (hline:(apos.endLine==cpos.line)=true:=by rfl) (hs:starEach [e] X.env=(false,eval e X.env)::starEach [] X.env:=by rfl) (hplain:(backTo cpos (starEach [] X.env)).any (·.1)=false:=by rfl):jE3 X (.Call (.Attribute o "extend" apos) [e] [] cpos) (bm3 qck to t):=
 ⟨qcK (ho:=ho.h) (ha:=ha.h) (hbase:=hbase) (hfew:=hfew) (hline:=hline) (hs:=hs) (hplain:=hplain)⟩
def zc {X:Cx} :jB3 X [] za:=
 ⟨qnx ⟩
def qg {ZB:List Stmt} {st:Stmt} {t1:TS3} {t2:TS3} {X:Cx} (h1:jS3 X st t1) (h2:jB3 X ZB t2):jB3 X (st::ZB) (qO t1 t2):=
 ⟨qjl (h1:=h1.h) (h2:=h2.h)⟩
def qk {st:Stmt} {t1:TS3} {X:Cx} (h1:jS3 X st t1):jB3 X [st] t1:=
 ⟨qmN (h1:=h1.h)⟩
def MA {te:TE3} {pos:Pos} {e:Expr} {X:Cx} (he:jE3 X e te) (hs:swapsWith e none pos.line X.env=pure false:=by rfl):jS3 X (.Expr e pos) (XZ te):=
 ⟨qj9 (he:=he.h) (hs:=hs)⟩
def qt {te:TE3} {pos:Pos} {e:Expr} {X:Cx} (he:jE3 X e te):jS3 X (.Return (some e) pos) (zd te):=
 ⟨qoe (he:=he.h)⟩
def jj {tA:TT3} {t1:TS3} {t2:TS3} {pos:Pos} {X:Cx} {c:Expr} {ba bb:List Stmt} (hc:jC3 X c tA) (ha:jB3 X ba t1) (hb:jB3 X bb t2):jS3 X (.If c ba bb pos) (QB tA t1 t2):=
 ⟨qpq (hc:=hc.h) (ha:=ha.h) (hb:=hb.h)⟩
def qo {pos:Pos} {X:Cx} {i:Nat} {x:Str} (hN:X.N.Nodup) (hi:X.N[i]?=some x:=by rfl) (hx:Loc X.env.scope x:=by first|exact Or.inl rfl|exact Or.inr rfl) (hf:X.fn x=true\/X.env.scope.names.lookup x=some .local:=by first|exact .inl rfl|exact .inr rfl):jG3 X (.Name x pos) (gn3 i):=
 ⟨qjU (hN:=hN) (hi:=hi) (hx:=hx) (hf:=hf)⟩
def zC {X:Cx} :jGs3 X [] ji:=
 ⟨qnv ⟩
def qm {es:List Expr} {X:Cx} {tg:TG3} {tgs:KR} (h1:jG3 X e tg) (h2:jGs3 X es tgs) (hs:(assignEach (e::es) X.env).map (·.2)=assign e X.env::(assignEach es X.env).map (·.2):=by rfl):jGs3 X (e::es) (qr tg tgs):=
 ⟨qj6 (h1:=h1.h) (h2:=h2.h) (hs:=hs)⟩
def zB {pos:Pos} {es:List Expr} {X:Cx} {k:Nat} {tgs:KR} {n:Nat} (hc:X.calm=true) (h:jGs3 X es tgs) (hn:(assignEach es X.env).length=n:=by rfl) (hst:(assignEach es X.env).findIdx? (·.1)=none:=by rfl):jG3 X (.Tuple es k pos) (jf n tgs):=
 ⟨qnX (hc:=hc) (h:=h.h) (hn:=hn) (hst:=hst)⟩
def qfe {pos : Pos} {X : Cx} {o i : Expr} {to ti : TE3} (ho : jE3 X o to) (hi : jE3 X i ti) (ha : ∀ v,assign (.Subscript o i pos) X.env v = (do
      let ov←holding [v] (eval o X.env)
      let iv←holding [v,ov] (eval i X.env)
      standAt pos
      holding [v,ov,iv] (setItem ov iv v)
      release [v,ov,iv] []):=by intro _;rfl):jG3 X (.Subscript o i pos) (XJ to ti):=
  ⟨qnV (ho:=ho.h) (hi:=hi.h) (ha:=ha)⟩
def jL {te:TE3} {pos:Pos} {X:Cx} {tg e:Expr} {g:TG3} (he:jE3 X e te) (hg:jG3 X tg g) (hs:swapsWithSole [tg] e pos.line X.env=pure false:=by rfl) (hw:swappedStores [tg] e X.env=pure none:=by rfl)
  (h1:(assignEach [tg] X.env).map (·.2)=[assign tg X.env]:=by rfl):jS3 X (.Assign [tg] e pos) (zg te g):=
 ⟨qnQ (he:=he.h) (hg:=hg.h) (hs:=hs) (hw:=hw) (h1:=h1)⟩
def qS {te:TE3} {pos:Pos} {X:Cx} (i:Nat) {x:Str} {e:Expr} {pos':Pos} (hN:X.N.Nodup) (he:jE3 X e te) (hi:X.N[i]?=some x:=by rfl) (hx:Loc X.env.scope x:=by first|exact Or.inl rfl|exact Or.inr rfl) (hs:swapsWith e (some (.Name x pos')) pos.line X.env=pure false:=by rfl) (hf:X.fn x=true\/X.env.scope.names.lookup x=some .local:=by first|exact .inl rfl|exact .inr rfl):jS3 X (.Assign [.Name x pos'] e pos) (zg te (gn3 i)):=
 ⟨qmU (i:=i) (hN:=hN) (he:=he.h) (hi:=hi) (hx:=hx) (hs:=hs) (hf:=hf)⟩
def VQ {pos:Pos} {X:Cx} {i j:Nat} {x y:Str} {a b:Expr} {tt:TA3} {px py pt:Pos} {kt k2 pt2} (hc:X.calm=true) (hN:X.N.Nodup) (hi:X.N[i]?=some x) (hj:X.N[j]?=some y) (hij:i≠j)
  (hx:X.env.scope.names.lookup x=some .local) (hy:X.env.scope.names.lookup y=some .local) (ha:jA3 X [a,b] tt)
  (hw:swappedStores [.Tuple [.Name x px,.Name y py] kt pt] (.Tuple [a,b] k2 pt2) X.env=pure (some [x,y]):=by rfl)
  (hs:swapsWithSole [.Tuple [.Name x px,.Name y py] kt pt] (.Tuple [a,b] k2 pt2) pos.line X.env=pure false:=by rfl):jS3 X (.Assign [.Tuple [.Name x px,.Name y py] kt pt] (.Tuple [a,b] k2 pt2) pos) (WD i j tt):=
 ⟨qn3 (hc:=hc) (hN:=hN) (hi:=hi) (hj:=hj) (hij:=hij) (hx:=hx) (hy:=hy) (ha:=ha.h) (hw:=hw) (hs:=hs)⟩
def DM {te:TE3} {X:Cx} {tg:Expr} {l:Expr} (hl:jE3 X l te):jI3 X tg l (WQ te):=
 ⟨qnP (hl:=hl.h)⟩
def qN {t:TA3} {pos:Pos} {a:Expr} {X:Cx} {tg:Expr} {p:Pos} (hg:Gl X "range") (hm:X.mg "range" = none) (ha:jA3 X [a] t) (hs:starEach [a] X.env=[(false,eval a X.env)]:=by rfl) (h1:∀ τ G q,t τ G q->t τ G λxs G=>q xs G/\xs.length=1):jI3 X tg (.Call (.Name "range" p) [a] [] pos) (zz t):=
 ⟨qcL (hg:=hg) (hm:=hm) (ha:=ha.h) (hs:=hs) (h1:=h1)⟩
def j6 {t:TA3} {pos:Pos} {a:Expr} {b:Expr} {X:Cx} {tg:Expr} {p:Pos} (hg:Gl X "range") (hm:X.mg "range" = none) (ha:jA3 X [a,b] t) (hs:starEach [a,b] X.env=[(false,eval a X.env),(false,eval b X.env)]:=by rfl) (hs2:starEach [b] X.env=[(false,eval b X.env)]:=by rfl) (h1:∀ τ G q,t τ G q->t τ G λxs G=>q xs G/\xs.length=2):jI3 X tg (.Call (.Name "range" p) [a,b] [] pos) (zz t):=
 ⟨qcx (hg:=hg) (hm:=hm) (ha:=ha.h) (hs:=hs) (hs2:=hs2) (h1:=h1)⟩
def QK {pos:Pos} {X:Cx} {tg:Expr} {iter:Expr} {body:List Stmt} {wi:TI3} {g:TG3} {tb:TS3} (hp:PassesOwn (model X.prog X.w) X.A X.env X.xe) (hc:X.calm=true) (hi:jI3 X tg iter wi) (hg:jG3 X tg g) (hb:jB3 X body tb)
  (hs:∀ x,foldedSetIterable iter X.env x=pure x:=by intro _;rfl):jS3 X (.For tg iter body [] pos) (DP wi g tb):=
 ⟨qna (hp:=hp) (hc:=hc) (hi:=hi.h) (hg:=hg.h) (hb:=hb.h) (hs:=hs)⟩
def RR {pos:Pos} {X:Cx} {c:Expr} {body:List Stmt} {tc:TT3} {tb:TS3} (hp:PassesOwn (model X.prog X.w) X.A X.env X.xe) (hc:jC3 X c tc) (hb:jB3 X body tb):jS3 X (.While c body [] pos) (W1 tc tb):=
 ⟨qgY (hp:=hp) (hc:=hc.h) (hb:=hb.h)⟩
def qh {t:TA3} {pos:Pos} {es:List Expr} {X:Cx} {k:Nat} {x:Str} {p:Pos} {sp:Sp3} (F:Fn3 X.prog X.w X.K X.mg X.base k x sp) (hr:Room k X.A) (hg:Gl X x) (ha:jA3 X (e::es) t) (hdb:(x==("__debug__" : Str))=false:=by decide)
  (he:starEach (e::es) X.env=(false,eval e X.env)::starEach es X.env:=by rfl) (hpl:(backTo pos (starEach es X.env)).any (·.1)=false:=by rfl):jE3 X (.Call (.Name x p) (e::es) [] pos) (cb3 sp t):=
 ⟨qkv (F:=F) (hr:=hr) (hg:=hg) (ha:=ha.h) (hdb:=hdb) (he:=he) (hpl:=hpl)⟩
def VU {X:Cx} {elt tg iter:Expr} {ifs:List Expr} {scope:Scope} {pos:Pos} (N':List Str) (m:List (Option Nat)) {wi:TI3} {g:TG3} {tif:TT3} {te:TE3} (hc:X.calm=true) (hi:jI3 X tg iter wi)
  (hg:∀ s H fp,jG3 (ql X N' scope s H fp) tg g) (hf:∀ s H fp,jF3 (ql X N' scope s H fp) ifs tif) (he:∀ s H fp,jE3 (ql X N' scope s H fp) elt te)
  (hsc:qag X.env.scope scope=true) (hcap:UG X.N N' scope m=true) (hs:∀ x,foldedSetIterable iter X.env x=pure x:=by intro _;rfl):jE3 X (.ListComp elt [⟨tg,iter,ifs,0⟩] scope pos) (lc3 wi g tif te m):=
 ⟨qpI (N':=N') (m:=m) (hc:=hc) (hi:=hi.h) (hg:=(λs H fp=>(hg s H fp).h)) (hf:=(λs H fp=>(hf s H fp).h)) (he:=(λs H fp=>(he s H fp).h)) (hsc:=hsc) (hcap:=hcap) (hs:=hs)⟩
def jp {X:Cx}:jF3 X [] tt3:=
 ⟨qnh ⟩
def qeJ {X:Cx} {c:Expr} {t:TT3} (h:jC3 X c t):jF3 X [c] t:=
 ⟨qnd (h:=h.h)⟩
def qkU {t:TA3} {pos:Pos} {es:List Expr} {a:Expr} {b:Expr} {X:Cx} {p pt:Pos} {k1:Nat} (hg:Gl X "zip") (hm:X.mg "zip" = none) (ha:jA3 X [a,b] t) (hs:starEach [a,b] X.env=[(false,eval a X.env),(false,eval b X.env)]:=by rfl) (hs2:starEach [b] X.env=[(false,eval b X.env)]:=by rfl):jI3 X (.Tuple es k1 pt) (.Call (.Name "zip" p) [a,b] [] pos) (qcH t):=
 ⟨qm1 (hg:=hg) (hm:=hm) (ha:=ha.h) (hs:=hs) (hs2:=hs2)⟩
def qgE {t:TA3} {pos:Pos} {es:List Expr} {a:Expr} {X:Cx} {p pt:Pos} {k1:Nat} (hg:Gl X "enumerate") (hm:X.mg "enumerate" = none) (ha:jA3 X [a] t) (hs:starEach [a] X.env=[(false,eval a X.env)]:=by rfl):jI3 X (.Tuple es k1 pt) (.Call (.Name "enumerate" p) [a] [] pos) (MU t):=
 ⟨qlP (hg:=hg) (hm:=hm) (ha:=ha.h) (hs:=hs)⟩
def KL {te:TE3} {pos:Pos} {e:Expr} {X:Cx} (i:Nat) {x:Str} {pos':Pos} (hN:X.N.Nodup) (he:jE3 X e te) (hi:X.N[i]?=some x:=by rfl) (hx:Loc X.env.scope x:=by first|exact Or.inl rfl|exact Or.inr rfl) (hf:X.fn x=true\/X.env.scope.names.lookup x=some .local:=by first|exact .inl rfl|exact .inr rfl):jS3 X (.AugAssign (.Name x pos') .Add e pos) (qdx i (iI (·+·)) te):=
 ⟨qcD (i:=i) (hN:=hN) (he:=he.h) (hi:=hi) (hx:=hx) (hf:=hf)⟩
def MV {X:Cx} {py spos:Pos} {elt tg iter:Expr} {ifs:List Expr} {scope:Scope} {pos:Pos} {y:Str} (i:Nat) (N':List Str) (m:List (Option Nat)) {wi:TI3} {g:TG3} {tif:TT3} {te:TE3} (hc:X.calm=true) (hN:X.N.Nodup) (hi:jI3 X tg iter wi)
  (hg:∀ s H fp,jG3 (ql X N' scope s H fp) tg g) (hf:∀ s H fp,jF3 (ql X N' scope s H fp) ifs tif) (he:∀ s H fp,jE3 (ql X N' scope s H fp) elt te)
  (hsc:qag X.env.scope scope=true) (hcap:UG X.N N' scope m=true) (hl:X.env.scope.names.lookup y=some .local) (hsw:swapsWith (.ListComp elt [⟨tg,iter,ifs,0⟩] scope pos) (some (.Name y py)) spos.line X.env=pure true) (hiy:X.N[i]?=some y:=by rfl) (hs:∀ x,foldedSetIterable iter X.env x=pure x:=by intro _;rfl):jS3 X (.Assign [.Name y py] (.ListComp elt [⟨tg,iter,ifs,0⟩] scope pos) spos) (zg (lc3 wi g tif te m) (gn3 i)):=
 ⟨qhk (i:=i) (N':=N') (m:=m) (hc:=hc) (hN:=hN) (hi:=hi.h) (hg:=(λs H fp=>(hg s H fp).h)) (hf:=(λs H fp=>(hf s H fp).h)) (he:=(λs H fp=>(he s H fp).h)) (hsc:=hsc) (hcap:=hcap) (hl:=hl) (hsw:=hsw) (hiy:=hiy) (hs:=hs)⟩
def jpt {X:Cx} {e:Expr} {t:TT3} (h:jW3 X e t):jC3 X e t:=⟨PW.pt h.h⟩
def qI {P:Program} {w:World} {K:Frg} {mg:Str->Option Value} {base:Heap} {x qual:Str} {st:Stmt} {f:Addr} {fd:FuncData} {N ps:List Str} {k:Nat} {sp:Sp3} {t3:TS3} (F:Fun K x qual st f fd) (S:FnScope N ps (qj st)) (bd:zr K fd ps []) (hm:mg x=some (.ref f))
  (body:∀ (cdv:Value) (A:Around) (outer:List Env) (s:Shared) (H:Hp) (E:XK),Room k (A.deeper (envOfC qual (qj st) s.heap.objs.size f cdv)) ->
   jB3 (qcu CX0 P w K mg base N qual (qj st) f cdv A outer s H E).nox (jI st) t3)
  (read:∀ ts G q,sp ts G q->ts.length=ps.length/\t3 { nx:=λ_ G'=>q .non G',rt:=q } (qu N ts) G):Fn3 P w K mg base (k+1) x sp:=
 qjb F S bd hm (λcdv A outer s H E hr=>(body cdv A outer s H E hr).h) read
def qcT {P:Program} {w:World} {K:Frg} {mg:Str->Option Value} {base:Heap} {x qual:Str} {st:Stmt} {f:Addr} {fd:FuncData} {N ps:List Str} {k:Nat} {sp:Sp3} {t3:TS3} (F:Fun K x qual st f fd) (S:FnScope N ps (qj st))
  (body:∀ (cdv:Value) (A:Around) (outer:List Env) (s:Shared) (H:Hp) (E:XK),Room k (A.deeper (envOfC qual (qj st) s.heap.objs.size f cdv)) ->
   jB3 (qcu CX0 P w K mg base N qual (qj st) f cdv A outer s H E).nox (jI st) t3)
  (read:∀ ts G q,sp ts G q->ts.length=ps.length/\t3 { nx:=λ_ G'=>q .non G',rt:=q } (qu N ts) G):FnOk P w K mg base CX0 (k+1) f fd ps (lSp K sp):=
 qgs F S (λcdv A outer s H E hr=>(body cdv A outer s H E hr).h) read
open PySem.SeqAt
def Ex (G G':Gp):Prop:=∀ b o,G b=some o->G' b=some o
def Ex.refl {G:Gp}:Ex G G:=λ_ _ e=>e
def Ex.trans {G G1 G2:Gp} (a:Ex G G1) (b:Ex G1 G2):Ex G G2:=λx o e=>b x o (a x o e)
def DI {G:Gp} {p:Addr} {o:O} (hp:G p=none):Ex G (gu G p o):=λb ob e=>by
 rw [QE (by rintro rfl;rw [hp] at e;cases e)];exact e
mutual
inductive Dp (G:Gp):T->PyData->Prop
 |non:Dp G .non .none
 |bl (b:Bool):Dp G (.bl b) (.bool b)
 |int (i:Int):Dp G (.int i) (.int i)
 |str (x:Str):Dp G (.str x) (.str x)
 |tup {xs:List T} {ds:List PyData}:Dps G xs ds->Dp G (.tup xs) (.tuple ds)
 |lst {p:Addr} {xs:List T} {ds:List PyData}:getL G p=some xs->Dps G xs ds->Dp G (.ref p) (.list ds)
inductive Dps (G:Gp):List T->List PyData->Prop
 |nil:Dps G [] []
 |cons {x:T} {d:PyData} {xs:List T} {ds:List PyData}:Dp G x d->Dps G xs ds->Dps G (x::xs) (d::ds)
end
def Ex.getL {G G':Gp} (e:Ex G G') {p:Addr} {xs:List T} (h:getL G p=some xs):getL G' p=some xs:=by
 unfold L3.getL at h ⊢;split at h
 ·rename_i ys g;cases h;rw [e _ _ g]
 ·rename_i ys g;cases h;rw [e _ _ g]
 ·cases h
mutual
inductive DV (K:Frg) (H:Hp):V->PyData->Prop
 |non:DV K H .non .none
 |bl (b:Bool):DV K H (.bl b) (.bool b)
 |int (i:Int):DV K H (.int i) (.int i)
 |str (x:Str):DV K H (.str x) (.str x)
 |tup {a:Addr} {vs:List V} {ds:List PyData}:SqT K H a vs->DVs K H vs ds->DV K H (.ref a) (.tuple ds)
 |lst {a:Addr} {vs:List V} {ds:List PyData}:SqL K H a vs->DVs K H vs ds->DV K H (.ref a) (.list ds)
inductive DVs (K:Frg) (H:Hp):List V->List PyData->Prop
 |nil:DVs K H [] []
 |cons {x:V} {d:PyData} {xs:List V} {ds:List PyData}:DV K H x d->DVs K H xs ds->DVs K H (x::xs) (d::ds)
end
mutual
def Dp.dv {K:Frg} {G:Gp} {H:Hp} (hr:HR K G H):∀ {x:T} {d:PyData} {v:V},Dp G x d->Rp K H x v->DV K H v d
 |_,_,_,.non,.non=>.non
 |_,_,_,.bl b,.bl _=>.bl b
 |_,_,_,.int i,.int _=>.int i
 |_,_,_,.str x,.str _=>.str x
 |_,_,_,.tup h,.tup hs rs=>.tup hs (Dps.dv hr h rs)
 |_,_,_,.lst g h,r=>by
  cases r;obtain ⟨_,hs,rs⟩:=jg hr g;exact .lst hs (Dps.dv hr h rs)
def Dps.dv {K:Frg} {G:Gp} {H:Hp} (hr:HR K G H):∀ {x:List T} {d:List PyData} {v:List V},Dps G x d->Rps K H x v->DVs K H v d
 |_,_,_,.nil,.nil=>.nil
 |_,_,_,.cons a b,.cons c d=>.cons (Dp.dv hr a c) (Dps.dv hr b d)
end
mutual
def ZQ:PyData->PyData->Option Bool
 |.none,.none=>some true
 |.bool a,.bool b=>some (a==b)
 |.int a,.int b=>some (a==b)
 |.str a,.str b=>some (a==b)
 |.list xs,.list ys=>VO xs ys
 |.tuple xs,.tuple ys=>VO xs ys
 |_,_=>none
def VO:List PyData->List PyData->Option Bool
 |[],[]=>some true
 |x::xs,y::ys=>match ZQ x y,VO xs ys with|some a,some b=>some (a&&b)|_,_=>none
 |_,_=>some false
end
mutual
def dpt:PyData->Nat
 |.list xs=>qcq xs+1
 |.tuple xs=>qcq xs+1
 |_=>0
def qcq:List PyData->Nat
 |[]=>0
 |x::xs=>max (dpt x) (qcq xs)
end
section
variable {X:Cx} {pins:List (Addr×Obj)} {σ:L2.St} {H:Hp} {s:Shared}
mutual
def DV.inj (I:Inv X pins σ H s):∀ {v:V} {d e:PyData},DV X.K H v d->DV X.K H v e->d=e
 |_,_,_,.non,.non=>rfl
 |_,_,_,.bl _,.bl _=>rfl
 |_,_,_,.int _,.int _=>rfl
 |_,_,_,.str _,.str _=>rfl
 |_,_,_,.tup h hs,.tup k ks=>by
  have:=I.tuple_inj h k;subst this;rw [DVs.inj I hs ks]
 |_,_,_,.lst h hs,.lst k ks=>by
  have:=I.list_inj h k;subst this;rw [DVs.inj I hs ks]
 |_,_,_,.tup h hs,.lst k ks=>by
  obtain ⟨i1,_,p1,_⟩:=I.tuple h;obtain ⟨i2,_,p2,_⟩:=I.list k;exact absurd rfl (ne_of_list_tuple p2.isList (show s.heap.IsTuple _ i1.toArray from p1))
 |_,_,_,.lst k ks,.tup h hs=>by
  obtain ⟨i1,_,p1,_⟩:=I.tuple h;obtain ⟨i2,_,p2,_⟩:=I.list k;exact absurd rfl (ne_of_list_tuple p2.isList (show s.heap.IsTuple _ i1.toArray from p1))
def DVs.inj (I:Inv X pins σ H s):∀ {v:List V} {d e:List PyData},DVs X.K H v d->DVs X.K H v e->d=e
 |_,_,_,.nil,.nil=>rfl
 |_,_,_,.cons a b,.cons c d=>by rw [DV.inj I a c,DVs.inj I b d]
end
mutual
def SR:∀ {d:PyData} {b:Bool},ZQ d d=some b->b=true
 |.none,_,h=>by simp [ZQ] at h;exact h
 |.bool _,_,h=>by simp [ZQ] at h;exact h
 |.int _,_,h=>by simp [ZQ] at h;exact h
 |.str _,_,h=>by simp [ZQ] at h;exact h
 |.list xs,_,h=>by simp only [ZQ] at h;exact EI h
 |.tuple xs,_,h=>by simp only [ZQ] at h;exact EI h
 |.dict _,_,h=>by simp [ZQ] at h
def EI:∀ {d:List PyData} {b:Bool},VO d d=some b->b=true
 |[],_,h=>by simp [VO] at h;exact h
 |x::xs,b,h=>by
  simp only [VO] at h;split at h
  ·rename_i a c e1 e2;rw [SR e1,EI e2] at h;simpa using h.symm
  ·cases h
end
def YV:∀ {xs ys:List PyData} {b:Bool},VO xs ys=some b->xs.length=ys.length->∃ e:Nat->Bool,(∀ (j:Nat) x y,xs[j]?=some x->ys[j]?=some y->ZQ x y=some (e j))/\b=(List.range xs.length).all e
 |[],[],b,h,_=>by simp [VO] at h;exact ⟨λ_=>true,by simp,by simp [h]⟩
 |x::xs,y::ys,b,h,hl=>by
  simp only [VO] at h;split at h
  ·rename_i a c e1 e2;obtain ⟨e,h1,h2⟩:=YV e2 (by simpa using hl);refine ⟨λj=>match j with|0=>a|j+1=>e j,λj u v hu hv=>?_,?_⟩
   ·cases j with
    |zero=>simp at hu hv;subst hu;subst hv;exact e1
    |succ j=>exact h1 j u v (by simpa using hu) (by simpa using hv)
   ·rw [length_cons,List.range_succ_eq_map,List.all_cons,List.all_map];cases h;rw [h2];rfl
  ·cases h
 |[],_::_,_,_,hl=>by simp at hl
 |_::_,[],_,_,hl=>by simp at hl
def YW:∀ {xs ys:List PyData} {b:Bool},VO xs ys=some b->xs.length≠ys.length->b=false/\∃ e:Nat->Bool,∀ (j:Nat) x y,xs[j]?=some x->ys[j]?=some y->ZQ x y=some (e j)
 |[],[],_,_,hl=>by simp at hl
 |[],_::_,b,h,_=>by simp [VO] at h;exact ⟨h,λ_=>true,by simp⟩
 |_::_,[],b,h,_=>by simp [VO] at h;exact ⟨h,λ_=>true,by simp⟩
 |x::xs,y::ys,b,h,hl=>by
  simp only [VO] at h;split at h
  ·rename_i a c e1 e2;obtain ⟨h0,e,h1⟩:=YW e2 (by simpa using hl);subst h0;refine ⟨by simpa using h.symm,λj=>match j with|0=>a|j+1=>e j,λj u v hu hv=>?_⟩;cases j with
   |zero=>simp at hu hv;subst hu;subst hv;exact e1
   |succ j=>exact h1 j u v (by simpa using hu) (by simpa using hv)
  ·cases h
def U4:∀ {xs:List PyData} {x:PyData},x∈xs->dpt x<=qcq xs
 |[],_,h=>by simp at h
 |y::ys,x,h=>by
  simp only [qcq];rcases mem_cons.mp h with e|e
  ·subst e;omega
  ·have:=U4 e;omega
def DVs.get {K:Frg} {H:Hp}:∀ {xs:List V} {ds:List PyData} {i:Nat} {x:V},DVs K H xs ds->xs[i]?=some x->∃ d,ds[i]?=some d/\DV K H x d
 |_,_,_,_,.nil,e=>by simp at e
 |_,_,0,_,.cons r _,e=>by simp at e;subst e;exact ⟨_,rfl,r⟩
 |_,_,i+1,x,.cons _ t,e=>by
  obtain ⟨u,h1,h2⟩:=DVs.get (i:=i) (x:=x) t (by simpa using e);exact ⟨u,by simpa using h1,h2⟩
def DVs.length {K:Frg} {H:Hp}:∀ {xs:List V} {ds:List PyData},DVs K H xs ds->xs.length=ds.length
 |_,_,.nil=>rfl
 |_,_,.cons _ b=>by simp [DVs.length b]
def YB {vs:List V} {us:List Value} (r:jk vs us) {j:Nat} (h:j<us.toArray.size):∃ v,vs[j]?=some v/\jJ v us.toArray[j]:=by
 have hj:j<vs.length:=by rw [r.length];simpa using h
 obtain ⟨u,hu,ru⟩:=r.get (getElem?_eq_getElem hj);refine ⟨vs[j],getElem?_eq_getElem hj,?_⟩;have hj2:j<us.length:=by simpa using h
 rw [getElem?_eq_getElem hj2] at hu;have:us[j]=u:=Option.some.inj hu;simpa [this] using ru
def SK (I:Inv X pins σ H s):∀ (n:Nat) {v u:V} {d e:PyData} {b:Bool} {x y:Value} {A:Around},DV X.K H v d->DV X.K H u e->ZQ d e=some b->dpt d<=n->A.units+n<cLine->jJ v x->jJ u y ->
  RcAt A s x y b/\EqAt A s x y b:=by
 intro n;induction n with
 |zero=>
  intro v u d e b x y A hv hu h hd hn rx ry;cases hv with
  |non=>cases hu<;>simp [ZQ] at h;subst h;cases (show x=Value.none from rx);cases (show y=Value.none from ry);exact ⟨RcAt.none_none,EqAt.same _⟩
  |bl a=>cases hu<;>simp [ZQ] at h;subst h;cases (show x=Value.bool _ from rx);cases (show y=Value.bool _ from ry);exact ⟨RcAt.bool_bool _ _,EqAt.bool_bool _ _⟩
  |int a=>cases hu<;>simp [ZQ] at h;subst h;obtain ⟨t,rfl⟩:=(show ∃ t,x=Value.int _ t from rx);obtain ⟨t',rfl⟩:=(show ∃ t,y=Value.int _ t from ry);exact ⟨RcAt.int_int _ _ _ _,EqAt.int_int _ _ _ _⟩
  |str a=>cases hu<;>simp [ZQ] at h;subst h;obtain ⟨t,rfl⟩:=(show ∃ t,x=Value.str _ t from rx);obtain ⟨t',rfl⟩:=(show ∃ t,y=Value.str _ t from ry);exact ⟨RcAt.str_str _ _ _ _,EqAt.str_str _ _ _ _⟩
  |tup=>simp [dpt] at hd
  |lst=>simp [dpt] at hd
 |succ n ih=>
  intro v u d e b x y A hv hu h hd hn rx ry;have fin:∀ {l l':Addr} {k:Bool},x=.ref l->y=.ref l'->v=.ref l->u=.ref l'->b=k->RcAt A s x y k->RcAt A s x y b/\EqAt A s x y b:=by
   rintro l l' k rfl rfl rfl rfl rfl rc;refine ⟨rc,?_⟩;by_cases hll:l=l'
   ·subst hll;have:=DV.inj I hv hu;subst this;rw [SR h];exact EqAt.same _
   ·exact EqAt.of_refs hll rc
  cases hv with
  |non=>cases hu<;>simp [ZQ] at h;subst h;cases (show x=Value.none from rx);cases (show y=Value.none from ry);exact ⟨RcAt.none_none,EqAt.same _⟩
  |bl a=>cases hu<;>simp [ZQ] at h;subst h;cases (show x=Value.bool _ from rx);cases (show y=Value.bool _ from ry);exact ⟨RcAt.bool_bool _ _,EqAt.bool_bool _ _⟩
  |int a=>cases hu<;>simp [ZQ] at h;subst h;obtain ⟨t,rfl⟩:=(show ∃ t,x=Value.int _ t from rx);obtain ⟨t',rfl⟩:=(show ∃ t,y=Value.int _ t from ry);exact ⟨RcAt.int_int _ _ _ _,EqAt.int_int _ _ _ _⟩
  |str a=>cases hu<;>simp [ZQ] at h;subst h;obtain ⟨t,rfl⟩:=(show ∃ t,x=Value.str _ t from rx);obtain ⟨t',rfl⟩:=(show ∃ t,y=Value.str _ t from ry);exact ⟨RcAt.str_str _ _ _ _,EqAt.str_str _ _ _ _⟩
  |tup hq hs=>
   cases hu with
   |tup kq ks=>
    rename_i a1 vs1 ds1 a2 vs2 ds2;simp only [ZQ] at h;obtain ⟨i1,r1,p1,z1⟩:=I.tuple hq;obtain ⟨i2,r2,p2,z2⟩:=I.tuple kq;have l1:=hs.length;have l2:=ks.length;have m1:=r1.length;have m2:=r2.length;have el:∀ (e:Nat->Bool),(∀ (j:Nat) x y,ds1[j]?=some x->ds2[j]?=some y->ZQ x y=some (e j))->∀ j (h1:j<i1.toArray.size) (h2:j<i2.toArray.size),EqAt A.in1 s i1.toArray[j] i2.toArray[j] (e j):=λe he j h1 h2=>by
     obtain ⟨w1,g1,q1⟩:=YB r1 h1;obtain ⟨w2,g2,q2⟩:=YB r2 h2;obtain ⟨d1,f1,dv1⟩:=hs.get g1;obtain ⟨d2,f2,dv2⟩:=ks.get g2;have:=U4 (mem_of_getElem? f1);exact (ih dv1 dv2 (he j d1 d2 f1 f2) (by simp only [dpt] at hd;omega) (show A.units+1+n<cLine by omega) q1 q2).2
    cases (show x=Value.ref a1 from rx);cases (show y=Value.ref a2 from ry);by_cases hl:ds1.length=ds2.length
    ·obtain ⟨e,he,hb⟩:=YV h hl;refine fin rfl rfl rfl rfl (k:=(List.range (min i1.toArray.size i2.toArray.size)).all e&&i1.toArray.size==i2.toArray.size) ?_ (RcAt.tuples (show s.heap.IsTuple a1 i1.toArray from p1) (show s.heap.IsTuple a2 i2.toArray from p2) (by omega) (el e he));have e1:i1.toArray.size=ds1.length:=by rw [size_toArray];omega
     have e2:i2.toArray.size=ds1.length:=by rw [size_toArray];omega
     rw [e1,e2,hb];simp
    ·obtain ⟨hb,e,he⟩:=YW h hl;refine fin rfl rfl rfl rfl (k:=(List.range (min i1.toArray.size i2.toArray.size)).all e&&i1.toArray.size==i2.toArray.size) ?_ (RcAt.tuples (show s.heap.IsTuple a1 i1.toArray from p1) (show s.heap.IsTuple a2 i2.toArray from p2) (by omega) (el e he));have e1:i1.toArray.size≠i2.toArray.size:=by rw [size_toArray,size_toArray];omega
     rw [hb];simp [e1];intro;omega
   |_=>simp [ZQ] at h
  |lst hq hs=>
   cases hu with
   |lst kq ks=>
    rename_i a1 vs1 ds1 a2 vs2 ds2;simp only [ZQ] at h;obtain ⟨i1,r1,p1,z1⟩:=I.list hq;obtain ⟨i2,r2,p2,z2⟩:=I.list kq;have l1:=hs.length;have l2:=ks.length;have m1:=r1.length;have m2:=r2.length;have el:∀ (e:Nat->Bool),(∀ (j:Nat) x y,ds1[j]?=some x->ds2[j]?=some y->ZQ x y=some (e j))->∀ j (h1:j<i1.toArray.size) (h2:j<i2.toArray.size),EqAt A.in1 s i1.toArray[j] i2.toArray[j] (e j):=λe he j h1 h2=>by
     obtain ⟨w1,g1,q1⟩:=YB r1 h1;obtain ⟨w2,g2,q2⟩:=YB r2 h2;obtain ⟨d1,f1,dv1⟩:=hs.get g1;obtain ⟨d2,f2,dv2⟩:=ks.get g2;have:=U4 (mem_of_getElem? f1);exact (ih dv1 dv2 (he j d1 d2 f1 f2) (by simp only [dpt] at hd;omega) (show A.units+1+n<cLine by omega) q1 q2).2
    cases (show x=Value.ref a1 from rx);cases (show y=Value.ref a2 from ry);by_cases hl:ds1.length=ds2.length
    ·obtain ⟨e,he,hb⟩:=YV h hl;refine fin rfl rfl rfl rfl (k:=(List.range i1.toArray.size).all e) ?_ (RcAt.lists p1.isList p2.isList (by rw [size_toArray,size_toArray];omega) (by omega) (el e he));have e1:i1.toArray.size=ds1.length:=by rw [size_toArray];omega
     rw [e1,hb]
    ·obtain ⟨hb,e,he⟩:=YW h hl;refine fin rfl rfl rfl rfl (k:=false) hb (RcAt.lists_lengths p1.isList p2.isList (by rw [size_toArray,size_toArray];simp;omega) (by omega))
   |_=>simp [ZQ] at h
def qhi (I:Inv X pins σ H s) {n:Nat} {v u:V} {d e:PyData} {b:Bool} {x y:Value} {A:Around} (hv:DV X.K H v d) (hu:DV X.K H u e) (h:ZQ d e=some b) (hd:dpt d<=n+1) (hn:A.units+(n+1)<cLine) (rx:jJ v x) (ry:jJ u y) (hs:dpt d≠0):RcNeAt A s x y (!b):=by
 cases hv with
 |tup hq hs'=>
  cases hu with
  |tup kq ks=>
   rename_i a1 vs1 ds1 a2 vs2 ds2;simp only [ZQ] at h;obtain ⟨i1,r1,p1,z1⟩:=I.tuple hq;obtain ⟨i2,r2,p2,z2⟩:=I.tuple kq;have l1:=hs'.length;have l2:=ks.length;have m1:=r1.length;have m2:=r2.length;have el:∀ (e:Nat->Bool),(∀ (j:Nat) x y,ds1[j]?=some x->ds2[j]?=some y->ZQ x y=some (e j))->∀ j (h1:j<i1.toArray.size) (h2:j<i2.toArray.size),EqAt A.in1 s i1.toArray[j] i2.toArray[j] (e j):=λe he j h1 h2=>by
    obtain ⟨w1,g1,q1⟩:=YB r1 h1;obtain ⟨w2,g2,q2⟩:=YB r2 h2;obtain ⟨d1,f1,dv1⟩:=hs'.get g1;obtain ⟨d2,f2,dv2⟩:=ks.get g2;have:=U4 (mem_of_getElem? f1);exact (SK I n dv1 dv2 (he j d1 d2 f1 f2) (by simp only [dpt] at hd;omega) (show A.units+1+n<cLine by omega) q1 q2).2
   cases (show x=Value.ref a1 from rx);cases (show y=Value.ref a2 from ry);by_cases hl:ds1.length=ds2.length
   ·obtain ⟨e,he,hb⟩:=YV h hl;have:=RcNeAt.tuples (show s.heap.IsTuple a1 i1.toArray from p1) (show s.heap.IsTuple a2 i2.toArray from p2) (A:=A) (by omega) (el e he);have e1:i1.toArray.size=ds1.length:=by rw [size_toArray];omega
    have e2:i2.toArray.size=ds1.length:=by rw [size_toArray];omega
    rw [e1,e2] at this;rw [hb];simpa using this
   ·obtain ⟨hb,e,he⟩:=YW h hl;have:=RcNeAt.tuples (show s.heap.IsTuple a1 i1.toArray from p1) (show s.heap.IsTuple a2 i2.toArray from p2) (A:=A) (by omega) (el e he);have e1:(i1.toArray.size==i2.toArray.size)=false:=by rw [size_toArray,size_toArray];simp;omega
    rw [e1] at this;rw [hb];simpa using this
  |_=>simp [ZQ] at h
 |lst hq hs'=>
  cases hu with
  |lst kq ks=>
   rename_i a1 vs1 ds1 a2 vs2 ds2;simp only [ZQ] at h;obtain ⟨i1,r1,p1,z1⟩:=I.list hq;obtain ⟨i2,r2,p2,z2⟩:=I.list kq;have l1:=hs'.length;have l2:=ks.length;have m1:=r1.length;have m2:=r2.length;have el:∀ (e:Nat->Bool),(∀ (j:Nat) x y,ds1[j]?=some x->ds2[j]?=some y->ZQ x y=some (e j))->∀ j (h1:j<i1.toArray.size) (h2:j<i2.toArray.size),EqAt A.in1 s i1.toArray[j] i2.toArray[j] (e j):=λe he j h1 h2=>by
    obtain ⟨w1,g1,q1⟩:=YB r1 h1;obtain ⟨w2,g2,q2⟩:=YB r2 h2;obtain ⟨d1,f1,dv1⟩:=hs'.get g1;obtain ⟨d2,f2,dv2⟩:=ks.get g2;have:=U4 (mem_of_getElem? f1);exact (SK I n dv1 dv2 (he j d1 d2 f1 f2) (by simp only [dpt] at hd;omega) (show A.units+1+n<cLine by omega) q1 q2).2
   cases (show x=Value.ref a1 from rx);cases (show y=Value.ref a2 from ry);by_cases hl:ds1.length=ds2.length
   ·obtain ⟨e,he,hb⟩:=YV h hl;have:=RcNeAt.lists p1.isList p2.isList (A:=A) (by rw [size_toArray,size_toArray];omega) (by omega) (el e he);have e1:i1.toArray.size=ds1.length:=by rw [size_toArray];omega
    rw [e1] at this;rw [hb];exact this
   ·obtain ⟨hb,e,he⟩:=YW h hl;rw [hb];exact RcNeAt.lists_lengths p1.isList p2.isList (by rw [size_toArray,size_toArray];simp;omega) (by omega)
  |_=>simp [ZQ] at h
 |_=>simp [dpt] at hs
def qhL (K:Frg) (neg:Bool):R2:=λx y H Q=>∃ d e b,DV K H x d/\DV K H y e/\ZQ d e=some b/\dpt d<=40/\dpt d≠0/\Q (.bl (if neg then !b else b)) H
def qif (hu:X.A.units+64<cLine):OpR X (compareOp .Eq) (qhL X.K false):=by
 intro pins s σ H x y v u Q I rx ry h;obtain ⟨d,e,b,hx,hy,hb,hd,_,q⟩:=h;exact (SK I 40 hx hy hb hd (by omega) rx ry).1 X.prog X.w X.xe _ ⟨.bl b,H,I,rfl,q⟩
def qk8 (hu:X.A.units+64<cLine):OpR X (compareOp .NotEq) (qhL X.K true):=by
 intro pins s σ H x y v u Q I rx ry h;obtain ⟨d,e,b,hx,hy,hb,hd,hs,q⟩:=h;exact qhi I (n:=40) hx hy hb (by omega) (by omega) rx ry hs X.prog X.w X.xe _ ⟨.bl (!b),H,I,rfl,q⟩
end
def QC (neg:Bool):R3:=λx y G q=>match WM x y with
 |some k=>q (.bl (if neg then !k else k)) G
 |none=>∃ d e b,Dp G x d/\Dp G y e/\ZQ d e=some b/\dpt d<=40/\dpt d≠0/\q (.bl (if neg then !b else b)) G
def qU {K:Frg}:TF K (QC false) (λx y H Q=>rEq x y H Q\/qhL K false x y H Q):=λx y v u G H q Q hr rx ry h af=>by
 unfold QC at h;split at h
 ·rename_i k e;obtain ⟨h1,h2⟩:=NB rx ry e;refine .inl ⟨h1,?_⟩;rw [h2];exact af _ G h _ H (.bl _) hr Kp.refl
 ·obtain ⟨d,e,b,h1,h2,h3,h4,h5,h6⟩:=h;exact .inr ⟨d,e,b,h1.dv hr rx,h2.dv hr ry,h3,h4,h5,af _ G h6 _ H (.bl _) hr Kp.refl⟩
def EG {K:Frg}:TF K (QC true) (λx y H Q=>rNe x y H Q\/qhL K true x y H Q):=λx y v u G H q Q hr rx ry h af=>by
 unfold QC at h;split at h
 ·rename_i k e;obtain ⟨h1,h2⟩:=NB rx ry e;refine .inl ⟨h1,?_⟩;rw [h2];exact af _ G h _ H (.bl _) hr Kp.refl
 ·obtain ⟨d,e,b,h1,h2,h3,h4,h5,h6⟩:=h;exact .inr ⟨d,e,b,h1.dv hr rx,h2.dv hr ry,h3,h4,h5,af _ G h6 _ H (.bl _) hr Kp.refl⟩
def zj {X:Cx} (hu:X.A.units+64<cLine):OpR X (compareOp .Eq) (λx y H Q=>rEq x y H Q\/qhL X.K false x y H Q):=qn1.or (qif hu)
def CJ {X:Cx} (hu:X.A.units+64<cLine):OpR X (compareOp .NotEq) (λx y H Q=>rNe x y H Q\/qhL X.K true x y H Q):=qnp.or (qk8 hu)
end L3
namespace L3
open PySem PySem.Spec PyProof.Rows L2
section
variable {X:Cx} {pins:List (Addr×Obj)} {σ:L2.St} {H:Hp} {s:Shared}
end
section
variable {X:Cx}
end
section
variable {prog:Program} {w:World} {A:Around} {R:Result->Shared->Prop} {s:Shared}
def RZ (elt t1 i1 t2 i2:Expr) (f1 f2:List Expr) (scope:Scope) (pos:Pos) (it acc:Value) (env:Env) :
  compTurn (.ListComp elt [⟨t1,i1,f1,0⟩,⟨t2,i2,f2,0⟩] scope pos) 0 it acc env=(do
   standAt i1.pos
   match←pyNext it with
   |none=>pure (.done .next)
   |some v=>
    letOwnedTupleGo t1 it v
    assign t1 env v
    let mut ok:=true
    for c in f1 do
     if ok then ok←isTrue c env (eval c env)
    if ok then
     let x←eval i2 env
     standAt i2.pos
     let x←foldedSetIterable i2 env x
     let _←runOwn (.compStart (.ListComp elt [⟨t1,i1,f1,0⟩,⟨t2,i2,f2,0⟩] scope pos) 1 (← holding [x] (pyIter x)) acc env) env
    again (.compLoop (.ListComp elt [⟨t1,i1,f1,0⟩,⟨t2,i2,f2,0⟩] scope pos) 0 it acc env)):=by rfl
def RN (elt t1 i1 t2 i2:Expr) (f1 f2:List Expr) (scope:Scope) (pos:Pos) (it acc:Value) (env:Env) :
  compTurn (.ListComp elt [⟨t1,i1,f1,0⟩,⟨t2,i2,f2,0⟩] scope pos) 1 it acc env=(do
   standAt i2.pos
   match←pyNext it with
   |none=>pure (.done .next)
   |some v=>
    letOwnedTupleGo t2 it v
    assign t2 env v
    let mut ok:=true
    for c in f2 do
     if ok then ok←isTrue c env (eval c env)
    if ok then
     (do let _←call (.builtin "list.append") [acc,← eval elt env])
    again (.compLoop (.ListComp elt [⟨t1,i1,f1,0⟩,⟨t2,i2,f2,0⟩] scope pos) 1 it acc env)):=by rfl
def J7 {elt t1 i1 t2 i2:Expr} {f1 f2:List Expr} {scope:Scope} {pos:Pos} {it acc:Value} {env:Env}
  (h0:codeAny (model prog w) A (.compLoop (.ListComp elt [⟨t1,i1,f1,0⟩,⟨t2,i2,f2,0⟩] scope pos) 1 it acc env) R s)
  (h:wpAny (model prog w) A (pyIter it) (λit' s'=>codeAny (model prog w) A (.compLoop (.ListComp elt [⟨t1,i1,f1,0⟩,⟨t2,i2,f2,0⟩] scope pos) 1 it' acc env) R s')
   (notedBy (model prog w) A env λx s'=>R (.error x) s') s) :
  codeAny (model prog w) A (.compStart (.ListComp elt [⟨t1,i1,f1,0⟩,⟨t2,i2,f2,0⟩] scope pos) 1 it acc env) R s:=by
 refine codeAny_of_tree ?_;show wpAny _ _ ((compStart (.ListComp elt [⟨t1,i1,f1,0⟩,⟨t2,i2,f2,0⟩] scope pos) 1 it acc env).onRaise (λx=>do noteFrame x env;standAt theWindowsPlace)) _ _ s;refine wpAny_notedAt ?_;unfold compStart;show wpAny _ _ (ask >>= _) _ _ s;refine wpAny_bind (wpAny_askSetting (wpAny_ite ?_));split
 ·first
   |exact wpAny_bind (wpAny_pure (wpAny_pure (And.intro rfl h0)))
   |exact wpAny_pure (And.intro rfl h0)
 ·first
   |exact wpAny_bind (wpAny_rule (wpAny_bind (wpAny_standAt (wpAny_bind (wpAny_mono h (λit' s' h'=>wpAny_pure (And.intro rfl h')) λ_ _ x=>x)))))
   | (refine wpAny_bind (wpAny_rule ?_);show wpAny _ _ (standAt i2.pos >>= _) _ _ s;exact wpAny_bind (wpAny_standAt (wpAny_bind (wpAny_mono h (λit' s' h'=>wpAny_pure (And.intro rfl h')) λ_ _ x=>x))))
end
def tIn (wi:TI) (g:TG) (tif:TT) (te:TE) (D:Addr) (N:L2.St->Hp->Prop) (σ:L2.St) (H:Hp):Prop:=wi σ H λJ H1=>
 ∃ W:Nat->Nat->L2.St->Hp->Prop,(∃ n,W 0 n σ H1)/\∀ i n σ H,W i n σ H ->
  (J.stop i H/\N σ H)\/(J.go i H/\∀ x H',J.yld i H x H'->g x σ H' λσ2 H2=>tif σ2 H2 λk H3=>
   if k=true then te σ2 H3 λy H4=>∃ zs,H4 D=some (.lst zs)/\zs.length<sizeLine/\∃ n',n'<n/\W (i+1) n' σ2 (upd H4 D (.lst (zs++[y])))
   else ∃ n',n'<n/\W (i+1) n' σ2 H3)
section
variable {X:Cx}
def qke {elt t1 i1 t2 i2:Expr} {f1 f2:List Expr} {scope:Scope} {pos:Pos} {wi:TI} {g:TG} {tif:TT} {te:TE} {D:Addr} {N:L2.St->Hp->Prop} (hc:X.calm=true) (hx:∀ v s,¬ X.xe v s) (hi:PI X t2 i2 wi) (hg:PG X t2 g) (hf:PF X f2 tif) (he:PE X elt te)
    (hs:∀ x,foldedSetIterable i2 X.env x=pure x) {pins:List (Addr×Obj)} {s:Shared} {σ:L2.St} {H:Hp} {E:Value->Shared->Prop} {α:Type} {kk:Sem α} {Q:α->Shared->Prop} (I:Inv X pins σ H s) (h:tIn wi g tif te D N σ H) (hk:∀ s' σ' H',Inv X pins σ' H' s'->N σ' H'->wpAny (model X.prog X.w) X.A kk Q E s') :
    wpAny (model X.prog X.w) X.A (do
            let x←eval i2 X.env
            standAt i2.pos
            let x←foldedSetIterable i2 X.env x
            let _←runOwn (.compStart (.ListComp elt [⟨t1,i1,f1,0⟩,⟨t2,i2,f2,0⟩] scope pos) 1 (← holding [x] (pyIter x)) (.ref D) X.env) X.env
            kk) Q E s:=by
  refine wpAny_bind (wpAny_mono (hi pins s σ H _ I h) (λv s1 h1=>?_) λ_ _ z=>(hx _ _ z).elim);refine wpAny_bind (wpAny_standAt (wpAny_bind (wpAny_of_eq (hs v) ?_)));refine wpAny_bind (wpAny_holding (wpAny_mono h1 (λitv s2 h2=>?_) λ_ _ z=>(hx _ _ z).elim));obtain ⟨it,fp,tn,J,H2,rfl,I2,T,st2,f2',W,⟨n0,w0⟩,turn⟩:=h2;have stat:∀ {H':Hp},(∀ b∈fp,H' b=none)->∀ b∈fp,S9 X pins H' b:=λhn b hb=>⟨hn b hb,(f2' b hb).2⟩
  refine wpAny_bind (wpAny_runOwn ?_);show codeAny (model X.prog X.w) X.A (.compStart (.ListComp elt [⟨t1,i1,f1,0⟩,⟨t2,i2,f2,0⟩] scope pos) 1 (.ref it) (.ref D) X.env) _ s2;have loop:codeAny (model X.prog X.w) X.A (.compLoop (.ListComp elt [⟨t1,i1,f1,0⟩,⟨t2,i2,f2,0⟩] scope pos) 1 (.ref it) (.ref D) X.env) (λr s'=>match r with
      |.ok f=>wpAny (model X.prog X.w) X.A kk Q E s'
      |.error e=>cameBackBy (model X.prog X.w) X.A X.env E e s') s2:=by
    refine codeAny_loop rfl (λn s'=>∃ i σ' H',Inv X pins σ' H' s'/\tn i s'.heap/\(∀ b∈fp,H' b=none)/\W i n σ' H') (λn s' hI=>?_) n0 ⟨0,σ,H2,I2,st2,λb hb=>(f2' b hb).1,w0⟩;show wpAny _ X.A ((compTurn (.ListComp elt [⟨t1,i1,f1,0⟩,⟨t2,i2,f2,0⟩] scope pos) 1 (.ref it) (.ref D) X.env).onRaise (λx=>do noteFrame x X.env;theTreesLotGoes x)) _ _ s';refine wpAny_noted ?_;rw [RN];refine wpAny_bind (wpAny_standAt (wpAny_bind ?_));obtain ⟨i,σ5,H5,I5,st5,fr5,w5⟩:=hI;rcases turn i n σ5 H5 w5 with ⟨stop,q⟩|⟨go,step⟩
    · refine thn (T.done X rfl rfl rfl hc i pins s' σ5 H5 _ I5 (stat fr5) st5 stop) λr s6 ⟨hr,I6⟩=>?_;subst hr;exact wpAny_pure (hk _ σ5 H5 I6 q)
    · refine thn (T.item X rfl rfl rfl hc i pins s' σ5 H5 _ I5 (stat fr5) st5 go) λr s6 ⟨u,hr,h6⟩=>?_;subst hr;refine wpAny_bind (thn h6 λ_ s7 ⟨x,H7,I7,r7,y7,st7,fr7⟩=>?_);have I7':=I7.pinned (stat fr7) (T.obj _ _ st7);have again:∀ {σ8:L2.St} {H8:Hp} {s8:Shared},Inv X (pins++DK fp s7.heap) σ8 H8 s8->(∃ n',n'<n/\W (i+1) n' σ8 H8) ->
          ∃ m',m'<n/\∃ i σ' H',Inv X pins σ' H' s8/\tn i s8.heap/\(∀ b∈fp,H' b=none)/\W i m' σ' H':=λ{σ8 H8 s8} I8 ⟨n',hn,w8⟩=>by
        refine ⟨n',hn,i+1,σ8,H8,I8.unpinned,T.keep _ _ _ st7 λb hb o e=>(I8.pin (b,o) (mem_append_right _ (mem_append_right _ (zH hb e)))).1,λb hb=>?_,w8⟩;obtain ⟨o,e,d⟩:=T.obj _ _ st7 b hb;exact (I8.pin (b,o) (mem_append_right _ (mem_append_right _ (zH hb e)))).2.1
      refine wpAny_bind (wpAny_mono (hg _ s7 σ5 H7 x u _ I7' r7 (step x H7 y7)) (λ_ s8 ⟨σ8,H8,I8,q8⟩=>?_) λ_ _ z=>(hx _ _ z).elim);refine wpAny_bind (wpAny_mono (hf _ s8 σ8 H8 _ I8 q8) (λk s9 ⟨H9,I9,q9⟩=>?_) λ_ _ z=>(hx _ _ z).elim);cases k with
      |false=>
        rw [if_neg Bool.false_ne_true] at q9;exact wpAny_pure ⟨rfl,again I9 q9⟩
      |true=>
        rw [if_pos rfl] at q9;refine wpAny_bind (wpAny_bind (wpAny_mono (he _ s9 σ8 H9 _ I9 q9) (λw s10 ⟨y,H10,I10,r10,q10⟩=>?_) λ_ _ z=>(hx _ _ z).elim));obtain ⟨zs,hz,hl,q10⟩:=q10;refine wpAny_bind (wpAny_mono (UQ (X:=X) _ s10 σ8 H10 (.ref D) [y] (.ref D) [w] (λ_ H11=>H11=upd H10 D (.lst (zs++[y]))) I10 rfl (.cons r10 .nil) ⟨D,zs,y,rfl,rfl,hz,hl,rfl⟩) (λ_ s11 ⟨_,H11,I11,_,e11⟩=>?_) λ_ _ z=>(hx _ _ z).elim);subst e11;exact wpAny_pure (wpAny_pure ⟨rfl,again I11 q10⟩)
  exact J7 loop (T.self X.A 0 _ _ _ st2 loop)
def qpF (wi:TI) (g:TG) (tif:TT) (wi2:TI) (g2:TG) (tif2:TT) (te:TE) (m:List (Option Nat)):TE:=λσ H Q=>wi σ H λJ H1=>∀ D,H1 D=none ->
 ∃ W:Nat->Nat->L2.St->Hp->Prop,(∃ n,W 0 n (cap m σ) (upd H1 D (.lst [])))/\∀ i n σ H,W i n σ H ->
  (J.stop i H/\Q (.ref D) H)\/(J.go i H/\∀ x H',J.yld i H x H'->g x σ H' λσ2 H2=>tif σ2 H2 λk H3=>
   if k=true then tIn wi2 g2 tif2 te D (λσ4 H4=>∃ n',n'<n/\W (i+1) n' σ4 H4) σ2 H3
   else ∃ n',n'<n/\W (i+1) n' σ2 H3)
def qid {elt tg iter t2 i2:Expr} {ifs f2:List Expr} {scope:Scope} {pos:Pos} {N':List Str} {m:List (Option Nat)} {wi:TI} {g:TG} {tif:TT} {wi2:TI} {g2:TG} {tif2:TT} {te:TE} (hc:X.calm=true) (hi:PI X tg iter wi)
  (hg:∀ s H fp,PG (ql X N' scope s H fp) tg g) (hf:∀ s H fp,PF (ql X N' scope s H fp) ifs tif) (hi2:∀ s H fp,PI (ql X N' scope s H fp) t2 i2 wi2) (hg2:∀ s H fp,PG (ql X N' scope s H fp) t2 g2) (hf2:∀ s H fp,PF (ql X N' scope s H fp) f2 tif2) (he:∀ s H fp,PE (ql X N' scope s H fp) elt te)
  (hsc:qag X.env.scope scope=true) (hcap:UG X.N N' scope m=true) (hs:∀ x,foldedSetIterable iter X.env x=pure x:=by intro _;rfl) (hs2:∀ s H fp x,foldedSetIterable i2 (ql X N' scope s H fp).env x=pure x:=by intro _ _ _ _;rfl) :
  PE X (.ListComp elt [⟨tg,iter,ifs,0⟩,⟨t2,i2,f2,0⟩] scope pos) (qpF wi g tif wi2 g2 tif2 te m):=by
 intro pins s σ H Q I h;have sc:=EM hsc;have hcl:∀ y∈scope.names,y.2=.free->∃ c,X.env.cells.lookup y.1=some c:=λy hy e=>by
  rcases (sc.free y hy e).2 with z|z
  ·exact I.ok.has y.1 (.inl z)
  ·exact I.ok.has y.1 (.inr z)
 rw [eval_ListComp];refine wpAny_comprehension_free (use:=none) (g:=⟨tg,iter,ifs,0⟩) (gs:=[⟨t2,i2,f2,0⟩]) rfl hs (JT hcl) sc.kind sc.loc ?_;show wpAny _ _ (eval iter X.env) _ _ s;refine thn (hi pins s σ H _ I h) λv s1 h1=>thn h1 λitv s2 h2=>?_;obtain ⟨it,fp,tn,J,H2,rfl,I2,T,st2,fF2,hW⟩:=h2;refine wpAny_newObj_type ?_;have hD:H2 s2.heap.objs.size=none:=I2.fresh;obtain ⟨W,⟨n0,w0⟩,turn⟩:=hW _ hD;generalize hDe:s2.heap.objs.size=D at *;have I3:Inv X pins σ (upd H2 D (.lst [])) { s2 with heap:=s2.heap.push { cls:=.type "list",dict:=none,data:=.seq ([]:List Value).toArray } }:=by
  subst hDe;exact I2.laid (t':=s2.toks) (λb u e=>Heap.get?_push_of_some _ e) (Nat.le_refl _) ⟨Nat.zero_le _,[],0,.nil,Heap.get?_push_size _ rfl⟩
 have ob2:=T.obj 0 _ st2;have ob3:∀ b∈fp,∃ o,(s2.heap.push { cls:=.type "list",dict:=none,data:=.seq ([]:List Value).toArray }).get? b=some o:=λb hb=>let ⟨o,e,_⟩:=ob2 b hb;⟨o,Heap.get?_push_of_some _ e⟩
 have f3:∀ b∈fp,S9 X pins (upd H2 D (.lst [])) b:=λb hb=>by
  obtain ⟨o,e,_⟩:=ob2 b hb;have:b≠D:=by rw [← hDe];exact Nat.ne_of_lt (Heap.lt_size e)
  exact ⟨by rw [qK this];exact (fF2 b hb).1,(fF2 b hb).2⟩
 have k23:∀ b o,s2.heap.get? b=some o->(s2.heap.push { cls:=.type "list",dict:=none,data:=.seq ([]:List Value).toArray }).get? b=some o:=λb o e=>Heap.get?_push_of_some _ e;generalize hH3:upd H2 D (.lst [])=H3 at *;generalize hs3:({ s2 with heap:=s2.heap.push { cls:=.type "list",dict:=none,data:=.seq ([]:List Value).toArray } }:Shared)=s3 at *;have ob3:∀ b∈fp,∃ o,s3.heap.get? b=some o:=by rw [← hs3];exact ob3
 have k23:∀ b o,s2.heap.get? b=some o->s3.heap.get? b=some o:=by rw [← hs3];exact k23
 refine QG λh₁ hns hk hown=>?_;have I4:Inv (ql X N' scope s3 H3 fp) [] (cap m σ) H3 { s3 with heap:=h₁ }:=RV hc I3 sc hcap f3 ob3 hns hk hown;have tn4:tn 0 h₁:=T.keep _ _ _ st2 λb hb o e=>hk b o (k23 b o e);have fr4:∀ b∈fp,H3 b=none:=λb hb=>(f3 b hb).1;have stat:∀ {H':Hp},(∀ b∈fp,H' b=none)->∀ b∈fp,S9 (ql X N' scope s3 H3 fp) [] H' b:=λhn b hb=>by
  refine ⟨hn b hb,I4.ok.exf b hb |>.1,I4.ok.exfs b hb,.inl hb,λx c e=>(I4.ok.exf b hb).2 x c e,λp hp=>absurd (show p∈([]:List (Addr×Obj)) from hp) (by simp)⟩
 show codeAny (model X.prog X.w) X.A (.compStart (.ListComp elt [⟨tg,iter,ifs,0⟩,⟨t2,i2,f2,0⟩] scope pos) 0 (.ref it) (.ref D) (ql X N' scope s3 H3 fp).env) (compPost (model X.prog X.w) X.A X.xe none (EP X pins σ Q) (.ref D) s3.heap.objs.size) { s3 with heap:=h₁ };have loop:codeAny (model X.prog X.w) X.A (.compLoop (.ListComp elt [⟨tg,iter,ifs,0⟩,⟨t2,i2,f2,0⟩] scope pos) 0 (.ref it) (.ref D) (ql X N' scope s3 H3 fp).env) (compPost (model X.prog X.w) X.A X.xe none (EP X pins σ Q) (.ref D) s3.heap.objs.size) { s3 with heap:=h₁ }:=by
  refine codeAny_loop rfl (λn s'=>∃ i σ' H',Inv (ql X N' scope s3 H3 fp) [] σ' H' s'/\tn i s'.heap/\(∀ b∈fp,H' b=none)/\W i n σ' H') (λn s' hI=>?_) n0 ⟨0,cap m σ,H3,I4,tn4,fr4,w0⟩;show wpAny _ X.A ((compTurn (.ListComp elt [⟨tg,iter,ifs,0⟩,⟨t2,i2,f2,0⟩] scope pos) 0 (.ref it) (.ref D) (ql X N' scope s3 H3 fp).env).onRaise (λx=>do noteFrame x (ql X N' scope s3 H3 fp).env;theTreesLotGoes x)) _ _ s';refine wpAny_noted ?_;rw [RZ];refine wpAny_bind (wpAny_standAt (wpAny_bind ?_));obtain ⟨i,σ5,H5,I5,st5,fr5,w5⟩:=hI;rcases turn i n σ5 H5 w5 with ⟨stop,q⟩|⟨go,step⟩
  ·refine thn (T.done (ql X N' scope s3 H3 fp) rfl rfl rfl rfl i [] s' σ5 H5 _ I5 (stat fr5) st5 stop) λr s6 ⟨hr,I6⟩=>?_;subst hr;refine wpAny_pure ?_;obtain ⟨mm,hn6,_⟩:=I6.loc;exact ⟨mm,hn6,λh' sb=>⟨.ref D,H5,EJ I3 f3 I6 sb,rfl,q⟩⟩
  ·refine thn (T.item (ql X N' scope s3 H3 fp) rfl rfl rfl rfl i [] s' σ5 H5 _ I5 (stat fr5) st5 go) λr s6 ⟨u,hr,h6⟩=>?_;subst hr;refine wpAny_bind (thn h6 λ_ s7 ⟨x,H7,I7,r7,y7,st7,fr7⟩=>?_);have I7':=I7.pinned (stat fr7) (T.obj _ _ st7);have again:∀ {σ8:L2.St} {H8:Hp} {s8:Shared},Inv (ql X N' scope s3 H3 fp) ([]++DK fp s7.heap) σ8 H8 s8->(∃ n',n'<n/\W (i+1) n' σ8 H8) ->
     ∃ m',m'<n/\∃ i σ' H',Inv (ql X N' scope s3 H3 fp) [] σ' H' s8/\tn i s8.heap/\(∀ b∈fp,H' b=none)/\W i m' σ' H':=λ{σ8 H8 s8} I8 ⟨n',hn,w8⟩=>by
    refine ⟨n',hn,i+1,σ8,H8,I8.unpinned,T.keep _ _ _ st7 λb hb o e=>(I8.pin (b,o) (mem_append_right _ (mem_append_right _ (zH hb e)))).1,λb hb=>?_,w8⟩;obtain ⟨o,e,d⟩:=T.obj _ _ st7 b hb;exact (I8.pin (b,o) (mem_append_right _ (mem_append_right _ (zH hb e)))).2.1
   refine wpAny_bind (wpAny_mono (hg s3 H3 fp _ s7 σ5 H7 x u _ I7' r7 (step x H7 y7)) (λ_ s8 ⟨σ8,H8,I8,q8⟩=>?_) λ_ _ z=>z.elim);refine wpAny_bind (wpAny_mono (hf s3 H3 fp _ s8 σ8 H8 _ I8 q8) (λk s9 ⟨H9,I9,q9⟩=>?_) λ_ _ z=>z.elim);cases k with
   |false=>
    rw [if_neg Bool.false_ne_true] at q9;exact wpAny_pure ⟨rfl,again I9 q9⟩
   |true=>
    rw [if_pos rfl] at q9;refine qke (X:=ql X N' scope s3 H3 fp) rfl (λ_ _ z=>z) (hi2 s3 H3 fp) (hg2 s3 H3 fp) (hf2 s3 H3 fp) (he s3 H3 fp) (hs2 s3 H3 fp) I9 q9 λs10 σ10 H10 I10 q10=>?_;exact wpAny_pure ⟨rfl,again I10 q10⟩
 exact codeAny_compStart_list loop (T.self X.A 0 _ _ _ tn4 loop)
end
def qhH (D:Addr) (stay:Gp->Prop) (g:TG3) (tif:TT3) (te:TE3) (N:St3->Gp->Prop):List T->St3->Gp->Prop
 |[],τ,G=>stay G/\N τ G
 |x::r,τ,G=>stay G/\g x τ G λτ2 G2=>tif τ2 G2 λk G3=>
  if k=true then te τ2 G3 λy G4=>(match G4 D with|some (.lst ys)=>ys.length<sizeLine/\qhH D stay g tif te N r τ2 (gu G4 D (.lst (ys++[y])))|_=>False) else qhH D stay g tif te N r τ2 G3
def qb2 (D:Addr) (stay:Gp->Prop) (g:TG3) (tif:TT3) (wi2:TI3) (g2:TG3) (tif2:TT3) (te:TE3) (q:Q3):List T->St3->Gp->Prop
 |[],_,G=>stay G/\q (.ref D) G
 |x::r,τ,G=>stay G/\g x τ G λτ2 G2=>tif τ2 G2 λk G3=>
  if k=true then wi2 τ2 G3 λitems2 stay2 G4=>qhH D stay2 g2 tif2 te (λτ' G'=>qb2 D stay g tif wi2 g2 tif2 te q r τ' G') items2 τ2 G4 else qb2 D stay g tif wi2 g2 tif2 te q r τ2 G3
def qhK (wi:TI3) (g:TG3) (tif:TT3) (wi2:TI3) (g2:TG3) (tif2:TT3) (te:TE3) (m:List (Option Nat)):TE3:=λτ G q=>wi τ G λitems stay G1=>∀ D,G1 D=none->qb2 D stay g tif wi2 g2 tif2 te q items (cap m τ) (gu G1 D (.lst []))
section
variable {K:Frg}
def qgb {wi2:TI3} {g2:TG3} {tif2:TT3} {te:TE3} {D:Addr} {N3:St3->Gp->Prop} {N:L2.St->Hp->Prop} {τ:St3} {G:Gp} {σ:L2.St} {H:Hp} {Gb:Gp} {Hb:Hp} (rl:Rel K τ G σ H) (kb:Kp Gb Hb G H) (h:wi2 τ G λitems stay G1=>qhH D stay g2 tif2 te N3 items τ G1)
  (hN:∀ τ' G' σ' H',Rel K τ' G' σ' H'->Kp Gb Hb G' H'->N3 τ' G'->N σ' H'):tIn (lI K wi2) (lG K g2) (lT K tif2) (lE K te) D N σ H:=by
 refine ⟨τ,G,_,rl,h,λitems stay G1 h1 J H1 hr1 k1 ok=>?_⟩;refine ⟨λi n σ' H'=>n=items.length-i/\i<=items.length/\∃ τ' G',Rel K τ' G' σ' H'/\Kp G1 H1 G' H'/\qhH D stay g2 tif2 te N3 (items.drop i) τ' G',⟨_,rfl,Nat.zero_le _,τ,G1,rl.next hr1 k1,Kp.refl,by simpa using h1⟩,?_⟩;rintro i n σ' H' ⟨rfl,hi,τ',G',rl',k',h'⟩;by_cases hlt:i<items.length
 ·rw [List.drop_eq_getElem_cons hlt] at h';obtain ⟨hst,h'⟩:=h';obtain ⟨go,yld,_⟩:=ok G' H' rl'.hp k' hst;have hx:items[i]?=some items[i]:=getElem?_eq_getElem hlt;refine .inr ⟨go i _ hx,λv H2 y=>?_⟩;obtain ⟨rv,hr2,k2⟩:=yld i _ v H2 hx y;refine ⟨_,τ',G',_,rv,rl'.next hr2 k2,h',λτ3 G3 h3 σ3 H3 rl3 k3=>⟨τ3,G3,_,rl3,h3,λk G4 h4 H4 hr4 k4=>?_⟩⟩;have kk:=(k2.trans k3).trans k4;cases k with
  |false=>
   rw [if_neg Bool.false_ne_true] at h4;refine qms ?_;exact ⟨_,by omega,rfl,hlt,τ3,G4,rl3.next hr4 k4,k'.trans kk,h4⟩
  |true=>
   rw [if_pos rfl] at h4;refine qmj ?_;refine ⟨τ3,G4,_,rl3.next hr4 k4,h4,λz G5 h5 w H5 rw5 hr5 k5=>?_⟩;split at h5
   ·rename_i ys e1;obtain ⟨vs,g1,r1⟩:=hr5.lst e1;exact ⟨vs,g1,by rw [← r1.length];exact h5.1,_,by omega,rfl,hlt,τ3,_,((rl3.next hr4 k4).next hr5 k5).next (hr5.wr e1 (r1.append (.cons rw5 .nil))) (Kp.wr e1),((k'.trans kk).trans k5).trans (Kp.wr e1),h5.2⟩
   ·exact h5.elim
 ·have e:i=items.length:=by omega
  subst e;rw [List.drop_length] at h';obtain ⟨_,_,stop⟩:=ok G' H' rl'.hp k' h'.1;exact .inl ⟨stop,hN _ _ _ _ rl' ((kb.trans k1).trans k') h'.2⟩
end
section
variable {X:Cx}
def qmZ {elt tg iter t2 i2:Expr} {ifs f2:List Expr} {scope:Scope} {pos:Pos} (N':List Str) (m:List (Option Nat)) {wi:TI3} {g:TG3} {tif:TT3} {wi2:TI3} {g2:TG3} {tif2:TT3} {te:TE3} (hc:X.calm=true) (hi:I3 X tg iter wi)
  (hg:∀ s H fp,G3 (ql X N' scope s H fp) tg g) (hf:∀ s H fp,F3 (ql X N' scope s H fp) ifs tif) (hi2:∀ s H fp,I3 (ql X N' scope s H fp) t2 i2 wi2) (hg2:∀ s H fp,G3 (ql X N' scope s H fp) t2 g2) (hf2:∀ s H fp,F3 (ql X N' scope s H fp) f2 tif2) (he:∀ s H fp,E3 (ql X N' scope s H fp) elt te)
  (hsc:qag X.env.scope scope=true) (hcap:UG X.N N' scope m=true) (hs:∀ x,foldedSetIterable iter X.env x=pure x:=by intro _;rfl) (hs2:∀ s H fp x,foldedSetIterable i2 (ql X N' scope s H fp).env x=pure x:=by intro _ _ _ _;rfl) :
  E3 X (.ListComp elt [⟨tg,iter,ifs,0⟩,⟨t2,i2,f2,0⟩] scope pos) (qhK wi g tif wi2 g2 tif2 te m):=
 XR (qid (g:=lG X.K g) (tif:=lT X.K tif) (wi2:=lI X.K wi2) (g2:=lG X.K g2) (tif2:=lT X.K tif2) (te:=lE X.K te) hc hi hg hf hi2 hg2 hf2 he hsc hcap hs hs2) λσ H Q ⟨τ,G,q,rl,h,af⟩=>by
  refine ⟨τ,G,_,rl,h,λitems stay G1 h1 J H1 hr1 k1 ok D hD=>?_⟩;have gD:G1 D=none:=hr1.free hD;have h1:=h1 D gD;have hr1':HR X.K (gu G1 D (.lst [])) (upd H1 D (.lst [])):=HR.newL hr1 hD .nil;have k1':Kp G1 H1 (gu G1 D (.lst [])) (upd H1 D (.lst [])):=Kp.newL hD;refine ⟨λi n σ' H'=>n=items.length-i/\i<=items.length/\∃ τ' G',Rel X.K τ' G' σ' H'/\Kp G1 H1 G' H'/\qb2 D stay g tif wi2 g2 tif2 te q (items.drop i) τ' G',
   ⟨_,rfl,Nat.zero_le _,cap m τ,_,((rl.next hr1 k1).cap m).next hr1' k1',k1',by simpa using h1⟩,?_⟩
  rintro i n σ' H' ⟨rfl,hi,τ',G',rl',k',h'⟩;by_cases hlt:i<items.length
  ·rw [List.drop_eq_getElem_cons hlt] at h';obtain ⟨hst,h'⟩:=h';obtain ⟨go,yld,_⟩:=ok G' H' rl'.hp k' hst;have hx:items[i]?=some items[i]:=getElem?_eq_getElem hlt;refine .inr ⟨go i _ hx,λv H2 y=>?_⟩;obtain ⟨rv,hr2,k2⟩:=yld i _ v H2 hx y;refine ⟨_,τ',G',_,rv,rl'.next hr2 k2,h',λτ3 G3 h3 σ3 H3 rl3 k3=>⟨τ3,G3,_,rl3,h3,λk G4 h4 H4 hr4 k4=>?_⟩⟩;have kk:=(k2.trans k3).trans k4;cases k with
   |false=>
    rw [if_neg Bool.false_ne_true] at h4;refine qms ?_;exact ⟨_,by omega,rfl,hlt,τ3,G4,rl3.next hr4 k4,k'.trans kk,h4⟩
   |true=>
    rw [if_pos rfl] at h4;refine qmj ?_;exact qgb (rl3.next hr4 k4) (k'.trans kk) h4 λτ5 G5 σ5 H5 rl5 k5 h5=>⟨_,by omega,rfl,hlt,τ5,G5,rl5,k5,h5⟩
  ·have e:i=items.length:=by omega
   subst e;rw [List.drop_length] at h';obtain ⟨_,_,stop⟩:=ok G' H' rl'.hp k' h'.1;exact .inl ⟨stop,af _ _ h'.2 _ H' (.ref D) rl'.hp (k1.trans k')⟩
def qay {elt tg iter t2 i2:Expr} {ifs f2:List Expr} {scope:Scope} {pos:Pos} (N':List Str) (m:List (Option Nat)) {wi:TI3} {g:TG3} {tif:TT3} {wi2:TI3} {g2:TG3} {tif2:TT3} {te:TE3} (hc:X.calm=true) (hi:jI3 X tg iter wi)
  (hg:∀ s H fp,jG3 (ql X N' scope s H fp) tg g) (hf:∀ s H fp,jF3 (ql X N' scope s H fp) ifs tif) (hi2:∀ s H fp,jI3 (ql X N' scope s H fp) t2 i2 wi2) (hg2:∀ s H fp,jG3 (ql X N' scope s H fp) t2 g2) (hf2:∀ s H fp,jF3 (ql X N' scope s H fp) f2 tif2) (he:∀ s H fp,jE3 (ql X N' scope s H fp) elt te)
  (hsc:qag X.env.scope scope=true) (hcap:UG X.N N' scope m=true) (hs:∀ x,foldedSetIterable iter X.env x=pure x:=by intro _;rfl) (hs2:∀ s H fp x,foldedSetIterable i2 (ql X N' scope s H fp).env x=pure x:=by intro _ _ _ _;rfl) :
  jE3 X (.ListComp elt [⟨tg,iter,ifs,0⟩,⟨t2,i2,f2,0⟩] scope pos) (qhK wi g tif wi2 g2 tif2 te m):=
 ⟨qmZ N' m hc hi.h (λs H fp=>(hg s H fp).h) (λs H fp=>(hf s H fp).h) (λs H fp=>(hi2 s H fp).h) (λs H fp=>(hg2 s H fp).h) (λs H fp=>(hf2 s H fp).h) (λs H fp=>(he s H fp).h) hsc hcap hs hs2⟩
end
section
variable {X:Cx}
def Z5:∀ {its:List Value} {ns:List Int},jk (ns.map V.int) its->IntsAre its ns
 |_,[],h=>by cases h;exact .nil
 |_,n::ns,h=>by
  cases h with
  |cons r t=>
   obtain ⟨k,rfl⟩:=r;exact .cons n k (Z5 t)
end
section
variable {X:Cx} {tg a b c:Expr} {pos:Pos}
end
def Z7 (ns:List Int):Nat:=(firstMet (λi=>ns.getD i 0) ns.length).length
section
variable {X:Cx}
def RM (hc:X.calm=true):J9 X (.type "set") (λxs H Q=>∃ (p:Addr) (ns:List Int),xs=[.ref p]/\SqL X.K H p (ns.map V.int)/\ns.length<4000/\∀ l S,H l=none->Q (.ref l) (upd H l (.set S (Z7 ns)))):=by
 intro pins s σ H xs us Q I r h;obtain ⟨p,ns,rfl,hq,hl,q⟩:=h;obtain ⟨u,rfl,rp⟩:=EY r;cases (show u=Value.ref p from rp);obtain ⟨its,rv,pl,hz⟩:=I.list hq;have hlen:its.length=ns.length:=by have:=rv.length;simp at this;omega
 refine call_set_list (items:=its.toArray) (ns:=ns) (I.ok.hd hc) pl.isList (by simpa using Z5 rv) (by rw [size_toArray];unfold scanBound;omega) λh' tk hs kp=>?_;have e:(its.toArray).size=ns.length:=by rw [size_toArray];exact hlen
 rw [e] at hs;exact ⟨.ref s.heap.objs.size,_,I.laid (t':=tk) (o:=.set (λk'=>(firstMet (λi=>ns.getD i 0) ns.length).any (·==k')) (Z7 ns)) (λb o hb=>kp b o (Heap.lt_size hb) hb) (Nat.le_refl _) hs,rfl,q _ _ (I.hok.fresh (Nat.le_refl _))⟩
def UV:J9 X (.builtin "len") (λxs H Q=>∃ a S n,xs=[.ref a]/\H a=some (.set S n)/\Q (.int n) H):=by
 intro pins s σ H xs us Q I r h;obtain ⟨a,S,n,rfl,ha,q⟩:=h;obtain ⟨u,rfl,rp⟩:=EY r;cases (show u=Value.ref a from rp);obtain ⟨o,es,ep,t,h1,h2,h3,_,_,h6,h7,h8⟩:=(show s.heap.SetOf (intKind X.prog X.w) a S n from I.hok a _ ha)
 refine call_len_set h1 h2 h3 h7 (by unfold scanBound at h6;omega) ⟨.int n,H,I.tok _,⟨_,by rw [h8]⟩,q⟩
def qgP (te:TE3):TE3:=λτ G q=>te τ G λx G1=>match x with
 |.ref p=>(match getL G1 p with|some ys=>(match DG ys with|some ns=>ns.length<4000/\q (.int (Z7 ns)) G1|none=>False)|none=>False)
 |_=>False
def qaD {e:Expr} {te:TE3} {p p2 pos pos2:Pos} (hc:X.calm=true) (hg:Gl X "len") (hm:X.mg "len" = none) (hg2:Gl X "set") (hm2:X.mg "set" = none) (he:jE3 X e te)
  (h1:starEach [e] X.env=(false,eval e X.env)::starEach [] X.env:=by rfl) (h2:starEach [.Call (.Name "set" p2) [e] [] pos2] X.env=(false,eval (.Call (.Name "set" p2) [e] [] pos2) X.env)::starEach [] X.env:=by rfl)
  (h3:(backTo pos (starEach [] X.env)).any (·.1)=false:=by rfl) (h4:(backTo pos2 (starEach [] X.env)).any (·.1)=false:=by rfl):jE3 X (.Call (.Name "len" p) [.Call (.Name "set" p2) [e] [] pos2] [] pos) (qgP te):=
 ⟨XR (R8 UV hg hm PySem.boot_len (WP (XD (RM hc) hg2 hm2 (show bootBuiltins "set" = some (.type "set") by decide +kernel) (WP he.h T4 h1) (he:=h1) (hpl:=h4)) T4 h2) (he:=h2) (hpl:=h3)) λ_ _ _ ⟨τ,G,q,rl,h,af⟩=>jo rl h λx G1 h1 v H1 rx hr1 k1 rl1=>by
  split at h1
  ·rename_i l;cases rx;split at h1
   ·rename_i ys e0;split at h1
    ·rename_i ns e1;obtain ⟨us,hs,r2⟩:=jg hr1 e0;have:=ZD e1;subst this;have:=ZC r2;subst this;exact ⟨l,ns,rfl,hs,h1.1,λa S ha=>⟨a,S,_,rfl,zf,af _ _ h1.2 _ _ (.int _) (HR.laid hr1 ha) (k1.trans (Kp.laid ha))⟩⟩
    ·exact h1.elim
   ·exact h1.elim
  ·exact h1.elim⟩
end
section
variable {X:Cx} {a b:Expr} {ta tb:TE3} {pos:Pos}
end
end L3
namespace HT
open PySem PySem.Spec PyProof.Rows
section
variable {prog:Program} {w:World} {A:Around} {E:Value->Shared->Prop} {s:Shared}
end
end HT
namespace L3
open PySem PySem.Spec PyProof.Rows L2
section
variable {X:Cx} {e ek:Expr} {p2 pos:Pos}
end
section
variable {X:Cx} {a b:Expr} {ta tb:TE3} {pos:Pos}
end
abbrev Rd (sp:Sp3) (n:Nat) (t:TS3) (N:List Str):Prop:=∀ ts G q,sp ts G q->ts.length=n/\t { nx:=λ_ G'=>q .non G',rt:=q } (qu N ts) G
def jgn {pos:Pos} {X:Cx} {x:Str} (i:Nat) (hN:decide X.N.Nodup=true:=by kernel_rfl) (hi:X.N[i]?=some x:=by rfl) (hx:Loc X.env.scope x:=by first|exact Or.inl rfl|exact Or.inr rfl) (hf:X.fn x=true\/X.env.scope.names.lookup x=some .local:=by first|exact .inl rfl|exact .inr rfl):jG3 X (.Name x pos) (gn3 i):=
 qo (of_decide_eq_true hN) hi hx hf
end L3
namespace L2
open PySem PySem.Spec PyProof.Rows
section
variable {X:Cx} {pos:Pos}
end
end L2
namespace L3
open PySem PySem.Spec PyProof.Rows L2
section
variable {X:Cx} {pos:Pos}
end
end L3
namespace HT
open PySem PyProof.Rows
section
variable {prog:Program} {w:World} {A:Around} {E:Value->Shared->Prop} {s:Shared}
abbrev oS (led:Bool):Obj:={ cls:=.type "set",dict:=none,data:=.set #[] 0 (.fresh 0 0 led) }
def sI (ns:List Int) (k:Int):Bool:=(firstMet (λi=>ns.getD i 0) ns.length).any (·==k)
def nI (ns:List Int):Nat:=(firstMet (λi=>ns.getD i 0) ns.length).length
def qc4 {l:Addr} {vs:Array Value} {ns:List Int} {led:Bool} {Q:PySem.Fin->Shared->Prop} {E':Value->Shared->Prop} (hh:A.handled=none) (hl:s.heap.IsTuple l vs) (hi:IntsAre vs.toList ns) (hb:vs.size+1<scanBound)
  (h:∀ h' tk,h'.SetOf (intKind prog w) s.heap.objs.size (sI ns) (nI ns)->(∀ b o,b<s.heap.objs.size->s.heap.get? b=some o->h'.get? b=some o)->wpAny (model prog w) A (ret Value.none) Q E' { s with heap:=h',toks:=tk }) :
  wpAny (model prog w) A (Builtin.«set.__init__» ⟨[.ref s.heap.objs.size,.ref l],[]⟩) Q E' { s with heap:=s.heap.push (oS led) }:=by
 obtain ⟨⟨oc,od,da,os⟩,hg,hc,nl,hd⟩:=id hl;simp only at hc hd;subst hc hd;have hS:(s.heap.push (oS led)).get? s.heap.objs.size=some (oS led):=Heap.get?_push_size _ rfl;have hg':(s.heap.push (oS led)).get? l=some { cls:=.type "tuple",dict:=od,data:=.seq vs nl,slots:=os }:=Heap.get?_push_of_some _ hg;have h1:=F.sub_tuple_set;have h2:=F.sub_tuple_frozenset;have ne:(Value.type "tuple" == Value.type "dict")=false:=by decide
 have hl1:=hl.push (oS led);unfold Builtin.«set.__init__» noKeywords Builtin.Frozenset.updateFrom;generalize hPI:pyIter=PI
 wp_walk
 subst hPI;refine wpAny_pyIter_tuple hl1 ?_;refine wpAny_bind (wpAny_runValue ?_);have ll:l<s.heap.objs.size:=Heap.lt_size hg;have sz:(s.heap.push (oS led)).objs.size=s.heap.objs.size+1:=Heap.size_push ..;have z:=hi.length;have ez:vs.size=ns.length:=by rw [← z];simp
 refine codeAny_set_update_loopS ((Walks.tuple (show A.in1.handled=none by simp [hh]) (s.heap.push (oS led)).objs.size l (by rw [sz];exact Nat.ne_of_lt (Nat.lt_succ_of_lt ll)) vs).toS) s.heap.objs.size
  (by rw [sz];simp only [mem_cons,not_mem_nil,or_false,not_or];exact ⟨Nat.ne_of_lt (Nat.lt_succ_self _),Nat.ne_of_gt ll⟩)
  (λi=>ns.getD i 0) (λi v hv=>IntsAre.int_at hi i v (by rw [Array.getElem?_toList];exact hv)) hb vs.size 0 _ rfl (Nat.zero_le _) ⟨⟨_,Heap.get?_push_size _ rfl,rfl,rfl⟩,hl1.push _⟩ ?_ ?_
 ·exact SetOf_congr ((setObjOf_fresh (knd:=intKind prog w) led).setOf (Heap.get?_push_of_some _ hS) (by unfold scanBound;omega)) (λ_=>rfl) rfl
 ·rintro ⟨h',g',d',tk',os'⟩ hm hS';obtain rfl:g'=s.gens:=hm.gens;obtain rfl:d'=s.drawn:=hm.drawn;obtain rfl:os'=s.os:=hm.os;show wpAny _ _ _ _ _ _;refine wpAny_pure (h h' tk' ?_ λb o hb e=>?_)
  ·rw [ez] at hS';exact hS'
  ·refine hm.heap b o ?_ (Heap.get?_push_of_some _ (Heap.get?_push_of_some _ e));rw [sz];simp only [mem_cons,not_mem_nil,or_false,not_or];exact ⟨Nat.ne_of_lt hb,Nat.ne_of_lt (Nat.lt_succ_of_lt hb)⟩
def TK {l:Addr} {vs:Array Value} {ns:List Int} {Q:Value->Shared->Prop} (hh:A.handled=none) (hl:s.heap.IsTuple l vs) (hi:IntsAre vs.toList ns) (hb:vs.size+1<scanBound)
  (h:∀ h' tk,h'.SetOf (intKind prog w) s.heap.objs.size (sI ns) (nI ns)->(∀ b o,b<s.heap.objs.size->s.heap.get? b=some o->h'.get? b=some o)->Q (.ref s.heap.objs.size) { s with heap:=h',toks:=tk }) :
  wpAny (model prog w) A (call (.type "set") [.ref l]) Q E s:=by
 have C:=F.called_set;obtain ⟨c,tl,m1⟩:=C.mro;have m2:=C.made;have m3:=C.sub;have m4:=C.notType;have m5:=C.canCreate;have m6:=F.typeCall_set_1 (.ref l);refine wpAny_call (codeAny_of_tree ?_);show wpAny _ _ (callAny (.type "set") _) _ _ _;refine wpAny_pure ⟨Code.quiet_builtin _ (by decide +kernel),codeAny_builtin F.entry_type_call ?_⟩;rw [Around.under_plain (weight_type_call_type "set" [.ref l] []) rfl]
 repeat (any_goals (first|assumption|wp_step))
 refine codeAny_mono (code_set_new_1 (.ref l) (E:=E) (Q₁:=λv s₁=>∃ led,v=.ref s.heap.objs.size/\s₁={ s with heap:=s.heap.push (oS led) }) λled=>⟨led,rfl,rfl⟩) λr s₁ hr=>?_;rcases r with e|f
 ·exact hr
 cases f<;>try exact hr.elim
 obtain ⟨led,rfl,rfl⟩:=hr;have hT:Shared.TypeIs { s with heap:=s.heap.push (oS led) } (.ref s.heap.objs.size) "set" := ⟨_,Heap.get?_push_size _ rfl,rfl⟩
 have n1:=C.init.lookup;have n2:=C.init.bind (.ref s.heap.objs.size)
 repeat (any_goals (first|assumption|wp_step))
 refine codeAny_mono (codeAny_call_builtin (R:=wants (λr s₂=>r=.none/\∃ h' tk,s₂={ s with heap:=h',toks:=tk }/\h'.SetOf (intKind prog w) s.heap.objs.size (sI ns) (nI ns)/\∀ b o,b<s.heap.objs.size->s.heap.get? b=some o->h'.get? b=some o) E) C.init.plain F.entry_set_init (check_set_init_1 hT (qc4 (by simp [hh]) hl hi hb λh' tk hS hk=>wpAny_pure ⟨rfl,h',tk,rfl,hS,hk⟩))) λr₂ s₂ hr₂=>?_;rcases r₂ with e|f
 ·exact hr₂
 cases f<;>try exact hr₂.elim
 obtain ⟨rfl,h',tk,rfl,hS,hk⟩:=hr₂
 repeat (any_goals (first|assumption|wp_step))
 exact h _ _ hS hk
end
end HT
namespace L3
open PySem PySem.Spec PyProof.Rows L2
section
variable {X:Cx}
def CA (hc:X.calm=true):J9 X (.type "set") (λxs H Q=>∃ (p:Addr) (ns:List Int),xs=[.ref p]/\SqT X.K H p (ns.map V.int)/\ns.length<4000/\∀ l S,H l=none->Q (.ref l) (upd H l (.set S (Z7 ns)))):=by
 intro pins s σ H xs us Q I r h;obtain ⟨p,ns,rfl,hq,hl,q⟩:=h;obtain ⟨u,rfl,rp⟩:=EY r;cases (show u=Value.ref p from rp);obtain ⟨its,rv,pl,hz⟩:=I.tuple hq;have hlen:its.length=ns.length:=by have:=rv.length;simp at this;omega
 refine HT.TK (vs:=its.toArray) (ns:=ns) (I.ok.hd hc) pl (by simpa using Z5 rv) (by rw [size_toArray];unfold scanBound;omega) λh' tk hs kp=>?_;exact ⟨.ref s.heap.objs.size,_,I.laid (t':=tk) (o:=.set (HT.sI ns) (Z7 ns)) (λb o hb=>kp b o (Heap.lt_size hb) hb) (Nat.le_refl _) hs,rfl,q _ _ (I.hok.fresh (Nat.le_refl _))⟩
def MQ (te:TE3):TE3:=λτ G q=>te τ G λx G1=>match x with
 |.tup ys=>(match DG ys with|some ns=>ns.length<4000/\q (.int (Z7 ns)) G1|none=>False)
 |_=>False
def NM {e:Expr} {te:TE3} {p p2 pos pos2:Pos} (hc:X.calm=true) (hg:Gl X "len") (hm:X.mg "len" = none) (hg2:Gl X "set") (hm2:X.mg "set" = none) (he:jE3 X e te)
  (h1:starEach [e] X.env=(false,eval e X.env)::starEach [] X.env:=by rfl) (h2:starEach [.Call (.Name "set" p2) [e] [] pos2] X.env=(false,eval (.Call (.Name "set" p2) [e] [] pos2) X.env)::starEach [] X.env:=by rfl)
  (h3:(backTo pos (starEach [] X.env)).any (·.1)=false:=by rfl) (h4:(backTo pos2 (starEach [] X.env)).any (·.1)=false:=by rfl):jE3 X (.Call (.Name "len" p) [.Call (.Name "set" p2) [e] [] pos2] [] pos) (MQ te):=
 ⟨XR (R8 UV hg hm PySem.boot_len (WP (XD (CA hc) hg2 hm2 (show bootBuiltins "set" = some (.type "set") by decide +kernel) (WP he.h T4 h1) (he:=h1) (hpl:=h4)) T4 h2) (he:=h2) (hpl:=h3)) λ_ _ _ ⟨τ,G,q,rl,h,af⟩=>jo rl h λx G1 h1 v H1 rx hr1 k1 rl1=>by
  split at h1
  ·rename_i ys;split at h1
   ·rename_i ns e1;have:=ZD e1;subst this;cases rx with
    |tup hs r2=>
     have:=ZC r2;subst this;exact ⟨_,ns,rfl,hs,h1.1,λa S ha=>⟨a,S,_,rfl,zf,af _ _ h1.2 _ _ (.int _) (HR.laid hr1 ha) (k1.trans (Kp.laid ha))⟩⟩
   ·exact h1.elim
  ·exact h1.elim⟩
end
section
variable {X:Cx} {K:Frg} {w:World} {mg:Str->Option Value}
inductive Ents (K:Frg) (w:World):List DictEntry->List (Str×T)->Prop
 |nil:Ents K w [] []
 |cons {x:Str} {tk:Tok} {u:Value} {v:V} {t:T} {es:List DictEntry} {tab:List (Str×T)}:jJ v u->(∀ H,Rp K H t v)->Ents K w es tab->Ents K w (⟨PyData.keyHash w.params x,.str x tk,u⟩::es) ((x,t)::tab)
def jK:List (Str×T)->Str->Option T
 |[],_=>none
 | (y,t)::r,x=>if y=x then some t else jK r x
structure Tb (K:Frg) (mg:Str->Option Value) (w:World) (x:Str) (tab:List (Str×T)):Prop where
 at_:∃ (d:Addr) (es:Array DictEntry) (ep:Nat),mg x=some (.ref d)/\K.lookup d=some ⟨.type "dict",none,.dict es ep,#[]⟩/\(d==sysModules)=false/\Ents K w es.toList tab
def Ents.keys {P:Program}:∀ {es:List DictEntry} {tab:List (Str×T)},Ents K w es tab->∀ e∈es,∃ k,(PySem.strKind P w).is k e.key=true/\e.hash=(PySem.strKind P w).hash k
 |_,_,.nil,e,h=>by cases h
 |_,_,.cons (x:=x) a b t,e,h=>by
  rcases mem_cons.mp h with rfl|h
  ·exact ⟨x,by show (x==x)=true;simp,rfl⟩
  ·exact Ents.keys t e h
def Ents.find:∀ {es:List DictEntry} {tab:List (Str×T)} (x:Str),Ents K w es tab ->
    (match jK tab x with
     |some t=>∃ (u:Value) (v:V),(es.find? λe=>Value.isStrOf x e.key).map (·.val)=some u/\jJ v u/\∀ H,Rp K H t v
     |none=>(es.find? λe=>Value.isStrOf x e.key).map (·.val)=none)
  |_,_,x,.nil=>by simp [jK]
  |_,_,x,.cons (x:=y) (tk:=tk) (u:=u) (v:=v) (t:=t) (es:=es) (tab:=tab) a b r=>by
    by_cases e:y=x
    · have:Value.isStrOf x (Value.str y tk)=true:=by show (y==x)=true;simp [e]
      simp only [jK,e,if_true,List.find?_cons,this];subst e;simp only [this];exact ⟨u,v,rfl,a,b⟩
    · have:Value.isStrOf x (Value.str y tk)=false:=by show (y==x)=false;simp [e]
      have ih:=Ents.find x r;simp only [jK,e,if_false,List.find?_cons,this];exact ih
def Ents.map {P:Program} {h:Heap} {d:Addr} {es:Array DictEntry} {ep:Nat} {tab:List (Str×T)} (hd:h.get? d=some ⟨.type "dict",none,.dict es ep,#[]⟩) (en:Ents K w es.toList tab) :
  Heap.MapOf (PySem.strKind P w) h d (λx=>findBy Value.isStrOf es x):=
 ⟨_,es,ep,hd,⟨rfl,rfl,rfl⟩,rfl,λe he=>en.keys e (by simpa using he),λ_=>rfl⟩
def qpU (K:Frg) (d:Addr) (tab:List (Str×T)):R2:=λx y H Q=>x=.ref d/\∃ s t,y=.str s/\jK tab s=some t/\∀ v,Rp K H t v->Q v H
def qkz {d:Addr} {es:Array DictEntry} {ep:Nat} {tab:List (Str×T)} (hk:X.K.lookup d=some ⟨.type "dict",none,.dict es ep,#[]⟩) (en:Ents X.K X.w es.toList tab):IxR X (qpU X.K d tab):=by
 intro value slice pins s σ H x y v u Q I rx ry h hs;obtain ⟨rfl,z,t,rfl,ht,q⟩:=h;cases rx;obtain ⟨tk,rfl⟩:=ry;have hd:=I.kIn _ _ hk;have f:=en.find z;rw [ht] at f;obtain ⟨u,v,hf,rv,rp⟩:=f;have hf':findBy Value.isStrOf es z=some u:=by
  unfold findBy;rw [← Array.find?_toList];exact hf
 refine subscriptTail_builtinR (x:=u) ⟨_,hd,rfl⟩ PySem.F.slot_dict_getitem.lookup (wpAny_getItem_of (knd:=PySem.strKind X.prog X.w) (Q:=λr s'=>r=u/\EP X pins σ Q r s') (k:=z) (by show (z==z)=true;simp) (en.map hd) hf' ⟨rfl,v,H,I.tok _,rv,q v (rp H)⟩) hs
def qcC (tab:List (Str×T)) (te:TE3):TE3:=λτ G q=>te τ G λx G1=>match x with|.str s=>(match jK tab s with|some t=>q t G1|none=>False)|_=>False
def qfO {x:Str} {e:Expr} {te:TE3} {tab:List (Str×T)} {p1 pos:Pos} (tb:Tb X.K X.mg X.w x tab) (hg:Gl X x) (he:jE3 X e te) (hs:EQ e) (hd:(x==("__debug__" : Str))=false:=by decide):jE3 X (.Subscript (.Name x p1) e pos) (qcC tab te):=by
 obtain ⟨d,es,ep,hm,hk,hn,en⟩:=tb.at_;exact ⟨XR (qh6 (qkz hk en) (qgH hg hm (v:=.ref d) rfl hd) he.h hs) λ_ _ _ ⟨τ,G,q,rl,h,af⟩=>jo rl h λy G1 h1 v H1 rx hr1 k1 rl1=>by
  cases y<;>try exact h1.elim
  case str z=>
   cases rx;unfold qcC at h;simp only at h1;split at h1
   ·rename_i t ht;exact ⟨rfl,z,t,rfl,ht,λv rv=>af.back k1 _ _ h1 _ _ rv hr1 Kp.refl⟩
   ·exact h1.elim⟩
def UL (hc:X.calm=true):J9 X (.builtin "min") (λxs H Q=>∃ (p:Addr) (ns:List Int),xs=[.ref p]/\SqL X.K H p (ns.map V.int)/\ns≠[]/\∀ m∈ns,(∀ a∈ns,m<=a)->Q (.int m) H):=by
 intro pins s σ H xs us Q I r h;obtain ⟨p,ns,rfl,hq,hne,q⟩:=h;obtain ⟨u,rfl,rp⟩:=EY r;cases (show u=Value.ref p from rp);obtain ⟨its,rv,pl,hz⟩:=I.list hq;have hlen:its.length=ns.length:=by have:=rv.length;simp at this;omega
 have hpos:0<ns.length:=List.length_pos_iff.mpr hne;have hp:p<s.heap.objs.size:=by obtain ⟨o,n,e,_⟩:=pl;exact Heap.lt_size e
 have vals:∀ (i:Nat) (v:Value),its.toArray[i]?=some v->∃ t,v=Value.int (ns.getD i 0) t:=λi v hv=>by
  have hv':its[i]?=some v:=by simpa using hv
  obtain ⟨hi,_⟩:=List.getElem?_eq_some_iff.mp hv';have hi':i<ns.length:=by omega
  obtain ⟨u,hu,ru⟩:=rv.get (i:=i) (show (ns.map V.int)[i]?=some (V.int (ns[i])) by simp [hi']);rw [hv'] at hu;cases hu;obtain ⟨t,rfl⟩:=ru;exact ⟨t,by show Value.int ns[i] t=Value.int (ns.getD i 0) t;rw [getD_eq_getElem?_getD,getElem?_eq_getElem hi'];rfl⟩
 refine call_min_walk (wpAny_pyIter_list pl.isList ⟨s.heap.objs.size,_,_,_,_,_,_,rfl,Walks.list (A:=X.A.in1) (show X.A.in1.handled=none from I.ok.hd hc) s.heap.objs.size p (Nat.ne_of_lt hp) its.toArray,⟨⟨_,Heap.get?_push_size _ rfl,rfl,rfl⟩,?_⟩,λb hb=>?_,by rw [size_toArray];omega,CmpOf.ints_lt (λi=>ns.getD i 0) vals,λv h' tk hP hk=>?_⟩)
 ·obtain ⟨o,n,e,c,_,d⟩:=pl;exact ⟨o,Heap.get?_push_of_some _ e,c,n,d⟩
 ·have lt1:∀ n c:Nat,c<n->c<n+1:=λn c h=>by omega
  rw [show (({ s with heap:=s.heap.push _ }:Shared).heap.objs.size)=s.heap.objs.size+1 from Heap.size_push ..];simp only [mem_cons,not_mem_nil,or_false] at hb;rcases hb with rfl|rfl
  ·exact Nat.lt_succ_self _
  ·exact lt1 _ _ hp
 ·obtain ⟨b1,b2⟩:=argBest_lt (λi=>ns.getD i 0) (its.toArray.size-1);obtain ⟨t,rfl⟩:=vals _ _ hP;rw [size_toArray] at b1 b2 ⊢;have gd:∀ j,j<ns.length->ns.getD j 0∈ns:=λj hj=>by rw [getD_eq_getElem?_getD,getElem?_eq_getElem hj];exact List.getElem_mem hj
  refine ⟨.int _,H,I.kept (h':=h') (t':=tk) λb o e=>hk b o (by simp;exact Nat.ne_of_lt (Heap.lt_size e)) (Heap.get?_push_of_some _ e),⟨_,rfl⟩,q _ (gd _ (by omega)) λa ha=>?_⟩;obtain ⟨j,hj,rfl⟩:=List.mem_iff_getElem.mp ha;have:=b2 j (by omega);have e:ns.getD j 0=ns[j]:=by rw [getD_eq_getElem?_getD,getElem?_eq_getElem hj];rfl
  rw [e] at this;exact this
def TW:List T->Gp->Q3->Prop:=λxs G q=>match xs with
 |[.ref p]=>(match getL G p with|some ys=>(match DG ys with|some ns=>ns≠[]/\∀ m∈ns,(∀ a∈ns,m<=a)->q (.int m) G|none=>False)|none=>False)
 |_=>False
def D9 {K:Frg}:ML K TW (λxs H Q=>∃ (p:Addr) (ns:List Int),xs=[.ref p]/\SqL K H p (ns.map V.int)/\ns≠[]/\∀ m∈ns,(∀ a∈ns,m<=a)->Q (.int m) H):=λxs vs G H q Q hr rs h af=>by
 unfold TW at h;split at h
 ·rename_i p;obtain ⟨v,rfl,r⟩:=TJ rs;cases r;split at h
  ·rename_i ys e0;split at h
   ·rename_i ns e1;obtain ⟨us,hs,r2⟩:=jg hr e0;have:=ZD e1;subst this;have:=ZC r2;subst this;exact ⟨p,ns,rfl,hs,h.1,λm hm ha=>af _ _ (h.2 m hm ha) _ _ (.int _) hr Kp.refl⟩
   ·exact h.elim
  ·exact h.elim
 ·exact h.elim
def U3 (hc:X.calm=true):J9 X (.builtin "max") (λxs H Q=>∃ (p:Addr) (ns:List Int),xs=[.ref p]/\SqL X.K H p (ns.map V.int)/\ns≠[]/\∀ m∈ns,(∀ a∈ns,a<=m)->Q (.int m) H):=by
 intro pins s σ H xs us Q I r h;obtain ⟨p,ns,rfl,hq,hne,q⟩:=h;obtain ⟨u,rfl,rp⟩:=EY r;cases (show u=Value.ref p from rp);obtain ⟨its,rv,pl,hz⟩:=I.list hq;have hlen:its.length=ns.length:=by have:=rv.length;simp at this;omega
 have hpos:0<ns.length:=List.length_pos_iff.mpr hne;have hp:p<s.heap.objs.size:=by obtain ⟨o,n,e,_⟩:=pl;exact Heap.lt_size e
 have vals:∀ (i:Nat) (v:Value),its.toArray[i]?=some v->∃ t,v=Value.int (ns.getD i 0) t:=λi v hv=>by
  have hv':its[i]?=some v:=by simpa using hv
  obtain ⟨hi,_⟩:=List.getElem?_eq_some_iff.mp hv';have hi':i<ns.length:=by omega
  obtain ⟨u,hu,ru⟩:=rv.get (i:=i) (show (ns.map V.int)[i]?=some (V.int (ns[i])) by simp [hi']);rw [hv'] at hu;cases hu;obtain ⟨t,rfl⟩:=ru;exact ⟨t,by show Value.int ns[i] t=Value.int (ns.getD i 0) t;rw [getD_eq_getElem?_getD,getElem?_eq_getElem hi'];rfl⟩
 refine call_max_walk (wpAny_pyIter_list pl.isList ⟨s.heap.objs.size,_,_,_,_,_,_,rfl,Walks.list (A:=X.A.in1) (show X.A.in1.handled=none from I.ok.hd hc) s.heap.objs.size p (Nat.ne_of_lt hp) its.toArray,⟨⟨_,Heap.get?_push_size _ rfl,rfl,rfl⟩,?_⟩,λb hb=>?_,by rw [size_toArray];omega,CmpOf.ints_gt (λi=>ns.getD i 0) vals,λv h' tk hP hk=>?_⟩)
 ·obtain ⟨o,n,e,c,_,d⟩:=pl;exact ⟨o,Heap.get?_push_of_some _ e,c,n,d⟩
 ·have lt1:∀ n c:Nat,c<n->c<n+1:=λn c h=>by omega
  rw [show (({ s with heap:=s.heap.push _ }:Shared).heap.objs.size)=s.heap.objs.size+1 from Heap.size_push ..];simp only [mem_cons,not_mem_nil,or_false] at hb;rcases hb with rfl|rfl
  ·exact Nat.lt_succ_self _
  ·exact lt1 _ _ hp
 ·obtain ⟨b1,b2⟩:=argBest_gt (λi=>ns.getD i 0) (its.toArray.size-1);obtain ⟨t,rfl⟩:=vals _ _ hP;rw [size_toArray] at b1 b2 ⊢;have gd:∀ j,j<ns.length->ns.getD j 0∈ns:=λj hj=>by rw [getD_eq_getElem?_getD,getElem?_eq_getElem hj];exact List.getElem_mem hj
  refine ⟨.int _,H,I.kept (h':=h') (t':=tk) λb o e=>hk b o (by simp;exact Nat.ne_of_lt (Heap.lt_size e)) (Heap.get?_push_of_some _ e),⟨_,rfl⟩,q _ (gd _ (by omega)) λa ha=>?_⟩;obtain ⟨j,hj,rfl⟩:=List.mem_iff_getElem.mp ha;have:=b2 j (by omega);have e:ns.getD j 0=ns[j]:=by rw [getD_eq_getElem?_getD,getElem?_eq_getElem hj];rfl
  rw [e] at this;exact this
def SQ:List T->Gp->Q3->Prop:=λxs G q=>match xs with
 |[.ref p]=>(match getL G p with|some ys=>(match DG ys with|some ns=>ns≠[]/\∀ m∈ns,(∀ a∈ns,a<=m)->q (.int m) G|none=>False)|none=>False)
 |_=>False
def D8 {K:Frg}:ML K SQ (λxs H Q=>∃ (p:Addr) (ns:List Int),xs=[.ref p]/\SqL K H p (ns.map V.int)/\ns≠[]/\∀ m∈ns,(∀ a∈ns,a<=m)->Q (.int m) H):=λxs vs G H q Q hr rs h af=>by
 unfold SQ at h;split at h
 ·rename_i p;obtain ⟨v,rfl,r⟩:=TJ rs;cases r;split at h
  ·rename_i ys e0;split at h
   ·rename_i ns e1;obtain ⟨us,hs,r2⟩:=jg hr e0;have:=ZD e1;subst this;have:=ZC r2;subst this;exact ⟨p,ns,rfl,hs,h.1,λm hm ha=>af _ _ (h.2 m hm ha) _ _ (.int _) hr Kp.refl⟩
   ·exact h.elim
  ·exact h.elim
 ·exact h.elim
end
inductive Cv:List Str->List V->List (Value×Value)->Prop
 |nil:Cv [] [] []
 |cons {k:Str} {tk:Tok} {v:V} {u:Value} {ks:List Str} {xs:List V} {vs:List (Value×Value)}:jJ v u->Cv ks xs vs->Cv (k::ks) (v::xs) ((.str k tk,u)::vs)
structure jD3 (X:Cx) (keys:List (Option Expr)) (values:List Expr) (ks:List Str) (t:TA3):Prop where
 h:∀ (pos:Pos) (pins:List (Addr×Obj)) (s:Shared) (σ:L2.St) (H:Hp) (Q:List V->Hp->Prop),Inv X pins σ H s->lA X.K t σ H Q ->
  wpAny (model X.prog X.w) X.A (evalPairs (pairTrees keys values X.env pos)) (λvs s'=>∃ xs H',Inv X pins σ H' s'/\Cv ks xs vs/\Q xs H') X.xe s
 len:keys.length=values.length
 all:(keys.all λx=>x.isSome)=true
section
variable {X:Cx}
def qkf:jD3 X [] [] [] qi:=
 ⟨λpos pins s σ H Q I ⟨τ,G,q,rl,h,af⟩=>by
  show wpAny _ _ (evalPairs []) _ _ _;exact wpAny_pure ⟨[],H,I,.nil,af _ _ h _ _ .nil rl.hp Kp.refl⟩,rfl,rfl⟩
def XF {k:Str} {j:Nat} {kp:Pos} {v:Expr} {tv:TE3} {keys:List (Option Expr)} {values:List Expr} {ks:List Str} {t:TA3} (hv:jE3 X v tv) (r:jD3 X keys values ks t) :
  jD3 X (some (.Constant (.str k) j kp)::keys) (v::values) (k::ks) (qc tv t):=
 ⟨λpos pins s σ H Q I ⟨τ,G,q,rl,h,af⟩=>by
  show wpAny _ _ (evalPairs ((eval (.Constant (.str k) j kp) X.env,do let x←eval v X.env;standAt pos;pure x)::pairTrees keys values X.env pos)) _ _ _;refine evalPairs_cons (thn (qd8 (X:=X) (x:=k) (j:=j) (pos:=kp) pins s σ H (λy H'=>y=.str k/\H'=H) I ⟨rfl,rfl⟩) λkv s1 ⟨y,H1,I1,ry,ey,eH⟩=>?_);subst ey;subst eH;obtain ⟨tk,rfl⟩:=ry;refine wpAny_bind (thn (hv.h pins s1 σ H1 (λx H2=>lA X.K t σ H2 λxs H3=>Q (x::xs) H3) I1 (jo rl h λx G1 h1 v H2 rx hr1 k1 rl1=>⟨τ,G1,_,rl1,h1,λxs G2 h2 vs H3 rs hr2 k2=>af _ _ h2 _ _ (.cons (rx.keep hr1 k2) rs) hr2 (k1.trans k2)⟩)) λu s2 ⟨x,H2,I2,rx,q2⟩=>?_);refine wpAny_bind (wpAny_standAt (wpAny_pure ?_));exact thn (r.h pos pins s2 σ H2 _ I2 q2) λvs s3 ⟨xs,H3,I3,cv,q3⟩=>⟨x::xs,H3,I3,.cons rx cv,q3⟩,by simp [r.len],by simpa using r.all⟩
def Cv.carries {P:Program} {w:World}:∀ {ks:List Str} {xs:List V} {vs:List (Value×Value)},Cv ks xs vs->Carries (PySem.strKind P w) vs (ks.zip (vs.map (·.2)))
 |_,_,_,.nil=>True.intro
 |_,_,_,.cons (k:=k) r t=>⟨by show (k==k)=true;simp,rfl,t.carries⟩
def Cv.len:∀ {ks:List Str} {xs:List V} {vs:List (Value×Value)},Cv ks xs vs->ks.length=vs.length
 |_,_,_,.nil=>rfl
 |_,_,_,.cons _ t=>by simp [t.len]
def qcM:List Str->List V->Str->Option V
 |k::ks,v::vs,x=>if k=x then some v else qcM ks vs x
 |_,_,_=>none
def Cv.get:∀ {ks:List Str} {xs:List V} {vs:List (Value×Value)} {x:Str} {v:V},Cv ks xs vs->qcM ks xs x=some v->∃ u,valueAt (ks.zip (vs.map (·.2))) x=some u/\jJ v u
 |_,_,_,x,v,.nil,h=>by simp [qcM] at h
 |_,_,_,x,v,.cons (k:=k) (u:=u) r t,h=>by
  by_cases e:k=x
  ·simp [qcM,e] at h;subst h;exact ⟨u,by simp [valueAt,e],r⟩
  ·simp [qcM,e] at h;obtain ⟨u',h1,h2⟩:=Cv.get t h;exact ⟨u',by simpa [valueAt,e] using h1,h2⟩
def qmO (ks:List Str) (tv:TA) (te:TE):TE:=λσ H Q=>tv σ H λxs H1=>te σ H1 λy H2=>∃ k v,y=.str k/\qcM ks xs k=some v/\Q v H2
def qfV {keys:List (Option Expr)} {values:List Expr} {ks:List Str} {t:TA3} {e:Expr} {te:TE} {p1 pos:Pos} (hd:jD3 X keys values ks t) (he:PE X e te) (hs:EQ e) (nd:ks.Nodup) (ne:keys≠[]) (h15:keys.length<=15) :
  PE X (.Subscript (.Dict keys values p1) e pos) (qmO ks (lA X.K t) te):=by
 intro pins s σ H Q I hl;refine Subscript_ ?_;refine wpAny_Dict_walk (knd:=PySem.strKind X.prog X.w) hd.all hd.len ne h15 ?_;have hsz:=I.sz;have hlt:=I.lt;have I0:Inv X pins σ H { s with heap:=s.heap.push { cls:=.type "dict",data:=.dict #[] } }:=I.kept (t':=s.toks) λb o e=>Heap.get?_push_of_some _ e;have ok0:H s.heap.objs.size=none/\s.heap.objs.size≠X.env.locals/\s.heap.objs.size∉X.fs:=⟨I.fresh,λz=>Nat.lt_irrefl _ (z▸hlt),I.nofs (Nat.le_refl _)⟩
 have hcell:∀ x c,X.env.cells.lookup x=some c->c≠s.heap.objs.size:=λx c e z=>by
  obtain ⟨v,o,ho,_⟩:=I.cell x c e;have:=Heap.lt_size ho;rw [z] at this;exact Nat.lt_irrefl _ this
 have hpin:∀ p∈X.pn++pins,p.1≠s.heap.objs.size:=λp hp z=>by
  have:=Heap.lt_size (I.pin p hp).1;rw [z] at this;exact Nat.lt_irrefl _ this
 have Ip:Inv X (pins++[(s.heap.objs.size,{ cls:=.type "dict",data:=.dict #[] })]) σ H { s with heap:=s.heap.push { cls:=.type "dict",data:=.dict #[] } }:=I0.pins_of λp hp=>by
  rcases List.mem_append.mp hp with z|z
  ·exact I0.pin p (mem_append_right _ z)
  ·simp only [List.mem_singleton] at z;subst z;exact ⟨Heap.get?_push_size _ rfl,ok0.1,ok0.2.1,ok0.2.2,λv=>by simp⟩
 refine thn (hd.h p1 _ _ σ H _ Ip hl) λvs s1 ⟨xs,H1,I1,cv,q1⟩=>?_;have p1':=I1.pin (s.heap.objs.size,{ cls:=.type "dict",data:=.dict #[] }) (by simp);have hkeys:(List.map (λx=>x.fst) (ks.zip (vs.map (·.2))))=ks:=by
  have:=cv.len;rw [List.map_fst_zip (by simp;omega)]
 refine ⟨ks.zip (vs.map (·.2)),cv.carries,⟨_,#[],0,p1'.1,⟨rfl,rfl,rfl⟩,rfl,λe he=>by simp at he,by first|exact True.intro|constructor,by simp⟩,λh' hd' hsame=>?_⟩;rw [merged_nil_of_nodup _ (by rw [hkeys];exact nd)] at hd';have I1u:Inv X pins σ H1 s1:=I1.unpinned;have I2:Inv X pins σ H1 { heap:=h',gens:=s1.gens,drawn:=s1.drawn,toks:=s1.toks+vs.length,os:=s1.os }:=
  I1u.turned (it:=s.heap.objs.size) (λb o hb e=>by rw [hsame.2 b hb];exact e) p1'.2.1 ok0.2.1 (.inr hsz) hcell hpin
 obtain ⟨o,es,ep,ho,hx,hdata,hk,hp,hn⟩:=hd';have I3:Inv X (pins++[(s.heap.objs.size,o)]) σ H1 { heap:=h',gens:=s1.gens,drawn:=s1.drawn,toks:=s1.toks+vs.length,os:=s1.os }:=I2.pins_of λp hp=>by
  rcases List.mem_append.mp hp with z|z
  ·exact I2.pin p (mem_append_right _ z)
  ·simp only [List.mem_singleton] at z;subst z;exact ⟨ho,p1'.2.1,ok0.2.1,ok0.2.2,λv=>by rw [hdata];simp⟩
 refine thn (he _ _ σ H1 _ I3 q1) λu s2 ⟨y,H2,I4,ry,k,v,ey,hg,q2⟩=>?_;subst ey;obtain ⟨tk,rfl⟩:=ry;have po:=I4.pin (s.heap.objs.size,o) (by simp);have dd:s2.heap.DictOf (PySem.strKind X.prog X.w) s.heap.objs.size (ks.zip (vs.map (·.2))):=⟨o,es,ep,po.1,hx,hdata,hk,hp,hn⟩
 obtain ⟨u,hu,ru⟩:=cv.get hg;exact subscriptTail_builtinR (x:=u) ⟨_,po.1,hx.1⟩ PySem.F.slot_dict_getitem.lookup (wpAny_getItem_of (knd:=PySem.strKind X.prog X.w) (Q:=λr s'=>r=u/\EP X pins σ Q r s') (k:=k) (by show (k==k)=true;simp) dd.mapOf hu ⟨rfl,v,H2,I4.unpinned.tok _,ru,q2⟩) (hs _ _)
def qhu (ks:List Str) (t:TA3) (te:TE3):TE3:=λτ G q=>t τ G λxs G1=>te τ G1 λy G2=>match y with|.str k=>(match jK (ks.zip xs) k with|some x=>q x G2|none=>False)|_=>False
def qbI {K:Frg} {H:Hp}:∀ {ks:List Str} {xs:List T} {vs:List V} {k:Str} {x:T},Rps K H xs vs->jK (ks.zip xs) k=some x->∃ v,qcM ks vs k=some v/\Rp K H x v
 |[],_,_,k,x,_,h=>by simp [jK] at h
 |_::_,_,_,k,x,.nil,h=>by simp [jK] at h
 |y::ks,_,_,k,x,.cons (v:=v) r t,h=>by
  by_cases e:y=k
  ·simp [jK,e] at h;subst h;exact ⟨v,by simp [qcM,e],r⟩
  ·simp [jK,e] at h;obtain ⟨v,h1,h2⟩:=qbI t h;exact ⟨v,by simpa [qcM,e] using h1,h2⟩
def qgN {keys:List (Option Expr)} {values:List Expr} {ks:List Str} {t:TA3} {e:Expr} {te:TE3} {p1 pos:Pos} (hd:jD3 X keys values ks t) (he:jE3 X e te) (hs:EQ e:=by intro _ _;rfl) (nd:ks.Nodup:=by decide) (ne:keys≠[]:=by simp) (h15:keys.length<=15:=by decide) :
  jE3 X (.Subscript (.Dict keys values p1) e pos) (qhu ks t te):=
 ⟨XR (qfV hd he.h hs nd ne h15) λσ H Q ⟨τ,G,q,rl,h,af⟩=>
  ⟨τ,G,_,rl,h,λxs G1 h1 vs H1 rs hr1 k1=>jo (rl.next hr1 k1) h1 λy G2 h2 v H2 ry hr2 k2 rl2=>by
   cases y<;>try exact h2.elim
   case str k=>
    cases ry;simp only at h2;split at h2
    ·rename_i x hx;obtain ⟨v,hv,rv⟩:=qbI (rs.keep hr1 k2) hx;exact ⟨k,v,rfl,hv,af _ _ h2 _ _ rv hr2 (k1.trans k2)⟩
    ·exact h2.elim⟩⟩
end
def MM {K:Frg} {p:Addr} {od:Option Addr} {n:Nat} {sl:Array (Option Value)} {i j:Int} {ti tj:Tok} (h:K.lookup p=some ⟨.type "tuple",od,.seq #[.int i ti,.int j tj] n,sl⟩):∀ H,Rp K H (.tup [.int i,.int j]) (.ref p):=λH=>
 .tup (vs:=[.int i,.int j]) (.inr ⟨_,_,_,h,rfl,rfl,by show 2<=sizeLine;decide,.cons ⟨_,rfl⟩ (.cons ⟨_,rfl⟩ .nil)⟩) (.cons (.int _) (.cons (.int _) .nil))
def UW:List (Str×T):=[("row",.tup [.int 0,.int 1]),("column",.tup [.int 1,.int 0]),("slant",.tup [.int 1,.int 1]),("back",.tup [.int 1,.int (-1)])]
open PySem.SeqAt
def MP (dx:PyData):List PyData->Option Bool
 |[]=>some false
 |d::ds=>(match ZQ d dx,MP dx ds with|some b,some c=>some (b||c)|_,_=>none)
def M7 {dx:PyData}:∀ {ds:List PyData} {b:Bool},MP dx ds=some b->∃ bs:List Bool,bs.length=ds.length/\(∀ (j:Nat) d,ds[j]?=some d->∃ c,bs[j]?=some c/\ZQ d dx=some c)/\b=bs.any id
 |[],b,h=>by simp [MP] at h;subst h;exact ⟨[],rfl,λj d hd=>by simp at hd,rfl⟩
 |d::ds,b,h=>by
  unfold MP at h;split at h
  ·rename_i b1 c1 e1 e2;cases h;obtain ⟨bs,hl,ha,hb⟩:=M7 e2;refine ⟨b1::bs,by simp [hl],λj d' hd=>?_,by simp [hb]⟩;cases j with
   |zero=>simp at hd;subst hd;exact ⟨b1,rfl,e1⟩
   |succ j=>simpa using ha j d' (by simpa using hd)
  ·cases h
section
variable {X:Cx} {pins:List (Addr×Obj)} {σ:L2.St} {H:Hp} {s:Shared}
def SJ (I:Inv X pins σ H s) {x:V} {dx:PyData} {v:Value} {xs:List V} {ds:List PyData} {its:List Value} {b:Bool} (hu:X.A.units+64<cLine) (hx:DV X.K H x dx) (rx:jJ x v) (hs:DVs X.K H xs ds) (rs:jk xs its) (hb:MP dx ds=some b) (hd:∀ d∈ds,dpt d<=40) :
  ∃ e:Value->Bool,(∀ y∈its,EqAt X.A.in1 s y v (e y))/\its.any e=b:=by
 obtain ⟨bs,hl,ha,rfl⟩:=M7 hb;have un:X.A.in1.units+40<cLine:=by
  have:X.A.in1.units<=X.A.units+8:=by first|(show X.A.units+1<=_;omega)|(show X.A.units<=_;omega)|(simp [Around.in1];omega)
  omega
 have at_:∀ (j:Nat) y,its[j]?=some y->∃ c,bs[j]?=some c/\EqAt X.A.in1 s y v c:=λj y hj=>by
  obtain ⟨hj1,_⟩:=List.getElem?_eq_some_iff.mp hj;have hxl:j<xs.length:=by rw [rs.length];exact hj1
  obtain ⟨u,hu',ru⟩:=rs.get (getElem?_eq_getElem hxl);rw [hj] at hu';cases hu';obtain ⟨d,hd1,hd2⟩:=hs.get (getElem?_eq_getElem hxl);obtain ⟨c,hc1,hc2⟩:=ha j d hd1;exact ⟨c,hc1,(SK I 40 hd2 hx hc2 (hd d (mem_of_getElem? hd1)) un ru rx).2⟩
 classical
 refine ⟨λy=>decide (∃ j:Nat,its[j]?=some y/\bs[j]?=some true),λy hy=>?_,?_⟩
 ·by_cases he:∃ j:Nat,its[j]?=some y/\bs[j]?=some true
  ·obtain ⟨j,h1,h2⟩:=id he;obtain ⟨c,hc,eq⟩:=at_ j y h1;rw [h2] at hc;cases hc;simpa [he] using eq
  ·obtain ⟨j,hj,e⟩:=List.mem_iff_getElem.mp hy;have hj':its[j]?=some y:=by rw [getElem?_eq_getElem hj,e]
   obtain ⟨c,hc,eq⟩:=at_ j y hj';cases c with
   |true=>exact absurd ⟨j,hj',hc⟩ he
   |false=>simpa [he] using eq
 ·rw [Bool.eq_iff_iff,List.any_eq_true,List.any_eq_true];constructor
  ·rintro ⟨y,_,hy⟩;obtain ⟨j,_,h2⟩:=of_decide_eq_true hy;exact ⟨true,mem_of_getElem? h2,rfl⟩
  ·rintro ⟨c,hc,e⟩;have:c=true:=e;subst this;obtain ⟨j,hj,ej⟩:=List.mem_iff_getElem.mp hc;have hl2:its.length=bs.length:=by rw [← rs.length,hs.length,hl]
   have hj2:j<its.length:=by omega
   exact ⟨its[j],List.getElem_mem hj2,decide_eq_true ⟨j,getElem?_eq_getElem hj2,by rw [getElem?_eq_getElem hj,ej]⟩⟩
def qor (K:Frg) (neg:Bool):R2:=λx y H Q=>∃ p xs dx ds b,y=.ref p/\(SqL K H p xs\/SqT K H p xs)/\DV K H x dx/\DVs K H xs ds/\MP dx ds=some b/\(∀ d∈ds,dpt d<=40)/\Q (.bl (if neg then !b else b)) H
def qiv (hu:X.A.units+64<cLine):OpR X (compareOp .In) (qor X.K false):=by
 intro pins s σ H x y v u Q I rx ry h;obtain ⟨p,xs,dx,ds,b,rfl,hq,hx,hs,hb,hd,q⟩:=h;cases ry;rcases hq with hq|hq
 ·obtain ⟨its,r,pl,hz⟩:=I.list hq;obtain ⟨e,he,ha⟩:=SJ I hu hx rx hs r hb hd;refine SeqAt.in_listAt e pl.isList (λw hw=>he w (by simpa using hw)) ⟨.bl _,H,I,rfl,?_⟩;rw [show its.toArray.any e=its.any e by simp,ha];exact q
 ·obtain ⟨its,r,pl,hz⟩:=I.tuple hq;obtain ⟨e,he,ha⟩:=SJ I hu hx rx hs r hb hd;refine SeqAt.in_tupleAt e pl (λw hw=>he w (by simpa using hw)) ⟨.bl _,H,I,rfl,?_⟩;rw [show its.toArray.any e=its.any e by simp,ha];exact q
def qbD (hu:X.A.units+64<cLine):OpR X (compareOp .NotIn) (qor X.K true):=by
 intro pins s σ H x y v u Q I rx ry h;obtain ⟨p,xs,dx,ds,b,rfl,hq,hx,hs,hb,hd,q⟩:=h;cases ry;rcases hq with hq|hq
 ·obtain ⟨its,r,pl,hz⟩:=I.list hq;obtain ⟨e,he,ha⟩:=SJ I hu hx rx hs r hb hd;refine SeqAt.notIn_listAt e pl.isList (λw hw=>he w (by simpa using hw)) ⟨.bl _,H,I,rfl,?_⟩;rw [show its.toArray.any e=its.any e by simp,ha];exact q
 ·obtain ⟨its,r,pl,hz⟩:=I.tuple hq;obtain ⟨e,he,ha⟩:=SJ I hu hx rx hs r hb hd;refine SeqAt.notIn_tupleAt e pl (λw hw=>he w (by simpa using hw)) ⟨.bl _,H,I,rfl,?_⟩;rw [show its.toArray.any e=its.any e by simp,ha];exact q
end
def qmn (neg:Bool):R3:=λx y G q=>∃ ys dx ds b,ZR G y=some ys/\Dp G x dx/\Dps G ys ds/\MP dx ds=some b/\(∀ d∈ds,dpt d<=40)/\q (.bl (if neg then !b else b)) G
def qbw {K:Frg} {neg:Bool}:TF K (qmn neg) (qor K neg):=λx y v u G H q Q hr rx ry h af=>by
 obtain ⟨ys,dx,ds,b,h1,h2,h3,h4,h5,h6⟩:=h;cases y with
 |tup zs=>
  simp [ZR] at h1;subst h1;cases ry with
  |tup hs rs=>exact ⟨_,_,dx,ds,b,rfl,.inr hs,h2.dv hr rx,h3.dv hr rs,h4,h5,af _ G h6 _ H (.bl _) hr Kp.refl⟩
 |ref p=>
  simp [ZR] at h1;cases ry;obtain ⟨us,hs,rs⟩:=jg hr h1;exact ⟨_,_,dx,ds,b,rfl,.inl hs,h2.dv hr rx,h3.dv hr rs,h4,h5,af _ G h6 _ H (.bl _) hr Kp.refl⟩
 |_=>simp [ZR] at h1
end L3
namespace HT
open PySem PySem.Spec PyProof.Rows L2
def YA:List Int->List Int->Bool
 |[],[]=>false
 |[],_::_=>false
 |_::_,[]=>true
 |x::xs,y::ys=>if x=y then YA xs ys else decide (y<x)
def EX (x y:Int) (xs ys:List Int):YA (x::xs) (y::ys)=if x=y then YA xs ys else decide (y<x):=rfl
def UI:YA [] []=false:=rfl
def X7 (y:Int) (ys:List Int):YA [] (y::ys)=false:=rfl
def X0 (x:Int) (xs:List Int):YA (x::xs) []=true:=rfl
def qdh (A:Around) (s:Shared) (a:Int) (t:Tok) (c:Int) (u:Tok) (prog:Program) (w:World) (E:Value->Shared->Prop) (Q:Value->Shared->Prop) (h:Q (.bool (decide (c<a))) s) :
  wpAny (model prog w) A (richCompare .Gt (.int a t) (.int c u)) Q E s:=
 (PyProof.Rows.gt_int h:wpAny (model prog w) A (compareOp .Gt (.int a t) (.int c u)) Q E s)
section
open PySem.SeqAt
open PySem.MeetsSeq PySem.MeetsSeq2 PySem.MeetsSeq3
def RD (l b:Addr) (items items2:Array Value) (n n2:Nat) (dd dd2:Option Addr) (sl sl2:Array (Option Value)) (ns ms:List Int) (hi:IntsAre items.toList ns) (hj:IntsAre items2.toList ms) :
  Meets (Builtin.«tuple.__gt__» ⟨[.ref l,.ref b],[]⟩)
   (λ_ R s=>s.heap.get? l=some { cls:=.type "tuple",dict:=dd,data:=.seq items n,slots:=sl }/\s.heap.get? b=some { cls:=.type "tuple",dict:=dd2,data:=.seq items2 n2,slots:=sl2 } /\
    R (.ok (.ret (.bool (YA ns ms)))) s):=
 .of_wp λprog w A R s h=>by
  obtain ⟨hp,g,d,tk,os⟩:=s;obtain ⟨hl,hb,h⟩:=h;have f2:=AutoSeq1.sub_tuple_tuple;have z1:items.size=ns.length:=by rw [← hi.length];simp
  have z2:items2.size=ms.length:=by rw [← hj.length];simp
  wp_walk using wpAny_loadPart' hl,wpAny_loadPart' hb,wpAny_forIn_list _ (λZB b s'=>b.1=none/\s'=⟨hp,g,d,tk,os⟩/\∃ (vs ws:List Value) (ns' ms':List Int),ZB=vs.zip ws /\
   IntsAre vs ns'/\IntsAre ws ms'/\ns'.length+items2.size=ms'.length+items.size/\R (.ok (.ret (.bool (YA ns' ms')))) ⟨hp,g,d,tk,os⟩) _
  case turn=>
   rintro ⟨y,x⟩ ZB b s' ⟨hb',rfl,vs,ws,ns',ms',hz,hvi,hwi,hlen,hR⟩;cases hvi with
   |nil=>rw [List.zip_nil_left] at hz;cases hz
   |cons a t hvi'=>
    cases hwi with
    |nil=>rw [List.zip_nil_right] at hz;cases hz
    |cons c u hwi'=>
     rw [List.zip_cons_cons] at hz;injection hz with hyx hrest;injection hyx with hy hx;subst hy hx;rw [EX] at hR;simp only [length_cons] at hlen;obtain ⟨e,he,hiff⟩:=qcw A.in1 ⟨hp,g,d,tk,os⟩ a t c u;refine wpAny_bind (he prog w _ _ ?_);cases e with
     |true=>
      rw [if_pos (hiff.mp rfl)] at hR
      wp_walk
      exact ⟨rfl,rfl,_,_,_,_,hrest,hvi',hwi',by omega,hR⟩
     |false=>
      rw [if_neg (λq=>absurd (hiff.mpr q) Bool.false_ne_true)] at hR;have hri:=qdh A.in1 ⟨hp,g,d,tk,os⟩ a t c u prog w
      wp_walk using hri
      exact ⟨_,rfl,by simpa using hR⟩
  case fin=>
   rintro ⟨b1,b2⟩ s' ⟨hb',rfl,vs,ws,ns',ms',hz,hvi,hwi,hlen,hR⟩;simp only at hb';subst hb';have hv:YA ns' ms'=decide (items2.size<items.size):=by
    cases hvi with
    |nil=>
     cases hwi with
     |nil=>
      simp only [length_nil] at hlen;rw [UI];exact (decide_eq_false (by omega)).symm
     |cons c u hw=>
      simp only [length_nil,length_cons] at hlen;rw [X7];exact (decide_eq_false (by omega)).symm
    |cons a t hv=>
     cases hwi with
     |nil=>
      simp only [length_nil,length_cons] at hlen;rw [X0];exact (decide_eq_true (by omega)).symm
     |cons c u hw=>
      rw [List.zip_cons_cons] at hz;cases hz
   rw [hv] at hR
   wp_walk
   exact ⟨_,rfl,by simpa [Builtin.Tuple.tupleCompareSizes] using hR⟩
  case h=>
   exact ⟨rfl,rfl,items.toList,items2.toList,ns,ms,rfl,hi,hj,by omega,h⟩
end
section
variable {prog:Program} {w:World} {A:Around} {E:Value->Shared->Prop} {s:Shared}
def NY {l b:Addr} {items items2:Array Value} {ns ms:List Int} {Q:Value->Shared->Prop} (hl:IsTup s.heap l items) (hb:IsTup s.heap b items2) (hi:IntsAre items.toList ns) (hj:IntsAre items2.toList ms)
  (hu:A.units<cLine) (h:Q (.bool (YA ns ms)) s):wpAny (model prog w) A (compareOp .Gt (.ref l) (.ref b)) Q E s:=by
 obtain ⟨⟨cls,dd,data,sl⟩,ho,hc,n,hd⟩:=id hl;obtain ⟨⟨cls2,dd2,data2,sl2⟩,ho2,hc2,n2,hd2⟩:=id hb;simp only at hc hd hc2 hd2;subst hc hd hc2 hd2;exact richCompare_meets_room (op:=.Gt) ⟨_,ho,rfl⟩ ⟨_,ho2,rfl⟩ PySem.F.slot_tuple_gt PySem.F.entry_tuple_gt (PySem.F.args_tuple_gt_2 _ _) (RD l b items items2 n n2 dd dd2 sl sl2 ns ms hi hj)
  ⟨ho,ho2,show Value.bool (YA ns ms)≠Value.notImplemented/\Q (.bool (YA ns ms)) s from ⟨(λx=>nomatch x),h⟩⟩ hu
end
end HT
namespace L3
open PySem PySem.Spec PyProof.Rows L2
def qox (K:Frg):R2:=λx y H Q=>∃ a b ns ms,x=.ref a/\y=.ref b/\SqT K H a (ns.map V.int)/\SqT K H b (ms.map V.int)/\Q (.bl (HT.YA ns ms)) H
def qil {X:Cx} (hu:X.A.units<cLine):OpR X (compareOp .Gt) (qox X.K):=by
 intro pins s σ H x y v u Q I rx ry h;obtain ⟨a,b,ns,ms,rfl,rfl,ha,hb,q⟩:=h;cases rx;cases ry;obtain ⟨its,r1,p1,_⟩:=I.tuple ha;obtain ⟨its2,r2,p2,_⟩:=I.tuple hb;have i1:IntsAre its.toArray.toList ns:=by simpa using Z5 r1
 have i2:IntsAre its2.toArray.toList ms:=by simpa using Z5 r2
 exact HT.NY p1 p2 i1 i2 hu ⟨.bl (HT.YA ns ms),H,I,rfl,q⟩
def qmt:R3:=λx y G q=>match x,y with
 |.tup xs,.tup ys=>(match DG xs,DG ys with|some ns,some ms=>q (.bl (HT.YA ns ms)) G|_,_=>False)
 |_,_=>False
def qgi {K:Frg}:TF K qmt (qox K):=λx y v u G H q Q hr rx ry h af=>by
 cases x<;>try exact h.elim
 case tup xs=>
  cases y<;>try exact h.elim
  case tup ys=>
   unfold qmt at h;simp only at h;split at h
   ·rename_i ns ms e1 e2;cases rx with
    |tup hs rs=>
     cases ry with
     |tup hs' rs'=>
      have:=ZD e1;subst this;have:=ZD e2;subst this;have:=ZC rs;subst this;have:=ZC rs';subst this;exact ⟨_,_,ns,ms,rfl,rfl,hs,hs',af _ G h _ H (.bl _) hr Kp.refl⟩
   ·exact h.elim
section
variable {X:Cx}
end
def qga:Sp3:=λ_ _ _=>False
def WA {P:Program} {w:World} {K:Frg} {mg:Str->Option Value} {base:Heap} {x qual:Str} {st:Stmt} {f:Addr} {fd:FuncData} {ps:List Str} (F:Fun K x qual st f fd) (bd:zr K fd ps []) (hm:mg x=some (.ref f)):Fn3 P w K mg base 0 x qga:=
 ⟨f,fd,ps,⟨λvs H Q E ⟨_,_,_,_,_,h,_⟩=>h.elim,λA outer s H args us vs Q E _ _ _ _ ⟨_,_,_,_,_,h,_⟩=>h.elim⟩,bd,F.kp,hm⟩
def ixT (xs:List T) (i:Int) (G:Gp) (q:Q3):ix3 (.tup xs) (.int i) G q=(match L2.atI xs i with|some z=>q z G|none=>False):=rfl
def ixR (p:Addr) (i:Int) (G:Gp) (q:Q3):ix3 (.ref p) (.int i) G q=(match getL G p with|some xs=>(match L2.atI xs i with|some z=>q z G|none=>False)|none=>False):=rfl
def NF {α:Type} {xs:List α} {i:Int} (h0:0<=i) (h1:i<(xs.length:Int)):L2.atI xs i=xs[i.toNat]?:=by
 unfold L2.atI ixN;have e1:i.toNat<xs.length:=by omega
 simp [h0,e1,h1]
def RJ:¬ Str.ofString "skew" = Str.ofString "rests" := by decide
def S4:¬ Str.ofString "skew" = Str.ofString "bits" := by decide
def RC:¬ Str.ofString "skew" = Str.ofString "table" := by decide
def X3:¬ Str.ofString "skew" = Str.ofString "joined" := by decide
def UR:¬ Str.ofString "rests" = Str.ofString "skew" := by decide
def RG:¬ Str.ofString "rests" = Str.ofString "bits" := by decide
def XY:¬ Str.ofString "rests" = Str.ofString "table" := by decide
def WK:¬ Str.ofString "rests" = Str.ofString "joined" := by decide
def C4:¬ Str.ofString "table" = Str.ofString "bits" := by decide
def X9:¬ Str.ofString "joined" = Str.ofString "bits" := by decide
def W6:¬ Str.ofString "joined" = Str.ofString "table" := by decide
def TZ:¬ Str.ofString "row" = Str.ofString "block" := by decide
def K1:¬ Str.ofString "row" = Str.ofString "step" := by decide
def S7:¬ Str.ofString "row" = Str.ofString "cells" := by decide
def XO:¬ Str.ofString "column" = Str.ofString "block" := by decide
def XT:¬ Str.ofString "column" = Str.ofString "step" := by decide
def XB:¬ Str.ofString "column" = Str.ofString "cells" := by decide
def XX:¬ Str.ofString "slant" = Str.ofString "block" := by decide
def RO:¬ Str.ofString "slant" = Str.ofString "step" := by decide
def X6:¬ Str.ofString "slant" = Str.ofString "cells" := by decide
def RA:¬ Str.ofString "back" = Str.ofString "block" := by decide
def S8:¬ Str.ofString "back" = Str.ofString "step" := by decide
def SF:¬ Str.ofString "back" = Str.ofString "cells" := by decide
def VS:¬ Str.ofString "block" = Str.ofString "cells" := by decide
def UJ:¬ Str.ofString "step" = Str.ofString "block" := by decide
def US:¬ Str.ofString "step" = Str.ofString "cells" := by decide
def cm {i j:Int} (h1:-1000000<j) (h2:j<1000000):zE i j:=.inr ⟨by omega,by omega⟩
def qbT {lo:Int} {n i:Nat} {x:T} (h:(qae lo n)[i]?=some x):i<n/\x=T.int (lo+(i:Int)):=by
 unfold qae at h;rw [getElem?_map] at h;cases e:(List.range n)[i]? with
 |none=>rw [e] at h;cases h
 |some k=>
  rw [e] at h;obtain ⟨hi,hk⟩:=List.getElem?_eq_some_iff.mp e;simp at hi hk;subst hk;exact ⟨hi,by simpa using h.symm⟩
def qaE (lo:Int) (n:Nat):(qae lo n).length=n:=by simp [qae]
end L3
namespace Bk
open PySem L2 L3
def U6 (S_size_of:Sp3):TS3:=(qO (zg (o3 ix3 (v3 0) (c3 (.int 0))) (gn3 1)) (qO (QB (tb3 (o3 (QC false) (v3 1) (c3 (.str "bits")))) (zd (zU (qc (o3 (iC KP (λi j=>i*2 ^ j.toNat)) (c3 (.int 1)) (o3 ix3 (v3 0) (c3 (.int 1)))) (qc (o3 (iC KP (λi j=>i*2 ^ j.toNat)) (c3 (.int 1)) (o3 ix3 (v3 0) (c3 (.int 2)))) (qc (o3 (iC KP (λi j=>i*2 ^ j.toNat)) (c3 (.int 1)) (cb3 UA (qc (o3 ix3 (v3 0) (c3 (.int 3))) qi))) qi))))) za) (qO (QB (tb3 (o3 (QC false) (v3 1) (c3 (.str "table")))) (zd (zU (qc (cb3 UA (qc (o3 ix3 (v3 0) (c3 (.int 2))) qi)) (qc (cb3 UA (qc (o3 ix3 (o3 ix3 (v3 0) (c3 (.int 2))) (c3 (.int 0))) qi)) (qc (o3 ix3 (v3 0) (c3 (.int 1))) qi))))) za) (qO (QB (tb3 (o3 (QC false) (v3 1) (c3 (.str "joined")))) (qO (zg (cb3 S_size_of (qc (o3 ix3 (v3 0) (c3 (.int 1))) qi)) (jf 3 (qr (gn3 2) (qr (gn3 3) (qr (gn3 4) ji))))) (qO (zg (cb3 S_size_of (qc (o3 ix3 (v3 0) (c3 (.int 2))) qi)) (jf 3 (qr (gn3 5) (qr (gn3 6) (qr (gn3 7) ji))))) (zd (zU (qc (o3 (iC zE (·*·)) (v3 2) (v3 5)) (qc (o3 (iC zE (·*·)) (v3 3) (v3 6)) (qc (o3 (iC zE (·*·)) (v3 4) (v3 7)) qi))))))) za) (zd (zU (qc (o3 ix3 (v3 0) (c3 (.int 1))) (qc (o3 ix3 (v3 0) (c3 (.int 2))) (qc (o3 ix3 (v3 0) (c3 (.int 3))) qi)))))))))
def U0:TS3:=(qO (zg (o3 (iC (λ_ j=>0<j) (·%·)) (o3 (iC zE (·*·)) (o3 zS (o3 zS (o3 (iC (λ_ j=>0<j) (·%·)) (v3 0) (c3 (.int 2147483629))) (o3 (iC zE (·*·)) (o3 (iC zE (·*·)) (v3 1) (v3 1)) (c3 (.int 7919)))) (c3 (.int 11))) (c3 (.int 48271))) (c3 (.int 2147483647))) (gn3 2)) (zd (o3 (iC (λ_ j=>0<j) (·%·)) (o3 (iC zE (·*·)) (v3 2) (v3 2)) (c3 (.int 1999999973)))))
def Y0:TS3:=(qO (zg (if3 (tb3 (o3 (iB λi j=>decide (i<j)) (v3 1) (cb3 UA (qc (v3 0) qi)))) (o3 ix3 (v3 0) (v3 1)) (c3 (.int 0))) (gn3 2)) (qO (zg (if3 (tb3 (o3 (iB λi j=>decide (j<=i)) (cb3 qgA (qc (v3 2) qi)) (o3 (iC KP (λi j=>i ^ j.toNat)) (c3 (.int 10)) (c3 (.int 18))))) (cb3 qgA (qc (v3 2) qi)) (c3 (.int 0))) (gn3 3)) (zd (VV (qc (v3 3) (qc (o3 zS (v3 2) (o3 (iC zE (·*·)) (c3 (.int 1000003)) (v3 1))) (qc (c3 (.int 0)) qi)))))))
def Y8 (S_law_mix:Sp3):TS3:=(qO (zg (o3 zS (o3 ix3 (v3 0) (c3 (.int 2))) (c3 (.int 1))) (XJ (v3 0) (c3 (.int 2)))) (qO (QB (tb3 (o3 (iB λi j=>decide (j<i)) (o3 ix3 (v3 0) (c3 (.int 0))) (c3 (.int 0)))) (qO (zg (o3 (iC (λ_ j=>0<j) (·%·)) (o3 ix3 (v3 0) (c3 (.int 0))) (v3 1)) (gn3 2)) (qO (zg (o3 (iC M6 (·/·)) (o3 ix3 (v3 0) (c3 (.int 0))) (v3 1)) (XJ (v3 0) (c3 (.int 0)))) (zd (v3 2)))) za) (zd (o3 (iC (λ_ j=>0<j) (·%·)) (o3 (iC M6 (·/·)) (cb3 S_law_mix (qc (cb3 S_law_mix (qc (o3 ix3 (v3 0) (c3 (.int 1))) (qc (o3 ix3 (v3 0) (c3 (.int 2))) qi))) (qc (o3 zS (o3 ix3 (v3 0) (c3 (.int 2))) (c3 (.int 64))) qi))) (c3 (.int 64))) (v3 1)))))
def JY (S_law_pick:Sp3):TS3:=(qO (zg (o3 ix3 (VV (qc (c3 (.int 6)) (qc (c3 (.int 6)) (qc (c3 (.int 6)) (qc (c3 (.int 16)) qi))))) (cb3 S_law_pick (qc (v3 0) (qc (c3 (.int 4)) qi)))) (gn3 1)) (qO (WD 2 3 (qc (o3 zS (c3 (.int 1)) (cb3 S_law_pick (qc (v3 0) (qc (v3 1) qi)))) (qc (o3 zS (c3 (.int 1)) (cb3 S_law_pick (qc (v3 0) (qc (v3 1) qi)))) qi))) (zd (o3 ix3 (VV (qc (zU (qc (v3 2) (qc (v3 3) qi))) (qc (zU (qc (v3 2) (qc (v3 3) qi))) (qc (zU (qc (v3 2) (qc (v3 3) qi))) (qc (zU (qc (v3 2) (qc (v3 2) qi))) qi))))) (cb3 S_law_pick (qc (v3 0) (qc (c3 (.int 4)) qi)))))))
def UN:TS3:=(qO (W1 (tb3 (o3 (iB λi j=>decide (j<i)) (v3 1) (c3 (.int 0)))) (WD 0 1 (qc (v3 1) (qc (o3 (iC (λ_ j=>0<j) (·%·)) (v3 0) (v3 1)) qi)))) (zd (v3 0)))
def VB (S_law_sides:Sp3) (S_law_pick:Sp3):TS3:=(qO (zg (cb3 S_law_sides (qc (v3 0) qi)) (jf 2 (qr (gn3 1) (qr (gn3 2) ji)))) (qO (zg (o3 zS (c3 (.int 1)) (cb3 S_law_pick (qc (v3 0) (qc (o3 ix3 (VV (qc (c3 (.int 8)) (qc (c3 (.int 8)) (qc (c3 (.int 17)) (qc (c3 (.int 32)) qi))))) (cb3 S_law_pick (qc (v3 0) (qc (c3 (.int 4)) qi)))) qi)))) (gn3 3)) (qO (zg (o3 ix3 (VV (qc (v3 3) (qc (c3 (.int 10)) (qc (c3 (.int 100)) qi)))) (cb3 S_law_pick (qc (v3 0) (qc (c3 (.int 3)) qi)))) (gn3 4)) (zd (zU (qc (c3 (.str "skew")) (qc (v3 1) (qc (v3 2) (qc (v3 3) (qc (cb3 S_law_pick (qc (v3 0) (qc (v3 4) qi))) (qc (cb3 S_law_pick (qc (v3 0) (qc (v3 4) qi))) qi)))))))))))
def J3 (S_law_sides:Sp3) (S_law_pick:Sp3) (S_law_gcd:Sp3):TS3:=(qO (zg (cb3 S_law_sides (qc (v3 0) qi)) (jf 2 (qr (gn3 1) (qr (gn3 2) ji)))) (qO (zg (o3 zS (c3 (.int 1)) (cb3 S_law_pick (qc (v3 0) (qc (o3 ix3 (VV (qc (c3 (.int 8)) (qc (c3 (.int 17)) (qc (c3 (.int 32)) qi)))) (cb3 S_law_pick (qc (v3 0) (qc (c3 (.int 3)) qi)))) qi)))) (gn3 3)) (qO (zg (o3 zS (u3 T9 (o3 (iC M6 (·/·)) (o3 (iC zE (·*·)) (u3 T9 (v3 1)) (v3 2)) (v3 3))) (cb3 S_law_pick (qc (v3 0) (qc (c3 (.int 4)) qi)))) (gn3 4)) (qO (DP (zz (qc (c3 (.int 32)) qi)) (gn3 5) (QB (tb3 (o3 (iB λi j=>decide (j<i)) (cb3 S_law_gcd (qc (v3 3) (qc (v3 4) qi))) (c3 (.int 1)))) (zg (o3 zS (v3 4) (c3 (.int 1))) (gn3 4)) za)) (zd (zU (qc (c3 (.str "rests")) (qc (v3 1) (qc (v3 2) (qc (v3 3) (qc (v3 4) qi)))))))))))
def YY (S_law_size:Sp3) (S_law_odd:Sp3) (S_law_bank:Sp3):TS3:=(qO (zg (cb3 S_law_size (qc (v3 0) qi)) (jf 3 (qr (gn3 3) (qr (gn3 4) (qr (gn3 5) ji))))) (qO (QB (tb3 (o3 (QC false) (o3 ix3 (v3 0) (c3 (.int 0))) (c3 (.str "skew")))) (zd (o3 (iC (λ_ j=>0<j) (·%·)) (o3 zS (o3 (iC zE (·*·)) (o3 ix3 (v3 0) (c3 (.int 4))) (v3 1)) (o3 (iC zE (·*·)) (o3 ix3 (v3 0) (c3 (.int 5))) (v3 2))) (v3 5))) za) (qO (QB (tb3 (o3 (QC false) (o3 ix3 (v3 0) (c3 (.int 0))) (c3 (.str "rests")))) (zd (o3 (iC (λ_ j=>0<j) (·%·)) (o3 zS (o3 (iC zE (·*·)) (v3 1) (v3 4)) (v3 2)) (v3 5))) za) (qO (QB (tb3 (o3 (QC false) (o3 ix3 (v3 0) (c3 (.int 0))) (c3 (.str "bits")))) (qO (zg (lc3 (MU (qc (o3 ix3 (v3 0) (c3 (.int 3))) qi)) (jf 2 (qr (gn3 0) (qr (gn3 1) ji))) (tb3 (cb3 S_law_odd (qc (o3 (iI Builtin.bitAnd) (o3 zS (o3 (iC zE (·*·)) (v3 3) (v3 4)) (v3 2)) (v3 1)) qi))) (o3 ix3 (VV (qc (c3 (.int 1)) (qc (c3 (.int 2)) (qc (c3 (.int 4)) (qc (c3 (.int 8)) (qc (c3 (.int 16)) qi)))))) (v3 0)) [none,none,some 2,some 1,some 4]) (gn3 6)) (zd (cb3 qiL (qc (v3 6) qi)))) za) (qO (QB (tb3 (o3 (QC false) (o3 ix3 (v3 0) (c3 (.int 0))) (c3 (.str "table")))) (zd (o3 ix3 (o3 ix3 (o3 ix3 (v3 0) (c3 (.int 2))) (v3 1)) (v3 2))) za) (qO (zg (cb3 S_law_size (qc (o3 ix3 (v3 0) (c3 (.int 2))) qi)) (jf 3 (qr (gn3 7) (qr (gn3 8) (qr (gn3 9) ji))))) (zd (o3 zS (o3 (iC zE (·*·)) (cb3 S_law_bank (qc (o3 ix3 (v3 0) (c3 (.int 1))) (qc (o3 (iC M6 (·/·)) (v3 1) (v3 7)) (qc (o3 (iC M6 (·/·)) (v3 2) (v3 8)) qi)))) (v3 9)) (cb3 S_law_bank (qc (o3 ix3 (v3 0) (c3 (.int 2))) (qc (o3 (iC (λ_ j=>0<j) (·%·)) (v3 1) (v3 7)) (qc (o3 (iC (λ_ j=>0<j) (·%·)) (v3 2) (v3 8)) qi))))))))))))
inductive Dl where
 |skew (r c b x y:Int)
 |rests (r c b p:Int)
 |bits (h l:Nat) (ms:List Int)
 |table (b:Int) (cells:List (List Int))
 |joined (d e:Dl)
def qpi (r:List Int):T:=.tup (r.map T.int)
def Dl.t:Dl->T
 |.skew r c b x y=>.tup [.str "skew",.int r,.int c,.int b,.int x,.int y]
 |.rests r c b p=>.tup [.str "rests",.int r,.int c,.int b,.int p]
 |.bits h l ms=>.tup [.str "bits",.int h,.int l,.tup (ms.map T.int)]
 |.table b cells=>.tup [.str "table",.int b,.tup (cells.map qpi)]
 |.joined d e=>.tup [.str "joined",d.t,e.t]
def Dl.R:Dl->Int
 |.skew r _ _ _ _=>r
 |.rests r _ _ _=>r
 |.bits h _ _=>2 ^ h
 |.table _ cells=>cells.length
 |.joined d e=>d.R*e.R
def Dl.C:Dl->Int
 |.skew _ c _ _ _=>c
 |.rests _ c _ _=>c
 |.bits _ l _=>2 ^ l
 |.table _ cells=>((cells[0]?).getD []).length
 |.joined d e=>d.C*e.C
def Dl.B:Dl->Int
 |.skew _ _ b _ _=>b
 |.rests _ _ b _=>b
 |.bits _ _ ms=>2 ^ ms.length
 |.table b _=>b
 |.joined d e=>d.B*e.B
def Dl.Ok:Dl->Prop
 |.skew r c b x y=>1<=r/\r<=60/\1<=c/\c<=60/\1<=b/\b<=1000/\0<=x/\x<=1000/\0<=y/\y<=1000
 |.rests r c b p=>1<=r/\r<=60/\1<=c/\c<=60/\1<=b/\b<=1000/\1<=p/\p<=100000/\Int.gcd b p=1/\r*c<=b*p
 |.bits h l ms=>h<=4/\l<=4/\ms.length<=5/\∀ m∈ms,0<=m/\m<2 ^ (h+l)
 |.table b cells=>1<=b/\b<=1000/\1<=cells.length/\cells.length<=60/\∃ c,1<=c/\c<=60/\∀ row∈cells,row.length=c/\∀ x∈row,0<=x/\x<b
 |.joined d e=>d.Ok/\e.Ok/\d.R*e.R<=4096/\d.C*e.C<=4096/\d.B*e.B<=4096
def Dl.dep:Dl->Nat
 |.joined d e=>max d.dep e.dep+1
 |_=>0
def p2 (n:Nat):((2:Int) ^ n)=((2 ^ n:Nat):Int):=by simp
def qaS (n:Nat):(1:Int)<=2 ^ n:=by
 rw [p2];have:=Nat.one_le_two_pow (n:=n);omega
def qhs {n k:Nat} (h:n<=k):(2:Int) ^ n<=2 ^ k:=by
 rw [p2,p2];have:=Nat.pow_le_pow_right (n:=2) (by omega) h;omega
structure Lims (d:Dl):Prop where
 r1:1<=d.R
 r2:d.R<=4096
 c1:1<=d.C
 c2:d.C<=4096
 b1:1<=d.B
 b2:d.B<=4096
def VC {a b:Int} (h1:1<=a) (h2:1<=b):1<=a*b:=by
 have:=Int.mul_le_mul (a:=1) (b:=1) (c:=a) (d:=b) h1 h2 (by omega) (by omega);omega
def Dl.lims:∀ {d:Dl},d.Ok->Lims d
 |.skew r c b x y,⟨h1,h2,h3,h4,h5,h6,_⟩=>⟨h1,by simp [Dl.R];omega,h3,by simp [Dl.C];omega,h5,by simp [Dl.B];omega⟩
 |.rests r c b x,⟨h1,h2,h3,h4,h5,h6,_⟩=>⟨h1,by simp [Dl.R];omega,h3,by simp [Dl.C];omega,h5,by simp [Dl.B];omega⟩
 |.bits h l ms,⟨h1,h2,h3,_⟩=>by
  have e1:=qhs h1;have e2:=qhs h2;have e3:=qhs h3;refine ⟨qaS _,?_,qaS _,?_,qaS _,?_⟩<;>simp [Dl.R,Dl.C,Dl.B]<;>omega
 |.table b cells,⟨h1,h2,h3,h4,c,h5,h6,h7⟩=>by
  have e0:cells[0]?=some cells[0]:=getElem?_eq_getElem (by omega);have e1:=(h7 cells[0] (List.getElem_mem _)).1;have e2:(Dl.table b cells).C=c:=by simp [Dl.C,e0,e1]
  exact ⟨by simp [Dl.R];omega,by simp [Dl.R];omega,by rw [e2];omega,by rw [e2];omega,h1,by simp [Dl.B];omega⟩
 |.joined d e,⟨h1,h2,h3,h4,h5⟩=>by
  have a:=Dl.lims h1;have b:=Dl.lims h2;exact ⟨VC a.r1 b.r1,h3,VC a.c1 b.c1,h4,VC a.b1 b.b1,h5⟩
abbrev qeS (q:Q3):Ends3:={ nx:=λ_ G'=>q .non G',rt:=q }
def J8 {A B:TS3} {d:Ends3} {τ:St3} {G:Gp} (h:∀ nx,nx=B d->A { d with nx:=nx } τ G):qO A B d τ G:=h _ rfl
def Lf (G:Gp) (a:Addr) (n:Int):Prop:=∃ o c m,G a=some (.lst [.int o,.int c,.int m])/\0<=o/\0<=m/\m<=n
def Ext (a:Addr) (G G':Gp):Prop:=∀ b o,b≠a->G b=some o->G' b=some o
def Lf.ne {G:Gp} {a p:Addr} {n:Int} (h:Lf G a n) (hp:G p=none):p≠a:=by
 rintro rfl;obtain ⟨o,c,m,e,_⟩:=h;rw [hp] at e;cases e
def Lf.new {G:Gp} {a p:Addr} {n:Int} {ob:O} (h:Lf G a n) (hp:p≠a):Lf (gu G p ob) a n:=by
 obtain ⟨o,c,m,e,r⟩:=h;exact ⟨o,c,m,by rw [QE (Ne.symm hp)];exact e,r⟩
def Lf.mono {G:Gp} {a:Addr} {n k:Int} (h:Lf G a n) (hk:n<=k):Lf G a k:=by
 obtain ⟨o,c,m,e,h1,h2,h3⟩:=h;exact ⟨o,c,m,e,h1,h2,by omega⟩
def Lf.ex {G G':Gp} {a:Addr} {n:Int} (h:Lf G a n) (e:Ex G G'):Lf G' a n:=by
 obtain ⟨o,c,m,e1,h1⟩:=h;exact ⟨o,c,m,e _ _ e1,h1⟩
def Ext.trans {a:Addr} {G G1 G2:Gp} (x:Ext a G G1) (y:Ext a G1 G2):Ext a G G2:=λb o hb e=>y b o hb (x b o hb e)
def YT {a p:Addr} {G:Gp} {ob:O} (hp:G p=none):Ext a G (gu G p ob):=λb o _ e=>by
 rw [QE (by rintro rfl;rw [hp] at e;cases e)];exact e
def KG {a:Addr} {G G':Gp} (h:Ex G G'):Ext a G G':=λb o _ e=>h b o e
def CT:Sp3:=λts G q=>∃ c k,ts=[.int c,.int k]/\0<=k/\k<4294967296/\∀ m,0<=m->m<1999999973->q (.int m) G
def J1:Sp3:=λts G q=>∃ (a:Addr) (k:Int) (ns:List Int),ts=[.ref a,.int k]/\G a=some (.frz (ns.map T.int))/\ns.length<=63/\0<=k/\k<=63/\∀ p o c,G p=none->0<=o->q (.ref p) (gu G p (.lst [.int o,.int c,.int 0]))
def qF:Sp3:=λts G q=>∃ a n many,ts=[.ref a,.int many]/\1<=many/\many<1073741824/\Lf G a n/\n<1073741824/\∀ d G',0<=d->d<many->Lf G' a (n+1)->Ext a G G'->q (.int d) G'
def jY:Sp3:=λts G q=>∃ a n,ts=[.ref a]/\Lf G a n/\n<100000000/\∀ r c G',1<=r->r<=16->1<=c->c<=16->Lf G' a (n+4)->Ext a G G'->q (.tup [.int r,.int c]) G'
def JC:Sp3:=λts G q=>∃ x y:Int,ts=[.int x,.int y]/\0<=x/\0<=y/\q (.int (Int.gcd x y:Nat)) G
structure Dr (d:Dl) (r c b:Int):Prop where
 ok:d.Ok
 r2:d.R<=r
 c2:d.C<=c
 b2:d.B<=b
def ZK:Sp3:=λts G q=>∃ a n,ts=[.ref a]/\Lf G a n/\n<10000000/\∀ r c b p G',Dr (.rests r c b p) 16 16 32->Lf G' a (n+10)->Ext a G G'->q (Dl.rests r c b p).t G'
def jz {a:Addr} {n many:Int} {G:Gp} {q:Q3} (hL:Lf G a n) (h1:1<=many) (h2:many<1073741824) (hn:n<1073741824) (h:∀ d G',0<=d->d<many->Lf G' a (n+1)->Ext a G G'->q (.int d) G'):qF [.ref a,.int many] G q:=⟨a,n,many,rfl,h1,h2,hL,hn,h⟩
def N6:∀ ts G q,CT ts G q->ts.length=2/\U0 (qeS q) (qu ["_law_cell","_law_k","_law_m"] ts) G:=by
 rintro ts G q ⟨c,k,rfl,h1,h2,h⟩;refine ⟨rfl,?_⟩;simp only [U0,qO,zg,o3,v3,qu,map_cons,List.map_nil,length_cons,length_nil,Nat.zero_add,Nat.reduceAdd,Nat.reduceSub,List.replicate_one,cons_append,List.nil_append,Nat.zero_lt_succ,getElem?_pos,getElem_cons_zero,c3,iC,Int.reduceLT,Nat.reduceLT,getElem_cons_succ,zS,gn3,zd,set_cons_succ,set_cons_zero,Nat.lt_add_one,true_and];exact ⟨.inl ⟨by omega,by omega⟩,cm (by omega) (by omega),cm (by omega) (by omega),.inl ⟨by omega,by omega⟩,h _ (Int.emod_nonneg _ (by omega)) (Int.emod_lt_of_pos _ (by omega))⟩
def cp:KP 10 18:=⟨by decide,by decide,by decide⟩
def LF:∀ ts G q,J1 ts G q->ts.length=2/\Y0 (qeS q) (qu ["_law_script","_law_k","_law_cell","_law_own"] ts) G:=by
 rintro ts G q ⟨a,k,ns,rfl,hG,hl,h1,h2,h⟩;refine ⟨rfl,?_⟩;simp only [Y0,qO,zg,if3,tb3,o3,v3,qu,map_cons,List.map_nil,length_cons,length_nil,Nat.zero_add,Nat.reduceAdd,Nat.reduceSub,List.reduceReplicate,cons_append,List.nil_append,Nat.reduceLT,getElem?_pos,getElem_cons_succ,getElem_cons_zero,cb3,qc,Nat.zero_lt_succ,qi,UA,getL,hG,iB,length_map,decide_eq_true_eq,gn3,set_cons_succ,set_cons_zero,qgA,c3,iC,Int.reduceToNat,Int.reducePow,zd,VV,Nat.lt_add_one,zS,ne_eq,sizeLine_eq,Nat.reduceLeDiff,true_and,gu,ixR,atI,ixN,getElem?_map,Int.lt_irrefl,↓reduceIte,Int.reduceLE,decide_false,Bool.false_eq_true,Int.zero_add];have ck:zE 1000003 k:=cm (by omega) (by omega);by_cases hk:k<ns.length
 ·have hk':k.toNat<ns.length:=by omega
  simp [hk,h1,hk',cp,ck];split
  ·split
   ·exact λp hp=>h p (-ns[k.toNat]) _ hp (by omega)
   ·exact λp hp=>h p 0 _ hp (by omega)
  ·split
   ·exact λp hp=>h p ns[k.toNat] _ hp (by omega)
   ·exact λp hp=>h p 0 _ hp (by omega)
 ·simp [hk,cp,ck];exact λp hp=>h p 0 _ hp (by omega)
def KW:∀ ts G q,qF ts G q->ts.length=2/\Y8 CT (qeS q) (qu ["_law_left_here","_law_many","_law_digit"] ts) G:=by
 rintro ts G q ⟨a,n,many,rfl,m1,m2,⟨o,c,m,hG,ho,hm,hn⟩,h3,h⟩;refine ⟨rfl,?_⟩;unfold Y8;refine J8 λnx1 q1=>?_;simp only [zg,o3,v3,qu,map_cons,List.map_nil,length_cons,length_nil,Nat.zero_add,Nat.reduceAdd,Nat.reduceSub,List.replicate_one,cons_append,List.nil_append,Nat.zero_lt_succ,getElem?_pos,getElem_cons_zero,c3,zS,ne_eq,sizeLine_eq,XJ,qcE,ixN,Int.zero_le_ofNat,↓reduceIte,Int.reduceToNat,tb3,iB,decide_eq_true_eq,Nat.reduceLT,getElem_cons_succ,iC,gn3,set_cons_succ,set_cons_zero,Std.le_refl,Int.natCast_pos,Int.toNat_zero,zd,Nat.lt_add_one,ixR,getL,atI,za,cb3,qc,qi,Int.toNat_one,List.length_set,hG,Int.cast_ofNat_Int,Int.reduceLT,Option.bind_some,qT];rw [q1];clear q1;refine J8 λnx2 q2=>?_;simp only [QB,zg,o3,v3,qu,map_cons,List.map_nil,length_cons,length_nil,Nat.zero_add,Nat.reduceAdd,Nat.reduceSub,List.replicate_one,cons_append,List.nil_append,Nat.zero_lt_succ,getElem?_pos,getElem_cons_zero,c3,zS,ne_eq,sizeLine_eq,XJ,qcE,ixN,Int.zero_le_ofNat,↓reduceIte,Int.reduceToNat,tb3,iB,decide_eq_true_eq,Nat.reduceLT,getElem_cons_succ,iC,gn3,set_cons_succ,set_cons_zero,Std.le_refl,Int.natCast_pos,Int.toNat_zero,zd,Nat.lt_add_one,ixR,getL,atI,za,cb3,qc,qi,Int.toNat_one,List.length_set,hG,Int.cast_ofNat_Int,Int.reduceLT,Option.bind_some,qT];split
 ·simp only [qO,zg,o3,v3,length_cons,length_nil,Nat.zero_add,Nat.reduceAdd,Nat.zero_lt_succ,getElem?_pos,getElem_cons_zero,c3,Nat.reduceLT,getElem_cons_succ,iC,gn3,set_cons_succ,set_cons_zero,XJ,qcE,ixN,Std.le_refl,↓reduceIte,Int.natCast_pos,Int.toNat_zero,zd,Nat.lt_add_one,ixR,getL,atI,qT,Int.cast_ofNat_Int,Int.reduceLT,Option.bind_some];refine ⟨by omega,⟨by omega,m2⟩,h _ _ (Int.emod_nonneg _ (by omega)) (Int.emod_lt_of_pos _ (by omega)) ⟨o/many,c,m+1,qT,Int.ediv_nonneg ho (by omega),by omega,by omega⟩ λb ob hb e=>?_⟩;rw [QE hb,QE hb];exact e
 ·rw [q2];clear q2;simp only [zg,o3,v3,qu,map_cons,List.map_nil,length_cons,length_nil,Nat.zero_add,Nat.reduceAdd,Nat.reduceSub,List.replicate_one,cons_append,List.nil_append,Nat.zero_lt_succ,getElem?_pos,getElem_cons_zero,c3,zS,ne_eq,sizeLine_eq,XJ,qcE,ixN,Int.zero_le_ofNat,↓reduceIte,Int.reduceToNat,tb3,iB,decide_eq_true_eq,Nat.reduceLT,getElem_cons_succ,iC,gn3,set_cons_succ,set_cons_zero,Std.le_refl,Int.natCast_pos,Int.toNat_zero,zd,Nat.lt_add_one,ixR,getL,atI,za,cb3,qc,qi,Int.toNat_one,List.length_set,hG,Int.cast_ofNat_Int,Int.reduceLT,Option.bind_some,qT];refine ⟨c,m+1,rfl,by omega,by omega,λu u1 u2=>?_⟩;simp only [zg,o3,v3,qu,map_cons,List.map_nil,length_cons,length_nil,Nat.zero_add,Nat.reduceAdd,Nat.reduceSub,List.replicate_one,cons_append,List.nil_append,Nat.zero_lt_succ,getElem?_pos,getElem_cons_zero,c3,zS,ne_eq,sizeLine_eq,XJ,qcE,ixN,Int.zero_le_ofNat,↓reduceIte,Int.reduceToNat,tb3,iB,decide_eq_true_eq,Nat.reduceLT,getElem_cons_succ,iC,gn3,set_cons_succ,set_cons_zero,Std.le_refl,Int.natCast_pos,Int.toNat_zero,zd,Nat.lt_add_one,ixR,getL,atI,za,cb3,qc,qi,Int.toNat_one,List.length_set,hG,Int.cast_ofNat_Int,Int.reduceLT,Option.bind_some,qT];refine ⟨u,m+1+64,rfl,by omega,by omega,λv v1 v2=>?_⟩;refine ⟨⟨by omega,by omega⟩,by omega,h _ _ (Int.emod_nonneg _ (by omega)) (Int.emod_lt_of_pos _ (by omega)) ⟨o,c,m+1,qT,ho,by omega,by omega⟩ λb ob hb e=>?_⟩;rw [QE hb];exact e
def qcF {x y:Int} (hy:0<y):Int.gcd y (x%y)=Int.gcd x y:=by
 rw [Int.emod_def,Int.gcd_comm x y];simp
def NN:∀ ts G q,JC ts G q->ts.length=2/\UN (qeS q) (qu ["_law_one","_law_other"] ts) G:=by
 rintro ts G q ⟨x,y,rfl,hx,hy,h⟩;refine ⟨rfl,?_⟩;simp only [UN,qO,W1,qu,map_cons,List.map_nil,length_cons,length_nil,Nat.zero_add,Nat.reduceAdd,Nat.sub_self,List.replicate_zero,List.append_nil,tb3,o3,v3,c3,iB,decide_eq_true_eq,WD,qc,iC,qi,zd];refine ⟨λn τ G'=>G'=G/\∃ u v:Int,τ=[some (.int u),some (.int v)]/\n=v.toNat/\0<=u/\0<=v/\Int.gcd u v=Int.gcd x y,⟨_,rfl,x,y,rfl,rfl,hx,hy,rfl⟩,?_⟩;rintro n τ G' ⟨eG,u,v,rfl,rfl,hu,hv,e⟩;simp;by_cases h0:0<v
 ·simp [h0];refine ⟨λτ' G'=>G'=G/\∃ x' y':Int,τ'=[some (.int x'),some (.int y')]/\y'.toNat<v.toNat/\0<=x'/\0<=y'/\Int.gcd x' y'=Int.gcd x y,λτ' G' ⟨e1,x',y',e2,e3,e4,e5,e6⟩=>⟨y'.toNat,by omega,e1,x',y',e2,rfl,e4,e5,e6⟩,eG,v,u%v,rfl,?_,hv,Int.emod_nonneg _ (by omega),by rw [qcF h0,e]⟩;have:=Int.emod_lt_of_pos u h0;omega
 ·have:v=0:=by omega
  subst this;simp at e;simp [eG];have:u=(Int.gcd x y:Nat):=by omega
  rw [this];exact h
def qoY {d:Int} (h1:0<=d) (h2:d<4) {x0 x1 x2 x3:T} {P:T->Prop} (p0:P x0) (p1:P x1) (p2:P x2) (p3:P x3):∃ x,L2.atI [x0,x1,x2,x3] d=some x/\P x:=by
 have:d=0\/d=1\/d=2\/d=3:=by omega
 rcases this with rfl|rfl|rfl|rfl
 ·exact ⟨x0,rfl,p0⟩
 ·exact ⟨x1,rfl,p1⟩
 ·exact ⟨x2,rfl,p2⟩
 ·exact ⟨x3,rfl,p3⟩
def qpY {d:Int} (h1:0<=d) (h2:d<3) {x0 x1 x2:T} {P:T->Prop} (p0:P x0) (p1:P x1) (p2:P x2):∃ x,L2.atI [x0,x1,x2] d=some x/\P x:=by
 have:d=0\/d=1\/d=2:=by omega
 rcases this with rfl|rfl|rfl
 ·exact ⟨x0,rfl,p0⟩
 ·exact ⟨x1,rfl,p1⟩
 ·exact ⟨x2,rfl,p2⟩
def KK:∀ ts G q,jY ts G q->ts.length=1/\JY qF (qeS q) (qu ["_law_left_here","_law_wide","_law_rows","_law_columns"] ts) G:=by
 rintro ts G q ⟨a,n,rfl,hL,hn,h⟩;refine ⟨rfl,?_⟩;unfold JY;refine J8 λnx1 q1=>?_;simp only [zg,o3,VV,qc,c3,qi,length_cons,length_nil,Nat.zero_add,Nat.reduceAdd,sizeLine_eq,Nat.reduceLeDiff,cb3,v3,qu,map_cons,List.map_nil,Nat.add_one_sub_one,List.reduceReplicate,cons_append,List.nil_append,Nat.zero_lt_succ,getElem?_pos,getElem_cons_zero,gn3,set_cons_succ,set_cons_zero,true_and];intro p hp;have hpa:=hL.ne hp;refine jz (hL.new hpa) (by decide) (by decide) (by omega) λd G1 d1 d2 L1 E1=>?_;have g1:=E1 p _ hpa qT;obtain ⟨w,hw,w',rfl,w1,w2⟩:=qoY d1 d2 (P:=λt=>∃ w,t=T.int w/\1<=w/\w<=16) ⟨6,rfl,by decide⟩ ⟨6,rfl,by decide⟩ ⟨6,rfl,by decide⟩ ⟨16,rfl,by decide⟩;simp only [ixR,getL,g1,hw];rw [q1];clear q1;refine J8 λnx2 q2=>?_;simp only [WD,qc,o3,c3,cb3,v3,length_cons,length_nil,Nat.zero_add,Nat.reduceAdd,Nat.zero_lt_succ,getElem?_pos,getElem_cons_zero,Nat.reduceLT,getElem_cons_succ,qi,zS,ne_eq,sizeLine_eq,set_cons_succ,set_cons_zero];refine jz L1 w1 (by omega) (by omega) λr G2 r1 r2 L2' E2=>?_;simp only [iI,qO,zg,o3,VV,qc,c3,qi,length_cons,length_nil,Nat.zero_add,Nat.reduceAdd,sizeLine_eq,Nat.reduceLeDiff,cb3,v3,qu,map_cons,List.map_nil,Nat.add_one_sub_one,List.reduceReplicate,cons_append,List.nil_append,Nat.zero_lt_succ,getElem?_pos,getElem_cons_zero,gn3,WD,set_cons_succ,set_cons_zero,Nat.reduceLT,getElem_cons_succ,zS,ne_eq,zd,zU,Nat.lt_add_one,true_and,gu];refine jz L2' w1 (by omega) (by omega) λc G3 c1 c2 L3' E3=>?_;simp only [iI,qO,zg,o3,VV,qc,c3,qi,length_cons,length_nil,Nat.zero_add,Nat.reduceAdd,sizeLine_eq,Nat.reduceLeDiff,cb3,v3,qu,map_cons,List.map_nil,Nat.add_one_sub_one,List.reduceReplicate,cons_append,List.nil_append,Nat.zero_lt_succ,getElem?_pos,getElem_cons_zero,gn3,WD,set_cons_succ,set_cons_zero,Nat.reduceLT,getElem_cons_succ,zS,ne_eq,zd,zU,Nat.lt_add_one,true_and,gu];rw [q2];clear q2;simp only [zd,o3,VV,qc,zU,v3,length_cons,length_nil,Nat.zero_add,Nat.reduceAdd,Nat.reduceLT,getElem?_pos,getElem_cons_succ,getElem_cons_zero,Nat.lt_add_one,qi,sizeLine_eq,Nat.reduceLeDiff,cb3,Nat.zero_lt_succ,c3,true_and];intro p2 hp2;have hpa2:=L3'.ne hp2;refine jz (L3'.new hpa2) (by decide) (by decide) (by omega) λe G4 e1 e2 L4 E4=>?_;have g4:=E4 p2 _ hpa2 qT;have x1:1<=1+r:=by omega
 have x2:1+r<=16:=by omega
 have x3:1<=1+c:=by omega
 have x4:1+c<=16:=by omega
 obtain ⟨t,ht,r',c',rfl,z1,z2,z3,z4⟩:=qoY e1 e2 (P:=λt=>∃ r' c',t=T.tup [.int r',.int c']/\1<=r'/\r'<=16/\1<=c'/\c'<=16) ⟨1+r,1+c,rfl,x1,x2,x3,x4⟩ ⟨1+r,1+c,rfl,x1,x2,x3,x4⟩ ⟨1+r,1+c,rfl,x1,x2,x3,x4⟩ ⟨1+r,1+r,rfl,x1,x2,x1,x2⟩;simp only [ixR,getL,g4,ht];exact h r' c' G4 z1 z2 z3 z4 (L4.mono (by omega)) ((((YT hp).trans E1).trans (E2.trans E3)).trans ((YT hp2).trans E4))
def cop {b p:Int} (hb:1<=b):∃ k:Nat,(k:Int)<b/\Int.gcd b (p+k)=1:=by
 refine ⟨((1-p)%b).toNat,?_,?_⟩
 ·have:=Int.emod_nonneg (1-p) (show b≠0 by omega);have:=Int.emod_lt_of_pos (1-p) (show 0<b by omega);omega
 ·have h1:=Int.emod_nonneg (1-p) (show b≠0 by omega);have h2:=Int.emod_add_mul_ediv (1-p) b;have e:p+(((1-p)%b).toNat:Int)=1+b*(-((1-p)/b)):=by
   rw [Int.toNat_of_nonneg h1,Int.mul_neg];omega
  rw [e];simp
structure Plc (b p0 pl:Int) (i:Nat):Prop where
 lo:p0<=pl
 hi:pl<=p0+i
 at_:Int.gcd b pl=1\/(pl=p0+i/\∀ k:Nat,k<i->Int.gcd b (p0+k)≠1)
def Plc.done {b p0 pl:Int} {n:Nat} (h:Plc b p0 pl n) (hb:1<=b) (hn:b<=n):Int.gcd b pl=1:=by
 rcases h.at_ with h|⟨_,h⟩
 ·exact h
 ·obtain ⟨k,h1,h2⟩:=cop (p:=p0) hb;exact absurd h2 (h k (by omega))
def Plc.next {b p0 pl:Int} {i:Nat} (h:Plc b p0 pl i) (hb:1<=b) (hp:1<=p0) (hg:(1:Int)<(Int.gcd b pl:Nat)):Plc b p0 (pl+1) (i+1):=by
 rcases h.at_ with z|⟨z1,z2⟩
 ·rw [z] at hg;simp at hg
 ·refine ⟨by have:=h.lo;omega,by omega,.inr ⟨by omega,λk hk=>?_⟩⟩;rcases Nat.lt_or_ge k i with q|q
  ·exact z2 k q
  ·have:k=i:=by omega
   subst this;rw [← z1];omega
def Plc.stay {b p0 pl:Int} {i:Nat} (h:Plc b p0 pl i) (hb:1<=b) (hp:1<=p0) (hg:¬ (1:Int)<(Int.gcd b pl:Nat)):Plc b p0 pl (i+1):=by
 have g0:0<Int.gcd b pl:=Int.gcd_pos_of_ne_zero_left _ (by omega);exact ⟨h.lo,by have:=h.hi;omega,.inl (by omega)⟩
def qei {r c b:Int} (hr:1<=r) (hc:1<=c) (hb:1<=b):1<=-(-r*c/b)/\r*c<=b*-(-r*c/b)/\-(-r*c/b)<=r*c:=by
 have h1:=VC hr hc;have e:-r*c=-(r*c):=Int.neg_mul ..;rw [e];have h2:=Int.ediv_neg_of_neg_of_pos (a:=-(r*c)) (b:=b) (by omega) (by omega);have h3:=Int.mul_ediv_self_le (x:=-(r*c)) (k:=b) (by omega);have h4:-(r*c)<=-(r*c)/b:=by
  have:=Int.le_ediv_of_mul_le (a:=-(r*c)) (b:=-(r*c)) (c:=b) (by omega) (by
   have:=Int.mul_le_mul_of_nonneg_left hb (show (0:Int)<=r*c by omega);rw [Int.neg_mul];omega)
  exact this
 rw [Int.mul_neg];omega
def TR:∀ ts G q,ZK ts G q->ts.length=1/\J3 jY qF JC (qeS q) (qu ["_law_left_here","_law_rows","_law_columns","_law_banks","_law_places","_law_turn"] ts) G:=by
 rintro ts G q ⟨a,n,rfl,hL,hn,h⟩;refine ⟨rfl,?_⟩;unfold J3;refine J8 λnx1 q1=>?_;simp only [zg,cb3,qc,v3,qu,map_cons,List.map_nil,length_cons,length_nil,Nat.zero_add,Nat.reduceAdd,Nat.add_one_sub_one,List.reduceReplicate,cons_append,List.nil_append,Nat.zero_lt_succ,getElem?_pos,getElem_cons_zero,qi,jf,qr,gn3,ji,set_cons_succ,set_cons_zero];refine ⟨a,n,rfl,hL,by omega,λr c G1 r1 r2 c1 c2 L1 E1=>?_⟩;simp only [length_cons,length_nil,Nat.zero_add,Nat.reduceAdd,true_and];rw [q1];clear q1;refine J8 λnx2 q2=>?_;simp only [zg,o3,c3,cb3,qc,v3,length_cons,length_nil,Nat.zero_add,Nat.reduceAdd,Nat.zero_lt_succ,getElem?_pos,getElem_cons_zero,VV,qi,sizeLine_eq,Nat.reduceLeDiff,zS,ne_eq,gn3,set_cons_succ,set_cons_zero,true_and];intro p hp;have hpa:=L1.ne hp;refine jz (L1.new hpa) (by decide) (by decide) (by omega) λd G2 d1 d2 L2' E2=>?_;have g2:=E2 p _ hpa qT;obtain ⟨w,hw,w',rfl,w1,w2⟩:=qpY d1 d2 (P:=λt=>∃ w,t=T.int w/\1<=w/\w<=32) ⟨8,rfl,by decide⟩ ⟨17,rfl,by decide⟩ ⟨32,rfl,by decide⟩;simp only [ixR,getL,g2,hw];refine jz L2' w1 (by omega) (by omega) λb G3 b1 b2 L3' E3=>?_;simp [qO,zg,gn3,zd,qln,QB,XZ,qoU,za,v3,c3,o3,u3,T9,L3.ixT,L3.ixR,zS,iI,iC,iB,QC,WM,qhO,tb3,qhG,or3,qaf,VT,qpf,qj7,if3,ch3,cb3,qc,qi,qoX,tyT,qoM,zU,VV,qcy,np3,sp3,jf,qr,ji,XJ,qcE,WD,qu,bm3,qeH,qck,UA,qgA,qdp,qpg,RK,VP,TB,qoS,qo7,qdx,qcd,HT.sIx,getL,in3,EW,eqF,gu,sizeLine_eq,getElem?_cons_zero,getElem?_cons_succ];rw [q2];clear q2;refine J8 λnx3 q3=>?_;simp only [zg,o3,u3,v3,length_cons,length_nil,Nat.zero_add,Nat.reduceAdd,Nat.reduceLT,getElem?_pos,getElem_cons_succ,getElem_cons_zero,T9,iC,cb3,qc,Nat.zero_lt_succ,c3,qi,zS,ne_eq,sizeLine_eq,gn3,set_cons_succ,set_cons_zero];refine ⟨cm (by omega) (by omega),⟨by omega,by omega⟩,jz L3' (by omega) (by omega) (by omega) λe G4 e1 e2 L4 E4=>?_⟩;obtain ⟨u1,u2,u3⟩:=qei r1 c1 (show 1<=1+b by omega);have rc:r*c<=16*16:=Int.mul_le_mul r2 c2 (by omega) (by omega);simp [qO,zg,gn3,zd,qln,QB,XZ,qoU,za,v3,c3,o3,u3,T9,L3.ixT,L3.ixR,zS,iI,iC,iB,QC,WM,qhO,tb3,qhG,or3,qaf,VT,qpf,qj7,if3,ch3,cb3,qc,qi,qoX,tyT,qoM,zU,VV,qcy,np3,sp3,jf,qr,ji,XJ,qcE,WD,qu,bm3,qeH,qck,UA,qgA,qdp,qpg,RK,VP,TB,qoS,qo7,qdx,qcd,HT.sIx,getL,in3,EW,eqF,gu,sizeLine_eq,getElem?_cons_zero,getElem?_cons_succ];rw [q3];clear q3;simp only [qO,DP,zz,qc,c3,qi,Int.reducePow,Int.reduceNeg,Int.neg_ofNat_le_ofNat,Int.reduceLT,and_self,Int.reduceToNat,true_and];obtain ⟨p0,hp0⟩:∃ p0,p0=-(-r*c/(1+b))+e:=⟨_,rfl⟩
 refine WO _ (λi τ G'=>G'=G4/\∃ (pl:Int) (x:Option T),τ=[some (.ref a),some (.int r),some (.int c),some (.int (1+b)),some (.int pl),x]/\Plc (1+b) p0 pl i) ⟨rfl,_,none,by rw [← hp0],⟨by omega,by omega,.inr ⟨by omega,by omega⟩⟩⟩ (λ_ _ _ _ _=>True.intro) ?_ ?_
 ·rintro i x τ G' nx hx ⟨rfl,pl,y,rfl,P⟩ hn;simp only [gn3,QB,tb3,o3,cb3,qc,v3,set_cons_succ,set_cons_zero,length_cons,length_nil,Nat.zero_add,Nat.reduceAdd,Nat.reduceLT,getElem?_pos,getElem_cons_succ,getElem_cons_zero,qi,c3,iB,decide_eq_true_eq,zg,zS,za];refine ⟨1+b,pl,rfl,by omega,by have:=P.lo;omega,?_⟩;simp;split
  ·rename_i hg;exact hn _ _ ⟨rfl,_,_,rfl,P.next (by omega) (by omega) (by omega)⟩
  ·rename_i hg;exact hn _ _ ⟨rfl,_,_,rfl,P.stay (by omega) (by omega) (by omega)⟩
 ·rintro τ G' ⟨rfl,pl,x,rfl,P⟩;simp only [zd,zU,qc,c3,v3,length_cons,length_nil,Nat.zero_add,Nat.reduceAdd,Nat.reduceLT,getElem?_pos,getElem_cons_succ,getElem_cons_zero,qi,sizeLine_eq,Nat.reduceLeDiff,true_and];rw [qaE] at P;have lo:=P.lo;have hi:=P.hi;have m1:(1+b)*-(-r*c/(1+b))<=(1+b)*pl:=Int.mul_le_mul_of_nonneg_left (by omega) (by omega);exact h r c (1+b) pl G' ⟨⟨r1,by omega,c1,by omega,by omega,by omega,by omega,by omega,P.done (by omega) (by omega),by omega⟩,r2,c2,by show 1+b<=32;omega⟩ (L4.mono (by omega)) (E1.trans (((YT hp).trans E2).trans (E3.trans E4)))
def qof {α:Type} {x:α} {xs:List α}:L2.atI (x::xs) 0=some x:=by simp [L2.atI,ixN]
def qm3 {α:Type} {x y:α} {xs:List α}:L2.atI (x::y::xs) 1=some y:=by
 rw [NF (by omega) (by simp;omega)];rfl
def K0 {a b x y:Int} (h0:1<=a) (h1:a<=x) (h2:1<=b) (h3:b<=y):a*b<=x*y:=Int.mul_le_mul h1 h3 (by omega) (by omega)
def Dr.join {d e:Dl} {r c b r' c' b':Int} (D:Dr d r c b) (E:Dr e r' c' b') (h1:r*r'<=4096) (h2:c*c'<=4096) (h3:b*b'<=4096):Dr (.joined d e) (r*r') (c*c') (b*b'):=by
 have Ld:=Dl.lims D.ok;have Le:=Dl.lims E.ok;have a1:=K0 Ld.r1 D.r2 Le.r1 E.r2;have a2:=K0 Ld.c1 D.c2 Le.c1 E.c2;have a3:=K0 Ld.b1 D.b2 Le.b1 E.b2;exact ⟨⟨D.ok,E.ok,by omega,by omega,by omega⟩,a1,a2,a3⟩
def _root_.L3.Dps.append {G:Gp}:∀ {xs ys:List T} {ds es:List PyData},Dps G xs ds->Dps G ys es->Dps G (xs++ys) (ds++es)
 |_,_,_,_,.nil,b=>b
 |_,_,_,_,.cons a t,b=>.cons a (L3.Dps.append t b)
def _root_.L3.Dps.take {G:Gp}:∀ {xs:List T} {ds:List PyData} (i:Nat),Dps G xs ds->Dps G (xs.take i) (ds.take i)
 |_,_,0,_=>.nil
 |_,_,_+1,.nil=>.nil
 |_,_,i+1,.cons a t=>.cons a (L3.Dps.take i t)
def _root_.L3.Dps.drop {G:Gp}:∀ {xs:List T} {ds:List PyData} (i:Nat),Dps G xs ds->Dps G (xs.drop i) (ds.drop i)
 |_,_,0,h=>h
 |_,_,_+1,.nil=>.nil
 |_,_,i+1,.cons a t=>L3.Dps.drop i t
def DY:TS3:=(zd (lc3 (zz (qc (v3 2) qi)) (gn3 0) tt3 (zU (qc (o3 (iC zE (·*·)) (v3 0) (v3 1)) (qc (o3 (iC zE (·*·)) (v3 0) (v3 2)) qi))) [none,some 0,some 1]))
def Y9 (S_strung:Sp3):TS3:=(qO (zg (o3 ix3 (v3 0) (c3 (.int 0))) (gn3 1)) (qO (QB (tb3 (o3 (QC false) (v3 1) (c3 (.str "cells")))) (zd (cb3 TB (qc (o3 ix3 (v3 0) (c3 (.int 1))) qi))) za) (qO (QB (tb3 (o3 (QC false) (v3 1) (c3 (.str "block")))) (zd (qhK (zz (qc (o3 ix3 (v3 0) (c3 (.int 1))) qi)) (gn3 0) tt3 (zz (qc (o3 ix3 (v3 2) (c3 (.int 2))) qi)) (gn3 1) tt3 (zU (qc (v3 0) (qc (v3 1) qi))) [none,none,some 0])) za) (qO (QB (tb3 (o3 (QC false) (v3 1) (c3 (.str "step")))) (zd (cb3 S_strung (qc (o3 ix3 (v3 0) (c3 (.int 1))) (qc (o3 ix3 (v3 0) (c3 (.int 2))) (qc (o3 ix3 (v3 0) (c3 (.int 3))) qi))))) za) (qO (zg (qcC UW (v3 1)) (jf 2 (qr (gn3 2) (qr (gn3 3) ji)))) (zd (cb3 S_strung (qc (v3 2) (qc (v3 3) (qc (o3 ix3 (v3 0) (c3 (.int 1))) qi))))))))))
def D5 (S_size_of:Sp3) (S_cells_of:Sp3):TS3:=(qO (zg (cb3 S_size_of (qc (v3 0) qi)) (jf 3 (qr (gn3 2) (qr (gn3 3) (qr (gn3 4) ji))))) (qO (zg (cb3 S_cells_of (qc (v3 1) qi)) (gn3 5)) (qO (zg (lc3 (WQ (v3 5)) (jf 2 (qr (gn3 0) (qr (gn3 1) ji))) tt3 (v3 0) [none,none]) (gn3 6)) (qO (zg (lc3 (WQ (v3 5)) (jf 2 (qr (gn3 0) (qr (gn3 1) ji))) tt3 (v3 1) [none,none]) (gn3 7)) (zd (qhK (zz (qc (u3 T9 (cb3 TW (qc (v3 6) qi))) (qc (o3 (iI (·-·)) (v3 2) (cb3 SQ (qc (v3 6) qi))) qi))) (gn3 0) tt3 (zz (qc (u3 T9 (cb3 TW (qc (v3 3) qi))) (qc (o3 (iI (·-·)) (v3 2) (cb3 SQ (qc (v3 3) qi))) qi))) (gn3 1) tt3 (zU (qc (v3 0) (qc (v3 1) qi))) [none,none,some 3,some 7]))))))
def YZ (S_law_pick:Sp3):TS3:=(zd (o3 zS (c3 (.int 1)) (cb3 S_law_pick (qc (v3 0) (qc (o3 ix3 (VV (qc (c3 (.int 5)) (qc (c3 (.int 5)) (qc (c3 (.int 5)) (qc (c3 (.int 5)) (qc (c3 (.int 5)) (qc (c3 (.int 5)) (qc (c3 (.int 8)) (qc (c3 (.int 16)) qi))))))))) (cb3 S_law_pick (qc (v3 0) (qc (c3 (.int 8)) qi)))) qi)))))
def VN (S_law_pick:Sp3) (S_law_many:Sp3):TS3:=(qO (zg (cb3 S_law_pick (qc (v3 0) (qc (c3 (.int 9)) qi))) (gn3 1)) (qO (QB (tb3 (o3 (iB λi j=>decide (i<j)) (v3 1) (c3 (.int 4)))) (zd (zU (qc (o3 ix3 (VV (qc (c3 (.str "row")) (qc (c3 (.str "column")) (qc (c3 (.str "slant")) (qc (c3 (.str "back")) qi))))) (v3 1)) (qc (cb3 S_law_many (qc (v3 0) qi)) qi)))) za) (qO (QB (tb3 (o3 (iB λi j=>decide (i<j)) (v3 1) (c3 (.int 6)))) (qO (WD 2 3 (qc (cb3 S_law_pick (qc (v3 0) (qc (c3 (.int 2)) qi))) (qc (o3 zS (c3 (.int 1)) (cb3 S_law_pick (qc (v3 0) (qc (c3 (.int 4)) qi)))) qi))) (qO (zg (o3 zS (c3 (.int 1)) (cb3 S_law_pick (qc (v3 0) (qc (o3 (iC M6 (·/·)) (c3 (.int 16)) (v3 3)) qi)))) (gn3 4)) (zd (o3 ix3 (VV (qc (zU (qc (c3 (.str "block")) (qc (v3 3) (qc (v3 4) qi)))) (qc (zU (qc (c3 (.str "block")) (qc (v3 4) (qc (v3 3) qi)))) qi))) (v3 2))))) za) (qO (QB (tb3 (o3 (iB λi j=>decide (i<j)) (v3 1) (c3 (.int 8)))) (qO (WD 5 6 (qc (o3 (iI (·-·)) (cb3 S_law_pick (qc (v3 0) (qc (c3 (.int 7)) qi))) (c3 (.int 3))) (qc (o3 (iI (·-·)) (cb3 S_law_pick (qc (v3 0) (qc (c3 (.int 9)) qi))) (c3 (.int 4))) qi))) (qO (QB (tb3 (o3 (QC false) (cb3 S_law_pick (qc (v3 0) (qc (c3 (.int 6)) qi))) (c3 (.int 0)))) (zd (zU (qc (c3 (.str "step")) (qc (o3 (iC zE (·*·)) (c3 (.int 5)) (v3 5)) (qc (o3 zS (o3 (iC zE (·*·)) (c3 (.int 3)) (v3 6)) (cb3 RK (qc (VT (o3 (QC false) (v3 5) (c3 (.int 0))) (o3 (QC false) (v3 6) (c3 (.int 0)))) qi))) (qc (o3 zS (c3 (.int 1)) (cb3 S_law_pick (qc (v3 0) (qc (c3 (.int 4)) qi)))) qi)))))) za) (zd (zU (qc (c3 (.str "step")) (qc (v3 5) (qc (o3 zS (v3 6) (cb3 RK (qc (VT (o3 (QC false) (v3 5) (c3 (.int 0))) (o3 (QC false) (v3 6) (c3 (.int 0)))) qi))) (qc (cb3 S_law_many (qc (v3 0) qi)) qi)))))))) za) (qO (WD 7 8 (qc (VV qi) (qc (o3 zS (c3 (.int 1)) (o3 (iC zE (·*·)) (c3 (.int 4)) (cb3 RK (qc (o3 (QC false) (cb3 S_law_pick (qc (v3 0) (qc (c3 (.int 5)) qi))) (c3 (.int 0))) qi)))) qi))) (qO (DP (zz (qc (cb3 S_law_many (qc (v3 0) qi)) qi)) (gn3 9) (qO (zg (zU (qc (o3 (iC zE (·*·)) (v3 8) (o3 (iI (·-·)) (cb3 S_law_pick (qc (v3 0) (qc (c3 (.int 6)) qi))) (c3 (.int 2)))) (qc (o3 (iC zE (·*·)) (v3 8) (o3 (iI (·-·)) (cb3 S_law_pick (qc (v3 0) (qc (c3 (.int 6)) qi))) (c3 (.int 2)))) qi))) (gn3 10)) (QB (tb3 (o3 (qmn true) (v3 10) (v3 7))) (XZ (bm3 qeH (v3 7) (qc (v3 10) qi))) za))) (zd (zU (qc (c3 (.str "cells")) (qc (cb3 VP (qc (v3 7) qi)) qi))))))))))
def J2:TS3:=(qO (QB (tb3 (o3 (QC false) (o3 ix3 (v3 0) (c3 (.int 0))) (c3 (.str "cells")))) (zd (cb3 TB (qc (o3 ix3 (v3 0) (c3 (.int 1))) qi))) za) (qO (QB (tb3 (o3 (QC false) (o3 ix3 (v3 0) (c3 (.int 0))) (c3 (.str "block")))) (qO (zg (VV qi) (gn3 1)) (qO (DP (zz (qc (o3 ix3 (v3 0) (c3 (.int 1))) qi)) (gn3 2) (XZ (bm3 qck (v3 1) (qc (lc3 (zz (qc (o3 ix3 (v3 0) (c3 (.int 2))) qi)) (gn3 0) tt3 (zU (qc (v3 1) (qc (v3 0) qi))) [none,some 2]) qi)))) (zd (v3 1)))) za) (qO (zg (qhu ["row","column","slant","back","step"] (qc (zU (qc (c3 (.int 0)) (qc (c3 (.int 1)) qi))) (qc (zU (qc (c3 (.int 1)) (qc (c3 (.int 0)) qi))) (qc (zU (qc (c3 (.int 1)) (qc (c3 (.int 1)) qi))) (qc (zU (qc (c3 (.int 1)) (qc (u3 T9 (c3 (.int 1))) qi))) (qc (qcy (v3 0) (sp3 (c3 (.int 1))) (sp3 (c3 (.int 3)))) qi))))) (o3 ix3 (v3 0) (c3 (.int 0)))) (jf 2 (qr (gn3 3) (qr (gn3 4) ji)))) (zd (lc3 (zz (qc (o3 ix3 (v3 0) (u3 T9 (c3 (.int 1)))) qi)) (gn3 0) tt3 (zU (qc (o3 (iC zE (·*·)) (v3 0) (v3 1)) (qc (o3 (iC zE (·*·)) (v3 0) (v3 2)) qi))) [none,some 3,some 4])))))
def QP:TS3:=(qO (DP (zz (qc (cb3 UA (qc (v3 0) qi)) qi)) (gn3 1) (DP (zz (qc (o3 zS (v3 1) (c3 (.int 1))) (qc (cb3 UA (qc (v3 0) qi)) qi))) (gn3 2) (QB (tb3 (o3 (QC false) (o3 ix3 (v3 0) (v3 1)) (o3 ix3 (v3 0) (v3 2)))) (zd (zU (qc (v3 1) (qc (v3 2) qi)))) za))) (zd (c3 .non)))
def JK {G:Gp} {p:Addr} {xs:List T} (h:G p=some (.lst xs)):getL G p=some xs:=by unfold getL;rw [h]
def qgZ {xs:List T} {d:Int} (h0:0<=d) (h1:d<(xs.length:Int)):∃ z,L2.atI xs d=some z/\z∈xs:=by
 rw [NF h0 h1];have:d.toNat<xs.length:=by omega
 exact ⟨xs[d.toNat],getElem?_eq_getElem this,List.getElem_mem this⟩
inductive Wk where
 |line (k m:Nat)
 |block (h w:Nat)
 |step (d a:Int) (m:Nat)
 |cells (ps:List (Int×Int))
def ZH:Nat->Str
 |0=>"row" |1=>"column" |2=>"slant" |_=>"back"
def lnD:Nat->Int
 |0=>0|_=>1
def lnA:Nat->Int
 |0=>1|1=>0|2=>1|_=>-1
def pT (p:Int×Int):T:=.tup [.int p.1,.int p.2]
def Wk.t:Wk->T
 |.line k m=>.tup [.str (ZH k),.int m]
 |.block h w=>.tup [.str "block",.int h,.int w]
 |.step d a m=>.tup [.str "step",.int d,.int a,.int m]
 |.cells ps=>.tup [.str "cells",.tup (ps.map pT)]
def qW (d a:Int) (m:Nat):List (Int×Int):=(List.range m).map λ(t:Nat)=>((t:Int)*d,(t:Int)*a)
def q0 (h w:Nat):List (Int×Int):=(List.range h).flatMap λ(p:Nat)=>(List.range w).map λ(q:Nat)=>((p:Int),(q:Int))
def Wk.pc:Wk->List (Int×Int)
 |.line k m=>qW (lnD k) (lnA k) m
 |.block h w=>q0 h w
 |.step d a m=>qW d a m
 |.cells ps=>ps
def Wk.Ok:Wk->Prop
 |.line k m=>k<4/\1<=m/\m<=16
 |.block h w=>1<=h/\1<=w/\h<=16/\w<=16/\h*w<=16
 |.step d a m=>(-16<=d/\d<=16)/\(-16<=a/\a<=16)/\1<=m/\m<=16
 |.cells ps=>1<=ps.length/\ps.length<=16/\ps.Nodup/\∀ p∈ps,(-16<=p.1/\p.1<=16)/\(-16<=p.2/\p.2<=16)
def EO (h w:Nat):q0 (h+1) w=q0 h w++(List.range w).map λ(q:Nat)=>((h:Int),(q:Int)):=by
 simp [q0,List.range_succ]
def jm (h w:Nat):(q0 h w).length=h*w:=by
 induction h with
 |zero=>simp [q0]
 |succ h ih=>rw [EO,length_append,ih,length_map,length_range,Nat.succ_mul]
def qfy {w:Wk} (ok:w.Ok):1<=w.pc.length/\w.pc.length<=16:=by
 cases w with
 |line k m=>simp only [Wk.pc,qW,length_map,length_range];exact ok.2
 |block h v=>
  obtain ⟨h1,h2,h3,h4,h5⟩:=ok;simp only [Wk.pc,jm];exact ⟨Nat.mul_le_mul h1 h2,h5⟩
 |step d a m=>simp only [Wk.pc,qW,length_map,length_range];exact ok.2.2
 |cells ps=>exact ⟨ok.1,ok.2.1⟩
def jO:Sp3:=λts G q=>∃ a n,ts=[.ref a]/\Lf G a n/\n<10000000/\∀ (m:Nat) G',1<=m->m<=16->Lf G' a (n+2)->Ext a G G'->q (.int m) G'
def LG:∀ ts G q,jO ts G q->ts.length=1/\YZ qF (qeS q) (qu ["_law_left_here"] ts) G:=by
 rintro ts G q ⟨a,n,rfl,hL,hn,h⟩;refine ⟨rfl,?_⟩;simp only [YZ,zd,o3,c3,cb3,qc,v3,qu,map_cons,List.map_nil,length_cons,length_nil,Nat.zero_add,Nat.sub_self,List.replicate_zero,List.append_nil,Nat.lt_add_one,getElem?_pos,getElem_cons_zero,VV,qi,Nat.reduceAdd,sizeLine_eq,Nat.reduceLeDiff,zS,ne_eq,true_and];intro p hp;have np:=hL.ne hp;refine jz (hL.new np) (by omega) (by omega) (by omega) λd G1 d0 d1 L1 E1=>?_;have g:=JK (E1 _ _ np qT);obtain ⟨z,hz,hm⟩:=qgZ (xs:=[T.int 5,.int 5,.int 5,.int 5,.int 5,.int 5,.int 8,.int 16]) d0 (by simpa using d1);simp only [L3.ixR,g,hz];have:∃ k:Int,z=.int k/\1<=k/\k<=16:=by
  simp only [mem_cons,not_mem_nil,or_false] at hm;rcases hm with rfl|rfl|rfl|rfl|rfl|rfl|rfl|rfl<;>exact ⟨_,rfl,by omega,by omega⟩
 obtain ⟨k,rfl,k1,k2⟩:=this;refine jz L1 (by omega) (by omega) (by omega) λe G2 e0 e1 L2' E2=>?_;simp;obtain ⟨e',rfl⟩:=Int.eq_ofNat_of_zero_le e0;have:=h (e'+1) G2 (by omega) (by omega) (L2'.mono (by omega)) ((YT hp).trans (E1.trans E2));rw [show (1:Int)+(e':Int)=((e'+1:Nat):Int) by omega];exact this
def pD (p:Int×Int):PyData:=.tuple [.int p.1,.int p.2]
def qjE (G:Gp) (p:Int×Int):Dp G (pT p) (pD p):=.tup (.cons (.int _) (.cons (.int _) .nil))
def qfD (G:Gp):∀ ps:List (Int×Int),Dps G (ps.map pT) (ps.map pD)
 |[]=>.nil
 |p::ps=>.cons (qjE G p) (qfD G ps)
def qoq (p r:Int×Int):ZQ (pD p) (pD r)=some (decide (p=r)):=by
 obtain ⟨a,b⟩:=p;obtain ⟨c,d⟩:=r;simp only [pD,ZQ,VO];by_cases h:a=c<;>by_cases h':b=d<;>simp [h,h']
def pIn (r:Int×Int):∀ ps:List (Int×Int),MP (pD r) (ps.map pD)=some (decide (r∈ps))
 |[]=>by simp [MP]
 |p::ps=>by
  simp only [map_cons,MP,qoq,pIn r ps];by_cases h:p=r
  ·subst h;simp
  ·have h':¬ r=p:=λz=>h z.symm;simp [h,h']
def qkF (p:Int×Int):dpt (pD p)<=40:=by simp [pD,dpt,qcq]
def JR:Sp3:=λts G q=>∃ a n,ts=[.ref a]/\Lf G a n/\n<1000000/\∀ (w:Wk) G',w.Ok->Lf G' a (n+60)->Ext a G G'->q w.t G'
def K7:∀ ts G q,JR ts G q->ts.length=1/\VN qF jO (qeS q) (qu ["_law_left_here","_law_way","_law_lying","_law_high","_law_wide","_law_down","_law_along","_law_pairs","_law_far","_law_turn","_law_pair"] ts) G:=by
 rintro ts G q ⟨a,n,rfl,hL,hn,h⟩;refine ⟨rfl,?_⟩;unfold VN;refine J8 λnx1 q1=>?_;simp only [zg,cb3,qc,v3,qu,map_cons,List.map_nil,length_cons,length_nil,Nat.zero_add,Nat.reduceAdd,Nat.add_one_sub_one,List.reduceReplicate,cons_append,List.nil_append,Nat.zero_lt_succ,getElem?_pos,getElem_cons_zero,c3,qi,gn3,set_cons_succ,set_cons_zero];refine jz hL (by omega) (by omega) (by omega) λway G1 w0 w1 L1 E1=>?_
 try simp
 rw [q1];clear q1;refine J8 λnx2 q2=>?_;by_cases lt:way<4
 ·simp only [QB,tb3,o3,v3,length_cons,length_nil,Nat.zero_add,Nat.reduceAdd,Nat.reduceLT,getElem?_pos,getElem_cons_succ,getElem_cons_zero,c3,iB,lt,decide_true,↓reduceIte,zd,zU,qc,VV,qi,sizeLine_eq,Nat.reduceLeDiff,cb3,Nat.zero_lt_succ,true_and,ixR];intro p hp;have np:=L1.ne hp;have L3':=L1.new np (ob:=.lst [.str "row",.str "column",.str "slant",.str "back"]);obtain ⟨k,rfl⟩:=Int.eq_ofNat_of_zero_le w0;have hk:k<4:=by omega
  have e1:L2.atI [T.str (Str.ofString "row"),.str (Str.ofString "column"),.str (Str.ofString "slant"),.str (Str.ofString "back")] (k:Int)=some (.str (ZH k)):=by
   rcases k with _|_|_|_|k
   ·rfl
   ·rfl
   ·rfl
   ·rfl
   ·omega
  simp only [L3.ixR,JK qT,e1];refine ⟨a,_,rfl,L3',by omega,λm G2 m1 m2 L4 E4=>?_⟩;exact h (.line k m) _ ⟨hk,m1,m2⟩ (L4.mono (by omega)) (E1.trans ((YT hp).trans E4))
 simp only [QB,tb3,o3,v3,c3,iB,getElem?_cons_zero,getElem?_cons_succ,lt,decide_false,Bool.false_eq_true,if_false,za];rw [q2];clear q2;refine J8 λnx3 q3=>?_;by_cases lt6:way<6
 ·simp only [QB,tb3,o3,v3,c3,iB,getElem?_cons_zero,getElem?_cons_succ,lt6,decide_true,if_true];refine J8 λnx4 q4=>?_;simp only [WD,qc,cb3,v3,length_cons,length_nil,Nat.zero_add,Nat.reduceAdd,Nat.zero_lt_succ,getElem?_pos,getElem_cons_zero,c3,qi,o3,zS,ne_eq,sizeLine_eq,set_cons_succ,set_cons_zero];refine jz L1 (by omega) (by omega) (by omega) λly G2 y0 y1 L2' E2=>?_
  try simp
  refine jz L2' (by omega) (by omega) (by omega) λhi G3 h0 h1 L3' E3=>?_
  try simp
  rw [q4];clear q4;obtain ⟨hh,rfl⟩:=Int.eq_ofNat_of_zero_le h0;refine J8 λnx5 q5=>?_;simp only [zg,o3,c3,cb3,qc,v3,length_cons,length_nil,Nat.zero_add,Nat.reduceAdd,Nat.zero_lt_succ,getElem?_pos,getElem_cons_zero,Nat.reduceLT,getElem_cons_succ,iC,qi,zS,ne_eq,sizeLine_eq,gn3,set_cons_succ,set_cons_zero];have dv:1<=(16:Int)/(1+(hh:Int))/\(16:Int)/(1+(hh:Int))<=16:=by
   have:hh=0\/hh=1\/hh=2\/hh=3:=by omega
   rcases this with rfl|rfl|rfl|rfl<;>decide
  refine ⟨⟨by omega,by omega⟩,jz L3' (by omega) (by omega) (by omega) λwi G4 u0 u1 L4 E4=>?_⟩
  try simp
  rw [q5];clear q5;obtain ⟨ww,rfl⟩:=Int.eq_ofNat_of_zero_le u0;have pr:(hh+1)*(ww+1)<=16:=by
   have:hh=0\/hh=1\/hh=2\/hh=3:=by omega
   rcases this with rfl|rfl|rfl|rfl<;>simp at u1<;>omega
  simp only [zd,o3,VV,qc,zU,c3,v3,length_cons,length_nil,Nat.zero_add,Nat.reduceAdd,Nat.reduceLT,getElem?_pos,getElem_cons_succ,getElem_cons_zero,qi,sizeLine_eq,Nat.reduceLeDiff,ixR,true_and];intro p hp;have np:=L4.ne hp;have X4:=E1.trans (E2.trans (E3.trans E4));have z1:(1:Int)+(hh:Int)=((hh+1:Nat):Int):=by omega
  have z2:(1:Int)+(ww:Int)=((ww+1:Nat):Int):=by omega
  rw [z1,z2];have hl:ly=0\/ly=1:=by omega
  rcases hl with rfl|rfl
  ·simp only [L3.ixR,JK qT,qof];exact h (.block (hh+1) (ww+1)) _ ⟨by omega,by omega,by omega,by omega,pr⟩ ((L4.new np).mono (by omega)) (X4.trans (YT hp))
  ·simp only [L3.ixR,JK qT,qm3];exact h (.block (ww+1) (hh+1)) _ ⟨by omega,by omega,by omega,by omega,by rw [Nat.mul_comm];exact pr⟩ ((L4.new np).mono (by omega)) (X4.trans (YT hp))
 simp only [QB,tb3,o3,v3,c3,iB,getElem?_cons_zero,getElem?_cons_succ,lt6,decide_false,Bool.false_eq_true,if_false,za];rw [q3];clear q3;refine J8 λnx4 q4=>?_;by_cases lt8:way<8
 ·simp only [QB,tb3,o3,v3,c3,iB,getElem?_cons_zero,getElem?_cons_succ,lt8,decide_true,if_true];refine J8 λnx5 q5=>?_;simp only [WD,qc,o3,cb3,v3,length_cons,length_nil,Nat.zero_add,Nat.reduceAdd,Nat.zero_lt_succ,getElem?_pos,getElem_cons_zero,c3,qi,iI,set_cons_succ,set_cons_zero];refine jz L1 (by omega) (by omega) (by omega) λd G2 d0 d1 L2' E2=>?_
  try simp
  refine jz L2' (by omega) (by omega) (by omega) λal G3 a0 a1 L3' E3=>?_
  try simp
  rw [q5];clear q5;obtain ⟨D,hD⟩:∃ D,D=d-3:=⟨_,rfl⟩
  obtain ⟨A,hA⟩:∃ A,A=al-4:=⟨_,rfl⟩
  rw [← hD,← hA];refine J8 λnx6 q6=>?_;simp only [QB,tb3,o3,cb3,qc,v3,length_cons,length_nil,Nat.zero_add,Nat.reduceAdd,Nat.zero_lt_succ,getElem?_pos,getElem_cons_zero,c3,qi,QC,WM,Bool.false_eq_true,↓reduceIte,zd,zU,Nat.reduceLT,getElem_cons_succ,iC,VT,decide_eq_true_eq,RK,zS,ne_eq,sizeLine_eq,Nat.reduceLeDiff,true_and,Int.add_zero,za,exists_and_left,Bool.exists_bool];refine jz L3' (by omega) (by omega) (by omega) λsix G4 s0 s1 L4 E4=>?_;have X4:=E1.trans (E2.trans (E3.trans E4));by_cases k0:six=0
  ·subst k0;simp only [decide_true,↓reduceIte];refine ⟨cm (by omega) (by omega),cm (by omega) (by omega),?_⟩;have fin:∀ e:Int,0<=e->e<=1->qF [.ref a,.int 4] G4 λx G'=>(match T.int 1,x with|.int i,.int j=>q (.tup [.str (Str.ofString "step"),.int (5*D),.int (3*A+e),.int (i+j)]) G'|_,_=>False):=by
    intro e e0 e1;refine jz L4 (by omega) (by omega) (by omega) λm G5 m0 m1 L5 E5=>?_;obtain ⟨m',rfl⟩:=Int.eq_ofNat_of_zero_le m0;have:=h (.step (5*D) (3*A+e) (m'+1)) G5 ⟨⟨by omega,by omega⟩,⟨by omega,by omega⟩,by omega,by omega⟩ (L5.mono (by omega)) (X4.trans E5);simp only [Wk.t] at this;rw [show ((m'+1:Nat):Int)=1+(m':Int) by omega] at this;exact this
   by_cases hD0:D=0
   ·by_cases hA0:A=0
    ·have:=fin 1 (by omega) (by omega);simp only [hD0,Int.mul_zero,hA0,Int.zero_add,↓reduceIte] at this ⊢;exact this
    ·have:=fin 0 (by omega) (by omega);simp only [hD0,Int.mul_zero,Int.add_zero,↓reduceIte,hA0] at this ⊢;exact this
   ·have:=fin 0 (by omega) (by omega);simp only [Int.add_zero,hD0,↓reduceIte] at this ⊢;exact this
  ·simp [k0];rw [q6];clear q6;have fin:∀ e:Int,0<=e->e<=1->jO [.ref a] G4 λx G'=>q (.tup [.str (Str.ofString "step"),.int D,.int (A+e),x]) G':=by
    intro e e0 e1;refine ⟨a,_,rfl,L4,by omega,λm G5 m0 m1 L5 E5=>?_⟩;exact h (.step D (A+e) m) G5 ⟨⟨by omega,by omega⟩,⟨by omega,by omega⟩,by omega,by omega⟩ (L5.mono (by omega)) (X4.trans E5)
   by_cases hD0:D=0
   ·by_cases hA0:A=0
    ·have:=fin 1 (by omega) (by omega);simp only [hD0,hA0,Int.zero_add,zd,zU,qc,c3,v3,length_cons,length_nil,Nat.zero_add,Nat.reduceAdd,Nat.reduceLT,getElem?_pos,getElem_cons_succ,getElem_cons_zero,o3,cb3,VT,QC,WM,decide_true,Bool.false_eq_true,↓reduceIte,qi,RK,zS,Nat.zero_lt_succ,sizeLine_eq,Nat.reduceLeDiff,true_and] at this ⊢;exact this
    ·have:=fin 0 (by omega) (by omega);simp only [hD0,Int.add_zero,zd,zU,qc,c3,v3,length_cons,length_nil,Nat.zero_add,Nat.reduceAdd,Nat.reduceLT,getElem?_pos,getElem_cons_succ,getElem_cons_zero,o3,cb3,VT,QC,WM,decide_true,Bool.false_eq_true,↓reduceIte,hA0,decide_false,qi,RK,zS,Nat.zero_lt_succ,sizeLine_eq,Nat.reduceLeDiff,true_and] at this ⊢;exact this
   ·have:=fin 0 (by omega) (by omega);simp only [Int.add_zero,zd,zU,qc,c3,v3,length_cons,length_nil,Nat.zero_add,Nat.reduceAdd,Nat.reduceLT,getElem?_pos,getElem_cons_succ,getElem_cons_zero,o3,cb3,VT,QC,WM,hD0,decide_false,Bool.false_eq_true,↓reduceIte,qi,RK,zS,Nat.zero_lt_succ,sizeLine_eq,Nat.reduceLeDiff,true_and] at this ⊢;exact this
 simp only [QB,tb3,o3,v3,c3,iB,getElem?_cons_zero,getElem?_cons_succ,lt8,decide_false,Bool.false_eq_true,if_false,za];rw [q4];clear q4;refine J8 λnx5 q5=>?_;simp only [WD,qc,VV,qi,length_nil,sizeLine_eq,Nat.zero_le,o3,c3,cb3,v3,length_cons,Nat.zero_add,Nat.reduceAdd,Nat.zero_lt_succ,getElem?_pos,getElem_cons_zero,QC,WM,RK,iC,Bool.false_eq_true,↓reduceIte,zS,set_cons_succ,set_cons_zero,ne_eq,exists_and_left,Bool.exists_bool,Int.mul_zero,Int.add_zero,Int.mul_one,Int.reduceAdd,true_and];intro pp hpp;have npp:=L1.ne hpp;have Lp:=L1.new npp (ob:=.lst []);refine jz Lp (by omega) (by omega) (by omega) λfv G2 f0 f1 L2' E2=>?_;have gp2:=E2 _ _ npp qT;have X2:Ext a G G2:=E1.trans ((YT hpp).trans E2);have hf:∃ far:Int,(far=1\/far=5)/\nx5=nx5:=⟨1,.inl rfl,rfl⟩
 clear hf;have fin:∀ far:Int,far=1\/far=5->nx5 [some (.ref a),some (.int way),none,none,none,none,none,some (.ref pp),some (.int far),none,none] G2:=by
  intro far hfar;rw [q5];clear q5;refine J8 λnx6 q6=>?_;simp only [DP,zz,cb3,qc,qi,v3,getElem?_cons_zero,getElem?_cons_succ];refine ⟨a,_,rfl,L2',by omega,λm G3 m1 m2 L3' E3=>?_⟩;have gp3:=E3 _ _ npp gp2;refine ⟨⟨by omega,by omega⟩,?_⟩;rw [Int.toNat_natCast];refine WO _ (λi τ G'=>∃ ps:List (Int×Int),G' pp=some (.lst (ps.map pT))/\(1<=i->1<=ps.length)/\ps.length<=i/\ps.Nodup/\(∀ p∈ps,(-16<=p.1/\p.1<=16)/\(-16<=p.2/\p.2<=16))/\Lf G' a (n+5+2*i)/\Ext a G G'/\∃ x9 x10,τ=[some (.ref a),some (.int way),none,none,none,none,none,some (.ref pp),some (.int far),x9,x10])
   ⟨[],gp3,by omega,by simp,by simp,(by intro p hp;cases hp),by simpa using L3'.mono (by omega),X2.trans E3,none,none,rfl⟩ (λ_ _ _ _ _=>True.intro) ?_ ?_
  ·rintro i z τ G' nx hz ⟨ps,gp,i1,pl,nd,bd,L,E,x9,x10,rfl⟩ hnx;obtain ⟨hi,rfl⟩:=qbT hz;simp only [gn3,set_cons_succ,set_cons_zero];refine J8 λnx7 q7=>?_;simp only [zg,zU,qc,o3,v3,Int.zero_add,length_cons,length_nil,Nat.zero_add,Nat.reduceAdd,Nat.reduceLT,getElem?_pos,getElem_cons_succ,getElem_cons_zero,cb3,Nat.zero_lt_succ,c3,qi,iI,iC,sizeLine_eq,Nat.reduceLeDiff,gn3,set_cons_succ,set_cons_zero,true_and];refine jz L (by omega) (by omega) (by omega) λu G4 u0 u1 L4 E4=>?_
   try simp
   refine ⟨cm (by omega) (by omega),jz L4 (by omega) (by omega) (by omega) λv G5 v0 v1 L5 E5=>?_⟩
   try simp
   refine ⟨cm (by omega) (by omega),?_⟩;rw [q7];clear q7;have gp5:=E5 _ _ npp (E4 _ _ npp gp);have X5:=E.trans (E4.trans E5);have pe:T.tup [.int (far*(u-2)),.int (far*(v-2))]=pT (far*(u-2),far*(v-2)):=rfl;rw [pe];have pb:(-16<=far*(u-2)/\far*(u-2)<=16)/\(-16<=far*(v-2)/\far*(v-2)<=16):=by rcases hfar with rfl|rfl<;>omega
   generalize hP:(far*(u-2),far*(v-2))=P at *;have pb':(-16<=P.1/\P.1<=16)/\(-16<=P.2/\P.2<=16):=by rw [← hP];exact pb
   simp only [QB,tb3,o3,v3,getElem?_cons_zero,getElem?_cons_succ];refine ⟨_,_,_,_,JK gp5,qjE _ _,qfD _ _,pIn _ _,λd hd=>?_,?_⟩
   ·obtain ⟨p,_,rfl⟩:=mem_map.mp hd;exact qkF p
   ·by_cases hm:P∈ps
    ·simp only [↓reduceIte,hm,decide_true,Bool.not_true,Bool.false_eq_true,za];exact hnx _ _ ⟨ps,gp5,λ_=>List.length_pos_of_mem hm,by omega,nd,bd,L5.mono (by omega),X5,_,_,rfl⟩
    ·simp only [↓reduceIte,hm,decide_false,Bool.not_false,XZ,bm3,v3,length_cons,length_nil,Nat.zero_add,Nat.reduceAdd,Nat.reduceLT,getElem?_pos,getElem_cons_succ,getElem_cons_zero,qc,Nat.lt_add_one,qi,qeH,gp5,length_map,sizeLine_eq];refine ⟨by rw [JK gp5];rfl,by omega,?_⟩;refine hnx _ _ ⟨ps++[P],by rw [qT];simp,λ_=>by simp,by simp;omega,?_,λp hp=>?_,L5.new npp |>.mono (by omega),λb o hb eb=>?_,_,_,rfl⟩
     ·rw [List.nodup_append];exact ⟨nd,by simp,λx hx y hy=>by simp at hy;subst hy;rintro rfl;exact hm hx⟩
     ·rcases List.mem_append.mp hp with hp|hp
      ·exact bd p hp
      ·simp at hp;subst hp;exact pb'
     ·have:b≠pp:=by
       rintro rfl;have:=E1 _ _ hb eb;rw [hpp] at this;cases this
      rw [QE this];exact X5 _ _ hb eb
  ·rintro τ G' ⟨ps,gp,i1,pl,nd,bd,L,E,x9,x10,rfl⟩;rw [qaE] at i1 pl L;show nx6 _ _;rw [q6];simp only [zd,zU,qc,c3,cb3,v3,length_cons,length_nil,Nat.zero_add,Nat.reduceAdd,Nat.reduceLT,getElem?_pos,getElem_cons_succ,getElem_cons_zero,qi,VP,JK gp,sizeLine_eq,Nat.reduceLeDiff,true_and];exact h (.cells ps) G' ⟨i1 m1,by omega,nd,bd⟩ (L.mono (by omega)) E
 by_cases k0:fv=0
 ·have:=fin 5 (.inr rfl);simp only [k0,decide_true,↓reduceIte,Int.mul_one,Int.reduceAdd];exact ⟨cm (by omega) (by omega),this⟩
 ·have:=fin 1 (.inl rfl);simp only [k0,decide_false,Bool.false_eq_true,↓reduceIte,Int.mul_zero,Int.add_zero];exact ⟨cm (by omega) (by omega),this⟩
def Un2 (ns:List Int) (i:Nat):Prop:=∀ a b,a<i->a<b->b<ns.length->ns[a]?≠ns[b]?
structure Fst (ns:List Int) (i j:Nat):Prop where
 ij:i<j
 jl:j<ns.length
 un:Un2 ns i
 nb:∀ b,i<b->b<j->ns[i]?≠ns[b]?
 eq:ns[i]?=ns[j]?
def Fst.uniq {ns:List Int} {i j i' j':Nat} (F:Fst ns i j) (F':Fst ns i' j'):i=i'/\j=j':=by
 have e:i=i':=by
  rcases Nat.lt_trichotomy i i' with z|z|z
  ·exact absurd F.eq (F'.un i j z F.ij F.jl)
  ·exact z
  ·exact absurd F'.eq (F.un i' j' z F'.ij F'.jl)
 subst e;refine ⟨rfl,?_⟩;rcases Nat.lt_trichotomy j j' with z|z|z
 ·exact absurd F.eq (F'.nb j F.ij z)
 ·exact z
 ·exact absurd F'.eq (F.nb j' F'.ij z)
open Classical in
def faO (ns:List Int):Option (Nat×Nat):=if h:∃ ij:Nat×Nat,Fst ns ij.1 ij.2 then some h.choose else none
def zN {ns:List Int} {i j:Nat} (F:Fst ns i j):faO ns=some (i,j):=by
 have h:∃ ij:Nat×Nat,Fst ns ij.1 ij.2:=⟨(i,j),F⟩
 unfold faO;rw [dif_pos h];have:=h.choose_spec;obtain ⟨e1,e2⟩:=this.uniq F;exact congrArg some (Prod.ext e1 e2)
def ju {ns:List Int} (h:Un2 ns ns.length):faO ns=none:=by
 unfold faO;rw [dif_neg];rintro ⟨ij,F⟩;exact h ij.1 ij.2 (Nat.lt_trans F.ij F.jl) F.ij F.jl F.eq
def Y5 (S_cells_of:Sp3):TS3:=(qO (zg (v3 1) (jf 2 (qr (gn3 3) (qr (gn3 4) ji)))) (zd (cb3 VP (qc (lc3 (WQ (cb3 S_cells_of (qc (v3 2) qi))) (jf 2 (qr (gn3 0) (qr (gn3 1) ji))) tt3 (o3 (iC (λ_ j=>0<j) (·%·)) (o3 zS (o3 (iC zE (·*·)) (v3 3) (v3 0)) (o3 (iC zE (·*·)) (v3 4) (v3 1))) (v3 2)) [none,none,some 0,some 3,some 4]) qi))))
def J4 {ns:List Int} (h:¬ Un2 ns ns.length):∃ i j,Fst ns i j:=by
 have key:∀ k,k<=ns.length->Un2 ns k\/∃ i j,Fst ns i j:=by
  intro k;induction k with
  |zero=>exact λ_=>.inl λa b ha=>by omega
  |succ k ih=>
   intro hk;rcases ih (by omega) with hu|he
   ·have inner:∀ n,(∀ b,k<b->b<k+1+n->b<ns.length->ns[k]?≠ns[b]?)\/∃ j,Fst ns k j:=by
     intro n;induction n with
     |zero=>exact .inl λb h1 h2=>by omega
     |succ n ihn=>
      rcases ihn with hn|he
      ·by_cases hb:k+1+n<ns.length/\ns[k]?=ns[k+1+n]?
       ·exact .inr ⟨k+1+n,by omega,hb.1,hu,λb h1 h2=>hn b h1 h2 (by omega),hb.2⟩
       ·refine .inl λb h1 h2 h3=>?_;by_cases e:b=k+1+n
        ·subst e;exact λz=>hb ⟨h3,z⟩
        ·exact hn b h1 (by omega) h3
      ·exact .inr he
    rcases inner ns.length with hn|⟨j,F⟩
    ·refine .inl λa b ha hab hb=>?_;by_cases e:a=k
     ·subst e;exact hn b hab (by omega) hb
     ·exact hu a b (by omega) hab hb
    ·exact .inr ⟨k,j,F⟩
   ·exact .inr he
 rcases key ns.length (Nat.le_refl _) with hu|he
 ·exact absurd hu h
 ·exact he
def qbE (val:Nat->Int):∀ i,(PyProof.Rows.firstMet val i).length=i↔∀ a b,a<b->b<i->val a≠val b
 |0=>by simp [PyProof.Rows.firstMet_zero]
 |i+1=>by
  have ih:=qbE val i;have le:=PyProof.Rows.firstMet_length_le val i;have an:=PyProof.Rows.firstMet_any val i (val i);rw [PyProof.Rows.firstMet_succ];unfold PyProof.Rows.step_dedup;by_cases hq:((PyProof.Rows.firstMet val i).any (·==val i))=true
  ·rw [if_pos hq];constructor
   ·intro e;omega
   ·intro hh;rw [an] at hq;simp at hq;obtain ⟨a,ha,e⟩:=hq;exact absurd e (hh a i ha (by omega))
  ·rw [if_neg hq,length_append,List.length_singleton];have hq':∀ a,a<i->val a≠val i:=by
    intro a ha e;apply hq;rw [an];simp;exact ⟨a,ha,e⟩
   constructor
   ·intro e a b hab hb;by_cases eb:b=i
    ·subst eb;exact hq' a hab
    ·exact (ih.mp (by omega)) a b hab (by omega)
   ·intro hh;rw [ih.mpr λa b hab hb=>hh a b hab (by omega)]
def NP {ns:List Int}:Z7 ns=ns.length↔Un2 ns ns.length:=by
 unfold Z7;rw [qbE];constructor
 ·intro h a b ha hab hb e;refine h a b hab hb ?_;rw [getD_eq_getElem?_getD,getD_eq_getElem?_getD,e]
 ·intro h a b hab hb e;have ha:a<ns.length:=by omega
  apply h a b ha hab hb;rw [getD_eq_getElem?_getD,getD_eq_getElem?_getD] at e;simp [ha,hb] at e;simp [ha,hb,e]
end Bk
namespace Pu
open PySem L2 L3
def cif {α:Type} (P:Prop) (a b:α):α:=@ite α P (Classical.propDecidable P) a b
def zI {α:Type} {P:Prop} {a b:α} (h:P):cif P a b=a:=@if_pos P (Classical.propDecidable P) h α a b
def YM {α:Type} {P:Prop} {a b:α} (h:¬ P):cif P a b=b:=@if_neg P (Classical.propDecidable P) h α a b
structure Tru (b:Bool):Prop where
 h:b=true
mutual
inductive Dq (G:Gp):T->PyData->Prop
 |non:Dq G .non .none
 |bl (b:Bool):Dq G (.bl b) (.bool b)
 |int (i:Int):Dq G (.int i) (.int i)
 |str (x:Str):Dq G (.str x) (.str x)
 |tup {xs:List T} {ds:List PyData}:Dqs G xs ds->Dq G (.tup xs) (.tuple ds)
 |lst {p:Addr} {xs:List T} {ds:List PyData}:G p=some (.lst xs)->Dqs G xs ds->Dq G (.ref p) (.list ds)
inductive Dqs (G:Gp):List T->List PyData->Prop
 |nil:Dqs G [] []
 |cons {x:T} {d:PyData} {xs:List T} {ds:List PyData}:Dq G x d->Dqs G xs ds->Dqs G (x::xs) (d::ds)
end
mutual
def Dq.up {G G':Gp} (e:Ex G G'):∀ {x:T} {d:PyData},Dq G x d->Dq G' x d
 |_,_,.non=>.non
 |_,_,.bl b=>.bl b
 |_,_,.int i=>.int i
 |_,_,.str x=>.str x
 |_,_,.tup h=>.tup (Dqs.up e h)
 |_,_,.lst h1 h2=>.lst (e _ _ h1) (Dqs.up e h2)
def Dqs.up {G G':Gp} (e:Ex G G'):∀ {x:List T} {d:List PyData},Dqs G x d->Dqs G' x d
 |_,_,.nil=>.nil
 |_,_,.cons a b=>.cons (Dq.up e a) (Dqs.up e b)
end
def jh {G:Gp} {p:Addr} {xs:List T} (h:G p=some (.lst xs)):getL G p=some xs:=by unfold getL;rw [h]
mutual
def Dq.dp {G:Gp}:∀ {x:T} {d:PyData},Dq G x d->Dp G x d
 |_,_,.non=>.non
 |_,_,.bl b=>.bl b
 |_,_,.int i=>.int i
 |_,_,.str x=>.str x
 |_,_,.tup h=>.tup (Dqs.dp h)
 |_,_,.lst h1 h2=>.lst (jh h1) (Dqs.dp h2)
def Dqs.dp {G:Gp}:∀ {x:List T} {d:List PyData},Dqs G x d->Dps G x d
 |_,_,.nil=>.nil
 |_,_,.cons a b=>.cons (Dq.dp a) (Dqs.dp b)
end
def Dqs.length {G:Gp}:∀ {xs:List T} {ds:List PyData},Dqs G xs ds->xs.length=ds.length
 |_,_,.nil=>rfl
 |_,_,.cons _ b=>by simp [Dqs.length b]
def Dqs.get {G:Gp}:∀ {xs:List T} {ds:List PyData} {i:Nat} {d:PyData},Dqs G xs ds->ds[i]?=some d->∃ x,xs[i]?=some x/\Dq G x d
 |_,_,_,_,.nil,e=>by simp at e
 |_,_,0,_,.cons r _,e=>by simp at e;subst e;exact ⟨_,rfl,r⟩
 |_,_,i+1,d,.cons _ t,e=>by
  obtain ⟨u,h1,h2⟩:=Dqs.get (i:=i) (d:=d) t (by simpa using e);exact ⟨u,by simpa using h1,h2⟩
def Dqs.append {G:Gp}:∀ {xs:List T} {ds:List PyData} {ys:List T} {es:List PyData},Dqs G xs ds->Dqs G ys es->Dqs G (xs++ys) (ds++es)
 |_,_,_,_,.nil,h=>h
 |_,_,_,_,.cons a b,h=>.cons a (Dqs.append b h)
def Dqs.drop {G:Gp}:∀ {xs:List T} {ds:List PyData} (n:Nat),Dqs G xs ds->Dqs G (xs.drop n) (ds.drop n)
 |_,_,0,h=>h
 |_,_,_+1,.nil=>.nil
 |_,_,n+1,.cons _ b=>Dqs.drop n b
def Dqs.take {G:Gp}:∀ {xs:List T} {ds:List PyData} (n:Nat),Dqs G xs ds->Dqs G (xs.take n) (ds.take n)
 |_,_,0,h=>by simp;exact .nil
 |_,_,_+1,.nil=>.nil
 |_,_,n+1,.cons a b=>.cons a (Dqs.take n b)
def Dqs.ints {G:Gp}:∀ {ns:List Int} {xs:List T},Dqs G xs (ns.map PyData.int)->xs=ns.map T.int
 |[],_,.nil=>rfl
 |n::ns,_,.cons a b=>by cases a;rw [Dqs.ints b];rfl
def Dqs.ofInts {G:Gp}:∀ (ns:List Int),Dqs G (ns.map T.int) (ns.map PyData.int)
 |[]=>.nil
 |n::r=>.cons (.int n) (Dqs.ofInts r)
def rs (D:Addr->Prop) (G:Gp):Gp:=λb=>cif (D b) none (G b)
def qZ {D:Addr->Prop} {G:Gp} {b:Addr} {o:O} (h:rs D G b=some o):¬ D b/\G b=some o:=by
 unfold rs cif at h;split at h
 ·cases h
 ·rename_i n;exact ⟨n,h⟩
def QH {D:Addr->Prop} {G:Gp} {b:Addr} (n:¬ D b):rs D G b=G b:=by unfold rs;exact YM n
def JX {D:Addr->Prop} {G:Gp}:Ex (rs D G) G:=λb o h=>(qZ h).2
def ZO {D:Addr->Prop} {G G':Gp} (e:Ex G G'):Ex (rs D G) (rs D G'):=λb o h=>by
 obtain ⟨n,h⟩:=qZ h;rw [QH n];exact e _ _ h
def zX {D D':Addr->Prop} {G:Gp} (h:∀ b,D' b->D b):Ex (rs D G) (rs D' G):=λb o e=>by
 obtain ⟨n,e⟩:=qZ e;rw [QH λz=>n (h b z)];exact e
def Dom (D:Addr->Prop) (G:Gp):Prop:=∀ b,D b->G b≠none
def Dom.up {D:Addr->Prop} {G G':Gp} (h:Dom D G) (e:Ex G G'):Dom D G':=λb d z=>by
 cases g:G b with
 |none=>exact h b d g
 |some o=>rw [e _ _ g] at z;cases z
def qlX {D:Addr->Prop} {G:Gp} {p:Addr} {o:O} (hd:Dom D G) (hp:G p=none):rs D (gu G p o) p=some o:=by
 rw [QH λz=>hd p z hp,qT]
inductive Sl where
 |un|sh (d:PyData)|ow (ds:List PyData)
abbrev Rho:=List Sl
def Sl.d:Sl->Option PyData
 |.un=>none|.sh d=>some d|.ow ds=>some (.list ds)
def vw (ρ:Rho) (i:Nat):Option PyData:=(ρ[i]?).bind Sl.d
def CF (fv:List Nat) (D:Addr->Prop) (G:Gp) (τ:St3) (ρ:Rho):Prop:=∀ i∈fv,∀ d,vw ρ i=some d->∃ t,τ[i]?=some (some t)/\Dq (rs D G) t d
def CF.up {fv:List Nat} {D:Addr->Prop} {G G':Gp} {τ:St3} {ρ:Rho} (h:CF fv D G τ ρ) (e:Ex G G'):CF fv D G' τ ρ:=λi hi d hd=>
 let ⟨t,a,b⟩:=h i hi d hd;⟨t,a,b.up (ZO e)⟩
def CF.l {fv gv:List Nat} {D:Addr->Prop} {G:Gp} {τ:St3} {ρ:Rho} (h:CF (fv++gv) D G τ ρ):CF fv D G τ ρ:=λi hi=>h i (by simp [hi])
def CF.r {fv gv:List Nat} {D:Addr->Prop} {G:Gp} {τ:St3} {ρ:Rho} (h:CF (fv++gv) D G τ ρ):CF gv D G τ ρ:=λi hi=>h i (by simp [hi])
def Nw (D:Addr->Prop) (G G':Gp) (x:T) (d:PyData):Prop:=d=.none\/∃ p xs ds,x=.ref p/\d=.list ds/\G p=none/\G' p=some (.lst xs)/\Dqs (rs (λb=>D b\/b=p) G') xs ds
def Nw.back {D:Addr->Prop} {G0 G G':Gp} {x:T} {d:PyData} (h:Nw D G G' x d) (e:Ex G0 G):Nw D G0 G' x d:=by
 rcases h with h|⟨p,xs,ds,a,b,c,r⟩
 ·exact .inl h
 refine .inr ⟨p,xs,ds,a,b,?_,r⟩;cases z:G0 p with
 |none=>rfl
 |some o=>rw [e _ _ z] at c;cases c
structure PuE (t:TE3) where
 f:Rho->Option PyData
 fv:List Nat
 nw:Bool
 ok:∀ {D τ ρ G} {q:Q3} {d},CF fv D G τ ρ->Dom D G->f ρ=some d->(∀ x G',Ex G G'->Dq (rs D G') x d->(nw=true->Nw D G G' x d)->q x G')->t τ G q
structure PuC (t:TT3) where
 f:Rho->Option Bool
 fv:List Nat
 ok:∀ {D τ ρ G} {q:Bool->Gp->Prop} {k},CF fv D G τ ρ->Dom D G->f ρ=some k->(∀ G',Ex G G'->q k G')->t τ G q
structure PuA (t:TA3) where
 f:Rho->Option (List PyData)
 fv:List Nat
 n:Nat
 ln:∀ {ρ d},f ρ=some d->d.length=n
 ok:∀ {D τ ρ G} {q:List T->Gp->Prop} {d},CF fv D G τ ρ->Dom D G->f ρ=some d->(∀ x G',Ex G G'->Dqs (rs D G') x d->q x G')->t τ G q
structure PuO (t:TO3) where
 f:Rho->Option (Option Int)
 fv:List Nat
 ok:∀ {D τ ρ G} {q:Option Int->Gp->Prop} {k},CF fv D G τ ρ->Dom D G->f ρ=some k->(∀ G',Ex G G'->q k G')->t τ G q
structure PuI (t:TI3) where
 f:Rho->Option (List PyData)
 fv:List Nat
 /-- numbers alone -/
 nm:Bool
 ok:∀ {D τ ρ G} {r:List T->(Gp->Prop)->Gp->Prop} {ds},CF fv D G τ ρ->Dom D G->f ρ=some ds ->
  (∀ items stay G',Ex G G'->Dqs (rs D G') items ds->(∀ G'',(nm=true\/Ex (rs D G') G'')->stay G'')->(nm=true->∃ ns:List Int,ds=ns.map PyData.int)->r items stay G')->t τ G r
structure OpD (r:R3) where
 f:PyData->PyData->Option PyData
 nw:Bool
 ok:∀ {D G x y d e v} {q:Q3},Dq (rs D G) x d->Dq (rs D G) y e->Dom D G->f d e=some v->(∀ z G',Ex G G'->Dq (rs D G') z v->(nw=true->Nw D G G' z v)->q z G')->r x y G q
structure FnD (r:List T->Gp->Q3->Prop) where
 f:List PyData->Option PyData
 nw:Bool
 ok:∀ {D G xs ds v} {q:Q3},Dqs (rs D G) xs ds->Dom D G->f ds=some v->(∀ z G',Ex G G'->Dq (rs D G') z v->(nw=true->Nw D G G' z v)->q z G')->r xs G q
def bV (i:Nat):PuE (v3 i):=⟨λρ=>vw ρ i,[i],false,λhv hd hf k=>by
 obtain ⟨t,e,h⟩:=hv i (by simp) _ hf;unfold v3;rw [e];exact k t _ Ex.refl h (λz=>by cases z)⟩
def qx (i:Int):PuE (c3 (.int i)):=⟨λ_=>some (.int i),[],false,λhv hd hf k=>by cases hf;exact k _ _ Ex.refl (.int i) (λz=>by cases z)⟩
def bBl (i:Bool):PuE (c3 (.bl i)):=⟨λ_=>some (.bool i),[],false,λhv hd hf k=>by cases hf;exact k _ _ Ex.refl (.bl i) (λz=>by cases z)⟩
def WF (i:Str):PuE (c3 (.str i)):=⟨λ_=>some (.str i),[],false,λhv hd hf k=>by cases hf;exact k _ _ Ex.refl (.str i) (λz=>by cases z)⟩
def qmu:PuE (c3 .non):=⟨λ_=>some .none,[],false,λhv hd hf k=>by cases hf;exact k _ _ Ex.refl .non (λz=>by cases z)⟩
def bO {r:R3} {ta tb:TE3} (R:OpD r) (a:PuE ta) (b:PuE tb):PuE (o3 r ta tb):=
 ⟨λρ=>(a.f ρ).bind λx=>(b.f ρ).bind λy=>R.f x y,a.fv++b.fv,R.nw,λhv hd hf k=>by
  obtain ⟨x,e1,hf⟩:=obb hf;obtain ⟨y,e2,hf⟩:=obb hf;exact a.ok hv.l hd e1 λx' G1 E1 D1 _=>b.ok (hv.r.up E1) (hd.up E1) e2 λy' G2 E2 D2 _=>R.ok (D1.up (ZO E2)) D2 ((hd.up E1).up E2) hf λz G3 E3 D3 N3=>k z G3 ((E1.trans E2).trans E3) D3 λh=>(N3 h).back (E1.trans E2)⟩
def qv:PuA qi:=⟨λ_=>some [],[],0,(λh=>by cases h;rfl),λhv hd hf k=>by cases hf;exact k _ _ Ex.refl .nil⟩
def qf {ta:TE3} {tr:TA3} (a:PuE ta) (r:PuA tr):PuA (qc ta tr):=
 ⟨λρ=>(a.f ρ).bind λx=>(r.f ρ).bind λxs=>some (x::xs),a.fv++r.fv,r.n+1,(λhf=>by
  obtain ⟨x,e1,hf⟩:=obb hf;obtain ⟨xs,e2,hf⟩:=obb hf;cases hf;simp [r.ln e2]),λhv hd hf k=>by
  obtain ⟨x,e1,hf⟩:=obb hf;obtain ⟨xs,e2,hf⟩:=obb hf;cases hf;exact a.ok hv.l hd e1 λx' G1 E1 D1 _=>r.ok (hv.r.up E1) (hd.up E1) e2 λy' G2 E2 D2=>k _ G2 (E1.trans E2) (.cons (D1.up (ZO E2)) D2)⟩
def few {n:Nat} (h:Tru (Nat.ble n 1000)):n<=sizeLine:=Nat.le_trans (Nat.le_of_ble_eq_true h.h) (by rw [sizeLine_eq];omega)
def ZS {t:TA3} (a:PuA t) (hn:Tru (Nat.ble a.n 1000)):PuE (zU t):=⟨λρ=>(a.f ρ).map .tuple,a.fv,false,λhv hd hf k=>by
 obtain ⟨xs,e1,rfl⟩:=Option.map_eq_some_iff.mp hf;exact a.ok hv hd e1 λx G1 E1 D1=>⟨by rw [D1.length,a.ln e1];exact few hn,k _ _ E1 (.tup D1) (λz=>by cases z)⟩⟩
def ND {D:Addr->Prop} {G:Gp} {p:Addr} {xs:List T} {ds:List PyData} (hp:G p=none) (h:Dqs (rs D G) xs ds):Nw D G (gu G p (.lst xs)) (.ref p) (.list ds):=
 .inr ⟨p,xs,ds,rfl,rfl,hp,qT,h.up λb o e=>by
  obtain ⟨n,e⟩:=qZ e;have:b≠p:=by rintro rfl;rw [hp] at e;cases e
  rw [QH (by rintro (z|z);exact n z;exact this z),QE this];exact e⟩
def CM {D:Addr->Prop} {G:Gp} {p:Addr} {xs:List T} {ds:List PyData} (hd:Dom D G) (hp:G p=none) (h:Dqs (rs D G) xs ds):Dq (rs D (gu G p (.lst xs))) (.ref p) (.list ds):=
 .lst (qlX hd hp) (h.up (ZO (DI hp)))
def qct {t:TA3} (a:PuA t) (hn:Tru (Nat.ble a.n 1000)):PuE (VV t):=⟨λρ=>(a.f ρ).map .list,a.fv,true,λhv hd hf k=>by
 obtain ⟨xs,e1,rfl⟩:=Option.map_eq_some_iff.mp hf;exact a.ok hv hd e1 λx G1 E1 D1=>⟨by rw [D1.length,a.ln e1];exact few hn,λp hp=>k _ _ (E1.trans (DI hp)) (CM (hd.up E1) hp D1) λ_=>(ND hp D1).back E1⟩⟩
def qD {r:List T->Gp->Q3->Prop} {t:TA3} (R:FnD r) (a:PuA t):PuE (cb3 r t):=
 ⟨λρ=>(a.f ρ).bind R.f,a.fv,R.nw,λhv hd hf k=>by
  obtain ⟨x,e1,hf⟩:=obb hf;exact a.ok hv hd e1 λx' G1 E1 D1=>R.ok D1 (hd.up E1) hf λz G3 E3 D3 N3=>k z G3 (E1.trans E3) D3 λh=>(N3 h).back E1⟩
def asB:PyData->Option Bool
 |.bool b=>some b
 |_=>none
def asI:PyData->Option Int
 |.int b=>some b
 |_=>none
def qaA {d:PyData} {b:Bool} (h:asB d=some b):d=.bool b:=by cases d<;>simp [asB] at h;subst h;rfl
def MT {d:PyData} {b:Int} (h:asI d=some b):d=.int b:=by cases d<;>simp [asI] at h;subst h;rfl
def bTb {t:TE3} (a:PuE t):PuC (tb3 t):=⟨λρ=>(a.f ρ).bind asB,a.fv,λhv hd hf k=>by
 obtain ⟨x,e1,hf⟩:=obb hf;have:=qaA hf;subst this;exact a.ok hv hd e1 λx' G1 E1 D1 _=>by cases D1;exact k G1 E1⟩
def qoJ {t u:TT3} (a:PuC t) (b:PuC u):PuC (qhG t u):=⟨λρ=>(a.f ρ).bind λk=>if k then b.f ρ else some false,a.fv++b.fv,λhv hd hf k=>by
 obtain ⟨x,e1,hf⟩:=obb hf;refine a.ok hv.l hd e1 λG1 E1=>?_;cases x with
 |true=>exact b.ok (hv.r.up E1) (hd.up E1) hf λG2 E2=>k G2 (E1.trans E2)
 |false=>cases hf;exact k G1 E1⟩
def bOr {t u:TT3} (a:PuC t) (b:PuC u):PuC (or3 t u):=⟨λρ=>(a.f ρ).bind λk=>if k then some true else b.f ρ,a.fv++b.fv,λhv hd hf k=>by
 obtain ⟨x,e1,hf⟩:=obb hf;refine a.ok hv.l hd e1 λG1 E1=>?_;cases x with
 |false=>exact b.ok (hv.r.up E1) (hd.up E1) hf λG2 E2=>k G2 (E1.trans E2)
 |true=>cases hf;exact k G1 E1⟩
def qmX {t:TT3} (a:PuC t):PuC (qaf t):=⟨λρ=>(a.f ρ).map (! ·),a.fv,λhv hd hf k=>by
 obtain ⟨x,e1,hf⟩:=Option.map_eq_some_iff.mp hf;subst hf;exact a.ok hv hd e1 λG1 E1=>k G1 E1⟩
def bTt:PuC tt3:=⟨λ_=>some true,[],λhv hd hf k=>by cases hf;exact k _ Ex.refl⟩
def qab {ta tb:TE3} (a:PuE ta) (b:PuE tb):PuE (VT ta tb):=⟨λρ=>((a.f ρ).bind asB).bind λk=>if k then b.f ρ else some (.bool false),a.fv++b.fv,false,λhv hd hf k=>by
 obtain ⟨x,e1,hf⟩:=obb hf;obtain ⟨y,e1,e2⟩:=obb e1;have:=qaA e2;subst this;refine a.ok hv.l hd e1 λx' G1 E1 D1 _=>?_;cases D1;cases x with
 |true=>exact b.ok (hv.r.up E1) (hd.up E1) hf λz G2 E2 D2 _=>k z G2 (E1.trans E2) D2 (λz=>by cases z)
 |false=>cases hf;exact k _ G1 E1 (.bl false) (λz=>by cases z)⟩
def bIf {t:TT3} {ta tb:TE3} (c:PuC t) (a:PuE ta) (b:PuE tb):PuE (if3 t ta tb):=⟨λρ=>(c.f ρ).bind λk=>if k then a.f ρ else b.f ρ,c.fv++(a.fv++b.fv),false,λhv hd hf k=>by
 obtain ⟨x,e1,hf⟩:=obb hf;refine c.ok hv.l hd e1 λG1 E1=>?_;cases x with
 |true=>exact a.ok (hv.r.l.up E1) (hd.up E1) hf λz G2 E2 D2 _=>k z G2 (E1.trans E2) D2 (λz=>by cases z)
 |false=>exact b.ok (hv.r.r.up E1) (hd.up E1) hf λz G2 E2 D2 _=>k z G2 (E1.trans E2) D2 (λz=>by cases z)⟩
def qcm {ta:TE3} (a:PuE ta):PuE (u3 T9 ta):=⟨λρ=>((a.f ρ).bind asI).map λi=>.int (-i),a.fv,false,λhv hd hf k=>by
 obtain ⟨x,e1,hf⟩:=Option.map_eq_some_iff.mp hf;obtain ⟨y,e1,e2⟩:=obb e1;have:=MT e2;subst this;subst hf;refine a.ok hv hd e1 λx' G1 E1 D1 _=>?_;cases D1;exact k _ G1 E1 (.int _) (λz=>by cases z)⟩
def bNp:PuO np3:=⟨λ_=>some none,[],λhv hd hf k=>by cases hf;exact k _ Ex.refl⟩
def bSp {t:TE3} (a:PuE t):PuO (sp3 t):=⟨λρ=>((a.f ρ).bind asI).map some,a.fv,λhv hd hf k=>by
 obtain ⟨x,e1,hf⟩:=Option.map_eq_some_iff.mp hf;obtain ⟨y,e1,e2⟩:=obb e1;have:=MT e2;subst this;subst hf;refine a.ok hv hd e1 λx' G1 E1 D1 _=>?_;cases D1;exact k G1 E1⟩
def Dqs.cut {G:Gp} {xs:List T} {ds:List PyData} (h:Dqs G xs ds) (lo hi:Option Int):Dqs G (qcd xs lo hi) (qcd ds lo hi):=by
 unfold qcd;rw [h.length];exact (h.drop _).take _
def slD (d:PyData) (lo hi:Option Int):Option PyData:=match d with
 |.tuple xs=>cif (HT.sIx xs.length 0 lo=0/\HT.sIx xs.length xs.length hi=xs.length) none (some (.tuple (qcd xs lo hi)))
 |.list xs=>some (.list (qcd xs lo hi))
 |_=>none
def bSl {te:TE3} {tl th:TO3} (a:PuE te) (l:PuO tl) (h:PuO th):PuE (qcy te tl th):=⟨λρ=>(a.f ρ).bind λd=>(l.f ρ).bind λlo=>(h.f ρ).bind λhi=>slD d lo hi,a.fv++(l.fv++h.fv),false,λhv hd hf k=>by
 obtain ⟨d,e1,hf⟩:=obb hf;obtain ⟨lo,e2,hf⟩:=obb hf;obtain ⟨hi,e3,hf⟩:=obb hf;refine a.ok hv.l hd e1 λx' G1 E1 D1 _=>l.ok (hv.r.l.up E1) (hd.up E1) e2 λG2 E2=>h.ok (hv.r.r.up (E1.trans E2)) (hd.up (E1.trans E2)) e3 λG3 E3=>?_;have E:=(E1.trans E2).trans E3;have D3:=(D1.up (ZO E2)).up (ZO E3);unfold slD at hf;cases D3 with
 |tup hs=>
  simp only [cif] at hf;split at hf
  ·cases hf
  ·rename_i n;cases hf;exact ⟨by rw [hs.length];exact n,k _ _ E (.tup (hs.cut _ _)) (λz=>by cases z)⟩
 |lst g hs=>
  simp only at hf;cases hf;simp only [sl3,jh (qZ g).2];intro p hp;exact k _ _ (E.trans (DI hp)) (CM (hd.up E) hp (hs.cut _ _)) (λz=>by cases z)
 |_=>simp at hf⟩
def YU:List PyData->Option (List Int)
 |[]=>some []
 |.int i::r=>(YU r).map (i::·)
 |_=>none
def UO (ns:List Int):YU (ns.map PyData.int)=some ns:=by
 induction ns with
 |nil=>rfl
 |cons n r ih=>simp [YU,ih]
def VH:∀ {xs:List PyData} {ns:List Int},YU xs=some ns->xs=ns.map PyData.int
 |[],_,h=>by simp [YU] at h;subst h;rfl
 |.int i::r,ns,h=>by
  simp only [YU] at h;obtain ⟨ms,e,rfl⟩:=Option.map_eq_some_iff.mp h;rw [VH e];rfl
 |.none::r,ns,h=>by simp [YU] at h
 |.bool _::r,ns,h=>by simp [YU] at h
 |.str _::r,ns,h=>by simp [YU] at h
 |.list _::r,ns,h=>by simp [YU] at h
 |.tuple _::r,ns,h=>by simp [YU] at h
 |.dict _::r,ns,h=>by simp [YU] at h
def qaR (d:PyData):Option PyData:=match d with
 |.list ds=>(YU ds).bind λns=>cif (ns.length<4000) (some (.int (Z7 ns))) none
 |_=>none
def qlH {te:TE3} (a:PuE te):PuE (qgP te):=⟨λρ=>(a.f ρ).bind qaR,a.fv,false,λhv hd hf k=>by
 obtain ⟨d,e1,hf⟩:=obb hf;refine a.ok hv hd e1 λx' G1 E1 D1 _=>?_;unfold qaR at hf;cases D1 with
 |lst g hs=>
  simp only at hf;obtain ⟨ns,en,hf⟩:=obb hf;unfold cif at hf;split at hf
  ·rename_i hl;cases hf;have:=VH en;subst this;have:=hs.ints;subst this;simp only [jh (qZ g).2,YF];exact ⟨hl,k _ _ E1 (.int _) (λz=>by cases z)⟩
  ·cases hf
 |_=>simp at hf⟩
def opI (g:Int->Int->Int):OpD (iI g):=⟨λd e=>match d,e with|.int i,.int j=>some (.int (g i j))|_,_=>none,false,λ{D G x y d e v q} hx hy hd hf k=>by
 cases hx<;>try (simp at hf;done)
 cases hy<;>try (simp at hf;done)
 cases hf;exact k _ _ Ex.refl (.int _) (λz=>by cases z)⟩
def cI (C:Int->Int->Prop) (g:Int->Int->Int) (d e:PyData):Option PyData:=match d,e with|.int i,.int j=>cif (C i j) (some (.int (g i j))) none|_,_=>none
def opC (C:Int->Int->Prop) (g:Int->Int->Int):OpD (iC C g):=⟨cI C g,false,λ{D G x y d e v q} hx hy hd hf k=>by
 unfold cI at hf;cases hx<;>try (simp at hf;done)
 cases hy<;>try (simp at hf;done)
 simp only [cif] at hf;split at hf
 ·rename_i c;cases hf;exact ⟨c,k _ _ Ex.refl (.int _) (λz=>by cases z)⟩
 ·cases hf⟩
def opB (g:Int->Int->Bool):OpD (iB g):=⟨λd e=>match d,e with|.int i,.int j=>some (.bool (g i j))|_,_=>none,false,λ{D G x y d e v q} hx hy hd hf k=>by
 cases hx<;>try (simp at hf;done)
 cases hy<;>try (simp at hf;done)
 cases hf;exact k _ _ Ex.refl (.bl _) (λz=>by cases z)⟩
def qdm:PyData->PyData->Option Bool
 |.none,.none=>some true|.none,.int _=>some false|.int _,.none=>some false|.none,.bool _=>some false|.bool _,.none=>some false|.none,.str _=>some false|.str _,.none=>some false
 |.int i,.int j=>some (decide (i=j))|.bool i,.bool j=>some (decide (i=j))|.str i,.str j=>some (decide (i=j))
 |.int _,.str _=>some false|.str _,.int _=>some false|.bool _,.str _=>some false|.str _,.bool _=>some false
 |_,_=>none
def qam {G:Gp} {x y:T} {d e:PyData} (hx:Dq G x d) (hy:Dq G y e):WM x y=qdm d e:=by
 cases hx<;>cases hy<;>rfl
def eqD (neg:Bool) (d e:PyData):Option PyData:=match qdm d e with
 |some k=>some (.bool (if neg then !k else k))
 |none=>cif (dpt d<=40/\dpt d≠0) ((ZQ d e).map λb=>.bool (if neg then !b else b)) none
def V2 (neg:Bool):OpD (QC neg):=⟨eqD neg,false,λ{D G x y d e v q} hx hy hd hf k=>by
 unfold QC;rw [qam hx hy];unfold eqD at hf;cases h:qdm d e with
 |some b=>rw [h] at hf;cases hf;exact k _ _ Ex.refl (.bl _) (λz=>by cases z)
 |none=>
  rw [h] at hf;simp only [cif] at hf ⊢;split at hf
  ·rename_i c;obtain ⟨b,e1,rfl⟩:=Option.map_eq_some_iff.mp hf;exact ⟨d,e,b,(hx.up JX).dp,(hy.up JX).dp,e1,c.1,c.2,k _ _ Ex.refl (.bl _) (λz=>by cases z)⟩
  ·cases hf⟩
def qmi (neg:Bool) (d e:PyData):Option PyData:=match e with|.none=>some (.bool (match d with|.none=>!neg|_=>neg))|_=>none
def qgX (neg:Bool):OpD (qhO neg):=⟨qmi neg,false,λ{D G x y d e v q} hx hy hd hf k=>by
 unfold qmi at hf;cases hy<;>try (simp at hf;done)
 cases hf;unfold qhO;cases hx<;>exact k _ _ Ex.refl (.bl _) (λz=>by cases z)⟩
def ixD (d e:PyData):Option PyData:=match d,e with
 |.tuple xs,.int i=>atI xs i
 |.list xs,.int i=>atI xs i
 |_,_=>none
def Dqs.atI {G:Gp} {xs:List T} {ds:List PyData} {i:Int} {d:PyData} (h:Dqs G xs ds) (e:L2.atI ds i=some d):∃ x,L2.atI xs i=some x/\Dq G x d:=by
 unfold L2.atI at e ⊢;rw [h.length];obtain ⟨j,e1,e2⟩:=obb e;obtain ⟨x,hx,r⟩:=h.get e2;exact ⟨x,by rw [e1];exact hx,r⟩
def zk:OpD ix3:=⟨ixD,false,λ{D G x y d e v q} hx hy hd hf k=>by
 unfold ixD at hf;cases hx with
 |tup hs=>
  cases hy<;>try (simp at hf;done)
  obtain ⟨x,e1,r⟩:=hs.atI hf;simp only [ix3,e1];exact k _ _ Ex.refl r (λz=>by cases z)
 |lst g hs=>
  cases hy<;>try (simp at hf;done)
  obtain ⟨x,e1,r⟩:=hs.atI hf;simp only [ix3,jh (qZ g).2,e1];exact k _ _ Ex.refl r (λz=>by cases z)
 |_=>simp at hf⟩
def qiK (d e:PyData):Option PyData:=match d,e with
 |.tuple xs,.tuple ys=>cif (xs≠[]/\xs.length+ys.length<=sizeLine) (some (.tuple (xs++ys))) none
 |.list xs,.list ys=>cif (xs.length+ys.length<=sizeLine) (some (.list (xs++ys))) none
 |.int i,.int j=>some (.int (i+j))
 |_,_=>none
def j3:OpD zS:=⟨qiK,false,λ{D G x y d e v q} hx hy hd hf k=>by
  unfold qiK at hf;cases hx with
  | int i => cases hy <;> try (simp at hf;done)
             cases hf;exact k _ _ Ex.refl (.int _) (λz=>by cases z)
  |tup hs=>
    cases hy<;>try (simp at hf;done)
    rename_i hs2;simp only [cif] at hf;split at hf
    · rename_i c;cases hf;refine ⟨?_,by rw [hs.length,hs2.length];exact c.2,k _ _ Ex.refl (.tup (hs.append hs2)) (λz=>by cases z)⟩;rintro rfl;cases hs;exact c.1 rfl
    · cases hf
  |lst g hs=>
    cases hy<;>try (simp at hf;done)
    rename_i g2 hs2;simp only [cif] at hf;split at hf
    · rename_i c;cases hf;simp only [zS,(qZ g).2,(qZ g2).2];exact ⟨by rw [hs.length,hs2.length];exact c,λp hp=>k _ _ (DI hp) (CM hd hp (hs.append hs2)) (λz=>by cases z)⟩
    · cases hf
  |_=>simp at hf⟩
def KY:PyData->Bool
 |.none=>true|.bool _=>true|.int _=>true|.str _=>true|_=>false
def qhI:PyData->PyData->Bool
 |.none,.none=>true
 |.bool a,.bool b=>a==b
 |.bool a,.int b=>(if a then 1 else 0)==b
 |.int a,.bool b=>a==(if b then 1 else 0)
 |.int a,.int b=>a==b
 |.str a,.str b=>a==b
 |_,_=>false
def XH {G:Gp} {x:T} {d:PyData} (h:Dq G x d):EW x=KY d:=by cases h<;>rfl
def DB {G:Gp}:∀ {x:List T} {d:List PyData},Dqs G x d->x.all EW=d.all KY
 |_,_,.nil=>rfl
 |_,_,.cons a b=>by rw [List.all_cons,List.all_cons,XH a,DB b]
def qds {G:Gp} {x y:T} {d e:PyData} (h:Dq G x d) (h':Dq G y e):eqF x y=qhI d e:=by cases h<;>cases h'<;>rfl
def WS {G:Gp} {x:T} {d:PyData} (h:Dq G x d):∀ {ys:List T} {es:List PyData},Dqs G ys es->(ys.any λy=>eqF y x)=es.any λy=>qhI y d
 |_,_,.nil=>rfl
 |_,_,.cons a b=>by rw [List.any_cons,List.any_cons,qds a h,WS h b]
def inD (neg:Bool) (d e:PyData):Option PyData:=match e with
 |.tuple ys=>cif (KY d=true/\ys.all KY=true) (some (.bool (if neg then !(ys.any λy=>qhI y d) else (ys.any λy=>qhI y d)))) none
 |.list ys=>cif (KY d=true/\ys.all KY=true) (some (.bool (if neg then !(ys.any λy=>qhI y d) else (ys.any λy=>qhI y d)))) none
 |_=>none
def qoK (neg:Bool):OpD (in3 neg):=⟨inD neg,false,λ{D G x y d e v q} hx hy hd hf k=>by
 unfold inD at hf;cases hy with
 |tup hs=>
  simp only [cif] at hf;split at hf
  ·rename_i c;cases hf;refine ⟨by rw [XH hx];exact c.1,by rw [DB hs];exact c.2,?_⟩;rw [WS hx hs];exact k _ _ Ex.refl (.bl _) (λz=>by cases z)
  ·cases hf
 |lst g hs=>
  simp only [cif] at hf;split at hf
  ·rename_i c;cases hf;refine ⟨by rw [XH hx];exact c.1,?_⟩;simp only [jh (qZ g).2];refine ⟨by rw [DB hs];exact c.2,?_⟩;rw [WS hx hs];exact k _ _ Ex.refl (.bl _) (λz=>by cases z)
  ·cases hf
 |_=>simp at hf⟩
def qmv (neg:Bool) (d e:PyData):Option PyData:=match e with
 |.tuple ys=>cif (∀ y∈ys,dpt y<=40) ((MP d ys).map λb=>.bool (if neg then !b else b)) none
 |.list ys=>cif (∀ y∈ys,dpt y<=40) ((MP d ys).map λb=>.bool (if neg then !b else b)) none
 |_=>none
def qiZ (neg:Bool):OpD (qmn neg):=⟨qmv neg,false,λ{D G x y d e v q} hx hy hd hf k=>by
 unfold qmv at hf;cases hy with
 |tup hs=>
  simp only [cif] at hf;split at hf
  ·rename_i c;obtain ⟨b,e1,rfl⟩:=Option.map_eq_some_iff.mp hf;exact ⟨_,d,_,b,rfl,(hx.up JX).dp,(hs.up JX).dp,e1,c,k _ _ Ex.refl (.bl _) (λz=>by cases z)⟩
  ·cases hf
 |lst g hs=>
  simp only [cif] at hf;split at hf
  ·rename_i c;obtain ⟨b,e1,rfl⟩:=Option.map_eq_some_iff.mp hf;exact ⟨_,d,_,b,jh (qZ g).2,(hx.up JX).dp,(hs.up JX).dp,e1,c,k _ _ Ex.refl (.bl _) (λz=>by cases z)⟩
  ·cases hf
 |_=>simp at hf⟩
def qcQ:List PyData->Option PyData
 |[.tuple xs]=>some (.int xs.length)
 |[.list xs]=>some (.int xs.length)
 |_=>none
def C7:FnD UA:=⟨qcQ,false,λ{D G xs ds v q} hx hd hf k=>by
 unfold qcQ at hf;split at hf
 ·cases hx with
  |cons a b=>cases b;cases a;rename_i hs;cases hf;simp only [UA];rw [hs.length];exact k _ _ Ex.refl (.int _) (λz=>by cases z)
 ·cases hx with
  |cons a b=>cases b;cases a;rename_i g hs;cases hf;simp only [UA,jh (qZ g).2];rw [hs.length];exact k _ _ Ex.refl (.int _) (λz=>by cases z)
 ·cases hf⟩
def qmF:List PyData->Option PyData
 |[.int i,.int j]=>some (.int (if j<i then j else i))
 |_=>none
def qoW:FnD qdp:=⟨qmF,false,λ{D G xs ds v q} hx hd hf k=>by
 unfold qmF at hf;split at hf
 ·cases hx with
  |cons a b=>cases b with
   |cons b c=>cases c;cases a;cases b;cases hf;exact k _ _ Ex.refl (.int _) (λz=>by cases z)
 ·cases hf⟩
def qmC:List PyData->Option PyData
 |[.int i]=>some (.int i)
 |[.bool k]=>some (.int (if k then 1 else 0))
 |_=>none
def qhN:FnD RK:=⟨qmC,false,λ{D G xs ds v q} hx hd hf k=>by
 unfold qmC at hf;split at hf
 ·cases hx with
  |cons a b=>cases b;cases a;cases hf;exact k _ _ Ex.refl (.int _) (λz=>by cases z)
 ·cases hx with
  |cons a b=>cases b;cases a;cases hf;exact k _ _ Ex.refl (.int _) (λz=>by cases z)
 ·cases hf⟩
def qmB:List PyData->Option PyData
 |[.tuple xs]=>some (.tuple xs)
 |[.list xs]=>some (.tuple xs)
 |_=>none
def qmy:FnD VP:=⟨qmB,false,λ{D G xs ds v q} hx hd hf k=>by
 unfold qmB at hf;split at hf
 ·cases hx with
  |cons a b=>cases b;cases a;rename_i hs;cases hf;exact k _ _ Ex.refl (.tup hs) (λz=>by cases z)
 ·cases hx with
  |cons a b=>cases b;cases a;rename_i g hs;cases hf;simp only [VP,jh (qZ g).2];exact k _ _ Ex.refl (.tup hs) (λz=>by cases z)
 ·cases hf⟩
def qmz:List PyData->Option PyData
 |[.tuple xs]=>some (.list xs)
 |[.list xs]=>some (.list xs)
 |_=>none
def qmk:FnD TB:=⟨qmz,true,λ{D G xs ds v q} hx hd hf k=>by
 unfold qmz at hf;split at hf
 ·cases hx with
  |cons a b=>cases b;cases a;rename_i hs;cases hf;exact λp hp=>k _ _ (DI hp) (CM hd hp hs) λ_=>ND hp hs
 ·cases hx with
  |cons a b=>cases b;cases a;rename_i g hs;cases hf;simp only [TB,jh (qZ g).2];exact λp hp=>k _ _ (DI hp) (CM hd hp hs) λ_=>ND hp hs
 ·cases hf⟩
def qmJ:List PyData->Option PyData
 |[.list xs]=>(YU xs).bind λns=>cif (qdb ns) (some (.int ns.sum)) none
 |_=>none
def qnM:FnD qiL:=⟨qmJ,false,λ{D G xs ds v q} hx hd hf k=>by
 unfold qmJ at hf;split at hf
 ·obtain ⟨ns,e,hf⟩:=obb hf;unfold cif at hf;split at hf
  ·rename_i c;cases hf;cases hx with
   |cons a b=>cases b;cases a;rename_i g hs;have:=VH e;subst this;have:=hs.ints;subst this;simp only [qiL,jh (qZ g).2,YF];exact ⟨c,k _ _ Ex.refl (.int _) (λz=>by cases z)⟩
  ·cases hf
 ·cases hf⟩
def mn:List Int->Int
 |[]=>0|[a]=>a|a::b::r=>min a (mn (b::r))
def mx:List Int->Int
 |[]=>0|[a]=>a|a::b::r=>max a (mx (b::r))
def NV:∀ {ns:List Int} {m:Int},m∈ns->mn ns<=m
 |[a],m,h=>by simp at h;subst h;exact Int.le_refl _
 |a::b::r,m,h=>by
  unfold mn;rcases mem_cons.mp h with rfl|h
  ·omega
  ·have:=NV h;omega
def ME:∀ {ns:List Int},ns≠[]->mn ns∈ns
 |[a],_=>by simp [mn]
 |a::b::r,_=>by
  unfold mn;have:=ME (ns:=b::r) (by simp);rcases Int.le_total a (mn (b::r)) with h|h
  ·rw [Int.min_eq_left h];simp
  ·rw [Int.min_eq_right h];exact List.mem_cons_of_mem _ this
def qdg:∀ {ns:List Int} {m:Int},m∈ns->m<=mx ns
 |[a],m,h=>by simp at h;subst h;exact Int.le_refl _
 |a::b::r,m,h=>by
  unfold mx;rcases mem_cons.mp h with rfl|h
  ·omega
  ·have:=qdg h;omega
def NE:∀ {ns:List Int},ns≠[]->mx ns∈ns
 |[a],_=>by simp [mx]
 |a::b::r,_=>by
  unfold mx;have:=NE (ns:=b::r) (by simp);rcases Int.le_total a (mx (b::r)) with h|h
  ·rw [Int.max_eq_right h];exact List.mem_cons_of_mem _ this
  ·rw [Int.max_eq_left h];simp
def mnD:List PyData->Option PyData
 |[.list xs]=>(YU xs).bind λns=>cif (ns≠[]) (some (.int (mn ns))) none
 |_=>none
def qa0:FnD TW:=⟨mnD,false,λ{D G xs ds v q} hx hd hf k=>by
 unfold mnD at hf;split at hf
 ·obtain ⟨ns,e,hf⟩:=obb hf;unfold cif at hf;split at hf
  ·rename_i c;cases hf;cases hx with
   |cons a b=>
    cases b;cases a;rename_i g hs;have:=VH e;subst this;have:=hs.ints;subst this;simp only [TW,jh (qZ g).2,YF];refine ⟨c,λm hm hl=>?_⟩;have:m=mn ns:=Int.le_antisymm (hl _ (ME c)) (NV hm);subst this;exact k _ _ Ex.refl (.int _) (λz=>by cases z)
  ·cases hf
 ·cases hf⟩
def mxD:List PyData->Option PyData
 |[.list xs]=>(YU xs).bind λns=>cif (ns≠[]) (some (.int (mx ns))) none
 |_=>none
def qbh:FnD SQ:=⟨mxD,false,λ{D G xs ds v q} hx hd hf k=>by
 unfold mxD at hf;split at hf
 ·obtain ⟨ns,e,hf⟩:=obb hf;unfold cif at hf;split at hf
  ·rename_i c;cases hf;cases hx with
   |cons a b=>
    cases b;cases a;rename_i g hs;have:=VH e;subst this;have:=hs.ints;subst this;simp only [SQ,jh (qZ g).2,YF];refine ⟨c,λm hm hl=>?_⟩;have:m=mx ns:=Int.le_antisymm (qdg hm) (hl _ (NE c));subst this;exact k _ _ Ex.refl (.int _) (λz=>by cases z)
  ·cases hf
 ·cases hf⟩
def PSp (F:List PyData->Option PyData) (fr:Bool):Sp3:=λts G q=>∃ (D:Addr->Prop) (ds:List PyData) (d:PyData),Dqs (rs D G) ts ds/\Dom D G/\F ds=some d/\∀ x G',Ex G G'->Dq (rs D G') x d->(fr=true->Nw D G G' x d)->q x G'
def zA (F:List PyData->Option PyData) (fr:Bool):FnD (PSp F fr):=⟨F,fr,λ{D G xs ds v q} hx hd hf k=>⟨D,ds,v,hx,hd,hf,k⟩⟩
def N9:PyData->Option (List PyData)
 |.tuple xs=>some xs
 |.list xs=>some xs
 |_=>none
def qcl {t:TE3} (a:PuE t):PuI (WQ t):=⟨λρ=>(a.f ρ).bind N9,a.fv,false,λ{D τ ρ G r ds} hv hd hf k=>by
 obtain ⟨d,e1,hf⟩:=obb hf;refine a.ok hv hd e1 λx G1 E1 D1 _=>?_;unfold N9 at hf;cases D1 with
 |tup hs=>cases hf;exact k _ _ _ E1 hs (λ_ _=>trivial) (λz=>by cases z)
 |lst g hs=>
  cases hf;simp only [jh (qZ g).2];refine k _ _ _ E1 hs (λG2 h=>?_) (λz=>by cases z);rcases h with h|h
  ·cases h
  ·exact jh (h _ _ g)
 |_=>simp at hf⟩
def zT (lo:Int) (n:Nat):List Int:=(List.range n).map λ(i:Nat)=>lo+(i:Int)
def qfs (lo:Int) (n:Nat):qae lo n=(zT lo n).map T.int:=by simp [qae,zT,map_map,Function.comp_def]
def qf6:List PyData->Option (List PyData)
 |[.int j]=>cif (-(2 ^ 62)<=j/\j<2 ^ 62) (some ((zT 0 j.toNat).map PyData.int)) none
 |[.int i,.int j]=>cif (-(2 ^ 62)<=i/\i<2 ^ 62/\-(2 ^ 62)<=j/\j<2 ^ 62) (some ((zT i (j-i).toNat).map PyData.int)) none
 |_=>none
def U9 {t:TA3} (a:PuA t):PuI (zz t):=⟨λρ=>(a.f ρ).bind qf6,a.fv,true,λ{D τ ρ G r ds} hv hd hf k=>by
 obtain ⟨d,e1,hf⟩:=obb hf;refine a.ok hv hd e1 λx G1 E1 D1=>?_;unfold qf6 at hf;split at hf
 ·unfold cif at hf;split at hf
  ·rename_i c;cases hf;cases D1 with
   |cons a b=>cases b;cases a;simp only;rw [qfs];exact ⟨c,k _ _ _ E1 (Dqs.ofInts _) (λ_ _=>trivial) λ_=>⟨_,rfl⟩⟩
  ·cases hf
 ·unfold cif at hf;split at hf
  ·rename_i c;cases hf;cases D1 with
   |cons a b=>cases b with
    |cons b c'=>cases c';cases a;cases b;simp only;rw [qfs];exact ⟨c,k _ _ _ E1 (Dqs.ofInts _) (λ_ _=>trivial) λ_=>⟨_,rfl⟩⟩
  ·cases hf
 ·cases hf⟩
def qlF (us vs:List PyData):List PyData:=(us.zip vs).map λp=>.tuple [p.1,p.2]
def Dqs.zip {G:Gp}:∀ {xs:List T} {ds:List PyData} {ys:List T} {es:List PyData},Dqs G xs ds->Dqs G ys es->Dqs G (qdj xs ys) (qlF ds es)
 |_,_,_,_,.nil,_=>by simp [qdj,qlF];exact .nil
 |_,_,_,_,.cons _ _,.nil=>by simp [qdj,qlF];exact .nil
 |_,_,_,_,.cons a b,.cons c d=>.cons (.tup (.cons a (.cons c .nil))) (Dqs.zip b d)
def SD {G:Gp} {x:T} {d:PyData} {ds:List PyData} (h:Dq G x d) (e:N9 d=some ds):∃ us,ZR G x=some us/\Dqs G us ds:=by
 unfold N9 at e;cases h with
 |tup hs=>cases e;exact ⟨_,rfl,hs⟩
 |lst g hs=>cases e;exact ⟨_,jh g,hs⟩
 |_=>simp at e
def CP {G G':Gp} {x:T} {us:List T} (e:Ex G G') (h:ZR G x=some us):ZR G' x=some us:=by
 cases x with
 |tup xs=>exact h
 |ref p=>exact e.getL h
 |_=>cases h
def qph {t:TA3} (a:PuA t):PuI (qcH t):=⟨λρ=>(a.f ρ).bind λds=>match ds with|[d,e]=>(N9 d).bind λus=>(N9 e).bind λvs=>some (qlF us vs)|_=>none,a.fv,false,λ{D τ ρ G r ds} hv hd hf k=>by
 obtain ⟨d,e1,hf⟩:=obb hf;refine a.ok hv hd e1 λx G1 E1 D1=>?_;split at hf
 ·obtain ⟨us,e2,hf⟩:=obb hf;obtain ⟨vs,e3,hf⟩:=obb hf;cases hf;cases D1 with
  |cons a b=>cases b with
   |cons b c=>
    cases c;obtain ⟨us',h1,h2⟩:=SD a e2;obtain ⟨vs',h3,h4⟩:=SD b e3;simp only [CP JX h1,CP JX h3];refine k _ _ _ E1 (h2.zip h4) (λG2 h=>?_) (λz=>by cases z);rcases h with h|h
    ·cases h
    ·exact ⟨CP h h1,CP h h3⟩
 ·cases hf⟩
def enD (k:Nat):List PyData->List PyData
 |[]=>[]
 |x::r=>.tuple [.int (k:Int),x]::enD (k+1) r
def Dqs.enum {G:Gp}:∀ {xs:List T} {ds:List PyData} (k:Nat),Dqs G xs ds->Dqs G (QL k xs) (enD k ds)
 |_,_,_,.nil=>.nil
 |_,_,k,.cons a b=>.cons (.tup (.cons (.int _) (.cons a .nil))) (Dqs.enum (k+1) b)
def qjR {t:TA3} (a:PuA t):PuI (MU t):=⟨λρ=>(a.f ρ).bind λds=>match ds with|[d]=>(N9 d).map λus=>enD 0 us|_=>none,a.fv,false,λ{D τ ρ G r ds} hv hd hf k=>by
 obtain ⟨d,e1,hf⟩:=obb hf;refine a.ok hv hd e1 λx G1 E1 D1=>?_;split at hf
 ·obtain ⟨us,e2,rfl⟩:=Option.map_eq_some_iff.mp hf;cases D1 with
  |cons a b=>
   cases b;obtain ⟨us',h1,h2⟩:=SD a e2;simp only [CP JX h1];refine k _ _ _ E1 (h2.enum 0) (λG2 h=>?_) (λz=>by cases z);rcases h with h|h
   ·cases h
   ·exact CP h h1
 ·cases hf⟩
inductive Bd (H:Gp):List (Nat×T)->List (Nat×PyData)->Prop
 |nil:Bd H [] []
 |cons {i:Nat} {x:T} {d:PyData} {ts:List (Nat×T)} {bs:List (Nat×PyData)}:Dq H x d->Bd H ts bs->Bd H ((i,x)::ts) ((i,d)::bs)
def Bd.append {H:Gp}:∀ {ts:List (Nat×T)} {bs:List (Nat×PyData)} {us:List (Nat×T)} {cs:List (Nat×PyData)},Bd H ts bs->Bd H us cs->Bd H (ts++us) (bs++cs)
 |_,_,_,_,.nil,h=>h
 |_,_,_,_,.cons a b,h=>.cons a (Bd.append b h)
def Bd.up {H H':Gp} (e:Ex H H'):∀ {ts:List (Nat×T)} {bs:List (Nat×PyData)},Bd H ts bs->Bd H' ts bs
 |_,_,.nil=>.nil
 |_,_,.cons a b=>.cons (a.up e) (Bd.up e b)
def sets:St3->List (Nat×T)->St3
 |τ,[]=>τ
 |τ,p::r=>sets (τ.set p.1 (some p.2)) r
def ZJ:Rho->List (Nat×PyData)->Rho
 |ρ,[]=>ρ
 |ρ,p::r=>ZJ (ρ.set p.1 (.sh p.2)) r
def M2:∀ (τ:St3) (a b:List (Nat×T)),sets τ (a++b)=sets (sets τ a) b
 |τ,[],b=>rfl
 |τ,p::a,b=>by simp only [cons_append,sets];exact M2 _ a b
structure PuG (g:TG3) where
 f:PyData->Option (List (Nat×PyData))
 tg:List Nat
 at':∀ {d bs},f d=some bs->∀ p∈bs,p.1∈tg
 ok:∀ {H x d bs},Dq H x d->f d=some bs->∃ ts,Bd H ts bs/\∀ τ G (q:St3->Gp->Prop),q (sets τ ts) G->g x τ G q
structure PuGs (g:KR) where
 f:List PyData->Option (List (Nat×PyData))
 tg:List Nat
 at':∀ {d bs},f d=some bs->∀ p∈bs,p.1∈tg
 ok:∀ {H x d bs},Dqs H x d->f d=some bs->∃ ts,Bd H ts bs/\∀ τ G (q:St3->Gp->Prop),q (sets τ ts) G->g x τ G q
def gN (i:Nat):PuG (gn3 i):=⟨λd=>some [(i,d)],[i],λh p hp=>by cases h;simp at hp;subst hp;simp,λhx h=>by cases h;exact ⟨_,.cons hx .nil,λτ G q hq=>hq⟩⟩
def U8:PuGs ji:=⟨λds=>match ds with|[]=>some []|_=>none,[],(λh p hp=>by split at h;cases h;cases hp;cases h),λhx h=>by
 split at h
 ·cases h;cases hx;exact ⟨[],.nil,λτ G q hq=>hq⟩
 ·cases h⟩
def qY {t:TG3} {u:KR} (a:PuG t) (b:PuGs u):PuGs (qr t u):=⟨λds=>match ds with|d::r=>(a.f d).bind λx=>(b.f r).map λy=>x++y|[]=>none,a.tg++b.tg,(λh p hp=>by
 split at h
 ·obtain ⟨x,e1,h⟩:=obb h;obtain ⟨y,e2,rfl⟩:=Option.map_eq_some_iff.mp h;rcases List.mem_append.mp hp with z|z
  ·exact List.mem_append.mpr (.inl (a.at' e1 p z))
  ·exact List.mem_append.mpr (.inr (b.at' e2 p z))
 ·cases h),λhx h=>by
 split at h
 ·obtain ⟨x,e1,h⟩:=obb h;obtain ⟨y,e2,rfl⟩:=Option.map_eq_some_iff.mp h;cases hx with
  |cons hx hr=>
   obtain ⟨ts,b1,k1⟩:=a.ok hx e1;obtain ⟨us,b2,k2⟩:=b.ok hr e2;refine ⟨ts++us,b1.append b2,λτ G q hq=>k1 τ G _ (k2 _ G q ?_)⟩;rw [← M2];exact hq
 ·cases h⟩
def U7 {u:KR} (n:Nat) (b:PuGs u):PuG (jf n u):=⟨λd=>match d with|.tuple ds=>if ds.length=n then b.f ds else none|_=>none,b.tg,(λh p hp=>by
 split at h
 ·split at h
  ·exact b.at' h p hp
  ·cases h
 ·cases h),λhx h=>by
 split at h
 ·split at h
  ·rename_i c;cases hx with
   |tup hs=>
    obtain ⟨ts,b1,k1⟩:=b.ok hs h;exact ⟨ts,b1,λτ G q hq=>⟨by rw [hs.length];exact c,k1 τ G q hq⟩⟩
  ·cases h
 ·cases h⟩
structure VA (D:Addr->Prop) (G:Gp) (τ:St3) (ρ:Rho):Prop where
 len:ρ.length=τ.length
 vw:∀ i d,vw ρ i=some d->∃ t,τ[i]?=some (some t)/\Dq (rs D G) t d
def VA.view {D:Addr->Prop} {G:Gp} {τ:St3} {ρ:Rho} (h:VA D G τ ρ) (fv:List Nat):CF fv D G τ ρ:=λi _ d e=>h.vw i d e
def VA.upx {D:Addr->Prop} {G G':Gp} {τ:St3} {ρ:Rho} (h:VA D G τ ρ) (e:Ex (rs D G) (rs D G')):VA D G' τ ρ:=⟨h.len,λi d hd=>let ⟨t,a,b⟩:=h.vw i d hd;⟨t,a,b.up e⟩⟩
def VA.up {D:Addr->Prop} {G G':Gp} {τ:St3} {ρ:Rho} (h:VA D G τ ρ) (e:Ex G G'):VA D G' τ ρ:=h.upx (ZO e)
def qeW {ρ:Rho} {i j:Nat} {s:Sl}:vw (ρ.set i s) j=if i=j then (if i<ρ.length then s.d else none) else vw ρ j:=by
 unfold vw;rw [getElem?_set];split
 ·subst j;split
  ·rfl
  ·rfl
 ·rfl
def VA.set {D:Addr->Prop} {G:Gp} {τ:St3} {ρ:Rho} (h:VA D G τ ρ) {i:Nat} {x:T} {d:PyData} (hx:Dq (rs D G) x d):VA D G (τ.set i (some x)) (ρ.set i (.sh d)):=by
 refine ⟨by simp [h.len],λj e he=>?_⟩;rw [qeW] at he;split at he
 ·subst j;split at he
  ·rename_i l;cases he;refine ⟨x,?_,hx⟩;rw [getElem?_set,if_pos rfl,if_pos (by rw [← h.len];exact l)]
  ·cases he
 ·rename_i n;obtain ⟨t,a,b⟩:=h.vw j e he;exact ⟨t,by rw [getElem?_set,if_neg n];exact a,b⟩
def VA.sets {D:Addr->Prop} {G:Gp}:∀ {ts:List (Nat×T)} {bs:List (Nat×PyData)} {τ:St3} {ρ:Rho},VA D G τ ρ->Bd (rs D G) ts bs->VA D G (Pu.sets τ ts) (ZJ ρ bs)
 |_,_,_,_,h,.nil=>h
 |_,_,_,_,h,.cons a b=>by unfold Pu.sets ZJ;exact VA.sets (h.set a) b
def VA.keep {D:Addr->Prop} {G:Gp} {ρ:Rho}:∀ {ts:List (Nat×T)} {τ:St3},VA D G τ ρ->(∀ p∈ts,Pu.vw ρ p.1=none)->VA D G (Pu.sets τ ts) ρ
 |[],_,h,_=>h
 |p::r,τ,h,hn=>VA.keep (ts:=r) ⟨by rw [List.length_set];exact h.len,λj d hd=>by
   have:p.1≠j:=by rintro rfl;rw [hn p (by simp)] at hd;cases hd
   obtain ⟨t,a,b⟩:=h.vw j d hd;exact ⟨t,by rw [getElem?_set,if_neg this];exact a,b⟩⟩ λq hq=>hn q (by simp [hq])
def KQ (m:List (Option Nat)) (ρ:Rho):Rho:=m.map λo=>match o with|some j=>(match vw ρ j with|some d=>.sh d|none=>.un)|none=>.un
def VA.cap {m:List (Option Nat)} {D:Addr->Prop} {G:Gp} {τ:St3} {ρ:Rho} (h:CF (m.filterMap id) D G τ ρ):VA D G (L3.cap m τ) (KQ m ρ):=by
 refine ⟨by simp [KQ,L3.cap],λi d hd=>?_⟩;unfold Pu.vw KQ at hd;rw [getElem?_map] at hd;cases e:m[i]? with
 |none=>rw [e] at hd;cases hd
 |some o=>
  rw [e] at hd;cases o with
  |none=>cases hd
  |some j=>
   simp only [Option.map_some,Option.bind_some] at hd;cases e2:Pu.vw ρ j with
   |none=>rw [e2] at hd;cases hd
   |some d'=>
    rw [e2] at hd;have hd':d'=d:=by simpa [Sl.d] using hd
    subst hd';obtain ⟨t,a,b⟩:=h j (List.mem_filterMap.mpr ⟨some j,mem_of_getElem? e,rfl⟩) d' e2;refine ⟨t,?_,b⟩;unfold L3.cap;rw [getElem?_map,e];simp [a]
def K4 {m:List (Option Nat)} {ρ:Rho} {i:Nat} (h:m[i]?=some none):vw (KQ m ρ) i=none:=by
 unfold vw KQ;rw [getElem?_map,h];rfl
def lcP (h:PyData->Option (Option PyData)):List PyData->Option (List PyData)
 |[]=>some []
 |d::r=>(h d).bind λo=>(lcP h r).bind λys=>some (match o with|some y=>y::ys|none=>ys)
def lcH (gf:PyData->Option (List (Nat×PyData))) (cf:Rho->Option Bool) (ef:Rho->Option PyData) (ρ:Rho) (d:PyData):Option (Option PyData):=
 (gf d).bind λbs=>(cf (ZJ ρ bs)).bind λk=>if k then (ef (ZJ ρ bs)).map some else some none
def zJ {h:PyData->Option (Option PyData)} {α:Type} {g:α->PyData} {k:α->PyData} {xs:List α} (hh:∀ a∈xs,h (g a)=some (some (k a))):lcP h (xs.map g)=some (xs.map k):=by
 induction xs with
 |nil=>rfl
 |cons a r ih=>simp only [map_cons,lcP,hh a (by simp),Option.bind_some,ih λb hb=>hh b (by simp [hb])]
def N7 {h:PyData->Option (Option PyData)} {α:Type} {g:α->PyData} {k:α->PyData} {c:α->Bool} {xs:List α} (hh:∀ a∈xs,h (g a)=some (if c a then some (k a) else none)):lcP h (xs.map g)=some ((xs.filter c).map k):=by
 induction xs with
 |nil=>rfl
 |cons a r ih=>
  simp only [map_cons,lcP,hh a (by simp),Option.bind_some,ih λb hb=>hh b (by simp [hb])];cases e:c a with
  |true=>simp [e]
  |false=>simp [e]
def qdo {H:Gp}:∀ {ts:List (Nat×T)} {bs:List (Nat×PyData)},Bd H ts bs->∀ p∈ts,∃ q∈bs,q.1=p.1
 |_,_,.nil,p,hp=>by cases hp
 |_,_,.cons a b,p,hp=>by
  rcases mem_cons.mp hp with rfl|hp
  ·exact ⟨_,List.mem_cons_self,rfl⟩
  ·obtain ⟨q,hq,e⟩:=qdo b p hp;exact ⟨q,by simp [hq],e⟩
def qf5 {stay:Gp->Prop} {g:TG3} {tif:TT3} {te:TE3} {q:Q3} (pg:PuG g) (pc:PuC tif) (pe:PuE te) {D:Addr->Prop} {ρ0:Rho} {G0:Gp} (hs:∀ G,Ex G0 G->stay G) (hm:∀ i∈pg.tg,vw ρ0 i=none) (fin:List PyData) (hfin:fin.length<=sizeLine)
  (k:∀ G ys,Ex G0 G->Dqs (rs D G) ys fin->∀ p,G p=none->q (.ref p) (gu G p (.lst ys))) :
  ∀ (ds:List PyData) (items ys:List T) (es fs:List PyData) (τ:St3) (G:Gp),Dqs (rs D G0) items ds->VA D G τ ρ0->Ex G0 G->Dom D G->Dqs (rs D G) ys es->lcP (lcH pg.f pc.f pe.f ρ0) ds=some fs->es++fs=fin->qcr stay g tif te q items ys τ G
 |_,_,ys,es,fs,τ,G,.nil,va,E,hd,hy,hf,hl=>by
  cases hf;rw [List.append_nil] at hl;subst hl;exact ⟨hs G E,k G ys E hy⟩
 |d::ds,x::items,ys,es,fs,τ,G,.cons hx hr,va,E,hd,hy,hf,hl=>by
  unfold lcP at hf;obtain ⟨o,e1,hf⟩:=obb hf;obtain ⟨ZB,e2,hf⟩:=obb hf;unfold lcH at e1;obtain ⟨bs,e3,e1⟩:=obb e1;obtain ⟨c,e4,e1⟩:=obb e1;obtain ⟨ts,bd,kg⟩:=pg.ok (hx.up (ZO E)) e3;refine ⟨hs G E,kg τ G _ ?_⟩;have va1:=va.sets bd;have va2:=va.keep (ts:=ts) λp hp=>by
   obtain ⟨q,hq,e⟩:=qdo bd p hp;rw [← e];exact hm _ (pg.at' e3 q hq)
  refine pc.ok (va1.view _) hd e4 λG1 E1=>?_;cases c with
  |true=>
   rw [if_pos rfl];rw [if_pos rfl] at e1;obtain ⟨y,e5,rfl⟩:=Option.map_eq_some_iff.mp e1;simp only [Option.some.injEq] at hf;subst hf;refine pe.ok ((va1.up E1).view _) (hd.up E1) e5 λz G2 E2 D2 _=>⟨?_,?_⟩
   ·rw [hy.length];rw [← hl] at hfin;simp at hfin;omega
   ·refine qf5 pg pc pe hs hm fin hfin k ds items (ys++[z]) (es++[y]) ZB _ G2 hr ((va2.up E1).up E2) (E.trans (E1.trans E2)) ((hd.up E1).up E2) (((hy.up (ZO E1)).up (ZO E2)).append (.cons D2 .nil)) e2 ?_;rw [← hl];simp
  |false=>
   rw [if_neg Bool.false_ne_true];simp at e1;subst e1;simp only [Option.some.injEq] at hf;subst hf;exact qf5 pg pc pe hs hm fin hfin k ds items ys es ZB _ G1 hr (va2.up E1) (E.trans E1) (hd.up E1) (hy.up (ZO E1)) e2 hl
def lcF (pi:Rho->Option (List PyData)) (h:Rho->PyData->Option (Option PyData)) (m:List (Option Nat)) (ρ:Rho):Option PyData:=
 (pi ρ).bind λds=>(lcP (h (KQ m ρ)) ds).bind λfs=>cif (fs.length<=sizeLine) (some (.list fs)) none
def bLc {wi:TI3} {g:TG3} {tif:TT3} {te:TE3} (pi:PuI wi) (pg:PuG g) (pc:PuC tif) (pe:PuE te) (m:List (Option Nat)) (hm:Tru (pg.tg.all λi=>m[i]?==some none)):PuE (lc3 wi g tif te m):=
 ⟨lcF pi.f (lcH pg.f pc.f pe.f) m,pi.fv++m.filterMap id,true,λ{D τ ρ G q d} hv hd hf k=>by
  unfold lcF at hf;obtain ⟨ds,e1,hf⟩:=obb hf;obtain ⟨fs,e2,hf⟩:=obb hf;unfold cif at hf;split at hf
  ·rename_i hl;cases hf;refine pi.ok hv.l hd e1 λitems stay G1 E1 D1 hs _=>?_;have va:=(VA.cap (m:=m) hv.r).up E1;refine qf5 pg pc pe (D:=D) (ρ0:=KQ m ρ) (G0:=G1) (λG2 E2=>hs G2 (.inr (JX.trans E2))) (λi hi=>K4 ?_) fs hl (λG2 ys E2 D2 p hp=>?_) ds items [] [] fs _ G1 D1 va Ex.refl (hd.up E1) .nil e2 (by simp)
   ·have:=List.all_eq_true.mp hm.h i hi;simpa using this
   ·exact k _ _ ((E1.trans E2).trans (DI hp)) (CM ((hd.up E1).up E2) hp D2) λ_=>(ND hp D2).back (E1.trans E2)
  ·cases hf⟩
def E0 (p:Addr) (G G':Gp):Prop:=∀ b o,b≠p->G b=some o->G' b=some o
def E0.refl {p:Addr} {G:Gp}:E0 p G G:=λ_ _ _ e=>e
def E0.trans {p:Addr} {G G1 G2:Gp} (a:E0 p G G1) (b:E0 p G1 G2):E0 p G G2:=λx o n e=>b x o n (a x o n e)
def E0.of {p:Addr} {G G1:Gp} (a:Ex G G1):E0 p G G1:=λx o _ e=>a x o e
def E0.wr {p:Addr} {G:Gp} {o:O}:E0 p G (gu G p o):=λb ob n e=>by rw [QE n];exact e
def E0.rs {p:Addr} {D:Addr->Prop} {G G1:Gp} (a:E0 p G G1):Ex (rs (λb=>D b\/b=p) G) (rs (λb=>D b\/b=p) G1):=λb o h=>by
 obtain ⟨n,h⟩:=qZ h;rw [QH n];exact a b o (λz=>n (.inr z)) h
def ql1 {D:Addr->Prop} {G:Gp} {p:Addr} {o:O} (h:Dom D G):Dom D (gu G p o):=λb d z=>by
 by_cases e:b=p
 ·subst e;rw [qT] at z;cases z
 ·rw [QE e] at z;exact h b d z
def qf2 {p:Addr} {stay:Gp->Prop} {g:TG3} {tif:TT3} {te:TE3} {N:St3->Gp->Prop} (pg:PuG g) (pc:PuC tif) (pe:PuE te) {D:Addr->Prop} {ρ0:Rho} {G0:Gp} (hs:∀ G,Ex (rs (λb=>D b\/b=p) G0) G->stay G) (hm:∀ i∈pg.tg,vw ρ0 i=none) (fin:List PyData) (hfin:fin.length<=sizeLine)
  (k:∀ τ G ys,VA (λb=>D b\/b=p) G τ ρ0->E0 p G0 G->Dom (λb=>D b\/b=p) G->G p=some (.lst ys)->Dqs (rs (λb=>D b\/b=p) G) ys fin->N τ G) :
  ∀ (ds:List PyData) (items ys:List T) (es fs:List PyData) (τ:St3) (G:Gp),Dqs (rs (λb=>D b\/b=p) G0) items ds->VA (λb=>D b\/b=p) G τ ρ0->E0 p G0 G->Dom (λb=>D b\/b=p) G->G p=some (.lst ys)->Dqs (rs (λb=>D b\/b=p) G) ys es->lcP (lcH pg.f pc.f pe.f ρ0) ds=some fs->es++fs=fin->qhH p stay g tif te N items τ G
 |_,_,ys,es,fs,τ,G,.nil,va,E,hd,gp,hy,hf,hl=>by
  cases hf;rw [List.append_nil] at hl;subst hl;exact ⟨hs G (E.rs.trans JX),k τ G ys va E hd gp hy⟩
 |d::ds,x::items,ys,es,fs,τ,G,.cons hx hr,va,E,hd,gp,hy,hf,hl=>by
  unfold lcP at hf;obtain ⟨o,e1,hf⟩:=obb hf;obtain ⟨ZB,e2,hf⟩:=obb hf;unfold lcH at e1;obtain ⟨bs,e3,e1⟩:=obb e1;obtain ⟨c,e4,e1⟩:=obb e1;obtain ⟨ts,bd,kg⟩:=pg.ok (hx.up E.rs) e3;refine ⟨hs G (E.rs.trans JX),kg τ G _ ?_⟩;have va1:=va.sets bd;have va2:=va.keep (ts:=ts) λp hp=>by
   obtain ⟨q,hq,e⟩:=qdo bd p hp;rw [← e];exact hm _ (pg.at' e3 q hq)
  refine pc.ok (va1.view _) hd e4 λG1 E1=>?_;cases c with
  |true=>
   rw [if_pos rfl];rw [if_pos rfl] at e1;obtain ⟨y,e5,rfl⟩:=Option.map_eq_some_iff.mp e1;simp only [Option.some.injEq] at hf;subst hf;refine pe.ok ((va1.up E1).view _) (hd.up E1) e5 λz G2 E2 D2 _=>?_;simp only [E2 _ _ (E1 _ _ gp)];have W:E0 p G2 (gu G2 p (.lst (ys++[z]))):=E0.wr;refine ⟨?_,?_⟩
   ·rw [hy.length];rw [← hl] at hfin;simp at hfin;omega
   ·refine qf2 pg pc pe hs hm fin hfin k ds items (ys++[z]) (es++[y]) ZB _ _ hr (((va2.up E1).up E2).upx W.rs) ((E.trans (E0.of (E1.trans E2))).trans W) (ql1 ((hd.up E1).up E2)) qT ((((hy.up (ZO E1)).up (ZO E2)).append (.cons D2 .nil)).up W.rs) e2 ?_;rw [← hl];simp
  |false=>
   rw [if_neg Bool.false_ne_true];simp at e1;subst e1;simp only [Option.some.injEq] at hf;subst hf;exact qf2 pg pc pe hs hm fin hfin k ds items ys es ZB _ G1 hr (va2.up E1) (E.trans (E0.of E1)) (hd.up E1) (E1 _ _ gp) (hy.up (ZO E1)) e2 hl
def qhc (h:PyData->Option (Option (List PyData))):List PyData->Option (List PyData)
 |[]=>some []
 |d::r=>(h d).bind λo=>(qhc h r).bind λys=>some (match o with|some y=>y++ys|none=>ys)
def qkh (gf:PyData->Option (List (Nat×PyData))) (cf:Rho->Option Bool) (it:Rho->Option (List PyData)) (h:Rho->PyData->Option (Option PyData)) (ρ:Rho) (d:PyData):Option (Option (List PyData)):=
 (gf d).bind λbs=>(cf (ZJ ρ bs)).bind λk=>if k then ((it (ZJ ρ bs)).bind λds=>lcP (h (ZJ ρ bs)) ds).map some else some none
def K6:∀ {bs:List (Nat×PyData)} {ρ:Rho} {i:Nat},(∀ p∈bs,p.1≠i)->vw (ZJ ρ bs) i=vw ρ i
 |[],_,_,_=>rfl
 |p::r,ρ,i,h=>by
  unfold ZJ;rw [K6 (λq hq=>h q (by simp [hq])),qeW,if_neg (h p (by simp))]
def M1:∀ (bs:List (Nat×PyData)) (ρ:Rho),(ZJ ρ bs).length=ρ.length
 |[],τ=>rfl
 |p::r,τ=>by unfold ZJ;rw [M1 r];simp
def qbb {p:Addr} {stay:Gp->Prop} {g g2:TG3} {tif tif2:TT3} {wi2:TI3} {te:TE3} {q:Q3} (pg:PuG g) (pc:PuC tif) (pi2:PuI wi2) (pg2:PuG g2) (pc2:PuC tif2) (pe:PuE te) {D:Addr->Prop} {ρ0:Rho} {G0:Gp} (hs:∀ G,Ex (rs (λb=>D b\/b=p) G0) G->stay G) (hm:∀ i∈pg.tg,vw ρ0 i=none) (hm2:∀ i∈pg2.tg,vw ρ0 i=none) (hdj:∀ i∈pg2.tg,i∉pg.tg) (fin:List PyData) (hfin:fin.length<=sizeLine)
  (k:∀ G ys,E0 p G0 G->G p=some (.lst ys)->Dqs (rs (λb=>D b\/b=p) G) ys fin->q (.ref p) G) :
  ∀ (ds:List PyData) (items ys:List T) (es fs:List PyData) (τ:St3) (G:Gp),Dqs (rs (λb=>D b\/b=p) G0) items ds->VA (λb=>D b\/b=p) G τ ρ0->E0 p G0 G->Dom (λb=>D b\/b=p) G->G p=some (.lst ys)->Dqs (rs (λb=>D b\/b=p) G) ys es->qhc (qkh pg.f pc.f pi2.f (lcH pg2.f pc2.f pe.f) ρ0) ds=some fs->es++fs=fin->qb2 p stay g tif wi2 g2 tif2 te q items τ G
 |_,_,ys,es,fs,τ,G,.nil,va,E,hd,gp,hy,hf,hl=>by
  cases hf;rw [List.append_nil] at hl;subst hl;exact ⟨hs G (E.rs.trans JX),k G ys E gp hy⟩
 |d::ds,x::items,ys,es,fs,τ,G,.cons hx hr,va,E,hd,gp,hy,hf,hl=>by
  unfold qhc at hf;obtain ⟨o,e1,hf⟩:=obb hf;obtain ⟨ZB,e2,hf⟩:=obb hf;unfold qkh at e1;obtain ⟨bs,e3,e1⟩:=obb e1;obtain ⟨c,e4,e1⟩:=obb e1;obtain ⟨ts,bd,kg⟩:=pg.ok (hx.up E.rs) e3;refine ⟨hs G (E.rs.trans JX),kg τ G _ ?_⟩;have va1:=va.sets bd;have va2:=va.keep (ts:=ts) λp hp=>by
   obtain ⟨q,hq,e⟩:=qdo bd p hp;rw [← e];exact hm _ (pg.at' e3 q hq)
  refine pc.ok (va1.view _) hd e4 λG1 E1=>?_;cases c with
  |true=>
   rw [if_pos rfl];rw [if_pos rfl] at e1;obtain ⟨y,e5,rfl⟩:=Option.map_eq_some_iff.mp e1;obtain ⟨ds2,e6,e5⟩:=obb e5;simp only [Option.some.injEq] at hf;subst hf;refine pi2.ok ((va1.up E1).view _) (hd.up E1) e6 λitems2 stay2 G2 E2 D2 hs2 _=>?_;have l2:(es++y).length<=sizeLine:=by
    rw [← hl] at hfin;simp at hfin ⊢;omega
   refine qf2 pg2 pc2 pe (ρ0:=ZJ ρ0 bs) (G0:=G2) (λG3 E3=>hs2 G3 (.inr E3)) (λi hi=>?_) (es++y) l2 (λτ3 G3 zs va3 E3 hd3 gp3 hz=>?_) ds2 items2 ys es y _ G2 D2 ((va1.up E1).up E2) E0.refl ((hd.up E1).up E2) (E2 _ _ (E1 _ _ gp)) ((hy.up (ZO E1)).up (ZO E2)) e5 rfl
   ·rw [K6 λq hq e=>hdj i hi (by rw [← e];exact pg.at' e3 q hq)];exact hm2 i hi
   ·have E4:E0 p G G3:=(E0.of (E1.trans E2)).trans E3;have va4:VA (λb=>D b\/b=p) G3 τ3 ρ0:=⟨by rw [← va3.len,M1],λi d' hd'=>va3.vw i d' (by
     rw [K6 λq hq e=>?_];exact hd';rw [← e,hm _ (pg.at' e3 q hq)] at hd';cases hd')⟩
    exact qbb pg pc pi2 pg2 pc2 pe hs hm hm2 hdj fin hfin k ds items zs (es++y) ZB τ3 G3 hr va4 (E.trans E4) hd3 gp3 hz e2 (by rw [← hl];simp)
  |false=>
   rw [if_neg Bool.false_ne_true];simp at e1;subst e1;simp only [Option.some.injEq] at hf;subst hf;exact qbb pg pc pi2 pg2 pc2 pe hs hm hm2 hdj fin hfin k ds items ys es ZB _ G1 hr (va2.up E1) (E.trans (E0.of E1)) (hd.up E1) (E1 _ _ gp) (hy.up (ZO E1)) e2 hl
def qlv (pi:Rho->Option (List PyData)) (h:Rho->PyData->Option (Option (List PyData))) (m:List (Option Nat)) (ρ:Rho):Option PyData:=
 (pi ρ).bind λds=>(qhc (h (KQ m ρ)) ds).bind λfs=>cif (fs.length<=sizeLine) (some (.list fs)) none
def CV {h:PyData->Option (Option (List PyData))} {α:Type} {g:α->PyData} {k:α->List PyData} {xs:List α} (hh:∀ a∈xs,h (g a)=some (some (k a))):qhc h (xs.map g)=some (xs.flatMap k):=by
 induction xs with
 |nil=>rfl
 |cons a r ih=>simp only [map_cons,qhc,hh a (by simp),Option.bind_some,ih λb hb=>hh b (by simp [hb]),List.flatMap_cons]
def qlK {wi wi2:TI3} {g g2:TG3} {tif tif2:TT3} {te:TE3} (pi:PuI wi) (pg:PuG g) (pc:PuC tif) (pi2:PuI wi2) (pg2:PuG g2) (pc2:PuC tif2) (pe:PuE te) (m:List (Option Nat)) (hm:Tru (pg.tg.all λi=>m[i]?==some none)) (hm2:Tru (pg2.tg.all λi=>m[i]?==some none)) (hdj:Tru (pg2.tg.all λi=>!pg.tg.contains i)):PuE (qhK wi g tif wi2 g2 tif2 te m):=
 ⟨qlv pi.f (qkh pg.f pc.f pi2.f (lcH pg2.f pc2.f pe.f)) m,pi.fv++m.filterMap id,true,λ{D τ ρ G q d} hv hd hf k=>by
  unfold qlv at hf;obtain ⟨ds,e1,hf⟩:=obb hf;obtain ⟨fs,e2,hf⟩:=obb hf;unfold cif at hf;split at hf
  ·rename_i hl;cases hf;refine pi.ok hv.l hd e1 λitems stay G1 E1 D1 hs _ p hp=>?_;have va:=(VA.cap (m:=m) hv.r).up E1;have np:∀ {b o},G1 b=some o->b≠p:=λe=>by rintro rfl;rw [hp] at e;cases e
   have X1:Ex (rs D G1) (rs (λb=>D b\/b=p) (gu G1 p (.lst []))):=λb o e=>by
    obtain ⟨n,e⟩:=qZ e;rw [QH (by rintro (z|z);exact n z;exact np e z),QE (np e)];exact e
   refine qbb pg pc pi2 pg2 pc2 pe (D:=D) (ρ0:=KQ m ρ) (G0:=gu G1 p (.lst [])) (p:=p) (λG2 E2=>hs G2 (.inr (X1.trans E2))) (λi hi=>K4 ?_) (λi hi=>K4 ?_) (λi hi hj=>?_) fs hl (λG2 ys E2 gp D2=>?_) ds items [] [] fs _ _ (D1.up X1) ⟨va.len,λi d hd=>let ⟨t,a,b⟩:=va.vw i d hd;⟨t,a,b.up X1⟩⟩ E0.refl ?_ qT .nil e2 (by simp)
   ·simpa using List.all_eq_true.mp hm.h i hi
   ·simpa using List.all_eq_true.mp hm2.h i hi
   ·have:=List.all_eq_true.mp hdj.h i hi;simp at this;exact this hj
   ·have EE:Ex G1 G2:=λb o e=>E2 b o (np e) (by rw [QE (np e)];exact e);have hdp:¬ D p:=λz=>(hd.up E1) p z hp;refine k _ _ (E1.trans EE) (.lst (by rw [QH hdp];exact gp) (D2.up (zX λb z=>.inl z))) λ_=>Nw.back (.inr ⟨p,ys,fs,rfl,rfl,hp,gp,D2⟩) E1
   ·intro b hb z;by_cases e:b=p
    ·subst e;rw [qT] at z;cases z
    ·rw [QE e] at z;rcases hb with hb|hb
     ·exact (hd.up E1) b hb z
     ·exact e hb
  ·cases hf⟩
def AD (D:Addr->Prop) (A:Nat->Option Addr) (b:Addr):Prop:=D b\/∃ i,A i=some b
structure RS (D:Addr->Prop) (G0:Gp) (A:Nat->Option Addr) (τ:St3) (ρ:Rho) (G:Gp):Prop where
 ex:Ex G0 G
 dm:Dom D G0
 fr:∀ i p,A i=some p->G0 p=none
 da:∀ i p,A i=some p->G p≠none
 inj:∀ i j p,A i=some p->A j=some p->i=j
 len:ρ.length=τ.length
 sh:∀ (i:Nat) (d:PyData),ρ[i]?=some (Sl.sh d)->∃ t,τ[i]?=some (some t)/\Dq (rs (AD D A) G) t d
 ow:∀ (i:Nat) (ds:List PyData),ρ[i]?=some (Sl.ow ds)->∃ p xs,A i=some p/\τ[i]?=some (some (.ref p))/\G p=some (.lst xs)/\Dqs (rs (AD D A) G) xs ds
section
variable {D:Addr->Prop} {G0 G G':Gp} {A A':Nat->Option Addr} {τ:St3} {ρ:Rho}
def RS.nd (h:RS D G0 A τ ρ G) {i:Nat} {p:Addr} (e:A i=some p):¬ D p:=λz=>h.dm p z (h.fr i p e)
def RS.dom (h:RS D G0 A τ ρ G):Dom (AD D A) G:=λb hb=>by
 rcases hb with hb|⟨i,hi⟩
 ·exact (h.dm.up h.ex) b hb
 ·exact h.da i b hi
def RS.domD (h:RS D G0 A τ ρ G):Dom D G:=h.dm.up h.ex
def RS.up (h:RS D G0 A τ ρ G) (e:Ex G G'):RS D G0 A τ ρ G':=
 ⟨h.ex.trans e,h.dm,h.fr,λi p a z=>(h.da i p a) (by
  cases g:G p with
  |none=>rfl
  |some o=>rw [e _ _ g] at z;cases z),h.inj,h.len,λi d a=>let ⟨t,b,c⟩:=h.sh i d a;⟨t,b,c.up (ZO e)⟩,λi ds a=>let ⟨p,xs,b,c,d,f⟩:=h.ow i ds a;⟨p,xs,b,c,e _ _ d,f.up (ZO e)⟩⟩
def RS.viewAll (h:RS D G0 A τ ρ G) (fv:List Nat):CF fv D G τ ρ:=λi _ d hd=>by
 unfold vw at hd;obtain ⟨s,e,hd⟩:=obb hd;have less:Ex (rs (AD D A) G) (rs D G):=zX λb z=>.inl z;cases s with
 |un=>cases hd
 |sh d'=>
  cases hd;obtain ⟨t,b,c⟩:=h.sh i _ e;exact ⟨t,b,c.up less⟩
 |ow ds=>
  cases hd;obtain ⟨p,xs,b,c,g,f⟩:=h.ow i _ e;exact ⟨_,c,.lst (by rw [QH (h.nd b)];exact g) (f.up less)⟩
def RS.view (h:RS D G0 A τ ρ G) {fv:List Nat} (hn:∀ i∈fv,A i=none):CF fv (AD D A) G τ ρ:=λi hi d hd=>by
 unfold vw at hd;obtain ⟨s,e,hd⟩:=obb hd;cases s with
 |un=>cases hd
 |sh d'=>
  cases hd;exact h.sh i _ e
 |ow ds=>
  obtain ⟨p,xs,b,_⟩:=h.ow i _ e;rw [hn i hi] at b;cases b
def Sl.dem:Sl->Sl
 |.ow ds=>.sh (.list ds)
 |s=>s
def dm:List Bool->Rho->Rho
 |b::m,s::r=>(match b with|true=>s.dem|false=>s)::dm m r
 |_,r=>r
def mkb (m:List Bool) (i:Nat):Bool:=(m[i]?).getD false
def qaW:∀ (m:List Bool) (ρ:Rho) (i:Nat),(dm m ρ)[i]?=(ρ[i]?).map λs=>if mkb m i=true then s.dem else s
 |[],ρ,i=>by simp [dm,mkb]
 |b::m,[],i=>by simp [dm]
 |b::m,s::r,0=>by cases b<;>simp [dm,mkb]
 |b::m,s::r,i+1=>by
  have:=qaW m r i;simp only [dm,getElem?_cons_succ,mkb] at this ⊢;exact this
def qaC (s:Sl):s.dem.d=s.d:=by cases s<;>rfl
def qos (m:List Bool) (ρ:Rho) (i:Nat):vw (dm m ρ) i=vw ρ i:=by
 unfold vw;rw [qaW];cases ρ[i]? with
 |none=>rfl
 |some s=>
  simp only [Option.map_some,Option.bind_some];split
  ·exact qaC s
  ·rfl
def qdR:∀ (m:List Bool) (ρ:Rho),(dm m ρ).length=ρ.length
 |[],ρ=>rfl
 |b::m,[]=>rfl
 |b::m,s::r=>by simp [dm,qdR m r]
def Ad (m:List Bool) (A:Nat->Option Addr):Nat->Option Addr:=λi=>if mkb m i=true then none else A i
def WX {m:List Bool} {i:Nat} {p:Addr} (h:Ad m A i=some p):A i=some p/\mkb m i=false:=by
 unfold Ad at h;split at h
 ·cases h
 ·rename_i n;exact ⟨h,by simpa using n⟩
def RS.dem (h:RS D G0 A τ ρ G) (m:List Bool):RS D G0 (Ad m A) τ (Pu.dm m ρ) G:=by
 have less:Ex (rs (AD D A) G) (rs (AD D (Ad m A)) G):=zX λb z=>by
  rcases z with z|⟨i,z⟩
  ·exact .inl z
  ·exact .inr ⟨i,(WX z).1⟩
 refine ⟨h.ex,h.dm,λi p e=>h.fr i p (WX e).1,λi p e=>h.da i p (WX e).1,λi j p a b=>h.inj i j p (WX a).1 (WX b).1,by rw [qdR];exact h.len,λi d e=>?_,λi ds e=>?_⟩
 ·rw [qaW] at e;obtain ⟨s,e1,e2⟩:=Option.map_eq_some_iff.mp e;cases s with
  |un=>split at e2<;>cases e2
  |sh d'=>
   have:d'=d:=by split at e2<;>(cases e2;rfl)
   subst this;obtain ⟨t,b,c⟩:=h.sh i _ e1;exact ⟨t,b,c.up less⟩
  |ow ds=>
   split at e2
   ·rename_i hm;cases e2;obtain ⟨p,xs,b,c,g,f⟩:=h.ow i _ e1;refine ⟨_,c,.lst ?_ (f.up less)⟩;rw [QH]
    ·exact g
    ·rintro (z|⟨j,z⟩)
     ·exact h.nd b z
     ·have:=h.inj i j p b (WX z).1;subst this;rw [(WX z).2] at hm;cases hm
   ·cases e2
 ·rw [qaW] at e;obtain ⟨s,e1,e2⟩:=Option.map_eq_some_iff.mp e;cases s with
  |un=>split at e2<;>cases e2
  |sh d'=>split at e2<;>cases e2
  |ow ds'=>
   split at e2
   ·cases e2
   ·rename_i hm;cases e2;obtain ⟨p,xs,b,c,g,f⟩:=h.ow i _ e1;exact ⟨p,xs,by unfold Ad;rw [if_neg hm];exact b,c,g,f.up less⟩
def RS.viewD (h:RS D G0 A τ ρ G) {m:List Bool} {fv:List Nat} (hm:Tru (fv.all (mkb m))):CF fv (AD D (Ad m A)) G τ ρ:=by
 have:=(h.dem m).view (fv:=fv) λi hi=>by unfold Ad;rw [if_pos (List.all_eq_true.mp hm.h i hi)]
 intro i hi d hd;exact this i hi d (by rw [qos];exact hd)
def Er (A:Nat->Option Addr) (i:Nat):Nat->Option Addr:=λj=>if j=i then none else A j
def WW {i j:Nat} {p:Addr} (h:Er A i j=some p):A j=some p/\j≠i:=by
 unfold Er at h;split at h
 ·cases h
 ·rename_i n;exact ⟨h,n⟩
def RS.put (h:RS D G0 A τ ρ G) (i:Nat) {x:T} {d:PyData} (hx:Dq (rs (AD D A) G) x d):RS D G0 (Er A i) (τ.set i (some x)) (ρ.set i (.sh d)) G:=by
 have less:Ex (rs (AD D A) G) (rs (AD D (Er A i)) G):=zX λb z=>by
  rcases z with z|⟨j,z⟩
  ·exact .inl z
  ·exact .inr ⟨j,(WW z).1⟩
 refine ⟨h.ex,h.dm,λj p e=>h.fr j p (WW e).1,λj p e=>h.da j p (WW e).1,λj k p a b=>h.inj j k p (WW a).1 (WW b).1,by simp [h.len],λj e he=>?_,λj ds e=>?_⟩
 ·rw [getElem?_set] at he ⊢;split at he
  ·rename_i hj;rw [if_pos hj];split at he
   ·rename_i hl;cases he;exact ⟨x,by rw [if_pos (by rw [← h.len];exact hl)],hx.up less⟩
   ·cases he
  ·rename_i hj;rw [if_neg hj];obtain ⟨t,b,c⟩:=h.sh j _ he;exact ⟨t,b,c.up less⟩
 ·rw [getElem?_set] at e ⊢;split at e
  ·split at e<;>cases e
  ·rename_i hj;rw [if_neg hj];obtain ⟨p,xs,b,c,g,f⟩:=h.ow j _ e;exact ⟨p,xs,by unfold Er;rw [if_neg (λz=>hj z.symm)];exact b,c,g,f.up less⟩
def RS.puts:∀ {ts:List (Nat×T)} {bs:List (Nat×PyData)} {A:Nat->Option Addr} {τ:St3} {ρ:Rho},RS D G0 A τ ρ G->Bd (rs (AD D A) G) ts bs->∃ A',RS D G0 A' (sets τ ts) (ZJ ρ bs) G
 |_,_,A,_,_,h,.nil=>⟨A,h⟩
 |_,_,A,_,_,h,.cons (i:=i) a b=>by
  unfold sets ZJ;exact RS.puts (h.put i a) (b.up (zX λb z=>by
   rcases z with z|⟨j,z⟩
   ·exact .inl z
   ·exact .inr ⟨j,(WW z).1⟩))
def RS.putN (h:RS D G0 A τ ρ G) (i:Nat) {x:T} {d:PyData} {ds:List PyData} (hd:d=.list ds) (E:Ex G G') (hx:Nw (AD D A) G G' x d):RS D G0 (λj=>if j=i then (match x with|.ref p=>some p|_=>none) else A j) (τ.set i (some x)) (ρ.set i (.ow ds)) G':=by
 rcases hx with hx|⟨p,xs,ds',rfl,e',gp,gp',hs⟩
 ·rw [hd] at hx;cases hx
 rw [hd] at e';cases e';have np:∀ {j q},A j=some q->q≠p:=λe=>by rintro rfl;exact h.da _ _ e gp
 have X1:Ex (rs (AD D A) G) (rs (AD D (λj=>if j=i then some p else A j)) G'):=λb o e=>by
  obtain ⟨n,e⟩:=qZ e;rw [QH]
  ·exact E _ _ e
  ·rintro (z|⟨j,z⟩)
   ·exact n (.inl z)
   ·simp only at z;split at z
    ·cases z;rw [gp] at e;cases e
    ·exact n (.inr ⟨j,z⟩)
 refine ⟨h.ex.trans E,h.dm,λj q e=>?_,λj q e=>?_,λj k q a b=>?_,by simp [h.len],λj e he=>?_,λj es e=>?_⟩
 ·simp only at e;split at e
  ·cases e;cases z:G0 p with
   |none=>rfl
   |some o=>rw [h.ex _ _ z] at gp;cases gp
  ·exact h.fr j q e
 ·simp only at e;split at e
  ·cases e;rw [gp'];simp
  ·exact (h.up E).da j q e
 ·simp only at a b;split at a
  ·cases a;split at b
   ·rename_i h1 h2;rw [h1,h2]
   ·exact absurd rfl (np b)
  ·split at b
   ·cases b;exact absurd rfl (np a)
   ·exact h.inj j k q a b
 ·rw [getElem?_set] at he ⊢;split at he
  ·split at he<;>cases he
  ·rename_i hj;rw [if_neg hj];obtain ⟨t,b,c⟩:=h.sh j _ he;exact ⟨t,b,c.up X1⟩
 ·rw [getElem?_set] at e ⊢;split at e
  ·rename_i hj;subst hj;split at e
   ·rename_i hl;cases e;refine ⟨p,xs,by simp,by rw [if_pos rfl,if_pos (by rw [← h.len];exact hl)],gp',hs.up (zX λb z=>?_)⟩;rcases z with z|⟨j,z⟩
    ·exact .inl (.inl z)
    ·simp only at z;split at z
     ·cases z;exact .inr rfl
     ·exact .inl (.inr ⟨j,z⟩)
   ·cases e
  ·rename_i hj;rw [if_neg hj];obtain ⟨q,ys,b,c,g,f⟩:=h.ow j _ e;exact ⟨q,ys,by rw [if_neg (λz=>hj z.symm)];exact b,c,E _ _ g,f.up X1⟩
def RS.wr (h:RS D G0 A τ ρ G) {i:Nat} {p:Addr} {xs:List T} {ds:List PyData} (hi:A i=some p) (ht:τ[i]?=some (some (.ref p))) (hs:Dqs (rs (AD D A) G) xs ds):RS D G0 A τ (ρ.set i (.ow ds)) (gu G p (.lst xs)):=by
 have X1:Ex (rs (AD D A) G) (rs (AD D A) (gu G p (.lst xs))):=λb o e=>by
  obtain ⟨n,e⟩:=qZ e;rw [QH n,QE (by rintro rfl;exact n (.inr ⟨i,hi⟩))];exact e
 refine ⟨λb o e=>?_,h.dm,h.fr,λj q e=>?_,h.inj,by simp [h.len],λj e he=>?_,λj es e=>?_⟩
 ·rw [QE (by rintro rfl;rw [h.fr i _ hi] at e;cases e)];exact h.ex _ _ e
 ·by_cases z:q=p
  ·subst z;rw [qT];simp
  ·rw [QE z];exact h.da j q e
 ·rw [getElem?_set] at he;split at he
  ·split at he<;>cases he
  ·obtain ⟨t,b,c⟩:=h.sh j _ he;exact ⟨t,b,c.up X1⟩
 ·rw [getElem?_set] at e;split at e
  ·rename_i hj;subst hj;split at e
   ·cases e;exact ⟨p,xs,hi,ht,qT,hs.up X1⟩
   ·cases e
  ·rename_i hj;obtain ⟨q,ys,b,c,g,f⟩:=h.ow j _ e;exact ⟨q,ys,b,c,by rw [QE (by rintro rfl;exact hj (h.inj i j _ hi b))];exact g,f.up X1⟩
def RS.base {Gb:Gp} (h:RS D Gb A τ ρ G) (e:Ex G0 Gb) (hd:Dom D G0):RS D G0 A τ ρ G:=
 ⟨e.trans h.ex,hd,(λi p a=>by
  cases z:G0 p with
  |none=>rfl
  |some o=>have:=h.fr i p a;rw [e _ _ z] at this;cases this),h.da,h.inj,h.len,h.sh,h.ow⟩
end
inductive Ot where
 |nx (ρ:Rho)|bk (ρ:Rho)|ct (ρ:Rho)|rt (d:PyData) (fr:Bool)
def qjM (D:Addr->Prop) (G0:Gp) (e:Ends3):Ot->Prop
 |.nx ρ=>∀ A τ G,RS D G0 A τ ρ G->e.nx τ G
 |.bk ρ=>∀ A τ G,RS D G0 A τ ρ G->e.bk τ G
 |.ct ρ=>∀ A τ G,RS D G0 A τ ρ G->e.ct τ G
 |.rt d fr=>∀ x G,Ex G0 G->Dq (rs D G) x d->(fr=true->Nw D G0 G x d)->e.rt x G
def qjM.base {D:Addr->Prop} {G0 Gb:Gp} {e:Ends3} {o:Ot} (h:qjM D G0 e o) (x:Ex G0 Gb) (hd:Dom D G0):qjM D Gb e o:=by
 cases o with
 |nx ρ=>exact λA τ G r=>h A τ G (r.base x hd)
 |bk ρ=>exact λA τ G r=>h A τ G (r.base x hd)
 |ct ρ=>exact λA τ G r=>h A τ G (r.base x hd)
 |rt d fr=>exact λy G a b c=>h y G (x.trans a) b λz=>(c z).back x
structure PuS (t:TS3) where
 f:Nat->Rho->Option Ot
 ok:∀ {D G0 A τ ρ G n o} {e:Ends3},RS D G0 A τ ρ G->f n ρ=some o->qjM D G0 e o->t e τ G
def Z8:PuS za:=⟨λ_ ρ=>some (.nx ρ),λh hf k=>by cases hf;exact k _ _ _ h⟩
def qmp (a b:Nat->Rho->Option Ot) (n:Nat) (ρ:Rho):Option Ot:=(a n ρ).bind λo=>match o with|.nx ρ'=>b n ρ'|o=>some o
def jS {t u:TS3} (a:PuS t) (b:PuS u):PuS (qO t u):=⟨qmp a.f b.f,λ{D G0 A τ ρ G n o e} h hf k=>by
 unfold qmp at hf;obtain ⟨o1,e1,hf⟩:=obb hf;refine a.ok h e1 ?_;cases o1 with
 |nx ρ'=>exact λA' τ' G' h'=>b.ok h' hf k
 |bk ρ'=>cases hf;exact k
 |ct ρ'=>cases hf;exact k
 |rt d fr=>cases hf;exact k⟩
def sIf {c:TT3} {t u:TS3} (pc:PuC c) (a:PuS t) (b:PuS u):PuS (QB c t u):=⟨λn ρ=>(pc.f ρ).bind λk=>if k then a.f n ρ else b.f n ρ,λh hf k=>by
 obtain ⟨o1,e1,hf⟩:=obb hf;refine pc.ok (h.viewAll _) h.domD e1 λG1 E1=>?_;cases o1 with
 |true=>exact a.ok (h.up E1) hf k
 |false=>exact b.ok (h.up E1) hf k⟩
def J5 {t:TE3} (a:PuE t):PuS (zd t):=⟨λ_ ρ=>(a.f ρ).map λd=>.rt d a.nw,λh hf k=>by
 obtain ⟨d,e1,rfl⟩:=Option.map_eq_some_iff.mp hf;exact a.ok (h.viewAll _) h.domD e1 λx G1 E1 D1 N1=>k x G1 (h.ex.trans E1) D1 λz=>(N1 z).back h.ex⟩
def qcs (ρ:Rho) (i:Nat):Option Ot:=match ρ[i]? with|some (.ow ds)=>some (.rt (.list ds) true)|some (.sh d)=>some (.rt d false)|_=>none
def qdn (i:Nat):PuS (zd (v3 i)):=⟨λ_ ρ=>qcs ρ i,λh hf k=>by
 unfold qcs at hf;split at hf
 ·rename_i ds e;cases hf;obtain ⟨p,xs,b,c,g,f⟩:=h.ow i _ e;simp only [zd,v3,c];refine k _ _ h.ex (.lst (by rw [QH (h.nd b)];exact g) (f.up (zX λb z=>.inl z))) λ_=>.inr ⟨p,xs,ds,rfl,rfl,h.fr i p b,g,f.up (zX λq z=>?_)⟩;rcases z with z|z
  ·exact .inl z
  ·subst z;exact .inr ⟨i,b⟩
 ·rename_i d e;cases hf;obtain ⟨t,b,c⟩:=h.sh i _ e;simp only [zd,v3,b];exact k _ _ h.ex (c.up (zX λb z=>.inl z)) (λz=>by cases z)
 ·cases hf⟩
def qeh:PyData->Bool
 |.none=>true|.bool _=>true|.int _=>true|.str _=>true|_=>false
def DT {H H':Gp} {x:T} {d:PyData} (h:Dq H x d) (s:qeh d=true):Dq H' x d:=by
 cases h<;>first|(constructor;done)|(simp [qeh] at s;done)
def qpD:PyData->Sl
 |.list ds=>.ow ds
 |d=>.sh d
def NR (m:List Bool) (nw:Bool) (i:Nat) (d:PyData) (ρ:Rho):Rho:=if qeh d then ρ.set i (.sh d) else (dm m ρ).set i (if nw then qpD d else .sh d)
def SM {t:TE3} (a:PuE t) (i:Nat) (m:List Bool) (hm:Tru (a.fv.all (mkb m))):PuS (zg t (gn3 i)):=⟨λ_ ρ=>(a.f ρ).map λd=>.nx (NR m a.nw i d ρ),λ{D G0 A τ ρ G n o e} h hf k=>by
 obtain ⟨d,e1,rfl⟩:=Option.map_eq_some_iff.mp hf;refine a.ok (h.viewD hm) (h.dem m).dom e1 λx G1 E1 D1 N1=>?_;unfold NR at k;show e.nx (τ.set i (some x)) G1;split at k
 ·rename_i hs;exact k _ _ _ ((h.up E1).put i (DT D1 hs))
 ·split at k
  ·rename_i hn;have N:=N1 hn;rcases id N with h2|⟨p,xs,ds,h1,h2,_⟩
   ·subst h2;rename_i hs;exact absurd rfl hs
   subst h2;exact k _ _ _ ((h.dem m).putN i rfl E1 N)
  ·exact k _ _ _ (((h.dem m).up E1).put i D1)⟩
def DF {t:TE3} {g:TG3} (a:PuE t) (pg:PuG g) (m:List Bool) (hm:Tru (a.fv.all (mkb m))):PuS (zg t g):=⟨λ_ ρ=>(a.f ρ).bind λd=>(pg.f d).map λbs=>.nx (ZJ (dm m ρ) bs),λ{D G0 A τ ρ G n o e} h hf k=>by
 obtain ⟨d,e1,hf⟩:=obb hf;obtain ⟨bs,e2,rfl⟩:=Option.map_eq_some_iff.mp hf;refine a.ok (h.viewD hm) (h.dem m).dom e1 λx G1 E1 D1 N1=>?_;obtain ⟨ts,bd,kg⟩:=pg.ok D1 e2;refine kg _ _ _ ?_;obtain ⟨A',h'⟩:=((h.dem m).up E1).puts bd;exact k _ _ _ h'⟩
def qdd (i j:Nat) (m:List Bool) (ds:List PyData) (ρ:Rho):Option Ot:=match ds with
 |[d,e]=>if qeh d&&qeh e then some (.nx ((ρ.set i (.sh d)).set j (.sh e))) else some (.nx (((dm m ρ).set i (.sh d)).set j (.sh e)))
 |_=>none
def qfU {D:Addr->Prop} {A:Nat->Option Addr} {G:Gp} {i:Nat}:Ex (rs (AD D A) G) (rs (AD D (Er A i)) G):=zX λb z=>by
 rcases z with z|⟨j,z⟩
 ·exact .inl z
 ·exact .inr ⟨j,(WW z).1⟩
def qm7 {t:TA3} (a:PuA t) (i j:Nat) (m:List Bool) (hm:Tru (a.fv.all (mkb m))):PuS (WD i j t):=⟨λ_ ρ=>(a.f ρ).bind λds=>qdd i j m ds ρ,λ{D G0 A τ ρ G n o e} h hf k=>by
 obtain ⟨ds,e1,hf⟩:=obb hf;refine a.ok (h.viewD hm) (h.dem m).dom e1 λx G1 E1 D1=>?_;unfold qdd at hf;split at hf
 ·cases D1 with
  |cons a b=>cases b with
   |cons b c=>
    cases c;split at hf
    ·rename_i hs;cases hf;rw [Bool.and_eq_true] at hs;exact k _ _ _ (((h.up E1).put i (DT a hs.1)).put j (DT b hs.2))
    ·cases hf;exact k _ _ _ ((((h.dem m).up E1).put i a).put j (b.up qfU))
 ·cases hf⟩
def qlW (i:Nat) (d:PyData) (ρ:Rho):Option Ot:=match (vw ρ i).bind asI,asI d with|some x,some y=>some (.nx (ρ.set i (.sh (.int (x+y)))))|_,_=>none
def qmI {t:TE3} (a:PuE t) (i:Nat):PuS (qdx i (iI (·+·)) t):=⟨λ_ ρ=>(a.f ρ).bind λd=>qlW i d ρ,λ{D G0 A τ ρ G n o e} h hf k=>by
 obtain ⟨d,e1,hf⟩:=obb hf;unfold qlW at hf;split at hf
 ·rename_i u v hu hv;cases hf;obtain ⟨w,e2,hu⟩:=obb hu;have:=MT hu;subst this;have:=MT hv;subst this;obtain ⟨t,b,c⟩:=h.viewAll [i] i (by simp) _ e2;cases c;simp only [qdx,b];refine a.ok (h.viewAll _) h.domD e1 λy G1 E1 D1 _=>?_;cases D1;exact k _ _ _ ((h.up E1).put i (.int _))
 ·cases hf⟩
def slot (ρ:Rho) (i:Nat):Option (List PyData):=match ρ[i]? with|some (.ow ds)=>some ds|_=>none
def qgk {ρ:Rho} {i:Nat} {ds:List PyData} (h:slot ρ i=some ds):ρ[i]?=some (.ow ds):=by
 unfold slot at h;split at h
 ·rename_i e;cases h;exact e
 ·cases h
def dmS (m:List Bool) (d:PyData) (ρ:Rho):Rho:=if qeh d then ρ else dm m ρ
def RS.evalS {D:Addr->Prop} {G0 G:Gp} {A:Nat->Option Addr} {τ:St3} {ρ:Rho} (h:RS D G0 A τ ρ G) {t:TE3} (a:PuE t) (m:List Bool) (hm:Tru (a.fv.all (mkb m))) {d:PyData} (hf:a.f ρ=some d):∃ A1,RS D G0 A1 τ (dmS m d ρ) G/\∀ q:Q3,(∀ x G',Ex G G'->Dq (rs (AD D A1) G') x d->q x G')->t τ G q:=by
 unfold dmS;by_cases hs:qeh d=true
 ·rw [if_pos hs];exact ⟨A,h,λq k=>a.ok (h.viewAll _) h.domD hf λx G1 E1 D1 _=>k x G1 E1 (DT D1 hs)⟩
 ·rw [if_neg hs];exact ⟨Ad m A,h.dem m,λq k=>a.ok (h.viewD hm) (h.dem m).dom hf λx G1 E1 D1 _=>k x G1 E1 D1⟩
def qjP (i:Nat) (d:PyData) (ρ:Rho):Option Ot:=match d with|.list es=>(slot ρ i).bind λds=>cif (ds.length+es.length<=sizeLine) (some (.nx (ρ.set i (.ow (ds++es))))) none|_=>none
def qnJ {t:TE3} (a:PuE t) (i:Nat) (m:List Bool) (hm:Tru (a.fv.all (mkb m))):PuS (XZ (bm3 qck (v3 i) (qc t qi))):=⟨λ_ ρ=>(a.f ρ).bind λd=>qjP i d (dmS m d ρ),λ{D G0 A τ ρ G n o e} h hf k=>by
 obtain ⟨d,e1,hf⟩:=obb hf;obtain ⟨A1,h1,ev⟩:=h.evalS a m hm e1;unfold qjP at hf;split at hf
 ·obtain ⟨ds,e2,hf⟩:=obb hf;unfold cif at hf;split at hf
  ·rename_i hl;cases hf;obtain ⟨p,xs,b,c,g,f⟩:=h1.ow i _ (qgk e2);simp only [XZ,bm3,v3,c,jh g];refine ⟨rfl,ev _ λx G1 E1 D1=>?_⟩;cases D1 with
   |lst g2 hs2=>
    simp only [qi,qck,E1 _ _ g,(qZ g2).2];exact ⟨by rw [f.length,hs2.length];exact hl,k _ _ _ ((h1.up E1).wr b c ((f.up (ZO E1)).append hs2))⟩
  ·cases hf
 ·cases hf⟩
def SL (gf:PyData->Option (List (Nat×PyData))) (bf:Rho->Option Ot):List PyData->Rho->Option Ot
 |[],ρ=>some (.nx ρ)
 |d::r,ρ=>(gf d).bind λbs=>(bf (ZJ ρ bs)).bind λo=>match o with
  |.nx ρ'=>SL gf bf r ρ'
  |.ct ρ'=>SL gf bf r ρ'
  |.bk ρ'=>some (.nx ρ')
  |.rt d b=>some (.rt d b)
def M5 {stay:Gp->Prop} {g:TG3} {tb:TS3} {e:Ends3} (pg:PuG g) (pb:PuS tb) {D:Addr->Prop} {G0:Gp} {n:Nat} {o:Ot} {items0:List T} (hs:∀ A τ ρ G,RS D G0 A τ ρ G->stay G) (k:qjM D G0 e o) :
  ∀ (ds:List PyData) (items:List T),(∀ A τ ρ G,RS D G0 A τ ρ G->Dqs (rs (AD D A) G) items ds)->∀ A τ ρ G,RS D G0 A τ ρ G->SL pg.f (pb.f n) ds ρ=some o->R4 stay g tb e items τ G
 |[],items,hi,A,τ,ρ,G,h,hf=>by
  cases hf;have:=hi _ _ _ _ h;cases this;exact ⟨hs _ _ _ _ h,k _ _ _ h⟩
 |d::ds,items,hi,A,τ,ρ,G,h,hf=>by
  have hh:=hi _ _ _ _ h;cases hh with
  |cons hx hr=>
   rename_i x items;unfold SL at hf;obtain ⟨bs,e1,hf⟩:=obb hf;obtain ⟨o1,e2,hf⟩:=obb hf;obtain ⟨ts,bd,kg⟩:=pg.ok hx e1;refine ⟨hs _ _ _ _ h,kg _ _ _ ?_⟩;obtain ⟨A',h'⟩:=h.puts bd;refine pb.ok h' e2 ?_;have hi':∀ A τ ρ G,RS D G0 A τ ρ G->Dqs (rs (AD D A) G) items ds:=λA τ ρ G h=>by
    have:=hi _ _ _ _ h;cases this with
    |cons a b=>exact b
   cases o1 with
   |nx ρ'=>exact λA2 τ2 G2 h2=>M5 (items0:=items0) pg pb hs k ds items hi' _ _ _ _ h2 hf
   |ct ρ'=>exact λA2 τ2 G2 h2=>M5 (items0:=items0) pg pb hs k ds items hi' _ _ _ _ h2 hf
   |bk ρ'=>cases hf;exact k
   |rt d fr=>cases hf;exact k
def qj3 (pi:Rho->Option (List PyData)) (nm:Bool) (m:List Bool) (gf:PyData->Option (List (Nat×PyData))) (bf:Nat->Rho->Option Ot) (n:Nat) (ρ:Rho):Option Ot:=(pi ρ).bind λds=>SL gf (bf n) ds (if nm then ρ else dm m ρ)
def qcp {wi:TI3} {g:TG3} {tb:TS3} (pi:PuI wi) (pg:PuG g) (pb:PuS tb) (m:List Bool) (hm:Tru (pi.fv.all (mkb m))):PuS (DP wi g tb):=⟨qj3 pi.f pi.nm m pg.f pb.f,λ{D G0 A τ ρ G n o e} h hf k=>by
 unfold qj3 at hf;obtain ⟨ds,e1,hf⟩:=obb hf;refine pi.ok (h.viewD hm) (h.dem m).dom e1 λitems stay G1 E1 D1 hs hnm=>?_;cases hb:pi.nm with
 |true=>
  rw [hb,if_pos rfl] at hf;obtain ⟨ns,rfl⟩:=hnm hb;have:=D1.ints;subst this;exact M5 (items0:=[]) pg pb (λ_ _ _ _ _=>hs _ (.inl hb)) k _ _ (λA τ ρ G _=>Dqs.ofInts _) _ _ _ _ (h.up E1) hf
 |false=>
  rw [hb,if_neg Bool.false_ne_true] at hf;have h1:=(h.dem m).up E1;have b1:Ex G0 (rs (λb=>∃ i,Ad m A i=some b) G1):=λb o e=>by
   rw [QH]
   ·exact h1.ex _ _ e
   ·rintro ⟨i,z⟩;rw [h1.fr i _ z] at e;cases e
  have h2:RS D (rs (λb=>∃ i,Ad m A i=some b) G1) (Ad m A) τ (dm m ρ) G1:=⟨JX,h.dm.up b1,λi p z=>by unfold rs;exact zI ⟨i,z⟩,h1.da,h1.inj,h1.len,h1.sh,h1.ow⟩
  have X:∀ A2 τ2 ρ2 G2,RS D (rs (λb=>∃ i,Ad m A i=some b) G1) A2 τ2 ρ2 G2->Ex (rs (AD D (Ad m A)) G1) (rs (AD D A2) G2):=λA2 τ2 ρ2 G2 r b o e=>by
   obtain ⟨n1,e⟩:=qZ e;have eb:rs (λb=>∃ i,Ad m A i=some b) G1 b=some o:=by rw [QH (λz=>n1 (.inr z))];exact e
   rw [QH]
   ·exact r.ex _ _ eb
   ·rintro (z|⟨i,z⟩)
    ·exact n1 (.inl z)
    ·rw [r.fr i _ z] at eb;cases eb
  exact M5 (items0:=[]) pg pb (λA2 τ2 ρ2 G2 r=>hs _ (.inr ((X _ _ _ _ r).trans JX))) (k.base b1 h.dm) _ _ (λA2 τ2 ρ2 G2 r=>D1.up (X _ _ _ _ r)) _ _ _ _ h2 hf⟩
def whP (cf:Rho->Option Bool) (bf:Rho->Option Ot):Nat->Rho->Option Ot
 |0,_=>none
 |n+1,ρ=>(cf ρ).bind λk=>if k then (bf ρ).bind λo=>match o with
   |.nx ρ'=>whP cf bf n ρ'
   |.ct ρ'=>whP cf bf n ρ'
   |.bk ρ'=>some (.nx ρ')
   |.rt d b=>some (.rt d b)
  else some (.nx ρ)
def sWh {c:TT3} {tb:TS3} (pc:PuC c) (pb:PuS tb):PuS (W1 c tb):=⟨λn ρ=>whP pc.f (pb.f n) n ρ,λ{D G0 A τ ρ G n o e} h hf k=>by
 refine ⟨λm τ G=>∃ A ρ,RS D G0 A τ ρ G/\whP pc.f (pb.f n) m ρ=some o,⟨n,A,ρ,h,hf⟩,?_⟩;rintro m τ G ⟨A,ρ,h,hf⟩;cases m with
 |zero=>cases hf
 |succ m=>
  unfold whP at hf;obtain ⟨b,e1,hf⟩:=obb hf;refine pc.ok (h.viewAll _) h.domD e1 λG1 E1=>?_;cases b with
  |true=>
   rw [if_pos rfl] at hf ⊢;obtain ⟨o1,e2,hf⟩:=obb hf;cases o1 with
   |nx ρ'=>exact ⟨λτ' G'=>∃ A',RS D G0 A' τ' ρ' G',λτ' G' ⟨A',h'⟩=>⟨m,by omega,A',ρ',h',hf⟩,pb.ok (h.up E1) e2 λA' τ' G' h'=>⟨A',h'⟩⟩
   |ct ρ'=>exact ⟨λτ' G'=>∃ A',RS D G0 A' τ' ρ' G',λτ' G' ⟨A',h'⟩=>⟨m,by omega,A',ρ',h',hf⟩,pb.ok (h.up E1) e2 λA' τ' G' h'=>⟨A',h'⟩⟩
   |bk ρ'=>cases hf;exact ⟨λ_ _=>False,λ_ _ z=>z.elim,pb.ok (h.up E1) e2 k⟩
   |rt d fr=>cases hf;exact ⟨λ_ _=>False,λ_ _ z=>z.elim,pb.ok (h.up E1) e2 k⟩
  |false=>
   cases hf;rw [if_neg Bool.false_ne_true];exact k _ _ _ (h.up E1)⟩
def YS (fr:Bool):Option Ot->Option PyData
 |some (.rt d b)=>if fr=true/\b=false then (match d with|.none=>some .none|_=>none) else some d
 |some (.nx _)=>if fr then none else some .none
 |_=>none
def st (ds:List PyData) (N:Nat):Rho:=ds.map Sl.sh++List.replicate (N-ds.length) .un
def run (f:Nat->Rho->Option Ot) (k N n:Nat) (fr:Bool) (ds:List PyData):Option PyData:=if ds.length=k then YS fr (f n (st ds N)) else none
def zt {t:TS3} (b:PuS t) (N:List Str) (k n:Nat) (fr:Bool):∀ ts G q,PSp (run b.f k N.length n fr) fr ts G q->ts.length=k/\t { nx:=λ_ G'=>q .non G',rt:=q } (qu N ts) G:=by
 rintro ts G q ⟨D,ds,d,hs,hd,hf,h⟩;unfold run at hf;split at hf
 ·rename_i hk;refine ⟨by rw [hs.length];exact hk,?_⟩;have r:RS D G (λ_=>none) (qu N ts) (st ds N.length) G:=by
   refine ⟨Ex.refl,hd,(λi p e=>by cases e),(λi p e=>by cases e),(λi j p e=>by cases e),(by simp [st,qu,hs.length]),λi d' e=>?_,λi es e=>?_⟩
   ·unfold st at e;unfold qu;by_cases hi:i<ds.length
    ·rw [List.getElem?_append_left (by simpa using hi),getElem?_map] at e;obtain ⟨d2,e3,e4⟩:=Option.map_eq_some_iff.mp e;cases e4;obtain ⟨x,e5,hx⟩:=hs.get e3;refine ⟨x,?_,hx.up (zX λb z=>?_)⟩
     ·rw [List.getElem?_append_left (by simp [hs.length];exact hi),getElem?_map,e5];rfl
     ·rcases z with z|⟨i,z⟩
      ·exact z
      ·cases z
    ·rw [List.getElem?_append_right (by simpa using hi),List.getElem?_replicate] at e;split at e<;>cases e
   ·unfold st at e;by_cases hi:i<ds.length
    ·rw [List.getElem?_append_left (by simpa using hi),getElem?_map] at e;obtain ⟨d2,e3,e4⟩:=Option.map_eq_some_iff.mp e;cases e4
    ·rw [List.getElem?_append_right (by simpa using hi),List.getElem?_replicate] at e;split at e<;>cases e
  unfold YS at hf;split at hf
  ·rename_i d' b' e;split at hf
   ·split at hf
    ·cases hf;exact b.ok r e λx G' a c z=>h x G' a c λ_=>.inl rfl
    ·cases hf
   ·rename_i hb;cases hf;exact b.ok r e λx G' a c z=>h x G' a c λw=>z (by
     cases b' with
     |true=>rfl
     |false=>exact absurd ⟨w,rfl⟩ hb)
  ·rename_i ρ' e;split at hf
   ·cases hf
   ·rename_i hb;cases hf;exact b.ok r e λA τ G' r'=>h .non G' r'.ex .non λw=>absurd w hb
  ·cases hf
 ·cases hf
mutual
def tD:T->Option PyData
 |.non=>some .none|.bl b=>some (.bool b)|.int i=>some (.int i)|.str x=>some (.str x)|.tup xs=>(tDs xs).map .tuple|.ref _=>none
def tDs:List T->Option (List PyData)
 |[]=>some []
 |x::r=>(tD x).bind λd=>(tDs r).map (d::·)
end
mutual
def qhW {G:Gp}:∀ (t:T) {d:PyData},tD t=some d->Dq G t d
 |.non,_,h=>by cases h;exact .non
 |.bl b,_,h=>by cases h;exact .bl b
 |.int b,_,h=>by cases h;exact .int b
 |.str b,_,h=>by cases h;exact .str b
 |.tup xs,_,h=>by
  unfold tD at h;obtain ⟨ds,e,rfl⟩:=Option.map_eq_some_iff.mp h;exact .tup (qe0 xs e)
 |.ref _,_,h=>by cases h
def qe0 {G:Gp}:∀ (t:List T) {d:List PyData},tDs t=some d->Dqs G t d
 |[],_,h=>by cases h;exact .nil
 |x::r,_,h=>by
  unfold tDs at h;obtain ⟨d,e,h⟩:=obb h;obtain ⟨ds,e2,rfl⟩:=Option.map_eq_some_iff.mp h;exact .cons (qhW x e) (qe0 r e2)
end
def asS:PyData->Option Str
 |.str s=>some s
 |_=>none
def qdC {d:PyData} {b:Str} (h:asS d=some b):d=.str b:=by cases d<;>simp [asS] at h;subst h;rfl
def qlk (tab:List (Str×T)) {te:TE3} (a:PuE te):PuE (qcC tab te):=⟨λρ=>((a.f ρ).bind asS).bind λs=>(jK tab s).bind tD,a.fv,false,λhv hd hf k=>by
 obtain ⟨s,e1,hf⟩:=obb hf;obtain ⟨d,e1,e2⟩:=obb e1;have:=qdC e2;subst this;obtain ⟨t,e3,hf⟩:=obb hf;refine a.ok hv hd e1 λx' G1 E1 D1 _=>?_;cases D1;simp only [e3];exact k _ _ E1 (qhW t hf) (λz=>by cases z)⟩
def qcS:List Str->List PyData->Str->Option PyData
 |k::ks,x::xs,s=>if k=s then some x else qcS ks xs s
 |_,_,_=>none
def qb7 {G:Gp}:∀ (ks:List Str) {xs:List T} {ds:List PyData} {s:Str} {d:PyData},Dqs G xs ds->qcS ks ds s=some d->∃ x,jK (ks.zip xs) s=some x/\Dq G x d
 |[],_,_,_,_,_,h=>by simp [qcS] at h
 |k::ks,_,_,_,_,.nil,h=>by simp [qcS] at h
 |k::ks,_,_,s,d,.cons a b,h=>by
  unfold qcS at h;simp only [List.zip_cons_cons,jK];split at h
  ·rename_i e;cases h;exact ⟨_,by rw [if_pos e],a⟩
  ·rename_i e;obtain ⟨x,h1,h2⟩:=qb7 ks b h;exact ⟨x,by rw [if_neg e];exact h1,h2⟩
def qkT (ks:List Str) {t:TA3} {te:TE3} (a:PuA t) (b:PuE te):PuE (qhu ks t te):=⟨λρ=>(a.f ρ).bind λds=>((b.f ρ).bind asS).bind λs=>qcS ks ds s,a.fv++b.fv,false,λhv hd hf k=>by
 obtain ⟨ds,e1,hf⟩:=obb hf;obtain ⟨s,e2,hf⟩:=obb hf;obtain ⟨d,e2,e3⟩:=obb e2;have:=qdC e3;subst this;refine a.ok hv.l hd e1 λxs G1 E1 D1=>b.ok (hv.r.up E1) (hd.up E1) e2 λy G2 E2 D2 _=>?_;cases D2;obtain ⟨x,h1,h2⟩:=qb7 ks (D1.up (ZO E2)) hf;simp only [h1];exact k _ _ (E1.trans E2) h2 (λz=>by cases z)⟩
def qc3 {fr:Bool}:∀ ts G q,PSp (λ_=>none) fr ts G q->False:=λts G q ⟨_,_,_,_,_,h,_⟩=>by cases h
def Fn3.pz {P:Program} {w:World} {K:Frg} {mg:Str->Option Value} {base:Heap} {k:Nat} {x:Str} {sp:Sp3} (F:Fn3 P w K mg base k x sp) (fr:Bool):Fn3 P w K mg base k x (PSp (λ_=>none) fr):=F.imp λts G q h=>(qc3 ts G q h).elim
def qpe {i:Nat}:(bV i).f=λρ=>vw ρ i:=id rfl
def qew {i:Int}:(qx i).f=λ_=>some (.int i):=id rfl
def qh1 {i:Bool}:(bBl i).f=λ_=>some (.bool i):=id rfl
def qfi {i:Str}:(WF i).f=λ_=>some (.str i):=id rfl
def qe9:qmu.f=λ_=>some .none:=id rfl
def qoR {r:R3} {ta tb:TE3} {R:OpD r} {a:PuE ta} {b:PuE tb}:(bO R a b).f=λρ=>(a.f ρ).bind λx=>(b.f ρ).bind λy=>R.f x y:=id rfl
def qfI:qv.f=λ_=>some []:=id rfl
def qau {ta:TE3} {tr:TA3} {a:PuE ta} {r:PuA tr}:(qf a r).f=λρ=>(a.f ρ).bind λx=>(r.f ρ).bind λxs=>some (x::xs):=id rfl
def qd1 {t:TA3} {a:PuA t} {hn:Tru (Nat.ble a.n 1000)}:(ZS a hn).f=λρ=>(a.f ρ).map .tuple:=id rfl
def qfA {t:TA3} {a:PuA t} {hn:Tru (Nat.ble a.n 1000)}:(qct a hn).f=λρ=>(a.f ρ).map .list:=id rfl
def qbl {r:List T->Gp->Q3->Prop} {t:TA3} {R:FnD r} {a:PuA t}:(qD R a).f=λρ=>(a.f ρ).bind R.f:=id rfl
def qlh {t:TE3} {a:PuE t}:(bTb a).f=λρ=>(a.f ρ).bind asB:=id rfl
def qfq {t u:TT3} {a:PuC t} {b:PuC u}:(qoJ a b).f=λρ=>(a.f ρ).bind λk=>if k then b.f ρ else some false:=id rfl
def qlJ {t u:TT3} {a:PuC t} {b:PuC u}:(bOr a b).f=λρ=>(a.f ρ).bind λk=>if k then some true else b.f ρ:=id rfl
def qeT {t:TT3} {a:PuC t}:(qmX a).f=λρ=>(a.f ρ).map (! ·):=id rfl
def qk2:bTt.f=λ_=>some true:=id rfl
def qao {ta tb:TE3} {a:PuE ta} {b:PuE tb}:(qab a b).f=λρ=>((a.f ρ).bind asB).bind λk=>if k then b.f ρ else some (.bool false):=id rfl
def qjc {t:TT3} {ta tb:TE3} {c:PuC t} {a:PuE ta} {b:PuE tb}:(bIf c a b).f=λρ=>(c.f ρ).bind λk=>if k then a.f ρ else b.f ρ:=id rfl
def qeB {ta:TE3} {a:PuE ta}:(qcm a).f=λρ=>((a.f ρ).bind asI).map λi=>.int (-i):=id rfl
def qjT:bNp.f=λ_=>some none:=id rfl
def qjy {t:TE3} {a:PuE t}:(bSp a).f=λρ=>((a.f ρ).bind asI).map some:=id rfl
def qiy {te:TE3} {tl th:TO3} {a:PuE te} {l:PuO tl} {h:PuO th}:(bSl a l h).f=λρ=>(a.f ρ).bind λd=>(l.f ρ).bind λlo=>(h.f ρ).bind λhi=>slD d lo hi:=id rfl
def qcj {te:TE3} {a:PuE te}:(qlH a).f=λρ=>(a.f ρ).bind qaR:=id rfl
def qaj {tab:List (Str×T)} {te:TE3} {a:PuE te}:(qlk tab a).f=λρ=>((a.f ρ).bind asS).bind λs=>(jK tab s).bind tD:=id rfl
def qbz {ks:List Str} {t:TA3} {te:TE3} {a:PuA t} {b:PuE te}:(qkT ks a b).f=λρ=>(a.f ρ).bind λds=>((b.f ρ).bind asS).bind λs=>qcS ks ds s:=id rfl
def qkL {wi:TI3} {g:TG3} {tif:TT3} {te:TE3} {pi:PuI wi} {pg:PuG g} {pc:PuC tif} {pe:PuE te} {m:List (Option Nat)} {hm:Tru (pg.tg.all λi=>m[i]?==some none)}:(bLc pi pg pc pe m hm).f=lcF pi.f (lcH pg.f pc.f pe.f) m:=id rfl
def qeZ {wi wi2:TI3} {g g2:TG3} {tif tif2:TT3} {te:TE3} {pi:PuI wi} {pg:PuG g} {pc:PuC tif} {pi2:PuI wi2} {pg2:PuG g2} {pc2:PuC tif2} {pe:PuE te} {m:List (Option Nat)} {hm:Tru (pg.tg.all λi=>m[i]?==some none)} {hm2:Tru (pg2.tg.all λi=>m[i]?==some none)} {hdj:Tru (pg2.tg.all λi=>!pg.tg.contains i)}:(qlK pi pg pc pi2 pg2 pc2 pe m hm hm2 hdj).f=qlv pi.f (qkh pg.f pc.f pi2.f (lcH pg2.f pc2.f pe.f)) m:=id rfl
def qeo:C7.f=qcQ:=id rfl
def qeY:qoW.f=qmF:=id rfl
def qeC:qhN.f=qmC:=id rfl
def qeg:qmy.f=qmB:=id rfl
def qe8:qmk.f=qmz:=id rfl
def qdA:qnM.f=qmJ:=id rfl
def qbV:qa0.f=mnD:=id rfl
def qan:qbh.f=mxD:=id rfl
def qaV {F:List PyData->Option PyData} {fr:Bool}:(zA F fr).f=F:=id rfl
def qin {g:Int->Int->Int} {i j:Int}:(opI g).f (.int i) (.int j)=some (.int (g i j)):=id rfl
def qlS {g:Int->Int->Bool} {i j:Int}:(opB g).f (.int i) (.int j)=some (.bool (g i j)):=id rfl
def qkC {C:Int->Int->Prop} {g:Int->Int->Int}:(opC C g).f=cI C g:=id rfl
def qd4 {n:Bool}:(V2 n).f=eqD n:=id rfl
def qa3 {n:Bool}:(qgX n).f=qmi n:=id rfl
def qd7 {n:Bool}:(qoK n).f=inD n:=id rfl
def qbJ {n:Bool}:(qiZ n).f=qmv n:=id rfl
def qe3:zk.f=ixD:=id rfl
def qb3:j3.f=qiK:=id rfl
def qdF {t:TE3} {a:PuE t}:(qcl a).f=λρ=>(a.f ρ).bind N9:=id rfl
def qfB {t:TA3} {a:PuA t}:(U9 a).f=λρ=>(a.f ρ).bind qf6:=id rfl
def qfF {t:TA3} {a:PuA t}:(qph a).f=λρ=>(a.f ρ).bind λds=>match ds with|[d,e]=>(N9 d).bind λus=>(N9 e).bind λvs=>some (qlF us vs)|_=>none:=id rfl
def qaL {t:TA3} {a:PuA t}:(qjR a).f=λρ=>(a.f ρ).bind λds=>match ds with|[d]=>(N9 d).map λus=>enD 0 us|_=>none:=id rfl
def qak {t:TE3} {a:PuE t}:(qcl a).nm=false:=id rfl
def qbN {t:TA3} {a:PuA t}:(U9 a).nm=true:=id rfl
def qoy {i:Nat}:(gN i).f=λd=>some [(i,d)]:=id rfl
def qeN:U8.f []=some []:=id rfl
def qbr {t:TG3} {u:KR} {a:PuG t} {b:PuGs u} {d:PyData} {r:List PyData}:(qY a b).f (d::r)=(a.f d).bind λx=>(b.f r).map λy=>x++y:=id rfl
def qeq {u:KR} {n:Nat} {b:PuGs u} {ds:List PyData}:(U7 n b).f (.tuple ds)=if ds.length=n then b.f ds else none:=id rfl
def qaZ:Z8.f=λ_ ρ=>some (.nx ρ):=id rfl
def qd2 {t u:TS3} {a:PuS t} {b:PuS u}:(jS a b).f=qmp a.f b.f:=id rfl
def qjr {c:TT3} {t u:TS3} {pc:PuC c} {a:PuS t} {b:PuS u}:(sIf pc a b).f=λn ρ=>(pc.f ρ).bind λk=>if k then a.f n ρ else b.f n ρ:=id rfl
def qd5 {t:TE3} {a:PuE t}:(J5 a).f=λ_ ρ=>(a.f ρ).map λd=>.rt d a.nw:=id rfl
def qbC {i:Nat}:(qdn i).f=λ_ ρ=>qcs ρ i:=id rfl
def qec {t:TE3} {a:PuE t} {i:Nat} {m:List Bool} {hm:Tru (a.fv.all (mkb m))}:(SM a i m hm).f=λ_ ρ=>(a.f ρ).map λd=>.nx (NR m a.nw i d ρ):=id rfl
def qbg {t:TE3} {g:TG3} {a:PuE t} {pg:PuG g} {m:List Bool} {hm:Tru (a.fv.all (mkb m))}:(DF a pg m hm).f=λ_ ρ=>(a.f ρ).bind λd=>(pg.f d).map λbs=>.nx (ZJ (dm m ρ) bs):=id rfl
def qdE {t:TA3} {a:PuA t} {i j:Nat} {m:List Bool} {hm:Tru (a.fv.all (mkb m))}:(qm7 a i j m hm).f=λ_ ρ=>(a.f ρ).bind λds=>qdd i j m ds ρ:=id rfl
def qef {t:TE3} {a:PuE t} {i:Nat}:(qmI a i).f=λ_ ρ=>(a.f ρ).bind λd=>qlW i d ρ:=id rfl
def qea {t:TE3} {a:PuE t} {i:Nat} {m:List Bool} {hm:Tru (a.fv.all (mkb m))}:(qnJ a i m hm).f=λ_ ρ=>(a.f ρ).bind λd=>qjP i d (dmS m d ρ):=id rfl
def qeO {wi:TI3} {g:TG3} {tb:TS3} {pi:PuI wi} {pg:PuG g} {pb:PuS tb} {m:List Bool} {hm:Tru (pi.fv.all (mkb m))}:(qcp pi pg pb m hm).f=qj3 pi.f pi.nm m pg.f pb.f:=id rfl
def qko {c:TT3} {tb:TS3} {pc:PuC c} {pb:PuS tb}:(sWh pc pb).f=λn ρ=>whP pc.f (pb.f n) n ρ:=id rfl
def qaz {i:Int}:(qx i).nw=false:=id rfl
def qel {i:Bool}:(bBl i).nw=false:=id rfl
def qaT:qmu.nw=false:=id rfl
def qlA {r:R3} {ta tb:TE3} {R:OpD r} {a:PuE ta} {b:PuE tb}:(bO R a b).nw=R.nw:=id rfl
def qaK {t:TA3} {a:PuA t} {hn:Tru (Nat.ble a.n 1000)}:(ZS a hn).nw=false:=id rfl
def qbe {t:TA3} {a:PuA t} {hn:Tru (Nat.ble a.n 1000)}:(qct a hn).nw=true:=id rfl
def MN {r:List T->Gp->Q3->Prop} {t:TA3} {R:FnD r} {a:PuA t}:(qD R a).nw=R.nw:=id rfl
def M8 {F:List PyData->Option PyData} {fr:Bool}:(zA F fr).nw=fr:=id rfl
def MJ {ta tb:TE3} {a:PuE ta} {b:PuE tb}:(qab a b).nw=false:=id rfl
def qfh {t:TT3} {ta tb:TE3} {c:PuC t} {a:PuE ta} {b:PuE tb}:(bIf c a b).nw=false:=id rfl
def qbX {ta:TE3} {a:PuE ta}:(qcm a).nw=false:=id rfl
def qet {te:TE3} {tl th:TO3} {a:PuE te} {l:PuO tl} {h:PuO th}:(bSl a l h).nw=false:=id rfl
def qeu {wi:TI3} {g:TG3} {tif:TT3} {te:TE3} {pi:PuI wi} {pg:PuG g} {pc:PuC tif} {pe:PuE te} {m:List (Option Nat)} {hm:Tru (pg.tg.all λi=>m[i]?==some none)}:(bLc pi pg pc pe m hm).nw=true:=id rfl
def qbj {wi wi2:TI3} {g g2:TG3} {tif tif2:TT3} {te:TE3} {pi:PuI wi} {pg:PuG g} {pc:PuC tif} {pi2:PuI wi2} {pg2:PuG g2} {pc2:PuC tif2} {pe:PuE te} {m:List (Option Nat)} {hm:Tru (pg.tg.all λi=>m[i]?==some none)} {hm2:Tru (pg2.tg.all λi=>m[i]?==some none)} {hdj:Tru (pg2.tg.all λi=>!pg.tg.contains i)}:(qlK pi pg pc pi2 pg2 pc2 pe m hm hm2 hdj).nw=true:=id rfl
def qbR:qmy.nw=false:=id rfl
def qa1:qnM.nw=false:=id rfl
def qbv:qmk.nw=true:=id rfl
def qaG:zk.nw=false:=id rfl
def MI:j3.nw=false:=id rfl
def MR {n:Bool}:(qgX n).nw=false:=id rfl
def qe4 {C:Int->Int->Prop} {g:Int->Int->Int}:(opC C g).nw=false:=id rfl
def qpd {s:Sl} {r:Rho}:vw (s::r) 0=s.d:=id rfl
def qoI {s:Sl} {r:Rho} {i:Nat}:vw (s::r) (i+1)=vw r i:=id rfl
def qkH {d:PyData}:(Sl.sh d).d=some d:=id rfl
def qio {ds:List PyData}:(Sl.ow ds).d=some (.list ds):=id rfl
def qb6 {r:Rho} {ds:List PyData}:qcs (.ow ds::r) 0=some (.rt (.list ds) true):=id rfl
def qbo {r:Rho} {d:PyData}:qcs (.sh d::r) 0=some (.rt d false):=id rfl
def qeD {s:Sl} {r:Rho} {i:Nat}:qcs (s::r) (i+1)=qcs r i:=id rfl
def qkY {xs:List PyData} {i:Int}:ixD (.tuple xs) (.int i)=L2.atI xs i:=id rfl
def qdy {xs:List PyData} {i:Int}:ixD (.list xs) (.int i)=L2.atI xs i:=id rfl
def at0 {α:Type} {a:α} {r:List α}:L2.atI (a::r) 0=some a:=by simp [L2.atI,ixN]
def at1 {α:Type} {a b:α} {r:List α}:L2.atI (a::b::r) 1=some b:=by
 have h:ixN (a::b::r).length 1=some 1:=by unfold ixN;rw [if_pos (by omega),if_pos (by simp;omega)];rfl
 unfold L2.atI;rw [h];rfl
def at2 {α:Type} {a b c:α} {r:List α}:L2.atI (a::b::c::r) 2=some c:=by
 have h:ixN (a::b::c::r).length 2=some 2:=by unfold ixN;rw [if_pos (by omega),if_pos (by simp;omega)];rfl
 unfold L2.atI;rw [h];rfl
def at3 {α:Type} {a b c d:α} {r:List α}:L2.atI (a::b::c::d::r) 3=some d:=by
 have h:ixN (a::b::c::d::r).length 3=some 3:=by unfold ixN;rw [if_pos (by omega),if_pos (by simp;omega)];rfl
 unfold L2.atI;rw [h];rfl
def at4 {α:Type} {a b c d e:α} {r:List α}:L2.atI (a::b::c::d::e::r) 4=some e:=by
 have h:ixN (a::b::c::d::e::r).length 4=some 4:=by unfold ixN;rw [if_pos (by omega),if_pos (by simp;omega)];rfl
 unfold L2.atI;rw [h];rfl
def at5 {α:Type} {a b c d e f:α} {r:List α}:L2.atI (a::b::c::d::e::f::r) 5=some f:=by
 have h:ixN (a::b::c::d::e::f::r).length 5=some 5:=by unfold ixN;rw [if_pos (by omega),if_pos (by simp;omega)];rfl
 unfold L2.atI;rw [h];rfl
def atN {α:Type} {xs:List α} {k:Nat} (h:k<xs.length):L2.atI xs (k:Int)=xs[k]?:=by
 have e:ixN xs.length (k:Int)=some k:=by unfold ixN;rw [if_pos (by omega),if_pos (by omega)];rfl
 unfold L2.atI;rw [e];rfl
def eqS {n:Bool} {a b:Str}:eqD n (.str a) (.str b)=some (.bool (if n then !decide (a=b) else decide (a=b))):=id rfl
def eqI {n:Bool} {a b:Int}:eqD n (.int a) (.int b)=some (.bool (if n then !decide (a=b) else decide (a=b))):=id rfl
def eqB {n:Bool} {a b:Bool}:eqD n (.bool a) (.bool b)=some (.bool (if n then !decide (a=b) else decide (a=b))):=id rfl
def qbF {C:Int->Int->Prop} {g:Int->Int->Int} {i j:Int} (h:C i j):cI C g (.int i) (.int j)=some (.int (g i j)):=by simp only [cI];exact zI h
def DN {i j:Int} (h:-1000000<j/\j<1000000):cI zE (·*·) (.int i) (.int j)=some (.int (i*j)):=qbF (.inr ⟨by omega,by omega⟩)
def je {i j:Int} (h:-1000000<i/\i<1000000):cI zE (·*·) (.int i) (.int j)=some (.int (i*j)):=qbF (.inl ⟨by omega,by omega⟩)
def W8 {i j:Int} (h:0<j):cI (λ_ j=>0<j) (·%·) (.int i) (.int j)=some (.int (i%j)):=qbF h
def qib {i j:Int} (h:0<j/\j<1073741824):cI M6 (·/·) (.int i) (.int j)=some (.int (i/j)):=qbF h
def qkd {i j:Int} (h:0<=j/\j<=1000000/\i.natAbs<2 ^ 64):cI KP (λi j=>i*2 ^ j.toNat) (.int i) (.int j)=some (.int (i*2 ^ j.toNat)):=qbF h
def qoB {i j:Int}:qiK (.int i) (.int j)=some (.int (i+j)):=id rfl
def SI {j:Int} (h:-1000000000<=j/\j<1000000000):qf6 [.int j]=some ((zT 0 j.toNat).map PyData.int):=by simp only [qf6];exact zI ⟨by omega,by omega⟩
def qcn {i j:Int} (h:-1000000000<=i/\i<1000000000/\-1000000000<=j/\j<1000000000):qf6 [.int i,.int j]=some ((zT i (j-i).toNat).map PyData.int):=by simp only [qf6];exact zI ⟨by omega,by omega,by omega,by omega⟩
def QI {pi:Rho->Option (List PyData)} {h:Rho->PyData->Option (Option PyData)} {m:List (Option Nat)} {ρ:Rho} {ds fs:List PyData} (h1:pi ρ=some ds) (h2:lcP (h (KQ m ρ)) ds=some fs) (h3:fs.length<=16777216):lcF pi h m ρ=some (.list fs):=by unfold lcF;rw [h1];simp only [Option.bind_some,h2];exact zI h3
def L7 {pi:Rho->Option (List PyData)} {h:Rho->PyData->Option (Option (List PyData))} {m:List (Option Nat)} {ρ:Rho} {ds fs:List PyData} (h1:pi ρ=some ds) (h2:qhc (h (KQ m ρ)) ds=some fs) (h3:fs.length<=16777216):qlv pi h m ρ=some (.list fs):=by unfold qlv;rw [h1];simp only [Option.bind_some,h2];exact zI h3
def qda {gf:PyData->Option (List (Nat×PyData))} {bf:Rho->Option Ot} {α:Type} {g:α->PyData} (xs:List α) (I:Nat->Rho->Prop) {ρ:Rho} (h0:I 0 ρ)
  (hs:∀ i x ρ,xs[i]?=some x->I i ρ->∃ bs ρ',gf (g x)=some bs/\(bf (ZJ ρ bs)=some (.nx ρ')\/bf (ZJ ρ bs)=some (.ct ρ'))/\I (i+1) ρ'):∃ ρ',SL gf bf (xs.map g) ρ=some (.nx ρ')/\I xs.length ρ':=by
 have key:∀ (r:List α) (i:Nat) (ρ:Rho),xs.drop i=r->i<=xs.length->I i ρ->∃ ρ',SL gf bf (r.map g) ρ=some (.nx ρ')/\I xs.length ρ':=by
  intro r;induction r with
  |nil=>
   intro i ρ e hi h;have:i=xs.length:=by
    have:=congrArg List.length e;simp at this;omega
   subst this;exact ⟨ρ,rfl,h⟩
  |cons x r ih=>
   intro i ρ e hi h;have hl:i<xs.length:=by
    have:=congrArg List.length e;simp at this;omega
   have e':=List.drop_eq_getElem_cons hl;rw [e] at e';injection e' with e1 e2;obtain ⟨bs,ρ',h1,h2,h3⟩:=hs i x ρ (by rw [getElem?_eq_getElem hl,e1]) h;obtain ⟨ρ2,h4,h5⟩:=ih (i+1) ρ' e2.symm hl h3;refine ⟨ρ2,?_,h5⟩;simp only [map_cons,SL,h1,Option.bind_some];rcases h2 with h2|h2<;>(rw [h2];exact h4)
 exact key xs 0 ρ (by simp) (Nat.zero_le _) h0
def qaN {gf:PyData->Option (List (Nat×PyData))} {bf:Rho->Option Ot} {α:Type} {g:α->PyData} (xs:List α) (n:Nat) (x:α) (hn:xs[n]?=some x) (I:Nat->Rho->Prop) {ρ:Rho} {o:Ot} (h0:I 0 ρ)
  (hs:∀ i x ρ,i<n->xs[i]?=some x->I i ρ->∃ bs ρ',gf (g x)=some bs/\(bf (ZJ ρ bs)=some (.nx ρ')\/bf (ZJ ρ bs)=some (.ct ρ'))/\I (i+1) ρ')
  (he:∀ ρ,I n ρ->∃ bs,gf (g x)=some bs/\((∃ d b,o=.rt d b/\bf (ZJ ρ bs)=some (.rt d b))\/∃ ρ',o=.nx ρ'/\bf (ZJ ρ bs)=some (.bk ρ'))):SL gf bf (xs.map g) ρ=some o:=by
 have hl:=(List.getElem?_eq_some_iff.mp hn).1;have key:∀ (k i:Nat) (ρ:Rho),i+k=n->I i ρ->SL gf bf ((xs.drop i).map g) ρ=some o:=by
  intro k;induction k with
  |zero=>
   intro i ρ e h;have:i=n:=by omega
   subst this;obtain ⟨bs,h1,h2⟩:=he ρ h;rw [List.drop_eq_getElem_cons hl];have ex:xs[i]=x:=by
    rw [getElem?_eq_getElem hl] at hn;exact Option.some.inj hn
   rw [ex];simp only [map_cons,SL,h1,Option.bind_some];rcases h2 with ⟨d,b,rfl,h2⟩|⟨ρ',rfl,h2⟩<;>(rw [h2];rfl)
  |succ k ih=>
   intro i ρ e h;have hi:i<xs.length:=by omega
   obtain ⟨bs,ρ',h1,h2,h3⟩:=hs i xs[i] ρ (by omega) (getElem?_eq_getElem hi) h;rw [List.drop_eq_getElem_cons hi];simp only [map_cons,SL,h1,Option.bind_some];rcases h2 with h2|h2<;>(rw [h2];exact ih (i+1) ρ' (by omega) h3)
 exact key n 0 ρ (by omega) h0
def sqk (b:Nat->Rho->Option Ot) (n:Nat) (o:Ot):Option Ot:=match o with|.nx ρ'=>b n ρ'|o=>some o
def qes {a b:Nat->Rho->Option Ot} {n:Nat} {ρ:Rho}:qmp a b n ρ=(a n ρ).bind (sqk b n):=id rfl
def qdI {b:Nat->Rho->Option Ot} {n:Nat} {ρ:Rho}:sqk b n (.nx ρ)=b n ρ:=id rfl
def qfx {b:Nat->Rho->Option Ot} {n:Nat} {d:PyData} {f:Bool}:sqk b n (.rt d f)=some (.rt d f):=id rfl
def qaF {d:PyData}:YS true (some (.rt d true))=some d:=id rfl
def qe1 {d:PyData} {b:Bool}:YS false (some (.rt d b))=some d:=by simp [YS]
def qji {b:Bool}:asB (.bool b)=some b:=id rfl
def qk6 {b:Int}:asI (.int b)=some b:=id rfl
def qj1 {b:Str}:asS (.str b)=some b:=id rfl
def qdS {xs:List PyData}:qcQ [.tuple xs]=some (.int xs.length):=id rfl
def NG {xs:List PyData}:qcQ [.list xs]=some (.int xs.length):=id rfl
def qdL {i j:Int}:qmF [.int i,.int j]=some (.int (if j<i then j else i)):=id rfl
def qfG {i:Bool}:qmC [.bool i]=some (.int (if i then 1 else 0)):=id rfl
def qdY {xs:List PyData}:qmB [.list xs]=some (.tuple xs):=id rfl
def qez {xs:List PyData}:qmz [.tuple xs]=some (.list xs):=id rfl
def qc2 {xs:List Int} (h:xs≠[]):mnD [.list (xs.map PyData.int)]=some (.int (mn xs)):=by simp only [mnD,UO,Option.bind_some];exact zI h
def qc5 {xs:List Int} (h:xs≠[]):mxD [.list (xs.map PyData.int)]=some (.int (mx xs)):=by simp only [mxD,UO,Option.bind_some];exact zI h
def qgD {xs:List Int} (h:xs.length<4000):qaR (.list (xs.map PyData.int))=some (.int (Z7 xs)):=by simp only [qaR,UO,Option.bind_some];exact zI h
def qfE {xs:List PyData}:N9 (.tuple xs)=some xs:=id rfl
def qdO {xs:List PyData}:N9 (.list xs)=some xs:=id rfl
def qje {m:List Bool} {nw:Bool} {i:Nat} {v:Int} {ρ:Rho}:NR m nw i (.int v) ρ=ρ.set i (.sh (.int v)):=id rfl
def qlb {m:List Bool} {nw:Bool} {i:Nat} {v:Bool} {ρ:Rho}:NR m nw i (.bool v) ρ=ρ.set i (.sh (.bool v)):=id rfl
def qkM {m:List Bool} {nw:Bool} {i:Nat} {v:Str} {ρ:Rho}:NR m nw i (.str v) ρ=ρ.set i (.sh (.str v)):=id rfl
def qcY {m:List Bool} {nw:Bool} {i:Nat} {v:List PyData} {ρ:Rho}:NR m nw i (.tuple v) ρ=(dm m ρ).set i (.sh (.tuple v)):=by cases nw<;>rfl
def qfd {m:List Bool} {i:Nat} {v:List PyData} {ρ:Rho}:NR m true i (.list v) ρ=(dm m ρ).set i (.ow v):=id rfl
def qkJ {m:List Bool} {v:List PyData} {ρ:Rho}:dmS m (.list v) ρ=dm m ρ:=id rfl
def qoL {ρ:Rho}:dm [] ρ=ρ:=id rfl
def qoZ {m:List Bool} {s:Sl} {ρ:Rho}:dm (true::m) (s::ρ)=s.dem::dm m ρ:=id rfl
def qoC {m:List Bool} {s:Sl} {ρ:Rho}:dm (false::m) (s::ρ)=s::dm m ρ:=id rfl
def qlY {ds:List PyData}:(Sl.ow ds).dem=.sh (.list ds):=id rfl
def qjp {d:PyData}:(Sl.sh d).dem=.sh d:=id rfl
def qjI {ρ:Rho}:KQ [] ρ=[]:=id rfl
def ql0 {m:List (Option Nat)} {ρ:Rho}:KQ (none::m) ρ=.un::KQ m ρ:=id rfl
def cp (o:Option PyData):Sl:=match o with|some d=>.sh d|none=>.un
def qiV {m:List (Option Nat)} {j:Nat} {ρ:Rho}:KQ (some j::m) ρ=cp (vw ρ j)::KQ m ρ:=id rfl
def qoT {d:PyData}:cp (some d)=.sh d:=id rfl
def qfv {i:Nat} {x y:Int} {ρ:Rho} (h:vw ρ i=some (.int x)):qlW i (.int y) ρ=some (.nx (ρ.set i (.sh (.int (x+y))))):=by unfold qlW;rw [h];rfl
def qkW {i j:Nat} {m:List Bool} {x y:Int} {ρ:Rho}:qdd i j m [.int x,.int y] ρ=some (.nx ((ρ.set i (.sh (.int x))).set j (.sh (.int y)))):=id rfl
def qeb {pi:Rho->Option (List PyData)} {m:List Bool} {gf:PyData->Option (List (Nat×PyData))} {bf:Nat->Rho->Option Ot} {n:Nat} {ρ:Rho}:qj3 pi true m gf bf n ρ=(pi ρ).bind λds=>SL gf (bf n) ds ρ:=id rfl
def qen {pi:Rho->Option (List PyData)} {m:List Bool} {gf:PyData->Option (List (Nat×PyData))} {bf:Nat->Rho->Option Ot} {n:Nat} {ρ:Rho}:qj3 pi false m gf bf n ρ=(pi ρ).bind λds=>SL gf (bf n) ds (dm m ρ):=id rfl
def qfk {ρ:Rho}:ZJ ρ []=ρ:=id rfl
def qdK {ρ:Rho} {i:Nat} {d:PyData} {r:List (Nat×PyData)}:ZJ ρ ((i,d)::r)=ZJ (ρ.set i (.sh d)) r:=id rfl
def ZM {gf:PyData->Option (List (Nat×PyData))} {cf:Rho->Option Bool} {ef:Rho->Option PyData} {ρ:Rho} {d:PyData}:lcH gf cf ef ρ d=(gf d).bind λbs=>(cf (ZJ ρ bs)).bind λk=>if k then (ef (ZJ ρ bs)).map some else some none:=id rfl
def qaq {gf:PyData->Option (List (Nat×PyData))} {cf:Rho->Option Bool} {it:Rho->Option (List PyData)} {h:Rho->PyData->Option (Option PyData)} {ρ:Rho} {d:PyData}:qkh gf cf it h ρ d=(gf d).bind λbs=>(cf (ZJ ρ bs)).bind λk=>if k then ((it (ZJ ρ bs)).bind λds=>lcP (h (ZJ ρ bs)) ds).map some else some none:=id rfl
def Nx (o:Option Ot) (P:Rho->Prop):Prop:=match o with|some (.nx ρ)=>P ρ|some (.ct ρ)=>P ρ|_=>False
def qh5 {ρ:Rho} {P:Rho->Prop}:Nx (some (.nx ρ)) P=P ρ:=id rfl
def qg2 {o:Option Ot} {P:Rho->Prop} (h:Nx o P):∃ ρ,(o=some (.nx ρ)\/o=some (.ct ρ))/\P ρ:=by
 unfold Nx at h;split at h
 ·exact ⟨_,.inl rfl,h⟩
 ·exact ⟨_,.inr rfl,h⟩
 ·exact h.elim
section
variable {gf:PyData->Option (List (Nat×PyData))} {bf:Rho->Option Ot} {α:Type} {g:α->PyData} {ρ:Rho} {Q:Option Ot->Prop} {F:Ot->Option Ot}
def UU (xs:List α) (I:Nat->Rho->Prop) (h0:I 0 ρ) (hs:∀ i x ρ,xs[i]?=some x->I i ρ->Nx ((gf (g x)).bind λbs=>bf (ZJ ρ bs)) (I (i+1))) (k:∀ ρ',I xs.length ρ'->Q (some (.nx ρ'))):Q (SL gf bf (xs.map g) ρ):=by
 obtain ⟨ρ',e,h⟩:=qda (gf:=gf) (bf:=bf) (g:=g) xs I h0 λi x ρ hx hi=>by
  obtain ⟨ρ2,e,h⟩:=qg2 (hs i x ρ hx hi);cases e1:gf (g x) with
  |none=>rw [e1] at e;rcases e with e|e<;>cases e
  |some bs=>rw [e1] at e;exact ⟨bs,ρ2,rfl,e,h⟩
 rw [e];exact k ρ' h
def E9 (xs:List α) (I:Nat->Rho->Prop) (h0:I 0 ρ) (hs:∀ i x ρ,xs[i]?=some x->I i ρ->Nx ((gf (g x)).bind λbs=>bf (ZJ ρ bs)) (I (i+1))) (k:∀ ρ',I xs.length ρ'->Q (F (.nx ρ'))):Q ((SL gf bf (xs.map g) ρ).bind F):=
 UU (Q:=λo=>Q (o.bind F)) xs I h0 hs k
def DQ (xs:List α) (n:Nat) (x:α) (d:PyData) (b:Bool) (hn:xs[n]?=some x) (I:Nat->Rho->Prop) (h0:I 0 ρ) (hs:∀ i x ρ,i<n->xs[i]?=some x->I i ρ->Nx ((gf (g x)).bind λbs=>bf (ZJ ρ bs)) (I (i+1))) (he:∀ ρ,I n ρ->((gf (g x)).bind λbs=>bf (ZJ ρ bs))=some (.rt d b)) (k:Q (some (.rt d b))):Q (SL gf bf (xs.map g) ρ):=by
 rw [qaN (gf:=gf) (bf:=bf) (g:=g) xs n x hn I h0 (λi x ρ hi hx hI=>by
  obtain ⟨ρ2,e,h⟩:=qg2 (hs i x ρ hi hx hI);cases e1:gf (g x) with
  |none=>rw [e1] at e;rcases e with e|e<;>cases e
  |some bs=>rw [e1] at e;exact ⟨bs,ρ2,rfl,e,h⟩) (o:=.rt d b) λρ hI=>by
  have:=he ρ hI;cases e1:gf (g x) with
  |none=>rw [e1] at this;cases this
  |some bs=>rw [e1] at this;exact ⟨bs,rfl,.inl ⟨d,b,rfl,this⟩⟩]
 exact k
def qhr (xs:List α) (n:Nat) (x:α) (d:PyData) (b:Bool) (hn:xs[n]?=some x) (I:Nat->Rho->Prop) (h0:I 0 ρ) (hs:∀ i x ρ,i<n->xs[i]?=some x->I i ρ->Nx ((gf (g x)).bind λbs=>bf (ZJ ρ bs)) (I (i+1))) (he:∀ ρ,I n ρ->((gf (g x)).bind λbs=>bf (ZJ ρ bs))=some (.rt d b)) (k:Q (F (.rt d b))):Q ((SL gf bf (xs.map g) ρ).bind F):=
 DQ (Q:=λo=>Q (o.bind F)) xs n x d b hn I h0 hs he k
def qfn {cf:Rho->Option Bool} {N:Nat} (n:Nat) (hn:n<N) (I:Nat->Rho->Prop) (h0:I 0 ρ) (hc:∀ i ρ,i<n->I i ρ->cf ρ=some true) (hs:∀ i ρ,i<n->I i ρ->Nx (bf ρ) (I (i+1))) (he:∀ ρ,I n ρ->cf ρ=some false) (k:∀ ρ',I n ρ'->Q (F (.nx ρ'))):Q ((whP cf bf N ρ).bind F):=by
 have key:∀ (k i M:Nat) (ρ:Rho),i+k=n->k<M->I i ρ->∃ ρ',whP cf bf M ρ=some (.nx ρ')/\I n ρ':=by
  intro k;induction k with
  |zero=>
   intro i M ρ e hM h;have:i=n:=by omega
   subst this;cases M with
   |zero=>omega
   |succ M=>exact ⟨ρ,by unfold whP;rw [he ρ h];rfl,h⟩
  |succ k ih=>
   intro i M ρ e hM h;cases M with
   |zero=>omega
   |succ M=>
    have h1:=hc i ρ (by omega) h;obtain ⟨ρ',h2,h3⟩:=qg2 (hs i ρ (by omega) h);obtain ⟨ρ2,h4,h5⟩:=ih (i+1) M ρ' (by omega) (by omega) h3;refine ⟨ρ2,?_,h5⟩;unfold whP;rw [h1];rcases h2 with h2|h2<;>(simp only [Option.bind_some,if_pos,h2];exact h4)
 obtain ⟨ρ',e,h⟩:=key n 0 N ρ (by omega) hn h0;rw [e];exact k ρ' h
end
def SN {α:Type} {us:List α} (h:us.length=1):∃ a0,us=[a0]:=List.length_eq_one_iff.mp h
def NK {α:Type} {us:List α} (h:us.length=2):∃ a0 a1,us=[a0,a1]:=by
 obtain ⟨a0,r,rfl⟩:=List.exists_cons_of_length_pos (show 0<us.length by omega);obtain ⟨a1,rfl⟩:=SN (show r.length=1 by simpa using h);exact ⟨a0,a1,rfl⟩
def qhF {α:Type} {us:List α} (h:us.length=3):∃ a0 a1 a2,us=[a0,a1,a2]:=by
 obtain ⟨a0,r,rfl⟩:=List.exists_cons_of_length_pos (show 0<us.length by omega);obtain ⟨a1,a2,rfl⟩:=NK (show r.length=2 by simpa using h);exact ⟨a0,a1,a2,rfl⟩
def qp2 {α:Type} {us:List α} (h:us.length=4):∃ a0 a1 a2 a3,us=[a0,a1,a2,a3]:=by
 obtain ⟨a0,r,rfl⟩:=List.exists_cons_of_length_pos (show 0<us.length by omega);obtain ⟨a1,a2,a3,rfl⟩:=qhF (show r.length=3 by simpa using h);exact ⟨a0,a1,a2,a3,rfl⟩
end Pu
namespace Pv
open PySem L2 L3 Pu
def D6:PuS (Bk.DY):=(J5 (bLc (U9 (qf (bV 2) qv)) (gN 0) bTt (ZS (qf (bO (opC zE (·*·)) (bV 0) (bV 1)) (qf (bO (opC zE (·*·)) (bV 0) (bV 2)) qv)) ⟨rfl⟩) [none,some 0,some 1] ⟨rfl⟩))
def zL:List PyData->Option PyData:=run (D6).f 3 3 1000000000 true
def qcb:∀ ts G q,PSp (zL) true ts G q->ts.length=3/\Bk.DY { nx:=λ_ G'=>q .non G',rt:=q } (qu ["down","along","many"] ts) G:=zt (D6) ["down","along","many"] 3 1000000000 true
def qar {x0 x1 x2:PyData}:zL [x0,x1,x2]=YS true ((D6).f 1000000000 [.sh x0,.sh x1,.sh x2]):=id rfl
def jQ (zL:List PyData->Option PyData):PuS (Bk.Y9 (PSp zL true)):=(jS (SM (bO zk (bV 0) (qx 0)) 1 [true] ⟨rfl⟩) (jS (sIf (bTb (bO (V2 false) (bV 1) (WF "cells"))) (J5 (qD qmk (qf (bO zk (bV 0) (qx 1)) qv))) Z8) (jS (sIf (bTb (bO (V2 false) (bV 1) (WF "block"))) (J5 (qlK (U9 (qf (bO zk (bV 0) (qx 1)) qv)) (gN 0) bTt (U9 (qf (bO zk (bV 2) (qx 2)) qv)) (gN 1) bTt (ZS (qf (bV 0) (qf (bV 1) qv)) ⟨rfl⟩) [none,none,some 0] ⟨rfl⟩ ⟨rfl⟩ ⟨rfl⟩)) Z8) (jS (sIf (bTb (bO (V2 false) (bV 1) (WF "step"))) (J5 (qD (zA zL true) (qf (bO zk (bV 0) (qx 1)) (qf (bO zk (bV 0) (qx 2)) (qf (bO zk (bV 0) (qx 3)) qv))))) Z8) (jS (DF (qlk UW (bV 1)) (U7 2 (qY (gN 2) (qY (gN 3) U8))) [false,true] ⟨rfl⟩) (J5 (qD (zA zL true) (qf (bV 2) (qf (bV 3) (qf (bO zk (bV 0) (qx 1)) qv))))))))))
def qC:List PyData->Option PyData:=run (jQ zL).f 1 4 1000000000 true
def K5:∀ ts G q,PSp (qC) true ts G q->ts.length=1/\Bk.Y9 (PSp zL true) { nx:=λ_ G'=>q .non G',rt:=q } (qu ["walk","kind","down","along"] ts) G:=zt (jQ zL) ["walk","kind","down","along"] 1 1000000000 true
def JO {x0:PyData}:qC [x0]=YS true ((jQ zL).f 1000000000 [.sh x0,.un,.un,.un]):=id rfl
def QN:PuS (Bk.QP):=(jS (qcp (U9 (qf (qD C7 (qf (bV 0) qv)) qv)) (gN 1) (qcp (U9 (qf (bO j3 (bV 1) (qx 1)) (qf (qD C7 (qf (bV 0) qv)) qv))) (gN 2) (sIf (bTb (bO (V2 false) (bO zk (bV 0) (bV 1)) (bO zk (bV 0) (bV 2)))) (J5 (ZS (qf (bV 1) (qf (bV 2) qv)) ⟨rfl⟩)) Z8) [true,true] ⟨rfl⟩) [true] ⟨rfl⟩) (J5 qmu))
def qJ:List PyData->Option PyData:=run (QN).f 1 3 1000000000 false
def XV:∀ ts G q,PSp (qJ) false ts G q->ts.length=1/\Bk.QP { nx:=λ_ G'=>q .non G',rt:=q } (qu ["things","k","l"] ts) G:=zt (QN) ["things","k","l"] 1 1000000000 false
def XQ {x0:PyData}:qJ [x0]=YS false ((QN).f 1000000000 [.sh x0,.un,.un]):=id rfl
def ZG:TS3:=(qO (QB (tb3 (o3 (QC false) (o3 ix3 (v3 0) (c3 (.int 0))) (c3 (.str "rests")))) (zd (zU (qc (o3 ix3 (v3 0) (c3 (.int 2))) (qc (c3 (.int 1)) qi)))) za) (zd (zU (qc (o3 ix3 (v3 0) (c3 (.int 4))) (qc (o3 ix3 (v3 0) (c3 (.int 5))) qi)))))
def j9:PuS (Pv.ZG):=(jS (sIf (bTb (bO (V2 false) (bO zk (bV 0) (qx 0)) (WF "rests"))) (J5 (ZS (qf (bO zk (bV 0) (qx 2)) (qf (qx 1) qv)) ⟨rfl⟩)) Z8) (J5 (ZS (qf (bO zk (bV 0) (qx 4)) (qf (bO zk (bV 0) (qx 5)) qv)) ⟨rfl⟩)))
def qs:List PyData->Option PyData:=run (j9).f 1 1 1000000000 false
def CZ:∀ ts G q,PSp (qs) false ts G q->ts.length=1/\Pv.ZG { nx:=λ_ G'=>q .non G',rt:=q } (qu ["dealing"] ts) G:=zt (j9) ["dealing"] 1 1000000000 false
def RX {x0:PyData}:qs [x0]=YS false ((j9).f 1000000000 [.sh x0]):=id rfl
def Y7 (qC:List PyData->Option PyData):PuS (Bk.Y5 (PSp qC true)):=(jS (DF (bV 1) (U7 2 (qY (gN 3) (qY (gN 4) U8))) [false,true] ⟨rfl⟩) (J5 (qD qmy (qf (bLc (qcl (qD (zA qC true) (qf (bV 2) qv))) (U7 2 (qY (gN 0) (qY (gN 1) U8))) bTt (bO (opC (λ_ j=>0<j) (·%·)) (bO j3 (bO (opC zE (·*·)) (bV 3) (bV 0)) (bO (opC zE (·*·)) (bV 4) (bV 1))) (bV 2)) [none,none,some 0,some 3,some 4] ⟨rfl⟩) qv))))
def zl:List PyData->Option PyData:=run (Y7 qC).f 3 5 1000000000 false
def LA:∀ ts G q,PSp (zl) false ts G q->ts.length=3/\Bk.Y5 (PSp qC true) { nx:=λ_ G'=>q .non G',rt:=q } (qu ["banks","factors","walk","a","b"] ts) G:=zt (Y7 qC) ["banks","factors","walk","a","b"] 3 1000000000 false
def L6 {x0 x1 x2:PyData}:zl [x0,x1,x2]=YS false ((Y7 qC).f 1000000000 [.sh x0,.sh x1,.sh x2,.un,.un]):=id rfl
def VL (S_factors_of:Sp3) (S_rests_by:Sp3):TS3:=(zd (cb3 S_rests_by (qc (o3 ix3 (v3 0) (c3 (.int 3))) (qc (cb3 S_factors_of (qc (v3 0) qi)) (qc (v3 1) qi)))))
def VD (qs:List PyData->Option PyData) (zl:List PyData->Option PyData):PuS (Pv.VL (PSp qs false) (PSp zl false)):=(J5 (qD (zA zl false) (qf (bO zk (bV 0) (qx 3)) (qf (qD (zA qs false) (qf (bV 0) qv)) (qf (bV 1) qv)))))
def qP:List PyData->Option PyData:=run (VD qs zl).f 2 2 1000000000 false
def LC:∀ ts G q,PSp (qP) false ts G q->ts.length=2/\Pv.VL (PSp qs false) (PSp zl false) { nx:=λ_ G'=>q .non G',rt:=q } (qu ["dealing","walk"] ts) G:=zt (VD qs zl) ["dealing","walk"] 2 1000000000 false
def LI {x0 x1:PyData}:qP [x0,x1]=YS false ((VD qs zl).f 1000000000 [.sh x0,.sh x1]):=id rfl
def JJ (S_rests_of:Sp3) (S_first_alike:Sp3):TS3:=(zd (o3 (qhO false) (cb3 S_first_alike (qc (cb3 S_rests_of (qc (v3 0) (qc (v3 1) qi))) qi)) (c3 .non)))
def JP (qP:List PyData->Option PyData) (qJ:List PyData->Option PyData):PuS (Pv.JJ (PSp qP false) (PSp qJ false)):=(J5 (bO (qgX false) (qD (zA qJ false) (qf (qD (zA qP false) (qf (bV 0) (qf (bV 1) qv))) qv)) qmu))
def qw:List PyData->Option PyData:=run (JP qP qJ).f 2 2 1000000000 false
def S5:∀ ts G q,PSp (qw) false ts G q->ts.length=2/\Pv.JJ (PSp qP false) (PSp qJ false) { nx:=λ_ G'=>q .non G',rt:=q } (qu ["dealing","walk"] ts) G:=zt (JP qP qJ) ["dealing","walk"] 2 1000000000 false
def KJ {x0 x1:PyData}:qw [x0,x1]=YS false ((JP qP qJ).f 1000000000 [.sh x0,.sh x1]):=id rfl
def UM (S_factors_of:Sp3):TS3:=(qO (zg (cb3 S_factors_of (qc (v3 0) qi)) (jf 2 (qr (gn3 3) (qr (gn3 4) ji)))) (qO (zg (c3 (.int 1)) (gn3 5)) (qO (W1 (tb3 (o3 (QC true) (o3 (iC (λ_ j=>0<j) (·%·)) (o3 (iC zE (·*·)) (v3 5) (o3 zS (o3 (iC zE (·*·)) (v3 3) (v3 1)) (o3 (iC zE (·*·)) (v3 4) (v3 2)))) (o3 ix3 (v3 0) (c3 (.int 3)))) (c3 (.int 0)))) (qdx 5 (iI (·+·)) (c3 (.int 1)))) (zd (v3 5)))))
def UK (qs:List PyData->Option PyData):PuS (Pv.UM (PSp qs false)):=(jS (DF (qD (zA qs false) (qf (bV 0) qv)) (U7 2 (qY (gN 3) (qY (gN 4) U8))) [true] ⟨rfl⟩) (jS (SM (qx 1) 5 [] ⟨rfl⟩) (jS (sWh (bTb (bO (V2 true) (bO (opC (λ_ j=>0<j) (·%·)) (bO (opC zE (·*·)) (bV 5) (bO j3 (bO (opC zE (·*·)) (bV 3) (bV 1)) (bO (opC zE (·*·)) (bV 4) (bV 2)))) (bO zk (bV 0) (qx 3))) (qx 0))) (qmI (qx 1) 5)) (qdn 5))))
def j7:List PyData->Option PyData:=run (UK qs).f 3 6 1000000000 false
def NQ:∀ ts G q,PSp (j7) false ts G q->ts.length=3/\Pv.UM (PSp qs false) { nx:=λ_ G'=>q .non G',rt:=q } (qu ["dealing","down","along","a","b","many"] ts) G:=zt (UK qs) ["dealing","down","along","a","b","many"] 3 1000000000 false
def NU {x0 x1 x2:PyData}:j7 [x0,x1,x2]=YS false ((UK qs).f 1000000000 [.sh x0,.sh x1,.sh x2,.un,.un,.un]):=id rfl
def WG (S_is_unlike:Sp3):TS3:=(qO (zg (c3 (.int 0)) (gn3 2)) (qO (W1 (tb3 (cb3 S_is_unlike (qc (v3 0) (qc (zU (qc (c3 (.str "block")) (qc (v3 1) (qc (o3 zS (v3 2) (c3 (.int 1))) qi)))) qi)))) (qdx 2 (iI (·+·)) (c3 (.int 1)))) (zd (v3 2))))
def WH (qw:List PyData->Option PyData):PuS (Pv.WG (PSp qw false)):=(jS (SM (qx 0) 2 [] ⟨rfl⟩) (jS (sWh (bTb (qD (zA qw false) (qf (bV 0) (qf (ZS (qf (WF "block") (qf (bV 1) (qf (bO j3 (bV 2) (qx 1)) qv))) ⟨rfl⟩) qv)))) (qmI (qx 1) 2)) (qdn 2)))
def js:List PyData->Option PyData:=run (WH qw).f 2 3 1000000000 false
def qas:∀ ts G q,PSp (js) false ts G q->ts.length=2/\Pv.WG (PSp qw false) { nx:=λ_ G'=>q .non G',rt:=q } (qu ["dealing","high","wide"] ts) G:=zt (WH qw) ["dealing","high","wide"] 2 1000000000 false
def qbY {x0 x1:PyData}:js [x0,x1]=YS false ((WH qw).f 1000000000 [.sh x0,.sh x1,.un]):=id rfl
def D4 (S_widest:Sp3):TS3:=(zd (lc3 (zz (qc (c3 (.int 1)) (qc (o3 zS (o3 ix3 (v3 0) (c3 (.int 3))) (c3 (.int 1))) qi))) (gn3 0) tt3 (cb3 S_widest (qc (v3 1) (qc (v3 0) qi))) [none,some 0]))
def WC (js:List PyData->Option PyData):PuS (Pv.D4 (PSp js false)):=(J5 (bLc (U9 (qf (qx 1) (qf (bO j3 (bO zk (bV 0) (qx 3)) (qx 1)) qv))) (gN 0) bTt (qD (zA js false) (qf (bV 1) (qf (bV 0) qv))) [none,some 0] ⟨rfl⟩))
def Q8:List PyData->Option PyData:=run (WC js).f 1 1 1000000000 true
def qaU:∀ ts G q,PSp (Q8) true ts G q->ts.length=1/\Pv.D4 (PSp js false) { nx:=λ_ G'=>q .non G',rt:=q } (qu ["dealing"] ts) G:=zt (WC js) ["dealing"] 1 1000000000 true
def qaB {x0:PyData}:Q8 [x0]=YS true ((WC js).f 1000000000 [.sh x0]):=id rfl
def QA (qG:List PyData->Option PyData):PuS (Bk.U6 (PSp qG false)):=(jS (SM (bO zk (bV 0) (qx 0)) 1 [true] ⟨rfl⟩) (jS (sIf (bTb (bO (V2 false) (bV 1) (WF "bits"))) (J5 (ZS (qf (bO (opC KP (λi j=>i*2 ^ j.toNat)) (qx 1) (bO zk (bV 0) (qx 1))) (qf (bO (opC KP (λi j=>i*2 ^ j.toNat)) (qx 1) (bO zk (bV 0) (qx 2))) (qf (bO (opC KP (λi j=>i*2 ^ j.toNat)) (qx 1) (qD C7 (qf (bO zk (bV 0) (qx 3)) qv))) qv))) ⟨rfl⟩)) Z8) (jS (sIf (bTb (bO (V2 false) (bV 1) (WF "table"))) (J5 (ZS (qf (qD C7 (qf (bO zk (bV 0) (qx 2)) qv)) (qf (qD C7 (qf (bO zk (bO zk (bV 0) (qx 2)) (qx 0)) qv)) (qf (bO zk (bV 0) (qx 1)) qv))) ⟨rfl⟩)) Z8) (jS (sIf (bTb (bO (V2 false) (bV 1) (WF "joined"))) (jS (DF (qD (zA qG false) (qf (bO zk (bV 0) (qx 1)) qv)) (U7 3 (qY (gN 2) (qY (gN 3) (qY (gN 4) U8)))) [true] ⟨rfl⟩) (jS (DF (qD (zA qG false) (qf (bO zk (bV 0) (qx 2)) qv)) (U7 3 (qY (gN 5) (qY (gN 6) (qY (gN 7) U8)))) [true] ⟨rfl⟩) (J5 (ZS (qf (bO (opC zE (·*·)) (bV 2) (bV 5)) (qf (bO (opC zE (·*·)) (bV 3) (bV 6)) (qf (bO (opC zE (·*·)) (bV 4) (bV 7)) qv))) ⟨rfl⟩)))) Z8) (J5 (ZS (qf (bO zk (bV 0) (qx 1)) (qf (bO zk (bV 0) (qx 2)) (qf (bO zk (bV 0) (qx 3)) qv))) ⟨rfl⟩))))))
def qG:Nat->List PyData->Option PyData
 |0=>λ_=>none
 |j+1=>run (QA (qG j)).f 1 8 1000000000 false
def NX (j:Nat):∀ ts G q,PSp (qG (j+1)) false ts G q->ts.length=1/\Bk.U6 (PSp (qG j) false) { nx:=λ_ G'=>q .non G',rt:=q } (qu ["dealing","kind","rows","columns","banks","other_rows","other_columns","other_banks"] ts) G:=zt (QA (qG j)) ["dealing","kind","rows","columns","banks","other_rows","other_columns","other_banks"] 1 1000000000 false
def ZW {j:Nat} {x0:PyData}:qG (j+1) [x0]=YS false ((QA (qG j)).f 1000000000 [.sh x0,.un,.un,.un,.un,.un,.un,.un]):=id rfl
def WB (qG:List PyData->Option PyData) (qC:List PyData->Option PyData):PuS (Bk.D5 (PSp qG false) (PSp qC true)):=(jS (DF (qD (zA qG false) (qf (bV 0) qv)) (U7 3 (qY (gN 2) (qY (gN 3) (qY (gN 4) U8)))) [true] ⟨rfl⟩) (jS (SM (qD (zA qC true) (qf (bV 1) qv)) 5 [false,true] ⟨rfl⟩) (jS (SM (bLc (qcl (bV 5)) (U7 2 (qY (gN 0) (qY (gN 1) U8))) bTt (bV 0) [none,none] ⟨rfl⟩) 6 [false,false,false,false,false,true] ⟨rfl⟩) (jS (SM (bLc (qcl (bV 5)) (U7 2 (qY (gN 0) (qY (gN 1) U8))) bTt (bV 1) [none,none] ⟨rfl⟩) 7 [false,false,false,false,false,true] ⟨rfl⟩) (J5 (qlK (U9 (qf (qcm (qD qa0 (qf (bV 6) qv))) (qf (bO (opI (·-·)) (bV 2) (qD qbh (qf (bV 6) qv))) qv))) (gN 0) bTt (U9 (qf (qcm (qD qa0 (qf (bV 3) qv))) (qf (bO (opI (·-·)) (bV 2) (qD qbh (qf (bV 3) qv))) qv))) (gN 1) bTt (ZS (qf (bV 0) (qf (bV 1) qv)) ⟨rfl⟩) [none,none,some 3,some 7] ⟨rfl⟩ ⟨rfl⟩ ⟨rfl⟩))))))
def jv (j:Nat):List PyData->Option PyData:=run (WB (qG j) qC).f 2 8 1000000000 true
def qbK (j:Nat):∀ ts G q,PSp (jv j) true ts G q->ts.length=2/\Bk.D5 (PSp (qG j) false) (PSp qC true) { nx:=λ_ G'=>q .non G',rt:=q } (qu ["dealing","walk","rows","columns","banks","cells","downs","alongs"] ts) G:=zt (WB (qG j) qC) ["dealing","walk","rows","columns","banks","cells","downs","alongs"] 2 1000000000 true
def qbP {j:Nat} {x0 x1:PyData}:jv j [x0,x1]=YS true ((WB (qG j) qC).f 1000000000 [.sh x0,.sh x1,.un,.un,.un,.un,.un,.un]):=id rfl
def UT (S_is_unlike:Sp3) (S_starts:Sp3):TS3:=(zd (VT (o3 (iB λi j=>decide (j<i)) (cb3 UA (qc (cb3 S_starts (qc (v3 0) (qc (v3 1) qi))) qi)) (c3 (.int 0))) (cb3 S_is_unlike (qc (v3 0) (qc (v3 1) qi)))))
def U5 (qw:List PyData->Option PyData) (jv:List PyData->Option PyData):PuS (Pv.UT (PSp qw false) (PSp jv true)):=(J5 (qab (bO (opB λi j=>decide (j<i)) (qD C7 (qf (qD (zA jv true) (qf (bV 0) (qf (bV 1) qv))) qv)) (qx 0)) (qD (zA qw false) (qf (bV 0) (qf (bV 1) qv)))))
def zG (j:Nat):List PyData->Option PyData:=run (U5 qw (jv j)).f 2 2 1000000000 false
def NW (j:Nat):∀ ts G q,PSp (zG j) false ts G q->ts.length=2/\Pv.UT (PSp qw false) (PSp (jv j) true) { nx:=λ_ G'=>q .non G',rt:=q } (qu ["dealing","walk"] ts) G:=zt (U5 qw (jv j)) ["dealing","walk"] 2 1000000000 false
def NO {j:Nat} {x0 x1:PyData}:zG j [x0,x1]=YS false ((U5 qw (jv j)).f 1000000000 [.sh x0,.sh x1]):=id rfl
def Q9 (S_is_free:Sp3):TS3:=(qO (zg (qcy (v3 0) (sp3 (c3 (.int 1))) (sp3 (c3 (.int 3)))) (jf 2 (qr (gn3 2) (qr (gn3 3) ji)))) (zd (qhK (zz (qc (v3 2) qi)) (gn3 0) tt3 (zz (qc (o3 (iI (·-·)) (c3 (.int 1)) (v3 2)) (qc (v3 2) qi))) (gn3 1) (qhG (or3 (tb3 (o3 (iB λi j=>decide (j<i)) (v3 0) (c3 (.int 0)))) (tb3 (o3 (iB λi j=>decide (j<i)) (v3 1) (c3 (.int 0))))) (tb3 (cb3 S_is_free (qc (v3 3) (qc (zU (qc (c3 (.str "step")) (qc (v3 0) (qc (v3 1) (qc (v3 4) qi))))) qi))))) (zU (qc (v3 0) (qc (v3 1) qi))) [none,none,some 3,some 0,some 1])))
def ZE (zG:List PyData->Option PyData):PuS (Pv.Q9 (PSp zG false)):=(jS (DF (bSl (bV 0) (bSp (qx 1)) (bSp (qx 3))) (U7 2 (qY (gN 2) (qY (gN 3) U8))) [true] ⟨rfl⟩) (J5 (qlK (U9 (qf (bV 2) qv)) (gN 0) bTt (U9 (qf (bO (opI (·-·)) (qx 1) (bV 2)) (qf (bV 2) qv))) (gN 1) (qoJ (bOr (bTb (bO (opB λi j=>decide (j<i)) (bV 0) (qx 0))) (bTb (bO (opB λi j=>decide (j<i)) (bV 1) (qx 0)))) (bTb (qD (zA zG false) (qf (bV 3) (qf (ZS (qf (WF "step") (qf (bV 0) (qf (bV 1) (qf (bV 4) qv)))) ⟨rfl⟩) qv))))) (ZS (qf (bV 0) (qf (bV 1) qv)) ⟨rfl⟩) [none,none,some 3,some 0,some 1] ⟨rfl⟩ ⟨rfl⟩ ⟨rfl⟩)))
def zD (j:Nat):List PyData->Option PyData:=run (ZE (zG j)).f 2 4 1000000000 true
def RQ (j:Nat):∀ ts G q,PSp (zD j) true ts G q->ts.length=2/\Pv.Q9 (PSp (zG j) false) { nx:=λ_ G'=>q .non G',rt:=q } (qu ["dealing","many","rows","columns"] ts) G:=zt (ZE (zG j)) ["dealing","many","rows","columns"] 2 1000000000 true
def RF {j:Nat} {x0 x1:PyData}:zD j [x0,x1]=YS true ((ZE (zG j)).f 1000000000 [.sh x0,.sh x1,.un,.un]):=id rfl
open Bk (Wk Dl qW q0 ZH lnD lnA)
def pD (p:Int×Int):PyData:=.tuple [.int p.1,.int p.2]
def Wk.d:Wk->PyData
 |.line k m=>.tuple [.str (ZH k),.int m]
 |.block h w=>.tuple [.str "block",.int h,.int w]
 |.step d a m=>.tuple [.str "step",.int d,.int a,.int m]
 |.cells ps=>.tuple [.str "cells",.tuple (ps.map pD)]
def LN (r:List Int):PyData:=.tuple (r.map PyData.int)
def dlD:Dl->PyData
 |.skew r c b x y=>.tuple [.str "skew",.int r,.int c,.int b,.int x,.int y]
 |.rests r c b p=>.tuple [.str "rests",.int r,.int c,.int b,.int p]
 |.bits h l ms=>.tuple [.str "bits",.int h,.int l,.tuple (ms.map PyData.int)]
 |.table b cells=>.tuple [.str "table",.int b,.tuple (cells.map LN)]
 |.joined d e=>.tuple [.str "joined",dlD d,dlD e]
def qaQ (G:Gp):∀ (cs:List (List Int)),Dqs G (cs.map Bk.qpi) (cs.map LN)
 |[]=>.nil
 |r::cs=>.cons (.tup (Dqs.ofInts r)) (qaQ G cs)
def qgt (G:Gp):∀ (d:Dl),Dq G d.t (dlD d)
 |.skew r c b x y=>.tup (.cons (.str _) (.cons (.int _) (.cons (.int _) (.cons (.int _) (.cons (.int _) (.cons (.int _) .nil))))))
 |.rests r c b p=>.tup (.cons (.str _) (.cons (.int _) (.cons (.int _) (.cons (.int _) (.cons (.int _) .nil)))))
 |.bits h l ms=>.tup (.cons (.str _) (.cons (.int _) (.cons (.int _) (.cons (.tup (Dqs.ofInts ms)) .nil))))
 |.table b cells=>.tup (.cons (.str _) (.cons (.int _) (.cons (.tup (qaQ G cells)) .nil)))
 |.joined d e=>.tup (.cons (.str _) (.cons (qgt G d) (.cons (qgt G e) .nil)))
def MO (G:Gp):∀ (cs:List (Int×Int)),Dqs G (cs.map Bk.pT) (cs.map pD)
 |[]=>.nil
 |p::cs=>.cons (.tup (.cons (.int _) (.cons (.int _) .nil))) (MO G cs)
def qnF (G:Gp):∀ (w:Wk),Dq G w.t (Wk.d w)
 |.line k m=>.tup (.cons (.str _) (.cons (.int _) .nil))
 |.block h v=>.tup (.cons (.str _) (.cons (.int _) (.cons (.int _) .nil)))
 |.step d a m=>.tup (.cons (.str _) (.cons (.int _) (.cons (.int _) (.cons (.int _) .nil))))
 |.cells ps=>.tup (.cons (.str _) (.cons (.tup (MO G ps)) .nil))
end Pv
namespace Pu
open PySem L2 L3
open Bk (Lf Ext)
section
variable {D:Addr->Prop} {a:Addr} {G G' G0:Gp} {n n':Nat} {fv gv:List Nat} {l:Nat} {τ:St3} {ρ:Rho}
def SO (e:Ext a G G') (h:D a):Ex (rs D G) (rs D G'):=λb o x=>by
 obtain ⟨n,x⟩:=qZ x;rw [QH n];exact e b o (by rintro rfl;exact n h) x
def W2 {k:Int} (h:Lf G a k):G a≠none:=by
 obtain ⟨o,c,m,e,_⟩:=h;rw [e];simp
def RB {k:Int} (hd:Dom D G) (e:Ext a G G') (lf:Lf G' a k):Dom D G':=λb hb z=>by
 by_cases h:b=a
 ·subst h;exact W2 lf z
 ·cases g:G b with
  |none=>exact hd b hb g
  |some o=>rw [e b o h g] at z;cases z
def Nw.backx {x:T} {d:PyData} {k:Int} (h:Nw D G G' x d) (e:Ext a G0 G) (lf:Lf G a k):Nw D G0 G' x d:=by
 rcases h with h|⟨p,xs,ds,h1,h2,c,r⟩
 ·exact .inl h
 refine .inr ⟨p,xs,ds,h1,h2,?_,r⟩;cases z:G0 p with
 |none=>rfl
 |some o=>
  by_cases hp:p=a
  ·subst hp;exact absurd c (W2 lf)
  ·rw [e p o hp z] at c;cases c
structure Ln (fv:List Nat) (l:Nat) (D:Addr->Prop) (G:Gp) (τ:St3) (ρ:Rho) (a:Addr) (n:Nat):Prop where
 v:CF fv D G τ ρ
 d:Dom D G
 da:D a
 tl:τ[l]?=some (some (.ref a))
 ul:vw ρ l=none
 lf:Lf G a n
def Ln.up (h:Ln fv l D G τ ρ a n) (e:Ext a G G') (lf:Lf G' a n'):Ln fv l D G' τ ρ a n':=
 ⟨λi hi d hd=>let ⟨t,x,y⟩:=h.v i hi d hd;⟨t,x,y.up (SO e h.da)⟩,RB h.d e lf,h.da,h.tl,h.ul,lf⟩
def Ln.fst (h:Ln (fv++gv) l D G τ ρ a n):Ln fv l D G τ ρ a n:=⟨h.v.l,h.d,h.da,h.tl,h.ul,h.lf⟩
def Ln.snd (h:Ln (fv++gv) l D G τ ρ a n):Ln gv l D G τ ρ a n:=⟨h.v.r,h.d,h.da,h.tl,h.ul,h.lf⟩
end
abbrev QD:=PyData->Nat->Prop
structure PwE (l:Nat) (t:TE3) where
 w:Rho->Nat->QD->Prop
 fv:List Nat
 nw:Bool
 mono:∀ {ρ n} {Q Q':QD},w ρ n Q->(∀ d m,Q d m->Q' d m)->w ρ n Q'
 ok:∀ {D τ ρ G a n} {q:Q3} {Q:QD},Ln fv l D G τ ρ a n->w ρ n Q->(∀ x d G' n',Q d n'->Ext a G G'->Lf G' a n'->Dq (rs D G') x d->(nw=true->Nw D G G' x d)->q x G')->t τ G q
structure PwC (l:Nat) (t:TT3) where
 w:Rho->Nat->(Bool->Nat->Prop)->Prop
 fv:List Nat
 mono:∀ {ρ n} {Q Q':Bool->Nat->Prop},w ρ n Q->(∀ d m,Q d m->Q' d m)->w ρ n Q'
 ok:∀ {D τ ρ G a n} {q:Bool->Gp->Prop} {Q:Bool->Nat->Prop},Ln fv l D G τ ρ a n->w ρ n Q->(∀ k G' n',Q k n'->Ext a G G'->Lf G' a n'->q k G')->t τ G q
structure PwA (l:Nat) (t:TA3) where
 w:Rho->Nat->(List PyData->Nat->Prop)->Prop
 fv:List Nat
 k:Nat
 mono:∀ {ρ n} {Q Q':List PyData->Nat->Prop},w ρ n Q->(∀ d m,Q d m->Q' d m)->w ρ n Q'
 ok:∀ {D τ ρ G a n} {q:List T->Gp->Prop} {Q:List PyData->Nat->Prop},Ln fv l D G τ ρ a n->w ρ n Q->(∀ x d G' n',Q d n'->d.length=k->Ext a G G'->Lf G' a n'->Dqs (rs D G') x d->q x G')->t τ G q
structure PwI (l:Nat) (t:TI3) where
 w:Rho->Nat->(List PyData->Nat->Prop)->Prop
 fv:List Nat
 nm:Bool
 mono:∀ {ρ n} {Q Q':List PyData->Nat->Prop},w ρ n Q->(∀ d m,Q d m->Q' d m)->w ρ n Q'
 ok:∀ {D τ ρ G a n} {r:List T->(Gp->Prop)->Gp->Prop} {Q:List PyData->Nat->Prop},Ln fv l D G τ ρ a n->w ρ n Q ->
  (∀ items stay ds G' n',Q ds n'->Ext a G G'->Lf G' a n'->Dqs (rs D G') items ds->(∀ G'',(nm=true\/Ex (rs D G') G'')->stay G'')->(nm=true->∃ ns:List Int,ds=ns.map PyData.int)->r items stay G')->t τ G r
structure DrD (r:List T->Gp->Q3->Prop) where
 W:List PyData->Nat->QD->Prop
 nw:Bool
 mono:∀ {ds n} {Q Q':QD},W ds n Q->(∀ d m,Q d m->Q' d m)->W ds n Q'
 ok:∀ {D:Addr->Prop} {G:Gp} {a:Addr} {n:Nat} {ts:List T} {ds:List PyData} {q:Q3} {Q:QD},Lf G a n->D a->Dom D G->Dqs (rs D G) ts ds->W ds n Q->(∀ x d G' n',Q d n'->Ext a G G'->Lf G' a n'->Dq (rs D G') x d->(nw=true->Nw D G G' x d)->q x G')->r (.ref a::ts) G q
section
variable {l:Nat}
def eOf {t:TE3} (b:PuE t):PwE l t:=⟨λρ n Q=>∃ d,b.f ρ=some d/\Q d n,b.fv,b.nw,λ⟨d,h1,h2⟩ h=>⟨d,h1,h _ _ h2⟩,λh ⟨d,h1,h2⟩ k=>
 b.ok h.v h.d h1 λx G1 E1 D1 N1=>k x d G1 _ h2 (Bk.KG E1) (h.lf.ex E1) D1 N1⟩
def cOf {t:TT3} (b:PuC t):PwC l t:=⟨λρ n Q=>∃ d,b.f ρ=some d/\Q d n,b.fv,λ⟨d,h1,h2⟩ h=>⟨d,h1,h _ _ h2⟩,λh ⟨d,h1,h2⟩ k=>
 b.ok h.v h.d h1 λG1 E1=>k d G1 _ h2 (Bk.KG E1) (h.lf.ex E1)⟩
def aOf {t:TA3} (b:PuA t):PwA l t:=⟨λρ n Q=>∃ d,b.f ρ=some d/\Q d n,b.fv,b.n,λ⟨d,h1,h2⟩ h=>⟨d,h1,h _ _ h2⟩,λh ⟨d,h1,h2⟩ k=>
 b.ok h.v h.d h1 λx G1 E1 D1=>k x d G1 _ h2 (b.ln h1) (Bk.KG E1) (h.lf.ex E1) D1⟩
def iOf {t:TI3} (b:PuI t):PwI l t:=⟨λρ n Q=>∃ d,b.f ρ=some d/\Q d n,b.fv,b.nm,λ⟨d,h1,h2⟩ h=>⟨d,h1,h _ _ h2⟩,λh ⟨d,h1,h2⟩ k=>
 b.ok h.v h.d h1 λitems stay G1 E1 D1 s nm=>k items stay d G1 _ h2 (Bk.KG E1) (h.lf.ex E1) D1 s nm⟩
def eO {r:R3} {ta tb:TE3} (R:OpD r) (a:PwE l ta) (b:PwE l tb):PwE l (o3 r ta tb):=
 ⟨λρ n Q=>a.w ρ n λx n1=>b.w ρ n1 λy n2=>∃ v,R.f x y=some v/\Q v n2,a.fv++b.fv,R.nw,λh k=>a.mono h λx n1 h=>b.mono h λy n2 ⟨v,h1,h2⟩=>⟨v,h1,k _ _ h2⟩,λh hw k=>
  a.ok h.fst hw λx dx G1 n1 h1 E1 L1 D1 _=>b.ok (h.snd.up E1 L1) h1 λy dy G2 n2 ⟨v,e,hq⟩ E2 L2 D2 _=>R.ok (D1.up (SO E2 h.da)) D2 (RB (RB h.d E1 L1) E2 L2) e λz G3 E3 D3 N3=>k z v G3 n2 hq ((E1.trans E2).trans (Bk.KG E3)) (L2.ex E3) D3 λz=>(N3 z).backx (E1.trans E2) L2⟩
def U2 {ta:TE3} {tr:TA3} (a:PwE l ta) (r:PwA l tr):PwA l (qc ta tr):=
 ⟨λρ n Q=>a.w ρ n λx n1=>r.w ρ n1 λxs n2=>Q (x::xs) n2,a.fv++r.fv,r.k+1,λh k=>a.mono h λx n1 h=>r.mono h λxs n2 h=>k _ _ h,λh hw k=>
  a.ok h.fst hw λx dx G1 n1 h1 E1 L1 D1 _=>r.ok (h.snd.up E1 L1) h1 λy dy G2 n2 hq hl E2 L2 D2=>k _ _ G2 n2 hq (by simp [hl]) (E1.trans E2) L2 (.cons (D1.up (SO E2 h.da)) D2)⟩
def qmA {t:TA3} (b:PwA l t) (hn:Tru (Nat.ble b.k 1000)):PwE l (zU t):=⟨λρ n Q=>b.w ρ n λxs n1=>Q (.tuple xs) n1,b.fv,false,λh k=>b.mono h λxs n1 h=>k _ _ h,λh hw k=>
 b.ok h hw λx dx G1 n1 h1 hl E1 L1 D1=>⟨by rw [D1.length,hl];exact few hn,k _ _ _ _ h1 E1 L1 (.tup D1) (λz=>by cases z)⟩⟩
def eDr {r:List T->Gp->Q3->Prop} {t:TA3} (R:DrD r) (b:PwA l t):PwE l (cb3 r (qc (v3 l) t)):=⟨λρ n Q=>b.w ρ n λxs n1=>R.W xs n1 Q,b.fv,R.nw,λh k=>b.mono h λxs n1 h=>R.mono h k,λ{D τ ρ G a n q Q} h hw k=>by
 simp only [cb3,qc,v3,h.tl];exact b.ok h hw λx dx G1 n1 hW hl E1 L1 D1=>R.ok L1 h.da (RB h.d E1 L1) D1 hW λz d G3 n3 hq E3 L3 D3 N3=>k z d G3 n3 hq (E1.trans E3) L3 D3 λz=>(N3 z).backx E1 L1⟩
def cTb {t:TE3} (b:PwE l t):PwC l (tb3 t):=⟨λρ n Q=>b.w ρ n λd n1=>∃ k,asB d=some k/\Q k n1,b.fv,λh k=>b.mono h λd m ⟨v,h1,h2⟩=>⟨v,h1,k _ _ h2⟩,λh hw k=>b.ok h hw λx d G1 n1 ⟨v,e,hq⟩ E1 L1 D1 _=>by
 have:=qaA e;subst this;cases D1;exact k _ _ _ hq E1 L1⟩
def cOr {t u:TT3} (a:PwC l t) (b:PwC l u):PwC l (or3 t u):=⟨λρ n Q=>a.w ρ n λk n1=>if k then Q true n1 else b.w ρ n1 Q,a.fv++b.fv,λh k=>a.mono h λj m h=>by
  cases j with
  |false=>exact b.mono h k
  |true=>exact k _ _ h,λh hw k=>a.ok h.fst hw λj G1 n1 hj E1 L1=>by
  cases j with
  |false=>exact b.ok (h.snd.up E1 L1) hj λi G2 n2 hq E2 L2=>k _ _ _ hq (E1.trans E2) L2
  |true=>exact k _ _ _ hj E1 L1⟩
def qoP {t:TT3} (a:PwC l t):PwC l (qaf t):=⟨λρ n Q=>a.w ρ n λk n1=>Q (!k) n1,a.fv,λh k=>a.mono h λj m h=>k _ _ h,λh hw k=>a.ok h hw λj G1 n1 hj E1 L1=>k _ _ _ hj E1 L1⟩
def eIf {t:TT3} {ta tb:TE3} (c:PwC l t) (a:PwE l ta) (b:PwE l tb):PwE l (if3 t ta tb):=⟨λρ n Q=>c.w ρ n λk n1=>if k then a.w ρ n1 Q else b.w ρ n1 Q,c.fv++(a.fv++b.fv),false,λh k=>c.mono h λj m h=>by
  cases j with
  |true=>rw [if_pos rfl] at h ⊢;exact a.mono h k
  |false=>exact b.mono h k,λh hw k=>c.ok h.fst hw λj G1 n1 hj E1 L1=>by
  cases j with
  |true=>rw [if_pos rfl] at hj ⊢;exact a.ok (h.snd.fst.up E1 L1) hj λx d G2 n2 hq E2 L2 D2 _=>k _ _ _ _ hq (E1.trans E2) L2 D2 (λz=>by cases z)
  |false=>exact b.ok (h.snd.snd.up E1 L1) hj λx d G2 n2 hq E2 L2 D2 _=>k _ _ _ _ hq (E1.trans E2) L2 D2 (λz=>by cases z)⟩
end
def VA.ext {D:Addr->Prop} {a:Addr} {G G':Gp} {τ:St3} {ρ:Rho} (h:VA D G τ ρ) (e:Ext a G G') (da:D a):VA D G' τ ρ:=h.upx (SO e da)
structure RL (l:Nat) (a:Addr) (z0:Option (Option T)×Nat) (D:Addr->Prop) (G0:Gp) (A:Nat->Option Addr) (τ:St3) (ρ:Rho) (G:Gp) (n:Nat):Prop where
 r:RS D G0 A τ ρ G
 al:A l=some a
 tl:τ[l]?=some (some (.ref a))
 ul:ρ[l]?=some Sl.un
 lf:Lf G a n
 tz:τ[0]?=z0.1/\τ.length=z0.2
section
variable {l:Nat} {a:Addr} {z0:Option (Option T)×Nat} {D:Addr->Prop} {G0 G G':Gp} {A:Nat->Option Addr} {τ:St3} {ρ:Rho} {n n':Nat}
def RL.vl (h:RL l a z0 D G0 A τ ρ G n):vw ρ l=none:=by unfold vw;rw [h.ul];rfl
def RL.up (h:RL l a z0 D G0 A τ ρ G n) (e:Ext a G G') (lf:Lf G' a n'):RL l a z0 D G0 A τ ρ G' n':=by
 have X:Ex (rs (AD D A) G) (rs (AD D A) G'):=SO e (.inr ⟨l,h.al⟩);refine ⟨⟨λb o x=>e b o (by rintro rfl;rw [h.r.fr l _ h.al] at x;cases x) (h.r.ex b o x),h.r.dm,h.r.fr,λi p hp z=>?_,h.r.inj,h.r.len,λi d x=>let ⟨t,y,z⟩:=h.r.sh i d x;⟨t,y,z.up X⟩,λi ds x=>?_⟩,h.al,h.tl,h.ul,lf,h.tz⟩
 ·by_cases c:p=a
  ·subst c;exact W2 lf z
  ·cases g:G p with
   |none=>exact h.r.da i p hp g
   |some o=>rw [e p o c g] at z;cases z
 ·obtain ⟨p,xs,y1,y2,y3,y4⟩:=h.r.ow i ds x;refine ⟨p,xs,y1,y2,e p _ ?_ y3,y4.up X⟩;rintro rfl;have:=h.r.inj i l _ y1 h.al;subst this;rw [h.ul] at x;cases x
def RL.all (h:RL l a z0 D G0 A τ ρ G n) (fv:List Nat):Ln fv l (λb=>D b\/b=a) G τ ρ a n:=by
 refine ⟨λi _ d hd=>?_,λb hb=>?_,.inr rfl,h.tl,h.vl,h.lf⟩
 ·unfold vw at hd;obtain ⟨s,e,hd⟩:=obb hd;have less:Ex (rs (AD D A) G) (rs (λb=>D b\/b=a) G):=zX λb z=>by
   rcases z with z|z
   ·exact .inl z
   ·subst z;exact .inr ⟨l,h.al⟩
  cases s with
  |un=>cases hd
  |sh d'=>
   cases hd;obtain ⟨t,b,c⟩:=h.r.sh i _ e;exact ⟨t,b,c.up less⟩
  |ow ds=>
   cases hd;obtain ⟨p,xs,b,c,g,f⟩:=h.r.ow i _ e;refine ⟨_,c,.lst ?_ (f.up less)⟩;rw [QH]
   ·exact g
   ·rintro (z|z)
    ·exact h.r.nd b z
    ·subst z;have:=h.r.inj i l _ b h.al;subst this;rw [h.ul] at e;cases e
 ·rcases hb with hb|hb
  ·exact h.r.domD b hb
  ·subst hb;exact W2 h.lf
def qpb {m:List Bool} (hm:mkb m l=false) (al:A l=some a):Ad m A l=some a:=by unfold Ad;rw [if_neg (by rw [hm];simp)];exact al
def RL.dem (h:RL l a z0 D G0 A τ ρ G n) {m:List Bool} (hm:mkb m l=false):RL l a z0 D G0 (Ad m A) τ (Pu.dm m ρ) G n:=
 ⟨h.r.dem m,qpb hm h.al,h.tl,by rw [qaW,h.ul];simp [hm],h.lf,h.tz⟩
def RL.ln (h:RL l a z0 D G0 A τ ρ G n) {m:List Bool} {fv:List Nat} (hm:mkb m l=false) (hf:Tru (fv.all (mkb m))):Ln fv l (AD D (Ad m A)) G τ ρ a n:=
 ⟨h.r.viewD hf,(h.r.dem m).dom,.inr ⟨l,qpb hm h.al⟩,h.tl,h.vl,h.lf⟩
def RL.put (h:RL l a z0 D G0 A τ ρ G n) {i:Nat} (hi:i≠l) (h0:i≠0) {x:T} {d:PyData} (hx:Dq (rs (AD D A) G) x d):RL l a z0 D G0 (Er A i) (τ.set i (some x)) (ρ.set i (.sh d)) G n:=
 ⟨h.r.put i hx,by unfold Er;rw [if_neg (λz=>hi z.symm)];exact h.al,by rw [getElem?_set,if_neg hi];exact h.tl,by rw [getElem?_set,if_neg hi];exact h.ul,h.lf,⟨by rw [getElem?_set,if_neg h0];exact h.tz.1,by rw [List.length_set];exact h.tz.2⟩⟩
def RL.puts:∀ {ts:List (Nat×T)} {bs:List (Nat×PyData)} {A:Nat->Option Addr} {τ:St3} {ρ:Rho},RL l a z0 D G0 A τ ρ G n->Bd (rs (AD D A) G) ts bs->(∀ p∈bs,p.1≠l/\p.1≠0)->∃ A',RL l a z0 D G0 A' (sets τ ts) (ZJ ρ bs) G n
 |_,_,A,_,_,h,.nil,_=>⟨A,h⟩
 |_,_,A,_,_,h,.cons x b,hn=>by
  unfold sets ZJ;exact RL.puts (h.put (hn _ List.mem_cons_self).1 (hn _ List.mem_cons_self).2 x) (b.up qfU) (λp hp=>hn p (List.mem_cons_of_mem _ hp))
def RL.putN (h:RL l a z0 D G0 A τ ρ G n) {i:Nat} (hi:i≠l) (h0:i≠0) {x:T} {d:PyData} {ds:List PyData} (hd:d=.list ds) (E:Ext a G G') (lf:Lf G' a n') (hx:Nw (AD D A) G G' x d):∃ A',RL l a z0 D G0 A' (τ.set i (some x)) (ρ.set i (.ow ds)) G' n':=by
 have h1:=h.up E lf;rcases hx with hx|⟨p,xs,ds',rfl,e',gp,gp',hs⟩
 ·rw [hd] at hx;cases hx
 rw [hd] at e';cases e';have np:∀ {j q},A j=some q->q≠p:=λe=>by rintro rfl;exact h.r.da _ _ e gp
 have X1:Ex (rs (AD D A) G) (rs (AD D (λj=>if j=i then some p else A j)) G'):=λb o e=>by
  obtain ⟨n,e⟩:=qZ e;rw [QH]
  ·exact E b o (by rintro rfl;exact n (.inr ⟨l,h.al⟩)) e
  ·rintro (z|⟨j,z⟩)
   ·exact n (.inl z)
   ·simp only at z;split at z
    ·cases z;rw [gp] at e;cases e
    ·exact n (.inr ⟨j,z⟩)
 refine ⟨λj=>if j=i then some p else A j,⟨h1.r.ex,h.r.dm,λj q e=>?_,λj q e=>?_,λj k q x y=>?_,by simp [h.r.len],λj e he=>?_,λj es e=>?_⟩,by rw [if_neg (λz=>hi z.symm)];exact h.al,by rw [getElem?_set,if_neg hi];exact h.tl,by rw [getElem?_set,if_neg hi];exact h.ul,lf,⟨by rw [getElem?_set,if_neg h0];exact h.tz.1,by rw [List.length_set];exact h.tz.2⟩⟩
 ·split at e
  ·cases e;cases z:G0 p with
   |none=>rfl
   |some o=>rw [h.r.ex _ _ z] at gp;cases gp
  ·exact h.r.fr j q e
 ·split at e
  ·cases e;rw [gp'];simp
  ·exact h1.r.da j q e
 ·split at x
  ·cases x;split at y
   ·rename_i h1 h2;rw [h1,h2]
   ·exact absurd rfl (np y)
  ·split at y
   ·cases y;exact absurd rfl (np x)
   ·exact h.r.inj j k q x y
 ·rw [getElem?_set] at he ⊢;split at he
  ·split at he<;>cases he
  ·rename_i hj;rw [if_neg hj];obtain ⟨t,b,c⟩:=h.r.sh j _ he;exact ⟨t,b,c.up X1⟩
 ·rw [getElem?_set] at e ⊢;split at e
  ·rename_i hj;subst hj;split at e
   ·rename_i hl;cases e;refine ⟨p,xs,by simp,by rw [if_pos rfl,if_pos (by rw [← h.r.len];exact hl)],gp',hs.up (zX λb z=>?_)⟩;rcases z with z|⟨j,z⟩
    ·exact .inl (.inl z)
    ·simp only at z;split at z
     ·cases z;exact .inr rfl
     ·exact .inl (.inr ⟨j,z⟩)
   ·cases e
  ·rename_i hj;rw [if_neg hj];obtain ⟨q,ys,b,c,g,f⟩:=h1.r.ow j _ e;obtain ⟨q',ys',b',c',g',f'⟩:=h.r.ow j _ e;rw [b] at b';cases b';have:G' q=some (.lst ys'):=E q _ (by rintro rfl;have:=h.r.inj j l _ b h.al;subst this;rw [h.ul] at e;cases e) g';exact ⟨q,ys',by rw [if_neg (λz=>hj z.symm)];exact b,c,this,f'.up X1⟩
def RL.wr (h:RL l a z0 D G0 A τ ρ G n) {i:Nat} {p:Addr} {xs:List T} {ds ds0:List PyData} (ho:ρ[i]?=some (Sl.ow ds0)) (hi:A i=some p) (ht:τ[i]?=some (some (.ref p))) (hs:Dqs (rs (AD D A) G) xs ds):RL l a z0 D G0 A τ (ρ.set i (.ow ds)) (gu G p (.lst xs)) n:=by
 have il:i≠l:=by rintro rfl;rw [h.ul] at ho;cases ho
 have pa:p≠a:=by rintro rfl;exact il (h.r.inj i l _ hi h.al)
 exact ⟨h.r.wr hi ht hs,h.al,h.tl,by rw [getElem?_set,if_neg il];exact h.ul,h.lf.new pa,h.tz⟩
end
abbrev QO:=Ot->Nat->Prop
def qch (l:Nat) (a:Addr) (z0:Option (Option T)×Nat) (D:Addr->Prop) (G0:Gp) (e:Ends3):Ot->Nat->Prop
 |.nx ρ,n=>∀ A τ G,RL l a z0 D G0 A τ ρ G n->e.nx τ G
 |.bk ρ,n=>∀ A τ G,RL l a z0 D G0 A τ ρ G n->e.bk τ G
 |.ct ρ,n=>∀ A τ G,RL l a z0 D G0 A τ ρ G n->e.ct τ G
 |.rt d fr,n=>∀ x G,Ex G0 G->Lf G a n->Dq (rs (λb=>D b\/b=a) G) x d->(fr=true->Nw (λb=>D b\/b=a) G0 G x d)->e.rt x G
structure PwS (l:Nat) (t:TS3) where
 w:Rho->Nat->QO->Prop
 mono:∀ {ρ n} {Q Q':QO},w ρ n Q->(∀ o m,Q o m->Q' o m)->w ρ n Q'
 ok:∀ {a z0 D G0 A τ ρ G n} {e:Ends3} {Q:QO},RL l a z0 D G0 A τ ρ G n->w ρ n Q->(∀ o m,Q o m->qch l a z0 D G0 e o m)->t e τ G
section
variable {l:Nat}
def TN:PwS l za:=⟨λρ n Q=>Q (.nx ρ) n,λh k=>k _ _ h,λh hw k=>k _ _ hw _ _ _ h⟩
def sqw (b:Rho->Nat->QO->Prop) (Q:QO):QO:=λo n=>match o with|.nx ρ'=>b ρ' n Q|o=>Q o n
def ES {t u:TS3} (x:PwS l t) (y:PwS l u):PwS l (qO t u):=⟨λρ n Q=>x.w ρ n (sqw y.w Q),λh k=>x.mono h λo m h=>by
  cases o with
  |nx ρ=>exact y.mono h k
  |bk ρ=>exact k _ _ h
  |ct ρ=>exact k _ _ h
  |rt d f=>exact k _ _ h,λh hw k=>x.ok h hw λo m h=>by
  cases o with
  |nx ρ=>exact λA τ G r=>y.ok r h k
  |bk ρ=>exact k _ _ h
  |ct ρ=>exact k _ _ h
  |rt d f=>exact k _ _ h⟩
def wIf {c:TT3} {t u:TS3} (pc:PwC l c) (x:PwS l t) (y:PwS l u):PwS l (QB c t u):=⟨λρ n Q=>pc.w ρ n λk n1=>if k then x.w ρ n1 Q else y.w ρ n1 Q,λh k=>pc.mono h λj m h=>by
  cases j with
  |true=>rw [if_pos rfl] at h ⊢;exact x.mono h k
  |false=>exact y.mono h k,λh hw k=>pc.ok (h.all _) hw λj G1 n1 hj E1 L1=>by
  cases j with
  |true=>rw [if_pos rfl] at hj ⊢;exact x.ok (h.up E1 L1) hj k
  |false=>exact y.ok (h.up E1 L1) hj k⟩
def qf7 {a:Addr} {z0:Option (Option T)×Nat} {D:Addr->Prop} {G0 G G':Gp} {A:Nat->Option Addr} {τ:St3} {ρ:Rho} {n:Nat} (h:RL l a z0 D G0 A τ ρ G n) (e:Ext a G G'):Ex G0 G':=λb o x=>e b o (by rintro rfl;rw [h.r.fr l _ h.al] at x;cases x) (h.r.ex b o x)
def qaH {t:TE3} (x:PwE l t):PwS l (zd t):=⟨λρ n Q=>x.w ρ n λd n1=>Q (.rt d x.nw) n1,λh k=>x.mono h λd m h=>k _ _ h,λh hw k=>x.ok (h.all _) hw λy d G1 n1 hq E1 L1 D1 N1=>k _ _ hq y G1 (qf7 h E1) L1 D1 λz=>(N1 z).back h.r.ex⟩
def qiz (i:Nat):PwS l (zd (v3 i)):=⟨λρ n Q=>∃ d b,qcs ρ i=some (.rt d b)/\Q (.rt d b) n,λ⟨d,b,h1,h2⟩ k=>⟨d,b,h1,k _ _ h2⟩,λ{a z0 D G0 A τ ρ G n e Q} h ⟨d,b,h1,h2⟩ k=>by
 unfold qcs at h1;split at h1
 ·rename_i ds e;cases h1;obtain ⟨p,xs,b,c,g,f⟩:=h.r.ow i _ e;simp only [zd,v3,c];have pa:p≠a:=by
   rintro rfl;have:=h.r.inj i l _ b h.al;subst this;rw [h.ul] at e;cases e
  refine k _ _ h2 _ _ h.r.ex h.lf (.lst (by rw [QH (by rintro (z|z);exact h.r.nd b z;exact pa z)];exact g) (f.up (zX λb z=>?_))) λ_=>.inr ⟨p,xs,ds,rfl,rfl,h.r.fr i p b,g,f.up (zX λq z=>?_)⟩
  ·rcases z with z|z
   ·exact .inl z
   ·subst z;exact .inr ⟨l,h.al⟩
  ·rcases z with (z|z)|z
   ·exact .inl z
   ·subst z;exact .inr ⟨l,h.al⟩
   ·subst z;exact .inr ⟨i,b⟩
 ·rename_i d e;cases h1;obtain ⟨t,b,c⟩:=h.r.sh i _ e;simp only [zd,v3,b];refine k _ _ h2 _ _ h.r.ex h.lf (c.up (zX λb z=>?_)) (λz=>by cases z);rcases z with z|z
  ·exact .inl z
  ·subst z;exact .inr ⟨l,h.al⟩
 ·cases h1⟩
def LP {t:TE3} (x:PwE l t) (i:Nat) (m:List Bool) (hm:Tru (x.fv.all (mkb m))) (hl:Tru (!mkb m l&&(i != l&&i != 0))):PwS l (zg t (gn3 i)):=⟨λρ n Q=>x.w ρ n λd n1=>Q (.nx (NR m x.nw i d ρ)) n1,λh k=>x.mono h λd m h=>k _ _ h,λ{a z0 D G0 A τ ρ G n e Q} h hw k=>by
 have hl':mkb m l=false/\i≠l/\i≠0:=by simpa using hl.h
 refine x.ok (h.ln hl'.1 hm) hw λy d G1 n1 hq E1 L1 D1 N1=>?_;have k:=k _ _ hq;unfold NR at k;show e.nx (τ.set i (some y)) G1;split at k
 ·rename_i hs;exact k _ _ _ ((h.up E1 L1).put hl'.2.1 hl'.2.2 (DT D1 hs))
 ·split at k
  ·rename_i hn;have N:=N1 hn;rcases id N with h2|⟨p,xs,ds,h1,h2,_⟩
   ·subst h2;rename_i hs;exact absurd rfl hs
   subst h2;obtain ⟨A',r⟩:=(h.dem hl'.1).putN hl'.2.1 hl'.2.2 rfl E1 L1 N;exact k _ _ _ r
  ·exact k _ _ _ (((h.dem hl'.1).up E1 L1).put hl'.2.1 hl'.2.2 D1)⟩
def qde {t:TE3} {g:TG3} (x:PwE l t) (pg:PuG g) (m:List Bool) (hm:Tru (x.fv.all (mkb m))) (hl:Tru (!mkb m l&&pg.tg.all (λi=>i != l&&i != 0))):PwS l (zg t g):=⟨λρ n Q=>x.w ρ n λd n1=>∃ bs,pg.f d=some bs/\Q (.nx (ZJ (dm m ρ) bs)) n1,λh k=>x.mono h λd m ⟨bs,h1,h2⟩=>⟨bs,h1,k _ _ h2⟩,λ{a z0 D G0 A τ ρ G n e Q} h hw k=>by
 have hl':mkb m l=false/\∀ i∈pg.tg,i≠l/\i≠0:=by simpa using hl.h
 refine x.ok (h.ln hl'.1 hm) hw λy d G1 n1 ⟨bs,e2,hq⟩ E1 L1 D1 N1=>?_;obtain ⟨ts,bd,kg⟩:=pg.ok D1 e2;refine kg _ _ _ ?_;obtain ⟨A',h'⟩:=((h.dem hl'.1).up E1 L1).puts bd (λp hp=>hl'.2 _ (pg.at' e2 p hp));exact k _ _ hq _ _ _ h'⟩
def qmq {t:TA3} (x:PwA l t) (i j:Nat) (m:List Bool) (hm:Tru (x.fv.all (mkb m))) (hl:Tru (!mkb m l&&((i != l&&i != 0)&&(j != l&&j != 0)))):PwS l (WD i j t):=⟨λρ n Q=>x.w ρ n λds n1=>∃ o,qdd i j m ds ρ=some o/\Q o n1,λh k=>x.mono h λd m ⟨bs,h1,h2⟩=>⟨bs,h1,k _ _ h2⟩,λ{a z0 D G0 A τ ρ G n e Q} h hw k=>by
 have hl':mkb m l=false/\(i≠l/\i≠0)/\j≠l/\j≠0:=by simpa using hl.h
 refine x.ok (h.ln hl'.1 hm) hw λy d G1 n1 ⟨o,e2,hq⟩ hlen E1 L1 D1=>?_;unfold qdd at e2;split at e2
 ·cases D1 with
  |cons x1 b=>cases b with
   |cons x2 c=>
    cases c;split at e2
    ·rename_i hs;cases e2;rw [Bool.and_eq_true] at hs;exact k _ _ hq _ _ _ (((h.up E1 L1).put hl'.2.1.1 hl'.2.1.2 (DT x1 hs.1)).put hl'.2.2.1 hl'.2.2.2 (DT x2 hs.2))
    ·cases e2;exact k _ _ hq _ _ _ ((((h.dem hl'.1).up E1 L1).put hl'.2.1.1 hl'.2.1.2 x1).put hl'.2.2.1 hl'.2.2.2 (x2.up qfU))
 ·cases e2⟩
def RL.evalS {a:Addr} {z0:Option (Option T)×Nat} {D:Addr->Prop} {G0 G:Gp} {A:Nat->Option Addr} {τ:St3} {ρ:Rho} {n:Nat} (h:RL l a z0 D G0 A τ ρ G n) {t:TE3} (x:PwE l t) (m:List Bool) (hm:Tru (x.fv.all (mkb m))) (hl:mkb m l=false) {Q:QD} (hw:x.w ρ n Q) (q:Q3) (k:∀ y d G' n' A1,Q d n'->RL l a z0 D G0 A1 τ (dmS m d ρ) G' n'->Ext a G G'->Dq (rs (AD D A1) G') y d->q y G'):t τ G q:=by
 refine x.ok (h.ln hl hm) hw λy d G1 n1 hq E1 L1 D1 _=>?_;by_cases hs:qeh d=true
 ·exact k y d G1 n1 A hq (by unfold dmS;rw [if_pos hs];exact h.up E1 L1) E1 (DT D1 hs)
 ·exact k y d G1 n1 _ hq (by unfold dmS;rw [if_neg hs];exact (h.dem hl).up E1 L1) E1 D1
def qcJ (gf:PyData->Option (List (Nat×PyData))) (bw:Rho->Nat->QO->Prop):List PyData->Rho->Nat->QO->Prop
 |[],ρ,n,Q=>Q (.nx ρ) n
 |d::r,ρ,n,Q=>∃ bs,gf d=some bs/\bw (ZJ ρ bs) n λo n1=>match o with
  |.nx ρ'=>qcJ gf bw r ρ' n1 Q
  |.ct ρ'=>qcJ gf bw r ρ' n1 Q
  |.bk ρ'=>Q (.nx ρ') n1
  |.rt d b=>Q (.rt d b) n1
def WL {g:TG3} {tb:TS3} (pg:PuG g) (pb:PwS l tb):∀ {ds:List PyData} {ρ:Rho} {n:Nat} {Q Q':QO},qcJ pg.f pb.w ds ρ n Q->(∀ o m,Q o m->Q' o m)->qcJ pg.f pb.w ds ρ n Q'
 |[],_,_,_,_,h,k=>k _ _ h
 |d::r,_,_,_,_,⟨bs,e,h⟩,k=>⟨bs,e,pb.mono h λo m h=>by
   cases o with
   |nx ρ=>exact WL pg pb h k
   |ct ρ=>exact WL pg pb h k
   |bk ρ=>exact k _ _ h
   |rt d b=>exact k _ _ h⟩
def RI {stay:Gp->Prop} {g:TG3} {tb:TS3} {e:Ends3} (pg:PuG g) (pb:PwS l tb) {a:Addr} {z0:Option (Option T)×Nat} {D:Addr->Prop} {G0:Gp} {Q:QO} (hl:∀ i∈pg.tg,i≠l/\i≠0) (hs:∀ A τ ρ G n,RL l a z0 D G0 A τ ρ G n->stay G) (k:∀ o m,Q o m->qch l a z0 D G0 e o m) :
  ∀ (ds:List PyData) (items:List T),(∀ A τ ρ G n,RL l a z0 D G0 A τ ρ G n->Dqs (rs (AD D A) G) items ds)->∀ A τ ρ G n,RL l a z0 D G0 A τ ρ G n->qcJ pg.f pb.w ds ρ n Q->R4 stay g tb e items τ G
 |[],items,hi,A,τ,ρ,G,n,h,hw=>by
  have:=hi _ _ _ _ _ h;cases this;exact ⟨hs _ _ _ _ _ h,k _ _ hw _ _ _ h⟩
 |d::ds,items,hi,A,τ,ρ,G,n,h,⟨bs,e1,hw⟩=>by
  have hh:=hi _ _ _ _ _ h;cases hh with
  |cons hx hr=>
   rename_i x items;obtain ⟨ts,bd,kg⟩:=pg.ok hx e1;refine ⟨hs _ _ _ _ _ h,kg _ _ _ ?_⟩;obtain ⟨A',h'⟩:=h.puts bd λp hp=>hl _ (pg.at' e1 p hp);have hi':∀ A τ ρ G n,RL l a z0 D G0 A τ ρ G n->Dqs (rs (AD D A) G) items ds:=λA τ ρ G n h=>by
    have:=hi _ _ _ _ _ h;cases this with
    |cons a b=>exact b
   refine pb.ok h' hw λo m hq=>?_;cases o with
   |nx ρ'=>exact λA2 τ2 G2 h2=>RI pg pb hl hs k ds items hi' _ _ _ _ _ h2 hq
   |ct ρ'=>exact λA2 τ2 G2 h2=>RI pg pb hl hs k ds items hi' _ _ _ _ _ h2 hq
   |bk ρ'=>exact k _ _ hq
   |rt d fr=>exact k _ _ hq
def RL.base {a:Addr} {z0:Option (Option T)×Nat} {D:Addr->Prop} {G0 Gb G:Gp} {A:Nat->Option Addr} {τ:St3} {ρ:Rho} {n:Nat} (h:RL l a z0 D Gb A τ ρ G n) (e:Ex G0 Gb) (hd:Dom D G0):RL l a z0 D G0 A τ ρ G n:=⟨h.r.base e hd,h.al,h.tl,h.ul,h.lf,h.tz⟩
def qch.base {a:Addr} {z0:Option (Option T)×Nat} {D:Addr->Prop} {G0 Gb:Gp} {e:Ends3} {o:Ot} {n:Nat} (h:qch l a z0 D G0 e o n) (x:Ex G0 Gb) (hd:Dom D G0):qch l a z0 D Gb e o n:=by
 cases o with
 |nx ρ=>exact λA τ G r=>h A τ G (r.base x hd)
 |bk ρ=>exact λA τ G r=>h A τ G (r.base x hd)
 |ct ρ=>exact λA τ G r=>h A τ G (r.base x hd)
 |rt d fr=>exact λy G p q r z=>h y G (x.trans p) q r λw=>(z w).back x
def qiE {wi:TI3} {g:TG3} {tb:TS3} (pi:PwI l wi) (pg:PuG g) (pb:PwS l tb) (m:List Bool) (hm:Tru (pi.fv.all (mkb m))) (hl:Tru (!mkb m l&&pg.tg.all (λi=>i != l&&i != 0))):PwS l (DP wi g tb):=⟨λρ n Q=>pi.w ρ n λds n1=>qcJ pg.f pb.w ds (if pi.nm then ρ else dm m ρ) n1 Q,λh k=>pi.mono h λd m h=>WL pg pb h k,λ{a z0 D G0 A τ ρ G n e Q} h hw k=>by
 have hl':mkb m l=false/\∀ i∈pg.tg,i≠l/\i≠0:=by simpa using hl.h
 refine pi.ok (h.ln hl'.1 hm) hw λitems stay ds G1 n1 hq E1 L1 D1 hs hnm=>?_;cases hb:pi.nm with
 |true=>
  rw [hb,if_pos rfl] at hq;obtain ⟨ns,rfl⟩:=hnm hb;have:=D1.ints;subst this;exact RI pg pb hl'.2 (λ_ _ _ _ _ _=>hs _ (.inl hb)) k _ _ (λA τ ρ G _ _=>Dqs.ofInts _) _ _ _ _ _ (h.up E1 L1) hq
 |false=>
  rw [hb,if_neg Bool.false_ne_true] at hq;have h1:=(h.dem hl'.1).up E1 L1;have b1:Ex G0 (rs (λb=>∃ i,Ad m A i=some b) G1):=λb o e=>by
   rw [QH]
   ·exact h1.r.ex _ _ e
   ·rintro ⟨i,z⟩;rw [h1.r.fr i _ z] at e;cases e
  have h2:RL l a z0 D (rs (λb=>∃ i,Ad m A i=some b) G1) (Ad m A) τ (dm m ρ) G1 n1:=⟨⟨JX,h.r.dm.up b1,λi p z=>by unfold rs;exact zI ⟨i,z⟩,h1.r.da,h1.r.inj,h1.r.len,h1.r.sh,h1.r.ow⟩,h1.al,h1.tl,h1.ul,h1.lf,h1.tz⟩
  have X:∀ A2 τ2 ρ2 G2,RS D (rs (λb=>∃ i,Ad m A i=some b) G1) A2 τ2 ρ2 G2->Ex (rs (AD D (Ad m A)) G1) (rs (AD D A2) G2):=λA2 τ2 ρ2 G2 r b o e=>by
   obtain ⟨n1,e⟩:=qZ e;have eb:rs (λb=>∃ i,Ad m A i=some b) G1 b=some o:=by rw [QH (λz=>n1 (.inr z))];exact e
   rw [QH]
   ·exact r.ex _ _ eb
   ·rintro (z|⟨i,z⟩)
    ·exact n1 (.inl z)
    ·rw [r.fr i _ z] at eb;cases eb
  exact RI pg pb hl'.2 (λA2 τ2 ρ2 G2 n2 r=>hs _ (.inr ((X _ _ _ _ r.r).trans JX))) (λo m hq=>(k o m hq).base b1 h.r.dm) _ _ (λA2 τ2 ρ2 G2 n2 r=>D1.up (X _ _ _ _ r.r)) _ _ _ _ _ h2 hq⟩
end
def DSp (W:List PyData->Nat->QD->Prop) (fr:Bool):Sp3:=λts G q=>∃ (D:Addr->Prop) (a:Addr) (n:Nat) (ts':List T) (ds:List PyData) (Q:QD),ts=.ref a::ts'/\Lf G a n/\D a/\Dom D G/\Dqs (rs D G) ts' ds/\W ds n Q/\∀ x d G' n',Q d n'->Ext a G G'->Lf G' a n'->Dq (rs D G') x d->(fr=true->Nw D G G' x d)->q x G'
structure Wm where
 W:List PyData->Nat->QD->Prop
 mono:∀ {ds n} {Q Q':QD},W ds n Q->(∀ d m,Q d m->Q' d m)->W ds n Q'
def dSp (w:Wm) (fr:Bool):DrD (DSp w.W fr):=⟨w.W,fr,w.mono,λ{D G a n ts ds q Q} lf da hd hs hw k=>⟨D,a,n,ts,ds,Q,rfl,lf,da,hd,hs,hw,k⟩⟩
def qgn (fr:Bool) (Q:QD):QO:=λo n=>match o with
 |.rt d b=>(fr=true->b=true)/\∃ m,n<=m/\Q d m
 |.nx _=>fr=false/\∃ m,n<=m/\Q .none m
 |_=>False
def qhM {t:TS3} (b:PwS 0 t) (k N:Nat) (fr:Bool):Wm:=⟨λds n Q=>ds.length+1=k/\b.w (.un::(ds.map Sl.sh++List.replicate (N-(ds.length+1)) .un)) n (qgn fr Q),λ⟨h1,h2⟩ k=>⟨h1,b.mono h2 λo m h=>by
 cases o with
 |rt d f=>obtain ⟨h1,m,h2,h3⟩:=h;exact ⟨h1,m,h2,k _ _ h3⟩
 |nx ρ=>obtain ⟨h1,m,h2,h3⟩:=h;exact ⟨h1,m,h2,k _ _ h3⟩
 |bk ρ=>exact h
 |ct ρ=>exact h⟩⟩
def W4 {t:TS3} (b:PwS 0 t) (N:List Str) (k:Nat) (fr:Bool):∀ ts G q,DSp (qhM b k N.length fr).W fr ts G q->ts.length=k/\t { nx:=λ_ G'=>q .non G',rt:=q } (qu N ts) G:=by
 rintro ts G q ⟨D,a,n,ts',ds,Q,rfl,lf,da,hd,hs,⟨hk,hw⟩,h⟩;refine ⟨by simp [hs.length];omega,?_⟩;have DD:∀ b,(D b/\b≠a)\/b=a↔D b:=λb=>by
  by_cases e:b=a
  ·subst e;simp [da]
  ·simp [e]
 have rr:∀ H,rs (λb=>(D b/\b≠a)\/b=a) H=rs D H:=λH=>by
  have:(λb=>(D b/\b≠a)\/b=a)=D:=funext λb=>propext (DD b);rw [this]
 have ad:AD (λb=>D b/\b≠a) (λi=>if i=0 then some a else none)=D:=funext λb=>propext ⟨(λz=>by
   rcases z with z|⟨i,z⟩
   ·exact z.1
   ·simp only at z;split at z
    ·cases z;exact da
    ·cases z),(λz=>by
   by_cases e:b=a
   ·subst e;exact .inr ⟨0,rfl⟩
   ·exact .inl ⟨z,e⟩)⟩
 have ga:G a≠none:=W2 lf;have r:RL 0 a (some (some (.ref a)),(qu N (.ref a::ts')).length) (λb=>D b/\b≠a) (rs (λb=>b=a) G) (λi=>if i=0 then some a else none) (qu N (.ref a::ts')) (.un::(ds.map Sl.sh++List.replicate (N.length-(ds.length+1)) .un)) G n:=by
  refine ⟨⟨JX,λb hb=>by rw [QH (D:=λb=>b=a) hb.2];exact hd b hb.1,λi p e=>?_,λi p e=>?_,λi j p e e'=>?_,by simp [qu,hs.length],λi d' e=>?_,λi es e=>?_⟩,rfl,by simp [qu],rfl,lf,⟨by simp [qu],rfl⟩⟩
  ·split at e
   ·cases e;unfold rs;exact zI rfl
   ·cases e
  ·split at e
   ·cases e;exact ga
   ·cases e
  ·split at e
   ·split at e'
    ·rename_i h1 h2;rw [h1,h2]
    ·cases e'
   ·cases e
  ·rw [ad];cases i with
   |zero=>cases e
   |succ i=>
    rw [getElem?_cons_succ] at e;by_cases hi:i<ds.length
    ·rw [List.getElem?_append_left (by simpa using hi),getElem?_map] at e;obtain ⟨d2,e3,e4⟩:=Option.map_eq_some_iff.mp e;cases e4;obtain ⟨x,e5,hx⟩:=hs.get e3;refine ⟨x,?_,hx⟩;unfold qu;rw [List.getElem?_append_left (by simp [hs.length];exact hi),getElem?_map,getElem?_cons_succ,e5];rfl
    ·rw [List.getElem?_append_right (by simpa using hi),List.getElem?_replicate] at e;split at e<;>cases e
  ·cases i with
   |zero=>cases e
   |succ i=>
    rw [getElem?_cons_succ] at e;by_cases hi:i<ds.length
    ·rw [List.getElem?_append_left (by simpa using hi),getElem?_map] at e;obtain ⟨d2,e3,e4⟩:=Option.map_eq_some_iff.mp e;cases e4
    ·rw [List.getElem?_append_right (by simpa using hi),List.getElem?_replicate] at e;split at e<;>cases e
 have xe:∀ {G'},Ex (rs (λb=>b=a) G) G'->Ext a G G':=λe b o n x=>e b o (by rw [QH (D:=λb=>b=a) n];exact x);refine b.ok r hw λo m hq=>?_;cases o with
 |rt d f=>
  intro x G' E L Dx0 N;have Dx:=Dx0;rw [rr] at Dx;obtain ⟨hq1,m2,hm,hq2⟩:=hq;refine h x d G' m2 hq2 (xe E) (L.mono (by omega)) Dx λz=>?_;rcases N (hq1 z) with h2|⟨p,xs,ds',h1,h2,c,g,f'⟩
  ·exact .inl h2
  have np:p≠a:=by
   rintro rfl;rw [h1] at Dx0;cases Dx0 with
   |lst g0 _=>exact (qZ g0).1 (.inr rfl)
  refine .inr ⟨p,xs,ds',h1,h2,by rw [QH (D:=λb=>b=a) np] at c;exact c,g,f'.up (zX λb z=>?_)⟩;rcases z with z|z
  ·exact .inl ((DD b).mpr z)
  ·exact .inr z
 |nx ρ=>
  obtain ⟨hq1,m2,hm,hq2⟩:=hq;exact λA τ G' r'=>h .non .none G' m2 hq2 (xe r'.r.ex) (r'.lf.mono (by omega)) .non λz=>by rw [hq1] at z;cases z
 |bk ρ=>exact hq.elim
 |ct ρ=>exact hq.elim
end Pu
namespace Pu
open PySem L2 L3
open Bk (Lf Ext Dl Wk Dr)
def okW:QO:=λo _=>match o with|.nx _=>True|.ct _=>True|_=>False
def qoA (K:Int):TE3:=o3 zS (c3 (.int 1)) (cb3 qdp (qc (c3 (.int K)) (qc (cb3 UA (qc (v3 0) qi)) qi)))
def qjV {i:Nat} {τ:St3} {t:T} {G:Gp} {q:Q3} (h:τ[i]?=some (some t)):v3 i τ G q=q t G:=by unfold v3;rw [h]
def qov (K:Int) (R:TS3):TS3:=qO (DP (zz (qc (qoA K) qi)) (gn3 1) (qO (zg (cb3 Bk.J1 (qc (v3 0) (qc (v3 1) qi))) (gn3 2)) R)) (zd (c3 (.bl true)))
def qcU {R:TS3} (b:PwS 2 R) (N:List Str) (K:Int) (M:Nat) (hK:0<=K/\K<=60) (hN:N.length=M+3) (h:∀ k:Nat,k<=60->b.w ([.un,.sh (.int k),.un]++List.replicate M .un) 0 okW):∀ ts G q,CL ts G q->ts.length=1/\qov K R { nx:=λ_ G'=>q .non G',rt:=q } (qu N ts) G:=by
 rintro ts G q ⟨a,ns,rfl,hG,hl,hq⟩;refine ⟨rfl,?_⟩;have s0:(qu N [T.ref a])[0]?=some (some (.ref a)):=by simp [qu]
 have gl:getL G a=some (ns.map T.int):=by unfold getL;rw [hG]
 simp only [qov,qO,DP,zz,qoA,qc,qi,o3,c3,cb3,v3,s0,UA,gl,qdp,zS,length_map];have cnt:((1+(if ((ns.length:Nat):Int)<K then ((ns.length:Nat):Int) else K)).toNat)<=61:=by split<;>omega
 refine ⟨⟨by split<;>omega,by split<;>omega⟩,?_⟩;refine WO _ (λ_ τ G'=>G' a=some (.frz (ns.map T.int))/\τ[0]?=some (some (.ref a))/\τ.length=M+3) ⟨hG,s0,by simp [qu,hN]⟩ (λ_ _ _ _ _=>True.intro) ?_ ?_
 ·rintro i z τ G' nx hz ⟨gA,t0,tl⟩ hn;obtain ⟨hi,rfl⟩:=qbT hz;have hi2:i<=60:=by omega
  have t1:(τ.set 1 (some (T.int (0+(i:Int)))))[0]?=some (some (.ref a)):=by rw [getElem?_set,if_neg (by omega)];exact t0
  have t2:(τ.set 1 (some (T.int (0+(i:Int)))))[1]?=some (some (T.int (0+(i:Int)))):=by rw [getElem?_set,if_pos rfl,if_pos (by omega)]
  show v3 0 (τ.set 1 (some (T.int (0+(i:Int))))) G' (λx G1=>v3 1 (τ.set 1 (some (T.int (0+(i:Int))))) G1 λy G2=>Bk.J1 [x,y] G2 λz G3=>R _ ((τ.set 1 (some (T.int (0+(i:Int))))).set 2 (some z)) G3);rw [qjV t1,qjV t2];refine ⟨a,_,ns,rfl,gA,hl,by omega,by omega,λp o c hp ho=>?_⟩;have pa:a≠p:=by rintro rfl;rw [gA] at hp;cases hp
  have r:RL 2 p (some (some (.ref a)),M+3) (λ_=>False) G' (λj=>if j=2 then some p else none) ((τ.set 1 (some (T.int (0+(i:Int))))).set 2 (some (.ref p))) ([.un,.sh (.int i),.un]++List.replicate M .un) (gu G' p (.lst [.int o,.int c,.int 0])) 0:=by
   refine ⟨⟨DI hp,λb z=>z.elim,λj q e=>?_,λj q e=>?_,λj k q e e'=>?_,by simp [tl],λj d e=>?_,λj ds e=>?_⟩,rfl,by rw [getElem?_set,if_pos rfl,if_pos (by simp;omega)],rfl,⟨o,c,0,qT,ho,by omega,by omega⟩,⟨by rw [getElem?_set,if_neg (by omega)];exact t1,by simp [tl]⟩⟩
   ·split at e
    ·cases e;exact hp
    ·cases e
   ·split at e
    ·cases e;rw [qT];simp
    ·cases e
   ·split at e
    ·split at e'
     ·rename_i h1 h2;rw [h1,h2]
     ·cases e'
    ·cases e
   ·match j,e with
    |0,e=>cases e
    |1,e=>
     cases e;refine ⟨.int (0+(i:Int)),by rw [getElem?_set,if_neg (by omega)];exact t2,?_⟩;rw [Int.zero_add];exact .int _
    |2,e=>cases e
    |j+3,e=>
     simp only [cons_append,List.nil_append,getElem?_cons_succ,List.getElem?_replicate] at e;split at e<;>cases e
   ·match j,e with
    |0,e=>cases e
    |1,e=>cases e
    |2,e=>cases e
    |j+3,e=>
     simp only [cons_append,List.nil_append,getElem?_cons_succ,List.getElem?_replicate] at e;split at e<;>cases e
  refine b.ok r (h i hi2) λo' m ho'=>?_;cases o' with
  |nx ρ'=>exact λA τ' G2 r2=>hn _ _ ⟨r2.r.ex _ _ gA,r2.tz.1,r2.tz.2⟩
  |ct ρ'=>exact λA τ' G2 r2=>hn _ _ ⟨r2.r.ex _ _ gA,r2.tz.1,r2.tz.2⟩
  |bk ρ'=>exact ho'.elim
  |rt d f=>exact ho'.elim
 ·rintro τ G' ⟨gA,t0,tl⟩;exact hq G'
def SC {G:Gp} {ts:List T} (h:Dqs G ts []):ts=[]:=by cases h;rfl
def qn5 {G:Gp} {ts:List T} {i:Int} (h:Dqs G ts [.int i]):ts=[.int i]:=by
 cases h with
 |cons a b=>cases b;cases a;rfl
def lfc {G:Gp} {a:Addr} {n c:Nat} (h:Lf G a ((n:Int)+(c:Int))):Lf G a ((n+c:Nat):Int):=by rw [Int.natCast_add];exact h
def VZ:DrD Bk.qF:=⟨λds n Q=>∃ m:Int,ds=[.int m]/\(1<=m/\m<1073741824)/\n<1000000000/\∀ d:Int,0<=d->d<m->Q (.int d) (n+1),false,
 λ⟨m,h1,h2,h3,h4⟩ k=>⟨m,h1,h2,h3,λd x y=>k _ _ (h4 d x y)⟩,λ{D G a n ts ds q Q} lf da hd hs ⟨m,h1,h2,h3,h4⟩ k=>by
 subst h1;have:=qn5 hs;subst this;exact ⟨a,n,m,rfl,h2.1,h2.2,lf,by omega,λd G' x y L E=>k _ _ G' (n+1) (h4 d x y) E (lfc (c:=1) L) (.int d) (λz=>by cases z)⟩⟩
def ql3:DrD Bk.jO:=⟨λds n Q=>ds=[]/\n<10000000/\∀ m:Nat,1<=m->m<=16->Q (.int m) (n+2),false,
 λ⟨h1,h3,h4⟩ k=>⟨h1,h3,λd x y=>k _ _ (h4 d x y)⟩,λ{D G a n ts ds q Q} lf da hd hs ⟨h1,h3,h4⟩ k=>by
 subst h1;have:=SC hs;subst this;exact ⟨a,n,rfl,lf,by omega,λd G' x y L E=>k _ _ G' (n+2) (h4 d x y) E (lfc (c:=2) L) (.int _) (λz=>by cases z)⟩⟩
def qgl:DrD Bk.JR:=⟨λds n Q=>ds=[]/\n<1000000/\∀ w:Wk,w.Ok->Q (Pv.Wk.d w) (n+60),false,
 λ⟨h1,h3,h4⟩ k=>⟨h1,h3,λw x=>k _ _ (h4 w x)⟩,λ{D G a n ts ds q Q} lf da hd hs ⟨h1,h3,h4⟩ k=>by
 subst h1;have:=SC hs;subst this;exact ⟨a,n,rfl,lf,by omega,λw G' x L E=>k _ _ G' (n+60) (h4 w x) E (lfc (c:=60) L) (Pv.qnF _ w) (λz=>by cases z)⟩⟩
def qdV:DrD Bk.jY:=⟨λds n Q=>ds=[]/\n<10000000/\∀ r c:Int,1<=r/\r<=16->1<=c/\c<=16->Q (.tuple [.int r,.int c]) (n+4),false,
 λ⟨h1,h3,h4⟩ k=>⟨h1,h3,λr c x y=>k _ _ (h4 r c x y)⟩,λ{D G a n ts ds q Q} lf da hd hs ⟨h1,h3,h4⟩ k=>by
 subst h1;have:=SC hs;subst this;exact ⟨a,n,rfl,lf,by omega,λr c G' a1 a2 a3 a4 L E=>k _ _ G' (n+4) (h4 r c ⟨a1,a2⟩ ⟨a3,a4⟩) E (lfc (c:=4) L) (.tup (.cons (.int _) (.cons (.int _) .nil))) (λz=>by cases z)⟩⟩
def qfH:DrD Bk.ZK:=⟨λds n Q=>ds=[]/\n<1000000/\∀ r c b p,Dr (.rests r c b p) 16 16 32->Q (Pv.dlD (.rests r c b p)) (n+10),false,
 λ⟨h1,h3,h4⟩ k=>⟨h1,h3,λr c b x z=>k _ _ (h4 r c b x z)⟩,λ{D G a n ts ds q Q} lf da hd hs ⟨h1,h3,h4⟩ k=>by
 subst h1;have:=SC hs;subst this;exact ⟨a,n,rfl,lf,by omega,λr c b x G' a1 L E=>k _ _ G' (n+10) (h4 r c b x a1) E (lfc (c:=10) L) (Pv.qgt _ _) (λz=>by cases z)⟩⟩
def qjx {l:Nat} {t:TE3} {b:PuE t}:(eOf (l:=l) b).w=λρ n Q=>∃ d,b.f ρ=some d/\Q d n:=id rfl
def ql4 {l:Nat} {t:TT3} {b:PuC t}:(cOf (l:=l) b).w=λρ n Q=>∃ d,b.f ρ=some d/\Q d n:=id rfl
def qi5 {l:Nat} {t:TA3} {b:PuA t}:(aOf (l:=l) b).w=λρ n Q=>∃ d,b.f ρ=some d/\Q d n:=id rfl
def qim {l:Nat} {t:TI3} {b:PuI t}:(iOf (l:=l) b).w=λρ n Q=>∃ d,b.f ρ=some d/\Q d n:=id rfl
def qo6 {l:Nat} {r:R3} {ta tb:TE3} {R:OpD r} {a:PwE l ta} {b:PwE l tb}:(eO R a b).w=λρ n Q=>a.w ρ n λx n1=>b.w ρ n1 λy n2=>∃ v,R.f x y=some v/\Q v n2:=id rfl
def qbZ {l:Nat} {ta:TE3} {tr:TA3} {a:PwE l ta} {r:PwA l tr}:(U2 a r).w=λρ n Q=>a.w ρ n λx n1=>r.w ρ n1 λxs n2=>Q (x::xs) n2:=id rfl
def qfb {l:Nat} {t:TA3} {b:PwA l t} {hn:Tru (Nat.ble b.k 1000)}:(qmA b hn).w=λρ n Q=>b.w ρ n λxs n1=>Q (.tuple xs) n1:=id rfl
def qlC {l:Nat} {r:List T->Gp->Q3->Prop} {t:TA3} {R:DrD r} {b:PwA l t}:(eDr R b).w=λρ n Q=>b.w ρ n λxs n1=>R.W xs n1 Q:=id rfl
def qkE {l:Nat} {t:TE3} {b:PwE l t}:(cTb b).w=λρ n Q=>b.w ρ n λd n1=>∃ k,asB d=some k/\Q k n1:=id rfl
def qkZ {l:Nat} {t u:TT3} {a:PwC l t} {b:PwC l u}:(cOr a b).w=λρ n Q=>a.w ρ n λk n1=>if k then Q true n1 else b.w ρ n1 Q:=id rfl
def qfu {l:Nat} {t:TT3} {a:PwC l t}:(qoP a).w=λρ n Q=>a.w ρ n λk n1=>Q (!k) n1:=id rfl
def qij {l:Nat} {t:TT3} {ta tb:TE3} {c:PwC l t} {a:PwE l ta} {b:PwE l tb}:(eIf c a b).w=λρ n Q=>c.w ρ n λk n1=>if k then a.w ρ n1 Q else b.w ρ n1 Q:=id rfl
def qfc {l:Nat} {t:TI3} {b:PuI t}:(iOf (l:=l) b).nm=b.nm:=id rfl
def qdP {l:Nat} {t:TE3} {b:PuE t}:(eOf (l:=l) b).nw=b.nw:=id rfl
def qmg {l:Nat} {r:R3} {ta tb:TE3} {R:OpD r} {a:PwE l ta} {b:PwE l tb}:(eO R a b).nw=R.nw:=id rfl
def qbc {l:Nat} {t:TA3} {b:PwA l t} {hn:Tru (Nat.ble b.k 1000)}:(qmA b hn).nw=false:=id rfl
def qfg {l:Nat} {r:List T->Gp->Q3->Prop} {t:TA3} {R:DrD r} {b:PwA l t}:(eDr R b).nw=R.nw:=id rfl
def qfm {l:Nat} {t:TT3} {ta tb:TE3} {c:PwC l t} {a:PwE l ta} {b:PwE l tb}:(eIf c a b).nw=false:=id rfl
def qa9 {l:Nat}:(TN (l:=l)).w=λρ n Q=>Q (.nx ρ) n:=id rfl
def qem {l:Nat} {t u:TS3} {x:PwS l t} {y:PwS l u}:(ES x y).w=λρ n Q=>x.w ρ n (sqw y.w Q):=id rfl
def qey {b:Rho->Nat->QO->Prop} {Q:QO} {ρ:Rho} {n:Nat}:sqw b Q (.nx ρ) n=b ρ n Q:=id rfl
def qdQ {b:Rho->Nat->QO->Prop} {Q:QO} {d:PyData} {f:Bool} {n:Nat}:sqw b Q (.rt d f) n=Q (.rt d f) n:=id rfl
def qjh {l:Nat} {c:TT3} {t u:TS3} {pc:PwC l c} {x:PwS l t} {y:PwS l u}:(wIf pc x y).w=λρ n Q=>pc.w ρ n λk n1=>if k then x.w ρ n1 Q else y.w ρ n1 Q:=id rfl
def qeA {l:Nat} {t:TE3} {x:PwE l t}:(qaH x).w=λρ n Q=>x.w ρ n λd n1=>Q (.rt d x.nw) n1:=id rfl
def qap {l:Nat} {i:Nat}:(qiz (l:=l) i).w=λρ n Q=>∃ d b,qcs ρ i=some (.rt d b)/\Q (.rt d b) n:=id rfl
def qex {l:Nat} {t:TE3} {x:PwE l t} {i:Nat} {m:List Bool} {hm:Tru (x.fv.all (mkb m))} {hl:Tru (!mkb m l&&(i != l&&i != 0))}:(LP x i m hm hl).w=λρ n Q=>x.w ρ n λd n1=>Q (.nx (NR m x.nw i d ρ)) n1:=id rfl
def qbd {l:Nat} {t:TE3} {g:TG3} {x:PwE l t} {pg:PuG g} {m:List Bool} {hm:Tru (x.fv.all (mkb m))} {hl:Tru (!mkb m l&&pg.tg.all (λi=>i != l&&i != 0))}:(qde x pg m hm hl).w=λρ n Q=>x.w ρ n λd n1=>∃ bs,pg.f d=some bs/\Q (.nx (ZJ (dm m ρ) bs)) n1:=id rfl
def qeE {l:Nat} {t:TA3} {x:PwA l t} {i j:Nat} {m:List Bool} {hm:Tru (x.fv.all (mkb m))} {hl:Tru (!mkb m l&&((i != l&&i != 0)&&(j != l&&j != 0)))}:(qmq x i j m hm hl).w=λρ n Q=>x.w ρ n λds n1=>∃ o,qdd i j m ds ρ=some o/\Q o n1:=id rfl
def qdZ {l:Nat} {wi:TI3} {g:TG3} {tb:TS3} {pi:PwI l wi} {pg:PuG g} {pb:PwS l tb} {m:List Bool} {hm:Tru (pi.fv.all (mkb m))} {hl:Tru (!mkb m l&&pg.tg.all (λi=>i != l&&i != 0))}:(qiE pi pg pb m hm hl).w=λρ n Q=>pi.w ρ n λds n1=>qcJ pg.f pb.w ds (if pi.nm then ρ else dm m ρ) n1 Q:=id rfl
def qbq {ds:List PyData} {n:Nat} {Q:QD}:VZ.W ds n Q=(∃ m:Int,ds=[.int m]/\(1<=m/\m<1073741824)/\n<1000000000/\∀ d:Int,0<=d->d<m->Q (.int d) (n+1)):=id rfl
def qci {ds:List PyData} {n:Nat} {Q:QD}:ql3.W ds n Q=(ds=[]/\n<10000000/\∀ m:Nat,1<=m->m<=16->Q (.int m) (n+2)):=id rfl
def qbU {ds:List PyData} {n:Nat} {Q:QD}:qgl.W ds n Q=(ds=[]/\n<1000000/\∀ w:Wk,w.Ok->Q (Pv.Wk.d w) (n+60)):=id rfl
def MX {ds:List PyData} {n:Nat} {Q:QD}:qdV.W ds n Q=(ds=[]/\n<10000000/\∀ r c:Int,1<=r/\r<=16->1<=c/\c<=16->Q (.tuple [.int r,.int c]) (n+4)):=id rfl
def M3 {ds:List PyData} {n:Nat} {Q:QD}:qfH.W ds n Q=(ds=[]/\n<1000000/\∀ r c b p,Dr (.rests r c b p) 16 16 32->Q (Pv.dlD (.rests r c b p)) (n+10)):=id rfl
def NC:qgl.nw=false:=id rfl
def qlg {w:Wm} {fr:Bool}:(dSp w fr).W=w.W:=id rfl
def qep {w:Wm} {fr:Bool}:(dSp w fr).nw=fr:=id rfl
def qa5 {Q:QD} {d:PyData} {b:Bool} {n:Nat}:qgn false Q (.rt d b) n=∃ m,n<=m/\Q d m:=propext ⟨λh=>h.2,λh=>⟨λz=>(Bool.false_ne_true z).elim,h⟩⟩
def qe6 {ρ:Rho} {n:Nat}:okW (.nx ρ) n=True:=id rfl
def qiN {α:Type} {v:α} {P:α->Prop}:(∃ d,some v=some d/\P d)=P v:=propext ⟨λ⟨d,h1,h2⟩=>by cases h1;exact h2,λh=>⟨v,rfl,h⟩⟩
def qek {v:Int} {P:Int->Prop}:(∃ m:Int,[PyData.int v]=[.int m]/\P m)=P v:=propext ⟨λ⟨d,h1,h2⟩=>by cases h1;exact h2,λh=>⟨v,rfl,h⟩⟩
def qku {d:PyData} {b:Bool} {P:PyData->Bool->Prop}:(∃ d' b',some (Ot.rt d b)=some (.rt d' b')/\P d' b')=P d b:=propext ⟨λ⟨x,y,h1,h2⟩=>by cases h1;exact h2,λh=>⟨d,b,rfl,h⟩⟩
def qd0 {m:List Bool} {nw:Bool} {i:Nat} {d:Dl} {ρ:Rho}:NR m nw i (Pv.dlD d) ρ=(dm m ρ).set i (.sh (Pv.dlD d)):=by cases d<;>exact qcY
def qeG {m:List Bool} {nw:Bool} {i:Nat} {w:Wk} {ρ:Rho}:NR m nw i (Pv.Wk.d w) ρ=(dm m ρ).set i (.sh (Pv.Wk.d w)):=by cases w<;>exact qcY
def Z4 {l:Nat} {t u:TS3} {x:PwS l t} {y:PwS l u} {ρ:Rho} {n:Nat} {Q:QO} (h:∀ Y:Rho->Nat->QO->Prop,Y=y.w->x.w ρ n (sqw Y Q)):(ES x y).w ρ n Q:=h _ rfl
def MC {ks:List Int} {d:Int} {P:PyData->Prop} (h0:0<=d) (h1:d<(ks.length:Int)) (h:∀ k∈ks,P (.int k)):∃ v,L2.atI (ks.map PyData.int) d=some v/\P v:=by
 obtain ⟨i,rfl⟩:=Int.eq_ofNat_of_zero_le h0;have hi:i<ks.length:=by omega
 refine ⟨.int ks[i],?_,h _ (List.getElem_mem hi)⟩;have:=atN (xs:=ks.map PyData.int) (k:=i) (by simpa using hi);rw [getElem?_map,getElem?_eq_getElem hi] at this;exact this
structure Mn (bw:Rho->Nat->QO->Prop):Prop where
 h:∀ ρ n (Q Q':QO),bw ρ n Q->(∀ o m,Q o m->Q' o m)->bw ρ n Q'
def PwS.mn {l:Nat} {t:TS3} (b:PwS l t):Mn b.w:=⟨λ_ _ _ _ h k=>b.mono h k⟩
section
variable {l:Nat} {g:TG3} {tb:TS3}
def DX {gf:PyData->Option (List (Nat×PyData))} {bw:Rho->Nat->QO->Prop} {α:Type} {f:α->PyData} (xs:List α) (mono:Mn bw) (I:Nat->Rho->Nat->Prop) {ρ:Rho} {n:Nat} {Q:QO} (h0:I 0 ρ n)
  (hs:∀ i x ρ n,xs[i]?=some x->I i ρ n->∃ bs,gf (f x)=some bs/\bw (ZJ ρ bs) n λo m=>match o with|.nx ρ'=>I (i+1) ρ' m|.ct ρ'=>I (i+1) ρ' m|.bk ρ'=>Q (.nx ρ') m|.rt d b=>Q (.rt d b) m)
  (k:∀ ρ n,I xs.length ρ n->Q (.nx ρ) n):qcJ gf bw (xs.map f) ρ n Q:=by
 have key:∀ (r:List α) (i:Nat) (ρ:Rho) (n:Nat),xs.drop i=r->i<=xs.length->I i ρ n->qcJ gf bw (r.map f) ρ n Q:=by
  intro r;induction r with
  |nil=>
   intro i ρ n e hi h;have:i=xs.length:=by
    have:=congrArg List.length e;simp at this;omega
   subst this;exact k ρ n h
  |cons x r ih=>
   intro i ρ n e hi h;have hl:i<xs.length:=by
    have:=congrArg List.length e;simp at this;omega
   have e':=List.drop_eq_getElem_cons hl;rw [e] at e';injection e' with e1 e2;obtain ⟨bs,h1,h2⟩:=hs i x ρ n (by rw [getElem?_eq_getElem hl,e1]) h;refine ⟨bs,h1,mono.h _ _ _ _ h2 λo m h=>?_⟩;cases o with
   |nx ρ'=>exact ih (i+1) ρ' m e2.symm hl h
   |ct ρ'=>exact ih (i+1) ρ' m e2.symm hl h
   |bk ρ'=>exact h
   |rt d b=>exact h
 exact key xs 0 ρ n (by simp) (Nat.zero_le _) h0
end
def qah {α β:Type} {x:α} {f:α->Option β}:(some x).bind f=f x:=id rfl
def qd6 {α β:Type} {x:α} {f:α->β}:(some x).map f=some (f x):=id rfl
def qle {α:Type} {x:α} {r:List α}:(x::r).length=r.length+1:=id rfl
def qjv {α:Type}:([]:List α).length=0:=id rfl
def qkl {α:Type} {x y:α} {r:List α}:(x::r).set 0 y=y::r:=id rfl
def qk3 {α:Type} {x y:α} {r:List α} {i:Nat}:(x::r).set (i+1) y=x::r.set i y:=id rfl
def qit {α:Type} {r:List α}:r++[]=r:=List.append_nil r
def qlE {α:Type} {x:α} {r s:List α}:(x::r)++s=x::(r++s):=id rfl
def qhY {α:Type} {s:List α}:[]++s=s:=id rfl
def qjO {n:Nat}:0+n=n:=Nat.zero_add n
def qkI {p:Prop}:(True/\p)=p:=true_and p
def qiB {α:Type} {a b:α} {i:Decidable True}:@ite α True i a b=a:=if_pos trivial
def qkN {α:Type} {a b:α} {i:Decidable False}:@ite α False i a b=b:=if_neg not_false
def qkx:(false=true)=False:=Bool.false_eq_true
def qik:(!true)=false:=id rfl
def qkD:(!false)=true:=id rfl
def qir {i:Decidable True}:@decide True i=true:=decide_true i
def qhX {i:Decidable False}:@decide False i=false:=decide_false i
def qjX {b:Bool}:(b||true)=true:=Bool.or_true b
def qkR {b:Bool}:(true||b)=true:=Bool.true_or b
def qlu {b:Bool}:(b||false)=b:=Bool.or_false b
def qi2 {b:Bool}:(true&&b)=b:=Bool.true_and b
def qlR {b:Bool}:(false&&b)=false:=Bool.false_and b
def qiO {b:Bool}:(b&&false)=false:=Bool.and_false b
def ai{a b:Prop}(x:a)(y:b):a/\b:=⟨x,y⟩
def pwA:=(ai (ai (ai (ai (ai (ai (ai @Pu.qjx (ai @Pu.ql4 @Pu.qi5)) (ai @Pu.qim (ai @Pu.qo6 @Pu.qbZ))) (ai (ai @Pu.qfb (ai @Pu.qlC @Pu.qkE)) (ai (ai @Pu.qkZ @Pu.qfu) (ai @Pu.qij @Pu.qfc)))) (ai (ai (ai @Pu.qdP (ai @Pu.qmg @Pu.qbc)) (ai @Pu.qfg (ai @Pu.qfm @Pu.qa9))) (ai (ai @Pu.qem (ai @Pu.qey @Pu.qdQ)) (ai (ai @Pu.qjh @Pu.qeA) (ai @Pu.qap @Pu.qex))))) (ai (ai (ai (ai @Pu.qbd (ai @Pu.qeE @Pu.qdZ)) (ai @Pu.qbq (ai @Pu.qci @Pu.qbU))) (ai (ai @Pu.MX (ai @Pu.M3 @Pu.NC)) (ai (ai @Pu.qlg @Pu.qep) (ai @Pu.qa5 @Pu.qe6)))) (ai (ai (ai @Pu.qek (ai @Pu.qku @Pu.qd0)) (ai (ai @Pu.qeG @Pu.qh5) (ai @Pu.qpe @Pu.qew))) (ai (ai @Pu.qh1 (ai @Pu.qfi @Pu.qe9)) (ai (ai @Pu.qoR @Pu.qfI) (ai @Pu.qau @Pu.qd1)))))) (ai (ai (ai (ai (ai @Pu.qfA (ai @Pu.qbl @Pu.qlh)) (ai @Pu.qfq (ai @Pu.qlJ @Pu.qeT))) (ai (ai @Pu.qk2 (ai @Pu.qao @Pu.qjc)) (ai (ai @Pu.qeB @Pu.qjT) (ai @Pu.qjy @Pu.qiy)))) (ai (ai (ai @Pu.qcj (ai @Pu.qaj @Pu.qbz)) (ai @Pu.qkL (ai @Pu.qeZ @Pu.qeo))) (ai (ai @Pu.qeY (ai @Pu.qeC @Pu.qeg)) (ai (ai @Pu.qe8 @Pu.qdA) (ai @Pu.qbV @Pu.qan))))) (ai (ai (ai (ai @Pu.qaV (ai @Pu.qin @Pu.qlS)) (ai @Pu.qkC (ai @Pu.qd4 @Pu.qa3))) (ai (ai @Pu.qd7 (ai @Pu.qbJ @Pu.qe3)) (ai (ai @Pu.qb3 @Pu.qdF) (ai @Pu.qfB @Pu.qfF)))) (ai (ai (ai @Pu.qaL (ai @Pu.qak @Pu.qbN)) (ai (ai @Pu.qoy @Pu.qeN) (ai @Pu.qbr @Pu.qeq))) (ai (ai @Pu.qaZ (ai @Pu.qd2 @Pu.qjr)) (ai (ai @Pu.qd5 @Pu.qbC) (ai @Pu.qec @Pu.qbg))))))) (ai (ai (ai (ai (ai (ai @Pu.qdE (ai @Pu.qef @Pu.qea)) (ai @Pu.qeO (ai @Pu.qko @Pu.qaz))) (ai (ai @Pu.qel (ai @Pu.qaT @Pu.qlA)) (ai (ai @Pu.qaK @Pu.qbe) (ai @Pu.MN @Pu.M8)))) (ai (ai (ai @Pu.MJ (ai @Pu.qfh @Pu.qbX)) (ai @Pu.qet (ai @Pu.qeu @Pu.qbj))) (ai (ai @Pu.qbR (ai @Pu.qa1 @Pu.qbv)) (ai (ai @Pu.qaG @Pu.MI) (ai @Pu.MR @Pu.qe4))))) (ai (ai (ai (ai @Pu.qpd (ai @Pu.qoI @Pu.qkH)) (ai @Pu.qio (ai @Pu.qb6 @Pu.qbo))) (ai (ai @Pu.qeD (ai @Pu.qkY @Pu.qdy)) (ai (ai @Pu.at0 @Pu.at1) (ai @Pu.at2 @Pu.at3)))) (ai (ai (ai @Pu.at4 (ai @Pu.at5 @Pu.eqS)) (ai (ai @Pu.eqI @Pu.eqB) (ai @Pu.qoB @Pu.qes))) (ai (ai @Pu.qdI (ai @Pu.qfx @Pu.qaF)) (ai (ai @Pu.qe1 @Pu.qji) (ai @Pu.qk6 @Pu.qj1)))))) (ai (ai (ai (ai (ai @Pu.qdS (ai @Pu.NG @Pu.qdL)) (ai @Pu.qfG (ai @Pu.qdY @Pu.qez))) (ai (ai @Pu.qfE (ai @Pu.qdO @Pu.qje)) (ai (ai @Pu.qlb @Pu.qkM) (ai @Pu.qcY @Pu.qfd)))) (ai (ai (ai @Pu.qkJ (ai @Pu.qoL @Pu.qoZ)) (ai @Pu.qoC (ai @Pu.qlY @Pu.qjp))) (ai (ai @Pu.qjI (ai @Pu.ql0 @Pu.qiV)) (ai (ai @Pu.qoT @Pu.qkW) (ai @Pu.qeb @Pu.qen))))) (ai (ai (ai (ai @Pu.qfk (ai @Pu.qdK @Pu.qiN)) (ai @Pu.qah (ai @Pu.qd6 @Pu.qle))) (ai (ai @Pu.qjv (ai @Pu.qkl @Pu.qk3)) (ai (ai @Pu.qit @Pu.qlE) (ai @Pu.qhY @Pu.qjO)))) (ai (ai (ai @Pu.qkI (ai @Pu.qiB @Pu.qkN)) (ai (ai @Pu.qkx @Pu.qik) (ai @Pu.qkD @Pu.qir))) (ai (ai @Pu.qhX (ai @Pu.qjX @Pu.qkR)) (ai (ai @Pu.qlu @Pu.qi2) (ai @Pu.qlR @Pu.qiO))))))))
def the (S:PyData->Prop):Option PyData:=@dite _ (∃ v,S v) (Classical.propDecidable _) (λh=>some (Classical.choose h)) λ_=>none
end Pu
namespace Pu
open PySem L2 L3
def DZ {a m:Int} {n:Nat} (h:m∈zT a n):a<=m/\m<a+n:=by
 unfold zT at h;obtain ⟨i,hi,rfl⟩:=mem_map.mp h;have:=mem_range.mp hi;omega
def qmx:List PyData->Option PyData
 |[.int x,.int y]=>cif (0<=x/\0<=y) (some (.int (Int.gcd x y:Nat))) none
 |_=>none
def qo0:FnD Bk.JC:=⟨qmx,false,λ{D G xs ds v q} hx hd hf k=>by
 cases hx with
 |nil=>cases hf
 |cons a b=>
  cases b with
  |nil=>cases a<;>cases hf
  |cons b c=>
   cases c with
   |cons _ _=>cases a<;>cases b<;>cases hf
   |nil=>
    cases a<;>cases b<;>try (cases hf;done)
    rename_i x y;unfold qmx cif at hf;simp only at hf;split at hf
    ·rename_i z;cases hf;exact ⟨x,y,rfl,z.1,z.2,k _ _ Ex.refl (.int _) (λz=>by cases z)⟩
    ·cases hf⟩
def qdT:qo0.f=qmx:=id rfl
def gtD (d e:PyData):Option PyData:=match d,e with
 |.tuple [.int i,.int j],.tuple [.int k,.int l]=>some (.bool (HT.YA [i,j] [k,l]))
 |_,_=>none
def qoz {G:Gp} {xs:List T} {i j:Int} (h:Dqs G xs [.int i,.int j]):xs=[.int i,.int j]:=by
 cases h with
 |cons a h=>
  cases a;cases h with
  |cons a h=>cases a;cases h;rfl
def qf8:OpD qmt:=⟨gtD,false,λ{D G x y d e v q} hx hy hd hf k=>by
 unfold gtD at hf;split at hf
 ·cases hf;cases hx with
  |tup hs=>
   cases hy with
   |tup hs'=>
    rw [qoz hs,qoz hs'];exact k _ _ Ex.refl (.bl _) (λz=>by cases z)
 ·cases hf⟩
def R5:qf8.f=gtD:=id rfl
def D0:qf8.nw=false:=id rfl
def qcO {i j k l:Int}:gtD (.tuple [.int i,.int j]) (.tuple [.int k,.int l])=some (.bool (HT.YA [i,j] [k,l])):=id rfl
def KI (d:PyData):Option PyData:=match d with
 |.tuple ds=>(YU ds).bind λns=>cif (ns.length<4000) (some (.int (Z7 ns))) none
 |_=>none
def qdG {te:TE3} (a:PuE te):PuE (MQ te):=⟨λρ=>(a.f ρ).bind KI,a.fv,false,λhv hd hf k=>by
 obtain ⟨d,e1,hf⟩:=obb hf;refine a.ok hv hd e1 λx' G1 E1 D1 _=>?_;unfold KI at hf;cases D1 with
 |tup hs=>
  simp only at hf;obtain ⟨ns,en,hf⟩:=obb hf;unfold cif at hf;split at hf
  ·rename_i hl;cases hf;have:=VH en;subst this;have:=hs.ints;subst this;simp only [YF];exact ⟨hl,k _ _ E1 (.int _) (λz=>by cases z)⟩
  ·cases hf
 |_=>simp at hf⟩
def MK {te:TE3} {a:PuE te}:(qdG a).f=λρ=>(a.f ρ).bind KI:=id rfl
def qdw {xs:List Int} (h:xs.length<4000):KI (.tuple (xs.map PyData.int))=some (.int (Z7 xs)):=by simp only [KI,UO,Option.bind_some];exact zI h
end Pu
namespace Pv
open PySem L2 L3 Pu
open Bk (Wk qW q0 ZH lnD lnA Un2 Fst faO zN ju J4)
def jE {lo:Int} {n i:Nat} {x:Int} (h:(zT lo n)[i]?=some x):i<n/\x=lo+i:=by
 unfold zT at h;rw [getElem?_map] at h;obtain ⟨k,e1,e2⟩:=Option.map_eq_some_iff.mp h;obtain ⟨hl,hk⟩:=List.getElem?_eq_some_iff.mp e1;simp at hl hk;subst hk;exact ⟨hl,e2.symm⟩
def jG (lo:Int) (n:Nat):(zT lo n).length=n:=by simp [zT]
def XA {lo:Int} {n i:Nat} (h:i<n):(zT lo n)[i]?=some (lo+i):=by simp [zT,h]
def XM {d a:Int} {m:Nat} (hd:-1000<=d/\d<=1000) (ha:-1000<=a/\a<=1000) (hm:m<=10000):zL [.int d,.int a,.int m]=some (.list ((qW d a m).map pD)):=by
 rw [qar]
 try simp only [Pu.pwA,D6]
 rw [QI (ds:=(zT 0 m).map PyData.int) (fs:=(qW d a m).map pD)]
 ·try simp only [Pu.pwA]
 ·try simp (disch:=omega) only [Pu.pwA,SI,Int.toNat_natCast]
 ·have:qW d a m=(zT 0 m).map λi=>(i*d,i*a):=by simp [qW,zT,map_map,Function.comp_def]
  rw [this,map_map];refine zJ λi hi=>?_
  try simp (disch:=omega) only [Pu.pwA,ZM,DN,Function.comp_def,pD]
 ·simp [qW];omega
def Big:Wk->Prop
 |.line k m=>k<4/\m<=1000
 |.block h w=>h<=1000/\w<=1000
 |.step d a m=>(-1000<=d/\d<=1000)/\(-1000<=a/\a<=1000)/\m<=1000
 |.cells ps=>ps.length<=1000
def CC {w:Wk} (ok:Big w):qC [Wk.d w]=some (.list (w.pc.map pD)):=by
 cases w with
 |cells ps=>
  rw [JO]
  try simp only [Pu.pwA,jQ,Wk.d,eq_self,Wk.pc]
 |block h v=>
  obtain ⟨h1,h2⟩:=ok;rw [JO]
  try simp only [Pu.pwA,jQ,Wk.d,eq_self,L3.VS,Wk.pc]
  rw [L7 (ds:=(zT 0 h).map PyData.int) (fs:=(q0 h v).map pD)]
  ·try simp only [Pu.pwA]
  ·try simp (disch:=omega) only [Pu.pwA,SI,Int.toNat_natCast]
  ·have:(q0 h v).map pD=(zT 0 h).flatMap λp=>(zT 0 v).map λq=>pD (p,q):=by
    simp only [q0,zT,List.map_flatMap,map_map,List.flatMap_map,Function.comp_def,Int.zero_add]
   rw [this];refine CV λp hp=>?_
   try simp (disch:=omega) only [Pu.pwA,qaq,SI,Int.toNat_natCast]
   rw [zJ (k:=λq=>pD (p,q)) λq hq=>?_]
   ·try simp only [Pu.pwA]
   ·try simp only [Pu.pwA,ZM,pD]
  ·have:=Nat.mul_le_mul h1 h2;rw [length_map,Bk.jm];omega
 |step d a m=>
  obtain ⟨h1,h2,h3⟩:=ok;rw [JO]
  try simp only [Pu.pwA,jQ,Wk.d,eq_self,L3.US,L3.UJ,Wk.pc,XM h1 h2 (show m<=10000 by omega)]
 |line k m=>
  obtain ⟨h1,h2⟩:=ok;have key:∀ (s:Str) (d a:Int),¬ s=Str.ofString "cells" -> ¬ s=Str.ofString "block" -> ¬ s=Str.ofString "step" -> (-1000<=d/\d<=1000)->(-1000<=a/\a<=1000)->(jK UW s).bind tD=some (.tuple [.int d,.int a])->qC [.tuple [.str s,.int (m:Int)]]=some (.list ((qW d a m).map pD)):=by
   intro s d a n1 n2 n3 hd ha e;rw [JO]
   try simp only [Pu.pwA,jQ,n1,n2,n3,e,XM (d:=d) (a:=a) (m:=m) hd ha (by omega)]
  have:(k=0\/k=1\/k=2\/k=3):=by omega
  rcases this with rfl|rfl|rfl|rfl
  ·exact key "row" 0 1 L3.S7 L3.TZ L3.K1 (by decide) (by decide) rfl
  ·exact key "column" 1 0 L3.XB L3.XO L3.XT (by decide) (by decide) rfl
  ·exact key "slant" 1 1 L3.X6 L3.XX L3.RO (by decide) (by decide) rfl
  ·exact key "back" 1 (-1) L3.SF L3.RA L3.S8 (by decide) (by decide) rfl
def faD (ns:List Int):PyData:=match faO ns with|some (i,j)=>.tuple [.int i,.int j]|none=>.none
def qpB {ns:List Int} {x:PyData} (hl:ns.length<=1000000) (h1:qcQ [x]=some (.int ns.length)) (h2:∀ i,ixD x (.int i)=L2.atI (ns.map PyData.int) i):qJ [x]=some (faD ns):=by
 rw [XQ];have at':∀ i:Nat,i<ns.length->ixD x (.int (0+(i:Int)))=some (.int ((ns[i]?).getD 0)):=λi hi=>by
  rw [h2,Int.zero_add,atN (by simpa using hi),getElem?_map,getElem?_eq_getElem hi];rfl
 have at2:∀ i j:Nat,i+1+j<ns.length->ixD x (.int (0+(i:Int)+1+(j:Int)))=some (.int ((ns[i+1+j]?).getD 0)):=λi j hi=>by
  rw [h2,show (0+(i:Int)+1+(j:Int))=((i+1+j:Nat):Int) by omega,atN (by simpa using hi),getElem?_map,getElem?_eq_getElem hi];rfl
 have ne':∀ {a b:Nat},a<ns.length->b<ns.length->ns[a]?≠ns[b]?->(ns[a]?).getD 0≠(ns[b]?).getD 0:=λ{a b} ha hb hn e=>by
  rw [getElem?_eq_getElem ha,getElem?_eq_getElem hb] at hn e;exact hn (congrArg some e)
 try simp (disch:=omega) only [Pu.pwA,QN,h1,SI,Int.toNat_natCast]
 have tn:∀ i:Nat,((ns.length:Int)-(0+(i:Int)+1)).toNat=ns.length-(i+1):=λi=>by omega
 by_cases hu:Un2 ns ns.length
 ·refine E9 (Q:=λo=>YS false o=_) (zT 0 ns.length) (λ_ ρ=>∃ s1 s2,ρ=[.sh x,s1,s2]) ⟨_,_,rfl⟩ ?_ ?_
  ·rintro i z ρ hz ⟨s1,s2,rfl⟩;obtain ⟨hi,rfl⟩:=jE hz
   try simp (disch:=omega) only [Pu.pwA,h1,qcn,tn]
   refine UU (Q:=λo=>Nx o _) _ (λ_ ρ=>∃ s3,ρ=[.sh x,.sh (.int (0+(i:Int))),s3]) ⟨_,rfl⟩ ?_ ?_
   ·rintro j z ρ hz ⟨s3,rfl⟩;obtain ⟨hj,rfl⟩:=jE hz;have hj2:i+1+j<ns.length:=by omega
    have:=ne' hi hj2 (hu i _ hi (by omega) hj2)
    try simp only [Pu.pwA,at' i hi,at2 i j hj2,this]
    exact ⟨_,rfl⟩
   ·rintro ρ ⟨s3,rfl⟩
    try simp only [Pu.pwA]
    exact ⟨_,_,rfl⟩
  ·rintro ρ ⟨s1,s2,rfl⟩
   try simp only [Pu.pwA,faD,ju hu]
 ·obtain ⟨i,j,F⟩:=J4 hu;have hi:i<ns.length:=Nat.lt_trans F.ij F.jl;have jl:=F.jl;have ij:=F.ij;refine qhr (Q:=λo=>YS false o=_) (zT 0 ns.length) i (0+(i:Int)) (.tuple [.int i,.int j]) false (XA hi) (λ_ ρ=>∃ s1 s2,ρ=[.sh x,s1,s2]) ⟨_,_,rfl⟩ ?_ ?_ ?_
  ·rintro k z ρ hk hz ⟨s1,s2,rfl⟩;obtain ⟨hk2,rfl⟩:=jE hz
   try simp (disch:=omega) only [Pu.pwA,h1,qcn,tn]
   refine UU (Q:=λo=>Nx o _) _ (λ_ ρ=>∃ s3,ρ=[.sh x,.sh (.int (0+(k:Int))),s3]) ⟨_,rfl⟩ ?_ ?_
   ·rintro l z ρ hz ⟨s3,rfl⟩;obtain ⟨hj,rfl⟩:=jE hz;have hj2:k+1+l<ns.length:=by omega
    have:=ne' hk2 hj2 (F.un k _ hk (by omega) hj2)
    try simp only [Pu.pwA,at' k hk2,at2 k l hj2,this]
    exact ⟨_,rfl⟩
   ·rintro ρ ⟨s3,rfl⟩
    try simp only [Pu.pwA]
    exact ⟨_,_,rfl⟩
  ·rintro ρ ⟨s1,s2,rfl⟩
   try simp (disch:=omega) only [Pu.pwA,h1,qcn,tn]
   refine DQ (Q:=λo=>o=_) _ (j-(i+1)) (0+(i:Int)+1+((j-(i+1):Nat):Int)) (.tuple [.int i,.int j]) false (XA (by omega)) (λ_ ρ=>∃ s3,ρ=[.sh x,.sh (.int (0+(i:Int))),s3]) ⟨_,rfl⟩ ?_ ?_ rfl
   ·rintro l z ρ hl hz ⟨s3,rfl⟩;obtain ⟨hj,rfl⟩:=jE hz;have hj2:i+1+l<ns.length:=by omega
    have:=ne' hi hj2 (F.nb _ (by omega) (by omega))
    try simp only [Pu.pwA,at' i hi,at2 i l hj2,this]
    exact ⟨_,rfl⟩
   ·rintro ρ ⟨s3,rfl⟩;have hj2:i+1+(j-(i+1))<ns.length:=by omega
    have ej:i+1+(j-(i+1))=j:=by omega
    have e2:(ns[i]?).getD 0=(ns[i+1+(j-(i+1))]?).getD 0:=by rw [ej,F.eq]
    try simp only [Pu.pwA,at' i hi,at2 i _ hj2,e2]
    rw [show (0+(i:Int))=i by omega,show ((i:Int)+1+((j-(i+1):Nat):Int))=j by omega]
  ·try simp only [Pu.pwA,faD,zN F]
def qis {ns:List Int} (hl:ns.length<=1000000):qJ [.tuple (ns.map PyData.int)]=some (faD ns):=qpB hl (by simp [qcQ]) λ_=>rfl
end Pv
namespace Pv
open PySem L2 L3 Pu
open Bk (Wk Dl qW q0 ZH lnD lnA Un2 Fst faO zN ju J4)
def qjC {w:Wk} (ok:w.Ok):Big w:=by
 cases w with
 |line k m=>obtain ⟨h1,h2,h3⟩:=ok;exact ⟨h1,by omega⟩
 |block h v=>obtain ⟨h1,h2,h3,h4,h5⟩:=ok;exact ⟨by omega,by omega⟩
 |step d a m=>obtain ⟨h1,h2,h3,h4⟩:=ok;exact ⟨by omega,by omega,by omega⟩
 |cells ps=>have h:=ok.2.1;show ps.length<=1000;omega
def Pl:Dl->Prop
 |.skew ..=>True
 |.rests ..=>True
 |_=>False
def fA:Dl->Int
 |.skew _ _ _ x _=>x
 |.rests _ c _ _=>c
 |_=>0
def fB:Dl->Int
 |.skew _ _ _ _ y=>y
 |.rests ..=>1
 |_=>0
def qaw {d:Dl} (hp:Pl d) (ok:d.Ok):(0<=fA d/\fA d<=1000)/\(0<=fB d/\fB d<=1000)/\1<=d.B/\d.B<=1000:=by
 cases d<;>simp [Pl] at hp<;>simp [Dl.Ok] at ok<;>simp [fA,fB,Dl.B]<;>omega
def ql8 {d:Dl} (hp:Pl d):qs [dlD d]=some (.tuple [.int (fA d),.int (fB d)]):=by
 rw [RX];cases d<;>simp [Pl] at hp
 ·try simp only [Pu.pwA,j9,dlD,fA,fB,L3.RJ]
 ·try simp only [Pu.pwA,j9,dlD,fA,fB,eq_self]
def rst (B a b:Int) (cs:List (Int×Int)):List Int:=cs.map λp=>(a*p.1+b*p.2)%B
def XG (B a b:Int) (cs:List (Int×Int)):(rst B a b cs).length=cs.length:=by simp [rst]
def qbQ {w:Wk} (ok:Big w):w.pc.length<=1000000:=by
 cases w with
 |line k m=>simp only [Wk.pc,qW,length_map,length_range];have:=ok.2;omega
 |block h v=>simp only [Wk.pc,Bk.jm];exact Nat.mul_le_mul ok.1 ok.2
 |step d a m=>simp only [Wk.pc,qW,length_map,length_range];have:=ok.2.2;omega
 |cells ps=>have:ps.length<=1000:=ok;simp only [Wk.pc];omega
def qpZ {B a b:Int} {w:Wk} (hB:1<=B) (ha:0<=a/\a<=1000) (hb:0<=b/\b<=1000) (ok:Big w):zl [.int B,.tuple [.int a,.int b],Wk.d w]=some (.tuple ((rst B a b w.pc).map PyData.int)):=by
 rw [L6];have hl:=qbQ ok
 try simp only [Pu.pwA,Y7]
 rw [QI (ds:=w.pc.map pD) (fs:=(rst B a b w.pc).map PyData.int)]
 ·try simp only [Pu.pwA]
 ·try simp only [Pu.pwA,CC ok]
 ·rw [rst,map_map];refine zJ λp hp=>?_
  try simp (disch:=omega) only [Pu.pwA,ZM,pD,je,W8,Function.comp_def]
 ·simp [rst];omega
def qo4 {d:Dl} {w:Wk} (hp:Pl d) (okd:d.Ok) (ok:Big w):qP [dlD d,Wk.d w]=some (.tuple ((rst d.B (fA d) (fB d) w.pc).map PyData.int)):=by
 obtain ⟨h1,h2,h3,_⟩:=qaw hp okd;rw [LI];have e:∀ n:Nat,∃ xs,dlD d=.tuple xs/\L2.atI xs 3=some (.int d.B):=λ_=>by
  cases d<;>simp [Pl] at hp
  ·exact ⟨_,rfl,at3⟩
  ·exact ⟨_,rfl,at3⟩
 obtain ⟨xs,e1,e2⟩:=e 0;have e3:=ql8 hp;rw [e1] at e3 ⊢
 try simp only [Pu.pwA,VD,e2,e3,qpZ h3 h1 h2 ok]
def unB (ns:List Int):Bool:=(faO ns).isNone
def qk4 (ns:List Int):qmi false (faD ns) .none=some (.bool (unB ns)):=by
 unfold faD unB;cases faO ns with
 |none=>rfl
 |some p=>rfl
def qoH {d:Dl} {w:Wk} (hp:Pl d) (okd:d.Ok) (ok:Big w):qw [dlD d,Wk.d w]=some (.bool (unB (rst d.B (fA d) (fB d) w.pc))):=by
 rw [KJ];have hl:=qbQ ok
 try simp only [Pu.pwA,JP,qo4 hp okd ok,qis (ns:=rst d.B (fA d) (fB d) w.pc) (by rw [XG];omega),qk4]
def qlO {P:Nat->Prop} (h:∃ n,P n):∃ n,P n/\∀ m,m<n->¬ P m:=by
 obtain ⟨n,hn⟩:=h;induction n using Nat.strongRecOn with
 |_ n ih=>
  by_cases hx:∃ m,m<n/\P m
  ·obtain ⟨m,h1,h2⟩:=hx;exact ih m h1 h2
  ·exact ⟨n,hn,λm h1 h2=>hx ⟨m,h1,h2⟩⟩
def lst (P:Nat->Prop):Nat:=open Classical in if h:∃ n,P n then (qlO h).choose else 0
def qdB {P:Nat->Prop} (h:∃ n,P n):P (lst P)/\∀ m,m<lst P->¬ P m:=by
 unfold lst;rw [dif_pos h];exact (qlO h).choose_spec
def lo (B w:Int):Nat:=lst λn=>((n:Int)+1)*w%B=0
def qdt {B w:Int} (hB:1<=B):((lo B w:Int)+1)*w%B=0/\∀ m:Nat,m<lo B w->¬ ((m:Int)+1)*w%B=0:=qdB (P:=λn=>((n:Int)+1)*w%B=0) ⟨B.toNat-1,by
 have:((B.toNat-1:Nat):Int)+1=B:=by omega
 rw [this];exact Int.mul_emod_right B w⟩
def qlx {B w:Int} (hB:1<=B):(lo B w:Int)+1<=B:=by
 apply Classical.byContradiction;intro h;have h2:=(qdt (w:=w) hB).2 (B.toNat-1) (by omega);apply h2;have:((B.toNat-1:Nat):Int)+1=B:=by omega
 rw [this];exact Int.mul_emod_right B w
def qpa {d:Dl} (hp:Pl d):∃ xs,dlD d=.tuple xs/\L2.atI xs 3=some (.int d.B):=by
 cases d<;>simp [Pl] at hp
 ·exact ⟨_,rfl,at3⟩
 ·exact ⟨_,rfl,at3⟩
def qp0 {d:Dl} {u v:Int} (hp:Pl d) (ok:d.Ok) (hu:-1000<=u/\u<=1000) (hv:-1000<=v/\v<=1000):j7 [dlD d,.int u,.int v]=some (.int ((lo d.B (fA d*u+fB d*v):Int)+1)):=by
 obtain ⟨h1,h2,h3,h4⟩:=qaw hp ok;obtain ⟨xs,e1,e2⟩:=qpa hp;have e3:=ql8 hp;rw [NU];rw [e1] at e3 ⊢;have L:=qlx (w:=fA d*u+fB d*v) h3;have I:=qdt (w:=fA d*u+fB d*v) h3
 try simp only [Pu.pwA,UK,e3]
 refine qfn (Q:=λo=>YS false o=_) (lo d.B (fA d*u+fB d*v)) (by omega) (λi ρ=>ρ=[.sh (.tuple xs),.sh (.int u),.sh (.int v),.sh (.int (fA d)),.sh (.int (fB d)),.sh (.int ((i:Int)+1))]) rfl ?_ ?_ ?_ ?_
 ·rintro i ρ hi rfl;have:=I.2 i hi
  try simp (disch:=omega) only [Pu.pwA,e2,je,W8,this]
 ·rintro i ρ hi rfl
  try simp only [Pu.pwA,qfv (i:=5) (x:=(i:Int)+1) (y:=1) (ρ:=[.sh (.tuple xs),.sh (.int u),.sh (.int v),.sh (.int (fA d)),.sh (.int (fB d)),.sh (.int ((i:Int)+1))]) rfl,Int.natCast_add,Int.natCast_one]
 ·rintro ρ rfl
  try simp (disch:=omega) only [Pu.pwA,e2,je,W8,I.1]
 ·rintro ρ rfl
  try simp only [Pu.pwA]
def bU (B a b:Int) (h w:Nat):Prop:=unB (rst B a b (q0 h w))=true
def RU {ns:List Int}:unB ns=true↔Un2 ns ns.length:=by
 constructor
 ·intro h;apply Classical.byContradiction;intro hn;obtain ⟨i,j,F⟩:=J4 hn;unfold unB at h;rw [zN F] at h;cases h
 ·intro h;unfold unB;rw [ju h];rfl
def qat {ns:List Int} (h:Un2 ns ns.length):ns.Nodup:=by
 rw [List.Nodup,List.pairwise_iff_getElem];intro i j hi hj hij e;exact h i j hi hij hj (by simp [hi,hj,e])
def qdJ:∀ (b:Nat) (ns:List Int),(∀ x∈ns,0<=x/\x<b)->ns.Nodup->ns.length<=b
 |0,ns,h,_=>by
  cases ns with
  |nil=>simp
  |cons x r=>have:=h x (by simp);omega
 |b+1,ns,h,hn=>by
  have ih:=qdJ b (ns.erase (b:Int)) (λx hx=>by
   have h1:=(List.Nodup.mem_erase_iff hn).mp hx;have:=h x h1.2;have:=h1.1;omega) (hn.erase _)
  have:=List.length_erase (a:=(b:Int)) (l:=ns);split at this<;>omega
def qjg {B a b:Int} {cs:List (Int×Int)} (hB:1<=B) (h:unB (rst B a b cs)=true):(cs.length:Int)<=B:=by
 have:=qdJ B.toNat (rst B a b cs) (λz hz=>by
  simp only [rst,mem_map] at hz;obtain ⟨c,_,rfl⟩:=hz;have h1:=Int.emod_nonneg (a*c.1+b*c.2) (show B≠0 by omega);have h2:=Int.emod_lt_of_pos (a*c.1+b*c.2) (show 0<B by omega);omega) (qat (RU.mp h))
 rw [XG] at this;omega
def wd (B a b:Int) (h:Nat):Nat:=lst λw=>¬ bU B a b h (w+1)
def qg9 {B a b:Int} {h:Nat} (hB:1<=B) (hh:1<=h):¬ bU B a b h (wd B a b h+1)/\∀ m,m<wd B a b h->¬ ¬ bU B a b h (m+1):=qdB (P:=λw=>¬ bU B a b h (w+1)) ⟨B.toNat,λz=>by
 have:=qjg hB z;rw [Bk.jm] at this;have h2:B.toNat+1<=h*(B.toNat+1):=Nat.le_mul_of_pos_left _ hh;omega⟩
def qiC {B a b:Int} {h:Nat} (hB:1<=B) (hh:1<=h):(wd B a b h:Int)<=B:=by
 apply Classical.byContradiction;intro hn;have:=(qg9 (a:=a) (b:=b) hB hh).2 B.toNat (by omega);apply this;intro z;have:=qjg hB z;rw [Bk.jm] at this;have h2:B.toNat+1<=h*(B.toNat+1):=Nat.le_mul_of_pos_left _ hh;omega
def qpT {d:Dl} {h:Nat} (hp:Pl d) (ok:d.Ok) (h1:1<=h) (h2:h<=900) (hB:d.B<=900):js [dlD d,.int h]=some (.int (wd d.B (fA d) (fB d) h)):=by
 obtain ⟨_,_,b1,_⟩:=qaw hp ok;have L:=qiC (a:=fA d) (b:=fB d) b1 h1;have I:=qg9 (a:=fA d) (b:=fB d) b1 h1;rw [qbY];have U:∀ w:Nat,w<=1000->qw [dlD d,.tuple [.str "block",.int h,.int w]]=some (.bool (unB (rst d.B (fA d) (fB d) (q0 h w)))):=λw hw=>qoH (w:=.block h w) hp ok ⟨by omega,hw⟩
 try simp only [Pu.pwA,WH]
 refine qfn (Q:=λo=>YS false o=_) (wd d.B (fA d) (fB d) h) (by omega) (λi ρ=>ρ=[.sh (dlD d),.sh (.int h),.sh (.int (i:Int))]) rfl ?_ ?_ ?_ ?_
 ·rintro i ρ hi rfl;have e:=U (i+1) (by omega);rw [Int.natCast_add,Int.natCast_one] at e;have:=Classical.byContradiction (I.2 i hi)
  try simp only [Pu.pwA,e,show unB (rst d.B (fA d) (fB d) (q0 h (i+1)))=true from this]
 ·rintro i ρ hi rfl
  try simp only [Pu.pwA,qfv (i:=2) (x:=(i:Int)) (y:=1) (ρ:=[.sh (dlD d),.sh (.int h),.sh (.int (i:Int))]) rfl,Int.natCast_add,Int.natCast_one]
 ·rintro ρ rfl;have e:=U (wd d.B (fA d) (fB d) h+1) (by omega);rw [Int.natCast_add,Int.natCast_one] at e;have:unB (rst d.B (fA d) (fB d) (q0 h (wd d.B (fA d) (fB d) h+1)))=false:=by simpa [bU] using I.1
  try simp only [Pu.pwA,e,this]
 ·rintro ρ rfl
  try simp only [Pu.pwA]
def wds (B a b:Int):List Int:=(zT 1 B.toNat).map λh=>(wd B a b h.toNat:Int)
def qpH {d:Dl} (hp:Pl d) (ok:d.Ok) (hB:d.B<=900):Q8 [dlD d]=some (.list ((wds d.B (fA d) (fB d)).map PyData.int)):=by
 obtain ⟨_,_,b1,_⟩:=qaw hp ok;obtain ⟨xs,e1,e2⟩:=qpa hp;rw [qaB,e1]
 try simp only [Pu.pwA,WC]
 rw [QI (ds:=(zT 1 d.B.toNat).map PyData.int) (fs:=(wds d.B (fA d) (fB d)).map PyData.int)]
 ·try simp only [Pu.pwA]
 ·try simp (disch:=omega) only [Pu.pwA,e2,qcn]
  rw [show (d.B+1-1)=d.B by omega]
 ·rw [wds,map_map];refine zJ λh hh=>?_;obtain ⟨i,hi⟩:=List.mem_iff_getElem?.mp hh;obtain ⟨hi2,rfl⟩:=jE hi;have e:=qpT (h:=i+1) hp ok (by omega) (by omega) hB;rw [e1] at e;rw [show ((1:Int)+(i:Int))=((i+1:Nat):Int) by omega]
  try simp only [Pu.pwA,ZM,e,Function.comp_def,Int.toNat_natCast]
 ·simp [wds,zT];omega
def szD (d:Dl):PyData:=.tuple [.int d.R,.int d.C,.int d.B]
def sh1 {n:Nat} (h:n<=1000):cI KP (λi j=>i*2 ^ j.toNat) (.int 1) (.int (n:Int))=some (.int (2 ^ n)):=by
 rw [qkd ⟨by omega,by omega,by decide⟩,Int.one_mul,Int.toNat_natCast]
def qns:∀ (d:Dl) (j:Nat),d.dep<j->d.Ok->qG j [dlD d]=some (szD d)
 |.skew r c b x y,j+1,_,_=>by
  rw [ZW]
  try simp only [Pu.pwA,QA,dlD,szD,Dl.R,Dl.C,Dl.B,L3.S4,L3.RC,L3.X3]
 |.rests r c b x,j+1,_,_=>by
  rw [ZW]
  try simp only [Pu.pwA,QA,dlD,szD,Dl.R,Dl.C,Dl.B,L3.RG,L3.XY,L3.WK]
 |.bits h l ms,j+1,_,ok=>by
  obtain ⟨h1,h2,h3,_⟩:=ok;rw [ZW]
  try simp only [Pu.pwA,QA,dlD,szD,Dl.R,Dl.C,Dl.B,eq_self,length_map,sh1 (n:=h) (by omega),sh1 (n:=l) (by omega),sh1 (n:=ms.length) (by omega)]
 |.table b cells,j+1,_,ok=>by
  obtain ⟨h1,h2,h3,h4,c,h5,h6,h7⟩:=ok;have e0:cells[0]?=some cells[0]:=getElem?_eq_getElem (by omega);have e1:L2.atI (cells.map LN) 0=some (LN cells[0]):=by
   have:=atN (xs:=cells.map LN) (k:=0) (by simp;omega);rw [getElem?_map,e0] at this;exact this
  rw [ZW]
  try simp only [Pu.pwA,QA,dlD,szD,Dl.R,Dl.C,Dl.B,eq_self,L3.C4,length_map,e1,LN,e0,Option.getD_some]
 |.joined d e,j+1,hd,ok=>by
  have hh:max d.dep e.dep+1<j+1:=hd;have r1:=qns d j (by omega) ok.1;have r2:=qns e j (by omega) ok.2.1;have l1:=Dl.lims ok.1;have l2:=Dl.lims ok.2.1;have a1:=l1.r1;have a2:=l1.r2;have a3:=l1.c1;have a4:=l1.c2;have a5:=l1.b1;have a6:=l1.b2;rw [ZW]
  try simp (disch:=omega) only [Pu.pwA,QA,dlD,szD,Dl.R,Dl.C,Dl.B,eq_self,L3.X9,L3.W6,r1,r2,je]
def dn (cs:List (Int×Int)):List Int:=cs.map λp=>p.1
def al (cs:List (Int×Int)):List Int:=cs.map λp=>p.2
def stI (R C:Int) (cs:List (Int×Int)):List (Int×Int):=(zT (-(mn (dn cs))) (R-mx (dn cs) - -(mn (dn cs))).toNat).flatMap λi=>(zT (-(mn (al cs))) (C-mx (al cs) - -(mn (al cs))).toNat).map λj=>(i,j)
def MZ {α β:Type} (xs:List α) (ys:List β) {γ:Type} (f:α->β->γ):(xs.flatMap λa=>ys.map λb=>f a b).length=xs.length*ys.length:=by
 induction xs with
 |nil=>simp
 |cons a r ih=>simp only [List.flatMap_cons,length_append,length_map,ih,length_cons,Nat.succ_mul];omega
structure Cb (cs:List (Int×Int)):Prop where
 ne:cs≠[]
 b:∀ p∈cs,(-1000000<=p.1/\p.1<=1000000)/\(-1000000<=p.2/\p.2<=1000000)
def Cb.lim {cs:List (Int×Int)} (h:Cb cs):(-1000000<=mn (dn cs)/\mn (dn cs)<=mx (dn cs)/\mx (dn cs)<=1000000)/\(-1000000<=mn (al cs)/\mn (al cs)<=mx (al cs)/\mx (al cs)<=1000000):=by
 have n1:dn cs≠[]:=by simp [dn,h.ne]
 have n2:al cs≠[]:=by simp [al,h.ne]
 have m1:=ME n1;have m2:=NE n1;have m3:=ME n2;have m4:=NE n2;have l1:=NV m2;have l2:=NV m4;have b1:∀ x∈dn cs,-1000000<=x/\x<=1000000:=λx hx=>by
  obtain ⟨p,hp,rfl⟩:=mem_map.mp hx;exact (h.b p hp).1
 have b2:∀ x∈al cs,-1000000<=x/\x<=1000000:=λx hx=>by
  obtain ⟨p,hp,rfl⟩:=mem_map.mp hx;exact (h.b p hp).2
 have:=b1 _ m1;have:=b1 _ m2;have:=b2 _ m3;have:=b2 _ m4;omega
def qgQ {R C:Int} {cs:List (Int×Int)} (h:Cb cs) (hR:R<=4096) (hC:C<=4096):(stI R C cs).length<=16777216:=by
 obtain ⟨⟨h1,h2,h3⟩,⟨h4,h5,h6⟩⟩:=h.lim;unfold stI;rw [MZ,jG,jG];have a:(R-mx (dn cs) - -(mn (dn cs))).toNat<=4096:=by omega
 have b:(C-mx (al cs) - -(mn (al cs))).toNat<=4096:=by omega
 exact Nat.le_trans (Nat.mul_le_mul a b) (by decide)
def qps {d:Dl} {w:Wk} {j:Nat} (hd:d.dep<j) (okd:d.Ok) (ok:Big w) (hc:Cb w.pc):jv j [dlD d,Wk.d w]=some (.list ((stI d.R d.C w.pc).map pD)):=by
 have hl:=qbQ ok;have l:=Dl.lims okd;have:=l.r1;have:=l.r2;have:=l.c1;have:=l.c2;obtain ⟨⟨h1,h2,h3⟩,⟨h4,h5,h6⟩⟩:=hc.lim;rw [qbP]
 try simp only [Pu.pwA,WB,qns d j hd okd,szD,CC ok]
 rw [QI (ds:=w.pc.map pD) (fs:=(dn w.pc).map PyData.int) rfl (by
  rw [dn,map_map];refine zJ λp hp=>?_
  try simp only [Pu.pwA,ZM,pD,Function.comp_def]) (by simp [dn];omega)]
 try simp only [Pu.pwA]
 rw [QI (ds:=w.pc.map pD) (fs:=(al w.pc).map PyData.int) rfl (by
  rw [al,map_map];refine zJ λp hp=>?_
  try simp only [Pu.pwA,ZM,pD,Function.comp_def]) (by simp [al];omega)]
 try simp only [Pu.pwA]
 have n1:dn w.pc≠[]:=by simp [dn,hc.ne]
 have n2:al w.pc≠[]:=by simp [al,hc.ne]
 rw [L7 (ds:=(zT (-(mn (dn w.pc))) (d.R-mx (dn w.pc) - -(mn (dn w.pc))).toNat).map PyData.int) (fs:=(stI d.R d.C w.pc).map pD)]
 ·try simp only [Pu.pwA]
 ·try simp (disch:=omega) only [Pu.pwA,qc2 n1,qc5 n1,qcn]
 ·have:(stI d.R d.C w.pc).map pD=(zT (-(mn (dn w.pc))) (d.R-mx (dn w.pc) - -(mn (dn w.pc))).toNat).flatMap λi=>(zT (-(mn (al w.pc))) (d.C-mx (al w.pc) - -(mn (al w.pc))).toNat).map λj=>pD (i,j):=by
   simp only [stI,List.map_flatMap,map_map,Function.comp_def]
  rw [this];refine CV λi hi=>?_
  try simp (disch:=omega) only [Pu.pwA,qaq,qc2 n2,qc5 n2,qcn]
  rw [zJ (k:=λq=>pD (i,q)) λq hq=>?_]
  ·try simp only [Pu.pwA]
  ·try simp only [Pu.pwA,ZM,pD]
 ·rw [length_map];exact qgQ hc l.r2 l.c2
def frB (R C B a b:Int) (cs:List (Int×Int)):Bool:=decide (0<(stI R C cs).length)&&unB (rst B a b cs)
def qpC {d:Dl} {w:Wk} {j:Nat} (hp:Pl d) (hd:d.dep<j) (okd:d.Ok) (ok:Big w) (hc:Cb w.pc):zG j [dlD d,Wk.d w]=some (.bool (frB d.R d.C d.B (fA d) (fB d) w.pc)):=by
 rw [NO]
 try simp only [Pu.pwA,U5,qps hd okd ok hc,qoH hp okd ok,length_map]
 unfold frB;by_cases h:0<(stI d.R d.C w.pc).length
 ·have h2:(0:Int)<((stI d.R d.C w.pc).length:Int):=by omega
  try simp only [Pu.pwA,h,h2]
 ·have h2:¬ (0:Int)<((stI d.R d.C w.pc).length:Int):=by omega
  try simp only [Pu.pwA,h,h2]
def qm6 {d:Dl} (hp:Pl d):∃ xs,dlD d=.tuple xs/\slD (.tuple xs) (some 1) (some 3)=some (.tuple [.int d.R,.int d.C]):=by
 cases d<;>simp [Pl] at hp
 ·exact ⟨_,rfl,YM (by simp [HT.sIx])⟩
 ·exact ⟨_,rfl,YM (by simp [HT.sIx])⟩
def fsI (R C B a b:Int) (m:Nat):List (Int×Int):=(zT 0 R.toNat).flatMap λx=>((zT (1-C) (C-(1-C)).toNat).filter λy=>(decide (0<x)||decide (0<y))&&frB R C B a b (qW x y m)).map λy=>(x,y)
def LJ {α β γ:Type} (xs:List α) (ys:List β) (c:α->β->Bool) (f:α->β->γ):(xs.flatMap λa=>(ys.filter (c a)).map λb=>f a b).length<=xs.length*ys.length:=by
 induction xs with
 |nil=>simp
 |cons a r ih=>
  have:=List.length_filter_le (c a) ys;simp only [List.flatMap_cons,length_append,length_map,length_cons,Nat.succ_mul];omega
def CW {x y:Int} {m:Nat} (hx:-1000<=x/\x<=1000) (hy:-1000<=y/\y<=1000) (h1:1<=m) (h2:m<=1000):Cb (qW x y m):=by
 refine ⟨by simp [qW];omega,λp hp=>?_⟩;simp only [qW,mem_map,mem_range] at hp;obtain ⟨t,ht,rfl⟩:=hp;have k1:(t:Int)*x<=1000*1000:=by
  rcases Int.le_total 0 x with z|z
  ·exact Int.mul_le_mul (by omega) hx.2 z (by omega)
  ·have:=Int.mul_nonpos_of_nonneg_of_nonpos (a:=(t:Int)) (b:=x) (by omega) z;omega
 have k2:-(1000*1000)<=(t:Int)*x:=by
  rcases Int.le_total 0 x with z|z
  ·have:=Int.mul_nonneg (a:=(t:Int)) (b:=x) (by omega) z;omega
  ·have:=Int.mul_le_mul (a:=(t:Int)) (b:=-x) (c:=1000) (d:=1000) (by omega) (by omega) (by omega) (by omega);rw [Int.mul_neg] at this;omega
 have k3:(t:Int)*y<=1000*1000:=by
  rcases Int.le_total 0 y with z|z
  ·exact Int.mul_le_mul (by omega) hy.2 z (by omega)
  ·have:=Int.mul_nonpos_of_nonneg_of_nonpos (a:=(t:Int)) (b:=y) (by omega) z;omega
 have k4:-(1000*1000)<=(t:Int)*y:=by
  rcases Int.le_total 0 y with z|z
  ·have:=Int.mul_nonneg (a:=(t:Int)) (b:=y) (by omega) z;omega
  ·have:=Int.mul_le_mul (a:=(t:Int)) (b:=-y) (c:=1000) (d:=1000) (by omega) (by omega) (by omega) (by omega);rw [Int.mul_neg] at this;omega
 simp only;omega
def qpO {d:Dl} {m:Nat} {j:Nat} (hp:Pl d) (hd:d.dep<j) (okd:d.Ok) (h1:1<=m) (h2:m<=1000) (hR:d.R<=100) (hC:d.C<=100):zD j [dlD d,.int m]=some (.list ((fsI d.R d.C d.B (fA d) (fB d) m).map pD)):=by
 obtain ⟨xs,e1,e2⟩:=qm6 hp;have l:=Dl.lims okd;have:=l.r1;have:=l.c1;rw [RF,e1]
 try simp only [Pu.pwA,ZE,e2]
 rw [L7 (ds:=(zT 0 d.R.toNat).map PyData.int) (fs:=(fsI d.R d.C d.B (fA d) (fB d) m).map pD)]
 ·try simp only [Pu.pwA]
 ·try simp (disch:=omega) only [Pu.pwA,SI]
 ·have:(fsI d.R d.C d.B (fA d) (fB d) m).map pD=(zT 0 d.R.toNat).flatMap λx=>((zT (1-d.C) (d.C-(1-d.C)).toNat).filter λy=>(decide (0<x)||decide (0<y))&&frB d.R d.C d.B (fA d) (fB d) (qW x y m)).map λy=>pD (x,y):=by
   simp only [fsI,List.map_flatMap,map_map,Function.comp_def]
  rw [this];refine CV λx hx=>?_
  try simp (disch:=omega) only [Pu.pwA,qaq,qcn]
  obtain ⟨i,hi⟩:=List.mem_iff_getElem?.mp hx;obtain ⟨hi2,rfl⟩:=jE hi;rw [N7 (k:=λy=>pD (0+(i:Int),y)) (c:=λy=>(decide ((0:Int)<0+(i:Int))||decide (0<y))&&frB d.R d.C d.B (fA d) (fB d) (qW (0+(i:Int)) y m)) λy hy=>?_]
  ·try simp only [Pu.pwA]
  ·obtain ⟨k,hk⟩:=List.mem_iff_getElem?.mp hy;obtain ⟨hk2,rfl⟩:=jE hk;have e:=qpC (w:=.step (0+(i:Int)) (1-d.C+(k:Int)) m) (j:=j) hp hd okd ⟨by omega,by omega,h2⟩ (CW (by omega) (by omega) h1 h2);rw [e1] at e;simp only [Wk.d] at e;by_cases c1:(0:Int)<0+(i:Int)
   ·try simp only [Pu.pwA,ZM,e,c1,pD,Wk.pc]
    split<;>rfl
   ·by_cases c2:(0:Int)<1-d.C+(k:Int)
    ·try simp only [Pu.pwA,ZM,e,c1,c2,pD,Wk.pc]
     split<;>rfl
    ·try simp only [Pu.pwA,ZM,e,c1,c2,pD]
 ·rw [length_map];have:=LJ (zT 0 d.R.toNat) (zT (1-d.C) (d.C-(1-d.C)).toNat) (λx y=>(decide (0<x)||decide (0<y))&&frB d.R d.C d.B (fA d) (fB d) (qW x y m)) λx y=>(x,y)
  rw [jG,jG] at this;have k:d.R.toNat * (d.C-(1-d.C)).toNat<=100*200:=Nat.mul_le_mul (by omega) (by omega);exact Nat.le_trans this (by omega)
end Pv
namespace Pv
open PySem L2 L3 Pu
open Bk (Dl)
end Pv
namespace Hd
open PySem L2 L3 PySem.W
def oF (x:Str) (st:Stmt) (pm cd:Value):Obj:=⟨.type "function",none,.func (PySem.W.fnOf x x (JH st) (jI st) (qj st) .none .none .none pm none cd .none),#[]⟩
def oG (x:Str) (st:Stmt):Obj:=⟨.none,none,.func { name:=x,qualname:=x,params:=JH st,body:=.stmts (jI st),scope:=qj st,globals:=0,closure:=[],defaults:=.none,kwdefaults:=.none },#[]⟩
def oC (vs:List Value):Obj:=⟨.type "code",none,.fields vs.toArray,#[]⟩
def oT (vs:List Value):Obj:=⟨.type "tuple",none,.seq vs.toArray 0,#[]⟩
def eD (P:Params):Value×Value->DictEntry
 | (.str x t,v)=>⟨PyData.keyHash P x,.str x t,v⟩
 | (u,v)=>⟨0,u,v⟩
def oD (P:Params) (n:Nat) (es:List (Value×Value)):Obj:=⟨.type "dict",none,.dict (es.map (eD P)).toArray n,#[]⟩
def oK (x:Str) (t l n m:Nat) (a b:Addr) (u v z:Value) (e y q:Nat):Obj:=oC [.str x t,.str x (t+1),.str "/claim/cut.py" (t+2),.int l 0,.int n 0,.int 0 0,.int 0 0,.int 3 0,.ref a,.bool true,.int m 0,.ref b,u,v,z,.ref e,.int y 0,.int l 0,.str "/claim/cut.py" q]
def nmV:List Str->Nat->List Value
 |[],_=>[]
 |x::r,t=>.str x t::nmV r (t+1)
def oN (xs:List Str) (t:Nat):Obj:=oT (nmV xs t)
abbrev nd (o:Obj) (l r:PySem.W.BT):PySem.W.BT:=.node o l r
abbrev lf (o:Obj):PySem.W.BT:=.node o .nil .nil
def zQ {K:Frg} (x:Str) (st:Stmt) (f:Addr) (pm cd:Value) (l:K.lookup f=some (oF x st pm cd)) (c:PySem.W.codeIn K cd x=true) (k:PySem.W.keepIn K (.ref f)=true) :
  Fun K x x st f (PySem.W.fnOf x x (JH st) (jI st) (qj st) .none .none .none pm none cd .none):=qky l c k
def zK {K:Frg} {h:Heap} {mg:Str->Option Value} (X:K.In h) (G:h.Ns mainGlobals mg) (n:Str) (v:Value) (e:PySem.W.nsIn K mainGlobals n=some (some v)):mg n=some v:=PySem.W.mg_of X G e
def DU {K:Frg} {h:Heap} {mg:Str->Option Value} (X:K.In h) (G:h.Ns mainGlobals mg) (n:Str) (e:PySem.W.nsIn K mainGlobals n=some none):mg n=none:=PySem.W.mg_none_of X G e
def head {l:OpenLaw} {q:Program} {loose:List Str} {K:Params->Frag} {as:List Addr} {d:DefRec} {N:Nat} {k:Nat} {x:Str} (ha:∀ P,as=(K P).map (·.1))
  (ok:l.wellSaid=true)
  (left:LeftO l.prog q loose (λs=>xlAt q [] s&&recOk [] s) (λs=>as.map s.heap.get?) (λw=>(K w.params).map λp=>some p.2) N)
  (hdef:defOf q l.name=some (d,[])) (hp:l.prog.theDef l.name=some (d.params,d.body,d.scope)) (hk:kwWritten? d.params.kwonlyargs d.params.kw_defaults=some [])
  (hwr:(!l.row.writes||l.row.records.isEmpty)=true) (ok2:(chainsOk q&&opensWell l.prog&&(frees l.row.toRowW&&l.row.within.isEmpty))=true) (hb:l.prog.bare) (hw:l.row.toRowW.promised)
  (hn:l.most=some 63) (hdf:d.params.defaults=[]) (hr:Room k callerA) (hK:∀ w:World,EC (K w.params)=true)
  (F:∀ (w:World) (mg:Str->Option Value) (fa:Addr) (h:Heap),(K w.params).In h->h.Ns mainGlobals mg->mg d.name=some (.ref fa) ->
   ∃ fd:FuncData,(∀ (s:Shared) (u:Value),BindsTo s fd ⟨[u],[]⟩ [(x,u)])/\∀ base:Heap,(K w.params).In base->base.Ns mainGlobals mg->FnOk l.prog w (K w.params) mg base CX0 k fa fd [x] (lSp (K w.params) CL)):l.Holds:=by
 refine holds_law ok λsaid=>?_;exact holds_open (q:=q) (loose:=loose) (Xt:=λs=>xlAt q [] s&&recOk [] s) (XP:=XL q []) (Yf:=Hook.obs (kHook K as ha)) (Ya:=Hook.val (kHook K as ha)) (YP:=Hook.says (kHook K as ha)) (N:=N) left
  (Hook.of (kHook K as ha)) (Hook.keeps (kHook K as ha)) (λs e=>xl_of s (Bool.and_eq_true_iff.mp e).1) XL.keeps hdef hp hk (λs e=>recFacts_of (Bool.and_eq_true_iff.mp e).2) hwr said ok2 hb hw
  (L3.qok (l:=l) (k:=k) (x:=x) hn hdf hr (λw h Y=>kIn_of Y) hK F)
end Hd
namespace K93
open PySem L2 L3 Bk
def top (i : Nat) : Stmt := PySem.Challenge.pw_bankwalk_k93_whole_rests_beside_looks.main.body.getD i (.Pass ⟨0,0,0,0⟩)
variable {P:Program} {w:World} {K:Frg} {mg:Str->Option Value} {base:Heap} {f:Addr} {fd:FuncData} {k:Nat} {sp:Sp3}
abbrev jn:Stmt:=top 1
abbrev JZ:List Str:=["things","k","l"]
abbrev JD:List Str:=["things"]
def ZP:FnScope JZ JD (qj jn):=⟨rfl,rfl,rfl,by decide +kernel,rfl,by decide +kernel,by decide +kernel⟩
def XS (F:Fun K "first_alike" "first_alike" jn f fd) (bd:zr K fd JD []) (hm:mg "first_alike" = some (.ref f))  (m_len:mg "len" = none) (m_range:mg "range" = none)
  (read:Rd sp 1 (Bk.QP) JZ):Fn3 P w K mg base (k+1) "first_alike" sp:=
 qI (t3:=(Bk.QP)) F ZP bd hm (λcdv A outer s H E hr=>(qg (QK PassesOwn.never rfl (qN rfl m_range (qa (qz zb zw rfl m_len PySem.boot_len (qa (qb 0) qe)) qe) (h1:=by intro _ _ _ h;simpa [qc,qi] using h)) (qo (i:=1) (ZP.nd)) (qk (QK PassesOwn.never rfl (j6 rfl m_range (qa (qy (qb 1) qd) (qa (qz zb zw rfl m_len PySem.boot_len (qa (qb 0) qe)) qe)) (h1:=by intro _ _ _ h;simpa [qc,qi] using h)) (qo (i:=2) (ZP.nd)) (qk (jj (qX (zj hr.units) qU (qq (qb 0) (qb 1)) (qq (qb 0) (qb 2)) (qE _)) (qk (qt (qA (qa (qb 1) (qa (qb 2) qe))))) zc))))) (qk (qt qdD)))) read
abbrev Z9:Stmt:=top 3
abbrev WI:List Str:=["dealing","kind","rows","columns","banks","other_rows","other_columns","other_banks"]
abbrev WN:List Str:=["dealing"]
def jy:FnScope WI WN (qj Z9):=⟨rfl,rfl,rfl,by decide +kernel,rfl,by decide +kernel,by decide +kernel⟩
def NJ {S_size_of:Sp3} (F:Fun K "size_of" "size_of" Z9 f fd) (bd:zr K fd WN []) (hm:mg "size_of" = some (.ref f)) (qG:Fn3 P w K mg base k "size_of" S_size_of) (m_len:mg "len" = none)
  (read:Rd sp 1 (Bk.U6 S_size_of) WI):Fn3 P w K mg base (k+1) "size_of" sp:=
 qI (t3:=(Bk.U6 S_size_of)) F jy bd hm (λcdv A outer s H E hr=>(qg (qS 1 jy.nd (qq (qb 0) qd)) (qg (jj (qX (zj hr.units) qU (qb 1) ze (qE _)) (qk (qt (qA (qa (qb9 qd (qq (qb 0) qd)) (qa (qb9 qd (qq (qb 0) qd)) (qa (qb9 qd (qz zb zw rfl m_len PySem.boot_len (qa (qq (qb 0) qd) qe))) qe)))))) zc) (qg (jj (qX (zj hr.units) qU (qb 1) ze (qE _)) (qk (qt (qA (qa (qz zb zw rfl m_len PySem.boot_len (qa (qq (qb 0) qd) qe)) (qa (qz zb zw rfl m_len PySem.boot_len (qa (qq (qq (qb 0) qd) qd) qe)) (qa (qq (qb 0) qd) qe)))))) zc) (qg (jj (qX (zj hr.units) qU (qb 1) ze (qE _)) (qg (jL (qh qG hr rfl (qa (qq (qb 0) qd) qe)) (zB rfl (qm (qo (i:=2) (jy.nd)) (qm (qo (i:=3) (jy.nd)) (qm (qo (i:=4) (jy.nd)) zC))))) (qg (jL (qh qG hr rfl (qa (qq (qb 0) qd) qe)) (zB rfl (qm (qo (i:=5) (jy.nd)) (qm (qo (i:=6) (jy.nd)) (qm (qo (i:=7) (jy.nd)) zC))))) (qk (qt (qA (qa (qV (qb 2) (qb 5)) (qa (qV (qb 3) (qb 6)) (qa (qV (qb 4) (qb 7)) qe)))))))) zc) (qk (qt (qA (qa (qq (qb 0) qd) (qa (qq (qb 0) qd) (qa (qq (qb 0) qd) qe))))))))))) read
abbrev YG:Stmt:=top 6
abbrev M4:List Str:=["down","along","many"]
abbrev SB:List Str:=["down","along","many"]
def qcc:FnScope M4 SB (qj YG):=⟨rfl,rfl,rfl,by decide +kernel,rfl,by decide +kernel,by decide +kernel⟩
def qbL (F:Fun K "strung" "strung" YG f fd) (bd:zr K fd SB []) (hm:mg "strung" = some (.ref f))  (m_range:mg "range" = none)
  (read:Rd sp 3 (Bk.DY) M4):Fn3 P w K mg base (k+1) "strung" sp:=
 qI (t3:=(Bk.DY)) F qcc bd hm (λcdv A outer s H E hr=>(qk (qt (VU ["t","down","along"] [none,some 0,some 1] rfl (qN rfl m_range (qa (qb 2) qe) (h1:=by intro _ _ _ h;simpa [qc,qi] using h)) (λ_ _ _=>(jgn 0)) (λ_ _ _=>jp) (λ_ _ _=>(qA (qa (qV (qb 0) (qb 1)) (qa (qV (qb 0) (qb 2)) qe)))) (by kernel_rfl) (by kernel_rfl))))) read
abbrev QS:Stmt:=top 7
abbrev CO:List Str:=["walk","kind","down","along"]
abbrev E8:List Str:=["walk"]
def JI:FnScope CO E8 (qj QS):=⟨rfl,rfl,rfl,by decide +kernel,rfl,by decide +kernel,by decide +kernel⟩
def LS {S_strung:Sp3} (F:Fun K "cells_of" "cells_of" QS f fd) (bd:zr K fd E8 []) (hm:mg "cells_of" = some (.ref f)) (zL:Fn3 P w K mg base k "strung" S_strung) (m_list:mg "list" = none) (m_range:mg "range" = none) (m_STRIDES:Tb K mg w "STRIDES" UW)
  (read:Rd sp 1 (Bk.Y9 S_strung) CO):Fn3 P w K mg base (k+1) "cells_of" sp:=
 qI (t3:=(Bk.Y9 S_strung)) F JI bd hm (λcdv A outer s H E hr=>(qg (qS 1 JI.nd (qq (qb 0) qd)) (qg (jj (qX (zj hr.units) qU (qb 1) ze (qE _)) (qk (qt (zx DR MS rfl m_list PyProof.Rows.boot_list (qa (qq (qb 0) qd) qe)))) zc) (qg (jj (qX (zj hr.units) qU (qb 1) ze (qE _)) (qk (qt (qay ["p","q","walk"] [none,none,some 0] rfl (qN rfl m_range (qa (qq (qb 0) qd) qe) (h1:=by intro _ _ _ h;simpa [qc,qi] using h)) (λ_ _ _=>(jgn 0)) (λ_ _ _=>jp) (λ_ _ _=>(qN rfl m_range (qa (qq (qb 2) qd) qe) (h1:=by intro _ _ _ h;simpa [qc,qi] using h))) (λ_ _ _=>(jgn 1)) (λ_ _ _=>jp) (λ_ _ _=>(qA (qa (qb 0) (qa (qb 1) qe)))) (by kernel_rfl) (by kernel_rfl)))) zc) (qg (jj (qX (zj hr.units) qU (qb 1) ze (qE _)) (qk (qt (qh zL hr rfl (qa (qq (qb 0) qd) (qa (qq (qb 0) qd) (qa (qq (qb 0) qd) qe)))))) zc) (qg (jL (qfO m_STRIDES rfl (qb 1) (λ_ _=>rfl)) (zB rfl (qm (qo (i:=2) (JI.nd)) (qm (qo (i:=3) (JI.nd)) zC)))) (qk (qt (qh zL hr rfl (qa (qb 2) (qa (qb 3) (qa (qq (qb 0) qd) qe)))))))))))) read
abbrev YJ:Stmt:=top 8
abbrev M9:List Str:=["dealing","walk","rows","columns","banks","cells","downs","alongs"]
abbrev C2:List Str:=["dealing","walk"]
def QZ:FnScope M9 C2 (qj YJ):=⟨rfl,rfl,rfl,by decide +kernel,rfl,by decide +kernel,by decide +kernel⟩
def qaO {S_size_of:Sp3} {S_cells_of:Sp3} (F:Fun K "starts" "starts" YJ f fd) (bd:zr K fd C2 []) (hm:mg "starts" = some (.ref f)) (qG:Fn3 P w K mg base k "size_of" S_size_of) (qC:Fn3 P w K mg base k "cells_of" S_cells_of) (m_min:mg "min" = none) (m_max:mg "max" = none) (m_range:mg "range" = none)
  (read:Rd sp 2 (Bk.D5 S_size_of S_cells_of) M9):Fn3 P w K mg base (k+1) "starts" sp:=
 qI (t3:=(Bk.D5 S_size_of S_cells_of)) F QZ bd hm (λcdv A outer s H E hr=>(qg (jL (qh qG hr rfl (qa (qb 0) qe)) (zB rfl (qm (qo (i:=2) (QZ.nd)) (qm (qo (i:=3) (QZ.nd)) (qm (qo (i:=4) (QZ.nd)) zC))))) (qg (qS 5 QZ.nd (qh qC hr rfl (qa (qb 1) qe))) (qg (MV 6 ["p","q"] [none,none] rfl QZ.nd (DM (qb 5)) (λ_ _ _=>(zB rfl (qm (jgn 0) (qm (jgn 1) zC)))) (λ_ _ _=>jp) (λ_ _ _=>(qb 0)) (by kernel_rfl) (by kernel_rfl) rfl rfl) (qg (qS 7 QZ.nd (VU ["p","q"] [none,none] rfl (DM (qb 5)) (λ_ _ _=>(zB rfl (qm (jgn 0) (qm (jgn 1) zC)))) (λ_ _ _=>jp) (λ_ _ _=>(qb 1)) (by kernel_rfl) (by kernel_rfl))) (qk (qt (qay ["i","j","columns","alongs"] [none,none,some 3,some 7] rfl (j6 rfl m_range (qa (VR (qz (UL rfl) D9 rfl m_min PyProof.Rows.boot_min (qa (qb 6) qe))) (qa (j5 (qb 2) (qz (U3 rfl) D8 rfl m_max PyProof.Rows.boot_max (qa (qb 6) qe))) qe)) (h1:=by intro _ _ _ h;simpa [qc,qi] using h)) (λ_ _ _=>(jgn 0)) (λ_ _ _=>jp) (λ_ _ _=>(j6 rfl m_range (qa (VR (qz (UL rfl) D9 rfl m_min PyProof.Rows.boot_min (qa (qb 3) qe))) (qa (j5 (qb 2) (qz (U3 rfl) D8 rfl m_max PyProof.Rows.boot_max (qa (qb 3) qe))) qe)) (h1:=by intro _ _ _ h;simpa [qc,qi] using h))) (λ_ _ _=>(jgn 1)) (λ_ _ _=>jp) (λ_ _ _=>(qA (qa (qb 0) (qa (qb 1) qe)))) (by kernel_rfl) (by kernel_rfl))))))))) read
abbrev jH:Stmt:=top 10
abbrev DL:List Str:=["dealing"]
abbrev YI:List Str:=["dealing"]
def SE:FnScope DL YI (qj jH):=⟨rfl,rfl,rfl,by decide +kernel,rfl,by decide +kernel,by decide +kernel⟩
def RW (F:Fun K "factors_of" "factors_of" jH f fd) (bd:zr K fd YI []) (hm:mg "factors_of" = some (.ref f))  
  (read:Rd sp 1 (Pv.ZG) DL):Fn3 P w K mg base (k+1) "factors_of" sp:=
 qI (t3:=(Pv.ZG)) F SE bd hm (λcdv A outer s H E hr=>(qg (jj (qX (zj hr.units) qU (qq (qb 0) qd) ze (qE _)) (qk (qt (qA (qa (qq (qb 0) qd) (qa qd qe))))) zc) (qk (qt (qA (qa (qq (qb 0) qd) (qa (qq (qb 0) qd) qe))))))) read
abbrev QU:Stmt:=top 11
abbrev CU:List Str:=["banks","factors","walk","a","b"]
abbrev EF:List Str:=["banks","factors","walk"]
def VX:FnScope CU EF (qj QU):=⟨rfl,rfl,rfl,by decide +kernel,rfl,by decide +kernel,by decide +kernel⟩
def K2 {S_cells_of:Sp3} (F:Fun K "rests_by" "rests_by" QU f fd) (bd:zr K fd EF []) (hm:mg "rests_by" = some (.ref f)) (qC:Fn3 P w K mg base k "cells_of" S_cells_of) (m_tuple:mg "tuple" = none)
  (read:Rd sp 3 (Bk.Y5 S_cells_of) CU):Fn3 P w K mg base (k+1) "rests_by" sp:=
 qI (t3:=(Bk.Y5 S_cells_of)) F VX bd hm (λcdv A outer s H E hr=>(qg (jL (qb 1) (zB rfl (qm (qo (i:=3) (VX.nd)) (qm (qo (i:=4) (VX.nd)) zC)))) (qk (qt (zx JW WZ rfl m_tuple PyProof.Rows.boot_tuple (qa (VU ["p","q","banks","a","b"] [none,none,some 0,some 3,some 4] rfl (DM (qh qC hr rfl (qa (qb 2) qe))) (λ_ _ _=>(zB rfl (qm (jgn 0) (qm (jgn 1) zC)))) (λ_ _ _=>jp) (λ_ _ _=>(JA (qy (qV (qb 3) (qb 0)) (qV (qb 4) (qb 1))) (qb 2))) (by kernel_rfl) (by kernel_rfl)) qe)))))) read
abbrev Q6:Stmt:=top 12
abbrev CB:List Str:=["dealing","walk"]
abbrev EU:List Str:=["dealing","walk"]
def LB:FnScope CB EU (qj Q6):=⟨rfl,rfl,rfl,by decide +kernel,rfl,by decide +kernel,by decide +kernel⟩
def MB {S_factors_of:Sp3} {S_rests_by:Sp3} (F:Fun K "rests_of" "rests_of" Q6 f fd) (bd:zr K fd EU []) (hm:mg "rests_of" = some (.ref f)) (qs:Fn3 P w K mg base k "factors_of" S_factors_of) (zl:Fn3 P w K mg base k "rests_by" S_rests_by) 
  (read:Rd sp 2 (Pv.VL S_factors_of S_rests_by) CB):Fn3 P w K mg base (k+1) "rests_of" sp:=
 qI (t3:=(Pv.VL S_factors_of S_rests_by)) F LB bd hm (λcdv A outer s H E hr=>(qk (qt (qh zl hr rfl (qa (qq (qb 0) qd) (qa (qh qs hr rfl (qa (qb 0) qe)) (qa (qb 1) qe))))))) read
abbrev jV:Stmt:=top 13
abbrev WT:List Str:=["dealing","walk"]
abbrev UF:List Str:=["dealing","walk"]
def SZ:FnScope WT UF (qj jV):=⟨rfl,rfl,rfl,by decide +kernel,rfl,by decide +kernel,by decide +kernel⟩
def TH {S_rests_of:Sp3} {S_first_alike:Sp3} (F:Fun K "is_unlike" "is_unlike" jV f fd) (bd:zr K fd UF []) (hm:mg "is_unlike" = some (.ref f)) (qP:Fn3 P w K mg base k "rests_of" S_rests_of) (qJ:Fn3 P w K mg base k "first_alike" S_first_alike) 
  (read:Rd sp 2 (Pv.JJ S_rests_of S_first_alike) WT):Fn3 P w K mg base (k+1) "is_unlike" sp:=
 qI (t3:=(Pv.JJ S_rests_of S_first_alike)) F SZ bd hm (λcdv A outer s H E hr=>(qk (qt (Q5 qjn qhg (qh qJ hr rfl (qa (qh qP hr rfl (qa (qb 0) (qa (qb 1) qe))) qe)) qdD (qE _))))) read
abbrev Z6:Stmt:=top 14
abbrev W5:List Str:=["dealing","down","along","a","b","many"]
abbrev XE:List Str:=["dealing","down","along"]
def ZX:FnScope W5 XE (qj Z6):=⟨rfl,rfl,rfl,by decide +kernel,rfl,by decide +kernel,by decide +kernel⟩
def NZ {S_factors_of:Sp3} (F:Fun K "longest" "longest" Z6 f fd) (bd:zr K fd XE []) (hm:mg "longest" = some (.ref f)) (qs:Fn3 P w K mg base k "factors_of" S_factors_of) 
  (read:Rd sp 3 (Pv.UM S_factors_of) W5):Fn3 P w K mg base (k+1) "longest" sp:=
 qI (t3:=(Pv.UM S_factors_of)) F ZX bd hm (λcdv A outer s H E hr=>(qg (jL (qh qs hr rfl (qa (qb 0) qe)) (zB rfl (qm (qo (i:=3) (ZX.nd)) (qm (qo (i:=4) (ZX.nd)) zC)))) (qg (qS 5 ZX.nd qd) (qg (RR PassesOwn.never (qX (CJ hr.units) EG (JA (qV (qb 5) (qy (qV (qb 3) (qb 1)) (qV (qb 4) (qb 2)))) (qq (qb 0) qd)) qd (qE _)) (qk (KL 5 ZX.nd qd))) (qk (qt (qb 5))))))) read
abbrev YK:Stmt:=top 15
abbrev RP:List Str:=["dealing","high","wide"]
abbrev R6:List Str:=["dealing","high"]
def WR:FnScope RP R6 (qj YK):=⟨rfl,rfl,rfl,by decide +kernel,rfl,by decide +kernel,by decide +kernel⟩
def qaI {S_is_unlike:Sp3} (F:Fun K "widest" "widest" YK f fd) (bd:zr K fd R6 []) (hm:mg "widest" = some (.ref f)) (qw:Fn3 P w K mg base k "is_unlike" S_is_unlike) 
  (read:Rd sp 2 (Pv.WG S_is_unlike) RP):Fn3 P w K mg base (k+1) "widest" sp:=
 qI (t3:=(Pv.WG S_is_unlike)) F WR bd hm (λcdv A outer s H E hr=>(qg (qS 2 WR.nd qd) (qg (RR PassesOwn.never (CS (qh qw hr rfl (qa (qb 0) (qa (qA (qa ze (qa (qb 1) (qa (qy (qb 2) qd) qe)))) qe)))) (qk (KL 2 WR.nd qd))) (qk (qt (qb 2)))))) read
abbrev YQ:Stmt:=top 16
abbrev RY:List Str:=["dealing"]
abbrev C5:List Str:=["dealing"]
def qbk:FnScope RY C5 (qj YQ):=⟨rfl,rfl,rfl,by decide +kernel,rfl,by decide +kernel,by decide +kernel⟩
def qbO {S_widest:Sp3} (F:Fun K "blocks" "blocks" YQ f fd) (bd:zr K fd C5 []) (hm:mg "blocks" = some (.ref f)) (js:Fn3 P w K mg base k "widest" S_widest) (m_range:mg "range" = none)
  (read:Rd sp 1 (Pv.D4 S_widest) RY):Fn3 P w K mg base (k+1) "blocks" sp:=
 qI (t3:=(Pv.D4 S_widest)) F qbk bd hm (λcdv A outer s H E hr=>(qk (qt (VU ["high","dealing"] [none,some 0] rfl (j6 rfl m_range (qa qd (qa (qy (qq (qb 0) qd) qd) qe)) (h1:=by intro _ _ _ h;simpa [qc,qi] using h)) (λ_ _ _=>(jgn 0)) (λ_ _ _=>jp) (λ_ _ _=>(qh js hr rfl (qa (qb 1) (qa (qb 0) qe)))) (by kernel_rfl) (by kernel_rfl))))) read
abbrev ZU:Stmt:=top 17
abbrev YD:List Str:=["dealing","walk"]
abbrev W0:List Str:=["dealing","walk"]
def N0:FnScope YD W0 (qj ZU):=⟨rfl,rfl,rfl,by decide +kernel,rfl,by decide +kernel,by decide +kernel⟩
def qac {S_is_unlike:Sp3} {S_starts:Sp3} (F:Fun K "is_free" "is_free" ZU f fd) (bd:zr K fd W0 []) (hm:mg "is_free" = some (.ref f)) (qw:Fn3 P w K mg base k "is_unlike" S_is_unlike) (jv:Fn3 P w K mg base k "starts" S_starts) (m_len:mg "len" = none)
  (read:Rd sp 2 (Pv.UT S_is_unlike S_starts) YD):Fn3 P w K mg base (k+1) "is_free" sp:=
 qI (t3:=(Pv.UT S_is_unlike S_starts)) F N0 bd hm (λcdv A outer s H E hr=>(qk (qt (CQ (Q5 TY JB (qz zb zw rfl m_len PySem.boot_len (qa (qh jv hr rfl (qa (qb 0) (qa (qb 1) qe))) qe)) qd (qE _)) (KN (qh qw hr rfl (qa (qb 0) (qa (qb 1) qe)))))))) read
abbrev jC:Stmt:=top 18
abbrev DO:List Str:=["dealing","many","rows","columns"]
abbrev YO:List Str:=["dealing","many"]
def JF:FnScope DO YO (qj jC):=⟨rfl,rfl,rfl,by decide +kernel,rfl,by decide +kernel,by decide +kernel⟩
def C9 {S_is_free:Sp3} (F:Fun K "free_steps" "free_steps" jC f fd) (bd:zr K fd YO []) (hm:mg "free_steps" = some (.ref f)) (zG:Fn3 P w K mg base k "is_free" S_is_free) (m_range:mg "range" = none)
  (read:Rd sp 2 (Pv.Q9 S_is_free) DO):Fn3 P w K mg base (k+1) "free_steps" sp:=
 qI (t3:=(Pv.Q9 S_is_free)) F JF bd hm (λcdv A outer s H E hr=>(qg (jL (D7 (qb 0) (V1 qd) (V1 qd)) (zB rfl (qm (qo (i:=2) (JF.nd)) (qm (qo (i:=3) (JF.nd)) zC)))) (qk (qt (qay ["down","along","columns","dealing","many"] [none,none,some 3,some 0,some 1] rfl (qN rfl m_range (qa (qb 2) qe) (h1:=by intro _ _ _ h;simpa [qc,qi] using h)) (λ_ _ _=>(jgn 0)) (λ_ _ _=>jp) (λ_ _ _=>(j6 rfl m_range (qa (j5 qd (qb 2)) (qa (qb 2) qe)) (h1:=by intro _ _ _ h;simpa [qc,qi] using h))) (λ_ _ _=>(jgn 1)) (λ_ _ _=>qeJ (jpt (qiM (jpt (qjo (qX TY JB (qb 0) qd (qE _)) (qdW (qX TY JB (qb 1) qd (qE _))))) (qho (CS (qh zG hr rfl (qa (qb 3) (qa (qA (qa ze (qa (qb 0) (qa (qb 1) (qa (qb 4) qe))))) qe)))))))) (λ_ _ _=>(qA (qa (qb 0) (qa (qb 1) qe)))) (by kernel_rfl) (by kernel_rfl)))))) read
abbrev ZY:Stmt:=top 20
abbrev WJ:List Str:=["_law_cell","_law_k","_law_m"]
abbrev XI:List Str:=["_law_cell","_law_k"]
def CG:FnScope WJ XI (qj ZY):=⟨rfl,rfl,rfl,by decide +kernel,rfl,by decide +kernel,by decide +kernel⟩
def NT (F:Fun K "_law_mix" "_law_mix" ZY f fd) (bd:zr K fd XI []) (hm:mg "_law_mix" = some (.ref f))  
  (read:Rd sp 2 (Bk.U0) WJ):Fn3 P w K mg base (k+1) "_law_mix" sp:=
 qI (t3:=(Bk.U0)) F CG bd hm (λcdv A outer s H E hr=>(qg (qS 2 CG.nd (JA (qV (qy (qy (JA (qb 0) qd) (qV (qV (qb 1) (qb 1)) qd)) qd) qd) qd)) (qk (qt (JA (qV (qb 2) (qb 2)) qd))))) read
abbrev Q1:Stmt:=top 21
abbrev DH:List Str:=["_law_script","_law_k","_law_cell","_law_own"]
abbrev ET:List Str:=["_law_script","_law_k"]
def UC:FnScope DH ET (qj Q1):=⟨rfl,rfl,rfl,by decide +kernel,rfl,by decide +kernel,by decide +kernel⟩
def L9 (F:Fun K "_law_left" "_law_left" Q1 f fd) (bd:zr K fd ET []) (hm:mg "_law_left" = some (.ref f))  (m_len:mg "len" = none) (m_abs:mg "abs" = none)
  (read:Rd sp 2 (Bk.Y0) DH):Fn3 P w K mg base (k+1) "_law_left" sp:=
 qI (t3:=(Bk.Y0)) F UC bd hm (λcdv A outer s H E hr=>(qg (qS 2 UC.nd (qc0 (qX qc1 JB (qb 1) (qz zb zw rfl m_len PySem.boot_len (qa (qb 0) qe)) (qE _)) (qq (qb 0) (qb 1)) qd)) (qg (qS 3 UC.nd (qc0 (qX qn7 JB (qz NH qba rfl m_abs PyProof.Rows.boot_abs (qa (qb 2) qe)) (ql9 qd qd) (qE _)) (qz NH qba rfl m_abs PyProof.Rows.boot_abs (qa (qb 2) qe)) qd)) (qk (qt (QJ (qa (qb 3) (qa (qy (qb 2) (qV qd (qb 1))) (qa qd qe))))))))) read
abbrev QT:Stmt:=top 22
abbrev EL:List Str:=["_law_left_here","_law_many_here","_law_digit"]
abbrev EB:List Str:=["_law_left_here","_law_many_here"]
def W9:FnScope EL EB (qj QT):=⟨rfl,rfl,rfl,by decide +kernel,rfl,by decide +kernel,by decide +kernel⟩
def LQ {S_law_mix:Sp3} (F:Fun K "_law_pick" "_law_pick" QT f fd) (bd:zr K fd EB []) (hm:mg "_law_pick" = some (.ref f)) (F_law_mix:Fn3 P w K mg base k "_law_mix" S_law_mix) 
  (read:Rd sp 2 (Bk.Y8 S_law_mix) EL):Fn3 P w K mg base (k+1) "_law_pick" sp:=
 qI (t3:=(Bk.Y8 S_law_mix)) F W9 bd hm (λcdv A outer s H E hr=>(qg (jL (qy (qq (qb 0) qd) qd) (qfe (qb 0) qd)) (qg (jj (qX TY JB (qq (qb 0) qd) qd (qE _)) (qg (qS 2 W9.nd (JA (qq (qb 0) qd) (qb 1))) (qg (jL (WV (qq (qb 0) qd) (qb 1)) (qfe (qb 0) qd)) (qk (qt (qb 2))))) zc) (qk (qt (JA (WV (qh F_law_mix hr rfl (qa (qh F_law_mix hr rfl (qa (qq (qb 0) qd) (qa (qq (qb 0) qd) qe))) (qa (qy (qq (qb 0) qd) qd) qe))) qd) (qb 1))))))) read
abbrev jZ:Stmt:=top 23
abbrev UD:List Str:=["_law_left_here","_law_wide","_law_rows","_law_columns"]
abbrev V7:List Str:=["_law_left_here"]
def YH:FnScope UD V7 (qj jZ):=⟨rfl,rfl,rfl,by decide +kernel,rfl,by decide +kernel,by decide +kernel⟩
def KF {S_law_pick:Sp3} (F:Fun K "_law_sides" "_law_sides" jZ f fd) (bd:zr K fd V7 []) (hm:mg "_law_sides" = some (.ref f)) (F_law_pick:Fn3 P w K mg base k "_law_pick" S_law_pick) 
  (read:Rd sp 1 (Bk.JY S_law_pick) UD):Fn3 P w K mg base (k+1) "_law_sides" sp:=
 qI (t3:=(Bk.JY S_law_pick)) F YH bd hm (λcdv A outer s H E hr=>(qg (qS 1 YH.nd (qq (QJ (qa qd (qa qd (qa qd (qa qd qe))))) (qh F_law_pick hr rfl (qa (qb 0) (qa qd qe))))) (qg (VQ (i:=2) (j:=3) rfl YH.nd rfl rfl (by decide) rfl rfl (qa (qy qd (qh F_law_pick hr rfl (qa (qb 0) (qa (qb 1) qe)))) (qa (qy qd (qh F_law_pick hr rfl (qa (qb 0) (qa (qb 1) qe)))) qe))) (qk (qt (qq (QJ (qa (qA (qa (qb 2) (qa (qb 3) qe))) (qa (qA (qa (qb 2) (qa (qb 3) qe))) (qa (qA (qa (qb 2) (qa (qb 3) qe))) (qa (qA (qa (qb 2) (qa (qb 2) qe))) qe))))) (qh F_law_pick hr rfl (qa (qb 0) (qa qd qe))))))))) read
abbrev ZV:Stmt:=top 24
abbrev XN:List Str:=["_law_one","_law_other"]
abbrev XC:List Str:=["_law_one","_law_other"]
def CN:FnScope XN XC (qj ZV):=⟨rfl,rfl,rfl,by decide +kernel,rfl,by decide +kernel,by decide +kernel⟩
def qad (F:Fun K "_law_gcd" "_law_gcd" ZV f fd) (bd:zr K fd XC []) (hm:mg "_law_gcd" = some (.ref f))  
  (read:Rd sp 2 (Bk.UN) XN):Fn3 P w K mg base (k+1) "_law_gcd" sp:=
 qI (t3:=(Bk.UN)) F CN bd hm (λcdv A outer s H E hr=>(qg (RR PassesOwn.never (qX TY JB (qb 1) qd (qE _)) (qk (VQ (i:=0) (j:=1) rfl CN.nd rfl rfl (by decide) rfl rfl (qa (qb 1) (qa (JA (qb 0) (qb 1)) qe))))) (qk (qt (qb 0))))) read
abbrev QR:Stmt:=top 25
abbrev ZZ:List Str:=["_law_left_here","_law_rows","_law_columns","_law_banks","_law_wide"]
abbrev ED:List Str:=["_law_left_here"]
def QX:FnScope ZZ ED (qj QR):=⟨rfl,rfl,rfl,by decide +kernel,rfl,by decide +kernel,by decide +kernel⟩
def LM {S_law_sides:Sp3} {S_law_pick:Sp3} (F:Fun K "_law_skew" "_law_skew" QR f fd) (bd:zr K fd ED []) (hm:mg "_law_skew" = some (.ref f)) (F_law_sides:Fn3 P w K mg base k "_law_sides" S_law_sides) (F_law_pick:Fn3 P w K mg base k "_law_pick" S_law_pick) 
  (read:Rd sp 1 (Bk.VB S_law_sides S_law_pick) ZZ):Fn3 P w K mg base (k+1) "_law_skew" sp:=
 qI (t3:=(Bk.VB S_law_sides S_law_pick)) F QX bd hm (λcdv A outer s H E hr=>(qg (jL (qh F_law_sides hr rfl (qa (qb 0) qe)) (zB rfl (qm (qo (i:=1) (QX.nd)) (qm (qo (i:=2) (QX.nd)) zC)))) (qg (qS 3 QX.nd (qy qd (qh F_law_pick hr rfl (qa (qb 0) (qa (qq (QJ (qa qd (qa qd (qa qd (qa qd qe))))) (qh F_law_pick hr rfl (qa (qb 0) (qa qd qe)))) qe))))) (qg (qS 4 QX.nd (qq (QJ (qa (qb 3) (qa qd (qa qd qe)))) (qh F_law_pick hr rfl (qa (qb 0) (qa qd qe))))) (qk (qt (qA (qa ze (qa (qb 1) (qa (qb 2) (qa (qb 3) (qa (qh F_law_pick hr rfl (qa (qb 0) (qa (qb 4) qe))) (qa (qh F_law_pick hr rfl (qa (qb 0) (qa (qb 4) qe))) qe))))))))))))) read
abbrev j0:Stmt:=top 26
abbrev V4:List Str:=["_law_left_here","_law_rows","_law_columns","_law_banks","_law_places","_law_turn"]
abbrev V9:List Str:=["_law_left_here"]
def z9:FnScope V4 V9 (qj j0):=⟨rfl,rfl,rfl,by decide +kernel,rfl,by decide +kernel,by decide +kernel⟩
def KA {S_law_sides:Sp3} {S_law_pick:Sp3} {S_law_gcd:Sp3} (F:Fun K "_law_rests" "_law_rests" j0 f fd) (bd:zr K fd V9 []) (hm:mg "_law_rests" = some (.ref f)) (F_law_sides:Fn3 P w K mg base k "_law_sides" S_law_sides) (F_law_pick:Fn3 P w K mg base k "_law_pick" S_law_pick) (F_law_gcd:Fn3 P w K mg base k "_law_gcd" S_law_gcd) (m_range:mg "range" = none)
  (read:Rd sp 1 (Bk.J3 S_law_sides S_law_pick S_law_gcd) V4):Fn3 P w K mg base (k+1) "_law_rests" sp:=
 qI (t3:=(Bk.J3 S_law_sides S_law_pick S_law_gcd)) F z9 bd hm (λcdv A outer s H E hr=>(qg (jL (qh F_law_sides hr rfl (qa (qb 0) qe)) (zB rfl (qm (qo (i:=1) (z9.nd)) (qm (qo (i:=2) (z9.nd)) zC)))) (qg (qS 3 z9.nd (qy qd (qh F_law_pick hr rfl (qa (qb 0) (qa (qq (QJ (qa qd (qa qd (qa qd qe)))) (qh F_law_pick hr rfl (qa (qb 0) (qa qd qe)))) qe))))) (qg (qS 4 z9.nd (qy (VR (WV (qV (VR (qb 1)) (qb 2)) (qb 3))) (qh F_law_pick hr rfl (qa (qb 0) (qa qd qe))))) (qg (QK PassesOwn.never rfl (qN rfl m_range (qa qd qe) (h1:=by intro _ _ _ h;simpa [qc,qi] using h)) (qo (i:=5) (z9.nd)) (qk (jj (qX TY JB (qh F_law_gcd hr rfl (qa (qb 3) (qa (qb 4) qe))) qd (qE _)) (qk (qS 4 z9.nd (qy (qb 4) qd))) zc))) (qk (qt (qA (qa ze (qa (qb 1) (qa (qb 2) (qa (qb 3) (qa (qb 4) qe))))))))))))) read
abbrev j1:Stmt:=top 27
abbrev JN:List Str:=["_law_left_here"]
abbrev VW:List Str:=["_law_left_here"]
def KD:FnScope JN VW (qj j1):=⟨rfl,rfl,rfl,by decide +kernel,rfl,by decide +kernel,by decide +kernel⟩
def J0 (S_law_pick:Sp3) (S_law_rests:Sp3) (S_law_skew:Sp3):TS3:=(zd (if3 (tb3 (o3 (QC false) (cb3 S_law_pick (qc (v3 0) (qc (c3 (.int 3)) qi))) (c3 (.int 0)))) (cb3 S_law_rests (qc (v3 0) qi)) (cb3 S_law_skew (qc (v3 0) qi))))
def SY {S_law_pick:Sp3} {S_law_rests:Sp3} {S_law_skew:Sp3} (F:Fun K "_law_plain" "_law_plain" j1 f fd) (bd:zr K fd VW []) (hm:mg "_law_plain" = some (.ref f)) (F_law_pick:Fn3 P w K mg base k "_law_pick" S_law_pick) (F_law_rests:Fn3 P w K mg base k "_law_rests" S_law_rests) (F_law_skew:Fn3 P w K mg base k "_law_skew" S_law_skew) 
  (read:Rd sp 1 (J0 S_law_pick S_law_rests S_law_skew) JN):Fn3 P w K mg base (k+1) "_law_plain" sp:=
 qI (t3:=(J0 S_law_pick S_law_rests S_law_skew)) F KD bd hm (λcdv A outer s H E hr=>(qk (qt (qc0 (qX (zj hr.units) qU (qh F_law_pick hr rfl (qa (qb 0) (qa qd qe))) qd (qE _)) (qh F_law_rests hr rfl (qa (qb 0) qe)) (qh F_law_skew hr rfl (qa (qb 0) qe)))))) read
abbrev j4:Stmt:=top 28
abbrev QW:List Str:=["_law_left_here","_law_dealing","_law_rows","_law_columns","_law_places","_law_turn"]
abbrev VY:List Str:=["_law_left_here"]
def jA:FnScope QW VY (qj j4):=⟨rfl,rfl,rfl,by decide +kernel,rfl,by decide +kernel,by decide +kernel⟩
def JM (S_law_plain:Sp3) (S_law_pick:Sp3) (S_law_gcd:Sp3):TS3:=(qO (zg (cb3 S_law_plain (qc (v3 0) qi)) (gn3 1)) (qO (WD 2 3 (qc (o3 (iI (·-·)) (c3 (.int 16)) (cb3 S_law_pick (qc (v3 0) (qc (c3 (.int 4)) qi)))) (qc (o3 (iI (·-·)) (c3 (.int 16)) (cb3 S_law_pick (qc (v3 0) (qc (c3 (.int 4)) qi)))) qi))) (qO (QB (tb3 (o3 (QC false) (cb3 S_law_pick (qc (v3 0) (qc (c3 (.int 2)) qi))) (c3 (.int 0)))) (zd (v3 1)) za) (qO (QB (tb3 (o3 (QC false) (o3 ix3 (v3 1) (c3 (.int 0))) (c3 (.str "skew")))) (zd (o3 zS (zU (qc (c3 (.str "skew")) (qc (v3 2) (qc (v3 3) qi)))) (qcy (v3 1) (sp3 (c3 (.int 3))) np3))) za) (qO (zg (u3 T9 (o3 (iC M6 (·/·)) (o3 (iC zE (·*·)) (u3 T9 (v3 2)) (v3 3)) (o3 ix3 (v3 1) (c3 (.int 3))))) (gn3 4)) (qO (DP (zz (qc (c3 (.int 32)) qi)) (gn3 5) (QB (tb3 (o3 (iB λi j=>decide (j<i)) (cb3 S_law_gcd (qc (o3 ix3 (v3 1) (c3 (.int 3))) (qc (v3 4) qi))) (c3 (.int 1)))) (zg (o3 zS (v3 4) (c3 (.int 1))) (gn3 4)) za)) (zd (zU (qc (c3 (.str "rests")) (qc (v3 2) (qc (v3 3) (qc (o3 ix3 (v3 1) (c3 (.int 3))) (qc (v3 4) qi)))))))))))))
def TX {S_law_plain:Sp3} {S_law_pick:Sp3} {S_law_gcd:Sp3} (F:Fun K "_law_great" "_law_great" j4 f fd) (bd:zr K fd VY []) (hm:mg "_law_great" = some (.ref f)) (F_law_plain:Fn3 P w K mg base k "_law_plain" S_law_plain) (F_law_pick:Fn3 P w K mg base k "_law_pick" S_law_pick) (F_law_gcd:Fn3 P w K mg base k "_law_gcd" S_law_gcd) (m_range:mg "range" = none)
  (read:Rd sp 1 (JM S_law_plain S_law_pick S_law_gcd) QW):Fn3 P w K mg base (k+1) "_law_great" sp:=
 qI (t3:=(JM S_law_plain S_law_pick S_law_gcd)) F jA bd hm (λcdv A outer s H E hr=>(qg (qS 1 jA.nd (qh F_law_plain hr rfl (qa (qb 0) qe))) (qg (VQ (i:=2) (j:=3) rfl jA.nd rfl rfl (by decide) rfl rfl (qa (j5 qd (qh F_law_pick hr rfl (qa (qb 0) (qa qd qe)))) (qa (j5 qd (qh F_law_pick hr rfl (qa (qb 0) (qa qd qe)))) qe))) (qg (jj (qX (zj hr.units) qU (qh F_law_pick hr rfl (qa (qb 0) (qa qd qe))) qd (qE _)) (qk (qt (qb 1))) zc) (qg (jj (qX (zj hr.units) qU (qq (qb 1) qd) ze (qE _)) (qk (qt (qy (qA (qa ze (qa (qb 2) (qa (qb 3) qe)))) (D7 (qb 1) (V1 qd) qgI)))) zc) (qg (qS 4 jA.nd (VR (WV (qV (VR (qb 2)) (qb 3)) (qq (qb 1) qd)))) (qg (QK PassesOwn.never rfl (qN rfl m_range (qa qd qe) (h1:=by intro _ _ _ h;simpa [qc,qi] using h)) (qo (i:=5) (jA.nd)) (qk (jj (qX TY JB (qh F_law_gcd hr rfl (qa (qq (qb 1) qd) (qa (qb 4) qe))) qd (qE _)) (qk (qS 4 jA.nd (qy (qb 4) qd))) zc))) (qk (qt (qA (qa ze (qa (qb 2) (qa (qb 3) (qa (qq (qb 1) qd) (qa (qb 4) qe))))))))))))))) read
abbrev Q2:Stmt:=top 29
abbrev VI:List Str:=["_law_dealing","_law_two","_law_one","_law_other"]
abbrev DA:List Str:=["_law_dealing"]
def V3:FnScope VI DA (qj Q2):=⟨rfl,rfl,rfl,by decide +kernel,rfl,by decide +kernel,by decide +kernel⟩
def Y6 (S_law_size:Sp3):TS3:=(qO (QB (tb3 (o3 (in3 false) (o3 ix3 (v3 0) (c3 (.int 0))) (zU (qc (c3 (.str "skew")) (qc (c3 (.str "rests")) qi))))) (zd (qcy (v3 0) (sp3 (c3 (.int 1))) (sp3 (c3 (.int 4))))) za) (qO (QB (tb3 (o3 (QC false) (o3 ix3 (v3 0) (c3 (.int 0))) (c3 (.str "bits")))) (qO (zg (VV (qc (c3 (.int 1)) (qc (c3 (.int 2)) (qc (c3 (.int 4)) (qc (c3 (.int 8)) (qc (c3 (.int 16)) (qc (c3 (.int 32)) qi))))))) (gn3 1)) (zd (zU (qc (o3 ix3 (v3 1) (o3 ix3 (v3 0) (c3 (.int 1)))) (qc (o3 ix3 (v3 1) (o3 ix3 (v3 0) (c3 (.int 2)))) (qc (o3 ix3 (v3 1) (cb3 UA (qc (o3 ix3 (v3 0) (c3 (.int 3))) qi))) qi)))))) za) (qO (QB (tb3 (o3 (QC false) (o3 ix3 (v3 0) (c3 (.int 0))) (c3 (.str "table")))) (zd (zU (qc (cb3 UA (qc (o3 ix3 (v3 0) (c3 (.int 2))) qi)) (qc (cb3 UA (qc (o3 ix3 (o3 ix3 (v3 0) (c3 (.int 2))) (c3 (.int 0))) qi)) (qc (o3 ix3 (v3 0) (c3 (.int 1))) qi))))) za) (qO (WD 2 3 (qc (cb3 S_law_size (qc (o3 ix3 (v3 0) (c3 (.int 1))) qi)) (qc (cb3 S_law_size (qc (o3 ix3 (v3 0) (c3 (.int 2))) qi)) qi))) (zd (cb3 VP (qc (lc3 (qcH (qc (v3 2) (qc (v3 3) qi))) (jf 2 (qr (gn3 0) (qr (gn3 1) ji))) tt3 (o3 (iC zE (·*·)) (v3 0) (v3 1)) [none,none]) qi)))))))
def KT {S_law_size:Sp3} (F:Fun K "_law_size" "_law_size" Q2 f fd) (bd:zr K fd DA []) (hm:mg "_law_size" = some (.ref f)) (qM:Fn3 P w K mg base k "_law_size" S_law_size) (m_len:mg "len" = none) (m_zip:mg "zip" = none) (m_tuple:mg "tuple" = none)
  (read:Rd sp 1 (Y6 S_law_size) VI):Fn3 P w K mg base (k+1) "_law_size" sp:=
 qI (t3:=(Y6 S_law_size)) F V3 bd hm (λcdv A outer s H E hr=>(qg (jj (qX qaX qh4 (qq (qb 0) qd) (qA (qa ze (qa ze qe))) (by with_unfolding_all rfl)) (qk (qt (D7 (qb 0) (V1 qd) (V1 qd)))) zc) (qg (jj (qX (zj hr.units) qU (qq (qb 0) qd) ze (qE _)) (qg (qS 1 V3.nd (QJ (qa qd (qa qd (qa qd (qa qd (qa qd (qa qd qe)))))))) (qk (qt (qA (qa (qq (qb 1) (qq (qb 0) qd)) (qa (qq (qb 1) (qq (qb 0) qd)) (qa (qq (qb 1) (qz zb zw rfl m_len PySem.boot_len (qa (qq (qb 0) qd) qe))) qe))))))) zc) (qg (jj (qX (zj hr.units) qU (qq (qb 0) qd) ze (qE _)) (qk (qt (qA (qa (qz zb zw rfl m_len PySem.boot_len (qa (qq (qb 0) qd) qe)) (qa (qz zb zw rfl m_len PySem.boot_len (qa (qq (qq (qb 0) qd) qd) qe)) (qa (qq (qb 0) qd) qe)))))) zc) (qg (VQ (i:=2) (j:=3) rfl V3.nd rfl rfl (by decide) rfl rfl (qa (qh qM hr rfl (qa (qq (qb 0) qd) qe)) (qa (qh qM hr rfl (qa (qq (qb 0) qd) qe)) qe))) (qk (qt (zx JW WZ rfl m_tuple PyProof.Rows.boot_tuple (qa (VU ["_law_x","_law_y"] [none,none] rfl (qkU rfl m_zip (qa (qb 2) (qa (qb 3) qe))) (λ_ _ _=>(zB rfl (qm (jgn 0) (qm (jgn 1) zC)))) (λ_ _ _=>jp) (λ_ _ _=>(qV (qb 0) (qb 1))) (by kernel_rfl) (by kernel_rfl)) qe))))))))) read
abbrev EZ:Stmt:=top 30
abbrev qbA:List Str:=["_law_number","_law_found","_law_t"]
abbrev qcf:List Str:=["_law_number"]
abbrev QY:Stmt:=top 31
abbrev VF:List Str:=["_law_dealing","_law_i","_law_j","_law_rows","_law_columns","_law_banks","_law_some","_law_high","_law_wide","_law_more"]
abbrev EV:List Str:=["_law_dealing","_law_i","_law_j"]
def zZ:FnScope VF EV (qj QY):=⟨rfl,rfl,rfl,by decide +kernel,rfl,by decide +kernel,by decide +kernel⟩
def KU {S_law_size:Sp3} {S_law_odd:Sp3} {S_law_bank:Sp3} (F:Fun K "_law_bank" "_law_bank" QY f fd) (bd:zr K fd EV []) (hm:mg "_law_bank" = some (.ref f)) (qM:Fn3 P w K mg base k "_law_size" S_law_size) (F_law_odd:Fn3 P w K mg base k "_law_odd" S_law_odd) (zy:Fn3 P w K mg base k "_law_bank" S_law_bank) (m_enumerate:mg "enumerate" = none) (m_sum:mg "sum" = none)
  (read:Rd sp 3 (Bk.YY S_law_size S_law_odd S_law_bank) VF):Fn3 P w K mg base (k+1) "_law_bank" sp:=
 qI (t3:=(Bk.YY S_law_size S_law_odd S_law_bank)) F zZ bd hm (λcdv A outer s H E hr=>(qg (jL (qh qM hr rfl (qa (qb 0) qe)) (zB rfl (qm (qo (i:=3) (zZ.nd)) (qm (qo (i:=4) (zZ.nd)) (qm (qo (i:=5) (zZ.nd)) zC))))) (qg (jj (qX (zj hr.units) qU (qq (qb 0) qd) ze (qE _)) (qk (qt (JA (qy (qV (qq (qb 0) qd) (qb 1)) (qV (qq (qb 0) qd) (qb 2))) (qb 5)))) zc) (qg (jj (qX (zj hr.units) qU (qq (qb 0) qd) ze (qE _)) (qk (qt (JA (qy (qV (qb 1) (qb 4)) (qb 2)) (qb 5)))) zc) (qg (jj (qX (zj hr.units) qU (qq (qb 0) qd) ze (qE _)) (qg (MV 6 ["_law_t","_law_mask","_law_j","_law_i","_law_columns"] [none,none,some 2,some 1,some 4] rfl zZ.nd (qgE rfl m_enumerate (qa (qq (qb 0) qd) qe)) (λ_ _ _=>(zB rfl (qm (jgn 0) (qm (jgn 1) zC)))) (λ_ _ _=>qeJ (CS (qh F_law_odd hr rfl (qa (qgw (qy (qV (qb 3) (qb 4)) (qb 2)) (qb 1)) qe)))) (λ_ _ _=>(qq (QJ (qa qd (qa qd (qa qd (qa qd (qa qd qe)))))) (qb 0))) (by kernel_rfl) (by kernel_rfl) rfl rfl) (qk (qt (qz (RH rfl) qgO rfl m_sum PyProof.Rows.boot_sum (qa (qb 6) qe))))) zc) (qg (jj (qX (zj hr.units) qU (qq (qb 0) qd) ze (qE _)) (qk (qt (qq (qq (qq (qb 0) qd) (qb 1)) (qb 2)))) zc) (qg (jL (qh qM hr rfl (qa (qq (qb 0) qd) qe)) (zB rfl (qm (qo (i:=7) (zZ.nd)) (qm (qo (i:=8) (zZ.nd)) (qm (qo (i:=9) (zZ.nd)) zC))))) (qk (qt (qy (qV (qh zy hr rfl (qa (qq (qb 0) qd) (qa (WV (qb 1) (qb 7)) (qa (WV (qb 2) (qb 8)) qe)))) (qb 9)) (qh zy hr rfl (qa (qq (qb 0) qd) (qa (JA (qb 1) (qb 7)) (qa (JA (qb 2) (qb 8)) qe)))))))))))))) read
abbrev Q7:Stmt:=top 32
abbrev VG:List Str:=["_law_dealing","_law_rows","_law_columns","_law_banks"]
abbrev EH:List Str:=["_law_dealing"]
def JG:FnScope VG EH (qj Q7):=⟨rfl,rfl,rfl,by decide +kernel,rfl,by decide +kernel,by decide +kernel⟩
def VE (S_law_size:Sp3) (S_law_bank:Sp3):TS3:=(qO (zg (cb3 S_law_size (qc (v3 0) qi)) (jf 3 (qr (gn3 1) (qr (gn3 2) (qr (gn3 3) ji))))) (zd (lc3 (zz (qc (v3 1) qi)) (gn3 0) tt3 (lc3 (zz (qc (v3 2) qi)) (gn3 0) tt3 (cb3 S_law_bank (qc (v3 1) (qc (v3 2) (qc (v3 0) qi)))) [none,some 1,some 0]) [none,some 0,some 2])))
def KZ {S_law_size:Sp3} {S_law_bank:Sp3} (F:Fun K "_law_grid" "_law_grid" Q7 f fd) (bd:zr K fd EH []) (hm:mg "_law_grid" = some (.ref f)) (qM:Fn3 P w K mg base k "_law_size" S_law_size) (zy:Fn3 P w K mg base k "_law_bank" S_law_bank) (m_range:mg "range" = none)
  (read:Rd sp 1 (VE S_law_size S_law_bank) VG):Fn3 P w K mg base (k+1) "_law_grid" sp:=
 qI (t3:=(VE S_law_size S_law_bank)) F JG bd hm (λcdv A outer s H E hr=>(qg (jL (qh qM hr rfl (qa (qb 0) qe)) (zB rfl (qm (qo (i:=1) (JG.nd)) (qm (qo (i:=2) (JG.nd)) (qm (qo (i:=3) (JG.nd)) zC))))) (qk (qt (VU ["_law_i","_law_dealing","_law_columns"] [none,some 0,some 2] rfl (qN rfl m_range (qa (qb 1) qe) (h1:=by intro _ _ _ h;simpa [qc,qi] using h)) (λ_ _ _=>(jgn 0)) (λ_ _ _=>jp) (λ_ _ _=>(VU ["_law_j","_law_dealing","_law_i"] [none,some 1,some 0] rfl (qN rfl m_range (qa (qb 2) qe) (h1:=by intro _ _ _ h;simpa [qc,qi] using h)) (λ_ _ _=>(jgn 0)) (λ_ _ _=>jp) (λ_ _ _=>(qh zy hr rfl (qa (qb 1) (qa (qb 2) (qa (qb 0) qe))))) (by kernel_rfl) (by kernel_rfl))) (by kernel_rfl) (by kernel_rfl)))))) read
abbrev jB:Stmt:=top 33
abbrev ZF:List Str:=["_law_grid_here","_law_cells_here","_law_downs","_law_alongs","_law_many_here","_law_clear","_law_i","_law_j"]
abbrev YC:List Str:=["_law_grid_here","_law_cells_here"]
def zo:FnScope ZF YC (qj jB):=⟨rfl,rfl,rfl,by decide +kernel,rfl,by decide +kernel,by decide +kernel⟩
def ZL:TS3:=(qO (WD 2 3 (qc (lc3 (WQ (v3 1)) (jf 2 (qr (gn3 0) (qr (gn3 1) ji))) tt3 (v3 0) [none,none]) (qc (lc3 (WQ (v3 1)) (jf 2 (qr (gn3 0) (qr (gn3 1) ji))) tt3 (v3 1) [none,none]) qi))) (qO (zg (zU (qc (c3 (.int 0)) (qc (c3 (.int 0)) qi))) (jf 2 (qr (gn3 4) (qr (gn3 5) ji)))) (qO (DP (zz (qc (u3 T9 (cb3 TW (qc (v3 2) qi))) (qc (o3 (iI (·-·)) (cb3 UA (qc (v3 0) qi)) (cb3 SQ (qc (v3 2) qi))) qi))) (gn3 6) (DP (zz (qc (u3 T9 (cb3 TW (qc (v3 3) qi))) (qc (o3 (iI (·-·)) (cb3 UA (qc (o3 ix3 (v3 0) (c3 (.int 0))) qi)) (cb3 SQ (qc (v3 3) qi))) qi))) (gn3 7) (qO (zg (o3 zS (v3 4) (c3 (.int 1))) (gn3 4)) (zg (o3 zS (v3 5) (cb3 RK (qc (o3 (QC false) (qgP (lc3 (WQ (v3 1)) (jf 2 (qr (gn3 0) (qr (gn3 1) ji))) tt3 (o3 ix3 (o3 ix3 (v3 2) (o3 zS (v3 4) (v3 0))) (o3 zS (v3 3) (v3 1))) [none,none,some 0,some 7,some 6])) (cb3 UA (qc (v3 1) qi))) qi))) (gn3 5))))) (zd (zU (qc (v3 4) (qc (v3 5) qi)))))))
def C6 (F:Fun K "_law_looked" "_law_looked" jB f fd) (bd:zr K fd YC []) (hm:mg "_law_looked" = some (.ref f))  (m_min:mg "min" = none) (m_len:mg "len" = none) (m_max:mg "max" = none) (m_range:mg "range" = none) (m_set:mg "set" = none) (m_int:mg "int" = none)
  (read:Rd sp 2 (ZL) ZF):Fn3 P w K mg base (k+1) "_law_looked" sp:=
 qI (t3:=(ZL)) F zo bd hm (λcdv A outer s H E hr=>(qg (VQ (i:=2) (j:=3) rfl zo.nd rfl rfl (by decide) rfl rfl (qa (VU ["_law_p","_law_q"] [none,none] rfl (DM (qb 1)) (λ_ _ _=>(zB rfl (qm (jgn 0) (qm (jgn 1) zC)))) (λ_ _ _=>jp) (λ_ _ _=>(qb 0)) (by kernel_rfl) (by kernel_rfl)) (qa (VU ["_law_p","_law_q"] [none,none] rfl (DM (qb 1)) (λ_ _ _=>(zB rfl (qm (jgn 0) (qm (jgn 1) zC)))) (λ_ _ _=>jp) (λ_ _ _=>(qb 1)) (by kernel_rfl) (by kernel_rfl)) qe))) (qg (jL (qA (qa qd (qa qd qe))) (zB rfl (qm (qo (i:=4) (zo.nd)) (qm (qo (i:=5) (zo.nd)) zC)))) (qg (QK PassesOwn.never rfl (j6 rfl m_range (qa (VR (qz (UL rfl) D9 rfl m_min PyProof.Rows.boot_min (qa (qb 2) qe))) (qa (j5 (qz zb zw rfl m_len PySem.boot_len (qa (qb 0) qe)) (qz (U3 rfl) D8 rfl m_max PyProof.Rows.boot_max (qa (qb 2) qe))) qe)) (h1:=by intro _ _ _ h;simpa [qc,qi] using h)) (qo (i:=6) (zo.nd)) (qk (QK PassesOwn.never rfl (j6 rfl m_range (qa (VR (qz (UL rfl) D9 rfl m_min PyProof.Rows.boot_min (qa (qb 3) qe))) (qa (j5 (qz zb zw rfl m_len PySem.boot_len (qa (qq (qb 0) qd) qe)) (qz (U3 rfl) D8 rfl m_max PyProof.Rows.boot_max (qa (qb 3) qe))) qe)) (h1:=by intro _ _ _ h;simpa [qc,qi] using h)) (qo (i:=7) (zo.nd)) (qg (qS 4 zo.nd (qy (qb 4) qd)) (qk (qS 5 zo.nd (qy (qb 5) (zx jX YR rfl m_int PyProof.Rows.boot_int (qa (Q5 (zj hr.units) qU (qaD rfl rfl m_len rfl m_set (VU ["_law_p","_law_q","_law_grid_here","_law_j","_law_i"] [none,none,some 0,some 7,some 6] rfl (DM (qb 1)) (λ_ _ _=>(zB rfl (qm (jgn 0) (qm (jgn 1) zC)))) (λ_ _ _=>jp) (λ_ _ _=>(qq (qq (qb 2) (qy (qb 4) (qb 0))) (qy (qb 3) (qb 1)))) (by kernel_rfl) (by kernel_rfl))) (qz zb zw rfl m_len PySem.boot_len (qa (qb 1) qe)) (qE _)) qe))))))))) (qk (qt (qA (qa (qb 4) (qa (qb 5) qe))))))))) read
abbrev Q0:Stmt:=top 34
abbrev VM:List Str:=["_law_left_here"]
abbrev EK:List Str:=["_law_left_here"]
def K9:FnScope VM EK (qj Q0):=⟨rfl,rfl,rfl,by decide +kernel,rfl,by decide +kernel,by decide +kernel⟩
def L0 {S_law_pick:Sp3} (F:Fun K "_law_many" "_law_many" Q0 f fd) (bd:zr K fd EK []) (hm:mg "_law_many" = some (.ref f)) (F_law_pick:Fn3 P w K mg base k "_law_pick" S_law_pick) 
  (read:Rd sp 1 (Bk.YZ S_law_pick) VM):Fn3 P w K mg base (k+1) "_law_many" sp:=
 qI (t3:=(Bk.YZ S_law_pick)) F K9 bd hm (λcdv A outer s H E hr=>(qk (qt (qy qd (qh F_law_pick hr rfl (qa (qb 0) (qa (qq (QJ (qa qd (qa qd (qa qd (qa qd (qa qd (qa qd (qa qd (qa qd qe))))))))) (qh F_law_pick hr rfl (qa (qb 0) (qa qd qe)))) qe))))))) read
abbrev Q4:Stmt:=top 35
abbrev ER:List Str:=["_law_left_here","_law_way","_law_lying","_law_high","_law_wide","_law_down","_law_along","_law_pairs","_law_far","_law_turn","_law_pair"]
abbrev EN:List Str:=["_law_left_here"]
def zV:FnScope ER EN (qj Q4):=⟨rfl,rfl,rfl,by decide +kernel,rfl,by decide +kernel,by decide +kernel⟩
def LH {S_law_pick:Sp3} {S_law_many:Sp3} (F:Fun K "_law_walk" "_law_walk" Q4 f fd) (bd:zr K fd EN []) (hm:mg "_law_walk" = some (.ref f)) (F_law_pick:Fn3 P w K mg base k "_law_pick" S_law_pick) (F_law_many:Fn3 P w K mg base k "_law_many" S_law_many) (m_int:mg "int" = none) (m_range:mg "range" = none) (m_tuple:mg "tuple" = none)
  (read:Rd sp 1 (Bk.VN S_law_pick S_law_many) ER):Fn3 P w K mg base (k+1) "_law_walk" sp:=
 qI (t3:=(Bk.VN S_law_pick S_law_many)) F zV bd hm (λcdv A outer s H E hr=>(qg (qS 1 zV.nd (qh F_law_pick hr rfl (qa (qb 0) (qa qd qe)))) (qg (jj (qX qc1 JB (qb 1) qd (qE _)) (qk (qt (qA (qa (qq (QJ (qa ze (qa ze (qa ze (qa ze qe))))) (qb 1)) (qa (qh F_law_many hr rfl (qa (qb 0) qe)) qe))))) zc) (qg (jj (qX qc1 JB (qb 1) qd (qE _)) (qg (VQ (i:=2) (j:=3) rfl zV.nd rfl rfl (by decide) rfl rfl (qa (qh F_law_pick hr rfl (qa (qb 0) (qa qd qe))) (qa (qy qd (qh F_law_pick hr rfl (qa (qb 0) (qa qd qe)))) qe))) (qg (qS 4 zV.nd (qy qd (qh F_law_pick hr rfl (qa (qb 0) (qa (WV qd (qb 3)) qe))))) (qk (qt (qq (QJ (qa (qA (qa ze (qa (qb 3) (qa (qb 4) qe)))) (qa (qA (qa ze (qa (qb 4) (qa (qb 3) qe)))) qe))) (qb 2)))))) zc) (qg (jj (qX qc1 JB (qb 1) qd (qE _)) (qg (VQ (i:=5) (j:=6) rfl zV.nd rfl rfl (by decide) rfl rfl (qa (j5 (qh F_law_pick hr rfl (qa (qb 0) (qa qd qe))) qd) (qa (j5 (qh F_law_pick hr rfl (qa (qb 0) (qa qd qe))) qd) qe))) (qg (jj (qX (zj hr.units) qU (qh F_law_pick hr rfl (qa (qb 0) (qa qd qe))) qd (qE _)) (qk (qt (qA (qa ze (qa (qV qd (qb 5)) (qa (qy (qV qd (qb 6)) (zx jX YR rfl m_int PyProof.Rows.boot_int (qa (CQ (Q5 (zj hr.units) qU (qb 5) qd (qE _)) (KN (Q5 (zj hr.units) qU (qb 6) qd (qE _)))) qe))) (qa (qy qd (qh F_law_pick hr rfl (qa (qb 0) (qa qd qe)))) qe))))))) zc) (qk (qt (qA (qa ze (qa (qb 5) (qa (qy (qb 6) (zx jX YR rfl m_int PyProof.Rows.boot_int (qa (CQ (Q5 (zj hr.units) qU (qb 5) qd (qE _)) (KN (Q5 (zj hr.units) qU (qb 6) qd (qE _)))) qe))) (qa (qh F_law_many hr rfl (qa (qb 0) qe)) qe))))))))) zc) (qg (VQ (i:=7) (j:=8) rfl zV.nd rfl rfl (by decide) rfl rfl (qa (QJ qe) (qa (qy qd (qV qd (zx jX YR rfl m_int PyProof.Rows.boot_int (qa (Q5 (zj hr.units) qU (qh F_law_pick hr rfl (qa (qb 0) (qa qd qe))) qd (qE _)) qe)))) qe))) (qg (QK PassesOwn.never rfl (qN rfl m_range (qa (qh F_law_many hr rfl (qa (qb 0) qe)) qe) (h1:=by intro _ _ _ h;simpa [qc,qi] using h)) (qo (i:=9) (zV.nd)) (qg (qS 10 zV.nd (qA (qa (qV (qb 8) (j5 (qh F_law_pick hr rfl (qa (qb 0) (qa qd qe))) qd)) (qa (qV (qb 8) (j5 (qh F_law_pick hr rfl (qa (qb 0) (qa qd qe))) qd)) qe)))) (qk (jj (qX (qbD hr.units) qbw (qb 10) (qb 7) (by with_unfolding_all rfl)) (qk (MA (qbu (qb 7) (qa (qb 10) qe)))) zc)))) (qk (qt (qA (qa ze (qa (zx JW WZ rfl m_tuple PyProof.Rows.boot_tuple (qa (qb 7) qe)) qe)))))))))))) read
abbrev jW:Stmt:=top 36
abbrev JS:List Str:=["_law_walk_here","_law_found","_law_p","_law_down","_law_along"]
abbrev V0:List Str:=["_law_walk_here"]
def j8:FnScope JS V0 (qj jW):=⟨rfl,rfl,rfl,by decide +kernel,rfl,by decide +kernel,by decide +kernel⟩
def T3 (F:Fun K "_law_cells" "_law_cells" jW f fd) (bd:zr K fd V0 []) (hm:mg "_law_cells" = some (.ref f))  (m_list:mg "list" = none) (m_range:mg "range" = none)
  (read:Rd sp 1 (Bk.J2) JS):Fn3 P w K mg base (k+1) "_law_cells" sp:=
 qI (t3:=(Bk.J2)) F j8 bd hm (λcdv A outer s H E hr=>(qg (jj (qX (zj hr.units) qU (qq (qb 0) qd) ze (qE _)) (qk (qt (zx DR MS rfl m_list PyProof.Rows.boot_list (qa (qq (qb 0) qd) qe)))) zc) (qg (jj (qX (zj hr.units) qU (qq (qb 0) qd) ze (qE _)) (qg (qS 1 j8.nd (QJ qe)) (qg (QK PassesOwn.never rfl (qN rfl m_range (qa (qq (qb 0) qd) qe) (h1:=by intro _ _ _ h;simpa [qc,qi] using h)) (qo (i:=2) (j8.nd)) (qk (MA (SW (qb 1) (qa (VU ["_law_q","_law_p"] [none,some 2] rfl (qN rfl m_range (qa (qq (qb 0) qd) qe) (h1:=by intro _ _ _ h;simpa [qc,qi] using h)) (λ_ _ _=>(jgn 0)) (λ_ _ _=>jp) (λ_ _ _=>(qA (qa (qb 1) (qa (qb 0) qe)))) (by kernel_rfl) (by kernel_rfl)) qe))))) (qk (qt (qb 1))))) zc) (qg (jL (qgN (XF (qA (qa qd (qa qd qe))) (XF (qA (qa qd (qa qd qe))) (XF (qA (qa qd (qa qd qe))) (XF (qA (qa qd (qa (VR qd) qe))) (XF (D7 (qb 0) (V1 qd) (V1 qd)) qkf))))) (qq (qb 0) qd)) (zB rfl (qm (qo (i:=3) (j8.nd)) (qm (qo (i:=4) (j8.nd)) zC)))) (qk (qt (VU ["_law_t","_law_down","_law_along"] [none,some 3,some 4] rfl (qN rfl m_range (qa (qq (qb 0) (VR qd)) qe) (h1:=by intro _ _ _ h;simpa [qc,qi] using h)) (λ_ _ _=>(jgn 0)) (λ_ _ _=>jp) (λ_ _ _=>(qA (qa (qV (qb 0) (qb 1)) (qa (qV (qb 0) (qb 2)) qe)))) (by kernel_rfl) (by kernel_rfl)))))))) read
abbrev j2:Stmt:=top 37
abbrev QV:List Str:=["_law_left_here","_law_wide","_law_down","_law_along"]
abbrev UE:List Str:=["_law_left_here"]
def YL:FnScope QV UE (qj j2):=⟨rfl,rfl,rfl,by decide +kernel,rfl,by decide +kernel,by decide +kernel⟩
def JV (S_law_pick:Sp3):TS3:=(qO (zg (o3 ix3 (VV (qc (c3 (.int 3)) (qc (c3 (.int 3)) (qc (c3 (.int 15)) qi)))) (cb3 S_law_pick (qc (v3 0) (qc (c3 (.int 3)) qi)))) (gn3 1)) (qO (WD 2 3 (qc (o3 (iI (·-·)) (cb3 S_law_pick (qc (v3 0) (qc (o3 zS (o3 (iC zE (·*·)) (c3 (.int 2)) (v3 1)) (c3 (.int 1))) qi))) (v3 1)) (qc (o3 (iI (·-·)) (cb3 S_law_pick (qc (v3 0) (qc (o3 zS (o3 (iC zE (·*·)) (c3 (.int 2)) (v3 1)) (c3 (.int 1))) qi))) (v3 1)) qi))) (zd (zU (qc (v3 2) (qc (o3 zS (v3 3) (cb3 RK (qc (VT (o3 (QC false) (v3 2) (c3 (.int 0))) (o3 (QC false) (v3 3) (c3 (.int 0)))) qi))) qi))))))
def KM {S_law_pick:Sp3} (F:Fun K "_law_steps" "_law_steps" j2 f fd) (bd:zr K fd UE []) (hm:mg "_law_steps" = some (.ref f)) (F_law_pick:Fn3 P w K mg base k "_law_pick" S_law_pick) (m_int:mg "int" = none)
  (read:Rd sp 1 (JV S_law_pick) QV):Fn3 P w K mg base (k+1) "_law_steps" sp:=
 qI (t3:=(JV S_law_pick)) F YL bd hm (λcdv A outer s H E hr=>(qg (qS 1 YL.nd (qq (QJ (qa qd (qa qd (qa qd qe)))) (qh F_law_pick hr rfl (qa (qb 0) (qa qd qe))))) (qg (VQ (i:=2) (j:=3) rfl YL.nd rfl rfl (by decide) rfl rfl (qa (j5 (qh F_law_pick hr rfl (qa (qb 0) (qa (qy (qV qd (qb 1)) qd) qe))) (qb 1)) (qa (j5 (qh F_law_pick hr rfl (qa (qb 0) (qa (qy (qV qd (qb 1)) qd) qe))) (qb 1)) qe))) (qk (qt (qA (qa (qb 2) (qa (qy (qb 3) (zx jX YR rfl m_int PyProof.Rows.boot_int (qa (CQ (Q5 (zj hr.units) qU (qb 2) qd (qE _)) (KN (Q5 (zj hr.units) qU (qb 3) qd (qE _)))) qe))) qe)))))))) read
abbrev zp:Stmt:=top 38
abbrev jc:List Str:=["_law_dealing","_law_grid_here","_law_down","_law_along","_law_told","_law_many_here","_law_clear","_law_found"]
abbrev jP:List Str:=["_law_dealing","_law_grid_here","_law_down","_law_along"]
def zn:FnScope jc jP (qj zp):=⟨rfl,rfl,rfl,by decide +kernel,rfl,by decide +kernel,by decide +kernel⟩
def jb (S_longest:Sp3) (S_law_looked:Sp3):TS3:=(qO (zg (cb3 S_longest (qc (v3 0) (qc (v3 2) (qc (v3 3) qi)))) (gn3 4)) (qO (DP (WQ (zU (qc (zU (qc (v3 4) (qc (c3 (.bl true)) qi))) (qc (zU (qc (o3 zS (v3 4) (c3 (.int 1))) (qc (c3 (.bl false)) qi))) qi)))) (jf 2 (qr (gn3 5) (qr (gn3 6) ji))) (qO (zg (cb3 S_law_looked (qc (v3 1) (qc (lc3 (zz (qc (v3 5) qi)) (gn3 0) tt3 (zU (qc (o3 (iC zE (·*·)) (v3 0) (v3 1)) (qc (o3 (iC zE (·*·)) (v3 0) (v3 2)) qi))) [none,some 2,some 3]) qi))) (gn3 7)) (QB (tb3 (o3 (QC true) (o3 ix3 (v3 7) (c3 (.int 1))) (o3 (iC zE (·*·)) (o3 ix3 (v3 7) (c3 (.int 0))) (cb3 RK (qc (v3 6) qi))))) (zd (c3 (.bl false))) za))) (zd (c3 (.bl true)))))
def UY {S_longest:Sp3} {S_law_looked:Sp3} (F:Fun K "_law_steps_right" "_law_steps_right" zp f fd) (bd:zr K fd jP []) (hm:mg "_law_steps_right" = some (.ref f)) (j7:Fn3 P w K mg base k "longest" S_longest) (qp:Fn3 P w K mg base k "_law_looked" S_law_looked) (m_range:mg "range" = none) (m_int:mg "int" = none)
  (read:Rd sp 4 (jb S_longest S_law_looked) jc):Fn3 P w K mg base (k+1) "_law_steps_right" sp:=
 qI (t3:=(jb S_longest S_law_looked)) F zn bd hm (λcdv A outer s H E hr=>(qg (qS 4 zn.nd (qh j7 hr rfl (qa (qb 0) (qa (qb 2) (qa (qb 3) qe))))) (qg (QK PassesOwn.never rfl (DM (qA (qa (qA (qa (qb 4) (qa UX qe))) (qa (qA (qa (qy (qb 4) qd) (qa UX qe))) qe)))) (zB rfl (qm (qo (i:=5) (zn.nd)) (qm (qo (i:=6) (zn.nd)) zC))) (qg (qS 7 zn.nd (qh qp hr rfl (qa (qb 1) (qa (VU ["_law_t","_law_down","_law_along"] [none,some 2,some 3] rfl (qN rfl m_range (qa (qb 5) qe) (h1:=by intro _ _ _ h;simpa [qc,qi] using h)) (λ_ _ _=>(jgn 0)) (λ_ _ _=>jp) (λ_ _ _=>(qA (qa (qV (qb 0) (qb 1)) (qa (qV (qb 0) (qb 2)) qe)))) (by kernel_rfl) (by kernel_rfl)) qe)))) (qk (jj (qX (CJ hr.units) EG (qq (qb 7) qd) (qV (qq (qb 7) qd) (zx jX YR rfl m_int PyProof.Rows.boot_int (qa (qb 6) qe))) (qE _)) (qk (qt UX)) zc)))) (qk (qt UX))))) read
abbrev zh:Stmt:=top 39
abbrev zP:List Str:=["_law_dealing","_law_grid_here","_law_told","_law_high","_law_wide","_law_clear","_law_cells_here","_law_p","_law_found"]
abbrev jD:List Str:=["_law_dealing","_law_grid_here"]
def qH:FnScope zP jD (qj zh):=⟨rfl,rfl,rfl,by decide +kernel,rfl,by decide +kernel,by decide +kernel⟩
def zM (S_blocks:Sp3) (S_law_looked:Sp3):TS3:=(qO (zg (cb3 S_blocks (qc (v3 0) qi)) (gn3 2)) (qO (DP (zz (qc (c3 (.int 1)) (qc (o3 zS (cb3 qdp (qc (cb3 UA (qc (v3 2) qi)) (qc (cb3 UA (qc (v3 1) qi)) qi))) (c3 (.int 1))) qi))) (gn3 3) (DP (WQ (zU (qc (zU (qc (o3 ix3 (v3 2) (o3 (iI (·-·)) (v3 3) (c3 (.int 1)))) (qc (c3 (.bl true)) qi))) (qc (zU (qc (o3 zS (o3 ix3 (v3 2) (o3 (iI (·-·)) (v3 3) (c3 (.int 1)))) (c3 (.int 1))) (qc (c3 (.bl false)) qi))) qi)))) (jf 2 (qr (gn3 4) (qr (gn3 5) ji))) (qO (zg (VV qi) (gn3 6)) (qO (DP (zz (qc (v3 3) qi)) (gn3 7) (XZ (bm3 qck (v3 6) (qc (lc3 (zz (qc (v3 4) qi)) (gn3 0) tt3 (zU (qc (v3 1) (qc (v3 0) qi))) [none,some 7]) qi)))) (qO (zg (if3 (tb3 (o3 (QC true) (v3 6) (VV qi))) (cb3 S_law_looked (qc (v3 1) (qc (v3 6) qi))) (zU (qc (c3 (.int 0)) (qc (c3 (.int 0)) qi)))) (gn3 8)) (QB (tb3 (o3 (QC true) (o3 ix3 (v3 8) (c3 (.int 1))) (o3 (iC zE (·*·)) (o3 ix3 (v3 8) (c3 (.int 0))) (cb3 RK (qc (v3 5) qi))))) (zd (c3 (.bl false))) za)))))) (zd (c3 (.bl true)))))
def V6 {S_blocks:Sp3} {S_law_looked:Sp3} (F:Fun K "_law_blocks_right" "_law_blocks_right" zh f fd) (bd:zr K fd jD []) (hm:mg "_law_blocks_right" = some (.ref f)) (Q8:Fn3 P w K mg base k "blocks" S_blocks) (qp:Fn3 P w K mg base k "_law_looked" S_law_looked) (m_len:mg "len" = none) (m_min:mg "min" = none) (m_range:mg "range" = none) (m_int:mg "int" = none)
  (read:Rd sp 2 (zM S_blocks S_law_looked) zP):Fn3 P w K mg base (k+1) "_law_blocks_right" sp:=
 qI (t3:=(zM S_blocks S_law_looked)) F qH bd hm (λcdv A outer s H E hr=>(qg (qS 2 qH.nd (qh Q8 hr rfl (qa (qb 0) qe))) (qg (QK PassesOwn.never rfl (j6 rfl m_range (qa qd (qa (qy (qz (T2 rfl) qbn rfl m_min PyProof.Rows.boot_min (qa (qz zb zw rfl m_len PySem.boot_len (qa (qb 2) qe)) (qa (qz zb zw rfl m_len PySem.boot_len (qa (qb 1) qe)) qe))) qd) qe)) (h1:=by intro _ _ _ h;simpa [qc,qi] using h)) (qo (i:=3) (qH.nd)) (qk (QK PassesOwn.never rfl (DM (qA (qa (qA (qa (qq (qb 2) (j5 (qb 3) qd)) (qa UX qe))) (qa (qA (qa (qy (qq (qb 2) (j5 (qb 3) qd)) qd) (qa UX qe))) qe)))) (zB rfl (qm (qo (i:=4) (qH.nd)) (qm (qo (i:=5) (qH.nd)) zC))) (qg (qS 6 qH.nd (QJ qe)) (qg (QK PassesOwn.never rfl (qN rfl m_range (qa (qb 3) qe) (h1:=by intro _ _ _ h;simpa [qc,qi] using h)) (qo (i:=7) (qH.nd)) (qk (MA (SW (qb 6) (qa (VU ["_law_q","_law_p"] [none,some 7] rfl (qN rfl m_range (qa (qb 4) qe) (h1:=by intro _ _ _ h;simpa [qc,qi] using h)) (λ_ _ _=>(jgn 0)) (λ_ _ _=>jp) (λ_ _ _=>(qA (qa (qb 1) (qa (qb 0) qe)))) (by kernel_rfl) (by kernel_rfl)) qe))))) (qg (qS 8 qH.nd (qc0 (qX (CJ hr.units) EG (qb 6) (QJ qe) (qE _)) (qh qp hr rfl (qa (qb 1) (qa (qb 6) qe))) (qA (qa qd (qa qd qe))))) (qk (jj (qX (CJ hr.units) EG (qq (qb 8) qd) (qV (qq (qb 8) qd) (zx jX YR rfl m_int PyProof.Rows.boot_int (qa (qb 5) qe))) (qE _)) (qk (qt UX)) zc)))))))) (qk (qt UX))))) read
abbrev zu:Stmt:=top 40
abbrev jr:List Str:=["_law_left_here","_law_dealing","_law_grid_here","_law_many_here","_law_told","_law_turn","_law_down","_law_along","_law_found","_law_due"]
abbrev QF:List Str:=["_law_left_here","_law_dealing","_law_grid_here"]
def qQ:FnScope jr QF (qj zu):=⟨rfl,rfl,rfl,by decide +kernel,rfl,by decide +kernel,by decide +kernel⟩
def jt (S_law_many:Sp3) (S_free_steps:Sp3) (S_law_pick:Sp3) (S_law_looked:Sp3):TS3:=(qO (zg (o3 zS (c3 (.int 1)) (o3 (iC (λ_ j=>0<j) (·%·)) (cb3 S_law_many (qc (v3 0) qi)) (c3 (.int 9)))) (gn3 3)) (qO (zg (cb3 S_free_steps (qc (v3 1) (qc (v3 3) qi))) (gn3 4)) (qO (DP (zz (qc (c3 (.int 20)) qi)) (gn3 5) (qO (zg (zU (qc (cb3 S_law_pick (qc (v3 0) (qc (cb3 UA (qc (v3 2) qi)) qi))) (qc (o3 (iI (·-·)) (o3 zS (cb3 S_law_pick (qc (v3 0) (qc (o3 (iI (·-·)) (o3 (iC zE (·*·)) (c3 (.int 2)) (cb3 UA (qc (o3 ix3 (v3 2) (c3 (.int 0))) qi))) (c3 (.int 1))) qi))) (c3 (.int 1))) (cb3 UA (qc (o3 ix3 (v3 2) (c3 (.int 0))) qi))) qi))) (jf 2 (qr (gn3 6) (qr (gn3 7) ji)))) (qO (zg (cb3 S_law_looked (qc (v3 2) (qc (lc3 (zz (qc (v3 3) qi)) (gn3 0) tt3 (zU (qc (o3 (iC zE (·*·)) (v3 0) (v3 1)) (qc (o3 (iC zE (·*·)) (v3 0) (v3 2)) qi))) [none,some 6,some 7]) qi))) (gn3 8)) (qO (zg (VT (o3 qmt (zU (qc (v3 6) (qc (v3 7) qi))) (zU (qc (c3 (.int 0)) (qc (c3 (.int 0)) qi)))) (VT (o3 (iB λi j=>decide (j<i)) (o3 ix3 (v3 8) (c3 (.int 0))) (c3 (.int 0))) (o3 (QC false) (o3 ix3 (v3 8) (c3 (.int 0))) (o3 ix3 (v3 8) (c3 (.int 1)))))) (gn3 9)) (QB (tb3 (o3 (QC true) (o3 (qmn false) (zU (qc (v3 6) (qc (v3 7) qi))) (v3 4)) (v3 9))) (zd (c3 (.bl false))) za))))) (zd (c3 (.bl true))))))
def DC {S_law_many:Sp3} {S_free_steps:Sp3} {S_law_pick:Sp3} {S_law_looked:Sp3} (F:Fun K "_law_free_right" "_law_free_right" zu f fd) (bd:zr K fd QF []) (hm:mg "_law_free_right" = some (.ref f)) (F_law_many:Fn3 P w K mg base k "_law_many" S_law_many) (zD:Fn3 P w K mg base k "free_steps" S_free_steps) (F_law_pick:Fn3 P w K mg base k "_law_pick" S_law_pick) (qp:Fn3 P w K mg base k "_law_looked" S_law_looked) (m_range:mg "range" = none) (m_len:mg "len" = none)
  (read:Rd sp 3 (jt S_law_many S_free_steps S_law_pick S_law_looked) jr):Fn3 P w K mg base (k+1) "_law_free_right" sp:=
 qI (t3:=(jt S_law_many S_free_steps S_law_pick S_law_looked)) F qQ bd hm (λcdv A outer s H E hr=>(qg (qS 3 qQ.nd (qy qd (JA (qh F_law_many hr rfl (qa (qb 0) qe)) qd))) (qg (qS 4 qQ.nd (qh zD hr rfl (qa (qb 1) (qa (qb 3) qe)))) (qg (QK PassesOwn.never rfl (qN rfl m_range (qa qd qe) (h1:=by intro _ _ _ h;simpa [qc,qi] using h)) (qo (i:=5) (qQ.nd)) (qg (jL (qA (qa (qh F_law_pick hr rfl (qa (qb 0) (qa (qz zb zw rfl m_len PySem.boot_len (qa (qb 2) qe)) qe))) (qa (j5 (qy (qh F_law_pick hr rfl (qa (qb 0) (qa (j5 (qV qd (qz zb zw rfl m_len PySem.boot_len (qa (qq (qb 2) qd) qe))) qd) qe))) qd) (qz zb zw rfl m_len PySem.boot_len (qa (qq (qb 2) qd) qe))) qe))) (zB rfl (qm (qo (i:=6) (qQ.nd)) (qm (qo (i:=7) (qQ.nd)) zC)))) (qg (qS 8 qQ.nd (qh qp hr rfl (qa (qb 2) (qa (VU ["_law_t","_law_down","_law_along"] [none,some 6,some 7] rfl (qN rfl m_range (qa (qb 3) qe) (h1:=by intro _ _ _ h;simpa [qc,qi] using h)) (λ_ _ _=>(jgn 0)) (λ_ _ _=>jp) (λ_ _ _=>(qA (qa (qV (qb 0) (qb 1)) (qa (qV (qb 0) (qb 2)) qe)))) (by kernel_rfl) (by kernel_rfl)) qe)))) (qg (qS 9 qQ.nd (CQ (Q5 (qil (Nat.lt_of_le_of_lt (Nat.le_add_right _ 64) hr.units)) qgi (qA (qa (qb 6) (qa (qb 7) qe))) (qA (qa qd (qa qd qe))) (qE _)) (CQ (Q5 TY JB (qq (qb 8) qd) qd (qE _)) (KN (Q5 (zj hr.units) qU (qq (qb 8) qd) (qq (qb 8) qd) (qE _)))))) (qk (jj (qX (CJ hr.units) EG (Q5 (qiv hr.units) qbw (qA (qa (qb 6) (qa (qb 7) qe))) (qb 4) (by with_unfolding_all rfl)) (qb 9) (qE _)) (qk (qt UX)) zc)))))) (qk (qt UX)))))) read
abbrev YE:Stmt:=top 41
abbrev qb5:List Str:=["_law_script","_law_k","_law_left_here","_law_dealing","_law_grid_here","_law_turn","_law_down","_law_along","_law_walk_here","_law_cells_here","_law_rests_here","_law_found"]
abbrev qlz:List Str:=["_law_script"]
def J6:FnScope qb5 qlz (qj YE):=⟨rfl,rfl,rfl,by decide +kernel,rfl,by decide +kernel,by decide +kernel⟩
def qfP (S_law_left:Sp3) (S_law_great:Sp3) (S_law_grid:Sp3) (S_law_steps:Sp3) (S_law_steps_right:Sp3) (S_law_free_right:Sp3) (S_law_blocks_right:Sp3) (S_law_walk:Sp3) (S_law_cells:Sp3) (S_rests_of:Sp3) (S_law_looked:Sp3):TS3:=(qO (DP (zz (qc (o3 zS (c3 (.int 1)) (cb3 qdp (qc (c3 (.int 3)) (qc (cb3 UA (qc (v3 0) qi)) qi)))) qi)) (gn3 1) (qO (zg (cb3 S_law_left (qc (v3 0) (qc (v3 1) qi))) (gn3 2)) (qO (zg (cb3 S_law_great (qc (v3 2) qi)) (gn3 3)) (qO (zg (cb3 S_law_grid (qc (v3 3) qi)) (gn3 4)) (qO (DP (zz (qc (c3 (.int 6)) qi)) (gn3 5) (qO (zg (cb3 S_law_steps (qc (v3 2) qi)) (jf 2 (qr (gn3 6) (qr (gn3 7) ji)))) (QB (qaf (tb3 (cb3 S_law_steps_right (qc (v3 3) (qc (v3 4) (qc (v3 6) (qc (v3 7) qi))))))) (zd (c3 (.bl false))) za))) (qO (QB (or3 (qaf (tb3 (cb3 S_law_blocks_right (qc (v3 3) (qc (v3 4) qi))))) (qaf (tb3 (cb3 S_law_free_right (qc (v3 2) (qc (v3 3) (qc (v3 4) qi))))))) (zd (c3 (.bl false))) za) (DP (zz (qc (c3 (.int 3)) qi)) (gn3 5) (qO (zg (cb3 S_law_walk (qc (v3 2) qi)) (gn3 8)) (qO (WD 9 10 (qc (cb3 S_law_cells (qc (v3 8) qi)) (qc (cb3 S_rests_of (qc (v3 3) (qc (v3 8) qi))) qi))) (qO (zg (cb3 S_law_looked (qc (v3 4) (qc (v3 9) qi))) (gn3 11)) (QB (tb3 (o3 (QC true) (o3 ix3 (v3 11) (c3 (.int 1))) (o3 (iC zE (·*·)) (o3 ix3 (v3 11) (c3 (.int 0))) (cb3 RK (qc (o3 (QC false) (MQ (v3 10)) (cb3 UA (qc (v3 10) qi))) qi))))) (zd (c3 (.bl false))) za))))))))))) (zd (c3 (.bl true))))
def qi8 {S_law_left:Sp3} {S_law_great:Sp3} {S_law_grid:Sp3} {S_law_steps:Sp3} {S_law_steps_right:Sp3} {S_law_free_right:Sp3} {S_law_blocks_right:Sp3} {S_law_walk:Sp3} {S_law_cells:Sp3} {S_rests_of:Sp3} {S_law_looked:Sp3} (F:Fun K "law" "law" YE f fd) (F_law_left:Fn3 P w K mg base k "_law_left" S_law_left) (F_law_great:Fn3 P w K mg base k "_law_great" S_law_great) (jx:Fn3 P w K mg base k "_law_grid" S_law_grid) (F_law_steps:Fn3 P w K mg base k "_law_steps" S_law_steps) (qR:Fn3 P w K mg base k "_law_steps_right" S_law_steps_right) (F_law_free_right:Fn3 P w K mg base k "_law_free_right" S_law_free_right) (qL:Fn3 P w K mg base k "_law_blocks_right" S_law_blocks_right) (F_law_walk:Fn3 P w K mg base k "_law_walk" S_law_walk) (ja:Fn3 P w K mg base k "_law_cells" S_law_cells) (qP:Fn3 P w K mg base k "rests_of" S_rests_of) (qp:Fn3 P w K mg base k "_law_looked" S_law_looked) (m_len:mg "len" = none) (m_min:mg "min" = none) (m_range:mg "range" = none) (m_set:mg "set" = none) (m_int:mg "int" = none)
  (read:Rd sp 1 (qfP S_law_left S_law_great S_law_grid S_law_steps S_law_steps_right S_law_free_right S_law_blocks_right S_law_walk S_law_cells S_rests_of S_law_looked) qb5):FnOk P w K mg base CX0 (k+1) f fd qlz (lSp K sp):=
 qcT (t3:=(qfP S_law_left S_law_great S_law_grid S_law_steps S_law_steps_right S_law_free_right S_law_blocks_right S_law_walk S_law_cells S_rests_of S_law_looked)) F J6 (λcdv A outer s H E hr=>(qg (QK PassesOwn.never rfl (qN rfl m_range (qa (qy qd (qz (T2 rfl) qbn rfl m_min PyProof.Rows.boot_min (qa qd (qa (qz zb zw rfl m_len PySem.boot_len (qa (qb 0) qe)) qe)))) qe) (h1:=by intro _ _ _ h;simpa [qc,qi] using h)) (qo (i:=1) (J6.nd)) (qg (qS 2 J6.nd (qh F_law_left hr rfl (qa (qb 0) (qa (qb 1) qe)))) (qg (qS 3 J6.nd (qh F_law_great hr rfl (qa (qb 2) qe))) (qg (qS 4 J6.nd (qh jx hr rfl (qa (qb 3) qe))) (qg (QK PassesOwn.never rfl (qN rfl m_range (qa qd qe) (h1:=by intro _ _ _ h;simpa [qc,qi] using h)) (qo (i:=5) (J6.nd)) (qg (jL (qh F_law_steps hr rfl (qa (qb 2) qe)) (zB rfl (qm (qo (i:=6) (J6.nd)) (qm (qo (i:=7) (J6.nd)) zC)))) (qk (jj (qb0 (CS (qh qR hr rfl (qa (qb 3) (qa (qb 4) (qa (qb 6) (qa (qb 7) qe))))))) (qk (qt UX)) zc)))) (qg (jj (jpt (qjo (qb0 (CS (qh qL hr rfl (qa (qb 3) (qa (qb 4) qe))))) (qdW (qb0 (CS (qh F_law_free_right hr rfl (qa (qb 2) (qa (qb 3) (qa (qb 4) qe))))))))) (qk (qt UX)) zc) (qk (QK PassesOwn.never rfl (qN rfl m_range (qa qd qe) (h1:=by intro _ _ _ h;simpa [qc,qi] using h)) (qo (i:=5) (J6.nd)) (qg (qS 8 J6.nd (qh F_law_walk hr rfl (qa (qb 2) qe))) (qg (VQ (i:=9) (j:=10) rfl J6.nd rfl rfl (by decide) rfl rfl (qa (qh ja hr rfl (qa (qb 8) qe)) (qa (qh qP hr rfl (qa (qb 3) (qa (qb 8) qe))) qe))) (qg (qS 11 J6.nd (qh qp hr rfl (qa (qb 4) (qa (qb 9) qe)))) (qk (jj (qX (CJ hr.units) EG (qq (qb 11) qd) (qV (qq (qb 11) qd) (zx jX YR rfl m_int PyProof.Rows.boot_int (qa (Q5 (zj hr.units) qU (NM rfl rfl m_len rfl m_set (qb 10)) (qz zb zw rfl m_len PySem.boot_len (qa (qb 10) qe)) (qE _)) qe))) (qE _)) (qk (qt UX)) zc))))))))))))) (qk (qt UX)))) read
end K93
namespace K93
open PySem L2 L3 Pu
def YX:PwS 0 (Bk.VB Bk.jY Bk.qF):=(ES (qde (eDr qdV (aOf qv)) (U7 2 (qY (gN 1) (qY (gN 2) U8))) [] ⟨rfl⟩ ⟨rfl⟩) (ES (LP (eO j3 (eOf (qx 1)) (eDr VZ (U2 (eO zk (eOf (qct (qf (qx 8) (qf (qx 8) (qf (qx 17) (qf (qx 32) qv)))) ⟨rfl⟩)) (eDr VZ (aOf (qf (qx 4) qv)))) (aOf qv)))) 3 [] ⟨rfl⟩ ⟨rfl⟩) (ES (LP (eO zk (eOf (qct (qf (bV 3) (qf (qx 10) (qf (qx 100) qv))) ⟨rfl⟩)) (eDr VZ (aOf (qf (qx 3) qv)))) 4 [false,false,false,true] ⟨rfl⟩ ⟨rfl⟩) (qaH (qmA (U2 (eOf (WF "skew")) (U2 (eOf (bV 1)) (U2 (eOf (bV 2)) (U2 (eOf (bV 3)) (U2 (eDr VZ (aOf (qf (bV 4) qv))) (U2 (eDr VZ (aOf (qf (bV 4) qv))) (aOf qv))))))) ⟨rfl⟩)))))
def QQ:Wm:=qhM YX 1 5 false
def K8:Rd (DSp QQ.W false) 1 (Bk.VB Bk.jY Bk.qF) ZZ:=W4 YX ZZ 1 false
def LR {n:Nat} {Q:QD}:QQ.W [] n Q=(0+1=1/\YX.w [.un,.un,.un,.un,.un] n (qgn false Q)):=id rfl
def JL:PwS 0 (K93.J0 Bk.qF Bk.ZK (DSp QQ.W false)):=(qaH (eIf (cTb (eO (V2 false) (eDr VZ (aOf (qf (qx 3) qv))) (eOf (qx 0)))) (eDr qfH (aOf qv)) (eDr (dSp QQ false) (aOf qv))))
def jM:Wm:=qhM JL 1 1 false
def TM:Rd (DSp jM.W false) 1 (K93.J0 Bk.qF Bk.ZK (DSp QQ.W false)) JN:=W4 JL JN 1 false
def TD {n:Nat} {Q:QD}:jM.W [] n Q=(0+1=1/\JL.w [.un] n (qgn false Q)):=id rfl
def jT:=((wIf (cOf (bTb (bO (opB λi j=>decide (j<i)) (qD qo0 (qf (bO zk (bV 1) (qx 3)) (qf (bV 4) qv))) (qx 1)))) (LP (eOf (bO j3 (bV 4) (qx 1))) 4 [false,false,false,false,true] ⟨rfl⟩ ⟨rfl⟩) TN):PwS 0 _)
def JU:PwS 0 (K93.JM (DSp jM.W false) Bk.qF Bk.JC):=(ES (LP (eDr (dSp jM false) (aOf qv)) 1 [] ⟨rfl⟩ ⟨rfl⟩) (ES (qmq (U2 (eO (opI (·-·)) (eOf (qx 16)) (eDr VZ (aOf (qf (qx 4) qv)))) (U2 (eO (opI (·-·)) (eOf (qx 16)) (eDr VZ (aOf (qf (qx 4) qv)))) (aOf qv))) 2 3 [] ⟨rfl⟩ ⟨rfl⟩) (ES (wIf (cTb (eO (V2 false) (eDr VZ (aOf (qf (qx 2) qv))) (eOf (qx 0)))) (qiz 1) TN) (ES (wIf (cOf (bTb (bO (V2 false) (bO zk (bV 1) (qx 0)) (WF "skew")))) (qaH (eOf (bO j3 (ZS (qf (WF "skew") (qf (bV 2) (qf (bV 3) qv))) ⟨rfl⟩) (bSl (bV 1) (bSp (qx 3)) bNp)))) TN) (ES (LP (eOf (qcm (bO (opC M6 (·/·)) (bO (opC zE (·*·)) (qcm (bV 2)) (bV 3)) (bO zk (bV 1) (qx 3))))) 4 [false,true,true,true] ⟨rfl⟩ ⟨rfl⟩) (ES (qiE (iOf (U9 (qf (qx 32) qv))) (gN 5) jT [] ⟨rfl⟩ ⟨rfl⟩) (qaH (eOf (ZS (qf (WF "rests") (qf (bV 2) (qf (bV 3) (qf (bO zk (bV 1) (qx 3)) (qf (bV 4) qv))))) ⟨rfl⟩)))))))))
def jR:Wm:=qhM JU 1 6 false
def T6:Rd (DSp jR.W false) 1 (K93.JM (DSp jM.W false) Bk.qF Bk.JC) QW:=W4 JU QW 1 false
def TQ {n:Nat} {Q:QD}:jR.W [] n Q=(0+1=1/\JU.w [.un,.un,.un,.un,.un,.un] n (qgn false Q)):=id rfl
def Z0:PuS (K93.Y6 (PSp (λ_=>none) false)):=(jS (sIf (bTb (bO (qoK false) (bO zk (bV 0) (qx 0)) (ZS (qf (WF "skew") (qf (WF "rests") qv)) ⟨rfl⟩))) (J5 (bSl (bV 0) (bSp (qx 1)) (bSp (qx 4)))) Z8) (jS (sIf (bTb (bO (V2 false) (bO zk (bV 0) (qx 0)) (WF "bits"))) (jS (SM (qct (qf (qx 1) (qf (qx 2) (qf (qx 4) (qf (qx 8) (qf (qx 16) (qf (qx 32) qv)))))) ⟨rfl⟩) 1 [] ⟨rfl⟩) (J5 (ZS (qf (bO zk (bV 1) (bO zk (bV 0) (qx 1))) (qf (bO zk (bV 1) (bO zk (bV 0) (qx 2))) (qf (bO zk (bV 1) (qD C7 (qf (bO zk (bV 0) (qx 3)) qv))) qv))) ⟨rfl⟩))) Z8) (jS (sIf (bTb (bO (V2 false) (bO zk (bV 0) (qx 0)) (WF "table"))) (J5 (ZS (qf (qD C7 (qf (bO zk (bV 0) (qx 2)) qv)) (qf (qD C7 (qf (bO zk (bO zk (bV 0) (qx 2)) (qx 0)) qv)) (qf (bO zk (bV 0) (qx 1)) qv))) ⟨rfl⟩)) Z8) (jS (qm7 (qf (qD (zA (λ_=>none) false) (qf (bO zk (bV 0) (qx 1)) qv)) (qf (qD (zA (λ_=>none) false) (qf (bO zk (bV 0) (qx 2)) qv)) qv)) 2 3 [true] ⟨rfl⟩) (J5 (qD qmy (qf (bLc (qph (qf (bV 2) (qf (bV 3) qv))) (U7 2 (qY (gN 0) (qY (gN 1) U8))) bTt (bO (opC zE (·*·)) (bV 0) (bV 1)) [none,none] ⟨rfl⟩) qv)))))))
def qM:List PyData->Option PyData:=Pu.run Z0.f 1 4 1000000000 false
def LX:Rd (PSp qM false) 1 (K93.Y6 (PSp (λ_=>none) false)) VI:=zt Z0 VI 1 1000000000 false
def L8 {x0:PyData}:qM [x0]=YS false (Z0.f 1000000000 [.sh x0,.un,.un,.un]):=id rfl
def ZT:PuS (Bk.YY (PSp qM false) (PSp (λ_=>none) false) (PSp (λ_=>none) false)):=(jS (DF (qD (zA qM false) (qf (bV 0) qv)) (U7 3 (qY (gN 3) (qY (gN 4) (qY (gN 5) U8)))) [true] ⟨rfl⟩) (jS (sIf (bTb (bO (V2 false) (bO zk (bV 0) (qx 0)) (WF "skew"))) (J5 (bO (opC (λ_ j=>0<j) (·%·)) (bO j3 (bO (opC zE (·*·)) (bO zk (bV 0) (qx 4)) (bV 1)) (bO (opC zE (·*·)) (bO zk (bV 0) (qx 5)) (bV 2))) (bV 5))) Z8) (jS (sIf (bTb (bO (V2 false) (bO zk (bV 0) (qx 0)) (WF "rests"))) (J5 (bO (opC (λ_ j=>0<j) (·%·)) (bO j3 (bO (opC zE (·*·)) (bV 1) (bV 4)) (bV 2)) (bV 5))) Z8) (jS (sIf (bTb (bO (V2 false) (bO zk (bV 0) (qx 0)) (WF "bits"))) (jS (SM (bLc (qjR (qf (bO zk (bV 0) (qx 3)) qv)) (U7 2 (qY (gN 0) (qY (gN 1) U8))) (bTb (qD (zA (λ_=>none) false) (qf (bO (opI Builtin.bitAnd) (bO j3 (bO (opC zE (·*·)) (bV 3) (bV 4)) (bV 2)) (bV 1)) qv))) (bO zk (qct (qf (qx 1) (qf (qx 2) (qf (qx 4) (qf (qx 8) (qf (qx 16) qv))))) ⟨rfl⟩) (bV 0)) [none,none,some 2,some 1,some 4] ⟨rfl⟩) 6 [true,true,true,false,true] ⟨rfl⟩) (J5 (qD qnM (qf (bV 6) qv)))) Z8) (jS (sIf (bTb (bO (V2 false) (bO zk (bV 0) (qx 0)) (WF "table"))) (J5 (bO zk (bO zk (bO zk (bV 0) (qx 2)) (bV 1)) (bV 2))) Z8) (jS (DF (qD (zA qM false) (qf (bO zk (bV 0) (qx 2)) qv)) (U7 3 (qY (gN 7) (qY (gN 8) (qY (gN 9) U8)))) [true] ⟨rfl⟩) (J5 (bO j3 (bO (opC zE (·*·)) (qD (zA (λ_=>none) false) (qf (bO zk (bV 0) (qx 1)) (qf (bO (opC M6 (·/·)) (bV 1) (bV 7)) (qf (bO (opC M6 (·/·)) (bV 2) (bV 8)) qv)))) (bV 9)) (qD (zA (λ_=>none) false) (qf (bO zk (bV 0) (qx 2)) (qf (bO (opC (λ_ j=>0<j) (·%·)) (bV 1) (bV 7)) (qf (bO (opC (λ_ j=>0<j) (·%·)) (bV 2) (bV 8)) qv))))))))))))
def zy:List PyData->Option PyData:=Pu.run ZT.f 3 10 1000000000 false
def K3:Rd (PSp zy false) 3 (Bk.YY (PSp qM false) (PSp (λ_=>none) false) (PSp (λ_=>none) false)) VF:=zt ZT VF 3 1000000000 false
def LD {x0 x1 x2:PyData}:zy [x0,x1,x2]=YS false (ZT.f 1000000000 [.sh x0,.sh x1,.sh x2,.un,.un,.un,.un,.un,.un,.un]):=id rfl
def VJ:PuS (K93.VE (PSp qM false) (PSp zy false)):=(jS (DF (qD (zA qM false) (qf (bV 0) qv)) (U7 3 (qY (gN 1) (qY (gN 2) (qY (gN 3) U8)))) [true] ⟨rfl⟩) (J5 (bLc (U9 (qf (bV 1) qv)) (gN 0) bTt (bLc (U9 (qf (bV 2) qv)) (gN 0) bTt (qD (zA zy false) (qf (bV 1) (qf (bV 2) (qf (bV 0) qv)))) [none,some 1,some 0] ⟨rfl⟩) [none,some 0,some 2] ⟨rfl⟩)))
def jx:List PyData->Option PyData:=Pu.run VJ.f 1 4 1000000000 true
def LV:Rd (PSp jx true) 1 (K93.VE (PSp qM false) (PSp zy false)) VG:=zt VJ VG 1 1000000000 true
def KS {x0:PyData}:jx [x0]=YS true (VJ.f 1000000000 [.sh x0,.un,.un,.un]):=id rfl
def ZI:PuS (K93.ZL):=(jS (qm7 (qf (bLc (qcl (bV 1)) (U7 2 (qY (gN 0) (qY (gN 1) U8))) bTt (bV 0) [none,none] ⟨rfl⟩) (qf (bLc (qcl (bV 1)) (U7 2 (qY (gN 0) (qY (gN 1) U8))) bTt (bV 1) [none,none] ⟨rfl⟩) qv)) 2 3 [false,true] ⟨rfl⟩) (jS (DF (ZS (qf (qx 0) (qf (qx 0) qv)) ⟨rfl⟩) (U7 2 (qY (gN 4) (qY (gN 5) U8))) [] ⟨rfl⟩) (jS (qcp (U9 (qf (qcm (qD qa0 (qf (bV 2) qv))) (qf (bO (opI (·-·)) (qD C7 (qf (bV 0) qv)) (qD qbh (qf (bV 2) qv))) qv))) (gN 6) (qcp (U9 (qf (qcm (qD qa0 (qf (bV 3) qv))) (qf (bO (opI (·-·)) (qD C7 (qf (bO zk (bV 0) (qx 0)) qv)) (qD qbh (qf (bV 3) qv))) qv))) (gN 7) (jS (SM (bO j3 (bV 4) (qx 1)) 4 [false,false,false,false,true] ⟨rfl⟩) (SM (bO j3 (bV 5) (qD qhN (qf (bO (V2 false) (qlH (bLc (qcl (bV 1)) (U7 2 (qY (gN 0) (qY (gN 1) U8))) bTt (bO zk (bO zk (bV 2) (bO j3 (bV 4) (bV 0))) (bO j3 (bV 3) (bV 1))) [none,none,some 0,some 7,some 6] ⟨rfl⟩)) (qD C7 (qf (bV 1) qv))) qv))) 5 [true,true,false,false,false,true,true,true] ⟨rfl⟩)) [true,false,false,true] ⟨rfl⟩) [true,false,true] ⟨rfl⟩) (J5 (ZS (qf (bV 4) (qf (bV 5) qv)) ⟨rfl⟩)))))
def qp:List PyData->Option PyData:=Pu.run ZI.f 2 8 1000000000 false
def RE:Rd (PSp qp false) 2 (K93.ZL) ZF:=zt ZI ZF 2 1000000000 false
def R7 {x0 x1:PyData}:qp [x0,x1]=YS false (ZI.f 1000000000 [.sh x0,.sh x1,.un,.un,.un,.un,.un,.un]):=id rfl
def zW:PuS (Bk.J2):=(jS (sIf (bTb (bO (V2 false) (bO zk (bV 0) (qx 0)) (WF "cells"))) (J5 (qD qmk (qf (bO zk (bV 0) (qx 1)) qv))) Z8) (jS (sIf (bTb (bO (V2 false) (bO zk (bV 0) (qx 0)) (WF "block"))) (jS (SM (qct qv ⟨rfl⟩) 1 [] ⟨rfl⟩) (jS (qcp (U9 (qf (bO zk (bV 0) (qx 1)) qv)) (gN 2) (qnJ (bLc (U9 (qf (bO zk (bV 0) (qx 2)) qv)) (gN 0) bTt (ZS (qf (bV 1) (qf (bV 0) qv)) ⟨rfl⟩) [none,some 2] ⟨rfl⟩) 1 [true,false,true] ⟨rfl⟩) [true] ⟨rfl⟩) (qdn 1))) Z8) (jS (DF (qkT ["row","column","slant","back","step"] (qf (ZS (qf (qx 0) (qf (qx 1) qv)) ⟨rfl⟩) (qf (ZS (qf (qx 1) (qf (qx 0) qv)) ⟨rfl⟩) (qf (ZS (qf (qx 1) (qf (qx 1) qv)) ⟨rfl⟩) (qf (ZS (qf (qx 1) (qf (qcm (qx 1)) qv)) ⟨rfl⟩) (qf (bSl (bV 0) (bSp (qx 1)) (bSp (qx 3))) qv))))) (bO zk (bV 0) (qx 0))) (U7 2 (qY (gN 3) (qY (gN 4) U8))) [true] ⟨rfl⟩) (J5 (bLc (U9 (qf (bO zk (bV 0) (qcm (qx 1))) qv)) (gN 0) bTt (ZS (qf (bO (opC zE (·*·)) (bV 0) (bV 1)) (qf (bO (opC zE (·*·)) (bV 0) (bV 2)) qv)) ⟨rfl⟩) [none,some 3,some 4] ⟨rfl⟩)))))
def ja:List PyData->Option PyData:=Pu.run zW.f 1 5 1000000000 true
def T0:Rd (PSp ja true) 1 (Bk.J2) JS:=zt zW JS 1 1000000000 true
def T1 {x0:PyData}:ja [x0]=YS true (zW.f 1000000000 [.sh x0,.un,.un,.un,.un]):=id rfl
def JE:PwS 0 (K93.JV Bk.qF):=(ES (LP (eO zk (eOf (qct (qf (qx 3) (qf (qx 3) (qf (qx 15) qv))) ⟨rfl⟩)) (eDr VZ (aOf (qf (qx 3) qv)))) 1 [] ⟨rfl⟩ ⟨rfl⟩) (ES (qmq (U2 (eO (opI (·-·)) (eDr VZ (aOf (qf (bO j3 (bO (opC zE (·*·)) (qx 2) (bV 1)) (qx 1)) qv))) (eOf (bV 1))) (U2 (eO (opI (·-·)) (eDr VZ (aOf (qf (bO j3 (bO (opC zE (·*·)) (qx 2) (bV 1)) (qx 1)) qv))) (eOf (bV 1))) (aOf qv))) 2 3 [false,true] ⟨rfl⟩ ⟨rfl⟩) (qaH (eOf (ZS (qf (bV 2) (qf (bO j3 (bV 3) (qD qhN (qf (qab (bO (V2 false) (bV 2) (qx 0)) (bO (V2 false) (bV 3) (qx 0))) qv))) qv)) ⟨rfl⟩)))))
def jN:Wm:=qhM JE 1 4 false
def KB:Rd (DSp jN.W false) 1 (K93.JV Bk.qF) QV:=W4 JE QV 1 false
def SS {n:Nat} {Q:QD}:jN.W [] n Q=(0+1=1/\JE.w [.un,.un,.un,.un] n (qgn false Q)):=id rfl
def jd:PuS (K93.jb (PSp Pv.j7 false) (PSp qp false)):=(jS (SM (qD (zA Pv.j7 false) (qf (bV 0) (qf (bV 2) (qf (bV 3) qv)))) 4 [true,false,true,true] ⟨rfl⟩) (jS (qcp (qcl (ZS (qf (ZS (qf (bV 4) (qf (bBl true) qv)) ⟨rfl⟩) (qf (ZS (qf (bO j3 (bV 4) (qx 1)) (qf (bBl false) qv)) ⟨rfl⟩) qv)) ⟨rfl⟩)) (U7 2 (qY (gN 5) (qY (gN 6) U8))) (jS (SM (qD (zA qp false) (qf (bV 1) (qf (bLc (U9 (qf (bV 5) qv)) (gN 0) bTt (ZS (qf (bO (opC zE (·*·)) (bV 0) (bV 1)) (qf (bO (opC zE (·*·)) (bV 0) (bV 2)) qv)) ⟨rfl⟩) [none,some 2,some 3] ⟨rfl⟩) qv))) 7 [false,true,true,true,false,true] ⟨rfl⟩) (sIf (bTb (bO (V2 true) (bO zk (bV 7) (qx 1)) (bO (opC zE (·*·)) (bO zk (bV 7) (qx 0)) (qD qhN (qf (bV 6) qv))))) (J5 (bBl false)) Z8)) [false,false,false,false,true] ⟨rfl⟩) (J5 (bBl true))))
def qR:List PyData->Option PyData:=Pu.run jd.f 4 8 1000000000 false
def UH:Rd (PSp qR false) 4 (K93.jb (PSp Pv.j7 false) (PSp qp false)) jc:=zt jd jc 4 1000000000 false
def UZ {x0 x1 x2 x3:PyData}:qR [x0,x1,x2,x3]=YS false (jd.f 1000000000 [.sh x0,.sh x1,.sh x2,.sh x3,.un,.un,.un,.un]):=id rfl
def zO:PuS (K93.zM (PSp Pv.Q8 true) (PSp qp false)):=(jS (SM (qD (zA Pv.Q8 true) (qf (bV 0) qv)) 2 [true] ⟨rfl⟩) (jS (qcp (U9 (qf (qx 1) (qf (bO j3 (qD qoW (qf (qD C7 (qf (bV 2) qv)) (qf (qD C7 (qf (bV 1) qv)) qv))) (qx 1)) qv))) (gN 3) (qcp (qcl (ZS (qf (ZS (qf (bO zk (bV 2) (bO (opI (·-·)) (bV 3) (qx 1))) (qf (bBl true) qv)) ⟨rfl⟩) (qf (ZS (qf (bO j3 (bO zk (bV 2) (bO (opI (·-·)) (bV 3) (qx 1))) (qx 1)) (qf (bBl false) qv)) ⟨rfl⟩) qv)) ⟨rfl⟩)) (U7 2 (qY (gN 4) (qY (gN 5) U8))) (jS (SM (qct qv ⟨rfl⟩) 6 [] ⟨rfl⟩) (jS (qcp (U9 (qf (bV 3) qv)) (gN 7) (qnJ (bLc (U9 (qf (bV 4) qv)) (gN 0) bTt (ZS (qf (bV 1) (qf (bV 0) qv)) ⟨rfl⟩) [none,some 7] ⟨rfl⟩) 6 [false,false,false,false,true,false,false,true] ⟨rfl⟩) [false,false,false,true] ⟨rfl⟩) (jS (SM (bIf (bTb (bO (V2 true) (bV 6) (qct qv ⟨rfl⟩))) (qD (zA qp false) (qf (bV 1) (qf (bV 6) qv))) (ZS (qf (qx 0) (qf (qx 0) qv)) ⟨rfl⟩)) 8 [false,true,false,false,false,false,true] ⟨rfl⟩) (sIf (bTb (bO (V2 true) (bO zk (bV 8) (qx 1)) (bO (opC zE (·*·)) (bO zk (bV 8) (qx 0)) (qD qhN (qf (bV 5) qv))))) (J5 (bBl false)) Z8)))) [false,false,true,true] ⟨rfl⟩) [false,true,true] ⟨rfl⟩) (J5 (bBl true))))
def qL:List PyData->Option PyData:=Pu.run zO.f 2 9 1000000000 false
def UB:Rd (PSp qL false) 2 (K93.zM (PSp Pv.Q8 true) (PSp qp false)) zP:=zt zO zP 2 1000000000 false
def V8 {x0 x1:PyData}:qL [x0,x1]=YS false (zO.f 1000000000 [.sh x0,.sh x1,.un,.un,.un,.un,.un,.un,.un]):=id rfl
def jw:=((ES (qde (qmA (U2 (eDr VZ (aOf (qf (qD C7 (qf (bV 2) qv)) qv))) (U2 (eO (opI (·-·)) (eO j3 (eDr VZ (aOf (qf (bO (opI (·-·)) (bO (opC zE (·*·)) (qx 2) (qD C7 (qf (bO zk (bV 2) (qx 0)) qv))) (qx 1)) qv))) (eOf (qx 1))) (eOf (qD C7 (qf (bO zk (bV 2) (qx 0)) qv)))) (aOf qv))) ⟨rfl⟩) (U7 2 (qY (gN 6) (qY (gN 7) U8))) [false,false,true] ⟨rfl⟩ ⟨rfl⟩) (ES (LP (eOf (qD (zA qp false) (qf (bV 2) (qf (bLc (U9 (qf (bV 3) qv)) (gN 0) bTt (ZS (qf (bO (opC zE (·*·)) (bV 0) (bV 1)) (qf (bO (opC zE (·*·)) (bV 0) (bV 2)) qv)) ⟨rfl⟩) [none,some 6,some 7] ⟨rfl⟩) qv)))) 8 [false,false,true,true,false,false,true,true] ⟨rfl⟩ ⟨rfl⟩) (ES (LP (eOf (qab (bO qf8 (ZS (qf (bV 6) (qf (bV 7) qv)) ⟨rfl⟩) (ZS (qf (qx 0) (qf (qx 0) qv)) ⟨rfl⟩)) (qab (bO (opB λi j=>decide (j<i)) (bO zk (bV 8) (qx 0)) (qx 0)) (bO (V2 false) (bO zk (bV 8) (qx 0)) (bO zk (bV 8) (qx 1)))))) 9 [false,false,false,false,false,false,true,true,true] ⟨rfl⟩ ⟨rfl⟩) (wIf (cOf (bTb (bO (V2 true) (bO (qiZ false) (ZS (qf (bV 6) (qf (bV 7) qv)) ⟨rfl⟩) (bV 4)) (bV 9)))) (qaH (eOf (bBl false))) TN)))):PwS 0 _)
def jq:PwS 0 (K93.jt Bk.jO (PSp (Pv.zD 1) true) Bk.qF (PSp qp false)):=(ES (LP (eO j3 (eOf (qx 1)) (eO (opC (λ_ j=>0<j) (·%·)) (eDr ql3 (aOf qv)) (eOf (qx 9)))) 3 [] ⟨rfl⟩ ⟨rfl⟩) (ES (LP (eOf (qD (zA (Pv.zD 1) true) (qf (bV 1) (qf (bV 3) qv)))) 4 [false,true,false,true] ⟨rfl⟩ ⟨rfl⟩) (ES (qiE (iOf (U9 (qf (qx 20) qv))) (gN 5) jw [] ⟨rfl⟩ ⟨rfl⟩) (qaH (eOf (bBl true))))))
def zm:Wm:=qhM jq 3 10 false
def E6:Rd (DSp zm.W false) 3 (K93.jt Bk.jO (PSp (Pv.zD 1) true) Bk.qF (PSp qp false)) jr:=W4 jq jr 3 false
def DE {x0 x1:PyData} {n:Nat} {Q:QD}:zm.W [x0,x1] n Q=(3=3/\jq.w [.un,.sh x0,.sh x1,.un,.un,.un,.un,.un,.un,.un] n (qgn false Q)):=id rfl
def qm2 (S_law_great:Sp3) (S_law_grid:Sp3) (S_law_steps:Sp3) (S_law_steps_right:Sp3) (S_law_free_right:Sp3) (S_law_blocks_right:Sp3) (S_law_walk:Sp3) (S_law_cells:Sp3) (S_rests_of:Sp3) (S_law_looked:Sp3):TS3:=(qO (zg (cb3 S_law_great (qc (v3 2) qi)) (gn3 3)) (qO (zg (cb3 S_law_grid (qc (v3 3) qi)) (gn3 4)) (qO (DP (zz (qc (c3 (.int 6)) qi)) (gn3 5) (qO (zg (cb3 S_law_steps (qc (v3 2) qi)) (jf 2 (qr (gn3 6) (qr (gn3 7) ji)))) (QB (qaf (tb3 (cb3 S_law_steps_right (qc (v3 3) (qc (v3 4) (qc (v3 6) (qc (v3 7) qi))))))) (zd (c3 (.bl false))) za))) (qO (QB (or3 (qaf (tb3 (cb3 S_law_blocks_right (qc (v3 3) (qc (v3 4) qi))))) (qaf (tb3 (cb3 S_law_free_right (qc (v3 2) (qc (v3 3) (qc (v3 4) qi))))))) (zd (c3 (.bl false))) za) (DP (zz (qc (c3 (.int 3)) qi)) (gn3 5) (qO (zg (cb3 S_law_walk (qc (v3 2) qi)) (gn3 8)) (qO (WD 9 10 (qc (cb3 S_law_cells (qc (v3 8) qi)) (qc (cb3 S_rests_of (qc (v3 3) (qc (v3 8) qi))) qi))) (qO (zg (cb3 S_law_looked (qc (v3 4) (qc (v3 9) qi))) (gn3 11)) (QB (tb3 (o3 (QC true) (o3 ix3 (v3 11) (c3 (.int 1))) (o3 (iC zE (·*·)) (o3 ix3 (v3 11) (c3 (.int 0))) (cb3 RK (qc (o3 (QC false) (MQ (v3 10)) (cb3 UA (qc (v3 10) qi))) qi))))) (zd (c3 (.bl false))) za)))))))))
def SG:=((ES (qde (eDr (dSp jN false) (aOf qv)) (U7 2 (qY (gN 6) (qY (gN 7) U8))) [] ⟨rfl⟩ ⟨rfl⟩) (wIf (cOf (qmX (bTb (qD (zA qR false) (qf (bV 3) (qf (bV 4) (qf (bV 6) (qf (bV 7) qv)))))))) (qaH (eOf (bBl false))) TN)):PwS 2 _)
def C0:=((ES (LP (eDr qgl (aOf qv)) 8 [] ⟨rfl⟩ ⟨rfl⟩) (ES (qmq (aOf (qf (qD (zA ja true) (qf (bV 8) qv)) (qf (qD (zA Pv.qP false) (qf (bV 3) (qf (bV 8) qv))) qv))) 9 10 [false,false,false,true,false,false,false,false,true] ⟨rfl⟩ ⟨rfl⟩) (ES (LP (eOf (qD (zA qp false) (qf (bV 4) (qf (bV 9) qv)))) 11 [false,false,false,false,true,false,false,false,false,true] ⟨rfl⟩ ⟨rfl⟩) (wIf (cOf (bTb (bO (V2 true) (bO zk (bV 11) (qx 1)) (bO (opC zE (·*·)) (bO zk (bV 11) (qx 0)) (qD qhN (qf (bO (V2 false) (qdG (bV 10)) (qD C7 (qf (bV 10) qv))) qv)))))) (qaH (eOf (bBl false))) TN)))):PwS 2 _)
def qdq:PwS 2 (qm2 (DSp jR.W false) (PSp jx true) (DSp jN.W false) (PSp qR false) (DSp zm.W false) (PSp qL false) Bk.JR (PSp ja true) (PSp Pv.qP false) (PSp qp false)):=(ES (LP (eDr (dSp jR false) (aOf qv)) 3 [] ⟨rfl⟩ ⟨rfl⟩) (ES (LP (eOf (qD (zA jx true) (qf (bV 3) qv))) 4 [false,false,false,true] ⟨rfl⟩ ⟨rfl⟩) (ES (qiE (iOf (U9 (qf (qx 6) qv))) (gN 5) SG [] ⟨rfl⟩ ⟨rfl⟩) (ES (wIf (cOr (cOf (qmX (bTb (qD (zA qL false) (qf (bV 3) (qf (bV 4) qv)))))) (qoP (cTb (eDr (dSp zm false) (aOf (qf (bV 3) (qf (bV 4) qv))))))) (qaH (eOf (bBl false))) TN) (qiE (iOf (U9 (qf (qx 3) qv))) (gN 5) C0 [] ⟨rfl⟩ ⟨rfl⟩)))))
def qjW (h:∀ k:Nat,k<=60->qdq.w [.un,.sh (.int k),.un,.un,.un,.un,.un,.un,.un,.un,.un,.un] 0 okW):Rd CL 1 (K93.qfP Bk.J1 (DSp jR.W false) (PSp jx true) (DSp jN.W false) (PSp qR false) (DSp zm.W false) (PSp qL false) Bk.JR (PSp ja true) (PSp Pv.qP false) (PSp qp false)) qb5:=qcU qdq qb5 3 9 ⟨by decide,by decide⟩ rfl h
end K93
namespace K93
open PySem L2 L3 Pu Pv
open Bk (Wk Dl Dr qW q0 faO Fst Un2)
def qlM {n:Nat} {Q:QD} (hn:n<900000) (h:∀ r c b x y:Int,(1<=r/\r<=16)->(1<=c/\c<=16)->(1<=b/\b<=32)->(0<=x/\x<=99)->(0<=y/\y<=99)->Q (dlD (.skew r c b x y)) (n+9)):QQ.W [] n Q:=by
 rw [LR];refine ⟨rfl,?_⟩;unfold YX;refine Z4 λY1 h1=>?_
 try simp only [Pu.pwA]
 refine ⟨by omega,λr c hr hc=>?_⟩
 try simp only [Pu.pwA]
 rw [h1];refine Z4 λY2 h2=>?_
 try simp only [Pu.pwA]
 refine ⟨by omega,by omega,λd h0 h1=>?_⟩;refine MC (ks:=[8,8,17,32]) h0 (by simpa using h1) λk hk=>?_;have hk2:8<=k/\k<=32:=by simp at hk;omega
 try simp only [Pu.pwA]
 refine ⟨by omega,by omega,λb b0 b1=>?_⟩
 try simp only [Pu.pwA]
 rw [h2];refine Z4 λY3 h3=>?_
 try simp only [Pu.pwA]
 refine ⟨by omega,by omega,λe e0 e1=>?_⟩;refine MC (ks:=[1+b,10,100]) e0 (by simpa using e1) λw hw=>?_;have hw2:1<=w/\w<=100:=by simp at hw;omega
 try simp only [Pu.pwA]
 rw [h3]
 try simp only [Pu.pwA]
 refine ⟨by omega,by omega,λx x0 x1=>?_⟩
 try simp only [Pu.pwA]
 refine ⟨by omega,by omega,λy y0 y1=>?_⟩
 try simp only [Pu.pwA]
 exact ⟨_,by omega,h r c (1+b) x y hr hc (by omega) (by omega) (by omega)⟩
def P99:Dl->Prop
 |.skew _ _ _ x y=>x<=99/\y<=99
 |.rests ..=>True
 |_=>False
def p99 {d:Dl} (h:P99 d):Pl d:=by cases d<;>simp [P99] at h<;>trivial
def qgu {n:Nat} {Q:QD} (hn:n<800000) (h:∀ d:Dl,P99 d->Dr d 16 16 32->Q (dlD d) (n+11)):jM.W [] n Q:=by
 rw [TD];refine ⟨rfl,?_⟩
 try simp only [Pu.pwA,JL]
 refine ⟨by omega,by omega,λd h0 h1=>?_⟩;by_cases e:d=0
 ·try simp only [Pu.pwA,e]
  exact ⟨by omega,λr c b p D=>⟨_,by omega,h (.rests r c b p) trivial D⟩⟩
 ·try simp only [Pu.pwA,e]
  refine qlM (by omega) λr c b x y hr hc hb hx hy=>⟨_,by omega,h (.skew r c b x y) ⟨hx.2,hy.2⟩ ⟨?_,hr.2,hc.2,hb.2⟩⟩
  simp only [Dl.Ok];omega
def qfY {n:Nat} {Q:QD} (hn:n<900000) (h:∀ u v:Int,(-16<=u/\u<=16)->(-16<=v/\v<=16)->Q (pD (u,v)) (n+3)):jN.W [] n Q:=by
 rw [SS];refine ⟨rfl,?_⟩
 try simp only [Pu.pwA,JE]
 refine ⟨by omega,by omega,λd h0 h1=>?_⟩;refine MC (ks:=[3,3,15]) h0 (by simpa using h1) λk hk=>?_;have hk2:3<=k/\k<=15:=by simp at hk;omega
 try simp (disch:=omega) only [Pu.pwA,je]
 refine ⟨by omega,by omega,λx x0 x1=>?_⟩
 try simp (disch:=omega) only [Pu.pwA,je]
 refine ⟨by omega,by omega,λy y0 y1=>?_⟩;by_cases e1:x-k=0
 ·by_cases e2:y-k=0
  ·try simp only [Pu.pwA,e1,e2]
   exact ⟨_,by omega,h _ _ (by omega) (by omega)⟩
  ·try simp only [Pu.pwA,e1,e2]
   exact ⟨_,by omega,h _ _ (by omega) (by omega)⟩
 ·try simp only [Pu.pwA,e1]
  exact ⟨_,by omega,h _ _ (by omega) (by omega)⟩
def qhw {n:Nat} {Q:QD} (hn:n<700000) (h:∀ d:Dl,P99 d->Dr d 16 16 32->Q (dlD d) (n+14)):jR.W [] n Q:=by
 rw [TQ];refine ⟨rfl,?_⟩;unfold JU;refine Z4 λY1 h1=>?_
 try simp only [Pu.pwA]
 refine qgu (by omega) λd h99 D=>?_
 try simp only [Pu.pwA]
 rw [h1];refine Z4 λY2 h2=>?_
 try simp only [Pu.pwA]
 refine ⟨by omega,by omega,λx x0 x1=>⟨by omega,by omega,λy y0 y1=>?_⟩⟩
 try simp only [Pu.pwA]
 rw [h2];refine Z4 λY3 h3=>?_
 try simp only [Pu.pwA]
 refine ⟨by omega,by omega,λz z0 z1=>?_⟩;by_cases cz:z=0
 ·try simp only [Pu.pwA,cz]
  exact ⟨_,by omega,h d h99 D⟩
 ·try simp only [Pu.pwA,cz]
  rw [h3];have ok:=D.ok;have hB:=D.b2;cases d<;>simp [P99] at h99
  ·rename_i r c b u v;simp only [Dl.Ok,Dl.B] at ok hB;have c1:slD (.tuple [.str "skew",.int r,.int c,.int b,.int u,.int v]) (some 3) none=some (.tuple [.int b,.int u,.int v]):=YM (by simp [HT.sIx]);have c2:qiK (.tuple [.str "skew",.int (16-x),.int (16-y)]) (.tuple [.int b,.int u,.int v])=some (.tuple [.str "skew",.int (16-x),.int (16-y),.int b,.int u,.int v]):=zI (by rw [sizeLine_eq];simp)
   try simp only [Pu.pwA,dlD,c1,c2]
   exact ⟨_,by omega,h (.skew (16-x) (16-y) b u v) h99 ⟨by simp only [Dl.Ok];omega,by simp only [Dl.R];omega,by simp only [Dl.C];omega,by simp only [Dl.B];omega⟩⟩
  ·rename_i r c b p;simp only [Dl.Ok,Dl.B] at ok hB;have ud:=Bk.qei (r:=16-x) (c:=16-y) (b:=b) (by omega) (by omega) (by omega);have m1:(16-x)*(16-y)<=16*16:=Int.mul_le_mul (by omega) (by omega) (by omega) (by omega)
   try simp (disch:=omega) only [Pu.pwA,dlD,L3.UR,je,qib,SI]
   obtain ⟨p0,hp0⟩:∃ p0,p0=-(-(16-x)*(16-y)/b):=⟨_,rfl⟩
   rw [← hp0] at ud ⊢;refine DX (zT 0 (32:Int).toNat) jT.mn (λi ρ m=>m=n+14/\∃ (pl:Int) (s5:Sl),ρ=[.un,.sh (dlD (.rests r c b p)),.sh (.int (16-x)),.sh (.int (16-y)),.sh (.int pl),s5]/\Bk.Plc b p0 pl i) ⟨rfl,p0,_,rfl,by omega,by omega,.inr ⟨by omega,λk hk=>absurd hk (Nat.not_lt_zero k)⟩⟩ ?_ ?_
   ·rintro i x' ρ m hx ⟨rfl,pl,s5,rfl,P⟩;have lo:=P.lo;refine ⟨_,rfl,?_⟩;have eg:qmx [.int b,.int pl]=some (.int (Int.gcd b pl:Nat)):=zI ⟨by omega,by omega⟩;by_cases hg:(1:Int)<(Int.gcd b pl:Nat)
    ·try simp only [Pu.pwA,jT,dlD,qdT,eg,hg,decide_true]
     exact ⟨_,_,rfl,P.next (by omega) (by omega) hg⟩
    ·try simp only [Pu.pwA,jT,dlD,qdT,eg,hg,decide_false]
     exact ⟨_,_,rfl,P.stay (by omega) (by omega) hg⟩
   ·rintro ρ m ⟨rfl,pl,s5,rfl,P⟩;rw [jG] at P;have lo:=P.lo;have hi:=P.hi;have m2:b*p0<=b*pl:=Int.mul_le_mul_of_nonneg_left lo (by omega)
    try simp only [Pu.pwA,dlD]
    exact ⟨_,Nat.le_refl _,h (.rests (16-x) (16-y) b pl) trivial ⟨by simp only [Dl.Ok];exact ⟨by omega,by omega,by omega,by omega,by omega,by omega,by omega,by simp at hi;omega,P.done (by omega) (by simp;omega),by omega⟩,by simp only [Dl.R];omega,by simp only [Dl.C];omega,by simp only [Dl.B];omega⟩⟩
end K93
namespace K93
open PySem L2 L3 Pu Pv
open Bk (Wk Dl Dr qW q0 ZH lnD lnA faO Fst Un2 zN ju J4)
def inT (d:Dl) (p:Int×Int):Prop:=(0<=p.1/\p.1<d.R)/\(0<=p.2/\p.2<d.C)
def qpj {d:Dl} (hp:Pl d):d.dep<1:=by cases d<;>simp [Pl] at hp<;>simp [Dl.dep]
def bk (d:Dl) (p:Int×Int):Int:=(fA d*p.1+fB d*p.2)%d.B
def sh (s:Int×Int) (cs:List (Int×Int)):List (Int×Int):=cs.map λp=>(s.1+p.1,s.2+p.2)
def bks (d:Dl) (s:Int×Int) (cs:List (Int×Int)):List Int:=(sh s cs).map (bk d)
def T8 {ns ms:List Int} (hl:ns.length=ms.length) (h:∀ i j,i<ns.length->j<ns.length->(ns[i]?=ns[j]?↔ms[i]?=ms[j]?)) {i j:Nat} (F:Fst ns i j):Fst ms i j:=by
 obtain ⟨a,b,c,d,e⟩:=F;refine ⟨a,by omega,λx y hx hxy hy=>?_,λy hy hyj=>?_,?_⟩
 ·rw [← hl] at hy;exact λz=>c x y hx hxy hy ((h x y (by omega) hy).mpr z)
 ·exact λz=>d y hy hyj ((h i y (by omega) (by omega)).mpr z)
 ·exact (h i j (by omega) b).mp e
def qaY {ns ms:List Int} (hl:ns.length=ms.length) (h:∀ i j,i<ns.length->j<ns.length->(ns[i]?=ns[j]?↔ms[i]?=ms[j]?)):faO ns=faO ms:=by
 by_cases c:∃ ij:Nat×Nat,Fst ns ij.1 ij.2
 ·obtain ⟨⟨i,j⟩,F⟩:=c;rw [zN F,zN (T8 hl h F)]
 ·have c':¬ ∃ ij:Nat×Nat,Fst ms ij.1 ij.2:=λ⟨ij,F⟩=>c ⟨ij,T8 hl.symm (λi j hi hj=>(h i j (by omega) (by omega)).symm) F⟩;unfold Bk.faO;rw [dif_neg c,dif_neg c']
def S6 {B c x y:Int} (hB:0<B):((c+x)%B=(c+y)%B)↔(x%B=y%B):=by
 constructor
 ·intro h;have:=Int.emod_eq_emod_iff_emod_sub_eq_zero.mp h;rw [show c+x-(c+y)=x-y by omega] at this;exact Int.emod_eq_emod_iff_emod_sub_eq_zero.mpr this
 ·intro h;rw [Int.add_emod,h,← Int.add_emod]
def qlc {d:Dl} {s:Int×Int} {cs:List (Int×Int)} (hB:0<d.B):faO (bks d s cs)=faO (rst d.B (fA d) (fB d) cs):=by
 have g:∀ i (hi:i<cs.length),(bks d s cs)[i]?=some ((fA d*s.1+fB d*s.2+(fA d*cs[i].1+fB d*cs[i].2))%d.B)/\(rst d.B (fA d) (fB d) cs)[i]?=some ((fA d*cs[i].1+fB d*cs[i].2)%d.B):=λi hi=>by
  constructor
  ·rw [bks,sh,map_map,getElem?_map,getElem?_eq_getElem hi,Option.map_some];simp only [bk,Function.comp_def];congr 2;rw [Int.mul_add,Int.mul_add];omega
  ·rw [rst,getElem?_map,getElem?_eq_getElem hi,Option.map_some]
 refine qaY (by simp [bks,sh,rst]) λi j hi hj=>?_;have hi':i<cs.length:=by simpa [bks,sh] using hi
 have hj':j<cs.length:=by simpa [bks,sh] using hj
 rw [(g i hi').1,(g j hj').1,(g i hi').2,(g j hj').2,Option.some.injEq,Option.some.injEq];exact S6 hB
def qnz {R C:Int} {cs:List (Int×Int)} {s:Int×Int} (h:s∈stI R C cs) {p:Int×Int} (hp:p∈cs):(0<=s.1+p.1/\s.1+p.1<R)/\(0<=s.2+p.2/\s.2+p.2<C):=by
 obtain ⟨i,hi,h⟩:=List.mem_flatMap.mp h;obtain ⟨j,hj,rfl⟩:=mem_map.mp h;have a:=DZ hi;have b:=DZ hj;have m1:=NV (show p.1∈dn cs from mem_map.mpr ⟨p,hp,rfl⟩);have m2:=qdg (show p.1∈dn cs from mem_map.mpr ⟨p,hp,rfl⟩);have m3:=NV (show p.2∈al cs from mem_map.mpr ⟨p,hp,rfl⟩);have m4:=qdg (show p.2∈al cs from mem_map.mpr ⟨p,hp,rfl⟩);simp only;omega
def NA {s:Str} (h:s=Str.ofString "skew" ∨ s=Str.ofString "rests"):inD false (.str s) (.tuple [.str "skew",.str "rests"])=some (.bool true):=by
 refine (zI (by simp [KY])).trans ?_;rcases h with rfl|rfl<;>rfl
def qk5 {i j:Nat} {m:List Bool} {x y:List PyData} {ρ:Rho}:qdd i j m [.list x,.list y] ρ=some (.nx (((dm m ρ).set i (.sh (.list x))).set j (.sh (.list y)))):=id rfl
def qlm {d:Dl} (hp:Pl d):qM [dlD d]=some (szD d):=by
 rw [L8];cases d with
 |skew r c b x y=>
  have c1:slD (.tuple [.str "skew",.int r,.int c,.int b,.int x,.int y]) (some 1) (some 4)=some (.tuple [.int r,.int c,.int b]):=YM (by simp [HT.sIx])
  try simp only [Pu.pwA,Z0,dlD,NA (.inl rfl),c1,szD,Dl.R,Dl.C,Dl.B]
 |rests r c b q=>
  have c1:slD (.tuple [.str "rests",.int r,.int c,.int b,.int q]) (some 1) (some 4)=some (.tuple [.int r,.int c,.int b]):=YM (by simp [HT.sIx])
  try simp only [Pu.pwA,Z0,dlD,NA (.inr rfl),c1,szD,Dl.R,Dl.C,Dl.B]
 |_=>simp [Pl] at hp
def qbf {i:Nat} {es ds:List PyData} {ρ:Rho} (h:slot ρ i=some ds) (hl:ds.length+es.length<=16777216):qjP i (.list es) ρ=some (.nx (ρ.set i (.ow (ds++es)))):=by unfold qjP;rw [h];simp only [Option.bind_some];exact zI hl
def qfW {s:Str} {m:Int}:slD (.tuple [.str s,.int m]) (some 1) (some 3)=some (.tuple [.int m]):=YM (by simp [HT.sIx])
def qgp {s:Str} {u v m:Int}:slD (.tuple [.str s,.int u,.int v,.int m]) (some 1) (some 3)=some (.tuple [.int u,.int v]):=YM (by simp [HT.sIx])
def qnT {x y:PyData}:L2.atI [x,y] (-1)=some y:=rfl
def qnC {x y z w:PyData}:L2.atI [x,y,z,w] (-1)=some w:=rfl
def qpu {w:Wk} (ok:Big w):ja [Wk.d w]=some (.list (w.pc.map pD)):=by
 rw [T1];cases w with
 |cells ps=>
  try simp only [Pu.pwA,zW,Wk.d,eq_self,Wk.pc]
 |block h v=>
  obtain ⟨h1,h2⟩:=ok
  try simp (disch:=omega) only [Pu.pwA,zW,Wk.d,eq_self,L3.VS,Wk.pc,SI,Int.toNat_natCast]
  rw [Option.bind_assoc];refine E9 (Q:=λo=>YS true o=_) (zT 0 h) (λi ρ=>∃ s2 s3 s4,ρ=[.sh (Wk.d (.block h v)),.ow ((q0 i v).map pD),s2,s3,s4]) ⟨_,_,_,rfl⟩ ?_ ?_
  ·rintro i x ρ hx ⟨s2,s3,s4,rfl⟩;obtain ⟨hi,rfl⟩:=jE hx
   try simp only [Pu.pwA,Wk.d]
   rw [QI (ds:=(zT 0 v).map PyData.int) (fs:=((List.range v).map λ(q:Nat)=>((i:Int),(q:Int))).map pD)]
   rotate_left
   ·try simp (disch:=omega) only [Pu.pwA,SI,Int.toNat_natCast]
   ·unfold zT;rw [map_map,map_map];refine zJ λq hq=>?_
    try simp only [Pu.pwA,ZM,pD,Int.zero_add,Function.comp_def]
   ·simp;omega
   try simp only [Pu.pwA]
   rw [qbf (ds:=(q0 i v).map pD) rfl (by
    have:=Nat.mul_le_mul (show i<=1000 by omega) h2;rw [length_map,Bk.jm,length_map,length_map,length_range];omega)]
   try simp only [Pu.pwA]
   rw [Bk.EO,List.map_append];exact ⟨_,_,_,rfl⟩
  ·rintro ρ ⟨s2,s3,s4,rfl⟩;rw [jG]
   try simp only [Pu.pwA]
 |step d a m=>
  obtain ⟨h1,h2,h3⟩:=ok;have e5:qcS ["row","column","slant","back","step"] [.tuple [.int 0,.int 1],.tuple [.int 1,.int 0],.tuple [.int 1,.int 1],.tuple [.int 1,.int (-1)],.tuple [.int d,.int a]] "step" = some (.tuple [.int d,.int a]):=rfl
  try simp only [Pu.pwA,zW,Wk.d,L3.US,L3.UJ,Wk.pc,qgp,e5]
  rw [QI (ds:=(zT 0 m).map PyData.int) (fs:=(qW d a m).map pD)]
  ·try simp only [Pu.pwA]
  ·try simp (disch:=omega) only [Pu.pwA,qnC,SI,Int.toNat_natCast]
  ·unfold qW zT;rw [map_map,map_map];refine zJ λt ht=>?_;have:=mem_range.mp ht
   try simp (disch:=omega) only [Pu.pwA,ZM,pD,je,Int.zero_add,Function.comp_def]
  ·simp [qW];omega
 |line k m=>
  obtain ⟨h1,h2⟩:=ok;have key:∀ (d a:Int),(-1000<=d/\d<=1000)->(-1000<=a/\a<=1000)->∀ s:Str,Str.ofString "cells" ≠ s->Str.ofString "block" ≠ s->qcS ["row","column","slant","back","step"] [.tuple [.int 0,.int 1],.tuple [.int 1,.int 0],.tuple [.int 1,.int 1],.tuple [.int 1,.int (-1)],.tuple [.int (m:Int)]] s=some (.tuple [.int d,.int a])->YS true (zW.f 1000000000 [.sh (.tuple [.str s,.int (m:Int)]),.un,.un,.un,.un])=some (.list ((qW d a m).map pD)):=by
   intro d a hd ha s n1 n2 e5;have n1':¬ s=Str.ofString "cells" := λz=>n1 z.symm;have n2':¬ s=Str.ofString "block" := λz=>n2 z.symm
   try simp only [Pu.pwA,zW,n1',n2',qfW,e5]
   rw [QI (ds:=(zT 0 m).map PyData.int) (fs:=(qW d a m).map pD)]
   ·try simp only [Pu.pwA]
   ·try simp (disch:=omega) only [Pu.pwA,qnT,SI,Int.toNat_natCast]
   ·unfold qW zT;rw [map_map,map_map];refine zJ λt ht=>?_;have:=mem_range.mp ht
    try simp (disch:=omega) only [Pu.pwA,ZM,pD,je,Int.zero_add,Function.comp_def]
   ·simp [qW];omega
  have:(k=0\/k=1\/k=2\/k=3):=by omega
  rcases this with rfl|rfl|rfl|rfl
  ·exact key 0 1 (by omega) (by omega) "row" (by decide) (by decide) rfl
  ·exact key 1 0 (by omega) (by omega) "column" (by decide) (by decide) rfl
  ·exact key 1 1 (by omega) (by omega) "slant" (by decide) (by decide) rfl
  ·exact key 1 (-1) (by omega) (by omega) "back" (by decide) (by decide) rfl
def C8 {t:Nat} {u:Int} (h:t<=16) (hu:-16<=u/\u<=16):-256<=(t:Int)*u/\(t:Int)*u<=256:=by
 have a:(t:Int)*u<=(t:Int)*16:=Int.mul_le_mul_of_nonneg_left hu.2 (Int.natCast_nonneg _);have b:(t:Int)*(-16)<=(t:Int)*u:=Int.mul_le_mul_of_nonneg_left hu.1 (Int.natCast_nonneg _);omega
def qnc {w:Wk} (ok:w.Ok):Cb w.pc:=by
 have h:=Bk.qfy ok;refine ⟨λe=>by rw [e] at h;simp at h,λp hp=>?_⟩;cases w with
 |cells ps=>have:=ok.2.2.2 p hp;omega
 |block h v=>
  obtain ⟨i,hi,hq⟩:=List.mem_flatMap.mp hp;obtain ⟨j,hj,rfl⟩:=mem_map.mp hq;have:=mem_range.mp hi;have:=mem_range.mp hj;obtain ⟨_,_,h3,h4,_⟩:=ok;simp only;omega
 |step u v m=>
  obtain ⟨t,ht,rfl⟩:=mem_map.mp hp;have:=mem_range.mp ht;obtain ⟨h1,h2,h3,h4⟩:=ok;have b1:=C8 (t:=t) (u:=u) (by omega) h1;have b2:=C8 (t:=t) (u:=v) (by omega) h2;simp only;omega
 |line k m=>
  obtain ⟨t,ht,rfl⟩:=mem_map.mp hp;have:=mem_range.mp ht;obtain ⟨h1,h2,h3⟩:=ok;have b0:(-16<=Bk.lnD k/\Bk.lnD k<=16)/\(-16<=Bk.lnA k/\Bk.lnA k<=16):=by
   match k,h1 with
   |0,_=>decide
   |1,_=>decide
   |2,_=>decide
   |3,_=>decide
  have b1:=C8 (t:=t) (u:=Bk.lnD k) (by omega) b0.1;have b2:=C8 (t:=t) (u:=Bk.lnA k) (by omega) b0.2;simp only;omega
def qh9 {ns:List Int}:decide ((Z7 ns:Int)=(ns.length:Int))=unB ns:=by
 rw [Bool.eq_iff_iff,decide_eq_true_eq,RU,← Bk.NP];omega
def qm8 {d:Dl} {i j:Int} (hp:Pl d) (ok:d.Ok) (h:inT d (i,j)):zy [dlD d,.int i,.int j]=some (.int (bk d (i,j))):=by
 obtain ⟨⟨h1,h2⟩,h3,h4⟩:=h;have l:=Dl.lims ok;have:=l.r1;have:=l.r2;have:=l.c1;have:=l.c2;have f:=qaw hp ok;have sz:=qlm hp;rw [LD];cases d with
 |skew r c b x y=>
  simp only [fA,fB,Dl.B,Dl.R,Dl.C,bk,szD,dlD] at *
  try simp (disch:=omega) only [Pu.pwA,ZT,sz,eq_self,je,W8]
 |rests r c b q=>
  simp only [fA,fB,Dl.B,Dl.R,Dl.C,bk,szD,dlD] at *
  try simp (disch:=omega) only [Pu.pwA,ZT,sz,eq_self,L3.UR,je,W8]
  rw [Int.one_mul,Int.mul_comm]
 |_=>simp [Pl] at hp
def LN (d:Dl) (i:Int):PyData:=.list ((zT 0 d.C.toNat).map λj=>.int (bk d (i,j)))
def grD (d:Dl):PyData:=.list ((zT 0 d.R.toNat).map (LN d))
def qpn {d:Dl} (hp:Pl d) (ok:d.Ok):jx [dlD d]=some (grD d):=by
 have l:=Dl.lims ok;have:=l.r1;have:=l.r2;have:=l.c1;have:=l.c2;rw [KS]
 try simp only [Pu.pwA,VJ,qlm hp,szD]
 rw [QI (ds:=(zT 0 d.R.toNat).map PyData.int) (fs:=(zT 0 d.R.toNat).map (LN d))]
 ·try simp only [Pu.pwA,grD]
 ·try simp (disch:=omega) only [Pu.pwA,SI]
 ·refine zJ λi hi=>?_;have hi:=DZ hi
  try simp only [Pu.pwA,ZM]
  rw [QI (ds:=(zT 0 d.C.toNat).map PyData.int) (fs:=(zT 0 d.C.toNat).map λj=>.int (bk d (i,j)))]
  ·try simp only [Pu.pwA,LN]
  ·try simp (disch:=omega) only [Pu.pwA,SI]
  ·refine zJ λj hj=>?_;have hj:=DZ hj
   try simp only [Pu.pwA,ZM,qm8 hp ok (i:=i) (j:=j) ⟨⟨by simp only;omega,by simp only;omega⟩,by simp only;omega,by simp only;omega⟩]
  ·simp [zT];omega
 ·simp [zT];omega
def qli {d:Dl} (ok:d.Ok):qcQ [grD d]=some (.int d.R):=by
 have:=(Dl.lims ok).r1;unfold grD;simp only [NG,length_map,jG,Int.toNat_of_nonneg (show 0<=d.R by omega)]
def qmD {d:Dl} {i:Int} (ok:d.Ok):qcQ [LN d i]=some (.int d.C):=by
 have:=(Dl.lims ok).c1;unfold LN;simp only [NG,length_map,jG,Int.toNat_of_nonneg (show 0<=d.C by omega)]
def ixG {d:Dl} {i:Int} (h0:0<=i) (h1:i<d.R):ixD (grD d) (.int i)=some (LN d i):=by
 obtain ⟨k,rfl⟩:=Int.eq_ofNat_of_zero_le h0;unfold grD;rw [qdy,atN (by simp [zT];omega),getElem?_map,XA (by omega),Int.zero_add];rfl
def ixR {d:Dl} {i j:Int} (h0:0<=j) (h1:j<d.C):ixD (LN d i) (.int j)=some (.int (bk d (i,j))):=by
 obtain ⟨k,rfl⟩:=Int.eq_ofNat_of_zero_le h0;unfold LN;rw [qdy,atN (by simp [zT];omega),getElem?_map,XA (by omega),Int.zero_add];rfl
def qiw {d:Dl} {s:Int×Int} {cs:List (Int×Int)} (hB:0<d.B):unB (bks d s cs)=unB (rst d.B (fA d) (fB d) cs):=by unfold unB;rw [qlc hB]
def clN (u:Bool) (n:Nat):Int:=if u then n else 0
def qny (u:Bool) (n:Nat):clN u n+(if u=true then 1 else 0)=clN u (n+1):=by cases u<;>simp [clN]
def qmE {d:Dl} {cs:List (Int×Int)} (hp:Pl d) (ok:d.Ok) (hc:Cb cs) (hl:cs.length<4000):qp [grD d,.list (cs.map pD)]=some (.tuple [.int ((stI d.R d.C cs).length:Int),.int (clN (unB (rst d.B (fA d) (fB d) cs)) (stI d.R d.C cs).length)]):=by
 have l:=Dl.lims ok;have:=l.r1;have:=l.r2;have:=l.c1;have:=l.c2;have:=l.b1;obtain ⟨⟨h1,h2,h3⟩,⟨h4,h5,h6⟩⟩:=hc.lim;have n1:dn cs≠[]:=by simp [dn,hc.ne]
 have n2:al cs≠[]:=by simp [al,hc.ne]
 rw [R7]
 try simp only [Pu.pwA,ZI]
 rw [QI (ds:=cs.map pD) (fs:=(dn cs).map PyData.int) rfl (by
  rw [dn,map_map];refine zJ λp hp=>?_
  try simp only [Pu.pwA,ZM,pD,Function.comp_def]) (by simp [dn];omega)]
 try simp only [Pu.pwA]
 rw [QI (ds:=cs.map pD) (fs:=(al cs).map PyData.int) rfl (by
  rw [al,map_map];refine zJ λp hp=>?_
  try simp only [Pu.pwA,ZM,pD,Function.comp_def]) (by simp [al];omega)]
 have e0:=ixG (d:=d) (i:=0) (by omega) (by omega)
 try simp (disch:=omega) only [Pu.pwA,qk5,qli ok,qc2 n1,qc5 n1,qcn]
 obtain ⟨J,hJ⟩:∃ J,J=zT (-(mn (al cs))) (d.C-mx (al cs) - -(mn (al cs))).toNat:=⟨_,rfl⟩
 obtain ⟨I,hI⟩:∃ I,I=zT (-(mn (dn cs))) (d.R-mx (dn cs) - -(mn (dn cs))).toNat:=⟨_,rfl⟩
 have hs:stI d.R d.C cs=I.flatMap λi=>J.map λj=>(i,j):=by rw [hI,hJ];rfl
 have ln:(stI d.R d.C cs).length=I.length*J.length:=by rw [hs,MZ]
 rw [ln,← hI];generalize hu:unB (rst d.B (fA d) (fB d) cs)=u;refine E9 (Q:=λo=>YS false o=_) I (λi ρ=>∃ s6 s7,ρ=[.sh (grD d),.sh (.list (cs.map pD)),.sh (.list ((dn cs).map PyData.int)),.sh (.list ((al cs).map PyData.int)),.sh (.int ((i*J.length:Nat):Int)),.sh (.int (clN u (i*J.length))),s6,s7]) ⟨.un,.un,by simp [clN]⟩ ?_ ?_
 ·rintro i x ρ hx ⟨s6,s7,rfl⟩;have xm:=mem_of_getElem? hx
  try simp (disch:=omega) only [Pu.pwA,e0,qmD ok,qc2 n2,qc5 n2,qcn]
  rw [← hJ];refine UU (Q:=λo=>Nx o _) J (λj ρ=>∃ s7,ρ=[.sh (grD d),.sh (.list (cs.map pD)),.sh (.list ((dn cs).map PyData.int)),.sh (.list ((al cs).map PyData.int)),.sh (.int ((i*J.length+j:Nat):Int)),.sh (.int (clN u (i*J.length+j))),.sh (.int x),s7]) ⟨_,rfl⟩ ?_ ?_
  ·rintro j y ρ hy ⟨s7,rfl⟩;have ym:=mem_of_getElem? hy;have sm:(x,y)∈stI d.R d.C cs:=by rw [hs];exact List.mem_flatMap.mpr ⟨x,xm,mem_map.mpr ⟨y,ym,rfl⟩⟩
   try simp only [Pu.pwA]
   rw [QI (ds:=cs.map pD) (fs:=(bks d (x,y) cs).map PyData.int)]
   rotate_left
   ·try simp only [Pu.pwA]
   ·rw [bks,sh,map_map,map_map];refine zJ λp hp'=>?_;obtain ⟨⟨a1,a2⟩,a3,a4⟩:=qnz sm hp';simp only at a1 a2 a3 a4
    try simp only [Pu.pwA,ZM,pD,ixG a1 a2,ixR a3 a4,Function.comp_def]
   ·simp [bks,sh];omega
   have bl:(bks d (x,y) cs).length=cs.length:=by simp [bks,sh]
   have du:=qh9 (ns:=bks d (x,y) cs);rw [qiw (by omega),hu,bl] at du
   try simp only [Pu.pwA,qgD (show (bks d (x,y) cs).length<4000 by omega),length_map,du,qny]
   exact ⟨_,rfl⟩
  ·rintro ρ ⟨s7,rfl⟩
   try simp only [Pu.pwA]
   exact ⟨.sh (.int x),s7,by rw [Nat.succ_mul]⟩
 ·rintro ρ ⟨s6,s7,rfl⟩
  try simp only [Pu.pwA]
def MY {B a b u v:Int} {m t:Nat} (h:t<m):(rst B a b (qW u v m))[t]?=some ((t:Int)*(a*u+b*v)%B):=by
 rw [rst,qW,map_map,getElem?_map,List.getElem?_range h,Option.map_some,Function.comp_def];simp only;rw [Int.mul_add,Int.mul_left_comm a,Int.mul_left_comm b]
def qmM {B a b u v:Int} (hB:1<=B):unB (rst B a b (qW u v (lo B (a*u+b*v)+1)))=true:=by
 rw [RU];intro i j hi hij hj;have l:(rst B a b (qW u v (lo B (a*u+b*v)+1))).length=lo B (a*u+b*v)+1:=by rw [XG];simp [qW]
 rw [l] at hi hj;rw [MY hi,MY hj];intro e;have e:=Option.some.inj e;have z:=Int.emod_eq_emod_iff_emod_sub_eq_zero.mp e.symm;obtain ⟨k,rfl⟩:∃ k,j=i+(k+1):=⟨j-i-1,by omega⟩
 refine (qdt (w:=a*u+b*v) hB).2 k (by omega) ?_;rw [← Int.sub_mul] at z;rw [show ((k:Int)+1)=((i+(k+1):Nat):Int)-i by omega];exact z
def qiu {B a b u v:Int} (hB:1<=B):unB (rst B a b (qW u v (lo B (a*u+b*v)+1+1)))=false:=by
 rw [← Bool.not_eq_true,RU];intro h;have l:(rst B a b (qW u v (lo B (a*u+b*v)+1+1))).length=lo B (a*u+b*v)+1+1:=by rw [XG];simp [qW]
 refine h 0 (lo B (a*u+b*v)+1) (by omega) (by omega) (by omega) ?_;rw [MY (by omega),MY (by omega)];have:=(qdt (w:=a*u+b*v) hB).1;congr 1;rw [show ((lo B (a*u+b*v)+1:Nat):Int)=(lo B (a*u+b*v):Int)+1 by omega,this];simp
def ibD (p:Int×Bool):PyData:=.tuple [.int p.1,.bool p.2]
def qpx {d:Dl} {u v:Int} (hp:Pl d) (ok:d.Ok) (hu:-1000<=u/\u<=1000) (hv:-1000<=v/\v<=1000) (hB32:d.B<=32):qR [dlD d,grD d,.int u,.int v]=some (.bool true):=by
 have hB:=(Dl.lims ok).b1;have ll:=qlx (w:=fA d*u+fB d*v) hB;rw [UZ]
 try simp only [Pu.pwA,jd,qp0 hp ok hu hv]
 obtain ⟨m,hm⟩:∃ m,m=lo d.B (fA d*u+fB d*v)+1:=⟨_,rfl⟩
 have e0:(lo d.B (fA d*u+fB d*v):Int)+1=(m:Int):=by omega
 rw [e0];refine E9 (g:=ibD) (Q:=λo=>YS false o=_) [((m:Int),true),((m:Int)+1,false)] (λ_ ρ=>∃ s5 s6 s7,ρ=[.sh (dlD d),.sh (grD d),.sh (.int u),.sh (.int v),.sh (.int m),s5,s6,s7]) ⟨_,_,_,rfl⟩ ?_ ?_
 ·rintro i ⟨x,c⟩ ρ hx ⟨s5,s6,s7,rfl⟩;have key:∃ t:Nat,x=t/\(1<=t/\t<=40)/\unB (rst d.B (fA d) (fB d) (qW u v t))=c:=by
   rcases mem_cons.mp (mem_of_getElem? hx) with e|e
   ·cases e;exact ⟨m,rfl,by omega,by rw [hm];exact qmM hB⟩
   ·cases List.mem_singleton.mp e;exact ⟨m+1,by omega,by omega,by rw [hm];exact qiu hB⟩
  obtain ⟨t,rfl,ht,ec⟩:=key;have lk:=qmE hp ok (CW (x:=u) (y:=v) (m:=t) hu hv (by omega) (by omega)) (by simp [qW];omega);rw [ec] at lk;generalize (stI d.R d.C (qW u v t)).length=N at lk
  try simp only [Pu.pwA,ibD]
  rw [QI (ds:=(zT 0 t).map PyData.int) (fs:=(qW u v t).map pD)]
  rotate_left
  ·try simp (disch:=omega) only [Pu.pwA,SI,Int.toNat_natCast]
  ·unfold qW zT;rw [map_map,map_map];refine zJ λk hk=>?_;have:=mem_range.mp hk
   try simp (disch:=omega) only [Pu.pwA,ZM,pD,je,Int.zero_add,Function.comp_def]
  ·simp [qW];omega
  cases c with
  |true=>
   have e:clN true N=(N:Int)*1:=by simp [clN]
   try simp (disch:=omega) only [Pu.pwA,lk,DN,e,decide_true,Bool.not_true]
   exact ⟨_,_,_,rfl⟩
  |false=>
   have e:clN false N=(N:Int)*0:=by simp [clN]
   try simp (disch:=omega) only [Pu.pwA,lk,DN,e,decide_true,Bool.not_true]
   exact ⟨_,_,_,rfl⟩
 ·rintro ρ ⟨s5,s6,s7,rfl⟩
  try simp only [Pu.pwA]
def LL {n:Bool} {ps:List (Int×Int)}:eqD n (.list (ps.map pD)) (.list [])=some (.bool (if n then !decide (ps=[]) else decide (ps=[]))):=by
 have dp:∀ ps:List (Int×Int),qcq (ps.map pD)<=1:=λps=>by
  induction ps with
  |nil=>simp [qcq]
  |cons p ps ih=>simp only [map_cons,qcq,pD,dpt];omega
 have h:qdm (.list (ps.map pD)) (.list [])=none:=rfl;unfold eqD;rw [h];simp only;rw [zI (by have:=dp ps;simp only [dpt];omega)];cases ps<;>simp [ZQ,VO]
def MF {h w:Nat} (h1:1<=h) (h2:h<=1000) (w1:1<=w) (w2:w<=1000):Cb (q0 h w):=by
 refine ⟨λe=>?_,λp hp=>?_⟩
 ·have:=congrArg List.length e;rw [Bk.jm] at this;have:=Nat.mul_le_mul h1 w1;simp at *;omega
 ·obtain ⟨i,hi,hq⟩:=List.mem_flatMap.mp hp;obtain ⟨j,hj,rfl⟩:=mem_map.mp hq;have:=mem_range.mp hi;have:=mem_range.mp hj;simp only;omega
def qpk {d:Dl} (hp:Pl d) (ok:d.Ok) (hR16:d.R<=16) (hB32:d.B<=32):qL [dlD d,grD d]=some (.bool true):=by
 have hB:=(Dl.lims ok).b1;have hR:=(Dl.lims ok).r1;rw [V8];have wl:(wds d.B (fA d) (fB d)).length=d.B.toNat:=by simp [wds,zT]
 have wl':((wds d.B (fA d) (fB d)).length:Int)=d.B:=by rw [wl];omega
 try simp (disch:=omega) only [Pu.pwA,zO,qpH hp ok (by omega),qli ok,length_map,wl',qcn]
 have hM:(if d.R<d.B then d.R else d.B)<=d.B/\(if d.R<d.B then d.R else d.B)<=d.R:=by split<;>omega
 generalize (if d.R<d.B then d.R else d.B)=M at *;refine E9 (Q:=λo=>YS false o=_) (zT 1 (M+1-1).toNat) (λ_ ρ=>∃ s2 s3 s4 s5 s6 s7 s8,ρ=[.sh (dlD d),.sh (grD d),s2,s3,s4,s5,s6,s7,s8]/\s2.d=some (.list ((wds d.B (fA d) (fB d)).map PyData.int))) ⟨_,_,_,_,_,_,_,rfl,rfl⟩ ?_ ?_
 ·rintro i x ρ hx ⟨s2,s3,s4,s5,s6,s7,s8,rfl,e2⟩;obtain ⟨hi,rfl⟩:=jE hx;obtain ⟨h,hh⟩:∃ h:Nat,h=i+1:=⟨_,rfl⟩
  have ex:(1:Int)+i=h:=by omega
  rw [ex];have hh1:(h:Int)<=d.B/\(h:Int)<=d.R:=by omega
  obtain ⟨m,hm⟩:∃ m,m=wd d.B (fA d) (fB d) h:=⟨_,rfl⟩
  have wm:=qiC (a:=fA d) (b:=fB d) (h:=h) hB (by omega);have wi:=qg9 (a:=fA d) (b:=fB d) (h:=h) hB (by omega);rw [← hm] at wm wi;have at1:L2.atI ((wds d.B (fA d) (fB d)).map PyData.int) ((h:Int)-1)=some (.int m):=by
   rw [show (h:Int)-1=((i:Nat):Int) by omega,atN (by rw [length_map,wl];omega),getElem?_map,wds,getElem?_map,XA (by omega)];simp only [Option.map_some];rw [ex,Int.toNat_natCast,hm]
  try simp only [Pu.pwA,e2,at1]
  refine UU (g:=ibD) (Q:=λo=>Nx o _) [((m:Int),true),((m:Int)+1,false)] (λ_ ρ=>∃ s2 s4 s5 s6 s7 s8,ρ=[.sh (dlD d),.sh (grD d),s2,.sh (.int h),s4,s5,s6,s7,s8]/\s2.d=some (.list ((wds d.B (fA d) (fB d)).map PyData.int))) ⟨_,_,_,_,_,_,rfl,by rw [Pu.qaC,e2]⟩ ?_ ?_
  ·rintro k ⟨y,c⟩ ρ hy ⟨s2,s4,s5,s6,s7,s8,rfl,e2⟩;have key:∃ t:Nat,y=t/\t<=40/\((t=0/\c=true)\/(1<=t/\unB (rst d.B (fA d) (fB d) (q0 h t))=c)):=by
    rcases mem_cons.mp (mem_of_getElem? hy) with e|e
    ·cases e;refine ⟨m,rfl,by omega,?_⟩;by_cases z:m=0
     ·exact .inl ⟨z,rfl⟩
     ·refine .inr ⟨by omega,?_⟩;have:=wi.2 (m-1) (by omega);rw [show m-1+1=m by omega] at this;exact Classical.not_not.mp this
    ·cases List.mem_singleton.mp e;refine ⟨m+1,by omega,by omega,.inr ⟨by omega,?_⟩⟩;have:=wi.1;unfold bU at this;rw [← Bool.not_eq_true];exact this
   obtain ⟨t,rfl,ht,ec⟩:=key
   try simp (disch:=omega) only [Pu.pwA,ibD,SI,Int.toNat_natCast]
   refine E9 (Q:=λo=>Nx o _) (zT 0 h) (λi ρ=>∃ s7,ρ=[.sh (dlD d),.sh (grD d),s2,.sh (.int h),.sh (.int t),.sh (.bool c),.ow ((q0 i t).map pD),s7,s8]) ⟨_,rfl⟩ ?_ ?_
   ·rintro q z ρ hz ⟨s7,rfl⟩;obtain ⟨hq,rfl⟩:=jE hz
    try simp only [Pu.pwA]
    rw [QI (ds:=(zT 0 t).map PyData.int) (fs:=((List.range t).map λ(r:Nat)=>((q:Int),(r:Int))).map pD)]
    rotate_left
    ·try simp (disch:=omega) only [Pu.pwA,SI,Int.toNat_natCast]
    ·unfold zT;rw [map_map,map_map];refine zJ λr hr=>?_
     try simp only [Pu.pwA,ZM,pD,Int.zero_add,Function.comp_def]
    ·simp;omega
    try simp only [Pu.pwA]
    rw [qbf (ds:=(q0 q t).map pD) rfl (by
     have:=Nat.mul_le_mul (show q<=1000 by omega) (show t<=1000 by omega);rw [length_map,Bk.jm,length_map,length_map,length_range];omega)]
    try simp only [Pu.pwA]
    rw [Bk.EO,List.map_append];exact ⟨_,rfl⟩
   ·rintro ρ ⟨s7,rfl⟩;rw [jG];rcases ec with ⟨rfl,rfl⟩|⟨t1,ec⟩
    ·have b0:q0 h 0=[]:=List.length_eq_zero_iff.mp (by rw [Bk.jm];simp)
     try simp (disch:=omega) only [Pu.pwA,b0,LL,decide_true,Bool.not_true,DN,Int.zero_mul]
     exact ⟨_,_,_,_,_,_,rfl,e2⟩
    ·have b0:q0 h t≠[]:=(MF (by omega) (by omega) t1 (by omega)).ne;have bl:(q0 h t).length<4000:=by
      rw [Bk.jm];have:=Nat.mul_le_mul (show h<=16 by omega) (show t<=40 by omega);omega
     have lk:=qmE hp ok (MF (h:=h) (w:=t) (by omega) (by omega) t1 (by omega)) bl;rw [ec] at lk;generalize (stI d.R d.C (q0 h t)).length=N at lk;cases c with
     |true=>
      have e:clN true N=(N:Int)*1:=by simp [clN]
      try simp (disch:=omega) only [Pu.pwA,b0,LL,lk,DN,e,decide_true,decide_false,Bool.not_false,Bool.not_true]
      exact ⟨_,_,_,_,_,_,rfl,e2⟩
     |false=>
      have e:clN false N=(N:Int)*0:=by simp [clN]
      try simp (disch:=omega) only [Pu.pwA,b0,LL,lk,DN,e,decide_true,decide_false,Bool.not_false,Bool.not_true]
      exact ⟨_,_,_,_,_,_,rfl,e2⟩
  ·rintro ρ ⟨s2,s4,s5,s6,s7,s8,rfl,e2⟩
   try simp only [Pu.pwA]
   exact ⟨_,_,_,_,_,_,_,rfl,e2⟩
 ·rintro ρ ⟨s2,s3,s4,s5,s6,s7,s8,rfl,e2⟩
  try simp only [Pu.pwA]
def MD {k l:Int}:∀ ps:List (Int×Int),MP (.tuple [.int k,.int l]) (ps.map pD)=some (decide ((k,l)∈ps))
 |[]=>rfl
 |p::ps=>by
  have e:ZQ (pD p) (.tuple [.int k,.int l])=some (decide (p=(k,l))):=by
   obtain ⟨a,b⟩:=p;simp only [pD,ZQ,VO];by_cases c1:a=k<;>by_cases c2:b=l<;>simp [c1,c2]
  rw [map_cons,MP,e,MD ps];simp only;congr 1;by_cases c:p=(k,l)
  ·subst c;simp
  ·have:¬ (k,l)=p:=λz=>c z.symm;by_cases c2:(k,l)∈ps<;>simp [c,c2,this]
def qbp {k l:Int} {ps:List (Int×Int)}:qmv false (.tuple [.int k,.int l]) (.list (ps.map pD))=some (.bool (decide ((k,l)∈ps))):=by
 refine (zI λy hy=>?_).trans ?_
 ·obtain ⟨p,_,rfl⟩:=mem_map.mp hy;simp [pD,dpt,qcq]
 ·rw [MD];rfl
def qmY {R C B a b x y:Int} {m:Nat} (hx:0<=x/\x<R) (hy:1-C<=y/\y<C):decide ((x,y)∈fsI R C B a b m)=((decide (0<x)||decide (0<y))&&frB R C B a b (qW x y m)):=by
 rw [Bool.eq_iff_iff,decide_eq_true_eq];unfold fsI;constructor
 ·intro h;obtain ⟨i,hi,h⟩:=List.mem_flatMap.mp h;obtain ⟨j,hj,e⟩:=mem_map.mp h;cases e;exact (List.mem_filter.mp hj).2
 ·intro h;refine List.mem_flatMap.mpr ⟨x,?_,mem_map.mpr ⟨y,List.mem_filter.mpr ⟨?_,h⟩,rfl⟩⟩
  ·unfold zT;exact mem_map.mpr ⟨x.toNat,mem_range.mpr (by omega),by omega⟩
  ·unfold zT;exact mem_map.mpr ⟨(y-(1-C)).toNat,mem_range.mpr (by omega),by omega⟩
def qpP {x y:Int} (hx:0<=x):HT.YA [x,y] [0,0]=(decide (0<x)||decide (0<y)):=by
 rw [HT.EX,HT.EX,HT.UI];by_cases c:x=0
 ·rw [if_pos c];by_cases c2:y=0
  ·rw [if_pos c2];simp [c,c2]
  ·rw [if_neg c2];simp [c]
 ·rw [if_neg c];simp;omega
def qpW {d:Dl} {n:Nat} {Q:QD} (hp:Pl d) (ok:d.Ok) (hR16:d.R<=16) (hC16:d.C<=16) (hn:n<700000) (h:Q (.bool true) (n+100)):zm.W [dlD d,grD d] n Q:=by
 have l:=Dl.lims ok;have:=l.r1;have:=l.c1;rw [DE];refine ⟨rfl,?_⟩;unfold jq;refine Z4 λY1 h1=>?_
 try simp (disch:=omega) only [Pu.pwA,W8]
 refine ⟨by omega,λm0 m1 m2=>?_⟩
 try simp (disch:=omega) only [Pu.pwA,W8]
 rw [h1];obtain ⟨m,hm⟩:∃ m:Nat,(1:Int)+(m0:Int)%9=m:=⟨1+m0%9,by omega⟩
 have hm1:1<=m/\m<=9:=by omega
 rw [hm];refine Z4 λY2 h2=>?_;have fs:=qpO (j:=1) (m:=m) hp (qpj hp) ok (by omega) (by omega) (by omega) (by omega)
 try simp only [Pu.pwA,fs]
 rw [h2];refine Z4 λY3 h3=>?_
 try simp (disch:=omega) only [Pu.pwA,SI]
 refine DX (zT 0 (20:Int).toNat) jw.mn (λi ρ n'=>n'<=n+20+2*i/\∃ s4 s5 s6 s7 s8 s9,ρ=[.un,.sh (dlD d),.sh (grD d),.sh (.int m),s4,s5,s6,s7,s8,s9]/\s4.d=some (.list ((fsI d.R d.C d.B (fA d) (fB d) m).map pD))) ⟨by omega,_,_,_,_,_,_,rfl,rfl⟩ ?_ ?_
 ·rintro i x ρ n' hx ⟨hn',s4,s5,s6,s7,s8,s9,rfl,h4⟩;have hi:i<20:=(List.getElem?_eq_some_iff.mp hx).1;refine ⟨_,rfl,?_⟩;unfold jw;refine Z4 λZ1 g1=>?_;have e0:=ixG (d:=d) (i:=0) (by omega) (by omega)
  try simp (disch:=omega) only [Pu.pwA,e0,qli ok,qmD ok,je]
  refine ⟨by omega,by omega,λu u0 u1=>?_⟩
  try simp (disch:=omega) only [Pu.pwA,e0,qli ok,qmD ok,je]
  refine ⟨by omega,by omega,λv0 v1 v2=>?_⟩
  try simp (disch:=omega) only [Pu.pwA,e0,qli ok,qmD ok,je]
  obtain ⟨v,hv⟩:∃ v,v=v0+1-d.C:=⟨_,rfl⟩
  rw [← hv,g1];refine Z4 λZ2 g2=>?_;have lk:=qmE hp ok (CW (x:=u) (y:=v) (m:=m) (by omega) (by omega) (by omega) (by omega)) (by simp [qW];omega);have inn:=qbp (k:=u) (l:=v) (ps:=fsI d.R d.C d.B (fA d) (fB d) m);rw [qmY (by omega) (by omega)] at inn;have gt:=qpP (x:=u) (y:=v) u0;generalize (decide (0<u)||decide (0<v))=g at *;unfold frB at inn;generalize hN:(stI d.R d.C (qW u v m)).length=N at *;generalize unB (rst d.B (fA d) (fB d) (qW u v m))=c at *
  try simp only [Pu.pwA]
  rw [QI (ds:=(zT 0 m).map PyData.int) (fs:=(qW u v m).map pD)]
  rotate_left
  ·try simp (disch:=omega) only [Pu.pwA,SI,Int.toNat_natCast]
  ·unfold qW zT;rw [map_map,map_map];refine zJ λk hk=>?_;have:=mem_range.mp hk
   try simp (disch:=omega) only [Pu.pwA,ZM,pD,je,Int.zero_add,Function.comp_def]
  ·simp [qW];omega
  try simp only [Pu.pwA,lk]
  rw [g2];refine Z4 λZ3 g3=>?_;have fin:∀ {t5 t6 t7 t8 t9:Sl},n'+1+1<=n+20+2*(i+1)/\∃ s4' s5' s6' s7' s8' s9',[Sl.un,.sh (dlD d),.sh (grD d),.sh (.int m),s4,t5,t6,t7,t8,t9]=[Sl.un,.sh (dlD d),.sh (grD d),.sh (.int m),s4',s5',s6',s7',s8',s9']/\s4'.d=some (.list ((fsI d.R d.C d.B (fA d) (fB d) m).map pD)):=λ{_ _ _ _ _}=>⟨by omega,_,_,_,_,_,_,rfl,h4⟩
  cases g with
  |false=>
   try simp only [Pu.pwA,R5,D0,qcO,gt,Bool.false_and]
   rw [g3]
   try simp only [Pu.pwA,h4,inn,Bool.false_and]
   exact fin
  |true=>
   by_cases c1:(0:Int)<(N:Int)
   ·have c1':0<N:=by omega
    cases c with
    |false=>
     have e:¬ ((N:Int)=clN false N):=by simp [clN];omega
     try simp only [Pu.pwA,R5,D0,qcO,gt,c1,e,decide_true,decide_false]
     rw [g3]
     try simp only [Pu.pwA,h4,inn,Bool.and_false]
     exact fin
    |true=>
     have e:(N:Int)=clN true N:=by simp [clN]
     try simp only [Pu.pwA,R5,D0,qcO,gt,c1,← e,decide_true]
     rw [g3]
     try simp only [Pu.pwA,h4,inn,c1',decide_true,Bool.and_self]
     exact fin
   ·have c1':¬ 0<N:=by omega
    try simp only [Pu.pwA,R5,D0,qcO,gt,c1,decide_false]
    rw [g3]
    try simp only [Pu.pwA,h4,inn,c1',decide_false,Bool.false_and,Bool.true_and]
    exact fin
 ·rintro ρ n' ⟨hn',s4,s5,s6,s7,s8,s9,rfl,h4⟩;rw [jG] at hn'
  try simp only [Pu.pwA]
  rw [h3]
  try simp only [Pu.pwA]
  exact ⟨_,by simp at hn';omega,h⟩
def qig {i j:Nat} {m:List Bool} {x y:List PyData} {ρ:Rho}:qdd i j m [.list x,.tuple y] ρ=some (.nx (((dm m ρ).set i (.sh (.list x))).set j (.sh (.tuple y)))):=id rfl
def qjH:∀ k:Nat,k<=60->qdq.w [.un,.sh (.int k),.un,.un,.un,.un,.un,.un,.un,.un,.un,.un] 0 okW:=by
 intro k hk;unfold qdq;refine Z4 λY1 h1=>?_
 try simp only [Pu.pwA]
 refine qhw (by omega) λd h99 D=>?_;have hp:=p99 h99;have ok:=D.ok;have hR:=D.r2;have hC:=D.c2;have hB:=D.b2;have lm:=Dl.lims ok;have b1:=lm.b1
 try simp only [Pu.pwA]
 rw [h1];refine Z4 λY2 h2=>?_
 try simp only [Pu.pwA,qpn hp ok]
 rw [h2];refine Z4 λY3 h3=>?_
 try simp (disch:=omega) only [Pu.pwA,SI]
 refine DX (zT 0 (6:Int).toNat) SG.mn (λi ρ n=>n<=20+3*i/\∃ s4 s5 s6 s7,ρ=[.un,.sh (.int k),.un,.sh (dlD d),s4,s5,s6,s7,.un,.un,.un,.un]/\s4.d=some (grD d)) ⟨by omega,_,_,_,_,rfl,rfl⟩ ?_ ?_
 ·rintro i x ρ n hx ⟨hn,s4,s5,s6,s7,rfl,h4⟩;have hi:i<6:=(List.getElem?_eq_some_iff.mp hx).1;refine ⟨_,rfl,?_⟩;unfold SG;refine Z4 λZ1 g1=>?_
  try simp only [Pu.pwA]
  refine qfY (by omega) λu v hu hv=>?_
  try simp only [Pu.pwA,pD]
  rw [g1];have sr:=qpx (u:=u) (v:=v) hp ok (by omega) (by omega) hB
  try simp only [Pu.pwA,h4,sr]
  exact ⟨by omega,_,_,_,_,rfl,by first|exact h4|rw [Pu.qaC,h4]⟩
 ·rintro ρ n ⟨hn,s4,s5,s6,s7,rfl,h4⟩;rw [jG] at hn
  try simp only [Pu.pwA]
  rw [h3];refine Z4 λY4 h4'=>?_;have br:=qpk hp ok hR hB
  try simp only [Pu.pwA,h4,br]
  refine qpW hp ok hR hC (by simp at hn;omega) ?_
  try simp only [Pu.pwA]
  rw [h4']
  try simp (disch:=omega) only [Pu.pwA,SI]
  refine DX (zT 0 (3:Int).toNat) C0.mn (λi ρ n=>n<=1000+70*i/\∃ s4 s5 s6 s7 s8 s9 s10 s11,ρ=[.un,.sh (.int k),.un,.sh (dlD d),s4,s5,s6,s7,s8,s9,s10,s11]/\s4.d=some (grD d)) ⟨by simp at hn;omega,_,_,_,_,_,_,_,_,rfl,h4⟩ ?_ ?_
  ·rintro i x ρ n hx ⟨hn,s4,s5,s6,s7,s8,s9,s10,s11,rfl,h4⟩;have hi:i<3:=(List.getElem?_eq_some_iff.mp hx).1;refine ⟨_,rfl,?_⟩;unfold C0;refine Z4 λZ1 g1=>?_
   try simp only [Pu.pwA]
   refine ⟨by omega,λw hw=>?_⟩;have big:=qjC hw;have cb:=qnc hw;have pl:=Bk.qfy hw
   try simp only [Pu.pwA]
   rw [g1];refine Z4 λZ2 g2=>?_
   try simp only [Pu.pwA,qpu big,qo4 hp ok big,qig]
   rw [g2];refine Z4 λZ3 g3=>?_;have lk:=qmE hp ok cb (by omega);have rl:=XG d.B (fA d) (fB d) w.pc
   try simp only [Pu.pwA,h4,lk]
   rw [g3];generalize (stI d.R d.C w.pc).length=N at *;have dc:=qh9 (ns:=rst d.B (fA d) (fB d) w.pc);generalize rst d.B (fA d) (fB d) w.pc=rs at *;have ls:=qdw (xs:=rs) (by omega);cases c:unB rs with
   |true=>
    rw [c] at dc;have e:clN true N=(N:Int)*1:=by simp [clN]
    try simp (disch:=omega) only [Pu.pwA,MK,ls,length_map,dc,DN,e,decide_true,Bool.not_true]
    exact ⟨by omega,_,_,_,_,_,_,_,_,rfl,by first|exact h4|rw [Pu.qaC,h4]⟩
   |false=>
    rw [c] at dc;have e:clN false N=(N:Int)*0:=by simp [clN]
    try simp (disch:=omega) only [Pu.pwA,MK,ls,length_map,dc,DN,e,decide_true,Bool.not_true]
    exact ⟨by omega,_,_,_,_,_,_,_,_,rfl,by first|exact h4|rw [Pu.qaC,h4]⟩
  ·rintro ρ n ⟨hn,s4,s5,s6,s7,s8,s9,s10,s11,rfl,h4⟩
   try simp only [Pu.pwA]
end K93
namespace K93
open PySem L2 L3 Bk
abbrev qjY : Env := { scope := PySem.Challenge.pw_bankwalk_k93_whole_rests_beside_looks.main.scope,locals := mainNs,globals := mainNs,cells := [],code := .ref 13,frame := some 14 }
abbrev qa2 : List Stmt := PySem.W.behindTheImports PySem.Challenge.pw_bankwalk_k93_whole_rests_beside_looks
abbrev SH:Code:=.body qa2 qjY
abbrev qkr:List Frame:=[PySem.W.topFrame ⟨0,0,0,0⟩]
def zq:Obj:=Hd.oT []
def jU:Obj:=⟨.none,none,.fields #[],#[]⟩
def qmo:Obj:=Hd.oC [.str "<module>" 182,.str "<module>" 183,.str "/claim/cut.py" 184,.int (1) 0,.int (0) 0,.int (0) 0,.int (0) 0,.int (0) 0,.ref 11,.bool false,.int (181) 0,.ref 12,.none,.none,.none,.none,.int (185) 0,.int (1) 0,.str "/claim/cut.py" 186]
def qmw:Obj:=⟨.type "frame",none,.plain,#[some (.ref 13),some (.ref 3),some (.ref 3),none,some (.str "__main__" 164),none,some (.ref 0)]⟩
def qjQ (P:Params):Heap:=⟨Array.mk [PySem.W.boot_o_0 P,PySem.W.boot_o_1 P,PySem.W.boot_o_2 P,PySem.W.boot_o_3 P,PySem.W.boot_o_4 P,PySem.W.boot_o_5 P,PySem.W.boot_o_6 P,PySem.W.boot_o_7 P,PySem.W.boot_o_8 P,PySem.W.boot_o_9 P,PySem.W.boot_o_10 P,zq,jU,qmo,qmw],{ }⟩
def qh3 (P:Params):PySem.W.BT:=(Hd.nd (PySem.W.boot_o_0 P) (Hd.nd (PySem.W.boot_o_1 P) (Hd.nd (PySem.W.boot_o_3 P) (Hd.lf (PySem.W.boot_o_7 P)) (Hd.lf zq)) (Hd.nd (PySem.W.boot_o_5 P) (Hd.lf (PySem.W.boot_o_9 P)) (Hd.lf qmo))) (Hd.nd (PySem.W.boot_o_2 P) (Hd.nd (PySem.W.boot_o_4 P) (Hd.lf (PySem.W.boot_o_8 P)) (Hd.lf jU)) (Hd.nd (PySem.W.boot_o_6 P) (Hd.lf (PySem.W.boot_o_10 P)) (Hd.lf qmw))))
set_option maxRecDepth 100000 in
set_option maxHeartbeats 0 in
def qjF (w : World) (os : OsState) : PySem.W.topGo treeTable PySem.Challenge.pw_bankwalk_k93_whole_rests_beside_looks w 11 (some (Value.ref 6)) 12 ⟨PySem.W.boot_heap w.params,Array.mk [],PySem.W.boot_drawn,PySem.W.boot_toks,os⟩ (PySem.W.topStub PySem.Challenge.pw_bankwalk_k93_whole_rests_beside_looks) = some (⟨qjQ w.params,#[],{ },187,os⟩,⟨denote treeTable SH,SH,⟨0,0,0,0⟩,qkr⟩) := by kernel_rfl
set_option maxRecDepth 100000 in
set_option maxHeartbeats 0 in
def qlr (w : World) (os : OsState) : PySem.W.segRun treeTable PySem.Challenge.pw_bankwalk_k93_whole_rests_beside_looks w 11 (some (Value.ref 6)) 1 1 ⟨qjQ w.params,#[],{ },187,os⟩ (PySem.W.blockOf qa2 qjY SH ⟨0,0,0,0⟩ qkr) = some (.next,(⟨qh3 w.params,15,{ },#[],{ },187,os⟩ : PySem.W.SharedT).abs,SH,⟨0,0,0,0⟩) := by kernel_rfl
def qpy (P:Params):Obj:=Hd.oD P 26 [(.str "__name__" 165,.str "law_bankwalk_k93_whole_rests_beside_looks" 324),(.str "__doc__" 166,.none),(.str "__package__" 167,.none),(.str "__loader__" 168,.builtin "__main__.__loader__#opaque"),(.str "__spec__" 169,.none),(.str "__annotations__" 170,.ref 6),(.str "__builtins__" 171,.ref 4),(.str "__file__" 173,.str "/claim/cut.py" 172),(.str "__cached__" 174,.none),(.str "first_alike" 197,.ref 21),(.str "size_of" 213,.ref 28),(.str "STRIDES" 233,.ref 29),(.str "strung" 239,.ref 38),(.str "cells_of" 245,.ref 43),(.str "starts" 251,.ref 48),(.str "factors_of" 260,.ref 55),(.str "rests_by" 266,.ref 60),(.str "rests_of" 274,.ref 67),(.str "is_unlike" 282,.ref 74),(.str "longest" 294,.ref 81),(.str "widest" 303,.ref 88),(.str "blocks" 309,.ref 93),(.str "is_free" 317,.ref 100),(.str "free_steps" 323,.ref 105),(.str "_law_mix" 334,.ref 112),(.str "_law_left" 344,.ref 119)]
def qpQ:Obj:=⟨.none,none,.fields #[.int (2) 0,.int (0) 0,.ref 20,.int (9) 0,.int (0) 0,.ref 27,.int (22) 0,.int (0) 0,.ref 37,.int (24) 0,.int (0) 0,.ref 42,.int (34) 0,.int (0) 0,.ref 47,.int (41) 0,.int (0) 0,.ref 54,.int (45) 0,.int (0) 0,.ref 59,.int (48) 0,.int (0) 0,.ref 66,.int (50) 0,.int (0) 0,.ref 73,.int (52) 0,.int (0) 0,.ref 80,.int (58) 0,.int (0) 0,.ref 87,.int (63) 0,.int (0) 0,.ref 92,.int (65) 0,.int (0) 0,.ref 99,.int (67) 0,.int (0) 0,.ref 104,.int (71) 0,.int (0) 0,.ref 111,.int (74) 0,.int (0) 0,.ref 118],#[]⟩
def qo9:Obj:=Hd.oN JZ 192
def qoN:Obj:=Hd.oG "first_alike" jn
def qog:Obj:=Hd.oK "first_alike" 189 2 1 181 15 16 .none (.ref 17) (.ref 18) 19 195 196
def qgJ:Obj:=Hd.oF "first_alike" jn (.str "bankwalk.basics" 187) (.ref 20)
def qiS:Obj:=Hd.oN WI 203
def qhT:Obj:=Hd.oG "size_of" Z9
def qhC:Obj:=Hd.oK "size_of" 200 9 1 181 22 23 .none (.ref 24) (.ref 25) 26 211 212
def qhl:Obj:=Hd.oF "size_of" Z9 (.str "bankwalk.dealings" 198) (.ref 27)
def qgr (P:Params):Obj:=Hd.oD P 4 [(.str "row" 216,.ref 30),(.str "column" 219,.ref 31),(.str "slant" 222,.ref 32),(.str "back" 225,.ref 33)]
def qhD:Obj:=Hd.oT [.int (0) 217,.int (1) 218]
def qhm:Obj:=Hd.oT [.int (1) 220,.int (0) 221]
def qg1:Obj:=Hd.oT [.int (1) 223,.int (1) 224]
def qg3:Obj:=Hd.oT [.int (1) 226,.int (-1) 228]
def qlf:Obj:=Hd.oG "strung" YG
def qgV:Obj:=Hd.oK "strung" 234 22 3 181 34 35 .none .none .none 36 237 238
def qhx:Obj:=Hd.oF "strung" YG (.str "bankwalk.walks" 214) (.ref 37)
def qja:Obj:=Hd.oG "cells_of" QS
def qfX:Obj:=Hd.oK "cells_of" 240 24 1 181 39 40 .none .none .none 41 243 244
def qha:Obj:=Hd.oF "cells_of" QS (.str "bankwalk.walks" 214) (.ref 42)
def qjm:Obj:=Hd.oG "starts" YJ
def qgq:Obj:=Hd.oK "starts" 246 34 2 181 44 45 .none .none .none 46 249 250
def qhz:Obj:=Hd.oF "starts" YJ (.str "bankwalk.walks" 214) (.ref 47)
def qjj:Obj:=Hd.oN RY 257
def qlV:Obj:=Hd.oG "factors_of" jH
def qfQ:Obj:=Hd.oK "factors_of" 254 41 1 181 49 50 .none (.ref 51) (.ref 52) 53 258 259
def qhj:Obj:=Hd.oF "factors_of" jH (.str "bankwalk.rests" 252) (.ref 54)
def qjf:Obj:=Hd.oG "rests_by" QU
def qfL:Obj:=Hd.oK "rests_by" 261 45 3 181 56 57 .none .none .none 58 264 265
def qgy:Obj:=Hd.oF "rests_by" QU (.str "bankwalk.rests" 252) (.ref 59)
def qh7:Obj:=Hd.oN YD 270
def qjD:Obj:=Hd.oG "rests_of" Q6
def qhf:Obj:=Hd.oK "rests_of" 267 48 2 181 61 62 .none (.ref 63) (.ref 64) 65 272 273
def qfR:Obj:=Hd.oF "rests_of" Q6 (.str "bankwalk.rests" 252) (.ref 66)
def qmb:Obj:=Hd.oN YD 278
def qlT:Obj:=Hd.oG "is_unlike" jV
def qhv:Obj:=Hd.oK "is_unlike" 275 50 2 181 68 69 .none (.ref 70) (.ref 71) 72 280 281
def qhp:Obj:=Hd.oF "is_unlike" jV (.str "bankwalk.rests" 252) (.ref 73)
def qi1:Obj:=Hd.oN W5 286
def qjG:Obj:=Hd.oG "longest" Z6
def qfK:Obj:=Hd.oK "longest" 283 52 3 181 75 76 .none (.ref 77) (.ref 78) 79 292 293
def qgf:Obj:=Hd.oF "longest" Z6 (.str "bankwalk.rests" 252) (.ref 80)
def qkq:Obj:=Hd.oN RP 298
def qiP:Obj:=Hd.oG "widest" YK
def qgS:Obj:=Hd.oK "widest" 295 58 2 181 82 83 .none (.ref 84) (.ref 85) 86 301 302
def qgR:Obj:=Hd.oF "widest" YK (.str "bankwalk.rests" 252) (.ref 87)
def qiU:Obj:=Hd.oG "blocks" YQ
def qgc:Obj:=Hd.oK "blocks" 304 63 1 181 89 90 .none .none .none 91 307 308
def qgU:Obj:=Hd.oF "blocks" YQ (.str "bankwalk.rests" 252) (.ref 92)
def qi7:Obj:=Hd.oN YD 313
def qjk:Obj:=Hd.oG "is_free" ZU
def qg6:Obj:=Hd.oK "is_free" 310 65 2 181 94 95 .none (.ref 96) (.ref 97) 98 315 316
def qfT:Obj:=Hd.oF "is_free" ZU (.str "bankwalk.rests" 252) (.ref 99)
def qlL:Obj:=Hd.oG "free_steps" jC
def qf9:Obj:=Hd.oK "free_steps" 318 67 2 181 101 102 .none .none .none 103 321 322
def qgj:Obj:=Hd.oF "free_steps" jC (.str "bankwalk.rests" 252) (.ref 104)
def qju:Obj:=Hd.oN WJ 329
def qlj:Obj:=Hd.oG "_law_mix" ZY
def qg0:Obj:=Hd.oK "_law_mix" 326 71 2 181 106 107 .none (.ref 108) (.ref 109) 110 332 333
def qgC:Obj:=Hd.oF "_law_mix" ZY (.str "law_bankwalk_k93_whole_rests_beside_looks" 324) (.ref 111)
def qiY:Obj:=Hd.oN DH 338
def qkt:Obj:=Hd.oG "_law_left" Q1
def qf3:Obj:=Hd.oK "_law_left" 335 74 2 181 113 114 .none (.ref 115) (.ref 116) 117 342 343
def qf0:Obj:=Hd.oF "_law_left" Q1 (.str "law_bankwalk_k93_whole_rests_beside_looks" 324) (.ref 118)
def qjt (P:Params):PySem.W.BT:=(Hd.nd (PySem.W.boot_o_0 P) (Hd.nd (PySem.W.boot_o_1 P) (Hd.nd (qpy P) (Hd.nd (PySem.W.boot_o_7 P) (Hd.nd zq (Hd.nd qhm (Hd.lf qh7) (Hd.lf jU)) (Hd.nd qgq (Hd.lf qjG) (Hd.lf qg0))) (Hd.nd jU (Hd.nd zq (Hd.lf zq) (Hd.lf qlL)) (Hd.nd qhj (Hd.lf qgS) (Hd.lf qf0)))) (Hd.nd zq (Hd.nd qoN (Hd.nd jU (Hd.lf qfR) (Hd.lf qg6)) (Hd.nd qjj (Hd.lf jU) (Hd.lf qiY))) (Hd.nd qhC (Hd.nd qha (Hd.lf zq) (Hd.lf jU)) (Hd.nd qfL (Hd.lf qiU) .nil)))) (Hd.nd (PySem.W.boot_o_5 P) (Hd.nd (PySem.W.boot_o_9 P) (Hd.nd qo9 (Hd.nd qg3 (Hd.lf qjD) (Hd.lf zq)) (Hd.nd zq (Hd.lf qgf) (Hd.lf zq))) (Hd.nd zq (Hd.nd qja (Hd.lf qhv) (Hd.lf qgj)) (Hd.nd jU (Hd.lf zq) .nil))) (Hd.nd qmo (Hd.nd qgJ (Hd.nd qgV (Hd.lf jU) (Hd.lf zq)) (Hd.nd qlV (Hd.lf zq) (Hd.lf qkt))) (Hd.nd (qgr P) (Hd.nd jU (Hd.lf qi1) (Hd.lf zq)) (Hd.nd zq (Hd.lf qgU) .nil))))) (Hd.nd (PySem.W.boot_o_2 P) (Hd.nd (PySem.W.boot_o_4 P) (Hd.nd (PySem.W.boot_o_8 P) (Hd.nd jU (Hd.nd qg1 (Hd.lf zq) (Hd.lf qi7)) (Hd.nd qhz (Hd.lf qfK) (Hd.lf qgC))) (Hd.nd qiS (Hd.nd jU (Hd.lf qlT) (Hd.lf qf9)) (Hd.nd zq (Hd.lf qgR) .nil))) (Hd.nd qpQ (Hd.nd qog (Hd.nd qlf (Hd.lf zq) (Hd.lf qfT)) (Hd.nd zq (Hd.lf qkq) (Hd.lf zq))) (Hd.nd qhl (Hd.nd zq (Hd.lf jU) (Hd.lf qju)) (Hd.nd qgy (Hd.lf qgc) .nil)))) (Hd.nd (PySem.W.boot_o_6 P) (Hd.nd (PySem.W.boot_o_10 P) (Hd.nd zq (Hd.nd zq (Hd.lf qhf) (Hd.lf qjk)) (Hd.nd jU (Hd.lf zq) (Hd.lf jU))) (Hd.nd qhT (Hd.nd qfX (Hd.lf qhp) (Hd.lf zq)) (Hd.nd qjf (Hd.lf jU) .nil))) (Hd.nd qmw (Hd.nd zq (Hd.nd qhx (Hd.lf qmb) (Hd.lf jU)) (Hd.nd qfQ (Hd.lf qiP) (Hd.lf qf3))) (Hd.nd qhD (Hd.nd qjm (Hd.lf zq) (Hd.lf qlj)) (Hd.nd jU (Hd.lf zq) .nil))))))
abbrev qdM:List Stmt:=(qa2.drop 0).take 22
def qe5 (os : OsState) (w : World) : Prop := PySem.W.segRunT treeTable PySem.Challenge.pw_bankwalk_k93_whole_rests_beside_looks w 11 (some (Value.ref 6)) 1 603 (⟨qh3 w.params,15,{ },#[],{ },187,os⟩ : PySem.W.SharedT) (PySem.W.piecesOf qdM qjY SH ⟨0,0,0,0⟩ qkr) = some (.next,(⟨qjt w.params,120,{ },#[],{ },345,os⟩ : PySem.W.SharedT),SH,⟨74,0,77,54⟩)
set_option maxRecDepth 100000 in
set_option maxHeartbeats 0 in
def qj0 (w:World) (os:OsState):qe5 os w:=
 PySem.W.byRow2 "special-get-raises" (P:=qe5 os) (λw=>show _=_ by kernel_rfl) (λw=>show _=_ by kernel_rfl) w
def qhV (P:Params):Obj:=Hd.oD P 46 [(.str "__name__" 165,.str "law_bankwalk_k93_whole_rests_beside_looks" 324),(.str "__doc__" 166,.none),(.str "__package__" 167,.none),(.str "__loader__" 168,.builtin "__main__.__loader__#opaque"),(.str "__spec__" 169,.none),(.str "__annotations__" 170,.ref 6),(.str "__builtins__" 171,.ref 4),(.str "__file__" 173,.str "/claim/cut.py" 172),(.str "__cached__" 174,.none),(.str "first_alike" 197,.ref 21),(.str "size_of" 213,.ref 28),(.str "STRIDES" 233,.ref 29),(.str "strung" 239,.ref 38),(.str "cells_of" 245,.ref 43),(.str "starts" 251,.ref 48),(.str "factors_of" 260,.ref 55),(.str "rests_by" 266,.ref 60),(.str "rests_of" 274,.ref 67),(.str "is_unlike" 282,.ref 74),(.str "longest" 294,.ref 81),(.str "widest" 303,.ref 88),(.str "blocks" 309,.ref 93),(.str "is_free" 317,.ref 100),(.str "free_steps" 323,.ref 105),(.str "_law_mix" 334,.ref 112),(.str "_law_left" 344,.ref 119),(.str "_law_pick" 353,.ref 126),(.str "_law_sides" 363,.ref 133),(.str "_law_gcd" 371,.ref 140),(.str "_law_skew" 382,.ref 147),(.str "_law_rests" 394,.ref 154),(.str "_law_plain" 401,.ref 161),(.str "_law_great" 413,.ref 168),(.str "_law_size" 419,.ref 173),(.str "_law_odd" 428,.ref 180),(.str "_law_bank" 434,.ref 185),(.str "_law_grid" 440,.ref 190),(.str "_law_looked" 446,.ref 195),(.str "_law_many" 453,.ref 202),(.str "_law_walk" 470,.ref 209),(.str "_law_cells" 476,.ref 214),(.str "_law_steps" 486,.ref 221),(.str "_law_steps_right" 492,.ref 226),(.str "_law_blocks_right" 498,.ref 231),(.str "_law_free_right" 504,.ref 236),(.str "law" 522,.ref 243)]
def qod:Obj:=⟨.none,none,.fields #[.int (2) 0,.int (0) 0,.ref 20,.int (9) 0,.int (0) 0,.ref 27,.int (22) 0,.int (0) 0,.ref 37,.int (24) 0,.int (0) 0,.ref 42,.int (34) 0,.int (0) 0,.ref 47,.int (41) 0,.int (0) 0,.ref 54,.int (45) 0,.int (0) 0,.ref 59,.int (48) 0,.int (0) 0,.ref 66,.int (50) 0,.int (0) 0,.ref 73,.int (52) 0,.int (0) 0,.ref 80,.int (58) 0,.int (0) 0,.ref 87,.int (63) 0,.int (0) 0,.ref 92,.int (65) 0,.int (0) 0,.ref 99,.int (67) 0,.int (0) 0,.ref 104,.int (71) 0,.int (0) 0,.ref 111,.int (74) 0,.int (0) 0,.ref 118,.int (78) 0,.int (0) 0,.ref 125,.int (85) 0,.int (0) 0,.ref 132,.int (89) 0,.int (0) 0,.ref 139,.int (93) 0,.int (0) 0,.ref 146,.int (98) 0,.int (0) 0,.ref 153,.int (106) 0,.int (0) 0,.ref 160,.int (108) 0,.int (0) 0,.ref 167,.int (120) 0,.int (0) 0,.ref 172,.int (130) 0,.int (0) 0,.ref 179,.int (135) 0,.int (0) 0,.ref 184,.int (148) 0,.int (0) 0,.ref 189,.int (151) 0,.int (0) 0,.ref 194,.int (159) 0,.int (0) 0,.ref 201,.int (161) 0,.int (0) 0,.ref 208,.int (180) 0,.int (0) 0,.ref 213,.int (190) 0,.int (0) 0,.ref 220,.int (194) 0,.int (0) 0,.ref 225,.int (201) 0,.int (0) 0,.ref 230,.int (212) 0,.int (0) 0,.ref 235,.int (222) 0,.int (0) 0,.ref 242],#[]⟩
def qol:Obj:=Hd.oN EL 348
def qnl:Obj:=Hd.oG "_law_pick" QT
def qk7:Obj:=Hd.oK "_law_pick" 345 78 2 181 120 121 .none (.ref 122) (.ref 123) 124 351 352
def qlB:Obj:=Hd.oF "_law_pick" QT (.str "law_bankwalk_k93_whole_rests_beside_looks" 324) (.ref 125)
def qnG:Obj:=Hd.oN UD 357
def qmL:Obj:=Hd.oG "_law_sides" jZ
def qia:Obj:=Hd.oK "_law_sides" 354 85 1 181 127 128 .none (.ref 129) (.ref 130) 131 361 362
def qmc:Obj:=Hd.oF "_law_sides" jZ (.str "law_bankwalk_k93_whole_rests_beside_looks" 324) (.ref 132)
def qm4:Obj:=Hd.oN XN 367
def qn8:Obj:=Hd.oG "_law_gcd" ZV
def qip:Obj:=Hd.oK "_law_gcd" 364 89 2 181 134 135 .none (.ref 136) (.ref 137) 138 369 370
def qk9:Obj:=Hd.oF "_law_gcd" ZV (.str "law_bankwalk_k93_whole_rests_beside_looks" 324) (.ref 139)
def qn6:Obj:=Hd.oN ZZ 375
def qnE:Obj:=Hd.oG "_law_skew" QR
def qiq:Obj:=Hd.oK "_law_skew" 372 93 1 181 141 142 .none (.ref 143) (.ref 144) 145 380 381
def qkV:Obj:=Hd.oF "_law_skew" QR (.str "law_bankwalk_k93_whole_rests_beside_looks" 324) (.ref 146)
def qn0:Obj:=Hd.oN V4 386
def qmG:Obj:=Hd.oG "_law_rests" j0
def qii:Obj:=Hd.oK "_law_rests" 383 98 1 181 148 149 .none (.ref 150) (.ref 151) 152 392 393
def qla:Obj:=Hd.oF "_law_rests" j0 (.str "law_bankwalk_k93_whole_rests_beside_looks" 324) (.ref 153)
def qnR:Obj:=Hd.oN VM 398
def qmH:Obj:=Hd.oG "_law_plain" j1
def qmf:Obj:=Hd.oK "_law_plain" 395 106 1 181 155 156 .none (.ref 157) (.ref 158) 159 399 400
def qkK:Obj:=Hd.oF "_law_plain" j1 (.str "law_bankwalk_k93_whole_rests_beside_looks" 324) (.ref 160)
def qmT:Obj:=Hd.oN QW 405
def qn9:Obj:=Hd.oG "_law_great" j4
def qih:Obj:=Hd.oK "_law_great" 402 108 1 181 162 163 .none (.ref 164) (.ref 165) 166 411 412
def qmh:Obj:=Hd.oF "_law_great" j4 (.str "law_bankwalk_k93_whole_rests_beside_looks" 324) (.ref 167)
def qkm:Obj:=Hd.oG "_law_size" Q2
def qfz:Obj:=Hd.oK "_law_size" 414 120 1 181 169 170 .none .none .none 171 417 418
def qd9:Obj:=Hd.oF "_law_size" Q2 (.str "law_bankwalk_k93_whole_rests_beside_looks" 324) (.ref 172)
def qjZ:Obj:=Hd.oN qbA 423
def qkk:Obj:=Hd.oG "_law_odd" EZ
def qer:Obj:=Hd.oK "_law_odd" 420 130 1 181 174 175 .none (.ref 176) (.ref 177) 178 426 427
def qfp:Obj:=Hd.oF "_law_odd" EZ (.str "law_bankwalk_k93_whole_rests_beside_looks" 324) (.ref 179)
def qk1:Obj:=Hd.oG "_law_bank" QY
def qdH:Obj:=Hd.oK "_law_bank" 429 135 3 181 181 182 .none .none .none 183 432 433
def qe2:Obj:=Hd.oF "_law_bank" QY (.str "law_bankwalk_k93_whole_rests_beside_looks" 324) (.ref 184)
def ql5:Obj:=Hd.oG "_law_grid" Q7
def qfa:Obj:=Hd.oK "_law_grid" 435 148 1 181 186 187 .none .none .none 188 438 439
def qfo:Obj:=Hd.oF "_law_grid" Q7 (.str "law_bankwalk_k93_whole_rests_beside_looks" 324) (.ref 189)
def qjK:Obj:=Hd.oG "_law_looked" jB
def qeF:Obj:=Hd.oK "_law_looked" 441 151 2 181 191 192 .none .none .none 193 444 445
def qeU:Obj:=Hd.oF "_law_looked" jB (.str "law_bankwalk_k93_whole_rests_beside_looks" 324) (.ref 194)
def qkn:Obj:=Hd.oN VM 450
def qkG:Obj:=Hd.oG "_law_many" Q0
def qfr:Obj:=Hd.oK "_law_many" 447 159 1 181 196 197 .none (.ref 198) (.ref 199) 200 451 452
def qft:Obj:=Hd.oF "_law_many" Q0 (.str "law_bankwalk_k93_whole_rests_beside_looks" 324) (.ref 201)
def qlD:Obj:=Hd.oN ER 457
def qld:Obj:=Hd.oG "_law_walk" Q4
def qed:Obj:=Hd.oK "_law_walk" 454 161 1 181 203 204 .none (.ref 205) (.ref 206) 207 468 469
def qeI:Obj:=Hd.oF "_law_walk" Q4 (.str "law_bankwalk_k93_whole_rests_beside_looks" 324) (.ref 208)
def qkA:Obj:=Hd.oG "_law_cells" jW
def qfj:Obj:=Hd.oK "_law_cells" 471 180 1 181 210 211 .none .none .none 212 474 475
def qdX:Obj:=Hd.oF "_law_cells" jW (.str "law_bankwalk_k93_whole_rests_beside_looks" 324) (.ref 213)
def qlp:Obj:=Hd.oN QV 480
def ql7:Obj:=Hd.oG "_law_steps" j2
def qe7:Obj:=Hd.oK "_law_steps" 477 190 1 181 215 216 .none (.ref 217) (.ref 218) 219 484 485
def qfC:Obj:=Hd.oF "_law_steps" j2 (.str "law_bankwalk_k93_whole_rests_beside_looks" 324) (.ref 220)
def qi6:Obj:=Hd.oG "_law_steps_right" zp
def qeM:Obj:=Hd.oK "_law_steps_right" 487 194 4 181 222 223 .none .none .none 224 490 491
def qdN:Obj:=Hd.oF "_law_steps_right" zp (.str "law_bankwalk_k93_whole_rests_beside_looks" 324) (.ref 225)
def qiD:Obj:=Hd.oG "_law_blocks_right" zh
def qeQ:Obj:=Hd.oK "_law_blocks_right" 493 201 2 181 227 228 .none .none .none 229 496 497
def qev:Obj:=Hd.oF "_law_blocks_right" zh (.str "law_bankwalk_k93_whole_rests_beside_looks" 324) (.ref 230)
def qi0:Obj:=Hd.oG "_law_free_right" zu
def qfw:Obj:=Hd.oK "_law_free_right" 499 212 3 181 232 233 .none .none .none 234 502 503
def qd3:Obj:=Hd.oF "_law_free_right" zu (.str "law_bankwalk_k93_whole_rests_beside_looks" 324) (.ref 235)
def qkS:Obj:=Hd.oN qb5 508
def qiT:Obj:=Hd.oG "law" YE
def qdU:Obj:=Hd.oK "law" 505 222 1 181 237 238 .none (.ref 239) (.ref 240) 241 520 521
def qfl:Obj:=Hd.oF "law" YE (.str "law_bankwalk_k93_whole_rests_beside_looks" 324) (.ref 242)
def qgF (P:Params):PySem.W.BT:=(Hd.nd (PySem.W.boot_o_0 P) (Hd.nd (PySem.W.boot_o_1 P) (Hd.nd (qhV P) (Hd.nd (PySem.W.boot_o_7 P) (Hd.nd zq (Hd.nd qhm (Hd.nd qh7 (Hd.lf zq) (Hd.lf zq)) (Hd.nd jU (Hd.lf qmH) (Hd.lf jU))) (Hd.nd qgq (Hd.nd qjG (Hd.lf qn6) (Hd.lf qld)) (Hd.nd qg0 (Hd.lf jU) (Hd.lf qkS)))) (Hd.nd jU (Hd.nd zq (Hd.nd zq (Hd.lf jU) (Hd.lf zq)) (Hd.nd qlL (Hd.lf qih) (Hd.lf qev))) (Hd.nd qhj (Hd.nd qgS (Hd.lf zq) (Hd.lf zq)) (Hd.nd qf0 (Hd.lf qk1) .nil)))) (Hd.nd zq (Hd.nd qoN (Hd.nd jU (Hd.nd qfR (Hd.lf qmL) (Hd.lf qeU)) (Hd.nd qg6 (Hd.lf jU) (Hd.lf zq))) (Hd.nd qjj (Hd.nd jU (Hd.lf qkV) (Hd.lf jU)) (Hd.nd qiY (Hd.lf qer) (Hd.lf qfl)))) (Hd.nd qhC (Hd.nd qha (Hd.nd zq (Hd.lf qip) (Hd.lf zq)) (Hd.nd jU (Hd.lf qkm) (Hd.lf qfw))) (Hd.nd qfL (Hd.nd qiU (Hd.lf zq) (Hd.lf ql7)) (Hd.nd zq (Hd.lf jU) .nil))))) (Hd.nd (PySem.W.boot_o_5 P) (Hd.nd (PySem.W.boot_o_9 P) (Hd.nd qo9 (Hd.nd qg3 (Hd.nd qjD (Hd.lf qnG) (Hd.lf qjK)) (Hd.nd zq (Hd.lf qkK) (Hd.lf qeM))) (Hd.nd zq (Hd.nd qgf (Hd.lf qnE) (Hd.lf qeI)) (Hd.nd zq (Hd.lf zq) (Hd.lf qiT)))) (Hd.nd zq (Hd.nd qja (Hd.nd qhv (Hd.lf zq) (Hd.lf qfr)) (Hd.nd qgj (Hd.lf zq) (Hd.lf jU))) (Hd.nd jU (Hd.nd zq (Hd.lf qii) (Hd.lf qlp)) (Hd.nd jU (Hd.lf qe2) .nil)))) (Hd.nd qmo (Hd.nd qgJ (Hd.nd qgV (Hd.nd jU (Hd.lf qmc) (Hd.lf jU)) (Hd.nd zq (Hd.lf zq) (Hd.lf qiD))) (Hd.nd qlV (Hd.nd zq (Hd.lf jU) (Hd.lf qfj)) (Hd.nd qkt (Hd.lf zq) .nil))) (Hd.nd (qgr P) (Hd.nd jU (Hd.nd qi1 (Hd.lf zq) (Hd.lf qlD)) (Hd.nd zq (Hd.lf qd9) (Hd.lf zq))) (Hd.nd zq (Hd.nd qgU (Hd.lf qnR) (Hd.lf qfC)) (Hd.nd qk7 (Hd.lf qfa) .nil)))))) (Hd.nd (PySem.W.boot_o_2 P) (Hd.nd (PySem.W.boot_o_4 P) (Hd.nd (PySem.W.boot_o_8 P) (Hd.nd jU (Hd.nd qg1 (Hd.nd zq (Hd.lf jU) (Hd.lf jU)) (Hd.nd qi7 (Hd.lf qmf) (Hd.lf qi6))) (Hd.nd qhz (Hd.nd qfK (Hd.lf zq) (Hd.lf qed)) (Hd.nd qgC (Hd.lf qjZ) (Hd.lf zq)))) (Hd.nd qiS (Hd.nd jU (Hd.nd qlT (Hd.lf qm4) (Hd.lf qkG)) (Hd.nd qf9 (Hd.lf qmh) (Hd.lf zq))) (Hd.nd zq (Hd.nd qgR (Hd.lf qmG) (Hd.lf jU)) (Hd.nd zq (Hd.lf qdH) .nil)))) (Hd.nd qod (Hd.nd qog (Hd.nd qlf (Hd.nd zq (Hd.lf qia) (Hd.lf zq)) (Hd.nd qfT (Hd.lf qmT) (Hd.lf jU))) (Hd.nd zq (Hd.nd qkq (Hd.lf zq) (Hd.lf qkA)) (Hd.nd zq (Hd.lf qfp) .nil))) (Hd.nd qhl (Hd.nd zq (Hd.nd jU (Hd.lf qk9) (Hd.lf jU)) (Hd.nd qju (Hd.lf qfz) (Hd.lf qd3))) (Hd.nd qgy (Hd.nd qgc (Hd.lf jU) (Hd.lf qe7)) (Hd.nd qnl (Hd.lf ql5) .nil))))) (Hd.nd (PySem.W.boot_o_6 P) (Hd.nd (PySem.W.boot_o_10 P) (Hd.nd zq (Hd.nd zq (Hd.nd qhf (Hd.lf zq) (Hd.lf qeF)) (Hd.nd qjk (Hd.lf zq) (Hd.lf qdN))) (Hd.nd jU (Hd.nd zq (Hd.lf qiq) (Hd.lf zq)) (Hd.nd jU (Hd.lf qkk) (Hd.lf qdU)))) (Hd.nd qhT (Hd.nd qfX (Hd.nd qhp (Hd.lf qn8) (Hd.lf qft)) (Hd.nd zq (Hd.lf jU) (Hd.lf qi0))) (Hd.nd qjf (Hd.nd jU (Hd.lf qla) (Hd.lf zq)) (Hd.nd qol (Hd.lf zq) .nil)))) (Hd.nd qmw (Hd.nd zq (Hd.nd qhx (Hd.nd qmb (Hd.lf zq) (Hd.lf qkn)) (Hd.nd jU (Hd.lf qn9) (Hd.lf qeQ))) (Hd.nd qfQ (Hd.nd qiP (Hd.lf qn0) (Hd.lf qdX)) (Hd.nd qf3 (Hd.lf jU) .nil))) (Hd.nd qhD (Hd.nd qjm (Hd.nd zq (Hd.lf jU) (Hd.lf zq)) (Hd.nd qlj (Hd.lf zq) (Hd.lf jU))) (Hd.nd jU (Hd.nd zq (Hd.lf zq) (Hd.lf zq)) (Hd.nd qlB (Hd.lf qfo) .nil)))))))
abbrev qee:List Stmt:=(qa2.drop 22).take 20
set_option maxRecDepth 100000 in
set_option maxHeartbeats 0 in
def qjL (w : World) (os : OsState) : PySem.W.segRunT treeTable PySem.Challenge.pw_bankwalk_k93_whole_rests_beside_looks w 11 (some (Value.ref 6)) 1 603 (⟨qjt w.params,120,{ },#[],{ },345,os⟩ : PySem.W.SharedT) (PySem.W.piecesOf qee qjY SH ⟨74,0,77,54⟩ qkr) = some (.next,(⟨qgF w.params,244,{ },#[],{ },523,os⟩ : PySem.W.SharedT),SH,⟨222,0,239,15⟩) := by kernel_rfl
abbrev qgM (P:Params):Heap:=PySem.W.absHeap (qgF P) 244 { }
def Kf (P:Params):PySem.W.Frag:=[(3,qhV P),(20,qog),(21,qgJ),(27,qhC),(28,qhl),(29,qgr P),(30,qhD),(31,qhm),(32,qg1),(33,qg3),(37,qgV),(38,qhx),(42,qfX),(43,qha),(47,qgq),(48,qhz),(54,qfQ),(55,qhj),(59,qfL),(60,qgy),(66,qhf),(67,qfR),(73,qhv),(74,qhp),(80,qfK),(81,qgf),(87,qgS),(88,qgR),(92,qgc),(93,qgU),(99,qg6),(100,qfT),(104,qf9),(105,qgj),(111,qg0),(112,qgC),(118,qf3),(119,qf0),(125,qk7),(126,qlB),(132,qia),(133,qmc),(139,qip),(140,qk9),(146,qiq),(147,qkV),(153,qii),(154,qla),(160,qmf),(161,qkK),(167,qih),(168,qmh),(172,qfz),(173,qd9),(179,qer),(180,qfp),(184,qdH),(185,qe2),(189,qfa),(190,qfo),(194,qeF),(195,qeU),(201,qfr),(202,qft),(208,qed),(209,qeI),(213,qfj),(214,qdX),(220,qe7),(221,qfC),(225,qeM),(226,qdN),(230,qeQ),(231,qev),(235,qfw),(236,qd3),(242,qdU),(243,qfl)]
def qiX {l:PySem.W.OpenLaw} {w:World} {h:Heap} {mg:Str->Option Value} {fa:Addr} (X:(Kf w.params).In h) (G:h.Ns mainGlobals mg) (hfa:mg "law" = some (.ref fa)) :
  ∃ fd:FuncData,(∀ (s:Shared) (v:Value),BindsTo s fd ⟨[v],[]⟩ [("_law_script",v)])/\∀ base:Heap,(Kf w.params).In base->base.Ns mainGlobals mg->FnOk l.prog w (Kf w.params) mg base CX0 9 fa fd ["_law_script"] (lSp (Kf w.params) CL):=by
 have e:=hfa.symm.trans (Hd.zK X G "law" (.ref 243) (by kernel_rfl));cases e;have F0:=Hd.zQ (K:=Kf w.params) "first_alike" jn 21 (.str "bankwalk.basics" 187) (.ref 20) (by kernel_rfl) (by kernel_rfl) (by kernel_rfl);have b0:=F0.binds (ps:=JD) λ_ _ _ _ _ _ us hl=>by obtain ⟨_,rfl⟩:=Pu.SN hl;rfl
 have m0:=Hd.zK X G "first_alike" (.ref 21) (by kernel_rfl);have F1:=Hd.zQ (K:=Kf w.params) "size_of" Z9 28 (.str "bankwalk.dealings" 198) (.ref 27) (by kernel_rfl) (by kernel_rfl) (by kernel_rfl);have b1:=F1.binds (ps:=WN) λ_ _ _ _ _ _ us hl=>by obtain ⟨_,rfl⟩:=Pu.SN hl;rfl
 have m1:=Hd.zK X G "size_of" (.ref 28) (by kernel_rfl);have F2:=Hd.zQ (K:=Kf w.params) "strung" YG 38 (.str "bankwalk.walks" 214) (.ref 37) (by kernel_rfl) (by kernel_rfl) (by kernel_rfl);have b2:=F2.binds (ps:=SB) λ_ _ _ _ _ _ us hl=>by obtain ⟨_,_,_,rfl⟩:=Pu.qhF hl;rfl
 have m2:=Hd.zK X G "strung" (.ref 38) (by kernel_rfl);have F3:=Hd.zQ (K:=Kf w.params) "cells_of" QS 43 (.str "bankwalk.walks" 214) (.ref 42) (by kernel_rfl) (by kernel_rfl) (by kernel_rfl);have b3:=F3.binds (ps:=E8) λ_ _ _ _ _ _ us hl=>by obtain ⟨_,rfl⟩:=Pu.SN hl;rfl
 have m3:=Hd.zK X G "cells_of" (.ref 43) (by kernel_rfl);have F4:=Hd.zQ (K:=Kf w.params) "starts" YJ 48 (.str "bankwalk.walks" 214) (.ref 47) (by kernel_rfl) (by kernel_rfl) (by kernel_rfl);have b4:=F4.binds (ps:=C2) λ_ _ _ _ _ _ us hl=>by obtain ⟨_,_,rfl⟩:=Pu.NK hl;rfl
 have m4:=Hd.zK X G "starts" (.ref 48) (by kernel_rfl);have F5:=Hd.zQ (K:=Kf w.params) "factors_of" jH 55 (.str "bankwalk.rests" 252) (.ref 54) (by kernel_rfl) (by kernel_rfl) (by kernel_rfl);have b5:=F5.binds (ps:=YI) λ_ _ _ _ _ _ us hl=>by obtain ⟨_,rfl⟩:=Pu.SN hl;rfl
 have m5:=Hd.zK X G "factors_of" (.ref 55) (by kernel_rfl);have F6:=Hd.zQ (K:=Kf w.params) "rests_by" QU 60 (.str "bankwalk.rests" 252) (.ref 59) (by kernel_rfl) (by kernel_rfl) (by kernel_rfl);have b6:=F6.binds (ps:=EF) λ_ _ _ _ _ _ us hl=>by obtain ⟨_,_,_,rfl⟩:=Pu.qhF hl;rfl
 have m6:=Hd.zK X G "rests_by" (.ref 60) (by kernel_rfl);have F7:=Hd.zQ (K:=Kf w.params) "rests_of" Q6 67 (.str "bankwalk.rests" 252) (.ref 66) (by kernel_rfl) (by kernel_rfl) (by kernel_rfl);have b7:=F7.binds (ps:=EU) λ_ _ _ _ _ _ us hl=>by obtain ⟨_,_,rfl⟩:=Pu.NK hl;rfl
 have m7:=Hd.zK X G "rests_of" (.ref 67) (by kernel_rfl);have F8:=Hd.zQ (K:=Kf w.params) "is_unlike" jV 74 (.str "bankwalk.rests" 252) (.ref 73) (by kernel_rfl) (by kernel_rfl) (by kernel_rfl);have b8:=F8.binds (ps:=UF) λ_ _ _ _ _ _ us hl=>by obtain ⟨_,_,rfl⟩:=Pu.NK hl;rfl
 have m8:=Hd.zK X G "is_unlike" (.ref 74) (by kernel_rfl);have F9:=Hd.zQ (K:=Kf w.params) "longest" Z6 81 (.str "bankwalk.rests" 252) (.ref 80) (by kernel_rfl) (by kernel_rfl) (by kernel_rfl);have b9:=F9.binds (ps:=XE) λ_ _ _ _ _ _ us hl=>by obtain ⟨_,_,_,rfl⟩:=Pu.qhF hl;rfl
 have m9:=Hd.zK X G "longest" (.ref 81) (by kernel_rfl);have F10:=Hd.zQ (K:=Kf w.params) "widest" YK 88 (.str "bankwalk.rests" 252) (.ref 87) (by kernel_rfl) (by kernel_rfl) (by kernel_rfl);have b10:=F10.binds (ps:=R6) λ_ _ _ _ _ _ us hl=>by obtain ⟨_,_,rfl⟩:=Pu.NK hl;rfl
 have m10:=Hd.zK X G "widest" (.ref 88) (by kernel_rfl);have F11:=Hd.zQ (K:=Kf w.params) "blocks" YQ 93 (.str "bankwalk.rests" 252) (.ref 92) (by kernel_rfl) (by kernel_rfl) (by kernel_rfl);have b11:=F11.binds (ps:=C5) λ_ _ _ _ _ _ us hl=>by obtain ⟨_,rfl⟩:=Pu.SN hl;rfl
 have m11:=Hd.zK X G "blocks" (.ref 93) (by kernel_rfl);have F12:=Hd.zQ (K:=Kf w.params) "is_free" ZU 100 (.str "bankwalk.rests" 252) (.ref 99) (by kernel_rfl) (by kernel_rfl) (by kernel_rfl);have b12:=F12.binds (ps:=W0) λ_ _ _ _ _ _ us hl=>by obtain ⟨_,_,rfl⟩:=Pu.NK hl;rfl
 have m12:=Hd.zK X G "is_free" (.ref 100) (by kernel_rfl);have F13:=Hd.zQ (K:=Kf w.params) "free_steps" jC 105 (.str "bankwalk.rests" 252) (.ref 104) (by kernel_rfl) (by kernel_rfl) (by kernel_rfl);have b13:=F13.binds (ps:=YO) λ_ _ _ _ _ _ us hl=>by obtain ⟨_,_,rfl⟩:=Pu.NK hl;rfl
 have m13:=Hd.zK X G "free_steps" (.ref 105) (by kernel_rfl);have F14:=Hd.zQ (K:=Kf w.params) "_law_mix" ZY 112 (.str "law_bankwalk_k93_whole_rests_beside_looks" 324) (.ref 111) (by kernel_rfl) (by kernel_rfl) (by kernel_rfl);have b14:=F14.binds (ps:=XI) λ_ _ _ _ _ _ us hl=>by obtain ⟨_,_,rfl⟩:=Pu.NK hl;rfl
 have m14:=Hd.zK X G "_law_mix" (.ref 112) (by kernel_rfl);have F15:=Hd.zQ (K:=Kf w.params) "_law_left" Q1 119 (.str "law_bankwalk_k93_whole_rests_beside_looks" 324) (.ref 118) (by kernel_rfl) (by kernel_rfl) (by kernel_rfl);have b15:=F15.binds (ps:=ET) λ_ _ _ _ _ _ us hl=>by obtain ⟨_,_,rfl⟩:=Pu.NK hl;rfl
 have m15:=Hd.zK X G "_law_left" (.ref 119) (by kernel_rfl);have F16:=Hd.zQ (K:=Kf w.params) "_law_pick" QT 126 (.str "law_bankwalk_k93_whole_rests_beside_looks" 324) (.ref 125) (by kernel_rfl) (by kernel_rfl) (by kernel_rfl);have b16:=F16.binds (ps:=EB) λ_ _ _ _ _ _ us hl=>by obtain ⟨_,_,rfl⟩:=Pu.NK hl;rfl
 have m16:=Hd.zK X G "_law_pick" (.ref 126) (by kernel_rfl);have F17:=Hd.zQ (K:=Kf w.params) "_law_sides" jZ 133 (.str "law_bankwalk_k93_whole_rests_beside_looks" 324) (.ref 132) (by kernel_rfl) (by kernel_rfl) (by kernel_rfl);have b17:=F17.binds (ps:=V7) λ_ _ _ _ _ _ us hl=>by obtain ⟨_,rfl⟩:=Pu.SN hl;rfl
 have m17:=Hd.zK X G "_law_sides" (.ref 133) (by kernel_rfl);have F18:=Hd.zQ (K:=Kf w.params) "_law_gcd" ZV 140 (.str "law_bankwalk_k93_whole_rests_beside_looks" 324) (.ref 139) (by kernel_rfl) (by kernel_rfl) (by kernel_rfl);have b18:=F18.binds (ps:=XC) λ_ _ _ _ _ _ us hl=>by obtain ⟨_,_,rfl⟩:=Pu.NK hl;rfl
 have m18:=Hd.zK X G "_law_gcd" (.ref 140) (by kernel_rfl);have F19:=Hd.zQ (K:=Kf w.params) "_law_skew" QR 147 (.str "law_bankwalk_k93_whole_rests_beside_looks" 324) (.ref 146) (by kernel_rfl) (by kernel_rfl) (by kernel_rfl);have b19:=F19.binds (ps:=ED) λ_ _ _ _ _ _ us hl=>by obtain ⟨_,rfl⟩:=Pu.SN hl;rfl
 have m19:=Hd.zK X G "_law_skew" (.ref 147) (by kernel_rfl);have F20:=Hd.zQ (K:=Kf w.params) "_law_rests" j0 154 (.str "law_bankwalk_k93_whole_rests_beside_looks" 324) (.ref 153) (by kernel_rfl) (by kernel_rfl) (by kernel_rfl);have b20:=F20.binds (ps:=V9) λ_ _ _ _ _ _ us hl=>by obtain ⟨_,rfl⟩:=Pu.SN hl;rfl
 have m20:=Hd.zK X G "_law_rests" (.ref 154) (by kernel_rfl);have F21:=Hd.zQ (K:=Kf w.params) "_law_plain" j1 161 (.str "law_bankwalk_k93_whole_rests_beside_looks" 324) (.ref 160) (by kernel_rfl) (by kernel_rfl) (by kernel_rfl);have b21:=F21.binds (ps:=VW) λ_ _ _ _ _ _ us hl=>by obtain ⟨_,rfl⟩:=Pu.SN hl;rfl
 have m21:=Hd.zK X G "_law_plain" (.ref 161) (by kernel_rfl);have F22:=Hd.zQ (K:=Kf w.params) "_law_great" j4 168 (.str "law_bankwalk_k93_whole_rests_beside_looks" 324) (.ref 167) (by kernel_rfl) (by kernel_rfl) (by kernel_rfl);have b22:=F22.binds (ps:=VY) λ_ _ _ _ _ _ us hl=>by obtain ⟨_,rfl⟩:=Pu.SN hl;rfl
 have m22:=Hd.zK X G "_law_great" (.ref 168) (by kernel_rfl);have F23:=Hd.zQ (K:=Kf w.params) "_law_size" Q2 173 (.str "law_bankwalk_k93_whole_rests_beside_looks" 324) (.ref 172) (by kernel_rfl) (by kernel_rfl) (by kernel_rfl);have b23:=F23.binds (ps:=DA) λ_ _ _ _ _ _ us hl=>by obtain ⟨_,rfl⟩:=Pu.SN hl;rfl
 have m23:=Hd.zK X G "_law_size" (.ref 173) (by kernel_rfl);have F24:=Hd.zQ (K:=Kf w.params) "_law_odd" EZ 180 (.str "law_bankwalk_k93_whole_rests_beside_looks" 324) (.ref 179) (by kernel_rfl) (by kernel_rfl) (by kernel_rfl);have b24:=F24.binds (ps:=qcf) λ_ _ _ _ _ _ us hl=>by obtain ⟨_,rfl⟩:=Pu.SN hl;rfl
 have m24:=Hd.zK X G "_law_odd" (.ref 180) (by kernel_rfl);have F25:=Hd.zQ (K:=Kf w.params) "_law_bank" QY 185 (.str "law_bankwalk_k93_whole_rests_beside_looks" 324) (.ref 184) (by kernel_rfl) (by kernel_rfl) (by kernel_rfl);have b25:=F25.binds (ps:=EV) λ_ _ _ _ _ _ us hl=>by obtain ⟨_,_,_,rfl⟩:=Pu.qhF hl;rfl
 have m25:=Hd.zK X G "_law_bank" (.ref 185) (by kernel_rfl);have F26:=Hd.zQ (K:=Kf w.params) "_law_grid" Q7 190 (.str "law_bankwalk_k93_whole_rests_beside_looks" 324) (.ref 189) (by kernel_rfl) (by kernel_rfl) (by kernel_rfl);have b26:=F26.binds (ps:=EH) λ_ _ _ _ _ _ us hl=>by obtain ⟨_,rfl⟩:=Pu.SN hl;rfl
 have m26:=Hd.zK X G "_law_grid" (.ref 190) (by kernel_rfl);have F27:=Hd.zQ (K:=Kf w.params) "_law_looked" jB 195 (.str "law_bankwalk_k93_whole_rests_beside_looks" 324) (.ref 194) (by kernel_rfl) (by kernel_rfl) (by kernel_rfl);have b27:=F27.binds (ps:=YC) λ_ _ _ _ _ _ us hl=>by obtain ⟨_,_,rfl⟩:=Pu.NK hl;rfl
 have m27:=Hd.zK X G "_law_looked" (.ref 195) (by kernel_rfl);have F28:=Hd.zQ (K:=Kf w.params) "_law_many" Q0 202 (.str "law_bankwalk_k93_whole_rests_beside_looks" 324) (.ref 201) (by kernel_rfl) (by kernel_rfl) (by kernel_rfl);have b28:=F28.binds (ps:=EK) λ_ _ _ _ _ _ us hl=>by obtain ⟨_,rfl⟩:=Pu.SN hl;rfl
 have m28:=Hd.zK X G "_law_many" (.ref 202) (by kernel_rfl);have F29:=Hd.zQ (K:=Kf w.params) "_law_walk" Q4 209 (.str "law_bankwalk_k93_whole_rests_beside_looks" 324) (.ref 208) (by kernel_rfl) (by kernel_rfl) (by kernel_rfl);have b29:=F29.binds (ps:=EN) λ_ _ _ _ _ _ us hl=>by obtain ⟨_,rfl⟩:=Pu.SN hl;rfl
 have m29:=Hd.zK X G "_law_walk" (.ref 209) (by kernel_rfl);have F30:=Hd.zQ (K:=Kf w.params) "_law_cells" jW 214 (.str "law_bankwalk_k93_whole_rests_beside_looks" 324) (.ref 213) (by kernel_rfl) (by kernel_rfl) (by kernel_rfl);have b30:=F30.binds (ps:=V0) λ_ _ _ _ _ _ us hl=>by obtain ⟨_,rfl⟩:=Pu.SN hl;rfl
 have m30:=Hd.zK X G "_law_cells" (.ref 214) (by kernel_rfl);have F31:=Hd.zQ (K:=Kf w.params) "_law_steps" j2 221 (.str "law_bankwalk_k93_whole_rests_beside_looks" 324) (.ref 220) (by kernel_rfl) (by kernel_rfl) (by kernel_rfl);have b31:=F31.binds (ps:=UE) λ_ _ _ _ _ _ us hl=>by obtain ⟨_,rfl⟩:=Pu.SN hl;rfl
 have m31:=Hd.zK X G "_law_steps" (.ref 221) (by kernel_rfl);have F32:=Hd.zQ (K:=Kf w.params) "_law_steps_right" zp 226 (.str "law_bankwalk_k93_whole_rests_beside_looks" 324) (.ref 225) (by kernel_rfl) (by kernel_rfl) (by kernel_rfl);have b32:=F32.binds (ps:=jP) λ_ _ _ _ _ _ us hl=>by obtain ⟨_,_,_,_,rfl⟩:=Pu.qp2 hl;rfl
 have m32:=Hd.zK X G "_law_steps_right" (.ref 226) (by kernel_rfl);have F33:=Hd.zQ (K:=Kf w.params) "_law_blocks_right" zh 231 (.str "law_bankwalk_k93_whole_rests_beside_looks" 324) (.ref 230) (by kernel_rfl) (by kernel_rfl) (by kernel_rfl);have b33:=F33.binds (ps:=jD) λ_ _ _ _ _ _ us hl=>by obtain ⟨_,_,rfl⟩:=Pu.NK hl;rfl
 have m33:=Hd.zK X G "_law_blocks_right" (.ref 231) (by kernel_rfl);have F34:=Hd.zQ (K:=Kf w.params) "_law_free_right" zu 236 (.str "law_bankwalk_k93_whole_rests_beside_looks" 324) (.ref 235) (by kernel_rfl) (by kernel_rfl) (by kernel_rfl);have b34:=F34.binds (ps:=QF) λ_ _ _ _ _ _ us hl=>by obtain ⟨_,_,_,rfl⟩:=Pu.qhF hl;rfl
 have m34:=Hd.zK X G "_law_free_right" (.ref 236) (by kernel_rfl);have F35:=Hd.zQ (K:=Kf w.params) "law" YE 243 (.str "law_bankwalk_k93_whole_rests_beside_looks" 324) (.ref 242) (by kernel_rfl) (by kernel_rfl) (by kernel_rfl);have g_len:=Hd.DU X G "len" (by kernel_rfl);have g_range:=Hd.DU X G "range" (by kernel_rfl);have g_list:=Hd.DU X G "list" (by kernel_rfl);have g_STRIDES:Tb (Kf w.params) mg w "STRIDES" UW:=⟨29,_,4,Hd.zK X G "STRIDES" (.ref 29) (by kernel_rfl),(show (Kf w.params).lookup 29=some ⟨.type "dict",none,.dict #[⟨PyData.keyHash w.params "row",.str "row" 216,.ref 30⟩,⟨PyData.keyHash w.params "column",.str "column" 219,.ref 31⟩,⟨PyData.keyHash w.params "slant",.str "slant" 222,.ref 32⟩,⟨PyData.keyHash w.params "back",.str "back" 225,.ref 33⟩] 4,#[]⟩ by kernel_rfl),rfl,(.cons (v:=.ref 30) rfl (MM (show (Kf w.params).lookup 30=some ⟨.type "tuple",none,.seq #[.int (0) 217,.int (1) 218] 0,#[]⟩ by kernel_rfl)) (.cons (v:=.ref 31) rfl (MM (show (Kf w.params).lookup 31=some ⟨.type "tuple",none,.seq #[.int (1) 220,.int (0) 221] 0,#[]⟩ by kernel_rfl)) (.cons (v:=.ref 32) rfl (MM (show (Kf w.params).lookup 32=some ⟨.type "tuple",none,.seq #[.int (1) 223,.int (1) 224] 0,#[]⟩ by kernel_rfl)) (.cons (v:=.ref 33) rfl (MM (show (Kf w.params).lookup 33=some ⟨.type "tuple",none,.seq #[.int (1) 226,.int (-1) 228] 0,#[]⟩ by kernel_rfl)) .nil))))⟩
 have g_min:=Hd.DU X G "min" (by kernel_rfl);have g_max:=Hd.DU X G "max" (by kernel_rfl);have g_tuple:=Hd.DU X G "tuple" (by kernel_rfl);have g_abs:=Hd.DU X G "abs" (by kernel_rfl);have g_zip:=Hd.DU X G "zip" (by kernel_rfl);have g_enumerate:=Hd.DU X G "enumerate" (by kernel_rfl);have g_sum:=Hd.DU X G "sum" (by kernel_rfl);have g_set:=Hd.DU X G "set" (by kernel_rfl);have g_int:=Hd.DU X G "int" (by kernel_rfl);refine ⟨PySem.W.fnOf "law" "law" (JH YE) (jI YE) (qj YE) .none .none .none (.str "law_bankwalk_k93_whole_rests_beside_looks" 324) none (.ref 242) .none,λs v=>.of_eq rfl,λbase _ _=>?_⟩;have O_first_alike:=XS (P:=l.prog) (w:=w) (base:=base) (k:=0) F0 b0 m0  g_len g_range Pv.XV;have O_strung:=qbL (P:=l.prog) (w:=w) (base:=base) (k:=0) F2 b2 m2  g_range Pv.qcb;have O_cells_of:=LS (P:=l.prog) (w:=w) (base:=base) (k:=1) F3 b3 m3 O_strung g_list g_range g_STRIDES Pv.K5;have O_factors_of:=RW (P:=l.prog) (w:=w) (base:=base) (k:=0) F5 b5 m5   Pv.CZ;have O_rests_by:=K2 (P:=l.prog) (w:=w) (base:=base) (k:=2) F6 b6 m6 O_cells_of g_tuple Pv.LA;have O_rests_of:=MB (P:=l.prog) (w:=w) (base:=base) (k:=3) F7 b7 m7 (O_factors_of.mono (by decide)) O_rests_by  Pv.LC;have O_is_unlike:=TH (P:=l.prog) (w:=w) (base:=base) (k:=4) F8 b8 m8 O_rests_of (O_first_alike.mono (by decide))  Pv.S5;have O_longest:=NZ (P:=l.prog) (w:=w) (base:=base) (k:=1) F9 b9 m9 O_factors_of  Pv.NQ;have O_widest:=qaI (P:=l.prog) (w:=w) (base:=base) (k:=5) F10 b10 m10 O_is_unlike  Pv.qas;have O_blocks:=qbO (P:=l.prog) (w:=w) (base:=base) (k:=6) F11 b11 m11 O_widest g_range Pv.qaU;have O_law_mix:=NT (P:=l.prog) (w:=w) (base:=base) (k:=0) F14 b14 m14   Bk.N6;have O_law_left:=L9 (P:=l.prog) (w:=w) (base:=base) (k:=0) F15 b15 m15  g_len g_abs Bk.LF;have O_law_pick:=LQ (P:=l.prog) (w:=w) (base:=base) (k:=1) F16 b16 m16 O_law_mix  Bk.KW;have O_law_sides:=KF (P:=l.prog) (w:=w) (base:=base) (k:=2) F17 b17 m17 O_law_pick  Bk.KK;have O_law_gcd:=qad (P:=l.prog) (w:=w) (base:=base) (k:=0) F18 b18 m18   Bk.NN;have O_law_skew:=LM (P:=l.prog) (w:=w) (base:=base) (k:=3) F19 b19 m19 O_law_sides (O_law_pick.mono (by decide))  K8;have O_law_rests:=KA (P:=l.prog) (w:=w) (base:=base) (k:=3) F20 b20 m20 O_law_sides (O_law_pick.mono (by decide)) (O_law_gcd.mono (by decide)) g_range Bk.TR;have O_law_plain:=SY (P:=l.prog) (w:=w) (base:=base) (k:=4) F21 b21 m21 (O_law_pick.mono (by decide)) O_law_rests O_law_skew  TM;have O_law_great:=TX (P:=l.prog) (w:=w) (base:=base) (k:=5) F22 b22 m22 O_law_plain (O_law_pick.mono (by decide)) (O_law_gcd.mono (by decide)) g_range T6;have O_law_odd:=Pu.Fn3.pz (WA (P:=l.prog) (w:=w) (base:=base) F24 b24 m24) false;have O_law_looked:=C6 (P:=l.prog) (w:=w) (base:=base) (k:=0) F27 b27 m27  g_min g_len g_max g_range g_set g_int RE;have O_law_many:=L0 (P:=l.prog) (w:=w) (base:=base) (k:=2) F28 b28 m28 O_law_pick  Bk.LG;have O_law_walk:=LH (P:=l.prog) (w:=w) (base:=base) (k:=3) F29 b29 m29 (O_law_pick.mono (by decide)) O_law_many g_int g_range g_tuple Bk.K7;have O_law_cells:=T3 (P:=l.prog) (w:=w) (base:=base) (k:=0) F30 b30 m30  g_list g_range T0;have O_law_steps:=KM (P:=l.prog) (w:=w) (base:=base) (k:=2) F31 b31 m31 O_law_pick g_int KB;have O_law_steps_right:=UY (P:=l.prog) (w:=w) (base:=base) (k:=2) F32 b32 m32 O_longest (O_law_looked.mono (by decide)) g_range g_int UH;have O_law_blocks_right:=V6 (P:=l.prog) (w:=w) (base:=base) (k:=7) F33 b33 m33 O_blocks (O_law_looked.mono (by decide)) g_len g_min g_range g_int UB;have O_size_of_0:=Pu.Fn3.pz (WA (P:=l.prog) (w:=w) (base:=base) F1 b1 m1) false;have O_size_of_1:=NJ (P:=l.prog) (w:=w) (base:=base) (k:=0) F1 b1 m1 O_size_of_0 g_len (Pv.NX 0);have O_starts:=qaO (P:=l.prog) (w:=w) (base:=base) (k:=2) F4 b4 m4 (O_size_of_1.mono (by decide)) O_cells_of g_min g_max g_range (Pv.qbK 1);have O_is_free:=qac (P:=l.prog) (w:=w) (base:=base) (k:=5) F12 b12 m12 O_is_unlike (O_starts.mono (by decide)) g_len (Pv.NW 1);have O_free_steps:=C9 (P:=l.prog) (w:=w) (base:=base) (k:=6) F13 b13 m13 O_is_free g_range (Pv.RQ 1);have O_law_free_right:=DC (P:=l.prog) (w:=w) (base:=base) (k:=7) F34 b34 m34 (O_law_many.mono (by decide)) O_free_steps (O_law_pick.mono (by decide)) (O_law_looked.mono (by decide)) g_range g_len E6;have O_law_size_0:=Pu.Fn3.pz (WA (P:=l.prog) (w:=w) (base:=base) F23 b23 m23) false;have O_law_size_1:=KT (P:=l.prog) (w:=w) (base:=base) (k:=0) F23 b23 m23 O_law_size_0 g_len g_zip g_tuple LX;have O_law_bank_0:=Pu.Fn3.pz (WA (P:=l.prog) (w:=w) (base:=base) F25 b25 m25) false;have O_law_bank_1:=KU (P:=l.prog) (w:=w) (base:=base) (k:=1) F25 b25 m25 O_law_size_1 (O_law_odd.mono (by decide)) (O_law_bank_0.mono (by decide)) g_enumerate g_sum K3;have O_law_grid:=KZ (P:=l.prog) (w:=w) (base:=base) (k:=2) F26 b26 m26 (O_law_size_1.mono (by decide)) O_law_bank_1 g_range LV;exact qi8 (k:=8) F35 (O_law_left.mono (by decide)) (O_law_great.mono (by decide)) (O_law_grid.mono (by decide)) (O_law_steps.mono (by decide)) (O_law_steps_right.mono (by decide)) O_law_free_right O_law_blocks_right (O_law_walk.mono (by decide)) (O_law_cells.mono (by decide)) (O_rests_of.mono (by decide)) (O_law_looked.mono (by decide)) g_len g_min g_range g_set g_int (qjW qjH)
set_option maxRecDepth 100000 in
set_option maxHeartbeats 0 in
def qi9 (w : World) (os : OsState) : PySem.W.topRun treeTable PySem.Challenge.pw_bankwalk_k93_whole_rests_beside_looks w 11 (some (Value.ref 6)) 2 (⟨qgF w.params,244,{ },#[],{ },523,os⟩ : PySem.W.SharedT).abs (PySem.W.restOf [] qjY SH ⟨222,0,239,15⟩ qkr) = some ⟨qgM w.params,#[],{ },523,os⟩ := by kernel_rfl
def qnf:(qdM++(qee++[]))=qa2:=by kernel_rfl
set_option maxRecDepth 100000 in
set_option maxHeartbeats 0 in
def qhn (w : World) (os : OsState) : PySem.W.topRun treeTable PySem.Challenge.pw_bankwalk_k93_whole_rests_beside_looks w 11 (some (Value.ref 6)) (12 + (1 + (603 + (603 + 2)))) ⟨PySem.W.boot_heap w.params,Array.mk [],PySem.W.boot_drawn,PySem.W.boot_toks,os⟩ (PySem.W.topStub PySem.Challenge.pw_bankwalk_k93_whole_rests_beside_looks) = some ⟨qgM w.params,#[],{ },523,os⟩ := by
 have h:=(PySem.W.piece_app (PySem.W.segRun_of (qj0 w os)) (PySem.W.piece_app (PySem.W.segRun_of (qjL w os)) (qi9 w os)))
 rw [qnf] at h;exact PySem.W.go_top (qjF w os) (PySem.W.piece_block (qlr w os) h)
abbrev Q : Program := PySem.W.view PySem.Challenge.pw_bankwalk_k93_whole_rests_beside_looks [1,3,5,6,7,8,10,11,12,13,14,15,16,17,18,20,21,22,23,24,25,26,27,28,29,30,31,32,33,34,35,36,37,38,39,40,41]
set_option maxRecDepth 100000 in
set_option maxHeartbeats 0 in
def left : PySem.W.LeftO PySem.Challenge.pw_bankwalk_k93_whole_rests_beside_looks Q ["STRIDES"] (λs=>PySem.W.xlAt Q [] s&&PySem.W.recOk [] s) (λs=>([3,20,21,27,28,29,30,31,32,33,37,38,42,43,47,48,54,55,59,60,66,67,73,74,80,81,87,88,92,93,99,100,104,105,111,112,118,119,125,126,132,133,139,140,146,147,153,154,160,161,167,168,172,173,179,180,184,185,189,190,194,195,201,202,208,209,213,214,220,221,225,226,230,231,235,236,242,243]:List Addr).map s.heap.get?) (λw=>(Kf w.params).map λp=>some p.2) 2534:=
 PySem.W.LeftO.of_pieces (H₀:=PySem.W.boot_heap) (H₁:=qgM) (gs₀:=Array.mk []) (gs₁:=#[]) (d₀:=PySem.W.boot_drawn) (d₁:={ }) (k₀:=PySem.W.boot_toks) (k₁:=523) (m₀:=11) (ann:=some (Value.ref 6)) (M:=(12+(1+(603+(603+2)))))
  (PySem.W.boot_open (by kernel_rfl) (by kernel_rfl) (λs=>by kernel_rfl)) (λw=>by kernel_rfl) qhn (by kernel_rfl) (λw=>by kernel_rfl)
end K93
open PySem PySem.W PyProof.Rows
set_option maxRecDepth 100000 in
set_option maxHeartbeats 0 in
theorem PySem.Challenge.cw_bankwalk_k93_whole_rests_beside_looks_holds : PySem.Challenge.rw_bankwalk_k93_whole_rests_beside_looks.Holds :=
 Hd.head (l := PySem.Challenge.rw_bankwalk_k93_whole_rests_beside_looks) (q := K93.Q) (loose := ["STRIDES"]) (K:=K93.Kf) (as:=[3,20,21,27,28,29,30,31,32,33,37,38,42,43,47,48,54,55,59,60,66,67,73,74,80,81,87,88,92,93,99,100,104,105,111,112,118,119,125,126,132,133,139,140,146,147,153,154,160,161,167,168,172,173,179,180,184,185,189,190,194,195,201,202,208,209,213,214,220,221,225,226,230,231,235,236,242,243]) (N:=2534) (k:=9) (x:="_law_script")
  (d:=⟨"law",L2.JH K93.YE,L2.jI K93.YE,L2.qj K93.YE,⟨222,0,239,15⟩⟩) (λ_=>by kernel_rfl) (by kernel_rfl) K93.left (by kernel_rfl) (by kernel_rfl) (by kernel_rfl) (by kernel_rfl) (by kernel_rfl)
  ⟨rfl,rfl,rfl,rfl,rfl,by decide +kernel⟩ (by w_witness2) rfl (by kernel_rfl) ⟨rfl,by decide,by decide,rfl⟩ (λw=>by kernel_rfl) λw mg fa h KX G hmg=>K93.qiX KX G hmg
