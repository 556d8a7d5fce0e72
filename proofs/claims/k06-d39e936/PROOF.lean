import PyProof.Rows.All
import Wide.All
import OpenK.AllK
import Wide.FinOn
import Lean
import PyProof.EqAt
import PyProof.EqKinds
import PyProof.TupleCall
import PyProof.NeKinds
import KE.KRevSl
import PyProof.FactsAll.bool_2
import PyProof.Rows.EqBoolInt
import PyProof.Rows.IntBool
import PySem.Challenge.RW_bankwalk_k06_what_is_no_word
-- CHANGE: your row's module here,as the last of these rows
set_option Elab.async false
set_option genSizeOf false
set_option genInjectivity false
noncomputable section
abbrev Frg:=PySem.W.Frag
open List (getElem_cons_zero length_cons getElem?_cons_succ getElem_cons_succ getElem?_cons_zero length_nil set_cons_zero set_cons_succ length_map not_mem_nil mem_append_right map_cons mem_cons getElem?_set getElem?_map cons_append size_toArray getElem?_eq_getElem map_map mem_of_getElem? mem_map length_append getD_eq_getElem?_getD mem_range length_range)
def obb{α β:Type _}{o:Option α}{f:α->Option β}{b:β}(h:o.bind f=some b):∃a,o=some a/\f a=some b:=Option.bind_eq_some_iff.mp h
set_option linter.all false
set_option maxRecDepth 100000
namespace L2
open PySem PySem.Spec PyProof.Rows
abbrev Key:=Sum Int Str
def qb1:Key->Value->Bool
 |.inl k,v=>Value.isInt k v
 |.inr x,v=>Value.isStrOf x v
def qpL (w:World):Key->Int
 |.inl k=>hashInt k
 |.inr x=>hashStr w x
def zq:∀ {k:Key} {v:Value},qb1 k v=true->(∃ i t,k=Sum.inl i/\v=Value.int i t)\/(∃ x t,k=Sum.inr x/\v=Value.str x t)
 |.inl i,v,h=>by
  obtain ⟨t,e⟩:=Value.isInt_shape (k:=i) (v:=v) h;exact .inl ⟨i,t,rfl,e⟩
 |.inr x,v,h=>by
  obtain ⟨t,e⟩:=Value.isStrOf_shape (x:=x) (v:=v) h;exact .inr ⟨x,t,rfl,e⟩
def qaM (i:Int) (t:Tok):qb1 (.inl i) (.int i t)=true:=by simp [qb1,Value.isInt]
def qk6 (a b:Int):decide ((Sum.inl a:Key)=Sum.inl b)=(a==b):=by
 by_cases e:a=b
 ·subst e;simp
 ·have h:¬ (Sum.inl a:Key)=Sum.inl b:=λq=>e (Sum.inl.inj q);rw [decide_eq_false h];exact (beq_eq_false_iff_ne.mpr e).symm
def qic (a b:Str):decide ((Sum.inr a:Key)=Sum.inr b)=decide (a=b):=by
 by_cases e:a=b
 ·subst e;simp
 ·have h:¬ (Sum.inr a:Key)=Sum.inr b:=λq=>e (Sum.inr.inj q);rw [decide_eq_false h,decide_eq_false e]
def qkR (a:Int) (b:Str):decide ((Sum.inl a:Key)=Sum.inr b)=false:=decide_eq_false (λq=>nomatch q)
def qhi (a:Str) (b:Int):decide ((Sum.inr a:Key)=Sum.inl b)=false:=decide_eq_false (λq=>nomatch q)
def CC (prog:Program) (w:World):PySem.KeyKind prog w Key where
 is:=qb1
 hash:=qpL w
 inj:=λv a b ha hb=>by
  rcases zq ha with ⟨i,t,rfl,rfl⟩|⟨x,t,rfl,rfl⟩
  ·rcases zq hb with ⟨j,u,rfl,e⟩|⟨y,u,rfl,e⟩
   ·injection e with e1 _;rw [e1]
   ·exact nomatch e
  ·rcases zq hb with ⟨j,u,rfl,e⟩|⟨y,u,rfl,e⟩
   ·exact nomatch e
   ·injection e with e1 _;rw [e1]
 byValue:=λk v h=>by
  rcases zq h with ⟨i,t,rfl,rfl⟩|⟨x,t,rfl,rfl⟩<;>rfl
 pyHash:=λhv h=>by
  rcases zq hv with ⟨i,t,rfl,rfl⟩|⟨x,t,rfl,rfl⟩
  ·exact wpAny_pyHash_int h
  ·exact wpAny_pyHash_str h
 eqBool:=λhu hv h=>by
  rcases zq hu with ⟨i,t,rfl,rfl⟩|⟨x,t,rfl,rfl⟩
  ·rcases zq hv with ⟨j,u,rfl,rfl⟩|⟨y,u,rfl,rfl⟩
   ·rw [qk6] at h;exact wpAny_eqBool_int h
   ·rw [qkR] at h;exact SeqAt.EqAt.int_str i t y u _ _ _ _ h
  ·rcases zq hv with ⟨j,u,rfl,rfl⟩|⟨y,u,rfl,rfl⟩
   ·rw [qhi] at h;exact SeqAt.EqAt.str_int x t j u _ _ _ _ h
   ·rw [qic] at h;exact wpAny_eqBool_str h
 «strs»:=λk x t v h=>by
  rcases zq h with ⟨i,u,rfl,e⟩|⟨y,u,rfl,e⟩
  ·exact nomatch e
  ·injection e with e1 _;subst e1;cases v<;>rfl
set_option genInjectivity true in
inductive V where
 |non|bl (b:Bool)|int (i:Int)|str (x:Str)|byt (b:Array UInt8)|flt (b:UInt64)|ref (a:Addr)|ty (n:String)
 deriving DecidableEq
def ji:V->Value->Prop
 |.non,u=>u=Value.none
 |.bl b,u=>u=Value.bool b
 |.int i,u=>∃ t,u=Value.int i t
 |.str x,u=>∃ t,u=Value.str x t
 |.byt b,u=>∃ t,u=Value.bytes b t
 |.flt b,u=>∃ t,u=Value.float b t
 |.ref a,u=>u=Value.ref a
 |.ty n,u=>u=Value.type n
abbrev zS:List V->List Value->Prop:=Paired ji
def zS.length {xs:List V} {us:List Value} (r:zS xs us):xs.length=us.length:=Paired.length r
def zS.get:∀ {xs:List V} {us:List Value} {i:Nat} {x:V},zS xs us->xs[i]?=some x->∃ u,us[i]?=some u/\ji x u
 |_,_,_,_,.nil,e=>by simp at e
 |_,_,0,_,.cons r _,e=>by simp at e;subst e;exact ⟨_,rfl,r⟩
 |_,_,i+1,x,.cons _ t,e=>by
  obtain ⟨u,h1,h2⟩:=zS.get (i:=i) (x:=x) t (by simpa using e);exact ⟨u,by simpa using h1,h2⟩
def zS.set {x:V} {u:Value} (r:ji x u):∀ {xs:List V} {us:List Value} (i:Nat),zS xs us->zS (xs.set i x) (us.set i u)
 |_,_,_,.nil=>.nil
 |_,_,0,.cons _ t=>.cons r t
 |_,_,i+1,.cons q t=>.cons q (zS.set r i t)
def zS.append:∀ {xs ys:List V} {us ws:List Value},zS xs us->zS ys ws->zS (xs++ys) (us++ws)
 |_,_,_,_,.nil,s=>s
 |_,_,_,_,.cons r t,s=>.cons r (zS.append t s)
def zS.take:∀ {xs:List V} {us:List Value} (n:Nat),zS xs us->zS (xs.take n) (us.take n)
 |_,_,0,_=>.nil
 |_,_,_+1,.nil=>.nil
 |_,_,n+1,.cons r t=>.cons r (zS.take n t)
def zS.drop:∀ {xs:List V} {us:List Value} (n:Nat),zS xs us->zS (xs.drop n) (us.drop n)
 |_,_,0,r=>r
 |_,_,_+1,.nil=>.nil
 |_,_,n+1,.cons _ t=>zS.drop n t
def qow:Option V->Option Value->Prop
 |some v,some u=>ji v u
 |none,none=>True
 |_,_=>False
def KV {κ:Type}:List (κ×V)->List (κ×Value)->Prop:=Paired λ(p:κ×V) (q:κ×Value)=>p.1=q.1/\ji p.2 q.2
def kV:Key->V
 |.inl i=>.int i
 |.inr x=>.str x
inductive HO where
 /-- a list -/
 |lst (xs:List V)
 /-- a tuple (never changes) -/
 |tup (xs:List V)
 /-- a dict whose keys are ints and texts;one whose keys are tuples of ints and texts (the empty one is both) -/
 |dK (kvs:List (Key×V))|dT (kvs:List (List Key×V))
 /-- a set of ints: its members,its size -/
 |set (S:Int->Bool) (n:Nat)
 /-- an instance of the class at C,its dict at dx,its attributes -/
 |ins (C dx:Addr) (fs:List (Str×V))
 /-- the dict of the instance at x -/
 |own (x:Addr)
 /-- the dict of an exception -/
 |xd (fs:List (Str×V))
 /-- a bound method,f of x -/
 |met (f x:Addr)
 /-- a range object lo,lo+1,.. below hi -/
 |rng (lo hi:Int)
 /-- a thing that is known to the object (the script;a dict while a loop walks it): read,never written while it is so -/
 |frz (o:Obj) (u:HO)
 /-- a code object's table -/
 |tbl (ps:Array Value)
 /-- any other thing,by what is true of its one object (a def of one's own: SetO a S n:=HO.ext λh=>..) -/
 |ext (φ:Heap->Prop)
abbrev Hp:=Addr->Option HO
def upd (H:Hp) (a:Addr) (o:HO):Hp:=λb=>if b=a then some o else H b
def qT {H:Hp} {a:Addr} {o:HO}:upd H a o a=some o:=by unfold upd;rw [if_pos rfl]
def qu {H:Hp} {a b:Addr} {o:HO} (h:b≠a):upd H a o b=H b:=by unfold upd;rw [if_neg h]
def qy {H:Hp} {a b:Addr} {o:HO} (h:H a=some o) (h':H b=none):a≠b:=by
 intro e;subst e;rw [h] at h';cases h'
section
variable (P:Program) (w:World)
def JY (H:Hp) (h:Heap) (a:Addr):HO->Prop
 |.lst xs=>xs.length<=sizeLine/\∃ (its:List Value) (n:Nat),zS xs its/\h.get? a=some { cls:=.type "list",data:=.seq its.toArray n }
 |.tup xs=>xs.length<=sizeLine/\∃ its:List Value,zS xs its/\IsTup h a its.toArray
 |.dK kvs=>kvs.length<=sizeLine/\(a==sysModules)=false/\∃ vs,KV kvs vs/\h.DictOf (CC P w) a vs
 |.dT kvs=>kvs.length<=sizeLine/\(a==sysModules)=false/\∃ xs:List (List Key×Addr×Value),
   Paired (λ(p:List Key×V) (q:List Key×Addr×Value)=>p.1=q.1/\H q.2.1=some (.tup (p.1.map kV))/\ji p.2 q.2.2) kvs xs /\
   ∃ o es ep,h.get? a=some o/\o.ExactDict/\o.data=.dict es ep/\es.toList=xs.map (entryOfKey (tupleKind (CC P w)))/\(xs.map (·.1)).Nodup
 |.set S n=>h.SetOf (intKind P w) a S n
 |.ins C dx fs=>H dx=some (.own a)/\fs.length<=1000/\dx≠a/\h.get? a=some (PySem.W.instObj C dx) /\
   ∃ mA,h.Ns1 dx mA/\(∀ f,qow (fs.lookup f) (mA f))/\PySem.Within mA (fs.map (·.1))
 |.own _=>∃ o,h.get? a=some o
 |.xd fs=>∃ mA,h.Ns1 a mA/\∀ f,qow (fs.lookup f) (mA f)
 |.rng lo hi=>∃ t u v,h.get? a=some { cls:=.type "range",data:=.fields #[.int lo t,.int hi u,.int 1 v] }
 |.frz o u=>h.get? a=some o/\JY H h a u
 |.tbl ps=>h.get? a=some { cls:=.none,data:=.fields ps }
 |.met f x=>h.get? a=some (PySem.W.methodObj (.ref f) (.ref x))
 |.ext φ=>φ h/\(∃ o,h.get? a=some o)/\∀ h1 h2:Heap,φ h1->(∀ o,h1.get? a=some o->h2.get? a=some o)->φ h2
def HOk (H:Hp) (h:Heap):Prop:=∀ a o,H a=some o->JY P w H h a o
end
section
variable {P:Program} {w:World} {H H':Hp} {h h':Heap} {a:Addr} {o:HO}
def JY.lt (x:JY P w H h a o):a<h.objs.size:=by
 cases o with
 |lst xs=>obtain ⟨_,_,_,_,e⟩:=x;exact Heap.lt_size e
 |tup xs=>obtain ⟨_,_,_,p⟩:=x;exact p.lt
 |dK kvs=>obtain ⟨_,_,_,_,o,_,_,e,_⟩:=x;exact Heap.lt_size e
 |dT kvs=>obtain ⟨_,_,_,_,o,_,_,e,_⟩:=x;exact Heap.lt_size e
 |set S n=>obtain ⟨o,_,_,_,e,_⟩:=x;exact Heap.lt_size e
 |ins C dx fs=>obtain ⟨_,_,_,e,_⟩:=x;exact Heap.lt_size e
 |own y=>obtain ⟨_,e⟩:=x;exact Heap.lt_size e
 |xd fs=>obtain ⟨_,⟨_,_,_,e,_⟩,_⟩:=x;exact Heap.lt_size e
 |rng lo hi=>obtain ⟨_,_,_,e⟩:=x;exact Heap.lt_size e
 |frz ob u=>obtain ⟨e,_⟩:=x;exact Heap.lt_size e
 |tbl ps=>exact Heap.lt_size (show h.get? a=some _ from x)
 |met f y=>exact Heap.lt_size (show h.get? a=some _ from x)
 |ext φ=>obtain ⟨_,⟨_,e⟩,_⟩:=x;exact Heap.lt_size e
def Paired.mapP {α β:Type} {F G:α->β->Prop}:∀ {l₁:List α} {l₂:List β},Paired F l₁ l₂->(∀ a b,F a b->G a b)->Paired G l₁ l₂
 |_,_,.nil,_=>.nil
 |_,_,.cons r t,f=>.cons (f _ _ r) (Paired.mapP t f)
def JY.stay (x:JY P w H h a o) (k:∀ b u,(b=a\/H b=some (.own a))->h.get? b=some u->h'.get? b=some u)
  (ho:∀ b,H b=some (.own a)->H' b=some (.own a)) (ht:∀ b xs,H b=some (.tup xs)->H' b=some (.tup xs)):JY P w H' h' a o:=by
 induction o with
 |lst xs=>obtain ⟨z,its,n,r,e⟩:=x;exact ⟨z,its,n,r,k _ _ (.inl rfl) e⟩
 |tup xs=>obtain ⟨z,its,r,ob,e,c⟩:=x;exact ⟨z,its,r,ob,k _ _ (.inl rfl) e,c⟩
 |dK kvs=>obtain ⟨z,y,vs,r,ob,es,ep,e,c⟩:=x;exact ⟨z,y,vs,r,ob,es,ep,k _ _ (.inl rfl) e,c⟩
 |dT kvs=>
  obtain ⟨z,y,xs,r,ob,es,ep,e,c⟩:=x;exact ⟨z,y,xs,Paired.mapP r λp q z=>⟨z.1,ht _ _ z.2.1,z.2.2⟩,ob,es,ep,k _ _ (.inl rfl) e,c⟩
 |set S n=>obtain ⟨ob,es,ep,t,e,c⟩:=x;exact ⟨ob,es,ep,t,k _ _ (.inl rfl) e,c⟩
 |ins C dx fs=>
  obtain ⟨d,z,ne,e,mA,⟨od,es,ep,e2,c⟩,r⟩:=x;exact ⟨ho _ d,z,ne,k _ _ (.inl rfl) e,mA,⟨od,es,ep,k _ _ (.inr d) e2,c⟩,r⟩
 |own y=>obtain ⟨ob,e⟩:=x;exact ⟨ob,k _ _ (.inl rfl) e⟩
 |xd fs=>obtain ⟨mA,⟨od,es,ep,e,c⟩,r⟩:=x;exact ⟨mA,⟨od,es,ep,k _ _ (.inl rfl) e,c⟩,r⟩
 |rng lo hi=>obtain ⟨t,u,v,e⟩:=x;exact ⟨t,u,v,k _ _ (.inl rfl) e⟩
 |frz ob u ih=>obtain ⟨e,q⟩:=x;exact ⟨k _ _ (.inl rfl) e,ih q⟩
 |tbl ps=>
  have e:h.get? a=some { cls:=.none,data:=.fields ps }:=x;show h'.get? a=some { cls:=.none,data:=.fields ps };exact k a _ (.inl rfl) e
 |met f y=>
  have e:h.get? a=some (PySem.W.methodObj (.ref f) (.ref y)):=x;show h'.get? a=some (PySem.W.methodObj (.ref f) (.ref y));exact k a _ (.inl rfl) e
 |ext φ=>obtain ⟨p,⟨o,e⟩,st⟩:=x;exact ⟨st _ _ p λo q=>k _ _ (.inl rfl) q,⟨o,k _ _ (.inl rfl) e⟩,st⟩
def HOk.lt (x:HOk P w H h) (e:H a=some o):a<h.objs.size:=(x a o e).lt
def HOk.fresh (x:HOk P w H h) (e:h.objs.size<=a):H a=none:=by
 cases q:H a with
 |none=>rfl
 |some u=>exact absurd (Nat.lt_of_lt_of_le (x.lt q) e) (Nat.lt_irrefl _)
def HOk.kept (x:HOk P w H h) (k:∀ b u,h.get? b=some u->h'.get? b=some u):HOk P w H h':=λa o e=>
 (x a o e).stay (λb u _ q=>k b u q) (λ_ q=>q) λ_ _ q=>q
def HOk.laid (x:HOk P w H h) (k:∀ b u,h.get? b=some u->h'.get? b=some u) (hp:h.objs.size<=a) (new:JY P w (upd H a o) h' a o):HOk P w (upd H a o) h':=λb u e=>by
 have hn:=x.fresh hp;by_cases hb:b=a
 ·subst hb;rw [qT] at e;cases e;exact new
 ·rw [qu hb] at e;exact (x b u e).stay (λc v _ q=>k c v q) (λc q=>by rw [qu (qy q hn)];exact q) λc xs q=>by rw [qu (qy q hn)];exact q
end
def Rd (H:Hp) (a:Addr) (u:HO):Prop:=H a=some u\/∃ o,H a=some (.frz o u)
def Rd.ok {P:Program} {w:World} {H:Hp} {h:Heap} {a:Addr} {u:HO} (r:Rd H a u) (x:HOk P w H h):JY P w H h a u:=by
 rcases r with r|⟨o,r⟩
 ·exact x a u r
 ·obtain ⟨_,q⟩:=x a _ r;exact q
def Mut:Option HO->Prop
 |some (.lst _)=>True
 |some (.dK _)=>True
 |some (.dT _)=>True
 |some (.set _ _)=>True
 |some (.ins _ _ _)=>True
 |some (.ext _)=>True
 |_=>False
section
variable {P:Program} {w:World} {H:Hp} {h h':Heap} {x e:Addr} {o':HO}
def HOk.write (ok:HOk P w H h) (mu:Mut (H x)) (he:e=x\/H e=some (.own x)) (k:∀ b u,b≠e->h.get? b=some u->h'.get? b=some u) (heo:∃ u,h'.get? e=some u)
  (new:JY P w (upd H x o') h' x o'):HOk P w (upd H x o') h':=λb u q=>by
 have nown:∀ c y,H c=some (.own y)->c≠x:=λc y r z=>by subst z;rw [r] at mu;exact mu
 have ntup:∀ c xs,H c=some (.tup xs)->c≠x:=λc xs r z=>by subst z;rw [r] at mu;exact mu
 by_cases hb:b=x
 ·subst hb;rw [qT] at q;cases q;exact new
 ·rw [qu hb] at q;by_cases hbe:b=e
  ·have q':H b=some (.own x):=by
    rcases he with z|z
    ·exact absurd (hbe.trans z) hb
    ·rw [hbe];exact z
   rw [q] at q';cases q';obtain ⟨v,hv⟩:=heo;exact ⟨v,by rw [hbe];exact hv⟩
  ·refine (ok b u q).stay (λc v hc r=>k c v ?_ r) (λc r=>by rw [qu (nown c b r)];exact r) λc xs r=>by rw [qu (ntup c xs r)];exact r
   rcases hc with rfl|hc
   ·exact hbe
   ·rintro rfl;rcases he with z|z
    ·exact nown c b hc z
    ·rw [hc] at z;cases z;exact hb rfl
end
structure Un (fs ex:List Addr) (H H':Hp) (h h':Heap):Prop where
 keep:∀ b o,h.get? b=some o->H b=none->b∉fs->b∉ex->h'.get? b=some o
 slot:∀ b o,h.get? b=some o->H b=none->b∈fs->b∉ex->∃ sl,h'.get? b=some { o with slots:=sl }
 free:∀ b o,h.get? b=some o->H b=none->b∉ex->H' b=none
 there:∀ b o,h.get? b=some o->b∉ex->∃ o',h'.get? b=some o'
 tups:∀ b xs,H b=some (.tup xs)->H' b=some (.tup xs)
 frzs:∀ b o u,H b=some (.frz o u)->H' b=some (.frz o u)
 tbls:∀ b ps,H b=some (.tbl ps)->∃ more,H' b=some (.tbl (ps++more))
section
variable {fs fs' ex ex':List Addr} {H H1 H2:Hp} {h h1 h2 h':Heap} {a x e:Addr} {o:HO}
def Un.any (u:Un fs ex H H1 h h1) {b:Addr} {ob:Obj} (q:h.get? b=some ob) (n:H b=none) (hx:b∉ex):∃ sl,h1.get? b=some { ob with slots:=sl }:=by
 by_cases hb:b∈fs
 ·exact u.slot b ob q n hb hx
 ·exact ⟨ob.slots,u.keep b ob q n hb hx⟩
def Un.kept (k:∀ b u,h.get? b=some u->h'.get? b=some u):Un fs ex H H h h':=
 ⟨λb ob q _ _ _=>k b ob q,λb ob q _ _ _=>⟨ob.slots,k b ob q⟩,λ_ _ _ n _=>n,λb ob q _=>⟨ob,k b ob q⟩,λ_ _ q=>q,λ_ _ _ q=>q,λ_ ps q=>⟨#[],by rw [q];simp⟩⟩
def Un.refl:Un fs ex H H h h:=Un.kept λ_ _ q=>q
def Un.laid (k:∀ b u,h.get? b=some u->h'.get? b=some u) (hp:h.objs.size<=a) (hn:H a=none):Un fs ex H (upd H a o) h h' where
 keep:=λb u q _ _ _=>k b u q
 slot:=λb u q _ _ _=>⟨u.slots,k b u q⟩
 free:=λb u q n _=>by rw [qu (Nat.ne_of_lt (Nat.lt_of_lt_of_le (Heap.lt_size q) hp))];exact n
 there:=λb u q _=>⟨u,k b u q⟩
 tups:=λb xs q=>by rw [qu (qy q hn)];exact q
 frzs:=λb u xs q=>by rw [qu (qy q hn)];exact q
 tbls:=λb ps q=>⟨#[],by rw [qu (qy q hn),q];simp⟩
def Un.write (mu:Mut (H x)) (he:e=x\/H e=some (.own x)) (k:∀ b u,b≠e->h.get? b=some u->h'.get? b=some u) (heo:∃ u,h'.get? e=some u):Un fs ex H (upd H x o) h h':=by
 have hx:∀ b,H b=none->b≠x:=λb n z=>by subst z;rw [n] at mu;exact mu
 have hb:∀ b,H b=none->b≠e:=λb n z=>by
  subst z;rcases he with r|r
  ·exact hx b n r
  ·rw [n] at r;cases r
 have hm:∀ b u,H b=some u->¬ Mut (some u)->b≠x:=λb u q nm z=>by subst z;rw [q] at mu;exact nm mu
 refine ⟨λb u q n _ _=>k b u (hb b n) q,λb u q n _ _=>⟨u.slots,k b u (hb b n) q⟩,λb u q n _=>by rw [qu (hx b n)];exact n,λb u q _=>?_,
  λb xs q=>by rw [qu (hm b _ q λz=>z)];exact q,λb u xs q=>by rw [qu (hm b _ q λz=>z)];exact q,λb ps q=>⟨#[],by rw [qu (hm b _ q λz=>z),q];simp⟩⟩
 by_cases hbe:b=e
 ·subst hbe;exact heo
 ·exact ⟨u,k b u hbe q⟩
end
def trk (h:Heap) (H:Hp):List Addr:=(List.range h.objs.size).filter λa=>(H a).isSome
def qbA (h:Heap) (H:Hp):Heap:=PySem.W.hideAll h (trk h H)
def qaX (h:Heap) (H:Hp):(qbA h H).objs.size=h.objs.size:=PySem.W.hideAll_size _ _
def qcr {h:Heap} {H:Hp} {b:Addr} {o:Obj} (e:h.get? b=some o) (n:H b=none):(qbA h H).get? b=some o:=
 PySem.W.hideAll_get _ e λhm=>by
  have q:(H b).isSome=true:=(List.mem_filter.mp hm).2;rw [n] at q;simp at q
def qeW {h:Heap} {H:Hp} {b:Addr} {o:Obj} (e:(qbA h H).get? b=some o):h.get? b=some o/\H b=none:=by
 have e':h.get? b=some o:=PySem.W.of_hideAll (trk h H) e;refine ⟨e',?_⟩;cases q:H b with
 |none=>rfl
 |some x=>
  have hm:b∈trk h H:=List.mem_filter.mpr ⟨mem_range.mpr (Heap.lt_size e'),by simp [q]⟩;have z:(qbA h H).get? b=none:=PySem.W.hideAll_none (trk h H) hm;rw [z] at e;cases e
def qfq (g h:Heap) (L:Addr):List (Addr×Obj):=(List.range h.objs.size).filterMap λa=>if a=L\/(g.get? a).isSome=true then none else (h.get? a).map λo=>(a,o)
def Z2 (g h:Heap) (L d:Addr):List (Addr×Obj):=(qfq g h L).filter λp=>decide (p.1≠d)
structure Mod (K:Frg) (mg:Str->Option Value) (base:Heap):Prop where
 kin:K.In base
 glob:base.Ns mainGlobals mg
 blt:∃ mb,base.Ns builtinsNs mb/\∀ x:Str,x≠"__name__" -> mb x=bootBuiltins x
 nolimit:base.NoLimit
structure Cx where
 prog:Program
 w:World
 K:PySem.W.Frag
 mg:Str->Option Value
 base:Heap
 A:Around
 N:List Str
 s₀:Shared
 H₀:Hp
 env:Env
 outer:List Env
 stack:List Env
 ex:List Addr
 fn:Str->Bool
 calm:Bool
 pn:List (Addr×Obj)
 xe:Value->Shared->Prop
def frs (l:List Env):List Addr:=l.filterMap (·.frame)
abbrev Cx.fs (X:Cx):List Addr:=frs X.outer
def Vis (sc:Scope) (x:Str):Prop:=sc.names.lookup x=some .local\/sc.names.lookup x=some .cell\/sc.names.lookup x=some .free
def Loc (sc:Scope) (x:Str):Prop:=sc.names.lookup x=some .local\/sc.names.lookup x=some .cell
def qpA (env:Env) (h:Heap) (m:Str->Option Value) (x:Str) (u:Value):Prop:=
 (env.kindOf x=some .local/\m x=some u)\/((env.kindOf x=some .cell\/env.kindOf x=some .free)/\∃ c,env.cells.lookup x=some c/\h.IsCell c (some u))
structure Cx.Ok (X:Cx):Prop where
 mod:Mod X.K X.mg X.base
 kind:X.env.scope.kind=.function
 glob:X.env.globals=mainGlobals
 blt:X.env.builtins=builtinsNs
 above:X.s₀.heap.objs.size<=X.env.locals
 inj:∀ x y c,X.env.cells.lookup x=some c->X.env.cells.lookup y=some c->x=y
 has:∀ x,(X.env.kindOf x=some .cell\/X.env.kindOf x=some .free)->∃ c,X.env.cells.lookup x=some c
 cab:∀ x c,X.fn x=true->X.env.cells.lookup x=some c->X.s₀.heap.objs.size<=c
 hd:X.calm=true->X.A.handled=none
 frames:X.A.frames=some X.stack
 stk:X.stack=X.outer\/(X.stack=X.env::X.outer/\X.env.frame=some X.env.locals)
 exf:∀ b∈X.ex,b≠X.env.locals/\∀ x c,X.env.cells.lookup x=some c->c≠b
 bs:∀ b o,X.base.get? b=some o->X.s₀.heap.get? b=some o/\X.H₀ b=none
 bsz:X.base.objs.size<=X.s₀.heap.objs.size
 noex:∀ b o,X.base.get? b=some o->b∉X.ex
 exfs:∀ b∈X.ex,b∉X.fs
 funs:X.s₀.heap.FunFrames X.base X.outer
 frf:∀ b∈X.fs,X.H₀ b=none
structure Inv (X:Cx) (pins:List (Addr×Obj)) (σ:List (Option V)) (H:Hp) (s:Shared):Prop where
 ok:X.Ok
 os:s.os=X.s₀.os
 bare:AllBare s.gens
 base:Un X.fs X.ex X.H₀ H X.s₀.heap s.heap
 loc:∃ m,s.heap.Ns X.env.locals m/\∀ (i:Nat) (x:Str) (v:V),X.N[i]?=some x->σ[i]?=some (some v)->Vis X.env.scope x->∃ u,ji v u/\qpA X.env s.heap m x u
 cell:∀ x c,X.env.cells.lookup x=some c->∃ v,s.heap.IsCell c v
 free:H X.env.locals=none
 freeC:∀ x c,X.env.cells.lookup x=some c->H c=none
 pin:∀ p∈X.pn++pins,s.heap.get? p.1=some p.2/\H p.1=none/\p.1≠X.env.locals/\p.1∉X.fs/\∀ v,p.2.data≠.cell v
 hok:HOk X.prog X.w H s.heap
 len:σ.length=X.N.length
section
variable {X:Cx} {pins:List (Addr×Obj)} {σ:List (Option V)} {H H':Hp} {s:Shared} {h':Heap}
def Cx.Ok.nofr (ok:X.Ok) {b:Addr} {o:Obj} (e:X.base.get? b=some o):b∉X.fs:=λhb=>by
 have:=(ok.funs.mem hb).1;rw [e] at this;cases this
def Inv.bs (I:Inv X pins σ H s):∀ b o,X.base.get? b=some o->s.heap.get? b=some o/\H b=none:=λb o e=>
 ⟨I.base.keep b o (I.ok.bs b o e).1 (I.ok.bs b o e).2 (I.ok.nofr e) (I.ok.noex b o e),I.base.free b o (I.ok.bs b o e).1 (I.ok.bs b o e).2 (I.ok.noex b o e)⟩
def Inv.bk (I:Inv X pins σ H s):∀ b o,X.base.get? b=some o->s.heap.get? b=some o:=λb o e=>(I.bs b o e).1
def Inv.mod (I:Inv X pins σ H s):Mod X.K X.mg X.base:=I.ok.mod
def Inv.kIn (I:Inv X pins σ H s):X.K.In s.heap:=I.ok.mod.kin.keeps I.bk
def Inv.nolimit (I:Inv X pins σ H s):s.heap.NoLimit:=I.ok.mod.nolimit.keeps I.bk
def Inv.fr (I:Inv X pins σ H s):∃ m,Fr X.base X.env.locals s.heap m:=
 let ⟨m,hn,_⟩:=I.loc
 ⟨m,hn,I.bk,Nat.le_trans I.ok.bsz I.ok.above⟩
def Inv.lt (I:Inv X pins σ H s):X.env.locals<s.heap.objs.size:=let ⟨_,hn,_⟩:=I.loc;hn.lt
def Inv.sz (I:Inv X pins σ H s):X.s₀.heap.objs.size<=s.heap.objs.size:=Nat.le_trans I.ok.above (Nat.le_of_lt I.lt)
def Inv.nofs (I:Inv X pins σ H s) {a:Addr} (h:s.heap.objs.size<=a):a∉X.fs:=λhb=>by
 obtain ⟨_,o,ho,_⟩:=I.ok.funs.mem hb;exact absurd (Nat.lt_of_lt_of_le (Heap.lt_size ho) (Nat.le_trans I.sz h)) (Nat.lt_irrefl _)
def Inv.cne (I:Inv X pins σ H s):∀ x c,X.env.cells.lookup x=some c->c≠X.env.locals:=λx c e z=>by
 obtain ⟨v,o,ho,hd⟩:=I.cell x c e;obtain ⟨m,⟨o',es,ep,ho',hd',_⟩,_⟩:=I.loc;rw [z,ho'] at ho;cases ho;rw [hd'] at hd;cases hd
def Inv.funs (I:Inv X pins σ H s):s.heap.FunFrames X.base X.outer:=by
 have all:∀ (l:List Env),(∀ b∈frs l,b∈X.fs)->X.s₀.heap.FunFrames X.base l->s.heap.FunFrames X.base l:=by
  intro l;induction l with
  |nil=>intro _ _;trivial
  |cons env r ih=>
   intro hs hl;obtain ⟨hk,⟨L,o,hf,hn,ho,hd⟩,hr⟩:=hl;have hL:L∈X.fs:=hs L (by unfold frs;rw [List.filterMap_cons,hf];exact List.mem_cons_self);obtain ⟨sl,e⟩:=I.base.slot L o ho (I.ok.frf L hL) hL λz=>I.ok.exfs L z hL;exact ⟨hk,⟨L,_,hf,hn,e,hd⟩,ih (λb hb=>hs b (by unfold frs;rw [List.filterMap_cons,hf];exact List.mem_cons_of_mem _ hb)) hr⟩
 exact all X.outer (λ_ hb=>hb) I.ok.funs
def Inv.stack (I:Inv X pins σ H s):s.heap.FunFrames X.base X.stack:=by
 rcases I.ok.stk with e|⟨e,hf⟩
 ·rw [e];exact I.funs
 ·rw [e];obtain ⟨m,hn,_⟩:=I.loc;refine .cons (by rw [I.ok.kind];decide) hf hn ?_ I.funs;exact Heap.get?_none_of_le (Nat.le_trans I.ok.bsz I.ok.above)
def Inv.stkSub (I:Inv X pins σ H s):∀ b∈frs X.stack,b∈X.env.locals::X.fs:=λb hb=>by
 rcases I.ok.stk with e|⟨e,hf⟩
 ·rw [e] at hb;exact List.mem_cons_of_mem _ hb
 ·rw [e] at hb;unfold frs at hb;rw [List.filterMap_cons,hf] at hb;exact hb
def Inv.stkFree (I:Inv X pins σ H s):∀ b∈frs X.stack,H b=none:=λb hb=>by
 rcases mem_cons.mp (I.stkSub b hb) with e|hb
 ·rw [e];exact I.free
 ·obtain ⟨_,o,ho,_⟩:=I.ok.funs.mem hb;exact I.base.free b o ho (I.ok.frf b hb) λz=>I.ok.exfs b z hb
def Inv.step {g':Array GenState} {t':Nat} {d':Drawn} {ch:List Addr} (I:Inv X pins σ H s)
  (hch:∀ b∈ch,(b∈X.ex\/X.s₀.heap.objs.size<=b)/\b≠X.env.locals/\(∀ x c,X.env.cells.lookup x=some c->c≠b)/\∀ p∈X.pn++pins,p.1≠b)
  (keep:∀ b o,b≠X.env.locals->b∉X.fs->b∉ch->s.heap.get? b=some o->H b=none->h'.get? b=some o)
  (slot:∀ b o,b≠X.env.locals->b∈X.fs->b∉ch->s.heap.get? b=some o->H b=none->∃ sl,h'.get? b=some { o with slots:=sl }) (free:∀ b o,b∉ch->s.heap.get? b=some o->H b=none->H' b=none)
  (there:∀ b o,b∉ch->s.heap.get? b=some o->∃ o',h'.get? b=some o')
  (tups:∀ b xs,H b=some (.tup xs)->H' b=some (.tup xs)) (frzs:∀ b o u,H b=some (.frz o u)->H' b=some (.frz o u)) (tbls:∀ b ps,H b=some (.tbl ps)->∃ more,H' b=some (.tbl (ps++more)))
  (ns:∀ m,s.heap.Ns X.env.locals m->h'.Ns X.env.locals m) (hok:HOk X.prog X.w H' h') (hg:AllBare g') :
  Inv X pins σ H' { s with heap:=h',gens:=g',drawn:=d',toks:=t' }:=by
 have neL:∀ b o,X.s₀.heap.get? b=some o->b≠X.env.locals:=λb o e=>Nat.ne_of_lt (Nat.lt_of_lt_of_le (Heap.lt_size e) I.ok.above);have neC:∀ b o,X.s₀.heap.get? b=some o->b∉X.ex->b∉ch:=λb o e hx hb=>by
  rcases (hch b hb).1 with z|z
  ·exact hx z
  ·exact absurd (Nat.lt_of_lt_of_le (Heap.lt_size e) z) (Nat.lt_irrefl _)
 have cellK:∀ x c,X.env.cells.lookup x=some c->∀ v,s.heap.IsCell c v->h'.IsCell c v:=λx c e v ⟨o,ho,hd⟩=>by
  have nch:c∉ch:=λz=>(hch c z).2.2.1 x c e rfl;by_cases hc:c∈X.fs
  ·obtain ⟨sl,q⟩:=slot c o (I.cne x c e) hc nch ho (I.freeC x c e);exact ⟨_,q,hd⟩
  ·exact ⟨o,keep c o (I.cne x c e) hc nch ho (I.freeC x c e),hd⟩
 refine ⟨I.ok,I.os,hg,⟨λb o e n hb hx=>?_,λb o e n hb hx=>?_,λb o e n hx=>?_,λb o e hx=>?_,λb xs e=>tups b xs (I.base.tups b xs e),λb o xs e=>frzs b o xs (I.base.frzs b o xs e),λb ps e=>?_⟩,?_,λx c e=>?_,?_,λx c e=>?_,λp hp=>?_,hok,I.len⟩
 ·exact keep b o (neL b o e) hb (neC b o e hx) (I.base.keep b o e n hb hx) (I.base.free b o e n hx)
 ·obtain ⟨sl,e1⟩:=I.base.slot b o e n hb hx;obtain ⟨sl',e2⟩:=slot b _ (neL b o e) hb (neC b o e hx) e1 (I.base.free b o e n hx);exact ⟨sl',e2⟩
 ·obtain ⟨o',e1⟩:=I.base.there b o e hx;exact free b o' (neC b o e hx) e1 (I.base.free b o e n hx)
 ·obtain ⟨o',e1⟩:=I.base.there b o e hx;exact there b o' (neC b o e hx) e1
 ·obtain ⟨m1,e1⟩:=I.base.tbls b ps e;obtain ⟨m2,e2⟩:=tbls b _ e1;exact ⟨m1++m2,by rw [e2,Array.append_assoc]⟩
 ·obtain ⟨m,hn,hl⟩:=I.loc;refine ⟨m,ns m hn,λi x v e1 e2 e3=>?_⟩;obtain ⟨u,r,l⟩:=hl i x v e1 e2 e3;refine ⟨u,r,?_⟩;rcases l with l|⟨k,c,e,z⟩
  ·exact .inl l
  ·exact .inr ⟨k,c,e,cellK x c e _ z⟩
 ·obtain ⟨v,z⟩:=I.cell x c e;exact ⟨v,cellK x c e v z⟩
 ·obtain ⟨m,⟨o,_,_,ho,_⟩,_⟩:=I.loc;exact free _ o (λz=>(hch _ z).2.1 rfl) ho I.free
 ·obtain ⟨v,o,ho,hd⟩:=I.cell x c e;exact free c o (λz=>(hch c z).2.2.1 x c e rfl) ho (I.freeC x c e)
 ·obtain ⟨e,n,ne,nf,d⟩:=I.pin p hp;have nch:p.1∉ch:=λz=>(hch p.1 z).2.2.2 p hp rfl;exact ⟨keep p.1 p.2 ne nf nch e n,free p.1 p.2 nch e n,ne,nf,d⟩
def Inv.un {t':Nat} (I:Inv X pins σ H s) (u:Un X.fs [] H H' s.heap h') (hok:HOk X.prog X.w H' h'):Inv X pins σ H' { s with heap:=h',toks:=t' }:=by
 obtain ⟨m,⟨o,es,ep,ho,r⟩,_⟩:=id I.loc;obtain ⟨sl,hL⟩:=u.any ho I.free (by simp);exact I.step (g':=s.gens) (d':=s.drawn) (ch:=[]) (λ_ z=>nomatch z) (λb o _ hb _ e n=>u.keep b o e n hb (by simp)) (λb o _ hb _ e n=>u.slot b o e n hb (by simp)) (λb o _ e n=>u.free b o e n (by simp)) (λb o _ e=>u.there b o e (by simp)) u.tups u.frzs u.tbls (λm' hm=>by
  obtain ⟨o',es',ep',ho',r'⟩:=hm;rw [ho] at ho';cases ho';exact ⟨_,es',ep',hL,r'⟩) hok I.bare
def Inv.call {g':Array GenState} {t':Nat} {d':Drawn} {ch:List Addr} (I:Inv X pins σ H s) (u:Un (frs X.stack) ch H H' s.heap h') (hok:HOk X.prog X.w H' h') (hg:AllBare g')
  (hch:∀ b∈ch,(b∈X.ex\/X.s₀.heap.objs.size<=b)/\b≠X.env.locals/\(∀ x c,X.env.cells.lookup x=some c->c≠b)/\∀ p∈X.pn++pins,p.1≠b) :
  Inv X pins σ H' { s with heap:=h',gens:=g',drawn:=d',toks:=t' }:=by
 obtain ⟨m,⟨o,es,ep,ho,r⟩,_⟩:=id I.loc;obtain ⟨sl,hL⟩:=u.any ho I.free λz=>(hch _ z).2.1 rfl;exact I.step (ch:=ch) hch (λb o hL hb hc e n=>u.keep b o e n (λz=>(mem_cons.mp (I.stkSub b z)).elim hL hb) hc) (λb o _ _ hc e n=>u.any e n hc) (λb o hc e n=>u.free b o e n hc) (λb o hc e=>u.there b o e hc) u.tups u.frzs u.tbls (λm' hm=>by
  obtain ⟨o',es',ep',ho',r'⟩:=hm;rw [ho] at ho';cases ho';exact ⟨_,es',ep',hL,r'⟩) hok hg
def Inv.turned {t':Nat} {it:Addr} (I:Inv X pins σ H s) (k:∀ b o,b≠it->s.heap.get? b=some o->h'.get? b=some o) (hn:H it=none) (hL:it≠X.env.locals)
  (h1:it∈X.ex\/X.s₀.heap.objs.size<=it) (h2:∀ x c,X.env.cells.lookup x=some c->c≠it) (h3:∀ p∈X.pn++pins,p.1≠it):Inv X pins σ H { s with heap:=h',toks:=t' }:=by
 have nit:∀ b u,H b=some u->b≠it:=λb u e z=>by rw [z,hn] at e;cases e
 refine I.step (g':=s.gens) (d':=s.drawn) (ch:=[it]) (λb hb=>?_) (λb o _ _ hc e _=>k b o (λz=>hc (by simp [z])) e) (λb o _ _ hc e _=>⟨o.slots,k b o (λz=>hc (by simp [z])) e⟩) (λ_ _ _ _ n=>n)
  (λb o hc e=>⟨o,k b o (λz=>hc (by simp [z])) e⟩) (λ_ _ e=>e) (λ_ _ _ e=>e) (λb ps e=>⟨#[],by rw [e];simp⟩) (λm hm=>?_) (λb u e=>?_) I.bare
 ·have e:b=it:=by simpa using hb
  subst e;exact ⟨h1,hL,h2,h3⟩
 ·obtain ⟨o,es,ep,ho,r⟩:=hm;exact ⟨o,es,ep,k _ o (Ne.symm hL) ho,r⟩
 ·refine (I.hok b u e).stay (λc v hc q=>k c v ?_ q) (λ_ q=>q) λ_ _ q=>q;rcases hc with z|z
  ·rw [z];exact nit b u e
  ·exact nit c _ z
def Inv.tok (I:Inv X pins σ H s) (t:Nat):Inv X pins σ H { s with toks:=t }:=I.un (h':=s.heap) (t':=t) Un.refl I.hok
def Inv.kept {t':Nat} (I:Inv X pins σ H s) (k:∀ b u,s.heap.get? b=some u->h'.get? b=some u):Inv X pins σ H { s with heap:=h',toks:=t' }:=I.un (Un.kept k) (I.hok.kept k)
def Inv.laid {a:Addr} {o:HO} {t':Nat} (I:Inv X pins σ H s) (k:∀ b u,s.heap.get? b=some u->h'.get? b=some u) (hp:s.heap.objs.size<=a) (new:JY X.prog X.w (upd H a o) h' a o) :
  Inv X pins σ (upd H a o) { s with heap:=h',toks:=t' }:=I.un (Un.laid k hp (I.hok.fresh hp)) (I.hok.laid k hp new)
def Inv.write {x e:Addr} {o:HO} {t':Nat} (I:Inv X pins σ H s) (mu:Mut (H x)) (he:e=x\/H e=some (.own x)) (k:∀ b u,b≠e->s.heap.get? b=some u->h'.get? b=some u) (heo:∃ u,h'.get? e=some u)
  (new:JY X.prog X.w (upd H x o) h' x o):Inv X pins σ (upd H x o) { s with heap:=h',toks:=t' }:=I.un (Un.write mu he k heo) (I.hok.write mu he k heo new)
def Inv.pins_of {pins':List (Addr×Obj)} (I:Inv X pins σ H s) (h:∀ p∈pins',s.heap.get? p.1=some p.2/\H p.1=none/\p.1≠X.env.locals/\p.1∉X.fs/\∀ v,p.2.data≠.cell v):Inv X pins' σ H s:=
 ⟨I.ok,I.os,I.bare,I.base,I.loc,I.cell,I.free,I.freeC,λp hp=>(List.mem_append.mp hp).elim (λz=>I.pin p (List.mem_append_left _ z)) (h p),I.hok,I.len⟩
def KC {N:List Str} (hN:N.Nodup) {i j:Nat} {x:Str} (a:N[i]?=some x) (b:N[j]?=some x):i=j:=by
 obtain ⟨h1,e1⟩:=List.getElem?_eq_some_iff.mp a;obtain ⟨h2,e2⟩:=List.getElem?_eq_some_iff.mp b;exact (List.getElem_inj hN).mp (e1.trans e2.symm)
def SK {M:Model} {A:Around} {E:Value->Shared->Prop} {i:Nat} {x:Str} {v:V} {u:Value} {Q:Unit->Shared->Prop} (I:Inv X pins σ H s) (hN:X.N.Nodup) (hi:X.N[i]?=some x) (hx:Loc X.env.scope x) (r:ji v u)
  (h:∀ s',Inv X pins (σ.set i (some v)) H s'->(∃ a,Heap.SameBut a s.heap s'.heap/\(a=X.env.locals\/X.env.cells.lookup x=some a))->Q () s') (hf:X.fn x=true\/X.env.scope.names.lookup x=some .local:=by first|exact .inl rfl|exact .inr rfl|assumption):wpAny M A (storeName X.env x u) Q E s:=by
 obtain ⟨m,hn,hl⟩:=id I.loc;have hcls:(X.env.scope.kind==.class||(X.env.scope.kind==.module&&X.env.locals != X.env.globals))=false:=by rw [I.ok.kind];rfl
 have hiσ:i<σ.length:=by rw [I.len];exact (List.getElem?_eq_some_iff.mp hi).1
 have cne:=I.cne;have tracked:∀ {a:Addr} {h':Heap},(∃ o,s.heap.get? a=some o/\H a=none)->Heap.SameBut a s.heap h'->HOk X.prog X.w H h':=λ{a h'} ha hs b ob e=>by
  obtain ⟨_,_,hfree⟩:=ha;refine (I.hok b ob e).stay (λc w' hc q=>(hs.2 c ?_).trans q) (λ_ q=>q) λ_ _ q=>q;rintro rfl;rcases hc with rfl|hc
  ·rw [hfree] at e;cases e
  ·rw [hfree] at hc;cases hc
 rcases hx with hk|hk
 ·refine wpAny_storeName_local hk hn (λh' hn' hs=>?_) hcls;obtain ⟨oL,_,_,hoL,_⟩:=id hn;refine h _ ⟨I.ok,I.os,I.bare,⟨λb o e n hb hx=>?_,λb o e n hb hx=>?_,I.base.free,λb o e hx=>?_,I.base.tups,I.base.frzs,I.base.tbls⟩,⟨_,hn',λj y v' e1 e2 e3=>?_⟩,λy c e=>?_,I.free,I.freeC,λp hp=>?_,tracked ⟨oL,hoL,I.free⟩ hs,by simpa using I.len⟩ ⟨_,hs,.inl rfl⟩
  ·exact (hs.2 b (Nat.ne_of_lt (Nat.lt_of_lt_of_le (Heap.lt_size e) I.ok.above))).trans (I.base.keep b o e n hb hx)
  ·obtain ⟨sl,e1⟩:=I.base.slot b o e n hb hx;exact ⟨sl,(hs.2 b (Nat.ne_of_lt (Nat.lt_of_lt_of_le (Heap.lt_size e) I.ok.above))).trans e1⟩
  ·obtain ⟨o',e1⟩:=I.base.there b o e hx;exact ⟨o',(hs.2 b (Nat.ne_of_lt (Nat.lt_of_lt_of_le (Heap.lt_size e) I.ok.above))).trans e1⟩
  ·by_cases hj:j=i
   ·subst hj;rw [hi] at e1;cases e1;rw [List.getElem?_set_self hiσ] at e2;cases e2;exact ⟨u,r,.inl ⟨hk,by simp⟩⟩
   ·rw [List.getElem?_set_ne (Ne.symm hj)] at e2;obtain ⟨u',r',q⟩:=hl j y v' e1 e2 e3;refine ⟨u',r',?_⟩;rcases q with ⟨k,e⟩|⟨k,c,e,z⟩
    ·refine .inl ⟨k,?_⟩;have:y≠x:=λe=>hj (KC hN e1 (e▸hi));simp [this,e]
    ·exact .inr ⟨k,c,e,z.sameBut hs (cne y c e)⟩
  ·obtain ⟨w',z⟩:=I.cell y c e;exact ⟨w',z.sameBut hs (cne y c e)⟩
  ·obtain ⟨e,n,ne,nf,d⟩:=I.pin p hp;exact ⟨(hs.2 p.1 ne).trans e,n,ne,nf,d⟩
 ·have hfn:X.fn x=true:=by
   rcases hf with z|z
   ·exact z
   ·rw [z] at hk;cases hk
  obtain ⟨c,hc⟩:=I.ok.has x (.inl hk);obtain ⟨w',z⟩:=I.cell x c hc;refine wpAny_storeName_cell I.ok.kind hk hc z (λh' hc' hs=>?_);obtain ⟨oc,hoc,hocd⟩:=id z;refine h { s with heap:=h' } ⟨I.ok,I.os,I.bare,⟨λb o e n hb hx=>?_,λb o e n hb hx=>?_,I.base.free,λb o e hx=>?_,I.base.tups,I.base.frzs,I.base.tbls⟩,⟨m,hn.sameBut hs (Ne.symm (cne x c hc)),λj y v' e1 e2 e3=>?_⟩,λy c' e=>?_,I.free,I.freeC,λp hp=>?_,tracked ⟨oc,hoc,I.freeC x c hc⟩ hs,by simpa using I.len⟩ ⟨c,hs,.inr hc⟩
  ·exact (hs.2 b (Nat.ne_of_lt (Nat.lt_of_lt_of_le (Heap.lt_size e) (I.ok.cab x c hfn hc)))).trans (I.base.keep b o e n hb hx)
  ·obtain ⟨sl,e1⟩:=I.base.slot b o e n hb hx;exact ⟨sl,(hs.2 b (Nat.ne_of_lt (Nat.lt_of_lt_of_le (Heap.lt_size e) (I.ok.cab x c hfn hc)))).trans e1⟩
  ·obtain ⟨o',e1⟩:=I.base.there b o e hx;exact ⟨o',(hs.2 b (Nat.ne_of_lt (Nat.lt_of_lt_of_le (Heap.lt_size e) (I.ok.cab x c hfn hc)))).trans e1⟩
  ·by_cases hj:j=i
   ·subst hj;rw [hi] at e1;cases e1;rw [List.getElem?_set_self hiσ] at e2;cases e2;exact ⟨u,r,.inr ⟨.inl hk,c,hc,hc'⟩⟩
   ·rw [List.getElem?_set_ne (Ne.symm hj)] at e2;obtain ⟨u',r',q⟩:=hl j y v' e1 e2 e3;refine ⟨u',r',?_⟩;rcases q with q|⟨k,c',e,z'⟩
    ·exact .inl q
    ·refine .inr ⟨k,c',e,z'.sameBut hs ?_⟩;rintro rfl;exact hj (KC hN e1 (I.ok.inj _ _ _ e hc▸hi))
  ·by_cases hcc:c'=c
   ·subst hcc;exact ⟨_,hc'⟩
   ·obtain ⟨w2,z2⟩:=I.cell y c' e;exact ⟨w2,z2.sameBut hs hcc⟩
  ·obtain ⟨e,n,ne,nf,d⟩:=I.pin p hp;refine ⟨(hs.2 p.1 ?_).trans e,n,ne,nf,d⟩;intro q;rw [q,hoc] at e;have q':oc=p.2:=Option.some.inj e;exact d w' (by rw [← q'];exact hocd)
def YJ {M:Model} {A:Around} {E:Value->Shared->Prop} {i:Nat} {x:Str} {v:V} {u:Value} {Q:Unit->Shared->Prop} (I:Inv X pins σ H s) (hN:X.N.Nodup) (hi:X.N[i]?=some x) (hx:Loc X.env.scope x) (r:ji v u)
  (h:∀ s',Inv X pins (σ.set i (some v)) H s'->Q () s') (hf:X.fn x=true\/X.env.scope.names.lookup x=some .local:=by first|exact .inl rfl|exact .inr rfl|assumption):wpAny M A (storeName X.env x u) Q E s:=
 SK I hN hi hx r (λs' I' _=>h s' I') hf
def Inv.call' {s':Shared} {ch:List Addr} (I:Inv X pins σ H s) (ho:s'.os=s.os) (u:Un (frs X.stack) ch H H' s.heap s'.heap) (hok:HOk X.prog X.w H' s'.heap) (hg:AllBare s'.gens)
  (hch:∀ b∈ch,(b∈X.ex\/X.s₀.heap.objs.size<=b)/\b≠X.env.locals/\(∀ x c,X.env.cells.lookup x=some c->c≠b)/\∀ p∈X.pn++pins,p.1≠b):Inv X pins σ H' s':=by
 obtain ⟨h',g',d',t',o'⟩:=s';have e:o'=s.os:=ho;subst e;exact I.call (g':=g') (t':=t') (d':=d') u hok hg hch
end
abbrev XK:=Value->Option Addr->Hp->Prop
abbrev St:=List (Option V)
abbrev VK:=V->Hp->Prop
abbrev TE:=St->Hp->VK->Prop
abbrev TT:=St->Hp->(Bool->Hp->Prop)->Prop
abbrev TA:=St->Hp->(List V->Hp->Prop)->Prop
structure Ends where
 nx:St->Hp->Prop
 rt:VK
 bk:St->Hp->Prop:=λ_ _=>False
 ct:St->Hp->Prop:=λ_ _=>False
abbrev TS:=Ends->St->Hp->Prop
def EP (X:Cx) (pins:List (Addr×Obj)) (σ:St) (Q:VK) (u:Value) (s':Shared):Prop:=∃ v H',Inv X pins σ H' s'/\ji v u/\Q v H'
def TP (X:Cx) (pins:List (Addr×Obj)) (σ:St) (Q:Bool->Hp->Prop) (b:Bool) (s':Shared):Prop:=∃ H',Inv X pins σ H' s'/\Q b H'
def AP (X:Cx) (pins:List (Addr×Obj)) (σ:St) (Q:List V->Hp->Prop) (us:List Value) (s':Shared):Prop:=∃ vs H',Inv X pins σ H' s'/\zS vs us/\Q vs H'
def SP (X:Cx) (pins:List (Addr×Obj)) (D:Ends) (f:Flow) (s':Shared):Prop:=
 match f with
 |.next=>∃ σ' H',Inv X pins σ' H' s'/\D.nx σ' H'
 |.brk=>∃ σ' H',Inv X pins σ' H' s'/\D.bk σ' H'
 |.cont=>∃ σ' H',Inv X pins σ' H' s'/\D.ct σ' H'
 |.ret u=>∃ v σ' H',Inv X pins σ' H' s'/\ji v u/\D.rt v H'
def PE (X:Cx) (e:Expr) (t:TE):Prop:=
 ∀ (pins:List (Addr×Obj)) (s:Shared) (σ:St) (H:Hp) (Q:VK),Inv X pins σ H s->t σ H Q->wpAny (model X.prog X.w) X.A (eval e X.env) (EP X pins σ Q) X.xe s
def PT (X:Cx) (e:Expr) (t:TT):Prop:=
 ∀ (pins:List (Addr×Obj)) (s:Shared) (σ:St) (H:Hp) (Q:Bool->Hp->Prop),Inv X pins σ H s->t σ H Q->wpAny (model X.prog X.w) X.A (isTrue e X.env (eval e X.env)) (TP X pins σ Q) X.xe s
def PW (X:Cx) (e:Expr) (t:TT):Prop:=
 ∀ (whole:Sem Value) (pins:List (Addr×Obj)) (s:Shared) (σ:St) (H:Hp) (Q:Bool->Hp->Prop),Inv X pins σ H s->t σ H Q->wpAny (model X.prog X.w) X.A (isTrue e X.env whole) (TP X pins σ Q) X.xe s
def PW.pt {X:Cx} {e:Expr} {t:TT} (h:PW X e t):PT X e t:=h _
def PA (X:Cx) (es:List Expr) (t:TA):Prop:=
 ∀ (pos:Pos) (pins:List (Addr×Obj)) (s:Shared) (σ:St) (H:Hp) (Q:List V->Hp->Prop),Inv X pins σ H s->t σ H Q->wpAny (model X.prog X.w) X.A (spliced (backTo pos (starEach es X.env))) (AP X pins σ Q) X.xe s
def PS (X:Cx) (st:Stmt) (t:TS):Prop:=
 ∀ (pins:List (Addr×Obj)) (s:Shared) (σ:St) (H:Hp) (D:Ends),Inv X pins σ H s->t D σ H->wpAny (model X.prog X.w) X.A (exec st X.env) (SP X pins D) X.xe s
def PSs (X:Cx) (st:List Stmt) (t:TS):Prop:=
 ∀ (pins:List (Addr×Obj)) (s:Shared) (σ:St) (H:Hp) (D:Ends),Inv X pins σ H s->t D σ H->wpAny (model X.prog X.w) X.A (execs st X.env) (SP X pins D) X.xe s
def thn {α:Type} {t:Sem α} {Q Q':α->Shared->Prop} {M:Model} {A:Around} {E:Value->Shared->Prop} {s:Shared} (h:wpAny M A t Q E s) (hQ:∀ a s,Q a s->Q' a s):wpAny M A t Q' E s:=wpAny_mono h hQ λ_ _ x=>x
section
variable {X:Cx}
def qpv (i:Nat):TE:=λσ H Q=>∃ v,σ[i]?=some (some v)/\Q v H
def tC (v:V):TE:=λ_ H Q=>Q v H
def qjU {i:Nat} {x:Str} {pos:Pos} (hN:X.N[i]?=some x) (hv:Vis X.env.scope x) (hd:(x==("__debug__" : Str))=false:=by decide) (hcd:(x==("__classdict__" : Str))=false:=by decide):PE X (.Name x pos) (qpv i):=by
 intro pins s σ H Q I h;obtain ⟨v,e,h⟩:=h;obtain ⟨m,hn,hl⟩:=I.loc;obtain ⟨u,r,l⟩:=hl i x v hN e hv;have fin:EP X pins σ Q u s:=⟨v,H,I,r,h⟩
 rcases l with ⟨hk,hm⟩|⟨hk,c,hc,hcell⟩
 ·exact wpAny_Name (wpAny_loadName_local I.ok.kind hk hn hm fin) hd
 ·rcases hk with hk|hk
  ·exact wpAny_Name (wpAny_loadName_cell I.ok.kind hk hc hcell fin) hd
  ·exact wpAny_Name (wpAny_loadName_free I.ok.kind hk hc hcell fin hcd) hd
def qlI {i j pos}:PE X (.Constant (.int i) j pos) (tC (.int i)):=λ_ _ _ H _ I h=>wpAny_Constant_int ⟨.int i,H,I.tok _,⟨_,rfl⟩,h⟩
def qnK {b j pos}:PE X (.Constant (.bool b) j pos) (tC (.bl b)):=λ_ _ _ H _ I h=>Constant_bool ⟨.bl b,H,I,rfl,h⟩
def qgF {j pos}:PE X (.Constant .none j pos) (tC .non):=λ_ _ _ H _ I h=>Constant_none ⟨.non,H,I,rfl,h⟩
def qlm {x j pos}:PE X (.Constant (.str x) j pos) (tC (.str x)):=λ_ _ _ H _ I h=>Calls.Constant_str ⟨.str x,H,I.tok _,⟨_,rfl⟩,h⟩
def Gl (X:Cx) (x:Str):Prop:=X.env.kindOf x=some .globalImplicit
def D9 {E:Value->Shared->Prop} {pins:List (Addr×Obj)} {s:Shared} {σ:St} {H:Hp} {x:Str} {u:Value} {pos:Pos} {Q:Value->Shared->Prop} (I:Inv X pins σ H s) (hg:Gl X x) (hm:X.mg x=some u) (h:Q u s)
  (hd:(x==("__debug__" : Str))=false:=by decide):wpAny (model X.prog X.w) X.A (eval (.Name x pos) X.env) Q E s:=
 Calls.Name_function_global I.ok.kind hg (Calls.loadGlobal_global (by rw [I.ok.glob];exact I.mod.glob.keeps I.bk) hm h) hd
def XO {E:Value->Shared->Prop} {pins:List (Addr×Obj)} {s:Shared} {σ:St} {H:Hp} {x:Str} {u:Value} {pos:Pos} {Q:Value->Shared->Prop} (I:Inv X pins σ H s) (hg:Gl X x) (hm:X.mg x=none) (hv:bootBuiltins x=some u) (h:Q u s)
  (hn:x≠"__name__" := by decide) (hd:(x==("__debug__" : Str))=false:=by decide):wpAny (model X.prog X.w) X.A (eval (.Name x pos) X.env) Q E s:=by
 obtain ⟨mb,h1,h2⟩:=I.mod.blt;exact Calls.Name_function_global I.ok.kind hg (Calls.loadGlobal_builtin (by rw [I.ok.glob];exact I.mod.glob.keeps I.bk) hm (by rw [I.ok.blt];exact h1.keeps I.bk) ((h2 x hn).trans hv) h) hd
def qff {x:Str} {v:V} {u:Value} {pos:Pos} (hg:Gl X x) (hm:X.mg x=some u) (r:ji v u) (hd:(x==("__debug__" : Str))=false:=by decide):PE X (.Name x pos) (tC v):=
 λ_ _ _ H _ I h=>D9 I hg hm ⟨v,H,I,r,h⟩ hd
def qa5 {x:Str} {v:V} {u:Value} {pos:Pos} (hg:Gl X x) (hm:X.mg x=none) (hv:bootBuiltins x=some u) (r:ji v u) (hn:x≠"__name__" := by decide) (hd:(x==("__debug__" : Str))=false:=by decide):PE X (.Name x pos) (tC v):=
 λ_ _ _ H _ I h=>XO I hg hm hv ⟨v,H,I,r,h⟩ hn hd
variable {a b:Expr} {ta tb:TE} {pos:Pos}
def tB (t:TE):TT:=λσ H Q=>t σ H λx H1=>∃ c,x=.bl c/\Q c H1
def qhO {e:Expr} {t:TE} (h:PE X e t) (he:∀ whole,isTrue e X.env whole=(do let v←whole;standAt e.pos;holding [v] (truthy v)):=by intro _;rfl):PT X e (tB t):=by
 intro pins s σ H Q I hw;refine isTrue_plain (thn (h pins s σ H _ I hw) λv s1 ⟨x,H1,I1,r1,q1⟩=>?_) (he _);obtain ⟨d,rfl,q⟩:=q1;cases r1;exact wpAny_truthy_bool ⟨H1,I1,q⟩
variable {tA tB':TT} {Z2:List Expr}
def tOr (t u:TT):TT:=λσ H Q=>t σ H λc H1=>if c=true then Q true H1 else u σ H1 Q
def qpx (t:TT):TT:=λσ H Q=>t σ H λc H1=>Q (!c) H1
def qgQ (ha:PT X a tA):PW X (.BoolOp .Or [a] pos) tA:=by
 intro wh pins s σ H Q I h;refine isTrue_or (thn (ha pins s σ H Q I h) λc s1 e=>?_);cases c with
 |false=>exact isTrue_or_nil e
 |true=>exact e
def qn1 (ha:PT X a tA) (hb:PW X (.BoolOp .Or (b::Z2) pos) tB'):PW X (.BoolOp .Or (a::b::Z2) pos) (tOr tA tB'):=by
 intro wh pins s σ H Q I h;refine isTrue_or (thn (ha pins s σ H _ I h) λc s1 ⟨H1,I1,q1⟩=>?_);cases c with
 |true=>exact ⟨H1,I1,q1⟩
 |false=>exact hb wh pins s1 σ H1 Q I1 q1
def qlK (ha:PT X a tA):PT X (.UnaryOp .Not a pos) (qpx tA):=by
 intro pins s σ H Q I h;exact isTrue_not (ha pins s σ H (λc H1=>Q (!c) H1) I h)
def qnX (ta tb:TE):TE:=λσ H Q=>ta σ H λx H1=>∃ c,x=.bl c/\if c=true then tb σ H1 Q else Q (.bl false) H1
def qmX (ta:TE):TE:=λσ H Q=>ta σ H λx H1=>∃ c,x=.bl c/\Q (.bl (!c)) H1
def qg0 {op} {t:TE} (h:PE X a t):PE X (.BoolOp op [a] pos) t:=λpins s σ H Q I hw=>BoolOp_one (h pins s σ H Q I hw)
def qkL (ha:PE X a ta) (hb:PE X (.BoolOp .And (b::Z2) pos) tb):PE X (.BoolOp .And (a::b::Z2) pos) (qnX ta tb):=by
 intro pins s σ H Q I h;refine BoolOp_and (thn (ha pins s σ H _ I h) λv s1 ⟨x,H1,I1,r1,q1⟩=>?_);obtain ⟨c,rfl,q1⟩:=q1;cases r1;refine wpAny_truthy_bool ?_;cases c with
 |true=>exact hb pins s1 σ H1 Q I1 q1
 |false=>exact ⟨.bl false,H1,I1,rfl,q1⟩
def qhx (ha:PE X a ta):PE X (.UnaryOp .Not a pos) (qmX ta):=by
 intro pins s σ H Q I h;refine UnaryOp_ (thn (ha pins s σ H _ I h) λv s1 ⟨x,H1,I1,r1,q1⟩=>?_);obtain ⟨c,rfl,q1⟩:=q1;cases r1;exact not_of (wpAny_truthy_bool ⟨.bl (!c),H1,I1,rfl,q1⟩)
def tIf (t:TT) (ta tb:TE):TE:=λσ H Q=>t σ H λc H1=>if c=true then ta σ H1 Q else tb σ H1 Q
def qce {c:Expr} (hc:PT X c tA) (ha:PE X a ta) (hb:PE X b tb):PE X (.IfExp c a b pos) (tIf tA ta tb):=by
 intro pins s σ H Q I h;refine wpAny_IfExp (thn (hc pins s σ H _ I h) λd s1 ⟨H1,I1,q1⟩=>?_);cases d with
 |true=>exact ha pins s1 σ H1 Q I1 q1
 |false=>exact hb pins s1 σ H1 Q I1 q1
end
def SqL (K:Frg) (H:Hp) (a:Addr) (xs:List V):Prop:=
 Rd H a (.lst xs) ∨
  ∃ (o:Obj) (its:Array Value) (n:Nat),K.lookup a=some o/\o.cls=.type "list"/\o.dict=none/\o.data=.seq its n/\its.size<=sizeLine/\zS xs its.toList
def SqT (K:Frg) (H:Hp) (a:Addr) (xs:List V):Prop:=
 Rd H a (.tup xs) ∨
  ∃ (o:Obj) (its:Array Value) (n:Nat),K.lookup a=some o/\o.cls=.type "tuple"/\o.data=.seq its n/\its.size<=sizeLine/\zS xs its.toList
def qo9:Value->Option V
 |.none=>some .non
 |.bool b=>some (.bl b)
 |.int i _=>some (.int i)
 |.str x _=>some (.str x)
 |.bytes b _=>some (.byt b)
 |.float b _=>some (.flt b)
 |.ref a=>some (.ref a)
 |.type n=>some (.ty n)
 |_=>none
def ji.abs {x:V} {u:Value} (r:ji x u):qo9 u=some x:=by
 cases x with
 |non=>cases r;rfl
 |bl _=>cases r;rfl
 |int _=>obtain ⟨t,rfl⟩:=r;rfl
 |str _=>obtain ⟨t,rfl⟩:=r;rfl
 |byt _=>obtain ⟨t,rfl⟩:=r;rfl
 |flt _=>obtain ⟨t,rfl⟩:=r;rfl
 |ref _=>cases r;rfl
 |ty _=>cases r;rfl
def ji.inj {x y:V} {u:Value} (r:ji x u) (q:ji y u):x=y:=Option.some.inj (r.abs.symm.trans q.abs)
def zS.inj:∀ {xs ys:List V} {us:List Value},zS xs us->zS ys us->xs=ys
 |_,_,_,.nil,.nil=>rfl
 |_,_,_,.cons r t,.cons r' t'=>by rw [r.inj r',zS.inj t t']
section
variable {X:Cx} {pins:List (Addr×Obj)} {σ:St} {H:Hp} {s:Shared} {a:Addr} {xs ys:List V}
def SqL.of {K:Frg} (h:H a=some (.lst xs)):SqL K H a xs:=.inl (.inl h)
def SqT.of {K:Frg} (h:H a=some (.tup xs)):SqT K H a xs:=.inl (.inl h)
def Inv.list (I:Inv X pins σ H s) (h:SqL X.K H a xs):∃ its:List Value,zS xs its/\PlainL s.heap a its.toArray/\xs.length<=sizeLine:=by
 rcases h with h|⟨o,its,n,hk,hc,hd,hs,hz,r⟩
 ·obtain ⟨z,its,n,r,e⟩:=h.ok I.hok;exact ⟨its,r,⟨_,n,e,rfl,rfl,rfl⟩,z⟩
 ·refine ⟨its.toList,r,⟨o,n,I.kIn a o hk,hc,hd,by simpa using hs⟩,?_⟩;have e:=r.length;simp only [Array.length_toList] at e;omega
def Inv.tuple (I:Inv X pins σ H s) (h:SqT X.K H a xs):∃ its:List Value,zS xs its/\IsTup s.heap a its.toArray/\xs.length<=sizeLine:=by
 rcases h with h|⟨o,its,n,hk,hc,hs,hz,r⟩
 ·obtain ⟨z,its,r,p⟩:=h.ok I.hok;exact ⟨its,r,p,z⟩
 ·refine ⟨its.toList,r,⟨o,I.kIn a o hk,hc,n,by simpa using hs⟩,?_⟩;have e:=r.length;simp only [Array.length_toList] at e;omega
def Inv.list_inj (I:Inv X pins σ H s) (h:SqL X.K H a xs) (h':SqL X.K H a ys):xs=ys:=by
 obtain ⟨its,r,⟨o,n,e,_,_,d⟩,_⟩:=I.list h;obtain ⟨its',r',⟨o',n',e',_,_,d'⟩,_⟩:=I.list h';rw [e] at e';cases e';rw [d] at d';injection d' with d1 _;have:its=its':=by simpa using congrArg Array.toList d1
 subst this;exact r.inj r'
def Inv.tuple_inj (I:Inv X pins σ H s) (h:SqT X.K H a xs) (h':SqT X.K H a ys):xs=ys:=by
 obtain ⟨its,r,⟨o,e,_,n,d⟩,_⟩:=I.tuple h;obtain ⟨its',r',⟨o',e',_,n',d'⟩,_⟩:=I.tuple h';rw [e] at e';cases e';rw [d] at d';injection d' with d1 _;have:its=its':=by simpa using congrArg Array.toList d1
 subst this;exact r.inj r'
end
abbrev Cx.wish (X:Cx) (E:Value->Shared->Prop):Cx:={ X with xe:=E }
abbrev Cx.nox (X:Cx):Cx:=X.wish λ_ _=>False
def Cx.Ok.wish {X:Cx} (ok:X.Ok) (E:Value->Shared->Prop):(X.wish E).Ok:=
 ⟨ok.mod,ok.kind,ok.glob,ok.blt,ok.above,ok.inj,ok.has,ok.cab,ok.hd,ok.frames,ok.stk,ok.exf,ok.bs,ok.bsz,ok.noex,ok.exfs,ok.funs,ok.frf⟩
def Cx.Ok.unwish {X:Cx} {E:Value->Shared->Prop} (ok:(X.wish E).Ok):X.Ok:=
 ⟨ok.mod,ok.kind,ok.glob,ok.blt,ok.above,ok.inj,ok.has,ok.cab,ok.hd,ok.frames,ok.stk,ok.exf,ok.bs,ok.bsz,ok.noex,ok.exfs,ok.funs,ok.frf⟩
section
variable {X:Cx} {pins:List (Addr×Obj)} {σ:St} {H:Hp} {s:Shared} {E:Value->Shared->Prop}
def Inv.wish (I:Inv X pins σ H s) (E:Value->Shared->Prop):Inv (X.wish E) pins σ H s:=⟨I.ok.wish E,I.os,I.bare,I.base,I.loc,I.cell,I.free,I.freeC,I.pin,I.hok,I.len⟩
def Inv.unwish (I:Inv (X.wish E) pins σ H s):Inv X pins σ H s:=⟨I.ok.unwish,I.os,I.bare,I.base,I.loc,I.cell,I.free,I.freeC,I.pin,I.hok,I.len⟩
def SP.unwish {D:Ends} {f:Flow} {s':Shared} (h:SP (X.wish E) pins D f s'):SP X pins D f s':=by
 cases f with
 |next=>obtain ⟨σ',H',I,q⟩:=h;exact ⟨σ',H',I.unwish,q⟩
 |brk=>obtain ⟨σ',H',I,q⟩:=h;exact ⟨σ',H',I.unwish,q⟩
 |cont=>obtain ⟨σ',H',I,q⟩:=h;exact ⟨σ',H',I.unwish,q⟩
 |ret u=>obtain ⟨v,σ',H',I,r,q⟩:=h;exact ⟨v,σ',H',I.unwish,r,q⟩
def PSs.nox {st:List Stmt} {t:TS} (h:PSs X.nox st t):PSs X st t:=λpins s σ H D I hw=>
 wpAny_mono (h pins s σ H D (I.wish _) hw) (λ_ _ q=>q.unwish) λ_ _ z=>False.elim z
end
section
variable {X:Cx} {st:Stmt} {Z2:List Stmt} {t u:TS} {e:Expr} {te:TE} {pos:Pos}
def qnQ:TS:=λD σ H=>D.nx σ H
def qpd (t u:TS):TS:=λD σ H=>t { D with nx:=u D } σ H
def qfL:PSs X [] qnQ:=λ_ _ σ H _ I h=>wpAny_execs_nil ⟨σ,H,I,h⟩
def qbH (h1:PS X st t) (h2:PSs X Z2 u):PSs X (st::Z2) (qpd t u):=by
 intro pins s σ H D I h;refine wpAny_execs_cons (thn (h1 pins s σ H { D with nx:=u D } I h) λf s1 q=>?_);cases f with
 |next=>
  obtain ⟨σ',H',I',q⟩:=q;exact h2 pins s1 σ' H' D I' q
 |ret v=>exact q
 |brk=>exact q
 |cont=>exact q
def TC (h1:PS X st t):PSs X [st] t:=by
 intro pins s σ H D I h;refine wpAny_execs_cons (thn (h1 pins s σ H D I h) λf s1 q=>?_);cases f with
 |next=>exact wpAny_execs_nil q
 |ret v=>exact q
 |brk=>exact q
 |cont=>exact q
def Inv.quiet {pins:List (Addr×Obj)} {σ:St} {H:Hp} {s:Shared} (I:Inv X pins σ H s):interactive X.env=false:=by simp [interactive,I.ok.kind]
def qnC (te:TE):TS:=λD σ H=>te σ H λ_ H1=>D.nx σ H1
def qaC (he:PE X e te) (hs:swapsWith e none pos.line X.env=pure false:=by rfl):PS X (.Expr e pos) (qnC te):=by
 intro pins s σ H D I h;exact wpAny_Expr_any (thn (he pins s σ H _ I h) λv s1 ⟨x,H1,I1,r1,q1⟩=>⟨σ,H1,I1,q1⟩) I.quiet hs
def qo8 (te:TE):TS:=λD σ H=>te σ H D.rt
def qh0 (he:PE X e te):PS X (.Return (some e) pos) (qo8 te):=by
 intro pins s σ H D I h;exact wpAny_Return_some (thn (he pins s σ H _ I h) λv s1 ⟨x,H1,I1,r1,q1⟩=>⟨x,σ,H1,I1,r1,q1⟩)
def qpM (c:TT) (t u:TS):TS:=λD σ H=>c σ H λb H1=>if b=true then t D σ H1 else u D σ H1
def qlV {c:Expr} {a b:List Stmt} {tc:TT} (hc:PT X c tc) (ha:PSs X a t) (hb:PSs X b u):PS X (.If c a b pos) (qpM tc t u):=by
 intro pins s σ H D I h;refine wpAny_If (thn (hc pins s σ H _ I h) λd s1 ⟨H1,I1,q1⟩=>?_);cases d with
 |true=>exact ha pins s1 σ H1 D I1 q1
 |false=>exact hb pins s1 σ H1 D I1 q1
end
abbrev TG:=V->St->Hp->(St->Hp->Prop)->Prop
abbrev TGs:=List V->St->Hp->(St->Hp->Prop)->Prop
def PG (X:Cx) (target:Expr) (t:TG):Prop:=
 ∀ (pins:List (Addr×Obj)) (s:Shared) (σ:St) (H:Hp) (v:V) (u:Value) (Q:St->Hp->Prop),Inv X pins σ H s->ji v u->t v σ H Q ->
  wpAny (model X.prog X.w) X.A (assign target X.env u) (λ_ s'=>∃ σ' H',Inv X pins σ' H' s'/\Q σ' H') X.xe s
def PGs (X:Cx) (ts:List Expr) (t:TGs):Prop:=
 ∀ (pins:List (Addr×Obj)) (s:Shared) (σ:St) (H:Hp) (vs:List V) (us:List Value) (Q:St->Hp->Prop),Inv X pins σ H s->zS vs us->t vs σ H Q ->
  wpAny (model X.prog X.w) X.A (assignInOrder ((assignEach ts X.env).map (·.2)) us) (λ_ s'=>∃ σ' H',Inv X pins σ' H' s'/\Q σ' H') X.xe s
abbrev qma:=V->V->V->Hp->(Hp->Prop)->Prop
def qnw (X:Cx) (t:qma):Prop:=
 ∀ (pins:List (Addr×Obj)) (s:Shared) (σ:St) (H:Hp) (o i v:V) (ov iv u:Value) (Q:Hp->Prop),Inv X pins σ H s->ji o ov->ji i iv->ji v u->t o i v H Q ->
  wpAny (model X.prog X.w) X.A (setItem ov iv u) (λ_ s'=>∃ H',Inv X pins σ H' s'/\Q H') X.xe s
abbrev TIp:=V->V->Hp->VK->Prop
def PIp (X:Cx) (op:Operator) (t:TIp):Prop:=
 ∀ (pins:List (Addr×Obj)) (s:Shared) (σ:St) (H:Hp) (x y:V) (v u:Value) (Q:VK),Inv X pins σ H s->ji x v->ji y u->t x y H Q ->
  wpAny (model X.prog X.w) X.A (inplaceOp op v u) (EP X pins σ Q) X.xe s
section
variable {X:Cx} {pos:Pos}
def qgd (i:Nat):TG:=λv σ H Q=>Q (σ.set i (some v)) H
def qe5 {i:Nat} {x:Str} (hN:X.N.Nodup) (hi:X.N[i]?=some x) (hx:Loc X.env.scope x) (hf:X.fn x=true\/X.env.scope.names.lookup x=some .local:=by first|exact .inl rfl|exact .inr rfl|assumption):PG X (.Name x pos) (qgd i):=by
 intro pins s σ H v u Q I r h;exact wpAny_assign_Name (YJ I hN hi hx r (λs' I'=>⟨_,H,I',h⟩) hf)
def qcj:TGs:=λvs σ H Q=>vs=[]/\Q σ H
def ZP (t:TG) (u:TGs):TGs:=λvs σ H Q=>∃ v r,vs=v::r/\t v σ H λσ' H'=>u r σ' H' Q
def qgr:PGs X [] qcj:=by
 intro pins s σ H vs us Q I r h;obtain ⟨e,h⟩:=h;subst e;cases r;exact assignInOrder_nil ⟨σ,H,I,h⟩
def qb3 {e:Expr} {es:List Expr} {t:TG} {u:TGs} (h1:PG X e t) (h2:PGs X es u)
  (hs:(assignEach (e::es) X.env).map (·.2)=assign e X.env::(assignEach es X.env).map (·.2):=by rfl):PGs X (e::es) (ZP t u):=by
 intro pins s σ H vs us Q I r h;obtain ⟨v,vr,e1,h⟩:=h;subst e1;cases r with
 |cons r rr=>
  rw [hs];refine assignInOrder_cons (thn (h1 pins s σ H _ _ _ I r h) λ_ s1 ⟨σ1,H1,I1,q1⟩=>?_);exact h2 pins s1 σ1 H1 _ _ Q I1 rr q1
def qci (K:Frg) (n:Nat) (t:TGs):TG:=λv σ H Q=>∃ a xs,v=.ref a/\SqT K H a xs/\xs.length=n/\t xs σ H Q
def qiZ {es:List Expr} {k:Nat} {t:TGs} {n:Nat} (hc:X.calm=true) (h:PGs X es t)
  (hn:(assignEach es X.env).length=n:=by rfl) (hst:(assignEach es X.env).findIdx? (·.1)=none:=by rfl):PG X (.Tuple es k pos) (qci X.K n t):=by
 intro pins s σ H v u Q I r hw;obtain ⟨a,xs,e1,hq,hl,hw⟩:=hw;subst e1;cases r;obtain ⟨its,rv,ht,hz⟩:=I.tuple hq;refine assign_Tuple_tuple (I.ok.hd hc) ht (by simp [hn,← hl,rv.length]) hst λh' hx=>?_;have I1:Inv X pins σ H { s with heap:=h' }:=I.kept (t':=s.toks) λb o e=>hx b o (Nat.ne_of_lt (Heap.lt_size e)) e;exact h pins _ σ H xs _ Q I1 (by simpa using rv) hw
def qpE (to ti:TE) (t:qma):TG:=λv σ H Q=>to σ H λo H1=>ti σ H1 λi H2=>t o i v H2 λH3=>Q σ H3
def qcu {o i:Expr} {to ti:TE} {t:qma} (ho:PE X o to) (hi:PE X i ti) (hs:qnw X t)
  (ha:∀ v,assign (.Subscript o i pos) X.env v=(do
   let ov←holding [v] (eval o X.env)
   let iv←holding [v,ov] (eval i X.env)
   standAt pos
   holding [v,ov,iv] (setItem ov iv v)
   release [v,ov,iv] []):=by intro _;rfl):PG X (.Subscript o i pos) (qpE to ti t):=by
 intro pins s σ H v u Q I r h;rw [ha];refine wpAny_bind (wpAny_holding (thn (ho pins s σ H _ I h) λov s1 ⟨x,H1,I1,r1,q1⟩=>?_));refine wpAny_bind (wpAny_holding (thn (hi pins s1 σ H1 _ I1 q1) λiv s2 ⟨y,H2,I2,r2,q2⟩=>?_));refine wpAny_bind (wpAny_standAt (wpAny_bind (wpAny_holding (thn (hs pins s2 σ H2 x y v ov iv u _ I2 r1 r2 r q2) λ_ s3 ⟨H3,I3,q3⟩=>?_))));exact wpAny_release ⟨σ,H3,I3,q3⟩
def qnU (te:TE) (g:TG):TS:=λD σ H=>te σ H λx H1=>g x σ H1 D.nx
def qj1 {tg e:Expr} {te:TE} {g:TG} (he:PE X e te) (hg:PG X tg g) (hs:swapsWithSole [tg] e pos.line X.env=pure false:=by rfl) (hw:swappedStores [tg] e X.env=pure none:=by rfl)
  (h1:(assignEach [tg] X.env).map (·.2)=[assign tg X.env]:=by rfl):PS X (.Assign [tg] e pos) (qnU te g):=by
 intro pins s σ H D I h;refine wpAny_Assign_stores (thn (he pins s σ H _ I h) λv s1 ⟨x,H1,I1,r1,q1⟩=>?_) hs hw;rw [h1];exact thn (hg pins s1 σ H1 x v _ I1 r1 q1) λ_ s2 q=>q
def qhk {i:Nat} {x:Str} {e:Expr} {te:TE} {pos':Pos} (hN:X.N.Nodup) (hi:X.N[i]?=some x) (hx:Loc X.env.scope x) (he:PE X e te) (hs:swapsWith e (some (.Name x pos')) pos.line X.env=pure false:=by rfl) (hf:X.fn x=true\/X.env.scope.names.lookup x=some .local:=by first|exact .inl rfl|exact .inr rfl|assumption) :
  PS X (.Assign [.Name x pos'] e pos) (qnU te (qgd i)):=by
 intro pins s σ H D I h;refine wpAny_Assign_Name (thn (he pins s σ H _ I h) λv s1 ⟨y,H1,I1,r1,q1⟩=>?_) hs;exact YJ I1 hN hi hx r1 (λs2 I2=>⟨_,H1,I2,q1⟩) hf
def qpw (i j:Nat) (ta:TA):TS:=λD σ H=>ta σ H λvs H1=>∃ v w,vs=[v,w]/\D.nx ((σ.set i (some v)).set j (some w)) H1
def qjL {i j:Nat} {x y:Str} {a b:Expr} {ta:TA} {px py pt:Pos} {kt k2 pt2} (hc:X.calm=true) (hN:X.N.Nodup) (hi:X.N[i]?=some x) (hj:X.N[j]?=some y) (hij:i≠j)
  (hx:X.env.scope.names.lookup x=some .local) (hy:X.env.scope.names.lookup y=some .local) (ha:PA X [a,b] ta)
  (hw:swappedStores [.Tuple [.Name x px,.Name y py] kt pt] (.Tuple [a,b] k2 pt2) X.env=pure (some [x,y]))
  (hs:swapsWithSole [.Tuple [.Name x px,.Name y py] kt pt] (.Tuple [a,b] k2 pt2) pos.line X.env=pure false:=by rfl) :
  PS X (.Assign [.Tuple [.Name x px,.Name y py] kt pt] (.Tuple [a,b] k2 pt2) pos) (qpw i j ta):=by
 intro pins s σ H D I h;rw [exec_Assign_arm];refine wpAny_bind (wpAny_standAt ?_);rw [hs];refine wpAny_bind (wpAny_pure ?_);rw [if_neg (by decide)];refine wpAny_bind (Tuple_ (thn (ha _ pins s σ H _ I h) λus s1 ⟨vs,H1,I1,r1,q1⟩=>?_));obtain ⟨v,w,e1,q1⟩:=q1;subst e1;obtain ⟨u1,u2,rfl,rv,rw'⟩:∃ u1 u2,us=[u1,u2]/\ji v u1/\ji w u2:=by
  cases r1 with
  |cons p q=>
   cases q with
   |cons p' q'=>
    cases q';exact ⟨_,_,rfl,p,p'⟩
 refine wpAny_newObj_type ?_ (by show 2<=sizeLine;decide);have I2:Inv X pins σ H1 { s1 with heap:=s1.heap.push { cls:=.type "tuple",data:=.seq [u1,u2].toArray } }:=I1.kept (t':=s1.toks) λb o e=>Heap.get?_push_of_some _ e;rw [hw];refine wpAny_bind (wpAny_pure ?_);show wpAny (model X.prog X.w) X.A (do rule "assign.swapped-stores";let items←unpackItems (.ref s1.heap.objs.size) 2 none;assignInOrder [λv=>bindName X.env y v,λv=>bindName X.env x v] items.reverse;pure Flow.next) _ _ _;refine wpAny_bind (wpAny_rule (wpAny_bind (unpackItems_tuple (items:=#[u1,u2]) (I.ok.hd hc) (IsTup.new s1.heap _) λh' hx'=>?_)));have I3:=I2.kept (h':=h') (t':=s1.toks) λb o e=>hx' b o (Nat.ne_of_lt (Heap.lt_size e)) e;show wpAny _ _ (assignInOrder [λv=>bindName X.env y v,λv=>bindName X.env x v] [u2,u1] >>= λ_=>pure Flow.next) _ _ _;refine wpAny_bind (assignInOrder_cons (wpAny_bindName (YJ I3 hN hj (.inl hy) rw' (λs2 I4=>?_) (.inr hy))));refine assignInOrder_cons (wpAny_bindName (YJ I4 hN hi (.inl hx) rv (λs3 I5=>assignInOrder_nil (wpAny_pure ?_)) (.inr hx)));rw [List.set_comm _ _ (Ne.symm hij)] at I5;exact ⟨_,H1,I5,q1⟩
def qpg (i:Nat) (te:TE) (ti:TIp):TS:=λD σ H=>∃ x,σ[i]?=some (some x)/\te σ H λy H1=>ti x y H1 λz H2=>D.nx (σ.set i (some z)) H2
def qkI {i:Nat} {x:Str} {e:Expr} {te:TE} {op:Operator} {ti:TIp} {pos':Pos} (hN:X.N.Nodup) (hi:X.N[i]?=some x) (hx:Loc X.env.scope x) (he:PE X e te) (ho:PIp X op ti) (hf:X.fn x=true\/X.env.scope.names.lookup x=some .local:=by first|exact .inl rfl|exact .inr rfl|assumption) :
  PS X (.AugAssign (.Name x pos') op e pos) (qpg i te ti):=by
 intro pins s σ H D I h;obtain ⟨v,e1,h⟩:=h;obtain ⟨m,hn,hl⟩:=I.loc;have vis:Vis X.env.scope x:=by rcases hx with k|k;exact .inl k;exact .inr (.inl k)
 obtain ⟨u,r,l⟩:=hl i x v hi e1 vis;refine wpAny_AugAssign_Name ?_;have go:wpAny (model X.prog X.w) X.A (eval e X.env) (λw s₂=>wpAny (model X.prog X.w) X.A (inplaceOp op u w) (λr s₃=>wpAny (model X.prog X.w) X.A (storeName X.env x r) (λ_=>SP X pins D .next) X.xe s₃) X.xe s₂) X.xe s:=by
  refine thn (he pins s σ H _ I h) λw s1 ⟨y,H1,I1,r1,q1⟩=>?_;refine thn (ho pins s1 σ H1 v y u w _ I1 r r1 q1) λz s2 ⟨zv,H2,I2,r2,q2⟩=>?_;exact YJ I2 hN hi hx r2 (λs3 I3=>⟨_,H2,I3,q2⟩) hf
 rcases l with ⟨hk,hm⟩|⟨hk,c,hc,hcell⟩
 ·exact wpAny_loadName_local I.ok.kind hk hn hm go
 ·rcases hk with hk|hk
  ·exact wpAny_loadName_cell I.ok.kind hk hc hcell go
  ·rcases hx with k|k
   ·have:X.env.scope.names.lookup x=some .free:=hk;rw [k] at this;cases this
   ·have:X.env.scope.names.lookup x=some .free:=hk;rw [k] at this;cases this
def ipI (f:Int->Int->Int):TIp:=λx y H Q=>∃ i j,x=.int i/\y=.int j/\Q (.int (f i j)) H
def qhX:PIp X .Add (ipI λi j=>i+j):=by
 intro pins s σ H x y v u Q I r1 r2 h;obtain ⟨i,j,e1,e2,q⟩:=h;subst e1;subst e2;obtain ⟨t,rfl⟩:=r1;obtain ⟨t',rfl⟩:=r2;exact iadd_int ⟨.int _,H,I.tok _,⟨_,rfl⟩,q⟩
end
section
variable {X:Cx} {pos:Pos}
def qlx (c:TT) (tb:TS):TS:=λD σ H=>∃ W:Nat->St->Hp->Prop,(∃ m,W m σ H)/\∀ m σ H,W m σ H ->
 c σ H λb H1=>if b=true then ∃ N:St->Hp->Prop,(∀ σ' H',N σ' H'->∃ m',m'<m/\W m' σ' H')/\tb { D with nx:=N,ct:=N,bk:=D.nx } σ H1 else D.nx σ H1
def qbD {c:Expr} {body:List Stmt} {tc:TT} {tb:TS} (hp:PassesOwn (model X.prog X.w) X.A X.env X.xe) (hc:PT X c tc) (hb:PSs X body tb):PS X (.While c body [] pos) (qlx tc tb):=by
 intro pins s σ H D I h;obtain ⟨W,⟨m0,w0⟩,turn⟩:=h;refine wpAny_While (codeAny_whileLoop (λn s'=>∃ σ' H',Inv X pins σ' H' s'/\W n σ' H') ?_ m0 ⟨σ,H,I,w0⟩);rintro n s1 ⟨σ1,H1,I1,w1⟩;refine wpAny_passesOwn hp (thn (hc pins s1 σ1 H1 _ I1 (turn n σ1 H1 w1)) λb s2 ⟨H2,I2,q2⟩=>?_);cases b with
 |true=>
  obtain ⟨N,hN,q2⟩:=q2;rw [if_pos rfl];refine wpAny_passesOwn hp (thn (hb pins s2 σ1 H2 _ I2 q2) λf s3 q3=>?_);cases f with
  |next=>
   obtain ⟨σ3,H3,I3,n3⟩:=q3;obtain ⟨m',hm,w3⟩:=hN σ3 H3 n3;exact ⟨m',hm,σ3,H3,I3,w3⟩
  |cont=>
   obtain ⟨σ3,H3,I3,n3⟩:=q3;obtain ⟨m',hm,w3⟩:=hN σ3 H3 n3;exact ⟨m',hm,σ3,H3,I3,w3⟩
  |brk=>exact q3
  |ret v=>exact q3
 |false=>
  rw [if_neg Bool.false_ne_true];exact wpAny_execs_nil ⟨σ1,H2,I2,q2⟩
end
structure It where
 go:Nat->Hp->Prop
 yld:Nat->Hp->V->Hp->Prop
 stop:Nat->Hp->Prop
def RO (X:Cx) (pins:List (Addr×Obj)) (H:Hp) (b:Addr):Prop:=
 H b=none/\b≠X.env.locals/\b∉X.fs/\(b∈X.ex\/X.s₀.heap.objs.size<=b)/\(∀ x c,X.env.cells.lookup x=some c->c≠b)/\∀ p∈X.pn++pins,p.1≠b
def Inv.fpOk {X:Cx} {pins:List (Addr×Obj)} {σ:St} {H H':Hp} {s:Shared} {b:Addr} (I:Inv X pins σ H s) (hb:s.heap.objs.size<=b) (hn:H' b=none):RO X pins H' b:=by
 refine ⟨hn,Nat.ne_of_gt (Nat.lt_of_lt_of_le I.lt hb),I.nofs hb,.inr (Nat.le_trans I.sz hb),λx c e z=>?_,λp hp z=>?_⟩
 ·obtain ⟨v,q⟩:=I.cell x c e;exact absurd (Nat.lt_of_lt_of_le q.lt (by rw [z];exact hb)) (Nat.lt_irrefl _)
 ·exact absurd (Nat.lt_of_lt_of_le (Heap.lt_size (I.pin p hp).1) (by rw [z];exact hb)) (Nat.lt_irrefl _)
structure Turn (P:Program) (w:World) (K:Frg) (tg:Expr) (J:It) (fp:List Addr) (it:Addr) (tn:Nat->Heap->Prop):Prop where
 mem:it∈fp
 obj:∀ i h,tn i h->∀ b∈fp,∃ o,h.get? b=some o/\∀ v,o.data≠.cell v
 keep:∀ i h h',tn i h->(∀ b∈fp,∀ o,h.get? b=some o->h'.get? b=some o)->tn i h'
 item:∀ (X:Cx),X.prog=P->X.w=w->X.K=K->X.calm=true->∀ (i:Nat) (pins:List (Addr×Obj)) (s:Shared) (σ:St) (H:Hp) (E:Value->Shared->Prop),Inv X pins σ H s->(∀ b∈fp,RO X pins H b)->tn i s.heap->J.go i H ->
  wpAny (model P w) X.A (pyNext (.ref it)) (λr s1=>∃ u,r=some u /\
   wpAny (model P w) X.A (letOwnedTupleGo tg (.ref it) u) (λ_ s2=>∃ x H',Inv X pins σ H' s2/\ji x u/\J.yld i H x H'/\tn (i+1) s2.heap/\∀ b∈fp,H' b=none) E s1) E s
 done:∀ (X:Cx),X.prog=P->X.w=w->X.K=K->X.calm=true->∀ (i:Nat) (pins:List (Addr×Obj)) (s:Shared) (σ:St) (H:Hp) (E:Value->Shared->Prop),Inv X pins σ H s->(∀ b∈fp,RO X pins H b)->tn i s.heap->J.stop i H ->
  wpAny (model P w) X.A (pyNext (.ref it)) (λr s1=>r=none/\Inv X pins σ H s1) E s
 self:∀ (A:Around) (i:Nat) (s:Shared) (Q:Value->Shared->Prop) (E:Value->Shared->Prop),tn i s.heap->Q (.ref it) s->wpAny (model P w) A (pyIter (.ref it)) Q E s
abbrev TI:=St->Hp->(It->Hp->Prop)->Prop
def PIE (X:Cx) (pins:List (Addr×Obj)) (σ:St) (tg:Expr) (R:It->Hp->Prop) (itv:Value) (s2:Shared):Prop:=
 ∃ (it:Addr) (fp:List Addr) (tn:Nat->Heap->Prop) (J:It) (H':Hp),itv=.ref it/\Inv X pins σ H' s2/\Turn X.prog X.w X.K tg J fp it tn/\tn 0 s2.heap/\(∀ b∈fp,RO X pins H' b)/\R J H'
def PI (X:Cx) (tg iter:Expr) (wi:TI):Prop:=
 ∀ (pins:List (Addr×Obj)) (s:Shared) (σ:St) (H:Hp) (R:It->Hp->Prop),Inv X pins σ H s->wi σ H R ->
  wpAny (model X.prog X.w) X.A (eval iter X.env) (λv s1=>wpAny (model X.prog X.w) X.A (pyIter v) (PIE X pins σ tg R) X.xe s1) X.xe s
def qfv {M:Model} {A:Around} {E:Value->Shared->Prop} {s:Shared} {tg:Expr} {it:Addr} {u:Value} {o:Obj} {n:String} {vs:Array Value} {Q:Unit->Shared->Prop} (ho:s.heap.get? it=some o) (hc:o.cls=.type n) (hd:o.data=.fields vs)
    (hn:["enumerate","zip","dict_itemiterator","dict_reverseitemiterator","odict_iterator","itertools.zip_longest","itertools.pairwise"].contains n=false) (hQ:Q () s):wpAny M A (letOwnedTupleGo tg (.ref it) u) Q E s:=by
  unfold letOwnedTupleGo;cases tg<;>first
    |exact wpAny_pure hQ
    | (cases u<;>first
        |exact wpAny_pure hQ
        | (refine wpAny_bind (wpAny_load ho ?_)
           rw [hc,hd];show wpAny M A (if (["enumerate","zip","dict_itemiterator","dict_reverseitemiterator","odict_iterator","itertools.zip_longest","itertools.pairwise"].contains n&&vs[0]?==some (rawInt _))=true then _ else _) Q E s;rw [if_neg (by intro h;rw [hn,Bool.false_and] at h;cases h)];exact wpAny_pure hQ))
def Itl (K:Frg) (a:Addr):It:=
 ⟨λi H=>∃ xs x,SqL K H a xs/\xs[i]?=some x,λi H x H'=>H'=H/\∀ xs,SqL K H a xs->xs[i]?=some x,λi H=>∃ xs,SqL K H a xs/\xs.length<=i⟩
def Itt (K:Frg) (a:Addr):It:=
 ⟨λi H=>∃ xs x,SqT K H a xs/\xs[i]?=some x,λi H x H'=>H'=H/\∀ xs,SqT K H a xs->xs[i]?=some x,λi H=>∃ xs,SqT K H a xs/\xs.length<=i⟩
def Itr (lo:Int) (n:Nat):It:=⟨λi _=>i<n,λi H x H'=>H'=H/\x=.int (lo+i),λi _=>n<=i⟩
def M9 {P:Program} {w:World} {K:Frg} {tg:Expr} (a it:Addr):Turn P w K tg (Itl K a) [it] it (λi h=>h.IsListIter it a i) where
 mem:=by simp
 obj:=λi h st b hb=>by
  have e:b=it:=by simpa using hb
  subst e;obtain ⟨o,e,c,d⟩:=st;exact ⟨o,e,λv z=>by rw [d] at z;cases z⟩
 keep:=λi h h' st k=>st.at λo e=>k it (by simp) o e
 item:=by
  intro X hP hw hK hc i pins s σ H E I hf st hg;subst hP hw hK;obtain ⟨xs,x,hq,hx⟩:=hg;obtain ⟨its,rv,p,hz⟩:=I.list hq;obtain ⟨u,hu,ru⟩:=rv.get hx;obtain ⟨f0,f1,f2,f3,f4,f5⟩:=hf it (by simp);refine wpAny_pyNext_list_item st p.isList (x:=u) (by simpa using hu) λh' st' sb=>?_;have I1:Inv X pins σ H { s with heap:=h' }:=I.turned (t':=s.toks) (λb o hb e=>(sb.2 b hb).trans e) f0 f1 f3 f4 f5;obtain ⟨o,e,c,d⟩:=id st';exact ⟨u,rfl,qfv (s:={ s with heap:=h' }) e c d (by decide) ⟨x,H,I1,ru,⟨rfl,λys hy=>by rw [I.list_inj hy hq];exact hx⟩,st',λb hb=>(hf b hb).1⟩⟩
 done:=by
  intro X hP hw hK hc i pins s σ H E I hf st hg;subst hP hw hK;obtain ⟨xs,hq,hx⟩:=hg;obtain ⟨its,rv,p,hz⟩:=I.list hq;obtain ⟨f0,f1,f2,f3,f4,f5⟩:=hf it (by simp);have hl:=rv.length;exact wpAny_pyNext_list_end (I.ok.hd hc) st p.isList (by simp;omega) λh' eb=>⟨rfl,I.turned (t':=s.toks) (λb o hb e=>eb b o hb e) f0 f1 f3 f4 f5⟩
 self:=λ_ _ _ _ _ st h=>wpAny_pyIter_listiter st h
def LR {P:Program} {w:World} {K:Frg} {tg:Expr} (a it:Addr):Turn P w K tg (Itt K a) [it] it (λi h=>h.IsTupleIter it a i) where
 mem:=by simp
 obj:=λi h st b hb=>by
  have e:b=it:=by simpa using hb
  subst e;obtain ⟨o,e,c,d⟩:=st;exact ⟨o,e,λv z=>by rw [d] at z;cases z⟩
 keep:=λi h h' st k=>st.at λo e=>k it (by simp) o e
 item:=by
  intro X hP hw hK hc i pins s σ H E I hf st hg;subst hP hw hK;obtain ⟨xs,x,hq,hx⟩:=hg;obtain ⟨its,rv,p,hz⟩:=I.tuple hq;obtain ⟨u,hu,ru⟩:=rv.get hx;obtain ⟨f0,f1,f2,f3,f4,f5⟩:=hf it (by simp);refine wpAny_pyNext_tuple_item st (show s.heap.IsTuple a its.toArray from p) (x:=u) (by simpa using hu) λh' st' sb=>?_;have I1:Inv X pins σ H { s with heap:=h' }:=I.turned (t':=s.toks) (λb o hb e=>(sb.2 b hb).trans e) f0 f1 f3 f4 f5;obtain ⟨o,e,c,d⟩:=id st';exact ⟨u,rfl,qfv (s:={ s with heap:=h' }) e c d (by decide) ⟨x,H,I1,ru,⟨rfl,λys hy=>by rw [I.tuple_inj hy hq];exact hx⟩,st',λb hb=>(hf b hb).1⟩⟩
 done:=by
  intro X hP hw hK hc i pins s σ H E I hf st hg;subst hP hw hK;obtain ⟨xs,hq,hx⟩:=hg;obtain ⟨its,rv,p,hz⟩:=I.tuple hq;obtain ⟨f0,f1,f2,f3,f4,f5⟩:=hf it (by simp);have hl:=rv.length;exact wpAny_pyNext_tuple_end (I.ok.hd hc) st (show s.heap.IsTuple a its.toArray from p) (by simp;omega) λh' eb=>⟨rfl,I.turned (t':=s.toks) (λb o hb e=>eb b o hb e) f0 f1 f3 f4 f5⟩
 self:=λ_ _ _ _ _ st h=>wpAny_pyIter_tupleiter st h
def MG {P:Program} {w:World} {K:Frg} {tg:Expr} (it:Addr) (lo:Int) (n:Nat):Turn P w K tg (Itr lo n) [it] it (λi h=>IsRangeIter h it (lo+(i:Nat)*1) ((n:Int)-(i:Nat)) 1) where
 mem:=by simp
 obj:=λi h st b hb=>by
  have e:b=it:=by simpa using hb
  subst e;exact ⟨_,st,λv z=>by
   have z':Data.fields _=Data.cell v:=z;cases z'⟩
 keep:=λi h h' st k=>k it (by simp) _ st
 item:=by
  intro X hP hw hK hc i pins s σ H E I hf st hg;subst hP hw hK;obtain ⟨f0,f1,f2,f3,f4,f5⟩:=hf it (by simp);have W:=Walks.range (prog:=X.prog) (w:=X.w) (I.ok.hd hc) it lo 1 n;refine W.item i s _ _ hg st λv h' tk hv st' kk=>?_;obtain ⟨t,rfl⟩:=hv;have I1:Inv X pins σ H { s with heap:=h',toks:=tk }:=I.turned (λb o hb e=>kk b o (by simpa using hb) e) f0 f1 f3 f4 f5;refine ⟨_,rfl,qfv (s:={ s with heap:=h',toks:=tk }) (n:="range_iterator") st' rfl rfl (by decide) ⟨.int (lo+i),H,I1,⟨t,?_⟩,⟨rfl,rfl⟩,st',λb hb=>(hf b hb).1⟩⟩;rw [Int.mul_one]
 done:=by
  intro X hP hw hK hc i pins s σ H E I hf st hg;subst hP hw hK;obtain ⟨f0,f1,f2,f3,f4,f5⟩:=hf it (by simp);exact wpAny_pyNext_range_end (I.ok.hd hc) st (by have:n<=i:=hg;omega) λh' eb=>⟨rfl,I.turned (t':=s.toks) (λb o hb e=>eb b o hb e) f0 f1 f3 f4 f5⟩
 self:=λ_ _ _ _ _ st h=>wpAny_pyIter_rangeiter st h
section
variable {X:Cx} {tg:Expr}
def qbO {pins:List (Addr×Obj)} {σ:St} {H:Hp} {s:Shared} {R:It->Hp->Prop} {E:Value->Shared->Prop} {lo hi:Int} {t u v:Tok} {tk:Nat} (I:Inv X pins σ H s) (h1:-(2 ^ 62)<=lo) (h2:lo<2 ^ 62) (h3:-(2 ^ 62)<=hi) (h4:hi<2 ^ 62)
  (q:R (Itr lo (hi-lo).toNat) H):wpAny (model X.prog X.w) X.A (pyIter (.ref s.heap.objs.size)) (PIE X pins σ tg R) E { s with heap:=s.heap.push { cls:=.type "range",data:=.fields #[.int lo t,.int hi u,.int 1 v] },toks:=tk }:=by
 refine wpAny_pyIter_range (IsRange.new ..) (small_one h1 h2 h3 h4) ?_;have I1:Inv X pins σ H { s with heap:=s.heap.push { cls:=.type "range",data:=.fields #[.int lo t,.int hi u,.int 1 v] },toks:=tk }:=I.kept λb o e=>Heap.get?_push_of_some _ e;refine ⟨(s.heap.push { cls:=.type "range",data:=.fields #[.int lo t,.int hi u,.int 1 v] }).objs.size,[(s.heap.push { cls:=.type "range",data:=.fields #[.int lo t,.int hi u,.int 1 v] }).objs.size],_,_,H,rfl,
  I1.kept (t':=tk) λb o e=>Heap.get?_push_of_some _ e,MG _ lo (hi-lo).toNat,?_,λb hb=>?_,q⟩
 ·have e1:lo+((0:Nat):Int)*1=lo:=by simp
  have e2:(((hi-lo).toNat:Nat):Int)-((0:Nat):Int)=Builtin.Range.rangeSize lo hi 1:=by rw [rangeSize_one];split<;>omega
  show IsRangeIter _ _ (lo+((0:Nat):Int)*1) ((((hi-lo).toNat:Nat):Int)-((0:Nat):Int)) 1;rw [e1,e2];exact Heap.get?_push_size _ rfl
 ·have e:b=(s.heap.push { cls:=.type "range",data:=.fields #[.int lo t,.int hi u,.int 1 v] }).objs.size:=by simpa using hb
  subst e;exact I1.fpOk (Nat.le_refl _) (I1.hok.fresh (Nat.le_refl _))
def qor (ta:TA):TI:=λσ H R=>ta σ H λvs H1=>∃ j:Int,vs=[.int j]/\-(2 ^ 62)<=j/\j<2 ^ 62/\R (Itr 0 j.toNat) H1
def qaZ {a:Expr} {ta:TA} {p pos:Pos} (hg:Gl X "range") (hm:X.mg "range" = none) (ha:PA X [a] ta) (hs:starEach [a] X.env=[(false,eval a X.env)]:=by rfl):PI X tg (.Call (.Name "range" p) [a] [] pos) (qor ta):=by
 intro pins s σ H R I h;refine Call_ (XO I hg hm boot_range (PyProof.Rows.callWith_type1 (thn (ha pos pins s σ H _ I h) λus s1 ⟨vs,H1,I1,r1,q1⟩=>?_) hs rfl));obtain ⟨j,e,q1,q2,q⟩:=q1;subst e;cases r1 with
 |cons r rr=>
  cases rr;obtain ⟨t,rfl⟩:=r;exact call_range_1 (qbO I1 (by omega) (by omega) q1 q2 (by simpa using q))
def qpQ (wi:TI) (g:TG) (tb:TS):TS:=λD σ H=>wi σ H λJ H1=>∃ W:Nat->Nat->St->Hp->Prop,(∃ m,W 0 m σ H1)/\∀ i m σ H,W i m σ H ->
 (J.stop i H/\D.nx σ H)\/(J.go i H/\∃ N:St->Hp->Prop,(∀ σ' H',N σ' H'->∃ m',m'<m/\W (i+1) m' σ' H')/\∀ x H',J.yld i H x H'->g x σ H' λσ2 H2=>tb { D with nx:=N,ct:=N,bk:=D.nx } σ2 H2)
def U8 (fp:List Addr) (h:Heap):List (Addr×Obj):=fp.filterMap λb=>(h.get? b).map λo=>(b,o)
def zD {fp:List Addr} {h:Heap} {b:Addr} {o:Obj} (hb:b∈fp) (e:h.get? b=some o):(b,o)∈U8 fp h:=List.mem_filterMap.mpr ⟨b,hb,by rw [e];rfl⟩
def qao {fp:List Addr} {h:Heap} {p:Addr×Obj} (hp:p∈U8 fp h):p.1∈fp/\h.get? p.1=some p.2:=by
 obtain ⟨b,hb,e⟩:=List.mem_filterMap.mp hp;cases q:h.get? b with
 |none=>rw [q] at e;cases e
 |some o=>
  rw [q] at e;have e':(b,o)=p:=Option.some.inj e;subst e';exact ⟨hb,q⟩
def Inv.pinned {pins:List (Addr×Obj)} {σ:St} {H:Hp} {s:Shared} {fp:List Addr} (I:Inv X pins σ H s) (hf:∀ b∈fp,RO X pins H b) (ho:∀ b∈fp,∃ o,s.heap.get? b=some o/\∀ v,o.data≠.cell v):Inv X (pins++U8 fp s.heap) σ H s:=
 I.pins_of λp hp=>(List.mem_append.mp hp).elim (λz=>I.pin p (mem_append_right _ z)) λz=>by
  obtain ⟨hb,e⟩:=qao z;obtain ⟨f0,f1,f2,_⟩:=hf p.1 hb;obtain ⟨o,e',d⟩:=ho p.1 hb;rw [e] at e';cases e';exact ⟨e,f0,f1,f2,d⟩
def Inv.unpinned {pins pl:List (Addr×Obj)} {σ:St} {H:Hp} {s:Shared} (I:Inv X (pins++pl) σ H s):Inv X pins σ H s:=I.pins_of λp hp=>I.pin p (mem_append_right _ (List.mem_append_left _ hp))
def qk9 {iter:Expr} {body:List Stmt} {wi:TI} {g:TG} {tb:TS} {pos:Pos} (hp:PassesOwn (model X.prog X.w) X.A X.env X.xe) (hc:X.calm=true) (hi:PI X tg iter wi) (hg:PG X tg g) (hb:PSs X body tb)
  (hs:∀ x,foldedSetIterable iter X.env x=pure x:=by intro _;rfl):PS X (.For tg iter body [] pos) (qpQ wi g tb):=by
 intro pins s σ H D I h;refine wpAny_For (thn (hi pins s σ H _ I h) λv s1 h1=>thn h1 λitv s2 h2=>?_) hs;obtain ⟨it,fp,tn,J,H2,e,I2,T,st2,f2,W,⟨m0,w0⟩,turn⟩:=h2;subst e
 -- what stays true of the iterator's objects through the loop
 have stat:∀ {H':Hp},(∀ b∈fp,H' b=none)->∀ b∈fp,RO X pins H' b:=λhn b hb=>⟨hn b hb,(f2 b hb).2⟩
 refine codeAny_forLoop_any (λn s'=>∃ i σ' H',Inv X pins σ' H' s'/\tn i s'.heap/\(∀ b∈fp,H' b=none)/\W i n σ' H') ?_ m0 ⟨0,σ,H2,I2,st2,λb hb=>(f2 b hb).1,w0⟩;rintro n s3 ⟨i,σ3,H3,I3,st3,fr3,w3⟩;rcases turn i n σ3 H3 w3 with ⟨stop,qn⟩|⟨go,N,hN,step⟩
 ·refine wpAny_passesOwn hp (thn (T.done X rfl rfl rfl hc i pins s3 σ3 H3 X.xe I3 (stat fr3) st3 stop) λr s4 ⟨hr,I4⟩=>?_);subst hr;exact wpAny_execs_nil ⟨σ3,H3,I4,qn⟩
 ·refine wpAny_passesOwn hp (thn (T.item X rfl rfl rfl hc i pins s3 σ3 H3 X.xe I3 (stat fr3) st3 go) λr s4 ⟨u,hr,h4⟩=>?_);subst hr;refine wpAny_passesOwn hp (thn h4 λ_ s5 ⟨x,H5,I5,r5,y5,st5,fr5⟩=>?_);have I5':=I5.pinned (stat fr5) (T.obj _ _ st5);refine wpAny_passesOwn hp (thn (hg _ s5 σ3 H5 x u _ I5' r5 (step x H5 y5)) λ_ s6 ⟨σ6,H6,I6,q6⟩=>?_);refine wpAny_passesOwn hp (thn (hb _ s6 σ6 H6 _ I6 q6) λf s7 q7=>?_);have again:∀ {σ7:St} {H7:Hp},Inv X (pins++U8 fp s5.heap) σ7 H7 s7->N σ7 H7->∃ m,m<n/\∃ i σ' H',Inv X pins σ' H' s7/\tn i s7.heap/\(∀ b∈fp,H' b=none)/\W i m σ' H':=λ{σ7 H7} I7 n7=>by
   obtain ⟨m',hm,w7⟩:=hN σ7 H7 n7;refine ⟨m',hm,i+1,σ7,H7,I7.unpinned,T.keep _ _ _ st5 λb hb o e=>(I7.pin (b,o) (mem_append_right _ (mem_append_right _ (zD hb e)))).1,λb hb=>?_,w7⟩;obtain ⟨o,e,d⟩:=T.obj _ _ st5 b hb;exact (I7.pin (b,o) (mem_append_right _ (mem_append_right _ (zD hb e)))).2.1
  cases f with
  |next=>obtain ⟨σ7,H7,I7,n7⟩:=q7;exact again I7 n7
  |cont=>obtain ⟨σ7,H7,I7,n7⟩:=q7;exact again I7 n7
  |brk=>obtain ⟨σ7,H7,I7,q7⟩:=q7;exact ⟨σ7,H7,I7.unpinned,q7⟩
  |ret v=>obtain ⟨x7,σ7,H7,I7,r7,q7⟩:=q7;exact ⟨x7,σ7,H7,I7.unpinned,r7,q7⟩
end
abbrev R2:=V->V->Hp->VK->Prop
def OpR (X:Cx) (f:Value->Value->Sem Value) (r:R2):Prop:=
 ∀ (pins:List (Addr×Obj)) (s:Shared) (σ:St) (H:Hp) (x y:V) (v u:Value) (Q:VK),Inv X pins σ H s->ji x v->ji y u->r x y H Q ->
  wpAny (model X.prog X.w) X.A (f v u) (EP X pins σ Q) X.xe s
def UnR (X:Cx) (f:Value->Sem Value) (r:V->Hp->VK->Prop):Prop:=
 ∀ (pins:List (Addr×Obj)) (s:Shared) (σ:St) (H:Hp) (x:V) (v:Value) (Q:VK),Inv X pins σ H s->ji x v->r x H Q ->
  wpAny (model X.prog X.w) X.A (f v) (EP X pins σ Q) X.xe s
def EN (X:Cx) (f:Value) (r:List V->Hp->VK->Prop):Prop:=
 ∀ (pins:List (Addr×Obj)) (s:Shared) (σ:St) (H:Hp) (xs:List V) (us:List Value) (Q:VK),Inv X pins σ H s->zS xs us->r xs H Q ->
  wpAny (model X.prog X.w) X.A (call f us) (EP X pins σ Q) X.xe s
def tOp (r:R2) (ta tb:TE):TE:=λσ H Q=>ta σ H λx H1=>tb σ H1 λy H2=>r x y H2 Q
def tUn (r:V->Hp->VK->Prop) (ta:TE):TE:=λσ H Q=>ta σ H λx H1=>r x H1 Q
def rI (C:Int->Int->Prop) (g:Int->Int->V):R2:=λx y H Q=>∃ i j,x=.int i/\y=.int j/\C i j/\Q (g i j) H
def rI0 (g:Int->Int->V):R2:=λx y H Q=>∃ i j,x=.int i/\y=.int j/\Q (g i j) H
def rU (g:Int->V):V->Hp->VK->Prop:=λx H Q=>∃ i,x=.int i/\Q (g i) H
section
variable {X:Cx} {a b c:Expr} {ta tb tc:TE} {pos:Pos}
def qnh (ha:PE X a ta) (hb:PE X b tb) {pins:List (Addr×Obj)} {s:Shared} {σ:St} {H:Hp} {R:V->V->Hp->Prop} (I:Inv X pins σ H s)
  (h:ta σ H λx H1=>tb σ H1 λy H2=>R x y H2) {Q:Value->Shared->Prop} {f:Value->Value->Sem Value}
  (hf:∀ v u s2 x y H2,Inv X pins σ H2 s2->ji x v->ji y u->R x y H2->wpAny (model X.prog X.w) X.A (f v u) Q X.xe s2) :
  wpAny (model X.prog X.w) X.A (eval a X.env) (λv s₁=>wpAny (model X.prog X.w) X.A (eval b X.env) (λu s₂=>wpAny (model X.prog X.w) X.A (f v u) Q X.xe s₂) X.xe s₁) X.xe s:=by
 refine thn (ha pins s σ H _ I h) λv s1 ⟨x,H1,I1,r1,q1⟩=>?_;refine thn (hb pins s1 σ H1 _ I1 q1) λu s2 ⟨y,H2,I2,r2,q2⟩=>?_;exact hf v u s2 x y H2 I2 r1 r2 q2
def qom {op:Operator} {r:R2} (ho:OpR X (binaryOp op) r) (ha:PE X a ta) (hb:PE X b tb):PE X (.BinOp a op b pos) (tOp r ta tb):=by
 intro pins s σ H Q I h;exact wpAny_BinOp (qnh ha hb I h λv u s2 x y H2 I2 rx ry q=>ho pins s2 σ H2 x y v u Q I2 rx ry q)
def qn5 {op:UnaryOp} {r:V->Hp->VK->Prop} (ho:UnR X (unaryOp op) r) (ha:PE X a ta):PE X (.UnaryOp op a pos) (tUn r ta):=by
 intro pins s σ H Q I h;exact UnaryOp_ (thn (ha pins s σ H _ I h) λv s1 ⟨x,H1,I1,r1,q1⟩=>ho pins s1 σ H1 x v Q I1 r1 q1)
def opI {f:Value->Value->Sem Value} {C:Int->Int->Prop} {g:Int->Int->Int}
  (rule:∀ (i j:Int) (t u:Tok) (s:Shared) (Q:Value->Shared->Prop) (E:Value->Shared->Prop),C i j->Q (.int (g i j) s.toks) { s with toks:=s.toks+1 }->wpAny (model X.prog X.w) X.A (f (.int i t) (.int j u)) Q E s) :
  OpR X f (rI C λi j=>.int (g i j)):=by
 intro pins s σ H x y v u Q I rx ry h;obtain ⟨i,j,rfl,rfl,hc,q⟩:=h;obtain ⟨t,rfl⟩:=rx;obtain ⟨t',rfl⟩:=ry;exact rule i j t t' s _ _ hc ⟨.int (g i j),H,I.tok _,⟨_,rfl⟩,q⟩
def qmY {f:Value->Value->Sem Value} {g:Int->Int->Int}
  (rule:∀ (i j:Int) (t u:Tok) (s:Shared) (Q:Value->Shared->Prop) (E:Value->Shared->Prop),Q (.int (g i j) s.toks) { s with toks:=s.toks+1 }->wpAny (model X.prog X.w) X.A (f (.int i t) (.int j u)) Q E s) :
  OpR X f (rI0 λi j=>.int (g i j)):=by
 intro pins s σ H x y v u Q I rx ry h;obtain ⟨i,j,rfl,rfl,q⟩:=h;obtain ⟨t,rfl⟩:=rx;obtain ⟨t',rfl⟩:=ry;exact rule i j t t' s _ _ ⟨.int (g i j),H,I.tok _,⟨_,rfl⟩,q⟩
def qmf {f:Value->Value->Sem Value} {g:Int->Int->Bool}
  (rule:∀ (i j:Int) (t u:Tok) (s:Shared) (Q:Value->Shared->Prop) (E:Value->Shared->Prop),Q (.bool (g i j)) s->wpAny (model X.prog X.w) X.A (f (.int i t) (.int j u)) Q E s) :
  OpR X f (rI0 λi j=>.bl (g i j)):=by
 intro pins s σ H x y v u Q I rx ry h;obtain ⟨i,j,rfl,rfl,q⟩:=h;obtain ⟨t,rfl⟩:=rx;obtain ⟨t',rfl⟩:=ry;exact rule i j t t' s _ _ ⟨.bl (g i j),H,I,rfl,q⟩
def qbG (i j:Int):Prop:=0<j/\j<1073741824
def WZ (i j:Int):Prop:=0<=j/\j<=1000000/\i.natAbs<2 ^ 64
def U7 (i j:Int):Prop:=(-(2 ^ 64)<i/\i<2 ^ 64)\/(-(2 ^ 64)<j/\j<2 ^ 64)
def U7.ok {i j:Int} (h:U7 i j):IntMulOk i j:=by
 rcases h with ⟨h1,h2⟩|⟨h1,h2⟩
 ·exact .of_left (intBits_le_64 h1 h2)
 ·exact .of_right (intBits_le_64 h1 h2)
def MN (k:Nat):(0:Int)<=2 ^ k:=by
 rw [two_pow_cast];exact Int.natCast_nonneg _
def qg6:OpR X (binaryOp .Add) (rI0 λi j=>.int (i+j)):=qmY λ_ _ _ _ _ _ _ q=>add_int q
def qiR:OpR X (binaryOp .Sub) (rI0 λi j=>.int (i-j)):=qmY λ_ _ _ _ _ _ _ q=>sub_int q
def qkV:OpR X (binaryOp .Mult) (rI U7 λi j=>.int (i*j)):=opI λ_ _ _ _ _ _ _ hc q=>mul_int q hc.ok
def qf2:OpR X (binaryOp .FloorDiv) (rI qbG λi j=>.int (i/j)):=opI λi j _ _ _ _ _ hc q=>by
 have h1:(0:Int)<j:=hc.1;have h2:j<1073741824:=hc.2;exact floordiv_int (by omega) (by rw [Int.fdiv_eq_ediv_of_nonneg i (by omega)];exact q) (.inl (PyProof.noPylong_small (by omega)))
def qg1:OpR X (binaryOp .Mod) (rI (λ_ j=>0<j) λi j=>.int (i%j)):=opI λi j _ _ _ _ _ hc q=>by
 have h1:(0:Int)<j:=hc;exact mod_int' (by omega) (by rw [Int.fmod_eq_emod_of_nonneg i (by omega)];exact q)
def qja:OpR X (binaryOp .Pow) (rI WZ λi j=>.int (i ^ j.toNat)):=opI λ_ _ _ _ _ _ _ hc q=>pow_int_small hc.1 hc.2.1 hc.2.2 q
def qha:OpR X (binaryOp .LShift) (rI WZ λi j=>.int (i*2 ^ j.toNat)):=opI λ_ _ _ _ _ _ _ hc q=>lshift_int_small hc.1 hc.2.1 hc.2.2 q
def qhs:OpR X (binaryOp .RShift) (rI (λ_ j=>0<=j) λi j=>.int (i/2 ^ j.toNat)):=opI λi j _ _ _ _ _ hc q=>
 rshift_int hc (by rw [Int.fdiv_eq_ediv_of_nonneg i (MN _)];exact q)
def qjw:OpR X (binaryOp .BitAnd) (rI0 λi j=>.int (Builtin.bitAnd i j)):=qmY λ_ _ _ _ _ _ _ q=>and_int q
def unI {f:Value->Sem Value} {g:Int->Int}
  (rule:∀ (i:Int) (t:Tok) (s:Shared) (Q:Value->Shared->Prop) (E:Value->Shared->Prop),Q (.int (g i) s.toks) { s with toks:=s.toks+1 }->wpAny (model X.prog X.w) X.A (f (.int i t)) Q E s) :
  UnR X f (rU λi=>.int (g i)):=by
 intro pins s σ H x v Q I rx h;obtain ⟨i,rfl,q⟩:=h;obtain ⟨t,rfl⟩:=rx;exact rule i t s _ _ ⟨.int (g i),H,I.tok _,⟨_,rfl⟩,q⟩
def qjk:UnR X (unaryOp .USub) (rU λi=>.int (-i)):=unI λ_ _ _ _ _ q=>neg_int q
end
def qnO:V->V->Bool
 |.non,.non=>true|.non,.int _=>true|.int _,.non=>true|.non,.bl _=>true|.bl _,.non=>true|.non,.str _=>true|.str _,.non=>true
 |.int _,.int _=>true|.bl _,.bl _=>true|.str _,.str _=>true|.byt _,.byt _=>true
 |.int _,.str _=>true|.str _,.int _=>true|.bl _,.str _=>true|.str _,.bl _=>true
 |_,_=>false
def rEq:R2:=λx y H Q=>qnO x y=true/\Q (.bl (decide (x=y))) H
def rNe:R2:=λx y H Q=>qnO x y=true/\Q (.bl (!decide (x=y))) H
def qa8 {i j:Int}:decide (V.int i=V.int j)=(i==j):=by
 rw [Bool.eq_iff_iff];simp
def qcT {i j:Bool}:decide (V.bl i=V.bl j)=(i==j):=by
 rw [Bool.eq_iff_iff];simp
def qaw {i j:Str}:decide (V.str i=V.str j)=(i==j):=by
 rw [Bool.eq_iff_iff];simp
def N2 {i j:Array UInt8}:decide (V.byt i=V.byt j)=(i.toList==j.toList):=by
 rw [Bool.eq_iff_iff];cases i;cases j;simp
section
variable {X:Cx} {a b c:Expr} {ta tb tc:TE} {pos:Pos}
def q0 {pins:List (Addr×Obj)} {σ:St} {H:Hp} {s:Shared} {Q:VK} {k k':Bool} (I:Inv X pins σ H s) (q:Q (.bl k) H) (e:k=k'):EP X pins σ Q (.bool k') s:=by
 subst e;exact ⟨.bl k,H,I,rfl,q⟩
def qnL:OpR X (compareOp .Eq) rEq:=by
 intro pins s σ H x y v u Q I rx ry h;obtain ⟨hs,q⟩:=h;cases x with
 |non=>
  cases rx;cases y with
  |non=>cases ry;exact PySem.EqNone.eq_none_none (q0 I q (by simp))
  |bl j=>cases ry;exact PySem.EqNone.eq_none_bool (q0 I q (by simp))
  |int j=>obtain ⟨t',rfl⟩:=ry;exact PySem.EqNone.eq_none_int (q0 I q (by simp))
  |str j=>obtain ⟨t',rfl⟩:=ry;exact PySem.EqNone.eq_none_str (q0 I q (by simp))
  |_=>exact absurd (show false=true from hs) Bool.false_ne_true
 |bl i=>
  cases rx;cases y with
  |non=>cases ry;exact PySem.EqNone.eq_bool_none (q0 I q (by simp))
  |bl j=>cases ry;exact eq_bool (q0 I q qcT)
  |str j=>obtain ⟨t',rfl⟩:=ry;exact PySem.EqMixed.eq_bool_str (q0 I q (by simp))
  |_=>exact absurd (show false=true from hs) Bool.false_ne_true
 |int i=>
  obtain ⟨t,rfl⟩:=rx;cases y with
  |non=>cases ry;exact PySem.EqNone.eq_int_none (q0 I q (by simp))
  |int j=>obtain ⟨t',rfl⟩:=ry;exact eq_int (q0 I q qa8)
  |str j=>obtain ⟨t',rfl⟩:=ry;exact PySem.EqMixed.eq_int_str (q0 I q (by simp))
  |_=>exact absurd (show false=true from hs) Bool.false_ne_true
 |str i=>
  obtain ⟨t,rfl⟩:=rx;cases y with
  |non=>cases ry;exact PySem.EqNone.eq_str_none (q0 I q (by simp))
  |bl j=>cases ry;exact PySem.EqMixed.eq_str_bool (q0 I q (by simp))
  |int j=>obtain ⟨t',rfl⟩:=ry;exact PySem.EqMixed.eq_str_int (q0 I q (by simp))
  |str j=>obtain ⟨t',rfl⟩:=ry;exact eq_str (q0 I q qaw)
  |_=>exact absurd (show false=true from hs) Bool.false_ne_true
 |byt i=>
  obtain ⟨t,rfl⟩:=rx;cases y with
  |byt j=>obtain ⟨t',rfl⟩:=ry;exact PySem.W.eq_bytes (q0 I q N2)
  |_=>exact absurd (show false=true from hs) Bool.false_ne_true
 |_=>cases y<;>exact absurd (show false=true from hs) Bool.false_ne_true
def qni:OpR X (compareOp .NotEq) rNe:=by
 intro pins s σ H x y v u Q I rx ry h;obtain ⟨hs,q⟩:=h;cases x with
 |non=>
  cases rx;cases y with
  |non=>cases ry;exact PySem.EqNone.ne_none_none (q0 I q (by simp))
  |bl j=>cases ry;exact PySem.EqNone.ne_none_bool (q0 I q (by simp))
  |int j=>obtain ⟨t',rfl⟩:=ry;exact PySem.EqNone.ne_none_int (q0 I q (by simp))
  |str j=>obtain ⟨t',rfl⟩:=ry;exact PySem.EqNone.ne_none_str (q0 I q (by simp))
  |_=>exact absurd (show false=true from hs) Bool.false_ne_true
 |bl i=>
  cases rx;cases y with
  |non=>cases ry;exact PySem.EqNone.ne_bool_none (q0 I q (by simp))
  |bl j=>cases ry;exact ne_bool (q0 I q (congrArg not qcT))
  |str j=>obtain ⟨t',rfl⟩:=ry;exact PySem.EqMixed.ne_bool_str (q0 I q (by simp))
  |_=>exact absurd (show false=true from hs) Bool.false_ne_true
 |int i=>
  obtain ⟨t,rfl⟩:=rx;cases y with
  |non=>cases ry;exact PySem.EqNone.ne_int_none (q0 I q (by simp))
  |int j=>obtain ⟨t',rfl⟩:=ry;exact ne_int (q0 I q (congrArg not qa8))
  |str j=>obtain ⟨t',rfl⟩:=ry;exact PySem.EqMixed.ne_int_str (q0 I q (by simp))
  |_=>exact absurd (show false=true from hs) Bool.false_ne_true
 |str i=>
  obtain ⟨t,rfl⟩:=rx;cases y with
  |non=>cases ry;exact PySem.EqNone.ne_str_none (q0 I q (by simp))
  |bl j=>cases ry;exact PySem.EqMixed.ne_str_bool (q0 I q (by simp))
  |int j=>obtain ⟨t',rfl⟩:=ry;exact PySem.EqMixed.ne_str_int (q0 I q (by simp))
  |str j=>obtain ⟨t',rfl⟩:=ry;exact ne_str (q0 I q (congrArg not qaw))
  |_=>exact absurd (show false=true from hs) Bool.false_ne_true
 |byt i=>
  obtain ⟨t,rfl⟩:=rx;cases y with
  |byt j=>obtain ⟨t',rfl⟩:=ry;exact PySem.W.ne_bytes (q0 I q (congrArg not N2))
  |_=>exact absurd (show false=true from hs) Bool.false_ne_true
 |_=>cases y<;>exact absurd (show false=true from hs) Bool.false_ne_true
def qbk:OpR X (compareOp .Lt) (rI0 λi j=>.bl (decide (i<j))):=qmf λ_ _ _ _ _ _ _ q=>lt_int q
def qgH:OpR X (compareOp .LtE) (rI0 λi j=>.bl (decide (i<=j))):=qmf λ_ _ _ _ _ _ _ q=>le_int q
def qar:OpR X (compareOp .Gt) (rI0 λi j=>.bl (decide (j<i))):=qmf λ_ _ _ _ _ _ _ q=>gt_int q
def qob:OpR X (compareOp .GtE) (rI0 λi j=>.bl (decide (j<=i))):=qmf λ_ _ _ _ _ _ _ q=>ge_int q
def ql0:OpR X (compareOp .Is) (λx y H Q=>y=.non/\Q (.bl (decide (x=.non))) H):=by
 intro pins s σ H x y v u Q I rx ry h;obtain ⟨rfl,q⟩:=h;cases ry;refine is_none_gen (q0 I q ?_);cases x<;>first
  | (cases rx;rfl)
  | (obtain ⟨t,rfl⟩:=rx;rfl)
def OpR.or {f:Value->Value->Sem Value} {r r':R2} (h:OpR X f r) (h':OpR X f r'):OpR X f (λx y H Q=>r x y H Q\/r' x y H Q):=by
 intro pins s σ H x y v u Q I rx ry q;rcases q with q|q
 ·exact h pins s σ H x y v u Q I rx ry q
 ·exact h' pins s σ H x y v u Q I rx ry q
def qQ (b:Expr) {op:CmpOp} (h:op≠.In:=by decide) (h2:op≠.NotIn:=by decide):behindInMarks op b=false:=by
 have e1:(op==CmpOp.In)=false:=by cases op<;>first|rfl|exact absurd rfl h
 have e2:(op==CmpOp.NotIn)=false:=by cases op<;>first|rfl|exact absurd rfl h2
 cases b<;>simp [behindInMarks,e1,e2]
def qgk {op:CmpOp} {r:R2} (ho:OpR X (compareOp op) r) (ha:PE X a ta) (hb:PE X b tb) (hm:behindInMarks op b=false):PE X (.Compare a [op] [b] pos) (tOp r ta tb):=by
 intro pins s σ H Q I h;exact wpAny_Compare1 (qnh ha hb I h λv u s2 x y H2 I2 rx ry q=>ho pins s2 σ H2 x y v u Q I2 rx ry q) hm
def qj6 (t:TE):TT:=λσ H Q=>t σ H λx H'=>∃ k,x=.bl k/\Q k H'
def qfT {op:CmpOp} {r:R2} (ho:OpR X (compareOp op) r) (ha:PE X a ta) (hb:PE X b tb) (hm:behindInMarks op b=false):PT X (.Compare a [op] [b] pos) (qj6 (tOp r ta tb)):=by
 intro pins s σ H Q I h;refine wpAny_isTrue_Compare1 (thn (ha pins s σ H _ I h) λv s1 ⟨x,H1,I1,r1,q1⟩=>thn (hb pins s1 σ H1 _ I1 q1) λu s2 ⟨y,H2,I2,r2,q2⟩=>
  thn (ho pins s2 σ H2 x y v u _ I2 r1 r2 q2) λc s3 ⟨z,H3,I3,r3,k,e,q3⟩=>?_) hm
 subst e;cases r3;exact wpAny_truthy_bool ⟨H3,I3,q3⟩
def qez (r r':R2) (ta tb tc:TE):TE:=λσ H Q=>ta σ H λx H1=>tb σ H1 λy H2=>r x y H2 λz H3=>∃ k,z=.bl k /\
 (if k=true then tc σ H3 λw' H4=>r' y w' H4 Q else Q (.bl false) H3)
def qbM {op op':CmpOp} {r r':R2} (ho:OpR X (compareOp op) r) (ho':OpR X (compareOp op') r') (ha:PE X a ta) (hb:PE X b tb) (hc:PE X c tc)
  (hm:lastMarks [op,op'] [b,c]=false:=by with_unfolding_all rfl):PE X (.Compare a [op,op'] [b,c] pos) (qez r r' ta tb tc):=by
 intro pins s σ H Q I h;refine Compare_chain (thn (ha pins s σ H _ I h) λv s1 ⟨x,H1,I1,r1,q1⟩=>chain_link (thn (hb pins s1 σ H1 _ I1 q1) λu s2 ⟨y,H2,I2,r2,q2⟩=>
  thn (ho pins s2 σ H2 x y v u _ I2 r1 r2 q2) λd s3 ⟨z,H3,I3,r3,k,e,q3⟩=>?_)) hm
 subst e;cases r3;refine wpAny_truthy_bool ?_;cases k with
 |false=>exact ite_ff ⟨.bl false,H3,I3,rfl,q3⟩
 |true=>exact ite_tt (chain_last (thn (hc pins s3 σ H3 _ I3 q3) λw' s4 ⟨z',H4,I4,r4,q4⟩=>ho' pins s4 σ H4 y z' u w' Q I4 r2 r4 q4))
def R7:(sizeLine:Nat)<2 ^ 63:=by rw [sizeLine_eq];decide
def NY {x:V} {us:List Value} (r:zS [x] us):∃ u,us=[u]/\ji x u:=by
 cases r with
 |cons r1 r2=>cases r2;exact ⟨_,rfl,r1⟩
def qbs {x y:V} {us:List Value} (r:zS [x,y] us):∃ u w',us=[u,w']/\ji x u/\ji y w':=by
 cases r with
 |cons r1 r2=>
  cases r2 with
  |cons r3 r4=>cases r4;exact ⟨_,_,rfl,r1,r3⟩
def K0:EN X (.builtin "abs") (λxs H Q=>∃ i,xs=[.int i]/\Q (.int (if i<0 then -i else i)) H):=by
 intro pins s σ H xs us Q I r h;obtain ⟨i,rfl,q⟩:=h;obtain ⟨u,rfl,t,rfl⟩:=NY r;exact call_abs_int λu tk=>⟨.int (if i<0 then -i else i),H,I.tok _,⟨_,rfl⟩,q⟩
def qaD (hc:X.calm=true):EN X (.builtin "min") (λxs H Q=>∃ i j,xs=[.int i,.int j]/\Q (.int (if j<i then j else i)) H):=by
 intro pins s σ H xs us Q I r h;obtain ⟨i,j,rfl,q⟩:=h;obtain ⟨u,w',rfl,⟨t,rfl⟩,⟨t',rfl⟩⟩:=qbs r;refine min_two_ints (I.ok.hd hc) λh' tk k=>⟨_,H,I.kept k,?_,q⟩
 by_cases hj:j<i
 ·rw [if_pos hj,if_pos hj];exact ⟨_,rfl⟩
 ·rw [if_neg hj,if_neg hj];exact ⟨_,rfl⟩
def qoz (K:Frg) (x:V) (H:Hp) (n:Nat):Prop:=
 match x with
 |.str y=>y.length<=sizeLine/\n=y.length
 |.byt y=>y.size<=sizeLine/\n=y.size
 |.ref p=>(∃ xs,SqL K H p xs/\n=xs.length)\/∃ xs,SqT K H p xs/\n=xs.length
 |_=>False
def j7:EN X (.builtin "len") (λxs H Q=>∃ x n,xs=[x]/\qoz X.K x H n/\Q (.int n) H):=by
 intro pins s σ H xs us Q I r h;obtain ⟨x,n,rfl,e,q⟩:=h;obtain ⟨u,rfl,rx⟩:=NY r;have hl:=R7;have hs:sizeLine=16777216:=sizeLine_eq;cases x with
 |str y=>
  obtain ⟨t,rfl⟩:=rx;obtain ⟨hy,e'⟩:y.length<=sizeLine/\n=y.length:=e;subst e';exact len_str (by omega) ⟨.int _,H,I.tok _,⟨_,rfl⟩,q⟩
 |byt y=>
  obtain ⟨t,rfl⟩:=rx;obtain ⟨hy,e'⟩:y.size<=sizeLine/\n=y.size:=e;subst e';exact PySem.W.len_bytes (by omega) ⟨.int _,H,I.tok _,⟨_,rfl⟩,q⟩
 |ref p=>
  cases rx;have e':(∃ xs,SqL X.K H p xs/\n=xs.length)\/∃ xs,SqT X.K H p xs/\n=xs.length:=e;rcases e' with ⟨xs,hx,e'⟩|⟨xs,hx,e'⟩
  ·subst e';obtain ⟨its,r',pl,hz⟩:=I.list hx;have hlen:=r'.length;exact Calls.call_len_list pl.isList (by simp only [size_toArray];omega) ⟨.int xs.length,H,I.tok _,⟨_,by simp only [size_toArray];rw [hlen]⟩,q⟩
  ·subst e';obtain ⟨its,r',pl,hz⟩:=I.tuple hx;have hlen:=r'.length;exact len_tuple pl (by simp only [size_toArray];omega) ⟨.int xs.length,H,I.tok _,⟨_,by simp only [size_toArray];rw [hlen]⟩,q⟩
 |_=>exact (show False from e).elim
end
section
variable {prog:Program} {w:World} {A:Around} {E:Value->Shared->Prop} {s:Shared} {K:Frg} {x dx C f:Addr} {mA:Str->Option Value} {name:Str} {v:Value}
end
section
variable {P:Program} {w:World} {H H':Hp} {h h':Heap} {a C dx:Addr} {fs fs':List (Str×V)}
end
section
variable {X:Cx} {pins:List (Addr×Obj)} {σ:St} {H:Hp} {s:Shared} {a C dx:Addr} {fs:List (Str×V)} {f:Str} {v:V} {A:Around} {E:Value->Shared->Prop}
end
section
variable {X:Cx} {o e value:Expr} {f:Str} {pos pos' tpos:Pos} {ta tv:TE}
end
section
variable {X:Cx} {pins:List (Addr×Obj)} {σ:St} {H:Hp} {s:Shared} {A:Around} {E:Value->Shared->Prop} {Q:Value->Shared->Prop} {c:Value} {b:Bool}
end
structure Room (k:Nat) (A:Around):Prop where
 hd:A.handled=none
 dp:A.depth+3*k+5<recursionLimit
 un:A.units+16*k+200<cLine
 gd:A.guards=some []
def Room.mono {j k:Nat} {A:Around} (r:Room k A) (h:j<=k):Room j A:=⟨r.hd,by have:=r.dp;omega,by have:=r.un;omega,r.gd⟩
def Room.deeper {k:Nat} {A:Around} (r:Room (k+1) A) (env:Env):Room k (A.deeper env):=
 ⟨r.hd,by have:=r.dp;show A.depth+1+3*k+5<_;omega,by have:=r.un;show A.units+3+16*k+200<_;omega,r.gd⟩
def Room.in1 {k:Nat} {A:Around} (r:Room (k+1) A):Room k A.in1:=
 ⟨r.hd,by have:=r.dp;show A.depth+3*k+5<_;omega,by have:=r.un;show A.units+1+16*k+200<_;omega,r.gd⟩
def Room.depth {k:Nat} {A:Around} (r:Room k A):A.depth<recursionLimit:=by have:=r.dp;omega
def Room.units {k:Nat} {A:Around} (r:Room k A):A.units+64<cLine:=by have:=r.un;omega
def qpT:TA:=λ_ H Q=>Q [] H
def qm9 (ta:TE) (tr:TA):TA:=λσ H Q=>ta σ H λx H1=>tr σ H1 λxs H2=>Q (x::xs) H2
section
variable {X:Cx} {e:Expr} {es:List Expr} {te:TE} {t:TA} {pos:Pos}
def qa9:PA X [] qpT:=λ_ _ _ _ H Q I h=>Calls.spliced_nil ⟨[],H,I,.nil,h⟩
def DQ (ha:PE X e te) (hr:PA X es t) (hs:starEach (e::es) X.env=(false,eval e X.env)::starEach es X.env:=by rfl):PA X (e::es) (qm9 te t):=by
 intro pos pins s σ H Q I h;rw [hs];show wpAny _ _ (spliced ((false,eval e X.env)::backTo pos (starEach es X.env))) _ _ s;refine Calls.spliced_cons (thn (ha pins s σ H _ I h) λu s1 ⟨x,H1,I1,r1,q1⟩=>?_);exact thn (hr pos pins s1 σ H1 _ I1 q1) λus s2 ⟨xs,H2,I2,r2,q2⟩=>⟨x::xs,H2,I2,.cons r1 r2,q2⟩
def qpU (t:TA):TE:=λσ H Q=>t σ H λxs H1=>xs.length<=sizeLine/\∀ p,H1 p=none->Q (.ref p) (upd H1 p (.tup xs))
def qpl (t:TA):TE:=λσ H Q=>t σ H λxs H1=>xs.length<=sizeLine/\∀ p,H1 p=none->Q (.ref p) (upd H1 p (.lst xs))
def qiU {x1} (h:PA X es t):PE X (.Tuple es x1 pos) (qpU t):=by
 intro pins s σ H Q I hq;refine wpAny_Tuple_spliced (thn (h pos pins s σ H _ I hq) λus s1 ⟨xs,H1,I1,r,z,q⟩=>⟨by rw [← r.length];exact z,?_⟩);have hf:H1 s1.heap.objs.size=none:=I1.hok.fresh (Nat.le_refl _);refine ⟨.ref s1.heap.objs.size,upd H1 s1.heap.objs.size (.tup xs),I1.laid (t':=s1.toks) (λb u e=>Heap.get?_push_of_some _ e) (Nat.le_refl _) ?_,rfl,q _ hf⟩;exact ⟨z,us,r,⟨_,Heap.get?_push_size _ rfl,rfl,_,rfl⟩⟩
def qg5 (h:PA X es t):PE X (.List es pos) (qpl t):=by
 intro pins s σ H Q I hq;refine wpAny_List_spliced (thn (h pos pins s σ H _ I hq) λus s1 ⟨xs,H1,I1,r,z,q⟩=>⟨by rw [← r.length];exact z,?_⟩);have hf:H1 s1.heap.objs.size=none:=I1.hok.fresh (Nat.le_refl _);refine ⟨.ref s1.heap.objs.size,upd H1 s1.heap.objs.size (.lst xs),I1.laid (t':=s1.toks) (λb u e=>Heap.get?_push_of_some _ e) (Nat.le_refl _) ?_,rfl,q _ hf⟩;exact ⟨z,us,0,r,Heap.get?_push_size _ rfl⟩
end
abbrev Sp:=List V->Hp->VK->XK->Prop
abbrev CXT:=List Env->Hp->Shared->XK->Value->Shared->Prop
structure Env0 (P:Program) (w:World) (K:Frg) (mg:Str->Option Value) (base:Heap) (A:Around) (outer:List Env) (s:Shared) (H:Hp):Prop where
 frames:A.frames=some outer
 mod:Mod K mg base
 bs:∀ b o,base.get? b=some o->s.heap.get? b=some o/\H b=none
 bsz:base.objs.size<=s.heap.objs.size
 funs:s.heap.FunFrames base outer
 frf:∀ b∈frs outer,H b=none
 hok:HOk P w H s.heap
 bare:AllBare s.gens
def CE (outer:List Env) (P:Program) (w:World) (H:Hp) (s:Shared) (Q:VK) (u:Value) (s':Shared):Prop:=
 ∃ v H',s'.os=s.os/\AllBare s'.gens/\Un (frs outer) [] H H' s.heap s'.heap/\HOk P w H' s'.heap/\ji v u/\Q v H'
def CR (CX:CXT) (outer:List Env) (P:Program) (w:World) (H:Hp) (s:Shared) (Q:VK) (E:XK) (r:Result) (s':Shared):Prop:=
 match r with
 |.ok (.ret u)=>CE outer P w H s Q u s'
 |.ok _=>False
 |.error e=>CX outer H s E e s'
structure FnOk (P:Program) (w:World) (K:Frg) (mg:Str->Option Value) (base:Heap) (CX:CXT) (k:Nat) (f:Addr) (fd:FuncData) (ps:List Str) (sp:Sp):Prop where
 len:∀ vs H Q E,sp vs H Q E->vs.length=ps.length
 run:∀ (A:Around) (outer:List Env) (s:Shared) (H:Hp) (args:Args) (us:List Value) (vs:List V) (Q:VK) (E:XK),Room k A->Env0 P w K mg base A outer s H->BindsTo s fd args (ps.zip us)->zS vs us->sp vs H Q E ->
  codeAny (model P w) A (.call (.ref f) args) (CR CX outer P w H s Q E) s
def FnOk.mono {P:Program} {w:World} {K:Frg} {mg:Str->Option Value} {base:Heap} {CX:CXT} {j k:Nat} {f:Addr} {fd:FuncData} {ps:List Str} {sp:Sp} (F:FnOk P w K mg base CX j f fd ps sp) (h:j<=k) :
  FnOk P w K mg base CX k f fd ps sp:=⟨F.len,λA outer s H args us vs Q E hr=>F.run A outer s H args us vs Q E (hr.mono h)⟩
def Env0.in1 {P:Program} {w:World} {K:Frg} {mg:Str->Option Value} {base:Heap} {A:Around} {outer:List Env} {s:Shared} {H:Hp} (e:Env0 P w K mg base A outer s H) :
  Env0 P w K mg base A.in1 outer s H:=⟨e.frames,e.mod,e.bs,e.bsz,e.funs,e.frf,e.hok,e.bare⟩
section
variable {X:Cx} {pins:List (Addr×Obj)} {σ:St} {H:Hp} {s s':Shared}
def Inv.env0 (I:Inv X pins σ H s):Env0 X.prog X.w X.K X.mg X.base X.A X.stack s H:=
 ⟨I.ok.frames,I.ok.mod,I.bs,Nat.le_trans I.ok.bsz I.sz,I.stack,I.stkFree,I.hok,I.bare⟩
def Inv.after {Q:VK} {u:Value} (I:Inv X pins σ H s) (h:CE X.stack X.prog X.w H s Q u s'):EP X pins σ Q u s':=by
 obtain ⟨v,H',os,bare,un,hok,r,q⟩:=h;obtain ⟨hh,g,d,t,os'⟩:=s';obtain rfl:os'=s.os:=os;exact ⟨v,H',I.call (h':=hh) (g':=g) (d':=d) (t':=t) (ch:=[]) un hok bare (λb z=>absurd z (by simp)),r,q⟩
end
def qoh (sp:Sp) (dvs:List V) (E:XK) (t:TA):TE:=λσ H Q=>t σ H λvs H1=>sp (vs++dvs) H1 Q E
def zd (K:Frg) (fd:FuncData) (ps:List Str) (ds:List Value):Prop:=
 ∀ (s:Shared) (us:List Value),K.In s.heap->(us++ds).length=ps.length->BindsTo s fd ⟨us,[]⟩ (ps.zip (us++ds))
def zd.all {K:Frg} {fd:FuncData} {ps:List Str} (h:∀ us:List Value,us.length=ps.length->bindArgs fd ⟨us,[]⟩=pure (ps.zip us)):zd K fd ps []:=λs us _ hl=>by
 rw [List.append_nil] at hl ⊢;exact .of_eq (h us hl)
def LI (CX:CXT) (X:Cx) (E:XK):Prop:=∀ (pins:List (Addr×Obj)) (σ:St) (H:Hp) (s:Shared) (e:Value) (s':Shared),Inv X pins σ H s->CX X.stack H s E e s'->X.xe e s'
section
variable {X:Cx} {CX:CXT} {k:Nat} {f C:Addr} {fd:FuncData} {ps:List Str} {sp:Sp} {dvs:List V} {ds:List Value} {E:XK} {x m:Str} {p pos apos:Pos} {e o:Expr} {es:List Expr} {ta:TE} {t:TA}
def qlP {pins:List (Addr×Obj)} {σ:St} {H:Hp} {s:Shared} {Q:VK} {us:List Value} {vs:List V} (F:FnOk X.prog X.w X.K X.mg X.base CX k f fd ps sp) (hr:Room k X.A) (hb:zd X.K fd ps ds) (hd:zS dvs ds) (hx:LI CX X E)
  (I:Inv X pins σ H s) (r:zS vs us) (h:sp (vs++dvs) H Q E):wpAny (model X.prog X.w) X.A (call (.ref f) us) (EP X pins σ Q) X.xe s:=by
 have r2:zS (vs++dvs) (us++ds):=r.append hd;have hl:(us++ds).length=ps.length:=by rw [← r2.length];exact F.len _ _ _ _ h
 refine wpAny_call (codeAny_mono (F.run X.A X.stack s H ⟨us,[]⟩ (us++ds) (vs++dvs) Q E hr I.env0 (hb s us I.kIn hl) r2 h) λr s' hq=>?_);cases r with
 |error e=>exact hx pins σ H s e s' I hq
 |ok fl=>
  cases fl with
  |ret u=>exact I.after hq
  |next=>exact False.elim hq
  |brk=>exact False.elim hq
  |cont=>exact False.elim hq
def qa7 (F:FnOk X.prog X.w X.K X.mg X.base CX k f fd ps sp) (hr:Room k X.A) (hg:Gl X x) (hm:X.mg x=some (.ref f)) (hk:PySem.W.keepIn X.K (.ref f)=true) (hb:zd X.K fd ps ds) (hd:zS dvs ds) (hx:LI CX X E)
  (ha:PA X (e::es) t) (hdb:(x==("__debug__" : Str))=false:=by decide) (he:starEach (e::es) X.env=(false,eval e X.env)::starEach es X.env:=by rfl) (hpl:(backTo pos (starEach es X.env)).any (·.1)=false:=by rfl) :
  PE X (.Call (.Name x p) (e::es) [] pos) (qoh sp dvs E t):=by
 intro pins s σ H Q I h;refine wpAny_Call_Name_kw (D9 I hg hm ?_ hdb);refine PySem.W.callWith_K (h₀:=X.base) I.ok.mod.kin hk (thn (ha pos pins s σ H _ I h) λus s1 ⟨vs,H1,I1,r,q⟩=>⟨I1.kIn,?_⟩) he hpl;exact qlP F hr hb hd hx I1 r q
end
section
variable {X:Cx} {CX:CXT} {k:Nat} {f C:Addr} {fd:FuncData} {ps ks:List Str} {sp:Sp} {E:XK} {x m:Str} {p pos apos kpos:Pos} {e o:Expr} {es:List Expr} {kws:List Keyword} {te ta:TE} {t tk:TA} {nm:Option Str}
variable {g:List Value->List Value->List Value} {gV:List V->List V->List V}
end
structure FnScope (N P:List Str) (sc:Scope):Prop where
 kind:sc.kind=.function
 co:sc.isCoroutine=false
 gen:sc.isGenerator=false
 nd:N.Nodup
 pre:N.take P.length=P
 par:∀ x∈P,sc.names.lookup x=some .local\/sc.names.lookup x=some .cell
 nofree:∀ y∈sc.names,y.2≠.free
def SI {kindOf:Str->Option NameKind} {x:Str}:∀ {binds:List (Str×Value)} {m:Str->Option Value},(∀ v,(x,v)∉binds)->bindL kindOf binds m x=m x
 |[],_,_=>rfl
 | (n,v)::r,m,h=>by
  unfold bindL;rw [SI λw hw=>h w (List.mem_cons_of_mem _ hw)];split
  ·have:x≠n:=by rintro rfl;exact h v List.mem_cons_self
   simp [this]
  ·rfl
def SD {kindOf:Str->Option NameKind} {x:Str}:∀ {binds:List (Str×Value)} {m:Str->Option Value},(∀ v,(x,v)∉binds)->bindC kindOf binds m x=m x
 |[],_,_=>rfl
 | (n,v)::r,m,h=>by
  unfold bindC;rw [SD λw hw=>h w (List.mem_cons_of_mem _ hw)];split
  ·rfl
  ·have:x≠n:=by rintro rfl;exact h v List.mem_cons_self
   simp [this]
def R0 {kindOf:Str->Option NameKind} {x:Str} {v:Value}:∀ {P:List Str} {vs:List Value} {i:Nat} {m:Str->Option Value},P.Nodup->P[i]?=some x->vs[i]?=some v->kindOf x=some .local ->
  bindL kindOf (P.zip vs) m x=some v
 |[],_,_,_,_,h,_,_=>by simp at h
 |_::_,[],_,_,_,_,h,_=>by simp at h
 |p::P,w::vs,0,m,nd,h1,h2,hk=>by
  simp at h1 h2;subst h1;subst h2;show bindL kindOf ((p,w)::P.zip vs) m p=_;unfold bindL;rw [SI λv hv=>(List.nodup_cons.mp nd).1 (List.of_mem_zip hv).1,if_pos hk];simp
 |p::P,w::vs,i+1,m,nd,h1,h2,hk=>by
  show bindL kindOf ((p,w)::P.zip vs) m x=_;unfold bindL;exact R0 (i:=i) (List.nodup_cons.mp nd).2 (by simpa using h1) (by simpa using h2) hk
def RQ {kindOf:Str->Option NameKind} {x:Str} {v:Value}:∀ {P:List Str} {vs:List Value} {i:Nat} {m:Str->Option Value},P.Nodup->P[i]?=some x->vs[i]?=some v->kindOf x≠some .local ->
  bindC kindOf (P.zip vs) m x=some v
 |[],_,_,_,_,h,_,_=>by simp at h
 |_::_,[],_,_,_,_,h,_=>by simp at h
 |p::P,w::vs,0,m,nd,h1,h2,hk=>by
  simp at h1 h2;subst h1;subst h2;show bindC kindOf ((p,w)::P.zip vs) m p=_;unfold bindC;rw [SD λv hv=>(List.nodup_cons.mp nd).1 (List.of_mem_zip hv).1,if_neg hk];simp
 |p::P,w::vs,i+1,m,nd,h1,h2,hk=>by
  show bindC kindOf ((p,w)::P.zip vs) m x=_;unfold bindC;exact RQ (i:=i) (List.nodup_cons.mp nd).2 (by simpa using h1) (by simpa using h2) hk
def WM (N:List Str) (vs:List V):St:=vs.map some++List.replicate (N.length-vs.length) none
def J0 (CX:CXT) (P:Program) (w:World) (K:Frg) (mg:Str->Option Value) (base:Heap) (N:List Str) (qual:Str) (scope:Scope) (f:Addr) (cd:Value) (A:Around) (outer:List Env) (s:Shared) (H:Hp) (E:XK):Cx where
 prog:=P
 w:=w
 K:=K
 mg:=mg
 base:=base
 A:=A.deeper (envOfC qual scope s.heap.objs.size f cd)
 N:=N
 s₀:=s
 H₀:=H
 env:=envOfC qual scope s.heap.objs.size f cd
 outer:=outer
 stack:=envOfC qual scope s.heap.objs.size f cd::outer
 ex:=[]
 calm:=true
 fn:=λ_=>true
 pn:=[]
 xe:=λe s'=>wpAny (model P w) (A.deeper (envOfC qual scope s.heap.objs.size f cd)) (leaving (envOfC qual scope s.heap.objs.size f cd) e) (λ_ s''=>CX outer H s E e s'') (λe' s''=>CX outer H s E e' s'') s'
def K4 {sc:Scope} {n:Nat} {x:Str} (h:sc.names.lookup x=some .cell):∃ c,(cellsFrom n sc.names []).lookup x=some c:=by
 have q:=PySem.W.cellsFrom_some sc.names n [] (.inl h);exact Option.isSome_iff_exists.mp q
def NR {CX:CXT} {P:Program} {w:World} {K:Frg} {mg:Str->Option Value} {base:Heap} {N ps:List Str} {qual:Str} {scope:Scope} {f:Addr} {cd:Value} {A:Around} {outer:List Env} {s s1:Shared} {H:Hp} {E:XK} {us:List Value} {vs:List V}
  (S:FnScope N ps scope) (hd:A.handled=none) (e0:Env0 P w K mg base A outer s H) (hl:vs.length=ps.length) (r:zS vs us)
  (x:InCallC s s.heap.objs.size (bindL (envOfC qual scope s.heap.objs.size f cd).kindOf (ps.zip us) λ_=>none) (cellsFrom (s.heap.objs.size+1) scope.names []) (bindC (envOfC qual scope s.heap.objs.size f cd).kindOf (ps.zip us) λ_=>none) s1) :
  Inv (J0 CX P w K mg base N qual scope f cd A outer s H E) [] (WM N vs) H s1:=by
 have hpl:ps.length<=N.length:=by have:=congrArg List.length S.pre;rw [List.length_take] at this;omega
 obtain ⟨h1,tk,rfl,hk⟩:=x.done;have noA:∀ b:Addr,b∉(J0 CX P w K mg base N qual scope f cd A outer s H E).ex:=λb z=>absurd (show b∈([]:List Addr) from z) (by simp);refine ⟨⟨e0.mod,S.kind,rfl,rfl,Nat.le_refl _,λy z c h1 h2=>?_,λy hy=>?_,λy c _ h=>?_,λ_=>hd,Around.frames_deeper e0.frames,.inr ⟨rfl,rfl⟩,λb z=>absurd z (noA b),e0.bs,e0.bsz,λb _ _=>noA b,λb z=>absurd z (noA b),e0.funs,e0.frf⟩,
  rfl,e0.bare,Un.kept hk,⟨_,x.toInCall.ns,λi y v h1 h2 h3=>?_⟩,λy c h=>⟨_,x.cell y c h⟩,e0.hok.fresh (Nat.le_refl _),λy c h=>?_,λp hp=>absurd (show p∈([]:List (Addr×Obj)) from hp) (by simp),e0.hok.kept hk,?_⟩
 ·exact name_of_addr x.apart (PySem.mem_of_lookup h1) (PySem.mem_of_lookup h2)
 ·have hy:scope.names.lookup y=some .cell\/scope.names.lookup y=some .free:=hy;rcases hy with hy|hy
  ·exact K4 hy
  ·exact absurd rfl (S.nofree _ (PySem.mem_of_lookup hy))
 ·exact Nat.le_of_lt (x.above y c (PySem.mem_of_lookup h))
 ·have hi:i<vs.length:=by
   unfold WM at h2;by_cases hi:i<vs.length
   ·exact hi
   ·rw [List.getElem?_append_right (by simpa using hi)] at h2;rw [List.getElem?_replicate] at h2;split at h2<;>cases h2
  have ha:vs[i]?=some v:=by
   unfold WM at h2;rw [List.getElem?_append_left (by simpa using hi),getElem?_map] at h2;cases e:vs[i]? with
   |none=>rw [e] at h2;cases h2
   |some a=>rw [e] at h2;cases h2;rfl
  obtain ⟨u,hu,rv⟩:=r.get ha;have hp:ps[i]?=some y:=by
   rw [← S.pre,List.getElem?_take_of_lt (by omega)];exact h1
  have ndP:ps.Nodup:=by rw [← S.pre];exact S.nd.sublist (List.take_sublist _ _)
  refine ⟨u,rv,?_⟩;rcases S.par y (mem_of_getElem? hp) with k|k
  ·exact .inl ⟨k,R0 ndP hp hu k⟩
  ·obtain ⟨c,e⟩:=K4 (n:=s.heap.objs.size+1) k;refine .inr ⟨.inl k,c,e,?_⟩;have q:=x.cell y c e;rw [RQ ndP hp hu (by show scope.names.lookup y≠_;rw [k];decide)] at q;exact q
 ·exact e0.hok.fresh (Nat.le_of_lt (x.above y c (PySem.mem_of_lookup h)))
 ·unfold WM;show _=N.length;rw [length_append,length_map,List.length_replicate];omega
def qi1 {CX:CXT} {P:Program} {w:World} {K:Frg} {mg:Str->Option Value} {base:Heap} {k:Nat} {f:Addr} {name qual:Str} {params:Arguments} {body:List Stmt} {scope:Scope} {dV kV doc pm cdv ct oc:Value} {an od:Option Addr}
  {osl:Array (Option Value)} {N ps:List Str} {sp:Sp} (lk:K.lookup f=some ⟨oc,od,.func (PySem.W.fnOf name qual params body scope dV kV doc pm an cdv ct),osl⟩) (hcd:PySem.W.codeIn K cdv qual=true) (S:FnScope N ps scope)
  (len:∀ vs H Q E,sp vs H Q E->vs.length=ps.length)
  (hbody:∀ (A:Around) (outer:List Env) (s:Shared) (H:Hp) (vs:List V) (Q:VK) (E:XK),Room k (A.deeper (envOfC qual scope s.heap.objs.size f cdv))->sp vs H Q E ->
   ∃ t,PSs (J0 CX P w K mg base N qual scope f cdv A outer s H E) body t/\t { nx:=λ_ H'=>Q .non H',rt:=Q } (WM N vs) H) :
  FnOk P w K mg base CX (k+1) f (PySem.W.fnOf name qual params body scope dV kV doc pm an cdv ct) ps sp:=by
 refine ⟨len,λA outer s H args us vs Q E hr e0 hb r hsp=>?_⟩;have hl:=len _ _ _ _ hsp;have KX:K.In s.heap:=e0.mod.kin.keeps λb o e=>(e0.bs b o e).1;have lim:s.heap.NoLimit:=e0.mod.nolimit.keeps λb o e=>(e0.bs b o e).1;have hkind:∀ y∈ps.zip us,scope.names.lookup y.1=some .local\/(scope.names.lookup y.1=some .cell/\((cellsFrom (s.heap.objs.size+1) scope.names []).lookup y.1).isSome=true):=λ⟨n,v⟩ hy=>by
  rcases S.par n (List.of_mem_zip hy).1 with q|q
  ·exact .inl q
  ·exact .inr ⟨q,PySem.W.cellsFrom_some _ _ _ (.inl q)⟩
 refine codeAny_call_function hr.depth (KX _ _ lk) rfl S.co S.gen rfl (PySem.W.codeRec_of KX hcd) (hb _ _ _ _ ?_);refine wpAny_newFunctionEnv_cells S.kind hkind λenv he s1 x=>?_;subst he;refine ⟨lim.keeps x.toInCall.keep,codeAny_func ?_⟩;obtain ⟨t,ht,hq⟩:=hbody A outer s H vs Q E (hr.deeper _) hsp;have I:Inv (J0 CX P w K mg base N qual scope f cdv A outer s H E) [] (WM N vs) H s1:=NR S hr.hd e0 hl r x;refine wpAny_mono (ht [] s1 (WM N vs) H _ I hq) (λfl s' hs=>?_) λe s' hs=>hs;have fin:∀ {σ':St} {H':Hp} {v:V} {u:Value},Inv (J0 CX P w K mg base N qual scope f cdv A outer s H E) [] σ' H' s'->ji v u->Q v H'->CE outer P w H s Q u s':=
  λ{σ' H' v u} J rv q=>⟨v,H',J.os,J.bare,J.base,J.hok,rv,q⟩
 cases fl with
 |ret u=>
  obtain ⟨v,σ',H',J,rv,q⟩:=hs;exact fin J rv q
 |next=>
  obtain ⟨σ',H',J,q⟩:=hs;exact fin (v:=V.non) (u:=Value.none) J rfl q
 |brk=>
  obtain ⟨_,_,_,q⟩:=hs;exact False.elim q
 |cont=>
  obtain ⟨_,_,_,q⟩:=hs;exact False.elim q
section
variable {X:Cx} {x:Str} {p pos:Pos} {e:Expr} {es:List Expr} {t:TA} {id T:String} {r:List V->Hp->VK->Prop}
def tCB (r:List V->Hp->VK->Prop) (t:TA):TE:=λσ H Q=>t σ H λvs H1=>r vs H1 Q
def CH (hc:EN X (.builtin id) r) (hg:Gl X x) (hm:X.mg x=none) (hv:bootBuiltins x=some (.builtin id)) (ha:PA X (e::es) t) (hn:x≠"__name__" := by decide) (hdb:(x==("__debug__" : Str))=false:=by decide)
  (he:starEach (e::es) X.env=(false,eval e X.env)::starEach es X.env:=by rfl) (hpl:(backTo pos (starEach es X.env)).any (·.1)=false:=by rfl):PE X (.Call (.Name x p) (e::es) [] pos) (tCB r t):=by
 intro pins s σ H Q I h;refine wpAny_Call_Name_kw (XO I hg hm hv ?_ hn hdb);exact PyProof.Rows.callWith_builtin1 (thn (ha pos pins s σ H _ I h) λus s1 ⟨vs,H1,I1,r1,q1⟩=>hc pins s1 σ H1 vs us Q I1 r1 q1) he hpl
def qaI (hc:EN X (.type T) r) (hg:Gl X x) (hm:X.mg x=none) (hv:bootBuiltins x=some (.type T)) (ha:PA X (e::es) t) (hn:x≠"__name__" := by decide) (hdb:(x==("__debug__" : Str))=false:=by decide)
  (he:starEach (e::es) X.env=(false,eval e X.env)::starEach es X.env:=by rfl) (hpl:(backTo pos (starEach es X.env)).any (·.1)=false:=by rfl):PE X (.Call (.Name x p) (e::es) [] pos) (tCB r t):=by
 intro pins s σ H Q I h;refine wpAny_Call_Name_kw (XO I hg hm hv ?_ hn hdb);exact PyProof.Rows.callWith_type1 (thn (ha pos pins s σ H _ I h) λus s1 ⟨vs,H1,I1,r1,q1⟩=>hc pins s1 σ H1 vs us Q I1 r1 q1) he hpl
end
end L2
namespace HT
open PySem PyProof.Rows
section
open PySem.SeqAt
open PySem.MeetsSeq PySem.MeetsSeq2 PySem.MeetsSeq3
end
section
variable {prog:Program} {w:World} {A:Around} {E:Value->Shared->Prop} {s:Shared}
def qfa {t b:Addr} {vs ws:List Value} {Q:Value->Shared->Prop} (ht:IsTup s.heap t vs.toArray) (hb:IsTup s.heap b ws.toArray) (hv:vs≠[])
  (h1:ws=[]->Q (.ref t) s) (h2:ws≠[]->Q (.ref s.heap.objs.size) { s with heap:=s.heap.push { cls:=.type "tuple",data:=.seq (vs++ws).toArray } })
  (hsz:vs.length+ws.length<=sizeLine):wpAny (model prog w) A (binaryOp .Add (.ref t) (.ref b)) Q E s:=by
 obtain ⟨⟨cls,dd,data,sl⟩,ho,hc,n,hd⟩:=id ht;obtain ⟨⟨cls2,dd2,data2,sl2⟩,ho2,hc2,n2,hd2⟩:=id hb;simp only at hc hd hc2 hd2;subst hc hd hc2 hd2;have e:vs.toArray++ws.toArray=(vs++ws).toArray:=by simp
 by_cases hw:ws=[]
 ·exact concat_meets ⟨_,ho,rfl⟩ ⟨_,ho2,rfl⟩ noFill_tuple_add seq_tuple_add PySem.F.slot_tuple_add PySem.F.entry_tuple_add (PySem.F.args_tuple_add_2 _ _)
   (tuple_addW1 t b vs.toArray ws.toArray n n2 dd dd2 sl sl2 (by simpa using hv) (by simp [hw])) ⟨ho,ho2,h1 hw⟩
 ·refine concat_meets ⟨_,ho,rfl⟩ ⟨_,ho2,rfl⟩ noFill_tuple_add seq_tuple_add PySem.F.slot_tuple_add PySem.F.entry_tuple_add (PySem.F.args_tuple_add_2 _ _)
   (tuple_addW2 t b vs.toArray ws.toArray n n2 dd dd2 sl sl2 (by simpa using hv) (by simpa using hw) (by rw [size_toArray,size_toArray];exact hsz)) ⟨ho,ho2,?_⟩
  rw [e];exact h2 hw
def sIx (n d:Nat):Option Int->Nat
 |none=>d
 |some v=>if v<0 then (v+(n:Int)).toNat else min v.toNat n
def qj2 (n d:Nat) (hd:d<=n) (o:Option Int):sIx n d o<=n:=by
 cases o with
 |none=>exact hd
 |some v=>
  show (if v<0 then (v+(n:Int)).toNat else min v.toNat n)<=n;by_cases hv:v<0
  ·rw [if_pos hv];omega
  ·rw [if_neg hv];exact Nat.min_le_right _ _
def qaP (v:Int) (n d:Nat):(if v<0 then max (v+(n:Int)) 0 else min v (n:Int))=((sIx n d (some v):Nat):Int):=by
 show (if v<0 then max (v+(n:Int)) 0 else min v (n:Int))=(((if v<0 then (v+(n:Int)).toNat else min v.toNat n):Nat):Int);by_cases hv:v<0
 ·simp only [if_pos hv];omega
 ·simp only [if_neg hv];omega
def LO (lo hi:Option Int) (n:Nat):Builtin.Slice.sliceAdjust lo hi 1 (n:Int)=(((sIx n 0 lo:Nat):Int),((sIx n n hi:Nat):Int)):=by
 have h1:¬ ((1:Int)<0):=by omega
 unfold Builtin.Slice.sliceAdjust;simp only [h1,if_false];refine Prod.ext ?_ ?_
 ·cases lo with
  |none=>rfl
  |some v=>exact qaP v n 0
 ·cases hi with
  |none=>rfl
  |some v=>exact qaP v n n
def LP (i j:Nat):Builtin.Slice.slicePlaces (i:Int) (j:Int) 1=j-i:=by
 unfold Builtin.Slice.slicePlaces;have h1:(1:Int) > 0:=by omega
 simp only [h1,if_true,Int.ediv_one];split<;>omega
def XB {v:Value} {o:Option Int} {Q:Option Int->Shared->Prop} (p:IsPart v o) (h:Q o s):wpAny (model prog w) A (Builtin.Slice.slicePartIndex v) Q E s:=by
 cases p with
 |none=>exact slicePart_none h
 |int i t=>exact slicePart_int h
def EM {sl:Addr} {vl vu:Value} {lo hi:Option Int} {n:Nat} {Q:Int×Int×Nat->Shared->Prop} (hs:s.heap.IsSliceOf sl vl vu .none) (pl:IsPart vl lo) (pu:IsPart vu hi)
  (h:Q (((sIx n 0 lo:Nat):Int),1,sIx n n hi-sIx n 0 lo) s):wpAny (model prog w) A (Builtin.Slice.sliceApplied (.ref sl) (pure (n:Int))) Q E s:=by
 obtain ⟨os,hos,hcs,hds⟩:=id hs;unfold Builtin.Slice.sliceApplied Builtin.Slice.sliceFields;refine wpAny_bind (wpAny_bind (wpAny_field hos hds (x:=vl) rfl (wpAny_bind (wpAny_field hos hds (x:=vu) rfl (wpAny_bind (wpAny_field hos hds (x:=.none) rfl (wpAny_pure ?_)))))));refine wpAny_bind (slicePart_none ?_);show wpAny _ _ (if ((1:Int)==0)=true then _ else _) _ _ s;rw [if_neg (by decide)];refine wpAny_bind (XB pl (wpAny_bind (XB pu (wpAny_bind (wpAny_pure ?_)))));show wpAny _ _ (match Builtin.Slice.sliceAdjust lo hi 1 (n:Int) with|(lo,hi)=>pure (lo,(1:Int),Builtin.Slice.slicePlaces lo hi 1)) _ _ s;rw [LO lo hi n];show wpAny _ _ (pure (((sIx n 0 lo:Nat):Int),(1:Int),Builtin.Slice.slicePlaces ((sIx n 0 lo:Nat):Int) ((sIx n n hi:Nat):Int) 1)) _ _ s;rw [LP];exact wpAny_pure h
def qcg (xs:Array Value) (i k:Nat):((List.range k).filterMap λ(m:Nat)=>xs[((i:Int)+(m:Int)*1).toNat]?).toArray=((xs.toList.drop i).take k).toArray:=by
 have e:(λ(m:Nat)=>xs[((i:Int)+(m:Int)*1).toNat]?)=λm=>xs[i+m]?:=by
  funext m;have:((i:Int)+(m:Int)*1).toNat=i+m:=by omega
  rw [this]
 rw [e];have:=pick_run xs i k;rw [List.filterMap_map] at this;have e2:((λx=>xs[x]?)∘λx=>i+x)=λm=>xs[i+m]?:=rfl;rw [e2] at this;rw [this]
def U2 {t sl:Addr} {items:Array Value} {vl vu:Value} {lo hi:Option Int} {Q:Value->Shared->Prop} (ht:IsTup s.heap t items) (hs:s.heap.IsSliceOf sl vl vu .none) (pl:IsPart vl lo) (pu:IsPart vu hi)
  (hw:¬ (sIx items.size 0 lo=0/\sIx items.size items.size hi=items.size))
  (h:Q (.ref s.heap.objs.size) { s with heap:=s.heap.push { cls:=.type "tuple",data:=.seq ((items.toList.drop (sIx items.size 0 lo)).take (sIx items.size items.size hi-sIx items.size 0 lo)).toArray } })
  (hsz:items.size<=sizeLine):wpAny (model prog w) A (getItem (.ref t) (.ref sl)) Q E s:=by
 have htake:sizeOk (.seq ((items.toList.drop (sIx items.size 0 lo)).take (sIx items.size items.size hi-sIx items.size 0 lo)).toArray):=by
  show ((items.toList.drop (sIx items.size 0 lo)).take (sIx items.size items.size hi-sIx items.size 0 lo)).toArray.size<=sizeLine;rw [size_toArray,List.length_take,List.length_drop,Array.length_toList];omega
 have hj:sIx items.size items.size hi<=items.size:=qj2 _ _ (Nat.le_refl _) hi;obtain ⟨os,hos,hcs,hds⟩:=id hs;have hTs:s.TypeIs (.ref sl) "slice" := ⟨os,hos,hcs⟩
 unfold getItem
 try with_reducible refine wpAny_holding ?_
 first|refine wpAny_bind (wpAny_pure ?_)|skip
 refine wpAny_bind (wpAny_sequenceKey ht.typeIs (by decide) ?_);refine wpAny_bind (wpAny_callSpecial?_slot (name:=Str.ofString "__getitem__") ht.typeIs PyProof.Rows.slot_tuple_getitem
  (wpAny_call_entry PyProof.Rows.slot_tuple_getitem ht.typeIs entry_tuple_getitem ?_ (args_tuple_getitem _ _)))
 show wpAny _ _ (Builtin.Tuple.tupleItemsOf (.ref t) >>= _) _ _ s;refine wpAny_bind (tupleItemsOf_ ht ?_);refine wpAny_bind (wpAny_typeOf hTs ?_);rw [if_pos (by decide)];refine wpAny_bind (EM hs pl pu ?_);have hno:¬ ((((sIx items.size 0 lo:Nat):Int)==0&&(1:Int)==1&&(sIx items.size items.size hi-sIx items.size 0 lo)==items.size)=true):=by
  intro q;rw [Bool.and_eq_true,Bool.and_eq_true] at q;have q1:((sIx items.size 0 lo:Nat):Int)=0:=eq_of_beq q.1.1;have q2:sIx items.size items.size hi-sIx items.size 0 lo=items.size:=eq_of_beq q.2;exact hw ⟨by omega,by omega⟩
 show wpAny _ _ (if (((sIx items.size 0 lo:Nat):Int)==0&&(1:Int)==1&&(sIx items.size items.size hi-sIx items.size 0 lo)==items.size)=true then _ else _) _ _ s;rw [if_neg hno,qcg]
 first
  |exact wpAny_bind (m:=Builtin.Tuple.tupleExact _) (wpAny_newObj_type (wpAny_pure ⟨_,rfl,wpAny_pure h⟩) htake)
  |exact wpAny_bind (m:=Builtin.Tuple.tupleExact _) (wpAny_newObj_type (wpAny_bind (wpAny_pure (wpAny_pure ⟨_,rfl,wpAny_pure h⟩))) htake)
  |exact wpAny_bind (wpAny_bind (m:=Builtin.Tuple.tupleExact _) (wpAny_newObj_type (wpAny_pure (wpAny_pure ⟨_,rfl,wpAny_pure h⟩)) htake))
  |exact wpAny_bind (wpAny_bind (m:=Builtin.Tuple.tupleExact _) (wpAny_newObj_type (wpAny_pure ⟨_,rfl,wpAny_pure h⟩) htake))
end
end HT
namespace L2
open PySem PySem.Spec PyProof.Rows
abbrev TO:=St->Hp->(Option Int->Hp->Prop)->Prop
def PO (X:Cx) (e:Option Expr) (t:TO):Prop:=
 ∀ (pins:List (Addr×Obj)) (s:Shared) (σ:St) (H:Hp) (Q:Option Int->Hp->Prop),Inv X pins σ H s->t σ H Q ->
  wpAny (model X.prog X.w) X.A (evalPart e X.env) (λu s'=>∃ o H',Inv X pins σ H' s'/\IsPart u o/\Q o H') X.xe s
def qfG:TO:=λ_ H Q=>Q none H
def qmV (t:TE):TO:=λσ H Q=>t σ H λx H1=>∃ i,x=.int i/\Q (some i) H1
section
variable {X:Cx} {e:Expr} {te:TE} {lo hi:Option Expr} {tl th:TO} {pos p2:Pos}
def qeX:PO X none qfG:=by
 intro pins s σ H Q I h;rw [evalPart_none];exact wpAny_pure ⟨none,H,I,.none,h⟩
def qeP (h:PE X e te):PO X (some e) (qmV te):=by
 intro pins s σ H Q I hw;rw [evalPart_some];refine thn (h pins s σ H _ I hw) λu s1 ⟨x,H1,I1,r1,q1⟩=>?_;obtain ⟨i,rfl,q⟩:=q1;obtain ⟨t,rfl⟩:=r1;exact ⟨some i,H1,I1,.int i t,q⟩
def SlR (X:Cx) (r:V->Option Int->Option Int->Hp->VK->Prop):Prop:=
 ∀ (pins:List (Addr×Obj)) (s:Shared) (σ:St) (H:Hp) (x:V) (v vl vu:Value) (lo hi:Option Int) (sl:Addr) (Q:VK),Inv X pins σ H s->ji x v->s.heap.IsSliceOf sl vl vu .none->IsPart vl lo->IsPart vu hi->r x lo hi H Q ->
  ∃ T id,typeLookup (.type T) "__getitem__" = pure (some (.builtin id))/\s.TypeIs v T/\wpAny (model X.prog X.w) X.A (getItem v (.ref sl)) (EP X pins σ Q) X.xe s
def SlR.or {r r':V->Option Int->Option Int->Hp->VK->Prop} (h:SlR X r) (h':SlR X r'):SlR X (λx lo hi H Q=>r x lo hi H Q\/r' x lo hi H Q):=by
 intro pins s σ H x v vl vu lo hi sl Q I rx hs pl pu q;rcases q with q|q
 ·exact h pins s σ H x v vl vu lo hi sl Q I rx hs pl pu q
 ·exact h' pins s σ H x v vl vu lo hi sl Q I rx hs pl pu q
def tSl (r:V->Option Int->Option Int->Hp->VK->Prop) (te:TE) (tl th:TO):TE:=λσ H Q=>te σ H λx H1=>tl σ H1 λl H2=>th σ H2 λu H3=>r x l u H3 Q
def qb8 {r:V->Option Int->Option Int->Hp->VK->Prop} (hr:SlR X r) (he:PE X e te) (hl:PO X lo tl) (hu:PO X hi th):PE X (.Subscript e (.Slice lo hi none p2) pos) (tSl r te tl th):=by
 intro pins s σ H Q I h;refine Subscript_ (thn (he pins s σ H _ I h) λv s1 ⟨x,H1,I1,r1,q1⟩=>?_);refine wpAny_Slice (thn (hl pins s1 σ H1 _ I1 q1) λvl s2 ⟨l,H2,I2,pl,q2⟩=>thn (hu pins s2 σ H2 _ I2 q2) λvu s3 ⟨u,H3,I3,pu,q3⟩=>?_);rw [evalPart_none];refine wpAny_pure ?_;have I4:Inv X pins σ H3 { s3 with heap:=s3.heap.push { cls:=.type "slice",data:=.fields #[vl,vu,.none] } }:=I3.kept (t':=s3.toks) λb ob q=>Heap.get?_push_of_some _ q;obtain ⟨T,id,hT,ht,hg⟩:=hr pins { s3 with heap:=s3.heap.push { cls:=.type "slice",data:=.fields #[vl,vu,.none] } } σ H3 x v vl vu l u s3.heap.objs.size Q I4 r1 (Heap.IsSliceOf.new ..) pl pu q3;show wpAny (model X.prog X.w) X.A (subscriptTail e (.Slice lo hi none p2) v (.ref s3.heap.objs.size)) (EP X pins σ Q) X.xe { s3 with heap:=s3.heap.push { cls:=.type "slice",data:=.fields #[vl,vu,.none] } };exact tail_any (ops:=[.ref s3.heap.objs.size,v]) ht hT hg (by with_unfolding_all rfl)
def qcy (xs:List V) (lo hi:Option Int):List V:=(xs.drop (HT.sIx xs.length 0 lo)).take (HT.sIx xs.length xs.length hi-HT.sIx xs.length 0 lo)
def WF (xs:List V) (lo hi:Option Int):(qcy xs lo hi).length<=xs.length:=by
 unfold qcy;rw [List.length_take,List.length_drop];omega
def qpk (K:Frg):V->Option Int->Option Int->Hp->VK->Prop:=λx lo hi H Q=>∃ a xs,x=.ref a/\SqT K H a xs /\
 ¬ (HT.sIx xs.length 0 lo=0/\HT.sIx xs.length xs.length hi=xs.length)/\∀ p,H p=none->Q (.ref p) (upd H p (.tup (qcy xs lo hi)))
def qg8:SlR X (qpk X.K):=by
 intro pins s σ H x v vl vu lo hi sl Q I rx hs pl pu h;obtain ⟨a,xs,rfl,hx,hw,q⟩:=h;cases rx;obtain ⟨its,r,ht,hz⟩:=I.tuple hx;have hlen:its.toArray.size=xs.length:=by rw [size_toArray];exact r.length.symm
 refine ⟨"tuple",_,PyProof.Rows.slot_tuple_getitem.lookup,ht.typeIs,?_⟩;refine HT.U2 ht hs pl pu (by rw [hlen];exact hw) ?_ (by rw [hlen];exact hz);rw [hlen];refine ⟨.ref s.heap.objs.size,_,I.laid (t':=s.toks) (o:=.tup (qcy xs lo hi)) (λb ob q=>Heap.get?_push_of_some _ q) (Nat.le_refl _) ?_,rfl,q _ (I.hok.fresh (Nat.le_refl _))⟩;exact ⟨Nat.le_trans (WF xs lo hi) hz,_,(r.drop (HT.sIx xs.length 0 lo)).take (HT.sIx xs.length xs.length hi-HT.sIx xs.length 0 lo),IsTup.new _ _⟩
def qkc (K:Frg):R2:=λx y H Q=>∃ a b xs ys,x=.ref a/\y=.ref b/\SqT K H a xs/\SqT K H b ys/\xs≠[]/\xs.length+ys.length<=sizeLine /\
 (ys=[]->Q (.ref a) H)/\(ys≠[]->∀ p,H p=none->Q (.ref p) (upd H p (.tup (xs++ys))))
def zS.nil_iff {xs:List V} {us:List Value} (r:zS xs us):us=[]↔xs=[]:=by
 cases r with
 |nil=>simp
 |cons _ _=>simp
def qfu:OpR X (binaryOp .Add) (qkc X.K):=by
 intro pins s σ H x y v u Q I rx ry h;obtain ⟨a,b,xs,ys,rfl,rfl,ha,hb,hx,hz,q1,q2⟩:=h;cases rx;cases ry;obtain ⟨its,r1,p1,_⟩:=I.tuple ha;obtain ⟨its2,r2,p2,_⟩:=I.tuple hb;refine HT.qfa p1 p2 (λz=>hx (r1.nil_iff.mp z)) (λz=>⟨.ref a,H,I,rfl,q1 (r2.nil_iff.mp z)⟩) (λz=>?_) (by rw [← r1.length,← r2.length];exact hz);refine ⟨.ref s.heap.objs.size,_,I.laid (t':=s.toks) (o:=.tup (xs++ys)) (λb ob q=>Heap.get?_push_of_some _ q) (Nat.le_refl _) ?_,rfl,q2 (λw=>z (r2.nil_iff.mpr w)) _ (I.hok.fresh (Nat.le_refl _))⟩;exact ⟨by rw [length_append];exact hz,_,r1.append r2,IsTup.new _ _⟩
end
def ixN (n:Nat) (i:Int):Option Nat:=if 0<=i then (if i<n then some i.toNat else none) else if -(n:Int)<=i then some (i+n).toNat else none
def atI {α:Type} (xs:List α) (i:Int):Option α:=(ixN xs.length i).bind λj=>xs[j]?
def qag {n:Nat} {i:Int} {j:Nat} (h:ixN n i=some j):seqIndex? i n=some j/\j<n/\-(n:Int)<=i/\i<n:=by
 unfold ixN at h;by_cases h0:0<=i
 ·rw [if_pos h0] at h;by_cases h1:i<n
  ·rw [if_pos h1] at h;have e:i.toNat=j:=Option.some.inj h;exact ⟨by rw [seqIndex_of h0 h1,e],by omega,by omega,h1⟩
  ·rw [if_neg h1] at h;cases h
 ·rw [if_neg h0] at h;by_cases h1:-(n:Int)<=i
  ·rw [if_pos h1] at h;have e:(i+n).toNat=j:=Option.some.inj h;exact ⟨by rw [seqIndex_neg (by omega) h1,e],by omega,h1,by omega⟩
  ·rw [if_neg h1] at h;cases h
def SZ {α:Type} {xs:List α} {i:Int} {v:α} (h:atI xs i=some v):∃ j,seqIndex? i xs.length=some j/\xs[j]?=some v/\j<xs.length/\-(xs.length:Int)<=i/\i<xs.length:=by
 unfold atI at h;cases e:ixN xs.length i with
 |none=>rw [e] at h;cases h
 |some j=>
  rw [e] at h;obtain ⟨h1,h2,h3,h4⟩:=qag e;exact ⟨j,h1,h,h2,h3,h4⟩
def TJ (b:Expr):Prop:=∀ o i,subscripted b false o i=operate [o,i] (getItem o i)
def IxR (X:Cx) (r:R2):Prop:=
 ∀ (value slice:Expr) (pins:List (Addr×Obj)) (s:Shared) (σ:St) (H:Hp) (x y:V) (v u:Value) (Q:VK),Inv X pins σ H s->ji x v->ji y u->r x y H Q ->
  subscripted slice false v u=operate [v,u] (getItem v u)->wpAny (model X.prog X.w) X.A (subscriptTail value slice v u) (EP X pins σ Q) X.xe s
def MtR (X:Cx) (id:String) (r:V->List V->Hp->VK->Prop):Prop:=
 ∀ (pins:List (Addr×Obj)) (s:Shared) (σ:St) (H:Hp) (x:V) (xs:List V) (v:Value) (us:List Value) (Q:VK),Inv X pins σ H s->ji x v->zS xs us->r x xs H Q ->
  wpAny (model X.prog X.w) X.A (call (.builtin id) (v::us)) (EP X pins σ Q) X.xe s
section
variable {X:Cx} {a b:Expr} {ta tb:TE} {pos:Pos}
def IxR.or {r r':R2} (h:IxR X r) (h':IxR X r'):IxR X (λx y H Q=>r x y H Q\/r' x y H Q):=by
 intro value slice pins s σ H x y v u Q I rx ry q hs;rcases q with q|q
 ·exact h value slice pins s σ H x y v u Q I rx ry q hs
 ·exact h' value slice pins s σ H x y v u Q I rx ry q hs
def qmC {r:R2} (hr:IxR X r) (ha:PE X a ta) (hb:PE X b tb) (hs:TJ b):PE X (.Subscript a b pos) (tOp r ta tb):=by
 intro pins s σ H Q I h;exact Subscript_ (qnh ha hb I h λv u s2 x y H2 I2 rx ry q=>hr a b pins s2 σ H2 x y v u Q I2 rx ry q (hs _ _))
def qo5 (K:Frg):R2:=λx y H Q=>∃ p xs i v,x=.ref p/\y=.int i/\SqL K H p xs/\atI xs i=some v/\Q v H
def qov (K:Frg):R2:=λx y H Q=>∃ p xs i v,x=.ref p/\y=.int i/\SqT K H p xs/\atI xs i=some v/\Q v H
def qoQ:R2:=λx y H Q=>∃ z i c,x=.str z/\y=.int i/\z.length<=sizeLine/\atI z.cps.toList i=some c/\Q (.str ⟨#[c]⟩) H
def qfr:IxR X (qo5 X.K):=by
 intro value slice pins s σ H x y v u Q I rx ry h hs;obtain ⟨p,xs,i,z,rfl,rfl,hq,he,q⟩:=h;cases rx;obtain ⟨t,rfl⟩:=ry;obtain ⟨its,r,pl,hz⟩:=I.list hq;obtain ⟨j,h1,h2,h3,h4,h5⟩:=SZ he;obtain ⟨w,ew,rw'⟩:=r.get h2;have hl:=r.length;have hn:=R7;have fin:EP X pins σ Q w s:=⟨z,H,I,rw',q⟩
 by_cases h0:0<=i
 ·have hj:i.toNat=j:=by
   rw [seqIndex_of h0 h5] at h1;exact Option.some.inj h1
  exact item_listR pl.isList h0 (by omega) (by rw [hj];simpa using ew) fin hs
 ·have hj:(i+(its.toArray.size:Int)).toNat=j:=by
   rw [seqIndex_neg (by omega) h4] at h1;rw [size_toArray,← hl];exact Option.some.inj h1
  exact subscriptTail_builtinR (x:=w) pl.isList.typeIs slot_list_getitem.lookup
   (wpAny_getItem_list_neg (Q:=λr s'=>r=w/\EP X pins σ Q r s') pl.isList (by omega) (by rw [size_toArray]<;>omega) (by omega) (by rw [hj];simpa using ew) ⟨rfl,fin⟩) hs
def qib:IxR X (qov X.K):=by
 intro value slice pins s σ H x y v u Q I rx ry h hs;obtain ⟨p,xs,i,z,rfl,rfl,hq,he,q⟩:=h;cases rx;obtain ⟨t,rfl⟩:=ry;obtain ⟨its,r,pl,hz⟩:=I.tuple hq;obtain ⟨j,h1,h2,h3,h4,h5⟩:=SZ he;obtain ⟨w,ew,rw'⟩:=r.get h2;have hl:=r.length;have hn:=R7;have fin:EP X pins σ Q w s:=⟨z,H,I,rw',q⟩
 exact subscriptTail_builtinR (x:=w) pl.typeIs slot_tuple_getitem.lookup
  (getItem_tuple (j:=j) (Q:=λr s'=>r=w/\EP X pins σ Q r s') pl (by omega) (by omega) (by rw [size_toArray,← hl];exact h1) (by simpa using ew) ⟨rfl,fin⟩) hs
def qht:IxR X qoQ:=by
 intro value slice pins s σ H x y v u Q I rx ry h hs;obtain ⟨z,i,c,rfl,rfl,hz,he,q⟩:=h;obtain ⟨t,rfl⟩:=rx;obtain ⟨t',rfl⟩:=ry;obtain ⟨j,h1,h2,h3,h4,h5⟩:=SZ he;have hl:z.cps.toList.length=z.length:=by simp [Str.length]
 rw [hl] at h1 h4 h5;have hn:=R7;exact tail_any (typeIs_str s z t) slot_str_getitem.lookup (getItem_str (c:=c) (by
  have e1:decide (i < -(2 ^ 63:Int))=false:=decide_eq_false (by omega);have e2:decide (i ≥ 2 ^ 63)=false:=decide_eq_false (by omega);rw [e1,e2,Bool.or_false]) (by rw [h1];simpa using h2) ⟨.str ⟨#[c]⟩,H,I.tok _,⟨_,rfl⟩,q⟩) hs
def rIx (K:Frg):R2:=λx y H Q=>qo5 K x y H Q\/qov K x y H Q\/qoQ x y H Q
def qkl:IxR X (rIx X.K):=qfr.or (qib.or qht)
def L9 (its:List Value) (n j:Nat) (u:Value):Obj.mapSeq (·.setIfInBounds j u) { cls:=.type "list",data:=.seq its.toArray n }={ cls:=.type "list",data:=.seq (its.set j u).toArray n }:=by
 simp [Obj.mapSeq]
def Inv.lst {pins:List (Addr×Obj)} {σ:St} {H:Hp} {s:Shared} {p:Addr} {xs:List V} (I:Inv X pins σ H s) (h:H p=some (.lst xs)) :
  ∃ (its:List Value) (n:Nat),zS xs its/\s.heap.get? p=some { cls:=.type "list",data:=.seq its.toArray n }/\xs.length<=sizeLine:=by
 obtain ⟨z,its,n,r,e⟩:=I.hok p _ h;exact ⟨its,n,r,e,z⟩
def Inv.lstUpd {pins:List (Addr×Obj)} {σ:St} {H:Hp} {s:Shared} {p:Addr} {xs ys:List V} {its its':List Value} {n n':Nat} {f:Obj->Obj} (I:Inv X pins σ H s) (h:H p=some (.lst xs))
  (ho:s.heap.get? p=some { cls:=.type "list",data:=.seq its.toArray n }) (hf:f { cls:=.type "list",data:=.seq its.toArray n }={ cls:=.type "list",data:=.seq its'.toArray n' }) (r:zS ys its') (hz:ys.length<=sizeLine) (t:Nat) :
  Inv X pins σ (upd H p (.lst ys)) { s with heap:=s.heap.update p f,toks:=t }:=by
 have e:(s.heap.update p f).get? p=some { cls:=.type "list",data:=.seq its'.toArray n' }:=by
  rw [Heap.get?_update_self f ho (by rw [hf]<;>rfl),hf]
 refine I.write (x:=p) (e:=p) (by rw [h];trivial) (.inl rfl) (λb u hb q=>(Heap.get?_update_other _ _ (Ne.symm hb)).trans q) ⟨_,e⟩ ?_;exact ⟨hz,its',n',r,e⟩
def qnj:V->V->V->Hp->(Hp->Prop)->Prop:=λo i v H Q=>∃ p xs k j,o=.ref p/\i=.int k/\H p=some (.lst xs)/\ixN xs.length k=some j/\Q (upd H p (.lst (xs.set j v)))
def qbZ:qnw X qnj:=by
 intro pins s σ H o i v ov iv u Q I ro ri rv h;obtain ⟨p,xs,k,j,rfl,rfl,hp,hj,q⟩:=h;cases ro;obtain ⟨t,rfl⟩:=ri;obtain ⟨its,n,r,ho,hz⟩:=I.lst hp;obtain ⟨h1,h2,h3,h4⟩:=qag hj;have hl:=r.length;have hn:=R7;have I':Inv X pins σ (upd H p (.lst (xs.set j v))) { s with heap:=s.heap.update p (Obj.mapSeq (·.setIfInBounds j u)) }:=
  I.lstUpd hp ho (L9 its n j u) (r.set rv j) (by rw [List.length_set];exact hz) s.toks
 by_cases h0:0<=k
 ·have hk:k.toNat=j:=by
   rw [seqIndex_of h0 h4] at h1;exact Option.some.inj h1
  exact PySem.W.ki_setAt ho h0 (by omega) (by rw [size_toArray,← hl];exact h4) (by rw [hk];exact ⟨_,I',q⟩)
 ·have hk:(k+(its.toArray.size:Int)).toNat=j:=by
   rw [seqIndex_neg (by omega) h3] at h1;rw [size_toArray,← hl];exact Option.some.inj h1
  exact PySem.W.ki_setBack ho (by omega) (by rw [size_toArray,← hl];exact h3) (by omega) (by rw [hk];exact ⟨_,I',q⟩)
def R6 (lo hi:Option Int) (n:Nat):(sliceBounds lo hi none n).1=((HT.sIx n 0 lo:Nat):Int)/\(sliceBounds lo hi none n).2.1=((HT.sIx n n hi:Nat):Int)/\(sliceBounds lo hi none n).2.2=1:=by
 refine ⟨?_,?_,rfl⟩
 ·cases lo with
  |none=>simp [sliceBounds,HT.sIx]
  |some i=>
   simp only [sliceBounds,HT.sIx,Option.getD_none,show (1:Int) > 0 by decide,if_true];by_cases h:i<0
   ·simp only [h,if_true]<;>omega
   ·simp only [h,if_false]<;>omega
 ·cases hi with
  |none=>simp [sliceBounds,HT.sIx]
  |some i=>
   simp only [sliceBounds,HT.sIx,Option.getD_none,show (1:Int) > 0 by decide,if_true];by_cases h:i<0
   ·simp only [h,if_true]<;>omega
   ·simp only [h,if_false]<;>omega
def CB (its:List Value) (lo hi:Option Int):slicePick its.toArray lo hi none=((its.drop (HT.sIx its.length 0 lo)).take (HT.sIx its.length its.length hi-HT.sIx its.length 0 lo)).toArray:=by
 obtain ⟨h1,h2,h3⟩:=R6 lo hi its.toArray.size;unfold slicePick;rw [h1,h2,h3];simp only [sliceRange_one,pick_run,size_toArray]<;>rfl
def qpG (K:Frg):V->Option Int->Option Int->Hp->VK->Prop:=λx lo hi H Q=>∃ a xs,x=.ref a/\SqL K H a xs/\∀ p,H p=none->Q (.ref p) (upd H p (.lst (qcy xs lo hi)))
def qfz:SlR X (qpG X.K):=by
 intro pins s σ H x v vl vu lo hi sl Q I rx hs pl pu h;obtain ⟨a,xs,rfl,hx,q⟩:=h;cases rx;obtain ⟨its,r,ht,hz⟩:=I.list hx;have hlen:=r.length;refine ⟨"list",_,slot_list_getitem.lookup,ht.isList.typeIs,?_⟩;refine wpAny_getItem_list_slice ht.isList hs pl pu .none (by simp) ?_ (by rw [size_toArray]<;>omega);rw [CB,← hlen];refine ⟨.ref s.heap.objs.size,_,I.laid (t':=s.toks) (o:=.lst (qcy xs lo hi)) (λb ob q=>Heap.get?_push_of_some _ q) (Nat.le_refl _) ?_,rfl,q _ (I.hok.fresh (Nat.le_refl _))⟩;exact ⟨Nat.le_trans (WF xs lo hi) hz,_,0,(r.drop (HT.sIx xs.length 0 lo)).take (HT.sIx xs.length xs.length hi-HT.sIx xs.length 0 lo),Heap.get?_push_size _ rfl⟩
def W0:V->Bool
 |.non=>true
 |.bl _=>true
 |.int _=>true
 |.str _=>true
 |_=>false
def eqV:V->V->Bool
 |.non,.non=>true
 |.bl a,.bl b=>a==b
 |.bl a,.int b=>(if a then 1 else 0)==b
 |.int a,.bl b=>a==(if b then 1 else 0)
 |.int a,.int b=>a==b
 |.str a,.str b=>a==b
 |_,_=>false
def qgI {A:Around} {s:Shared} {y x:V} {u v:Value} (ry:ji y u) (rx:ji x v) (fy:W0 y=true) (fx:W0 x=true):SeqAt.EqAt A s u v (eqV y x):=by
 cases y with
 |non=>
  cases ry;cases x with
  |non=>cases rx;exact SeqAt.EqAt.same _
  |bl b=>cases rx;exact SeqAt.EqAt.none_bool b
  |int b=>obtain ⟨t,rfl⟩:=rx;exact SeqAt.EqAt.none_int b t
  |str b=>obtain ⟨t,rfl⟩:=rx;exact SeqAt.EqAt.none_str b t
  |_=>exact absurd (show false=true from fx) Bool.false_ne_true
 |bl a=>
  cases ry;cases x with
  |non=>cases rx;exact SeqAt.EqAt.bool_none a
  |bl b=>cases rx;exact SeqAt.EqAt.bool_bool a b
  |int b=>obtain ⟨t,rfl⟩:=rx;exact SeqAt.EqAt.bool_int a b t
  |str b=>obtain ⟨t,rfl⟩:=rx;exact SeqAt.EqAt.bool_str a b t
  |_=>exact absurd (show false=true from fx) Bool.false_ne_true
 |int a=>
  obtain ⟨t',rfl⟩:=ry;cases x with
  |non=>cases rx;exact SeqAt.EqAt.int_none a t'
  |bl b=>cases rx;exact SeqAt.EqAt.int_bool a t' b
  |int b=>obtain ⟨t,rfl⟩:=rx;exact SeqAt.EqAt.int_int a t' b t
  |str b=>obtain ⟨t,rfl⟩:=rx;exact SeqAt.EqAt.int_str a t' b t
  |_=>exact absurd (show false=true from fx) Bool.false_ne_true
 |str a=>
  obtain ⟨t',rfl⟩:=ry;cases x with
  |non=>cases rx;exact SeqAt.EqAt.str_none a t'
  |bl b=>cases rx;exact SeqAt.EqAt.str_bool a t' b
  |int b=>obtain ⟨t,rfl⟩:=rx;exact SeqAt.EqAt.str_int a t' b t
  |str b=>obtain ⟨t,rfl⟩:=rx;exact SeqAt.EqAt.str_str a t' b t
  |_=>exact absurd (show false=true from fx) Bool.false_ne_true
 |_=>exact absurd (show false=true from fy) Bool.false_ne_true
def eqU (x:V) (u:Value):Bool:=match u with
 |.none=>eqV .non x
 |.bool b=>eqV (.bl b) x
 |.int i _=>eqV (.int i) x
 |.str z _=>eqV (.str z) x
 |_=>false
def qc0 {x y:V} {u:Value} (r:ji y u) (f:W0 y=true):eqU x u=eqV y x:=by
 cases y with
 |non=>cases r;rfl
 |bl b=>cases r;rfl
 |int i=>obtain ⟨t,rfl⟩:=r;rfl
 |str z=>obtain ⟨t,rfl⟩:=r;rfl
 |_=>exact absurd (show false=true from f) Bool.false_ne_true
def TD {x:V}:∀ {xs:List V} {us:List Value},zS xs us->xs.all W0=true->us.any (eqU x)=xs.any λy=>eqV y x
 |_,_,.nil,_=>rfl
 |y::xs,u::us,.cons r t,f=>by
  rw [List.all_cons,Bool.and_eq_true] at f;rw [List.any_cons,List.any_cons,qc0 r f.1,TD t f.2]
def X8 {A:Around} {s:Shared} {x:V} {v:Value} (rx:ji x v) (fx:W0 x=true):∀ {xs:List V} {us:List Value},zS xs us->xs.all W0=true->∀ u∈us,SeqAt.EqAt A s u v (eqU x u)
 |_,_,.nil,_=>λu hu=>by cases hu
 |y::xs,u::us,.cons r t,f=>λu' hu=>by
  rw [List.all_cons,Bool.and_eq_true] at f;rcases mem_cons.mp hu with rfl|hu
  ·rw [qc0 r f.1];exact qgI r rx f.1 fx
  ·exact X8 rx fx t f.2 u' hu
def inV (x:V) (xs:List V):Bool:=xs.any λy=>eqV y x
def rIn (K:Frg) (neg:Bool):R2:=λx y H Q=>∃ p xs,y=.ref p/\(SqL K H p xs\/SqT K H p xs)/\W0 x=true/\xs.all W0=true/\Q (.bl (if neg then !inV x xs else inV x xs)) H
def NO:OpR X (compareOp .In) (rIn X.K false):=by
 intro pins s σ H x y v u Q I rx ry h;obtain ⟨p,xs,rfl,hq,fx,fs,q⟩:=h;cases ry;rcases hq with hq|hq
 ·obtain ⟨its,r,pl,hz⟩:=I.list hq;refine SeqAt.in_listAt (eqU x) pl.isList (λw hw=>X8 rx fx r fs w (by simpa using hw)) ⟨.bl _,H,I,rfl,?_⟩;rw [show its.toArray.any (eqU x)=its.any (eqU x) by simp,TD r fs];exact q
 ·obtain ⟨its,r,pl,hz⟩:=I.tuple hq;refine SeqAt.in_tupleAt (eqU x) pl (λw hw=>X8 rx fx r fs w (by simpa using hw)) ⟨.bl _,H,I,rfl,?_⟩;rw [show its.toArray.any (eqU x)=its.any (eqU x) by simp,TD r fs];exact q
def zt:EN X (.type "tuple") (λxs H Q=>∃ p ys,xs=[.ref p]/\((SqL X.K H p ys/\∀ l,H l=none->Q (.ref l) (upd H l (.tup ys)))\/(SqT X.K H p ys/\Q (.ref p) H))):=by
 intro pins s σ H xs us Q I r h;obtain ⟨p,ys,rfl,h⟩:=h;obtain ⟨u,rfl,rx⟩:=NY r;cases rx;rcases h with ⟨hq,q⟩|⟨hq,q⟩
 ·obtain ⟨its,r',pl,hz⟩:=I.list hq;have hlen:=r'.length;refine call_tuple_list pl.isList (λh' kp=>?_) (by simp only [size_toArray]<;>omega);have I1:Inv X pins σ H { s with heap:=h' }:=I.kept (t':=s.toks) kp;have I2:Inv X pins σ (upd H h'.objs.size (.tup ys)) { s with heap:=h'.push { cls:=.type "tuple",data:=.seq its.toArray } }:=
   I1.laid (t':=s.toks) (λb o e=>Heap.get?_push_of_some _ e) (Nat.le_refl _) (show JY X.prog X.w _ _ _ (.tup ys) from ⟨hz,its,r',IsTup.new _ _⟩)
  exact ⟨.ref h'.objs.size,_,I2,rfl,q _ (I1.hok.fresh (Nat.le_refl _))⟩
 ·obtain ⟨its,r',pl,hz⟩:=I.tuple hq;exact call_tuple_same pl ⟨.ref p,H,I,rfl,q⟩
def tyV (K:Frg) (T:String) (x:V) (H:Hp):Prop:=match x with
 |.str _=>T="str"
 |.int _=>T="int"
 |.ref p=>(T="list"/\∃ xs,SqL K H p xs)\/(T="tuple"/\∃ o,K.lookup p=some o/\o.cls=.type "tuple"/\o.dict=none) ∨
   (T="dict"/\((∃ kvs,H p=some (.dK kvs))\/∃ kvs,H p=some (.dT kvs)))\/(T="set"/\∃ S n,H p=some (.set S n))
 |_=>False
def qlL {pins:List (Addr×Obj)} {σ:St} {H:Hp} {s:Shared} {T:String} {x:V} {v:Value} (I:Inv X pins σ H s) (r:ji x v) (ty:tyV X.K T x H) :
  s.TypeIs v T/\∀ a,v=.ref a->∃ ob,s.heap.get? a=some ob/\ob.dict=none:=by
 cases x with
 |str z=>
  obtain ⟨t,rfl⟩:=r;cases (show T="str" from ty);exact ⟨typeIs_str s z t,λ_ e=>nomatch e⟩
 |int i=>
  obtain ⟨t,rfl⟩:=r;cases (show T="int" from ty);exact ⟨typeIs_int s i t,λ_ e=>nomatch e⟩
 |ref p=>
  cases r;rcases ty with ⟨rfl,xs,hq⟩|⟨rfl,o,hk,hc,hd⟩|⟨rfl,hk⟩|⟨rfl,S,n,hk⟩
  ·obtain ⟨its,_,pl,_⟩:=I.list hq;refine ⟨pl.isList.typeIs,λa e=>?_⟩;cases e;obtain ⟨o,n,e,c,hd,_⟩:=pl;exact ⟨o,e,hd⟩
  ·refine ⟨⟨o,I.kIn p o hk,hc⟩,λa e=>?_⟩;cases e;exact ⟨o,I.kIn _ o hk,hd⟩
  ·have z:∃ o,s.heap.get? p=some o/\o.ExactDict:=by
    rcases hk with ⟨kvs,hk⟩|⟨kvs,hk⟩
    ·obtain ⟨_,_,_,_,o,_,_,e,ex,_⟩:=I.hok p _ hk;exact ⟨o,e,ex⟩
    ·obtain ⟨_,_,_,_,o,_,_,e,ex,_⟩:=I.hok p _ hk;exact ⟨o,e,ex⟩
   obtain ⟨o,e,ex⟩:=z;refine ⟨⟨o,e,ex.1⟩,λa e2=>?_⟩;cases e2;exact ⟨o,e,ex.2.1⟩
  ·obtain ⟨o,_,_,_,e,ex,_⟩:=I.hok p _ hk;refine ⟨⟨o,e,ex.1⟩,λa e2=>?_⟩;cases e2;exact ⟨o,e,ex.2.1⟩
 |_=>exact False.elim ty
def tBM (K:Frg) (T:String) (r:V->List V->Hp->VK->Prop) (to:TE) (t:TA):TE:=λσ H Q=>to σ H λx H1=>tyV K T x H1/\t σ H1 λxs H2=>r x xs H2 Q
variable {o e:Expr} {es:List Expr} {to:TE} {t:TA} {name:Str} {apos cpos:Pos} {T id:String} {r:V->List V->Hp->VK->Prop}
def qiA (pa:PlainAttrs T) (slot:Slot T name id) (hty:typeOf (.builtin id)=pure (.type "method_descriptor")) (hm:MtR X id r) (ho:PE X o to) (ha:PA X (e::es) t)
  (hbase:attributeBase o name X.env (eval o X.env)=eval o X.env:=by rfl)
  (hfew:((backTo cpos (starEach (e::es) X.env)).all (λx=>!x.1)&&(backToKw cpos (keywordEach [] X.env)).all (λx=>x.1.isSome)
   && decide ((e::es).length+([]:List Keyword).length+(if ([]:List Keyword).isEmpty then 0 else 1)<30))=true:=by rfl)
  (hline:(apos.endLine==cpos.line)=true:=by rfl) (hs:starEach (e::es) X.env=(false,eval e X.env)::starEach es X.env:=by rfl) (hplain:(backTo cpos (starEach es X.env)).any (·.1)=false:=by rfl) :
  PE X (.Call (.Attribute o name apos) (e::es) [] cpos) (tBM X.K T r to t):=by
 intro pins s σ H Q I h;refine wpAny_Call_method_late hbase hfew hline rfl (thn (ho pins s σ H _ I h) λv s1 ⟨x,H1,I1,r1,ty,q1⟩=>?_);obtain ⟨h1,h2⟩:=qlL I1 r1 ty;refine ⟨T,id,pa,slot,hty,h1,h2,?_⟩;have hA:=ha cpos pins s1 σ H1 _ I1 q1;rw [hs] at hA ⊢;refine Calls.callWith_builtin (by show (false||(backTo cpos (starEach es X.env)).any (·.1))=false;rw [hplain]<;>rfl) (Calls.evalArgs_plain ?_);exact thn hA λus s2 ⟨vs,H2,I2,r2,q2⟩=>hm pins s2 σ H2 x vs v us Q I2 r1 r2 q2
end
def MtM (X:Cx) (id:String) (r:V->List V->Hp->VK->Prop):Prop:=
 ∀ (pins:List (Addr×Obj)) (s:Shared) (σ:St) (H:Hp) (x:V) (xs:List V) (v:Value) (us:List Value) (Q:VK),Inv X pins σ H s->ji x v->zS xs us->r x xs H Q ->
  wpAny (model X.prog X.w) X.A (call (.builtin id) (v::us)) (EP X pins σ Q) X.xe s
def zS.one:∀ {x:V} {us:List Value},zS [x] us->∃ u,us=[u]/\ji x u
 |_,_,.cons r .nil=>⟨_,rfl,r⟩
def zS.two:∀ {x y:V} {us:List Value},zS [x,y] us->∃ u v,us=[u,v]/\ji x u/\ji y v
 |_,_,_,.cons r (.cons q .nil)=>⟨_,_,rfl,r,q⟩
def zS.reverse {xs:List V} {us:List Value} (h:zS xs us):zS xs.reverse us.reverse:=by
 induction h with
 |nil=>exact .nil
 |cons r t ih=>rw [List.reverse_cons,List.reverse_cons];exact zS.append ih (.cons r .nil)
section
variable {X:Cx} {pins:List (Addr×Obj)} {σ:St} {H:Hp} {s:Shared} {l b:Addr} {xs ys zs:List V}
def Inv.lset {its its':List Value} {n:Nat} {f:Array Value->Array Value} {t':Nat} (I:Inv X pins σ H s) (hH:H l=some (.lst xs))
  (e:s.heap.get? l=some { cls:=.type "list",data:=.seq its.toArray n }) (hf:f its.toArray=its'.toArray) (hv:zS ys its') (hz:ys.length<=sizeLine) :
  Inv X pins σ (upd H l (.lst ys)) { s with heap:=s.heap.update l (Obj.mapSeq f),toks:=t' }:=by
 have q:=PySem.IsL.update e f;rw [hf] at q;refine I.write (x:=l) (e:=l) (by rw [hH];exact trivial) (.inl rfl) (λb' u hb hu=>(Heap.get?_update_other s.heap (Obj.mapSeq f) (Ne.symm hb)).trans hu) ⟨_,q⟩ ?_;exact ⟨hz,its',_,hv,q⟩
def Inv.lnew {its:List Value} {t':Nat} (I:Inv X pins σ H s) (hv:zS ys its) (hz:ys.length<=sizeLine) :
  Inv X pins σ (upd H s.heap.objs.size (.lst ys)) { s with heap:=s.heap.push { cls:=.type "list",data:=.seq its.toArray },toks:=t' }:=
 I.laid (λ_ _ q=>Heap.get?_push_of_some _ q) (Nat.le_refl _) ⟨hz,its,0,hv,Heap.get?_push_size _ rfl⟩
def Inv.fresh (I:Inv X pins σ H s):H s.heap.objs.size=none:=I.hok.fresh (Nat.le_refl _)
def Inv.lstM (I:Inv X pins σ H s) (hH:H l=some (.lst xs)):xs.length<=sizeLine/\∃ (its:List Value) (n:Nat),zS xs its/\xs.length=its.length/\s.heap.get? l=some { cls:=.type "list",data:=.seq its.toArray n }:=by
 obtain ⟨z,its,n,r,e⟩:=I.hok l _ hH;exact ⟨z,its,n,r,r.length,e⟩
end
section
variable {X:Cx}
def M1:V->List V->Hp->VK->Prop:=λx vs H Q=>∃ l xs y,x=.ref l/\vs=[y]/\H l=some (.lst xs)/\xs.length<sizeLine/\Q .non (upd H l (.lst (xs++[y])))
def VR:MtM X "list.append" M1:=by
 intro pins s σ H x vs v us Q I rx rv h;obtain ⟨l,xs,y,rfl,rfl,hH,hz,q⟩:=h;cases rx;obtain ⟨u,rfl,ru⟩:=rv.one;obtain ⟨z,its,n,r,hl,e⟩:=I.lstM hH;refine call_meets F.slot_list_append ⟨_,e,rfl⟩ F.entry_list_append (F.args_list_append_2 _ _) (PySem.list_append l its.toArray n u (by rw [size_toArray];omega)) ⟨e,?_⟩;refine ⟨.non,_,I.lset (its':=its++[u]) hH e (by simp) (r.append (.cons ru .nil)) ?_,rfl,q⟩;rw [length_append,List.length_singleton];omega
def qoD:R2:=λx y H Q=>∃ l b xs zs,x=.ref l/\y=.ref b/\H l=some (.lst xs)/\H b=some (.lst zs)/\xs.length+zs.length<=sizeLine/\∀ p,H p=none->Q (.ref p) (upd H p (.lst (xs++zs)))
def qlf:OpR X (binaryOp .Add) qoD:=by
 intro pins s σ H x y v u Q I rx ry h;obtain ⟨l,b,xs,zs,rfl,rfl,hH,hB,hz,q⟩:=h;cases rx;cases ry;obtain ⟨z,its,n,r,hl,e⟩:=I.lstM hH;obtain ⟨z2,its2,n2,r2,hl2,e2⟩:=I.lstM hB;refine PySem.P.add_list e e2 ?_ (by rw [size_toArray,size_toArray];omega);have ea:its.toArray++its2.toArray=(its++its2).toArray:=by simp
 rw [ea];exact ⟨.ref _,_,I.lnew (t':=s.toks) (r.append r2) (by rw [length_append];omega),rfl,q _ I.fresh⟩
end
section
variable {prog:Program} {w:World} {A:Around} {E:Value->Shared->Prop} {s:Shared}
end
section
variable {X:Cx}
end
end L2
namespace Att
open PySem PySem.W PySem.Calls PyProof.Rows
def DN {P:Params} {h:Heap}:∀ (ns:List Int) (vs:List Value),WellAll P h vs (ns.map WData.int)->IntsAre vs ns:=by
 intro ns;induction ns with
 |nil=>
  intro vs w;rw [List.map_nil] at w;cases w;exact .nil
 |cons n ns ih=>
  intro vs w;rw [map_cons] at w;cases w with
  |cons a b=>
   cases a;exact .cons _ _ (ih _ b)
def M5 {l:OpenLaw} {n:Nat} (hn:l.most=some n) {P:Params} {h:Heap} {args:List WData} {vals:List Value}
  (hpre:l.row.toRowW.claim.pre args=true) (hwl:WellAll P h vals args) :
  ∃ a vs ns,vals=[Value.ref a]/\args=[WData.list (ns.map WData.int)]/\h.get? a=some { cls:=.type "list",data:=.seq vs.toArray }/\IntsAre vs ns/\ns.length<=n:=by
 have hsh:WShape.hasAll [] args [.list .int]=true:=(pre_splitW hpre).1;have hc:l.pre.holds [] { args:=args }=true:=(pre_splitW hpre).2;obtain ⟨d,r,rfl,h1,h2⟩:=hasAllW_cons hsh;obtain rfl:=hasAllW_nil h2;obtain ⟨xs,rfl,h3⟩:=hasW_list h1;obtain ⟨ns,rfl⟩:=items_int h3;have hlen:ns.length<=n:=by
  unfold OpenLaw.pre at hc;have h4:(WTm.not (.lt (.lit (.int (n:Int))) (.len (.arg 0)))).holds [] { args:=[.list (ns.map .int)] }=true:=by
   have h4:=(holds_andW hc).1;rw [hn] at h4;exact h4
  have h5:=condW_of h4 (w_not (w_lt w_lit (w_len_list (w_arg rfl))));rw [length_map] at h5;refine Nat.le_of_not_lt λq=>?_;have q':(n:Int)<((ns.length:Nat):Int):=by omega
  first
   | (rw [decide_eq_true q'] at h5;exact absurd h5 (by decide))
   | (simp at h5;omega)
 cases hwl with
 |cons w1 w2=>
  cases w2;cases w1 with
  |list ho hall=>exact ⟨_,_,ns,rfl,rfl,ho,DN ns _ hall,hlen⟩
def qa0 (l:OpenLaw) (args:List WData):l.row.toRowW.claim.post args (.bool true) args=true:=
 postW_of (r:=l.row.toRowW) (X:=(true==true))
  (show WShape.has [] (.bool true) .bool=true by first|rfl|decide|simp [WShape.has,WShape.arms,WShape.armsAll])
  (show (WTm.eq .res (.lit (.bool true))).value [] { args:=args,res:=some (.bool true),after:=args }=some (.bool (true==true)) from w_eq_bool (w_res rfl) w_lit) rfl
def SW {l:OpenLaw} {n:Nat} {q:Program} {loose:List Str} {XP:(Str->Option Value)->Heap->Prop} {YP:World->Heap->Prop} {d:DefRec}
  (hn:l.most=some n) (hdf:d.params.defaults=[])
  (call:∀ (w:World) (s₀ s₁:Shared) (mg mb:Str->Option Value) (fa:Addr) (o:Obj) (pm cd doc:Value) (a:Addr) (vs:List Value) (ns:List Int),
   Ground q loose [] XP w s₀ mg mb s₁.heap->YP w s₁.heap ->
   s₁.heap.get? fa=some o->o.data=.func (docDef d.name d.params d.body d.scope pm cd doc)->s₁.heap.CodeRec cd d.name->mg d.name=some (.ref fa) ->
   s₁.heap.get? a=some { cls:=.type "list",data:=.seq vs.toArray }->IntsAre vs ns->ns.length<=n->s₁.gens=#[] ->
   codeAny (model l.prog w) callerA (.call (.ref fa) ⟨[.ref a],[]⟩) (λr s'=>r=.ok (.ret (.bool true))/\OldK s₁.heap s'.heap/\s'.os=s₁.os/\AllBare s'.gens) s₁) :
  WalkO q loose XP YP l.row.toRowW d [] (λf vs=>PySem.call f vs):=by
 intro w s₀ s₁ mg mb G Y fa o pm cd doc dV kV ho hd hcd hD hmg hg args vals as hpre hlay hrd hwl hlo;obtain rfl:dV=.none:=Dflts.none hD hdf;obtain rfl:kV=.none:=Dflts.noKw hD;obtain ⟨a,vs,ns,rfl,rfl,hobj,hints,hlen⟩:=M5 hn hpre hwl;refine enter_call (codeAny_mono (call w s₀ s₁ mg mb fa o pm cd doc a vs ns G Y ho (fd_plain hd) hcd hmg hobj hints hlen hg) λr s' hq=>?_);obtain ⟨rfl,h2,h3,h4⟩:=hq;exact ⟨.inl ⟨.bool true,.bool true,[],rfl,λ_=>rfl,.bool true,qa0 l _,λ_=>⟨List.Pairwise.nil,λ_ hm=>(nomatch hm)⟩⟩,h2,h3,h4⟩
section
variable {prog:Program} {w:World} {A:Around} {E:Value->Shared->Prop} {s:Shared} {K:Frag}
end
end Att
namespace L2
open PySem PySem.Spec PyProof.Rows
def C5:∀ {vs:List Value} {ns:List Int},IntsAre vs ns->zS (ns.map V.int) vs
 |_,_,.nil=>.nil
 |_,_,.cons n t h=>.cons ⟨t,rfl⟩ (C5 h)
def qmh (H:Hp):Prop:=∀ b,H b=none\/∃ o xs,H b=some (.frz o (.lst xs))
def qbv {P:Program} {w:World} {K:Frg} {mg mb:Str->Option Value} {CX:CXT} {k:Nat} {fa a:Addr} {fd:FuncData} {x:Str} {sp:Sp} {s₁:Shared} {vs:List Value} {ns:List Int}
  (KX:K.In s₁.heap) (hns:s₁.heap.Ns mainGlobals mg) (hb:s₁.heap.Ns builtinsNs mb) (hbb:∀ x:Str,x≠"__name__" -> mb x=bootBuiltins x) (hlim:s₁.heap.NoLimit) (hg:s₁.gens=#[])
  (ha:s₁.heap.get? a=some { cls:=.type "list",data:=.seq vs.toArray }) (hi:IntsAre vs ns) (hl:ns.length<=sizeLine) (hr:Room k callerA)
  (F:∀ base:Heap,K.In base->base.Ns mainGlobals mg->FnOk P w K mg base CX k fa fd [x] sp) (hbind:∀ (s:Shared) (u:Value),BindsTo s fd ⟨[u],[]⟩ [(x,u)])
  (hsp:∀ H:Hp,qmh H->SqL K H a (ns.map V.int)->sp [.ref a] H (λv _=>v=.bl true) λ_ _ _=>False)
  (hCX:∀ H e s',CX [] H s₁ (λ_ _ _=>False) e s'->False) :
  codeAny (model P w) callerA (.call (.ref fa) ⟨[.ref a],[]⟩) (λr s'=>r=.ok (.ret (.bool true))/\OldK s₁.heap s'.heap/\s'.os=s₁.os/\AllBare s'.gens) s₁:=by
 have rv:=C5 hi;have lenV:=hi.length
 -- from an abstract heap in which nothing but the script may be tracked
 have core:∀ H:Hp,qmh H->SqL K H a (ns.map V.int)->HOk P w H s₁.heap->(∀ b,H b≠none->b=a)->(H a≠none->K.lookup a=none) ->
   codeAny (model P w) callerA (.call (.ref fa) ⟨[.ref a],[]⟩) (λr s'=>r=.ok (.ret (.bool true))/\OldK s₁.heap s'.heap/\s'.os=s₁.os/\AllBare s'.gens) s₁:=by
  intro H hO hS hok hA hK;have base_of:∀ {b:Addr} {o:Obj},s₁.heap.get? b=some o->H b=none->(qbA s₁.heap H).get? b=some o:=λe n=>qcr e n;have noA:∀ {b:Addr} {o:Obj} {es:Array DictEntry} {ep:Nat},s₁.heap.get? b=some o->o.data=.dict es ep->H b=none:=λ{b o es ep} e d=>by
   cases q:H b with
   |none=>rfl
   |some u=>
    have e':b=a:=hA b (by rw [q];simp);subst e';rw [ha] at e;cases e;have d':Data.seq vs.toArray _=Data.dict es ep:=d;cases d'
  have nsK:∀ {b:Addr} {m:Str->Option Value},s₁.heap.Ns b m->(qbA s₁.heap H).Ns b m:=λ{b m} ⟨o,es,ep,e,d,r⟩=>⟨o,es,ep,base_of e (noA e d),d,r⟩
  have hKb:K.In (qbA s₁.heap H):=λb o e=>base_of (KX b o e) (by
   cases q:H b with
   |none=>rfl
   |some u=>
    have e':b=a:=hA b (by rw [q];simp);subst e';rw [hK (by rw [q];simp)] at e;cases e)
  have hM:Mod K mg (qbA s₁.heap H):=⟨hKb,nsK hns,⟨mb,nsK hb,hbb⟩,let ⟨mc,h1,h2⟩:=hlim;⟨mc,nsK h1,h2⟩⟩
  have e0:Env0 P w K mg (qbA s₁.heap H) callerA [] s₁ H:=⟨rfl,hM,λb o e=>qeW e,Nat.le_of_eq (qaX _ _),trivial,λb hb=>absurd (show b∈([]:List Addr) from hb) (by simp),hok,.of_eq hg⟩
  refine codeAny_mono ((F _ hKb (nsK hns)).run callerA [] s₁ H ⟨[.ref a],[]⟩ [.ref a] [.ref a] _ _ hr e0 (hbind s₁ (.ref a)) (.cons rfl .nil) (hsp H hO hS)) λr s' h=>?_;cases r with
  |error e=>exact (hCX H e s' h).elim
  |ok fl=>
   cases fl with
   |next=>exact False.elim h
   |brk=>exact False.elim h
   |cont=>exact False.elim h
   |ret u=>
    obtain ⟨v,H',os,bare,un,hok',r',q⟩:=h;have q':v=.bl true:=q;subst q';obtain rfl:u=Value.bool true:=r';refine ⟨rfl,OldK.of_keep λb o e=>?_,os,bare⟩;cases q:H b with
    |none=>exact un.keep b o e q (by intro z;exact absurd (show b∈([]:List Addr) from z) (by simp)) (by simp)
    |some u=>
     rcases hO b with z|⟨ob,xs,z⟩
     ·rw [q] at z;cases z
     ·have z2:=un.frzs b ob _ z;obtain ⟨e1,_⟩:=hok b _ z;obtain ⟨e2,_⟩:=hok' b _ z2;rw [e] at e1;cases e1;exact e2
 cases hk:K.lookup a with
 |some o=>
  -- the script is one of the module's own objects
  have e:=KX a o hk;rw [ha] at e;cases e;refine core (λ_=>none) (λ_=>.inl rfl) (.inr ⟨_,vs.toArray,_,hk,rfl,rfl,rfl,by rw [size_toArray,lenV];exact hl,by simpa using rv⟩) (λb u z=>by have z':(none:Option HO)=some u:=z;cases z') (λb z=>absurd rfl z) λz=>absurd rfl z
 |none=>
  refine core (λb=>if b=a then some (.frz { cls:=.type "list",data:=.seq vs.toArray } (.lst (ns.map V.int))) else none) (λb=>?_) (.inl (.inr ⟨{ cls:=.type "list",data:=.seq vs.toArray },if_pos rfl⟩)) (λb u z=>?_) (λb z=>?_) λ_=>hk
  ·by_cases hb:b=a
   ·exact .inr ⟨_,_,if_pos hb⟩
   ·exact .inl (if_neg hb)
  ·by_cases hb:b=a
   ·have z':=(if_pos hb).symm.trans z;cases z';subst hb;exact ⟨ha,by rw [length_map];exact hl,vs,_,rv,ha⟩
   ·have z':=(if_neg hb).symm.trans z;cases z'
  ·by_cases hb:b=a
   ·exact hb
   ·exact absurd (if_neg hb) z
def qfo {l:PySem.W.OpenLaw} {n k:Nat} {q:Program} {loose:List Str} {XP:(Str->Option Value)->Heap->Prop} {YP:World->Heap->Prop} {d:DefRec} {K:Params->PySem.W.Frag} {CX:World->CXT} {sp:World->Sp} {x:Str}
  (hn:l.most=some n) (hn2:n<=sizeLine) (hdf:d.params.defaults=[]) (hr:Room k callerA)
  (hY:∀ (w:World) (h:Heap),YP w h->(K w.params).In h)
  (F:∀ (w:World) (mg:Str->Option Value) (fa:Addr) (h:Heap),(K w.params).In h->h.Ns mainGlobals mg->mg d.name=some (.ref fa) ->
   ∃ fd:FuncData,(∀ (s:Shared) (u:Value),BindsTo s fd ⟨[u],[]⟩ [(x,u)]) /\
    ∀ base:Heap,(K w.params).In base->base.Ns mainGlobals mg->FnOk l.prog w (K w.params) mg base (CX w) k fa fd [x] (sp w))
  (hsp:∀ (w:World) (H:Hp) (a:Addr) (ns:List Int),ns.length<=n->qmh H->SqL (K w.params) H a (ns.map V.int)->sp w [.ref a] H (λv _=>v=.bl true) λ_ _ _=>False)
  (hCX:∀ (w:World) (H:Hp) (s:Shared) (e:Value) (s':Shared),CX w [] H s (λ_ _ _=>False) e s'->False) :
  PySem.W.WalkO q loose XP YP l.row.toRowW d [] (λf vs=>PySem.call f vs):=by
 refine Att.SW hn hdf λw s₀ s₁ mg mb fa o pm cd doc a vs ns G Y ho hd hcd hmg hobj hints hlen hg=>?_;have KX:=hY w _ Y;obtain ⟨fd,hb,hF⟩:=F w mg fa _ KX G.T.g hmg;exact qbv KX G.T.g G.T.b G.T.builtins G.T.nolimit hg hobj hints (Nat.le_trans hlen hn2) hr hF hb (λH hO hS=>hsp w H a ns hlen hO hS) λH e s'=>hCX w H s₁ e s'
def jD (s:Stmt):Arguments:=match s with
 |.FunctionDef _ a _ _ _ _ _ _ _ _=>a
 |_=>{ posonlyargs:=[],args:=[],vararg:=none,kwonlyargs:=[],kw_defaults:=[],kwarg:=none,defaults:=[] }
def zk (s:Stmt):List Stmt:=match s with
 |.FunctionDef _ _ b _ _ _ _ _ _ _=>b
 |_=>[]
def qi (s:Stmt):Scope:=match s with
 |.FunctionDef _ _ _ _ _ _ sc _ _ _=>sc
 |_=>{ kind:=.function,names:=[],isGenerator:=false,isCoroutine:=false }
abbrev CX0:CXT:=λ_ _ _ _ _ _=>False
abbrev E0:XK:=λ_ _ _=>False
def qnf {X:Cx}:LI CX0 X E0:=λ_ _ _ _ _ _ _ h=>h.elim
structure Fun (K:Frg) (x qual:Str) (st:Stmt) (f:Addr) (fd:FuncData):Prop where
 ex:∃ (oc:Value) (od:Option Addr) (kV doc pm:Value) (an:Option Addr) (cdv ct:Value) (osl:Array (Option Value)),
  fd=PySem.W.fnOf x qual (jD st) (zk st) (qi st) .none kV doc pm an cdv ct/\K.lookup f=some ⟨oc,od,.func fd,osl⟩/\PySem.W.codeIn K cdv qual=true
 kp:PySem.W.keepIn K (.ref f)=true
section
variable {P:Program} {w:World} {K:Frg} {mg:Str->Option Value} {base:Heap}
def Fun.ok {x qual:Str} {st:Stmt} {f:Addr} {fd:FuncData} {N ps:List Str} {k:Nat} {sp:Sp} (F:Fun K x qual st f fd) (S:FnScope N ps (qi st)) (len:∀ vs H Q E,sp vs H Q E->vs.length=ps.length)
  (hbody:∀ (cdv:Value) (A:Around) (outer:List Env) (s:Shared) (H:Hp) (vs:List V) (Q:VK) (E:XK),Room k (A.deeper (envOfC qual (qi st) s.heap.objs.size f cdv))->sp vs H Q E ->
   ∃ t,PSs (J0 CX0 P w K mg base N qual (qi st) f cdv A outer s H E).nox (zk st) t/\t { nx:=λ_ H'=>Q .non H',rt:=Q } (WM N vs) H):FnOk P w K mg base CX0 (k+1) f fd ps sp:=by
 obtain ⟨oc,od,kV,doc,pm,an,cdv,ct,osl,rfl,lk,hcd⟩:=F.ex;refine qi1 lk hcd S len λA outer s H vs Q E hr hsp=>?_;obtain ⟨t,h,q⟩:=hbody cdv A outer s H vs Q E hr hsp;exact ⟨t,h.nox,q⟩
def Fun.binds {x qual:Str} {st:Stmt} {f:Addr} {fd:FuncData} {ps:List Str} (F:Fun K x qual st f fd)
  (h:∀ (kV doc pm:Value) (an:Option Addr) (cdv ct:Value) (us:List Value),us.length=ps.length->bindArgs (PySem.W.fnOf x qual (jD st) (zk st) (qi st) .none kV doc pm an cdv ct) ⟨us,[]⟩=pure (ps.zip us)):zd K fd ps []:=by
 obtain ⟨oc,od,kV,doc,pm,an,cdv,ct,osl,rfl,lk,hcd⟩:=F.ex;exact .all (h kV doc pm an cdv ct)
def qlZ {x qual:Str} {st:Stmt} {f:Addr} {oc:Value} {od an:Option Addr} {osl:Array (Option Value)} {kV doc pm cdv ct:Value} (l:K.lookup f=some ⟨oc,od,.func (PySem.W.fnOf x qual (jD st) (zk st) (qi st) .none kV doc pm an cdv ct),osl⟩)
  (c:PySem.W.codeIn K cdv qual=true) (k:PySem.W.keepIn K (.ref f)=true):Fun K x qual st f (PySem.W.fnOf x qual (jD st) (zk st) (qi st) .none kV doc pm an cdv ct):=⟨⟨oc,od,kV,doc,pm,an,cdv,ct,osl,rfl,l,c⟩,k⟩
end
section
variable {X:Cx}
end
def qmg {A B:Prop} (h:B):if false=true then A else B:=by
 rw [if_neg Bool.false_ne_true];exact h
def qmr {A B:Prop} (h:A):if true=true then A else B:=by
 rw [if_pos rfl];exact h
end L2
set_option maxHeartbeats 4000000
namespace L3
open PySem PySem.Spec PyProof.Rows L2
set_option genInjectivity true in
inductive T where
 |non|bl (b:Bool)|int (i:Int)|str (x:Str)|tup (xs:List T)|ref (a:Addr)
inductive O where
 |lst (xs:List T)
 |frz (xs:List T)
 |dct (kvs:List (Int×T))
 |exn (C:Addr)
abbrev Gp:=Addr->Option O
def gu (G:Gp) (a:Addr) (o:O):Gp:=λb=>if b=a then some o else G b
def qp {G:Gp} {a:Addr} {o:O}:gu G a o a=some o:=by unfold gu;rw [if_pos rfl]
def zu {G:Gp} {a b:Addr} {o:O} (h:b≠a):gu G a o b=G b:=by unfold gu;rw [if_neg h]
mutual
inductive Rp (K:Frg) (H:Hp):T->V->Prop
 |non:Rp K H .non .non
 |bl (b:Bool):Rp K H (.bl b) (.bl b)
 |int (i:Int):Rp K H (.int i) (.int i)
 |str (x:Str):Rp K H (.str x) (.str x)
 |ref (a:Addr):Rp K H (.ref a) (.ref a)
 |tup {xs:List T} {a:Addr} {vs:List V}:SqT K H a vs->Rps K H xs vs->Rp K H (.tup xs) (.ref a)
inductive Rps (K:Frg) (H:Hp):List T->List V->Prop
 |nil:Rps K H [] []
 |cons {x:T} {v:V} {xs:List T} {vs:List V}:Rp K H x v->Rps K H xs vs->Rps K H (x::xs) (v::vs)
end
def IsX (a C:Addr) (h:Heap):Prop:=∃ o vs,h.get? a=some o/\o.cls=.ref C/\o.data=.fields vs
def OR (K:Frg) (H:Hp) (a:Addr):O->Prop
 |.lst xs=>∃ vs,H a=some (.lst vs)/\Rps K H xs vs
 |.frz xs=>∃ vs,(∃ o,H a=some (.frz o (.lst vs)))/\Rps K H xs vs
 |.dct kvs=>∃ vs,H a=some (.dK ((kvs.map λp=>(Sum.inl p.1:Key)).zip vs))/\Rps K H (kvs.map λp=>p.2) vs
 |.exn C=>H a=some (.ext (IsX a C))
def HR (K:Frg) (G:Gp) (H:Hp):Prop:=∀ a o,G a=some o->OR K H a o
def Kp (G:Gp) (H:Hp) (G':Gp) (H':Hp):Prop:=∀ a o,H a=some o->G a=none->H' a=some o/\G' a=none
def Kp.refl {G:Gp} {H:Hp}:Kp G H G H:=λ_ _ h g=>⟨h,g⟩
def Kp.trans {G G1 G2:Gp} {H H1 H2:Hp} (a:Kp G H G1 H1) (b:Kp G1 H1 G2 H2):Kp G H G2 H2:=λx o h g=>
 let ⟨h1,g1⟩:=a x o h g;b x o h1 g1
section
variable {K:Frg} {G G':Gp} {H H':Hp}
def HR.noneT (hr:HR K G H) {a:Addr} {vs:List V} (h:Rd H a (.tup vs)):G a=none:=by
 cases e:G a with
 |none=>rfl
 |some o=>
  have q:=hr a o e;cases o with
  |lst xs=>
   obtain ⟨us,q1,_⟩:=q;rcases h with h|⟨ob,h⟩<;>(rw [q1] at h;cases h)
  |frz xs=>
   obtain ⟨us,⟨o1,q1⟩,_⟩:=q;rcases h with h|⟨ob,h⟩<;>(rw [q1] at h;cases h)
  |dct kvs=>
   obtain ⟨us,q1,_⟩:=q;rcases h with h|⟨ob,h⟩<;>(rw [q1] at h;cases h)
  |exn C=>
   have q1:H a=some (.ext (IsX a C)):=q;rcases h with h|⟨ob,h⟩<;>(rw [q1] at h;cases h)
def CY (hr:HR K G H) (k:Kp G H G' H') {a:Addr} {vs:List V} (h:SqT K H a vs):SqT K H' a vs:=by
 rcases h with h|h
 ·have g:=hr.noneT h;rcases h with h|⟨o,h⟩
  ·exact .inl (.inl (k a _ h g).1)
  ·exact .inl (.inr ⟨o,(k a _ h g).1⟩)
 ·exact .inr h
mutual
def Rp.keep (hr:HR K G H) (k:Kp G H G' H'):∀ {x:T} {v:V},Rp K H x v->Rp K H' x v
 |_,_,.non=>.non
 |_,_,.bl b=>.bl b
 |_,_,.int i=>.int i
 |_,_,.str x=>.str x
 |_,_,.ref a=>.ref a
 |_,_,.tup h hs=>.tup (CY hr k h) (Rps.keep hr k hs)
def Rps.keep (hr:HR K G H) (k:Kp G H G' H'):∀ {x:List T} {v:List V},Rps K H x v->Rps K H' x v
 |_,_,.nil=>.nil
 |_,_,.cons a b=>.cons (Rp.keep hr k a) (Rps.keep hr k b)
end
def Rps.length:∀ {xs:List T} {vs:List V},Rps K H xs vs->xs.length=vs.length
 |_,_,.nil=>rfl
 |_,_,.cons _ b=>by simp [Rps.length b]
def Rps.get:∀ {xs:List T} {vs:List V} {i:Nat} {x:T},Rps K H xs vs->xs[i]?=some x->∃ v,vs[i]?=some v/\Rp K H x v
 |_,_,_,_,.nil,e=>by simp at e
 |_,_,0,_,.cons r _,e=>by simp at e;subst e;exact ⟨_,rfl,r⟩
 |_,_,i+1,x,.cons _ t,e=>by
  obtain ⟨u,h1,h2⟩:=Rps.get (i:=i) (x:=x) t (by simpa using e);exact ⟨u,by simpa using h1,h2⟩
def Rps.append:∀ {xs ys:List T} {vs us:List V},Rps K H xs vs->Rps K H ys us->Rps K H (xs++ys) (vs++us)
 |_,_,_,_,.nil,s=>s
 |_,_,_,_,.cons r t,s=>.cons r (Rps.append t s)
def Rps.take:∀ {xs:List T} {vs:List V} (n:Nat),Rps K H xs vs->Rps K H (xs.take n) (vs.take n)
 |_,_,0,_=>.nil
 |_,_,_+1,.nil=>.nil
 |_,_,n+1,.cons r t=>.cons r (Rps.take n t)
def Rps.drop:∀ {xs:List T} {vs:List V} (n:Nat),Rps K H xs vs->Rps K H (xs.drop n) (vs.drop n)
 |_,_,0,r=>r
 |_,_,_+1,.nil=>.nil
 |_,_,n+1,.cons _ t=>Rps.drop n t
def Rps.set {x:T} {v:V} (r:Rp K H x v):∀ {xs:List T} {vs:List V} (i:Nat),Rps K H xs vs->Rps K H (xs.set i x) (vs.set i v)
 |_,_,_,.nil=>.nil
 |_,_,0,.cons _ t=>.cons r t
 |_,_,i+1,.cons q t=>.cons q (Rps.set r i t)
def Rps.ints:∀ (ns:List Int),Rps K H (ns.map T.int) (ns.map V.int)
 |[]=>.nil
 |n::r=>.cons (.int n) (Rps.ints r)
def Rps.reverse {xs:List T} {vs:List V} (h:Rps K H xs vs):Rps K H xs.reverse vs.reverse:=by
 induction xs generalizing vs with
 |nil=>cases h;exact .nil
 |cons x r ih=>
  cases h with
  |cons a b=>
   rw [List.reverse_cons,List.reverse_cons];exact (ih b).append (.cons a .nil)
def Kp.laid {p:Addr} {ho:HO} (hp:H p=none):Kp G H G (upd H p ho):=λa o h g=>⟨by rw [qu (qy h hp)];exact h,g⟩
def HR.free (hr:HR K G H) {p:Addr} (hp:H p=none):G p=none:=by
 cases e:G p with
 |none=>rfl
 |some o=>
  have q:=hr p o e;cases o with
  |lst xs=>obtain ⟨us,q1,_⟩:=q;rw [hp] at q1;cases q1
  |frz xs=>obtain ⟨us,⟨o1,q1⟩,_⟩:=q;rw [hp] at q1;cases q1
  |dct kvs=>obtain ⟨us,q1,_⟩:=q;rw [hp] at q1;cases q1
  |exn C=>have q1:H p=some (.ext (IsX p C)):=q;rw [hp] at q1;cases q1
def OR.keep (hr:HR K G H) (k:Kp G H G' H') {a:Addr} {o:O} (h:OR K H a o) (e:∀ u,H a=some u->H' a=some u):OR K H' a o:=by
 cases o with
 |lst xs=>obtain ⟨vs,h1,h2⟩:=h;exact ⟨vs,e _ h1,h2.keep hr k⟩
 |frz xs=>obtain ⟨vs,⟨o,h1⟩,h2⟩:=h;exact ⟨vs,⟨o,e _ h1⟩,h2.keep hr k⟩
 |dct kvs=>obtain ⟨vs,h1,h2⟩:=h;exact ⟨vs,e _ h1,h2.keep hr k⟩
 |exn C=>exact e _ h
def HR.laid (hr:HR K G H) {p:Addr} {ho:HO} (hp:H p=none):HR K G (upd H p ho):=λa o e=>
 (hr a o e).keep hr (Kp.laid hp) λu h=>by rw [qu (qy h hp)];exact h
def Kp.newL {p:Addr} {ho:HO} {o':O} (hp:H p=none):Kp G H (gu G p o') (upd H p ho):=λa o h g=>
 ⟨by rw [qu (qy h hp)];exact h,by rw [zu (qy h hp)];exact g⟩
def HR.newL (hr:HR K G H) {p:Addr} {xs:List T} {vs:List V} (hp:H p=none) (r:Rps K H xs vs):HR K (gu G p (.lst xs)) (upd H p (.lst vs)):=λa o e=>by
 by_cases ha:a=p
 ·subst ha;rw [qp] at e;cases e;exact ⟨vs,qT,r.keep hr (Kp.laid hp)⟩
 ·rw [zu ha] at e;exact (hr a o e).keep hr (Kp.laid hp) λu h=>by rw [qu ha];exact h
def Kp.wr {p:Addr} {ho:HO} {o o':O} (g:G p=some o):Kp G H (gu G p o') (upd H p ho):=λa ob h ga=>by
 have ha:a≠p:=by intro e;subst e;rw [g] at ga;cases ga
 exact ⟨by rw [qu ha];exact h,by rw [zu ha];exact ga⟩
def HR.wr (hr:HR K G H) {p:Addr} {ys xs:List T} {vs:List V} (g:G p=some (.lst ys)) (r:Rps K H xs vs):HR K (gu G p (.lst xs)) (upd H p (.lst vs)):=λa o e=>by
 have k:Kp G H (gu G p (.lst xs)) (upd H p (.lst vs)):=Kp.wr g;by_cases ha:a=p
 ·subst ha;rw [qp] at e;cases e;exact ⟨vs,qT,r.keep hr k⟩
 ·rw [zu ha] at e;exact (hr a o e).keep hr k λu h=>by rw [qu ha];exact h
end
abbrev St3:=List (Option T)
structure Rel (K:Frg) (τ:St3) (G:Gp) (σ:L2.St) (H:Hp):Prop where
 hp:HR K G H
 len:τ.length=σ.length
 st:∀ (i:Nat) (t:T),τ[i]?=some (some t)->∃ v,σ[i]?=some (some v)/\Rp K H t v
def Rel.next {K:Frg} {τ:St3} {G G':Gp} {σ:L2.St} {H H':Hp} (r:Rel K τ G σ H) (hr:HR K G' H') (k:Kp G H G' H'):Rel K τ G' σ H':=
 ⟨hr,r.len,λi t e=>let ⟨v,h1,h2⟩:=r.st i t e;⟨v,h1,h2.keep r.hp k⟩⟩
def Rel.set {K:Frg} {τ:St3} {G:Gp} {σ:L2.St} {H:Hp} {t:T} {v:V} (r:Rel K τ G σ H) (i:Nat) (h:Rp K H t v):Rel K (τ.set i (some t)) G (σ.set i (some v)) H:=by
 refine ⟨r.hp,by simp [r.len],λj u e=>?_⟩;by_cases hij:i=j
 ·subst hij;rw [List.getElem?_set_self'] at e;have hl:i<τ.length:=by
   cases q:τ[i]? with
   |none=>rw [q] at e;cases e
   |some z=>exact (List.getElem?_eq_some_iff.mp q).1
  rw [getElem?_eq_getElem hl] at e;have e':t=u:=by simpa using e
  subst e';exact ⟨v,by rw [List.getElem?_set_self (by rw [← r.len];exact hl)],h⟩
 ·rw [List.getElem?_set_ne hij] at e;obtain ⟨w,h1,h2⟩:=r.st j u e;exact ⟨w,by rw [List.getElem?_set_ne hij];exact h1,h2⟩
abbrev Q3:=T->Gp->Prop
abbrev TE3:=St3->Gp->Q3->Prop
abbrev TT3:=St3->Gp->(Bool->Gp->Prop)->Prop
abbrev TA3:=St3->Gp->(List T->Gp->Prop)->Prop
def Aft (K:Frg) (G:Gp) (H:Hp) (q:Q3) (Q:VK):Prop:=∀ x G',q x G'->∀ v H',Rp K H' x v->HR K G' H'->Kp G H G' H'->Q v H'
def qmj (K:Frg) (G:Gp) (H:Hp) (q:Bool->Gp->Prop) (Q:Bool->Hp->Prop):Prop:=∀ x G',q x G'->∀ H',HR K G' H'->Kp G H G' H'->Q x H'
def qpH (K:Frg) (G:Gp) (H:Hp) (q:List T->Gp->Prop) (Q:List V->Hp->Prop):Prop:=∀ x G',q x G'->∀ v H',Rps K H' x v->HR K G' H'->Kp G H G' H'->Q v H'
def lE (K:Frg) (t:TE3):TE:=λσ H Q=>∃ τ G q,Rel K τ G σ H/\t τ G q/\Aft K G H q Q
def lT (K:Frg) (t:TT3):TT:=λσ H Q=>∃ τ G q,Rel K τ G σ H/\t τ G q/\qmj K G H q Q
def lA (K:Frg) (t:TA3):TA:=λσ H Q=>∃ τ G q,Rel K τ G σ H/\t τ G q/\qpH K G H q Q
abbrev E3 (X:Cx) (e:Expr) (t:TE3):Prop:=PE X e (lE X.K t)
abbrev C3 (X:Cx) (e:Expr) (t:TT3):Prop:=PT X e (lT X.K t)
abbrev W3 (X:Cx) (e:Expr) (t:TT3):Prop:=PW X e (lT X.K t)
abbrev A3 (X:Cx) (es:List Expr) (t:TA3):Prop:=PA X es (lA X.K t)
def Aft.back {K:Frg} {G G1:Gp} {H H1:Hp} {q:Q3} {Q:VK} (a:Aft K G H q Q) (k:Kp G H G1 H1):Aft K G1 H1 q Q:=λx G' h v H' r hr k'=>a x G' h v H' r hr (k.trans k')
def qmj.back {K:Frg} {G G1:Gp} {H H1:Hp} {q:Bool->Gp->Prop} {Q:Bool->Hp->Prop} (a:qmj K G H q Q) (k:Kp G H G1 H1):qmj K G1 H1 q Q:=λx G' h H' hr k'=>a x G' h H' hr (k.trans k')
def EZ {X:Cx} {e:Expr} {t t':TE} (h:PE X e t) (w:∀ σ H Q,t' σ H Q->t σ H Q):PE X e t':=λpins s σ H Q I q=>h pins s σ H Q I (w σ H Q q)
def qm6 {X:Cx} {e:Expr} {t t':TT} (h:PT X e t) (w:∀ σ H Q,t' σ H Q->t σ H Q):PT X e t':=λpins s σ H Q I q=>h pins s σ H Q I (w σ H Q q)
def qpc {X:Cx} {e:Expr} {t t':TT} (h:PW X e t) (w:∀ σ H Q,t' σ H Q->t σ H Q):PW X e t':=λwh pins s σ H Q I q=>h wh pins s σ H Q I (w σ H Q q)
def qoO {X:Cx} {e:List Expr} {t t':TA} (h:PA X e t) (w:∀ σ H Q,t' σ H Q->t σ H Q):PA X e t':=λpos pins s σ H Q I q=>h pos pins s σ H Q I (w σ H Q q)
def zw {K:Frg} {ta:TE3} {τ:St3} {G:Gp} {σ:L2.St} {H:Hp} {q:Q3} {Q:VK} (r:Rel K τ G σ H) (h:ta τ G q)
  (n:∀ x G1,q x G1->∀ v H1,Rp K H1 x v->HR K G1 H1->Kp G H G1 H1->Rel K τ G1 σ H1->Q v H1):lE K ta σ H Q:=
 ⟨τ,G,q,r,h,λx G1 hq v H1 rx hr k=>n x G1 hq v H1 rx hr k (r.next hr k)⟩
def XN {K:Frg} {ta:TT3} {τ:St3} {G:Gp} {σ:L2.St} {H:Hp} {q:Bool->Gp->Prop} {Q:Bool->Hp->Prop} (r:Rel K τ G σ H) (h:ta τ G q)
  (n:∀ x G1,q x G1->∀ H1,HR K G1 H1->Kp G H G1 H1->Rel K τ G1 σ H1->Q x H1):lT K ta σ H Q:=
 ⟨τ,G,q,r,h,λx G1 hq H1 hr k=>n x G1 hq H1 hr k (r.next hr k)⟩
def Q6 {K:Frg} {ta:TA3} {τ:St3} {G:Gp} {σ:L2.St} {H:Hp} {q:List T->Gp->Prop} {Q:List V->Hp->Prop} (r:Rel K τ G σ H) (h:ta τ G q)
  (n:∀ x G1,q x G1->∀ v H1,Rps K H1 x v->HR K G1 H1->Kp G H G1 H1->Rel K τ G1 σ H1->Q v H1):lA K ta σ H Q:=
 ⟨τ,G,q,r,h,λx G1 hq v H1 rx hr k=>n x G1 hq v H1 rx hr k (r.next hr k)⟩
section
variable {X:Cx} {a b c:Expr} {ta tb tc:TE3} {pos:Pos}
def v3 (i:Nat):TE3:=λτ G q=>match τ[i]? with|some (some t)=>q t G|_=>False
def qmT (i:Nat) {x:Str} {pos:Pos} (hN:X.N[i]?=some x:=by rfl) (hv:Vis X.env.scope x:=by first|exact Or.inl rfl|exact Or.inr (Or.inl rfl)|exact Or.inr (Or.inr rfl)) (hd:(x==("__debug__" : Str))=false:=by decide)
  (hcd:(x==("__classdict__" : Str))=false:=by decide):E3 X (.Name x pos) (v3 i):=by
 refine EZ (qjU (i:=i) hN hv hd hcd) λσ H Q ⟨τ,G,q,r,h,af⟩=>?_;unfold v3 at h;split at h
 ·rename_i t e;obtain ⟨v,e2,rv⟩:=r.st i t e;exact ⟨v,e2,af t G h v H rv r.hp Kp.refl⟩
 ·exact h.elim
def c3 (t:T):TE3:=λ_ G q=>q t G
def e_c {t:T} {v:V} {e:Expr} (h:PE X e (tC v)) (hr:∀ H,Rp X.K H t v):E3 X e (c3 t):=EZ h λσ H Q ⟨τ,G,q,r,h,af⟩=>af t G h v H (hr H) r.hp Kp.refl
def qmx {i:Int} {j pos}:E3 X (.Constant (.int i) j pos) (c3 (.int i)):=e_c qlI λ_=>.int i
def qpK {b:Bool} {j pos}:E3 X (.Constant (.bool b) j pos) (c3 (.bl b)):=e_c qnK λ_=>.bl b
def qol {j pos}:E3 X (.Constant .none j pos) (c3 .non):=e_c qgF λ_=>.non
def qnv {x:Str} {j pos}:E3 X (.Constant (.str x) j pos) (c3 (.str x)):=e_c qlm λ_=>.str x
def n3:TE3:=λ_ _ _=>False
abbrev R3:=T->T->Gp->Q3->Prop
def W5 (K:Frg) (r3:R3) (r:R2):Prop:=∀ x y v u G H q Q,HR K G H->Rp K H x v->Rp K H y u->r3 x y G q->Aft K G H q Q->r v u H Q
def o3 (r:R3) (ta tb:TE3):TE3:=λτ G q=>ta τ G λx G1=>tb τ G1 λy G2=>r x y G2 q
def qcd {K:Frg} {r3:R3} {r:R2} (hr:W5 K r3 r) {σ:L2.St} {H:Hp} {Q:VK} (h:lE K (o3 r3 ta tb) σ H Q):tOp r (lE K ta) (lE K tb) σ H Q:=by
 obtain ⟨τ,G,q,rl,h,af⟩:=h;refine zw rl h λx G1 h1 v H1 rx hr1 k1 rl1=>zw rl1 h1 λy G2 h2 u H2 ry hr2 k2 rl2=>?_;exact hr x y v u G2 H2 q Q hr2 (rx.keep hr1 k2) ry h2 (af.back (k1.trans k2))
def qbq {op:Operator} {r3:R3} {r:R2} (ho:OpR X (binaryOp op) r) (hr:W5 X.K r3 r) (ha:E3 X a ta) (hb:E3 X b tb):E3 X (.BinOp a op b pos) (o3 r3 ta tb):=
 EZ (qom ho ha hb) λ_ _ _ h=>qcd hr h
def qnN {op:CmpOp} {r3:R3} {r:R2} (ho:OpR X (compareOp op) r) (hr:W5 X.K r3 r) (ha:E3 X a ta) (hb:E3 X b tb) (hm:behindInMarks op b=false):E3 X (.Compare a [op] [b] pos) (o3 r3 ta tb):=
 EZ (qgk ho ha hb hm) λ_ _ _ h=>qcd hr h
def tb3 (t:TE3):TT3:=λτ G q=>t τ G λx G'=>match x with|.bl k=>q k G'|_=>False
def qkm {K:Frg} {t:TE3} {t2:TE} (hw:∀ σ H Q,lE K t σ H Q->t2 σ H Q) {σ:L2.St} {H:Hp} {Q:Bool->Hp->Prop} (h:lT K (tb3 t) σ H Q):qj6 t2 σ H Q:=by
 obtain ⟨τ,G,q,rl,h,af⟩:=h;refine hw _ _ _ (zw rl h λx G1 h1 v H1 rx hr1 k1 rl1=>?_);cases x with
 |bl k=>cases rx;exact ⟨k,rfl,af k G1 h1 H1 hr1 k1⟩
 |_=>exact h1.elim
def qoe {op:CmpOp} {r3:R3} {r:R2} (ho:OpR X (compareOp op) r) (hr:W5 X.K r3 r) (ha:E3 X a ta) (hb:E3 X b tb) (hm:behindInMarks op b=false):C3 X (.Compare a [op] [b] pos) (tb3 (o3 r3 ta tb)):=
 qm6 (qfT ho ha hb hm) λ_ _ _ h=>qkm (λ_ _ _=>qcd hr) h
def ch3 (r r':R3) (ta tb tc:TE3):TE3:=λτ G q=>ta τ G λx G1=>tb τ G1 λy G2=>r x y G2 λz G3=>match z with
 |.bl k=>if k=true then tc τ G3 λw G4=>r' y w G4 q else q (.bl false) G3
 |_=>False
def qmH {K:Frg} {r3 r3':R3} {r r':R2} (hr:W5 K r3 r) (hr':W5 K r3' r') {σ:L2.St} {H:Hp} {Q:VK} (h:lE K (ch3 r3 r3' ta tb tc) σ H Q):qez r r' (lE K ta) (lE K tb) (lE K tc) σ H Q:=by
 obtain ⟨τ,G,q,rl,h,af⟩:=h;refine zw rl h λx G1 h1 v H1 rx hr1 k1 rl1=>zw rl1 h1 λy G2 h2 u H2 ry hr2 k2 rl2=>?_;refine hr x y v u G2 H2 _ _ hr2 (rx.keep hr1 k2) ry h2 λz G3 h3 w H3 rz hr3 k3=>?_;cases z with
 |bl k=>
  cases rz;refine ⟨k,rfl,?_⟩;cases k with
  |false=>
   rw [if_neg Bool.false_ne_true];rw [show (match T.bl false with|.bl k=>if k=true then tc τ G3 λw G4=>r3' y w G4 q else q (.bl false) G3|_=>False)=q (.bl false) G3 from by simp] at h3;exact af _ G3 h3 _ H3 (.bl false) hr3 ((k1.trans k2).trans k3)
  |true=>
   rw [if_pos rfl];refine zw (rl2.next hr3 k3) (show tc τ G3 λw G4=>r3' y w G4 q from by simpa using h3) λw G4 h4 w' H4 rw' hr4 k4 rl4=>?_;exact hr' y w _ _ G4 H4 q Q hr4 ((ry.keep hr2 k3).keep hr3 k4) rw' h4 (af.back (((k1.trans k2).trans k3).trans k4))
 |_=>exact h3.elim
def qeY {op op':CmpOp} {r3 r3':R3} {r r':R2} (ho:OpR X (compareOp op) r) (hr:W5 X.K r3 r) (ho':OpR X (compareOp op') r') (hr':W5 X.K r3' r') (ha:E3 X a ta) (hb:E3 X b tb) (hc:E3 X c tc)
  (hm:lastMarks [op,op'] [b,c]=false:=by with_unfolding_all rfl):E3 X (.Compare a [op,op'] [b,c] pos) (ch3 r3 r3' ta tb tc):=
 EZ (qbM ho ho' ha hb hc hm) λ_ _ _ h=>qmH hr hr' h
def qoE (K:Frg) (r3:T->Gp->Q3->Prop) (r:V->Hp->VK->Prop):Prop:=∀ x v G H q Q,HR K G H->Rp K H x v->r3 x G q->Aft K G H q Q->r v H Q
def u3 (r:T->Gp->Q3->Prop) (ta:TE3):TE3:=λτ G q=>ta τ G λx G1=>r x G1 q
def qpq {op:UnaryOp} {r3:T->Gp->Q3->Prop} {r:V->Hp->VK->Prop} (ho:UnR X (unaryOp op) r) (hr:qoE X.K r3 r) (ha:E3 X a ta):E3 X (.UnaryOp op a pos) (u3 r3 ta):=
 EZ (qn5 ho ha) λ_ _ _ ⟨τ,G,q,rl,h,af⟩=>zw rl h λx G1 h1 v H1 rx hr1 k1 rl1=>hr x v G1 H1 q _ hr1 rx h1 (af.back k1)
def ZW:T->Gp->Q3->Prop:=λx G q=>match x with|.int i=>q (.int (-i)) G|_=>False
def qgt {K:Frg}:qoE K ZW (rU λi=>.int (-i)):=λx v G H q Q hr rx h af=>by
 cases x with
 |int i=>cases rx;exact ⟨i,rfl,af _ G h _ H (.int _) hr Kp.refl⟩
 |_=>exact h.elim
def iI (f:Int->Int->Int):R3:=λx y G q=>match x,y with|.int i,.int j=>q (.int (f i j)) G|_,_=>False
def iC (C:Int->Int->Prop) (f:Int->Int->Int):R3:=λx y G q=>match x,y with|.int i,.int j=>C i j/\q (.int (f i j)) G|_,_=>False
def iB (f:Int->Int->Bool):R3:=λx y G q=>match x,y with|.int i,.int j=>q (.bl (f i j)) G|_,_=>False
def qed {K:Frg} {f:Int->Int->Int}:W5 K (iI f) (rI0 λi j=>.int (f i j)):=λx y v u G H q Q hr rx ry h af=>by
 cases x<;>try exact h.elim
 cases y<;>try exact h.elim
 cases rx;cases ry;exact ⟨_,_,rfl,rfl,af _ G h _ H (.int _) hr Kp.refl⟩
def X0 {K:Frg} {C:Int->Int->Prop} {f:Int->Int->Int}:W5 K (iC C f) (rI C λi j=>.int (f i j)):=λx y v u G H q Q hr rx ry h af=>by
 cases x<;>try exact h.elim
 cases y<;>try exact h.elim
 cases rx;cases ry;exact ⟨_,_,rfl,rfl,h.1,af _ G h.2 _ H (.int _) hr Kp.refl⟩
def JV {K:Frg} {f:Int->Int->Bool}:W5 K (iB f) (rI0 λi j=>.bl (f i j)):=λx y v u G H q Q hr rx ry h af=>by
 cases x<;>try exact h.elim
 cases y<;>try exact h.elim
 cases rx;cases ry;exact ⟨_,_,rfl,rfl,af _ G h _ H (.bl _) hr Kp.refl⟩
def qnl (ha:E3 X a ta) (hb:E3 X b tb):E3 X (.BinOp a .Sub b pos) (o3 (iI (·-·)) ta tb):=qbq qiR qed ha hb
def qnd (ha:E3 X a ta) (hb:E3 X b tb):E3 X (.BinOp a .Mult b pos) (o3 (iC U7 (·*·)) ta tb):=qbq qkV X0 ha hb
def qmD (ha:E3 X a ta) (hb:E3 X b tb):E3 X (.BinOp a .Mod b pos) (o3 (iC (λ_ j=>0<j) (·%·)) ta tb):=qbq qg1 X0 ha hb
def qm5 (ha:E3 X a ta) (hb:E3 X b tb):E3 X (.BinOp a .FloorDiv b pos) (o3 (iC qbG (·/·)) ta tb):=qbq qf2 X0 ha hb
def qn2 (ha:E3 X a ta) (hb:E3 X b tb):E3 X (.BinOp a .Pow b pos) (o3 (iC WZ (λi j=>i ^ j.toNat)) ta tb):=qbq qja X0 ha hb
def qit (ha:E3 X a ta) (hb:E3 X b tb):E3 X (.BinOp a .BitAnd b pos) (o3 (iI Builtin.bitAnd) ta tb):=qbq qjw qed ha hb
def qnR (ha:E3 X a ta) (hb:E3 X b tb):E3 X (.BinOp a .LShift b pos) (o3 (iC WZ (λi j=>i*2 ^ j.toNat)) ta tb):=qbq qha X0 ha hb
def qod (ha:E3 X a ta) (hb:E3 X b tb):E3 X (.BinOp a .RShift b pos) (o3 (iC (λ_ j=>0<=j) (λi j=>i/2 ^ j.toNat)) ta tb):=qbq qhs X0 ha hb
def qmB (ha:E3 X a ta):E3 X (.UnaryOp .USub a pos) (u3 ZW ta):=qpq qjk qgt ha
def zc:T->T->Option Bool
 |.non,.non=>some true|.non,.int _=>some false|.int _,.non=>some false|.non,.bl _=>some false|.bl _,.non=>some false|.non,.str _=>some false|.str _,.non=>some false
 |.int i,.int j=>some (decide (i=j))|.bl i,.bl j=>some (decide (i=j))|.str i,.str j=>some (decide (i=j))
 |.int _,.str _=>some false|.str _,.int _=>some false|.bl _,.str _=>some false|.str _,.bl _=>some false
 |_,_=>none
def LC {K:Frg} {H:Hp} {x y:T} {v u:V} {k:Bool} (rx:Rp K H x v) (ry:Rp K H y u) (h:zc x y=some k):qnO v u=true/\decide (v=u)=k:=by
 cases rx<;>cases ry<;>simp [zc] at h<;>subst h<;>refine ⟨rfl,?_⟩<;>simp
def EC (neg:Bool):R3:=λx y G q=>match y with|.non=>q (.bl (match x with|.non=>!neg|_=>neg)) G|_=>False
def qhP {K:Frg} {H:Hp} {x:T} {v:V} (rx:Rp K H x v):decide (v=.non)=(match x with|.non=>true|_=>false):=by
 cases rx<;>simp
def qf3 {K:Frg}:W5 K (EC false) (λx y H Q=>y=.non/\Q (.bl (decide (x=.non))) H):=λx y v u G H q Q hr rx ry h af=>by
 cases y<;>try exact h.elim
 cases ry;refine ⟨rfl,?_⟩;rw [qhP rx];refine af _ G h _ H ?_ hr Kp.refl;cases x<;>exact .bl _
variable {tA tB:TT3} {Z2:List Expr}
def WS (t u:TT3):TT3:=λτ G q=>t τ G λk G1=>if k=true then u τ G1 q else q false G1
def or3 (t u:TT3):TT3:=λτ G q=>t τ G λk G1=>if k=true then q true G1 else u τ G1 q
def VQ (t:TT3):TT3:=λτ G q=>t τ G λk G1=>q (!k) G1
def qm2 (ha:C3 X a tA):W3 X (.BoolOp .Or [a] pos) tA:=qgQ ha
def qps (ha:C3 X a tA) (hb:W3 X (.BoolOp .Or (b::Z2) pos) tB):W3 X (.BoolOp .Or (a::b::Z2) pos) (or3 tA tB):=
 qpc (qn1 ha hb) λ_ _ _ ⟨τ,G,q,rl,h,af⟩=>XN rl h λk G1 h1 H1 hr1 k1 rl1=>by
  cases k with
  |true=>rw [if_pos rfl] at h1 ⊢;exact af _ G1 h1 H1 hr1 k1
  |false=>rw [if_neg Bool.false_ne_true] at h1 ⊢;exact ⟨τ,G1,q,rl1,h1,af.back k1⟩
def qnm (ha:C3 X a tA):C3 X (.UnaryOp .Not a pos) (VQ tA):=
 qm6 (qlK ha) λ_ _ _ ⟨τ,G,q,rl,h,af⟩=>XN rl h λk G1 h1 H1 hr1 k1 rl1=>af _ G1 h1 H1 hr1 k1
def qmI {e:Expr} {t:TE3} (h:E3 X e t) (he:∀ whole,isTrue e X.env whole=(do let v←whole;standAt e.pos;holding [v] (truthy v)):=by intro _;rfl):C3 X e (tb3 t):=
 qm6 (qhO h he) λ_ _ _ h=>qkm (λ_ _ _ h=>h) h
def jp (ta tb:TE3):TE3:=λτ G q=>ta τ G λx G1=>match x with|.bl k=>if k=true then tb τ G1 q else q (.bl false) G1|_=>False
def WO (ta tb:TE3):TE3:=λτ G q=>ta τ G λx G1=>match x with|.bl k=>if k=true then q (.bl true) G1 else tb τ G1 q|_=>False
def jZ (ta:TE3):TE3:=λτ G q=>ta τ G λx G1=>match x with|.bl k=>q (.bl (!k)) G1|_=>False
def qmw {op} (h:E3 X a ta):E3 X (.BoolOp op [a] pos) ta:=qg0 h
def qoj (ha:E3 X a ta) (hb:E3 X (.BoolOp .And (b::Z2) pos) tb):E3 X (.BoolOp .And (a::b::Z2) pos) (jp ta tb):=
 EZ (qkL ha hb) λ_ _ _ ⟨τ,G,q,rl,h,af⟩=>zw rl h λx G1 h1 v H1 rx hr1 k1 rl1=>by
  cases x with
  |bl k=>
   cases rx;refine ⟨k,rfl,?_⟩;cases k with
   |true=>rw [if_pos rfl];exact ⟨τ,G1,q,rl1,(show tb τ G1 q from by simpa using h1),af.back k1⟩
   |false=>rw [if_neg Bool.false_ne_true];exact af _ G1 (by simpa using h1) _ H1 (.bl false) hr1 k1
  |_=>exact h1.elim
def qmU (ha:E3 X a ta):E3 X (.UnaryOp .Not a pos) (jZ ta):=
 EZ (qhx ha) λ_ _ _ ⟨τ,G,q,rl,h,af⟩=>zw rl h λx G1 h1 v H1 rx hr1 k1 rl1=>by
  cases x with
  |bl k=>cases rx;exact ⟨k,rfl,af _ G1 h1 _ H1 (.bl _) hr1 k1⟩
  |_=>exact h1.elim
def if3 (t:TT3) (ta tb:TE3):TE3:=λτ G q=>t τ G λk G1=>if k=true then ta τ G1 q else tb τ G1 q
def qpP {c:Expr} (hc:C3 X c tA) (ha:E3 X a ta) (hb:E3 X b tb):E3 X (.IfExp c a b pos) (if3 tA ta tb):=
 EZ (qce hc ha hb) λ_ _ _ ⟨τ,G,q,rl,h,af⟩=>XN rl h λk G1 h1 H1 hr1 k1 rl1=>by
  cases k with
  |true=>rw [if_pos rfl] at h1 ⊢;exact ⟨τ,G1,q,rl1,h1,af.back k1⟩
  |false=>rw [if_neg Bool.false_ne_true] at h1 ⊢;exact ⟨τ,G1,q,rl1,h1,af.back k1⟩
variable {e:Expr} {es:List Expr} {te:TE3} {t:TA3}
def qg:TA3:=λ_ G q=>q [] G
def qb (ta:TE3) (tr:TA3):TA3:=λτ G q=>ta τ G λx G1=>tr τ G1 λxs G2=>q (x::xs) G2
def qne:A3 X [] qg:=qoO qa9 λ_ H _ ⟨τ,G,q,rl,h,af⟩=>af _ G h _ H .nil rl.hp Kp.refl
def qjm (ha:E3 X e te) (hr:A3 X es t) (hs:starEach (e::es) X.env=(false,eval e X.env)::starEach es X.env:=by rfl):A3 X (e::es) (qb te t):=
 qoO (DQ ha hr hs) λ_ _ _ ⟨τ,G,q,rl,h,af⟩=>zw rl h λx G1 h1 v H1 rx hr1 k1 rl1=>Q6 rl1 h1 λxs G2 h2 vs H2 rs hr2 k2 rl2=>
  af _ G2 h2 _ H2 (.cons (rx.keep hr1 k2) rs) hr2 (k1.trans k2)
def qI (t:TA3):TE3:=λτ G q=>t τ G λxs G1=>xs.length<=sizeLine/\q (.tup xs) G1
def zO (t:TA3):TE3:=λτ G q=>t τ G λxs G1=>xs.length<=sizeLine/\∀ p,G1 p=none->q (.ref p) (gu G1 p (.lst xs))
def qnD {x1} (h:A3 X es t):E3 X (.Tuple es x1 pos) (qI t):=
 EZ (qiU h) λ_ _ _ ⟨τ,G,q,rl,h,af⟩=>Q6 rl h λxs G1 h1 vs H1 rs hr1 k1 rl1=>⟨by rw [← rs.length];exact h1.1,λp hp=>
  af _ G1 h1.2 _ _ (.tup (SqT.of qT) (rs.keep hr1 (Kp.laid hp))) (hr1.laid hp) (k1.trans (Kp.laid hp))⟩
def qnI (h:A3 X es t):E3 X (.List es pos) (zO t):=
 EZ (qg5 h) λ_ _ _ ⟨τ,G,q,rl,h,af⟩=>Q6 rl h λxs G1 h1 vs H1 rs hr1 k1 rl1=>⟨by rw [← rs.length];exact h1.1,λp hp=>
  af _ _ (h1.2 p (hr1.free hp)) _ _ (.ref p) (hr1.newL hp rs) (k1.trans (Kp.newL hp))⟩
def qbf (K:Frg) (r3:List T->Gp->Q3->Prop) (r:List V->Hp->VK->Prop):Prop:=∀ xs vs G H q Q,HR K G H->Rps K H xs vs->r3 xs G q->Aft K G H q Q->r vs H Q
def cb3 (r:List T->Gp->Q3->Prop) (t:TA3):TE3:=λτ G q=>t τ G λxs G1=>r xs G1 q
def qi8 {K:Frg} {r3:List T->Gp->Q3->Prop} {r:List V->Hp->VK->Prop} (hr:qbf K r3 r) {σ:L2.St} {H:Hp} {Q:VK} (h:lE K (cb3 r3 t) σ H Q):tCB r (lA K t) σ H Q:=by
 obtain ⟨τ,G,q,rl,h,af⟩:=h;exact Q6 rl h λxs G1 h1 vs H1 rs hr1 k1 rl1=>hr xs vs G1 H1 q Q hr1 rs h1 (af.back k1)
def qgq {x:Str} {p:Pos} {id:String} {r3:List T->Gp->Q3->Prop} {r:List V->Hp->VK->Prop} (hc:EN X (.builtin id) r) (hr:qbf X.K r3 r) (hg:Gl X x) (hm:X.mg x=none) (hv:bootBuiltins x=some (.builtin id)) (ha:A3 X (e::es) t) (hn:x≠"__name__" := by decide) (hdb:(x==("__debug__" : Str))=false:=by decide)
  (he:starEach (e::es) X.env=(false,eval e X.env)::starEach es X.env:=by rfl) (hpl:(backTo pos (starEach es X.env)).any (·.1)=false:=by rfl):E3 X (.Call (.Name x p) (e::es) [] pos) (cb3 r3 t):=
 EZ (CH hc hg hm hv ha hn hdb he hpl) λ_ _ _ h=>qi8 hr h
def qbF {x:Str} {p:Pos} {ty:String} {r3:List T->Gp->Q3->Prop} {r:List V->Hp->VK->Prop} (hc:EN X (.type ty) r) (hr:qbf X.K r3 r) (hg:Gl X x) (hm:X.mg x=none) (hv:bootBuiltins x=some (.type ty)) (ha:A3 X (e::es) t) (hn:x≠"__name__" := by decide) (hdb:(x==("__debug__" : Str))=false:=by decide)
  (he:starEach (e::es) X.env=(false,eval e X.env)::starEach es X.env:=by rfl) (hpl:(backTo pos (starEach es X.env)).any (·.1)=false:=by rfl):E3 X (.Call (.Name x p) (e::es) [] pos) (cb3 r3 t):=
 EZ (qaI hc hg hm hv ha hn hdb he hpl) λ_ _ _ h=>qi8 hr h
end
def zl (G:Gp) (p:Addr):Option (List T):=match G p with|some (.lst xs)=>some xs|some (.frz xs)=>some xs|_=>none
section
variable {K:Frg} {G G':Gp} {H H':Hp}
def jv (hr:HR K G H) {p:Addr} {xs:List T} (h:zl G p=some xs):∃ vs,SqL K H p vs/\Rps K H xs vs:=by
 unfold zl at h;split at h
 ·rename_i ys e;cases h;obtain ⟨vs,h1,h2⟩:=hr p _ e;exact ⟨vs,SqL.of h1,h2⟩
 ·rename_i ys e;cases h;obtain ⟨vs,⟨o,h1⟩,h2⟩:=hr p _ e;exact ⟨vs,.inl (.inr ⟨o,h1⟩),h2⟩
 ·cases h
def HR.lst (hr:HR K G H) {p:Addr} {xs:List T} (h:G p=some (.lst xs)):∃ vs,H p=some (.lst vs)/\Rps K H xs vs:=hr p _ h
def Rps.atI {xs:List T} {vs:List V} {i:Int} {x:T} (r:Rps K H xs vs) (h:atI xs i=some x):∃ v,L2.atI vs i=some v/\Rp K H x v:=by
 unfold L2.atI at h ⊢;rw [← r.length];cases e:ixN xs.length i with
 |none=>rw [e] at h;cases h
 |some j=>
  rw [e] at h;exact r.get (by simpa using h)
end
def ix3:R3:=λx y G q=>match x,y with
 |.tup xs,.int i=>(match atI xs i with|some z=>q z G|none=>False)
 |.ref p,.int i=>(match zl G p with|some xs=>(match atI xs i with|some z=>q z G|none=>False)|none=>False)
 |_,_=>False
section
variable {X:Cx} {a b c e:Expr} {es:List Expr} {ta tb tc te:TE3} {t:TA3} {pos:Pos}
def qjt {K:Frg}:W5 K ix3 (rIx K):=λx y v u G H q Q hr rx ry h af=>by
 cases x<;>try exact h.elim
 case tup xs=>
  cases y<;>try exact h.elim
  case int i=>
   unfold ix3 at h;simp only at h;split at h
   ·rename_i z e;cases ry;cases rx with
    |tup hs rs=>
     obtain ⟨w,e2,rw'⟩:=rs.atI e;exact .inr (.inl ⟨_,_,i,w,rfl,rfl,hs,e2,af z G h w H rw' hr Kp.refl⟩)
   ·exact h.elim
 case ref p=>
  cases y<;>try exact h.elim
  case int i=>
   unfold ix3 at h;simp only at h;split at h
   ·rename_i xs e0;split at h
    ·rename_i z e;cases ry;cases rx;obtain ⟨vs,hs,rs⟩:=jv hr e0;obtain ⟨w,e2,rw'⟩:=rs.atI e;exact .inl ⟨p,vs,i,w,rfl,rfl,hs,e2,af z G h w H rw' hr Kp.refl⟩
    ·exact h.elim
   ·exact h.elim
def qph (ha:E3 X a ta) (hb:E3 X b tb) (hs:TJ b:=by intro _ _;rfl):E3 X (.Subscript a b pos) (o3 ix3 ta tb):=EZ (qmC qkl ha hb hs) λ_ _ _ h=>qcd qjt h
def YW {α:Type} (xs:List α) (lo hi:Option Int):List α:=(xs.drop (HT.sIx xs.length 0 lo)).take (HT.sIx xs.length xs.length hi-HT.sIx xs.length 0 lo)
def Rps.cut {K:Frg} {H:Hp} {xs:List T} {vs:List V} (r:Rps K H xs vs) (lo hi:Option Int):Rps K H (YW xs lo hi) (qcy vs lo hi):=by
 unfold YW qcy;rw [r.length];exact (r.drop _).take _
abbrev TO3:=St3->Gp->(Option Int->Gp->Prop)->Prop
def lO (K:Frg) (t:TO3):TO:=λσ H Q=>∃ τ G q,Rel K τ G σ H/\t τ G q/\∀ x G',q x G'->∀ H',HR K G' H'->Kp G H G' H'->Q x H'
abbrev P3 (X:Cx) (e:Option Expr) (t:TO3):Prop:=PO X e (lO X.K t)
def np3:TO3:=λ_ G q=>q none G
def sp3 (t:TE3):TO3:=λτ G q=>t τ G λx G1=>match x with|.int i=>q (some i) G1|_=>False
def qoK {X:Cx} {e:Option Expr} {t t':TO} (h:PO X e t) (w:∀ σ H Q,t' σ H Q->t σ H Q):PO X e t':=λpins s σ H Q I q=>h pins s σ H Q I (w σ H Q q)
def qlO:P3 X none np3:=qoK qeX λ_ H _ ⟨τ,G,q,rl,h,af⟩=>af none G h H rl.hp Kp.refl
def qlw (h:E3 X e te):P3 X (some e) (sp3 te):=qoK (qeP h) λ_ _ _ ⟨τ,G,q,rl,h,af⟩=>zw rl h λx G1 h1 v H1 rx hr1 k1 rl1=>by
 cases x<;>try exact h1.elim
 cases rx;exact ⟨_,rfl,af _ G1 h1 H1 hr1 k1⟩
def sl3:T->Option Int->Option Int->Gp->Q3->Prop:=λx lo hi G q=>match x with
 |.tup xs=>¬ (HT.sIx xs.length 0 lo=0/\HT.sIx xs.length xs.length hi=xs.length)/\q (.tup (YW xs lo hi)) G
 |.ref p=>(match zl G p with|some xs=>∀ a,G a=none->q (.ref a) (gu G a (.lst (YW xs lo hi)))|none=>False)
 |_=>False
def V0 (te:TE3) (tl th:TO3):TE3:=λτ G q=>te τ G λx G1=>tl τ G1 λl G2=>th τ G2 λu G3=>sl3 x l u G3 q
def qfs {lo hi:Option Expr} {tl th:TO3} {p2:Pos} (he:E3 X e te) (hl:P3 X lo tl) (hu:P3 X hi th):E3 X (.Subscript e (.Slice lo hi none p2) pos) (V0 te tl th):=
 EZ (qb8 (qg8.or qfz) he hl hu) λ_ _ _ ⟨τ,G,q,rl,h,af⟩=>zw rl h λx G1 h1 v H1 rx hr1 k1 rl1=>
  ⟨τ,G1,_,rl1,h1,λl G2 h2 H2 hr2 k2=>⟨τ,G2,_,rl1.next hr2 k2,h2,λu G3 h3 H3 hr3 k3=>by
   have kk:=(k1.trans k2).trans k3;have rx3:=(rx.keep hr1 k2).keep hr2 k3;cases x<;>try exact h3.elim
   case tup xs=>
    cases rx3 with
    |tup hs rs=>
     refine .inl ⟨_,_,rfl,hs,by rw [← rs.length];exact h3.1,λp hp=>?_⟩;exact af _ G3 h3.2 _ _ (.tup (SqT.of qT) ((rs.cut _ _).keep hr3 (Kp.laid hp))) (hr3.laid hp) (kk.trans (Kp.laid hp))
   case ref p=>
    unfold sl3 at h3;simp only at h3;split at h3
    ·rename_i xs e0;cases rx3;obtain ⟨vs,hs,rs⟩:=jv hr3 e0;refine .inr ⟨p,vs,rfl,hs,λa ha=>?_⟩;exact af _ _ (h3 a (hr3.free ha)) _ _ (.ref a) (hr3.newL ha (rs.cut _ _)) (kk.trans (Kp.newL ha))
    ·exact h3.elim⟩⟩
def NQ {K:Frg} {H:Hp} {xs:List T} {vs:List V} (r:Rps K H xs vs):vs=[]↔xs=[]:=by
 cases r<;>simp
def zb:R3:=λx y G q=>match x,y with
 |.tup xs,.tup ys=>xs≠[]/\xs.length+ys.length<=sizeLine/\q (.tup (xs++ys)) G
 |.ref a,.ref b=>(match G a,G b with|some (.lst xs),some (.lst ys)=>xs.length+ys.length<=sizeLine/\∀ p,G p=none->q (.ref p) (gu G p (.lst (xs++ys)))|_,_=>False)
 |.int i,.int j=>q (.int (i+j)) G
 |_,_=>False
def qfK {K:Frg}:W5 K zb (λx y H Q=>(rI0 (λi j=>.int (i+j)) x y H Q\/qkc K x y H Q)\/qoD x y H Q):=λx y v u G H q Q hr rx ry h af=>by
 cases x<;>try exact h.elim
 case int i=>
  cases y<;>try exact h.elim
  cases rx;cases ry;exact .inl (.inl ⟨_,_,rfl,rfl,af _ G h _ H (.int _) hr Kp.refl⟩)
 case tup xs=>
  cases y<;>try exact h.elim
  case tup ys=>
   obtain ⟨h1,h2,h3⟩:=h;cases rx with
   |tup hs rs=>
    cases ry with
    |tup hs' rs'=>
     refine .inl (.inr ⟨_,_,_,_,rfl,rfl,hs,hs',λz=>h1 ((NQ rs).mp z),by rw [← rs.length,← rs'.length];exact h2,λz=>?_,λz p hp=>?_⟩)
     ·have e:=(NQ rs').mp z;subst e;rw [List.append_nil] at h3;exact af _ G h3 _ H (.tup hs rs) hr Kp.refl
     ·exact af _ G h3 _ _ (.tup (SqT.of qT) ((rs.append rs').keep hr (Kp.laid hp))) (hr.laid hp) (Kp.laid hp)
 case ref a=>
  cases y<;>try exact h.elim
  case ref b=>
   unfold zb at h;simp only at h;split at h
   ·rename_i xs ys e1 e2;cases rx;cases ry;obtain ⟨vs,g1,r1⟩:=hr.lst e1;obtain ⟨us,g2,r2⟩:=hr.lst e2;refine .inr ⟨a,b,vs,us,rfl,rfl,g1,g2,by rw [← r1.length,← r2.length];exact h.1,λp hp=>?_⟩;exact af _ _ (h.2 p (hr.free hp)) _ _ (.ref p) (hr.newL hp (r1.append r2)) (Kp.newL hp)
   ·exact h.elim
def qhm (ha:E3 X a ta) (hb:E3 X b tb):E3 X (.BinOp a .Add b pos) (o3 zb ta tb):=qbq ((qg6.or qfu).or qlf) qfK ha hb
def zQ:T->Bool
 |.non=>true|.bl _=>true|.int _=>true|.str _=>true|_=>false
def eqF:T->T->Bool
 |.non,.non=>true
 |.bl a,.bl b=>a==b
 |.bl a,.int b=>(if a then 1 else 0)==b
 |.int a,.bl b=>a==(if b then 1 else 0)
 |.int a,.int b=>a==b
 |.str a,.str b=>a==b
 |_,_=>false
def T3 {K:Frg} {H:Hp} {x:T} {v:V} (r:Rp K H x v) (h:zQ x=true):W0 v=true:=by
 cases r<;>first|rfl|(cases h)
def X7 {K:Frg} {H:Hp}:∀ {x:List T} {v:List V},Rps K H x v->x.all zQ=true->v.all W0=true
 |_,_,.nil,_=>rfl
 |_,_,.cons a b,h=>by
  rw [List.all_cons,Bool.and_eq_true] at h ⊢;exact ⟨T3 a h.1,X7 b h.2⟩
def qhn {K:Frg} {H:Hp} {x y:T} {v u:V} (r:Rp K H x v) (s:Rp K H y u) (h:zQ x=true) (h':zQ y=true):eqV v u=eqF x y:=by
 cases r<;>first|(cases h;done)|(cases s<;>first|rfl|(cases h';done))
def N0 {K:Frg} {H:Hp} {x:T} {v:V} (r:Rp K H x v) (h:zQ x=true):∀ {ys:List T} {us:List V},Rps K H ys us->ys.all zQ=true->inV v us=ys.any λy=>eqF y x
 |_,_,.nil,_=>rfl
 |_,_,.cons a b,h'=>by
  rw [List.all_cons,Bool.and_eq_true] at h';unfold inV;rw [List.any_cons,List.any_cons,qhn a r h'.1 h];congr 1;exact N0 r h b h'.2
def in3 (neg:Bool):R3:=λx y G q=>zQ x=true/\match y with
 |.tup ys=>ys.all zQ=true/\q (.bl (if neg then !(ys.any λy=>eqF y x) else (ys.any λy=>eqF y x))) G
 |.ref p=>(match zl G p with|some ys=>ys.all zQ=true/\q (.bl (if neg then !(ys.any λy=>eqF y x) else (ys.any λy=>eqF y x))) G|none=>False)
 |_=>False
def qhA {K:Frg} {neg:Bool}:W5 K (in3 neg) (rIn K neg):=λx y v u G H q Q hr rx ry h af=>by
 obtain ⟨hf,h⟩:=h;cases y<;>try exact h.elim
 case tup ys=>
  cases ry with
  |tup hs rs=>
   refine ⟨_,_,rfl,.inr hs,T3 rx hf,X7 rs h.1,?_⟩;rw [N0 rx hf rs h.1];exact af _ G h.2 _ H (.bl _) hr Kp.refl
 case ref p=>
  simp only at h;split at h
  ·rename_i ys e;cases ry;obtain ⟨us,hs,rs⟩:=jv hr e;refine ⟨_,_,rfl,.inl hs,T3 rx hf,X7 rs h.1,?_⟩;rw [N0 rx hf rs h.1];exact af _ G h.2 _ H (.bl _) hr Kp.refl
  ·exact h.elim
def ZV:List T->Gp->Q3->Prop:=λxs G q=>match xs with
 |[.tup ys]=>q (.int ys.length) G
 |[.str y]=>y.length<=sizeLine/\q (.int y.length) G
 |[.ref p]=>(match zl G p with|some ys=>q (.int ys.length) G|none=>False)
 |_=>False
def MU {K:Frg} {H:Hp} {x:T} {vs:List V} (r:Rps K H [x] vs):∃ v,vs=[v]/\Rp K H x v:=by
 cases r with
 |cons a b=>cases b;exact ⟨_,rfl,a⟩
def qmE {K:Frg} {H:Hp} {x y:T} {vs:List V} (r:Rps K H [x,y] vs):∃ v u,vs=[v,u]/\Rp K H x v/\Rp K H y u:=by
 cases r with
 |cons a b=>cases b with|cons c d=>cases d;exact ⟨_,_,rfl,a,c⟩
def JP {K:Frg}:qbf K ZV (λxs H Q=>∃ x n,xs=[x]/\qoz K x H n/\Q (.int n) H):=λxs vs G H q Q hr rs h af=>by
 unfold ZV at h;split at h
 ·obtain ⟨v,rfl,r⟩:=MU rs;cases r with
  |tup hs r2=>exact ⟨_,_,rfl,.inr ⟨_,hs,rfl⟩,by rw [← r2.length];exact af _ G h _ H (.int _) hr Kp.refl⟩
 ·obtain ⟨v,rfl,r⟩:=MU rs;cases r;exact ⟨_,_,rfl,⟨h.1,rfl⟩,af _ G h.2 _ H (.int _) hr Kp.refl⟩
 ·obtain ⟨v,rfl,r⟩:=MU rs;split at h
  ·rename_i ys e;cases r;obtain ⟨us,hs,r2⟩:=jv hr e;exact ⟨_,_,rfl,.inl ⟨_,hs,rfl⟩,by rw [← r2.length];exact af _ G h _ H (.int _) hr Kp.refl⟩
  ·exact h.elim
 ·exact h.elim
def UL:List T->Gp->Q3->Prop:=λxs G q=>match xs with|[.int i]=>q (.int (if i<0 then -i else i)) G|_=>False
def qaj {K:Frg}:qbf K UL (λxs H Q=>∃ i,xs=[.int i]/\Q (.int (if i<0 then -i else i)) H):=λxs vs G H q Q hr rs h af=>by
 unfold UL at h;split at h
 ·obtain ⟨v,rfl,r⟩:=MU rs;cases r;exact ⟨_,rfl,af _ G h _ H (.int _) hr Kp.refl⟩
 ·exact h.elim
def U1:List T->Gp->Q3->Prop:=λxs G q=>match xs with|[.int i,.int j]=>q (.int (if j<i then j else i)) G|_=>False
def qfJ {K:Frg}:qbf K U1 (λxs H Q=>∃ i j,xs=[.int i,.int j]/\Q (.int (if j<i then j else i)) H):=λxs vs G H q Q hr rs h af=>by
 unfold U1 at h;split at h
 ·obtain ⟨v,u,rfl,r,r'⟩:=qmE rs;cases r;cases r';exact ⟨_,_,rfl,af _ G h _ H (.int _) hr Kp.refl⟩
 ·exact h.elim
def WT:List T->Gp->Q3->Prop:=λxs G q=>match xs with|[.int i,.int j]=>q (.int (if j > i then j else i)) G|_=>False
def WQ:List T->Gp->Q3->Prop:=λxs G q=>match xs with|[.int i]=>q (.int i) G|[.bl k]=>q (.int (if k then 1 else 0)) G|_=>False
def qM:List T->Gp->Q3->Prop:=λxs G q=>match xs with
 |[.tup ys]=>q (.tup ys) G
 |[.ref p]=>(match zl G p with|some ys=>q (.tup ys) G|none=>False)
 |_=>False
def QW {K:Frg}:qbf K qM (λxs H Q=>∃ p ys,xs=[.ref p]/\((SqL K H p ys/\∀ l,H l=none->Q (.ref l) (upd H l (.tup ys)))\/(SqT K H p ys/\Q (.ref p) H))):=λxs vs G H q Q hr rs h af=>by
 unfold qM at h;split at h
 ·obtain ⟨v,rfl,r⟩:=MU rs;cases r with
  |tup hs r2=>exact ⟨_,_,rfl,.inr ⟨hs,af _ G h _ H (.tup hs r2) hr Kp.refl⟩⟩
 ·obtain ⟨v,rfl,r⟩:=MU rs;split at h
  ·rename_i ys e;cases r;obtain ⟨us,hs,r2⟩:=jv hr e;exact ⟨_,_,rfl,.inl ⟨hs,λl hl=>af _ G h _ _ (.tup (SqT.of qT) (r2.keep hr (Kp.laid hl))) (hr.laid hl) (Kp.laid hl)⟩⟩
  ·exact h.elim
 ·exact h.elim
def Q1:List T->Gp->Q3->Prop:=λxs G q=>match xs with
 |[.tup ys]=>∀ p,G p=none->q (.ref p) (gu G p (.lst ys))
 |[.ref p]=>(match zl G p with|some ys=>∀ p,G p=none->q (.ref p) (gu G p (.lst ys))|none=>False)
 |_=>False
def WR:T->List T->Gp->Q3->Prop:=λx xs G q=>match x,xs with
 |.ref l,[.ref b]=>(match G l,G b with|some (.lst ys),some (.lst zs)=>ys.length+zs.length<=sizeLine/\q .non (gu G l (.lst (ys++zs)))|_,_=>False)
 |_,_=>False
def YZ:T->List T->Gp->Q3->Prop:=λx xs G q=>match x,xs with
 |.ref l,[y]=>(match G l with|some (.lst ys)=>ys.length<sizeLine/\q .non (gu G l (.lst (ys++[y])))|_=>False)
 |_,_=>False
def qlM (K:Frg) (r3:T->List T->Gp->Q3->Prop) (r:V->List V->Hp->VK->Prop):Prop:=∀ x xs v vs G H q Q,HR K G H->Rp K H x v->Rps K H xs vs->r3 x xs G q->Aft K G H q Q->r v vs H Q
def qfl {K:Frg}:qlM K YZ M1:=λx xs v vs G H q Q hr rx rs h af=>by
 unfold YZ at h;split at h
 ·rename_i l y;split at h
  ·rename_i ys e1;cases rx;obtain ⟨u,rfl,r⟩:=MU rs;obtain ⟨vs,g1,r1⟩:=hr.lst e1;exact ⟨l,vs,u,rfl,rfl,g1,by rw [← r1.length];exact h.1,af _ _ h.2 _ _ .non (hr.wr e1 (r1.append (.cons r .nil))) (Kp.wr e1)⟩
  ·exact h.elim
 ·exact h.elim
def bm3 (r:T->List T->Gp->Q3->Prop) (to:TE3) (t:TA3):TE3:=λτ G q=>to τ G λx G1=>(match x with|.ref p=>(zl G1 p).isSome=true|_=>False)/\t τ G1 λxs G2=>r x xs G2 q
def qnH {o:Expr} {to:TE3} {name:Str} {apos cpos:Pos} {id:String} {r3:T->List T->Gp->Q3->Prop} {r:V->List V->Hp->VK->Prop} (slot:Slot "list" name id) (hty:typeOf (.builtin id)=pure (.type "method_descriptor")) (hm:MtR X id r) (hr:qlM X.K r3 r) (ho:E3 X o to) (ha:A3 X (e::es) t)
  (hbase:attributeBase o name X.env (eval o X.env)=eval o X.env:=by rfl)
  (hfew:((backTo cpos (starEach (e::es) X.env)).all (λx=>!x.1)&&(backToKw cpos (keywordEach [] X.env)).all (λx=>x.1.isSome)
   && decide ((e::es).length+([]:List Keyword).length+(if ([]:List Keyword).isEmpty then 0 else 1)<30))=true:=by rfl)
  (hline:(apos.endLine==cpos.line)=true:=by rfl) (hs:starEach (e::es) X.env=(false,eval e X.env)::starEach es X.env:=by rfl) (hplain:(backTo cpos (starEach es X.env)).any (·.1)=false:=by rfl) :
  E3 X (.Call (.Attribute o name apos) (e::es) [] cpos) (bm3 r3 to t):=
 EZ (qiA PySem.F.plainAttrs_list slot hty hm ho ha hbase hfew hline hs hplain) λ_ _ _ ⟨τ,G,q,rl,h,af⟩=>zw rl h λx G1 h1 v H1 rx hr1 k1 rl1=>by
  obtain ⟨hp,h1⟩:=h1;cases x<;>try exact hp.elim
  case ref p=>
   cases rx;have hp':(zl G1 p).isSome=true:=hp;obtain ⟨ys,e⟩:=Option.isSome_iff_exists.mp hp';obtain ⟨us,hs,r2⟩:=jv hr1 e;exact ⟨.inl ⟨rfl,us,hs⟩,Q6 rl1 h1 λxs G2 h2 vs H2 rs hr2 k2 rl2=>hr _ xs _ vs G2 H2 q _ hr2 (.ref p) rs h2 (af.back (k1.trans k2))⟩
def qbx {o:Expr} {to:TE3} {apos cpos:Pos} (ho:E3 X o to) (ha:A3 X [e] t)
  (hbase:attributeBase o "append" X.env (eval o X.env)=eval o X.env:=by rfl)
  (hfew:((backTo cpos (starEach [e] X.env)).all (λx=>!x.1)&&(backToKw cpos (keywordEach [] X.env)).all (λx=>x.1.isSome)
   && decide (([e]:List Expr).length+([]:List Keyword).length+(if ([]:List Keyword).isEmpty then 0 else 1)<30))=true:=by rfl)
  (hline:(apos.endLine==cpos.line)=true:=by rfl) (hs:starEach [e] X.env=(false,eval e X.env)::starEach [] X.env:=by rfl) (hplain:(backTo cpos (starEach [] X.env)).any (·.1)=false:=by rfl) :
  E3 X (.Call (.Attribute o "append" apos) [e] [] cpos) (bm3 YZ to t):=qnH PySem.F.slot_list_append PySem.F.type_list_append VR qfl ho ha hbase hfew hline hs hplain
end
def tyT (G:Gp):T->Option String
 |.non=>some "NoneType" |.bl _=>some "bool" |.int _=>some "int" |.str _=>some "str" |.tup _=>some "tuple"
 |.ref p=>if (zl G p).isSome then some "list" else none
def ZF (t c:String):Bool:=t==c||(t == "bool" && c == "int")
def qbS (K:Frg):∀ t∈["NoneType","bool","int","str","tuple","list"],∀ c∈["bool","int","str","tuple","list"],PySem.W.kitOne K (.type t) (.type c)=some (ZF t c):=by
 intro t ht c hc;simp only [mem_cons,not_mem_nil,or_false] at ht hc;rcases ht with rfl|rfl|rfl|rfl|rfl|rfl<;>rcases hc with rfl|rfl|rfl|rfl|rfl<;>kernel_rfl
section
variable {X:Cx} {a b c e:Expr} {es:List Expr} {ta tb tc te:TE3} {t:TA3} {pos:Pos}
def TyS (K:Frg) (H:Hp) (x:V) (t:String):Prop:=match x with
 |.non=>t="NoneType" |.bl _=>t="bool" |.int _=>t="int" |.str _=>t="str"
 |.ref a=>(t="tuple"/\∃ vs,SqT K H a vs)\/(t="list"/\∃ vs,SqL K H a vs)
 |_=>False
def TyS.mem {K:Frg} {H:Hp} {x:V} {t:String} (h:TyS K H x t):t∈["NoneType","bool","int","str","tuple","list"]:=by
 cases x<;>simp [TyS] at h<;>first|(subst h;decide)|(rcases h with ⟨rfl,_⟩|⟨rfl,_⟩<;>decide)
def TyS.kitx {pins:List (Addr×Obj)} {σ:L2.St} {H:Hp} {s:Shared} {x:V} {u:Value} {t:String} (I:Inv X pins σ H s) (rx:ji x u) (h:TyS X.K H x t) :
  ∃ HH:Heap->Prop,PySem.W.KitX X.K u (.type t) HH/\HH s.heap/\u≠.builtin "__main__.__loader__#opaque" := by
 cases x with
 |non=>cases (show u=Value.none from rx);cases (show t=_ from h);exact ⟨_,PySem.W.kitx_none,True.intro,λz=>nomatch z⟩
 |bl y=>cases (show u=Value.bool y from rx);cases (show t=_ from h);exact ⟨_,PySem.W.kitx_bool,True.intro,λz=>nomatch z⟩
 |int i=>obtain ⟨tk,q⟩:=(show ∃ t,u=Value.int i t from rx);cases q;cases (show t=_ from h);exact ⟨_,PySem.W.kitx_int,True.intro,λz=>nomatch z⟩
 |str y=>obtain ⟨tk,q⟩:=(show ∃ t,u=Value.str y t from rx);cases q;cases (show t=_ from h);exact ⟨_,PySem.W.kitx_str,True.intro,λz=>nomatch z⟩
 |ref a=>
  cases (show u=Value.ref a from rx);rcases (show (t="tuple"/\∃ vs,SqT X.K H a vs)\/(t="list"/\∃ vs,SqL X.K H a vs) from h) with ⟨rfl,vs,hs⟩|⟨rfl,vs,hs⟩
  ·obtain ⟨its,_,p,_⟩:=I.tuple hs;obtain ⟨o,h1,h2,_⟩:=p;exact ⟨_,PySem.W.kitx_tuple,⟨o,h1,h2⟩,λz=>nomatch z⟩
  ·obtain ⟨its,_,p,_⟩:=I.list hs;obtain ⟨o,n,h1,h2,_⟩:=p;exact ⟨_,PySem.W.kitx_list,⟨o,h1,h2⟩,λz=>nomatch z⟩
 |_=>exact False.elim h
abbrev T4:List String:=["bool","int","str","tuple","list"]
def qbi:EN X (.builtin "isinstance") (λxs H Q=>∃ x t c,xs=[x,.ty c]/\TyS X.K H x t/\c∈T4/\Q (.bl (ZF t c)) H):=by
 intro pins s σ H xs us Q I r h;obtain ⟨x,t,c,rfl,ht,hc,q⟩:=h;obtain ⟨u,w,rfl,rx,rc⟩:=qbs r;cases (show w=Value.type c from rc);obtain ⟨HH,kx,hh,ne⟩:=ht.kitx I rx;exact PySem.W.kia_one kx I.kIn hh (qbS X.K t ht.mem c hc) ne λtk=>⟨.bl _,H,I.tok tk,rfl,q⟩
def qg4 {K:Frg} {G:Gp} {H:Hp} (hr:HR K G H) {x:T} {v:V} {t:String} (r:Rp K H x v) (h:tyT G x=some t):TyS K H v t:=by
 cases r with
 |non=>cases h;rfl
 |bl _=>cases h;rfl
 |int _=>cases h;rfl
 |str _=>cases h;rfl
 |tup hs rs=>cases h;exact .inl ⟨rfl,_,hs⟩
 |ref a=>
  have h:(if (zl G a).isSome then some "list" else none)=some t:=h;split at h
  ·rename_i e;cases h;obtain ⟨ys,e⟩:=Option.isSome_iff_exists.mp e;obtain ⟨us,hs,_⟩:=jv hr e;exact .inr ⟨rfl,us,hs⟩
  ·cases h
def V9 (f:String->Bool) (te:TE3):TE3:=λτ G q=>te τ G λx G1=>match tyT G1 x with|some t=>q (.bl (f t)) G1|none=>False
def qn0 {tn:Str} {ty:String} {p p2:Pos} (he:E3 X e te) (hg:Gl X "isinstance") (hm:X.mg "isinstance" = none) (hg2:Gl X tn) (hm2:X.mg tn=none) (hv:bootBuiltins tn=some (.type ty)) (hmem:ty∈T4:=by decide) (hn:tn≠"__name__" := by decide) (hdb:(tn==("__debug__" : Str))=false:=by decide)
  (hs:starEach [e,.Name tn p2] X.env=(false,eval e X.env)::starEach [.Name tn p2] X.env:=by rfl) (hs2:starEach [.Name tn p2] X.env=(false,eval (.Name tn p2) X.env)::starEach [] X.env:=by rfl) (hpl:(backTo pos (starEach [.Name tn p2] X.env)).any (·.1)=false:=by rfl) :
  E3 X (.Call (.Name "isinstance" p) [e,.Name tn p2] [] pos) (V9 (λt=>ZF t ty) te):=
 EZ (CH qbi hg hm PyProof.Rows.boot_isinstance (DQ he (DQ (qa5 (v:=.ty ty) hg2 hm2 hv rfl hn hdb) qa9 hs2) hs) (by decide) (by decide) hs hpl)
  λ_ _ _ ⟨τ,G,q,rl,h,af⟩=>zw rl h λx G1 h1 v H1 rx hr1 k1 rl1=>by
   split at h1
   ·rename_i t e1;exact ⟨_,t,ty,rfl,qg4 hr1 rx e1,hmem,af _ G1 h1 _ H1 (.bl _) hr1 k1⟩
   ·exact h1.elim
structure Ends3 where
 nx:St3->Gp->Prop
 rt:Q3
 bk:St3->Gp->Prop:=λ_ _=>False
 ct:St3->Gp->Prop:=λ_ _=>False
abbrev TS3:=Ends3->St3->Gp->Prop
def qey (K:Frg) (G:Gp) (H:Hp) (q:St3->Gp->Prop) (Q:L2.St->Hp->Prop):Prop:=∀ τ G',q τ G'->∀ σ H',Rel K τ G' σ H'->Kp G H G' H'->Q σ H'
structure AftD (K:Frg) (G:Gp) (H:Hp) (d:Ends3) (D:Ends):Prop where
 nx:qey K G H d.nx D.nx
 rt:Aft K G H d.rt D.rt
 bk:qey K G H d.bk D.bk
 ct:qey K G H d.ct D.ct
def qey.back {K:Frg} {G G1:Gp} {H H1:Hp} {q:St3->Gp->Prop} {Q:L2.St->Hp->Prop} (a:qey K G H q Q) (k:Kp G H G1 H1):qey K G1 H1 q Q:=λx G' h v H' r k'=>a x G' h v H' r (k.trans k')
def AftD.back {K:Frg} {G G1:Gp} {H H1:Hp} {d:Ends3} {D:Ends} (a:AftD K G H d D) (k:Kp G H G1 H1):AftD K G1 H1 d D:=⟨a.nx.back k,a.rt.back k,a.bk.back k,a.ct.back k⟩
def lS (K:Frg) (t:TS3):TS:=λD σ H=>∃ τ G d,Rel K τ G σ H/\t d τ G/\AftD K G H d D
abbrev S3 (X:Cx) (st:Stmt) (t:TS3):Prop:=PS X st (lS X.K t)
abbrev B3 (X:Cx) (st:List Stmt) (t:TS3):Prop:=PSs X st (lS X.K t)
def K1 {X:Cx} {st:Stmt} {t t':TS} (h:PS X st t) (w:∀ D σ H,t' D σ H->t D σ H):PS X st t':=λpins s σ H D I q=>h pins s σ H D I (w D σ H q)
def qh9 {X:Cx} {st:List Stmt} {t t':TS} (h:PSs X st t) (w:∀ D σ H,t' D σ H->t D σ H):PSs X st t':=λpins s σ H D I q=>h pins s σ H D I (w D σ H q)
variable {st:Stmt} {Z2:List Stmt} {t1 t2:TS3} {tA:TT3}
def qz:TS3:=λd τ G=>d.nx τ G
def qw (t u:TS3):TS3:=λd τ G=>t { d with nx:=u d } τ G
def qmv:B3 X [] qz:=qh9 qfL λ_ σ H ⟨τ,G,d,rl,h,af⟩=>af.nx τ G h σ H rl Kp.refl
def qk7 (h1:S3 X st t1) (h2:B3 X Z2 t2):B3 X (st::Z2) (qw t1 t2):=qh9 (qbH h1 h2) λD σ H ⟨τ,G,d,rl,h,af⟩=>
 ⟨τ,G,{ d with nx:=t2 d },rl,h,⟨λτ' G' h' σ' H' rl' k'=>⟨τ',G',d,rl',h',af.back k'⟩,af.rt,af.bk,af.ct⟩⟩
def qms (h1:S3 X st t1):B3 X [st] t1:=TC h1
def zn (te:TE3):TS3:=λd τ G=>te τ G λ_ G1=>d.nx τ G1
def qjR (he:E3 X e te) (hs:swapsWith e none pos.line X.env=pure false:=by rfl):S3 X (.Expr e pos) (zn te):=K1 (qaC he hs) λ_ σ H ⟨τ,G,d,rl,h,af⟩=>
 zw rl h λx G1 h1 v H1 rx hr1 k1 rl1=>af.nx τ G1 h1 σ H1 rl1 k1
def qK (te:TE3):TS3:=λd τ G=>te τ G d.rt
def qnb (he:E3 X e te):S3 X (.Return (some e) pos) (qK te):=K1 (qh0 he) λ_ σ H ⟨τ,G,d,rl,h,af⟩=>⟨τ,G,d.rt,rl,h,af.rt⟩
def QZ:TS3:=λd _ G=>d.rt .non G
def zf (c:TT3) (t u:TS3):TS3:=λd τ G=>c τ G λk G1=>if k=true then t d τ G1 else u d τ G1
def qpR {c:Expr} {ba bb:List Stmt} (hc:C3 X c tA) (ha:B3 X ba t1) (hb:B3 X bb t2):S3 X (.If c ba bb pos) (zf tA t1 t2):=K1 (qlV hc ha hb) λ_ σ H ⟨τ,G,d,rl,h,af⟩=>
 XN rl h λk G1 h1 H1 hr1 k1 rl1=>by
  cases k with
  |true=>rw [if_pos rfl] at h1 ⊢;exact ⟨τ,G1,d,rl1,h1,af.back k1⟩
  |false=>rw [if_neg Bool.false_ne_true] at h1 ⊢;exact ⟨τ,G1,d,rl1,h1,af.back k1⟩
def V5:TS3:=λ_ _ _=>False
def qfI {sts:List Stmt}:B3 X sts V5:=λ_ _ _ _ _ _ ⟨_,_,_,_,h,_⟩=>h.elim
abbrev TG3:=T->St3->Gp->(St3->Gp->Prop)->Prop
abbrev SO:=List T->St3->Gp->(St3->Gp->Prop)->Prop
def lG (K:Frg) (t:TG3):TG:=λv σ H Q=>∃ x τ G q,Rp K H x v/\Rel K τ G σ H/\t x τ G q/\qey K G H q Q
def lGs (K:Frg) (t:SO):TGs:=λv σ H Q=>∃ x τ G q,Rps K H x v/\Rel K τ G σ H/\t x τ G q/\qey K G H q Q
abbrev G3 (X:Cx) (e:Expr) (t:TG3):Prop:=PG X e (lG X.K t)
abbrev Gs3 (X:Cx) (es:List Expr) (t:SO):Prop:=PGs X es (lGs X.K t)
def qmi {X:Cx} {e:Expr} {t t':TG} (h:PG X e t) (w:∀ v σ H Q,t' v σ H Q->t v σ H Q):PG X e t':=λpins s σ H v u Q I r q=>h pins s σ H v u Q I r (w v σ H Q q)
def qi7 {X:Cx} {e:List Expr} {t t':TGs} (h:PGs X e t) (w:∀ v σ H Q,t' v σ H Q->t v σ H Q):PGs X e t':=λpins s σ H v u Q I r q=>h pins s σ H v u Q I r (w v σ H Q q)
def gn3 (i:Nat):TG3:=λx τ G q=>q (τ.set i (some x)) G
def qjQ {i:Nat} {x:Str} (hN:X.N.Nodup) (hi:X.N[i]?=some x:=by rfl) (hx:Loc X.env.scope x:=by first|exact Or.inl rfl|exact Or.inr rfl) (hf:X.fn x=true\/X.env.scope.names.lookup x=some .local:=by first|exact .inl rfl|exact .inr rfl):G3 X (.Name x pos) (gn3 i):=
 qmi (qe5 hN hi hx hf) λv σ H Q ⟨x,τ,G,q,rx,rl,h,af⟩=>af _ G h _ H (rl.set i rx) Kp.refl
def qW:SO:=λxs τ G q=>match xs with|[]=>q τ G|_=>False
def qm (t:TG3) (u:SO):SO:=λxs τ G q=>match xs with|x::r=>t x τ G λτ' G'=>u r τ' G' q|[]=>False
def qnu:Gs3 X [] qW:=qi7 qgr λv σ H Q ⟨x,τ,G,q,rx,rl,h,af⟩=>by
 cases rx with
 |nil=>exact ⟨rfl,af _ G h _ H rl Kp.refl⟩
 |cons _ _=>exact h.elim
def qgW {tg:TG3} {tgs:SO} (h1:G3 X e tg) (h2:Gs3 X es tgs) (hs:(assignEach (e::es) X.env).map (·.2)=assign e X.env::(assignEach es X.env).map (·.2):=by rfl):Gs3 X (e::es) (qm tg tgs):=qi7 (qb3 h1 h2 hs) λv σ H Q ⟨x,τ,G,q,rx,rl,h,af⟩=>by
 cases rx with
 |nil=>exact h.elim
 |cons r rs=>exact ⟨_,_,rfl,_,τ,G,_,r,rl,h,λτ' G' h' σ' H' rl' k'=>⟨_,τ',G',q,rs.keep rl.hp k',rl',h',af.back k'⟩⟩
def qV (n:Nat) (t:SO):TG3:=λx τ G q=>match x with|.tup xs=>xs.length=n/\t xs τ G q|_=>False
def qn7 {k:Nat} {tgs:SO} {n:Nat} (hc:X.calm=true) (h:Gs3 X es tgs) (hn:(assignEach es X.env).length=n:=by rfl) (hst:(assignEach es X.env).findIdx? (·.1)=none:=by rfl):G3 X (.Tuple es k pos) (qV n tgs):=
 qmi (qiZ hc h hn hst) λv σ H Q ⟨x,τ,G,q,rx,rl,h,af⟩=>by
  cases x<;>try exact h.elim
  case tup xs=>
   cases rx with
   |tup hs rs=>exact ⟨_,_,rfl,hs,by rw [← rs.length];exact h.1,_,τ,G,q,rs,rl,h.2,af⟩
def V4:T->T->T->Gp->(Gp->Prop)->Prop:=λo i v G q=>match o,i with
 |.ref p,.int k=>(match G p with|some (.lst xs)=>(match ixN xs.length k with|some j=>q (gu G p (.lst (xs.set j v)))|none=>False)|_=>False)
 |_,_=>False
def jh (to ti:TE3):TG3:=λx τ G q=>to τ G λo G1=>ti τ G1 λi G2=>V4 o i x G2 λG3=>q τ G3
def qm3 {o i : Expr} {to ti : TE3} (ho : E3 X o to) (hi : E3 X i ti) (ha : ∀ v,assign (.Subscript o i pos) X.env v = (do
      let ov←holding [v] (eval o X.env)
      let iv←holding [v,ov] (eval i X.env)
      standAt pos
      holding [v,ov,iv] (setItem ov iv v)
      release [v,ov,iv] []):=by intro _;rfl):G3 X (.Subscript o i pos) (jh to ti):=
  qmi (qcu ho hi qbZ ha) λv σ H Q ⟨x,τ,G,q,rx,rl,h,af⟩=>zw rl h λy G1 h1 u H1 ry hr1 k1 rl1=>zw rl1 h1 λz G2 h2 w H2 rz hr2 k2 rl2=>by
    have rx2:=(rx.keep rl.hp k1).keep hr1 k2;have ry2:=ry.keep hr1 k2;unfold V4 at h2;split at h2
    · rename_i p k;split at h2
      · rename_i xs e;split at h2
        · rename_i j ej;cases ry2;cases rz;obtain ⟨vs,g1,r1⟩:=hr2.lst e;have kk:Kp G2 H2 (gu G2 p (.lst (xs.set j x))) (upd H2 p (.lst (vs.set j v))):=Kp.wr e;exact ⟨p,vs,k,j,rfl,rfl,g1,by rw [← r1.length];exact ej,af τ _ h2 σ _ (rl2.next (hr2.wr e (r1.set rx2 j)) kk) ((k1.trans k2).trans kk)⟩
        · exact h2.elim
      · exact h2.elim
    · exact h2.elim
def qD (te:TE3) (g:TG3):TS3:=λd τ G=>te τ G λx G1=>g x τ G1 d.nx
def qnG {tg e:Expr} {g:TG3} (he:E3 X e te) (hg:G3 X tg g) (hs:swapsWithSole [tg] e pos.line X.env=pure false:=by rfl) (hw:swappedStores [tg] e X.env=pure none:=by rfl)
  (h1:(assignEach [tg] X.env).map (·.2)=[assign tg X.env]:=by rfl):S3 X (.Assign [tg] e pos) (qD te g):=K1 (qj1 he hg hs hw h1) λ_ σ H ⟨τ,G,d,rl,h,af⟩=>
 zw rl h λx G1 h1 v H1 rx hr1 k1 rl1=>⟨x,τ,G1,d.nx,rx,rl1,h1,af.nx.back k1⟩
def qmK (i:Nat) {x:Str} {e:Expr} {pos':Pos} (hN:X.N.Nodup) (he:E3 X e te) (hi:X.N[i]?=some x:=by rfl) (hx:Loc X.env.scope x:=by first|exact Or.inl rfl|exact Or.inr rfl) (hs:swapsWith e (some (.Name x pos')) pos.line X.env=pure false:=by rfl) (hf:X.fn x=true\/X.env.scope.names.lookup x=some .local:=by first|exact .inl rfl|exact .inr rfl) :
  S3 X (.Assign [.Name x pos'] e pos) (qD te (gn3 i)):=K1 (qhk hN hi hx he hs hf) λ_ σ H ⟨τ,G,d,rl,h,af⟩=>
 zw rl h λx G1 h1 v H1 rx hr1 k1 rl1=>af.nx _ G1 h1 _ H1 (rl1.set i rx) k1
def ZY (i j:Nat) (ta:TA3):TS3:=λd τ G=>ta τ G λxs G1=>match xs with|[x,y]=>d.nx ((τ.set i (some x)).set j (some y)) G1|_=>False
def qnc {i j:Nat} {x y:Str} {a b:Expr} {tt:TA3} {px py pt:Pos} {kt k2 pt2} (hc:X.calm=true) (hN:X.N.Nodup) (hi:X.N[i]?=some x) (hj:X.N[j]?=some y) (hij:i≠j)
  (hx:X.env.scope.names.lookup x=some .local) (hy:X.env.scope.names.lookup y=some .local) (ha:A3 X [a,b] tt)
  (hw:swappedStores [.Tuple [.Name x px,.Name y py] kt pt] (.Tuple [a,b] k2 pt2) X.env=pure (some [x,y]):=by rfl)
  (hs:swapsWithSole [.Tuple [.Name x px,.Name y py] kt pt] (.Tuple [a,b] k2 pt2) pos.line X.env=pure false:=by rfl) :
  S3 X (.Assign [.Tuple [.Name x px,.Name y py] kt pt] (.Tuple [a,b] k2 pt2) pos) (ZY i j tt):=K1 (qjL hc hN hi hj hij hx hy ha hw hs) λ_ σ H ⟨τ,G,d,rl,h,af⟩=>
 Q6 rl h λxs G1 h1 vs H1 rs hr1 k1 rl1=>by
  split at h1
  ·obtain ⟨v,u,rfl,r,r'⟩:=qmE rs;exact ⟨v,u,rfl,af.nx _ G1 h1 _ H1 ((rl1.set i r).set j r') k1⟩
  ·exact h1.elim
end
abbrev TI3:=St3->Gp->(List T->(Gp->Prop)->Gp->Prop)->Prop
def qgz (K:Frg) (J:It) (items:List T) (stay:Gp->Prop) (G0:Gp) (H0:Hp):Prop:=∀ G H,HR K G H->Kp G0 H0 G H->stay G ->
 (∀ i x,items[i]?=some x->J.go i H)/\(∀ i x v H',items[i]?=some x->J.yld i H v H'->Rp K H' x v/\HR K G H'/\Kp G H G H')/\J.stop items.length H
def lI (K:Frg) (wi:TI3):TI:=λσ H R=>∃ τ G r,Rel K τ G σ H/\wi τ G r/\∀ items stay G',r items stay G'->∀ J H',HR K G' H'->Kp G H G' H'->qgz K J items stay G' H'->R J H'
abbrev I3 (X:Cx) (tg iter:Expr) (wi:TI3):Prop:=PI X tg iter (lI X.K wi)
def ql4 {X:Cx} {tg e:Expr} {t t':TI} (h:PI X tg e t) (w:∀ σ H R,t' σ H R->t σ H R):PI X tg e t':=λpins s σ H R I q=>h pins s σ H R I (w σ H R q)
section
variable {X:Cx} {a b c e l tg:Expr} {es:List Expr} {ta tb tc te:TE3} {t:TA3} {pos:Pos}
def qhH {tl:TE} (hl:PE X l tl):PI X tg l (λσ H R=>tl σ H λx H1=>∃ a,x=.ref a/\(((∃ xs,SqL X.K H1 a xs)/\R (Itl X.K a) H1)\/((∃ xs,SqT X.K H1 a xs)/\R (Itt X.K a) H1))):=by
 intro pins s σ H R I h;refine thn (hl pins s σ H _ I h) λv s1 ⟨x,H1,I1,r1,q1⟩=>?_;obtain ⟨a,e,⟨⟨xs,hq⟩,q⟩|⟨⟨xs,hq⟩,q⟩⟩:=q1
 ·subst e;cases r1;obtain ⟨its,rv,p,hz⟩:=I1.list hq;refine wpAny_pyIter_list p.isList ?_;refine ⟨s1.heap.objs.size,[s1.heap.objs.size],_,_,H1,rfl,I1.kept (t':=s1.toks) λb o e=>Heap.get?_push_of_some _ e,M9 a _,⟨_,Heap.get?_push_size _ rfl,rfl,rfl⟩,λb hb=>?_,q⟩;have e:b=s1.heap.objs.size:=by simpa using hb
  subst e;exact I1.fpOk (Nat.le_refl _) (I1.hok.fresh (Nat.le_refl _))
 ·subst e;cases r1;obtain ⟨its,rv,p,hz⟩:=I1.tuple hq;refine wpAny_pyIter_tuple (show s1.heap.IsTuple a its.toArray from p) ?_;refine ⟨s1.heap.objs.size,[s1.heap.objs.size],_,_,H1,rfl,I1.kept (t':=s1.toks) λb o e=>Heap.get?_push_of_some _ e,LR a _,⟨_,Heap.get?_push_size _ rfl,rfl,rfl⟩,λb hb=>?_,q⟩;have e:b=s1.heap.objs.size:=by simpa using hb
  subst e;exact I1.fpOk (Nat.le_refl _) (I1.hok.fresh (Nat.le_refl _))
def EO (tl:TE3):TI3:=λτ G r=>tl τ G λx G1=>match x with
 |.tup xs=>r xs (λ_=>True) G1
 |.ref p=>(match zl G1 p with|some xs=>r xs (λG=>zl G p=some xs) G1|none=>False)
 |_=>False
def qjo {K:Frg} {p:Addr} {xs:List T} {G0:Gp} {H0:Hp}:qgz K (Itl K p) xs (λG=>zl G p=some xs) G0 H0:=by
 intro G H hr _ hs;obtain ⟨vs,sq,rs⟩:=jv hr hs;refine ⟨λi x hi=>?_,λi x v H' hi y=>?_,⟨vs,sq,by rw [rs.length];exact Nat.le_refl _⟩⟩
 ·obtain ⟨v,hv,_⟩:=rs.get hi;exact ⟨vs,v,sq,hv⟩
 ·obtain ⟨e,y⟩:=y;subst e;obtain ⟨w,hw,rw'⟩:=rs.get hi;have e2:=(y vs sq).symm.trans hw;cases e2;exact ⟨rw',hr,Kp.refl⟩
def qjH {K:Frg} {p:Addr} {xs:List T} {vs:List V} {G0:Gp} {H0:Hp} (hr0:HR K G0 H0) (sq0:SqT K H0 p vs) (rs0:Rps K H0 xs vs):qgz K (Itt K p) xs (λ_=>True) G0 H0:=by
 intro G H hr k _;have sq:=CY hr0 k sq0;have rs:=rs0.keep hr0 k;refine ⟨λi x hi=>?_,λi x v H' hi y=>?_,⟨vs,sq,by rw [rs.length];exact Nat.le_refl _⟩⟩
 ·obtain ⟨v,hv,_⟩:=rs.get hi;exact ⟨vs,v,sq,hv⟩
 ·obtain ⟨e,y⟩:=y;subst e;obtain ⟨w,hw,rw'⟩:=rs.get hi;have e2:=(y vs sq).symm.trans hw;cases e2;exact ⟨rw',hr,Kp.refl⟩
def qmt (hl:E3 X l te):I3 X tg l (EO te):=ql4 (qhH hl) λσ H R ⟨τ,G,r,rl,h,af⟩=>zw rl h λx G1 h1 v H1 rx hr1 k1 rl1=>by
 cases x<;>try exact h1.elim
 case tup xs=>
  cases rx with
  |tup hs rs=>exact ⟨_,rfl,.inr ⟨⟨_,hs⟩,af _ _ G1 h1 _ H1 hr1 k1 (qjH hr1 hs rs)⟩⟩
 case ref p=>
  simp only at h1;split at h1
  ·rename_i xs e0;cases rx;obtain ⟨vs,hs,rs⟩:=jv hr1 e0;exact ⟨_,rfl,.inl ⟨⟨_,hs⟩,af _ _ G1 h1 _ H1 hr1 k1 qjo⟩⟩
  ·exact h1.elim
def K7 (lo:Int) (n:Nat):List T:=(List.range n).map λ(i:Nat)=>T.int (lo+(i:Int))
def qjv {K:Frg} {lo:Int} {n:Nat} {G0:Gp} {H0:Hp}:qgz K (Itr lo n) (K7 lo n) (λ_=>True) G0 H0:=by
 intro G H hr k _;have hl:(K7 lo n).length=n:=by simp [K7]
 refine ⟨λi x hi=>?_,λi x v H' hi y=>?_,(show n<=(K7 lo n).length by rw [hl];exact Nat.le_refl n)⟩
 ·have:=(List.getElem?_eq_some_iff.mp hi).1;rw [hl] at this;exact this
 ·obtain ⟨e,y⟩:=y;subst e;subst y;have h1:=(List.getElem?_eq_some_iff.mp hi).1;rw [hl] at h1;unfold K7 at hi;rw [getElem?_map,List.getElem?_range h1] at hi;have e:T.int (lo+(i:Int))=x:=by simpa using hi
  subst e;exact ⟨.int _,hr,Kp.refl⟩
def j4 (ta:TA3):TI3:=λτ G r=>ta τ G λxs G1=>match xs with
 |[.int j]=>(-(2 ^ 62)<=j/\j<2 ^ 62)/\r (K7 0 j.toNat) (λ_=>True) G1
 |[.int i,.int j]=>(-(2 ^ 62)<=i/\i<2 ^ 62/\-(2 ^ 62)<=j/\j<2 ^ 62)/\r (K7 i (j-i).toNat) (λ_=>True) G1
 |_=>False
def qch {p:Pos} (hg:Gl X "range") (hm:X.mg "range" = none) (ha:A3 X [a] t) (hs:starEach [a] X.env=[(false,eval a X.env)]:=by rfl) (h1:∀ τ G q,t τ G q->t τ G λxs G=>q xs G/\xs.length=1):I3 X tg (.Call (.Name "range" p) [a] [] pos) (j4 t):=
 ql4 (qaZ hg hm ha hs) λσ H R ⟨τ,G,r,rl,h,af⟩=>Q6 rl (h1 _ _ _ h) λxs G1 h1 vs H1 rs hr1 k1 rl1=>by
  obtain ⟨h1,hl⟩:=h1;simp only at h1;split at h1
  ·obtain ⟨v,rfl,r1⟩:=MU rs;cases r1;exact ⟨_,rfl,h1.1.1,h1.1.2,af _ _ G1 h1.2 _ H1 hr1 k1 qjv⟩
  ·simp at hl
  ·exact h1.elim
def CF (stay:Gp->Prop) (g:TG3) (tb:TS3) (d:Ends3):List T->St3->Gp->Prop
 |[],τ,G=>stay G/\d.nx τ G
 |x::r,τ,G=>stay G/\g x τ G λτ2 G2=>tb { d with nx:=CF stay g tb d r,ct:=CF stay g tb d r,bk:=d.nx } τ2 G2
def SQ (wi:TI3) (g:TG3) (tb:TS3):TS3:=λd τ G=>wi τ G λitems stay G1=>CF stay g tb d items τ G1
def qnE {iter:Expr} {body:List Stmt} {wi:TI3} {g:TG3} {tb:TS3} (hp:PassesOwn (model X.prog X.w) X.A X.env X.xe) (hc:X.calm=true) (hi:I3 X tg iter wi) (hg:G3 X tg g) (hb:B3 X body tb)
  (hs:∀ x,foldedSetIterable iter X.env x=pure x:=by intro _;rfl):S3 X (.For tg iter body [] pos) (SQ wi g tb):=
 K1 (qk9 hp hc hi hg hb hs) λD σ H ⟨τ,G,d,rl,h,af⟩=>by
  refine ⟨τ,G,_,rl,h,λitems stay G1 h1 J H1 hr1 k1 ok=>?_⟩;refine ⟨λi m σ' H'=>m=items.length-i/\i<=items.length/\∃ τ' G',Rel X.K τ' G' σ' H'/\Kp G1 H1 G' H'/\CF stay g tb d (items.drop i) τ' G',⟨_,rfl,Nat.zero_le _,τ,G1,rl.next hr1 k1,Kp.refl,by simpa using h1⟩,?_⟩;rintro i m σ' H' ⟨rfl,hi,τ',G',rl',k',h'⟩;by_cases hlt:i<items.length
  ·rw [List.drop_eq_getElem_cons hlt] at h';obtain ⟨hst,h'⟩:=h';obtain ⟨go,yld,_⟩:=ok G' H' rl'.hp k' hst;have hx:items[i]?=some items[i]:=getElem?_eq_getElem hlt;refine .inr ⟨go i _ hx,λσ2 H2=>∃ τ2 G2,Rel X.K τ2 G2 σ2 H2/\Kp G1 H1 G2 H2/\CF stay g tb d (items.drop (i+1)) τ2 G2,λσ2 H2 h2=>⟨_,by omega,rfl,hlt,h2⟩,λv H2 y=>?_⟩;obtain ⟨rv,hr2,k2⟩:=yld i _ v H2 hx y;have k3:Kp G1 H1 G' H2:=k'.trans k2;refine ⟨_,τ',G',_,rv,rl'.next hr2 k2,h',λτ3 G3 h3 σ3 H3 rl3 k4=>?_⟩;have k5:Kp G H G3 H3:=(k1.trans k3).trans k4;refine ⟨τ3,G3,_,rl3,h3,⟨λτ4 G4 h4 σ4 H4 rl4 k6=>⟨τ4,G4,rl4,(k3.trans k4).trans k6,h4⟩,af.rt.back k5,af.nx.back k5,λτ4 G4 h4 σ4 H4 rl4 k6=>⟨τ4,G4,rl4,(k3.trans k4).trans k6,h4⟩⟩⟩
  ·have e:i=items.length:=by omega
   subst e;rw [List.drop_length] at h';obtain ⟨_,_,stop⟩:=ok G' H' rl'.hp k' h'.1;exact .inl ⟨stop,af.nx τ' G' h'.2 σ' H' rl' (k1.trans k')⟩
def DJ {stay:Gp->Prop} {g:TG3} {tb:TS3} {d:Ends3} (items:List T) (Pv:Nat->St3->Gp->Prop) {τ:St3} {G:Gp} (h0:Pv 0 τ G) (hst:∀ i τ G,i<=items.length->Pv i τ G->stay G)
  (hs:∀ i x τ G (nx:St3->Gp->Prop),items[i]?=some x->Pv i τ G->(∀ τ G,Pv (i+1) τ G->nx τ G)->g x τ G λτ2 G2=>tb { d with nx:=nx,ct:=nx,bk:=d.nx } τ2 G2)
  (hd:∀ τ G,Pv items.length τ G->d.nx τ G):CF stay g tb d items τ G:=by
 have key:∀ (r:List T) (i:Nat) τ G,items.drop i=r->i<=items.length->Pv i τ G->CF stay g tb d r τ G:=by
  intro r;induction r with
  |nil=>
   intro i τ G e hi p;have:i=items.length:=by have:=congrArg List.length e;simp at this;omega
   subst this;exact ⟨hst _ τ G hi p,hd τ G p⟩
  |cons x r ih=>
   intro i τ G e hi p;have hl:i<items.length:=by
    apply Classical.byContradiction;intro z;rw [List.drop_eq_nil_of_le (by omega)] at e;cases e
   have e':=List.drop_eq_getElem_cons hl;rw [e] at e';injection e' with e1 e2;refine ⟨hst i τ G hi p,hs i x τ G _ (by rw [getElem?_eq_getElem hl,e1]) p λτ2 G2 p2=>ih (i+1) τ2 G2 e2.symm hl p2⟩
 exact key items 0 τ G (by simp) (Nat.zero_le _) h0
def XQ (c:TT3) (tb:TS3):TS3:=λd τ G=>∃ W:Nat->St3->Gp->Prop,(∃ m,W m τ G)/\∀ m τ G,W m τ G ->
 c τ G λb G1=>if b=true then ∃ N:St3->Gp->Prop,(∀ τ' G',N τ' G'->∃ m',m'<m/\W m' τ' G')/\tb { d with nx:=N,ct:=N,bk:=d.nx } τ G1 else d.nx τ G1
def qfR {c:Expr} {body:List Stmt} {tc:TT3} {tb:TS3} (hp:PassesOwn (model X.prog X.w) X.A X.env X.xe) (hc:C3 X c tc) (hb:B3 X body tb):S3 X (.While c body [] pos) (XQ tc tb):=
 K1 (qbD hp hc hb) λD σ H ⟨τ,G,d,rl,⟨W,⟨m0,w0⟩,turn⟩,af⟩=>by
  refine ⟨λm σ' H'=>∃ τ' G',Rel X.K τ' G' σ' H'/\Kp G H G' H'/\W m τ' G',⟨m0,τ,G,rl,Kp.refl,w0⟩,?_⟩;rintro m σ' H' ⟨τ',G',rl',k',w'⟩;refine XN rl' (turn m τ' G' w') λb G1 h1 H1 hr1 k1 rl1=>?_;cases b with
  |true=>
   rw [if_pos rfl] at h1 ⊢;obtain ⟨N,hN,h1⟩:=h1;refine ⟨λσ2 H2=>∃ τ2 G2,Rel X.K τ2 G2 σ2 H2/\Kp G H G2 H2/\N τ2 G2,λσ2 H2 ⟨τ2,G2,r2,k2,n2⟩=>?_,τ',G1,_,rl1,h1,⟨λτ2 G2 h2 σ2 H2 r2 k2=>⟨τ2,G2,r2,(k'.trans k1).trans k2,h2⟩,af.rt.back (k'.trans k1),af.nx.back (k'.trans k1),λτ2 G2 h2 σ2 H2 r2 k2=>⟨τ2,G2,r2,(k'.trans k1).trans k2,h2⟩⟩⟩;obtain ⟨m',hm,w2⟩:=hN τ2 G2 n2;exact ⟨m',hm,τ2,G2,r2,k2,w2⟩
  |false=>
   rw [if_neg Bool.false_ne_true] at h1 ⊢;exact af.nx τ' G1 h1 σ' H1 rl1 (k'.trans k1)
abbrev Sp3:=List T->Gp->Q3->Prop
def lSp (K:Frg) (sp:Sp3):Sp:=λvs H Q _=>∃ ts G q,HR K G H/\Rps K H ts vs/\sp ts G q/\Aft K G H q Q
def Fn3 (P:Program) (w:World) (K:Frg) (mg:Str->Option Value) (base:Heap) (k:Nat) (x:Str) (sp:Sp3):Prop:=
 ∃ f fd ps,FnOk P w K mg base CX0 k f fd ps (lSp K sp)/\zd K fd ps []/\PySem.W.keepIn K (.ref f)=true/\mg x=some (.ref f)
def Fn3.mono {P:Program} {w:World} {K:Frg} {mg:Str->Option Value} {base:Heap} {j k:Nat} {x:Str} {sp:Sp3} (F:Fn3 P w K mg base j x sp) (h:j<=k):Fn3 P w K mg base k x sp:=
 let ⟨f,fd,ps,a,b,c,d⟩:=F;⟨f,fd,ps,a.mono h,b,c,d⟩
def qkD {k:Nat} {x:Str} {p:Pos} {sp:Sp3} (F:Fn3 X.prog X.w X.K X.mg X.base k x sp) (hr:Room k X.A) (hg:Gl X x) (ha:A3 X (e::es) t) (hdb:(x==("__debug__" : Str))=false:=by decide)
  (he:starEach (e::es) X.env=(false,eval e X.env)::starEach es X.env:=by rfl) (hpl:(backTo pos (starEach es X.env)).any (·.1)=false:=by rfl):E3 X (.Call (.Name x p) (e::es) [] pos) (cb3 sp t):=by
 obtain ⟨f,fd,ps,F,b,kp,m⟩:=F;refine EZ (qa7 F hr hg m kp b .nil qnf ha hdb he hpl) λσ H Q ⟨τ,G,q,rl,h,af⟩=>Q6 rl h λxs G1 h1 vs H1 rs hr1 k1 rl1=>?_;rw [List.append_nil];exact ⟨xs,G1,q,hr1,rs,h1,af.back k1⟩
def qj (N:List Str) (ts:List T):St3:=ts.map some++List.replicate (N.length-ts.length) none
def D0 {K:Frg} {N:List Str} {G:Gp} {H:Hp} {ts:List T} {vs:List V} (hr:HR K G H) (rs:Rps K H ts vs):Rel K (qj N ts) G (L2.WM N vs) H:=by
 refine ⟨hr,by simp [qj,L2.WM,rs.length],λi t e=>?_⟩;unfold qj at e;by_cases hi:i<ts.length
 ·rw [List.getElem?_append_left (by simpa using hi),getElem?_map] at e;cases q:ts[i]? with
  |none=>rw [q] at e;cases e
  |some z=>
   rw [q] at e;have e':z=t:=by simpa using e
   subst e';obtain ⟨v,hv,r⟩:=rs.get q;refine ⟨v,?_,r⟩;unfold L2.WM;rw [List.getElem?_append_left (by rw [length_map,← rs.length];exact hi),getElem?_map,hv];rfl
 ·rw [List.getElem?_append_right (by simpa using hi),List.getElem?_replicate] at e;split at e<;>cases e
def qjF {P:Program} {w:World} {K:Frg} {mg:Str->Option Value} {base:Heap} {x qual:Str} {st:Stmt} {f:Addr} {fd:FuncData} {N ps:List Str} {k:Nat} {sp:Sp3} {t3:TS3} (F:Fun K x qual st f fd) (S:FnScope N ps (qi st)) (bd:zd K fd ps []) (hm:mg x=some (.ref f))
  (body:∀ (cdv:Value) (A:Around) (outer:List Env) (s:Shared) (H:Hp) (E:XK),Room k (A.deeper (envOfC qual (qi st) s.heap.objs.size f cdv)) ->
   B3 (J0 CX0 P w K mg base N qual (qi st) f cdv A outer s H E).nox (zk st) t3)
  (read:∀ ts G q,sp ts G q->ts.length=ps.length/\t3 { nx:=λ_ G'=>q .non G',rt:=q } (qj N ts) G):Fn3 P w K mg base (k+1) x sp:=by
 refine ⟨f,fd,ps,F.ok S (λvs H Q E ⟨ts,G,q,h1,h2,h3,h4⟩=>by rw [← h2.length];exact (read ts G q h3).1) λcdv A outer s H vs Q E hr ⟨ts,G,q,h1,h2,h3,h4⟩=>?_,bd,F.kp,hm⟩;refine ⟨_,body cdv A outer s H E hr,qj N ts,G,_,D0 h1 h2,(read ts G q h3).2,⟨λτ' G' h' σ' H' rl' k'=>h4 _ G' h' _ H' .non rl'.hp k',h4,λ_ _ z=>z.elim,λ_ _ z=>z.elim⟩⟩
def qo1 (xs:List T):Option Bool:=match xs with
 |[]=>some true
 |.bl k::r=>(match qo1 r with|some j=>some (k&&j)|none=>none)
 |_=>none
def qoV (xs:List T):Option Bool:=match xs with
 |[]=>some false
 |.bl k::r=>(match qoV r with|some j=>some (k||j)|none=>none)
 |_=>none
end
def WX (env:Env):List (Str×NameKind)->List (Str×Addr)->List (Str×Addr)
 |[],cs=>cs
 | (n,k)::r,cs=>if k=.free then WX env r ((n,(env.cells.lookup n).getD 0)::cs) else WX env r cs
def Z1 {scope:Scope} {env:Env} (h:∀ y∈scope.names,y.2=.free->∃ c,env.cells.lookup y.1=some c):closureFor scope env=pure (WX env scope.names []):=by
 have key:∀ (l:List (Str×NameKind)) (cs:List (Str×Addr)),(∀ y∈l,y.2=.free->∃ c,env.cells.lookup y.1=some c) ->
   (forIn l cs λ(x:Str×NameKind) (r:List (Str×Addr))=>if (x.2==NameKind.free)=true then (do let a←cellOf env x.1;pure (ForInStep.yield ((x.1,a)::r))) else pure (ForInStep.yield r))=(pure (WX env l cs):Sem _):=by
  intro l;induction l with
  |nil=>intro cs _;rfl
  |cons y r ih=>
   intro cs hl;obtain ⟨n,k⟩:=y;rw [List.forIn_cons];by_cases hk:k=.free
   ·subst hk;obtain ⟨c,hc⟩:=hl (n,.free) List.mem_cons_self rfl;have e:cellOf env n=pure c:=by unfold cellOf;rw [show List.lookup n env.cells=some c from hc]
    simp only [beq_self_eq_true,if_true];rw [e,pure_bind,pure_bind];show forIn r ((n,c)::cs) _=_;rw [ih _ λz hz=>hl z (List.mem_cons_of_mem _ hz)];show _=(pure (if NameKind.free=NameKind.free then WX env r ((n,(env.cells.lookup n).getD 0)::cs) else WX env r cs):Sem _);rw [if_pos rfl,show List.lookup n env.cells=some c from hc];rfl
   ·have hb:(k==NameKind.free)=false:=by cases k<;>first|rfl|exact absurd rfl hk
    simp only [hb,Bool.false_eq_true,if_false];rw [pure_bind];show forIn r cs _=_;rw [ih _ λz hz=>hl z (List.mem_cons_of_mem _ hz)];show _=(pure (if k=NameKind.free then WX env r ((n,(env.cells.lookup n).getD 0)::cs) else WX env r cs):Sem _);rw [if_neg hk]
 have:=key scope.names [] h;unfold closureFor;refine Eq.trans ?_ this;exact bind_pure (m:=Sem) _
def VG {env:Env}:∀ (l:List (Str×NameKind)) (cs:List (Str×Addr)) (x:Str) (c:Addr),(∀ y∈l,y.2=.free->∃ c,env.cells.lookup y.1=some c) ->
  (∀ x c,cs.lookup x=some c->env.cells.lookup x=some c)->(WX env l cs).lookup x=some c->env.cells.lookup x=some c
 |[],_,_,_,_,h,e=>h _ _ e
 | (n,k)::r,cs,x,c,hl,h,e=>by
  unfold WX at e;split at e
  ·rename_i hk;refine VG r _ x c (λy hy=>hl y (List.mem_cons_of_mem _ hy)) (λx c e=>?_) e;rw [List.lookup_cons] at e;split at e
   ·rename_i hx;have hx':x=n:=by simpa using hx
    subst hx';obtain ⟨d,hd⟩:=hl (x,k) List.mem_cons_self hk;have hd:List.lookup x env.cells=some d:=hd;rw [hd] at e ⊢;exact e
   ·exact h _ _ e
  ·exact VG r cs x c (λy hy=>hl y (List.mem_cons_of_mem _ hy)) h e
def EV {env:Env}:∀ (l:List (Str×NameKind)) (cs:List (Str×Addr)) (x:Str),((x,NameKind.free)∈l\/∃ c,cs.lookup x=some c)->∃ c,(WX env l cs).lookup x=some c
 |[],_,_,h=>by
  rcases h with h|h
  ·simp at h
  ·exact h
 | (n,k)::r,cs,x,h=>by
  unfold WX;have put:∀ d:Addr,(x=n\/∃ c,cs.lookup x=some c)->∃ c,((n,d)::cs).lookup x=some c:=λd z=>by
   rw [List.lookup_cons];cases hx:x==n with
   |true=>exact ⟨d,rfl⟩
   |false=>
    rcases z with z|z
    ·rw [z] at hx;simp at hx
    ·exact z
  split
  ·rename_i hk;refine EV r _ x ?_;rcases h with h|h
   ·rcases mem_cons.mp h with e|e
    ·cases e;exact .inr (put _ (.inl rfl))
    ·exact .inl e
   ·exact .inr (put _ (.inr h))
  ·rename_i hk;refine EV r _ x ?_;rcases h with h|h
   ·rcases mem_cons.mp h with e|e
    ·cases e;exact absurd rfl hk
    ·exact .inl e
   ·exact .inr h
def CP {env:Env}:∀ (l:List (Str×NameKind)) (cs:List (Str×Addr)) (x:Str) (c:Addr),(WX env l cs).lookup x=some c->(x,NameKind.free)∈l\/cs.lookup x=some c
 |[],_,_,_,e=>.inr e
 | (n,k)::r,cs,x,c,e=>by
  unfold WX at e;split at e
  ·rename_i hk;rcases CP r _ x c e with z|z
   ·exact .inl (List.mem_cons_of_mem _ z)
   ·rw [List.lookup_cons] at z;split at z
    ·rename_i hx;have hx':x=n:=by simpa using hx
     subst hx';subst hk;exact .inl List.mem_cons_self
    ·exact .inr z
  ·rcases CP r cs x c e with z|z
   ·exact .inl (List.mem_cons_of_mem _ z)
   ·exact .inr z
def UJ {α:Type}:∀ (xs ys:List (Str×α)) (x:Str),(xs++ys).lookup x=(match xs.lookup x with|some c=>some c|none=>ys.lookup x)
 |[],ys,x=>rfl
 | (n,c)::xs,ys,x=>by
  rw [cons_append,List.lookup_cons,List.lookup_cons];cases x==n with
  |true=>rfl
  |false=>exact UJ xs ys x
def ju:∀ (l:List (Str×NameKind)) {n:Nat} {acc:List (Str×Addr)},cellsFrom n l acc=cellsFrom n l []++acc
 |[],_,_=>rfl
 | (x,k)::r,n,acc=>by
  unfold cellsFrom;split
  ·rw [ju r (acc:=(x,n)::acc),ju r (acc:=[(x,n)]),List.append_assoc];rfl
  ·exact ju r
def ZZ:∀ (l:List (Str×NameKind)) (n:Nat) (acc:List (Str×Addr)) (x:Str) (c:Addr),(x,c)∈cellsFrom n l acc->(x,NameKind.cell)∈l\/(x,c)∈acc
 |[],_,_,_,_,h=>.inr h
 | (y,k)::r,n,acc,x,c,h=>by
  unfold cellsFrom at h;split at h
  ·rename_i hk;have hk:k=.cell:=by simpa using hk
   rcases ZZ r _ _ x c h with z|z
   ·exact .inl (List.mem_cons_of_mem _ z)
   ·rcases mem_cons.mp z with e|e
    ·cases e;subst hk;exact .inl List.mem_cons_self
    ·exact .inr e
  ·rcases ZZ r _ _ x c h with z|z
   ·exact .inl (List.mem_cons_of_mem _ z)
   ·exact .inr z
def QF:∀ (l:List (Str×NameKind)) (n:Nat) (acc:List (Str×Addr)) (x:Str),((x,NameKind.cell)∈l\/∃ c,acc.lookup x=some c)->∃ c,(cellsFrom n l acc).lookup x=some c
 |[],_,_,_,h=>by
  rcases h with h|h
  ·simp at h
  ·exact h
 | (y,k)::r,n,acc,x,h=>by
  unfold cellsFrom;have put:(x=y\/∃ c,acc.lookup x=some c)->∃ c,((y,n)::acc).lookup x=some c:=λz=>by
   rw [List.lookup_cons];cases hx:x==y with
   |true=>exact ⟨n,rfl⟩
   |false=>
    rcases z with z|z
    ·rw [z] at hx;simp at hx
    ·exact z
  split
  ·refine QF r _ _ x ?_;rcases h with h|h
   ·rcases mem_cons.mp h with e|e
    ·cases e;exact .inr (put (.inl rfl))
    ·exact .inl e
   ·exact .inr (put (.inr h))
  ·rename_i hk;refine QF r _ _ x ?_;rcases h with h|h
   ·rcases mem_cons.mp h with e|e
    ·cases e;exact absurd rfl hk
    ·exact .inl e
   ·exact .inr h
def j3 {M:Model} {A:Around} {E:Value->Shared->Prop} {s:Shared} {scope:Scope} {globals:Addr} {cl:List (Str×Addr)} {qual:Str} {env:Env} {Q:Env->Shared->Prop}
  (hQ:∀ h₁:Heap,h₁.Ns s.heap.objs.size (λ_=>none)->(∀ b o,s.heap.get? b=some o->h₁.get? b=some o)->CellsOk h₁ (s.heap.objs.size+1) (cellsFrom (s.heap.objs.size+1) scope.names [])->Q (newEnv scope s.heap.objs.size globals (cellsFrom (s.heap.objs.size+1) scope.names cl) qual none .none (some env) builtinsNs) { s with heap:=h₁ }) :
  wpAny M A (newFunctionEnv scope globals cl [] qual none .none (some env)) Q E s:=by
 simp only [newFunctionEnv,Option.isSome_some,if_true];refine wpAny_bind (wpAny_alloc ?_);refine wpAny_bind (wpAny_layCells _ (λname kind cells=>by cases hkc:kind==NameKind.cell<;>simp [hkc]) _ _ _ _ ?_);have ok:=cellsFrom_ok scope.names (s.heap.push { cls:=.type "dict",data:=.dict #[] }) (s.heap.objs.size+1) [] ⟨λ_ _ hm=>(nomatch hm),List.Pairwise.nil⟩ (by rw [Heap.size_push];exact Nat.le_refl _);rw [Heap.size_push] at ok;rw [show ({ s with heap:=s.heap.push { cls:=.type "dict",data:=.dict #[] } }:Shared).heap.objs.size=s.heap.objs.size+1 from Heap.size_push ..];rw [List.forIn_nil];refine wpAny_bind (wpAny_pure (wpAny_pure ?_));exact hQ _ ((Heap.Ns.new s.heap (.type "dict")).keeps (pushCells_keeps _ _)) (λb o e=>pushCells_keeps _ _ b o (Heap.get?_push_of_some _ e)) ok
def ql (X:Cx) (N':List Str) (scope:Scope) (s:Shared) (H:Hp) (fp:List Addr):Cx where
 prog:=X.prog
 w:=X.w
 K:=X.K
 mg:=X.mg
 base:=X.base
 A:=X.A
 N:=N'
 s₀:=s
 H₀:=H
 env:=compEnvC scope (cellsFrom (s.heap.objs.size+1) scope.names (WX X.env scope.names [])) s.heap.objs.size X.env
 outer:=X.stack
 stack:=X.stack
 ex:=fp
 fn:=λx=>scope.names.lookup x==some .cell
 calm:=true
 pn:=[]
 xe:=λ_ _=>False
def MV (outer inner:Scope):Bool:=(inner.kind==.function)&&inner.names.all λy=>
 (y.2 != .cell||inner.names.lookup y.1==some .cell)&&(y.2 != .local||inner.names.lookup y.1==some .local)&&(y.2 != .free||(inner.names.lookup y.1==some .free&&(outer.names.lookup y.1==some .cell||outer.names.lookup y.1==some .free)))
def cap {α:Type} (m:List (Option Nat)) (σ:List (Option α)):List (Option α):=m.map λo=>match o with|some j=>(σ[j]?).join|none=>none
def Y9 (N N':List Str) (scope:Scope) (m:List (Option Nat)):Bool:=(m.length==N'.length)&&(m.zip N').all λp=>match p.1 with
 |none=>true
 |some j=>N[j]?==some p.2&&scope.names.lookup p.2==some .free
def NW {α:Type} {m:List (Option Nat)} {σ:List (Option α)} {i:Nat} {v:α} (h:(cap m σ)[i]?=some (some v)):∃ j,m[i]?=some (some j)/\σ[j]?=some (some v):=by
 unfold cap at h;rw [getElem?_map] at h;cases e:m[i]? with
 |none=>rw [e] at h;cases h
 |some o=>
  rw [e] at h;cases o with
  |none=>cases h
  |some j=>
   refine ⟨j,rfl,?_⟩;have h':(σ[j]?).join=some v:=by simpa using h
   cases q:σ[j]? with
   |none=>rw [q] at h';cases h'
   |some z=>rw [q] at h';exact congrArg some h'
def N5 {N N':List Str} {scope:Scope} {m:List (Option Nat)} (h:Y9 N N' scope m=true) {i j:Nat} {x:Str} (e:m[i]?=some (some j)) (hx:N'[i]?=some x):N[j]?=some x/\scope.names.lookup x=some .free:=by
 unfold Y9 at h;rw [Bool.and_eq_true] at h;have hm:(some j,x)∈m.zip N':=mem_of_getElem? (i:=i) (List.getElem?_zip_eq_some.mpr ⟨e,hx⟩);have:=List.all_eq_true.mp h.2 _ hm;simp only [Bool.and_eq_true,beq_iff_eq] at this;exact this
def qgi {N N':List Str} {scope:Scope} {m:List (Option Nat)} {α:Type} (σ:List (Option α)) (h:Y9 N N' scope m=true):(cap m σ).length=N'.length:=by
 unfold Y9 at h;rw [Bool.and_eq_true] at h;unfold cap;rw [length_map];simpa using h.1
structure ScFacts (outer inner:Scope):Prop where
 kind:inner.kind=.function
 own:∀ y∈inner.names,y.2=.cell->inner.names.lookup y.1=some .cell
 loc:∀ y∈inner.names,y.2=.local->inner.names.lookup y.1=some .local
 free:∀ y∈inner.names,y.2=.free->inner.names.lookup y.1=some .free/\(outer.names.lookup y.1=some .cell\/outer.names.lookup y.1=some .free)
def UD {outer inner:Scope} (h:MV outer inner=true):ScFacts outer inner:=by
 unfold MV at h;rw [Bool.and_eq_true] at h;have ha:=List.all_eq_true.mp h.2;refine ⟨by simpa using h.1,λy hy e=>?_,λy hy e=>?_,λy hy e=>?_⟩
 ·have:=ha y hy;rw [e] at this;simpa using this
 ·have:=ha y hy;rw [e] at this;simpa using this
 ·have:=ha y hy;rw [e] at this;simpa using this
def ZG {scope:Scope} {env:Env} {x:Str} {k:NameKind} (h:(relabel scope env).names.lookup x=some k):scope.names.lookup x=some k\/(k=.cell/\scope.names.lookup x=some .free):=by
 have key:∀ (l:List (Str×NameKind)),(l.map λ(n,k)=>if (k==NameKind.free&&env.scope.kind==.function&&env.kindOf n==some .cell) then (n,NameKind.cell) else (n,k)).lookup x=some k->l.lookup x=some k\/(k=.cell/\l.lookup x=some .free):=by
  intro l;induction l with
  |nil=>intro h;simp at h
  |cons y r ih=>
   intro h;obtain ⟨n,j⟩:=y;rw [map_cons] at h;dsimp only at h;by_cases hc:(j==NameKind.free&&env.scope.kind==.function&&env.kindOf n==some .cell)=true
   ·rw [if_pos hc,List.lookup_cons] at h;rw [List.lookup_cons];cases hx:x==n with
    |true=>
     rw [hx] at h;have hk:NameKind.cell=k:=by simpa using h
     have hj:j=.free:=by simp only [Bool.and_eq_true,beq_iff_eq] at hc;exact hc.1.1
     exact .inr ⟨hk.symm,by rw [hj]⟩
    |false=>rw [hx] at h;exact ih h
   ·rw [if_neg hc,List.lookup_cons] at h;rw [List.lookup_cons];cases hx:x==n with
    |true=>rw [hx] at h;exact .inl h
    |false=>rw [hx] at h;exact ih h
 exact key scope.names h
def PF (X:Cx) (ifs:List Expr) (t:TT):Prop:=
 ∀ (pins:List (Addr×Obj)) (s:Shared) (σ:L2.St) (H:Hp) (Q:Bool->Hp->Prop),Inv X pins σ H s->t σ H Q ->
  wpAny (model X.prog X.w) X.A (forIn ifs true λc r=>if r=true then do let ok←isTrue c X.env (eval c X.env);pure (ForInStep.yield ok) else pure (ForInStep.yield r)) (TP X pins σ Q) X.xe s
def qhb {X:Cx}:PF X [] (λ_ H Q=>Q true H):=λ_ _ _ H _ I h=>wpAny_tests_nil ⟨H,I,h⟩
def qld {X:Cx} {c:Expr} {t:TT} (h:PT X c t):PF X [c] t:=λpins s σ H Q I q=>wpAny_tests_one (h pins s σ H Q I q)
section
variable {X:Cx} {pins:List (Addr×Obj)} {σ:L2.St} {H:Hp} {s:Shared}
def C0 {N':List Str} {scope:Scope} {fp:List Addr} {m:List (Option Nat)} {h1:Heap} {mm:Str->Option Value} (hc:X.calm=true) (I:Inv X pins σ H s) (sc:ScFacts X.env.scope scope) (hcap:Y9 X.N N' scope m=true)
  (hfp:∀ b∈fp,RO X pins H b) (hob:∀ b∈fp,∃ o,s.heap.get? b=some o) (hns:h1.Ns s.heap.objs.size mm) (hk:∀ b o,s.heap.get? b=some o->h1.get? b=some o) (hown:CellsOk h1 (s.heap.objs.size+1) (cellsFrom (s.heap.objs.size+1) scope.names [])) :
  Inv (ql X N' scope s H fp) [] (cap m σ) H { s with heap:=h1 }:=by
 have hcl:∀ y∈scope.names,y.2=.free->∃ c,X.env.cells.lookup y.1=some c:=λy hy e=>by
  rcases (sc.free y hy e).2 with z|z
  ·exact I.ok.has y.1 (.inl z)
  ·exact I.ok.has y.1 (.inr z)
 have cl:∀ x c,(WX X.env scope.names []).lookup x=some c->X.env.cells.lookup x=some c:=λx c e=>VG scope.names [] x c hcl (λ_ _ z=>by simp at z) e;have clt:∀ x c,(WX X.env scope.names []).lookup x=some c->c<s.heap.objs.size:=λx c e=>by
  obtain ⟨v,q⟩:=I.cell x c (cl x c e);exact q.lt
 -- a cell of the block: its own,or one from around
 have cs:∀ x c,(cellsFrom (s.heap.objs.size+1) scope.names (WX X.env scope.names [])).lookup x=some c->((x,c)∈cellsFrom (s.heap.objs.size+1) scope.names []/\s.heap.objs.size+1<=c/\h1.IsCell c none)\/(WX X.env scope.names []).lookup x=some c:=λx c e=>by
  rw [ju,UJ] at e;cases q:(cellsFrom (s.heap.objs.size+1) scope.names []).lookup x with
  |none=>rw [q] at e;exact .inr e
  |some d=>
   rw [q] at e;cases e;have mem:=PySem.mem_of_lookup q;exact .inl ⟨mem,(hown.empty x _ mem).2,(hown.empty x _ mem).1⟩
 have fpne:∀ b∈fp,b≠s.heap.objs.size:=λb hb=>let ⟨o,e⟩:=hob b hb;Nat.ne_of_lt (Heap.lt_size e)
 refine ⟨⟨I.ok.mod,sc.kind,I.ok.glob,I.ok.blt,Nat.le_refl _,λx y c e1 e2=>?_,λx hx=>?_,λx c hf e=>?_,λ_=>I.ok.hd hc,I.ok.frames,.inl rfl,λb hb=>⟨fpne b hb,λx c e=>?_⟩,I.bs,Nat.le_trans I.ok.bsz I.sz,λb o e hb=>?_,λb hb z=>?_,I.stack,I.stkFree⟩,
  rfl,I.bare,Un.kept hk,⟨mm,hns,λi x v e1 e2 e3=>?_⟩,λx c e=>?_,I.fresh,λx c e=>?_,λp hp=>absurd (show p∈([]:List (Addr×Obj)) from hp) (by simp),I.hok.kept hk,qgi σ hcap⟩
 ·rcases cs x c e1 with ⟨m1,l1,_⟩|z1<;>rcases cs y c e2 with ⟨m2,l2,_⟩|z2
  ·exact PySem.name_of_addr hown.apart m1 m2
  ·exact absurd (clt y c z2) (Nat.not_lt.mpr (Nat.le_trans (Nat.le_succ _) l1))
  ·exact absurd (clt x c z1) (Nat.not_lt.mpr (Nat.le_trans (Nat.le_succ _) l2))
  ·exact I.ok.inj x y c (cl x c z1) (cl y c z2)
 ·have hx:(relabel scope X.env).names.lookup x=some .cell\/(relabel scope X.env).names.lookup x=some .free:=hx;have hf:scope.names.lookup x=some .cell\/scope.names.lookup x=some .free:=by
   rcases hx with z|z
   ·rcases ZG z with q|⟨_,q⟩
    ·exact .inl q
    ·exact .inr q
   ·rcases ZG z with q|⟨q,_⟩
    ·exact .inr q
    ·cases q
  show ∃ c,(cellsFrom (s.heap.objs.size+1) scope.names (WX X.env scope.names [])).lookup x=some c;rcases hf with hf|hf
  ·exact QF scope.names _ _ x (.inl (PySem.mem_of_lookup hf))
  ·exact QF scope.names _ _ x (.inr (EV scope.names [] x (.inl (PySem.mem_of_lookup hf))))
 ·have hf:scope.names.lookup x=some .cell:=by simpa [ql] using hf
  rcases cs x c e with ⟨_,l1,_⟩|z1
  ·exact Nat.le_trans (Nat.le_succ _) l1
  ·rcases CP scope.names [] x c z1 with q|q
   ·rw [(sc.free _ q rfl).1] at hf;cases hf
   ·simp at q
 ·rcases cs x c e with ⟨_,l1,_⟩|z1
  ·obtain ⟨o,eo⟩:=hob b hb;exact Nat.ne_of_gt (Nat.lt_of_lt_of_le (Heap.lt_size eo) (Nat.le_trans (Nat.le_succ _) l1))
  ·exact (hfp b hb).2.2.2.2.1 x c (cl x c z1)
 ·rcases (hfp b hb).2.2.2.1 with z|z
  ·exact I.ok.noex b o e z
  ·exact absurd (Nat.lt_of_lt_of_le (Heap.lt_size e) (Nat.le_trans I.ok.bsz z)) (Nat.lt_irrefl _)
 ·rcases mem_cons.mp (I.stkSub b z) with q|q
  ·exact (hfp b hb).2.1 q
  ·exact (hfp b hb).2.2.1 q
 ·obtain ⟨j,ej,es⟩:=NW e2;obtain ⟨hN,hfr⟩:=N5 hcap ej e1;have mem:=PySem.mem_of_lookup hfr;have ho:=(sc.free _ mem rfl).2;obtain ⟨m0,hn0,hl0⟩:=I.loc;obtain ⟨u,ru,lk⟩:=hl0 j x v hN es (ho.elim (λz=>.inr (.inl z)) λz=>.inr (.inr z));refine ⟨u,ru,.inr ⟨?_,?_⟩⟩
  ·rcases e3 with z|z|z
   ·rcases ZG z with q|⟨q,_⟩
    ·rw [hfr] at q;cases q
    ·cases q
   ·exact .inl z
   ·exact .inr z
  ·rcases lk with ⟨z,_⟩|⟨_,c,hc',hcell⟩
   ·have z:X.env.scope.names.lookup x=some .local:=z;rcases ho with q|q<;>(rw [z] at q;cases q)
   ·obtain ⟨c',hc2⟩:=EV (env:=X.env) scope.names [] x (.inl mem);have e:=cl x c' hc2;rw [hc'] at e;cases e;obtain ⟨o,eo,d⟩:=hcell;refine ⟨c,?_,o,hk c o eo,d⟩;show (cellsFrom (s.heap.objs.size+1) scope.names (WX X.env scope.names [])).lookup x=some c;rw [ju,UJ];cases q:(cellsFrom (s.heap.objs.size+1) scope.names []).lookup x with
    |none=>exact hc2
    |some d=>
     rcases ZZ scope.names _ [] x d (PySem.mem_of_lookup q) with z|z
     ·rw [sc.own _ z rfl] at hfr;cases hfr
     ·simp at z
 ·rcases cs x c e with ⟨_,_,z⟩|z1
  ·exact ⟨none,z⟩
  ·obtain ⟨v,o,eo,d⟩:=I.cell x c (cl x c z1);exact ⟨v,o,hk c o eo,d⟩
 ·rcases cs x c e with ⟨_,l1,_⟩|z1
  ·exact I.hok.fresh (Nat.le_trans (Nat.le_succ _) l1)
  ·exact I.freeC x c (cl x c z1)
def UN {N':List Str} {scope:Scope} {fp:List Addr} {pins':List (Addr×Obj)} {σ':L2.St} {H':Hp} {s':Shared} {h2:Heap} (I:Inv X pins σ H s) (hfp:∀ b∈fp,RO X pins H b) (J:Inv (ql X N' scope s H fp) pins' σ' H' s')
  (sb:Heap.SameBut s.heap.objs.size s'.heap h2):Inv X pins σ H' { s' with heap:=h2 }:=by
 have ne:∀ b o,s.heap.get? b=some o->b≠s.heap.objs.size:=λb o e=>Nat.ne_of_lt (Heap.lt_size e);have g:∀ b,b≠s.heap.objs.size->h2.get? b=s'.heap.get? b:=λb hb=>sb.2 b hb;have hn:H' s.heap.objs.size=none:=J.free;have u:Un (frs X.stack) fp H H' s.heap s'.heap:=J.base;refine I.call' (s':={ s' with heap:=h2 }) J.os ⟨λb o e n hb hx=>?_,λb o e n hb hx=>?_,u.free,λb o e hx=>?_,u.tups,u.frzs,u.tbls⟩ (λa o e=>?_) J.bare λb hb=>⟨(hfp b hb).2.2.2.1,(hfp b hb).2.1,(hfp b hb).2.2.2.2.1,(hfp b hb).2.2.2.2.2⟩
 ·show h2.get? b=_;rw [g b (ne b o e)];exact u.keep b o e n hb hx
 ·show ∃ sl,h2.get? b=_;rw [g b (ne b o e)];exact u.slot b o e n hb hx
 ·show ∃ o',h2.get? b=_;rw [g b (ne b o e)];exact u.there b o e hx
 ·refine (J.hok a o e).stay (λb v hb q=>?_) (λ_ q=>q) λ_ _ q=>q;have hb':b≠s.heap.objs.size:=by
   intro z;subst z;rcases hb with z|z
   ·rw [← z] at e;rw [hn] at e;cases e
   ·rw [hn] at z;cases z
  rw [g b hb'];exact q
end
def tLC (wi:TI) (g:TG) (tif:TT) (te:TE) (m:List (Option Nat)):TE:=λσ H Q=>wi σ H λJ H1=>∀ D,H1 D=none ->
 ∃ W:Nat->Nat->L2.St->Hp->Prop,(∃ n,W 0 n (cap m σ) (upd H1 D (.lst [])))/\∀ i n σ H,W i n σ H ->
  (J.stop i H/\Q (.ref D) H)\/(J.go i H/\∀ x H',J.yld i H x H'->g x σ H' λσ2 H2=>tif σ2 H2 λk H3=>
   if k=true then te σ2 H3 λy H4=>∃ zs,H4 D=some (.lst zs)/\zs.length<sizeLine/\∃ n',n'<n/\W (i+1) n' σ2 (upd H4 D (.lst (zs++[y])))
   else ∃ n',n'<n/\W (i+1) n' σ2 H3)
section
variable {X:Cx}
def qnn {elt tg iter:Expr} {ifs:List Expr} {scope:Scope} {pos:Pos} {N':List Str} {m:List (Option Nat)} {wi:TI} {g:TG} {tif:TT} {te:TE} (hc:X.calm=true) (hi:PI X tg iter wi)
  (hg:∀ s H fp,PG (ql X N' scope s H fp) tg g) (hf:∀ s H fp,PF (ql X N' scope s H fp) ifs tif) (he:∀ s H fp,PE (ql X N' scope s H fp) elt te)
  (hsc:MV X.env.scope scope=true) (hcap:Y9 X.N N' scope m=true) (hs:∀ x,foldedSetIterable iter X.env x=pure x:=by intro _;rfl) :
  PE X (.ListComp elt [⟨tg,iter,ifs,0⟩] scope pos) (tLC wi g tif te m):=by
 intro pins s σ H Q I h;have sc:=UD hsc;have hcl:∀ y∈scope.names,y.2=.free->∃ c,X.env.cells.lookup y.1=some c:=λy hy e=>by
  rcases (sc.free y hy e).2 with z|z
  ·exact I.ok.has y.1 (.inl z)
  ·exact I.ok.has y.1 (.inr z)
 rw [eval_ListComp];refine wpAny_comprehension_free (use:=none) (g:=⟨tg,iter,ifs,0⟩) (gs:=[]) rfl hs (Z1 hcl) sc.kind sc.loc ?_;show wpAny _ _ (eval iter X.env) _ _ s;refine thn (hi pins s σ H _ I h) λv s1 h1=>thn h1 λitv s2 h2=>?_;obtain ⟨it,fp,tn,J,H2,rfl,I2,T,st2,f2,hW⟩:=h2;refine wpAny_newObj_type ?_;have hD:H2 s2.heap.objs.size=none:=I2.fresh;obtain ⟨W,⟨n0,w0⟩,turn⟩:=hW _ hD;generalize hDe:s2.heap.objs.size=D at *;have I3:Inv X pins σ (upd H2 D (.lst [])) { s2 with heap:=s2.heap.push { cls:=.type "list",dict:=none,data:=.seq ([]:List Value).toArray } }:=by
  subst hDe;exact I2.laid (t':=s2.toks) (λb u e=>Heap.get?_push_of_some _ e) (Nat.le_refl _) ⟨Nat.zero_le _,[],0,.nil,Heap.get?_push_size _ rfl⟩
 have ob2:=T.obj 0 _ st2;have ob3:∀ b∈fp,∃ o,(s2.heap.push { cls:=.type "list",dict:=none,data:=.seq ([]:List Value).toArray }).get? b=some o:=λb hb=>let ⟨o,e,_⟩:=ob2 b hb;⟨o,Heap.get?_push_of_some _ e⟩
 have f3:∀ b∈fp,RO X pins (upd H2 D (.lst [])) b:=λb hb=>by
  obtain ⟨o,e,_⟩:=ob2 b hb;have:b≠D:=by rw [← hDe];exact Nat.ne_of_lt (Heap.lt_size e)
  exact ⟨by rw [qu this];exact (f2 b hb).1,(f2 b hb).2⟩
 have k23:∀ b o,s2.heap.get? b=some o->(s2.heap.push { cls:=.type "list",dict:=none,data:=.seq ([]:List Value).toArray }).get? b=some o:=λb o e=>Heap.get?_push_of_some _ e;generalize hH3:upd H2 D (.lst [])=H3 at *;generalize hs3:({ s2 with heap:=s2.heap.push { cls:=.type "list",dict:=none,data:=.seq ([]:List Value).toArray } }:Shared)=s3 at *;have ob3:∀ b∈fp,∃ o,s3.heap.get? b=some o:=by rw [← hs3];exact ob3
 have k23:∀ b o,s2.heap.get? b=some o->s3.heap.get? b=some o:=by rw [← hs3];exact k23
 refine j3 λh₁ hns hk hown=>?_;have I4:Inv (ql X N' scope s3 H3 fp) [] (cap m σ) H3 { s3 with heap:=h₁ }:=C0 hc I3 sc hcap f3 ob3 hns hk hown;have tn4:tn 0 h₁:=T.keep _ _ _ st2 λb hb o e=>hk b o (k23 b o e);have fr4:∀ b∈fp,H3 b=none:=λb hb=>(f3 b hb).1;have stat:∀ {H':Hp},(∀ b∈fp,H' b=none)->∀ b∈fp,RO (ql X N' scope s3 H3 fp) [] H' b:=λhn b hb=>by
  refine ⟨hn b hb,I4.ok.exf b hb |>.1,I4.ok.exfs b hb,.inl hb,λx c e=>(I4.ok.exf b hb).2 x c e,λp hp=>absurd (show p∈([]:List (Addr×Obj)) from hp) (by simp)⟩
 show codeAny (model X.prog X.w) X.A (.compStart (.ListComp elt [⟨tg,iter,ifs,0⟩] scope pos) 0 (.ref it) (.ref D) (ql X N' scope s3 H3 fp).env) (compPost (model X.prog X.w) X.A X.xe none (EP X pins σ Q) (.ref D) s3.heap.objs.size) { s3 with heap:=h₁ };have loop:codeAny (model X.prog X.w) X.A (.compLoop (.ListComp elt [⟨tg,iter,ifs,0⟩] scope pos) 0 (.ref it) (.ref D) (ql X N' scope s3 H3 fp).env) (compPost (model X.prog X.w) X.A X.xe none (EP X pins σ Q) (.ref D) s3.heap.objs.size) { s3 with heap:=h₁ }:=by
  refine codeAny_loop rfl (λn s'=>∃ i σ' H',Inv (ql X N' scope s3 H3 fp) [] σ' H' s'/\tn i s'.heap/\(∀ b∈fp,H' b=none)/\W i n σ' H') (λn s' hI=>?_) n0 ⟨0,cap m σ,H3,I4,tn4,fr4,w0⟩;show wpAny _ X.A ((compTurn (.ListComp elt [⟨tg,iter,ifs,0⟩] scope pos) 0 (.ref it) (.ref D) (ql X N' scope s3 H3 fp).env).onRaise (λx=>do noteFrame x (ql X N' scope s3 H3 fp).env;theTreesLotGoes x)) _ _ s';refine wpAny_noted ?_;rw [compTurn_list];refine wpAny_bind (wpAny_standAt (wpAny_bind ?_));obtain ⟨i,σ5,H5,I5,st5,fr5,w5⟩:=hI;rcases turn i n σ5 H5 w5 with ⟨stop,q⟩|⟨go,step⟩
  ·refine thn (T.done (ql X N' scope s3 H3 fp) rfl rfl rfl rfl i [] s' σ5 H5 _ I5 (stat fr5) st5 stop) λr s6 ⟨hr,I6⟩=>?_;subst hr;refine wpAny_pure ?_;obtain ⟨mm,hn6,_⟩:=I6.loc;exact ⟨mm,hn6,λh' sb=>⟨.ref D,H5,UN I3 f3 I6 sb,rfl,q⟩⟩
  ·refine thn (T.item (ql X N' scope s3 H3 fp) rfl rfl rfl rfl i [] s' σ5 H5 _ I5 (stat fr5) st5 go) λr s6 ⟨u,hr,h6⟩=>?_;subst hr;refine wpAny_bind (thn h6 λ_ s7 ⟨x,H7,I7,r7,y7,st7,fr7⟩=>?_);have I7':=I7.pinned (stat fr7) (T.obj _ _ st7);have again:∀ {σ8:L2.St} {H8:Hp} {s8:Shared},Inv (ql X N' scope s3 H3 fp) ([]++U8 fp s7.heap) σ8 H8 s8->(∃ n',n'<n/\W (i+1) n' σ8 H8) ->
     ∃ m',m'<n/\∃ i σ' H',Inv (ql X N' scope s3 H3 fp) [] σ' H' s8/\tn i s8.heap/\(∀ b∈fp,H' b=none)/\W i m' σ' H':=λ{σ8 H8 s8} I8 ⟨n',hn,w8⟩=>by
    refine ⟨n',hn,i+1,σ8,H8,I8.unpinned,T.keep _ _ _ st7 λb hb o e=>(I8.pin (b,o) (mem_append_right _ (mem_append_right _ (zD hb e)))).1,λb hb=>?_,w8⟩;obtain ⟨o,e,d⟩:=T.obj _ _ st7 b hb;exact (I8.pin (b,o) (mem_append_right _ (mem_append_right _ (zD hb e)))).2.1
   refine wpAny_bind (wpAny_mono (hg s3 H3 fp _ s7 σ5 H7 x u _ I7' r7 (step x H7 y7)) (λ_ s8 ⟨σ8,H8,I8,q8⟩=>?_) λ_ _ z=>z.elim);refine wpAny_bind (wpAny_mono (hf s3 H3 fp _ s8 σ8 H8 _ I8 q8) (λk s9 ⟨H9,I9,q9⟩=>?_) λ_ _ z=>z.elim);cases k with
   |false=>
    rw [if_neg Bool.false_ne_true] at q9;exact wpAny_pure ⟨rfl,again I9 q9⟩
   |true=>
    rw [if_pos rfl] at q9;refine wpAny_bind (wpAny_bind (wpAny_mono (he s3 H3 fp _ s9 σ8 H9 _ I9 q9) (λw s10 ⟨y,H10,I10,r10,q10⟩=>?_) λ_ _ z=>z.elim));obtain ⟨zs,hz,hl,q10⟩:=q10;refine wpAny_bind (wpAny_mono (VR (X:=ql X N' scope s3 H3 fp) _ s10 σ8 H10 (.ref D) [y] (.ref D) [w] (λ_ H11=>H11=upd H10 D (.lst (zs++[y]))) I10 rfl (.cons r10 .nil) ⟨D,zs,y,rfl,rfl,hz,hl,rfl⟩) (λ_ s11 ⟨_,H11,I11,_,e11⟩=>?_) λ_ _ z=>z.elim);subst e11;exact wpAny_pure (wpAny_pure ⟨rfl,again I11 q10⟩)
 exact codeAny_compStart_list loop (T.self X.A 0 _ _ _ tn4 loop)
end
section
variable {K:Frg} {G G':Gp} {H H':Hp}
def qfb {D:Addr} {o:HO} {ws:List V} (hD:H D=some (.lst ws)) {a:Addr} {vs:List V} (h:SqT K H a vs):SqT K (upd H D o) a vs:=by
 rcases h with h|h
 ·refine .inl ?_;rcases h with h|⟨ob,h⟩
  ·have:a≠D:=by intro e;subst e;rw [hD] at h;cases h
   exact .inl (by rw [qu this];exact h)
  ·have:a≠D:=by intro e;subst e;rw [hD] at h;cases h
   exact .inr ⟨ob,by rw [qu this];exact h⟩
 ·exact .inr h
mutual
def Rp.wrD {D:Addr} {o:HO} {ws:List V} (hD:H D=some (.lst ws)):∀ {x:T} {v:V},Rp K H x v->Rp K (upd H D o) x v
 |_,_,.non=>.non
 |_,_,.bl b=>.bl b
 |_,_,.int i=>.int i
 |_,_,.str x=>.str x
 |_,_,.ref a=>.ref a
 |_,_,.tup h hs=>.tup (qfb hD h) (Rps.wrD hD hs)
def Rps.wrD {D:Addr} {o:HO} {ws:List V} (hD:H D=some (.lst ws)):∀ {x:List T} {v:List V},Rps K H x v->Rps K (upd H D o) x v
 |_,_,.nil=>.nil
 |_,_,.cons a b=>.cons (Rp.wrD hD a) (Rps.wrD hD b)
end
def HR.wrD {D:Addr} {o:HO} {ws:List V} (hr:HR K G H) (hD:H D=some (.lst ws)) (g:G D=none):HR K G (upd H D o):=λa ob e=>by
 have ha:a≠D:=by intro z;subst z;rw [g] at e;cases e
 have q:=hr a ob e;cases ob with
 |lst xs=>obtain ⟨vs,h1,h2⟩:=q;exact ⟨vs,by rw [qu ha];exact h1,h2.wrD hD⟩
 |frz xs=>obtain ⟨vs,⟨o1,h1⟩,h2⟩:=q;exact ⟨vs,⟨o1,by rw [qu ha];exact h1⟩,h2.wrD hD⟩
 |dct kvs=>obtain ⟨vs,h1,h2⟩:=q;exact ⟨vs,by rw [qu ha];exact h1,h2.wrD hD⟩
 |exn C=>have h1:H a=some (.ext (IsX a C)):=q;exact (show _=_ by rw [qu ha];exact h1)
def Rel.wrD {D:Addr} {o:HO} {ws:List V} {τ:St3} {σ:L2.St} (r:Rel K τ G σ H) (hD:H D=some (.lst ws)) (g:G D=none):Rel K τ G σ (upd H D o):=
 ⟨r.hp.wrD hD g,r.len,λi t e=>let ⟨v,h1,h2⟩:=r.st i t e;⟨v,h1,h2.wrD hD⟩⟩
def Kp.wrD {D:Addr} {o:HO} (k:Kp G H G' H') (hD:H D=none):Kp G H G' (upd H' D o):=λa ob h g=>by
 obtain ⟨h1,h2⟩:=k a ob h g;exact ⟨by rw [qu (qy h hD)];exact h1,h2⟩
def qca {α:Type} {m:List (Option Nat)} {σ:List (Option α)} {i j:Nat} (h:m[i]?=some (some j)):(cap m σ)[i]?=some ((σ[j]?).join):=by
 unfold cap;rw [getElem?_map,h];rfl
def Rel.cap {τ:St3} {σ:L2.St} (r:Rel K τ G σ H) (m:List (Option Nat)):Rel K (cap m τ) G (L3.cap m σ) H:=by
 refine ⟨r.hp,by simp [L3.cap],λi t e=>?_⟩;obtain ⟨j,e1,e2⟩:=NW e;obtain ⟨v,h1,h2⟩:=r.st j t e2;exact ⟨v,by rw [qca e1,h1];rfl,h2⟩
end
def XV (stay:Gp->Prop) (g:TG3) (tif:TT3) (te:TE3) (q:Q3):List T->List T->St3->Gp->Prop
 |[],ys,_,G=>stay G/\∀ p,G p=none->q (.ref p) (gu G p (.lst ys))
 |x::r,ys,τ,G=>stay G/\g x τ G λτ2 G2=>tif τ2 G2 λk G3=>if k=true then te τ2 G3 λy G4=>ys.length<sizeLine/\XV stay g tif te q r (ys++[y]) τ2 G4 else XV stay g tif te q r ys τ2 G3
def lc3 (wi:TI3) (g:TG3) (tif:TT3) (te:TE3) (m:List (Option Nat)):TE3:=λτ G q=>wi τ G λitems stay G1=>XV stay g tif te q items [] (cap m τ) G1
abbrev F3 (X:Cx) (ifs:List Expr) (t:TT3):Prop:=PF X ifs (lT X.K t)
def tt3:TT3:=λ_ G q=>q true G
def qnW {X:Cx}:F3 X [] tt3:=λpins s σ H Q I ⟨τ,G,q,rl,h,af⟩=>qhb pins s σ H Q I (af true G h H rl.hp Kp.refl)
def qof {X:Cx} {c:Expr} {t:TT3} (h:C3 X c t):F3 X [c] t:=qld h
section
variable {X:Cx}
def qpr {elt tg iter:Expr} {ifs:List Expr} {scope:Scope} {pos:Pos} (N':List Str) (m:List (Option Nat)) {wi:TI3} {g:TG3} {tif:TT3} {te:TE3} (hc:X.calm=true) (hi:I3 X tg iter wi)
  (hg:∀ s H fp,G3 (ql X N' scope s H fp) tg g) (hf:∀ s H fp,F3 (ql X N' scope s H fp) ifs tif) (he:∀ s H fp,E3 (ql X N' scope s H fp) elt te)
  (hsc:MV X.env.scope scope=true) (hcap:Y9 X.N N' scope m=true) (hs:∀ x,foldedSetIterable iter X.env x=pure x:=by intro _;rfl) :
  E3 X (.ListComp elt [⟨tg,iter,ifs,0⟩] scope pos) (lc3 wi g tif te m):=
 EZ (qnn (g:=lG X.K g) (tif:=lT X.K tif) (te:=lE X.K te) hc hi hg hf he hsc hcap hs) λσ H Q ⟨τ,G,q,rl,h,af⟩=>by
  refine ⟨τ,G,_,rl,h,λitems stay G1 h1 J H1 hr1 k1 ok D hD=>?_⟩;have gD:G1 D=none:=hr1.free hD;refine ⟨λi n σ' H'=>n=items.length-i/\i<=items.length/\∃ τ' G' ys vs,Rel X.K τ' G' σ' H'/\Kp G1 H1 G' H'/\H' D=some (.lst vs)/\Rps X.K H' ys vs/\G' D=none/\XV stay g tif te q (items.drop i) ys τ' G',
   ⟨_,rfl,Nat.zero_le _,cap m τ,G1,[],[],((rl.next hr1 k1).cap m).next (hr1.laid hD) (Kp.laid hD),Kp.laid hD,qT,.nil,gD,by simpa using h1⟩,?_⟩
  rintro i n σ' H' ⟨rfl,hi,τ',G',ys,vs,rl',k',hDl,rys,gD',h'⟩;by_cases hlt:i<items.length
  ·rw [List.drop_eq_getElem_cons hlt] at h';obtain ⟨hst,h'⟩:=h';obtain ⟨go,yld,_⟩:=ok G' H' rl'.hp k' hst;have hx:items[i]?=some items[i]:=getElem?_eq_getElem hlt;refine .inr ⟨go i _ hx,λv H2 y=>?_⟩;obtain ⟨rv,hr2,k2⟩:=yld i _ v H2 hx y;have nxt:∀ {τ4:St3} {G4:Gp} {σ4:L2.St} {H4:Hp} {ys4:List T} {vs4:List V},Rel X.K τ4 G4 σ4 H4->Kp G1 H1 G4 H4->H4 D=some (.lst vs4)->Rps X.K H4 ys4 vs4->G4 D=none->XV stay g tif te q (items.drop (i+1)) ys4 τ4 G4 ->
     ∃ n',n'<items.length-i/\(n'=items.length-(i+1)/\i+1<=items.length/\∃ τ' G' ys vs,Rel X.K τ' G' σ4 H4/\Kp G1 H1 G' H4/\H4 D=some (.lst vs)/\Rps X.K H4 ys vs/\G' D=none/\XV stay g tif te q (items.drop (i+1)) ys τ' G'):=
    λ{τ4 G4 σ4 H4 ys4 vs4} a b c d e f=>⟨_,by omega,rfl,hlt,τ4,G4,ys4,vs4,a,b,c,d,e,f⟩
   refine ⟨_,τ',G',_,rv,rl'.next hr2 k2,h',λτ3 G3 h3 σ3 H3 rl3 k3=>⟨τ3,G3,_,rl3,h3,λk G4 h4 H4 hr4 k4=>?_⟩⟩;have kk:=(k2.trans k3).trans k4;obtain ⟨hD4,gD4⟩:=kk D _ hDl gD';have rys4:=rys.keep rl'.hp kk;cases k with
   |false=>
    rw [if_neg Bool.false_ne_true] at h4;refine qmg ?_;exact nxt (rl3.next hr4 k4) (k'.trans kk) hD4 rys4 gD4 h4
   |true=>
    rw [if_pos rfl] at h4;refine qmr ?_;refine ⟨τ3,G4,_,rl3.next hr4 k4,h4,λz G5 h5 w H5 rw5 hr5 k5=>?_⟩;obtain ⟨hD5,gD5⟩:=k5 D _ hD4 gD4;have rys5:=rys4.keep hr4 k5;exact ⟨vs,hD5,by rw [← rys.length];exact h5.1,nxt (((rl3.next hr4 k4).next hr5 k5).wrD hD5 gD5) (((k'.trans kk).trans k5).wrD hD) qT ((rys5.append (.cons rw5 .nil)).wrD hD5) gD5 h5.2⟩
  ·have e:i=items.length:=by omega
   subst e;rw [List.drop_length] at h';obtain ⟨_,_,stop⟩:=ok G' H' rl'.hp k' h'.1;refine .inl ⟨stop,af _ _ (h'.2 D gD') _ H' (.ref D) (λa o e=>?_) λa o e ga=>?_⟩
   ·by_cases ha:a=D
    ·subst ha;rw [qp] at e;cases e;exact ⟨vs,hDl,rys⟩
    ·rw [zu ha] at e;exact rl'.hp a o e
   ·obtain ⟨e1,g1⟩:=k1 a o e ga;obtain ⟨e2,g2⟩:=k' a o e1 g1;exact ⟨e2,by rw [zu (qy e1 hD)];exact g2⟩
end
structure Src (P:Program) (w:World) (it c:Addr) (St:Nat->Heap->Prop) (Has:Array Value->Heap->Prop):Prop where
 obj:∀ {k h},St k h->∃ o,h.get? it=some o/\∀ v,o.data≠.cell v
 keep:∀ {k h h'},St k h->(∀ o,h.get? it=some o->h'.get? it=some o)->St k h'
 hkeep:∀ {xs h h'},Has xs h->(∀ o,h.get? c=some o->h'.get? c=some o)->Has xs h'
 item:∀ {A:Around} {s:Shared} {k:Nat} {xs:Array Value} {x:Value} {Q:Value->Shared->Prop} {E:Value->Shared->Prop},St k s.heap->Has xs s.heap->xs[k]?=some x ->
  (∀ h',St (k+1) h'->Heap.SameBut it s.heap h'->Q x { s with heap:=h' })->wpAny (model P w) A (Builtin.SmallTypes.nextOf (.ref it)) Q E s
 done:∀ {A:Around} {s:Shared} {k:Nat} {xs:Array Value} {Q:Value->Shared->Prop} {E:Value->Shared->Prop},A.handled=none->St k s.heap->Has xs s.heap->xs[k]?=none ->
  (∀ h' e,Heap.ExtBut it s.heap h'->(∃ o,h'.get? e=some o/\o.cls=.type "StopIteration")->E (.ref e) { s with heap:=h' })->wpAny (model P w) A (Builtin.SmallTypes.nextOf (.ref it)) Q E s
def qcp {P:Program} {w:World} (it l:Addr):Src P w it l (λk h=>h.IsListIter it l k) (λxs h=>h.IsList l xs) where
 obj:=λst=>let ⟨o,e,_,d⟩:=st;⟨o,e,λv z=>by rw [d] at z;cases z⟩
 keep:=λst k=>st.at λo e=>k o e
 hkeep:=λst k=>st.at λo e=>k o e
 item:=λst hl hx hQ=>wpAny_nextOf_list_item st hl hx hQ
 done:=λhh st hl hx hE=>wpAny_nextOf_list_end hh st hl hx hE
def MK {P:Program} {w:World} {A:Around} {s:Shared} {it t:Addr} {i:Nat} {its:Array Value} {x:Value} {Q:Value->Shared->Prop} {E:Value->Shared->Prop} (hit:s.heap.IsTupleIter it t i) (ht:s.heap.IsTuple t its) (hx:its[i]?=some x)
  (hQ:∀ h',h'.IsTupleIter it t (i+1)->Heap.SameBut it s.heap h'->Q x { s with heap:=h' }):wpAny (model P w) A (Builtin.SmallTypes.nextOf (.ref it)) Q E s:=by
 obtain ⟨o1,e1,c1,d1⟩:=id hit;obtain ⟨o2,e2,_,n2,d2⟩:=ht;unfold Builtin.SmallTypes.nextOf;refine wpAny_bind (wpAny_callSpecial?_slot (name:=Str.ofString "__next__") hit.typeIs F.slot_tuple_iterator_next (wpAny_call_entry F.slot_tuple_iterator_next hit.typeIs F.entry_tuple_iterator_next ?_ (F.args_tuple_iterator_next_1 _)));refine wpAny_bind (m:=field (.ref it) 0) (wpAny_field e1 d1 (x:=.ref t) rfl ?_);rw [if_neg (show ¬ ((Value.ref t==Value.none)=true) by exact Bool.false_ne_true)];refine wpAny_bind (m:=field (.ref it) 1) (wpAny_field e1 d1 (x:=.int i 0) rfl ?_);refine wpAny_bind (m:=seqItems? (.ref t)) (wpAny_seqItems e2 d2 ?_);simp only [Int.toNat_natCast,hx];refine wpAny_bind (wpAny_setField e1 d1 (by simp) (wpAny_pure ⟨x,rfl,wpAny_pure (hQ _ ⟨_,Heap.get?_update_self _ e1 (Obj.isFreed_of_fields (Obj.data_mapFields d1 _)),(Obj.cls_mapFields ..).trans c1,?_⟩ (Heap.SameBut.update ..))⟩));rw [Obj.data_mapFields d1];simp [rawInt]
def W2 {P:Program} {w:World} {A:Around} {s:Shared} {it t:Addr} {i:Nat} {its:Array Value} {Q:Value->Shared->Prop} {E:Value->Shared->Prop} (hh:A.handled=none) (hit:s.heap.IsTupleIter it t i) (ht:s.heap.IsTuple t its) (hx:its[i]?=none)
  (hE:∀ h' e,Heap.ExtBut it s.heap h'->(∃ o,h'.get? e=some o/\o.cls=.type "StopIteration")->E (.ref e) { s with heap:=h' }):wpAny (model P w) A (Builtin.SmallTypes.nextOf (.ref it)) Q E s:=by
 obtain ⟨o1,e1,c1,d1⟩:=id hit;obtain ⟨o2,e2,_,n2,d2⟩:=ht;unfold Builtin.SmallTypes.nextOf;refine wpAny_bind (wpAny_callSpecial?_slot (name:=Str.ofString "__next__") hit.typeIs F.slot_tuple_iterator_next (wpAny_call_entry F.slot_tuple_iterator_next hit.typeIs F.entry_tuple_iterator_next ?_ (F.args_tuple_iterator_next_1 _)));refine wpAny_bind (m:=field (.ref it) 0) (wpAny_field e1 d1 (x:=.ref t) rfl ?_);rw [if_neg (show ¬ ((Value.ref t==Value.none)=true) by exact Bool.false_ne_true)];refine wpAny_bind (m:=field (.ref it) 1) (wpAny_field e1 d1 (x:=.int i 0) rfl ?_);refine wpAny_bind (m:=seqItems? (.ref t)) (wpAny_seqItems e2 d2 ?_);simp only [Int.toNat_natCast,hx];refine wpAny_bind (wpAny_rule (wpAny_bind (wpAny_setField e1 d1 (by simp) ?_)));refine wpAny_bind (m:=newExc (.type "StopIteration") []) ?_;simp only [newExc,newTuple];refine wpAny_bind (wpAny_newObj_type ?_ (by size_fits));refine wpAny_bind (m:=firstArgMember _ _) (wpAny_of_eq (a:=Value.none) (by first|rfl|(simp only [firstArgMember]<;>rfl)) (wpAny_newObj_type ?_ (by size_fits)));simp only [raiseNew];refine wpAny_bind (wpAny_handled ?_)
 first|rw [show A.in1.handled=Option.none from hh]|rw [show A.handled=Option.none from hh]
 exact wpAny_bind (wpAny_pure (wpAny_throw (hE _ _ (((Heap.SameBut.update ..).extBut.push _).push _) ⟨_,Heap.get?_push_size _ rfl,rfl⟩)))
def qfi {P:Program} {w:World} (it t:Addr):Src P w it t (λk h=>h.IsTupleIter it t k) (λxs h=>h.IsTuple t xs) where
 obj:=λst=>let ⟨o,e,_,d⟩:=st;⟨o,e,λv z=>by rw [d] at z;cases z⟩
 keep:=λst k=>st.at λo e=>k o e
 hkeep:=λst k=>st.at λo e=>k o e
 item:=λst hl hx hQ=>MK st hl hx hQ
 done:=λhh st hl hx hE=>W2 hh st hl hx hE
structure ZA (z ti to i1 i2 c1 c2:Addr):Prop where
 ne:([z,ti,to,i1,i2]:List Addr).Nodup
 a1:c1∉[z,to,i1,i2]
 a2:c2∉[z,to,i1,i2]
section
variable {P:Program} {w:World} {A:Around} {s:Shared} {z ti to i1 i2 c1 c2:Addr} {S1 S2:Nat->Heap->Prop} {H1 H2:Array Value->Heap->Prop} {k1 k2:Nat} {xs ys:Array Value} {x y a b:Value} {E:Value->Shared->Prop}
def qbU {Q:Value->Shared->Prop} (R1:Src P w i1 c1 S1 H1) (R2:Src P w i2 c2 S2 H2) (D:ZA z ti to i1 i2 c1 c2) (hz:IsZip s.heap z ti to .none) (hi:IsPair s.heap ti (.ref i1) (.ref i2)) (ho:IsPair s.heap to a b)
  (p1:S1 k1 s.heap) (p2:S2 k2 s.heap) (l1:H1 xs s.heap) (l2:H2 ys s.heap) (hx:xs[k1]?=some x) (hy:ys[k2]?=some y)
  (hQ:∀ h',IsZip h' z ti to (rawInt s.heap.objs.size)->IsPair h' to x y->S1 (k1+1) h'->S2 (k2+1) h'->IsPair h' s.heap.objs.size x y->(∀ c o,c∉[z,to,i1,i2]->s.heap.get? c=some o->h'.get? c=some o)->Q (.ref s.heap.objs.size) { s with heap:=h' }) :
  wpAny (model P w) A (Builtin.«zip.__next__» ⟨[.ref z],[]⟩) (λfin s'=>∃ v,fin=.done (.ret v)/\Q v s') E s:=by
 have ne:=D.ne;simp only [List.nodup_cons,mem_cons,not_mem_nil,not_or,or_false] at ne;obtain ⟨⟨n1,n2,n3,n4⟩,⟨n5,n6,n7⟩,⟨n8,n9⟩,n10,_⟩:=ne;have a1:=D.a1;have a2:=D.a2;simp only [mem_cons,not_mem_nil,not_or,or_false] at a1 a2;obtain ⟨q1,q2,q3,q4⟩:=a1;obtain ⟨r1,r2,r3,r4⟩:=a2;refine wpAny_bind (m:=field (.ref z) 2) (wpAny_field hz rfl (x:=.bool false) rfl ?_);refine wpAny_bind (m:=field (.ref z) 3) (wpAny_field hz rfl (x:=.ref ti) rfl ?_);refine wpAny_bind (wpAny_seqItems hi rfl ?_);refine wpAny_bind (m:=Builtin.SmallTypes.ownedTupleIsFree (.ref z)) ?_;unfold Builtin.SmallTypes.ownedTupleIsFree;refine wpAny_bind (wpAny_field hz rfl (x:=Value.none) rfl (wpAny_pure ?_));simp only [if_true];refine wpAny_bind (wpAny_rule (wpAny_bind (wpAny_field hz rfl (x:=.ref to) rfl (wpAny_bind (wpAny_setField_rec hz (by simp) λg1 z1 s1=>?_)))))
 replace z1:IsZip g1 z ti to Value.ellipsis:=z1
 refine wpAny_bind ?_;simp only [List.zipIdx_cons,List.zipIdx_nil,List.forIn_cons,List.forIn_nil];refine wpAny_bind (wpAny_bind (wpAny_onRaise (wpAny_bind (m:=Builtin.SmallTypes.nextOf (.ref i1)) ?_)));refine R1.item (R1.keep p1 λo e=>s1.extBut _ _ (Ne.symm n3) e) (R1.hkeep l1 λo e=>s1.extBut _ _ q1 e) hx λg2 p12 s2=>wpAny_pure ?_;have t2:IsPair g2 to a b:=s2.extBut _ _ n8 (s1.extBut _ _ (Ne.symm n2) ho);refine wpAny_bind (wpAny_seqItems t2 rfl (wpAny_bind (wpAny_updateSeq_pair t2 λg3 t3 s3=>?_)))
 replace t3:IsPair g3 to x b:=t3
 refine wpAny_bind (wpAny_letGo (wpAny_pure (wpAny_bind (wpAny_bind (wpAny_onRaise (wpAny_bind (m:=Builtin.SmallTypes.nextOf (.ref i2)) ?_))))));refine R2.item (R2.keep p2 λo e=>s3.extBut _ _ (Ne.symm n9) (s2.extBut _ _ (Ne.symm n10) (s1.extBut _ _ (Ne.symm n4) e))) (R2.hkeep l2 λo e=>s3.extBut _ _ r2 (s2.extBut _ _ r3 (s1.extBut _ _ r1 e))) hy λg4 p24 s4=>wpAny_pure ?_;have t4:IsPair g4 to x b:=s4.extBut _ _ n9 t3;refine wpAny_bind (wpAny_seqItems t4 rfl (wpAny_bind (wpAny_updateSeq_pair t4 λg5 t5 s5=>?_)))
 replace t5:IsPair g5 to x y:=t5
 refine wpAny_bind (wpAny_letGo (wpAny_pure (wpAny_pure (wpAny_bind (wpAny_seqItems t5 rfl (wpAny_bind (wpAny_newTuple ?_)))))));have sz:g5.objs.size=s.heap.objs.size:=by rw [s5.1,s4.1,s3.1,s2.1,s1.1]
 have z5:IsZip g5 z ti to Value.ellipsis:=s5.extBut _ _ n2 (s4.extBut _ _ n4 (s3.extBut _ _ n2 (s2.extBut _ _ n3 z1)));have kk:∀ c o,c∉[z,to,i1,i2]->s.heap.get? c=some o->g5.get? c=some o:=λc o hc e=>by
  simp only [mem_cons,not_mem_nil,not_or,or_false] at hc;exact s5.extBut _ _ hc.2.1 (s4.extBut _ _ hc.2.2.2 (s3.extBut _ _ hc.2.1 (s2.extBut _ _ hc.2.2.1 (s1.extBut _ _ hc.1 e))))
 have p15:S1 (k1+1) g5:=R1.keep p12 λo e=>s5.extBut _ _ (Ne.symm n8) (s4.extBut _ _ n10 (s3.extBut _ _ (Ne.symm n8) e));have p25:S2 (k2+1) g5:=R2.keep p24 λo e=>s5.extBut _ _ (Ne.symm n9) e;have zlt:z<g5.objs.size:=Heap.lt_size z5;refine wpAny_bind (m:=Builtin.SmallTypes.ownedTupleHandOut (.ref z) (.ref g5.objs.size)) ?_;unfold Builtin.SmallTypes.ownedTupleHandOut;have z6:IsZip (g5.push { cls:=.type "tuple",data:=.seq #[x,y] }) z ti to Value.ellipsis:=Heap.get?_push_of_some _ z5;refine wpAny_bind (wpAny_setField_rec z6 (by simp) λg7 z7 s7=>?_)
 replace z7:IsZip g7 z ti to (rawInt g5.objs.size):=z7
 refine wpAny_setField_rec z7 (by simp) λg8 z8 s8=>?_
 replace z8:IsZip g8 z ti to (rawInt g5.objs.size):=z8
 have up:∀ c o,c≠z->g5.get? c=some o->g8.get? c=some o:=λc o hc e=>s8.extBut _ _ hc (s7.extBut _ _ hc (Heap.get?_push_of_some _ e));have t8:IsPair g8 g5.objs.size x y:=s8.extBut _ _ (Nat.ne_of_gt zlt) (s7.extBut _ _ (Nat.ne_of_gt zlt) (Heap.get?_push_size _ rfl));rw [sz] at z8 t8;refine wpAny_pure ⟨_,rfl,?_⟩;show Q (Value.ref g5.objs.size) _;rw [sz];exact hQ g8 z8 (up _ _ (Ne.symm n2) t5) (R1.keep p15 λo e=>up _ o (Ne.symm n3) e) (R2.keep p25 λo e=>up _ o (Ne.symm n4) e) t8 λc o hc e=>up c o (λq=>hc (by simp [q])) (kk c o hc e)
def qeK {Q:Fin->Shared->Prop} (hh:A.handled=none) (R1:Src P w i1 c1 S1 H1) (R2:Src P w i2 c2 S2 H2) (D:ZA z ti to i1 i2 c1 c2) (hz:IsZip s.heap z ti to .none) (hi:IsPair s.heap ti (.ref i1) (.ref i2)) (ho:IsPair s.heap to a b)
  (p1:S1 k1 s.heap) (p2:S2 k2 s.heap) (l1:H1 xs s.heap) (l2:H2 ys s.heap) (hend:xs[k1]?=none\/ys[k2]?=none)
  (hE:∀ h' e,(∀ c o,c∉[z,to,i1,i2]->s.heap.get? c=some o->h'.get? c=some o)->(∃ o,h'.get? e=some o/\o.cls=.type "StopIteration")->E (.ref e) { s with heap:=h' }) :
  wpAny (model P w) A (Builtin.«zip.__next__» ⟨[.ref z],[]⟩) Q E s:=by
 have ne:=D.ne;simp only [List.nodup_cons,mem_cons,not_mem_nil,not_or,or_false] at ne;obtain ⟨⟨n1,n2,n3,n4⟩,⟨n5,n6,n7⟩,⟨n8,n9⟩,n10,_⟩:=ne;have a1:=D.a1;have a2:=D.a2;simp only [mem_cons,not_mem_nil,not_or,or_false] at a1 a2;obtain ⟨q1,q2,q3,q4⟩:=a1;obtain ⟨r1,r2,r3,r4⟩:=a2;refine wpAny_bind (m:=field (.ref z) 2) (wpAny_field hz rfl (x:=.bool false) rfl ?_);refine wpAny_bind (m:=field (.ref z) 3) (wpAny_field hz rfl (x:=.ref ti) rfl ?_);refine wpAny_bind (wpAny_seqItems hi rfl ?_);refine wpAny_bind (m:=Builtin.SmallTypes.ownedTupleIsFree (.ref z)) ?_;unfold Builtin.SmallTypes.ownedTupleIsFree;refine wpAny_bind (wpAny_field hz rfl (x:=Value.none) rfl (wpAny_pure ?_));simp only [if_true];refine wpAny_bind (wpAny_rule (wpAny_bind (wpAny_field hz rfl (x:=.ref to) rfl (wpAny_bind (wpAny_setField_rec hz (by simp) λg1 z1 s1=>?_)))))
 replace z1:IsZip g1 z ti to Value.ellipsis:=z1
 refine wpAny_bind ?_;simp only [List.zipIdx_cons,List.zipIdx_nil,List.forIn_cons,List.forIn_nil];refine wpAny_bind (wpAny_bind (wpAny_onRaise (wpAny_bind (m:=Builtin.SmallTypes.nextOf (.ref i1)) ?_)));cases hx:xs[k1]? with
 |none=>
  refine R1.done hh (R1.keep p1 λo e=>s1.extBut _ _ (Ne.symm n3) e) (R1.hkeep l1 λo e=>s1.extBut _ _ q1 e) hx λg2 e s2 ⟨oe,he,ce⟩=>?_;have z2:IsZip g2 z ti to Value.ellipsis:=s2 _ _ n3 z1;have ez:e≠z:=λq=>by subst q;rw [z2] at he;cases he;simp at ce
  refine wpAny_setField_rec z2 (by simp) λg3 _ s3=>hE g3 e (λc o hc q=>?_) ⟨oe,s3.extBut _ _ ez he,ce⟩;simp only [mem_cons,not_mem_nil,not_or,or_false] at hc;exact s3.extBut _ _ hc.1 (s2 _ _ hc.2.2.1 (s1.extBut _ _ hc.1 q))
 |some x=>
  have hy:ys[k2]?=none:=by rcases hend with q|q;rw [hx] at q;cases q;exact q
  refine R1.item (R1.keep p1 λo e=>s1.extBut _ _ (Ne.symm n3) e) (R1.hkeep l1 λo e=>s1.extBut _ _ q1 e) hx λg2 p12 s2=>wpAny_pure ?_;have t2:IsPair g2 to a b:=s2.extBut _ _ n8 (s1.extBut _ _ (Ne.symm n2) ho);refine wpAny_bind (wpAny_seqItems t2 rfl (wpAny_bind (wpAny_updateSeq_pair t2 λg3 t3 s3=>?_)));refine wpAny_bind (wpAny_letGo (wpAny_pure (wpAny_bind (wpAny_bind (wpAny_onRaise (wpAny_bind (m:=Builtin.SmallTypes.nextOf (.ref i2)) ?_))))));refine R2.done hh (R2.keep p2 λo e=>s3.extBut _ _ (Ne.symm n9) (s2.extBut _ _ (Ne.symm n10) (s1.extBut _ _ (Ne.symm n4) e))) (R2.hkeep l2 λo e=>s3.extBut _ _ r2 (s2.extBut _ _ r3 (s1.extBut _ _ r1 e))) hy λg4 e s4 ⟨oe,he,ce⟩=>?_;have z4:IsZip g4 z ti to Value.ellipsis:=s4 _ _ n4 (s3.extBut _ _ n2 (s2.extBut _ _ n3 z1));have ez:e≠z:=λq=>by subst q;rw [z4] at he;cases he;simp at ce
  refine wpAny_setField_rec z4 (by simp) λg5 _ s5=>hE g5 e (λc o hc q=>?_) ⟨oe,s5.extBut _ _ ez he,ce⟩;simp only [mem_cons,not_mem_nil,not_or,or_false] at hc;exact s5.extBut _ _ hc.1 (s4 _ _ hc.2.2.2 (s3.extBut _ _ hc.2.1 (s2.extBut _ _ hc.2.2.1 (s1.extBut _ _ hc.1 q))))
end
abbrev qnp (b:Bool):String:=if b then "list_iterator" else "tuple_iterator"
abbrev zE (b:Bool) (c:Addr):Obj:={ cls:=.type (qnp b),data:=.fields #[.ref c,.int 0 0] }
def qbu (b:Bool) (it c:Addr) (k:Nat) (h:Heap):Prop:=match b with|true=>h.IsListIter it c k|false=>h.IsTupleIter it c k
def SN (b:Bool) (c:Addr) (xs:Array Value) (h:Heap):Prop:=match b with|true=>h.IsList c xs|false=>h.IsTuple c xs
def zJ {P:Program} {w:World} (b:Bool) (it c:Addr):Src P w it c (qbu b it c) (SN b c):=by
 cases b
 ·exact qfi it c
 ·exact qcp it c
def TF {P:Program} {w:World} {A:Around} {s:Shared} {b:Bool} {c:Addr} {xs:Array Value} {Q:Value->Shared->Prop} {E:Value->Shared->Prop} (h:SN b c xs s.heap) (q:Q (.ref s.heap.objs.size) { s with heap:=s.heap.push (zE b c) }) :
  wpAny (model P w) A (pyIter (.ref c)) Q E s:=by
 cases b
 ·exact wpAny_pyIter_tuple (show s.heap.IsTuple c xs from h) q
 ·exact wpAny_pyIter_list (show s.heap.IsList c xs from h) q
def qad {b:Bool} {c:Addr} {xs:Array Value} {h:Heap} {o:Obj} (q:SN b c xs h):SN b c xs (h.push o):=by
 cases b
 ·exact (show h.IsTuple c xs from q).at λ_ e=>Heap.get?_push_of_some _ e
 ·exact (show h.IsList c xs from q).at λ_ e=>Heap.get?_push_of_some _ e
abbrev zh1 (h:Heap) (o1:Obj):Heap:=h.push o1
abbrev zh2 (h:Heap) (o1 o2:Obj):Heap:=(zh1 h o1).push o2
abbrev zh3 (h:Heap) (o1 o2:Obj):Heap:=(zh2 h o1 o2).push { cls:=.type "tuple",data:=.seq #[.ref h.objs.size,.ref (zh1 h o1).objs.size] }
abbrev zh4 (h:Heap) (o1 o2:Obj):Heap:=(zh3 h o1 o2).push { cls:=.type "tuple",data:=.seq #[.none,.none] }
abbrev zh5 (h:Heap) (o1 o2:Obj):Heap:=(zh4 h o1 o2).push { cls:=.type "zip",data:=.fields #[.none,.bool false,.bool false,.ref (zh2 h o1 o2).objs.size,.ref (zh3 h o1 o2).objs.size] }
def N8 (c1 c2:Addr) (o1 o2:Obj) :
  Meets (Builtin.«zip.__new__» ⟨[.type "zip",.ref c1,.ref c2],[]⟩) (λ_ R s=>
   (∀ (P:Program) (w:World) (A:Around) (Q:Value->Shared->Prop) (E:Value->Shared->Prop),Q (.ref s.heap.objs.size) { s with heap:=zh1 s.heap o1 }->wpAny (model P w) A (pyIter (.ref c1)) Q E s) /\
   (∀ (P:Program) (w:World) (A:Around) (Q:Value->Shared->Prop) (E:Value->Shared->Prop),Q (.ref (zh1 s.heap o1).objs.size) { s with heap:=zh2 s.heap o1 o2 }->wpAny (model P w) A (pyIter (.ref c2)) Q E { s with heap:=zh1 s.heap o1 }) /\
   R (.ok (.ret (.ref (zh4 s.heap o1 o2).objs.size))) { s with heap:=zh5 s.heap o1 o2 }):=
 .of_wp λprog w A R s h=>by
  obtain ⟨hp,g,d,tk,os⟩:=s;obtain ⟨h1,h2,h⟩:=h;have hsub:=sub_zip;have k1:=λA Q E=>h1 prog w A Q E;have k2:=λA Q E=>h2 prog w A Q E
  wp_walk using k1 _ _ _,k2 _ _ _
  exact ⟨_,rfl,h⟩
def qco (b1 b2:Bool) (z ti to i1 i2 c1 c2:Addr) (k:Nat) (h:Heap):Prop:=
 IsZip h z ti to .none/\IsPair h ti (.ref i1) (.ref i2)/\(∃ a b,IsPair h to a b)/\qbu b1 i1 c1 k h/\qbu b2 i2 c2 k h
section
variable {P:Program} {w:World} {A:Around} {s:Shared} {E:Value->Shared->Prop}
def qb6 {b1 b2:Bool} {c1 c2:Addr} {xs ys:Array Value} {Q:Value->Shared->Prop} (h1:SN b1 c1 xs s.heap) (h2:SN b2 c2 ys s.heap)
  (q:∀ h',qco b1 b2 (s.heap.objs.size+4) (s.heap.objs.size+2) (s.heap.objs.size+3) s.heap.objs.size (s.heap.objs.size+1) c1 c2 0 h'->(∀ c o,s.heap.get? c=some o->h'.get? c=some o)->Q (.ref (s.heap.objs.size+4)) { s with heap:=h' }) :
  wpAny (model P w) A (call (.type "zip") [.ref c1,.ref c2]) Q E s:=by
 refine callType_new F.called_zip (by decide) (F.typeCall_zip_2 _ _) (F.newCall_zip_2 _ _) (λobj=>F.args_object_init_3 obj _ _) F.entry_zip_new
  (N8 c1 c2 (zE b1 c1) (zE b2 c2)) ⟨λP w A Q E q=>TF h1 q,λP w A Q E q=>TF (s:={ s with heap:=zh1 s.heap (zE b1 c1) }) (qad h2) q,?_⟩
 have e1:(zh1 s.heap (zE b1 c1)).objs.size=s.heap.objs.size+1:=Heap.size_push ..;have e2:(zh2 s.heap (zE b1 c1) (zE b2 c2)).objs.size=s.heap.objs.size+2:=by rw [Heap.size_push,e1]
 have e3:(zh3 s.heap (zE b1 c1) (zE b2 c2)).objs.size=s.heap.objs.size+3:=by rw [Heap.size_push,e2]
 have e4:(zh4 s.heap (zE b1 c1) (zE b2 c2)).objs.size=s.heap.objs.size+4:=by rw [Heap.size_push,e3]
 have g5:(zh5 s.heap (zE b1 c1) (zE b2 c2)).get? (zh4 s.heap (zE b1 c1) (zE b2 c2)).objs.size=some _:=Heap.get?_push_size _ rfl;have g4:(zh5 s.heap (zE b1 c1) (zE b2 c2)).get? (zh3 s.heap (zE b1 c1) (zE b2 c2)).objs.size=some _:=Heap.get?_push_of_some _ (Heap.get?_push_size _ rfl);have g3:(zh5 s.heap (zE b1 c1) (zE b2 c2)).get? (zh2 s.heap (zE b1 c1) (zE b2 c2)).objs.size=some _:=Heap.get?_push_of_some _ (Heap.get?_push_of_some _ (Heap.get?_push_size _ rfl));have g2:(zh5 s.heap (zE b1 c1) (zE b2 c2)).get? (zh1 s.heap (zE b1 c1)).objs.size=some (zE b2 c2):=Heap.get?_push_of_some _ (Heap.get?_push_of_some _ (Heap.get?_push_of_some _ (Heap.get?_push_size _ rfl)));have g1:(zh5 s.heap (zE b1 c1) (zE b2 c2)).get? s.heap.objs.size=some (zE b1 c1):=Heap.get?_push_of_some _ (Heap.get?_push_of_some _ (Heap.get?_push_of_some _ (Heap.get?_push_of_some _ (Heap.get?_push_size _ rfl))));show _/\_;rw [e2,e3,e4] at g5;rw [e1,e2] at g3;rw [e3] at g4;rw [e1] at g2;rw [e4];refine ⟨⟨_,g5,rfl⟩,q _ ⟨g5,g3,⟨_,_,g4⟩,?_,?_⟩ λc o e=>Heap.get?_push_of_some _ (Heap.get?_push_of_some _ (Heap.get?_push_of_some _ (Heap.get?_push_of_some _ (Heap.get?_push_of_some _ e))))⟩
 ·cases b1<;>exact ⟨_,g1,rfl,rfl⟩
 ·cases b2<;>exact ⟨_,g2,rfl,rfl⟩
def qbK {b1 b2:Bool} {z ti to i1 i2 c1 c2:Addr} {k:Nat} {xs ys:Array Value} {x y:Value} {Q:Option Value->Shared->Prop} (D:ZA z ti to i1 i2 c1 c2) (st:qco b1 b2 z ti to i1 i2 c1 c2 k s.heap) (l1:SN b1 c1 xs s.heap) (l2:SN b2 c2 ys s.heap) (hx:xs[k]?=some x) (hy:ys[k]?=some y)
  (hQ:∀ h',IsZip h' z ti to (rawInt s.heap.objs.size)->IsPair h' ti (.ref i1) (.ref i2)->(∃ a b,IsPair h' to a b)->qbu b1 i1 c1 (k+1) h'->qbu b2 i2 c2 (k+1) h'->IsPair h' s.heap.objs.size x y->(∀ c o,c∉[z,to,i1,i2]->s.heap.get? c=some o->h'.get? c=some o)->Q (some (.ref s.heap.objs.size)) { s with heap:=h' }) :
  wpAny (model P w) A (pyNext (.ref z)) Q E s:=by
 obtain ⟨hz,hi,⟨a,b,ho⟩,p1,p2⟩:=st;have ty:s.TypeIs (.ref z) "zip" := ⟨_,hz,rfl⟩
 have nti:ti∉[z,to,i1,i2]:=by
  have ne:=D.ne;simp only [List.nodup_cons,mem_cons,not_mem_nil,not_or,or_false] at ne ⊢;exact ⟨Ne.symm ne.1.1,ne.2.1.1,ne.2.1.2.1,ne.2.1.2.2⟩
 unfold pyNext;exact wpAny_bind (wpAny_attempt (wpAny_callSpecial?_slot (name:=Str.ofString "__next__") ty F.slot_zip_next (wpAny_call_entry F.slot_zip_next ty F.entry_zip_next
  (qbU (zJ b1 i1 c1) (zJ b2 i2 c2) D hz hi ho p1 p2 l1 l2 hx hy λh' u1 u2 u3 u4 u5 u6=>wpAny_pure (hQ h' u1 (u6 _ _ nti hi) ⟨_,_,u2⟩ u3 u4 u5 u6)) (F.args_zip_next_1 _))))
def RI {b1 b2:Bool} {z ti to i1 i2 c1 c2:Addr} {k:Nat} {xs ys:Array Value} {Q:Option Value->Shared->Prop} (hh:A.handled=none) (D:ZA z ti to i1 i2 c1 c2) (st:qco b1 b2 z ti to i1 i2 c1 c2 k s.heap) (l1:SN b1 c1 xs s.heap) (l2:SN b2 c2 ys s.heap) (hend:xs[k]?=none\/ys[k]?=none)
  (hQ:∀ h',(∀ c o,c∉[z,to,i1,i2]->s.heap.get? c=some o->h'.get? c=some o)->Q none { s with heap:=h' }):wpAny (model P w) A (pyNext (.ref z)) Q E s:=by
 obtain ⟨hz,hi,⟨a,b,ho⟩,p1,p2⟩:=st;have ty:s.TypeIs (.ref z) "zip" := ⟨_,hz,rfl⟩
 unfold pyNext;refine wpAny_bind (wpAny_attempt (wpAny_callSpecial?_slot (name:=Str.ofString "__next__") ty F.slot_zip_next (wpAny_call_entry F.slot_zip_next ty F.entry_zip_next
  (qeK hh (zJ b1 i1 c1) (zJ b2 i2 c2) D hz hi ho p1 p2 l1 l2 hend λh' e hk ⟨o,q1,q2⟩=>?_) (F.args_zip_next_1 _))))
 exact wpAny_bind (wpAny_isInstance (T:="StopIteration") (b:=true) ⟨o,q1,q2⟩ isSubtype_stop (wpAny_pure (hQ _ hk)))
end
def SqB (K:Frg) (b:Bool) (H:Hp) (a:Addr) (xs:List V):Prop:=match b with|true=>SqL K H a xs|false=>SqT K H a xs
def SqB.get {X:Cx} {pins:List (Addr×Obj)} {σ:L2.St} {H:Hp} {s:Shared} {b:Bool} {a:Addr} {xs:List V} (I:Inv X pins σ H s) (h:SqB X.K b H a xs):∃ its:List Value,zS xs its/\SN b a its.toArray s.heap/\xs.length<=sizeLine:=by
 cases b
 ·obtain ⟨its,r,p,hz⟩:=I.tuple (show SqT X.K H a xs from h);exact ⟨its,r,(show s.heap.IsTuple a its.toArray from p),hz⟩
 ·obtain ⟨its,r,p,hz⟩:=I.list (show SqL X.K H a xs from h);exact ⟨its,r,p.isList,hz⟩
def SqB.inj {X:Cx} {pins:List (Addr×Obj)} {σ:L2.St} {H:Hp} {s:Shared} {b:Bool} {a:Addr} {xs ys:List V} (I:Inv X pins σ H s) (h:SqB X.K b H a xs) (h':SqB X.K b H a ys):xs=ys:=by
 cases b
 ·exact I.tuple_inj h h'
 ·exact I.list_inj h h'
def Itz (K:Frg) (b1 b2:Bool) (c1 c2:Addr):It:=
  ⟨λi H=>∃ xs ys x y,SqB K b1 H c1 xs/\SqB K b2 H c2 ys/\xs[i]?=some x/\ys[i]?=some y,
   λi H v H'=>∃ p x y,H p=none/\v=.ref p/\H'=upd H p (.tup [x,y])/\(∀ xs,SqB K b1 H c1 xs->xs[i]?=some x)/\(∀ ys,SqB K b2 H c2 ys->ys[i]?=some y),
   λi H=>∃ xs ys,SqB K b1 H c1 xs/\SqB K b2 H c2 ys/\(xs.length<=i\/ys.length<=i)⟩
def qfx {b:Bool} {c:Addr} {xs:Array Value} {h:Heap} (q:SN b c xs h):c<h.objs.size:=by
 cases b
 ·obtain ⟨o,e,_⟩:=(show h.IsTuple c xs from q);exact Heap.lt_size e
 ·obtain ⟨o,e,_⟩:=(show h.IsList c xs from q);exact Heap.lt_size e
def qbQ {P:Program} {w:World} {K:Frg} {es:List Expr} {k1:Nat} {pt:Pos} {b1 b2:Bool} {z ti to i1 i2 c1 c2:Addr} (D:ZA z ti to i1 i2 c1 c2):Turn P w K (.Tuple es k1 pt) (Itz K b1 b2 c1 c2) [z,ti,to,i1,i2] z (qco b1 b2 z ti to i1 i2 c1 c2) where
 mem:=by simp
 obj:=λi h ⟨hz,hi,⟨a,b,ho⟩,p1,p2⟩ c hc=>by
  simp only [mem_cons,not_mem_nil,or_false] at hc;rcases hc with rfl|rfl|rfl|rfl|rfl
  ·exact ⟨_,hz,λv q=>by cases q⟩
  ·exact ⟨_,hi,λv q=>by cases q⟩
  ·exact ⟨_,ho,λv q=>by cases q⟩
  ·exact (zJ (P:=P) (w:=w) b1 c c1).obj p1
  ·exact (zJ (P:=P) (w:=w) b2 c c2).obj p2
 keep:=λi h h' ⟨hz,hi,⟨a,b,ho⟩,p1,p2⟩ k=>
  ⟨k z (by simp) _ hz,k ti (by simp) _ hi,⟨a,b,k to (by simp) _ ho⟩,(zJ (P:=P) (w:=w) b1 i1 c1).keep p1 λo e=>k i1 (by simp) o e,(zJ (P:=P) (w:=w) b2 i2 c2).keep p2 λo e=>k i2 (by simp) o e⟩
 item:=by
  intro X hP hw hK hc i pins s σ H E I hf st hg;subst hP hw hK;obtain ⟨xs,ys,x,y,sq1,sq2,hx,hy⟩:=hg;obtain ⟨its1,rv1,l1,z1⟩:=sq1.get I;obtain ⟨its2,rv2,l2,z2⟩:=sq2.get I;obtain ⟨u1,hu1,ru1⟩:=rv1.get hx;obtain ⟨u2,hu2,ru2⟩:=rv2.get hy;refine qbK D st l1 l2 (x:=u1) (y:=u2) (by simpa using hu1) (by simpa using hu2) λh' hz hi ho p1 p2 hp hk=>?_;have hfr:H s.heap.objs.size=none:=I.fresh;have free:∀ b∈[z,ti,to,i1,i2],H b=none:=λb hb=>(hf b hb).1;refine ⟨_,rfl,wpAny_letOwnedTupleGo_zip hz λh2 hz2 s2=>?_⟩;have zlt:z<s.heap.objs.size:=Heap.lt_size st.1;have hp2:IsPair h2 s.heap.objs.size u1 u2:=(s2.2 _ (Nat.ne_of_gt zlt)).trans hp;have ne:=D.ne;simp only [List.nodup_cons,mem_cons,not_mem_nil,not_or,or_false] at ne;have up:∀ c o,c≠z->h'.get? c=some o->h2.get? c=some o:=λc o hc e=>(s2.2 c hc).trans e;have kk:∀ c o,c∉[z,to,i1,i2]->s.heap.get? c=some o->h2.get? c=some o:=λc o hc e=>up c o (λq=>hc (by simp [q])) (hk c o hc e);have I3:Inv X pins σ (upd H s.heap.objs.size (.tup [x,y])) { s with heap:=h2 }:=by
   refine I.step (g':=s.gens) (d':=s.drawn) (t':=s.toks) (ch:=[z,to,i1,i2]) (λb hb=>?_) (λb o _ _ hcb e _=>kk b o hcb e) (λb o _ _ hcb e _=>⟨o.slots,kk b o hcb e⟩) (λb o _ e n=>by rw [qu (Nat.ne_of_lt (Heap.lt_size e))];exact n) (λb o hcb e=>⟨o,kk b o hcb e⟩)
    (λb _ e=>by rw [qu (qy e hfr)];exact e) (λb _ _ e=>by rw [qu (qy e hfr)];exact e) (λb ps e=>⟨#[],by rw [qu (qy e hfr),e];simp⟩) (λm hm=>?_) (λb u e=>?_) I.bare
   ·obtain ⟨f0,f1,f2,f3,f4,f5⟩:=hf b (by simp only [mem_cons,not_mem_nil,or_false] at hb ⊢;rcases hb with q|q|q|q<;>simp [q]);exact ⟨f3,f1,f4,f5⟩
   ·obtain ⟨o,es',ep,ho',r⟩:=hm;refine ⟨o,es',ep,kk _ o (λq=>?_) ho',r⟩;obtain ⟨f0,f1,_⟩:=hf X.env.locals (by simp only [mem_cons,not_mem_nil,or_false] at q ⊢;rcases q with q|q|q|q<;>simp [q]);exact f1 rfl
   ·by_cases hb:b=s.heap.objs.size
    ·subst hb;rw [qT] at e;cases e;exact ⟨by show 2<=sizeLine;decide,[u1,u2],.cons ru1 (.cons ru2 .nil),⟨_,hp2,rfl,_,rfl⟩⟩
    ·rw [qu hb] at e;refine (I.hok b u e).stay (λc v hcb q=>kk c v (λm=>?_) q) (λ_ q=>by rw [qu (qy q hfr)];exact q) λ_ _ q=>by rw [qu (qy q hfr)];exact q
     have hn:=free c (by simp only [mem_cons,not_mem_nil,or_false] at m ⊢;rcases m with q|q|q|q<;>simp [q]);rcases hcb with q|q
     ·rw [q] at hn;rw [hn] at e;cases e
     ·rw [hn] at q;cases q
  refine ⟨.ref s.heap.objs.size,_,I3,rfl,⟨_,x,y,hfr,rfl,rfl,λzs q=>by rw [q.inj I sq1];exact hx,λzs q=>by rw [q.inj I sq2];exact hy⟩,⟨hz2,up _ _ (Ne.symm ne.1.1) hi,let ⟨a,b,q⟩:=ho;⟨a,b,up _ _ (Ne.symm ne.1.2.1) q⟩,(zJ (P:=X.prog) (w:=X.w) b1 i1 c1).keep p1 λo e=>up _ o (Ne.symm ne.1.2.2.1) e,(zJ (P:=X.prog) (w:=X.w) b2 i2 c2).keep p2 λo e=>up _ o (Ne.symm ne.1.2.2.2) e⟩,λb hb=>?_⟩;rw [qu (λq=>?_)]
  ·exact free b hb
  ·subst q;obtain ⟨hz0,hi0,⟨a0,b0,ho0⟩,q1,q2⟩:=st;simp only [mem_cons,not_mem_nil,or_false] at hb;rcases hb with q|q|q|q|q
   ·exact absurd q (Nat.ne_of_gt zlt)
   ·exact absurd q (Nat.ne_of_gt (Heap.lt_size hi0))
   ·exact absurd q (Nat.ne_of_gt (Heap.lt_size ho0))
   ·obtain ⟨o,e,_⟩:=(zJ (P:=X.prog) (w:=X.w) b1 i1 c1).obj q1;exact absurd q (Nat.ne_of_gt (Heap.lt_size e))
   ·obtain ⟨o,e,_⟩:=(zJ (P:=X.prog) (w:=X.w) b2 i2 c2).obj q2;exact absurd q (Nat.ne_of_gt (Heap.lt_size e))
 done:=by
  intro X hP hw hK hc i pins s σ H E I hf st hg;subst hP hw hK;obtain ⟨xs,ys,sq1,sq2,hend⟩:=hg;obtain ⟨its1,rv1,l1,z1⟩:=sq1.get I;obtain ⟨its2,rv2,l2,z2⟩:=sq2.get I;have e1:=rv1.length;have e2:=rv2.length;refine RI (I.ok.hd hc) D st l1 l2 (by rcases hend with q|q;exact .inl (by simp;omega);exact .inr (by simp;omega)) λh' hk=>⟨rfl,?_⟩
  have free:∀ b∈[z,ti,to,i1,i2],H b=none:=λb hb=>(hf b hb).1;refine I.step (g':=s.gens) (d':=s.drawn) (t':=s.toks) (ch:=[z,to,i1,i2]) (λb hb=>?_) (λb o _ _ hcb e _=>hk b o hcb e) (λb o _ _ hcb e _=>⟨o.slots,hk b o hcb e⟩) (λ_ _ _ _ n=>n) (λb o hcb e=>⟨o,hk b o hcb e⟩) (λ_ _ e=>e) (λ_ _ _ e=>e) (λb ps e=>⟨#[],by rw [e];simp⟩) (λm hm=>?_) (λb u e=>?_) I.bare
  ·obtain ⟨f0,f1,f2,f3,f4,f5⟩:=hf b (by simp only [mem_cons,not_mem_nil,or_false] at hb ⊢;rcases hb with q|q|q|q<;>simp [q]);exact ⟨f3,f1,f4,f5⟩
  ·obtain ⟨o,es',ep,ho',r⟩:=hm;refine ⟨o,es',ep,hk _ o (λq=>?_) ho',r⟩;obtain ⟨f0,f1,_⟩:=hf X.env.locals (by simp only [mem_cons,not_mem_nil,or_false] at q ⊢;rcases q with q|q|q|q<;>simp [q]);exact f1 rfl
  ·refine (I.hok b u e).stay (λc v hcb q=>hk c v (λm=>?_) q) (λ_ q=>q) λ_ _ q=>q;have hn:=free c (by simp only [mem_cons,not_mem_nil,or_false] at m ⊢;rcases m with q|q|q|q<;>simp [q]);rcases hcb with q|q
   ·rw [q] at hn;rw [hn] at e;cases e
   ·rw [hn] at q;cases q
 self:=λA i s Q E st h=>wpAny_pyIter_zip st.1 h
def qk8 {n c1 c2:Addr} (h1:c1<n) (h2:c2<n):ZA (n+4) (n+2) (n+3) n (n+1) c1 c2:=by
 have k:∀ n c:Nat,c<n->c≠n+4/\c≠n+3/\c≠n/\c≠n+1:=λn c h=>by omega
 have d:∀ n:Nat,(([n+4,n+2,n+3,n,n+1]:List Nat)).Nodup:=λn=>by
  simp only [List.nodup_cons,mem_cons,not_mem_nil,not_or,or_false,List.nodup_nil,and_true,not_false_eq_true];omega
 refine ⟨d n,?_,?_⟩
 ·simp only [mem_cons,not_mem_nil,not_or,or_false];exact k n c1 h1
 ·simp only [mem_cons,not_mem_nil,not_or,or_false];exact k n c2 h2
section
variable {X:Cx} {a b e l:Expr} {es:List Expr} {pos:Pos}
def qhE {p pt:Pos} {k1:Nat} {ta:TA} (hg:Gl X "zip") (hm:X.mg "zip" = none) (ha:PA X [a,b] ta) (hs:starEach [a,b] X.env=[(false,eval a X.env),(false,eval b X.env)]:=by rfl) (hs2:starEach [b] X.env=[(false,eval b X.env)]:=by rfl) :
  PI X (.Tuple es k1 pt) (.Call (.Name "zip" p) [a,b] [] pos) (λσ H R=>ta σ H λvs H1=>∃ b1 b2 c1 c2 xs ys,vs=[.ref c1,.ref c2]/\SqB X.K b1 H1 c1 xs/\SqB X.K b2 H1 c2 ys/\R (Itz X.K b1 b2 c1 c2) H1):=by
 intro pins s σ H R I h;refine Call_ (XO I hg hm PyProof.Rows.boot_zip (PyProof.Rows.callWith_type1 (thn (ha pos pins s σ H _ I h) λus s1 ⟨vs,H1,I1,r1,q1⟩=>?_) (by rw [hs,hs2]) (by rw [hs2];rfl)));obtain ⟨b1,b2,c1,c2,xs,ys,rfl,sq1,sq2,q⟩:=q1;obtain ⟨u1,u2,rfl,e1,e2⟩:=qbs r1;cases (show u1=Value.ref c1 from e1);cases (show u2=Value.ref c2 from e2);obtain ⟨its1,rv1,l1,z1⟩:=sq1.get I1;obtain ⟨its2,rv2,l2,z2⟩:=sq2.get I1;refine qb6 l1 l2 λh' st hk=>wpAny_pyIter_zip st.1 ?_;refine ⟨s1.heap.objs.size+4,[s1.heap.objs.size+4,s1.heap.objs.size+2,s1.heap.objs.size+3,s1.heap.objs.size,s1.heap.objs.size+1],_,_,H1,rfl,I1.kept (t':=s1.toks) hk,qbQ (qk8 (qfx l1) (qfx l2)),st,λc hc=>?_,q⟩;have hle:s1.heap.objs.size<=c:=by
  simp only [mem_cons,not_mem_nil,or_false] at hc;rcases hc with rfl|rfl|rfl|rfl|rfl<;>first|exact Nat.le_refl _|exact Nat.le_add_right _ _
 exact I1.fpOk hle (I1.hok.fresh hle)
end
def J6 (G:Gp):T->Option (List T)
 |.tup xs=>some xs
 |.ref p=>zl G p
 |_=>none
def NJ {K:Frg} {G0:Gp} {H0:Hp} {x:T} {v:V} {us:List T} (hr0:HR K G0 H0) (rx:Rp K H0 x v) (h:J6 G0 x=some us) :
  ∃ b c,v=.ref c/\∀ G H,HR K G H->Kp G0 H0 G H->J6 G x=some us->∃ vs,SqB K b H c vs/\Rps K H us vs:=by
 cases rx with
 |tup hs rs=>
  cases h;exact ⟨false,_,rfl,λG H hr k _=>⟨_,(CY hr0 k hs:SqT K H _ _),rs.keep hr0 k⟩⟩
 |ref a=>exact ⟨true,a,rfl,λG H hr k hq=>let ⟨vs,h1,h2⟩:=jv hr (show zl G a=some us from hq);⟨vs,h1,h2⟩⟩
 |_=>cases h
def qbe (us vs:List T):List T:=(us.zip vs).map λp=>.tup [p.1,p.2]
def KK {us vs:List T} {i:Nat} {x:T} (h:(qbe us vs)[i]?=some x):∃ a b,us[i]?=some a/\vs[i]?=some b/\x=.tup [a,b]:=by
 unfold qbe at h;rw [getElem?_map] at h;cases e:(us.zip vs)[i]? with
 |none=>rw [e] at h;cases h
 |some p=>
  rw [e] at h;have:=List.getElem?_zip_eq_some.mp e;exact ⟨p.1,p.2,this.1,this.2,by simpa using h.symm⟩
def qho {K:Frg} {b1 b2:Bool} {c1 c2:Addr} {x y:T} {us vs:List T} {G0:Gp} {H0:Hp}
  (f1:∀ G H,HR K G H->Kp G0 H0 G H->J6 G x=some us->∃ vs,SqB K b1 H c1 vs/\Rps K H us vs) (f2:∀ G H,HR K G H->Kp G0 H0 G H->J6 G y=some vs->∃ ws,SqB K b2 H c2 ws/\Rps K H vs ws) :
  qgz K (Itz K b1 b2 c1 c2) (qbe us vs) (λG=>J6 G x=some us/\J6 G y=some vs) G0 H0:=by
 intro G H hr k ⟨h1,h2⟩;obtain ⟨p,sp,rp⟩:=f1 G H hr k h1;obtain ⟨q,sq,rq⟩:=f2 G H hr k h2;refine ⟨λi z hz=>?_,λi z v H' hz hy=>?_,⟨p,q,sp,sq,?_⟩⟩
 ·obtain ⟨a,b,ha,hb,_⟩:=KK hz;obtain ⟨v,hv,_⟩:=rp.get ha;obtain ⟨w,hw,_⟩:=rq.get hb;exact ⟨p,q,v,w,sp,sq,hv,hw⟩
 ·obtain ⟨a,b,ha,hb,rfl⟩:=KK hz;obtain ⟨t,v1,v2,ht,rfl,rfl,g1,g2⟩:=hy;obtain ⟨v,hv,rv⟩:=rp.get ha;obtain ⟨w,hw,rw'⟩:=rq.get hb;have e1:=(g1 p sp).symm.trans hv;have e2:=(g2 q sq).symm.trans hw;obtain rfl:v1=v:=Option.some.inj e1;obtain rfl:v2=w:=Option.some.inj e2;have kk:Kp G H G (upd H t (.tup [v1,v2])):=Kp.laid ht;exact ⟨.tup (SqT.of qT) (.cons (rv.keep hr kk) (.cons (rw'.keep hr kk) .nil)),hr.laid ht,kk⟩
 ·rw [← rp.length,← rq.length,show (qbe us vs).length=min us.length vs.length by simp [qbe]];omega
def qbo (ta:TA3):TI3:=λτ G r=>ta τ G λxs G1=>match xs with
 |[x,y]=>(match J6 G1 x,J6 G1 y with|some us,some vs=>r (qbe us vs) (λG=>J6 G x=some us/\J6 G y=some vs) G1|_,_=>False)
 |_=>False
section
variable {X:Cx} {a b e l:Expr} {es:List Expr} {pos:Pos} {t:TA3}
def qnJ {p pt:Pos} {k1:Nat} (hg:Gl X "zip") (hm:X.mg "zip" = none) (ha:A3 X [a,b] t) (hs:starEach [a,b] X.env=[(false,eval a X.env),(false,eval b X.env)]:=by rfl) (hs2:starEach [b] X.env=[(false,eval b X.env)]:=by rfl) :
  I3 X (.Tuple es k1 pt) (.Call (.Name "zip" p) [a,b] [] pos) (qbo t):=
 ql4 (qhE hg hm ha hs hs2) λσ H R ⟨τ,G,r,rl,h,af⟩=>Q6 rl h λxs G1 h1 vs H1 rs hr1 k1 rl1=>by
  split at h1
  ·rename_i x y;split at h1
   ·rename_i us ws e1 e2;obtain ⟨v,u,rfl,r1,r2⟩:=qmE rs;obtain ⟨b1,c1,rfl,f1⟩:=NJ hr1 r1 e1;obtain ⟨b2,c2,rfl,f2⟩:=NJ hr1 r2 e2;obtain ⟨p,sp,_⟩:=f1 G1 H1 hr1 Kp.refl e1;obtain ⟨q,sq,_⟩:=f2 G1 H1 hr1 Kp.refl e2;exact ⟨b1,b2,c1,c2,p,q,rfl,sp,sq,af _ _ G1 h1 _ H1 hr1 k1 (qho f1 f2)⟩
   ·exact h1.elim
  ·exact h1.elim
def WU:List T->Gp->Q3->Prop:=λxs G q=>match xs with
 |[.ref p]=>(match zl G p with|some ys=>(match qo1 ys with|some k=>q (.bl k) G|none=>False)|none=>False)
 |_=>False
end
def qmZ:Value->Bool
 |.type t=>t == "list"
 |_=>false
def UB:List (Addr×Obj)->Bool
 |[]=>true
 |p::r=>if qmZ p.2.cls then false else UB r
def XT:∀ {K:List (Addr×Obj)} {a:Addr} {o:Obj},UB K=true->K.lookup a=some o->o.cls≠.type "list"
 |[],_,_,_,e=>by simp at e
 | (b,x)::r,a,o,h,e=>by
  unfold UB at h;split at h
  ·cases h
  ·rename_i hx;rw [List.lookup_cons] at e;split at e
   ·cases e;intro z;rw [z] at hx;exact hx rfl
   ·exact XT h e
def MA {K:Frg} {H:Hp} {a:Addr} {ns:List Int} (hK:UB K=true) (hO:qmh H) (hS:SqL K H a (ns.map V.int)):∃ o,H a=some (.frz o (.lst (ns.map V.int))):=by
 rcases hS with (h|h)|⟨o,its,n,h1,h2,_⟩
 ·rcases hO a with z|⟨o,xs,z⟩<;>(rw [h] at z;cases z)
 ·exact h
 ·exact absurd h2 (XT hK h1)
def only (a:Addr) (ns:List Int):Gp:=λb=>if b=a then some (.frz (ns.map T.int)) else none
def qfp {K:Frg} {H:Hp} {a:Addr} {ns:List Int} (h:∃ o,H a=some (.frz o (.lst (ns.map V.int)))):HR K (only a ns) H:=λb o e=>by
 unfold only at e;split at e
 ·rename_i hb;subst hb;cases e;exact ⟨_,h,Rps.ints ns⟩
 ·cases e
def XJ:Sp3:=λts G q=>∃ (a:Addr) (ns:List Int),ts=[.ref a]/\G a=some (.frz (ns.map T.int))/\ns.length<=63/\∀ G',q (.bl true) G'
def qnS {l:PySem.W.OpenLaw} {k:Nat} {q:Program} {loose:List Str} {XP:(Str->Option Value)->Heap->Prop} {YP:World->Heap->Prop} {d:DefRec} {K:Params->PySem.W.Frag} {x:Str} (hn:l.most=some 63) (hdf:d.params.defaults=[]) (hr:Room k callerA)
  (hY:∀ (w:World) (h:Heap),YP w h->(K w.params).In h) (hK:∀ w:World,UB (K w.params)=true)
  (F:∀ (w:World) (mg:Str->Option Value) (fa:Addr) (h:Heap),(K w.params).In h->h.Ns mainGlobals mg->mg d.name=some (.ref fa) ->
   ∃ fd:FuncData,(∀ (s:Shared) (u:Value),BindsTo s fd ⟨[u],[]⟩ [(x,u)])/\∀ base:Heap,(K w.params).In base->base.Ns mainGlobals mg->FnOk l.prog w (K w.params) mg base CX0 k fa fd [x] (lSp (K w.params) XJ)) :
  PySem.W.WalkO q loose XP YP l.row.toRowW d [] (λf vs=>PySem.call f vs):=
 L2.qfo (n:=63) (k:=k) (x:=x) (CX:=λ_=>CX0) (sp:=λw=>lSp (K w.params) XJ) hn (by decide) hdf hr hY F
  (λw H a ns hl hO hS=>⟨[.ref a],only a ns,λt _=>t=.bl true,qfp (MA (hK w) hO hS),.cons (.ref a) .nil,⟨a,ns,rfl,by simp [only],hl,λ_=>rfl⟩,λt G' e v H' r _ _=>by subst e;cases r;rfl⟩) λ_ _ _ _ _ z=>z
def qgp {P:Program} {w:World} {K:Frg} {mg:Str->Option Value} {base:Heap} {x qual:Str} {st:Stmt} {f:Addr} {fd:FuncData} {N ps:List Str} {k:Nat} {sp:Sp3} {t3:TS3} (F:Fun K x qual st f fd) (S:FnScope N ps (qi st))
  (body:∀ (cdv:Value) (A:Around) (outer:List Env) (s:Shared) (H:Hp) (E:XK),Room k (A.deeper (envOfC qual (qi st) s.heap.objs.size f cdv)) ->
   B3 (J0 CX0 P w K mg base N qual (qi st) f cdv A outer s H E).nox (zk st) t3)
  (read:∀ ts G q,sp ts G q->ts.length=ps.length/\t3 { nx:=λ_ G'=>q .non G',rt:=q } (qj N ts) G):FnOk P w K mg base CX0 (k+1) f fd ps (lSp K sp):=by
 refine F.ok S (λvs H Q E ⟨ts,G,q,h1,h2,h3,h4⟩=>by rw [← h2.length];exact (read ts G q h3).1) λcdv A outer s H vs Q E hr ⟨ts,G,q,h1,h2,h3,h4⟩=>?_;refine ⟨_,body cdv A outer s H E hr,qj N ts,G,_,D0 h1 h2,(read ts G q h3).2,⟨λτ' G' h' σ' H' rl' k'=>h4 _ G' h' _ H' .non rl'.hp k',h4,λ_ _ z=>z.elim,λ_ _ z=>z.elim⟩⟩
abbrev eh1 (h:Heap) (o1:Obj):Heap:=h.push o1
abbrev eh2 (h:Heap) (o1:Obj):Heap:=(eh1 h o1).push { cls:=.type "enumerate",data:=.fields #[.none,.bool false,.ref h.objs.size,rawInt 0,.none,.none] }
def MS (c:Addr) (o1:Obj) (ob:Obj) :
  Meets (Builtin.«enumerate.__new__» ⟨[.type "enumerate",.ref c],[]⟩) (λ_ R s=>s.heap.get? c=some ob /\
   (∀ (P:Program) (w:World) (A:Around) (Q:Value->Shared->Prop) (E:Value->Shared->Prop),Q (.ref s.heap.objs.size) { s with heap:=eh1 s.heap o1 }->wpAny (model P w) A (pyIter (.ref c)) Q E s) /\
   R (.ok (.ret (.ref (eh1 s.heap o1).objs.size))) { s with heap:=eh2 s.heap o1 }):=
 .of_wp λprog w A R s h=>by
  obtain ⟨hp,g,d,tk,os⟩:=s;obtain ⟨hl,h1,h⟩:=h;have hsub:=sub_enumerate;have k1:=λA Q E=>h1 prog w A Q E
  wp_walk using wpAny_loadPart' hl
  refine wpAny_stack_any λst=>wpAny_pure ?_;split
  ·rename_i c _ _ _ _ _;cases (c==Value.type "enumerate")
   ·wp_walk using wpAny_loadPart' hl,k1 _ _ _
    exact ⟨_,rfl,h⟩
   ·wp_walk using wpAny_loadPart' hl,k1 _ _ _
    exact ⟨_,rfl,h⟩
  ·wp_walk using wpAny_loadPart' hl,k1 _ _ _
   exact ⟨_,rfl,h⟩
def qbz {b:Bool} {c:Addr} {xs:Array Value} {h:Heap} (q:SN b c xs h):∃ o,h.get? c=some o:=by
 cases b
 ·obtain ⟨o,e,_⟩:=(show h.IsTuple c xs from q);exact ⟨o,e⟩
 ·obtain ⟨o,e,_⟩:=(show h.IsList c xs from q);exact ⟨o,e⟩
section
variable {P:Program} {w:World} {A:Around} {s:Shared} {E:Value->Shared->Prop}
def M3 {b:Bool} {c:Addr} {xs:Array Value} {Q:Value->Shared->Prop} (h1:SN b c xs s.heap)
  (q:∀ h',IsEnum h' (s.heap.objs.size+1) s.heap.objs.size 0 .none->qbu b s.heap.objs.size c 0 h'->(∀ c o,s.heap.get? c=some o->h'.get? c=some o)->Q (.ref (s.heap.objs.size+1)) { s with heap:=h' }) :
  wpAny (model P w) A (call (.type "enumerate") [.ref c]) Q E s:=by
 obtain ⟨ob,hob⟩:=qbz h1;refine callType_new F.called_enumerate (by decide) (F.typeCall_enumerate_1 _) (F.newCall_enumerate_1 _) (λobj=>F.args_object_init_2 obj _) F.entry_enumerate_new
  (MS c (zE b c) ob) ⟨hob,λP w A Q E q=>TF h1 q,?_⟩
 have e1:(eh1 s.heap (zE b c)).objs.size=s.heap.objs.size+1:=Heap.size_push ..;have g2:(eh2 s.heap (zE b c)).get? (eh1 s.heap (zE b c)).objs.size=some _:=Heap.get?_push_size _ rfl;have g1:(eh2 s.heap (zE b c)).get? s.heap.objs.size=some (zE b c):=Heap.get?_push_of_some _ (Heap.get?_push_size _ rfl);show _/\_;rw [e1] at g2 ⊢;refine ⟨⟨_,g2,rfl⟩,q _ g2 ?_ λc o e=>Heap.get?_push_of_some _ (Heap.get?_push_of_some _ e)⟩;cases b<;>exact ⟨_,g1,rfl,rfl⟩
end
def qbj {P:Program} {w:World} {A:Around} (hh:A.handled=none) (b:Bool) (it c:Addr) (hne:c≠it) (xs:Array Value) :
  Draws P w A it [it,c] xs.size (λi v=>xs[i]?=some v) (λi h=>qbu b it c i h/\SN b c xs h) where
 live:=λi h st=>let ⟨o,e,_⟩:=(zJ (P:=P) (w:=w) b it c).obj st.1;⟨o,e⟩
 frame:=λi h h' st hk=>⟨(zJ (P:=P) (w:=w) b it c).keep st.1 λo e=>hk it (by simp) o e,(zJ (P:=P) (w:=w) b it c).hkeep st.2 λo e=>hk c (by simp) o e⟩
 item:=λi s Q E hi st hQ=>by
  refine (zJ (P:=P) (w:=w) b it c).item st.1 st.2 (x:=xs[i]) (by simp [hi]) λh' st' sb=>?_;exact hQ _ h' s.toks (by simp [hi]) ⟨st',(zJ (P:=P) (w:=w) b it c).hkeep st.2 λo e=>(sb.2 c hne).trans e⟩ sb
 done:=λs Q E st hE=>(zJ (P:=P) (w:=w) b it c).done hh st.1 st.2 (by simp) hE
def CK {P:Program} {w:World} {A:Around} {s:Shared} {E:Value->Shared->Prop} {b:Bool} {e it c:Addr} {i:Nat} {xs:Array Value} {old:Value} {Q:Option Value->Shared->Prop} (hh:A.handled=none) (he:IsEnum s.heap e it i old) (p1:qbu b it c i s.heap) (l1:SN b c xs s.heap) (hx:xs[i]?=none)
  (hQ:∀ h',Heap.ExtBut it s.heap h'->Q none { s with heap:=h' }):wpAny (model P w) A (pyNext (.ref e)) Q E s:=by
 have hT:s.TypeIs (.ref e) "enumerate" := ⟨_,he,rfl⟩
 unfold pyNext;refine wpAny_bind (wpAny_attempt (wpAny_callSpecial?_slot (name:=Str.ofString "__next__") hT F.slot_enumerate_next
  (wpAny_call_entry F.slot_enumerate_next hT F.entry_enumerate_next ?_ (F.args_enumerate_next_1 _))))
 show wpAny _ _ (field (.ref e) 2 >>= _) _ _ _;refine wpAny_bind (wpAny_field he rfl (x:=.ref it) rfl ?_);refine wpAny_bind ((zJ (P:=P) (w:=w) b it c).done (show A.in1.handled=none from hh) p1 l1 hx λh' x he' hx'=>?_);obtain ⟨o,ho,hc⟩:=hx';refine wpAny_bind (wpAny_isInstance (T:="StopIteration") (b:=true) ⟨o,ho,hc⟩ isSubtype_stop ?_);exact wpAny_pure (hQ _ he')
def Ite (K:Frg) (b:Bool) (c:Addr):It:=
  ⟨λi H=>∃ xs x,SqB K b H c xs/\xs[i]?=some x,
   λi H v H'=>∃ p x,H p=none/\v=.ref p/\H'=upd H p (.tup [.int i,x])/\(∀ xs,SqB K b H c xs->xs[i]?=some x),
   λi H=>∃ xs,SqB K b H c xs/\xs.length<=i⟩
def qjE (b:Bool) (e it c:Addr) (k:Nat) (h:Heap):Prop:=(∃ old,IsEnum h e it k old)/\qbu b it c k h
def N4 {P:Program} {w:World} {K:Frg} {es:List Expr} {k1:Nat} {pt:Pos} {b:Bool} {e it c:Addr} (n1:e≠it) (n2:c≠e) (n3:c≠it):Turn P w K (.Tuple es k1 pt) (Ite K b c) [e,it] e (qjE b e it c) where
 mem:=by simp
 obj:=λi h ⟨⟨old,he⟩,p1⟩ d hd=>by
  simp only [mem_cons,not_mem_nil,or_false] at hd;rcases hd with rfl|rfl
  ·exact ⟨_,he,λv q=>by cases q⟩
  ·exact (zJ (P:=P) (w:=w) b d c).obj p1
 keep:=λi h h' ⟨⟨old,he⟩,p1⟩ k=>⟨⟨old,k e (by simp) _ he⟩,(zJ (P:=P) (w:=w) b it c).keep p1 λo e=>k it (by simp) o e⟩
 item:=by
  intro X hP hw hK hc i pins s σ H E I hf st hg;subst hP hw hK;obtain ⟨xs,x,sq,hx⟩:=hg;obtain ⟨its,rv,l1,z1⟩:=sq.get I;obtain ⟨u,hu,ru⟩:=rv.get hx;obtain ⟨⟨old,he⟩,p1⟩:=st;have hil:i<its.toArray.size:=by have:=(List.getElem?_eq_some_iff.mp hu).1;simpa using this
  refine wpAny_pyNext_enum_itemD (qbj (show X.A.in1.handled=none from I.ok.hd hc) b it c n3 its.toArray) he ⟨p1,l1⟩ hil n1 (by simp only [mem_cons,not_mem_nil,or_false,not_or];exact ⟨n1,Ne.symm n2⟩) λy h' tk hy ho st' ht hsz hk=>?_;have hy':y=u:=by
   have:its.toArray[i]?=some u:=by simpa using hu
   rw [this] at hy;exact (Option.some.inj hy).symm
  subst hy';have hfr:H s.heap.objs.size=none:=I.fresh;have free:∀ b∈[e,it],H b=none:=λb hb=>(hf b hb).1;refine ⟨_,rfl,wpAny_letOwnedTupleGo_enum ho λh2 hz2 s2=>?_⟩;have elt:e<s.heap.objs.size:=Heap.lt_size he;have hp2:h2.get? s.heap.objs.size=some { cls:=.type "tuple",data:=.seq #[.int i tk,y] }:=(s2.2 _ (Nat.ne_of_gt elt)).trans ht;have up:∀ c o,c≠e->h'.get? c=some o->h2.get? c=some o:=λc o hc e=>(s2.2 c hc).trans e;have kk:∀ c o,c∉[e,it]->s.heap.get? c=some o->h2.get? c=some o:=λc o hc q=>by
   simp only [mem_cons,not_mem_nil,or_false,not_or] at hc;exact up c o hc.1 (hk c o hc.1 hc.2 q)
  have I3:Inv X pins σ (upd H s.heap.objs.size (.tup [.int i,x])) { s with heap:=h2,toks:=tk+1 }:=by
   refine I.step (g':=s.gens) (d':=s.drawn) (t':=tk+1) (ch:=[e,it]) (λb hb=>?_) (λb o _ _ hcb e _=>kk b o hcb e) (λb o _ _ hcb e _=>⟨o.slots,kk b o hcb e⟩) (λb o _ e n=>by rw [qu (Nat.ne_of_lt (Heap.lt_size e))];exact n) (λb o hcb e=>⟨o,kk b o hcb e⟩)
    (λb _ e=>by rw [qu (qy e hfr)];exact e) (λb _ _ e=>by rw [qu (qy e hfr)];exact e) (λb ps e=>⟨#[],by rw [qu (qy e hfr),e];simp⟩) (λm hm=>?_) (λb u e=>?_) I.bare
   ·obtain ⟨f0,f1,f2,f3,f4,f5⟩:=hf b hb;exact ⟨f3,f1,f4,f5⟩
   ·obtain ⟨o,es',ep,ho',r⟩:=hm;refine ⟨o,es',ep,kk _ o (λq=>?_) ho',r⟩;obtain ⟨f0,f1,_⟩:=hf X.env.locals q;exact f1 rfl
   ·by_cases hb:b=s.heap.objs.size
    ·subst hb;rw [qT] at e;cases e;exact ⟨by show 2<=sizeLine;decide,[.int i tk,y],.cons ⟨tk,rfl⟩ (.cons ru .nil),⟨_,hp2,rfl,_,rfl⟩⟩
    ·rw [qu hb] at e;refine (I.hok b u e).stay (λc v hcb q=>kk c v (λm=>?_) q) (λ_ q=>by rw [qu (qy q hfr)];exact q) λ_ _ q=>by rw [qu (qy q hfr)];exact q
     have hn:=free c m;rcases hcb with q|q
     ·rw [q] at hn;rw [hn] at e;cases e
     ·rw [hn] at q;cases q
  refine ⟨.ref s.heap.objs.size,_,I3,rfl,⟨_,x,hfr,rfl,rfl,λzs q=>by rw [q.inj I sq];exact hx⟩,⟨⟨_,by push_cast;exact hz2⟩,(zJ (P:=X.prog) (w:=X.w) b it c).keep st'.1 λo e=>up _ o (Ne.symm n1) e⟩,λb hb=>?_⟩;rw [qu (λq=>?_)]
  ·exact free b hb
  ·subst q;simp only [mem_cons,not_mem_nil,or_false] at hb;rcases hb with q|q
   ·exact absurd q (Nat.ne_of_gt elt)
   ·obtain ⟨o,e,_⟩:=(zJ (P:=X.prog) (w:=X.w) b it c).obj p1;exact absurd q (Nat.ne_of_gt (Heap.lt_size e))
 done:=by
  intro X hP hw hK hc i pins s σ H E I hf st hg;subst hP hw hK;obtain ⟨xs,sq,hend⟩:=hg;obtain ⟨its,rv,l1,z1⟩:=sq.get I;obtain ⟨⟨old,he⟩,p1⟩:=st;have e1:=rv.length;have free:∀ b∈[e,it],H b=none:=λb hb=>(hf b hb).1;refine CK (I.ok.hd hc) he p1 l1 (by simp;omega) λh' hk0=>⟨rfl,?_⟩
  have hk:∀ c o,c∉[e,it]->s.heap.get? c=some o->h'.get? c=some o:=λc o hcb q=>hk0 c o (by simp only [mem_cons,not_mem_nil,or_false,not_or] at hcb;exact hcb.2) q;refine I.step (g':=s.gens) (d':=s.drawn) (t':=s.toks) (ch:=[e,it]) (λb hb=>?_) (λb o _ _ hcb e _=>hk b o hcb e) (λb o _ _ hcb e _=>⟨o.slots,hk b o hcb e⟩) (λ_ _ _ _ n=>n) (λb o hcb e=>⟨o,hk b o hcb e⟩) (λ_ _ e=>e) (λ_ _ _ e=>e) (λb ps e=>⟨#[],by rw [e];simp⟩) (λm hm=>?_) (λb u e=>?_) I.bare
  ·obtain ⟨f0,f1,f2,f3,f4,f5⟩:=hf b hb;exact ⟨f3,f1,f4,f5⟩
  ·obtain ⟨o,es',ep,ho',r⟩:=hm;refine ⟨o,es',ep,hk _ o (λq=>?_) ho',r⟩;obtain ⟨f0,f1,_⟩:=hf X.env.locals q;exact f1 rfl
  ·refine (I.hok b u e).stay (λc v hcb q=>hk c v (λm=>?_) q) (λ_ q=>q) λ_ _ q=>q;have hn:=free c m;rcases hcb with q|q
   ·rw [q] at hn;rw [hn] at e;cases e
   ·rw [hn] at q;cases q
 self:=λA i s Q E st h=>let ⟨⟨old,he⟩,_⟩:=st;wpAny_pyIter_enum he h
section
variable {X:Cx} {a b e l:Expr} {es:List Expr} {pos:Pos}
def qgo {p pt:Pos} {k1:Nat} {ta:TA} (hg:Gl X "enumerate") (hm:X.mg "enumerate" = none) (ha:PA X [a] ta) (hs:starEach [a] X.env=[(false,eval a X.env)]:=by rfl) :
  PI X (.Tuple es k1 pt) (.Call (.Name "enumerate" p) [a] [] pos) (λσ H R=>ta σ H λvs H1=>∃ b1 c1 xs,vs=[.ref c1]/\SqB X.K b1 H1 c1 xs/\R (Ite X.K b1 c1) H1):=by
 intro pins s σ H R I h;refine Call_ (XO I hg hm PyProof.Rows.boot_enumerate (PyProof.Rows.callWith_type1 (thn (ha pos pins s σ H _ I h) λus s1 ⟨vs,H1,I1,r1,q1⟩=>?_) (by rw [hs];rfl) (by rfl)));obtain ⟨b1,c1,xs,rfl,sq1,q⟩:=q1;obtain ⟨u1,rfl,e1⟩:=NY r1;cases (show u1=Value.ref c1 from e1);obtain ⟨its1,rv1,l1,z1⟩:=sq1.get I1;refine M3 l1 λh' he hit hk=>wpAny_pyIter_enum he ?_;have lt:=qfx l1;have ne3:∀ n c:Nat,c<n->n+1≠n/\c≠n+1/\c≠n:=λn c h=>by omega
 obtain ⟨m1,m2,m3⟩:=ne3 _ _ lt;refine ⟨s1.heap.objs.size+1,[s1.heap.objs.size+1,s1.heap.objs.size],_,_,H1,rfl,I1.kept (t':=s1.toks) hk,N4 m1 m2 m3,⟨⟨_,he⟩,hit⟩,λc hc=>?_,q⟩;have hle:s1.heap.objs.size<=c:=by
  simp only [mem_cons,not_mem_nil,or_false] at hc;rcases hc with rfl|rfl<;>first|exact Nat.le_refl _|exact Nat.le_add_right _ _
 exact I1.fpOk hle (I1.hok.fresh hle)
end
def Q8 (k:Nat):List T->List T
 |[]=>[]
 |x::r=>.tup [.int (k:Int),x]::Q8 (k+1) r
def qbr (us:List T):List T:=Q8 0 us
def EG:∀ {us:List T} {k i:Nat} {x:T},(Q8 k us)[i]?=some x->∃ a,us[i]?=some a/\x=.tup [.int ((k+i:Nat):Int),a]
 |[],_,_,_,h=>by simp [Q8] at h
 |u::us,k,0,x,h=>by simp [Q8] at h;exact ⟨u,rfl,by simp [← h]⟩
 |u::us,k,i+1,x,h=>by
  simp [Q8] at h;obtain ⟨a,ha,hx⟩:=EG h;exact ⟨a,by simpa using ha,by rw [hx];congr 4;omega⟩
def EA:∀ (us:List T) (k:Nat),(Q8 k us).length=us.length
 |[],_=>rfl
 |u::us,k=>by simp [Q8,EA us]
def RB (us:List T):(qbr us).length=us.length:=EA us 0
def WK {us:List T} {i:Nat} {x:T} (h:(qbr us)[i]?=some x):∃ a,us[i]?=some a/\x=.tup [.int (i:Int),a]:=by
 obtain ⟨a,ha,hx⟩:=EG h;exact ⟨a,ha,by rw [hx];congr 4;omega⟩
def qkO {K:Frg} {b1:Bool} {c1:Addr} {x:T} {us:List T} {G0:Gp} {H0:Hp}
  (f1:∀ G H,HR K G H->Kp G0 H0 G H->J6 G x=some us->∃ vs,SqB K b1 H c1 vs/\Rps K H us vs) :
  qgz K (Ite K b1 c1) (qbr us) (λG=>J6 G x=some us) G0 H0:=by
 intro G H hr k h1;obtain ⟨p,sp,rp⟩:=f1 G H hr k h1;refine ⟨λi z hz=>?_,λi z v H' hz hy=>?_,⟨p,sp,?_⟩⟩
 ·obtain ⟨a,ha,_⟩:=WK hz;obtain ⟨v,hv,_⟩:=rp.get ha;exact ⟨p,v,sp,hv⟩
 ·obtain ⟨a,ha,rfl⟩:=WK hz;obtain ⟨t,v1,ht,rfl,rfl,g1⟩:=hy;obtain ⟨v,hv,rv⟩:=rp.get ha;have e1:=(g1 p sp).symm.trans hv;obtain rfl:v1=v:=Option.some.inj e1;have kk:Kp G H G (upd H t (.tup [.int i,v1])):=Kp.laid ht;exact ⟨.tup (SqT.of qT) (.cons (.int _) (.cons (rv.keep hr kk) .nil)),hr.laid ht,kk⟩
 ·rw [← rp.length,RB];exact Nat.le_refl _
def KY (ta:TA3):TI3:=λτ G r=>ta τ G λxs G1=>match xs with
 |[x]=>(match J6 G1 x with|some us=>r (qbr us) (λG=>J6 G x=some us) G1|_=>False)
 |_=>False
section
variable {X:Cx} {a b e l:Expr} {es:List Expr} {pos:Pos} {t:TA3}
def qkh {p pt:Pos} {k1:Nat} (hg:Gl X "enumerate") (hm:X.mg "enumerate" = none) (ha:A3 X [a] t) (hs:starEach [a] X.env=[(false,eval a X.env)]:=by rfl) :
  I3 X (.Tuple es k1 pt) (.Call (.Name "enumerate" p) [a] [] pos) (KY t):=
 ql4 (qgo hg hm ha hs) λσ H R ⟨τ,G,r,rl,h,af⟩=>Q6 rl h λxs G1 h1 vs H1 rs hr1 k1 rl1=>by
  split at h1
  ·rename_i x;split at h1
   ·rename_i us e1;obtain ⟨v,rfl,r1⟩:=MU rs;obtain ⟨b1,c1,rfl,f1⟩:=NJ hr1 r1 e1;obtain ⟨p,sp,_⟩:=f1 G1 H1 hr1 Kp.refl e1;exact ⟨b1,c1,p,rfl,sp,af _ _ G1 h1 _ H1 hr1 k1 (qkO f1)⟩
   ·exact h1.elim
  ·exact h1.elim
end
section
variable {X:Cx} {a b c e:Expr} {es:List Expr} {ta tb tc te:TE3} {t:TA3} {pos:Pos}
def U6 (i:Nat) (r:R3) (te:TE3):TS3:=λd τ G=>match τ[i]? with
 |some (some x)=>te τ G λy G1=>r x y G1 λz G2=>d.nx (τ.set i (some z)) G2
 |_=>False
def qct (i:Nat) {x:Str} {pos':Pos} (hN:X.N.Nodup) (he:E3 X e te) (hi:X.N[i]?=some x:=by rfl) (hx:Loc X.env.scope x:=by first|exact Or.inl rfl|exact Or.inr rfl) (hf:X.fn x=true\/X.env.scope.names.lookup x=some .local:=by first|exact .inl rfl|exact .inr rfl) :
  S3 X (.AugAssign (.Name x pos') .Add e pos) (U6 i (iI (·+·)) te):=
 K1 (qkI (i:=i) hN hi hx he qhX hf) λD σ H ⟨τ,G,d,rl,h,af⟩=>by
  unfold U6 at h;split at h
  ·rename_i x e1;obtain ⟨v,e2,rv⟩:=rl.st i x e1;refine ⟨v,e2,zw rl h λy G1 h1 u H1 ry hr1 k1 rl1=>?_⟩;have rv1:=rv.keep rl.hp k1;cases x<;>try exact h1.elim
   cases y<;>try exact h1.elim
   cases rv1;cases ry;exact ⟨_,_,rfl,rfl,af.nx _ G1 h1 _ H1 (rl1.set i (.int _)) k1⟩
  ·exact h.elim
def qfm (ns:List Int):Prop:=ns.length<=1000000/\∀ x∈ns,-1000000000000<=x/\x<=1000000000000
def TR (ns:List Int):∀ j,j<=ns.length->preSum (λi=>ns.getD i 0) j=(ns.take j).sum
 |0,_=>by simp [preSum]
 |j+1,h=>by
  have hj:j<ns.length:=h;unfold preSum;rw [TR ns j (by omega),List.take_succ_eq_append_getElem hj,List.sum_append,getD_eq_getElem?_getD,getElem?_eq_getElem hj];simp
def qd1:∀ (ns:List Int),(∀ x∈ns,-1000000000000<=x/\x<=1000000000000)->-1000000000000*(ns.length:Int)<=ns.sum/\ns.sum<=1000000000000*(ns.length:Int)
 |[],_=>by simp
 |n::r,h=>by
  have h1:=h n List.mem_cons_self;have h2:=qd1 r λx hx=>h x (List.mem_cons_of_mem _ hx);rw [List.sum_cons,length_cons];omega
def X6 (hc:X.calm=true):EN X (.builtin "sum") (λxs H Q=>∃ (p:Addr) (ns:List Int),xs=[.ref p]/\SqL X.K H p (ns.map V.int)/\qfm ns/\Q (.int ns.sum) H):=by
 intro pins s σ H xs us Q I r h;obtain ⟨p,ns,rfl,hq,ok,q⟩:=h;obtain ⟨u,rfl,rp⟩:=NY r;cases (show u=Value.ref p from rp);obtain ⟨its,rv,pl,hz⟩:=I.list hq;have hlen:its.length=ns.length:=by have:=rv.length;simp at this;omega
 have hp:p<s.heap.objs.size:=by obtain ⟨o,n,e,_⟩:=pl;exact Heap.lt_size e
 have bd:∀ j,j<=ns.length->InLong (preSum (λi=>ns.getD i 0) j):=λj hj=>by
  rw [TR ns j hj];have:=qd1 (ns.take j) λx hx=>ok.2 x (List.mem_of_mem_take hx);have hl:(ns.take j).length<=1000000:=Nat.le_trans (by rw [List.length_take];omega) ok.1;unfold InLong;omega
 refine call_sum_walk (wpAny_pyIter_list pl.isList ⟨s.heap.objs.size,_,_,_,_,_,λi=>ns.getD i 0,rfl,Walks.list (A:=X.A.in1) (show X.A.in1.handled=none from I.ok.hd hc) s.heap.objs.size p (Nat.ne_of_lt hp) its.toArray,⟨⟨_,Heap.get?_push_size _ rfl,rfl,rfl⟩,?_⟩,λb hb=>?_,λi v hv=>?_,λj hj=>?_,λh' tk t' hk=>?_⟩)
 ·obtain ⟨o,n,e,c,_,d⟩:=pl;exact ⟨o,Heap.get?_push_of_some _ e,c,n,d⟩
 ·have lt1:∀ n c:Nat,c<n->c<n+1:=λn c h=>by omega
  rw [show (({ s with heap:=s.heap.push _ }:Shared).heap.objs.size)=s.heap.objs.size+1 from Heap.size_push ..];simp only [mem_cons,not_mem_nil,or_false] at hb;rcases hb with rfl|rfl
  ·exact Nat.lt_succ_self _
  ·exact lt1 _ _ hp
 ·have hv':its[i]?=some v:=by simpa using hv
  obtain ⟨hi,_⟩:=List.getElem?_eq_some_iff.mp hv';have hi':i<ns.length:=by omega
  obtain ⟨u,hu,ru⟩:=rv.get (i:=i) (show (ns.map V.int)[i]?=some (V.int (ns[i])) by simp [hi']);rw [hv'] at hu;cases hu;obtain ⟨t,rfl⟩:=ru;exact ⟨t,by show Value.int ns[i] t=Value.int (ns.getD i 0) t;rw [getD_eq_getElem?_getD,getElem?_eq_getElem hi'];rfl⟩
 ·have hj':j<ns.length:=by rw [size_toArray] at hj;omega
  refine ⟨?_,bd _ hj'⟩;have:=ok.2 (ns.getD j 0) (by rw [getD_eq_getElem?_getD,getElem?_eq_getElem hj'];exact List.getElem_mem hj');show InLong (ns.getD j 0);unfold InLong;omega
 ·refine ⟨.int _,H,?_,⟨_,rfl⟩,by rw [size_toArray,hlen,TR ns _ (Nat.le_refl _),List.take_length];exact q⟩;exact I.kept (h':=h') (t':=tk) λb o e=>hk b o (by simp;exact Nat.ne_of_lt (Heap.lt_size e)) (Heap.get?_push_of_some _ e)
def S0:List T->Option (List Int)
 |[]=>some []
 |.int i::r=>(match S0 r with|some ns=>some (i::ns)|none=>none)
 |_=>none
def qaf (ns:List Int):S0 (ns.map T.int)=some ns:=by
 induction ns with
 |nil=>rfl
 |cons n r ih=>simp [S0,ih]
def LD:∀ {xs:List T} {ns:List Int},S0 xs=some ns->xs=ns.map T.int
 |[],_,h=>by simp [S0] at h;subst h;rfl
 |x::r,ns,h=>by
  unfold S0 at h;split at h
  ·rename_i e;cases e
  ·rename_i i r' e;cases e;split at h
   ·rename_i ms e2;cases h;rw [LD e2];rfl
   ·cases h
  ·cases h
def ql8:List T->Gp->Q3->Prop:=λxs G q=>match xs with
 |[.ref p]=>(match zl G p with|some ys=>(match S0 ys with|some ns=>qfm ns/\q (.int ns.sum) G|none=>False)|none=>False)
 |_=>False
def K8 {K:Frg} {H:Hp}:∀ {ns:List Int} {vs:List V},Rps K H (ns.map T.int) vs->vs=ns.map V.int
 |[],_,r=>by cases r;rfl
 |n::ns,_,r=>by
  cases r with
  |cons a b=>cases a;rw [K8 b];rfl
def qf8 {K:Frg}:qbf K ql8 (λxs H Q=>∃ (p:Addr) (ns:List Int),xs=[.ref p]/\SqL K H p (ns.map V.int)/\qfm ns/\Q (.int ns.sum) H):=λxs vs G H q Q hr rs h af=>by
 unfold ql8 at h;split at h
 ·rename_i p;obtain ⟨v,rfl,r⟩:=MU rs;cases r;split at h
  ·rename_i ys e0;split at h
   ·rename_i ns e1;obtain ⟨us,hs,r2⟩:=jv hr e0;have:=LD e1;subst this;have:=K8 r2;subst this;exact ⟨p,ns,rfl,hs,h.1,af _ G h.2 _ H (.int _) hr Kp.refl⟩
   ·exact h.elim
  ·exact h.elim
 ·exact h.elim
def WP:List T->Gp->Q3->Prop:=λxs G q=>match xs with
 |[.ref p]=>(match zl G p with|some ys=>(match qoV ys with|some k=>q (.bl k) G|none=>False)|none=>False)
 |_=>False
end
section
variable {X:Cx}
def qe9 {elt tg iter:Expr} {ifs:List Expr} {scope:Scope} {pos cpos:Pos} {N':List Str} {m:List (Option Nat)} {wi:TI} {g:TG} {tif:TT} {te:TE} {use:Option (Value->Sem Unit)} {Qc:Value->Shared->Prop} {QD:Addr->Hp->Prop} (hc:X.calm=true) (hi:PI X tg iter wi)
  (hg:∀ s H fp,PG (ql X N' scope s H fp) tg g) (hf:∀ s H fp,PF (ql X N' scope s H fp) ifs tif) (he:∀ s H fp,PE (ql X N' scope s H fp) elt te)
  (hsc:MV X.env.scope scope=true) (hcap:Y9 X.N N' scope m=true) (hs:∀ x,foldedSetIterable iter X.env x=pure x) {pins:List (Addr×Obj)} {s:Shared} {σ:L2.St} {H:Hp} (I:Inv X pins σ H s)
  (h:wi σ H λJ H1=>∀ D,H1 D=none ->
   ∃ W:Nat->Nat->L2.St->Hp->Prop,(∃ n,W 0 n (cap m σ) (upd H1 D (.lst [])))/\∀ i n σ H,W i n σ H ->
    (J.stop i H/\QD D H)\/(J.go i H/\∀ x H',J.yld i H x H'->g x σ H' λσ2 H2=>tif σ2 H2 λk H3=>
     if k=true then te σ2 H3 λy H4=>∃ zs,H4 D=some (.lst zs)/\zs.length<sizeLine/\∃ n',n'<n/\W (i+1) n' σ2 (upd H4 D (.lst (zs++[y])))
     else ∃ n',n'<n/\W (i+1) n' σ2 H3))
  (fin:∀ (D:Addr) (s3:Shared) (H3:Hp) (fp:List Addr) (s6:Shared) (H6:Hp) (σ6:L2.St) (r:Flow),Inv X pins σ H3 s3->(∀ b∈fp,RO X pins H3 b)->Inv (ql X N' scope s3 H3 fp) [] σ6 H6 s6->QD D H6->compPost (model X.prog X.w) X.A X.xe use Qc (.ref D) s3.heap.objs.size (.ok r) s6) :
  wpAny (model X.prog X.w) X.A (comprehension (.ListComp elt [⟨tg,iter,ifs,0⟩] scope pos) scope X.env cpos (newList []) false (eval iter X.env) use) Qc X.xe s:=by
 have sc:=UD hsc;have hcl:∀ y∈scope.names,y.2=.free->∃ c,X.env.cells.lookup y.1=some c:=λy hy e=>by
  rcases (sc.free y hy e).2 with z|z
  ·exact I.ok.has y.1 (.inl z)
  ·exact I.ok.has y.1 (.inr z)
 refine wpAny_comprehension_free (g:=⟨tg,iter,ifs,0⟩) (gs:=[]) rfl hs (Z1 hcl) sc.kind sc.loc ?_;show wpAny _ _ (eval iter X.env) _ _ s;refine thn (hi pins s σ H _ I h) λv s1 h1=>thn h1 λitv s2 h2=>?_;obtain ⟨it,fp,tn,J,H2,rfl,I2,T,st2,f2,hW⟩:=h2;refine wpAny_newObj_type ?_;have hD:H2 s2.heap.objs.size=none:=I2.fresh;obtain ⟨W,⟨n0,w0⟩,turn⟩:=hW _ hD;generalize hDe:s2.heap.objs.size=D at *;have I3:Inv X pins σ (upd H2 D (.lst [])) { s2 with heap:=s2.heap.push { cls:=.type "list",dict:=none,data:=.seq ([]:List Value).toArray } }:=by
  subst hDe;exact I2.laid (t':=s2.toks) (λb u e=>Heap.get?_push_of_some _ e) (Nat.le_refl _) ⟨Nat.zero_le _,[],0,.nil,Heap.get?_push_size _ rfl⟩
 have ob2:=T.obj 0 _ st2;have ob3:∀ b∈fp,∃ o,(s2.heap.push { cls:=.type "list",dict:=none,data:=.seq ([]:List Value).toArray }).get? b=some o:=λb hb=>let ⟨o,e,_⟩:=ob2 b hb;⟨o,Heap.get?_push_of_some _ e⟩
 have f3:∀ b∈fp,RO X pins (upd H2 D (.lst [])) b:=λb hb=>by
  obtain ⟨o,e,_⟩:=ob2 b hb;have:b≠D:=by rw [← hDe];exact Nat.ne_of_lt (Heap.lt_size e)
  exact ⟨by rw [qu this];exact (f2 b hb).1,(f2 b hb).2⟩
 have k23:∀ b o,s2.heap.get? b=some o->(s2.heap.push { cls:=.type "list",dict:=none,data:=.seq ([]:List Value).toArray }).get? b=some o:=λb o e=>Heap.get?_push_of_some _ e;generalize hH3:upd H2 D (.lst [])=H3 at *;generalize hs3:({ s2 with heap:=s2.heap.push { cls:=.type "list",dict:=none,data:=.seq ([]:List Value).toArray } }:Shared)=s3 at *;have ob3:∀ b∈fp,∃ o,s3.heap.get? b=some o:=by rw [← hs3];exact ob3
 have k23:∀ b o,s2.heap.get? b=some o->s3.heap.get? b=some o:=by rw [← hs3];exact k23
 refine j3 λh₁ hns hk hown=>?_;have I4:Inv (ql X N' scope s3 H3 fp) [] (cap m σ) H3 { s3 with heap:=h₁ }:=C0 hc I3 sc hcap f3 ob3 hns hk hown;have tn4:tn 0 h₁:=T.keep _ _ _ st2 λb hb o e=>hk b o (k23 b o e);have fr4:∀ b∈fp,H3 b=none:=λb hb=>(f3 b hb).1;have stat:∀ {H':Hp},(∀ b∈fp,H' b=none)->∀ b∈fp,RO (ql X N' scope s3 H3 fp) [] H' b:=λhn b hb=>by
  refine ⟨hn b hb,I4.ok.exf b hb |>.1,I4.ok.exfs b hb,.inl hb,λx c e=>(I4.ok.exf b hb).2 x c e,λp hp=>absurd (show p∈([]:List (Addr×Obj)) from hp) (by simp)⟩
 show codeAny (model X.prog X.w) X.A (.compStart (.ListComp elt [⟨tg,iter,ifs,0⟩] scope pos) 0 (.ref it) (.ref D) (ql X N' scope s3 H3 fp).env) (compPost (model X.prog X.w) X.A X.xe use Qc (.ref D) s3.heap.objs.size) { s3 with heap:=h₁ };have loop:codeAny (model X.prog X.w) X.A (.compLoop (.ListComp elt [⟨tg,iter,ifs,0⟩] scope pos) 0 (.ref it) (.ref D) (ql X N' scope s3 H3 fp).env) (compPost (model X.prog X.w) X.A X.xe use Qc (.ref D) s3.heap.objs.size) { s3 with heap:=h₁ }:=by
  refine codeAny_loop rfl (λn s'=>∃ i σ' H',Inv (ql X N' scope s3 H3 fp) [] σ' H' s'/\tn i s'.heap/\(∀ b∈fp,H' b=none)/\W i n σ' H') (λn s' hI=>?_) n0 ⟨0,cap m σ,H3,I4,tn4,fr4,w0⟩;show wpAny _ X.A ((compTurn (.ListComp elt [⟨tg,iter,ifs,0⟩] scope pos) 0 (.ref it) (.ref D) (ql X N' scope s3 H3 fp).env).onRaise (λx=>do noteFrame x (ql X N' scope s3 H3 fp).env;theTreesLotGoes x)) _ _ s';refine wpAny_noted ?_;rw [compTurn_list];refine wpAny_bind (wpAny_standAt (wpAny_bind ?_));obtain ⟨i,σ5,H5,I5,st5,fr5,w5⟩:=hI;rcases turn i n σ5 H5 w5 with ⟨stop,q⟩|⟨go,step⟩
  ·refine thn (T.done (ql X N' scope s3 H3 fp) rfl rfl rfl rfl i [] s' σ5 H5 _ I5 (stat fr5) st5 stop) λr s6 ⟨hr,I6⟩=>?_;subst hr;refine wpAny_pure ?_;exact fin D s3 H3 fp s6 H5 σ5 _ I3 f3 I6 q
  ·refine thn (T.item (ql X N' scope s3 H3 fp) rfl rfl rfl rfl i [] s' σ5 H5 _ I5 (stat fr5) st5 go) λr s6 ⟨u,hr,h6⟩=>?_;subst hr;refine wpAny_bind (thn h6 λ_ s7 ⟨x,H7,I7,r7,y7,st7,fr7⟩=>?_);have I7':=I7.pinned (stat fr7) (T.obj _ _ st7);have again:∀ {σ8:L2.St} {H8:Hp} {s8:Shared},Inv (ql X N' scope s3 H3 fp) ([]++U8 fp s7.heap) σ8 H8 s8->(∃ n',n'<n/\W (i+1) n' σ8 H8) ->
     ∃ m',m'<n/\∃ i σ' H',Inv (ql X N' scope s3 H3 fp) [] σ' H' s8/\tn i s8.heap/\(∀ b∈fp,H' b=none)/\W i m' σ' H':=λ{σ8 H8 s8} I8 ⟨n',hn,w8⟩=>by
    refine ⟨n',hn,i+1,σ8,H8,I8.unpinned,T.keep _ _ _ st7 λb hb o e=>(I8.pin (b,o) (mem_append_right _ (mem_append_right _ (zD hb e)))).1,λb hb=>?_,w8⟩;obtain ⟨o,e,d⟩:=T.obj _ _ st7 b hb;exact (I8.pin (b,o) (mem_append_right _ (mem_append_right _ (zD hb e)))).2.1
   refine wpAny_bind (wpAny_mono (hg s3 H3 fp _ s7 σ5 H7 x u _ I7' r7 (step x H7 y7)) (λ_ s8 ⟨σ8,H8,I8,q8⟩=>?_) λ_ _ z=>z.elim);refine wpAny_bind (wpAny_mono (hf s3 H3 fp _ s8 σ8 H8 _ I8 q8) (λk s9 ⟨H9,I9,q9⟩=>?_) λ_ _ z=>z.elim);cases k with
   |false=>
    rw [if_neg Bool.false_ne_true] at q9;exact wpAny_pure ⟨rfl,again I9 q9⟩
   |true=>
    rw [if_pos rfl] at q9;refine wpAny_bind (wpAny_bind (wpAny_mono (he s3 H3 fp _ s9 σ8 H9 _ I9 q9) (λw s10 ⟨y,H10,I10,r10,q10⟩=>?_) λ_ _ z=>z.elim));obtain ⟨zs,hz,hl,q10⟩:=q10;refine wpAny_bind (wpAny_mono (VR (X:=ql X N' scope s3 H3 fp) _ s10 σ8 H10 (.ref D) [y] (.ref D) [w] (λ_ H11=>H11=upd H10 D (.lst (zs++[y]))) I10 rfl (.cons r10 .nil) ⟨D,zs,y,rfl,rfl,hz,hl,rfl⟩) (λ_ s11 ⟨_,H11,I11,_,e11⟩=>?_) λ_ _ z=>z.elim);subst e11;exact wpAny_pure (wpAny_pure ⟨rfl,again I11 q10⟩)
 exact codeAny_compStart_list loop (T.self X.A 0 _ _ _ tn4 loop)
def qbC {i:Nat} {y:Str} {py spos:Pos} {elt tg iter:Expr} {ifs:List Expr} {scope:Scope} {pos:Pos} {N':List Str} {m:List (Option Nat)} {wi:TI} {g:TG} {tif:TT} {te:TE} (hc:X.calm=true) (hN:X.N.Nodup) (hi:PI X tg iter wi)
  (hg:∀ s H fp,PG (ql X N' scope s H fp) tg g) (hf:∀ s H fp,PF (ql X N' scope s H fp) ifs tif) (he:∀ s H fp,PE (ql X N' scope s H fp) elt te)
  (hsc:MV X.env.scope scope=true) (hcap:Y9 X.N N' scope m=true) (hs:∀ x,foldedSetIterable iter X.env x=pure x) (hiy:X.N[i]?=some y) (hl:X.env.scope.names.lookup y=some .local)
  (hsw:swapsWith (.ListComp elt [⟨tg,iter,ifs,0⟩] scope pos) (some (.Name y py)) spos.line X.env=pure true) :
  PS X (.Assign [.Name y py] (.ListComp elt [⟨tg,iter,ifs,0⟩] scope pos) spos) (qnU (tLC wi g tif te m) (qgd i)):=by
 intro pins s σ H D I h;rw [exec_Assign_Name_used _ _ _ _ hsw];refine wpAny_bind (wpAny_standAt (wpAny_bind ?_));show wpAny _ X.A (do let _←comprehension (.ListComp elt [⟨tg,iter,ifs,0⟩] scope pos) scope X.env _ (newList []) false (eval iter X.env) (some (assign (.Name y py) X.env))) _ _ s;refine wpAny_bind (wpAny_mono (qe9 (use:=some (assign (.Name y py) X.env)) (QD:=λD' H'=>D.nx (σ.set i (some (.ref D'))) H') (Qc:=λ_ s'=>∃ σ' H',Inv X pins σ' H' s'/\D.nx σ' H') hc hi hg hf he hsc hcap hs I h λD' s3 H3 fp s6 H6 σ6 r I3 f3 I6 q=>?_) (λ_ s' hq=>wpAny_pure (wpAny_pure hq)) λ_ _ e=>e);have I7:Inv X pins σ H6 s6:=UN (h2:=s6.heap) I3 f3 I6 ⟨rfl,λ_ _=>rfl⟩;obtain ⟨mm,hn6,_⟩:=I6.loc;have hfC:RO X pins H6 s3.heap.objs.size:=I3.fpOk (Nat.le_refl _) I6.free;obtain ⟨f0,f1,f2,f3',f4,f5⟩:=hfC;show wpAny _ X.A (assign (.Name y py) X.env (.ref D')) _ _ _;refine wpAny_assign_Name (SK I7 hN hiy (.inl hl) (v:=.ref D') rfl (λs8 I8 hch=>?_) (.inr hl));obtain ⟨a,sb,ha⟩:=hch;have hne:s3.heap.objs.size≠a:=by
  rcases ha with rfl|ha
  ·exact f1
  ·exact Ne.symm (f4 _ _ ha)
 refine ⟨mm,hn6.sameBut sb hne,λh' sb'=>⟨_,_,I8.turned (t':=s8.toks) (λb o hb e=>(sb'.2 b hb).trans e) f0 f1 f3' f4 f5,q⟩⟩
end
def qnB {K:Frg} {m:List (Option Nat)} {wi:TI3} {g:TG3} {tif:TT3} {te:TE3} {σ:L2.St} {H:Hp} {Q:VK} (hh:lE K (lc3 wi g tif te m) σ H Q):tLC (lI K wi) (lG K g) (lT K tif) (lE K te) m σ H Q:=by
  obtain ⟨τ,G,q,rl,h,af⟩:=hh;refine ⟨τ,G,_,rl,h,λitems stay G1 h1 J H1 hr1 k1 ok D hD=>?_⟩;have gD:G1 D=none:=hr1.free hD;refine ⟨λi n σ' H'=>n=items.length-i/\i<=items.length/\∃ τ' G' ys vs,Rel K τ' G' σ' H'/\Kp G1 H1 G' H'/\H' D=some (.lst vs)/\Rps K H' ys vs/\G' D=none/\XV stay g tif te q (items.drop i) ys τ' G',
   ⟨_,rfl,Nat.zero_le _,cap m τ,G1,[],[],((rl.next hr1 k1).cap m).next (hr1.laid hD) (Kp.laid hD),Kp.laid hD,qT,.nil,gD,by simpa using h1⟩,?_⟩
  rintro i n σ' H' ⟨rfl,hi,τ',G',ys,vs,rl',k',hDl,rys,gD',h'⟩;by_cases hlt:i<items.length
  ·rw [List.drop_eq_getElem_cons hlt] at h';obtain ⟨hst,h'⟩:=h';obtain ⟨go,yld,_⟩:=ok G' H' rl'.hp k' hst;have hx:items[i]?=some items[i]:=getElem?_eq_getElem hlt;refine .inr ⟨go i _ hx,λv H2 y=>?_⟩;obtain ⟨rv,hr2,k2⟩:=yld i _ v H2 hx y;have nxt:∀ {τ4:St3} {G4:Gp} {σ4:L2.St} {H4:Hp} {ys4:List T} {vs4:List V},Rel K τ4 G4 σ4 H4->Kp G1 H1 G4 H4->H4 D=some (.lst vs4)->Rps K H4 ys4 vs4->G4 D=none->XV stay g tif te q (items.drop (i+1)) ys4 τ4 G4 ->
     ∃ n',n'<items.length-i/\(n'=items.length-(i+1)/\i+1<=items.length/\∃ τ' G' ys vs,Rel K τ' G' σ4 H4/\Kp G1 H1 G' H4/\H4 D=some (.lst vs)/\Rps K H4 ys vs/\G' D=none/\XV stay g tif te q (items.drop (i+1)) ys τ' G'):=
    λ{τ4 G4 σ4 H4 ys4 vs4} a b c d e f=>⟨_,by omega,rfl,hlt,τ4,G4,ys4,vs4,a,b,c,d,e,f⟩
   refine ⟨_,τ',G',_,rv,rl'.next hr2 k2,h',λτ3 G3 h3 σ3 H3 rl3 k3=>⟨τ3,G3,_,rl3,h3,λk G4 h4 H4 hr4 k4=>?_⟩⟩;have kk:=(k2.trans k3).trans k4;obtain ⟨hD4,gD4⟩:=kk D _ hDl gD';have rys4:=rys.keep rl'.hp kk;cases k with
   |false=>
    rw [if_neg Bool.false_ne_true] at h4;refine qmg ?_;exact nxt (rl3.next hr4 k4) (k'.trans kk) hD4 rys4 gD4 h4
   |true=>
    rw [if_pos rfl] at h4;refine qmr ?_;refine ⟨τ3,G4,_,rl3.next hr4 k4,h4,λz G5 h5 w H5 rw5 hr5 k5=>?_⟩;obtain ⟨hD5,gD5⟩:=k5 D _ hD4 gD4;have rys5:=rys4.keep hr4 k5;exact ⟨vs,hD5,by rw [← rys.length];exact h5.1,nxt (((rl3.next hr4 k4).next hr5 k5).wrD hD5 gD5) (((k'.trans kk).trans k5).wrD hD) qT ((rys5.append (.cons rw5 .nil)).wrD hD5) gD5 h5.2⟩
  ·have e:i=items.length:=by omega
   subst e;rw [List.drop_length] at h';obtain ⟨_,_,stop⟩:=ok G' H' rl'.hp k' h'.1;refine .inl ⟨stop,af _ _ (h'.2 D gD') _ H' (.ref D) (λa o e=>?_) λa o e ga=>?_⟩
   ·by_cases ha:a=D
    ·subst ha;rw [qp] at e;cases e;exact ⟨vs,hDl,rys⟩
    ·rw [zu ha] at e;exact rl'.hp a o e
   ·obtain ⟨e1,g1⟩:=k1 a o e ga;obtain ⟨e2,g2⟩:=k' a o e1 g1;exact ⟨e2,by rw [zu (qy e1 hD)];exact g2⟩
def qe6 {X:Cx} {py spos:Pos} {elt tg iter:Expr} {ifs:List Expr} {scope:Scope} {pos:Pos} {y:Str} (i:Nat) (N':List Str) (m:List (Option Nat)) {wi:TI3} {g:TG3} {tif:TT3} {te:TE3} (hc:X.calm=true) (hN:X.N.Nodup) (hi:I3 X tg iter wi)
  (hg:∀ s H fp,G3 (ql X N' scope s H fp) tg g) (hf:∀ s H fp,F3 (ql X N' scope s H fp) ifs tif) (he:∀ s H fp,E3 (ql X N' scope s H fp) elt te)
  (hsc:MV X.env.scope scope=true) (hcap:Y9 X.N N' scope m=true) (hl:X.env.scope.names.lookup y=some .local) (hsw:swapsWith (.ListComp elt [⟨tg,iter,ifs,0⟩] scope pos) (some (.Name y py)) spos.line X.env=pure true) (hiy:X.N[i]?=some y:=by rfl) (hs:∀ x,foldedSetIterable iter X.env x=pure x:=by intro _;rfl) :
  S3 X (.Assign [.Name y py] (.ListComp elt [⟨tg,iter,ifs,0⟩] scope pos) spos) (qD (lc3 wi g tif te m) (gn3 i)):=
 K1 (qbC (g:=lG X.K g) (tif:=lT X.K tif) (te:=lE X.K te) hc hN hi hg hf he hsc hcap hs hiy hl hsw) λ_ σ H ⟨τ,G,d,rl,h,af⟩=>
  qnB ⟨τ,G,_,rl,h,λx G1 h1 v H1 rx hr1 k1=>af.nx _ G1 h1 _ H1 ((rl.next hr1 k1).set i rx) k1⟩
end L3
set_option autoImplicit true
namespace L3
open PySem PySem.Spec PyProof.Rows L2
structure jE3 (X:Cx) (e:Expr) (t:TE3):Prop where h:E3 X e t
structure jC3 (X:Cx) (e:Expr) (t:TT3):Prop where h:C3 X e t
structure jW3 (X:Cx) (e:Expr) (t:TT3):Prop where h:W3 X e t
structure jA3 (X:Cx) (e:List Expr) (t:TA3):Prop where h:A3 X e t
structure jP3 (X:Cx) (e:Option Expr) (t:TO3):Prop where h:P3 X e t
structure jS3 (X:Cx) (e:Stmt) (t:TS3):Prop where h:S3 X e t
structure jB3 (X:Cx) (e:List Stmt) (t:TS3):Prop where h:B3 X e t
structure jG3 (X:Cx) (e:Expr) (t:TG3):Prop where h:G3 X e t
structure jGs3 (X:Cx) (e:List Expr) (t:SO):Prop where h:Gs3 X e t
structure jI3 (X:Cx) (tg e:Expr) (t:TI3):Prop where h:I3 X tg e t
structure jF3 (X:Cx) (e:List Expr) (t:TT3):Prop where h:F3 X e t
def qc {X:Cx} (i:Nat) {x:Str} {pos:Pos} (hN:X.N[i]?=some x:=by rfl) (hv:Vis X.env.scope x:=by first|exact Or.inl rfl|exact Or.inr (Or.inl rfl)|exact Or.inr (Or.inr rfl)) (hd:(x==("__debug__" : Str))=false:=by decide)
  (hcd:(x==("__classdict__" : Str))=false:=by decide):jE3 X (.Name x pos) (v3 i):=
 ⟨qmT (i:=i) (hN:=hN) (hv:=hv) (hd:=hd) (hcd:=hcd)⟩
def qd {X:Cx} {i:Int} {j pos}:jE3 X (.Constant (.int i) j pos) (c3 (.int i)):=
 ⟨qmx ⟩
def RR {X:Cx} {b:Bool} {j pos}:jE3 X (.Constant (.bool b) j pos) (c3 (.bl b)):=
 ⟨qpK ⟩
def KT {X:Cx} {j pos}:jE3 X (.Constant .none j pos) (c3 .non):=
 ⟨qol ⟩
def qC {X:Cx} {x:Str} {j pos}:jE3 X (.Constant (.str x) j pos) (c3 (.str x)):=
 ⟨qnv ⟩
def qej {ta:TE3} {tb:TE3} {pos:Pos} {a:Expr} {b:Expr} {X:Cx} {op:CmpOp} {r3:R3} {r:R2} (ho:OpR X (compareOp op) r) (hr:W5 X.K r3 r) (ha:jE3 X a ta) (hb:jE3 X b tb) (hm:behindInMarks op b=false):jE3 X (.Compare a [op] [b] pos) (o3 r3 ta tb):=
 ⟨qnN (ho:=ho) (hr:=hr) (ha:=ha.h) (hb:=hb.h) (hm:=hm)⟩
def qS {ta:TE3} {tb:TE3} {pos:Pos} {a:Expr} {b:Expr} {X:Cx} {op:CmpOp} {r3:R3} {r:R2} (ho:OpR X (compareOp op) r) (hr:W5 X.K r3 r) (ha:jE3 X a ta) (hb:jE3 X b tb) (hm:behindInMarks op b=false):jC3 X (.Compare a [op] [b] pos) (tb3 (o3 r3 ta tb)):=
 ⟨qoe (ho:=ho) (hr:=hr) (ha:=ha.h) (hb:=hb.h) (hm:=hm)⟩
def KN {ta:TE3} {tb:TE3} {tc:TE3} {pos:Pos} {a:Expr} {b:Expr} {c:Expr} {X:Cx} {op op':CmpOp} {r3 r3':R3} {r r':R2} (ho:OpR X (compareOp op) r) (hr:W5 X.K r3 r) (ho':OpR X (compareOp op') r') (hr':W5 X.K r3' r') (ha:jE3 X a ta) (hb:jE3 X b tb) (hc:jE3 X c tc)
  (hm:lastMarks [op,op'] [b,c]=false:=by with_unfolding_all rfl):jE3 X (.Compare a [op,op'] [b,c] pos) (ch3 r3 r3' ta tb tc):=
 ⟨qeY (ho:=ho) (hr:=hr) (ho':=ho') (hr':=hr') (ha:=ha.h) (hb:=hb.h) (hc:=hc.h) (hm:=hm)⟩
def LK {ta:TE3} {tb:TE3} {pos:Pos} {a:Expr} {b:Expr} {X:Cx} (ha:jE3 X a ta) (hb:jE3 X b tb):jE3 X (.BinOp a .Sub b pos) (o3 (iI (·-·)) ta tb):=
 ⟨qnl (ha:=ha.h) (hb:=hb.h)⟩
def j5 {ta:TE3} {tb:TE3} {pos:Pos} {a:Expr} {b:Expr} {X:Cx} (ha:jE3 X a ta) (hb:jE3 X b tb):jE3 X (.BinOp a .Mult b pos) (o3 (iC U7 (·*·)) ta tb):=
 ⟨qnd (ha:=ha.h) (hb:=hb.h)⟩
def Q4 {ta:TE3} {tb:TE3} {pos:Pos} {a:Expr} {b:Expr} {X:Cx} (ha:jE3 X a ta) (hb:jE3 X b tb):jE3 X (.BinOp a .Mod b pos) (o3 (iC (λ_ j=>0<j) (·%·)) ta tb):=
 ⟨qmD (ha:=ha.h) (hb:=hb.h)⟩
def XX {ta:TE3} {tb:TE3} {pos:Pos} {a:Expr} {b:Expr} {X:Cx} (ha:jE3 X a ta) (hb:jE3 X b tb):jE3 X (.BinOp a .FloorDiv b pos) (o3 (iC qbG (·/·)) ta tb):=
 ⟨qm5 (ha:=ha.h) (hb:=hb.h)⟩
def qa4 {ta:TE3} {tb:TE3} {pos:Pos} {a:Expr} {b:Expr} {X:Cx} (ha:jE3 X a ta) (hb:jE3 X b tb):jE3 X (.BinOp a .Pow b pos) (o3 (iC WZ (λi j=>i ^ j.toNat)) ta tb):=
 ⟨qn2 (ha:=ha.h) (hb:=hb.h)⟩
def TB {ta:TE3} {tb:TE3} {pos:Pos} {a:Expr} {b:Expr} {X:Cx} (ha:jE3 X a ta) (hb:jE3 X b tb):jE3 X (.BinOp a .BitAnd b pos) (o3 (iI Builtin.bitAnd) ta tb):=
 ⟨qit (ha:=ha.h) (hb:=hb.h)⟩
def KO {ta:TE3} {tb:TE3} {pos:Pos} {a:Expr} {b:Expr} {X:Cx} (ha:jE3 X a ta) (hb:jE3 X b tb):jE3 X (.BinOp a .LShift b pos) (o3 (iC WZ (λi j=>i*2 ^ j.toNat)) ta tb):=
 ⟨qnR (ha:=ha.h) (hb:=hb.h)⟩
def qiB {ta:TE3} {tb:TE3} {pos:Pos} {a:Expr} {b:Expr} {X:Cx} (ha:jE3 X a ta) (hb:jE3 X b tb):jE3 X (.BinOp a .RShift b pos) (o3 (iC (λ_ j=>0<=j) (λi j=>i/2 ^ j.toNat)) ta tb):=
 ⟨qod (ha:=ha.h) (hb:=hb.h)⟩
def EF {ta:TE3} {pos:Pos} {a:Expr} {X:Cx} (ha:jE3 X a ta):jE3 X (.UnaryOp .USub a pos) (u3 ZW ta):=
 ⟨qmB (ha:=ha.h)⟩
def qaE {tA:TT3} {pos:Pos} {a:Expr} {X:Cx} (ha:jC3 X a tA):jW3 X (.BoolOp .Or [a] pos) tA:=
 ⟨qm2 (ha:=ha.h)⟩
def qe0 {Z2:List Expr} {tA:TT3} {tB:TT3} {pos:Pos} {a:Expr} {X:Cx} (ha:jC3 X a tA) (hb:jW3 X (.BoolOp .Or (b::Z2) pos) tB):jW3 X (.BoolOp .Or (a::b::Z2) pos) (or3 tA tB):=
 ⟨qps (ha:=ha.h) (hb:=hb.h)⟩
def LH {tA:TT3} {pos:Pos} {a:Expr} {X:Cx} (ha:jC3 X a tA):jC3 X (.UnaryOp .Not a pos) (VQ tA):=
 ⟨qnm (ha:=ha.h)⟩
def RC {X:Cx} {e:Expr} {t:TE3} (h:jE3 X e t) (he:∀ whole,isTrue e X.env whole=(do let v←whole;standAt e.pos;holding [v] (truthy v)):=by intro _;rfl):jC3 X e (tb3 t):=
 ⟨qmI (h:=h.h) (he:=he)⟩
def M2 {ta:TE3} {pos:Pos} {a:Expr} {X:Cx} {op} (h:jE3 X a ta):jE3 X (.BoolOp op [a] pos) ta:=
 ⟨qmw (h:=h.h)⟩
def SA {Z2:List Expr} {ta:TE3} {tb:TE3} {pos:Pos} {a:Expr} {X:Cx} (ha:jE3 X a ta) (hb:jE3 X (.BoolOp .And (b::Z2) pos) tb):jE3 X (.BoolOp .And (a::b::Z2) pos) (jp ta tb):=
 ⟨qoj (ha:=ha.h) (hb:=hb.h)⟩
def qhG {ta:TE3} {pos:Pos} {a:Expr} {X:Cx} (ha:jE3 X a ta):jE3 X (.UnaryOp .Not a pos) (jZ ta):=
 ⟨qmU (ha:=ha.h)⟩
def qju {tA:TT3} {ta:TE3} {tb:TE3} {pos:Pos} {a:Expr} {b:Expr} {X:Cx} {c:Expr} (hc:jC3 X c tA) (ha:jE3 X a ta) (hb:jE3 X b tb):jE3 X (.IfExp c a b pos) (if3 tA ta tb):=
 ⟨qpP (hc:=hc.h) (ha:=ha.h) (hb:=hb.h)⟩
def qe {X:Cx} :jA3 X [] qg:=
 ⟨qne ⟩
def qa {te:TE3} {t:TA3} {es:List Expr} {X:Cx} (ha:jE3 X e te) (hr:jA3 X es t) (hs:starEach (e::es) X.env=(false,eval e X.env)::starEach es X.env:=by rfl):jA3 X (e::es) (qb te t):=
 ⟨qjm (ha:=ha.h) (hr:=hr.h) (hs:=hs)⟩
def qs {t:TA3} {pos:Pos} {es:List Expr} {X:Cx} {x1} (h:jA3 X es t):jE3 X (.Tuple es x1 pos) (qI t):=
 ⟨qnD (h:=h.h)⟩
def zX {t:TA3} {pos:Pos} {es:List Expr} {X:Cx} (h:jA3 X es t):jE3 X (.List es pos) (zO t):=
 ⟨qnI (h:=h.h)⟩
def zL {t:TA3} {pos:Pos} {es:List Expr} {X:Cx} {x:Str} {p:Pos} {id:String} {r3:List T->Gp->Q3->Prop} {r:List V->Hp->VK->Prop} (hc:EN X (.builtin id) r) (hr:qbf X.K r3 r) (hg:Gl X x) (hm:X.mg x=none) (hv:bootBuiltins x=some (.builtin id)) (ha:jA3 X (e::es) t) (hn:x≠"__name__" := by decide) (hdb:(x==("__debug__" : Str))=false:=by decide)
  (he:starEach (e::es) X.env=(false,eval e X.env)::starEach es X.env:=by rfl) (hpl:(backTo pos (starEach es X.env)).any (·.1)=false:=by rfl):jE3 X (.Call (.Name x p) (e::es) [] pos) (cb3 r3 t):=
 ⟨qgq (hc:=hc) (hr:=hr) (hg:=hg) (hm:=hm) (hv:=hv) (ha:=ha.h) (hn:=hn) (hdb:=hdb) (he:=he) (hpl:=hpl)⟩
def QK {t:TA3} {pos:Pos} {es:List Expr} {X:Cx} {x:Str} {p:Pos} {ty:String} {r3:List T->Gp->Q3->Prop} {r:List V->Hp->VK->Prop} (hc:EN X (.type ty) r) (hr:qbf X.K r3 r) (hg:Gl X x) (hm:X.mg x=none) (hv:bootBuiltins x=some (.type ty)) (ha:jA3 X (e::es) t) (hn:x≠"__name__" := by decide) (hdb:(x==("__debug__" : Str))=false:=by decide)
  (he:starEach (e::es) X.env=(false,eval e X.env)::starEach es X.env:=by rfl) (hpl:(backTo pos (starEach es X.env)).any (·.1)=false:=by rfl):jE3 X (.Call (.Name x p) (e::es) [] pos) (cb3 r3 t):=
 ⟨qbF (hc:=hc) (hr:=hr) (hg:=hg) (hm:=hm) (hv:=hv) (ha:=ha.h) (hn:=hn) (hdb:=hdb) (he:=he) (hpl:=hpl)⟩
def qE {ta:TE3} {tb:TE3} {pos:Pos} {a:Expr} {b:Expr} {X:Cx} (ha:jE3 X a ta) (hb:jE3 X b tb) (hs:TJ b:=by intro _ _;rfl):jE3 X (.Subscript a b pos) (o3 ix3 ta tb):=
 ⟨qph (ha:=ha.h) (hb:=hb.h) (hs:=hs)⟩
def qfU {X:Cx} :jP3 X none np3:=
 ⟨qlO ⟩
def T7 {te:TE3} {e:Expr} {X:Cx} (h:jE3 X e te):jP3 X (some e) (sp3 te):=
 ⟨qlw (h:=h.h)⟩
def KU {te:TE3} {pos:Pos} {e:Expr} {X:Cx} {lo hi:Option Expr} {tl th:TO3} {p2:Pos} (he:jE3 X e te) (hl:jP3 X lo tl) (hu:jP3 X hi th):jE3 X (.Subscript e (.Slice lo hi none p2) pos) (V0 te tl th):=
 ⟨qfs (he:=he.h) (hl:=hl.h) (hu:=hu.h)⟩
def qF {ta:TE3} {tb:TE3} {pos:Pos} {a:Expr} {b:Expr} {X:Cx} (ha:jE3 X a ta) (hb:jE3 X b tb):jE3 X (.BinOp a .Add b pos) (o3 zb ta tb):=
 ⟨qhm (ha:=ha.h) (hb:=hb.h)⟩
def WL {t:TA3} {e:Expr} {X:Cx} {o:Expr} {to:TE3} {apos cpos:Pos} (ho:jE3 X o to) (ha:jA3 X [e] t)
  (hbase:attributeBase o "append" X.env (eval o X.env)=eval o X.env:=by rfl)
  (hfew:((backTo cpos (starEach [e] X.env)).all (λx=>!x.1)&&(backToKw cpos (keywordEach [] X.env)).all (λx=>x.1.isSome)
   && decide (([e]:List Expr).length+([]:List Keyword).length+(if ([]:List Keyword).isEmpty then 0 else 1)<30))=true:=by rfl)
  (hline:(apos.endLine==cpos.line)=true:=by rfl) (hs:starEach [e] X.env=(false,eval e X.env)::starEach [] X.env:=by rfl) (hplain:(backTo cpos (starEach [] X.env)).any (·.1)=false:=by rfl):jE3 X (.Call (.Attribute o "append" apos) [e] [] cpos) (bm3 YZ to t):=
 ⟨qbx (ho:=ho.h) (ha:=ha.h) (hbase:=hbase) (hfew:=hfew) (hline:=hline) (hs:=hs) (hplain:=hplain)⟩
def qaH {te:TE3} {pos:Pos} {e:Expr} {X:Cx} {tn:Str} {ty:String} {p p2:Pos} (he:jE3 X e te) (hg:Gl X "isinstance") (hm:X.mg "isinstance" = none) (hg2:Gl X tn) (hm2:X.mg tn=none) (hv:bootBuiltins tn=some (.type ty)) (hmem:ty∈T4:=by decide) (hn:tn≠"__name__" := by decide) (hdb:(tn==("__debug__" : Str))=false:=by decide)
  (hs:starEach [e,.Name tn p2] X.env=(false,eval e X.env)::starEach [.Name tn p2] X.env:=by rfl) (hs2:starEach [.Name tn p2] X.env=(false,eval (.Name tn p2) X.env)::starEach [] X.env:=by rfl) (hpl:(backTo pos (starEach [.Name tn p2] X.env)).any (·.1)=false:=by rfl):jE3 X (.Call (.Name "isinstance" p) [e,.Name tn p2] [] pos) (V9 (λt=>ZF t ty) te):=
 ⟨qn0 (he:=he.h) (hg:=hg) (hm:=hm) (hg2:=hg2) (hm2:=hm2) (hv:=hv) (hmem:=hmem) (hn:=hn) (hdb:=hdb) (hs:=hs) (hs2:=hs2) (hpl:=hpl)⟩
def zg {X:Cx} :jB3 X [] qz:=
 ⟨qmv ⟩
def qf {Z2:List Stmt} {st:Stmt} {t1:TS3} {t2:TS3} {X:Cx} (h1:jS3 X st t1) (h2:jB3 X Z2 t2):jB3 X (st::Z2) (qw t1 t2):=
 ⟨qk7 (h1:=h1.h) (h2:=h2.h)⟩
def qo {st:Stmt} {t1:TS3} {X:Cx} (h1:jS3 X st t1):jB3 X [st] t1:=
 ⟨qms (h1:=h1.h)⟩
def Z8 {te:TE3} {pos:Pos} {e:Expr} {X:Cx} (he:jE3 X e te) (hs:swapsWith e none pos.line X.env=pure false:=by rfl):jS3 X (.Expr e pos) (zn te):=
 ⟨qjR (he:=he.h) (hs:=hs)⟩
def qx {te:TE3} {pos:Pos} {e:Expr} {X:Cx} (he:jE3 X e te):jS3 X (.Return (some e) pos) (qK te):=
 ⟨qnb (he:=he.h)⟩
def jq {tA:TT3} {t1:TS3} {t2:TS3} {pos:Pos} {X:Cx} {c:Expr} {ba bb:List Stmt} (hc:jC3 X c tA) (ha:jB3 X ba t1) (hb:jB3 X bb t2):jS3 X (.If c ba bb pos) (zf tA t1 t2):=
 ⟨qpR (hc:=hc.h) (ha:=ha.h) (hb:=hb.h)⟩
def CL {X:Cx} {sts:List Stmt}:jB3 X sts V5:=
 ⟨qfI ⟩
def qq {pos:Pos} {X:Cx} {i:Nat} {x:Str} (hN:X.N.Nodup) (hi:X.N[i]?=some x:=by rfl) (hx:Loc X.env.scope x:=by first|exact Or.inl rfl|exact Or.inr rfl) (hf:X.fn x=true\/X.env.scope.names.lookup x=some .local:=by first|exact .inl rfl|exact .inr rfl):jG3 X (.Name x pos) (gn3 i):=
 ⟨qjQ (hN:=hN) (hi:=hi) (hx:=hx) (hf:=hf)⟩
def jC {X:Cx} :jGs3 X [] qW:=
 ⟨qnu ⟩
def qt {es:List Expr} {X:Cx} {tg:TG3} {tgs:SO} (h1:jG3 X e tg) (h2:jGs3 X es tgs) (hs:(assignEach (e::es) X.env).map (·.2)=assign e X.env::(assignEach es X.env).map (·.2):=by rfl):jGs3 X (e::es) (qm tg tgs):=
 ⟨qgW (h1:=h1.h) (h2:=h2.h) (hs:=hs)⟩
def jA {pos:Pos} {es:List Expr} {X:Cx} {k:Nat} {tgs:SO} {n:Nat} (hc:X.calm=true) (h:jGs3 X es tgs) (hn:(assignEach es X.env).length=n:=by rfl) (hst:(assignEach es X.env).findIdx? (·.1)=none:=by rfl):jG3 X (.Tuple es k pos) (qV n tgs):=
 ⟨qn7 (hc:=hc) (h:=h.h) (hn:=hn) (hst:=hst)⟩
def qd5 {pos : Pos} {X : Cx} {o i : Expr} {to ti : TE3} (ho : jE3 X o to) (hi : jE3 X i ti) (ha : ∀ v,assign (.Subscript o i pos) X.env v = (do
      let ov←holding [v] (eval o X.env)
      let iv←holding [v,ov] (eval i X.env)
      standAt pos
      holding [v,ov,iv] (setItem ov iv v)
      release [v,ov,iv] []):=by intro _;rfl):jG3 X (.Subscript o i pos) (jh to ti):=
  ⟨qm3 (ho:=ho.h) (hi:=hi.h) (ha:=ha)⟩
def js {te:TE3} {pos:Pos} {X:Cx} {tg e:Expr} {g:TG3} (he:jE3 X e te) (hg:jG3 X tg g) (hs:swapsWithSole [tg] e pos.line X.env=pure false:=by rfl) (hw:swappedStores [tg] e X.env=pure none:=by rfl)
  (h1:(assignEach [tg] X.env).map (·.2)=[assign tg X.env]:=by rfl):jS3 X (.Assign [tg] e pos) (qD te g):=
 ⟨qnG (he:=he.h) (hg:=hg.h) (hs:=hs) (hw:=hw) (h1:=h1)⟩
def qJ {te:TE3} {pos:Pos} {X:Cx} (i:Nat) {x:Str} {e:Expr} {pos':Pos} (hN:X.N.Nodup) (he:jE3 X e te) (hi:X.N[i]?=some x:=by rfl) (hx:Loc X.env.scope x:=by first|exact Or.inl rfl|exact Or.inr rfl) (hs:swapsWith e (some (.Name x pos')) pos.line X.env=pure false:=by rfl) (hf:X.fn x=true\/X.env.scope.names.lookup x=some .local:=by first|exact .inl rfl|exact .inr rfl):jS3 X (.Assign [.Name x pos'] e pos) (qD te (gn3 i)):=
 ⟨qmK (i:=i) (hN:=hN) (he:=he.h) (hi:=hi) (hx:=hx) (hs:=hs) (hf:=hf)⟩
def XW {pos:Pos} {X:Cx} {i j:Nat} {x y:Str} {a b:Expr} {tt:TA3} {px py pt:Pos} {kt k2 pt2} (hc:X.calm=true) (hN:X.N.Nodup) (hi:X.N[i]?=some x) (hj:X.N[j]?=some y) (hij:i≠j)
  (hx:X.env.scope.names.lookup x=some .local) (hy:X.env.scope.names.lookup y=some .local) (ha:jA3 X [a,b] tt)
  (hw:swappedStores [.Tuple [.Name x px,.Name y py] kt pt] (.Tuple [a,b] k2 pt2) X.env=pure (some [x,y]):=by rfl)
  (hs:swapsWithSole [.Tuple [.Name x px,.Name y py] kt pt] (.Tuple [a,b] k2 pt2) pos.line X.env=pure false:=by rfl):jS3 X (.Assign [.Tuple [.Name x px,.Name y py] kt pt] (.Tuple [a,b] k2 pt2) pos) (ZY i j tt):=
 ⟨qnc (hc:=hc) (hN:=hN) (hi:=hi) (hj:=hj) (hij:=hij) (hx:=hx) (hy:=hy) (ha:=ha.h) (hw:=hw) (hs:=hs)⟩
def RE {te:TE3} {X:Cx} {tg:Expr} {l:Expr} (hl:jE3 X l te):jI3 X tg l (EO te):=
 ⟨qmt (hl:=hl.h)⟩
def zA {t:TA3} {pos:Pos} {a:Expr} {X:Cx} {tg:Expr} {p:Pos} (hg:Gl X "range") (hm:X.mg "range" = none) (ha:jA3 X [a] t) (hs:starEach [a] X.env=[(false,eval a X.env)]:=by rfl) (h1:∀ τ G q,t τ G q->t τ G λxs G=>q xs G/\xs.length=1):jI3 X tg (.Call (.Name "range" p) [a] [] pos) (j4 t):=
 ⟨qch (hg:=hg) (hm:=hm) (ha:=ha.h) (hs:=hs) (h1:=h1)⟩
def XM {pos:Pos} {X:Cx} {tg:Expr} {iter:Expr} {body:List Stmt} {wi:TI3} {g:TG3} {tb:TS3} (hp:PassesOwn (model X.prog X.w) X.A X.env X.xe) (hc:X.calm=true) (hi:jI3 X tg iter wi) (hg:jG3 X tg g) (hb:jB3 X body tb)
  (hs:∀ x,foldedSetIterable iter X.env x=pure x:=by intro _;rfl):jS3 X (.For tg iter body [] pos) (SQ wi g tb):=
 ⟨qnE (hp:=hp) (hc:=hc) (hi:=hi.h) (hg:=hg.h) (hb:=hb.h) (hs:=hs)⟩
def KD {pos:Pos} {X:Cx} {c:Expr} {body:List Stmt} {tc:TT3} {tb:TS3} (hp:PassesOwn (model X.prog X.w) X.A X.env X.xe) (hc:jC3 X c tc) (hb:jB3 X body tb):jS3 X (.While c body [] pos) (XQ tc tb):=
 ⟨qfR (hp:=hp) (hc:=hc.h) (hb:=hb.h)⟩
def qh {t:TA3} {pos:Pos} {es:List Expr} {X:Cx} {k:Nat} {x:Str} {p:Pos} {sp:Sp3} (F:Fn3 X.prog X.w X.K X.mg X.base k x sp) (hr:Room k X.A) (hg:Gl X x) (ha:jA3 X (e::es) t) (hdb:(x==("__debug__" : Str))=false:=by decide)
  (he:starEach (e::es) X.env=(false,eval e X.env)::starEach es X.env:=by rfl) (hpl:(backTo pos (starEach es X.env)).any (·.1)=false:=by rfl):jE3 X (.Call (.Name x p) (e::es) [] pos) (cb3 sp t):=
 ⟨qkD (F:=F) (hr:=hr) (hg:=hg) (ha:=ha.h) (hdb:=hdb) (he:=he) (hpl:=hpl)⟩
def S7 {X:Cx} {elt tg iter:Expr} {ifs:List Expr} {scope:Scope} {pos:Pos} (N':List Str) (m:List (Option Nat)) {wi:TI3} {g:TG3} {tif:TT3} {te:TE3} (hc:X.calm=true) (hi:jI3 X tg iter wi)
  (hg:∀ s H fp,jG3 (ql X N' scope s H fp) tg g) (hf:∀ s H fp,jF3 (ql X N' scope s H fp) ifs tif) (he:∀ s H fp,jE3 (ql X N' scope s H fp) elt te)
  (hsc:MV X.env.scope scope=true) (hcap:Y9 X.N N' scope m=true) (hs:∀ x,foldedSetIterable iter X.env x=pure x:=by intro _;rfl):jE3 X (.ListComp elt [⟨tg,iter,ifs,0⟩] scope pos) (lc3 wi g tif te m):=
 ⟨qpr (N':=N') (m:=m) (hc:=hc) (hi:=hi.h) (hg:=(λs H fp=>(hg s H fp).h)) (hf:=(λs H fp=>(hf s H fp).h)) (he:=(λs H fp=>(he s H fp).h)) (hsc:=hsc) (hcap:=hcap) (hs:=hs)⟩
def JU {X:Cx}:jF3 X [] tt3:=
 ⟨qnW ⟩
def qji {X:Cx} {c:Expr} {t:TT3} (h:jC3 X c t):jF3 X [c] t:=
 ⟨qof (h:=h.h)⟩
def qhW {t:TA3} {pos:Pos} {es:List Expr} {a:Expr} {b:Expr} {X:Cx} {p pt:Pos} {k1:Nat} (hg:Gl X "zip") (hm:X.mg "zip" = none) (ha:jA3 X [a,b] t) (hs:starEach [a,b] X.env=[(false,eval a X.env),(false,eval b X.env)]:=by rfl) (hs2:starEach [b] X.env=[(false,eval b X.env)]:=by rfl):jI3 X (.Tuple es k1 pt) (.Call (.Name "zip" p) [a,b] [] pos) (qbo t):=
 ⟨qnJ (hg:=hg) (hm:=hm) (ha:=ha.h) (hs:=hs) (hs2:=hs2)⟩
def qe7 {t:TA3} {pos:Pos} {es:List Expr} {a:Expr} {X:Cx} {p pt:Pos} {k1:Nat} (hg:Gl X "enumerate") (hm:X.mg "enumerate" = none) (ha:jA3 X [a] t) (hs:starEach [a] X.env=[(false,eval a X.env)]:=by rfl):jI3 X (.Tuple es k1 pt) (.Call (.Name "enumerate" p) [a] [] pos) (KY t):=
 ⟨qkh (hg:=hg) (hm:=hm) (ha:=ha.h) (hs:=hs)⟩
def qal {te:TE3} {pos:Pos} {e:Expr} {X:Cx} (i:Nat) {x:Str} {pos':Pos} (hN:X.N.Nodup) (he:jE3 X e te) (hi:X.N[i]?=some x:=by rfl) (hx:Loc X.env.scope x:=by first|exact Or.inl rfl|exact Or.inr rfl) (hf:X.fn x=true\/X.env.scope.names.lookup x=some .local:=by first|exact .inl rfl|exact .inr rfl):jS3 X (.AugAssign (.Name x pos') .Add e pos) (U6 i (iI (·+·)) te):=
 ⟨qct (i:=i) (hN:=hN) (he:=he.h) (hi:=hi) (hx:=hx) (hf:=hf)⟩
def EY {X:Cx} {py spos:Pos} {elt tg iter:Expr} {ifs:List Expr} {scope:Scope} {pos:Pos} {y:Str} (i:Nat) (N':List Str) (m:List (Option Nat)) {wi:TI3} {g:TG3} {tif:TT3} {te:TE3} (hc:X.calm=true) (hN:X.N.Nodup) (hi:jI3 X tg iter wi)
  (hg:∀ s H fp,jG3 (ql X N' scope s H fp) tg g) (hf:∀ s H fp,jF3 (ql X N' scope s H fp) ifs tif) (he:∀ s H fp,jE3 (ql X N' scope s H fp) elt te)
  (hsc:MV X.env.scope scope=true) (hcap:Y9 X.N N' scope m=true) (hl:X.env.scope.names.lookup y=some .local) (hsw:swapsWith (.ListComp elt [⟨tg,iter,ifs,0⟩] scope pos) (some (.Name y py)) spos.line X.env=pure true) (hiy:X.N[i]?=some y:=by rfl) (hs:∀ x,foldedSetIterable iter X.env x=pure x:=by intro _;rfl):jS3 X (.Assign [.Name y py] (.ListComp elt [⟨tg,iter,ifs,0⟩] scope pos) spos) (qD (lc3 wi g tif te m) (gn3 i)):=
 ⟨qe6 (i:=i) (N':=N') (m:=m) (hc:=hc) (hN:=hN) (hi:=hi.h) (hg:=(λs H fp=>(hg s H fp).h)) (hf:=(λs H fp=>(hf s H fp).h)) (he:=(λs H fp=>(he s H fp).h)) (hsc:=hsc) (hcap:=hcap) (hl:=hl) (hsw:=hsw) (hiy:=hiy) (hs:=hs)⟩
def jpt {X:Cx} {e:Expr} {t:TT3} (h:jW3 X e t):jC3 X e t:=⟨PW.pt h.h⟩
def qH {P:Program} {w:World} {K:Frg} {mg:Str->Option Value} {base:Heap} {x qual:Str} {st:Stmt} {f:Addr} {fd:FuncData} {N ps:List Str} {k:Nat} {sp:Sp3} {t3:TS3} (F:Fun K x qual st f fd) (S:FnScope N ps (qi st)) (bd:zd K fd ps []) (hm:mg x=some (.ref f))
  (body:∀ (cdv:Value) (A:Around) (outer:List Env) (s:Shared) (H:Hp) (E:XK),Room k (A.deeper (envOfC qual (qi st) s.heap.objs.size f cdv)) ->
   jB3 (J0 CX0 P w K mg base N qual (qi st) f cdv A outer s H E).nox (zk st) t3)
  (read:∀ ts G q,sp ts G q->ts.length=ps.length/\t3 { nx:=λ_ G'=>q .non G',rt:=q } (qj N ts) G):Fn3 P w K mg base (k+1) x sp:=
 qjF F S bd hm (λcdv A outer s H E hr=>(body cdv A outer s H E hr).h) read
def qbJ {P:Program} {w:World} {K:Frg} {mg:Str->Option Value} {base:Heap} {x qual:Str} {st:Stmt} {f:Addr} {fd:FuncData} {N ps:List Str} {k:Nat} {sp:Sp3} {t3:TS3} (F:Fun K x qual st f fd) (S:FnScope N ps (qi st))
  (body:∀ (cdv:Value) (A:Around) (outer:List Env) (s:Shared) (H:Hp) (E:XK),Room k (A.deeper (envOfC qual (qi st) s.heap.objs.size f cdv)) ->
   jB3 (J0 CX0 P w K mg base N qual (qi st) f cdv A outer s H E).nox (zk st) t3)
  (read:∀ ts G q,sp ts G q->ts.length=ps.length/\t3 { nx:=λ_ G'=>q .non G',rt:=q } (qj N ts) G):FnOk P w K mg base CX0 (k+1) f fd ps (lSp K sp):=
 qgp F S (λcdv A outer s H E hr=>(body cdv A outer s H E hr).h) read
open PySem.SeqAt
def Ex (G G':Gp):Prop:=∀ b o,G b=some o->G' b=some o
def Ex.refl {G:Gp}:Ex G G:=λ_ _ e=>e
def Ex.trans {G G1 G2:Gp} (a:Ex G G1) (b:Ex G1 G2):Ex G G2:=λx o e=>b x o (a x o e)
def j6 {G:Gp} {p:Addr} {o:O} (hp:G p=none):Ex G (gu G p o):=λb ob e=>by
 rw [zu (by rintro rfl;rw [hp] at e;cases e)];exact e
mutual
inductive Dp (G:Gp):T->PyData->Prop
 |non:Dp G .non .none
 |bl (b:Bool):Dp G (.bl b) (.bool b)
 |int (i:Int):Dp G (.int i) (.int i)
 |str (x:Str):Dp G (.str x) (.str x)
 |tup {xs:List T} {ds:List PyData}:Dps G xs ds->Dp G (.tup xs) (.tuple ds)
 |lst {p:Addr} {xs:List T} {ds:List PyData}:zl G p=some xs->Dps G xs ds->Dp G (.ref p) (.list ds)
inductive Dps (G:Gp):List T->List PyData->Prop
 |nil:Dps G [] []
 |cons {x:T} {d:PyData} {xs:List T} {ds:List PyData}:Dp G x d->Dps G xs ds->Dps G (x::xs) (d::ds)
end
mutual
inductive DV (K:Frg) (H:Hp):V->PyData->Prop
 |non:DV K H .non .none
 |bl (b:Bool):DV K H (.bl b) (.bool b)
 |int (i:Int):DV K H (.int i) (.int i)
 |str (x:Str):DV K H (.str x) (.str x)
 |tup {a:Addr} {vs:List V} {ds:List PyData}:SqT K H a vs->DVs K H vs ds->DV K H (.ref a) (.tuple ds)
 |lst {a:Addr} {vs:List V} {ds:List PyData}:SqL K H a vs->DVs K H vs ds->DV K H (.ref a) (.list ds)
inductive DVs (K:Frg) (H:Hp):List V->List PyData->Prop
 |nil:DVs K H [] []
 |cons {x:V} {d:PyData} {xs:List V} {ds:List PyData}:DV K H x d->DVs K H xs ds->DVs K H (x::xs) (d::ds)
end
mutual
def Dp.dv {K:Frg} {G:Gp} {H:Hp} (hr:HR K G H):∀ {x:T} {d:PyData} {v:V},Dp G x d->Rp K H x v->DV K H v d
 |_,_,_,.non,.non=>.non
 |_,_,_,.bl b,.bl _=>.bl b
 |_,_,_,.int i,.int _=>.int i
 |_,_,_,.str x,.str _=>.str x
 |_,_,_,.tup h,.tup hs rs=>.tup hs (Dps.dv hr h rs)
 |_,_,_,.lst g h,r=>by
  cases r;obtain ⟨_,hs,rs⟩:=jv hr g;exact .lst hs (Dps.dv hr h rs)
def Dps.dv {K:Frg} {G:Gp} {H:Hp} (hr:HR K G H):∀ {x:List T} {d:List PyData} {v:List V},Dps G x d->Rps K H x v->DVs K H v d
 |_,_,_,.nil,.nil=>.nil
 |_,_,_,.cons a b,.cons c d=>.cons (Dp.dv hr a c) (Dps.dv hr b d)
end
mutual
def jB:PyData->PyData->Option Bool
 |.none,.none=>some true
 |.bool a,.bool b=>some (a==b)
 |.int a,.int b=>some (a==b)
 |.str a,.str b=>some (a==b)
 |.list xs,.list ys=>UC xs ys
 |.tuple xs,.tuple ys=>UC xs ys
 |.int _,.none=>some false
 |.none,.int _=>some false
 |_,_=>none
def UC:List PyData->List PyData->Option Bool
 |[],[]=>some true
 |x::xs,y::ys=>match jB x y,UC xs ys with|some a,some b=>some (a&&b)|_,_=>none
 |_,_=>some false
end
mutual
def dpt:PyData->Nat
 |.list xs=>qj0 xs+1
 |.tuple xs=>qj0 xs+1
 |_=>0
def qj0:List PyData->Nat
 |[]=>0
 |x::xs=>max (dpt x) (qj0 xs)
end
section
variable {X:Cx} {pins:List (Addr×Obj)} {σ:L2.St} {H:Hp} {s:Shared}
mutual
def DV.inj (I:Inv X pins σ H s):∀ {v:V} {d e:PyData},DV X.K H v d->DV X.K H v e->d=e
 |_,_,_,.non,.non=>rfl
 |_,_,_,.bl _,.bl _=>rfl
 |_,_,_,.int _,.int _=>rfl
 |_,_,_,.str _,.str _=>rfl
 |_,_,_,.tup h hs,.tup k ks=>by
  have:=I.tuple_inj h k;subst this;rw [DVs.inj I hs ks]
 |_,_,_,.lst h hs,.lst k ks=>by
  have:=I.list_inj h k;subst this;rw [DVs.inj I hs ks]
 |_,_,_,.tup h hs,.lst k ks=>by
  obtain ⟨i1,_,p1,_⟩:=I.tuple h;obtain ⟨i2,_,p2,_⟩:=I.list k;exact absurd rfl (ne_of_list_tuple p2.isList (show s.heap.IsTuple _ i1.toArray from p1))
 |_,_,_,.lst k ks,.tup h hs=>by
  obtain ⟨i1,_,p1,_⟩:=I.tuple h;obtain ⟨i2,_,p2,_⟩:=I.list k;exact absurd rfl (ne_of_list_tuple p2.isList (show s.heap.IsTuple _ i1.toArray from p1))
def DVs.inj (I:Inv X pins σ H s):∀ {v:List V} {d e:List PyData},DVs X.K H v d->DVs X.K H v e->d=e
 |_,_,_,.nil,.nil=>rfl
 |_,_,_,.cons a b,.cons c d=>by rw [DV.inj I a c,DVs.inj I b d]
end
mutual
def C8:∀ {d:PyData} {b:Bool},jB d d=some b->b=true
 |.none,_,h=>by simp [jB] at h;exact h
 |.bool _,_,h=>by simp [jB] at h;exact h
 |.int _,_,h=>by simp [jB] at h;exact h
 |.str _,_,h=>by simp [jB] at h;exact h
 |.list xs,_,h=>by simp only [jB] at h;exact UF h
 |.tuple xs,_,h=>by simp only [jB] at h;exact UF h
 |.dict _,_,h=>by simp [jB] at h
def UF:∀ {d:List PyData} {b:Bool},UC d d=some b->b=true
 |[],_,h=>by simp [UC] at h;exact h
 |x::xs,b,h=>by
  simp only [UC] at h;split at h
  ·rename_i a c e1 e2;rw [C8 e1,UF e2] at h;simpa using h.symm
  ·cases h
end
def YF:∀ {xs ys:List PyData} {b:Bool},UC xs ys=some b->xs.length=ys.length->∃ e:Nat->Bool,(∀ (j:Nat) x y,xs[j]?=some x->ys[j]?=some y->jB x y=some (e j))/\b=(List.range xs.length).all e
 |[],[],b,h,_=>by simp [UC] at h;exact ⟨λ_=>true,by simp,by simp [h]⟩
 |x::xs,y::ys,b,h,hl=>by
  simp only [UC] at h;split at h
  ·rename_i a c e1 e2;obtain ⟨e,h1,h2⟩:=YF e2 (by simpa using hl);refine ⟨λj=>match j with|0=>a|j+1=>e j,λj u v hu hv=>?_,?_⟩
   ·cases j with
    |zero=>simp at hu hv;subst hu;subst hv;exact e1
    |succ j=>exact h1 j u v (by simpa using hu) (by simpa using hv)
   ·rw [length_cons,List.range_succ_eq_map,List.all_cons,List.all_map];cases h;rw [h2];rfl
  ·cases h
 |[],_::_,_,_,hl=>by simp at hl
 |_::_,[],_,_,hl=>by simp at hl
def YB:∀ {xs ys:List PyData} {b:Bool},UC xs ys=some b->xs.length≠ys.length->b=false/\∃ e:Nat->Bool,∀ (j:Nat) x y,xs[j]?=some x->ys[j]?=some y->jB x y=some (e j)
 |[],[],_,_,hl=>by simp at hl
 |[],_::_,b,h,_=>by simp [UC] at h;exact ⟨h,λ_=>true,by simp⟩
 |_::_,[],b,h,_=>by simp [UC] at h;exact ⟨h,λ_=>true,by simp⟩
 |x::xs,y::ys,b,h,hl=>by
  simp only [UC] at h;split at h
  ·rename_i a c e1 e2;obtain ⟨h0,e,h1⟩:=YB e2 (by simpa using hl);subst h0;refine ⟨by simpa using h.symm,λj=>match j with|0=>a|j+1=>e j,λj u v hu hv=>?_⟩;cases j with
   |zero=>simp at hu hv;subst hu;subst hv;exact e1
   |succ j=>exact h1 j u v (by simpa using hu) (by simpa using hv)
  ·cases h
def VS:∀ {xs:List PyData} {x:PyData},x∈xs->dpt x<=qj0 xs
 |[],_,h=>by simp at h
 |y::ys,x,h=>by
  simp only [qj0];rcases mem_cons.mp h with e|e
  ·subst e;omega
  ·have:=VS e;omega
def DVs.get {K:Frg} {H:Hp}:∀ {xs:List V} {ds:List PyData} {i:Nat} {x:V},DVs K H xs ds->xs[i]?=some x->∃ d,ds[i]?=some d/\DV K H x d
 |_,_,_,_,.nil,e=>by simp at e
 |_,_,0,_,.cons r _,e=>by simp at e;subst e;exact ⟨_,rfl,r⟩
 |_,_,i+1,x,.cons _ t,e=>by
  obtain ⟨u,h1,h2⟩:=DVs.get (i:=i) (x:=x) t (by simpa using e);exact ⟨u,by simpa using h1,h2⟩
def DVs.length {K:Frg} {H:Hp}:∀ {xs:List V} {ds:List PyData},DVs K H xs ds->xs.length=ds.length
 |_,_,.nil=>rfl
 |_,_,.cons _ b=>by simp [DVs.length b]
def J7 {vs:List V} {us:List Value} (r:zS vs us) {j:Nat} (h:j<us.toArray.size):∃ v,vs[j]?=some v/\ji v us.toArray[j]:=by
 have hj:j<vs.length:=by rw [r.length];simpa using h
 obtain ⟨u,hu,ru⟩:=r.get (getElem?_eq_getElem hj);refine ⟨vs[j],getElem?_eq_getElem hj,?_⟩;have hj2:j<us.length:=by simpa using h
 rw [getElem?_eq_getElem hj2] at hu;have:us[j]=u:=Option.some.inj hu;simpa [this] using ru
def S6 (I:Inv X pins σ H s):∀ (n:Nat) {v u:V} {d e:PyData} {b:Bool} {x y:Value} {A:Around},DV X.K H v d->DV X.K H u e->jB d e=some b->dpt d<=n->A.units+n<cLine->ji v x->ji u y ->
  RcAt A s x y b/\EqAt A s x y b:=by
 intro n;induction n with
 |zero=>
  intro v u d e b x y A hv hu h hd hn rx ry;cases hv with
  |non=>
   cases hu with
   |non=>simp [jB] at h;subst h;cases (show x=Value.none from rx);cases (show y=Value.none from ry);exact ⟨RcAt.none_none,EqAt.same _⟩
   |int c=>simp [jB] at h;subst h;cases (show x=Value.none from rx);obtain ⟨t',rfl⟩:=(show ∃ t,y=Value.int _ t from ry);exact ⟨RcAt.none_int _ _,EqAt.none_int _ _⟩
   |bl _=>simp [jB] at h
   |str _=>simp [jB] at h
   |tup _ _=>simp [jB] at h
   |lst _ _=>simp [jB] at h
  |bl a=>cases hu<;>simp [jB] at h;subst h;cases (show x=Value.bool _ from rx);cases (show y=Value.bool _ from ry);exact ⟨RcAt.bool_bool _ _,EqAt.bool_bool _ _⟩
  |int a=>
   cases hu with
   |int c=>simp [jB] at h;subst h;obtain ⟨t,rfl⟩:=(show ∃ t,x=Value.int _ t from rx);obtain ⟨t',rfl⟩:=(show ∃ t,y=Value.int _ t from ry);exact ⟨RcAt.int_int _ _ _ _,EqAt.int_int _ _ _ _⟩
   |non=>simp [jB] at h;subst h;obtain ⟨t,rfl⟩:=(show ∃ t,x=Value.int _ t from rx);cases (show y=Value.none from ry);exact ⟨RcAt.int_none _ _,EqAt.int_none _ _⟩
   |bl _=>simp [jB] at h
   |str _=>simp [jB] at h
   |tup _ _=>simp [jB] at h
   |lst _ _=>simp [jB] at h
  |str a=>cases hu<;>simp [jB] at h;subst h;obtain ⟨t,rfl⟩:=(show ∃ t,x=Value.str _ t from rx);obtain ⟨t',rfl⟩:=(show ∃ t,y=Value.str _ t from ry);exact ⟨RcAt.str_str _ _ _ _,EqAt.str_str _ _ _ _⟩
  |tup=>simp [dpt] at hd
  |lst=>simp [dpt] at hd
 |succ n ih=>
  intro v u d e b x y A hv hu h hd hn rx ry;have fin:∀ {l l':Addr} {k:Bool},x=.ref l->y=.ref l'->v=.ref l->u=.ref l'->b=k->RcAt A s x y k->RcAt A s x y b/\EqAt A s x y b:=by
   rintro l l' k rfl rfl rfl rfl rfl rc;refine ⟨rc,?_⟩;by_cases hll:l=l'
   ·subst hll;have:=DV.inj I hv hu;subst this;rw [C8 h];exact EqAt.same _
   ·exact EqAt.of_refs hll rc
  cases hv with
  |non=>
   cases hu with
   |non=>simp [jB] at h;subst h;cases (show x=Value.none from rx);cases (show y=Value.none from ry);exact ⟨RcAt.none_none,EqAt.same _⟩
   |int c=>simp [jB] at h;subst h;cases (show x=Value.none from rx);obtain ⟨t',rfl⟩:=(show ∃ t,y=Value.int _ t from ry);exact ⟨RcAt.none_int _ _,EqAt.none_int _ _⟩
   |bl _=>simp [jB] at h
   |str _=>simp [jB] at h
   |tup _ _=>simp [jB] at h
   |lst _ _=>simp [jB] at h
  |bl a=>cases hu<;>simp [jB] at h;subst h;cases (show x=Value.bool _ from rx);cases (show y=Value.bool _ from ry);exact ⟨RcAt.bool_bool _ _,EqAt.bool_bool _ _⟩
  |int a=>
   cases hu with
   |int c=>simp [jB] at h;subst h;obtain ⟨t,rfl⟩:=(show ∃ t,x=Value.int _ t from rx);obtain ⟨t',rfl⟩:=(show ∃ t,y=Value.int _ t from ry);exact ⟨RcAt.int_int _ _ _ _,EqAt.int_int _ _ _ _⟩
   |non=>simp [jB] at h;subst h;obtain ⟨t,rfl⟩:=(show ∃ t,x=Value.int _ t from rx);cases (show y=Value.none from ry);exact ⟨RcAt.int_none _ _,EqAt.int_none _ _⟩
   |bl _=>simp [jB] at h
   |str _=>simp [jB] at h
   |tup _ _=>simp [jB] at h
   |lst _ _=>simp [jB] at h
  |str a=>cases hu<;>simp [jB] at h;subst h;obtain ⟨t,rfl⟩:=(show ∃ t,x=Value.str _ t from rx);obtain ⟨t',rfl⟩:=(show ∃ t,y=Value.str _ t from ry);exact ⟨RcAt.str_str _ _ _ _,EqAt.str_str _ _ _ _⟩
  |tup hq hs=>
   cases hu with
   |tup kq ks=>
    rename_i a1 vs1 ds1 a2 vs2 ds2;simp only [jB] at h;obtain ⟨i1,r1,p1,z1⟩:=I.tuple hq;obtain ⟨i2,r2,p2,z2⟩:=I.tuple kq;have l1:=hs.length;have l2:=ks.length;have m1:=r1.length;have m2:=r2.length;have el:∀ (e:Nat->Bool),(∀ (j:Nat) x y,ds1[j]?=some x->ds2[j]?=some y->jB x y=some (e j))->∀ j (h1:j<i1.toArray.size) (h2:j<i2.toArray.size),EqAt A.in1 s i1.toArray[j] i2.toArray[j] (e j):=λe he j h1 h2=>by
     obtain ⟨w1,g1,q1⟩:=J7 r1 h1;obtain ⟨w2,g2,q2⟩:=J7 r2 h2;obtain ⟨d1,f1,dv1⟩:=hs.get g1;obtain ⟨d2,f2,dv2⟩:=ks.get g2;have:=VS (mem_of_getElem? f1);exact (ih dv1 dv2 (he j d1 d2 f1 f2) (by simp only [dpt] at hd;omega) (show A.units+1+n<cLine by omega) q1 q2).2
    cases (show x=Value.ref a1 from rx);cases (show y=Value.ref a2 from ry);by_cases hl:ds1.length=ds2.length
    ·obtain ⟨e,he,hb⟩:=YF h hl;refine fin rfl rfl rfl rfl (k:=(List.range (min i1.toArray.size i2.toArray.size)).all e&&i1.toArray.size==i2.toArray.size) ?_ (RcAt.tuples (show s.heap.IsTuple a1 i1.toArray from p1) (show s.heap.IsTuple a2 i2.toArray from p2) (by omega) (el e he));have e1:i1.toArray.size=ds1.length:=by rw [size_toArray];omega
     have e2:i2.toArray.size=ds1.length:=by rw [size_toArray];omega
     rw [e1,e2,hb];simp
    ·obtain ⟨hb,e,he⟩:=YB h hl;refine fin rfl rfl rfl rfl (k:=(List.range (min i1.toArray.size i2.toArray.size)).all e&&i1.toArray.size==i2.toArray.size) ?_ (RcAt.tuples (show s.heap.IsTuple a1 i1.toArray from p1) (show s.heap.IsTuple a2 i2.toArray from p2) (by omega) (el e he));have e1:i1.toArray.size≠i2.toArray.size:=by rw [size_toArray,size_toArray];omega
     rw [hb];simp [e1];intro;omega
   |_=>simp [jB] at h
  |lst hq hs=>
   cases hu with
   |lst kq ks=>
    rename_i a1 vs1 ds1 a2 vs2 ds2;simp only [jB] at h;obtain ⟨i1,r1,p1,z1⟩:=I.list hq;obtain ⟨i2,r2,p2,z2⟩:=I.list kq;have l1:=hs.length;have l2:=ks.length;have m1:=r1.length;have m2:=r2.length;have el:∀ (e:Nat->Bool),(∀ (j:Nat) x y,ds1[j]?=some x->ds2[j]?=some y->jB x y=some (e j))->∀ j (h1:j<i1.toArray.size) (h2:j<i2.toArray.size),EqAt A.in1 s i1.toArray[j] i2.toArray[j] (e j):=λe he j h1 h2=>by
     obtain ⟨w1,g1,q1⟩:=J7 r1 h1;obtain ⟨w2,g2,q2⟩:=J7 r2 h2;obtain ⟨d1,f1,dv1⟩:=hs.get g1;obtain ⟨d2,f2,dv2⟩:=ks.get g2;have:=VS (mem_of_getElem? f1);exact (ih dv1 dv2 (he j d1 d2 f1 f2) (by simp only [dpt] at hd;omega) (show A.units+1+n<cLine by omega) q1 q2).2
    cases (show x=Value.ref a1 from rx);cases (show y=Value.ref a2 from ry);by_cases hl:ds1.length=ds2.length
    ·obtain ⟨e,he,hb⟩:=YF h hl;refine fin rfl rfl rfl rfl (k:=(List.range i1.toArray.size).all e) ?_ (RcAt.lists p1.isList p2.isList (by rw [size_toArray,size_toArray];omega) (by omega) (el e he));have e1:i1.toArray.size=ds1.length:=by rw [size_toArray];omega
     rw [e1,hb]
    ·obtain ⟨hb,e,he⟩:=YB h hl;refine fin rfl rfl rfl rfl (k:=false) hb (RcAt.lists_lengths p1.isList p2.isList (by rw [size_toArray,size_toArray];simp;omega) (by omega))
   |_=>simp [jB] at h
def qeM (I:Inv X pins σ H s) {n:Nat} {v u:V} {d e:PyData} {b:Bool} {x y:Value} {A:Around} (hv:DV X.K H v d) (hu:DV X.K H u e) (h:jB d e=some b) (hd:dpt d<=n+1) (hn:A.units+(n+1)<cLine) (rx:ji v x) (ry:ji u y) (hs:dpt d≠0):RcNeAt A s x y (!b):=by
 cases hv with
 |tup hq hs'=>
  cases hu with
  |tup kq ks=>
   rename_i a1 vs1 ds1 a2 vs2 ds2;simp only [jB] at h;obtain ⟨i1,r1,p1,z1⟩:=I.tuple hq;obtain ⟨i2,r2,p2,z2⟩:=I.tuple kq;have l1:=hs'.length;have l2:=ks.length;have m1:=r1.length;have m2:=r2.length;have el:∀ (e:Nat->Bool),(∀ (j:Nat) x y,ds1[j]?=some x->ds2[j]?=some y->jB x y=some (e j))->∀ j (h1:j<i1.toArray.size) (h2:j<i2.toArray.size),EqAt A.in1 s i1.toArray[j] i2.toArray[j] (e j):=λe he j h1 h2=>by
    obtain ⟨w1,g1,q1⟩:=J7 r1 h1;obtain ⟨w2,g2,q2⟩:=J7 r2 h2;obtain ⟨d1,f1,dv1⟩:=hs'.get g1;obtain ⟨d2,f2,dv2⟩:=ks.get g2;have:=VS (mem_of_getElem? f1);exact (S6 I n dv1 dv2 (he j d1 d2 f1 f2) (by simp only [dpt] at hd;omega) (show A.units+1+n<cLine by omega) q1 q2).2
   cases (show x=Value.ref a1 from rx);cases (show y=Value.ref a2 from ry);by_cases hl:ds1.length=ds2.length
   ·obtain ⟨e,he,hb⟩:=YF h hl;have:=RcNeAt.tuples (show s.heap.IsTuple a1 i1.toArray from p1) (show s.heap.IsTuple a2 i2.toArray from p2) (A:=A) (by omega) (el e he);have e1:i1.toArray.size=ds1.length:=by rw [size_toArray];omega
    have e2:i2.toArray.size=ds1.length:=by rw [size_toArray];omega
    rw [e1,e2] at this;rw [hb];simpa using this
   ·obtain ⟨hb,e,he⟩:=YB h hl;have:=RcNeAt.tuples (show s.heap.IsTuple a1 i1.toArray from p1) (show s.heap.IsTuple a2 i2.toArray from p2) (A:=A) (by omega) (el e he);have e1:(i1.toArray.size==i2.toArray.size)=false:=by rw [size_toArray,size_toArray];simp;omega
    rw [e1] at this;rw [hb];simpa using this
  |_=>simp [jB] at h
 |lst hq hs'=>
  cases hu with
  |lst kq ks=>
   rename_i a1 vs1 ds1 a2 vs2 ds2;simp only [jB] at h;obtain ⟨i1,r1,p1,z1⟩:=I.list hq;obtain ⟨i2,r2,p2,z2⟩:=I.list kq;have l1:=hs'.length;have l2:=ks.length;have m1:=r1.length;have m2:=r2.length;have el:∀ (e:Nat->Bool),(∀ (j:Nat) x y,ds1[j]?=some x->ds2[j]?=some y->jB x y=some (e j))->∀ j (h1:j<i1.toArray.size) (h2:j<i2.toArray.size),EqAt A.in1 s i1.toArray[j] i2.toArray[j] (e j):=λe he j h1 h2=>by
    obtain ⟨w1,g1,q1⟩:=J7 r1 h1;obtain ⟨w2,g2,q2⟩:=J7 r2 h2;obtain ⟨d1,f1,dv1⟩:=hs'.get g1;obtain ⟨d2,f2,dv2⟩:=ks.get g2;have:=VS (mem_of_getElem? f1);exact (S6 I n dv1 dv2 (he j d1 d2 f1 f2) (by simp only [dpt] at hd;omega) (show A.units+1+n<cLine by omega) q1 q2).2
   cases (show x=Value.ref a1 from rx);cases (show y=Value.ref a2 from ry);by_cases hl:ds1.length=ds2.length
   ·obtain ⟨e,he,hb⟩:=YF h hl;have:=RcNeAt.lists p1.isList p2.isList (A:=A) (by rw [size_toArray,size_toArray];omega) (by omega) (el e he);have e1:i1.toArray.size=ds1.length:=by rw [size_toArray];omega
    rw [e1] at this;rw [hb];exact this
   ·obtain ⟨hb,e,he⟩:=YB h hl;rw [hb];exact RcNeAt.lists_lengths p1.isList p2.isList (by rw [size_toArray,size_toArray];simp;omega) (by omega)
  |_=>simp [jB] at h
 |_=>simp [dpt] at hs
def qgD (K:Frg) (neg:Bool):R2:=λx y H Q=>∃ d e b,DV K H x d/\DV K H y e/\jB d e=some b/\dpt d<=40/\dpt d≠0/\Q (.bl (if neg then !b else b)) H
def qlU (hu:X.A.units+64<cLine):OpR X (compareOp .Eq) (qgD X.K false):=by
 intro pins s σ H x y v u Q I rx ry h;obtain ⟨d,e,b,hx,hy,hb,hd,_,q⟩:=h;exact (S6 I 40 hx hy hb hd (by omega) rx ry).1 X.prog X.w X.xe _ ⟨.bl b,H,I,rfl,q⟩
def qlg (hu:X.A.units+64<cLine):OpR X (compareOp .NotEq) (qgD X.K true):=by
 intro pins s σ H x y v u Q I rx ry h;obtain ⟨d,e,b,hx,hy,hb,hd,hs,q⟩:=h;exact qeM I (n:=40) hx hy hb (by omega) (by omega) rx ry hs X.prog X.w X.xe _ ⟨.bl (!b),H,I,rfl,q⟩
end
def zm (neg:Bool):R3:=λx y G q=>match zc x y with
 |some k=>q (.bl (if neg then !k else k)) G
 |none=>∃ d e b,Dp G x d/\Dp G y e/\jB d e=some b/\dpt d<=40/\dpt d≠0/\q (.bl (if neg then !b else b)) G
def zi {K:Frg}:W5 K (zm false) (λx y H Q=>rEq x y H Q\/qgD K false x y H Q):=λx y v u G H q Q hr rx ry h af=>by
 unfold zm at h;split at h
 ·rename_i k e;obtain ⟨h1,h2⟩:=LC rx ry e;refine .inl ⟨h1,?_⟩;rw [h2];exact af _ G h _ H (.bl _) hr Kp.refl
 ·obtain ⟨d,e,b,h1,h2,h3,h4,h5,h6⟩:=h;exact .inr ⟨d,e,b,h1.dv hr rx,h2.dv hr ry,h3,h4,h5,af _ G h6 _ H (.bl _) hr Kp.refl⟩
def WC {K:Frg}:W5 K (zm true) (λx y H Q=>rNe x y H Q\/qgD K true x y H Q):=λx y v u G H q Q hr rx ry h af=>by
 unfold zm at h;split at h
 ·rename_i k e;obtain ⟨h1,h2⟩:=LC rx ry e;refine .inl ⟨h1,?_⟩;rw [h2];exact af _ G h _ H (.bl _) hr Kp.refl
 ·obtain ⟨d,e,b,h1,h2,h3,h4,h5,h6⟩:=h;exact .inr ⟨d,e,b,h1.dv hr rx,h2.dv hr ry,h3,h4,h5,af _ G h6 _ H (.bl _) hr Kp.refl⟩
def zZ {X:Cx} (hu:X.A.units+64<cLine):OpR X (compareOp .Eq) (λx y H Q=>rEq x y H Q\/qgD X.K false x y H Q):=qnL.or (qlU hu)
def C4 {X:Cx} (hu:X.A.units+64<cLine):OpR X (compareOp .NotEq) (λx y H Q=>rNe x y H Q\/qgD X.K true x y H Q):=qni.or (qlg hu)
end L3
namespace L3
open PySem PySem.Spec PyProof.Rows L2
section
variable {X:Cx} {pins:List (Addr×Obj)} {σ:L2.St} {H:Hp} {s:Shared}
end
section
variable {X:Cx}
end
section
variable {prog:Program} {w:World} {A:Around} {R:Result->Shared->Prop} {s:Shared}
def CQ (elt t1 i1 t2 i2:Expr) (f1 f2:List Expr) (scope:Scope) (pos:Pos) (it acc:Value) (env:Env) :
  compTurn (.ListComp elt [⟨t1,i1,f1,0⟩,⟨t2,i2,f2,0⟩] scope pos) 0 it acc env=(do
   standAt i1.pos
   match←pyNext it with
   |none=>pure (.done .next)
   |some v=>
    letOwnedTupleGo t1 it v
    assign t1 env v
    let mut ok:=true
    for c in f1 do
     if ok then ok←isTrue c env (eval c env)
    if ok then
     let x←eval i2 env
     standAt i2.pos
     let x←foldedSetIterable i2 env x
     let _←runOwn (.compStart (.ListComp elt [⟨t1,i1,f1,0⟩,⟨t2,i2,f2,0⟩] scope pos) 1 (← holding [x] (pyIter x)) acc env) env
    again (.compLoop (.ListComp elt [⟨t1,i1,f1,0⟩,⟨t2,i2,f2,0⟩] scope pos) 0 it acc env)):=by rfl
def CU (elt t1 i1 t2 i2:Expr) (f1 f2:List Expr) (scope:Scope) (pos:Pos) (it acc:Value) (env:Env) :
  compTurn (.ListComp elt [⟨t1,i1,f1,0⟩,⟨t2,i2,f2,0⟩] scope pos) 1 it acc env=(do
   standAt i2.pos
   match←pyNext it with
   |none=>pure (.done .next)
   |some v=>
    letOwnedTupleGo t2 it v
    assign t2 env v
    let mut ok:=true
    for c in f2 do
     if ok then ok←isTrue c env (eval c env)
    if ok then
     (do let _←call (.builtin "list.append") [acc,← eval elt env])
    again (.compLoop (.ListComp elt [⟨t1,i1,f1,0⟩,⟨t2,i2,f2,0⟩] scope pos) 1 it acc env)):=by rfl
def JZ {elt t1 i1 t2 i2:Expr} {f1 f2:List Expr} {scope:Scope} {pos:Pos} {it acc:Value} {env:Env}
  (h0:codeAny (model prog w) A (.compLoop (.ListComp elt [⟨t1,i1,f1,0⟩,⟨t2,i2,f2,0⟩] scope pos) 1 it acc env) R s)
  (h:wpAny (model prog w) A (pyIter it) (λit' s'=>codeAny (model prog w) A (.compLoop (.ListComp elt [⟨t1,i1,f1,0⟩,⟨t2,i2,f2,0⟩] scope pos) 1 it' acc env) R s')
   (notedBy (model prog w) A env λx s'=>R (.error x) s') s) :
  codeAny (model prog w) A (.compStart (.ListComp elt [⟨t1,i1,f1,0⟩,⟨t2,i2,f2,0⟩] scope pos) 1 it acc env) R s:=by
 refine codeAny_of_tree ?_;show wpAny _ _ ((compStart (.ListComp elt [⟨t1,i1,f1,0⟩,⟨t2,i2,f2,0⟩] scope pos) 1 it acc env).onRaise (λx=>do noteFrame x env;standAt theWindowsPlace)) _ _ s;refine wpAny_notedAt ?_;unfold compStart;show wpAny _ _ (ask >>= _) _ _ s;refine wpAny_bind (wpAny_askSetting (wpAny_ite ?_));split
 ·first
   |exact wpAny_bind (wpAny_pure (wpAny_pure (And.intro rfl h0)))
   |exact wpAny_pure (And.intro rfl h0)
 ·first
   |exact wpAny_bind (wpAny_rule (wpAny_bind (wpAny_standAt (wpAny_bind (wpAny_mono h (λit' s' h'=>wpAny_pure (And.intro rfl h')) λ_ _ x=>x)))))
   | (refine wpAny_bind (wpAny_rule ?_);show wpAny _ _ (standAt i2.pos >>= _) _ _ s;exact wpAny_bind (wpAny_standAt (wpAny_bind (wpAny_mono h (λit' s' h'=>wpAny_pure (And.intro rfl h')) λ_ _ x=>x))))
end
def tIn (wi:TI) (g:TG) (tif:TT) (te:TE) (D:Addr) (N:L2.St->Hp->Prop) (σ:L2.St) (H:Hp):Prop:=wi σ H λJ H1=>
 ∃ W:Nat->Nat->L2.St->Hp->Prop,(∃ n,W 0 n σ H1)/\∀ i n σ H,W i n σ H ->
  (J.stop i H/\N σ H)\/(J.go i H/\∀ x H',J.yld i H x H'->g x σ H' λσ2 H2=>tif σ2 H2 λk H3=>
   if k=true then te σ2 H3 λy H4=>∃ zs,H4 D=some (.lst zs)/\zs.length<sizeLine/\∃ n',n'<n/\W (i+1) n' σ2 (upd H4 D (.lst (zs++[y])))
   else ∃ n',n'<n/\W (i+1) n' σ2 H3)
section
variable {X:Cx}
def qhV {elt t1 i1 t2 i2:Expr} {f1 f2:List Expr} {scope:Scope} {pos:Pos} {wi:TI} {g:TG} {tif:TT} {te:TE} {D:Addr} {N:L2.St->Hp->Prop} (hc:X.calm=true) (hx:∀ v s,¬ X.xe v s) (hi:PI X t2 i2 wi) (hg:PG X t2 g) (hf:PF X f2 tif) (he:PE X elt te)
    (hs:∀ x,foldedSetIterable i2 X.env x=pure x) {pins:List (Addr×Obj)} {s:Shared} {σ:L2.St} {H:Hp} {E:Value->Shared->Prop} {α:Type} {kk:Sem α} {Q:α->Shared->Prop} (I:Inv X pins σ H s) (h:tIn wi g tif te D N σ H) (hk:∀ s' σ' H',Inv X pins σ' H' s'->N σ' H'->wpAny (model X.prog X.w) X.A kk Q E s') :
    wpAny (model X.prog X.w) X.A (do
            let x←eval i2 X.env
            standAt i2.pos
            let x←foldedSetIterable i2 X.env x
            let _←runOwn (.compStart (.ListComp elt [⟨t1,i1,f1,0⟩,⟨t2,i2,f2,0⟩] scope pos) 1 (← holding [x] (pyIter x)) (.ref D) X.env) X.env
            kk) Q E s:=by
  refine wpAny_bind (wpAny_mono (hi pins s σ H _ I h) (λv s1 h1=>?_) λ_ _ z=>(hx _ _ z).elim);refine wpAny_bind (wpAny_standAt (wpAny_bind (wpAny_of_eq (hs v) ?_)));refine wpAny_bind (wpAny_holding (wpAny_mono h1 (λitv s2 h2=>?_) λ_ _ z=>(hx _ _ z).elim));obtain ⟨it,fp,tn,J,H2,rfl,I2,T,st2,f2',W,⟨n0,w0⟩,turn⟩:=h2;have stat:∀ {H':Hp},(∀ b∈fp,H' b=none)->∀ b∈fp,RO X pins H' b:=λhn b hb=>⟨hn b hb,(f2' b hb).2⟩
  refine wpAny_bind (wpAny_runOwn ?_);show codeAny (model X.prog X.w) X.A (.compStart (.ListComp elt [⟨t1,i1,f1,0⟩,⟨t2,i2,f2,0⟩] scope pos) 1 (.ref it) (.ref D) X.env) _ s2;have loop:codeAny (model X.prog X.w) X.A (.compLoop (.ListComp elt [⟨t1,i1,f1,0⟩,⟨t2,i2,f2,0⟩] scope pos) 1 (.ref it) (.ref D) X.env) (λr s'=>match r with
      |.ok f=>wpAny (model X.prog X.w) X.A kk Q E s'
      |.error e=>cameBackBy (model X.prog X.w) X.A X.env E e s') s2:=by
    refine codeAny_loop rfl (λn s'=>∃ i σ' H',Inv X pins σ' H' s'/\tn i s'.heap/\(∀ b∈fp,H' b=none)/\W i n σ' H') (λn s' hI=>?_) n0 ⟨0,σ,H2,I2,st2,λb hb=>(f2' b hb).1,w0⟩;show wpAny _ X.A ((compTurn (.ListComp elt [⟨t1,i1,f1,0⟩,⟨t2,i2,f2,0⟩] scope pos) 1 (.ref it) (.ref D) X.env).onRaise (λx=>do noteFrame x X.env;theTreesLotGoes x)) _ _ s';refine wpAny_noted ?_;rw [CU];refine wpAny_bind (wpAny_standAt (wpAny_bind ?_));obtain ⟨i,σ5,H5,I5,st5,fr5,w5⟩:=hI;rcases turn i n σ5 H5 w5 with ⟨stop,q⟩|⟨go,step⟩
    · refine thn (T.done X rfl rfl rfl hc i pins s' σ5 H5 _ I5 (stat fr5) st5 stop) λr s6 ⟨hr,I6⟩=>?_;subst hr;exact wpAny_pure (hk _ σ5 H5 I6 q)
    · refine thn (T.item X rfl rfl rfl hc i pins s' σ5 H5 _ I5 (stat fr5) st5 go) λr s6 ⟨u,hr,h6⟩=>?_;subst hr;refine wpAny_bind (thn h6 λ_ s7 ⟨x,H7,I7,r7,y7,st7,fr7⟩=>?_);have I7':=I7.pinned (stat fr7) (T.obj _ _ st7);have again:∀ {σ8:L2.St} {H8:Hp} {s8:Shared},Inv X (pins++U8 fp s7.heap) σ8 H8 s8->(∃ n',n'<n/\W (i+1) n' σ8 H8) ->
          ∃ m',m'<n/\∃ i σ' H',Inv X pins σ' H' s8/\tn i s8.heap/\(∀ b∈fp,H' b=none)/\W i m' σ' H':=λ{σ8 H8 s8} I8 ⟨n',hn,w8⟩=>by
        refine ⟨n',hn,i+1,σ8,H8,I8.unpinned,T.keep _ _ _ st7 λb hb o e=>(I8.pin (b,o) (mem_append_right _ (mem_append_right _ (zD hb e)))).1,λb hb=>?_,w8⟩;obtain ⟨o,e,d⟩:=T.obj _ _ st7 b hb;exact (I8.pin (b,o) (mem_append_right _ (mem_append_right _ (zD hb e)))).2.1
      refine wpAny_bind (wpAny_mono (hg _ s7 σ5 H7 x u _ I7' r7 (step x H7 y7)) (λ_ s8 ⟨σ8,H8,I8,q8⟩=>?_) λ_ _ z=>(hx _ _ z).elim);refine wpAny_bind (wpAny_mono (hf _ s8 σ8 H8 _ I8 q8) (λk s9 ⟨H9,I9,q9⟩=>?_) λ_ _ z=>(hx _ _ z).elim);cases k with
      |false=>
        rw [if_neg Bool.false_ne_true] at q9;exact wpAny_pure ⟨rfl,again I9 q9⟩
      |true=>
        rw [if_pos rfl] at q9;refine wpAny_bind (wpAny_bind (wpAny_mono (he _ s9 σ8 H9 _ I9 q9) (λw s10 ⟨y,H10,I10,r10,q10⟩=>?_) λ_ _ z=>(hx _ _ z).elim));obtain ⟨zs,hz,hl,q10⟩:=q10;refine wpAny_bind (wpAny_mono (VR (X:=X) _ s10 σ8 H10 (.ref D) [y] (.ref D) [w] (λ_ H11=>H11=upd H10 D (.lst (zs++[y]))) I10 rfl (.cons r10 .nil) ⟨D,zs,y,rfl,rfl,hz,hl,rfl⟩) (λ_ s11 ⟨_,H11,I11,_,e11⟩=>?_) λ_ _ z=>(hx _ _ z).elim);subst e11;exact wpAny_pure (wpAny_pure ⟨rfl,again I11 q10⟩)
  exact JZ loop (T.self X.A 0 _ _ _ st2 loop)
def qpJ (wi:TI) (g:TG) (tif:TT) (wi2:TI) (g2:TG) (tif2:TT) (te:TE) (m:List (Option Nat)):TE:=λσ H Q=>wi σ H λJ H1=>∀ D,H1 D=none ->
 ∃ W:Nat->Nat->L2.St->Hp->Prop,(∃ n,W 0 n (cap m σ) (upd H1 D (.lst [])))/\∀ i n σ H,W i n σ H ->
  (J.stop i H/\Q (.ref D) H)\/(J.go i H/\∀ x H',J.yld i H x H'->g x σ H' λσ2 H2=>tif σ2 H2 λk H3=>
   if k=true then tIn wi2 g2 tif2 te D (λσ4 H4=>∃ n',n'<n/\W (i+1) n' σ4 H4) σ2 H3
   else ∃ n',n'<n/\W (i+1) n' σ2 H3)
def qiO {elt tg iter t2 i2:Expr} {ifs f2:List Expr} {scope:Scope} {pos:Pos} {N':List Str} {m:List (Option Nat)} {wi:TI} {g:TG} {tif:TT} {wi2:TI} {g2:TG} {tif2:TT} {te:TE} (hc:X.calm=true) (hi:PI X tg iter wi)
  (hg:∀ s H fp,PG (ql X N' scope s H fp) tg g) (hf:∀ s H fp,PF (ql X N' scope s H fp) ifs tif) (hi2:∀ s H fp,PI (ql X N' scope s H fp) t2 i2 wi2) (hg2:∀ s H fp,PG (ql X N' scope s H fp) t2 g2) (hf2:∀ s H fp,PF (ql X N' scope s H fp) f2 tif2) (he:∀ s H fp,PE (ql X N' scope s H fp) elt te)
  (hsc:MV X.env.scope scope=true) (hcap:Y9 X.N N' scope m=true) (hs:∀ x,foldedSetIterable iter X.env x=pure x:=by intro _;rfl) (hs2:∀ s H fp x,foldedSetIterable i2 (ql X N' scope s H fp).env x=pure x:=by intro _ _ _ _;rfl) :
  PE X (.ListComp elt [⟨tg,iter,ifs,0⟩,⟨t2,i2,f2,0⟩] scope pos) (qpJ wi g tif wi2 g2 tif2 te m):=by
 intro pins s σ H Q I h;have sc:=UD hsc;have hcl:∀ y∈scope.names,y.2=.free->∃ c,X.env.cells.lookup y.1=some c:=λy hy e=>by
  rcases (sc.free y hy e).2 with z|z
  ·exact I.ok.has y.1 (.inl z)
  ·exact I.ok.has y.1 (.inr z)
 rw [eval_ListComp];refine wpAny_comprehension_free (use:=none) (g:=⟨tg,iter,ifs,0⟩) (gs:=[⟨t2,i2,f2,0⟩]) rfl hs (Z1 hcl) sc.kind sc.loc ?_;show wpAny _ _ (eval iter X.env) _ _ s;refine thn (hi pins s σ H _ I h) λv s1 h1=>thn h1 λitv s2 h2=>?_;obtain ⟨it,fp,tn,J,H2,rfl,I2,T,st2,fF2,hW⟩:=h2;refine wpAny_newObj_type ?_;have hD:H2 s2.heap.objs.size=none:=I2.fresh;obtain ⟨W,⟨n0,w0⟩,turn⟩:=hW _ hD;generalize hDe:s2.heap.objs.size=D at *;have I3:Inv X pins σ (upd H2 D (.lst [])) { s2 with heap:=s2.heap.push { cls:=.type "list",dict:=none,data:=.seq ([]:List Value).toArray } }:=by
  subst hDe;exact I2.laid (t':=s2.toks) (λb u e=>Heap.get?_push_of_some _ e) (Nat.le_refl _) ⟨Nat.zero_le _,[],0,.nil,Heap.get?_push_size _ rfl⟩
 have ob2:=T.obj 0 _ st2;have ob3:∀ b∈fp,∃ o,(s2.heap.push { cls:=.type "list",dict:=none,data:=.seq ([]:List Value).toArray }).get? b=some o:=λb hb=>let ⟨o,e,_⟩:=ob2 b hb;⟨o,Heap.get?_push_of_some _ e⟩
 have f3:∀ b∈fp,RO X pins (upd H2 D (.lst [])) b:=λb hb=>by
  obtain ⟨o,e,_⟩:=ob2 b hb;have:b≠D:=by rw [← hDe];exact Nat.ne_of_lt (Heap.lt_size e)
  exact ⟨by rw [qu this];exact (fF2 b hb).1,(fF2 b hb).2⟩
 have k23:∀ b o,s2.heap.get? b=some o->(s2.heap.push { cls:=.type "list",dict:=none,data:=.seq ([]:List Value).toArray }).get? b=some o:=λb o e=>Heap.get?_push_of_some _ e;generalize hH3:upd H2 D (.lst [])=H3 at *;generalize hs3:({ s2 with heap:=s2.heap.push { cls:=.type "list",dict:=none,data:=.seq ([]:List Value).toArray } }:Shared)=s3 at *;have ob3:∀ b∈fp,∃ o,s3.heap.get? b=some o:=by rw [← hs3];exact ob3
 have k23:∀ b o,s2.heap.get? b=some o->s3.heap.get? b=some o:=by rw [← hs3];exact k23
 refine j3 λh₁ hns hk hown=>?_;have I4:Inv (ql X N' scope s3 H3 fp) [] (cap m σ) H3 { s3 with heap:=h₁ }:=C0 hc I3 sc hcap f3 ob3 hns hk hown;have tn4:tn 0 h₁:=T.keep _ _ _ st2 λb hb o e=>hk b o (k23 b o e);have fr4:∀ b∈fp,H3 b=none:=λb hb=>(f3 b hb).1;have stat:∀ {H':Hp},(∀ b∈fp,H' b=none)->∀ b∈fp,RO (ql X N' scope s3 H3 fp) [] H' b:=λhn b hb=>by
  refine ⟨hn b hb,I4.ok.exf b hb |>.1,I4.ok.exfs b hb,.inl hb,λx c e=>(I4.ok.exf b hb).2 x c e,λp hp=>absurd (show p∈([]:List (Addr×Obj)) from hp) (by simp)⟩
 show codeAny (model X.prog X.w) X.A (.compStart (.ListComp elt [⟨tg,iter,ifs,0⟩,⟨t2,i2,f2,0⟩] scope pos) 0 (.ref it) (.ref D) (ql X N' scope s3 H3 fp).env) (compPost (model X.prog X.w) X.A X.xe none (EP X pins σ Q) (.ref D) s3.heap.objs.size) { s3 with heap:=h₁ };have loop:codeAny (model X.prog X.w) X.A (.compLoop (.ListComp elt [⟨tg,iter,ifs,0⟩,⟨t2,i2,f2,0⟩] scope pos) 0 (.ref it) (.ref D) (ql X N' scope s3 H3 fp).env) (compPost (model X.prog X.w) X.A X.xe none (EP X pins σ Q) (.ref D) s3.heap.objs.size) { s3 with heap:=h₁ }:=by
  refine codeAny_loop rfl (λn s'=>∃ i σ' H',Inv (ql X N' scope s3 H3 fp) [] σ' H' s'/\tn i s'.heap/\(∀ b∈fp,H' b=none)/\W i n σ' H') (λn s' hI=>?_) n0 ⟨0,cap m σ,H3,I4,tn4,fr4,w0⟩;show wpAny _ X.A ((compTurn (.ListComp elt [⟨tg,iter,ifs,0⟩,⟨t2,i2,f2,0⟩] scope pos) 0 (.ref it) (.ref D) (ql X N' scope s3 H3 fp).env).onRaise (λx=>do noteFrame x (ql X N' scope s3 H3 fp).env;theTreesLotGoes x)) _ _ s';refine wpAny_noted ?_;rw [CQ];refine wpAny_bind (wpAny_standAt (wpAny_bind ?_));obtain ⟨i,σ5,H5,I5,st5,fr5,w5⟩:=hI;rcases turn i n σ5 H5 w5 with ⟨stop,q⟩|⟨go,step⟩
  ·refine thn (T.done (ql X N' scope s3 H3 fp) rfl rfl rfl rfl i [] s' σ5 H5 _ I5 (stat fr5) st5 stop) λr s6 ⟨hr,I6⟩=>?_;subst hr;refine wpAny_pure ?_;obtain ⟨mm,hn6,_⟩:=I6.loc;exact ⟨mm,hn6,λh' sb=>⟨.ref D,H5,UN I3 f3 I6 sb,rfl,q⟩⟩
  ·refine thn (T.item (ql X N' scope s3 H3 fp) rfl rfl rfl rfl i [] s' σ5 H5 _ I5 (stat fr5) st5 go) λr s6 ⟨u,hr,h6⟩=>?_;subst hr;refine wpAny_bind (thn h6 λ_ s7 ⟨x,H7,I7,r7,y7,st7,fr7⟩=>?_);have I7':=I7.pinned (stat fr7) (T.obj _ _ st7);have again:∀ {σ8:L2.St} {H8:Hp} {s8:Shared},Inv (ql X N' scope s3 H3 fp) ([]++U8 fp s7.heap) σ8 H8 s8->(∃ n',n'<n/\W (i+1) n' σ8 H8) ->
     ∃ m',m'<n/\∃ i σ' H',Inv (ql X N' scope s3 H3 fp) [] σ' H' s8/\tn i s8.heap/\(∀ b∈fp,H' b=none)/\W i m' σ' H':=λ{σ8 H8 s8} I8 ⟨n',hn,w8⟩=>by
    refine ⟨n',hn,i+1,σ8,H8,I8.unpinned,T.keep _ _ _ st7 λb hb o e=>(I8.pin (b,o) (mem_append_right _ (mem_append_right _ (zD hb e)))).1,λb hb=>?_,w8⟩;obtain ⟨o,e,d⟩:=T.obj _ _ st7 b hb;exact (I8.pin (b,o) (mem_append_right _ (mem_append_right _ (zD hb e)))).2.1
   refine wpAny_bind (wpAny_mono (hg s3 H3 fp _ s7 σ5 H7 x u _ I7' r7 (step x H7 y7)) (λ_ s8 ⟨σ8,H8,I8,q8⟩=>?_) λ_ _ z=>z.elim);refine wpAny_bind (wpAny_mono (hf s3 H3 fp _ s8 σ8 H8 _ I8 q8) (λk s9 ⟨H9,I9,q9⟩=>?_) λ_ _ z=>z.elim);cases k with
   |false=>
    rw [if_neg Bool.false_ne_true] at q9;exact wpAny_pure ⟨rfl,again I9 q9⟩
   |true=>
    rw [if_pos rfl] at q9;refine qhV (X:=ql X N' scope s3 H3 fp) rfl (λ_ _ z=>z) (hi2 s3 H3 fp) (hg2 s3 H3 fp) (hf2 s3 H3 fp) (he s3 H3 fp) (hs2 s3 H3 fp) I9 q9 λs10 σ10 H10 I10 q10=>?_;exact wpAny_pure ⟨rfl,again I10 q10⟩
 exact codeAny_compStart_list loop (T.self X.A 0 _ _ _ tn4 loop)
end
def qgE (D:Addr) (stay:Gp->Prop) (g:TG3) (tif:TT3) (te:TE3) (N:St3->Gp->Prop):List T->St3->Gp->Prop
 |[],τ,G=>stay G/\N τ G
 |x::r,τ,G=>stay G/\g x τ G λτ2 G2=>tif τ2 G2 λk G3=>
  if k=true then te τ2 G3 λy G4=>(match G4 D with|some (.lst ys)=>ys.length<sizeLine/\qgE D stay g tif te N r τ2 (gu G4 D (.lst (ys++[y])))|_=>False) else qgE D stay g tif te N r τ2 G3
def N9 (D:Addr) (stay:Gp->Prop) (g:TG3) (tif:TT3) (wi2:TI3) (g2:TG3) (tif2:TT3) (te:TE3) (q:Q3):List T->St3->Gp->Prop
 |[],_,G=>stay G/\q (.ref D) G
 |x::r,τ,G=>stay G/\g x τ G λτ2 G2=>tif τ2 G2 λk G3=>
  if k=true then wi2 τ2 G3 λitems2 stay2 G4=>qgE D stay2 g2 tif2 te (λτ' G'=>N9 D stay g tif wi2 g2 tif2 te q r τ' G') items2 τ2 G4 else N9 D stay g tif wi2 g2 tif2 te q r τ2 G3
def ql6 (wi:TI3) (g:TG3) (tif:TT3) (wi2:TI3) (g2:TG3) (tif2:TT3) (te:TE3) (m:List (Option Nat)):TE3:=λτ G q=>wi τ G λitems stay G1=>∀ D,G1 D=none->N9 D stay g tif wi2 g2 tif2 te q items (cap m τ) (gu G1 D (.lst []))
section
variable {K:Frg}
def qf5 {wi2:TI3} {g2:TG3} {tif2:TT3} {te:TE3} {D:Addr} {N3:St3->Gp->Prop} {N:L2.St->Hp->Prop} {τ:St3} {G:Gp} {σ:L2.St} {H:Hp} {Gb:Gp} {Hb:Hp} (rl:Rel K τ G σ H) (kb:Kp Gb Hb G H) (h:wi2 τ G λitems stay G1=>qgE D stay g2 tif2 te N3 items τ G1)
  (hN:∀ τ' G' σ' H',Rel K τ' G' σ' H'->Kp Gb Hb G' H'->N3 τ' G'->N σ' H'):tIn (lI K wi2) (lG K g2) (lT K tif2) (lE K te) D N σ H:=by
 refine ⟨τ,G,_,rl,h,λitems stay G1 h1 J H1 hr1 k1 ok=>?_⟩;refine ⟨λi n σ' H'=>n=items.length-i/\i<=items.length/\∃ τ' G',Rel K τ' G' σ' H'/\Kp G1 H1 G' H'/\qgE D stay g2 tif2 te N3 (items.drop i) τ' G',⟨_,rfl,Nat.zero_le _,τ,G1,rl.next hr1 k1,Kp.refl,by simpa using h1⟩,?_⟩;rintro i n σ' H' ⟨rfl,hi,τ',G',rl',k',h'⟩;by_cases hlt:i<items.length
 ·rw [List.drop_eq_getElem_cons hlt] at h';obtain ⟨hst,h'⟩:=h';obtain ⟨go,yld,_⟩:=ok G' H' rl'.hp k' hst;have hx:items[i]?=some items[i]:=getElem?_eq_getElem hlt;refine .inr ⟨go i _ hx,λv H2 y=>?_⟩;obtain ⟨rv,hr2,k2⟩:=yld i _ v H2 hx y;refine ⟨_,τ',G',_,rv,rl'.next hr2 k2,h',λτ3 G3 h3 σ3 H3 rl3 k3=>⟨τ3,G3,_,rl3,h3,λk G4 h4 H4 hr4 k4=>?_⟩⟩;have kk:=(k2.trans k3).trans k4;cases k with
  |false=>
   rw [if_neg Bool.false_ne_true] at h4;refine qmg ?_;exact ⟨_,by omega,rfl,hlt,τ3,G4,rl3.next hr4 k4,k'.trans kk,h4⟩
  |true=>
   rw [if_pos rfl] at h4;refine qmr ?_;refine ⟨τ3,G4,_,rl3.next hr4 k4,h4,λz G5 h5 w H5 rw5 hr5 k5=>?_⟩;split at h5
   ·rename_i ys e1;obtain ⟨vs,g1,r1⟩:=hr5.lst e1;exact ⟨vs,g1,by rw [← r1.length];exact h5.1,_,by omega,rfl,hlt,τ3,_,((rl3.next hr4 k4).next hr5 k5).next (hr5.wr e1 (r1.append (.cons rw5 .nil))) (Kp.wr e1),((k'.trans kk).trans k5).trans (Kp.wr e1),h5.2⟩
   ·exact h5.elim
 ·have e:i=items.length:=by omega
  subst e;rw [List.drop_length] at h';obtain ⟨_,_,stop⟩:=ok G' H' rl'.hp k' h'.1;exact .inl ⟨stop,hN _ _ _ _ rl' ((kb.trans k1).trans k') h'.2⟩
end
section
variable {X:Cx}
def qnA {elt tg iter t2 i2:Expr} {ifs f2:List Expr} {scope:Scope} {pos:Pos} (N':List Str) (m:List (Option Nat)) {wi:TI3} {g:TG3} {tif:TT3} {wi2:TI3} {g2:TG3} {tif2:TT3} {te:TE3} (hc:X.calm=true) (hi:I3 X tg iter wi)
  (hg:∀ s H fp,G3 (ql X N' scope s H fp) tg g) (hf:∀ s H fp,F3 (ql X N' scope s H fp) ifs tif) (hi2:∀ s H fp,I3 (ql X N' scope s H fp) t2 i2 wi2) (hg2:∀ s H fp,G3 (ql X N' scope s H fp) t2 g2) (hf2:∀ s H fp,F3 (ql X N' scope s H fp) f2 tif2) (he:∀ s H fp,E3 (ql X N' scope s H fp) elt te)
  (hsc:MV X.env.scope scope=true) (hcap:Y9 X.N N' scope m=true) (hs:∀ x,foldedSetIterable iter X.env x=pure x:=by intro _;rfl) (hs2:∀ s H fp x,foldedSetIterable i2 (ql X N' scope s H fp).env x=pure x:=by intro _ _ _ _;rfl) :
  E3 X (.ListComp elt [⟨tg,iter,ifs,0⟩,⟨t2,i2,f2,0⟩] scope pos) (ql6 wi g tif wi2 g2 tif2 te m):=
 EZ (qiO (g:=lG X.K g) (tif:=lT X.K tif) (wi2:=lI X.K wi2) (g2:=lG X.K g2) (tif2:=lT X.K tif2) (te:=lE X.K te) hc hi hg hf hi2 hg2 hf2 he hsc hcap hs hs2) λσ H Q ⟨τ,G,q,rl,h,af⟩=>by
  refine ⟨τ,G,_,rl,h,λitems stay G1 h1 J H1 hr1 k1 ok D hD=>?_⟩;have gD:G1 D=none:=hr1.free hD;have h1:=h1 D gD;have hr1':HR X.K (gu G1 D (.lst [])) (upd H1 D (.lst [])):=HR.newL hr1 hD .nil;have k1':Kp G1 H1 (gu G1 D (.lst [])) (upd H1 D (.lst [])):=Kp.newL hD;refine ⟨λi n σ' H'=>n=items.length-i/\i<=items.length/\∃ τ' G',Rel X.K τ' G' σ' H'/\Kp G1 H1 G' H'/\N9 D stay g tif wi2 g2 tif2 te q (items.drop i) τ' G',
   ⟨_,rfl,Nat.zero_le _,cap m τ,_,((rl.next hr1 k1).cap m).next hr1' k1',k1',by simpa using h1⟩,?_⟩
  rintro i n σ' H' ⟨rfl,hi,τ',G',rl',k',h'⟩;by_cases hlt:i<items.length
  ·rw [List.drop_eq_getElem_cons hlt] at h';obtain ⟨hst,h'⟩:=h';obtain ⟨go,yld,_⟩:=ok G' H' rl'.hp k' hst;have hx:items[i]?=some items[i]:=getElem?_eq_getElem hlt;refine .inr ⟨go i _ hx,λv H2 y=>?_⟩;obtain ⟨rv,hr2,k2⟩:=yld i _ v H2 hx y;refine ⟨_,τ',G',_,rv,rl'.next hr2 k2,h',λτ3 G3 h3 σ3 H3 rl3 k3=>⟨τ3,G3,_,rl3,h3,λk G4 h4 H4 hr4 k4=>?_⟩⟩;have kk:=(k2.trans k3).trans k4;cases k with
   |false=>
    rw [if_neg Bool.false_ne_true] at h4;refine qmg ?_;exact ⟨_,by omega,rfl,hlt,τ3,G4,rl3.next hr4 k4,k'.trans kk,h4⟩
   |true=>
    rw [if_pos rfl] at h4;refine qmr ?_;exact qf5 (rl3.next hr4 k4) (k'.trans kk) h4 λτ5 G5 σ5 H5 rl5 k5 h5=>⟨_,by omega,rfl,hlt,τ5,G5,rl5,k5,h5⟩
  ·have e:i=items.length:=by omega
   subst e;rw [List.drop_length] at h';obtain ⟨_,_,stop⟩:=ok G' H' rl'.hp k' h'.1;exact .inl ⟨stop,af _ _ h'.2 _ H' (.ref D) rl'.hp (k1.trans k')⟩
def qlb {elt tg iter t2 i2:Expr} {ifs f2:List Expr} {scope:Scope} {pos:Pos} (N':List Str) (m:List (Option Nat)) {wi:TI3} {g:TG3} {tif:TT3} {wi2:TI3} {g2:TG3} {tif2:TT3} {te:TE3} (hc:X.calm=true) (hi:jI3 X tg iter wi)
  (hg:∀ s H fp,jG3 (ql X N' scope s H fp) tg g) (hf:∀ s H fp,jF3 (ql X N' scope s H fp) ifs tif) (hi2:∀ s H fp,jI3 (ql X N' scope s H fp) t2 i2 wi2) (hg2:∀ s H fp,jG3 (ql X N' scope s H fp) t2 g2) (hf2:∀ s H fp,jF3 (ql X N' scope s H fp) f2 tif2) (he:∀ s H fp,jE3 (ql X N' scope s H fp) elt te)
  (hsc:MV X.env.scope scope=true) (hcap:Y9 X.N N' scope m=true) (hs:∀ x,foldedSetIterable iter X.env x=pure x:=by intro _;rfl) (hs2:∀ s H fp x,foldedSetIterable i2 (ql X N' scope s H fp).env x=pure x:=by intro _ _ _ _;rfl) :
  jE3 X (.ListComp elt [⟨tg,iter,ifs,0⟩,⟨t2,i2,f2,0⟩] scope pos) (ql6 wi g tif wi2 g2 tif2 te m):=
 ⟨qnA N' m hc hi.h (λs H fp=>(hg s H fp).h) (λs H fp=>(hf s H fp).h) (λs H fp=>(hi2 s H fp).h) (λs H fp=>(hg2 s H fp).h) (λs H fp=>(hf2 s H fp).h) (λs H fp=>(he s H fp).h) hsc hcap hs hs2⟩
end
section
variable {X:Cx}
end
section
variable {X:Cx} {tg a b c:Expr} {pos:Pos}
end
section
variable {X:Cx}
end
section
variable {X:Cx} {a b:Expr} {ta tb:TE3} {pos:Pos}
end
end L3
namespace HT
open PySem PySem.Spec PyProof.Rows
section
variable {prog:Program} {w:World} {A:Around} {E:Value->Shared->Prop} {s:Shared}
end
end HT
namespace L3
open PySem PySem.Spec PyProof.Rows L2
section
variable {X:Cx} {e ek:Expr} {p2 pos:Pos}
end
section
variable {X:Cx} {a b:Expr} {ta tb:TE3} {pos:Pos}
end
abbrev Rd (sp:Sp3) (n:Nat) (t:TS3) (N:List Str):Prop:=∀ ts G q,sp ts G q->ts.length=n/\t { nx:=λ_ G'=>q .non G',rt:=q } (qj N ts) G
def jgn {pos:Pos} {X:Cx} {x:Str} (i:Nat) (hN:decide X.N.Nodup=true:=by kernel_rfl) (hi:X.N[i]?=some x:=by rfl) (hx:Loc X.env.scope x:=by first|exact Or.inl rfl|exact Or.inr rfl) (hf:X.fn x=true\/X.env.scope.names.lookup x=some .local:=by first|exact .inl rfl|exact .inr rfl):jG3 X (.Name x pos) (gn3 i):=
 qq (of_decide_eq_true hN) hi hx hf
end L3
namespace L2
open PySem PySem.Spec PyProof.Rows
section
variable {X:Cx} {pos:Pos}
end
end L2
namespace L3
open PySem PySem.Spec PyProof.Rows L2
section
variable {X:Cx} {pos:Pos}
end
end L3
namespace HT
open PySem PyProof.Rows
section
variable {prog:Program} {w:World} {A:Around} {E:Value->Shared->Prop} {s:Shared}
end
end HT
namespace L3
open PySem PySem.Spec PyProof.Rows L2
section
variable {X:Cx}
end
def F0 (f0:Value):Prop:=f0=.none\/∃ n:Nat,f0=rawInt n
section
variable {P:Program} {w:World} {A:Around} {s:Shared} {z ti to i1 i2 c1 c2:Addr} {S1 S2:Nat->Heap->Prop} {H1 H2:Array Value->Heap->Prop} {k1 k2:Nat} {xs ys:Array Value} {x y a b f0 f1:Value} {E:Value->Shared->Prop}
end
section
variable {P:Program} {w:World} {A:Around} {s:Shared} {E:Value->Shared->Prop}
end
section
variable {X:Cx} {a b e l:Expr} {es:List Expr} {pos:Pos} {t:TA3}
end
end L3
namespace Tb8
open PySem PySem.SetTable
end Tb8
namespace Tb8
open PySem PyProof.Rows
section
variable {prog:Program} {w:World} {A:Around} {E:Value->Shared->Prop} {s:Shared}
end
end Tb8
namespace Tb8
open PySem PyProof.Rows PySem.SetTable
section
variable {prog:Program} {w:World} {A:Around} {E:Value->Shared->Prop} {s:Shared}
end
end Tb8
namespace Tb8
open PySem PySem.SetTable
end Tb8
namespace Tb8
open PySem PyProof.Rows PySem.SetTable
section
variable {prog:Program} {w:World} {A:Around} {E:Value->Shared->Prop} {s:Shared}
end
section
variable {prog:Program} {w:World} {A:Around} {R:Result->Shared->Prop} {I:Addr} {fp wr:List Addr} {n:Nat} {P:Nat->Value->Prop} {St:Nat->Heap->Prop}
end
section
variable {prog:Program} {w:World} {A:Around} {E:Value->Shared->Prop} {s:Shared}
end
end Tb8
namespace L3
open PySem PySem.Spec PyProof.Rows L2
section
variable {X:Cx}
end
section
variable {X:Cx} {K:Frg} {w:World} {mg:Str->Option Value}
end
section
variable {X:Cx}
end
open PySem.SeqAt
section
variable {X:Cx} {pins:List (Addr×Obj)} {σ:L2.St} {H:Hp} {s:Shared}
end
end L3
namespace HT
open PySem PySem.Spec PyProof.Rows L2
section
open PySem.SeqAt
open PySem.MeetsSeq PySem.MeetsSeq2 PySem.MeetsSeq3
end
section
variable {prog:Program} {w:World} {A:Around} {E:Value->Shared->Prop} {s:Shared}
end
end HT
namespace L3
open PySem PySem.Spec PyProof.Rows L2
section
variable {X:Cx}
end
end L3
namespace HT
open PySem PyProof.Rows
section
variable {prog:Program} {w:World} {A:Around} {R:Result->Shared->Prop} {I:Addr} {fp wr:List Addr} {n:Nat} {P:Nat->Value->Prop} {St:Nat->Heap->Prop}
end
section
variable {prog:Program} {w:World} {A:Around} {E:Value->Shared->Prop} {s:Shared}
end
end HT
namespace L3
open PySem PySem.Spec PyProof.Rows L2
section
variable {X:Cx}
end
section
variable {X:Cx}
end
section
variable {X:Cx}
end
section
variable {X:Cx} {a b:Expr} {ta tb:TE3} {pos:Pos}
end
end L3
namespace L3
open PySem PySem.Spec PyProof.Rows L2 PySem.SeqAt
section
variable {X:Cx} {a b:Expr} {ta tb:TE3} {pos:Pos}
end
end L3
namespace L3
open PySem PySem.Spec PyProof.Rows L2
section
variable {X:Cx} {a b e:Expr} {ta tb te:TE3} {pos:Pos}
end
section
variable {X:Cx} {a b:Expr} {ta tb:TE3} {pos:Pos}
end
section
variable {X:Cx}
end
def ev {α:Type}:List α->List α
 |[]=>[]
 |[x]=>[x]
 |x::_::r=>x::ev r
section
variable {X:Cx} {e el ek:Expr} {p2 pos:Pos}
end
section
variable {X:Cx} {pos:Pos} {e:Expr} {te:TE3}
end
section
variable {X:Cx} {pos:Pos} {o i e:Expr} {to ti te:TE3}
def qbt {pins:List (Addr×Obj)} {s:Shared} {σ:L2.St} {H:Hp} (I:Inv X pins σ H s):3<s.heap.objs.size:=by
 obtain ⟨o,es,ep,e,_⟩:=I.mod.glob.keeps I.bk;exact Heap.lt_size e
def qbl:PE X (.Dict [] [] pos) (λσ H Q=>∀ p,H p=none->Q (.ref p) (upd H p (.dK []))):=by
 intro pins s σ H Q I h;refine wpAny_Dict_empty ?_;have sz:=qbt I;refine ⟨.ref s.heap.objs.size,_,I.laid (t':=s.toks) (o:=.dK []) (λb ob q=>Heap.get?_push_of_some _ q) (Nat.le_refl _) ?_,rfl,h _ (I.hok.fresh (Nat.le_refl _))⟩;refine ⟨Nat.zero_le _,?_,[],.nil,Heap.DictOf.new _⟩;show decide (s.heap.objs.size=1)=false;exact decide_eq_false (λz=>by rw [z] at sz;exact absurd sz (by decide))
def MP (kvs:List (Key×V)) (k:Int):Option V:=(kvs.find? λp=>decide (p.1=.inl k)).map (·.2)
def DP (kvs:List (Key×V)) (k:Int) (v:V):List (Key×V):=
 if kvs.any (λp=>decide (p.1=.inl k)) then kvs.map (λp=>if p.1=.inl k then (p.1,v) else p) else kvs++[(.inl k,v)]
def qf9 {kvs:List (Key×V)} {vs:List (Key×Value)} (k:Int) (h:KV kvs vs) {y:V} {u:Value} (r:ji y u):ji ((MP kvs k).getD y) ((valueAt vs (.inl k)).getD u):=by
 induction h with
 |nil=>exact r
 |@cons a b as bs ab t ih=>
  obtain ⟨e,q⟩:=ab;unfold MP valueAt at *;rw [List.find?_cons,List.find?_cons,e];cases decide (b.1=Sum.inl k) with
  |true=>exact q
  |false=>exact ih
def qkS {kvs:List (Key×V)} {vs:List (Key×Value)} (k:Int) (h:KV kvs vs):(kvs.any λp=>decide (p.1=.inl k))=vs.any λp=>decide (p.1=.inl k):=by
 induction h with
 |nil=>rfl
 |@cons a b as bs ab t ih=>rw [List.any_cons,List.any_cons,ih,ab.1]
def qhp {kvs:List (Key×V)} {vs:List (Key×Value)} (k:Int) {v:V} {u:Value} (r:ji v u) (h:KV kvs vs):KV (kvs.map (λp=>if p.1=.inl k then (p.1,v) else p)) (vs.map (λp=>if p.1=.inl k then (p.1,u) else p)):=by
 induction h with
 |nil=>exact .nil
 |@cons a b as bs ab t ih=>
  refine .cons ?_ ih;show (if a.1=Sum.inl k then (a.1,v) else a).1=(if b.1=Sum.inl k then (b.1,u) else b).1/\ji (if a.1=Sum.inl k then (a.1,v) else a).2 (if b.1=Sum.inl k then (b.1,u) else b).2;rw [ab.1];by_cases c:b.1=Sum.inl k
  ·rw [if_pos c,if_pos c];exact ⟨rfl,r⟩
  ·rw [if_neg c,if_neg c];exact ab
def qhD {kvs:List (Key×V)} {vs:List (Key×Value)} {k:Key} {v:V} {u:Value} (r:ji v u) (h:KV kvs vs):KV (kvs++[(k,v)]) (vs++[(k,u)]):=by
 induction h with
 |nil=>exact .cons ⟨rfl,r⟩ .nil
 |cons ab t ih=>exact .cons ab ih
def qbB {kvs:List (Key×V)} {vs:List (Key×Value)} (k:Int) {v:V} {u:Value} (r:ji v u) (h:KV kvs vs):KV (DP kvs k v) (stored vs (.inl k) u):=by
 unfold DP stored;rw [qkS k h];cases vs.any λp=>decide (p.1=.inl k) with
 |true=>exact qhp k r h
 |false=>
  exact qhD r h
def LV (kvs:List (Key×V)) (k:Int) (v:V):(DP kvs k v).length<=kvs.length+1:=by
 unfold DP;cases kvs.any λp=>decide (p.1=.inl k) with
 |true=>rw [if_pos rfl,length_map];exact Nat.le_succ _
 |false=>rw [if_neg (by decide),length_append];exact Nat.le_refl _
def ND {k:Int} {t:Tok}:(CC X.prog X.w).is (.inl k) (.int k t)=true:=by
 exact qaM k t
def qi4:V->List V->Hp->VK->Prop:=λx xs H Q=>∃ p kvs k y,x=.ref p/\xs=[.int k,y]/\H p=some (.dK kvs)/\Q ((MP kvs k).getD y) H
def qgb:MtM X "dict.get" qi4:=by
 intro pins s σ H x vs v us Q I rx rv h;obtain ⟨p,kvs,k,y,rfl,rfl,hH,q⟩:=h;cases rx;obtain ⟨a,b,rfl,ra,rb⟩:=rv.two;obtain ⟨t,rfl⟩:=ra;obtain ⟨hz,hS,ws,r,m⟩:=I.hok p _ hH;refine call_meetsIn PySem.F.slot_dict_get m.typeIs PySem.F.entry_dict_get (PySem.F.args_dict_get_3 _ _ _) (meets_dict_get_default (CC X.prog X.w) p ND hS b) ⟨_,m.mapOf,?_⟩;exact ⟨_,H,I.tok _,qf9 k r rb,q⟩
def qog:qma:=λo i v H Q=>∃ p kvs k,o=.ref p/\i=.int k/\H p=some (.dK kvs)/\kvs.length<sizeLine/\Q (upd H p (.dK (DP kvs k v)))
def qcn:qnw X qog:=by
 intro pins s σ H o i v ov iv u Q I ro ri rv h;obtain ⟨p,kvs,k,rfl,rfl,hH,hl,q⟩:=h;cases ro;obtain ⟨t,rfl⟩:=ri;obtain ⟨hz,hS,ws,r,m⟩:=I.hok p _ hH;have hlen:kvs.length=ws.length:=Paired.length r;refine wpAny_setItem_pairs (hsz:=by omega) ND m λh' m' sb=>?_;refine ⟨_,I.write (x:=p) (e:=p) (by rw [hH];trivial) (.inl rfl) (λb' u hb hu=>(sb.2 b' hb).trans hu) ?_ ?_,q⟩
 ·obtain ⟨o',_,_,e,_⟩:=m';exact ⟨_,e⟩
 ·exact ⟨Nat.le_trans (LV kvs k v) hl,hS,_,qbB k rv r,m'⟩
end
section
variable {K:Frg} {G G':Gp} {H H':Hp}
def Q0 (kvs:List (Int×T)):List Key:=kvs.map λp=>(Sum.inl p.1:Key)
def ES (kvs:List (Int×T)):List T:=kvs.map λp=>p.2
def R4:List (Int×T)->Int->Option T
 |[],_=>none
 |p::r,k=>if p.1=k then some p.2 else R4 r k
def qeN (kvs:List (Int×T)) (k:Int):Bool:=kvs.any λp=>decide (p.1=k)
def KG (kvs:List (Int×T)) (k:Int) (x:T):List (Int×T):=kvs.map λp=>if p.1=k then (p.1,x) else p
def EB (kvs:List (Int×T)) (k:Int) (x:T):List (Int×T):=if qeN kvs k then KG kvs k x else kvs++[(k,x)]
def UV {a b:Int}:((Sum.inl a:Key)=Sum.inl b)↔a=b:=⟨λe=>by cases e;rfl,λe=>by rw [e]⟩
def K3 (k:Int) {y:T} {w:V} (ry:Rp K H y w):∀ {kvs:List (Int×T)} {vs:List V},Rps K H (ES kvs) vs->Rp K H ((R4 kvs k).getD y) ((MP ((Q0 kvs).zip vs) k).getD w)
 |[],_,.nil=>ry
 |p::r,v::vs,.cons h t=>by
  have e:MP ((Q0 (p::r)).zip (v::vs)) k=if p.1=k then some v else MP ((Q0 r).zip vs) k:=by
   show ((((Sum.inl p.1:Key),v)::(Q0 r).zip vs).find? λq=>decide (q.1=.inl k)).map (·.2)=_;rw [List.find?_cons];by_cases c:p.1=k
   ·rw [if_pos c,decide_eq_true (UV.mpr c)];rfl
   ·rw [if_neg c,decide_eq_false (λz=>c (UV.mp z))];rfl
  have e2:R4 (p::r) k=if p.1=k then some p.2 else R4 r k:=rfl
  rw [e,e2];by_cases c:p.1=k
  ·rw [if_pos c,if_pos c];exact h
  ·rw [if_neg c,if_neg c];exact K3 k ry t
def MX (k:Int):∀ {kvs:List (Int×T)} {vs:List V},Rps K H (ES kvs) vs->(((Q0 kvs).zip vs).any λp=>decide (p.1=.inl k))=qeN kvs k
 |[],_,.nil=>rfl
 |p::r,v::vs,.cons h t=>by
  show (decide ((Sum.inl p.1:Key)=.inl k)||((Q0 r).zip vs).any λp=>decide (p.1=.inl k))=(decide (p.1=k)||qeN r k);rw [MX k t];by_cases c:p.1=k
  ·rw [decide_eq_true (UV.mpr c),decide_eq_true c]
  ·rw [decide_eq_false (λz=>c (UV.mp z)),decide_eq_false c]
def qac (k:Int) {x:T} {w:V} (rx:Rp K H x w):∀ {kvs:List (Int×T)} {vs:List V},Rps K H (ES kvs) vs ->
  ∃ us,((Q0 kvs).zip vs).map (λp=>if p.1=.inl k then (p.1,w) else p)=(Q0 (KG kvs k x)).zip us/\Rps K H (ES (KG kvs k x)) us
 |[],_,.nil=>⟨[],rfl,.nil⟩
 |p::r,v::vs,.cons h t=>by
  obtain ⟨us,e,q⟩:=qac k rx t;by_cases c:p.1=k
  ·have e1:KG (p::r) k x=(p.1,x)::KG r k x:=by show (if p.1=k then (p.1,x) else p)::KG r k x=_;rw [if_pos c]
   refine ⟨w::us,?_,?_⟩
   ·rw [e1];show (if (Sum.inl p.1:Key)=.inl k then ((Sum.inl p.1:Key),w) else (Sum.inl p.1,v))::((Q0 r).zip vs).map _=((Sum.inl p.1:Key),w)::(Q0 (KG r k x)).zip us;rw [if_pos (UV.mpr c),e]
   ·rw [e1];exact .cons rx q
  ·have e1:KG (p::r) k x=p::KG r k x:=by show (if p.1=k then (p.1,x) else p)::KG r k x=_;rw [if_neg c]
   refine ⟨v::us,?_,?_⟩
   ·rw [e1];show (if (Sum.inl p.1:Key)=.inl k then ((Sum.inl p.1:Key),w) else (Sum.inl p.1,v))::((Q0 r).zip vs).map _=((Sum.inl p.1:Key),v)::(Q0 (KG r k x)).zip us;rw [if_neg (λz=>c (UV.mp z)),e]
   ·rw [e1];exact .cons h q
def NU (k:Int) {x:T} {w:V} (rx:Rp K H x w):∀ {kvs:List (Int×T)} {vs:List V},Rps K H (ES kvs) vs ->
  ((Q0 kvs).zip vs)++[(.inl k,w)]=(Q0 (kvs++[(k,x)])).zip (vs++[w])/\Rps K H (ES (kvs++[(k,x)])) (vs++[w])
 |[],_,.nil=>⟨rfl,.cons rx .nil⟩
 |p::r,v::vs,.cons h t=>by
  obtain ⟨e,q⟩:=NU k rx t;exact ⟨congrArg (((Sum.inl p.1:Key),v)::·) e,.cons h q⟩
def NH (k:Int) {x:T} {w:V} (rx:Rp K H x w) {kvs:List (Int×T)} {vs:List V} (h:Rps K H (ES kvs) vs) :
  ∃ us,DP ((Q0 kvs).zip vs) k w=(Q0 (EB kvs k x)).zip us/\Rps K H (ES (EB kvs k x)) us:=by
 unfold DP EB;rw [MX k h];cases qeN kvs k with
 |true=>exact qac k rx h
 |false=>exact ⟨_,NU k rx h⟩
def HR.dct (hr:HR K G H) {p:Addr} {kvs:List (Int×T)} (g:G p=some (.dct kvs)):∃ vs,H p=some (.dK ((Q0 kvs).zip vs))/\Rps K H (ES kvs) vs:=hr p _ g
def HR.newD (hr:HR K G H) {p:Addr} (hp:H p=none):HR K (gu G p (.dct [])) (upd H p (.dK [])):=λa o e=>by
 by_cases ha:a=p
 ·subst ha;rw [qp] at e;cases e;exact ⟨[],qT,.nil⟩
 ·rw [zu ha] at e;exact (hr a o e).keep hr (Kp.laid hp) λu h=>by rw [qu ha];exact h
def HR.wrDc (hr:HR K G H) {p:Addr} {kvs kws:List (Int×T)} {vs:List V} (g:G p=some (.dct kvs)) (r:Rps K H (ES kws) vs):HR K (gu G p (.dct kws)) (upd H p (.dK ((Q0 kws).zip vs))):=λa o e=>by
 have k:Kp G H (gu G p (.dct kws)) (upd H p (.dK ((Q0 kws).zip vs))):=Kp.wr g;by_cases ha:a=p
 ·subst ha;rw [qp] at e;cases e;exact ⟨vs,qT,r.keep hr k⟩
 ·rw [zu ha] at e;exact (hr a o e).keep hr k λu h=>by rw [qu ha];exact h
def qf4 {kvs:List (Int×T)} {vs:List V} (h:Rps K H (ES kvs) vs):((Q0 kvs).zip vs).length=kvs.length:=by
 have e:=h.length;unfold ES at e;rw [length_map] at e;rw [List.length_zip];unfold Q0;rw [length_map,← e,Nat.min_self]
end
section
variable {X:Cx} {pos:Pos} {o i e:Expr} {to ti te:TE3}
def qbI:TE3:=λ_ G q=>∀ p,G p=none->q (.ref p) (gu G p (.dct []))
def qfj:E3 X (.Dict [] [] pos) qbI:=
 EZ qbl λσ H Q ⟨τ,G,q,rl,h,af⟩=>λp hp=>af _ _ (h p (rl.hp.free hp)) _ _ (.ref p) (rl.hp.newD hp) (Kp.newL hp)
def TH:T->List T->Gp->Q3->Prop:=λx xs G q=>match x,xs with
 |.ref p,[.int k,y]=>(match G p with|some (.dct kvs)=>q ((R4 kvs k).getD y) G|_=>False)
 |_,_=>False
def qb4 {K:Frg}:qlM K TH qi4:=λx xs v vs G H q Q hr rx rs h af=>by
 unfold TH at h;split at h
 ·rename_i p k y;split at h
  ·rename_i kvs e1;cases rx;cases rs with
   |cons r1 rs=>
    cases rs with
    |cons r2 rs=>
     cases rs;cases r1;obtain ⟨us,g1,r⟩:=hr.dct e1;exact ⟨p,_,k,_,rfl,rfl,g1,af _ _ h _ _ (K3 k r2 r) hr Kp.refl⟩
  ·exact h.elim
 ·exact h.elim
def qj3 (r:T->List T->Gp->Q3->Prop) (to:TE3) (t:TA3):TE3:=λτ G q=>to τ G λx G1=>(match x with|.ref p=>(match G1 p with|some (.dct _)=>True|_=>False)|_=>False)/\t τ G1 λxs G2=>r x xs G2 q
variable {es:List Expr} {t:TA3}
def qlD {apos cpos:Pos} (ho:E3 X o to) (ha:A3 X (e::es) t)
  (hbase:attributeBase o "get" X.env (eval o X.env)=eval o X.env:=by rfl)
  (hfew:((backTo cpos (starEach (e::es) X.env)).all (λx=>!x.1)&&(backToKw cpos (keywordEach [] X.env)).all (λx=>x.1.isSome)
   && decide ((e::es).length+([]:List Keyword).length+(if ([]:List Keyword).isEmpty then 0 else 1)<30))=true:=by rfl)
  (hline:(apos.endLine==cpos.line)=true:=by rfl) (hs:starEach (e::es) X.env=(false,eval e X.env)::starEach es X.env:=by rfl) (hplain:(backTo cpos (starEach es X.env)).any (·.1)=false:=by rfl) :
  E3 X (.Call (.Attribute o "get" apos) (e::es) [] cpos) (qj3 TH to t):=
 EZ (qiA PySem.F.plainAttrs_dict PySem.F.slot_dict_get PySem.F.type_dict_get qgb ho ha hbase hfew hline hs hplain) λ_ _ _ ⟨τ,G,q,rl,h,af⟩=>zw rl h λx G1 h1 v H1 rx hr1 k1 rl1=>by
  obtain ⟨hp,h1⟩:=h1;cases x<;>try exact hp.elim
  case ref p=>
   cases rx;have hp':(match G1 p with|some (.dct _)=>True|_=>False):=hp;split at hp'
   ·rename_i kvs e;obtain ⟨us,g1,r⟩:=hr1.dct e;exact ⟨.inr (.inr (.inl ⟨rfl,.inl ⟨_,g1⟩⟩)),Q6 rl1 h1 λxs G2 h2 vs H2 rs hr2 k2 rl2=>qb4 _ xs _ vs G2 H2 q _ hr2 (.ref p) rs h2 (af.back (k1.trans k2))⟩
   ·exact hp'.elim
def qeQ:T->T->T->Gp->(Gp->Prop)->Prop:=λo i v G q=>match o,i with
 |.ref p,.int k=>(match G p with|some (.dct kvs)=>kvs.length<sizeLine/\q (gu G p (.dct (EB kvs k v)))|_=>False)
 |_,_=>False
def RP (to ti:TE3):TG3:=λx τ G q=>to τ G λo G1=>ti τ G1 λi G2=>qeQ o i x G2 λG3=>q τ G3
def qk1 (ho : E3 X o to) (hi : E3 X i ti) (ha : ∀ v,assign (.Subscript o i pos) X.env v = (do
      let ov←holding [v] (eval o X.env)
      let iv←holding [v,ov] (eval i X.env)
      standAt pos
      holding [v,ov,iv] (setItem ov iv v)
      release [v,ov,iv] []):=by intro _;rfl):G3 X (.Subscript o i pos) (RP to ti):=
  qmi (qcu ho hi qcn ha) λv σ H Q ⟨x,τ,G,q,rx,rl,h,af⟩=>zw rl h λy G1 h1 u H1 ry hr1 k1 rl1=>zw rl1 h1 λz G2 h2 w H2 rz hr2 k2 rl2=>by
    have rx2:=(rx.keep rl.hp k1).keep hr1 k2;have ry2:=ry.keep hr1 k2;unfold qeQ at h2;split at h2
    · rename_i p k;split at h2
      · rename_i kvs e;cases ry2;cases rz;obtain ⟨vs,g1,r1⟩:=hr2.dct e;obtain ⟨us,e2,r2⟩:=NH k rx2 r1;have kk:Kp G2 H2 (gu G2 p (.dct (EB kvs k x))) (upd H2 p (.dK ((Q0 (EB kvs k x)).zip us))):=Kp.wr e;refine ⟨p,_,k,rfl,rfl,g1,by rw [qf4 r1];exact h2.1,?_⟩;rw [e2];exact af τ _ h2.2 σ _ (rl2.next (hr2.wrDc e r2) kk) ((k1.trans k2).trans kk)
      · exact h2.elim
    · exact h2.elim
def qb5:jE3 X (.Dict [] [] pos) qbI:=⟨qfj⟩
def qeZ {apos cpos:Pos} (ho:jE3 X o to) (ha:jA3 X (e::es) t)
  (hbase:attributeBase o "get" X.env (eval o X.env)=eval o X.env:=by rfl)
  (hfew:((backTo cpos (starEach (e::es) X.env)).all (λx=>!x.1)&&(backToKw cpos (keywordEach [] X.env)).all (λx=>x.1.isSome)
   && decide ((e::es).length+([]:List Keyword).length+(if ([]:List Keyword).isEmpty then 0 else 1)<30))=true:=by rfl)
  (hline:(apos.endLine==cpos.line)=true:=by rfl) (hs:starEach (e::es) X.env=(false,eval e X.env)::starEach es X.env:=by rfl) (hplain:(backTo cpos (starEach es X.env)).any (·.1)=false:=by rfl) :
  jE3 X (.Call (.Attribute o "get" apos) (e::es) [] cpos) (qj3 TH to t):=
 ⟨qlD (ho:=ho.h) (ha:=ha.h) (hbase:=hbase) (hfew:=hfew) (hline:=hline) (hs:=hs) (hplain:=hplain)⟩
def qfw (ho : jE3 X o to) (hi : jE3 X i ti) (ha : ∀ v,assign (.Subscript o i pos) X.env v = (do
      let ov←holding [v] (eval o X.env)
      let iv←holding [v,ov] (eval i X.env)
      standAt pos
      holding [v,ov,iv] (setItem ov iv v)
      release [v,ov,iv] []):=by intro _;rfl):jG3 X (.Subscript o i pos) (RP to ti):=
  ⟨qk1 (ho:=ho.h) (hi:=hi.h) (ha:=ha)⟩
end
end L3
namespace L3
open PySem PySem.Spec PyProof.Rows L2 PySem.SeqAt
section
variable {prog:Program} {w:World} {A:Around} {E:Value->Shared->Prop} {s:Shared}
def eqb {k:Bool} {bs:List Bool} {A:Around} {s:Shared}:∀ y,y∈(bs.map Value.bool).toArray->EqAt A s y (.bool k) (isBoolOf k y):=λy hy=>by
 have hy':y∈bs.map Value.bool:=by simpa using hy
 obtain ⟨b,_,rfl⟩:=mem_map.mp hy';exact EqAt.bool_bool b k
def qpF (k:Bool) (bs:List Bool):(bs.map Value.bool).countP (isBoolOf k)=bs.count k:=by
 rw [List.countP_map];rfl
def qfZ {l:Addr} {bs:List Bool} {k:Bool} {Q:Value->Shared->Prop} (hl:s.heap.IsList l (bs.map Value.bool).toArray)
  (h:Q (.int (bs.count k:Nat) s.toks) { s with toks:=s.toks+1 }):wpAny (model prog w) A (call (.builtin "list.count") [.ref l,.bool k]) Q E s:=by
 obtain ⟨⟨cls,dd,data,sl⟩,ho,hc,n,hd⟩:=id hl;simp only at hc hd;subst hc hd;refine call_meets PySem.F.slot_list_count ⟨_,ho,rfl⟩ PySem.F.entry_list_count (PySem.F.args_list_count_2 _ _) (list_countAt l (bs.map Value.bool).toArray n dd sl (.bool k) (isBoolOf k)) ⟨ho,λy hy=>eqb y hy,?_⟩;rw [show (bs.map Value.bool).toArray.toList=bs.map Value.bool from rfl,qpF];exact h
def qgs {l:Addr} {bs:List Bool} {k:Bool} {Q:Value->Shared->Prop} (hl:s.heap.IsList l (bs.map Value.bool).toArray) (hz:bs.length<=1000) (hk:k∈bs)
  (h:Q (.int (bs.idxOf k:Nat) s.toks) { s with toks:=s.toks+1 }):wpAny (model prog w) A (call (.builtin "list.index") [.ref l,.bool k]) Q E s:=by
 obtain ⟨⟨cls,dd,data,sl⟩,ho,hc,n,hd⟩:=id hl;simp only at hc hd;subst hc hd;have hj:bs.idxOf k<bs.length:=List.idxOf_lt_length_iff.mpr hk;refine call_meets PySem.F.slot_list_index ⟨_,ho,rfl⟩ PySem.F.entry_list_index (PySem.F.args_list_index_2 _ _)
  (list_indexAt l (bs.map Value.bool).toArray n dd sl (.bool k) (isBoolOf k) (bs.idxOf k) (by simpa using hj) (by omega) ?_ ?_) ⟨ho,λy hy=>eqb y hy,h⟩
 ·have e:(bs.map Value.bool).toArray[bs.idxOf k]'(by simpa using hj)=.bool bs[bs.idxOf k]:=by simp
  rw [e];show (bs[bs.idxOf k]==k)=true;simpa using List.getElem_idxOf hj
 ·intro m hm hlt;have hm':m<bs.length:=by simpa using hm
  have e:(bs.map Value.bool).toArray[m]'hm=.bool bs[m]:=by simp
  rw [e];show (bs[m]==k)=false;simpa using List.not_of_lt_findIdx (p:=(·==k)) (xs:=bs) (i:=m) hlt
end
section
variable {X:Cx}
def qaT:∀ {bs:List Bool} {its:List Value},zS (bs.map V.bl) its->its=bs.map Value.bool
 |[],_,r=>by cases r;rfl
 |b::bs,_,r=>by
  cases r with
  |cons a t=>
   have:=qaT t;subst this;cases a;rfl
def NM (K:Frg):V->List V->Hp->VK->Prop:=λx vs H Q=>∃ l bs k,x=.ref l/\vs=[.bl k]/\SqL K H l (bs.map V.bl)/\Q (.int (List.count k bs:Nat)) H
def N6:MtR X "list.count" (NM X.K):=by
 intro pins s σ H x vs v us Q I rx rv h;obtain ⟨l,bs,k,rfl,rfl,hq,q⟩:=h;cases rx;obtain ⟨u,rfl,ru⟩:=rv.one;cases ru;obtain ⟨its,rv',pl,hz⟩:=I.list hq;have:=qaT rv';subst this;exact qfZ pl.isList ⟨.int _,H,I.tok _,⟨_,rfl⟩,q⟩
def qam (K:Frg):V->List V->Hp->VK->Prop:=λx vs H Q=>∃ l bs k,x=.ref l/\vs=[.bl k]/\SqL K H l (bs.map V.bl)/\bs.length<=1000/\k∈bs/\Q (.int (List.idxOf k bs:Nat)) H
def NX:MtR X "list.index" (qam X.K):=by
 intro pins s σ H x vs v us Q I rx rv h;obtain ⟨l,bs,k,rfl,rfl,hq,hl,hk,q⟩:=h;cases rx;obtain ⟨u,rfl,ru⟩:=rv.one;cases ru;obtain ⟨its,rv',pl,hz⟩:=I.list hq;have:=qaT rv';subst this;exact qgs pl.isList hl hk ⟨.int _,H,I.tok _,⟨_,rfl⟩,q⟩
def R5:List T->Option (List Bool)
 |[]=>some []
 |.bl b::r=>(R5 r).map (b::·)
 |_=>none
def WH:∀ {ys:List T} {bs:List Bool},R5 ys=some bs->ys=bs.map T.bl
 |[],bs,h=>by cases h;rfl
 |y::ys,bs,h=>by
  cases y<;>try (cases h;done)
  case bl b=>
   obtain ⟨r,e,rfl⟩:=Option.map_eq_some_iff.mp h;rw [WH e];rfl
def qfD {K:Frg} {H:Hp}:∀ {bs:List Bool} {vs:List V},Rps K H (bs.map T.bl) vs->vs=bs.map V.bl
 |[],_,r=>by cases r;rfl
 |b::bs,_,r=>by
  cases r with
  |cons a t=>cases a;rw [qfD t];rfl
def qaz:T->List T->Gp->Q3->Prop:=λx xs G q=>match x,xs with
 |.ref l,[.bl k]=>(match zl G l with|some ys=>(match R5 ys with|some bs=>q (.int (List.count k bs:Nat)) G|none=>False)|none=>False)
 |_,_=>False
def qbm {K:Frg}:qlM K qaz (NM K):=λx xs v vs G H q Q hr rx rs h af=>by
 unfold qaz at h;split at h
 ·rename_i l k;split at h
  ·rename_i ys e0;split at h
   ·rename_i bs e1;cases rx;obtain ⟨u,rfl,r⟩:=MU rs;cases r;obtain ⟨us,hs,r2⟩:=jv hr e0;have:=WH e1;subst this;have:=qfD r2;subst this;exact ⟨l,bs,k,rfl,rfl,hs,af _ _ h _ _ (.int _) hr Kp.refl⟩
   ·exact h.elim
  ·exact h.elim
 ·exact h.elim
def NI:T->List T->Gp->Q3->Prop:=λx xs G q=>match x,xs with
 |.ref l,[.bl k]=>(match zl G l with|some ys=>(match R5 ys with|some bs=>bs.length<=1000/\k∈bs/\q (.int (List.idxOf k bs:Nat)) G|none=>False)|none=>False)
 |_,_=>False
def qbp {K:Frg}:qlM K NI (qam K):=λx xs v vs G H q Q hr rx rs h af=>by
 unfold NI at h;split at h
 ·rename_i l k;split at h
  ·rename_i ys e0;split at h
   ·rename_i bs e1;cases rx;obtain ⟨u,rfl,r⟩:=MU rs;cases r;obtain ⟨us,hs,r2⟩:=jv hr e0;have:=WH e1;subst this;have:=qfD r2;subst this;exact ⟨l,bs,k,rfl,rfl,hs,h.1,h.2.1,af _ _ h.2.2 _ _ (.int _) hr Kp.refl⟩
   ·exact h.elim
  ·exact h.elim
 ·exact h.elim
def qba {t:TA3} {e:Expr} {o:Expr} {to:TE3} {apos cpos:Pos} (ho:jE3 X o to) (ha:jA3 X [e] t)
  (hbase:attributeBase o "count" X.env (eval o X.env)=eval o X.env:=by rfl)
  (hfew:((backTo cpos (starEach [e] X.env)).all (λx=>!x.1)&&(backToKw cpos (keywordEach [] X.env)).all (λx=>x.1.isSome)
   && decide (([e]:List Expr).length+([]:List Keyword).length+(if ([]:List Keyword).isEmpty then 0 else 1)<30))=true:=by rfl)
  (hline:(apos.endLine==cpos.line)=true:=by rfl) (hs:starEach [e] X.env=(false,eval e X.env)::starEach [] X.env:=by rfl) (hplain:(backTo cpos (starEach [] X.env)).any (·.1)=false:=by rfl) :
  jE3 X (.Call (.Attribute o "count" apos) [e] [] cpos) (bm3 qaz to t):=⟨qnH PySem.F.slot_list_count PySem.F.type_list_count N6 qbm ho.h ha.h hbase hfew hline hs hplain⟩
def qan {t:TA3} {e:Expr} {o:Expr} {to:TE3} {apos cpos:Pos} (ho:jE3 X o to) (ha:jA3 X [e] t)
  (hbase:attributeBase o "index" X.env (eval o X.env)=eval o X.env:=by rfl)
  (hfew:((backTo cpos (starEach [e] X.env)).all (λx=>!x.1)&&(backToKw cpos (keywordEach [] X.env)).all (λx=>x.1.isSome)
   && decide (([e]:List Expr).length+([]:List Keyword).length+(if ([]:List Keyword).isEmpty then 0 else 1)<30))=true:=by rfl)
  (hline:(apos.endLine==cpos.line)=true:=by rfl) (hs:starEach [e] X.env=(false,eval e X.env)::starEach [] X.env:=by rfl) (hplain:(backTo cpos (starEach [] X.env)).any (·.1)=false:=by rfl) :
  jE3 X (.Call (.Attribute o "index" apos) [e] [] cpos) (bm3 NI to t):=⟨qnH PySem.F.slot_list_index PySem.F.type_list_index NX qbp ho.h ha.h hbase hfew hline hs hplain⟩
end
end L3
namespace L2
open PySem PySem.Spec PyProof.Rows
def WG (p:Addr->Bool) (h:Heap):Heap:=⟨h.objs.mapIdx λi o=>if p i then { o with data:=.freed } else o,h.life⟩
def QV (p:Addr->Bool) (h:Heap) (a:Addr):(WG p h).get? a=if p a then none else h.get? a:=by
 unfold WG Heap.get?;simp only [Array.getElem?_mapIdx];cases h.objs[a]? with
 |none=>simp
 |some o=>
  simp only [Option.map_some];by_cases c:p a=true
  ·rw [if_pos c,if_pos c]
  ·rw [if_neg c,if_neg c]
def jM {p:Addr->Bool} {h:Heap} {a:Addr} (c:p a=true):(WG p h).get? a=none:=by rw [QV,if_pos c]
def JR (p:Addr->Bool) (h:Heap):(WG p h).StaysIn h:=λb o e=>by
 rw [QV] at e;split at e
 ·cases e
 ·exact e
def ET {p:Addr->Bool} {h:Heap} {a:Addr} {o:Obj} (e:h.get? a=some o) (c:p a=false):(WG p h).get? a=some o:=by
 rw [QV,if_neg (by rw [c];decide)];exact e
def jb {h base base':Heap}:∀ {l:List Env},h.FunFrames base l->(∀ b∈frs l,base'.get? b=none)->h.FunFrames base' l
 |[],_,_=>trivial
 |env::Z2,⟨hk,⟨L,o,hf,hn,ho,hd⟩,hr⟩,z=>
  ⟨hk,⟨L,o,hf,z L (by unfold frs;rw [List.filterMap_cons,hf];exact List.mem_cons_self),ho,hd⟩,jb hr λb hb=>z b (by unfold frs;rw [List.filterMap_cons,hf];exact List.mem_cons_of_mem _ hb)⟩
def Fly (h:Heap) (e T:Addr) (cls a0:Value):Prop:=
 ∃ oe vs oT ts,h.get? e=some oe/\(oe.cls=cls/\vs[0]?=some a0)/\oe.data=.fields vs/\vs[1]?=some (.ref T)/\T≠e/\h.get? T=some oT/\oT.data=.fields ts/\ts[3]?=some .none
def Fly.w {h base:Heap} {e T:Addr} {cls a0:Value} (f:Fly h e T cls a0) (n:base.get? T=none):h.TracedW base e cls a0:=
 let ⟨oe,vs,oT,ts,h1,h2,h3,h4,h5,h6,h7,h8⟩:=f
 ⟨oe,vs,T,oT,ts,h1,h2,h3,h4,n,h5,h6,h7,h8⟩
def KJ {h base:Heap} {e:Addr} {cls a0:Value} (t:h.TracedW base e cls a0):∃ T,Fly h e T cls a0/\base.get? T=none:=
 let ⟨oe,vs,T,oT,ts,h1,h2,h3,h4,n,h5,h6,h7,h8⟩:=t
 ⟨T,⟨oe,vs,oT,ts,h1,h2,h3,h4,h5,h6,h7,h8⟩,n⟩
def Fly.rec1 {h:Heap} {e T:Addr} {cls a0:Value} (f:Fly h e T cls a0):∃ o vs,h.get? e=some o/\o.data=.fields vs:=
 let ⟨oe,vs,_,_,h1,_,h3,_⟩:=f;⟨oe,vs,h1,h3⟩
def Fly.rec2 {h:Heap} {e T:Addr} {cls a0:Value} (f:Fly h e T cls a0):∃ o vs,h.get? T=some o/\o.data=.fields vs:=
 let ⟨_,_,oT,ts,_,_,_,_,_,h6,h7,_⟩:=f;⟨oT,ts,h6,h7⟩
def CXe (P:Program) (w:World):CXT:=λouter H s E e s'=>∃ (ea T C:Addr) (a0:Value) (H':Hp),e=.ref ea/\Fly s'.heap ea T (.ref C) a0/\s.heap.get? ea=none/\s.heap.get? T=none/\H' ea=none/\H' T=none /\
 s'.os=s.os/\AllBare s'.gens/\Un (frs outer) [] H H' s.heap s'.heap/\HOk P w H' s'.heap/\E (.ref C) none H'
section
variable {X:Cx} {pins:List (Addr×Obj)} {σ:St} {H:Hp} {s:Shared}
structure Lv (l:List Env) (e T:Addr) (h h':Heap):Prop where
 keep:∀ b o,h.get? b=some o->b≠e->b≠T->b∉frs l->h'.get? b=some o
 slot:∀ b o,h.get? b=some o->b∈frs l->∃ sl,h'.get? b=some { o with slots:=sl }
def TX {h base:Heap} {l:List Env} (hl:h.FunFrames base l) {b:Addr} {o:Obj} {vs:Array Value} (e:h.get? b=some o) (d:o.data=.fields vs):b∉frs l:=λz=>by
 obtain ⟨_,o',e',n⟩:=hl.mem z;rw [e] at e';cases e';exact n _ d
def MO {M:Model} {A:Around} {E:Value->Shared->Prop} {base:Heap} {env:Env} {outer:List Env} {L e T:Addr} {cls a0:Value} {Q:Unit->Shared->Prop}
  (hfr:A.frames=some (env::outer)) (hf:env.frame=some L) (hl:s.heap.FunFrames base (env::outer)) (fl:Fly s.heap e T cls a0)
  (hQ:∀ h' T',Fly h' e T' cls a0->(T'=T\/s.heap.get? T'=none)->Lv (env::outer) e T s.heap h'->Q () { s with heap:=h' }):wpAny M A (leaving env (.ref e)) Q E s:=by
 classical
 obtain ⟨oe,ves,he,hed⟩:=fl.rec1;obtain ⟨oT,vts,hT,hTd⟩:=fl.rec2
 let p:Addr->Bool:=λb=>decide (b=e\/b=T\/b∈frs (env::outer))
 have pe:p e=true:=decide_eq_true (.inl rfl);have pT:p T=true:=decide_eq_true (.inr (.inl rfl));have hl':s.heap.FunFrames (WG p s.heap) (env::outer):=jb hl λb hb=>jM (decide_eq_true (.inr (.inr hb)));refine wpAny_leaving_nextW hfr hl' hf (fl.w (jM pT)) (JR p _) (jM pe) λh' hL=>?_;obtain ⟨k1,k2,k3,k4⟩:=hL;obtain ⟨T',fl',nT⟩:=KJ k3;refine hQ h' T' fl' ?_ ⟨λb o hb h1 h2 h3=>k1 b o (ET hb (decide_eq_false λz=>z.elim h1 λz=>z.elim h2 h3)),λb o hb h3=>?_⟩
 ·rw [QV] at nT;split at nT
  ·rename_i c;rcases of_decide_eq_true c with c|c|c
   ·obtain ⟨_,_,_,_,_,_,_,_,ne,_⟩:=fl';exact absurd c ne
   ·exact .inl c
   ·obtain ⟨oT',ts',g1,g2⟩:=fl'.rec2;exact absurd c (TX k2 g1 g2)
  ·exact .inr nT
 ·obtain ⟨_,o',e',n⟩:=hl.mem h3;rw [hb] at e';cases e';exact k4 b o hb n
def TZ {M:Model} {A:Around} {E:Value->Shared->Prop} {base h:Heap} {env:Env} {outer:List Env} {L e:Addr} {cls:Value} {args:List Value} {Q:Unit->Shared->Prop}
  (hfr:A.frames=some (env::outer)) (hf:env.frame=some L) (hl:h.FunFrames base (env::outer)) (hx:Heap.MadeExcOf h s.heap e cls args)
  (hQ:∀ h' T' t,Fly h' e T' cls (.ref t)->h.get? T'=none->(∀ b o,h.get? b=some o->b∉frs (env::outer)->h'.get? b=some o)->(∀ b o,h.get? b=some o->b∈frs (env::outer)->∃ sl,h'.get? b=some { o with slots:=sl })->Q () { s with heap:=h' }) :
  wpAny M A (leaving env (.ref e)) Q E s:=by
 classical
 let p:Addr->Bool:=λb=>decide (b∈frs (env::outer))
 have hl':h.FunFrames (WG p h) (env::outer):=jb hl λb hb=>jM (decide_eq_true hb);refine wpAny_leaves_madeW hfr hf (JR p h) hl' hx λh' t fl tu nt ups=>?_;obtain ⟨k1,k2,k3,k4⟩:=fl;obtain ⟨T',fl',nT⟩:=KJ k4;refine hQ h' T' t fl' ?_ (λb o hb h3=>k1 b o (ET hb (decide_eq_false h3))) λb o hb h3=>?_
 ·rw [QV] at nT;split at nT
  ·rename_i c;obtain ⟨oT',ts',g1,g2⟩:=fl'.rec2;obtain ⟨_,o',e',n⟩:=hl.mem (of_decide_eq_true c);obtain ⟨sl,q⟩:=ups T' o' (hx.keeps _ _ e') n;rw [q] at g1;cases g1;exact absurd g2 (n _)
  ·exact nT
 ·obtain ⟨_,o',e',n⟩:=hl.mem h3;rw [hb] at e';cases e';exact ups b o (hx.keeps _ _ hb) n
end
def JY.there {P:Program} {w:World} {H:Hp} {h:Heap} {a:Addr} {o:HO} (x:JY P w H h a o):∃ u,h.get? a=some u:=by
 cases o with
 |lst xs=>obtain ⟨_,_,_,_,e⟩:=x;exact ⟨_,e⟩
 |tup xs=>obtain ⟨_,_,_,ob,e,_⟩:=x;exact ⟨_,e⟩
 |dK kvs=>obtain ⟨_,_,_,_,o,_,_,e,_⟩:=x;exact ⟨_,e⟩
 |dT kvs=>obtain ⟨_,_,_,_,o,_,_,e,_⟩:=x;exact ⟨_,e⟩
 |set S n=>obtain ⟨o,_,_,_,e,_⟩:=x;exact ⟨_,e⟩
 |ins C dx fs=>obtain ⟨_,_,_,e,_⟩:=x;exact ⟨_,e⟩
 |own y=>obtain ⟨_,e⟩:=x;exact ⟨_,e⟩
 |xd fs=>obtain ⟨_,⟨_,_,_,e,_⟩,_⟩:=x;exact ⟨_,e⟩
 |rng lo hi=>obtain ⟨_,_,_,e⟩:=x;exact ⟨_,e⟩
 |frz ob u=>obtain ⟨e,_⟩:=x;exact ⟨_,e⟩
 |tbl ps=>exact ⟨_,(show h.get? a=some _ from x)⟩
 |met f y=>exact ⟨_,(show h.get? a=some _ from x)⟩
 |ext φ=>obtain ⟨_,⟨_,e⟩,_⟩:=x;exact ⟨_,e⟩
def HOk.nil {P:Program} {w:World} {H:Hp} {h:Heap} {a:Addr} (x:HOk P w H h) (e:h.get? a=none):H a=none:=by
 cases q:H a with
 |none=>rfl
 |some u=>
  obtain ⟨z,y⟩:=(x a u q).there;rw [e] at y;cases y
def HOk.tracked {P:Program} {w:World} {H:Hp} {h h':Heap} (x:HOk P w H h) (k:∀ b u,H b≠none->h.get? b=some u->h'.get? b=some u):HOk P w H h':=λa o e=>
 (x a o e).stay (λb u z q=>k b u (λn=>by
  rcases z with rfl|z
  ·rw [e] at n;cases n
  ·rw [z] at n;cases n) q) (λ_ q=>q) λ_ _ q=>q
section
variable {P:Program} {w:World} {K:Frg} {mg:Str->Option Value} {base:Heap} {N:List Str} {qual:Str} {scope:Scope} {f:Addr} {cd:Value} {A:Around} {outer:List Env} {s0:Shared} {H0:Hp} {E:XK} {CX:CXT}
 {pins:List (Addr×Obj)} {σ:St} {H:Hp} {s:Shared}
def SX {h':Heap} {e T T' C:Addr} {a0:Value} (I:Inv (J0 CX P w K mg base N qual scope f cd A outer s0 H0 E) pins σ H s)
  (ne:s0.heap.get? e=none) (nT:s0.heap.get? T=none) (nT':s0.heap.get? T'=none) (He:H e=none) (HT:H T=none) (HT':H T'=none) (fl:Fly h' e T' (.ref C) a0) (lv:Lv (envOfC qual scope s0.heap.objs.size f cd::outer) e T s.heap h') (hE:E (.ref C) none H) :
  CXe P w outer H0 s0 E (.ref e) { s with heap:=h' }:=by
 have nl:∀ {b o},s0.heap.get? b=some o->b∉frs outer->b∉frs (envOfC qual scope s0.heap.objs.size f cd::outer):=λ{b o} q hb z=>by
  have z':b∈s0.heap.objs.size::frs outer:=z;rcases mem_cons.mp z' with z|z
  ·subst z;exact absurd (Heap.lt_size q) (Nat.lt_irrefl _)
  ·exact hb z
 have sub:∀ {b},b∈frs outer->b∈frs (envOfC qual scope s0.heap.objs.size f cd::outer):=λ{b} z=>(List.mem_cons_of_mem _ z:b∈s0.heap.objs.size::frs outer)
 have noex:∀ b:Addr,b∉(J0 CX P w K mg base N qual scope f cd A outer s0 H0 E).ex:=λb z=>absurd (show b∈([]:List Addr) from z) (by simp);have n1:∀ {b o},s0.heap.get? b=some o->b≠e:=λq z=>by subst z;rw [ne] at q;cases q
 have n2:∀ {b o},s0.heap.get? b=some o->b≠T:=λq z=>by subst z;rw [nT] at q;cases q
 refine ⟨e,T',C,a0,H,rfl,fl,ne,nT',He,HT',I.os,I.bare,?_,?_,hE⟩
 ·refine ⟨λb o q n hb _=>?_,λb o q n hb _=>?_,λb o q n _=>I.base.free b o q n (noex b),λb o q _=>?_,I.base.tups,I.base.frzs,I.base.tbls⟩
  ·exact lv.keep b o (I.base.keep b o q n hb (noex b)) (n1 q) (n2 q) (nl q hb)
  ·obtain ⟨sl,q1⟩:=I.base.slot b o q n hb (noex b);obtain ⟨sl',q2⟩:=lv.slot b _ q1 (sub hb);exact ⟨sl',q2⟩
  ·obtain ⟨o',q1⟩:=I.base.there b o q (noex b);by_cases hb:b∈frs (envOfC qual scope s0.heap.objs.size f cd::outer)
   ·obtain ⟨sl',q2⟩:=lv.slot b _ q1 hb;exact ⟨_,q2⟩
   ·exact ⟨_,lv.keep b _ q1 (n1 q) (n2 q) hb⟩
 ·exact I.hok.tracked λb u z q=>lv.keep b u q (λy=>by subst y;exact z He) (λy=>by subst y;exact z HT) λy=>z (I.stkFree b y)
def qgS:LI (CXe P w) (J0 (CXe P w) P w K mg base N qual scope f cd A outer s0 H0 E) E:=by
 intro pins σ H s e s' I h;obtain ⟨ea,T,C,a0,H',rfl,fl,ne,nT,He,HT,os,bare,un,hok,hE⟩:=h;have I':Inv (J0 (CXe P w) P w K mg base N qual scope f cd A outer s0 H0 E) pins σ H' s':=I.call' (ch:=[]) os un hok bare (λb z=>absurd z (by simp));have noex:∀ b:Addr,b∉(J0 (CXe P w) P w K mg base N qual scope f cd A outer s0 H0 E).ex:=λb z=>absurd (show b∈([]:List Addr) from z) (by simp);have up:∀ {b},s.heap.get? b=none->s0.heap.get? b=none:=λ{b} q=>by
  cases z:s0.heap.get? b with
  |none=>rfl
  |some o=>obtain ⟨o',y⟩:=I.base.there b o z (noex b);rw [q] at y;cases y
 have up':∀ {b},s'.heap.get? b=none->s0.heap.get? b=none:=λ{b} q=>by
  cases z:s0.heap.get? b with
  |none=>rfl
  |some o=>obtain ⟨o',y⟩:=I'.base.there b o z (noex b);rw [q] at y;cases y
 refine MO (T:=T) I.ok.frames rfl I'.stack fl λh' T' fl' hT' lv=>?_;rcases hT' with rfl|hT'
 ·exact SX I' (up ne) (up nT) (up nT) He HT HT fl' lv hE
 ·exact SX I' (up ne) (up nT) (up' hT') He HT (I'.hok.nil hT') fl' lv hE
def qfY {h':Heap} {e C:Addr} {args:List Value} (I:Inv (J0 (CXe P w) P w K mg base N qual scope f cd A outer s0 H0 E) pins σ H s) (hx:Heap.MadeExcOf s.heap h' e (.ref C) args) (hE:E (.ref C) none H) :
  (J0 (CXe P w) P w K mg base N qual scope f cd A outer s0 H0 E).xe (.ref e) { s with heap:=h' }:=by
 have noex:∀ b:Addr,b∉(J0 (CXe P w) P w K mg base N qual scope f cd A outer s0 H0 E).ex:=λb z=>absurd (show b∈([]:List Addr) from z) (by simp);have up:∀ {b},s.heap.get? b=none->s0.heap.get? b=none:=λ{b} q=>by
  cases z:s0.heap.get? b with
  |none=>rfl
  |some o=>obtain ⟨o',y⟩:=I.base.there b o z (noex b);rw [q] at y;cases y
 refine TZ (s:={ s with heap:=h' }) (h:=s.heap) I.ok.frames rfl I.stack hx λh2 T' t fl nT k1 k2=>?_;show CXe P w outer H0 s0 E (.ref e) { s with heap:=h2 };exact SX (T:=e) I (up hx.new) (up hx.new) (up nT) (I.hok.nil hx.new) (I.hok.nil hx.new) (I.hok.nil nT) fl ⟨λb o q _ _ hb=>k1 b o q hb,k2⟩ hE
end
section
variable {X:Cx} {x:Str} {C:Addr} {B Bn newId nid initId inN:String} {bm bmN:List Value} {np cpos pos:Pos} {e:Expr} {es:List Expr} {t:TA} {EE:Hp->Prop}
def qcc (O:OwnCls x C bm newId X.mg X.base) (Fn:ExcBaseFacts Bn newId inN bmN) (hBn:bm.contains (.type Bn)=true) (FB:ExcBaseFacts B nid initId bm) (hc:X.calm=true) (hg:Gl X x) (ha:PA X (e::es) t)
  (hx:∀ (pins:List (Addr×Obj)) (σ:St) (H:Hp) (s:Shared) (ea:Addr) (h':Heap) (vs:List Value),Inv X pins σ H s->Heap.MadeExcOf s.heap h' ea (.ref C) vs->EE H->X.xe (.ref ea) { s with heap:=h' })
  (hdb:(x==("__debug__" : Str))=false:=by decide) (he:starEach (e::es) X.env=(false,eval e X.env)::starEach es X.env:=by rfl) (hpl:(backTo cpos (starEach es X.env)).any (·.1)=false:=by rfl) :
  PS X (.Raise (some (.Call (.Name x np) (e::es) [] cpos)) none pos) (λ_ σ H=>t σ H λvs H1=>vs.length<=sizeLine/\EE H1):=by
 intro pins s σ H D I h;obtain ⟨tl,N,nm,q,bs,hdct,sn,sub,ab,col,dd,k0,k1,k2,k3,k5,mN,hC,hN,hni,T⟩:=O.obj;refine wpAny_Raise_call_subU (C:=C) (nm:=nm) (q:=q) (N:=N) (bs:=bs) (bm:=tl) (hdct:=hdct) (sn:=sn) (sub:=sub) (ab:=ab) (col:=col) (dd:=dd) (k0:=k0) (k1:=k1) (k2:=k2) (k3:=k3) (k5:=k5)
  Fn hBn FB (mN:=mN) (T.hasType FB.hasBase) (I.ok.hd hc) (by rw [he];show (false||(backTo cpos (starEach es X.env)).any (·.1))=false;rw [hpl];rfl) hni (D9 I hg O.bound ⟨rfl,?_⟩ hdb)
 have hA:=ha cpos pins s σ H _ I h;rw [he] at hA ⊢;exact Calls.evalArgs_plain (thn hA λus s2 ⟨vs,H2,I2,r,q⟩=>⟨rfl,by rw [← r.length];exact q.1,I2.bk _ _ hC,hN.keeps I2.bk,T.keeps I2.bk,λh' ea hm=>hx _ _ _ _ _ _ _ I2 hm q.2⟩)
end
end L2
namespace L3
open PySem PySem.Spec PyProof.Rows L2
abbrev X3:=Addr->Gp->Prop
abbrev Spx:=List T->Gp->X3->Prop
def EX (K:Frg) (dx:X3):XK:=λcls _ H=>∃ C G,cls=.ref C/\HR K G H/\dx C G
def qoU (K:Frg) (sp:Spx):Sp:=λvs H _ E=>∃ ts G dx,HR K G H/\Rps K H ts vs/\sp ts G dx/\∀ cls H',EX K dx cls none H'->E cls none H'
def LM (C:Addr) (dx:X3) (t:TA3):TS3:=λ_ τ G=>t τ G λxs G1=>xs.length<=sizeLine/\dx C G1
section
variable {X:Cx} {x:Str} {C:Addr} {B Bn newId nid initId inN:String} {bm bmN:List Value} {np cpos pos:Pos} {e:Expr} {es:List Expr} {t:TA3} {dx:X3}
def qft (O:OwnCls x C bm newId X.mg X.base) (Fn:ExcBaseFacts Bn newId inN bmN) (hBn:bm.contains (.type Bn)=true) (FB:ExcBaseFacts B nid initId bm) (hc:X.calm=true) (hg:Gl X x) (ha:A3 X (e::es) t)
  (hx:∀ (pins:List (Addr×Obj)) (σ:L2.St) (H:Hp) (s:Shared) (ea:Addr) (h':Heap) (vs:List Value),Inv X pins σ H s->Heap.MadeExcOf s.heap h' ea (.ref C) vs->EX X.K dx (.ref C) none H->X.xe (.ref ea) { s with heap:=h' })
  (hdb:(x==("__debug__" : Str))=false:=by decide) (he:starEach (e::es) X.env=(false,eval e X.env)::starEach es X.env:=by rfl) (hpl:(backTo cpos (starEach es X.env)).any (·.1)=false:=by rfl) :
  S3 X (.Raise (some (.Call (.Name x np) (e::es) [] cpos)) none pos) (LM C dx t):=
 K1 (qcc (EE:=EX X.K dx (.ref C) none) O Fn hBn FB hc hg ha hx hdb he hpl) λD σ H ⟨τ,G,d,rl,h,af⟩=>Q6 rl h λxs G1 h1 vs H1 rs hr1 k1 rl1=>⟨by rw [← rs.length];exact h1.1,C,G1,rfl,hr1,h1.2⟩
end
def qll {P:Program} {w:World} {K:Frg} {mg:Str->Option Value} {base:Heap} {x qual:Str} {st:Stmt} {f:Addr} {fd:FuncData} {N ps:List Str} {k:Nat} {sp:Spx} {t3:X3->TS3} (F:Fun K x qual st f fd) (S:FnScope N ps (qi st))
  (body:∀ (dx:X3) (cdv:Value) (A:Around) (outer:List Env) (s:Shared) (H:Hp) (E:XK),(∀ cls H',EX K dx cls none H'->E cls none H')->Room k (A.deeper (envOfC qual (qi st) s.heap.objs.size f cdv)) ->
   B3 (J0 (CXe P w) P w K mg base N qual (qi st) f cdv A outer s H E) (zk st) (t3 dx))
  (read:∀ ts G dx,sp ts G dx->ts.length=ps.length/\t3 dx { nx:=λ_ _=>False,rt:=λ_ _=>False } (qj N ts) G):FnOk P w K mg base (CXe P w) (k+1) f fd ps (qoU K sp):=by
 obtain ⟨oc,od,kV,doc,pm,an,cdv,ct,osl,rfl,lk,hcd⟩:=F.ex;refine qi1 lk hcd S (λvs H Q E ⟨ts,G,dx,h1,h2,h3,h4⟩=>by rw [← h2.length];exact (read ts G dx h3).1) λA outer s H vs Q E hr ⟨ts,G,dx,h1,h2,h3,h4⟩=>?_;exact ⟨_,body dx cdv A outer s H E h4 hr,qj N ts,G,_,D0 h1 h2,(read ts G dx h3).2,⟨λ_ _ z=>z.elim,λ_ _ z=>z.elim,λ_ _ z=>z.elim,λ_ _ z=>z.elim⟩⟩
section
variable {K:Frg} {G G':Gp} {H H':Hp}
mutual
def Rp.sub (z:∀ a vs,SqT K H a vs->SqT K H' a vs):∀ {x:T} {v:V},Rp K H x v->Rp K H' x v
 |_,_,.non=>.non
 |_,_,.bl b=>.bl b
 |_,_,.int i=>.int i
 |_,_,.str x=>.str x
 |_,_,.ref a=>.ref a
 |_,_,.tup h hs=>.tup (z _ _ h) (Rps.sub z hs)
def Rps.sub (z:∀ a vs,SqT K H a vs->SqT K H' a vs):∀ {x:List T} {v:List V},Rps K H x v->Rps K H' x v
 |_,_,.nil=>.nil
 |_,_,.cons a b=>.cons (Rp.sub z a) (Rps.sub z b)
end
def HR.sub (hr:HR K G H) (z:∀ a vs,SqT K H a vs->SqT K H' a vs) (k:∀ a u,G a≠none->H a=some u->H' a=some u):HR K G H':=λa o e=>by
 have q:=hr a o e;have n:G a≠none:=by rw [e];simp
 cases o with
 |lst xs=>obtain ⟨vs,h1,h2⟩:=q;exact ⟨vs,k _ _ n h1,h2.sub z⟩
 |frz xs=>obtain ⟨vs,⟨o,h1⟩,h2⟩:=q;exact ⟨vs,⟨o,k _ _ n h1⟩,h2.sub z⟩
 |dct kvs=>obtain ⟨vs,h1,h2⟩:=q;exact ⟨vs,k _ _ n h1,h2.sub z⟩
 |exn C=>exact k _ _ n q
def HR.kind (hr:HR K G H) {a:Addr} (n:G a≠none):(∃ vs,H a=some (.lst vs))\/(∃ o vs,H a=some (.frz o (.lst vs)))\/(∃ kvs,H a=some (.dK kvs))\/∃ φ,H a=some (.ext φ):=by
 cases e:G a with
 |none=>exact absurd e n
 |some o=>
  have q:=hr a o e;cases o with
  |lst xs=>obtain ⟨vs,h1,_⟩:=q;exact .inl ⟨vs,h1⟩
  |frz xs=>obtain ⟨vs,⟨o,h1⟩,_⟩:=q;exact .inr (.inl ⟨o,vs,h1⟩)
  |dct kvs=>obtain ⟨vs,h1,_⟩:=q;exact .inr (.inr (.inl ⟨_,h1⟩))
  |exn C=>exact .inr (.inr (.inr ⟨_,q⟩))
end
def lSx (K:Frg) (sp:Spx):Sp:=λvs H _ E=>∃ ts G dx,HR K G H/\Rps K H ts vs/\sp ts G dx/\∀ C G' H',HR K G' H'->Kp G H G' H'->dx C G'->E (.ref C) none H'
def Hid (G:Gp) (H:Hp) (a:Addr):Prop:=H a≠none/\G a=none/\∀ vs,¬ L2.Rd H a (.tup vs)
def qiv {P:Program} {w:World} {K:Frg} {mg:Str->Option Value} {base:Heap} {f:Addr} {fd:FuncData} {ps:List Str} {k:Nat} {sp:Spx} (F:FnOk P w K mg base (CXe P w) k f fd ps (qoU K sp)):FnOk P w K mg base (CXe P w) k f fd ps (lSx K sp):=by
 classical
 refine ⟨λvs H Q E ⟨ts,G,dx,h1,h2,h3,h4⟩=>F.len vs H Q (EX K dx) ⟨ts,G,dx,h1,h2,h3,λ_ _ z=>z⟩,λA outer s H args us vs Q E hr e0 hb hv ⟨ts,G,dx,h1,h2,h3,h4⟩=>?_⟩
 let H1:Hp:=λa=>if Hid G H a then none else H a
 have n1:∀ {a},Hid G H a->H1 a=none:=λ{a} h=>if_pos h;have n2:∀ {a},¬ Hid G H a->H1 a=H a:=λ{a} h=>if_neg h;have n3:∀ {a},H a=none->¬ Hid G H a:=λ{a} h z=>z.1 h;have n4:∀ {a},H a=none->H1 a=none:=λ{a} h=>by rw [n2 (n3 h)];exact h
 have n5:∀ {a vs},L2.Rd H a (.tup vs)->¬ Hid G H a:=λ{a vs} h z=>z.2.2 _ h;have n6:∀ {a},G a≠none->¬ Hid G H a:=λ{a} h z=>h z.2.1;have sq:∀ a vs,SqT K H a vs->SqT K H1 a vs:=λa vs h=>by
  rcases h with h|h
  ·have e:=n2 (n5 h);rcases h with h|⟨o,h⟩
   ·exact .inl (.inl (e.trans h))
   ·exact .inl (.inr ⟨o,e.trans h⟩)
  ·exact .inr h
 have ownH:∀ {a b},H b=some (.own a)->Hid G H b:=λ{a b} h=>⟨by rw [h];simp,by
  cases e:G b with
  |none=>rfl
  |some o=>
   rcases h1.kind (a:=b) (by rw [e];simp) with ⟨_,y⟩|⟨_,_,y⟩|⟨_,y⟩|⟨_,y⟩<;>(rw [h] at y;cases y),λvs z=>by
  rcases z with z|⟨o,z⟩<;>(rw [h] at z;cases z)⟩
 have ok1:HOk P w H1 s.heap:=λa o e=>by
  by_cases c:Hid G H a
  ·rw [n1 c] at e;cases e
  ·rw [n2 c] at e;have x:=e0.hok a o e;by_cases g:G a=none
   ·have y:∃ vs,L2.Rd H a (.tup vs):=by
     by_cases z:∃ vs,L2.Rd H a (.tup vs)
     ·exact z
     ·exact absurd ⟨by rw [e];simp,g,λvs y=>z ⟨vs,y⟩⟩ c
    obtain ⟨vs,y⟩:=y;rcases y with y|⟨ob,y⟩
    ·rw [e] at y;cases y;exact x
    ·rw [e] at y;cases y;exact x
   ·rcases h1.kind g with ⟨_,y⟩|⟨_,_,y⟩|⟨_,y⟩|⟨_,y⟩
    ·rw [e] at y;cases y;exact x
    ·rw [e] at y;cases y;exact x
    ·rw [e] at y;cases y;exact x
    ·rw [e] at y;cases y;exact x
 have E0':Env0 P w K mg base A outer s H1:=⟨e0.frames,e0.mod,λb o q=>⟨(e0.bs b o q).1,n4 (e0.bs b o q).2⟩,e0.bsz,e0.funs,λb q=>n4 (e0.frf b q),ok1,e0.bare⟩
 refine codeAny_mono (F.run A outer s H1 args us vs (λ_ _=>False) (EX K dx) hr E0' hb hv ⟨ts,G,dx,h1.sub sq λa u n q=>(n2 (n6 n)).trans q,h2.sub sq,h3,λ_ _ z=>z⟩) λr s' h=>?_;cases r with
 |ok fl=>
  cases fl with
  |ret u=>obtain ⟨_,_,_,_,_,_,_,z⟩:=h;exact z.elim
  |_=>exact h
 |error e=>
  obtain ⟨ea,T,C,a0,H2,rfl,fl,ne,nT,He,HT,os,bare,un,hok,C',G',eC,hr',hd⟩:=h;cases eC
  let H3:Hp:=λa=>if Hid G H a then H a else H2 a
  have m1:∀ {a},Hid G H a->H3 a=H a:=λ{a} h=>if_pos h;have m2:∀ {a},¬ Hid G H a->H3 a=H2 a:=λ{a} h=>if_neg h;have fs:∀ {b},Hid G H b->b∉frs outer:=λ{b} h z=>h.1 (e0.frf b z);have th:∀ {b},Hid G H b->∃ o,s.heap.get? b=some o:=λ{b} h=>by
   cases e:H b with
   |none=>exact absurd e h.1
   |some o=>exact (e0.hok b o e).there
  have kp:∀ {b o},Hid G H b->s.heap.get? b=some o->s'.heap.get? b=some o:=λ{b o} h q=>un.keep b o q (n1 h) (fs h) (by simp);have fr2:∀ {b},Hid G H b->H2 b=none:=λ{b} h=>let ⟨o,q⟩:=th h;un.free b o q (n1 h) (by simp)
  have m3:∀ {a o},H2 a=some o->H3 a=some o:=λ{a o} q=>by
   rw [m2 (λz=>by rw [fr2 z] at q;cases q)];exact q
  have nh:∀ {b},s.heap.get? b=none->¬ Hid G H b:=λ{b} q z=>by obtain ⟨o,y⟩:=th z;rw [q] at y;cases y
  have tp:∀ b xs,H b=some (.tup xs)->H3 b=some (.tup xs):=λb xs q=>m3 (un.tups b xs ((n2 (n5 (.inl q))).trans q));have fz:∀ b o u,H b=some (.frz o u)->H3 b=some (.frz o u):=λb o u q=>by
   by_cases c:Hid G H b
   ·rw [m1 c];exact q
   ·exact m3 (un.frzs b o u ((n2 c).trans q))
  refine ⟨ea,T,C,a0,H3,rfl,fl,ne,nT,(m2 (nh ne)).trans He,(m2 (nh nT)).trans HT,os,bare,?_,?_,h4 C G' H3 ?_ ?_ hd⟩
  ·refine ⟨λb o q n=>un.keep b o q (n4 n),λb o q n=>un.slot b o q (n4 n),λb o q n hx=>(m2 (n3 n)).trans (un.free b o q (n4 n) hx),un.there,tp,fz,λb ps q=>?_⟩;by_cases c:Hid G H b
   ·exact ⟨#[],by rw [m1 c,q];simp⟩
   ·obtain ⟨more,y⟩:=un.tbls b ps ((n2 c).trans q);exact ⟨more,m3 y⟩
  ·intro a o e;by_cases c:Hid G H a
   ·rw [m1 c] at e;refine (e0.hok a o e).stay (λb u y q=>?_) (λb q=>(m1 (ownH q)).trans q) tp;rcases y with rfl|y
    ·exact kp c q
    ·exact kp (ownH y) q
   ·rw [m2 c] at e;exact (hok a o e).stay (λ_ _ _ q=>q) (λb q=>m3 q) λb xs q=>m3 q
  ·refine hr'.sub (λa vs h=>?_) λa u _ q=>m3 q;rcases h with h|h
   ·rcases h with h|⟨o,h⟩
    ·exact .inl (.inl (m3 h))
    ·exact .inl (.inr ⟨o,m3 h⟩)
   ·exact .inr h
  ·intro a o q g;by_cases c:Hid G H a
   ·exact ⟨(m1 c).trans q,hr'.free (fr2 c)⟩
   ·have y:∃ vs,L2.Rd H a (.tup vs):=by
     by_cases z:∃ vs,L2.Rd H a (.tup vs)
     ·exact z
     ·exact absurd ⟨by rw [q];simp,g,λvs y=>z ⟨vs,y⟩⟩ c
    obtain ⟨vs,y⟩:=y;rcases y with y|⟨ob,y⟩
    ·rw [q] at y;cases y;exact ⟨tp a vs q,hr'.noneT (.inl (un.tups a vs ((n2 c).trans q)))⟩
    ·rw [q] at y;cases y;exact ⟨fz a _ _ q,hr'.noneT (.inr ⟨_,un.frzs a _ _ ((n2 c).trans q)⟩)⟩
end L3
namespace L2
open PySem PySem.Spec PyProof.Rows
def qiP {l:List Env} {e T:Addr} {H H':Hp} {h h1 h2:Heap} (u:Un (frs l) [] H H' h h1) (v:Lv l e T h1 h2) (ne:h.get? e=none) (nT:h.get? T=none):Un (frs l) [] H H' h h2:=by
 have n1:∀ {b o},h.get? b=some o->b≠e:=λq z=>by subst z;rw [ne] at q;cases q
 have n2:∀ {b o},h.get? b=some o->b≠T:=λq z=>by subst z;rw [nT] at q;cases q
 refine ⟨λb o q n hb hx=>v.keep b o (u.keep b o q n hb hx) (n1 q) (n2 q) hb,λb o q n hb hx=>?_,u.free,λb o q hx=>?_,u.tups,u.frzs,u.tbls⟩
 ·obtain ⟨sl,q1⟩:=u.slot b o q n hb hx;obtain ⟨sl',q2⟩:=v.slot b _ q1 hb;exact ⟨sl',q2⟩
 ·obtain ⟨o',q1⟩:=u.there b o q hx;by_cases hb:b∈frs l
  ·obtain ⟨sl',q2⟩:=v.slot b _ q1 hb;exact ⟨_,q2⟩
  ·exact ⟨_,v.keep b _ q1 (n1 q) (n2 q) hb⟩
section
variable {X:Cx} {pins:List (Addr×Obj)} {σ:St} {H H':Hp} {s s':Shared}
def qoi {M:Model} {A:Around} {E:Value->Shared->Prop} {base:Heap} {env:Env} {outer:List Env} {L e T:Addr} {cls a0:Value} {Q:Unit->Shared->Prop}
  (hfr:A.frames=some (env::outer)) (hf:env.frame=some L) (hl:s.heap.FunFrames base (env::outer)) (fl:Fly s.heap e T cls a0)
  (hQ:∀ h' T',Fly h' e T' cls a0->(T'=T\/s.heap.get? T'=none)->Lv (env::outer) e T s.heap h'->Q () { s with heap:=h' }):wpAny M A (noteFrame (.ref e) env) (λ_ s2=>wpAny M A (setFlight (.ref e) none) Q E s2) E s:=by
 classical
 obtain ⟨oe,ves,he,hed⟩:=fl.rec1;obtain ⟨oT,vts,hT,hTd⟩:=fl.rec2
 let p:Addr->Bool:=λb=>decide (b=e\/b=T\/b∈frs (env::outer))
 have pe:p e=true:=decide_eq_true (.inl rfl);have pT:p T=true:=decide_eq_true (.inr (.inl rfl));have hl':s.heap.FunFrames (WG p s.heap) (env::outer):=jb hl λb hb=>jM (decide_eq_true (.inr (.inr hb)));refine wpAny_looks_onW (base:=WG p s.heap) hfr hf ⟨JR p _,jM pe,hl',fl.w (jM pT)⟩ λh4 held up4=>?_;refine wpAny_landsW (s:={ s with heap:=h4 }) held λh5 fly up5=>?_;obtain ⟨k1,_,k2,k3⟩:=fly;obtain ⟨T',fl',nT⟩:=KJ k3;refine hQ h5 T' fl' ?_ ⟨λb o hb h1 h2 h3=>k1 b o (ET hb (decide_eq_false λz=>z.elim h1 λz=>z.elim h2 h3)),λb o hb h3=>?_⟩
 ·rw [QV] at nT;split at nT
  ·rename_i c;rcases of_decide_eq_true c with c|c|c
   ·obtain ⟨_,_,_,_,_,_,_,_,ne,_⟩:=fl';exact absurd c ne
   ·exact .inl c
   ·obtain ⟨oT',ts',g1,g2⟩:=fl'.rec2;exact absurd c (TX k2 g1 g2)
  ·exact .inr nT
 ·obtain ⟨_,o',e',n⟩:=hl.mem h3;rw [hb] at e';cases e';obtain ⟨sl,q⟩:=up4 b o hb n;obtain ⟨sl',q'⟩:=up5 b _ q n;exact ⟨sl',q'⟩
end
section
variable {M:Model} {A:Around} {E:Value->Shared->Prop}
variable {nm q nm' q':Str} {C N B N':Addr} {bs bm bs' bm':List Value} {hdct hdct':Bool} {sn sn':List Str} {sub sub':List Value} {ab ab':Bool} {col col':Option Bool} {dd dd':Option Addr} {k0 k1 k2 k3 k5 l0 l1 l2 l3 l5:Option Value} {newId newId':String}
def qe4 {h:Heap} {g:Array GenState} {d:Drawn} {t:Nat} {os:OsState} {e:Addr} {oe:Obj} {b:Bool} {Q:Bool->Shared->Prop}
  (hC:h.get? C=some (excClassObj nm q C N bs bm hdct sn sub ab col dd k0 k1 k2 k3 k5 newId)) (hB:h.get? B=some (excClassObj nm' q' B N' bs' bm' hdct' sn' sub' ab' col' dd' l0 l1 l2 l3 l5 newId'))
  (he:h.get? e=some oe) (hcls:oe.cls=.ref C) (hbase:bm'.contains (.type "BaseException")=true) (hin:(Value.ref C::bm).contains (.ref B)=true)
  (hq:Q true ⟨h,g,d,t,os⟩):wpAny M A (excMatches (.ref e) (.ref B)) Q E ⟨h,g,d,t,os⟩:=by
 have hcB:(Value.ref B::bm').contains (.type "BaseException")=true:=by rw [List.contains_cons,hbase,Bool.or_true]
 have f:=tc_notTuple;unfold excMatches
 repeat (first|(with_reducible refine wpAny_loadPart_at he ?_;rw [hcls])|with_reducible refine wpAny_loadPart_at hB ?_|with_reducible refine wpAny_loadPart_at hC ?_|(with_reducible refine wpAny_isSubtype_exc hB ?_;rw [hcB])|(with_reducible refine wpAny_isSubtype_exc hC ?_;rw [hin])|wp_step)
 exact hq
end
open L3 (IsX)
def qkZ {h:Heap} {e T C:Addr} {a0:Value} (f:Fly h e T (.ref C) a0):IsX e C h:=
 let ⟨oe,vs,_,_,h1,h2,h3,_⟩:=f;⟨oe,vs,h1,h2.1,h3⟩
def qgJ {P:Program} {w:World} {H:Hp} {h:Heap} {a C:Addr} (x:IsX a C h):JY P w H h a (.ext (IsX a C)):=
 ⟨x,let ⟨o,_,e,_⟩:=x;⟨o,e⟩,λh1 h2 ⟨o,vs,e,c,d⟩ k=>⟨o,vs,k _ e,c,d⟩⟩
section
variable {X:Cx} {pins:List (Addr×Obj)} {σ:St} {H:Hp} {s:Shared} {ea:Addr} {o:HO}
def Inv.track (I:Inv X pins σ H s) (h0:H ea=none) (n0:X.s₀.heap.get? ea=none) (nl:ea≠X.env.locals) (nc:∀ x c,X.env.cells.lookup x=some c->c≠ea) (np:∀ p∈X.pn++pins,p.1≠ea)
  (ok:JY X.prog X.w (upd H ea o) s.heap ea o):Inv X pins σ (upd H ea o) s:=by
 have nb:∀ {b u},X.s₀.heap.get? b=some u->b≠ea:=λq z=>by subst z;rw [n0] at q;cases q
 have nu:∀ {b u},H b=some u->b≠ea:=λq z=>by subst z;rw [h0] at q;cases q
 refine ⟨I.ok,I.os,I.bare,⟨I.base.keep,I.base.slot,λb u q n hx=>?_,I.base.there,λb xs q=>?_,λb u v q=>?_,λb ps q=>?_⟩,I.loc,I.cell,?_,λx c e=>?_,λp hp=>?_,λa u e=>?_,I.len⟩
 ·rw [qu (nb q)];exact I.base.free b u q n hx
 ·have y:=I.base.tups b xs q;rw [qu (nu y)];exact y
 ·have y:=I.base.frzs b u v q;rw [qu (nu y)];exact y
 ·obtain ⟨more,y⟩:=I.base.tbls b ps q;exact ⟨more,by rw [qu (nu y)];exact y⟩
 ·rw [qu (Ne.symm nl)];exact I.free
 ·rw [qu (nc x c e)];exact I.freeC x c e
 ·obtain ⟨e,n,ne,nf,d⟩:=I.pin p hp;exact ⟨e,by rw [qu (np p hp)];exact n,ne,nf,d⟩
 ·by_cases z:a=ea
  ·subst z;rw [qT] at e;cases e;exact ok
  ·rw [qu z] at e;exact (I.hok a u e).stay (λ_ _ _ q=>q) (λb q=>by rw [qu (nu q)];exact q) λb xs q=>by rw [qu (nu q)];exact q
def Inv.gone {i:Nat} {n:Str} {m:Str->Option Value} {v:Option Value} {h':Heap} {t:Nat} (I:Inv X pins σ H s) (hN:X.N.Nodup) (hi:X.N[i]?=some n) (hm:s.heap.Ns X.env.locals m)
  (hn:h'.Ns X.env.locals (λx=>if x=n then v else m x)) (sb:Heap.SameBut X.env.locals s.heap h'):Inv X pins (σ.set i none) H { s with heap:=h',toks:=t }:=by
 have k:∀ b u,b≠X.env.locals->s.heap.get? b=some u->h'.get? b=some u:=λb u ne q=>(sb.2 b ne).trans q;have neL:∀ {b u},X.s₀.heap.get? b=some u->b≠X.env.locals:=λe=>Nat.ne_of_lt (Nat.lt_of_lt_of_le (Heap.lt_size e) I.ok.above);have trk:∀ {b u},H b=some u->b≠X.env.locals:=λq z=>by subst z;rw [I.free] at q;cases q
 have sz:=sb.1;refine ⟨I.ok,I.os,I.bare,⟨λb u q n hb hx=>k b u (neL q) (I.base.keep b u q n hb hx),λb u q n hb hx=>?_,I.base.free,λb u q hx=>?_,I.base.tups,I.base.frzs,I.base.tbls⟩,⟨_,hn,λj x u e1 e2 e3=>?_⟩,λx c e=>?_,I.free,I.freeC,λp hp=>?_,?_,by rw [List.length_set];exact I.len⟩
 ·obtain ⟨sl,y⟩:=I.base.slot b u q n hb hx;exact ⟨sl,k b _ (neL q) y⟩
 ·obtain ⟨u',y⟩:=I.base.there b u q hx;exact ⟨u',k b _ (neL q) y⟩
 ·rw [getElem?_set] at e2;split at e2
  ·split at e2<;>cases e2
  ·rename_i ne;obtain ⟨m2,hm2,hl⟩:=I.loc;obtain ⟨w,r,l⟩:=hl j x u e1 e2 e3;refine ⟨w,r,?_⟩;rcases l with ⟨l1,l2⟩|⟨l1,c,l2,l3⟩
   ·refine .inl ⟨l1,?_⟩;have nx:x≠n:=λz=>by
     subst z;exact ne ((List.getElem?_inj (List.getElem?_eq_some_iff.mp hi).1 hN).mp (hi.trans e1.symm))
    have em:m=m2:=hm.eq_nsMap.trans hm2.eq_nsMap.symm;show (if x=n then v else m x)=some w;rw [if_neg nx,em];exact l2
   ·obtain ⟨oc,hc,hd⟩:=l3;exact .inr ⟨l1,c,l2,oc,k c oc (I.cne x c l2) hc,hd⟩
 ·obtain ⟨v',oc,hc,hd⟩:=I.cell x c e;exact ⟨v',oc,k c oc (I.cne x c e) hc,hd⟩
 ·obtain ⟨e,n',ne,nf,d⟩:=I.pin p hp;exact ⟨k _ _ ne e,n',ne,nf,d⟩
 ·exact I.hok.tracked λb u z q=>k b u (λy=>by subst y;exact z I.free) q
end
def qiQ {M:Model} {A:Around} {E:Value->Shared->Prop} {s:Shared} {base:Heap} {l:List Env} {e T:Addr} {cls a0:Value} {Q:Unit->Shared->Prop}
  (hl:s.heap.FunFrames base l) (fl:Fly s.heap e T cls a0)
  (hQ:∀ h' T',Fly h' e T' cls a0->(T'=T\/s.heap.get? T'=none)->Lv l e T s.heap h'->Q () { s with heap:=h' }):wpAny M A (setFlight (.ref e) none) Q E s:=by
 classical
 obtain ⟨oe,ves,he,hed⟩:=fl.rec1;obtain ⟨oT,vts,hT,hTd⟩:=fl.rec2
 let p:Addr->Bool:=λb=>decide (b=e\/b=T\/b∈frs l)
 have pe:p e=true:=decide_eq_true (.inl rfl);have pT:p T=true:=decide_eq_true (.inr (.inl rfl));have hl':s.heap.FunFrames (WG p s.heap) l:=jb hl λb hb=>jM (decide_eq_true (.inr (.inr hb)));refine lands_againW (base:=WG p s.heap) (l:=l) ⟨JR p _,jM pe,hl',fl.w (jM pT)⟩ λh5 fly up5=>?_;obtain ⟨k1,_,k2,k3⟩:=fly;obtain ⟨T',fl',nT⟩:=KJ k3;refine hQ h5 T' fl' ?_ ⟨λb o hb h1 h2 h3=>k1 b o (ET hb (decide_eq_false λz=>z.elim h1 λz=>z.elim h2 h3)),λb o hb h3=>?_⟩
 ·rw [QV] at nT;split at nT
  ·rename_i c;rcases of_decide_eq_true c with c|c|c
   ·obtain ⟨_,_,_,_,_,_,_,_,ne,_⟩:=fl';exact absurd c ne
   ·exact .inl c
   ·obtain ⟨oT',ts',g1,g2⟩:=fl'.rec2;exact absurd c (TX k2 g1 g2)
  ·exact .inr nT
 ·obtain ⟨_,o',e',n⟩:=hl.mem h3;rw [hb] at e';cases e';exact up5 b o hb n
def Cx.cat (X:Cx) (pins:List (Addr×Obj)) (σ0:St) (E:XK):Cx:={ X with pn:=X.pn++pins,xe:=λe s'=>∃ H1 s1,Inv X pins σ0 H1 s1/\CXe X.prog X.w X.stack H1 s1 E e s' }
def Cx.hdl (X:Cx) (e:Value):Cx:={ X with A:=X.A.mark (some e),calm:=false,xe:=λ_ _=>False }
section
variable {X:Cx} {pins:List (Addr×Obj)} {σ σ0:St} {H:Hp} {s:Shared} {E:XK} {e:Value}
def Inv.cat (I:Inv X pins σ H s):Inv (X.cat pins σ0 E) [] σ H s:=
 ⟨⟨I.ok.mod,I.ok.kind,I.ok.glob,I.ok.blt,I.ok.above,I.ok.inj,I.ok.has,I.ok.cab,I.ok.hd,I.ok.frames,I.ok.stk,I.ok.exf,I.ok.bs,I.ok.bsz,I.ok.noex,I.ok.exfs,I.ok.funs,I.ok.frf⟩,I.os,I.bare,I.base,I.loc,I.cell,I.free,I.freeC,λp hp=>I.pin p (by rw [List.append_nil] at hp;exact hp),I.hok,I.len⟩
def Inv.ofCat {pins':List (Addr×Obj)} (I:Inv (X.cat pins σ0 E) pins' σ H s):Inv X pins σ H s:=
 ⟨⟨I.ok.mod,I.ok.kind,I.ok.glob,I.ok.blt,I.ok.above,I.ok.inj,I.ok.has,I.ok.cab,I.ok.hd,I.ok.frames,I.ok.stk,I.ok.exf,I.ok.bs,I.ok.bsz,I.ok.noex,I.ok.exfs,I.ok.funs,I.ok.frf⟩,I.os,I.bare,I.base,I.loc,I.cell,I.free,I.freeC,λp hp=>I.pin p (List.mem_append_left _ hp),I.hok,I.len⟩
def Inv.hdl (I:Inv X pins σ H s):Inv (X.hdl e) pins σ H s:=
 ⟨⟨I.ok.mod,I.ok.kind,I.ok.glob,I.ok.blt,I.ok.above,I.ok.inj,I.ok.has,I.ok.cab,(λz=>nomatch z),I.ok.frames,I.ok.stk,I.ok.exf,I.ok.bs,I.ok.bsz,I.ok.noex,I.ok.exfs,I.ok.funs,I.ok.frf⟩,I.os,I.bare,I.base,I.loc,I.cell,I.free,I.freeC,I.pin,I.hok,I.len⟩
def Inv.ofHdl (ok:X.Ok) (I:Inv (X.hdl e) pins σ H s):Inv X pins σ H s:=
 ⟨ok,I.os,I.bare,I.base,I.loc,I.cell,I.free,I.freeC,I.pin,I.hok,I.len⟩
end
section
variable {X:Cx} {pins:List (Addr×Obj)} {σ:St} {H:Hp} {s s':Shared} {E:XK} {ev:Value}
def DD (I:Inv X pins σ H s) {ea T C:Addr} {a0:Value} {H':Hp} (os:s'.os=s.os) (bare:AllBare s'.gens) (un:Un (frs X.stack) [] H H' s.heap s'.heap) (hok:HOk X.prog X.w H' s'.heap):Inv X pins σ H' s':=
 I.call' (ch:=[]) os un hok bare (λb z=>absurd z (by simp))
def qcR (I:Inv X pins σ H s) {ea T T' C:Addr} {a0:Value} {H':Hp} {h':Heap} (ne:s.heap.get? ea=none) (nT:s.heap.get? T=none) (He:H' ea=none) (HT:H' T=none) (os:s'.os=s.os) (bare:AllBare s'.gens) (un:Un (frs X.stack) [] H H' s.heap s'.heap)
  (hok:HOk X.prog X.w H' s'.heap) (hE:E (.ref C) none H') (fl':Fly h' ea T' (.ref C) a0) (hT':T'=T\/s'.heap.get? T'=none) (lv:Lv X.stack ea T s'.heap h'):CXe X.prog X.w X.stack H s E (.ref ea) { s' with heap:=h' }:=by
 have I':Inv X pins σ H' s':=DD (ea:=ea) (T:=T) (C:=C) (a0:=a0) I os bare un hok;have hok':HOk X.prog X.w H' h':=hok.tracked λb u z q=>lv.keep b u q (λy=>by subst y;exact z He) (λy=>by subst y;exact z HT) λy=>z (I'.stkFree b y);have gone:s'.heap.get? T'=none->s.heap.get? T'=none:=λq=>by
  cases z:s.heap.get? T' with
  |none=>rfl
  |some o=>obtain ⟨o',y⟩:=un.there T' o z (by simp);rw [q] at y;cases y
 rcases hT' with rfl|hT'
 ·exact ⟨ea,_,C,a0,H',rfl,fl',ne,nT,He,HT,os,bare,qiP un lv ne nT,hok',hE⟩
 ·exact ⟨ea,T',C,a0,H',rfl,fl',ne,gone hT',He,hok.nil hT',os,bare,qiP un lv ne nT,hok',hE⟩
def qbn {E':Value->Shared->Prop} {Q:Unit->Shared->Prop} {L:Addr} (hst:X.stack=X.env::X.outer) (hf:X.env.frame=some L) (I:Inv X pins σ H s) (h:CXe X.prog X.w X.stack H s E ev s')
  (hQ:∀ h',CXe X.prog X.w X.stack H s E ev { s' with heap:=h' }->Q () { s' with heap:=h' }) :
  wpAny (model X.prog X.w) X.A (noteFrame ev X.env) (λ_ s2=>wpAny (model X.prog X.w) X.A (setFlight ev none) Q E' s2) E' s':=by
 obtain ⟨ea,T,C,a0,H',rfl,fl,ne,nT,He,HT,os,bare,un,hok,hE⟩:=h;have I':Inv X pins σ H' s':=DD (ea:=ea) (T:=T) (C:=C) (a0:=a0) I os bare un hok;have hfr:X.A.frames=some (X.env::X.outer):=I.ok.frames.trans (by rw [hst]);have hl:s'.heap.FunFrames X.base (X.env::X.outer):=by rw [← hst];exact I'.stack
 refine qoi hfr hf hl fl λh' T' fl' hT' lv=>?_;rw [← hst] at lv;exact hQ h' (qcR I ne nT He HT os bare un hok hE fl' hT' lv)
def qaK {M:Model} {A:Around} {E':Value->Shared->Prop} {Q:Unit->Shared->Prop} (I:Inv X pins σ H s) (h:CXe X.prog X.w X.stack H s E ev s')
  (hQ:∀ h',CXe X.prog X.w X.stack H s E ev { s' with heap:=h' }->Q () { s' with heap:=h' }):wpAny M A (setFlight ev none) Q E' s':=by
 obtain ⟨ea,T,C,a0,H',rfl,fl,ne,nT,He,HT,os,bare,un,hok,hE⟩:=h;have I':Inv X pins σ H' s':=DD (ea:=ea) (T:=T) (C:=C) (a0:=a0) I os bare un hok;refine qiQ I'.stack fl λh' T' fl' hT' lv=>?_;exact hQ h' (qcR I ne nT He HT os bare un hok hE fl' hT' lv)
def ExC (base:Heap) (C:Addr) (mro:List Value):Prop:=∃ nm q N bs bm hdct sn sub ab col dd k0 k1 k2 k3 k5 newId,base.get? C=some (excClassObj nm q C N bs bm hdct sn sub ab col dd k0 k1 k2 k3 k5 newId)/\mro=.ref C::bm
def Ct (base:Heap) (B C:Addr):Prop:=∃ mro,ExC base C mro/\mro.contains (.ref B)=true
def qh5 (base:Heap) (B:Addr) (i:Nat) (ts:TS) (D:Ends) (σ:St):XK:=λcls _ H'=>∃ C,cls=.ref C/\Ct base B C /\
 ∀ e,H' e=none->ts { nx:=λσ' H''=>D.nx (σ'.set i none) H'',rt:=λ_ _=>False } (σ.set i (some (.ref e))) (upd H' e (.ext (IsX e C)))
def qpj (base:Heap) (B:Addr) (i:Nat) (tn:TS) (tr:St->XK->TS) (ts:TS):TS:=λD σ H=>tn D σ H\/tr σ (qh5 base B i ts D σ) { nx:=λ_ _=>False,rt:=λ_ _=>False } σ H
def qjK {st:Stmt} {x n:Str} {B:Addr} {i:Nat} {mB:List Value} {np hp pos:Pos} {b0:Stmt} {suite:List Stmt} {tn ts:TS} {tr:St->XK->TS} {L:Addr}
  (hst:X.stack=X.env::X.outer) (hf:X.env.frame=some L) (hex:X.ex=[]) (hgl:Gl X x) (hmg:X.mg x=some (.ref B)) (hB:ExC X.base B mB) (hbb:mB.tail.contains (.type "BaseException")=true)
  (hN:X.N.Nodup) (hi:X.N[i]?=some n) (hloc:X.env.kindOf n=some .local) (hlo:X.env.scope.names.lookup n=some .local)
  (hn:PSs X.nox [st] tn) (hx:∀ pins σ0 E,PSs (X.cat pins σ0 E) [st] (tr σ0 E)) (hs:∀ ev,PSs (X.hdl ev) (b0::suite) ts) (hdb:(x==("__debug__" : Str))=false:=by decide) :
  PS X (.Try [st] [.ExceptHandler (some (.Name x np)) (some n) (b0::suite) hp] [] [] pos) (qpj X.base B i tn tr ts):=by
 intro pins s σ H D I h;refine wpAny_Try_except ?_;rcases h with h|h
 ·refine wpAny_mono (hn pins s σ H D (I.wish _) h) (λf s1 q=>?_) λ_ _ z=>z.elim;have q:=q.unwish;cases f with
  |next=>obtain ⟨σ',H',I',q⟩:=q;exact wpAny_execs_nil ⟨σ',H',I',q⟩
  |brk=>exact q
  |cont=>exact q
  |ret u=>exact q
 ·refine wpAny_mono (hx pins σ _ [] s σ H _ I.cat h) (λf s1 q=>?_) λe s1 q=>?_
  ·cases f with
   |next=>obtain ⟨_,_,_,z⟩:=q;exact z.elim
   |brk=>obtain ⟨_,_,_,z⟩:=q;exact z.elim
   |cont=>obtain ⟨_,_,_,z⟩:=q;exact z.elim
   |ret u=>obtain ⟨_,_,_,_,_,z⟩:=q;exact z.elim
  ·obtain ⟨H1,s2,I2,q⟩:=q;refine qbn hst hf I2 q λh1 q1=>?_;have nb:e≠byPass:=by obtain ⟨ea,_,_,_,_,rfl,_⟩:=q1;intro z;cases z
   obtain ⟨nmB,qB,NB,bsB,bmB,hdB,snB,subB,abB,colB,ddB,kB0,kB1,kB2,kB3,kB5,nwB,gB,rfl⟩:=hB;refine wpAny_handleBy_cons (codeAny_handlers_test ?_) nb;have hq1:=q1;obtain ⟨ea,T,C,a0,H',rfl,fl,ne,nT,He,HT,os,bare,un,hok,hE⟩:=hq1;have I3:Inv X pins σ H' { s1 with heap:=h1 }:=DD (ea:=ea) (T:=T) (C:=C) (a0:=a0) I2 os bare un hok;have I3h:Inv (X.hdl (.ref ea)) pins σ H' { s1 with heap:=h1 }:=I3.hdl;refine D9 (X:=X.hdl (.ref ea)) I3h hgl hmg ?_ hdb;obtain ⟨C',eC,⟨mro,⟨nm,q',N,bs,bm,hd,sn,sub,ab,col,dd,k0,k1,k2,k3,k5,nw,gC,rfl⟩,hin⟩,hgo⟩:=hE;cases eC;obtain ⟨oe,vs,_,_,g1,g2,_⟩:=fl;refine qe4 (b:=true) (I3.bk _ _ gC) (I3.bk _ _ gB) g1 g2.1 hbb hin ?_;refine codeAny_handlers_suite_as ?_;refine qaK I2 q1 λh2 q2=>?_;obtain ⟨ea',T2,C2,a2,H2,e2,fl2,ne2,nT2,He2,HT2,os2,bare2,un2,hok2,hE2⟩:=q2;cases e2;obtain ⟨C3,eC,⟨mro3,ex3,hin3⟩,hgo2⟩:=hE2;cases eC;have I4:Inv X pins σ H2 { s1 with heap:=h2 }:=DD (s':={ s1 with heap:=h2 }) (ea:=ea) (T:=T2) (C:=C2) (a0:=a2) I2 os2 bare2 un2 hok2;have noex:∀ b:Addr,s2.heap.get? b=none->X.s₀.heap.get? b=none:=λb q=>by
    cases z:X.s₀.heap.get? b with
    |none=>rfl
    |some o=>obtain ⟨o',y⟩:=I2.base.there b o z (by rw [hex];simp);rw [q] at y;cases y
   have nl:ea≠X.env.locals:=λz=>by
    obtain ⟨m,⟨o,es,ep,ho,_⟩,_⟩:=I2.loc;rw [← z,ne2] at ho;cases ho
   have nc:∀ y c,X.env.cells.lookup y=some c->c≠ea:=λy c e z=>by
    obtain ⟨v,o,ho,_⟩:=I2.cell y c e;rw [z,ne2] at ho;cases ho
   have np:∀ p∈X.pn++pins,p.1≠ea:=λp hp z=>by
    have y:=(I2.pin p hp).1;rw [z,ne2] at y;cases y
   have I5:Inv X pins σ (upd H2 ea (.ext (IsX ea C2))) { s1 with heap:=h2 }:=I4.track He2 (noex ea ne2) nl nc np (qgJ (qkZ fl2));refine YJ (X:=X.hdl (.ref ea)) (v:=.ref ea) I5.hdl hN hi (.inl hlo) rfl (λs3 I6=>?_) (.inr hlo);refine wpAny_mono (hs (.ref ea) pins s3 _ _ _ I6 (hgo2 ea He2)) (λf s4 q=>?_) λ_ _ z=>z.elim;cases f with
   |next=>
    obtain ⟨σ',H'',I7,q⟩:=q;have I7:=I7.ofHdl I.ok;obtain ⟨m,hm,hl⟩:=I7.loc;refine wpAny_nameGoes_keeps hloc hm (by rw [I.ok.kind];rfl) λh8 v hn8 sb=>?_;exact ⟨_,_,I7.gone hN hi hm hn8 sb,q⟩
   |brk=>obtain ⟨_,_,_,z⟩:=q;exact z.elim
   |cont=>obtain ⟨_,_,_,z⟩:=q;exact z.elim
   |ret u=>obtain ⟨_,_,_,_,_,z⟩:=q;exact z.elim
end
end L2
namespace L2
open PySem PySem.Spec PyProof.Rows PySem.W PySem.Calls Builtin Builtin.ObjectAttr Builtin.Getset_descriptor
open L3 (IsX)
structure ExK (K:Frag) (C:Addr):Prop where
 cls:(clsIn K C).isSome=true
 ga:findIn K (.ref C) "__getattribute__" = some (some (.builtin "BaseException.__getattribute__"))
 no:findIn K (.ref C) "__getattr__" = some none
 cl:findIn K (.ref C) "__class__" = some (some (.builtin "object.__class__"))
 ob:mroIn K C (.type "object")=some true
 be:mroIn K C (.type "BaseException")=some true
section
variable {prog:Program} {w:World} {A:Around} {E:Value->Shared->Prop} {K:Frag} {e C:Addr}
def qaa {M:Model} {h:Heap} (x:IsX e C h):Looks M h (typeOf (.ref e)) (.ref C):=by
 obtain ⟨o,vs,h1,h2,_⟩:=x;exact h2▸(Looks.ld h1).andThen .now
def LU {R:Result->Shared->Prop} {tp:Value} {s:Shared} (k:ExK K C) (X:K.In s.heap) (x:IsX e C s.heap) (h:R (.ok (.ret (.ref C))) s) :
  codeAny (model prog w) A (.call (.builtin "getset_descriptor.__get__") ⟨[.builtin "object.__class__",.ref e,tp],[]⟩) R s:=by
 obtain ⟨hh,g,dr,t,os⟩:=s;have L0:=qaa (M:=model prog w) x;have L1:=looks_mroIn (M:=model prog w) X k.ob;refine codeAny_call_builtin KF.slot_gs.plain KF.entry_gs (KF.slot_gs.check _ _ _ _ _ _ _ _ KF.type_class (KF.args_gs _ _ _) ?_);unfold Builtin.«getset_descriptor.__get__» descrGet;rw [dga_obj];refine wpAny_bind (wpAny_pure ?_);unfold descrGetter descrCheckInstance descrNameAndClass isInstance;simp only [KF.owner_class]
 repeat lk
 refine ⟨Code.quiet_builtin _ (by decide +kernel),codeAny_builtin KF.entry_class ?_⟩;unfold Builtin.«object.__class__» shownTypeOf
 repeat lk
 exact h
def RT {tk:Tok} {Q:Fin->Shared->Prop} {h:Heap} {g:Array GenState} {d:Drawn} {t:Nat} {os:OsState} (k:ExK K C) (X:K.In h) (x:IsX e C h) (hq:Q (.done (.ret (.ref C))) ⟨h,g,d,t,os⟩) :
  wpAny (model prog w) A (Builtin.«object.__getattribute__» ⟨[.ref e,.str "__class__" tk],[]⟩) Q E ⟨h,g,d,t,os⟩:=by
 have L0:=qaa (M:=model prog w) x;have L1:=looks_findIn (M:=model prog w) X k.cl;have hT5:(⟨h,g,d,t,os⟩:Shared).TypeIs (.builtin "object.__class__") "getset_descriptor" := F.typeOf_object_class;have f5:=F.typeOf_object_class;have f6:=F.slot_gs_get.lookup;have f7:=F.slot_gs_set.lookup;obtain ⟨o,vs,hx,hc,hd⟩:=id x
 repeat (any_goals (first|assumption|(with_reducible refine wpAny_loadPart_at hx ?_;rw [hc])|with_reducible refine L1.at ?_|wp_step))
 refine LU k X x ?_
 repeat (any_goals (first|assumption|wp_step))
def qaJ {M:Model} {nameV:Value} {Q:Unit->Shared->Prop} {h:Heap} {g:Array GenState} {d:Drawn} {t:Nat} {os:OsState} (k:ExK K C) (X:K.In h) (x:IsX e C h) (hq:Q () ⟨h,g,d,t,os⟩) :
  wpAny M A (checkBuiltinCall "BaseException.__getattribute__" ⟨[.ref e,nameV],[]⟩) Q E ⟨h,g,d,t,os⟩:=by
 have hk:builtinKind "BaseException.__getattribute__" = some .slot:=by decide +kernel
 have hsplit:splitId "BaseException.__getattribute__" = some ("BaseException","__getattribute__"):=by decide +kernel
 have L1:=looks_mroIn (M:=M) X k.be;have ha:=F.args_bexc_ga (.ref e) nameV;simp only [checkBuiltinCall,hk,hsplit];obtain ⟨o,vs,hx,hc,hd⟩:=id x;refine wpAny_bind ?_
 ·unfold isInstance
  repeat (first|(with_reducible refine wpAny_loadPart_at hx ?_;rw [hc])|with_reducible refine L1.at ?_|wp_step)
  exact hq
def qab {tk:Tok} {Q:Value->Shared->Prop} {h:Heap} {g:Array GenState} {d:Drawn} {t:Nat} {os:OsState} (k:ExK K C) (X:K.In h) (x:IsX e C h) (hq:Q (.ref C) ⟨h,g,d,t,os⟩) :
  wpAny (model prog w) A (getAttrBy (.ref e) (.str "__class__" tk) false) Q E ⟨h,g,d,t,os⟩:=by
 have f3:bindSpecial (.builtin "BaseException.__getattribute__") (.ref e)=pure (.builtin "BaseException.__getattribute__",[.ref e]):=by kernel_rfl
 have hx2:(Value.builtin "BaseException.__getattribute__" == Value.builtin "object.__getattribute__")=false:=by decide +kernel
 have hx1:(onTheHeap (Value.ref C)&&Value.builtin "BaseException.__getattribute__" == Value.builtin "object.__getattribute__")=false:=by rw [hx2];rfl
 have L1:=looks_findIn (M:=model prog w) X k.ga;have L2:=looks_findIn (M:=model prog w) X k.no;obtain ⟨o,vs,hx,hc,hd⟩:=id x
 repeat (any_goals (first|assumption|(with_reducible refine wpAny_loadPart_at hx ?_;rw [hc])|with_reducible refine L1.at ?_|with_reducible refine L2.at ?_|wp_step))
 refine codeAny_call_builtin (by decide +kernel) F.entry_bexc_ga (qaJ k X x (RT k X x ?_))
 repeat (any_goals (first|assumption|wp_step))
def S8 {Q:Option Value->Shared->Prop} {s:Shared} (k:ExK K C) (X:K.In s.heap) (x:IsX e C s.heap) (hq:Q (some (.ref C)) { s with toks:=s.toks+1 }):wpAny (model prog w) A (getAttr? (.ref e) "__class__") Q E s:=by
 obtain ⟨h,g,d,t,os⟩:=s;unfold getAttr? getAttrBy?
 repeat (any_goals (first|assumption|with_reducible apply qab k X x|wp_step))
def qbW (k:ExK K C):KitX K (.ref e) (.ref C) (IsX e C) where
 ty:=λ_ _ _ x=>qaa x
 it:=λ_ _ X _=>by
  obtain ⟨cd,hc⟩:=Option.isSome_iff_exists.mp k.cls;unfold clsIn at hc;split at hc
  ·rename_i c' d' cd' sl' ho;intro A' Q' E' s' k q;unfold isType loadHead;exact wpAny_bind (wpAny_loadPart (k _ _ (X _ _ ho)) (wpAny_pure q))
  ·cases hc
 ne:=λh tp dd its n sl X htp=>by
  obtain ⟨cd,hc⟩:=Option.isSome_iff_exists.mp k.cls;refine Bool.eq_false_iff.mpr λq=>?_;have e:C=tp:=Value.ref.inj (beq_iff_eq.mp q);subst e;unfold clsIn at hc;split at hc
  ·rename_i c' d' cd' sl' ho;have z:=(X _ _ ho).symm.trans htp;cases z
  ·cases hc
 ca:=λX x q=>S8 k X x q
end
end L2
namespace L3
open PySem PySem.Spec PyProof.Rows L2
abbrev TX3:=X3->St3->Gp->Prop
def lX (K:Frg) (tx:TX3) (σ0:L2.St) (E:XK):TS:=λ_ σ H=>σ=σ0/\∃ τ G dx,Rel K τ G σ H/\tx dx τ G/\∀ C G' H',HR K G' H'->Kp G H G' H'->dx C G'->E (.ref C) none H'
def lXE (K:Frg) (tx:TX3) (σ0:L2.St) (E:XK):TE:=λσ H _=>σ=σ0/\∃ τ G dx,Rel K τ G σ H/\tx dx τ G/\∀ C G' H',HR K G' H'->Kp G H G' H'->dx C G'->E (.ref C) none H'
structure jXE3 (X:Cx) (e:Expr) (tx:TX3):Prop where h:∀ pins σ0 E,PE (X.cat pins σ0 E) e (lXE X.K tx σ0 E)
structure jX3 (X:Cx) (sts:List Stmt) (tx:TX3):Prop where h:∀ pins σ0 E,PSs (X.cat pins σ0 E) sts (lX X.K tx σ0 E)
def Fnx (P:Program) (w:World) (K:Frg) (mg:Str->Option Value) (base:Heap) (k:Nat) (x:Str) (sx:Spx):Prop:=
 ∃ f fd ps,FnOk P w K mg base (CXe P w) k f fd ps (lSx K sx)/\zd K fd ps []/\PySem.W.keepIn K (.ref f)=true/\mg x=some (.ref f)
def Fnx.mono {P:Program} {w:World} {K:Frg} {mg:Str->Option Value} {base:Heap} {j k:Nat} {x:Str} {sx:Spx} (F:Fnx P w K mg base j x sx) (h:j<=k):Fnx P w K mg base k x sx:=
 let ⟨f,fd,ps,a,b,c,d⟩:=F;⟨f,fd,ps,a.mono h,b,c,d⟩
def qaL (sx:Spx) (t:TA3):TX3:=λdx τ G=>t τ G λxs G1=>sx xs G1 dx
def xif (c:TT3) (t u:TX3):TX3:=λdx τ G=>c τ G λk G1=>if k=true then t dx τ G1 else u dx τ G1
section
variable {X:Cx} {k:Nat} {x:Str} {sx:Spx} {p pos:Pos} {e:Expr} {es:List Expr} {ta:TA3} {tx ty:TX3}
def NF (F:Fnx X.prog X.w X.K X.mg X.base k x sx) (hr:Room k X.A) (hg:Gl X x) (ha:∀ pins σ0 E,jA3 (X.cat pins σ0 E) (e::es) ta) (hdb:(x==("__debug__" : Str))=false:=by decide)
  (he:starEach (e::es) X.env=(false,eval e X.env)::starEach es X.env:=by rfl) (hpl:(backTo pos (starEach es X.env)).any (·.1)=false:=by rfl):jXE3 X (.Call (.Name x p) (e::es) [] pos) (qaL sx ta):=by
 refine ⟨λpins0 σ0 E=>?_⟩;intro pins s σ H Q I h;obtain ⟨hσ,τ,G,dx,rl,h,af⟩:=h;obtain ⟨f,fd,ps,F,hb,hk,hm⟩:=F;refine wpAny_Call_Name_kw (D9 I hg hm ?_ hdb);have hA:=(ha pins0 σ0 E).h pos pins s σ H (λvs H1=>∃ xs G1,sx xs G1 dx/\Rps X.K H1 xs vs/\HR X.K G1 H1/\Kp G H G1 H1) I (Q6 rl h λxs G1 h1 vs H1 rs hr1 k1 rl1=>⟨xs,G1,h1,rs,hr1,k1⟩);refine PySem.W.callWith_K (h₀:=X.base) I.ok.mod.kin hk (thn hA λus s1 ⟨vs,H1,I1,r,xs,G1,h1,rs,hr1,k1⟩=>⟨I1.kIn,?_⟩) he hpl;have sp:lSx X.K sx vs H1 (λ_ _=>False) E:=⟨xs,G1,dx,hr1,rs,h1,λC G' H' a b c=>af C G' H' a (k1.trans b) c⟩
 have hl:us.length=ps.length:=by rw [← r.length];exact F.len _ _ _ _ sp
 have hb':BindsTo s1 fd ⟨us,[]⟩ (ps.zip us):=by
  have z:=hb s1 us I1.kIn (by rw [List.append_nil];exact hl);rw [List.append_nil] at z;exact z
 refine wpAny_call (codeAny_mono (F.run X.A X.stack s1 H1 ⟨us,[]⟩ us vs (λ_ _=>False) E hr I1.env0 hb' r sp) λr s' hq=>?_);subst hσ;cases r with
 |error e=>exact ⟨H1,s1,I1.ofCat,hq⟩
 |ok fl=>
  cases fl with
  |ret u=>obtain ⟨_,_,_,_,_,_,_,z⟩:=hq;exact z.elim
  |next=>exact False.elim hq
  |brk=>exact False.elim hq
  |cont=>exact False.elim hq
def NZ (h:jXE3 X e tx) (hs:swapsWith e none pos.line X.env=pure false:=by rfl):jX3 X [.Expr e pos] tx:=
 ⟨λpins σ0 E=>TC (K1 (qaC (h.h pins σ0 E) hs) λD σ H z=>z)⟩
def qno {c:Expr} {ba bb:List Stmt} {tc:TT3} (hc:∀ pins σ0 E,jC3 (X.cat pins σ0 E) c tc) (ha:jX3 X ba tx) (hb:jX3 X bb ty):jX3 X [.If c ba bb pos] (xif tc tx ty):=
 ⟨λpins σ0 E=>TC (K1 (qlV (hc pins σ0 E).h (ha.h pins σ0 E) (hb.h pins σ0 E)) λD σ H ⟨hσ,τ,G,dx,rl,h,af⟩=>
  XN rl h λb G1 h1 H1 hr1 k1 rl1=>by
   cases b with
   |true=>rw [if_pos rfl] at h1 ⊢;exact ⟨hσ,τ,G1,dx,rl1,h1,λC G' H' a b c=>af C G' H' a (k1.trans b) c⟩
   |false=>rw [if_neg Bool.false_ne_true] at h1 ⊢;exact ⟨hσ,τ,G1,dx,rl1,h1,λC G' H' a b c=>af C G' H' a (k1.trans b) c⟩)⟩
end
def Rel.del {K:Frg} {τ:St3} {G:Gp} {σ:L2.St} {H:Hp} (r:Rel K τ G σ H) (i:Nat):Rel K (τ.set i none) G (σ.set i none) H:=by
 refine ⟨r.hp,by simp [r.len],λj u e=>?_⟩;by_cases hij:i=j
 ·subst hij;rw [List.getElem?_set_self'] at e;cases q:τ[i]? with
  |none=>rw [q] at e;cases e
  |some z=>rw [q] at e;cases e
 ·rw [List.getElem?_set_ne hij] at e;obtain ⟨w,h1,h2⟩:=r.st j u e;exact ⟨w,by rw [List.getElem?_set_ne hij];exact h1,h2⟩
def HR.newX {K:Frg} {G:Gp} {H:Hp} (hr:HR K G H) {p C:Addr} (hp:H p=none):HR K (gu G p (.exn C)) (upd H p (.ext (IsX p C))):=λa o e=>by
 by_cases ha:a=p
 ·subst ha;rw [qp] at e;cases e;exact qT
 ·rw [zu ha] at e;exact (hr a o e).keep hr (Kp.laid hp) λu h=>by rw [qu ha];exact h
def qoX (i:Nat) (cs:List Addr) (tn:TS3) (tx:TX3) (ts:TS3):TS3:=λd τ G=>tn d τ G ∨
 tx (λC G'=>C∈cs/\∀ e,G' e=none->ts { nx:=λτ' G''=>d.nx (τ'.set i none) G'',rt:=λ_ _=>False } (τ.set i (some (.ref e))) (gu G' e (.exn C))) τ G
def qjI {X:Cx} {st:Stmt} {x n:Str} {B:Addr} {i:Nat} {mB:List Value} {np hp pos:Pos} {b0:Stmt} {suite:List Stmt} {tn ts:TS3} {tx:TX3} {L:Addr} (cs:List Addr)
  (hst:X.stack=X.env::X.outer) (hf:X.env.frame=some L) (hex:X.ex=[]) (hgl:Gl X x) (hmg:X.mg x=some (.ref B)) (hB:ExC X.base B mB) (hbb:mB.tail.contains (.type "BaseException")=true) (hcs:∀ C∈cs,Ct X.base B C)
  (hN:X.N.Nodup) (hi:X.N[i]?=some n) (hloc:X.env.kindOf n=some .local) (hlo:X.env.scope.names.lookup n=some .local)
  (hn:jB3 X.nox [st] tn) (hx:jX3 X [st] tx) (hs:∀ ev,jB3 (X.hdl ev) (b0::suite) ts) (hdb:(x==("__debug__" : Str))=false:=by decide) :
  jS3 X (.Try [st] [.ExceptHandler (some (.Name x np)) (some n) (b0::suite) hp] [] [] pos) (qoX i cs tn tx ts):=by
 refine ⟨K1 (qjK hst hf hex hgl hmg hB hbb hN hi hloc hlo hn.h hx.h (ts:=lS X.K ts) (λev=>(hs ev).h) hdb) λD σ H ⟨τ,G,d,rl,h,af⟩=>?_⟩;rcases h with h|h
 ·exact .inl ⟨τ,G,d,rl,h,af⟩
 ·refine .inr ⟨rfl,τ,G,_,rl,h,λC G' H' hr' k' ⟨hc,hd⟩=>⟨C,rfl,hcs C hc,λe he=>?_⟩⟩;have rl':Rel X.K τ G' σ H':=rl.next hr' k';have hrn:=hr'.newX (C:=C) he;have kn:Kp G' H' (gu G' e (.exn C)) (upd H' e (.ext (IsX e C))):=Kp.newL he;refine ⟨τ.set i (some (.ref e)),gu G' e (.exn C),_,(rl'.next hrn kn).set i (.ref e),hd e (hr'.free he),⟨λτ2 G2 q σ2 H2 r2 k2=>?_,λ_ _ z=>z.elim,λ_ _ z=>z.elim,λ_ _ z=>z.elim⟩⟩;exact af.nx _ _ q _ _ (r2.del i) ((k'.trans kn).trans k2)
structure RaX (mg:Str->Option Value) (base:Heap) (x:Str) (C:Addr):Prop where
 h:OwnCls x C [.type "ValueError",.type "Exception",.type "BaseException",.type "object"] "ValueError.__new__" mg base
def qcb {P:Program} {w:World} {K:Frg} {mg:Str->Option Value} {base:Heap} {N:List Str} {qual:Str} {scope:Scope} {f:Addr} {cd:Value} {A:Around} {outer:List Env} {s0:Shared} {H0:Hp} {E:XK} {x:Str} {C:Addr} {np cpos pos:Pos} {e:Expr} {es:List Expr} {t:TA3} {dx:X3}
  (hE:∀ cls H',EX K dx cls none H'->E cls none H') (O:RaX mg base x C)
  (hc:(J0 (CXe P w) P w K mg base N qual scope f cd A outer s0 H0 E).calm=true) (hg:Gl (J0 (CXe P w) P w K mg base N qual scope f cd A outer s0 H0 E) x) (ha:jA3 (J0 (CXe P w) P w K mg base N qual scope f cd A outer s0 H0 E) (e::es) t)
  (hdb:(x==("__debug__" : Str))=false:=by decide) (he:starEach (e::es) (J0 (CXe P w) P w K mg base N qual scope f cd A outer s0 H0 E).env=(false,eval e (J0 (CXe P w) P w K mg base N qual scope f cd A outer s0 H0 E).env)::starEach es (J0 (CXe P w) P w K mg base N qual scope f cd A outer s0 H0 E).env:=by rfl)
  (hpl:(backTo cpos (starEach es (J0 (CXe P w) P w K mg base N qual scope f cd A outer s0 H0 E).env)).any (·.1)=false:=by rfl) :
  jS3 (J0 (CXe P w) P w K mg base N qual scope f cd A outer s0 H0 E) (.Raise (some (.Call (.Name x np) (e::es) [] cpos)) none pos) (LM C dx t):=
 ⟨qft O.h PySem.F.excBase_ValueError (by first|decide|decide +kernel) PySem.F.excBase_ValueError hc hg ha.h (λpins σ H s ea h' vs I hx z=>qfY I hx (hE _ _ z)) hdb he hpl⟩
def ql7 (sx:Spx) (dx:X3) (t:TA3):TE3:=λτ G _=>t τ G λxs G1=>sx xs G1 dx
def K9 {P:Program} {w:World} {K:Frg} {mg:Str->Option Value} {base:Heap} {N:List Str} {qual:Str} {scope:Scope} {f:Addr} {cd:Value} {A:Around} {outer:List Env} {s0:Shared} {H0:Hp} {E:XK} {k:Nat} {x:Str} {p pos:Pos} {e:Expr} {es:List Expr} {t:TA3} {dx:X3} {sx:Spx}
  (hE:∀ cls H',EX K dx cls none H'->E cls none H') (F:Fnx P w K mg base k x sx) (hr:Room k (J0 (CXe P w) P w K mg base N qual scope f cd A outer s0 H0 E).A) (hg:Gl (J0 (CXe P w) P w K mg base N qual scope f cd A outer s0 H0 E) x)
  (ha:jA3 (J0 (CXe P w) P w K mg base N qual scope f cd A outer s0 H0 E) (e::es) t) (hdb:(x==("__debug__" : Str))=false:=by decide)
  (he:starEach (e::es) (J0 (CXe P w) P w K mg base N qual scope f cd A outer s0 H0 E).env=(false,eval e (J0 (CXe P w) P w K mg base N qual scope f cd A outer s0 H0 E).env)::starEach es (J0 (CXe P w) P w K mg base N qual scope f cd A outer s0 H0 E).env:=by rfl)
  (hpl:(backTo pos (starEach es (J0 (CXe P w) P w K mg base N qual scope f cd A outer s0 H0 E).env)).any (·.1)=false:=by rfl):jE3 (J0 (CXe P w) P w K mg base N qual scope f cd A outer s0 H0 E) (.Call (.Name x p) (e::es) [] pos) (ql7 sx dx t):=by
 obtain ⟨f',fd,ps,F,hb,hk,hm⟩:=F;refine ⟨EZ (qa7 (CX:=CXe P w) (E:=E) (dvs:=[]) F hr hg hm hk hb .nil qgS ha.h hdb he hpl) λσ H Q ⟨τ,G,q,rl,h,af⟩=>Q6 rl h λxs G1 h1 vs H1 rs hr1 k1 rl1=>?_⟩;rw [List.append_nil];exact ⟨xs,G1,dx,hr1,rs,h1,λC G' H' a b c=>hE _ _ ⟨C,G',rfl,a,c⟩⟩
def SR {P:Program} {w:World} {K:Frg} {mg:Str->Option Value} {base:Heap} {x qual:Str} {st:Stmt} {f:Addr} {fd:FuncData} {N ps:List Str} {k:Nat} {sx:Spx} {t3:X3->TS3} (F:Fun K x qual st f fd) (S:FnScope N ps (qi st)) (bd:zd K fd ps []) (hm:mg x=some (.ref f))
  (body:∀ (dx:X3) (cdv:Value) (A:Around) (outer:List Env) (s:Shared) (H:Hp) (E:XK),(∀ cls H',EX K dx cls none H'->E cls none H')->Room k (A.deeper (envOfC qual (qi st) s.heap.objs.size f cdv)) ->
   jB3 (J0 (CXe P w) P w K mg base N qual (qi st) f cdv A outer s H E) (zk st) (t3 dx))
  (read:∀ ts G dx,sx ts G dx->ts.length=ps.length/\t3 dx { nx:=λ_ _=>False,rt:=λ_ _=>False } (qj N ts) G):Fnx P w K mg base (k+1) x sx:=
 ⟨f,fd,ps,qiv (qll F S (λdx cdv A outer s H E hE hr=>(body dx cdv A outer s H E hE hr).h) read),bd,F.kp,hm⟩
def exT (G:Gp):T->Option (Option Addr)
 |.non=>some none
 |.ref e=>match G e with|some (.exn C)=>some (some C)|_=>none
 |_=>none
def CG (D:List (Option Addr×Bool)) (te:TE3):TE3:=λτ G q=>te τ G λx G1=>match exT G1 x with|some o=>(match D.lookup o with|some b=>q (.bl b) G1|none=>False)|none=>False
def tyv:Option Addr->Value
 |none=>.type "NoneType"
 |some C=>.ref C
def XD (K:Frg) (cs:List Value) (D:List (Option Addr×Bool)):Prop:=∀ p∈D,(∀ C,p.1=some C->ExK K C)/\PySem.W.kitAny K (tyv p.1) cs=some p.2
def MI {D:List (Option Addr×Bool)} {o:Option Addr} {b:Bool} (h:D.lookup o=some b):(o,b)∈D:=by
 induction D with
 |nil=>cases h
 |cons p r ih=>
  obtain ⟨a,c⟩:=p;rw [List.lookup_cons] at h;split at h
  ·rename_i z;cases h;rw [beq_iff_eq.mp z];exact List.mem_cons_self
  ·exact List.mem_cons_of_mem _ (ih h)
def qbR {X:Cx} {pins:List (Addr×Obj)} {σ:L2.St} {G:Gp} {H:Hp} {s:Shared} (I:Inv X pins σ H s) (hr:HR X.K G H) {x:T} {v:V} {u:Value} {o:Option Addr} (r:Rp X.K H x v) (rv:ji v u) (h:exT G x=some o) (k:∀ C,o=some C->ExK X.K C) :
  ∃ HH,PySem.W.KitX X.K u (tyv o) HH/\HH s.heap/\u≠.builtin "__main__.__loader__#opaque" := by
 cases r with
 |non=>cases h;cases (show u=Value.none from rv);exact ⟨_,PySem.W.kitx_none,trivial,λz=>nomatch z⟩
 |ref a=>
  cases (show u=Value.ref a from rv);unfold exT at h;dsimp only at h;split at h
  ·rename_i C g;cases h;have q:H a=some (.ext (IsX a C)):=hr a _ g;obtain ⟨y,_,_⟩:=(show JY X.prog X.w H s.heap a (.ext (IsX a C)) from I.hok a _ q)
   exact ⟨_,qbW (k C rfl),y,λz=>nomatch z⟩
  ·cases h
 |bl b=>cases h
 |int b=>cases h
 |str b=>cases h
 |tup _ _=>cases h
def MQ {K:Frg} {t c:Value} {b:Bool} (h:PySem.W.kitAny K t [c]=some b):PySem.W.kitOne K t c=some b:=by
 unfold PySem.W.kitAny at h;split at h
 ·rename_i q;rw [q,← h]
 ·rename_i q;rw [q,← h];rfl
 ·cases h
def clV:V->Value
 |.ref a=>.ref a
 |.ty n=>.type n
 |_=>.none
structure jCl (X:Cx) (e:Expr) (v:V):Prop where
 h:PE X e (tC v)
 ok:(∃ a,v=.ref a)\/∃ n,v=.ty n
def Z7 {X:Cx} {x:Str} {a:Addr} {pos:Pos} (hg:Gl X x) (hm:X.mg x=some (.ref a)) (hd:(x==("__debug__" : Str))=false:=by decide):jCl X (.Name x pos) (.ref a):=⟨qff hg hm rfl hd,.inl ⟨_,rfl⟩⟩
def qjM {X:Cx} {x:Str} {n:String} {pos:Pos} (hg:Gl X x) (hm:X.mg x=none) (hv:bootBuiltins x=some (.type n)) (hn:x≠"__name__" := by decide) (hd:(x==("__debug__" : Str))=false:=by decide):jCl X (.Name x pos) (.ty n):=⟨qa5 hg hm hv rfl hn hd,.inr ⟨_,rfl⟩⟩
section
variable {X:Cx} {e ce:Expr} {te:TE3} {p pos:Pos} {D:List (Option Addr×Bool)}
def YY {v:V} (he:jE3 X e te) (hg:Gl X "isinstance") (hm:X.mg "isinstance" = none) (hc:jCl X ce v) (hD:XD X.K [clV v] D)
  (hs:starEach [e,ce] X.env=(false,eval e X.env)::starEach [ce] X.env:=by rfl) (hs2:starEach [ce] X.env=(false,eval ce X.env)::starEach [] X.env:=by rfl) (hpl:(backTo pos (starEach [ce] X.env)).any (·.1)=false:=by rfl) :
  jE3 X (.Call (.Name "isinstance" p) [e,ce] [] pos) (CG D te):=by
 refine ⟨EZ (CH (r:=λxs H Q=>∃ G x y o b,xs=[y,v]/\HR X.K G H/\Rp X.K H x y/\exT G x=some o/\D.lookup o=some b/\Q (.bl b) H) ?_ hg hm PyProof.Rows.boot_isinstance (DQ he.h (DQ hc.h qa9 hs2) hs) (by decide) (by decide) hs hpl)
  λ_ _ _ ⟨τ,G,q,rl,h,af⟩=>zw rl h λx G1 h1 y H1 rx hr1 k1 rl1=>?_⟩
 ·intro pins s σ H xs us Q I r ⟨G,x,y,o,b,hx,hr,rx,h1,h2,q⟩;subst hx;obtain ⟨u,w,rfl,ru,rc⟩:=qbs r;have ew:w=clV v:=by
   rcases hc.ok with ⟨a,rfl⟩|⟨n,rfl⟩
   ·exact rc
   ·exact rc
  subst ew;obtain ⟨d1,d2⟩:=hD _ (MI h2);obtain ⟨HH,kx,hh,ne⟩:=qbR I hr rx ru h1 d1;exact PySem.W.kia_one kx I.kIn hh (MQ d2) ne λtk=>⟨.bl _,H,I.tok tk,rfl,q⟩
 ·split at h1
  ·split at h1
   ·rename_i _ o e1 _ b e2;exact ⟨G1,x,y,_,_,rfl,hr1,rx,e1,e2,af _ G1 h1 _ H1 (.bl _) hr1 k1⟩
   ·exact h1.elim
  ·exact h1.elim
end
def CM:Sp3:=λ_ _ _=>False
def CW {P:Program} {w:World} {K:Frg} {mg:Str->Option Value} {base:Heap} {x qual:Str} {st:Stmt} {f:Addr} {fd:FuncData} {ps:List Str} (F:Fun K x qual st f fd) (bd:zd K fd ps []) (hm:mg x=some (.ref f)):Fn3 P w K mg base 0 x CM:=
 ⟨f,fd,ps,⟨λvs H Q E ⟨_,_,_,_,_,h,_⟩=>h.elim,λA outer s H args us vs Q E _ _ _ _ ⟨_,_,_,_,_,h,_⟩=>h.elim⟩,bd,F.kp,hm⟩
def ixT (xs:List T) (i:Int) (G:Gp) (q:Q3):ix3 (.tup xs) (.int i) G q=(match L2.atI xs i with|some z=>q z G|none=>False):=rfl
def ixR (p:Addr) (i:Int) (G:Gp) (q:Q3):ix3 (.ref p) (.int i) G q=(match zl G p with|some xs=>(match L2.atI xs i with|some z=>q z G|none=>False)|none=>False):=rfl
def jJ {α:Type} {xs:List α} {i:Int} (h0:0<=i) (h1:i<(xs.length:Int)):L2.atI xs i=xs[i.toNat]?:=by
 unfold L2.atI ixN;have e1:i.toNat<xs.length:=by omega
 simp [h0,e1,h1]
def cm {i j:Int} (h1:-1000000<j) (h2:j<1000000):U7 i j:=.inr ⟨by omega,by omega⟩
def cm' {i j:Int} (h1:-1000000<i) (h2:i<1000000):U7 i j:=.inl ⟨by omega,by omega⟩
def X4 {stay:Gp->Prop} {g:TG3} {tif:TT3} {te:TE3} {q:Q3} (items:List T) (Pv:Nat->List T->St3->Gp->Prop) {τ:St3} {G:Gp} (h0:Pv 0 [] τ G) (hst:∀ i ys τ G,i<=items.length->Pv i ys τ G->stay G)
  (hs:∀ i x ys τ G (R:List T->St3->Gp->Prop),items[i]?=some x->Pv i ys τ G->(∀ ys' τ' G',Pv (i+1) ys' τ' G'->R ys' τ' G') ->
   g x τ G λτ2 G2=>tif τ2 G2 λk G3=>if k=true then te τ2 G3 λy G4=>ys.length<sizeLine/\R (ys++[y]) τ2 G4 else R ys τ2 G3)
  (hd:∀ ys τ G,Pv items.length ys τ G->∀ p,G p=none->q (.ref p) (gu G p (.lst ys))):XV stay g tif te q items [] τ G:=by
 have key:∀ (r:List T) (i:Nat) ys τ G,items.drop i=r->i<=items.length->Pv i ys τ G->XV stay g tif te q r ys τ G:=by
  intro r;induction r with
  |nil=>
   intro i ys τ G e hi p;have:i=items.length:=by have:=congrArg List.length e;simp at this;omega
   subst this;exact ⟨hst _ ys τ G hi p,hd ys τ G p⟩
  |cons x r ih=>
   intro i ys τ G e hi p;have hl:i<items.length:=by
    apply Classical.byContradiction;intro z;rw [List.drop_eq_nil_of_le (by omega)] at e;cases e
   have e':=List.drop_eq_getElem_cons hl;rw [e] at e';injection e' with e1 e2;exact ⟨hst i ys τ G hi p,hs i x ys τ G _ (by rw [getElem?_eq_getElem hl,e1]) p λys2 τ2 G2 p2=>ih (i+1) ys2 τ2 G2 e2.symm hl p2⟩
 exact key items 0 [] τ G (by simp) (Nat.zero_le _) h0
def LB {stay:Gp->Prop} {g:TG3} {te:TE3} {q:Q3} {G:Gp} (f:T->T) (Ok:St3->Prop) (hst:stay G):∀ (items ys:List T) (τ:St3),Ok τ ->
  (∀ x∈items,∀ τ,Ok τ->∀ R:St3->T->Gp->Prop,(∀ τ',Ok τ'->R τ' (f x) G)->g x τ G λτ2 G2=>te τ2 G2 λy G4=>R τ2 y G4) ->
  ys.length+items.length<sizeLine->(∀ p,G p=none->q (.ref p) (gu G p (.lst (ys++items.map f))))->XV stay g tt3 te q items ys τ G
 |[],ys,τ,_,_,_,h=>⟨hst,by simpa using h⟩
 |x::r,ys,τ,ok,step,len,h=>by
  refine ⟨hst,?_⟩;have e:(λτ2 G2=>tt3 τ2 G2 λk G3=>if k=true then te τ2 G3 λy G4=>ys.length<sizeLine/\XV stay g tt3 te q r (ys++[y]) τ2 G4 else XV stay g tt3 te q r ys τ2 G3)=(λτ2 G2=>te τ2 G2 λy G4=>ys.length<sizeLine/\XV stay g tt3 te q r (ys++[y]) τ2 G4):=by
   funext τ2 G2;simp [tt3]
  rw [e];rw [length_cons] at len;refine step x List.mem_cons_self τ ok _ λτ' ok'=>⟨by omega,LB f Ok hst r (ys++[f x]) τ' ok' (λz hz=>step z (List.mem_cons_of_mem _ hz)) (by rw [length_append,List.length_singleton];omega) λp hp=>?_⟩
  simpa using h p hp
def qai {lo:Int} {n i:Nat} {x:T} (h:(K7 lo n)[i]?=some x):i<n/\x=T.int (lo+(i:Int)):=by
 unfold K7 at h;rw [getElem?_map] at h;cases e:(List.range n)[i]? with
 |none=>rw [e] at h;cases h
 |some k=>
  rw [e] at h;obtain ⟨hi,hk⟩:=List.getElem?_eq_some_iff.mp e;simp at hi hk;subst hk;exact ⟨hi,by simpa using h.symm⟩
def ZX (lo:Int) (n:Nat):(K7 lo n).length=n:=by simp [K7]
end L3
namespace Bk
open PySem L2 L3
def JQ:TS3:=(qK (jp (V9 (λt=>ZF t "int") (v3 0)) (jZ (V9 (λt=>ZF t "bool") (v3 0)))))
def V6 (S_is_number:Sp3):TS3:=(qK (jp (V9 (λt=>ZF t "tuple") (v3 0)) (jp (o3 (zm false) (cb3 ZV (qb (v3 0) qg)) (c3 (.int 2))) (jp (cb3 S_is_number (qb (o3 ix3 (v3 0) (c3 (.int 0))) qg)) (cb3 S_is_number (qb (o3 ix3 (v3 0) (c3 (.int 1))) qg))))))
def V7 (S_size_of:Sp3):TS3:=(qw (qD (o3 ix3 (v3 0) (c3 (.int 0))) (gn3 1)) (qw (zf (tb3 (o3 (zm false) (v3 1) (c3 (.str "bits")))) (qK (qI (qb (o3 (iC WZ (λi j=>i*2 ^ j.toNat)) (c3 (.int 1)) (o3 ix3 (v3 0) (c3 (.int 1)))) (qb (o3 (iC WZ (λi j=>i*2 ^ j.toNat)) (c3 (.int 1)) (o3 ix3 (v3 0) (c3 (.int 2)))) (qb (o3 (iC WZ (λi j=>i*2 ^ j.toNat)) (c3 (.int 1)) (cb3 ZV (qb (o3 ix3 (v3 0) (c3 (.int 3))) qg))) qg))))) qz) (qw (zf (tb3 (o3 (zm false) (v3 1) (c3 (.str "table")))) (qK (qI (qb (cb3 ZV (qb (o3 ix3 (v3 0) (c3 (.int 2))) qg)) (qb (cb3 ZV (qb (o3 ix3 (o3 ix3 (v3 0) (c3 (.int 2))) (c3 (.int 0))) qg)) (qb (o3 ix3 (v3 0) (c3 (.int 1))) qg))))) qz) (qw (zf (tb3 (o3 (zm false) (v3 1) (c3 (.str "joined")))) (qw (qD (cb3 S_size_of (qb (o3 ix3 (v3 0) (c3 (.int 1))) qg)) (qV 3 (qm (gn3 2) (qm (gn3 3) (qm (gn3 4) qW))))) (qw (qD (cb3 S_size_of (qb (o3 ix3 (v3 0) (c3 (.int 2))) qg)) (qV 3 (qm (gn3 5) (qm (gn3 6) (qm (gn3 7) qW))))) (qK (qI (qb (o3 (iC U7 (·*·)) (v3 2) (v3 5)) (qb (o3 (iC U7 (·*·)) (v3 3) (v3 6)) (qb (o3 (iC U7 (·*·)) (v3 4) (v3 7)) qg))))))) qz) (qK (qI (qb (o3 ix3 (v3 0) (c3 (.int 1))) (qb (o3 ix3 (v3 0) (c3 (.int 2))) (qb (o3 ix3 (v3 0) (c3 (.int 3))) qg)))))))))
def JJ (S_size_of:Sp3):TS3:=(qw (qD (cb3 S_size_of (qb (v3 0) qg)) (qV 3 (qm (gn3 2) (qm (gn3 3) (qm (gn3 4) qW))))) (qK (o3 zb (o3 (iC U7 (·*·)) (o3 ix3 (v3 1) (c3 (.int 0))) (v3 3)) (o3 ix3 (v3 1) (c3 (.int 1))))))
def V3 (S_is_pair:Sp3) (S_size_of:Sp3):TS3:=(qw (zf (VQ (tb3 (cb3 S_is_pair (qb (v3 1) qg)))) (qK (c3 (.bl false))) qz) (qw (qD (cb3 S_size_of (qb (v3 0) qg)) (qV 3 (qm (gn3 2) (qm (gn3 3) (qm (gn3 4) qW))))) (qK (jp (ch3 (iB λi j=>decide (i<=j)) (iB λi j=>decide (i<j)) (c3 (.int 0)) (o3 ix3 (v3 1) (c3 (.int 0))) (v3 2)) (ch3 (iB λi j=>decide (i<=j)) (iB λi j=>decide (i<j)) (c3 (.int 0)) (o3 ix3 (v3 1) (c3 (.int 1))) (v3 3))))))
def jz:TS3:=(qw (qD (o3 (iI Builtin.bitAnd) (v3 0) (v3 1)) (gn3 2)) (qw (qD (c3 (.int 0)) (gn3 3)) (qw (XQ (tb3 (o3 (iB λi j=>decide (j<i)) (v3 2) (c3 (.int 0)))) (qw (U6 3 (iI (·+·)) (o3 (iI Builtin.bitAnd) (v3 2) (c3 (.int 1)))) (qD (o3 (iC (λ_ j=>0<=j) (λi j=>i/2 ^ j.toNat)) (v3 2) (c3 (.int 1))) (gn3 2)))) (qK (o3 (zm false) (o3 (iI Builtin.bitAnd) (v3 3) (c3 (.int 1))) (c3 (.int 1)))))))
def JA (S_odd_in_common:Sp3):TS3:=(qK (cb3 ql8 (qb (lc3 (KY (qb (v3 0) qg)) (qV 2 (qm (gn3 0) (qm (gn3 1) qW))) (tb3 (cb3 S_odd_in_common (qb (v3 2) (qb (v3 1) qg)))) (o3 (iC WZ (λi j=>i*2 ^ j.toNat)) (c3 (.int 1)) (v3 0)) [none,none,some 1]) qg)))
def E9:TS3:=(qw (qD (v3 0) (qV 2 (qm (gn3 3) (qm (gn3 4) qW)))) (qK (qI (qb (qI (qb (o3 (iC qbG (·/·)) (v3 3) (v3 1)) (qb (o3 (iC qbG (·/·)) (v3 4) (v3 2)) qg))) (qb (qI (qb (o3 (iC (λ_ j=>0<j) (·%·)) (v3 3) (v3 1)) (qb (o3 (iC (λ_ j=>0<j) (·%·)) (v3 4) (v3 2)) qg))) qg)))))
def QC (S_size_of:Sp3) (S_parted:Sp3) (S_bank_in:Sp3):TS3:=(qw (qD (cb3 S_size_of (qb (v3 1) qg)) (qV 3 (qm (gn3 3) (qm (gn3 4) (qm (gn3 5) qW))))) (qw (qD (cb3 S_parted (qb (v3 2) (qb (v3 3) (qb (v3 4) qg)))) (qV 2 (qm (gn3 6) (qm (gn3 7) qW)))) (qK (o3 zb (o3 (iC U7 (·*·)) (cb3 S_bank_in (qb (v3 0) (qb (v3 6) qg))) (v3 5)) (cb3 S_bank_in (qb (v3 1) (qb (v3 7) qg)))))))
def VU (S_number_of:Sp3) (S_bits_bank:Sp3) (S_joined_bank:Sp3):TS3:=(qw (qD (o3 ix3 (v3 0) (c3 (.int 0))) (gn3 2)) (qw (zf (tb3 (o3 (zm false) (v3 2) (c3 (.str "skew")))) (qK (o3 (iC (λ_ j=>0<j) (·%·)) (o3 zb (o3 (iC U7 (·*·)) (o3 ix3 (v3 0) (c3 (.int 4))) (o3 ix3 (v3 1) (c3 (.int 0)))) (o3 (iC U7 (·*·)) (o3 ix3 (v3 0) (c3 (.int 5))) (o3 ix3 (v3 1) (c3 (.int 1))))) (o3 ix3 (v3 0) (c3 (.int 3))))) qz) (qw (zf (tb3 (o3 (zm false) (v3 2) (c3 (.str "rests")))) (qK (o3 (iC (λ_ j=>0<j) (·%·)) (cb3 S_number_of (qb (v3 0) (qb (v3 1) qg))) (o3 ix3 (v3 0) (c3 (.int 3))))) qz) (qw (zf (tb3 (o3 (zm false) (v3 2) (c3 (.str "bits")))) (qK (cb3 S_bits_bank (qb (o3 ix3 (v3 0) (c3 (.int 3))) (qb (cb3 S_number_of (qb (v3 0) (qb (v3 1) qg))) qg)))) qz) (qw (zf (tb3 (o3 (zm false) (v3 2) (c3 (.str "table")))) (qK (o3 ix3 (o3 ix3 (o3 ix3 (v3 0) (c3 (.int 2))) (o3 ix3 (v3 1) (c3 (.int 0)))) (o3 ix3 (v3 1) (c3 (.int 1))))) qz) (qK (cb3 S_joined_bank (qb (o3 ix3 (v3 0) (c3 (.int 1))) (qb (o3 ix3 (v3 0) (c3 (.int 2))) (qb (v3 1) qg))))))))))
def je (S_is_word:Sp3):TS3:=(zf (VQ (tb3 (cb3 S_is_word (qb (v3 0) (qb (v3 1) qg))))) V5 qz)
def VV (S_refuse_no_word:Sp3) (S_bank_in:Sp3):TS3:=(qw (zn (cb3 S_refuse_no_word (qb (v3 0) (qb (v3 1) qg)))) (qK (cb3 S_bank_in (qb (v3 0) (qb (v3 1) qg)))))
def V1:TS3:=(qw (qD (o3 (iC (λ_ j=>0<j) (·%·)) (o3 (iC U7 (·*·)) (o3 zb (o3 zb (o3 (iC (λ_ j=>0<j) (·%·)) (v3 0) (c3 (.int 2147483629))) (o3 (iC U7 (·*·)) (o3 (iC U7 (·*·)) (v3 1) (v3 1)) (c3 (.int 7919)))) (c3 (.int 11))) (c3 (.int 48271))) (c3 (.int 2147483647))) (gn3 2)) (qK (o3 (iC (λ_ j=>0<j) (·%·)) (o3 (iC U7 (·*·)) (v3 2) (v3 2)) (c3 (.int 1999999973)))))
def YH:TS3:=(qw (qD (if3 (tb3 (o3 (iB λi j=>decide (i<j)) (v3 1) (cb3 ZV (qb (v3 0) qg)))) (o3 ix3 (v3 0) (v3 1)) (c3 (.int 0))) (gn3 2)) (qw (qD (if3 (tb3 (o3 (iB λi j=>decide (j<=i)) (cb3 UL (qb (v3 2) qg)) (o3 (iC WZ (λi j=>i ^ j.toNat)) (c3 (.int 10)) (c3 (.int 18))))) (cb3 UL (qb (v3 2) qg)) (c3 (.int 0))) (gn3 3)) (qK (zO (qb (v3 3) (qb (o3 zb (v3 2) (o3 (iC U7 (·*·)) (c3 (.int 1000003)) (v3 1))) (qb (c3 (.int 0)) qg)))))))
def YT (S_law_mix:Sp3):TS3:=(qw (qD (o3 zb (o3 ix3 (v3 0) (c3 (.int 2))) (c3 (.int 1))) (jh (v3 0) (c3 (.int 2)))) (qw (zf (tb3 (o3 (iB λi j=>decide (j<i)) (o3 ix3 (v3 0) (c3 (.int 0))) (c3 (.int 0)))) (qw (qD (o3 (iC (λ_ j=>0<j) (·%·)) (o3 ix3 (v3 0) (c3 (.int 0))) (v3 1)) (gn3 2)) (qw (qD (o3 (iC qbG (·/·)) (o3 ix3 (v3 0) (c3 (.int 0))) (v3 1)) (jh (v3 0) (c3 (.int 0)))) (qK (v3 2)))) qz) (qK (o3 (iC (λ_ j=>0<j) (·%·)) (o3 (iC qbG (·/·)) (cb3 S_law_mix (qb (cb3 S_law_mix (qb (o3 ix3 (v3 0) (c3 (.int 1))) (qb (o3 ix3 (v3 0) (c3 (.int 2))) qg))) (qb (o3 zb (o3 ix3 (v3 0) (c3 (.int 2))) (c3 (.int 64))) qg))) (c3 (.int 64))) (v3 1)))))
def JL (S_law_pick:Sp3):TS3:=(qw (qD (o3 ix3 (zO (qb (c3 (.int 6)) (qb (c3 (.int 6)) (qb (c3 (.int 6)) (qb (c3 (.int 16)) qg))))) (cb3 S_law_pick (qb (v3 0) (qb (c3 (.int 4)) qg)))) (gn3 1)) (qw (ZY 2 3 (qb (o3 zb (c3 (.int 1)) (cb3 S_law_pick (qb (v3 0) (qb (v3 1) qg)))) (qb (o3 zb (c3 (.int 1)) (cb3 S_law_pick (qb (v3 0) (qb (v3 1) qg)))) qg))) (qK (o3 ix3 (zO (qb (qI (qb (v3 2) (qb (v3 3) qg))) (qb (qI (qb (v3 2) (qb (v3 3) qg))) (qb (qI (qb (v3 2) (qb (v3 3) qg))) (qb (qI (qb (v3 2) (qb (v3 2) qg))) qg))))) (cb3 S_law_pick (qb (v3 0) (qb (c3 (.int 4)) qg)))))))
def VT:TS3:=(qw (XQ (tb3 (o3 (iB λi j=>decide (j<i)) (v3 1) (c3 (.int 0)))) (ZY 0 1 (qb (v3 1) (qb (o3 (iC (λ_ j=>0<j) (·%·)) (v3 0) (v3 1)) qg)))) (qK (v3 0)))
def YK (S_law_sides:Sp3) (S_law_pick:Sp3):TS3:=(qw (qD (cb3 S_law_sides (qb (v3 0) qg)) (qV 2 (qm (gn3 1) (qm (gn3 2) qW)))) (qw (qD (o3 zb (c3 (.int 1)) (cb3 S_law_pick (qb (v3 0) (qb (o3 ix3 (zO (qb (c3 (.int 8)) (qb (c3 (.int 8)) (qb (c3 (.int 17)) (qb (c3 (.int 32)) qg))))) (cb3 S_law_pick (qb (v3 0) (qb (c3 (.int 4)) qg)))) qg)))) (gn3 3)) (qw (qD (o3 ix3 (zO (qb (v3 3) (qb (c3 (.int 10)) (qb (c3 (.int 100)) qg)))) (cb3 S_law_pick (qb (v3 0) (qb (c3 (.int 3)) qg)))) (gn3 4)) (qK (qI (qb (c3 (.str "skew")) (qb (v3 1) (qb (v3 2) (qb (v3 3) (qb (cb3 S_law_pick (qb (v3 0) (qb (v3 4) qg))) (qb (cb3 S_law_pick (qb (v3 0) (qb (v3 4) qg))) qg)))))))))))
def JS (S_law_sides:Sp3) (S_law_pick:Sp3) (S_law_gcd:Sp3):TS3:=(qw (qD (cb3 S_law_sides (qb (v3 0) qg)) (qV 2 (qm (gn3 1) (qm (gn3 2) qW)))) (qw (qD (o3 zb (c3 (.int 1)) (cb3 S_law_pick (qb (v3 0) (qb (o3 ix3 (zO (qb (c3 (.int 8)) (qb (c3 (.int 17)) (qb (c3 (.int 32)) qg)))) (cb3 S_law_pick (qb (v3 0) (qb (c3 (.int 3)) qg)))) qg)))) (gn3 3)) (qw (qD (o3 zb (u3 ZW (o3 (iC qbG (·/·)) (o3 (iC U7 (·*·)) (u3 ZW (v3 1)) (v3 2)) (v3 3))) (cb3 S_law_pick (qb (v3 0) (qb (c3 (.int 4)) qg)))) (gn3 4)) (qw (SQ (j4 (qb (c3 (.int 32)) qg)) (gn3 5) (zf (tb3 (o3 (iB λi j=>decide (j<i)) (cb3 S_law_gcd (qb (v3 3) (qb (v3 4) qg))) (c3 (.int 1)))) (qD (o3 zb (v3 4) (c3 (.int 1))) (gn3 4)) qz)) (qK (qI (qb (c3 (.str "rests")) (qb (v3 1) (qb (v3 2) (qb (v3 3) (qb (v3 4) qg)))))))))))
def YR (S_law_pick:Sp3):TS3:=(qw (ZY 2 3 (qb (cb3 S_law_pick (qb (v3 0) (qb (o3 zb (v3 1) (c3 (.int 1))) qg))) (qb (cb3 S_law_pick (qb (v3 0) (qb (o3 zb (v3 1) (c3 (.int 1))) qg))) qg))) (qw (qD (lc3 (j4 (qb (cb3 S_law_pick (qb (v3 0) (qb (c3 (.int 6)) qg))) qg)) (gn3 0) tt3 (cb3 S_law_pick (qb (v3 1) (qb (c3 (.int 256)) qg))) [none,some 0]) (gn3 4)) (qw (qD (o3 ix3 (zO (qb (c3 (.int 1)) (qb (c3 (.int 2)) (qb (c3 (.int 4)) (qb (c3 (.int 8)) (qb (c3 (.int 16)) (qb (c3 (.int 32)) (qb (c3 (.int 64)) (qb (c3 (.int 128)) (qb (c3 (.int 256)) qg)))))))))) (o3 zb (v3 2) (v3 3))) (gn3 5)) (qK (qI (qb (c3 (.str "bits")) (qb (v3 2) (qb (v3 3) (qb (cb3 qM (qb (lc3 (EO (v3 4)) (gn3 0) tt3 (o3 (iC (λ_ j=>0<j) (·%·)) (v3 0) (v3 1)) [none,some 5]) qg)) qg)))))))))
def Z3 (S_law_sides:Sp3) (S_law_pick:Sp3):TS3:=(qw (qD (cb3 S_law_sides (qb (v3 0) qg)) (qV 2 (qm (gn3 1) (qm (gn3 2) qW)))) (qw (qD (o3 zb (c3 (.int 1)) (cb3 S_law_pick (qb (v3 0) (qb (o3 ix3 (zO (qb (c3 (.int 4)) (qb (c3 (.int 9)) (qb (c3 (.int 32)) qg)))) (cb3 S_law_pick (qb (v3 0) (qb (c3 (.int 3)) qg)))) qg)))) (gn3 3)) (qw (qD (lc3 (j4 (qb (v3 1) qg)) (gn3 0) tt3 (cb3 qM (qb (lc3 (j4 (qb (v3 3) qg)) (gn3 0) tt3 (cb3 S_law_pick (qb (v3 1) (qb (v3 2) qg))) [none,some 1,some 2]) qg)) [none,some 0,some 3,some 2]) (gn3 4)) (qK (qI (qb (c3 (.str "table")) (qb (v3 3) (qb (cb3 qM (qb (v3 4) qg)) qg))))))))
def JB (S_law_pick:Sp3) (S_law_gcd:Sp3):TS3:=(qw (qD (qI (qb (o3 zb (c3 (.int 1)) (cb3 S_law_pick (qb (v3 0) (qb (c3 (.int 4)) qg)))) (qb (o3 zb (c3 (.int 1)) (cb3 S_law_pick (qb (v3 0) (qb (c3 (.int 4)) qg)))) (qb (o3 zb (c3 (.int 1)) (cb3 S_law_pick (qb (v3 0) (qb (c3 (.int 5)) qg)))) qg)))) (qV 3 (qm (gn3 1) (qm (gn3 2) (qm (gn3 3) qW))))) (qw (qD (cb3 S_law_pick (qb (v3 0) (qb (c3 (.int 4)) qg))) (gn3 4)) (qw (zf (tb3 (o3 (zm false) (v3 4) (c3 (.int 0)))) (qK (qI (qb (c3 (.str "skew")) (qb (v3 1) (qb (v3 2) (qb (v3 3) (qb (cb3 S_law_pick (qb (v3 0) (qb (v3 3) qg))) (qb (cb3 S_law_pick (qb (v3 0) (qb (c3 (.int 9)) qg))) qg)))))))) qz) (qw (zf (tb3 (o3 (zm false) (v3 4) (c3 (.int 1)))) (qw (ZY 5 6 (qb (cb3 S_law_pick (qb (v3 0) (qb (c3 (.int 3)) qg))) (qb (cb3 S_law_pick (qb (v3 0) (qb (c3 (.int 3)) qg))) qg))) (qw (qD (lc3 (j4 (qb (cb3 S_law_pick (qb (v3 0) (qb (c3 (.int 3)) qg))) qg)) (gn3 0) tt3 (cb3 S_law_pick (qb (v3 1) (qb (c3 (.int 16)) qg))) [none,some 0]) (gn3 7)) (qw (qD (o3 ix3 (zO (qb (c3 (.int 1)) (qb (c3 (.int 2)) (qb (c3 (.int 4)) (qb (c3 (.int 8)) (qb (c3 (.int 16)) qg)))))) (o3 zb (v3 5) (v3 6))) (gn3 8)) (qK (qI (qb (c3 (.str "bits")) (qb (v3 5) (qb (v3 6) (qb (cb3 qM (qb (lc3 (EO (v3 7)) (gn3 0) tt3 (o3 (iC (λ_ j=>0<j) (·%·)) (v3 0) (v3 1)) [none,some 8]) qg)) qg))))))))) qz) (qw (zf (tb3 (o3 (zm false) (v3 4) (c3 (.int 2)))) (qw (qD (o3 zb (u3 ZW (o3 (iC qbG (·/·)) (o3 (iC U7 (·*·)) (u3 ZW (v3 1)) (v3 2)) (v3 3))) (cb3 S_law_pick (qb (v3 0) (qb (c3 (.int 3)) qg)))) (gn3 9)) (qw (SQ (j4 (qb (c3 (.int 9)) qg)) (gn3 10) (zf (tb3 (o3 (iB λi j=>decide (j<i)) (cb3 S_law_gcd (qb (v3 3) (qb (v3 9) qg))) (c3 (.int 1)))) (qD (o3 zb (v3 9) (c3 (.int 1))) (gn3 9)) qz)) (qK (qI (qb (c3 (.str "rests")) (qb (v3 1) (qb (v3 2) (qb (v3 3) (qb (v3 9) qg))))))))) qz) (qw (qD (lc3 (j4 (qb (v3 1) qg)) (gn3 0) tt3 (cb3 qM (qb (lc3 (j4 (qb (v3 3) qg)) (gn3 0) tt3 (cb3 S_law_pick (qb (v3 1) (qb (v3 2) qg))) [none,some 1,some 2]) qg)) [none,some 0,some 3,some 2]) (gn3 11)) (qK (qI (qb (c3 (.str "table")) (qb (v3 3) (qb (cb3 qM (qb (v3 11) qg)) qg)))))))))))
def j9 (S_law_pick:Sp3) (S_law_skew:Sp3) (S_law_rests:Sp3) (S_law_bits:Sp3) (S_law_table:Sp3) (S_law_small:Sp3):TS3:=(qw (qD (cb3 S_law_pick (qb (v3 0) (qb (c3 (.int 8)) qg))) (gn3 1)) (qw (zf (tb3 (o3 (iB λi j=>decide (i<j)) (v3 1) (c3 (.int 2)))) (qK (cb3 S_law_skew (qb (v3 0) qg))) qz) (qw (zf (tb3 (o3 (zm false) (v3 1) (c3 (.int 2)))) (qK (cb3 S_law_rests (qb (v3 0) qg))) qz) (qw (zf (tb3 (o3 (zm false) (v3 1) (c3 (.int 3)))) (qK (cb3 S_law_bits (qb (v3 0) (qb (c3 (.int 4)) qg)))) qz) (qw (zf (tb3 (o3 (zm false) (v3 1) (c3 (.int 4)))) (qK (cb3 S_law_table (qb (v3 0) qg))) qz) (qw (zf (tb3 (o3 (zm false) (v3 1) (c3 (.int 5)))) (qw (qD (qI (qb (c3 (.str "joined")) (qb (qI (qb (c3 (.str "skew")) (qb (o3 zb (c3 (.int 1)) (cb3 S_law_pick (qb (v3 0) (qb (c3 (.int 2)) qg)))) (qb (c3 (.int 1)) (qb (c3 (.int 2)) (qb (c3 (.int 1)) (qb (c3 (.int 1)) qg))))))) (qb (qI (qb (c3 (.str "table")) (qb (c3 (.int 2)) (qb (qI (qb (qI (qb (c3 (.int 1)) (qb (c3 (.int 0)) qg))) qg)) qg)))) qg)))) (gn3 2)) (qw (qD (zO (qb (qI (qb (c3 (.str "joined")) (qb (v3 2) (qb (cb3 S_law_small (qb (v3 0) qg)) qg)))) (qb (qI (qb (c3 (.str "joined")) (qb (cb3 S_law_small (qb (v3 0) qg)) (qb (v3 2) qg)))) qg))) (gn3 3)) (qw (zn (bm3 YZ (v3 3) (qb (qI (qb (c3 (.str "joined")) (qb (qI (qb (c3 (.str "skew")) (qb (c3 (.int 8)) (qb (c3 (.int 1)) (qb (c3 (.int 3)) (qb (c3 (.int 1)) (qb (c3 (.int 1)) qg))))))) (qb (qI (qb (c3 (.str "rests")) (qb (c3 (.int 2)) (qb (c3 (.int 16)) (qb (c3 (.int 5)) (qb (c3 (.int 7)) qg)))))) qg)))) qg))) (qw (zn (bm3 YZ (v3 3) (qb (qI (qb (c3 (.str "joined")) (qb (qI (qb (c3 (.str "rests")) (qb (c3 (.int 1)) (qb (c3 (.int 8)) (qb (c3 (.int 3)) (qb (c3 (.int 4)) qg)))))) (qb (qI (qb (c3 (.str "skew")) (qb (c3 (.int 16)) (qb (c3 (.int 2)) (qb (c3 (.int 5)) (qb (c3 (.int 2)) (qb (c3 (.int 1)) qg))))))) qg)))) qg))) (qK (o3 ix3 (v3 3) (cb3 S_law_pick (qb (v3 0) (qb (c3 (.int 4)) qg))))))))) qz) (qK (qI (qb (c3 (.str "joined")) (qb (cb3 S_law_small (qb (v3 0) qg)) (qb (cb3 S_law_small (qb (v3 0) qg)) qg)))))))))))
def YG (S_law_size:Sp3):TS3:=(qw (zf (tb3 (o3 (in3 false) (o3 ix3 (v3 0) (c3 (.int 0))) (qI (qb (c3 (.str "skew")) (qb (c3 (.str "rests")) qg))))) (qK (V0 (v3 0) (sp3 (c3 (.int 1))) (sp3 (c3 (.int 4))))) qz) (qw (zf (tb3 (o3 (zm false) (o3 ix3 (v3 0) (c3 (.int 0))) (c3 (.str "bits")))) (qw (qD (zO (qb (c3 (.int 1)) (qb (c3 (.int 2)) (qb (c3 (.int 4)) (qb (c3 (.int 8)) (qb (c3 (.int 16)) (qb (c3 (.int 32)) (qb (c3 (.int 64)) (qb (c3 (.int 128)) (qb (c3 (.int 256)) (qb (c3 (.int 512)) qg))))))))))) (gn3 1)) (qK (qI (qb (o3 ix3 (v3 1) (o3 ix3 (v3 0) (c3 (.int 1)))) (qb (o3 ix3 (v3 1) (o3 ix3 (v3 0) (c3 (.int 2)))) (qb (o3 ix3 (v3 1) (cb3 ZV (qb (o3 ix3 (v3 0) (c3 (.int 3))) qg))) qg)))))) qz) (qw (zf (tb3 (o3 (zm false) (o3 ix3 (v3 0) (c3 (.int 0))) (c3 (.str "table")))) (qK (qI (qb (cb3 ZV (qb (o3 ix3 (v3 0) (c3 (.int 2))) qg)) (qb (cb3 ZV (qb (o3 ix3 (o3 ix3 (v3 0) (c3 (.int 2))) (c3 (.int 0))) qg)) (qb (o3 ix3 (v3 0) (c3 (.int 1))) qg))))) qz) (qw (ZY 2 3 (qb (cb3 S_law_size (qb (o3 ix3 (v3 0) (c3 (.int 1))) qg)) (qb (cb3 S_law_size (qb (o3 ix3 (v3 0) (c3 (.int 2))) qg)) qg))) (qK (cb3 qM (qb (lc3 (qbo (qb (v3 2) (qb (v3 3) qg))) (qV 2 (qm (gn3 0) (qm (gn3 1) qW))) tt3 (o3 (iC U7 (·*·)) (v3 0) (v3 1)) [none,none]) qg)))))))
inductive Dl where
 |skew (r c b x y:Int)
 |rests (r c b p:Int)
 |bits (h l:Nat) (ms:List Int)
 |table (b:Int) (cells:List (List Int))
 |joined (d e:Dl)
def MH (r:List Int):T:=.tup (r.map T.int)
def Dl.t:Dl->T
 |.skew r c b x y=>.tup [.str "skew",.int r,.int c,.int b,.int x,.int y]
 |.rests r c b p=>.tup [.str "rests",.int r,.int c,.int b,.int p]
 |.bits h l ms=>.tup [.str "bits",.int h,.int l,.tup (ms.map T.int)]
 |.table b cells=>.tup [.str "table",.int b,.tup (cells.map MH)]
 |.joined d e=>.tup [.str "joined",d.t,e.t]
def Dl.R:Dl->Int
 |.skew r _ _ _ _=>r
 |.rests r _ _ _=>r
 |.bits h _ _=>2 ^ h
 |.table _ cells=>cells.length
 |.joined d e=>d.R*e.R
def Dl.C:Dl->Int
 |.skew _ c _ _ _=>c
 |.rests _ c _ _=>c
 |.bits _ l _=>2 ^ l
 |.table _ cells=>((cells[0]?).getD []).length
 |.joined d e=>d.C*e.C
def Dl.B:Dl->Int
 |.skew _ _ b _ _=>b
 |.rests _ _ b _=>b
 |.bits _ _ ms=>2 ^ ms.length
 |.table b _=>b
 |.joined d e=>d.B*e.B
def pop:Nat->Nat->Nat
 |0,_=>0
 |k+1,n=>n%2+pop k (n/2)
def qbc (n m:Int):Bool:=pop 64 (Builtin.bitAnd n m).toNat%2==1
def Z0 (n:Int):Nat->List Int->Int
 |_,[]=>0
 |t,m::ms=>(if qbc n m then 2 ^ t else 0)+Z0 n (t+1) ms
def V2 (ms:List Int) (n:Int):Int:=Z0 n 0 ms
def Dl.bank:Dl->Int->Int->Int
 |.skew _ _ b x y,i,j=>(x*i+y*j)%b
 |.rests _ c b _,i,j=>(i*c+j)%b
 |.bits _ l ms,i,j=>V2 ms (i*2 ^ l+j)
 |.table _ cells,i,j=>(((cells[i.toNat]?).getD [])[j.toNat]?).getD 0
 |.joined d e,i,j=>d.bank (i/e.R) (j/e.C)*e.B+e.bank (i%e.R) (j%e.C)
def Dl.Ok:Dl->Prop
 |.skew r c b x y=>1<=r/\r<=60/\1<=c/\c<=60/\1<=b/\b<=1000/\0<=x/\x<=1000/\0<=y/\y<=1000
 |.rests r c b p=>1<=r/\r<=60/\1<=c/\c<=60/\1<=b/\b<=1000/\1<=p/\p<=100000/\Int.gcd b p=1/\r*c<=b*p
 |.bits h l ms=>h<=4/\l<=4/\ms.length<=5/\∀ m∈ms,0<=m/\m<2 ^ (h+l)
 |.table b cells=>1<=b/\b<=1000/\1<=cells.length/\cells.length<=60/\∃ c,1<=c/\c<=60/\∀ row∈cells,row.length=c/\∀ x∈row,0<=x/\x<b
 |.joined d e=>d.Ok/\e.Ok/\d.R*e.R<=4096/\d.C*e.C<=4096/\d.B*e.B<=4096
def Dl.dep:Dl->Nat
 |.joined d e=>max d.dep e.dep+1
 |_=>0
def p2 (n:Nat):((2:Int) ^ n)=((2 ^ n:Nat):Int):=by simp
def DA (n:Nat):(1:Int)<=2 ^ n:=by
 rw [p2];have:=Nat.one_le_two_pow (n:=n);omega
def DE {n k:Nat} (h:n<=k):(2:Int) ^ n<=2 ^ k:=by
 rw [p2,p2];have:=Nat.pow_le_pow_right (n:=2) (by omega) h;omega
structure Lims (d:Dl):Prop where
 r1:1<=d.R
 r2:d.R<=4096
 c1:1<=d.C
 c2:d.C<=4096
 b1:1<=d.B
 b2:d.B<=4096
def YS {a b:Int} (h1:1<=a) (h2:1<=b):1<=a*b:=by
 have:=Int.mul_le_mul (a:=1) (b:=1) (c:=a) (d:=b) h1 h2 (by omega) (by omega);omega
def Dl.lims:∀ {d:Dl},d.Ok->Lims d
 |.skew r c b x y,⟨h1,h2,h3,h4,h5,h6,_⟩=>⟨h1,by simp [Dl.R];omega,h3,by simp [Dl.C];omega,h5,by simp [Dl.B];omega⟩
 |.rests r c b x,⟨h1,h2,h3,h4,h5,h6,_⟩=>⟨h1,by simp [Dl.R];omega,h3,by simp [Dl.C];omega,h5,by simp [Dl.B];omega⟩
 |.bits h l ms,⟨h1,h2,h3,_⟩=>by
  have e1:=DE h1;have e2:=DE h2;have e3:=DE h3;refine ⟨DA _,?_,DA _,?_,DA _,?_⟩<;>simp [Dl.R,Dl.C,Dl.B]<;>omega
 |.table b cells,⟨h1,h2,h3,h4,c,h5,h6,h7⟩=>by
  have e0:cells[0]?=some cells[0]:=getElem?_eq_getElem (by omega);have e1:=(h7 cells[0] (List.getElem_mem _)).1;have e2:(Dl.table b cells).C=c:=by simp [Dl.C,e0,e1]
  exact ⟨by simp [Dl.R];omega,by simp [Dl.R];omega,by rw [e2];omega,by rw [e2];omega,h1,by simp [Dl.B];omega⟩
 |.joined d e,⟨h1,h2,h3,h4,h5⟩=>by
  have a:=Dl.lims h1;have b:=Dl.lims h2;exact ⟨YS a.r1 b.r1,h3,YS a.c1 b.c1,h4,YS a.b1 b.b1,h5⟩
structure Inn (d:Dl) (i j:Int):Prop where
 i1:0<=i
 i2:i<d.R
 j1:0<=j
 j2:j<d.C
def W4 (d:Dl):T:=.tup [.int d.R,.int d.C,.int d.B]
def wdT (i j:Int):T:=.tup [.int i,.int j]
def zN:Nat->Sp3
 |0=>CM
 |n+1=>λts G q=>∃ d:Dl,ts=[d.t]/\d.dep<=n/\d.Ok/\q (W4 d) G
def zG (n:Nat):Sp3:=λts G q=>∃ (d:Dl) (i j:Int),ts=[d.t,wdT i j]/\d.dep<=n/\d.Ok/\q (.int (i*d.C+j)) G
def JT:Sp3:=λts G q=>∃ (n m:Int),ts=[.int n,.int m]/\0<=n/\0<=m/\m<2 ^ 64/\q (.bl (qbc n m)) G
def ED:Sp3:=λts G q=>∃ (ms:List Int) (n:Int),ts=[.tup (ms.map T.int),.int n]/\ms.length<=30/\(∀ m∈ms,0<=m/\m<2 ^ 64)/\0<=n/\∀ G',Ex G G'->q (.int (V2 ms n)) G'
def jF:Nat->Sp3
 |0=>CM
 |n+1=>λts G q=>∃ (d:Dl) (i j:Int),ts=[d.t,wdT i j]/\d.dep<=n/\d.Ok/\Inn d i j/\∀ G',Ex G G'->q (.int (d.bank i j)) G'
def RA:Sp3:=λts G q=>∃ (i j r c:Int),ts=[wdT i j,.int r,.int c]/\(0<r/\r<1000000)/\(0<c/\c<1000000)/\q (.tup [wdT (i/r) (j/c),wdT (i%r) (j%c)]) G
def YX (n:Nat):Sp3:=λts G q=>∃ (d e:Dl) (i j:Int),ts=[d.t,e.t,wdT i j]/\(Dl.joined d e).dep<=n/\(Dl.joined d e).Ok/\Inn (.joined d e) i j/\∀ G',Ex G G'->q (.int ((Dl.joined d e).bank i j)) G'
def MJ (n:Nat):Sp3:=λts G q=>∃ (d:Dl) (i j:Int),ts=[d.t,wdT i j]/\d.dep<=n/\d.Ok/\Inn d i j/\∀ G',Ex G G'->q (.int (d.bank i j)) G'
abbrev X5 (q:Q3):Ends3:={ nx:=λ_ G'=>q .non G',rt:=q }
def ql1 {j:Nat} (h:j<=1000):WZ 1 (j:Int):=⟨by omega,by omega,by decide⟩
def jk {A B:TS3} {d:Ends3} {τ:St3} {G:Gp} (h:∀ nx,nx=B d->A { d with nx:=nx } τ G):qw A B d τ G:=h _ rfl
def zo {s l:Str} {i:Nat} {R S:TS3} {d:Ends3} {τ:St3} {G:Gp} (hτ:τ[i]?=some (some (T.str s))):qw (zf (tb3 (o3 (zm false) (v3 i) (c3 (.str l)))) R qz) S d τ G=(if s=l then R { d with nx:=S d } τ G else S d τ G):=by
 simp only [qw,zf,tb3,o3,v3,hτ,c3,zm,zc,qz];by_cases e:s=l<;>simp [e]
def UW (n:Nat):∀ ts G q,zN (n+1) ts G q->ts.length=1/\V7 (zN n) (X5 q) (qj ["dealing","kind","rows","columns","banks","other_rows","other_columns","other_banks"] ts) G:=by
 rintro ts G q ⟨d,rfl,hd,ok,h⟩;refine ⟨rfl,?_⟩;unfold V7;refine jk λnx q1=>?_;cases d with
 |skew r c b x y=>
  show nx [some (Dl.skew r c b x y).t,some (.str "skew"),none,none,none,none,none,none] G;rw [q1,zo rfl,if_neg (by decide),zo rfl,if_neg (by decide),zo rfl,if_neg (by decide)];simp [Dl.t,qw,qD,gn3,qK,QZ,zf,zn,V5,qz,v3,c3,o3,u3,ZW,L3.ixT,L3.ixR,zb,iI,iC,iB,zm,zc,EC,tb3,WS,or3,VQ,jp,WO,jZ,if3,ch3,cb3,qb,qg,V9,tyT,ZF,qI,zO,V0,np3,sp3,qV,qm,qW,jh,V4,ZY,qj,bm3,YZ,WR,ZV,UL,U1,WT,WQ,qM,Q1,WU,WP,U6,L2.atI,ixN,YW,HT.sIx,zl,in3,zQ,eqF,gu,sizeLine_eq,getElem?_cons_zero,getElem?_cons_succ];exact h
 |rests r c b x=>
  show nx [some (Dl.rests r c b x).t,some (.str "rests"),none,none,none,none,none,none] G;rw [q1,zo rfl,if_neg (by decide),zo rfl,if_neg (by decide),zo rfl,if_neg (by decide)];simp [Dl.t,qw,qD,gn3,qK,QZ,zf,zn,V5,qz,v3,c3,o3,u3,ZW,L3.ixT,L3.ixR,zb,iI,iC,iB,zm,zc,EC,tb3,WS,or3,VQ,jp,WO,jZ,if3,ch3,cb3,qb,qg,V9,tyT,ZF,qI,zO,V0,np3,sp3,qV,qm,qW,jh,V4,ZY,qj,bm3,YZ,WR,ZV,UL,U1,WT,WQ,qM,Q1,WU,WP,U6,L2.atI,ixN,YW,HT.sIx,zl,in3,zQ,eqF,gu,sizeLine_eq,getElem?_cons_zero,getElem?_cons_succ];exact h
 |bits hh l ms=>
  obtain ⟨k1,k2,k3,_⟩:=ok;show nx [some (Dl.bits hh l ms).t,some (.str "bits"),none,none,none,none,none,none] G;rw [q1,zo rfl,if_pos rfl];simp [Dl.t,qw,qD,gn3,qK,QZ,zf,zn,V5,qz,v3,c3,o3,u3,ZW,L3.ixT,L3.ixR,zb,iI,iC,iB,zm,zc,EC,tb3,WS,or3,VQ,jp,WO,jZ,if3,ch3,cb3,qb,qg,V9,tyT,ZF,qI,zO,V0,np3,sp3,qV,qm,qW,jh,V4,ZY,qj,bm3,YZ,WR,ZV,UL,U1,WT,WQ,qM,Q1,WU,WP,U6,L2.atI,ixN,YW,HT.sIx,zl,in3,zQ,eqF,gu,sizeLine_eq,getElem?_cons_zero,getElem?_cons_succ];exact ⟨ql1 (by omega),ql1 (by omega),ql1 (by omega),h⟩
 |table b cells=>
  have L:=Dl.lims ok;obtain ⟨k1,k2,k3,k4,c,k5,k6,k7⟩:=ok;cases cells with
  |nil=>simp at k3
  |cons row cells=>
   show nx [some (Dl.table b (row::cells)).t,some (.str "table"),none,none,none,none,none,none] G;rw [q1,zo rfl,if_neg (by decide),zo rfl,if_pos rfl];simp [Dl.t,MH,qw,qD,gn3,qK,QZ,zf,zn,V5,qz,v3,c3,o3,u3,ZW,L3.ixT,L3.ixR,zb,iI,iC,iB,zm,zc,EC,tb3,WS,or3,VQ,jp,WO,jZ,if3,ch3,cb3,qb,qg,V9,tyT,ZF,qI,zO,V0,np3,sp3,qV,qm,qW,jh,V4,ZY,qj,bm3,YZ,WR,ZV,UL,U1,WT,WQ,qM,Q1,WU,WP,U6,L2.atI,ixN,YW,HT.sIx,zl,in3,zQ,eqF,gu,sizeLine_eq,getElem?_cons_zero,getElem?_cons_succ];simpa [W4,Dl.R,Dl.C,Dl.B] using h
 |joined d e=>
  have Ld:=Dl.lims ok.1;have Le:=Dl.lims ok.2.1;have:1<=n:=by simp [Dl.dep] at hd;omega
  obtain ⟨m,rfl⟩:∃ m,n=m+1:=⟨n-1,by omega⟩
  show nx [some (Dl.joined d e).t,some (.str "joined"),none,none,none,none,none,none] G;rw [q1,zo rfl,if_neg (by decide),zo rfl,if_neg (by decide),zo rfl,if_pos rfl];simp [Dl.t,qw,qD,gn3,qK,QZ,zf,zn,V5,qz,v3,c3,o3,u3,ZW,L3.ixT,L3.ixR,zb,iI,iC,iB,zm,zc,EC,tb3,WS,or3,VQ,jp,WO,jZ,if3,ch3,cb3,qb,qg,V9,tyT,ZF,qI,zO,V0,np3,sp3,qV,qm,qW,jh,V4,ZY,qj,bm3,YZ,WR,ZV,UL,U1,WT,WQ,qM,Q1,WU,WP,U6,L2.atI,ixN,YW,HT.sIx,zl,in3,zQ,eqF,gu,sizeLine_eq,getElem?_cons_zero,getElem?_cons_succ];refine ⟨d,rfl,by simp [Dl.dep] at hd;omega,ok.1,?_⟩;simp [W4];refine ⟨e,rfl,by simp [Dl.dep] at hd;omega,ok.2.1,?_⟩;have e1:=Le.r1;have e2:=Le.r2;have e3:=Le.c1;have e4:=Le.c2;have e5:=Le.b1;have e6:=Le.b2;simp [W4];exact ⟨cm (by omega) (by omega),cm (by omega) (by omega),cm (by omega) (by omega),h⟩
def EU:∀ k,pop k 0=0
 |0=>rfl
 |k+1=>by simp [pop,EU k]
def YD (n:Nat):∀ ts G q,zG n ts G q->ts.length=2/\JJ (zN (n+1)) (X5 q) (qj ["dealing","word","rows","columns","banks"] ts) G:=by
 rintro ts G q ⟨d,i,j,rfl,hd,ok,h⟩;refine ⟨rfl,?_⟩;have L:=Dl.lims ok;simp [JJ,qw,qD,gn3,qK,QZ,zf,zn,V5,qz,v3,c3,o3,u3,ZW,L3.ixT,L3.ixR,zb,iI,iC,iB,zm,zc,EC,tb3,WS,or3,VQ,jp,WO,jZ,if3,ch3,cb3,qb,qg,V9,tyT,ZF,qI,zO,V0,np3,sp3,qV,qm,qW,jh,V4,ZY,qj,bm3,YZ,WR,ZV,UL,U1,WT,WQ,qM,Q1,WU,WP,U6,L2.atI,ixN,YW,HT.sIx,zl,in3,zQ,eqF,gu,sizeLine_eq,getElem?_cons_zero,getElem?_cons_succ];refine ⟨d,rfl,hd,ok,?_⟩;simp [W4,wdT,qw,qD,gn3,qK,QZ,zf,zn,V5,qz,v3,c3,o3,u3,ZW,L3.ixT,L3.ixR,zb,iI,iC,iB,zm,zc,EC,tb3,WS,or3,VQ,jp,WO,jZ,if3,ch3,cb3,qb,qg,V9,tyT,ZF,qI,zO,V0,np3,sp3,qV,qm,qW,jh,V4,ZY,qj,bm3,YZ,WR,ZV,UL,U1,WT,WQ,qM,Q1,WU,WP,U6,L2.atI,ixN,YW,HT.sIx,zl,in3,zQ,eqF,gu,sizeLine_eq,getElem?_cons_zero,getElem?_cons_succ];exact ⟨cm (by have:=L.c1;omega) (by have:=L.c2;omega),h⟩
def EL:∀ ts G q,JT ts G q->ts.length=2/\jz (X5 q) (qj ["number","mask","common","many"] ts) G:=by
 rintro ts G q ⟨n,m,rfl,hn,hm,hm2,h⟩;refine ⟨rfl,?_⟩;have hr:=PyProof.Rows.bitAnd_range n hm;simp [jz,qw,qD,gn3,qK,QZ,zf,zn,V5,qz,v3,c3,o3,u3,ZW,L3.ixT,L3.ixR,zb,iI,iC,iB,zm,zc,EC,tb3,WS,or3,VQ,jp,WO,jZ,if3,ch3,cb3,qb,qg,V9,tyT,ZF,qI,zO,V0,np3,sp3,qV,qm,qW,jh,V4,ZY,qj,bm3,YZ,WR,ZV,UL,U1,WT,WQ,qM,Q1,WU,WP,U6,L2.atI,ixN,YW,HT.sIx,zl,in3,zQ,eqF,gu,sizeLine_eq,getElem?_cons_zero,getElem?_cons_succ,XQ];refine ⟨λk τ G'=>G'=G/\∃ c y:Nat,τ=[some (.int n),some (.int m),some (.int (c:Int)),some (.int (y:Int))]/\c<2 ^ k/\y+pop k c=pop 64 (Builtin.bitAnd n m).toNat,
  ⟨64,rfl,(Builtin.bitAnd n m).toNat,0,by simp;omega,by omega,by simp⟩,?_⟩
 rintro k τ G' ⟨rfl,c,y,rfl,hc,e⟩;simp [PyProof.Rows.bitAnd_m1];by_cases h0:0<c
 ·have hk:1<=k:=by
   rcases Nat.eq_zero_or_pos k with z|z
   ·subst z;simp at hc;omega
   ·exact z
  obtain ⟨k',rfl⟩:∃ k',k=k'+1:=⟨k-1,by omega⟩
  simp [h0];refine ⟨λτ' G''=>G''=G'/\∃ c y:Nat,τ'=[some (.int n),some (.int m),some (.int (c:Int)),some (.int (y:Int))]/\c<2 ^ k'/\y+pop k' c=pop 64 (Builtin.bitAnd n m).toNat,?_,rfl,c/2,y+c%2,?_,?_,?_⟩
  ·rintro τ' G'' ⟨e1,c',y',e2,e3,e4⟩;exact ⟨k',by omega,e1,c',y',e2,e3,e4⟩
  ·simp
  ·rw [Nat.pow_succ] at hc;omega
  ·rw [pop] at e;omega
 ·have hc0:c=0:=by omega
  subst hc0;simp;rw [EU] at e;have e':(qbc n m)=decide ((y:Int)%2=1):=by
   unfold qbc;rw [← e,Nat.add_zero];by_cases hy:y%2=1
   ·have:(y:Int)%2=1:=by omega
    simp [hy,this]
   ·have:¬ (y:Int)%2=1:=by omega
    simp [hy,this]
  rw [← e'];exact h
def jn (n:Int):Nat->List Int->List Int
 |_,[]=>[]
 |t,m::ms=>(if qbc n m then [2 ^ t] else [])++jn n (t+1) ms
def VX (n:Int):∀ (t:Nat) (xs ys:List Int),jn n t (xs++ys)=jn n t xs++jn n (t+xs.length) ys
 |_,[],_=>by simp [jn]
 |t,x::xs,ys=>by simp [jn,VX n (t+1) xs ys,Nat.add_assoc,Nat.add_comm 1]
def UQ (n:Int):∀ (t:Nat) (ms:List Int),(jn n t ms).sum=Z0 n t ms
 |_,[]=>rfl
 |t,m::ms=>by
  simp only [jn,Z0,List.sum_append,UQ n (t+1) ms];split<;>simp
def YO (n:Int):∀ (t:Nat) (ms:List Int),(jn n t ms).length<=ms.length
 |_,[]=>by simp [jn]
 |t,m::ms=>by
  have:=YO n (t+1) ms;simp only [jn,length_append,length_cons];split<;>simp<;>omega
def UO (n:Int):∀ (t:Nat) (ms:List Int) (x:Int),x∈jn n t ms->∃ k,k<t+ms.length/\x=2 ^ k
 |_,[],_,h=>by simp [jn] at h
 |t,m::ms,x,h=>by
  simp only [jn,List.mem_append] at h;rcases h with h|h
  ·split at h
   ·simp at h;exact ⟨t,by simp,h⟩
   ·simp at h
  ·obtain ⟨k,h1,h2⟩:=UO n (t+1) ms x h;exact ⟨k,by simp;omega,h2⟩
def SJ:∀ ts G q,ED ts G q->ts.length=2/\JA JT (X5 q) (qj ["masks","number"] ts) G:=by
 rintro ts G q ⟨ms,n,rfl,hl,hm,hn,h⟩;refine ⟨rfl,?_⟩;simp [JA,lc3,KY,J6,cap,qw,qD,gn3,qK,QZ,zf,zn,V5,qz,v3,c3,o3,u3,ZW,L3.ixT,L3.ixR,zb,iI,iC,iB,zm,zc,EC,tb3,WS,or3,VQ,jp,WO,jZ,if3,ch3,cb3,qb,qg,V9,tyT,ZF,qI,zO,V0,np3,sp3,qV,qm,qW,jh,V4,ZY,qj,bm3,YZ,WR,ZV,UL,U1,WT,WQ,qM,Q1,WU,WP,U6,L2.atI,ixN,YW,HT.sIx,zl,in3,zQ,eqF,gu,sizeLine_eq,getElem?_cons_zero,getElem?_cons_succ];refine X4 _ (λi ys τ G'=>G'=G/\ys=(jn n 0 (ms.take i)).map T.int/\∃ x0 x1,τ=[x0,x1,some (.int n)]) ⟨rfl,by simp [jn],none,none,rfl⟩ (λi ys τ G' _ hp=>by simp [J6]) ?_ ?_
 ·rintro i z ys τ G' R hz ⟨rfl,rfl,x0,x1,rfl⟩ hR;obtain ⟨a,ha,rfl⟩:=WK hz;rw [getElem?_map] at ha;cases e:ms[i]? with
  |none=>rw [e] at ha;cases ha
  |some m=>
   rw [e] at ha;have:a=T.int m:=by simpa using ha.symm
   subst this;obtain ⟨hi,hm'⟩:=List.getElem?_eq_some_iff.mp e;have mm:m∈ms:=by rw [← hm'];exact List.getElem_mem hi
   simp [qw,qD,gn3,qK,QZ,zf,zn,V5,qz,v3,c3,o3,u3,ZW,L3.ixT,L3.ixR,zb,iI,iC,iB,zm,zc,EC,tb3,WS,or3,VQ,jp,WO,jZ,if3,ch3,cb3,qb,qg,V9,tyT,ZF,qI,zO,V0,np3,sp3,qV,qm,qW,jh,V4,ZY,qj,bm3,YZ,WR,ZV,UL,U1,WT,WQ,qM,Q1,WU,WP,U6,L2.atI,ixN,YW,HT.sIx,zl,in3,zQ,eqF,gu,sizeLine_eq,getElem?_cons_zero,getElem?_cons_succ];refine ⟨n,m,rfl,hn,(hm m mm).1,(hm m mm).2,?_⟩;have tk:ms.take (i+1)=ms.take i++[m]:=by rw [List.take_succ_eq_append_getElem hi,hm']
   have lt:(ms.take i).length=i:=by rw [List.length_take];omega
   have st:jn n 0 (ms.take (i+1))=jn n 0 (ms.take i)++(if qbc n m then [2 ^ i] else []):=by
    rw [tk,VX,lt];simp [jn]
   have cl:=YO n 0 (ms.take i);cases ho:qbc n m with
   |true=>
    simp;refine ⟨ql1 (by omega),by omega,hR _ _ _ ⟨rfl,?_,_,_,rfl⟩⟩;rw [st,ho];simp
   |false=>
    simp;refine hR _ _ _ ⟨rfl,?_,_,_,rfl⟩;rw [st,ho];simp
 ·rintro ys τ G' ⟨rfl,rfl,x0,x1,rfl⟩ p hp;rw [RB,length_map,List.take_length];simp [ql8,zl,qp,qaf];refine ⟨⟨by have:=YO n 0 ms;omega,λx hx=>?_⟩,?_⟩
  ·obtain ⟨k,h1,rfl⟩:=UO n 0 ms x hx;have:=DA k;have:=DE (n:=k) (k:=30) (by omega);omega
  ·rw [UQ];exact h _ (j6 hp)
def qcf {h l:Nat} {i j:Int} (i1:0<=i) (j1:0<=j):0<=i*2 ^ l+j:=by
 have:=Int.mul_nonneg i1 (show (0:Int)<=2 ^ l by have:=DA l;omega);omega
def UU (n:Nat):∀ ts G q,jF (n+1) ts G q->ts.length=2/\VU (zG n) ED (YX n) (X5 q) (qj ["dealing","word","kind"] ts) G:=by
 rintro ts G q ⟨d,i,j,rfl,hd,ok,I,h⟩;refine ⟨rfl,?_⟩;unfold VU;refine jk λnx q1=>?_;have h:=h;have i1:=I.i1;have i2:=I.i2;have j1:=I.j1;have j2:=I.j2;have L:=Dl.lims ok;have r2:=L.r2;have c2:=L.c2;cases d with
 |skew r c b x y=>
  have k:=ok;obtain ⟨k1,k2,k3,k4,k5,k6,k7,k8,k9,k10⟩:=ok;show nx [some (Dl.skew r c b x y).t,some (wdT i j),some (.str "skew")] G;rw [q1,zo rfl,if_pos rfl];simp [Dl.t,wdT,qw,qD,gn3,qK,QZ,zf,zn,V5,qz,v3,c3,o3,u3,ZW,L3.ixT,L3.ixR,zb,iI,iC,iB,zm,zc,EC,tb3,WS,or3,VQ,jp,WO,jZ,if3,ch3,cb3,qb,qg,V9,tyT,ZF,qI,zO,V0,np3,sp3,qV,qm,qW,jh,V4,ZY,qj,bm3,YZ,WR,ZV,UL,U1,WT,WQ,qM,Q1,WU,WP,U6,L2.atI,ixN,YW,HT.sIx,zl,in3,zQ,eqF,gu,sizeLine_eq,getElem?_cons_zero,getElem?_cons_succ];exact ⟨cm' (by omega) (by omega),cm' (by omega) (by omega),by omega,h _ Ex.refl⟩
 |rests r c b x=>
  have k:=ok;obtain ⟨k1,k2,k3,k4,k5,k6,k7,k8,k9⟩:=ok;show nx [some (Dl.rests r c b x).t,some (wdT i j),some (.str "rests")] G;rw [q1,zo rfl,if_neg (by decide),zo rfl,if_pos rfl];simp [Dl.t,wdT,qw,qD,gn3,qK,QZ,zf,zn,V5,qz,v3,c3,o3,u3,ZW,L3.ixT,L3.ixR,zb,iI,iC,iB,zm,zc,EC,tb3,WS,or3,VQ,jp,WO,jZ,if3,ch3,cb3,qb,qg,V9,tyT,ZF,qI,zO,V0,np3,sp3,qV,qm,qW,jh,V4,ZY,qj,bm3,YZ,WR,ZV,UL,U1,WT,WQ,qM,Q1,WU,WP,U6,L2.atI,ixN,YW,HT.sIx,zl,in3,zQ,eqF,gu,sizeLine_eq,getElem?_cons_zero,getElem?_cons_succ];refine ⟨.rests r c b x,i,j,rfl,hd,k,?_⟩;simp;exact ⟨by omega,h _ Ex.refl⟩
 |bits hh l ms=>
  have k:=ok;obtain ⟨k1,k2,k3,k4⟩:=ok;show nx [some (Dl.bits hh l ms).t,some (wdT i j),some (.str "bits")] G;rw [q1,zo rfl,if_neg (by decide),zo rfl,if_neg (by decide),zo rfl,if_pos rfl];simp [Dl.t,wdT,qw,qD,gn3,qK,QZ,zf,zn,V5,qz,v3,c3,o3,u3,ZW,L3.ixT,L3.ixR,zb,iI,iC,iB,zm,zc,EC,tb3,WS,or3,VQ,jp,WO,jZ,if3,ch3,cb3,qb,qg,V9,tyT,ZF,qI,zO,V0,np3,sp3,qV,qm,qW,jh,V4,ZY,qj,bm3,YZ,WR,ZV,UL,U1,WT,WQ,qM,Q1,WU,WP,U6,L2.atI,ixN,YW,HT.sIx,zl,in3,zQ,eqF,gu,sizeLine_eq,getElem?_cons_zero,getElem?_cons_succ];refine ⟨.bits hh l ms,i,j,rfl,hd,k,?_⟩;refine ⟨ms,_,rfl,by omega,λm hm=>⟨(k4 m hm).1,?_⟩,qcf (h:=hh) i1 j1,λG' E=>h G' E⟩;have:=(k4 m hm).2;have:=DE (n:=hh+l) (k:=10) (by omega);omega
 |table b cells=>
  obtain ⟨k1,k2,k3,k4,c,k5,k6,k7⟩:=ok;have e0:cells[0]?=some cells[0]:=getElem?_eq_getElem (by omega);have eC:(Dl.table b cells).C=c:=by simp [Dl.C,e0,(k7 cells[0] (List.getElem_mem _)).1]
  have eR:(Dl.table b cells).R=cells.length:=rfl;rw [eR] at i2;rw [eC] at j2;have hi:i.toNat<cells.length:=by omega
  have hrow:=k7 cells[i.toNat] (List.getElem_mem hi);have hj:j.toNat<cells[i.toNat].length:=by rw [hrow.1];omega
  show nx [some (Dl.table b cells).t,some (wdT i j),some (.str "table")] G;rw [q1,zo rfl,if_neg (by decide),zo rfl,if_neg (by decide),zo rfl,if_neg (by decide),zo rfl,if_pos rfl];simp [Dl.t,wdT,qw,qD,gn3,qK,QZ,zf,zn,V5,qz,v3,c3,o3,u3,ZW,L3.ixT,L3.ixR,zb,iI,iC,iB,zm,zc,EC,tb3,WS,or3,VQ,jp,WO,jZ,if3,ch3,cb3,qb,qg,V9,tyT,ZF,qI,zO,V0,np3,sp3,qV,qm,qW,jh,V4,ZY,qj,bm3,YZ,WR,ZV,UL,U1,WT,WQ,qM,Q1,WU,WP,U6,YW,HT.sIx,zl,in3,zQ,eqF,gu,sizeLine_eq,getElem?_cons_zero,getElem?_cons_succ,jJ (xs:=[T.str (Str.ofString "table"),.int b,.tup (cells.map MH)]) (i:=2) (by omega) (by simp),jJ (xs:=[T.str (Str.ofString "table"),.int b,.tup (cells.map MH)]) (i:=0) (by omega) (by simp),jJ (xs:=[T.int i,.int j]) (i:=0) (by omega) (by simp),jJ (xs:=[T.int i,.int j]) (i:=1) (by omega) (by simp)];rw [jJ i1 (by simpa using i2)];simp [hi,MH,L3.ixT];rw [jJ j1 (by simp;omega)];simp [hj];have:=h G Ex.refl;simpa [Dl.bank,hi,hj] using this
 |joined d e=>
  show nx [some (Dl.joined d e).t,some (wdT i j),some (.str "joined")] G;rw [q1,zo rfl,if_neg (by decide),zo rfl,if_neg (by decide),zo rfl,if_neg (by decide),zo rfl,if_neg (by decide)];simp [Dl.t,wdT,qw,qD,gn3,qK,QZ,zf,zn,V5,qz,v3,c3,o3,u3,ZW,L3.ixT,L3.ixR,zb,iI,iC,iB,zm,zc,EC,tb3,WS,or3,VQ,jp,WO,jZ,if3,ch3,cb3,qb,qg,V9,tyT,ZF,qI,zO,V0,np3,sp3,qV,qm,qW,jh,V4,ZY,qj,bm3,YZ,WR,ZV,UL,U1,WT,WQ,qM,Q1,WU,WP,U6,L2.atI,ixN,YW,HT.sIx,zl,in3,zQ,eqF,gu,sizeLine_eq,getElem?_cons_zero,getElem?_cons_succ];exact ⟨d,e,i,j,rfl,hd,ok,I,h⟩
def qcZ {i a b:Int} (h0:0<=i) (h1:i<a*b) (hb:1<=b):0<=i/b/\i/b<a/\0<=i%b/\i%b<b:=
 ⟨Int.ediv_nonneg h0 (by omega),Int.ediv_lt_of_lt_mul (by omega) h1,Int.emod_nonneg _ (by omega),Int.emod_lt_of_pos _ (by omega)⟩
def Inn.up {d e:Dl} {i j:Int} (I:Inn (.joined d e) i j) (Le:Lims e):Inn d (i/e.R) (j/e.C)/\Inn e (i%e.R) (j%e.C):=by
 obtain ⟨i1,i2,j1,j2⟩:=I;obtain ⟨a1,a2,a3,a4⟩:=qcZ i1 i2 Le.r1;obtain ⟨b1,b2,b3,b4⟩:=qcZ j1 j2 Le.c1;exact ⟨⟨a1,a2,b1,b2⟩,⟨a3,a4,b3,b4⟩⟩
def qav:∀ ts G q,RA ts G q->ts.length=3/\E9 (X5 q) (qj ["word","rows","columns","i","j"] ts) G:=by
 rintro ts G q ⟨i,j,r,c,rfl,hr,hc,h⟩;refine ⟨rfl,?_⟩;simp [E9,wdT,qw,qD,gn3,qK,QZ,zf,zn,V5,qz,v3,c3,o3,u3,ZW,L3.ixT,L3.ixR,zb,iI,iC,iB,zm,zc,EC,tb3,WS,or3,VQ,jp,WO,jZ,if3,ch3,cb3,qb,qg,V9,tyT,ZF,qI,zO,V0,np3,sp3,qV,qm,qW,jh,V4,ZY,qj,bm3,YZ,WR,ZV,UL,U1,WT,WQ,qM,Q1,WU,WP,U6,L2.atI,ixN,YW,HT.sIx,zl,in3,zQ,eqF,gu,sizeLine_eq,getElem?_cons_zero,getElem?_cons_succ];exact ⟨⟨by omega,by omega⟩,⟨by omega,by omega⟩,by omega,by omega,h⟩
def ZD (n:Nat):∀ ts G q,YX n ts G q->ts.length=3/\QC (zN (n+1)) RA (jF n) (X5 q) (qj ["one","other","word","rows","columns","banks","upper","lower"] ts) G:=by
 rintro ts G q ⟨d,e,i,j,rfl,hd,ok,I,h⟩;refine ⟨rfl,?_⟩;obtain ⟨kd,ke,kr,kc,kb⟩:=ok;have Le:=Dl.lims ke;obtain ⟨I1,I2⟩:=I.up Le;have:1<=n:=by simp [Dl.dep] at hd;omega
 obtain ⟨m,rfl⟩:∃ m,n=m+1:=⟨n-1,by omega⟩
 have r1:=Le.r1;have r2:=Le.r2;have c1:=Le.c1;have c2:=Le.c2;have b1:=Le.b1;have b2:=Le.b2;simp [QC,qw,qD,gn3,qK,QZ,zf,zn,V5,qz,v3,c3,o3,u3,ZW,L3.ixT,L3.ixR,zb,iI,iC,iB,zm,zc,EC,tb3,WS,or3,VQ,jp,WO,jZ,if3,ch3,cb3,qb,qg,V9,tyT,ZF,qI,zO,V0,np3,sp3,qV,qm,qW,jh,V4,ZY,qj,bm3,YZ,WR,ZV,UL,U1,WT,WQ,qM,Q1,WU,WP,U6,L2.atI,ixN,YW,HT.sIx,zl,in3,zQ,eqF,gu,sizeLine_eq,getElem?_cons_zero,getElem?_cons_succ];refine ⟨e,rfl,by simp [Dl.dep] at hd;omega,ke,?_⟩;simp [W4];refine ⟨i,j,_,_,rfl,⟨by omega,by omega⟩,⟨by omega,by omega⟩,?_⟩;simp;refine ⟨d,_,_,rfl,by simp [Dl.dep] at hd;omega,kd,I1,λG1 E1=>?_⟩;simp;refine ⟨cm (by omega) (by omega),e,_,_,rfl,by simp [Dl.dep] at hd;omega,ke,I2,λG2 E2=>?_⟩;simp;exact h _ (E1.trans E2)
def Lf (G:Gp) (a:Addr) (n:Int):Prop:=∃ o c m,G a=some (.lst [.int o,.int c,.int m])/\0<=o/\0<=m/\m<=n
def Ext (a:Addr) (G G':Gp):Prop:=∀ b o,b≠a->G b=some o->G' b=some o
def Lf.ne {G:Gp} {a p:Addr} {n:Int} (h:Lf G a n) (hp:G p=none):p≠a:=by
 rintro rfl;obtain ⟨o,c,m,e,_⟩:=h;rw [hp] at e;cases e
def Lf.new {G:Gp} {a p:Addr} {n:Int} {ob:O} (h:Lf G a n) (hp:p≠a):Lf (gu G p ob) a n:=by
 obtain ⟨o,c,m,e,r⟩:=h;exact ⟨o,c,m,by rw [zu (Ne.symm hp)];exact e,r⟩
def Lf.mono {G:Gp} {a:Addr} {n k:Int} (h:Lf G a n) (hk:n<=k):Lf G a k:=by
 obtain ⟨o,c,m,e,h1,h2,h3⟩:=h;exact ⟨o,c,m,e,h1,h2,by omega⟩
def Lf.ex {G G':Gp} {a:Addr} {n:Int} (h:Lf G a n) (e:Ex G G'):Lf G' a n:=by
 obtain ⟨o,c,m,e1,h1⟩:=h;exact ⟨o,c,m,e _ _ e1,h1⟩
def Ext.refl {a:Addr} {G:Gp}:Ext a G G:=λ_ _ _ e=>e
def Ext.trans {a:Addr} {G G1 G2:Gp} (x:Ext a G G1) (y:Ext a G1 G2):Ext a G G2:=λb o hb e=>y b o hb (x b o hb e)
def jj {a p:Addr} {G:Gp} {ob:O} (hp:G p=none):Ext a G (gu G p ob):=λb o _ e=>by
 rw [zu (by rintro rfl;rw [hp] at e;cases e)];exact e
def SC {a:Addr} {G G':Gp} (h:Ex G G'):Ext a G G':=λb o _ e=>h b o e
def XU:Sp3:=λts G q=>∃ c k,ts=[.int c,.int k]/\0<=k/\k<4294967296/\∀ m,0<=m->m<1999999973->q (.int m) G
def JO:Sp3:=λts G q=>∃ (a:Addr) (k:Int) (ns:List Int),ts=[.ref a,.int k]/\G a=some (.frz (ns.map T.int))/\ns.length<=63/\0<=k/\k<=63/\∀ p o c,G p=none->0<=o->q (.ref p) (gu G p (.lst [.int o,.int c,.int 0]))
def qL:Sp3:=λts G q=>∃ a n many,ts=[.ref a,.int many]/\1<=many/\many<1073741824/\Lf G a n/\n<1073741824/\∀ d G',0<=d->d<many->Lf G' a (n+1)->Ext a G G'->q (.int d) G'
def ZB:Sp3:=λts G q=>∃ a n,ts=[.ref a]/\Lf G a n/\n<100000000/\∀ r c G',1<=r->r<=16->1<=c->c<=16->Lf G' a (n+4)->Ext a G G'->q (.tup [.int r,.int c]) G'
def UP:Sp3:=λts G q=>∃ x y:Int,ts=[.int x,.int y]/\0<=x/\0<=y/\q (.int (Int.gcd x y:Nat)) G
structure Dr (d:Dl) (r c b:Int):Prop where
 ok:d.Ok
 r2:d.R<=r
 c2:d.C<=c
 b2:d.B<=b
def DC:Sp3:=λts G q=>∃ a n,ts=[.ref a]/\Lf G a n/\n<10000000/\∀ r c b x y G',Dr (.skew r c b x y) 16 16 32->Lf G' a (n+10)->Ext a G G'->q (Dl.skew r c b x y).t G'
def U5:Sp3:=λts G q=>∃ a n,ts=[.ref a]/\Lf G a n/\n<10000000/\∀ r c b p G',Dr (.rests r c b p) 16 16 32->Lf G' a (n+10)->Ext a G G'->q (Dl.rests r c b p).t G'
def qZ {a:Addr} {n many:Int} {G:Gp} {q:Q3} (hL:Lf G a n) (h1:1<=many) (h2:many<1073741824) (hn:n<1073741824) (h:∀ d G',0<=d->d<many->Lf G' a (n+1)->Ext a G G'->q (.int d) G'):qL [.ref a,.int many] G q:=⟨a,n,many,rfl,h1,h2,hL,hn,h⟩
def LS:∀ ts G q,XU ts G q->ts.length=2/\V1 (X5 q) (qj ["_law_cell","_law_k","_law_m"] ts) G:=by
 rintro ts G q ⟨c,k,rfl,h1,h2,h⟩;refine ⟨rfl,?_⟩;simp only [V1,qw,qD,o3,v3,qj,map_cons,List.map_nil,length_cons,length_nil,Nat.zero_add,Nat.reduceAdd,Nat.reduceSub,List.replicate_one,cons_append,List.nil_append,Nat.zero_lt_succ,getElem?_pos,getElem_cons_zero,c3,iC,Int.reduceLT,Nat.reduceLT,getElem_cons_succ,zb,gn3,qK,set_cons_succ,set_cons_zero,Nat.lt_add_one,true_and];exact ⟨.inl ⟨by omega,by omega⟩,cm (by omega) (by omega),cm (by omega) (by omega),.inl ⟨by omega,by omega⟩,h _ (Int.emod_nonneg _ (by omega)) (Int.emod_lt_of_pos _ (by omega))⟩
def cp:WZ 10 18:=⟨by decide,by decide,by decide⟩
def T5:∀ ts G q,JO ts G q->ts.length=2/\YH (X5 q) (qj ["_law_script","_law_k","_law_cell","_law_own"] ts) G:=by
 rintro ts G q ⟨a,k,ns,rfl,hG,hl,h1,h2,h⟩;refine ⟨rfl,?_⟩;simp only [YH,qw,qD,if3,tb3,o3,v3,qj,map_cons,List.map_nil,length_cons,length_nil,Nat.zero_add,Nat.reduceAdd,Nat.reduceSub,List.reduceReplicate,cons_append,List.nil_append,Nat.reduceLT,getElem?_pos,getElem_cons_succ,getElem_cons_zero,cb3,qb,Nat.zero_lt_succ,qg,ZV,zl,hG,iB,length_map,decide_eq_true_eq,gn3,set_cons_succ,set_cons_zero,UL,c3,iC,Int.reduceToNat,Int.reducePow,qK,zO,Nat.lt_add_one,zb,ne_eq,sizeLine_eq,Nat.reduceLeDiff,true_and,gu,ixR,atI,ixN,getElem?_map,Int.lt_irrefl,↓reduceIte,Int.reduceLE,decide_false,Bool.false_eq_true,Int.zero_add];have ck:U7 1000003 k:=cm (by omega) (by omega);by_cases hk:k<ns.length
 ·have hk':k.toNat<ns.length:=by omega
  simp [hk,h1,hk',cp,ck];split
  ·split
   ·exact λp hp=>h p (-ns[k.toNat]) _ hp (by omega)
   ·exact λp hp=>h p 0 _ hp (by omega)
  ·split
   ·exact λp hp=>h p ns[k.toNat] _ hp (by omega)
   ·exact λp hp=>h p 0 _ hp (by omega)
 ·simp [hk,cp,ck];exact λp hp=>h p 0 _ hp (by omega)
def T0:∀ ts G q,qL ts G q->ts.length=2/\YT XU (X5 q) (qj ["_law_left_here","_law_many","_law_digit"] ts) G:=by
 rintro ts G q ⟨a,n,many,rfl,m1,m2,⟨o,c,m,hG,ho,hm,hn⟩,h3,h⟩;refine ⟨rfl,?_⟩;unfold YT;refine jk λnx1 q1=>?_;simp only [qD,o3,v3,qj,map_cons,List.map_nil,length_cons,length_nil,Nat.zero_add,Nat.reduceAdd,Nat.reduceSub,List.replicate_one,cons_append,List.nil_append,Nat.zero_lt_succ,getElem?_pos,getElem_cons_zero,c3,zb,ne_eq,sizeLine_eq,jh,V4,ixN,Int.zero_le_ofNat,↓reduceIte,Int.reduceToNat,tb3,iB,decide_eq_true_eq,Nat.reduceLT,getElem_cons_succ,iC,gn3,set_cons_succ,set_cons_zero,Std.le_refl,Int.natCast_pos,Int.toNat_zero,qK,Nat.lt_add_one,ixR,zl,atI,qz,cb3,qb,qg,Int.toNat_one,List.length_set,hG,Int.cast_ofNat_Int,Int.reduceLT,Option.bind_some,qp];rw [q1];clear q1;refine jk λnx2 q2=>?_;simp only [zf,qD,o3,v3,qj,map_cons,List.map_nil,length_cons,length_nil,Nat.zero_add,Nat.reduceAdd,Nat.reduceSub,List.replicate_one,cons_append,List.nil_append,Nat.zero_lt_succ,getElem?_pos,getElem_cons_zero,c3,zb,ne_eq,sizeLine_eq,jh,V4,ixN,Int.zero_le_ofNat,↓reduceIte,Int.reduceToNat,tb3,iB,decide_eq_true_eq,Nat.reduceLT,getElem_cons_succ,iC,gn3,set_cons_succ,set_cons_zero,Std.le_refl,Int.natCast_pos,Int.toNat_zero,qK,Nat.lt_add_one,ixR,zl,atI,qz,cb3,qb,qg,Int.toNat_one,List.length_set,hG,Int.cast_ofNat_Int,Int.reduceLT,Option.bind_some,qp];split
 ·simp only [qw,qD,o3,v3,length_cons,length_nil,Nat.zero_add,Nat.reduceAdd,Nat.zero_lt_succ,getElem?_pos,getElem_cons_zero,c3,Nat.reduceLT,getElem_cons_succ,iC,gn3,set_cons_succ,set_cons_zero,jh,V4,ixN,Std.le_refl,↓reduceIte,Int.natCast_pos,Int.toNat_zero,qK,Nat.lt_add_one,ixR,zl,atI,qp,Int.cast_ofNat_Int,Int.reduceLT,Option.bind_some];refine ⟨by omega,⟨by omega,m2⟩,h _ _ (Int.emod_nonneg _ (by omega)) (Int.emod_lt_of_pos _ (by omega)) ⟨o/many,c,m+1,qp,Int.ediv_nonneg ho (by omega),by omega,by omega⟩ λb ob hb e=>?_⟩;rw [zu hb,zu hb];exact e
 ·rw [q2];clear q2;simp only [qD,o3,v3,qj,map_cons,List.map_nil,length_cons,length_nil,Nat.zero_add,Nat.reduceAdd,Nat.reduceSub,List.replicate_one,cons_append,List.nil_append,Nat.zero_lt_succ,getElem?_pos,getElem_cons_zero,c3,zb,ne_eq,sizeLine_eq,jh,V4,ixN,Int.zero_le_ofNat,↓reduceIte,Int.reduceToNat,tb3,iB,decide_eq_true_eq,Nat.reduceLT,getElem_cons_succ,iC,gn3,set_cons_succ,set_cons_zero,Std.le_refl,Int.natCast_pos,Int.toNat_zero,qK,Nat.lt_add_one,ixR,zl,atI,qz,cb3,qb,qg,Int.toNat_one,List.length_set,hG,Int.cast_ofNat_Int,Int.reduceLT,Option.bind_some,qp];refine ⟨c,m+1,rfl,by omega,by omega,λu u1 u2=>?_⟩;simp only [qD,o3,v3,qj,map_cons,List.map_nil,length_cons,length_nil,Nat.zero_add,Nat.reduceAdd,Nat.reduceSub,List.replicate_one,cons_append,List.nil_append,Nat.zero_lt_succ,getElem?_pos,getElem_cons_zero,c3,zb,ne_eq,sizeLine_eq,jh,V4,ixN,Int.zero_le_ofNat,↓reduceIte,Int.reduceToNat,tb3,iB,decide_eq_true_eq,Nat.reduceLT,getElem_cons_succ,iC,gn3,set_cons_succ,set_cons_zero,Std.le_refl,Int.natCast_pos,Int.toNat_zero,qK,Nat.lt_add_one,ixR,zl,atI,qz,cb3,qb,qg,Int.toNat_one,List.length_set,hG,Int.cast_ofNat_Int,Int.reduceLT,Option.bind_some,qp];refine ⟨u,m+1+64,rfl,by omega,by omega,λv v1 v2=>?_⟩;refine ⟨⟨by omega,by omega⟩,by omega,h _ _ (Int.emod_nonneg _ (by omega)) (Int.emod_lt_of_pos _ (by omega)) ⟨o,c,m+1,qp,ho,by omega,by omega⟩ λb ob hb e=>?_⟩;rw [zu hb];exact e
def qck {x y:Int} (hy:0<y):Int.gcd y (x%y)=Int.gcd x y:=by
 rw [Int.emod_def,Int.gcd_comm x y];simp
def MD:∀ ts G q,UP ts G q->ts.length=2/\VT (X5 q) (qj ["_law_one","_law_other"] ts) G:=by
 rintro ts G q ⟨x,y,rfl,hx,hy,h⟩;refine ⟨rfl,?_⟩;simp only [VT,qw,XQ,qj,map_cons,List.map_nil,length_cons,length_nil,Nat.zero_add,Nat.reduceAdd,Nat.sub_self,List.replicate_zero,List.append_nil,tb3,o3,v3,c3,iB,decide_eq_true_eq,ZY,qb,iC,qg,qK];refine ⟨λn τ G'=>G'=G/\∃ u v:Int,τ=[some (.int u),some (.int v)]/\n=v.toNat/\0<=u/\0<=v/\Int.gcd u v=Int.gcd x y,⟨_,rfl,x,y,rfl,rfl,hx,hy,rfl⟩,?_⟩;rintro n τ G' ⟨eG,u,v,rfl,rfl,hu,hv,e⟩;simp;by_cases h0:0<v
 ·simp [h0];refine ⟨λτ' G'=>G'=G/\∃ x' y':Int,τ'=[some (.int x'),some (.int y')]/\y'.toNat<v.toNat/\0<=x'/\0<=y'/\Int.gcd x' y'=Int.gcd x y,λτ' G' ⟨e1,x',y',e2,e3,e4,e5,e6⟩=>⟨y'.toNat,by omega,e1,x',y',e2,rfl,e4,e5,e6⟩,eG,v,u%v,rfl,?_,hv,Int.emod_nonneg _ (by omega),by rw [qck h0,e]⟩;have:=Int.emod_lt_of_pos u h0;omega
 ·have:v=0:=by omega
  subst this;simp at e;simp [eG];have:u=(Int.gcd x y:Nat):=by omega
  rw [this];exact h
def qmn {d:Int} (h1:0<=d) (h2:d<4) {x0 x1 x2 x3:T} {P:T->Prop} (p0:P x0) (p1:P x1) (p2:P x2) (p3:P x3):∃ x,L2.atI [x0,x1,x2,x3] d=some x/\P x:=by
 have:d=0\/d=1\/d=2\/d=3:=by omega
 rcases this with rfl|rfl|rfl|rfl
 ·exact ⟨x0,rfl,p0⟩
 ·exact ⟨x1,rfl,p1⟩
 ·exact ⟨x2,rfl,p2⟩
 ·exact ⟨x3,rfl,p3⟩
def qon {d:Int} (h1:0<=d) (h2:d<3) {x0 x1 x2:T} {P:T->Prop} (p0:P x0) (p1:P x1) (p2:P x2):∃ x,L2.atI [x0,x1,x2] d=some x/\P x:=by
 have:d=0\/d=1\/d=2:=by omega
 rcases this with rfl|rfl|rfl
 ·exact ⟨x0,rfl,p0⟩
 ·exact ⟨x1,rfl,p1⟩
 ·exact ⟨x2,rfl,p2⟩
def RM:∀ ts G q,ZB ts G q->ts.length=1/\JL qL (X5 q) (qj ["_law_left_here","_law_wide","_law_rows","_law_columns"] ts) G:=by
 rintro ts G q ⟨a,n,rfl,hL,hn,h⟩;refine ⟨rfl,?_⟩;unfold JL;refine jk λnx1 q1=>?_;simp only [qD,o3,zO,qb,c3,qg,length_cons,length_nil,Nat.zero_add,Nat.reduceAdd,sizeLine_eq,Nat.reduceLeDiff,cb3,v3,qj,map_cons,List.map_nil,Nat.add_one_sub_one,List.reduceReplicate,cons_append,List.nil_append,Nat.zero_lt_succ,getElem?_pos,getElem_cons_zero,gn3,set_cons_succ,set_cons_zero,true_and];intro p hp;have hpa:=hL.ne hp;refine qZ (hL.new hpa) (by decide) (by decide) (by omega) λd G1 d1 d2 L1 E1=>?_;have g1:=E1 p _ hpa qp;obtain ⟨w,hw,w',rfl,w1,w2⟩:=qmn d1 d2 (P:=λt=>∃ w,t=T.int w/\1<=w/\w<=16) ⟨6,rfl,by decide⟩ ⟨6,rfl,by decide⟩ ⟨6,rfl,by decide⟩ ⟨16,rfl,by decide⟩;simp only [ixR,zl,g1,hw];rw [q1];clear q1;refine jk λnx2 q2=>?_;simp only [ZY,qb,o3,c3,cb3,v3,length_cons,length_nil,Nat.zero_add,Nat.reduceAdd,Nat.zero_lt_succ,getElem?_pos,getElem_cons_zero,Nat.reduceLT,getElem_cons_succ,qg,zb,ne_eq,sizeLine_eq,set_cons_succ,set_cons_zero];refine qZ L1 w1 (by omega) (by omega) λr G2 r1 r2 L2' E2=>?_;simp only [iI,qw,qD,o3,zO,qb,c3,qg,length_cons,length_nil,Nat.zero_add,Nat.reduceAdd,sizeLine_eq,Nat.reduceLeDiff,cb3,v3,qj,map_cons,List.map_nil,Nat.add_one_sub_one,List.reduceReplicate,cons_append,List.nil_append,Nat.zero_lt_succ,getElem?_pos,getElem_cons_zero,gn3,ZY,set_cons_succ,set_cons_zero,Nat.reduceLT,getElem_cons_succ,zb,ne_eq,qK,qI,Nat.lt_add_one,true_and,gu];refine qZ L2' w1 (by omega) (by omega) λc G3 c1 c2 L3' E3=>?_;simp only [iI,qw,qD,o3,zO,qb,c3,qg,length_cons,length_nil,Nat.zero_add,Nat.reduceAdd,sizeLine_eq,Nat.reduceLeDiff,cb3,v3,qj,map_cons,List.map_nil,Nat.add_one_sub_one,List.reduceReplicate,cons_append,List.nil_append,Nat.zero_lt_succ,getElem?_pos,getElem_cons_zero,gn3,ZY,set_cons_succ,set_cons_zero,Nat.reduceLT,getElem_cons_succ,zb,ne_eq,qK,qI,Nat.lt_add_one,true_and,gu];rw [q2];clear q2;simp only [qK,o3,zO,qb,qI,v3,length_cons,length_nil,Nat.zero_add,Nat.reduceAdd,Nat.reduceLT,getElem?_pos,getElem_cons_succ,getElem_cons_zero,Nat.lt_add_one,qg,sizeLine_eq,Nat.reduceLeDiff,cb3,Nat.zero_lt_succ,c3,true_and];intro p2 hp2;have hpa2:=L3'.ne hp2;refine qZ (L3'.new hpa2) (by decide) (by decide) (by omega) λe G4 e1 e2 L4 E4=>?_;have g4:=E4 p2 _ hpa2 qp;have x1:1<=1+r:=by omega
 have x2:1+r<=16:=by omega
 have x3:1<=1+c:=by omega
 have x4:1+c<=16:=by omega
 obtain ⟨t,ht,r',c',rfl,z1,z2,z3,z4⟩:=qmn e1 e2 (P:=λt=>∃ r' c',t=T.tup [.int r',.int c']/\1<=r'/\r'<=16/\1<=c'/\c'<=16) ⟨1+r,1+c,rfl,x1,x2,x3,x4⟩ ⟨1+r,1+c,rfl,x1,x2,x3,x4⟩ ⟨1+r,1+c,rfl,x1,x2,x3,x4⟩ ⟨1+r,1+r,rfl,x1,x2,x1,x2⟩;simp only [ixR,zl,g4,ht];exact h r' c' G4 z1 z2 z3 z4 (L4.mono (by omega)) ((((jj hp).trans E1).trans (E2.trans E3)).trans ((jj hp2).trans E4))
def S5:∀ ts G q,DC ts G q->ts.length=1/\YK ZB qL (X5 q) (qj ["_law_left_here","_law_rows","_law_columns","_law_banks","_law_wide"] ts) G:=by
 rintro ts G q ⟨a,n,rfl,hL,hn,h⟩;refine ⟨rfl,?_⟩;unfold YK;refine jk λnx1 q1=>?_;simp only [qD,cb3,qb,v3,qj,map_cons,List.map_nil,length_cons,length_nil,Nat.zero_add,Nat.reduceAdd,Nat.add_one_sub_one,List.reduceReplicate,cons_append,List.nil_append,Nat.zero_lt_succ,getElem?_pos,getElem_cons_zero,qg,qV,qm,gn3,qW,set_cons_succ,set_cons_zero];refine ⟨a,n,rfl,hL,by omega,λr c G1 r1 r2 c1 c2 L1 E1=>?_⟩;simp only [length_cons,length_nil,Nat.zero_add,Nat.reduceAdd,true_and];rw [q1];clear q1;refine jk λnx2 q2=>?_;simp only [qD,o3,c3,cb3,qb,v3,length_cons,length_nil,Nat.zero_add,Nat.reduceAdd,Nat.zero_lt_succ,getElem?_pos,getElem_cons_zero,zO,qg,sizeLine_eq,Nat.reduceLeDiff,zb,ne_eq,gn3,set_cons_succ,set_cons_zero,true_and];intro p hp;have hpa:=L1.ne hp;refine qZ (L1.new hpa) (by decide) (by decide) (by omega) λd G2 d1 d2 L2' E2=>?_;have g2:=E2 p _ hpa qp;obtain ⟨w,hw,w',rfl,w1,w2⟩:=qmn d1 d2 (P:=λt=>∃ w,t=T.int w/\1<=w/\w<=32) ⟨8,rfl,by decide⟩ ⟨8,rfl,by decide⟩ ⟨17,rfl,by decide⟩ ⟨32,rfl,by decide⟩;simp only [ixR,zl,g2,hw];refine qZ L2' w1 (by omega) (by omega) λb G3 b1 b2 L3' E3=>?_;simp [qw,qD,gn3,qK,QZ,zf,zn,V5,qz,v3,c3,o3,u3,ZW,L3.ixT,L3.ixR,zb,iI,iC,iB,zm,zc,EC,tb3,WS,or3,VQ,jp,WO,jZ,if3,ch3,cb3,qb,qg,V9,tyT,ZF,qI,zO,V0,np3,sp3,qV,qm,qW,jh,V4,ZY,qj,bm3,YZ,WR,ZV,UL,U1,WT,WQ,qM,Q1,WU,WP,U6,YW,HT.sIx,zl,in3,zQ,eqF,gu,sizeLine_eq,getElem?_cons_zero,getElem?_cons_succ];rw [q2];clear q2;refine jk λnx3 q3=>?_;simp only [qD,o3,zO,qb,v3,length_cons,length_nil,Nat.zero_add,Nat.reduceAdd,Nat.reduceLT,getElem?_pos,getElem_cons_succ,getElem_cons_zero,c3,qg,sizeLine_eq,Nat.reduceLeDiff,cb3,Nat.zero_lt_succ,gn3,set_cons_succ,set_cons_zero,true_and];intro p2 hp2;have hpa2:=L3'.ne hp2;refine qZ (L3'.new hpa2) (by decide) (by decide) (by omega) λe G4 e1 e2 L4 E4=>?_;have g4:=E4 p2 _ hpa2 qp;obtain ⟨u,hu,u',rfl,u1,u2⟩:=qon e1 e2 (P:=λt=>∃ w,t=T.int w/\1<=w/\w<=100) ⟨1+b,rfl,by omega,by omega⟩ ⟨10,rfl,by decide⟩ ⟨100,rfl,by decide⟩;simp only [ixR,zl,g4,hu];rw [q3];clear q3;simp only [qK,qI,qb,c3,v3,length_cons,length_nil,Nat.zero_add,Nat.reduceAdd,Nat.reduceLT,getElem?_pos,getElem_cons_succ,getElem_cons_zero,cb3,Nat.zero_lt_succ,Nat.lt_add_one,qg,sizeLine_eq,Nat.reduceLeDiff,true_and];refine qZ L4 u1 (by omega) (by omega) λx G5 x1 x2 L5 E5=>?_
 try simp [qw,qD,gn3,qK,QZ,zf,zn,V5,qz,v3,c3,o3,u3,ZW,L3.ixT,L3.ixR,zb,iI,iC,iB,zm,zc,EC,tb3,WS,or3,VQ,jp,WO,jZ,if3,ch3,cb3,qb,qg,V9,tyT,ZF,qI,zO,V0,np3,sp3,qV,qm,qW,jh,V4,ZY,qj,bm3,YZ,WR,ZV,UL,U1,WT,WQ,qM,Q1,WU,WP,U6,YW,HT.sIx,zl,in3,zQ,eqF,gu,sizeLine_eq,getElem?_cons_zero,getElem?_cons_succ]
 refine qZ L5 u1 (by omega) (by omega) λy G6 y1 y2 L6 E6=>?_
 try simp [qw,qD,gn3,qK,QZ,zf,zn,V5,qz,v3,c3,o3,u3,ZW,L3.ixT,L3.ixR,zb,iI,iC,iB,zm,zc,EC,tb3,WS,or3,VQ,jp,WO,jZ,if3,ch3,cb3,qb,qg,V9,tyT,ZF,qI,zO,V0,np3,sp3,qV,qm,qW,jh,V4,ZY,qj,bm3,YZ,WR,ZV,UL,U1,WT,WQ,qM,Q1,WU,WP,U6,YW,HT.sIx,zl,in3,zQ,eqF,gu,sizeLine_eq,getElem?_cons_zero,getElem?_cons_succ]
 exact h r c (1+b) x y G6 ⟨⟨r1,by omega,c1,by omega,by omega,by omega,x1,by omega,y1,by omega⟩,r2,c2,by show 1+b<=32;omega⟩ (L6.mono (by omega)) (E1.trans (((jj hp).trans E2).trans (E3.trans (((jj hp2).trans E4).trans (E5.trans E6)))))
def cop {b p:Int} (hb:1<=b):∃ k:Nat,(k:Int)<b/\Int.gcd b (p+k)=1:=by
 refine ⟨((1-p)%b).toNat,?_,?_⟩
 ·have:=Int.emod_nonneg (1-p) (show b≠0 by omega);have:=Int.emod_lt_of_pos (1-p) (show 0<b by omega);omega
 ·have h1:=Int.emod_nonneg (1-p) (show b≠0 by omega);have h2:=Int.emod_add_mul_ediv (1-p) b;have e:p+(((1-p)%b).toNat:Int)=1+b*(-((1-p)/b)):=by
   rw [Int.toNat_of_nonneg h1,Int.mul_neg];omega
  rw [e];simp
structure Plc (b p0 pl:Int) (i:Nat):Prop where
 lo:p0<=pl
 hi:pl<=p0+i
 at_:Int.gcd b pl=1\/(pl=p0+i/\∀ k:Nat,k<i->Int.gcd b (p0+k)≠1)
def Plc.done {b p0 pl:Int} {n:Nat} (h:Plc b p0 pl n) (hb:1<=b) (hn:b<=n):Int.gcd b pl=1:=by
 rcases h.at_ with h|⟨_,h⟩
 ·exact h
 ·obtain ⟨k,h1,h2⟩:=cop (p:=p0) hb;exact absurd h2 (h k (by omega))
def Plc.next {b p0 pl:Int} {i:Nat} (h:Plc b p0 pl i) (hb:1<=b) (hp:1<=p0) (hg:(1:Int)<(Int.gcd b pl:Nat)):Plc b p0 (pl+1) (i+1):=by
 rcases h.at_ with z|⟨z1,z2⟩
 ·rw [z] at hg;simp at hg
 ·refine ⟨by have:=h.lo;omega,by omega,.inr ⟨by omega,λk hk=>?_⟩⟩;rcases Nat.lt_or_ge k i with q|q
  ·exact z2 k q
  ·have:k=i:=by omega
   subst this;rw [← z1];omega
def Plc.stay {b p0 pl:Int} {i:Nat} (h:Plc b p0 pl i) (hb:1<=b) (hp:1<=p0) (hg:¬ (1:Int)<(Int.gcd b pl:Nat)):Plc b p0 pl (i+1):=by
 have g0:0<Int.gcd b pl:=Int.gcd_pos_of_ne_zero_left _ (by omega);exact ⟨h.lo,by have:=h.hi;omega,.inl (by omega)⟩
def qdN {r c b:Int} (hr:1<=r) (hc:1<=c) (hb:1<=b):1<=-(-r*c/b)/\r*c<=b*-(-r*c/b)/\-(-r*c/b)<=r*c:=by
 have h1:=YS hr hc;have e:-r*c=-(r*c):=Int.neg_mul ..;rw [e];have h2:=Int.ediv_neg_of_neg_of_pos (a:=-(r*c)) (b:=b) (by omega) (by omega);have h3:=Int.mul_ediv_self_le (x:=-(r*c)) (k:=b) (by omega);have h4:-(r*c)<=-(r*c)/b:=by
  have:=Int.le_ediv_of_mul_le (a:=-(r*c)) (b:=-(r*c)) (c:=b) (by omega) (by
   have:=Int.mul_le_mul_of_nonneg_left hb (show (0:Int)<=r*c by omega);rw [Int.neg_mul];omega)
  exact this
 rw [Int.mul_neg];omega
def RW:∀ ts G q,U5 ts G q->ts.length=1/\JS ZB qL UP (X5 q) (qj ["_law_left_here","_law_rows","_law_columns","_law_banks","_law_places","_law_turn"] ts) G:=by
 rintro ts G q ⟨a,n,rfl,hL,hn,h⟩;refine ⟨rfl,?_⟩;unfold JS;refine jk λnx1 q1=>?_;simp only [qD,cb3,qb,v3,qj,map_cons,List.map_nil,length_cons,length_nil,Nat.zero_add,Nat.reduceAdd,Nat.add_one_sub_one,List.reduceReplicate,cons_append,List.nil_append,Nat.zero_lt_succ,getElem?_pos,getElem_cons_zero,qg,qV,qm,gn3,qW,set_cons_succ,set_cons_zero];refine ⟨a,n,rfl,hL,by omega,λr c G1 r1 r2 c1 c2 L1 E1=>?_⟩;simp only [length_cons,length_nil,Nat.zero_add,Nat.reduceAdd,true_and];rw [q1];clear q1;refine jk λnx2 q2=>?_;simp only [qD,o3,c3,cb3,qb,v3,length_cons,length_nil,Nat.zero_add,Nat.reduceAdd,Nat.zero_lt_succ,getElem?_pos,getElem_cons_zero,zO,qg,sizeLine_eq,Nat.reduceLeDiff,zb,ne_eq,gn3,set_cons_succ,set_cons_zero,true_and];intro p hp;have hpa:=L1.ne hp;refine qZ (L1.new hpa) (by decide) (by decide) (by omega) λd G2 d1 d2 L2' E2=>?_;have g2:=E2 p _ hpa qp;obtain ⟨w,hw,w',rfl,w1,w2⟩:=qon d1 d2 (P:=λt=>∃ w,t=T.int w/\1<=w/\w<=32) ⟨8,rfl,by decide⟩ ⟨17,rfl,by decide⟩ ⟨32,rfl,by decide⟩;simp only [ixR,zl,g2,hw];refine qZ L2' w1 (by omega) (by omega) λb G3 b1 b2 L3' E3=>?_;simp [qw,qD,gn3,qK,QZ,zf,zn,V5,qz,v3,c3,o3,u3,ZW,L3.ixT,L3.ixR,zb,iI,iC,iB,zm,zc,EC,tb3,WS,or3,VQ,jp,WO,jZ,if3,ch3,cb3,qb,qg,V9,tyT,ZF,qI,zO,V0,np3,sp3,qV,qm,qW,jh,V4,ZY,qj,bm3,YZ,WR,ZV,UL,U1,WT,WQ,qM,Q1,WU,WP,U6,YW,HT.sIx,zl,in3,zQ,eqF,gu,sizeLine_eq,getElem?_cons_zero,getElem?_cons_succ];rw [q2];clear q2;refine jk λnx3 q3=>?_;simp only [qD,o3,u3,v3,length_cons,length_nil,Nat.zero_add,Nat.reduceAdd,Nat.reduceLT,getElem?_pos,getElem_cons_succ,getElem_cons_zero,ZW,iC,cb3,qb,Nat.zero_lt_succ,c3,qg,zb,ne_eq,sizeLine_eq,gn3,set_cons_succ,set_cons_zero];refine ⟨cm (by omega) (by omega),⟨by omega,by omega⟩,qZ L3' (by omega) (by omega) (by omega) λe G4 e1 e2 L4 E4=>?_⟩;obtain ⟨u1,u2,u3⟩:=qdN r1 c1 (show 1<=1+b by omega);have rc:r*c<=16*16:=Int.mul_le_mul r2 c2 (by omega) (by omega);simp [qw,qD,gn3,qK,QZ,zf,zn,V5,qz,v3,c3,o3,u3,ZW,L3.ixT,L3.ixR,zb,iI,iC,iB,zm,zc,EC,tb3,WS,or3,VQ,jp,WO,jZ,if3,ch3,cb3,qb,qg,V9,tyT,ZF,qI,zO,V0,np3,sp3,qV,qm,qW,jh,V4,ZY,qj,bm3,YZ,WR,ZV,UL,U1,WT,WQ,qM,Q1,WU,WP,U6,YW,HT.sIx,zl,in3,zQ,eqF,gu,sizeLine_eq,getElem?_cons_zero,getElem?_cons_succ];rw [q3];clear q3;simp only [qw,SQ,j4,qb,c3,qg,Int.reducePow,Int.reduceNeg,Int.neg_ofNat_le_ofNat,Int.reduceLT,and_self,Int.reduceToNat,true_and];obtain ⟨p0,hp0⟩:∃ p0,p0=-(-r*c/(1+b))+e:=⟨_,rfl⟩
 refine DJ _ (λi τ G'=>G'=G4/\∃ (pl:Int) (x:Option T),τ=[some (.ref a),some (.int r),some (.int c),some (.int (1+b)),some (.int pl),x]/\Plc (1+b) p0 pl i) ⟨rfl,_,none,by rw [← hp0],⟨by omega,by omega,.inr ⟨by omega,by omega⟩⟩⟩ (λ_ _ _ _ _=>True.intro) ?_ ?_
 ·rintro i x τ G' nx hx ⟨rfl,pl,y,rfl,P⟩ hn;simp only [gn3,zf,tb3,o3,cb3,qb,v3,set_cons_succ,set_cons_zero,length_cons,length_nil,Nat.zero_add,Nat.reduceAdd,Nat.reduceLT,getElem?_pos,getElem_cons_succ,getElem_cons_zero,qg,c3,iB,decide_eq_true_eq,qD,zb,qz];refine ⟨1+b,pl,rfl,by omega,by have:=P.lo;omega,?_⟩;simp;split
  ·rename_i hg;exact hn _ _ ⟨rfl,_,_,rfl,P.next (by omega) (by omega) (by omega)⟩
  ·rename_i hg;exact hn _ _ ⟨rfl,_,_,rfl,P.stay (by omega) (by omega) (by omega)⟩
 ·rintro τ G' ⟨rfl,pl,x,rfl,P⟩;simp only [qK,qI,qb,c3,v3,length_cons,length_nil,Nat.zero_add,Nat.reduceAdd,Nat.reduceLT,getElem?_pos,getElem_cons_succ,getElem_cons_zero,qg,sizeLine_eq,Nat.reduceLeDiff,true_and];rw [ZX] at P;have lo:=P.lo;have hi:=P.hi;have m1:(1+b)*-(-r*c/(1+b))<=(1+b)*pl:=Int.mul_le_mul_of_nonneg_left (by omega) (by omega);exact h r c (1+b) pl G' ⟨⟨r1,by omega,c1,by omega,by omega,by omega,by omega,by omega,P.done (by omega) (by omega),by omega⟩,r2,c2,by show 1+b<=32;omega⟩ (L4.mono (by omega)) (E1.trans (((jj hp).trans E2).trans (E3.trans E4)))
def QI:Nat->Sp3
 |0=>CM
 |n+1=>λts G q=>∃ d:Dl,ts=[d.t]/\d.dep<=n/\d.Ok/\∀ G',Ex G G'->q (W4 d) G'
def qfC:∀ {d:Nat},d<=9->L2.atI [T.int 1,.int 2,.int 4,.int 8,.int 16,.int 32,.int 64,.int 128,.int 256,.int 512] (d:Int)=some (.int (2 ^ d))
 |0,_=>rfl
 |1,_=>rfl
 |2,_=>rfl
 |3,_=>rfl
 |4,_=>rfl
 |5,_=>rfl
 |6,_=>rfl
 |7,_=>rfl
 |8,_=>rfl
 |9,_=>rfl
 |k+10,h=>absurd h (Nat.not_le.mpr (Nat.lt_of_lt_of_le (Nat.lt_succ_self _) (Nat.le_add_left _ _)))
def qbV:∀ {d:Nat},d<=8->L2.atI [T.int 1,.int 2,.int 4,.int 8,.int 16,.int 32,.int 64,.int 128,.int 256] (d:Int)=some (.int (2 ^ d))
 |0,_=>rfl
 |1,_=>rfl
 |2,_=>rfl
 |3,_=>rfl
 |4,_=>rfl
 |5,_=>rfl
 |6,_=>rfl
 |7,_=>rfl
 |8,_=>rfl
 |k+9,h=>absurd h (Nat.not_le.mpr (Nat.lt_of_lt_of_le (Nat.lt_succ_self _) (Nat.le_add_left _ _)))
def qb0:∀ {d:Nat},d<=4->L2.atI [T.int 1,.int 2,.int 4,.int 8,.int 16] (d:Int)=some (.int (2 ^ d))
 |0,_=>rfl
 |1,_=>rfl
 |2,_=>rfl
 |3,_=>rfl
 |4,_=>rfl
 |k+5,h=>absurd h (Nat.not_le.mpr (Nat.lt_of_lt_of_le (Nat.lt_succ_self _) (Nat.le_add_left _ _)))
def qf0 {α:Type} {x:α} {xs:List α}:L2.atI (x::xs) 0=some x:=by simp [L2.atI,ixN]
def qeO {α:Type} {x y:α} {xs:List α}:L2.atI (x::y::xs) 1=some y:=by
 rw [jJ (by omega) (by simp;omega)];rfl
def qfE {α:Type} {x y z:α} {xs:List α}:L2.atI (x::y::z::xs) 2=some z:=by
 rw [jJ (by omega) (by simp;omega)];rfl
def qm0 {α:Type} {x y z w:α} {xs:List α}:L2.atI (x::y::z::w::xs) 3=some w:=by
 rw [jJ (by omega) (by simp;omega)];rfl
def DT {s l:Str} {xs:List T} {R S:TS3} {d:Ends3} {τ:St3} {G:Gp} (hτ:τ[0]?=some (some (T.tup (.str s::xs)))):qw (zf (tb3 (o3 (zm false) (o3 ix3 (v3 0) (c3 (.int 0))) (c3 (.str l)))) R qz) S d τ G=(if s=l then R { d with nx:=S d } τ G else S d τ G):=by
 simp only [qw,zf,tb3,o3,v3,hτ,c3,L3.ixT,qf0,zm,zc,qz];by_cases e:s=l<;>simp [e]
def RK {s l1 l2:Str} {xs:List T} {R S:TS3} {d:Ends3} {τ:St3} {G:Gp} (hτ:τ[0]?=some (some (T.tup (.str s::xs)))):qw (zf (tb3 (o3 (in3 false) (o3 ix3 (v3 0) (c3 (.int 0))) (qI (qb (c3 (.str l1)) (qb (c3 (.str l2)) qg))))) R qz) S d τ G=(if s=l1\/s=l2 then R { d with nx:=S d } τ G else S d τ G):=by
 have s2:[T.str l1,T.str l2].length<=sizeLine:=by simp [sizeLine_eq]
 simp only [qw,zf,tb3,o3,v3,hτ,c3,L3.ixT,qf0,qI,qb,qg,in3,qz];by_cases e1:s=l1
 ·subst e1;simp [zQ,eqF,sizeLine_eq]
 ·have e1':¬ l1=s:=λz=>e1 z.symm;by_cases e2:s=l2
  ·subst e2;simp [zQ,eqF,sizeLine_eq]
  ·have e2':¬ l2=s:=λz=>e2 z.symm;simp [zQ,eqF,sizeLine_eq,e1,e2,e1',e2']
def VH (n:Nat):∀ ts G q,QI (n+1) ts G q->ts.length=1/\YG (QI n) (X5 q) (qj ["_law_dealing","_law_two","_law_one","_law_other"] ts) G:=by
 rintro ts G q ⟨d,rfl,hd,ok,h⟩;refine ⟨rfl,?_⟩;have h0:=h G Ex.refl;unfold YG;cases d with
 |skew r c b x y=>
  show qw _ _ _ [some (.tup [.str "skew",.int r,.int c,.int b,.int x,.int y]),none,none,none] G;rw [RK rfl,if_pos (.inl rfl)];simp [sl3,qK,V0,sp3,v3,c3,L3.YW,HT.sIx];exact h0
 |rests r c b x=>
  show qw _ _ _ [some (.tup [.str "rests",.int r,.int c,.int b,.int x]),none,none,none] G;rw [RK rfl,if_pos (.inr rfl)];simp [sl3,qK,V0,sp3,v3,c3,L3.YW,HT.sIx];exact h0
 |bits hh l ms=>
  obtain ⟨k1,k2,k3,_⟩:=ok;show qw _ _ _ [some (.tup [.str "bits",.int hh,.int l,.tup (ms.map T.int)]),none,none,none] G;rw [RK rfl,if_neg (by decide),DT rfl,if_pos rfl];simp only [qw,qD,zO,qb,c3,qg,length_cons,length_nil,Nat.zero_add,Nat.reduceAdd,sizeLine_eq,Nat.reduceLeDiff,gn3,qK,qI,o3,v3,set_cons_succ,set_cons_zero,Nat.reduceLT,getElem?_pos,getElem_cons_succ,getElem_cons_zero,Nat.zero_lt_succ,cb3,ZV,true_and,ixR,zl,ixT];intro p hp;have ix:∀ k:Nat,k<=5->L2.atI [T.int 1,.int 2,.int 4,.int 8,.int 16,.int 32,.int 64,.int 128,.int 256,.int 512] (k:Int)=some (.int (2 ^ k)):=λk hk=>qfC (by omega);simp only [qeO,qfE,qm0,length_map,ixR,zl,gu,↓reduceIte,ix hh (by omega),ix l (by omega),ix ms.length (by omega)];exact h _ (j6 hp)
 |table b cells=>
  have L:=Dl.lims ok;obtain ⟨k1,k2,k3,k4,c,k5,k6,k7⟩:=ok;cases cells with
  |nil=>simp at k3
  |cons row cells=>
   show qw _ _ _ [some (.tup [.str "table",.int b,.tup (MH row::cells.map MH)]),none,none,none] G;rw [RK rfl,if_neg (by decide),DT rfl,if_neg (by decide),DT rfl,if_pos rfl];simp only [qK,qI,qb,cb3,o3,v3,MH,length_cons,length_nil,Nat.zero_add,Nat.reduceAdd,Nat.zero_lt_succ,getElem?_pos,getElem_cons_zero,c3,qg,ZV,sizeLine_eq,Nat.reduceLeDiff,true_and,ixT,qeO,zl,qfE,qf0,length_map,Int.natCast_add,Int.cast_ofNat_Int];simpa [W4,Dl.R,Dl.C,Dl.B] using h0
 |joined d e=>
  have Ld:=Dl.lims ok.1;have Le:=Dl.lims ok.2.1;have:1<=n:=by simp [Dl.dep] at hd;omega
  obtain ⟨m,rfl⟩:∃ m,n=m+1:=⟨n-1,by omega⟩
  show qw _ _ _ [some (.tup [.str "joined",d.t,e.t]),none,none,none] G;rw [RK rfl,if_neg (by decide),DT rfl,if_neg (by decide),DT rfl,if_neg (by decide)];refine jk λnx1 q1=>?_;simp only [ZY,qb,qg,cb3,o3,v3,c3,L3.ixT,qeO,qfE,getElem?_cons_zero];refine ⟨d,rfl,by simp [Dl.dep] at hd;omega,ok.1,λG1 E1=>?_⟩;refine ⟨e,rfl,by simp [Dl.dep] at hd;omega,ok.2.1,λG2 E2=>?_⟩;simp;rw [q1];have e1:=Le.r1;have e2:=Le.r2;have e3:=Le.c1;have e4:=Le.c2;have e5:=Le.b1;have e6:=Le.b2;simp only [qK,cb3,qb,lc3,qbo,v3,W4,length_cons,length_nil,Nat.zero_add,Nat.reduceAdd,Nat.reduceLT,getElem?_pos,getElem_cons_succ,getElem_cons_zero,Nat.lt_add_one,qg,J6,and_self,qM,zl,qbe,List.zip_cons_cons,List.zip_nil_right,map_cons,List.map_nil,cap,XV,qV,qm,gn3,qW,tt3,↓reduceIte,o3,set_cons_zero,set_cons_succ,Nat.zero_lt_succ,iC,sizeLine_eq,List.nil_append,cons_append,gu,true_and];refine ⟨cm (by omega) (by omega),cm (by omega) (by omega),cm (by omega) (by omega),λp hp=>?_⟩;exact h _ ((E1.trans E2).trans (j6 hp))
def CZ {te:TE3} {q:Q3} {a:Addr} {n many:Int} {Z2:St3} {items:List T} {x0:Option T} {G:Gp} (hte:∀ x0 G3 (Q:T->Gp->Prop),qL [.ref a,.int many] G3 Q->te (x0::Z2) G3 Q) (hL:Lf G a n) (m1:1<=many) (m2:many<1073741824) (hl:items.length<=1000) (hn:n<1000000000)
  (h:∀ (ds:List Int) G' p,ds.length=items.length->(∀ d∈ds,0<=d/\d<many)->Lf G' a (n+items.length)->Ext a G G'->G' p=none->q (.ref p) (gu G' p (.lst (ds.map T.int)))) :
  XV (λ_=>True) (gn3 0) tt3 te q items [] (x0::Z2) G:=by
 refine X4 _ (λi ys τ G'=>∃ (ds:List Int) (x0:Option T),τ=x0::Z2/\ys=ds.map T.int/\ds.length=i/\(∀ d∈ds,0<=d/\d<many)/\Lf G' a (n+i)/\Ext a G G') ⟨[],x0,rfl,rfl,rfl,by simp,by simpa using hL,Ext.refl⟩ (λ_ _ _ _ _ _=>True.intro) ?_ ?_
 ·rintro i z ys τ G' R hz ⟨ds,x0,rfl,rfl,e,hd,hL',E⟩ hR;have hi:=(List.getElem?_eq_some_iff.mp hz).1;simp only [gn3,tt3,set_cons_zero,if_true];refine hte _ _ _ (qZ hL' m1 m2 (by omega) λd G2 d1 d2 L2 E2=>⟨by simp [sizeLine_eq];omega,hR _ _ _ ⟨ds++[d],_,rfl,by simp,by simp [e],λx hx=>?_,L2.mono (by omega),E.trans E2⟩⟩);rcases List.mem_append.mp hx with hx|hx
  ·exact hd x hx
  ·simp at hx;subst hx;exact ⟨d1,d2⟩
 ·rintro ys τ G' ⟨ds,x0,rfl,rfl,e,hd,hL',E⟩ p hp;exact h ds G' p e hd hL' E hp
def DR:Sp3:=λts G q=>∃ a n most,ts=[.ref a,.int most]/\Lf G a n/\n<10000000/\0<=most/\most<=4/\∀ (h l:Nat) (ms:List Int) G',(h:Int)<=most->(l:Int)<=most->(Dl.bits h l ms).Ok->Lf G' a (n+10)->Ext a G G'->q (Dl.bits h l ms).t G'
def LN {wide:Int} {p:Addr} {ds:List Int} {x0:Option T} {G:Gp} {q:Q3} (hw:0<wide) (hl:ds.length<=1000) (hG:zl G p=some (ds.map T.int)) (h:∀ p2,G p2=none->q (.ref p2) (gu G p2 (.lst ((ds.map (·%wide)).map T.int)))) :
  XV (λG=>zl G p=some (ds.map T.int)) (gn3 0) tt3 (o3 (iC (λ_ j=>0<j) (·%·)) (v3 0) (v3 1)) q (ds.map T.int) [] [x0,some (.int wide)] G:=by
 refine LB (λt=>match t with|.int m=>T.int (m%wide)|t=>t) (λτ=>∃ x0,τ=[x0,some (.int wide)]) hG _ _ _ ⟨_,rfl⟩ ?_ (by simp [sizeLine_eq];omega) λp2 hp2=>?_
 ·rintro z hz τ ⟨x0,rfl⟩ R hR;rw [mem_map] at hz;obtain ⟨m,_,rfl⟩:=hz;simp [gn3,o3,v3,iC];exact ⟨hw,hR _ ⟨_,rfl⟩⟩
 ·have:=h p2 hp2;simpa [map_map,Function.comp_def] using this
def TK:∀ ts G q,DR ts G q->ts.length=2/\YR qL (X5 q) (qj ["_law_left_here","_law_most","_law_high","_law_low","_law_masks","_law_wide"] ts) G:=by
 rintro ts G q ⟨a,n,most,rfl,hL,hn,m1,m2,h⟩;refine ⟨rfl,?_⟩;simp only [YR,qw,ZY,qb,cb3,v3,qj,map_cons,List.map_nil,length_cons,length_nil,Nat.zero_add,Nat.reduceAdd,Nat.reduceSub,List.reduceReplicate,cons_append,List.nil_append,Nat.zero_lt_succ,getElem?_pos,getElem_cons_zero,o3,Nat.reduceLT,getElem_cons_succ,c3,zb,qg,qD,set_cons_succ,set_cons_zero,gn3,zO,sizeLine_eq,Nat.reduceLeDiff,ne_eq,qK,qI,qM,true_and,zl,gu,ixR,↓reduceIte];refine qZ hL (by omega) (by omega) (by omega) λhi G1 h1 h2 L1 E1=>?_
 try simp
 refine qZ L1 (by omega) (by omega) (by omega) λlo G2 l1 l2 L2' E2=>?_;simp only [lc3,j4,qb,cb3,v3,length_cons,length_nil,Nat.zero_add,Nat.reduceAdd,Nat.zero_lt_succ,getElem?_pos,getElem_cons_zero,c3,qg,Int.reducePow,Int.reduceNeg,cap,map_cons,Nat.lt_add_one,getElem_cons_succ,Option.join_some,List.map_nil];refine qZ L2' (by omega) (by omega) (by omega) λk G3 k1 k2 L3' E3=>?_;refine ⟨⟨by omega,by omega⟩,CZ (many:=256) (λx0 G3 Q hq=>by simpa [cb3,qb,v3,c3,qg] using hq) L3' (by omega) (by omega) (by rw [ZX];omega) (by omega) λds G4 p e1 e2 L4 E4 hp=>?_⟩;rw [ZX] at e1 L4;obtain ⟨H,rfl⟩:=Int.eq_ofNat_of_zero_le h1;obtain ⟨W,rfl⟩:=Int.eq_ofNat_of_zero_le l1;have hpa:=L4.ne hp
 try simp
 intro p2 hp2;have pp:p≠p2:=by rintro rfl;rw [qp] at hp2;cases hp2
 have e3:((H:Int)+(W:Int))=((H+W:Nat):Int):=by omega
 have w1:=DA (H+W);have hG:∀ B,zl (gu (gu G4 p (.lst (ds.map T.int))) p2 B) p=some (ds.map T.int):=λB=>by simp only [zl,zu pp,qp]
 rw [e3,qbV (d:=H+W) (by omega)];simp only [EO,v3,getElem?_cons_zero,getElem?_cons_succ,hG];refine LN (by omega) (by omega) (hG _) λp3 hp3=>?_;simp only [qp];refine h H W _ _ (by omega) (by omega) ⟨by omega,by omega,by simp;omega,λm hm=>?_⟩ ((((L4.new hpa).new ((L4.new hpa).ne hp2)).new (((L4.new hpa).new ((L4.new hpa).ne hp2)).ne hp3)).mono (by omega)) (((E1.trans E2).trans (E3.trans E4)).trans (((jj hp).trans (jj hp2)).trans (jj hp3)));rw [mem_map] at hm;obtain ⟨x,_,rfl⟩:=hm;exact ⟨Int.emod_nonneg _ (by omega),Int.emod_lt_of_pos _ (by omega)⟩
structure Cells (cells:List (List Int)) (r c b:Int):Prop where
 r:(cells.length:Int)=r
 c:∀ row∈cells,(row.length:Int)=c/\∀ x∈row,0<=x/\x<b
def KQ {q:Q3} {a:Addr} {n r c b:Int} {x0:Option T} {G:Gp} (hL:Lf G a n) (hn:n<100000000) (r1:1<=r) (r2:r<=16) (c1:1<=c) (c2:c<=16) (b1:1<=b) (b2:b<=1000)
  (h:∀ cells G' p,Cells cells r c b->Lf G' a (n+256)->Ext a G G'->G' p=none->q (.ref p) (gu G' p (.lst (cells.map MH)))) :
  XV (λ_=>True) (gn3 0) tt3 (cb3 qM (qb (lc3 (j4 (qb (v3 3) qg)) (gn3 0) tt3 (cb3 qL (qb (v3 1) (qb (v3 2) qg))) [none,some 1,some 2]) qg)) q (K7 0 r.toNat) [] [x0,some (.ref a),some (.int b),some (.int c)] G:=by
 refine X4 _ (λi ys τ G'=>∃ (cells:List (List Int)) (x0:Option T),τ=[x0,some (.ref a),some (.int b),some (.int c)]/\ys=cells.map MH/\Cells cells i c b/\Lf G' a (n+16*i)/\Ext a G G') ⟨[],x0,rfl,rfl,⟨rfl,by simp⟩,by simpa using hL,Ext.refl⟩ (λ_ _ _ _ _ _=>True.intro) ?_ ?_
 ·rintro i z ys τ G' R hz ⟨cells,x0,rfl,rfl,C,hL',E⟩ hR;obtain ⟨hi,rfl⟩:=qai hz;have hc:=C.r;simp only [gn3,tt3,↓reduceIte,cb3,qb,lc3,j4,v3,Int.zero_add,set_cons_zero,length_cons,length_nil,Nat.zero_add,Nat.reduceAdd,Nat.lt_add_one,getElem?_pos,getElem_cons_succ,getElem_cons_zero,qg,Int.reducePow,Int.reduceNeg,qM,length_map,sizeLine_eq,zl,cap,map_cons,Nat.reduceLT,Option.join_some,List.map_nil];refine ⟨⟨by omega,by omega⟩,CZ (many:=b) (λx0 G3 Q hq=>by simpa [cb3,qb,v3,c3,qg] using hq) hL' (by omega) (by omega) (by rw [ZX];omega) (by omega) λds G4 p e1 e2 L4 E4 hp=>?_⟩;rw [ZX] at e1 L4;simp only [qp];refine ⟨by omega,hR _ _ _ ⟨cells++[ds],_,rfl,by simp [MH],⟨by simp;omega,λrow hrow=>?_⟩,((L4.new (L4.ne hp)).mono (by omega)),(E.trans E4).trans (jj hp)⟩⟩;rcases List.mem_append.mp hrow with hr|hr
  ·exact C.c row hr
  ·simp at hr;subst hr;exact ⟨by omega,e2⟩
 ·rintro ys τ G' ⟨cells,x0,rfl,rfl,C,hL',E⟩ p hp;rw [ZX] at C hL';exact h cells G' p ⟨by have:=C.r;omega,C.c⟩ (hL'.mono (by omega)) E hp
def Cells.ok {cells:List (List Int)} {r c b:Int} (C:Cells cells r c b) (r1:1<=r) (r2:r<=60) (c1:1<=c) (c2:c<=60) (b1:1<=b) (b2:b<=1000):(Dl.table b cells).Ok/\(Dl.table b cells).R=r/\(Dl.table b cells).C=c:=by
 have hl:=C.r;have ok:(Dl.table b cells).Ok:=⟨b1,b2,by omega,by omega,c.toNat,by omega,by omega,λrow hr=>⟨by have:=(C.c row hr).1;omega,(C.c row hr).2⟩⟩
 have e0:cells[0]?=some cells[0]:=getElem?_eq_getElem (by omega);exact ⟨ok,hl,by simp [Dl.C,e0];exact (C.c cells[0] (List.getElem_mem _)).1⟩
def U9:Sp3:=λts G q=>∃ a n,ts=[.ref a]/\Lf G a n/\n<10000000/\∀ (d:Dl) G',Dr d 4 4 5->d.dep=0->Lf G' a (n+300)->Ext a G G'->q d.t G'
def SE:∀ ts G q,U9 ts G q->ts.length=1/\JB qL UP (X5 q) (qj ["_law_left_here","_law_rows","_law_columns","_law_banks","_law_way","_law_high","_law_low","_law_masks","_law_wide","_law_places","_law_turn","_law_cells"] ts) G:=by
 rintro ts G q ⟨a,n,rfl,hL,hn,h⟩;refine ⟨rfl,?_⟩;unfold JB;refine jk λnx1 q1=>?_;simp only [qD,qI,qb,o3,c3,cb3,v3,qj,map_cons,List.map_nil,length_cons,length_nil,Nat.zero_add,Nat.reduceAdd,Nat.add_one_sub_one,List.reduceReplicate,cons_append,List.nil_append,Nat.zero_lt_succ,getElem?_pos,getElem_cons_zero,qg,zb,ne_eq,sizeLine_eq,Nat.reduceLeDiff,qV,qm,gn3,qW,set_cons_succ,set_cons_zero,true_and];refine qZ hL (by omega) (by omega) (by omega) λr G1 r1 r2 L1 E1=>?_
 try simp
 refine qZ L1 (by omega) (by omega) (by omega) λc G2 c1 c2 L2' E2=>?_
 try simp
 refine qZ L2' (by omega) (by omega) (by omega) λb G3 b1 b2 L3' E3=>?_
 try simp
 rw [q1];refine jk λnx2 q2=>?_;simp only [qD,cb3,qb,v3,length_cons,length_nil,Nat.zero_add,Nat.reduceAdd,Nat.zero_lt_succ,getElem?_pos,getElem_cons_zero,c3,qg,gn3,set_cons_succ,set_cons_zero];refine qZ L3' (by omega) (by omega) (by omega) λway G4 w1 w2 L4 E4=>?_;have EE:=(E1.trans E2).trans (E3.trans E4);rw [q2];refine jk λnx3 q3=>?_;by_cases k0:way=0
 ·subst k0;simp only [zf,tb3,o3,v3,length_cons,length_nil,Nat.zero_add,Nat.reduceAdd,Nat.reduceLT,getElem?_pos,getElem_cons_succ,getElem_cons_zero,c3,zm,zc,decide_true,Bool.false_eq_true,↓reduceIte,qK,qI,qb,cb3,Nat.zero_lt_succ,qg,sizeLine_eq,Nat.reduceLeDiff,true_and];refine qZ L4 (by omega) (by omega) (by omega) λx G5 x1 x2 L5 E5=>?_
  try simp
  refine qZ L5 (by omega) (by omega) (by omega) λy G6 y1 y2 L6 E6=>?_
  try simp
  exact h (.skew (1+r) (1+c) (1+b) x y) G6 ⟨⟨by omega,by omega,by omega,by omega,by omega,by omega,by omega,by omega,by omega,by omega⟩,by show 1+r<=4;omega,by show 1+c<=4;omega,by show 1+b<=5;omega⟩ rfl (L6.mono (by omega)) (EE.trans (E5.trans E6))
 simp only [zf,tb3,o3,v3,c3,zm,zc,getElem?_cons_zero,getElem?_cons_succ,k0,decide_false,Bool.false_eq_true,if_false,qz];rw [q3];refine jk λnx4 q4=>?_;by_cases k1:way=1
 ·subst k1;simp only [zf,tb3,o3,v3,length_cons,length_nil,Nat.zero_add,Nat.reduceAdd,Nat.reduceLT,getElem?_pos,getElem_cons_succ,getElem_cons_zero,c3,zm,zc,decide_true,Bool.false_eq_true,↓reduceIte,qw,ZY,qb,cb3,Nat.zero_lt_succ,qg,qD,set_cons_succ,set_cons_zero,gn3,zO,sizeLine_eq,Nat.reduceLeDiff,zb,ne_eq,qK,qI,qM,true_and,zl,gu,ixR];refine qZ L4 (by omega) (by omega) (by omega) λhi G5 h1 h2 L5 E5=>?_
  try simp
  refine qZ L5 (by omega) (by omega) (by omega) λlo G6 l1 l2 L6 E6=>?_;simp only [lc3,j4,qb,cb3,v3,length_cons,length_nil,Nat.zero_add,Nat.reduceAdd,Nat.zero_lt_succ,getElem?_pos,getElem_cons_zero,c3,qg,Int.reducePow,Int.reduceNeg,cap,map_cons,Nat.reduceLT,getElem_cons_succ,Option.join_some,List.map_nil];refine qZ L6 (by omega) (by omega) (by omega) λk G7 k1 k2 L7 E7=>?_;refine ⟨⟨by omega,by omega⟩,CZ (many:=16) (λx0 G3 Q hq=>by simpa [cb3,qb,v3,c3,qg] using hq) L7 (by omega) (by omega) (by rw [ZX];omega) (by omega) λds G8 p e1 e2 L8 E8 hp=>?_⟩;rw [ZX] at e1 L8;obtain ⟨H,rfl⟩:=Int.eq_ofNat_of_zero_le h1;obtain ⟨W,rfl⟩:=Int.eq_ofNat_of_zero_le l1;have hpa:=L8.ne hp
  try simp
  intro p2 hp2;have pp:p≠p2:=by rintro rfl;rw [qp] at hp2;cases hp2
  have e3:((H:Int)+(W:Int))=((H+W:Nat):Int):=by omega
  have w1:=DA (H+W);have hG:∀ B,zl (gu (gu G8 p (.lst (ds.map T.int))) p2 B) p=some (ds.map T.int):=λB=>by simp only [zl,zu pp,qp]
  rw [e3,qb0 (d:=H+W) (by omega)];simp only [EO,v3,getElem?_cons_zero,getElem?_cons_succ,hG];refine LN (by omega) (by omega) (hG _) λp3 hp3=>?_;simp only [qp];have bl:(Dl.bits H W (ds.map (·%2 ^ (H+W)))).Ok:=⟨by omega,by omega,by simp;omega,λm hm=>by
   rw [mem_map] at hm;obtain ⟨x,_,rfl⟩:=hm;exact ⟨Int.emod_nonneg _ (by omega),Int.emod_lt_of_pos _ (by omega)⟩⟩
  have q1:=DE (n:=H) (k:=2) (by omega);have q2:=DE (n:=W) (k:=2) (by omega);have q3:=DE (n:=ds.length) (k:=2) (by omega);exact h (.bits H W _) _ ⟨bl,by show (2:Int) ^ H<=4;omega,by show (2:Int) ^ W<=4;omega,by simp [Dl.B];omega⟩ rfl ((((L8.new hpa).new ((L8.new hpa).ne hp2)).new (((L8.new hpa).new ((L8.new hpa).ne hp2)).ne hp3)).mono (by omega)) (EE.trans (((E5.trans E6).trans (E7.trans E8)).trans (((jj hp).trans (jj hp2)).trans (jj hp3))))
 simp only [zf,tb3,o3,v3,c3,zm,zc,getElem?_cons_zero,getElem?_cons_succ,k1,decide_false,Bool.false_eq_true,if_false,qz];rw [q4];refine jk λnx5 q5=>?_;by_cases k2:way=2
 ·subst k2;simp only [zf,tb3,o3,v3,length_cons,length_nil,Nat.zero_add,Nat.reduceAdd,Nat.reduceLT,getElem?_pos,getElem_cons_succ,getElem_cons_zero,c3,zm,zc,decide_true,Bool.false_eq_true,↓reduceIte,qw,qD,u3,ZW,iC,cb3,qb,Nat.zero_lt_succ,qg,zb,ne_eq,sizeLine_eq,gn3,set_cons_succ,set_cons_zero];refine ⟨cm (by omega) (by omega),⟨by omega,by omega⟩,qZ L4 (by omega) (by omega) (by omega) λe G5 e1 e2 L5 E5=>?_⟩;obtain ⟨u1,u2,u3⟩:=qdN (show 1<=1+r by omega) (show 1<=1+c by omega) (show 1<=1+b by omega);have rc:(1+r)*(1+c)<=4*4:=Int.mul_le_mul (by omega) (by omega) (by omega) (by omega);simp only [SQ,j4,qb,c3,qg,Int.reducePow,Int.reduceNeg,Int.neg_ofNat_le_ofNat,Int.reduceLT,and_self,Int.reduceToNat,true_and];obtain ⟨p0,hp0⟩:∃ p0,p0=-(-(1+r)*(1+c)/(1+b))+e:=⟨_,rfl⟩
  refine DJ _ (λi τ G'=>G'=G5/\∃ (pl:Int) (x:Option T),τ=[some (.ref a),some (.int (1+r)),some (.int (1+c)),some (.int (1+b)),some (.int 2),none,none,none,none,some (.int pl),x,none]/\Plc (1+b) p0 pl i) ⟨rfl,_,none,by rw [← hp0],⟨by omega,by omega,.inr ⟨by omega,by omega⟩⟩⟩ (λ_ _ _ _ _=>True.intro) ?_ ?_
  ·rintro i x τ G' nx hx ⟨rfl,pl,y,rfl,P⟩ hn;simp only [gn3,zf,tb3,o3,cb3,qb,v3,set_cons_succ,set_cons_zero,length_cons,length_nil,Nat.zero_add,Nat.reduceAdd,Nat.reduceLT,getElem?_pos,getElem_cons_succ,getElem_cons_zero,qg,c3,iB,decide_eq_true_eq,qD,zb,qz];refine ⟨1+b,pl,rfl,by omega,by have:=P.lo;omega,?_⟩;simp;split
   ·exact hn _ _ ⟨rfl,_,_,rfl,P.next (by omega) (by omega) (by omega)⟩
   ·exact hn _ _ ⟨rfl,_,_,rfl,P.stay (by omega) (by omega) (by omega)⟩
  ·rintro τ G' ⟨rfl,pl,x,rfl,P⟩;simp only [qK,qI,qb,c3,v3,length_cons,length_nil,Nat.zero_add,Nat.reduceAdd,Nat.reduceLT,getElem?_pos,getElem_cons_succ,getElem_cons_zero,qg,sizeLine_eq,Nat.reduceLeDiff,true_and];rw [ZX] at P;have lo:=P.lo;have hi:=P.hi;have m1:(1+b)*-(-(1+r)*(1+c)/(1+b))<=(1+b)*pl:=Int.mul_le_mul_of_nonneg_left (by omega) (by omega);exact h (.rests (1+r) (1+c) (1+b) pl) G' ⟨⟨by omega,by omega,by omega,by omega,by omega,by omega,by omega,by omega,P.done (by omega) (by omega),by omega⟩,by show 1+r<=4;omega,by show 1+c<=4;omega,by show 1+b<=5;omega⟩ rfl (L5.mono (by omega)) (EE.trans E5)
 ·simp only [zf,tb3,o3,v3,c3,zm,zc,getElem?_cons_zero,getElem?_cons_succ,k2,decide_false,Bool.false_eq_true,if_false,qz];rw [q5];simp only [qw,qD,lc3,j4,qb,v3,length_cons,length_nil,Nat.zero_add,Nat.reduceAdd,Nat.reduceLT,getElem?_pos,getElem_cons_succ,getElem_cons_zero,qg,Int.reducePow,Int.reduceNeg,gn3,qK,qI,c3,set_cons_succ,set_cons_zero,cb3,Nat.lt_add_one,qM,sizeLine_eq,Nat.reduceLeDiff,true_and,zl,cap,map_cons,Nat.zero_lt_succ,Option.join_some,List.map_nil];refine ⟨⟨by omega,by omega⟩,KQ L4 (by omega) (by omega) (by omega) (by omega) (by omega) (by omega) (by omega) λcells G5 p C L5 E5 hp=>?_⟩;obtain ⟨ok,eR,eC⟩:=C.ok (by omega) (by omega) (by omega) (by omega) (by omega) (by omega);simp only [qp];exact h (.table (1+b) cells) _ ⟨ok,by omega,by omega,by show 1+b<=5;omega⟩ rfl ((L5.new (L5.ne hp)).mono (by omega)) (EE.trans (E5.trans (jj hp)))
def U4:Sp3:=λts G q=>∃ a n,ts=[.ref a]/\Lf G a n/\n<10000000/\∀ (b:Int) cells r c G',Cells cells r c b->Dr (.table b cells) 16 16 32->(Dl.table b cells).R=r->(Dl.table b cells).C=c->Lf G' a (n+300)->Ext a G G'->q (Dl.table b cells).t G'
def C1:∀ ts G q,U4 ts G q->ts.length=1/\Z3 ZB qL (X5 q) (qj ["_law_left_here","_law_rows","_law_columns","_law_banks","_law_cells"] ts) G:=by
 rintro ts G q ⟨a,n,rfl,hL,hn,h⟩;refine ⟨rfl,?_⟩;simp only [Z3,qw,qD,cb3,qb,v3,qj,map_cons,List.map_nil,length_cons,length_nil,Nat.zero_add,Nat.reduceAdd,Nat.add_one_sub_one,List.reduceReplicate,cons_append,List.nil_append,Nat.zero_lt_succ,getElem?_pos,getElem_cons_zero,qg,qV,qm,gn3,qW,o3,c3,set_cons_succ,set_cons_zero,zO,sizeLine_eq,Nat.reduceLeDiff,zb,ne_eq,qK,qI,Nat.reduceLT,getElem_cons_succ,Nat.lt_add_one,qM,true_and,zl];refine ⟨a,n,rfl,hL,by omega,λr c G1 r1 r2 c1 c2 L1 E1=>?_⟩;simp;intro p hp;have hpa:=L1.ne hp;refine qZ (L1.new hpa) (by omega) (by omega) (by omega) λd G2 d1 d2 L2' E2=>?_;have g2:=E2 p _ hpa qp;obtain ⟨w,hw,w',rfl,w1,w2⟩:=qon d1 d2 (P:=λt=>∃ w,t=T.int w/\1<=w/\w<=32) ⟨4,rfl,by omega,by omega⟩ ⟨9,rfl,by omega,by omega⟩ ⟨32,rfl,by omega,by omega⟩;simp only [ixR,zl,g2,hw];refine qZ L2' w1 (by omega) (by omega) λb G3 b1 b2 L3' E3=>?_;simp only [lc3,j4,qb,v3,length_cons,length_nil,Nat.zero_add,Nat.reduceAdd,Nat.reduceLT,getElem?_pos,getElem_cons_succ,getElem_cons_zero,qg,Int.reducePow,Int.reduceNeg,cap,map_cons,Nat.zero_lt_succ,Option.join_some,List.map_nil];refine ⟨⟨by omega,by omega⟩,KQ L3' (by omega) (by omega) (by omega) (by omega) (by omega) (by omega) (by omega) λcells G5 p C L5 E5 hp5=>?_⟩;obtain ⟨ok,eR,eC⟩:=C.ok (by omega) (by omega) (by omega) (by omega) (by omega) (by omega);simp only [qp];exact h (1+b) cells r c _ C ⟨ok,by omega,by omega,by show 1+b<=32;omega⟩ eR eC ((L5.new (L5.ne hp5)).mono (by omega)) (E1.trans (((jj hp).trans E2).trans (E3.trans (E5.trans (jj hp5)))))
def TN {a b x y:Int} (h0:1<=a) (h1:a<=x) (h2:1<=b) (h3:b<=y):a*b<=x*y:=Int.mul_le_mul h1 h3 (by omega) (by omega)
def Dr.join {d e:Dl} {r c b r' c' b':Int} (D:Dr d r c b) (E:Dr e r' c' b') (h1:r*r'<=4096) (h2:c*c'<=4096) (h3:b*b'<=4096):Dr (.joined d e) (r*r') (c*c') (b*b'):=by
 have Ld:=Dl.lims D.ok;have Le:=Dl.lims E.ok;have a1:=TN Ld.r1 D.r2 Le.r1 E.r2;have a2:=TN Ld.c1 D.c2 Le.c1 E.c2;have a3:=TN Ld.b1 D.b2 Le.b1 E.b2;exact ⟨⟨D.ok,E.ok,by omega,by omega,by omega⟩,a1,a2,a3⟩
def Dr.mono {d:Dl} {r c b r' c' b':Int} (D:Dr d r c b) (h1:r<=r') (h2:c<=c') (h3:b<=b'):Dr d r' c' b':=⟨D.ok,by have:=D.r2;omega,by have:=D.c2;omega,by have:=D.b2;omega⟩
def jH:Sp3:=λts G q=>∃ a n,ts=[.ref a]/\Lf G a n/\n<1000000/\∀ (d:Dl) G',Dr d 16 16 32->d.dep<=2->Lf G' a (n+1000)->Ext a G G'->q d.t G'
def qbX {x:Int} (h0:0<=x) (h1:x<2):Dr (.joined (.skew (1+x) 1 2 1 1) (.table 2 [[1,0]])) 2 2 4:=by
 have a:Dr (.skew (1+x) 1 2 1 1) 2 1 2:=⟨⟨by omega,by omega,by omega,by omega,by omega,by omega,by omega,by omega,by omega,by omega⟩,by show 1+x<=2;omega,Int.le_refl 1,Int.le_refl 2⟩
 have b:Dr (.table 2 [[1,0]]) 1 2 2:=⟨⟨by decide,by decide,by decide,by decide,2,by decide,by decide,by simp⟩,by decide,by decide,by decide⟩
 exact (a.join b (by decide) (by decide) (by decide)).mono (by decide) (by decide) (by decide)
def qpe:Dr (.joined (.skew 8 1 3 1 1) (.rests 2 16 5 7)) 16 16 15:=by
 have a:Dr (.skew 8 1 3 1 1) 8 1 3:=⟨⟨by decide,by decide,by decide,by decide,by decide,by decide,by decide,by decide,by decide,by decide⟩,by decide,by decide,by decide⟩
 have b:Dr (.rests 2 16 5 7) 2 16 5:=⟨⟨by decide,by decide,by decide,by decide,by decide,by decide,by decide,by decide,by decide,by decide⟩,by decide,by decide,by decide⟩
 exact (a.join b (by decide) (by decide) (by decide)).mono (by decide) (by decide) (by decide)
def qpi:Dr (.joined (.rests 1 8 3 4) (.skew 16 2 5 2 1)) 16 16 15:=by
 have a:Dr (.rests 1 8 3 4) 1 8 3:=⟨⟨by decide,by decide,by decide,by decide,by decide,by decide,by decide,by decide,by decide,by decide⟩,by decide,by decide,by decide⟩
 have b:Dr (.skew 16 2 5 2 1) 16 2 5:=⟨⟨by decide,by decide,by decide,by decide,by decide,by decide,by decide,by decide,by decide,by decide⟩,by decide,by decide,by decide⟩
 exact (a.join b (by decide) (by decide) (by decide)).mono (by decide) (by decide) (by decide)
def W1:∀ ts G q,jH ts G q->ts.length=1/\j9 qL DC U5 DR U4 U9 (X5 q) (qj ["_law_left_here","_law_way","_law_inner","_law_some"] ts) G:=by
 rintro ts G q ⟨a,n,rfl,hL,hn,h⟩;refine ⟨rfl,?_⟩;unfold j9;refine jk λnx1 q1=>?_;simp only [qD,cb3,qb,v3,qj,map_cons,List.map_nil,length_cons,length_nil,Nat.zero_add,Nat.reduceAdd,Nat.add_one_sub_one,List.reduceReplicate,cons_append,List.nil_append,Nat.zero_lt_succ,getElem?_pos,getElem_cons_zero,c3,qg,gn3,set_cons_succ,set_cons_zero];refine qZ hL (by omega) (by omega) (by omega) λw G1 w1 w2 L1 E1=>?_
 try simp
 rw [q1];clear q1;refine jk λnx2 q2=>?_;by_cases k0:w<2
 ·simp only [zf,tb3,o3,v3,length_cons,length_nil,Nat.zero_add,Nat.reduceAdd,Nat.reduceLT,getElem?_pos,getElem_cons_succ,getElem_cons_zero,c3,iB,k0,decide_true,↓reduceIte,qK,cb3,qb,Nat.zero_lt_succ,qg];exact ⟨a,n+1,rfl,L1,by omega,λr c b x y G2 D L2' E2=>h _ G2 D (Nat.zero_le _) (L2'.mono (by omega)) (E1.trans E2)⟩
 simp only [zf,tb3,o3,v3,c3,iB,getElem?_cons_zero,getElem?_cons_succ,k0,decide_false,Bool.false_eq_true,if_false,qz];rw [q2];clear q2;refine jk λnx3 q3=>?_;by_cases k1:w=2
 ·subst k1;simp only [zf,tb3,o3,v3,length_cons,length_nil,Nat.zero_add,Nat.reduceAdd,Nat.reduceLT,getElem?_pos,getElem_cons_succ,getElem_cons_zero,c3,zm,zc,decide_true,Bool.false_eq_true,↓reduceIte,qK,cb3,qb,Nat.zero_lt_succ,qg];exact ⟨a,n+1,rfl,L1,by omega,λr c b p G2 D L2' E2=>h _ G2 D (Nat.zero_le _) (L2'.mono (by omega)) (E1.trans E2)⟩
 simp only [zf,tb3,o3,v3,c3,zm,zc,getElem?_cons_zero,getElem?_cons_succ,k1,decide_false,Bool.false_eq_true,if_false,qz];rw [q3];clear q3;refine jk λnx4 q4=>?_;by_cases k2:w=3
 ·subst k2;simp only [zf,tb3,o3,v3,length_cons,length_nil,Nat.zero_add,Nat.reduceAdd,Nat.reduceLT,getElem?_pos,getElem_cons_succ,getElem_cons_zero,c3,zm,zc,decide_true,Bool.false_eq_true,↓reduceIte,qK,cb3,qb,Nat.zero_lt_succ,qg];refine ⟨a,n+1,4,rfl,L1,by omega,by omega,by omega,λhh l ms G2 h1 h2 ok L2' E2=>h _ G2 ⟨ok,?_,?_,?_⟩ (Nat.zero_le _) (L2'.mono (by omega)) (E1.trans E2)⟩
  ·have:=DE (n:=hh) (k:=4) (by omega);show (2:Int) ^ hh<=16;omega
  ·have:=DE (n:=l) (k:=4) (by omega);show (2:Int) ^ l<=16;omega
  ·have:=DE ok.2.2.1;show (2:Int) ^ ms.length<=32;omega
 simp only [zf,tb3,o3,v3,c3,zm,zc,getElem?_cons_zero,getElem?_cons_succ,k2,decide_false,Bool.false_eq_true,if_false,qz];rw [q4];clear q4;refine jk λnx5 q5=>?_;by_cases k3:w=4
 ·subst k3;simp only [zf,tb3,o3,v3,length_cons,length_nil,Nat.zero_add,Nat.reduceAdd,Nat.reduceLT,getElem?_pos,getElem_cons_succ,getElem_cons_zero,c3,zm,zc,decide_true,Bool.false_eq_true,↓reduceIte,qK,cb3,qb,Nat.zero_lt_succ,qg];exact ⟨a,n+1,rfl,L1,by omega,λb cells r c G2 C D eR eC L2' E2=>h _ G2 D (Nat.zero_le _) (L2'.mono (by omega)) (E1.trans E2)⟩
 simp only [zf,tb3,o3,v3,c3,zm,zc,getElem?_cons_zero,getElem?_cons_succ,k3,decide_false,Bool.false_eq_true,if_false,qz];rw [q5];clear q5;refine jk λnx6 q6=>?_;by_cases k4:w=5
 ·subst k4;simp only [zf,tb3,o3,v3,length_cons,length_nil,Nat.zero_add,Nat.reduceAdd,Nat.reduceLT,getElem?_pos,getElem_cons_succ,getElem_cons_zero,c3,zm,zc,decide_true,Bool.false_eq_true,↓reduceIte,qw,qD,qI,qb,cb3,Nat.zero_lt_succ,qg,zb,ne_eq,sizeLine_eq,Nat.reduceLeDiff,gn3,zO,set_cons_succ,set_cons_zero,zn,bm3,Nat.lt_add_one,zl,gu,Option.isSome_some,YZ,cons_append,List.nil_append,qK,true_and];refine qZ L1 (by omega) (by omega) (by omega) λx G2 x1 x2 L2' E2=>?_;have I:=qbX x1 x2
  try simp
  refine ⟨a,n+1+1,rfl,L2',by omega,λd G3 Dd dd L3' E3=>?_⟩
  try simp
  refine ⟨a,n+1+1+300,rfl,L3',by omega,λe G4 De de L4 E4=>?_⟩
  try simp
  intro p hp;have hpa:=L4.ne hp;refine qZ (((L4.new hpa).new hpa).new hpa) (by omega) (by omega) (by omega) λk G5 k1 k2 L5 E5=>?_;have g5:=E5 p _ hpa qp;have EE:Ext a G G5:=(E1.trans E2).trans ((E3.trans E4).trans (Ext.trans (λb o hb e=>by
   have hbp:b≠p:=by rintro rfl;rw [hp] at e;cases e
   rw [zu hbp,zu hbp,zu hbp];exact e) E5))
  have P1:∃ d':Dl,(Dl.joined (.joined (.skew (1+x) 1 2 1 1) (.table 2 [[1,0]])) d).t=d'.t/\Dr d' 16 16 32/\d'.dep<=2:=⟨_,rfl,(I.join Dd (by decide) (by decide) (by decide)).mono (by decide) (by decide) (by decide),by simp [Dl.dep,dd]⟩
  have P2:∃ d':Dl,(Dl.joined e (.joined (.skew (1+x) 1 2 1 1) (.table 2 [[1,0]]))).t=d'.t/\Dr d' 16 16 32/\d'.dep<=2:=⟨_,rfl,(De.join I (by decide) (by decide) (by decide)).mono (by decide) (by decide) (by decide),by simp [Dl.dep,de]⟩
  have P3:∃ d':Dl,(Dl.joined (.skew 8 1 3 1 1) (.rests 2 16 5 7)).t=d'.t/\Dr d' 16 16 32/\d'.dep<=2:=⟨_,rfl,qpe.mono (by decide) (by decide) (by decide),by simp [Dl.dep]⟩
  have P4:∃ d':Dl,(Dl.joined (.rests 1 8 3 4) (.skew 16 2 5 2 1)).t=d'.t/\Dr d' 16 16 32/\d'.dep<=2:=⟨_,rfl,qpi.mono (by decide) (by decide) (by decide),by simp [Dl.dep]⟩
  obtain ⟨t,ht,d',rfl,D',dl⟩:=qmn k1 k2 (P:=λt=>∃ d':Dl,t=d'.t/\Dr d' 16 16 32/\d'.dep<=2) P1 P2 P3 P4;have hg:zl G5 p=some [(Dl.joined (.joined (.skew (1+x) 1 2 1 1) (.table 2 [[1,0]])) d).t,(Dl.joined e (.joined (.skew (1+x) 1 2 1 1) (.table 2 [[1,0]]))).t,(Dl.joined (.skew 8 1 3 1 1) (.rests 2 16 5 7)).t,(Dl.joined (.rests 1 8 3 4) (.skew 16 2 5 2 1)).t]:=by
   unfold zl;rw [g5];rfl
  rw [L3.ixR,hg];simp only [ht];exact h d' G5 D' dl (L5.mono (by omega)) EE
 ·simp only [zf,tb3,o3,v3,c3,zm,zc,getElem?_cons_zero,getElem?_cons_succ,k4,decide_false,Bool.false_eq_true,if_false,qz];rw [q6];simp only [qK,qI,qb,c3,cb3,v3,length_cons,length_nil,Nat.zero_add,Nat.reduceAdd,Nat.zero_lt_succ,getElem?_pos,getElem_cons_zero,qg,sizeLine_eq,Nat.reduceLeDiff,true_and];refine ⟨a,n+1,rfl,L1,by omega,λd G3 Dd dd L3' E3=>?_⟩;refine ⟨a,n+1+300,rfl,L3',by omega,λe G4 De de L4 E4=>?_⟩
  try simp
  exact h (.joined d e) G4 ((Dd.join De (by decide) (by decide) (by decide)).mono (by decide) (by decide) (by decide)) (by simp [Dl.dep];omega) (L4.mono (by omega)) (E1.trans (E3.trans E4))
def _root_.L3.Dps.append {G:Gp}:∀ {xs ys:List T} {ds es:List PyData},Dps G xs ds->Dps G ys es->Dps G (xs++ys) (ds++es)
 |_,_,_,_,.nil,b=>b
 |_,_,_,_,.cons a t,b=>.cons a (L3.Dps.append t b)
def _root_.L3.Dps.take {G:Gp}:∀ {xs:List T} {ds:List PyData} (i:Nat),Dps G xs ds->Dps G (xs.take i) (ds.take i)
 |_,_,0,_=>.nil
 |_,_,_+1,.nil=>.nil
 |_,_,i+1,.cons a t=>.cons a (L3.Dps.take i t)
def _root_.L3.Dps.drop {G:Gp}:∀ {xs:List T} {ds:List PyData} (i:Nat),Dps G xs ds->Dps G (xs.drop i) (ds.drop i)
 |_,_,0,h=>h
 |_,_,_+1,.nil=>.nil
 |_,_,i+1,.cons a t=>L3.Dps.drop i t
def pT (p:Int×Int):T:=.tup [.int p.1,.int p.2]
def al (cs:List (Int×Int)):List Int:=cs.map (·.2)
end Bk
namespace Pu
open PySem L2 L3
def cif {α:Type} (P:Prop) (a b:α):α:=@ite α P (Classical.propDecidable P) a b
def JE {α:Type} {P:Prop} {a b:α} (h:P):cif P a b=a:=@if_pos P (Classical.propDecidable P) h α a b
def qaV {α:Type} {P:Prop} {a b:α} (h:¬ P):cif P a b=b:=@if_neg P (Classical.propDecidable P) h α a b
structure Tru (b:Bool):Prop where
 h:b=true
mutual
inductive Dq (G:Gp):T->PyData->Prop
 |non:Dq G .non .none
 |bl (b:Bool):Dq G (.bl b) (.bool b)
 |int (i:Int):Dq G (.int i) (.int i)
 |str (x:Str):Dq G (.str x) (.str x)
 |tup {xs:List T} {ds:List PyData}:Dqs G xs ds->Dq G (.tup xs) (.tuple ds)
 |lst {p:Addr} {xs:List T} {ds:List PyData}:G p=some (.lst xs)->Dqs G xs ds->Dq G (.ref p) (.list ds)
inductive Dqs (G:Gp):List T->List PyData->Prop
 |nil:Dqs G [] []
 |cons {x:T} {d:PyData} {xs:List T} {ds:List PyData}:Dq G x d->Dqs G xs ds->Dqs G (x::xs) (d::ds)
end
mutual
def Dq.up {G G':Gp} (e:Ex G G'):∀ {x:T} {d:PyData},Dq G x d->Dq G' x d
 |_,_,.non=>.non
 |_,_,.bl b=>.bl b
 |_,_,.int i=>.int i
 |_,_,.str x=>.str x
 |_,_,.tup h=>.tup (Dqs.up e h)
 |_,_,.lst h1 h2=>.lst (e _ _ h1) (Dqs.up e h2)
def Dqs.up {G G':Gp} (e:Ex G G'):∀ {x:List T} {d:List PyData},Dqs G x d->Dqs G' x d
 |_,_,.nil=>.nil
 |_,_,.cons a b=>.cons (Dq.up e a) (Dqs.up e b)
end
def QM {G:Gp} {p:Addr} {xs:List T} (h:G p=some (.lst xs)):zl G p=some xs:=by unfold zl;rw [h]
mutual
def Dq.dp {G:Gp}:∀ {x:T} {d:PyData},Dq G x d->Dp G x d
 |_,_,.non=>.non
 |_,_,.bl b=>.bl b
 |_,_,.int i=>.int i
 |_,_,.str x=>.str x
 |_,_,.tup h=>.tup (Dqs.dp h)
 |_,_,.lst h1 h2=>.lst (QM h1) (Dqs.dp h2)
def Dqs.dp {G:Gp}:∀ {x:List T} {d:List PyData},Dqs G x d->Dps G x d
 |_,_,.nil=>.nil
 |_,_,.cons a b=>.cons (Dq.dp a) (Dqs.dp b)
end
def Dqs.length {G:Gp}:∀ {xs:List T} {ds:List PyData},Dqs G xs ds->xs.length=ds.length
 |_,_,.nil=>rfl
 |_,_,.cons _ b=>by simp [Dqs.length b]
def Dqs.get {G:Gp}:∀ {xs:List T} {ds:List PyData} {i:Nat} {d:PyData},Dqs G xs ds->ds[i]?=some d->∃ x,xs[i]?=some x/\Dq G x d
 |_,_,_,_,.nil,e=>by simp at e
 |_,_,0,_,.cons r _,e=>by simp at e;subst e;exact ⟨_,rfl,r⟩
 |_,_,i+1,d,.cons _ t,e=>by
  obtain ⟨u,h1,h2⟩:=Dqs.get (i:=i) (d:=d) t (by simpa using e);exact ⟨u,by simpa using h1,h2⟩
def Dqs.append {G:Gp}:∀ {xs:List T} {ds:List PyData} {ys:List T} {es:List PyData},Dqs G xs ds->Dqs G ys es->Dqs G (xs++ys) (ds++es)
 |_,_,_,_,.nil,h=>h
 |_,_,_,_,.cons a b,h=>.cons a (Dqs.append b h)
def Dqs.drop {G:Gp}:∀ {xs:List T} {ds:List PyData} (n:Nat),Dqs G xs ds->Dqs G (xs.drop n) (ds.drop n)
 |_,_,0,h=>h
 |_,_,_+1,.nil=>.nil
 |_,_,n+1,.cons _ b=>Dqs.drop n b
def Dqs.take {G:Gp}:∀ {xs:List T} {ds:List PyData} (n:Nat),Dqs G xs ds->Dqs G (xs.take n) (ds.take n)
 |_,_,0,h=>by simp;exact .nil
 |_,_,_+1,.nil=>.nil
 |_,_,n+1,.cons a b=>.cons a (Dqs.take n b)
def Dqs.ints {G:Gp}:∀ {ns:List Int} {xs:List T},Dqs G xs (ns.map PyData.int)->xs=ns.map T.int
 |[],_,.nil=>rfl
 |n::ns,_,.cons a b=>by cases a;rw [Dqs.ints b];rfl
def Dqs.ofInts {G:Gp}:∀ (ns:List Int),Dqs G (ns.map T.int) (ns.map PyData.int)
 |[]=>.nil
 |n::r=>.cons (.int n) (Dqs.ofInts r)
def rs (D:Addr->Prop) (G:Gp):Gp:=λb=>cif (D b) none (G b)
def za {D:Addr->Prop} {G:Gp} {b:Addr} {o:O} (h:rs D G b=some o):¬ D b/\G b=some o:=by
 unfold rs cif at h;split at h
 ·cases h
 ·rename_i n;exact ⟨n,h⟩
def QR {D:Addr->Prop} {G:Gp} {b:Addr} (n:¬ D b):rs D G b=G b:=by unfold rs;exact qaV n
def D6 {D:Addr->Prop} {G:Gp}:Ex (rs D G) G:=λb o h=>(za h).2
def jw {D:Addr->Prop} {G G':Gp} (e:Ex G G'):Ex (rs D G) (rs D G'):=λb o h=>by
 obtain ⟨n,h⟩:=za h;rw [QR n];exact e _ _ h
def jt {D D':Addr->Prop} {G:Gp} (h:∀ b,D' b->D b):Ex (rs D G) (rs D' G):=λb o e=>by
 obtain ⟨n,e⟩:=za e;rw [QR λz=>n (h b z)];exact e
def Dom (D:Addr->Prop) (G:Gp):Prop:=∀ b,D b->G b≠none
def Dom.up {D:Addr->Prop} {G G':Gp} (h:Dom D G) (e:Ex G G'):Dom D G':=λb d z=>by
 cases g:G b with
 |none=>exact h b d g
 |some o=>rw [e _ _ g] at z;cases z
def qjC {D:Addr->Prop} {G:Gp} {p:Addr} {o:O} (hd:Dom D G) (hp:G p=none):rs D (gu G p o) p=some o:=by
 rw [QR λz=>hd p z hp,qp]
inductive Sl where
 |un|sh (d:PyData)|ow (ds:List PyData)|dc (kvs:List (Int×PyData))
abbrev Rho:=List Sl
def Sl.d:Sl->Option PyData
 |.un=>none|.sh d=>some d|.ow ds=>some (.list ds)|.dc _=>none
def vw (ρ:Rho) (i:Nat):Option PyData:=(ρ[i]?).bind Sl.d
def XY (fv:List Nat) (D:Addr->Prop) (G:Gp) (τ:St3) (ρ:Rho):Prop:=∀ i∈fv,∀ d,vw ρ i=some d->∃ t,τ[i]?=some (some t)/\Dq (rs D G) t d
def XY.up {fv:List Nat} {D:Addr->Prop} {G G':Gp} {τ:St3} {ρ:Rho} (h:XY fv D G τ ρ) (e:Ex G G'):XY fv D G' τ ρ:=λi hi d hd=>
 let ⟨t,a,b⟩:=h i hi d hd;⟨t,a,b.up (jw e)⟩
def XY.l {fv gv:List Nat} {D:Addr->Prop} {G:Gp} {τ:St3} {ρ:Rho} (h:XY (fv++gv) D G τ ρ):XY fv D G τ ρ:=λi hi=>h i (by simp [hi])
def XY.r {fv gv:List Nat} {D:Addr->Prop} {G:Gp} {τ:St3} {ρ:Rho} (h:XY (fv++gv) D G τ ρ):XY gv D G τ ρ:=λi hi=>h i (by simp [hi])
def MW:PyData->Bool
 |.none=>true|.bool _=>true|.int _=>true|.str _=>true|_=>false
def Nw (D:Addr->Prop) (G G':Gp) (x:T) (d:PyData):Prop:=MW d=true\/∃ p xs ds,x=.ref p/\d=.list ds/\G p=none/\G' p=some (.lst xs)/\Dqs (rs (λb=>D b\/b=p) G') xs ds
def Nw.back {D:Addr->Prop} {G0 G G':Gp} {x:T} {d:PyData} (h:Nw D G G' x d) (e:Ex G0 G):Nw D G0 G' x d:=by
 rcases h with h|⟨p,xs,ds,a,b,c,r⟩
 ·exact .inl h
 refine .inr ⟨p,xs,ds,a,b,?_,r⟩;cases z:G0 p with
 |none=>rfl
 |some o=>rw [e _ _ z] at c;cases c
structure PuE (t:TE3) where
 f:Rho->Option PyData
 fv:List Nat
 nw:Bool
 ok:∀ {D τ ρ G} {q:Q3} {d},XY fv D G τ ρ->Dom D G->f ρ=some d->(∀ x G',Ex G G'->Dq (rs D G') x d->(nw=true->Nw D G G' x d)->q x G')->t τ G q
structure PuC (t:TT3) where
 f:Rho->Option Bool
 fv:List Nat
 ok:∀ {D τ ρ G} {q:Bool->Gp->Prop} {k},XY fv D G τ ρ->Dom D G->f ρ=some k->(∀ G',Ex G G'->q k G')->t τ G q
structure PuA (t:TA3) where
 f:Rho->Option (List PyData)
 fv:List Nat
 n:Nat
 ln:∀ {ρ d},f ρ=some d->d.length=n
 ok:∀ {D τ ρ G} {q:List T->Gp->Prop} {d},XY fv D G τ ρ->Dom D G->f ρ=some d->(∀ x G',Ex G G'->Dqs (rs D G') x d->q x G')->t τ G q
structure PuO (t:TO3) where
 f:Rho->Option (Option Int)
 fv:List Nat
 ok:∀ {D τ ρ G} {q:Option Int->Gp->Prop} {k},XY fv D G τ ρ->Dom D G->f ρ=some k->(∀ G',Ex G G'->q k G')->t τ G q
structure PuI (t:TI3) where
 f:Rho->Option (List PyData)
 fv:List Nat
 /-- numbers alone -/
 nm:Bool
 ok:∀ {D τ ρ G} {r:List T->(Gp->Prop)->Gp->Prop} {ds},XY fv D G τ ρ->Dom D G->f ρ=some ds ->
  (∀ items stay G',Ex G G'->Dqs (rs D G') items ds->(∀ G'',(nm=true\/Ex (rs D G') G'')->stay G'')->(nm=true->∃ ns:List Int,ds=ns.map PyData.int)->r items stay G')->t τ G r
structure OpD (r:R3) where
 f:PyData->PyData->Option PyData
 nw:Bool
 ok:∀ {D G x y d e v} {q:Q3},Dq (rs D G) x d->Dq (rs D G) y e->Dom D G->f d e=some v->(∀ z G',Ex G G'->Dq (rs D G') z v->(nw=true->Nw D G G' z v)->q z G')->r x y G q
structure FnD (r:List T->Gp->Q3->Prop) where
 f:List PyData->Option PyData
 nw:Bool
 ok:∀ {D G xs ds v} {q:Q3},Dqs (rs D G) xs ds->Dom D G->f ds=some v->(∀ z G',Ex G G'->Dq (rs D G') z v->(nw=true->Nw D G G' z v)->q z G')->r xs G q
def bV (i:Nat):PuE (v3 i):=⟨λρ=>vw ρ i,[i],false,λhv hd hf k=>by
 obtain ⟨t,e,h⟩:=hv i (by simp) _ hf;unfold v3;rw [e];exact k t _ Ex.refl h (λz=>by cases z)⟩
def J2 (i:Int):PuE (c3 (.int i)):=⟨λ_=>some (.int i),[],false,λhv hd hf k=>by cases hf;exact k _ _ Ex.refl (.int i) (λz=>by cases z)⟩
def bBl (i:Bool):PuE (c3 (.bl i)):=⟨λ_=>some (.bool i),[],false,λhv hd hf k=>by cases hf;exact k _ _ Ex.refl (.bl i) (λz=>by cases z)⟩
def qbN (i:Str):PuE (c3 (.str i)):=⟨λ_=>some (.str i),[],false,λhv hd hf k=>by cases hf;exact k _ _ Ex.refl (.str i) (λz=>by cases z)⟩
def qnq:PuE (c3 .non):=⟨λ_=>some .none,[],false,λhv hd hf k=>by cases hf;exact k _ _ Ex.refl .non (λz=>by cases z)⟩
def bO {r:R3} {ta tb:TE3} (R:OpD r) (a:PuE ta) (b:PuE tb):PuE (o3 r ta tb):=
 ⟨λρ=>(a.f ρ).bind λx=>(b.f ρ).bind λy=>R.f x y,a.fv++b.fv,R.nw,λhv hd hf k=>by
  obtain ⟨x,e1,hf⟩:=obb hf;obtain ⟨y,e2,hf⟩:=obb hf;exact a.ok hv.l hd e1 λx' G1 E1 D1 _=>b.ok (hv.r.up E1) (hd.up E1) e2 λy' G2 E2 D2 _=>R.ok (D1.up (jw E2)) D2 ((hd.up E1).up E2) hf λz G3 E3 D3 N3=>k z G3 ((E1.trans E2).trans E3) D3 λh=>(N3 h).back (E1.trans E2)⟩
def zR:PuA qg:=⟨λ_=>some [],[],0,(λh=>by cases h;rfl),λhv hd hf k=>by cases hf;exact k _ _ Ex.refl .nil⟩
def qk {ta:TE3} {tr:TA3} (a:PuE ta) (r:PuA tr):PuA (qb ta tr):=
 ⟨λρ=>(a.f ρ).bind λx=>(r.f ρ).bind λxs=>some (x::xs),a.fv++r.fv,r.n+1,(λhf=>by
  obtain ⟨x,e1,hf⟩:=obb hf;obtain ⟨xs,e2,hf⟩:=obb hf;cases hf;simp [r.ln e2]),λhv hd hf k=>by
  obtain ⟨x,e1,hf⟩:=obb hf;obtain ⟨xs,e2,hf⟩:=obb hf;cases hf;exact a.ok hv.l hd e1 λx' G1 E1 D1 _=>r.ok (hv.r.up E1) (hd.up E1) e2 λy' G2 E2 D2=>k _ G2 (E1.trans E2) (.cons (D1.up (jw E2)) D2)⟩
def few {n:Nat} (h:Tru (Nat.ble n 1000)):n<=sizeLine:=Nat.le_trans (Nat.le_of_ble_eq_true h.h) (by rw [sizeLine_eq];omega)
def U3 {t:TA3} (a:PuA t) (hn:Tru (Nat.ble a.n 1000)):PuE (qI t):=⟨λρ=>(a.f ρ).map .tuple,a.fv,false,λhv hd hf k=>by
 obtain ⟨xs,e1,rfl⟩:=Option.map_eq_some_iff.mp hf;exact a.ok hv hd e1 λx G1 E1 D1=>⟨by rw [D1.length,a.ln e1];exact few hn,k _ _ E1 (.tup D1) (λz=>by cases z)⟩⟩
def N7 {D:Addr->Prop} {G:Gp} {p:Addr} {xs:List T} {ds:List PyData} (hp:G p=none) (h:Dqs (rs D G) xs ds):Nw D G (gu G p (.lst xs)) (.ref p) (.list ds):=
 .inr ⟨p,xs,ds,rfl,rfl,hp,qp,h.up λb o e=>by
  obtain ⟨n,e⟩:=za e;have:b≠p:=by rintro rfl;rw [hp] at e;cases e
  rw [QR (by rintro (z|z);exact n z;exact this z),zu this];exact e⟩
def SB {D:Addr->Prop} {G:Gp} {p:Addr} {xs:List T} {ds:List PyData} (hd:Dom D G) (hp:G p=none) (h:Dqs (rs D G) xs ds):Dq (rs D (gu G p (.lst xs))) (.ref p) (.list ds):=
 .lst (qjC hd hp) (h.up (jw (j6 hp)))
def qdr {t:TA3} (a:PuA t) (hn:Tru (Nat.ble a.n 1000)):PuE (zO t):=⟨λρ=>(a.f ρ).map .list,a.fv,true,λhv hd hf k=>by
 obtain ⟨xs,e1,rfl⟩:=Option.map_eq_some_iff.mp hf;exact a.ok hv hd e1 λx G1 E1 D1=>⟨by rw [D1.length,a.ln e1];exact few hn,λp hp=>k _ _ (E1.trans (j6 hp)) (SB (hd.up E1) hp D1) λ_=>(N7 hp D1).back E1⟩⟩
def jR {r:List T->Gp->Q3->Prop} {t:TA3} (R:FnD r) (a:PuA t):PuE (cb3 r t):=
 ⟨λρ=>(a.f ρ).bind R.f,a.fv,R.nw,λhv hd hf k=>by
  obtain ⟨x,e1,hf⟩:=obb hf;exact a.ok hv hd e1 λx' G1 E1 D1=>R.ok D1 (hd.up E1) hf λz G3 E3 D3 N3=>k z G3 (E1.trans E3) D3 λh=>(N3 h).back E1⟩
def asB:PyData->Option Bool
 |.bool b=>some b
 |_=>none
def asI:PyData->Option Int
 |.int b=>some b
 |_=>none
def KP {d:PyData} {b:Bool} (h:asB d=some b):d=.bool b:=by cases d<;>simp [asB] at h;subst h;rfl
def LL {d:PyData} {b:Int} (h:asI d=some b):d=.int b:=by cases d<;>simp [asI] at h;subst h;rfl
def bTb {t:TE3} (a:PuE t):PuC (tb3 t):=⟨λρ=>(a.f ρ).bind asB,a.fv,λhv hd hf k=>by
 obtain ⟨x,e1,hf⟩:=obb hf;have:=KP hf;subst this;exact a.ok hv hd e1 λx' G1 E1 D1 _=>by cases D1;exact k G1 E1⟩
def bOr {t u:TT3} (a:PuC t) (b:PuC u):PuC (or3 t u):=⟨λρ=>(a.f ρ).bind λk=>if k then some true else b.f ρ,a.fv++b.fv,λhv hd hf k=>by
 obtain ⟨x,e1,hf⟩:=obb hf;refine a.ok hv.l hd e1 λG1 E1=>?_;cases x with
 |false=>exact b.ok (hv.r.up E1) (hd.up E1) hf λG2 E2=>k G2 (E1.trans E2)
 |true=>cases hf;exact k G1 E1⟩
def qmm {t:TT3} (a:PuC t):PuC (VQ t):=⟨λρ=>(a.f ρ).map (! ·),a.fv,λhv hd hf k=>by
 obtain ⟨x,e1,hf⟩:=Option.map_eq_some_iff.mp hf;subst hf;exact a.ok hv hd e1 λG1 E1=>k G1 E1⟩
def bTt:PuC tt3:=⟨λ_=>some true,[],λhv hd hf k=>by cases hf;exact k _ Ex.refl⟩
def SU {ta tb:TE3} (a:PuE ta) (b:PuE tb):PuE (jp ta tb):=⟨λρ=>((a.f ρ).bind asB).bind λk=>if k then b.f ρ else some (.bool false),a.fv++b.fv,false,λhv hd hf k=>by
 obtain ⟨x,e1,hf⟩:=obb hf;obtain ⟨y,e1,e2⟩:=obb e1;have:=KP e2;subst this;refine a.ok hv.l hd e1 λx' G1 E1 D1 _=>?_;cases D1;cases x with
 |true=>exact b.ok (hv.r.up E1) (hd.up E1) hf λz G2 E2 D2 _=>k z G2 (E1.trans E2) D2 (λz=>by cases z)
 |false=>cases hf;exact k _ G1 E1 (.bl false) (λz=>by cases z)⟩
def qlk {ta:TE3} (a:PuE ta):PuE (jZ ta):=⟨λρ=>((a.f ρ).bind asB).map λk=>.bool (!k),a.fv,false,λhv hd hf k=>by
 obtain ⟨x,e1,hf⟩:=Option.map_eq_some_iff.mp hf;obtain ⟨y,e1,e2⟩:=obb e1;have:=KP e2;subst this;subst hf;refine a.ok hv hd e1 λx' G1 E1 D1 _=>?_;cases D1;exact k _ G1 E1 (.bl _) (λz=>by cases z)⟩
def qiN {ta:TE3} (a:PuE ta):PuE (u3 ZW ta):=⟨λρ=>((a.f ρ).bind asI).map λi=>.int (-i),a.fv,false,λhv hd hf k=>by
 obtain ⟨x,e1,hf⟩:=Option.map_eq_some_iff.mp hf;obtain ⟨y,e1,e2⟩:=obb e1;have:=LL e2;subst this;subst hf;refine a.ok hv hd e1 λx' G1 E1 D1 _=>?_;cases D1;exact k _ G1 E1 (.int _) (λz=>by cases z)⟩
def bCh {r r':R3} {ta tb tc:TE3} (R:OpD r) (R':OpD r') (a:PuE ta) (b:PuE tb) (c:PuE tc):PuE (ch3 r r' ta tb tc):=
 ⟨λρ=>(a.f ρ).bind λx=>(b.f ρ).bind λy=>((R.f x y).bind asB).bind λk=>if k then (c.f ρ).bind λz=>R'.f y z else some (.bool false),a.fv++(b.fv++c.fv),false,λ{D τ ρ G q d} hv hd hf k=>by
  obtain ⟨x,e1,hf⟩:=obb hf;obtain ⟨y,e2,hf⟩:=obb hf;obtain ⟨j,e3,hf⟩:=obb hf;obtain ⟨v,e3,e4⟩:=obb e3;have:=KP e4;subst this;refine a.ok hv.l hd e1 λx' G1 E1 D1 _=>b.ok (hv.r.l.up E1) (hd.up E1) e2 λy' G2 E2 D2 _=>R.ok (D1.up (jw E2)) D2 ((hd.up E1).up E2) e3 λz G3 E3 D3 _=>?_;cases D3;have E:=(E1.trans E2).trans E3;cases j with
  |true=>
   obtain ⟨w,e5,hf⟩:=obb hf;exact c.ok (hv.r.r.up E) (hd.up E) e5 λw' G4 E4 D4 _=>R'.ok ((D2.up (jw E3)).up (jw E4)) D4 ((hd.up E).up E4) hf λu G5 E5 D5 _=>k u G5 ((E.trans E4).trans E5) D5 (λz=>by cases z)
  |false=>cases hf;exact k _ G3 E (.bl false) (λz=>by cases z)⟩
def tyD:PyData->Option String
 |.none=>some "NoneType" |.bool _=>some "bool" |.int _=>some "int" |.str _=>some "str" |.tuple _=>some "tuple" |.list _=>some "list" |.dict _=>none
def ql2 {ta:TE3} (g:String->Bool) (a:PuE ta):PuE (V9 g ta):=⟨λρ=>(a.f ρ).bind λd=>(tyD d).map λt=>.bool (g t),a.fv,false,λhv hd hf k=>by
 obtain ⟨x,e1,hf⟩:=obb hf;obtain ⟨y,e2,hf⟩:=Option.map_eq_some_iff.mp hf;subst hf;refine a.ok hv hd e1 λx' G1 E1 D1 _=>?_;have:tyT G1 x'=some y:=by
  cases D1 with
  |lst h _=>have g:=QM (za h).2;simp [tyT,g];simpa [tyD] using e2
  |_=>simpa [tyT,tyD] using e2
 simp only [this];exact k _ G1 E1 (.bl _) (λz=>by cases z)⟩
def bNp:PuO np3:=⟨λ_=>some none,[],λhv hd hf k=>by cases hf;exact k _ Ex.refl⟩
def bSp {t:TE3} (a:PuE t):PuO (sp3 t):=⟨λρ=>((a.f ρ).bind asI).map some,a.fv,λhv hd hf k=>by
 obtain ⟨x,e1,hf⟩:=Option.map_eq_some_iff.mp hf;obtain ⟨y,e1,e2⟩:=obb e1;have:=LL e2;subst this;subst hf;refine a.ok hv hd e1 λx' G1 E1 D1 _=>?_;cases D1;exact k G1 E1⟩
def Dqs.cut {G:Gp} {xs:List T} {ds:List PyData} (h:Dqs G xs ds) (lo hi:Option Int):Dqs G (YW xs lo hi) (YW ds lo hi):=by
 unfold YW;rw [h.length];exact (h.drop _).take _
def slD (d:PyData) (lo hi:Option Int):Option PyData:=match d with
 |.tuple xs=>cif (HT.sIx xs.length 0 lo=0/\HT.sIx xs.length xs.length hi=xs.length) none (some (.tuple (YW xs lo hi)))
 |.list xs=>some (.list (YW xs lo hi))
 |_=>none
def bSl {te:TE3} {tl th:TO3} (a:PuE te) (l:PuO tl) (h:PuO th):PuE (V0 te tl th):=⟨λρ=>(a.f ρ).bind λd=>(l.f ρ).bind λlo=>(h.f ρ).bind λhi=>slD d lo hi,a.fv++(l.fv++h.fv),false,λhv hd hf k=>by
 obtain ⟨d,e1,hf⟩:=obb hf;obtain ⟨lo,e2,hf⟩:=obb hf;obtain ⟨hi,e3,hf⟩:=obb hf;refine a.ok hv.l hd e1 λx' G1 E1 D1 _=>l.ok (hv.r.l.up E1) (hd.up E1) e2 λG2 E2=>h.ok (hv.r.r.up (E1.trans E2)) (hd.up (E1.trans E2)) e3 λG3 E3=>?_;have E:=(E1.trans E2).trans E3;have D3:=(D1.up (jw E2)).up (jw E3);unfold slD at hf;cases D3 with
 |tup hs=>
  simp only [cif] at hf;split at hf
  ·cases hf
  ·rename_i n;cases hf;exact ⟨by rw [hs.length];exact n,k _ _ E (.tup (hs.cut _ _)) (λz=>by cases z)⟩
 |lst g hs=>
  simp only at hf;cases hf;simp only [sl3,QM (za g).2];intro p hp;exact k _ _ (E.trans (j6 hp)) (SB (hd.up E) hp (hs.cut _ _)) (λz=>by cases z)
 |_=>simp at hf⟩
def opI (g:Int->Int->Int):OpD (iI g):=⟨λd e=>match d,e with|.int i,.int j=>some (.int (g i j))|_,_=>none,false,λ{D G x y d e v q} hx hy hd hf k=>by
 cases hx<;>try (simp at hf;done)
 cases hy<;>try (simp at hf;done)
 cases hf;exact k _ _ Ex.refl (.int _) (λz=>by cases z)⟩
def cI (C:Int->Int->Prop) (g:Int->Int->Int) (d e:PyData):Option PyData:=match d,e with|.int i,.int j=>cif (C i j) (some (.int (g i j))) none|_,_=>none
def opC (C:Int->Int->Prop) (g:Int->Int->Int):OpD (iC C g):=⟨cI C g,false,λ{D G x y d e v q} hx hy hd hf k=>by
 unfold cI at hf;cases hx<;>try (simp at hf;done)
 cases hy<;>try (simp at hf;done)
 simp only [cif] at hf;split at hf
 ·rename_i c;cases hf;exact ⟨c,k _ _ Ex.refl (.int _) (λz=>by cases z)⟩
 ·cases hf⟩
def opB (g:Int->Int->Bool):OpD (iB g):=⟨λd e=>match d,e with|.int i,.int j=>some (.bool (g i j))|_,_=>none,false,λ{D G x y d e v q} hx hy hd hf k=>by
 cases hx<;>try (simp at hf;done)
 cases hy<;>try (simp at hf;done)
 cases hf;exact k _ _ Ex.refl (.bl _) (λz=>by cases z)⟩
def qfP:PyData->PyData->Option Bool
 |.none,.none=>some true|.none,.int _=>some false|.int _,.none=>some false|.none,.bool _=>some false|.bool _,.none=>some false|.none,.str _=>some false|.str _,.none=>some false
 |.int i,.int j=>some (decide (i=j))|.bool i,.bool j=>some (decide (i=j))|.str i,.str j=>some (decide (i=j))
 |.int _,.str _=>some false|.str _,.int _=>some false|.bool _,.str _=>some false|.str _,.bool _=>some false
 |_,_=>none
def NA {G:Gp} {x y:T} {d e:PyData} (hx:Dq G x d) (hy:Dq G y e):zc x y=qfP d e:=by
 cases hx<;>cases hy<;>rfl
def eqD (neg:Bool) (d e:PyData):Option PyData:=match qfP d e with
 |some k=>some (.bool (if neg then !k else k))
 |none=>cif (dpt d<=40/\dpt d≠0) ((jB d e).map λb=>.bool (if neg then !b else b)) none
def qfd (neg:Bool):OpD (zm neg):=⟨eqD neg,false,λ{D G x y d e v q} hx hy hd hf k=>by
 unfold zm;rw [NA hx hy];unfold eqD at hf;cases h:qfP d e with
 |some b=>rw [h] at hf;cases hf;exact k _ _ Ex.refl (.bl _) (λz=>by cases z)
 |none=>
  rw [h] at hf;simp only [cif] at hf ⊢;split at hf
  ·rename_i c;obtain ⟨b,e1,rfl⟩:=Option.map_eq_some_iff.mp hf;exact ⟨d,e,b,(hx.up D6).dp,(hy.up D6).dp,e1,c.1,c.2,k _ _ Ex.refl (.bl _) (λz=>by cases z)⟩
  ·cases hf⟩
def ixD (d e:PyData):Option PyData:=match d,e with
 |.tuple xs,.int i=>atI xs i
 |.list xs,.int i=>atI xs i
 |_,_=>none
def Dqs.atI {G:Gp} {xs:List T} {ds:List PyData} {i:Int} {d:PyData} (h:Dqs G xs ds) (e:L2.atI ds i=some d):∃ x,L2.atI xs i=some x/\Dq G x d:=by
 unfold L2.atI at e ⊢;rw [h.length];obtain ⟨j,e1,e2⟩:=obb e;obtain ⟨x,hx,r⟩:=h.get e2;exact ⟨x,by rw [e1];exact hx,r⟩
def qdk:OpD ix3:=⟨ixD,false,λ{D G x y d e v q} hx hy hd hf k=>by
 unfold ixD at hf;cases hx with
 |tup hs=>
  cases hy<;>try (simp at hf;done)
  obtain ⟨x,e1,r⟩:=hs.atI hf;simp only [ix3,e1];exact k _ _ Ex.refl r (λz=>by cases z)
 |lst g hs=>
  cases hy<;>try (simp at hf;done)
  obtain ⟨x,e1,r⟩:=hs.atI hf;simp only [ix3,QM (za g).2,e1];exact k _ _ Ex.refl r (λz=>by cases z)
 |_=>simp at hf⟩
def qmp (d e:PyData):Option PyData:=match d,e with
 |.tuple xs,.tuple ys=>cif (xs≠[]/\xs.length+ys.length<=sizeLine) (some (.tuple (xs++ys))) none
 |.list xs,.list ys=>cif (xs.length+ys.length<=sizeLine) (some (.list (xs++ys))) none
 |.int i,.int j=>some (.int (i+j))
 |_,_=>none
def M4:OpD zb:=⟨qmp,false,λ{D G x y d e v q} hx hy hd hf k=>by
  unfold qmp at hf;cases hx with
  | int i => cases hy <;> try (simp at hf;done)
             cases hf;exact k _ _ Ex.refl (.int _) (λz=>by cases z)
  |tup hs=>
    cases hy<;>try (simp at hf;done)
    rename_i hs2;simp only [cif] at hf;split at hf
    · rename_i c;cases hf;refine ⟨?_,by rw [hs.length,hs2.length];exact c.2,k _ _ Ex.refl (.tup (hs.append hs2)) (λz=>by cases z)⟩;rintro rfl;cases hs;exact c.1 rfl
    · cases hf
  |lst g hs=>
    cases hy<;>try (simp at hf;done)
    rename_i g2 hs2;simp only [cif] at hf;split at hf
    · rename_i c;cases hf;simp only [zb,(za g).2,(za g2).2];exact ⟨by rw [hs.length,hs2.length];exact c,λp hp=>k _ _ (j6 hp) (SB hd hp (hs.append hs2)) (λz=>by cases z)⟩
    · cases hf
  |_=>simp at hf⟩
def qgC (d e:PyData):Option PyData:=match d,e with
 |.list xs,.list ys=>cif (xs.length+ys.length<=sizeLine) (some (.list (xs++ys))) none
 |_,_=>none
def LA:OpD zb:=⟨qgC,true,λ{D G x y d e v q} hx hy hd hf k=>by
 unfold qgC at hf;cases hx with
 |lst g hs=>
  cases hy<;>try (simp at hf;done)
  rename_i g2 hs2;simp only [cif] at hf;split at hf
  ·rename_i c;cases hf;simp only [zb,(za g).2,(za g2).2];exact ⟨by rw [hs.length,hs2.length];exact c,λp hp=>k _ _ (j6 hp) (SB hd hp (hs.append hs2)) λ_=>N7 hp (hs.append hs2)⟩
  ·cases hf
 |_=>simp at hf⟩
def qgR:List PyData->Option PyData
 |[.tuple xs]=>some (.int xs.length)
 |[.list xs]=>some (.int xs.length)
 |_=>none
def qoA:FnD ZV:=⟨qgR,false,λ{D G xs ds v q} hx hd hf k=>by
 unfold qgR at hf;split at hf
 ·cases hx with
  |cons a b=>cases b;cases a;rename_i hs;cases hf;simp only [ZV];rw [hs.length];exact k _ _ Ex.refl (.int _) (λz=>by cases z)
 ·cases hx with
  |cons a b=>cases b;cases a;rename_i g hs;cases hf;simp only [ZV,QM (za g).2];rw [hs.length];exact k _ _ Ex.refl (.int _) (λz=>by cases z)
 ·cases hf⟩
def PSp (F:List PyData->Option PyData) (fr:Bool):Sp3:=λts G q=>∃ (D:Addr->Prop) (ds:List PyData) (d:PyData),Dqs (rs D G) ts ds/\Dom D G/\F ds=some d/\∀ x G',Ex G G'->Dq (rs D G') x d->(fr=true->Nw D G G' x d)->q x G'
def JW (F:List PyData->Option PyData) (fr:Bool):FnD (PSp F fr):=⟨F,fr,λ{D G xs ds v q} hx hd hf k=>⟨D,ds,v,hx,hd,hf,k⟩⟩
def qmq:PyData->Option (List PyData)
 |.tuple xs=>some xs
 |.list xs=>some xs
 |_=>none
def qi3 {t:TE3} (a:PuE t):PuI (EO t):=⟨λρ=>(a.f ρ).bind qmq,a.fv,false,λ{D τ ρ G r ds} hv hd hf k=>by
 obtain ⟨d,e1,hf⟩:=obb hf;refine a.ok hv hd e1 λx G1 E1 D1 _=>?_;unfold qmq at hf;cases D1 with
 |tup hs=>cases hf;exact k _ _ _ E1 hs (λ_ _=>trivial) (λz=>by cases z)
 |lst g hs=>
  cases hf;simp only [QM (za g).2];refine k _ _ _ E1 hs (λG2 h=>?_) (λz=>by cases z);rcases h with h|h
  ·cases h
  ·exact QM (h _ _ g)
 |_=>simp at hf⟩
def LJ (lo:Int) (n:Nat):List Int:=(List.range n).map λ(i:Nat)=>lo+(i:Int)
def qdP (lo:Int) (n:Nat):K7 lo n=(LJ lo n).map T.int:=by simp [K7,LJ,map_map,Function.comp_def]
def qhu:List PyData->Option (List PyData)
 |[.int j]=>cif (-(2 ^ 62)<=j/\j<2 ^ 62) (some ((LJ 0 j.toNat).map PyData.int)) none
 |[.int i,.int j]=>cif (-(2 ^ 62)<=i/\i<2 ^ 62/\-(2 ^ 62)<=j/\j<2 ^ 62) (some ((LJ i (j-i).toNat).map PyData.int)) none
 |_=>none
def qmk {t:TA3} (a:PuA t):PuI (j4 t):=⟨λρ=>(a.f ρ).bind qhu,a.fv,true,λ{D τ ρ G r ds} hv hd hf k=>by
 obtain ⟨d,e1,hf⟩:=obb hf;refine a.ok hv hd e1 λx G1 E1 D1=>?_;unfold qhu at hf;split at hf
 ·unfold cif at hf;split at hf
  ·rename_i c;cases hf;cases D1 with
   |cons a b=>cases b;cases a;simp only;rw [qdP];exact ⟨c,k _ _ _ E1 (Dqs.ofInts _) (λ_ _=>trivial) λ_=>⟨_,rfl⟩⟩
  ·cases hf
 ·unfold cif at hf;split at hf
  ·rename_i c;cases hf;cases D1 with
   |cons a b=>cases b with
    |cons b c'=>cases c';cases a;cases b;simp only;rw [qdP];exact ⟨c,k _ _ _ E1 (Dqs.ofInts _) (λ_ _=>trivial) λ_=>⟨_,rfl⟩⟩
  ·cases hf
 ·cases hf⟩
def qm4 (us vs:List PyData):List PyData:=(us.zip vs).map λp=>.tuple [p.1,p.2]
def Dqs.zip {G:Gp}:∀ {xs:List T} {ds:List PyData} {ys:List T} {es:List PyData},Dqs G xs ds->Dqs G ys es->Dqs G (qbe xs ys) (qm4 ds es)
 |_,_,_,_,.nil,_=>by simp [qbe,qm4];exact .nil
 |_,_,_,_,.cons _ _,.nil=>by simp [qbe,qm4];exact .nil
 |_,_,_,_,.cons a b,.cons c d=>.cons (.tup (.cons a (.cons c .nil))) (Dqs.zip b d)
inductive Bd (H:Gp):List (Nat×T)->List (Nat×PyData)->Prop
 |nil:Bd H [] []
 |cons {i:Nat} {x:T} {d:PyData} {ts:List (Nat×T)} {bs:List (Nat×PyData)}:Dq H x d->Bd H ts bs->Bd H ((i,x)::ts) ((i,d)::bs)
def Bd.append {H:Gp}:∀ {ts:List (Nat×T)} {bs:List (Nat×PyData)} {us:List (Nat×T)} {cs:List (Nat×PyData)},Bd H ts bs->Bd H us cs->Bd H (ts++us) (bs++cs)
 |_,_,_,_,.nil,h=>h
 |_,_,_,_,.cons a b,h=>.cons a (Bd.append b h)
def Bd.up {H H':Gp} (e:Ex H H'):∀ {ts:List (Nat×T)} {bs:List (Nat×PyData)},Bd H ts bs->Bd H' ts bs
 |_,_,.nil=>.nil
 |_,_,.cons a b=>.cons (a.up e) (Bd.up e b)
def sets:St3->List (Nat×T)->St3
 |τ,[]=>τ
 |τ,p::r=>sets (τ.set p.1 (some p.2)) r
def J1:Rho->List (Nat×PyData)->Rho
 |ρ,[]=>ρ
 |ρ,p::r=>J1 (ρ.set p.1 (.sh p.2)) r
def K5:∀ (τ:St3) (a b:List (Nat×T)),sets τ (a++b)=sets (sets τ a) b
 |τ,[],b=>rfl
 |τ,p::a,b=>by simp only [cons_append,sets];exact K5 _ a b
structure PuG (g:TG3) where
 f:PyData->Option (List (Nat×PyData))
 tg:List Nat
 at':∀ {d bs},f d=some bs->∀ p∈bs,p.1∈tg
 ok:∀ {H x d bs},Dq H x d->f d=some bs->∃ ts,Bd H ts bs/\∀ τ G (q:St3->Gp->Prop),q (sets τ ts) G->g x τ G q
structure PuGs (g:SO) where
 f:List PyData->Option (List (Nat×PyData))
 tg:List Nat
 at':∀ {d bs},f d=some bs->∀ p∈bs,p.1∈tg
 ok:∀ {H x d bs},Dqs H x d->f d=some bs->∃ ts,Bd H ts bs/\∀ τ G (q:St3->Gp->Prop),q (sets τ ts) G->g x τ G q
def gN (i:Nat):PuG (gn3 i):=⟨λd=>some [(i,d)],[i],λh p hp=>by cases h;simp at hp;subst hp;simp,λhx h=>by cases h;exact ⟨_,.cons hx .nil,λτ G q hq=>hq⟩⟩
def qcj:PuGs qW:=⟨λds=>match ds with|[]=>some []|_=>none,[],(λh p hp=>by split at h;cases h;cases hp;cases h),λhx h=>by
 split at h
 ·cases h;cases hx;exact ⟨[],.nil,λτ G q hq=>hq⟩
 ·cases h⟩
def ZP {t:TG3} {u:SO} (a:PuG t) (b:PuGs u):PuGs (qm t u):=⟨λds=>match ds with|d::r=>(a.f d).bind λx=>(b.f r).map λy=>x++y|[]=>none,a.tg++b.tg,(λh p hp=>by
 split at h
 ·obtain ⟨x,e1,h⟩:=obb h;obtain ⟨y,e2,rfl⟩:=Option.map_eq_some_iff.mp h;rcases List.mem_append.mp hp with z|z
  ·exact List.mem_append.mpr (.inl (a.at' e1 p z))
  ·exact List.mem_append.mpr (.inr (b.at' e2 p z))
 ·cases h),λhx h=>by
 split at h
 ·obtain ⟨x,e1,h⟩:=obb h;obtain ⟨y,e2,rfl⟩:=Option.map_eq_some_iff.mp h;cases hx with
  |cons hx hr=>
   obtain ⟨ts,b1,k1⟩:=a.ok hx e1;obtain ⟨us,b2,k2⟩:=b.ok hr e2;refine ⟨ts++us,b1.append b2,λτ G q hq=>k1 τ G _ (k2 _ G q ?_)⟩;rw [← K5];exact hq
 ·cases h⟩
def qci {u:SO} (n:Nat) (b:PuGs u):PuG (qV n u):=⟨λd=>match d with|.tuple ds=>if ds.length=n then b.f ds else none|_=>none,b.tg,(λh p hp=>by
 split at h
 ·split at h
  ·exact b.at' h p hp
  ·cases h
 ·cases h),λhx h=>by
 split at h
 ·split at h
  ·rename_i c;cases hx with
   |tup hs=>
    obtain ⟨ts,b1,k1⟩:=b.ok hs h;exact ⟨ts,b1,λτ G q hq=>⟨by rw [hs.length];exact c,k1 τ G q hq⟩⟩
  ·cases h
 ·cases h⟩
structure VA (D:Addr->Prop) (G:Gp) (τ:St3) (ρ:Rho):Prop where
 len:ρ.length=τ.length
 vw:∀ i d,vw ρ i=some d->∃ t,τ[i]?=some (some t)/\Dq (rs D G) t d
def VA.view {D:Addr->Prop} {G:Gp} {τ:St3} {ρ:Rho} (h:VA D G τ ρ) (fv:List Nat):XY fv D G τ ρ:=λi _ d e=>h.vw i d e
def VA.upx {D:Addr->Prop} {G G':Gp} {τ:St3} {ρ:Rho} (h:VA D G τ ρ) (e:Ex (rs D G) (rs D G')):VA D G' τ ρ:=⟨h.len,λi d hd=>let ⟨t,a,b⟩:=h.vw i d hd;⟨t,a,b.up e⟩⟩
def VA.up {D:Addr->Prop} {G G':Gp} {τ:St3} {ρ:Rho} (h:VA D G τ ρ) (e:Ex G G'):VA D G' τ ρ:=h.upx (jw e)
def qcL {ρ:Rho} {i j:Nat} {s:Sl}:vw (ρ.set i s) j=if i=j then (if i<ρ.length then s.d else none) else vw ρ j:=by
 unfold vw;rw [getElem?_set];split
 ·subst j;split
  ·rfl
  ·rfl
 ·rfl
def VA.set {D:Addr->Prop} {G:Gp} {τ:St3} {ρ:Rho} (h:VA D G τ ρ) {i:Nat} {x:T} {d:PyData} (hx:Dq (rs D G) x d):VA D G (τ.set i (some x)) (ρ.set i (.sh d)):=by
 refine ⟨by simp [h.len],λj e he=>?_⟩;rw [qcL] at he;split at he
 ·subst j;split at he
  ·rename_i l;cases he;refine ⟨x,?_,hx⟩;rw [getElem?_set,if_pos rfl,if_pos (by rw [← h.len];exact l)]
  ·cases he
 ·rename_i n;obtain ⟨t,a,b⟩:=h.vw j e he;exact ⟨t,by rw [getElem?_set,if_neg n];exact a,b⟩
def VA.sets {D:Addr->Prop} {G:Gp}:∀ {ts:List (Nat×T)} {bs:List (Nat×PyData)} {τ:St3} {ρ:Rho},VA D G τ ρ->Bd (rs D G) ts bs->VA D G (Pu.sets τ ts) (J1 ρ bs)
 |_,_,_,_,h,.nil=>h
 |_,_,_,_,h,.cons a b=>by unfold Pu.sets J1;exact VA.sets (h.set a) b
def VA.keep {D:Addr->Prop} {G:Gp} {ρ:Rho}:∀ {ts:List (Nat×T)} {τ:St3},VA D G τ ρ->(∀ p∈ts,Pu.vw ρ p.1=none)->VA D G (Pu.sets τ ts) ρ
 |[],_,h,_=>h
 |p::r,τ,h,hn=>VA.keep (ts:=r) ⟨by rw [List.length_set];exact h.len,λj d hd=>by
   have:p.1≠j:=by rintro rfl;rw [hn p (by simp)] at hd;cases hd
   obtain ⟨t,a,b⟩:=h.vw j d hd;exact ⟨t,by rw [getElem?_set,if_neg this];exact a,b⟩⟩ λq hq=>hn q (by simp [hq])
def SL (m:List (Option Nat)) (ρ:Rho):Rho:=m.map λo=>match o with|some j=>(match vw ρ j with|some d=>.sh d|none=>.un)|none=>.un
def VA.cap {m:List (Option Nat)} {D:Addr->Prop} {G:Gp} {τ:St3} {ρ:Rho} (h:XY (m.filterMap id) D G τ ρ):VA D G (L3.cap m τ) (SL m ρ):=by
 refine ⟨by simp [SL,L3.cap],λi d hd=>?_⟩;unfold Pu.vw SL at hd;rw [getElem?_map] at hd;cases e:m[i]? with
 |none=>rw [e] at hd;cases hd
 |some o=>
  rw [e] at hd;cases o with
  |none=>cases hd
  |some j=>
   simp only [Option.map_some,Option.bind_some] at hd;cases e2:Pu.vw ρ j with
   |none=>rw [e2] at hd;cases hd
   |some d'=>
    rw [e2] at hd;have hd':d'=d:=by simpa [Sl.d] using hd
    subst hd';obtain ⟨t,a,b⟩:=h j (List.mem_filterMap.mpr ⟨some j,mem_of_getElem? e,rfl⟩) d' e2;refine ⟨t,?_,b⟩;unfold L3.cap;rw [getElem?_map,e];simp [a]
def TW {m:List (Option Nat)} {ρ:Rho} {i:Nat} (h:m[i]?=some none):vw (SL m ρ) i=none:=by
 unfold vw SL;rw [getElem?_map,h];rfl
def lcP (h:PyData->Option (Option PyData)):List PyData->Option (List PyData)
 |[]=>some []
 |d::r=>(h d).bind λo=>(lcP h r).bind λys=>some (match o with|some y=>y::ys|none=>ys)
def lcH (gf:PyData->Option (List (Nat×PyData))) (cf:Rho->Option Bool) (ef:Rho->Option PyData) (ρ:Rho) (d:PyData):Option (Option PyData):=
 (gf d).bind λbs=>(cf (J1 ρ bs)).bind λk=>if k then (ef (J1 ρ bs)).map some else some none
def qaQ {h:PyData->Option (Option PyData)} {α:Type} {g:α->PyData} {k:α->PyData} {xs:List α} (hh:∀ a∈xs,h (g a)=some (some (k a))):lcP h (xs.map g)=some (xs.map k):=by
 induction xs with
 |nil=>rfl
 |cons a r ih=>simp only [map_cons,lcP,hh a (by simp),Option.bind_some,ih λb hb=>hh b (by simp [hb])]
def qcm {H:Gp}:∀ {ts:List (Nat×T)} {bs:List (Nat×PyData)},Bd H ts bs->∀ p∈ts,∃ q∈bs,q.1=p.1
 |_,_,.nil,p,hp=>by cases hp
 |_,_,.cons a b,p,hp=>by
  rcases mem_cons.mp hp with rfl|hp
  ·exact ⟨_,List.mem_cons_self,rfl⟩
  ·obtain ⟨q,hq,e⟩:=qcm b p hp;exact ⟨q,by simp [hq],e⟩
def qfM {stay:Gp->Prop} {g:TG3} {tif:TT3} {te:TE3} {q:Q3} (pg:PuG g) (pc:PuC tif) (pe:PuE te) {D:Addr->Prop} {ρ0:Rho} {G0:Gp} (hs:∀ G,Ex G0 G->stay G) (hm:∀ i∈pg.tg,vw ρ0 i=none) (fin:List PyData) (hfin:fin.length<=sizeLine)
  (k:∀ G ys,Ex G0 G->Dqs (rs D G) ys fin->∀ p,G p=none->q (.ref p) (gu G p (.lst ys))) :
  ∀ (ds:List PyData) (items ys:List T) (es fs:List PyData) (τ:St3) (G:Gp),Dqs (rs D G0) items ds->VA D G τ ρ0->Ex G0 G->Dom D G->Dqs (rs D G) ys es->lcP (lcH pg.f pc.f pe.f ρ0) ds=some fs->es++fs=fin->XV stay g tif te q items ys τ G
 |_,_,ys,es,fs,τ,G,.nil,va,E,hd,hy,hf,hl=>by
  cases hf;rw [List.append_nil] at hl;subst hl;exact ⟨hs G E,k G ys E hy⟩
 |d::ds,x::items,ys,es,fs,τ,G,.cons hx hr,va,E,hd,hy,hf,hl=>by
  unfold lcP at hf;obtain ⟨o,e1,hf⟩:=obb hf;obtain ⟨Z2,e2,hf⟩:=obb hf;unfold lcH at e1;obtain ⟨bs,e3,e1⟩:=obb e1;obtain ⟨c,e4,e1⟩:=obb e1;obtain ⟨ts,bd,kg⟩:=pg.ok (hx.up (jw E)) e3;refine ⟨hs G E,kg τ G _ ?_⟩;have va1:=va.sets bd;have va2:=va.keep (ts:=ts) λp hp=>by
   obtain ⟨q,hq,e⟩:=qcm bd p hp;rw [← e];exact hm _ (pg.at' e3 q hq)
  refine pc.ok (va1.view _) hd e4 λG1 E1=>?_;cases c with
  |true=>
   rw [if_pos rfl];rw [if_pos rfl] at e1;obtain ⟨y,e5,rfl⟩:=Option.map_eq_some_iff.mp e1;simp only [Option.some.injEq] at hf;subst hf;refine pe.ok ((va1.up E1).view _) (hd.up E1) e5 λz G2 E2 D2 _=>⟨?_,?_⟩
   ·rw [hy.length];rw [← hl] at hfin;simp at hfin;omega
   ·refine qfM pg pc pe hs hm fin hfin k ds items (ys++[z]) (es++[y]) Z2 _ G2 hr ((va2.up E1).up E2) (E.trans (E1.trans E2)) ((hd.up E1).up E2) (((hy.up (jw E1)).up (jw E2)).append (.cons D2 .nil)) e2 ?_;rw [← hl];simp
  |false=>
   rw [if_neg Bool.false_ne_true];simp at e1;subst e1;simp only [Option.some.injEq] at hf;subst hf;exact qfM pg pc pe hs hm fin hfin k ds items ys es Z2 _ G1 hr (va2.up E1) (E.trans E1) (hd.up E1) (hy.up (jw E1)) e2 hl
def lcF (pi:Rho->Option (List PyData)) (h:Rho->PyData->Option (Option PyData)) (m:List (Option Nat)) (ρ:Rho):Option PyData:=
 (pi ρ).bind λds=>(lcP (h (SL m ρ)) ds).bind λfs=>cif (fs.length<=sizeLine) (some (.list fs)) none
def bLc {wi:TI3} {g:TG3} {tif:TT3} {te:TE3} (pi:PuI wi) (pg:PuG g) (pc:PuC tif) (pe:PuE te) (m:List (Option Nat)) (hm:Tru (pg.tg.all λi=>m[i]?==some none)):PuE (lc3 wi g tif te m):=
 ⟨lcF pi.f (lcH pg.f pc.f pe.f) m,pi.fv++m.filterMap id,true,λ{D τ ρ G q d} hv hd hf k=>by
  unfold lcF at hf;obtain ⟨ds,e1,hf⟩:=obb hf;obtain ⟨fs,e2,hf⟩:=obb hf;unfold cif at hf;split at hf
  ·rename_i hl;cases hf;refine pi.ok hv.l hd e1 λitems stay G1 E1 D1 hs _=>?_;have va:=(VA.cap (m:=m) hv.r).up E1;refine qfM pg pc pe (D:=D) (ρ0:=SL m ρ) (G0:=G1) (λG2 E2=>hs G2 (.inr (D6.trans E2))) (λi hi=>TW ?_) fs hl (λG2 ys E2 D2 p hp=>?_) ds items [] [] fs _ G1 D1 va Ex.refl (hd.up E1) .nil e2 (by simp)
   ·have:=List.all_eq_true.mp hm.h i hi;simpa using this
   ·exact k _ _ ((E1.trans E2).trans (j6 hp)) (SB ((hd.up E1).up E2) hp D2) λ_=>(N7 hp D2).back (E1.trans E2)
  ·cases hf⟩
def E0 (p:Addr) (G G':Gp):Prop:=∀ b o,b≠p->G b=some o->G' b=some o
def E0.refl {p:Addr} {G:Gp}:E0 p G G:=λ_ _ _ e=>e
def E0.trans {p:Addr} {G G1 G2:Gp} (a:E0 p G G1) (b:E0 p G1 G2):E0 p G G2:=λx o n e=>b x o n (a x o n e)
def E0.of {p:Addr} {G G1:Gp} (a:Ex G G1):E0 p G G1:=λx o _ e=>a x o e
def E0.wr {p:Addr} {G:Gp} {o:O}:E0 p G (gu G p o):=λb ob n e=>by rw [zu n];exact e
def E0.rs {p:Addr} {D:Addr->Prop} {G G1:Gp} (a:E0 p G G1):Ex (rs (λb=>D b\/b=p) G) (rs (λb=>D b\/b=p) G1):=λb o h=>by
 obtain ⟨n,h⟩:=za h;rw [QR n];exact a b o (λz=>n (.inr z)) h
def qke {D:Addr->Prop} {G:Gp} {p:Addr} {o:O} (h:Dom D G):Dom D (gu G p o):=λb d z=>by
 by_cases e:b=p
 ·subst e;rw [qp] at z;cases z
 ·rw [zu e] at z;exact h b d z
def qeR {p:Addr} {stay:Gp->Prop} {g:TG3} {tif:TT3} {te:TE3} {N:St3->Gp->Prop} (pg:PuG g) (pc:PuC tif) (pe:PuE te) {D:Addr->Prop} {ρ0:Rho} {G0:Gp} (hs:∀ G,Ex (rs (λb=>D b\/b=p) G0) G->stay G) (hm:∀ i∈pg.tg,vw ρ0 i=none) (fin:List PyData) (hfin:fin.length<=sizeLine)
  (k:∀ τ G ys,VA (λb=>D b\/b=p) G τ ρ0->E0 p G0 G->Dom (λb=>D b\/b=p) G->G p=some (.lst ys)->Dqs (rs (λb=>D b\/b=p) G) ys fin->N τ G) :
  ∀ (ds:List PyData) (items ys:List T) (es fs:List PyData) (τ:St3) (G:Gp),Dqs (rs (λb=>D b\/b=p) G0) items ds->VA (λb=>D b\/b=p) G τ ρ0->E0 p G0 G->Dom (λb=>D b\/b=p) G->G p=some (.lst ys)->Dqs (rs (λb=>D b\/b=p) G) ys es->lcP (lcH pg.f pc.f pe.f ρ0) ds=some fs->es++fs=fin->qgE p stay g tif te N items τ G
 |_,_,ys,es,fs,τ,G,.nil,va,E,hd,gp,hy,hf,hl=>by
  cases hf;rw [List.append_nil] at hl;subst hl;exact ⟨hs G (E.rs.trans D6),k τ G ys va E hd gp hy⟩
 |d::ds,x::items,ys,es,fs,τ,G,.cons hx hr,va,E,hd,gp,hy,hf,hl=>by
  unfold lcP at hf;obtain ⟨o,e1,hf⟩:=obb hf;obtain ⟨Z2,e2,hf⟩:=obb hf;unfold lcH at e1;obtain ⟨bs,e3,e1⟩:=obb e1;obtain ⟨c,e4,e1⟩:=obb e1;obtain ⟨ts,bd,kg⟩:=pg.ok (hx.up E.rs) e3;refine ⟨hs G (E.rs.trans D6),kg τ G _ ?_⟩;have va1:=va.sets bd;have va2:=va.keep (ts:=ts) λp hp=>by
   obtain ⟨q,hq,e⟩:=qcm bd p hp;rw [← e];exact hm _ (pg.at' e3 q hq)
  refine pc.ok (va1.view _) hd e4 λG1 E1=>?_;cases c with
  |true=>
   rw [if_pos rfl];rw [if_pos rfl] at e1;obtain ⟨y,e5,rfl⟩:=Option.map_eq_some_iff.mp e1;simp only [Option.some.injEq] at hf;subst hf;refine pe.ok ((va1.up E1).view _) (hd.up E1) e5 λz G2 E2 D2 _=>?_;simp only [E2 _ _ (E1 _ _ gp)];have W:E0 p G2 (gu G2 p (.lst (ys++[z]))):=E0.wr;refine ⟨?_,?_⟩
   ·rw [hy.length];rw [← hl] at hfin;simp at hfin;omega
   ·refine qeR pg pc pe hs hm fin hfin k ds items (ys++[z]) (es++[y]) Z2 _ _ hr (((va2.up E1).up E2).upx W.rs) ((E.trans (E0.of (E1.trans E2))).trans W) (qke ((hd.up E1).up E2)) qp ((((hy.up (jw E1)).up (jw E2)).append (.cons D2 .nil)).up W.rs) e2 ?_;rw [← hl];simp
  |false=>
   rw [if_neg Bool.false_ne_true];simp at e1;subst e1;simp only [Option.some.injEq] at hf;subst hf;exact qeR pg pc pe hs hm fin hfin k ds items ys es Z2 _ G1 hr (va2.up E1) (E.trans (E0.of E1)) (hd.up E1) (E1 _ _ gp) (hy.up (jw E1)) e2 hl
def qgu (h:PyData->Option (Option (List PyData))):List PyData->Option (List PyData)
 |[]=>some []
 |d::r=>(h d).bind λo=>(qgu h r).bind λys=>some (match o with|some y=>y++ys|none=>ys)
def qhN (gf:PyData->Option (List (Nat×PyData))) (cf:Rho->Option Bool) (it:Rho->Option (List PyData)) (h:Rho->PyData->Option (Option PyData)) (ρ:Rho) (d:PyData):Option (Option (List PyData)):=
 (gf d).bind λbs=>(cf (J1 ρ bs)).bind λk=>if k then ((it (J1 ρ bs)).bind λds=>lcP (h (J1 ρ bs)) ds).map some else some none
def S4:∀ {bs:List (Nat×PyData)} {ρ:Rho} {i:Nat},(∀ p∈bs,p.1≠i)->vw (J1 ρ bs) i=vw ρ i
 |[],_,_,_=>rfl
 |p::r,ρ,i,h=>by
  unfold J1;rw [S4 (λq hq=>h q (by simp [hq])),qcL,if_neg (h p (by simp))]
def K2:∀ (bs:List (Nat×PyData)) (ρ:Rho),(J1 ρ bs).length=ρ.length
 |[],τ=>rfl
 |p::r,τ=>by unfold J1;rw [K2 r];simp
def NG {p:Addr} {stay:Gp->Prop} {g g2:TG3} {tif tif2:TT3} {wi2:TI3} {te:TE3} {q:Q3} (pg:PuG g) (pc:PuC tif) (pi2:PuI wi2) (pg2:PuG g2) (pc2:PuC tif2) (pe:PuE te) {D:Addr->Prop} {ρ0:Rho} {G0:Gp} (hs:∀ G,Ex (rs (λb=>D b\/b=p) G0) G->stay G) (hm:∀ i∈pg.tg,vw ρ0 i=none) (hm2:∀ i∈pg2.tg,vw ρ0 i=none) (hdj:∀ i∈pg2.tg,i∉pg.tg) (fin:List PyData) (hfin:fin.length<=sizeLine)
  (k:∀ G ys,E0 p G0 G->G p=some (.lst ys)->Dqs (rs (λb=>D b\/b=p) G) ys fin->q (.ref p) G) :
  ∀ (ds:List PyData) (items ys:List T) (es fs:List PyData) (τ:St3) (G:Gp),Dqs (rs (λb=>D b\/b=p) G0) items ds->VA (λb=>D b\/b=p) G τ ρ0->E0 p G0 G->Dom (λb=>D b\/b=p) G->G p=some (.lst ys)->Dqs (rs (λb=>D b\/b=p) G) ys es->qgu (qhN pg.f pc.f pi2.f (lcH pg2.f pc2.f pe.f) ρ0) ds=some fs->es++fs=fin->N9 p stay g tif wi2 g2 tif2 te q items τ G
 |_,_,ys,es,fs,τ,G,.nil,va,E,hd,gp,hy,hf,hl=>by
  cases hf;rw [List.append_nil] at hl;subst hl;exact ⟨hs G (E.rs.trans D6),k G ys E gp hy⟩
 |d::ds,x::items,ys,es,fs,τ,G,.cons hx hr,va,E,hd,gp,hy,hf,hl=>by
  unfold qgu at hf;obtain ⟨o,e1,hf⟩:=obb hf;obtain ⟨Z2,e2,hf⟩:=obb hf;unfold qhN at e1;obtain ⟨bs,e3,e1⟩:=obb e1;obtain ⟨c,e4,e1⟩:=obb e1;obtain ⟨ts,bd,kg⟩:=pg.ok (hx.up E.rs) e3;refine ⟨hs G (E.rs.trans D6),kg τ G _ ?_⟩;have va1:=va.sets bd;have va2:=va.keep (ts:=ts) λp hp=>by
   obtain ⟨q,hq,e⟩:=qcm bd p hp;rw [← e];exact hm _ (pg.at' e3 q hq)
  refine pc.ok (va1.view _) hd e4 λG1 E1=>?_;cases c with
  |true=>
   rw [if_pos rfl];rw [if_pos rfl] at e1;obtain ⟨y,e5,rfl⟩:=Option.map_eq_some_iff.mp e1;obtain ⟨ds2,e6,e5⟩:=obb e5;simp only [Option.some.injEq] at hf;subst hf;refine pi2.ok ((va1.up E1).view _) (hd.up E1) e6 λitems2 stay2 G2 E2 D2 hs2 _=>?_;have l2:(es++y).length<=sizeLine:=by
    rw [← hl] at hfin;simp at hfin ⊢;omega
   refine qeR pg2 pc2 pe (ρ0:=J1 ρ0 bs) (G0:=G2) (λG3 E3=>hs2 G3 (.inr E3)) (λi hi=>?_) (es++y) l2 (λτ3 G3 zs va3 E3 hd3 gp3 hz=>?_) ds2 items2 ys es y _ G2 D2 ((va1.up E1).up E2) E0.refl ((hd.up E1).up E2) (E2 _ _ (E1 _ _ gp)) ((hy.up (jw E1)).up (jw E2)) e5 rfl
   ·rw [S4 λq hq e=>hdj i hi (by rw [← e];exact pg.at' e3 q hq)];exact hm2 i hi
   ·have E4:E0 p G G3:=(E0.of (E1.trans E2)).trans E3;have va4:VA (λb=>D b\/b=p) G3 τ3 ρ0:=⟨by rw [← va3.len,K2],λi d' hd'=>va3.vw i d' (by
     rw [S4 λq hq e=>?_];exact hd';rw [← e,hm _ (pg.at' e3 q hq)] at hd';cases hd')⟩
    exact NG pg pc pi2 pg2 pc2 pe hs hm hm2 hdj fin hfin k ds items zs (es++y) Z2 τ3 G3 hr va4 (E.trans E4) hd3 gp3 hz e2 (by rw [← hl];simp)
  |false=>
   rw [if_neg Bool.false_ne_true];simp at e1;subst e1;simp only [Option.some.injEq] at hf;subst hf;exact NG pg pc pi2 pg2 pc2 pe hs hm hm2 hdj fin hfin k ds items ys es Z2 _ G1 hr (va2.up E1) (E.trans (E0.of E1)) (hd.up E1) (E1 _ _ gp) (hy.up (jw E1)) e2 hl
def qir (pi:Rho->Option (List PyData)) (h:Rho->PyData->Option (Option (List PyData))) (m:List (Option Nat)) (ρ:Rho):Option PyData:=
 (pi ρ).bind λds=>(qgu (h (SL m ρ)) ds).bind λfs=>cif (fs.length<=sizeLine) (some (.list fs)) none
def qbY {h:PyData->Option (Option (List PyData))} {α:Type} {g:α->PyData} {k:α->List PyData} {xs:List α} (hh:∀ a∈xs,h (g a)=some (some (k a))):qgu h (xs.map g)=some (xs.flatMap k):=by
 induction xs with
 |nil=>rfl
 |cons a r ih=>simp only [map_cons,qgu,hh a (by simp),Option.bind_some,ih λb hb=>hh b (by simp [hb]),List.flatMap_cons]
def qok {wi wi2:TI3} {g g2:TG3} {tif tif2:TT3} {te:TE3} (pi:PuI wi) (pg:PuG g) (pc:PuC tif) (pi2:PuI wi2) (pg2:PuG g2) (pc2:PuC tif2) (pe:PuE te) (m:List (Option Nat)) (hm:Tru (pg.tg.all λi=>m[i]?==some none)) (hm2:Tru (pg2.tg.all λi=>m[i]?==some none)) (hdj:Tru (pg2.tg.all λi=>!pg.tg.contains i)):PuE (ql6 wi g tif wi2 g2 tif2 te m):=
 ⟨qir pi.f (qhN pg.f pc.f pi2.f (lcH pg2.f pc2.f pe.f)) m,pi.fv++m.filterMap id,true,λ{D τ ρ G q d} hv hd hf k=>by
  unfold qir at hf;obtain ⟨ds,e1,hf⟩:=obb hf;obtain ⟨fs,e2,hf⟩:=obb hf;unfold cif at hf;split at hf
  ·rename_i hl;cases hf;refine pi.ok hv.l hd e1 λitems stay G1 E1 D1 hs _ p hp=>?_;have va:=(VA.cap (m:=m) hv.r).up E1;have np:∀ {b o},G1 b=some o->b≠p:=λe=>by rintro rfl;rw [hp] at e;cases e
   have X1:Ex (rs D G1) (rs (λb=>D b\/b=p) (gu G1 p (.lst []))):=λb o e=>by
    obtain ⟨n,e⟩:=za e;rw [QR (by rintro (z|z);exact n z;exact np e z),zu (np e)];exact e
   refine NG pg pc pi2 pg2 pc2 pe (D:=D) (ρ0:=SL m ρ) (G0:=gu G1 p (.lst [])) (p:=p) (λG2 E2=>hs G2 (.inr (X1.trans E2))) (λi hi=>TW ?_) (λi hi=>TW ?_) (λi hi hj=>?_) fs hl (λG2 ys E2 gp D2=>?_) ds items [] [] fs _ _ (D1.up X1) ⟨va.len,λi d hd=>let ⟨t,a,b⟩:=va.vw i d hd;⟨t,a,b.up X1⟩⟩ E0.refl ?_ qp .nil e2 (by simp)
   ·simpa using List.all_eq_true.mp hm.h i hi
   ·simpa using List.all_eq_true.mp hm2.h i hi
   ·have:=List.all_eq_true.mp hdj.h i hi;simp at this;exact this hj
   ·have EE:Ex G1 G2:=λb o e=>E2 b o (np e) (by rw [zu (np e)];exact e);have hdp:¬ D p:=λz=>(hd.up E1) p z hp;refine k _ _ (E1.trans EE) (.lst (by rw [QR hdp];exact gp) (D2.up (jt λb z=>.inl z))) λ_=>Nw.back (.inr ⟨p,ys,fs,rfl,rfl,hp,gp,D2⟩) E1
   ·intro b hb z;by_cases e:b=p
    ·subst e;rw [qp] at z;cases z
    ·rw [zu e] at z;rcases hb with hb|hb
     ·exact (hd.up E1) b hb z
     ·exact e hb
  ·cases hf⟩
def AD (D:Addr->Prop) (A:Nat->Option Addr) (b:Addr):Prop:=D b\/∃ i,A i=some b
structure RS (D:Addr->Prop) (G0:Gp) (A:Nat->Option Addr) (τ:St3) (ρ:Rho) (G:Gp):Prop where
 ex:Ex G0 G
 dm:Dom D G0
 fr:∀ i p,A i=some p->G0 p=none
 da:∀ i p,A i=some p->G p≠none
 inj:∀ i j p,A i=some p->A j=some p->i=j
 len:ρ.length=τ.length
 sh:∀ (i:Nat) (d:PyData),ρ[i]?=some (Sl.sh d)->∃ t,τ[i]?=some (some t)/\Dq (rs (AD D A) G) t d
 ow:∀ (i:Nat) (ds:List PyData),ρ[i]?=some (Sl.ow ds)->∃ p xs,A i=some p/\τ[i]?=some (some (.ref p))/\G p=some (.lst xs)/\Dqs (rs (AD D A) G) xs ds
 dc:∀ (i:Nat) (kvs:List (Int×PyData)),ρ[i]?=some (Sl.dc kvs)->∃ p ks,A i=some p/\τ[i]?=some (some (.ref p))/\G p=some (.dct ks)/\ks.map (λq=>q.1)=kvs.map (λq=>q.1)/\Dqs (rs (AD D A) G) (ks.map λq=>q.2) (kvs.map λq=>q.2)
section
variable {D:Addr->Prop} {G0 G G':Gp} {A A':Nat->Option Addr} {τ:St3} {ρ:Rho}
def RS.nd (h:RS D G0 A τ ρ G) {i:Nat} {p:Addr} (e:A i=some p):¬ D p:=λz=>h.dm p z (h.fr i p e)
def RS.dom (h:RS D G0 A τ ρ G):Dom (AD D A) G:=λb hb=>by
 rcases hb with hb|⟨i,hi⟩
 ·exact (h.dm.up h.ex) b hb
 ·exact h.da i b hi
def RS.domD (h:RS D G0 A τ ρ G):Dom D G:=h.dm.up h.ex
def RS.up (h:RS D G0 A τ ρ G) (e:Ex G G'):RS D G0 A τ ρ G':=
 ⟨h.ex.trans e,h.dm,h.fr,λi p a z=>(h.da i p a) (by
  cases g:G p with
  |none=>rfl
  |some o=>rw [e _ _ g] at z;cases z),h.inj,h.len,λi d a=>let ⟨t,b,c⟩:=h.sh i d a;⟨t,b,c.up (jw e)⟩,λi ds a=>let ⟨p,xs,b,c,d,f⟩:=h.ow i ds a;⟨p,xs,b,c,e _ _ d,f.up (jw e)⟩,λi ds a=>let ⟨p,xs,b,c,d,k,f⟩:=h.dc i ds a;⟨p,xs,b,c,e _ _ d,k,f.up (jw e)⟩⟩
def RS.viewAll (h:RS D G0 A τ ρ G) (fv:List Nat):XY fv D G τ ρ:=λi _ d hd=>by
 unfold vw at hd;obtain ⟨s,e,hd⟩:=obb hd;have less:Ex (rs (AD D A) G) (rs D G):=jt λb z=>.inl z;cases s with
 |un=>cases hd
 |sh d'=>
  cases hd;obtain ⟨t,b,c⟩:=h.sh i _ e;exact ⟨t,b,c.up less⟩
 |ow ds=>
  cases hd;obtain ⟨p,xs,b,c,g,f⟩:=h.ow i _ e;exact ⟨_,c,.lst (by rw [QR (h.nd b)];exact g) (f.up less)⟩
 |dc kvs=>cases hd
def RS.view (h:RS D G0 A τ ρ G) {fv:List Nat} (hn:∀ i∈fv,A i=none):XY fv (AD D A) G τ ρ:=λi hi d hd=>by
 unfold vw at hd;obtain ⟨s,e,hd⟩:=obb hd;cases s with
 |un=>cases hd
 |sh d'=>
  cases hd;exact h.sh i _ e
 |ow ds=>
  obtain ⟨p,xs,b,_⟩:=h.ow i _ e;rw [hn i hi] at b;cases b
 |dc kvs=>cases hd
def Sl.dem:Sl->Sl
 |.ow ds=>.sh (.list ds)
 |.dc _=>.un
 |s=>s
def dm:List Bool->Rho->Rho
 |b::m,s::r=>(match b with|true=>s.dem|false=>s)::dm m r
 |_,r=>r
def mkb (m:List Bool) (i:Nat):Bool:=(m[i]?).getD false
def MT:∀ (m:List Bool) (ρ:Rho) (i:Nat),(dm m ρ)[i]?=(ρ[i]?).map λs=>if mkb m i=true then s.dem else s
 |[],ρ,i=>by simp [dm,mkb]
 |b::m,[],i=>by simp [dm]
 |b::m,s::r,0=>by cases b<;>simp [dm,mkb]
 |b::m,s::r,i+1=>by
  have:=MT m r i;simp only [dm,getElem?_cons_succ,mkb] at this ⊢;exact this
def qnz (s:Sl):s.dem.d=s.d:=by cases s<;>rfl
def qn6 (m:List Bool) (ρ:Rho) (i:Nat):vw (dm m ρ) i=vw ρ i:=by
 unfold vw;rw [MT];cases ρ[i]? with
 |none=>rfl
 |some s=>
  simp only [Option.map_some,Option.bind_some];split
  ·exact qnz s
  ·rfl
def qcE:∀ (m:List Bool) (ρ:Rho),(dm m ρ).length=ρ.length
 |[],ρ=>rfl
 |b::m,[]=>rfl
 |b::m,s::r=>by simp [dm,qcE m r]
def Ad (m:List Bool) (A:Nat->Option Addr):Nat->Option Addr:=λi=>if mkb m i=true then none else A i
def DZ {m:List Bool} {i:Nat} {p:Addr} (h:Ad m A i=some p):A i=some p/\mkb m i=false:=by
 unfold Ad at h;split at h
 ·cases h
 ·rename_i n;exact ⟨h,by simpa using n⟩
def RS.dem (h:RS D G0 A τ ρ G) (m:List Bool):RS D G0 (Ad m A) τ (Pu.dm m ρ) G:=by
 have less:Ex (rs (AD D A) G) (rs (AD D (Ad m A)) G):=jt λb z=>by
  rcases z with z|⟨i,z⟩
  ·exact .inl z
  ·exact .inr ⟨i,(DZ z).1⟩
 refine ⟨h.ex,h.dm,λi p e=>h.fr i p (DZ e).1,λi p e=>h.da i p (DZ e).1,λi j p a b=>h.inj i j p (DZ a).1 (DZ b).1,by rw [qcE];exact h.len,λi d e=>?_,λi ds e=>?_,λi kvs e=>?_⟩
 ·rw [MT] at e;obtain ⟨s,e1,e2⟩:=Option.map_eq_some_iff.mp e;cases s with
  |un=>split at e2<;>cases e2
  |sh d'=>
   have:d'=d:=by split at e2<;>(cases e2;rfl)
   subst this;obtain ⟨t,b,c⟩:=h.sh i _ e1;exact ⟨t,b,c.up less⟩
  |ow ds=>
   split at e2
   ·rename_i hm;cases e2;obtain ⟨p,xs,b,c,g,f⟩:=h.ow i _ e1;refine ⟨_,c,.lst ?_ (f.up less)⟩;rw [QR]
    ·exact g
    ·rintro (z|⟨j,z⟩)
     ·exact h.nd b z
     ·have:=h.inj i j p b (DZ z).1;subst this;rw [(DZ z).2] at hm;cases hm
   ·cases e2
  |dc kvs=>split at e2<;>cases e2
 ·rw [MT] at e;obtain ⟨s,e1,e2⟩:=Option.map_eq_some_iff.mp e;cases s with
  |un=>split at e2<;>cases e2
  |sh d'=>split at e2<;>cases e2
  |ow ds'=>
   split at e2
   ·cases e2
   ·rename_i hm;cases e2;obtain ⟨p,xs,b,c,g,f⟩:=h.ow i _ e1;exact ⟨p,xs,by unfold Ad;rw [if_neg hm];exact b,c,g,f.up less⟩
  |dc kvs=>split at e2<;>cases e2
 ·rw [MT] at e;obtain ⟨s,e1,e2⟩:=Option.map_eq_some_iff.mp e;cases s with
  |un=>split at e2<;>cases e2
  |sh d'=>split at e2<;>cases e2
  |ow ds'=>split at e2<;>cases e2
  |dc ds'=>
   split at e2
   ·cases e2
   ·rename_i hm;cases e2;obtain ⟨p,xs,b,c,g,k,f⟩:=h.dc i _ e1;exact ⟨p,xs,by unfold Ad;rw [if_neg hm];exact b,c,g,k,f.up less⟩
def RS.viewD (h:RS D G0 A τ ρ G) {m:List Bool} {fv:List Nat} (hm:Tru (fv.all (mkb m))):XY fv (AD D (Ad m A)) G τ ρ:=by
 have:=(h.dem m).view (fv:=fv) λi hi=>by unfold Ad;rw [if_pos (List.all_eq_true.mp hm.h i hi)]
 intro i hi d hd;exact this i hi d (by rw [qn6];exact hd)
def Er (A:Nat->Option Addr) (i:Nat):Nat->Option Addr:=λj=>if j=i then none else A j
def DF {i j:Nat} {p:Addr} (h:Er A i j=some p):A j=some p/\j≠i:=by
 unfold Er at h;split at h
 ·cases h
 ·rename_i n;exact ⟨h,n⟩
def RS.put (h:RS D G0 A τ ρ G) (i:Nat) {x:T} {d:PyData} (hx:Dq (rs (AD D A) G) x d):RS D G0 (Er A i) (τ.set i (some x)) (ρ.set i (.sh d)) G:=by
 have less:Ex (rs (AD D A) G) (rs (AD D (Er A i)) G):=jt λb z=>by
  rcases z with z|⟨j,z⟩
  ·exact .inl z
  ·exact .inr ⟨j,(DF z).1⟩
 refine ⟨h.ex,h.dm,λj p e=>h.fr j p (DF e).1,λj p e=>h.da j p (DF e).1,λj k p a b=>h.inj j k p (DF a).1 (DF b).1,by simp [h.len],λj e he=>?_,λj ds e=>?_,λj ds e=>?_⟩
 ·rw [getElem?_set] at he ⊢;split at he
  ·rename_i hj;rw [if_pos hj];split at he
   ·rename_i hl;cases he;exact ⟨x,by rw [if_pos (by rw [← h.len];exact hl)],hx.up less⟩
   ·cases he
  ·rename_i hj;rw [if_neg hj];obtain ⟨t,b,c⟩:=h.sh j _ he;exact ⟨t,b,c.up less⟩
 ·rw [getElem?_set] at e ⊢;split at e
  ·split at e<;>cases e
  ·rename_i hj;rw [if_neg hj];obtain ⟨p,xs,b,c,g,f⟩:=h.ow j _ e;exact ⟨p,xs,by unfold Er;rw [if_neg (λz=>hj z.symm)];exact b,c,g,f.up less⟩
 ·rw [getElem?_set] at e ⊢;split at e
  ·split at e<;>cases e
  ·rename_i hj;rw [if_neg hj];obtain ⟨p,xs,b,c,g,k,f⟩:=h.dc j _ e;exact ⟨p,xs,by unfold Er;rw [if_neg (λz=>hj z.symm)];exact b,c,g,k,f.up less⟩
def RS.puts:∀ {ts:List (Nat×T)} {bs:List (Nat×PyData)} {A:Nat->Option Addr} {τ:St3} {ρ:Rho},RS D G0 A τ ρ G->Bd (rs (AD D A) G) ts bs->∃ A',RS D G0 A' (sets τ ts) (J1 ρ bs) G
 |_,_,A,_,_,h,.nil=>⟨A,h⟩
 |_,_,A,_,_,h,.cons (i:=i) a b=>by
  unfold sets J1;exact RS.puts (h.put i a) (b.up (jt λb z=>by
   rcases z with z|⟨j,z⟩
   ·exact .inl z
   ·exact .inr ⟨j,(DF z).1⟩))
def RS.putN (h:RS D G0 A τ ρ G) (i:Nat) {x:T} {d:PyData} {ds:List PyData} (hd:d=.list ds) (E:Ex G G') (hx:Nw (AD D A) G G' x d):RS D G0 (λj=>if j=i then (match x with|.ref p=>some p|_=>none) else A j) (τ.set i (some x)) (ρ.set i (.ow ds)) G':=by
 rcases hx with hx|⟨p,xs,ds',rfl,e',gp,gp',hs⟩
 ·rw [hd] at hx;cases hx
 rw [hd] at e';cases e';have np:∀ {j q},A j=some q->q≠p:=λe=>by rintro rfl;exact h.da _ _ e gp
 have X1:Ex (rs (AD D A) G) (rs (AD D (λj=>if j=i then some p else A j)) G'):=λb o e=>by
  obtain ⟨n,e⟩:=za e;rw [QR]
  ·exact E _ _ e
  ·rintro (z|⟨j,z⟩)
   ·exact n (.inl z)
   ·simp only at z;split at z
    ·cases z;rw [gp] at e;cases e
    ·exact n (.inr ⟨j,z⟩)
 refine ⟨h.ex.trans E,h.dm,λj q e=>?_,λj q e=>?_,λj k q a b=>?_,by simp [h.len],λj e he=>?_,λj es e=>?_,λj es e=>?_⟩
 ·simp only at e;split at e
  ·cases e;cases z:G0 p with
   |none=>rfl
   |some o=>rw [h.ex _ _ z] at gp;cases gp
  ·exact h.fr j q e
 ·simp only at e;split at e
  ·cases e;rw [gp'];simp
  ·exact (h.up E).da j q e
 ·simp only at a b;split at a
  ·cases a;split at b
   ·rename_i h1 h2;rw [h1,h2]
   ·exact absurd rfl (np b)
  ·split at b
   ·cases b;exact absurd rfl (np a)
   ·exact h.inj j k q a b
 ·rw [getElem?_set] at he ⊢;split at he
  ·split at he<;>cases he
  ·rename_i hj;rw [if_neg hj];obtain ⟨t,b,c⟩:=h.sh j _ he;exact ⟨t,b,c.up X1⟩
 ·rw [getElem?_set] at e ⊢;split at e
  ·rename_i hj;subst hj;split at e
   ·rename_i hl;cases e;refine ⟨p,xs,by simp,by rw [if_pos rfl,if_pos (by rw [← h.len];exact hl)],gp',hs.up (jt λb z=>?_)⟩;rcases z with z|⟨j,z⟩
    ·exact .inl (.inl z)
    ·simp only at z;split at z
     ·cases z;exact .inr rfl
     ·exact .inl (.inr ⟨j,z⟩)
   ·cases e
  ·rename_i hj;rw [if_neg hj];obtain ⟨q,ys,b,c,g,f⟩:=h.ow j _ e;exact ⟨q,ys,by rw [if_neg (λz=>hj z.symm)];exact b,c,E _ _ g,f.up X1⟩
 ·rw [getElem?_set] at e ⊢;split at e
  ·split at e<;>cases e
  ·rename_i hj;rw [if_neg hj];obtain ⟨q,ys,b,c,g,k,f⟩:=h.dc j _ e;exact ⟨q,ys,by rw [if_neg (λz=>hj z.symm)];exact b,c,E _ _ g,k,f.up X1⟩
def RS.wr (h:RS D G0 A τ ρ G) {i:Nat} {p:Addr} {xs:List T} {ds:List PyData} (hi:A i=some p) (ht:τ[i]?=some (some (.ref p))) (hs:Dqs (rs (AD D A) G) xs ds):RS D G0 A τ (ρ.set i (.ow ds)) (gu G p (.lst xs)):=by
 have X1:Ex (rs (AD D A) G) (rs (AD D A) (gu G p (.lst xs))):=λb o e=>by
  obtain ⟨n,e⟩:=za e;rw [QR n,zu (by rintro rfl;exact n (.inr ⟨i,hi⟩))];exact e
 refine ⟨λb o e=>?_,h.dm,h.fr,λj q e=>?_,h.inj,by simp [h.len],λj e he=>?_,λj es e=>?_,λj es e=>?_⟩
 ·rw [zu (by rintro rfl;rw [h.fr i _ hi] at e;cases e)];exact h.ex _ _ e
 ·by_cases z:q=p
  ·subst z;rw [qp];simp
  ·rw [zu z];exact h.da j q e
 ·rw [getElem?_set] at he;split at he
  ·split at he<;>cases he
  ·obtain ⟨t,b,c⟩:=h.sh j _ he;exact ⟨t,b,c.up X1⟩
 ·rw [getElem?_set] at e;split at e
  ·rename_i hj;subst hj;split at e
   ·cases e;exact ⟨p,xs,hi,ht,qp,hs.up X1⟩
   ·cases e
  ·rename_i hj;obtain ⟨q,ys,b,c,g,f⟩:=h.ow j _ e;exact ⟨q,ys,b,c,by rw [zu (by rintro rfl;exact hj (h.inj i j _ hi b))];exact g,f.up X1⟩
 ·rw [getElem?_set] at e;split at e
  ·split at e<;>cases e
  ·rename_i hj;obtain ⟨q,ys,b,c,g,k,f⟩:=h.dc j _ e;exact ⟨q,ys,b,c,by rw [zu (by rintro rfl;exact hj (h.inj i j _ hi b))];exact g,k,f.up X1⟩
def RS.base {Gb:Gp} (h:RS D Gb A τ ρ G) (e:Ex G0 Gb) (hd:Dom D G0):RS D G0 A τ ρ G:=
 ⟨e.trans h.ex,hd,(λi p a=>by
  cases z:G0 p with
  |none=>rfl
  |some o=>have:=h.fr i p a;rw [e _ _ z] at this;cases this),h.da,h.inj,h.len,h.sh,h.ow,h.dc⟩
end
inductive Ot where
 |nx (ρ:Rho)|bk (ρ:Rho)|ct (ρ:Rho)|rt (d:PyData) (fr:Bool)
def qgA (D:Addr->Prop) (G0:Gp) (e:Ends3):Ot->Prop
 |.nx ρ=>∀ A τ G,RS D G0 A τ ρ G->e.nx τ G
 |.bk ρ=>∀ A τ G,RS D G0 A τ ρ G->e.bk τ G
 |.ct ρ=>∀ A τ G,RS D G0 A τ ρ G->e.ct τ G
 |.rt d fr=>∀ x G,Ex G0 G->Dq (rs D G) x d->(fr=true->Nw D G0 G x d)->e.rt x G
def qgA.base {D:Addr->Prop} {G0 Gb:Gp} {e:Ends3} {o:Ot} (h:qgA D G0 e o) (x:Ex G0 Gb) (hd:Dom D G0):qgA D Gb e o:=by
 cases o with
 |nx ρ=>exact λA τ G r=>h A τ G (r.base x hd)
 |bk ρ=>exact λA τ G r=>h A τ G (r.base x hd)
 |ct ρ=>exact λA τ G r=>h A τ G (r.base x hd)
 |rt d fr=>exact λy G a b c=>h y G (x.trans a) b λz=>(c z).back x
structure PuS (t:TS3) where
 f:Nat->Rho->Option Ot
 ok:∀ {D G0 A τ ρ G n o} {e:Ends3},RS D G0 A τ ρ G->f n ρ=some o->qgA D G0 e o->t e τ G
def qat:PuS qz:=⟨λ_ ρ=>some (.nx ρ),λh hf k=>by cases hf;exact k _ _ _ h⟩
def qpC:PuS V5:=⟨λ_ ρ=>none,λh hf k=>by cases hf⟩
def qmc (a b:Nat->Rho->Option Ot) (n:Nat) (ρ:Rho):Option Ot:=(a n ρ).bind λo=>match o with|.nx ρ'=>b n ρ'|o=>some o
def SY {t u:TS3} (a:PuS t) (b:PuS u):PuS (qw t u):=⟨qmc a.f b.f,λ{D G0 A τ ρ G n o e} h hf k=>by
 unfold qmc at hf;obtain ⟨o1,e1,hf⟩:=obb hf;refine a.ok h e1 ?_;cases o1 with
 |nx ρ'=>exact λA' τ' G' h'=>b.ok h' hf k
 |bk ρ'=>cases hf;exact k
 |ct ρ'=>cases hf;exact k
 |rt d fr=>cases hf;exact k⟩
def sIf {c:TT3} {t u:TS3} (pc:PuC c) (a:PuS t) (b:PuS u):PuS (zf c t u):=⟨λn ρ=>(pc.f ρ).bind λk=>if k then a.f n ρ else b.f n ρ,λh hf k=>by
 obtain ⟨o1,e1,hf⟩:=obb hf;refine pc.ok (h.viewAll _) h.domD e1 λG1 E1=>?_;cases o1 with
 |true=>exact a.ok (h.up E1) hf k
 |false=>exact b.ok (h.up E1) hf k⟩
def qbb {t:TE3} (a:PuE t):PuS (qK t):=⟨λ_ ρ=>(a.f ρ).map λd=>.rt d a.nw,λh hf k=>by
 obtain ⟨d,e1,rfl⟩:=Option.map_eq_some_iff.mp hf;exact a.ok (h.viewAll _) h.domD e1 λx G1 E1 D1 N1=>k x G1 (h.ex.trans E1) D1 λz=>(N1 z).back h.ex⟩
def qgv (ρ:Rho) (i:Nat):Option Ot:=match ρ[i]? with|some (.ow ds)=>some (.rt (.list ds) true)|some (.sh d)=>some (.rt d false)|_=>none
def qgg (i:Nat):PuS (qK (v3 i)):=⟨λ_ ρ=>qgv ρ i,λh hf k=>by
 unfold qgv at hf;split at hf
 ·rename_i ds e;cases hf;obtain ⟨p,xs,b,c,g,f⟩:=h.ow i _ e;simp only [qK,v3,c];refine k _ _ h.ex (.lst (by rw [QR (h.nd b)];exact g) (f.up (jt λb z=>.inl z))) λ_=>.inr ⟨p,xs,ds,rfl,rfl,h.fr i p b,g,f.up (jt λq z=>?_)⟩;rcases z with z|z
  ·exact .inl z
  ·subst z;exact .inr ⟨i,b⟩
 ·rename_i d e;cases hf;obtain ⟨t,b,c⟩:=h.sh i _ e;simp only [qK,v3,b];exact k _ _ h.ex (c.up (jt λb z=>.inl z)) (λz=>by cases z)
 ·cases hf⟩
def DG {H H':Gp} {x:T} {d:PyData} (h:Dq H x d) (s:MW d=true):Dq H' x d:=by
 cases h<;>first|(constructor;done)|(simp [MW] at s;done)
def qpt:PyData->Sl
 |.list ds=>.ow ds
 |d=>.sh d
def qbg (m:List Bool) (nw:Bool) (i:Nat) (d:PyData) (ρ:Rho):Rho:=if MW d then ρ.set i (.sh d) else (dm m ρ).set i (if nw then qpt d else .sh d)
def qmR {t:TE3} (a:PuE t) (i:Nat) (m:List Bool) (hm:Tru (a.fv.all (mkb m))):PuS (qD t (gn3 i)):=⟨λ_ ρ=>(a.f ρ).map λd=>.nx (qbg m a.nw i d ρ),λ{D G0 A τ ρ G n o e} h hf k=>by
 obtain ⟨d,e1,rfl⟩:=Option.map_eq_some_iff.mp hf;refine a.ok (h.viewD hm) (h.dem m).dom e1 λx G1 E1 D1 N1=>?_;unfold qbg at k;show e.nx (τ.set i (some x)) G1;split at k
 ·rename_i hs;exact k _ _ _ ((h.up E1).put i (DG D1 hs))
 ·split at k
  ·rename_i hn;have N:=N1 hn;rcases id N with h2|⟨p,xs,ds,h1,h2,_⟩
   ·exact absurd h2 (by assumption)
   subst h2;exact k _ _ _ ((h.dem m).putN i rfl E1 N)
  ·exact k _ _ _ (((h.dem m).up E1).put i D1)⟩
def ME {t:TE3} {g:TG3} (a:PuE t) (pg:PuG g) (m:List Bool) (hm:Tru (a.fv.all (mkb m))):PuS (qD t g):=⟨λ_ ρ=>(a.f ρ).bind λd=>(pg.f d).map λbs=>.nx (J1 (dm m ρ) bs),λ{D G0 A τ ρ G n o e} h hf k=>by
 obtain ⟨d,e1,hf⟩:=obb hf;obtain ⟨bs,e2,rfl⟩:=Option.map_eq_some_iff.mp hf;refine a.ok (h.viewD hm) (h.dem m).dom e1 λx G1 E1 D1 N1=>?_;obtain ⟨ts,bd,kg⟩:=pg.ok D1 e2;refine kg _ _ _ ?_;obtain ⟨A',h'⟩:=((h.dem m).up E1).puts bd;exact k _ _ _ h'⟩
def qmb (i j:Nat) (m:List Bool) (ds:List PyData) (ρ:Rho):Option Ot:=match ds with
 |[d,e]=>if MW d&&MW e then some (.nx ((ρ.set i (.sh d)).set j (.sh e))) else some (.nx (((dm m ρ).set i (.sh d)).set j (.sh e)))
 |_=>none
def qkx {D:Addr->Prop} {A:Nat->Option Addr} {G:Gp} {i:Nat}:Ex (rs (AD D A) G) (rs (AD D (Er A i)) G):=jt λb z=>by
 rcases z with z|⟨j,z⟩
 ·exact .inl z
 ·exact .inr ⟨j,(DF z).1⟩
def slot (ρ:Rho) (i:Nat):Option (List PyData):=match ρ[i]? with|some (.ow ds)=>some ds|_=>none
def qgl {ρ:Rho} {i:Nat} {ds:List PyData} (h:slot ρ i=some ds):ρ[i]?=some (.ow ds):=by
 unfold slot at h;split at h
 ·rename_i e;cases h;exact e
 ·cases h
def dmS (m:List Bool) (d:PyData) (ρ:Rho):Rho:=if MW d then ρ else dm m ρ
def RS.evalS {D:Addr->Prop} {G0 G:Gp} {A:Nat->Option Addr} {τ:St3} {ρ:Rho} (h:RS D G0 A τ ρ G) {t:TE3} (a:PuE t) (m:List Bool) (hm:Tru (a.fv.all (mkb m))) {d:PyData} (hf:a.f ρ=some d):∃ A1,RS D G0 A1 τ (dmS m d ρ) G/\∀ q:Q3,(∀ x G',Ex G G'->Dq (rs (AD D A1) G') x d->q x G')->t τ G q:=by
 unfold dmS;by_cases hs:MW d=true
 ·rw [if_pos hs];exact ⟨A,h,λq k=>a.ok (h.viewAll _) h.domD hf λx G1 E1 D1 _=>k x G1 E1 (DG D1 hs)⟩
 ·rw [if_neg hs];exact ⟨Ad m A,h.dem m,λq k=>a.ok (h.viewD hm) (h.dem m).dom hf λx G1 E1 D1 _=>k x G1 E1 D1⟩
def qip (i:Nat) (d:PyData) (ρ:Rho):Option Ot:=(slot ρ i).bind λds=>cif (ds.length<sizeLine) (some (.nx (ρ.set i (.ow (ds++[d]))))) none
def qoG {t:TE3} (a:PuE t) (i:Nat) (m:List Bool) (hm:Tru (a.fv.all (mkb m))):PuS (zn (bm3 YZ (v3 i) (qb t qg))):=⟨λ_ ρ=>(a.f ρ).bind λd=>qip i d (dmS m d ρ),λ{D G0 A τ ρ G n o e} h hf k=>by
 obtain ⟨d,e1,hf⟩:=obb hf;obtain ⟨A1,h1,ev⟩:=h.evalS a m hm e1;unfold qip at hf;obtain ⟨ds,e2,hf⟩:=obb hf;unfold cif at hf;split at hf
 ·rename_i hl;cases hf;obtain ⟨p,xs,b,c,g,f⟩:=h1.ow i _ (qgl e2);simp only [zn,bm3,v3,c,QM g];refine ⟨rfl,ev _ λx G1 E1 D1=>?_⟩;simp only [qg,YZ,E1 _ _ g];exact ⟨by rw [f.length];exact hl,k _ _ _ ((h1.up E1).wr b c ((f.up (jw E1)).append (.cons D1 .nil)))⟩
 ·cases hf⟩
def qgc {t:TE3} (a:PuE t):PuS (zn t):=⟨λ_ ρ=>(a.f ρ).map λ_=>.nx ρ,λh hf k=>by
 obtain ⟨d,e1,rfl⟩:=Option.map_eq_some_iff.mp hf;exact a.ok (h.viewAll _) h.domD e1 λx G1 E1 D1 N1=>k _ _ _ (h.up E1)⟩
def qaS (gf:PyData->Option (List (Nat×PyData))) (bf:Rho->Option Ot):List PyData->Rho->Option Ot
 |[],ρ=>some (.nx ρ)
 |d::r,ρ=>(gf d).bind λbs=>(bf (J1 ρ bs)).bind λo=>match o with
  |.nx ρ'=>qaS gf bf r ρ'
  |.ct ρ'=>qaS gf bf r ρ'
  |.bk ρ'=>some (.nx ρ')
  |.rt d b=>some (.rt d b)
def K6 {stay:Gp->Prop} {g:TG3} {tb:TS3} {e:Ends3} (pg:PuG g) (pb:PuS tb) {D:Addr->Prop} {G0:Gp} {n:Nat} {o:Ot} {items0:List T} (hs:∀ A τ ρ G,RS D G0 A τ ρ G->stay G) (k:qgA D G0 e o) :
  ∀ (ds:List PyData) (items:List T),(∀ A τ ρ G,RS D G0 A τ ρ G->Dqs (rs (AD D A) G) items ds)->∀ A τ ρ G,RS D G0 A τ ρ G->qaS pg.f (pb.f n) ds ρ=some o->CF stay g tb e items τ G
 |[],items,hi,A,τ,ρ,G,h,hf=>by
  cases hf;have:=hi _ _ _ _ h;cases this;exact ⟨hs _ _ _ _ h,k _ _ _ h⟩
 |d::ds,items,hi,A,τ,ρ,G,h,hf=>by
  have hh:=hi _ _ _ _ h;cases hh with
  |cons hx hr=>
   rename_i x items;unfold qaS at hf;obtain ⟨bs,e1,hf⟩:=obb hf;obtain ⟨o1,e2,hf⟩:=obb hf;obtain ⟨ts,bd,kg⟩:=pg.ok hx e1;refine ⟨hs _ _ _ _ h,kg _ _ _ ?_⟩;obtain ⟨A',h'⟩:=h.puts bd;refine pb.ok h' e2 ?_;have hi':∀ A τ ρ G,RS D G0 A τ ρ G->Dqs (rs (AD D A) G) items ds:=λA τ ρ G h=>by
    have:=hi _ _ _ _ h;cases this with
    |cons a b=>exact b
   cases o1 with
   |nx ρ'=>exact λA2 τ2 G2 h2=>K6 (items0:=items0) pg pb hs k ds items hi' _ _ _ _ h2 hf
   |ct ρ'=>exact λA2 τ2 G2 h2=>K6 (items0:=items0) pg pb hs k ds items hi' _ _ _ _ h2 hf
   |bk ρ'=>cases hf;exact k
   |rt d fr=>cases hf;exact k
def qmo (pi:Rho->Option (List PyData)) (nm:Bool) (m:List Bool) (gf:PyData->Option (List (Nat×PyData))) (bf:Nat->Rho->Option Ot) (n:Nat) (ρ:Rho):Option Ot:=(pi ρ).bind λds=>qaS gf (bf n) ds (if nm then ρ else dm m ρ)
def qoF {wi:TI3} {g:TG3} {tb:TS3} (pi:PuI wi) (pg:PuG g) (pb:PuS tb) (m:List Bool) (hm:Tru (pi.fv.all (mkb m))):PuS (SQ wi g tb):=⟨qmo pi.f pi.nm m pg.f pb.f,λ{D G0 A τ ρ G n o e} h hf k=>by
 unfold qmo at hf;obtain ⟨ds,e1,hf⟩:=obb hf;refine pi.ok (h.viewD hm) (h.dem m).dom e1 λitems stay G1 E1 D1 hs hnm=>?_;cases hb:pi.nm with
 |true=>
  rw [hb,if_pos rfl] at hf;obtain ⟨ns,rfl⟩:=hnm hb;have:=D1.ints;subst this;exact K6 (items0:=[]) pg pb (λ_ _ _ _ _=>hs _ (.inl hb)) k _ _ (λA τ ρ G _=>Dqs.ofInts _) _ _ _ _ (h.up E1) hf
 |false=>
  rw [hb,if_neg Bool.false_ne_true] at hf;have h1:=(h.dem m).up E1;have b1:Ex G0 (rs (λb=>∃ i,Ad m A i=some b) G1):=λb o e=>by
   rw [QR]
   ·exact h1.ex _ _ e
   ·rintro ⟨i,z⟩;rw [h1.fr i _ z] at e;cases e
  have h2:RS D (rs (λb=>∃ i,Ad m A i=some b) G1) (Ad m A) τ (dm m ρ) G1:=⟨D6,h.dm.up b1,λi p z=>by unfold rs;exact JE ⟨i,z⟩,h1.da,h1.inj,h1.len,h1.sh,h1.ow,h1.dc⟩
  have X:∀ A2 τ2 ρ2 G2,RS D (rs (λb=>∃ i,Ad m A i=some b) G1) A2 τ2 ρ2 G2->Ex (rs (AD D (Ad m A)) G1) (rs (AD D A2) G2):=λA2 τ2 ρ2 G2 r b o e=>by
   obtain ⟨n1,e⟩:=za e;have eb:rs (λb=>∃ i,Ad m A i=some b) G1 b=some o:=by rw [QR (λz=>n1 (.inr z))];exact e
   rw [QR]
   ·exact r.ex _ _ eb
   ·rintro (z|⟨i,z⟩)
    ·exact n1 (.inl z)
    ·rw [r.fr i _ z] at eb;cases eb
  exact K6 (items0:=[]) pg pb (λA2 τ2 ρ2 G2 r=>hs _ (.inr ((X _ _ _ _ r).trans D6))) (k.base b1 h.dm) _ _ (λA2 τ2 ρ2 G2 r=>D1.up (X _ _ _ _ r)) _ _ _ _ h2 hf⟩
def SH (fr:Bool):Option Ot->Option PyData
 |some (.rt d b)=>if fr=true/\b=false then (match d with|.none=>some .none|_=>none) else some d
 |some (.nx _)=>if fr then none else some .none
 |_=>none
def st (ds:List PyData) (N:Nat):Rho:=ds.map Sl.sh++List.replicate (N-ds.length) .un
def run (f:Nat->Rho->Option Ot) (k N n:Nat) (fr:Bool) (ds:List PyData):Option PyData:=if ds.length=k then SH fr (f n (st ds N)) else none
def ZC {t:TS3} (b:PuS t) (N:List Str) (k n:Nat) (fr:Bool):∀ ts G q,PSp (run b.f k N.length n fr) fr ts G q->ts.length=k/\t { nx:=λ_ G'=>q .non G',rt:=q } (qj N ts) G:=by
 rintro ts G q ⟨D,ds,d,hs,hd,hf,h⟩;unfold run at hf;split at hf
 ·rename_i hk;refine ⟨by rw [hs.length];exact hk,?_⟩;have r:RS D G (λ_=>none) (qj N ts) (st ds N.length) G:=by
   refine ⟨Ex.refl,hd,(λi p e=>by cases e),(λi p e=>by cases e),(λi j p e=>by cases e),(by simp [st,qj,hs.length]),λi d' e=>?_,λi es e=>?_,λi es e=>?_⟩
   ·unfold st at e;unfold qj;by_cases hi:i<ds.length
    ·rw [List.getElem?_append_left (by simpa using hi),getElem?_map] at e;obtain ⟨d2,e3,e4⟩:=Option.map_eq_some_iff.mp e;cases e4;obtain ⟨x,e5,hx⟩:=hs.get e3;refine ⟨x,?_,hx.up (jt λb z=>?_)⟩
     ·rw [List.getElem?_append_left (by simp [hs.length];exact hi),getElem?_map,e5];rfl
     ·rcases z with z|⟨i,z⟩
      ·exact z
      ·cases z
    ·rw [List.getElem?_append_right (by simpa using hi),List.getElem?_replicate] at e;split at e<;>cases e
   ·unfold st at e;by_cases hi:i<ds.length
    ·rw [List.getElem?_append_left (by simpa using hi),getElem?_map] at e;obtain ⟨d2,e3,e4⟩:=Option.map_eq_some_iff.mp e;cases e4
    ·rw [List.getElem?_append_right (by simpa using hi),List.getElem?_replicate] at e;split at e<;>cases e
   ·unfold st at e;by_cases hi:i<ds.length
    ·rw [List.getElem?_append_left (by simpa using hi),getElem?_map] at e;obtain ⟨d2,e3,e4⟩:=Option.map_eq_some_iff.mp e;cases e4
    ·rw [List.getElem?_append_right (by simpa using hi),List.getElem?_replicate] at e;split at e<;>cases e
  unfold SH at hf;split at hf
  ·rename_i d' b' e;split at hf
   ·split at hf
    ·cases hf;exact b.ok r e λx G' a c z=>h x G' a c λ_=>.inl rfl
    ·cases hf
   ·rename_i hb;cases hf;exact b.ok r e λx G' a c z=>h x G' a c λw=>z (by
     cases b' with
     |true=>rfl
     |false=>exact absurd ⟨w,rfl⟩ hb)
  ·rename_i ρ' e;split at hf
   ·cases hf
   ·rename_i hb;cases hf;exact b.ok r e λA τ G' r'=>h .non G' r'.ex .non λw=>absurd w hb
  ·cases hf
 ·cases hf
def qot {i:Nat}:(bV i).f=λρ=>vw ρ i:=id rfl
def qcN {i:Int}:(J2 i).f=λ_=>some (.int i):=id rfl
def qi5 {i:Bool}:(bBl i).f=λ_=>some (.bool i):=id rfl
def qdL {i:Str}:(qbN i).f=λ_=>some (.str i):=id rfl
def qdc:qnq.f=λ_=>some .none:=id rfl
def qox {r:R3} {ta tb:TE3} {R:OpD r} {a:PuE ta} {b:PuE tb}:(bO R a b).f=λρ=>(a.f ρ).bind λx=>(b.f ρ).bind λy=>R.f x y:=id rfl
def qdv:zR.f=λ_=>some []:=id rfl
def qap {ta:TE3} {tr:TA3} {a:PuE ta} {r:PuA tr}:(qk a r).f=λρ=>(a.f ρ).bind λx=>(r.f ρ).bind λxs=>some (x::xs):=id rfl
def qd4 {t:TA3} {a:PuA t} {hn:Tru (Nat.ble a.n 1000)}:(U3 a hn).f=λρ=>(a.f ρ).map .tuple:=id rfl
def qd6 {t:TA3} {a:PuA t} {hn:Tru (Nat.ble a.n 1000)}:(qdr a hn).f=λρ=>(a.f ρ).map .list:=id rfl
def qau {r:List T->Gp->Q3->Prop} {t:TA3} {R:FnD r} {a:PuA t}:(jR R a).f=λρ=>(a.f ρ).bind R.f:=id rfl
def qkd {t:TE3} {a:PuE t}:(bTb a).f=λρ=>(a.f ρ).bind asB:=id rfl
def qif {t u:TT3} {a:PuC t} {b:PuC u}:(bOr a b).f=λρ=>(a.f ρ).bind λk=>if k then some true else b.f ρ:=id rfl
def qda {t:TT3} {a:PuC t}:(qmm a).f=λρ=>(a.f ρ).map (! ·):=id rfl
def qhF:bTt.f=λ_=>some true:=id rfl
def NP {ta tb:TE3} {a:PuE ta} {b:PuE tb}:(SU a b).f=λρ=>((a.f ρ).bind asB).bind λk=>if k then b.f ρ else some (.bool false):=id rfl
def NE {ta:TE3} {a:PuE ta}:(qlk a).f=λρ=>((a.f ρ).bind asB).map λk=>.bool (!k):=id rfl
def qel {ta:TE3} {a:PuE ta}:(qiN a).f=λρ=>((a.f ρ).bind asI).map λi=>.int (-i):=id rfl
def qjb {r r':R3} {ta tb tc:TE3} {R:OpD r} {R':OpD r'} {a:PuE ta} {b:PuE tb} {c:PuE tc}:(bCh R R' a b c).f=λρ=>(a.f ρ).bind λx=>(b.f ρ).bind λy=>((R.f x y).bind asB).bind λk=>if k then (c.f ρ).bind λz=>R'.f y z else some (.bool false):=id rfl
def qc6 {ta:TE3} {g:String->Bool} {a:PuE ta}:(ql2 g a).f=λρ=>(a.f ρ).bind λd=>(tyD d).map λt=>.bool (g t):=id rfl
def qjf:bNp.f=λ_=>some none:=id rfl
def qhI {t:TE3} {a:PuE t}:(bSp a).f=λρ=>((a.f ρ).bind asI).map some:=id rfl
def qlQ {te:TE3} {tl th:TO3} {a:PuE te} {l:PuO tl} {h:PuO th}:(bSl a l h).f=λρ=>(a.f ρ).bind λd=>(l.f ρ).bind λlo=>(h.f ρ).bind λhi=>slD d lo hi:=id rfl
def qiK {wi:TI3} {g:TG3} {tif:TT3} {te:TE3} {pi:PuI wi} {pg:PuG g} {pc:PuC tif} {pe:PuE te} {m:List (Option Nat)} {hm:Tru (pg.tg.all λi=>m[i]?==some none)}:(bLc pi pg pc pe m hm).f=lcF pi.f (lcH pg.f pc.f pe.f) m:=id rfl
def qes {wi wi2:TI3} {g g2:TG3} {tif tif2:TT3} {te:TE3} {pi:PuI wi} {pg:PuG g} {pc:PuC tif} {pi2:PuI wi2} {pg2:PuG g2} {pc2:PuC tif2} {pe:PuE te} {m:List (Option Nat)} {hm:Tru (pg.tg.all λi=>m[i]?==some none)} {hm2:Tru (pg2.tg.all λi=>m[i]?==some none)} {hdj:Tru (pg2.tg.all λi=>!pg.tg.contains i)}:(qok pi pg pc pi2 pg2 pc2 pe m hm hm2 hdj).f=qir pi.f (qhN pg.f pc.f pi2.f (lcH pg2.f pc2.f pe.f)) m:=id rfl
def qdJ:qoA.f=qgR:=id rfl
def qaF {F:List PyData->Option PyData} {fr:Bool}:(JW F fr).f=F:=id rfl
def qlH {g:Int->Int->Int} {i j:Int}:(opI g).f (.int i) (.int j)=some (.int (g i j)):=id rfl
def qhg {g:Int->Int->Bool} {i j:Int}:(opB g).f (.int i) (.int j)=some (.bool (g i j)):=id rfl
def qie {C:Int->Int->Prop} {g:Int->Int->Int}:(opC C g).f=cI C g:=id rfl
def qdS {n:Bool}:(qfd n).f=eqD n:=id rfl
def qd7:qdk.f=ixD:=id rfl
def qaB:M4.f=qmp:=id rfl
def KL:LA.f=qgC:=id rfl
def qdG {t:TE3} {a:PuE t}:(qi3 a).f=λρ=>(a.f ρ).bind qmq:=id rfl
def qd9 {t:TA3} {a:PuA t}:(qmk a).f=λρ=>(a.f ρ).bind qhu:=id rfl
def qaR {t:TE3} {a:PuE t}:(qi3 a).nm=false:=id rfl
def qos {i:Nat}:(gN i).f=λd=>some [(i,d)]:=id rfl
def qcP:qcj.f []=some []:=id rfl
def qa6 {t:TG3} {u:SO} {a:PuG t} {b:PuGs u} {d:PyData} {r:List PyData}:(ZP a b).f (d::r)=(a.f d).bind λx=>(b.f r).map λy=>x++y:=id rfl
def qdn {u:SO} {n:Nat} {b:PuGs u} {ds:List PyData}:(qci n b).f (.tuple ds)=if ds.length=n then b.f ds else none:=id rfl
def qas:qat.f=λ_ ρ=>some (.nx ρ):=id rfl
def qcQ {t u:TS3} {a:PuS t} {b:PuS u}:(SY a b).f=qmc a.f b.f:=id rfl
def qkr {c:TT3} {t u:TS3} {pc:PuC c} {a:PuS t} {b:PuS u}:(sIf pc a b).f=λn ρ=>(pc.f ρ).bind λk=>if k then a.f n ρ else b.f n ρ:=id rfl
def qek {t:TE3} {a:PuE t}:(qbb a).f=λ_ ρ=>(a.f ρ).map λd=>.rt d a.nw:=id rfl
def NC {i:Nat}:(qgg i).f=λ_ ρ=>qgv ρ i:=id rfl
def qc3 {t:TE3} {a:PuE t} {i:Nat} {m:List Bool} {hm:Tru (a.fv.all (mkb m))}:(qmR a i m hm).f=λ_ ρ=>(a.f ρ).map λd=>.nx (qbg m a.nw i d ρ):=id rfl
def qaU {t:TE3} {g:TG3} {a:PuE t} {pg:PuG g} {m:List Bool} {hm:Tru (a.fv.all (mkb m))}:(ME a pg m hm).f=λ_ ρ=>(a.f ρ).bind λd=>(pg.f d).map λbs=>.nx (J1 (dm m ρ) bs):=id rfl
def qdh {t:TE3} {a:PuE t} {i:Nat} {m:List Bool} {hm:Tru (a.fv.all (mkb m))}:(qoG a i m hm).f=λ_ ρ=>(a.f ρ).bind λd=>qip i d (dmS m d ρ):=id rfl
def M6 {t:TE3} {a:PuE t}:(qgc a).f=λ_ ρ=>(a.f ρ).map λ_=>.nx ρ:=id rfl
def qcY {wi:TI3} {g:TG3} {tb:TS3} {pi:PuI wi} {pg:PuG g} {pb:PuS tb} {m:List Bool} {hm:Tru (pi.fv.all (mkb m))}:(qoF pi pg pb m hm).f=qmo pi.f pi.nm m pg.f pb.f:=id rfl
def qc2 {i:Bool}:(bBl i).nw=false:=id rfl
def qhe {r:R3} {ta tb:TE3} {R:OpD r} {a:PuE ta} {b:PuE tb}:(bO R a b).nw=R.nw:=id rfl
def NL {t:TA3} {a:PuA t} {hn:Tru (Nat.ble a.n 1000)}:(qdr a hn).nw=true:=id rfl
def KM {r:List T->Gp->Q3->Prop} {t:TA3} {R:FnD r} {a:PuA t}:(jR R a).nw=R.nw:=id rfl
def KH {F:List PyData->Option PyData} {fr:Bool}:(JW F fr).nw=fr:=id rfl
def KZ {ta tb:TE3} {a:PuE ta} {b:PuE tb}:(SU a b).nw=false:=id rfl
def qeE {wi:TI3} {g:TG3} {tif:TT3} {te:TE3} {pi:PuI wi} {pg:PuG g} {pc:PuC tif} {pe:PuE te} {m:List (Option Nat)} {hm:Tru (pg.tg.all λi=>m[i]?==some none)}:(bLc pi pg pc pe m hm).nw=true:=id rfl
def qaA {wi wi2:TI3} {g g2:TG3} {tif tif2:TT3} {te:TE3} {pi:PuI wi} {pg:PuG g} {pc:PuC tif} {pi2:PuI wi2} {pg2:PuG g2} {pc2:PuC tif2} {pe:PuE te} {m:List (Option Nat)} {hm:Tru (pg.tg.all λi=>m[i]?==some none)} {hm2:Tru (pg2.tg.all λi=>m[i]?==some none)} {hdj:Tru (pg2.tg.all λi=>!pg.tg.contains i)}:(qok pi pg pc pi2 pg2 pc2 pe m hm hm2 hdj).nw=true:=id rfl
def KI:M4.nw=false:=id rfl
def R8:LA.nw=true:=id rfl
def qoT {s:Sl} {r:Rho}:vw (s::r) 0=s.d:=id rfl
def qo3 {s:Sl} {r:Rho} {i:Nat}:vw (s::r) (i+1)=vw r i:=id rfl
def qk2 {d:PyData}:(Sl.sh d).d=some d:=id rfl
def qin {ds:List PyData}:(Sl.ow ds).d=some (.list ds):=id rfl
def qax {r:Rho} {ds:List PyData}:qgv (.ow ds::r) 0=some (.rt (.list ds) true):=id rfl
def MY {r:Rho} {d:PyData}:qgv (.sh d::r) 0=some (.rt d false):=id rfl
def qdU {s:Sl} {r:Rho} {i:Nat}:qgv (s::r) (i+1)=qgv r i:=id rfl
def qlC {xs:List PyData} {i:Int}:ixD (.tuple xs) (.int i)=L2.atI xs i:=id rfl
def qjg {xs:List PyData} {i:Int}:ixD (.list xs) (.int i)=L2.atI xs i:=id rfl
def at0 {α:Type} {a:α} {r:List α}:L2.atI (a::r) 0=some a:=by simp [L2.atI,ixN]
def at1 {α:Type} {a b:α} {r:List α}:L2.atI (a::b::r) 1=some b:=by
 have h:ixN (a::b::r).length 1=some 1:=by unfold ixN;rw [if_pos (by omega),if_pos (by simp;omega)];rfl
 unfold L2.atI;rw [h];rfl
def eqS {n:Bool} {a b:Str}:eqD n (.str a) (.str b)=some (.bool (if n then !decide (a=b) else decide (a=b))):=id rfl
def eqI {n:Bool} {a b:Int}:eqD n (.int a) (.int b)=some (.bool (if n then !decide (a=b) else decide (a=b))):=id rfl
def qb2 {C:Int->Int->Prop} {g:Int->Int->Int} {i j:Int} (h:C i j):cI C g (.int i) (.int j)=some (.int (g i j)):=by simp only [cI];exact JE h
def qfn {i j:Int} (h:-1000000<i/\i<1000000):cI U7 (·*·) (.int i) (.int j)=some (.int (i*j)):=qb2 (.inl ⟨by omega,by omega⟩)
def qjy {i j:Int} (h:0<j):cI (λ_ j=>0<j) (·%·) (.int i) (.int j)=some (.int (i%j)):=qb2 h
def qo0 {i j:Int}:qmp (.int i) (.int j)=some (.int (i+j)):=id rfl
def qnM {j:Int} (h:-1000000000<=j/\j<1000000000):qhu [.int j]=some ((LJ 0 j.toNat).map PyData.int):=by simp only [qhu];exact JE ⟨by omega,by omega⟩
def qiV {pi:Rho->Option (List PyData)} {h:Rho->PyData->Option (Option PyData)} {m:List (Option Nat)} {ρ:Rho} {ds fs:List PyData} (h1:pi ρ=some ds) (h2:lcP (h (SL m ρ)) ds=some fs) (h3:fs.length<=16777216):lcF pi h m ρ=some (.list fs):=by unfold lcF;rw [h1];simp only [Option.bind_some,h2];exact JE h3
def qfS {pi:Rho->Option (List PyData)} {h:Rho->PyData->Option (Option (List PyData))} {m:List (Option Nat)} {ρ:Rho} {ds fs:List PyData} (h1:pi ρ=some ds) (h2:qgu (h (SL m ρ)) ds=some fs) (h3:fs.length<=16777216):qir pi h m ρ=some (.list fs):=by unfold qir;rw [h1];simp only [Option.bind_some,h2];exact JE h3
def qge {i:Nat} {d:PyData} {ρ:Rho} {ds:List PyData} (h:slot ρ i=some ds) (hl:ds.length<16777216):qip i d ρ=some (.nx (ρ.set i (.ow (ds++[d])))):=by unfold qip;rw [h];simp only [Option.bind_some];exact JE hl
def qbP {gf:PyData->Option (List (Nat×PyData))} {bf:Rho->Option Ot} {α:Type} {g:α->PyData} (xs:List α) (I:Nat->Rho->Prop) {ρ:Rho} (h0:I 0 ρ)
  (hs:∀ i x ρ,xs[i]?=some x->I i ρ->∃ bs ρ',gf (g x)=some bs/\(bf (J1 ρ bs)=some (.nx ρ')\/bf (J1 ρ bs)=some (.ct ρ'))/\I (i+1) ρ'):∃ ρ',qaS gf bf (xs.map g) ρ=some (.nx ρ')/\I xs.length ρ':=by
 have key:∀ (r:List α) (i:Nat) (ρ:Rho),xs.drop i=r->i<=xs.length->I i ρ->∃ ρ',qaS gf bf (r.map g) ρ=some (.nx ρ')/\I xs.length ρ':=by
  intro r;induction r with
  |nil=>
   intro i ρ e hi h;have:i=xs.length:=by
    have:=congrArg List.length e;simp at this;omega
   subst this;exact ⟨ρ,rfl,h⟩
  |cons x r ih=>
   intro i ρ e hi h;have hl:i<xs.length:=by
    have:=congrArg List.length e;simp at this;omega
   have e':=List.drop_eq_getElem_cons hl;rw [e] at e';injection e' with e1 e2;obtain ⟨bs,ρ',h1,h2,h3⟩:=hs i x ρ (by rw [getElem?_eq_getElem hl,e1]) h;obtain ⟨ρ2,h4,h5⟩:=ih (i+1) ρ' e2.symm hl h3;refine ⟨ρ2,?_,h5⟩;simp only [map_cons,qaS,h1,Option.bind_some];rcases h2 with h2|h2<;>(rw [h2];exact h4)
 exact key xs 0 ρ (by simp) (Nat.zero_le _) h0
def sqk (b:Nat->Rho->Option Ot) (n:Nat) (o:Ot):Option Ot:=match o with|.nx ρ'=>b n ρ'|o=>some o
def qen {a b:Nat->Rho->Option Ot} {n:Nat} {ρ:Rho}:qmc a b n ρ=(a n ρ).bind (sqk b n):=id rfl
def qdK {b:Nat->Rho->Option Ot} {n:Nat} {ρ:Rho}:sqk b n (.nx ρ)=b n ρ:=id rfl
def qcD {b:Nat->Rho->Option Ot} {n:Nat} {d:PyData} {f:Bool}:sqk b n (.rt d f)=some (.rt d f):=id rfl
def qah {d:PyData}:SH true (some (.rt d true))=some d:=id rfl
def qcV {d:PyData} {b:Bool}:SH false (some (.rt d b))=some d:=by simp [SH]
def qak {ρ:Rho}:SH false (some (.nx ρ))=some .none:=id rfl
def qhd {b:Bool}:asB (.bool b)=some b:=id rfl
def qgU {b:Int}:asI (.int b)=some b:=id rfl
def qdz {xs:List PyData}:qgR [.tuple xs]=some (.int xs.length):=id rfl
def qdQ {xs:List PyData}:qgR [.list xs]=some (.int xs.length):=id rfl
def qdw {xs:List PyData}:qmq (.list xs)=some xs:=id rfl
def qkv {i:Int}:tyD (.int i)=some "int" := id rfl
def qje {i:Bool}:tyD (.bool i)=some "bool" := id rfl
def qgP:tyD .none=some "NoneType" := id rfl
def qkK {i:Str}:tyD (.str i)=some "str" := id rfl
def qh3 {i:List PyData}:tyD (.tuple i)=some "tuple" := id rfl
def qjG {i:List PyData}:tyD (.list i)=some "list" := id rfl
def qkT {m:List Bool} {nw:Bool} {i:Nat} {v:Int} {ρ:Rho}:qbg m nw i (.int v) ρ=ρ.set i (.sh (.int v)):=id rfl
def qfQ {m:List Bool} {nw:Bool} {i:Nat} {v:List PyData} {ρ:Rho}:qbg m nw i (.tuple v) ρ=(dm m ρ).set i (.sh (.tuple v)):=by cases nw<;>rfl
def qc8 {m:List Bool} {i:Nat} {v:List PyData} {ρ:Rho}:qbg m true i (.list v) ρ=(dm m ρ).set i (.ow v):=id rfl
def qhq {m:List Bool} {v:Int} {ρ:Rho}:dmS m (.int v) ρ=ρ:=id rfl
def qgL {m:List Bool} {v:List PyData} {ρ:Rho}:dmS m (.tuple v) ρ=dm m ρ:=id rfl
def qoI {ρ:Rho}:dm [] ρ=ρ:=id rfl
def qoC {m:List Bool} {s:Sl} {ρ:Rho}:dm (true::m) (s::ρ)=s.dem::dm m ρ:=id rfl
def qoP {m:List Bool} {s:Sl} {ρ:Rho}:dm (false::m) (s::ρ)=s::dm m ρ:=id rfl
def qkw {ds:List PyData}:(Sl.ow ds).dem=.sh (.list ds):=id rfl
def qiD {d:PyData}:(Sl.sh d).dem=.sh d:=id rfl
def qh1 {ρ:Rho}:SL [] ρ=[]:=id rfl
def qlS {m:List (Option Nat)} {ρ:Rho}:SL (none::m) ρ=.un::SL m ρ:=id rfl
def cp (o:Option PyData):Sl:=match o with|some d=>.sh d|none=>.un
def qhL {m:List (Option Nat)} {j:Nat} {ρ:Rho}:SL (some j::m) ρ=cp (vw ρ j)::SL m ρ:=id rfl
def qo2 {d:PyData}:cp (some d)=.sh d:=id rfl
def qjj {i j:Nat} {m:List Bool} {x y:Int} {ρ:Rho}:qmb i j m [.int x,.int y] ρ=some (.nx ((ρ.set i (.sh (.int x))).set j (.sh (.int y)))):=id rfl
def qei {pi:Rho->Option (List PyData)} {m:List Bool} {gf:PyData->Option (List (Nat×PyData))} {bf:Nat->Rho->Option Ot} {n:Nat} {ρ:Rho}:qmo pi false m gf bf n ρ=(pi ρ).bind λds=>qaS gf (bf n) ds (dm m ρ):=id rfl
def qev {ρ:Rho}:J1 ρ []=ρ:=id rfl
def qeu {ρ:Rho} {i:Nat} {d:PyData} {r:List (Nat×PyData)}:J1 ρ ((i,d)::r)=J1 (ρ.set i (.sh d)) r:=id rfl
def qlE {gf:PyData->Option (List (Nat×PyData))} {cf:Rho->Option Bool} {ef:Rho->Option PyData} {ρ:Rho} {d:PyData}:lcH gf cf ef ρ d=(gf d).bind λbs=>(cf (J1 ρ bs)).bind λk=>if k then (ef (J1 ρ bs)).map some else some none:=id rfl
def qkf {gf:PyData->Option (List (Nat×PyData))} {cf:Rho->Option Bool} {it:Rho->Option (List PyData)} {h:Rho->PyData->Option (Option PyData)} {ρ:Rho} {d:PyData}:qhN gf cf it h ρ d=(gf d).bind λbs=>(cf (J1 ρ bs)).bind λk=>if k then ((it (J1 ρ bs)).bind λds=>lcP (h (J1 ρ bs)) ds).map some else some none:=id rfl
def Nx (o:Option Ot) (P:Rho->Prop):Prop:=match o with|some (.nx ρ)=>P ρ|some (.ct ρ)=>P ρ|_=>False
def qli {ρ:Rho} {P:Rho->Prop}:Nx (some (.nx ρ)) P=P ρ:=id rfl
def qoq {o:Option Ot} {P:Rho->Prop} (h:Nx o P):∃ ρ,(o=some (.nx ρ)\/o=some (.ct ρ))/\P ρ:=by
 unfold Nx at h;split at h
 ·exact ⟨_,.inl rfl,h⟩
 ·exact ⟨_,.inr rfl,h⟩
 ·exact h.elim
section
variable {gf:PyData->Option (List (Nat×PyData))} {bf:Rho->Option Ot} {α:Type} {g:α->PyData} {ρ:Rho} {Q:Option Ot->Prop} {F:Ot->Option Ot}
def qb7 (xs:List α) (I:Nat->Rho->Prop) (h0:I 0 ρ) (hs:∀ i x ρ,xs[i]?=some x->I i ρ->Nx ((gf (g x)).bind λbs=>bf (J1 ρ bs)) (I (i+1))) (k:∀ ρ',I xs.length ρ'->Q (some (.nx ρ'))):Q (qaS gf bf (xs.map g) ρ):=by
 obtain ⟨ρ',e,h⟩:=qbP (gf:=gf) (bf:=bf) (g:=g) xs I h0 λi x ρ hx hi=>by
  obtain ⟨ρ2,e,h⟩:=qoq (hs i x ρ hx hi);cases e1:gf (g x) with
  |none=>rw [e1] at e;rcases e with e|e<;>cases e
  |some bs=>rw [e1] at e;exact ⟨bs,ρ2,rfl,e,h⟩
 rw [e];exact k ρ' h
def qfN (xs:List α) (I:Nat->Rho->Prop) (h0:I 0 ρ) (hs:∀ i x ρ,xs[i]?=some x->I i ρ->Nx ((gf (g x)).bind λbs=>bf (J1 ρ bs)) (I (i+1))) (k:∀ ρ',I xs.length ρ'->Q (F (.nx ρ'))):Q ((qaS gf bf (xs.map g) ρ).bind F):=
 qb7 (Q:=λo=>Q (o.bind F)) xs I h0 hs k
end
def SM {α:Type} {us:List α} (h:us.length=1):∃ a0,us=[a0]:=List.length_eq_one_iff.mp h
def KR {α:Type} {us:List α} (h:us.length=2):∃ a0 a1,us=[a0,a1]:=by
 obtain ⟨a0,r,rfl⟩:=List.exists_cons_of_length_pos (show 0<us.length by omega);obtain ⟨a1,rfl⟩:=SM (show r.length=1 by simpa using h);exact ⟨a0,a1,rfl⟩
def qmO {α:Type} {us:List α} (h:us.length=3):∃ a0 a1 a2,us=[a0,a1,a2]:=by
 obtain ⟨a0,r,rfl⟩:=List.exists_cons_of_length_pos (show 0<us.length by omega);obtain ⟨a1,a2,rfl⟩:=KR (show r.length=2 by simpa using h);exact ⟨a0,a1,a2,rfl⟩
end Pu
namespace Pv
open PySem L2 L3 Pu
open Bk (Dl)
def pD (p:Int×Int):PyData:=.tuple [.int p.1,.int p.2]
def qgy (r:List Int):PyData:=.tuple (r.map PyData.int)
def dlD:Dl->PyData
 |.skew r c b x y=>.tuple [.str "skew",.int r,.int c,.int b,.int x,.int y]
 |.rests r c b p=>.tuple [.str "rests",.int r,.int c,.int b,.int p]
 |.bits h l ms=>.tuple [.str "bits",.int h,.int l,.tuple (ms.map PyData.int)]
 |.table b cells=>.tuple [.str "table",.int b,.tuple (cells.map qgy)]
 |.joined d e=>.tuple [.str "joined",dlD d,dlD e]
def NS (G:Gp):∀ (cs:List (List Int)),Dqs G (cs.map Bk.MH) (cs.map qgy)
 |[]=>.nil
 |r::cs=>.cons (.tup (Dqs.ofInts r)) (NS G cs)
def qeI (G:Gp):∀ (d:Dl),Dq G d.t (dlD d)
 |.skew r c b x y=>.tup (.cons (.str _) (.cons (.int _) (.cons (.int _) (.cons (.int _) (.cons (.int _) (.cons (.int _) .nil))))))
 |.rests r c b p=>.tup (.cons (.str _) (.cons (.int _) (.cons (.int _) (.cons (.int _) (.cons (.int _) .nil)))))
 |.bits h l ms=>.tup (.cons (.str _) (.cons (.int _) (.cons (.int _) (.cons (.tup (Dqs.ofInts ms)) .nil))))
 |.table b cells=>.tup (.cons (.str _) (.cons (.int _) (.cons (.tup (NS G cells)) .nil)))
 |.joined d e=>.tup (.cons (.str _) (.cons (qeI G d) (.cons (qeI G e) .nil)))
end Pv
namespace Pu
open PySem L2 L3
open Bk (Lf Ext)
section
variable {D:Addr->Prop} {a:Addr} {G G' G0:Gp} {n n':Nat} {fv gv:List Nat} {l:Nat} {τ:St3} {ρ:Rho}
def RH (e:Ext a G G') (h:D a):Ex (rs D G) (rs D G'):=λb o x=>by
 obtain ⟨n,x⟩:=za x;rw [QR n];exact e b o (by rintro rfl;exact n h) x
def CN {k:Int} (h:Lf G a k):G a≠none:=by
 obtain ⟨o,c,m,e,_⟩:=h;rw [e];simp
def CD {k:Int} (hd:Dom D G) (e:Ext a G G') (lf:Lf G' a k):Dom D G':=λb hb z=>by
 by_cases h:b=a
 ·subst h;exact CN lf z
 ·cases g:G b with
  |none=>exact hd b hb g
  |some o=>rw [e b o h g] at z;cases z
def Nw.backx {x:T} {d:PyData} {k:Int} (h:Nw D G G' x d) (e:Ext a G0 G) (lf:Lf G a k):Nw D G0 G' x d:=by
 rcases h with h|⟨p,xs,ds,h1,h2,c,r⟩
 ·exact .inl h
 refine .inr ⟨p,xs,ds,h1,h2,?_,r⟩;cases z:G0 p with
 |none=>rfl
 |some o=>
  by_cases hp:p=a
  ·subst hp;exact absurd c (CN lf)
  ·rw [e p o hp z] at c;cases c
structure Ln (fv:List Nat) (l:Nat) (D:Addr->Prop) (G:Gp) (τ:St3) (ρ:Rho) (a:Addr) (n:Nat):Prop where
 v:XY fv D G τ ρ
 d:Dom D G
 da:D a
 tl:τ[l]?=some (some (.ref a))
 ul:vw ρ l=none
 lf:Lf G a n
def Ln.up (h:Ln fv l D G τ ρ a n) (e:Ext a G G') (lf:Lf G' a n'):Ln fv l D G' τ ρ a n':=
 ⟨λi hi d hd=>let ⟨t,x,y⟩:=h.v i hi d hd;⟨t,x,y.up (RH e h.da)⟩,CD h.d e lf,h.da,h.tl,h.ul,lf⟩
def Ln.fst (h:Ln (fv++gv) l D G τ ρ a n):Ln fv l D G τ ρ a n:=⟨h.v.l,h.d,h.da,h.tl,h.ul,h.lf⟩
def Ln.snd (h:Ln (fv++gv) l D G τ ρ a n):Ln gv l D G τ ρ a n:=⟨h.v.r,h.d,h.da,h.tl,h.ul,h.lf⟩
end
abbrev QD:=PyData->Nat->Prop
structure PwE (l:Nat) (t:TE3) where
 w:Rho->Nat->QD->Prop
 fv:List Nat
 nw:Bool
 mono:∀ {ρ n} {Q Q':QD},w ρ n Q->(∀ d m,Q d m->Q' d m)->w ρ n Q'
 ok:∀ {D τ ρ G a n} {q:Q3} {Q:QD},Ln fv l D G τ ρ a n->w ρ n Q->(∀ x d G' n',Q d n'->Ext a G G'->Lf G' a n'->Dq (rs D G') x d->(nw=true->Nw D G G' x d)->q x G')->t τ G q
structure PwC (l:Nat) (t:TT3) where
 w:Rho->Nat->(Bool->Nat->Prop)->Prop
 fv:List Nat
 mono:∀ {ρ n} {Q Q':Bool->Nat->Prop},w ρ n Q->(∀ d m,Q d m->Q' d m)->w ρ n Q'
 ok:∀ {D τ ρ G a n} {q:Bool->Gp->Prop} {Q:Bool->Nat->Prop},Ln fv l D G τ ρ a n->w ρ n Q->(∀ k G' n',Q k n'->Ext a G G'->Lf G' a n'->q k G')->t τ G q
structure PwA (l:Nat) (t:TA3) where
 w:Rho->Nat->(List PyData->Nat->Prop)->Prop
 fv:List Nat
 k:Nat
 mono:∀ {ρ n} {Q Q':List PyData->Nat->Prop},w ρ n Q->(∀ d m,Q d m->Q' d m)->w ρ n Q'
 ok:∀ {D τ ρ G a n} {q:List T->Gp->Prop} {Q:List PyData->Nat->Prop},Ln fv l D G τ ρ a n->w ρ n Q->(∀ x d G' n',Q d n'->d.length=k->Ext a G G'->Lf G' a n'->Dqs (rs D G') x d->q x G')->t τ G q
structure PwI (l:Nat) (t:TI3) where
 w:Rho->Nat->(List PyData->Nat->Prop)->Prop
 fv:List Nat
 nm:Bool
 mono:∀ {ρ n} {Q Q':List PyData->Nat->Prop},w ρ n Q->(∀ d m,Q d m->Q' d m)->w ρ n Q'
 ok:∀ {D τ ρ G a n} {r:List T->(Gp->Prop)->Gp->Prop} {Q:List PyData->Nat->Prop},Ln fv l D G τ ρ a n->w ρ n Q ->
  (∀ items stay ds G' n',Q ds n'->Ext a G G'->Lf G' a n'->Dqs (rs D G') items ds->(∀ G'',(nm=true\/Ex (rs D G') G'')->stay G'')->(nm=true->∃ ns:List Int,ds=ns.map PyData.int)->r items stay G')->t τ G r
structure DrD (r:List T->Gp->Q3->Prop) where
 W:List PyData->Nat->QD->Prop
 nw:Bool
 mono:∀ {ds n} {Q Q':QD},W ds n Q->(∀ d m,Q d m->Q' d m)->W ds n Q'
 ok:∀ {D:Addr->Prop} {G:Gp} {a:Addr} {n:Nat} {ts:List T} {ds:List PyData} {q:Q3} {Q:QD},Lf G a n->D a->Dom D G->Dqs (rs D G) ts ds->W ds n Q->(∀ x d G' n',Q d n'->Ext a G G'->Lf G' a n'->Dq (rs D G') x d->(nw=true->Nw D G G' x d)->q x G')->r (.ref a::ts) G q
section
variable {l:Nat}
def eOf {t:TE3} (b:PuE t):PwE l t:=⟨λρ n Q=>∃ d,b.f ρ=some d/\Q d n,b.fv,b.nw,λ⟨d,h1,h2⟩ h=>⟨d,h1,h _ _ h2⟩,λh ⟨d,h1,h2⟩ k=>
 b.ok h.v h.d h1 λx G1 E1 D1 N1=>k x d G1 _ h2 (Bk.SC E1) (h.lf.ex E1) D1 N1⟩
def cOf {t:TT3} (b:PuC t):PwC l t:=⟨λρ n Q=>∃ d,b.f ρ=some d/\Q d n,b.fv,λ⟨d,h1,h2⟩ h=>⟨d,h1,h _ _ h2⟩,λh ⟨d,h1,h2⟩ k=>
 b.ok h.v h.d h1 λG1 E1=>k d G1 _ h2 (Bk.SC E1) (h.lf.ex E1)⟩
def aOf {t:TA3} (b:PuA t):PwA l t:=⟨λρ n Q=>∃ d,b.f ρ=some d/\Q d n,b.fv,b.n,λ⟨d,h1,h2⟩ h=>⟨d,h1,h _ _ h2⟩,λh ⟨d,h1,h2⟩ k=>
 b.ok h.v h.d h1 λx G1 E1 D1=>k x d G1 _ h2 (b.ln h1) (Bk.SC E1) (h.lf.ex E1) D1⟩
def iOf {t:TI3} (b:PuI t):PwI l t:=⟨λρ n Q=>∃ d,b.f ρ=some d/\Q d n,b.fv,b.nm,λ⟨d,h1,h2⟩ h=>⟨d,h1,h _ _ h2⟩,λh ⟨d,h1,h2⟩ k=>
 b.ok h.v h.d h1 λitems stay G1 E1 D1 s nm=>k items stay d G1 _ h2 (Bk.SC E1) (h.lf.ex E1) D1 s nm⟩
def eO {r:R3} {ta tb:TE3} (R:OpD r) (a:PwE l ta) (b:PwE l tb):PwE l (o3 r ta tb):=
 ⟨λρ n Q=>a.w ρ n λx n1=>b.w ρ n1 λy n2=>∃ v,R.f x y=some v/\Q v n2,a.fv++b.fv,R.nw,λh k=>a.mono h λx n1 h=>b.mono h λy n2 ⟨v,h1,h2⟩=>⟨v,h1,k _ _ h2⟩,λh hw k=>
  a.ok h.fst hw λx dx G1 n1 h1 E1 L1 D1 _=>b.ok (h.snd.up E1 L1) h1 λy dy G2 n2 ⟨v,e,hq⟩ E2 L2 D2 _=>R.ok (D1.up (RH E2 h.da)) D2 (CD (CD h.d E1 L1) E2 L2) e λz G3 E3 D3 N3=>k z v G3 n2 hq ((E1.trans E2).trans (Bk.SC E3)) (L2.ex E3) D3 λz=>(N3 z).backx (E1.trans E2) L2⟩
def qe2 {ta:TE3} {tr:TA3} (a:PwE l ta) (r:PwA l tr):PwA l (qb ta tr):=
 ⟨λρ n Q=>a.w ρ n λx n1=>r.w ρ n1 λxs n2=>Q (x::xs) n2,a.fv++r.fv,r.k+1,λh k=>a.mono h λx n1 h=>r.mono h λxs n2 h=>k _ _ h,λh hw k=>
  a.ok h.fst hw λx dx G1 n1 h1 E1 L1 D1 _=>r.ok (h.snd.up E1 L1) h1 λy dy G2 n2 hq hl E2 L2 D2=>k _ _ G2 n2 hq (by simp [hl]) (E1.trans E2) L2 (.cons (D1.up (RH E2 h.da)) D2)⟩
def eDr {r:List T->Gp->Q3->Prop} {t:TA3} (R:DrD r) (b:PwA l t):PwE l (cb3 r (qb (v3 l) t)):=⟨λρ n Q=>b.w ρ n λxs n1=>R.W xs n1 Q,b.fv,R.nw,λh k=>b.mono h λxs n1 h=>R.mono h k,λ{D τ ρ G a n q Q} h hw k=>by
 simp only [cb3,qb,v3,h.tl];exact b.ok h hw λx dx G1 n1 hW hl E1 L1 D1=>R.ok L1 h.da (CD h.d E1 L1) D1 hW λz d G3 n3 hq E3 L3 D3 N3=>k z d G3 n3 hq (E1.trans E3) L3 D3 λz=>(N3 z).backx E1 L1⟩
end
def VA.ext {D:Addr->Prop} {a:Addr} {G G':Gp} {τ:St3} {ρ:Rho} (h:VA D G τ ρ) (e:Ext a G G') (da:D a):VA D G' τ ρ:=h.upx (RH e da)
structure RL (l:Nat) (a:Addr) (z0:Option (Option T)×Nat) (D:Addr->Prop) (G0:Gp) (A:Nat->Option Addr) (τ:St3) (ρ:Rho) (G:Gp) (n:Nat):Prop where
 r:RS D G0 A τ ρ G
 al:A l=some a
 tl:τ[l]?=some (some (.ref a))
 ul:ρ[l]?=some Sl.un
 lf:Lf G a n
 tz:τ[0]?=z0.1/\τ.length=z0.2
section
variable {l:Nat} {a:Addr} {z0:Option (Option T)×Nat} {D:Addr->Prop} {G0 G G':Gp} {A:Nat->Option Addr} {τ:St3} {ρ:Rho} {n n':Nat}
def RL.vl (h:RL l a z0 D G0 A τ ρ G n):vw ρ l=none:=by unfold vw;rw [h.ul];rfl
def RL.up (h:RL l a z0 D G0 A τ ρ G n) (e:Ext a G G') (lf:Lf G' a n'):RL l a z0 D G0 A τ ρ G' n':=by
 have X:Ex (rs (AD D A) G) (rs (AD D A) G'):=RH e (.inr ⟨l,h.al⟩);refine ⟨⟨λb o x=>e b o (by rintro rfl;rw [h.r.fr l _ h.al] at x;cases x) (h.r.ex b o x),h.r.dm,h.r.fr,λi p hp z=>?_,h.r.inj,h.r.len,λi d x=>let ⟨t,y,z⟩:=h.r.sh i d x;⟨t,y,z.up X⟩,λi ds x=>?_,λi ds x=>?_⟩,h.al,h.tl,h.ul,lf,h.tz⟩
 ·by_cases c:p=a
  ·subst c;exact CN lf z
  ·cases g:G p with
   |none=>exact h.r.da i p hp g
   |some o=>rw [e p o c g] at z;cases z
 ·obtain ⟨p,xs,y1,y2,y3,y4⟩:=h.r.ow i ds x;refine ⟨p,xs,y1,y2,e p _ ?_ y3,y4.up X⟩;rintro rfl;have:=h.r.inj i l _ y1 h.al;subst this;rw [h.ul] at x;cases x
 ·obtain ⟨p,xs,y1,y2,y3,yk,y4⟩:=h.r.dc i ds x;refine ⟨p,xs,y1,y2,e p _ ?_ y3,yk,y4.up X⟩;rintro rfl;have:=h.r.inj i l _ y1 h.al;subst this;rw [h.ul] at x;cases x
def RL.all (h:RL l a z0 D G0 A τ ρ G n) (fv:List Nat):Ln fv l (λb=>D b\/b=a) G τ ρ a n:=by
 refine ⟨λi _ d hd=>?_,λb hb=>?_,.inr rfl,h.tl,h.vl,h.lf⟩
 ·unfold vw at hd;obtain ⟨s,e,hd⟩:=obb hd;have less:Ex (rs (AD D A) G) (rs (λb=>D b\/b=a) G):=jt λb z=>by
   rcases z with z|z
   ·exact .inl z
   ·subst z;exact .inr ⟨l,h.al⟩
  cases s with
  |un=>cases hd
  |sh d'=>
   cases hd;obtain ⟨t,b,c⟩:=h.r.sh i _ e;exact ⟨t,b,c.up less⟩
  |ow ds=>
   cases hd;obtain ⟨p,xs,b,c,g,f⟩:=h.r.ow i _ e;refine ⟨_,c,.lst ?_ (f.up less)⟩;rw [QR]
   ·exact g
   ·rintro (z|z)
    ·exact h.r.nd b z
    ·subst z;have:=h.r.inj i l _ b h.al;subst this;rw [h.ul] at e;cases e
  |dc kvs=>cases hd
 ·rcases hb with hb|hb
  ·exact h.r.domD b hb
  ·subst hb;exact CN h.lf
def qoB {m:List Bool} (hm:mkb m l=false) (al:A l=some a):Ad m A l=some a:=by unfold Ad;rw [if_neg (by rw [hm];simp)];exact al
def RL.dem (h:RL l a z0 D G0 A τ ρ G n) {m:List Bool} (hm:mkb m l=false):RL l a z0 D G0 (Ad m A) τ (Pu.dm m ρ) G n:=
 ⟨h.r.dem m,qoB hm h.al,h.tl,by rw [MT,h.ul];simp [hm],h.lf,h.tz⟩
def RL.ln (h:RL l a z0 D G0 A τ ρ G n) {m:List Bool} {fv:List Nat} (hm:mkb m l=false) (hf:Tru (fv.all (mkb m))):Ln fv l (AD D (Ad m A)) G τ ρ a n:=
 ⟨h.r.viewD hf,(h.r.dem m).dom,.inr ⟨l,qoB hm h.al⟩,h.tl,h.vl,h.lf⟩
def RL.put (h:RL l a z0 D G0 A τ ρ G n) {i:Nat} (hi:i≠l) (h0:i≠0) {x:T} {d:PyData} (hx:Dq (rs (AD D A) G) x d):RL l a z0 D G0 (Er A i) (τ.set i (some x)) (ρ.set i (.sh d)) G n:=
 ⟨h.r.put i hx,by unfold Er;rw [if_neg (λz=>hi z.symm)];exact h.al,by rw [getElem?_set,if_neg hi];exact h.tl,by rw [getElem?_set,if_neg hi];exact h.ul,h.lf,⟨by rw [getElem?_set,if_neg h0];exact h.tz.1,by rw [List.length_set];exact h.tz.2⟩⟩
def RL.puts:∀ {ts:List (Nat×T)} {bs:List (Nat×PyData)} {A:Nat->Option Addr} {τ:St3} {ρ:Rho},RL l a z0 D G0 A τ ρ G n->Bd (rs (AD D A) G) ts bs->(∀ p∈bs,p.1≠l/\p.1≠0)->∃ A',RL l a z0 D G0 A' (sets τ ts) (J1 ρ bs) G n
 |_,_,A,_,_,h,.nil,_=>⟨A,h⟩
 |_,_,A,_,_,h,.cons x b,hn=>by
  unfold sets J1;exact RL.puts (h.put (hn _ List.mem_cons_self).1 (hn _ List.mem_cons_self).2 x) (b.up qkx) (λp hp=>hn p (List.mem_cons_of_mem _ hp))
def RL.putN (h:RL l a z0 D G0 A τ ρ G n) {i:Nat} (hi:i≠l) (h0:i≠0) {x:T} {d:PyData} {ds:List PyData} (hd:d=.list ds) (E:Ext a G G') (lf:Lf G' a n') (hx:Nw (AD D A) G G' x d):∃ A',RL l a z0 D G0 A' (τ.set i (some x)) (ρ.set i (.ow ds)) G' n':=by
 have h1:=h.up E lf;rcases hx with hx|⟨p,xs,ds',rfl,e',gp,gp',hs⟩
 ·rw [hd] at hx;cases hx
 rw [hd] at e';cases e';have np:∀ {j q},A j=some q->q≠p:=λe=>by rintro rfl;exact h.r.da _ _ e gp
 have X1:Ex (rs (AD D A) G) (rs (AD D (λj=>if j=i then some p else A j)) G'):=λb o e=>by
  obtain ⟨n,e⟩:=za e;rw [QR]
  ·exact E b o (by rintro rfl;exact n (.inr ⟨l,h.al⟩)) e
  ·rintro (z|⟨j,z⟩)
   ·exact n (.inl z)
   ·simp only at z;split at z
    ·cases z;rw [gp] at e;cases e
    ·exact n (.inr ⟨j,z⟩)
 refine ⟨λj=>if j=i then some p else A j,⟨h1.r.ex,h.r.dm,λj q e=>?_,λj q e=>?_,λj k q x y=>?_,by simp [h.r.len],λj e he=>?_,λj es e=>?_,λj es e=>?_⟩,by rw [if_neg (λz=>hi z.symm)];exact h.al,by rw [getElem?_set,if_neg hi];exact h.tl,by rw [getElem?_set,if_neg hi];exact h.ul,lf,⟨by rw [getElem?_set,if_neg h0];exact h.tz.1,by rw [List.length_set];exact h.tz.2⟩⟩
 ·split at e
  ·cases e;cases z:G0 p with
   |none=>rfl
   |some o=>rw [h.r.ex _ _ z] at gp;cases gp
  ·exact h.r.fr j q e
 ·split at e
  ·cases e;rw [gp'];simp
  ·exact h1.r.da j q e
 ·split at x
  ·cases x;split at y
   ·rename_i h1 h2;rw [h1,h2]
   ·exact absurd rfl (np y)
  ·split at y
   ·cases y;exact absurd rfl (np x)
   ·exact h.r.inj j k q x y
 ·rw [getElem?_set] at he ⊢;split at he
  ·split at he<;>cases he
  ·rename_i hj;rw [if_neg hj];obtain ⟨t,b,c⟩:=h.r.sh j _ he;exact ⟨t,b,c.up X1⟩
 ·rw [getElem?_set] at e ⊢;split at e
  ·rename_i hj;subst hj;split at e
   ·rename_i hl;cases e;refine ⟨p,xs,by simp,by rw [if_pos rfl,if_pos (by rw [← h.r.len];exact hl)],gp',hs.up (jt λb z=>?_)⟩;rcases z with z|⟨j,z⟩
    ·exact .inl (.inl z)
    ·simp only at z;split at z
     ·cases z;exact .inr rfl
     ·exact .inl (.inr ⟨j,z⟩)
   ·cases e
  ·rename_i hj;rw [if_neg hj];obtain ⟨q,ys,b,c,g,f⟩:=h1.r.ow j _ e;obtain ⟨q',ys',b',c',g',f'⟩:=h.r.ow j _ e;rw [b] at b';cases b';have:G' q=some (.lst ys'):=E q _ (by rintro rfl;have:=h.r.inj j l _ b h.al;subst this;rw [h.ul] at e;cases e) g';exact ⟨q,ys',by rw [if_neg (λz=>hj z.symm)];exact b,c,this,f'.up X1⟩
 ·rw [getElem?_set] at e ⊢;split at e
  ·split at e<;>cases e
  ·rename_i hj;rw [if_neg hj];obtain ⟨q,ys,b,c,g,k,f⟩:=h.r.dc j _ e;have:G' q=some (.dct ys):=E q _ (by rintro rfl;have:=h.r.inj j l _ b h.al;subst this;rw [h.ul] at e;cases e) g;exact ⟨q,ys,by rw [if_neg (λz=>hj z.symm)];exact b,c,this,k,f.up X1⟩
def RL.wr (h:RL l a z0 D G0 A τ ρ G n) {i:Nat} {p:Addr} {xs:List T} {ds ds0:List PyData} (ho:ρ[i]?=some (Sl.ow ds0)) (hi:A i=some p) (ht:τ[i]?=some (some (.ref p))) (hs:Dqs (rs (AD D A) G) xs ds):RL l a z0 D G0 A τ (ρ.set i (.ow ds)) (gu G p (.lst xs)) n:=by
 have il:i≠l:=by rintro rfl;rw [h.ul] at ho;cases ho
 have pa:p≠a:=by rintro rfl;exact il (h.r.inj i l _ hi h.al)
 exact ⟨h.r.wr hi ht hs,h.al,h.tl,by rw [getElem?_set,if_neg il];exact h.ul,h.lf.new pa,h.tz⟩
end
abbrev QO:=Ot->Nat->Prop
def NV (l:Nat) (a:Addr) (z0:Option (Option T)×Nat) (D:Addr->Prop) (G0:Gp) (e:Ends3):Ot->Nat->Prop
 |.nx ρ,n=>∀ A τ G,RL l a z0 D G0 A τ ρ G n->e.nx τ G
 |.bk ρ,n=>∀ A τ G,RL l a z0 D G0 A τ ρ G n->e.bk τ G
 |.ct ρ,n=>∀ A τ G,RL l a z0 D G0 A τ ρ G n->e.ct τ G
 |.rt d fr,n=>∀ x G,Ex G0 G->Lf G a n->Dq (rs (λb=>D b\/b=a) G) x d->(fr=true->Nw (λb=>D b\/b=a) G0 G x d)->e.rt x G
structure PwS (l:Nat) (t:TS3) where
 w:Rho->Nat->QO->Prop
 mono:∀ {ρ n} {Q Q':QO},w ρ n Q->(∀ o m,Q o m->Q' o m)->w ρ n Q'
 ok:∀ {a z0 D G0 A τ ρ G n} {e:Ends3} {Q:QO},RL l a z0 D G0 A τ ρ G n->w ρ n Q->(∀ o m,Q o m->NV l a z0 D G0 e o m)->t e τ G
section
variable {l:Nat}
def qf6:PwS l qz:=⟨λρ n Q=>Q (.nx ρ) n,λh k=>k _ _ h,λh hw k=>k _ _ hw _ _ _ h⟩
def sqw (b:Rho->Nat->QO->Prop) (Q:QO):QO:=λo n=>match o with|.nx ρ'=>b ρ' n Q|o=>Q o n
def qa3 {t u:TS3} (x:PwS l t) (y:PwS l u):PwS l (qw t u):=⟨λρ n Q=>x.w ρ n (sqw y.w Q),λh k=>x.mono h λo m h=>by
  cases o with
  |nx ρ=>exact y.mono h k
  |bk ρ=>exact k _ _ h
  |ct ρ=>exact k _ _ h
  |rt d f=>exact k _ _ h,λh hw k=>x.ok h hw λo m h=>by
  cases o with
  |nx ρ=>exact λA τ G r=>y.ok r h k
  |bk ρ=>exact k _ _ h
  |ct ρ=>exact k _ _ h
  |rt d f=>exact k _ _ h⟩
def wIf {c:TT3} {t u:TS3} (pc:PwC l c) (x:PwS l t) (y:PwS l u):PwS l (zf c t u):=⟨λρ n Q=>pc.w ρ n λk n1=>if k then x.w ρ n1 Q else y.w ρ n1 Q,λh k=>pc.mono h λj m h=>by
  cases j with
  |true=>rw [if_pos rfl] at h ⊢;exact x.mono h k
  |false=>exact y.mono h k,λh hw k=>pc.ok (h.all _) hw λj G1 n1 hj E1 L1=>by
  cases j with
  |true=>rw [if_pos rfl] at hj ⊢;exact x.ok (h.up E1 L1) hj k
  |false=>exact y.ok (h.up E1 L1) hj k⟩
def qfB {a:Addr} {z0:Option (Option T)×Nat} {D:Addr->Prop} {G0 G G':Gp} {A:Nat->Option Addr} {τ:St3} {ρ:Rho} {n:Nat} (h:RL l a z0 D G0 A τ ρ G n) (e:Ext a G G'):Ex G0 G':=λb o x=>e b o (by rintro rfl;rw [h.r.fr l _ h.al] at x;cases x) (h.r.ex b o x)
def qmA {t:TE3} (x:PwE l t):PwS l (qK t):=⟨λρ n Q=>x.w ρ n λd n1=>Q (.rt d x.nw) n1,λh k=>x.mono h λd m h=>k _ _ h,λh hw k=>x.ok (h.all _) hw λy d G1 n1 hq E1 L1 D1 N1=>k _ _ hq y G1 (qfB h E1) L1 D1 λz=>(N1 z).back h.r.ex⟩
def qgB {t:TE3} (x:PwE l t) (i:Nat) (m:List Bool) (hm:Tru (x.fv.all (mkb m))) (hl:Tru (!mkb m l&&(i != l&&i != 0))):PwS l (qD t (gn3 i)):=⟨λρ n Q=>x.w ρ n λd n1=>Q (.nx (qbg m x.nw i d ρ)) n1,λh k=>x.mono h λd m h=>k _ _ h,λ{a z0 D G0 A τ ρ G n e Q} h hw k=>by
 have hl':mkb m l=false/\i≠l/\i≠0:=by simpa using hl.h
 refine x.ok (h.ln hl'.1 hm) hw λy d G1 n1 hq E1 L1 D1 N1=>?_;have k:=k _ _ hq;unfold qbg at k;show e.nx (τ.set i (some y)) G1;split at k
 ·rename_i hs;exact k _ _ _ ((h.up E1 L1).put hl'.2.1 hl'.2.2 (DG D1 hs))
 ·split at k
  ·rename_i hn;have N:=N1 hn;rcases id N with h2|⟨p,xs,ds,h1,h2,_⟩
   ·exact absurd h2 (by assumption)
   subst h2;obtain ⟨A',r⟩:=(h.dem hl'.1).putN hl'.2.1 hl'.2.2 rfl E1 L1 N;exact k _ _ _ r
  ·exact k _ _ _ (((h.dem hl'.1).up E1 L1).put hl'.2.1 hl'.2.2 D1)⟩
def qkM {t:TE3} {g:TG3} (x:PwE l t) (pg:PuG g) (m:List Bool) (hm:Tru (x.fv.all (mkb m))) (hl:Tru (!mkb m l&&pg.tg.all (λi=>i != l&&i != 0))):PwS l (qD t g):=⟨λρ n Q=>x.w ρ n λd n1=>∃ bs,pg.f d=some bs/\Q (.nx (J1 (dm m ρ) bs)) n1,λh k=>x.mono h λd m ⟨bs,h1,h2⟩=>⟨bs,h1,k _ _ h2⟩,λ{a z0 D G0 A τ ρ G n e Q} h hw k=>by
 have hl':mkb m l=false/\∀ i∈pg.tg,i≠l/\i≠0:=by simpa using hl.h
 refine x.ok (h.ln hl'.1 hm) hw λy d G1 n1 ⟨bs,e2,hq⟩ E1 L1 D1 N1=>?_;obtain ⟨ts,bd,kg⟩:=pg.ok D1 e2;refine kg _ _ _ ?_;obtain ⟨A',h'⟩:=((h.dem hl'.1).up E1 L1).puts bd (λp hp=>hl'.2 _ (pg.at' e2 p hp));exact k _ _ hq _ _ _ h'⟩
def qoM {t:TA3} (x:PwA l t) (i j:Nat) (m:List Bool) (hm:Tru (x.fv.all (mkb m))) (hl:Tru (!mkb m l&&((i != l&&i != 0)&&(j != l&&j != 0)))):PwS l (ZY i j t):=⟨λρ n Q=>x.w ρ n λds n1=>∃ o,qmb i j m ds ρ=some o/\Q o n1,λh k=>x.mono h λd m ⟨bs,h1,h2⟩=>⟨bs,h1,k _ _ h2⟩,λ{a z0 D G0 A τ ρ G n e Q} h hw k=>by
 have hl':mkb m l=false/\(i≠l/\i≠0)/\j≠l/\j≠0:=by simpa using hl.h
 refine x.ok (h.ln hl'.1 hm) hw λy d G1 n1 ⟨o,e2,hq⟩ hlen E1 L1 D1=>?_;unfold qmb at e2;split at e2
 ·cases D1 with
  |cons x1 b=>cases b with
   |cons x2 c=>
    cases c;split at e2
    ·rename_i hs;cases e2;rw [Bool.and_eq_true] at hs;exact k _ _ hq _ _ _ (((h.up E1 L1).put hl'.2.1.1 hl'.2.1.2 (DG x1 hs.1)).put hl'.2.2.1 hl'.2.2.2 (DG x2 hs.2))
    ·cases e2;exact k _ _ hq _ _ _ ((((h.dem hl'.1).up E1 L1).put hl'.2.1.1 hl'.2.1.2 x1).put hl'.2.2.1 hl'.2.2.2 (x2.up qkx))
 ·cases e2⟩
def RL.evalS {a:Addr} {z0:Option (Option T)×Nat} {D:Addr->Prop} {G0 G:Gp} {A:Nat->Option Addr} {τ:St3} {ρ:Rho} {n:Nat} (h:RL l a z0 D G0 A τ ρ G n) {t:TE3} (x:PwE l t) (m:List Bool) (hm:Tru (x.fv.all (mkb m))) (hl:mkb m l=false) {Q:QD} (hw:x.w ρ n Q) (q:Q3) (k:∀ y d G' n' A1,Q d n'->RL l a z0 D G0 A1 τ (dmS m d ρ) G' n'->Ext a G G'->Dq (rs (AD D A1) G') y d->q y G'):t τ G q:=by
 refine x.ok (h.ln hl hm) hw λy d G1 n1 hq E1 L1 D1 _=>?_;by_cases hs:MW d=true
 ·exact k y d G1 n1 A hq (by unfold dmS;rw [if_pos hs];exact h.up E1 L1) E1 (DG D1 hs)
 ·exact k y d G1 n1 _ hq (by unfold dmS;rw [if_neg hs];exact (h.dem hl).up E1 L1) E1 D1
def qcl (gf:PyData->Option (List (Nat×PyData))) (bw:Rho->Nat->QO->Prop):List PyData->Rho->Nat->QO->Prop
 |[],ρ,n,Q=>Q (.nx ρ) n
 |d::r,ρ,n,Q=>∃ bs,gf d=some bs/\bw (J1 ρ bs) n λo n1=>match o with
  |.nx ρ'=>qcl gf bw r ρ' n1 Q
  |.ct ρ'=>qcl gf bw r ρ' n1 Q
  |.bk ρ'=>Q (.nx ρ') n1
  |.rt d b=>Q (.rt d b) n1
def DY {g:TG3} {tb:TS3} (pg:PuG g) (pb:PwS l tb):∀ {ds:List PyData} {ρ:Rho} {n:Nat} {Q Q':QO},qcl pg.f pb.w ds ρ n Q->(∀ o m,Q o m->Q' o m)->qcl pg.f pb.w ds ρ n Q'
 |[],_,_,_,_,h,k=>k _ _ h
 |d::r,_,_,_,_,⟨bs,e,h⟩,k=>⟨bs,e,pb.mono h λo m h=>by
   cases o with
   |nx ρ=>exact DY pg pb h k
   |ct ρ=>exact DY pg pb h k
   |bk ρ=>exact k _ _ h
   |rt d b=>exact k _ _ h⟩
def CA {stay:Gp->Prop} {g:TG3} {tb:TS3} {e:Ends3} (pg:PuG g) (pb:PwS l tb) {a:Addr} {z0:Option (Option T)×Nat} {D:Addr->Prop} {G0:Gp} {Q:QO} (hl:∀ i∈pg.tg,i≠l/\i≠0) (hs:∀ A τ ρ G n,RL l a z0 D G0 A τ ρ G n->stay G) (k:∀ o m,Q o m->NV l a z0 D G0 e o m) :
  ∀ (ds:List PyData) (items:List T),(∀ A τ ρ G n,RL l a z0 D G0 A τ ρ G n->Dqs (rs (AD D A) G) items ds)->∀ A τ ρ G n,RL l a z0 D G0 A τ ρ G n->qcl pg.f pb.w ds ρ n Q->CF stay g tb e items τ G
 |[],items,hi,A,τ,ρ,G,n,h,hw=>by
  have:=hi _ _ _ _ _ h;cases this;exact ⟨hs _ _ _ _ _ h,k _ _ hw _ _ _ h⟩
 |d::ds,items,hi,A,τ,ρ,G,n,h,⟨bs,e1,hw⟩=>by
  have hh:=hi _ _ _ _ _ h;cases hh with
  |cons hx hr=>
   rename_i x items;obtain ⟨ts,bd,kg⟩:=pg.ok hx e1;refine ⟨hs _ _ _ _ _ h,kg _ _ _ ?_⟩;obtain ⟨A',h'⟩:=h.puts bd λp hp=>hl _ (pg.at' e1 p hp);have hi':∀ A τ ρ G n,RL l a z0 D G0 A τ ρ G n->Dqs (rs (AD D A) G) items ds:=λA τ ρ G n h=>by
    have:=hi _ _ _ _ _ h;cases this with
    |cons a b=>exact b
   refine pb.ok h' hw λo m hq=>?_;cases o with
   |nx ρ'=>exact λA2 τ2 G2 h2=>CA pg pb hl hs k ds items hi' _ _ _ _ _ h2 hq
   |ct ρ'=>exact λA2 τ2 G2 h2=>CA pg pb hl hs k ds items hi' _ _ _ _ _ h2 hq
   |bk ρ'=>exact k _ _ hq
   |rt d fr=>exact k _ _ hq
def RL.base {a:Addr} {z0:Option (Option T)×Nat} {D:Addr->Prop} {G0 Gb G:Gp} {A:Nat->Option Addr} {τ:St3} {ρ:Rho} {n:Nat} (h:RL l a z0 D Gb A τ ρ G n) (e:Ex G0 Gb) (hd:Dom D G0):RL l a z0 D G0 A τ ρ G n:=⟨h.r.base e hd,h.al,h.tl,h.ul,h.lf,h.tz⟩
def NV.base {a:Addr} {z0:Option (Option T)×Nat} {D:Addr->Prop} {G0 Gb:Gp} {e:Ends3} {o:Ot} {n:Nat} (h:NV l a z0 D G0 e o n) (x:Ex G0 Gb) (hd:Dom D G0):NV l a z0 D Gb e o n:=by
 cases o with
 |nx ρ=>exact λA τ G r=>h A τ G (r.base x hd)
 |bk ρ=>exact λA τ G r=>h A τ G (r.base x hd)
 |ct ρ=>exact λA τ G r=>h A τ G (r.base x hd)
 |rt d fr=>exact λy G p q r z=>h y G (x.trans p) q r λw=>(z w).back x
def qmN {wi:TI3} {g:TG3} {tb:TS3} (pi:PwI l wi) (pg:PuG g) (pb:PwS l tb) (m:List Bool) (hm:Tru (pi.fv.all (mkb m))) (hl:Tru (!mkb m l&&pg.tg.all (λi=>i != l&&i != 0))):PwS l (SQ wi g tb):=⟨λρ n Q=>pi.w ρ n λds n1=>qcl pg.f pb.w ds (if pi.nm then ρ else dm m ρ) n1 Q,λh k=>pi.mono h λd m h=>DY pg pb h k,λ{a z0 D G0 A τ ρ G n e Q} h hw k=>by
 have hl':mkb m l=false/\∀ i∈pg.tg,i≠l/\i≠0:=by simpa using hl.h
 refine pi.ok (h.ln hl'.1 hm) hw λitems stay ds G1 n1 hq E1 L1 D1 hs hnm=>?_;cases hb:pi.nm with
 |true=>
  rw [hb,if_pos rfl] at hq;obtain ⟨ns,rfl⟩:=hnm hb;have:=D1.ints;subst this;exact CA pg pb hl'.2 (λ_ _ _ _ _ _=>hs _ (.inl hb)) k _ _ (λA τ ρ G _ _=>Dqs.ofInts _) _ _ _ _ _ (h.up E1 L1) hq
 |false=>
  rw [hb,if_neg Bool.false_ne_true] at hq;have h1:=(h.dem hl'.1).up E1 L1;have b1:Ex G0 (rs (λb=>∃ i,Ad m A i=some b) G1):=λb o e=>by
   rw [QR]
   ·exact h1.r.ex _ _ e
   ·rintro ⟨i,z⟩;rw [h1.r.fr i _ z] at e;cases e
  have h2:RL l a z0 D (rs (λb=>∃ i,Ad m A i=some b) G1) (Ad m A) τ (dm m ρ) G1 n1:=⟨⟨D6,h.r.dm.up b1,λi p z=>by unfold rs;exact JE ⟨i,z⟩,h1.r.da,h1.r.inj,h1.r.len,h1.r.sh,h1.r.ow,h1.r.dc⟩,h1.al,h1.tl,h1.ul,h1.lf,h1.tz⟩
  have X:∀ A2 τ2 ρ2 G2,RS D (rs (λb=>∃ i,Ad m A i=some b) G1) A2 τ2 ρ2 G2->Ex (rs (AD D (Ad m A)) G1) (rs (AD D A2) G2):=λA2 τ2 ρ2 G2 r b o e=>by
   obtain ⟨n1,e⟩:=za e;have eb:rs (λb=>∃ i,Ad m A i=some b) G1 b=some o:=by rw [QR (λz=>n1 (.inr z))];exact e
   rw [QR]
   ·exact r.ex _ _ eb
   ·rintro (z|⟨i,z⟩)
    ·exact n1 (.inl z)
    ·rw [r.fr i _ z] at eb;cases eb
  exact CA pg pb hl'.2 (λA2 τ2 ρ2 G2 n2 r=>hs _ (.inr ((X _ _ _ _ r.r).trans D6))) (λo m hq=>(k o m hq).base b1 h.r.dm) _ _ (λA2 τ2 ρ2 G2 n2 r=>D1.up (X _ _ _ _ r.r)) _ _ _ _ _ h2 hq⟩
end
end Pu
namespace Pu
open PySem L2 L3
open Bk (Lf Ext Dl Dr)
def okW:QO:=λo _=>match o with|.nx _=>True|.ct _=>True|_=>False
def qoY (K:Int):TE3:=o3 zb (c3 (.int 1)) (cb3 U1 (qb (c3 (.int K)) (qb (cb3 ZV (qb (v3 0) qg)) qg)))
def qg3 {i:Nat} {τ:St3} {t:T} {G:Gp} {q:Q3} (h:τ[i]?=some (some t)):v3 i τ G q=q t G:=by unfold v3;rw [h]
def qoN (K:Int) (R:TS3):TS3:=qw (SQ (j4 (qb (qoY K) qg)) (gn3 1) (qw (qD (cb3 Bk.JO (qb (v3 0) (qb (v3 1) qg))) (gn3 2)) R)) (qK (c3 (.bl true)))
def qbL {R:TS3} (b:PwS 2 R) (N:List Str) (K:Int) (M:Nat) (hK:0<=K/\K<=60) (hN:N.length=M+3) (h:∀ k:Nat,k<=60->b.w ([.un,.sh (.int k),.un]++List.replicate M .un) 0 okW):∀ ts G q,XJ ts G q->ts.length=1/\qoN K R { nx:=λ_ G'=>q .non G',rt:=q } (qj N ts) G:=by
 rintro ts G q ⟨a,ns,rfl,hG,hl,hq⟩;refine ⟨rfl,?_⟩;have s0:(qj N [T.ref a])[0]?=some (some (.ref a)):=by simp [qj]
 have gl:zl G a=some (ns.map T.int):=by unfold zl;rw [hG]
 simp only [qoN,qw,SQ,j4,qoY,qb,qg,o3,c3,cb3,v3,s0,ZV,gl,U1,zb,length_map];have cnt:((1+(if ((ns.length:Nat):Int)<K then ((ns.length:Nat):Int) else K)).toNat)<=61:=by split<;>omega
 refine ⟨⟨by split<;>omega,by split<;>omega⟩,?_⟩;refine DJ _ (λ_ τ G'=>G' a=some (.frz (ns.map T.int))/\τ[0]?=some (some (.ref a))/\τ.length=M+3) ⟨hG,s0,by simp [qj,hN]⟩ (λ_ _ _ _ _=>True.intro) ?_ ?_
 ·rintro i z τ G' nx hz ⟨gA,t0,tl⟩ hn;obtain ⟨hi,rfl⟩:=qai hz;have hi2:i<=60:=by omega
  have t1:(τ.set 1 (some (T.int (0+(i:Int)))))[0]?=some (some (.ref a)):=by rw [getElem?_set,if_neg (by omega)];exact t0
  have t2:(τ.set 1 (some (T.int (0+(i:Int)))))[1]?=some (some (T.int (0+(i:Int)))):=by rw [getElem?_set,if_pos rfl,if_pos (by omega)]
  show v3 0 (τ.set 1 (some (T.int (0+(i:Int))))) G' (λx G1=>v3 1 (τ.set 1 (some (T.int (0+(i:Int))))) G1 λy G2=>Bk.JO [x,y] G2 λz G3=>R _ ((τ.set 1 (some (T.int (0+(i:Int))))).set 2 (some z)) G3);rw [qg3 t1,qg3 t2];refine ⟨a,_,ns,rfl,gA,hl,by omega,by omega,λp o c hp ho=>?_⟩;have pa:a≠p:=by rintro rfl;rw [gA] at hp;cases hp
  have r:RL 2 p (some (some (.ref a)),M+3) (λ_=>False) G' (λj=>if j=2 then some p else none) ((τ.set 1 (some (T.int (0+(i:Int))))).set 2 (some (.ref p))) ([.un,.sh (.int i),.un]++List.replicate M .un) (gu G' p (.lst [.int o,.int c,.int 0])) 0:=by
   refine ⟨⟨j6 hp,λb z=>z.elim,λj q e=>?_,λj q e=>?_,λj k q e e'=>?_,by simp [tl],λj d e=>?_,λj ds e=>?_,λj ds e=>?_⟩,rfl,by rw [getElem?_set,if_pos rfl,if_pos (by simp;omega)],rfl,⟨o,c,0,qp,ho,by omega,by omega⟩,⟨by rw [getElem?_set,if_neg (by omega)];exact t1,by simp [tl]⟩⟩
   ·split at e
    ·cases e;exact hp
    ·cases e
   ·split at e
    ·cases e;rw [qp];simp
    ·cases e
   ·split at e
    ·split at e'
     ·rename_i h1 h2;rw [h1,h2]
     ·cases e'
    ·cases e
   ·match j,e with
    |0,e=>cases e
    |1,e=>
     cases e;refine ⟨.int (0+(i:Int)),by rw [getElem?_set,if_neg (by omega)];exact t2,?_⟩;rw [Int.zero_add];exact .int _
    |2,e=>cases e
    |j+3,e=>
     simp only [cons_append,List.nil_append,getElem?_cons_succ,List.getElem?_replicate] at e;split at e<;>cases e
   ·match j,e with
    |0,e=>cases e
    |1,e=>cases e
    |2,e=>cases e
    |j+3,e=>
     simp only [cons_append,List.nil_append,getElem?_cons_succ,List.getElem?_replicate] at e;split at e<;>cases e
   ·match j,e with
    |0,e=>cases e
    |1,e=>cases e
    |2,e=>cases e
    |j+3,e=>
     simp only [cons_append,List.nil_append,getElem?_cons_succ,List.getElem?_replicate] at e;split at e<;>cases e
  refine b.ok r (h i hi2) λo' m ho'=>?_;cases o' with
  |nx ρ'=>exact λA τ' G2 r2=>hn _ _ ⟨r2.r.ex _ _ gA,r2.tz.1,r2.tz.2⟩
  |ct ρ'=>exact λA τ' G2 r2=>hn _ _ ⟨r2.r.ex _ _ gA,r2.tz.1,r2.tz.2⟩
  |bk ρ'=>exact ho'.elim
  |rt d f=>exact ho'.elim
 ·rintro τ G' ⟨gA,t0,tl⟩;exact hq G'
def qfW {G:Gp} {ts:List T} (h:Dqs G ts []):ts=[]:=by cases h;rfl
def qnP {G:Gp} {ts:List T} {i:Int} (h:Dqs G ts [.int i]):ts=[.int i]:=by
 cases h with
 |cons a b=>cases b;cases a;rfl
def lfc {G:Gp} {a:Addr} {n c:Nat} (h:Lf G a ((n:Int)+(c:Int))):Lf G a ((n+c:Nat):Int):=by rw [Int.natCast_add];exact h
def qbh:DrD Bk.qL:=⟨λds n Q=>∃ m:Int,ds=[.int m]/\(1<=m/\m<1073741824)/\n<1000000000/\∀ d:Int,0<=d->d<m->Q (.int d) (n+1),false,
 λ⟨m,h1,h2,h3,h4⟩ k=>⟨m,h1,h2,h3,λd x y=>k _ _ (h4 d x y)⟩,λ{D G a n ts ds q Q} lf da hd hs ⟨m,h1,h2,h3,h4⟩ k=>by
 subst h1;have:=qnP hs;subst this;exact ⟨a,n,m,rfl,h2.1,h2.2,lf,by omega,λd G' x y L E=>k _ _ G' (n+1) (h4 d x y) E (lfc (c:=1) L) (.int d) (λz=>by cases z)⟩⟩
def CS:DrD Bk.jH:=⟨λds n Q=>ds=[]/\n<100000/\∀ d:Dl,Dr d 16 16 32->d.dep<=2->Q (Pv.dlD d) (n+1000),false,
 λ⟨h1,h3,h4⟩ k=>⟨h1,h3,λd x y=>k _ _ (h4 d x y)⟩,λ{D G a n ts ds q Q} lf da hd hs ⟨h1,h3,h4⟩ k=>by
 subst h1;have:=qfW hs;subst this;exact ⟨a,n,rfl,lf,by omega,λd G' a1 a2 L E=>k _ _ G' (n+1000) (h4 d a1 a2) E (lfc (c:=1000) L) (Pv.qeI _ _) (λz=>by cases z)⟩⟩
def qhQ {l:Nat} {t:TE3} {b:PuE t}:(eOf (l:=l) b).w=λρ n Q=>∃ d,b.f ρ=some d/\Q d n:=id rfl
def qlz {l:Nat} {t:TT3} {b:PuC t}:(cOf (l:=l) b).w=λρ n Q=>∃ d,b.f ρ=some d/\Q d n:=id rfl
def qls {l:Nat} {t:TA3} {b:PuA t}:(aOf (l:=l) b).w=λρ n Q=>∃ d,b.f ρ=some d/\Q d n:=id rfl
def qjn {l:Nat} {t:TI3} {b:PuI t}:(iOf (l:=l) b).w=λρ n Q=>∃ d,b.f ρ=some d/\Q d n:=id rfl
def qoZ {l:Nat} {r:R3} {ta tb:TE3} {R:OpD r} {a:PwE l ta} {b:PwE l tb}:(eO R a b).w=λρ n Q=>a.w ρ n λx n1=>b.w ρ n1 λy n2=>∃ v,R.f x y=some v/\Q v n2:=id rfl
def M8 {l:Nat} {ta:TE3} {tr:TA3} {a:PwE l ta} {r:PwA l tr}:(qe2 a r).w=λρ n Q=>a.w ρ n λx n1=>r.w ρ n1 λxs n2=>Q (x::xs) n2:=id rfl
def qk4 {l:Nat} {r:List T->Gp->Q3->Prop} {t:TA3} {R:DrD r} {b:PwA l t}:(eDr R b).w=λρ n Q=>b.w ρ n λxs n1=>R.W xs n1 Q:=id rfl
def qdx {l:Nat} {t:TI3} {b:PuI t}:(iOf (l:=l) b).nm=b.nm:=id rfl
def qcG {l:Nat} {t:TE3} {b:PuE t}:(eOf (l:=l) b).nw=b.nw:=id rfl
def qlu {l:Nat} {r:R3} {ta tb:TE3} {R:OpD r} {a:PwE l ta} {b:PwE l tb}:(eO R a b).nw=R.nw:=id rfl
def qc7 {l:Nat} {r:List T->Gp->Q3->Prop} {t:TA3} {R:DrD r} {b:PwA l t}:(eDr R b).nw=R.nw:=id rfl
def qaN {l:Nat}:(qf6 (l:=l)).w=λρ n Q=>Q (.nx ρ) n:=id rfl
def qa2 {l:Nat} {t u:TS3} {x:PwS l t} {y:PwS l u}:(qa3 x y).w=λρ n Q=>x.w ρ n (sqw y.w Q):=id rfl
def qdp {b:Rho->Nat->QO->Prop} {Q:QO} {ρ:Rho} {n:Nat}:sqw b Q (.nx ρ) n=b ρ n Q:=id rfl
def qlA {l:Nat} {c:TT3} {t u:TS3} {pc:PwC l c} {x:PwS l t} {y:PwS l u}:(wIf pc x y).w=λρ n Q=>pc.w ρ n λk n1=>if k then x.w ρ n1 Q else y.w ρ n1 Q:=id rfl
def qcA {l:Nat} {t:TE3} {x:PwE l t}:(qmA x).w=λρ n Q=>x.w ρ n λd n1=>Q (.rt d x.nw) n1:=id rfl
def qdX {l:Nat} {t:TE3} {x:PwE l t} {i:Nat} {m:List Bool} {hm:Tru (x.fv.all (mkb m))} {hl:Tru (!mkb m l&&(i != l&&i != 0))}:(qgB x i m hm hl).w=λρ n Q=>x.w ρ n λd n1=>Q (.nx (qbg m x.nw i d ρ)) n1:=id rfl
def MZ {l:Nat} {t:TE3} {g:TG3} {x:PwE l t} {pg:PuG g} {m:List Bool} {hm:Tru (x.fv.all (mkb m))} {hl:Tru (!mkb m l&&pg.tg.all (λi=>i != l&&i != 0))}:(qkM x pg m hm hl).w=λρ n Q=>x.w ρ n λd n1=>∃ bs,pg.f d=some bs/\Q (.nx (J1 (dm m ρ) bs)) n1:=id rfl
def qde {l:Nat} {t:TA3} {x:PwA l t} {i j:Nat} {m:List Bool} {hm:Tru (x.fv.all (mkb m))} {hl:Tru (!mkb m l&&((i != l&&i != 0)&&(j != l&&j != 0)))}:(qoM x i j m hm hl).w=λρ n Q=>x.w ρ n λds n1=>∃ o,qmb i j m ds ρ=some o/\Q o n1:=id rfl
def qcW {l:Nat} {wi:TI3} {g:TG3} {tb:TS3} {pi:PwI l wi} {pg:PuG g} {pb:PwS l tb} {m:List Bool} {hm:Tru (pi.fv.all (mkb m))} {hl:Tru (!mkb m l&&pg.tg.all (λi=>i != l&&i != 0))}:(qmN pi pg pb m hm hl).w=λρ n Q=>pi.w ρ n λds n1=>qcl pg.f pb.w ds (if pi.nm then ρ else dm m ρ) n1 Q:=id rfl
def qaG {ds:List PyData} {n:Nat} {Q:QD}:qbh.W ds n Q=(∃ m:Int,ds=[.int m]/\(1<=m/\m<1073741824)/\n<1000000000/\∀ d:Int,0<=d->d<m->Q (.int d) (n+1)):=id rfl
def XG {ds:List PyData} {n:Nat} {Q:QD}:CS.W ds n Q=(ds=[]/\n<100000/\∀ d:Dl,Dr d 16 16 32->d.dep<=2->Q (Pv.dlD d) (n+1000)):=id rfl
def WE:CS.nw=false:=id rfl
def qd0 {ρ:Rho} {n:Nat}:okW (.nx ρ) n=True:=id rfl
def qj7 {α:Type} {v:α} {P:α->Prop}:(∃ d,some v=some d/\P d)=P v:=propext ⟨λ⟨d,h1,h2⟩=>by cases h1;exact h2,λh=>⟨v,rfl,h⟩⟩
def qdE {v:Int} {P:Int->Prop}:(∃ m:Int,[PyData.int v]=[.int m]/\P m)=P v:=propext ⟨λ⟨d,h1,h2⟩=>by cases h1;exact h2,λh=>⟨v,rfl,h⟩⟩
def qeF {m:List Bool} {nw:Bool} {i:Nat} {d:Dl} {ρ:Rho}:qbg m nw i (Pv.dlD d) ρ=(dm m ρ).set i (.sh (Pv.dlD d)):=by cases d<;>exact qfQ
def KA {l:Nat} {t u:TS3} {x:PwS l t} {y:PwS l u} {ρ:Rho} {n:Nat} {Q:QO} (h:∀ Y:Rho->Nat->QO->Prop,Y=y.w->x.w ρ n (sqw Y Q)):(qa3 x y).w ρ n Q:=h _ rfl
structure Mn (bw:Rho->Nat->QO->Prop):Prop where
 h:∀ ρ n (Q Q':QO),bw ρ n Q->(∀ o m,Q o m->Q' o m)->bw ρ n Q'
def PwS.mn {l:Nat} {t:TS3} (b:PwS l t):Mn b.w:=⟨λ_ _ _ _ h k=>b.mono h k⟩
section
variable {l:Nat} {g:TG3} {tb:TS3}
def KW {gf:PyData->Option (List (Nat×PyData))} {bw:Rho->Nat->QO->Prop} {α:Type} {f:α->PyData} (xs:List α) (mono:Mn bw) (I:Nat->Rho->Nat->Prop) {ρ:Rho} {n:Nat} {Q:QO} (h0:I 0 ρ n)
  (hs:∀ i x ρ n,xs[i]?=some x->I i ρ n->∃ bs,gf (f x)=some bs/\bw (J1 ρ bs) n λo m=>match o with|.nx ρ'=>I (i+1) ρ' m|.ct ρ'=>I (i+1) ρ' m|.bk ρ'=>Q (.nx ρ') m|.rt d b=>Q (.rt d b) m)
  (k:∀ ρ n,I xs.length ρ n->Q (.nx ρ) n):qcl gf bw (xs.map f) ρ n Q:=by
 have key:∀ (r:List α) (i:Nat) (ρ:Rho) (n:Nat),xs.drop i=r->i<=xs.length->I i ρ n->qcl gf bw (r.map f) ρ n Q:=by
  intro r;induction r with
  |nil=>
   intro i ρ n e hi h;have:i=xs.length:=by
    have:=congrArg List.length e;simp at this;omega
   subst this;exact k ρ n h
  |cons x r ih=>
   intro i ρ n e hi h;have hl:i<xs.length:=by
    have:=congrArg List.length e;simp at this;omega
   have e':=List.drop_eq_getElem_cons hl;rw [e] at e';injection e' with e1 e2;obtain ⟨bs,h1,h2⟩:=hs i x ρ n (by rw [getElem?_eq_getElem hl,e1]) h;refine ⟨bs,h1,mono.h _ _ _ _ h2 λo m h=>?_⟩;cases o with
   |nx ρ'=>exact ih (i+1) ρ' m e2.symm hl h
   |ct ρ'=>exact ih (i+1) ρ' m e2.symm hl h
   |bk ρ'=>exact h
   |rt d b=>exact h
 exact key xs 0 ρ n (by simp) (Nat.zero_le _) h0
end
def NN {α β:Type} {x:α} {f:α->Option β}:(some x).bind f=f x:=id rfl
def qdg {α β:Type} {x:α} {f:α->β}:(some x).map f=some (f x):=id rfl
def qgM {α:Type} {x:α} {r:List α}:(x::r).length=r.length+1:=id rfl
def qhv {α:Type}:([]:List α).length=0:=id rfl
def qix {α:Type} {x y:α} {r:List α}:(x::r).set 0 y=y::r:=id rfl
def qhy {α:Type} {x y:α} {r:List α} {i:Nat}:(x::r).set (i+1) y=x::r.set i y:=id rfl
def qgY {α:Type} {r:List α}:r++[]=r:=List.append_nil r
def qiw {α:Type} {x:α} {r s:List α}:(x::r)++s=x::(r++s):=id rfl
def qi9 {α:Type} {s:List α}:[]++s=s:=id rfl
def qh8 {n:Nat}:0+n=n:=Nat.zero_add n
def qhM {p:Prop}:(True/\p)=p:=true_and p
def qkp {α:Type} {a b:α} {i:Decidable True}:@ite α True i a b=a:=if_pos trivial
def qk3 {α:Type} {a b:α} {i:Decidable False}:@ite α False i a b=b:=if_neg not_false
def qii:(false=true)=False:=Bool.false_eq_true
def qiY:(!true)=false:=id rfl
def qjY:(!false)=true:=id rfl
def qj4 {i:Decidable True}:@decide True i=true:=decide_true i
def qjx {i:Decidable False}:@decide False i=false:=decide_false i
def qkF {b:Bool}:(b&&true)=b:=Bool.and_true b
def qkk {b:Bool}:(true&&b)=b:=Bool.true_and b
def qhc {b:Bool}:(false&&b)=false:=Bool.false_and b
def qh7 {b:Bool}:(b&&false)=false:=Bool.and_false b
def ai{a b:Prop}(x:a)(y:b):a/\b:=⟨x,y⟩
def pwA:=(ai (ai (ai (ai (ai (ai (ai @Pu.qhQ @Pu.qlz) (ai @Pu.qls (ai @Pu.qjn @Pu.qoZ))) (ai (ai @Pu.M8 @Pu.qk4) (ai @Pu.qdx (ai @Pu.qcG @Pu.qlu)))) (ai (ai (ai @Pu.qc7 @Pu.qaN) (ai @Pu.qa2 (ai @Pu.qdp @Pu.qlA))) (ai (ai @Pu.qcA @Pu.qdX) (ai @Pu.MZ (ai @Pu.qde @Pu.qcW))))) (ai (ai (ai (ai @Pu.qaG @Pu.XG) (ai @Pu.WE (ai @Pu.qd0 @Pu.qdE))) (ai (ai @Pu.qeF @Pu.qli) (ai @Pu.qot (ai @Pu.qcN @Pu.qi5)))) (ai (ai (ai @Pu.qdL @Pu.qdc) (ai @Pu.qox (ai @Pu.qdv @Pu.qap))) (ai (ai @Pu.qd4 @Pu.qd6) (ai @Pu.qau (ai @Pu.qkd @Pu.qif)))))) (ai (ai (ai (ai (ai @Pu.qda @Pu.qhF) (ai @Pu.NP (ai @Pu.NE @Pu.qel))) (ai (ai @Pu.qjb @Pu.qc6) (ai @Pu.qjf (ai @Pu.qhI @Pu.qlQ)))) (ai (ai (ai @Pu.qiK @Pu.qes) (ai @Pu.qdJ (ai @Pu.qaF @Pu.qlH))) (ai (ai @Pu.qhg @Pu.qie) (ai @Pu.qdS (ai @Pu.qd7 @Pu.qaB))))) (ai (ai (ai (ai @Pu.KL @Pu.qdG) (ai @Pu.qd9 (ai @Pu.qaR @Pu.qos))) (ai (ai @Pu.qcP @Pu.qa6) (ai @Pu.qdn (ai @Pu.qas @Pu.qcQ)))) (ai (ai (ai @Pu.qkr @Pu.qek) (ai @Pu.NC (ai @Pu.qc3 @Pu.qaU))) (ai (ai @Pu.qdh @Pu.M6) (ai @Pu.qcY (ai @Pu.qc2 @Pu.qhe))))))) (ai (ai (ai (ai (ai (ai @Pu.NL @Pu.KM) (ai @Pu.KH (ai @Pu.KZ @Pu.qeE))) (ai (ai @Pu.qaA @Pu.KI) (ai @Pu.R8 (ai @Pu.qoT @Pu.qo3)))) (ai (ai (ai @Pu.qk2 @Pu.qin) (ai @Pu.qax (ai @Pu.MY @Pu.qdU))) (ai (ai @Pu.qlC @Pu.qjg) (ai @Pu.at0 (ai @Pu.at1 @Pu.eqS))))) (ai (ai (ai (ai @Pu.eqI @Pu.qo0) (ai @Pu.qen (ai @Pu.qdK @Pu.qcD))) (ai (ai @Pu.qah @Pu.qcV) (ai @Pu.qak (ai @Pu.qhd @Pu.qgU)))) (ai (ai (ai @Pu.qdz @Pu.qdQ) (ai @Pu.qdw (ai @Pu.qkv @Pu.qje))) (ai (ai @Pu.qgP @Pu.qkK) (ai @Pu.qh3 (ai @Pu.qjG @Pu.qkT)))))) (ai (ai (ai (ai (ai @Pu.qfQ @Pu.qc8) (ai @Pu.qhq (ai @Pu.qgL @Pu.qoI))) (ai (ai @Pu.qoC @Pu.qoP) (ai @Pu.qkw (ai @Pu.qiD @Pu.qh1)))) (ai (ai (ai @Pu.qlS @Pu.qhL) (ai @Pu.qo2 (ai @Pu.qjj @Pu.qei))) (ai (ai @Pu.qev @Pu.qeu) (ai @Pu.qj7 (ai @Pu.NN @Pu.qdg))))) (ai (ai (ai (ai @Pu.qgM @Pu.qhv) (ai @Pu.qix (ai @Pu.qhy @Pu.qgY))) (ai (ai @Pu.qiw @Pu.qi9) (ai @Pu.qh8 (ai @Pu.qhM @Pu.qkp)))) (ai (ai (ai @Pu.qk3 @Pu.qii) (ai @Pu.qiY (ai @Pu.qjY @Pu.qj4))) (ai (ai @Pu.qjx @Pu.qkF) (ai @Pu.qkk (ai @Pu.qhc @Pu.qh7))))))))
end Pu
namespace Bk
open PySem L2 L3
end Bk
namespace Pu
open PySem L2 L3
open Bk (Lf Ext Dl Dr)
def TU {H:Gp} {xs:List T} {d:PyData} {ds:List PyData} (h:Dqs H xs (d::ds)):∃ x r,xs=x::r/\Dq H x d/\Dqs H r ds:=by
 cases h with
 |cons a b=>exact ⟨_,_,rfl,a,b⟩
def MB {H:Gp} {xs:List T} (h:Dqs H xs []):xs=[]:=by cases h;rfl
def qpO {H:Gp} {x:T} {i:Int} (h:Dq H x (.int i)):x=.int i:=by cases h;rfl
def qpb {H:Gp} {x:T} {i:Str} (h:Dq H x (.str i)):x=.str i:=by cases h;rfl
def qeD {H:Gp} {x:T} {ds:List PyData} (h:Dq H x (.tuple ds)):∃ xs,x=.tup xs/\Dqs H xs ds:=by
 cases h with
 |tup a=>exact ⟨_,rfl,a⟩
def EK {H:Gp} {xs:List T} {i:Int} {ds:List PyData} (h:Dqs H xs (.int i::ds)):∃ r,xs=.int i::r/\Dqs H r ds:=by
 obtain ⟨x,r,rfl,a,b⟩:=TU h;exact ⟨r,by rw [qpO a],b⟩
def qae {H:Gp} {xs:List T} {i:Str} {ds:List PyData} (h:Dqs H xs (.str i::ds)):∃ r,xs=.str i::r/\Dqs H r ds:=by
 obtain ⟨x,r,rfl,a,b⟩:=TU h;exact ⟨r,by rw [qpb a],b⟩
def qfh {H:Gp}:∀ (cs:List (List Int)) {xs:List T},Dqs H xs (cs.map Pv.qgy)->xs=cs.map Bk.MH:=by
 intro cs;induction cs with
 |nil=>intro xs h;exact MB h
 |cons r cs ih=>
  intro xs h;obtain ⟨x,t,rfl,a,b⟩:=TU h;obtain ⟨ys,rfl,a1⟩:=qeD a;rw [ih b,Dqs.ints a1];rfl
def qby {H:Gp} (d:Dl):∀ {x:T},Dq H x (Pv.dlD d)->x=d.t:=by
 induction d with
 |skew r c b x y=>
  intro z h0;obtain ⟨_,rfl,h1⟩:=qeD h0;obtain ⟨_,rfl,h2⟩:=qae h1;obtain ⟨_,rfl,h3⟩:=EK h2;obtain ⟨_,rfl,h4⟩:=EK h3;obtain ⟨_,rfl,h5⟩:=EK h4;obtain ⟨_,rfl,h6⟩:=EK h5;obtain ⟨_,rfl,h7⟩:=EK h6;rw [MB h7];rfl
 |rests r c b p=>
  intro z h0;obtain ⟨_,rfl,h1⟩:=qeD h0;obtain ⟨_,rfl,h2⟩:=qae h1;obtain ⟨_,rfl,h3⟩:=EK h2;obtain ⟨_,rfl,h4⟩:=EK h3;obtain ⟨_,rfl,h5⟩:=EK h4;obtain ⟨_,rfl,h6⟩:=EK h5;rw [MB h6];rfl
 |bits hh l ms=>
  intro z h0;obtain ⟨_,rfl,h1⟩:=qeD h0;obtain ⟨_,rfl,h2⟩:=qae h1;obtain ⟨_,rfl,h3⟩:=EK h2;obtain ⟨_,rfl,h4⟩:=EK h3;obtain ⟨_,_,rfl,a0,h5⟩:=TU h4;obtain ⟨_,rfl,a1⟩:=qeD a0;rw [MB h5,Dqs.ints a1];rfl
 |table b cells=>
  intro z h0;obtain ⟨_,rfl,h1⟩:=qeD h0;obtain ⟨_,rfl,h2⟩:=qae h1;obtain ⟨_,rfl,h3⟩:=EK h2;obtain ⟨_,_,rfl,a0,h4⟩:=TU h3;obtain ⟨_,rfl,a1⟩:=qeD a0;rw [MB h4,qfh cells a1];rfl
 |joined d e ih1 ih2=>
  intro z h0;obtain ⟨_,rfl,h1⟩:=qeD h0;obtain ⟨_,rfl,h2⟩:=qae h1;obtain ⟨_,_,rfl,a0,h3⟩:=TU h2;obtain ⟨_,_,rfl,b0,h4⟩:=TU h3;rw [MB h4,ih1 a0,ih2 b0];rfl
def M0:∀ (a b:Int),PyData.int a=PyData.int b->a=b:=λ_ _ h=>by injection h
def qfk:∀ (a b:List Int),Pv.qgy a=Pv.qgy b->a=b:=λa b h=>by
 unfold Pv.qgy at h;injection h with h;exact (List.map_inj_right M0).mp h
def RD:∀ (d e:Dl),Pv.dlD d=Pv.dlD e->d=e
 |.skew ..,.skew ..,h=>by simp [Pv.dlD] at h;simp [h]
 |.rests ..,.rests ..,h=>by simp [Pv.dlD] at h;simp [h]
 |.bits _ _ ms,.bits _ _ ns,h=>by
  simp only [Pv.dlD,PyData.tuple.injEq,List.cons.injEq,PyData.int.injEq,and_true,true_and,Int.natCast_inj] at h;have:=(List.map_inj_right M0).mp h.2.2;simp [h.1,h.2.1,this]
 |.table _ cs,.table _ es,h=>by
  simp only [Pv.dlD,PyData.tuple.injEq,List.cons.injEq,PyData.int.injEq,and_true,true_and] at h;have:=(List.map_inj_right qfk).mp h.2;simp [h.1,this]
 |.joined d e,.joined d' e',h=>by
  simp only [Pv.dlD,PyData.tuple.injEq,List.cons.injEq,and_true,true_and] at h;rw [RD d d' h.1,RD e e' h.2]
 |.skew ..,.rests ..,h=>by simp [Pv.dlD] at h
 |.skew ..,.bits ..,h=>by simp [Pv.dlD] at h
 |.skew ..,.table ..,h=>by simp [Pv.dlD] at h
 |.skew ..,.joined ..,h=>by simp [Pv.dlD] at h
 |.rests ..,.skew ..,h=>by simp [Pv.dlD] at h
 |.rests ..,.bits ..,h=>by simp [Pv.dlD] at h
 |.rests ..,.table ..,h=>by simp [Pv.dlD] at h
 |.rests ..,.joined ..,h=>by simp [Pv.dlD] at h
 |.bits ..,.skew ..,h=>by simp [Pv.dlD] at h
 |.bits ..,.rests ..,h=>by simp [Pv.dlD] at h
 |.bits ..,.table ..,h=>by simp [Pv.dlD] at h
 |.bits ..,.joined ..,h=>by simp [Pv.dlD] at h
 |.table ..,.skew ..,h=>by simp [Pv.dlD] at h
 |.table ..,.rests ..,h=>by simp [Pv.dlD] at h
 |.table ..,.bits ..,h=>by simp [Pv.dlD] at h
 |.table ..,.joined ..,h=>by simp only [Pv.dlD,PyData.tuple.injEq,List.cons.injEq,PyData.str.injEq] at h;exact absurd h.1 (by decide)
 |.joined ..,.skew ..,h=>by simp [Pv.dlD] at h
 |.joined ..,.rests ..,h=>by simp [Pv.dlD] at h
 |.joined ..,.bits ..,h=>by simp [Pv.dlD] at h
 |.joined ..,.table ..,h=>by simp only [Pv.dlD,PyData.tuple.injEq,List.cons.injEq,PyData.str.injEq] at h;exact absurd h.1 (by decide)
def the (S:PyData->Prop):Option PyData:=@dite _ (∃ v,S v) (Classical.propDecidable _) (λh=>some (Classical.choose h)) λ_=>none
def EW {S:PyData->Prop} {v:PyData} (h:the S=some v):S v:=by
 unfold the at h;split at h
 ·rename_i e;cases h;exact Classical.choose_spec e
 ·cases h
def qaq {S:PyData->Prop} {v:PyData} (h:S v) (u:∀ w,S w->w=v):the S=some v:=by
 unfold the;rw [dif_pos ⟨v,h⟩];exact congrArg some (u _ (Classical.choose_spec (⟨v,h⟩:∃ v,S v)))
def siz (d:Dl):PyData:=.tuple [.int d.R,.int d.C,.int d.B]
def qdq (G:Gp) (d:Dl):Dq G (Bk.W4 d) (siz d):=.tup (.cons (.int _) (.cons (.int _) (.cons (.int _) .nil)))
def SzR (n:Nat) (ds:List PyData) (v:PyData):Prop:=∃ d:Dl,ds=[Pv.dlD d]/\d.dep<=n/\d.Ok/\v=siz d
def fSz (n:Nat):FnD (Bk.zN (n+1)):=⟨λds=>the (SzR n ds),false,λ{D G xs ds v q} hx hd hf k=>by
 obtain ⟨d,rfl,h1,h2,rfl⟩:=EW hf;cases hx with
 |cons a b=>
  cases b;have:=qby d a;subst this;exact ⟨d,rfl,h1,h2,k _ _ Ex.refl (qdq _ d) (λz=>by cases z)⟩⟩
def qoH (n:Nat):FnD (Bk.QI (n+1)):=⟨λds=>the (SzR n ds),false,λ{D G xs ds v q} hx hd hf k=>by
 obtain ⟨d,rfl,h1,h2,rfl⟩:=EW hf;cases hx with
 |cons a b=>
  cases b;have:=qby d a;subst this;exact ⟨d,rfl,h1,h2,λG' E=>k _ _ E (qdq _ d) (λz=>by cases z)⟩⟩
def qfX {n:Nat} {d:Dl} (h1:d.dep<=n) (h2:d.Ok):the (SzR n [Pv.dlD d])=some (siz d):=qaq ⟨d,rfl,h1,h2,rfl⟩ λw ⟨e,a,_,_,b⟩=>by
 injection a with a;rw [b,RD d e a]
def qay {n:Nat}:(fSz n).f=λds=>the (SzR n ds):=id rfl
def qjX {n:Nat}:(qoH n).f=λds=>the (SzR n ds):=id rfl
def BkR (n:Nat) (ds:List PyData) (v:PyData):Prop:=∃ (d:Dl) (i j:Int),ds=[Pv.dlD d,.tuple [.int i,.int j]]/\d.dep<=n/\d.Ok/\Bk.Inn d i j/\v=.int (d.bank i j)
def fBk (n:Nat):FnD (Bk.MJ n):=⟨λds=>the (BkR n ds),false,λ{D G xs ds v q} hx hd hf k=>by
 obtain ⟨d,i,j,rfl,h1,h2,h3,rfl⟩:=EW hf;cases hx with
 |cons a b=>cases b with
  |cons c b=>
   cases b;have:=qby d a;subst this;cases c with
   |tup hs=>cases hs with
    |cons x hs=>cases hs with
     |cons y hs=>
      cases hs;cases x;cases y;exact ⟨d,i,j,rfl,h1,h2,h3,λG' E=>k _ _ E (.int _) (λz=>by cases z)⟩⟩
def qiE {n:Nat} {d:Dl} {i j:Int} (h1:d.dep<=n) (h2:d.Ok) (h3:Bk.Inn d i j):the (BkR n [Pv.dlD d,.tuple [.int i,.int j]])=some (.int (d.bank i j)):=qaq ⟨d,i,j,rfl,h1,h2,h3,rfl⟩ λw ⟨e,i',j',a,_,_,_,b⟩=>by
 simp only [List.cons.injEq,PyData.tuple.injEq,PyData.int.injEq,and_true] at a;rw [b,RD d e a.1,a.2.1,a.2.2]
def qbd (r c:Nat):List (Int×Int):=(List.range r).flatMap λ(i:Nat)=>(List.range c).map λ(j:Nat)=>((i:Int),(j:Int))
end Pu
namespace Pu
open PySem L2 L3
def nxM (M:Rho->Nat->Prop):QO:=λo m=>match o with|.nx ρ'=>M ρ' m|_=>False
def qeU {l:Nat} {t u:TS3} {x:PwS l t} {y:PwS l u} {ρ:Rho} {n:Nat} {Q:QO} (M:Rho->Nat->Prop) (h1:x.w ρ n (nxM M)) (h2:∀ ρ' m,M ρ' m->y.w ρ' m Q):(qa3 x y).w ρ n Q:=by
 rw [qa2];refine x.mono h1 λo m h=>?_;cases o with
 |nx ρ'=>exact h2 _ _ h
 |_=>exact h.elim
def qdb {xs ys:List PyData} (h:xs.length+ys.length<=16777216):qgC (.list xs) (.list ys)=some (.list (xs++ys)):=JE (by rw [sizeLine_eq];exact h)
open Bk (Lf Ext)
end Pu
namespace Pu
open PySem L2 L3
def CI (ρ:Rho) (i:Nat):Option (List (Int×PyData)):=match ρ[i]? with|some (.dc kvs)=>some kvs|_=>none
def qcs {ρ:Rho} {i:Nat} {kvs:List (Int×PyData)} (h:CI ρ i=some kvs):ρ[i]?=some (.dc kvs):=by
 unfold CI at h;split at h
 ·rename_i e;cases h;exact e
 ·cases h
def RV:List (Int×PyData)->Int->Option PyData
 |[],_=>none
 |p::r,k=>if p.1=k then some p.2 else RV r k
def qgx (kvs:List (Int×PyData)) (k:Int):Bool:=kvs.any λp=>decide (p.1=k)
def qhR (kvs:List (Int×PyData)) (k:Int) (x:PyData):List (Int×PyData):=kvs.map λp=>if p.1=k then (p.1,x) else p
def WB (kvs:List (Int×PyData)) (k:Int) (x:PyData):List (Int×PyData):=if qgx kvs k then qhR kvs k x else kvs++[(k,x)]
def DcQ (H:Gp) (ks:List (Int×T)) (kvs:List (Int×PyData)):Prop:=ks.map (λq=>q.1)=kvs.map (λq=>q.1)/\Dqs H (ks.map λq=>q.2) (kvs.map λq=>q.2)
def DcQ.up {H H':Gp} {ks:List (Int×T)} {kvs:List (Int×PyData)} (h:DcQ H ks kvs) (e:Ex H H'):DcQ H' ks kvs:=⟨h.1,h.2.up e⟩
def DcQ.nil {H:Gp}:DcQ H [] []:=⟨rfl,.nil⟩
def DcQ.cons {H:Gp} {a:Int} {x:T} {d:PyData} {ks:List (Int×T)} {kvs:List (Int×PyData)} (h:Dq H x d) (t:DcQ H ks kvs):DcQ H ((a,x)::ks) ((a,d)::kvs):=⟨congrArg (a::·) t.1,.cons h t.2⟩
def DS {H:Gp} {P:List (Int×T)->List (Int×PyData)->Prop} (p0:P [] []) (p1:∀ a x d ks kvs,Dq H x d->DcQ H ks kvs->P ks kvs->P ((a,x)::ks) ((a,d)::kvs)):∀ {ks kvs},DcQ H ks kvs->P ks kvs
 |[],[],_=>p0
 |[],_::_,h=>by have:=h.1;cases this
 |_::_,[],h=>by have:=h.1;cases this
 | (a,x)::ks,(b,d)::kvs,h=>by
  obtain ⟨h1,h2⟩:=h;have e:a=b/\ks.map (λq=>q.1)=kvs.map (λq=>q.1):=by
   rw [map_cons,map_cons] at h1;exact List.cons.inj h1
  obtain ⟨rfl,e⟩:=e;cases h2 with
  |cons q t=>exact p1 _ _ _ _ _ q ⟨e,t⟩ (DS p0 p1 ⟨e,t⟩)
def DcQ.len {H:Gp} {ks:List (Int×T)} {kvs:List (Int×PyData)} (h:DcQ H ks kvs):ks.length=kvs.length:=by
 have:=congrArg List.length h.1;rw [length_map,length_map] at this;exact this
def DcQ.look {H:Gp} {k:Int} {y:T} {d:PyData} (hy:Dq H y d) {ks:List (Int×T)} {kvs:List (Int×PyData)} (h:DcQ H ks kvs):Dq H ((R4 ks k).getD y) ((RV kvs k).getD d):=by
 refine DS (P:=λks kvs=>Dq H ((R4 ks k).getD y) ((RV kvs k).getD d)) hy (λa x e ks kvs q _ ih=>?_) h;show Dq H ((if a=k then some x else R4 ks k).getD y) ((if a=k then some e else RV kvs k).getD d);by_cases c:a=k
 ·rw [if_pos c,if_pos c];exact q
 ·rw [if_neg c,if_neg c];exact ih
def DcQ.has {H:Gp} {k:Int} {ks:List (Int×T)} {kvs:List (Int×PyData)} (h:DcQ H ks kvs):qeN ks k=qgx kvs k:=by
 refine DS (P:=λks kvs=>qeN ks k=qgx kvs k) rfl (λa x e ks kvs q _ ih=>?_) h;show (decide (a=k)||qeN ks k)=(decide (a=k)||qgx kvs k);rw [ih]
def DcQ.rep {H:Gp} {k:Int} {y:T} {d:PyData} (hy:Dq H y d) {ks:List (Int×T)} {kvs:List (Int×PyData)} (h:DcQ H ks kvs):DcQ H (KG ks k y) (qhR kvs k d):=by
 refine DS (P:=λks kvs=>DcQ H (KG ks k y) (qhR kvs k d)) .nil (λa x e ks kvs q _ ih=>?_) h;show DcQ H ((if a=k then (a,y) else (a,x))::KG ks k y) ((if a=k then (a,d) else (a,e))::qhR kvs k d);by_cases c:a=k
 ·rw [if_pos c,if_pos c];exact ih.cons hy
 ·rw [if_neg c,if_neg c];exact ih.cons q
def DcQ.app {H:Gp} {k:Int} {y:T} {d:PyData} (hy:Dq H y d) {ks:List (Int×T)} {kvs:List (Int×PyData)} (h:DcQ H ks kvs):DcQ H (ks++[(k,y)]) (kvs++[(k,d)]):=
 DS (P:=λks kvs=>DcQ H (ks++[(k,y)]) (kvs++[(k,d)])) (DcQ.nil.cons hy) (λa x e ks kvs q _ ih=>ih.cons q) h
def DcQ.store {H:Gp} {k:Int} {y:T} {d:PyData} (hy:Dq H y d) {ks:List (Int×T)} {kvs:List (Int×PyData)} (h:DcQ H ks kvs):DcQ H (EB ks k y) (WB kvs k d):=by
 unfold EB WB;rw [h.has];cases qgx kvs k with
 |true=>exact h.rep hy
 |false=>exact h.app hy
section
variable {D:Addr->Prop} {G0 G G':Gp} {A A':Nat->Option Addr} {τ:St3} {ρ:Rho}
def RS.dcq (h:RS D G0 A τ ρ G) {i:Nat} {kvs:List (Int×PyData)} (e:CI ρ i=some kvs):∃ p ks,A i=some p/\τ[i]?=some (some (.ref p))/\G p=some (.dct ks)/\DcQ (rs (AD D A) G) ks kvs:=h.dc i _ (qcs e)
def RS.putD (h:RS D G0 A τ ρ G) (i:Nat) {p:Addr} (gp:G p=none):RS D G0 (λj=>if j=i then some p else A j) (τ.set i (some (.ref p))) (ρ.set i (.dc [])) (gu G p (.dct [])):=by
 have E:Ex G (gu G p (.dct [])):=j6 gp;have np:∀ {j q},A j=some q->q≠p:=λe=>by rintro rfl;exact h.da _ _ e gp
 have X1:Ex (rs (AD D A) G) (rs (AD D (λj=>if j=i then some p else A j)) (gu G p (.dct []))):=λb o e=>by
  obtain ⟨n,e⟩:=za e;rw [QR]
  ·exact E _ _ e
  ·rintro (z|⟨j,z⟩)
   ·exact n (.inl z)
   ·simp only at z;split at z
    ·cases z;rw [gp] at e;cases e
    ·exact n (.inr ⟨j,z⟩)
 refine ⟨h.ex.trans E,h.dm,λj q e=>?_,λj q e=>?_,λj k q a b=>?_,by simp [h.len],λj e he=>?_,λj es e=>?_,λj es e=>?_⟩
 ·split at e
  ·cases e;cases z:G0 p with
   |none=>rfl
   |some o=>rw [h.ex _ _ z] at gp;cases gp
  ·exact h.fr j q e
 ·split at e
  ·cases e;rw [qp];simp
  ·exact (h.up E).da j q e
 ·split at a
  ·cases a;split at b
   ·rename_i h1 h2;rw [h1,h2]
   ·exact absurd rfl (np b)
  ·split at b
   ·cases b;exact absurd rfl (np a)
   ·exact h.inj j k q a b
 ·rw [getElem?_set] at he ⊢;split at he
  ·split at he<;>cases he
  ·rename_i hj;rw [if_neg hj];obtain ⟨t,b,c⟩:=h.sh j _ he;exact ⟨t,b,c.up X1⟩
 ·rw [getElem?_set] at e ⊢;split at e
  ·split at e<;>cases e
  ·rename_i hj;rw [if_neg hj];obtain ⟨q,ys,b,c,g,f⟩:=h.ow j _ e;exact ⟨q,ys,by rw [if_neg (λz=>hj z.symm)];exact b,c,E _ _ g,f.up X1⟩
 ·rw [getElem?_set] at e ⊢;split at e
  ·rename_i hj;subst hj;split at e
   ·rename_i hl;cases e;exact ⟨p,[],by simp,by rw [if_pos rfl,if_pos (by rw [← h.len];exact hl)],qp,rfl,.nil⟩
   ·cases e
  ·rename_i hj;rw [if_neg hj];obtain ⟨q,ys,b,c,g,k,f⟩:=h.dc j _ e;exact ⟨q,ys,by rw [if_neg (λz=>hj z.symm)];exact b,c,E _ _ g,k,f.up X1⟩
def RS.wrC (h:RS D G0 A τ ρ G) {i:Nat} {p:Addr} {ks:List (Int×T)} {kvs:List (Int×PyData)} (hi:A i=some p) (ht:τ[i]?=some (some (.ref p))) (hs:DcQ (rs (AD D A) G) ks kvs):RS D G0 A τ (ρ.set i (.dc kvs)) (gu G p (.dct ks)):=by
 have X1:Ex (rs (AD D A) G) (rs (AD D A) (gu G p (.dct ks))):=λb o e=>by
  obtain ⟨n,e⟩:=za e;rw [QR n,zu (by rintro rfl;exact n (.inr ⟨i,hi⟩))];exact e
 refine ⟨λb o e=>?_,h.dm,h.fr,λj q e=>?_,h.inj,by simp [h.len],λj e he=>?_,λj es e=>?_,λj es e=>?_⟩
 ·rw [zu (by rintro rfl;rw [h.fr i _ hi] at e;cases e)];exact h.ex _ _ e
 ·by_cases z:q=p
  ·subst z;rw [qp];simp
  ·rw [zu z];exact h.da j q e
 ·rw [getElem?_set] at he;split at he
  ·split at he<;>cases he
  ·obtain ⟨t,b,c⟩:=h.sh j _ he;exact ⟨t,b,c.up X1⟩
 ·rw [getElem?_set] at e;split at e
  ·split at e<;>cases e
  ·rename_i hj;obtain ⟨q,ys,b,c,g,f⟩:=h.ow j _ e;exact ⟨q,ys,b,c,by rw [zu (by rintro rfl;exact hj (h.inj i j _ hi b))];exact g,f.up X1⟩
 ·rw [getElem?_set] at e;split at e
  ·rename_i hj;subst hj;split at e
   ·cases e;exact ⟨p,ks,hi,ht,qp,(hs.up X1).1,(hs.up X1).2⟩
   ·cases e
  ·rename_i hj;obtain ⟨q,ys,b,c,g,k,f⟩:=h.dc j _ e;exact ⟨q,ys,b,c,by rw [zu (by rintro rfl;exact hj (h.inj i j _ hi b))];exact g,k,f.up X1⟩
end
def qcC (i:Nat):PuS (qD qbI (gn3 i)):=⟨λ_ ρ=>some (.nx (ρ.set i (.dc []))),λ{D G0 A τ ρ G n o e} h hf k=>by
 cases hf;intro p hp;exact k _ _ _ (h.putD i hp)⟩
def qbE {i:Nat}:(qcC i).f=λ_ ρ=>some (.nx (ρ.set i (.dc []))):=id rfl
def ql5 (i j:Nat) (k d:PyData) (ρ:Rho):Option Ot:=(asI k).bind λk=>(CI ρ j).bind λkvs=>if MW d then some (.nx (ρ.set i (.sh ((RV kvs k).getD d)))) else none
def qhZ {tk te:TE3} (i j:Nat) (a:PuE tk) (b:PuE te):PuS (qD (qj3 TH (v3 j) (qb tk (qb te qg))) (gn3 i)):=⟨λ_ ρ=>(a.f ρ).bind λk=>(b.f ρ).bind λd=>ql5 i j k d ρ,λ{D G0 A τ ρ G n o e} h hf kk=>by
 obtain ⟨kd,e1,hf⟩:=obb hf;obtain ⟨d,e2,hf⟩:=obb hf;unfold ql5 at hf;obtain ⟨k,e3,hf⟩:=obb hf;obtain ⟨kvs,e4,hf⟩:=obb hf;split at hf
 ·rename_i hs;cases hf;have:=LL e3;subst this;obtain ⟨p,ks,b1,c1,g1,q1⟩:=h.dcq e4;simp only [qD,qj3,v3,c1,g1];refine ⟨trivial,?_⟩;refine a.ok (h.viewAll _) h.domD e1 λx G1 E1 D1 _=>?_;cases D1;refine b.ok ((h.up E1).viewAll _) (h.up E1).domD e2 λy G2 E2 D2 _=>?_;simp only [qg,TH,E2 _ _ (E1 _ _ g1)];exact kk _ _ _ (((h.up E1).up E2).put i (((q1.up (jw E1)).up (jw E2)).look (DG D2 hs)))
 ·cases hf⟩
def qb9 (i:Nat) (k d:PyData) (ρ:Rho):Option Ot:=(asI k).bind λk=>(CI ρ i).bind λkvs=>cif (kvs.length<sizeLine) (some (.nx (ρ.set i (.dc (WB kvs k d))))) none
def qhB {t ti:TE3} (a:PuE t) (i:Nat) (b:PuE ti) (m:List Bool) (hm:Tru (a.fv.all (mkb m))):PuS (qD t (RP (v3 i) ti)):=⟨λ_ ρ=>(a.f ρ).bind λd=>(b.f ρ).bind λk=>qb9 i k d (dmS m d ρ),λ{D G0 A τ ρ G n o e} h hf k=>by
 obtain ⟨d,e1,hf⟩:=obb hf;obtain ⟨kd,e3,hf⟩:=obb hf;obtain ⟨A1,h1,ev⟩:=h.evalS a m hm e1;unfold qb9 at hf;obtain ⟨kk,e4,hf⟩:=obb hf;obtain ⟨kvs,e2,hf⟩:=obb hf;unfold cif at hf;split at hf
 ·rename_i hl;cases hf;have:=LL e4;subst this;obtain ⟨p,ks,bb,c,g,f⟩:=h1.dcq e2;refine ev _ λx G1 E1 D1=>?_;simp only [RP,v3,c];refine b.ok ((h.up E1).viewAll _) (h.up E1).domD e3 λy G2 E2 D2 _=>?_;cases D2;simp only [qeQ,E2 _ _ (E1 _ _ g)];exact ⟨by rw [f.len];exact hl,k _ _ _ (((h1.up E1).up E2).wrC bb c (((f.up (jw E1)).up (jw E2)).store (D1.up (jw E2))))⟩
 ·cases hf⟩
def fBi (n:Nat):FnD (Bk.jF (n+1)):=fBk n
def qjN {n:Nat}:(fBi n).f=λds=>the (BkR n ds):=id rfl
open Bk (Dl)
def NuR (n:Nat) (ds:List PyData) (v:PyData):Prop:=∃ (d:Dl) (i j:Int),ds=[Pv.dlD d,.tuple [.int i,.int j]]/\d.dep<=n/\d.Ok/\v=.int (i*d.C+j)
def fNu (n:Nat):FnD (Bk.zG n):=⟨λds=>the (NuR n ds),false,λ{D G xs ds v q} hx hd hf k=>by
 obtain ⟨d,i,j,rfl,h1,h2,rfl⟩:=EW hf;cases hx with
 |cons a b=>cases b with
  |cons c b=>
   cases b;have:=qby d a;subst this;cases c with
   |tup hs=>cases hs with
    |cons x hs=>cases hs with
     |cons y hs=>
      cases hs;cases x;cases y;exact ⟨d,i,j,rfl,h1,h2,k _ _ Ex.refl (.int _) (λz=>by cases z)⟩⟩
def qnk {n:Nat} {d:Dl} {i j:Int} (h1:d.dep<=n) (h2:d.Ok):the (NuR n [Pv.dlD d,.tuple [.int i,.int j]])=some (.int (i*d.C+j)):=qaq ⟨d,i,j,rfl,h1,h2,rfl⟩ λw ⟨e,i',j',a,_,_,b⟩=>by
 simp only [List.cons.injEq,PyData.tuple.injEq,PyData.int.injEq,and_true] at a;rw [b,RD d e a.1,a.2.1,a.2.2]
def qoo {n:Nat}:(fNu n).f=λds=>the (NuR n ds):=id rfl
end Pu
namespace Pv
open PySem L2 L3 Pu
def KS (lo:Int) (n:Nat):(LJ lo n).length=n:=by simp [LJ]
open Bk (Dl)
end Pv
namespace Pv
open PySem L2 L3 Pu
open Bk (pop qbc Z0 V2 EU Dl jn UQ YO UO)
end Pv
namespace Pv
open PySem L2 L3 Pu
open Bk (pop qbc Z0 V2 EU Dl)
end Pv
namespace Pv
open PySem L2 L3 Pu
open Bk (pop qbc Z0 V2 Dl)
end Pv
namespace Hd
open PySem L2 L3 PySem.W
def inC:Stmt->Stmt
 |.ClassDef _ _ _ (b::_) _ _ _ _ _ _ _=>b
 |s=>s
def oF (x:Str) (st:Stmt) (pm cd:Value):Obj:=⟨.type "function",none,.func (PySem.W.fnOf x x (jD st) (zk st) (qi st) .none .none .none pm none cd .none),#[]⟩
def oG (x:Str) (st:Stmt):Obj:=⟨.none,none,.func { name:=x,qualname:=x,params:=jD st,body:=.stmts (zk st),scope:=qi st,globals:=0,closure:=[],defaults:=.none,kwdefaults:=.none },#[]⟩
def oC (vs:List Value):Obj:=⟨.type "code",none,.fields vs.toArray,#[]⟩
def oT (vs:List Value):Obj:=⟨.type "tuple",none,.seq vs.toArray 0,#[]⟩
def eD (P:Params):Value×Value->DictEntry
 | (.str x t,v)=>⟨PyData.keyHash P x,.str x t,v⟩
 | (u,v)=>⟨0,u,v⟩
def oD (P:Params) (n:Nat) (es:List (Value×Value)):Obj:=⟨.type "dict",none,.dict (es.map (eD P)).toArray n,#[]⟩
def oK (x:Str) (t l n m:Nat) (a b:Addr) (u v z:Value) (e y q:Nat):Obj:=oC [.str x t,.str x (t+1),.str "/claim/cut.py" (t+2),.int l 0,.int n 0,.int 0 0,.int 0 0,.int 3 0,.ref a,.bool true,.int m 0,.ref b,u,v,z,.ref e,.int y 0,.int l 0,.str "/claim/cut.py" q]
def nmV:List Str->Nat->List Value
 |[],_=>[]
 |x::r,t=>.str x t::nmV r (t+1)
def oN (xs:List Str) (t:Nat):Obj:=oT (nmV xs t)
abbrev nd (o:Obj) (l r:PySem.W.BT):PySem.W.BT:=.node o l r
abbrev lf (o:Obj):PySem.W.BT:=.node o .nil .nil
def z9 {K:Frg} (x:Str) (st:Stmt) (f:Addr) (pm cd:Value) (l:K.lookup f=some (oF x st pm cd)) (c:PySem.W.codeIn K cd x=true) (k:PySem.W.keepIn K (.ref f)=true) :
  Fun K x x st f (PySem.W.fnOf x x (jD st) (zk st) (qi st) .none .none .none pm none cd .none):=qlZ l c k
def zj {K:Frg} {h:Heap} {mg:Str->Option Value} (X:K.In h) (G:h.Ns mainGlobals mg) (n:Str) (v:Value) (e:PySem.W.nsIn K mainGlobals n=some (some v)):mg n=some v:=PySem.W.mg_of X G e
def ER {K:Frg} {h:Heap} {mg:Str->Option Value} (X:K.In h) (G:h.Ns mainGlobals mg) (n:Str) (e:PySem.W.nsIn K mainGlobals n=some none):mg n=none:=PySem.W.mg_none_of X G e
def head {l:OpenLaw} {q:Program} {loose:List Str} {K:Params->Frag} {as:List Addr} {d:DefRec} {N:Nat} {k:Nat} {x:Str} (ha:∀ P,as=(K P).map (·.1))
  (ok:l.wellSaid=true)
  (left:LeftO l.prog q loose (λs=>xlAt q [] s&&recOk [] s) (λs=>as.map s.heap.get?) (λw=>(K w.params).map λp=>some p.2) N)
  (hdef:defOf q l.name=some (d,[])) (hp:l.prog.theDef l.name=some (d.params,d.body,d.scope)) (hk:kwWritten? d.params.kwonlyargs d.params.kw_defaults=some [])
  (hwr:(!l.row.writes||l.row.records.isEmpty)=true) (ok2:(chainsOk q&&opensWell l.prog&&(frees l.row.toRowW&&l.row.within.isEmpty))=true) (hb:l.prog.bare) (hw:l.row.toRowW.promised)
  (hn:l.most=some 63) (hdf:d.params.defaults=[]) (hr:Room k callerA) (hK:∀ w:World,UB (K w.params)=true)
  (F:∀ (w:World) (mg:Str->Option Value) (fa:Addr) (h:Heap),(K w.params).In h->h.Ns mainGlobals mg->mg d.name=some (.ref fa) ->
   ∃ fd:FuncData,(∀ (s:Shared) (u:Value),BindsTo s fd ⟨[u],[]⟩ [(x,u)])/\∀ base:Heap,(K w.params).In base->base.Ns mainGlobals mg->FnOk l.prog w (K w.params) mg base CX0 k fa fd [x] (lSp (K w.params) XJ)):l.Holds:=by
 refine holds_law ok λsaid=>?_;exact holds_open (q:=q) (loose:=loose) (Xt:=λs=>xlAt q [] s&&recOk [] s) (XP:=XL q []) (Yf:=Hook.obs (kHook K as ha)) (Ya:=Hook.val (kHook K as ha)) (YP:=Hook.says (kHook K as ha)) (N:=N) left
  (Hook.of (kHook K as ha)) (Hook.keeps (kHook K as ha)) (λs e=>xl_of s (Bool.and_eq_true_iff.mp e).1) XL.keeps hdef hp hk (λs e=>recFacts_of (Bool.and_eq_true_iff.mp e).2) hwr said ok2 hb hw
  (L3.qnS (l:=l) (k:=k) (x:=x) hn hdf hr (λw h Y=>kIn_of Y) hK F)
end Hd
namespace L3
open PySem PySem.Spec PyProof.Rows L2
def qgf:bootBuiltins "ValueError" = some (.type "ValueError"):=by first|kernel_rfl|decide +kernel
def XD.nil {K:Frg} {cs:List Value}:XD K cs []:=λ_ z=>nomatch z
def XD.cons {K:Frg} {cs:List Value} {o:Option Addr} {b:Bool} {D:List (Option Addr×Bool)} (h1:∀ C,o=some C->ExK K C) (h2:PySem.W.kitAny K (tyv o) cs=some b) (h:XD K cs D):XD K cs ((o,b)::D):=λp hp=>by
 rcases mem_cons.mp hp with rfl|hp
 ·exact ⟨h1,h2⟩
 ·exact h p hp
end L3
namespace Hd
open PySem PySem.Spec PyProof.Rows L2 L3 PySem.W
def oX (nm:Str) (C N:Addr) (bs bm sub:List Value) (tb:Addr) (t1 t2:Nat) (nw:String):Obj:=excClassObj nm nm C N bs bm true [] sub false none none (some (.ref tb)) none (some (.str nm t1)) (some (.str nm t2)) (some (.bool true)) nw
def qlt (K:Frag) (C:Addr) (mro:List Value):Bool:=match K.lookup C with
 |some ⟨.type "type",_,.cls cd,sl⟩=>cd.mro==mro&&!cd.hasDel&&match mro,sl.toList with|.ref C'::_,[_,_,_,_,some (.builtin _),_]=>C'==C|_,_=>false
 |_=>false
def qiF {K:Frag} {h:Heap} {C:Addr} {mro:List Value} (X:K.In h) (q:qlt K C mro=true):ExC h C mro:=by
 unfold qlt at q;split at q
 ·rename_i dd cd sl ho;simp only [Bool.and_eq_true,beq_iff_eq,Bool.not_eq_true'] at q;obtain ⟨⟨h1,h2⟩,h3⟩:=q;split at h3
  ·rename_i C' bm k0 k1 k2 k3 n k5 hs;obtain ⟨nm,bs,mro,ns,qn,hd,sn,sub,ab,col,del⟩:=cd;dsimp only at h1 h2;subst h2;have e3:C'=C:=beq_iff_eq.mp h3;subst e3;subst h1;have hsl:sl=#[k0,k1,k2,k3,some (.builtin n),k5]:=by
    obtain ⟨l⟩:=sl;exact congrArg Array.mk hs
   subst hsl;exact ⟨nm,qn,ns,bs,bm,hd,sn,sub,ab,col,dd,k0,k1,k2,k3,k5,n,X _ _ ho,rfl⟩
  ·cases h3
 ·cases q
def qgh {base:Heap} {B C:Addr} {mro:List Value} {cs:List Addr} (h1:ExC base C mro) (h2:mro.contains (.ref B)=true) (h:∀ C∈cs,Ct base B C):∀ D∈C::cs,Ct base B D:=λD hD=>by
 rcases mem_cons.mp hD with rfl|hD
 ·exact ⟨mro,h1,h2⟩
 ·exact h D hD
def qmL {K:Frag} {h:Heap} {mg:Str->Option Value} {x:Str} {C N tb:Addr} {nm:Str} {bs bm sub:List Value} {t1 t2:Nat} (X:K.In h) (hb:mg x=some (.ref C)) (l:K.lookup C=some (oX nm C N bs bm sub tb t1 t2 "ValueError.__new__"))
  (t:tailIn K [.type "ValueError",.type "Exception",.type "BaseException",.type "object"] bm=true) (n:nsOkIn K N=true) (i:nsIn K N "__init__" = some none):RaX mg h x C:=
 ⟨⟨hb,bm,N,nm,nm,bs,true,[],sub,false,none,none,_,_,_,_,_,_,X _ _ l,.of_isNs (isNs_of_in X n),nsMap_none_of_in X n i,tail_of_in X t⟩⟩
end Hd
namespace Pu
open PySem L2 L3
structure PzS (t:X3->TS3) where
 f:Nat->Rho->Option (Addr ⊕ Ot)
 okx:∀ {D G0 A τ ρ G n C} {dx:X3} {e:Ends3},RS D G0 A τ ρ G->f n ρ=some (.inl C)->(∀ G',Ex G0 G'->dx C G')->t dx e τ G
 okn:∀ {D G0 A τ ρ G n o} {dx:X3} {e:Ends3},RS D G0 A τ ρ G->f n ρ=some (.inr o)->qgA D G0 e o->t dx e τ G
def zP {t:TS3} (a:PuS t):PzS (λ_=>t) where
 f:=λn ρ=>(a.f n ρ).map .inr
 okx:=λh hf k=>by
  obtain ⟨o,e1,e2⟩:=Option.map_eq_some_iff.mp hf;cases e2
 okn:=λh hf k=>by
  obtain ⟨o,e1,e2⟩:=Option.map_eq_some_iff.mp hf;cases e2;exact a.ok h e1 k
def qoy:PzS (λ_=>V5) where
 f:=λ_ _=>none
 okx:=λh hf k=>by cases hf
 okn:=λh hf k=>by cases hf
def qc9 {t:TA3} (C:Addr) (a:PuA t) (hn:Tru (Nat.ble a.n 1000)):PzS (λdx=>LM C dx t) where
 f:=λ_ ρ=>(a.f ρ).map λ_=>.inl C
 okx:=λh hf k=>by
  obtain ⟨d,e1,e2⟩:=Option.map_eq_some_iff.mp hf;cases e2;exact a.ok (h.viewAll _) h.domD e1 λxs G' E Q=>⟨by rw [Q.length,a.ln e1];exact few hn,k G' (h.ex.trans E)⟩
 okn:=λh hf k=>by
  obtain ⟨d,e1,e2⟩:=Option.map_eq_some_iff.mp hf;cases e2
def zIf {c:TT3} {t u:X3->TS3} (pc:PuC c) (a:PzS t) (b:PzS u):PzS (λdx=>zf c (t dx) (u dx)) where
 f:=λn ρ=>(pc.f ρ).bind λk=>if k then a.f n ρ else b.f n ρ
 okx:=λh hf k=>by
  obtain ⟨o1,e1,hf⟩:=obb hf;refine pc.ok (h.viewAll _) h.domD e1 λG1 E1=>?_;cases o1 with
  |true=>exact a.okx (h.up E1) hf k
  |false=>exact b.okx (h.up E1) hf k
 okn:=λh hf k=>by
  obtain ⟨o1,e1,hf⟩:=obb hf;refine pc.ok (h.viewAll _) h.domD e1 λG1 E1=>?_;cases o1 with
  |true=>exact a.okn (h.up E1) hf k
  |false=>exact b.okn (h.up E1) hf k
def qga (a b:Nat->Rho->Option (Addr ⊕ Ot)) (n:Nat) (ρ:Rho):Option (Addr ⊕ Ot):=(a n ρ).bind λo=>match o with|.inl C=>some (.inl C)|.inr (.nx ρ')=>b n ρ'|.inr o=>some (.inr o)
def qml {t u:X3->TS3} (a:PzS t) (b:PzS u):PzS (λdx=>qw (t dx) (u dx)) where
 f:=qga a.f b.f
 okx:=λ{D G0 A τ ρ G n C dx e} h hf k=>by
  unfold qga at hf;obtain ⟨o1,e1,hf⟩:=obb hf;cases o1 with
  |inl C'=>cases hf;exact a.okx h e1 k
  |inr o=>
   refine a.okn h e1 ?_;cases o with
   |nx ρ'=>exact λA' τ' G' h'=>b.okx h' hf k
   |bk ρ'=>cases hf
   |ct ρ'=>cases hf
   |rt d fr=>cases hf
 okn:=λ{D G0 A τ ρ G n o dx e} h hf k=>by
  unfold qga at hf;obtain ⟨o1,e1,hf⟩:=obb hf;cases o1 with
  |inl C'=>cases hf
  |inr o=>
   refine a.okn h e1 ?_;cases o with
   |nx ρ'=>exact λA' τ' G' h'=>b.okn h' hf k
   |bk ρ'=>cases hf;exact k
   |ct ρ'=>cases hf;exact k
   |rt d fr=>cases hf;exact k
def PXp (X:List PyData->Option Addr):Spx:=λts G dx=>∃ (D:Addr->Prop) (ds:List PyData) (C:Addr),Dqs (rs D G) ts ds/\Dom D G/\X ds=some C/\∀ G',Ex G G'->dx C G'
def M7 {t:TA3} (X:List PyData->Option Addr) (a:PuA t):PzS (λdx=>zn (ql7 (PXp X) dx t)) where
 f:=λ_ ρ=>((a.f ρ).bind X).map .inl
 okx:=λ{D G0 A τ ρ G n C dx e} h hf k=>by
  obtain ⟨d,e1,e2⟩:=Option.map_eq_some_iff.mp hf;cases e2;obtain ⟨ds,e3,e4⟩:=obb e1;exact a.ok (h.viewAll _) h.domD e3 λxs G' E Q=>⟨D,ds,C,Q,h.domD.up E,e4,λG'' E'=>k G'' ((h.ex.trans E).trans E')⟩
 okn:=λh hf k=>by
  obtain ⟨d,e1,e2⟩:=Option.map_eq_some_iff.mp hf;cases e2
def qi2:Option (Addr ⊕ Ot)->Option Addr
 |some (.inl C)=>some C
 |_=>none
def qlW (f:Nat->Rho->Option (Addr ⊕ Ot)) (k N n:Nat) (ds:List PyData):Option Addr:=if ds.length=k then qi2 (f n (st ds N)) else none
def qmS {D:Addr->Prop} {G:Gp} {ts:List T} {ds:List PyData} (N:List Str) (hs:Dqs (rs D G) ts ds) (hd:Dom D G):RS D G (λ_=>none) (qj N ts) (st ds N.length) G:=by
 refine ⟨Ex.refl,hd,(λi p e=>by cases e),(λi p e=>by cases e),(λi j p e=>by cases e),(by simp [st,qj,hs.length]),λi d' e=>?_,λi es e=>?_,λi es e=>?_⟩
 ·unfold st at e;unfold qj;by_cases hi:i<ds.length
  ·rw [List.getElem?_append_left (by simpa using hi),getElem?_map] at e;obtain ⟨d2,e3,e4⟩:=Option.map_eq_some_iff.mp e;cases e4;obtain ⟨x,e5,hx⟩:=hs.get e3;refine ⟨x,?_,hx.up (jt λb z=>?_)⟩
   ·rw [List.getElem?_append_left (by simp [hs.length];exact hi),getElem?_map,e5];rfl
   ·rcases z with z|⟨i,z⟩
    ·exact z
    ·cases z
  ·rw [List.getElem?_append_right (by simpa using hi),List.getElem?_replicate] at e;split at e<;>cases e
 ·unfold st at e;by_cases hi:i<ds.length
  ·rw [List.getElem?_append_left (by simpa using hi),getElem?_map] at e;obtain ⟨d2,e3,e4⟩:=Option.map_eq_some_iff.mp e;cases e4
  ·rw [List.getElem?_append_right (by simpa using hi),List.getElem?_replicate] at e;split at e<;>cases e
 ·unfold st at e;by_cases hi:i<ds.length
  ·rw [List.getElem?_append_left (by simpa using hi),getElem?_map] at e;obtain ⟨d2,e3,e4⟩:=Option.map_eq_some_iff.mp e;cases e4
  ·rw [List.getElem?_append_right (by simpa using hi),List.getElem?_replicate] at e;split at e<;>cases e
def SS {t:X3->TS3} (b:PzS t) (N:List Str) (k n:Nat):∀ ts G dx,PXp (qlW b.f k N.length n) ts G dx->ts.length=k/\t dx { nx:=λ_ _=>False,rt:=λ_ _=>False } (qj N ts) G:=by
 rintro ts G dx ⟨D,ds,C,hs,hd,hf,h⟩;unfold qlW at hf;split at hf
 ·rename_i hk;refine ⟨by rw [hs.length];exact hk,?_⟩;cases e:b.f n (st ds N.length) with
  |none=>rw [e] at hf;cases hf
  |some o=>
   cases o with
   |inl C'=>rw [e] at hf;cases hf;exact b.okx (qmS N hs hd) e h
   |inr o=>rw [e] at hf;cases hf
 ·cases hf
def qcq {t:TA3} {C:Addr} {a:PuA t} {hn:Tru (Nat.ble a.n 1000)} {n:Nat} {ρ:Rho}:(qc9 C a hn).f n ρ=(a.f ρ).map λ_=>.inl C:=id rfl
def qmG {c:TT3} {t u:X3->TS3} {pc:PuC c} {a:PzS t} {b:PzS u} {n:Nat} {ρ:Rho}:(zIf pc a b).f n ρ=(pc.f ρ).bind λk=>if k then a.f n ρ else b.f n ρ:=id rfl
def qaO {t u:X3->TS3} {a:PzS t} {b:PzS u} {n:Nat} {ρ:Rho}:(qml a b).f n ρ=(a.f n ρ).bind λo=>match o with|.inl C=>some (.inl C)|.inr (.nx ρ')=>b.f n ρ'|.inr o=>some (.inr o):=id rfl
def LF {t:TA3} {X:List PyData->Option Addr} {a:PuA t} {n:Nat} {ρ:Rho}:(M7 X a).f n ρ=((a.f ρ).bind X).map .inl:=id rfl
def qaW {C:Addr}:qi2 (some (.inl C))=some C:=id rfl
end Pu
namespace K06
open PySem L2 L3 Bk
def top (i : Nat) : Stmt := PySem.Challenge.pw_bankwalk_k06_what_is_no_word.main.body.getD i (.Pass ⟨0,0,0,0⟩)
variable {P:Program} {w:World} {K:Frg} {mg:Str->Option Value} {base:Heap} {f:Addr} {fd:FuncData} {k:Nat} {sp:Sp3}
abbrev jW:Stmt:=top 1
abbrev JC:List Str:=["thing"]
abbrev VF:List Str:=["thing"]
def RJ:FnScope JC VF (qi jW):=⟨rfl,rfl,rfl,by decide +kernel,rfl,by decide +kernel,by decide +kernel⟩
def RN (F:Fun K "is_number" "is_number" jW f fd) (bd:zd K fd VF []) (hm:mg "is_number" = some (.ref f))   (m_isinstance:mg "isinstance" = none) (m_bool:mg "bool" = none) (m_int:mg "int" = none)
  (read:Rd sp 1 (Bk.JQ) JC):Fn3 P w K mg base (k+1) "is_number" sp:=
 qH (t3:=(Bk.JQ)) F RJ bd hm (λcdv A outer s H E hr=>(qo (qx (SA (qaH (qc 0) rfl m_isinstance rfl m_int PyProof.Rows.boot_int) (M2 (qhG (qaH (qc 0) rfl m_isinstance rfl m_bool PyProof.Rows.boot_bool))))))) read
abbrev ZO:Stmt:=top 2
abbrev ZU:List Str:=["thing"]
abbrev DH:List Str:=["thing"]
def LY:FnScope ZU DH (qi ZO):=⟨rfl,rfl,rfl,by decide +kernel,rfl,by decide +kernel,by decide +kernel⟩
def LX {S_is_number:Sp3} (F:Fun K "is_pair" "is_pair" ZO f fd) (bd:zd K fd DH []) (hm:mg "is_pair" = some (.ref f)) (qP:Fn3 P w K mg base k "is_number" S_is_number)  (m_len:mg "len" = none) (m_isinstance:mg "isinstance" = none) (m_tuple:mg "tuple" = none)
  (read:Rd sp 1 (Bk.V6 S_is_number) ZU):Fn3 P w K mg base (k+1) "is_pair" sp:=
 qH (t3:=(Bk.V6 S_is_number)) F LY bd hm (λcdv A outer s H E hr=>(qo (qx (SA (qaH (qc 0) rfl m_isinstance rfl m_tuple PyProof.Rows.boot_tuple) (SA (qej (zZ hr.units) zi (zL j7 JP rfl m_len PySem.boot_len (qa (qc 0) qe)) qd (qQ _)) (SA (qh qP hr rfl (qa (qE (qc 0) qd) qe)) (M2 (qh qP hr rfl (qa (qE (qc 0) qd) qe))))))))) read
abbrev ZH:Stmt:=top 15
abbrev WJ:List Str:=["dealing","kind","rows","columns","banks","other_rows","other_columns","other_banks"]
abbrev WD:List Str:=["dealing"]
def jo:FnScope WJ WD (qi ZH):=⟨rfl,rfl,rfl,by decide +kernel,rfl,by decide +kernel,by decide +kernel⟩
def UE {S_size_of:Sp3} (F:Fun K "size_of" "size_of" ZH f fd) (bd:zd K fd WD []) (hm:mg "size_of" = some (.ref f)) (F_size_of:Fn3 P w K mg base k "size_of" S_size_of)  (m_len:mg "len" = none)
  (read:Rd sp 1 (Bk.V7 S_size_of) WJ):Fn3 P w K mg base (k+1) "size_of" sp:=
 qH (t3:=(Bk.V7 S_size_of)) F jo bd hm (λcdv A outer s H E hr=>(qf (qJ 1 jo.nd (qE (qc 0) qd)) (qf (jq (qS (zZ hr.units) zi (qc 1) qC (qQ _)) (qo (qx (qs (qa (KO qd (qE (qc 0) qd)) (qa (KO qd (qE (qc 0) qd)) (qa (KO qd (zL j7 JP rfl m_len PySem.boot_len (qa (qE (qc 0) qd) qe))) qe)))))) zg) (qf (jq (qS (zZ hr.units) zi (qc 1) qC (qQ _)) (qo (qx (qs (qa (zL j7 JP rfl m_len PySem.boot_len (qa (qE (qc 0) qd) qe)) (qa (zL j7 JP rfl m_len PySem.boot_len (qa (qE (qE (qc 0) qd) qd) qe)) (qa (qE (qc 0) qd) qe)))))) zg) (qf (jq (qS (zZ hr.units) zi (qc 1) qC (qQ _)) (qf (js (qh F_size_of hr rfl (qa (qE (qc 0) qd) qe)) (jA rfl (qt (qq (i:=2) (jo.nd)) (qt (qq (i:=3) (jo.nd)) (qt (qq (i:=4) (jo.nd)) jC))))) (qf (js (qh F_size_of hr rfl (qa (qE (qc 0) qd) qe)) (jA rfl (qt (qq (i:=5) (jo.nd)) (qt (qq (i:=6) (jo.nd)) (qt (qq (i:=7) (jo.nd)) jC))))) (qo (qx (qs (qa (j5 (qc 2) (qc 5)) (qa (j5 (qc 3) (qc 6)) (qa (j5 (qc 4) (qc 7)) qe)))))))) zg) (qo (qx (qs (qa (qE (qc 0) qd) (qa (qE (qc 0) qd) (qa (qE (qc 0) qd) qe))))))))))) read
abbrev jS:Stmt:=top 16
abbrev VE:List Str:=["dealing","word","rows","columns","banks"]
abbrev VC:List Str:=["dealing","word"]
def Q5:FnScope VE VC (qi jS):=⟨rfl,rfl,rfl,by decide +kernel,rfl,by decide +kernel,by decide +kernel⟩
def YE {S_size_of:Sp3} (F:Fun K "number_of" "number_of" jS f fd) (bd:zd K fd VC []) (hm:mg "number_of" = some (.ref f)) (F_size_of:Fn3 P w K mg base k "size_of" S_size_of)  
  (read:Rd sp 2 (Bk.JJ S_size_of) VE):Fn3 P w K mg base (k+1) "number_of" sp:=
 qH (t3:=(Bk.JJ S_size_of)) F Q5 bd hm (λcdv A outer s H E hr=>(qf (js (qh F_size_of hr rfl (qa (qc 0) qe)) (jA rfl (qt (qq (i:=2) (Q5.nd)) (qt (qq (i:=3) (Q5.nd)) (qt (qq (i:=4) (Q5.nd)) jC))))) (qo (qx (qF (j5 (qE (qc 1) qd) (qc 3)) (qE (qc 1) qd)))))) read
abbrev jU:Stmt:=top 17
abbrev JM:List Str:=["dealing","rows","columns","banks"]
abbrev VL:List Str:=["dealing"]
def Q7:FnScope JM VL (qi jU):=⟨rfl,rfl,rfl,by decide +kernel,rfl,by decide +kernel,by decide +kernel⟩
def JG (S_size_of:Sp3):TS3:=(qw (qD (cb3 S_size_of (qb (v3 0) qg)) (qV 3 (qm (gn3 1) (qm (gn3 2) (qm (gn3 3) qW))))) (qK (ql6 (j4 (qb (v3 1) qg)) (gn3 0) tt3 (j4 (qb (v3 2) qg)) (gn3 1) tt3 (qI (qb (v3 0) (qb (v3 1) qg))) [none,none,some 2])))
def SG {S_size_of:Sp3} (F:Fun K "all_words" "all_words" jU f fd) (bd:zd K fd VL []) (hm:mg "all_words" = some (.ref f)) (F_size_of:Fn3 P w K mg base k "size_of" S_size_of)  (m_range:mg "range" = none)
  (read:Rd sp 1 (JG S_size_of) JM):Fn3 P w K mg base (k+1) "all_words" sp:=
 qH (t3:=(JG S_size_of)) F Q7 bd hm (λcdv A outer s H E hr=>(qf (js (qh F_size_of hr rfl (qa (qc 0) qe)) (jA rfl (qt (qq (i:=1) (Q7.nd)) (qt (qq (i:=2) (Q7.nd)) (qt (qq (i:=3) (Q7.nd)) jC))))) (qo (qx (qlb ["i","j","columns"] [none,none,some 2] rfl (zA rfl m_range (qa (qc 1) qe) (h1:=by intro _ _ _ h;simpa [qb,qg] using h)) (λ_ _ _=>(jgn 0)) (λ_ _ _=>JU) (λ_ _ _=>(zA rfl m_range (qa (qc 2) qe) (h1:=by intro _ _ _ h;simpa [qb,qg] using h))) (λ_ _ _=>(jgn 1)) (λ_ _ _=>JU) (λ_ _ _=>(qs (qa (qc 0) (qa (qc 1) qe)))) (by kernel_rfl) (by kernel_rfl)))))) read
abbrev ZN:Stmt:=top 18
abbrev J5:List Str:=["dealing","thing","rows","columns","banks"]
abbrev WI:List Str:=["dealing","thing"]
def YI:FnScope J5 WI (qi ZN):=⟨rfl,rfl,rfl,by decide +kernel,rfl,by decide +kernel,by decide +kernel⟩
def ML {S_is_pair:Sp3} {S_size_of:Sp3} (F:Fun K "is_word" "is_word" ZN f fd) (bd:zd K fd WI []) (hm:mg "is_word" = some (.ref f)) (zU:Fn3 P w K mg base k "is_pair" S_is_pair) (F_size_of:Fn3 P w K mg base k "size_of" S_size_of)  
  (read:Rd sp 2 (Bk.V3 S_is_pair S_size_of) J5):Fn3 P w K mg base (k+1) "is_word" sp:=
 qH (t3:=(Bk.V3 S_is_pair S_size_of)) F YI bd hm (λcdv A outer s H E hr=>(qf (jq (LH (RC (qh zU hr rfl (qa (qc 1) qe)))) (qo (qx RR)) zg) (qf (js (qh F_size_of hr rfl (qa (qc 0) qe)) (jA rfl (qt (qq (i:=2) (YI.nd)) (qt (qq (i:=3) (YI.nd)) (qt (qq (i:=4) (YI.nd)) jC))))) (qo (qx (SA (KN qgH JV qbk JV qd (qE (qc 1) qd) (qc 2)) (M2 (KN qgH JV qbk JV qd (qE (qc 1) qd) (qc 3))))))))) read
abbrev zz:Stmt:=top 19
abbrev QS:List Str:=["number","mask","common","many"]
abbrev QP:List Str:=["number","mask"]
def zB:FnScope QS QP (qi zz):=⟨rfl,rfl,rfl,by decide +kernel,rfl,by decide +kernel,by decide +kernel⟩
def EJ (F:Fun K "odd_in_common" "odd_in_common" zz f fd) (bd:zd K fd QP []) (hm:mg "odd_in_common" = some (.ref f))   
  (read:Rd sp 2 (Bk.jz) QS):Fn3 P w K mg base (k+1) "odd_in_common" sp:=
 qH (t3:=(Bk.jz)) F zB bd hm (λcdv A outer s H E hr=>(qf (qJ 2 zB.nd (TB (qc 0) (qc 1))) (qf (qJ 3 zB.nd qd) (qf (KD PassesOwn.never (qS qar JV (qc 2) qd (qQ _)) (qf (qal 3 zB.nd (TB (qc 2) qd)) (qo (qJ 2 zB.nd (qiB (qc 2) qd))))) (qo (qx (qej (zZ hr.units) zi (TB (qc 3) qd) qd (qQ _)))))))) read
abbrev jV:Stmt:=top 20
abbrev DL:List Str:=["masks","number"]
abbrev VB:List Str:=["masks","number"]
def RG:FnScope DL VB (qi jV):=⟨rfl,rfl,rfl,by decide +kernel,rfl,by decide +kernel,by decide +kernel⟩
def RF {S_odd_in_common:Sp3} (F:Fun K "bits_bank" "bits_bank" jV f fd) (bd:zd K fd VB []) (hm:mg "bits_bank" = some (.ref f)) (F_odd_in_common:Fn3 P w K mg base k "odd_in_common" S_odd_in_common)  (m_enumerate:mg "enumerate" = none) (m_sum:mg "sum" = none)
  (read:Rd sp 2 (Bk.JA S_odd_in_common) DL):Fn3 P w K mg base (k+1) "bits_bank" sp:=
 qH (t3:=(Bk.JA S_odd_in_common)) F RG bd hm (λcdv A outer s H E hr=>(qo (qx (zL (X6 rfl) qf8 rfl m_sum PyProof.Rows.boot_sum (qa (S7 ["t","mask","number"] [none,none,some 1] rfl (qe7 rfl m_enumerate (qa (qc 0) qe)) (λ_ _ _=>(jA rfl (qt (jgn 0) (qt (jgn 1) jC)))) (λ_ _ _=>qji (RC (qh F_odd_in_common hr rfl (qa (qc 2) (qa (qc 1) qe))))) (λ_ _ _=>(KO qd (qc 0))) (by kernel_rfl) (by kernel_rfl)) qe))))) read
abbrev J4:Stmt:=top 21
abbrev X9:List Str:=["word","rows","columns","i","j"]
abbrev CO:List Str:=["word","rows","columns"]
def DW:FnScope X9 CO (qi J4):=⟨rfl,rfl,rfl,by decide +kernel,rfl,by decide +kernel,by decide +kernel⟩
def qaY (F:Fun K "parted" "parted" J4 f fd) (bd:zd K fd CO []) (hm:mg "parted" = some (.ref f))   
  (read:Rd sp 3 (Bk.E9) X9):Fn3 P w K mg base (k+1) "parted" sp:=
 qH (t3:=(Bk.E9)) F DW bd hm (λcdv A outer s H E hr=>(qf (js (qc 0) (jA rfl (qt (qq (i:=3) (DW.nd)) (qt (qq (i:=4) (DW.nd)) jC)))) (qo (qx (qs (qa (qs (qa (XX (qc 3) (qc 1)) (qa (XX (qc 4) (qc 2)) qe))) (qa (qs (qa (Q4 (qc 3) (qc 1)) (qa (Q4 (qc 4) (qc 2)) qe))) qe))))))) read
abbrev jc:Stmt:=top 22
abbrev JF:List Str:=["one","other","word","rows","columns","banks","upper","lower"]
abbrev JH:List Str:=["one","other","word"]
def zC:FnScope JF JH (qi jc):=⟨rfl,rfl,rfl,by decide +kernel,rfl,by decide +kernel,by decide +kernel⟩
def ZE {S_size_of:Sp3} {S_parted:Sp3} {S_bank_in:Sp3} (F:Fun K "joined_bank" "joined_bank" jc f fd) (bd:zd K fd JH []) (hm:mg "joined_bank" = some (.ref f)) (F_size_of:Fn3 P w K mg base k "size_of" S_size_of) (F_parted:Fn3 P w K mg base k "parted" S_parted) (F_bank_in:Fn3 P w K mg base k "bank_in" S_bank_in)  
  (read:Rd sp 3 (Bk.QC S_size_of S_parted S_bank_in) JF):Fn3 P w K mg base (k+1) "joined_bank" sp:=
 qH (t3:=(Bk.QC S_size_of S_parted S_bank_in)) F zC bd hm (λcdv A outer s H E hr=>(qf (js (qh F_size_of hr rfl (qa (qc 1) qe)) (jA rfl (qt (qq (i:=3) (zC.nd)) (qt (qq (i:=4) (zC.nd)) (qt (qq (i:=5) (zC.nd)) jC))))) (qf (js (qh F_parted hr rfl (qa (qc 2) (qa (qc 3) (qa (qc 4) qe)))) (jA rfl (qt (qq (i:=6) (zC.nd)) (qt (qq (i:=7) (zC.nd)) jC)))) (qo (qx (qF (j5 (qh F_bank_in hr rfl (qa (qc 0) (qa (qc 6) qe))) (qc 5)) (qh F_bank_in hr rfl (qa (qc 1) (qa (qc 7) qe))))))))) read
abbrev ZM:Stmt:=top 23
abbrev DX:List Str:=["dealing","word","kind"]
abbrev D8:List Str:=["dealing","word"]
def XC:FnScope DX D8 (qi ZM):=⟨rfl,rfl,rfl,by decide +kernel,rfl,by decide +kernel,by decide +kernel⟩
def UT {S_number_of:Sp3} {S_bits_bank:Sp3} {S_joined_bank:Sp3} (F:Fun K "bank_in" "bank_in" ZM f fd) (bd:zd K fd D8 []) (hm:mg "bank_in" = some (.ref f)) (F_number_of:Fn3 P w K mg base k "number_of" S_number_of) (F_bits_bank:Fn3 P w K mg base k "bits_bank" S_bits_bank) (F_joined_bank:Fn3 P w K mg base k "joined_bank" S_joined_bank)  
  (read:Rd sp 2 (Bk.VU S_number_of S_bits_bank S_joined_bank) DX):Fn3 P w K mg base (k+1) "bank_in" sp:=
 qH (t3:=(Bk.VU S_number_of S_bits_bank S_joined_bank)) F XC bd hm (λcdv A outer s H E hr=>(qf (qJ 2 XC.nd (qE (qc 0) qd)) (qf (jq (qS (zZ hr.units) zi (qc 2) qC (qQ _)) (qo (qx (Q4 (qF (j5 (qE (qc 0) qd) (qE (qc 1) qd)) (j5 (qE (qc 0) qd) (qE (qc 1) qd))) (qE (qc 0) qd)))) zg) (qf (jq (qS (zZ hr.units) zi (qc 2) qC (qQ _)) (qo (qx (Q4 (qh F_number_of hr rfl (qa (qc 0) (qa (qc 1) qe))) (qE (qc 0) qd)))) zg) (qf (jq (qS (zZ hr.units) zi (qc 2) qC (qQ _)) (qo (qx (qh F_bits_bank hr rfl (qa (qE (qc 0) qd) (qa (qh F_number_of hr rfl (qa (qc 0) (qa (qc 1) qe))) qe))))) zg) (qf (jq (qS (zZ hr.units) zi (qc 2) qC (qQ _)) (qo (qx (qE (qE (qE (qc 0) qd) (qE (qc 1) qd)) (qE (qc 1) qd)))) zg) (qo (qx (qh F_joined_bank hr rfl (qa (qE (qc 0) qd) (qa (qE (qc 0) qd) (qa (qc 1) qe)))))))))))) read
abbrev qY:Stmt:=top 24
abbrev qO:List Str:=["dealing","thing"]
abbrev jf:List Str:=["dealing","thing"]
def ZK:FnScope qO jf (qi qY):=⟨rfl,rfl,rfl,by decide +kernel,rfl,by decide +kernel,by decide +kernel⟩
def UK {S_is_word:Sp3} (F:Fun K "refuse_no_word" "refuse_no_word" qY f fd) (bd:zd K fd jf []) (hm:mg "refuse_no_word" = some (.ref f)) (qA:Fn3 P w K mg base k "is_word" S_is_word)  
  (read:Rd sp 2 (Bk.je S_is_word) qO):Fn3 P w K mg base (k+1) "refuse_no_word" sp:=
 qH (t3:=(Bk.je S_is_word)) F ZK bd hm (λcdv A outer s H E hr=>(qo (jq (LH (RC (qh qA hr rfl (qa (qc 0) (qa (qc 1) qe))))) CL zg))) read
def zM (S_is_word:Sp3) (dx:X3):TS3:=(zf (VQ (tb3 (cb3 S_is_word (qb (v3 0) (qb (v3 1) qg))))) (LM 51 dx (qb (c3 (.str "this is no word of the table")) qg)) qz)
def VZ {sx:Spx} {S_is_word:Sp3} (F:Fun K "refuse_no_word" "refuse_no_word" qY f fd) (bd:zd K fd jf []) (hm:mg "refuse_no_word" = some (.ref f)) (qA:Fn3 P w K mg base k "is_word" S_is_word)  (r_NoWord:RaX mg base "NoWord" 51)
  (read:∀ ts G dx,sx ts G dx->ts.length=2/\(zM S_is_word) dx { nx:=λ_ _=>False,rt:=λ_ _=>False } (qj qO ts) G):Fnx P w K mg base (k+1) "refuse_no_word" sx:=
 SR (t3:=λdx=>(zM S_is_word) dx) F ZK bd hm (λdx cdv A outer s H E hE hr=>(qo (jq (LH (RC (qh qA hr rfl (qa (qc 0) (qa (qc 1) qe))))) (qo (qcb hE r_NoWord rfl rfl (qa qC qe))) zg))) read
abbrev QH:Stmt:=top 25
abbrev jQ:List Str:=["dealing","word"]
abbrev VW:List Str:=["dealing","word"]
def XF:FnScope jQ VW (qi QH):=⟨rfl,rfl,rfl,by decide +kernel,rfl,by decide +kernel,by decide +kernel⟩
def MM {S_refuse_no_word:Sp3} {S_bank_in:Sp3} (F:Fun K "bank_of" "bank_of" QH f fd) (bd:zd K fd VW []) (hm:mg "bank_of" = some (.ref f)) (qr:Fn3 P w K mg base k "refuse_no_word" S_refuse_no_word) (F_bank_in:Fn3 P w K mg base k "bank_in" S_bank_in)  
  (read:Rd sp 2 (Bk.VV S_refuse_no_word S_bank_in) jQ):Fn3 P w K mg base (k+1) "bank_of" sp:=
 qH (t3:=(Bk.VV S_refuse_no_word S_bank_in)) F XF bd hm (λcdv A outer s H E hr=>(qf (Z8 (qh qr hr rfl (qa (qc 0) (qa (qc 1) qe)))) (qo (qx (qh F_bank_in hr rfl (qa (qc 0) (qa (qc 1) qe))))))) read
def YL (Sx_refuse_no_word:Spx) (dx:X3):TS3:=(qw (zn (ql7 Sx_refuse_no_word dx (qb (v3 0) (qb (v3 1) qg)))) V5)
def KB {sx:Spx} {Sx_refuse_no_word:Spx} (F:Fun K "bank_of" "bank_of" QH f fd) (bd:zd K fd VW []) (hm:mg "bank_of" = some (.ref f))  (Fx_refuse_no_word:Fnx P w K mg base k "refuse_no_word" Sx_refuse_no_word) 
  (read:∀ ts G dx,sx ts G dx->ts.length=2/\(YL Sx_refuse_no_word) dx { nx:=λ_ _=>False,rt:=λ_ _=>False } (qj jQ ts) G):Fnx P w K mg base (k+1) "bank_of" sx:=
 SR (t3:=λdx=>(YL Sx_refuse_no_word) dx) F XF bd hm (λdx cdv A outer s H E hE hr=>(qf (Z8 (K9 hE Fx_refuse_no_word hr rfl (qa (qc 0) (qa (qc 1) qe)))) CL)) read
abbrev zW:Stmt:=top 27
abbrev QA:List Str:=["dealing","rows","columns","banks","places"]
abbrev JK:List Str:=["dealing"]
def zT:FnScope QA JK (qi zW):=⟨rfl,rfl,rfl,by decide +kernel,rfl,by decide +kernel,by decide +kernel⟩
def QE:TS3:=(qw (qD (V0 (v3 0) (sp3 (c3 (.int 1))) np3) (qV 4 (qm (gn3 1) (qm (gn3 2) (qm (gn3 3) (qm (gn3 4) qW)))))) (qK (lc3 (j4 (qb (o3 (iC U7 (·*·)) (v3 1) (v3 2)) qg)) (gn3 0) tt3 (qI (qb (o3 (iC (λ_ j=>0<j) (·%·)) (v3 0) (v3 1)) (qb (o3 (iC (λ_ j=>0<j) (·%·)) (v3 0) (v3 2)) qg))) [none,some 3,some 4])))
def XA (F:Fun K "rests_spots" "rests_spots" zW f fd) (bd:zd K fd JK []) (hm:mg "rests_spots" = some (.ref f))   (m_range:mg "range" = none)
  (read:Rd sp 1 (QE) QA):Fn3 P w K mg base (k+1) "rests_spots" sp:=
 qH (t3:=(QE)) F zT bd hm (λcdv A outer s H E hr=>(qf (js (KU (qc 0) (T7 qd) qfU) (jA rfl (qt (qq (i:=1) (zT.nd)) (qt (qq (i:=2) (zT.nd)) (qt (qq (i:=3) (zT.nd)) (qt (qq (i:=4) (zT.nd)) jC)))))) (qo (qx (S7 ["number","banks","places"] [none,some 3,some 4] rfl (zA rfl m_range (qa (j5 (qc 1) (qc 2)) qe) (h1:=by intro _ _ _ h;simpa [qb,qg] using h)) (λ_ _ _=>(jgn 0)) (λ_ _ _=>JU) (λ_ _ _=>(qs (qa (Q4 (qc 0) (qc 1)) (qa (Q4 (qc 0) (qc 2)) qe)))) (by kernel_rfl) (by kernel_rfl)))))) read
abbrev zy:Stmt:=top 28
abbrev zH:List Str:=["dealing","counts","spots","word","bank","place"]
abbrev QT:List Str:=["dealing"]
def ze:FnScope zH QT (qi zy):=⟨rfl,rfl,rfl,by decide +kernel,rfl,by decide +kernel,by decide +kernel⟩
def jx (S_all_words:Sp3) (S_bank_in:Sp3):TS3:=(qw (qD qbI (gn3 1)) (qw (qD (zO qg) (gn3 2)) (qw (SQ (EO (cb3 S_all_words (qb (v3 0) qg))) (gn3 3) (qw (qD (cb3 S_bank_in (qb (v3 0) (qb (v3 3) qg))) (gn3 4)) (qw (qD (qj3 TH (v3 1) (qb (v3 4) (qb (c3 (.int 0)) qg))) (gn3 5)) (qw (zn (bm3 YZ (v3 2) (qb (qI (qb (v3 4) (qb (v3 5) qg))) qg))) (qD (o3 zb (v3 5) (c3 (.int 1))) (RP (v3 1) (v3 4))))))) (qK (v3 2)))))
def EI {S_all_words:Sp3} {S_bank_in:Sp3} (F:Fun K "counted_spots" "counted_spots" zy f fd) (bd:zd K fd QT []) (hm:mg "counted_spots" = some (.ref f)) (zF:Fn3 P w K mg base k "all_words" S_all_words) (F_bank_in:Fn3 P w K mg base k "bank_in" S_bank_in)  
  (read:Rd sp 1 (jx S_all_words S_bank_in) zH):Fn3 P w K mg base (k+1) "counted_spots" sp:=
 qH (t3:=(jx S_all_words S_bank_in)) F ze bd hm (λcdv A outer s H E hr=>(qf (qJ 1 ze.nd qb5) (qf (qJ 2 ze.nd (zX qe)) (qf (XM PassesOwn.never rfl (RE (qh zF hr rfl (qa (qc 0) qe))) (qq (i:=3) (ze.nd)) (qf (qJ 4 ze.nd (qh F_bank_in hr rfl (qa (qc 0) (qa (qc 3) qe)))) (qf (qJ 5 ze.nd (qeZ (qc 1) (qa (qc 4) (qa qd qe)))) (qf (Z8 (WL (qc 2) (qa (qs (qa (qc 4) (qa (qc 5) qe))) qe))) (qo (js (qF (qc 5) qd) (qfw (qc 1) (qc 4)))))))) (qo (qx (qc 2))))))) read
abbrev QX:Stmt:=top 29
abbrev ZT:List Str:=["dealing"]
abbrev UG:List Str:=["dealing"]
def TM:FnScope ZT UG (qi QX):=⟨rfl,rfl,rfl,by decide +kernel,rfl,by decide +kernel,by decide +kernel⟩
def YN (S_rests_spots:Sp3) (S_counted_spots:Sp3):TS3:=(qw (zf (tb3 (o3 (zm false) (o3 ix3 (v3 0) (c3 (.int 0))) (c3 (.str "rests")))) (qK (cb3 S_rests_spots (qb (v3 0) qg))) qz) (qK (cb3 S_counted_spots (qb (v3 0) qg))))
def TQ {S_rests_spots:Sp3} {S_counted_spots:Sp3} (F:Fun K "spots_of" "spots_of" QX f fd) (bd:zd K fd UG []) (hm:mg "spots_of" = some (.ref f)) (zh:Fn3 P w K mg base k "rests_spots" S_rests_spots) (qR:Fn3 P w K mg base k "counted_spots" S_counted_spots)  
  (read:Rd sp 1 (YN S_rests_spots S_counted_spots) ZT):Fn3 P w K mg base (k+1) "spots_of" sp:=
 qH (t3:=(YN S_rests_spots S_counted_spots)) F TM bd hm (λcdv A outer s H E hr=>(qf (jq (qS (zZ hr.units) zi (qE (qc 0) qd) qC (qQ _)) (qo (qx (qh zh hr rfl (qa (qc 0) qe)))) zg) (qo (qx (qh qR hr rfl (qa (qc 0) qe)))))) read
abbrev jE:Stmt:=top 30
abbrev jm:List Str:=["dealing","word","bank","place"]
abbrev YU:List Str:=["dealing","word"]
def jG:FnScope jm YU (qi jE):=⟨rfl,rfl,rfl,by decide +kernel,rfl,by decide +kernel,by decide +kernel⟩
def YQ (S_refuse_no_word:Sp3) (S_spots_of:Sp3) (S_number_of:Sp3):TS3:=(qw (zn (cb3 S_refuse_no_word (qb (v3 0) (qb (v3 1) qg)))) (qw (qD (o3 ix3 (cb3 S_spots_of (qb (v3 0) qg)) (cb3 S_number_of (qb (v3 0) (qb (v3 1) qg)))) (qV 2 (qm (gn3 2) (qm (gn3 3) qW)))) (qK (v3 3))))
def T9 {S_refuse_no_word:Sp3} {S_spots_of:Sp3} {S_number_of:Sp3} (F:Fun K "place_of" "place_of" jE f fd) (bd:zd K fd YU []) (hm:mg "place_of" = some (.ref f)) (qr:Fn3 P w K mg base k "refuse_no_word" S_refuse_no_word) (qX:Fn3 P w K mg base k "spots_of" S_spots_of) (F_number_of:Fn3 P w K mg base k "number_of" S_number_of)  
  (read:Rd sp 2 (YQ S_refuse_no_word S_spots_of S_number_of) jm):Fn3 P w K mg base (k+1) "place_of" sp:=
 qH (t3:=(YQ S_refuse_no_word S_spots_of S_number_of)) F jG bd hm (λcdv A outer s H E hr=>(qf (Z8 (qh qr hr rfl (qa (qc 0) (qa (qc 1) qe)))) (qf (js (qE (qh qX hr rfl (qa (qc 0) qe)) (qh F_number_of hr rfl (qa (qc 0) (qa (qc 1) qe)))) (jA rfl (qt (qq (i:=2) (jG.nd)) (qt (qq (i:=3) (jG.nd)) jC)))) (qo (qx (qc 3)))))) read
def JN (S_spots_of:Sp3) (S_number_of:Sp3) (Sx_refuse_no_word:Spx) (dx:X3):TS3:=(qw (zn (ql7 Sx_refuse_no_word dx (qb (v3 0) (qb (v3 1) qg)))) (qw (qD (o3 ix3 (cb3 S_spots_of (qb (v3 0) qg)) (cb3 S_number_of (qb (v3 0) (qb (v3 1) qg)))) (qV 2 (qm (gn3 2) (qm (gn3 3) qW)))) V5))
def C7 {sx:Spx} {S_spots_of:Sp3} {S_number_of:Sp3} {Sx_refuse_no_word:Spx} (F:Fun K "place_of" "place_of" jE f fd) (bd:zd K fd YU []) (hm:mg "place_of" = some (.ref f)) (qX:Fn3 P w K mg base k "spots_of" S_spots_of) (F_number_of:Fn3 P w K mg base k "number_of" S_number_of) (Fx_refuse_no_word:Fnx P w K mg base k "refuse_no_word" Sx_refuse_no_word) 
  (read:∀ ts G dx,sx ts G dx->ts.length=2/\(JN S_spots_of S_number_of Sx_refuse_no_word) dx { nx:=λ_ _=>False,rt:=λ_ _=>False } (qj jm ts) G):Fnx P w K mg base (k+1) "place_of" sx:=
 SR (t3:=λdx=>(JN S_spots_of S_number_of Sx_refuse_no_word) dx) F jG bd hm (λdx cdv A outer s H E hE hr=>(qf (Z8 (K9 hE Fx_refuse_no_word hr rfl (qa (qc 0) (qa (qc 1) qe)))) (qf (js (qE (qh qX hr rfl (qa (qc 0) qe)) (qh F_number_of hr rfl (qa (qc 0) (qa (qc 1) qe)))) (jA rfl (qt (qq (i:=2) (jG.nd)) (qt (qq (i:=3) (jG.nd)) jC)))) CL))) read
abbrev ZR:Stmt:=top 32
abbrev DB:List Str:=["_law_cell","_law_k","_law_m"]
abbrev WA:List Str:=["_law_cell","_law_k"]
def XR:FnScope DB WA (qi ZR):=⟨rfl,rfl,rfl,by decide +kernel,rfl,by decide +kernel,by decide +kernel⟩
def MR (F:Fun K "_law_mix" "_law_mix" ZR f fd) (bd:zd K fd WA []) (hm:mg "_law_mix" = some (.ref f))   
  (read:Rd sp 2 (Bk.V1) DB):Fn3 P w K mg base (k+1) "_law_mix" sp:=
 qH (t3:=(Bk.V1)) F XR bd hm (λcdv A outer s H E hr=>(qf (qJ 2 XR.nd (Q4 (j5 (qF (qF (Q4 (qc 0) qd) (j5 (j5 (qc 1) (qc 1)) qd)) qd) qd) qd)) (qo (qx (Q4 (j5 (qc 2) (qc 2)) qd))))) read
abbrev QN:Stmt:=top 33
abbrev UY:List Str:=["_law_script","_law_k","_law_cell","_law_own"]
abbrev UM:List Str:=["_law_script","_law_k"]
def VO:FnScope UY UM (qi QN):=⟨rfl,rfl,rfl,by decide +kernel,rfl,by decide +kernel,by decide +kernel⟩
def T1 (F:Fun K "_law_left" "_law_left" QN f fd) (bd:zd K fd UM []) (hm:mg "_law_left" = some (.ref f))   (m_len:mg "len" = none) (m_abs:mg "abs" = none)
  (read:Rd sp 2 (Bk.YH) UY):Fn3 P w K mg base (k+1) "_law_left" sp:=
 qH (t3:=(Bk.YH)) F VO bd hm (λcdv A outer s H E hr=>(qf (qJ 2 VO.nd (qju (qS qbk JV (qc 1) (zL j7 JP rfl m_len PySem.boot_len (qa (qc 0) qe)) (qQ _)) (qE (qc 0) (qc 1)) qd)) (qf (qJ 3 VO.nd (qju (qS qob JV (zL K0 qaj rfl m_abs PyProof.Rows.boot_abs (qa (qc 2) qe)) (qa4 qd qd) (qQ _)) (zL K0 qaj rfl m_abs PyProof.Rows.boot_abs (qa (qc 2) qe)) qd)) (qo (qx (zX (qa (qc 3) (qa (qF (qc 2) (j5 qd (qc 1))) (qa qd qe))))))))) read
abbrev QQ:Stmt:=top 34
abbrev UA:List Str:=["_law_left_here","_law_many","_law_digit"]
abbrev U0:List Str:=["_law_left_here","_law_many"]
def DI:FnScope UA U0 (qi QQ):=⟨rfl,rfl,rfl,by decide +kernel,rfl,by decide +kernel,by decide +kernel⟩
def T6 {S_law_mix:Sp3} (F:Fun K "_law_pick" "_law_pick" QQ f fd) (bd:zd K fd U0 []) (hm:mg "_law_pick" = some (.ref f)) (F_law_mix:Fn3 P w K mg base k "_law_mix" S_law_mix)  
  (read:Rd sp 2 (Bk.YT S_law_mix) UA):Fn3 P w K mg base (k+1) "_law_pick" sp:=
 qH (t3:=(Bk.YT S_law_mix)) F DI bd hm (λcdv A outer s H E hr=>(qf (js (qF (qE (qc 0) qd) qd) (qd5 (qc 0) qd)) (qf (jq (qS qar JV (qE (qc 0) qd) qd (qQ _)) (qf (qJ 2 DI.nd (Q4 (qE (qc 0) qd) (qc 1))) (qf (js (XX (qE (qc 0) qd) (qc 1)) (qd5 (qc 0) qd)) (qo (qx (qc 2))))) zg) (qo (qx (Q4 (XX (qh F_law_mix hr rfl (qa (qh F_law_mix hr rfl (qa (qE (qc 0) qd) (qa (qE (qc 0) qd) qe))) (qa (qF (qE (qc 0) qd) qd) qe))) qd) (qc 1))))))) read
abbrev jN:Stmt:=top 35
abbrev VJ:List Str:=["_law_left_here","_law_wide","_law_rows","_law_columns"]
abbrev Y8:List Str:=["_law_left_here"]
def J3:FnScope VJ Y8 (qi jN):=⟨rfl,rfl,rfl,by decide +kernel,rfl,by decide +kernel,by decide +kernel⟩
def C9 {S_law_pick:Sp3} (F:Fun K "_law_sides" "_law_sides" jN f fd) (bd:zd K fd Y8 []) (hm:mg "_law_sides" = some (.ref f)) (F_law_pick:Fn3 P w K mg base k "_law_pick" S_law_pick)  
  (read:Rd sp 1 (Bk.JL S_law_pick) VJ):Fn3 P w K mg base (k+1) "_law_sides" sp:=
 qH (t3:=(Bk.JL S_law_pick)) F J3 bd hm (λcdv A outer s H E hr=>(qf (qJ 1 J3.nd (qE (zX (qa qd (qa qd (qa qd (qa qd qe))))) (qh F_law_pick hr rfl (qa (qc 0) (qa qd qe))))) (qf (XW (i:=2) (j:=3) rfl J3.nd rfl rfl (by decide) rfl rfl (qa (qF qd (qh F_law_pick hr rfl (qa (qc 0) (qa (qc 1) qe)))) (qa (qF qd (qh F_law_pick hr rfl (qa (qc 0) (qa (qc 1) qe)))) qe))) (qo (qx (qE (zX (qa (qs (qa (qc 2) (qa (qc 3) qe))) (qa (qs (qa (qc 2) (qa (qc 3) qe))) (qa (qs (qa (qc 2) (qa (qc 3) qe))) (qa (qs (qa (qc 2) (qa (qc 2) qe))) qe))))) (qh F_law_pick hr rfl (qa (qc 0) (qa qd qe))))))))) read
abbrev ZJ:Stmt:=top 36
abbrev DO:List Str:=["_law_one","_law_other"]
abbrev D7:List Str:=["_law_one","_law_other"]
def XS:FnScope DO D7 (qi ZJ):=⟨rfl,rfl,rfl,by decide +kernel,rfl,by decide +kernel,by decide +kernel⟩
def MC (F:Fun K "_law_gcd" "_law_gcd" ZJ f fd) (bd:zd K fd D7 []) (hm:mg "_law_gcd" = some (.ref f))   
  (read:Rd sp 2 (Bk.VT) DO):Fn3 P w K mg base (k+1) "_law_gcd" sp:=
 qH (t3:=(Bk.VT)) F XS bd hm (λcdv A outer s H E hr=>(qf (KD PassesOwn.never (qS qar JV (qc 1) qd (qQ _)) (qo (XW (i:=0) (j:=1) rfl XS.nd rfl rfl (by decide) rfl rfl (qa (qc 1) (qa (Q4 (qc 0) (qc 1)) qe))))) (qo (qx (qc 0))))) read
abbrev QJ:Stmt:=top 37
abbrev UZ:List Str:=["_law_left_here","_law_rows","_law_columns","_law_banks","_law_wide"]
abbrev UX:List Str:=["_law_left_here"]
def QY:FnScope UZ UX (qi QJ):=⟨rfl,rfl,rfl,by decide +kernel,rfl,by decide +kernel,by decide +kernel⟩
def T8 {S_law_sides:Sp3} {S_law_pick:Sp3} (F:Fun K "_law_skew" "_law_skew" QJ f fd) (bd:zd K fd UX []) (hm:mg "_law_skew" = some (.ref f)) (F_law_sides:Fn3 P w K mg base k "_law_sides" S_law_sides) (F_law_pick:Fn3 P w K mg base k "_law_pick" S_law_pick)  
  (read:Rd sp 1 (Bk.YK S_law_sides S_law_pick) UZ):Fn3 P w K mg base (k+1) "_law_skew" sp:=
 qH (t3:=(Bk.YK S_law_sides S_law_pick)) F QY bd hm (λcdv A outer s H E hr=>(qf (js (qh F_law_sides hr rfl (qa (qc 0) qe)) (jA rfl (qt (qq (i:=1) (QY.nd)) (qt (qq (i:=2) (QY.nd)) jC)))) (qf (qJ 3 QY.nd (qF qd (qh F_law_pick hr rfl (qa (qc 0) (qa (qE (zX (qa qd (qa qd (qa qd (qa qd qe))))) (qh F_law_pick hr rfl (qa (qc 0) (qa qd qe)))) qe))))) (qf (qJ 4 QY.nd (qE (zX (qa (qc 3) (qa qd (qa qd qe)))) (qh F_law_pick hr rfl (qa (qc 0) (qa qd qe))))) (qo (qx (qs (qa qC (qa (qc 1) (qa (qc 2) (qa (qc 3) (qa (qh F_law_pick hr rfl (qa (qc 0) (qa (qc 4) qe))) (qa (qh F_law_pick hr rfl (qa (qc 0) (qa (qc 4) qe))) qe))))))))))))) read
abbrev jT:Stmt:=top 38
abbrev VI:List Str:=["_law_left_here","_law_rows","_law_columns","_law_banks","_law_places","_law_turn"]
abbrev VM:List Str:=["_law_left_here"]
def zI:FnScope VI VM (qi jT):=⟨rfl,rfl,rfl,by decide +kernel,rfl,by decide +kernel,by decide +kernel⟩
def C6 {S_law_sides:Sp3} {S_law_pick:Sp3} {S_law_gcd:Sp3} (F:Fun K "_law_rests" "_law_rests" jT f fd) (bd:zd K fd VM []) (hm:mg "_law_rests" = some (.ref f)) (F_law_sides:Fn3 P w K mg base k "_law_sides" S_law_sides) (F_law_pick:Fn3 P w K mg base k "_law_pick" S_law_pick) (F_law_gcd:Fn3 P w K mg base k "_law_gcd" S_law_gcd)  (m_range:mg "range" = none)
  (read:Rd sp 1 (Bk.JS S_law_sides S_law_pick S_law_gcd) VI):Fn3 P w K mg base (k+1) "_law_rests" sp:=
 qH (t3:=(Bk.JS S_law_sides S_law_pick S_law_gcd)) F zI bd hm (λcdv A outer s H E hr=>(qf (js (qh F_law_sides hr rfl (qa (qc 0) qe)) (jA rfl (qt (qq (i:=1) (zI.nd)) (qt (qq (i:=2) (zI.nd)) jC)))) (qf (qJ 3 zI.nd (qF qd (qh F_law_pick hr rfl (qa (qc 0) (qa (qE (zX (qa qd (qa qd (qa qd qe)))) (qh F_law_pick hr rfl (qa (qc 0) (qa qd qe)))) qe))))) (qf (qJ 4 zI.nd (qF (EF (XX (j5 (EF (qc 1)) (qc 2)) (qc 3))) (qh F_law_pick hr rfl (qa (qc 0) (qa qd qe))))) (qf (XM PassesOwn.never rfl (zA rfl m_range (qa qd qe) (h1:=by intro _ _ _ h;simpa [qb,qg] using h)) (qq (i:=5) (zI.nd)) (qo (jq (qS qar JV (qh F_law_gcd hr rfl (qa (qc 3) (qa (qc 4) qe))) qd (qQ _)) (qo (qJ 4 zI.nd (qF (qc 4) qd))) zg))) (qo (qx (qs (qa qC (qa (qc 1) (qa (qc 2) (qa (qc 3) (qa (qc 4) qe))))))))))))) read
abbrev QU:Stmt:=top 39
abbrev XZ:List Str:=["_law_left_here","_law_most","_law_high","_law_low","_law_masks","_law_wide"]
abbrev UH:List Str:=["_law_left_here","_law_most"]
def Z6:FnScope XZ UH (qi QU):=⟨rfl,rfl,rfl,by decide +kernel,rfl,by decide +kernel,by decide +kernel⟩
def SV {S_law_pick:Sp3} (F:Fun K "_law_bits" "_law_bits" QU f fd) (bd:zd K fd UH []) (hm:mg "_law_bits" = some (.ref f)) (F_law_pick:Fn3 P w K mg base k "_law_pick" S_law_pick)  (m_range:mg "range" = none) (m_tuple:mg "tuple" = none)
  (read:Rd sp 2 (Bk.YR S_law_pick) XZ):Fn3 P w K mg base (k+1) "_law_bits" sp:=
 qH (t3:=(Bk.YR S_law_pick)) F Z6 bd hm (λcdv A outer s H E hr=>(qf (XW (i:=2) (j:=3) rfl Z6.nd rfl rfl (by decide) rfl rfl (qa (qh F_law_pick hr rfl (qa (qc 0) (qa (qF (qc 1) qd) qe))) (qa (qh F_law_pick hr rfl (qa (qc 0) (qa (qF (qc 1) qd) qe))) qe))) (qf (EY 4 ["_law_t","_law_left_here"] [none,some 0] rfl Z6.nd (zA rfl m_range (qa (qh F_law_pick hr rfl (qa (qc 0) (qa qd qe))) qe) (h1:=by intro _ _ _ h;simpa [qb,qg] using h)) (λ_ _ _=>(jgn 0)) (λ_ _ _=>JU) (λ_ _ _=>(qh F_law_pick hr rfl (qa (qc 1) (qa qd qe)))) (by kernel_rfl) (by kernel_rfl) rfl rfl) (qf (qJ 5 Z6.nd (qE (zX (qa qd (qa qd (qa qd (qa qd (qa qd (qa qd (qa qd (qa qd (qa qd qe)))))))))) (qF (qc 2) (qc 3)))) (qo (qx (qs (qa qC (qa (qc 2) (qa (qc 3) (qa (QK zt QW rfl m_tuple PyProof.Rows.boot_tuple (qa (S7 ["_law_mask","_law_wide"] [none,some 5] rfl (RE (qc 4)) (λ_ _ _=>(jgn 0)) (λ_ _ _=>JU) (λ_ _ _=>(Q4 (qc 0) (qc 1))) (by kernel_rfl) (by kernel_rfl)) qe)) qe))))))))))) read
abbrev jX:Stmt:=top 40
abbrev WN:List Str:=["_law_left_here","_law_rows","_law_columns","_law_banks","_law_cells"]
abbrev VD:List Str:=["_law_left_here"]
def jO:FnScope WN VD (qi jX):=⟨rfl,rfl,rfl,by decide +kernel,rfl,by decide +kernel,by decide +kernel⟩
def RU {S_law_sides:Sp3} {S_law_pick:Sp3} (F:Fun K "_law_table" "_law_table" jX f fd) (bd:zd K fd VD []) (hm:mg "_law_table" = some (.ref f)) (F_law_sides:Fn3 P w K mg base k "_law_sides" S_law_sides) (F_law_pick:Fn3 P w K mg base k "_law_pick" S_law_pick)  (m_range:mg "range" = none) (m_tuple:mg "tuple" = none)
  (read:Rd sp 1 (Bk.Z3 S_law_sides S_law_pick) WN):Fn3 P w K mg base (k+1) "_law_table" sp:=
 qH (t3:=(Bk.Z3 S_law_sides S_law_pick)) F jO bd hm (λcdv A outer s H E hr=>(qf (js (qh F_law_sides hr rfl (qa (qc 0) qe)) (jA rfl (qt (qq (i:=1) (jO.nd)) (qt (qq (i:=2) (jO.nd)) jC)))) (qf (qJ 3 jO.nd (qF qd (qh F_law_pick hr rfl (qa (qc 0) (qa (qE (zX (qa qd (qa qd (qa qd qe)))) (qh F_law_pick hr rfl (qa (qc 0) (qa qd qe)))) qe))))) (qf (EY 4 ["_law_i","_law_left_here","_law_banks","_law_columns"] [none,some 0,some 3,some 2] rfl jO.nd (zA rfl m_range (qa (qc 1) qe) (h1:=by intro _ _ _ h;simpa [qb,qg] using h)) (λ_ _ _=>(jgn 0)) (λ_ _ _=>JU) (λ_ _ _=>(QK zt QW rfl m_tuple PyProof.Rows.boot_tuple (qa (S7 ["_law_j","_law_left_here","_law_banks"] [none,some 1,some 2] rfl (zA rfl m_range (qa (qc 3) qe) (h1:=by intro _ _ _ h;simpa [qb,qg] using h)) (λ_ _ _=>(jgn 0)) (λ_ _ _=>JU) (λ_ _ _=>(qh F_law_pick hr rfl (qa (qc 1) (qa (qc 2) qe)))) (by kernel_rfl) (by kernel_rfl)) qe))) (by kernel_rfl) (by kernel_rfl) rfl rfl) (qo (qx (qs (qa qC (qa (qc 3) (qa (QK zt QW rfl m_tuple PyProof.Rows.boot_tuple (qa (qc 4) qe)) qe)))))))))) read
abbrev jP:Stmt:=top 41
abbrev DU:List Str:=["_law_left_here","_law_rows","_law_columns","_law_banks","_law_way","_law_high","_law_low","_law_masks","_law_wide","_law_places","_law_turn","_law_cells"]
abbrev VN:List Str:=["_law_left_here"]
def qN:FnScope DU VN (qi jP):=⟨rfl,rfl,rfl,by decide +kernel,rfl,by decide +kernel,by decide +kernel⟩
def SF {S_law_pick:Sp3} {S_law_gcd:Sp3} (F:Fun K "_law_small" "_law_small" jP f fd) (bd:zd K fd VN []) (hm:mg "_law_small" = some (.ref f)) (F_law_pick:Fn3 P w K mg base k "_law_pick" S_law_pick) (F_law_gcd:Fn3 P w K mg base k "_law_gcd" S_law_gcd)  (m_range:mg "range" = none) (m_tuple:mg "tuple" = none)
  (read:Rd sp 1 (Bk.JB S_law_pick S_law_gcd) DU):Fn3 P w K mg base (k+1) "_law_small" sp:=
 qH (t3:=(Bk.JB S_law_pick S_law_gcd)) F qN bd hm (λcdv A outer s H E hr=>(qf (js (qs (qa (qF qd (qh F_law_pick hr rfl (qa (qc 0) (qa qd qe)))) (qa (qF qd (qh F_law_pick hr rfl (qa (qc 0) (qa qd qe)))) (qa (qF qd (qh F_law_pick hr rfl (qa (qc 0) (qa qd qe)))) qe)))) (jA rfl (qt (qq (i:=1) (qN.nd)) (qt (qq (i:=2) (qN.nd)) (qt (qq (i:=3) (qN.nd)) jC))))) (qf (qJ 4 qN.nd (qh F_law_pick hr rfl (qa (qc 0) (qa qd qe)))) (qf (jq (qS (zZ hr.units) zi (qc 4) qd (qQ _)) (qo (qx (qs (qa qC (qa (qc 1) (qa (qc 2) (qa (qc 3) (qa (qh F_law_pick hr rfl (qa (qc 0) (qa (qc 3) qe))) (qa (qh F_law_pick hr rfl (qa (qc 0) (qa qd qe))) qe))))))))) zg) (qf (jq (qS (zZ hr.units) zi (qc 4) qd (qQ _)) (qf (XW (i:=5) (j:=6) rfl qN.nd rfl rfl (by decide) rfl rfl (qa (qh F_law_pick hr rfl (qa (qc 0) (qa qd qe))) (qa (qh F_law_pick hr rfl (qa (qc 0) (qa qd qe))) qe))) (qf (EY 7 ["_law_t","_law_left_here"] [none,some 0] rfl qN.nd (zA rfl m_range (qa (qh F_law_pick hr rfl (qa (qc 0) (qa qd qe))) qe) (h1:=by intro _ _ _ h;simpa [qb,qg] using h)) (λ_ _ _=>(jgn 0)) (λ_ _ _=>JU) (λ_ _ _=>(qh F_law_pick hr rfl (qa (qc 1) (qa qd qe)))) (by kernel_rfl) (by kernel_rfl) rfl rfl) (qf (qJ 8 qN.nd (qE (zX (qa qd (qa qd (qa qd (qa qd (qa qd qe)))))) (qF (qc 5) (qc 6)))) (qo (qx (qs (qa qC (qa (qc 5) (qa (qc 6) (qa (QK zt QW rfl m_tuple PyProof.Rows.boot_tuple (qa (S7 ["_law_mask","_law_wide"] [none,some 8] rfl (RE (qc 7)) (λ_ _ _=>(jgn 0)) (λ_ _ _=>JU) (λ_ _ _=>(Q4 (qc 0) (qc 1))) (by kernel_rfl) (by kernel_rfl)) qe)) qe)))))))))) zg) (qf (jq (qS (zZ hr.units) zi (qc 4) qd (qQ _)) (qf (qJ 9 qN.nd (qF (EF (XX (j5 (EF (qc 1)) (qc 2)) (qc 3))) (qh F_law_pick hr rfl (qa (qc 0) (qa qd qe))))) (qf (XM PassesOwn.never rfl (zA rfl m_range (qa qd qe) (h1:=by intro _ _ _ h;simpa [qb,qg] using h)) (qq (i:=10) (qN.nd)) (qo (jq (qS qar JV (qh F_law_gcd hr rfl (qa (qc 3) (qa (qc 9) qe))) qd (qQ _)) (qo (qJ 9 qN.nd (qF (qc 9) qd))) zg))) (qo (qx (qs (qa qC (qa (qc 1) (qa (qc 2) (qa (qc 3) (qa (qc 9) qe)))))))))) zg) (qf (EY 11 ["_law_i","_law_left_here","_law_banks","_law_columns"] [none,some 0,some 3,some 2] rfl qN.nd (zA rfl m_range (qa (qc 1) qe) (h1:=by intro _ _ _ h;simpa [qb,qg] using h)) (λ_ _ _=>(jgn 0)) (λ_ _ _=>JU) (λ_ _ _=>(QK zt QW rfl m_tuple PyProof.Rows.boot_tuple (qa (S7 ["_law_j","_law_left_here","_law_banks"] [none,some 1,some 2] rfl (zA rfl m_range (qa (qc 3) qe) (h1:=by intro _ _ _ h;simpa [qb,qg] using h)) (λ_ _ _=>(jgn 0)) (λ_ _ _=>JU) (λ_ _ _=>(qh F_law_pick hr rfl (qa (qc 1) (qa (qc 2) qe)))) (by kernel_rfl) (by kernel_rfl)) qe))) (by kernel_rfl) (by kernel_rfl) rfl rfl) (qo (qx (qs (qa qC (qa (qc 3) (qa (QK zt QW rfl m_tuple PyProof.Rows.boot_tuple (qa (qc 11) qe)) qe))))))))))))) read
abbrev jd:Stmt:=top 42
abbrev Z4:List Str:=["_law_left_here","_law_way","_law_inner","_law_some"]
abbrev JD:List Str:=["_law_left_here"]
def jL:FnScope Z4 JD (qi jd):=⟨rfl,rfl,rfl,by decide +kernel,rfl,by decide +kernel,by decide +kernel⟩
def W8 {S_law_pick:Sp3} {S_law_skew:Sp3} {S_law_rests:Sp3} {S_law_bits:Sp3} {S_law_table:Sp3} {S_law_small:Sp3} (F:Fun K "_law_dealing" "_law_dealing" jd f fd) (bd:zd K fd JD []) (hm:mg "_law_dealing" = some (.ref f)) (F_law_pick:Fn3 P w K mg base k "_law_pick" S_law_pick) (F_law_skew:Fn3 P w K mg base k "_law_skew" S_law_skew) (F_law_rests:Fn3 P w K mg base k "_law_rests" S_law_rests) (F_law_bits:Fn3 P w K mg base k "_law_bits" S_law_bits) (F_law_table:Fn3 P w K mg base k "_law_table" S_law_table) (F_law_small:Fn3 P w K mg base k "_law_small" S_law_small)  
  (read:Rd sp 1 (Bk.j9 S_law_pick S_law_skew S_law_rests S_law_bits S_law_table S_law_small) Z4):Fn3 P w K mg base (k+1) "_law_dealing" sp:=
 qH (t3:=(Bk.j9 S_law_pick S_law_skew S_law_rests S_law_bits S_law_table S_law_small)) F jL bd hm (λcdv A outer s H E hr=>(qf (qJ 1 jL.nd (qh F_law_pick hr rfl (qa (qc 0) (qa qd qe)))) (qf (jq (qS qbk JV (qc 1) qd (qQ _)) (qo (qx (qh F_law_skew hr rfl (qa (qc 0) qe)))) zg) (qf (jq (qS (zZ hr.units) zi (qc 1) qd (qQ _)) (qo (qx (qh F_law_rests hr rfl (qa (qc 0) qe)))) zg) (qf (jq (qS (zZ hr.units) zi (qc 1) qd (qQ _)) (qo (qx (qh F_law_bits hr rfl (qa (qc 0) (qa qd qe))))) zg) (qf (jq (qS (zZ hr.units) zi (qc 1) qd (qQ _)) (qo (qx (qh F_law_table hr rfl (qa (qc 0) qe)))) zg) (qf (jq (qS (zZ hr.units) zi (qc 1) qd (qQ _)) (qf (qJ 2 jL.nd (qs (qa qC (qa (qs (qa qC (qa (qF qd (qh F_law_pick hr rfl (qa (qc 0) (qa qd qe)))) (qa qd (qa qd (qa qd (qa qd qe))))))) (qa (qs (qa qC (qa qd (qa (qs (qa (qs (qa qd (qa qd qe))) qe)) qe)))) qe))))) (qf (qJ 3 jL.nd (zX (qa (qs (qa qC (qa (qc 2) (qa (qh F_law_small hr rfl (qa (qc 0) qe)) qe)))) (qa (qs (qa qC (qa (qh F_law_small hr rfl (qa (qc 0) qe)) (qa (qc 2) qe)))) qe)))) (qf (Z8 (WL (qc 3) (qa (qs (qa qC (qa (qs (qa qC (qa qd (qa qd (qa qd (qa qd (qa qd qe))))))) (qa (qs (qa qC (qa qd (qa qd (qa qd (qa qd qe)))))) qe)))) qe))) (qf (Z8 (WL (qc 3) (qa (qs (qa qC (qa (qs (qa qC (qa qd (qa qd (qa qd (qa qd qe)))))) (qa (qs (qa qC (qa qd (qa qd (qa qd (qa qd (qa qd qe))))))) qe)))) qe))) (qo (qx (qE (qc 3) (qh F_law_pick hr rfl (qa (qc 0) (qa qd qe)))))))))) zg) (qo (qx (qs (qa qC (qa (qh F_law_small hr rfl (qa (qc 0) qe)) (qa (qh F_law_small hr rfl (qa (qc 0) qe)) qe))))))))))))) read
abbrev QL:Stmt:=top 43
abbrev X2:List Str:=["_law_dealing_here","_law_two","_law_one","_law_other"]
abbrev UI:List Str:=["_law_dealing_here"]
def Y0:FnScope X2 UI (qi QL):=⟨rfl,rfl,rfl,by decide +kernel,rfl,by decide +kernel,by decide +kernel⟩
def VP {S_law_size:Sp3} (F:Fun K "_law_size" "_law_size" QL f fd) (bd:zd K fd UI []) (hm:mg "_law_size" = some (.ref f)) (F_law_size:Fn3 P w K mg base k "_law_size" S_law_size)  (m_len:mg "len" = none) (m_zip:mg "zip" = none) (m_tuple:mg "tuple" = none)
  (read:Rd sp 1 (Bk.YG S_law_size) X2):Fn3 P w K mg base (k+1) "_law_size" sp:=
 qH (t3:=(Bk.YG S_law_size)) F Y0 bd hm (λcdv A outer s H E hr=>(qf (jq (qS NO qhA (qE (qc 0) qd) (qs (qa qC (qa qC qe))) (by with_unfolding_all rfl)) (qo (qx (KU (qc 0) (T7 qd) (T7 qd)))) zg) (qf (jq (qS (zZ hr.units) zi (qE (qc 0) qd) qC (qQ _)) (qf (qJ 1 Y0.nd (zX (qa qd (qa qd (qa qd (qa qd (qa qd (qa qd (qa qd (qa qd (qa qd (qa qd qe)))))))))))) (qo (qx (qs (qa (qE (qc 1) (qE (qc 0) qd)) (qa (qE (qc 1) (qE (qc 0) qd)) (qa (qE (qc 1) (zL j7 JP rfl m_len PySem.boot_len (qa (qE (qc 0) qd) qe))) qe))))))) zg) (qf (jq (qS (zZ hr.units) zi (qE (qc 0) qd) qC (qQ _)) (qo (qx (qs (qa (zL j7 JP rfl m_len PySem.boot_len (qa (qE (qc 0) qd) qe)) (qa (zL j7 JP rfl m_len PySem.boot_len (qa (qE (qE (qc 0) qd) qd) qe)) (qa (qE (qc 0) qd) qe)))))) zg) (qf (XW (i:=2) (j:=3) rfl Y0.nd rfl rfl (by decide) rfl rfl (qa (qh F_law_size hr rfl (qa (qE (qc 0) qd) qe)) (qa (qh F_law_size hr rfl (qa (qE (qc 0) qd) qe)) qe))) (qo (qx (QK zt QW rfl m_tuple PyProof.Rows.boot_tuple (qa (S7 ["_law_x","_law_y"] [none,none] rfl (qhW rfl m_zip (qa (qc 2) (qa (qc 3) qe))) (λ_ _ _=>(jA rfl (qt (jgn 0) (qt (jgn 1) jC)))) (λ_ _ _=>JU) (λ_ _ _=>(j5 (qc 0) (qc 1))) (by kernel_rfl) (by kernel_rfl)) qe))))))))) read
abbrev ja:Stmt:=top 44
abbrev j8:List Str:=["_law_caught","_law_some","_law_words"]
abbrev JI:List Str:=["_law_caught"]
def zY:FnScope j8 JI (qi ja):=⟨rfl,rfl,rfl,by decide +kernel,rfl,by decide +kernel,by decide +kernel⟩
def zp:TS3:=(qw (zf (tb3 (o3 (EC false) (v3 0) (c3 .non))) (qK (c3 (.str ""))) qz) (qw (qD (zO (qb (CG [(none,false),(some 51,true)] (v3 0)) (qb (CG [(none,false),(some 51,false)] (v3 0)) (qb (CG [(none,false),(some 51,false)] (v3 0)) qg)))) (gn3 1)) (qw (qD (o3 zb (v3 1) (zO (qb (CG [(none,false),(some 51,false)] (v3 0)) (qb (CG [(none,false),(some 51,false)] (v3 0)) (qb (CG [(none,false),(some 51,false)] (v3 0)) qg))))) (gn3 1)) (qw (qD (o3 zb (v3 1) (zO (qb (CG [(none,false),(some 51,false)] (v3 0)) (qb (CG [(none,false),(some 51,false)] (v3 0)) (qb (CG [(none,false),(some 51,false)] (v3 0)) qg))))) (gn3 1)) (qw (zf (or3 (tb3 (o3 (zm true) (bm3 qaz (v3 1) (qb (c3 (.bl true)) qg)) (c3 (.int 1)))) (VQ (tb3 (CG [(none,false),(some 51,true)] (v3 0))))) (qK (c3 (.str "other"))) qz) (qw (qD (zO (qb (c3 (.str "word")) (qb (c3 (.str "start")) (qb (c3 (.str "walk")) (qb (c3 (.str "order")) (qb (c3 (.str "clash")) (qb (c3 (.str "square")) (qb (c3 (.str "ask")) (qb (c3 (.str "text")) (qb (c3 (.str "row")) qg)))))))))) (gn3 2)) (qK (o3 ix3 (v3 2) (bm3 NI (v3 1) (qb (c3 (.bl true)) qg))))))))))
def W9 (F:Fun K "_law_word_of" "_law_word_of" ja f fd) (bd:zd K fd JI []) (hm:mg "_law_word_of" = some (.ref f))   (m_isinstance:mg "isinstance" = none) (m_NoWord:mg "NoWord" = some (.ref 51)) (x_0:XD K [.ref 51] [(none,false),(some 51,true)]) (m_NoStart:mg "NoStart" = some (.ref 63)) (x_1:XD K [.ref 63] [(none,false),(some 51,false)]) (m_NoWalk:mg "NoWalk" = some (.ref 75)) (x_2:XD K [.ref 75] [(none,false),(some 51,false)]) (m_NoOrder:mg "NoOrder" = some (.ref 87)) (x_3:XD K [.ref 87] [(none,false),(some 51,false)]) (m_Clash:mg "Clash" = some (.ref 99)) (x_4:XD K [.ref 99] [(none,false),(some 51,false)]) (m_NotSquare:mg "NotSquare" = some (.ref 111)) (x_5:XD K [.ref 111] [(none,false),(some 51,false)]) (m_NoAsk:mg "NoAsk" = some (.ref 142)) (x_6:XD K [.ref 142] [(none,false),(some 51,false)]) (m_BadText:mg "BadText" = some (.ref 123)) (x_7:XD K [.ref 123] [(none,false),(some 51,false)]) (m_BadRow:mg "BadRow" = some (.ref 161)) (x_8:XD K [.ref 161] [(none,false),(some 51,false)]) (m_ValueError:mg "ValueError" = none) (x_9:XD K [.type "ValueError"] [(none,false),(some 51,true)])
  (read:Rd sp 1 (zp) j8):Fn3 P w K mg base (k+1) "_law_word_of" sp:=
 qH (t3:=(zp)) F zY bd hm (λcdv A outer s H E hr=>(qf (jq (qS ql0 qf3 (qc 0) KT (qQ _)) (qo (qx qC)) zg) (qf (qJ 1 zY.nd (zX (qa (YY (qc 0) rfl m_isinstance (Z7 rfl m_NoWord) x_0) (qa (YY (qc 0) rfl m_isinstance (Z7 rfl m_NoStart) x_1) (qa (YY (qc 0) rfl m_isinstance (Z7 rfl m_NoWalk) x_2) qe))))) (qf (qJ 1 zY.nd (qF (qc 1) (zX (qa (YY (qc 0) rfl m_isinstance (Z7 rfl m_NoOrder) x_3) (qa (YY (qc 0) rfl m_isinstance (Z7 rfl m_Clash) x_4) (qa (YY (qc 0) rfl m_isinstance (Z7 rfl m_NotSquare) x_5) qe)))))) (qf (qJ 1 zY.nd (qF (qc 1) (zX (qa (YY (qc 0) rfl m_isinstance (Z7 rfl m_NoAsk) x_6) (qa (YY (qc 0) rfl m_isinstance (Z7 rfl m_BadText) x_7) (qa (YY (qc 0) rfl m_isinstance (Z7 rfl m_BadRow) x_8) qe)))))) (qf (jq (jpt (qe0 (qS (C4 hr.units) WC (qba (qc 1) (qa RR qe)) qd (qQ _)) (qaE (LH (RC (YY (qc 0) rfl m_isinstance (qjM rfl m_ValueError L3.qgf) x_9)))))) (qo (qx qC)) zg) (qf (qJ 2 zY.nd (zX (qa qC (qa qC (qa qC (qa qC (qa qC (qa qC (qa qC (qa qC (qa qC qe))))))))))) (qo (qx (qE (qc 2) (qan (qc 1) (qa RR qe)))))))))))) read
abbrev zV:Stmt:=top 45
abbrev QB:List Str:=["_law_which","_law_dealing_here","_law_word","_law_caught","error"]
abbrev Z5:List Str:=["_law_which","_law_dealing_here","_law_word"]
def jK:FnScope QB Z5 (qi zV):=⟨rfl,rfl,rfl,by decide +kernel,rfl,by decide +kernel,by decide +kernel⟩
def zr (S_bank_of:Sp3) (S_place_of:Sp3) (S_law_word_of:Sp3) (Sx_bank_of:Spx) (Sx_place_of:Spx):TS3:=(qw (qD (c3 .non) (gn3 3)) (qw (qoX 4 [51] (zf (tb3 (o3 (zm false) (v3 0) (c3 (.int 0)))) (zn (cb3 S_bank_of (qb (v3 1) (qb (v3 2) qg)))) (zn (cb3 S_place_of (qb (v3 1) (qb (v3 2) qg))))) (xif (tb3 (o3 (zm false) (v3 0) (c3 (.int 0)))) (qaL Sx_bank_of (qb (v3 1) (qb (v3 2) qg))) (qaL Sx_place_of (qb (v3 1) (qb (v3 2) qg)))) (qD (v3 4) (gn3 3))) (qK (cb3 S_law_word_of (qb (v3 3) qg)))))
def W7 {S_bank_of:Sp3} {S_place_of:Sp3} {S_law_word_of:Sp3} {Sx_bank_of:Spx} {Sx_place_of:Spx} (F:Fun K "_law_refused" "_law_refused" zV f fd) (bd:zd K fd Z5 []) (hm:mg "_law_refused" = some (.ref f)) (jr:Fn3 P w K mg base k "bank_of" S_bank_of) (zK:Fn3 P w K mg base k "place_of" S_place_of) (F_law_word_of:Fn3 P w K mg base k "_law_word_of" S_law_word_of) (Fx_bank_of:Fnx P w K mg base k "bank_of" Sx_bank_of) (Fx_place_of:Fnx P w K mg base k "place_of" Sx_place_of) (m_BankError:mg "BankError" = some (.ref 38)) (b_BankError:ExC base 38 [.ref 38,.type "ValueError",.type "Exception",.type "BaseException",.type "object"]) (c_BankError:∀ C∈[51],Ct base 38 C)
  (read:Rd sp 3 (zr S_bank_of S_place_of S_law_word_of Sx_bank_of Sx_place_of) QB):Fn3 P w K mg base (k+1) "_law_refused" sp:=
 qH (t3:=(zr S_bank_of S_place_of S_law_word_of Sx_bank_of Sx_place_of)) F jK bd hm (λcdv A outer s H E hr=>(qf (qJ 3 jK.nd KT) (qf (qjI (i:=4) [51] rfl rfl rfl rfl m_BankError b_BankError (by kernel_rfl) c_BankError jK.nd rfl rfl rfl (qo (jq (qS (zZ hr.units) zi (qc 0) qd (qQ _)) (qo (Z8 (qh jr hr rfl (qa (qc 1) (qa (qc 2) qe))))) (qo (Z8 (qh zK hr rfl (qa (qc 1) (qa (qc 2) qe))))))) (qno (λ_ _ _=>(qS (zZ hr.units) zi (qc 0) qd (qQ _))) (NZ (NF Fx_bank_of hr rfl (λ_ _ _=>(qa (qc 1) (qa (qc 2) qe))))) (NZ (NF Fx_place_of hr rfl (λ_ _ _=>(qa (qc 1) (qa (qc 2) qe)))))) (λ_=>(qo (qJ 3 jK.nd (qc 4))))) (qo (qx (qh F_law_word_of hr rfl (qa (qc 3) qe))))))) read
abbrev J8:Stmt:=top 46
abbrev qa1:List Str:=["_law_script","_law_k","_law_left_here","_law_dealing_here","_law_rows","_law_columns","_law_banks","_law_far","_law_i","_law_j","_law_some","_law_word"]
abbrev qik:List Str:=["_law_script"]
def Q9:FnScope qa1 qik (qi J8):=⟨rfl,rfl,rfl,by decide +kernel,rfl,by decide +kernel,by decide +kernel⟩
def qeT (S_law_left:Sp3) (S_law_dealing:Sp3) (S_law_size:Sp3) (S_law_pick:Sp3) (S_law_refused:Sp3):TS3:=(qw (SQ (j4 (qb (o3 zb (c3 (.int 1)) (cb3 U1 (qb (c3 (.int 8)) (qb (cb3 ZV (qb (v3 0) qg)) qg)))) qg)) (gn3 1) (qw (qD (cb3 S_law_left (qb (v3 0) (qb (v3 1) qg))) (gn3 2)) (qw (qD (cb3 S_law_dealing (qb (v3 2) qg)) (gn3 3)) (qw (qD (cb3 S_law_size (qb (v3 3) qg)) (qV 3 (qm (gn3 4) (qm (gn3 5) (qm (gn3 6) qW))))) (qw (qD (o3 zb (o3 (iC WZ (λi j=>i ^ j.toNat)) (c3 (.int 10)) (c3 (.int 18))) (cb3 S_law_pick (qb (v3 2) (qb (o3 (iC WZ (λi j=>i ^ j.toNat)) (c3 (.int 10)) (c3 (.int 9))) qg)))) (gn3 7)) (qw (ZY 8 9 (qb (cb3 S_law_pick (qb (v3 2) (qb (v3 4) qg))) (qb (cb3 S_law_pick (qb (v3 2) (qb (v3 5) qg))) qg))) (qw (qD (zO (qb (qI (qb (v3 4) (qb (v3 9) qg))) (qb (qI (qb (v3 8) (qb (v3 5) qg))) (qb (qI (qb (u3 ZW (c3 (.int 1))) (qb (v3 9) qg))) (qb (qI (qb (v3 8) (qb (u3 ZW (c3 (.int 1))) qg))) (qb (qI (qb (o3 zb (v3 4) (v3 7)) (qb (v3 9) qg))) (qb (qI (qb (v3 8) (qb (u3 ZW (v3 7)) qg))) (qb (qI (qb (v3 4) (qb (v3 5) qg))) (qb (qI (qb (u3 ZW (v3 4)) (qb (v3 9) qg))) qg))))))))) (gn3 10)) (qw (qD (o3 zb (v3 10) (zO (qb (zO (qb (v3 8) (qb (v3 9) qg))) (qb (qI (qb (v3 8) (qb (v3 9) (qb (c3 (.int 0)) qg)))) (qb (qI (qb (v3 8) qg)) (qb (qI (qb (c3 (.bl true)) (qb (c3 (.int 0)) qg))) (qb (qI (qb (c3 (.int 0)) (qb (c3 (.bl false)) qg))) (qb (qI (qb (c3 (.str "0")) (qb (c3 (.int 0)) qg))) (qb (qI (qb (c3 (.int 0)) (qb (c3 .non) qg))) qg))))))))) (gn3 10)) (qw (qD (o3 zb (v3 10) (zO (qb (c3 .non) (qb (c3 (.int 0)) (qb (c3 (.str "00")) (qb (qI (qb (qI (qb (v3 8) (qb (v3 9) qg))) qg)) (qb (qI qg) qg))))))) (gn3 10)) (qw (SQ (EO (zO (qb (qI (qb (c3 (.int 0)) (qb (c3 (.int 0)) qg))) (qb (qI (qb (o3 (iI (·-·)) (v3 4) (c3 (.int 1))) (qb (c3 (.int 0)) qg))) (qb (qI (qb (c3 (.int 0)) (qb (o3 (iI (·-·)) (v3 5) (c3 (.int 1))) qg))) (qb (qI (qb (o3 (iI (·-·)) (v3 4) (c3 (.int 1))) (qb (o3 (iI (·-·)) (v3 5) (c3 (.int 1))) qg))) (qb (qI (qb (v3 8) (qb (v3 9) qg))) qg))))))) (gn3 11) (zf (or3 (tb3 (o3 (zm true) (cb3 S_law_refused (qb (c3 (.int 0)) (qb (v3 3) (qb (v3 11) qg)))) (c3 (.str "")))) (tb3 (o3 (zm true) (cb3 S_law_refused (qb (c3 (.int 1)) (qb (v3 3) (qb (v3 11) qg)))) (c3 (.str ""))))) (qK (c3 (.bl false))) qz)) (SQ (EO (v3 10)) (gn3 11) (zf (or3 (tb3 (o3 (zm true) (cb3 S_law_refused (qb (c3 (.int 0)) (qb (v3 3) (qb (v3 11) qg)))) (c3 (.str "word")))) (tb3 (o3 (zm true) (cb3 S_law_refused (qb (c3 (.int 1)) (qb (v3 3) (qb (v3 11) qg)))) (c3 (.str "word"))))) (qK (c3 (.bl false))) qz)))))))))))) (qK (c3 (.bl true))))
def qlX {S_law_left:Sp3} {S_law_dealing:Sp3} {S_law_size:Sp3} {S_law_pick:Sp3} {S_law_refused:Sp3} (F:Fun K "law" "law" J8 f fd) (F_law_left:Fn3 P w K mg base k "_law_left" S_law_left) (F_law_dealing:Fn3 P w K mg base k "_law_dealing" S_law_dealing) (F_law_size:Fn3 P w K mg base k "_law_size" S_law_size) (F_law_pick:Fn3 P w K mg base k "_law_pick" S_law_pick) (qv:Fn3 P w K mg base k "_law_refused" S_law_refused)  (m_len:mg "len" = none) (m_min:mg "min" = none) (m_range:mg "range" = none)
  (read:Rd sp 1 (qeT S_law_left S_law_dealing S_law_size S_law_pick S_law_refused) qa1):FnOk P w K mg base CX0 (k+1) f fd qik (lSp K sp):=
 qbJ (t3:=(qeT S_law_left S_law_dealing S_law_size S_law_pick S_law_refused)) F Q9 (λcdv A outer s H E hr=>(qf (XM PassesOwn.never rfl (zA rfl m_range (qa (qF qd (zL (qaD rfl) qfJ rfl m_min PyProof.Rows.boot_min (qa qd (qa (zL j7 JP rfl m_len PySem.boot_len (qa (qc 0) qe)) qe)))) qe) (h1:=by intro _ _ _ h;simpa [qb,qg] using h)) (qq (i:=1) (Q9.nd)) (qf (qJ 2 Q9.nd (qh F_law_left hr rfl (qa (qc 0) (qa (qc 1) qe)))) (qf (qJ 3 Q9.nd (qh F_law_dealing hr rfl (qa (qc 2) qe))) (qf (js (qh F_law_size hr rfl (qa (qc 3) qe)) (jA rfl (qt (qq (i:=4) (Q9.nd)) (qt (qq (i:=5) (Q9.nd)) (qt (qq (i:=6) (Q9.nd)) jC))))) (qf (qJ 7 Q9.nd (qF (qa4 qd qd) (qh F_law_pick hr rfl (qa (qc 2) (qa (qa4 qd qd) qe))))) (qf (XW (i:=8) (j:=9) rfl Q9.nd rfl rfl (by decide) rfl rfl (qa (qh F_law_pick hr rfl (qa (qc 2) (qa (qc 4) qe))) (qa (qh F_law_pick hr rfl (qa (qc 2) (qa (qc 5) qe))) qe))) (qf (qJ 10 Q9.nd (zX (qa (qs (qa (qc 4) (qa (qc 9) qe))) (qa (qs (qa (qc 8) (qa (qc 5) qe))) (qa (qs (qa (EF qd) (qa (qc 9) qe))) (qa (qs (qa (qc 8) (qa (EF qd) qe))) (qa (qs (qa (qF (qc 4) (qc 7)) (qa (qc 9) qe))) (qa (qs (qa (qc 8) (qa (EF (qc 7)) qe))) (qa (qs (qa (qc 4) (qa (qc 5) qe))) (qa (qs (qa (EF (qc 4)) (qa (qc 9) qe))) qe)))))))))) (qf (qJ 10 Q9.nd (qF (qc 10) (zX (qa (zX (qa (qc 8) (qa (qc 9) qe))) (qa (qs (qa (qc 8) (qa (qc 9) (qa qd qe)))) (qa (qs (qa (qc 8) qe)) (qa (qs (qa RR (qa qd qe))) (qa (qs (qa qd (qa RR qe))) (qa (qs (qa qC (qa qd qe))) (qa (qs (qa qd (qa KT qe))) qe)))))))))) (qf (qJ 10 Q9.nd (qF (qc 10) (zX (qa KT (qa qd (qa qC (qa (qs (qa (qs (qa (qc 8) (qa (qc 9) qe))) qe)) (qa (qs qe) qe)))))))) (qf (XM PassesOwn.never rfl (RE (zX (qa (qs (qa qd (qa qd qe))) (qa (qs (qa (LK (qc 4) qd) (qa qd qe))) (qa (qs (qa qd (qa (LK (qc 5) qd) qe))) (qa (qs (qa (LK (qc 4) qd) (qa (LK (qc 5) qd) qe))) (qa (qs (qa (qc 8) (qa (qc 9) qe))) qe))))))) (qq (i:=11) (Q9.nd)) (qo (jq (jpt (qe0 (qS (C4 hr.units) WC (qh qv hr rfl (qa qd (qa (qc 3) (qa (qc 11) qe)))) qC (qQ _)) (qaE (qS (C4 hr.units) WC (qh qv hr rfl (qa qd (qa (qc 3) (qa (qc 11) qe)))) qC (qQ _))))) (qo (qx RR)) zg))) (qo (XM PassesOwn.never rfl (RE (qc 10)) (qq (i:=11) (Q9.nd)) (qo (jq (jpt (qe0 (qS (C4 hr.units) WC (qh qv hr rfl (qa qd (qa (qc 3) (qa (qc 11) qe)))) qC (qQ _)) (qaE (qS (C4 hr.units) WC (qh qv hr rfl (qa qd (qa (qc 3) (qa (qc 11) qe)))) qC (qQ _))))) (qo (qx RR)) zg)))))))))))))) (qo (qx RR)))) read
end K06
namespace K06
open PySem L2 L3 Pu
def jl:PuS (Bk.JQ):=(qbb (SU (ql2 (λt=>ZF t "int") (bV 0)) (qlk (ql2 (λt=>ZF t "bool") (bV 0)))))
def qP:List PyData->Option PyData:=Pu.run jl.f 1 1 1000000000 false
def R9:Rd (PSp qP false) 1 (Bk.JQ) JC:=ZC jl JC 1 1000000000 false
def Q2 {x0:PyData}:qP [x0]=SH false (jl.f 1000000000 [.sh x0]):=id rfl
def YA:PuS (Bk.V6 (PSp qP false)):=(qbb (SU (ql2 (λt=>ZF t "tuple") (bV 0)) (SU (bO (qfd false) (jR qoA (qk (bV 0) zR)) (J2 2)) (SU (jR (JW qP false) (qk (bO qdk (bV 0) (J2 0)) zR)) (jR (JW qP false) (qk (bO qdk (bV 0) (J2 1)) zR))))))
def zU:List PyData->Option PyData:=Pu.run YA.f 1 1 1000000000 false
def LZ:Rd (PSp zU false) 1 (Bk.V6 (PSp qP false)) ZU:=ZC YA ZU 1 1000000000 false
def XI {x0:PyData}:zU [x0]=SH false (YA.f 1000000000 [.sh x0]):=id rfl
def Z9:PuS (K06.JG (Bk.zN 3)):=(SY (ME (jR (fSz 2) (qk (bV 0) zR)) (qci 3 (ZP (gN 1) (ZP (gN 2) (ZP (gN 3) qcj)))) [true] ⟨rfl⟩) (qbb (qok (qmk (qk (bV 1) zR)) (gN 0) bTt (qmk (qk (bV 2) zR)) (gN 1) bTt (U3 (qk (bV 0) (qk (bV 1) zR)) ⟨rfl⟩) [none,none,some 2] ⟨rfl⟩ ⟨rfl⟩ ⟨rfl⟩)))
def zF:List PyData->Option PyData:=Pu.run Z9.f 1 4 1000000000 true
def RX:Rd (PSp zF true) 1 (K06.JG (Bk.zN 3)) JM:=ZC Z9 JM 1 1000000000 true
def RZ {x0:PyData}:zF [x0]=SH true (Z9.f 1000000000 [.sh x0,.un,.un,.un]):=id rfl
def jY:PuS (Bk.V3 (PSp zU false) (Bk.zN 3)):=(SY (sIf (qmm (bTb (jR (JW zU false) (qk (bV 1) zR)))) (qbb (bBl false)) qat) (SY (ME (jR (fSz 2) (qk (bV 0) zR)) (qci 3 (ZP (gN 2) (ZP (gN 3) (ZP (gN 4) qcj)))) [true] ⟨rfl⟩) (qbb (SU (bCh (opB λi j=>decide (i<=j)) (opB λi j=>decide (i<j)) (J2 0) (bO qdk (bV 1) (J2 0)) (bV 2)) (bCh (opB λi j=>decide (i<=j)) (opB λi j=>decide (i<j)) (J2 0) (bO qdk (bV 1) (J2 1)) (bV 3))))))
def qA:List PyData->Option PyData:=Pu.run jY.f 2 5 1000000000 false
def LQ:Rd (PSp qA false) 2 (Bk.V3 (PSp zU false) (Bk.zN 3)) J5:=ZC jY J5 2 1000000000 false
def XE {x0 x1:PyData}:qA [x0,x1]=SH false (jY.f 1000000000 [.sh x0,.sh x1,.un,.un,.un]):=id rfl
def zx:PuS (Bk.je (PSp qA false)):=(sIf (qmm (bTb (jR (JW qA false) (qk (bV 0) (qk (bV 1) zR))))) qpC qat)
def qr:List PyData->Option PyData:=Pu.run zx.f 2 2 1000000000 false
def UR:Rd (PSp qr false) 2 (Bk.je (PSp qA false)) qO:=ZC zx qO 2 1000000000 false
def ZQ {x0 x1:PyData}:qr [x0,x1]=SH false (zx.f 1000000000 [.sh x0,.sh x1]):=id rfl
def jg:PzS (λdx=>zM (PSp qA false) dx):=(zIf (qmm (bTb (jR (JW qA false) (qk (bV 0) (qk (bV 1) zR))))) (qc9 51 (qk (qbN "this is no word of the table") zR) ⟨rfl⟩) (zP qat))
def qG:List PyData->Option Addr:=Pu.qlW jg.f 2 2 1000000000
def US:∀ ts G dx,PXp qG ts G dx->ts.length=2/\zM (PSp qA false) dx { nx:=λ_ _=>False,rt:=λ_ _=>False } (qj qO ts) G:=SS jg qO 2 1000000000
def V8 {x0 x1:PyData}:qG [x0,x1]=qi2 (jg.f 1000000000 [.sh x0,.sh x1]):=id rfl
def YC:PuS (Bk.VV (PSp qr false) (Bk.jF 3)):=(SY (qgc (jR (JW qr false) (qk (bV 0) (qk (bV 1) zR)))) (qbb (jR (fBi 2) (qk (bV 0) (qk (bV 1) zR)))))
def jr:List PyData->Option PyData:=Pu.run YC.f 2 2 1000000000 false
def LW:Rd (PSp jr false) 2 (Bk.VV (PSp qr false) (Bk.jF 3)) jQ:=ZC YC jQ 2 1000000000 false
def XH {x0 x1:PyData}:jr [x0,x1]=SH false (YC.f 1000000000 [.sh x0,.sh x1]):=id rfl
def VY:PzS (λdx=>YL (PXp qG) dx):=(qml (M7 qG (qk (bV 0) (qk (bV 1) zR))) qoy)
def J9:List PyData->Option Addr:=Pu.qlW VY.f 2 2 1000000000
def MF:∀ ts G dx,PXp J9 ts G dx->ts.length=2/\YL (PXp qG) dx { nx:=λ_ _=>False,rt:=λ_ _=>False } (qj jQ ts) G:=SS VY jQ 2 1000000000
def TV {x0 x1:PyData}:J9 [x0,x1]=qi2 (VY.f 1000000000 [.sh x0,.sh x1]):=id rfl
def QG:PuS (K06.QE):=(SY (ME (bSl (bV 0) (bSp (J2 1)) bNp) (qci 4 (ZP (gN 1) (ZP (gN 2) (ZP (gN 3) (ZP (gN 4) qcj))))) [true] ⟨rfl⟩) (qbb (bLc (qmk (qk (bO (opC U7 (·*·)) (bV 1) (bV 2)) zR)) (gN 0) bTt (U3 (qk (bO (opC (λ_ j=>0<j) (·%·)) (bV 0) (bV 1)) (qk (bO (opC (λ_ j=>0<j) (·%·)) (bV 0) (bV 2)) zR)) ⟨rfl⟩) [none,some 3,some 4] ⟨rfl⟩)))
def zh:List PyData->Option PyData:=Pu.run QG.f 1 5 1000000000 true
def WV:Rd (PSp zh true) 1 (K06.QE) QA:=ZC QG QA 1 1000000000 true
def WY {x0:PyData}:zh [x0]=SH true (QG.f 1000000000 [.sh x0,.un,.un,.un,.un]):=id rfl
def jy:PuS (K06.jx (PSp zF true) (Bk.jF 3)):=(SY (qcC 1) (SY (qmR (qdr zR ⟨rfl⟩) 2 [] ⟨rfl⟩) (SY (qoF (qi3 (jR (JW zF true) (qk (bV 0) zR))) (gN 3) (SY (qmR (jR (fBi 2) (qk (bV 0) (qk (bV 3) zR))) 4 [true,false,false,true] ⟨rfl⟩) (SY (qhZ 5 1 (bV 4) (J2 0)) (SY (qoG (U3 (qk (bV 4) (qk (bV 5) zR)) ⟨rfl⟩) 2 [false,false,false,false,true,true] ⟨rfl⟩) (qhB (bO M4 (bV 5) (J2 1)) 1 (bV 4) [false,false,false,false,false,true] ⟨rfl⟩)))) [true] ⟨rfl⟩) (qgg 2))))
def qR:List PyData->Option PyData:=Pu.run jy.f 1 6 1000000000 true
def EH:Rd (PSp qR true) 1 (K06.jx (PSp zF true) (Bk.jF 3)) zH:=ZC jy zH 1 1000000000 true
def EQ {x0:PyData}:qR [x0]=SH true (jy.f 1000000000 [.sh x0,.un,.un,.un,.un,.un]):=id rfl
def ZS:PuS (K06.YN (PSp zh true) (PSp qR true)):=(SY (sIf (bTb (bO (qfd false) (bO qdk (bV 0) (J2 0)) (qbN "rests"))) (qbb (jR (JW zh true) (qk (bV 0) zR))) qat) (qbb (jR (JW qR true) (qk (bV 0) zR))))
def qX:List PyData->Option PyData:=Pu.run ZS.f 1 1 1000000000 true
def S9:Rd (PSp qX true) 1 (K06.YN (PSp zh true) (PSp qR true)) ZT:=ZC ZS ZT 1 1000000000 true
def DK {x0:PyData}:qX [x0]=SH true (ZS.f 1000000000 [.sh x0]):=id rfl
def ZI:PuS (K06.YQ (PSp qr false) (PSp qX true) (Bk.zG 2)):=(SY (qgc (jR (JW qr false) (qk (bV 0) (qk (bV 1) zR)))) (SY (ME (bO qdk (jR (JW qX true) (qk (bV 0) zR)) (jR (fNu 2) (qk (bV 0) (qk (bV 1) zR)))) (qci 2 (ZP (gN 2) (ZP (gN 3) qcj))) [true,true] ⟨rfl⟩) (qgg 3)))
def zK:List PyData->Option PyData:=Pu.run ZI.f 2 4 1000000000 false
def TY:Rd (PSp zK false) 2 (K06.YQ (PSp qr false) (PSp qX true) (Bk.zG 2)) jm:=ZC ZI jm 2 1000000000 false
def DM {x0 x1:PyData}:zK [x0,x1]=SH false (ZI.f 1000000000 [.sh x0,.sh x1,.un,.un]):=id rfl
def YM:PzS (λdx=>JN (PSp qX true) (Bk.zG 2) (PXp qG) dx):=(qml (M7 qG (qk (bV 0) (qk (bV 1) zR))) (qml (zP (ME (bO qdk (jR (JW qX true) (qk (bV 0) zR)) (jR (fNu 2) (qk (bV 0) (qk (bV 1) zR)))) (qci 2 (ZP (gN 2) (ZP (gN 3) qcj))) [true,true] ⟨rfl⟩)) qoy))
def ZL:List PyData->Option Addr:=Pu.qlW YM.f 2 4 1000000000
def TL:∀ ts G dx,PXp ZL ts G dx->ts.length=2/\JN (PSp qX true) (Bk.zG 2) (PXp qG) dx { nx:=λ_ _=>False,rt:=λ_ _=>False } (qj jm ts) G:=SS YM jm 2 1000000000
def RY {x0 x1:PyData}:ZL [x0,x1]=qi2 (YM.f 1000000000 [.sh x0,.sh x1,.un,.un]):=id rfl
def Rz (F:List PyData->Option PyData) (X:List PyData->Option Addr) (ds:List PyData):Option PyData:=match F ds with|some _=>some (.str "")|none=>(X ds).bind λC=>if C=51 then some (.str "word") else none
def qv:List PyData->Option PyData:=λds=>match ds with|[.int 0,d,x]=>Rz jr J9 [d,x]|[.int 1,d,x]=>Rz zK ZL [d,x]|_=>none
def qm7 (S_law_dealing:Sp3) (S_law_size:Sp3) (S_law_pick:Sp3) (S_law_refused:Sp3):TS3:=(qw (qD (cb3 S_law_dealing (qb (v3 2) qg)) (gn3 3)) (qw (qD (cb3 S_law_size (qb (v3 3) qg)) (qV 3 (qm (gn3 4) (qm (gn3 5) (qm (gn3 6) qW))))) (qw (qD (o3 zb (o3 (iC WZ (λi j=>i ^ j.toNat)) (c3 (.int 10)) (c3 (.int 18))) (cb3 S_law_pick (qb (v3 2) (qb (o3 (iC WZ (λi j=>i ^ j.toNat)) (c3 (.int 10)) (c3 (.int 9))) qg)))) (gn3 7)) (qw (ZY 8 9 (qb (cb3 S_law_pick (qb (v3 2) (qb (v3 4) qg))) (qb (cb3 S_law_pick (qb (v3 2) (qb (v3 5) qg))) qg))) (qw (qD (zO (qb (qI (qb (v3 4) (qb (v3 9) qg))) (qb (qI (qb (v3 8) (qb (v3 5) qg))) (qb (qI (qb (u3 ZW (c3 (.int 1))) (qb (v3 9) qg))) (qb (qI (qb (v3 8) (qb (u3 ZW (c3 (.int 1))) qg))) (qb (qI (qb (o3 zb (v3 4) (v3 7)) (qb (v3 9) qg))) (qb (qI (qb (v3 8) (qb (u3 ZW (v3 7)) qg))) (qb (qI (qb (v3 4) (qb (v3 5) qg))) (qb (qI (qb (u3 ZW (v3 4)) (qb (v3 9) qg))) qg))))))))) (gn3 10)) (qw (qD (o3 zb (v3 10) (zO (qb (zO (qb (v3 8) (qb (v3 9) qg))) (qb (qI (qb (v3 8) (qb (v3 9) (qb (c3 (.int 0)) qg)))) (qb (qI (qb (v3 8) qg)) (qb (qI (qb (c3 (.bl true)) (qb (c3 (.int 0)) qg))) (qb (qI (qb (c3 (.int 0)) (qb (c3 (.bl false)) qg))) (qb (qI (qb (c3 (.str "0")) (qb (c3 (.int 0)) qg))) (qb (qI (qb (c3 (.int 0)) (qb (c3 .non) qg))) qg))))))))) (gn3 10)) (qw (qD (o3 zb (v3 10) (zO (qb (c3 .non) (qb (c3 (.int 0)) (qb (c3 (.str "00")) (qb (qI (qb (qI (qb (v3 8) (qb (v3 9) qg))) qg)) (qb (qI qg) qg))))))) (gn3 10)) (qw (SQ (EO (zO (qb (qI (qb (c3 (.int 0)) (qb (c3 (.int 0)) qg))) (qb (qI (qb (o3 (iI (·-·)) (v3 4) (c3 (.int 1))) (qb (c3 (.int 0)) qg))) (qb (qI (qb (c3 (.int 0)) (qb (o3 (iI (·-·)) (v3 5) (c3 (.int 1))) qg))) (qb (qI (qb (o3 (iI (·-·)) (v3 4) (c3 (.int 1))) (qb (o3 (iI (·-·)) (v3 5) (c3 (.int 1))) qg))) (qb (qI (qb (v3 8) (qb (v3 9) qg))) qg))))))) (gn3 11) (zf (or3 (tb3 (o3 (zm true) (cb3 S_law_refused (qb (c3 (.int 0)) (qb (v3 3) (qb (v3 11) qg)))) (c3 (.str "")))) (tb3 (o3 (zm true) (cb3 S_law_refused (qb (c3 (.int 1)) (qb (v3 3) (qb (v3 11) qg)))) (c3 (.str ""))))) (qK (c3 (.bl false))) qz)) (SQ (EO (v3 10)) (gn3 11) (zf (or3 (tb3 (o3 (zm true) (cb3 S_law_refused (qb (c3 (.int 0)) (qb (v3 3) (qb (v3 11) qg)))) (c3 (.str "word")))) (tb3 (o3 (zm true) (cb3 S_law_refused (qb (c3 (.int 1)) (qb (v3 3) (qb (v3 11) qg)))) (c3 (.str "word"))))) (qK (c3 (.bl false))) qz))))))))))
def CJ:=((wIf (cOf (bOr (bTb (bO (qfd true) (jR (JW qv false) (qk (J2 0) (qk (bV 3) (qk (bV 11) zR)))) (qbN ""))) (bTb (bO (qfd true) (jR (JW qv false) (qk (J2 1) (qk (bV 3) (qk (bV 11) zR)))) (qbN ""))))) (qmA (eOf (bBl false))) qf6):PwS 2 _)
def CV:=((wIf (cOf (bOr (bTb (bO (qfd true) (jR (JW qv false) (qk (J2 0) (qk (bV 3) (qk (bV 11) zR)))) (qbN "word"))) (bTb (bO (qfd true) (jR (JW qv false) (qk (J2 1) (qk (bV 3) (qk (bV 11) zR)))) (qbN "word"))))) (qmA (eOf (bBl false))) qf6):PwS 2 _)
def qbw:PwS 2 (qm7 Bk.jH (Bk.QI 3) Bk.qL (PSp qv false)):=(qa3 (qgB (eDr CS (aOf zR)) 3 [] ⟨rfl⟩ ⟨rfl⟩) (qa3 (qkM (eOf (jR (qoH 2) (qk (bV 3) zR))) (qci 3 (ZP (gN 4) (ZP (gN 5) (ZP (gN 6) qcj)))) [false,false,false,true] ⟨rfl⟩ ⟨rfl⟩) (qa3 (qgB (eO M4 (eOf (bO (opC WZ (λi j=>i ^ j.toNat)) (J2 10) (J2 18))) (eDr qbh (aOf (qk (bO (opC WZ (λi j=>i ^ j.toNat)) (J2 10) (J2 9)) zR)))) 7 [] ⟨rfl⟩ ⟨rfl⟩) (qa3 (qoM (qe2 (eDr qbh (aOf (qk (bV 4) zR))) (qe2 (eDr qbh (aOf (qk (bV 5) zR))) (aOf zR))) 8 9 [false,false,false,false,true,true] ⟨rfl⟩ ⟨rfl⟩) (qa3 (qgB (eOf (qdr (qk (U3 (qk (bV 4) (qk (bV 9) zR)) ⟨rfl⟩) (qk (U3 (qk (bV 8) (qk (bV 5) zR)) ⟨rfl⟩) (qk (U3 (qk (qiN (J2 1)) (qk (bV 9) zR)) ⟨rfl⟩) (qk (U3 (qk (bV 8) (qk (qiN (J2 1)) zR)) ⟨rfl⟩) (qk (U3 (qk (bO M4 (bV 4) (bV 7)) (qk (bV 9) zR)) ⟨rfl⟩) (qk (U3 (qk (bV 8) (qk (qiN (bV 7)) zR)) ⟨rfl⟩) (qk (U3 (qk (bV 4) (qk (bV 5) zR)) ⟨rfl⟩) (qk (U3 (qk (qiN (bV 4)) (qk (bV 9) zR)) ⟨rfl⟩) zR)))))))) ⟨rfl⟩)) 10 [false,false,false,false,true,true,false,true,true,true] ⟨rfl⟩ ⟨rfl⟩) (qa3 (qgB (eOf (bO LA (bV 10) (qdr (qk (qdr (qk (bV 8) (qk (bV 9) zR)) ⟨rfl⟩) (qk (U3 (qk (bV 8) (qk (bV 9) (qk (J2 0) zR))) ⟨rfl⟩) (qk (U3 (qk (bV 8) zR) ⟨rfl⟩) (qk (U3 (qk (bBl true) (qk (J2 0) zR)) ⟨rfl⟩) (qk (U3 (qk (J2 0) (qk (bBl false) zR)) ⟨rfl⟩) (qk (U3 (qk (qbN "0") (qk (J2 0) zR)) ⟨rfl⟩) (qk (U3 (qk (J2 0) (qk qnq zR)) ⟨rfl⟩) zR))))))) ⟨rfl⟩))) 10 [false,false,false,false,false,false,false,false,true,true,true] ⟨rfl⟩ ⟨rfl⟩) (qa3 (qgB (eOf (bO LA (bV 10) (qdr (qk qnq (qk (J2 0) (qk (qbN "00") (qk (U3 (qk (U3 (qk (bV 8) (qk (bV 9) zR)) ⟨rfl⟩) zR) ⟨rfl⟩) (qk (U3 zR ⟨rfl⟩) zR))))) ⟨rfl⟩))) 10 [false,false,false,false,false,false,false,false,true,true,true] ⟨rfl⟩ ⟨rfl⟩) (qa3 (qmN (iOf (qi3 (qdr (qk (U3 (qk (J2 0) (qk (J2 0) zR)) ⟨rfl⟩) (qk (U3 (qk (bO (opI (·-·)) (bV 4) (J2 1)) (qk (J2 0) zR)) ⟨rfl⟩) (qk (U3 (qk (J2 0) (qk (bO (opI (·-·)) (bV 5) (J2 1)) zR)) ⟨rfl⟩) (qk (U3 (qk (bO (opI (·-·)) (bV 4) (J2 1)) (qk (bO (opI (·-·)) (bV 5) (J2 1)) zR)) ⟨rfl⟩) (qk (U3 (qk (bV 8) (qk (bV 9) zR)) ⟨rfl⟩) zR))))) ⟨rfl⟩))) (gN 11) CJ [false,false,false,false,true,true,false,false,true,true] ⟨rfl⟩ ⟨rfl⟩) (qmN (iOf (qi3 (bV 10))) (gN 11) CV [false,false,false,false,false,false,false,false,false,false,true] ⟨rfl⟩ ⟨rfl⟩)))))))))
def qjP (h:∀ k:Nat,k<=60->qbw.w [.un,.sh (.int k),.un,.un,.un,.un,.un,.un,.un,.un,.un,.un] 0 okW):Rd XJ 1 (K06.qeT Bk.JO Bk.jH (Bk.QI 3) Bk.qL (PSp qv false)) qa1:=qbL qbw qa1 8 9 ⟨by decide,by decide⟩ rfl h
end K06
namespace K06
open PySem L2 L3 Pu Pv
open Bk (Dl Dr)
def s1:ZF "int" "int" = true:=rfl
def s2:ZF "int" "bool" = false:=rfl
def s3:ZF "tuple" "tuple" = true:=rfl
def t2:((1+1:Nat):Int)=2:=rfl
def qgN {i:Int}:qP [.int i]=some (.bool true):=by
 rw [Q2]
 try simp only [Pu.pwA,jl,s1,s2]
def qng {p:Int×Int}:zU [pD p]=some (.bool true):=by
 rw [XI]
 try simp only [Pu.pwA,YA,pD,s3,t2,qgN]
def inT (d:Dl) (p:Int×Int):Prop:=Bk.Inn d p.1 p.2
def inW (d:Dl) (p:Int×Int):Bool:=(decide (0<=p.1)&&decide (p.1<d.R))&&(decide (0<=p.2)&&decide (p.2<d.C))
def qcX {d:Dl} {p:Int×Int} (h:inT d p):inW d p=true:=by
 obtain ⟨h1,h2,h3,h4⟩:=h;simp only [inW,Bool.and_eq_true,decide_eq_true_eq];exact ⟨⟨h1,h2⟩,h3,h4⟩
def qgw {d:Dl} {p:Int×Int} (hp:d.dep<=2) (ok:d.Ok):qA [dlD d,pD p]=some (.bool (inW d p)):=by
 have sz:=qfX (n:=2) hp ok;have e:=qng (p:=p);rw [XE];simp only [pD] at e;unfold inW;by_cases h1:0<=p.1
 ·by_cases h2:p.1<d.R
  ·by_cases h3:0<=p.2
   ·try simp only [Pu.pwA,jY,pD,e,qay,sz,siz,h1,h2,h3,decide_true,Bool.true_and]
   ·try simp only [Pu.pwA,jY,pD,e,qay,sz,siz,h1,h2,h3,decide_true,decide_false,Bool.true_and,Bool.false_and]
  ·try simp only [Pu.pwA,jY,pD,e,qay,sz,siz,h1,h2,decide_true,decide_false,Bool.true_and,Bool.false_and]
 ·try simp only [Pu.pwA,jY,pD,e,qay,sz,siz,h1,decide_false,Bool.false_and]
def qoR {x y:PyData} (h:zU [y]=some (.bool false)):qA [x,y]=some (.bool false):=by
 rw [XE]
 try simp only [Pu.pwA,jY,h]
def qou {x y:PyData} (h:qA [x,y]=some (.bool true)):qr [x,y]=some .none:=by
 rw [ZQ]
 try simp only [Pu.pwA,zx,h]
def qoL {x y:PyData} (h:qA [x,y]=some (.bool false)):qr [x,y]=none/\qG [x,y]=some 51:=by
 constructor
 ·rw [ZQ]
  try simp only [Pu.pwA,zx,h]
  rfl
 ·rw [V8]
  try simp only [Pu.pwA,jg,qaO,qmG,qcq,qaW,Option.map_some,Option.bind_some,h]
def qpB {x y:PyData} (h:qA [x,y]=some (.bool false)):jr [x,y]=none/\J9 [x,y]=some 51:=by
 obtain ⟨h1,h2⟩:=qoL h;constructor
 ·rw [XH]
  try simp only [Pu.pwA,YC,h1]
  try rfl
 ·rw [TV]
  try simp only [Pu.pwA,VY,qaO,LF,qaW,Option.map_some,Option.bind_some,h2]
def qpp {x y:PyData} (h:qA [x,y]=some (.bool false)):zK [x,y]=none/\ZL [x,y]=some 51:=by
 obtain ⟨h1,h2⟩:=qoL h;constructor
 ·rw [DM]
  try simp only [Pu.pwA,ZI,h1]
  try rfl
 ·rw [RY]
  try simp only [Pu.pwA,YM,qaO,LF,qaW,Option.map_some,Option.bind_some,h2]
def qpI {d:Dl} {p:Int×Int} (hp:d.dep<=2) (ok:d.Ok) (h:inT d p):jr [dlD d,pD p]=some (.int (d.bank p.1 p.2)):=by
 have e:=qou (qgw hp ok (p:=p) |>.trans (by rw [qcX h]));rw [XH];simp only [pD] at e
 try simp only [Pu.pwA,YC,pD,e,qjN,qiE (n:=2) hp ok h]
def qoS (r c:Nat):(qbd r c).length=r*c:=by
 induction r with
 |zero=>simp [qbd]
 |succ r ih=>
  unfold qbd at ih ⊢;rw [List.range_succ,List.flatMap_append,length_append,ih,Nat.succ_mul];simp
def qpN {d:Dl} (hp:d.dep<=2) (ok:d.Ok) (hR:d.R<=1000) (hC:d.C<=1000):zF [dlD d]=some (.list ((qbd d.R.toNat d.C.toNat).map pD)):=by
 have l:=Dl.lims ok;have:=l.r1;have:=l.c1;rw [RZ]
 try simp only [Pu.pwA,Z9,qay,qfX (n:=2) hp ok,siz]
 rw [qfS (ds:=(LJ 0 d.R.toNat).map PyData.int) (fs:=(qbd d.R.toNat d.C.toNat).map pD)]
 ·try simp only [Pu.pwA]
 ·try simp (disch:=omega) only [Pu.pwA,qnM]
 ·have:(qbd d.R.toNat d.C.toNat).map pD=(LJ 0 d.R.toNat).flatMap λi=>(LJ 0 d.C.toNat).map λj=>pD (i,j):=by
   unfold qbd LJ;simp only [List.map_flatMap,map_map,List.flatMap_map,Function.comp_def,Int.zero_add]
  rw [this];refine qbY λi hi=>?_
  try simp (disch:=omega) only [Pu.pwA,qkf,qnM]
  rw [qaQ (k:=λq=>pD (i,q)) λq hq=>?_]
  ·try simp only [Pu.pwA]
  ·try simp only [Pu.pwA,qlE,pD]
 ·rw [length_map];have:=qoS d.R.toNat d.C.toNat;have:=Nat.mul_le_mul (show d.R.toNat<=1000 by omega) (show d.C.toNat<=1000 by omega);omega
def sp2 (ps:List (Int×Int)):PyData:=.list (ps.map pD)
def qpo {s:Str} {r c b p:Int}:slD (.tuple [.str s,.int r,.int c,.int b,.int p]) (some 1) none=some (.tuple [.int r,.int c,.int b,.int p]):=qaV (by simp [HT.sIx])
def qpm {r c b p:Int} (ok:(Dl.rests r c b p).Ok):∃ ps:List (Int×Int),zh [dlD (.rests r c b p)]=some (sp2 ps)/\ps.length=(r*c).toNat:=by
 obtain ⟨h1,h2,h3,h4,h5,h6,h7,h8,_⟩:=ok;have rc:r*c<=60*60:=Int.mul_le_mul h2 h4 (by omega) (by omega);have rc0:0<=r*c:=Int.mul_nonneg (by omega) (by omega);refine ⟨(LJ 0 (r*c).toNat).map λn=>(n%b,n%p),?_,by rw [length_map,KS]⟩;rw [WY]
 try simp only [Pu.pwA,QG,dlD,qpo]
 rw [qiV (ds:=(LJ 0 (r*c).toNat).map PyData.int) (fs:=((LJ 0 (r*c).toNat).map λn=>(n%b,n%p)).map pD)]
 ·try simp only [Pu.pwA,sp2]
 ·try simp (disch:=omega) only [Pu.pwA,qfn,qnM]
 ·rw [map_map];refine qaQ λn hn=>?_
  try simp (disch:=omega) only [Pu.pwA,qlE,pD,qjy,Function.comp_def]
 ·rw [length_map,length_map,KS];omega
def qmd (kvs:List (Int×PyData)):Prop:=∀ q∈kvs,∃ n:Int,q.2=.int n
def qdI {k z:Int}:∀ {kvs:List (Int×PyData)},qmd kvs->∃ n:Int,(RV kvs k).getD (.int z)=.int n
 |[],_=>⟨z,rfl⟩
 | (a,x)::r,h=>by
  show ∃ n:Int,(if a=k then some x else RV r k).getD (.int z)=.int n;by_cases c:a=k
  ·rw [if_pos c];exact h (a,x) (by simp)
  ·rw [if_neg c];exact qdI λq hq=>h q (by simp [hq])
def qe1 {k z:Int} {kvs:List (Int×PyData)} (h:qmd kvs):qmd (WB kvs k (.int z))/\(WB kvs k (.int z)).length<=kvs.length+1:=by
 unfold WB;cases qgx kvs k with
 |true=>
  refine ⟨λq hq=>?_,by simp [qhR]⟩;obtain ⟨p,hp,rfl⟩:=mem_map.mp hq;by_cases c:p.1=k
  ·rw [if_pos c];exact ⟨z,rfl⟩
  ·rw [if_neg c];exact h p hp
 |false=>
  refine ⟨λq hq=>?_,by simp⟩;rcases List.mem_append.mp hq with hq|hq
  ·exact h q hq
  ·simp only [List.mem_singleton] at hq;subst hq;exact ⟨z,rfl⟩
def qfH {d:Dl} {p:Int×Int} (h:p∈qbd d.R.toNat d.C.toNat):inT d p:=by
 unfold qbd at h;obtain ⟨i,hi,h⟩:=List.mem_flatMap.mp h;obtain ⟨j,hj,rfl⟩:=mem_map.mp h;have:=mem_range.mp hi;have:=mem_range.mp hj;exact ⟨by simp only;omega,by simp only;omega,by simp only;omega,by simp only;omega⟩
def qeJ {i j:Nat} {k:Int} {d:PyData} {ρ:Rho} {kvs:List (Int×PyData)} (h:CI ρ j=some kvs) (hs:MW d=true):ql5 i j (.int k) d ρ=some (.nx (ρ.set i (.sh ((RV kvs k).getD d)))):=by
 show (CI ρ j).bind _=_;rw [h];show (if MW d then _ else _)=_;rw [hs];rfl
def qbT {i:Nat} {k:Int} {d:PyData} {ρ:Rho} {kvs:List (Int×PyData)} (h:CI ρ i=some kvs) (hl:kvs.length<16777216):qb9 i (.int k) d ρ=some (.nx (ρ.set i (.dc (WB kvs k d)))):=by
 show (CI ρ i).bind _=_;rw [h];exact JE hl
def qfe {tk te:TE3} {i j:Nat} {a:PuE tk} {b:PuE te}:(qhZ i j a b).f=λ_ ρ=>(a.f ρ).bind λk=>(b.f ρ).bind λd=>ql5 i j k d ρ:=id rfl
def qfA {t ti:TE3} {a:PuE t} {i:Nat} {b:PuE ti} {m:List Bool} {hm:Tru (a.fv.all (mkb m))}:(qhB a i b m hm).f=λ_ ρ=>(a.f ρ).bind λd=>(b.f ρ).bind λk=>qb9 i k d (dmS m d ρ):=id rfl
def qpz {d:Dl} (hp:d.dep<=2) (ok:d.Ok) (hR:d.R<=1000) (hC:d.C<=1000):∃ ps:List (Int×Int),qR [dlD d]=some (sp2 ps)/\ps.length=d.R.toNat * d.C.toNat:=by
 have hl:=qoS d.R.toNat d.C.toNat;have hm:=Nat.mul_le_mul (show d.R.toNat<=1000 by omega) (show d.C.toNat<=1000 by omega);rw [EQ]
 try simp only [Pu.pwA,jy,qpN hp ok hR hC,qbE]
 refine qfN (Q:=λo=>∃ ps:List (Int×Int),SH true o=some (sp2 ps)/\ps.length=_) (qbd d.R.toNat d.C.toNat) (λi ρ=>∃ (kvs:List (Int×PyData)) (ps:List (Int×Int)) (s3 s4 s5:Sl),ρ=[.sh (dlD d),.dc kvs,.ow (ps.map pD),s3,s4,s5]/\qmd kvs/\kvs.length<=i/\ps.length=i) ⟨[],[],_,_,_,rfl,λq hq=>by simp at hq,Nat.le_refl _,rfl⟩ ?_ ?_
 ·rintro i x ρ hx ⟨kvs,ps,s3,s4,s5,rfl,hk,hkl,hpl⟩;have hi:=(List.getElem?_eq_some_iff.mp hx).1;have bk:=qiE (n:=2) hp ok (qfH (mem_of_getElem? hx));obtain ⟨n,en⟩:=qdI (k:=d.bank x.1 x.2) (z:=0) hk
  try simp only [Pu.pwA,pD,qjN,bk,qfe]
  rw [qeJ (kvs:=kvs) rfl rfl,en]
  try simp only [Pu.pwA]
  rw [qge (ds:=ps.map pD) rfl (by rw [length_map];omega)]
  try simp only [Pu.pwA,qfA]
  rw [qbT (kvs:=kvs) rfl (by omega)]
  try simp only [Pu.pwA]
  obtain ⟨h1,h2⟩:=qe1 (k:=d.bank x.1 x.2) (z:=n+1) hk;exact ⟨_,ps++[(d.bank x.1 x.2,n)],_,_,_,by simp only [List.map_append,map_cons,List.map_nil];rfl,h1,by omega,by simp;omega⟩
 ·rintro ρ ⟨kvs,ps,s3,s4,s5,rfl,hk,hkl,hpl⟩
  try simp only [Pu.pwA]
  exact ⟨ps,rfl,by omega⟩
def qe8 {d:Dl} (h:∀ r c b p,d≠.rests r c b p):∃ (s:Str) (xs:List PyData),dlD d=.tuple (.str s::xs)/\¬ s=Str.ofString "rests" := by
 cases d with
 |skew r c b x y=>exact ⟨"skew",_,rfl,by decide⟩
 |rests r c b p=>exact absurd rfl (h r c b p)
 |bits hh l ms=>exact ⟨"bits",_,rfl,by decide⟩
 |table b cells=>exact ⟨"table",_,rfl,by decide⟩
 |joined d e=>exact ⟨"joined",_,rfl,by decide⟩
def qpu {d:Dl} (hp:d.dep<=2) (ok:d.Ok) (hR:d.R<=1000) (hC:d.C<=1000):∃ ps:List (Int×Int),qX [dlD d]=some (sp2 ps)/\ps.length=(d.R*d.C).toNat:=by
 have l:=Dl.lims ok;have:=l.r1;have:=l.c1;by_cases c:∃ r c b p,d=.rests r c b p
 ·obtain ⟨r,c,b,p,rfl⟩:=c;obtain ⟨ps,h1,h2⟩:=qpm ok;refine ⟨ps,?_,h2⟩;rw [DK];simp only [dlD] at h1
  try simp only [Pu.pwA,ZS,dlD,h1,eq_self,sp2]
 ·obtain ⟨ps,h1,h2⟩:=qpz hp ok hR hC;obtain ⟨s,xs,e,n⟩:=qe8 (d:=d) λr c' b p z=>c ⟨r,c',b,p,z⟩;refine ⟨ps,?_,?_⟩
  ·rw [DK];rw [e] at h1 ⊢
   try simp only [Pu.pwA,ZS,h1,n,sp2]
  ·rw [h2];have e1:(d.R*d.C).toNat=d.R.toNat * d.C.toNat:=by
    have a:((d.R.toNat * d.C.toNat:Nat):Int)=d.R*d.C:=by rw [Int.natCast_mul,Int.toNat_of_nonneg (by omega),Int.toNat_of_nonneg (by omega)]
    omega
   exact e1.symm
def qpS {d:Dl} {p:Int×Int} (hp:d.dep<=2) (ok:d.Ok) (hR:d.R<=1000) (hC:d.C<=1000) (h:inT d p):∃ n:Int,zK [dlD d,pD p]=some (.int n):=by
 obtain ⟨ps,h1,h2⟩:=qpu hp ok hR hC;have e:=qou (qgw hp ok (p:=p) |>.trans (by rw [qcX h]));obtain ⟨i1,i2,i3,i4⟩:=h;have k0:0<=p.1*d.C:=Int.mul_nonneg i1 (by omega);have k1:p.1*d.C+d.C<=d.R*d.C:=by
  have:=Int.mul_le_mul_of_nonneg_right (show p.1+1<=d.R by omega) (show 0<=d.C by omega);rw [Int.add_mul,Int.one_mul] at this;exact this
 obtain ⟨k,hk⟩:∃ k:Nat,p.1*d.C+p.2=(k:Int):=⟨(p.1*d.C+p.2).toNat,by omega⟩
 have kl:k<ps.length:=by omega
 have at1:L2.atI (ps.map pD) (k:Int)=some (pD ps[k]):=by
  rw [jJ (by omega) (by simp;omega),Int.toNat_natCast,getElem?_map,getElem?_eq_getElem kl];rfl
 have nu:=qnk (n:=2) (i:=p.1) (j:=p.2) hp ok;refine ⟨ps[k].2,?_⟩;rw [DM];simp only [pD] at e
 try simp only [Pu.pwA,ZI,pD,e,h1,sp2,qoo,nu,hk]
 try simp only [Pu.pwA,at1,pD]
end K06
namespace K06
open PySem L2 L3 Pu Pv
open Bk (Dl Dr jk)
def qfF:Sp3:=λts G q=>(ts=[.non]/\q (.str "") G)\/∃ e,ts=[.ref e]/\G e=some (.exn 51)/\∀ G',Ex G G'->q (.str "word") G'
def qhT {G:Gp} {e:Addr} (h:G e=some (.exn 51)):exT G (.ref e)=some (some 51):=by simp only [exT,h]
def lk1:List.lookup (some (51:Addr)) [(none,false),(some 51,true)]=some true:=rfl
def lk2:List.lookup (some (51:Addr)) [(none,false),(some 51,false)]=some false:=rfl
def LG {D:List (Option Addr×Bool)} {i:Nat} {τ:St3} {G:Gp} {q:Q3} {e:Addr} {b:Bool} (h1:τ[i]?=some (some (.ref e))) (h2:G e=some (.exn 51)) (h3:D.lookup (some 51)=some b) (h:q (.bl b) G):CG D (v3 i) τ G q:=by
 unfold CG v3;rw [h1];simp only [qhT h2,h3];exact h
def NK {D1 D2 D3:List (Option Addr×Bool)} {i:Nat} {τ:St3} {G:Gp} {q:Q3} {e:Addr} {b1 b2 b3:Bool} (h1:τ[i]?=some (some (.ref e))) (h2:G e=some (.exn 51)) (k1:D1.lookup (some 51)=some b1) (k2:D2.lookup (some 51)=some b2) (k3:D3.lookup (some 51)=some b3) (h:∀ p,G p=none->q (.ref p) (gu G p (.lst [.bl b1,.bl b2,.bl b3]))):zO (qb (CG D1 (v3 i)) (qb (CG D2 (v3 i)) (qb (CG D3 (v3 i)) qg))) τ G q:=by
 unfold zO qb qg;exact LG h1 h2 k1 (LG h1 h2 k2 (LG h1 h2 k3 ⟨by rw [sizeLine_eq];simp,h⟩))
def qo7 {τ:St3} {G:Gp} {d:Ends3} {e p:Addr} {bs:List T} (h1:τ[0]?=some (some (.ref e))) (h0:τ[1]?=some (some (.ref p))) (h2:G e=some (.exn 51)) (h3:G p=some (.lst bs)) (hl:bs.length<=100)
  (h:∀ p' G',Ex G G'->G' p'=some (.lst (bs++[.bl false,.bl false,.bl false]))->d.nx (τ.set 1 (some (.ref p'))) G') :
  qD (o3 zb (v3 1) (zO (qb (CG [(none,false),(some 51,false)] (v3 0)) (qb (CG [(none,false),(some 51,false)] (v3 0)) (qb (CG [(none,false),(some 51,false)] (v3 0)) qg))))) (gn3 1) d τ G:=by
 unfold qD o3;unfold v3;rw [h0];show zO _ _ _ _;refine NK h1 h2 lk2 lk2 lk2 λp2 hp2=>?_;have E2:Ex G (gu G p2 (.lst [.bl false,.bl false,.bl false])):=j6 hp2;have l2:gu G p2 (.lst [.bl false,.bl false,.bl false]) p2=_:=qp;have l3:=E2 _ _ h3;generalize gu G p2 (.lst [.bl false,.bl false,.bl false])=G2 at *;simp only [zb,l2,l3];refine ⟨by rw [sizeLine_eq];simp;omega,λp3 hp3=>?_⟩;exact h p3 _ (E2.trans (j6 hp3)) qp
def WW:Rd qfF 1 zp j8:=by
 rintro ts G q (⟨rfl,h⟩|⟨e,rfl,he,h⟩)
 ·refine ⟨rfl,?_⟩;show zp _ [some .non,none,none] G;unfold zp;simp only [qw,zf,tb3,o3,EC,v3,c3,qK,getElem?_cons_zero];exact h
 ·refine ⟨rfl,?_⟩;show zp _ [some (.ref e),none,none] G;unfold zp;refine jk λn1 q1=>?_;simp only [zf,tb3,o3,EC,v3,c3,qz,getElem?_cons_zero];rw [if_neg (by decide),q1];refine jk λn2 q2=>?_;unfold qD;refine NK rfl he lk1 lk2 lk2 λp1 hp1=>?_;simp only [gn3,set_cons_succ,set_cons_zero];rw [q2];have E1:Ex G (gu G p1 (.lst [.bl true,.bl false,.bl false])):=j6 hp1;have g1:=E1 _ _ he;have l1:gu G p1 (.lst [.bl true,.bl false,.bl false]) p1=_:=qp;generalize gu G p1 (.lst [.bl true,.bl false,.bl false])=G1 at *;refine jk λn3 q3=>?_;refine qo7 (e:=e) rfl rfl g1 l1 (by simp) λp3 G3 E3 l3=>?_;simp only [set_cons_succ,set_cons_zero];rw [q3];have g3:=E3 _ _ g1;refine jk λn4 q4=>?_;refine qo7 (e:=e) rfl rfl g3 l3 (by simp) λp5 G5 E5 l5=>?_;simp only [set_cons_succ,set_cons_zero];rw [q4];have g5:=E5 _ _ g3;simp only [cons_append,List.nil_append] at l5;refine jk λn5 q5=>?_;have gl5:zl G5 p5=some [T.bl true,.bl false,.bl false,.bl false,.bl false,.bl false,.bl false,.bl false,.bl false]:=QM l5;have bt:R5 [T.bl true,.bl false,.bl false,.bl false,.bl false,.bl false,.bl false,.bl false,.bl false]=some [true,false,false,false,false,false,false,false,false]:=rfl;have ct:List.count true [true,false,false,false,false,false,false,false,false]=1:=rfl;have it:List.idxOf true [true,false,false,false,false,false,false,false,false]=0:=rfl;have sc:zc (.int ((1:Nat):Int)) (.int 1)=some true:=rfl;simp only [zf,or3,VQ,tb3,o3,bm3,qb,qg,v3,c3,qaz,getElem?_cons_zero,getElem?_cons_succ,gl5,bt,ct,Option.isSome_some,zm,sc,Bool.not_true,if_true];refine ⟨trivial,?_⟩;rw [if_neg (by decide)];refine LG rfl g5 lk1 ?_;simp only [qz,Bool.not_true]
  try rw [if_neg (by decide)]
  rw [q5];refine jk λn6 q6=>?_;simp only [qD,zO,qb,qg,c3];refine ⟨by rw [sizeLine_eq];simp,λp6 hp6=>?_⟩;simp only [gn3,set_cons_succ,set_cons_zero];rw [q6];have E6:Ex G5 (gu G5 p6 (.lst [.str "word",.str "start",.str "walk",.str "order",.str "clash",.str "square",.str "ask",.str "text",.str "row"])):=j6 hp6;have l6:gu G5 p6 (.lst [.str "word",.str "start",.str "walk",.str "order",.str "clash",.str "square",.str "ask",.str "text",.str "row"]) p6=_:=qp;generalize gu G5 p6 (.lst [.str "word",.str "start",.str "walk",.str "order",.str "clash",.str "square",.str "ask",.str "text",.str "row"])=G6 at *;have gl6:zl G6 p5=some [T.bl true,.bl false,.bl false,.bl false,.bl false,.bl false,.bl false,.bl false,.bl false]:=QM (E6 _ _ l5);simp only [qK,o3,bm3,qb,qg,v3,c3,NI,getElem?_cons_zero,getElem?_cons_succ,gl6,bt,it,Option.isSome_some];refine ⟨trivial,by simp,by simp,?_⟩;have at0:L2.atI [T.str "word",.str "start",.str "walk",.str "order",.str "clash",.str "square",.str "ask",.str "text",.str "row"] ((0:Nat):Int)=some (.str "word"):=rfl;simp only [ix3,l6,QM l6,at0];exact h _ (((E1.trans E3).trans E5).trans E6)
def Dqs.three {G:Gp} {ts:List T} {i:Int} {d x:PyData} (h:Dqs G ts [.int i,d,x]):∃ t1 t2,ts=[.int i,t1,t2]/\Dqs G [t1,t2] [d,x]:=by
 cases h with
 |cons a h=>
  cases a;cases h with
  |cons b h=>cases h with
   |cons c h=>
    cases h;exact ⟨_,_,rfl,.cons b (.cons c .nil)⟩
def qo4:zc (.int 0) (.int 0)=some true:=rfl
def qoW:zc (.int 1) (.int 0)=some false:=rfl
def W6:Rd (PSp qv false) 3 (zr (PSp jr false) (PSp zK false) qfF (PXp J9) (PXp ZL)) QB:=by
 rintro ts G q ⟨D,ds,d,hs,hd,hf,h⟩;have fin:∀ G' (e:Addr),Ex G G'->d=.str "word" -> G' e=none->qfF [.ref e] (gu G' e (.exn 51)) q:=λG' e E hd' he=>by
  subst hd';exact .inr ⟨e,rfl,qp,λG'' E''=>h _ _ ((E.trans (j6 he)).trans E'') (.str _) λz=>by cases z⟩
 unfold qv at hf;split at hf
 ·rename_i dd x;obtain ⟨t1,t2,rfl,hs2⟩:=Dqs.three hs;refine ⟨rfl,?_⟩;show zr _ _ _ _ _ _ [some (.int 0),some t1,some t2,none,none] G;unfold zr;simp only [qw,qD,c3,gn3,set_cons_succ,set_cons_zero];unfold Rz at hf;cases e:jr [dd,x] with
  |some d'=>
   rw [e] at hf;cases hf;refine .inl ?_;simp only [zf,tb3,o3,v3,c3,zm,qo4,zn,cb3,qb,qg,getElem?_cons_zero,getElem?_cons_succ];refine ⟨D,_,d',hs2,hd,e,λy G' E hy hn=>?_⟩;simp only [qK,cb3,qb,qg,v3,getElem?_cons_zero,getElem?_cons_succ];exact .inl ⟨rfl,h _ _ E (.str _) λz=>by cases z⟩
  |none=>
   rw [e] at hf;obtain ⟨C,e2,hf⟩:=obb hf;split at hf
   ·rename_i hC;subst hC;refine .inr ?_;simp only [xif,tb3,o3,v3,c3,zm,qo4,qaL,qb,qg,getElem?_cons_zero,getElem?_cons_succ];refine ⟨D,_,51,hs2,hd,e2,λG' E=>⟨by decide,λex hex=>?_⟩⟩;simp only [qD,v3,gn3,qK,cb3,qb,qg,set_cons_succ,set_cons_zero,getElem?_cons_zero,getElem?_cons_succ];exact fin G' ex E (by cases hf;rfl) hex
   ·cases hf
 ·rename_i dd x;obtain ⟨t1,t2,rfl,hs2⟩:=Dqs.three hs;refine ⟨rfl,?_⟩;show zr _ _ _ _ _ _ [some (.int 1),some t1,some t2,none,none] G;unfold zr;simp only [qw,qD,c3,gn3,set_cons_succ,set_cons_zero];unfold Rz at hf;cases e:zK [dd,x] with
  |some d'=>
   rw [e] at hf;cases hf;refine .inl ?_;simp only [zf,tb3,o3,v3,c3,zm,qoW,zn,cb3,qb,qg,getElem?_cons_zero,getElem?_cons_succ];refine ⟨D,_,d',hs2,hd,e,λy G' E hy hn=>?_⟩;simp only [qK,cb3,qb,qg,v3,getElem?_cons_zero,getElem?_cons_succ];exact .inl ⟨rfl,h _ _ E (.str _) λz=>by cases z⟩
  |none=>
   rw [e] at hf;obtain ⟨C,e2,hf⟩:=obb hf;split at hf
   ·rename_i hC;subst hC;refine .inr ?_;simp only [xif,tb3,o3,v3,c3,zm,qoW,qaL,qb,qg,getElem?_cons_zero,getElem?_cons_succ];refine ⟨D,_,51,hs2,hd,e2,λG' E=>⟨by decide,λex hex=>?_⟩⟩;simp only [qD,v3,gn3,qK,cb3,qb,qg,set_cons_succ,set_cons_zero,getElem?_cons_zero,getElem?_cons_succ];exact fin G' ex E (by cases hf;rfl) hex
   ·cases hf
 ·cases hf
end K06
namespace K06
open PySem L2 L3 Pu Pv
open Bk (Dl Dr)
def qmM {b:Bool}:qP [.bool b]=some (.bool false):=by
 have e1:ZF "bool" "int" = true:=rfl;have e2:ZF "bool" "bool" = true:=rfl;rw [Q2]
 try simp only [Pu.pwA,jl,e1,e2,Bool.not_true]
def qmu:qP [.none]=some (.bool false):=by
 have e1:ZF "NoneType" "int" = false:=rfl;rw [Q2]
 try simp only [Pu.pwA,jl,e1]
def qn3 {s:Str}:qP [.str s]=some (.bool false):=by
 have e1:ZF "str" "int" = false:=rfl;rw [Q2]
 try simp only [Pu.pwA,jl,e1]
def qme (i j:Int):List PyData:=[.list [.int i,.int j],.tuple [.int i,.int j,.int 0],.tuple [.int i],.tuple [.bool true,.int 0],.tuple [.int 0,.bool false],.tuple [.str "0",.int 0],.tuple [.int 0,.none],.none,.int 0,.str "00",.tuple [.tuple [.int i,.int j]],.tuple []]
def qdB {i j:Int} {x:PyData} (h:x∈qme i j):zU [x]=some (.bool false):=by
 have e1:ZF "NoneType" "tuple" = false:=rfl;have e2:ZF "list" "tuple" = false:=rfl;have e3:ZF "str" "tuple" = false:=rfl;have e4:ZF "int" "tuple" = false:=rfl;have n0:decide (((0:Nat):Int)=2)=false:=rfl;have n1:decide (((1:Nat):Int)=2)=false:=rfl;have n3:decide (((1+1+1:Nat):Int)=2)=false:=rfl;simp only [qme,mem_cons,not_mem_nil,or_false] at h;rcases h with rfl|rfl|rfl|rfl|rfl|rfl|rfl|rfl|rfl|rfl|rfl|rfl
 all_goals (rw [XI];try simp only [Pu.pwA,YA,e1,e2,e3,e4,s3,t2,qgN,qmM,qmu,qn3,n0,n1,n3])
def qpa {D x:PyData} (h:qA [D,x]=some (.bool false)):qv [.int 0,D,x]=some (.str "word")/\qv [.int 1,D,x]=some (.str "word"):=by
 obtain ⟨h1,h2⟩:=qpB h;obtain ⟨h3,h4⟩:=qpp h;constructor
 ·show Rz _ _ _=_;unfold Rz;rw [h1,h2];rfl
 ·show Rz _ _ _=_;unfold Rz;rw [h3,h4];rfl
def qnF {d:Dl} {p:Int×Int} (hp:d.dep<=2) (ok:d.Ok) (hR:d.R<=1000) (hC:d.C<=1000) (h:inT d p):qv [.int 0,dlD d,pD p]=some (.str "")/\qv [.int 1,dlD d,pD p]=some (.str ""):=by
 obtain ⟨n,e⟩:=qpS hp ok hR hC h;constructor
 ·show Rz _ _ _=_;unfold Rz;rw [qpI hp ok h]
 ·show Rz _ _ _=_;unfold Rz;rw [e]
def qg9 (R C i j f:Int):List PyData:=[pD (R,j),pD (i,C),pD (-1,j),pD (i,-1),pD (R+f,j),pD (i,-f),pD (R,C),pD (-R,j)]
def qkQ {d:Dl} {i j f:Int} {x:PyData} (hp:d.dep<=2) (ok:d.Ok) (hf:0<f) (h:x∈qg9 d.R d.C i j f):qA [dlD d,x]=some (.bool false):=by
 have l:=Dl.lims ok;have:=l.r1;have:=l.c1;simp only [qg9,mem_cons,not_mem_nil,or_false] at h;rcases h with rfl|rfl|rfl|rfl|rfl|rfl|rfl|rfl
 all_goals
  rw [qgw hp ok];refine congrArg (λb=>some (PyData.bool b)) ?_;simp only [inW,Bool.and_eq_false_iff,decide_eq_false_iff_not];omega
def qpn:eqD true (.str "word") (.str "word")=some (.bool false):=rfl
def qpf:eqD true (.str "") (.str "")=some (.bool false):=rfl
def qgO:∀ k:Nat,k<=60->qbw.w [.un,.sh (.int k),.un,.un,.un,.un,.un,.un,.un,.un,.un,.un] 0 okW:=by
 intro k hk;unfold qbw;refine KA λY1 h1=>?_
 try simp only [Pu.pwA]
 refine ⟨by omega,λd D dp=>?_⟩
 try simp only [Pu.pwA]
 rw [h1];have hR:=D.r2;have hC:=D.c2;have lm:=Dl.lims D.ok;have:=lm.r1;have:=lm.c1;refine KA λY2 h2=>?_
 try simp only [Pu.pwA,qjX,qfX (n:=2) dp D.ok,siz]
 rw [h2];refine KA λY3 h3=>?_;have w18:cI WZ (λi j=>i ^ j.toNat) (.int 10) (.int 18)=some (.int 1000000000000000000):=qb2 (i:=10) (j:=18) ⟨by decide,by decide,by decide⟩;have w9:cI WZ (λi j=>i ^ j.toNat) (.int 10) (.int 9)=some (.int 1000000000):=qb2 (i:=10) (j:=9) ⟨by decide,by decide,by decide⟩
 try simp only [Pu.pwA,w18,w9]
 refine ⟨by omega,by omega,λf f0 f1=>?_⟩
 try simp only [Pu.pwA]
 obtain ⟨F,hF,hF0⟩:∃ F:Int,F=1000000000000000000+f/\0<F:=⟨_,rfl,by omega⟩
 rw [← hF];rw [h3];refine KA λY4 h4=>?_
 try simp only [Pu.pwA]
 refine ⟨by omega,by omega,λi i0 i1=>⟨by omega,by omega,λj j0 j1=>?_⟩⟩
 try simp only [Pu.pwA]
 rw [h4];refine KA λY5 h5=>?_
 try simp only [Pu.pwA]
 rw [h5];refine KA λY6 h6=>?_;have e1:∀ x∈qg9 d.R d.C i j F,qA [dlD d,x]=some (.bool false):=λx hx=>qkQ dp D.ok hF0 hx;have e2:∀ x∈[PyData.list [.int i,.int j],.tuple [.int i,.int j,.int 0],.tuple [.int i],.tuple [.bool true,.int 0],.tuple [.int 0,.bool false],.tuple [.str "0",.int 0],.tuple [.int 0,.none]],qA [dlD d,x]=some (.bool false):=λx hx=>qoR (qdB (i:=i) (j:=j) (by
  simp only [mem_cons,not_mem_nil,or_false,qme] at hx ⊢;rcases hx with h|h|h|h|h|h|h<;>simp only [h,true_or,or_true]))
 have e3:∀ x∈[PyData.none,.int 0,.str "00",.tuple [.tuple [.int i,.int j]],.tuple []],qA [dlD d,x]=some (.bool false):=λx hx=>qoR (qdB (i:=i) (j:=j) (by
  simp only [mem_cons,not_mem_nil,or_false,qme] at hx ⊢;rcases hx with h|h|h|h|h<;>simp only [h,true_or,or_true]))
 have l1:(qg9 d.R d.C i j F).length=8:=rfl;simp only [qg9,pD] at e1 l1;generalize [PyData.tuple [PyData.int d.R,PyData.int j],.tuple [.int i,.int d.C],.tuple [.int (-1),.int j],.tuple [.int i,.int (-1)],.tuple [.int (d.R+F),.int j],.tuple [.int i,.int (-F)],.tuple [.int d.R,.int d.C],.tuple [.int (-d.R),.int j]]=x1 at *;have c1:qgC (.list x1) (.list [PyData.list [.int i,.int j],.tuple [.int i,.int j,.int 0],.tuple [.int i],.tuple [.bool true,.int 0],.tuple [.int 0,.bool false],.tuple [.str "0",.int 0],.tuple [.int 0,.none]])=some (.list (x1++[PyData.list [.int i,.int j],.tuple [.int i,.int j,.int 0],.tuple [.int i],.tuple [.bool true,.int 0],.tuple [.int 0,.bool false],.tuple [.str "0",.int 0],.tuple [.int 0,.none]])):=qdb (by rw [l1];simp)
 try simp only [Pu.pwA,c1]
 rw [h6];obtain ⟨x2,hx2⟩:∃ x2,x2=x1++[PyData.list [.int i,.int j],.tuple [.int i,.int j,.int 0],.tuple [.int i],.tuple [.bool true,.int 0],.tuple [.int 0,.bool false],.tuple [.str "0",.int 0],.tuple [.int 0,.none]]:=⟨_,rfl⟩
 have l2:x2.length=15:=by rw [hx2,length_append,l1];rfl
 have e4:∀ x∈x2,qA [dlD d,x]=some (.bool false):=λx hx=>by
  rw [hx2] at hx;rcases List.mem_append.mp hx with h|h
  ·exact e1 x h
  ·exact e2 x h
 rw [← hx2];clear hx2 c1 e1 e2;refine KA λY7 h7=>?_;have c2:qgC (.list x2) (.list [PyData.none,.int 0,.str "00",.tuple [.tuple [.int i,.int j]],.tuple []])=some (.list (x2++[PyData.none,.int 0,.str "00",.tuple [.tuple [.int i,.int j]],.tuple []])):=qdb (by rw [l2];simp)
 try simp only [Pu.pwA,c2]
 rw [h7];obtain ⟨x3,hx3⟩:∃ x3,x3=x2++[PyData.none,.int 0,.str "00",.tuple [.tuple [.int i,.int j]],.tuple []]:=⟨_,rfl⟩
 have e5:∀ x∈x3,qA [dlD d,x]=some (.bool false):=λx hx=>by
  rw [hx3] at hx;rcases List.mem_append.mp hx with h|h
  ·exact e4 x h
  ·exact e3 x h
 rw [← hx3];clear hx3 c2 e3 e4;refine qeU (λρ' m=>∃ s11,ρ'=[.un,.sh (.int k),.un,.sh (dlD d),.sh (.int d.R),.sh (.int d.C),.sh (.int d.B),.sh (.int F),.sh (.int i),.sh (.int j),.ow x3,s11]) ?_ ?_
 ·try simp only [Pu.pwA]
  have ws:∀ p∈[((0:Int),(0:Int)),(d.R-1,0),(0,d.C-1),(d.R-1,d.C-1),(i,j)],inT d p:=λp hp=>by
   simp only [mem_cons,not_mem_nil,or_false] at hp;rcases hp with rfl|rfl|rfl|rfl|rfl
   all_goals (refine ⟨?_,?_,?_,?_⟩<;>(simp only;omega))
  refine KW (f:=pD) [((0:Int),(0:Int)),(d.R-1,0),(0,d.C-1),(d.R-1,d.C-1),(i,j)] CJ.mn (λ_ ρ n=>∃ s11,ρ=[.un,.sh (.int k),.un,.sh (dlD d),.sh (.int d.R),.sh (.int d.C),.sh (.int d.B),.sh (.int F),.sh (.int i),.sh (.int j),.ow x3,s11]) ⟨_,rfl⟩ ?_ ?_
  ·rintro a p ρ n hp ⟨s11,rfl⟩;refine ⟨_,rfl,?_⟩;obtain ⟨y1,y2⟩:=qnF dp D.ok (by omega) (by omega) (ws p (mem_of_getElem? hp));unfold CJ
   try simp only [Pu.pwA,y1,y2,qpf]
   exact ⟨_,rfl⟩
  ·rintro ρ n ⟨s11,rfl⟩;exact ⟨_,rfl⟩
 ·rintro ρ' m ⟨s11,rfl⟩
  try simp only [Pu.pwA]
  have e0:x3=x3.map id:=by simp
  rw [e0];refine KW (f:=id) x3 CV.mn (λ_ ρ n=>∃ s10 s11,ρ=[.un,.sh (.int k),.un,.sh (dlD d),.sh (.int d.R),.sh (.int d.C),.sh (.int d.B),.sh (.int F),.sh (.int i),.sh (.int j),s10,s11]) ⟨_,_,rfl⟩ ?_ ?_
  ·rintro a y ρ n hy ⟨s10,s11,rfl⟩;refine ⟨_,rfl,?_⟩;obtain ⟨y1,y2⟩:=qpa (e5 y (mem_of_getElem? hy));unfold CV
   try simp only [Pu.pwA,y1,y2,qpn,id]
   exact ⟨_,_,rfl⟩
  ·rintro ρ n ⟨s10,s11,rfl⟩
   trivial
end K06
namespace K06
open PySem L2 L3 Bk
abbrev qiu : Env := { scope := PySem.Challenge.pw_bankwalk_k06_what_is_no_word.main.scope,locals := mainNs,globals := mainNs,cells := [],code := .ref 13,frame := some 14 }
abbrev NT : List Stmt := PySem.W.behindTheImports PySem.Challenge.pw_bankwalk_k06_what_is_no_word
abbrev CT:Code:=.body NT qiu
abbrev qkB:List Frame:=[PySem.W.topFrame ⟨0,0,0,0⟩]
def qU:Obj:=Hd.oT []
def jI:Obj:=⟨.none,none,.fields #[],#[]⟩
def ql3:Obj:=Hd.oC [.str "<module>" 182,.str "<module>" 183,.str "/claim/cut.py" 184,.int (1) 0,.int (0) 0,.int (0) 0,.int (0) 0,.int (0) 0,.ref 11,.bool false,.int (181) 0,.ref 12,.none,.none,.none,.none,.int (185) 0,.int (1) 0,.str "/claim/cut.py" 186]
def ql9:Obj:=⟨.type "frame",none,.plain,#[some (.ref 13),some (.ref 3),some (.ref 3),none,some (.str "__main__" 164),none,some (.ref 0)]⟩
def qhj (P:Params):Heap:=⟨Array.mk [PySem.W.boot_o_0 P,PySem.W.boot_o_1 P,PySem.W.boot_o_2 P,PySem.W.boot_o_3 P,PySem.W.boot_o_4 P,PySem.W.boot_o_5 P,PySem.W.boot_o_6 P,PySem.W.boot_o_7 P,PySem.W.boot_o_8 P,PySem.W.boot_o_9 P,PySem.W.boot_o_10 P,qU,jI,ql3,ql9],{ }⟩
def qle (P:Params):PySem.W.BT:=(Hd.nd (PySem.W.boot_o_0 P) (Hd.nd (PySem.W.boot_o_1 P) (Hd.nd (PySem.W.boot_o_3 P) (Hd.lf (PySem.W.boot_o_7 P)) (Hd.lf qU)) (Hd.nd (PySem.W.boot_o_5 P) (Hd.lf (PySem.W.boot_o_9 P)) (Hd.lf ql3))) (Hd.nd (PySem.W.boot_o_2 P) (Hd.nd (PySem.W.boot_o_4 P) (Hd.lf (PySem.W.boot_o_8 P)) (Hd.lf jI)) (Hd.nd (PySem.W.boot_o_6 P) (Hd.lf (PySem.W.boot_o_10 P)) (Hd.lf ql9))))
set_option maxRecDepth 100000 in
set_option maxHeartbeats 0 in
def qlG (w : World) (os : OsState) : PySem.W.topGo treeTable PySem.Challenge.pw_bankwalk_k06_what_is_no_word w 11 (some (Value.ref 6)) 12 ⟨PySem.W.boot_heap w.params,Array.mk [],PySem.W.boot_drawn,PySem.W.boot_toks,os⟩ (PySem.W.topStub PySem.Challenge.pw_bankwalk_k06_what_is_no_word) = some (⟨qhj w.params,#[],{ },187,os⟩,⟨denote treeTable CT,CT,⟨0,0,0,0⟩,qkB⟩) := by kernel_rfl
set_option maxRecDepth 100000 in
set_option maxHeartbeats 0 in
def qlB (w : World) (os : OsState) : PySem.W.segRun treeTable PySem.Challenge.pw_bankwalk_k06_what_is_no_word w 11 (some (Value.ref 6)) 1 1 ⟨qhj w.params,#[],{ },187,os⟩ (PySem.W.blockOf NT qiu CT ⟨0,0,0,0⟩ qkB) = some (.next,(⟨qle w.params,15,{ },#[],{ },187,os⟩ : PySem.W.SharedT).abs,CT,⟨0,0,0,0⟩) := by kernel_rfl
def qpy (P:Params):Obj:=Hd.oD P 19 [(.str "__name__" 165,.str "bankwalk.errors" 203),(.str "__doc__" 166,.none),(.str "__package__" 167,.none),(.str "__loader__" 168,.builtin "__main__.__loader__#opaque"),(.str "__spec__" 169,.none),(.str "__annotations__" 170,.ref 6),(.str "__builtins__" 171,.ref 4),(.str "__file__" 173,.str "/claim/cut.py" 172),(.str "__cached__" 174,.none),(.str "is_number" 195,.ref 21),(.str "is_pair" 202,.ref 28),(.str "BankError" 222,.ref 38),(.str "NoWord" 238,.ref 51),(.str "NoStart" 254,.ref 63),(.str "NoWalk" 270,.ref 75),(.str "NoOrder" 286,.ref 87),(.str "Clash" 302,.ref 99),(.str "NotSquare" 318,.ref 111),(.str "BadText" 334,.ref 123)]
def qpD:Obj:=⟨.none,none,.fields #[.int (2) 0,.int (0) 0,.ref 20,.int (4) 0,.int (0) 0,.ref 27,.int (7) 0,.int (0) 0,.ref 34,.int (9) 0,.int (0) 0,.ref 47,.int (11) 0,.int (0) 0,.ref 59,.int (13) 0,.int (0) 0,.ref 71,.int (15) 0,.int (0) 0,.ref 83,.int (17) 0,.int (0) 0,.ref 95,.int (19) 0,.int (0) 0,.ref 107,.int (21) 0,.int (0) 0,.ref 119],#[]⟩
def qoJ:Obj:=Hd.oN ZU 192
def qo6:Obj:=Hd.oG "is_number" jW
def qmF:Obj:=Hd.oK "is_number" 189 2 1 181 15 16 .none (.ref 17) (.ref 18) 19 193 194
def qeH:Obj:=Hd.oF "is_number" jW (.str "bankwalk.basics" 187) (.ref 20)
def qiS:Obj:=Hd.oN ZU 199
def qgX:Obj:=Hd.oG "is_pair" ZO
def qf1:Obj:=Hd.oK "is_pair" 196 4 1 181 22 23 .none (.ref 24) (.ref 25) 26 200 201
def qfy:Obj:=Hd.oF "is_pair" ZO (.str "bankwalk.basics" 187) (.ref 27)
def qly:Obj:=Hd.oT [.type "ValueError"]
def JX:Obj:=⟨.type "builtin_function_or_method",none,.fields #[.builtin "type.__prepare__",.type "type"],#[]⟩
def qiT (P:Params):Obj:=Hd.oD P 4 [(.str "__module__" 212,.str "bankwalk.errors" 203),(.str "__qualname__" 214,.str "BankError" 213),(.str "__firstlineno__" 216,.int (7) 215),(.str "__static_attributes__" 217,.ref 36)]
def qka:Obj:=Hd.oC [.str "BankError" 207,.str "BankError" 208,.str "/claim/cut.py" 209,.int (7) 0,.int (0) 0,.int (0) 0,.int (0) 0,.int (0) 0,.ref 32,.bool false,.int (181) 0,.ref 33,.none,.none,.none,.none,.int (210) 0,.int (7) 0,.str "/claim/cut.py" 211]
def qlJ:Obj:=⟨.type "frame",none,.plain,#[some (.ref 34),some (.ref 3),some (.ref 31),none,some (.str "bankwalk.errors" 203),none,some (.ref 0)]⟩
def qgm (P:Params):Obj:=Hd.oD P 3 [(.str "__module__" 212,.str "bankwalk.errors" 203),(.str "__firstlineno__" 216,.int (7) 215),(.str "__static_attributes__" 217,.ref 36),(.str "__weakref__" 219,.ref 39),(.str "__doc__" 220,.none)]
def qna:Obj:=⟨.type "type",none,.cls ({ name:=Str.ofString "BankError",bases:=[Value.type "ValueError"],  mro:=    [Value.ref 38,Value.type "ValueError",Value.type "Exception",Value.type "BaseException",Value.type "object"],  ns:=37,qualname:=Str.ofString "BankError",  subclasses:=[Value.ref 51,Value.ref 63,Value.ref 75,Value.ref 87,Value.ref 99,Value.ref 111,Value.ref 123] }),#[some (.ref 29),none,some (.str "BankError" 205),some (.str "BankError" 213),some (.builtin "ValueError.__new__"),some (.bool true)]⟩
def qkU:Obj:=⟨.type "getset_descriptor",none,.fields #[.str "__weakref__" 218,.ref 38,.builtin "ExceptionGroup.__weakref__",.none],#[]⟩
def qj9:Obj:=⟨.type "super",none,.fields #[.ref 38,.ref 38,.ref 38],#[]⟩
def qim:Obj:=⟨.type "builtin_function_or_method",none,.fields #[.builtin "object.__init_subclass__",.ref 38],#[]⟩
def YV:Obj:=Hd.oT [.ref 38]
def qhY (P:Params):Obj:=Hd.oD P 4 [(.str "__module__" 230,.str "bankwalk.errors" 203),(.str "__qualname__" 232,.str "NoWord" 231),(.str "__firstlineno__" 234,.int (9) 233),(.str "__static_attributes__" 235,.ref 49)]
def qjS:Obj:=Hd.oC [.str "NoWord" 225,.str "NoWord" 226,.str "/claim/cut.py" 227,.int (9) 0,.int (0) 0,.int (0) 0,.int (0) 0,.int (0) 0,.ref 45,.bool false,.int (181) 0,.ref 46,.none,.none,.none,.none,.int (228) 0,.int (9) 0,.str "/claim/cut.py" 229]
def qhK:Obj:=⟨.type "frame",none,.plain,#[some (.ref 47),some (.ref 3),some (.ref 44),none,some (.str "bankwalk.errors" 203),none,some (.ref 0)]⟩
def qfO (P:Params):Obj:=Hd.oD P 2 [(.str "__module__" 230,.str "bankwalk.errors" 203),(.str "__firstlineno__" 234,.int (9) 233),(.str "__static_attributes__" 235,.ref 49),(.str "__doc__" 236,.none)]
def qf7:Obj:=⟨.type "type",none,.cls ({ name:=Str.ofString "NoWord",bases:=[Value.ref 38],  mro:=    [Value.ref 51,Value.ref 38,Value.type "ValueError",Value.type "Exception",Value.type "BaseException",      Value.type "object"],  ns:=50,qualname:=Str.ofString "NoWord" }),#[some (.ref 42),none,some (.str "NoWord" 223),some (.str "NoWord" 231),some (.builtin "ValueError.__new__"),some (.bool true)]⟩
def qla:Obj:=⟨.type "super",none,.fields #[.ref 51,.ref 51,.ref 51],#[]⟩
def qlT:Obj:=⟨.type "builtin_function_or_method",none,.fields #[.builtin "object.__init_subclass__",.ref 51],#[]⟩
def qh6 (P:Params):Obj:=Hd.oD P 4 [(.str "__module__" 246,.str "bankwalk.errors" 203),(.str "__qualname__" 248,.str "NoStart" 247),(.str "__firstlineno__" 250,.int (11) 249),(.str "__static_attributes__" 251,.ref 61)]
def qlj:Obj:=Hd.oC [.str "NoStart" 241,.str "NoStart" 242,.str "/claim/cut.py" 243,.int (11) 0,.int (0) 0,.int (0) 0,.int (0) 0,.int (0) 0,.ref 57,.bool false,.int (181) 0,.ref 58,.none,.none,.none,.none,.int (244) 0,.int (11) 0,.str "/claim/cut.py" 245]
def qgG:Obj:=⟨.type "frame",none,.plain,#[some (.ref 59),some (.ref 3),some (.ref 56),none,some (.str "bankwalk.errors" 203),none,some (.ref 0)]⟩
def qg2 (P:Params):Obj:=Hd.oD P 2 [(.str "__module__" 246,.str "bankwalk.errors" 203),(.str "__firstlineno__" 250,.int (11) 249),(.str "__static_attributes__" 251,.ref 61),(.str "__doc__" 252,.none)]
def qeV:Obj:=⟨.type "type",none,.cls ({ name:=Str.ofString "NoStart",bases:=[Value.ref 38],  mro:=    [Value.ref 63,Value.ref 38,Value.type "ValueError",Value.type "Exception",Value.type "BaseException",      Value.type "object"],  ns:=62,qualname:=Str.ofString "NoStart" }),#[some (.ref 54),none,some (.str "NoStart" 239),some (.str "NoStart" 247),some (.builtin "ValueError.__new__"),some (.bool true)]⟩
def qjh:Obj:=⟨.type "super",none,.fields #[.ref 63,.ref 63,.ref 63],#[]⟩
def qi0:Obj:=⟨.type "builtin_function_or_method",none,.fields #[.builtin "object.__init_subclass__",.ref 63],#[]⟩
def qks (P:Params):Obj:=Hd.oD P 4 [(.str "__module__" 262,.str "bankwalk.errors" 203),(.str "__qualname__" 264,.str "NoWalk" 263),(.str "__firstlineno__" 266,.int (13) 265),(.str "__static_attributes__" 267,.ref 73)]
def qi6:Obj:=Hd.oC [.str "NoWalk" 257,.str "NoWalk" 258,.str "/claim/cut.py" 259,.int (13) 0,.int (0) 0,.int (0) 0,.int (0) 0,.int (0) 0,.ref 69,.bool false,.int (181) 0,.ref 70,.none,.none,.none,.none,.int (260) 0,.int (13) 0,.str "/claim/cut.py" 261]
def qiJ:Obj:=⟨.type "frame",none,.plain,#[some (.ref 71),some (.ref 3),some (.ref 68),none,some (.str "bankwalk.errors" 203),none,some (.ref 0)]⟩
def qkG (P:Params):Obj:=Hd.oD P 2 [(.str "__module__" 262,.str "bankwalk.errors" 203),(.str "__firstlineno__" 266,.int (13) 265),(.str "__static_attributes__" 267,.ref 73),(.str "__doc__" 268,.none)]
def qgn:Obj:=⟨.type "type",none,.cls ({ name:=Str.ofString "NoWalk",bases:=[Value.ref 38],  mro:=    [Value.ref 75,Value.ref 38,Value.type "ValueError",Value.type "Exception",Value.type "BaseException",      Value.type "object"],  ns:=74,qualname:=Str.ofString "NoWalk" }),#[some (.ref 66),none,some (.str "NoWalk" 255),some (.str "NoWalk" 263),some (.builtin "ValueError.__new__"),some (.bool true)]⟩
def qky:Obj:=⟨.type "super",none,.fields #[.ref 75,.ref 75,.ref 75],#[]⟩
def qjq:Obj:=⟨.type "builtin_function_or_method",none,.fields #[.builtin "object.__init_subclass__",.ref 75],#[]⟩
def qkJ (P:Params):Obj:=Hd.oD P 4 [(.str "__module__" 278,.str "bankwalk.errors" 203),(.str "__qualname__" 280,.str "NoOrder" 279),(.str "__firstlineno__" 282,.int (15) 281),(.str "__static_attributes__" 283,.ref 85)]
def qjW:Obj:=Hd.oC [.str "NoOrder" 273,.str "NoOrder" 274,.str "/claim/cut.py" 275,.int (15) 0,.int (0) 0,.int (0) 0,.int (0) 0,.int (0) 0,.ref 81,.bool false,.int (181) 0,.ref 82,.none,.none,.none,.none,.int (276) 0,.int (15) 0,.str "/claim/cut.py" 277]
def qhS:Obj:=⟨.type "frame",none,.plain,#[some (.ref 83),some (.ref 3),some (.ref 80),none,some (.str "bankwalk.errors" 203),none,some (.ref 0)]⟩
def qkE (P:Params):Obj:=Hd.oD P 2 [(.str "__module__" 278,.str "bankwalk.errors" 203),(.str "__firstlineno__" 282,.int (15) 281),(.str "__static_attributes__" 283,.ref 85),(.str "__doc__" 284,.none)]
def qfc:Obj:=⟨.type "type",none,.cls ({ name:=Str.ofString "NoOrder",bases:=[Value.ref 38],  mro:=    [Value.ref 87,Value.ref 38,Value.type "ValueError",Value.type "Exception",Value.type "BaseException",      Value.type "object"],  ns:=86,qualname:=Str.ofString "NoOrder" }),#[some (.ref 78),none,some (.str "NoOrder" 271),some (.str "NoOrder" 279),some (.builtin "ValueError.__new__"),some (.bool true)]⟩
def qkC:Obj:=⟨.type "super",none,.fields #[.ref 87,.ref 87,.ref 87],#[]⟩
def qkA:Obj:=⟨.type "builtin_function_or_method",none,.fields #[.builtin "object.__init_subclass__",.ref 87],#[]⟩
def qjV (P:Params):Obj:=Hd.oD P 4 [(.str "__module__" 294,.str "bankwalk.errors" 203),(.str "__qualname__" 296,.str "Clash" 295),(.str "__firstlineno__" 298,.int (17) 297),(.str "__static_attributes__" 299,.ref 97)]
def qlq:Obj:=Hd.oC [.str "Clash" 289,.str "Clash" 290,.str "/claim/cut.py" 291,.int (17) 0,.int (0) 0,.int (0) 0,.int (0) 0,.int (0) 0,.ref 93,.bool false,.int (181) 0,.ref 94,.none,.none,.none,.none,.int (292) 0,.int (17) 0,.str "/claim/cut.py" 293]
def qlc:Obj:=⟨.type "frame",none,.plain,#[some (.ref 95),some (.ref 3),some (.ref 92),none,some (.str "bankwalk.errors" 203),none,some (.ref 0)]⟩
def qkN (P:Params):Obj:=Hd.oD P 2 [(.str "__module__" 294,.str "bankwalk.errors" 203),(.str "__firstlineno__" 298,.int (17) 297),(.str "__static_attributes__" 299,.ref 97),(.str "__doc__" 300,.none)]
def qeS:Obj:=⟨.type "type",none,.cls ({ name:=Str.ofString "Clash",bases:=[Value.ref 38],  mro:=    [Value.ref 99,Value.ref 38,Value.type "ValueError",Value.type "Exception",Value.type "BaseException",      Value.type "object"],  ns:=98,qualname:=Str.ofString "Clash" }),#[some (.ref 90),none,some (.str "Clash" 287),some (.str "Clash" 295),some (.builtin "ValueError.__new__"),some (.bool true)]⟩
def qgV:Obj:=⟨.type "super",none,.fields #[.ref 99,.ref 99,.ref 99],#[]⟩
def qia:Obj:=⟨.type "builtin_function_or_method",none,.fields #[.builtin "object.__init_subclass__",.ref 99],#[]⟩
def qjr (P:Params):Obj:=Hd.oD P 4 [(.str "__module__" 310,.str "bankwalk.errors" 203),(.str "__qualname__" 312,.str "NotSquare" 311),(.str "__firstlineno__" 314,.int (19) 313),(.str "__static_attributes__" 315,.ref 109)]
def qkH:Obj:=Hd.oC [.str "NotSquare" 305,.str "NotSquare" 306,.str "/claim/cut.py" 307,.int (19) 0,.int (0) 0,.int (0) 0,.int (0) 0,.int (0) 0,.ref 105,.bool false,.int (181) 0,.ref 106,.none,.none,.none,.none,.int (308) 0,.int (19) 0,.str "/claim/cut.py" 309]
def qlv:Obj:=⟨.type "frame",none,.plain,#[some (.ref 107),some (.ref 3),some (.ref 104),none,some (.str "bankwalk.errors" 203),none,some (.ref 0)]⟩
def qj8 (P:Params):Obj:=Hd.oD P 2 [(.str "__module__" 310,.str "bankwalk.errors" 203),(.str "__firstlineno__" 314,.int (19) 313),(.str "__static_attributes__" 315,.ref 109),(.str "__doc__" 316,.none)]
def qfV:Obj:=⟨.type "type",none,.cls ({ name:=Str.ofString "NotSquare",bases:=[Value.ref 38],  mro:=    [Value.ref 111,Value.ref 38,Value.type "ValueError",Value.type "Exception",Value.type "BaseException",      Value.type "object"],  ns:=110,qualname:=Str.ofString "NotSquare" }),#[some (.ref 102),none,some (.str "NotSquare" 303),some (.str "NotSquare" 311),some (.builtin "ValueError.__new__"),some (.bool true)]⟩
def qjc:Obj:=⟨.type "super",none,.fields #[.ref 111,.ref 111,.ref 111],#[]⟩
def qhh:Obj:=⟨.type "builtin_function_or_method",none,.fields #[.builtin "object.__init_subclass__",.ref 111],#[]⟩
def qlR (P:Params):Obj:=Hd.oD P 4 [(.str "__module__" 326,.str "bankwalk.errors" 203),(.str "__qualname__" 328,.str "BadText" 327),(.str "__firstlineno__" 330,.int (21) 329),(.str "__static_attributes__" 331,.ref 121)]
def qjD:Obj:=Hd.oC [.str "BadText" 321,.str "BadText" 322,.str "/claim/cut.py" 323,.int (21) 0,.int (0) 0,.int (0) 0,.int (0) 0,.int (0) 0,.ref 117,.bool false,.int (181) 0,.ref 118,.none,.none,.none,.none,.int (324) 0,.int (21) 0,.str "/claim/cut.py" 325]
def qij:Obj:=⟨.type "frame",none,.plain,#[some (.ref 119),some (.ref 3),some (.ref 116),none,some (.str "bankwalk.errors" 203),none,some (.ref 0)]⟩
def qjd (P:Params):Obj:=Hd.oD P 2 [(.str "__module__" 326,.str "bankwalk.errors" 203),(.str "__firstlineno__" 330,.int (21) 329),(.str "__static_attributes__" 331,.ref 121),(.str "__doc__" 332,.none)]
def qgj:Obj:=⟨.type "type",none,.cls ({ name:=Str.ofString "BadText",bases:=[Value.ref 38],  mro:=    [Value.ref 123,Value.ref 38,Value.type "ValueError",Value.type "Exception",Value.type "BaseException",      Value.type "object"],  ns:=122,qualname:=Str.ofString "BadText" }),#[some (.ref 114),none,some (.str "BadText" 319),some (.str "BadText" 327),some (.builtin "ValueError.__new__"),some (.bool true)]⟩
def qkz:Obj:=⟨.type "super",none,.fields #[.ref 123,.ref 123,.ref 123],#[]⟩
def qhC:Obj:=⟨.type "builtin_function_or_method",none,.fields #[.builtin "object.__init_subclass__",.ref 123],#[]⟩
def qiX (P:Params):PySem.W.BT:=(Hd.nd (PySem.W.boot_o_0 P) (Hd.nd (PySem.W.boot_o_1 P) (Hd.nd (qpy P) (Hd.nd (PySem.W.boot_o_7 P) (Hd.nd qU (Hd.nd (qiT P) (Hd.lf qeV) (Hd.lf qlq)) (Hd.nd qjS (Hd.lf JX) (Hd.lf qfV))) (Hd.nd jI (Hd.nd qkU (Hd.lf qi6) (Hd.lf JX)) (Hd.nd JX (Hd.lf qfc) (Hd.lf qjD)))) (Hd.nd qU (Hd.nd qo6 (Hd.nd qlJ (Hd.lf JX) (Hd.lf qeS)) (Hd.nd qf7 (Hd.lf qjW) (Hd.lf JX))) (Hd.nd qf1 (Hd.nd JX (Hd.lf qgn) (Hd.lf qkH)) (Hd.nd qlj (Hd.lf JX) (Hd.lf qgj))))) (Hd.nd (PySem.W.boot_o_5 P) (Hd.nd (PySem.W.boot_o_9 P) (Hd.nd qoJ (Hd.nd jI (Hd.lf qi0) (Hd.lf qU)) (Hd.nd qU (Hd.lf qU) (Hd.lf qhh))) (Hd.nd qU (Hd.nd qim (Hd.lf qU) (Hd.lf qU)) (Hd.nd qU (Hd.lf qkA) (Hd.lf qU)))) (Hd.nd ql3 (Hd.nd qeH (Hd.nd (qgm P) (Hd.lf qU) (Hd.lf qia)) (Hd.nd qlT (Hd.lf qU) (Hd.lf qU))) (Hd.nd qly (Hd.nd qU (Hd.lf qjq) (Hd.lf qU)) (Hd.nd qU (Hd.lf qU) (Hd.lf qhC)))))) (Hd.nd (PySem.W.boot_o_2 P) (Hd.nd (PySem.W.boot_o_4 P) (Hd.nd (PySem.W.boot_o_8 P) (Hd.nd jI (Hd.nd qU (Hd.lf qjh) (Hd.lf qlc)) (Hd.nd qhK (Hd.lf (qkJ P)) (Hd.lf qjc))) (Hd.nd qiS (Hd.nd qj9 (Hd.lf qiJ) (Hd.lf (qjr P))) (Hd.nd (qh6 P) (Hd.lf qkC) (Hd.lf qij)))) (Hd.nd qpD (Hd.nd qmF (Hd.nd qU (Hd.lf (qks P)) (Hd.lf qgV)) (Hd.nd qla (Hd.lf qhS) (Hd.lf (qlR P)))) (Hd.nd qfy (Hd.nd (qhY P) (Hd.lf qky) (Hd.lf qlv)) (Hd.nd qgG (Hd.lf (qjV P)) (Hd.lf qkz))))) (Hd.nd (PySem.W.boot_o_6 P) (Hd.nd (PySem.W.boot_o_10 P) (Hd.nd qU (Hd.nd qka (Hd.lf YV) (Hd.lf (qkN P))) (Hd.nd (qfO P) (Hd.lf jI) (Hd.lf YV))) (Hd.nd qgX (Hd.nd YV (Hd.lf (qkG P)) (Hd.lf jI)) (Hd.nd jI (Hd.lf YV) (Hd.lf (qjd P))))) (Hd.nd ql9 (Hd.nd qU (Hd.nd qna (Hd.lf jI) (Hd.lf YV)) (Hd.nd YV (Hd.lf (qkE P)) (Hd.lf jI))) (Hd.nd JX (Hd.nd jI (Hd.lf YV) (Hd.lf (qj8 P))) (Hd.nd (qg2 P) (Hd.lf jI) .nil))))))
abbrev qdl:List Stmt:=(NT.drop 0).take 12
set_option maxRecDepth 100000 in
set_option maxHeartbeats 0 in
def qlY (w : World) (os : OsState) : PySem.W.segRunT treeTable PySem.Challenge.pw_bankwalk_k06_what_is_no_word w 11 (some (Value.ref 6)) 1 1754 (⟨qle w.params,15,{ },#[],{ },187,os⟩ : PySem.W.SharedT) (PySem.W.piecesOf qdl qiu CT ⟨0,0,0,0⟩ qkB) = some (.next,(⟨qiX w.params,126,{ },#[],{ },335,os⟩ : PySem.W.SharedT),CT,⟨21,0,22,8⟩) := by kernel_rfl
def qku (P:Params):Obj:=Hd.oD P 51 [(.str "__name__" 165,.str "law_bankwalk_k06_what_is_no_word" 534),(.str "__doc__" 166,.none),(.str "__package__" 167,.none),(.str "__loader__" 168,.builtin "__main__.__loader__#opaque"),(.str "__spec__" 169,.none),(.str "__annotations__" 170,.ref 6),(.str "__builtins__" 171,.ref 4),(.str "__file__" 173,.str "/claim/cut.py" 172),(.str "__cached__" 174,.none),(.str "is_number" 195,.ref 21),(.str "is_pair" 202,.ref 28),(.str "BankError" 222,.ref 38),(.str "NoWord" 238,.ref 51),(.str "NoStart" 254,.ref 63),(.str "NoWalk" 270,.ref 75),(.str "NoOrder" 286,.ref 87),(.str "Clash" 302,.ref 99),(.str "NotSquare" 318,.ref 111),(.str "BadText" 334,.ref 123),(.str "NoAsk" 361,.ref 142),(.str "BadRow" 386,.ref 161),(.str "size_of" 402,.ref 170),(.str "number_of" 413,.ref 177),(.str "all_words" 419,.ref 182),(.str "is_word" 430,.ref 189),(.str "odd_in_common" 440,.ref 196),(.str "bits_bank" 446,.ref 201),(.str "parted" 457,.ref 208),(.str "joined_bank" 471,.ref 215),(.str "bank_in" 480,.ref 222),(.str "refuse_no_word" 488,.ref 229),(.str "bank_of" 496,.ref 236),(.str "rests_spots" 504,.ref 241),(.str "counted_spots" 516,.ref 248),(.str "spots_of" 523,.ref 255),(.str "place_of" 533,.ref 262),(.str "_law_mix" 544,.ref 269),(.str "_law_left" 554,.ref 276),(.str "_law_pick" 563,.ref 283),(.str "_law_sides" 573,.ref 290),(.str "_law_gcd" 581,.ref 297),(.str "_law_skew" 592,.ref 304),(.str "_law_rests" 604,.ref 311),(.str "_law_bits" 610,.ref 316),(.str "_law_table" 616,.ref 321),(.str "_law_small" 622,.ref 326),(.str "_law_dealing" 632,.ref 333),(.str "_law_size" 638,.ref 338),(.str "_law_word_of" 647,.ref 345),(.str "_law_refused" 658,.ref 352),(.str "law" 676,.ref 359)]
def qop:Obj:=⟨.none,none,.fields #[.int (2) 0,.int (0) 0,.ref 20,.int (4) 0,.int (0) 0,.ref 27,.int (7) 0,.int (0) 0,.ref 34,.int (9) 0,.int (0) 0,.ref 47,.int (11) 0,.int (0) 0,.ref 59,.int (13) 0,.int (0) 0,.ref 71,.int (15) 0,.int (0) 0,.ref 83,.int (17) 0,.int (0) 0,.ref 95,.int (19) 0,.int (0) 0,.ref 107,.int (21) 0,.int (0) 0,.ref 119,.int (23) 0,.int (0) 0,.ref 131,.int (28) 0,.int (0) 0,.ref 150,.int (33) 0,.int (0) 0,.ref 169,.int (44) 0,.int (0) 0,.ref 176,.int (47) 0,.int (0) 0,.ref 181,.int (50) 0,.int (0) 0,.ref 188,.int (55) 0,.int (0) 0,.ref 195,.int (62) 0,.int (0) 0,.ref 200,.int (64) 0,.int (0) 0,.ref 207,.int (67) 0,.int (0) 0,.ref 214,.int (71) 0,.int (0) 0,.ref 221,.int (82) 0,.int (0) 0,.ref 228,.int (85) 0,.int (0) 0,.ref 235,.int (89) 0,.int (0) 0,.ref 240,.int (92) 0,.int (0) 0,.ref 247,.int (101) 0,.int (0) 0,.ref 254,.int (105) 0,.int (0) 0,.ref 261,.int (110) 0,.int (0) 0,.ref 268,.int (113) 0,.int (0) 0,.ref 275,.int (117) 0,.int (0) 0,.ref 282,.int (124) 0,.int (0) 0,.ref 289,.int (128) 0,.int (0) 0,.ref 296,.int (132) 0,.int (0) 0,.ref 303,.int (137) 0,.int (0) 0,.ref 310,.int (145) 0,.int (0) 0,.ref 315,.int (150) 0,.int (0) 0,.ref 320,.int (155) 0,.int (0) 0,.ref 325,.int (173) 0,.int (0) 0,.ref 332,.int (190) 0,.int (0) 0,.ref 337,.int (200) 0,.int (0) 0,.ref 344,.int (210) 0,.int (0) 0,.ref 351,.int (220) 0,.int (0) 0,.ref 358],#[]⟩
def qkj:Obj:=⟨.type "type",none,.cls ({ name:=Str.ofString "BankError",bases:=[Value.type "ValueError"],  mro:=    [Value.ref 38,Value.type "ValueError",Value.type "Exception",Value.type "BaseException",Value.type "object"],  ns:=37,qualname:=Str.ofString "BankError",  subclasses:=    [Value.ref 51,Value.ref 63,Value.ref 75,Value.ref 87,Value.ref 99,Value.ref 111,Value.ref 123,Value.ref 142,      Value.ref 161] }),#[some (.ref 29),none,some (.str "BankError" 205),some (.str "BankError" 213),some (.builtin "ValueError.__new__"),some (.bool true)]⟩
def qm1 (P:Params):Obj:=Hd.oD P 5 [(.str "__module__" 342,.str "bankwalk.errors" 203),(.str "__qualname__" 344,.str "NoAsk" 343),(.str "__firstlineno__" 346,.int (23) 345),(.str "__init__" 355,.ref 139),(.str "__static_attributes__" 358,.ref 140)]
def qmJ:Obj:=⟨.none,none,.fields #[.int (25) 0,.int (4) 0,.ref 138],#[]⟩
def qn9:Obj:=Hd.oC [.str "NoAsk" 337,.str "NoAsk" 338,.str "/claim/cut.py" 339,.int (23) 0,.int (0) 0,.int (0) 0,.int (0) 0,.int (0) 0,.ref 129,.bool false,.int (181) 0,.ref 130,.none,.none,.none,.none,.int (340) 0,.int (23) 0,.str "/claim/cut.py" 341]
def qn4:Obj:=⟨.type "frame",none,.plain,#[some (.ref 131),some (.ref 3),some (.ref 128),none,some (.str "bankwalk.errors" 203),none,some (.ref 0)]⟩
def qns:Obj:=Hd.oN ["self","row","at"] 350
def qoc:Obj:=⟨.none,none,.func { name:="__init__",qualname:="NoAsk.__init__",params:=jD (Hd.inC (top 12)),body:=.stmts (zk (Hd.inC (top 12))),scope:=qi (Hd.inC (top 12)),globals:=0,closure:=[],defaults:=.none,kwdefaults:=.none },#[]⟩
def qnT:Obj:=Hd.oC [.str "__init__" 347,.str "NoAsk.__init__" 348,.str "/claim/cut.py" 349,.int (25) 0,.int (3) 0,.int (0) 0,.int (0) 0,.int (3) 0,.ref 133,.bool true,.int (181) 0,.ref 134,.none,.ref 135,.ref 136,.ref 137,.int (353) 0,.int (25) 0,.str "/claim/cut.py" 354]
def qoa:Obj:=⟨.type "function",none,.func (PySem.W.fnOf "__init__" "NoAsk.__init__" (jD (Hd.inC (top 12))) (zk (Hd.inC (top 12))) (qi (Hd.inC (top 12))) .none .none .none (.str "bankwalk.errors" 203) none (.ref 138) .none),#[]⟩
def qmW:Obj:=Hd.oN ["at","row"] 356
def qnt (P:Params):Obj:=Hd.oD P 2 [(.str "__module__" 342,.str "bankwalk.errors" 203),(.str "__firstlineno__" 346,.int (23) 345),(.str "__init__" 355,.ref 139),(.str "__static_attributes__" 358,.ref 140),(.str "__doc__" 359,.none)]
def qh4:Obj:=⟨.type "type",none,.cls ({ name:=Str.ofString "NoAsk",bases:=[Value.ref 38],  mro:=    [Value.ref 142,Value.ref 38,Value.type "ValueError",Value.type "Exception",Value.type "BaseException",      Value.type "object"],  ns:=141,qualname:=Str.ofString "NoAsk" }),#[some (.ref 126),none,some (.str "NoAsk" 335),some (.str "NoAsk" 343),some (.builtin "ValueError.__new__"),some (.bool true)]⟩
def qn8:Obj:=⟨.type "super",none,.fields #[.ref 142,.ref 142,.ref 142],#[]⟩
def qnV:Obj:=⟨.type "builtin_function_or_method",none,.fields #[.builtin "object.__init_subclass__",.ref 142],#[]⟩
def qmy (P:Params):Obj:=Hd.oD P 5 [(.str "__module__" 369,.str "bankwalk.errors" 203),(.str "__qualname__" 371,.str "BadRow" 370),(.str "__firstlineno__" 373,.int (28) 372),(.str "__init__" 381,.ref 158),(.str "__static_attributes__" 383,.ref 159)]
def qm8:Obj:=⟨.none,none,.fields #[.int (30) 0,.int (4) 0,.ref 157],#[]⟩
def qmz:Obj:=Hd.oC [.str "BadRow" 364,.str "BadRow" 365,.str "/claim/cut.py" 366,.int (28) 0,.int (0) 0,.int (0) 0,.int (0) 0,.int (0) 0,.ref 148,.bool false,.int (181) 0,.ref 149,.none,.none,.none,.none,.int (367) 0,.int (28) 0,.str "/claim/cut.py" 368]
def qmP:Obj:=⟨.type "frame",none,.plain,#[some (.ref 150),some (.ref 3),some (.ref 147),none,some (.str "bankwalk.errors" 203),none,some (.ref 0)]⟩
def qmQ:Obj:=Hd.oN ["self","row"] 377
def qnY:Obj:=⟨.none,none,.func { name:="__init__",qualname:="BadRow.__init__",params:=jD (Hd.inC (top 13)),body:=.stmts (zk (Hd.inC (top 13))),scope:=qi (Hd.inC (top 13)),globals:=0,closure:=[],defaults:=.none,kwdefaults:=.none },#[]⟩
def qny:Obj:=Hd.oC [.str "__init__" 374,.str "BadRow.__init__" 375,.str "/claim/cut.py" 376,.int (30) 0,.int (2) 0,.int (0) 0,.int (0) 0,.int (3) 0,.ref 152,.bool true,.int (181) 0,.ref 153,.none,.ref 154,.ref 155,.ref 156,.int (379) 0,.int (30) 0,.str "/claim/cut.py" 380]
def qnr:Obj:=⟨.type "function",none,.func (PySem.W.fnOf "__init__" "BadRow.__init__" (jD (Hd.inC (top 13))) (zk (Hd.inC (top 13))) (qi (Hd.inC (top 13))) .none .none .none (.str "bankwalk.errors" 203) none (.ref 157) .none),#[]⟩
def qnx:Obj:=Hd.oN ["row"] 382
def qg7 (P:Params):Obj:=Hd.oD P 2 [(.str "__module__" 369,.str "bankwalk.errors" 203),(.str "__firstlineno__" 373,.int (28) 372),(.str "__init__" 381,.ref 158),(.str "__static_attributes__" 383,.ref 159),(.str "__doc__" 384,.none)]
def qdj:Obj:=⟨.type "type",none,.cls ({ name:=Str.ofString "BadRow",bases:=[Value.ref 38],  mro:=    [Value.ref 161,Value.ref 38,Value.type "ValueError",Value.type "Exception",Value.type "BaseException",      Value.type "object"],  ns:=160,qualname:=Str.ofString "BadRow" }),#[some (.ref 145),none,some (.str "BadRow" 362),some (.str "BadRow" 370),some (.builtin "ValueError.__new__"),some (.bool true)]⟩
def qjT:Obj:=⟨.type "super",none,.fields #[.ref 161,.ref 161,.ref 161],#[]⟩
def qiC:Obj:=⟨.type "builtin_function_or_method",none,.fields #[.builtin "object.__init_subclass__",.ref 161],#[]⟩
def qlo:Obj:=Hd.oN WJ 392
def qkP:Obj:=Hd.oG "size_of" ZH
def qdt:Obj:=Hd.oK "size_of" 389 33 1 181 164 165 .none (.ref 166) (.ref 167) 168 400 401
def qdm:Obj:=Hd.oF "size_of" ZH (.str "bankwalk.dealings" 387) (.ref 169)
def qlN:Obj:=Hd.oN VE 406
def qlF:Obj:=Hd.oG "number_of" jS
def qcz:Obj:=Hd.oK "number_of" 403 44 2 181 171 172 .none (.ref 173) (.ref 174) 175 411 412
def qdC:Obj:=Hd.oF "number_of" jS (.str "bankwalk.dealings" 387) (.ref 176)
def qkW:Obj:=Hd.oG "all_words" jU
def qeA:Obj:=Hd.oK "all_words" 414 47 1 181 178 179 .none .none .none 180 417 418
def qdT:Obj:=Hd.oF "all_words" jU (.str "bankwalk.dealings" 387) (.ref 181)
def qjJ:Obj:=Hd.oN J5 423
def qiq:Obj:=Hd.oG "is_word" ZN
def qd8:Obj:=Hd.oK "is_word" 420 50 2 181 183 184 .none (.ref 185) (.ref 186) 187 428 429
def qdD:Obj:=Hd.oF "is_word" ZN (.str "bankwalk.dealings" 387) (.ref 188)
def qhz:Obj:=Hd.oN QS 434
def qko:Obj:=Hd.oG "odd_in_common" zz
def qcI:Obj:=Hd.oK "odd_in_common" 431 55 2 181 190 191 .none (.ref 192) (.ref 193) 194 438 439
def qcF:Obj:=Hd.oF "odd_in_common" zz (.str "bankwalk.dealings" 387) (.ref 195)
def qlh:Obj:=Hd.oG "bits_bank" jV
def qew:Obj:=Hd.oK "bits_bank" 441 62 2 181 197 198 .none .none .none 199 444 445
def qds:Obj:=Hd.oF "bits_bank" jV (.str "bankwalk.dealings" 387) (.ref 200)
def qkg:Obj:=Hd.oN X9 450
def qkX:Obj:=Hd.oG "parted" J4
def qcK:Obj:=Hd.oK "parted" 447 64 3 181 202 203 .none (.ref 204) (.ref 205) 206 455 456
def qcw:Obj:=Hd.oF "parted" J4 (.str "bankwalk.dealings" 387) (.ref 207)
def qhf:Obj:=Hd.oN JF 461
def qhl:Obj:=Hd.oG "joined_bank" jc
def qdf:Obj:=Hd.oK "joined_bank" 458 67 3 181 209 210 .none (.ref 211) (.ref 212) 213 469 470
def qea:Obj:=Hd.oF "joined_bank" jc (.str "bankwalk.dealings" 387) (.ref 214)
def qkt:Obj:=Hd.oN DX 475
def qlr:Obj:=Hd.oG "bank_in" ZM
def qdZ:Obj:=Hd.oK "bank_in" 472 71 2 181 216 217 .none (.ref 218) (.ref 219) 220 478 479
def qep:Obj:=Hd.oF "bank_in" ZM (.str "bankwalk.dealings" 387) (.ref 221)
def qkb:Obj:=Hd.oN qO 484
def qki:Obj:=Hd.oG "refuse_no_word" qY
def qex:Obj:=Hd.oK "refuse_no_word" 481 82 2 181 223 224 .none (.ref 225) (.ref 226) 227 486 487
def qeb:Obj:=Hd.oF "refuse_no_word" qY (.str "bankwalk.dealings" 387) (.ref 228)
def qjB:Obj:=Hd.oN jQ 492
def qjz:Obj:=Hd.oG "bank_of" QH
def qcB:Obj:=Hd.oK "bank_of" 489 85 2 181 230 231 .none (.ref 232) (.ref 233) 234 494 495
def qdR:Obj:=Hd.oF "bank_of" QH (.str "bankwalk.dealings" 387) (.ref 235)
def qid:Obj:=Hd.oG "rests_spots" zW
def qcv:Obj:=Hd.oK "rests_spots" 499 89 1 181 237 238 .none .none .none 239 502 503
def qec:Obj:=Hd.oF "rests_spots" zW (.str "bankwalk.places" 497) (.ref 240)
def qkq:Obj:=Hd.oN zH 508
def qgK:Obj:=Hd.oG "counted_spots" zy
def qdu:Obj:=Hd.oK "counted_spots" 505 92 1 181 242 243 .none (.ref 244) (.ref 245) 246 514 515
def qcO:Obj:=Hd.oF "counted_spots" zy (.str "bankwalk.places" 497) (.ref 247)
def qjl:Obj:=Hd.oN ZT 520
def qhr:Obj:=Hd.oG "spots_of" QX
def qdO:Obj:=Hd.oK "spots_of" 517 101 1 181 249 250 .none (.ref 251) (.ref 252) 253 521 522
def qdM:Obj:=Hd.oF "spots_of" QX (.str "bankwalk.places" 497) (.ref 254)
def qh2:Obj:=Hd.oN jm 527
def qk0:Obj:=Hd.oG "place_of" jE
def qd3:Obj:=Hd.oK "place_of" 524 105 2 181 256 257 .none (.ref 258) (.ref 259) 260 531 532
def qef:Obj:=Hd.oF "place_of" jE (.str "bankwalk.places" 497) (.ref 261)
def qhJ:Obj:=Hd.oN DB 539
def qkY:Obj:=Hd.oG "_law_mix" ZR
def qcU:Obj:=Hd.oK "_law_mix" 536 110 2 181 263 264 .none (.ref 265) (.ref 266) 267 542 543
def qdi:Obj:=Hd.oF "_law_mix" ZR (.str "law_bankwalk_k06_what_is_no_word" 534) (.ref 268)
def qig:Obj:=Hd.oN UY 548
def qlp:Obj:=Hd.oG "_law_left" QN
def qet:Obj:=Hd.oK "_law_left" 545 113 2 181 270 271 .none (.ref 272) (.ref 273) 274 552 553
def qem:Obj:=Hd.oF "_law_left" QN (.str "law_bankwalk_k06_what_is_no_word" 534) (.ref 275)
def qiH:Obj:=Hd.oN UA 558
def qjZ:Obj:=Hd.oG "_law_pick" QQ
def qdW:Obj:=Hd.oK "_law_pick" 555 117 2 181 277 278 .none (.ref 279) (.ref 280) 281 561 562
def qdH:Obj:=Hd.oF "_law_pick" QQ (.str "law_bankwalk_k06_what_is_no_word" 534) (.ref 282)
def qln:Obj:=Hd.oN VJ 567
def qhw:Obj:=Hd.oG "_law_sides" jN
def qcJ:Obj:=Hd.oK "_law_sides" 564 124 1 181 284 285 .none (.ref 286) (.ref 287) 288 571 572
def qdF:Obj:=Hd.oF "_law_sides" jN (.str "law_bankwalk_k06_what_is_no_word" 534) (.ref 289)
def qiG:Obj:=Hd.oN DO 577
def qiI:Obj:=Hd.oG "_law_gcd" ZJ
def qeG:Obj:=Hd.oK "_law_gcd" 574 128 2 181 291 292 .none (.ref 293) (.ref 294) 295 579 580
def qcH:Obj:=Hd.oF "_law_gcd" ZJ (.str "law_bankwalk_k06_what_is_no_word" 534) (.ref 296)
def qiL:Obj:=Hd.oN UZ 585
def qiM:Obj:=Hd.oG "_law_skew" QJ
def qc4:Obj:=Hd.oK "_law_skew" 582 132 1 181 298 299 .none (.ref 300) (.ref 301) 302 590 591
def qeo:Obj:=Hd.oF "_law_skew" QJ (.str "law_bankwalk_k06_what_is_no_word" 534) (.ref 303)
def qkn:Obj:=Hd.oN VI 596
def qjO:Obj:=Hd.oG "_law_rests" jT
def qcM:Obj:=Hd.oK "_law_rests" 593 137 1 181 305 306 .none (.ref 307) (.ref 308) 309 602 603
def qeh:Obj:=Hd.oF "_law_rests" jT (.str "law_bankwalk_k06_what_is_no_word" 534) (.ref 310)
def qhU:Obj:=Hd.oG "_law_bits" QU
def qer:Obj:=Hd.oK "_law_bits" 605 145 2 181 312 313 .none .none .none 314 608 609
def qdV:Obj:=Hd.oF "_law_bits" QU (.str "law_bankwalk_k06_what_is_no_word" 534) (.ref 315)
def qk5:Obj:=Hd.oG "_law_table" jX
def qeC:Obj:=Hd.oK "_law_table" 611 150 1 181 317 318 .none .none .none 319 614 615
def qdA:Obj:=Hd.oF "_law_table" jX (.str "law_bankwalk_k06_what_is_no_word" 534) (.ref 320)
def qjp:Obj:=Hd.oG "_law_small" jP
def qeq:Obj:=Hd.oK "_law_small" 617 155 1 181 322 323 .none .none .none 324 620 621
def qdo:Obj:=Hd.oF "_law_small" jP (.str "law_bankwalk_k06_what_is_no_word" 534) (.ref 325)
def qj5:Obj:=Hd.oN Z4 626
def qih:Obj:=Hd.oG "_law_dealing" jd
def qeg:Obj:=Hd.oK "_law_dealing" 623 173 1 181 327 328 .none (.ref 329) (.ref 330) 331 630 631
def qdd:Obj:=Hd.oF "_law_dealing" jd (.str "law_bankwalk_k06_what_is_no_word" 534) (.ref 332)
def qiz:Obj:=Hd.oG "_law_size" QL
def qdY:Obj:=Hd.oK "_law_size" 633 190 1 181 334 335 .none .none .none 336 636 637
def qee:Obj:=Hd.oF "_law_size" QL (.str "law_bankwalk_k06_what_is_no_word" 534) (.ref 337)
def qjs:Obj:=Hd.oN j8 642
def qgZ:Obj:=Hd.oG "_law_word_of" ja
def qc5:Obj:=Hd.oK "_law_word_of" 639 200 1 181 339 340 .none (.ref 341) (.ref 342) 343 645 646
def qdy:Obj:=Hd.oF "_law_word_of" ja (.str "law_bankwalk_k06_what_is_no_word" 534) (.ref 344)
def qjA:Obj:=Hd.oN QB 651
def qiy:Obj:=Hd.oG "_law_refused" zV
def qd2:Obj:=Hd.oK "_law_refused" 648 210 3 181 346 347 .none (.ref 348) (.ref 349) 350 656 657
def qeB:Obj:=Hd.oF "_law_refused" zV (.str "law_bankwalk_k06_what_is_no_word" 534) (.ref 351)
def qio:Obj:=Hd.oN qa1 662
def qiW:Obj:=Hd.oG "law" J8
def qcS:Obj:=Hd.oK "law" 659 220 1 181 353 354 .none (.ref 355) (.ref 356) 357 674 675
def qc1:Obj:=Hd.oF "law" J8 (.str "law_bankwalk_k06_what_is_no_word" 534) (.ref 358)
def qfg (P:Params):PySem.W.BT:=(Hd.nd (PySem.W.boot_o_0 P) (Hd.nd (PySem.W.boot_o_1 P) (Hd.nd (qku P) (Hd.nd (PySem.W.boot_o_7 P) (Hd.nd qU (Hd.nd (qiT P) (Hd.nd qeV (Hd.nd JX (Hd.lf qdM) .nil) (Hd.nd jI (Hd.lf qk5) .nil)) (Hd.nd qlq (Hd.nd qnx (Hd.lf qU) .nil) (Hd.nd qU (Hd.lf qd2) .nil))) (Hd.nd qjS (Hd.nd JX (Hd.nd qn8 (Hd.lf jI) .nil) (Hd.nd qcK (Hd.lf jI) .nil)) (Hd.nd qfV (Hd.nd qlF (Hd.lf qc4) .nil) (Hd.lf qid)))) (Hd.nd jI (Hd.nd qkU (Hd.nd qi6 (Hd.nd qns (Hd.lf qU) .nil) (Hd.nd qlh (Hd.lf qU) .nil)) (Hd.nd JX (Hd.nd qU (Hd.lf qiI) .nil) (Hd.nd jI (Hd.lf qc1) .nil))) (Hd.nd JX (Hd.nd qfc (Hd.nd qmP (Hd.lf qiH) .nil) (Hd.nd qea (Hd.lf qgZ) .nil)) (Hd.nd qjD (Hd.nd qU (Hd.lf qeh) .nil) (Hd.lf qdu))))) (Hd.nd qU (Hd.nd qo6 (Hd.nd qlJ (Hd.nd JX (Hd.nd qn9 (Hd.lf qU) .nil) (Hd.nd qcI (Hd.lf jI) .nil)) (Hd.nd qeS (Hd.nd qiC (Hd.lf qU) .nil) (Hd.nd qki (Hd.lf qio) .nil))) (Hd.nd qf7 (Hd.nd qjW (Hd.nd (qmy P) (Hd.lf qet) .nil) (Hd.nd qhf (Hd.lf qU) .nil)) (Hd.nd JX (Hd.nd jI (Hd.lf qkn) .nil) (Hd.lf jI)))) (Hd.nd qf1 (Hd.nd JX (Hd.nd qgn (Hd.nd qoa (Hd.lf qkY) .nil) (Hd.nd jI (Hd.lf qih) .nil)) (Hd.nd qkH (Hd.nd qU (Hd.lf jI) .nil) (Hd.lf qcB))) (Hd.nd qlj (Hd.nd JX (Hd.nd qU (Hd.lf qdH) .nil) (Hd.nd qU (Hd.lf jI) .nil)) (Hd.nd qgj (Hd.nd qiq (Hd.lf qer) .nil) (Hd.lf qjl)))))) (Hd.nd (PySem.W.boot_o_5 P) (Hd.nd (PySem.W.boot_o_9 P) (Hd.nd qoJ (Hd.nd jI (Hd.nd qi0 (Hd.nd qU (Hd.lf jI) .nil) (Hd.nd qU (Hd.lf qdA) .nil)) (Hd.nd qU (Hd.nd qdj (Hd.lf qcJ) .nil) (Hd.nd qkb (Hd.lf qU) .nil))) (Hd.nd qU (Hd.nd qU (Hd.nd YV (Hd.lf qU) .nil) (Hd.nd qU (Hd.lf qdY) .nil)) (Hd.nd qhh (Hd.nd qdC (Hd.lf qU) .nil) (Hd.lf qec)))) (Hd.nd qU (Hd.nd qim (Hd.nd qU (Hd.nd qoc (Hd.lf qhJ) .nil) (Hd.nd qds (Hd.lf qj5) .nil)) (Hd.nd qU (Hd.nd qdt (Hd.lf qcH) .nil) (Hd.lf qU))) (Hd.nd qU (Hd.nd qkA (Hd.nd jI (Hd.lf qjZ) .nil) (Hd.nd jI (Hd.lf qdy) .nil)) (Hd.nd qU (Hd.nd qjJ (Hd.lf jI) .nil) (Hd.lf qU))))) (Hd.nd ql3 (Hd.nd qeH (Hd.nd (qgm P) (Hd.nd qU (Hd.nd qU (Hd.lf qd3) .nil) (Hd.nd qU (Hd.lf qeq) .nil)) (Hd.nd qia (Hd.nd jI (Hd.lf qiG) .nil) (Hd.nd qeb (Hd.lf qiW) .nil))) (Hd.nd qlT (Hd.nd qU (Hd.nd qm8 (Hd.lf qU) .nil) (Hd.nd qhl (Hd.lf qjs) .nil)) (Hd.nd qU (Hd.nd qeA (Hd.lf qjO) .nil) (Hd.lf qU)))) (Hd.nd qly (Hd.nd qU (Hd.nd qjq (Hd.nd (qnt P) (Hd.lf qdi) .nil) (Hd.nd qU (Hd.lf qdd) .nil)) (Hd.nd qU (Hd.nd qlN (Hd.lf qU) .nil) (Hd.lf qU))) (Hd.nd qU (Hd.nd qU (Hd.nd qny (Hd.lf jI) .nil) (Hd.nd qdZ (Hd.lf qU) .nil)) (Hd.nd qhC (Hd.nd qdD (Hd.lf qU) .nil) (Hd.lf qhr))))))) (Hd.nd (PySem.W.boot_o_2 P) (Hd.nd (PySem.W.boot_o_4 P) (Hd.nd (PySem.W.boot_o_8 P) (Hd.nd jI (Hd.nd qU (Hd.nd qjh (Hd.nd (qm1 P) (Hd.lf qU) .nil) (Hd.nd qhz (Hd.lf qeC) .nil)) (Hd.nd qlc (Hd.nd (qg7 P) (Hd.lf qhw) .nil) (Hd.nd jI (Hd.lf qeB) .nil))) (Hd.nd qhK (Hd.nd (qkJ P) (Hd.nd qnV (Hd.lf qig) .nil) (Hd.nd qcw (Hd.lf qiz) .nil)) (Hd.nd qjc (Hd.nd qcz (Hd.lf qeo) .nil) (Hd.lf qcv)))) (Hd.nd qiS (Hd.nd qj9 (Hd.nd qiJ (Hd.nd qU (Hd.lf jI) .nil) (Hd.nd qew (Hd.lf jI) .nil)) (Hd.nd (qjr P) (Hd.nd qkP (Hd.lf qeG) .nil) (Hd.lf qjB))) (Hd.nd (qh6 P) (Hd.nd qkC (Hd.nd qU (Hd.lf qU) .nil) (Hd.nd qU (Hd.lf qc5) .nil)) (Hd.nd qij (Hd.nd jI (Hd.lf qU) .nil) (Hd.lf qcO))))) (Hd.nd qop (Hd.nd qmF (Hd.nd qU (Hd.nd (qks P) (Hd.nd qn4 (Hd.lf qk0) .nil) (Hd.nd qcF (Hd.lf qjp) .nil)) (Hd.nd qgV (Hd.nd qU (Hd.lf jI) .nil) (Hd.nd qex (Hd.lf qU) .nil))) (Hd.nd qla (Hd.nd qhS (Hd.nd qU (Hd.lf qem) .nil) (Hd.nd qU (Hd.lf jI) .nil)) (Hd.nd (qlR P) (Hd.nd qkW (Hd.lf qU) .nil) (Hd.lf qkq)))) (Hd.nd qfy (Hd.nd (qhY P) (Hd.nd qky (Hd.nd qmW (Hd.lf qcU) .nil) (Hd.nd qkg (Hd.lf qeg) .nil)) (Hd.nd qlv (Hd.nd jI (Hd.lf qiL) .nil) (Hd.lf qdR))) (Hd.nd qgG (Hd.nd (qjV P) (Hd.nd qnY (Hd.lf qU) .nil) (Hd.nd qlr (Hd.lf qjA) .nil)) (Hd.nd qkz (Hd.nd qd8 (Hd.lf qdV) .nil) (Hd.lf qU)))))) (Hd.nd (PySem.W.boot_o_6 P) (Hd.nd (PySem.W.boot_o_10 P) (Hd.nd qU (Hd.nd qka (Hd.nd YV (Hd.nd qmJ (Hd.lf qh2) .nil) (Hd.nd qko (Hd.lf qU) .nil)) (Hd.nd (qkN P) (Hd.nd qjT (Hd.lf qdF) .nil) (Hd.nd qU (Hd.lf jI) .nil))) (Hd.nd (qfO P) (Hd.nd jI (Hd.nd JX (Hd.lf qlp) .nil) (Hd.nd jI (Hd.lf qee) .nil)) (Hd.nd YV (Hd.nd qU (Hd.lf jI) .nil) (Hd.lf qU)))) (Hd.nd qgX (Hd.nd YV (Hd.nd (qkG P) (Hd.nd qnT (Hd.lf qU) .nil) (Hd.nd qU (Hd.lf qU) .nil)) (Hd.nd jI (Hd.nd qdm (Hd.lf qU) .nil) (Hd.lf qjz))) (Hd.nd jI (Hd.nd YV (Hd.nd qmQ (Hd.lf qdW) .nil) (Hd.nd qkt (Hd.lf qU) .nil)) (Hd.nd (qjd P) (Hd.nd qU (Hd.lf qhU) .nil) (Hd.lf jI))))) (Hd.nd ql9 (Hd.nd qU (Hd.nd qkj (Hd.nd jI (Hd.nd jI (Hd.lf qef) .nil) (Hd.nd jI (Hd.lf qdo) .nil)) (Hd.nd YV (Hd.nd qlo (Hd.lf qU) .nil) (Hd.nd qU (Hd.lf qcS) .nil))) (Hd.nd YV (Hd.nd (qkE P) (Hd.nd qmz (Hd.lf jI) .nil) (Hd.nd qdf (Hd.lf qU) .nil)) (Hd.nd jI (Hd.nd qdT (Hd.lf qcM) .nil) (Hd.lf qgK)))) (Hd.nd JX (Hd.nd jI (Hd.nd YV (Hd.nd qh4 (Hd.lf qU) .nil) (Hd.nd qkX (Hd.lf qU) .nil)) (Hd.nd (qj8 P) (Hd.nd qU (Hd.lf qiM) .nil) (Hd.lf jI))) (Hd.nd (qg2 P) (Hd.nd jI (Hd.nd qnr (Hd.lf qln) .nil) (Hd.nd qep (Hd.lf qiy) .nil)) (Hd.nd YV (Hd.nd qU (Hd.lf jI) .nil) (Hd.lf qdO))))))))
abbrev qcx:List Stmt:=(NT.drop 12).take 35
set_option maxRecDepth 100000 in
set_option maxHeartbeats 0 in
def qgT (w : World) (os : OsState) : PySem.W.segRunT treeTable PySem.Challenge.pw_bankwalk_k06_what_is_no_word w 11 (some (Value.ref 6)) 1 1450 (⟨qiX w.params,126,{ },#[],{ },335,os⟩ : PySem.W.SharedT) (PySem.W.piecesOf qcx qiu CT ⟨21,0,22,8⟩ qkB) = some (.next,(⟨qfg w.params,360,{ },#[],{ },677,os⟩ : PySem.W.SharedT),CT,⟨220,0,236,15⟩) := by kernel_rfl
abbrev qe3 (P:Params):Heap:=PySem.W.absHeap (qfg P) 360 { }
def Kf (P:Params):PySem.W.Frag:=[(3,qku P),(20,qmF),(21,qeH),(27,qf1),(28,qfy),(37,qgm P),(38,qkj),(50,qfO P),(51,qf7),(63,qeV),(75,qgn),(87,qfc),(99,qeS),(111,qfV),(123,qgj),(142,qh4),(161,qdj),(169,qdt),(170,qdm),(176,qcz),(177,qdC),(181,qeA),(182,qdT),(188,qd8),(189,qdD),(195,qcI),(196,qcF),(200,qew),(201,qds),(207,qcK),(208,qcw),(214,qdf),(215,qea),(221,qdZ),(222,qep),(228,qex),(229,qeb),(235,qcB),(236,qdR),(240,qcv),(241,qec),(247,qdu),(248,qcO),(254,qdO),(255,qdM),(261,qd3),(262,qef),(268,qcU),(269,qdi),(275,qet),(276,qem),(282,qdW),(283,qdH),(289,qcJ),(290,qdF),(296,qeG),(297,qcH),(303,qc4),(304,qeo),(310,qcM),(311,qeh),(315,qer),(316,qdV),(320,qeC),(321,qdA),(325,qeq),(326,qdo),(332,qeg),(333,qdd),(337,qdY),(338,qee),(344,qc5),(345,qdy),(351,qd2),(352,qeB),(358,qcS),(359,qc1)]
def qis {l:PySem.W.OpenLaw} {w:World} {h:Heap} {mg:Str->Option Value} {fa:Addr} (X:(Kf w.params).In h) (G:h.Ns mainGlobals mg) (hfa:mg "law" = some (.ref fa)) :
  ∃ fd:FuncData,(∀ (s:Shared) (v:Value),BindsTo s fd ⟨[v],[]⟩ [("_law_script",v)])/\∀ base:Heap,(Kf w.params).In base->base.Ns mainGlobals mg->FnOk l.prog w (Kf w.params) mg base CX0 12 fa fd ["_law_script"] (lSp (Kf w.params) XJ):=by
 have e:=hfa.symm.trans (Hd.zj X G "law" (.ref 359) (by kernel_rfl));cases e;have F0:=Hd.z9 (K:=Kf w.params) "is_number" jW 21 (.str "bankwalk.basics" 187) (.ref 20) (by kernel_rfl) (by kernel_rfl) (by kernel_rfl);have b0:=F0.binds (ps:=VF) λ_ _ _ _ _ _ us hl=>by obtain ⟨_,rfl⟩:=Pu.SM hl;rfl
 have m0:=Hd.zj X G "is_number" (.ref 21) (by kernel_rfl);have F1:=Hd.z9 (K:=Kf w.params) "is_pair" ZO 28 (.str "bankwalk.basics" 187) (.ref 27) (by kernel_rfl) (by kernel_rfl) (by kernel_rfl);have b1:=F1.binds (ps:=DH) λ_ _ _ _ _ _ us hl=>by obtain ⟨_,rfl⟩:=Pu.SM hl;rfl
 have m1:=Hd.zj X G "is_pair" (.ref 28) (by kernel_rfl);have F2:=Hd.z9 (K:=Kf w.params) "size_of" ZH 170 (.str "bankwalk.dealings" 387) (.ref 169) (by kernel_rfl) (by kernel_rfl) (by kernel_rfl);have b2:=F2.binds (ps:=WD) λ_ _ _ _ _ _ us hl=>by obtain ⟨_,rfl⟩:=Pu.SM hl;rfl
 have m2:=Hd.zj X G "size_of" (.ref 170) (by kernel_rfl);have F3:=Hd.z9 (K:=Kf w.params) "number_of" jS 177 (.str "bankwalk.dealings" 387) (.ref 176) (by kernel_rfl) (by kernel_rfl) (by kernel_rfl);have b3:=F3.binds (ps:=VC) λ_ _ _ _ _ _ us hl=>by obtain ⟨_,_,rfl⟩:=Pu.KR hl;rfl
 have m3:=Hd.zj X G "number_of" (.ref 177) (by kernel_rfl);have F4:=Hd.z9 (K:=Kf w.params) "all_words" jU 182 (.str "bankwalk.dealings" 387) (.ref 181) (by kernel_rfl) (by kernel_rfl) (by kernel_rfl);have b4:=F4.binds (ps:=VL) λ_ _ _ _ _ _ us hl=>by obtain ⟨_,rfl⟩:=Pu.SM hl;rfl
 have m4:=Hd.zj X G "all_words" (.ref 182) (by kernel_rfl);have F5:=Hd.z9 (K:=Kf w.params) "is_word" ZN 189 (.str "bankwalk.dealings" 387) (.ref 188) (by kernel_rfl) (by kernel_rfl) (by kernel_rfl);have b5:=F5.binds (ps:=WI) λ_ _ _ _ _ _ us hl=>by obtain ⟨_,_,rfl⟩:=Pu.KR hl;rfl
 have m5:=Hd.zj X G "is_word" (.ref 189) (by kernel_rfl);have F6:=Hd.z9 (K:=Kf w.params) "odd_in_common" zz 196 (.str "bankwalk.dealings" 387) (.ref 195) (by kernel_rfl) (by kernel_rfl) (by kernel_rfl);have b6:=F6.binds (ps:=QP) λ_ _ _ _ _ _ us hl=>by obtain ⟨_,_,rfl⟩:=Pu.KR hl;rfl
 have m6:=Hd.zj X G "odd_in_common" (.ref 196) (by kernel_rfl);have F7:=Hd.z9 (K:=Kf w.params) "bits_bank" jV 201 (.str "bankwalk.dealings" 387) (.ref 200) (by kernel_rfl) (by kernel_rfl) (by kernel_rfl);have b7:=F7.binds (ps:=VB) λ_ _ _ _ _ _ us hl=>by obtain ⟨_,_,rfl⟩:=Pu.KR hl;rfl
 have m7:=Hd.zj X G "bits_bank" (.ref 201) (by kernel_rfl);have F8:=Hd.z9 (K:=Kf w.params) "parted" J4 208 (.str "bankwalk.dealings" 387) (.ref 207) (by kernel_rfl) (by kernel_rfl) (by kernel_rfl);have b8:=F8.binds (ps:=CO) λ_ _ _ _ _ _ us hl=>by obtain ⟨_,_,_,rfl⟩:=Pu.qmO hl;rfl
 have m8:=Hd.zj X G "parted" (.ref 208) (by kernel_rfl);have F9:=Hd.z9 (K:=Kf w.params) "joined_bank" jc 215 (.str "bankwalk.dealings" 387) (.ref 214) (by kernel_rfl) (by kernel_rfl) (by kernel_rfl);have b9:=F9.binds (ps:=JH) λ_ _ _ _ _ _ us hl=>by obtain ⟨_,_,_,rfl⟩:=Pu.qmO hl;rfl
 have m9:=Hd.zj X G "joined_bank" (.ref 215) (by kernel_rfl);have F10:=Hd.z9 (K:=Kf w.params) "bank_in" ZM 222 (.str "bankwalk.dealings" 387) (.ref 221) (by kernel_rfl) (by kernel_rfl) (by kernel_rfl);have b10:=F10.binds (ps:=D8) λ_ _ _ _ _ _ us hl=>by obtain ⟨_,_,rfl⟩:=Pu.KR hl;rfl
 have m10:=Hd.zj X G "bank_in" (.ref 222) (by kernel_rfl);have F11:=Hd.z9 (K:=Kf w.params) "refuse_no_word" qY 229 (.str "bankwalk.dealings" 387) (.ref 228) (by kernel_rfl) (by kernel_rfl) (by kernel_rfl);have b11:=F11.binds (ps:=jf) λ_ _ _ _ _ _ us hl=>by obtain ⟨_,_,rfl⟩:=Pu.KR hl;rfl
 have m11:=Hd.zj X G "refuse_no_word" (.ref 229) (by kernel_rfl);have F12:=Hd.z9 (K:=Kf w.params) "bank_of" QH 236 (.str "bankwalk.dealings" 387) (.ref 235) (by kernel_rfl) (by kernel_rfl) (by kernel_rfl);have b12:=F12.binds (ps:=VW) λ_ _ _ _ _ _ us hl=>by obtain ⟨_,_,rfl⟩:=Pu.KR hl;rfl
 have m12:=Hd.zj X G "bank_of" (.ref 236) (by kernel_rfl);have F13:=Hd.z9 (K:=Kf w.params) "rests_spots" zW 241 (.str "bankwalk.places" 497) (.ref 240) (by kernel_rfl) (by kernel_rfl) (by kernel_rfl);have b13:=F13.binds (ps:=JK) λ_ _ _ _ _ _ us hl=>by obtain ⟨_,rfl⟩:=Pu.SM hl;rfl
 have m13:=Hd.zj X G "rests_spots" (.ref 241) (by kernel_rfl);have F14:=Hd.z9 (K:=Kf w.params) "counted_spots" zy 248 (.str "bankwalk.places" 497) (.ref 247) (by kernel_rfl) (by kernel_rfl) (by kernel_rfl);have b14:=F14.binds (ps:=QT) λ_ _ _ _ _ _ us hl=>by obtain ⟨_,rfl⟩:=Pu.SM hl;rfl
 have m14:=Hd.zj X G "counted_spots" (.ref 248) (by kernel_rfl);have F15:=Hd.z9 (K:=Kf w.params) "spots_of" QX 255 (.str "bankwalk.places" 497) (.ref 254) (by kernel_rfl) (by kernel_rfl) (by kernel_rfl);have b15:=F15.binds (ps:=UG) λ_ _ _ _ _ _ us hl=>by obtain ⟨_,rfl⟩:=Pu.SM hl;rfl
 have m15:=Hd.zj X G "spots_of" (.ref 255) (by kernel_rfl);have F16:=Hd.z9 (K:=Kf w.params) "place_of" jE 262 (.str "bankwalk.places" 497) (.ref 261) (by kernel_rfl) (by kernel_rfl) (by kernel_rfl);have b16:=F16.binds (ps:=YU) λ_ _ _ _ _ _ us hl=>by obtain ⟨_,_,rfl⟩:=Pu.KR hl;rfl
 have m16:=Hd.zj X G "place_of" (.ref 262) (by kernel_rfl);have F17:=Hd.z9 (K:=Kf w.params) "_law_mix" ZR 269 (.str "law_bankwalk_k06_what_is_no_word" 534) (.ref 268) (by kernel_rfl) (by kernel_rfl) (by kernel_rfl);have b17:=F17.binds (ps:=WA) λ_ _ _ _ _ _ us hl=>by obtain ⟨_,_,rfl⟩:=Pu.KR hl;rfl
 have m17:=Hd.zj X G "_law_mix" (.ref 269) (by kernel_rfl);have F18:=Hd.z9 (K:=Kf w.params) "_law_left" QN 276 (.str "law_bankwalk_k06_what_is_no_word" 534) (.ref 275) (by kernel_rfl) (by kernel_rfl) (by kernel_rfl);have b18:=F18.binds (ps:=UM) λ_ _ _ _ _ _ us hl=>by obtain ⟨_,_,rfl⟩:=Pu.KR hl;rfl
 have m18:=Hd.zj X G "_law_left" (.ref 276) (by kernel_rfl);have F19:=Hd.z9 (K:=Kf w.params) "_law_pick" QQ 283 (.str "law_bankwalk_k06_what_is_no_word" 534) (.ref 282) (by kernel_rfl) (by kernel_rfl) (by kernel_rfl);have b19:=F19.binds (ps:=U0) λ_ _ _ _ _ _ us hl=>by obtain ⟨_,_,rfl⟩:=Pu.KR hl;rfl
 have m19:=Hd.zj X G "_law_pick" (.ref 283) (by kernel_rfl);have F20:=Hd.z9 (K:=Kf w.params) "_law_sides" jN 290 (.str "law_bankwalk_k06_what_is_no_word" 534) (.ref 289) (by kernel_rfl) (by kernel_rfl) (by kernel_rfl);have b20:=F20.binds (ps:=Y8) λ_ _ _ _ _ _ us hl=>by obtain ⟨_,rfl⟩:=Pu.SM hl;rfl
 have m20:=Hd.zj X G "_law_sides" (.ref 290) (by kernel_rfl);have F21:=Hd.z9 (K:=Kf w.params) "_law_gcd" ZJ 297 (.str "law_bankwalk_k06_what_is_no_word" 534) (.ref 296) (by kernel_rfl) (by kernel_rfl) (by kernel_rfl);have b21:=F21.binds (ps:=D7) λ_ _ _ _ _ _ us hl=>by obtain ⟨_,_,rfl⟩:=Pu.KR hl;rfl
 have m21:=Hd.zj X G "_law_gcd" (.ref 297) (by kernel_rfl);have F22:=Hd.z9 (K:=Kf w.params) "_law_skew" QJ 304 (.str "law_bankwalk_k06_what_is_no_word" 534) (.ref 303) (by kernel_rfl) (by kernel_rfl) (by kernel_rfl);have b22:=F22.binds (ps:=UX) λ_ _ _ _ _ _ us hl=>by obtain ⟨_,rfl⟩:=Pu.SM hl;rfl
 have m22:=Hd.zj X G "_law_skew" (.ref 304) (by kernel_rfl);have F23:=Hd.z9 (K:=Kf w.params) "_law_rests" jT 311 (.str "law_bankwalk_k06_what_is_no_word" 534) (.ref 310) (by kernel_rfl) (by kernel_rfl) (by kernel_rfl);have b23:=F23.binds (ps:=VM) λ_ _ _ _ _ _ us hl=>by obtain ⟨_,rfl⟩:=Pu.SM hl;rfl
 have m23:=Hd.zj X G "_law_rests" (.ref 311) (by kernel_rfl);have F24:=Hd.z9 (K:=Kf w.params) "_law_bits" QU 316 (.str "law_bankwalk_k06_what_is_no_word" 534) (.ref 315) (by kernel_rfl) (by kernel_rfl) (by kernel_rfl);have b24:=F24.binds (ps:=UH) λ_ _ _ _ _ _ us hl=>by obtain ⟨_,_,rfl⟩:=Pu.KR hl;rfl
 have m24:=Hd.zj X G "_law_bits" (.ref 316) (by kernel_rfl);have F25:=Hd.z9 (K:=Kf w.params) "_law_table" jX 321 (.str "law_bankwalk_k06_what_is_no_word" 534) (.ref 320) (by kernel_rfl) (by kernel_rfl) (by kernel_rfl);have b25:=F25.binds (ps:=VD) λ_ _ _ _ _ _ us hl=>by obtain ⟨_,rfl⟩:=Pu.SM hl;rfl
 have m25:=Hd.zj X G "_law_table" (.ref 321) (by kernel_rfl);have F26:=Hd.z9 (K:=Kf w.params) "_law_small" jP 326 (.str "law_bankwalk_k06_what_is_no_word" 534) (.ref 325) (by kernel_rfl) (by kernel_rfl) (by kernel_rfl);have b26:=F26.binds (ps:=VN) λ_ _ _ _ _ _ us hl=>by obtain ⟨_,rfl⟩:=Pu.SM hl;rfl
 have m26:=Hd.zj X G "_law_small" (.ref 326) (by kernel_rfl);have F27:=Hd.z9 (K:=Kf w.params) "_law_dealing" jd 333 (.str "law_bankwalk_k06_what_is_no_word" 534) (.ref 332) (by kernel_rfl) (by kernel_rfl) (by kernel_rfl);have b27:=F27.binds (ps:=JD) λ_ _ _ _ _ _ us hl=>by obtain ⟨_,rfl⟩:=Pu.SM hl;rfl
 have m27:=Hd.zj X G "_law_dealing" (.ref 333) (by kernel_rfl);have F28:=Hd.z9 (K:=Kf w.params) "_law_size" QL 338 (.str "law_bankwalk_k06_what_is_no_word" 534) (.ref 337) (by kernel_rfl) (by kernel_rfl) (by kernel_rfl);have b28:=F28.binds (ps:=UI) λ_ _ _ _ _ _ us hl=>by obtain ⟨_,rfl⟩:=Pu.SM hl;rfl
 have m28:=Hd.zj X G "_law_size" (.ref 338) (by kernel_rfl);have F29:=Hd.z9 (K:=Kf w.params) "_law_word_of" ja 345 (.str "law_bankwalk_k06_what_is_no_word" 534) (.ref 344) (by kernel_rfl) (by kernel_rfl) (by kernel_rfl);have b29:=F29.binds (ps:=JI) λ_ _ _ _ _ _ us hl=>by obtain ⟨_,rfl⟩:=Pu.SM hl;rfl
 have m29:=Hd.zj X G "_law_word_of" (.ref 345) (by kernel_rfl);have F30:=Hd.z9 (K:=Kf w.params) "_law_refused" zV 352 (.str "law_bankwalk_k06_what_is_no_word" 534) (.ref 351) (by kernel_rfl) (by kernel_rfl) (by kernel_rfl);have b30:=F30.binds (ps:=Z5) λ_ _ _ _ _ _ us hl=>by obtain ⟨_,_,_,rfl⟩:=Pu.qmO hl;rfl
 have m30:=Hd.zj X G "_law_refused" (.ref 352) (by kernel_rfl);have F31:=Hd.z9 (K:=Kf w.params) "law" J8 359 (.str "law_bankwalk_k06_what_is_no_word" 534) (.ref 358) (by kernel_rfl) (by kernel_rfl) (by kernel_rfl);have k_51:ExK (Kf w.params) 51:=⟨by kernel_rfl,by kernel_rfl,by kernel_rfl,by kernel_rfl,by kernel_rfl,by kernel_rfl⟩
 have g_isinstance:=Hd.ER X G "isinstance" (by kernel_rfl);have g_bool:=Hd.ER X G "bool" (by kernel_rfl);have g_int:=Hd.ER X G "int" (by kernel_rfl);have g_len:=Hd.ER X G "len" (by kernel_rfl);have g_tuple:=Hd.ER X G "tuple" (by kernel_rfl);have g_range:=Hd.ER X G "range" (by kernel_rfl);have g_enumerate:=Hd.ER X G "enumerate" (by kernel_rfl);have g_sum:=Hd.ER X G "sum" (by kernel_rfl);have g_abs:=Hd.ER X G "abs" (by kernel_rfl);have g_zip:=Hd.ER X G "zip" (by kernel_rfl);have g_cls_NoWord:=Hd.zj X G "NoWord" (.ref 51) (by kernel_rfl);have g_xd_0:XD (Kf w.params) [.ref 51] [(none,false),(some 51,true)]:=XD.cons (λ_ z=>nomatch z) (by kernel_rfl) (XD.cons (λ_ z=>by cases z;exact k_51) (by kernel_rfl) XD.nil);have g_cls_NoStart:=Hd.zj X G "NoStart" (.ref 63) (by kernel_rfl);have g_xd_1:XD (Kf w.params) [.ref 63] [(none,false),(some 51,false)]:=XD.cons (λ_ z=>nomatch z) (by kernel_rfl) (XD.cons (λ_ z=>by cases z;exact k_51) (by kernel_rfl) XD.nil);have g_cls_NoWalk:=Hd.zj X G "NoWalk" (.ref 75) (by kernel_rfl);have g_xd_2:XD (Kf w.params) [.ref 75] [(none,false),(some 51,false)]:=XD.cons (λ_ z=>nomatch z) (by kernel_rfl) (XD.cons (λ_ z=>by cases z;exact k_51) (by kernel_rfl) XD.nil);have g_cls_NoOrder:=Hd.zj X G "NoOrder" (.ref 87) (by kernel_rfl);have g_xd_3:XD (Kf w.params) [.ref 87] [(none,false),(some 51,false)]:=XD.cons (λ_ z=>nomatch z) (by kernel_rfl) (XD.cons (λ_ z=>by cases z;exact k_51) (by kernel_rfl) XD.nil);have g_cls_Clash:=Hd.zj X G "Clash" (.ref 99) (by kernel_rfl);have g_xd_4:XD (Kf w.params) [.ref 99] [(none,false),(some 51,false)]:=XD.cons (λ_ z=>nomatch z) (by kernel_rfl) (XD.cons (λ_ z=>by cases z;exact k_51) (by kernel_rfl) XD.nil);have g_cls_NotSquare:=Hd.zj X G "NotSquare" (.ref 111) (by kernel_rfl);have g_xd_5:XD (Kf w.params) [.ref 111] [(none,false),(some 51,false)]:=XD.cons (λ_ z=>nomatch z) (by kernel_rfl) (XD.cons (λ_ z=>by cases z;exact k_51) (by kernel_rfl) XD.nil);have g_cls_NoAsk:=Hd.zj X G "NoAsk" (.ref 142) (by kernel_rfl);have g_xd_6:XD (Kf w.params) [.ref 142] [(none,false),(some 51,false)]:=XD.cons (λ_ z=>nomatch z) (by kernel_rfl) (XD.cons (λ_ z=>by cases z;exact k_51) (by kernel_rfl) XD.nil);have g_cls_BadText:=Hd.zj X G "BadText" (.ref 123) (by kernel_rfl);have g_xd_7:XD (Kf w.params) [.ref 123] [(none,false),(some 51,false)]:=XD.cons (λ_ z=>nomatch z) (by kernel_rfl) (XD.cons (λ_ z=>by cases z;exact k_51) (by kernel_rfl) XD.nil);have g_cls_BadRow:=Hd.zj X G "BadRow" (.ref 161) (by kernel_rfl);have g_xd_8:XD (Kf w.params) [.ref 161] [(none,false),(some 51,false)]:=XD.cons (λ_ z=>nomatch z) (by kernel_rfl) (XD.cons (λ_ z=>by cases z;exact k_51) (by kernel_rfl) XD.nil);have g_ValueError:=Hd.ER X G "ValueError" (by kernel_rfl);have g_xd_9:XD (Kf w.params) [.type "ValueError"] [(none,false),(some 51,true)]:=XD.cons (λ_ z=>nomatch z) (by kernel_rfl) (XD.cons (λ_ z=>by cases z;exact k_51) (by kernel_rfl) XD.nil);have g_cls_BankError:=Hd.zj X G "BankError" (.ref 38) (by kernel_rfl);have g_min:=Hd.ER X G "min" (by kernel_rfl);refine ⟨PySem.W.fnOf "law" "law" (jD J8) (zk J8) (qi J8) .none .none .none (.str "law_bankwalk_k06_what_is_no_word" 534) none (.ref 358) .none,λs v=>.of_eq rfl,λbase Xb _=>?_⟩;have g_ex_BankError:ExC base 38 [.ref 38,.type "ValueError",.type "Exception",.type "BaseException",.type "object"]:=Hd.qiF Xb (by kernel_rfl);have g_ct_BankError:∀ C∈[51],Ct base 38 C:=Hd.qgh (Hd.qiF (K:=Kf w.params) (C:=51) (mro:=[.ref 51,.ref 38,.type "ValueError",.type "Exception",.type "BaseException",.type "object"]) Xb (by kernel_rfl)) (by kernel_rfl) (λ_ z=>nomatch z);have g_ra_NoWord:RaX mg base "NoWord" 51:=Hd.qmL (nm:="NoWord") (N:=50) (bs:=[.ref 38]) (bm:=[.ref 38,.type "ValueError",.type "Exception",.type "BaseException",.type "object"]) (sub:=[]) (tb:=42) (t1:=223) (t2:=231) Xb (Hd.zj X G "NoWord" (.ref 51) (by kernel_rfl)) (by kernel_rfl) (by kernel_rfl) (by kernel_rfl) (by kernel_rfl);have O_is_number:=RN (P:=l.prog) (w:=w) (base:=base) (k:=0) F0 b0 m0  g_isinstance g_bool g_int R9;have O_is_pair:=LX (P:=l.prog) (w:=w) (base:=base) (k:=1) F1 b1 m1 O_is_number g_len g_isinstance g_tuple LZ;have O_odd_in_common:=EJ (P:=l.prog) (w:=w) (base:=base) (k:=0) F6 b6 m6   EL;have O_bits_bank:=RF (P:=l.prog) (w:=w) (base:=base) (k:=1) F7 b7 m7 O_odd_in_common g_enumerate g_sum SJ;have O_parted:=qaY (P:=l.prog) (w:=w) (base:=base) (k:=0) F8 b8 m8   qav;have O_rests_spots:=XA (P:=l.prog) (w:=w) (base:=base) (k:=0) F13 b13 m13  g_range WV;have O_law_mix:=MR (P:=l.prog) (w:=w) (base:=base) (k:=0) F17 b17 m17   LS;have O_law_left:=T1 (P:=l.prog) (w:=w) (base:=base) (k:=0) F18 b18 m18  g_len g_abs T5;have O_law_pick:=T6 (P:=l.prog) (w:=w) (base:=base) (k:=1) F19 b19 m19 O_law_mix  T0;have O_law_sides:=C9 (P:=l.prog) (w:=w) (base:=base) (k:=2) F20 b20 m20 O_law_pick  RM;have O_law_gcd:=MC (P:=l.prog) (w:=w) (base:=base) (k:=0) F21 b21 m21   MD;have O_law_skew:=T8 (P:=l.prog) (w:=w) (base:=base) (k:=3) F22 b22 m22 O_law_sides (O_law_pick.mono (by decide))  S5;have O_law_rests:=C6 (P:=l.prog) (w:=w) (base:=base) (k:=3) F23 b23 m23 O_law_sides (O_law_pick.mono (by decide)) (O_law_gcd.mono (by decide)) g_range RW;have O_law_bits:=SV (P:=l.prog) (w:=w) (base:=base) (k:=2) F24 b24 m24 O_law_pick g_range g_tuple TK;have O_law_table:=RU (P:=l.prog) (w:=w) (base:=base) (k:=3) F25 b25 m25 O_law_sides (O_law_pick.mono (by decide)) g_range g_tuple C1;have O_law_small:=SF (P:=l.prog) (w:=w) (base:=base) (k:=2) F26 b26 m26 O_law_pick (O_law_gcd.mono (by decide)) g_range g_tuple SE;have O_law_dealing:=W8 (P:=l.prog) (w:=w) (base:=base) (k:=4) F27 b27 m27 (O_law_pick.mono (by decide)) O_law_skew O_law_rests (O_law_bits.mono (by decide)) O_law_table (O_law_small.mono (by decide))  W1;have O_law_word_of:=W9 (P:=l.prog) (w:=w) (base:=base) (k:=0) F29 b29 m29  g_isinstance g_cls_NoWord g_xd_0 g_cls_NoStart g_xd_1 g_cls_NoWalk g_xd_2 g_cls_NoOrder g_xd_3 g_cls_Clash g_xd_4 g_cls_NotSquare g_xd_5 g_cls_NoAsk g_xd_6 g_cls_BadText g_xd_7 g_cls_BadRow g_xd_8 g_ValueError g_xd_9 WW;have O_size_of_0:=CW (P:=l.prog) (w:=w) (base:=base) F2 b2 m2;have O_size_of_1:=UE (P:=l.prog) (w:=w) (base:=base) (k:=0) F2 b2 m2 O_size_of_0 g_len (UW 0);have O_size_of_2:=UE (P:=l.prog) (w:=w) (base:=base) (k:=1) F2 b2 m2 O_size_of_1 g_len (UW 1);have O_size_of_3:=UE (P:=l.prog) (w:=w) (base:=base) (k:=2) F2 b2 m2 O_size_of_2 g_len (UW 2);have O_all_words:=SG (P:=l.prog) (w:=w) (base:=base) (k:=3) F4 b4 m4 O_size_of_3 g_range RX;have O_is_word:=ML (P:=l.prog) (w:=w) (base:=base) (k:=3) F5 b5 m5 (O_is_pair.mono (by decide)) O_size_of_3  LQ;have O_refuse_no_word:=UK (P:=l.prog) (w:=w) (base:=base) (k:=4) F11 b11 m11 O_is_word  UR;have O_number_of_0:=YE (P:=l.prog) (w:=w) (base:=base) (k:=1) F3 b3 m3 O_size_of_1  (YD 0);have O_number_of_1:=YE (P:=l.prog) (w:=w) (base:=base) (k:=2) F3 b3 m3 O_size_of_2  (YD 1);have O_number_of_2:=YE (P:=l.prog) (w:=w) (base:=base) (k:=3) F3 b3 m3 O_size_of_3  (YD 2);have O_bank_in_0:=CW (P:=l.prog) (w:=w) (base:=base) F10 b10 m10;have O_joined_bank_0:=ZE (P:=l.prog) (w:=w) (base:=base) (k:=1) F9 b9 m9 O_size_of_1 O_parted (O_bank_in_0.mono (by decide))  (ZD 0);have O_bank_in_1:=UT (P:=l.prog) (w:=w) (base:=base) (k:=2) F10 b10 m10 O_number_of_0 O_bits_bank O_joined_bank_0  (UU 0);have O_joined_bank_1:=ZE (P:=l.prog) (w:=w) (base:=base) (k:=3) F9 b9 m9 (O_size_of_2.mono (by decide)) (O_parted.mono (by decide)) O_bank_in_1  (ZD 1);have O_bank_in_2:=UT (P:=l.prog) (w:=w) (base:=base) (k:=4) F10 b10 m10 (O_number_of_1.mono (by decide)) (O_bits_bank.mono (by decide)) O_joined_bank_1  (UU 1);have O_joined_bank_2:=ZE (P:=l.prog) (w:=w) (base:=base) (k:=5) F9 b9 m9 (O_size_of_3.mono (by decide)) (O_parted.mono (by decide)) O_bank_in_2  (ZD 2);have O_bank_in_3:=UT (P:=l.prog) (w:=w) (base:=base) (k:=6) F10 b10 m10 (O_number_of_2.mono (by decide)) (O_bits_bank.mono (by decide)) O_joined_bank_2  (UU 2);have O_bank_of:=MM (P:=l.prog) (w:=w) (base:=base) (k:=7) F12 b12 m12 (O_refuse_no_word.mono (by decide)) O_bank_in_3  LW;have O_counted_spots:=EI (P:=l.prog) (w:=w) (base:=base) (k:=7) F14 b14 m14 (O_all_words.mono (by decide)) O_bank_in_3  EH;have O_spots_of:=TQ (P:=l.prog) (w:=w) (base:=base) (k:=8) F15 b15 m15 (O_rests_spots.mono (by decide)) O_counted_spots  S9;have O_place_of:=T9 (P:=l.prog) (w:=w) (base:=base) (k:=9) F16 b16 m16 (O_refuse_no_word.mono (by decide)) O_spots_of (O_number_of_2.mono (by decide))  TY;have O_refuse_no_word_x:=VZ (P:=l.prog) (w:=w) (base:=base) (k:=4) F11 b11 m11 O_is_word g_ra_NoWord US;have O_bank_of_x:=KB (P:=l.prog) (w:=w) (base:=base) (k:=5) F12 b12 m12 O_refuse_no_word_x  MF;have O_place_of_x:=C7 (P:=l.prog) (w:=w) (base:=base) (k:=9) F16 b16 m16 O_spots_of (O_number_of_2.mono (by decide)) (O_refuse_no_word_x.mono (by decide))  TL;have O_law_refused:=W7 (P:=l.prog) (w:=w) (base:=base) (k:=10) F30 b30 m30 (O_bank_of.mono (by decide)) O_place_of (O_law_word_of.mono (by decide)) (O_bank_of_x.mono (by decide)) O_place_of_x g_cls_BankError g_ex_BankError g_ct_BankError W6;have O_law_size_0:=CW (P:=l.prog) (w:=w) (base:=base) F28 b28 m28;have O_law_size_1:=VP (P:=l.prog) (w:=w) (base:=base) (k:=0) F28 b28 m28 O_law_size_0 g_len g_zip g_tuple (VH 0);have O_law_size_2:=VP (P:=l.prog) (w:=w) (base:=base) (k:=1) F28 b28 m28 O_law_size_1 g_len g_zip g_tuple (VH 1);have O_law_size_3:=VP (P:=l.prog) (w:=w) (base:=base) (k:=2) F28 b28 m28 O_law_size_2 g_len g_zip g_tuple (VH 2);exact qlX (k:=11) F31 (O_law_left.mono (by decide)) (O_law_dealing.mono (by decide)) (O_law_size_3.mono (by decide)) (O_law_pick.mono (by decide)) O_law_refused g_len g_min g_range (qjP qgO)
set_option maxRecDepth 100000 in
set_option maxHeartbeats 0 in
def qil (w : World) (os : OsState) : PySem.W.topRun treeTable PySem.Challenge.pw_bankwalk_k06_what_is_no_word w 11 (some (Value.ref 6)) 2 (⟨qfg w.params,360,{ },#[],{ },677,os⟩ : PySem.W.SharedT).abs (PySem.W.restOf [] qiu CT ⟨220,0,236,15⟩ qkB) = some ⟨qe3 w.params,#[],{ },677,os⟩ := by kernel_rfl
def qnZ:(qdl++(qcx++[]))=NT:=by kernel_rfl
set_option maxRecDepth 100000 in
set_option maxHeartbeats 0 in
def qeL (w : World) (os : OsState) : PySem.W.topRun treeTable PySem.Challenge.pw_bankwalk_k06_what_is_no_word w 11 (some (Value.ref 6)) (12 + (1 + (1754 + (1450 + 2)))) ⟨PySem.W.boot_heap w.params,Array.mk [],PySem.W.boot_drawn,PySem.W.boot_toks,os⟩ (PySem.W.topStub PySem.Challenge.pw_bankwalk_k06_what_is_no_word) = some ⟨qe3 w.params,#[],{ },677,os⟩ := by
 have h:=(PySem.W.piece_app (PySem.W.segRun_of (qlY w os)) (PySem.W.piece_app (PySem.W.segRun_of (qgT w os)) (qil w os)))
 rw [qnZ] at h;exact PySem.W.go_top (qlG w os) (PySem.W.piece_block (qlB w os) h)
abbrev Q : Program := PySem.W.view PySem.Challenge.pw_bankwalk_k06_what_is_no_word [1,2,4,5,6,7,8,9,10,11,12,13,15,16,17,18,19,20,21,22,23,24,25,27,28,29,30,32,33,34,35,36,37,38,39,40,41,42,43,44,45,46]
set_option maxRecDepth 100000 in
set_option maxHeartbeats 0 in
def left : PySem.W.LeftO PySem.Challenge.pw_bankwalk_k06_what_is_no_word Q [] (λs => PySem.W.xlAt Q [] s && PySem.W.recOk [] s) (λs => ([3,20,21,27,28,37,38,50,51,63,75,87,99,111,123,142,161,169,170,176,177,181,182,188,189,195,196,200,201,207,208,214,215,221,222,228,229,235,236,240,241,247,248,254,255,261,262,268,269,275,276,282,283,289,290,296,297,303,304,310,311,315,316,320,321,325,326,332,333,337,338,344,345,351,352,358,359] : List Addr).map s.heap.get?) (λw => (Kf w.params).map λp => some p.2) 6530 :=
 PySem.W.LeftO.of_pieces (H₀:=PySem.W.boot_heap) (H₁:=qe3) (gs₀:=Array.mk []) (gs₁:=#[]) (d₀:=PySem.W.boot_drawn) (d₁:={ }) (k₀:=PySem.W.boot_toks) (k₁:=677) (m₀:=11) (ann:=some (Value.ref 6)) (M:=(12+(1+(1754+(1450+2)))))
  (PySem.W.boot_open (by kernel_rfl) (by kernel_rfl) (λs=>by kernel_rfl)) (λw=>by kernel_rfl) qeL (by kernel_rfl) (λw=>by kernel_rfl)
end K06
open PySem PySem.W PyProof.Rows
set_option maxRecDepth 100000 in
set_option maxHeartbeats 0 in
theorem PySem.Challenge.cw_bankwalk_k06_what_is_no_word_holds : PySem.Challenge.rw_bankwalk_k06_what_is_no_word.Holds :=
 Hd.head (l := PySem.Challenge.rw_bankwalk_k06_what_is_no_word) (q := K06.Q) (loose := []) (K := K06.Kf) (as := [3,20,21,27,28,37,38,50,51,63,75,87,99,111,123,142,161,169,170,176,177,181,182,188,189,195,196,200,201,207,208,214,215,221,222,228,229,235,236,240,241,247,248,254,255,261,262,268,269,275,276,282,283,289,290,296,297,303,304,310,311,315,316,320,321,325,326,332,333,337,338,344,345,351,352,358,359]) (N := 6530) (k := 12) (x := "_law_script")
  (d:=⟨"law",L2.jD K06.J8,L2.zk K06.J8,L2.qi K06.J8,⟨220,0,236,15⟩⟩) (λ_=>by kernel_rfl) (by kernel_rfl) K06.left (by kernel_rfl) (by kernel_rfl) (by kernel_rfl) (by kernel_rfl) (by kernel_rfl)
  ⟨rfl,rfl,rfl,rfl,rfl,by decide +kernel⟩ (by w_witness2) rfl (by kernel_rfl) ⟨rfl,by decide,by decide,rfl⟩ (λw=>by kernel_rfl) λw mg fa h KX G hmg=>K06.qis KX G hmg
