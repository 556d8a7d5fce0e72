import PyProof.Rows.All
import Wide.All
import OpenK.AllK
import Wide.FinOn
import Lean
import PyProof.EqAt
import PyProof.EqKinds
import PyProof.TupleCall
import PyProof.NeKinds
import KE.KRevSl
import PyProof.FactsAll.bool_2
import PyProof.Rows.EqBoolInt
import PyProof.Rows.IntBool
import KE.KUnpackStar
import KE.KIntText
import PySem.Challenge.RW_bankwalk_k77_dealings_read
-- CHANGE: your row's module here,as the last of these rows
set_option Elab.async false
set_option genSizeOf false
set_option genInjectivity false
noncomputable section
abbrev Frg:=PySem.W.Frag
open List (getElem_cons_zero length_cons getElem?_cons_succ getElem_cons_succ getElem?_cons_zero length_nil set_cons_zero set_cons_succ length_map not_mem_nil mem_append_right map_cons mem_cons getElem?_set getElem?_map cons_append size_toArray getElem?_eq_getElem map_map mem_of_getElem? mem_map length_append getD_eq_getElem?_getD mem_range length_range)
def obb{α β:Type _}{o:Option α}{f:α->Option β}{b:β}(h:o.bind f=some b):∃a,o=some a/\f a=some b:=Option.bind_eq_some_iff.mp h
set_option linter.all false
set_option maxRecDepth 100000
namespace L2
open PySem PySem.Spec PyProof.Rows
abbrev Key:=Sum Int Str
def qnF:Key->Value->Bool
 |.inl k,v=>Value.isInt k v
 |.inr x,v=>Value.isStrOf x v
def qrR (w:World):Key->Int
 |.inl k=>hashInt k
 |.inr x=>hashStr w x
def zZ:∀ {k:Key} {v:Value},qnF k v=true->(∃ i t,k=Sum.inl i/\v=Value.int i t)\/(∃ x t,k=Sum.inr x/\v=Value.str x t)
 |.inl i,v,h=>by
  obtain ⟨t,e⟩:=Value.isInt_shape (k:=i) (v:=v) h;exact .inl ⟨i,t,rfl,e⟩
 |.inr x,v,h=>by
  obtain ⟨t,e⟩:=Value.isStrOf_shape (x:=x) (v:=v) h;exact .inr ⟨x,t,rfl,e⟩
def qkI (a b:Int):decide ((Sum.inl a:Key)=Sum.inl b)=(a==b):=by
 by_cases e:a=b
 ·subst e;simp
 ·have h:¬ (Sum.inl a:Key)=Sum.inl b:=λq=>e (Sum.inl.inj q);rw [decide_eq_false h];exact (beq_eq_false_iff_ne.mpr e).symm
def qnJ (a b:Str):decide ((Sum.inr a:Key)=Sum.inr b)=decide (a=b):=by
 by_cases e:a=b
 ·subst e;simp
 ·have h:¬ (Sum.inr a:Key)=Sum.inr b:=λq=>e (Sum.inr.inj q);rw [decide_eq_false h,decide_eq_false e]
def qmE (a:Int) (b:Str):decide ((Sum.inl a:Key)=Sum.inr b)=false:=decide_eq_false (λq=>nomatch q)
def qkU (a:Str) (b:Int):decide ((Sum.inr a:Key)=Sum.inl b)=false:=decide_eq_false (λq=>nomatch q)
def qcS (prog:Program) (w:World):PySem.KeyKind prog w Key where
 is:=qnF
 hash:=qrR w
 inj:=λv a b ha hb=>by
  rcases zZ ha with ⟨i,t,rfl,rfl⟩|⟨x,t,rfl,rfl⟩
  ·rcases zZ hb with ⟨j,u,rfl,e⟩|⟨y,u,rfl,e⟩
   ·injection e with e1 _;rw [e1]
   ·exact nomatch e
  ·rcases zZ hb with ⟨j,u,rfl,e⟩|⟨y,u,rfl,e⟩
   ·exact nomatch e
   ·injection e with e1 _;rw [e1]
 byValue:=λk v h=>by
  rcases zZ h with ⟨i,t,rfl,rfl⟩|⟨x,t,rfl,rfl⟩<;>rfl
 pyHash:=λhv h=>by
  rcases zZ hv with ⟨i,t,rfl,rfl⟩|⟨x,t,rfl,rfl⟩
  ·exact wpAny_pyHash_int h
  ·exact wpAny_pyHash_str h
 eqBool:=λhu hv h=>by
  rcases zZ hu with ⟨i,t,rfl,rfl⟩|⟨x,t,rfl,rfl⟩
  ·rcases zZ hv with ⟨j,u,rfl,rfl⟩|⟨y,u,rfl,rfl⟩
   ·rw [qkI] at h;exact wpAny_eqBool_int h
   ·rw [qmE] at h;exact SeqAt.EqAt.int_str i t y u _ _ _ _ h
  ·rcases zZ hv with ⟨j,u,rfl,rfl⟩|⟨y,u,rfl,rfl⟩
   ·rw [qkU] at h;exact SeqAt.EqAt.str_int x t j u _ _ _ _ h
   ·rw [qnJ] at h;exact wpAny_eqBool_str h
 «strs»:=λk x t v h=>by
  rcases zZ h with ⟨i,u,rfl,e⟩|⟨y,u,rfl,e⟩
  ·exact nomatch e
  ·injection e with e1 _;subst e1;cases v<;>rfl
set_option genInjectivity true in
inductive V where
 |non|bl (b:Bool)|int (i:Int)|str (x:Str)|byt (b:Array UInt8)|flt (b:UInt64)|ref (a:Addr)|ty (n:String)
 deriving DecidableEq
def ZP:V->Value->Prop
 |.non,u=>u=Value.none
 |.bl b,u=>u=Value.bool b
 |.int i,u=>∃ t,u=Value.int i t
 |.str x,u=>∃ t,u=Value.str x t
 |.byt b,u=>∃ t,u=Value.bytes b t
 |.flt b,u=>∃ t,u=Value.float b t
 |.ref a,u=>u=Value.ref a
 |.ty n,u=>u=Value.type n
abbrev jh:List V->List Value->Prop:=Paired ZP
def jh.length {xs:List V} {us:List Value} (r:jh xs us):xs.length=us.length:=Paired.length r
def jh.get:∀ {xs:List V} {us:List Value} {i:Nat} {x:V},jh xs us->xs[i]?=some x->∃ u,us[i]?=some u/\ZP x u
 |_,_,_,_,.nil,e=>by simp at e
 |_,_,0,_,.cons r _,e=>by simp at e;subst e;exact ⟨_,rfl,r⟩
 |_,_,i+1,x,.cons _ t,e=>by
  obtain ⟨u,h1,h2⟩:=jh.get (i:=i) (x:=x) t (by simpa using e);exact ⟨u,by simpa using h1,h2⟩
def jh.set {x:V} {u:Value} (r:ZP x u):∀ {xs:List V} {us:List Value} (i:Nat),jh xs us->jh (xs.set i x) (us.set i u)
 |_,_,_,.nil=>.nil
 |_,_,0,.cons _ t=>.cons r t
 |_,_,i+1,.cons q t=>.cons q (jh.set r i t)
def jh.append:∀ {xs ys:List V} {us ws:List Value},jh xs us->jh ys ws->jh (xs++ys) (us++ws)
 |_,_,_,_,.nil,s=>s
 |_,_,_,_,.cons r t,s=>.cons r (jh.append t s)
def jh.take:∀ {xs:List V} {us:List Value} (n:Nat),jh xs us->jh (xs.take n) (us.take n)
 |_,_,0,_=>.nil
 |_,_,_+1,.nil=>.nil
 |_,_,n+1,.cons r t=>.cons r (jh.take n t)
def jh.drop:∀ {xs:List V} {us:List Value} (n:Nat),jh xs us->jh (xs.drop n) (us.drop n)
 |_,_,0,r=>r
 |_,_,_+1,.nil=>.nil
 |_,_,n+1,.cons _ t=>jh.drop n t
def qqn:Option V->Option Value->Prop
 |some v,some u=>ZP v u
 |none,none=>True
 |_,_=>False
def KV {κ:Type}:List (κ×V)->List (κ×Value)->Prop:=Paired λ(p:κ×V) (q:κ×Value)=>p.1=q.1/\ZP p.2 q.2
def kV:Key->V
 |.inl i=>.int i
 |.inr x=>.str x
inductive HO where
 /-- a list -/
 |lst (xs:List V)
 /-- a tuple (never changes) -/
 |tup (xs:List V)
 /-- a dict whose keys are ints and texts;one whose keys are tuples of ints and texts (the empty one is both) -/
 |dK (kvs:List (Key×V))|dT (kvs:List (List Key×V))
 /-- a set of ints: its members,its size -/
 |set (S:Int->Bool) (n:Nat)
 /-- an instance of the class at C,its dict at dx,its attributes -/
 |ins (C dx:Addr) (fs:List (Str×V))
 /-- the dict of the instance at x -/
 |own (x:Addr)
 /-- the dict of an exception -/
 |xd (fs:List (Str×V))
 /-- a bound method,f of x -/
 |met (f x:Addr)
 /-- a range object lo,lo+1,.. below hi -/
 |rng (lo hi:Int)
 /-- a thing that is known to the object (the script;a dict while a loop walks it): read,never written while it is so -/
 |frz (o:Obj) (u:HO)
 /-- a code object's table -/
 |tbl (ps:Array Value)
 /-- any other thing,by what is true of its one object (a def of one's own: SetO a S n:=HO.ext λh=>..) -/
 |ext (φ:Heap->Prop)
abbrev Hp:=Addr->Option HO
def upd (H:Hp) (a:Addr) (o:HO):Hp:=λb=>if b=a then some o else H b
def zA {H:Hp} {a:Addr} {o:HO}:upd H a o a=some o:=by unfold upd;rw [if_pos rfl]
def qO {H:Hp} {a b:Addr} {o:HO} (h:b≠a):upd H a o b=H b:=by unfold upd;rw [if_neg h]
def qD {H:Hp} {a b:Addr} {o:HO} (h:H a=some o) (h':H b=none):a≠b:=by
 intro e;subst e;rw [h] at h';cases h'
def W1 (h:Heap) (a:Addr) (items:Array Value):Prop:=∃ o,h.get? a=some o/\o.cls=.type "tuple"/\∃ n,o.data=.seq items n/\o.dict=none
def W1.tup {h:Heap} {a:Addr} {items:Array Value} (x:W1 h a items):IsTup h a items:=let ⟨o,a,b,n,d,_⟩:=x;⟨o,a,b,n,d⟩
def W1.new (h:Heap) (items:Array Value):W1 (h.push { cls:=.type "tuple",data:=.seq items }) h.objs.size items:=⟨_,Heap.get?_push_size _ rfl,rfl,_,rfl,rfl⟩
section
variable (P:Program) (w:World)
def VX (H:Hp) (h:Heap) (a:Addr):HO->Prop
 |.lst xs=>xs.length<=sizeLine/\∃ (its:List Value) (n:Nat),jh xs its/\h.get? a=some { cls:=.type "list",data:=.seq its.toArray n }
 |.tup xs=>xs.length<=sizeLine/\∃ its:List Value,jh xs its/\W1 h a its.toArray
 |.dK kvs=>kvs.length<=sizeLine/\(a==sysModules)=false/\∃ vs,KV kvs vs/\h.DictOf (qcS P w) a vs
 |.dT kvs=>kvs.length<=sizeLine/\(a==sysModules)=false/\∃ xs:List (List Key×Addr×Value),
   Paired (λ(p:List Key×V) (q:List Key×Addr×Value)=>p.1=q.1/\H q.2.1=some (.tup (p.1.map kV))/\ZP p.2 q.2.2) kvs xs /\
   ∃ o es ep,h.get? a=some o/\o.ExactDict/\o.data=.dict es ep/\es.toList=xs.map (entryOfKey (tupleKind (qcS P w)))/\(xs.map (·.1)).Nodup
 |.set S n=>h.SetOf (intKind P w) a S n
 |.ins C dx fs=>H dx=some (.own a)/\fs.length<=1000/\dx≠a/\h.get? a=some (PySem.W.instObj C dx) /\
   ∃ mA,h.Ns1 dx mA/\(∀ f,qqn (fs.lookup f) (mA f))/\PySem.Within mA (fs.map (·.1))
 |.own _=>∃ o,h.get? a=some o
 |.xd fs=>∃ mA,h.Ns1 a mA/\∀ f,qqn (fs.lookup f) (mA f)
 |.rng lo hi=>∃ t u v,h.get? a=some { cls:=.type "range",data:=.fields #[.int lo t,.int hi u,.int 1 v] }
 |.frz o u=>h.get? a=some o/\VX H h a u
 |.tbl ps=>h.get? a=some { cls:=.none,data:=.fields ps }
 |.met f x=>h.get? a=some (PySem.W.methodObj (.ref f) (.ref x))
 |.ext φ=>φ h/\(∃ o,h.get? a=some o)/\∀ h1 h2:Heap,φ h1->(∀ o,h1.get? a=some o->h2.get? a=some o)->φ h2
def HOk (H:Hp) (h:Heap):Prop:=∀ a o,H a=some o->VX P w H h a o
end
section
variable {P:Program} {w:World} {H H':Hp} {h h':Heap} {a:Addr} {o:HO}
def VX.lt (x:VX P w H h a o):a<h.objs.size:=by
 cases o with
 |lst xs=>obtain ⟨_,_,_,_,e⟩:=x;exact Heap.lt_size e
 |tup xs=>obtain ⟨_,_,_,p⟩:=x;exact p.tup.lt
 |dK kvs=>obtain ⟨_,_,_,_,o,_,_,e,_⟩:=x;exact Heap.lt_size e
 |dT kvs=>obtain ⟨_,_,_,_,o,_,_,e,_⟩:=x;exact Heap.lt_size e
 |set S n=>obtain ⟨o,_,_,_,e,_⟩:=x;exact Heap.lt_size e
 |ins C dx fs=>obtain ⟨_,_,_,e,_⟩:=x;exact Heap.lt_size e
 |own y=>obtain ⟨_,e⟩:=x;exact Heap.lt_size e
 |xd fs=>obtain ⟨_,⟨_,_,_,e,_⟩,_⟩:=x;exact Heap.lt_size e
 |rng lo hi=>obtain ⟨_,_,_,e⟩:=x;exact Heap.lt_size e
 |frz ob u=>obtain ⟨e,_⟩:=x;exact Heap.lt_size e
 |tbl ps=>exact Heap.lt_size (show h.get? a=some _ from x)
 |met f y=>exact Heap.lt_size (show h.get? a=some _ from x)
 |ext φ=>obtain ⟨_,⟨_,e⟩,_⟩:=x;exact Heap.lt_size e
def Paired.mapP {α β:Type} {F G:α->β->Prop}:∀ {l₁:List α} {l₂:List β},Paired F l₁ l₂->(∀ a b,F a b->G a b)->Paired G l₁ l₂
 |_,_,.nil,_=>.nil
 |_,_,.cons r t,f=>.cons (f _ _ r) (Paired.mapP t f)
def VX.stay (x:VX P w H h a o) (k:∀ b u,(b=a\/H b=some (.own a))->h.get? b=some u->h'.get? b=some u)
  (ho:∀ b,H b=some (.own a)->H' b=some (.own a)) (ht:∀ b xs,H b=some (.tup xs)->H' b=some (.tup xs)):VX P w H' h' a o:=by
 induction o with
 |lst xs=>obtain ⟨z,its,n,r,e⟩:=x;exact ⟨z,its,n,r,k _ _ (.inl rfl) e⟩
 |tup xs=>obtain ⟨z,its,r,ob,e,c⟩:=x;exact ⟨z,its,r,ob,k _ _ (.inl rfl) e,c⟩
 |dK kvs=>obtain ⟨z,y,vs,r,ob,es,ep,e,c⟩:=x;exact ⟨z,y,vs,r,ob,es,ep,k _ _ (.inl rfl) e,c⟩
 |dT kvs=>
  obtain ⟨z,y,xs,r,ob,es,ep,e,c⟩:=x;exact ⟨z,y,xs,Paired.mapP r λp q z=>⟨z.1,ht _ _ z.2.1,z.2.2⟩,ob,es,ep,k _ _ (.inl rfl) e,c⟩
 |set S n=>obtain ⟨ob,es,ep,t,e,c⟩:=x;exact ⟨ob,es,ep,t,k _ _ (.inl rfl) e,c⟩
 |ins C dx fs=>
  obtain ⟨d,z,ne,e,mA,⟨od,es,ep,e2,c⟩,r⟩:=x;exact ⟨ho _ d,z,ne,k _ _ (.inl rfl) e,mA,⟨od,es,ep,k _ _ (.inr d) e2,c⟩,r⟩
 |own y=>obtain ⟨ob,e⟩:=x;exact ⟨ob,k _ _ (.inl rfl) e⟩
 |xd fs=>obtain ⟨mA,⟨od,es,ep,e,c⟩,r⟩:=x;exact ⟨mA,⟨od,es,ep,k _ _ (.inl rfl) e,c⟩,r⟩
 |rng lo hi=>obtain ⟨t,u,v,e⟩:=x;exact ⟨t,u,v,k _ _ (.inl rfl) e⟩
 |frz ob u ih=>obtain ⟨e,q⟩:=x;exact ⟨k _ _ (.inl rfl) e,ih q⟩
 |tbl ps=>
  have e:h.get? a=some { cls:=.none,data:=.fields ps }:=x;show h'.get? a=some { cls:=.none,data:=.fields ps };exact k a _ (.inl rfl) e
 |met f y=>
  have e:h.get? a=some (PySem.W.methodObj (.ref f) (.ref y)):=x;show h'.get? a=some (PySem.W.methodObj (.ref f) (.ref y));exact k a _ (.inl rfl) e
 |ext φ=>obtain ⟨p,⟨o,e⟩,st⟩:=x;exact ⟨st _ _ p λo q=>k _ _ (.inl rfl) q,⟨o,k _ _ (.inl rfl) e⟩,st⟩
def HOk.lt (x:HOk P w H h) (e:H a=some o):a<h.objs.size:=(x a o e).lt
def HOk.fresh (x:HOk P w H h) (e:h.objs.size<=a):H a=none:=by
 cases q:H a with
 |none=>rfl
 |some u=>exact absurd (Nat.lt_of_lt_of_le (x.lt q) e) (Nat.lt_irrefl _)
def HOk.kept (x:HOk P w H h) (k:∀ b u,h.get? b=some u->h'.get? b=some u):HOk P w H h':=λa o e=>
 (x a o e).stay (λb u _ q=>k b u q) (λ_ q=>q) λ_ _ q=>q
def HOk.laid (x:HOk P w H h) (k:∀ b u,h.get? b=some u->h'.get? b=some u) (hp:h.objs.size<=a) (new:VX P w (upd H a o) h' a o):HOk P w (upd H a o) h':=λb u e=>by
 have hn:=x.fresh hp;by_cases hb:b=a
 ·subst hb;rw [zA] at e;cases e;exact new
 ·rw [qO hb] at e;exact (x b u e).stay (λc v _ q=>k c v q) (λc q=>by rw [qO (qD q hn)];exact q) λc xs q=>by rw [qO (qD q hn)];exact q
end
def Rd (H:Hp) (a:Addr) (u:HO):Prop:=H a=some u\/∃ o,H a=some (.frz o u)
def Rd.ok {P:Program} {w:World} {H:Hp} {h:Heap} {a:Addr} {u:HO} (r:Rd H a u) (x:HOk P w H h):VX P w H h a u:=by
 rcases r with r|⟨o,r⟩
 ·exact x a u r
 ·obtain ⟨_,q⟩:=x a _ r;exact q
def Mut:Option HO->Prop
 |some (.lst _)=>True
 |some (.dK _)=>True
 |some (.dT _)=>True
 |some (.set _ _)=>True
 |some (.ins _ _ _)=>True
 |some (.ext _)=>True
 |_=>False
section
variable {P:Program} {w:World} {H:Hp} {h h':Heap} {x e:Addr} {o':HO}
def HOk.write (ok:HOk P w H h) (mu:Mut (H x)) (he:e=x\/H e=some (.own x)) (k:∀ b u,b≠e->h.get? b=some u->h'.get? b=some u) (heo:∃ u,h'.get? e=some u)
  (new:VX P w (upd H x o') h' x o'):HOk P w (upd H x o') h':=λb u q=>by
 have nown:∀ c y,H c=some (.own y)->c≠x:=λc y r z=>by subst z;rw [r] at mu;exact mu
 have ntup:∀ c xs,H c=some (.tup xs)->c≠x:=λc xs r z=>by subst z;rw [r] at mu;exact mu
 by_cases hb:b=x
 ·subst hb;rw [zA] at q;cases q;exact new
 ·rw [qO hb] at q;by_cases hbe:b=e
  ·have q':H b=some (.own x):=by
    rcases he with z|z
    ·exact absurd (hbe.trans z) hb
    ·rw [hbe];exact z
   rw [q] at q';cases q';obtain ⟨v,hv⟩:=heo;exact ⟨v,by rw [hbe];exact hv⟩
  ·refine (ok b u q).stay (λc v hc r=>k c v ?_ r) (λc r=>by rw [qO (nown c b r)];exact r) λc xs r=>by rw [qO (ntup c xs r)];exact r
   rcases hc with rfl|hc
   ·exact hbe
   ·rintro rfl;rcases he with z|z
    ·exact nown c b hc z
    ·rw [hc] at z;cases z;exact hb rfl
end
structure Un (fs ex:List Addr) (H H':Hp) (h h':Heap):Prop where
 keep:∀ b o,h.get? b=some o->H b=none->b∉fs->b∉ex->h'.get? b=some o
 slot:∀ b o,h.get? b=some o->H b=none->b∈fs->b∉ex->∃ sl,h'.get? b=some { o with slots:=sl }
 free:∀ b o,h.get? b=some o->H b=none->b∉ex->H' b=none
 there:∀ b o,h.get? b=some o->b∉ex->∃ o',h'.get? b=some o'
 tups:∀ b xs,H b=some (.tup xs)->H' b=some (.tup xs)
 frzs:∀ b o u,H b=some (.frz o u)->H' b=some (.frz o u)
 tbls:∀ b ps,H b=some (.tbl ps)->∃ more,H' b=some (.tbl (ps++more))
section
variable {fs fs' ex ex':List Addr} {H H1 H2:Hp} {h h1 h2 h':Heap} {a x e:Addr} {o:HO}
def Un.any (u:Un fs ex H H1 h h1) {b:Addr} {ob:Obj} (q:h.get? b=some ob) (n:H b=none) (hx:b∉ex):∃ sl,h1.get? b=some { ob with slots:=sl }:=by
 by_cases hb:b∈fs
 ·exact u.slot b ob q n hb hx
 ·exact ⟨ob.slots,u.keep b ob q n hb hx⟩
def Un.kept (k:∀ b u,h.get? b=some u->h'.get? b=some u):Un fs ex H H h h':=
 ⟨λb ob q _ _ _=>k b ob q,λb ob q _ _ _=>⟨ob.slots,k b ob q⟩,λ_ _ _ n _=>n,λb ob q _=>⟨ob,k b ob q⟩,λ_ _ q=>q,λ_ _ _ q=>q,λ_ ps q=>⟨#[],by rw [q];simp⟩⟩
def Un.refl:Un fs ex H H h h:=Un.kept λ_ _ q=>q
def Un.laid (k:∀ b u,h.get? b=some u->h'.get? b=some u) (hp:h.objs.size<=a) (hn:H a=none):Un fs ex H (upd H a o) h h' where
 keep:=λb u q _ _ _=>k b u q
 slot:=λb u q _ _ _=>⟨u.slots,k b u q⟩
 free:=λb u q n _=>by rw [qO (Nat.ne_of_lt (Nat.lt_of_lt_of_le (Heap.lt_size q) hp))];exact n
 there:=λb u q _=>⟨u,k b u q⟩
 tups:=λb xs q=>by rw [qO (qD q hn)];exact q
 frzs:=λb u xs q=>by rw [qO (qD q hn)];exact q
 tbls:=λb ps q=>⟨#[],by rw [qO (qD q hn),q];simp⟩
def Un.write (mu:Mut (H x)) (he:e=x\/H e=some (.own x)) (k:∀ b u,b≠e->h.get? b=some u->h'.get? b=some u) (heo:∃ u,h'.get? e=some u):Un fs ex H (upd H x o) h h':=by
 have hx:∀ b,H b=none->b≠x:=λb n z=>by subst z;rw [n] at mu;exact mu
 have hb:∀ b,H b=none->b≠e:=λb n z=>by
  subst z;rcases he with r|r
  ·exact hx b n r
  ·rw [n] at r;cases r
 have hm:∀ b u,H b=some u->¬ Mut (some u)->b≠x:=λb u q nm z=>by subst z;rw [q] at mu;exact nm mu
 refine ⟨λb u q n _ _=>k b u (hb b n) q,λb u q n _ _=>⟨u.slots,k b u (hb b n) q⟩,λb u q n _=>by rw [qO (hx b n)];exact n,λb u q _=>?_,
  λb xs q=>by rw [qO (hm b _ q λz=>z)];exact q,λb u xs q=>by rw [qO (hm b _ q λz=>z)];exact q,λb ps q=>⟨#[],by rw [qO (hm b _ q λz=>z),q];simp⟩⟩
 by_cases hbe:b=e
 ·subst hbe;exact heo
 ·exact ⟨u,k b u hbe q⟩
end
def trk (h:Heap) (H:Hp):List Addr:=(List.range h.objs.size).filter λa=>(H a).isSome
def qdv (h:Heap) (H:Hp):Heap:=PySem.W.hideAll h (trk h H)
def qcQ (h:Heap) (H:Hp):(qdv h H).objs.size=h.objs.size:=PySem.W.hideAll_size _ _
def qdK {h:Heap} {H:Hp} {b:Addr} {o:Obj} (e:h.get? b=some o) (n:H b=none):(qdv h H).get? b=some o:=
 PySem.W.hideAll_get _ e λhm=>by
  have q:(H b).isSome=true:=(List.mem_filter.mp hm).2;rw [n] at q;simp at q
def qgS {h:Heap} {H:Hp} {b:Addr} {o:Obj} (e:(qdv h H).get? b=some o):h.get? b=some o/\H b=none:=by
 have e':h.get? b=some o:=PySem.W.of_hideAll (trk h H) e;refine ⟨e',?_⟩;cases q:H b with
 |none=>rfl
 |some x=>
  have hm:b∈trk h H:=List.mem_filter.mpr ⟨mem_range.mpr (Heap.lt_size e'),by simp [q]⟩;have z:(qdv h H).get? b=none:=PySem.W.hideAll_none (trk h H) hm;rw [z] at e;cases e
def qhe (g h:Heap) (L:Addr):List (Addr×Obj):=(List.range h.objs.size).filterMap λa=>if a=L\/(g.get? a).isSome=true then none else (h.get? a).map λo=>(a,o)
def U3 (g h:Heap) (L d:Addr):List (Addr×Obj):=(qhe g h L).filter λp=>decide (p.1≠d)
structure Mod (K:Frg) (mg:Str->Option Value) (base:Heap):Prop where
 kin:K.In base
 glob:base.Ns mainGlobals mg
 blt:∃ mb,base.Ns builtinsNs mb/\∀ x:Str,x≠"__name__" -> mb x=bootBuiltins x
 nolimit:base.NoLimit
structure Cx where
 prog:Program
 w:World
 K:PySem.W.Frag
 mg:Str->Option Value
 base:Heap
 A:Around
 N:List Str
 s₀:Shared
 H₀:Hp
 env:Env
 outer:List Env
 stack:List Env
 ex:List Addr
 fn:Str->Bool
 calm:Bool
 pn:List (Addr×Obj)
 xe:Value->Shared->Prop
def frs (l:List Env):List Addr:=l.filterMap (·.frame)
abbrev Cx.fs (X:Cx):List Addr:=frs X.outer
def Vis (sc:Scope) (x:Str):Prop:=sc.names.lookup x=some .local\/sc.names.lookup x=some .cell\/sc.names.lookup x=some .free
def Loc (sc:Scope) (x:Str):Prop:=sc.names.lookup x=some .local\/sc.names.lookup x=some .cell
def qra (env:Env) (h:Heap) (m:Str->Option Value) (x:Str) (u:Value):Prop:=
 (env.kindOf x=some .local/\m x=some u)\/((env.kindOf x=some .cell\/env.kindOf x=some .free)/\∃ c,env.cells.lookup x=some c/\h.IsCell c (some u))
structure Cx.Ok (X:Cx):Prop where
 mod:Mod X.K X.mg X.base
 kind:X.env.scope.kind=.function
 glob:X.env.globals=mainGlobals
 blt:X.env.builtins=builtinsNs
 above:X.s₀.heap.objs.size<=X.env.locals
 inj:∀ x y c,X.env.cells.lookup x=some c->X.env.cells.lookup y=some c->x=y
 has:∀ x,(X.env.kindOf x=some .cell\/X.env.kindOf x=some .free)->∃ c,X.env.cells.lookup x=some c
 cab:∀ x c,X.fn x=true->X.env.cells.lookup x=some c->X.s₀.heap.objs.size<=c
 hd:X.calm=true->X.A.handled=none
 frames:X.A.frames=some X.stack
 stk:X.stack=X.outer\/(X.stack=X.env::X.outer/\X.env.frame=some X.env.locals)
 exf:∀ b∈X.ex,b≠X.env.locals/\∀ x c,X.env.cells.lookup x=some c->c≠b
 bs:∀ b o,X.base.get? b=some o->X.s₀.heap.get? b=some o/\X.H₀ b=none
 bsz:X.base.objs.size<=X.s₀.heap.objs.size
 noex:∀ b o,X.base.get? b=some o->b∉X.ex
 exfs:∀ b∈X.ex,b∉X.fs
 funs:X.s₀.heap.FunFrames X.base X.outer
 frf:∀ b∈X.fs,X.H₀ b=none
structure Inv (X:Cx) (pins:List (Addr×Obj)) (σ:List (Option V)) (H:Hp) (s:Shared):Prop where
 ok:X.Ok
 os:s.os=X.s₀.os
 bare:AllBare s.gens
 base:Un X.fs X.ex X.H₀ H X.s₀.heap s.heap
 loc:∃ m,s.heap.Ns X.env.locals m/\∀ (i:Nat) (x:Str) (v:V),X.N[i]?=some x->σ[i]?=some (some v)->Vis X.env.scope x->∃ u,ZP v u/\qra X.env s.heap m x u
 cell:∀ x c,X.env.cells.lookup x=some c->∃ v,s.heap.IsCell c v
 free:H X.env.locals=none
 freeC:∀ x c,X.env.cells.lookup x=some c->H c=none
 pin:∀ p∈X.pn++pins,s.heap.get? p.1=some p.2/\H p.1=none/\p.1≠X.env.locals/\p.1∉X.fs/\∀ v,p.2.data≠.cell v
 hok:HOk X.prog X.w H s.heap
 len:σ.length=X.N.length
section
variable {X:Cx} {pins:List (Addr×Obj)} {σ:List (Option V)} {H H':Hp} {s:Shared} {h':Heap}
def Cx.Ok.nofr (ok:X.Ok) {b:Addr} {o:Obj} (e:X.base.get? b=some o):b∉X.fs:=λhb=>by
 have:=(ok.funs.mem hb).1;rw [e] at this;cases this
def Inv.bs (I:Inv X pins σ H s):∀ b o,X.base.get? b=some o->s.heap.get? b=some o/\H b=none:=λb o e=>
 ⟨I.base.keep b o (I.ok.bs b o e).1 (I.ok.bs b o e).2 (I.ok.nofr e) (I.ok.noex b o e),I.base.free b o (I.ok.bs b o e).1 (I.ok.bs b o e).2 (I.ok.noex b o e)⟩
def Inv.bk (I:Inv X pins σ H s):∀ b o,X.base.get? b=some o->s.heap.get? b=some o:=λb o e=>(I.bs b o e).1
def Inv.mod (I:Inv X pins σ H s):Mod X.K X.mg X.base:=I.ok.mod
def Inv.kIn (I:Inv X pins σ H s):X.K.In s.heap:=I.ok.mod.kin.keeps I.bk
def Inv.nolimit (I:Inv X pins σ H s):s.heap.NoLimit:=I.ok.mod.nolimit.keeps I.bk
def Inv.fr (I:Inv X pins σ H s):∃ m,Fr X.base X.env.locals s.heap m:=
 let ⟨m,hn,_⟩:=I.loc
 ⟨m,hn,I.bk,Nat.le_trans I.ok.bsz I.ok.above⟩
def Inv.lt (I:Inv X pins σ H s):X.env.locals<s.heap.objs.size:=let ⟨_,hn,_⟩:=I.loc;hn.lt
def Inv.sz (I:Inv X pins σ H s):X.s₀.heap.objs.size<=s.heap.objs.size:=Nat.le_trans I.ok.above (Nat.le_of_lt I.lt)
def Inv.nofs (I:Inv X pins σ H s) {a:Addr} (h:s.heap.objs.size<=a):a∉X.fs:=λhb=>by
 obtain ⟨_,o,ho,_⟩:=I.ok.funs.mem hb;exact absurd (Nat.lt_of_lt_of_le (Heap.lt_size ho) (Nat.le_trans I.sz h)) (Nat.lt_irrefl _)
def Inv.cne (I:Inv X pins σ H s):∀ x c,X.env.cells.lookup x=some c->c≠X.env.locals:=λx c e z=>by
 obtain ⟨v,o,ho,hd⟩:=I.cell x c e;obtain ⟨m,⟨o',es,ep,ho',hd',_⟩,_⟩:=I.loc;rw [z,ho'] at ho;cases ho;rw [hd'] at hd;cases hd
def Inv.funs (I:Inv X pins σ H s):s.heap.FunFrames X.base X.outer:=by
 have all:∀ (l:List Env),(∀ b∈frs l,b∈X.fs)->X.s₀.heap.FunFrames X.base l->s.heap.FunFrames X.base l:=by
  intro l;induction l with
  |nil=>intro _ _;trivial
  |cons env r ih=>
   intro hs hl;obtain ⟨hk,⟨L,o,hf,hn,ho,hd⟩,hr⟩:=hl;have hL:L∈X.fs:=hs L (by unfold frs;rw [List.filterMap_cons,hf];exact List.mem_cons_self);obtain ⟨sl,e⟩:=I.base.slot L o ho (I.ok.frf L hL) hL λz=>I.ok.exfs L z hL;exact ⟨hk,⟨L,_,hf,hn,e,hd⟩,ih (λb hb=>hs b (by unfold frs;rw [List.filterMap_cons,hf];exact List.mem_cons_of_mem _ hb)) hr⟩
 exact all X.outer (λ_ hb=>hb) I.ok.funs
def Inv.stack (I:Inv X pins σ H s):s.heap.FunFrames X.base X.stack:=by
 rcases I.ok.stk with e|⟨e,hf⟩
 ·rw [e];exact I.funs
 ·rw [e];obtain ⟨m,hn,_⟩:=I.loc;refine .cons (by rw [I.ok.kind];decide) hf hn ?_ I.funs;exact Heap.get?_none_of_le (Nat.le_trans I.ok.bsz I.ok.above)
def Inv.stkSub (I:Inv X pins σ H s):∀ b∈frs X.stack,b∈X.env.locals::X.fs:=λb hb=>by
 rcases I.ok.stk with e|⟨e,hf⟩
 ·rw [e] at hb;exact List.mem_cons_of_mem _ hb
 ·rw [e] at hb;unfold frs at hb;rw [List.filterMap_cons,hf] at hb;exact hb
def Inv.stkFree (I:Inv X pins σ H s):∀ b∈frs X.stack,H b=none:=λb hb=>by
 rcases mem_cons.mp (I.stkSub b hb) with e|hb
 ·rw [e];exact I.free
 ·obtain ⟨_,o,ho,_⟩:=I.ok.funs.mem hb;exact I.base.free b o ho (I.ok.frf b hb) λz=>I.ok.exfs b z hb
def Inv.step {g':Array GenState} {t':Nat} {d':Drawn} {ch:List Addr} (I:Inv X pins σ H s)
  (hch:∀ b∈ch,(b∈X.ex\/X.s₀.heap.objs.size<=b)/\b≠X.env.locals/\(∀ x c,X.env.cells.lookup x=some c->c≠b)/\∀ p∈X.pn++pins,p.1≠b)
  (keep:∀ b o,b≠X.env.locals->b∉X.fs->b∉ch->s.heap.get? b=some o->H b=none->h'.get? b=some o)
  (slot:∀ b o,b≠X.env.locals->b∈X.fs->b∉ch->s.heap.get? b=some o->H b=none->∃ sl,h'.get? b=some { o with slots:=sl }) (free:∀ b o,b∉ch->s.heap.get? b=some o->H b=none->H' b=none)
  (there:∀ b o,b∉ch->s.heap.get? b=some o->∃ o',h'.get? b=some o')
  (tups:∀ b xs,H b=some (.tup xs)->H' b=some (.tup xs)) (frzs:∀ b o u,H b=some (.frz o u)->H' b=some (.frz o u)) (tbls:∀ b ps,H b=some (.tbl ps)->∃ more,H' b=some (.tbl (ps++more)))
  (ns:∀ m,s.heap.Ns X.env.locals m->h'.Ns X.env.locals m) (hok:HOk X.prog X.w H' h') (hg:AllBare g') :
  Inv X pins σ H' { s with heap:=h',gens:=g',drawn:=d',toks:=t' }:=by
 have neL:∀ b o,X.s₀.heap.get? b=some o->b≠X.env.locals:=λb o e=>Nat.ne_of_lt (Nat.lt_of_lt_of_le (Heap.lt_size e) I.ok.above);have neC:∀ b o,X.s₀.heap.get? b=some o->b∉X.ex->b∉ch:=λb o e hx hb=>by
  rcases (hch b hb).1 with z|z
  ·exact hx z
  ·exact absurd (Nat.lt_of_lt_of_le (Heap.lt_size e) z) (Nat.lt_irrefl _)
 have cellK:∀ x c,X.env.cells.lookup x=some c->∀ v,s.heap.IsCell c v->h'.IsCell c v:=λx c e v ⟨o,ho,hd⟩=>by
  have nch:c∉ch:=λz=>(hch c z).2.2.1 x c e rfl;by_cases hc:c∈X.fs
  ·obtain ⟨sl,q⟩:=slot c o (I.cne x c e) hc nch ho (I.freeC x c e);exact ⟨_,q,hd⟩
  ·exact ⟨o,keep c o (I.cne x c e) hc nch ho (I.freeC x c e),hd⟩
 refine ⟨I.ok,I.os,hg,⟨λb o e n hb hx=>?_,λb o e n hb hx=>?_,λb o e n hx=>?_,λb o e hx=>?_,λb xs e=>tups b xs (I.base.tups b xs e),λb o xs e=>frzs b o xs (I.base.frzs b o xs e),λb ps e=>?_⟩,?_,λx c e=>?_,?_,λx c e=>?_,λp hp=>?_,hok,I.len⟩
 ·exact keep b o (neL b o e) hb (neC b o e hx) (I.base.keep b o e n hb hx) (I.base.free b o e n hx)
 ·obtain ⟨sl,e1⟩:=I.base.slot b o e n hb hx;obtain ⟨sl',e2⟩:=slot b _ (neL b o e) hb (neC b o e hx) e1 (I.base.free b o e n hx);exact ⟨sl',e2⟩
 ·obtain ⟨o',e1⟩:=I.base.there b o e hx;exact free b o' (neC b o e hx) e1 (I.base.free b o e n hx)
 ·obtain ⟨o',e1⟩:=I.base.there b o e hx;exact there b o' (neC b o e hx) e1
 ·obtain ⟨m1,e1⟩:=I.base.tbls b ps e;obtain ⟨m2,e2⟩:=tbls b _ e1;exact ⟨m1++m2,by rw [e2,Array.append_assoc]⟩
 ·obtain ⟨m,hn,hl⟩:=I.loc;refine ⟨m,ns m hn,λi x v e1 e2 e3=>?_⟩;obtain ⟨u,r,l⟩:=hl i x v e1 e2 e3;refine ⟨u,r,?_⟩;rcases l with l|⟨k,c,e,z⟩
  ·exact .inl l
  ·exact .inr ⟨k,c,e,cellK x c e _ z⟩
 ·obtain ⟨v,z⟩:=I.cell x c e;exact ⟨v,cellK x c e v z⟩
 ·obtain ⟨m,⟨o,_,_,ho,_⟩,_⟩:=I.loc;exact free _ o (λz=>(hch _ z).2.1 rfl) ho I.free
 ·obtain ⟨v,o,ho,hd⟩:=I.cell x c e;exact free c o (λz=>(hch c z).2.2.1 x c e rfl) ho (I.freeC x c e)
 ·obtain ⟨e,n,ne,nf,d⟩:=I.pin p hp;have nch:p.1∉ch:=λz=>(hch p.1 z).2.2.2 p hp rfl;exact ⟨keep p.1 p.2 ne nf nch e n,free p.1 p.2 nch e n,ne,nf,d⟩
def Inv.un {t':Nat} (I:Inv X pins σ H s) (u:Un X.fs [] H H' s.heap h') (hok:HOk X.prog X.w H' h'):Inv X pins σ H' { s with heap:=h',toks:=t' }:=by
 obtain ⟨m,⟨o,es,ep,ho,r⟩,_⟩:=id I.loc;obtain ⟨sl,hL⟩:=u.any ho I.free (by simp);exact I.step (g':=s.gens) (d':=s.drawn) (ch:=[]) (λ_ z=>nomatch z) (λb o _ hb _ e n=>u.keep b o e n hb (by simp)) (λb o _ hb _ e n=>u.slot b o e n hb (by simp)) (λb o _ e n=>u.free b o e n (by simp)) (λb o _ e=>u.there b o e (by simp)) u.tups u.frzs u.tbls (λm' hm=>by
  obtain ⟨o',es',ep',ho',r'⟩:=hm;rw [ho] at ho';cases ho';exact ⟨_,es',ep',hL,r'⟩) hok I.bare
def Inv.call {g':Array GenState} {t':Nat} {d':Drawn} {ch:List Addr} (I:Inv X pins σ H s) (u:Un (frs X.stack) ch H H' s.heap h') (hok:HOk X.prog X.w H' h') (hg:AllBare g')
  (hch:∀ b∈ch,(b∈X.ex\/X.s₀.heap.objs.size<=b)/\b≠X.env.locals/\(∀ x c,X.env.cells.lookup x=some c->c≠b)/\∀ p∈X.pn++pins,p.1≠b) :
  Inv X pins σ H' { s with heap:=h',gens:=g',drawn:=d',toks:=t' }:=by
 obtain ⟨m,⟨o,es,ep,ho,r⟩,_⟩:=id I.loc;obtain ⟨sl,hL⟩:=u.any ho I.free λz=>(hch _ z).2.1 rfl;exact I.step (ch:=ch) hch (λb o hL hb hc e n=>u.keep b o e n (λz=>(mem_cons.mp (I.stkSub b z)).elim hL hb) hc) (λb o _ _ hc e n=>u.any e n hc) (λb o hc e n=>u.free b o e n hc) (λb o hc e=>u.there b o e hc) u.tups u.frzs u.tbls (λm' hm=>by
  obtain ⟨o',es',ep',ho',r'⟩:=hm;rw [ho] at ho';cases ho';exact ⟨_,es',ep',hL,r'⟩) hok hg
def Inv.turned {t':Nat} {it:Addr} (I:Inv X pins σ H s) (k:∀ b o,b≠it->s.heap.get? b=some o->h'.get? b=some o) (hn:H it=none) (hL:it≠X.env.locals)
  (h1:it∈X.ex\/X.s₀.heap.objs.size<=it) (h2:∀ x c,X.env.cells.lookup x=some c->c≠it) (h3:∀ p∈X.pn++pins,p.1≠it):Inv X pins σ H { s with heap:=h',toks:=t' }:=by
 have nit:∀ b u,H b=some u->b≠it:=λb u e z=>by rw [z,hn] at e;cases e
 refine I.step (g':=s.gens) (d':=s.drawn) (ch:=[it]) (λb hb=>?_) (λb o _ _ hc e _=>k b o (λz=>hc (by simp [z])) e) (λb o _ _ hc e _=>⟨o.slots,k b o (λz=>hc (by simp [z])) e⟩) (λ_ _ _ _ n=>n)
  (λb o hc e=>⟨o,k b o (λz=>hc (by simp [z])) e⟩) (λ_ _ e=>e) (λ_ _ _ e=>e) (λb ps e=>⟨#[],by rw [e];simp⟩) (λm hm=>?_) (λb u e=>?_) I.bare
 ·have e:b=it:=by simpa using hb
  subst e;exact ⟨h1,hL,h2,h3⟩
 ·obtain ⟨o,es,ep,ho,r⟩:=hm;exact ⟨o,es,ep,k _ o (Ne.symm hL) ho,r⟩
 ·refine (I.hok b u e).stay (λc v hc q=>k c v ?_ q) (λ_ q=>q) λ_ _ q=>q;rcases hc with z|z
  ·rw [z];exact nit b u e
  ·exact nit c _ z
def Inv.tok (I:Inv X pins σ H s) (t:Nat):Inv X pins σ H { s with toks:=t }:=I.un (h':=s.heap) (t':=t) Un.refl I.hok
def Inv.kept {t':Nat} (I:Inv X pins σ H s) (k:∀ b u,s.heap.get? b=some u->h'.get? b=some u):Inv X pins σ H { s with heap:=h',toks:=t' }:=I.un (Un.kept k) (I.hok.kept k)
def Inv.laid {a:Addr} {o:HO} {t':Nat} (I:Inv X pins σ H s) (k:∀ b u,s.heap.get? b=some u->h'.get? b=some u) (hp:s.heap.objs.size<=a) (new:VX X.prog X.w (upd H a o) h' a o) :
  Inv X pins σ (upd H a o) { s with heap:=h',toks:=t' }:=I.un (Un.laid k hp (I.hok.fresh hp)) (I.hok.laid k hp new)
def Inv.write {x e:Addr} {o:HO} {t':Nat} (I:Inv X pins σ H s) (mu:Mut (H x)) (he:e=x\/H e=some (.own x)) (k:∀ b u,b≠e->s.heap.get? b=some u->h'.get? b=some u) (heo:∃ u,h'.get? e=some u)
  (new:VX X.prog X.w (upd H x o) h' x o):Inv X pins σ (upd H x o) { s with heap:=h',toks:=t' }:=I.un (Un.write mu he k heo) (I.hok.write mu he k heo new)
def Inv.pins_of {pins':List (Addr×Obj)} (I:Inv X pins σ H s) (h:∀ p∈pins',s.heap.get? p.1=some p.2/\H p.1=none/\p.1≠X.env.locals/\p.1∉X.fs/\∀ v,p.2.data≠.cell v):Inv X pins' σ H s:=
 ⟨I.ok,I.os,I.bare,I.base,I.loc,I.cell,I.free,I.freeC,λp hp=>(List.mem_append.mp hp).elim (λz=>I.pin p (List.mem_append_left _ z)) (h p),I.hok,I.len⟩
def qaj {N:List Str} (hN:N.Nodup) {i j:Nat} {x:Str} (a:N[i]?=some x) (b:N[j]?=some x):i=j:=by
 obtain ⟨h1,e1⟩:=List.getElem?_eq_some_iff.mp a;obtain ⟨h2,e2⟩:=List.getElem?_eq_some_iff.mp b;exact (List.getElem_inj hN).mp (e1.trans e2.symm)
def K9 {M:Model} {A:Around} {E:Value->Shared->Prop} {i:Nat} {x:Str} {v:V} {u:Value} {Q:Unit->Shared->Prop} (I:Inv X pins σ H s) (hN:X.N.Nodup) (hi:X.N[i]?=some x) (hx:Loc X.env.scope x) (r:ZP v u)
  (h:∀ s',Inv X pins (σ.set i (some v)) H s'->(∃ a,Heap.SameBut a s.heap s'.heap/\(a=X.env.locals\/X.env.cells.lookup x=some a))->Q () s') (hf:X.fn x=true\/X.env.scope.names.lookup x=some .local:=by first|exact .inl rfl|exact .inr rfl|assumption):wpAny M A (storeName X.env x u) Q E s:=by
 obtain ⟨m,hn,hl⟩:=id I.loc;have hcls:(X.env.scope.kind==.class||(X.env.scope.kind==.module&&X.env.locals != X.env.globals))=false:=by rw [I.ok.kind];rfl
 have hiσ:i<σ.length:=by rw [I.len];exact (List.getElem?_eq_some_iff.mp hi).1
 have cne:=I.cne;have tracked:∀ {a:Addr} {h':Heap},(∃ o,s.heap.get? a=some o/\H a=none)->Heap.SameBut a s.heap h'->HOk X.prog X.w H h':=λ{a h'} ha hs b ob e=>by
  obtain ⟨_,_,hfree⟩:=ha;refine (I.hok b ob e).stay (λc w' hc q=>(hs.2 c ?_).trans q) (λ_ q=>q) λ_ _ q=>q;rintro rfl;rcases hc with rfl|hc
  ·rw [hfree] at e;cases e
  ·rw [hfree] at hc;cases hc
 rcases hx with hk|hk
 ·refine wpAny_storeName_local hk hn (λh' hn' hs=>?_) hcls;obtain ⟨oL,_,_,hoL,_⟩:=id hn;refine h _ ⟨I.ok,I.os,I.bare,⟨λb o e n hb hx=>?_,λb o e n hb hx=>?_,I.base.free,λb o e hx=>?_,I.base.tups,I.base.frzs,I.base.tbls⟩,⟨_,hn',λj y v' e1 e2 e3=>?_⟩,λy c e=>?_,I.free,I.freeC,λp hp=>?_,tracked ⟨oL,hoL,I.free⟩ hs,by simpa using I.len⟩ ⟨_,hs,.inl rfl⟩
  ·exact (hs.2 b (Nat.ne_of_lt (Nat.lt_of_lt_of_le (Heap.lt_size e) I.ok.above))).trans (I.base.keep b o e n hb hx)
  ·obtain ⟨sl,e1⟩:=I.base.slot b o e n hb hx;exact ⟨sl,(hs.2 b (Nat.ne_of_lt (Nat.lt_of_lt_of_le (Heap.lt_size e) I.ok.above))).trans e1⟩
  ·obtain ⟨o',e1⟩:=I.base.there b o e hx;exact ⟨o',(hs.2 b (Nat.ne_of_lt (Nat.lt_of_lt_of_le (Heap.lt_size e) I.ok.above))).trans e1⟩
  ·by_cases hj:j=i
   ·subst hj;rw [hi] at e1;cases e1;rw [List.getElem?_set_self hiσ] at e2;cases e2;exact ⟨u,r,.inl ⟨hk,by simp⟩⟩
   ·rw [List.getElem?_set_ne (Ne.symm hj)] at e2;obtain ⟨u',r',q⟩:=hl j y v' e1 e2 e3;refine ⟨u',r',?_⟩;rcases q with ⟨k,e⟩|⟨k,c,e,z⟩
    ·refine .inl ⟨k,?_⟩;have:y≠x:=λe=>hj (qaj hN e1 (e▸hi));simp [this,e]
    ·exact .inr ⟨k,c,e,z.sameBut hs (cne y c e)⟩
  ·obtain ⟨w',z⟩:=I.cell y c e;exact ⟨w',z.sameBut hs (cne y c e)⟩
  ·obtain ⟨e,n,ne,nf,d⟩:=I.pin p hp;exact ⟨(hs.2 p.1 ne).trans e,n,ne,nf,d⟩
 ·have hfn:X.fn x=true:=by
   rcases hf with z|z
   ·exact z
   ·rw [z] at hk;cases hk
  obtain ⟨c,hc⟩:=I.ok.has x (.inl hk);obtain ⟨w',z⟩:=I.cell x c hc;refine wpAny_storeName_cell I.ok.kind hk hc z (λh' hc' hs=>?_);obtain ⟨oc,hoc,hocd⟩:=id z;refine h { s with heap:=h' } ⟨I.ok,I.os,I.bare,⟨λb o e n hb hx=>?_,λb o e n hb hx=>?_,I.base.free,λb o e hx=>?_,I.base.tups,I.base.frzs,I.base.tbls⟩,⟨m,hn.sameBut hs (Ne.symm (cne x c hc)),λj y v' e1 e2 e3=>?_⟩,λy c' e=>?_,I.free,I.freeC,λp hp=>?_,tracked ⟨oc,hoc,I.freeC x c hc⟩ hs,by simpa using I.len⟩ ⟨c,hs,.inr hc⟩
  ·exact (hs.2 b (Nat.ne_of_lt (Nat.lt_of_lt_of_le (Heap.lt_size e) (I.ok.cab x c hfn hc)))).trans (I.base.keep b o e n hb hx)
  ·obtain ⟨sl,e1⟩:=I.base.slot b o e n hb hx;exact ⟨sl,(hs.2 b (Nat.ne_of_lt (Nat.lt_of_lt_of_le (Heap.lt_size e) (I.ok.cab x c hfn hc)))).trans e1⟩
  ·obtain ⟨o',e1⟩:=I.base.there b o e hx;exact ⟨o',(hs.2 b (Nat.ne_of_lt (Nat.lt_of_lt_of_le (Heap.lt_size e) (I.ok.cab x c hfn hc)))).trans e1⟩
  ·by_cases hj:j=i
   ·subst hj;rw [hi] at e1;cases e1;rw [List.getElem?_set_self hiσ] at e2;cases e2;exact ⟨u,r,.inr ⟨.inl hk,c,hc,hc'⟩⟩
   ·rw [List.getElem?_set_ne (Ne.symm hj)] at e2;obtain ⟨u',r',q⟩:=hl j y v' e1 e2 e3;refine ⟨u',r',?_⟩;rcases q with q|⟨k,c',e,z'⟩
    ·exact .inl q
    ·refine .inr ⟨k,c',e,z'.sameBut hs ?_⟩;rintro rfl;exact hj (qaj hN e1 (I.ok.inj _ _ _ e hc▸hi))
  ·by_cases hcc:c'=c
   ·subst hcc;exact ⟨_,hc'⟩
   ·obtain ⟨w2,z2⟩:=I.cell y c' e;exact ⟨w2,z2.sameBut hs hcc⟩
  ·obtain ⟨e,n,ne,nf,d⟩:=I.pin p hp;refine ⟨(hs.2 p.1 ?_).trans e,n,ne,nf,d⟩;intro q;rw [q,hoc] at e;have q':oc=p.2:=Option.some.inj e;exact d w' (by rw [← q'];exact hocd)
def EX {M:Model} {A:Around} {E:Value->Shared->Prop} {i:Nat} {x:Str} {v:V} {u:Value} {Q:Unit->Shared->Prop} (I:Inv X pins σ H s) (hN:X.N.Nodup) (hi:X.N[i]?=some x) (hx:Loc X.env.scope x) (r:ZP v u)
  (h:∀ s',Inv X pins (σ.set i (some v)) H s'->Q () s') (hf:X.fn x=true\/X.env.scope.names.lookup x=some .local:=by first|exact .inl rfl|exact .inr rfl|assumption):wpAny M A (storeName X.env x u) Q E s:=
 K9 I hN hi hx r (λs' I' _=>h s' I') hf
def Inv.call' {s':Shared} {ch:List Addr} (I:Inv X pins σ H s) (ho:s'.os=s.os) (u:Un (frs X.stack) ch H H' s.heap s'.heap) (hok:HOk X.prog X.w H' s'.heap) (hg:AllBare s'.gens)
  (hch:∀ b∈ch,(b∈X.ex\/X.s₀.heap.objs.size<=b)/\b≠X.env.locals/\(∀ x c,X.env.cells.lookup x=some c->c≠b)/\∀ p∈X.pn++pins,p.1≠b):Inv X pins σ H' s':=by
 obtain ⟨h',g',d',t',o'⟩:=s';have e:o'=s.os:=ho;subst e;exact I.call (g':=g') (t':=t') (d':=d') u hok hg hch
end
abbrev XK:=Value->Option Addr->Hp->Prop
abbrev St:=List (Option V)
abbrev VK:=V->Hp->Prop
abbrev TE:=St->Hp->VK->Prop
abbrev TT:=St->Hp->(Bool->Hp->Prop)->Prop
abbrev TA:=St->Hp->(List V->Hp->Prop)->Prop
structure Ends where
 nx:St->Hp->Prop
 rt:VK
 bk:St->Hp->Prop:=λ_ _=>False
 ct:St->Hp->Prop:=λ_ _=>False
abbrev TS:=Ends->St->Hp->Prop
def EP (X:Cx) (pins:List (Addr×Obj)) (σ:St) (Q:VK) (u:Value) (s':Shared):Prop:=∃ v H',Inv X pins σ H' s'/\ZP v u/\Q v H'
def TP (X:Cx) (pins:List (Addr×Obj)) (σ:St) (Q:Bool->Hp->Prop) (b:Bool) (s':Shared):Prop:=∃ H',Inv X pins σ H' s'/\Q b H'
def AP (X:Cx) (pins:List (Addr×Obj)) (σ:St) (Q:List V->Hp->Prop) (us:List Value) (s':Shared):Prop:=∃ vs H',Inv X pins σ H' s'/\jh vs us/\Q vs H'
def SP (X:Cx) (pins:List (Addr×Obj)) (D:Ends) (f:Flow) (s':Shared):Prop:=
 match f with
 |.next=>∃ σ' H',Inv X pins σ' H' s'/\D.nx σ' H'
 |.brk=>∃ σ' H',Inv X pins σ' H' s'/\D.bk σ' H'
 |.cont=>∃ σ' H',Inv X pins σ' H' s'/\D.ct σ' H'
 |.ret u=>∃ v σ' H',Inv X pins σ' H' s'/\ZP v u/\D.rt v H'
def PE (X:Cx) (e:Expr) (t:TE):Prop:=
 ∀ (pins:List (Addr×Obj)) (s:Shared) (σ:St) (H:Hp) (Q:VK),Inv X pins σ H s->t σ H Q->wpAny (model X.prog X.w) X.A (eval e X.env) (EP X pins σ Q) X.xe s
def PT (X:Cx) (e:Expr) (t:TT):Prop:=
 ∀ (pins:List (Addr×Obj)) (s:Shared) (σ:St) (H:Hp) (Q:Bool->Hp->Prop),Inv X pins σ H s->t σ H Q->wpAny (model X.prog X.w) X.A (isTrue e X.env (eval e X.env)) (TP X pins σ Q) X.xe s
def PW (X:Cx) (e:Expr) (t:TT):Prop:=
 ∀ (whole:Sem Value) (pins:List (Addr×Obj)) (s:Shared) (σ:St) (H:Hp) (Q:Bool->Hp->Prop),Inv X pins σ H s->t σ H Q->wpAny (model X.prog X.w) X.A (isTrue e X.env whole) (TP X pins σ Q) X.xe s
def PW.pt {X:Cx} {e:Expr} {t:TT} (h:PW X e t):PT X e t:=h _
def PA (X:Cx) (es:List Expr) (t:TA):Prop:=
 ∀ (pos:Pos) (pins:List (Addr×Obj)) (s:Shared) (σ:St) (H:Hp) (Q:List V->Hp->Prop),Inv X pins σ H s->t σ H Q->wpAny (model X.prog X.w) X.A (spliced (backTo pos (starEach es X.env))) (AP X pins σ Q) X.xe s
def PS (X:Cx) (st:Stmt) (t:TS):Prop:=
 ∀ (pins:List (Addr×Obj)) (s:Shared) (σ:St) (H:Hp) (D:Ends),Inv X pins σ H s->t D σ H->wpAny (model X.prog X.w) X.A (exec st X.env) (SP X pins D) X.xe s
def PSs (X:Cx) (st:List Stmt) (t:TS):Prop:=
 ∀ (pins:List (Addr×Obj)) (s:Shared) (σ:St) (H:Hp) (D:Ends),Inv X pins σ H s->t D σ H->wpAny (model X.prog X.w) X.A (execs st X.env) (SP X pins D) X.xe s
def thn {α:Type} {t:Sem α} {Q Q':α->Shared->Prop} {M:Model} {A:Around} {E:Value->Shared->Prop} {s:Shared} (h:wpAny M A t Q E s) (hQ:∀ a s,Q a s->Q' a s):wpAny M A t Q' E s:=wpAny_mono h hQ λ_ _ x=>x
section
variable {X:Cx}
def qq7 (i:Nat):TE:=λσ H Q=>∃ v,σ[i]?=some (some v)/\Q v H
def tC (v:V):TE:=λ_ H Q=>Q v H
def qnm {i:Nat} {x:Str} {pos:Pos} (hN:X.N[i]?=some x) (hv:Vis X.env.scope x) (hd:(x==("__debug__" : Str))=false:=by decide) (hcd:(x==("__classdict__" : Str))=false:=by decide):PE X (.Name x pos) (qq7 i):=by
 intro pins s σ H Q I h;obtain ⟨v,e,h⟩:=h;obtain ⟨m,hn,hl⟩:=I.loc;obtain ⟨u,r,l⟩:=hl i x v hN e hv;have fin:EP X pins σ Q u s:=⟨v,H,I,r,h⟩
 rcases l with ⟨hk,hm⟩|⟨hk,c,hc,hcell⟩
 ·exact wpAny_Name (wpAny_loadName_local I.ok.kind hk hn hm fin) hd
 ·rcases hk with hk|hk
  ·exact wpAny_Name (wpAny_loadName_cell I.ok.kind hk hc hcell fin) hd
  ·exact wpAny_Name (wpAny_loadName_free I.ok.kind hk hc hcell fin hcd) hd
def qjb {i j pos}:PE X (.Constant (.int i) j pos) (tC (.int i)):=λ_ _ _ H _ I h=>wpAny_Constant_int ⟨.int i,H,I.tok _,⟨_,rfl⟩,h⟩
def qqi {b j pos}:PE X (.Constant (.bool b) j pos) (tC (.bl b)):=λ_ _ _ H _ I h=>Constant_bool ⟨.bl b,H,I,rfl,h⟩
def qlN {j pos}:PE X (.Constant .none j pos) (tC .non):=λ_ _ _ H _ I h=>Constant_none ⟨.non,H,I,rfl,h⟩
def qiY {x j pos}:PE X (.Constant (.str x) j pos) (tC (.str x)):=λ_ _ _ H _ I h=>Calls.Constant_str ⟨.str x,H,I.tok _,⟨_,rfl⟩,h⟩
def Gl (X:Cx) (x:Str):Prop:=X.env.kindOf x=some .globalImplicit
def qcU {E:Value->Shared->Prop} {pins:List (Addr×Obj)} {s:Shared} {σ:St} {H:Hp} {x:Str} {u:Value} {pos:Pos} {Q:Value->Shared->Prop} (I:Inv X pins σ H s) (hg:Gl X x) (hm:X.mg x=some u) (h:Q u s)
  (hd:(x==("__debug__" : Str))=false:=by decide):wpAny (model X.prog X.w) X.A (eval (.Name x pos) X.env) Q E s:=
 Calls.Name_function_global I.ok.kind hg (Calls.loadGlobal_global (by rw [I.ok.glob];exact I.mod.glob.keeps I.bk) hm h) hd
def SA {E:Value->Shared->Prop} {pins:List (Addr×Obj)} {s:Shared} {σ:St} {H:Hp} {x:Str} {u:Value} {pos:Pos} {Q:Value->Shared->Prop} (I:Inv X pins σ H s) (hg:Gl X x) (hm:X.mg x=none) (hv:bootBuiltins x=some u) (h:Q u s)
  (hn:x≠"__name__" := by decide) (hd:(x==("__debug__" : Str))=false:=by decide):wpAny (model X.prog X.w) X.A (eval (.Name x pos) X.env) Q E s:=by
 obtain ⟨mb,h1,h2⟩:=I.mod.blt;exact Calls.Name_function_global I.ok.kind hg (Calls.loadGlobal_builtin (by rw [I.ok.glob];exact I.mod.glob.keeps I.bk) hm (by rw [I.ok.blt];exact h1.keeps I.bk) ((h2 x hn).trans hv) h) hd
def qbg {x:Str} {v:V} {u:Value} {pos:Pos} (hg:Gl X x) (hm:X.mg x=some u) (r:ZP v u) (hd:(x==("__debug__" : Str))=false:=by decide):PE X (.Name x pos) (tC v):=
 λ_ _ _ H _ I h=>qcU I hg hm ⟨v,H,I,r,h⟩ hd
def NL {x:Str} {v:V} {u:Value} {pos:Pos} (hg:Gl X x) (hm:X.mg x=none) (hv:bootBuiltins x=some u) (r:ZP v u) (hn:x≠"__name__" := by decide) (hd:(x==("__debug__" : Str))=false:=by decide):PE X (.Name x pos) (tC v):=
 λ_ _ _ H _ I h=>SA I hg hm hv ⟨v,H,I,r,h⟩ hn hd
variable {a b:Expr} {ta tb:TE} {pos:Pos}
def tB (t:TE):TT:=λσ H Q=>t σ H λx H1=>∃ c,x=.bl c/\Q c H1
def qmN {e:Expr} {t:TE} (h:PE X e t) (he:∀ whole,isTrue e X.env whole=(do let v←whole;standAt e.pos;holding [v] (truthy v)):=by intro _;rfl):PT X e (tB t):=by
 intro pins s σ H Q I hw;refine isTrue_plain (thn (h pins s σ H _ I hw) λv s1 ⟨x,H1,I1,r1,q1⟩=>?_) (he _);obtain ⟨d,rfl,q⟩:=q1;cases r1;exact wpAny_truthy_bool ⟨H1,I1,q⟩
variable {tA tB':TT} {U3:List Expr}
def tOr (t u:TT):TT:=λσ H Q=>t σ H λc H1=>if c=true then Q true H1 else u σ H1 Q
def qrv (t:TT):TT:=λσ H Q=>t σ H λc H1=>Q (!c) H1
def qjV (ha:PT X a tA):PW X (.BoolOp .Or [a] pos) tA:=by
 intro wh pins s σ H Q I h;refine isTrue_or (thn (ha pins s σ H Q I h) λc s1 e=>?_);cases c with
 |false=>exact isTrue_or_nil e
 |true=>exact e
def qpV (ha:PT X a tA) (hb:PW X (.BoolOp .Or (b::U3) pos) tB'):PW X (.BoolOp .Or (a::b::U3) pos) (tOr tA tB'):=by
 intro wh pins s σ H Q I h;refine isTrue_or (thn (ha pins s σ H _ I h) λc s1 ⟨H1,I1,q1⟩=>?_);cases c with
 |true=>exact ⟨H1,I1,q1⟩
 |false=>exact hb wh pins s1 σ H1 Q I1 q1
def qmX (ha:PT X a tA):PT X (.UnaryOp .Not a pos) (qrv tA):=by
 intro pins s σ H Q I h;exact isTrue_not (ha pins s σ H (λc H1=>Q (!c) H1) I h)
def qoE (ta tb:TE):TE:=λσ H Q=>ta σ H λx H1=>∃ c,x=.bl c/\if c=true then tb σ H1 Q else Q (.bl false) H1
def qol (ta:TE):TE:=λσ H Q=>ta σ H λx H1=>∃ c,x=.bl c/\Q (.bl (!c)) H1
def qkR {op} {t:TE} (h:PE X a t):PE X (.BoolOp op [a] pos) t:=λpins s σ H Q I hw=>BoolOp_one (h pins s σ H Q I hw)
def qla (ha:PE X a ta) (hb:PE X (.BoolOp .And (b::U3) pos) tb):PE X (.BoolOp .And (a::b::U3) pos) (qoE ta tb):=by
 intro pins s σ H Q I h;refine BoolOp_and (thn (ha pins s σ H _ I h) λv s1 ⟨x,H1,I1,r1,q1⟩=>?_);obtain ⟨c,rfl,q1⟩:=q1;cases r1;refine wpAny_truthy_bool ?_;cases c with
 |true=>exact hb pins s1 σ H1 Q I1 q1
 |false=>exact ⟨.bl false,H1,I1,rfl,q1⟩
def qkF (ha:PE X a ta):PE X (.UnaryOp .Not a pos) (qol ta):=by
 intro pins s σ H Q I h;refine UnaryOp_ (thn (ha pins s σ H _ I h) λv s1 ⟨x,H1,I1,r1,q1⟩=>?_);obtain ⟨c,rfl,q1⟩:=q1;cases r1;exact not_of (wpAny_truthy_bool ⟨.bl (!c),H1,I1,rfl,q1⟩)
def tIf (t:TT) (ta tb:TE):TE:=λσ H Q=>t σ H λc H1=>if c=true then ta σ H1 Q else tb σ H1 Q
def qdF {c:Expr} (hc:PT X c tA) (ha:PE X a ta) (hb:PE X b tb):PE X (.IfExp c a b pos) (tIf tA ta tb):=by
 intro pins s σ H Q I h;refine wpAny_IfExp (thn (hc pins s σ H _ I h) λd s1 ⟨H1,I1,q1⟩=>?_);cases d with
 |true=>exact ha pins s1 σ H1 Q I1 q1
 |false=>exact hb pins s1 σ H1 Q I1 q1
end
def SqL (K:Frg) (H:Hp) (a:Addr) (xs:List V):Prop:=
 Rd H a (.lst xs) ∨
  ∃ (o:Obj) (its:Array Value) (n:Nat),K.lookup a=some o/\o.cls=.type "list"/\o.dict=none/\o.data=.seq its n/\its.size<=sizeLine/\jh xs its.toList
def SqT (K:Frg) (H:Hp) (a:Addr) (xs:List V):Prop:=
 Rd H a (.tup xs) ∨
  ∃ (o:Obj) (its:Array Value) (n:Nat),K.lookup a=some o/\o.cls=.type "tuple"/\o.data=.seq its n/\its.size<=sizeLine/\jh xs its.toList/\o.dict=none
def qrw:Value->Option V
 |.none=>some .non
 |.bool b=>some (.bl b)
 |.int i _=>some (.int i)
 |.str x _=>some (.str x)
 |.bytes b _=>some (.byt b)
 |.float b _=>some (.flt b)
 |.ref a=>some (.ref a)
 |.type n=>some (.ty n)
 |_=>none
def ZP.abs {x:V} {u:Value} (r:ZP x u):qrw u=some x:=by
 cases x with
 |non=>cases r;rfl
 |bl _=>cases r;rfl
 |int _=>obtain ⟨t,rfl⟩:=r;rfl
 |str _=>obtain ⟨t,rfl⟩:=r;rfl
 |byt _=>obtain ⟨t,rfl⟩:=r;rfl
 |flt _=>obtain ⟨t,rfl⟩:=r;rfl
 |ref _=>cases r;rfl
 |ty _=>cases r;rfl
def ZP.inj {x y:V} {u:Value} (r:ZP x u) (q:ZP y u):x=y:=Option.some.inj (r.abs.symm.trans q.abs)
def jh.inj:∀ {xs ys:List V} {us:List Value},jh xs us->jh ys us->xs=ys
 |_,_,_,.nil,.nil=>rfl
 |_,_,_,.cons r t,.cons r' t'=>by rw [r.inj r',jh.inj t t']
section
variable {X:Cx} {pins:List (Addr×Obj)} {σ:St} {H:Hp} {s:Shared} {a:Addr} {xs ys:List V}
def SqL.of {K:Frg} (h:H a=some (.lst xs)):SqL K H a xs:=.inl (.inl h)
def SqT.of {K:Frg} (h:H a=some (.tup xs)):SqT K H a xs:=.inl (.inl h)
def Inv.list (I:Inv X pins σ H s) (h:SqL X.K H a xs):∃ its:List Value,jh xs its/\PlainL s.heap a its.toArray/\xs.length<=sizeLine:=by
 rcases h with h|⟨o,its,n,hk,hc,hd,hs,hz,r⟩
 ·obtain ⟨z,its,n,r,e⟩:=h.ok I.hok;exact ⟨its,r,⟨_,n,e,rfl,rfl,rfl⟩,z⟩
 ·refine ⟨its.toList,r,⟨o,n,I.kIn a o hk,hc,hd,by simpa using hs⟩,?_⟩;have e:=r.length;simp only [Array.length_toList] at e;omega
def Inv.tuple (I:Inv X pins σ H s) (h:SqT X.K H a xs):∃ its:List Value,jh xs its/\IsTup s.heap a its.toArray/\xs.length<=sizeLine:=by
 rcases h with h|⟨o,its,n,hk,hc,hs,hz,r,_⟩
 ·obtain ⟨z,its,r,p⟩:=h.ok I.hok;exact ⟨its,r,p.tup,z⟩
 ·refine ⟨its.toList,r,⟨o,I.kIn a o hk,hc,n,by simpa using hs⟩,?_⟩;have e:=r.length;simp only [Array.length_toList] at e;omega
def Inv.list_inj (I:Inv X pins σ H s) (h:SqL X.K H a xs) (h':SqL X.K H a ys):xs=ys:=by
 obtain ⟨its,r,⟨o,n,e,_,_,d⟩,_⟩:=I.list h;obtain ⟨its',r',⟨o',n',e',_,_,d'⟩,_⟩:=I.list h';rw [e] at e';cases e';rw [d] at d';injection d' with d1 _;have:its=its':=by simpa using congrArg Array.toList d1
 subst this;exact r.inj r'
def Inv.tuple_inj (I:Inv X pins σ H s) (h:SqT X.K H a xs) (h':SqT X.K H a ys):xs=ys:=by
 obtain ⟨its,r,⟨o,e,_,n,d⟩,_⟩:=I.tuple h;obtain ⟨its',r',⟨o',e',_,n',d'⟩,_⟩:=I.tuple h';rw [e] at e';cases e';rw [d] at d';injection d' with d1 _;have:its=its':=by simpa using congrArg Array.toList d1
 subst this;exact r.inj r'
end
abbrev Cx.wish (X:Cx) (E:Value->Shared->Prop):Cx:={ X with xe:=E }
abbrev Cx.nox (X:Cx):Cx:=X.wish λ_ _=>False
def Cx.Ok.wish {X:Cx} (ok:X.Ok) (E:Value->Shared->Prop):(X.wish E).Ok:=
 ⟨ok.mod,ok.kind,ok.glob,ok.blt,ok.above,ok.inj,ok.has,ok.cab,ok.hd,ok.frames,ok.stk,ok.exf,ok.bs,ok.bsz,ok.noex,ok.exfs,ok.funs,ok.frf⟩
def Cx.Ok.unwish {X:Cx} {E:Value->Shared->Prop} (ok:(X.wish E).Ok):X.Ok:=
 ⟨ok.mod,ok.kind,ok.glob,ok.blt,ok.above,ok.inj,ok.has,ok.cab,ok.hd,ok.frames,ok.stk,ok.exf,ok.bs,ok.bsz,ok.noex,ok.exfs,ok.funs,ok.frf⟩
section
variable {X:Cx} {pins:List (Addr×Obj)} {σ:St} {H:Hp} {s:Shared} {E:Value->Shared->Prop}
def Inv.wish (I:Inv X pins σ H s) (E:Value->Shared->Prop):Inv (X.wish E) pins σ H s:=⟨I.ok.wish E,I.os,I.bare,I.base,I.loc,I.cell,I.free,I.freeC,I.pin,I.hok,I.len⟩
def Inv.unwish (I:Inv (X.wish E) pins σ H s):Inv X pins σ H s:=⟨I.ok.unwish,I.os,I.bare,I.base,I.loc,I.cell,I.free,I.freeC,I.pin,I.hok,I.len⟩
def SP.unwish {D:Ends} {f:Flow} {s':Shared} (h:SP (X.wish E) pins D f s'):SP X pins D f s':=by
 cases f with
 |next=>obtain ⟨σ',H',I,q⟩:=h;exact ⟨σ',H',I.unwish,q⟩
 |brk=>obtain ⟨σ',H',I,q⟩:=h;exact ⟨σ',H',I.unwish,q⟩
 |cont=>obtain ⟨σ',H',I,q⟩:=h;exact ⟨σ',H',I.unwish,q⟩
 |ret u=>obtain ⟨v,σ',H',I,r,q⟩:=h;exact ⟨v,σ',H',I.unwish,r,q⟩
def PSs.nox {st:List Stmt} {t:TS} (h:PSs X.nox st t):PSs X st t:=λpins s σ H D I hw=>
 wpAny_mono (h pins s σ H D (I.wish _) hw) (λ_ _ q=>q.unwish) λ_ _ z=>False.elim z
end
section
variable {X:Cx} {st:Stmt} {U3:List Stmt} {t u:TS} {e:Expr} {te:TE} {pos:Pos}
def qom:TS:=λD σ H=>D.nx σ H
def qrW (t u:TS):TS:=λD σ H=>t { D with nx:=u D } σ H
def qir:PSs X [] qom:=λ_ _ σ H _ I h=>wpAny_execs_nil ⟨σ,H,I,h⟩
def qdU (h1:PS X st t) (h2:PSs X U3 u):PSs X (st::U3) (qrW t u):=by
 intro pins s σ H D I h;refine wpAny_execs_cons (thn (h1 pins s σ H { D with nx:=u D } I h) λf s1 q=>?_);cases f with
 |next=>
  obtain ⟨σ',H',I',q⟩:=q;exact h2 pins s1 σ' H' D I' q
 |ret v=>exact q
 |brk=>exact q
 |cont=>exact q
def qhz (h1:PS X st t):PSs X [st] t:=by
 intro pins s σ H D I h;refine wpAny_execs_cons (thn (h1 pins s σ H D I h) λf s1 q=>?_);cases f with
 |next=>exact wpAny_execs_nil q
 |ret v=>exact q
 |brk=>exact q
 |cont=>exact q
def Inv.quiet {pins:List (Addr×Obj)} {σ:St} {H:Hp} {s:Shared} (I:Inv X pins σ H s):interactive X.env=false:=by simp [interactive,I.ok.kind]
def qp4 (te:TE):TS:=λD σ H=>te σ H λ_ H1=>D.nx σ H1
def qik (he:PE X e te) (hs:swapsWith e none pos.line X.env=pure false:=by rfl):PS X (.Expr e pos) (qp4 te):=by
 intro pins s σ H D I h;exact wpAny_Expr_any (thn (he pins s σ H _ I h) λv s1 ⟨x,H1,I1,r1,q1⟩=>⟨σ,H1,I1,q1⟩) I.quiet hs
def qrz (te:TE):TS:=λD σ H=>te σ H D.rt
def qmA (he:PE X e te):PS X (.Return (some e) pos) (qrz te):=by
 intro pins s σ H D I h;exact wpAny_Return_some (thn (he pins s σ H _ I h) λv s1 ⟨x,H1,I1,r1,q1⟩=>⟨x,σ,H1,I1,r1,q1⟩)
def qrQ (c:TT) (t u:TS):TS:=λD σ H=>c σ H λb H1=>if b=true then t D σ H1 else u D σ H1
def qoX {c:Expr} {a b:List Stmt} {tc:TT} (hc:PT X c tc) (ha:PSs X a t) (hb:PSs X b u):PS X (.If c a b pos) (qrQ tc t u):=by
 intro pins s σ H D I h;refine wpAny_If (thn (hc pins s σ H _ I h) λd s1 ⟨H1,I1,q1⟩=>?_);cases d with
 |true=>exact ha pins s1 σ H1 D I1 q1
 |false=>exact hb pins s1 σ H1 D I1 q1
end
abbrev TG:=V->St->Hp->(St->Hp->Prop)->Prop
abbrev TGs:=List V->St->Hp->(St->Hp->Prop)->Prop
def PG (X:Cx) (target:Expr) (t:TG):Prop:=
 ∀ (pins:List (Addr×Obj)) (s:Shared) (σ:St) (H:Hp) (v:V) (u:Value) (Q:St->Hp->Prop),Inv X pins σ H s->ZP v u->t v σ H Q ->
  wpAny (model X.prog X.w) X.A (assign target X.env u) (λ_ s'=>∃ σ' H',Inv X pins σ' H' s'/\Q σ' H') X.xe s
def PGs (X:Cx) (ts:List Expr) (t:TGs):Prop:=
 ∀ (pins:List (Addr×Obj)) (s:Shared) (σ:St) (H:Hp) (vs:List V) (us:List Value) (Q:St->Hp->Prop),Inv X pins σ H s->jh vs us->t vs σ H Q ->
  wpAny (model X.prog X.w) X.A (assignInOrder ((assignEach ts X.env).map (·.2)) us) (λ_ s'=>∃ σ' H',Inv X pins σ' H' s'/\Q σ' H') X.xe s
abbrev qor:=V->V->V->Hp->(Hp->Prop)->Prop
def qq1 (X:Cx) (t:qor):Prop:=
 ∀ (pins:List (Addr×Obj)) (s:Shared) (σ:St) (H:Hp) (o i v:V) (ov iv u:Value) (Q:Hp->Prop),Inv X pins σ H s->ZP o ov->ZP i iv->ZP v u->t o i v H Q ->
  wpAny (model X.prog X.w) X.A (setItem ov iv u) (λ_ s'=>∃ H',Inv X pins σ H' s'/\Q H') X.xe s
abbrev TIp:=V->V->Hp->VK->Prop
def PIp (X:Cx) (op:Operator) (t:TIp):Prop:=
 ∀ (pins:List (Addr×Obj)) (s:Shared) (σ:St) (H:Hp) (x y:V) (v u:Value) (Q:VK),Inv X pins σ H s->ZP x v->ZP y u->t x y H Q ->
  wpAny (model X.prog X.w) X.A (inplaceOp op v u) (EP X pins σ Q) X.xe s
section
variable {X:Cx} {pos:Pos}
def qgZ (i:Nat):TG:=λv σ H Q=>Q (σ.set i (some v)) H
def qia {i:Nat} {x:Str} (hN:X.N.Nodup) (hi:X.N[i]?=some x) (hx:Loc X.env.scope x) (hf:X.fn x=true\/X.env.scope.names.lookup x=some .local:=by first|exact .inl rfl|exact .inr rfl|assumption):PG X (.Name x pos) (qgZ i):=by
 intro pins s σ H v u Q I r h;exact wpAny_assign_Name (EX I hN hi hx r (λs' I'=>⟨_,H,I',h⟩) hf)
def qci:TGs:=λvs σ H Q=>vs=[]/\Q σ H
def Z3 (t:TG) (u:TGs):TGs:=λvs σ H Q=>∃ v r,vs=v::r/\t v σ H λσ' H'=>u r σ' H' Q
def qig:PGs X [] qci:=by
 intro pins s σ H vs us Q I r h;obtain ⟨e,h⟩:=h;subst e;cases r;exact assignInOrder_nil ⟨σ,H,I,h⟩
def qei {e:Expr} {es:List Expr} {t:TG} {u:TGs} (h1:PG X e t) (h2:PGs X es u)
  (hs:(assignEach (e::es) X.env).map (·.2)=assign e X.env::(assignEach es X.env).map (·.2):=by rfl):PGs X (e::es) (Z3 t u):=by
 intro pins s σ H vs us Q I r h;obtain ⟨v,vr,e1,h⟩:=h;subst e1;cases r with
 |cons r rr=>
  rw [hs];refine assignInOrder_cons (thn (h1 pins s σ H _ _ _ I r h) λ_ s1 ⟨σ1,H1,I1,q1⟩=>?_);exact h2 pins s1 σ1 H1 _ _ Q I1 rr q1
def qdl (K:Frg) (n:Nat) (t:TGs):TG:=λv σ H Q=>∃ a xs,v=.ref a/\SqT K H a xs/\xs.length=n/\t xs σ H Q
def qjq {es:List Expr} {k:Nat} {t:TGs} {n:Nat} (hc:X.calm=true) (h:PGs X es t)
  (hn:(assignEach es X.env).length=n:=by rfl) (hst:(assignEach es X.env).findIdx? (·.1)=none:=by rfl):PG X (.Tuple es k pos) (qdl X.K n t):=by
 intro pins s σ H v u Q I r hw;obtain ⟨a,xs,e1,hq,hl,hw⟩:=hw;subst e1;cases r;obtain ⟨its,rv,ht,hz⟩:=I.tuple hq;refine assign_Tuple_tuple (I.ok.hd hc) ht (by simp [hn,← hl,rv.length]) hst λh' hx=>?_;have I1:Inv X pins σ H { s with heap:=h' }:=I.kept (t':=s.toks) λb o e=>hx b o (Nat.ne_of_lt (Heap.lt_size e)) e;exact h pins _ σ H xs _ Q I1 (by simpa using rv) hw
def qro (to ti:TE) (t:qor):TG:=λv σ H Q=>to σ H λo H1=>ti σ H1 λi H2=>t o i v H2 λH3=>Q σ H3
def qne {o i:Expr} {to ti:TE} {t:qor} (ho:PE X o to) (hi:PE X i ti) (hs:qq1 X t)
  (ha:∀ v,assign (.Subscript o i pos) X.env v=(do
   let ov←holding [v] (eval o X.env)
   let iv←holding [v,ov] (eval i X.env)
   standAt pos
   holding [v,ov,iv] (setItem ov iv v)
   release [v,ov,iv] []):=by intro _;rfl):PG X (.Subscript o i pos) (qro to ti t):=by
 intro pins s σ H v u Q I r h;rw [ha];refine wpAny_bind (wpAny_holding (thn (ho pins s σ H _ I h) λov s1 ⟨x,H1,I1,r1,q1⟩=>?_));refine wpAny_bind (wpAny_holding (thn (hi pins s1 σ H1 _ I1 q1) λiv s2 ⟨y,H2,I2,r2,q2⟩=>?_));refine wpAny_bind (wpAny_standAt (wpAny_bind (wpAny_holding (thn (hs pins s2 σ H2 x y v ov iv u _ I2 r1 r2 r q2) λ_ s3 ⟨H3,I3,q3⟩=>?_))));exact wpAny_release ⟨σ,H3,I3,q3⟩
def qpc (te:TE) (g:TG):TS:=λD σ H=>te σ H λx H1=>g x σ H1 D.nx
def qjs {tg e:Expr} {te:TE} {g:TG} (he:PE X e te) (hg:PG X tg g) (hs:swapsWithSole [tg] e pos.line X.env=pure false:=by rfl) (hw:swappedStores [tg] e X.env=pure none:=by rfl)
  (h1:(assignEach [tg] X.env).map (·.2)=[assign tg X.env]:=by rfl):PS X (.Assign [tg] e pos) (qpc te g):=by
 intro pins s σ H D I h;refine wpAny_Assign_stores (thn (he pins s σ H _ I h) λv s1 ⟨x,H1,I1,r1,q1⟩=>?_) hs hw;rw [h1];exact thn (hg pins s1 σ H1 x v _ I1 r1 q1) λ_ s2 q=>q
def qjO {i:Nat} {x:Str} {e:Expr} {te:TE} {pos':Pos} (hN:X.N.Nodup) (hi:X.N[i]?=some x) (hx:Loc X.env.scope x) (he:PE X e te) (hs:swapsWith e (some (.Name x pos')) pos.line X.env=pure false:=by rfl) (hf:X.fn x=true\/X.env.scope.names.lookup x=some .local:=by first|exact .inl rfl|exact .inr rfl|assumption) :
  PS X (.Assign [.Name x pos'] e pos) (qpc te (qgZ i)):=by
 intro pins s σ H D I h;refine wpAny_Assign_Name (thn (he pins s σ H _ I h) λv s1 ⟨y,H1,I1,r1,q1⟩=>?_) hs;exact EX I1 hN hi hx r1 (λs2 I2=>⟨_,H1,I2,q1⟩) hf
def qrV (i j:Nat) (ta:TA):TS:=λD σ H=>ta σ H λvs H1=>∃ v w,vs=[v,w]/\D.nx ((σ.set i (some v)).set j (some w)) H1
def qlg {i j:Nat} {x y:Str} {a b:Expr} {ta:TA} {px py pt:Pos} {kt k2 pt2} (hc:X.calm=true) (hN:X.N.Nodup) (hi:X.N[i]?=some x) (hj:X.N[j]?=some y) (hij:i≠j)
  (hx:X.env.scope.names.lookup x=some .local) (hy:X.env.scope.names.lookup y=some .local) (ha:PA X [a,b] ta)
  (hw:swappedStores [.Tuple [.Name x px,.Name y py] kt pt] (.Tuple [a,b] k2 pt2) X.env=pure (some [x,y]))
  (hs:swapsWithSole [.Tuple [.Name x px,.Name y py] kt pt] (.Tuple [a,b] k2 pt2) pos.line X.env=pure false:=by rfl) :
  PS X (.Assign [.Tuple [.Name x px,.Name y py] kt pt] (.Tuple [a,b] k2 pt2) pos) (qrV i j ta):=by
 intro pins s σ H D I h;rw [exec_Assign_arm];refine wpAny_bind (wpAny_standAt ?_);rw [hs];refine wpAny_bind (wpAny_pure ?_);rw [if_neg (by decide)];refine wpAny_bind (Tuple_ (thn (ha _ pins s σ H _ I h) λus s1 ⟨vs,H1,I1,r1,q1⟩=>?_));obtain ⟨v,w,e1,q1⟩:=q1;subst e1;obtain ⟨u1,u2,rfl,rv,rw'⟩:∃ u1 u2,us=[u1,u2]/\ZP v u1/\ZP w u2:=by
  cases r1 with
  |cons p q=>
   cases q with
   |cons p' q'=>
    cases q';exact ⟨_,_,rfl,p,p'⟩
 refine wpAny_newObj_type ?_ (by show 2<=sizeLine;decide);have I2:Inv X pins σ H1 { s1 with heap:=s1.heap.push { cls:=.type "tuple",data:=.seq [u1,u2].toArray } }:=I1.kept (t':=s1.toks) λb o e=>Heap.get?_push_of_some _ e;rw [hw];refine wpAny_bind (wpAny_pure ?_);show wpAny (model X.prog X.w) X.A (do rule "assign.swapped-stores";let items←unpackItems (.ref s1.heap.objs.size) 2 none;assignInOrder [λv=>bindName X.env y v,λv=>bindName X.env x v] items.reverse;pure Flow.next) _ _ _;refine wpAny_bind (wpAny_rule (wpAny_bind (unpackItems_tuple (items:=#[u1,u2]) (I.ok.hd hc) (IsTup.new s1.heap _) λh' hx'=>?_)));have I3:=I2.kept (h':=h') (t':=s1.toks) λb o e=>hx' b o (Nat.ne_of_lt (Heap.lt_size e)) e;show wpAny _ _ (assignInOrder [λv=>bindName X.env y v,λv=>bindName X.env x v] [u2,u1] >>= λ_=>pure Flow.next) _ _ _;refine wpAny_bind (assignInOrder_cons (wpAny_bindName (EX I3 hN hj (.inl hy) rw' (λs2 I4=>?_) (.inr hy))));refine assignInOrder_cons (wpAny_bindName (EX I4 hN hi (.inl hx) rv (λs3 I5=>assignInOrder_nil (wpAny_pure ?_)) (.inr hx)));rw [List.set_comm _ _ (Ne.symm hij)] at I5;exact ⟨_,H1,I5,q1⟩
def qr3 (i:Nat) (te:TE) (ti:TIp):TS:=λD σ H=>∃ x,σ[i]?=some (some x)/\te σ H λy H1=>ti x y H1 λz H2=>D.nx (σ.set i (some z)) H2
def qgj {i:Nat} {x:Str} {e:Expr} {te:TE} {op:Operator} {ti:TIp} {pos':Pos} (hN:X.N.Nodup) (hi:X.N[i]?=some x) (hx:Loc X.env.scope x) (he:PE X e te) (ho:PIp X op ti) (hf:X.fn x=true\/X.env.scope.names.lookup x=some .local:=by first|exact .inl rfl|exact .inr rfl|assumption) :
  PS X (.AugAssign (.Name x pos') op e pos) (qr3 i te ti):=by
 intro pins s σ H D I h;obtain ⟨v,e1,h⟩:=h;obtain ⟨m,hn,hl⟩:=I.loc;have vis:Vis X.env.scope x:=by rcases hx with k|k;exact .inl k;exact .inr (.inl k)
 obtain ⟨u,r,l⟩:=hl i x v hi e1 vis;refine wpAny_AugAssign_Name ?_;have go:wpAny (model X.prog X.w) X.A (eval e X.env) (λw s₂=>wpAny (model X.prog X.w) X.A (inplaceOp op u w) (λr s₃=>wpAny (model X.prog X.w) X.A (storeName X.env x r) (λ_=>SP X pins D .next) X.xe s₃) X.xe s₂) X.xe s:=by
  refine thn (he pins s σ H _ I h) λw s1 ⟨y,H1,I1,r1,q1⟩=>?_;refine thn (ho pins s1 σ H1 v y u w _ I1 r r1 q1) λz s2 ⟨zv,H2,I2,r2,q2⟩=>?_;exact EX I2 hN hi hx r2 (λs3 I3=>⟨_,H2,I3,q2⟩) hf
 rcases l with ⟨hk,hm⟩|⟨hk,c,hc,hcell⟩
 ·exact wpAny_loadName_local I.ok.kind hk hn hm go
 ·rcases hk with hk|hk
  ·exact wpAny_loadName_cell I.ok.kind hk hc hcell go
  ·rcases hx with k|k
   ·have:X.env.scope.names.lookup x=some .free:=hk;rw [k] at this;cases this
   ·have:X.env.scope.names.lookup x=some .free:=hk;rw [k] at this;cases this
def ipI (f:Int->Int->Int):TIp:=λx y H Q=>∃ i j,x=.int i/\y=.int j/\Q (.int (f i j)) H
def qlv:PIp X .Add (ipI λi j=>i+j):=by
 intro pins s σ H x y v u Q I r1 r2 h;obtain ⟨i,j,e1,e2,q⟩:=h;subst e1;subst e2;obtain ⟨t,rfl⟩:=r1;obtain ⟨t',rfl⟩:=r2;exact iadd_int ⟨.int _,H,I.tok _,⟨_,rfl⟩,q⟩
def qjt:PIp X .Sub (ipI λi j=>i-j):=by
 intro pins s σ H x y v u Q I r1 r2 h;obtain ⟨i,j,e1,e2,q⟩:=h;subst e1;subst e2;obtain ⟨t,rfl⟩:=r1;obtain ⟨t',rfl⟩:=r2;exact isub_int ⟨.int _,H,I.tok _,⟨_,rfl⟩,q⟩
end
section
variable {X:Cx} {pos:Pos}
def qlu (c:TT) (tb:TS):TS:=λD σ H=>∃ W:Nat->St->Hp->Prop,(∃ m,W m σ H)/\∀ m σ H,W m σ H ->
 c σ H λb H1=>if b=true then ∃ N:St->Hp->Prop,(∀ σ' H',N σ' H'->∃ m',m'<m/\W m' σ' H')/\tb { D with nx:=N,ct:=N,bk:=D.nx } σ H1 else D.nx σ H1
def qdG {c:Expr} {body:List Stmt} {tc:TT} {tb:TS} (hp:PassesOwn (model X.prog X.w) X.A X.env X.xe) (hc:PT X c tc) (hb:PSs X body tb):PS X (.While c body [] pos) (qlu tc tb):=by
 intro pins s σ H D I h;obtain ⟨W,⟨m0,w0⟩,turn⟩:=h;refine wpAny_While (codeAny_whileLoop (λn s'=>∃ σ' H',Inv X pins σ' H' s'/\W n σ' H') ?_ m0 ⟨σ,H,I,w0⟩);rintro n s1 ⟨σ1,H1,I1,w1⟩;refine wpAny_passesOwn hp (thn (hc pins s1 σ1 H1 _ I1 (turn n σ1 H1 w1)) λb s2 ⟨H2,I2,q2⟩=>?_);cases b with
 |true=>
  obtain ⟨N,hN,q2⟩:=q2;rw [if_pos rfl];refine wpAny_passesOwn hp (thn (hb pins s2 σ1 H2 _ I2 q2) λf s3 q3=>?_);cases f with
  |next=>
   obtain ⟨σ3,H3,I3,n3⟩:=q3;obtain ⟨m',hm,w3⟩:=hN σ3 H3 n3;exact ⟨m',hm,σ3,H3,I3,w3⟩
  |cont=>
   obtain ⟨σ3,H3,I3,n3⟩:=q3;obtain ⟨m',hm,w3⟩:=hN σ3 H3 n3;exact ⟨m',hm,σ3,H3,I3,w3⟩
  |brk=>exact q3
  |ret v=>exact q3
 |false=>
  rw [if_neg Bool.false_ne_true];exact wpAny_execs_nil ⟨σ1,H2,I2,q2⟩
end
structure It where
 go:Nat->Hp->Prop
 yld:Nat->Hp->V->Hp->Prop
 stop:Nat->Hp->Prop
def qap (X:Cx) (pins:List (Addr×Obj)) (H:Hp) (b:Addr):Prop:=
 H b=none/\b≠X.env.locals/\b∉X.fs/\(b∈X.ex\/X.s₀.heap.objs.size<=b)/\(∀ x c,X.env.cells.lookup x=some c->c≠b)/\∀ p∈X.pn++pins,p.1≠b
def Inv.fpOk {X:Cx} {pins:List (Addr×Obj)} {σ:St} {H H':Hp} {s:Shared} {b:Addr} (I:Inv X pins σ H s) (hb:s.heap.objs.size<=b) (hn:H' b=none):qap X pins H' b:=by
 refine ⟨hn,Nat.ne_of_gt (Nat.lt_of_lt_of_le I.lt hb),I.nofs hb,.inr (Nat.le_trans I.sz hb),λx c e z=>?_,λp hp z=>?_⟩
 ·obtain ⟨v,q⟩:=I.cell x c e;exact absurd (Nat.lt_of_lt_of_le q.lt (by rw [z];exact hb)) (Nat.lt_irrefl _)
 ·exact absurd (Nat.lt_of_lt_of_le (Heap.lt_size (I.pin p hp).1) (by rw [z];exact hb)) (Nat.lt_irrefl _)
structure Turn (P:Program) (w:World) (K:Frg) (tg:Expr) (J:It) (fp:List Addr) (it:Addr) (tn:Nat->Heap->Prop):Prop where
 mem:it∈fp
 obj:∀ i h,tn i h->∀ b∈fp,∃ o,h.get? b=some o/\∀ v,o.data≠.cell v
 keep:∀ i h h',tn i h->(∀ b∈fp,∀ o,h.get? b=some o->h'.get? b=some o)->tn i h'
 item:∀ (X:Cx),X.prog=P->X.w=w->X.K=K->X.calm=true->∀ (i:Nat) (pins:List (Addr×Obj)) (s:Shared) (σ:St) (H:Hp) (E:Value->Shared->Prop),Inv X pins σ H s->(∀ b∈fp,qap X pins H b)->tn i s.heap->J.go i H ->
  wpAny (model P w) X.A (pyNext (.ref it)) (λr s1=>∃ u,r=some u /\
   wpAny (model P w) X.A (letOwnedTupleGo tg (.ref it) u) (λ_ s2=>∃ x H',Inv X pins σ H' s2/\ZP x u/\J.yld i H x H'/\tn (i+1) s2.heap/\∀ b∈fp,H' b=none) E s1) E s
 done:∀ (X:Cx),X.prog=P->X.w=w->X.K=K->X.calm=true->∀ (i:Nat) (pins:List (Addr×Obj)) (s:Shared) (σ:St) (H:Hp) (E:Value->Shared->Prop),Inv X pins σ H s->(∀ b∈fp,qap X pins H b)->tn i s.heap->J.stop i H ->
  wpAny (model P w) X.A (pyNext (.ref it)) (λr s1=>r=none/\Inv X pins σ H s1) E s
 self:∀ (A:Around) (i:Nat) (s:Shared) (Q:Value->Shared->Prop) (E:Value->Shared->Prop),tn i s.heap->Q (.ref it) s->wpAny (model P w) A (pyIter (.ref it)) Q E s
abbrev TI:=St->Hp->(It->Hp->Prop)->Prop
def PIE (X:Cx) (pins:List (Addr×Obj)) (σ:St) (tg:Expr) (R:It->Hp->Prop) (itv:Value) (s2:Shared):Prop:=
 ∃ (it:Addr) (fp:List Addr) (tn:Nat->Heap->Prop) (J:It) (H':Hp),itv=.ref it/\Inv X pins σ H' s2/\Turn X.prog X.w X.K tg J fp it tn/\tn 0 s2.heap/\(∀ b∈fp,qap X pins H' b)/\R J H'
def PI (X:Cx) (tg iter:Expr) (wi:TI):Prop:=
 ∀ (pins:List (Addr×Obj)) (s:Shared) (σ:St) (H:Hp) (R:It->Hp->Prop),Inv X pins σ H s->wi σ H R ->
  wpAny (model X.prog X.w) X.A (eval iter X.env) (λv s1=>wpAny (model X.prog X.w) X.A (pyIter v) (PIE X pins σ tg R) X.xe s1) X.xe s
def qdw {M:Model} {A:Around} {E:Value->Shared->Prop} {s:Shared} {tg:Expr} {it:Addr} {u:Value} {o:Obj} {n:String} {vs:Array Value} {Q:Unit->Shared->Prop} (ho:s.heap.get? it=some o) (hc:o.cls=.type n) (hd:o.data=.fields vs)
    (hn:["enumerate","zip","dict_itemiterator","dict_reverseitemiterator","odict_iterator","itertools.zip_longest","itertools.pairwise"].contains n=false) (hQ:Q () s):wpAny M A (letOwnedTupleGo tg (.ref it) u) Q E s:=by
  unfold letOwnedTupleGo;cases tg<;>first
    |exact wpAny_pure hQ
    | (cases u<;>first
        |exact wpAny_pure hQ
        | (refine wpAny_bind (wpAny_load ho ?_)
           rw [hc,hd];show wpAny M A (if (["enumerate","zip","dict_itemiterator","dict_reverseitemiterator","odict_iterator","itertools.zip_longest","itertools.pairwise"].contains n&&vs[0]?==some (rawInt _))=true then _ else _) Q E s;rw [if_neg (by intro h;rw [hn,Bool.false_and] at h;cases h)];exact wpAny_pure hQ))
def Itl (K:Frg) (a:Addr):It:=
 ⟨λi H=>∃ xs x,SqL K H a xs/\xs[i]?=some x,λi H x H'=>H'=H/\∀ xs,SqL K H a xs->xs[i]?=some x,λi H=>∃ xs,SqL K H a xs/\xs.length<=i⟩
def Itt (K:Frg) (a:Addr):It:=
 ⟨λi H=>∃ xs x,SqT K H a xs/\xs[i]?=some x,λi H x H'=>H'=H/\∀ xs,SqT K H a xs->xs[i]?=some x,λi H=>∃ xs,SqT K H a xs/\xs.length<=i⟩
def Itr (lo:Int) (n:Nat):It:=⟨λi _=>i<n,λi H x H'=>H'=H/\x=.int (lo+i),λi _=>n<=i⟩
def qbQ {P:Program} {w:World} {K:Frg} {tg:Expr} (a it:Addr):Turn P w K tg (Itl K a) [it] it (λi h=>h.IsListIter it a i) where
 mem:=by simp
 obj:=λi h st b hb=>by
  have e:b=it:=by simpa using hb
  subst e;obtain ⟨o,e,c,d⟩:=st;exact ⟨o,e,λv z=>by rw [d] at z;cases z⟩
 keep:=λi h h' st k=>st.at λo e=>k it (by simp) o e
 item:=by
  intro X hP hw hK hc i pins s σ H E I hf st hg;subst hP hw hK;obtain ⟨xs,x,hq,hx⟩:=hg;obtain ⟨its,rv,p,hz⟩:=I.list hq;obtain ⟨u,hu,ru⟩:=rv.get hx;obtain ⟨f0,f1,f2,f3,f4,f5⟩:=hf it (by simp);refine wpAny_pyNext_list_item st p.isList (x:=u) (by simpa using hu) λh' st' sb=>?_;have I1:Inv X pins σ H { s with heap:=h' }:=I.turned (t':=s.toks) (λb o hb e=>(sb.2 b hb).trans e) f0 f1 f3 f4 f5;obtain ⟨o,e,c,d⟩:=id st';exact ⟨u,rfl,qdw (s:={ s with heap:=h' }) e c d (by decide) ⟨x,H,I1,ru,⟨rfl,λys hy=>by rw [I.list_inj hy hq];exact hx⟩,st',λb hb=>(hf b hb).1⟩⟩
 done:=by
  intro X hP hw hK hc i pins s σ H E I hf st hg;subst hP hw hK;obtain ⟨xs,hq,hx⟩:=hg;obtain ⟨its,rv,p,hz⟩:=I.list hq;obtain ⟨f0,f1,f2,f3,f4,f5⟩:=hf it (by simp);have hl:=rv.length;exact wpAny_pyNext_list_end (I.ok.hd hc) st p.isList (by simp;omega) λh' eb=>⟨rfl,I.turned (t':=s.toks) (λb o hb e=>eb b o hb e) f0 f1 f3 f4 f5⟩
 self:=λ_ _ _ _ _ st h=>wpAny_pyIter_listiter st h
def qaA {P:Program} {w:World} {K:Frg} {tg:Expr} (a it:Addr):Turn P w K tg (Itt K a) [it] it (λi h=>h.IsTupleIter it a i) where
 mem:=by simp
 obj:=λi h st b hb=>by
  have e:b=it:=by simpa using hb
  subst e;obtain ⟨o,e,c,d⟩:=st;exact ⟨o,e,λv z=>by rw [d] at z;cases z⟩
 keep:=λi h h' st k=>st.at λo e=>k it (by simp) o e
 item:=by
  intro X hP hw hK hc i pins s σ H E I hf st hg;subst hP hw hK;obtain ⟨xs,x,hq,hx⟩:=hg;obtain ⟨its,rv,p,hz⟩:=I.tuple hq;obtain ⟨u,hu,ru⟩:=rv.get hx;obtain ⟨f0,f1,f2,f3,f4,f5⟩:=hf it (by simp);refine wpAny_pyNext_tuple_item st (show s.heap.IsTuple a its.toArray from p) (x:=u) (by simpa using hu) λh' st' sb=>?_;have I1:Inv X pins σ H { s with heap:=h' }:=I.turned (t':=s.toks) (λb o hb e=>(sb.2 b hb).trans e) f0 f1 f3 f4 f5;obtain ⟨o,e,c,d⟩:=id st';exact ⟨u,rfl,qdw (s:={ s with heap:=h' }) e c d (by decide) ⟨x,H,I1,ru,⟨rfl,λys hy=>by rw [I.tuple_inj hy hq];exact hx⟩,st',λb hb=>(hf b hb).1⟩⟩
 done:=by
  intro X hP hw hK hc i pins s σ H E I hf st hg;subst hP hw hK;obtain ⟨xs,hq,hx⟩:=hg;obtain ⟨its,rv,p,hz⟩:=I.tuple hq;obtain ⟨f0,f1,f2,f3,f4,f5⟩:=hf it (by simp);have hl:=rv.length;exact wpAny_pyNext_tuple_end (I.ok.hd hc) st (show s.heap.IsTuple a its.toArray from p) (by simp;omega) λh' eb=>⟨rfl,I.turned (t':=s.toks) (λb o hb e=>eb b o hb e) f0 f1 f3 f4 f5⟩
 self:=λ_ _ _ _ _ st h=>wpAny_pyIter_tupleiter st h
def qa7 {P:Program} {w:World} {K:Frg} {tg:Expr} (it:Addr) (lo:Int) (n:Nat):Turn P w K tg (Itr lo n) [it] it (λi h=>IsRangeIter h it (lo+(i:Nat)*1) ((n:Int)-(i:Nat)) 1) where
 mem:=by simp
 obj:=λi h st b hb=>by
  have e:b=it:=by simpa using hb
  subst e;exact ⟨_,st,λv z=>by
   have z':Data.fields _=Data.cell v:=z;cases z'⟩
 keep:=λi h h' st k=>k it (by simp) _ st
 item:=by
  intro X hP hw hK hc i pins s σ H E I hf st hg;subst hP hw hK;obtain ⟨f0,f1,f2,f3,f4,f5⟩:=hf it (by simp);have W:=Walks.range (prog:=X.prog) (w:=X.w) (I.ok.hd hc) it lo 1 n;refine W.item i s _ _ hg st λv h' tk hv st' kk=>?_;obtain ⟨t,rfl⟩:=hv;have I1:Inv X pins σ H { s with heap:=h',toks:=tk }:=I.turned (λb o hb e=>kk b o (by simpa using hb) e) f0 f1 f3 f4 f5;refine ⟨_,rfl,qdw (s:={ s with heap:=h',toks:=tk }) (n:="range_iterator") st' rfl rfl (by decide) ⟨.int (lo+i),H,I1,⟨t,?_⟩,⟨rfl,rfl⟩,st',λb hb=>(hf b hb).1⟩⟩;rw [Int.mul_one]
 done:=by
  intro X hP hw hK hc i pins s σ H E I hf st hg;subst hP hw hK;obtain ⟨f0,f1,f2,f3,f4,f5⟩:=hf it (by simp);exact wpAny_pyNext_range_end (I.ok.hd hc) st (by have:n<=i:=hg;omega) λh' eb=>⟨rfl,I.turned (t':=s.toks) (λb o hb e=>eb b o hb e) f0 f1 f3 f4 f5⟩
 self:=λ_ _ _ _ _ st h=>wpAny_pyIter_rangeiter st h
section
variable {X:Cx} {tg:Expr}
def qdJ {pins:List (Addr×Obj)} {σ:St} {H:Hp} {s:Shared} {R:It->Hp->Prop} {E:Value->Shared->Prop} {lo hi:Int} {t u v:Tok} {tk:Nat} (I:Inv X pins σ H s) (h1:-(2 ^ 62)<=lo) (h2:lo<2 ^ 62) (h3:-(2 ^ 62)<=hi) (h4:hi<2 ^ 62)
  (q:R (Itr lo (hi-lo).toNat) H):wpAny (model X.prog X.w) X.A (pyIter (.ref s.heap.objs.size)) (PIE X pins σ tg R) E { s with heap:=s.heap.push { cls:=.type "range",data:=.fields #[.int lo t,.int hi u,.int 1 v] },toks:=tk }:=by
 refine wpAny_pyIter_range (IsRange.new ..) (small_one h1 h2 h3 h4) ?_;have I1:Inv X pins σ H { s with heap:=s.heap.push { cls:=.type "range",data:=.fields #[.int lo t,.int hi u,.int 1 v] },toks:=tk }:=I.kept λb o e=>Heap.get?_push_of_some _ e;refine ⟨(s.heap.push { cls:=.type "range",data:=.fields #[.int lo t,.int hi u,.int 1 v] }).objs.size,[(s.heap.push { cls:=.type "range",data:=.fields #[.int lo t,.int hi u,.int 1 v] }).objs.size],_,_,H,rfl,
  I1.kept (t':=tk) λb o e=>Heap.get?_push_of_some _ e,qa7 _ lo (hi-lo).toNat,?_,λb hb=>?_,q⟩
 ·have e1:lo+((0:Nat):Int)*1=lo:=by simp
  have e2:(((hi-lo).toNat:Nat):Int)-((0:Nat):Int)=Builtin.Range.rangeSize lo hi 1:=by rw [rangeSize_one];split<;>omega
  show IsRangeIter _ _ (lo+((0:Nat):Int)*1) ((((hi-lo).toNat:Nat):Int)-((0:Nat):Int)) 1;rw [e1,e2];exact Heap.get?_push_size _ rfl
 ·have e:b=(s.heap.push { cls:=.type "range",data:=.fields #[.int lo t,.int hi u,.int 1 v] }).objs.size:=by simpa using hb
  subst e;exact I1.fpOk (Nat.le_refl _) (I1.hok.fresh (Nat.le_refl _))
def qpz (ta:TA):TI:=λσ H R=>ta σ H λvs H1=>∃ j:Int,vs=[.int j]/\-(2 ^ 62)<=j/\j<2 ^ 62/\R (Itr 0 j.toNat) H1
def qbs {a:Expr} {ta:TA} {p pos:Pos} (hg:Gl X "range") (hm:X.mg "range" = none) (ha:PA X [a] ta) (hs:starEach [a] X.env=[(false,eval a X.env)]:=by rfl):PI X tg (.Call (.Name "range" p) [a] [] pos) (qpz ta):=by
 intro pins s σ H R I h;refine Call_ (SA I hg hm boot_range (PyProof.Rows.callWith_type1 (thn (ha pos pins s σ H _ I h) λus s1 ⟨vs,H1,I1,r1,q1⟩=>?_) hs rfl));obtain ⟨j,e,q1,q2,q⟩:=q1;subst e;cases r1 with
 |cons r rr=>
  cases rr;obtain ⟨t,rfl⟩:=r;exact call_range_1 (qdJ I1 (by omega) (by omega) q1 q2 (by simpa using q))
def qrb (wi:TI) (g:TG) (tb:TS):TS:=λD σ H=>wi σ H λJ H1=>∃ W:Nat->Nat->St->Hp->Prop,(∃ m,W 0 m σ H1)/\∀ i m σ H,W i m σ H ->
 (J.stop i H/\D.nx σ H)\/(J.go i H/\∃ N:St->Hp->Prop,(∀ σ' H',N σ' H'->∃ m',m'<m/\W (i+1) m' σ' H')/\∀ x H',J.yld i H x H'->g x σ H' λσ2 H2=>tb { D with nx:=N,ct:=N,bk:=D.nx } σ2 H2)
def RU (fp:List Addr) (h:Heap):List (Addr×Obj):=fp.filterMap λb=>(h.get? b).map λo=>(b,o)
def Z9 {fp:List Addr} {h:Heap} {b:Addr} {o:Obj} (hb:b∈fp) (e:h.get? b=some o):(b,o)∈RU fp h:=List.mem_filterMap.mpr ⟨b,hb,by rw [e];rfl⟩
def qc4 {fp:List Addr} {h:Heap} {p:Addr×Obj} (hp:p∈RU fp h):p.1∈fp/\h.get? p.1=some p.2:=by
 obtain ⟨b,hb,e⟩:=List.mem_filterMap.mp hp;cases q:h.get? b with
 |none=>rw [q] at e;cases e
 |some o=>
  rw [q] at e;have e':(b,o)=p:=Option.some.inj e;subst e';exact ⟨hb,q⟩
def Inv.pinned {pins:List (Addr×Obj)} {σ:St} {H:Hp} {s:Shared} {fp:List Addr} (I:Inv X pins σ H s) (hf:∀ b∈fp,qap X pins H b) (ho:∀ b∈fp,∃ o,s.heap.get? b=some o/\∀ v,o.data≠.cell v):Inv X (pins++RU fp s.heap) σ H s:=
 I.pins_of λp hp=>(List.mem_append.mp hp).elim (λz=>I.pin p (mem_append_right _ z)) λz=>by
  obtain ⟨hb,e⟩:=qc4 z;obtain ⟨f0,f1,f2,_⟩:=hf p.1 hb;obtain ⟨o,e',d⟩:=ho p.1 hb;rw [e] at e';cases e';exact ⟨e,f0,f1,f2,d⟩
def Inv.unpinned {pins pl:List (Addr×Obj)} {σ:St} {H:Hp} {s:Shared} (I:Inv X (pins++pl) σ H s):Inv X pins σ H s:=I.pins_of λp hp=>I.pin p (mem_append_right _ (List.mem_append_left _ hp))
def qnc {iter:Expr} {body:List Stmt} {wi:TI} {g:TG} {tb:TS} {pos:Pos} (hp:PassesOwn (model X.prog X.w) X.A X.env X.xe) (hc:X.calm=true) (hi:PI X tg iter wi) (hg:PG X tg g) (hb:PSs X body tb)
  (hs:∀ x,foldedSetIterable iter X.env x=pure x:=by intro _;rfl):PS X (.For tg iter body [] pos) (qrb wi g tb):=by
 intro pins s σ H D I h;refine wpAny_For (thn (hi pins s σ H _ I h) λv s1 h1=>thn h1 λitv s2 h2=>?_) hs;obtain ⟨it,fp,tn,J,H2,e,I2,T,st2,f2,W,⟨m0,w0⟩,turn⟩:=h2;subst e
 -- what stays true of the iterator's objects through the loop
 have stat:∀ {H':Hp},(∀ b∈fp,H' b=none)->∀ b∈fp,qap X pins H' b:=λhn b hb=>⟨hn b hb,(f2 b hb).2⟩
 refine codeAny_forLoop_any (λn s'=>∃ i σ' H',Inv X pins σ' H' s'/\tn i s'.heap/\(∀ b∈fp,H' b=none)/\W i n σ' H') ?_ m0 ⟨0,σ,H2,I2,st2,λb hb=>(f2 b hb).1,w0⟩;rintro n s3 ⟨i,σ3,H3,I3,st3,fr3,w3⟩;rcases turn i n σ3 H3 w3 with ⟨stop,qn⟩|⟨go,N,hN,step⟩
 ·refine wpAny_passesOwn hp (thn (T.done X rfl rfl rfl hc i pins s3 σ3 H3 X.xe I3 (stat fr3) st3 stop) λr s4 ⟨hr,I4⟩=>?_);subst hr;exact wpAny_execs_nil ⟨σ3,H3,I4,qn⟩
 ·refine wpAny_passesOwn hp (thn (T.item X rfl rfl rfl hc i pins s3 σ3 H3 X.xe I3 (stat fr3) st3 go) λr s4 ⟨u,hr,h4⟩=>?_);subst hr;refine wpAny_passesOwn hp (thn h4 λ_ s5 ⟨x,H5,I5,r5,y5,st5,fr5⟩=>?_);have I5':=I5.pinned (stat fr5) (T.obj _ _ st5);refine wpAny_passesOwn hp (thn (hg _ s5 σ3 H5 x u _ I5' r5 (step x H5 y5)) λ_ s6 ⟨σ6,H6,I6,q6⟩=>?_);refine wpAny_passesOwn hp (thn (hb _ s6 σ6 H6 _ I6 q6) λf s7 q7=>?_);have again:∀ {σ7:St} {H7:Hp},Inv X (pins++RU fp s5.heap) σ7 H7 s7->N σ7 H7->∃ m,m<n/\∃ i σ' H',Inv X pins σ' H' s7/\tn i s7.heap/\(∀ b∈fp,H' b=none)/\W i m σ' H':=λ{σ7 H7} I7 n7=>by
   obtain ⟨m',hm,w7⟩:=hN σ7 H7 n7;refine ⟨m',hm,i+1,σ7,H7,I7.unpinned,T.keep _ _ _ st5 λb hb o e=>(I7.pin (b,o) (mem_append_right _ (mem_append_right _ (Z9 hb e)))).1,λb hb=>?_,w7⟩;obtain ⟨o,e,d⟩:=T.obj _ _ st5 b hb;exact (I7.pin (b,o) (mem_append_right _ (mem_append_right _ (Z9 hb e)))).2.1
  cases f with
  |next=>obtain ⟨σ7,H7,I7,n7⟩:=q7;exact again I7 n7
  |cont=>obtain ⟨σ7,H7,I7,n7⟩:=q7;exact again I7 n7
  |brk=>obtain ⟨σ7,H7,I7,q7⟩:=q7;exact ⟨σ7,H7,I7.unpinned,q7⟩
  |ret v=>obtain ⟨x7,σ7,H7,I7,r7,q7⟩:=q7;exact ⟨x7,σ7,H7,I7.unpinned,r7,q7⟩
end
abbrev R2:=V->V->Hp->VK->Prop
def OpR (X:Cx) (f:Value->Value->Sem Value) (r:R2):Prop:=
 ∀ (pins:List (Addr×Obj)) (s:Shared) (σ:St) (H:Hp) (x y:V) (v u:Value) (Q:VK),Inv X pins σ H s->ZP x v->ZP y u->r x y H Q ->
  wpAny (model X.prog X.w) X.A (f v u) (EP X pins σ Q) X.xe s
def UnR (X:Cx) (f:Value->Sem Value) (r:V->Hp->VK->Prop):Prop:=
 ∀ (pins:List (Addr×Obj)) (s:Shared) (σ:St) (H:Hp) (x:V) (v:Value) (Q:VK),Inv X pins σ H s->ZP x v->r x H Q ->
  wpAny (model X.prog X.w) X.A (f v) (EP X pins σ Q) X.xe s
def UE (X:Cx) (f:Value) (r:List V->Hp->VK->Prop):Prop:=
 ∀ (pins:List (Addr×Obj)) (s:Shared) (σ:St) (H:Hp) (xs:List V) (us:List Value) (Q:VK),Inv X pins σ H s->jh xs us->r xs H Q ->
  wpAny (model X.prog X.w) X.A (call f us) (EP X pins σ Q) X.xe s
def tOp (r:R2) (ta tb:TE):TE:=λσ H Q=>ta σ H λx H1=>tb σ H1 λy H2=>r x y H2 Q
def tUn (r:V->Hp->VK->Prop) (ta:TE):TE:=λσ H Q=>ta σ H λx H1=>r x H1 Q
def rI (C:Int->Int->Prop) (g:Int->Int->V):R2:=λx y H Q=>∃ i j,x=.int i/\y=.int j/\C i j/\Q (g i j) H
def rI0 (g:Int->Int->V):R2:=λx y H Q=>∃ i j,x=.int i/\y=.int j/\Q (g i j) H
def rU (g:Int->V):V->Hp->VK->Prop:=λx H Q=>∃ i,x=.int i/\Q (g i) H
section
variable {X:Cx} {a b c:Expr} {ta tb tc:TE} {pos:Pos}
def qo6 (ha:PE X a ta) (hb:PE X b tb) {pins:List (Addr×Obj)} {s:Shared} {σ:St} {H:Hp} {R:V->V->Hp->Prop} (I:Inv X pins σ H s)
  (h:ta σ H λx H1=>tb σ H1 λy H2=>R x y H2) {Q:Value->Shared->Prop} {f:Value->Value->Sem Value}
  (hf:∀ v u s2 x y H2,Inv X pins σ H2 s2->ZP x v->ZP y u->R x y H2->wpAny (model X.prog X.w) X.A (f v u) Q X.xe s2) :
  wpAny (model X.prog X.w) X.A (eval a X.env) (λv s₁=>wpAny (model X.prog X.w) X.A (eval b X.env) (λu s₂=>wpAny (model X.prog X.w) X.A (f v u) Q X.xe s₂) X.xe s₁) X.xe s:=by
 refine thn (ha pins s σ H _ I h) λv s1 ⟨x,H1,I1,r1,q1⟩=>?_;refine thn (hb pins s1 σ H1 _ I1 q1) λu s2 ⟨y,H2,I2,r2,q2⟩=>?_;exact hf v u s2 x y H2 I2 r1 r2 q2
def qpG {op:Operator} {r:R2} (ho:OpR X (binaryOp op) r) (ha:PE X a ta) (hb:PE X b tb):PE X (.BinOp a op b pos) (tOp r ta tb):=by
 intro pins s σ H Q I h;exact wpAny_BinOp (qo6 ha hb I h λv u s2 x y H2 I2 rx ry q=>ho pins s2 σ H2 x y v u Q I2 rx ry q)
def qop {op:UnaryOp} {r:V->Hp->VK->Prop} (ho:UnR X (unaryOp op) r) (ha:PE X a ta):PE X (.UnaryOp op a pos) (tUn r ta):=by
 intro pins s σ H Q I h;exact UnaryOp_ (thn (ha pins s σ H _ I h) λv s1 ⟨x,H1,I1,r1,q1⟩=>ho pins s1 σ H1 x v Q I1 r1 q1)
def opI {f:Value->Value->Sem Value} {C:Int->Int->Prop} {g:Int->Int->Int}
  (rule:∀ (i j:Int) (t u:Tok) (s:Shared) (Q:Value->Shared->Prop) (E:Value->Shared->Prop),C i j->Q (.int (g i j) s.toks) { s with toks:=s.toks+1 }->wpAny (model X.prog X.w) X.A (f (.int i t) (.int j u)) Q E s) :
  OpR X f (rI C λi j=>.int (g i j)):=by
 intro pins s σ H x y v u Q I rx ry h;obtain ⟨i,j,rfl,rfl,hc,q⟩:=h;obtain ⟨t,rfl⟩:=rx;obtain ⟨t',rfl⟩:=ry;exact rule i j t t' s _ _ hc ⟨.int (g i j),H,I.tok _,⟨_,rfl⟩,q⟩
def qqy {f:Value->Value->Sem Value} {g:Int->Int->Int}
  (rule:∀ (i j:Int) (t u:Tok) (s:Shared) (Q:Value->Shared->Prop) (E:Value->Shared->Prop),Q (.int (g i j) s.toks) { s with toks:=s.toks+1 }->wpAny (model X.prog X.w) X.A (f (.int i t) (.int j u)) Q E s) :
  OpR X f (rI0 λi j=>.int (g i j)):=by
 intro pins s σ H x y v u Q I rx ry h;obtain ⟨i,j,rfl,rfl,q⟩:=h;obtain ⟨t,rfl⟩:=rx;obtain ⟨t',rfl⟩:=ry;exact rule i j t t' s _ _ ⟨.int (g i j),H,I.tok _,⟨_,rfl⟩,q⟩
def qnR {f:Value->Value->Sem Value} {g:Int->Int->Bool}
  (rule:∀ (i j:Int) (t u:Tok) (s:Shared) (Q:Value->Shared->Prop) (E:Value->Shared->Prop),Q (.bool (g i j)) s->wpAny (model X.prog X.w) X.A (f (.int i t) (.int j u)) Q E s) :
  OpR X f (rI0 λi j=>.bl (g i j)):=by
 intro pins s σ H x y v u Q I rx ry h;obtain ⟨i,j,rfl,rfl,q⟩:=h;obtain ⟨t,rfl⟩:=rx;obtain ⟨t',rfl⟩:=ry;exact rule i j t t' s _ _ ⟨.bl (g i j),H,I,rfl,q⟩
def qdr (i j:Int):Prop:=0<j/\j<1073741824
def qlG (i j:Int):Prop:=0<=j/\j<=1000000/\i.natAbs<2 ^ 64
def XQ (i j:Int):Prop:=(-(2 ^ 64)<i/\i<2 ^ 64)\/(-(2 ^ 64)<j/\j<2 ^ 64)
def XQ.ok {i j:Int} (h:XQ i j):IntMulOk i j:=by
 rcases h with ⟨h1,h2⟩|⟨h1,h2⟩
 ·exact .of_left (intBits_le_64 h1 h2)
 ·exact .of_right (intBits_le_64 h1 h2)
def qgO:OpR X (binaryOp .Add) (rI0 λi j=>.int (i+j)):=qqy λ_ _ _ _ _ _ _ q=>add_int q
def qlb:OpR X (binaryOp .Sub) (rI0 λi j=>.int (i-j)):=qqy λ_ _ _ _ _ _ _ q=>sub_int q
def qk0:OpR X (binaryOp .Mult) (rI XQ λi j=>.int (i*j)):=opI λ_ _ _ _ _ _ _ hc q=>mul_int q hc.ok
def qg1:OpR X (binaryOp .FloorDiv) (rI qdr λi j=>.int (i/j)):=opI λi j _ _ _ _ _ hc q=>by
 have h1:(0:Int)<j:=hc.1;have h2:j<1073741824:=hc.2;exact floordiv_int (by omega) (by rw [Int.fdiv_eq_ediv_of_nonneg i (by omega)];exact q) (.inl (PyProof.noPylong_small (by omega)))
def qmq:OpR X (binaryOp .Mod) (rI (λ_ j=>0<j) λi j=>.int (i%j)):=opI λi j _ _ _ _ _ hc q=>by
 have h1:(0:Int)<j:=hc;exact mod_int' (by omega) (by rw [Int.fmod_eq_emod_of_nonneg i (by omega)];exact q)
def qmh:OpR X (binaryOp .Pow) (rI qlG λi j=>.int (i ^ j.toNat)):=opI λ_ _ _ _ _ _ _ hc q=>pow_int_small hc.1 hc.2.1 hc.2.2 q
def unI {f:Value->Sem Value} {g:Int->Int}
  (rule:∀ (i:Int) (t:Tok) (s:Shared) (Q:Value->Shared->Prop) (E:Value->Shared->Prop),Q (.int (g i) s.toks) { s with toks:=s.toks+1 }->wpAny (model X.prog X.w) X.A (f (.int i t)) Q E s) :
  UnR X f (rU λi=>.int (g i)):=by
 intro pins s σ H x v Q I rx h;obtain ⟨i,rfl,q⟩:=h;obtain ⟨t,rfl⟩:=rx;exact rule i t s _ _ ⟨.int (g i),H,I.tok _,⟨_,rfl⟩,q⟩
def qjT:UnR X (unaryOp .USub) (rU λi=>.int (-i)):=unI λ_ _ _ _ _ q=>neg_int q
end
def qpp:V->V->Bool
 |.non,.non=>true|.non,.int _=>true|.int _,.non=>true|.non,.bl _=>true|.bl _,.non=>true|.non,.str _=>true|.str _,.non=>true
 |.int _,.int _=>true|.bl _,.bl _=>true|.str _,.str _=>true|.byt _,.byt _=>true
 |.int _,.str _=>true|.str _,.int _=>true|.bl _,.str _=>true|.str _,.bl _=>true
 |_,_=>false
def rEq:R2:=λx y H Q=>qpp x y=true/\Q (.bl (decide (x=y))) H
def rNe:R2:=λx y H Q=>qpp x y=true/\Q (.bl (!decide (x=y))) H
def qdf {i j:Int}:decide (V.int i=V.int j)=(i==j):=by
 rw [Bool.eq_iff_iff];simp
def qf7 {i j:Bool}:decide (V.bl i=V.bl j)=(i==j):=by
 rw [Bool.eq_iff_iff];simp
def qby {i j:Str}:decide (V.str i=V.str j)=(i==j):=by
 rw [Bool.eq_iff_iff];simp
def qcd {i j:Array UInt8}:decide (V.byt i=V.byt j)=(i.toList==j.toList):=by
 rw [Bool.eq_iff_iff];cases i;cases j;simp
section
variable {X:Cx} {a b c:Expr} {ta tb tc:TE} {pos:Pos}
def zp {pins:List (Addr×Obj)} {σ:St} {H:Hp} {s:Shared} {Q:VK} {k k':Bool} (I:Inv X pins σ H s) (q:Q (.bl k) H) (e:k=k'):EP X pins σ Q (.bool k') s:=by
 subst e;exact ⟨.bl k,H,I,rfl,q⟩
def qoz:OpR X (compareOp .Eq) rEq:=by
 intro pins s σ H x y v u Q I rx ry h;obtain ⟨hs,q⟩:=h;cases x with
 |non=>
  cases rx;cases y with
  |non=>cases ry;exact PySem.EqNone.eq_none_none (zp I q (by simp))
  |bl j=>cases ry;exact PySem.EqNone.eq_none_bool (zp I q (by simp))
  |int j=>obtain ⟨t',rfl⟩:=ry;exact PySem.EqNone.eq_none_int (zp I q (by simp))
  |str j=>obtain ⟨t',rfl⟩:=ry;exact PySem.EqNone.eq_none_str (zp I q (by simp))
  |_=>exact absurd (show false=true from hs) Bool.false_ne_true
 |bl i=>
  cases rx;cases y with
  |non=>cases ry;exact PySem.EqNone.eq_bool_none (zp I q (by simp))
  |bl j=>cases ry;exact eq_bool (zp I q qf7)
  |str j=>obtain ⟨t',rfl⟩:=ry;exact PySem.EqMixed.eq_bool_str (zp I q (by simp))
  |_=>exact absurd (show false=true from hs) Bool.false_ne_true
 |int i=>
  obtain ⟨t,rfl⟩:=rx;cases y with
  |non=>cases ry;exact PySem.EqNone.eq_int_none (zp I q (by simp))
  |int j=>obtain ⟨t',rfl⟩:=ry;exact eq_int (zp I q qdf)
  |str j=>obtain ⟨t',rfl⟩:=ry;exact PySem.EqMixed.eq_int_str (zp I q (by simp))
  |_=>exact absurd (show false=true from hs) Bool.false_ne_true
 |str i=>
  obtain ⟨t,rfl⟩:=rx;cases y with
  |non=>cases ry;exact PySem.EqNone.eq_str_none (zp I q (by simp))
  |bl j=>cases ry;exact PySem.EqMixed.eq_str_bool (zp I q (by simp))
  |int j=>obtain ⟨t',rfl⟩:=ry;exact PySem.EqMixed.eq_str_int (zp I q (by simp))
  |str j=>obtain ⟨t',rfl⟩:=ry;exact eq_str (zp I q qby)
  |_=>exact absurd (show false=true from hs) Bool.false_ne_true
 |byt i=>
  obtain ⟨t,rfl⟩:=rx;cases y with
  |byt j=>obtain ⟨t',rfl⟩:=ry;exact PySem.W.eq_bytes (zp I q qcd)
  |_=>exact absurd (show false=true from hs) Bool.false_ne_true
 |_=>cases y<;>exact absurd (show false=true from hs) Bool.false_ne_true
def qo5:OpR X (compareOp .NotEq) rNe:=by
 intro pins s σ H x y v u Q I rx ry h;obtain ⟨hs,q⟩:=h;cases x with
 |non=>
  cases rx;cases y with
  |non=>cases ry;exact PySem.EqNone.ne_none_none (zp I q (by simp))
  |bl j=>cases ry;exact PySem.EqNone.ne_none_bool (zp I q (by simp))
  |int j=>obtain ⟨t',rfl⟩:=ry;exact PySem.EqNone.ne_none_int (zp I q (by simp))
  |str j=>obtain ⟨t',rfl⟩:=ry;exact PySem.EqNone.ne_none_str (zp I q (by simp))
  |_=>exact absurd (show false=true from hs) Bool.false_ne_true
 |bl i=>
  cases rx;cases y with
  |non=>cases ry;exact PySem.EqNone.ne_bool_none (zp I q (by simp))
  |bl j=>cases ry;exact ne_bool (zp I q (congrArg not qf7))
  |str j=>obtain ⟨t',rfl⟩:=ry;exact PySem.EqMixed.ne_bool_str (zp I q (by simp))
  |_=>exact absurd (show false=true from hs) Bool.false_ne_true
 |int i=>
  obtain ⟨t,rfl⟩:=rx;cases y with
  |non=>cases ry;exact PySem.EqNone.ne_int_none (zp I q (by simp))
  |int j=>obtain ⟨t',rfl⟩:=ry;exact ne_int (zp I q (congrArg not qdf))
  |str j=>obtain ⟨t',rfl⟩:=ry;exact PySem.EqMixed.ne_int_str (zp I q (by simp))
  |_=>exact absurd (show false=true from hs) Bool.false_ne_true
 |str i=>
  obtain ⟨t,rfl⟩:=rx;cases y with
  |non=>cases ry;exact PySem.EqNone.ne_str_none (zp I q (by simp))
  |bl j=>cases ry;exact PySem.EqMixed.ne_str_bool (zp I q (by simp))
  |int j=>obtain ⟨t',rfl⟩:=ry;exact PySem.EqMixed.ne_str_int (zp I q (by simp))
  |str j=>obtain ⟨t',rfl⟩:=ry;exact ne_str (zp I q (congrArg not qby))
  |_=>exact absurd (show false=true from hs) Bool.false_ne_true
 |byt i=>
  obtain ⟨t,rfl⟩:=rx;cases y with
  |byt j=>obtain ⟨t',rfl⟩:=ry;exact PySem.W.ne_bytes (zp I q (congrArg not qcd))
  |_=>exact absurd (show false=true from hs) Bool.false_ne_true
 |_=>cases y<;>exact absurd (show false=true from hs) Bool.false_ne_true
def qiI:OpR X (compareOp .Lt) (rI0 λi j=>.bl (decide (i<j))):=qnR λ_ _ _ _ _ _ _ q=>lt_int q
def qht:OpR X (compareOp .LtE) (rI0 λi j=>.bl (decide (i<=j))):=qnR λ_ _ _ _ _ _ _ q=>le_int q
def NO:OpR X (compareOp .Gt) (rI0 λi j=>.bl (decide (j<i))):=qnR λ_ _ _ _ _ _ _ q=>gt_int q
def qhb:OpR X (compareOp .GtE) (rI0 λi j=>.bl (decide (j<=i))):=qnR λ_ _ _ _ _ _ _ q=>ge_int q
def qc3:OpR X (compareOp .Is) (λx y H Q=>y=.non/\Q (.bl (decide (x=.non))) H):=by
 intro pins s σ H x y v u Q I rx ry h;obtain ⟨rfl,q⟩:=h;cases ry;refine is_none_gen (zp I q ?_);cases x<;>first
  | (cases rx;rfl)
  | (obtain ⟨t,rfl⟩:=rx;rfl)
def OpR.or {f:Value->Value->Sem Value} {r r':R2} (h:OpR X f r) (h':OpR X f r'):OpR X f (λx y H Q=>r x y H Q\/r' x y H Q):=by
 intro pins s σ H x y v u Q I rx ry q;rcases q with q|q
 ·exact h pins s σ H x y v u Q I rx ry q
 ·exact h' pins s σ H x y v u Q I rx ry q
def qr (b:Expr) {op:CmpOp} (h:op≠.In:=by decide) (h2:op≠.NotIn:=by decide):behindInMarks op b=false:=by
 have e1:(op==CmpOp.In)=false:=by cases op<;>first|rfl|exact absurd rfl h
 have e2:(op==CmpOp.NotIn)=false:=by cases op<;>first|rfl|exact absurd rfl h2
 cases b<;>simp [behindInMarks,e1,e2]
def qg0 {op:CmpOp} {r:R2} (ho:OpR X (compareOp op) r) (ha:PE X a ta) (hb:PE X b tb) (hm:behindInMarks op b=false):PE X (.Compare a [op] [b] pos) (tOp r ta tb):=by
 intro pins s σ H Q I h;exact wpAny_Compare1 (qo6 ha hb I h λv u s2 x y H2 I2 rx ry q=>ho pins s2 σ H2 x y v u Q I2 rx ry q) hm
def qh9 (t:TE):TT:=λσ H Q=>t σ H λx H'=>∃ k,x=.bl k/\Q k H'
def qgT {op:CmpOp} {r:R2} (ho:OpR X (compareOp op) r) (ha:PE X a ta) (hb:PE X b tb) (hm:behindInMarks op b=false):PT X (.Compare a [op] [b] pos) (qh9 (tOp r ta tb)):=by
 intro pins s σ H Q I h;refine wpAny_isTrue_Compare1 (thn (ha pins s σ H _ I h) λv s1 ⟨x,H1,I1,r1,q1⟩=>thn (hb pins s1 σ H1 _ I1 q1) λu s2 ⟨y,H2,I2,r2,q2⟩=>
  thn (ho pins s2 σ H2 x y v u _ I2 r1 r2 q2) λc s3 ⟨z,H3,I3,r3,k,e,q3⟩=>?_) hm
 subst e;cases r3;exact wpAny_truthy_bool ⟨H3,I3,q3⟩
def qgK (r r':R2) (ta tb tc:TE):TE:=λσ H Q=>ta σ H λx H1=>tb σ H1 λy H2=>r x y H2 λz H3=>∃ k,z=.bl k /\
 (if k=true then tc σ H3 λw' H4=>r' y w' H4 Q else Q (.bl false) H3)
def qd9 {op op':CmpOp} {r r':R2} (ho:OpR X (compareOp op) r) (ho':OpR X (compareOp op') r') (ha:PE X a ta) (hb:PE X b tb) (hc:PE X c tc)
  (hm:lastMarks [op,op'] [b,c]=false:=by with_unfolding_all rfl):PT X (.Compare a [op,op'] [b,c] pos) (qh9 (qgK r r' ta tb tc)):=by
 intro pins s σ H Q I h;refine isTrue_chain (thn (ha pins s σ H _ I h) λv s1 ⟨x,H1,I1,r1,q1⟩=>test_link (thn (hb pins s1 σ H1 _ I1 q1) λu s2 ⟨y,H2,I2,r2,q2⟩=>
  thn (ho pins s2 σ H2 x y v u _ I2 r1 r2 q2) λd s3 ⟨z,H3,I3,r3,k,e,q3⟩=>?_)) hm
 subst e;cases r3;refine wpAny_truthy_bool ?_;cases k with
 |false=>
  obtain ⟨k',e',q'⟩:=q3;cases e';exact ite_ff ⟨H3,I3,q'⟩
 |true=>
  refine ite_tt (test_last (thn (hc pins s3 σ H3 _ I3 q3) λw' s4 ⟨z',H4,I4,r4,q4⟩=>thn (ho' pins s4 σ H4 y z' u w' _ I4 r2 r4 q4) λd' s5 ⟨z2,H5,I5,r5,k2,e2,q5⟩=>?_));subst e2;cases r5;exact wpAny_truthy_bool ⟨H5,I5,q5⟩
def LN:(sizeLine:Nat)<2 ^ 63:=by rw [sizeLine_eq];decide
def SZ {x:V} {us:List Value} (r:jh [x] us):∃ u,us=[u]/\ZP x u:=by
 cases r with
 |cons r1 r2=>cases r2;exact ⟨_,rfl,r1⟩
def qdc {x y:V} {us:List Value} (r:jh [x,y] us):∃ u w',us=[u,w']/\ZP x u/\ZP y w':=by
 cases r with
 |cons r1 r2=>
  cases r2 with
  |cons r3 r4=>cases r4;exact ⟨_,_,rfl,r1,r3⟩
def qam:UE X (.builtin "abs") (λxs H Q=>∃ i,xs=[.int i]/\Q (.int (if i<0 then -i else i)) H):=by
 intro pins s σ H xs us Q I r h;obtain ⟨i,rfl,q⟩:=h;obtain ⟨u,rfl,t,rfl⟩:=SZ r;exact call_abs_int λu tk=>⟨.int (if i<0 then -i else i),H,I.tok _,⟨_,rfl⟩,q⟩
def qcu (hc:X.calm=true):UE X (.builtin "min") (λxs H Q=>∃ i j,xs=[.int i,.int j]/\Q (.int (if j<i then j else i)) H):=by
 intro pins s σ H xs us Q I r h;obtain ⟨i,j,rfl,q⟩:=h;obtain ⟨u,w',rfl,⟨t,rfl⟩,⟨t',rfl⟩⟩:=qdc r;refine min_two_ints (I.ok.hd hc) λh' tk k=>⟨_,H,I.kept k,?_,q⟩
 by_cases hj:j<i
 ·rw [if_pos hj,if_pos hj];exact ⟨_,rfl⟩
 ·rw [if_neg hj,if_neg hj];exact ⟨_,rfl⟩
def qqr (K:Frg) (x:V) (H:Hp) (n:Nat):Prop:=
 match x with
 |.str y=>y.length<=sizeLine/\n=y.length
 |.byt y=>y.size<=sizeLine/\n=y.size
 |.ref p=>(∃ xs,SqL K H p xs/\n=xs.length)\/∃ xs,SqT K H p xs/\n=xs.length
 |_=>False
def zI:UE X (.builtin "len") (λxs H Q=>∃ x n,xs=[x]/\qqr X.K x H n/\Q (.int n) H):=by
 intro pins s σ H xs us Q I r h;obtain ⟨x,n,rfl,e,q⟩:=h;obtain ⟨u,rfl,rx⟩:=SZ r;have hl:=LN;have hs:sizeLine=16777216:=sizeLine_eq;cases x with
 |str y=>
  obtain ⟨t,rfl⟩:=rx;obtain ⟨hy,e'⟩:y.length<=sizeLine/\n=y.length:=e;subst e';exact len_str (by omega) ⟨.int _,H,I.tok _,⟨_,rfl⟩,q⟩
 |byt y=>
  obtain ⟨t,rfl⟩:=rx;obtain ⟨hy,e'⟩:y.size<=sizeLine/\n=y.size:=e;subst e';exact PySem.W.len_bytes (by omega) ⟨.int _,H,I.tok _,⟨_,rfl⟩,q⟩
 |ref p=>
  cases rx;have e':(∃ xs,SqL X.K H p xs/\n=xs.length)\/∃ xs,SqT X.K H p xs/\n=xs.length:=e;rcases e' with ⟨xs,hx,e'⟩|⟨xs,hx,e'⟩
  ·subst e';obtain ⟨its,r',pl,hz⟩:=I.list hx;have hlen:=r'.length;exact Calls.call_len_list pl.isList (by simp only [size_toArray];omega) ⟨.int xs.length,H,I.tok _,⟨_,by simp only [size_toArray];rw [hlen]⟩,q⟩
  ·subst e';obtain ⟨its,r',pl,hz⟩:=I.tuple hx;have hlen:=r'.length;exact len_tuple pl (by simp only [size_toArray];omega) ⟨.int xs.length,H,I.tok _,⟨_,by simp only [size_toArray];rw [hlen]⟩,q⟩
 |_=>exact (show False from e).elim
end
section
variable {prog:Program} {w:World} {A:Around} {E:Value->Shared->Prop} {s:Shared} {K:Frg} {x dx C f:Addr} {mA:Str->Option Value} {name:Str} {v:Value}
end
section
variable {P:Program} {w:World} {H H':Hp} {h h':Heap} {a C dx:Addr} {fs fs':List (Str×V)}
end
section
variable {X:Cx} {pins:List (Addr×Obj)} {σ:St} {H:Hp} {s:Shared} {a C dx:Addr} {fs:List (Str×V)} {f:Str} {v:V} {A:Around} {E:Value->Shared->Prop}
end
section
variable {X:Cx} {o e value:Expr} {f:Str} {pos pos' tpos:Pos} {ta tv:TE}
end
section
variable {X:Cx} {pins:List (Addr×Obj)} {σ:St} {H:Hp} {s:Shared} {A:Around} {E:Value->Shared->Prop} {Q:Value->Shared->Prop} {c:Value} {b:Bool}
end
structure Room (k:Nat) (A:Around):Prop where
 hd:A.handled=none
 dp:A.depth+3*k+5<recursionLimit
 un:A.units+16*k+200<cLine
 gd:A.guards=some []
def Room.mono {j k:Nat} {A:Around} (r:Room k A) (h:j<=k):Room j A:=⟨r.hd,by have:=r.dp;omega,by have:=r.un;omega,r.gd⟩
def Room.deeper {k:Nat} {A:Around} (r:Room (k+1) A) (env:Env):Room k (A.deeper env):=
 ⟨r.hd,by have:=r.dp;show A.depth+1+3*k+5<_;omega,by have:=r.un;show A.units+3+16*k+200<_;omega,r.gd⟩
def Room.in1 {k:Nat} {A:Around} (r:Room (k+1) A):Room k A.in1:=
 ⟨r.hd,by have:=r.dp;show A.depth+3*k+5<_;omega,by have:=r.un;show A.units+1+16*k+200<_;omega,r.gd⟩
def Room.depth {k:Nat} {A:Around} (r:Room k A):A.depth<recursionLimit:=by have:=r.dp;omega
def Room.units {k:Nat} {A:Around} (r:Room k A):A.units+64<cLine:=by have:=r.un;omega
def qrD:TA:=λ_ H Q=>Q [] H
def qoj (ta:TE) (tr:TA):TA:=λσ H Q=>ta σ H λx H1=>tr σ H1 λxs H2=>Q (x::xs) H2
section
variable {X:Cx} {e:Expr} {es:List Expr} {te:TE} {t:TA} {pos:Pos}
def NS:PA X [] qrD:=λ_ _ _ _ H Q I h=>Calls.spliced_nil ⟨[],H,I,.nil,h⟩
def EB (ha:PE X e te) (hr:PA X es t) (hs:starEach (e::es) X.env=(false,eval e X.env)::starEach es X.env:=by rfl):PA X (e::es) (qoj te t):=by
 intro pos pins s σ H Q I h;rw [hs];show wpAny _ _ (spliced ((false,eval e X.env)::backTo pos (starEach es X.env))) _ _ s;refine Calls.spliced_cons (thn (ha pins s σ H _ I h) λu s1 ⟨x,H1,I1,r1,q1⟩=>?_);exact thn (hr pos pins s1 σ H1 _ I1 q1) λus s2 ⟨xs,H2,I2,r2,q2⟩=>⟨x::xs,H2,I2,.cons r1 r2,q2⟩
def qrm (t:TA):TE:=λσ H Q=>t σ H λxs H1=>xs.length<=sizeLine/\∀ p,H1 p=none->Q (.ref p) (upd H1 p (.tup xs))
def qrf (t:TA):TE:=λσ H Q=>t σ H λxs H1=>xs.length<=sizeLine/\∀ p,H1 p=none->Q (.ref p) (upd H1 p (.lst xs))
def qgL {x1} (h:PA X es t):PE X (.Tuple es x1 pos) (qrm t):=by
 intro pins s σ H Q I hq;refine wpAny_Tuple_spliced (thn (h pos pins s σ H _ I hq) λus s1 ⟨xs,H1,I1,r,z,q⟩=>⟨by rw [← r.length];exact z,?_⟩);have hf:H1 s1.heap.objs.size=none:=I1.hok.fresh (Nat.le_refl _);refine ⟨.ref s1.heap.objs.size,upd H1 s1.heap.objs.size (.tup xs),I1.laid (t':=s1.toks) (λb u e=>Heap.get?_push_of_some _ e) (Nat.le_refl _) ?_,rfl,q _ hf⟩;exact ⟨z,us,r,⟨_,Heap.get?_push_size _ rfl,rfl,_,rfl,rfl⟩⟩
def qlQ (h:PA X es t):PE X (.List es pos) (qrf t):=by
 intro pins s σ H Q I hq;refine wpAny_List_spliced (thn (h pos pins s σ H _ I hq) λus s1 ⟨xs,H1,I1,r,z,q⟩=>⟨by rw [← r.length];exact z,?_⟩);have hf:H1 s1.heap.objs.size=none:=I1.hok.fresh (Nat.le_refl _);refine ⟨.ref s1.heap.objs.size,upd H1 s1.heap.objs.size (.lst xs),I1.laid (t':=s1.toks) (λb u e=>Heap.get?_push_of_some _ e) (Nat.le_refl _) ?_,rfl,q _ hf⟩;exact ⟨z,us,0,r,Heap.get?_push_size _ rfl⟩
end
abbrev Sp:=List V->Hp->VK->XK->Prop
abbrev CXT:=List Env->Hp->Shared->XK->Value->Shared->Prop
structure Env0 (P:Program) (w:World) (K:Frg) (mg:Str->Option Value) (base:Heap) (A:Around) (outer:List Env) (s:Shared) (H:Hp):Prop where
 frames:A.frames=some outer
 mod:Mod K mg base
 bs:∀ b o,base.get? b=some o->s.heap.get? b=some o/\H b=none
 bsz:base.objs.size<=s.heap.objs.size
 funs:s.heap.FunFrames base outer
 frf:∀ b∈frs outer,H b=none
 hok:HOk P w H s.heap
 bare:AllBare s.gens
def CE (outer:List Env) (P:Program) (w:World) (H:Hp) (s:Shared) (Q:VK) (u:Value) (s':Shared):Prop:=
 ∃ v H',s'.os=s.os/\AllBare s'.gens/\Un (frs outer) [] H H' s.heap s'.heap/\HOk P w H' s'.heap/\ZP v u/\Q v H'
def CR (CX:CXT) (outer:List Env) (P:Program) (w:World) (H:Hp) (s:Shared) (Q:VK) (E:XK) (r:Result) (s':Shared):Prop:=
 match r with
 |.ok (.ret u)=>CE outer P w H s Q u s'
 |.ok _=>False
 |.error e=>CX outer H s E e s'
structure FnOk (P:Program) (w:World) (K:Frg) (mg:Str->Option Value) (base:Heap) (CX:CXT) (k:Nat) (f:Addr) (fd:FuncData) (ps:List Str) (sp:Sp):Prop where
 len:∀ vs H Q E,sp vs H Q E->vs.length=ps.length
 run:∀ (A:Around) (outer:List Env) (s:Shared) (H:Hp) (args:Args) (us:List Value) (vs:List V) (Q:VK) (E:XK),Room k A->Env0 P w K mg base A outer s H->BindsTo s fd args (ps.zip us)->jh vs us->sp vs H Q E ->
  codeAny (model P w) A (.call (.ref f) args) (CR CX outer P w H s Q E) s
def FnOk.mono {P:Program} {w:World} {K:Frg} {mg:Str->Option Value} {base:Heap} {CX:CXT} {j k:Nat} {f:Addr} {fd:FuncData} {ps:List Str} {sp:Sp} (F:FnOk P w K mg base CX j f fd ps sp) (h:j<=k) :
  FnOk P w K mg base CX k f fd ps sp:=⟨F.len,λA outer s H args us vs Q E hr=>F.run A outer s H args us vs Q E (hr.mono h)⟩
def FnOk.imp {P:Program} {w:World} {K:Frg} {mg:Str->Option Value} {base:Heap} {CX:CXT} {k:Nat} {f:Addr} {fd:FuncData} {ps:List Str} {sp sp':Sp} (F:FnOk P w K mg base CX k f fd ps sp)
  (h:∀ vs H Q E,sp' vs H Q E->sp vs H Q E):FnOk P w K mg base CX k f fd ps sp':=
 ⟨λvs H Q E q=>F.len vs H Q E (h _ _ _ _ q),λA outer s H args us vs Q E hr he hb hv hs=>F.run A outer s H args us vs Q E hr he hb hv (h _ _ _ _ hs)⟩
def Env0.in1 {P:Program} {w:World} {K:Frg} {mg:Str->Option Value} {base:Heap} {A:Around} {outer:List Env} {s:Shared} {H:Hp} (e:Env0 P w K mg base A outer s H) :
  Env0 P w K mg base A.in1 outer s H:=⟨e.frames,e.mod,e.bs,e.bsz,e.funs,e.frf,e.hok,e.bare⟩
section
variable {X:Cx} {pins:List (Addr×Obj)} {σ:St} {H:Hp} {s s':Shared}
def Inv.env0 (I:Inv X pins σ H s):Env0 X.prog X.w X.K X.mg X.base X.A X.stack s H:=
 ⟨I.ok.frames,I.ok.mod,I.bs,Nat.le_trans I.ok.bsz I.sz,I.stack,I.stkFree,I.hok,I.bare⟩
def Inv.after {Q:VK} {u:Value} (I:Inv X pins σ H s) (h:CE X.stack X.prog X.w H s Q u s'):EP X pins σ Q u s':=by
 obtain ⟨v,H',os,bare,un,hok,r,q⟩:=h;obtain ⟨hh,g,d,t,os'⟩:=s';obtain rfl:os'=s.os:=os;exact ⟨v,H',I.call (h':=hh) (g':=g) (d':=d) (t':=t) (ch:=[]) un hok bare (λb z=>absurd z (by simp)),r,q⟩
end
def qpY (sp:Sp) (dvs:List V) (E:XK) (t:TA):TE:=λσ H Q=>t σ H λvs H1=>sp (vs++dvs) H1 Q E
def zt (K:Frg) (fd:FuncData) (ps:List Str) (ds:List Value):Prop:=
 ∀ (s:Shared) (us:List Value),K.In s.heap->(us++ds).length=ps.length->BindsTo s fd ⟨us,[]⟩ (ps.zip (us++ds))
def zt.all {K:Frg} {fd:FuncData} {ps:List Str} (h:∀ us:List Value,us.length=ps.length->bindArgs fd ⟨us,[]⟩=pure (ps.zip us)):zt K fd ps []:=λs us _ hl=>by
 rw [List.append_nil] at hl ⊢;exact .of_eq (h us hl)
def qbZ (CX:CXT) (X:Cx) (E:XK):Prop:=∀ (pins:List (Addr×Obj)) (σ:St) (H:Hp) (s:Shared) (e:Value) (s':Shared),Inv X pins σ H s->CX X.stack H s E e s'->X.xe e s'
section
variable {X:Cx} {CX:CXT} {k:Nat} {f C:Addr} {fd:FuncData} {ps:List Str} {sp:Sp} {dvs:List V} {ds:List Value} {E:XK} {x m:Str} {p pos apos:Pos} {e o:Expr} {es:List Expr} {ta:TE} {t:TA}
def qmI {pins:List (Addr×Obj)} {σ:St} {H:Hp} {s:Shared} {Q:VK} {us:List Value} {vs:List V} (F:FnOk X.prog X.w X.K X.mg X.base CX k f fd ps sp) (hr:Room k X.A) (hb:zt X.K fd ps ds) (hd:jh dvs ds) (hx:qbZ CX X E)
  (I:Inv X pins σ H s) (r:jh vs us) (h:sp (vs++dvs) H Q E):wpAny (model X.prog X.w) X.A (call (.ref f) us) (EP X pins σ Q) X.xe s:=by
 have r2:jh (vs++dvs) (us++ds):=r.append hd;have hl:(us++ds).length=ps.length:=by rw [← r2.length];exact F.len _ _ _ _ h
 refine wpAny_call (codeAny_mono (F.run X.A X.stack s H ⟨us,[]⟩ (us++ds) (vs++dvs) Q E hr I.env0 (hb s us I.kIn hl) r2 h) λr s' hq=>?_);cases r with
 |error e=>exact hx pins σ H s e s' I hq
 |ok fl=>
  cases fl with
  |ret u=>exact I.after hq
  |next=>exact False.elim hq
  |brk=>exact False.elim hq
  |cont=>exact False.elim hq
def qit (F:FnOk X.prog X.w X.K X.mg X.base CX k f fd ps sp) (hr:Room k X.A) (hg:Gl X x) (hm:X.mg x=some (.ref f)) (hk:PySem.W.keepIn X.K (.ref f)=true) (hb:zt X.K fd ps ds) (hd:jh dvs ds) (hx:qbZ CX X E)
  (ha:PA X (e::es) t) (hdb:(x==("__debug__" : Str))=false:=by decide) (he:starEach (e::es) X.env=(false,eval e X.env)::starEach es X.env:=by rfl) (hpl:(backTo pos (starEach es X.env)).any (·.1)=false:=by rfl) :
  PE X (.Call (.Name x p) (e::es) [] pos) (qpY sp dvs E t):=by
 intro pins s σ H Q I h;refine wpAny_Call_Name_kw (qcU I hg hm ?_ hdb);refine PySem.W.callWith_K (h₀:=X.base) I.ok.mod.kin hk (thn (ha pos pins s σ H _ I h) λus s1 ⟨vs,H1,I1,r,q⟩=>⟨I1.kIn,?_⟩) he hpl;exact qmI F hr hb hd hx I1 r q
end
section
variable {X:Cx} {CX:CXT} {k:Nat} {f C:Addr} {fd:FuncData} {ps ks:List Str} {sp:Sp} {E:XK} {x m:Str} {p pos apos kpos:Pos} {e o:Expr} {es:List Expr} {kws:List Keyword} {te ta:TE} {t tk:TA} {nm:Option Str}
variable {g:List Value->List Value->List Value} {gV:List V->List V->List V}
end
structure FnScope (N P:List Str) (sc:Scope):Prop where
 kind:sc.kind=.function
 co:sc.isCoroutine=false
 gen:sc.isGenerator=false
 nd:N.Nodup
 pre:N.take P.length=P
 par:∀ x∈P,sc.names.lookup x=some .local\/sc.names.lookup x=some .cell
 nofree:∀ y∈sc.names,y.2≠.free
def KJ {kindOf:Str->Option NameKind} {x:Str}:∀ {binds:List (Str×Value)} {m:Str->Option Value},(∀ v,(x,v)∉binds)->bindL kindOf binds m x=m x
 |[],_,_=>rfl
 | (n,v)::r,m,h=>by
  unfold bindL;rw [KJ λw hw=>h w (List.mem_cons_of_mem _ hw)];split
  ·have:x≠n:=by rintro rfl;exact h v List.mem_cons_self
   simp [this]
  ·rfl
def LO {kindOf:Str->Option NameKind} {x:Str}:∀ {binds:List (Str×Value)} {m:Str->Option Value},(∀ v,(x,v)∉binds)->bindC kindOf binds m x=m x
 |[],_,_=>rfl
 | (n,v)::r,m,h=>by
  unfold bindC;rw [LO λw hw=>h w (List.mem_cons_of_mem _ hw)];split
  ·rfl
  ·have:x≠n:=by rintro rfl;exact h v List.mem_cons_self
   simp [this]
def MD {kindOf:Str->Option NameKind} {x:Str} {v:Value}:∀ {P:List Str} {vs:List Value} {i:Nat} {m:Str->Option Value},P.Nodup->P[i]?=some x->vs[i]?=some v->kindOf x=some .local ->
  bindL kindOf (P.zip vs) m x=some v
 |[],_,_,_,_,h,_,_=>by simp at h
 |_::_,[],_,_,_,_,h,_=>by simp at h
 |p::P,w::vs,0,m,nd,h1,h2,hk=>by
  simp at h1 h2;subst h1;subst h2;show bindL kindOf ((p,w)::P.zip vs) m p=_;unfold bindL;rw [KJ λv hv=>(List.nodup_cons.mp nd).1 (List.of_mem_zip hv).1,if_pos hk];simp
 |p::P,w::vs,i+1,m,nd,h1,h2,hk=>by
  show bindL kindOf ((p,w)::P.zip vs) m x=_;unfold bindL;exact MD (i:=i) (List.nodup_cons.mp nd).2 (by simpa using h1) (by simpa using h2) hk
def KW {kindOf:Str->Option NameKind} {x:Str} {v:Value}:∀ {P:List Str} {vs:List Value} {i:Nat} {m:Str->Option Value},P.Nodup->P[i]?=some x->vs[i]?=some v->kindOf x≠some .local ->
  bindC kindOf (P.zip vs) m x=some v
 |[],_,_,_,_,h,_,_=>by simp at h
 |_::_,[],_,_,_,_,h,_=>by simp at h
 |p::P,w::vs,0,m,nd,h1,h2,hk=>by
  simp at h1 h2;subst h1;subst h2;show bindC kindOf ((p,w)::P.zip vs) m p=_;unfold bindC;rw [LO λv hv=>(List.nodup_cons.mp nd).1 (List.of_mem_zip hv).1,if_neg hk];simp
 |p::P,w::vs,i+1,m,nd,h1,h2,hk=>by
  show bindC kindOf ((p,w)::P.zip vs) m x=_;unfold bindC;exact KW (i:=i) (List.nodup_cons.mp nd).2 (by simpa using h1) (by simpa using h2) hk
def X0 (N:List Str) (vs:List V):St:=vs.map some++List.replicate (N.length-vs.length) none
def qdq (CX:CXT) (P:Program) (w:World) (K:Frg) (mg:Str->Option Value) (base:Heap) (N:List Str) (qual:Str) (scope:Scope) (f:Addr) (cd:Value) (A:Around) (outer:List Env) (s:Shared) (H:Hp) (E:XK):Cx where
 prog:=P
 w:=w
 K:=K
 mg:=mg
 base:=base
 A:=A.deeper (envOfC qual scope s.heap.objs.size f cd)
 N:=N
 s₀:=s
 H₀:=H
 env:=envOfC qual scope s.heap.objs.size f cd
 outer:=outer
 stack:=envOfC qual scope s.heap.objs.size f cd::outer
 ex:=[]
 calm:=true
 fn:=λ_=>true
 pn:=[]
 xe:=λe s'=>wpAny (model P w) (A.deeper (envOfC qual scope s.heap.objs.size f cd)) (leaving (envOfC qual scope s.heap.objs.size f cd) e) (λ_ s''=>CX outer H s E e s'') (λe' s''=>CX outer H s E e' s'') s'
def N7 {sc:Scope} {n:Nat} {x:Str} (h:sc.names.lookup x=some .cell):∃ c,(cellsFrom n sc.names []).lookup x=some c:=by
 have q:=PySem.W.cellsFrom_some sc.names n [] (.inl h);exact Option.isSome_iff_exists.mp q
def qca {CX:CXT} {P:Program} {w:World} {K:Frg} {mg:Str->Option Value} {base:Heap} {N ps:List Str} {qual:Str} {scope:Scope} {f:Addr} {cd:Value} {A:Around} {outer:List Env} {s s1:Shared} {H:Hp} {E:XK} {us:List Value} {vs:List V}
  (S:FnScope N ps scope) (hd:A.handled=none) (e0:Env0 P w K mg base A outer s H) (hl:vs.length=ps.length) (r:jh vs us)
  (x:InCallC s s.heap.objs.size (bindL (envOfC qual scope s.heap.objs.size f cd).kindOf (ps.zip us) λ_=>none) (cellsFrom (s.heap.objs.size+1) scope.names []) (bindC (envOfC qual scope s.heap.objs.size f cd).kindOf (ps.zip us) λ_=>none) s1) :
  Inv (qdq CX P w K mg base N qual scope f cd A outer s H E) [] (X0 N vs) H s1:=by
 have hpl:ps.length<=N.length:=by have:=congrArg List.length S.pre;rw [List.length_take] at this;omega
 obtain ⟨h1,tk,rfl,hk⟩:=x.done;have noA:∀ b:Addr,b∉(qdq CX P w K mg base N qual scope f cd A outer s H E).ex:=λb z=>absurd (show b∈([]:List Addr) from z) (by simp);refine ⟨⟨e0.mod,S.kind,rfl,rfl,Nat.le_refl _,λy z c h1 h2=>?_,λy hy=>?_,λy c _ h=>?_,λ_=>hd,Around.frames_deeper e0.frames,.inr ⟨rfl,rfl⟩,λb z=>absurd z (noA b),e0.bs,e0.bsz,λb _ _=>noA b,λb z=>absurd z (noA b),e0.funs,e0.frf⟩,
  rfl,e0.bare,Un.kept hk,⟨_,x.toInCall.ns,λi y v h1 h2 h3=>?_⟩,λy c h=>⟨_,x.cell y c h⟩,e0.hok.fresh (Nat.le_refl _),λy c h=>?_,λp hp=>absurd (show p∈([]:List (Addr×Obj)) from hp) (by simp),e0.hok.kept hk,?_⟩
 ·exact name_of_addr x.apart (PySem.mem_of_lookup h1) (PySem.mem_of_lookup h2)
 ·have hy:scope.names.lookup y=some .cell\/scope.names.lookup y=some .free:=hy;rcases hy with hy|hy
  ·exact N7 hy
  ·exact absurd rfl (S.nofree _ (PySem.mem_of_lookup hy))
 ·exact Nat.le_of_lt (x.above y c (PySem.mem_of_lookup h))
 ·have hi:i<vs.length:=by
   unfold X0 at h2;by_cases hi:i<vs.length
   ·exact hi
   ·rw [List.getElem?_append_right (by simpa using hi)] at h2;rw [List.getElem?_replicate] at h2;split at h2<;>cases h2
  have ha:vs[i]?=some v:=by
   unfold X0 at h2;rw [List.getElem?_append_left (by simpa using hi),getElem?_map] at h2;cases e:vs[i]? with
   |none=>rw [e] at h2;cases h2
   |some a=>rw [e] at h2;cases h2;rfl
  obtain ⟨u,hu,rv⟩:=r.get ha;have hp:ps[i]?=some y:=by
   rw [← S.pre,List.getElem?_take_of_lt (by omega)];exact h1
  have ndP:ps.Nodup:=by rw [← S.pre];exact S.nd.sublist (List.take_sublist _ _)
  refine ⟨u,rv,?_⟩;rcases S.par y (mem_of_getElem? hp) with k|k
  ·exact .inl ⟨k,MD ndP hp hu k⟩
  ·obtain ⟨c,e⟩:=N7 (n:=s.heap.objs.size+1) k;refine .inr ⟨.inl k,c,e,?_⟩;have q:=x.cell y c e;rw [KW ndP hp hu (by show scope.names.lookup y≠_;rw [k];decide)] at q;exact q
 ·exact e0.hok.fresh (Nat.le_of_lt (x.above y c (PySem.mem_of_lookup h)))
 ·unfold X0;show _=N.length;rw [length_append,length_map,List.length_replicate];omega
def qpC {CX:CXT} {P:Program} {w:World} {K:Frg} {mg:Str->Option Value} {base:Heap} {k:Nat} {f:Addr} {name qual:Str} {params:Arguments} {body:List Stmt} {scope:Scope} {dV kV doc pm cdv ct oc:Value} {an od:Option Addr}
  {osl:Array (Option Value)} {N ps:List Str} {sp:Sp} (lk:K.lookup f=some ⟨oc,od,.func (PySem.W.fnOf name qual params body scope dV kV doc pm an cdv ct),osl⟩) (hcd:PySem.W.codeIn K cdv qual=true) (S:FnScope N ps scope)
  (len:∀ vs H Q E,sp vs H Q E->vs.length=ps.length)
  (hbody:∀ (A:Around) (outer:List Env) (s:Shared) (H:Hp) (vs:List V) (Q:VK) (E:XK),Room k (A.deeper (envOfC qual scope s.heap.objs.size f cdv))->sp vs H Q E ->
   ∃ t,PSs (qdq CX P w K mg base N qual scope f cdv A outer s H E) body t/\t { nx:=λ_ H'=>Q .non H',rt:=Q } (X0 N vs) H) :
  FnOk P w K mg base CX (k+1) f (PySem.W.fnOf name qual params body scope dV kV doc pm an cdv ct) ps sp:=by
 refine ⟨len,λA outer s H args us vs Q E hr e0 hb r hsp=>?_⟩;have hl:=len _ _ _ _ hsp;have KX:K.In s.heap:=e0.mod.kin.keeps λb o e=>(e0.bs b o e).1;have lim:s.heap.NoLimit:=e0.mod.nolimit.keeps λb o e=>(e0.bs b o e).1;have hkind:∀ y∈ps.zip us,scope.names.lookup y.1=some .local\/(scope.names.lookup y.1=some .cell/\((cellsFrom (s.heap.objs.size+1) scope.names []).lookup y.1).isSome=true):=λ⟨n,v⟩ hy=>by
  rcases S.par n (List.of_mem_zip hy).1 with q|q
  ·exact .inl q
  ·exact .inr ⟨q,PySem.W.cellsFrom_some _ _ _ (.inl q)⟩
 refine codeAny_call_function hr.depth (KX _ _ lk) rfl S.co S.gen rfl (PySem.W.codeRec_of KX hcd) (hb _ _ _ _ ?_);refine wpAny_newFunctionEnv_cells S.kind hkind λenv he s1 x=>?_;subst he;refine ⟨lim.keeps x.toInCall.keep,codeAny_func ?_⟩;obtain ⟨t,ht,hq⟩:=hbody A outer s H vs Q E (hr.deeper _) hsp;have I:Inv (qdq CX P w K mg base N qual scope f cdv A outer s H E) [] (X0 N vs) H s1:=qca S hr.hd e0 hl r x;refine wpAny_mono (ht [] s1 (X0 N vs) H _ I hq) (λfl s' hs=>?_) λe s' hs=>hs;have fin:∀ {σ':St} {H':Hp} {v:V} {u:Value},Inv (qdq CX P w K mg base N qual scope f cdv A outer s H E) [] σ' H' s'->ZP v u->Q v H'->CE outer P w H s Q u s':=
  λ{σ' H' v u} J rv q=>⟨v,H',J.os,J.bare,J.base,J.hok,rv,q⟩
 cases fl with
 |ret u=>
  obtain ⟨v,σ',H',J,rv,q⟩:=hs;exact fin J rv q
 |next=>
  obtain ⟨σ',H',J,q⟩:=hs;exact fin (v:=V.non) (u:=Value.none) J rfl q
 |brk=>
  obtain ⟨_,_,_,q⟩:=hs;exact False.elim q
 |cont=>
  obtain ⟨_,_,_,q⟩:=hs;exact False.elim q
section
variable {X:Cx} {x:Str} {p pos:Pos} {e:Expr} {es:List Expr} {t:TA} {id T:String} {r:List V->Hp->VK->Prop}
def tCB (r:List V->Hp->VK->Prop) (t:TA):TE:=λσ H Q=>t σ H λvs H1=>r vs H1 Q
def S7 (hc:UE X (.builtin id) r) (hg:Gl X x) (hm:X.mg x=none) (hv:bootBuiltins x=some (.builtin id)) (ha:PA X (e::es) t) (hn:x≠"__name__" := by decide) (hdb:(x==("__debug__" : Str))=false:=by decide)
  (he:starEach (e::es) X.env=(false,eval e X.env)::starEach es X.env:=by rfl) (hpl:(backTo pos (starEach es X.env)).any (·.1)=false:=by rfl):PE X (.Call (.Name x p) (e::es) [] pos) (tCB r t):=by
 intro pins s σ H Q I h;refine wpAny_Call_Name_kw (SA I hg hm hv ?_ hn hdb);exact PyProof.Rows.callWith_builtin1 (thn (ha pos pins s σ H _ I h) λus s1 ⟨vs,H1,I1,r1,q1⟩=>hc pins s1 σ H1 vs us Q I1 r1 q1) he hpl
def qcV (hc:UE X (.type T) r) (hg:Gl X x) (hm:X.mg x=none) (hv:bootBuiltins x=some (.type T)) (ha:PA X (e::es) t) (hn:x≠"__name__" := by decide) (hdb:(x==("__debug__" : Str))=false:=by decide)
  (he:starEach (e::es) X.env=(false,eval e X.env)::starEach es X.env:=by rfl) (hpl:(backTo pos (starEach es X.env)).any (·.1)=false:=by rfl):PE X (.Call (.Name x p) (e::es) [] pos) (tCB r t):=by
 intro pins s σ H Q I h;refine wpAny_Call_Name_kw (SA I hg hm hv ?_ hn hdb);exact PyProof.Rows.callWith_type1 (thn (ha pos pins s σ H _ I h) λus s1 ⟨vs,H1,I1,r1,q1⟩=>hc pins s1 σ H1 vs us Q I1 r1 q1) he hpl
end
end L2
namespace HT
open PySem PyProof.Rows
section
open PySem.SeqAt
open PySem.MeetsSeq PySem.MeetsSeq2 PySem.MeetsSeq3
end
section
variable {prog:Program} {w:World} {A:Around} {E:Value->Shared->Prop} {s:Shared}
def qgQ {t b:Addr} {vs ws:List Value} {Q:Value->Shared->Prop} (ht:IsTup s.heap t vs.toArray) (hb:IsTup s.heap b ws.toArray) (hv:vs≠[])
  (h1:ws=[]->Q (.ref t) s) (h2:ws≠[]->Q (.ref s.heap.objs.size) { s with heap:=s.heap.push { cls:=.type "tuple",data:=.seq (vs++ws).toArray } })
  (hsz:vs.length+ws.length<=sizeLine):wpAny (model prog w) A (binaryOp .Add (.ref t) (.ref b)) Q E s:=by
 obtain ⟨⟨cls,dd,data,sl⟩,ho,hc,n,hd⟩:=id ht;obtain ⟨⟨cls2,dd2,data2,sl2⟩,ho2,hc2,n2,hd2⟩:=id hb;simp only at hc hd hc2 hd2;subst hc hd hc2 hd2;have e:vs.toArray++ws.toArray=(vs++ws).toArray:=by simp
 by_cases hw:ws=[]
 ·exact concat_meets ⟨_,ho,rfl⟩ ⟨_,ho2,rfl⟩ noFill_tuple_add seq_tuple_add PySem.F.slot_tuple_add PySem.F.entry_tuple_add (PySem.F.args_tuple_add_2 _ _)
   (tuple_addW1 t b vs.toArray ws.toArray n n2 dd dd2 sl sl2 (by simpa using hv) (by simp [hw])) ⟨ho,ho2,h1 hw⟩
 ·refine concat_meets ⟨_,ho,rfl⟩ ⟨_,ho2,rfl⟩ noFill_tuple_add seq_tuple_add PySem.F.slot_tuple_add PySem.F.entry_tuple_add (PySem.F.args_tuple_add_2 _ _)
   (tuple_addW2 t b vs.toArray ws.toArray n n2 dd dd2 sl sl2 (by simpa using hv) (by simpa using hw) (by rw [size_toArray,size_toArray];exact hsz)) ⟨ho,ho2,?_⟩
  rw [e];exact h2 hw
def sIx (n d:Nat):Option Int->Nat
 |none=>d
 |some v=>if v<0 then (v+(n:Int)).toNat else min v.toNat n
def NT (n d:Nat):sIx n d none=d:=rfl
def T3 (n d k:Nat):sIx n d (some (k:Int))=min k n:=by
 show (if (k:Int)<0 then ((k:Int)+(n:Int)).toNat else min (k:Int).toNat n)=min k n;rw [if_neg (by omega),Int.toNat_natCast]
def qm8 (n d:Nat) (hd:d<=n) (o:Option Int):sIx n d o<=n:=by
 cases o with
 |none=>exact hd
 |some v=>
  show (if v<0 then (v+(n:Int)).toNat else min v.toNat n)<=n;by_cases hv:v<0
  ·rw [if_pos hv];omega
  ·rw [if_neg hv];exact Nat.min_le_right _ _
def qbF (v:Int) (n d:Nat):(if v<0 then max (v+(n:Int)) 0 else min v (n:Int))=((sIx n d (some v):Nat):Int):=by
 show (if v<0 then max (v+(n:Int)) 0 else min v (n:Int))=(((if v<0 then (v+(n:Int)).toNat else min v.toNat n):Nat):Int);by_cases hv:v<0
 ·simp only [if_pos hv];omega
 ·simp only [if_neg hv];omega
def qa6 (lo hi:Option Int) (n:Nat):Builtin.Slice.sliceAdjust lo hi 1 (n:Int)=(((sIx n 0 lo:Nat):Int),((sIx n n hi:Nat):Int)):=by
 have h1:¬ ((1:Int)<0):=by omega
 unfold Builtin.Slice.sliceAdjust;simp only [h1,if_false];refine Prod.ext ?_ ?_
 ·cases lo with
  |none=>rfl
  |some v=>exact qbF v n 0
 ·cases hi with
  |none=>rfl
  |some v=>exact qbF v n n
def qav (i j:Nat):Builtin.Slice.slicePlaces (i:Int) (j:Int) 1=j-i:=by
 unfold Builtin.Slice.slicePlaces;have h1:(1:Int) > 0:=by omega
 simp only [h1,if_true,Int.ediv_one];split<;>omega
def R4 {v:Value} {o:Option Int} {Q:Option Int->Shared->Prop} (p:IsPart v o) (h:Q o s):wpAny (model prog w) A (Builtin.Slice.slicePartIndex v) Q E s:=by
 cases p with
 |none=>exact slicePart_none h
 |int i t=>exact slicePart_int h
def VU {sl:Addr} {vl vu:Value} {lo hi:Option Int} {n:Nat} {Q:Int×Int×Nat->Shared->Prop} (hs:s.heap.IsSliceOf sl vl vu .none) (pl:IsPart vl lo) (pu:IsPart vu hi)
  (h:Q (((sIx n 0 lo:Nat):Int),1,sIx n n hi-sIx n 0 lo) s):wpAny (model prog w) A (Builtin.Slice.sliceApplied (.ref sl) (pure (n:Int))) Q E s:=by
 obtain ⟨os,hos,hcs,hds⟩:=id hs;unfold Builtin.Slice.sliceApplied Builtin.Slice.sliceFields;refine wpAny_bind (wpAny_bind (wpAny_field hos hds (x:=vl) rfl (wpAny_bind (wpAny_field hos hds (x:=vu) rfl (wpAny_bind (wpAny_field hos hds (x:=.none) rfl (wpAny_pure ?_)))))));refine wpAny_bind (slicePart_none ?_);show wpAny _ _ (if ((1:Int)==0)=true then _ else _) _ _ s;rw [if_neg (by decide)];refine wpAny_bind (R4 pl (wpAny_bind (R4 pu (wpAny_bind (wpAny_pure ?_)))));show wpAny _ _ (match Builtin.Slice.sliceAdjust lo hi 1 (n:Int) with|(lo,hi)=>pure (lo,(1:Int),Builtin.Slice.slicePlaces lo hi 1)) _ _ s;rw [qa6 lo hi n];show wpAny _ _ (pure (((sIx n 0 lo:Nat):Int),(1:Int),Builtin.Slice.slicePlaces ((sIx n 0 lo:Nat):Int) ((sIx n n hi:Nat):Int) 1)) _ _ s;rw [qav];exact wpAny_pure h
def qdX (xs:Array Value) (i k:Nat):((List.range k).filterMap λ(m:Nat)=>xs[((i:Int)+(m:Int)*1).toNat]?).toArray=((xs.toList.drop i).take k).toArray:=by
 have e:(λ(m:Nat)=>xs[((i:Int)+(m:Int)*1).toNat]?)=λm=>xs[i+m]?:=by
  funext m;have:((i:Int)+(m:Int)*1).toNat=i+m:=by omega
  rw [this]
 rw [e];have:=pick_run xs i k;rw [List.filterMap_map] at this;have e2:((λx=>xs[x]?)∘λx=>i+x)=λm=>xs[i+m]?:=rfl;rw [e2] at this;rw [this]
def WI {t sl:Addr} {items:Array Value} {vl vu:Value} {lo hi:Option Int} {Q:Value->Shared->Prop} (ht:IsTup s.heap t items) (hs:s.heap.IsSliceOf sl vl vu .none) (pl:IsPart vl lo) (pu:IsPart vu hi)
  (hw:¬ (sIx items.size 0 lo=0/\sIx items.size items.size hi=items.size))
  (h:Q (.ref s.heap.objs.size) { s with heap:=s.heap.push { cls:=.type "tuple",data:=.seq ((items.toList.drop (sIx items.size 0 lo)).take (sIx items.size items.size hi-sIx items.size 0 lo)).toArray } })
  (hsz:items.size<=sizeLine):wpAny (model prog w) A (getItem (.ref t) (.ref sl)) Q E s:=by
 have htake:sizeOk (.seq ((items.toList.drop (sIx items.size 0 lo)).take (sIx items.size items.size hi-sIx items.size 0 lo)).toArray):=by
  show ((items.toList.drop (sIx items.size 0 lo)).take (sIx items.size items.size hi-sIx items.size 0 lo)).toArray.size<=sizeLine;rw [size_toArray,List.length_take,List.length_drop,Array.length_toList];omega
 have hj:sIx items.size items.size hi<=items.size:=qm8 _ _ (Nat.le_refl _) hi;obtain ⟨os,hos,hcs,hds⟩:=id hs;have hTs:s.TypeIs (.ref sl) "slice" := ⟨os,hos,hcs⟩
 unfold getItem
 try with_reducible refine wpAny_holding ?_
 first|refine wpAny_bind (wpAny_pure ?_)|skip
 refine wpAny_bind (wpAny_sequenceKey ht.typeIs (by decide) ?_);refine wpAny_bind (wpAny_callSpecial?_slot (name:=Str.ofString "__getitem__") ht.typeIs PyProof.Rows.slot_tuple_getitem
  (wpAny_call_entry PyProof.Rows.slot_tuple_getitem ht.typeIs entry_tuple_getitem ?_ (args_tuple_getitem _ _)))
 show wpAny _ _ (Builtin.Tuple.tupleItemsOf (.ref t) >>= _) _ _ s;refine wpAny_bind (tupleItemsOf_ ht ?_);refine wpAny_bind (wpAny_typeOf hTs ?_);rw [if_pos (by decide)];refine wpAny_bind (VU hs pl pu ?_);have hno:¬ ((((sIx items.size 0 lo:Nat):Int)==0&&(1:Int)==1&&(sIx items.size items.size hi-sIx items.size 0 lo)==items.size)=true):=by
  intro q;rw [Bool.and_eq_true,Bool.and_eq_true] at q;have q1:((sIx items.size 0 lo:Nat):Int)=0:=eq_of_beq q.1.1;have q2:sIx items.size items.size hi-sIx items.size 0 lo=items.size:=eq_of_beq q.2;exact hw ⟨by omega,by omega⟩
 show wpAny _ _ (if (((sIx items.size 0 lo:Nat):Int)==0&&(1:Int)==1&&(sIx items.size items.size hi-sIx items.size 0 lo)==items.size)=true then _ else _) _ _ s;rw [if_neg hno,qdX]
 first
  |exact wpAny_bind (m:=Builtin.Tuple.tupleExact _) (wpAny_newObj_type (wpAny_pure ⟨_,rfl,wpAny_pure h⟩) htake)
  |exact wpAny_bind (m:=Builtin.Tuple.tupleExact _) (wpAny_newObj_type (wpAny_bind (wpAny_pure (wpAny_pure ⟨_,rfl,wpAny_pure h⟩))) htake)
  |exact wpAny_bind (wpAny_bind (m:=Builtin.Tuple.tupleExact _) (wpAny_newObj_type (wpAny_pure (wpAny_pure ⟨_,rfl,wpAny_pure h⟩)) htake))
  |exact wpAny_bind (wpAny_bind (m:=Builtin.Tuple.tupleExact _) (wpAny_newObj_type (wpAny_pure ⟨_,rfl,wpAny_pure h⟩) htake))
end
end HT
namespace L2
open PySem PySem.Spec PyProof.Rows
abbrev TO:=St->Hp->(Option Int->Hp->Prop)->Prop
def PO (X:Cx) (e:Option Expr) (t:TO):Prop:=
 ∀ (pins:List (Addr×Obj)) (s:Shared) (σ:St) (H:Hp) (Q:Option Int->Hp->Prop),Inv X pins σ H s->t σ H Q ->
  wpAny (model X.prog X.w) X.A (evalPart e X.env) (λu s'=>∃ o H',Inv X pins σ H' s'/\IsPart u o/\Q o H') X.xe s
def qhG:TO:=λ_ H Q=>Q none H
def qpB (t:TE):TO:=λσ H Q=>t σ H λx H1=>∃ i,x=.int i/\Q (some i) H1
section
variable {X:Cx} {e:Expr} {te:TE} {lo hi:Option Expr} {tl th:TO} {pos p2:Pos}
def qiw:PO X none qhG:=by
 intro pins s σ H Q I h;rw [evalPart_none];exact wpAny_pure ⟨none,H,I,.none,h⟩
def qiq (h:PE X e te):PO X (some e) (qpB te):=by
 intro pins s σ H Q I hw;rw [evalPart_some];refine thn (h pins s σ H _ I hw) λu s1 ⟨x,H1,I1,r1,q1⟩=>?_;obtain ⟨i,rfl,q⟩:=q1;obtain ⟨t,rfl⟩:=r1;exact ⟨some i,H1,I1,.int i t,q⟩
def SlR (X:Cx) (r:V->Option Int->Option Int->Hp->VK->Prop):Prop:=
 ∀ (pins:List (Addr×Obj)) (s:Shared) (σ:St) (H:Hp) (x:V) (v vl vu:Value) (lo hi:Option Int) (sl:Addr) (Q:VK),Inv X pins σ H s->ZP x v->s.heap.IsSliceOf sl vl vu .none->IsPart vl lo->IsPart vu hi->r x lo hi H Q ->
  ∃ T id,typeLookup (.type T) "__getitem__" = pure (some (.builtin id))/\s.TypeIs v T/\wpAny (model X.prog X.w) X.A (getItem v (.ref sl)) (EP X pins σ Q) X.xe s
def SlR.or {r r':V->Option Int->Option Int->Hp->VK->Prop} (h:SlR X r) (h':SlR X r'):SlR X (λx lo hi H Q=>r x lo hi H Q\/r' x lo hi H Q):=by
 intro pins s σ H x v vl vu lo hi sl Q I rx hs pl pu q;rcases q with q|q
 ·exact h pins s σ H x v vl vu lo hi sl Q I rx hs pl pu q
 ·exact h' pins s σ H x v vl vu lo hi sl Q I rx hs pl pu q
def tSl (r:V->Option Int->Option Int->Hp->VK->Prop) (te:TE) (tl th:TO):TE:=λσ H Q=>te σ H λx H1=>tl σ H1 λl H2=>th σ H2 λu H3=>r x l u H3 Q
def T4 {r:V->Option Int->Option Int->Hp->VK->Prop} (hr:SlR X r) (he:PE X e te) (hl:PO X lo tl) (hu:PO X hi th):PE X (.Subscript e (.Slice lo hi none p2) pos) (tSl r te tl th):=by
 intro pins s σ H Q I h;refine Subscript_ (thn (he pins s σ H _ I h) λv s1 ⟨x,H1,I1,r1,q1⟩=>?_);refine wpAny_Slice (thn (hl pins s1 σ H1 _ I1 q1) λvl s2 ⟨l,H2,I2,pl,q2⟩=>thn (hu pins s2 σ H2 _ I2 q2) λvu s3 ⟨u,H3,I3,pu,q3⟩=>?_);rw [evalPart_none];refine wpAny_pure ?_;have I4:Inv X pins σ H3 { s3 with heap:=s3.heap.push { cls:=.type "slice",data:=.fields #[vl,vu,.none] } }:=I3.kept (t':=s3.toks) λb ob q=>Heap.get?_push_of_some _ q;obtain ⟨T,id,hT,ht,hg⟩:=hr pins { s3 with heap:=s3.heap.push { cls:=.type "slice",data:=.fields #[vl,vu,.none] } } σ H3 x v vl vu l u s3.heap.objs.size Q I4 r1 (Heap.IsSliceOf.new ..) pl pu q3;show wpAny (model X.prog X.w) X.A (subscriptTail e (.Slice lo hi none p2) v (.ref s3.heap.objs.size)) (EP X pins σ Q) X.xe { s3 with heap:=s3.heap.push { cls:=.type "slice",data:=.fields #[vl,vu,.none] } };exact tail_any (ops:=[.ref s3.heap.objs.size,v]) ht hT hg (by with_unfolding_all rfl)
def qe8 (xs:List V) (lo hi:Option Int):List V:=(xs.drop (HT.sIx xs.length 0 lo)).take (HT.sIx xs.length xs.length hi-HT.sIx xs.length 0 lo)
def XV (xs:List V) (lo hi:Option Int):(qe8 xs lo hi).length<=xs.length:=by
 unfold qe8;rw [List.length_take,List.length_drop];omega
def qr0 (K:Frg):V->Option Int->Option Int->Hp->VK->Prop:=λx lo hi H Q=>∃ a xs,x=.ref a/\SqT K H a xs /\
 ¬ (HT.sIx xs.length 0 lo=0/\HT.sIx xs.length xs.length hi=xs.length)/\∀ p,H p=none->Q (.ref p) (upd H p (.tup (qe8 xs lo hi)))
def qfi:SlR X (qr0 X.K):=by
 intro pins s σ H x v vl vu lo hi sl Q I rx hs pl pu h;obtain ⟨a,xs,rfl,hx,hw,q⟩:=h;cases rx;obtain ⟨its,r,ht,hz⟩:=I.tuple hx;have hlen:its.toArray.size=xs.length:=by rw [size_toArray];exact r.length.symm
 refine ⟨"tuple",_,PyProof.Rows.slot_tuple_getitem.lookup,ht.typeIs,?_⟩;refine HT.WI ht hs pl pu (by rw [hlen];exact hw) ?_ (by rw [hlen];exact hz);rw [hlen];refine ⟨.ref s.heap.objs.size,_,I.laid (t':=s.toks) (o:=.tup (qe8 xs lo hi)) (λb ob q=>Heap.get?_push_of_some _ q) (Nat.le_refl _) ?_,rfl,q _ (I.hok.fresh (Nat.le_refl _))⟩;exact ⟨Nat.le_trans (XV xs lo hi) hz,_,(r.drop (HT.sIx xs.length 0 lo)).take (HT.sIx xs.length xs.length hi-HT.sIx xs.length 0 lo),W1.new _ _⟩
def qiH (K:Frg):R2:=λx y H Q=>∃ a b xs ys,x=.ref a/\y=.ref b/\SqT K H a xs/\SqT K H b ys/\xs≠[]/\xs.length+ys.length<=sizeLine /\
 (ys=[]->Q (.ref a) H)/\(ys≠[]->∀ p,H p=none->Q (.ref p) (upd H p (.tup (xs++ys))))
def jh.nil_iff {xs:List V} {us:List Value} (r:jh xs us):us=[]↔xs=[]:=by
 cases r with
 |nil=>simp
 |cons _ _=>simp
def qcw:OpR X (binaryOp .Add) (qiH X.K):=by
 intro pins s σ H x y v u Q I rx ry h;obtain ⟨a,b,xs,ys,rfl,rfl,ha,hb,hx,hz,q1,q2⟩:=h;cases rx;cases ry;obtain ⟨its,r1,p1,_⟩:=I.tuple ha;obtain ⟨its2,r2,p2,_⟩:=I.tuple hb;refine HT.qgQ p1 p2 (λz=>hx (r1.nil_iff.mp z)) (λz=>⟨.ref a,H,I,rfl,q1 (r2.nil_iff.mp z)⟩) (λz=>?_) (by rw [← r1.length,← r2.length];exact hz);refine ⟨.ref s.heap.objs.size,_,I.laid (t':=s.toks) (o:=.tup (xs++ys)) (λb ob q=>Heap.get?_push_of_some _ q) (Nat.le_refl _) ?_,rfl,q2 (λw=>z (r2.nil_iff.mpr w)) _ (I.hok.fresh (Nat.le_refl _))⟩;exact ⟨by rw [length_append];exact hz,_,r1.append r2,W1.new _ _⟩
end
def ixN (n:Nat) (i:Int):Option Nat:=if 0<=i then (if i<n then some i.toNat else none) else if -(n:Int)<=i then some (i+n).toNat else none
def atI {α:Type} (xs:List α) (i:Int):Option α:=(ixN xs.length i).bind λj=>xs[j]?
def qbT {n:Nat} {i:Int} {j:Nat} (h:ixN n i=some j):seqIndex? i n=some j/\j<n/\-(n:Int)<=i/\i<n:=by
 unfold ixN at h;by_cases h0:0<=i
 ·rw [if_pos h0] at h;by_cases h1:i<n
  ·rw [if_pos h1] at h;have e:i.toNat=j:=Option.some.inj h;exact ⟨by rw [seqIndex_of h0 h1,e],by omega,by omega,h1⟩
  ·rw [if_neg h1] at h;cases h
 ·rw [if_neg h0] at h;by_cases h1:-(n:Int)<=i
  ·rw [if_pos h1] at h;have e:(i+n).toNat=j:=Option.some.inj h;exact ⟨by rw [seqIndex_neg (by omega) h1,e],by omega,h1,by omega⟩
  ·rw [if_neg h1] at h;cases h
def ND {α:Type} {xs:List α} {i:Int} {v:α} (h:atI xs i=some v):∃ j,seqIndex? i xs.length=some j/\xs[j]?=some v/\j<xs.length/\-(xs.length:Int)<=i/\i<xs.length:=by
 unfold atI at h;cases e:ixN xs.length i with
 |none=>rw [e] at h;cases h
 |some j=>
  rw [e] at h;obtain ⟨h1,h2,h3,h4⟩:=qbT e;exact ⟨j,h1,h,h2,h3,h4⟩
def M5 (b:Expr):Prop:=∀ o i,subscripted b false o i=operate [o,i] (getItem o i)
def IxR (X:Cx) (r:R2):Prop:=
 ∀ (value slice:Expr) (pins:List (Addr×Obj)) (s:Shared) (σ:St) (H:Hp) (x y:V) (v u:Value) (Q:VK),Inv X pins σ H s->ZP x v->ZP y u->r x y H Q ->
  subscripted slice false v u=operate [v,u] (getItem v u)->wpAny (model X.prog X.w) X.A (subscriptTail value slice v u) (EP X pins σ Q) X.xe s
def MtR (X:Cx) (id:String) (r:V->List V->Hp->VK->Prop):Prop:=
 ∀ (pins:List (Addr×Obj)) (s:Shared) (σ:St) (H:Hp) (x:V) (xs:List V) (v:Value) (us:List Value) (Q:VK),Inv X pins σ H s->ZP x v->jh xs us->r x xs H Q ->
  wpAny (model X.prog X.w) X.A (call (.builtin id) (v::us)) (EP X pins σ Q) X.xe s
section
variable {X:Cx} {a b:Expr} {ta tb:TE} {pos:Pos}
def IxR.or {r r':R2} (h:IxR X r) (h':IxR X r'):IxR X (λx y H Q=>r x y H Q\/r' x y H Q):=by
 intro value slice pins s σ H x y v u Q I rx ry q hs;rcases q with q|q
 ·exact h value slice pins s σ H x y v u Q I rx ry q hs
 ·exact h' value slice pins s σ H x y v u Q I rx ry q hs
def qpH {r:R2} (hr:IxR X r) (ha:PE X a ta) (hb:PE X b tb) (hs:M5 b):PE X (.Subscript a b pos) (tOp r ta tb):=by
 intro pins s σ H Q I h;exact Subscript_ (qo6 ha hb I h λv u s2 x y H2 I2 rx ry q=>hr a b pins s2 σ H2 x y v u Q I2 rx ry q (hs _ _))
def qqP (K:Frg):R2:=λx y H Q=>∃ p xs i v,x=.ref p/\y=.int i/\SqL K H p xs/\atI xs i=some v/\Q v H
def qqz (K:Frg):R2:=λx y H Q=>∃ p xs i v,x=.ref p/\y=.int i/\SqT K H p xs/\atI xs i=some v/\Q v H
def qqm:R2:=λx y H Q=>∃ z i c,x=.str z/\y=.int i/\z.length<=sizeLine/\atI z.cps.toList i=some c/\Q (.str ⟨#[c]⟩) H
def qif:IxR X (qqP X.K):=by
 intro value slice pins s σ H x y v u Q I rx ry h hs;obtain ⟨p,xs,i,z,rfl,rfl,hq,he,q⟩:=h;cases rx;obtain ⟨t,rfl⟩:=ry;obtain ⟨its,r,pl,hz⟩:=I.list hq;obtain ⟨j,h1,h2,h3,h4,h5⟩:=ND he;obtain ⟨w,ew,rw'⟩:=r.get h2;have hl:=r.length;have hn:=LN;have fin:EP X pins σ Q w s:=⟨z,H,I,rw',q⟩
 by_cases h0:0<=i
 ·have hj:i.toNat=j:=by
   rw [seqIndex_of h0 h5] at h1;exact Option.some.inj h1
  exact item_listR pl.isList h0 (by omega) (by rw [hj];simpa using ew) fin hs
 ·have hj:(i+(its.toArray.size:Int)).toNat=j:=by
   rw [seqIndex_neg (by omega) h4] at h1;rw [size_toArray,← hl];exact Option.some.inj h1
  exact subscriptTail_builtinR (x:=w) pl.isList.typeIs slot_list_getitem.lookup
   (wpAny_getItem_list_neg (Q:=λr s'=>r=w/\EP X pins σ Q r s') pl.isList (by omega) (by rw [size_toArray]<;>omega) (by omega) (by rw [hj];simpa using ew) ⟨rfl,fin⟩) hs
def qnB:IxR X (qqz X.K):=by
 intro value slice pins s σ H x y v u Q I rx ry h hs;obtain ⟨p,xs,i,z,rfl,rfl,hq,he,q⟩:=h;cases rx;obtain ⟨t,rfl⟩:=ry;obtain ⟨its,r,pl,hz⟩:=I.tuple hq;obtain ⟨j,h1,h2,h3,h4,h5⟩:=ND he;obtain ⟨w,ew,rw'⟩:=r.get h2;have hl:=r.length;have hn:=LN;have fin:EP X pins σ Q w s:=⟨z,H,I,rw',q⟩
 exact subscriptTail_builtinR (x:=w) pl.typeIs slot_tuple_getitem.lookup
  (getItem_tuple (j:=j) (Q:=λr s'=>r=w/\EP X pins σ Q r s') pl (by omega) (by omega) (by rw [size_toArray,← hl];exact h1) (by simpa using ew) ⟨rfl,fin⟩) hs
def qjD:IxR X qqm:=by
 intro value slice pins s σ H x y v u Q I rx ry h hs;obtain ⟨z,i,c,rfl,rfl,hz,he,q⟩:=h;obtain ⟨t,rfl⟩:=rx;obtain ⟨t',rfl⟩:=ry;obtain ⟨j,h1,h2,h3,h4,h5⟩:=ND he;have hl:z.cps.toList.length=z.length:=by simp [Str.length]
 rw [hl] at h1 h4 h5;have hn:=LN;exact tail_any (typeIs_str s z t) slot_str_getitem.lookup (getItem_str (c:=c) (by
  have e1:decide (i < -(2 ^ 63:Int))=false:=decide_eq_false (by omega);have e2:decide (i ≥ 2 ^ 63)=false:=decide_eq_false (by omega);rw [e1,e2,Bool.or_false]) (by rw [h1];simpa using h2) ⟨.str ⟨#[c]⟩,H,I.tok _,⟨_,rfl⟩,q⟩) hs
def rIx (K:Frg):R2:=λx y H Q=>qqP K x y H Q\/qqz K x y H Q\/qqm x y H Q
def qm7:IxR X (rIx X.K):=qif.or (qnB.or qjD)
def qaD (its:List Value) (n j:Nat) (u:Value):Obj.mapSeq (·.setIfInBounds j u) { cls:=.type "list",data:=.seq its.toArray n }={ cls:=.type "list",data:=.seq (its.set j u).toArray n }:=by
 simp [Obj.mapSeq]
def Inv.lst {pins:List (Addr×Obj)} {σ:St} {H:Hp} {s:Shared} {p:Addr} {xs:List V} (I:Inv X pins σ H s) (h:H p=some (.lst xs)) :
  ∃ (its:List Value) (n:Nat),jh xs its/\s.heap.get? p=some { cls:=.type "list",data:=.seq its.toArray n }/\xs.length<=sizeLine:=by
 obtain ⟨z,its,n,r,e⟩:=I.hok p _ h;exact ⟨its,n,r,e,z⟩
def Inv.lstUpd {pins:List (Addr×Obj)} {σ:St} {H:Hp} {s:Shared} {p:Addr} {xs ys:List V} {its its':List Value} {n n':Nat} {f:Obj->Obj} (I:Inv X pins σ H s) (h:H p=some (.lst xs))
  (ho:s.heap.get? p=some { cls:=.type "list",data:=.seq its.toArray n }) (hf:f { cls:=.type "list",data:=.seq its.toArray n }={ cls:=.type "list",data:=.seq its'.toArray n' }) (r:jh ys its') (hz:ys.length<=sizeLine) (t:Nat) :
  Inv X pins σ (upd H p (.lst ys)) { s with heap:=s.heap.update p f,toks:=t }:=by
 have e:(s.heap.update p f).get? p=some { cls:=.type "list",data:=.seq its'.toArray n' }:=by
  rw [Heap.get?_update_self f ho (by rw [hf]<;>rfl),hf]
 refine I.write (x:=p) (e:=p) (by rw [h];trivial) (.inl rfl) (λb u hb q=>(Heap.get?_update_other _ _ (Ne.symm hb)).trans q) ⟨_,e⟩ ?_;exact ⟨hz,its',n',r,e⟩
def qoK:V->V->V->Hp->(Hp->Prop)->Prop:=λo i v H Q=>∃ p xs k j,o=.ref p/\i=.int k/\H p=some (.lst xs)/\ixN xs.length k=some j/\Q (upd H p (.lst (xs.set j v)))
def qeq:qq1 X qoK:=by
 intro pins s σ H o i v ov iv u Q I ro ri rv h;obtain ⟨p,xs,k,j,rfl,rfl,hp,hj,q⟩:=h;cases ro;obtain ⟨t,rfl⟩:=ri;obtain ⟨its,n,r,ho,hz⟩:=I.lst hp;obtain ⟨h1,h2,h3,h4⟩:=qbT hj;have hl:=r.length;have hn:=LN;have I':Inv X pins σ (upd H p (.lst (xs.set j v))) { s with heap:=s.heap.update p (Obj.mapSeq (·.setIfInBounds j u)) }:=
  I.lstUpd hp ho (qaD its n j u) (r.set rv j) (by rw [List.length_set];exact hz) s.toks
 by_cases h0:0<=k
 ·have hk:k.toNat=j:=by
   rw [seqIndex_of h0 h4] at h1;exact Option.some.inj h1
  exact PySem.W.ki_setAt ho h0 (by omega) (by rw [size_toArray,← hl];exact h4) (by rw [hk];exact ⟨_,I',q⟩)
 ·have hk:(k+(its.toArray.size:Int)).toNat=j:=by
   rw [seqIndex_neg (by omega) h3] at h1;rw [size_toArray,← hl];exact Option.some.inj h1
  exact PySem.W.ki_setBack ho (by omega) (by rw [size_toArray,← hl];exact h3) (by omega) (by rw [hk];exact ⟨_,I',q⟩)
def K4 (lo hi:Option Int) (n:Nat):(sliceBounds lo hi none n).1=((HT.sIx n 0 lo:Nat):Int)/\(sliceBounds lo hi none n).2.1=((HT.sIx n n hi:Nat):Int)/\(sliceBounds lo hi none n).2.2=1:=by
 refine ⟨?_,?_,rfl⟩
 ·cases lo with
  |none=>simp [sliceBounds,HT.sIx]
  |some i=>
   simp only [sliceBounds,HT.sIx,Option.getD_none,show (1:Int) > 0 by decide,if_true];by_cases h:i<0
   ·simp only [h,if_true]<;>omega
   ·simp only [h,if_false]<;>omega
 ·cases hi with
  |none=>simp [sliceBounds,HT.sIx]
  |some i=>
   simp only [sliceBounds,HT.sIx,Option.getD_none,show (1:Int) > 0 by decide,if_true];by_cases h:i<0
   ·simp only [h,if_true]<;>omega
   ·simp only [h,if_false]<;>omega
def TC (its:List Value) (lo hi:Option Int):slicePick its.toArray lo hi none=((its.drop (HT.sIx its.length 0 lo)).take (HT.sIx its.length its.length hi-HT.sIx its.length 0 lo)).toArray:=by
 obtain ⟨h1,h2,h3⟩:=K4 lo hi its.toArray.size;unfold slicePick;rw [h1,h2,h3];simp only [sliceRange_one,pick_run,size_toArray]<;>rfl
def qrA (K:Frg):V->Option Int->Option Int->Hp->VK->Prop:=λx lo hi H Q=>∃ a xs,x=.ref a/\SqL K H a xs/\∀ p,H p=none->Q (.ref p) (upd H p (.lst (qe8 xs lo hi)))
def qcR:SlR X (qrA X.K):=by
 intro pins s σ H x v vl vu lo hi sl Q I rx hs pl pu h;obtain ⟨a,xs,rfl,hx,q⟩:=h;cases rx;obtain ⟨its,r,ht,hz⟩:=I.list hx;have hlen:=r.length;refine ⟨"list",_,slot_list_getitem.lookup,ht.isList.typeIs,?_⟩;refine wpAny_getItem_list_slice ht.isList hs pl pu .none (by simp) ?_ (by rw [size_toArray]<;>omega);rw [TC,← hlen];refine ⟨.ref s.heap.objs.size,_,I.laid (t':=s.toks) (o:=.lst (qe8 xs lo hi)) (λb ob q=>Heap.get?_push_of_some _ q) (Nat.le_refl _) ?_,rfl,q _ (I.hok.fresh (Nat.le_refl _))⟩;exact ⟨Nat.le_trans (XV xs lo hi) hz,_,0,(r.drop (HT.sIx xs.length 0 lo)).take (HT.sIx xs.length xs.length hi-HT.sIx xs.length 0 lo),Heap.get?_push_size _ rfl⟩
def W6:UE X (.type "list") (λxs H Q=>∃ p ys,xs=[.ref p]/\(SqL X.K H p ys\/SqT X.K H p ys)/\∀ l,H l=none->Q (.ref l) (upd H l (.lst ys))):=by
 intro pins s σ H xs us Q I r h;obtain ⟨p,ys,rfl,hq,q⟩:=h;obtain ⟨u,rfl,rx⟩:=SZ r;cases rx;have fin:∀ (its:List Value),jh ys its->ys.length<=sizeLine->∀ (h':Heap) (c':Nat),(∀ b o',s.heap.get? b=some o'->h'.get? b=some o') ->
   h'.get? s.heap.objs.size=some { cls:=.type "list",dict:=none,data:=.seq its.toArray c',slots:=#[] }->EP X pins σ Q (.ref s.heap.objs.size) { s with heap:=h' }:=λits r' hz h' c' kp e=>
  ⟨.ref s.heap.objs.size,_,I.laid (t':=s.toks) kp (Nat.le_refl _) (show VX X.prog X.w _ h' _ (.lst ys) from ⟨hz,its,c',r',e⟩),rfl,q _ (I.hok.fresh (Nat.le_refl _))⟩
 rcases hq with hq|hq
 ·obtain ⟨its,r',pl,hz⟩:=I.list hq;have hlen:=r'.length;obtain ⟨o,ho,hc,n,hd⟩:=pl.isList;exact call_list_seq p (.inl rfl) ho hc hd (λh' c' kp e=>fin its r' hz h' c' kp e) (by simp only [size_toArray]<;>omega)
 ·obtain ⟨its,r',pl,hz⟩:=I.tuple hq;have hlen:=r'.length;obtain ⟨o,ho,hc,n,hd⟩:=pl;exact call_list_seq p (.inr rfl) ho hc hd (λh' c' kp e=>fin its r' hz h' c' kp e) (by simp only [size_toArray]<;>omega)
def zm:UE X (.type "tuple") (λxs H Q=>∃ p ys,xs=[.ref p]/\((SqL X.K H p ys/\∀ l,H l=none->Q (.ref l) (upd H l (.tup ys)))\/(SqT X.K H p ys/\Q (.ref p) H))):=by
 intro pins s σ H xs us Q I r h;obtain ⟨p,ys,rfl,h⟩:=h;obtain ⟨u,rfl,rx⟩:=SZ r;cases rx;rcases h with ⟨hq,q⟩|⟨hq,q⟩
 ·obtain ⟨its,r',pl,hz⟩:=I.list hq;have hlen:=r'.length;refine call_tuple_list pl.isList (λh' kp=>?_) (by simp only [size_toArray]<;>omega);have I1:Inv X pins σ H { s with heap:=h' }:=I.kept (t':=s.toks) kp;have I2:Inv X pins σ (upd H h'.objs.size (.tup ys)) { s with heap:=h'.push { cls:=.type "tuple",data:=.seq its.toArray } }:=
   I1.laid (t':=s.toks) (λb o e=>Heap.get?_push_of_some _ e) (Nat.le_refl _) (show VX X.prog X.w _ _ _ (.tup ys) from ⟨hz,its,r',W1.new _ _⟩)
  exact ⟨.ref h'.objs.size,_,I2,rfl,q _ (I1.hok.fresh (Nat.le_refl _))⟩
 ·obtain ⟨its,r',pl,hz⟩:=I.tuple hq;exact call_tuple_same pl ⟨.ref p,H,I,rfl,q⟩
def tyV (K:Frg) (T:String) (x:V) (H:Hp):Prop:=match x with
 |.str _=>T="str"
 |.int _=>T="int"
 |.ref p=>(T="list"/\∃ xs,SqL K H p xs)\/(T="tuple"/\∃ o,K.lookup p=some o/\o.cls=.type "tuple"/\o.dict=none) ∨
   (T="dict"/\((∃ kvs,H p=some (.dK kvs))\/∃ kvs,H p=some (.dT kvs)))\/(T="set"/\∃ S n,H p=some (.set S n))
 |_=>False
def qeZ {pins:List (Addr×Obj)} {σ:St} {H:Hp} {s:Shared} {T:String} {x:V} {v:Value} (I:Inv X pins σ H s) (r:ZP x v) (ty:tyV X.K T x H) :
  s.TypeIs v T/\∀ a,v=.ref a->∃ ob,s.heap.get? a=some ob/\ob.dict=none:=by
 cases x with
 |str z=>
  obtain ⟨t,rfl⟩:=r;cases (show T="str" from ty);exact ⟨typeIs_str s z t,λ_ e=>nomatch e⟩
 |int i=>
  obtain ⟨t,rfl⟩:=r;cases (show T="int" from ty);exact ⟨typeIs_int s i t,λ_ e=>nomatch e⟩
 |ref p=>
  cases r;rcases ty with ⟨rfl,xs,hq⟩|⟨rfl,o,hk,hc,hd⟩|⟨rfl,hk⟩|⟨rfl,S,n,hk⟩
  ·obtain ⟨its,_,pl,_⟩:=I.list hq;refine ⟨pl.isList.typeIs,λa e=>?_⟩;cases e;obtain ⟨o,n,e,c,hd,_⟩:=pl;exact ⟨o,e,hd⟩
  ·refine ⟨⟨o,I.kIn p o hk,hc⟩,λa e=>?_⟩;cases e;exact ⟨o,I.kIn _ o hk,hd⟩
  ·have z:∃ o,s.heap.get? p=some o/\o.ExactDict:=by
    rcases hk with ⟨kvs,hk⟩|⟨kvs,hk⟩
    ·obtain ⟨_,_,_,_,o,_,_,e,ex,_⟩:=I.hok p _ hk;exact ⟨o,e,ex⟩
    ·obtain ⟨_,_,_,_,o,_,_,e,ex,_⟩:=I.hok p _ hk;exact ⟨o,e,ex⟩
   obtain ⟨o,e,ex⟩:=z;refine ⟨⟨o,e,ex.1⟩,λa e2=>?_⟩;cases e2;exact ⟨o,e,ex.2.1⟩
  ·obtain ⟨o,_,_,_,e,ex,_⟩:=I.hok p _ hk;refine ⟨⟨o,e,ex.1⟩,λa e2=>?_⟩;cases e2;exact ⟨o,e,ex.2.1⟩
 |_=>exact False.elim ty
def qrq (K:Frg) (T:String) (r:V->List V->Hp->VK->Prop) (to:TE):TE:=λσ H Q=>to σ H λx H1=>tyV K T x H1/\r x [] H1 Q
def tBM (K:Frg) (T:String) (r:V->List V->Hp->VK->Prop) (to:TE) (t:TA):TE:=λσ H Q=>to σ H λx H1=>tyV K T x H1/\t σ H1 λxs H2=>r x xs H2 Q
variable {o e:Expr} {es:List Expr} {to:TE} {t:TA} {name:Str} {apos cpos:Pos} {T id:String} {r:V->List V->Hp->VK->Prop}
def qkb (pa:PlainAttrs T) (slot:Slot T name id) (hty:typeOf (.builtin id)=pure (.type "method_descriptor")) (hm:MtR X id r) (ho:PE X o to)
  (hbase:attributeBase o name X.env (eval o X.env)=eval o X.env:=by rfl) (hline:(apos.endLine==cpos.line)=true:=by rfl):PE X (.Call (.Attribute o name apos) [] [] cpos) (qrq X.K T r to):=by
 intro pins s σ H Q I h;refine wpAny_Call_method0_late hbase hline (thn (ho pins s σ H _ I h) λv s1 ⟨x,H1,I1,r1,ty,q1⟩=>?_);obtain ⟨h1,h2⟩:=qeZ I1 r1 ty;exact ⟨T,id,pa,slot,hty,h1,h2,Calls.callWith_builtin rfl (PySem.evalArgs_none (hm pins s1 σ H1 x [] v [] Q I1 r1 .nil q1))⟩
def qmx (pa:PlainAttrs T) (slot:Slot T name id) (hty:typeOf (.builtin id)=pure (.type "method_descriptor")) (hm:MtR X id r) (ho:PE X o to) (ha:PA X (e::es) t)
  (hbase:attributeBase o name X.env (eval o X.env)=eval o X.env:=by rfl)
  (hfew:((backTo cpos (starEach (e::es) X.env)).all (λx=>!x.1)&&(backToKw cpos (keywordEach [] X.env)).all (λx=>x.1.isSome)
   && decide ((e::es).length+([]:List Keyword).length+(if ([]:List Keyword).isEmpty then 0 else 1)<30))=true:=by rfl)
  (hline:(apos.endLine==cpos.line)=true:=by rfl) (hs:starEach (e::es) X.env=(false,eval e X.env)::starEach es X.env:=by rfl) (hplain:(backTo cpos (starEach es X.env)).any (·.1)=false:=by rfl) :
  PE X (.Call (.Attribute o name apos) (e::es) [] cpos) (tBM X.K T r to t):=by
 intro pins s σ H Q I h;refine wpAny_Call_method_late hbase hfew hline rfl (thn (ho pins s σ H _ I h) λv s1 ⟨x,H1,I1,r1,ty,q1⟩=>?_);obtain ⟨h1,h2⟩:=qeZ I1 r1 ty;refine ⟨T,id,pa,slot,hty,h1,h2,?_⟩;have hA:=ha cpos pins s1 σ H1 _ I1 q1;rw [hs] at hA ⊢;refine Calls.callWith_builtin (by show (false||(backTo cpos (starEach es X.env)).any (·.1))=false;rw [hplain]<;>rfl) (Calls.evalArgs_plain ?_);exact thn hA λus s2 ⟨vs,H2,I2,r2,q2⟩=>hm pins s2 σ H2 x vs v us Q I2 r1 r2 q2
end
def MtM (X:Cx) (id:String) (r:V->List V->Hp->VK->Prop):Prop:=
 ∀ (pins:List (Addr×Obj)) (s:Shared) (σ:St) (H:Hp) (x:V) (xs:List V) (v:Value) (us:List Value) (Q:VK),Inv X pins σ H s->ZP x v->jh xs us->r x xs H Q ->
  wpAny (model X.prog X.w) X.A (call (.builtin id) (v::us)) (EP X pins σ Q) X.xe s
def jh.one:∀ {x:V} {us:List Value},jh [x] us->∃ u,us=[u]/\ZP x u
 |_,_,.cons r .nil=>⟨_,rfl,r⟩
def jh.zero:∀ {us:List Value},jh [] us->us=[]
 |_,.nil=>rfl
def jh.reverse {xs:List V} {us:List Value} (h:jh xs us):jh xs.reverse us.reverse:=by
 induction h with
 |nil=>exact .nil
 |cons r t ih=>rw [List.reverse_cons,List.reverse_cons];exact jh.append ih (.cons r .nil)
def jh.rep {xs:List V} {us:List Value} (h:jh xs us):∀ k:Nat,jh (List.replicate k xs).flatten (List.replicate k us).flatten
 |0=>.nil
 |k+1=>by
  rw [List.replicate_succ,List.replicate_succ,List.flatten_cons,List.flatten_cons];exact jh.append h (jh.rep h k)
def MB (its:List Value):∀ (k:Nat) (acc:List Value),
  List.foldl (λx1 x2=>x1++x2) acc.toArray (List.replicate k its.toArray)=(acc++(List.replicate k its).flatten).toArray
 |0,acc=>by simp
 |k+1,acc=>by
  have e:acc.toArray++its.toArray=(acc++its).toArray:=by simp
  have e2:(acc++its)++(List.replicate k its).flatten=acc++(List.replicate (k+1) its).flatten:=by
   rw [List.replicate_succ,List.flatten_cons,List.append_assoc]
  rw [← e2,← MB its k (acc++its),← e,List.replicate_succ,List.foldl_cons]
section
variable {X:Cx} {pins:List (Addr×Obj)} {σ:St} {H:Hp} {s:Shared} {l b:Addr} {xs ys zs:List V}
def Inv.lset {its its':List Value} {n:Nat} {f:Array Value->Array Value} {t':Nat} (I:Inv X pins σ H s) (hH:H l=some (.lst xs))
  (e:s.heap.get? l=some { cls:=.type "list",data:=.seq its.toArray n }) (hf:f its.toArray=its'.toArray) (hv:jh ys its') (hz:ys.length<=sizeLine) :
  Inv X pins σ (upd H l (.lst ys)) { s with heap:=s.heap.update l (Obj.mapSeq f),toks:=t' }:=by
 have q:=PySem.IsL.update e f;rw [hf] at q;refine I.write (x:=l) (e:=l) (by rw [hH];exact trivial) (.inl rfl) (λb' u hb hu=>(Heap.get?_update_other s.heap (Obj.mapSeq f) (Ne.symm hb)).trans hu) ⟨_,q⟩ ?_;exact ⟨hz,its',_,hv,q⟩
def Inv.lnew {its:List Value} {t':Nat} (I:Inv X pins σ H s) (hv:jh ys its) (hz:ys.length<=sizeLine) :
  Inv X pins σ (upd H s.heap.objs.size (.lst ys)) { s with heap:=s.heap.push { cls:=.type "list",data:=.seq its.toArray },toks:=t' }:=
 I.laid (λ_ _ q=>Heap.get?_push_of_some _ q) (Nat.le_refl _) ⟨hz,its,0,hv,Heap.get?_push_size _ rfl⟩
def Inv.fresh (I:Inv X pins σ H s):H s.heap.objs.size=none:=I.hok.fresh (Nat.le_refl _)
def Inv.lstM (I:Inv X pins σ H s) (hH:H l=some (.lst xs)):xs.length<=sizeLine/\∃ (its:List Value) (n:Nat),jh xs its/\xs.length=its.length/\s.heap.get? l=some { cls:=.type "list",data:=.seq its.toArray n }:=by
 obtain ⟨z,its,n,r,e⟩:=I.hok l _ hH;exact ⟨z,its,n,r,r.length,e⟩
def qdA {n:Nat} (h:n<=sizeLine):Builtin.List.listTooLong n=false:=by
 unfold Builtin.List.listTooLong;exact decide_eq_false (by omega)
end
section
variable {X:Cx}
def qcC:V->List V->Hp->VK->Prop:=λx vs H Q=>∃ l xs y,x=.ref l/\vs=[y]/\H l=some (.lst xs)/\xs.length<sizeLine/\Q .non (upd H l (.lst (xs++[y])))
def CA:MtM X "list.append" qcC:=by
 intro pins s σ H x vs v us Q I rx rv h;obtain ⟨l,xs,y,rfl,rfl,hH,hz,q⟩:=h;cases rx;obtain ⟨u,rfl,ru⟩:=rv.one;obtain ⟨z,its,n,r,hl,e⟩:=I.lstM hH;refine call_meets F.slot_list_append ⟨_,e,rfl⟩ F.entry_list_append (F.args_list_append_2 _ _) (PySem.list_append l its.toArray n u (by rw [size_toArray];omega)) ⟨e,?_⟩;refine ⟨.non,_,I.lset (its':=its++[u]) hH e (by simp) (r.append (.cons ru .nil)) ?_,rfl,q⟩;rw [length_append,List.length_singleton];omega
def qpv:R2:=λx y H Q=>∃ l b xs zs,x=.ref l/\y=.ref b/\H l=some (.lst xs)/\H b=some (.lst zs)/\xs.length+zs.length<=sizeLine/\∀ p,H p=none->Q (.ref p) (upd H p (.lst (xs++zs)))
def qgn:OpR X (binaryOp .Add) qpv:=by
 intro pins s σ H x y v u Q I rx ry h;obtain ⟨l,b,xs,zs,rfl,rfl,hH,hB,hz,q⟩:=h;cases rx;cases ry;obtain ⟨z,its,n,r,hl,e⟩:=I.lstM hH;obtain ⟨z2,its2,n2,r2,hl2,e2⟩:=I.lstM hB;refine PySem.P.add_list e e2 ?_ (by rw [size_toArray,size_toArray];omega);have ea:its.toArray++its2.toArray=(its++its2).toArray:=by simp
 rw [ea];exact ⟨.ref _,_,I.lnew (t':=s.toks) (r.append r2) (by rw [length_append];omega),rfl,q _ I.fresh⟩
def qqF:R2:=λx y H Q=>∃ l k xs,x=.ref l/\y=.int k/\H l=some (.lst xs)/\-(2 ^ 63)<=k/\k<2 ^ 63/\xs.length*k.toNat<=sizeLine /\
 ∀ p,H p=none->Q (.ref p) (upd H p (.lst (List.replicate k.toNat xs).flatten))
def qhI {α:Type} (xs:List α) (k:Nat):(List.replicate k xs).flatten.length=k*xs.length:=by
 induction k with
 |zero=>simp
 |succ k ih=>rw [List.replicate_succ,List.flatten_cons,length_append,ih,Nat.succ_mul,Nat.add_comm]
def qjz:OpR X (binaryOp .Mult) qqF:=by
 intro pins s σ H x y v u Q I rx ry h;obtain ⟨l,k,xs,rfl,rfl,hH,h1,h2,hz,q⟩:=h;cases rx;obtain ⟨t,rfl⟩:=ry;obtain ⟨z,its,n,r,hl,e⟩:=I.lstM hH;have hlen:its.toArray.size*k.toNat<=sizeLine:=by rw [size_toArray,← hl];exact hz
 have hcap:¬ its.toArray.size*k.toNat > (2 ^ 63-1)/8:=by
  have:(sizeLine:Nat)<=(2 ^ 63-1)/8:=by decide
  omega
 have hfit:¬ (!Builtin.List.listFitsIndex k)=true:=by
  rw [fitsIndex_both h1 h2];exact Bool.false_ne_true
 have hlong:¬ Builtin.List.listTooLong (its.toArray.size*k.toNat)=true:=by
  rw [qdA hlen];exact Bool.false_ne_true
 have hnew:List.foldl (λx1 x2=>x1++x2) #[] (List.replicate (if its.toArray.isEmpty=true then 0 else k.toNat) its.toArray)=(List.replicate k.toNat its).flatten.toArray:=by
  have f0:∀ m:Nat,List.foldl (λx1 x2=>x1++x2) #[] (List.replicate m its.toArray)=(List.replicate m its).flatten.toArray:=λm=>by
   have:=MB its m [];rw [List.nil_append] at this;exact this
  rw [f0];cases its with
  |nil=>simp
  |cons a r'=>rw [if_neg (by simp)]
 refine wpAny_binaryOp_repeat_ref (T:="list") (U:="int") (by decide) ⟨_,e,rfl⟩ (λs'=>typeIs_int s' k t) noFill_list_mul F.fills_int_mul F.slot_int_rmul repeat_list F.slot_int_index.lookup
  (call_meets F.slot_int_rmul (typeIs_int s k t) F.entry_int_rmul (F.args_int_rmul_2 _ _) (int___rmul___int_list k t l its.toArray n)
   ⟨e,rfl,⟨_,e,rfl⟩,call_meets F.slot_list_mul ⟨_,e,rfl⟩ F.entry_list_mul (F.args_list_mul_2 _ _) (AutoListH.list___mul___list_int_3 l its.toArray n k t hfit hcap hlong) ⟨e,?_⟩⟩)
 rw [hnew];exact ⟨.ref _,_,I.lnew (t':=s.toks) (r.rep k.toNat) (by rw [qhI,Nat.mul_comm];exact hz),rfl,q _ I.fresh⟩
end
section
variable {prog:Program} {w:World} {A:Around} {E:Value->Shared->Prop} {s:Shared}
end
section
variable {X:Cx}
end
end L2
namespace Att
open PySem PySem.W PySem.Calls PyProof.Rows
def X7 {P:Params} {h:Heap}:∀ (ns:List Int) (vs:List Value),WellAll P h vs (ns.map WData.int)->IntsAre vs ns:=by
 intro ns;induction ns with
 |nil=>
  intro vs w;rw [List.map_nil] at w;cases w;exact .nil
 |cons n ns ih=>
  intro vs w;rw [map_cons] at w;cases w with
  |cons a b=>
   cases a;exact .cons _ _ (ih _ b)
def qcH {l:OpenLaw} {n:Nat} (hn:l.most=some n) {P:Params} {h:Heap} {args:List WData} {vals:List Value}
  (hpre:l.row.toRowW.claim.pre args=true) (hwl:WellAll P h vals args) :
  ∃ a vs ns,vals=[Value.ref a]/\args=[WData.list (ns.map WData.int)]/\h.get? a=some { cls:=.type "list",data:=.seq vs.toArray }/\IntsAre vs ns/\ns.length<=n:=by
 have hsh:WShape.hasAll [] args [.list .int]=true:=(pre_splitW hpre).1;have hc:l.pre.holds [] { args:=args }=true:=(pre_splitW hpre).2;obtain ⟨d,r,rfl,h1,h2⟩:=hasAllW_cons hsh;obtain rfl:=hasAllW_nil h2;obtain ⟨xs,rfl,h3⟩:=hasW_list h1;obtain ⟨ns,rfl⟩:=items_int h3;have hlen:ns.length<=n:=by
  unfold OpenLaw.pre at hc;have h4:(WTm.not (.lt (.lit (.int (n:Int))) (.len (.arg 0)))).holds [] { args:=[.list (ns.map .int)] }=true:=by
   have h4:=(holds_andW hc).1;rw [hn] at h4;exact h4
  have h5:=condW_of h4 (w_not (w_lt w_lit (w_len_list (w_arg rfl))));rw [length_map] at h5;refine Nat.le_of_not_lt λq=>?_;have q':(n:Int)<((ns.length:Nat):Int):=by omega
  first
   | (rw [decide_eq_true q'] at h5;exact absurd h5 (by decide))
   | (simp at h5;omega)
 cases hwl with
 |cons w1 w2=>
  cases w2;cases w1 with
  |list ho hall=>exact ⟨_,_,ns,rfl,rfl,ho,X7 ns _ hall,hlen⟩
def qcM (l:OpenLaw) (args:List WData):l.row.toRowW.claim.post args (.bool true) args=true:=
 postW_of (r:=l.row.toRowW) (X:=(true==true))
  (show WShape.has [] (.bool true) .bool=true by first|rfl|decide|simp [WShape.has,WShape.arms,WShape.armsAll])
  (show (WTm.eq .res (.lit (.bool true))).value [] { args:=args,res:=some (.bool true),after:=args }=some (.bool (true==true)) from w_eq_bool (w_res rfl) w_lit) rfl
def M6 {l:OpenLaw} {n:Nat} {q:Program} {loose:List Str} {XP:(Str->Option Value)->Heap->Prop} {YP:World->Heap->Prop} {d:DefRec}
  (hn:l.most=some n) (hdf:d.params.defaults=[])
  (call:∀ (w:World) (s₀ s₁:Shared) (mg mb:Str->Option Value) (fa:Addr) (o:Obj) (pm cd doc:Value) (a:Addr) (vs:List Value) (ns:List Int),
   Ground q loose [] XP w s₀ mg mb s₁.heap->YP w s₁.heap ->
   s₁.heap.get? fa=some o->o.data=.func (docDef d.name d.params d.body d.scope pm cd doc)->s₁.heap.CodeRec cd d.name->mg d.name=some (.ref fa) ->
   s₁.heap.get? a=some { cls:=.type "list",data:=.seq vs.toArray }->IntsAre vs ns->ns.length<=n->s₁.gens=#[] ->
   codeAny (model l.prog w) callerA (.call (.ref fa) ⟨[.ref a],[]⟩) (λr s'=>r=.ok (.ret (.bool true))/\OldK s₁.heap s'.heap/\s'.os=s₁.os/\AllBare s'.gens) s₁) :
  WalkO q loose XP YP l.row.toRowW d [] (λf vs=>PySem.call f vs):=by
 intro w s₀ s₁ mg mb G Y fa o pm cd doc dV kV ho hd hcd hD hmg hg args vals as hpre hlay hrd hwl hlo;obtain rfl:dV=.none:=Dflts.none hD hdf;obtain rfl:kV=.none:=Dflts.noKw hD;obtain ⟨a,vs,ns,rfl,rfl,hobj,hints,hlen⟩:=qcH hn hpre hwl;refine enter_call (codeAny_mono (call w s₀ s₁ mg mb fa o pm cd doc a vs ns G Y ho (fd_plain hd) hcd hmg hobj hints hlen hg) λr s' hq=>?_);obtain ⟨rfl,h2,h3,h4⟩:=hq;exact ⟨.inl ⟨.bool true,.bool true,[],rfl,λ_=>rfl,.bool true,qcM l _,λ_=>⟨List.Pairwise.nil,λ_ hm=>(nomatch hm)⟩⟩,h2,h3,h4⟩
section
variable {prog:Program} {w:World} {A:Around} {E:Value->Shared->Prop} {s:Shared} {K:Frag}
end
end Att
namespace L2
open PySem PySem.Spec PyProof.Rows
def LI:∀ {vs:List Value} {ns:List Int},IntsAre vs ns->jh (ns.map V.int) vs
 |_,_,.nil=>.nil
 |_,_,.cons n t h=>.cons ⟨t,rfl⟩ (LI h)
def qoa (H:Hp):Prop:=∀ b,H b=none\/∃ o xs,H b=some (.frz o (.lst xs))
def qed {P:Program} {w:World} {K:Frg} {mg mb:Str->Option Value} {CX:CXT} {k:Nat} {fa a:Addr} {fd:FuncData} {x:Str} {sp:Sp} {s₁:Shared} {vs:List Value} {ns:List Int}
  (KX:K.In s₁.heap) (hns:s₁.heap.Ns mainGlobals mg) (hb:s₁.heap.Ns builtinsNs mb) (hbb:∀ x:Str,x≠"__name__" -> mb x=bootBuiltins x) (hlim:s₁.heap.NoLimit) (hg:s₁.gens=#[])
  (ha:s₁.heap.get? a=some { cls:=.type "list",data:=.seq vs.toArray }) (hi:IntsAre vs ns) (hl:ns.length<=sizeLine) (hr:Room k callerA)
  (F:∀ base:Heap,K.In base->base.Ns mainGlobals mg->FnOk P w K mg base CX k fa fd [x] sp) (hbind:∀ (s:Shared) (u:Value),BindsTo s fd ⟨[u],[]⟩ [(x,u)])
  (hsp:∀ H:Hp,qoa H->SqL K H a (ns.map V.int)->sp [.ref a] H (λv _=>v=.bl true) λ_ _ _=>False)
  (hCX:∀ H e s',CX [] H s₁ (λ_ _ _=>False) e s'->False) :
  codeAny (model P w) callerA (.call (.ref fa) ⟨[.ref a],[]⟩) (λr s'=>r=.ok (.ret (.bool true))/\OldK s₁.heap s'.heap/\s'.os=s₁.os/\AllBare s'.gens) s₁:=by
 have rv:=LI hi;have lenV:=hi.length
 -- from an abstract heap in which nothing but the script may be tracked
 have core:∀ H:Hp,qoa H->SqL K H a (ns.map V.int)->HOk P w H s₁.heap->(∀ b,H b≠none->b=a)->(H a≠none->K.lookup a=none) ->
   codeAny (model P w) callerA (.call (.ref fa) ⟨[.ref a],[]⟩) (λr s'=>r=.ok (.ret (.bool true))/\OldK s₁.heap s'.heap/\s'.os=s₁.os/\AllBare s'.gens) s₁:=by
  intro H hO hS hok hA hK;have base_of:∀ {b:Addr} {o:Obj},s₁.heap.get? b=some o->H b=none->(qdv s₁.heap H).get? b=some o:=λe n=>qdK e n;have noA:∀ {b:Addr} {o:Obj} {es:Array DictEntry} {ep:Nat},s₁.heap.get? b=some o->o.data=.dict es ep->H b=none:=λ{b o es ep} e d=>by
   cases q:H b with
   |none=>rfl
   |some u=>
    have e':b=a:=hA b (by rw [q];simp);subst e';rw [ha] at e;cases e;have d':Data.seq vs.toArray _=Data.dict es ep:=d;cases d'
  have nsK:∀ {b:Addr} {m:Str->Option Value},s₁.heap.Ns b m->(qdv s₁.heap H).Ns b m:=λ{b m} ⟨o,es,ep,e,d,r⟩=>⟨o,es,ep,base_of e (noA e d),d,r⟩
  have hKb:K.In (qdv s₁.heap H):=λb o e=>base_of (KX b o e) (by
   cases q:H b with
   |none=>rfl
   |some u=>
    have e':b=a:=hA b (by rw [q];simp);subst e';rw [hK (by rw [q];simp)] at e;cases e)
  have hM:Mod K mg (qdv s₁.heap H):=⟨hKb,nsK hns,⟨mb,nsK hb,hbb⟩,let ⟨mc,h1,h2⟩:=hlim;⟨mc,nsK h1,h2⟩⟩
  have e0:Env0 P w K mg (qdv s₁.heap H) callerA [] s₁ H:=⟨rfl,hM,λb o e=>qgS e,Nat.le_of_eq (qcQ _ _),trivial,λb hb=>absurd (show b∈([]:List Addr) from hb) (by simp),hok,.of_eq hg⟩
  refine codeAny_mono ((F _ hKb (nsK hns)).run callerA [] s₁ H ⟨[.ref a],[]⟩ [.ref a] [.ref a] _ _ hr e0 (hbind s₁ (.ref a)) (.cons rfl .nil) (hsp H hO hS)) λr s' h=>?_;cases r with
  |error e=>exact (hCX H e s' h).elim
  |ok fl=>
   cases fl with
   |next=>exact False.elim h
   |brk=>exact False.elim h
   |cont=>exact False.elim h
   |ret u=>
    obtain ⟨v,H',os,bare,un,hok',r',q⟩:=h;have q':v=.bl true:=q;subst q';obtain rfl:u=Value.bool true:=r';refine ⟨rfl,OldK.of_keep λb o e=>?_,os,bare⟩;cases q:H b with
    |none=>exact un.keep b o e q (by intro z;exact absurd (show b∈([]:List Addr) from z) (by simp)) (by simp)
    |some u=>
     rcases hO b with z|⟨ob,xs,z⟩
     ·rw [q] at z;cases z
     ·have z2:=un.frzs b ob _ z;obtain ⟨e1,_⟩:=hok b _ z;obtain ⟨e2,_⟩:=hok' b _ z2;rw [e] at e1;cases e1;exact e2
 cases hk:K.lookup a with
 |some o=>
  -- the script is one of the module's own objects
  have e:=KX a o hk;rw [ha] at e;cases e;refine core (λ_=>none) (λ_=>.inl rfl) (.inr ⟨_,vs.toArray,_,hk,rfl,rfl,rfl,by rw [size_toArray,lenV];exact hl,by simpa using rv⟩) (λb u z=>by have z':(none:Option HO)=some u:=z;cases z') (λb z=>absurd rfl z) λz=>absurd rfl z
 |none=>
  refine core (λb=>if b=a then some (.frz { cls:=.type "list",data:=.seq vs.toArray } (.lst (ns.map V.int))) else none) (λb=>?_) (.inl (.inr ⟨{ cls:=.type "list",data:=.seq vs.toArray },if_pos rfl⟩)) (λb u z=>?_) (λb z=>?_) λ_=>hk
  ·by_cases hb:b=a
   ·exact .inr ⟨_,_,if_pos hb⟩
   ·exact .inl (if_neg hb)
  ·by_cases hb:b=a
   ·have z':=(if_pos hb).symm.trans z;cases z';subst hb;exact ⟨ha,by rw [length_map];exact hl,vs,_,rv,ha⟩
   ·have z':=(if_neg hb).symm.trans z;cases z'
  ·by_cases hb:b=a
   ·exact hb
   ·exact absurd (if_neg hb) z
def qhF {l:PySem.W.OpenLaw} {n k:Nat} {q:Program} {loose:List Str} {XP:(Str->Option Value)->Heap->Prop} {YP:World->Heap->Prop} {d:DefRec} {K:Params->PySem.W.Frag} {CX:World->CXT} {sp:World->Sp} {x:Str}
  (hn:l.most=some n) (hn2:n<=sizeLine) (hdf:d.params.defaults=[]) (hr:Room k callerA)
  (hY:∀ (w:World) (h:Heap),YP w h->(K w.params).In h)
  (F:∀ (w:World) (mg:Str->Option Value) (fa:Addr) (h:Heap),(K w.params).In h->h.Ns mainGlobals mg->mg d.name=some (.ref fa) ->
   ∃ fd:FuncData,(∀ (s:Shared) (u:Value),BindsTo s fd ⟨[u],[]⟩ [(x,u)]) /\
    ∀ base:Heap,(K w.params).In base->base.Ns mainGlobals mg->FnOk l.prog w (K w.params) mg base (CX w) k fa fd [x] (sp w))
  (hsp:∀ (w:World) (H:Hp) (a:Addr) (ns:List Int),ns.length<=n->qoa H->SqL (K w.params) H a (ns.map V.int)->sp w [.ref a] H (λv _=>v=.bl true) λ_ _ _=>False)
  (hCX:∀ (w:World) (H:Hp) (s:Shared) (e:Value) (s':Shared),CX w [] H s (λ_ _ _=>False) e s'->False) :
  PySem.W.WalkO q loose XP YP l.row.toRowW d [] (λf vs=>PySem.call f vs):=by
 refine Att.M6 hn hdf λw s₀ s₁ mg mb fa o pm cd doc a vs ns G Y ho hd hcd hmg hobj hints hlen hg=>?_;have KX:=hY w _ Y;obtain ⟨fd,hb,hF⟩:=F w mg fa _ KX G.T.g hmg;exact qed KX G.T.g G.T.b G.T.builtins G.T.nolimit hg hobj hints (Nat.le_trans hlen hn2) hr hF hb (λH hO hS=>hsp w H a ns hlen hO hS) λH e s'=>hCX w H s₁ e s'
def VJ (s:Stmt):Arguments:=match s with
 |.FunctionDef _ a _ _ _ _ _ _ _ _=>a
 |_=>{ posonlyargs:=[],args:=[],vararg:=none,kwonlyargs:=[],kw_defaults:=[],kwarg:=none,defaults:=[] }
def QK (s:Stmt):List Stmt:=match s with
 |.FunctionDef _ _ b _ _ _ _ _ _ _=>b
 |_=>[]
def qj (s:Stmt):Scope:=match s with
 |.FunctionDef _ _ _ _ _ _ sc _ _ _=>sc
 |_=>{ kind:=.function,names:=[],isGenerator:=false,isCoroutine:=false }
abbrev CX0:CXT:=λ_ _ _ _ _ _=>False
abbrev E0:XK:=λ_ _ _=>False
def qpd {X:Cx}:qbZ CX0 X E0:=λ_ _ _ _ _ _ _ h=>h.elim
structure Fun (K:Frg) (x qual:Str) (st:Stmt) (f:Addr) (fd:FuncData):Prop where
 ex:∃ (oc:Value) (od:Option Addr) (kV doc pm:Value) (an:Option Addr) (cdv ct:Value) (osl:Array (Option Value)),
  fd=PySem.W.fnOf x qual (VJ st) (QK st) (qj st) .none kV doc pm an cdv ct/\K.lookup f=some ⟨oc,od,.func fd,osl⟩/\PySem.W.codeIn K cdv qual=true
 kp:PySem.W.keepIn K (.ref f)=true
section
variable {P:Program} {w:World} {K:Frg} {mg:Str->Option Value} {base:Heap}
def Fun.ok {x qual:Str} {st:Stmt} {f:Addr} {fd:FuncData} {N ps:List Str} {k:Nat} {sp:Sp} (F:Fun K x qual st f fd) (S:FnScope N ps (qj st)) (len:∀ vs H Q E,sp vs H Q E->vs.length=ps.length)
  (hbody:∀ (cdv:Value) (A:Around) (outer:List Env) (s:Shared) (H:Hp) (vs:List V) (Q:VK) (E:XK),Room k (A.deeper (envOfC qual (qj st) s.heap.objs.size f cdv))->sp vs H Q E ->
   ∃ t,PSs (qdq CX0 P w K mg base N qual (qj st) f cdv A outer s H E).nox (QK st) t/\t { nx:=λ_ H'=>Q .non H',rt:=Q } (X0 N vs) H):FnOk P w K mg base CX0 (k+1) f fd ps sp:=by
 obtain ⟨oc,od,kV,doc,pm,an,cdv,ct,osl,rfl,lk,hcd⟩:=F.ex;refine qpC lk hcd S len λA outer s H vs Q E hr hsp=>?_;obtain ⟨t,h,q⟩:=hbody cdv A outer s H vs Q E hr hsp;exact ⟨t,h.nox,q⟩
def Fun.binds {x qual:Str} {st:Stmt} {f:Addr} {fd:FuncData} {ps:List Str} (F:Fun K x qual st f fd)
  (h:∀ (kV doc pm:Value) (an:Option Addr) (cdv ct:Value) (us:List Value),us.length=ps.length->bindArgs (PySem.W.fnOf x qual (VJ st) (QK st) (qj st) .none kV doc pm an cdv ct) ⟨us,[]⟩=pure (ps.zip us)):zt K fd ps []:=by
 obtain ⟨oc,od,kV,doc,pm,an,cdv,ct,osl,rfl,lk,hcd⟩:=F.ex;exact .all (h kV doc pm an cdv ct)
def qly {x qual:Str} {st:Stmt} {f:Addr} {oc:Value} {od an:Option Addr} {osl:Array (Option Value)} {kV doc pm cdv ct:Value} (l:K.lookup f=some ⟨oc,od,.func (PySem.W.fnOf x qual (VJ st) (QK st) (qj st) .none kV doc pm an cdv ct),osl⟩)
  (c:PySem.W.codeIn K cdv qual=true) (k:PySem.W.keepIn K (.ref f)=true):Fun K x qual st f (PySem.W.fnOf x qual (VJ st) (QK st) (qj st) .none kV doc pm an cdv ct):=⟨⟨oc,od,kV,doc,pm,an,cdv,ct,osl,rfl,l,c⟩,k⟩
end
section
variable {X:Cx}
end
def qqW {A B:Prop} (h:B):if false=true then A else B:=by
 rw [if_neg Bool.false_ne_true];exact h
def qqp {A B:Prop} (h:A):if true=true then A else B:=by
 rw [if_pos rfl];exact h
end L2
set_option maxHeartbeats 4000000
namespace L3
open PySem PySem.Spec PyProof.Rows L2
set_option genInjectivity true in
inductive T where
 |non|bl (b:Bool)|int (i:Int)|str (x:Str)|tup (xs:List T)|ref (a:Addr)
inductive O where
 |lst (xs:List T)
 |frz (xs:List T)
 |dct (kvs:List (Int×T))
 |exn (C:Addr)
 |tab (ks:List Str) (xs:List T)
abbrev Gp:=Addr->Option O
def gu (G:Gp) (a:Addr) (o:O):Gp:=λb=>if b=a then some o else G b
def qB {G:Gp} {a:Addr} {o:O}:gu G a o a=some o:=by unfold gu;rw [if_pos rfl]
def jc {G:Gp} {a b:Addr} {o:O} (h:b≠a):gu G a o b=G b:=by unfold gu;rw [if_neg h]
mutual
inductive Rp (K:Frg) (H:Hp):T->V->Prop
 |non:Rp K H .non .non
 |bl (b:Bool):Rp K H (.bl b) (.bl b)
 |int (i:Int):Rp K H (.int i) (.int i)
 |str (x:Str):Rp K H (.str x) (.str x)
 |ref (a:Addr):Rp K H (.ref a) (.ref a)
 |tup {xs:List T} {a:Addr} {vs:List V}:SqT K H a vs->Rps K H xs vs->Rp K H (.tup xs) (.ref a)
inductive Rps (K:Frg) (H:Hp):List T->List V->Prop
 |nil:Rps K H [] []
 |cons {x:T} {v:V} {xs:List T} {vs:List V}:Rp K H x v->Rps K H xs vs->Rps K H (x::xs) (v::vs)
end
def IsX (a C:Addr) (h:Heap):Prop:=∃ o vs,h.get? a=some o/\o.cls=.ref C/\o.data=.fields vs
def OR (K:Frg) (H:Hp) (a:Addr):O->Prop
 |.lst xs=>∃ vs,H a=some (.lst vs)/\Rps K H xs vs
 |.frz xs=>∃ vs,(∃ o,H a=some (.frz o (.lst vs)))/\Rps K H xs vs
 |.dct kvs=>∃ vs,H a=some (.dK ((kvs.map λp=>(Sum.inl p.1:Key)).zip vs))/\Rps K H (kvs.map λp=>p.2) vs
 |.exn C=>H a=some (.ext (IsX a C))
 |.tab ks xs=>∃ vs,H a=some (.dK ((ks.map λk=>(Sum.inr k:Key)).zip vs))/\Rps K H xs vs
def HR (K:Frg) (G:Gp) (H:Hp):Prop:=∀ a o,G a=some o->OR K H a o
def Kp (G:Gp) (H:Hp) (G':Gp) (H':Hp):Prop:=∀ a o,H a=some o->G a=none->H' a=some o/\G' a=none
def Kp.refl {G:Gp} {H:Hp}:Kp G H G H:=λ_ _ h g=>⟨h,g⟩
def Kp.trans {G G1 G2:Gp} {H H1 H2:Hp} (a:Kp G H G1 H1) (b:Kp G1 H1 G2 H2):Kp G H G2 H2:=λx o h g=>
 let ⟨h1,g1⟩:=a x o h g;b x o h1 g1
section
variable {K:Frg} {G G':Gp} {H H':Hp}
def HR.noneT (hr:HR K G H) {a:Addr} {vs:List V} (h:Rd H a (.tup vs)):G a=none:=by
 cases e:G a with
 |none=>rfl
 |some o=>
  have q:=hr a o e;cases o with
  |lst xs=>
   obtain ⟨us,q1,_⟩:=q;rcases h with h|⟨ob,h⟩<;>(rw [q1] at h;cases h)
  |frz xs=>
   obtain ⟨us,⟨o1,q1⟩,_⟩:=q;rcases h with h|⟨ob,h⟩<;>(rw [q1] at h;cases h)
  |dct kvs=>
   obtain ⟨us,q1,_⟩:=q;rcases h with h|⟨ob,h⟩<;>(rw [q1] at h;cases h)
  |exn C=>
   have q1:H a=some (.ext (IsX a C)):=q;rcases h with h|⟨ob,h⟩<;>(rw [q1] at h;cases h)
  |tab ks xs=>
   obtain ⟨us,q1,_⟩:=q;rcases h with h|⟨ob,h⟩<;>(rw [q1] at h;cases h)
def TQ (hr:HR K G H) (k:Kp G H G' H') {a:Addr} {vs:List V} (h:SqT K H a vs):SqT K H' a vs:=by
 rcases h with h|h
 ·have g:=hr.noneT h;rcases h with h|⟨o,h⟩
  ·exact .inl (.inl (k a _ h g).1)
  ·exact .inl (.inr ⟨o,(k a _ h g).1⟩)
 ·exact .inr h
mutual
def Rp.keep (hr:HR K G H) (k:Kp G H G' H'):∀ {x:T} {v:V},Rp K H x v->Rp K H' x v
 |_,_,.non=>.non
 |_,_,.bl b=>.bl b
 |_,_,.int i=>.int i
 |_,_,.str x=>.str x
 |_,_,.ref a=>.ref a
 |_,_,.tup h hs=>.tup (TQ hr k h) (Rps.keep hr k hs)
def Rps.keep (hr:HR K G H) (k:Kp G H G' H'):∀ {x:List T} {v:List V},Rps K H x v->Rps K H' x v
 |_,_,.nil=>.nil
 |_,_,.cons a b=>.cons (Rp.keep hr k a) (Rps.keep hr k b)
end
def Rps.length:∀ {xs:List T} {vs:List V},Rps K H xs vs->xs.length=vs.length
 |_,_,.nil=>rfl
 |_,_,.cons _ b=>by simp [Rps.length b]
def Rps.get:∀ {xs:List T} {vs:List V} {i:Nat} {x:T},Rps K H xs vs->xs[i]?=some x->∃ v,vs[i]?=some v/\Rp K H x v
 |_,_,_,_,.nil,e=>by simp at e
 |_,_,0,_,.cons r _,e=>by simp at e;subst e;exact ⟨_,rfl,r⟩
 |_,_,i+1,x,.cons _ t,e=>by
  obtain ⟨u,h1,h2⟩:=Rps.get (i:=i) (x:=x) t (by simpa using e);exact ⟨u,by simpa using h1,h2⟩
def Rps.append:∀ {xs ys:List T} {vs us:List V},Rps K H xs vs->Rps K H ys us->Rps K H (xs++ys) (vs++us)
 |_,_,_,_,.nil,s=>s
 |_,_,_,_,.cons r t,s=>.cons r (Rps.append t s)
def Rps.take:∀ {xs:List T} {vs:List V} (n:Nat),Rps K H xs vs->Rps K H (xs.take n) (vs.take n)
 |_,_,0,_=>.nil
 |_,_,_+1,.nil=>.nil
 |_,_,n+1,.cons r t=>.cons r (Rps.take n t)
def Rps.drop:∀ {xs:List T} {vs:List V} (n:Nat),Rps K H xs vs->Rps K H (xs.drop n) (vs.drop n)
 |_,_,0,r=>r
 |_,_,_+1,.nil=>.nil
 |_,_,n+1,.cons _ t=>Rps.drop n t
def Rps.set {x:T} {v:V} (r:Rp K H x v):∀ {xs:List T} {vs:List V} (i:Nat),Rps K H xs vs->Rps K H (xs.set i x) (vs.set i v)
 |_,_,_,.nil=>.nil
 |_,_,0,.cons _ t=>.cons r t
 |_,_,i+1,.cons q t=>.cons q (Rps.set r i t)
def Rps.ints:∀ (ns:List Int),Rps K H (ns.map T.int) (ns.map V.int)
 |[]=>.nil
 |n::r=>.cons (.int n) (Rps.ints r)
def Rps.reverse {xs:List T} {vs:List V} (h:Rps K H xs vs):Rps K H xs.reverse vs.reverse:=by
 induction xs generalizing vs with
 |nil=>cases h;exact .nil
 |cons x r ih=>
  cases h with
  |cons a b=>
   rw [List.reverse_cons,List.reverse_cons];exact (ih b).append (.cons a .nil)
def Kp.laid {p:Addr} {ho:HO} (hp:H p=none):Kp G H G (upd H p ho):=λa o h g=>⟨by rw [qO (qD h hp)];exact h,g⟩
def HR.free (hr:HR K G H) {p:Addr} (hp:H p=none):G p=none:=by
 cases e:G p with
 |none=>rfl
 |some o=>
  have q:=hr p o e;cases o with
  |lst xs=>obtain ⟨us,q1,_⟩:=q;rw [hp] at q1;cases q1
  |frz xs=>obtain ⟨us,⟨o1,q1⟩,_⟩:=q;rw [hp] at q1;cases q1
  |dct kvs=>obtain ⟨us,q1,_⟩:=q;rw [hp] at q1;cases q1
  |exn C=>have q1:H p=some (.ext (IsX p C)):=q;rw [hp] at q1;cases q1
  |tab ks xs=>obtain ⟨us,q1,_⟩:=q;rw [hp] at q1;cases q1
def OR.keep (hr:HR K G H) (k:Kp G H G' H') {a:Addr} {o:O} (h:OR K H a o) (e:∀ u,H a=some u->H' a=some u):OR K H' a o:=by
 cases o with
 |lst xs=>obtain ⟨vs,h1,h2⟩:=h;exact ⟨vs,e _ h1,h2.keep hr k⟩
 |frz xs=>obtain ⟨vs,⟨o,h1⟩,h2⟩:=h;exact ⟨vs,⟨o,e _ h1⟩,h2.keep hr k⟩
 |dct kvs=>obtain ⟨vs,h1,h2⟩:=h;exact ⟨vs,e _ h1,h2.keep hr k⟩
 |exn C=>exact e _ h
 |tab ks xs=>obtain ⟨vs,h1,h2⟩:=h;exact ⟨vs,e _ h1,h2.keep hr k⟩
def HR.laid (hr:HR K G H) {p:Addr} {ho:HO} (hp:H p=none):HR K G (upd H p ho):=λa o e=>
 (hr a o e).keep hr (Kp.laid hp) λu h=>by rw [qO (qD h hp)];exact h
def Kp.newL {p:Addr} {ho:HO} {o':O} (hp:H p=none):Kp G H (gu G p o') (upd H p ho):=λa o h g=>
 ⟨by rw [qO (qD h hp)];exact h,by rw [jc (qD h hp)];exact g⟩
def HR.newL (hr:HR K G H) {p:Addr} {xs:List T} {vs:List V} (hp:H p=none) (r:Rps K H xs vs):HR K (gu G p (.lst xs)) (upd H p (.lst vs)):=λa o e=>by
 by_cases ha:a=p
 ·subst ha;rw [qB] at e;cases e;exact ⟨vs,zA,r.keep hr (Kp.laid hp)⟩
 ·rw [jc ha] at e;exact (hr a o e).keep hr (Kp.laid hp) λu h=>by rw [qO ha];exact h
def Kp.wr {p:Addr} {ho:HO} {o o':O} (g:G p=some o):Kp G H (gu G p o') (upd H p ho):=λa ob h ga=>by
 have ha:a≠p:=by intro e;subst e;rw [g] at ga;cases ga
 exact ⟨by rw [qO ha];exact h,by rw [jc ha];exact ga⟩
def HR.wr (hr:HR K G H) {p:Addr} {ys xs:List T} {vs:List V} (g:G p=some (.lst ys)) (r:Rps K H xs vs):HR K (gu G p (.lst xs)) (upd H p (.lst vs)):=λa o e=>by
 have k:Kp G H (gu G p (.lst xs)) (upd H p (.lst vs)):=Kp.wr g;by_cases ha:a=p
 ·subst ha;rw [qB] at e;cases e;exact ⟨vs,zA,r.keep hr k⟩
 ·rw [jc ha] at e;exact (hr a o e).keep hr k λu h=>by rw [qO ha];exact h
end
abbrev St3:=List (Option T)
structure Rel (K:Frg) (τ:St3) (G:Gp) (σ:L2.St) (H:Hp):Prop where
 hp:HR K G H
 len:τ.length=σ.length
 st:∀ (i:Nat) (t:T),τ[i]?=some (some t)->∃ v,σ[i]?=some (some v)/\Rp K H t v
def Rel.next {K:Frg} {τ:St3} {G G':Gp} {σ:L2.St} {H H':Hp} (r:Rel K τ G σ H) (hr:HR K G' H') (k:Kp G H G' H'):Rel K τ G' σ H':=
 ⟨hr,r.len,λi t e=>let ⟨v,h1,h2⟩:=r.st i t e;⟨v,h1,h2.keep r.hp k⟩⟩
def Rel.set {K:Frg} {τ:St3} {G:Gp} {σ:L2.St} {H:Hp} {t:T} {v:V} (r:Rel K τ G σ H) (i:Nat) (h:Rp K H t v):Rel K (τ.set i (some t)) G (σ.set i (some v)) H:=by
 refine ⟨r.hp,by simp [r.len],λj u e=>?_⟩;by_cases hij:i=j
 ·subst hij;rw [List.getElem?_set_self'] at e;have hl:i<τ.length:=by
   cases q:τ[i]? with
   |none=>rw [q] at e;cases e
   |some z=>exact (List.getElem?_eq_some_iff.mp q).1
  rw [getElem?_eq_getElem hl] at e;have e':t=u:=by simpa using e
  subst e';exact ⟨v,by rw [List.getElem?_set_self (by rw [← r.len];exact hl)],h⟩
 ·rw [List.getElem?_set_ne hij] at e;obtain ⟨w,h1,h2⟩:=r.st j u e;exact ⟨w,by rw [List.getElem?_set_ne hij];exact h1,h2⟩
abbrev Q3:=T->Gp->Prop
abbrev TE3:=St3->Gp->Q3->Prop
abbrev TT3:=St3->Gp->(Bool->Gp->Prop)->Prop
abbrev TA3:=St3->Gp->(List T->Gp->Prop)->Prop
def Aft (K:Frg) (G:Gp) (H:Hp) (q:Q3) (Q:VK):Prop:=∀ x G',q x G'->∀ v H',Rp K H' x v->HR K G' H'->Kp G H G' H'->Q v H'
def qn6 (K:Frg) (G:Gp) (H:Hp) (q:Bool->Gp->Prop) (Q:Bool->Hp->Prop):Prop:=∀ x G',q x G'->∀ H',HR K G' H'->Kp G H G' H'->Q x H'
def qq4 (K:Frg) (G:Gp) (H:Hp) (q:List T->Gp->Prop) (Q:List V->Hp->Prop):Prop:=∀ x G',q x G'->∀ v H',Rps K H' x v->HR K G' H'->Kp G H G' H'->Q v H'
def lE (K:Frg) (t:TE3):TE:=λσ H Q=>∃ τ G q,Rel K τ G σ H/\t τ G q/\Aft K G H q Q
def lT (K:Frg) (t:TT3):TT:=λσ H Q=>∃ τ G q,Rel K τ G σ H/\t τ G q/\qn6 K G H q Q
def lA (K:Frg) (t:TA3):TA:=λσ H Q=>∃ τ G q,Rel K τ G σ H/\t τ G q/\qq4 K G H q Q
abbrev E3 (X:Cx) (e:Expr) (t:TE3):Prop:=PE X e (lE X.K t)
abbrev C3 (X:Cx) (e:Expr) (t:TT3):Prop:=PT X e (lT X.K t)
abbrev W3 (X:Cx) (e:Expr) (t:TT3):Prop:=PW X e (lT X.K t)
abbrev A3 (X:Cx) (es:List Expr) (t:TA3):Prop:=PA X es (lA X.K t)
def Aft.back {K:Frg} {G G1:Gp} {H H1:Hp} {q:Q3} {Q:VK} (a:Aft K G H q Q) (k:Kp G H G1 H1):Aft K G1 H1 q Q:=λx G' h v H' r hr k'=>a x G' h v H' r hr (k.trans k')
def qn6.back {K:Frg} {G G1:Gp} {H H1:Hp} {q:Bool->Gp->Prop} {Q:Bool->Hp->Prop} (a:qn6 K G H q Q) (k:Kp G H G1 H1):qn6 K G1 H1 q Q:=λx G' h H' hr k'=>a x G' h H' hr (k.trans k')
def XF {X:Cx} {e:Expr} {t t':TE} (h:PE X e t) (w:∀ σ H Q,t' σ H Q->t σ H Q):PE X e t':=λpins s σ H Q I q=>h pins s σ H Q I (w σ H Q q)
def qn8 {X:Cx} {e:Expr} {t t':TT} (h:PT X e t) (w:∀ σ H Q,t' σ H Q->t σ H Q):PT X e t':=λpins s σ H Q I q=>h pins s σ H Q I (w σ H Q q)
def qrl {X:Cx} {e:Expr} {t t':TT} (h:PW X e t) (w:∀ σ H Q,t' σ H Q->t σ H Q):PW X e t':=λwh pins s σ H Q I q=>h wh pins s σ H Q I (w σ H Q q)
def qqq {X:Cx} {e:List Expr} {t t':TA} (h:PA X e t) (w:∀ σ H Q,t' σ H Q->t σ H Q):PA X e t':=λpos pins s σ H Q I q=>h pos pins s σ H Q I (w σ H Q q)
def zE {K:Frg} {ta:TE3} {τ:St3} {G:Gp} {σ:L2.St} {H:Hp} {q:Q3} {Q:VK} (r:Rel K τ G σ H) (h:ta τ G q)
  (n:∀ x G1,q x G1->∀ v H1,Rp K H1 x v->HR K G1 H1->Kp G H G1 H1->Rel K τ G1 σ H1->Q v H1):lE K ta σ H Q:=
 ⟨τ,G,q,r,h,λx G1 hq v H1 rx hr k=>n x G1 hq v H1 rx hr k (r.next hr k)⟩
def L9 {K:Frg} {ta:TT3} {τ:St3} {G:Gp} {σ:L2.St} {H:Hp} {q:Bool->Gp->Prop} {Q:Bool->Hp->Prop} (r:Rel K τ G σ H) (h:ta τ G q)
  (n:∀ x G1,q x G1->∀ H1,HR K G1 H1->Kp G H G1 H1->Rel K τ G1 σ H1->Q x H1):lT K ta σ H Q:=
 ⟨τ,G,q,r,h,λx G1 hq H1 hr k=>n x G1 hq H1 hr k (r.next hr k)⟩
def UH {K:Frg} {ta:TA3} {τ:St3} {G:Gp} {σ:L2.St} {H:Hp} {q:List T->Gp->Prop} {Q:List V->Hp->Prop} (r:Rel K τ G σ H) (h:ta τ G q)
  (n:∀ x G1,q x G1->∀ v H1,Rps K H1 x v->HR K G1 H1->Kp G H G1 H1->Rel K τ G1 σ H1->Q v H1):lA K ta σ H Q:=
 ⟨τ,G,q,r,h,λx G1 hq v H1 rx hr k=>n x G1 hq v H1 rx hr k (r.next hr k)⟩
section
variable {X:Cx} {a b c:Expr} {ta tb tc:TE3} {pos:Pos}
def v3 (i:Nat):TE3:=λτ G q=>match τ[i]? with|some (some t)=>q t G|_=>False
def qpy (i:Nat) {x:Str} {pos:Pos} (hN:X.N[i]?=some x:=by rfl) (hv:Vis X.env.scope x:=by first|exact Or.inl rfl|exact Or.inr (Or.inl rfl)|exact Or.inr (Or.inr rfl)) (hd:(x==("__debug__" : Str))=false:=by decide)
  (hcd:(x==("__classdict__" : Str))=false:=by decide):E3 X (.Name x pos) (v3 i):=by
 refine XF (qnm (i:=i) hN hv hd hcd) λσ H Q ⟨τ,G,q,r,h,af⟩=>?_;unfold v3 at h;split at h
 ·rename_i t e;obtain ⟨v,e2,rv⟩:=r.st i t e;exact ⟨v,e2,af t G h v H rv r.hp Kp.refl⟩
 ·exact h.elim
def c3 (t:T):TE3:=λ_ G q=>q t G
def e_c {t:T} {v:V} {e:Expr} (h:PE X e (tC v)) (hr:∀ H,Rp X.K H t v):E3 X e (c3 t):=XF h λσ H Q ⟨τ,G,q,r,h,af⟩=>af t G h v H (hr H) r.hp Kp.refl
def qo1 {i:Int} {j pos}:E3 X (.Constant (.int i) j pos) (c3 (.int i)):=e_c qjb λ_=>.int i
def qq6 {b:Bool} {j pos}:E3 X (.Constant (.bool b) j pos) (c3 (.bl b)):=e_c qqi λ_=>.bl b
def qoy {j pos}:E3 X (.Constant .none j pos) (c3 .non):=e_c qlN λ_=>.non
def qp7 {x:Str} {j pos}:E3 X (.Constant (.str x) j pos) (c3 (.str x)):=e_c qiY λ_=>.str x
def n3:TE3:=λ_ _ _=>False
abbrev R3:=T->T->Gp->Q3->Prop
def W8 (K:Frg) (r3:R3) (r:R2):Prop:=∀ x y v u G H q Q,HR K G H->Rp K H x v->Rp K H y u->r3 x y G q->Aft K G H q Q->r v u H Q
def o3 (r:R3) (ta tb:TE3):TE3:=λτ G q=>ta τ G λx G1=>tb τ G1 λy G2=>r x y G2 q
def qes {K:Frg} {r3:R3} {r:R2} (hr:W8 K r3 r) {σ:L2.St} {H:Hp} {Q:VK} (h:lE K (o3 r3 ta tb) σ H Q):tOp r (lE K ta) (lE K tb) σ H Q:=by
 obtain ⟨τ,G,q,rl,h,af⟩:=h;refine zE rl h λx G1 h1 v H1 rx hr1 k1 rl1=>zE rl1 h1 λy G2 h2 u H2 ry hr2 k2 rl2=>?_;exact hr x y v u G2 H2 q Q hr2 (rx.keep hr1 k2) ry h2 (af.back (k1.trans k2))
def qgu {op:Operator} {r3:R3} {r:R2} (ho:OpR X (binaryOp op) r) (hr:W8 X.K r3 r) (ha:E3 X a ta) (hb:E3 X b tb):E3 X (.BinOp a op b pos) (o3 r3 ta tb):=
 XF (qpG ho ha hb) λ_ _ _ h=>qes hr h
def qoN {op:CmpOp} {r3:R3} {r:R2} (ho:OpR X (compareOp op) r) (hr:W8 X.K r3 r) (ha:E3 X a ta) (hb:E3 X b tb) (hm:behindInMarks op b=false):E3 X (.Compare a [op] [b] pos) (o3 r3 ta tb):=
 XF (qg0 ho ha hb hm) λ_ _ _ h=>qes hr h
def tb3 (t:TE3):TT3:=λτ G q=>t τ G λx G'=>match x with|.bl k=>q k G'|_=>False
def qhv {K:Frg} {t:TE3} {t2:TE} (hw:∀ σ H Q,lE K t σ H Q->t2 σ H Q) {σ:L2.St} {H:Hp} {Q:Bool->Hp->Prop} (h:lT K (tb3 t) σ H Q):qh9 t2 σ H Q:=by
 obtain ⟨τ,G,q,rl,h,af⟩:=h;refine hw _ _ _ (zE rl h λx G1 h1 v H1 rx hr1 k1 rl1=>?_);cases x with
 |bl k=>cases rx;exact ⟨k,rfl,af k G1 h1 H1 hr1 k1⟩
 |_=>exact h1.elim
def qpT {op:CmpOp} {r3:R3} {r:R2} (ho:OpR X (compareOp op) r) (hr:W8 X.K r3 r) (ha:E3 X a ta) (hb:E3 X b tb) (hm:behindInMarks op b=false):C3 X (.Compare a [op] [b] pos) (tb3 (o3 r3 ta tb)):=
 qn8 (qgT ho ha hb hm) λ_ _ _ h=>qhv (λ_ _ _=>qes hr) h
def ch3 (r r':R3) (ta tb tc:TE3):TE3:=λτ G q=>ta τ G λx G1=>tb τ G1 λy G2=>r x y G2 λz G3=>match z with
 |.bl k=>if k=true then tc τ G3 λw G4=>r' y w G4 q else q (.bl false) G3
 |_=>False
def qpF {K:Frg} {r3 r3':R3} {r r':R2} (hr:W8 K r3 r) (hr':W8 K r3' r') {σ:L2.St} {H:Hp} {Q:VK} (h:lE K (ch3 r3 r3' ta tb tc) σ H Q):qgK r r' (lE K ta) (lE K tb) (lE K tc) σ H Q:=by
 obtain ⟨τ,G,q,rl,h,af⟩:=h;refine zE rl h λx G1 h1 v H1 rx hr1 k1 rl1=>zE rl1 h1 λy G2 h2 u H2 ry hr2 k2 rl2=>?_;refine hr x y v u G2 H2 _ _ hr2 (rx.keep hr1 k2) ry h2 λz G3 h3 w H3 rz hr3 k3=>?_;cases z with
 |bl k=>
  cases rz;refine ⟨k,rfl,?_⟩;cases k with
  |false=>
   rw [if_neg Bool.false_ne_true];rw [show (match T.bl false with|.bl k=>if k=true then tc τ G3 λw G4=>r3' y w G4 q else q (.bl false) G3|_=>False)=q (.bl false) G3 from by simp] at h3;exact af _ G3 h3 _ H3 (.bl false) hr3 ((k1.trans k2).trans k3)
  |true=>
   rw [if_pos rfl];refine zE (rl2.next hr3 k3) (show tc τ G3 λw G4=>r3' y w G4 q from by simpa using h3) λw G4 h4 w' H4 rw' hr4 k4 rl4=>?_;exact hr' y w _ _ G4 H4 q Q hr4 ((ry.keep hr2 k3).keep hr3 k4) rw' h4 (af.back (((k1.trans k2).trans k3).trans k4))
 |_=>exact h3.elim
def qhQ {op op':CmpOp} {r3 r3':R3} {r r':R2} (ho:OpR X (compareOp op) r) (hr:W8 X.K r3 r) (ho':OpR X (compareOp op') r') (hr':W8 X.K r3' r') (ha:E3 X a ta) (hb:E3 X b tb) (hc:E3 X c tc)
  (hm:lastMarks [op,op'] [b,c]=false:=by with_unfolding_all rfl):C3 X (.Compare a [op,op'] [b,c] pos) (tb3 (ch3 r3 r3' ta tb tc)):=
 qn8 (qd9 ho ho' ha hb hc hm) λ_ _ _ h=>qhv (λ_ _ _=>qpF hr hr') h
def qqo (K:Frg) (r3:T->Gp->Q3->Prop) (r:V->Hp->VK->Prop):Prop:=∀ x v G H q Q,HR K G H->Rp K H x v->r3 x G q->Aft K G H q Q->r v H Q
def u3 (r:T->Gp->Q3->Prop) (ta:TE3):TE3:=λτ G q=>ta τ G λx G1=>r x G1 q
def qq5 {op:UnaryOp} {r3:T->Gp->Q3->Prop} {r:V->Hp->VK->Prop} (ho:UnR X (unaryOp op) r) (hr:qqo X.K r3 r) (ha:E3 X a ta):E3 X (.UnaryOp op a pos) (u3 r3 ta):=
 XF (qop ho ha) λ_ _ _ ⟨τ,G,q,rl,h,af⟩=>zE rl h λx G1 h1 v H1 rx hr1 k1 rl1=>hr x v G1 H1 q _ hr1 rx h1 (af.back k1)
def K6:T->Gp->Q3->Prop:=λx G q=>match x with|.int i=>q (.int (-i)) G|_=>False
def qhd {K:Frg}:qqo K K6 (rU λi=>.int (-i)):=λx v G H q Q hr rx h af=>by
 cases x with
 |int i=>cases rx;exact ⟨i,rfl,af _ G h _ H (.int _) hr Kp.refl⟩
 |_=>exact h.elim
def iI (f:Int->Int->Int):R3:=λx y G q=>match x,y with|.int i,.int j=>q (.int (f i j)) G|_,_=>False
def iC (C:Int->Int->Prop) (f:Int->Int->Int):R3:=λx y G q=>match x,y with|.int i,.int j=>C i j/\q (.int (f i j)) G|_,_=>False
def iB (f:Int->Int->Bool):R3:=λx y G q=>match x,y with|.int i,.int j=>q (.bl (f i j)) G|_,_=>False
def qlo {K:Frg} {f:Int->Int->Int}:W8 K (iI f) (rI0 λi j=>.int (f i j)):=λx y v u G H q Q hr rx ry h af=>by
 cases x<;>try exact h.elim
 cases y<;>try exact h.elim
 cases rx;cases ry;exact ⟨_,_,rfl,rfl,af _ G h _ H (.int _) hr Kp.refl⟩
def qac {K:Frg} {C:Int->Int->Prop} {f:Int->Int->Int}:W8 K (iC C f) (rI C λi j=>.int (f i j)):=λx y v u G H q Q hr rx ry h af=>by
 cases x<;>try exact h.elim
 cases y<;>try exact h.elim
 cases rx;cases ry;exact ⟨_,_,rfl,rfl,h.1,af _ G h.2 _ H (.int _) hr Kp.refl⟩
def ZW {K:Frg} {f:Int->Int->Bool}:W8 K (iB f) (rI0 λi j=>.bl (f i j)):=λx y v u G H q Q hr rx ry h af=>by
 cases x<;>try exact h.elim
 cases y<;>try exact h.elim
 cases rx;cases ry;exact ⟨_,_,rfl,rfl,af _ G h _ H (.bl _) hr Kp.refl⟩
def qpr (ha:E3 X a ta) (hb:E3 X b tb):E3 X (.BinOp a .Sub b pos) (o3 (iI (·-·)) ta tb):=qgu qlb qlo ha hb
def qoq (ha:E3 X a ta) (hb:E3 X b tb):E3 X (.BinOp a .Mult b pos) (o3 (iC XQ (·*·)) ta tb):=qgu qk0 qac ha hb
def qp6 (ha:E3 X a ta) (hb:E3 X b tb):E3 X (.BinOp a .Mod b pos) (o3 (iC (λ_ j=>0<j) (·%·)) ta tb):=qgu qmq qac ha hb
def qoF (ha:E3 X a ta) (hb:E3 X b tb):E3 X (.BinOp a .FloorDiv b pos) (o3 (iC qdr (·/·)) ta tb):=qgu qg1 qac ha hb
def qoR (ha:E3 X a ta) (hb:E3 X b tb):E3 X (.BinOp a .Pow b pos) (o3 (iC qlG (λi j=>i ^ j.toNat)) ta tb):=qgu qmh qac ha hb
def qpa (ha:E3 X a ta):E3 X (.UnaryOp .USub a pos) (u3 K6 ta):=qq5 qjT qhd ha
def jF:T->T->Option Bool
 |.non,.non=>some true|.non,.int _=>some false|.int _,.non=>some false|.non,.bl _=>some false|.bl _,.non=>some false|.non,.str _=>some false|.str _,.non=>some false
 |.int i,.int j=>some (decide (i=j))|.bl i,.bl j=>some (decide (i=j))|.str i,.str j=>some (decide (i=j))
 |.int _,.str _=>some false|.str _,.int _=>some false|.bl _,.str _=>some false|.str _,.bl _=>some false
 |_,_=>none
def N9 {K:Frg} {H:Hp} {x y:T} {v u:V} {k:Bool} (rx:Rp K H x v) (ry:Rp K H y u) (h:jF x y=some k):qpp v u=true/\decide (v=u)=k:=by
 cases rx<;>cases ry<;>simp [jF] at h<;>subst h<;>refine ⟨rfl,?_⟩<;>simp
def qet (neg:Bool):R3:=λx y G q=>match y with|.non=>q (.bl (match x with|.non=>!neg|_=>neg)) G|_=>False
def qko {K:Frg} {H:Hp} {x:T} {v:V} (rx:Rp K H x v):decide (v=.non)=(match x with|.non=>true|_=>false):=by
 cases rx<;>simp
def M1 {K:Frg}:W8 K (qet false) (λx y H Q=>y=.non/\Q (.bl (decide (x=.non))) H):=λx y v u G H q Q hr rx ry h af=>by
 cases y<;>try exact h.elim
 cases ry;refine ⟨rfl,?_⟩;rw [qko rx];refine af _ G h _ H ?_ hr Kp.refl;cases x<;>exact .bl _
variable {tA tB:TT3} {U3:List Expr}
def qje (t u:TT3):TT3:=λτ G q=>t τ G λk G1=>if k=true then u τ G1 q else q false G1
def or3 (t u:TT3):TT3:=λτ G q=>t τ G λk G1=>if k=true then q true G1 else u τ G1 q
def CQ (t:TT3):TT3:=λτ G q=>t τ G λk G1=>q (!k) G1
def qob (ha:C3 X a tA):W3 X (.BoolOp .Or [a] pos) tA:=qjV ha
def qrj (ha:C3 X a tA) (hb:W3 X (.BoolOp .Or (b::U3) pos) tB):W3 X (.BoolOp .Or (a::b::U3) pos) (or3 tA tB):=
 qrl (qpV ha hb) λ_ _ _ ⟨τ,G,q,rl,h,af⟩=>L9 rl h λk G1 h1 H1 hr1 k1 rl1=>by
  cases k with
  |true=>rw [if_pos rfl] at h1 ⊢;exact af _ G1 h1 H1 hr1 k1
  |false=>rw [if_neg Bool.false_ne_true] at h1 ⊢;exact ⟨τ,G1,q,rl1,h1,af.back k1⟩
def qoH (ha:C3 X a tA):C3 X (.UnaryOp .Not a pos) (CQ tA):=
 qn8 (qmX ha) λ_ _ _ ⟨τ,G,q,rl,h,af⟩=>L9 rl h λk G1 h1 H1 hr1 k1 rl1=>af _ G1 h1 H1 hr1 k1
def qpI {e:Expr} {t:TE3} (h:E3 X e t) (he:∀ whole,isTrue e X.env whole=(do let v←whole;standAt e.pos;holding [v] (truthy v)):=by intro _;rfl):C3 X e (tb3 t):=
 qn8 (qmN h he) λ_ _ _ h=>qhv (λ_ _ _ h=>h) h
def JF (ta tb:TE3):TE3:=λτ G q=>ta τ G λx G1=>match x with|.bl k=>if k=true then tb τ G1 q else q (.bl false) G1|_=>False
def qi3 (ta tb:TE3):TE3:=λτ G q=>ta τ G λx G1=>match x with|.bl k=>if k=true then q (.bl true) G1 else tb τ G1 q|_=>False
def C7 (ta:TE3):TE3:=λτ G q=>ta τ G λx G1=>match x with|.bl k=>q (.bl (!k)) G1|_=>False
def qpo {op} (h:E3 X a ta):E3 X (.BoolOp op [a] pos) ta:=qkR h
def qp2 (ha:E3 X a ta) (hb:E3 X (.BoolOp .And (b::U3) pos) tb):E3 X (.BoolOp .And (a::b::U3) pos) (JF ta tb):=
 XF (qla ha hb) λ_ _ _ ⟨τ,G,q,rl,h,af⟩=>zE rl h λx G1 h1 v H1 rx hr1 k1 rl1=>by
  cases x with
  |bl k=>
   cases rx;refine ⟨k,rfl,?_⟩;cases k with
   |true=>rw [if_pos rfl];exact ⟨τ,G1,q,rl1,(show tb τ G1 q from by simpa using h1),af.back k1⟩
   |false=>rw [if_neg Bool.false_ne_true];exact af _ G1 (by simpa using h1) _ H1 (.bl false) hr1 k1
  |_=>exact h1.elim
def qoY (ha:E3 X a ta):E3 X (.UnaryOp .Not a pos) (C7 ta):=
 XF (qkF ha) λ_ _ _ ⟨τ,G,q,rl,h,af⟩=>zE rl h λx G1 h1 v H1 rx hr1 k1 rl1=>by
  cases x with
  |bl k=>cases rx;exact ⟨k,rfl,af _ G1 h1 _ H1 (.bl _) hr1 k1⟩
  |_=>exact h1.elim
def if3 (t:TT3) (ta tb:TE3):TE3:=λτ G q=>t τ G λk G1=>if k=true then ta τ G1 q else tb τ G1 q
def qrU {c:Expr} (hc:C3 X c tA) (ha:E3 X a ta) (hb:E3 X b tb):E3 X (.IfExp c a b pos) (if3 tA ta tb):=
 XF (qdF hc ha hb) λ_ _ _ ⟨τ,G,q,rl,h,af⟩=>L9 rl h λk G1 h1 H1 hr1 k1 rl1=>by
  cases k with
  |true=>rw [if_pos rfl] at h1 ⊢;exact ⟨τ,G1,q,rl1,h1,af.back k1⟩
  |false=>rw [if_neg Bool.false_ne_true] at h1 ⊢;exact ⟨τ,G1,q,rl1,h1,af.back k1⟩
variable {e:Expr} {es:List Expr} {te:TE3} {t:TA3}
def qi:TA3:=λ_ G q=>q [] G
def qb (ta:TE3) (tr:TA3):TA3:=λτ G q=>ta τ G λx G1=>tr τ G1 λxs G2=>q (x::xs) G2
def qos:A3 X [] qi:=qqq NS λ_ H _ ⟨τ,G,q,rl,h,af⟩=>af _ G h _ H .nil rl.hp Kp.refl
def qnu (ha:E3 X e te) (hr:A3 X es t) (hs:starEach (e::es) X.env=(false,eval e X.env)::starEach es X.env:=by rfl):A3 X (e::es) (qb te t):=
 qqq (EB ha hr hs) λ_ _ _ ⟨τ,G,q,rl,h,af⟩=>zE rl h λx G1 h1 v H1 rx hr1 k1 rl1=>UH rl1 h1 λxs G2 h2 vs H2 rs hr2 k2 rl2=>
  af _ G2 h2 _ H2 (.cons (rx.keep hr1 k2) rs) hr2 (k1.trans k2)
def zB (t:TA3):TE3:=λτ G q=>t τ G λxs G1=>xs.length<=sizeLine/\q (.tup xs) G1
def QQ (t:TA3):TE3:=λτ G q=>t τ G λxs G1=>xs.length<=sizeLine/\∀ p,G1 p=none->q (.ref p) (gu G1 p (.lst xs))
def qon {x1} (h:A3 X es t):E3 X (.Tuple es x1 pos) (zB t):=
 XF (qgL h) λ_ _ _ ⟨τ,G,q,rl,h,af⟩=>UH rl h λxs G1 h1 vs H1 rs hr1 k1 rl1=>⟨by rw [← rs.length];exact h1.1,λp hp=>
  af _ G1 h1.2 _ _ (.tup (SqT.of zA) (rs.keep hr1 (Kp.laid hp))) (hr1.laid hp) (k1.trans (Kp.laid hp))⟩
def qph (h:A3 X es t):E3 X (.List es pos) (QQ t):=
 XF (qlQ h) λ_ _ _ ⟨τ,G,q,rl,h,af⟩=>UH rl h λxs G1 h1 vs H1 rs hr1 k1 rl1=>⟨by rw [← rs.length];exact h1.1,λp hp=>
  af _ _ (h1.2 p (hr1.free hp)) _ _ (.ref p) (hr1.newL hp rs) (k1.trans (Kp.newL hp))⟩
def qaF (K:Frg) (r3:List T->Gp->Q3->Prop) (r:List V->Hp->VK->Prop):Prop:=∀ xs vs G H q Q,HR K G H->Rps K H xs vs->r3 xs G q->Aft K G H q Q->r vs H Q
def cb3 (r:List T->Gp->Q3->Prop) (t:TA3):TE3:=λτ G q=>t τ G λxs G1=>r xs G1 q
def qjI {K:Frg} {r3:List T->Gp->Q3->Prop} {r:List V->Hp->VK->Prop} (hr:qaF K r3 r) {σ:L2.St} {H:Hp} {Q:VK} (h:lE K (cb3 r3 t) σ H Q):tCB r (lA K t) σ H Q:=by
 obtain ⟨τ,G,q,rl,h,af⟩:=h;exact UH rl h λxs G1 h1 vs H1 rs hr1 k1 rl1=>hr xs vs G1 H1 q Q hr1 rs h1 (af.back k1)
def qiC {x:Str} {p:Pos} {id:String} {r3:List T->Gp->Q3->Prop} {r:List V->Hp->VK->Prop} (hc:UE X (.builtin id) r) (hr:qaF X.K r3 r) (hg:Gl X x) (hm:X.mg x=none) (hv:bootBuiltins x=some (.builtin id)) (ha:A3 X (e::es) t) (hn:x≠"__name__" := by decide) (hdb:(x==("__debug__" : Str))=false:=by decide)
  (he:starEach (e::es) X.env=(false,eval e X.env)::starEach es X.env:=by rfl) (hpl:(backTo pos (starEach es X.env)).any (·.1)=false:=by rfl):E3 X (.Call (.Name x p) (e::es) [] pos) (cb3 r3 t):=
 XF (S7 hc hg hm hv ha hn hdb he hpl) λ_ _ _ h=>qjI hr h
def qee {x:Str} {p:Pos} {ty:String} {r3:List T->Gp->Q3->Prop} {r:List V->Hp->VK->Prop} (hc:UE X (.type ty) r) (hr:qaF X.K r3 r) (hg:Gl X x) (hm:X.mg x=none) (hv:bootBuiltins x=some (.type ty)) (ha:A3 X (e::es) t) (hn:x≠"__name__" := by decide) (hdb:(x==("__debug__" : Str))=false:=by decide)
  (he:starEach (e::es) X.env=(false,eval e X.env)::starEach es X.env:=by rfl) (hpl:(backTo pos (starEach es X.env)).any (·.1)=false:=by rfl):E3 X (.Call (.Name x p) (e::es) [] pos) (cb3 r3 t):=
 XF (qcV hc hg hm hv ha hn hdb he hpl) λ_ _ _ h=>qjI hr h
end
def getL (G:Gp) (p:Addr):Option (List T):=match G p with|some (.lst xs)=>some xs|some (.frz xs)=>some xs|_=>none
section
variable {K:Frg} {G G':Gp} {H H':Hp}
def jA (hr:HR K G H) {p:Addr} {xs:List T} (h:getL G p=some xs):∃ vs,SqL K H p vs/\Rps K H xs vs:=by
 unfold getL at h;split at h
 ·rename_i ys e;cases h;obtain ⟨vs,h1,h2⟩:=hr p _ e;exact ⟨vs,SqL.of h1,h2⟩
 ·rename_i ys e;cases h;obtain ⟨vs,⟨o,h1⟩,h2⟩:=hr p _ e;exact ⟨vs,.inl (.inr ⟨o,h1⟩),h2⟩
 ·cases h
def HR.lst (hr:HR K G H) {p:Addr} {xs:List T} (h:G p=some (.lst xs)):∃ vs,H p=some (.lst vs)/\Rps K H xs vs:=hr p _ h
def Rps.atI {xs:List T} {vs:List V} {i:Int} {x:T} (r:Rps K H xs vs) (h:atI xs i=some x):∃ v,L2.atI vs i=some v/\Rp K H x v:=by
 unfold L2.atI at h ⊢;rw [← r.length];cases e:ixN xs.length i with
 |none=>rw [e] at h;cases h
 |some j=>
  rw [e] at h;exact r.get (by simpa using h)
end
def ix3:R3:=λx y G q=>match x,y with
 |.tup xs,.int i=>(match atI xs i with|some z=>q z G|none=>False)
 |.ref p,.int i=>(match getL G p with|some xs=>(match atI xs i with|some z=>q z G|none=>False)|none=>False)
 |_,_=>False
section
variable {X:Cx} {a b c e:Expr} {es:List Expr} {ta tb tc te:TE3} {t:TA3} {pos:Pos}
def qkZ {K:Frg}:W8 K ix3 (rIx K):=λx y v u G H q Q hr rx ry h af=>by
 cases x<;>try exact h.elim
 case tup xs=>
  cases y<;>try exact h.elim
  case int i=>
   unfold ix3 at h;simp only at h;split at h
   ·rename_i z e;cases ry;cases rx with
    |tup hs rs=>
     obtain ⟨w,e2,rw'⟩:=rs.atI e;exact .inr (.inl ⟨_,_,i,w,rfl,rfl,hs,e2,af z G h w H rw' hr Kp.refl⟩)
   ·exact h.elim
 case ref p=>
  cases y<;>try exact h.elim
  case int i=>
   unfold ix3 at h;simp only at h;split at h
   ·rename_i xs e0;split at h
    ·rename_i z e;cases ry;cases rx;obtain ⟨vs,hs,rs⟩:=jA hr e0;obtain ⟨w,e2,rw'⟩:=rs.atI e;exact .inl ⟨p,vs,i,w,rfl,rfl,hs,e2,af z G h w H rw' hr Kp.refl⟩
    ·exact h.elim
   ·exact h.elim
def qry (ha:E3 X a ta) (hb:E3 X b tb) (hs:M5 b:=by intro _ _;rfl):E3 X (.Subscript a b pos) (o3 ix3 ta tb):=XF (qpH qm7 ha hb hs) λ_ _ _ h=>qes qkZ h
def UW {α:Type} (xs:List α) (lo hi:Option Int):List α:=(xs.drop (HT.sIx xs.length 0 lo)).take (HT.sIx xs.length xs.length hi-HT.sIx xs.length 0 lo)
def Rps.cut {K:Frg} {H:Hp} {xs:List T} {vs:List V} (r:Rps K H xs vs) (lo hi:Option Int):Rps K H (UW xs lo hi) (qe8 vs lo hi):=by
 unfold UW qe8;rw [r.length];exact (r.drop _).take _
abbrev TO3:=St3->Gp->(Option Int->Gp->Prop)->Prop
def lO (K:Frg) (t:TO3):TO:=λσ H Q=>∃ τ G q,Rel K τ G σ H/\t τ G q/\∀ x G',q x G'->∀ H',HR K G' H'->Kp G H G' H'->Q x H'
abbrev P3 (X:Cx) (e:Option Expr) (t:TO3):Prop:=PO X e (lO X.K t)
def np3:TO3:=λ_ G q=>q none G
def sp3 (t:TE3):TO3:=λτ G q=>t τ G λx G1=>match x with|.int i=>q (some i) G1|_=>False
def qqZ {X:Cx} {e:Option Expr} {t t':TO} (h:PO X e t) (w:∀ σ H Q,t' σ H Q->t σ H Q):PO X e t':=λpins s σ H Q I q=>h pins s σ H Q I (w σ H Q q)
def qi6:P3 X none np3:=qqZ qiw λ_ H _ ⟨τ,G,q,rl,h,af⟩=>af none G h H rl.hp Kp.refl
def qm3 (h:E3 X e te):P3 X (some e) (sp3 te):=qqZ (qiq h) λ_ _ _ ⟨τ,G,q,rl,h,af⟩=>zE rl h λx G1 h1 v H1 rx hr1 k1 rl1=>by
 cases x<;>try exact h1.elim
 cases rx;exact ⟨_,rfl,af _ G1 h1 H1 hr1 k1⟩
def sl3:T->Option Int->Option Int->Gp->Q3->Prop:=λx lo hi G q=>match x with
 |.tup xs=>¬ (HT.sIx xs.length 0 lo=0/\HT.sIx xs.length xs.length hi=xs.length)/\q (.tup (UW xs lo hi)) G
 |.ref p=>(match getL G p with|some xs=>∀ a,G a=none->q (.ref a) (gu G a (.lst (UW xs lo hi)))|none=>False)
 |_=>False
def SJ (te:TE3) (tl th:TO3):TE3:=λτ G q=>te τ G λx G1=>tl τ G1 λl G2=>th τ G2 λu G3=>sl3 x l u G3 q
def qil {lo hi:Option Expr} {tl th:TO3} {p2:Pos} (he:E3 X e te) (hl:P3 X lo tl) (hu:P3 X hi th):E3 X (.Subscript e (.Slice lo hi none p2) pos) (SJ te tl th):=
 XF (T4 (qfi.or qcR) he hl hu) λ_ _ _ ⟨τ,G,q,rl,h,af⟩=>zE rl h λx G1 h1 v H1 rx hr1 k1 rl1=>
  ⟨τ,G1,_,rl1,h1,λl G2 h2 H2 hr2 k2=>⟨τ,G2,_,rl1.next hr2 k2,h2,λu G3 h3 H3 hr3 k3=>by
   have kk:=(k1.trans k2).trans k3;have rx3:=(rx.keep hr1 k2).keep hr2 k3;cases x<;>try exact h3.elim
   case tup xs=>
    cases rx3 with
    |tup hs rs=>
     refine .inl ⟨_,_,rfl,hs,by rw [← rs.length];exact h3.1,λp hp=>?_⟩;exact af _ G3 h3.2 _ _ (.tup (SqT.of zA) ((rs.cut _ _).keep hr3 (Kp.laid hp))) (hr3.laid hp) (kk.trans (Kp.laid hp))
   case ref p=>
    unfold sl3 at h3;simp only at h3;split at h3
    ·rename_i xs e0;cases rx3;obtain ⟨vs,hs,rs⟩:=jA hr3 e0;refine .inr ⟨p,vs,rfl,hs,λa ha=>?_⟩;exact af _ _ (h3 a (hr3.free ha)) _ _ (.ref a) (hr3.newL ha (rs.cut _ _)) (kk.trans (Kp.newL ha))
    ·exact h3.elim⟩⟩
def qbh {K:Frg} {H:Hp} {xs:List T} {vs:List V} (r:Rps K H xs vs):vs=[]↔xs=[]:=by
 cases r<;>simp
def QM:R3:=λx y G q=>match x,y with
 |.tup xs,.tup ys=>xs≠[]/\xs.length+ys.length<=sizeLine/\q (.tup (xs++ys)) G
 |.ref a,.ref b=>(match G a,G b with|some (.lst xs),some (.lst ys)=>xs.length+ys.length<=sizeLine/\∀ p,G p=none->q (.ref p) (gu G p (.lst (xs++ys)))|_,_=>False)
 |.int i,.int j=>q (.int (i+j)) G
 |_,_=>False
def T7 {K:Frg}:W8 K QM (λx y H Q=>(rI0 (λi j=>.int (i+j)) x y H Q\/qiH K x y H Q)\/qpv x y H Q):=λx y v u G H q Q hr rx ry h af=>by
 cases x<;>try exact h.elim
 case int i=>
  cases y<;>try exact h.elim
  cases rx;cases ry;exact .inl (.inl ⟨_,_,rfl,rfl,af _ G h _ H (.int _) hr Kp.refl⟩)
 case tup xs=>
  cases y<;>try exact h.elim
  case tup ys=>
   obtain ⟨h1,h2,h3⟩:=h;cases rx with
   |tup hs rs=>
    cases ry with
    |tup hs' rs'=>
     refine .inl (.inr ⟨_,_,_,_,rfl,rfl,hs,hs',λz=>h1 ((qbh rs).mp z),by rw [← rs.length,← rs'.length];exact h2,λz=>?_,λz p hp=>?_⟩)
     ·have e:=(qbh rs').mp z;subst e;rw [List.append_nil] at h3;exact af _ G h3 _ H (.tup hs rs) hr Kp.refl
     ·exact af _ G h3 _ _ (.tup (SqT.of zA) ((rs.append rs').keep hr (Kp.laid hp))) (hr.laid hp) (Kp.laid hp)
 case ref a=>
  cases y<;>try exact h.elim
  case ref b=>
   unfold QM at h;simp only at h;split at h
   ·rename_i xs ys e1 e2;cases rx;cases ry;obtain ⟨vs,g1,r1⟩:=hr.lst e1;obtain ⟨us,g2,r2⟩:=hr.lst e2;refine .inr ⟨a,b,vs,us,rfl,rfl,g1,g2,by rw [← r1.length,← r2.length];exact h.1,λp hp=>?_⟩;exact af _ _ (h.2 p (hr.free hp)) _ _ (.ref p) (hr.newL hp (r1.append r2)) (Kp.newL hp)
   ·exact h.elim
def ql2 (ha:E3 X a ta) (hb:E3 X b tb):E3 X (.BinOp a .Add b pos) (o3 QM ta tb):=qgu ((qgO.or qcw).or qgn) T7 ha hb
def LC:T->Bool
 |.non=>true|.bl _=>true|.int _=>true|.str _=>true|_=>false
def eqF:T->T->Bool
 |.non,.non=>true
 |.bl a,.bl b=>a==b
 |.bl a,.int b=>(if a then 1 else 0)==b
 |.int a,.bl b=>a==(if b then 1 else 0)
 |.int a,.int b=>a==b
 |.str a,.str b=>a==b
 |_,_=>false
def in3 (neg:Bool):R3:=λx y G q=>LC x=true/\match y with
 |.tup ys=>ys.all LC=true/\q (.bl (if neg then !(ys.any λy=>eqF y x) else (ys.any λy=>eqF y x))) G
 |.ref p=>(match getL G p with|some ys=>ys.all LC=true/\q (.bl (if neg then !(ys.any λy=>eqF y x) else (ys.any λy=>eqF y x))) G|none=>False)
 |_=>False
def U2:List T->Gp->Q3->Prop:=λxs G q=>match xs with
 |[.tup ys]=>q (.int ys.length) G
 |[.str y]=>y.length<=sizeLine/\q (.int y.length) G
 |[.ref p]=>(match getL G p with|some ys=>q (.int ys.length) G|none=>False)
 |_=>False
def LF {K:Frg} {H:Hp} {x:T} {vs:List V} (r:Rps K H [x] vs):∃ v,vs=[v]/\Rp K H x v:=by
 cases r with
 |cons a b=>cases b;exact ⟨_,rfl,a⟩
def qoh {K:Frg} {H:Hp} {x y:T} {vs:List V} (r:Rps K H [x,y] vs):∃ v u,vs=[v,u]/\Rp K H x v/\Rp K H y u:=by
 cases r with
 |cons a b=>cases b with|cons c d=>cases d;exact ⟨_,_,rfl,a,c⟩
def ju {K:Frg}:qaF K U2 (λxs H Q=>∃ x n,xs=[x]/\qqr K x H n/\Q (.int n) H):=λxs vs G H q Q hr rs h af=>by
 unfold U2 at h;split at h
 ·obtain ⟨v,rfl,r⟩:=LF rs;cases r with
  |tup hs r2=>exact ⟨_,_,rfl,.inr ⟨_,hs,rfl⟩,by rw [← r2.length];exact af _ G h _ H (.int _) hr Kp.refl⟩
 ·obtain ⟨v,rfl,r⟩:=LF rs;cases r;exact ⟨_,_,rfl,⟨h.1,rfl⟩,af _ G h.2 _ H (.int _) hr Kp.refl⟩
 ·obtain ⟨v,rfl,r⟩:=LF rs;split at h
  ·rename_i ys e;cases r;obtain ⟨us,hs,r2⟩:=jA hr e;exact ⟨_,_,rfl,.inl ⟨_,hs,rfl⟩,by rw [← r2.length];exact af _ G h _ H (.int _) hr Kp.refl⟩
  ·exact h.elim
 ·exact h.elim
def qds:List T->Gp->Q3->Prop:=λxs G q=>match xs with|[.int i]=>q (.int (if i<0 then -i else i)) G|_=>False
def qcr {K:Frg}:qaF K qds (λxs H Q=>∃ i,xs=[.int i]/\Q (.int (if i<0 then -i else i)) H):=λxs vs G H q Q hr rs h af=>by
 unfold qds at h;split at h
 ·obtain ⟨v,rfl,r⟩:=LF rs;cases r;exact ⟨_,rfl,af _ G h _ H (.int _) hr Kp.refl⟩
 ·exact h.elim
def qdm:List T->Gp->Q3->Prop:=λxs G q=>match xs with|[.int i,.int j]=>q (.int (if j<i then j else i)) G|_=>False
def qhx {K:Frg}:qaF K qdm (λxs H Q=>∃ i j,xs=[.int i,.int j]/\Q (.int (if j<i then j else i)) H):=λxs vs G H q Q hr rs h af=>by
 unfold qdm at h;split at h
 ·obtain ⟨v,u,rfl,r,r'⟩:=qoh rs;cases r;cases r';exact ⟨_,_,rfl,af _ G h _ H (.int _) hr Kp.refl⟩
 ·exact h.elim
def qlO:List T->Gp->Q3->Prop:=λxs G q=>match xs with|[.int i,.int j]=>q (.int (if j > i then j else i)) G|_=>False
def qkC:List T->Gp->Q3->Prop:=λxs G q=>match xs with|[.int i]=>q (.int i) G|[.bl k]=>q (.int (if k then 1 else 0)) G|_=>False
def ja:List T->Gp->Q3->Prop:=λxs G q=>match xs with
 |[.tup ys]=>q (.tup ys) G
 |[.ref p]=>(match getL G p with|some ys=>q (.tup ys) G|none=>False)
 |_=>False
def QF {K:Frg}:qaF K ja (λxs H Q=>∃ p ys,xs=[.ref p]/\((SqL K H p ys/\∀ l,H l=none->Q (.ref l) (upd H l (.tup ys)))\/(SqT K H p ys/\Q (.ref p) H))):=λxs vs G H q Q hr rs h af=>by
 unfold ja at h;split at h
 ·obtain ⟨v,rfl,r⟩:=LF rs;cases r with
  |tup hs r2=>exact ⟨_,_,rfl,.inr ⟨hs,af _ G h _ H (.tup hs r2) hr Kp.refl⟩⟩
 ·obtain ⟨v,rfl,r⟩:=LF rs;split at h
  ·rename_i ys e;cases r;obtain ⟨us,hs,r2⟩:=jA hr e;exact ⟨_,_,rfl,.inl ⟨hs,λl hl=>af _ G h _ _ (.tup (SqT.of zA) (r2.keep hr (Kp.laid hl))) (hr.laid hl) (Kp.laid hl)⟩⟩
  ·exact h.elim
 ·exact h.elim
def XM:List T->Gp->Q3->Prop:=λxs G q=>match xs with
 |[.tup ys]=>∀ p,G p=none->q (.ref p) (gu G p (.lst ys))
 |[.ref p]=>(match getL G p with|some ys=>∀ p,G p=none->q (.ref p) (gu G p (.lst ys))|none=>False)
 |_=>False
def NZ {K:Frg}:qaF K XM (λxs H Q=>∃ p ys,xs=[.ref p]/\(SqL K H p ys\/SqT K H p ys)/\∀ l,H l=none->Q (.ref l) (upd H l (.lst ys))):=λxs vs G H q Q hr rs h af=>by
 unfold XM at h;split at h
 ·obtain ⟨v,rfl,r⟩:=LF rs;cases r with
  |tup hs r2=>exact ⟨_,_,rfl,.inr hs,λl hl=>af _ _ (h l (hr.free hl)) _ _ (.ref l) (hr.newL hl r2) (Kp.newL hl)⟩
 ·obtain ⟨v,rfl,r⟩:=LF rs;split at h
  ·rename_i ys e;cases r;obtain ⟨us,hs,r2⟩:=jA hr e;exact ⟨_,_,rfl,.inl hs,λl hl=>af _ _ (h l (hr.free hl)) _ _ (.ref l) (hr.newL hl r2) (Kp.newL hl)⟩
  ·exact h.elim
 ·exact h.elim
def qjF:T->List T->Gp->Q3->Prop:=λx xs G q=>match x,xs with
 |.ref l,[.ref b]=>(match G l,G b with|some (.lst ys),some (.lst zs)=>ys.length+zs.length<=sizeLine/\q .non (gu G l (.lst (ys++zs)))|_,_=>False)
 |_,_=>False
def KG:T->List T->Gp->Q3->Prop:=λx xs G q=>match x,xs with
 |.ref l,[y]=>(match G l with|some (.lst ys)=>ys.length<sizeLine/\q .non (gu G l (.lst (ys++[y])))|_=>False)
 |_,_=>False
def qiO (K:Frg) (r3:T->List T->Gp->Q3->Prop) (r:V->List V->Hp->VK->Prop):Prop:=∀ x xs v vs G H q Q,HR K G H->Rp K H x v->Rps K H xs vs->r3 x xs G q->Aft K G H q Q->r v vs H Q
def qgR {K:Frg}:qiO K KG qcC:=λx xs v vs G H q Q hr rx rs h af=>by
 unfold KG at h;split at h
 ·rename_i l y;split at h
  ·rename_i ys e1;cases rx;obtain ⟨u,rfl,r⟩:=LF rs;obtain ⟨vs,g1,r1⟩:=hr.lst e1;exact ⟨l,vs,u,rfl,rfl,g1,by rw [← r1.length];exact h.1,af _ _ h.2 _ _ .non (hr.wr e1 (r1.append (.cons r .nil))) (Kp.wr e1)⟩
  ·exact h.elim
 ·exact h.elim
def bm3 (r:T->List T->Gp->Q3->Prop) (to:TE3) (t:TA3):TE3:=λτ G q=>to τ G λx G1=>(match x with|.ref p=>(getL G1 p).isSome=true|_=>False)/\t τ G1 λxs G2=>r x xs G2 q
def qrG {o:Expr} {to:TE3} {name:Str} {apos cpos:Pos} {id:String} {r3:T->List T->Gp->Q3->Prop} {r:V->List V->Hp->VK->Prop} (slot:Slot "list" name id) (hty:typeOf (.builtin id)=pure (.type "method_descriptor")) (hm:MtR X id r) (hr:qiO X.K r3 r) (ho:E3 X o to) (ha:A3 X (e::es) t)
  (hbase:attributeBase o name X.env (eval o X.env)=eval o X.env:=by rfl)
  (hfew:((backTo cpos (starEach (e::es) X.env)).all (λx=>!x.1)&&(backToKw cpos (keywordEach [] X.env)).all (λx=>x.1.isSome)
   && decide ((e::es).length+([]:List Keyword).length+(if ([]:List Keyword).isEmpty then 0 else 1)<30))=true:=by rfl)
  (hline:(apos.endLine==cpos.line)=true:=by rfl) (hs:starEach (e::es) X.env=(false,eval e X.env)::starEach es X.env:=by rfl) (hplain:(backTo cpos (starEach es X.env)).any (·.1)=false:=by rfl) :
  E3 X (.Call (.Attribute o name apos) (e::es) [] cpos) (bm3 r3 to t):=
 XF (qmx PySem.F.plainAttrs_list slot hty hm ho ha hbase hfew hline hs hplain) λ_ _ _ ⟨τ,G,q,rl,h,af⟩=>zE rl h λx G1 h1 v H1 rx hr1 k1 rl1=>by
  obtain ⟨hp,h1⟩:=h1;cases x<;>try exact hp.elim
  case ref p=>
   cases rx;have hp':(getL G1 p).isSome=true:=hp;obtain ⟨ys,e⟩:=Option.isSome_iff_exists.mp hp';obtain ⟨us,hs,r2⟩:=jA hr1 e;exact ⟨.inl ⟨rfl,us,hs⟩,UH rl1 h1 λxs G2 h2 vs H2 rs hr2 k2 rl2=>hr _ xs _ vs G2 H2 q _ hr2 (.ref p) rs h2 (af.back (k1.trans k2))⟩
def qev {o:Expr} {to:TE3} {apos cpos:Pos} (ho:E3 X o to) (ha:A3 X [e] t)
  (hbase:attributeBase o "append" X.env (eval o X.env)=eval o X.env:=by rfl)
  (hfew:((backTo cpos (starEach [e] X.env)).all (λx=>!x.1)&&(backToKw cpos (keywordEach [] X.env)).all (λx=>x.1.isSome)
   && decide (([e]:List Expr).length+([]:List Keyword).length+(if ([]:List Keyword).isEmpty then 0 else 1)<30))=true:=by rfl)
  (hline:(apos.endLine==cpos.line)=true:=by rfl) (hs:starEach [e] X.env=(false,eval e X.env)::starEach [] X.env:=by rfl) (hplain:(backTo cpos (starEach [] X.env)).any (·.1)=false:=by rfl) :
  E3 X (.Call (.Attribute o "append" apos) [e] [] cpos) (bm3 KG to t):=qrG PySem.F.slot_list_append PySem.F.type_list_append CA qgR ho ha hbase hfew hline hs hplain
end
def tyT (G:Gp):T->Option String
 |.non=>some "NoneType" |.bl _=>some "bool" |.int _=>some "int" |.str _=>some "str" |.tup _=>some "tuple"
 |.ref p=>if (getL G p).isSome then some "list" else none
def jP (t c:String):Bool:=t==c||(t == "bool" && c == "int")
def T6 (K:Frg):∀ t∈["NoneType","bool","int","str","tuple","list"],∀ c∈["bool","int","str","tuple","list"],PySem.W.kitOne K (.type t) (.type c)=some (jP t c):=by
 intro t ht c hc;simp only [mem_cons,not_mem_nil,or_false] at ht hc;rcases ht with rfl|rfl|rfl|rfl|rfl|rfl<;>rcases hc with rfl|rfl|rfl|rfl|rfl<;>kernel_rfl
section
variable {X:Cx} {a b c e:Expr} {es:List Expr} {ta tb tc te:TE3} {t:TA3} {pos:Pos}
def TyS (K:Frg) (H:Hp) (x:V) (t:String):Prop:=match x with
 |.non=>t="NoneType" |.bl _=>t="bool" |.int _=>t="int" |.str _=>t="str"
 |.ref a=>(t="tuple"/\∃ vs,SqT K H a vs)\/(t="list"/\∃ vs,SqL K H a vs)
 |_=>False
def TyS.mem {K:Frg} {H:Hp} {x:V} {t:String} (h:TyS K H x t):t∈["NoneType","bool","int","str","tuple","list"]:=by
 cases x<;>simp [TyS] at h<;>first|(subst h;decide)|(rcases h with ⟨rfl,_⟩|⟨rfl,_⟩<;>decide)
def TyS.kitx {pins:List (Addr×Obj)} {σ:L2.St} {H:Hp} {s:Shared} {x:V} {u:Value} {t:String} (I:Inv X pins σ H s) (rx:ZP x u) (h:TyS X.K H x t) :
  ∃ HH:Heap->Prop,PySem.W.KitX X.K u (.type t) HH/\HH s.heap/\u≠.builtin "__main__.__loader__#opaque" := by
 cases x with
 |non=>cases (show u=Value.none from rx);cases (show t=_ from h);exact ⟨_,PySem.W.kitx_none,True.intro,λz=>nomatch z⟩
 |bl y=>cases (show u=Value.bool y from rx);cases (show t=_ from h);exact ⟨_,PySem.W.kitx_bool,True.intro,λz=>nomatch z⟩
 |int i=>obtain ⟨tk,q⟩:=(show ∃ t,u=Value.int i t from rx);cases q;cases (show t=_ from h);exact ⟨_,PySem.W.kitx_int,True.intro,λz=>nomatch z⟩
 |str y=>obtain ⟨tk,q⟩:=(show ∃ t,u=Value.str y t from rx);cases q;cases (show t=_ from h);exact ⟨_,PySem.W.kitx_str,True.intro,λz=>nomatch z⟩
 |ref a=>
  cases (show u=Value.ref a from rx);rcases (show (t="tuple"/\∃ vs,SqT X.K H a vs)\/(t="list"/\∃ vs,SqL X.K H a vs) from h) with ⟨rfl,vs,hs⟩|⟨rfl,vs,hs⟩
  ·obtain ⟨its,_,p,_⟩:=I.tuple hs;obtain ⟨o,h1,h2,_⟩:=p;exact ⟨_,PySem.W.kitx_tuple,⟨o,h1,h2⟩,λz=>nomatch z⟩
  ·obtain ⟨its,_,p,_⟩:=I.list hs;obtain ⟨o,n,h1,h2,_⟩:=p;exact ⟨_,PySem.W.kitx_list,⟨o,h1,h2⟩,λz=>nomatch z⟩
 |_=>exact False.elim h
abbrev JQ:List String:=["bool","int","str","tuple","list"]
def qd6:UE X (.builtin "isinstance") (λxs H Q=>∃ x t c,xs=[x,.ty c]/\TyS X.K H x t/\c∈JQ/\Q (.bl (jP t c)) H):=by
 intro pins s σ H xs us Q I r h;obtain ⟨x,t,c,rfl,ht,hc,q⟩:=h;obtain ⟨u,w,rfl,rx,rc⟩:=qdc r;cases (show w=Value.type c from rc);obtain ⟨HH,kx,hh,ne⟩:=ht.kitx I rx;exact PySem.W.kia_one kx I.kIn hh (T6 X.K t ht.mem c hc) ne λtk=>⟨.bl _,H,I.tok tk,rfl,q⟩
def qej (K:Frg) {t c d:String} (ht:t∈["NoneType","bool","int","str","tuple","list"]) (hc:c∈JQ) (hd:d∈JQ):PySem.W.kitAny K (.type t) [.type c,.type d]=some (jP t c||jP t d):=by
 unfold PySem.W.kitAny;rw [T6 K t ht c hc];cases jP t c with
 |true=>rfl
 |false=>
  show PySem.W.kitAny K (.type t) [.type d]=_;unfold PySem.W.kitAny;rw [T6 K t ht d hd];cases jP t d<;>rfl
def qb0:UE X (.builtin "isinstance") (λxs H Q=>∃ x t c d p,xs=[x,.ref p]/\H p=some (.tup [.ty c,.ty d])/\TyS X.K H x t/\c∈JQ/\d∈JQ/\Q (.bl (jP t c||jP t d)) H):=by
 intro pins s σ H xs us Q I r h;obtain ⟨x,t,c,d,p,rfl,hp,ht,hc,hd,q⟩:=h;obtain ⟨u,w,rfl,rx,rc⟩:=qdc r;cases (show w=Value.ref p from rc);obtain ⟨HH,kx,hh,ne⟩:=ht.kitx I rx;obtain ⟨_,its,rv,⟨o,ho,hcl,n,hda,_⟩⟩:=(show VX X.prog X.w H s.heap p (.tup [.ty c,.ty d]) from I.hok p _ hp)
 obtain ⟨u1,u2,rfl,r1,r2⟩:=qdc rv;cases (show u1=Value.type c from r1);cases (show u2=Value.type d from r2);obtain ⟨cl,dd,da,sl⟩:=o;cases (show cl=_ from hcl);cases (show da=_ from hda);exact PySem.W.kia_tup kx I.kIn hh ho (qej X.K ht.mem hc hd) ne λtk=>⟨.bl _,H,I.tok tk,rfl,q⟩
def qgB {K:Frg} {G:Gp} {H:Hp} (hr:HR K G H) {x:T} {v:V} {t:String} (r:Rp K H x v) (h:tyT G x=some t):TyS K H v t:=by
 cases r with
 |non=>cases h;rfl
 |bl _=>cases h;rfl
 |int _=>cases h;rfl
 |str _=>cases h;rfl
 |tup hs rs=>cases h;exact .inl ⟨rfl,_,hs⟩
 |ref a=>
  have h:(if (getL G a).isSome then some "list" else none)=some t:=h;split at h
  ·rename_i e;cases h;obtain ⟨ys,e⟩:=Option.isSome_iff_exists.mp e;obtain ⟨us,hs,_⟩:=jA hr e;exact .inr ⟨rfl,us,hs⟩
  ·cases h
def E9 (f:String->Bool) (te:TE3):TE3:=λτ G q=>te τ G λx G1=>match tyT G1 x with|some t=>q (.bl (f t)) G1|none=>False
def qo8 {tn:Str} {ty:String} {p p2:Pos} (he:E3 X e te) (hg:Gl X "isinstance") (hm:X.mg "isinstance" = none) (hg2:Gl X tn) (hm2:X.mg tn=none) (hv:bootBuiltins tn=some (.type ty)) (hmem:ty∈JQ:=by decide) (hn:tn≠"__name__" := by decide) (hdb:(tn==("__debug__" : Str))=false:=by decide)
  (hs:starEach [e,.Name tn p2] X.env=(false,eval e X.env)::starEach [.Name tn p2] X.env:=by rfl) (hs2:starEach [.Name tn p2] X.env=(false,eval (.Name tn p2) X.env)::starEach [] X.env:=by rfl) (hpl:(backTo pos (starEach [.Name tn p2] X.env)).any (·.1)=false:=by rfl) :
  E3 X (.Call (.Name "isinstance" p) [e,.Name tn p2] [] pos) (E9 (λt=>jP t ty) te):=
 XF (S7 qd6 hg hm PyProof.Rows.boot_isinstance (EB he (EB (NL (v:=.ty ty) hg2 hm2 hv rfl hn hdb) NS hs2) hs) (by decide) (by decide) hs hpl)
  λ_ _ _ ⟨τ,G,q,rl,h,af⟩=>zE rl h λx G1 h1 v H1 rx hr1 k1 rl1=>by
   split at h1
   ·rename_i t e1;exact ⟨_,t,ty,rfl,qgB hr1 rx e1,hmem,af _ G1 h1 _ H1 (.bl _) hr1 k1⟩
   ·exact h1.elim
def qmy {tn tn':Str} {ty ty':String} {p p2 p3 p4:Pos} {x1} (he:E3 X e te) (hg:Gl X "isinstance") (hm:X.mg "isinstance" = none) (hg2:Gl X tn) (hm2:X.mg tn=none) (hv:bootBuiltins tn=some (.type ty)) (hg3:Gl X tn') (hm3:X.mg tn'=none) (hv3:bootBuiltins tn'=some (.type ty'))
  (hmem:ty∈JQ:=by decide) (hn:tn≠"__name__" := by decide) (hdb:(tn==("__debug__" : Str))=false:=by decide) (hmem3:ty'∈JQ:=by decide) (hn3:tn'≠"__name__" := by decide) (hdb3:(tn'==("__debug__" : Str))=false:=by decide)
  (hs:starEach [e,.Tuple [.Name tn p2,.Name tn' p3] x1 p4] X.env=(false,eval e X.env)::starEach [.Tuple [.Name tn p2,.Name tn' p3] x1 p4] X.env:=by rfl) (hs2:starEach [.Tuple [.Name tn p2,.Name tn' p3] x1 p4] X.env=(false,eval (.Tuple [.Name tn p2,.Name tn' p3] x1 p4) X.env)::starEach [] X.env:=by rfl)
  (hs3:starEach [.Name tn p2,.Name tn' p3] X.env=(false,eval (.Name tn p2) X.env)::starEach [.Name tn' p3] X.env:=by rfl) (hs4:starEach [.Name tn' p3] X.env=(false,eval (.Name tn' p3) X.env)::starEach [] X.env:=by rfl)
  (hpl:(backTo pos (starEach [.Tuple [.Name tn p2,.Name tn' p3] x1 p4] X.env)).any (·.1)=false:=by rfl) :
  E3 X (.Call (.Name "isinstance" p) [e,.Tuple [.Name tn p2,.Name tn' p3] x1 p4] [] pos) (E9 (λt=>jP t ty||jP t ty') te):=
 XF (S7 qb0 hg hm PyProof.Rows.boot_isinstance (EB he (EB (qgL (EB (NL (v:=.ty ty) hg2 hm2 hv rfl hn hdb) (EB (NL (v:=.ty ty') hg3 hm3 hv3 rfl hn3 hdb3) NS hs4) hs3)) NS hs2) hs) (by decide) (by decide) hs hpl)
  λ_ _ _ ⟨τ,G,q,rl,h,af⟩=>zE rl h λx G1 h1 v H1 rx hr1 k1 rl1=>by
   refine ⟨by show 2<=sizeLine;decide,λpp hp=>?_⟩;split at h1
   ·rename_i t e1;have hr2:=hr1.laid (ho:=.tup [.ty ty,.ty ty']) hp;have kk:Kp G1 H1 G1 (upd H1 pp (.tup [.ty ty,.ty ty'])):=Kp.laid hp;exact ⟨_,t,ty,ty',pp,rfl,zA,qgB hr2 (rx.keep hr1 kk) e1,hmem,hmem3,af _ G1 h1 _ _ (.bl _) hr2 (k1.trans kk)⟩
   ·exact h1.elim
structure Ends3 where
 nx:St3->Gp->Prop
 rt:Q3
 bk:St3->Gp->Prop:=λ_ _=>False
 ct:St3->Gp->Prop:=λ_ _=>False
abbrev TS3:=Ends3->St3->Gp->Prop
def qfb (K:Frg) (G:Gp) (H:Hp) (q:St3->Gp->Prop) (Q:L2.St->Hp->Prop):Prop:=∀ τ G',q τ G'->∀ σ H',Rel K τ G' σ H'->Kp G H G' H'->Q σ H'
structure AftD (K:Frg) (G:Gp) (H:Hp) (d:Ends3) (D:Ends):Prop where
 nx:qfb K G H d.nx D.nx
 rt:Aft K G H d.rt D.rt
 bk:qfb K G H d.bk D.bk
 ct:qfb K G H d.ct D.ct
def qfb.back {K:Frg} {G G1:Gp} {H H1:Hp} {q:St3->Gp->Prop} {Q:L2.St->Hp->Prop} (a:qfb K G H q Q) (k:Kp G H G1 H1):qfb K G1 H1 q Q:=λx G' h v H' r k'=>a x G' h v H' r (k.trans k')
def AftD.back {K:Frg} {G G1:Gp} {H H1:Hp} {d:Ends3} {D:Ends} (a:AftD K G H d D) (k:Kp G H G1 H1):AftD K G1 H1 d D:=⟨a.nx.back k,a.rt.back k,a.bk.back k,a.ct.back k⟩
def lS (K:Frg) (t:TS3):TS:=λD σ H=>∃ τ G d,Rel K τ G σ H/\t d τ G/\AftD K G H d D
abbrev S3 (X:Cx) (st:Stmt) (t:TS3):Prop:=PS X st (lS X.K t)
abbrev B3 (X:Cx) (st:List Stmt) (t:TS3):Prop:=PSs X st (lS X.K t)
def qcq {X:Cx} {st:Stmt} {t t':TS} (h:PS X st t) (w:∀ D σ H,t' D σ H->t D σ H):PS X st t':=λpins s σ H D I q=>h pins s σ H D I (w D σ H q)
def qi1 {X:Cx} {st:List Stmt} {t t':TS} (h:PSs X st t) (w:∀ D σ H,t' D σ H->t D σ H):PSs X st t':=λpins s σ H D I q=>h pins s σ H D I (w D σ H q)
variable {st:Stmt} {U3:List Stmt} {t1 t2:TS3} {tA:TT3}
def qH:TS3:=λd τ G=>d.nx τ G
def qK (t u:TS3):TS3:=λd τ G=>t { d with nx:=u d } τ G
def qoQ:B3 X [] qH:=qi1 qir λ_ σ H ⟨τ,G,d,rl,h,af⟩=>af.nx τ G h σ H rl Kp.refl
def qle (h1:S3 X st t1) (h2:B3 X U3 t2):B3 X (st::U3) (qK t1 t2):=qi1 (qdU h1 h2) λD σ H ⟨τ,G,d,rl,h,af⟩=>
 ⟨τ,G,{ d with nx:=t2 d },rl,h,⟨λτ' G' h' σ' H' rl' k'=>⟨τ',G',d,rl',h',af.back k'⟩,af.rt,af.bk,af.ct⟩⟩
def qoD (h1:S3 X st t1):B3 X [st] t1:=qhz h1
def UZ (te:TE3):TS3:=λd τ G=>te τ G λ_ G1=>d.nx τ G1
def qkg (he:E3 X e te) (hs:swapsWith e none pos.line X.env=pure false:=by rfl):S3 X (.Expr e pos) (UZ te):=qcq (qik he hs) λ_ σ H ⟨τ,G,d,rl,h,af⟩=>
 zE rl h λx G1 h1 v H1 rx hr1 k1 rl1=>af.nx τ G1 h1 σ H1 rl1 k1
def qZ (te:TE3):TS3:=λd τ G=>te τ G d.rt
def qpM (he:E3 X e te):S3 X (.Return (some e) pos) (qZ te):=qcq (qmA he) λ_ σ H ⟨τ,G,d,rl,h,af⟩=>⟨τ,G,d.rt,rl,h,af.rt⟩
def qbu:TS3:=λd _ G=>d.rt .non G
def zM (c:TT3) (t u:TS3):TS3:=λd τ G=>c τ G λk G1=>if k=true then t d τ G1 else u d τ G1
def qrI {c:Expr} {ba bb:List Stmt} (hc:C3 X c tA) (ha:B3 X ba t1) (hb:B3 X bb t2):S3 X (.If c ba bb pos) (zM tA t1 t2):=qcq (qoX hc ha hb) λ_ σ H ⟨τ,G,d,rl,h,af⟩=>
 L9 rl h λk G1 h1 H1 hr1 k1 rl1=>by
  cases k with
  |true=>rw [if_pos rfl] at h1 ⊢;exact ⟨τ,G1,d,rl1,h1,af.back k1⟩
  |false=>rw [if_neg Bool.false_ne_true] at h1 ⊢;exact ⟨τ,G1,d,rl1,h1,af.back k1⟩
def MH:TS3:=λ_ _ _=>False
def qic {sts:List Stmt}:B3 X sts MH:=λ_ _ _ _ _ _ ⟨_,_,_,_,h,_⟩=>h.elim
abbrev TG3:=T->St3->Gp->(St3->Gp->Prop)->Prop
abbrev C1:=List T->St3->Gp->(St3->Gp->Prop)->Prop
def lG (K:Frg) (t:TG3):TG:=λv σ H Q=>∃ x τ G q,Rp K H x v/\Rel K τ G σ H/\t x τ G q/\qfb K G H q Q
def lGs (K:Frg) (t:C1):TGs:=λv σ H Q=>∃ x τ G q,Rps K H x v/\Rel K τ G σ H/\t x τ G q/\qfb K G H q Q
abbrev G3 (X:Cx) (e:Expr) (t:TG3):Prop:=PG X e (lG X.K t)
abbrev Gs3 (X:Cx) (es:List Expr) (t:C1):Prop:=PGs X es (lGs X.K t)
def qlL {X:Cx} {e:Expr} {t t':TG} (h:PG X e t) (w:∀ v σ H Q,t' v σ H Q->t v σ H Q):PG X e t':=λpins s σ H v u Q I r q=>h pins s σ H v u Q I r (w v σ H Q q)
def qkw {X:Cx} {e:List Expr} {t t':TGs} (h:PGs X e t) (w:∀ v σ H Q,t' v σ H Q->t v σ H Q):PGs X e t':=λpins s σ H v u Q I r q=>h pins s σ H v u Q I r (w v σ H Q q)
def gn3 (i:Nat):TG3:=λx τ G q=>q (τ.set i (some x)) G
def qjo {i:Nat} {x:Str} (hN:X.N.Nodup) (hi:X.N[i]?=some x:=by rfl) (hx:Loc X.env.scope x:=by first|exact Or.inl rfl|exact Or.inr rfl) (hf:X.fn x=true\/X.env.scope.names.lookup x=some .local:=by first|exact .inl rfl|exact .inr rfl):G3 X (.Name x pos) (gn3 i):=
 qlL (qia hN hi hx hf) λv σ H Q ⟨x,τ,G,q,rx,rl,h,af⟩=>af _ G h _ H (rl.set i rx) Kp.refl
def QC:C1:=λxs τ G q=>match xs with|[]=>q τ G|_=>False
def qG (t:TG3) (u:C1):C1:=λxs τ G q=>match xs with|x::r=>t x τ G λτ' G'=>u r τ' G' q|[]=>False
def qoB:Gs3 X [] QC:=qkw qig λv σ H Q ⟨x,τ,G,q,rx,rl,h,af⟩=>by
 cases rx with
 |nil=>exact ⟨rfl,af _ G h _ H rl Kp.refl⟩
 |cons _ _=>exact h.elim
def qnx {tg:TG3} {tgs:C1} (h1:G3 X e tg) (h2:Gs3 X es tgs) (hs:(assignEach (e::es) X.env).map (·.2)=assign e X.env::(assignEach es X.env).map (·.2):=by rfl):Gs3 X (e::es) (qG tg tgs):=qkw (qei h1 h2 hs) λv σ H Q ⟨x,τ,G,q,rx,rl,h,af⟩=>by
 cases rx with
 |nil=>exact h.elim
 |cons r rs=>exact ⟨_,_,rfl,_,τ,G,_,r,rl,h,λτ' G' h' σ' H' rl' k'=>⟨_,τ',G',q,rs.keep rl.hp k',rl',h',af.back k'⟩⟩
def ZI (n:Nat) (t:C1):TG3:=λx τ G q=>match x with|.tup xs=>xs.length=n/\t xs τ G q|_=>False
def qpf {k:Nat} {tgs:C1} {n:Nat} (hc:X.calm=true) (h:Gs3 X es tgs) (hn:(assignEach es X.env).length=n:=by rfl) (hst:(assignEach es X.env).findIdx? (·.1)=none:=by rfl):G3 X (.Tuple es k pos) (ZI n tgs):=
 qlL (qjq hc h hn hst) λv σ H Q ⟨x,τ,G,q,rx,rl,h,af⟩=>by
  cases x<;>try exact h.elim
  case tup xs=>
   cases rx with
   |tup hs rs=>exact ⟨_,_,rfl,hs,by rw [← rs.length];exact h.1,_,τ,G,q,rs,rl,h.2,af⟩
def qbb:T->T->T->Gp->(Gp->Prop)->Prop:=λo i v G q=>match o,i with
 |.ref p,.int k=>(match G p with|some (.lst xs)=>(match ixN xs.length k with|some j=>q (gu G p (.lst (xs.set j v)))|none=>False)|_=>False)
 |_,_=>False
def DO (to ti:TE3):TG3:=λx τ G q=>to τ G λo G1=>ti τ G1 λi G2=>qbb o i x G2 λG3=>q τ G3
def qo2 {o i : Expr} {to ti : TE3} (ho : E3 X o to) (hi : E3 X i ti) (ha : ∀ v,assign (.Subscript o i pos) X.env v = (do
      let ov←holding [v] (eval o X.env)
      let iv←holding [v,ov] (eval i X.env)
      standAt pos
      holding [v,ov,iv] (setItem ov iv v)
      release [v,ov,iv] []):=by intro _;rfl):G3 X (.Subscript o i pos) (DO to ti):=
  qlL (qne ho hi qeq ha) λv σ H Q ⟨x,τ,G,q,rx,rl,h,af⟩=>zE rl h λy G1 h1 u H1 ry hr1 k1 rl1=>zE rl1 h1 λz G2 h2 w H2 rz hr2 k2 rl2=>by
    have rx2:=(rx.keep rl.hp k1).keep hr1 k2;have ry2:=ry.keep hr1 k2;unfold qbb at h2;split at h2
    · rename_i p k;split at h2
      · rename_i xs e;split at h2
        · rename_i j ej;cases ry2;cases rz;obtain ⟨vs,g1,r1⟩:=hr2.lst e;have kk:Kp G2 H2 (gu G2 p (.lst (xs.set j x))) (upd H2 p (.lst (vs.set j v))):=Kp.wr e;exact ⟨p,vs,k,j,rfl,rfl,g1,by rw [← r1.length];exact ej,af τ _ h2 σ _ (rl2.next (hr2.wr e (r1.set rx2 j)) kk) ((k1.trans k2).trans kk)⟩
        · exact h2.elim
      · exact h2.elim
    · exact h2.elim
def zg (te:TE3) (g:TG3):TS3:=λd τ G=>te τ G λx G1=>g x τ G1 d.nx
def qoi {tg e:Expr} {g:TG3} (he:E3 X e te) (hg:G3 X tg g) (hs:swapsWithSole [tg] e pos.line X.env=pure false:=by rfl) (hw:swappedStores [tg] e X.env=pure none:=by rfl)
  (h1:(assignEach [tg] X.env).map (·.2)=[assign tg X.env]:=by rfl):S3 X (.Assign [tg] e pos) (zg te g):=qcq (qjs he hg hs hw h1) λ_ σ H ⟨τ,G,d,rl,h,af⟩=>
 zE rl h λx G1 h1 v H1 rx hr1 k1 rl1=>⟨x,τ,G1,d.nx,rx,rl1,h1,af.nx.back k1⟩
def qps (i:Nat) {x:Str} {e:Expr} {pos':Pos} (hN:X.N.Nodup) (he:E3 X e te) (hi:X.N[i]?=some x:=by rfl) (hx:Loc X.env.scope x:=by first|exact Or.inl rfl|exact Or.inr rfl) (hs:swapsWith e (some (.Name x pos')) pos.line X.env=pure false:=by rfl) (hf:X.fn x=true\/X.env.scope.names.lookup x=some .local:=by first|exact .inl rfl|exact .inr rfl) :
  S3 X (.Assign [.Name x pos'] e pos) (zg te (gn3 i)):=qcq (qjO hN hi hx he hs hf) λ_ σ H ⟨τ,G,d,rl,h,af⟩=>
 zE rl h λx G1 h1 v H1 rx hr1 k1 rl1=>af.nx _ G1 h1 _ H1 (rl1.set i rx) k1
def R9 (i j:Nat) (ta:TA3):TS3:=λd τ G=>ta τ G λxs G1=>match xs with|[x,y]=>d.nx ((τ.set i (some x)).set j (some y)) G1|_=>False
def qoU {i j:Nat} {x y:Str} {a b:Expr} {tt:TA3} {px py pt:Pos} {kt k2 pt2} (hc:X.calm=true) (hN:X.N.Nodup) (hi:X.N[i]?=some x) (hj:X.N[j]?=some y) (hij:i≠j)
  (hx:X.env.scope.names.lookup x=some .local) (hy:X.env.scope.names.lookup y=some .local) (ha:A3 X [a,b] tt)
  (hw:swappedStores [.Tuple [.Name x px,.Name y py] kt pt] (.Tuple [a,b] k2 pt2) X.env=pure (some [x,y]):=by rfl)
  (hs:swapsWithSole [.Tuple [.Name x px,.Name y py] kt pt] (.Tuple [a,b] k2 pt2) pos.line X.env=pure false:=by rfl) :
  S3 X (.Assign [.Tuple [.Name x px,.Name y py] kt pt] (.Tuple [a,b] k2 pt2) pos) (R9 i j tt):=qcq (qlg hc hN hi hj hij hx hy ha hw hs) λ_ σ H ⟨τ,G,d,rl,h,af⟩=>
 UH rl h λxs G1 h1 vs H1 rs hr1 k1 rl1=>by
  split at h1
  ·obtain ⟨v,u,rfl,r,r'⟩:=qoh rs;exact ⟨v,u,rfl,af.nx _ G1 h1 _ H1 ((rl1.set i r).set j r') k1⟩
  ·exact h1.elim
end
abbrev TI3:=St3->Gp->(List T->(Gp->Prop)->Gp->Prop)->Prop
def qiE (K:Frg) (J:It) (items:List T) (stay:Gp->Prop) (G0:Gp) (H0:Hp):Prop:=∀ G H,HR K G H->Kp G0 H0 G H->stay G ->
 (∀ i x,items[i]?=some x->J.go i H)/\(∀ i x v H',items[i]?=some x->J.yld i H v H'->Rp K H' x v/\HR K G H'/\Kp G H G H')/\J.stop items.length H
def lI (K:Frg) (wi:TI3):TI:=λσ H R=>∃ τ G r,Rel K τ G σ H/\wi τ G r/\∀ items stay G',r items stay G'->∀ J H',HR K G' H'->Kp G H G' H'->qiE K J items stay G' H'->R J H'
abbrev I3 (X:Cx) (tg iter:Expr) (wi:TI3):Prop:=PI X tg iter (lI X.K wi)
def qkH {X:Cx} {tg e:Expr} {t t':TI} (h:PI X tg e t) (w:∀ σ H R,t' σ H R->t σ H R):PI X tg e t':=λpins s σ H R I q=>h pins s σ H R I (w σ H R q)
section
variable {X:Cx} {a b c e l tg:Expr} {es:List Expr} {ta tb tc te:TE3} {t:TA3} {pos:Pos}
def qjg {tl:TE} (hl:PE X l tl):PI X tg l (λσ H R=>tl σ H λx H1=>∃ a,x=.ref a/\(((∃ xs,SqL X.K H1 a xs)/\R (Itl X.K a) H1)\/((∃ xs,SqT X.K H1 a xs)/\R (Itt X.K a) H1))):=by
 intro pins s σ H R I h;refine thn (hl pins s σ H _ I h) λv s1 ⟨x,H1,I1,r1,q1⟩=>?_;obtain ⟨a,e,⟨⟨xs,hq⟩,q⟩|⟨⟨xs,hq⟩,q⟩⟩:=q1
 ·subst e;cases r1;obtain ⟨its,rv,p,hz⟩:=I1.list hq;refine wpAny_pyIter_list p.isList ?_;refine ⟨s1.heap.objs.size,[s1.heap.objs.size],_,_,H1,rfl,I1.kept (t':=s1.toks) λb o e=>Heap.get?_push_of_some _ e,qbQ a _,⟨_,Heap.get?_push_size _ rfl,rfl,rfl⟩,λb hb=>?_,q⟩;have e:b=s1.heap.objs.size:=by simpa using hb
  subst e;exact I1.fpOk (Nat.le_refl _) (I1.hok.fresh (Nat.le_refl _))
 ·subst e;cases r1;obtain ⟨its,rv,p,hz⟩:=I1.tuple hq;refine wpAny_pyIter_tuple (show s1.heap.IsTuple a its.toArray from p) ?_;refine ⟨s1.heap.objs.size,[s1.heap.objs.size],_,_,H1,rfl,I1.kept (t':=s1.toks) λb o e=>Heap.get?_push_of_some _ e,qaA a _,⟨_,Heap.get?_push_size _ rfl,rfl,rfl⟩,λb hb=>?_,q⟩;have e:b=s1.heap.objs.size:=by simpa using hb
  subst e;exact I1.fpOk (Nat.le_refl _) (I1.hok.fresh (Nat.le_refl _))
def ZR (tl:TE3):TI3:=λτ G r=>tl τ G λx G1=>match x with
 |.tup xs=>r xs (λ_=>True) G1
 |.ref p=>(match getL G1 p with|some xs=>r xs (λG=>getL G p=some xs) G1|none=>False)
 |_=>False
def qml {K:Frg} {p:Addr} {xs:List T} {G0:Gp} {H0:Hp}:qiE K (Itl K p) xs (λG=>getL G p=some xs) G0 H0:=by
 intro G H hr _ hs;obtain ⟨vs,sq,rs⟩:=jA hr hs;refine ⟨λi x hi=>?_,λi x v H' hi y=>?_,⟨vs,sq,by rw [rs.length];exact Nat.le_refl _⟩⟩
 ·obtain ⟨v,hv,_⟩:=rs.get hi;exact ⟨vs,v,sq,hv⟩
 ·obtain ⟨e,y⟩:=y;subst e;obtain ⟨w,hw,rw'⟩:=rs.get hi;have e2:=(y vs sq).symm.trans hw;cases e2;exact ⟨rw',hr,Kp.refl⟩
def qkq {K:Frg} {p:Addr} {xs:List T} {vs:List V} {G0:Gp} {H0:Hp} (hr0:HR K G0 H0) (sq0:SqT K H0 p vs) (rs0:Rps K H0 xs vs):qiE K (Itt K p) xs (λ_=>True) G0 H0:=by
 intro G H hr k _;have sq:=TQ hr0 k sq0;have rs:=rs0.keep hr0 k;refine ⟨λi x hi=>?_,λi x v H' hi y=>?_,⟨vs,sq,by rw [rs.length];exact Nat.le_refl _⟩⟩
 ·obtain ⟨v,hv,_⟩:=rs.get hi;exact ⟨vs,v,sq,hv⟩
 ·obtain ⟨e,y⟩:=y;subst e;obtain ⟨w,hw,rw'⟩:=rs.get hi;have e2:=(y vs sq).symm.trans hw;cases e2;exact ⟨rw',hr,Kp.refl⟩
def qo9 (hl:E3 X l te):I3 X tg l (ZR te):=qkH (qjg hl) λσ H R ⟨τ,G,r,rl,h,af⟩=>zE rl h λx G1 h1 v H1 rx hr1 k1 rl1=>by
 cases x<;>try exact h1.elim
 case tup xs=>
  cases rx with
  |tup hs rs=>exact ⟨_,rfl,.inr ⟨⟨_,hs⟩,af _ _ G1 h1 _ H1 hr1 k1 (qkq hr1 hs rs)⟩⟩
 case ref p=>
  simp only at h1;split at h1
  ·rename_i xs e0;cases rx;obtain ⟨vs,hs,rs⟩:=jA hr1 e0;exact ⟨_,rfl,.inl ⟨⟨_,hs⟩,af _ _ G1 h1 _ H1 hr1 k1 qml⟩⟩
  ·exact h1.elim
def N5 (lo:Int) (n:Nat):List T:=(List.range n).map λ(i:Nat)=>T.int (lo+(i:Int))
def qmt {K:Frg} {lo:Int} {n:Nat} {G0:Gp} {H0:Hp}:qiE K (Itr lo n) (N5 lo n) (λ_=>True) G0 H0:=by
 intro G H hr k _;have hl:(N5 lo n).length=n:=by simp [N5]
 refine ⟨λi x hi=>?_,λi x v H' hi y=>?_,(show n<=(N5 lo n).length by rw [hl];exact Nat.le_refl n)⟩
 ·have:=(List.getElem?_eq_some_iff.mp hi).1;rw [hl] at this;exact this
 ·obtain ⟨e,y⟩:=y;subst e;subst y;have h1:=(List.getElem?_eq_some_iff.mp hi).1;rw [hl] at h1;unfold N5 at hi;rw [getElem?_map,List.getElem?_range h1] at hi;have e:T.int (lo+(i:Int))=x:=by simpa using hi
  subst e;exact ⟨.int _,hr,Kp.refl⟩
def QR (ta:TA3):TI3:=λτ G r=>ta τ G λxs G1=>match xs with
 |[.int j]=>(-(2 ^ 62)<=j/\j<2 ^ 62)/\r (N5 0 j.toNat) (λ_=>True) G1
 |[.int i,.int j]=>(-(2 ^ 62)<=i/\i<2 ^ 62/\-(2 ^ 62)<=j/\j<2 ^ 62)/\r (N5 i (j-i).toNat) (λ_=>True) G1
 |_=>False
def qdB {p:Pos} (hg:Gl X "range") (hm:X.mg "range" = none) (ha:A3 X [a] t) (hs:starEach [a] X.env=[(false,eval a X.env)]:=by rfl) (h1:∀ τ G q,t τ G q->t τ G λxs G=>q xs G/\xs.length=1):I3 X tg (.Call (.Name "range" p) [a] [] pos) (QR t):=
 qkH (qbs hg hm ha hs) λσ H R ⟨τ,G,r,rl,h,af⟩=>UH rl (h1 _ _ _ h) λxs G1 h1 vs H1 rs hr1 k1 rl1=>by
  obtain ⟨h1,hl⟩:=h1;simp only at h1;split at h1
  ·obtain ⟨v,rfl,r1⟩:=LF rs;cases r1;exact ⟨_,rfl,h1.1.1,h1.1.2,af _ _ G1 h1.2 _ H1 hr1 k1 qmt⟩
  ·simp at hl
  ·exact h1.elim
def SV (stay:Gp->Prop) (g:TG3) (tb:TS3) (d:Ends3):List T->St3->Gp->Prop
 |[],τ,G=>stay G/\d.nx τ G
 |x::r,τ,G=>stay G/\g x τ G λτ2 G2=>tb { d with nx:=SV stay g tb d r,ct:=SV stay g tb d r,bk:=d.nx } τ2 G2
def RQ (wi:TI3) (g:TG3) (tb:TS3):TS3:=λd τ G=>wi τ G λitems stay G1=>SV stay g tb d items τ G1
def qqh {iter:Expr} {body:List Stmt} {wi:TI3} {g:TG3} {tb:TS3} (hp:PassesOwn (model X.prog X.w) X.A X.env X.xe) (hc:X.calm=true) (hi:I3 X tg iter wi) (hg:G3 X tg g) (hb:B3 X body tb)
  (hs:∀ x,foldedSetIterable iter X.env x=pure x:=by intro _;rfl):S3 X (.For tg iter body [] pos) (RQ wi g tb):=
 qcq (qnc hp hc hi hg hb hs) λD σ H ⟨τ,G,d,rl,h,af⟩=>by
  refine ⟨τ,G,_,rl,h,λitems stay G1 h1 J H1 hr1 k1 ok=>?_⟩;refine ⟨λi m σ' H'=>m=items.length-i/\i<=items.length/\∃ τ' G',Rel X.K τ' G' σ' H'/\Kp G1 H1 G' H'/\SV stay g tb d (items.drop i) τ' G',⟨_,rfl,Nat.zero_le _,τ,G1,rl.next hr1 k1,Kp.refl,by simpa using h1⟩,?_⟩;rintro i m σ' H' ⟨rfl,hi,τ',G',rl',k',h'⟩;by_cases hlt:i<items.length
  ·rw [List.drop_eq_getElem_cons hlt] at h';obtain ⟨hst,h'⟩:=h';obtain ⟨go,yld,_⟩:=ok G' H' rl'.hp k' hst;have hx:items[i]?=some items[i]:=getElem?_eq_getElem hlt;refine .inr ⟨go i _ hx,λσ2 H2=>∃ τ2 G2,Rel X.K τ2 G2 σ2 H2/\Kp G1 H1 G2 H2/\SV stay g tb d (items.drop (i+1)) τ2 G2,λσ2 H2 h2=>⟨_,by omega,rfl,hlt,h2⟩,λv H2 y=>?_⟩;obtain ⟨rv,hr2,k2⟩:=yld i _ v H2 hx y;have k3:Kp G1 H1 G' H2:=k'.trans k2;refine ⟨_,τ',G',_,rv,rl'.next hr2 k2,h',λτ3 G3 h3 σ3 H3 rl3 k4=>?_⟩;have k5:Kp G H G3 H3:=(k1.trans k3).trans k4;refine ⟨τ3,G3,_,rl3,h3,⟨λτ4 G4 h4 σ4 H4 rl4 k6=>⟨τ4,G4,rl4,(k3.trans k4).trans k6,h4⟩,af.rt.back k5,af.nx.back k5,λτ4 G4 h4 σ4 H4 rl4 k6=>⟨τ4,G4,rl4,(k3.trans k4).trans k6,h4⟩⟩⟩
  ·have e:i=items.length:=by omega
   subst e;rw [List.drop_length] at h';obtain ⟨_,_,stop⟩:=ok G' H' rl'.hp k' h'.1;exact .inl ⟨stop,af.nx τ' G' h'.2 σ' H' rl' (k1.trans k')⟩
def DW {stay:Gp->Prop} {g:TG3} {tb:TS3} {d:Ends3} (items:List T) (Pv:Nat->St3->Gp->Prop) {τ:St3} {G:Gp} (h0:Pv 0 τ G) (hst:∀ i τ G,i<=items.length->Pv i τ G->stay G)
  (hs:∀ i x τ G (nx:St3->Gp->Prop),items[i]?=some x->Pv i τ G->(∀ τ G,Pv (i+1) τ G->nx τ G)->g x τ G λτ2 G2=>tb { d with nx:=nx,ct:=nx,bk:=d.nx } τ2 G2)
  (hd:∀ τ G,Pv items.length τ G->d.nx τ G):SV stay g tb d items τ G:=by
 have key:∀ (r:List T) (i:Nat) τ G,items.drop i=r->i<=items.length->Pv i τ G->SV stay g tb d r τ G:=by
  intro r;induction r with
  |nil=>
   intro i τ G e hi p;have:i=items.length:=by have:=congrArg List.length e;simp at this;omega
   subst this;exact ⟨hst _ τ G hi p,hd τ G p⟩
  |cons x r ih=>
   intro i τ G e hi p;have hl:i<items.length:=by
    apply Classical.byContradiction;intro z;rw [List.drop_eq_nil_of_le (by omega)] at e;cases e
   have e':=List.drop_eq_getElem_cons hl;rw [e] at e';injection e' with e1 e2;refine ⟨hst i τ G hi p,hs i x τ G _ (by rw [getElem?_eq_getElem hl,e1]) p λτ2 G2 p2=>ih (i+1) τ2 G2 e2.symm hl p2⟩
 exact key items 0 τ G (by simp) (Nat.zero_le _) h0
def R6 (c:TT3) (tb:TS3):TS3:=λd τ G=>∃ W:Nat->St3->Gp->Prop,(∃ m,W m τ G)/\∀ m τ G,W m τ G ->
 c τ G λb G1=>if b=true then ∃ N:St3->Gp->Prop,(∀ τ' G',N τ' G'->∃ m',m'<m/\W m' τ' G')/\tb { d with nx:=N,ct:=N,bk:=d.nx } τ G1 else d.nx τ G1
def qhn {c:Expr} {body:List Stmt} {tc:TT3} {tb:TS3} (hp:PassesOwn (model X.prog X.w) X.A X.env X.xe) (hc:C3 X c tc) (hb:B3 X body tb):S3 X (.While c body [] pos) (R6 tc tb):=
 qcq (qdG hp hc hb) λD σ H ⟨τ,G,d,rl,⟨W,⟨m0,w0⟩,turn⟩,af⟩=>by
  refine ⟨λm σ' H'=>∃ τ' G',Rel X.K τ' G' σ' H'/\Kp G H G' H'/\W m τ' G',⟨m0,τ,G,rl,Kp.refl,w0⟩,?_⟩;rintro m σ' H' ⟨τ',G',rl',k',w'⟩;refine L9 rl' (turn m τ' G' w') λb G1 h1 H1 hr1 k1 rl1=>?_;cases b with
  |true=>
   rw [if_pos rfl] at h1 ⊢;obtain ⟨N,hN,h1⟩:=h1;refine ⟨λσ2 H2=>∃ τ2 G2,Rel X.K τ2 G2 σ2 H2/\Kp G H G2 H2/\N τ2 G2,λσ2 H2 ⟨τ2,G2,r2,k2,n2⟩=>?_,τ',G1,_,rl1,h1,⟨λτ2 G2 h2 σ2 H2 r2 k2=>⟨τ2,G2,r2,(k'.trans k1).trans k2,h2⟩,af.rt.back (k'.trans k1),af.nx.back (k'.trans k1),λτ2 G2 h2 σ2 H2 r2 k2=>⟨τ2,G2,r2,(k'.trans k1).trans k2,h2⟩⟩⟩;obtain ⟨m',hm,w2⟩:=hN τ2 G2 n2;exact ⟨m',hm,τ2,G2,r2,k2,w2⟩
  |false=>
   rw [if_neg Bool.false_ne_true] at h1 ⊢;exact af.nx τ' G1 h1 σ' H1 rl1 (k'.trans k1)
abbrev Sp3:=List T->Gp->Q3->Prop
def lSp (K:Frg) (sp:Sp3):Sp:=λvs H Q _=>∃ ts G q,HR K G H/\Rps K H ts vs/\sp ts G q/\Aft K G H q Q
def Fn3 (P:Program) (w:World) (K:Frg) (mg:Str->Option Value) (base:Heap) (k:Nat) (x:Str) (sp:Sp3):Prop:=
 ∃ f fd ps,FnOk P w K mg base CX0 k f fd ps (lSp K sp)/\zt K fd ps []/\PySem.W.keepIn K (.ref f)=true/\mg x=some (.ref f)
def Fn3.mono {P:Program} {w:World} {K:Frg} {mg:Str->Option Value} {base:Heap} {j k:Nat} {x:Str} {sp:Sp3} (F:Fn3 P w K mg base j x sp) (h:j<=k):Fn3 P w K mg base k x sp:=
 let ⟨f,fd,ps,a,b,c,d⟩:=F;⟨f,fd,ps,a.mono h,b,c,d⟩
def Fn3.imp {P:Program} {w:World} {K:Frg} {mg:Str->Option Value} {base:Heap} {k:Nat} {x:Str} {sp sp':Sp3} (F:Fn3 P w K mg base k x sp) (h:∀ ts G q,sp' ts G q->sp ts G q):Fn3 P w K mg base k x sp':=
 let ⟨f,fd,ps,a,b,c,d⟩:=F;⟨f,fd,ps,a.imp λvs H Q E ⟨ts,G,q,h1,h2,h3,h4⟩=>⟨ts,G,q,h1,h2,h _ _ _ h3,h4⟩,b,c,d⟩
def ql9 {k:Nat} {x:Str} {p:Pos} {sp:Sp3} (F:Fn3 X.prog X.w X.K X.mg X.base k x sp) (hr:Room k X.A) (hg:Gl X x) (ha:A3 X (e::es) t) (hdb:(x==("__debug__" : Str))=false:=by decide)
  (he:starEach (e::es) X.env=(false,eval e X.env)::starEach es X.env:=by rfl) (hpl:(backTo pos (starEach es X.env)).any (·.1)=false:=by rfl):E3 X (.Call (.Name x p) (e::es) [] pos) (cb3 sp t):=by
 obtain ⟨f,fd,ps,F,b,kp,m⟩:=F;refine XF (qit F hr hg m kp b .nil qpd ha hdb he hpl) λσ H Q ⟨τ,G,q,rl,h,af⟩=>UH rl h λxs G1 h1 vs H1 rs hr1 k1 rl1=>?_;rw [List.append_nil];exact ⟨xs,G1,q,hr1,rs,h1,af.back k1⟩
def qv (N:List Str) (ts:List T):St3:=ts.map some++List.replicate (N.length-ts.length) none
def MC {K:Frg} {N:List Str} {G:Gp} {H:Hp} {ts:List T} {vs:List V} (hr:HR K G H) (rs:Rps K H ts vs):Rel K (qv N ts) G (L2.X0 N vs) H:=by
 refine ⟨hr,by simp [qv,L2.X0,rs.length],λi t e=>?_⟩;unfold qv at e;by_cases hi:i<ts.length
 ·rw [List.getElem?_append_left (by simpa using hi),getElem?_map] at e;cases q:ts[i]? with
  |none=>rw [q] at e;cases e
  |some z=>
   rw [q] at e;have e':z=t:=by simpa using e
   subst e';obtain ⟨v,hv,r⟩:=rs.get q;refine ⟨v,?_,r⟩;unfold L2.X0;rw [List.getElem?_append_left (by rw [length_map,← rs.length];exact hi),getElem?_map,hv];rfl
 ·rw [List.getElem?_append_right (by simpa using hi),List.getElem?_replicate] at e;split at e<;>cases e
def qj2 {P:Program} {w:World} {K:Frg} {mg:Str->Option Value} {base:Heap} {x qual:Str} {st:Stmt} {f:Addr} {fd:FuncData} {N ps:List Str} {k:Nat} {sp:Sp3} {t3:TS3} (F:Fun K x qual st f fd) (S:FnScope N ps (qj st)) (bd:zt K fd ps []) (hm:mg x=some (.ref f))
  (body:∀ (cdv:Value) (A:Around) (outer:List Env) (s:Shared) (H:Hp) (E:XK),Room k (A.deeper (envOfC qual (qj st) s.heap.objs.size f cdv)) ->
   B3 (qdq CX0 P w K mg base N qual (qj st) f cdv A outer s H E).nox (QK st) t3)
  (read:∀ ts G q,sp ts G q->ts.length=ps.length/\t3 { nx:=λ_ G'=>q .non G',rt:=q } (qv N ts) G):Fn3 P w K mg base (k+1) x sp:=by
 refine ⟨f,fd,ps,F.ok S (λvs H Q E ⟨ts,G,q,h1,h2,h3,h4⟩=>by rw [← h2.length];exact (read ts G q h3).1) λcdv A outer s H vs Q E hr ⟨ts,G,q,h1,h2,h3,h4⟩=>?_,bd,F.kp,hm⟩;refine ⟨_,body cdv A outer s H E hr,qv N ts,G,_,MC h1 h2,(read ts G q h3).2,⟨λτ' G' h' σ' H' rl' k'=>h4 _ G' h' _ H' .non rl'.hp k',h4,λ_ _ z=>z.elim,λ_ _ z=>z.elim⟩⟩
def qfG (xs:List T):Option Bool:=match xs with
 |[]=>some true
 |.bl k::r=>(match qfG r with|some j=>some (k&&j)|none=>none)
 |_=>none
def qn9 (xs:List T):Option Bool:=match xs with
 |[]=>some false
 |.bl k::r=>(match qn9 r with|some j=>some (k||j)|none=>none)
 |_=>none
def qer {P:Program} {w:World} {A:Around} {its:List Value} {ks:List Bool} (h:its=ks.map Value.bool):TruthOf P w A (λi v=>its.toArray[i]?=some v) (λi=>ks.getD i true):=by
 intro i v s Q E hp hq;subst h;have hp':ks[i]?.map Value.bool=some v:=by simpa using hp
 cases e:ks[i]? with
 |none=>rw [e] at hp';cases hp'
 |some k=>
  rw [e] at hp';cases hp';have:ks.getD i true=k:=by rw [getD_eq_getElem?_getD,e];rfl
  have hq:Q (ks.getD i true) s:=hq;rw [this] at hq;exact wpAny_truthy_bool hq
def RV:∀ {ks:List Bool} {us:List Value},jh (ks.map V.bl) us->us=ks.map Value.bool
 |[],_,r=>by cases r;rfl
 |k::ks,_,r=>by
  cases r with
  |cons a b=>rw [show _=Value.bool k from a,RV b];rfl
def qcB (ks:List Bool):((List.range ks.length).all λi=>ks.getD i true)=ks.all id:=by
 induction ks with
 |nil=>rfl
 |cons k ks ih=>
  rw [length_cons,List.range_succ_eq_map,List.all_cons,List.all_map,List.all_cons];congr 1
def je (hc:X.calm=true):UE X (.builtin "all") (λxs H Q=>∃ (p:Addr) (ks:List Bool),xs=[.ref p]/\SqL X.K H p (ks.map V.bl)/\Q (.bl (ks.all id)) H):=by
 intro pins s σ H xs us Q I r h;obtain ⟨p,ks,rfl,hq,q⟩:=h;obtain ⟨u,rfl,rp⟩:=SZ r;cases (show u=Value.ref p from rp);obtain ⟨its,rv,pl,hz⟩:=I.list hq;have hb:=RV rv;have hlen:its.length=ks.length:=by rw [hb];simp
 have hp:p<s.heap.objs.size:=by obtain ⟨o,n,e,_⟩:=pl;exact Heap.lt_size e
 refine call_all_walk (wpAny_pyIter_list pl.isList ⟨s.heap.objs.size,_,_,_,_,_,λi=>ks.getD i true,rfl,Walks.list (A:=X.A.in1) (show X.A.in1.handled=none from I.ok.hd hc) s.heap.objs.size p (Nat.ne_of_lt hp) its.toArray,⟨⟨_,Heap.get?_push_size _ rfl,rfl,rfl⟩,?_⟩,qer hb,λh' tk hk=>?_⟩)
 ·obtain ⟨o,n,e,c,_,d⟩:=pl;exact ⟨o,Heap.get?_push_of_some _ e,c,n,d⟩
 ·refine ⟨.bl _,H,?_,rfl,by rw [size_toArray,hlen,qcB];exact q⟩;exact I.kept (h':=h') (t':=tk) λb o e=>hk b o (by simp;exact Nat.ne_of_lt (Heap.lt_size e)) (Heap.get?_push_of_some _ e)
end
def RO (env:Env):List (Str×NameKind)->List (Str×Addr)->List (Str×Addr)
 |[],cs=>cs
 | (n,k)::r,cs=>if k=.free then RO env r ((n,(env.cells.lookup n).getD 0)::cs) else RO env r cs
def DN {scope:Scope} {env:Env} (h:∀ y∈scope.names,y.2=.free->∃ c,env.cells.lookup y.1=some c):closureFor scope env=pure (RO env scope.names []):=by
 have key:∀ (l:List (Str×NameKind)) (cs:List (Str×Addr)),(∀ y∈l,y.2=.free->∃ c,env.cells.lookup y.1=some c) ->
   (forIn l cs λ(x:Str×NameKind) (r:List (Str×Addr))=>if (x.2==NameKind.free)=true then (do let a←cellOf env x.1;pure (ForInStep.yield ((x.1,a)::r))) else pure (ForInStep.yield r))=(pure (RO env l cs):Sem _):=by
  intro l;induction l with
  |nil=>intro cs _;rfl
  |cons y r ih=>
   intro cs hl;obtain ⟨n,k⟩:=y;rw [List.forIn_cons];by_cases hk:k=.free
   ·subst hk;obtain ⟨c,hc⟩:=hl (n,.free) List.mem_cons_self rfl;have e:cellOf env n=pure c:=by unfold cellOf;rw [show List.lookup n env.cells=some c from hc]
    simp only [beq_self_eq_true,if_true];rw [e,pure_bind,pure_bind];show forIn r ((n,c)::cs) _=_;rw [ih _ λz hz=>hl z (List.mem_cons_of_mem _ hz)];show _=(pure (if NameKind.free=NameKind.free then RO env r ((n,(env.cells.lookup n).getD 0)::cs) else RO env r cs):Sem _);rw [if_pos rfl,show List.lookup n env.cells=some c from hc];rfl
   ·have hb:(k==NameKind.free)=false:=by cases k<;>first|rfl|exact absurd rfl hk
    simp only [hb,Bool.false_eq_true,if_false];rw [pure_bind];show forIn r cs _=_;rw [ih _ λz hz=>hl z (List.mem_cons_of_mem _ hz)];show _=(pure (if k=NameKind.free then RO env r ((n,(env.cells.lookup n).getD 0)::cs) else RO env r cs):Sem _);rw [if_neg hk]
 have:=key scope.names [] h;unfold closureFor;refine Eq.trans ?_ this;exact bind_pure (m:=Sem) _
def U9 {env:Env}:∀ (l:List (Str×NameKind)) (cs:List (Str×Addr)) (x:Str) (c:Addr),(∀ y∈l,y.2=.free->∃ c,env.cells.lookup y.1=some c) ->
  (∀ x c,cs.lookup x=some c->env.cells.lookup x=some c)->(RO env l cs).lookup x=some c->env.cells.lookup x=some c
 |[],_,_,_,_,h,e=>h _ _ e
 | (n,k)::r,cs,x,c,hl,h,e=>by
  unfold RO at e;split at e
  ·rename_i hk;refine U9 r _ x c (λy hy=>hl y (List.mem_cons_of_mem _ hy)) (λx c e=>?_) e;rw [List.lookup_cons] at e;split at e
   ·rename_i hx;have hx':x=n:=by simpa using hx
    subst hx';obtain ⟨d,hd⟩:=hl (x,k) List.mem_cons_self hk;have hd:List.lookup x env.cells=some d:=hd;rw [hd] at e ⊢;exact e
   ·exact h _ _ e
  ·exact U9 r cs x c (λy hy=>hl y (List.mem_cons_of_mem _ hy)) h e
def XC {env:Env}:∀ (l:List (Str×NameKind)) (cs:List (Str×Addr)) (x:Str),((x,NameKind.free)∈l\/∃ c,cs.lookup x=some c)->∃ c,(RO env l cs).lookup x=some c
 |[],_,_,h=>by
  rcases h with h|h
  ·simp at h
  ·exact h
 | (n,k)::r,cs,x,h=>by
  unfold RO;have put:∀ d:Addr,(x=n\/∃ c,cs.lookup x=some c)->∃ c,((n,d)::cs).lookup x=some c:=λd z=>by
   rw [List.lookup_cons];cases hx:x==n with
   |true=>exact ⟨d,rfl⟩
   |false=>
    rcases z with z|z
    ·rw [z] at hx;simp at hx
    ·exact z
  split
  ·rename_i hk;refine XC r _ x ?_;rcases h with h|h
   ·rcases mem_cons.mp h with e|e
    ·cases e;exact .inr (put _ (.inl rfl))
    ·exact .inl e
   ·exact .inr (put _ (.inr h))
  ·rename_i hk;refine XC r _ x ?_;rcases h with h|h
   ·rcases mem_cons.mp h with e|e
    ·cases e;exact absurd rfl hk
    ·exact .inl e
   ·exact .inr h
def KA {env:Env}:∀ (l:List (Str×NameKind)) (cs:List (Str×Addr)) (x:Str) (c:Addr),(RO env l cs).lookup x=some c->(x,NameKind.free)∈l\/cs.lookup x=some c
 |[],_,_,_,e=>.inr e
 | (n,k)::r,cs,x,c,e=>by
  unfold RO at e;split at e
  ·rename_i hk;rcases KA r _ x c e with z|z
   ·exact .inl (List.mem_cons_of_mem _ z)
   ·rw [List.lookup_cons] at z;split at z
    ·rename_i hx;have hx':x=n:=by simpa using hx
     subst hx';subst hk;exact .inl List.mem_cons_self
    ·exact .inr z
  ·rcases KA r cs x c e with z|z
   ·exact .inl (List.mem_cons_of_mem _ z)
   ·exact .inr z
def WE {α:Type}:∀ (xs ys:List (Str×α)) (x:Str),(xs++ys).lookup x=(match xs.lookup x with|some c=>some c|none=>ys.lookup x)
 |[],ys,x=>rfl
 | (n,c)::xs,ys,x=>by
  rw [cons_append,List.lookup_cons,List.lookup_cons];cases x==n with
  |true=>rfl
  |false=>exact WE xs ys x
def QG:∀ (l:List (Str×NameKind)) {n:Nat} {acc:List (Str×Addr)},cellsFrom n l acc=cellsFrom n l []++acc
 |[],_,_=>rfl
 | (x,k)::r,n,acc=>by
  unfold cellsFrom;split
  ·rw [QG r (acc:=(x,n)::acc),QG r (acc:=[(x,n)]),List.append_assoc];rfl
  ·exact QG r
def VC:∀ (l:List (Str×NameKind)) (n:Nat) (acc:List (Str×Addr)) (x:Str) (c:Addr),(x,c)∈cellsFrom n l acc->(x,NameKind.cell)∈l\/(x,c)∈acc
 |[],_,_,_,_,h=>.inr h
 | (y,k)::r,n,acc,x,c,h=>by
  unfold cellsFrom at h;split at h
  ·rename_i hk;have hk:k=.cell:=by simpa using hk
   rcases VC r _ _ x c h with z|z
   ·exact .inl (List.mem_cons_of_mem _ z)
   ·rcases mem_cons.mp z with e|e
    ·cases e;subst hk;exact .inl List.mem_cons_self
    ·exact .inr e
  ·rcases VC r _ _ x c h with z|z
   ·exact .inl (List.mem_cons_of_mem _ z)
   ·exact .inr z
def Z1:∀ (l:List (Str×NameKind)) (n:Nat) (acc:List (Str×Addr)) (x:Str),((x,NameKind.cell)∈l\/∃ c,acc.lookup x=some c)->∃ c,(cellsFrom n l acc).lookup x=some c
 |[],_,_,_,h=>by
  rcases h with h|h
  ·simp at h
  ·exact h
 | (y,k)::r,n,acc,x,h=>by
  unfold cellsFrom;have put:(x=y\/∃ c,acc.lookup x=some c)->∃ c,((y,n)::acc).lookup x=some c:=λz=>by
   rw [List.lookup_cons];cases hx:x==y with
   |true=>exact ⟨n,rfl⟩
   |false=>
    rcases z with z|z
    ·rw [z] at hx;simp at hx
    ·exact z
  split
  ·refine Z1 r _ _ x ?_;rcases h with h|h
   ·rcases mem_cons.mp h with e|e
    ·cases e;exact .inr (put (.inl rfl))
    ·exact .inl e
   ·exact .inr (put (.inr h))
  ·rename_i hk;refine Z1 r _ _ x ?_;rcases h with h|h
   ·rcases mem_cons.mp h with e|e
    ·cases e;exact absurd rfl hk
    ·exact .inl e
   ·exact .inr h
def VR {M:Model} {A:Around} {E:Value->Shared->Prop} {s:Shared} {scope:Scope} {globals:Addr} {cl:List (Str×Addr)} {qual:Str} {env:Env} {Q:Env->Shared->Prop}
  (hQ:∀ h₁:Heap,h₁.Ns s.heap.objs.size (λ_=>none)->(∀ b o,s.heap.get? b=some o->h₁.get? b=some o)->CellsOk h₁ (s.heap.objs.size+1) (cellsFrom (s.heap.objs.size+1) scope.names [])->Q (newEnv scope s.heap.objs.size globals (cellsFrom (s.heap.objs.size+1) scope.names cl) qual none .none (some env) builtinsNs) { s with heap:=h₁ }) :
  wpAny M A (newFunctionEnv scope globals cl [] qual none .none (some env)) Q E s:=by
 simp only [newFunctionEnv,Option.isSome_some,if_true];refine wpAny_bind (wpAny_alloc ?_);refine wpAny_bind (wpAny_layCells _ (λname kind cells=>by cases hkc:kind==NameKind.cell<;>simp [hkc]) _ _ _ _ ?_);have ok:=cellsFrom_ok scope.names (s.heap.push { cls:=.type "dict",data:=.dict #[] }) (s.heap.objs.size+1) [] ⟨λ_ _ hm=>(nomatch hm),List.Pairwise.nil⟩ (by rw [Heap.size_push];exact Nat.le_refl _);rw [Heap.size_push] at ok;rw [show ({ s with heap:=s.heap.push { cls:=.type "dict",data:=.dict #[] } }:Shared).heap.objs.size=s.heap.objs.size+1 from Heap.size_push ..];rw [List.forIn_nil];refine wpAny_bind (wpAny_pure (wpAny_pure ?_));exact hQ _ ((Heap.Ns.new s.heap (.type "dict")).keeps (pushCells_keeps _ _)) (λb o e=>pushCells_keeps _ _ b o (Heap.get?_push_of_some _ e)) ok
def qJ (X:Cx) (N':List Str) (scope:Scope) (s:Shared) (H:Hp) (fp:List Addr):Cx where
 prog:=X.prog
 w:=X.w
 K:=X.K
 mg:=X.mg
 base:=X.base
 A:=X.A
 N:=N'
 s₀:=s
 H₀:=H
 env:=compEnvC scope (cellsFrom (s.heap.objs.size+1) scope.names (RO X.env scope.names [])) s.heap.objs.size X.env
 outer:=X.stack
 stack:=X.stack
 ex:=fp
 fn:=λx=>scope.names.lookup x==some .cell
 calm:=true
 pn:=[]
 xe:=λ_ _=>False
def qek (outer inner:Scope):Bool:=(inner.kind==.function)&&inner.names.all λy=>
 (y.2 != .cell||inner.names.lookup y.1==some .cell)&&(y.2 != .local||inner.names.lookup y.1==some .local)&&(y.2 != .free||(inner.names.lookup y.1==some .free&&(outer.names.lookup y.1==some .cell||outer.names.lookup y.1==some .free)))
def cap {α:Type} (m:List (Option Nat)) (σ:List (Option α)):List (Option α):=m.map λo=>match o with|some j=>(σ[j]?).join|none=>none
def W7 (N N':List Str) (scope:Scope) (m:List (Option Nat)):Bool:=(m.length==N'.length)&&(m.zip N').all λp=>match p.1 with
 |none=>true
 |some j=>N[j]?==some p.2&&scope.names.lookup p.2==some .free
def qbt {α:Type} {m:List (Option Nat)} {σ:List (Option α)} {i:Nat} {v:α} (h:(cap m σ)[i]?=some (some v)):∃ j,m[i]?=some (some j)/\σ[j]?=some (some v):=by
 unfold cap at h;rw [getElem?_map] at h;cases e:m[i]? with
 |none=>rw [e] at h;cases h
 |some o=>
  rw [e] at h;cases o with
  |none=>cases h
  |some j=>
   refine ⟨j,rfl,?_⟩;have h':(σ[j]?).join=some v:=by simpa using h
   cases q:σ[j]? with
   |none=>rw [q] at h';cases h'
   |some z=>rw [q] at h';exact congrArg some h'
def qcJ {N N':List Str} {scope:Scope} {m:List (Option Nat)} (h:W7 N N' scope m=true) {i j:Nat} {x:Str} (e:m[i]?=some (some j)) (hx:N'[i]?=some x):N[j]?=some x/\scope.names.lookup x=some .free:=by
 unfold W7 at h;rw [Bool.and_eq_true] at h;have hm:(some j,x)∈m.zip N':=mem_of_getElem? (i:=i) (List.getElem?_zip_eq_some.mpr ⟨e,hx⟩);have:=List.all_eq_true.mp h.2 _ hm;simp only [Bool.and_eq_true,beq_iff_eq] at this;exact this
def qhy {N N':List Str} {scope:Scope} {m:List (Option Nat)} {α:Type} (σ:List (Option α)) (h:W7 N N' scope m=true):(cap m σ).length=N'.length:=by
 unfold W7 at h;rw [Bool.and_eq_true] at h;unfold cap;rw [length_map];simpa using h.1
structure ScFacts (outer inner:Scope):Prop where
 kind:inner.kind=.function
 own:∀ y∈inner.names,y.2=.cell->inner.names.lookup y.1=some .cell
 loc:∀ y∈inner.names,y.2=.local->inner.names.lookup y.1=some .local
 free:∀ y∈inner.names,y.2=.free->inner.names.lookup y.1=some .free/\(outer.names.lookup y.1=some .cell\/outer.names.lookup y.1=some .free)
def RT {outer inner:Scope} (h:qek outer inner=true):ScFacts outer inner:=by
 unfold qek at h;rw [Bool.and_eq_true] at h;have ha:=List.all_eq_true.mp h.2;refine ⟨by simpa using h.1,λy hy e=>?_,λy hy e=>?_,λy hy e=>?_⟩
 ·have:=ha y hy;rw [e] at this;simpa using this
 ·have:=ha y hy;rw [e] at this;simpa using this
 ·have:=ha y hy;rw [e] at this;simpa using this
def YE {scope:Scope} {env:Env} {x:Str} {k:NameKind} (h:(relabel scope env).names.lookup x=some k):scope.names.lookup x=some k\/(k=.cell/\scope.names.lookup x=some .free):=by
 have key:∀ (l:List (Str×NameKind)),(l.map λ(n,k)=>if (k==NameKind.free&&env.scope.kind==.function&&env.kindOf n==some .cell) then (n,NameKind.cell) else (n,k)).lookup x=some k->l.lookup x=some k\/(k=.cell/\l.lookup x=some .free):=by
  intro l;induction l with
  |nil=>intro h;simp at h
  |cons y r ih=>
   intro h;obtain ⟨n,j⟩:=y;rw [map_cons] at h;dsimp only at h;by_cases hc:(j==NameKind.free&&env.scope.kind==.function&&env.kindOf n==some .cell)=true
   ·rw [if_pos hc,List.lookup_cons] at h;rw [List.lookup_cons];cases hx:x==n with
    |true=>
     rw [hx] at h;have hk:NameKind.cell=k:=by simpa using h
     have hj:j=.free:=by simp only [Bool.and_eq_true,beq_iff_eq] at hc;exact hc.1.1
     exact .inr ⟨hk.symm,by rw [hj]⟩
    |false=>rw [hx] at h;exact ih h
   ·rw [if_neg hc,List.lookup_cons] at h;rw [List.lookup_cons];cases hx:x==n with
    |true=>rw [hx] at h;exact .inl h
    |false=>rw [hx] at h;exact ih h
 exact key scope.names h
def PF (X:Cx) (ifs:List Expr) (t:TT):Prop:=
 ∀ (pins:List (Addr×Obj)) (s:Shared) (σ:L2.St) (H:Hp) (Q:Bool->Hp->Prop),Inv X pins σ H s->t σ H Q ->
  wpAny (model X.prog X.w) X.A (forIn ifs true λc r=>if r=true then do let ok←isTrue c X.env (eval c X.env);pure (ForInStep.yield ok) else pure (ForInStep.yield r)) (TP X pins σ Q) X.xe s
def qnK {X:Cx}:PF X [] (λ_ H Q=>Q true H):=λ_ _ _ H _ I h=>wpAny_tests_nil ⟨H,I,h⟩
section
variable {X:Cx} {pins:List (Addr×Obj)} {σ:L2.St} {H:Hp} {s:Shared}
def qad {N':List Str} {scope:Scope} {fp:List Addr} {m:List (Option Nat)} {h1:Heap} {mm:Str->Option Value} (hc:X.calm=true) (I:Inv X pins σ H s) (sc:ScFacts X.env.scope scope) (hcap:W7 X.N N' scope m=true)
  (hfp:∀ b∈fp,qap X pins H b) (hob:∀ b∈fp,∃ o,s.heap.get? b=some o) (hns:h1.Ns s.heap.objs.size mm) (hk:∀ b o,s.heap.get? b=some o->h1.get? b=some o) (hown:CellsOk h1 (s.heap.objs.size+1) (cellsFrom (s.heap.objs.size+1) scope.names [])) :
  Inv (qJ X N' scope s H fp) [] (cap m σ) H { s with heap:=h1 }:=by
 have hcl:∀ y∈scope.names,y.2=.free->∃ c,X.env.cells.lookup y.1=some c:=λy hy e=>by
  rcases (sc.free y hy e).2 with z|z
  ·exact I.ok.has y.1 (.inl z)
  ·exact I.ok.has y.1 (.inr z)
 have cl:∀ x c,(RO X.env scope.names []).lookup x=some c->X.env.cells.lookup x=some c:=λx c e=>U9 scope.names [] x c hcl (λ_ _ z=>by simp at z) e;have clt:∀ x c,(RO X.env scope.names []).lookup x=some c->c<s.heap.objs.size:=λx c e=>by
  obtain ⟨v,q⟩:=I.cell x c (cl x c e);exact q.lt
 -- a cell of the block: its own,or one from around
 have cs:∀ x c,(cellsFrom (s.heap.objs.size+1) scope.names (RO X.env scope.names [])).lookup x=some c->((x,c)∈cellsFrom (s.heap.objs.size+1) scope.names []/\s.heap.objs.size+1<=c/\h1.IsCell c none)\/(RO X.env scope.names []).lookup x=some c:=λx c e=>by
  rw [QG,WE] at e;cases q:(cellsFrom (s.heap.objs.size+1) scope.names []).lookup x with
  |none=>rw [q] at e;exact .inr e
  |some d=>
   rw [q] at e;cases e;have mem:=PySem.mem_of_lookup q;exact .inl ⟨mem,(hown.empty x _ mem).2,(hown.empty x _ mem).1⟩
 have fpne:∀ b∈fp,b≠s.heap.objs.size:=λb hb=>let ⟨o,e⟩:=hob b hb;Nat.ne_of_lt (Heap.lt_size e)
 refine ⟨⟨I.ok.mod,sc.kind,I.ok.glob,I.ok.blt,Nat.le_refl _,λx y c e1 e2=>?_,λx hx=>?_,λx c hf e=>?_,λ_=>I.ok.hd hc,I.ok.frames,.inl rfl,λb hb=>⟨fpne b hb,λx c e=>?_⟩,I.bs,Nat.le_trans I.ok.bsz I.sz,λb o e hb=>?_,λb hb z=>?_,I.stack,I.stkFree⟩,
  rfl,I.bare,Un.kept hk,⟨mm,hns,λi x v e1 e2 e3=>?_⟩,λx c e=>?_,I.fresh,λx c e=>?_,λp hp=>absurd (show p∈([]:List (Addr×Obj)) from hp) (by simp),I.hok.kept hk,qhy σ hcap⟩
 ·rcases cs x c e1 with ⟨m1,l1,_⟩|z1<;>rcases cs y c e2 with ⟨m2,l2,_⟩|z2
  ·exact PySem.name_of_addr hown.apart m1 m2
  ·exact absurd (clt y c z2) (Nat.not_lt.mpr (Nat.le_trans (Nat.le_succ _) l1))
  ·exact absurd (clt x c z1) (Nat.not_lt.mpr (Nat.le_trans (Nat.le_succ _) l2))
  ·exact I.ok.inj x y c (cl x c z1) (cl y c z2)
 ·have hx:(relabel scope X.env).names.lookup x=some .cell\/(relabel scope X.env).names.lookup x=some .free:=hx;have hf:scope.names.lookup x=some .cell\/scope.names.lookup x=some .free:=by
   rcases hx with z|z
   ·rcases YE z with q|⟨_,q⟩
    ·exact .inl q
    ·exact .inr q
   ·rcases YE z with q|⟨q,_⟩
    ·exact .inr q
    ·cases q
  show ∃ c,(cellsFrom (s.heap.objs.size+1) scope.names (RO X.env scope.names [])).lookup x=some c;rcases hf with hf|hf
  ·exact Z1 scope.names _ _ x (.inl (PySem.mem_of_lookup hf))
  ·exact Z1 scope.names _ _ x (.inr (XC scope.names [] x (.inl (PySem.mem_of_lookup hf))))
 ·have hf:scope.names.lookup x=some .cell:=by simpa [qJ] using hf
  rcases cs x c e with ⟨_,l1,_⟩|z1
  ·exact Nat.le_trans (Nat.le_succ _) l1
  ·rcases KA scope.names [] x c z1 with q|q
   ·rw [(sc.free _ q rfl).1] at hf;cases hf
   ·simp at q
 ·rcases cs x c e with ⟨_,l1,_⟩|z1
  ·obtain ⟨o,eo⟩:=hob b hb;exact Nat.ne_of_gt (Nat.lt_of_lt_of_le (Heap.lt_size eo) (Nat.le_trans (Nat.le_succ _) l1))
  ·exact (hfp b hb).2.2.2.2.1 x c (cl x c z1)
 ·rcases (hfp b hb).2.2.2.1 with z|z
  ·exact I.ok.noex b o e z
  ·exact absurd (Nat.lt_of_lt_of_le (Heap.lt_size e) (Nat.le_trans I.ok.bsz z)) (Nat.lt_irrefl _)
 ·rcases mem_cons.mp (I.stkSub b z) with q|q
  ·exact (hfp b hb).2.1 q
  ·exact (hfp b hb).2.2.1 q
 ·obtain ⟨j,ej,es⟩:=qbt e2;obtain ⟨hN,hfr⟩:=qcJ hcap ej e1;have mem:=PySem.mem_of_lookup hfr;have ho:=(sc.free _ mem rfl).2;obtain ⟨m0,hn0,hl0⟩:=I.loc;obtain ⟨u,ru,lk⟩:=hl0 j x v hN es (ho.elim (λz=>.inr (.inl z)) λz=>.inr (.inr z));refine ⟨u,ru,.inr ⟨?_,?_⟩⟩
  ·rcases e3 with z|z|z
   ·rcases YE z with q|⟨q,_⟩
    ·rw [hfr] at q;cases q
    ·cases q
   ·exact .inl z
   ·exact .inr z
  ·rcases lk with ⟨z,_⟩|⟨_,c,hc',hcell⟩
   ·have z:X.env.scope.names.lookup x=some .local:=z;rcases ho with q|q<;>(rw [z] at q;cases q)
   ·obtain ⟨c',hc2⟩:=XC (env:=X.env) scope.names [] x (.inl mem);have e:=cl x c' hc2;rw [hc'] at e;cases e;obtain ⟨o,eo,d⟩:=hcell;refine ⟨c,?_,o,hk c o eo,d⟩;show (cellsFrom (s.heap.objs.size+1) scope.names (RO X.env scope.names [])).lookup x=some c;rw [QG,WE];cases q:(cellsFrom (s.heap.objs.size+1) scope.names []).lookup x with
    |none=>exact hc2
    |some d=>
     rcases VC scope.names _ [] x d (PySem.mem_of_lookup q) with z|z
     ·rw [sc.own _ z rfl] at hfr;cases hfr
     ·simp at z
 ·rcases cs x c e with ⟨_,_,z⟩|z1
  ·exact ⟨none,z⟩
  ·obtain ⟨v,o,eo,d⟩:=I.cell x c (cl x c z1);exact ⟨v,o,hk c o eo,d⟩
 ·rcases cs x c e with ⟨_,l1,_⟩|z1
  ·exact I.hok.fresh (Nat.le_trans (Nat.le_succ _) l1)
  ·exact I.freeC x c (cl x c z1)
def R8 {N':List Str} {scope:Scope} {fp:List Addr} {pins':List (Addr×Obj)} {σ':L2.St} {H':Hp} {s':Shared} {h2:Heap} (I:Inv X pins σ H s) (hfp:∀ b∈fp,qap X pins H b) (J:Inv (qJ X N' scope s H fp) pins' σ' H' s')
  (sb:Heap.SameBut s.heap.objs.size s'.heap h2):Inv X pins σ H' { s' with heap:=h2 }:=by
 have ne:∀ b o,s.heap.get? b=some o->b≠s.heap.objs.size:=λb o e=>Nat.ne_of_lt (Heap.lt_size e);have g:∀ b,b≠s.heap.objs.size->h2.get? b=s'.heap.get? b:=λb hb=>sb.2 b hb;have hn:H' s.heap.objs.size=none:=J.free;have u:Un (frs X.stack) fp H H' s.heap s'.heap:=J.base;refine I.call' (s':={ s' with heap:=h2 }) J.os ⟨λb o e n hb hx=>?_,λb o e n hb hx=>?_,u.free,λb o e hx=>?_,u.tups,u.frzs,u.tbls⟩ (λa o e=>?_) J.bare λb hb=>⟨(hfp b hb).2.2.2.1,(hfp b hb).2.1,(hfp b hb).2.2.2.2.1,(hfp b hb).2.2.2.2.2⟩
 ·show h2.get? b=_;rw [g b (ne b o e)];exact u.keep b o e n hb hx
 ·show ∃ sl,h2.get? b=_;rw [g b (ne b o e)];exact u.slot b o e n hb hx
 ·show ∃ o',h2.get? b=_;rw [g b (ne b o e)];exact u.there b o e hx
 ·refine (J.hok a o e).stay (λb v hb q=>?_) (λ_ q=>q) λ_ _ q=>q;have hb':b≠s.heap.objs.size:=by
   intro z;subst z;rcases hb with z|z
   ·rw [← z] at e;rw [hn] at e;cases e
   ·rw [hn] at z;cases z
  rw [g b hb'];exact q
end
def tLC (wi:TI) (g:TG) (tif:TT) (te:TE) (m:List (Option Nat)):TE:=λσ H Q=>wi σ H λJ H1=>∀ D,H1 D=none ->
 ∃ W:Nat->Nat->L2.St->Hp->Prop,(∃ n,W 0 n (cap m σ) (upd H1 D (.lst [])))/\∀ i n σ H,W i n σ H ->
  (J.stop i H/\Q (.ref D) H)\/(J.go i H/\∀ x H',J.yld i H x H'->g x σ H' λσ2 H2=>tif σ2 H2 λk H3=>
   if k=true then te σ2 H3 λy H4=>∃ zs,H4 D=some (.lst zs)/\zs.length<sizeLine/\∃ n',n'<n/\W (i+1) n' σ2 (upd H4 D (.lst (zs++[y])))
   else ∃ n',n'<n/\W (i+1) n' σ2 H3)
section
variable {X:Cx}
def qp3 {elt tg iter:Expr} {ifs:List Expr} {scope:Scope} {pos:Pos} {N':List Str} {m:List (Option Nat)} {wi:TI} {g:TG} {tif:TT} {te:TE} (hc:X.calm=true) (hi:PI X tg iter wi)
  (hg:∀ s H fp,PG (qJ X N' scope s H fp) tg g) (hf:∀ s H fp,PF (qJ X N' scope s H fp) ifs tif) (he:∀ s H fp,PE (qJ X N' scope s H fp) elt te)
  (hsc:qek X.env.scope scope=true) (hcap:W7 X.N N' scope m=true) (hs:∀ x,foldedSetIterable iter X.env x=pure x:=by intro _;rfl) :
  PE X (.ListComp elt [⟨tg,iter,ifs,0⟩] scope pos) (tLC wi g tif te m):=by
 intro pins s σ H Q I h;have sc:=RT hsc;have hcl:∀ y∈scope.names,y.2=.free->∃ c,X.env.cells.lookup y.1=some c:=λy hy e=>by
  rcases (sc.free y hy e).2 with z|z
  ·exact I.ok.has y.1 (.inl z)
  ·exact I.ok.has y.1 (.inr z)
 rw [eval_ListComp];refine wpAny_comprehension_free (use:=none) (g:=⟨tg,iter,ifs,0⟩) (gs:=[]) rfl hs (DN hcl) sc.kind sc.loc ?_;show wpAny _ _ (eval iter X.env) _ _ s;refine thn (hi pins s σ H _ I h) λv s1 h1=>thn h1 λitv s2 h2=>?_;obtain ⟨it,fp,tn,J,H2,rfl,I2,T,st2,f2,hW⟩:=h2;refine wpAny_newObj_type ?_;have hD:H2 s2.heap.objs.size=none:=I2.fresh;obtain ⟨W,⟨n0,w0⟩,turn⟩:=hW _ hD;generalize hDe:s2.heap.objs.size=D at *;have I3:Inv X pins σ (upd H2 D (.lst [])) { s2 with heap:=s2.heap.push { cls:=.type "list",dict:=none,data:=.seq ([]:List Value).toArray } }:=by
  subst hDe;exact I2.laid (t':=s2.toks) (λb u e=>Heap.get?_push_of_some _ e) (Nat.le_refl _) ⟨Nat.zero_le _,[],0,.nil,Heap.get?_push_size _ rfl⟩
 have ob2:=T.obj 0 _ st2;have ob3:∀ b∈fp,∃ o,(s2.heap.push { cls:=.type "list",dict:=none,data:=.seq ([]:List Value).toArray }).get? b=some o:=λb hb=>let ⟨o,e,_⟩:=ob2 b hb;⟨o,Heap.get?_push_of_some _ e⟩
 have f3:∀ b∈fp,qap X pins (upd H2 D (.lst [])) b:=λb hb=>by
  obtain ⟨o,e,_⟩:=ob2 b hb;have:b≠D:=by rw [← hDe];exact Nat.ne_of_lt (Heap.lt_size e)
  exact ⟨by rw [qO this];exact (f2 b hb).1,(f2 b hb).2⟩
 have k23:∀ b o,s2.heap.get? b=some o->(s2.heap.push { cls:=.type "list",dict:=none,data:=.seq ([]:List Value).toArray }).get? b=some o:=λb o e=>Heap.get?_push_of_some _ e;generalize hH3:upd H2 D (.lst [])=H3 at *;generalize hs3:({ s2 with heap:=s2.heap.push { cls:=.type "list",dict:=none,data:=.seq ([]:List Value).toArray } }:Shared)=s3 at *;have ob3:∀ b∈fp,∃ o,s3.heap.get? b=some o:=by rw [← hs3];exact ob3
 have k23:∀ b o,s2.heap.get? b=some o->s3.heap.get? b=some o:=by rw [← hs3];exact k23
 refine VR λh₁ hns hk hown=>?_;have I4:Inv (qJ X N' scope s3 H3 fp) [] (cap m σ) H3 { s3 with heap:=h₁ }:=qad hc I3 sc hcap f3 ob3 hns hk hown;have tn4:tn 0 h₁:=T.keep _ _ _ st2 λb hb o e=>hk b o (k23 b o e);have fr4:∀ b∈fp,H3 b=none:=λb hb=>(f3 b hb).1;have stat:∀ {H':Hp},(∀ b∈fp,H' b=none)->∀ b∈fp,qap (qJ X N' scope s3 H3 fp) [] H' b:=λhn b hb=>by
  refine ⟨hn b hb,I4.ok.exf b hb |>.1,I4.ok.exfs b hb,.inl hb,λx c e=>(I4.ok.exf b hb).2 x c e,λp hp=>absurd (show p∈([]:List (Addr×Obj)) from hp) (by simp)⟩
 show codeAny (model X.prog X.w) X.A (.compStart (.ListComp elt [⟨tg,iter,ifs,0⟩] scope pos) 0 (.ref it) (.ref D) (qJ X N' scope s3 H3 fp).env) (compPost (model X.prog X.w) X.A X.xe none (EP X pins σ Q) (.ref D) s3.heap.objs.size) { s3 with heap:=h₁ };have loop:codeAny (model X.prog X.w) X.A (.compLoop (.ListComp elt [⟨tg,iter,ifs,0⟩] scope pos) 0 (.ref it) (.ref D) (qJ X N' scope s3 H3 fp).env) (compPost (model X.prog X.w) X.A X.xe none (EP X pins σ Q) (.ref D) s3.heap.objs.size) { s3 with heap:=h₁ }:=by
  refine codeAny_loop rfl (λn s'=>∃ i σ' H',Inv (qJ X N' scope s3 H3 fp) [] σ' H' s'/\tn i s'.heap/\(∀ b∈fp,H' b=none)/\W i n σ' H') (λn s' hI=>?_) n0 ⟨0,cap m σ,H3,I4,tn4,fr4,w0⟩;show wpAny _ X.A ((compTurn (.ListComp elt [⟨tg,iter,ifs,0⟩] scope pos) 0 (.ref it) (.ref D) (qJ X N' scope s3 H3 fp).env).onRaise (λx=>do noteFrame x (qJ X N' scope s3 H3 fp).env;theTreesLotGoes x)) _ _ s';refine wpAny_noted ?_;rw [compTurn_list];refine wpAny_bind (wpAny_standAt (wpAny_bind ?_));obtain ⟨i,σ5,H5,I5,st5,fr5,w5⟩:=hI;rcases turn i n σ5 H5 w5 with ⟨stop,q⟩|⟨go,step⟩
  ·refine thn (T.done (qJ X N' scope s3 H3 fp) rfl rfl rfl rfl i [] s' σ5 H5 _ I5 (stat fr5) st5 stop) λr s6 ⟨hr,I6⟩=>?_;subst hr;refine wpAny_pure ?_;obtain ⟨mm,hn6,_⟩:=I6.loc;exact ⟨mm,hn6,λh' sb=>⟨.ref D,H5,R8 I3 f3 I6 sb,rfl,q⟩⟩
  ·refine thn (T.item (qJ X N' scope s3 H3 fp) rfl rfl rfl rfl i [] s' σ5 H5 _ I5 (stat fr5) st5 go) λr s6 ⟨u,hr,h6⟩=>?_;subst hr;refine wpAny_bind (thn h6 λ_ s7 ⟨x,H7,I7,r7,y7,st7,fr7⟩=>?_);have I7':=I7.pinned (stat fr7) (T.obj _ _ st7);have again:∀ {σ8:L2.St} {H8:Hp} {s8:Shared},Inv (qJ X N' scope s3 H3 fp) ([]++RU fp s7.heap) σ8 H8 s8->(∃ n',n'<n/\W (i+1) n' σ8 H8) ->
     ∃ m',m'<n/\∃ i σ' H',Inv (qJ X N' scope s3 H3 fp) [] σ' H' s8/\tn i s8.heap/\(∀ b∈fp,H' b=none)/\W i m' σ' H':=λ{σ8 H8 s8} I8 ⟨n',hn,w8⟩=>by
    refine ⟨n',hn,i+1,σ8,H8,I8.unpinned,T.keep _ _ _ st7 λb hb o e=>(I8.pin (b,o) (mem_append_right _ (mem_append_right _ (Z9 hb e)))).1,λb hb=>?_,w8⟩;obtain ⟨o,e,d⟩:=T.obj _ _ st7 b hb;exact (I8.pin (b,o) (mem_append_right _ (mem_append_right _ (Z9 hb e)))).2.1
   refine wpAny_bind (wpAny_mono (hg s3 H3 fp _ s7 σ5 H7 x u _ I7' r7 (step x H7 y7)) (λ_ s8 ⟨σ8,H8,I8,q8⟩=>?_) λ_ _ z=>z.elim);refine wpAny_bind (wpAny_mono (hf s3 H3 fp _ s8 σ8 H8 _ I8 q8) (λk s9 ⟨H9,I9,q9⟩=>?_) λ_ _ z=>z.elim);cases k with
   |false=>
    rw [if_neg Bool.false_ne_true] at q9;exact wpAny_pure ⟨rfl,again I9 q9⟩
   |true=>
    rw [if_pos rfl] at q9;refine wpAny_bind (wpAny_bind (wpAny_mono (he s3 H3 fp _ s9 σ8 H9 _ I9 q9) (λw s10 ⟨y,H10,I10,r10,q10⟩=>?_) λ_ _ z=>z.elim));obtain ⟨zs,hz,hl,q10⟩:=q10;refine wpAny_bind (wpAny_mono (CA (X:=qJ X N' scope s3 H3 fp) _ s10 σ8 H10 (.ref D) [y] (.ref D) [w] (λ_ H11=>H11=upd H10 D (.lst (zs++[y]))) I10 rfl (.cons r10 .nil) ⟨D,zs,y,rfl,rfl,hz,hl,rfl⟩) (λ_ s11 ⟨_,H11,I11,_,e11⟩=>?_) λ_ _ z=>z.elim);subst e11;exact wpAny_pure (wpAny_pure ⟨rfl,again I11 q10⟩)
 exact codeAny_compStart_list loop (T.self X.A 0 _ _ _ tn4 loop)
end
section
variable {K:Frg} {G G':Gp} {H H':Hp}
def qhp {D:Addr} {o:HO} {ws:List V} (hD:H D=some (.lst ws)) {a:Addr} {vs:List V} (h:SqT K H a vs):SqT K (upd H D o) a vs:=by
 rcases h with h|h
 ·refine .inl ?_;rcases h with h|⟨ob,h⟩
  ·have:a≠D:=by intro e;subst e;rw [hD] at h;cases h
   exact .inl (by rw [qO this];exact h)
  ·have:a≠D:=by intro e;subst e;rw [hD] at h;cases h
   exact .inr ⟨ob,by rw [qO this];exact h⟩
 ·exact .inr h
mutual
def Rp.wrD {D:Addr} {o:HO} {ws:List V} (hD:H D=some (.lst ws)):∀ {x:T} {v:V},Rp K H x v->Rp K (upd H D o) x v
 |_,_,.non=>.non
 |_,_,.bl b=>.bl b
 |_,_,.int i=>.int i
 |_,_,.str x=>.str x
 |_,_,.ref a=>.ref a
 |_,_,.tup h hs=>.tup (qhp hD h) (Rps.wrD hD hs)
def Rps.wrD {D:Addr} {o:HO} {ws:List V} (hD:H D=some (.lst ws)):∀ {x:List T} {v:List V},Rps K H x v->Rps K (upd H D o) x v
 |_,_,.nil=>.nil
 |_,_,.cons a b=>.cons (Rp.wrD hD a) (Rps.wrD hD b)
end
def HR.wrD {D:Addr} {o:HO} {ws:List V} (hr:HR K G H) (hD:H D=some (.lst ws)) (g:G D=none):HR K G (upd H D o):=λa ob e=>by
 have ha:a≠D:=by intro z;subst z;rw [g] at e;cases e
 have q:=hr a ob e;cases ob with
 |lst xs=>obtain ⟨vs,h1,h2⟩:=q;exact ⟨vs,by rw [qO ha];exact h1,h2.wrD hD⟩
 |frz xs=>obtain ⟨vs,⟨o1,h1⟩,h2⟩:=q;exact ⟨vs,⟨o1,by rw [qO ha];exact h1⟩,h2.wrD hD⟩
 |dct kvs=>obtain ⟨vs,h1,h2⟩:=q;exact ⟨vs,by rw [qO ha];exact h1,h2.wrD hD⟩
 |exn C=>have h1:H a=some (.ext (IsX a C)):=q;exact (show _=_ by rw [qO ha];exact h1)
 |tab ks xs=>obtain ⟨vs,h1,h2⟩:=q;exact ⟨vs,by rw [qO ha];exact h1,h2.wrD hD⟩
def Rel.wrD {D:Addr} {o:HO} {ws:List V} {τ:St3} {σ:L2.St} (r:Rel K τ G σ H) (hD:H D=some (.lst ws)) (g:G D=none):Rel K τ G σ (upd H D o):=
 ⟨r.hp.wrD hD g,r.len,λi t e=>let ⟨v,h1,h2⟩:=r.st i t e;⟨v,h1,h2.wrD hD⟩⟩
def Kp.wrD {D:Addr} {o:HO} (k:Kp G H G' H') (hD:H D=none):Kp G H G' (upd H' D o):=λa ob h g=>by
 obtain ⟨h1,h2⟩:=k a ob h g;exact ⟨by rw [qO (qD h hD)];exact h1,h2⟩
def qd2 {α:Type} {m:List (Option Nat)} {σ:List (Option α)} {i j:Nat} (h:m[i]?=some (some j)):(cap m σ)[i]?=some ((σ[j]?).join):=by
 unfold cap;rw [getElem?_map,h];rfl
def Rel.cap {τ:St3} {σ:L2.St} (r:Rel K τ G σ H) (m:List (Option Nat)):Rel K (cap m τ) G (L3.cap m σ) H:=by
 refine ⟨r.hp,by simp [L3.cap],λi t e=>?_⟩;obtain ⟨j,e1,e2⟩:=qbt e;obtain ⟨v,h1,h2⟩:=r.st j t e2;exact ⟨v,by rw [qd2 e1,h1];rfl,h2⟩
end
def RC (stay:Gp->Prop) (g:TG3) (tif:TT3) (te:TE3) (q:Q3):List T->List T->St3->Gp->Prop
 |[],ys,_,G=>stay G/\∀ p,G p=none->q (.ref p) (gu G p (.lst ys))
 |x::r,ys,τ,G=>stay G/\g x τ G λτ2 G2=>tif τ2 G2 λk G3=>if k=true then te τ2 G3 λy G4=>ys.length<sizeLine/\RC stay g tif te q r (ys++[y]) τ2 G4 else RC stay g tif te q r ys τ2 G3
def lc3 (wi:TI3) (g:TG3) (tif:TT3) (te:TE3) (m:List (Option Nat)):TE3:=λτ G q=>wi τ G λitems stay G1=>RC stay g tif te q items [] (cap m τ) G1
abbrev F3 (X:Cx) (ifs:List Expr) (t:TT3):Prop:=PF X ifs (lT X.K t)
def tt3:TT3:=λ_ G q=>q true G
def qpm {X:Cx}:F3 X [] tt3:=λpins s σ H Q I ⟨τ,G,q,rl,h,af⟩=>qnK pins s σ H Q I (af true G h H rl.hp Kp.refl)
section
variable {X:Cx}
def qrP {elt tg iter:Expr} {ifs:List Expr} {scope:Scope} {pos:Pos} (N':List Str) (m:List (Option Nat)) {wi:TI3} {g:TG3} {tif:TT3} {te:TE3} (hc:X.calm=true) (hi:I3 X tg iter wi)
  (hg:∀ s H fp,G3 (qJ X N' scope s H fp) tg g) (hf:∀ s H fp,F3 (qJ X N' scope s H fp) ifs tif) (he:∀ s H fp,E3 (qJ X N' scope s H fp) elt te)
  (hsc:qek X.env.scope scope=true) (hcap:W7 X.N N' scope m=true) (hs:∀ x,foldedSetIterable iter X.env x=pure x:=by intro _;rfl) :
  E3 X (.ListComp elt [⟨tg,iter,ifs,0⟩] scope pos) (lc3 wi g tif te m):=
 XF (qp3 (g:=lG X.K g) (tif:=lT X.K tif) (te:=lE X.K te) hc hi hg hf he hsc hcap hs) λσ H Q ⟨τ,G,q,rl,h,af⟩=>by
  refine ⟨τ,G,_,rl,h,λitems stay G1 h1 J H1 hr1 k1 ok D hD=>?_⟩;have gD:G1 D=none:=hr1.free hD;refine ⟨λi n σ' H'=>n=items.length-i/\i<=items.length/\∃ τ' G' ys vs,Rel X.K τ' G' σ' H'/\Kp G1 H1 G' H'/\H' D=some (.lst vs)/\Rps X.K H' ys vs/\G' D=none/\RC stay g tif te q (items.drop i) ys τ' G',
   ⟨_,rfl,Nat.zero_le _,cap m τ,G1,[],[],((rl.next hr1 k1).cap m).next (hr1.laid hD) (Kp.laid hD),Kp.laid hD,zA,.nil,gD,by simpa using h1⟩,?_⟩
  rintro i n σ' H' ⟨rfl,hi,τ',G',ys,vs,rl',k',hDl,rys,gD',h'⟩;by_cases hlt:i<items.length
  ·rw [List.drop_eq_getElem_cons hlt] at h';obtain ⟨hst,h'⟩:=h';obtain ⟨go,yld,_⟩:=ok G' H' rl'.hp k' hst;have hx:items[i]?=some items[i]:=getElem?_eq_getElem hlt;refine .inr ⟨go i _ hx,λv H2 y=>?_⟩;obtain ⟨rv,hr2,k2⟩:=yld i _ v H2 hx y;have nxt:∀ {τ4:St3} {G4:Gp} {σ4:L2.St} {H4:Hp} {ys4:List T} {vs4:List V},Rel X.K τ4 G4 σ4 H4->Kp G1 H1 G4 H4->H4 D=some (.lst vs4)->Rps X.K H4 ys4 vs4->G4 D=none->RC stay g tif te q (items.drop (i+1)) ys4 τ4 G4 ->
     ∃ n',n'<items.length-i/\(n'=items.length-(i+1)/\i+1<=items.length/\∃ τ' G' ys vs,Rel X.K τ' G' σ4 H4/\Kp G1 H1 G' H4/\H4 D=some (.lst vs)/\Rps X.K H4 ys vs/\G' D=none/\RC stay g tif te q (items.drop (i+1)) ys τ' G'):=
    λ{τ4 G4 σ4 H4 ys4 vs4} a b c d e f=>⟨_,by omega,rfl,hlt,τ4,G4,ys4,vs4,a,b,c,d,e,f⟩
   refine ⟨_,τ',G',_,rv,rl'.next hr2 k2,h',λτ3 G3 h3 σ3 H3 rl3 k3=>⟨τ3,G3,_,rl3,h3,λk G4 h4 H4 hr4 k4=>?_⟩⟩;have kk:=(k2.trans k3).trans k4;obtain ⟨hD4,gD4⟩:=kk D _ hDl gD';have rys4:=rys.keep rl'.hp kk;cases k with
   |false=>
    rw [if_neg Bool.false_ne_true] at h4;refine qqW ?_;exact nxt (rl3.next hr4 k4) (k'.trans kk) hD4 rys4 gD4 h4
   |true=>
    rw [if_pos rfl] at h4;refine qqp ?_;refine ⟨τ3,G4,_,rl3.next hr4 k4,h4,λz G5 h5 w H5 rw5 hr5 k5=>?_⟩;obtain ⟨hD5,gD5⟩:=k5 D _ hD4 gD4;have rys5:=rys4.keep hr4 k5;exact ⟨vs,hD5,by rw [← rys.length];exact h5.1,nxt (((rl3.next hr4 k4).next hr5 k5).wrD hD5 gD5) (((k'.trans kk).trans k5).wrD hD) zA ((rys5.append (.cons rw5 .nil)).wrD hD5) gD5 h5.2⟩
  ·have e:i=items.length:=by omega
   subst e;rw [List.drop_length] at h';obtain ⟨_,_,stop⟩:=ok G' H' rl'.hp k' h'.1;refine .inl ⟨stop,af _ _ (h'.2 D gD') _ H' (.ref D) (λa o e=>?_) λa o e ga=>?_⟩
   ·by_cases ha:a=D
    ·subst ha;rw [qB] at e;cases e;exact ⟨vs,hDl,rys⟩
    ·rw [jc ha] at e;exact rl'.hp a o e
   ·obtain ⟨e1,g1⟩:=k1 a o e ga;obtain ⟨e2,g2⟩:=k' a o e1 g1;exact ⟨e2,by rw [jc (qD e1 hD)];exact g2⟩
end
structure Src (P:Program) (w:World) (it c:Addr) (St:Nat->Heap->Prop) (Has:Array Value->Heap->Prop):Prop where
 obj:∀ {k h},St k h->∃ o,h.get? it=some o/\∀ v,o.data≠.cell v
 keep:∀ {k h h'},St k h->(∀ o,h.get? it=some o->h'.get? it=some o)->St k h'
 hkeep:∀ {xs h h'},Has xs h->(∀ o,h.get? c=some o->h'.get? c=some o)->Has xs h'
 item:∀ {A:Around} {s:Shared} {k:Nat} {xs:Array Value} {x:Value} {Q:Value->Shared->Prop} {E:Value->Shared->Prop},St k s.heap->Has xs s.heap->xs[k]?=some x ->
  (∀ h',St (k+1) h'->Heap.SameBut it s.heap h'->Q x { s with heap:=h' })->wpAny (model P w) A (Builtin.SmallTypes.nextOf (.ref it)) Q E s
 done:∀ {A:Around} {s:Shared} {k:Nat} {xs:Array Value} {Q:Value->Shared->Prop} {E:Value->Shared->Prop},A.handled=none->St k s.heap->Has xs s.heap->xs[k]?=none ->
  (∀ h' e,Heap.ExtBut it s.heap h'->(∃ o,h'.get? e=some o/\o.cls=.type "StopIteration")->E (.ref e) { s with heap:=h' })->wpAny (model P w) A (Builtin.SmallTypes.nextOf (.ref it)) Q E s
def qep {P:Program} {w:World} (it l:Addr):Src P w it l (λk h=>h.IsListIter it l k) (λxs h=>h.IsList l xs) where
 obj:=λst=>let ⟨o,e,_,d⟩:=st;⟨o,e,λv z=>by rw [d] at z;cases z⟩
 keep:=λst k=>st.at λo e=>k o e
 hkeep:=λst k=>st.at λo e=>k o e
 item:=λst hl hx hQ=>wpAny_nextOf_list_item st hl hx hQ
 done:=λhh st hl hx hE=>wpAny_nextOf_list_end hh st hl hx hE
def qaR {P:Program} {w:World} {A:Around} {s:Shared} {it t:Addr} {i:Nat} {its:Array Value} {x:Value} {Q:Value->Shared->Prop} {E:Value->Shared->Prop} (hit:s.heap.IsTupleIter it t i) (ht:s.heap.IsTuple t its) (hx:its[i]?=some x)
  (hQ:∀ h',h'.IsTupleIter it t (i+1)->Heap.SameBut it s.heap h'->Q x { s with heap:=h' }):wpAny (model P w) A (Builtin.SmallTypes.nextOf (.ref it)) Q E s:=by
 obtain ⟨o1,e1,c1,d1⟩:=id hit;obtain ⟨o2,e2,_,n2,d2⟩:=ht;unfold Builtin.SmallTypes.nextOf;refine wpAny_bind (wpAny_callSpecial?_slot (name:=Str.ofString "__next__") hit.typeIs F.slot_tuple_iterator_next (wpAny_call_entry F.slot_tuple_iterator_next hit.typeIs F.entry_tuple_iterator_next ?_ (F.args_tuple_iterator_next_1 _)));refine wpAny_bind (m:=field (.ref it) 0) (wpAny_field e1 d1 (x:=.ref t) rfl ?_);rw [if_neg (show ¬ ((Value.ref t==Value.none)=true) by exact Bool.false_ne_true)];refine wpAny_bind (m:=field (.ref it) 1) (wpAny_field e1 d1 (x:=.int i 0) rfl ?_);refine wpAny_bind (m:=seqItems? (.ref t)) (wpAny_seqItems e2 d2 ?_);simp only [Int.toNat_natCast,hx];refine wpAny_bind (wpAny_setField e1 d1 (by simp) (wpAny_pure ⟨x,rfl,wpAny_pure (hQ _ ⟨_,Heap.get?_update_self _ e1 (Obj.isFreed_of_fields (Obj.data_mapFields d1 _)),(Obj.cls_mapFields ..).trans c1,?_⟩ (Heap.SameBut.update ..))⟩));rw [Obj.data_mapFields d1];simp [rawInt]
def RH {P:Program} {w:World} {A:Around} {s:Shared} {it t:Addr} {i:Nat} {its:Array Value} {Q:Value->Shared->Prop} {E:Value->Shared->Prop} (hh:A.handled=none) (hit:s.heap.IsTupleIter it t i) (ht:s.heap.IsTuple t its) (hx:its[i]?=none)
  (hE:∀ h' e,Heap.ExtBut it s.heap h'->(∃ o,h'.get? e=some o/\o.cls=.type "StopIteration")->E (.ref e) { s with heap:=h' }):wpAny (model P w) A (Builtin.SmallTypes.nextOf (.ref it)) Q E s:=by
 obtain ⟨o1,e1,c1,d1⟩:=id hit;obtain ⟨o2,e2,_,n2,d2⟩:=ht;unfold Builtin.SmallTypes.nextOf;refine wpAny_bind (wpAny_callSpecial?_slot (name:=Str.ofString "__next__") hit.typeIs F.slot_tuple_iterator_next (wpAny_call_entry F.slot_tuple_iterator_next hit.typeIs F.entry_tuple_iterator_next ?_ (F.args_tuple_iterator_next_1 _)));refine wpAny_bind (m:=field (.ref it) 0) (wpAny_field e1 d1 (x:=.ref t) rfl ?_);rw [if_neg (show ¬ ((Value.ref t==Value.none)=true) by exact Bool.false_ne_true)];refine wpAny_bind (m:=field (.ref it) 1) (wpAny_field e1 d1 (x:=.int i 0) rfl ?_);refine wpAny_bind (m:=seqItems? (.ref t)) (wpAny_seqItems e2 d2 ?_);simp only [Int.toNat_natCast,hx];refine wpAny_bind (wpAny_rule (wpAny_bind (wpAny_setField e1 d1 (by simp) ?_)));refine wpAny_bind (m:=newExc (.type "StopIteration") []) ?_;simp only [newExc,newTuple];refine wpAny_bind (wpAny_newObj_type ?_ (by size_fits));refine wpAny_bind (m:=firstArgMember _ _) (wpAny_of_eq (a:=Value.none) (by first|rfl|(simp only [firstArgMember]<;>rfl)) (wpAny_newObj_type ?_ (by size_fits)));simp only [raiseNew];refine wpAny_bind (wpAny_handled ?_)
 first|rw [show A.in1.handled=Option.none from hh]|rw [show A.handled=Option.none from hh]
 exact wpAny_bind (wpAny_pure (wpAny_throw (hE _ _ (((Heap.SameBut.update ..).extBut.push _).push _) ⟨_,Heap.get?_push_size _ rfl,rfl⟩)))
def qgY {P:Program} {w:World} (it t:Addr):Src P w it t (λk h=>h.IsTupleIter it t k) (λxs h=>h.IsTuple t xs) where
 obj:=λst=>let ⟨o,e,_,d⟩:=st;⟨o,e,λv z=>by rw [d] at z;cases z⟩
 keep:=λst k=>st.at λo e=>k o e
 hkeep:=λst k=>st.at λo e=>k o e
 item:=λst hl hx hQ=>qaR st hl hx hQ
 done:=λhh st hl hx hE=>RH hh st hl hx hE
structure ZA (z ti to i1 i2 c1 c2:Addr):Prop where
 ne:([z,ti,to,i1,i2]:List Addr).Nodup
 a1:c1∉[z,to,i1,i2]
 a2:c2∉[z,to,i1,i2]
section
variable {P:Program} {w:World} {A:Around} {s:Shared} {z ti to i1 i2 c1 c2:Addr} {S1 S2:Nat->Heap->Prop} {H1 H2:Array Value->Heap->Prop} {k1 k2:Nat} {xs ys:Array Value} {x y a b:Value} {E:Value->Shared->Prop}
def qdt {Q:Value->Shared->Prop} (R1:Src P w i1 c1 S1 H1) (R2:Src P w i2 c2 S2 H2) (D:ZA z ti to i1 i2 c1 c2) (hz:IsZip s.heap z ti to .none) (hi:IsPair s.heap ti (.ref i1) (.ref i2)) (ho:IsPair s.heap to a b)
  (p1:S1 k1 s.heap) (p2:S2 k2 s.heap) (l1:H1 xs s.heap) (l2:H2 ys s.heap) (hx:xs[k1]?=some x) (hy:ys[k2]?=some y)
  (hQ:∀ h',IsZip h' z ti to (rawInt s.heap.objs.size)->IsPair h' to x y->S1 (k1+1) h'->S2 (k2+1) h'->IsPair h' s.heap.objs.size x y->(∀ c o,c∉[z,to,i1,i2]->s.heap.get? c=some o->h'.get? c=some o)->Q (.ref s.heap.objs.size) { s with heap:=h' }) :
  wpAny (model P w) A (Builtin.«zip.__next__» ⟨[.ref z],[]⟩) (λfin s'=>∃ v,fin=.done (.ret v)/\Q v s') E s:=by
 have ne:=D.ne;simp only [List.nodup_cons,mem_cons,not_mem_nil,not_or,or_false] at ne;obtain ⟨⟨n1,n2,n3,n4⟩,⟨n5,n6,n7⟩,⟨n8,n9⟩,n10,_⟩:=ne;have a1:=D.a1;have a2:=D.a2;simp only [mem_cons,not_mem_nil,not_or,or_false] at a1 a2;obtain ⟨q1,q2,q3,q4⟩:=a1;obtain ⟨r1,r2,r3,r4⟩:=a2;refine wpAny_bind (m:=field (.ref z) 2) (wpAny_field hz rfl (x:=.bool false) rfl ?_);refine wpAny_bind (m:=field (.ref z) 3) (wpAny_field hz rfl (x:=.ref ti) rfl ?_);refine wpAny_bind (wpAny_seqItems hi rfl ?_);refine wpAny_bind (m:=Builtin.SmallTypes.ownedTupleIsFree (.ref z)) ?_;unfold Builtin.SmallTypes.ownedTupleIsFree;refine wpAny_bind (wpAny_field hz rfl (x:=Value.none) rfl (wpAny_pure ?_));simp only [if_true];refine wpAny_bind (wpAny_rule (wpAny_bind (wpAny_field hz rfl (x:=.ref to) rfl (wpAny_bind (wpAny_setField_rec hz (by simp) λg1 z1 s1=>?_)))))
 replace z1:IsZip g1 z ti to Value.ellipsis:=z1
 refine wpAny_bind ?_;simp only [List.zipIdx_cons,List.zipIdx_nil,List.forIn_cons,List.forIn_nil];refine wpAny_bind (wpAny_bind (wpAny_onRaise (wpAny_bind (m:=Builtin.SmallTypes.nextOf (.ref i1)) ?_)));refine R1.item (R1.keep p1 λo e=>s1.extBut _ _ (Ne.symm n3) e) (R1.hkeep l1 λo e=>s1.extBut _ _ q1 e) hx λg2 p12 s2=>wpAny_pure ?_;have t2:IsPair g2 to a b:=s2.extBut _ _ n8 (s1.extBut _ _ (Ne.symm n2) ho);refine wpAny_bind (wpAny_seqItems t2 rfl (wpAny_bind (wpAny_updateSeq_pair t2 λg3 t3 s3=>?_)))
 replace t3:IsPair g3 to x b:=t3
 refine wpAny_bind (wpAny_letGo (wpAny_pure (wpAny_bind (wpAny_bind (wpAny_onRaise (wpAny_bind (m:=Builtin.SmallTypes.nextOf (.ref i2)) ?_))))));refine R2.item (R2.keep p2 λo e=>s3.extBut _ _ (Ne.symm n9) (s2.extBut _ _ (Ne.symm n10) (s1.extBut _ _ (Ne.symm n4) e))) (R2.hkeep l2 λo e=>s3.extBut _ _ r2 (s2.extBut _ _ r3 (s1.extBut _ _ r1 e))) hy λg4 p24 s4=>wpAny_pure ?_;have t4:IsPair g4 to x b:=s4.extBut _ _ n9 t3;refine wpAny_bind (wpAny_seqItems t4 rfl (wpAny_bind (wpAny_updateSeq_pair t4 λg5 t5 s5=>?_)))
 replace t5:IsPair g5 to x y:=t5
 refine wpAny_bind (wpAny_letGo (wpAny_pure (wpAny_pure (wpAny_bind (wpAny_seqItems t5 rfl (wpAny_bind (wpAny_newTuple ?_)))))));have sz:g5.objs.size=s.heap.objs.size:=by rw [s5.1,s4.1,s3.1,s2.1,s1.1]
 have z5:IsZip g5 z ti to Value.ellipsis:=s5.extBut _ _ n2 (s4.extBut _ _ n4 (s3.extBut _ _ n2 (s2.extBut _ _ n3 z1)));have kk:∀ c o,c∉[z,to,i1,i2]->s.heap.get? c=some o->g5.get? c=some o:=λc o hc e=>by
  simp only [mem_cons,not_mem_nil,not_or,or_false] at hc;exact s5.extBut _ _ hc.2.1 (s4.extBut _ _ hc.2.2.2 (s3.extBut _ _ hc.2.1 (s2.extBut _ _ hc.2.2.1 (s1.extBut _ _ hc.1 e))))
 have p15:S1 (k1+1) g5:=R1.keep p12 λo e=>s5.extBut _ _ (Ne.symm n8) (s4.extBut _ _ n10 (s3.extBut _ _ (Ne.symm n8) e));have p25:S2 (k2+1) g5:=R2.keep p24 λo e=>s5.extBut _ _ (Ne.symm n9) e;have zlt:z<g5.objs.size:=Heap.lt_size z5;refine wpAny_bind (m:=Builtin.SmallTypes.ownedTupleHandOut (.ref z) (.ref g5.objs.size)) ?_;unfold Builtin.SmallTypes.ownedTupleHandOut;have z6:IsZip (g5.push { cls:=.type "tuple",data:=.seq #[x,y] }) z ti to Value.ellipsis:=Heap.get?_push_of_some _ z5;refine wpAny_bind (wpAny_setField_rec z6 (by simp) λg7 z7 s7=>?_)
 replace z7:IsZip g7 z ti to (rawInt g5.objs.size):=z7
 refine wpAny_setField_rec z7 (by simp) λg8 z8 s8=>?_
 replace z8:IsZip g8 z ti to (rawInt g5.objs.size):=z8
 have up:∀ c o,c≠z->g5.get? c=some o->g8.get? c=some o:=λc o hc e=>s8.extBut _ _ hc (s7.extBut _ _ hc (Heap.get?_push_of_some _ e));have t8:IsPair g8 g5.objs.size x y:=s8.extBut _ _ (Nat.ne_of_gt zlt) (s7.extBut _ _ (Nat.ne_of_gt zlt) (Heap.get?_push_size _ rfl));rw [sz] at z8 t8;refine wpAny_pure ⟨_,rfl,?_⟩;show Q (Value.ref g5.objs.size) _;rw [sz];exact hQ g8 z8 (up _ _ (Ne.symm n2) t5) (R1.keep p15 λo e=>up _ o (Ne.symm n3) e) (R2.keep p25 λo e=>up _ o (Ne.symm n4) e) t8 λc o hc e=>up c o (λq=>hc (by simp [q])) (kk c o hc e)
def qiF {Q:Fin->Shared->Prop} (hh:A.handled=none) (R1:Src P w i1 c1 S1 H1) (R2:Src P w i2 c2 S2 H2) (D:ZA z ti to i1 i2 c1 c2) (hz:IsZip s.heap z ti to .none) (hi:IsPair s.heap ti (.ref i1) (.ref i2)) (ho:IsPair s.heap to a b)
  (p1:S1 k1 s.heap) (p2:S2 k2 s.heap) (l1:H1 xs s.heap) (l2:H2 ys s.heap) (hend:xs[k1]?=none\/ys[k2]?=none)
  (hE:∀ h' e,(∀ c o,c∉[z,to,i1,i2]->s.heap.get? c=some o->h'.get? c=some o)->(∃ o,h'.get? e=some o/\o.cls=.type "StopIteration")->E (.ref e) { s with heap:=h' }) :
  wpAny (model P w) A (Builtin.«zip.__next__» ⟨[.ref z],[]⟩) Q E s:=by
 have ne:=D.ne;simp only [List.nodup_cons,mem_cons,not_mem_nil,not_or,or_false] at ne;obtain ⟨⟨n1,n2,n3,n4⟩,⟨n5,n6,n7⟩,⟨n8,n9⟩,n10,_⟩:=ne;have a1:=D.a1;have a2:=D.a2;simp only [mem_cons,not_mem_nil,not_or,or_false] at a1 a2;obtain ⟨q1,q2,q3,q4⟩:=a1;obtain ⟨r1,r2,r3,r4⟩:=a2;refine wpAny_bind (m:=field (.ref z) 2) (wpAny_field hz rfl (x:=.bool false) rfl ?_);refine wpAny_bind (m:=field (.ref z) 3) (wpAny_field hz rfl (x:=.ref ti) rfl ?_);refine wpAny_bind (wpAny_seqItems hi rfl ?_);refine wpAny_bind (m:=Builtin.SmallTypes.ownedTupleIsFree (.ref z)) ?_;unfold Builtin.SmallTypes.ownedTupleIsFree;refine wpAny_bind (wpAny_field hz rfl (x:=Value.none) rfl (wpAny_pure ?_));simp only [if_true];refine wpAny_bind (wpAny_rule (wpAny_bind (wpAny_field hz rfl (x:=.ref to) rfl (wpAny_bind (wpAny_setField_rec hz (by simp) λg1 z1 s1=>?_)))))
 replace z1:IsZip g1 z ti to Value.ellipsis:=z1
 refine wpAny_bind ?_;simp only [List.zipIdx_cons,List.zipIdx_nil,List.forIn_cons,List.forIn_nil];refine wpAny_bind (wpAny_bind (wpAny_onRaise (wpAny_bind (m:=Builtin.SmallTypes.nextOf (.ref i1)) ?_)));cases hx:xs[k1]? with
 |none=>
  refine R1.done hh (R1.keep p1 λo e=>s1.extBut _ _ (Ne.symm n3) e) (R1.hkeep l1 λo e=>s1.extBut _ _ q1 e) hx λg2 e s2 ⟨oe,he,ce⟩=>?_;have z2:IsZip g2 z ti to Value.ellipsis:=s2 _ _ n3 z1;have ez:e≠z:=λq=>by subst q;rw [z2] at he;cases he;simp at ce
  refine wpAny_setField_rec z2 (by simp) λg3 _ s3=>hE g3 e (λc o hc q=>?_) ⟨oe,s3.extBut _ _ ez he,ce⟩;simp only [mem_cons,not_mem_nil,not_or,or_false] at hc;exact s3.extBut _ _ hc.1 (s2 _ _ hc.2.2.1 (s1.extBut _ _ hc.1 q))
 |some x=>
  have hy:ys[k2]?=none:=by rcases hend with q|q;rw [hx] at q;cases q;exact q
  refine R1.item (R1.keep p1 λo e=>s1.extBut _ _ (Ne.symm n3) e) (R1.hkeep l1 λo e=>s1.extBut _ _ q1 e) hx λg2 p12 s2=>wpAny_pure ?_;have t2:IsPair g2 to a b:=s2.extBut _ _ n8 (s1.extBut _ _ (Ne.symm n2) ho);refine wpAny_bind (wpAny_seqItems t2 rfl (wpAny_bind (wpAny_updateSeq_pair t2 λg3 t3 s3=>?_)));refine wpAny_bind (wpAny_letGo (wpAny_pure (wpAny_bind (wpAny_bind (wpAny_onRaise (wpAny_bind (m:=Builtin.SmallTypes.nextOf (.ref i2)) ?_))))));refine R2.done hh (R2.keep p2 λo e=>s3.extBut _ _ (Ne.symm n9) (s2.extBut _ _ (Ne.symm n10) (s1.extBut _ _ (Ne.symm n4) e))) (R2.hkeep l2 λo e=>s3.extBut _ _ r2 (s2.extBut _ _ r3 (s1.extBut _ _ r1 e))) hy λg4 e s4 ⟨oe,he,ce⟩=>?_;have z4:IsZip g4 z ti to Value.ellipsis:=s4 _ _ n4 (s3.extBut _ _ n2 (s2.extBut _ _ n3 z1));have ez:e≠z:=λq=>by subst q;rw [z4] at he;cases he;simp at ce
  refine wpAny_setField_rec z4 (by simp) λg5 _ s5=>hE g5 e (λc o hc q=>?_) ⟨oe,s5.extBut _ _ ez he,ce⟩;simp only [mem_cons,not_mem_nil,not_or,or_false] at hc;exact s5.extBut _ _ hc.1 (s4 _ _ hc.2.2.2 (s3.extBut _ _ hc.2.1 (s2.extBut _ _ hc.2.2.1 (s1.extBut _ _ hc.1 q))))
end
abbrev qp5 (b:Bool):String:=if b then "list_iterator" else "tuple_iterator"
abbrev ji (b:Bool) (c:Addr):Obj:={ cls:=.type (qp5 b),data:=.fields #[.ref c,.int 0 0] }
def qd0 (b:Bool) (it c:Addr) (k:Nat) (h:Heap):Prop:=match b with|true=>h.IsListIter it c k|false=>h.IsTupleIter it c k
def ME (b:Bool) (c:Addr) (xs:Array Value) (h:Heap):Prop:=match b with|true=>h.IsList c xs|false=>h.IsTuple c xs
def jq {P:Program} {w:World} (b:Bool) (it c:Addr):Src P w it c (qd0 b it c) (ME b c):=by
 cases b
 ·exact qgY it c
 ·exact qep it c
def NJ {P:Program} {w:World} {A:Around} {s:Shared} {b:Bool} {c:Addr} {xs:Array Value} {Q:Value->Shared->Prop} {E:Value->Shared->Prop} (h:ME b c xs s.heap) (q:Q (.ref s.heap.objs.size) { s with heap:=s.heap.push (ji b c) }) :
  wpAny (model P w) A (pyIter (.ref c)) Q E s:=by
 cases b
 ·exact wpAny_pyIter_tuple (show s.heap.IsTuple c xs from h) q
 ·exact wpAny_pyIter_list (show s.heap.IsList c xs from h) q
def qcA {b:Bool} {c:Addr} {xs:Array Value} {h:Heap} {o:Obj} (q:ME b c xs h):ME b c xs (h.push o):=by
 cases b
 ·exact (show h.IsTuple c xs from q).at λ_ e=>Heap.get?_push_of_some _ e
 ·exact (show h.IsList c xs from q).at λ_ e=>Heap.get?_push_of_some _ e
abbrev zh1 (h:Heap) (o1:Obj):Heap:=h.push o1
abbrev zh2 (h:Heap) (o1 o2:Obj):Heap:=(zh1 h o1).push o2
abbrev zh3 (h:Heap) (o1 o2:Obj):Heap:=(zh2 h o1 o2).push { cls:=.type "tuple",data:=.seq #[.ref h.objs.size,.ref (zh1 h o1).objs.size] }
abbrev zh4 (h:Heap) (o1 o2:Obj):Heap:=(zh3 h o1 o2).push { cls:=.type "tuple",data:=.seq #[.none,.none] }
abbrev zh5 (h:Heap) (o1 o2:Obj):Heap:=(zh4 h o1 o2).push { cls:=.type "zip",data:=.fields #[.none,.bool false,.bool false,.ref (zh2 h o1 o2).objs.size,.ref (zh3 h o1 o2).objs.size] }
def qcf (c1 c2:Addr) (o1 o2:Obj) :
  Meets (Builtin.«zip.__new__» ⟨[.type "zip",.ref c1,.ref c2],[]⟩) (λ_ R s=>
   (∀ (P:Program) (w:World) (A:Around) (Q:Value->Shared->Prop) (E:Value->Shared->Prop),Q (.ref s.heap.objs.size) { s with heap:=zh1 s.heap o1 }->wpAny (model P w) A (pyIter (.ref c1)) Q E s) /\
   (∀ (P:Program) (w:World) (A:Around) (Q:Value->Shared->Prop) (E:Value->Shared->Prop),Q (.ref (zh1 s.heap o1).objs.size) { s with heap:=zh2 s.heap o1 o2 }->wpAny (model P w) A (pyIter (.ref c2)) Q E { s with heap:=zh1 s.heap o1 }) /\
   R (.ok (.ret (.ref (zh4 s.heap o1 o2).objs.size))) { s with heap:=zh5 s.heap o1 o2 }):=
 .of_wp λprog w A R s h=>by
  obtain ⟨hp,g,d,tk,os⟩:=s;obtain ⟨h1,h2,h⟩:=h;have hsub:=sub_zip;have k1:=λA Q E=>h1 prog w A Q E;have k2:=λA Q E=>h2 prog w A Q E
  wp_walk using k1 _ _ _,k2 _ _ _
  exact ⟨_,rfl,h⟩
def qef (b1 b2:Bool) (z ti to i1 i2 c1 c2:Addr) (k:Nat) (h:Heap):Prop:=
 IsZip h z ti to .none/\IsPair h ti (.ref i1) (.ref i2)/\(∃ a b,IsPair h to a b)/\qd0 b1 i1 c1 k h/\qd0 b2 i2 c2 k h
section
variable {P:Program} {w:World} {A:Around} {s:Shared} {E:Value->Shared->Prop}
def qdC {b1 b2:Bool} {c1 c2:Addr} {xs ys:Array Value} {Q:Value->Shared->Prop} (h1:ME b1 c1 xs s.heap) (h2:ME b2 c2 ys s.heap)
  (q:∀ h',qef b1 b2 (s.heap.objs.size+4) (s.heap.objs.size+2) (s.heap.objs.size+3) s.heap.objs.size (s.heap.objs.size+1) c1 c2 0 h'->(∀ c o,s.heap.get? c=some o->h'.get? c=some o)->Q (.ref (s.heap.objs.size+4)) { s with heap:=h' }) :
  wpAny (model P w) A (call (.type "zip") [.ref c1,.ref c2]) Q E s:=by
 refine callType_new F.called_zip (by decide) (F.typeCall_zip_2 _ _) (F.newCall_zip_2 _ _) (λobj=>F.args_object_init_3 obj _ _) F.entry_zip_new
  (qcf c1 c2 (ji b1 c1) (ji b2 c2)) ⟨λP w A Q E q=>NJ h1 q,λP w A Q E q=>NJ (s:={ s with heap:=zh1 s.heap (ji b1 c1) }) (qcA h2) q,?_⟩
 have e1:(zh1 s.heap (ji b1 c1)).objs.size=s.heap.objs.size+1:=Heap.size_push ..;have e2:(zh2 s.heap (ji b1 c1) (ji b2 c2)).objs.size=s.heap.objs.size+2:=by rw [Heap.size_push,e1]
 have e3:(zh3 s.heap (ji b1 c1) (ji b2 c2)).objs.size=s.heap.objs.size+3:=by rw [Heap.size_push,e2]
 have e4:(zh4 s.heap (ji b1 c1) (ji b2 c2)).objs.size=s.heap.objs.size+4:=by rw [Heap.size_push,e3]
 have g5:(zh5 s.heap (ji b1 c1) (ji b2 c2)).get? (zh4 s.heap (ji b1 c1) (ji b2 c2)).objs.size=some _:=Heap.get?_push_size _ rfl;have g4:(zh5 s.heap (ji b1 c1) (ji b2 c2)).get? (zh3 s.heap (ji b1 c1) (ji b2 c2)).objs.size=some _:=Heap.get?_push_of_some _ (Heap.get?_push_size _ rfl);have g3:(zh5 s.heap (ji b1 c1) (ji b2 c2)).get? (zh2 s.heap (ji b1 c1) (ji b2 c2)).objs.size=some _:=Heap.get?_push_of_some _ (Heap.get?_push_of_some _ (Heap.get?_push_size _ rfl));have g2:(zh5 s.heap (ji b1 c1) (ji b2 c2)).get? (zh1 s.heap (ji b1 c1)).objs.size=some (ji b2 c2):=Heap.get?_push_of_some _ (Heap.get?_push_of_some _ (Heap.get?_push_of_some _ (Heap.get?_push_size _ rfl)));have g1:(zh5 s.heap (ji b1 c1) (ji b2 c2)).get? s.heap.objs.size=some (ji b1 c1):=Heap.get?_push_of_some _ (Heap.get?_push_of_some _ (Heap.get?_push_of_some _ (Heap.get?_push_of_some _ (Heap.get?_push_size _ rfl))));show _/\_;rw [e2,e3,e4] at g5;rw [e1,e2] at g3;rw [e3] at g4;rw [e1] at g2;rw [e4];refine ⟨⟨_,g5,rfl⟩,q _ ⟨g5,g3,⟨_,_,g4⟩,?_,?_⟩ λc o e=>Heap.get?_push_of_some _ (Heap.get?_push_of_some _ (Heap.get?_push_of_some _ (Heap.get?_push_of_some _ (Heap.get?_push_of_some _ e))))⟩
 ·cases b1<;>exact ⟨_,g1,rfl,rfl⟩
 ·cases b2<;>exact ⟨_,g2,rfl,rfl⟩
def qdW {b1 b2:Bool} {z ti to i1 i2 c1 c2:Addr} {k:Nat} {xs ys:Array Value} {x y:Value} {Q:Option Value->Shared->Prop} (D:ZA z ti to i1 i2 c1 c2) (st:qef b1 b2 z ti to i1 i2 c1 c2 k s.heap) (l1:ME b1 c1 xs s.heap) (l2:ME b2 c2 ys s.heap) (hx:xs[k]?=some x) (hy:ys[k]?=some y)
  (hQ:∀ h',IsZip h' z ti to (rawInt s.heap.objs.size)->IsPair h' ti (.ref i1) (.ref i2)->(∃ a b,IsPair h' to a b)->qd0 b1 i1 c1 (k+1) h'->qd0 b2 i2 c2 (k+1) h'->IsPair h' s.heap.objs.size x y->(∀ c o,c∉[z,to,i1,i2]->s.heap.get? c=some o->h'.get? c=some o)->Q (some (.ref s.heap.objs.size)) { s with heap:=h' }) :
  wpAny (model P w) A (pyNext (.ref z)) Q E s:=by
 obtain ⟨hz,hi,⟨a,b,ho⟩,p1,p2⟩:=st;have ty:s.TypeIs (.ref z) "zip" := ⟨_,hz,rfl⟩
 have nti:ti∉[z,to,i1,i2]:=by
  have ne:=D.ne;simp only [List.nodup_cons,mem_cons,not_mem_nil,not_or,or_false] at ne ⊢;exact ⟨Ne.symm ne.1.1,ne.2.1.1,ne.2.1.2.1,ne.2.1.2.2⟩
 unfold pyNext;exact wpAny_bind (wpAny_attempt (wpAny_callSpecial?_slot (name:=Str.ofString "__next__") ty F.slot_zip_next (wpAny_call_entry F.slot_zip_next ty F.entry_zip_next
  (qdt (jq b1 i1 c1) (jq b2 i2 c2) D hz hi ho p1 p2 l1 l2 hx hy λh' u1 u2 u3 u4 u5 u6=>wpAny_pure (hQ h' u1 (u6 _ _ nti hi) ⟨_,_,u2⟩ u3 u4 u5 u6)) (F.args_zip_next_1 _))))
def LY {b1 b2:Bool} {z ti to i1 i2 c1 c2:Addr} {k:Nat} {xs ys:Array Value} {Q:Option Value->Shared->Prop} (hh:A.handled=none) (D:ZA z ti to i1 i2 c1 c2) (st:qef b1 b2 z ti to i1 i2 c1 c2 k s.heap) (l1:ME b1 c1 xs s.heap) (l2:ME b2 c2 ys s.heap) (hend:xs[k]?=none\/ys[k]?=none)
  (hQ:∀ h',(∀ c o,c∉[z,to,i1,i2]->s.heap.get? c=some o->h'.get? c=some o)->Q none { s with heap:=h' }):wpAny (model P w) A (pyNext (.ref z)) Q E s:=by
 obtain ⟨hz,hi,⟨a,b,ho⟩,p1,p2⟩:=st;have ty:s.TypeIs (.ref z) "zip" := ⟨_,hz,rfl⟩
 unfold pyNext;refine wpAny_bind (wpAny_attempt (wpAny_callSpecial?_slot (name:=Str.ofString "__next__") ty F.slot_zip_next (wpAny_call_entry F.slot_zip_next ty F.entry_zip_next
  (qiF hh (jq b1 i1 c1) (jq b2 i2 c2) D hz hi ho p1 p2 l1 l2 hend λh' e hk ⟨o,q1,q2⟩=>?_) (F.args_zip_next_1 _))))
 exact wpAny_bind (wpAny_isInstance (T:="StopIteration") (b:=true) ⟨o,q1,q2⟩ isSubtype_stop (wpAny_pure (hQ _ hk)))
end
def SqB (K:Frg) (b:Bool) (H:Hp) (a:Addr) (xs:List V):Prop:=match b with|true=>SqL K H a xs|false=>SqT K H a xs
def SqB.get {X:Cx} {pins:List (Addr×Obj)} {σ:L2.St} {H:Hp} {s:Shared} {b:Bool} {a:Addr} {xs:List V} (I:Inv X pins σ H s) (h:SqB X.K b H a xs):∃ its:List Value,jh xs its/\ME b a its.toArray s.heap/\xs.length<=sizeLine:=by
 cases b
 ·obtain ⟨its,r,p,hz⟩:=I.tuple (show SqT X.K H a xs from h);exact ⟨its,r,(show s.heap.IsTuple a its.toArray from p),hz⟩
 ·obtain ⟨its,r,p,hz⟩:=I.list (show SqL X.K H a xs from h);exact ⟨its,r,p.isList,hz⟩
def SqB.inj {X:Cx} {pins:List (Addr×Obj)} {σ:L2.St} {H:Hp} {s:Shared} {b:Bool} {a:Addr} {xs ys:List V} (I:Inv X pins σ H s) (h:SqB X.K b H a xs) (h':SqB X.K b H a ys):xs=ys:=by
 cases b
 ·exact I.tuple_inj h h'
 ·exact I.list_inj h h'
def Itz (K:Frg) (b1 b2:Bool) (c1 c2:Addr):It:=
  ⟨λi H=>∃ xs ys x y,SqB K b1 H c1 xs/\SqB K b2 H c2 ys/\xs[i]?=some x/\ys[i]?=some y,
   λi H v H'=>∃ p x y,H p=none/\v=.ref p/\H'=upd H p (.tup [x,y])/\(∀ xs,SqB K b1 H c1 xs->xs[i]?=some x)/\(∀ ys,SqB K b2 H c2 ys->ys[i]?=some y),
   λi H=>∃ xs ys,SqB K b1 H c1 xs/\SqB K b2 H c2 ys/\(xs.length<=i\/ys.length<=i)⟩
def qgU {b:Bool} {c:Addr} {xs:Array Value} {h:Heap} (q:ME b c xs h):c<h.objs.size:=by
 cases b
 ·obtain ⟨o,e,_⟩:=(show h.IsTuple c xs from q);exact Heap.lt_size e
 ·obtain ⟨o,e,_⟩:=(show h.IsList c xs from q);exact Heap.lt_size e
def qdI {P:Program} {w:World} {K:Frg} {es:List Expr} {k1:Nat} {pt:Pos} {b1 b2:Bool} {z ti to i1 i2 c1 c2:Addr} (D:ZA z ti to i1 i2 c1 c2):Turn P w K (.Tuple es k1 pt) (Itz K b1 b2 c1 c2) [z,ti,to,i1,i2] z (qef b1 b2 z ti to i1 i2 c1 c2) where
 mem:=by simp
 obj:=λi h ⟨hz,hi,⟨a,b,ho⟩,p1,p2⟩ c hc=>by
  simp only [mem_cons,not_mem_nil,or_false] at hc;rcases hc with rfl|rfl|rfl|rfl|rfl
  ·exact ⟨_,hz,λv q=>by cases q⟩
  ·exact ⟨_,hi,λv q=>by cases q⟩
  ·exact ⟨_,ho,λv q=>by cases q⟩
  ·exact (jq (P:=P) (w:=w) b1 c c1).obj p1
  ·exact (jq (P:=P) (w:=w) b2 c c2).obj p2
 keep:=λi h h' ⟨hz,hi,⟨a,b,ho⟩,p1,p2⟩ k=>
  ⟨k z (by simp) _ hz,k ti (by simp) _ hi,⟨a,b,k to (by simp) _ ho⟩,(jq (P:=P) (w:=w) b1 i1 c1).keep p1 λo e=>k i1 (by simp) o e,(jq (P:=P) (w:=w) b2 i2 c2).keep p2 λo e=>k i2 (by simp) o e⟩
 item:=by
  intro X hP hw hK hc i pins s σ H E I hf st hg;subst hP hw hK;obtain ⟨xs,ys,x,y,sq1,sq2,hx,hy⟩:=hg;obtain ⟨its1,rv1,l1,z1⟩:=sq1.get I;obtain ⟨its2,rv2,l2,z2⟩:=sq2.get I;obtain ⟨u1,hu1,ru1⟩:=rv1.get hx;obtain ⟨u2,hu2,ru2⟩:=rv2.get hy;refine qdW D st l1 l2 (x:=u1) (y:=u2) (by simpa using hu1) (by simpa using hu2) λh' hz hi ho p1 p2 hp hk=>?_;have hfr:H s.heap.objs.size=none:=I.fresh;have free:∀ b∈[z,ti,to,i1,i2],H b=none:=λb hb=>(hf b hb).1;refine ⟨_,rfl,wpAny_letOwnedTupleGo_zip hz λh2 hz2 s2=>?_⟩;have zlt:z<s.heap.objs.size:=Heap.lt_size st.1;have hp2:IsPair h2 s.heap.objs.size u1 u2:=(s2.2 _ (Nat.ne_of_gt zlt)).trans hp;have ne:=D.ne;simp only [List.nodup_cons,mem_cons,not_mem_nil,not_or,or_false] at ne;have up:∀ c o,c≠z->h'.get? c=some o->h2.get? c=some o:=λc o hc e=>(s2.2 c hc).trans e;have kk:∀ c o,c∉[z,to,i1,i2]->s.heap.get? c=some o->h2.get? c=some o:=λc o hc e=>up c o (λq=>hc (by simp [q])) (hk c o hc e);have I3:Inv X pins σ (upd H s.heap.objs.size (.tup [x,y])) { s with heap:=h2 }:=by
   refine I.step (g':=s.gens) (d':=s.drawn) (t':=s.toks) (ch:=[z,to,i1,i2]) (λb hb=>?_) (λb o _ _ hcb e _=>kk b o hcb e) (λb o _ _ hcb e _=>⟨o.slots,kk b o hcb e⟩) (λb o _ e n=>by rw [qO (Nat.ne_of_lt (Heap.lt_size e))];exact n) (λb o hcb e=>⟨o,kk b o hcb e⟩)
    (λb _ e=>by rw [qO (qD e hfr)];exact e) (λb _ _ e=>by rw [qO (qD e hfr)];exact e) (λb ps e=>⟨#[],by rw [qO (qD e hfr),e];simp⟩) (λm hm=>?_) (λb u e=>?_) I.bare
   ·obtain ⟨f0,f1,f2,f3,f4,f5⟩:=hf b (by simp only [mem_cons,not_mem_nil,or_false] at hb ⊢;rcases hb with q|q|q|q<;>simp [q]);exact ⟨f3,f1,f4,f5⟩
   ·obtain ⟨o,es',ep,ho',r⟩:=hm;refine ⟨o,es',ep,kk _ o (λq=>?_) ho',r⟩;obtain ⟨f0,f1,_⟩:=hf X.env.locals (by simp only [mem_cons,not_mem_nil,or_false] at q ⊢;rcases q with q|q|q|q<;>simp [q]);exact f1 rfl
   ·by_cases hb:b=s.heap.objs.size
    ·subst hb;rw [zA] at e;cases e;exact ⟨by show 2<=sizeLine;decide,[u1,u2],.cons ru1 (.cons ru2 .nil),⟨_,hp2,rfl,_,rfl,rfl⟩⟩
    ·rw [qO hb] at e;refine (I.hok b u e).stay (λc v hcb q=>kk c v (λm=>?_) q) (λ_ q=>by rw [qO (qD q hfr)];exact q) λ_ _ q=>by rw [qO (qD q hfr)];exact q
     have hn:=free c (by simp only [mem_cons,not_mem_nil,or_false] at m ⊢;rcases m with q|q|q|q<;>simp [q]);rcases hcb with q|q
     ·rw [q] at hn;rw [hn] at e;cases e
     ·rw [hn] at q;cases q
  refine ⟨.ref s.heap.objs.size,_,I3,rfl,⟨_,x,y,hfr,rfl,rfl,λzs q=>by rw [q.inj I sq1];exact hx,λzs q=>by rw [q.inj I sq2];exact hy⟩,⟨hz2,up _ _ (Ne.symm ne.1.1) hi,let ⟨a,b,q⟩:=ho;⟨a,b,up _ _ (Ne.symm ne.1.2.1) q⟩,(jq (P:=X.prog) (w:=X.w) b1 i1 c1).keep p1 λo e=>up _ o (Ne.symm ne.1.2.2.1) e,(jq (P:=X.prog) (w:=X.w) b2 i2 c2).keep p2 λo e=>up _ o (Ne.symm ne.1.2.2.2) e⟩,λb hb=>?_⟩;rw [qO (λq=>?_)]
  ·exact free b hb
  ·subst q;obtain ⟨hz0,hi0,⟨a0,b0,ho0⟩,q1,q2⟩:=st;simp only [mem_cons,not_mem_nil,or_false] at hb;rcases hb with q|q|q|q|q
   ·exact absurd q (Nat.ne_of_gt zlt)
   ·exact absurd q (Nat.ne_of_gt (Heap.lt_size hi0))
   ·exact absurd q (Nat.ne_of_gt (Heap.lt_size ho0))
   ·obtain ⟨o,e,_⟩:=(jq (P:=X.prog) (w:=X.w) b1 i1 c1).obj q1;exact absurd q (Nat.ne_of_gt (Heap.lt_size e))
   ·obtain ⟨o,e,_⟩:=(jq (P:=X.prog) (w:=X.w) b2 i2 c2).obj q2;exact absurd q (Nat.ne_of_gt (Heap.lt_size e))
 done:=by
  intro X hP hw hK hc i pins s σ H E I hf st hg;subst hP hw hK;obtain ⟨xs,ys,sq1,sq2,hend⟩:=hg;obtain ⟨its1,rv1,l1,z1⟩:=sq1.get I;obtain ⟨its2,rv2,l2,z2⟩:=sq2.get I;have e1:=rv1.length;have e2:=rv2.length;refine LY (I.ok.hd hc) D st l1 l2 (by rcases hend with q|q;exact .inl (by simp;omega);exact .inr (by simp;omega)) λh' hk=>⟨rfl,?_⟩
  have free:∀ b∈[z,ti,to,i1,i2],H b=none:=λb hb=>(hf b hb).1;refine I.step (g':=s.gens) (d':=s.drawn) (t':=s.toks) (ch:=[z,to,i1,i2]) (λb hb=>?_) (λb o _ _ hcb e _=>hk b o hcb e) (λb o _ _ hcb e _=>⟨o.slots,hk b o hcb e⟩) (λ_ _ _ _ n=>n) (λb o hcb e=>⟨o,hk b o hcb e⟩) (λ_ _ e=>e) (λ_ _ _ e=>e) (λb ps e=>⟨#[],by rw [e];simp⟩) (λm hm=>?_) (λb u e=>?_) I.bare
  ·obtain ⟨f0,f1,f2,f3,f4,f5⟩:=hf b (by simp only [mem_cons,not_mem_nil,or_false] at hb ⊢;rcases hb with q|q|q|q<;>simp [q]);exact ⟨f3,f1,f4,f5⟩
  ·obtain ⟨o,es',ep,ho',r⟩:=hm;refine ⟨o,es',ep,hk _ o (λq=>?_) ho',r⟩;obtain ⟨f0,f1,_⟩:=hf X.env.locals (by simp only [mem_cons,not_mem_nil,or_false] at q ⊢;rcases q with q|q|q|q<;>simp [q]);exact f1 rfl
  ·refine (I.hok b u e).stay (λc v hcb q=>hk c v (λm=>?_) q) (λ_ q=>q) λ_ _ q=>q;have hn:=free c (by simp only [mem_cons,not_mem_nil,or_false] at m ⊢;rcases m with q|q|q|q<;>simp [q]);rcases hcb with q|q
   ·rw [q] at hn;rw [hn] at e;cases e
   ·rw [hn] at q;cases q
 self:=λA i s Q E st h=>wpAny_pyIter_zip st.1 h
def qmd {n c1 c2:Addr} (h1:c1<n) (h2:c2<n):ZA (n+4) (n+2) (n+3) n (n+1) c1 c2:=by
 have k:∀ n c:Nat,c<n->c≠n+4/\c≠n+3/\c≠n/\c≠n+1:=λn c h=>by omega
 have d:∀ n:Nat,(([n+4,n+2,n+3,n,n+1]:List Nat)).Nodup:=λn=>by
  simp only [List.nodup_cons,mem_cons,not_mem_nil,not_or,or_false,List.nodup_nil,and_true,not_false_eq_true];omega
 refine ⟨d n,?_,?_⟩
 ·simp only [mem_cons,not_mem_nil,not_or,or_false];exact k n c1 h1
 ·simp only [mem_cons,not_mem_nil,not_or,or_false];exact k n c2 h2
section
variable {X:Cx} {a b e l:Expr} {es:List Expr} {pos:Pos}
def qlW {p pt:Pos} {k1:Nat} {ta:TA} (hg:Gl X "zip") (hm:X.mg "zip" = none) (ha:PA X [a,b] ta) (hs:starEach [a,b] X.env=[(false,eval a X.env),(false,eval b X.env)]:=by rfl) (hs2:starEach [b] X.env=[(false,eval b X.env)]:=by rfl) :
  PI X (.Tuple es k1 pt) (.Call (.Name "zip" p) [a,b] [] pos) (λσ H R=>ta σ H λvs H1=>∃ b1 b2 c1 c2 xs ys,vs=[.ref c1,.ref c2]/\SqB X.K b1 H1 c1 xs/\SqB X.K b2 H1 c2 ys/\R (Itz X.K b1 b2 c1 c2) H1):=by
 intro pins s σ H R I h;refine Call_ (SA I hg hm PyProof.Rows.boot_zip (PyProof.Rows.callWith_type1 (thn (ha pos pins s σ H _ I h) λus s1 ⟨vs,H1,I1,r1,q1⟩=>?_) (by rw [hs,hs2]) (by rw [hs2];rfl)));obtain ⟨b1,b2,c1,c2,xs,ys,rfl,sq1,sq2,q⟩:=q1;obtain ⟨u1,u2,rfl,e1,e2⟩:=qdc r1;cases (show u1=Value.ref c1 from e1);cases (show u2=Value.ref c2 from e2);obtain ⟨its1,rv1,l1,z1⟩:=sq1.get I1;obtain ⟨its2,rv2,l2,z2⟩:=sq2.get I1;refine qdC l1 l2 λh' st hk=>wpAny_pyIter_zip st.1 ?_;refine ⟨s1.heap.objs.size+4,[s1.heap.objs.size+4,s1.heap.objs.size+2,s1.heap.objs.size+3,s1.heap.objs.size,s1.heap.objs.size+1],_,_,H1,rfl,I1.kept (t':=s1.toks) hk,qdI (qmd (qgU l1) (qgU l2)),st,λc hc=>?_,q⟩;have hle:s1.heap.objs.size<=c:=by
  simp only [mem_cons,not_mem_nil,or_false] at hc;rcases hc with rfl|rfl|rfl|rfl|rfl<;>first|exact Nat.le_refl _|exact Nat.le_add_right _ _
 exact I1.fpOk hle (I1.hok.fresh hle)
end
def ZS (G:Gp):T->Option (List T)
 |.tup xs=>some xs
 |.ref p=>getL G p
 |_=>none
def qcz {K:Frg} {G0:Gp} {H0:Hp} {x:T} {v:V} {us:List T} (hr0:HR K G0 H0) (rx:Rp K H0 x v) (h:ZS G0 x=some us) :
  ∃ b c,v=.ref c/\∀ G H,HR K G H->Kp G0 H0 G H->ZS G x=some us->∃ vs,SqB K b H c vs/\Rps K H us vs:=by
 cases rx with
 |tup hs rs=>
  cases h;exact ⟨false,_,rfl,λG H hr k _=>⟨_,(TQ hr0 k hs:SqT K H _ _),rs.keep hr0 k⟩⟩
 |ref a=>exact ⟨true,a,rfl,λG H hr k hq=>let ⟨vs,h1,h2⟩:=jA hr (show getL G a=some us from hq);⟨vs,h1,h2⟩⟩
 |_=>cases h
def qdn (us vs:List T):List T:=(us.zip vs).map λp=>.tup [p.1,p.2]
def TX {us vs:List T} {i:Nat} {x:T} (h:(qdn us vs)[i]?=some x):∃ a b,us[i]?=some a/\vs[i]?=some b/\x=.tup [a,b]:=by
 unfold qdn at h;rw [getElem?_map] at h;cases e:(us.zip vs)[i]? with
 |none=>rw [e] at h;cases h
 |some p=>
  rw [e] at h;have:=List.getElem?_zip_eq_some.mp e;exact ⟨p.1,p.2,this.1,this.2,by simpa using h.symm⟩
def qli {K:Frg} {b1 b2:Bool} {c1 c2:Addr} {x y:T} {us vs:List T} {G0:Gp} {H0:Hp}
  (f1:∀ G H,HR K G H->Kp G0 H0 G H->ZS G x=some us->∃ vs,SqB K b1 H c1 vs/\Rps K H us vs) (f2:∀ G H,HR K G H->Kp G0 H0 G H->ZS G y=some vs->∃ ws,SqB K b2 H c2 ws/\Rps K H vs ws) :
  qiE K (Itz K b1 b2 c1 c2) (qdn us vs) (λG=>ZS G x=some us/\ZS G y=some vs) G0 H0:=by
 intro G H hr k ⟨h1,h2⟩;obtain ⟨p,sp,rp⟩:=f1 G H hr k h1;obtain ⟨q,sq,rq⟩:=f2 G H hr k h2;refine ⟨λi z hz=>?_,λi z v H' hz hy=>?_,⟨p,q,sp,sq,?_⟩⟩
 ·obtain ⟨a,b,ha,hb,_⟩:=TX hz;obtain ⟨v,hv,_⟩:=rp.get ha;obtain ⟨w,hw,_⟩:=rq.get hb;exact ⟨p,q,v,w,sp,sq,hv,hw⟩
 ·obtain ⟨a,b,ha,hb,rfl⟩:=TX hz;obtain ⟨t,v1,v2,ht,rfl,rfl,g1,g2⟩:=hy;obtain ⟨v,hv,rv⟩:=rp.get ha;obtain ⟨w,hw,rw'⟩:=rq.get hb;have e1:=(g1 p sp).symm.trans hv;have e2:=(g2 q sq).symm.trans hw;obtain rfl:v1=v:=Option.some.inj e1;obtain rfl:v2=w:=Option.some.inj e2;have kk:Kp G H G (upd H t (.tup [v1,v2])):=Kp.laid ht;exact ⟨.tup (SqT.of zA) (.cons (rv.keep hr kk) (.cons (rw'.keep hr kk) .nil)),hr.laid ht,kk⟩
 ·rw [← rp.length,← rq.length,show (qdn us vs).length=min us.length vs.length by simp [qdn]];omega
def qd1 (ta:TA3):TI3:=λτ G r=>ta τ G λxs G1=>match xs with
 |[x,y]=>(match ZS G1 x,ZS G1 y with|some us,some vs=>r (qdn us vs) (λG=>ZS G x=some us/\ZS G y=some vs) G1|_,_=>False)
 |_=>False
section
variable {X:Cx} {a b e l:Expr} {es:List Expr} {pos:Pos} {t:TA3}
def qpX {p pt:Pos} {k1:Nat} (hg:Gl X "zip") (hm:X.mg "zip" = none) (ha:A3 X [a,b] t) (hs:starEach [a,b] X.env=[(false,eval a X.env),(false,eval b X.env)]:=by rfl) (hs2:starEach [b] X.env=[(false,eval b X.env)]:=by rfl) :
  I3 X (.Tuple es k1 pt) (.Call (.Name "zip" p) [a,b] [] pos) (qd1 t):=
 qkH (qlW hg hm ha hs hs2) λσ H R ⟨τ,G,r,rl,h,af⟩=>UH rl h λxs G1 h1 vs H1 rs hr1 k1 rl1=>by
  split at h1
  ·rename_i x y;split at h1
   ·rename_i us ws e1 e2;obtain ⟨v,u,rfl,r1,r2⟩:=qoh rs;obtain ⟨b1,c1,rfl,f1⟩:=qcz hr1 r1 e1;obtain ⟨b2,c2,rfl,f2⟩:=qcz hr1 r2 e2;obtain ⟨p,sp,_⟩:=f1 G1 H1 hr1 Kp.refl e1;obtain ⟨q,sq,_⟩:=f2 G1 H1 hr1 Kp.refl e2;exact ⟨b1,b2,c1,c2,p,q,rfl,sp,sq,af _ _ G1 h1 _ H1 hr1 k1 (qli f1 f2)⟩
   ·exact h1.elim
  ·exact h1.elim
def KF:List T->Gp->Q3->Prop:=λxs G q=>match xs with
 |[.ref p]=>(match getL G p with|some ys=>(match qfG ys with|some k=>q (.bl k) G|none=>False)|none=>False)
 |_=>False
def qco {K:Frg} {H:Hp}:∀ {ys:List T} {vs:List V} {k:Bool},Rps K H ys vs->qfG ys=some k->∃ ks:List Bool,vs=ks.map V.bl/\ks.all id=k
 |_,_,_,.nil,h=>by cases h;exact ⟨[],rfl,rfl⟩
 |y::ys,_,k,.cons a b,h=>by
  unfold qfG at h;split at h
  ·rename_i e;cases e
  ·rename_i j r e;cases e;split at h
   ·rename_i i ei;obtain ⟨ks,rfl,hk⟩:=qco b ei;cases a;cases h;exact ⟨j::ks,rfl,by rw [List.all_cons,hk];rfl⟩
   ·cases h
  ·cases h
def WJ {K:Frg}:qaF K KF (λxs H Q=>∃ (p:Addr) (ks:List Bool),xs=[.ref p]/\SqL K H p (ks.map V.bl)/\Q (.bl (ks.all id)) H):=λxs vs G H q Q hr rs h af=>by
 unfold KF at h;split at h
 ·rename_i p;obtain ⟨v,rfl,r⟩:=LF rs;cases r;split at h
  ·rename_i ys e0;split at h
   ·rename_i k e1;obtain ⟨us,hs,r2⟩:=jA hr e0;obtain ⟨ks,rfl,hk⟩:=qco r2 e1;exact ⟨p,ks,rfl,hs,by rw [hk];exact af _ G h _ H (.bl _) hr Kp.refl⟩
   ·exact h.elim
  ·exact h.elim
 ·exact h.elim
end
def qqa:Value->Bool
 |.type t=>t == "list"
 |_=>false
def WO:List (Addr×Obj)->Bool
 |[]=>true
 |p::r=>if qqa p.2.cls then false else WO r
def SL:∀ {K:List (Addr×Obj)} {a:Addr} {o:Obj},WO K=true->K.lookup a=some o->o.cls≠.type "list"
 |[],_,_,_,e=>by simp at e
 | (b,x)::r,a,o,h,e=>by
  unfold WO at h;split at h
  ·cases h
  ·rename_i hx;rw [List.lookup_cons] at e;split at e
   ·cases e;intro z;rw [z] at hx;exact hx rfl
   ·exact SL h e
def qaN {K:Frg} {H:Hp} {a:Addr} {ns:List Int} (hK:WO K=true) (hO:qoa H) (hS:SqL K H a (ns.map V.int)):∃ o,H a=some (.frz o (.lst (ns.map V.int))):=by
 rcases hS with (h|h)|⟨o,its,n,h1,h2,_⟩
 ·rcases hO a with z|⟨o,xs,z⟩<;>(rw [h] at z;cases z)
 ·exact h
 ·exact absurd h2 (SL hK h1)
def only (a:Addr) (ns:List Int):Gp:=λb=>if b=a then some (.frz (ns.map T.int)) else none
def qh8 {K:Frg} {H:Hp} {a:Addr} {ns:List Int} (h:∃ o,H a=some (.frz o (.lst (ns.map V.int)))):HR K (only a ns) H:=λb o e=>by
 unfold only at e;split at e
 ·rename_i hb;subst hb;cases e;exact ⟨_,h,Rps.ints ns⟩
 ·cases e
def SF:Sp3:=λts G q=>∃ (a:Addr) (ns:List Int),ts=[.ref a]/\G a=some (.frz (ns.map T.int))/\ns.length<=63/\∀ G',q (.bl true) G'
def qpR {l:PySem.W.OpenLaw} {k:Nat} {q:Program} {loose:List Str} {XP:(Str->Option Value)->Heap->Prop} {YP:World->Heap->Prop} {d:DefRec} {K:Params->PySem.W.Frag} {x:Str} (hn:l.most=some 63) (hdf:d.params.defaults=[]) (hr:Room k callerA)
  (hY:∀ (w:World) (h:Heap),YP w h->(K w.params).In h) (hK:∀ w:World,WO (K w.params)=true)
  (F:∀ (w:World) (mg:Str->Option Value) (fa:Addr) (h:Heap),(K w.params).In h->h.Ns mainGlobals mg->mg d.name=some (.ref fa) ->
   ∃ fd:FuncData,(∀ (s:Shared) (u:Value),BindsTo s fd ⟨[u],[]⟩ [(x,u)])/\∀ base:Heap,(K w.params).In base->base.Ns mainGlobals mg->FnOk l.prog w (K w.params) mg base CX0 k fa fd [x] (lSp (K w.params) SF)) :
  PySem.W.WalkO q loose XP YP l.row.toRowW d [] (λf vs=>PySem.call f vs):=
 L2.qhF (n:=63) (k:=k) (x:=x) (CX:=λ_=>CX0) (sp:=λw=>lSp (K w.params) SF) hn (by decide) hdf hr hY F
  (λw H a ns hl hO hS=>⟨[.ref a],only a ns,λt _=>t=.bl true,qh8 (qaN (hK w) hO hS),.cons (.ref a) .nil,⟨a,ns,rfl,by simp [only],hl,λ_=>rfl⟩,λt G' e v H' r _ _=>by subst e;cases r;rfl⟩) λ_ _ _ _ _ z=>z
def qiD {P:Program} {w:World} {K:Frg} {mg:Str->Option Value} {base:Heap} {x qual:Str} {st:Stmt} {f:Addr} {fd:FuncData} {N ps:List Str} {k:Nat} {sp:Sp3} {t3:TS3} (F:Fun K x qual st f fd) (S:FnScope N ps (qj st))
  (body:∀ (cdv:Value) (A:Around) (outer:List Env) (s:Shared) (H:Hp) (E:XK),Room k (A.deeper (envOfC qual (qj st) s.heap.objs.size f cdv)) ->
   B3 (qdq CX0 P w K mg base N qual (qj st) f cdv A outer s H E).nox (QK st) t3)
  (read:∀ ts G q,sp ts G q->ts.length=ps.length/\t3 { nx:=λ_ G'=>q .non G',rt:=q } (qv N ts) G):FnOk P w K mg base CX0 (k+1) f fd ps (lSp K sp):=by
 refine F.ok S (λvs H Q E ⟨ts,G,q,h1,h2,h3,h4⟩=>by rw [← h2.length];exact (read ts G q h3).1) λcdv A outer s H vs Q E hr ⟨ts,G,q,h1,h2,h3,h4⟩=>?_;refine ⟨_,body cdv A outer s H E hr,qv N ts,G,_,MC h1 h2,(read ts G q h3).2,⟨λτ' G' h' σ' H' rl' k'=>h4 _ G' h' _ H' .non rl'.hp k',h4,λ_ _ z=>z.elim,λ_ _ z=>z.elim⟩⟩
abbrev eh1 (h:Heap) (o1:Obj):Heap:=h.push o1
abbrev eh2 (h:Heap) (o1:Obj):Heap:=(eh1 h o1).push { cls:=.type "enumerate",data:=.fields #[.none,.bool false,.ref h.objs.size,rawInt 0,.none,.none] }
def qaB (c:Addr) (o1:Obj) (ob:Obj) :
  Meets (Builtin.«enumerate.__new__» ⟨[.type "enumerate",.ref c],[]⟩) (λ_ R s=>s.heap.get? c=some ob /\
   (∀ (P:Program) (w:World) (A:Around) (Q:Value->Shared->Prop) (E:Value->Shared->Prop),Q (.ref s.heap.objs.size) { s with heap:=eh1 s.heap o1 }->wpAny (model P w) A (pyIter (.ref c)) Q E s) /\
   R (.ok (.ret (.ref (eh1 s.heap o1).objs.size))) { s with heap:=eh2 s.heap o1 }):=
 .of_wp λprog w A R s h=>by
  obtain ⟨hp,g,d,tk,os⟩:=s;obtain ⟨hl,h1,h⟩:=h;have hsub:=sub_enumerate;have k1:=λA Q E=>h1 prog w A Q E
  wp_walk using wpAny_loadPart' hl
  refine wpAny_stack_any λst=>wpAny_pure ?_;split
  ·rename_i c _ _ _ _ _;cases (c==Value.type "enumerate")
   ·wp_walk using wpAny_loadPart' hl,k1 _ _ _
    exact ⟨_,rfl,h⟩
   ·wp_walk using wpAny_loadPart' hl,k1 _ _ _
    exact ⟨_,rfl,h⟩
  ·wp_walk using wpAny_loadPart' hl,k1 _ _ _
   exact ⟨_,rfl,h⟩
def qdS {b:Bool} {c:Addr} {xs:Array Value} {h:Heap} (q:ME b c xs h):∃ o,h.get? c=some o:=by
 cases b
 ·obtain ⟨o,e,_⟩:=(show h.IsTuple c xs from q);exact ⟨o,e⟩
 ·obtain ⟨o,e,_⟩:=(show h.IsList c xs from q);exact ⟨o,e⟩
section
variable {P:Program} {w:World} {A:Around} {s:Shared} {E:Value->Shared->Prop}
def qcO {b:Bool} {c:Addr} {xs:Array Value} {Q:Value->Shared->Prop} (h1:ME b c xs s.heap)
  (q:∀ h',IsEnum h' (s.heap.objs.size+1) s.heap.objs.size 0 .none->qd0 b s.heap.objs.size c 0 h'->(∀ c o,s.heap.get? c=some o->h'.get? c=some o)->Q (.ref (s.heap.objs.size+1)) { s with heap:=h' }) :
  wpAny (model P w) A (call (.type "enumerate") [.ref c]) Q E s:=by
 obtain ⟨ob,hob⟩:=qdS h1;refine callType_new F.called_enumerate (by decide) (F.typeCall_enumerate_1 _) (F.newCall_enumerate_1 _) (λobj=>F.args_object_init_2 obj _) F.entry_enumerate_new
  (qaB c (ji b c) ob) ⟨hob,λP w A Q E q=>NJ h1 q,?_⟩
 have e1:(eh1 s.heap (ji b c)).objs.size=s.heap.objs.size+1:=Heap.size_push ..;have g2:(eh2 s.heap (ji b c)).get? (eh1 s.heap (ji b c)).objs.size=some _:=Heap.get?_push_size _ rfl;have g1:(eh2 s.heap (ji b c)).get? s.heap.objs.size=some (ji b c):=Heap.get?_push_of_some _ (Heap.get?_push_size _ rfl);show _/\_;rw [e1] at g2 ⊢;refine ⟨⟨_,g2,rfl⟩,q _ g2 ?_ λc o e=>Heap.get?_push_of_some _ (Heap.get?_push_of_some _ e)⟩;cases b<;>exact ⟨_,g1,rfl,rfl⟩
end
def qea {P:Program} {w:World} {A:Around} (hh:A.handled=none) (b:Bool) (it c:Addr) (hne:c≠it) (xs:Array Value) :
  Draws P w A it [it,c] xs.size (λi v=>xs[i]?=some v) (λi h=>qd0 b it c i h/\ME b c xs h) where
 live:=λi h st=>let ⟨o,e,_⟩:=(jq (P:=P) (w:=w) b it c).obj st.1;⟨o,e⟩
 frame:=λi h h' st hk=>⟨(jq (P:=P) (w:=w) b it c).keep st.1 λo e=>hk it (by simp) o e,(jq (P:=P) (w:=w) b it c).hkeep st.2 λo e=>hk c (by simp) o e⟩
 item:=λi s Q E hi st hQ=>by
  refine (jq (P:=P) (w:=w) b it c).item st.1 st.2 (x:=xs[i]) (by simp [hi]) λh' st' sb=>?_;exact hQ _ h' s.toks (by simp [hi]) ⟨st',(jq (P:=P) (w:=w) b it c).hkeep st.2 λo e=>(sb.2 c hne).trans e⟩ sb
 done:=λs Q E st hE=>(jq (P:=P) (w:=w) b it c).done hh st.1 st.2 (by simp) hE
def SX {P:Program} {w:World} {A:Around} {s:Shared} {E:Value->Shared->Prop} {b:Bool} {e it c:Addr} {i:Nat} {xs:Array Value} {old:Value} {Q:Option Value->Shared->Prop} (hh:A.handled=none) (he:IsEnum s.heap e it i old) (p1:qd0 b it c i s.heap) (l1:ME b c xs s.heap) (hx:xs[i]?=none)
  (hQ:∀ h',Heap.ExtBut it s.heap h'->Q none { s with heap:=h' }):wpAny (model P w) A (pyNext (.ref e)) Q E s:=by
 have hT:s.TypeIs (.ref e) "enumerate" := ⟨_,he,rfl⟩
 unfold pyNext;refine wpAny_bind (wpAny_attempt (wpAny_callSpecial?_slot (name:=Str.ofString "__next__") hT F.slot_enumerate_next
  (wpAny_call_entry F.slot_enumerate_next hT F.entry_enumerate_next ?_ (F.args_enumerate_next_1 _))))
 show wpAny _ _ (field (.ref e) 2 >>= _) _ _ _;refine wpAny_bind (wpAny_field he rfl (x:=.ref it) rfl ?_);refine wpAny_bind ((jq (P:=P) (w:=w) b it c).done (show A.in1.handled=none from hh) p1 l1 hx λh' x he' hx'=>?_);obtain ⟨o,ho,hc⟩:=hx';refine wpAny_bind (wpAny_isInstance (T:="StopIteration") (b:=true) ⟨o,ho,hc⟩ isSubtype_stop ?_);exact wpAny_pure (hQ _ he')
def Ite (K:Frg) (b:Bool) (c:Addr):It:=
  ⟨λi H=>∃ xs x,SqB K b H c xs/\xs[i]?=some x,
   λi H v H'=>∃ p x,H p=none/\v=.ref p/\H'=upd H p (.tup [.int i,x])/\(∀ xs,SqB K b H c xs->xs[i]?=some x),
   λi H=>∃ xs,SqB K b H c xs/\xs.length<=i⟩
def qnq (b:Bool) (e it c:Addr) (k:Nat) (h:Heap):Prop:=(∃ old,IsEnum h e it k old)/\qd0 b it c k h
def qcY {P:Program} {w:World} {K:Frg} {es:List Expr} {k1:Nat} {pt:Pos} {b:Bool} {e it c:Addr} (n1:e≠it) (n2:c≠e) (n3:c≠it):Turn P w K (.Tuple es k1 pt) (Ite K b c) [e,it] e (qnq b e it c) where
 mem:=by simp
 obj:=λi h ⟨⟨old,he⟩,p1⟩ d hd=>by
  simp only [mem_cons,not_mem_nil,or_false] at hd;rcases hd with rfl|rfl
  ·exact ⟨_,he,λv q=>by cases q⟩
  ·exact (jq (P:=P) (w:=w) b d c).obj p1
 keep:=λi h h' ⟨⟨old,he⟩,p1⟩ k=>⟨⟨old,k e (by simp) _ he⟩,(jq (P:=P) (w:=w) b it c).keep p1 λo e=>k it (by simp) o e⟩
 item:=by
  intro X hP hw hK hc i pins s σ H E I hf st hg;subst hP hw hK;obtain ⟨xs,x,sq,hx⟩:=hg;obtain ⟨its,rv,l1,z1⟩:=sq.get I;obtain ⟨u,hu,ru⟩:=rv.get hx;obtain ⟨⟨old,he⟩,p1⟩:=st;have hil:i<its.toArray.size:=by have:=(List.getElem?_eq_some_iff.mp hu).1;simpa using this
  refine wpAny_pyNext_enum_itemD (qea (show X.A.in1.handled=none from I.ok.hd hc) b it c n3 its.toArray) he ⟨p1,l1⟩ hil n1 (by simp only [mem_cons,not_mem_nil,or_false,not_or];exact ⟨n1,Ne.symm n2⟩) λy h' tk hy ho st' ht hsz hk=>?_;have hy':y=u:=by
   have:its.toArray[i]?=some u:=by simpa using hu
   rw [this] at hy;exact (Option.some.inj hy).symm
  subst hy';have hfr:H s.heap.objs.size=none:=I.fresh;have free:∀ b∈[e,it],H b=none:=λb hb=>(hf b hb).1;refine ⟨_,rfl,wpAny_letOwnedTupleGo_enum ho λh2 hz2 s2=>?_⟩;have elt:e<s.heap.objs.size:=Heap.lt_size he;have hp2:h2.get? s.heap.objs.size=some { cls:=.type "tuple",data:=.seq #[.int i tk,y] }:=(s2.2 _ (Nat.ne_of_gt elt)).trans ht;have up:∀ c o,c≠e->h'.get? c=some o->h2.get? c=some o:=λc o hc e=>(s2.2 c hc).trans e;have kk:∀ c o,c∉[e,it]->s.heap.get? c=some o->h2.get? c=some o:=λc o hc q=>by
   simp only [mem_cons,not_mem_nil,or_false,not_or] at hc;exact up c o hc.1 (hk c o hc.1 hc.2 q)
  have I3:Inv X pins σ (upd H s.heap.objs.size (.tup [.int i,x])) { s with heap:=h2,toks:=tk+1 }:=by
   refine I.step (g':=s.gens) (d':=s.drawn) (t':=tk+1) (ch:=[e,it]) (λb hb=>?_) (λb o _ _ hcb e _=>kk b o hcb e) (λb o _ _ hcb e _=>⟨o.slots,kk b o hcb e⟩) (λb o _ e n=>by rw [qO (Nat.ne_of_lt (Heap.lt_size e))];exact n) (λb o hcb e=>⟨o,kk b o hcb e⟩)
    (λb _ e=>by rw [qO (qD e hfr)];exact e) (λb _ _ e=>by rw [qO (qD e hfr)];exact e) (λb ps e=>⟨#[],by rw [qO (qD e hfr),e];simp⟩) (λm hm=>?_) (λb u e=>?_) I.bare
   ·obtain ⟨f0,f1,f2,f3,f4,f5⟩:=hf b hb;exact ⟨f3,f1,f4,f5⟩
   ·obtain ⟨o,es',ep,ho',r⟩:=hm;refine ⟨o,es',ep,kk _ o (λq=>?_) ho',r⟩;obtain ⟨f0,f1,_⟩:=hf X.env.locals q;exact f1 rfl
   ·by_cases hb:b=s.heap.objs.size
    ·subst hb;rw [zA] at e;cases e;exact ⟨by show 2<=sizeLine;decide,[.int i tk,y],.cons ⟨tk,rfl⟩ (.cons ru .nil),⟨_,hp2,rfl,_,rfl,rfl⟩⟩
    ·rw [qO hb] at e;refine (I.hok b u e).stay (λc v hcb q=>kk c v (λm=>?_) q) (λ_ q=>by rw [qO (qD q hfr)];exact q) λ_ _ q=>by rw [qO (qD q hfr)];exact q
     have hn:=free c m;rcases hcb with q|q
     ·rw [q] at hn;rw [hn] at e;cases e
     ·rw [hn] at q;cases q
  refine ⟨.ref s.heap.objs.size,_,I3,rfl,⟨_,x,hfr,rfl,rfl,λzs q=>by rw [q.inj I sq];exact hx⟩,⟨⟨_,by push_cast;exact hz2⟩,(jq (P:=X.prog) (w:=X.w) b it c).keep st'.1 λo e=>up _ o (Ne.symm n1) e⟩,λb hb=>?_⟩;rw [qO (λq=>?_)]
  ·exact free b hb
  ·subst q;simp only [mem_cons,not_mem_nil,or_false] at hb;rcases hb with q|q
   ·exact absurd q (Nat.ne_of_gt elt)
   ·obtain ⟨o,e,_⟩:=(jq (P:=X.prog) (w:=X.w) b it c).obj p1;exact absurd q (Nat.ne_of_gt (Heap.lt_size e))
 done:=by
  intro X hP hw hK hc i pins s σ H E I hf st hg;subst hP hw hK;obtain ⟨xs,sq,hend⟩:=hg;obtain ⟨its,rv,l1,z1⟩:=sq.get I;obtain ⟨⟨old,he⟩,p1⟩:=st;have e1:=rv.length;have free:∀ b∈[e,it],H b=none:=λb hb=>(hf b hb).1;refine SX (I.ok.hd hc) he p1 l1 (by simp;omega) λh' hk0=>⟨rfl,?_⟩
  have hk:∀ c o,c∉[e,it]->s.heap.get? c=some o->h'.get? c=some o:=λc o hcb q=>hk0 c o (by simp only [mem_cons,not_mem_nil,or_false,not_or] at hcb;exact hcb.2) q;refine I.step (g':=s.gens) (d':=s.drawn) (t':=s.toks) (ch:=[e,it]) (λb hb=>?_) (λb o _ _ hcb e _=>hk b o hcb e) (λb o _ _ hcb e _=>⟨o.slots,hk b o hcb e⟩) (λ_ _ _ _ n=>n) (λb o hcb e=>⟨o,hk b o hcb e⟩) (λ_ _ e=>e) (λ_ _ _ e=>e) (λb ps e=>⟨#[],by rw [e];simp⟩) (λm hm=>?_) (λb u e=>?_) I.bare
  ·obtain ⟨f0,f1,f2,f3,f4,f5⟩:=hf b hb;exact ⟨f3,f1,f4,f5⟩
  ·obtain ⟨o,es',ep,ho',r⟩:=hm;refine ⟨o,es',ep,hk _ o (λq=>?_) ho',r⟩;obtain ⟨f0,f1,_⟩:=hf X.env.locals q;exact f1 rfl
  ·refine (I.hok b u e).stay (λc v hcb q=>hk c v (λm=>?_) q) (λ_ q=>q) λ_ _ q=>q;have hn:=free c m;rcases hcb with q|q
   ·rw [q] at hn;rw [hn] at e;cases e
   ·rw [hn] at q;cases q
 self:=λA i s Q E st h=>let ⟨⟨old,he⟩,_⟩:=st;wpAny_pyIter_enum he h
section
variable {X:Cx} {a b e l:Expr} {es:List Expr} {pos:Pos}
def qiG {p pt:Pos} {k1:Nat} {ta:TA} (hg:Gl X "enumerate") (hm:X.mg "enumerate" = none) (ha:PA X [a] ta) (hs:starEach [a] X.env=[(false,eval a X.env)]:=by rfl) :
  PI X (.Tuple es k1 pt) (.Call (.Name "enumerate" p) [a] [] pos) (λσ H R=>ta σ H λvs H1=>∃ b1 c1 xs,vs=[.ref c1]/\SqB X.K b1 H1 c1 xs/\R (Ite X.K b1 c1) H1):=by
 intro pins s σ H R I h;refine Call_ (SA I hg hm PyProof.Rows.boot_enumerate (PyProof.Rows.callWith_type1 (thn (ha pos pins s σ H _ I h) λus s1 ⟨vs,H1,I1,r1,q1⟩=>?_) (by rw [hs];rfl) (by rfl)));obtain ⟨b1,c1,xs,rfl,sq1,q⟩:=q1;obtain ⟨u1,rfl,e1⟩:=SZ r1;cases (show u1=Value.ref c1 from e1);obtain ⟨its1,rv1,l1,z1⟩:=sq1.get I1;refine qcO l1 λh' he hit hk=>wpAny_pyIter_enum he ?_;have lt:=qgU l1;have ne3:∀ n c:Nat,c<n->n+1≠n/\c≠n+1/\c≠n:=λn c h=>by omega
 obtain ⟨m1,m2,m3⟩:=ne3 _ _ lt;refine ⟨s1.heap.objs.size+1,[s1.heap.objs.size+1,s1.heap.objs.size],_,_,H1,rfl,I1.kept (t':=s1.toks) hk,qcY m1 m2 m3,⟨⟨_,he⟩,hit⟩,λc hc=>?_,q⟩;have hle:s1.heap.objs.size<=c:=by
  simp only [mem_cons,not_mem_nil,or_false] at hc;rcases hc with rfl|rfl<;>first|exact Nat.le_refl _|exact Nat.le_add_right _ _
 exact I1.fpOk hle (I1.hok.fresh hle)
end
def ZZ (k:Nat):List T->List T
 |[]=>[]
 |x::r=>.tup [.int (k:Int),x]::ZZ (k+1) r
def qeJ (us:List T):List T:=ZZ 0 us
def W0:∀ {us:List T} {k i:Nat} {x:T},(ZZ k us)[i]?=some x->∃ a,us[i]?=some a/\x=.tup [.int ((k+i:Nat):Int),a]
 |[],_,_,_,h=>by simp [ZZ] at h
 |u::us,k,0,x,h=>by simp [ZZ] at h;exact ⟨u,rfl,by simp [← h]⟩
 |u::us,k,i+1,x,h=>by
  simp [ZZ] at h;obtain ⟨a,ha,hx⟩:=W0 h;exact ⟨a,by simpa using ha,by rw [hx];congr 4;omega⟩
def WY:∀ (us:List T) (k:Nat),(ZZ k us).length=us.length
 |[],_=>rfl
 |u::us,k=>by simp [ZZ,WY us]
def qcl (us:List T):(qeJ us).length=us.length:=WY us 0
def KP {us:List T} {i:Nat} {x:T} (h:(qeJ us)[i]?=some x):∃ a,us[i]?=some a/\x=.tup [.int (i:Int),a]:=by
 obtain ⟨a,ha,hx⟩:=W0 h;exact ⟨a,ha,by rw [hx];congr 4;omega⟩
def qmY {K:Frg} {b1:Bool} {c1:Addr} {x:T} {us:List T} {G0:Gp} {H0:Hp}
  (f1:∀ G H,HR K G H->Kp G0 H0 G H->ZS G x=some us->∃ vs,SqB K b1 H c1 vs/\Rps K H us vs) :
  qiE K (Ite K b1 c1) (qeJ us) (λG=>ZS G x=some us) G0 H0:=by
 intro G H hr k h1;obtain ⟨p,sp,rp⟩:=f1 G H hr k h1;refine ⟨λi z hz=>?_,λi z v H' hz hy=>?_,⟨p,sp,?_⟩⟩
 ·obtain ⟨a,ha,_⟩:=KP hz;obtain ⟨v,hv,_⟩:=rp.get ha;exact ⟨p,v,sp,hv⟩
 ·obtain ⟨a,ha,rfl⟩:=KP hz;obtain ⟨t,v1,ht,rfl,rfl,g1⟩:=hy;obtain ⟨v,hv,rv⟩:=rp.get ha;have e1:=(g1 p sp).symm.trans hv;obtain rfl:v1=v:=Option.some.inj e1;have kk:Kp G H G (upd H t (.tup [.int i,v1])):=Kp.laid ht;exact ⟨.tup (SqT.of zA) (.cons (.int _) (.cons (rv.keep hr kk) .nil)),hr.laid ht,kk⟩
 ·rw [← rp.length,qcl];exact Nat.le_refl _
def KR (ta:TA3):TI3:=λτ G r=>ta τ G λxs G1=>match xs with
 |[x]=>(match ZS G1 x with|some us=>r (qeJ us) (λG=>ZS G x=some us) G1|_=>False)
 |_=>False
section
variable {X:Cx} {a b e l:Expr} {es:List Expr} {pos:Pos} {t:TA3}
def qnk {p pt:Pos} {k1:Nat} (hg:Gl X "enumerate") (hm:X.mg "enumerate" = none) (ha:A3 X [a] t) (hs:starEach [a] X.env=[(false,eval a X.env)]:=by rfl) :
  I3 X (.Tuple es k1 pt) (.Call (.Name "enumerate" p) [a] [] pos) (KR t):=
 qkH (qiG hg hm ha hs) λσ H R ⟨τ,G,r,rl,h,af⟩=>UH rl h λxs G1 h1 vs H1 rs hr1 k1 rl1=>by
  split at h1
  ·rename_i x;split at h1
   ·rename_i us e1;obtain ⟨v,rfl,r1⟩:=LF rs;obtain ⟨b1,c1,rfl,f1⟩:=qcz hr1 r1 e1;obtain ⟨p,sp,_⟩:=f1 G1 H1 hr1 Kp.refl e1;exact ⟨b1,c1,p,rfl,sp,af _ _ G1 h1 _ H1 hr1 k1 (qmY f1)⟩
   ·exact h1.elim
  ·exact h1.elim
end
section
variable {X:Cx} {a b c e:Expr} {es:List Expr} {ta tb tc te:TE3} {t:TA3} {pos:Pos}
def MF (i:Nat) (r:R3) (te:TE3):TS3:=λd τ G=>match τ[i]? with
 |some (some x)=>te τ G λy G1=>r x y G1 λz G2=>d.nx (τ.set i (some z)) G2
 |_=>False
def qeF (i:Nat) {x:Str} {pos':Pos} (hN:X.N.Nodup) (he:E3 X e te) (hi:X.N[i]?=some x:=by rfl) (hx:Loc X.env.scope x:=by first|exact Or.inl rfl|exact Or.inr rfl) (hf:X.fn x=true\/X.env.scope.names.lookup x=some .local:=by first|exact .inl rfl|exact .inr rfl) :
  S3 X (.AugAssign (.Name x pos') .Add e pos) (MF i (iI (·+·)) te):=
 qcq (qgj (i:=i) hN hi hx he qlv hf) λD σ H ⟨τ,G,d,rl,h,af⟩=>by
  unfold MF at h;split at h
  ·rename_i x e1;obtain ⟨v,e2,rv⟩:=rl.st i x e1;refine ⟨v,e2,zE rl h λy G1 h1 u H1 ry hr1 k1 rl1=>?_⟩;have rv1:=rv.keep rl.hp k1;cases x<;>try exact h1.elim
   cases y<;>try exact h1.elim
   cases rv1;cases ry;exact ⟨_,_,rfl,rfl,af.nx _ G1 h1 _ H1 (rl1.set i (.int _)) k1⟩
  ·exact h.elim
def qi0:List T->Gp->Q3->Prop:=λxs G q=>match xs with
 |[.ref p]=>(match getL G p with|some ys=>(match qn9 ys with|some k=>q (.bl k) G|none=>False)|none=>False)
 |_=>False
end
section
variable {X:Cx}
def qiy {elt tg iter:Expr} {ifs:List Expr} {scope:Scope} {pos cpos:Pos} {N':List Str} {m:List (Option Nat)} {wi:TI} {g:TG} {tif:TT} {te:TE} {use:Option (Value->Sem Unit)} {Qc:Value->Shared->Prop} {QD:Addr->Hp->Prop} (hc:X.calm=true) (hi:PI X tg iter wi)
  (hg:∀ s H fp,PG (qJ X N' scope s H fp) tg g) (hf:∀ s H fp,PF (qJ X N' scope s H fp) ifs tif) (he:∀ s H fp,PE (qJ X N' scope s H fp) elt te)
  (hsc:qek X.env.scope scope=true) (hcap:W7 X.N N' scope m=true) (hs:∀ x,foldedSetIterable iter X.env x=pure x) {pins:List (Addr×Obj)} {s:Shared} {σ:L2.St} {H:Hp} (I:Inv X pins σ H s)
  (h:wi σ H λJ H1=>∀ D,H1 D=none ->
   ∃ W:Nat->Nat->L2.St->Hp->Prop,(∃ n,W 0 n (cap m σ) (upd H1 D (.lst [])))/\∀ i n σ H,W i n σ H ->
    (J.stop i H/\QD D H)\/(J.go i H/\∀ x H',J.yld i H x H'->g x σ H' λσ2 H2=>tif σ2 H2 λk H3=>
     if k=true then te σ2 H3 λy H4=>∃ zs,H4 D=some (.lst zs)/\zs.length<sizeLine/\∃ n',n'<n/\W (i+1) n' σ2 (upd H4 D (.lst (zs++[y])))
     else ∃ n',n'<n/\W (i+1) n' σ2 H3))
  (fin:∀ (D:Addr) (s3:Shared) (H3:Hp) (fp:List Addr) (s6:Shared) (H6:Hp) (σ6:L2.St) (r:Flow),Inv X pins σ H3 s3->(∀ b∈fp,qap X pins H3 b)->Inv (qJ X N' scope s3 H3 fp) [] σ6 H6 s6->QD D H6->compPost (model X.prog X.w) X.A X.xe use Qc (.ref D) s3.heap.objs.size (.ok r) s6) :
  wpAny (model X.prog X.w) X.A (comprehension (.ListComp elt [⟨tg,iter,ifs,0⟩] scope pos) scope X.env cpos (newList []) false (eval iter X.env) use) Qc X.xe s:=by
 have sc:=RT hsc;have hcl:∀ y∈scope.names,y.2=.free->∃ c,X.env.cells.lookup y.1=some c:=λy hy e=>by
  rcases (sc.free y hy e).2 with z|z
  ·exact I.ok.has y.1 (.inl z)
  ·exact I.ok.has y.1 (.inr z)
 refine wpAny_comprehension_free (g:=⟨tg,iter,ifs,0⟩) (gs:=[]) rfl hs (DN hcl) sc.kind sc.loc ?_;show wpAny _ _ (eval iter X.env) _ _ s;refine thn (hi pins s σ H _ I h) λv s1 h1=>thn h1 λitv s2 h2=>?_;obtain ⟨it,fp,tn,J,H2,rfl,I2,T,st2,f2,hW⟩:=h2;refine wpAny_newObj_type ?_;have hD:H2 s2.heap.objs.size=none:=I2.fresh;obtain ⟨W,⟨n0,w0⟩,turn⟩:=hW _ hD;generalize hDe:s2.heap.objs.size=D at *;have I3:Inv X pins σ (upd H2 D (.lst [])) { s2 with heap:=s2.heap.push { cls:=.type "list",dict:=none,data:=.seq ([]:List Value).toArray } }:=by
  subst hDe;exact I2.laid (t':=s2.toks) (λb u e=>Heap.get?_push_of_some _ e) (Nat.le_refl _) ⟨Nat.zero_le _,[],0,.nil,Heap.get?_push_size _ rfl⟩
 have ob2:=T.obj 0 _ st2;have ob3:∀ b∈fp,∃ o,(s2.heap.push { cls:=.type "list",dict:=none,data:=.seq ([]:List Value).toArray }).get? b=some o:=λb hb=>let ⟨o,e,_⟩:=ob2 b hb;⟨o,Heap.get?_push_of_some _ e⟩
 have f3:∀ b∈fp,qap X pins (upd H2 D (.lst [])) b:=λb hb=>by
  obtain ⟨o,e,_⟩:=ob2 b hb;have:b≠D:=by rw [← hDe];exact Nat.ne_of_lt (Heap.lt_size e)
  exact ⟨by rw [qO this];exact (f2 b hb).1,(f2 b hb).2⟩
 have k23:∀ b o,s2.heap.get? b=some o->(s2.heap.push { cls:=.type "list",dict:=none,data:=.seq ([]:List Value).toArray }).get? b=some o:=λb o e=>Heap.get?_push_of_some _ e;generalize hH3:upd H2 D (.lst [])=H3 at *;generalize hs3:({ s2 with heap:=s2.heap.push { cls:=.type "list",dict:=none,data:=.seq ([]:List Value).toArray } }:Shared)=s3 at *;have ob3:∀ b∈fp,∃ o,s3.heap.get? b=some o:=by rw [← hs3];exact ob3
 have k23:∀ b o,s2.heap.get? b=some o->s3.heap.get? b=some o:=by rw [← hs3];exact k23
 refine VR λh₁ hns hk hown=>?_;have I4:Inv (qJ X N' scope s3 H3 fp) [] (cap m σ) H3 { s3 with heap:=h₁ }:=qad hc I3 sc hcap f3 ob3 hns hk hown;have tn4:tn 0 h₁:=T.keep _ _ _ st2 λb hb o e=>hk b o (k23 b o e);have fr4:∀ b∈fp,H3 b=none:=λb hb=>(f3 b hb).1;have stat:∀ {H':Hp},(∀ b∈fp,H' b=none)->∀ b∈fp,qap (qJ X N' scope s3 H3 fp) [] H' b:=λhn b hb=>by
  refine ⟨hn b hb,I4.ok.exf b hb |>.1,I4.ok.exfs b hb,.inl hb,λx c e=>(I4.ok.exf b hb).2 x c e,λp hp=>absurd (show p∈([]:List (Addr×Obj)) from hp) (by simp)⟩
 show codeAny (model X.prog X.w) X.A (.compStart (.ListComp elt [⟨tg,iter,ifs,0⟩] scope pos) 0 (.ref it) (.ref D) (qJ X N' scope s3 H3 fp).env) (compPost (model X.prog X.w) X.A X.xe use Qc (.ref D) s3.heap.objs.size) { s3 with heap:=h₁ };have loop:codeAny (model X.prog X.w) X.A (.compLoop (.ListComp elt [⟨tg,iter,ifs,0⟩] scope pos) 0 (.ref it) (.ref D) (qJ X N' scope s3 H3 fp).env) (compPost (model X.prog X.w) X.A X.xe use Qc (.ref D) s3.heap.objs.size) { s3 with heap:=h₁ }:=by
  refine codeAny_loop rfl (λn s'=>∃ i σ' H',Inv (qJ X N' scope s3 H3 fp) [] σ' H' s'/\tn i s'.heap/\(∀ b∈fp,H' b=none)/\W i n σ' H') (λn s' hI=>?_) n0 ⟨0,cap m σ,H3,I4,tn4,fr4,w0⟩;show wpAny _ X.A ((compTurn (.ListComp elt [⟨tg,iter,ifs,0⟩] scope pos) 0 (.ref it) (.ref D) (qJ X N' scope s3 H3 fp).env).onRaise (λx=>do noteFrame x (qJ X N' scope s3 H3 fp).env;theTreesLotGoes x)) _ _ s';refine wpAny_noted ?_;rw [compTurn_list];refine wpAny_bind (wpAny_standAt (wpAny_bind ?_));obtain ⟨i,σ5,H5,I5,st5,fr5,w5⟩:=hI;rcases turn i n σ5 H5 w5 with ⟨stop,q⟩|⟨go,step⟩
  ·refine thn (T.done (qJ X N' scope s3 H3 fp) rfl rfl rfl rfl i [] s' σ5 H5 _ I5 (stat fr5) st5 stop) λr s6 ⟨hr,I6⟩=>?_;subst hr;refine wpAny_pure ?_;exact fin D s3 H3 fp s6 H5 σ5 _ I3 f3 I6 q
  ·refine thn (T.item (qJ X N' scope s3 H3 fp) rfl rfl rfl rfl i [] s' σ5 H5 _ I5 (stat fr5) st5 go) λr s6 ⟨u,hr,h6⟩=>?_;subst hr;refine wpAny_bind (thn h6 λ_ s7 ⟨x,H7,I7,r7,y7,st7,fr7⟩=>?_);have I7':=I7.pinned (stat fr7) (T.obj _ _ st7);have again:∀ {σ8:L2.St} {H8:Hp} {s8:Shared},Inv (qJ X N' scope s3 H3 fp) ([]++RU fp s7.heap) σ8 H8 s8->(∃ n',n'<n/\W (i+1) n' σ8 H8) ->
     ∃ m',m'<n/\∃ i σ' H',Inv (qJ X N' scope s3 H3 fp) [] σ' H' s8/\tn i s8.heap/\(∀ b∈fp,H' b=none)/\W i m' σ' H':=λ{σ8 H8 s8} I8 ⟨n',hn,w8⟩=>by
    refine ⟨n',hn,i+1,σ8,H8,I8.unpinned,T.keep _ _ _ st7 λb hb o e=>(I8.pin (b,o) (mem_append_right _ (mem_append_right _ (Z9 hb e)))).1,λb hb=>?_,w8⟩;obtain ⟨o,e,d⟩:=T.obj _ _ st7 b hb;exact (I8.pin (b,o) (mem_append_right _ (mem_append_right _ (Z9 hb e)))).2.1
   refine wpAny_bind (wpAny_mono (hg s3 H3 fp _ s7 σ5 H7 x u _ I7' r7 (step x H7 y7)) (λ_ s8 ⟨σ8,H8,I8,q8⟩=>?_) λ_ _ z=>z.elim);refine wpAny_bind (wpAny_mono (hf s3 H3 fp _ s8 σ8 H8 _ I8 q8) (λk s9 ⟨H9,I9,q9⟩=>?_) λ_ _ z=>z.elim);cases k with
   |false=>
    rw [if_neg Bool.false_ne_true] at q9;exact wpAny_pure ⟨rfl,again I9 q9⟩
   |true=>
    rw [if_pos rfl] at q9;refine wpAny_bind (wpAny_bind (wpAny_mono (he s3 H3 fp _ s9 σ8 H9 _ I9 q9) (λw s10 ⟨y,H10,I10,r10,q10⟩=>?_) λ_ _ z=>z.elim));obtain ⟨zs,hz,hl,q10⟩:=q10;refine wpAny_bind (wpAny_mono (CA (X:=qJ X N' scope s3 H3 fp) _ s10 σ8 H10 (.ref D) [y] (.ref D) [w] (λ_ H11=>H11=upd H10 D (.lst (zs++[y]))) I10 rfl (.cons r10 .nil) ⟨D,zs,y,rfl,rfl,hz,hl,rfl⟩) (λ_ s11 ⟨_,H11,I11,_,e11⟩=>?_) λ_ _ z=>z.elim);subst e11;exact wpAny_pure (wpAny_pure ⟨rfl,again I11 q10⟩)
 exact codeAny_compStart_list loop (T.self X.A 0 _ _ _ tn4 loop)
def qdO {i:Nat} {y:Str} {py spos:Pos} {elt tg iter:Expr} {ifs:List Expr} {scope:Scope} {pos:Pos} {N':List Str} {m:List (Option Nat)} {wi:TI} {g:TG} {tif:TT} {te:TE} (hc:X.calm=true) (hN:X.N.Nodup) (hi:PI X tg iter wi)
  (hg:∀ s H fp,PG (qJ X N' scope s H fp) tg g) (hf:∀ s H fp,PF (qJ X N' scope s H fp) ifs tif) (he:∀ s H fp,PE (qJ X N' scope s H fp) elt te)
  (hsc:qek X.env.scope scope=true) (hcap:W7 X.N N' scope m=true) (hs:∀ x,foldedSetIterable iter X.env x=pure x) (hiy:X.N[i]?=some y) (hl:X.env.scope.names.lookup y=some .local)
  (hsw:swapsWith (.ListComp elt [⟨tg,iter,ifs,0⟩] scope pos) (some (.Name y py)) spos.line X.env=pure true) :
  PS X (.Assign [.Name y py] (.ListComp elt [⟨tg,iter,ifs,0⟩] scope pos) spos) (qpc (tLC wi g tif te m) (qgZ i)):=by
 intro pins s σ H D I h;rw [exec_Assign_Name_used _ _ _ _ hsw];refine wpAny_bind (wpAny_standAt (wpAny_bind ?_));show wpAny _ X.A (do let _←comprehension (.ListComp elt [⟨tg,iter,ifs,0⟩] scope pos) scope X.env _ (newList []) false (eval iter X.env) (some (assign (.Name y py) X.env))) _ _ s;refine wpAny_bind (wpAny_mono (qiy (use:=some (assign (.Name y py) X.env)) (QD:=λD' H'=>D.nx (σ.set i (some (.ref D'))) H') (Qc:=λ_ s'=>∃ σ' H',Inv X pins σ' H' s'/\D.nx σ' H') hc hi hg hf he hsc hcap hs I h λD' s3 H3 fp s6 H6 σ6 r I3 f3 I6 q=>?_) (λ_ s' hq=>wpAny_pure (wpAny_pure hq)) λ_ _ e=>e);have I7:Inv X pins σ H6 s6:=R8 (h2:=s6.heap) I3 f3 I6 ⟨rfl,λ_ _=>rfl⟩;obtain ⟨mm,hn6,_⟩:=I6.loc;have hfC:qap X pins H6 s3.heap.objs.size:=I3.fpOk (Nat.le_refl _) I6.free;obtain ⟨f0,f1,f2,f3',f4,f5⟩:=hfC;show wpAny _ X.A (assign (.Name y py) X.env (.ref D')) _ _ _;refine wpAny_assign_Name (K9 I7 hN hiy (.inl hl) (v:=.ref D') rfl (λs8 I8 hch=>?_) (.inr hl));obtain ⟨a,sb,ha⟩:=hch;have hne:s3.heap.objs.size≠a:=by
  rcases ha with rfl|ha
  ·exact f1
  ·exact Ne.symm (f4 _ _ ha)
 refine ⟨mm,hn6.sameBut sb hne,λh' sb'=>⟨_,_,I8.turned (t':=s8.toks) (λb o hb e=>(sb'.2 b hb).trans e) f0 f1 f3' f4 f5,q⟩⟩
end
def qoe {K:Frg} {m:List (Option Nat)} {wi:TI3} {g:TG3} {tif:TT3} {te:TE3} {σ:L2.St} {H:Hp} {Q:VK} (hh:lE K (lc3 wi g tif te m) σ H Q):tLC (lI K wi) (lG K g) (lT K tif) (lE K te) m σ H Q:=by
  obtain ⟨τ,G,q,rl,h,af⟩:=hh;refine ⟨τ,G,_,rl,h,λitems stay G1 h1 J H1 hr1 k1 ok D hD=>?_⟩;have gD:G1 D=none:=hr1.free hD;refine ⟨λi n σ' H'=>n=items.length-i/\i<=items.length/\∃ τ' G' ys vs,Rel K τ' G' σ' H'/\Kp G1 H1 G' H'/\H' D=some (.lst vs)/\Rps K H' ys vs/\G' D=none/\RC stay g tif te q (items.drop i) ys τ' G',
   ⟨_,rfl,Nat.zero_le _,cap m τ,G1,[],[],((rl.next hr1 k1).cap m).next (hr1.laid hD) (Kp.laid hD),Kp.laid hD,zA,.nil,gD,by simpa using h1⟩,?_⟩
  rintro i n σ' H' ⟨rfl,hi,τ',G',ys,vs,rl',k',hDl,rys,gD',h'⟩;by_cases hlt:i<items.length
  ·rw [List.drop_eq_getElem_cons hlt] at h';obtain ⟨hst,h'⟩:=h';obtain ⟨go,yld,_⟩:=ok G' H' rl'.hp k' hst;have hx:items[i]?=some items[i]:=getElem?_eq_getElem hlt;refine .inr ⟨go i _ hx,λv H2 y=>?_⟩;obtain ⟨rv,hr2,k2⟩:=yld i _ v H2 hx y;have nxt:∀ {τ4:St3} {G4:Gp} {σ4:L2.St} {H4:Hp} {ys4:List T} {vs4:List V},Rel K τ4 G4 σ4 H4->Kp G1 H1 G4 H4->H4 D=some (.lst vs4)->Rps K H4 ys4 vs4->G4 D=none->RC stay g tif te q (items.drop (i+1)) ys4 τ4 G4 ->
     ∃ n',n'<items.length-i/\(n'=items.length-(i+1)/\i+1<=items.length/\∃ τ' G' ys vs,Rel K τ' G' σ4 H4/\Kp G1 H1 G' H4/\H4 D=some (.lst vs)/\Rps K H4 ys vs/\G' D=none/\RC stay g tif te q (items.drop (i+1)) ys τ' G'):=
    λ{τ4 G4 σ4 H4 ys4 vs4} a b c d e f=>⟨_,by omega,rfl,hlt,τ4,G4,ys4,vs4,a,b,c,d,e,f⟩
   refine ⟨_,τ',G',_,rv,rl'.next hr2 k2,h',λτ3 G3 h3 σ3 H3 rl3 k3=>⟨τ3,G3,_,rl3,h3,λk G4 h4 H4 hr4 k4=>?_⟩⟩;have kk:=(k2.trans k3).trans k4;obtain ⟨hD4,gD4⟩:=kk D _ hDl gD';have rys4:=rys.keep rl'.hp kk;cases k with
   |false=>
    rw [if_neg Bool.false_ne_true] at h4;refine qqW ?_;exact nxt (rl3.next hr4 k4) (k'.trans kk) hD4 rys4 gD4 h4
   |true=>
    rw [if_pos rfl] at h4;refine qqp ?_;refine ⟨τ3,G4,_,rl3.next hr4 k4,h4,λz G5 h5 w H5 rw5 hr5 k5=>?_⟩;obtain ⟨hD5,gD5⟩:=k5 D _ hD4 gD4;have rys5:=rys4.keep hr4 k5;exact ⟨vs,hD5,by rw [← rys.length];exact h5.1,nxt (((rl3.next hr4 k4).next hr5 k5).wrD hD5 gD5) (((k'.trans kk).trans k5).wrD hD) zA ((rys5.append (.cons rw5 .nil)).wrD hD5) gD5 h5.2⟩
  ·have e:i=items.length:=by omega
   subst e;rw [List.drop_length] at h';obtain ⟨_,_,stop⟩:=ok G' H' rl'.hp k' h'.1;refine .inl ⟨stop,af _ _ (h'.2 D gD') _ H' (.ref D) (λa o e=>?_) λa o e ga=>?_⟩
   ·by_cases ha:a=D
    ·subst ha;rw [qB] at e;cases e;exact ⟨vs,hDl,rys⟩
    ·rw [jc ha] at e;exact rl'.hp a o e
   ·obtain ⟨e1,g1⟩:=k1 a o e ga;obtain ⟨e2,g2⟩:=k' a o e1 g1;exact ⟨e2,by rw [jc (qD e1 hD)];exact g2⟩
def qiv {X:Cx} {py spos:Pos} {elt tg iter:Expr} {ifs:List Expr} {scope:Scope} {pos:Pos} {y:Str} (i:Nat) (N':List Str) (m:List (Option Nat)) {wi:TI3} {g:TG3} {tif:TT3} {te:TE3} (hc:X.calm=true) (hN:X.N.Nodup) (hi:I3 X tg iter wi)
  (hg:∀ s H fp,G3 (qJ X N' scope s H fp) tg g) (hf:∀ s H fp,F3 (qJ X N' scope s H fp) ifs tif) (he:∀ s H fp,E3 (qJ X N' scope s H fp) elt te)
  (hsc:qek X.env.scope scope=true) (hcap:W7 X.N N' scope m=true) (hl:X.env.scope.names.lookup y=some .local) (hsw:swapsWith (.ListComp elt [⟨tg,iter,ifs,0⟩] scope pos) (some (.Name y py)) spos.line X.env=pure true) (hiy:X.N[i]?=some y:=by rfl) (hs:∀ x,foldedSetIterable iter X.env x=pure x:=by intro _;rfl) :
  S3 X (.Assign [.Name y py] (.ListComp elt [⟨tg,iter,ifs,0⟩] scope pos) spos) (zg (lc3 wi g tif te m) (gn3 i)):=
 qcq (qdO (g:=lG X.K g) (tif:=lT X.K tif) (te:=lE X.K te) hc hN hi hg hf he hsc hcap hs hiy hl hsw) λ_ σ H ⟨τ,G,d,rl,h,af⟩=>
  qoe ⟨τ,G,_,rl,h,λx G1 h1 v H1 rx hr1 k1=>af.nx _ G1 h1 _ H1 ((rl.next hr1 k1).set i rx) k1⟩
end L3
set_option autoImplicit true
namespace L3
open PySem PySem.Spec PyProof.Rows L2
structure jE3 (X:Cx) (e:Expr) (t:TE3):Prop where h:E3 X e t
structure jC3 (X:Cx) (e:Expr) (t:TT3):Prop where h:C3 X e t
structure jW3 (X:Cx) (e:Expr) (t:TT3):Prop where h:W3 X e t
structure jA3 (X:Cx) (e:List Expr) (t:TA3):Prop where h:A3 X e t
structure jP3 (X:Cx) (e:Option Expr) (t:TO3):Prop where h:P3 X e t
structure jS3 (X:Cx) (e:Stmt) (t:TS3):Prop where h:S3 X e t
structure jB3 (X:Cx) (e:List Stmt) (t:TS3):Prop where h:B3 X e t
structure jG3 (X:Cx) (e:Expr) (t:TG3):Prop where h:G3 X e t
structure jGs3 (X:Cx) (e:List Expr) (t:C1):Prop where h:Gs3 X e t
structure jI3 (X:Cx) (tg e:Expr) (t:TI3):Prop where h:I3 X tg e t
structure jF3 (X:Cx) (e:List Expr) (t:TT3):Prop where h:F3 X e t
def qc {X:Cx} (i:Nat) {x:Str} {pos:Pos} (hN:X.N[i]?=some x:=by rfl) (hv:Vis X.env.scope x:=by first|exact Or.inl rfl|exact Or.inr (Or.inl rfl)|exact Or.inr (Or.inr rfl)) (hd:(x==("__debug__" : Str))=false:=by decide)
  (hcd:(x==("__classdict__" : Str))=false:=by decide):jE3 X (.Name x pos) (v3 i):=
 ⟨qpy (i:=i) (hN:=hN) (hv:=hv) (hd:=hd) (hcd:=hcd)⟩
def qd {X:Cx} {i:Int} {j pos}:jE3 X (.Constant (.int i) j pos) (c3 (.int i)):=
 ⟨qo1 ⟩
def XB {X:Cx} {b:Bool} {j pos}:jE3 X (.Constant (.bool b) j pos) (c3 (.bl b)):=
 ⟨qq6 ⟩
def qbd {X:Cx} {j pos}:jE3 X (.Constant .none j pos) (c3 .non):=
 ⟨qoy ⟩
def qo {X:Cx} {x:Str} {j pos}:jE3 X (.Constant (.str x) j pos) (c3 (.str x)):=
 ⟨qp7 ⟩
def ZU {ta:TE3} {tb:TE3} {pos:Pos} {a:Expr} {b:Expr} {X:Cx} {op:CmpOp} {r3:R3} {r:R2} (ho:OpR X (compareOp op) r) (hr:W8 X.K r3 r) (ha:jE3 X a ta) (hb:jE3 X b tb) (hm:behindInMarks op b=false):jE3 X (.Compare a [op] [b] pos) (o3 r3 ta tb):=
 ⟨qoN (ho:=ho) (hr:=hr) (ha:=ha.h) (hb:=hb.h) (hm:=hm)⟩
def qC {ta:TE3} {tb:TE3} {pos:Pos} {a:Expr} {b:Expr} {X:Cx} {op:CmpOp} {r3:R3} {r:R2} (ho:OpR X (compareOp op) r) (hr:W8 X.K r3 r) (ha:jE3 X a ta) (hb:jE3 X b tb) (hm:behindInMarks op b=false):jC3 X (.Compare a [op] [b] pos) (tb3 (o3 r3 ta tb)):=
 ⟨qpT (ho:=ho) (hr:=hr) (ha:=ha.h) (hb:=hb.h) (hm:=hm)⟩
def qeE {ta:TE3} {tb:TE3} {tc:TE3} {pos:Pos} {a:Expr} {b:Expr} {c:Expr} {X:Cx} {op op':CmpOp} {r3 r3':R3} {r r':R2} (ho:OpR X (compareOp op) r) (hr:W8 X.K r3 r) (ho':OpR X (compareOp op') r') (hr':W8 X.K r3' r') (ha:jE3 X a ta) (hb:jE3 X b tb) (hc:jE3 X c tc)
  (hm:lastMarks [op,op'] [b,c]=false:=by with_unfolding_all rfl):jC3 X (.Compare a [op,op'] [b,c] pos) (tb3 (ch3 r3 r3' ta tb tc)):=
 ⟨qhQ (ho:=ho) (hr:=hr) (ho':=ho') (hr':=hr') (ha:=ha.h) (hb:=hb.h) (hc:=hc.h) (hm:=hm)⟩
def qeM {ta:TE3} {tb:TE3} {pos:Pos} {a:Expr} {b:Expr} {X:Cx} (ha:jE3 X a ta) (hb:jE3 X b tb):jE3 X (.BinOp a .Sub b pos) (o3 (iI (·-·)) ta tb):=
 ⟨qpr (ha:=ha.h) (hb:=hb.h)⟩
def UA {ta:TE3} {tb:TE3} {pos:Pos} {a:Expr} {b:Expr} {X:Cx} (ha:jE3 X a ta) (hb:jE3 X b tb):jE3 X (.BinOp a .Mult b pos) (o3 (iC XQ (·*·)) ta tb):=
 ⟨qoq (ha:=ha.h) (hb:=hb.h)⟩
def U1 {ta:TE3} {tb:TE3} {pos:Pos} {a:Expr} {b:Expr} {X:Cx} (ha:jE3 X a ta) (hb:jE3 X b tb):jE3 X (.BinOp a .Mod b pos) (o3 (iC (λ_ j=>0<j) (·%·)) ta tb):=
 ⟨qp6 (ha:=ha.h) (hb:=hb.h)⟩
def KK {ta:TE3} {tb:TE3} {pos:Pos} {a:Expr} {b:Expr} {X:Cx} (ha:jE3 X a ta) (hb:jE3 X b tb):jE3 X (.BinOp a .FloorDiv b pos) (o3 (iC qdr (·/·)) ta tb):=
 ⟨qoF (ha:=ha.h) (hb:=hb.h)⟩
def qki {ta:TE3} {tb:TE3} {pos:Pos} {a:Expr} {b:Expr} {X:Cx} (ha:jE3 X a ta) (hb:jE3 X b tb):jE3 X (.BinOp a .Pow b pos) (o3 (iC qlG (λi j=>i ^ j.toNat)) ta tb):=
 ⟨qoR (ha:=ha.h) (hb:=hb.h)⟩
def K7 {ta:TE3} {pos:Pos} {a:Expr} {X:Cx} (ha:jE3 X a ta):jE3 X (.UnaryOp .USub a pos) (u3 K6 ta):=
 ⟨qpa (ha:=ha.h)⟩
def VS {tA:TT3} {pos:Pos} {a:Expr} {X:Cx} (ha:jC3 X a tA):jW3 X (.BoolOp .Or [a] pos) tA:=
 ⟨qob (ha:=ha.h)⟩
def DG {U3:List Expr} {tA:TT3} {tB:TT3} {pos:Pos} {a:Expr} {X:Cx} (ha:jC3 X a tA) (hb:jW3 X (.BoolOp .Or (b::U3) pos) tB):jW3 X (.BoolOp .Or (a::b::U3) pos) (or3 tA tB):=
 ⟨qrj (ha:=ha.h) (hb:=hb.h)⟩
def J4 {tA:TT3} {pos:Pos} {a:Expr} {X:Cx} (ha:jC3 X a tA):jC3 X (.UnaryOp .Not a pos) (CQ tA):=
 ⟨qoH (ha:=ha.h)⟩
def ZV {X:Cx} {e:Expr} {t:TE3} (h:jE3 X e t) (he:∀ whole,isTrue e X.env whole=(do let v←whole;standAt e.pos;holding [v] (truthy v)):=by intro _;rfl):jC3 X e (tb3 t):=
 ⟨qpI (h:=h.h) (he:=he)⟩
def DT {ta:TE3} {pos:Pos} {a:Expr} {X:Cx} {op} (h:jE3 X a ta):jE3 X (.BoolOp op [a] pos) ta:=
 ⟨qpo (h:=h.h)⟩
def YR {U3:List Expr} {ta:TE3} {tb:TE3} {pos:Pos} {a:Expr} {X:Cx} (ha:jE3 X a ta) (hb:jE3 X (.BoolOp .And (b::U3) pos) tb):jE3 X (.BoolOp .And (a::b::U3) pos) (JF ta tb):=
 ⟨qp2 (ha:=ha.h) (hb:=hb.h)⟩
def qeX {ta:TE3} {pos:Pos} {a:Expr} {X:Cx} (ha:jE3 X a ta):jE3 X (.UnaryOp .Not a pos) (C7 ta):=
 ⟨qoY (ha:=ha.h)⟩
def qeH {tA:TT3} {ta:TE3} {tb:TE3} {pos:Pos} {a:Expr} {b:Expr} {X:Cx} {c:Expr} (hc:jC3 X c tA) (ha:jE3 X a ta) (hb:jE3 X b tb):jE3 X (.IfExp c a b pos) (if3 tA ta tb):=
 ⟨qrU (hc:=hc.h) (ha:=ha.h) (hb:=hb.h)⟩
def qe {X:Cx} :jA3 X [] qi:=
 ⟨qos ⟩
def qa {te:TE3} {t:TA3} {es:List Expr} {X:Cx} (ha:jE3 X e te) (hr:jA3 X es t) (hs:starEach (e::es) X.env=(false,eval e X.env)::starEach es X.env:=by rfl):jA3 X (e::es) (qb te t):=
 ⟨qnu (ha:=ha.h) (hr:=hr.h) (hs:=hs)⟩
def qq {t:TA3} {pos:Pos} {es:List Expr} {X:Cx} {x1} (h:jA3 X es t):jE3 X (.Tuple es x1 pos) (zB t):=
 ⟨qon (h:=h.h)⟩
def zJ {t:TA3} {pos:Pos} {es:List Expr} {X:Cx} (h:jA3 X es t):jE3 X (.List es pos) (QQ t):=
 ⟨qph (h:=h.h)⟩
def qU {t:TA3} {pos:Pos} {es:List Expr} {X:Cx} {x:Str} {p:Pos} {id:String} {r3:List T->Gp->Q3->Prop} {r:List V->Hp->VK->Prop} (hc:UE X (.builtin id) r) (hr:qaF X.K r3 r) (hg:Gl X x) (hm:X.mg x=none) (hv:bootBuiltins x=some (.builtin id)) (ha:jA3 X (e::es) t) (hn:x≠"__name__" := by decide) (hdb:(x==("__debug__" : Str))=false:=by decide)
  (he:starEach (e::es) X.env=(false,eval e X.env)::starEach es X.env:=by rfl) (hpl:(backTo pos (starEach es X.env)).any (·.1)=false:=by rfl):jE3 X (.Call (.Name x p) (e::es) [] pos) (cb3 r3 t):=
 ⟨qiC (hc:=hc) (hr:=hr) (hg:=hg) (hm:=hm) (hv:=hv) (ha:=ha.h) (hn:=hn) (hdb:=hdb) (he:=he) (hpl:=hpl)⟩
def zd {t:TA3} {pos:Pos} {es:List Expr} {X:Cx} {x:Str} {p:Pos} {ty:String} {r3:List T->Gp->Q3->Prop} {r:List V->Hp->VK->Prop} (hc:UE X (.type ty) r) (hr:qaF X.K r3 r) (hg:Gl X x) (hm:X.mg x=none) (hv:bootBuiltins x=some (.type ty)) (ha:jA3 X (e::es) t) (hn:x≠"__name__" := by decide) (hdb:(x==("__debug__" : Str))=false:=by decide)
  (he:starEach (e::es) X.env=(false,eval e X.env)::starEach es X.env:=by rfl) (hpl:(backTo pos (starEach es X.env)).any (·.1)=false:=by rfl):jE3 X (.Call (.Name x p) (e::es) [] pos) (cb3 r3 t):=
 ⟨qee (hc:=hc) (hr:=hr) (hg:=hg) (hm:=hm) (hv:=hv) (ha:=ha.h) (hn:=hn) (hdb:=hdb) (he:=he) (hpl:=hpl)⟩
def ze {ta:TE3} {tb:TE3} {pos:Pos} {a:Expr} {b:Expr} {X:Cx} (ha:jE3 X a ta) (hb:jE3 X b tb) (hs:M5 b:=by intro _ _;rfl):jE3 X (.Subscript a b pos) (o3 ix3 ta tb):=
 ⟨qry (ha:=ha.h) (hb:=hb.h) (hs:=hs)⟩
def QU {X:Cx} :jP3 X none np3:=
 ⟨qi6 ⟩
def zw {te:TE3} {e:Expr} {X:Cx} (h:jE3 X e te):jP3 X (some e) (sp3 te):=
 ⟨qm3 (h:=h.h)⟩
def jQ {te:TE3} {pos:Pos} {e:Expr} {X:Cx} {lo hi:Option Expr} {tl th:TO3} {p2:Pos} (he:jE3 X e te) (hl:jP3 X lo tl) (hu:jP3 X hi th):jE3 X (.Subscript e (.Slice lo hi none p2) pos) (SJ te tl th):=
 ⟨qil (he:=he.h) (hl:=hl.h) (hu:=hu.h)⟩
def zo {ta:TE3} {tb:TE3} {pos:Pos} {a:Expr} {b:Expr} {X:Cx} (ha:jE3 X a ta) (hb:jE3 X b tb):jE3 X (.BinOp a .Add b pos) (o3 QM ta tb):=
 ⟨ql2 (ha:=ha.h) (hb:=hb.h)⟩
def DJ {t:TA3} {e:Expr} {X:Cx} {o:Expr} {to:TE3} {apos cpos:Pos} (ho:jE3 X o to) (ha:jA3 X [e] t)
  (hbase:attributeBase o "append" X.env (eval o X.env)=eval o X.env:=by rfl)
  (hfew:((backTo cpos (starEach [e] X.env)).all (λx=>!x.1)&&(backToKw cpos (keywordEach [] X.env)).all (λx=>x.1.isSome)
   && decide (([e]:List Expr).length+([]:List Keyword).length+(if ([]:List Keyword).isEmpty then 0 else 1)<30))=true:=by rfl)
  (hline:(apos.endLine==cpos.line)=true:=by rfl) (hs:starEach [e] X.env=(false,eval e X.env)::starEach [] X.env:=by rfl) (hplain:(backTo cpos (starEach [] X.env)).any (·.1)=false:=by rfl):jE3 X (.Call (.Attribute o "append" apos) [e] [] cpos) (bm3 KG to t):=
 ⟨qev (ho:=ho.h) (ha:=ha.h) (hbase:=hbase) (hfew:=hfew) (hline:=hline) (hs:=hs) (hplain:=hplain)⟩
def JT {te:TE3} {pos:Pos} {e:Expr} {X:Cx} {tn:Str} {ty:String} {p p2:Pos} (he:jE3 X e te) (hg:Gl X "isinstance") (hm:X.mg "isinstance" = none) (hg2:Gl X tn) (hm2:X.mg tn=none) (hv:bootBuiltins tn=some (.type ty)) (hmem:ty∈JQ:=by decide) (hn:tn≠"__name__" := by decide) (hdb:(tn==("__debug__" : Str))=false:=by decide)
  (hs:starEach [e,.Name tn p2] X.env=(false,eval e X.env)::starEach [.Name tn p2] X.env:=by rfl) (hs2:starEach [.Name tn p2] X.env=(false,eval (.Name tn p2) X.env)::starEach [] X.env:=by rfl) (hpl:(backTo pos (starEach [.Name tn p2] X.env)).any (·.1)=false:=by rfl):jE3 X (.Call (.Name "isinstance" p) [e,.Name tn p2] [] pos) (E9 (λt=>jP t ty) te):=
 ⟨qo8 (he:=he.h) (hg:=hg) (hm:=hm) (hg2:=hg2) (hm2:=hm2) (hv:=hv) (hmem:=hmem) (hn:=hn) (hdb:=hdb) (hs:=hs) (hs2:=hs2) (hpl:=hpl)⟩
def qbJ {te:TE3} {pos:Pos} {e:Expr} {X:Cx} {tn tn':Str} {ty ty':String} {p p2 p3 p4:Pos} {x1} (he:jE3 X e te) (hg:Gl X "isinstance") (hm:X.mg "isinstance" = none) (hg2:Gl X tn) (hm2:X.mg tn=none) (hv:bootBuiltins tn=some (.type ty)) (hg3:Gl X tn') (hm3:X.mg tn'=none) (hv3:bootBuiltins tn'=some (.type ty'))
  (hmem:ty∈JQ:=by decide) (hn:tn≠"__name__" := by decide) (hdb:(tn==("__debug__" : Str))=false:=by decide) (hmem3:ty'∈JQ:=by decide) (hn3:tn'≠"__name__" := by decide) (hdb3:(tn'==("__debug__" : Str))=false:=by decide)
  (hs:starEach [e,.Tuple [.Name tn p2,.Name tn' p3] x1 p4] X.env=(false,eval e X.env)::starEach [.Tuple [.Name tn p2,.Name tn' p3] x1 p4] X.env:=by rfl) (hs2:starEach [.Tuple [.Name tn p2,.Name tn' p3] x1 p4] X.env=(false,eval (.Tuple [.Name tn p2,.Name tn' p3] x1 p4) X.env)::starEach [] X.env:=by rfl)
  (hs3:starEach [.Name tn p2,.Name tn' p3] X.env=(false,eval (.Name tn p2) X.env)::starEach [.Name tn' p3] X.env:=by rfl) (hs4:starEach [.Name tn' p3] X.env=(false,eval (.Name tn' p3) X.env)::starEach [] X.env:=by rfl)
  (hpl:(backTo pos (starEach [.Tuple [.Name tn p2,.Name tn' p3] x1 p4] X.env)).any (·.1)=false:=by rfl):jE3 X (.Call (.Name "isinstance" p) [e,.Tuple [.Name tn p2,.Name tn' p3] x1 p4] [] pos) (E9 (λt=>jP t ty||jP t ty') te):=
 ⟨qmy (he:=he.h) (hg:=hg) (hm:=hm) (hg2:=hg2) (hm2:=hm2) (hv:=hv) (hg3:=hg3) (hm3:=hm3) (hv3:=hv3) (hmem:=hmem) (hn:=hn) (hdb:=hdb) (hmem3:=hmem3) (hn3:=hn3) (hdb3:=hdb3) (hs:=hs) (hs2:=hs2) (hs3:=hs3) (hs4:=hs4) (hpl:=hpl)⟩
def qI {X:Cx} :jB3 X [] qH:=
 ⟨qoQ ⟩
def qg {U3:List Stmt} {st:Stmt} {t1:TS3} {t2:TS3} {X:Cx} (h1:jS3 X st t1) (h2:jB3 X U3 t2):jB3 X (st::U3) (qK t1 t2):=
 ⟨qle (h1:=h1.h) (h2:=h2.h)⟩
def qm {st:Stmt} {t1:TS3} {X:Cx} (h1:jS3 X st t1):jB3 X [st] t1:=
 ⟨qoD (h1:=h1.h)⟩
def TN {te:TE3} {pos:Pos} {e:Expr} {X:Cx} (he:jE3 X e te) (hs:swapsWith e none pos.line X.env=pure false:=by rfl):jS3 X (.Expr e pos) (UZ te):=
 ⟨qkg (he:=he.h) (hs:=hs)⟩
def qp {te:TE3} {pos:Pos} {e:Expr} {X:Cx} (he:jE3 X e te):jS3 X (.Return (some e) pos) (qZ te):=
 ⟨qpM (he:=he.h)⟩
def zl {tA:TT3} {t1:TS3} {t2:TS3} {pos:Pos} {X:Cx} {c:Expr} {ba bb:List Stmt} (hc:jC3 X c tA) (ha:jB3 X ba t1) (hb:jB3 X bb t2):jS3 X (.If c ba bb pos) (zM tA t1 t2):=
 ⟨qrI (hc:=hc.h) (ha:=ha.h) (hb:=hb.h)⟩
def JX {X:Cx} {sts:List Stmt}:jB3 X sts MH:=
 ⟨qic ⟩
def qA {pos:Pos} {X:Cx} {i:Nat} {x:Str} (hN:X.N.Nodup) (hi:X.N[i]?=some x:=by rfl) (hx:Loc X.env.scope x:=by first|exact Or.inl rfl|exact Or.inr rfl) (hf:X.fn x=true\/X.env.scope.names.lookup x=some .local:=by first|exact .inl rfl|exact .inr rfl):jG3 X (.Name x pos) (gn3 i):=
 ⟨qjo (hN:=hN) (hi:=hi) (hx:=hx) (hf:=hf)⟩
def J2 {X:Cx} :jGs3 X [] QC:=
 ⟨qoB ⟩
def qP {es:List Expr} {X:Cx} {tg:TG3} {tgs:C1} (h1:jG3 X e tg) (h2:jGs3 X es tgs) (hs:(assignEach (e::es) X.env).map (·.2)=assign e X.env::(assignEach es X.env).map (·.2):=by rfl):jGs3 X (e::es) (qG tg tgs):=
 ⟨qnx (h1:=h1.h) (h2:=h2.h) (hs:=hs)⟩
def VT {pos:Pos} {es:List Expr} {X:Cx} {k:Nat} {tgs:C1} {n:Nat} (hc:X.calm=true) (h:jGs3 X es tgs) (hn:(assignEach es X.env).length=n:=by rfl) (hst:(assignEach es X.env).findIdx? (·.1)=none:=by rfl):jG3 X (.Tuple es k pos) (ZI n tgs):=
 ⟨qpf (hc:=hc) (h:=h.h) (hn:=hn) (hst:=hst)⟩
def qfF {pos : Pos} {X : Cx} {o i : Expr} {to ti : TE3} (ho : jE3 X o to) (hi : jE3 X i ti) (ha : ∀ v,assign (.Subscript o i pos) X.env v = (do
      let ov←holding [v] (eval o X.env)
      let iv←holding [v,ov] (eval i X.env)
      standAt pos
      holding [v,ov,iv] (setItem ov iv v)
      release [v,ov,iv] []):=by intro _;rfl):jG3 X (.Subscript o i pos) (DO to ti):=
  ⟨qo2 (ho:=ho.h) (hi:=hi.h) (ha:=ha)⟩
def YL {te:TE3} {pos:Pos} {X:Cx} {tg e:Expr} {g:TG3} (he:jE3 X e te) (hg:jG3 X tg g) (hs:swapsWithSole [tg] e pos.line X.env=pure false:=by rfl) (hw:swappedStores [tg] e X.env=pure none:=by rfl)
  (h1:(assignEach [tg] X.env).map (·.2)=[assign tg X.env]:=by rfl):jS3 X (.Assign [tg] e pos) (zg te g):=
 ⟨qoi (he:=he.h) (hg:=hg.h) (hs:=hs) (hw:=hw) (h1:=h1)⟩
def qX {te:TE3} {pos:Pos} {X:Cx} (i:Nat) {x:Str} {e:Expr} {pos':Pos} (hN:X.N.Nodup) (he:jE3 X e te) (hi:X.N[i]?=some x:=by rfl) (hx:Loc X.env.scope x:=by first|exact Or.inl rfl|exact Or.inr rfl) (hs:swapsWith e (some (.Name x pos')) pos.line X.env=pure false:=by rfl) (hf:X.fn x=true\/X.env.scope.names.lookup x=some .local:=by first|exact .inl rfl|exact .inr rfl):jS3 X (.Assign [.Name x pos'] e pos) (zg te (gn3 i)):=
 ⟨qps (i:=i) (hN:=hN) (he:=he.h) (hi:=hi) (hx:=hx) (hs:=hs) (hf:=hf)⟩
def SH {pos:Pos} {X:Cx} {i j:Nat} {x y:Str} {a b:Expr} {tt:TA3} {px py pt:Pos} {kt k2 pt2} (hc:X.calm=true) (hN:X.N.Nodup) (hi:X.N[i]?=some x) (hj:X.N[j]?=some y) (hij:i≠j)
  (hx:X.env.scope.names.lookup x=some .local) (hy:X.env.scope.names.lookup y=some .local) (ha:jA3 X [a,b] tt)
  (hw:swappedStores [.Tuple [.Name x px,.Name y py] kt pt] (.Tuple [a,b] k2 pt2) X.env=pure (some [x,y]):=by rfl)
  (hs:swapsWithSole [.Tuple [.Name x px,.Name y py] kt pt] (.Tuple [a,b] k2 pt2) pos.line X.env=pure false:=by rfl):jS3 X (.Assign [.Tuple [.Name x px,.Name y py] kt pt] (.Tuple [a,b] k2 pt2) pos) (R9 i j tt):=
 ⟨qoU (hc:=hc) (hN:=hN) (hi:=hi) (hj:=hj) (hij:=hij) (hx:=hx) (hy:=hy) (ha:=ha.h) (hw:=hw) (hs:=hs)⟩
def JI {te:TE3} {X:Cx} {tg:Expr} {l:Expr} (hl:jE3 X l te):jI3 X tg l (ZR te):=
 ⟨qo9 (hl:=hl.h)⟩
def zP {t:TA3} {pos:Pos} {a:Expr} {X:Cx} {tg:Expr} {p:Pos} (hg:Gl X "range") (hm:X.mg "range" = none) (ha:jA3 X [a] t) (hs:starEach [a] X.env=[(false,eval a X.env)]:=by rfl) (h1:∀ τ G q,t τ G q->t τ G λxs G=>q xs G/\xs.length=1):jI3 X tg (.Call (.Name "range" p) [a] [] pos) (QR t):=
 ⟨qdB (hg:=hg) (hm:=hm) (ha:=ha.h) (hs:=hs) (h1:=h1)⟩
def ET {pos:Pos} {X:Cx} {tg:Expr} {iter:Expr} {body:List Stmt} {wi:TI3} {g:TG3} {tb:TS3} (hp:PassesOwn (model X.prog X.w) X.A X.env X.xe) (hc:X.calm=true) (hi:jI3 X tg iter wi) (hg:jG3 X tg g) (hb:jB3 X body tb)
  (hs:∀ x,foldedSetIterable iter X.env x=pure x:=by intro _;rfl):jS3 X (.For tg iter body [] pos) (RQ wi g tb):=
 ⟨qqh (hp:=hp) (hc:=hc) (hi:=hi.h) (hg:=hg.h) (hb:=hb.h) (hs:=hs)⟩
def N0 {pos:Pos} {X:Cx} {c:Expr} {body:List Stmt} {tc:TT3} {tb:TS3} (hp:PassesOwn (model X.prog X.w) X.A X.env X.xe) (hc:jC3 X c tc) (hb:jB3 X body tb):jS3 X (.While c body [] pos) (R6 tc tb):=
 ⟨qhn (hp:=hp) (hc:=hc.h) (hb:=hb.h)⟩
def qh {t:TA3} {pos:Pos} {es:List Expr} {X:Cx} {k:Nat} {x:Str} {p:Pos} {sp:Sp3} (F:Fn3 X.prog X.w X.K X.mg X.base k x sp) (hr:Room k X.A) (hg:Gl X x) (ha:jA3 X (e::es) t) (hdb:(x==("__debug__" : Str))=false:=by decide)
  (he:starEach (e::es) X.env=(false,eval e X.env)::starEach es X.env:=by rfl) (hpl:(backTo pos (starEach es X.env)).any (·.1)=false:=by rfl):jE3 X (.Call (.Name x p) (e::es) [] pos) (cb3 sp t):=
 ⟨ql9 (F:=F) (hr:=hr) (hg:=hg) (ha:=ha.h) (hdb:=hdb) (he:=he) (hpl:=hpl)⟩
def VV {X:Cx} {elt tg iter:Expr} {ifs:List Expr} {scope:Scope} {pos:Pos} (N':List Str) (m:List (Option Nat)) {wi:TI3} {g:TG3} {tif:TT3} {te:TE3} (hc:X.calm=true) (hi:jI3 X tg iter wi)
  (hg:∀ s H fp,jG3 (qJ X N' scope s H fp) tg g) (hf:∀ s H fp,jF3 (qJ X N' scope s H fp) ifs tif) (he:∀ s H fp,jE3 (qJ X N' scope s H fp) elt te)
  (hsc:qek X.env.scope scope=true) (hcap:W7 X.N N' scope m=true) (hs:∀ x,foldedSetIterable iter X.env x=pure x:=by intro _;rfl):jE3 X (.ListComp elt [⟨tg,iter,ifs,0⟩] scope pos) (lc3 wi g tif te m):=
 ⟨qrP (N':=N') (m:=m) (hc:=hc) (hi:=hi.h) (hg:=(λs H fp=>(hg s H fp).h)) (hf:=(λs H fp=>(hf s H fp).h)) (he:=(λs H fp=>(he s H fp).h)) (hsc:=hsc) (hcap:=hcap) (hs:=hs)⟩
def jm {X:Cx}:jF3 X [] tt3:=
 ⟨qpm ⟩
def qkW {t:TA3} {pos:Pos} {es:List Expr} {a:Expr} {b:Expr} {X:Cx} {p pt:Pos} {k1:Nat} (hg:Gl X "zip") (hm:X.mg "zip" = none) (ha:jA3 X [a,b] t) (hs:starEach [a,b] X.env=[(false,eval a X.env),(false,eval b X.env)]:=by rfl) (hs2:starEach [b] X.env=[(false,eval b X.env)]:=by rfl):jI3 X (.Tuple es k1 pt) (.Call (.Name "zip" p) [a,b] [] pos) (qd1 t):=
 ⟨qpX (hg:=hg) (hm:=hm) (ha:=ha.h) (hs:=hs) (hs2:=hs2)⟩
def qcG {t:TA3} {pos:Pos} {es:List Expr} {a:Expr} {X:Cx} {p pt:Pos} {k1:Nat} (hg:Gl X "enumerate") (hm:X.mg "enumerate" = none) (ha:jA3 X [a] t) (hs:starEach [a] X.env=[(false,eval a X.env)]:=by rfl):jI3 X (.Tuple es k1 pt) (.Call (.Name "enumerate" p) [a] [] pos) (KR t):=
 ⟨qnk (hg:=hg) (hm:=hm) (ha:=ha.h) (hs:=hs)⟩
def qcn {te:TE3} {pos:Pos} {e:Expr} {X:Cx} (i:Nat) {x:Str} {pos':Pos} (hN:X.N.Nodup) (he:jE3 X e te) (hi:X.N[i]?=some x:=by rfl) (hx:Loc X.env.scope x:=by first|exact Or.inl rfl|exact Or.inr rfl) (hf:X.fn x=true\/X.env.scope.names.lookup x=some .local:=by first|exact .inl rfl|exact .inr rfl):jS3 X (.AugAssign (.Name x pos') .Add e pos) (MF i (iI (·+·)) te):=
 ⟨qeF (i:=i) (hN:=hN) (he:=he.h) (hi:=hi) (hx:=hx) (hf:=hf)⟩
def EZ {X:Cx} {py spos:Pos} {elt tg iter:Expr} {ifs:List Expr} {scope:Scope} {pos:Pos} {y:Str} (i:Nat) (N':List Str) (m:List (Option Nat)) {wi:TI3} {g:TG3} {tif:TT3} {te:TE3} (hc:X.calm=true) (hN:X.N.Nodup) (hi:jI3 X tg iter wi)
  (hg:∀ s H fp,jG3 (qJ X N' scope s H fp) tg g) (hf:∀ s H fp,jF3 (qJ X N' scope s H fp) ifs tif) (he:∀ s H fp,jE3 (qJ X N' scope s H fp) elt te)
  (hsc:qek X.env.scope scope=true) (hcap:W7 X.N N' scope m=true) (hl:X.env.scope.names.lookup y=some .local) (hsw:swapsWith (.ListComp elt [⟨tg,iter,ifs,0⟩] scope pos) (some (.Name y py)) spos.line X.env=pure true) (hiy:X.N[i]?=some y:=by rfl) (hs:∀ x,foldedSetIterable iter X.env x=pure x:=by intro _;rfl):jS3 X (.Assign [.Name y py] (.ListComp elt [⟨tg,iter,ifs,0⟩] scope pos) spos) (zg (lc3 wi g tif te m) (gn3 i)):=
 ⟨qiv (i:=i) (N':=N') (m:=m) (hc:=hc) (hN:=hN) (hi:=hi.h) (hg:=(λs H fp=>(hg s H fp).h)) (hf:=(λs H fp=>(hf s H fp).h)) (he:=(λs H fp=>(he s H fp).h)) (hsc:=hsc) (hcap:=hcap) (hl:=hl) (hsw:=hsw) (hiy:=hiy) (hs:=hs)⟩
def jpt {X:Cx} {e:Expr} {t:TT3} (h:jW3 X e t):jC3 X e t:=⟨PW.pt h.h⟩
def qF {P:Program} {w:World} {K:Frg} {mg:Str->Option Value} {base:Heap} {x qual:Str} {st:Stmt} {f:Addr} {fd:FuncData} {N ps:List Str} {k:Nat} {sp:Sp3} {t3:TS3} (F:Fun K x qual st f fd) (S:FnScope N ps (qj st)) (bd:zt K fd ps []) (hm:mg x=some (.ref f))
  (body:∀ (cdv:Value) (A:Around) (outer:List Env) (s:Shared) (H:Hp) (E:XK),Room k (A.deeper (envOfC qual (qj st) s.heap.objs.size f cdv)) ->
   jB3 (qdq CX0 P w K mg base N qual (qj st) f cdv A outer s H E).nox (QK st) t3)
  (read:∀ ts G q,sp ts G q->ts.length=ps.length/\t3 { nx:=λ_ G'=>q .non G',rt:=q } (qv N ts) G):Fn3 P w K mg base (k+1) x sp:=
 qj2 F S bd hm (λcdv A outer s H E hr=>(body cdv A outer s H E hr).h) read
def qd5 {P:Program} {w:World} {K:Frg} {mg:Str->Option Value} {base:Heap} {x qual:Str} {st:Stmt} {f:Addr} {fd:FuncData} {N ps:List Str} {k:Nat} {sp:Sp3} {t3:TS3} (F:Fun K x qual st f fd) (S:FnScope N ps (qj st))
  (body:∀ (cdv:Value) (A:Around) (outer:List Env) (s:Shared) (H:Hp) (E:XK),Room k (A.deeper (envOfC qual (qj st) s.heap.objs.size f cdv)) ->
   jB3 (qdq CX0 P w K mg base N qual (qj st) f cdv A outer s H E).nox (QK st) t3)
  (read:∀ ts G q,sp ts G q->ts.length=ps.length/\t3 { nx:=λ_ G'=>q .non G',rt:=q } (qv N ts) G):FnOk P w K mg base CX0 (k+1) f fd ps (lSp K sp):=
 qiD F S (λcdv A outer s H E hr=>(body cdv A outer s H E hr).h) read
open PySem.SeqAt
def Ex (G G':Gp):Prop:=∀ b o,G b=some o->G' b=some o
def Ex.refl {G:Gp}:Ex G G:=λ_ _ e=>e
def Ex.trans {G G1 G2:Gp} (a:Ex G G1) (b:Ex G1 G2):Ex G G2:=λx o e=>b x o (a x o e)
def jL {G:Gp} {p:Addr} {o:O} (hp:G p=none):Ex G (gu G p o):=λb ob e=>by
 rw [jc (by rintro rfl;rw [hp] at e;cases e)];exact e
mutual
inductive Dp (G:Gp):T->PyData->Prop
 |non:Dp G .non .none
 |bl (b:Bool):Dp G (.bl b) (.bool b)
 |int (i:Int):Dp G (.int i) (.int i)
 |str (x:Str):Dp G (.str x) (.str x)
 |tup {xs:List T} {ds:List PyData}:Dps G xs ds->Dp G (.tup xs) (.tuple ds)
 |lst {p:Addr} {xs:List T} {ds:List PyData}:getL G p=some xs->Dps G xs ds->Dp G (.ref p) (.list ds)
inductive Dps (G:Gp):List T->List PyData->Prop
 |nil:Dps G [] []
 |cons {x:T} {d:PyData} {xs:List T} {ds:List PyData}:Dp G x d->Dps G xs ds->Dps G (x::xs) (d::ds)
end
def Ex.getL {G G':Gp} (e:Ex G G') {p:Addr} {xs:List T} (h:getL G p=some xs):getL G' p=some xs:=by
 unfold L3.getL at h ⊢;split at h
 ·rename_i ys g;cases h;rw [e _ _ g]
 ·rename_i ys g;cases h;rw [e _ _ g]
 ·cases h
mutual
def Dp.up {G G':Gp} (e:Ex G G'):∀ {x:T} {d:PyData},Dp G x d->Dp G' x d
 |_,_,.non=>.non
 |_,_,.bl b=>.bl b
 |_,_,.int i=>.int i
 |_,_,.str x=>.str x
 |_,_,.tup h=>.tup (Dps.up e h)
 |_,_,.lst h1 h2=>.lst (e.getL h1) (Dps.up e h2)
def Dps.up {G G':Gp} (e:Ex G G'):∀ {x:List T} {d:List PyData},Dps G x d->Dps G' x d
 |_,_,.nil=>.nil
 |_,_,.cons a b=>.cons (Dp.up e a) (Dps.up e b)
end
def Dps.length {G:Gp}:∀ {xs:List T} {ds:List PyData},Dps G xs ds->xs.length=ds.length
 |_,_,.nil=>rfl
 |_,_,.cons _ b=>by simp [Dps.length b]
def Dps.get {G:Gp}:∀ {xs:List T} {ds:List PyData} {i:Nat} {x:T},Dps G xs ds->xs[i]?=some x->∃ d,ds[i]?=some d/\Dp G x d
 |_,_,_,_,.nil,e=>by simp at e
 |_,_,0,_,.cons r _,e=>by simp at e;subst e;exact ⟨_,rfl,r⟩
 |_,_,i+1,x,.cons _ t,e=>by
  obtain ⟨u,h1,h2⟩:=Dps.get (i:=i) (x:=x) t (by simpa using e);exact ⟨u,by simpa using h1,h2⟩
mutual
inductive DV (K:Frg) (H:Hp):V->PyData->Prop
 |non:DV K H .non .none
 |bl (b:Bool):DV K H (.bl b) (.bool b)
 |int (i:Int):DV K H (.int i) (.int i)
 |str (x:Str):DV K H (.str x) (.str x)
 |tup {a:Addr} {vs:List V} {ds:List PyData}:SqT K H a vs->DVs K H vs ds->DV K H (.ref a) (.tuple ds)
 |lst {a:Addr} {vs:List V} {ds:List PyData}:SqL K H a vs->DVs K H vs ds->DV K H (.ref a) (.list ds)
inductive DVs (K:Frg) (H:Hp):List V->List PyData->Prop
 |nil:DVs K H [] []
 |cons {x:V} {d:PyData} {xs:List V} {ds:List PyData}:DV K H x d->DVs K H xs ds->DVs K H (x::xs) (d::ds)
end
mutual
def Dp.dv {K:Frg} {G:Gp} {H:Hp} (hr:HR K G H):∀ {x:T} {d:PyData} {v:V},Dp G x d->Rp K H x v->DV K H v d
 |_,_,_,.non,.non=>.non
 |_,_,_,.bl b,.bl _=>.bl b
 |_,_,_,.int i,.int _=>.int i
 |_,_,_,.str x,.str _=>.str x
 |_,_,_,.tup h,.tup hs rs=>.tup hs (Dps.dv hr h rs)
 |_,_,_,.lst g h,r=>by
  cases r;obtain ⟨_,hs,rs⟩:=jA hr g;exact .lst hs (Dps.dv hr h rs)
def Dps.dv {K:Frg} {G:Gp} {H:Hp} (hr:HR K G H):∀ {x:List T} {d:List PyData} {v:List V},Dps G x d->Rps K H x v->DVs K H v d
 |_,_,_,.nil,.nil=>.nil
 |_,_,_,.cons a b,.cons c d=>.cons (Dp.dv hr a c) (Dps.dv hr b d)
end
mutual
def QN:PyData->PyData->Option Bool
 |.none,.none=>some true
 |.bool a,.bool b=>some (a==b)
 |.int a,.int b=>some (a==b)
 |.str a,.str b=>some (a==b)
 |.list xs,.list ys=>DR xs ys
 |.tuple xs,.tuple ys=>DR xs ys
 |.int _,.none=>some false
 |.none,.int _=>some false
 |_,_=>none
def DR:List PyData->List PyData->Option Bool
 |[],[]=>some true
 |x::xs,y::ys=>match QN x y,DR xs ys with|some a,some b=>some (a&&b)|_,_=>none
 |_,_=>some false
end
mutual
def dpt:PyData->Nat
 |.list xs=>qiS xs+1
 |.tuple xs=>qiS xs+1
 |_=>0
def qiS:List PyData->Nat
 |[]=>0
 |x::xs=>max (dpt x) (qiS xs)
end
section
variable {X:Cx} {pins:List (Addr×Obj)} {σ:L2.St} {H:Hp} {s:Shared}
mutual
def DV.inj (I:Inv X pins σ H s):∀ {v:V} {d e:PyData},DV X.K H v d->DV X.K H v e->d=e
 |_,_,_,.non,.non=>rfl
 |_,_,_,.bl _,.bl _=>rfl
 |_,_,_,.int _,.int _=>rfl
 |_,_,_,.str _,.str _=>rfl
 |_,_,_,.tup h hs,.tup k ks=>by
  have:=I.tuple_inj h k;subst this;rw [DVs.inj I hs ks]
 |_,_,_,.lst h hs,.lst k ks=>by
  have:=I.list_inj h k;subst this;rw [DVs.inj I hs ks]
 |_,_,_,.tup h hs,.lst k ks=>by
  obtain ⟨i1,_,p1,_⟩:=I.tuple h;obtain ⟨i2,_,p2,_⟩:=I.list k;exact absurd rfl (ne_of_list_tuple p2.isList (show s.heap.IsTuple _ i1.toArray from p1))
 |_,_,_,.lst k ks,.tup h hs=>by
  obtain ⟨i1,_,p1,_⟩:=I.tuple h;obtain ⟨i2,_,p2,_⟩:=I.list k;exact absurd rfl (ne_of_list_tuple p2.isList (show s.heap.IsTuple _ i1.toArray from p1))
def DVs.inj (I:Inv X pins σ H s):∀ {v:List V} {d e:List PyData},DVs X.K H v d->DVs X.K H v e->d=e
 |_,_,_,.nil,.nil=>rfl
 |_,_,_,.cons a b,.cons c d=>by rw [DV.inj I a c,DVs.inj I b d]
end
mutual
def L0:∀ {d:PyData} {b:Bool},QN d d=some b->b=true
 |.none,_,h=>by simp [QN] at h;exact h
 |.bool _,_,h=>by simp [QN] at h;exact h
 |.int _,_,h=>by simp [QN] at h;exact h
 |.str _,_,h=>by simp [QN] at h;exact h
 |.list xs,_,h=>by simp only [QN] at h;exact WL h
 |.tuple xs,_,h=>by simp only [QN] at h;exact WL h
 |.dict _,_,h=>by simp [QN] at h
def WL:∀ {d:List PyData} {b:Bool},DR d d=some b->b=true
 |[],_,h=>by simp [DR] at h;exact h
 |x::xs,b,h=>by
  simp only [DR] at h;split at h
  ·rename_i a c e1 e2;rw [L0 e1,WL e2] at h;simpa using h.symm
  ·cases h
end
def VW:∀ {xs ys:List PyData} {b:Bool},DR xs ys=some b->xs.length=ys.length->∃ e:Nat->Bool,(∀ (j:Nat) x y,xs[j]?=some x->ys[j]?=some y->QN x y=some (e j))/\b=(List.range xs.length).all e
 |[],[],b,h,_=>by simp [DR] at h;exact ⟨λ_=>true,by simp,by simp [h]⟩
 |x::xs,y::ys,b,h,hl=>by
  simp only [DR] at h;split at h
  ·rename_i a c e1 e2;obtain ⟨e,h1,h2⟩:=VW e2 (by simpa using hl);refine ⟨λj=>match j with|0=>a|j+1=>e j,λj u v hu hv=>?_,?_⟩
   ·cases j with
    |zero=>simp at hu hv;subst hu;subst hv;exact e1
    |succ j=>exact h1 j u v (by simpa using hu) (by simpa using hv)
   ·rw [length_cons,List.range_succ_eq_map,List.all_cons,List.all_map];cases h;rw [h2];rfl
  ·cases h
 |[],_::_,_,_,hl=>by simp at hl
 |_::_,[],_,_,hl=>by simp at hl
def V3:∀ {xs ys:List PyData} {b:Bool},DR xs ys=some b->xs.length≠ys.length->b=false/\∃ e:Nat->Bool,∀ (j:Nat) x y,xs[j]?=some x->ys[j]?=some y->QN x y=some (e j)
 |[],[],_,_,hl=>by simp at hl
 |[],_::_,b,h,_=>by simp [DR] at h;exact ⟨h,λ_=>true,by simp⟩
 |_::_,[],b,h,_=>by simp [DR] at h;exact ⟨h,λ_=>true,by simp⟩
 |x::xs,y::ys,b,h,hl=>by
  simp only [DR] at h;split at h
  ·rename_i a c e1 e2;obtain ⟨h0,e,h1⟩:=V3 e2 (by simpa using hl);subst h0;refine ⟨by simpa using h.symm,λj=>match j with|0=>a|j+1=>e j,λj u v hu hv=>?_⟩;cases j with
   |zero=>simp at hu hv;subst hu;subst hv;exact e1
   |succ j=>exact h1 j u v (by simpa using hu) (by simpa using hv)
  ·cases h
def DY:∀ {xs:List PyData} {x:PyData},x∈xs->dpt x<=qiS xs
 |[],_,h=>by simp at h
 |y::ys,x,h=>by
  simp only [qiS];rcases mem_cons.mp h with e|e
  ·subst e;omega
  ·have:=DY e;omega
def DVs.get {K:Frg} {H:Hp}:∀ {xs:List V} {ds:List PyData} {i:Nat} {x:V},DVs K H xs ds->xs[i]?=some x->∃ d,ds[i]?=some d/\DV K H x d
 |_,_,_,_,.nil,e=>by simp at e
 |_,_,0,_,.cons r _,e=>by simp at e;subst e;exact ⟨_,rfl,r⟩
 |_,_,i+1,x,.cons _ t,e=>by
  obtain ⟨u,h1,h2⟩:=DVs.get (i:=i) (x:=x) t (by simpa using e);exact ⟨u,by simpa using h1,h2⟩
def DVs.length {K:Frg} {H:Hp}:∀ {xs:List V} {ds:List PyData},DVs K H xs ds->xs.length=ds.length
 |_,_,.nil=>rfl
 |_,_,.cons _ b=>by simp [DVs.length b]
def UD {vs:List V} {us:List Value} (r:jh vs us) {j:Nat} (h:j<us.toArray.size):∃ v,vs[j]?=some v/\ZP v us.toArray[j]:=by
 have hj:j<vs.length:=by rw [r.length];simpa using h
 obtain ⟨u,hu,ru⟩:=r.get (getElem?_eq_getElem hj);refine ⟨vs[j],getElem?_eq_getElem hj,?_⟩;have hj2:j<us.length:=by simpa using h
 rw [getElem?_eq_getElem hj2] at hu;have:us[j]=u:=Option.some.inj hu;simpa [this] using ru
def ML (I:Inv X pins σ H s):∀ (n:Nat) {v u:V} {d e:PyData} {b:Bool} {x y:Value} {A:Around},DV X.K H v d->DV X.K H u e->QN d e=some b->dpt d<=n->A.units+n<cLine->ZP v x->ZP u y ->
  RcAt A s x y b/\EqAt A s x y b:=by
 intro n;induction n with
 |zero=>
  intro v u d e b x y A hv hu h hd hn rx ry;cases hv with
  |non=>
   cases hu with
   |non=>simp [QN] at h;subst h;cases (show x=Value.none from rx);cases (show y=Value.none from ry);exact ⟨RcAt.none_none,EqAt.same _⟩
   |int c=>simp [QN] at h;subst h;cases (show x=Value.none from rx);obtain ⟨t',rfl⟩:=(show ∃ t,y=Value.int _ t from ry);exact ⟨RcAt.none_int _ _,EqAt.none_int _ _⟩
   |bl _=>simp [QN] at h
   |str _=>simp [QN] at h
   |tup _ _=>simp [QN] at h
   |lst _ _=>simp [QN] at h
  |bl a=>cases hu<;>simp [QN] at h;subst h;cases (show x=Value.bool _ from rx);cases (show y=Value.bool _ from ry);exact ⟨RcAt.bool_bool _ _,EqAt.bool_bool _ _⟩
  |int a=>
   cases hu with
   |int c=>simp [QN] at h;subst h;obtain ⟨t,rfl⟩:=(show ∃ t,x=Value.int _ t from rx);obtain ⟨t',rfl⟩:=(show ∃ t,y=Value.int _ t from ry);exact ⟨RcAt.int_int _ _ _ _,EqAt.int_int _ _ _ _⟩
   |non=>simp [QN] at h;subst h;obtain ⟨t,rfl⟩:=(show ∃ t,x=Value.int _ t from rx);cases (show y=Value.none from ry);exact ⟨RcAt.int_none _ _,EqAt.int_none _ _⟩
   |bl _=>simp [QN] at h
   |str _=>simp [QN] at h
   |tup _ _=>simp [QN] at h
   |lst _ _=>simp [QN] at h
  |str a=>cases hu<;>simp [QN] at h;subst h;obtain ⟨t,rfl⟩:=(show ∃ t,x=Value.str _ t from rx);obtain ⟨t',rfl⟩:=(show ∃ t,y=Value.str _ t from ry);exact ⟨RcAt.str_str _ _ _ _,EqAt.str_str _ _ _ _⟩
  |tup=>simp [dpt] at hd
  |lst=>simp [dpt] at hd
 |succ n ih=>
  intro v u d e b x y A hv hu h hd hn rx ry;have fin:∀ {l l':Addr} {k:Bool},x=.ref l->y=.ref l'->v=.ref l->u=.ref l'->b=k->RcAt A s x y k->RcAt A s x y b/\EqAt A s x y b:=by
   rintro l l' k rfl rfl rfl rfl rfl rc;refine ⟨rc,?_⟩;by_cases hll:l=l'
   ·subst hll;have:=DV.inj I hv hu;subst this;rw [L0 h];exact EqAt.same _
   ·exact EqAt.of_refs hll rc
  cases hv with
  |non=>
   cases hu with
   |non=>simp [QN] at h;subst h;cases (show x=Value.none from rx);cases (show y=Value.none from ry);exact ⟨RcAt.none_none,EqAt.same _⟩
   |int c=>simp [QN] at h;subst h;cases (show x=Value.none from rx);obtain ⟨t',rfl⟩:=(show ∃ t,y=Value.int _ t from ry);exact ⟨RcAt.none_int _ _,EqAt.none_int _ _⟩
   |bl _=>simp [QN] at h
   |str _=>simp [QN] at h
   |tup _ _=>simp [QN] at h
   |lst _ _=>simp [QN] at h
  |bl a=>cases hu<;>simp [QN] at h;subst h;cases (show x=Value.bool _ from rx);cases (show y=Value.bool _ from ry);exact ⟨RcAt.bool_bool _ _,EqAt.bool_bool _ _⟩
  |int a=>
   cases hu with
   |int c=>simp [QN] at h;subst h;obtain ⟨t,rfl⟩:=(show ∃ t,x=Value.int _ t from rx);obtain ⟨t',rfl⟩:=(show ∃ t,y=Value.int _ t from ry);exact ⟨RcAt.int_int _ _ _ _,EqAt.int_int _ _ _ _⟩
   |non=>simp [QN] at h;subst h;obtain ⟨t,rfl⟩:=(show ∃ t,x=Value.int _ t from rx);cases (show y=Value.none from ry);exact ⟨RcAt.int_none _ _,EqAt.int_none _ _⟩
   |bl _=>simp [QN] at h
   |str _=>simp [QN] at h
   |tup _ _=>simp [QN] at h
   |lst _ _=>simp [QN] at h
  |str a=>cases hu<;>simp [QN] at h;subst h;obtain ⟨t,rfl⟩:=(show ∃ t,x=Value.str _ t from rx);obtain ⟨t',rfl⟩:=(show ∃ t,y=Value.str _ t from ry);exact ⟨RcAt.str_str _ _ _ _,EqAt.str_str _ _ _ _⟩
  |tup hq hs=>
   cases hu with
   |tup kq ks=>
    rename_i a1 vs1 ds1 a2 vs2 ds2;simp only [QN] at h;obtain ⟨i1,r1,p1,z1⟩:=I.tuple hq;obtain ⟨i2,r2,p2,z2⟩:=I.tuple kq;have l1:=hs.length;have l2:=ks.length;have m1:=r1.length;have m2:=r2.length;have el:∀ (e:Nat->Bool),(∀ (j:Nat) x y,ds1[j]?=some x->ds2[j]?=some y->QN x y=some (e j))->∀ j (h1:j<i1.toArray.size) (h2:j<i2.toArray.size),EqAt A.in1 s i1.toArray[j] i2.toArray[j] (e j):=λe he j h1 h2=>by
     obtain ⟨w1,g1,q1⟩:=UD r1 h1;obtain ⟨w2,g2,q2⟩:=UD r2 h2;obtain ⟨d1,f1,dv1⟩:=hs.get g1;obtain ⟨d2,f2,dv2⟩:=ks.get g2;have:=DY (mem_of_getElem? f1);exact (ih dv1 dv2 (he j d1 d2 f1 f2) (by simp only [dpt] at hd;omega) (show A.units+1+n<cLine by omega) q1 q2).2
    cases (show x=Value.ref a1 from rx);cases (show y=Value.ref a2 from ry);by_cases hl:ds1.length=ds2.length
    ·obtain ⟨e,he,hb⟩:=VW h hl;refine fin rfl rfl rfl rfl (k:=(List.range (min i1.toArray.size i2.toArray.size)).all e&&i1.toArray.size==i2.toArray.size) ?_ (RcAt.tuples (show s.heap.IsTuple a1 i1.toArray from p1) (show s.heap.IsTuple a2 i2.toArray from p2) (by omega) (el e he));have e1:i1.toArray.size=ds1.length:=by rw [size_toArray];omega
     have e2:i2.toArray.size=ds1.length:=by rw [size_toArray];omega
     rw [e1,e2,hb];simp
    ·obtain ⟨hb,e,he⟩:=V3 h hl;refine fin rfl rfl rfl rfl (k:=(List.range (min i1.toArray.size i2.toArray.size)).all e&&i1.toArray.size==i2.toArray.size) ?_ (RcAt.tuples (show s.heap.IsTuple a1 i1.toArray from p1) (show s.heap.IsTuple a2 i2.toArray from p2) (by omega) (el e he));have e1:i1.toArray.size≠i2.toArray.size:=by rw [size_toArray,size_toArray];omega
     rw [hb];simp [e1];intro;omega
   |_=>simp [QN] at h
  |lst hq hs=>
   cases hu with
   |lst kq ks=>
    rename_i a1 vs1 ds1 a2 vs2 ds2;simp only [QN] at h;obtain ⟨i1,r1,p1,z1⟩:=I.list hq;obtain ⟨i2,r2,p2,z2⟩:=I.list kq;have l1:=hs.length;have l2:=ks.length;have m1:=r1.length;have m2:=r2.length;have el:∀ (e:Nat->Bool),(∀ (j:Nat) x y,ds1[j]?=some x->ds2[j]?=some y->QN x y=some (e j))->∀ j (h1:j<i1.toArray.size) (h2:j<i2.toArray.size),EqAt A.in1 s i1.toArray[j] i2.toArray[j] (e j):=λe he j h1 h2=>by
     obtain ⟨w1,g1,q1⟩:=UD r1 h1;obtain ⟨w2,g2,q2⟩:=UD r2 h2;obtain ⟨d1,f1,dv1⟩:=hs.get g1;obtain ⟨d2,f2,dv2⟩:=ks.get g2;have:=DY (mem_of_getElem? f1);exact (ih dv1 dv2 (he j d1 d2 f1 f2) (by simp only [dpt] at hd;omega) (show A.units+1+n<cLine by omega) q1 q2).2
    cases (show x=Value.ref a1 from rx);cases (show y=Value.ref a2 from ry);by_cases hl:ds1.length=ds2.length
    ·obtain ⟨e,he,hb⟩:=VW h hl;refine fin rfl rfl rfl rfl (k:=(List.range i1.toArray.size).all e) ?_ (RcAt.lists p1.isList p2.isList (by rw [size_toArray,size_toArray];omega) (by omega) (el e he));have e1:i1.toArray.size=ds1.length:=by rw [size_toArray];omega
     rw [e1,hb]
    ·obtain ⟨hb,e,he⟩:=V3 h hl;refine fin rfl rfl rfl rfl (k:=false) hb (RcAt.lists_lengths p1.isList p2.isList (by rw [size_toArray,size_toArray];simp;omega) (by omega))
   |_=>simp [QN] at h
def qhM (I:Inv X pins σ H s) {n:Nat} {v u:V} {d e:PyData} {b:Bool} {x y:Value} {A:Around} (hv:DV X.K H v d) (hu:DV X.K H u e) (h:QN d e=some b) (hd:dpt d<=n+1) (hn:A.units+(n+1)<cLine) (rx:ZP v x) (ry:ZP u y) (hs:dpt d≠0):RcNeAt A s x y (!b):=by
 cases hv with
 |tup hq hs'=>
  cases hu with
  |tup kq ks=>
   rename_i a1 vs1 ds1 a2 vs2 ds2;simp only [QN] at h;obtain ⟨i1,r1,p1,z1⟩:=I.tuple hq;obtain ⟨i2,r2,p2,z2⟩:=I.tuple kq;have l1:=hs'.length;have l2:=ks.length;have m1:=r1.length;have m2:=r2.length;have el:∀ (e:Nat->Bool),(∀ (j:Nat) x y,ds1[j]?=some x->ds2[j]?=some y->QN x y=some (e j))->∀ j (h1:j<i1.toArray.size) (h2:j<i2.toArray.size),EqAt A.in1 s i1.toArray[j] i2.toArray[j] (e j):=λe he j h1 h2=>by
    obtain ⟨w1,g1,q1⟩:=UD r1 h1;obtain ⟨w2,g2,q2⟩:=UD r2 h2;obtain ⟨d1,f1,dv1⟩:=hs'.get g1;obtain ⟨d2,f2,dv2⟩:=ks.get g2;have:=DY (mem_of_getElem? f1);exact (ML I n dv1 dv2 (he j d1 d2 f1 f2) (by simp only [dpt] at hd;omega) (show A.units+1+n<cLine by omega) q1 q2).2
   cases (show x=Value.ref a1 from rx);cases (show y=Value.ref a2 from ry);by_cases hl:ds1.length=ds2.length
   ·obtain ⟨e,he,hb⟩:=VW h hl;have:=RcNeAt.tuples (show s.heap.IsTuple a1 i1.toArray from p1) (show s.heap.IsTuple a2 i2.toArray from p2) (A:=A) (by omega) (el e he);have e1:i1.toArray.size=ds1.length:=by rw [size_toArray];omega
    have e2:i2.toArray.size=ds1.length:=by rw [size_toArray];omega
    rw [e1,e2] at this;rw [hb];simpa using this
   ·obtain ⟨hb,e,he⟩:=V3 h hl;have:=RcNeAt.tuples (show s.heap.IsTuple a1 i1.toArray from p1) (show s.heap.IsTuple a2 i2.toArray from p2) (A:=A) (by omega) (el e he);have e1:(i1.toArray.size==i2.toArray.size)=false:=by rw [size_toArray,size_toArray];simp;omega
    rw [e1] at this;rw [hb];simpa using this
  |_=>simp [QN] at h
 |lst hq hs'=>
  cases hu with
  |lst kq ks=>
   rename_i a1 vs1 ds1 a2 vs2 ds2;simp only [QN] at h;obtain ⟨i1,r1,p1,z1⟩:=I.list hq;obtain ⟨i2,r2,p2,z2⟩:=I.list kq;have l1:=hs'.length;have l2:=ks.length;have m1:=r1.length;have m2:=r2.length;have el:∀ (e:Nat->Bool),(∀ (j:Nat) x y,ds1[j]?=some x->ds2[j]?=some y->QN x y=some (e j))->∀ j (h1:j<i1.toArray.size) (h2:j<i2.toArray.size),EqAt A.in1 s i1.toArray[j] i2.toArray[j] (e j):=λe he j h1 h2=>by
    obtain ⟨w1,g1,q1⟩:=UD r1 h1;obtain ⟨w2,g2,q2⟩:=UD r2 h2;obtain ⟨d1,f1,dv1⟩:=hs'.get g1;obtain ⟨d2,f2,dv2⟩:=ks.get g2;have:=DY (mem_of_getElem? f1);exact (ML I n dv1 dv2 (he j d1 d2 f1 f2) (by simp only [dpt] at hd;omega) (show A.units+1+n<cLine by omega) q1 q2).2
   cases (show x=Value.ref a1 from rx);cases (show y=Value.ref a2 from ry);by_cases hl:ds1.length=ds2.length
   ·obtain ⟨e,he,hb⟩:=VW h hl;have:=RcNeAt.lists p1.isList p2.isList (A:=A) (by rw [size_toArray,size_toArray];omega) (by omega) (el e he);have e1:i1.toArray.size=ds1.length:=by rw [size_toArray];omega
    rw [e1] at this;rw [hb];exact this
   ·obtain ⟨hb,e,he⟩:=V3 h hl;rw [hb];exact RcNeAt.lists_lengths p1.isList p2.isList (by rw [size_toArray,size_toArray];simp;omega) (by omega)
  |_=>simp [QN] at h
 |_=>simp [dpt] at hs
def qgs (K:Frg) (neg:Bool):R2:=λx y H Q=>∃ d e b,DV K H x d/\DV K H y e/\QN d e=some b/\dpt d<=40/\dpt d≠0/\Q (.bl (if neg then !b else b)) H
def qm4 (hu:X.A.units+64<cLine):OpR X (compareOp .Eq) (qgs X.K false):=by
 intro pins s σ H x y v u Q I rx ry h;obtain ⟨d,e,b,hx,hy,hb,hd,_,q⟩:=h;exact (ML I 40 hx hy hb hd (by omega) rx ry).1 X.prog X.w X.xe _ ⟨.bl b,H,I,rfl,q⟩
def qky (hu:X.A.units+64<cLine):OpR X (compareOp .NotEq) (qgs X.K true):=by
 intro pins s σ H x y v u Q I rx ry h;obtain ⟨d,e,b,hx,hy,hb,hd,hs,q⟩:=h;exact qhM I (n:=40) hx hy hb (by omega) (by omega) rx ry hs X.prog X.w X.xe _ ⟨.bl (!b),H,I,rfl,q⟩
end
def zV (neg:Bool):R3:=λx y G q=>match jF x y with
 |some k=>q (.bl (if neg then !k else k)) G
 |none=>∃ d e b,Dp G x d/\Dp G y e/\QN d e=some b/\dpt d<=40/\dpt d≠0/\q (.bl (if neg then !b else b)) G
def qN {K:Frg}:W8 K (zV false) (λx y H Q=>rEq x y H Q\/qgs K false x y H Q):=λx y v u G H q Q hr rx ry h af=>by
 unfold zV at h;split at h
 ·rename_i k e;obtain ⟨h1,h2⟩:=N9 rx ry e;refine .inl ⟨h1,?_⟩;rw [h2];exact af _ G h _ H (.bl _) hr Kp.refl
 ·obtain ⟨d,e,b,h1,h2,h3,h4,h5,h6⟩:=h;exact .inr ⟨d,e,b,h1.dv hr rx,h2.dv hr ry,h3,h4,h5,af _ G h6 _ H (.bl _) hr Kp.refl⟩
def JK {K:Frg}:W8 K (zV true) (λx y H Q=>rNe x y H Q\/qgs K true x y H Q):=λx y v u G H q Q hr rx ry h af=>by
 unfold zV at h;split at h
 ·rename_i k e;obtain ⟨h1,h2⟩:=N9 rx ry e;refine .inl ⟨h1,?_⟩;rw [h2];exact af _ G h _ H (.bl _) hr Kp.refl
 ·obtain ⟨d,e,b,h1,h2,h3,h4,h5,h6⟩:=h;exact .inr ⟨d,e,b,h1.dv hr rx,h2.dv hr ry,h3,h4,h5,af _ G h6 _ H (.bl _) hr Kp.refl⟩
def zh {X:Cx} (hu:X.A.units+64<cLine):OpR X (compareOp .Eq) (λx y H Q=>rEq x y H Q\/qgs X.K false x y H Q):=qoz.or (qm4 hu)
def V4 {X:Cx} (hu:X.A.units+64<cLine):OpR X (compareOp .NotEq) (λx y H Q=>rNe x y H Q\/qgs X.K true x y H Q):=qo5.or (qky hu)
end L3
namespace L3
open PySem PySem.Spec PyProof.Rows L2
section
variable {X:Cx} {pins:List (Addr×Obj)} {σ:L2.St} {H:Hp} {s:Shared}
mutual
def DV.reads (I:Inv X pins σ H s):∀ {v:V} {d:PyData} {x:Value},DV X.K H v d->ZP v x->∃ as,Reads s.heap x d as
 |_,_,x,.non,r=>by cases (show x=Value.none from r);exact ⟨_,.none⟩
 |_,_,x,.bl b,r=>by cases (show x=Value.bool b from r);exact ⟨_,.bool b⟩
 |_,_,x,.int i,r=>by obtain ⟨t,rfl⟩:=(show ∃ t,x=Value.int i t from r);exact ⟨_,.int i t⟩
 |_,_,x,.str y,r=>by obtain ⟨t,rfl⟩:=(show ∃ t,x=Value.str y t from r);exact ⟨_,.str y t⟩
 |_,_,x,.tup (a:=a) h hs,r=>by
  cases (show x=Value.ref a from r);obtain ⟨its,rv,⟨o,h1,h2,n,h3⟩,_⟩:=I.tuple h;obtain ⟨as,ra⟩:=DVs.reads I hs rv;exact ⟨as,.tuple h1 h2 h3 (by simpa using ra)⟩
 |_,_,x,.lst (a:=a) h hs,r=>by
  cases (show x=Value.ref a from r);obtain ⟨its,rv,p,_⟩:=I.list h;obtain ⟨o,h1,h2,n,h3⟩:=p.isList;obtain ⟨as,ra⟩:=DVs.reads I hs rv;exact ⟨a::as,.list h1 h2 h3 (by simpa using ra)⟩
def DVs.reads (I:Inv X pins σ H s):∀ {v:List V} {d:List PyData} {x:List Value},DVs X.K H v d->jh v x->∃ as,ReadsAll s.heap x d as
 |_,_,_,.nil,.nil=>⟨_,.nil⟩
 |_,_,_,.cons a b,.cons c d=>by
  obtain ⟨as,r1⟩:=DV.reads I a c;obtain ⟨bs,r2⟩:=DVs.reads I b d;exact ⟨_,.cons r1 r2⟩
end
end
section
variable {X:Cx}
def qgW:V->List V->Hp->VK->Prop:=λx vs H Q=>∃ i,x=.int i/\vs=[]/\Q (.int (Builtin.Int.intBits i)) H
def qbH:MtR X "int.bit_length" qgW:=by
 intro pins s σ H x vs v us Q I rx rv h;obtain ⟨i,rfl,rfl,q⟩:=h;obtain ⟨t,rfl⟩:=rx;have hus:=rv.zero;subst hus;exact call_int_bit_length ⟨.int _,_,I.tok _,⟨_,rfl⟩,q⟩
def bl3 (to:TE3):TE3:=λτ G q=>to τ G λx G1=>match x with|.int i=>q (.int (Builtin.Int.intBits i)) G1|_=>False
def qbx {o:Expr} {to:TE3} {apos cpos:Pos} (ho:jE3 X o to) (hbase:attributeBase o "bit_length" X.env (eval o X.env)=eval o X.env:=by rfl) (hline:(apos.endLine==cpos.line)=true:=by rfl) :
  jE3 X (.Call (.Attribute o "bit_length" apos) [] [] cpos) (bl3 to):=
 ⟨XF (qkb PySem.F.plainAttrs_int PySem.F.slot_int_bit_length PySem.F.type_int_bit_length qbH ho.h hbase hline) λ_ _ _ ⟨τ,G,q,rl,h,af⟩=>zE rl h λx G1 h1 v H1 rx hr1 k1 rl1=>by
  cases x<;>try exact h1.elim
  case int i=>
   cases rx;exact ⟨rfl,i,rfl,rfl,af.back k1 _ _ h1 _ _ (.int _) hr1 Kp.refl⟩⟩
end
section
variable {prog:Program} {w:World} {A:Around} {R:Result->Shared->Prop} {s:Shared}
end
section
variable {X:Cx}
end
section
variable {K:Frg}
end
section
variable {X:Cx}
end
section
variable {X:Cx}
end
section
variable {X:Cx} {tg a b c:Expr} {pos:Pos}
end
section
variable {X:Cx}
end
section
variable {X:Cx} {a b:Expr} {ta tb:TE3} {pos:Pos}
def qha:OpR X (compareOp .IsNot) (λx y H Q=>∃ i j,x=.bl i/\y=.bl j/\Q (.bl (i != j)) H):=by
 intro pins s σ H x y v u Q I rx ry h;obtain ⟨i,j,rfl,rfl,q⟩:=h;cases rx;cases ry;exact isnot_bool (zp I q rfl)
def qnT (neg:Bool):R3:=λx y G q=>match x,y with|.bl i,.bl j=>q (.bl (if neg then i != j else i==j)) G|_,_=>False
def qdE {K:Frg}:W8 K (qnT true) (λx y H Q=>∃ i j,x=.bl i/\y=.bl j/\Q (.bl (i != j)) H):=λx y v u G H q Q hr rx ry h af=>by
 cases x<;>try exact h.elim
 cases y<;>try exact h.elim
 cases rx;cases ry;exact ⟨_,_,rfl,rfl,af _ G h _ H (.bl _) hr Kp.refl⟩
def qiR:R3:=λx y G q=>match x,y with
 |.ref a,.int k=>(match G a with|some (.lst xs)=>(-(2 ^ 63)<=k/\k<2 ^ 63)/\xs.length*k.toNat<=sizeLine/\∀ p,G p=none->q (.ref p) (gu G p (.lst (List.replicate k.toNat xs).flatten))|_=>False)
 |_,_=>False
def qc7 {K:Frg} {H:Hp} {xs:List T} {vs:List V} (r:Rps K H xs vs):∀ k,Rps K H (List.replicate k xs).flatten (List.replicate k vs).flatten
 |0=>.nil
 |k+1=>by
  rw [List.replicate_succ,List.flatten_cons,List.replicate_succ,List.flatten_cons];exact r.append (qc7 r k)
def qim {K:Frg}:W8 K qiR qqF:=λx y v u G H q Q hr rx ry h af=>by
 cases x<;>try exact h.elim
 case ref a=>
  cases y<;>try exact h.elim
  case int k=>
   unfold qiR at h;simp only at h;split at h
   ·rename_i xs e1;cases rx;cases ry;obtain ⟨vs,g1,r1⟩:=hr.lst e1;exact ⟨a,k,vs,rfl,rfl,g1,h.1.1,h.1.2,by rw [← r1.length];exact h.2.1,λp hp=>af _ _ (h.2.2 p (hr.free hp)) _ _ (.ref p) (hr.newL hp (qc7 r1 _)) (Kp.newL hp)⟩
   ·exact h.elim
def qmD (ha:jE3 X a ta) (hb:jE3 X b tb):jE3 X (.BinOp a .Mult b pos) (o3 qiR ta tb):=⟨qgu qjz qim ha.h hb.h⟩
structure ShW (d:PyData):Prop where
 sh:d.showable=true
 nd:d.hasDict=false
 dp:d.depth<=40
 fit:d.shown.length<=sizeLine
def qct (hg:X.A.guards=some []) (hu:X.A.units+64<cLine):UE X (.type "str") (λxs H Q=>∃ a d,xs=[.ref a]/\DV X.K H (.ref a) d/\ShW d/\Q (.str d.shown) H):=by
 intro pins s σ H xs us Q I r h;obtain ⟨a,d,rfl,dv,ok,q⟩:=h;obtain ⟨u,rfl,rp⟩:=SZ r;cases (show u=Value.ref a from rp);obtain ⟨as,rd⟩:=dv.reads I (show ZP (.ref a) (.ref a) from rfl);refine str_of_reads rd ok.sh (PyData.noDict_hsm ok.nd) hg (by have:=ok.dp;omega) (λ_ _ e=>e) (λh' u tk hk=>?_) ok.fit;exact ⟨.str _,H,I.kept (h':=h') (t':=tk) hk,⟨_,rfl⟩,q⟩
def shV (st:Bool):V->Hp->(Str->Prop)->Prop:=λv H q=>match v with
 |.non=>q (Str.ofString "None")
 |.bl b=>q (if b=true then Str.ofString "True" else Str.ofString "False")
 |.int i=>i.natAbs.log2<1920/\q (Str.ofString (toString i))
 |.str x=>if st then q x else (reprText x).length<=sizeLine/\q (reprText x)
 |.ref a=>∃ d,DV X.K H (.ref a) d/\ShW d/\q d.shown
 |_=>False
def QX (hg:X.A.guards=some []) (hu:X.A.units+64<cLine):UE X (.type "str") (λxs H Q=>∃ v,xs=[v]/\shV (X:=X) true v H λx=>Q (.str x) H):=by
 intro pins s σ H xs us Q I r h;obtain ⟨v,rfl,h⟩:=h;obtain ⟨u,rfl,rp⟩:=SZ r;cases v with
 |non=>cases (show u=Value.none from rp);exact P.str_of_none ⟨.str _,H,I.tok _,⟨_,rfl⟩,h⟩
 |bl b=>cases (show u=Value.bool b from rp);exact P.str_of_bool ⟨.str _,H,I.tok _,⟨_,rfl⟩,h⟩
 |int i=>obtain ⟨t,rfl⟩:=(show ∃ t,u=Value.int i t from rp);exact P.str_of_int h.1 ⟨.str _,H,I.tok _,⟨_,rfl⟩,h.2⟩
 |str x=>obtain ⟨t,rfl⟩:=(show ∃ t,u=Value.str x t from rp);exact P.str_of_str ⟨.str _,H,I,⟨_,rfl⟩,h⟩
 |ref a=>
  obtain ⟨d,dv,ok,q⟩:=h;exact qct hg hu _ _ _ _ _ _ _ I r ⟨a,d,rfl,dv,ok,q⟩
 |_=>exact h.elim
def shT (st:Bool):T->Gp->(Str->Prop)->Prop:=λx G q=>match x with
 |.non=>q (Str.ofString "None")
 |.bl b=>q (if b=true then Str.ofString "True" else Str.ofString "False")
 |.int i=>i.natAbs.log2<1920/\q (Str.ofString (toString i))
 |.str x=>if st then q x else (reprText x).length<=sizeLine/\q (reprText x)
 |.tup _=>∃ d,Dp G x d/\ShW d/\q d.shown
 |.ref _=>∃ d,Dp G x d/\ShW d/\q d.shown
def TZ (st:Bool):List T->Gp->Q3->Prop:=λxs G q=>match xs with
 |[x]=>shT st x G λy=>q (.str y) G
 |_=>False
def UT {st:Bool}:qaF X.K (TZ st) (λxs H Q=>∃ v,xs=[v]/\shV (X:=X) st v H λx=>Q (.str x) H):=λxs vs G H q Q hr rs h af=>by
 unfold TZ at h;split at h
 ·rename_i x;obtain ⟨v,rfl,r⟩:=LF rs;refine ⟨v,rfl,?_⟩;cases r with
  |non=>exact af _ G h _ H (.str _) hr Kp.refl
  |bl b=>exact af _ G h _ H (.str _) hr Kp.refl
  |int i=>exact ⟨h.1,af _ G h.2 _ H (.str _) hr Kp.refl⟩
  |str x=>
   cases st with
   |true=>exact af _ G h _ H (.str _) hr Kp.refl
   |false=>exact ⟨h.1,af _ G h.2 _ H (.str _) hr Kp.refl⟩
  |tup hs r2=>
   obtain ⟨d,h1,h2,h3⟩:=h;exact ⟨d,h1.dv hr (.tup hs r2),h2,af _ G h3 _ H (.str _) hr Kp.refl⟩
  |ref a=>
   obtain ⟨d,h1,h2,h3⟩:=h;exact ⟨d,h1.dv hr (.ref a),h2,af _ G h3 _ H (.str _) hr Kp.refl⟩
 ·exact h.elim
def qez:OpR X (binaryOp .Add) (λx y H Q=>∃ a b ys,x=.ref a/\y=.ref b/\SqT X.K H a []/\SqT X.K H b ys/\Q (.ref b) H):=by
 intro pins s σ H x y v u Q I rx ry h;obtain ⟨a,b,ys,rfl,rfl,ha,hb,q⟩:=h;cases rx;cases ry;obtain ⟨its,r1,p1,_⟩:=I.tuple ha;obtain ⟨its2,r2,p2,_⟩:=I.tuple hb;cases r1;obtain ⟨⟨cls,dd,data,sl⟩,ho,hc,n,hd⟩:=id p1;obtain ⟨⟨cls2,dd2,data2,sl2⟩,ho2,hc2,n2,hd2⟩:=id p2;simp only at hc hd hc2 hd2;subst hc hd hc2 hd2;exact concat_meets ⟨_,ho,rfl⟩ ⟨_,ho2,rfl⟩ noFill_tuple_add seq_tuple_add PySem.F.slot_tuple_add PySem.F.entry_tuple_add (PySem.F.args_tuple_add_2 _ _)
   (tuple_addW0 a b #[] its2.toArray n n2 dd dd2 sl sl2 rfl) ⟨ho,ho2,⟨.ref b,H,I,rfl,q⟩⟩
def j0:R3:=λx y G q=>match x,y with
 |.tup xs,.tup ys=>xs.length+ys.length<=sizeLine/\q (.tup (xs++ys)) G
 |.ref a,.ref b=>(match G a,G b with|some (.lst xs),some (.lst ys)=>xs.length+ys.length<=sizeLine/\∀ p,G p=none->q (.ref p) (gu G p (.lst (xs++ys)))|_,_=>False)
 |.int i,.int j=>q (.int (i+j)) G
 |_,_=>False
def qdV:W8 X.K j0 (λx y H Q=>((rI0 (λi j=>.int (i+j)) x y H Q\/qiH X.K x y H Q)\/qpv x y H Q)\/∃ a b ys,x=.ref a/\y=.ref b/\SqT X.K H a []/\SqT X.K H b ys/\Q (.ref b) H):=λx y v u G H q Q hr rx ry h af=>by
 cases x with
 |tup xs=>
  cases y with
  |tup ys=>
   cases xs with
   |nil=>
    cases rx with
    |tup hs rs=>
     cases rs;cases ry with
     |tup hs' rs'=>exact .inr ⟨_,_,_,rfl,rfl,hs,hs',af _ G h.2 _ H (.tup hs' rs') hr Kp.refl⟩
   |cons x xs=>exact .inl (T7 _ _ v u G H q Q hr rx ry ⟨by simp,h⟩ af)
  |_=>exact h.elim
 |ref a=>
  cases y with
  |ref b=>exact .inl (T7 (.ref a) (.ref b) v u G H q Q hr rx ry h af)
  |_=>exact h.elim
 |int i=>
  cases y with
  |int j=>exact .inl (T7 (.int i) (.int j) v u G H q Q hr rx ry h af)
  |_=>exact h.elim
 |_=>exact h.elim
def qW (ha:jE3 X a ta) (hb:jE3 X b tb):jE3 X (.BinOp a .Add b pos) (o3 j0 ta tb):=⟨qgu (((qgO.or qcw).or qgn).or qez) qdV ha.h hb.h⟩
def WF {prog:Program} {w:World} {A:Around} {E:Value->Shared->Prop} {s:Shared} {t sl:Addr} {items:Array Value} {vl vu:Value} {lo hi:Option Int} {Q:Value->Shared->Prop} (ht:IsTup s.heap t items) (hs:s.heap.IsSliceOf sl vl vu .none) (pl:IsPart vl lo) (pu:IsPart vu hi)
  (hw:HT.sIx items.size 0 lo=0/\HT.sIx items.size items.size hi=items.size) (h:Q (.ref t) s):wpAny (model prog w) A (getItem (.ref t) (.ref sl)) Q E s:=by
 obtain ⟨os,hos,hcs,hds⟩:=id hs;have hTs:s.TypeIs (.ref sl) "slice" := ⟨os,hos,hcs⟩
 unfold getItem
 try with_reducible refine wpAny_holding ?_
 first|refine wpAny_bind (wpAny_pure ?_)|skip
 refine wpAny_bind (wpAny_sequenceKey ht.typeIs (by decide) ?_);refine wpAny_bind (wpAny_callSpecial?_slot (name:=Str.ofString "__getitem__") ht.typeIs PyProof.Rows.slot_tuple_getitem
  (wpAny_call_entry PyProof.Rows.slot_tuple_getitem ht.typeIs entry_tuple_getitem ?_ (args_tuple_getitem _ _)))
 show wpAny _ _ (Builtin.Tuple.tupleItemsOf (.ref t) >>= _) _ _ s;refine wpAny_bind (tupleItemsOf_ ht ?_);refine wpAny_bind (wpAny_typeOf hTs ?_);rw [if_pos (by decide)];refine wpAny_bind (HT.VU hs pl pu ?_);have hyes:(((HT.sIx items.size 0 lo:Nat):Int)==0&&(1:Int)==1&&(HT.sIx items.size items.size hi-HT.sIx items.size 0 lo)==items.size)=true:=by
  rw [hw.1,hw.2];simp
 show wpAny _ _ (if (((HT.sIx items.size 0 lo:Nat):Int)==0&&(1:Int)==1&&(HT.sIx items.size items.size hi-HT.sIx items.size 0 lo)==items.size)=true then _ else _) _ _ s;rw [if_pos hyes];unfold Builtin.Tuple.tupleIsExact;refine wpAny_bind (wpAny_bind (wpAny_typeOf ht.typeIs (wpAny_pure ?_)));rw [if_pos (by decide)];refine wpAny_bind (wpAny_rule ?_);exact wpAny_pure ⟨_,rfl,wpAny_pure h⟩
def qrJ (K:Frg):V->Option Int->Option Int->Hp->VK->Prop:=λx lo hi H Q=>∃ a xs,x=.ref a/\SqT K H a xs/\(HT.sIx xs.length 0 lo=0/\HT.sIx xs.length xs.length hi=xs.length)/\Q (.ref a) H
def qd4:SlR X (qrJ X.K):=by
 intro pins s σ H x v vl vu lo hi sl Q I rx hs pl pu h;obtain ⟨a,xs,rfl,hx,hw,q⟩:=h;cases rx;obtain ⟨its,r,ht,hz⟩:=I.tuple hx;have hlen:its.toArray.size=xs.length:=by rw [size_toArray];exact r.length.symm
 refine ⟨"tuple",_,PyProof.Rows.slot_tuple_getitem.lookup,ht.typeIs,?_⟩;exact WF ht hs pl pu (by rw [hlen];exact hw) ⟨.ref a,H,I,rfl,q⟩
def qpi:T->Option Int->Option Int->Gp->Q3->Prop:=λx lo hi G q=>match x with
 |.tup xs=>q (.tup (UW xs lo hi)) G
 |.ref p=>(match getL G p with|some xs=>∀ a,G a=none->q (.ref a) (gu G a (.lst (UW xs lo hi)))|none=>False)
 |_=>False
def MQ (te:TE3) (tl th:TO3):TE3:=λτ G q=>te τ G λx G1=>tl τ G1 λl G2=>th τ G2 λu G3=>qpi x l u G3 q
def V7 {e:Expr} {te:TE3} {lo hi:Option Expr} {tl th:TO3} {p2:Pos} (he:jE3 X e te) (hl:jP3 X lo tl) (hu:jP3 X hi th):jE3 X (.Subscript e (.Slice lo hi none p2) pos) (MQ te tl th):=
 ⟨XF (T4 ((qfi.or qcR).or qd4) he.h hl.h hu.h) λ_ _ _ ⟨τ,G,q,rl,h,af⟩=>zE rl h λx G1 h1 v H1 rx hr1 k1 rl1=>
  ⟨τ,G1,_,rl1,h1,λl G2 h2 H2 hr2 k2=>⟨τ,G2,_,rl1.next hr2 k2,h2,λu G3 h3 H3 hr3 k3=>by
   have kk:=(k1.trans k2).trans k3;have rx3:=(rx.keep hr1 k2).keep hr2 k3;cases x<;>try exact h3.elim
   case tup xs=>
    cases rx3 with
    |tup hs rs=>
     by_cases hw:HT.sIx xs.length 0 l=0/\HT.sIx xs.length xs.length u=xs.length
     ·refine .inr ⟨_,_,rfl,hs,by rw [← rs.length];exact hw,?_⟩;have e:UW xs l u=xs:=by unfold UW;rw [hw.1,hw.2];simp
      have h4:q (.tup (UW xs l u)) G3:=h3;rw [e] at h4;exact af _ G3 h4 _ _ (.tup hs rs) hr3 kk
     ·refine .inl (.inl ⟨_,_,rfl,hs,by rw [← rs.length];exact hw,λp hp=>?_⟩);exact af _ G3 h3 _ _ (.tup (SqT.of zA) ((rs.cut _ _).keep hr3 (Kp.laid hp))) (hr3.laid hp) (kk.trans (Kp.laid hp))
   case ref p=>
    unfold qpi at h3;simp only at h3;split at h3
    ·rename_i xs e0;cases rx3;obtain ⟨vs,hs,rs⟩:=jA hr3 e0;refine .inl (.inr ⟨p,vs,rfl,hs,λa ha=>?_⟩);exact af _ _ (h3 a (hr3.free ha)) _ _ (.ref a) (hr3.newL ha (rs.cut _ _)) (kk.trans (Kp.newL ha))
    ·exact h3.elim⟩⟩⟩
end
end L3
namespace HT
open PySem PySem.Spec PyProof.Rows
section
variable {prog:Program} {w:World} {A:Around} {E:Value->Shared->Prop} {s:Shared}
end
end HT
namespace L3
open PySem PySem.Spec PyProof.Rows L2
section
variable {X:Cx} {e ek:Expr} {p2 pos:Pos}
end
section
variable {X:Cx} {a b:Expr} {ta tb:TE3} {pos:Pos}
end
abbrev Rd (sp:Sp3) (n:Nat) (t:TS3) (N:List Str):Prop:=∀ ts G q,sp ts G q->ts.length=n/\t { nx:=λ_ G'=>q .non G',rt:=q } (qv N ts) G
def jgn {pos:Pos} {X:Cx} {x:Str} (i:Nat) (hN:decide X.N.Nodup=true:=by kernel_rfl) (hi:X.N[i]?=some x:=by rfl) (hx:Loc X.env.scope x:=by first|exact Or.inl rfl|exact Or.inr rfl) (hf:X.fn x=true\/X.env.scope.names.lookup x=some .local:=by first|exact .inl rfl|exact .inr rfl):jG3 X (.Name x pos) (gn3 i):=
 qA (of_decide_eq_true hN) hi hx hf
end L3
namespace L2
open PySem PySem.Spec PyProof.Rows
section
variable {X:Cx} {pos:Pos}
end
end L2
namespace L3
open PySem PySem.Spec PyProof.Rows L2
section
variable {X:Cx} {pos:Pos}
end
end L3
namespace HT
open PySem PyProof.Rows
section
variable {prog:Program} {w:World} {A:Around} {E:Value->Shared->Prop} {s:Shared}
end
end HT
namespace L3
open PySem PySem.Spec PyProof.Rows L2
section
variable {X:Cx}
end
def F0 (f0:Value):Prop:=f0=.none\/∃ n:Nat,f0=rawInt n
section
variable {P:Program} {w:World} {A:Around} {s:Shared} {z ti to i1 i2 c1 c2:Addr} {S1 S2:Nat->Heap->Prop} {H1 H2:Array Value->Heap->Prop} {k1 k2:Nat} {xs ys:Array Value} {x y a b f0 f1:Value} {E:Value->Shared->Prop}
end
section
variable {P:Program} {w:World} {A:Around} {s:Shared} {E:Value->Shared->Prop}
end
section
variable {X:Cx} {a b e l:Expr} {es:List Expr} {pos:Pos} {t:TA3}
end
end L3
namespace Tb8
open PySem PySem.SetTable
end Tb8
namespace Tb8
open PySem PyProof.Rows
section
variable {prog:Program} {w:World} {A:Around} {E:Value->Shared->Prop} {s:Shared}
end
end Tb8
namespace Tb8
open PySem PyProof.Rows PySem.SetTable
section
variable {prog:Program} {w:World} {A:Around} {E:Value->Shared->Prop} {s:Shared}
end
end Tb8
namespace Tb8
open PySem PySem.SetTable
end Tb8
namespace Tb8
open PySem PyProof.Rows PySem.SetTable
section
variable {prog:Program} {w:World} {A:Around} {E:Value->Shared->Prop} {s:Shared}
end
section
variable {prog:Program} {w:World} {A:Around} {R:Result->Shared->Prop} {I:Addr} {fp wr:List Addr} {n:Nat} {P:Nat->Value->Prop} {St:Nat->Heap->Prop}
end
section
variable {prog:Program} {w:World} {A:Around} {E:Value->Shared->Prop} {s:Shared}
end
end Tb8
namespace L3
open PySem PySem.Spec PyProof.Rows L2
section
variable {X:Cx}
end
end L3
namespace Tb8
open PySem PyProof.Rows PySem.SetTable
section
variable {prog:Program} {w:World} {A:Around} {E:Value->Shared->Prop} {s:Shared}
end
end Tb8
namespace L3
open PySem PySem.Spec PyProof.Rows L2
section
variable {X:Cx}
end
section
variable {X:Cx} {K:Frg} {w:World} {mg:Str->Option Value}
end
section
variable {X:Cx}
end
open PySem.SeqAt
section
variable {X:Cx} {pins:List (Addr×Obj)} {σ:L2.St} {H:Hp} {s:Shared}
end
end L3
namespace HT
open PySem PySem.Spec PyProof.Rows L2
section
open PySem.SeqAt
open PySem.MeetsSeq PySem.MeetsSeq2 PySem.MeetsSeq3
end
section
variable {prog:Program} {w:World} {A:Around} {E:Value->Shared->Prop} {s:Shared}
end
end HT
namespace L3
open PySem PySem.Spec PyProof.Rows L2
section
variable {X:Cx}
end
end L3
namespace HT
open PySem PyProof.Rows
section
variable {prog:Program} {w:World} {A:Around} {R:Result->Shared->Prop} {I:Addr} {fp wr:List Addr} {n:Nat} {P:Nat->Value->Prop} {St:Nat->Heap->Prop}
end
section
variable {prog:Program} {w:World} {A:Around} {E:Value->Shared->Prop} {s:Shared}
end
end HT
namespace L3
open PySem PySem.Spec PyProof.Rows L2
section
variable {X:Cx}
end
section
variable {X:Cx}
end
section
variable {X:Cx}
end
section
variable {X:Cx} {a b:Expr} {ta tb:TE3} {pos:Pos}
end
end L3
namespace L3
open PySem PySem.Spec PyProof.Rows L2 PySem.SeqAt
section
variable {X:Cx} {a b:Expr} {ta tb:TE3} {pos:Pos}
def qg5 (hu:X.A.units<cLine):OpR X (compareOp .Eq) (λx y H Q=>∃ (p:Addr) (c:Str),x=.ref p/\y=.str c/\((∃ ys,SqT X.K H p ys)\/∃ ys,SqL X.K H p ys)/\Q (.bl false) H):=by
 intro pins s σ H x y v u Q I rx ry h;obtain ⟨p,c,rfl,rfl,h,q⟩:=h;cases rx;obtain ⟨t,rfl⟩:=ry;rcases h with ⟨ys,h⟩|⟨ys,h⟩
 ·obtain ⟨its,r1,p1,_⟩:=I.tuple h;exact RcAt.tuple_str c t p1 hu X.prog X.w X.xe _ ⟨.bl false,H,I,rfl,q⟩
 ·obtain ⟨its,r1,p1,_⟩:=I.list h;exact RcAt.list_str c t p1.isList hu X.prog X.w X.xe _ ⟨.bl false,H,I,rfl,q⟩
def KU (hu:X.A.units+64<cLine):OpR X (compareOp .Eq) (λx y H Q=>(rEq x y H Q\/qgs X.K false x y H Q)\/∃ (p:Addr) (c:Str),x=.ref p/\y=.str c/\((∃ ys,SqT X.K H p ys)\/∃ ys,SqL X.K H p ys)/\Q (.bl false) H):=(zh hu).or (qg5 (by omega))
end
def qeC:R3:=λx y G q=>match x,y with
 |.tup _,.str _=>q (.bl false) G
 |.ref a,.str _=>(match G a with|some (.lst _)=>q (.bl false) G|_=>False)
 |x,y=>zV false x y G q
def XR {K:Frg}:W8 K qeC (λx y H Q=>(rEq x y H Q\/qgs K false x y H Q)\/∃ (p:Addr) (c:Str),x=.ref p/\y=.str c/\((∃ ys,SqT K H p ys)\/∃ ys,SqL K H p ys)/\Q (.bl false) H):=λx y v u G H q Q hr rx ry h af=>by
 unfold qeC at h;split at h
 ·cases rx with
  |tup hs rs=>
   cases ry;exact .inr ⟨_,_,rfl,rfl,.inl ⟨_,hs⟩,af _ G h _ H (.bl _) hr Kp.refl⟩
 ·cases rx;cases ry;split at h
  ·rename_i g;obtain ⟨vs,hv,_⟩:=hr.lst g;exact .inr ⟨_,_,rfl,rfl,.inr ⟨_,.inl (.inl hv)⟩,af _ G h _ H (.bl _) hr Kp.refl⟩
  ·exact h.elim
 ·exact .inl (qN _ _ v u G H q Q hr rx ry h af)
end L3
namespace L3
open PySem PySem.Spec PyProof.Rows L2
section
variable {X:Cx} {a b e:Expr} {ta tb te:TE3} {pos:Pos}
def qcX {v:Value} {o:Option Int} (p:IsPart v o):∃ q:Option (Int×Tok),v=partValue q/\q.map (λx=>x.fst)=o:=by
 cases p with
 |none=>exact ⟨none,rfl,rfl⟩
 |int i t=>exact ⟨some (i,t),rfl,rfl⟩
def qrO:V->Option Int->Option Int->Hp->VK->Prop:=λx lo hi H Q=>∃ z,x=.str z/\(Txt.slice z lo hi).length<=sizeLine/\Q (.str (Txt.slice z lo hi)) H
def qkT:SlR X qrO:=by
 intro pins s σ H x v vl vu lo hi sl Q I rx hs pl pu h;obtain ⟨z,rfl,hz,q⟩:=h;obtain ⟨t,rfl⟩:=rx;obtain ⟨ql,rfl,rfl⟩:=qcX pl;obtain ⟨qu,rfl,rfl⟩:=qcX pu;refine ⟨"str",_,slot_str_getitem.lookup,typeIs_str s z t,?_⟩;refine wpAny_getItem_str_slice (l:=ql) (u:=qu) (st:=none) hs rfl ?_;have e:Txt.slice z (ql.map (λx=>x.fst)) (qu.map (λx=>x.fst))=if ((Option.map (λx=>x.fst) (none:Option (Int×Tok))).getD 1==1&&(slicePicked z ql qu none).length==z.length)=true then z else { cps:=(List.filterMap (λx_1=>z.cps[x_1]?) (slicePicked z ql qu none)).toArray }:=rfl
 unfold sliceMade;rw [e] at q hz;split
 ·rename_i c;rw [if_pos c] at q;exact ⟨.str z,H,I,⟨_,rfl⟩,q⟩
 ·rename_i c;rw [if_neg c] at q hz;exact ⟨hz,.str _,H,I.tok _,⟨_,rfl⟩,q⟩
def qrM:T->Option Int->Option Int->Gp->Q3->Prop:=λx lo hi G q=>match x with
 |.str z=>(Txt.slice z lo hi).length<=sizeLine/\q (.str (Txt.slice z lo hi)) G
 |_=>False
def qiu (te:TE3) (tl th:TO3):TE3:=λτ G q=>te τ G λx G1=>tl τ G1 λl G2=>th τ G2 λu G3=>qrM x l u G3 q
def qcc {lo hi:Option Expr} {tl th:TO3} {p2:Pos} (he:jE3 X e te) (hl:jP3 X lo tl) (hu:jP3 X hi th):jE3 X (.Subscript e (.Slice lo hi none p2) pos) (qiu te tl th):=
 ⟨XF (T4 qkT he.h hl.h hu.h) λ_ _ _ ⟨τ,G,q,rl,h,af⟩=>zE rl h λx G1 h1 v H1 rx hr1 k1 rl1=>
  ⟨τ,G1,_,rl1,h1,λl G2 h2 H2 hr2 k2=>⟨τ,G2,_,rl1.next hr2 k2,h2,λu G3 h3 H3 hr3 k3=>by
   have kk:=(k1.trans k2).trans k3;have rx3:=(rx.keep hr1 k2).keep hr2 k3;cases x<;>try exact h3.elim
   cases rx3;exact ⟨_,rfl,h3.1,af _ G3 h3.2 _ _ (.str _) hr3 kk⟩⟩⟩⟩
end
section
variable {X:Cx} {a b:Expr} {ta tb:TE3} {pos:Pos}
end
section
variable {X:Cx}
end
def ev {α:Type}:List α->List α
 |[]=>[]
 |[x]=>[x]
 |x::_::r=>x::ev r
section
variable {X:Cx} {e el ek:Expr} {p2 pos:Pos}
end
section
variable {X:Cx} {pos:Pos} {e:Expr} {te:TE3}
end
section
variable {X:Cx} {pos:Pos} {o i e:Expr} {to ti te:TE3}
end
section
variable {K:Frg} {G G':Gp} {H H':Hp}
def qpn (kvs:List (Int×T)):List Key:=kvs.map λp=>(Sum.inl p.1:Key)
def qpE (kvs:List (Int×T)):List T:=kvs.map λp=>p.2
def HR.dct (hr:HR K G H) {p:Addr} {kvs:List (Int×T)} (g:G p=some (.dct kvs)):∃ vs,H p=some (.dK ((qpn kvs).zip vs))/\Rps K H (qpE kvs) vs:=hr p _ g
end
section
variable {X:Cx} {pos:Pos} {o i e:Expr} {to ti te:TE3}
variable {es:List Expr} {t:TA3}
end
end L3
namespace L3
open PySem PySem.Spec PyProof.Rows L2 PySem.SeqAt
section
variable {prog:Program} {w:World} {A:Around} {E:Value->Shared->Prop} {s:Shared}
end
section
variable {X:Cx}
end
end L3
namespace L2
open PySem PySem.Spec PyProof.Rows
section
variable {X:Cx} {pins:List (Addr×Obj)} {σ:St} {H:Hp} {s:Shared}
end
def VX.there {P:Program} {w:World} {H:Hp} {h:Heap} {a:Addr} {o:HO} (x:VX P w H h a o):∃ u,h.get? a=some u:=by
 cases o with
 |lst xs=>obtain ⟨_,_,_,_,e⟩:=x;exact ⟨_,e⟩
 |tup xs=>obtain ⟨_,_,_,ob,e,_⟩:=x;exact ⟨_,e⟩
 |dK kvs=>obtain ⟨_,_,_,_,o,_,_,e,_⟩:=x;exact ⟨_,e⟩
 |dT kvs=>obtain ⟨_,_,_,_,o,_,_,e,_⟩:=x;exact ⟨_,e⟩
 |set S n=>obtain ⟨o,_,_,_,e,_⟩:=x;exact ⟨_,e⟩
 |ins C dx fs=>obtain ⟨_,_,_,e,_⟩:=x;exact ⟨_,e⟩
 |own y=>obtain ⟨_,e⟩:=x;exact ⟨_,e⟩
 |xd fs=>obtain ⟨_,⟨_,_,_,e,_⟩,_⟩:=x;exact ⟨_,e⟩
 |rng lo hi=>obtain ⟨_,_,_,e⟩:=x;exact ⟨_,e⟩
 |frz ob u=>obtain ⟨e,_⟩:=x;exact ⟨_,e⟩
 |tbl ps=>exact ⟨_,(show h.get? a=some _ from x)⟩
 |met f y=>exact ⟨_,(show h.get? a=some _ from x)⟩
 |ext φ=>obtain ⟨_,⟨_,e⟩,_⟩:=x;exact ⟨_,e⟩
def HOk.nil {P:Program} {w:World} {H:Hp} {h:Heap} {a:Addr} (x:HOk P w H h) (e:h.get? a=none):H a=none:=by
 cases q:H a with
 |none=>rfl
 |some u=>
  obtain ⟨z,y⟩:=(x a u q).there;rw [e] at y;cases y
section
variable {P:Program} {w:World} {K:Frg} {mg:Str->Option Value} {base:Heap} {N:List Str} {qual:Str} {scope:Scope} {f:Addr} {cd:Value} {A:Around} {outer:List Env} {s0:Shared} {H0:Hp} {E:XK} {CX:CXT}
 {pins:List (Addr×Obj)} {σ:St} {H:Hp} {s:Shared}
end
section
variable {X:Cx} {x:Str} {C:Addr} {B Bn newId nid initId inN:String} {bm bmN:List Value} {np cpos pos:Pos} {e:Expr} {es:List Expr} {t:TA} {EE:Hp->Prop}
end
end L2
namespace L3
open PySem PySem.Spec PyProof.Rows L2
abbrev X3:=Addr->Gp->Prop
abbrev Spx:=List T->Gp->X3->Prop
section
variable {X:Cx} {x:Str} {C:Addr} {B Bn newId nid initId inN:String} {bm bmN:List Value} {np cpos pos:Pos} {e:Expr} {es:List Expr} {t:TA3} {dx:X3}
end
section
variable {K:Frg} {G G':Gp} {H H':Hp}
def HR.kind (hr:HR K G H) {a:Addr} (n:G a≠none):(∃ vs,H a=some (.lst vs))\/(∃ o vs,H a=some (.frz o (.lst vs)))\/(∃ kvs,H a=some (.dK kvs))\/∃ φ,H a=some (.ext φ):=by
 cases e:G a with
 |none=>exact absurd e n
 |some o=>
  have q:=hr a o e;cases o with
  |lst xs=>obtain ⟨vs,h1,_⟩:=q;exact .inl ⟨vs,h1⟩
  |frz xs=>obtain ⟨vs,⟨o,h1⟩,_⟩:=q;exact .inr (.inl ⟨o,vs,h1⟩)
  |dct kvs=>obtain ⟨vs,h1,_⟩:=q;exact .inr (.inr (.inl ⟨_,h1⟩))
  |tab ks xs=>obtain ⟨vs,h1,_⟩:=q;exact .inr (.inr (.inl ⟨_,h1⟩))
  |exn C=>exact .inr (.inr (.inr ⟨_,q⟩))
end
end L3
namespace L2
open PySem PySem.Spec PyProof.Rows
section
variable {X:Cx} {pins:List (Addr×Obj)} {σ:St} {H H':Hp} {s s':Shared}
end
section
variable {M:Model} {A:Around} {E:Value->Shared->Prop}
variable {nm q nm' q':Str} {C N B N':Addr} {bs bm bs' bm':List Value} {hdct hdct':Bool} {sn sn':List Str} {sub sub':List Value} {ab ab':Bool} {col col':Option Bool} {dd dd':Option Addr} {k0 k1 k2 k3 k5 l0 l1 l2 l3 l5:Option Value} {newId newId':String}
end
open L3 (IsX)
section
variable {X:Cx} {pins:List (Addr×Obj)} {σ:St} {H:Hp} {s:Shared} {ea:Addr} {o:HO}
end
section
variable {X:Cx} {pins:List (Addr×Obj)} {σ σ0:St} {H:Hp} {s:Shared} {E:XK} {e:Value}
end
section
variable {X:Cx} {pins:List (Addr×Obj)} {σ:St} {H:Hp} {s s':Shared} {E:XK} {ev:Value}
end
end L2
namespace L2
open PySem PySem.Spec PyProof.Rows PySem.W PySem.Calls Builtin Builtin.ObjectAttr Builtin.Getset_descriptor
open L3 (IsX)
section
variable {prog:Program} {w:World} {A:Around} {E:Value->Shared->Prop} {K:Frag} {e C:Addr}
end
end L2
namespace L3
open PySem PySem.Spec PyProof.Rows L2
abbrev TX3:=X3->St3->Gp->Prop
section
variable {X:Cx} {k:Nat} {x:Str} {sx:Spx} {p pos:Pos} {e:Expr} {es:List Expr} {ta:TA3} {tx ty:TX3}
end
section
variable {X:Cx} {e ce:Expr} {te:TE3} {p pos:Pos} {D:List (Option Addr×Bool)}
end
section
variable {X:Cx}
def qrC (ks:List Str):List Key:=ks.map λk=>(Sum.inr k:Key)
def HR.tab {K:Frg} {G:Gp} {H:Hp} (hr:HR K G H) {p:Addr} {ks:List Str} {xs:List T} (g:G p=some (.tab ks xs)):∃ vs,H p=some (.dK ((qrC ks).zip vs))/\Rps K H xs vs:=hr p _ g
end
end L3
namespace L3
open PySem PySem.Spec PyProof.Rows L2 PySem.SeqAt
section
end
section
variable {X:Cx}
end
end L3
namespace L3
open PySem PySem.Spec PyProof.Rows L2
section
variable {X:Cx} {tg a b c:Expr} {pos:Pos}
end
section
variable {X:Cx}
end
section
variable {prog:Program} {w:World} {A:Around} {E:Value->Shared->Prop} {s:Shared}
end
section
variable {X:Cx}
end
section
variable {prog:Program} {w:World} {A:Around} {E:Value->Shared->Prop} {s:Shared}
end
section
variable {prog:Program} {w:World} {A:Around} {E:Value->Shared->Prop} {s:Shared}
end
section
variable {X:Cx}
end
def R5:∀ {its:List Value} {ys:List Str},jh (ys.map V.str) its->StrsAre its ys
 |_,[],h=>by cases h;exact .nil
 |_,y::ys,h=>by
  cases h with
  |cons r t=>
   obtain ⟨k,rfl⟩:=r;exact .cons y k (R5 t)
def NE:List T->Option (List Str)
 |[]=>some []
 |.str x::r=>(match NE r with|some ns=>some (x::ns)|none=>none)
 |_=>none
def qbC (ns:List Str):NE (ns.map T.str)=some ns:=by
 induction ns with
 |nil=>rfl
 |cons n r ih=>simp [NE,ih]
def NY:∀ {xs:List T} {ns:List Str},NE xs=some ns->xs=ns.map T.str
 |[],_,h=>by simp [NE] at h;subst h;rfl
 |x::r,ns,h=>by
  unfold NE at h;split at h
  ·cases h;assumption
  ·rename_i a b c;split at h
   ·rename_i ms e;cases h;cases c;rw [map_cons,← NY e]
   ·cases h
  ·cases h
def qaf {K:Frg} {H:Hp}:∀ {ys:List Str} {vs:List V},Rps K H (ys.map T.str) vs->vs=ys.map V.str
 |[],_,h=>by cases h;rfl
 |y::ys,_,h=>by
  cases h with
  |cons a b=>cases a;rw [qaf b];rfl
section
variable {X:Cx}
def NP (sep:Str) (ys:List Str):Prop:=(ys.map (·.length)).sum+ys.length*sep.length<=16777216
def qhW:MtM X "str.join" (λx vs H Q=>∃ sep p ys,x=.str sep/\vs=[.ref p]/\SqL X.K H p (ys.map V.str)/\NP sep ys/\Q (.str (Txt.join sep ys)) H):=by
 intro pins s σ H x vs v us Q I rx rv h;obtain ⟨sep,p,ys,rfl,rfl,hq,hb,q⟩:=h;obtain ⟨t,rfl⟩:=rx;obtain ⟨u,rfl,ru⟩:=rv.one;cases (show u=Value.ref p from ru);obtain ⟨its,r,pl,hz⟩:=I.list hq;refine join_list pl.isList (ys:=ys) (by simpa using R5 r) hb λt' k=>?_;exact ⟨.str _,H,I.kept (t':=k) λb o e=>e,⟨t',rfl⟩,q⟩
def SW:T->List T->Gp->Q3->Prop:=λx xs G q=>match x,xs with
 |.str sep,[.ref p]=>(match getL G p with|some ts=>(match NE ts with|some ys=>NP sep ys/\q (.str (Txt.join sep ys)) G|none=>False)|none=>False)
 |_,_=>False
def qeA {K:Frg}:qiO K SW (λx vs H Q=>∃ sep p ys,x=.str sep/\vs=[.ref p]/\SqL K H p (ys.map V.str)/\NP sep ys/\Q (.str (Txt.join sep ys)) H):=λx xs v vs G H q Q hr rx rs h af=>by
 unfold SW at h;split at h
 ·rename_i sep p;split at h
  ·rename_i ts e;split at h
   ·rename_i ys e2;have:=NY e2;subst this;cases rx;obtain ⟨u,rfl,r⟩:=LF rs;cases r;obtain ⟨us,hs,r2⟩:=jA hr e;have:=qaf r2;subst this;exact ⟨sep,p,ys,rfl,rfl,hs,h.1,af _ G h.2 _ H (.str _) hr Kp.refl⟩
   ·exact h.elim
  ·exact h.elim
 ·exact h.elim
def qaP (r:T->List T->Gp->Q3->Prop) (to:TE3) (t:TA3):TE3:=λτ G q=>to τ G λx G1=>(match x with|.str _=>True|_=>False)/\t τ G1 λxs G2=>r x xs G2 q
def qhN {e:Expr} {es:List Expr} {t:TA3} {o:Expr} {to:TE3} {name:Str} {apos cpos:Pos} {id:String} {r3:T->List T->Gp->Q3->Prop} {r:V->List V->Hp->VK->Prop} (slot:Slot "str" name id) (hty:typeOf (.builtin id)=pure (.type "method_descriptor")) (hm:MtM X id r) (hr:qiO X.K r3 r) (ho:E3 X o to) (ha:A3 X (e::es) t)
  (hbase:attributeBase o name X.env (eval o X.env)=eval o X.env:=by rfl)
  (hfew:((backTo cpos (starEach (e::es) X.env)).all (λx=>!x.1)&&(backToKw cpos (keywordEach [] X.env)).all (λx=>x.1.isSome)
   && decide ((e::es).length+([]:List Keyword).length+(if ([]:List Keyword).isEmpty then 0 else 1)<30))=true:=by rfl)
  (hline:(apos.endLine==cpos.line)=true:=by rfl) (hs:starEach (e::es) X.env=(false,eval e X.env)::starEach es X.env:=by rfl) (hplain:(backTo cpos (starEach es X.env)).any (·.1)=false:=by rfl) :
  E3 X (.Call (.Attribute o name apos) (e::es) [] cpos) (qaP r3 to t):=
 XF (qmx PySem.F.plainAttrs_str slot hty hm ho ha hbase hfew hline hs hplain) λ_ _ _ ⟨τ,G,q,rl,h,af⟩=>zE rl h λx G1 h1 v H1 rx hr1 k1 rl1=>by
  obtain ⟨hp,h1⟩:=h1;cases x<;>try exact hp.elim
  case str c=>
   cases rx;exact ⟨rfl,UH rl1 h1 λxs G2 h2 vs H2 rs hr2 k2 rl2=>hr _ xs _ vs G2 H2 q _ hr2 (.str c) rs h2 (af.back (k1.trans k2))⟩
def M0 {t:TA3} {e:Expr} {o:Expr} {to:TE3} {apos cpos:Pos} (ho:jE3 X o to) (ha:jA3 X [e] t)
  (hbase:attributeBase o "join" X.env (eval o X.env)=eval o X.env:=by rfl)
  (hfew:((backTo cpos (starEach [e] X.env)).all (λx=>!x.1)&&(backToKw cpos (keywordEach [] X.env)).all (λx=>x.1.isSome)
   && decide (([e]:List Expr).length+([]:List Keyword).length+(if ([]:List Keyword).isEmpty then 0 else 1)<30))=true:=by rfl)
  (hline:(apos.endLine==cpos.line)=true:=by rfl) (hs:starEach [e] X.env=(false,eval e X.env)::starEach [] X.env:=by rfl) (hplain:(backTo cpos (starEach [] X.env)).any (·.1)=false:=by rfl) :
  jE3 X (.Call (.Attribute o "join" apos) [e] [] cpos) (qaP SW to t):=⟨qhN PySem.F.slot_str_join PySem.F.type_str_join qhW qeA ho.h ha.h hbase hfew hline hs hplain⟩
def tFs:List (Str ⊕ TE)->Str->TE
 |[],acc=>λ_ H Q=>acc.length<=sizeLine/\Q (.str acc) H
 |.inl x::r,acc=>λσ H Q=>(acc++x).length<=sizeLine/\tFs r (acc++x) σ H Q
 |.inr te::r,acc=>λσ H Q=>te σ H λv H1=>(∃ y,v=.str y/\y.length<=sizeLine/\(acc++y).length<=sizeLine/\tFs r (acc++y) σ H1 Q)\/(∃ i:Int,v=.int i/\i.natAbs.log2<1920/\(acc++Str.ofString (toString i)).length<=sizeLine/\tFs r (acc++Str.ofString (toString i)) σ H1 Q)
inductive FsOk (X:Cx):List Expr->List (Str ⊕ TE)->Prop
 |nil:FsOk X [] []
 |lit {x j pos es r}:FsOk X es r->FsOk X (.Constant (.str x) j pos::es) (.inl x::r)
 |val {e te pos es r}:PE X e te->FsOk X es r->FsOk X (.FormattedValue e (-1) none pos::es) (.inr te::r)
def XE:∀ {es:List Expr} {ps:List (Str ⊕ TE)},FsOk X es ps->∀ {acc:Str} {σ:L2.St} {H:Hp} {Q:VK} {pins:List (Addr×Obj)} {s:Shared},Inv X pins σ H s->tFs ps acc σ H Q ->
  Joins (model X.prog X.w) X.A X.xe (evalEach es X.env) acc (λout s₁=>out.length<=sizeLine/\EP X pins σ Q (.str out s₁.toks) { s₁ with toks:=s₁.toks+1 }) s
 |_,_,.nil,acc,σ,H,Q,pins,s,I,h=>⟨h.1,.str acc,H,I.tok _,⟨_,rfl⟩,h.2⟩
 |_,_,.lit f,acc,σ,H,Q,pins,s,I,h=>Calls.Constant_str ⟨_,_,rfl,h.1,XE f (I.tok _) h.2⟩
 |_,_,.val he f,acc,σ,H,Q,pins,s,I,h=>by
  refine PyProof.Rows.FormattedValue_plain (thn (he pins s σ H _ I h) λv s1 ⟨x,H1,I1,r1,q⟩=>?_);rcases q with ⟨y,rfl,hy,hl,q⟩|⟨i,rfl,hi,hl,q⟩
  ·obtain ⟨t,rfl⟩:=r1;exact PyProof.Rows.formatField_str (λt' tk=>⟨y,t',rfl,hl,XE f (I1.kept (t':=tk) λb o e=>e) q⟩) hy
  ·obtain ⟨t,rfl⟩:=r1;exact wpAny_formatField_int hi ⟨_,_,rfl,hl,XE f (I1.kept (t':=s1.toks+1+1) λb o e=>e) q⟩
def qpP {a b:Expr} {es:List Expr} {ps:List (Str ⊕ TE)} {pos:Pos} (h:FsOk X (a::b::es) ps):PE X (.JoinedStr (a::b::es) pos) (tFs ps Str.empty):=λpins s σ H Q I ht=>wpAny_JoinedStr (XE h I ht)
def fs3:List (Str ⊕ TE3)->Str->TE3
 |[],acc=>λ_ G q=>acc.length<=sizeLine/\q (.str acc) G
 |.inl x::r,acc=>λτ G q=>(acc++x).length<=sizeLine/\fs3 r (acc++x) τ G q
 |.inr te::r,acc=>λτ G q=>te τ G λv G1=>match v with
  |.str y=>y.length<=sizeLine/\(acc++y).length<=sizeLine/\fs3 r (acc++y) τ G1 q
  |.int i=>i.natAbs.log2<1920/\(acc++Str.ofString (toString i)).length<=sizeLine/\fs3 r (acc++Str.ofString (toString i)) τ G1 q
  |_=>False
inductive Fs3 (X:Cx):List Expr->List (Str ⊕ TE3)->Prop
 |nil:Fs3 X [] []
 |lit {x j pos es r}:Fs3 X es r->Fs3 X (.Constant (.str x) j pos::es) (.inl x::r)
 |val {e te pos es r}:jE3 X e te->Fs3 X es r->Fs3 X (.FormattedValue e (-1) none pos::es) (.inr te::r)
def lP (K:Frg):Str ⊕ TE3->Str ⊕ TE
 |.inl x=>.inl x
 |.inr te=>.inr (lE K te)
def Fs3.ok:∀ {es:List Expr} {ps:List (Str ⊕ TE3)},Fs3 X es ps->FsOk X es (ps.map (lP X.K))
 |_,_,.nil=>.nil
 |_,_,.lit f=>.lit f.ok
 |_,_,.val h f=>.val h.h f.ok
def qeo {K:Frg}:∀ {ps:List (Str ⊕ TE3)} {acc:Str} {σ:L2.St} {H:Hp} {Q:VK},lE K (fs3 ps acc) σ H Q->tFs (ps.map (lP K)) acc σ H Q
 |[],acc,σ,H,Q,⟨τ,G,q,rl,h,af⟩=>⟨h.1,af _ G h.2 _ H (.str _) rl.hp Kp.refl⟩
 |.inl x::r,acc,σ,H,Q,⟨τ,G,q,rl,h,af⟩=>⟨h.1,qeo ⟨τ,G,q,rl,h.2,af⟩⟩
 |.inr te::r,acc,σ,H,Q,⟨τ,G,q,rl,h,af⟩=>by
  refine zE rl h λx G1 h1 v H1 rx hr1 k1 rl1=>?_;cases x<;>try exact h1.elim
  case str y=>cases rx;exact .inl ⟨y,rfl,h1.1,h1.2.1,qeo ⟨τ,G1,q,rl1,h1.2.2,af.back k1⟩⟩
  case int i=>cases rx;exact .inr ⟨i,rfl,h1.1,h1.2.1,qeo ⟨τ,G1,q,rl1,h1.2.2,af.back k1⟩⟩
def qm0 {a b:Expr} {es:List Expr} {ps:List (Str ⊕ TE3)} {pos:Pos} (h:Fs3 X (a::b::es) ps):jE3 X (.JoinedStr (a::b::es) pos) (fs3 ps Str.empty):=⟨XF (qpP h.ok) λ_ _ _ h=>qeo h⟩
end
section
variable {prog:Program} {w:World} {A:Around} {E:Value->Shared->Prop} {s:Shared}
def KQ {it t:Addr} {items:Array Value} (hne:t≠it):∀ (n i:Nat) (s:Shared) (Q:List Value->Shared->Prop),s.heap.IsListIter it t i->s.heap.IsList t items->i+n<=items.size ->
  (∀ h':Heap,h'.IsListIter it t (i+n)->Heap.SameBut it s.heap h'->Q ((items.toList.drop i).take n) { s with heap:=h' })->wpAny (model prog w) A (draw (.ref it) n) Q E s
 |0,i,s,Q,hit,_,_,hQ=>by
  show wpAny _ _ (pure []) Q E s;exact wpAny_pure (by simpa using hQ s.heap hit (Heap.SameBut.refl ..))
 |n+1,i,s,Q,hit,ht,hle,hQ=>by
  have hlt:i<items.size:=by omega
  show wpAny _ _ (pyNext (.ref it) >>= _) Q E s;refine wpAny_bind (wpAny_pyNext_list_item hit ht (x:=items[i]) (by simp [hlt]) λh₁ hit₁ hs₁=>?_);refine wpAny_bind (wpAny_holding (KQ hne n (i+1) _ _ hit₁ (ht.extBut hs₁.extBut hne) (by omega) λh₂ hit₂ hs₂=>wpAny_pure ?_));have hd:items.toList.drop i=items[i]::items.toList.drop (i+1):=by simp [List.drop_eq_getElem_cons,hlt]
  have:=hQ h₂ (by rw [show i+(n+1)=i+1+n by omega];exact hit₂) (hs₁.trans hs₂);rw [hd,List.take_succ_cons] at this;exact this
def W9 {t:Addr} {items:Array Value} {Q:List Value->Shared->Prop} (hh:A.handled=none) (ht:s.heap.IsList t items)
  (hQ:∀ h',Heap.ExtBut s.heap.objs.size s.heap h'->Q items.toList { s with heap:=h' }):wpAny (model prog w) A (unpackItems (.ref t) items.size none) Q E s:=by
 have hlt:t≠s.heap.objs.size:=by obtain ⟨o,ho,_⟩:=ht;exact Nat.ne_of_lt (Heap.lt_size ho)
 unfold unpackItems;refine wpAny_bind ?_;unfold notIterableAtAll;refine wpAny_bind (wpAny_specialOf ht.typeIs PySem.F.slot_list_iter.lookup ?_);refine wpAny_pure ?_;simp only [Bool.false_eq_true,if_false];refine wpAny_bind (wpAny_holding (wpAny_pyIter_list ht ?_));have hpush:(s.heap.push { cls:=.type "list_iterator",data:=.fields #[.ref t,.int 0 0] }).IsList t items:=by
  obtain ⟨o,e,c,d⟩:=ht;exact ⟨o,Heap.get?_push_of_some _ e,c,d⟩
 refine wpAny_bind (wpAny_holding (KQ hlt items.size 0 _ _ ⟨_,Heap.get?_push_size _ rfl,rfl,rfl⟩ hpush (by omega) λh₁ hit₁ hs₁=>?_));have hall:List.take items.size (List.drop 0 items.toList)=items.toList:=by
  rw [List.drop_zero];exact List.take_of_length_le (by simp)
 rw [hall];rw [if_neg (by simp)];have ht₁:h₁.IsList t items:=hpush.extBut hs₁.extBut hlt;refine wpAny_bind (wpAny_holding (wpAny_pyNext_list_end hh hit₁ ht₁ (by simp) λh₂ he₂=>?_));simp only [Option.isSome_none,Bool.false_eq_true,if_false];exact wpAny_pure (hQ h₂ λb o hb e=>he₂ b o hb (hs₁.extBut b o hb (Heap.get?_push_of_some _ e)))
def D0 {env:Env} {elts:List Expr} {x1} {pos:Pos} {t:Addr} {items:Array Value} {Q:Unit->Shared->Prop} (hh:A.handled=none) (ht:s.heap.IsList t items)
  (hn:(assignEach elts env).length=items.size) (hstar:(assignEach elts env).findIdx? (·.1)=none)
  (h:∀ h',Heap.ExtBut s.heap.objs.size s.heap h'->wpAny (model prog w) A (assignInOrder ((assignEach elts env).map (·.2)) items.toList) Q E { s with heap:=h' }) :
  wpAny (model prog w) A (assign (.Tuple elts x1 pos) env (.ref t)) Q E s:=by
 rw [assign_Tuple];refine wpAny_bind (wpAny_standAt ?_);unfold unpack;rw [hn,hstar];exact wpAny_bind (wpAny_holding (W9 hh ht h))
end
section
variable {X:Cx} {pos:Pos}
def qqe (K:Frg) (n:Nat) (t:TGs):TG:=λv σ H Q=>∃ a xs,v=.ref a/\SqL K H a xs/\xs.length=n/\t xs σ H Q
def qhu {es:List Expr} {k:Nat} {t:TGs} {n:Nat} (hc:X.calm=true) (h:PGs X es t)
  (hn:(assignEach es X.env).length=n:=by rfl) (hst:(assignEach es X.env).findIdx? (·.1)=none:=by rfl):PG X (.Tuple es k pos) (qqe X.K n t):=by
 intro pins s σ H v u Q I r hw;obtain ⟨a,xs,e1,hq,hl,hw⟩:=hw;subst e1;cases r;obtain ⟨its,rv,ht,hz⟩:=I.list hq;refine D0 (I.ok.hd hc) ht.isList (by simp [hn,← hl,rv.length]) hst λh' hx=>?_;have I1:Inv X pins σ H { s with heap:=h' }:=I.kept (t':=s.toks) λb o e=>hx b o (Nat.ne_of_lt (Heap.lt_size e)) e;exact h pins _ σ H xs _ Q I1 (by simpa using rv) hw
def N6 (n:Nat) (t:C1):TG3:=λx τ G q=>match x with|.ref p=>(match getL G p with|some xs=>xs.length=n/\t xs τ G q|none=>False)|_=>False
def qhi {es:List Expr} {k:Nat} {tgs:C1} {n:Nat} (hc:X.calm=true) (h:jGs3 X es tgs) (hn:(assignEach es X.env).length=n:=by rfl) (hst:(assignEach es X.env).findIdx? (·.1)=none:=by rfl):jG3 X (.Tuple es k pos) (N6 n tgs):=
 ⟨qlL (qhu hc h.h hn hst) λv σ H Q ⟨x,τ,G,q,rx,rl,h,af⟩=>by
  cases x<;>try exact h.elim
  case ref p=>
   cases rx;have h':(match getL G p with|some xs=>xs.length=n/\tgs xs τ G q|none=>False):=h;split at h'
   ·rename_i xs e;obtain ⟨us,hs,r2⟩:=jA rl.hp e;exact ⟨_,us,rfl,hs,by rw [← r2.length];exact h'.1,_,τ,G,q,r2,rl,h'.2,af⟩
   ·exact h'.elim⟩
end
open PySem.SeqAt
section
variable {X:Cx} {pins:List (Addr×Obj)} {σ:L2.St} {H:Hp} {s:Shared}
end
end L3
namespace L3
open PySem PySem.Spec PyProof.Rows L2
open Builtin Builtin.Str
section
variable {prog:Program} {w:World} {A:Around} {E:Value->Shared->Prop} {s:Shared}
def qc0 {x y:Str} {t u:Tok} {Q:Value->Shared->Prop} (hy:(y.length==0)=false) (hsz:x.length+2<=sizeLine)
  (h:∀ l k,l.map (·.1)=Txt.split x y->Q (.ref s.heap.objs.size) { s with heap:=s.heap.push { cls:=.type "list",data:=.seq (strValues l).toArray },toks:=k }) :
  wpAny (model prog w) A (call (.builtin "str.split") [.str x t,.str y u]) Q E s:=by
 have hn:(partsBetween x (occurrences x y 0 x.length (x.length+1)) y.length).length<=sizeLine:=by
  have e1:=StrLaws.occ_length_le x y 0 x.length (x.length+1);rw [length_partsBetween];omega
 cases h1:(decide (x.length<y.length)||decide (strKind x<strKind y))
 ·cases hf:(occurrences x y 0 x.length (x.length+1)).isEmpty
  ·refine call_meets F.slot_str_split (typeIs_str _ _ _) F.entry_str_split (F.args_str_split_2 _ _) (meets_str_split_sep x y t u h1 hy hf (by omega) hn) ?_;show wants Q E _ { s with toks:=_,heap:=s.heap.push { cls:=.type "list",data:=.seq (strsFrom s.toks (partsBetween x (occurrences x y 0 x.length (x.length+1)) y.length)).toArray } };rw [strsFrom_eq];exact h (numbered s.toks _) _ ((numbered_texts _ _).trans ((if_neg (ne_true_of_eq_false h1)).trans (if_neg (ne_true_of_eq_false hf))).symm)
  ·exact call_meets F.slot_str_split (typeIs_str _ _ _) F.entry_str_split (F.args_str_split_2 _ _) (meets_str_split_not_found x y t u h1 hy hf)
    (h [(x,t)] s.toks ((if_neg (ne_true_of_eq_false h1)).trans (if_pos hf)).symm)
 ·exact call_meets F.slot_str_split (typeIs_str _ _ _) F.entry_str_split (F.args_str_split_2 _ _) (meets_str_split_cannot_occur x y t u h1)
   (h [(x,t)] s.toks (if_pos h1).symm)
end
def LM:∀ (l:List (Str×Tok)),jh ((l.map (·.1)).map V.str) (strValues l)
 |[]=>.nil
 |p::l=>.cons ⟨_,rfl⟩ (LM l)
def qch (x y:Str):(Txt.split x y).length<=x.length+2:=by
 unfold Txt.split;split
 ·simp
 ·split
  ·simp
  ·have e1:=StrLaws.occ_length_le x y 0 x.length (x.length+1);rw [length_partsBetween];omega
section
variable {X:Cx}
def qbo:MtM X "str.startswith" (λx vs H Q=>∃ a b,x=.str a/\vs=[.str b]/\Q (.bl (Txt.startswith a b)) H):=by
 intro pins s σ H x vs v us Q I rx rv h;obtain ⟨a,b,rfl,rfl,q⟩:=h;obtain ⟨t,rfl⟩:=rx;obtain ⟨u,rfl,ru⟩:=rv.one;obtain ⟨k,rfl⟩:=ru;exact SC.startswith ⟨.bl _,H,I,rfl,q⟩
def X8:T->List T->Gp->Q3->Prop:=λx xs G q=>match x,xs with
 |.str a,[.str b]=>q (.bl (Txt.startswith a b)) G
 |_,_=>False
def qaO {K:Frg}:qiO K X8 (λx vs H Q=>∃ a b,x=.str a/\vs=[.str b]/\Q (.bl (Txt.startswith a b)) H):=λx xs v vs G H q Q hr rx rs h af=>by
 unfold X8 at h;split at h
 ·cases rx;obtain ⟨u,rfl,r⟩:=LF rs;cases r;exact ⟨_,_,rfl,rfl,af _ G h _ H (.bl _) hr Kp.refl⟩
 ·exact h.elim
def qdP:MtM X "str.split" (λx vs H Q=>∃ a b,x=.str a/\vs=[.str b]/\b.length≠0/\a.length+2<=sizeLine/\∀ l,H l=none->Q (.ref l) (upd H l (.lst ((Txt.split a b).map V.str)))):=by
 intro pins s σ H x vs v us Q I rx rv h;obtain ⟨a,b,rfl,rfl,hb,hz,q⟩:=h;obtain ⟨t,rfl⟩:=rx;obtain ⟨u,rfl,ru⟩:=rv.one;obtain ⟨k,rfl⟩:=ru;refine qc0 (by simpa using hb) hz λl tk e=>?_;refine ⟨.ref s.heap.objs.size,_,I.laid (t':=tk) (o:=.lst ((Txt.split a b).map V.str)) (λb ob q=>Heap.get?_push_of_some _ q) (Nat.le_refl _) ?_,rfl,q _ (I.hok.fresh (Nat.le_refl _))⟩;refine ⟨by rw [length_map];exact Nat.le_trans (qch a b) hz,strValues l,0,?_,Heap.get?_push_size _ rfl⟩;rw [← e];exact LM l
def LK:T->List T->Gp->Q3->Prop:=λx xs G q=>match x,xs with
 |.str a,[.str b]=>b.length≠0/\a.length+2<=sizeLine/\∀ p,G p=none->q (.ref p) (gu G p (.lst ((Txt.split a b).map T.str)))
 |_,_=>False
def CU {K:Frg} {H:Hp}:∀ (ys:List Str),Rps K H (ys.map T.str) (ys.map V.str)
 |[]=>.nil
 |y::ys=>.cons (.str y) (CU ys)
def qc1 {K:Frg}:qiO K LK (λx vs H Q=>∃ a b,x=.str a/\vs=[.str b]/\b.length≠0/\a.length+2<=sizeLine/\∀ l,H l=none->Q (.ref l) (upd H l (.lst ((Txt.split a b).map V.str)))):=λx xs v vs G H q Q hr rx rs h af=>by
 unfold LK at h;split at h
 ·cases rx;obtain ⟨u,rfl,r⟩:=LF rs;cases r;exact ⟨_,_,rfl,rfl,h.1,h.2.1,λl hl=>af _ _ (h.2.2 l (hr.free hl)) _ _ (.ref l) (hr.newL hl (CU _)) (Kp.newL hl)⟩
 ·exact h.elim
def qdj {t:TA3} {e:Expr} {o:Expr} {to:TE3} {apos cpos:Pos} (ho:jE3 X o to) (ha:jA3 X [e] t)
  (hbase:attributeBase o "startswith" X.env (eval o X.env)=eval o X.env:=by rfl)
  (hfew:((backTo cpos (starEach [e] X.env)).all (λx=>!x.1)&&(backToKw cpos (keywordEach [] X.env)).all (λx=>x.1.isSome)
   && decide (([e]:List Expr).length+([]:List Keyword).length+(if ([]:List Keyword).isEmpty then 0 else 1)<30))=true:=by rfl)
  (hline:(apos.endLine==cpos.line)=true:=by rfl) (hs:starEach [e] X.env=(false,eval e X.env)::starEach [] X.env:=by rfl) (hplain:(backTo cpos (starEach [] X.env)).any (·.1)=false:=by rfl) :
  jE3 X (.Call (.Attribute o "startswith" apos) [e] [] cpos) (qaP X8 to t):=⟨qhN PySem.F.slot_str_startswith PySem.F.type_str_startswith qbo qaO ho.h ha.h hbase hfew hline hs hplain⟩
def qeh {t:TA3} {e:Expr} {o:Expr} {to:TE3} {apos cpos:Pos} (ho:jE3 X o to) (ha:jA3 X [e] t)
  (hbase:attributeBase o "split" X.env (eval o X.env)=eval o X.env:=by rfl)
  (hfew:((backTo cpos (starEach [e] X.env)).all (λx=>!x.1)&&(backToKw cpos (keywordEach [] X.env)).all (λx=>x.1.isSome)
   && decide (([e]:List Expr).length+([]:List Keyword).length+(if ([]:List Keyword).isEmpty then 0 else 1)<30))=true:=by rfl)
  (hline:(apos.endLine==cpos.line)=true:=by rfl) (hs:starEach [e] X.env=(false,eval e X.env)::starEach [] X.env:=by rfl) (hplain:(backTo cpos (starEach [] X.env)).any (·.1)=false:=by rfl) :
  jE3 X (.Call (.Attribute o "split" apos) [e] [] cpos) (qaP LK to t):=⟨qhN PySem.F.slot_str_split PySem.F.type_str_split qdP qc1 ho.h ha.h hbase hfew hline hs hplain⟩
end
end L3
namespace L3
open PySem PySem.Spec PyProof.Rows L2
section
variable {prog:Program} {w:World} {A:Around} {E:Value->Shared->Prop} {s:Shared}
def NH {l:Addr} {items:Array Value} {v0:Value} {r:List Value} {Q:List Value->Shared->Prop} (hh:A.handled=none) (hl:s.heap.IsList l items) (e:items.toList=v0::r) (hz:items.size<=16384)
  (h:∀ (h':Heap) (tk:Nat),(∀ b o,s.heap.get? b=some o->h'.get? b=some o)->Q [v0,.ref h'.objs.size] { s with heap:=h'.push { cls:=.type "list",data:=.seq r.toArray },toks:=tk }):wpAny (model prog w) A (unpackItems (.ref l) 2 (some 1)) Q E s:=by
 have hlt:l≠s.heap.objs.size:=by obtain ⟨o,ho,_⟩:=hl;exact Nat.ne_of_lt (Heap.lt_size ho)
 have hs:items.size=r.length+1:=by rw [← Array.length_toList,e];rfl
 unfold unpackItems;refine wpAny_bind ?_;unfold notIterableAtAll;refine wpAny_bind (wpAny_specialOf hl.typeIs PySem.F.slot_list_iter.lookup ?_);refine wpAny_pure ?_;simp only [Bool.false_eq_true,if_false];refine wpAny_bind (wpAny_holding (wpAny_pyIter_list hl ?_));refine wpAny_bind (wpAny_holding (PySem.W.kun_draw hlt 1 0 _ _ ⟨_,Heap.get?_push_size _ rfl,rfl,rfl⟩ (hl.push _) (by omega) λh₁ hit₁ hs₁=>?_));have hl₁:h₁.IsList l items:=(hl.push _).extBut hs₁.extBut hlt;rw [Nat.zero_add] at hit₁;have hit₁':=hit₁;obtain ⟨oi,hoi,_⟩:=hit₁';have hl₁':=hl₁;obtain ⟨ol,hol,_⟩:=hl₁';rw [List.drop_zero];have e1:items.toList.take 1=[v0]:=by rw [e];rfl
 have e2:items.toList.drop 1=r:=by rw [e];rfl
 rw [e1];rw [if_neg (show ¬ (([v0]:List Value).length<1) by simp)];refine wpAny_bind (wpAny_holding (PySem.W.kun_collect (s:={ s with heap:=h₁ }) (T:="list_iterator") (.inr (.inr (.inl rfl))) (PySem.Walks.list (A:=A.in1) hh s.heap.objs.size l hlt items) (λj u st=>st.1.typeIs) (k:=1) (by omega) ⟨hit₁,hl₁⟩ (Heap.lt_size hoi) (Heap.lt_size hol) (λh₂ tk hk=>?_) (by rw [sizeLine_eq];omega)));rw [e2];show wpAny _ _ (if r.length<2-1-1 then _ else _) _ _ _;rw [if_neg (by omega)];show wpAny _ _ (newList (r.take (r.length-(2-1-1))) >>= λd=>pure ([v0]++[d]++r.drop (r.length-(2-1-1)))) _ _ _;have e3:r.take (r.length-(2-1-1))=r:=List.take_of_length_le (by omega);have e4:r.drop (r.length-(2-1-1))=[]:=List.drop_of_length_le (by omega);rw [e3,e4];have he:Heap.ExtBut s.heap.objs.size s.heap h₂:=λb o hb e=>hk b o hb (hs₁.extBut b o hb (Heap.get?_push_of_some _ e));exact wpAny_bind (wpAny_newList (wpAny_pure (h h₂ tk λb o e=>he b o (Nat.ne_of_lt (Heap.lt_size e)) e)) (by rw [sizeLine_eq];omega))
end
section
variable {X:Cx} {pos:Pos}
def qpO (K:Frg) (t:TGs):TG:=λv σ H Q=>∃ a x xs,v=.ref a/\SqL K H a (x::xs)/\xs.length<16384/\∀ l,H l=none->t [x,.ref l] σ (upd H l (.lst xs)) Q
def qg3 {e1 e2:Expr} {k:Nat} {t:TGs} {p:Pos} (hc:X.calm=true) (h:PGs X [e1,e2] t)
  (hn:(assignEach [e1,.Starred e2 p] X.env).length=2:=by rfl) (hst:(assignEach [e1,.Starred e2 p] X.env).findIdx? (·.1)=some 1:=by rfl)
  (hm:(assignEach [e1,.Starred e2 p] X.env).map (·.2)=(assignEach [e1,e2] X.env).map (·.2):=by rfl):PG X (.Tuple [e1,.Starred e2 p] k pos) (qpO X.K t):=by
 intro pins s σ H v u Q I r hw;obtain ⟨a,x,xs,e,hq,hl,hw⟩:=hw;subst e;cases r;obtain ⟨its,rv,ht,hz⟩:=I.list hq;cases rv with
 |cons r0 rr=>
  rename_i v0 vr;rw [assign_Tuple];refine wpAny_bind (wpAny_standAt ?_);unfold unpack;rw [hn,hst,hm];refine wpAny_bind (wpAny_holding (NH (v0:=v0) (r:=vr) (I.ok.hd hc) ht.isList (by simp) (by have:=rr.length;simp;omega) λh' tk hk=>?_));have I1:Inv X pins σ H { s with heap:=h',toks:=tk }:=I.kept (t':=tk) hk;have I2:Inv X pins σ (upd H h'.objs.size (.lst xs)) { s with heap:=h'.push { cls:=.type "list",data:=.seq vr.toArray },toks:=tk }:=I1.laid (t':=tk) (o:=.lst xs) (λb ob q=>Heap.get?_push_of_some _ q) (Nat.le_refl _) ⟨by rw [sizeLine_eq];omega,vr,0,rr,Heap.get?_push_size _ rfl⟩;exact h pins _ σ _ [x,.ref h'.objs.size] _ Q I2 (.cons r0 (.cons rfl .nil)) (hw _ (I1.hok.fresh (Nat.le_refl _)))
def qak (t:C1):TG3:=λx τ G q=>match x with|.ref p=>(match getL G p with|some (y::ys)=>ys.length<16384/\∀ l,G l=none->t [y,.ref l] τ (gu G l (.lst ys)) q|_=>False)|_=>False
def qiM {e1 e2:Expr} {k:Nat} {tgs:C1} {p:Pos} (hc:X.calm=true) (h:jGs3 X [e1,e2] tgs)
  (hn:(assignEach [e1,.Starred e2 p] X.env).length=2:=by rfl) (hst:(assignEach [e1,.Starred e2 p] X.env).findIdx? (·.1)=some 1:=by rfl)
  (hm:(assignEach [e1,.Starred e2 p] X.env).map (·.2)=(assignEach [e1,e2] X.env).map (·.2):=by rfl):jG3 X (.Tuple [e1,.Starred e2 p] k pos) (qak tgs):=
 ⟨qlL (qg3 hc h.h hn hst hm) λv σ H Q ⟨x,τ,G,q,rx,rl,h,af⟩=>by
  cases x<;>try exact h.elim
  case ref p=>
   cases rx;have h':(match getL G p with|some (y::ys)=>ys.length<16384/\∀ l,G l=none->tgs [y,.ref l] τ (gu G l (.lst ys)) q|_=>False):=h;split at h'
   ·rename_i y ys e;obtain ⟨us,hs,r2⟩:=jA rl.hp e;cases r2 with
    |cons ry rr=>
     rename_i v1 vs1;refine ⟨_,_,_,rfl,hs,by rw [← rr.length];exact h'.1,λl hl=>?_⟩;have kp:Kp G H (gu G l (.lst ys)) (upd H l (.lst vs1)):=Kp.newL hl;have hr2:=rl.hp.newL hl rr;exact ⟨_,τ,_,q,.cons (ry.keep rl.hp kp) (.cons (.ref l) .nil),rl.next hr2 kp,h'.2 l (rl.hp.free hl),af.back kp⟩
   ·exact h'.elim⟩
def qbW:UE X (.type "int") (λxs H Q=>∃ x n,xs=[.str x]/\PySem.intText? x=some n/\x.length<=640/\Q (.int n) H):=by
 intro pins s σ H xs us Q I r h;obtain ⟨x,n,rfl,hn,hl,q⟩:=h;obtain ⟨u,rfl,t,rfl⟩:=SZ r;exact PySem.W.KIN.call_text hn hl ⟨.int n,H,I.tok _,⟨_,rfl⟩,q⟩
def qem:List T->Gp->Q3->Prop:=λxs G q=>match xs with|[.str x]=>x.length<=640/\∃ n,PySem.intText? x=some n/\q (.int n) G|_=>False
def qex {K:Frg}:qaF K qem (λxs H Q=>∃ x n,xs=[.str x]/\PySem.intText? x=some n/\x.length<=640/\Q (.int n) H):=λxs vs G H q Q hr rs h af=>by
 unfold qem at h;split at h
 ·obtain ⟨v,rfl,r⟩:=LF rs;cases r;obtain ⟨hl,n,hn,h⟩:=h;exact ⟨_,n,rfl,hn,hl,af _ G h _ H (.int _) hr Kp.refl⟩
 ·exact h.elim
end
def Its (x:Str):It:=⟨λi _=>i<x.cps.size,λi H v H'=>H'=H/\∃ c,x.cps[i]?=some c/\v=.str ⟨#[c]⟩,λi _=>x.cps.size<=i⟩
def qdT {P:Program} {w:World} {K:Frg} {tg:Expr} (x:Str) (t:Tok) (it:Addr):Turn P w K tg (Its x) [it] it (λi h=>i<=x.cps.size/\h.IsStrIter it "str_ascii_iterator" x t i) where
 mem:=by simp
 obj:=λi h st b hb=>by
  have e:b=it:=by simpa using hb
  subst e;obtain ⟨_,o,e,c,d⟩:=st;exact ⟨o,e,λv z=>by rw [d] at z;cases z⟩
 keep:=λi h h' st k=>let ⟨o,ho,r⟩:=st.2;⟨st.1,o,k it (by simp) o ho,r⟩
 item:=by
  intro X hP hw hK hc i pins s σ H E I hf st hg;subst hP hw hK;obtain ⟨f0,f1,f2,f3,f4,f5⟩:=hf it (by simp);have hi:i<x.cps.size:=hg;refine (PySem.Walks.strAscii (A:=X.A) (I.ok.hd hc) it x t).item i s _ _ hi st.2 λv h' tk hp st' hk=>?_;obtain ⟨c,u,e1,rfl⟩:=hp;have I1:Inv X pins σ H { s with heap:=h',toks:=tk }:=I.turned (t':=tk) (λb o hb e=>hk b o (by simpa using hb) e) f0 f1 f3 f4 f5;obtain ⟨o,e,c',d⟩:=id st';exact ⟨_,rfl,qdw (s:={ s with heap:=h',toks:=tk }) e c' d (by decide) ⟨.str ⟨#[c]⟩,H,I1,⟨_,rfl⟩,⟨rfl,c,e1,rfl⟩,⟨by omega,st'⟩,λb hb=>(hf b hb).1⟩⟩
 done:=by
  intro X hP hw hK hc i pins s σ H E I hf st hg;subst hP hw hK;obtain ⟨f0,f1,f2,f3,f4,f5⟩:=hf it (by simp);have hi:i=x.cps.size:=Nat.le_antisymm st.1 hg;subst hi;exact (PySem.Walks.strAscii (A:=X.A) (I.ok.hd hc) it x t).done s _ _ st.2 λh' tk hk=>⟨rfl,I.turned (t':=tk) (λb o hb e=>hk b o (by simpa using hb) e) f0 f1 f3 f4 f5⟩
 self:=λ_ _ _ _ _ st h=>wpAny_pyIter_striter_ascii st.2 h
def WZ (x:Str):List T:=x.cps.toList.map λc=>T.str ⟨#[c]⟩
def qjm {K:Frg} {x:Str} {G0:Gp} {H0:Hp}:qiE K (Its x) (WZ x) (λ_=>True) G0 H0:=by
 intro G H hr k _;have hl:(WZ x).length=x.cps.size:=by simp [WZ]
 refine ⟨λi y hi=>?_,λi y v H' hi z=>?_,(show x.cps.size<=(WZ x).length by rw [hl];exact Nat.le_refl _)⟩
 ·have:=(List.getElem?_eq_some_iff.mp hi).1;rw [hl] at this;exact this
 ·obtain ⟨e,c,e1,e2⟩:=z;subst e e2;unfold WZ at hi;rw [getElem?_map,Array.getElem?_toList,e1] at hi;cases hi;exact ⟨.str _,hr,Kp.refl⟩
section
variable {X:Cx} {tg l:Expr}
def qru (tl:TE):TI:=λσ H R=>tl σ H λv H1=>∃ x,v=.str x/\x.cps.all (·<128)=true/\R (Its x) H1
def qmZ {tl:TE} (hl:PE X l tl):PI X tg l (qru tl):=by
 intro pins s σ H R I h;refine thn (hl pins s σ H _ I h) λv s1 ⟨x,H1,I1,r1,q1⟩=>?_;obtain ⟨y,e,ha,q⟩:=q1;subst e;obtain ⟨t,rfl⟩:=r1;refine wpAny_pyIter_ascii ha ?_;refine ⟨s1.heap.objs.size,[s1.heap.objs.size],_,_,H1,rfl,I1.kept (t':=s1.toks) λb o e=>Heap.get?_push_of_some _ e,qdT y t _,⟨Nat.zero_le _,_,Heap.get?_push_size _ rfl,rfl,rfl⟩,λb hb=>?_,q⟩;have e:b=s1.heap.objs.size:=by simpa using hb
 subst e;exact I1.fpOk (Nat.le_refl _) (I1.hok.fresh (Nat.le_refl _))
def qhK (tl:TE3):TI3:=λτ G r=>tl τ G λv G1=>match v with
 |.str x=>x.cps.all (·<128)=true/\r (WZ x) (λ_=>True) G1
 |_=>False
def qmB {te:TE3} (hl:jE3 X l te):jI3 X tg l (qhK te):=⟨qkH (qmZ hl.h) λσ H R ⟨τ,G,r,rl,h,af⟩=>zE rl h λx G1 h1 v H1 rx hr1 k1 rl1=>by
 cases x<;>try exact h1.elim
 case str y=>
  cases rx;exact ⟨_,rfl,h1.1,af _ _ G1 h1.2 _ H1 hr1 k1 qjm⟩⟩
def qmC:OpR X (compareOp .In) (λx y H Q=>∃ a b,x=.str a/\y=.str b/\Q (.bl (Txt.contains b a)) H):=by
 intro pins s σ H x y v u Q I rx ry h;obtain ⟨a,b,rfl,rfl,q⟩:=h;obtain ⟨t,rfl⟩:=rx;obtain ⟨t',rfl⟩:=ry;exact SB.contains ⟨.bl _,H,I,rfl,q⟩
def qn3:R3:=λx y G q=>match x,y with
 |.str a,.str b=>q (.bl (Txt.contains b a)) G
 |_,_=>False
def qh0 {K:Frg}:W8 K qn3 (λx y H Q=>∃ a b,x=.str a/\y=.str b/\Q (.bl (Txt.contains b a)) H):=λx y v u G H q Q hr rx ry h af=>by
 unfold qn3 at h;split at h
 ·cases rx;cases ry;exact ⟨_,_,rfl,rfl,af _ _ h _ _ (.bl _) hr Kp.refl⟩
 ·exact h.elim
end
def qpK {X:Cx} {x y:Str} {pos:Pos} (hg:Gl X x) (hm:∃ t,X.mg x=some (.str y t)) (hd:(x==("__debug__" : Str))=false:=by decide):jE3 X (.Name x pos) (c3 (.str y)):=by
 obtain ⟨t,hm⟩:=hm;exact ⟨e_c (qbg (v:=.str y) hg hm ⟨t,rfl⟩ hd) λ_=>.str y⟩
def qou {X:Cx} {x:Str} {y:Int} {pos:Pos} (hg:Gl X x) (hm:∃ t,X.mg x=some (.int y t)) (hd:(x==("__debug__" : Str))=false:=by decide):jE3 X (.Name x pos) (c3 (.int y)):=by
 obtain ⟨t,hm⟩:=hm;exact ⟨e_c (qbg (v:=.int y) hg hm ⟨t,rfl⟩ hd) λ_=>.int y⟩
def qbv {te:TE3} {pos:Pos} {e:Expr} {X:Cx} (i:Nat) {x:Str} {pos':Pos} (hN:X.N.Nodup) (he:jE3 X e te) (hi:X.N[i]?=some x:=by rfl) (hx:Loc X.env.scope x:=by first|exact Or.inl rfl|exact Or.inr rfl) (hf:X.fn x=true\/X.env.scope.names.lookup x=some .local:=by first|exact .inl rfl|exact .inr rfl):jS3 X (.AugAssign (.Name x pos') .Sub e pos) (MF i (iI (·-·)) te):=
 ⟨qcq (qgj (i:=i) hN hi hx he.h qjt hf) λD σ H ⟨τ,G,d,rl,h,af⟩=>by
  unfold MF at h;split at h
  ·rename_i x e1;obtain ⟨v,e2,rv⟩:=rl.st i x e1;refine ⟨v,e2,zE rl h λy G1 h1 u H1 ry hr1 k1 rl1=>?_⟩;have rv1:=rv.keep rl.hp k1;cases x<;>try exact h1.elim
   cases y<;>try exact h1.elim
   cases rv1;cases ry;exact ⟨_,_,rfl,rfl,af.nx _ G1 h1 _ H1 (rl1.set i (.int _)) k1⟩
  ·exact h.elim⟩
def qcm:Sp3:=λ_ _ _=>False
def DQ {P:Program} {w:World} {K:Frg} {mg:Str->Option Value} {base:Heap} {x qual:Str} {st:Stmt} {f:Addr} {fd:FuncData} {ps:List Str} (F:Fun K x qual st f fd) (bd:zt K fd ps []) (hm:mg x=some (.ref f)):Fn3 P w K mg base 0 x qcm:=
 ⟨f,fd,ps,⟨λvs H Q E ⟨_,_,_,_,_,h,_⟩=>h.elim,λA outer s H args us vs Q E _ _ _ _ ⟨_,_,_,_,_,h,_⟩=>h.elim⟩,bd,F.kp,hm⟩
def ixT (xs:List T) (i:Int) (G:Gp) (q:Q3):ix3 (.tup xs) (.int i) G q=(match L2.atI xs i with|some z=>q z G|none=>False):=rfl
def ixR (p:Addr) (i:Int) (G:Gp) (q:Q3):ix3 (.ref p) (.int i) G q=(match getL G p with|some xs=>(match L2.atI xs i with|some z=>q z G|none=>False)|none=>False):=rfl
def TH:¬ Str.ofString "rests" = Str.ofString "skew" := by decide
def cm {i j:Int} (h1:-1000000<j) (h2:j<1000000):XQ i j:=.inr ⟨by omega,by omega⟩
def T2 {stay:Gp->Prop} {g:TG3} {tif:TT3} {te:TE3} {q:Q3} (items:List T) (Pv:Nat->List T->St3->Gp->Prop) {τ:St3} {G:Gp} (h0:Pv 0 [] τ G) (hst:∀ i ys τ G,i<=items.length->Pv i ys τ G->stay G)
  (hs:∀ i x ys τ G (R:List T->St3->Gp->Prop),items[i]?=some x->Pv i ys τ G->(∀ ys' τ' G',Pv (i+1) ys' τ' G'->R ys' τ' G') ->
   g x τ G λτ2 G2=>tif τ2 G2 λk G3=>if k=true then te τ2 G3 λy G4=>ys.length<sizeLine/\R (ys++[y]) τ2 G4 else R ys τ2 G3)
  (hd:∀ ys τ G,Pv items.length ys τ G->∀ p,G p=none->q (.ref p) (gu G p (.lst ys))):RC stay g tif te q items [] τ G:=by
 have key:∀ (r:List T) (i:Nat) ys τ G,items.drop i=r->i<=items.length->Pv i ys τ G->RC stay g tif te q r ys τ G:=by
  intro r;induction r with
  |nil=>
   intro i ys τ G e hi p;have:i=items.length:=by have:=congrArg List.length e;simp at this;omega
   subst this;exact ⟨hst _ ys τ G hi p,hd ys τ G p⟩
  |cons x r ih=>
   intro i ys τ G e hi p;have hl:i<items.length:=by
    apply Classical.byContradiction;intro z;rw [List.drop_eq_nil_of_le (by omega)] at e;cases e
   have e':=List.drop_eq_getElem_cons hl;rw [e] at e';injection e' with e1 e2;exact ⟨hst i ys τ G hi p,hs i x ys τ G _ (by rw [getElem?_eq_getElem hl,e1]) p λys2 τ2 G2 p2=>ih (i+1) ys2 τ2 G2 e2.symm hl p2⟩
 exact key items 0 [] τ G (by simp) (Nat.zero_le _) h0
def NR {stay:Gp->Prop} {g:TG3} {te:TE3} {q:Q3} {G:Gp} (f:T->T) (Ok:St3->Prop) (hst:stay G):∀ (items ys:List T) (τ:St3),Ok τ ->
  (∀ x∈items,∀ τ,Ok τ->∀ R:St3->T->Gp->Prop,(∀ τ',Ok τ'->R τ' (f x) G)->g x τ G λτ2 G2=>te τ2 G2 λy G4=>R τ2 y G4) ->
  ys.length+items.length<sizeLine->(∀ p,G p=none->q (.ref p) (gu G p (.lst (ys++items.map f))))->RC stay g tt3 te q items ys τ G
 |[],ys,τ,_,_,_,h=>⟨hst,by simpa using h⟩
 |x::r,ys,τ,ok,step,len,h=>by
  refine ⟨hst,?_⟩;have e:(λτ2 G2=>tt3 τ2 G2 λk G3=>if k=true then te τ2 G3 λy G4=>ys.length<sizeLine/\RC stay g tt3 te q r (ys++[y]) τ2 G4 else RC stay g tt3 te q r ys τ2 G3)=(λτ2 G2=>te τ2 G2 λy G4=>ys.length<sizeLine/\RC stay g tt3 te q r (ys++[y]) τ2 G4):=by
   funext τ2 G2;simp [tt3]
  rw [e];rw [length_cons] at len;refine step x List.mem_cons_self τ ok _ λτ' ok'=>⟨by omega,NR f Ok hst r (ys++[f x]) τ' ok' (λz hz=>step z (List.mem_cons_of_mem _ hz)) (by rw [length_append,List.length_singleton];omega) λp hp=>?_⟩
  simpa using h p hp
def qb5 {lo:Int} {n i:Nat} {x:T} (h:(N5 lo n)[i]?=some x):i<n/\x=T.int (lo+(i:Int)):=by
 unfold N5 at h;rw [getElem?_map] at h;cases e:(List.range n)[i]? with
 |none=>rw [e] at h;cases h
 |some k=>
  rw [e] at h;obtain ⟨hi,hk⟩:=List.getElem?_eq_some_iff.mp e;simp at hi hk;subst hk;exact ⟨hi,by simpa using h.symm⟩
def YV (lo:Int) (n:Nat):(N5 lo n).length=n:=by simp [N5]
end L3
namespace Bk
open PySem L2 L3
def VB:TS3:=(qZ (JF (E9 (λt=>jP t "int") (v3 0)) (C7 (E9 (λt=>jP t "bool") (v3 0)))))
def DU:TS3:=(qK (zg (o3 (iC (λ_ j=>0<j) (·%·)) (o3 (iC XQ (·*·)) (o3 QM (o3 QM (o3 (iC (λ_ j=>0<j) (·%·)) (v3 0) (c3 (.int 2147483629))) (o3 (iC XQ (·*·)) (o3 (iC XQ (·*·)) (v3 1) (v3 1)) (c3 (.int 7919)))) (c3 (.int 11))) (c3 (.int 48271))) (c3 (.int 2147483647))) (gn3 2)) (qZ (o3 (iC (λ_ j=>0<j) (·%·)) (o3 (iC XQ (·*·)) (v3 2) (v3 2)) (c3 (.int 1999999973)))))
def UQ:TS3:=(qK (zg (if3 (tb3 (o3 (iB λi j=>decide (i<j)) (v3 1) (cb3 U2 (qb (v3 0) qi)))) (o3 ix3 (v3 0) (v3 1)) (c3 (.int 0))) (gn3 2)) (qK (zg (if3 (tb3 (o3 (iB λi j=>decide (j<=i)) (cb3 qds (qb (v3 2) qi)) (o3 (iC qlG (λi j=>i ^ j.toNat)) (c3 (.int 10)) (c3 (.int 18))))) (cb3 qds (qb (v3 2) qi)) (c3 (.int 0))) (gn3 3)) (qZ (QQ (qb (v3 3) (qb (o3 QM (v3 2) (o3 (iC XQ (·*·)) (c3 (.int 1000003)) (v3 1))) (qb (c3 (.int 0)) qi)))))))
def UM (S_law_mix:Sp3):TS3:=(qK (zg (o3 QM (o3 ix3 (v3 0) (c3 (.int 2))) (c3 (.int 1))) (DO (v3 0) (c3 (.int 2)))) (qK (zM (tb3 (o3 (iB λi j=>decide (j<i)) (o3 ix3 (v3 0) (c3 (.int 0))) (c3 (.int 0)))) (qK (zg (o3 (iC (λ_ j=>0<j) (·%·)) (o3 ix3 (v3 0) (c3 (.int 0))) (v3 1)) (gn3 2)) (qK (zg (o3 (iC qdr (·/·)) (o3 ix3 (v3 0) (c3 (.int 0))) (v3 1)) (DO (v3 0) (c3 (.int 0)))) (qZ (v3 2)))) qH) (qZ (o3 (iC (λ_ j=>0<j) (·%·)) (o3 (iC qdr (·/·)) (cb3 S_law_mix (qb (cb3 S_law_mix (qb (o3 ix3 (v3 0) (c3 (.int 1))) (qb (o3 ix3 (v3 0) (c3 (.int 2))) qi))) (qb (o3 QM (o3 ix3 (v3 0) (c3 (.int 2))) (c3 (.int 64))) qi))) (c3 (.int 64))) (v3 1)))))
def YX (S_law_pick:Sp3):TS3:=(qK (zg (o3 ix3 (QQ (qb (c3 (.int 6)) (qb (c3 (.int 6)) (qb (c3 (.int 6)) (qb (c3 (.int 16)) qi))))) (cb3 S_law_pick (qb (v3 0) (qb (c3 (.int 4)) qi)))) (gn3 1)) (qK (R9 2 3 (qb (o3 QM (c3 (.int 1)) (cb3 S_law_pick (qb (v3 0) (qb (v3 1) qi)))) (qb (o3 QM (c3 (.int 1)) (cb3 S_law_pick (qb (v3 0) (qb (v3 1) qi)))) qi))) (qZ (o3 ix3 (QQ (qb (zB (qb (v3 2) (qb (v3 3) qi))) (qb (zB (qb (v3 2) (qb (v3 3) qi))) (qb (zB (qb (v3 2) (qb (v3 3) qi))) (qb (zB (qb (v3 2) (qb (v3 2) qi))) qi))))) (cb3 S_law_pick (qb (v3 0) (qb (c3 (.int 4)) qi)))))))
def EV:TS3:=(qK (R6 (tb3 (o3 (iB λi j=>decide (j<i)) (v3 1) (c3 (.int 0)))) (R9 0 1 (qb (v3 1) (qb (o3 (iC (λ_ j=>0<j) (·%·)) (v3 0) (v3 1)) qi)))) (qZ (v3 0)))
def UI (S_law_sides:Sp3) (S_law_pick:Sp3):TS3:=(qK (zg (cb3 S_law_sides (qb (v3 0) qi)) (ZI 2 (qG (gn3 1) (qG (gn3 2) QC)))) (qK (zg (o3 QM (c3 (.int 1)) (cb3 S_law_pick (qb (v3 0) (qb (o3 ix3 (QQ (qb (c3 (.int 8)) (qb (c3 (.int 8)) (qb (c3 (.int 17)) (qb (c3 (.int 32)) qi))))) (cb3 S_law_pick (qb (v3 0) (qb (c3 (.int 4)) qi)))) qi)))) (gn3 3)) (qK (zg (o3 ix3 (QQ (qb (v3 3) (qb (c3 (.int 10)) (qb (c3 (.int 100)) qi)))) (cb3 S_law_pick (qb (v3 0) (qb (c3 (.int 3)) qi)))) (gn3 4)) (qZ (zB (qb (c3 (.str "skew")) (qb (v3 1) (qb (v3 2) (qb (v3 3) (qb (cb3 S_law_pick (qb (v3 0) (qb (v3 4) qi))) (qb (cb3 S_law_pick (qb (v3 0) (qb (v3 4) qi))) qi)))))))))))
def VD (S_law_sides:Sp3) (S_law_pick:Sp3) (S_law_gcd:Sp3):TS3:=(qK (zg (cb3 S_law_sides (qb (v3 0) qi)) (ZI 2 (qG (gn3 1) (qG (gn3 2) QC)))) (qK (zg (o3 QM (c3 (.int 1)) (cb3 S_law_pick (qb (v3 0) (qb (o3 ix3 (QQ (qb (c3 (.int 8)) (qb (c3 (.int 17)) (qb (c3 (.int 32)) qi)))) (cb3 S_law_pick (qb (v3 0) (qb (c3 (.int 3)) qi)))) qi)))) (gn3 3)) (qK (zg (o3 QM (u3 K6 (o3 (iC qdr (·/·)) (o3 (iC XQ (·*·)) (u3 K6 (v3 1)) (v3 2)) (v3 3))) (cb3 S_law_pick (qb (v3 0) (qb (c3 (.int 4)) qi)))) (gn3 4)) (qK (RQ (QR (qb (c3 (.int 32)) qi)) (gn3 5) (zM (tb3 (o3 (iB λi j=>decide (j<i)) (cb3 S_law_gcd (qb (v3 3) (qb (v3 4) qi))) (c3 (.int 1)))) (zg (o3 QM (v3 4) (c3 (.int 1))) (gn3 4)) qH)) (qZ (zB (qb (c3 (.str "rests")) (qb (v3 1) (qb (v3 2) (qb (v3 3) (qb (v3 4) qi)))))))))))
def UL (S_law_pick:Sp3):TS3:=(qK (R9 2 3 (qb (cb3 S_law_pick (qb (v3 0) (qb (o3 QM (v3 1) (c3 (.int 1))) qi))) (qb (cb3 S_law_pick (qb (v3 0) (qb (o3 QM (v3 1) (c3 (.int 1))) qi))) qi))) (qK (zg (lc3 (QR (qb (cb3 S_law_pick (qb (v3 0) (qb (c3 (.int 6)) qi))) qi)) (gn3 0) tt3 (cb3 S_law_pick (qb (v3 1) (qb (c3 (.int 256)) qi))) [none,some 0]) (gn3 4)) (qK (zg (o3 ix3 (QQ (qb (c3 (.int 1)) (qb (c3 (.int 2)) (qb (c3 (.int 4)) (qb (c3 (.int 8)) (qb (c3 (.int 16)) (qb (c3 (.int 32)) (qb (c3 (.int 64)) (qb (c3 (.int 128)) (qb (c3 (.int 256)) qi)))))))))) (o3 QM (v3 2) (v3 3))) (gn3 5)) (qZ (zB (qb (c3 (.str "bits")) (qb (v3 2) (qb (v3 3) (qb (cb3 ja (qb (lc3 (ZR (v3 4)) (gn3 0) tt3 (o3 (iC (λ_ j=>0<j) (·%·)) (v3 0) (v3 1)) [none,some 5]) qi)) qi)))))))))
def YY (S_law_sides:Sp3) (S_law_pick:Sp3):TS3:=(qK (zg (cb3 S_law_sides (qb (v3 0) qi)) (ZI 2 (qG (gn3 1) (qG (gn3 2) QC)))) (qK (zg (o3 QM (c3 (.int 1)) (cb3 S_law_pick (qb (v3 0) (qb (o3 ix3 (QQ (qb (c3 (.int 4)) (qb (c3 (.int 9)) (qb (c3 (.int 32)) qi)))) (cb3 S_law_pick (qb (v3 0) (qb (c3 (.int 3)) qi)))) qi)))) (gn3 3)) (qK (zg (lc3 (QR (qb (v3 1) qi)) (gn3 0) tt3 (cb3 ja (qb (lc3 (QR (qb (v3 3) qi)) (gn3 0) tt3 (cb3 S_law_pick (qb (v3 1) (qb (v3 2) qi))) [none,some 1,some 2]) qi)) [none,some 0,some 3,some 2]) (gn3 4)) (qZ (zB (qb (c3 (.str "table")) (qb (v3 3) (qb (cb3 ja (qb (v3 4) qi)) qi))))))))
def Y9 (S_law_pick:Sp3) (S_law_gcd:Sp3):TS3:=(qK (zg (zB (qb (o3 QM (c3 (.int 1)) (cb3 S_law_pick (qb (v3 0) (qb (c3 (.int 4)) qi)))) (qb (o3 QM (c3 (.int 1)) (cb3 S_law_pick (qb (v3 0) (qb (c3 (.int 4)) qi)))) (qb (o3 QM (c3 (.int 1)) (cb3 S_law_pick (qb (v3 0) (qb (c3 (.int 5)) qi)))) qi)))) (ZI 3 (qG (gn3 1) (qG (gn3 2) (qG (gn3 3) QC))))) (qK (zg (cb3 S_law_pick (qb (v3 0) (qb (c3 (.int 4)) qi))) (gn3 4)) (qK (zM (tb3 (o3 (zV false) (v3 4) (c3 (.int 0)))) (qZ (zB (qb (c3 (.str "skew")) (qb (v3 1) (qb (v3 2) (qb (v3 3) (qb (cb3 S_law_pick (qb (v3 0) (qb (v3 3) qi))) (qb (cb3 S_law_pick (qb (v3 0) (qb (c3 (.int 9)) qi))) qi)))))))) qH) (qK (zM (tb3 (o3 (zV false) (v3 4) (c3 (.int 1)))) (qK (R9 5 6 (qb (cb3 S_law_pick (qb (v3 0) (qb (c3 (.int 3)) qi))) (qb (cb3 S_law_pick (qb (v3 0) (qb (c3 (.int 3)) qi))) qi))) (qK (zg (lc3 (QR (qb (cb3 S_law_pick (qb (v3 0) (qb (c3 (.int 3)) qi))) qi)) (gn3 0) tt3 (cb3 S_law_pick (qb (v3 1) (qb (c3 (.int 16)) qi))) [none,some 0]) (gn3 7)) (qK (zg (o3 ix3 (QQ (qb (c3 (.int 1)) (qb (c3 (.int 2)) (qb (c3 (.int 4)) (qb (c3 (.int 8)) (qb (c3 (.int 16)) qi)))))) (o3 QM (v3 5) (v3 6))) (gn3 8)) (qZ (zB (qb (c3 (.str "bits")) (qb (v3 5) (qb (v3 6) (qb (cb3 ja (qb (lc3 (ZR (v3 7)) (gn3 0) tt3 (o3 (iC (λ_ j=>0<j) (·%·)) (v3 0) (v3 1)) [none,some 8]) qi)) qi))))))))) qH) (qK (zM (tb3 (o3 (zV false) (v3 4) (c3 (.int 2)))) (qK (zg (o3 QM (u3 K6 (o3 (iC qdr (·/·)) (o3 (iC XQ (·*·)) (u3 K6 (v3 1)) (v3 2)) (v3 3))) (cb3 S_law_pick (qb (v3 0) (qb (c3 (.int 3)) qi)))) (gn3 9)) (qK (RQ (QR (qb (c3 (.int 9)) qi)) (gn3 10) (zM (tb3 (o3 (iB λi j=>decide (j<i)) (cb3 S_law_gcd (qb (v3 3) (qb (v3 9) qi))) (c3 (.int 1)))) (zg (o3 QM (v3 9) (c3 (.int 1))) (gn3 9)) qH)) (qZ (zB (qb (c3 (.str "rests")) (qb (v3 1) (qb (v3 2) (qb (v3 3) (qb (v3 9) qi))))))))) qH) (qK (zg (lc3 (QR (qb (v3 1) qi)) (gn3 0) tt3 (cb3 ja (qb (lc3 (QR (qb (v3 3) qi)) (gn3 0) tt3 (cb3 S_law_pick (qb (v3 1) (qb (v3 2) qi))) [none,some 1,some 2]) qi)) [none,some 0,some 3,some 2]) (gn3 11)) (qZ (zB (qb (c3 (.str "table")) (qb (v3 3) (qb (cb3 ja (qb (v3 11) qi)) qi)))))))))))
def ZY (S_law_pick:Sp3) (S_law_skew:Sp3) (S_law_rests:Sp3) (S_law_bits:Sp3) (S_law_table:Sp3) (S_law_small:Sp3):TS3:=(qK (zg (cb3 S_law_pick (qb (v3 0) (qb (c3 (.int 8)) qi))) (gn3 1)) (qK (zM (tb3 (o3 (iB λi j=>decide (i<j)) (v3 1) (c3 (.int 2)))) (qZ (cb3 S_law_skew (qb (v3 0) qi))) qH) (qK (zM (tb3 (o3 (zV false) (v3 1) (c3 (.int 2)))) (qZ (cb3 S_law_rests (qb (v3 0) qi))) qH) (qK (zM (tb3 (o3 (zV false) (v3 1) (c3 (.int 3)))) (qZ (cb3 S_law_bits (qb (v3 0) (qb (c3 (.int 4)) qi)))) qH) (qK (zM (tb3 (o3 (zV false) (v3 1) (c3 (.int 4)))) (qZ (cb3 S_law_table (qb (v3 0) qi))) qH) (qK (zM (tb3 (o3 (zV false) (v3 1) (c3 (.int 5)))) (qK (zg (zB (qb (c3 (.str "joined")) (qb (zB (qb (c3 (.str "skew")) (qb (o3 QM (c3 (.int 1)) (cb3 S_law_pick (qb (v3 0) (qb (c3 (.int 2)) qi)))) (qb (c3 (.int 1)) (qb (c3 (.int 2)) (qb (c3 (.int 1)) (qb (c3 (.int 1)) qi))))))) (qb (zB (qb (c3 (.str "table")) (qb (c3 (.int 2)) (qb (zB (qb (zB (qb (c3 (.int 1)) (qb (c3 (.int 0)) qi))) qi)) qi)))) qi)))) (gn3 2)) (qK (zg (QQ (qb (zB (qb (c3 (.str "joined")) (qb (v3 2) (qb (cb3 S_law_small (qb (v3 0) qi)) qi)))) (qb (zB (qb (c3 (.str "joined")) (qb (cb3 S_law_small (qb (v3 0) qi)) (qb (v3 2) qi)))) qi))) (gn3 3)) (qK (UZ (bm3 KG (v3 3) (qb (zB (qb (c3 (.str "joined")) (qb (zB (qb (c3 (.str "skew")) (qb (c3 (.int 8)) (qb (c3 (.int 1)) (qb (c3 (.int 3)) (qb (c3 (.int 1)) (qb (c3 (.int 1)) qi))))))) (qb (zB (qb (c3 (.str "rests")) (qb (c3 (.int 2)) (qb (c3 (.int 16)) (qb (c3 (.int 5)) (qb (c3 (.int 7)) qi)))))) qi)))) qi))) (qK (UZ (bm3 KG (v3 3) (qb (zB (qb (c3 (.str "joined")) (qb (zB (qb (c3 (.str "rests")) (qb (c3 (.int 1)) (qb (c3 (.int 8)) (qb (c3 (.int 3)) (qb (c3 (.int 4)) qi)))))) (qb (zB (qb (c3 (.str "skew")) (qb (c3 (.int 16)) (qb (c3 (.int 2)) (qb (c3 (.int 5)) (qb (c3 (.int 2)) (qb (c3 (.int 1)) qi))))))) qi)))) qi))) (qZ (o3 ix3 (v3 3) (cb3 S_law_pick (qb (v3 0) (qb (c3 (.int 4)) qi))))))))) qH) (qZ (zB (qb (c3 (.str "joined")) (qb (cb3 S_law_small (qb (v3 0) qi)) (qb (cb3 S_law_small (qb (v3 0) qi)) qi)))))))))))
def WN (S_law_same:Sp3):TS3:=(qK (zM (tb3 (E9 (λt=>jP t "list" || jP t "tuple") (v3 1))) (qK (zM (or3 (tb3 (o3 (zV true) (E9 (λt=>jP t "list") (v3 0)) (E9 (λt=>jP t "list") (v3 1)))) (tb3 (o3 (zV true) (E9 (λt=>jP t "tuple") (v3 0)) (E9 (λt=>jP t "tuple") (v3 1))))) (qZ (c3 (.bl false))) qH) (qZ (JF (o3 (zV false) (cb3 U2 (qb (v3 0) qi)) (cb3 U2 (qb (v3 1) qi))) (cb3 KF (qb (lc3 (qd1 (qb (v3 0) (qb (v3 1) qi))) (ZI 2 (qG (gn3 0) (qG (gn3 1) QC))) tt3 (cb3 S_law_same (qb (v3 0) (qb (v3 1) qi))) [none,none]) qi))))) qH) (qK (zM (or3 (tb3 (o3 (qet false) (v3 1) (c3 .non))) (tb3 (E9 (λt=>jP t "str" || jP t "bool") (v3 1)))) (qZ (JF (o3 (zV false) (v3 0) (v3 1)) (JF (o3 (zV false) (E9 (λt=>jP t "bool") (v3 0)) (E9 (λt=>jP t "bool") (v3 1))) (o3 (zV false) (o3 (qet false) (v3 0) (c3 .non)) (o3 (qet false) (v3 1) (c3 .non)))))) qH) (qZ (JF (E9 (λt=>jP t "int") (v3 0)) (JF (C7 (E9 (λt=>jP t "bool") (v3 0))) (o3 (zV false) (v3 0) (v3 1)))))))
inductive Dl where
 |skew (r c b x y:Int)
 |rests (r c b p:Int)
 |bits (h l:Nat) (ms:List Int)
 |table (b:Int) (cells:List (List Int))
 |joined (d e:Dl)
def qnh (r:List Int):T:=.tup (r.map T.int)
def Dl.t:Dl->T
 |.skew r c b x y=>.tup [.str "skew",.int r,.int c,.int b,.int x,.int y]
 |.rests r c b p=>.tup [.str "rests",.int r,.int c,.int b,.int p]
 |.bits h l ms=>.tup [.str "bits",.int h,.int l,.tup (ms.map T.int)]
 |.table b cells=>.tup [.str "table",.int b,.tup (cells.map qnh)]
 |.joined d e=>.tup [.str "joined",d.t,e.t]
def Dl.R:Dl->Int
 |.skew r _ _ _ _=>r
 |.rests r _ _ _=>r
 |.bits h _ _=>2 ^ h
 |.table _ cells=>cells.length
 |.joined d e=>d.R*e.R
def Dl.C:Dl->Int
 |.skew _ c _ _ _=>c
 |.rests _ c _ _=>c
 |.bits _ l _=>2 ^ l
 |.table _ cells=>((cells[0]?).getD []).length
 |.joined d e=>d.C*e.C
def Dl.B:Dl->Int
 |.skew _ _ b _ _=>b
 |.rests _ _ b _=>b
 |.bits _ _ ms=>2 ^ ms.length
 |.table b _=>b
 |.joined d e=>d.B*e.B
def Dl.Ok:Dl->Prop
 |.skew r c b x y=>1<=r/\r<=60/\1<=c/\c<=60/\1<=b/\b<=1000/\0<=x/\x<=1000/\0<=y/\y<=1000
 |.rests r c b p=>1<=r/\r<=60/\1<=c/\c<=60/\1<=b/\b<=1000/\1<=p/\p<=9999/\Int.gcd b p=1/\r*c<=b*p
 |.bits h l ms=>h<=4/\l<=4/\ms.length<=5/\∀ m∈ms,0<=m/\m<2 ^ (h+l)
 |.table b cells=>1<=b/\b<=1000/\1<=cells.length/\cells.length<=60/\∃ c,1<=c/\c<=60/\∀ row∈cells,row.length=c/\∀ x∈row,0<=x/\x<b
 |.joined d e=>d.Ok/\e.Ok/\d.R*e.R<=4096/\d.C*e.C<=4096/\d.B*e.B<=4096
def Dl.dep:Dl->Nat
 |.joined d e=>max d.dep e.dep+1
 |_=>0
def p2 (n:Nat):((2:Int) ^ n)=((2 ^ n:Nat):Int):=by simp
def LG (n:Nat):(1:Int)<=2 ^ n:=by
 rw [p2];have:=Nat.one_le_two_pow (n:=n);omega
def RG {n k:Nat} (h:n<=k):(2:Int) ^ n<=2 ^ k:=by
 rw [p2,p2];have:=Nat.pow_le_pow_right (n:=2) (by omega) h;omega
structure Lims (d:Dl):Prop where
 r1:1<=d.R
 r2:d.R<=4096
 c1:1<=d.C
 c2:d.C<=4096
 b1:1<=d.B
 b2:d.B<=4096
def UN {a b:Int} (h1:1<=a) (h2:1<=b):1<=a*b:=by
 have:=Int.mul_le_mul (a:=1) (b:=1) (c:=a) (d:=b) h1 h2 (by omega) (by omega);omega
def Dl.lims:∀ {d:Dl},d.Ok->Lims d
 |.skew r c b x y,⟨h1,h2,h3,h4,h5,h6,_⟩=>⟨h1,by simp [Dl.R];omega,h3,by simp [Dl.C];omega,h5,by simp [Dl.B];omega⟩
 |.rests r c b x,⟨h1,h2,h3,h4,h5,h6,_⟩=>⟨h1,by simp [Dl.R];omega,h3,by simp [Dl.C];omega,h5,by simp [Dl.B];omega⟩
 |.bits h l ms,⟨h1,h2,h3,_⟩=>by
  have e1:=RG h1;have e2:=RG h2;have e3:=RG h3;refine ⟨LG _,?_,LG _,?_,LG _,?_⟩<;>simp [Dl.R,Dl.C,Dl.B]<;>omega
 |.table b cells,⟨h1,h2,h3,h4,c,h5,h6,h7⟩=>by
  have e0:cells[0]?=some cells[0]:=getElem?_eq_getElem (by omega);have e1:=(h7 cells[0] (List.getElem_mem _)).1;have e2:(Dl.table b cells).C=c:=by simp [Dl.C,e0,e1]
  exact ⟨by simp [Dl.R];omega,by simp [Dl.R];omega,by rw [e2];omega,by rw [e2];omega,h1,by simp [Dl.B];omega⟩
 |.joined d e,⟨h1,h2,h3,h4,h5⟩=>by
  have a:=Dl.lims h1;have b:=Dl.lims h2;exact ⟨UN a.r1 b.r1,h3,UN a.c1 b.c1,h4,UN a.b1 b.b1,h5⟩
abbrev qba (q:Q3):Ends3:={ nx:=λ_ G'=>q .non G',rt:=q }
def QS {A B:TS3} {d:Ends3} {τ:St3} {G:Gp} (h:∀ nx,nx=B d->A { d with nx:=nx } τ G):qK A B d τ G:=h _ rfl
def Lf (G:Gp) (a:Addr) (n:Int):Prop:=∃ o c m,G a=some (.lst [.int o,.int c,.int m])/\0<=o/\0<=m/\m<=n
def Ext (a:Addr) (G G':Gp):Prop:=∀ b o,b≠a->G b=some o->G' b=some o
def Lf.ne {G:Gp} {a p:Addr} {n:Int} (h:Lf G a n) (hp:G p=none):p≠a:=by
 rintro rfl;obtain ⟨o,c,m,e,_⟩:=h;rw [hp] at e;cases e
def Lf.new {G:Gp} {a p:Addr} {n:Int} {ob:O} (h:Lf G a n) (hp:p≠a):Lf (gu G p ob) a n:=by
 obtain ⟨o,c,m,e,r⟩:=h;exact ⟨o,c,m,by rw [jc (Ne.symm hp)];exact e,r⟩
def Lf.mono {G:Gp} {a:Addr} {n k:Int} (h:Lf G a n) (hk:n<=k):Lf G a k:=by
 obtain ⟨o,c,m,e,h1,h2,h3⟩:=h;exact ⟨o,c,m,e,h1,h2,by omega⟩
def Lf.ex {G G':Gp} {a:Addr} {n:Int} (h:Lf G a n) (e:Ex G G'):Lf G' a n:=by
 obtain ⟨o,c,m,e1,h1⟩:=h;exact ⟨o,c,m,e _ _ e1,h1⟩
def Ext.refl {a:Addr} {G:Gp}:Ext a G G:=λ_ _ _ e=>e
def Ext.trans {a:Addr} {G G1 G2:Gp} (x:Ext a G G1) (y:Ext a G1 G2):Ext a G G2:=λb o hb e=>y b o hb (x b o hb e)
def jU {a p:Addr} {G:Gp} {ob:O} (hp:G p=none):Ext a G (gu G p ob):=λb o _ e=>by
 rw [jc (by rintro rfl;rw [hp] at e;cases e)];exact e
def XX {a:Addr} {G G':Gp} (h:Ex G G'):Ext a G G':=λb o _ e=>h b o e
def RZ:Sp3:=λts G q=>∃ c k,ts=[.int c,.int k]/\0<=k/\k<4294967296/\∀ m,0<=m->m<1999999973->q (.int m) G
def VE:Sp3:=λts G q=>∃ (a:Addr) (k:Int) (ns:List Int),ts=[.ref a,.int k]/\G a=some (.frz (ns.map T.int))/\ns.length<=63/\0<=k/\k<=63/\∀ p o c,G p=none->0<=o->q (.ref p) (gu G p (.lst [.int o,.int c,.int 0]))
def qR:Sp3:=λts G q=>∃ a n many,ts=[.ref a,.int many]/\1<=many/\many<1073741824/\Lf G a n/\n<1073741824/\∀ d G',0<=d->d<many->Lf G' a (n+1)->Ext a G G'->q (.int d) G'
def J8:Sp3:=λts G q=>∃ a n,ts=[.ref a]/\Lf G a n/\n<100000000/\∀ r c G',1<=r->r<=16->1<=c->c<=16->Lf G' a (n+4)->Ext a G G'->q (.tup [.int r,.int c]) G'
def WM:Sp3:=λts G q=>∃ x y:Int,ts=[.int x,.int y]/\0<=x/\0<=y/\q (.int (Int.gcd x y:Nat)) G
structure Dr (d:Dl) (r c b:Int):Prop where
 ok:d.Ok
 r2:d.R<=r
 c2:d.C<=c
 b2:d.B<=b
def X4:Sp3:=λts G q=>∃ a n,ts=[.ref a]/\Lf G a n/\n<10000000/\∀ r c b x y G',Dr (.skew r c b x y) 16 16 32->Lf G' a (n+10)->Ext a G G'->q (Dl.skew r c b x y).t G'
def W2:Sp3:=λts G q=>∃ a n,ts=[.ref a]/\Lf G a n/\n<10000000/\∀ r c b p G',Dr (.rests r c b p) 16 16 32->Lf G' a (n+10)->Ext a G G'->q (Dl.rests r c b p).t G'
def zy {a:Addr} {n many:Int} {G:Gp} {q:Q3} (hL:Lf G a n) (h1:1<=many) (h2:many<1073741824) (hn:n<1073741824) (h:∀ d G',0<=d->d<many->Lf G' a (n+1)->Ext a G G'->q (.int d) G'):qR [.ref a,.int many] G q:=⟨a,n,many,rfl,h1,h2,hL,hn,h⟩
def qaC:∀ ts G q,RZ ts G q->ts.length=2/\DU (qba q) (qv ["_law_cell","_law_k","_law_m"] ts) G:=by
 rintro ts G q ⟨c,k,rfl,h1,h2,h⟩;refine ⟨rfl,?_⟩;simp only [DU,qK,zg,o3,v3,qv,map_cons,List.map_nil,length_cons,length_nil,Nat.zero_add,Nat.reduceAdd,Nat.reduceSub,List.replicate_one,cons_append,List.nil_append,Nat.zero_lt_succ,getElem?_pos,getElem_cons_zero,c3,iC,Int.reduceLT,Nat.reduceLT,getElem_cons_succ,QM,gn3,qZ,set_cons_succ,set_cons_zero,Nat.lt_add_one,true_and];exact ⟨.inl ⟨by omega,by omega⟩,cm (by omega) (by omega),cm (by omega) (by omega),.inl ⟨by omega,by omega⟩,h _ (Int.emod_nonneg _ (by omega)) (Int.emod_lt_of_pos _ (by omega))⟩
def cp:qlG 10 18:=⟨by decide,by decide,by decide⟩
def NF:∀ ts G q,VE ts G q->ts.length=2/\UQ (qba q) (qv ["_law_script","_law_k","_law_cell","_law_own"] ts) G:=by
 rintro ts G q ⟨a,k,ns,rfl,hG,hl,h1,h2,h⟩;refine ⟨rfl,?_⟩;simp only [UQ,qK,zg,if3,tb3,o3,v3,qv,map_cons,List.map_nil,length_cons,length_nil,Nat.zero_add,Nat.reduceAdd,Nat.reduceSub,List.reduceReplicate,cons_append,List.nil_append,Nat.reduceLT,getElem?_pos,getElem_cons_succ,getElem_cons_zero,cb3,qb,Nat.zero_lt_succ,qi,U2,getL,hG,iB,length_map,decide_eq_true_eq,gn3,set_cons_succ,set_cons_zero,qds,c3,iC,Int.reduceToNat,Int.reducePow,qZ,QQ,Nat.lt_add_one,QM,ne_eq,sizeLine_eq,Nat.reduceLeDiff,true_and,gu,ixR,atI,ixN,getElem?_map,Int.lt_irrefl,↓reduceIte,Int.reduceLE,decide_false,Bool.false_eq_true,Int.zero_add];have ck:XQ 1000003 k:=cm (by omega) (by omega);by_cases hk:k<ns.length
 ·have hk':k.toNat<ns.length:=by omega
  simp [hk,h1,hk',cp,ck];split
  ·split
   ·exact λp hp=>h p (-ns[k.toNat]) _ hp (by omega)
   ·exact λp hp=>h p 0 _ hp (by omega)
  ·split
   ·exact λp hp=>h p ns[k.toNat] _ hp (by omega)
   ·exact λp hp=>h p 0 _ hp (by omega)
 ·simp [hk,cp,ck];exact λp hp=>h p 0 _ hp (by omega)
def M2:∀ ts G q,qR ts G q->ts.length=2/\UM RZ (qba q) (qv ["_law_left_here","_law_many","_law_digit"] ts) G:=by
 rintro ts G q ⟨a,n,many,rfl,m1,m2,⟨o,c,m,hG,ho,hm,hn⟩,h3,h⟩;refine ⟨rfl,?_⟩;unfold UM;refine QS λnx1 q1=>?_;simp only [zg,o3,v3,qv,map_cons,List.map_nil,length_cons,length_nil,Nat.zero_add,Nat.reduceAdd,Nat.reduceSub,List.replicate_one,cons_append,List.nil_append,Nat.zero_lt_succ,getElem?_pos,getElem_cons_zero,c3,QM,ne_eq,sizeLine_eq,DO,qbb,ixN,Int.zero_le_ofNat,↓reduceIte,Int.reduceToNat,tb3,iB,decide_eq_true_eq,Nat.reduceLT,getElem_cons_succ,iC,gn3,set_cons_succ,set_cons_zero,Std.le_refl,Int.natCast_pos,Int.toNat_zero,qZ,Nat.lt_add_one,ixR,getL,atI,qH,cb3,qb,qi,Int.toNat_one,List.length_set,hG,Int.cast_ofNat_Int,Int.reduceLT,Option.bind_some,qB];rw [q1];clear q1;refine QS λnx2 q2=>?_;simp only [zM,zg,o3,v3,qv,map_cons,List.map_nil,length_cons,length_nil,Nat.zero_add,Nat.reduceAdd,Nat.reduceSub,List.replicate_one,cons_append,List.nil_append,Nat.zero_lt_succ,getElem?_pos,getElem_cons_zero,c3,QM,ne_eq,sizeLine_eq,DO,qbb,ixN,Int.zero_le_ofNat,↓reduceIte,Int.reduceToNat,tb3,iB,decide_eq_true_eq,Nat.reduceLT,getElem_cons_succ,iC,gn3,set_cons_succ,set_cons_zero,Std.le_refl,Int.natCast_pos,Int.toNat_zero,qZ,Nat.lt_add_one,ixR,getL,atI,qH,cb3,qb,qi,Int.toNat_one,List.length_set,hG,Int.cast_ofNat_Int,Int.reduceLT,Option.bind_some,qB];split
 ·simp only [qK,zg,o3,v3,length_cons,length_nil,Nat.zero_add,Nat.reduceAdd,Nat.zero_lt_succ,getElem?_pos,getElem_cons_zero,c3,Nat.reduceLT,getElem_cons_succ,iC,gn3,set_cons_succ,set_cons_zero,DO,qbb,ixN,Std.le_refl,↓reduceIte,Int.natCast_pos,Int.toNat_zero,qZ,Nat.lt_add_one,ixR,getL,atI,qB,Int.cast_ofNat_Int,Int.reduceLT,Option.bind_some];refine ⟨by omega,⟨by omega,m2⟩,h _ _ (Int.emod_nonneg _ (by omega)) (Int.emod_lt_of_pos _ (by omega)) ⟨o/many,c,m+1,qB,Int.ediv_nonneg ho (by omega),by omega,by omega⟩ λb ob hb e=>?_⟩;rw [jc hb,jc hb];exact e
 ·rw [q2];clear q2;simp only [zg,o3,v3,qv,map_cons,List.map_nil,length_cons,length_nil,Nat.zero_add,Nat.reduceAdd,Nat.reduceSub,List.replicate_one,cons_append,List.nil_append,Nat.zero_lt_succ,getElem?_pos,getElem_cons_zero,c3,QM,ne_eq,sizeLine_eq,DO,qbb,ixN,Int.zero_le_ofNat,↓reduceIte,Int.reduceToNat,tb3,iB,decide_eq_true_eq,Nat.reduceLT,getElem_cons_succ,iC,gn3,set_cons_succ,set_cons_zero,Std.le_refl,Int.natCast_pos,Int.toNat_zero,qZ,Nat.lt_add_one,ixR,getL,atI,qH,cb3,qb,qi,Int.toNat_one,List.length_set,hG,Int.cast_ofNat_Int,Int.reduceLT,Option.bind_some,qB];refine ⟨c,m+1,rfl,by omega,by omega,λu u1 u2=>?_⟩;simp only [zg,o3,v3,qv,map_cons,List.map_nil,length_cons,length_nil,Nat.zero_add,Nat.reduceAdd,Nat.reduceSub,List.replicate_one,cons_append,List.nil_append,Nat.zero_lt_succ,getElem?_pos,getElem_cons_zero,c3,QM,ne_eq,sizeLine_eq,DO,qbb,ixN,Int.zero_le_ofNat,↓reduceIte,Int.reduceToNat,tb3,iB,decide_eq_true_eq,Nat.reduceLT,getElem_cons_succ,iC,gn3,set_cons_succ,set_cons_zero,Std.le_refl,Int.natCast_pos,Int.toNat_zero,qZ,Nat.lt_add_one,ixR,getL,atI,qH,cb3,qb,qi,Int.toNat_one,List.length_set,hG,Int.cast_ofNat_Int,Int.reduceLT,Option.bind_some,qB];refine ⟨u,m+1+64,rfl,by omega,by omega,λv v1 v2=>?_⟩;refine ⟨⟨by omega,by omega⟩,by omega,h _ _ (Int.emod_nonneg _ (by omega)) (Int.emod_lt_of_pos _ (by omega)) ⟨o,c,m+1,qB,ho,by omega,by omega⟩ λb ob hb e=>?_⟩;rw [jc hb];exact e
def qdx {x y:Int} (hy:0<y):Int.gcd y (x%y)=Int.gcd x y:=by
 rw [Int.emod_def,Int.gcd_comm x y];simp
def qa4:∀ ts G q,WM ts G q->ts.length=2/\EV (qba q) (qv ["_law_one","_law_other"] ts) G:=by
 rintro ts G q ⟨x,y,rfl,hx,hy,h⟩;refine ⟨rfl,?_⟩;simp only [EV,qK,R6,qv,map_cons,List.map_nil,length_cons,length_nil,Nat.zero_add,Nat.reduceAdd,Nat.sub_self,List.replicate_zero,List.append_nil,tb3,o3,v3,c3,iB,decide_eq_true_eq,R9,qb,iC,qi,qZ];refine ⟨λn τ G'=>G'=G/\∃ u v:Int,τ=[some (.int u),some (.int v)]/\n=v.toNat/\0<=u/\0<=v/\Int.gcd u v=Int.gcd x y,⟨_,rfl,x,y,rfl,rfl,hx,hy,rfl⟩,?_⟩;rintro n τ G' ⟨eG,u,v,rfl,rfl,hu,hv,e⟩;simp;by_cases h0:0<v
 ·simp [h0];refine ⟨λτ' G'=>G'=G/\∃ x' y':Int,τ'=[some (.int x'),some (.int y')]/\y'.toNat<v.toNat/\0<=x'/\0<=y'/\Int.gcd x' y'=Int.gcd x y,λτ' G' ⟨e1,x',y',e2,e3,e4,e5,e6⟩=>⟨y'.toNat,by omega,e1,x',y',e2,rfl,e4,e5,e6⟩,eG,v,u%v,rfl,?_,hv,Int.emod_nonneg _ (by omega),by rw [qdx h0,e]⟩;have:=Int.emod_lt_of_pos u h0;omega
 ·have:v=0:=by omega
  subst this;simp at e;simp [eG];have:u=(Int.gcd x y:Nat):=by omega
  rw [this];exact h
def qn5 {d:Int} (h1:0<=d) (h2:d<4) {x0 x1 x2 x3:T} {P:T->Prop} (p0:P x0) (p1:P x1) (p2:P x2) (p3:P x3):∃ x,L2.atI [x0,x1,x2,x3] d=some x/\P x:=by
 have:d=0\/d=1\/d=2\/d=3:=by omega
 rcases this with rfl|rfl|rfl|rfl
 ·exact ⟨x0,rfl,p0⟩
 ·exact ⟨x1,rfl,p1⟩
 ·exact ⟨x2,rfl,p2⟩
 ·exact ⟨x3,rfl,p3⟩
def qqb {d:Int} (h1:0<=d) (h2:d<3) {x0 x1 x2:T} {P:T->Prop} (p0:P x0) (p1:P x1) (p2:P x2):∃ x,L2.atI [x0,x1,x2] d=some x/\P x:=by
 have:d=0\/d=1\/d=2:=by omega
 rcases this with rfl|rfl|rfl
 ·exact ⟨x0,rfl,p0⟩
 ·exact ⟨x1,rfl,p1⟩
 ·exact ⟨x2,rfl,p2⟩
def LW:∀ ts G q,J8 ts G q->ts.length=1/\YX qR (qba q) (qv ["_law_left_here","_law_wide","_law_rows","_law_columns"] ts) G:=by
 rintro ts G q ⟨a,n,rfl,hL,hn,h⟩;refine ⟨rfl,?_⟩;unfold YX;refine QS λnx1 q1=>?_;simp only [zg,o3,QQ,qb,c3,qi,length_cons,length_nil,Nat.zero_add,Nat.reduceAdd,sizeLine_eq,Nat.reduceLeDiff,cb3,v3,qv,map_cons,List.map_nil,Nat.add_one_sub_one,List.reduceReplicate,cons_append,List.nil_append,Nat.zero_lt_succ,getElem?_pos,getElem_cons_zero,gn3,set_cons_succ,set_cons_zero,true_and];intro p hp;have hpa:=hL.ne hp;refine zy (hL.new hpa) (by decide) (by decide) (by omega) λd G1 d1 d2 L1 E1=>?_;have g1:=E1 p _ hpa qB;obtain ⟨w,hw,w',rfl,w1,w2⟩:=qn5 d1 d2 (P:=λt=>∃ w,t=T.int w/\1<=w/\w<=16) ⟨6,rfl,by decide⟩ ⟨6,rfl,by decide⟩ ⟨6,rfl,by decide⟩ ⟨16,rfl,by decide⟩;simp only [ixR,getL,g1,hw];rw [q1];clear q1;refine QS λnx2 q2=>?_;simp only [R9,qb,o3,c3,cb3,v3,length_cons,length_nil,Nat.zero_add,Nat.reduceAdd,Nat.zero_lt_succ,getElem?_pos,getElem_cons_zero,Nat.reduceLT,getElem_cons_succ,qi,QM,ne_eq,sizeLine_eq,set_cons_succ,set_cons_zero];refine zy L1 w1 (by omega) (by omega) λr G2 r1 r2 L2' E2=>?_;simp only [iI,qK,zg,o3,QQ,qb,c3,qi,length_cons,length_nil,Nat.zero_add,Nat.reduceAdd,sizeLine_eq,Nat.reduceLeDiff,cb3,v3,qv,map_cons,List.map_nil,Nat.add_one_sub_one,List.reduceReplicate,cons_append,List.nil_append,Nat.zero_lt_succ,getElem?_pos,getElem_cons_zero,gn3,R9,set_cons_succ,set_cons_zero,Nat.reduceLT,getElem_cons_succ,QM,ne_eq,qZ,zB,Nat.lt_add_one,true_and,gu];refine zy L2' w1 (by omega) (by omega) λc G3 c1 c2 L3' E3=>?_;simp only [iI,qK,zg,o3,QQ,qb,c3,qi,length_cons,length_nil,Nat.zero_add,Nat.reduceAdd,sizeLine_eq,Nat.reduceLeDiff,cb3,v3,qv,map_cons,List.map_nil,Nat.add_one_sub_one,List.reduceReplicate,cons_append,List.nil_append,Nat.zero_lt_succ,getElem?_pos,getElem_cons_zero,gn3,R9,set_cons_succ,set_cons_zero,Nat.reduceLT,getElem_cons_succ,QM,ne_eq,qZ,zB,Nat.lt_add_one,true_and,gu];rw [q2];clear q2;simp only [qZ,o3,QQ,qb,zB,v3,length_cons,length_nil,Nat.zero_add,Nat.reduceAdd,Nat.reduceLT,getElem?_pos,getElem_cons_succ,getElem_cons_zero,Nat.lt_add_one,qi,sizeLine_eq,Nat.reduceLeDiff,cb3,Nat.zero_lt_succ,c3,true_and];intro p2 hp2;have hpa2:=L3'.ne hp2;refine zy (L3'.new hpa2) (by decide) (by decide) (by omega) λe G4 e1 e2 L4 E4=>?_;have g4:=E4 p2 _ hpa2 qB;have x1:1<=1+r:=by omega
 have x2:1+r<=16:=by omega
 have x3:1<=1+c:=by omega
 have x4:1+c<=16:=by omega
 obtain ⟨t,ht,r',c',rfl,z1,z2,z3,z4⟩:=qn5 e1 e2 (P:=λt=>∃ r' c',t=T.tup [.int r',.int c']/\1<=r'/\r'<=16/\1<=c'/\c'<=16) ⟨1+r,1+c,rfl,x1,x2,x3,x4⟩ ⟨1+r,1+c,rfl,x1,x2,x3,x4⟩ ⟨1+r,1+c,rfl,x1,x2,x3,x4⟩ ⟨1+r,1+r,rfl,x1,x2,x1,x2⟩;simp only [ixR,getL,g4,ht];exact h r' c' G4 z1 z2 z3 z4 (L4.mono (by omega)) ((((jU hp).trans E1).trans (E2.trans E3)).trans ((jU hp2).trans E4))
def M4:∀ ts G q,X4 ts G q->ts.length=1/\UI J8 qR (qba q) (qv ["_law_left_here","_law_rows","_law_columns","_law_banks","_law_wide"] ts) G:=by
 rintro ts G q ⟨a,n,rfl,hL,hn,h⟩;refine ⟨rfl,?_⟩;unfold UI;refine QS λnx1 q1=>?_;simp only [zg,cb3,qb,v3,qv,map_cons,List.map_nil,length_cons,length_nil,Nat.zero_add,Nat.reduceAdd,Nat.add_one_sub_one,List.reduceReplicate,cons_append,List.nil_append,Nat.zero_lt_succ,getElem?_pos,getElem_cons_zero,qi,ZI,qG,gn3,QC,set_cons_succ,set_cons_zero];refine ⟨a,n,rfl,hL,by omega,λr c G1 r1 r2 c1 c2 L1 E1=>?_⟩;simp only [length_cons,length_nil,Nat.zero_add,Nat.reduceAdd,true_and];rw [q1];clear q1;refine QS λnx2 q2=>?_;simp only [zg,o3,c3,cb3,qb,v3,length_cons,length_nil,Nat.zero_add,Nat.reduceAdd,Nat.zero_lt_succ,getElem?_pos,getElem_cons_zero,QQ,qi,sizeLine_eq,Nat.reduceLeDiff,QM,ne_eq,gn3,set_cons_succ,set_cons_zero,true_and];intro p hp;have hpa:=L1.ne hp;refine zy (L1.new hpa) (by decide) (by decide) (by omega) λd G2 d1 d2 L2' E2=>?_;have g2:=E2 p _ hpa qB;obtain ⟨w,hw,w',rfl,w1,w2⟩:=qn5 d1 d2 (P:=λt=>∃ w,t=T.int w/\1<=w/\w<=32) ⟨8,rfl,by decide⟩ ⟨8,rfl,by decide⟩ ⟨17,rfl,by decide⟩ ⟨32,rfl,by decide⟩;simp only [ixR,getL,g2,hw];refine zy L2' w1 (by omega) (by omega) λb G3 b1 b2 L3' E3=>?_;simp [qK,zg,gn3,qZ,qbu,zM,UZ,MH,qH,v3,c3,o3,u3,K6,L3.ixT,L3.ixR,QM,iI,iC,iB,zV,jF,qet,tb3,qje,or3,CQ,JF,qi3,C7,if3,ch3,cb3,qb,qi,E9,tyT,jP,zB,QQ,SJ,np3,sp3,ZI,qG,QC,DO,qbb,R9,qv,bm3,KG,qjF,U2,qds,qdm,qlO,qkC,ja,XM,KF,qi0,MF,UW,HT.sIx,getL,in3,LC,eqF,gu,sizeLine_eq,getElem?_cons_zero,getElem?_cons_succ];rw [q2];clear q2;refine QS λnx3 q3=>?_;simp only [zg,o3,QQ,qb,v3,length_cons,length_nil,Nat.zero_add,Nat.reduceAdd,Nat.reduceLT,getElem?_pos,getElem_cons_succ,getElem_cons_zero,c3,qi,sizeLine_eq,Nat.reduceLeDiff,cb3,Nat.zero_lt_succ,gn3,set_cons_succ,set_cons_zero,true_and];intro p2 hp2;have hpa2:=L3'.ne hp2;refine zy (L3'.new hpa2) (by decide) (by decide) (by omega) λe G4 e1 e2 L4 E4=>?_;have g4:=E4 p2 _ hpa2 qB;obtain ⟨u,hu,u',rfl,u1,u2⟩:=qqb e1 e2 (P:=λt=>∃ w,t=T.int w/\1<=w/\w<=100) ⟨1+b,rfl,by omega,by omega⟩ ⟨10,rfl,by decide⟩ ⟨100,rfl,by decide⟩;simp only [ixR,getL,g4,hu];rw [q3];clear q3;simp only [qZ,zB,qb,c3,v3,length_cons,length_nil,Nat.zero_add,Nat.reduceAdd,Nat.reduceLT,getElem?_pos,getElem_cons_succ,getElem_cons_zero,cb3,Nat.zero_lt_succ,Nat.lt_add_one,qi,sizeLine_eq,Nat.reduceLeDiff,true_and];refine zy L4 u1 (by omega) (by omega) λx G5 x1 x2 L5 E5=>?_
 try simp [qK,zg,gn3,qZ,qbu,zM,UZ,MH,qH,v3,c3,o3,u3,K6,L3.ixT,L3.ixR,QM,iI,iC,iB,zV,jF,qet,tb3,qje,or3,CQ,JF,qi3,C7,if3,ch3,cb3,qb,qi,E9,tyT,jP,zB,QQ,SJ,np3,sp3,ZI,qG,QC,DO,qbb,R9,qv,bm3,KG,qjF,U2,qds,qdm,qlO,qkC,ja,XM,KF,qi0,MF,UW,HT.sIx,getL,in3,LC,eqF,gu,sizeLine_eq,getElem?_cons_zero,getElem?_cons_succ]
 refine zy L5 u1 (by omega) (by omega) λy G6 y1 y2 L6 E6=>?_
 try simp [qK,zg,gn3,qZ,qbu,zM,UZ,MH,qH,v3,c3,o3,u3,K6,L3.ixT,L3.ixR,QM,iI,iC,iB,zV,jF,qet,tb3,qje,or3,CQ,JF,qi3,C7,if3,ch3,cb3,qb,qi,E9,tyT,jP,zB,QQ,SJ,np3,sp3,ZI,qG,QC,DO,qbb,R9,qv,bm3,KG,qjF,U2,qds,qdm,qlO,qkC,ja,XM,KF,qi0,MF,UW,HT.sIx,getL,in3,LC,eqF,gu,sizeLine_eq,getElem?_cons_zero,getElem?_cons_succ]
 exact h r c (1+b) x y G6 ⟨⟨r1,by omega,c1,by omega,by omega,by omega,x1,by omega,y1,by omega⟩,r2,c2,by show 1+b<=32;omega⟩ (L6.mono (by omega)) (E1.trans (((jU hp).trans E2).trans (E3.trans (((jU hp2).trans E4).trans (E5.trans E6)))))
def cop {b p:Int} (hb:1<=b):∃ k:Nat,(k:Int)<b/\Int.gcd b (p+k)=1:=by
 refine ⟨((1-p)%b).toNat,?_,?_⟩
 ·have:=Int.emod_nonneg (1-p) (show b≠0 by omega);have:=Int.emod_lt_of_pos (1-p) (show 0<b by omega);omega
 ·have h1:=Int.emod_nonneg (1-p) (show b≠0 by omega);have h2:=Int.emod_add_mul_ediv (1-p) b;have e:p+(((1-p)%b).toNat:Int)=1+b*(-((1-p)/b)):=by
   rw [Int.toNat_of_nonneg h1,Int.mul_neg];omega
  rw [e];simp
structure Plc (b p0 pl:Int) (i:Nat):Prop where
 lo:p0<=pl
 hi:pl<=p0+i
 at_:Int.gcd b pl=1\/(pl=p0+i/\∀ k:Nat,k<i->Int.gcd b (p0+k)≠1)
def Plc.done {b p0 pl:Int} {n:Nat} (h:Plc b p0 pl n) (hb:1<=b) (hn:b<=n):Int.gcd b pl=1:=by
 rcases h.at_ with h|⟨_,h⟩
 ·exact h
 ·obtain ⟨k,h1,h2⟩:=cop (p:=p0) hb;exact absurd h2 (h k (by omega))
def Plc.next {b p0 pl:Int} {i:Nat} (h:Plc b p0 pl i) (hb:1<=b) (hp:1<=p0) (hg:(1:Int)<(Int.gcd b pl:Nat)):Plc b p0 (pl+1) (i+1):=by
 rcases h.at_ with z|⟨z1,z2⟩
 ·rw [z] at hg;simp at hg
 ·refine ⟨by have:=h.lo;omega,by omega,.inr ⟨by omega,λk hk=>?_⟩⟩;rcases Nat.lt_or_ge k i with q|q
  ·exact z2 k q
  ·have:k=i:=by omega
   subst this;rw [← z1];omega
def Plc.stay {b p0 pl:Int} {i:Nat} (h:Plc b p0 pl i) (hb:1<=b) (hp:1<=p0) (hg:¬ (1:Int)<(Int.gcd b pl:Nat)):Plc b p0 pl (i+1):=by
 have g0:0<Int.gcd b pl:=Int.gcd_pos_of_ne_zero_left _ (by omega);exact ⟨h.lo,by have:=h.hi;omega,.inl (by omega)⟩
def qeU {r c b:Int} (hr:1<=r) (hc:1<=c) (hb:1<=b):1<=-(-r*c/b)/\r*c<=b*-(-r*c/b)/\-(-r*c/b)<=r*c:=by
 have h1:=UN hr hc;have e:-r*c=-(r*c):=Int.neg_mul ..;rw [e];have h2:=Int.ediv_neg_of_neg_of_pos (a:=-(r*c)) (b:=b) (by omega) (by omega);have h3:=Int.mul_ediv_self_le (x:=-(r*c)) (k:=b) (by omega);have h4:-(r*c)<=-(r*c)/b:=by
  have:=Int.le_ediv_of_mul_le (a:=-(r*c)) (b:=-(r*c)) (c:=b) (by omega) (by
   have:=Int.mul_le_mul_of_nonneg_left hb (show (0:Int)<=r*c by omega);rw [Int.neg_mul];omega)
  exact this
 rw [Int.mul_neg];omega
def K0:∀ ts G q,W2 ts G q->ts.length=1/\VD J8 qR WM (qba q) (qv ["_law_left_here","_law_rows","_law_columns","_law_banks","_law_places","_law_turn"] ts) G:=by
 rintro ts G q ⟨a,n,rfl,hL,hn,h⟩;refine ⟨rfl,?_⟩;unfold VD;refine QS λnx1 q1=>?_;simp only [zg,cb3,qb,v3,qv,map_cons,List.map_nil,length_cons,length_nil,Nat.zero_add,Nat.reduceAdd,Nat.add_one_sub_one,List.reduceReplicate,cons_append,List.nil_append,Nat.zero_lt_succ,getElem?_pos,getElem_cons_zero,qi,ZI,qG,gn3,QC,set_cons_succ,set_cons_zero];refine ⟨a,n,rfl,hL,by omega,λr c G1 r1 r2 c1 c2 L1 E1=>?_⟩;simp only [length_cons,length_nil,Nat.zero_add,Nat.reduceAdd,true_and];rw [q1];clear q1;refine QS λnx2 q2=>?_;simp only [zg,o3,c3,cb3,qb,v3,length_cons,length_nil,Nat.zero_add,Nat.reduceAdd,Nat.zero_lt_succ,getElem?_pos,getElem_cons_zero,QQ,qi,sizeLine_eq,Nat.reduceLeDiff,QM,ne_eq,gn3,set_cons_succ,set_cons_zero,true_and];intro p hp;have hpa:=L1.ne hp;refine zy (L1.new hpa) (by decide) (by decide) (by omega) λd G2 d1 d2 L2' E2=>?_;have g2:=E2 p _ hpa qB;obtain ⟨w,hw,w',rfl,w1,w2⟩:=qqb d1 d2 (P:=λt=>∃ w,t=T.int w/\1<=w/\w<=32) ⟨8,rfl,by decide⟩ ⟨17,rfl,by decide⟩ ⟨32,rfl,by decide⟩;simp only [ixR,getL,g2,hw];refine zy L2' w1 (by omega) (by omega) λb G3 b1 b2 L3' E3=>?_;simp [qK,zg,gn3,qZ,qbu,zM,UZ,MH,qH,v3,c3,o3,u3,K6,L3.ixT,L3.ixR,QM,iI,iC,iB,zV,jF,qet,tb3,qje,or3,CQ,JF,qi3,C7,if3,ch3,cb3,qb,qi,E9,tyT,jP,zB,QQ,SJ,np3,sp3,ZI,qG,QC,DO,qbb,R9,qv,bm3,KG,qjF,U2,qds,qdm,qlO,qkC,ja,XM,KF,qi0,MF,UW,HT.sIx,getL,in3,LC,eqF,gu,sizeLine_eq,getElem?_cons_zero,getElem?_cons_succ];rw [q2];clear q2;refine QS λnx3 q3=>?_;simp only [zg,o3,u3,v3,length_cons,length_nil,Nat.zero_add,Nat.reduceAdd,Nat.reduceLT,getElem?_pos,getElem_cons_succ,getElem_cons_zero,K6,iC,cb3,qb,Nat.zero_lt_succ,c3,qi,QM,ne_eq,sizeLine_eq,gn3,set_cons_succ,set_cons_zero];refine ⟨cm (by omega) (by omega),⟨by omega,by omega⟩,zy L3' (by omega) (by omega) (by omega) λe G4 e1 e2 L4 E4=>?_⟩;obtain ⟨u1,u2,u3⟩:=qeU r1 c1 (show 1<=1+b by omega);have rc:r*c<=16*16:=Int.mul_le_mul r2 c2 (by omega) (by omega);simp [qK,zg,gn3,qZ,qbu,zM,UZ,MH,qH,v3,c3,o3,u3,K6,L3.ixT,L3.ixR,QM,iI,iC,iB,zV,jF,qet,tb3,qje,or3,CQ,JF,qi3,C7,if3,ch3,cb3,qb,qi,E9,tyT,jP,zB,QQ,SJ,np3,sp3,ZI,qG,QC,DO,qbb,R9,qv,bm3,KG,qjF,U2,qds,qdm,qlO,qkC,ja,XM,KF,qi0,MF,UW,HT.sIx,getL,in3,LC,eqF,gu,sizeLine_eq,getElem?_cons_zero,getElem?_cons_succ];rw [q3];clear q3;simp only [qK,RQ,QR,qb,c3,qi,Int.reducePow,Int.reduceNeg,Int.neg_ofNat_le_ofNat,Int.reduceLT,and_self,Int.reduceToNat,true_and];obtain ⟨p0,hp0⟩:∃ p0,p0=-(-r*c/(1+b))+e:=⟨_,rfl⟩
 refine DW _ (λi τ G'=>G'=G4/\∃ (pl:Int) (x:Option T),τ=[some (.ref a),some (.int r),some (.int c),some (.int (1+b)),some (.int pl),x]/\Plc (1+b) p0 pl i) ⟨rfl,_,none,by rw [← hp0],⟨by omega,by omega,.inr ⟨by omega,by omega⟩⟩⟩ (λ_ _ _ _ _=>True.intro) ?_ ?_
 ·rintro i x τ G' nx hx ⟨rfl,pl,y,rfl,P⟩ hn;simp only [gn3,zM,tb3,o3,cb3,qb,v3,set_cons_succ,set_cons_zero,length_cons,length_nil,Nat.zero_add,Nat.reduceAdd,Nat.reduceLT,getElem?_pos,getElem_cons_succ,getElem_cons_zero,qi,c3,iB,decide_eq_true_eq,zg,QM,qH];refine ⟨1+b,pl,rfl,by omega,by have:=P.lo;omega,?_⟩;simp;split
  ·rename_i hg;exact hn _ _ ⟨rfl,_,_,rfl,P.next (by omega) (by omega) (by omega)⟩
  ·rename_i hg;exact hn _ _ ⟨rfl,_,_,rfl,P.stay (by omega) (by omega) (by omega)⟩
 ·rintro τ G' ⟨rfl,pl,x,rfl,P⟩;simp only [qZ,zB,qb,c3,v3,length_cons,length_nil,Nat.zero_add,Nat.reduceAdd,Nat.reduceLT,getElem?_pos,getElem_cons_succ,getElem_cons_zero,qi,sizeLine_eq,Nat.reduceLeDiff,true_and];rw [YV] at P;have lo:=P.lo;have hi:=P.hi;have m1:(1+b)*-(-r*c/(1+b))<=(1+b)*pl:=Int.mul_le_mul_of_nonneg_left (by omega) (by omega);exact h r c (1+b) pl G' ⟨⟨r1,by omega,c1,by omega,by omega,by omega,by omega,by omega,P.done (by omega) (by omega),by omega⟩,r2,c2,by show 1+b<=32;omega⟩ (L4.mono (by omega)) (E1.trans (((jU hp).trans E2).trans (E3.trans E4)))
def UY:Nat->PyData->Prop
 |_,.none=>True
 |_,.bool _=>True
 |_,.int _=>True
 |_,.str _=>True
 |n+1,.list ds=>ds.length<=1000000/\∀ d∈ds,UY n d
 |n+1,.tuple ds=>ds.length<=1000000/\∀ d∈ds,UY n d
 |_,_=>False
def jT:Nat->Sp3
 |0=>qcm
 |n+1=>λts G q=>∃ (x y:T) (d:PyData),ts=[x,y]/\Dp G x d/\Dp G y d/\UY n d/\∀ G',Ex G G'->q (.bl true) G'
def N2 {G G':Gp} (e:Ex G G') {x:T} {us:List T} (h:ZS G x=some us):ZS G' x=some us:=by
 cases x<;>simp [ZS] at h ⊢
 ·exact h
 ·exact e.getL h
def qel (n:Nat):qfG (List.replicate n (.bl true))=some true:=by
 induction n with
 |zero=>rfl
 |succ n ih=>rw [List.replicate_succ];simp [qfG,ih]
def qal {G:Gp} {n:Nat} {x y:T} {us vs:List T} {ds:List PyData} {q:Q3} (hx:ZS G x=some us) (hy:ZS G y=some vs) (du:Dps G us ds) (dv:Dps G vs ds) (hl:us.length<=1000000) (hd:∀ d∈ds,∃ m,n=m+1/\UY m d) (h:∀ G',Ex G G'->q (.bl true) G') :
  RC (λG=>ZS G x=some us/\ZS G y=some vs) (ZI 2 (qG (gn3 0) (qG (gn3 1) QC))) tt3 (cb3 (jT n) (qb (v3 0) (qb (v3 1) qi))) (λx G1=>KF [x] G1 q) (qdn us vs) [] [none,none] G:=by
 have e1:=du.length;have e2:=dv.length;refine T2 _ (λi ys τ G'=>Ex G G'/\ys=List.replicate i (.bl true)/\∃ x0 x1,τ=[x0,x1]) ⟨Ex.refl,rfl,none,none,rfl⟩ (λi ys τ G' _ hp=>⟨N2 hp.1 hx,N2 hp.1 hy⟩) ?_ ?_
 ·rintro i z ys τ G' R hz ⟨E,rfl,x0,x1,rfl⟩ hR;obtain ⟨a,b,ha,hb,rfl⟩:=TX hz;obtain ⟨d,hd1,da⟩:=du.get ha;obtain ⟨d',hd2,db⟩:=dv.get hb;rw [hd1] at hd2;cases hd2;obtain ⟨m,rfl,dl⟩:=hd d (mem_of_getElem? hd1);have hi:=(List.getElem?_eq_some_iff.mp ha).1;simp only [ZI,length_cons,length_nil,Nat.zero_add,Nat.reduceAdd,qG,gn3,QC,tt3,↓reduceIte,cb3,qb,v3,set_cons_zero,set_cons_succ,Nat.zero_lt_succ,getElem?_pos,getElem_cons_zero,Nat.lt_add_one,getElem_cons_succ,qi,List.length_replicate,sizeLine_eq,true_and];refine ⟨a,b,d,rfl,da.up E,db.up E,dl,λG2 E2=>⟨by omega,hR _ _ _ ⟨E.trans E2,?_,_,_,rfl⟩⟩⟩;rw [List.replicate_succ']
 ·rintro ys τ G' ⟨E,rfl,x0,x1,rfl⟩ p hp;simp [KF,getL,qB,qel];exact h _ (E.trans (jL hp))
def qeI {n:Nat} {ds:List PyData} (h:UY n (.list ds)):ds.length<=1000000/\∀ d∈ds,∃ m,n=m+1/\UY m d:=by
 cases n with
 |zero=>exact h.elim
 |succ n=>exact ⟨h.1,λd hd=>⟨n,rfl,h.2 d hd⟩⟩
def qbf {n:Nat} {ds:List PyData} (h:UY n (.tuple ds)):ds.length<=1000000/\∀ d∈ds,∃ m,n=m+1/\UY m d:=by
 cases n with
 |zero=>exact h.elim
 |succ n=>exact ⟨h.1,λd hd=>⟨n,rfl,h.2 d hd⟩⟩
def ql1 {x:T} {G:Gp} {q:Q3} (h:jF x x=some true) (k:q (.bl true) G):zV false x x G q:=by
 unfold zV;rw [h];exact k
def qce {ta tb:TE3} {e:Ends3} {τ:St3} {G:Gp} {x:T} (h:∀ q',q' x G->ta τ G q') (k:x=.bl true) (h2:tb τ G e.rt):qZ (JF ta tb) e τ G:=h _ (by subst k;exact h2)
def qqH {ta tb:TE3} {τ:St3} {G:Gp} {x:T} (ha:∀ q',q' x G->ta τ G q') (hb:∀ q',q' x G->tb τ G q') (h:jF x x=some true):∀ q',q' (.bl true) G->o3 (zV false) ta tb τ G q':=λq' k=>ha _ (hb _ (ql1 h k))
def qaX {c:TT3} {a b:TS3} {e:Ends3} {τ:St3} {G:Gp} (h:∀ A,A=a->zM c A b e τ G):zM c a b e τ G:=h _ rfl
def MM (n:Nat):∀ ts G q,jT (n+1) ts G q->ts.length=2/\WN (jT n) (qba q) (qv ["_law_found","_law_due"] ts) G:=by
 rintro ts G q ⟨x,y,d,rfl,hx,hy,hd,h⟩;refine ⟨rfl,?_⟩;have h0:=h G Ex.refl;cases hx with
 |non=>cases hy;exact h0
 |bl b=>cases hy;cases b<;>exact h0
 |int i=>cases hy;exact ql1 (x:=.int i) (by simp [jF]) h0
 |str s=>
  cases hy;refine QS λnx1 q1=>?_;refine qaX λA1 hA=>?_;clear hA;show nx1 _ _;rw [q1];clear q1;refine QS λnx2 q2=>?_;refine qaX λA2 hA=>?_;show A2 _ _ _;rw [hA];exact qce (qqH (x:=.str s) (λ_ k=>k) (λ_ k=>k) (by simp [jF])) rfl h0
 |tup dx=>
  cases hy with
  |tup dy=>
   rename_i xs ds ys;have e1:=dx.length;have e2:=dy.length;obtain ⟨l1,l2⟩:=qbf hd;have key:=qal (n:=n) (x:=.tup xs) (y:=.tup ys) (us:=xs) (vs:=ys) (q:=q) rfl rfl dx dy (by omega) l2 h;have e3:xs.length=ys.length:=by omega
   refine QS λnx1 q1=>?_;clear q1;refine qaX λA1 hA=>?_;show A1 _ _ _;rw [hA];clear hA;refine QS λnx2 q2=>?_;refine qaX λA2 hA=>?_;show nx2 _ _;rw [q2];clear q2;exact qce (qqH (x:=.int ys.length) (λ_ k=>by rw [← e3] at k;exact k) (λ_ k=>k) (by simp [jF])) rfl key
 |lst gx dx=>
  cases hy with
  |lst gy dy=>
   rename_i p1 xs ds p2 ys;have e1:=dx.length;have e2:=dy.length;obtain ⟨l1,l2⟩:=qeI hd;have key:=qal (n:=n) (x:=.ref p1) (y:=.ref p2) (us:=xs) (vs:=ys) (q:=q) gx gy dx dy (by omega) l2 h;have e3:xs.length=ys.length:=by omega
   refine QS λnx1 q1=>?_;clear q1;refine qaX λA1 hA=>?_;simp only [zM,tb3,E9,v3,qv,map_cons,List.map_nil,length_cons,length_nil,Nat.zero_add,Nat.reduceAdd,Nat.sub_self,List.replicate_zero,List.append_nil,Nat.lt_add_one,getElem?_pos,getElem_cons_succ,getElem_cons_zero,tyT,gx,gy,Option.isSome_some,↓reduceIte,jP,BEq.rfl,String.reduceBEq,Bool.and_self,Bool.or_false,Bool.or_self,or3,o3,Nat.zero_lt_succ,zV,jF,decide_true,Bool.not_true,Bool.false_eq_true,qH];rw [hA];clear hA;refine QS λnx2 q2=>?_;refine qaX λA2 hA=>?_;clear hA;simp only [zM,tb3,E9,v3,qv,map_cons,List.map_nil,length_cons,length_nil,Nat.zero_add,Nat.reduceAdd,Nat.sub_self,List.replicate_zero,List.append_nil,Nat.lt_add_one,getElem?_pos,getElem_cons_succ,getElem_cons_zero,tyT,gx,gy,Option.isSome_some,↓reduceIte,jP,BEq.rfl,String.reduceBEq,Bool.and_self,Bool.or_false,Bool.or_self,or3,o3,Nat.zero_lt_succ,zV,jF,decide_true,Bool.not_true,Bool.false_eq_true,qH];rw [q2];clear q2;simp only [ZS,KF,qv,map_cons,List.map_nil,length_cons,length_nil,Nat.zero_add,Nat.reduceAdd,Nat.sub_self,List.replicate_zero,List.append_nil,Nat.lt_add_one,getElem?_pos,getElem_cons_succ,getElem_cons_zero,gy,↓reduceIte,o3,v3,Nat.zero_lt_succ,gx,zV,jF,decide_true,Bool.false_eq_true,qZ,JF,cb3,qb,qi,U2,e3,lc3,qd1,cap] at key ⊢;exact key
def qeB:∀ {d:Nat},d<=8->L2.atI [T.int 1,.int 2,.int 4,.int 8,.int 16,.int 32,.int 64,.int 128,.int 256] (d:Int)=some (.int (2 ^ d))
 |0,_=>rfl
 |1,_=>rfl
 |2,_=>rfl
 |3,_=>rfl
 |4,_=>rfl
 |5,_=>rfl
 |6,_=>rfl
 |7,_=>rfl
 |8,_=>rfl
 |k+9,h=>absurd h (Nat.not_le.mpr (Nat.lt_of_lt_of_le (Nat.lt_succ_self _) (Nat.le_add_left _ _)))
def qdD:∀ {d:Nat},d<=4->L2.atI [T.int 1,.int 2,.int 4,.int 8,.int 16] (d:Int)=some (.int (2 ^ d))
 |0,_=>rfl
 |1,_=>rfl
 |2,_=>rfl
 |3,_=>rfl
 |4,_=>rfl
 |k+5,h=>absurd h (Nat.not_le.mpr (Nat.lt_of_lt_of_le (Nat.lt_succ_self _) (Nat.le_add_left _ _)))
def TW {te:TE3} {q:Q3} {a:Addr} {n many:Int} {U3:St3} {items:List T} {x0:Option T} {G:Gp} (hte:∀ x0 G3 (Q:T->Gp->Prop),qR [.ref a,.int many] G3 Q->te (x0::U3) G3 Q) (hL:Lf G a n) (m1:1<=many) (m2:many<1073741824) (hl:items.length<=1000) (hn:n<1000000000)
  (h:∀ (ds:List Int) G' p,ds.length=items.length->(∀ d∈ds,0<=d/\d<many)->Lf G' a (n+items.length)->Ext a G G'->G' p=none->q (.ref p) (gu G' p (.lst (ds.map T.int)))) :
  RC (λ_=>True) (gn3 0) tt3 te q items [] (x0::U3) G:=by
 refine T2 _ (λi ys τ G'=>∃ (ds:List Int) (x0:Option T),τ=x0::U3/\ys=ds.map T.int/\ds.length=i/\(∀ d∈ds,0<=d/\d<many)/\Lf G' a (n+i)/\Ext a G G') ⟨[],x0,rfl,rfl,rfl,by simp,by simpa using hL,Ext.refl⟩ (λ_ _ _ _ _ _=>True.intro) ?_ ?_
 ·rintro i z ys τ G' R hz ⟨ds,x0,rfl,rfl,e,hd,hL',E⟩ hR;have hi:=(List.getElem?_eq_some_iff.mp hz).1;simp only [gn3,tt3,set_cons_zero,if_true];refine hte _ _ _ (zy hL' m1 m2 (by omega) λd G2 d1 d2 L2 E2=>⟨by simp [sizeLine_eq];omega,hR _ _ _ ⟨ds++[d],_,rfl,by simp,by simp [e],λx hx=>?_,L2.mono (by omega),E.trans E2⟩⟩);rcases List.mem_append.mp hx with hx|hx
  ·exact hd x hx
  ·simp at hx;subst hx;exact ⟨d1,d2⟩
 ·rintro ys τ G' ⟨ds,x0,rfl,rfl,e,hd,hL',E⟩ p hp;exact h ds G' p e hd hL' E hp
def XI:Sp3:=λts G q=>∃ a n most,ts=[.ref a,.int most]/\Lf G a n/\n<10000000/\0<=most/\most<=4/\∀ (h l:Nat) (ms:List Int) G',(h:Int)<=most->(l:Int)<=most->(Dl.bits h l ms).Ok->Lf G' a (n+10)->Ext a G G'->q (Dl.bits h l ms).t G'
def NU {wide:Int} {p:Addr} {ds:List Int} {x0:Option T} {G:Gp} {q:Q3} (hw:0<wide) (hl:ds.length<=1000) (hG:getL G p=some (ds.map T.int)) (h:∀ p2,G p2=none->q (.ref p2) (gu G p2 (.lst ((ds.map (·%wide)).map T.int)))) :
  RC (λG=>getL G p=some (ds.map T.int)) (gn3 0) tt3 (o3 (iC (λ_ j=>0<j) (·%·)) (v3 0) (v3 1)) q (ds.map T.int) [] [x0,some (.int wide)] G:=by
 refine NR (λt=>match t with|.int m=>T.int (m%wide)|t=>t) (λτ=>∃ x0,τ=[x0,some (.int wide)]) hG _ _ _ ⟨_,rfl⟩ ?_ (by simp [sizeLine_eq];omega) λp2 hp2=>?_
 ·rintro z hz τ ⟨x0,rfl⟩ R hR;rw [mem_map] at hz;obtain ⟨m,_,rfl⟩:=hz;simp [gn3,o3,v3,iC];exact ⟨hw,hR _ ⟨_,rfl⟩⟩
 ·have:=h p2 hp2;simpa [map_map,Function.comp_def] using this
def NA:∀ ts G q,XI ts G q->ts.length=2/\UL qR (qba q) (qv ["_law_left_here","_law_most","_law_high","_law_low","_law_masks","_law_wide"] ts) G:=by
 rintro ts G q ⟨a,n,most,rfl,hL,hn,m1,m2,h⟩;refine ⟨rfl,?_⟩;simp only [UL,qK,R9,qb,cb3,v3,qv,map_cons,List.map_nil,length_cons,length_nil,Nat.zero_add,Nat.reduceAdd,Nat.reduceSub,List.reduceReplicate,cons_append,List.nil_append,Nat.zero_lt_succ,getElem?_pos,getElem_cons_zero,o3,Nat.reduceLT,getElem_cons_succ,c3,QM,qi,zg,set_cons_succ,set_cons_zero,gn3,QQ,sizeLine_eq,Nat.reduceLeDiff,ne_eq,qZ,zB,ja,true_and,getL,gu,ixR,↓reduceIte];refine zy hL (by omega) (by omega) (by omega) λhi G1 h1 h2 L1 E1=>?_
 try simp
 refine zy L1 (by omega) (by omega) (by omega) λlo G2 l1 l2 L2' E2=>?_;simp only [lc3,QR,qb,cb3,v3,length_cons,length_nil,Nat.zero_add,Nat.reduceAdd,Nat.zero_lt_succ,getElem?_pos,getElem_cons_zero,c3,qi,Int.reducePow,Int.reduceNeg,cap,map_cons,Nat.lt_add_one,getElem_cons_succ,Option.join_some,List.map_nil];refine zy L2' (by omega) (by omega) (by omega) λk G3 k1 k2 L3' E3=>?_;refine ⟨⟨by omega,by omega⟩,TW (many:=256) (λx0 G3 Q hq=>by simpa [cb3,qb,v3,c3,qi] using hq) L3' (by omega) (by omega) (by rw [YV];omega) (by omega) λds G4 p e1 e2 L4 E4 hp=>?_⟩;rw [YV] at e1 L4;obtain ⟨H,rfl⟩:=Int.eq_ofNat_of_zero_le h1;obtain ⟨W,rfl⟩:=Int.eq_ofNat_of_zero_le l1;have hpa:=L4.ne hp
 try simp
 intro p2 hp2;have pp:p≠p2:=by rintro rfl;rw [qB] at hp2;cases hp2
 have e3:((H:Int)+(W:Int))=((H+W:Nat):Int):=by omega
 have w1:=LG (H+W);have hG:∀ B,getL (gu (gu G4 p (.lst (ds.map T.int))) p2 B) p=some (ds.map T.int):=λB=>by simp only [getL,jc pp,qB]
 rw [e3,qeB (d:=H+W) (by omega)];simp only [ZR,v3,getElem?_cons_zero,getElem?_cons_succ,hG];refine NU (by omega) (by omega) (hG _) λp3 hp3=>?_;simp only [qB];refine h H W _ _ (by omega) (by omega) ⟨by omega,by omega,by simp;omega,λm hm=>?_⟩ ((((L4.new hpa).new ((L4.new hpa).ne hp2)).new (((L4.new hpa).new ((L4.new hpa).ne hp2)).ne hp3)).mono (by omega)) (((E1.trans E2).trans (E3.trans E4)).trans (((jU hp).trans (jU hp2)).trans (jU hp3)));rw [mem_map] at hm;obtain ⟨x,_,rfl⟩:=hm;exact ⟨Int.emod_nonneg _ (by omega),Int.emod_lt_of_pos _ (by omega)⟩
structure Cells (cells:List (List Int)) (r c b:Int):Prop where
 r:(cells.length:Int)=r
 c:∀ row∈cells,(row.length:Int)=c/\∀ x∈row,0<=x/\x<b
def qaa {q:Q3} {a:Addr} {n r c b:Int} {x0:Option T} {G:Gp} (hL:Lf G a n) (hn:n<100000000) (r1:1<=r) (r2:r<=16) (c1:1<=c) (c2:c<=16) (b1:1<=b) (b2:b<=1000)
  (h:∀ cells G' p,Cells cells r c b->Lf G' a (n+256)->Ext a G G'->G' p=none->q (.ref p) (gu G' p (.lst (cells.map qnh)))) :
  RC (λ_=>True) (gn3 0) tt3 (cb3 ja (qb (lc3 (QR (qb (v3 3) qi)) (gn3 0) tt3 (cb3 qR (qb (v3 1) (qb (v3 2) qi))) [none,some 1,some 2]) qi)) q (N5 0 r.toNat) [] [x0,some (.ref a),some (.int b),some (.int c)] G:=by
 refine T2 _ (λi ys τ G'=>∃ (cells:List (List Int)) (x0:Option T),τ=[x0,some (.ref a),some (.int b),some (.int c)]/\ys=cells.map qnh/\Cells cells i c b/\Lf G' a (n+16*i)/\Ext a G G') ⟨[],x0,rfl,rfl,⟨rfl,by simp⟩,by simpa using hL,Ext.refl⟩ (λ_ _ _ _ _ _=>True.intro) ?_ ?_
 ·rintro i z ys τ G' R hz ⟨cells,x0,rfl,rfl,C,hL',E⟩ hR;obtain ⟨hi,rfl⟩:=qb5 hz;have hc:=C.r;simp only [gn3,tt3,↓reduceIte,cb3,qb,lc3,QR,v3,Int.zero_add,set_cons_zero,length_cons,length_nil,Nat.zero_add,Nat.reduceAdd,Nat.lt_add_one,getElem?_pos,getElem_cons_succ,getElem_cons_zero,qi,Int.reducePow,Int.reduceNeg,ja,length_map,sizeLine_eq,getL,cap,map_cons,Nat.reduceLT,Option.join_some,List.map_nil];refine ⟨⟨by omega,by omega⟩,TW (many:=b) (λx0 G3 Q hq=>by simpa [cb3,qb,v3,c3,qi] using hq) hL' (by omega) (by omega) (by rw [YV];omega) (by omega) λds G4 p e1 e2 L4 E4 hp=>?_⟩;rw [YV] at e1 L4;simp only [qB];refine ⟨by omega,hR _ _ _ ⟨cells++[ds],_,rfl,by simp [qnh],⟨by simp;omega,λrow hrow=>?_⟩,((L4.new (L4.ne hp)).mono (by omega)),(E.trans E4).trans (jU hp)⟩⟩;rcases List.mem_append.mp hrow with hr|hr
  ·exact C.c row hr
  ·simp at hr;subst hr;exact ⟨by omega,e2⟩
 ·rintro ys τ G' ⟨cells,x0,rfl,rfl,C,hL',E⟩ p hp;rw [YV] at C hL';exact h cells G' p ⟨by have:=C.r;omega,C.c⟩ (hL'.mono (by omega)) E hp
def Cells.ok {cells:List (List Int)} {r c b:Int} (C:Cells cells r c b) (r1:1<=r) (r2:r<=60) (c1:1<=c) (c2:c<=60) (b1:1<=b) (b2:b<=1000):(Dl.table b cells).Ok/\(Dl.table b cells).R=r/\(Dl.table b cells).C=c:=by
 have hl:=C.r;have ok:(Dl.table b cells).Ok:=⟨b1,b2,by omega,by omega,c.toNat,by omega,by omega,λrow hr=>⟨by have:=(C.c row hr).1;omega,(C.c row hr).2⟩⟩
 have e0:cells[0]?=some cells[0]:=getElem?_eq_getElem (by omega);exact ⟨ok,hl,by simp [Dl.C,e0];exact (C.c cells[0] (List.getElem_mem _)).1⟩
def WW:Sp3:=λts G q=>∃ a n,ts=[.ref a]/\Lf G a n/\n<10000000/\∀ (d:Dl) G',Dr d 4 4 5->d.dep=0->Lf G' a (n+300)->Ext a G G'->q d.t G'
def LA:∀ ts G q,WW ts G q->ts.length=1/\Y9 qR WM (qba q) (qv ["_law_left_here","_law_rows","_law_columns","_law_banks","_law_way","_law_high","_law_low","_law_masks","_law_wide","_law_places","_law_turn","_law_cells"] ts) G:=by
 rintro ts G q ⟨a,n,rfl,hL,hn,h⟩;refine ⟨rfl,?_⟩;unfold Y9;refine QS λnx1 q1=>?_;simp only [zg,zB,qb,o3,c3,cb3,v3,qv,map_cons,List.map_nil,length_cons,length_nil,Nat.zero_add,Nat.reduceAdd,Nat.add_one_sub_one,List.reduceReplicate,cons_append,List.nil_append,Nat.zero_lt_succ,getElem?_pos,getElem_cons_zero,qi,QM,ne_eq,sizeLine_eq,Nat.reduceLeDiff,ZI,qG,gn3,QC,set_cons_succ,set_cons_zero,true_and];refine zy hL (by omega) (by omega) (by omega) λr G1 r1 r2 L1 E1=>?_
 try simp
 refine zy L1 (by omega) (by omega) (by omega) λc G2 c1 c2 L2' E2=>?_
 try simp
 refine zy L2' (by omega) (by omega) (by omega) λb G3 b1 b2 L3' E3=>?_
 try simp
 rw [q1];refine QS λnx2 q2=>?_;simp only [zg,cb3,qb,v3,length_cons,length_nil,Nat.zero_add,Nat.reduceAdd,Nat.zero_lt_succ,getElem?_pos,getElem_cons_zero,c3,qi,gn3,set_cons_succ,set_cons_zero];refine zy L3' (by omega) (by omega) (by omega) λway G4 w1 w2 L4 E4=>?_;have EE:=(E1.trans E2).trans (E3.trans E4);rw [q2];refine QS λnx3 q3=>?_;by_cases k0:way=0
 ·subst k0;simp only [zM,tb3,o3,v3,length_cons,length_nil,Nat.zero_add,Nat.reduceAdd,Nat.reduceLT,getElem?_pos,getElem_cons_succ,getElem_cons_zero,c3,zV,jF,decide_true,Bool.false_eq_true,↓reduceIte,qZ,zB,qb,cb3,Nat.zero_lt_succ,qi,sizeLine_eq,Nat.reduceLeDiff,true_and];refine zy L4 (by omega) (by omega) (by omega) λx G5 x1 x2 L5 E5=>?_
  try simp
  refine zy L5 (by omega) (by omega) (by omega) λy G6 y1 y2 L6 E6=>?_
  try simp
  exact h (.skew (1+r) (1+c) (1+b) x y) G6 ⟨⟨by omega,by omega,by omega,by omega,by omega,by omega,by omega,by omega,by omega,by omega⟩,by show 1+r<=4;omega,by show 1+c<=4;omega,by show 1+b<=5;omega⟩ rfl (L6.mono (by omega)) (EE.trans (E5.trans E6))
 simp only [zM,tb3,o3,v3,c3,zV,jF,getElem?_cons_zero,getElem?_cons_succ,k0,decide_false,Bool.false_eq_true,if_false,qH];rw [q3];refine QS λnx4 q4=>?_;by_cases k1:way=1
 ·subst k1;simp only [zM,tb3,o3,v3,length_cons,length_nil,Nat.zero_add,Nat.reduceAdd,Nat.reduceLT,getElem?_pos,getElem_cons_succ,getElem_cons_zero,c3,zV,jF,decide_true,Bool.false_eq_true,↓reduceIte,qK,R9,qb,cb3,Nat.zero_lt_succ,qi,zg,set_cons_succ,set_cons_zero,gn3,QQ,sizeLine_eq,Nat.reduceLeDiff,QM,ne_eq,qZ,zB,ja,true_and,getL,gu,ixR];refine zy L4 (by omega) (by omega) (by omega) λhi G5 h1 h2 L5 E5=>?_
  try simp
  refine zy L5 (by omega) (by omega) (by omega) λlo G6 l1 l2 L6 E6=>?_;simp only [lc3,QR,qb,cb3,v3,length_cons,length_nil,Nat.zero_add,Nat.reduceAdd,Nat.zero_lt_succ,getElem?_pos,getElem_cons_zero,c3,qi,Int.reducePow,Int.reduceNeg,cap,map_cons,Nat.reduceLT,getElem_cons_succ,Option.join_some,List.map_nil];refine zy L6 (by omega) (by omega) (by omega) λk G7 k1 k2 L7 E7=>?_;refine ⟨⟨by omega,by omega⟩,TW (many:=16) (λx0 G3 Q hq=>by simpa [cb3,qb,v3,c3,qi] using hq) L7 (by omega) (by omega) (by rw [YV];omega) (by omega) λds G8 p e1 e2 L8 E8 hp=>?_⟩;rw [YV] at e1 L8;obtain ⟨H,rfl⟩:=Int.eq_ofNat_of_zero_le h1;obtain ⟨W,rfl⟩:=Int.eq_ofNat_of_zero_le l1;have hpa:=L8.ne hp
  try simp
  intro p2 hp2;have pp:p≠p2:=by rintro rfl;rw [qB] at hp2;cases hp2
  have e3:((H:Int)+(W:Int))=((H+W:Nat):Int):=by omega
  have w1:=LG (H+W);have hG:∀ B,getL (gu (gu G8 p (.lst (ds.map T.int))) p2 B) p=some (ds.map T.int):=λB=>by simp only [getL,jc pp,qB]
  rw [e3,qdD (d:=H+W) (by omega)];simp only [ZR,v3,getElem?_cons_zero,getElem?_cons_succ,hG];refine NU (by omega) (by omega) (hG _) λp3 hp3=>?_;simp only [qB];have bl:(Dl.bits H W (ds.map (·%2 ^ (H+W)))).Ok:=⟨by omega,by omega,by simp;omega,λm hm=>by
   rw [mem_map] at hm;obtain ⟨x,_,rfl⟩:=hm;exact ⟨Int.emod_nonneg _ (by omega),Int.emod_lt_of_pos _ (by omega)⟩⟩
  have q1:=RG (n:=H) (k:=2) (by omega);have q2:=RG (n:=W) (k:=2) (by omega);have q3:=RG (n:=ds.length) (k:=2) (by omega);exact h (.bits H W _) _ ⟨bl,by show (2:Int) ^ H<=4;omega,by show (2:Int) ^ W<=4;omega,by simp [Dl.B];omega⟩ rfl ((((L8.new hpa).new ((L8.new hpa).ne hp2)).new (((L8.new hpa).new ((L8.new hpa).ne hp2)).ne hp3)).mono (by omega)) (EE.trans (((E5.trans E6).trans (E7.trans E8)).trans (((jU hp).trans (jU hp2)).trans (jU hp3))))
 simp only [zM,tb3,o3,v3,c3,zV,jF,getElem?_cons_zero,getElem?_cons_succ,k1,decide_false,Bool.false_eq_true,if_false,qH];rw [q4];refine QS λnx5 q5=>?_;by_cases k2:way=2
 ·subst k2;simp only [zM,tb3,o3,v3,length_cons,length_nil,Nat.zero_add,Nat.reduceAdd,Nat.reduceLT,getElem?_pos,getElem_cons_succ,getElem_cons_zero,c3,zV,jF,decide_true,Bool.false_eq_true,↓reduceIte,qK,zg,u3,K6,iC,cb3,qb,Nat.zero_lt_succ,qi,QM,ne_eq,sizeLine_eq,gn3,set_cons_succ,set_cons_zero];refine ⟨cm (by omega) (by omega),⟨by omega,by omega⟩,zy L4 (by omega) (by omega) (by omega) λe G5 e1 e2 L5 E5=>?_⟩;obtain ⟨u1,u2,u3⟩:=qeU (show 1<=1+r by omega) (show 1<=1+c by omega) (show 1<=1+b by omega);have rc:(1+r)*(1+c)<=4*4:=Int.mul_le_mul (by omega) (by omega) (by omega) (by omega);simp only [RQ,QR,qb,c3,qi,Int.reducePow,Int.reduceNeg,Int.neg_ofNat_le_ofNat,Int.reduceLT,and_self,Int.reduceToNat,true_and];obtain ⟨p0,hp0⟩:∃ p0,p0=-(-(1+r)*(1+c)/(1+b))+e:=⟨_,rfl⟩
  refine DW _ (λi τ G'=>G'=G5/\∃ (pl:Int) (x:Option T),τ=[some (.ref a),some (.int (1+r)),some (.int (1+c)),some (.int (1+b)),some (.int 2),none,none,none,none,some (.int pl),x,none]/\Plc (1+b) p0 pl i) ⟨rfl,_,none,by rw [← hp0],⟨by omega,by omega,.inr ⟨by omega,by omega⟩⟩⟩ (λ_ _ _ _ _=>True.intro) ?_ ?_
  ·rintro i x τ G' nx hx ⟨rfl,pl,y,rfl,P⟩ hn;simp only [gn3,zM,tb3,o3,cb3,qb,v3,set_cons_succ,set_cons_zero,length_cons,length_nil,Nat.zero_add,Nat.reduceAdd,Nat.reduceLT,getElem?_pos,getElem_cons_succ,getElem_cons_zero,qi,c3,iB,decide_eq_true_eq,zg,QM,qH];refine ⟨1+b,pl,rfl,by omega,by have:=P.lo;omega,?_⟩;simp;split
   ·exact hn _ _ ⟨rfl,_,_,rfl,P.next (by omega) (by omega) (by omega)⟩
   ·exact hn _ _ ⟨rfl,_,_,rfl,P.stay (by omega) (by omega) (by omega)⟩
  ·rintro τ G' ⟨rfl,pl,x,rfl,P⟩;simp only [qZ,zB,qb,c3,v3,length_cons,length_nil,Nat.zero_add,Nat.reduceAdd,Nat.reduceLT,getElem?_pos,getElem_cons_succ,getElem_cons_zero,qi,sizeLine_eq,Nat.reduceLeDiff,true_and];rw [YV] at P;have lo:=P.lo;have hi:=P.hi;have m1:(1+b)*-(-(1+r)*(1+c)/(1+b))<=(1+b)*pl:=Int.mul_le_mul_of_nonneg_left (by omega) (by omega);exact h (.rests (1+r) (1+c) (1+b) pl) G' ⟨⟨by omega,by omega,by omega,by omega,by omega,by omega,by omega,by omega,P.done (by omega) (by omega),by omega⟩,by show 1+r<=4;omega,by show 1+c<=4;omega,by show 1+b<=5;omega⟩ rfl (L5.mono (by omega)) (EE.trans E5)
 ·simp only [zM,tb3,o3,v3,c3,zV,jF,getElem?_cons_zero,getElem?_cons_succ,k2,decide_false,Bool.false_eq_true,if_false,qH];rw [q5];simp only [qK,zg,lc3,QR,qb,v3,length_cons,length_nil,Nat.zero_add,Nat.reduceAdd,Nat.reduceLT,getElem?_pos,getElem_cons_succ,getElem_cons_zero,qi,Int.reducePow,Int.reduceNeg,gn3,qZ,zB,c3,set_cons_succ,set_cons_zero,cb3,Nat.lt_add_one,ja,sizeLine_eq,Nat.reduceLeDiff,true_and,getL,cap,map_cons,Nat.zero_lt_succ,Option.join_some,List.map_nil];refine ⟨⟨by omega,by omega⟩,qaa L4 (by omega) (by omega) (by omega) (by omega) (by omega) (by omega) (by omega) λcells G5 p C L5 E5 hp=>?_⟩;obtain ⟨ok,eR,eC⟩:=C.ok (by omega) (by omega) (by omega) (by omega) (by omega) (by omega);simp only [qB];exact h (.table (1+b) cells) _ ⟨ok,by omega,by omega,by show 1+b<=5;omega⟩ rfl ((L5.new (L5.ne hp)).mono (by omega)) (EE.trans (E5.trans (jU hp)))
def WX:Sp3:=λts G q=>∃ a n,ts=[.ref a]/\Lf G a n/\n<10000000/\∀ (b:Int) cells r c G',Cells cells r c b->Dr (.table b cells) 16 16 32->(Dl.table b cells).R=r->(Dl.table b cells).C=c->Lf G' a (n+300)->Ext a G G'->q (Dl.table b cells).t G'
def KN:∀ ts G q,WX ts G q->ts.length=1/\YY J8 qR (qba q) (qv ["_law_left_here","_law_rows","_law_columns","_law_banks","_law_cells"] ts) G:=by
 rintro ts G q ⟨a,n,rfl,hL,hn,h⟩;refine ⟨rfl,?_⟩;simp only [YY,qK,zg,cb3,qb,v3,qv,map_cons,List.map_nil,length_cons,length_nil,Nat.zero_add,Nat.reduceAdd,Nat.add_one_sub_one,List.reduceReplicate,cons_append,List.nil_append,Nat.zero_lt_succ,getElem?_pos,getElem_cons_zero,qi,ZI,qG,gn3,QC,o3,c3,set_cons_succ,set_cons_zero,QQ,sizeLine_eq,Nat.reduceLeDiff,QM,ne_eq,qZ,zB,Nat.reduceLT,getElem_cons_succ,Nat.lt_add_one,ja,true_and,getL];refine ⟨a,n,rfl,hL,by omega,λr c G1 r1 r2 c1 c2 L1 E1=>?_⟩;simp;intro p hp;have hpa:=L1.ne hp;refine zy (L1.new hpa) (by omega) (by omega) (by omega) λd G2 d1 d2 L2' E2=>?_;have g2:=E2 p _ hpa qB;obtain ⟨w,hw,w',rfl,w1,w2⟩:=qqb d1 d2 (P:=λt=>∃ w,t=T.int w/\1<=w/\w<=32) ⟨4,rfl,by omega,by omega⟩ ⟨9,rfl,by omega,by omega⟩ ⟨32,rfl,by omega,by omega⟩;simp only [ixR,getL,g2,hw];refine zy L2' w1 (by omega) (by omega) λb G3 b1 b2 L3' E3=>?_;simp only [lc3,QR,qb,v3,length_cons,length_nil,Nat.zero_add,Nat.reduceAdd,Nat.reduceLT,getElem?_pos,getElem_cons_succ,getElem_cons_zero,qi,Int.reducePow,Int.reduceNeg,cap,map_cons,Nat.zero_lt_succ,Option.join_some,List.map_nil];refine ⟨⟨by omega,by omega⟩,qaa L3' (by omega) (by omega) (by omega) (by omega) (by omega) (by omega) (by omega) λcells G5 p C L5 E5 hp5=>?_⟩;obtain ⟨ok,eR,eC⟩:=C.ok (by omega) (by omega) (by omega) (by omega) (by omega) (by omega);simp only [qB];exact h (1+b) cells r c _ C ⟨ok,by omega,by omega,by show 1+b<=32;omega⟩ eR eC ((L5.new (L5.ne hp5)).mono (by omega)) (E1.trans (((jU hp).trans E2).trans (E3.trans (E5.trans (jU hp5)))))
def XS {a b x y:Int} (h0:1<=a) (h1:a<=x) (h2:1<=b) (h3:b<=y):a*b<=x*y:=Int.mul_le_mul h1 h3 (by omega) (by omega)
def Dr.join {d e:Dl} {r c b r' c' b':Int} (D:Dr d r c b) (E:Dr e r' c' b') (h1:r*r'<=4096) (h2:c*c'<=4096) (h3:b*b'<=4096):Dr (.joined d e) (r*r') (c*c') (b*b'):=by
 have Ld:=Dl.lims D.ok;have Le:=Dl.lims E.ok;have a1:=XS Ld.r1 D.r2 Le.r1 E.r2;have a2:=XS Ld.c1 D.c2 Le.c1 E.c2;have a3:=XS Ld.b1 D.b2 Le.b1 E.b2;exact ⟨⟨D.ok,E.ok,by omega,by omega,by omega⟩,a1,a2,a3⟩
def Dr.mono {d:Dl} {r c b r' c' b':Int} (D:Dr d r c b) (h1:r<=r') (h2:c<=c') (h3:b<=b'):Dr d r' c' b':=⟨D.ok,by have:=D.r2;omega,by have:=D.c2;omega,by have:=D.b2;omega⟩
def Q5:Sp3:=λts G q=>∃ a n,ts=[.ref a]/\Lf G a n/\n<1000000/\∀ (d:Dl) G',Dr d 16 16 32->d.dep<=2->Lf G' a (n+1000)->Ext a G G'->q d.t G'
def qdY {x:Int} (h0:0<=x) (h1:x<2):Dr (.joined (.skew (1+x) 1 2 1 1) (.table 2 [[1,0]])) 2 2 4:=by
 have a:Dr (.skew (1+x) 1 2 1 1) 2 1 2:=⟨⟨by omega,by omega,by omega,by omega,by omega,by omega,by omega,by omega,by omega,by omega⟩,by show 1+x<=2;omega,Int.le_refl 1,Int.le_refl 2⟩
 have b:Dr (.table 2 [[1,0]]) 1 2 2:=⟨⟨by decide,by decide,by decide,by decide,2,by decide,by decide,by simp⟩,by decide,by decide,by decide⟩
 exact (a.join b (by decide) (by decide) (by decide)).mono (by decide) (by decide) (by decide)
def qrB:Dr (.joined (.skew 8 1 3 1 1) (.rests 2 16 5 7)) 16 16 15:=by
 have a:Dr (.skew 8 1 3 1 1) 8 1 3:=⟨⟨by decide,by decide,by decide,by decide,by decide,by decide,by decide,by decide,by decide,by decide⟩,by decide,by decide,by decide⟩
 have b:Dr (.rests 2 16 5 7) 2 16 5:=⟨⟨by decide,by decide,by decide,by decide,by decide,by decide,by decide,by decide,by decide,by decide⟩,by decide,by decide,by decide⟩
 exact (a.join b (by decide) (by decide) (by decide)).mono (by decide) (by decide) (by decide)
def qrn:Dr (.joined (.rests 1 8 3 4) (.skew 16 2 5 2 1)) 16 16 15:=by
 have a:Dr (.rests 1 8 3 4) 1 8 3:=⟨⟨by decide,by decide,by decide,by decide,by decide,by decide,by decide,by decide,by decide,by decide⟩,by decide,by decide,by decide⟩
 have b:Dr (.skew 16 2 5 2 1) 16 2 5:=⟨⟨by decide,by decide,by decide,by decide,by decide,by decide,by decide,by decide,by decide,by decide⟩,by decide,by decide,by decide⟩
 exact (a.join b (by decide) (by decide) (by decide)).mono (by decide) (by decide) (by decide)
def RM:∀ ts G q,Q5 ts G q->ts.length=1/\ZY qR X4 W2 XI WX WW (qba q) (qv ["_law_left_here","_law_way","_law_inner","_law_some"] ts) G:=by
 rintro ts G q ⟨a,n,rfl,hL,hn,h⟩;refine ⟨rfl,?_⟩;unfold ZY;refine QS λnx1 q1=>?_;simp only [zg,cb3,qb,v3,qv,map_cons,List.map_nil,length_cons,length_nil,Nat.zero_add,Nat.reduceAdd,Nat.add_one_sub_one,List.reduceReplicate,cons_append,List.nil_append,Nat.zero_lt_succ,getElem?_pos,getElem_cons_zero,c3,qi,gn3,set_cons_succ,set_cons_zero];refine zy hL (by omega) (by omega) (by omega) λw G1 w1 w2 L1 E1=>?_
 try simp
 rw [q1];clear q1;refine QS λnx2 q2=>?_;by_cases k0:w<2
 ·simp only [zM,tb3,o3,v3,length_cons,length_nil,Nat.zero_add,Nat.reduceAdd,Nat.reduceLT,getElem?_pos,getElem_cons_succ,getElem_cons_zero,c3,iB,k0,decide_true,↓reduceIte,qZ,cb3,qb,Nat.zero_lt_succ,qi];exact ⟨a,n+1,rfl,L1,by omega,λr c b x y G2 D L2' E2=>h _ G2 D (Nat.zero_le _) (L2'.mono (by omega)) (E1.trans E2)⟩
 simp only [zM,tb3,o3,v3,c3,iB,getElem?_cons_zero,getElem?_cons_succ,k0,decide_false,Bool.false_eq_true,if_false,qH];rw [q2];clear q2;refine QS λnx3 q3=>?_;by_cases k1:w=2
 ·subst k1;simp only [zM,tb3,o3,v3,length_cons,length_nil,Nat.zero_add,Nat.reduceAdd,Nat.reduceLT,getElem?_pos,getElem_cons_succ,getElem_cons_zero,c3,zV,jF,decide_true,Bool.false_eq_true,↓reduceIte,qZ,cb3,qb,Nat.zero_lt_succ,qi];exact ⟨a,n+1,rfl,L1,by omega,λr c b p G2 D L2' E2=>h _ G2 D (Nat.zero_le _) (L2'.mono (by omega)) (E1.trans E2)⟩
 simp only [zM,tb3,o3,v3,c3,zV,jF,getElem?_cons_zero,getElem?_cons_succ,k1,decide_false,Bool.false_eq_true,if_false,qH];rw [q3];clear q3;refine QS λnx4 q4=>?_;by_cases k2:w=3
 ·subst k2;simp only [zM,tb3,o3,v3,length_cons,length_nil,Nat.zero_add,Nat.reduceAdd,Nat.reduceLT,getElem?_pos,getElem_cons_succ,getElem_cons_zero,c3,zV,jF,decide_true,Bool.false_eq_true,↓reduceIte,qZ,cb3,qb,Nat.zero_lt_succ,qi];refine ⟨a,n+1,4,rfl,L1,by omega,by omega,by omega,λhh l ms G2 h1 h2 ok L2' E2=>h _ G2 ⟨ok,?_,?_,?_⟩ (Nat.zero_le _) (L2'.mono (by omega)) (E1.trans E2)⟩
  ·have:=RG (n:=hh) (k:=4) (by omega);show (2:Int) ^ hh<=16;omega
  ·have:=RG (n:=l) (k:=4) (by omega);show (2:Int) ^ l<=16;omega
  ·have:=RG ok.2.2.1;show (2:Int) ^ ms.length<=32;omega
 simp only [zM,tb3,o3,v3,c3,zV,jF,getElem?_cons_zero,getElem?_cons_succ,k2,decide_false,Bool.false_eq_true,if_false,qH];rw [q4];clear q4;refine QS λnx5 q5=>?_;by_cases k3:w=4
 ·subst k3;simp only [zM,tb3,o3,v3,length_cons,length_nil,Nat.zero_add,Nat.reduceAdd,Nat.reduceLT,getElem?_pos,getElem_cons_succ,getElem_cons_zero,c3,zV,jF,decide_true,Bool.false_eq_true,↓reduceIte,qZ,cb3,qb,Nat.zero_lt_succ,qi];exact ⟨a,n+1,rfl,L1,by omega,λb cells r c G2 C D eR eC L2' E2=>h _ G2 D (Nat.zero_le _) (L2'.mono (by omega)) (E1.trans E2)⟩
 simp only [zM,tb3,o3,v3,c3,zV,jF,getElem?_cons_zero,getElem?_cons_succ,k3,decide_false,Bool.false_eq_true,if_false,qH];rw [q5];clear q5;refine QS λnx6 q6=>?_;by_cases k4:w=5
 ·subst k4;simp only [zM,tb3,o3,v3,length_cons,length_nil,Nat.zero_add,Nat.reduceAdd,Nat.reduceLT,getElem?_pos,getElem_cons_succ,getElem_cons_zero,c3,zV,jF,decide_true,Bool.false_eq_true,↓reduceIte,qK,zg,zB,qb,cb3,Nat.zero_lt_succ,qi,QM,ne_eq,sizeLine_eq,Nat.reduceLeDiff,gn3,QQ,set_cons_succ,set_cons_zero,UZ,bm3,Nat.lt_add_one,getL,gu,Option.isSome_some,KG,cons_append,List.nil_append,qZ,true_and];refine zy L1 (by omega) (by omega) (by omega) λx G2 x1 x2 L2' E2=>?_;have I:=qdY x1 x2
  try simp
  refine ⟨a,n+1+1,rfl,L2',by omega,λd G3 Dd dd L3' E3=>?_⟩
  try simp
  refine ⟨a,n+1+1+300,rfl,L3',by omega,λe G4 De de L4 E4=>?_⟩
  try simp
  intro p hp;have hpa:=L4.ne hp;refine zy (((L4.new hpa).new hpa).new hpa) (by omega) (by omega) (by omega) λk G5 k1 k2 L5 E5=>?_;have g5:=E5 p _ hpa qB;have EE:Ext a G G5:=(E1.trans E2).trans ((E3.trans E4).trans (Ext.trans (λb o hb e=>by
   have hbp:b≠p:=by rintro rfl;rw [hp] at e;cases e
   rw [jc hbp,jc hbp,jc hbp];exact e) E5))
  have P1:∃ d':Dl,(Dl.joined (.joined (.skew (1+x) 1 2 1 1) (.table 2 [[1,0]])) d).t=d'.t/\Dr d' 16 16 32/\d'.dep<=2:=⟨_,rfl,(I.join Dd (by decide) (by decide) (by decide)).mono (by decide) (by decide) (by decide),by simp [Dl.dep,dd]⟩
  have P2:∃ d':Dl,(Dl.joined e (.joined (.skew (1+x) 1 2 1 1) (.table 2 [[1,0]]))).t=d'.t/\Dr d' 16 16 32/\d'.dep<=2:=⟨_,rfl,(De.join I (by decide) (by decide) (by decide)).mono (by decide) (by decide) (by decide),by simp [Dl.dep,de]⟩
  have P3:∃ d':Dl,(Dl.joined (.skew 8 1 3 1 1) (.rests 2 16 5 7)).t=d'.t/\Dr d' 16 16 32/\d'.dep<=2:=⟨_,rfl,qrB.mono (by decide) (by decide) (by decide),by simp [Dl.dep]⟩
  have P4:∃ d':Dl,(Dl.joined (.rests 1 8 3 4) (.skew 16 2 5 2 1)).t=d'.t/\Dr d' 16 16 32/\d'.dep<=2:=⟨_,rfl,qrn.mono (by decide) (by decide) (by decide),by simp [Dl.dep]⟩
  obtain ⟨t,ht,d',rfl,D',dl⟩:=qn5 k1 k2 (P:=λt=>∃ d':Dl,t=d'.t/\Dr d' 16 16 32/\d'.dep<=2) P1 P2 P3 P4;have hg:getL G5 p=some [(Dl.joined (.joined (.skew (1+x) 1 2 1 1) (.table 2 [[1,0]])) d).t,(Dl.joined e (.joined (.skew (1+x) 1 2 1 1) (.table 2 [[1,0]]))).t,(Dl.joined (.skew 8 1 3 1 1) (.rests 2 16 5 7)).t,(Dl.joined (.rests 1 8 3 4) (.skew 16 2 5 2 1)).t]:=by
   unfold getL;rw [g5];rfl
  rw [L3.ixR,hg];simp only [ht];exact h d' G5 D' dl (L5.mono (by omega)) EE
 ·simp only [zM,tb3,o3,v3,c3,zV,jF,getElem?_cons_zero,getElem?_cons_succ,k4,decide_false,Bool.false_eq_true,if_false,qH];rw [q6];simp only [qZ,zB,qb,c3,cb3,v3,length_cons,length_nil,Nat.zero_add,Nat.reduceAdd,Nat.zero_lt_succ,getElem?_pos,getElem_cons_zero,qi,sizeLine_eq,Nat.reduceLeDiff,true_and];refine ⟨a,n+1,rfl,L1,by omega,λd G3 Dd dd L3' E3=>?_⟩;refine ⟨a,n+1+300,rfl,L3',by omega,λe G4 De de L4 E4=>?_⟩
  try simp
  exact h (.joined d e) G4 ((Dd.join De (by decide) (by decide) (by decide)).mono (by decide) (by decide) (by decide)) (by simp [Dl.dep];omega) (L4.mono (by omega)) (E1.trans (E3.trans E4))
def _root_.L3.Dps.append {G:Gp}:∀ {xs ys:List T} {ds es:List PyData},Dps G xs ds->Dps G ys es->Dps G (xs++ys) (ds++es)
 |_,_,_,_,.nil,b=>b
 |_,_,_,_,.cons a t,b=>.cons a (L3.Dps.append t b)
def _root_.L3.Dps.take {G:Gp}:∀ {xs:List T} {ds:List PyData} (i:Nat),Dps G xs ds->Dps G (xs.take i) (ds.take i)
 |_,_,0,_=>.nil
 |_,_,_+1,.nil=>.nil
 |_,_,i+1,.cons a t=>.cons a (L3.Dps.take i t)
def _root_.L3.Dps.drop {G:Gp}:∀ {xs:List T} {ds:List PyData} (i:Nat),Dps G xs ds->Dps G (xs.drop i) (ds.drop i)
 |_,_,0,h=>h
 |_,_,_+1,.nil=>.nil
 |_,_,i+1,.cons a t=>L3.Dps.drop i t
def dn (cs:List (Int×Int)):List Int:=cs.map (·.1)
end Bk
namespace Pu
open PySem L2 L3
def cif {α:Type} (P:Prop) (a b:α):α:=@ite α P (Classical.propDecidable P) a b
def zS {α:Type} {P:Prop} {a b:α} (h:P):cif P a b=a:=@if_pos P (Classical.propDecidable P) h α a b
def EH {α:Type} {P:Prop} {a b:α} (h:¬ P):cif P a b=b:=@if_neg P (Classical.propDecidable P) h α a b
structure Tru (b:Bool):Prop where
 h:b=true
mutual
inductive Dq (G:Gp):T->PyData->Prop
 |non:Dq G .non .none
 |bl (b:Bool):Dq G (.bl b) (.bool b)
 |int (i:Int):Dq G (.int i) (.int i)
 |str (x:Str):Dq G (.str x) (.str x)
 |tup {xs:List T} {ds:List PyData}:Dqs G xs ds->Dq G (.tup xs) (.tuple ds)
 |lst {p:Addr} {xs:List T} {ds:List PyData}:G p=some (.lst xs)->Dqs G xs ds->Dq G (.ref p) (.list ds)
inductive Dqs (G:Gp):List T->List PyData->Prop
 |nil:Dqs G [] []
 |cons {x:T} {d:PyData} {xs:List T} {ds:List PyData}:Dq G x d->Dqs G xs ds->Dqs G (x::xs) (d::ds)
end
mutual
def Dq.up {G G':Gp} (e:Ex G G'):∀ {x:T} {d:PyData},Dq G x d->Dq G' x d
 |_,_,.non=>.non
 |_,_,.bl b=>.bl b
 |_,_,.int i=>.int i
 |_,_,.str x=>.str x
 |_,_,.tup h=>.tup (Dqs.up e h)
 |_,_,.lst h1 h2=>.lst (e _ _ h1) (Dqs.up e h2)
def Dqs.up {G G':Gp} (e:Ex G G'):∀ {x:List T} {d:List PyData},Dqs G x d->Dqs G' x d
 |_,_,.nil=>.nil
 |_,_,.cons a b=>.cons (Dq.up e a) (Dqs.up e b)
end
def zC {G:Gp} {p:Addr} {xs:List T} (h:G p=some (.lst xs)):getL G p=some xs:=by unfold getL;rw [h]
mutual
def Dq.dp {G:Gp}:∀ {x:T} {d:PyData},Dq G x d->Dp G x d
 |_,_,.non=>.non
 |_,_,.bl b=>.bl b
 |_,_,.int i=>.int i
 |_,_,.str x=>.str x
 |_,_,.tup h=>.tup (Dqs.dp h)
 |_,_,.lst h1 h2=>.lst (zC h1) (Dqs.dp h2)
def Dqs.dp {G:Gp}:∀ {x:List T} {d:List PyData},Dqs G x d->Dps G x d
 |_,_,.nil=>.nil
 |_,_,.cons a b=>.cons (Dq.dp a) (Dqs.dp b)
end
def Dqs.length {G:Gp}:∀ {xs:List T} {ds:List PyData},Dqs G xs ds->xs.length=ds.length
 |_,_,.nil=>rfl
 |_,_,.cons _ b=>by simp [Dqs.length b]
def Dqs.get {G:Gp}:∀ {xs:List T} {ds:List PyData} {i:Nat} {d:PyData},Dqs G xs ds->ds[i]?=some d->∃ x,xs[i]?=some x/\Dq G x d
 |_,_,_,_,.nil,e=>by simp at e
 |_,_,0,_,.cons r _,e=>by simp at e;subst e;exact ⟨_,rfl,r⟩
 |_,_,i+1,d,.cons _ t,e=>by
  obtain ⟨u,h1,h2⟩:=Dqs.get (i:=i) (d:=d) t (by simpa using e);exact ⟨u,by simpa using h1,h2⟩
def Dqs.append {G:Gp}:∀ {xs:List T} {ds:List PyData} {ys:List T} {es:List PyData},Dqs G xs ds->Dqs G ys es->Dqs G (xs++ys) (ds++es)
 |_,_,_,_,.nil,h=>h
 |_,_,_,_,.cons a b,h=>.cons a (Dqs.append b h)
def Dqs.drop {G:Gp}:∀ {xs:List T} {ds:List PyData} (n:Nat),Dqs G xs ds->Dqs G (xs.drop n) (ds.drop n)
 |_,_,0,h=>h
 |_,_,_+1,.nil=>.nil
 |_,_,n+1,.cons _ b=>Dqs.drop n b
def Dqs.take {G:Gp}:∀ {xs:List T} {ds:List PyData} (n:Nat),Dqs G xs ds->Dqs G (xs.take n) (ds.take n)
 |_,_,0,h=>by simp;exact .nil
 |_,_,_+1,.nil=>.nil
 |_,_,n+1,.cons a b=>.cons a (Dqs.take n b)
def Dqs.ints {G:Gp}:∀ {ns:List Int} {xs:List T},Dqs G xs (ns.map PyData.int)->xs=ns.map T.int
 |[],_,.nil=>rfl
 |n::ns,_,.cons a b=>by cases a;rw [Dqs.ints b];rfl
def Dqs.ofInts {G:Gp}:∀ (ns:List Int),Dqs G (ns.map T.int) (ns.map PyData.int)
 |[]=>.nil
 |n::r=>.cons (.int n) (Dqs.ofInts r)
def rs (D:Addr->Prop) (G:Gp):Gp:=λb=>cif (D b) none (G b)
def qM {D:Addr->Prop} {G:Gp} {b:Addr} {o:O} (h:rs D G b=some o):¬ D b/\G b=some o:=by
 unfold rs cif at h;split at h
 ·cases h
 ·rename_i n;exact ⟨n,h⟩
def QP {D:Addr->Prop} {G:Gp} {b:Addr} (n:¬ D b):rs D G b=G b:=by unfold rs;exact EH n
def WG {D:Addr->Prop} {G:Gp}:Ex (rs D G) G:=λb o h=>(qM h).2
def JV {D:Addr->Prop} {G G':Gp} (e:Ex G G'):Ex (rs D G) (rs D G'):=λb o h=>by
 obtain ⟨n,h⟩:=qM h;rw [QP n];exact e _ _ h
def QW {D D':Addr->Prop} {G:Gp} (h:∀ b,D' b->D b):Ex (rs D G) (rs D' G):=λb o e=>by
 obtain ⟨n,e⟩:=qM e;rw [QP λz=>n (h b z)];exact e
def Dom (D:Addr->Prop) (G:Gp):Prop:=∀ b,D b->G b≠none
def Dom.up {D:Addr->Prop} {G G':Gp} (h:Dom D G) (e:Ex G G'):Dom D G':=λb d z=>by
 cases g:G b with
 |none=>exact h b d g
 |some o=>rw [e _ _ g] at z;cases z
def ql6 {D:Addr->Prop} {G:Gp} {p:Addr} {o:O} (hd:Dom D G) (hp:G p=none):rs D (gu G p o) p=some o:=by
 rw [QP λz=>hd p z hp,qB]
inductive Sl where
 |un|sh (d:PyData)|ow (ds:List PyData)|dc (kvs:List (Int×PyData))
abbrev Rho:=List Sl
def Sl.d:Sl->Option PyData
 |.un=>none|.sh d=>some d|.ow ds=>some (.list ds)|.dc _=>none
def vw (ρ:Rho) (i:Nat):Option PyData:=(ρ[i]?).bind Sl.d
def C2 (fv:List Nat) (D:Addr->Prop) (G:Gp) (τ:St3) (ρ:Rho):Prop:=∀ i∈fv,∀ d,vw ρ i=some d->∃ t,τ[i]?=some (some t)/\Dq (rs D G) t d
def C2.up {fv:List Nat} {D:Addr->Prop} {G G':Gp} {τ:St3} {ρ:Rho} (h:C2 fv D G τ ρ) (e:Ex G G'):C2 fv D G' τ ρ:=λi hi d hd=>
 let ⟨t,a,b⟩:=h i hi d hd;⟨t,a,b.up (JV e)⟩
def C2.l {fv gv:List Nat} {D:Addr->Prop} {G:Gp} {τ:St3} {ρ:Rho} (h:C2 (fv++gv) D G τ ρ):C2 fv D G τ ρ:=λi hi=>h i (by simp [hi])
def C2.r {fv gv:List Nat} {D:Addr->Prop} {G:Gp} {τ:St3} {ρ:Rho} (h:C2 (fv++gv) D G τ ρ):C2 gv D G τ ρ:=λi hi=>h i (by simp [hi])
def qdu:PyData->Bool
 |.none=>true|.bool _=>true|.int _=>true|.str _=>true|_=>false
def Nw (D:Addr->Prop) (G G':Gp) (x:T) (d:PyData):Prop:=qdu d=true\/∃ p xs ds,x=.ref p/\d=.list ds/\G p=none/\G' p=some (.lst xs)/\Dqs (rs (λb=>D b\/b=p) G') xs ds
def Nw.back {D:Addr->Prop} {G0 G G':Gp} {x:T} {d:PyData} (h:Nw D G G' x d) (e:Ex G0 G):Nw D G0 G' x d:=by
 rcases h with h|⟨p,xs,ds,a,b,c,r⟩
 ·exact .inl h
 refine .inr ⟨p,xs,ds,a,b,?_,r⟩;cases z:G0 p with
 |none=>rfl
 |some o=>rw [e _ _ z] at c;cases c
structure PuE (t:TE3) where
 f:Rho->Option PyData
 fv:List Nat
 nw:Bool
 ok:∀ {D τ ρ G} {q:Q3} {d},C2 fv D G τ ρ->Dom D G->f ρ=some d->(∀ x G',Ex G G'->Dq (rs D G') x d->(nw=true->Nw D G G' x d)->q x G')->t τ G q
structure PuC (t:TT3) where
 f:Rho->Option Bool
 fv:List Nat
 ok:∀ {D τ ρ G} {q:Bool->Gp->Prop} {k},C2 fv D G τ ρ->Dom D G->f ρ=some k->(∀ G',Ex G G'->q k G')->t τ G q
structure PuA (t:TA3) where
 f:Rho->Option (List PyData)
 fv:List Nat
 n:Nat
 ln:∀ {ρ d},f ρ=some d->d.length=n
 ok:∀ {D τ ρ G} {q:List T->Gp->Prop} {d},C2 fv D G τ ρ->Dom D G->f ρ=some d->(∀ x G',Ex G G'->Dqs (rs D G') x d->q x G')->t τ G q
structure PuO (t:TO3) where
 f:Rho->Option (Option Int)
 fv:List Nat
 ok:∀ {D τ ρ G} {q:Option Int->Gp->Prop} {k},C2 fv D G τ ρ->Dom D G->f ρ=some k->(∀ G',Ex G G'->q k G')->t τ G q
structure PuI (t:TI3) where
 f:Rho->Option (List PyData)
 fv:List Nat
 /-- numbers alone -/
 nm:Bool
 ok:∀ {D τ ρ G} {r:List T->(Gp->Prop)->Gp->Prop} {ds},C2 fv D G τ ρ->Dom D G->f ρ=some ds ->
  (∀ items stay G',Ex G G'->Dqs (rs D G') items ds->(∀ G'',(nm=true\/Ex (rs D G') G'')->stay G'')->(nm=true->∃ ns:List Int,ds=ns.map PyData.int)->r items stay G')->t τ G r
structure OpD (r:R3) where
 f:PyData->PyData->Option PyData
 nw:Bool
 ok:∀ {D G x y d e v} {q:Q3},Dq (rs D G) x d->Dq (rs D G) y e->Dom D G->f d e=some v->(∀ z G',Ex G G'->Dq (rs D G') z v->(nw=true->Nw D G G' z v)->q z G')->r x y G q
structure FnD (r:List T->Gp->Q3->Prop) where
 f:List PyData->Option PyData
 nw:Bool
 ok:∀ {D G xs ds v} {q:Q3},Dqs (rs D G) xs ds->Dom D G->f ds=some v->(∀ z G',Ex G G'->Dq (rs D G') z v->(nw=true->Nw D G G' z v)->q z G')->r xs G q
def bV (i:Nat):PuE (v3 i):=⟨λρ=>vw ρ i,[i],false,λhv hd hf k=>by
 obtain ⟨t,e,h⟩:=hv i (by simp) _ hf;unfold v3;rw [e];exact k t _ Ex.refl h (λz=>by cases z)⟩
def qE (i:Int):PuE (c3 (.int i)):=⟨λ_=>some (.int i),[],false,λhv hd hf k=>by cases hf;exact k _ _ Ex.refl (.int i) (λz=>by cases z)⟩
def bBl (i:Bool):PuE (c3 (.bl i)):=⟨λ_=>some (.bool i),[],false,λhv hd hf k=>by cases hf;exact k _ _ Ex.refl (.bl i) (λz=>by cases z)⟩
def jB (i:Str):PuE (c3 (.str i)):=⟨λ_=>some (.str i),[],false,λhv hd hf k=>by cases hf;exact k _ _ Ex.refl (.str i) (λz=>by cases z)⟩
def bO {r:R3} {ta tb:TE3} (R:OpD r) (a:PuE ta) (b:PuE tb):PuE (o3 r ta tb):=
 ⟨λρ=>(a.f ρ).bind λx=>(b.f ρ).bind λy=>R.f x y,a.fv++b.fv,R.nw,λhv hd hf k=>by
  obtain ⟨x,e1,hf⟩:=obb hf;obtain ⟨y,e2,hf⟩:=obb hf;exact a.ok hv.l hd e1 λx' G1 E1 D1 _=>b.ok (hv.r.up E1) (hd.up E1) e2 λy' G2 E2 D2 _=>R.ok (D1.up (JV E2)) D2 ((hd.up E1).up E2) hf λz G3 E3 D3 N3=>k z G3 ((E1.trans E2).trans E3) D3 λh=>(N3 h).back (E1.trans E2)⟩
def qz:PuA qi:=⟨λ_=>some [],[],0,(λh=>by cases h;rfl),λhv hd hf k=>by cases hf;exact k _ _ Ex.refl .nil⟩
def qf {ta:TE3} {tr:TA3} (a:PuE ta) (r:PuA tr):PuA (qb ta tr):=
 ⟨λρ=>(a.f ρ).bind λx=>(r.f ρ).bind λxs=>some (x::xs),a.fv++r.fv,r.n+1,(λhf=>by
  obtain ⟨x,e1,hf⟩:=obb hf;obtain ⟨xs,e2,hf⟩:=obb hf;cases hf;simp [r.ln e2]),λhv hd hf k=>by
  obtain ⟨x,e1,hf⟩:=obb hf;obtain ⟨xs,e2,hf⟩:=obb hf;cases hf;exact a.ok hv.l hd e1 λx' G1 E1 D1 _=>r.ok (hv.r.up E1) (hd.up E1) e2 λy' G2 E2 D2=>k _ G2 (E1.trans E2) (.cons (D1.up (JV E2)) D2)⟩
def few {n:Nat} (h:Tru (Nat.ble n 1000)):n<=sizeLine:=Nat.le_trans (Nat.le_of_ble_eq_true h.h) (by rw [sizeLine_eq];omega)
def JU {t:TA3} (a:PuA t) (hn:Tru (Nat.ble a.n 1000)):PuE (zB t):=⟨λρ=>(a.f ρ).map .tuple,a.fv,false,λhv hd hf k=>by
 obtain ⟨xs,e1,rfl⟩:=Option.map_eq_some_iff.mp hf;exact a.ok hv hd e1 λx G1 E1 D1=>⟨by rw [D1.length,a.ln e1];exact few hn,k _ _ E1 (.tup D1) (λz=>by cases z)⟩⟩
def CT {D:Addr->Prop} {G:Gp} {p:Addr} {xs:List T} {ds:List PyData} (hp:G p=none) (h:Dqs (rs D G) xs ds):Nw D G (gu G p (.lst xs)) (.ref p) (.list ds):=
 .inr ⟨p,xs,ds,rfl,rfl,hp,qB,h.up λb o e=>by
  obtain ⟨n,e⟩:=qM e;have:b≠p:=by rintro rfl;rw [hp] at e;cases e
  rw [QP (by rintro (z|z);exact n z;exact this z),jc this];exact e⟩
def YO {D:Addr->Prop} {G:Gp} {p:Addr} {xs:List T} {ds:List PyData} (hd:Dom D G) (hp:G p=none) (h:Dqs (rs D G) xs ds):Dq (rs D (gu G p (.lst xs))) (.ref p) (.list ds):=
 .lst (ql6 hd hp) (h.up (JV (jL hp)))
def LL {t:TA3} (a:PuA t) (hn:Tru (Nat.ble a.n 1000)):PuE (QQ t):=⟨λρ=>(a.f ρ).map .list,a.fv,true,λhv hd hf k=>by
 obtain ⟨xs,e1,rfl⟩:=Option.map_eq_some_iff.mp hf;exact a.ok hv hd e1 λx G1 E1 D1=>⟨by rw [D1.length,a.ln e1];exact few hn,λp hp=>k _ _ (E1.trans (jL hp)) (YO (hd.up E1) hp D1) λ_=>(CT hp D1).back E1⟩⟩
def qx {r:List T->Gp->Q3->Prop} {t:TA3} (R:FnD r) (a:PuA t):PuE (cb3 r t):=
 ⟨λρ=>(a.f ρ).bind R.f,a.fv,R.nw,λhv hd hf k=>by
  obtain ⟨x,e1,hf⟩:=obb hf;exact a.ok hv hd e1 λx' G1 E1 D1=>R.ok D1 (hd.up E1) hf λz G3 E3 D3 N3=>k z G3 (E1.trans E3) D3 λh=>(N3 h).back E1⟩
def asB:PyData->Option Bool
 |.bool b=>some b
 |_=>none
def asI:PyData->Option Int
 |.int b=>some b
 |_=>none
def LP {d:PyData} {b:Bool} (h:asB d=some b):d=.bool b:=by cases d<;>simp [asB] at h;subst h;rfl
def SK {d:PyData} {b:Int} (h:asI d=some b):d=.int b:=by cases d<;>simp [asI] at h;subst h;rfl
def bTb {t:TE3} (a:PuE t):PuC (tb3 t):=⟨λρ=>(a.f ρ).bind asB,a.fv,λhv hd hf k=>by
 obtain ⟨x,e1,hf⟩:=obb hf;have:=LP hf;subst this;exact a.ok hv hd e1 λx' G1 E1 D1 _=>by cases D1;exact k G1 E1⟩
def bOr {t u:TT3} (a:PuC t) (b:PuC u):PuC (or3 t u):=⟨λρ=>(a.f ρ).bind λk=>if k then some true else b.f ρ,a.fv++b.fv,λhv hd hf k=>by
 obtain ⟨x,e1,hf⟩:=obb hf;refine a.ok hv.l hd e1 λG1 E1=>?_;cases x with
 |false=>exact b.ok (hv.r.up E1) (hd.up E1) hf λG2 E2=>k G2 (E1.trans E2)
 |true=>cases hf;exact k G1 E1⟩
def MK {t:TT3} (a:PuC t):PuC (CQ t):=⟨λρ=>(a.f ρ).map (! ·),a.fv,λhv hd hf k=>by
 obtain ⟨x,e1,hf⟩:=Option.map_eq_some_iff.mp hf;subst hf;exact a.ok hv hd e1 λG1 E1=>k G1 E1⟩
def bTt:PuC tt3:=⟨λ_=>some true,[],λhv hd hf k=>by cases hf;exact k _ Ex.refl⟩
def RA {ta tb:TE3} (a:PuE ta) (b:PuE tb):PuE (JF ta tb):=⟨λρ=>((a.f ρ).bind asB).bind λk=>if k then b.f ρ else some (.bool false),a.fv++b.fv,false,λhv hd hf k=>by
 obtain ⟨x,e1,hf⟩:=obb hf;obtain ⟨y,e1,e2⟩:=obb e1;have:=LP e2;subst this;refine a.ok hv.l hd e1 λx' G1 E1 D1 _=>?_;cases D1;cases x with
 |true=>exact b.ok (hv.r.up E1) (hd.up E1) hf λz G2 E2 D2 _=>k z G2 (E1.trans E2) D2 (λz=>by cases z)
 |false=>cases hf;exact k _ G1 E1 (.bl false) (λz=>by cases z)⟩
def qlc {ta:TE3} (a:PuE ta):PuE (C7 ta):=⟨λρ=>((a.f ρ).bind asB).map λk=>.bool (!k),a.fv,false,λhv hd hf k=>by
 obtain ⟨x,e1,hf⟩:=Option.map_eq_some_iff.mp hf;obtain ⟨y,e1,e2⟩:=obb e1;have:=LP e2;subst this;subst hf;refine a.ok hv hd e1 λx' G1 E1 D1 _=>?_;cases D1;exact k _ G1 E1 (.bl _) (λz=>by cases z)⟩
def bIf {t:TT3} {ta tb:TE3} (c:PuC t) (a:PuE ta) (b:PuE tb):PuE (if3 t ta tb):=⟨λρ=>(c.f ρ).bind λk=>if k then a.f ρ else b.f ρ,c.fv++(a.fv++b.fv),false,λhv hd hf k=>by
 obtain ⟨x,e1,hf⟩:=obb hf;refine c.ok hv.l hd e1 λG1 E1=>?_;cases x with
 |true=>exact a.ok (hv.r.l.up E1) (hd.up E1) hf λz G2 E2 D2 _=>k z G2 (E1.trans E2) D2 (λz=>by cases z)
 |false=>exact b.ok (hv.r.r.up E1) (hd.up E1) hf λz G2 E2 D2 _=>k z G2 (E1.trans E2) D2 (λz=>by cases z)⟩
def bCh {r r':R3} {ta tb tc:TE3} (R:OpD r) (R':OpD r') (a:PuE ta) (b:PuE tb) (c:PuE tc):PuE (ch3 r r' ta tb tc):=
 ⟨λρ=>(a.f ρ).bind λx=>(b.f ρ).bind λy=>((R.f x y).bind asB).bind λk=>if k then (c.f ρ).bind λz=>R'.f y z else some (.bool false),a.fv++(b.fv++c.fv),false,λ{D τ ρ G q d} hv hd hf k=>by
  obtain ⟨x,e1,hf⟩:=obb hf;obtain ⟨y,e2,hf⟩:=obb hf;obtain ⟨j,e3,hf⟩:=obb hf;obtain ⟨v,e3,e4⟩:=obb e3;have:=LP e4;subst this;refine a.ok hv.l hd e1 λx' G1 E1 D1 _=>b.ok (hv.r.l.up E1) (hd.up E1) e2 λy' G2 E2 D2 _=>R.ok (D1.up (JV E2)) D2 ((hd.up E1).up E2) e3 λz G3 E3 D3 _=>?_;cases D3;have E:=(E1.trans E2).trans E3;cases j with
  |true=>
   obtain ⟨w,e5,hf⟩:=obb hf;exact c.ok (hv.r.r.up E) (hd.up E) e5 λw' G4 E4 D4 _=>R'.ok ((D2.up (JV E3)).up (JV E4)) D4 ((hd.up E).up E4) hf λu G5 E5 D5 _=>k u G5 ((E.trans E4).trans E5) D5 (λz=>by cases z)
  |false=>cases hf;exact k _ G3 E (.bl false) (λz=>by cases z)⟩
def qqT {ta:TE3} (a:PuE ta):PuE (bl3 ta):=⟨λρ=>((a.f ρ).bind asI).map λi=>.int (Builtin.Int.intBits i),a.fv,false,λhv hd hf k=>by
 obtain ⟨x,e1,hf⟩:=Option.map_eq_some_iff.mp hf;obtain ⟨y,e1,e2⟩:=obb e1;have:=SK e2;subst this;subst hf;refine a.ok hv hd e1 λx' G1 E1 D1 _=>?_;cases D1;exact k _ G1 E1 (.int _) (λz=>by cases z)⟩
def tyD:PyData->Option String
 |.none=>some "NoneType" |.bool _=>some "bool" |.int _=>some "int" |.str _=>some "str" |.tuple _=>some "tuple" |.list _=>some "list" |.dict _=>none
def qfX {ta:TE3} (g:String->Bool) (a:PuE ta):PuE (E9 g ta):=⟨λρ=>(a.f ρ).bind λd=>(tyD d).map λt=>.bool (g t),a.fv,false,λhv hd hf k=>by
 obtain ⟨x,e1,hf⟩:=obb hf;obtain ⟨y,e2,hf⟩:=Option.map_eq_some_iff.mp hf;subst hf;refine a.ok hv hd e1 λx' G1 E1 D1 _=>?_;have:tyT G1 x'=some y:=by
  cases D1 with
  |lst h _=>have g:=zC (qM h).2;simp [tyT,g];simpa [tyD] using e2
  |_=>simpa [tyT,tyD] using e2
 simp only [this];exact k _ G1 E1 (.bl _) (λz=>by cases z)⟩
def bNp:PuO np3:=⟨λ_=>some none,[],λhv hd hf k=>by cases hf;exact k _ Ex.refl⟩
def bSp {t:TE3} (a:PuE t):PuO (sp3 t):=⟨λρ=>((a.f ρ).bind asI).map some,a.fv,λhv hd hf k=>by
 obtain ⟨x,e1,hf⟩:=Option.map_eq_some_iff.mp hf;obtain ⟨y,e1,e2⟩:=obb e1;have:=SK e2;subst this;subst hf;refine a.ok hv hd e1 λx' G1 E1 D1 _=>?_;cases D1;exact k G1 E1⟩
def Dqs.cut {G:Gp} {xs:List T} {ds:List PyData} (h:Dqs G xs ds) (lo hi:Option Int):Dqs G (UW xs lo hi) (UW ds lo hi):=by
 unfold UW;rw [h.length];exact (h.drop _).take _
def slD (d:PyData) (lo hi:Option Int):Option PyData:=match d with
 |.tuple xs=>cif (HT.sIx xs.length 0 lo=0/\HT.sIx xs.length xs.length hi=xs.length) none (some (.tuple (UW xs lo hi)))
 |.list xs=>some (.list (UW xs lo hi))
 |_=>none
def bSl {te:TE3} {tl th:TO3} (a:PuE te) (l:PuO tl) (h:PuO th):PuE (SJ te tl th):=⟨λρ=>(a.f ρ).bind λd=>(l.f ρ).bind λlo=>(h.f ρ).bind λhi=>slD d lo hi,a.fv++(l.fv++h.fv),false,λhv hd hf k=>by
 obtain ⟨d,e1,hf⟩:=obb hf;obtain ⟨lo,e2,hf⟩:=obb hf;obtain ⟨hi,e3,hf⟩:=obb hf;refine a.ok hv.l hd e1 λx' G1 E1 D1 _=>l.ok (hv.r.l.up E1) (hd.up E1) e2 λG2 E2=>h.ok (hv.r.r.up (E1.trans E2)) (hd.up (E1.trans E2)) e3 λG3 E3=>?_;have E:=(E1.trans E2).trans E3;have D3:=(D1.up (JV E2)).up (JV E3);unfold slD at hf;cases D3 with
 |tup hs=>
  simp only [cif] at hf;split at hf
  ·cases hf
  ·rename_i n;cases hf;exact ⟨by rw [hs.length];exact n,k _ _ E (.tup (hs.cut _ _)) (λz=>by cases z)⟩
 |lst g hs=>
  simp only at hf;cases hf;simp only [sl3,zC (qM g).2];intro p hp;exact k _ _ (E.trans (jL hp)) (YO (hd.up E) hp (hs.cut _ _)) (λz=>by cases z)
 |_=>simp at hf⟩
def opI (g:Int->Int->Int):OpD (iI g):=⟨λd e=>match d,e with|.int i,.int j=>some (.int (g i j))|_,_=>none,false,λ{D G x y d e v q} hx hy hd hf k=>by
 cases hx<;>try (simp at hf;done)
 cases hy<;>try (simp at hf;done)
 cases hf;exact k _ _ Ex.refl (.int _) (λz=>by cases z)⟩
def cI (C:Int->Int->Prop) (g:Int->Int->Int) (d e:PyData):Option PyData:=match d,e with|.int i,.int j=>cif (C i j) (some (.int (g i j))) none|_,_=>none
def opC (C:Int->Int->Prop) (g:Int->Int->Int):OpD (iC C g):=⟨cI C g,false,λ{D G x y d e v q} hx hy hd hf k=>by
 unfold cI at hf;cases hx<;>try (simp at hf;done)
 cases hy<;>try (simp at hf;done)
 simp only [cif] at hf;split at hf
 ·rename_i c;cases hf;exact ⟨c,k _ _ Ex.refl (.int _) (λz=>by cases z)⟩
 ·cases hf⟩
def opB (g:Int->Int->Bool):OpD (iB g):=⟨λd e=>match d,e with|.int i,.int j=>some (.bool (g i j))|_,_=>none,false,λ{D G x y d e v q} hx hy hd hf k=>by
 cases hx<;>try (simp at hf;done)
 cases hy<;>try (simp at hf;done)
 cases hf;exact k _ _ Ex.refl (.bl _) (λz=>by cases z)⟩
def qdM:PyData->PyData->Option Bool
 |.none,.none=>some true|.none,.int _=>some false|.int _,.none=>some false|.none,.bool _=>some false|.bool _,.none=>some false|.none,.str _=>some false|.str _,.none=>some false
 |.int i,.int j=>some (decide (i=j))|.bool i,.bool j=>some (decide (i=j))|.str i,.str j=>some (decide (i=j))
 |.int _,.str _=>some false|.str _,.int _=>some false|.bool _,.str _=>some false|.str _,.bool _=>some false
 |_,_=>none
def qbl {G:Gp} {x y:T} {d e:PyData} (hx:Dq G x d) (hy:Dq G y e):jF x y=qdM d e:=by
 cases hx<;>cases hy<;>rfl
def eqD (neg:Bool) (d e:PyData):Option PyData:=match qdM d e with
 |some k=>some (.bool (if neg then !k else k))
 |none=>cif (dpt d<=40/\dpt d≠0) ((QN d e).map λb=>.bool (if neg then !b else b)) none
def UG (neg:Bool):OpD (zV neg):=⟨eqD neg,false,λ{D G x y d e v q} hx hy hd hf k=>by
 unfold zV;rw [qbl hx hy];unfold eqD at hf;cases h:qdM d e with
 |some b=>rw [h] at hf;cases hf;exact k _ _ Ex.refl (.bl _) (λz=>by cases z)
 |none=>
  rw [h] at hf;simp only [cif] at hf ⊢;split at hf
  ·rename_i c;obtain ⟨b,e1,rfl⟩:=Option.map_eq_some_iff.mp hf;exact ⟨d,e,b,(hx.up WG).dp,(hy.up WG).dp,e1,c.1,c.2,k _ _ Ex.refl (.bl _) (λz=>by cases z)⟩
  ·cases hf⟩
def qn2 (neg:Bool) (d e:PyData):Option PyData:=match d,e with|.bool i,.bool j=>some (.bool (if neg then i != j else i==j))|_,_=>none
def qnC (neg:Bool):OpD (qnT neg):=⟨qn2 neg,false,λ{D G x y d e v q} hx hy hd hf k=>by
 unfold qn2 at hf;cases hx<;>try (simp at hf;done)
 cases hy<;>try (simp at hf;done)
 cases hf;exact k _ _ Ex.refl (.bl _) (λz=>by cases z)⟩
def ixD (d e:PyData):Option PyData:=match d,e with
 |.tuple xs,.int i=>atI xs i
 |.list xs,.int i=>atI xs i
 |_,_=>none
def Dqs.atI {G:Gp} {xs:List T} {ds:List PyData} {i:Int} {d:PyData} (h:Dqs G xs ds) (e:L2.atI ds i=some d):∃ x,L2.atI xs i=some x/\Dq G x d:=by
 unfold L2.atI at e ⊢;rw [h.length];obtain ⟨j,e1,e2⟩:=obb e;obtain ⟨x,hx,r⟩:=h.get e2;exact ⟨x,by rw [e1];exact hx,r⟩
def VI:OpD ix3:=⟨ixD,false,λ{D G x y d e v q} hx hy hd hf k=>by
 unfold ixD at hf;cases hx with
 |tup hs=>
  cases hy<;>try (simp at hf;done)
  obtain ⟨x,e1,r⟩:=hs.atI hf;simp only [ix3,e1];exact k _ _ Ex.refl r (λz=>by cases z)
 |lst g hs=>
  cases hy<;>try (simp at hf;done)
  obtain ⟨x,e1,r⟩:=hs.atI hf;simp only [ix3,zC (qM g).2,e1];exact k _ _ Ex.refl r (λz=>by cases z)
 |_=>simp at hf⟩
def qn4 (d e:PyData):Option PyData:=match d,e with
 |.tuple xs,.tuple ys=>cif (xs≠[]/\xs.length+ys.length<=sizeLine) (some (.tuple (xs++ys))) none
 |.list xs,.list ys=>cif (xs.length+ys.length<=sizeLine) (some (.list (xs++ys))) none
 |.int i,.int j=>some (.int (i+j))
 |_,_=>none
def qhZ:OpD QM:=⟨qn4,false,λ{D G x y d e v q} hx hy hd hf k=>by
  unfold qn4 at hf;cases hx with
  | int i => cases hy <;> try (simp at hf;done)
             cases hf;exact k _ _ Ex.refl (.int _) (λz=>by cases z)
  |tup hs=>
    cases hy<;>try (simp at hf;done)
    rename_i hs2;simp only [cif] at hf;split at hf
    · rename_i c;cases hf;refine ⟨?_,by rw [hs.length,hs2.length];exact c.2,k _ _ Ex.refl (.tup (hs.append hs2)) (λz=>by cases z)⟩;rintro rfl;cases hs;exact c.1 rfl
    · cases hf
  |lst g hs=>
    cases hy<;>try (simp at hf;done)
    rename_i g2 hs2;simp only [cif] at hf;split at hf
    · rename_i c;cases hf;simp only [QM,(qM g).2,(qM g2).2];exact ⟨by rw [hs.length,hs2.length];exact c,λp hp=>k _ _ (jL hp) (YO hd hp (hs.append hs2)) (λz=>by cases z)⟩
    · cases hf
  |_=>simp at hf⟩
def qj9:List PyData->Option PyData
 |[.tuple xs]=>some (.int xs.length)
 |[.list xs]=>some (.int xs.length)
 |_=>none
def qaM:FnD U2:=⟨qj9,false,λ{D G xs ds v q} hx hd hf k=>by
 unfold qj9 at hf;split at hf
 ·cases hx with
  |cons a b=>cases b;cases a;rename_i hs;cases hf;simp only [U2];rw [hs.length];exact k _ _ Ex.refl (.int _) (λz=>by cases z)
 ·cases hx with
  |cons a b=>cases b;cases a;rename_i g hs;cases hf;simp only [U2,zC (qM g).2];rw [hs.length];exact k _ _ Ex.refl (.int _) (λz=>by cases z)
 ·cases hf⟩
def qn0:List PyData->Option PyData
 |[.tuple xs]=>some (.tuple xs)
 |[.list xs]=>some (.tuple xs)
 |_=>none
def qlM:FnD ja:=⟨qn0,false,λ{D G xs ds v q} hx hd hf k=>by
 unfold qn0 at hf;split at hf
 ·cases hx with
  |cons a b=>cases b;cases a;rename_i hs;cases hf;exact k _ _ Ex.refl (.tup hs) (λz=>by cases z)
 ·cases hx with
  |cons a b=>cases b;cases a;rename_i g hs;cases hf;simp only [ja,zC (qM g).2];exact k _ _ Ex.refl (.tup hs) (λz=>by cases z)
 ·cases hf⟩
def qnQ:List PyData->Option PyData
 |[.tuple xs]=>some (.list xs)
 |[.list xs]=>some (.list xs)
 |_=>none
def qmH:FnD XM:=⟨qnQ,true,λ{D G xs ds v q} hx hd hf k=>by
 unfold qnQ at hf;split at hf
 ·cases hx with
  |cons a b=>cases b;cases a;rename_i hs;cases hf;exact λp hp=>k _ _ (jL hp) (YO hd hp hs) λ_=>CT hp hs
 ·cases hx with
  |cons a b=>cases b;cases a;rename_i g hs;cases hf;simp only [XM,zC (qM g).2];exact λp hp=>k _ _ (jL hp) (YO hd hp hs) λ_=>CT hp hs
 ·cases hf⟩
def qaH:List PyData->Option (List Bool)
 |[]=>some []
 |.bool i::r=>(qaH r).map (i::·)
 |_=>none
def qeG (ns:List Bool):qaH (ns.map PyData.bool)=some ns:=by
 induction ns with
 |nil=>rfl
 |cons n r ih=>simp [qaH,ih]
def qbE {G:Gp}:∀ {xs:List T} {ds:List PyData} {ns:List Bool},Dqs G xs ds->qaH ds=some ns->qfG xs=some (ns.all id)/\qn9 xs=some (ns.any id)
 |_,_,_,.nil,h=>by simp [qaH] at h;subst h;exact ⟨rfl,rfl⟩
 |_,.bool i::r,ns,.cons a b,h=>by
  simp only [qaH] at h;obtain ⟨ms,e,rfl⟩:=Option.map_eq_some_iff.mp h;obtain ⟨h1,h2⟩:=qbE b e;cases a;simp [qfG,qn9,h1,h2]
 |_,.int _::r,ns,_,h=>by simp [qaH] at h
 |_,.none::r,ns,_,h=>by simp [qaH] at h
 |_,.str _::r,ns,_,h=>by simp [qaH] at h
 |_,.list _::r,ns,_,h=>by simp [qaH] at h
 |_,.tuple _::r,ns,_,h=>by simp [qaH] at h
 |_,.dict _::r,ns,_,h=>by simp [qaH] at h
def qiZ:List PyData->Option PyData
 |[.list xs]=>(qaH xs).map λns=>.bool (ns.all id)
 |_=>none
def qhD:FnD KF:=⟨qiZ,false,λ{D G xs ds v q} hx hd hf k=>by
 unfold qiZ at hf;split at hf
 ·obtain ⟨ns,e,rfl⟩:=Option.map_eq_some_iff.mp hf;cases hx with
  |cons a b=>cases b;cases a;rename_i g hs;simp only [KF,zC (qM g).2,(qbE hs e).1];exact k _ _ Ex.refl (.bl _) (λz=>by cases z)
 ·cases hf⟩
def PSp (F:List PyData->Option PyData) (fr:Bool):Sp3:=λts G q=>∃ (D:Addr->Prop) (ds:List PyData) (d:PyData),Dqs (rs D G) ts ds/\Dom D G/\F ds=some d/\∀ x G',Ex G G'->Dq (rs D G') x d->(fr=true->Nw D G G' x d)->q x G'
def zn (F:List PyData->Option PyData) (fr:Bool):FnD (PSp F fr):=⟨F,fr,λ{D G xs ds v q} hx hd hf k=>⟨D,ds,v,hx,hd,hf,k⟩⟩
def qbc:PyData->Option (List PyData)
 |.tuple xs=>some xs
 |.list xs=>some xs
 |_=>none
def RR {t:TE3} (a:PuE t):PuI (ZR t):=⟨λρ=>(a.f ρ).bind qbc,a.fv,false,λ{D τ ρ G r ds} hv hd hf k=>by
 obtain ⟨d,e1,hf⟩:=obb hf;refine a.ok hv hd e1 λx G1 E1 D1 _=>?_;unfold qbc at hf;cases D1 with
 |tup hs=>cases hf;exact k _ _ _ E1 hs (λ_ _=>trivial) (λz=>by cases z)
 |lst g hs=>
  cases hf;simp only [zC (qM g).2];refine k _ _ _ E1 hs (λG2 h=>?_) (λz=>by cases z);rcases h with h|h
  ·cases h
  ·exact zC (h _ _ g)
 |_=>simp at hf⟩
def RJ (lo:Int) (n:Nat):List Int:=(List.range n).map λ(i:Nat)=>lo+(i:Int)
def qgb (lo:Int) (n:Nat):N5 lo n=(RJ lo n).map T.int:=by simp [N5,RJ,map_map,Function.comp_def]
def qmj:List PyData->Option (List PyData)
 |[.int j]=>cif (-(2 ^ 62)<=j/\j<2 ^ 62) (some ((RJ 0 j.toNat).map PyData.int)) none
 |[.int i,.int j]=>cif (-(2 ^ 62)<=i/\i<2 ^ 62/\-(2 ^ 62)<=j/\j<2 ^ 62) (some ((RJ i (j-i).toNat).map PyData.int)) none
 |_=>none
def qiP {t:TA3} (a:PuA t):PuI (QR t):=⟨λρ=>(a.f ρ).bind qmj,a.fv,true,λ{D τ ρ G r ds} hv hd hf k=>by
 obtain ⟨d,e1,hf⟩:=obb hf;refine a.ok hv hd e1 λx G1 E1 D1=>?_;unfold qmj at hf;split at hf
 ·unfold cif at hf;split at hf
  ·rename_i c;cases hf;cases D1 with
   |cons a b=>cases b;cases a;simp only;rw [qgb];exact ⟨c,k _ _ _ E1 (Dqs.ofInts _) (λ_ _=>trivial) λ_=>⟨_,rfl⟩⟩
  ·cases hf
 ·unfold cif at hf;split at hf
  ·rename_i c;cases hf;cases D1 with
   |cons a b=>cases b with
    |cons b c'=>cases c';cases a;cases b;simp only;rw [qgb];exact ⟨c,k _ _ _ E1 (Dqs.ofInts _) (λ_ _=>trivial) λ_=>⟨_,rfl⟩⟩
  ·cases hf
 ·cases hf⟩
def qpq (us vs:List PyData):List PyData:=(us.zip vs).map λp=>.tuple [p.1,p.2]
def Dqs.zip {G:Gp}:∀ {xs:List T} {ds:List PyData} {ys:List T} {es:List PyData},Dqs G xs ds->Dqs G ys es->Dqs G (qdn xs ys) (qpq ds es)
 |_,_,_,_,.nil,_=>by simp [qdn,qpq];exact .nil
 |_,_,_,_,.cons _ _,.nil=>by simp [qdn,qpq];exact .nil
 |_,_,_,_,.cons a b,.cons c d=>.cons (.tup (.cons a (.cons c .nil))) (Dqs.zip b d)
def qeg {G:Gp} {x:T} {d:PyData} {ds:List PyData} (h:Dq G x d) (e:qbc d=some ds):∃ us,ZS G x=some us/\Dqs G us ds:=by
 unfold qbc at e;cases h with
 |tup hs=>cases e;exact ⟨_,rfl,hs⟩
 |lst g hs=>cases e;exact ⟨_,zC g,hs⟩
 |_=>simp at e
def qf9 {G G':Gp} {x:T} {us:List T} (e:Ex G G') (h:ZS G x=some us):ZS G' x=some us:=by
 cases x with
 |tup xs=>exact h
 |ref p=>exact e.getL h
 |_=>cases h
def enD (k:Nat):List PyData->List PyData
 |[]=>[]
 |x::r=>.tuple [.int (k:Int),x]::enD (k+1) r
def Dqs.enum {G:Gp}:∀ {xs:List T} {ds:List PyData} (k:Nat),Dqs G xs ds->Dqs G (ZZ k xs) (enD k ds)
 |_,_,_,.nil=>.nil
 |_,_,k,.cons a b=>.cons (.tup (.cons (.int _) (.cons a .nil))) (Dqs.enum (k+1) b)
def qdR {t:TA3} (a:PuA t):PuI (KR t):=⟨λρ=>(a.f ρ).bind λds=>match ds with|[d]=>(qbc d).map λus=>enD 0 us|_=>none,a.fv,false,λ{D τ ρ G r ds} hv hd hf k=>by
 obtain ⟨d,e1,hf⟩:=obb hf;refine a.ok hv hd e1 λx G1 E1 D1=>?_;split at hf
 ·obtain ⟨us,e2,rfl⟩:=Option.map_eq_some_iff.mp hf;cases D1 with
  |cons a b=>
   cases b;obtain ⟨us',h1,h2⟩:=qeg a e2;simp only [qf9 WG h1];refine k _ _ _ E1 (h2.enum 0) (λG2 h=>?_) (λz=>by cases z);rcases h with h|h
   ·cases h
   ·exact qf9 h h1
 ·cases hf⟩
inductive Bd (H:Gp):List (Nat×T)->List (Nat×PyData)->Prop
 |nil:Bd H [] []
 |cons {i:Nat} {x:T} {d:PyData} {ts:List (Nat×T)} {bs:List (Nat×PyData)}:Dq H x d->Bd H ts bs->Bd H ((i,x)::ts) ((i,d)::bs)
def Bd.append {H:Gp}:∀ {ts:List (Nat×T)} {bs:List (Nat×PyData)} {us:List (Nat×T)} {cs:List (Nat×PyData)},Bd H ts bs->Bd H us cs->Bd H (ts++us) (bs++cs)
 |_,_,_,_,.nil,h=>h
 |_,_,_,_,.cons a b,h=>.cons a (Bd.append b h)
def Bd.up {H H':Gp} (e:Ex H H'):∀ {ts:List (Nat×T)} {bs:List (Nat×PyData)},Bd H ts bs->Bd H' ts bs
 |_,_,.nil=>.nil
 |_,_,.cons a b=>.cons (a.up e) (Bd.up e b)
def sets:St3->List (Nat×T)->St3
 |τ,[]=>τ
 |τ,p::r=>sets (τ.set p.1 (some p.2)) r
def YU:Rho->List (Nat×PyData)->Rho
 |ρ,[]=>ρ
 |ρ,p::r=>YU (ρ.set p.1 (.sh p.2)) r
def qas:∀ (τ:St3) (a b:List (Nat×T)),sets τ (a++b)=sets (sets τ a) b
 |τ,[],b=>rfl
 |τ,p::a,b=>by simp only [cons_append,sets];exact qas _ a b
structure PuG (g:TG3) where
 f:PyData->Option (List (Nat×PyData))
 tg:List Nat
 at':∀ {d bs},f d=some bs->∀ p∈bs,p.1∈tg
 ok:∀ {H x d bs},Dq H x d->f d=some bs->∃ ts,Bd H ts bs/\∀ τ G (q:St3->Gp->Prop),q (sets τ ts) G->g x τ G q
structure PuGs (g:C1) where
 f:List PyData->Option (List (Nat×PyData))
 tg:List Nat
 at':∀ {d bs},f d=some bs->∀ p∈bs,p.1∈tg
 ok:∀ {H x d bs},Dqs H x d->f d=some bs->∃ ts,Bd H ts bs/\∀ τ G (q:St3->Gp->Prop),q (sets τ ts) G->g x τ G q
def gN (i:Nat):PuG (gn3 i):=⟨λd=>some [(i,d)],[i],λh p hp=>by cases h;simp at hp;subst hp;simp,λhx h=>by cases h;exact ⟨_,.cons hx .nil,λτ G q hq=>hq⟩⟩
def qci:PuGs QC:=⟨λds=>match ds with|[]=>some []|_=>none,[],(λh p hp=>by split at h;cases h;cases hp;cases h),λhx h=>by
 split at h
 ·cases h;cases hx;exact ⟨[],.nil,λτ G q hq=>hq⟩
 ·cases h⟩
def Z3 {t:TG3} {u:C1} (a:PuG t) (b:PuGs u):PuGs (qG t u):=⟨λds=>match ds with|d::r=>(a.f d).bind λx=>(b.f r).map λy=>x++y|[]=>none,a.tg++b.tg,(λh p hp=>by
 split at h
 ·obtain ⟨x,e1,h⟩:=obb h;obtain ⟨y,e2,rfl⟩:=Option.map_eq_some_iff.mp h;rcases List.mem_append.mp hp with z|z
  ·exact List.mem_append.mpr (.inl (a.at' e1 p z))
  ·exact List.mem_append.mpr (.inr (b.at' e2 p z))
 ·cases h),λhx h=>by
 split at h
 ·obtain ⟨x,e1,h⟩:=obb h;obtain ⟨y,e2,rfl⟩:=Option.map_eq_some_iff.mp h;cases hx with
  |cons hx hr=>
   obtain ⟨ts,b1,k1⟩:=a.ok hx e1;obtain ⟨us,b2,k2⟩:=b.ok hr e2;refine ⟨ts++us,b1.append b2,λτ G q hq=>k1 τ G _ (k2 _ G q ?_)⟩;rw [← qas];exact hq
 ·cases h⟩
def qdl {u:C1} (n:Nat) (b:PuGs u):PuG (ZI n u):=⟨λd=>match d with|.tuple ds=>if ds.length=n then b.f ds else none|_=>none,b.tg,(λh p hp=>by
 split at h
 ·split at h
  ·exact b.at' h p hp
  ·cases h
 ·cases h),λhx h=>by
 split at h
 ·split at h
  ·rename_i c;cases hx with
   |tup hs=>
    obtain ⟨ts,b1,k1⟩:=b.ok hs h;exact ⟨ts,b1,λτ G q hq=>⟨by rw [hs.length];exact c,k1 τ G q hq⟩⟩
  ·cases h
 ·cases h⟩
structure VA (D:Addr->Prop) (G:Gp) (τ:St3) (ρ:Rho):Prop where
 len:ρ.length=τ.length
 vw:∀ i d,vw ρ i=some d->∃ t,τ[i]?=some (some t)/\Dq (rs D G) t d
def VA.view {D:Addr->Prop} {G:Gp} {τ:St3} {ρ:Rho} (h:VA D G τ ρ) (fv:List Nat):C2 fv D G τ ρ:=λi _ d e=>h.vw i d e
def VA.upx {D:Addr->Prop} {G G':Gp} {τ:St3} {ρ:Rho} (h:VA D G τ ρ) (e:Ex (rs D G) (rs D G')):VA D G' τ ρ:=⟨h.len,λi d hd=>let ⟨t,a,b⟩:=h.vw i d hd;⟨t,a,b.up e⟩⟩
def VA.up {D:Addr->Prop} {G G':Gp} {τ:St3} {ρ:Rho} (h:VA D G τ ρ) (e:Ex G G'):VA D G' τ ρ:=h.upx (JV e)
def qf8 {ρ:Rho} {i j:Nat} {s:Sl}:vw (ρ.set i s) j=if i=j then (if i<ρ.length then s.d else none) else vw ρ j:=by
 unfold vw;rw [getElem?_set];split
 ·subst j;split
  ·rfl
  ·rfl
 ·rfl
def VA.set {D:Addr->Prop} {G:Gp} {τ:St3} {ρ:Rho} (h:VA D G τ ρ) {i:Nat} {x:T} {d:PyData} (hx:Dq (rs D G) x d):VA D G (τ.set i (some x)) (ρ.set i (.sh d)):=by
 refine ⟨by simp [h.len],λj e he=>?_⟩;rw [qf8] at he;split at he
 ·subst j;split at he
  ·rename_i l;cases he;refine ⟨x,?_,hx⟩;rw [getElem?_set,if_pos rfl,if_pos (by rw [← h.len];exact l)]
  ·cases he
 ·rename_i n;obtain ⟨t,a,b⟩:=h.vw j e he;exact ⟨t,by rw [getElem?_set,if_neg n];exact a,b⟩
def VA.sets {D:Addr->Prop} {G:Gp}:∀ {ts:List (Nat×T)} {bs:List (Nat×PyData)} {τ:St3} {ρ:Rho},VA D G τ ρ->Bd (rs D G) ts bs->VA D G (Pu.sets τ ts) (YU ρ bs)
 |_,_,_,_,h,.nil=>h
 |_,_,_,_,h,.cons a b=>by unfold Pu.sets YU;exact VA.sets (h.set a) b
def VA.keep {D:Addr->Prop} {G:Gp} {ρ:Rho}:∀ {ts:List (Nat×T)} {τ:St3},VA D G τ ρ->(∀ p∈ts,Pu.vw ρ p.1=none)->VA D G (Pu.sets τ ts) ρ
 |[],_,h,_=>h
 |p::r,τ,h,hn=>VA.keep (ts:=r) ⟨by rw [List.length_set];exact h.len,λj d hd=>by
   have:p.1≠j:=by rintro rfl;rw [hn p (by simp)] at hd;cases hd
   obtain ⟨t,a,b⟩:=h.vw j d hd;exact ⟨t,by rw [getElem?_set,if_neg this];exact a,b⟩⟩ λq hq=>hn q (by simp [hq])
def MA (m:List (Option Nat)) (ρ:Rho):Rho:=m.map λo=>match o with|some j=>(match vw ρ j with|some d=>.sh d|none=>.un)|none=>.un
def VA.cap {m:List (Option Nat)} {D:Addr->Prop} {G:Gp} {τ:St3} {ρ:Rho} (h:C2 (m.filterMap id) D G τ ρ):VA D G (L3.cap m τ) (MA m ρ):=by
 refine ⟨by simp [MA,L3.cap],λi d hd=>?_⟩;unfold Pu.vw MA at hd;rw [getElem?_map] at hd;cases e:m[i]? with
 |none=>rw [e] at hd;cases hd
 |some o=>
  rw [e] at hd;cases o with
  |none=>cases hd
  |some j=>
   simp only [Option.map_some,Option.bind_some] at hd;cases e2:Pu.vw ρ j with
   |none=>rw [e2] at hd;cases hd
   |some d'=>
    rw [e2] at hd;have hd':d'=d:=by simpa [Sl.d] using hd
    subst hd';obtain ⟨t,a,b⟩:=h j (List.mem_filterMap.mpr ⟨some j,mem_of_getElem? e,rfl⟩) d' e2;refine ⟨t,?_,b⟩;unfold L3.cap;rw [getElem?_map,e];simp [a]
def qcK {m:List (Option Nat)} {ρ:Rho} {i:Nat} (h:m[i]?=some none):vw (MA m ρ) i=none:=by
 unfold vw MA;rw [getElem?_map,h];rfl
def lcP (h:PyData->Option (Option PyData)):List PyData->Option (List PyData)
 |[]=>some []
 |d::r=>(h d).bind λo=>(lcP h r).bind λys=>some (match o with|some y=>y::ys|none=>ys)
def lcH (gf:PyData->Option (List (Nat×PyData))) (cf:Rho->Option Bool) (ef:Rho->Option PyData) (ρ:Rho) (d:PyData):Option (Option PyData):=
 (gf d).bind λbs=>(cf (YU ρ bs)).bind λk=>if k then (ef (YU ρ bs)).map some else some none
def U7 {h:PyData->Option (Option PyData)} {α:Type} {g:α->PyData} {k:α->PyData} {xs:List α} (hh:∀ a∈xs,h (g a)=some (some (k a))):lcP h (xs.map g)=some (xs.map k):=by
 induction xs with
 |nil=>rfl
 |cons a r ih=>simp only [map_cons,lcP,hh a (by simp),Option.bind_some,ih λb hb=>hh b (by simp [hb])]
def qg6 {H:Gp}:∀ {ts:List (Nat×T)} {bs:List (Nat×PyData)},Bd H ts bs->∀ p∈ts,∃ q∈bs,q.1=p.1
 |_,_,.nil,p,hp=>by cases hp
 |_,_,.cons a b,p,hp=>by
  rcases mem_cons.mp hp with rfl|hp
  ·exact ⟨_,List.mem_cons_self,rfl⟩
  ·obtain ⟨q,hq,e⟩:=qg6 b p hp;exact ⟨q,by simp [hq],e⟩
def qhB {stay:Gp->Prop} {g:TG3} {tif:TT3} {te:TE3} {q:Q3} (pg:PuG g) (pc:PuC tif) (pe:PuE te) {D:Addr->Prop} {ρ0:Rho} {G0:Gp} (hs:∀ G,Ex G0 G->stay G) (hm:∀ i∈pg.tg,vw ρ0 i=none) (fin:List PyData) (hfin:fin.length<=sizeLine)
  (k:∀ G ys,Ex G0 G->Dqs (rs D G) ys fin->∀ p,G p=none->q (.ref p) (gu G p (.lst ys))) :
  ∀ (ds:List PyData) (items ys:List T) (es fs:List PyData) (τ:St3) (G:Gp),Dqs (rs D G0) items ds->VA D G τ ρ0->Ex G0 G->Dom D G->Dqs (rs D G) ys es->lcP (lcH pg.f pc.f pe.f ρ0) ds=some fs->es++fs=fin->RC stay g tif te q items ys τ G
 |_,_,ys,es,fs,τ,G,.nil,va,E,hd,hy,hf,hl=>by
  cases hf;rw [List.append_nil] at hl;subst hl;exact ⟨hs G E,k G ys E hy⟩
 |d::ds,x::items,ys,es,fs,τ,G,.cons hx hr,va,E,hd,hy,hf,hl=>by
  unfold lcP at hf;obtain ⟨o,e1,hf⟩:=obb hf;obtain ⟨U3,e2,hf⟩:=obb hf;unfold lcH at e1;obtain ⟨bs,e3,e1⟩:=obb e1;obtain ⟨c,e4,e1⟩:=obb e1;obtain ⟨ts,bd,kg⟩:=pg.ok (hx.up (JV E)) e3;refine ⟨hs G E,kg τ G _ ?_⟩;have va1:=va.sets bd;have va2:=va.keep (ts:=ts) λp hp=>by
   obtain ⟨q,hq,e⟩:=qg6 bd p hp;rw [← e];exact hm _ (pg.at' e3 q hq)
  refine pc.ok (va1.view _) hd e4 λG1 E1=>?_;cases c with
  |true=>
   rw [if_pos rfl];rw [if_pos rfl] at e1;obtain ⟨y,e5,rfl⟩:=Option.map_eq_some_iff.mp e1;simp only [Option.some.injEq] at hf;subst hf;refine pe.ok ((va1.up E1).view _) (hd.up E1) e5 λz G2 E2 D2 _=>⟨?_,?_⟩
   ·rw [hy.length];rw [← hl] at hfin;simp at hfin;omega
   ·refine qhB pg pc pe hs hm fin hfin k ds items (ys++[z]) (es++[y]) U3 _ G2 hr ((va2.up E1).up E2) (E.trans (E1.trans E2)) ((hd.up E1).up E2) (((hy.up (JV E1)).up (JV E2)).append (.cons D2 .nil)) e2 ?_;rw [← hl];simp
  |false=>
   rw [if_neg Bool.false_ne_true];simp at e1;subst e1;simp only [Option.some.injEq] at hf;subst hf;exact qhB pg pc pe hs hm fin hfin k ds items ys es U3 _ G1 hr (va2.up E1) (E.trans E1) (hd.up E1) (hy.up (JV E1)) e2 hl
def lcF (pi:Rho->Option (List PyData)) (h:Rho->PyData->Option (Option PyData)) (m:List (Option Nat)) (ρ:Rho):Option PyData:=
 (pi ρ).bind λds=>(lcP (h (MA m ρ)) ds).bind λfs=>cif (fs.length<=sizeLine) (some (.list fs)) none
def bLc {wi:TI3} {g:TG3} {tif:TT3} {te:TE3} (pi:PuI wi) (pg:PuG g) (pc:PuC tif) (pe:PuE te) (m:List (Option Nat)) (hm:Tru (pg.tg.all λi=>m[i]?==some none)):PuE (lc3 wi g tif te m):=
 ⟨lcF pi.f (lcH pg.f pc.f pe.f) m,pi.fv++m.filterMap id,true,λ{D τ ρ G q d} hv hd hf k=>by
  unfold lcF at hf;obtain ⟨ds,e1,hf⟩:=obb hf;obtain ⟨fs,e2,hf⟩:=obb hf;unfold cif at hf;split at hf
  ·rename_i hl;cases hf;refine pi.ok hv.l hd e1 λitems stay G1 E1 D1 hs _=>?_;have va:=(VA.cap (m:=m) hv.r).up E1;refine qhB pg pc pe (D:=D) (ρ0:=MA m ρ) (G0:=G1) (λG2 E2=>hs G2 (.inr (WG.trans E2))) (λi hi=>qcK ?_) fs hl (λG2 ys E2 D2 p hp=>?_) ds items [] [] fs _ G1 D1 va Ex.refl (hd.up E1) .nil e2 (by simp)
   ·have:=List.all_eq_true.mp hm.h i hi;simpa using this
   ·exact k _ _ ((E1.trans E2).trans (jL hp)) (YO ((hd.up E1).up E2) hp D2) λ_=>(CT hp D2).back (E1.trans E2)
  ·cases hf⟩
def qbM:∀ {bs:List (Nat×PyData)} {ρ:Rho} {i:Nat},(∀ p∈bs,p.1≠i)->vw (YU ρ bs) i=vw ρ i
 |[],_,_,_=>rfl
 |p::r,ρ,i,h=>by
  unfold YU;rw [qbM (λq hq=>h q (by simp [hq])),qf8,if_neg (h p (by simp))]
def AD (D:Addr->Prop) (A:Nat->Option Addr) (b:Addr):Prop:=D b\/∃ i,A i=some b
structure RS (D:Addr->Prop) (G0:Gp) (A:Nat->Option Addr) (τ:St3) (ρ:Rho) (G:Gp):Prop where
 ex:Ex G0 G
 dm:Dom D G0
 fr:∀ i p,A i=some p->G0 p=none
 da:∀ i p,A i=some p->G p≠none
 inj:∀ i j p,A i=some p->A j=some p->i=j
 len:ρ.length=τ.length
 sh:∀ (i:Nat) (d:PyData),ρ[i]?=some (Sl.sh d)->∃ t,τ[i]?=some (some t)/\Dq (rs (AD D A) G) t d
 ow:∀ (i:Nat) (ds:List PyData),ρ[i]?=some (Sl.ow ds)->∃ p xs,A i=some p/\τ[i]?=some (some (.ref p))/\G p=some (.lst xs)/\Dqs (rs (AD D A) G) xs ds
 dc:∀ (i:Nat) (kvs:List (Int×PyData)),ρ[i]?=some (Sl.dc kvs)->∃ p ks,A i=some p/\τ[i]?=some (some (.ref p))/\G p=some (.dct ks)/\ks.map (λq=>q.1)=kvs.map (λq=>q.1)/\Dqs (rs (AD D A) G) (ks.map λq=>q.2) (kvs.map λq=>q.2)
section
variable {D:Addr->Prop} {G0 G G':Gp} {A A':Nat->Option Addr} {τ:St3} {ρ:Rho}
def RS.nd (h:RS D G0 A τ ρ G) {i:Nat} {p:Addr} (e:A i=some p):¬ D p:=λz=>h.dm p z (h.fr i p e)
def RS.dom (h:RS D G0 A τ ρ G):Dom (AD D A) G:=λb hb=>by
 rcases hb with hb|⟨i,hi⟩
 ·exact (h.dm.up h.ex) b hb
 ·exact h.da i b hi
def RS.domD (h:RS D G0 A τ ρ G):Dom D G:=h.dm.up h.ex
def RS.up (h:RS D G0 A τ ρ G) (e:Ex G G'):RS D G0 A τ ρ G':=
 ⟨h.ex.trans e,h.dm,h.fr,λi p a z=>(h.da i p a) (by
  cases g:G p with
  |none=>rfl
  |some o=>rw [e _ _ g] at z;cases z),h.inj,h.len,λi d a=>let ⟨t,b,c⟩:=h.sh i d a;⟨t,b,c.up (JV e)⟩,λi ds a=>let ⟨p,xs,b,c,d,f⟩:=h.ow i ds a;⟨p,xs,b,c,e _ _ d,f.up (JV e)⟩,λi ds a=>let ⟨p,xs,b,c,d,k,f⟩:=h.dc i ds a;⟨p,xs,b,c,e _ _ d,k,f.up (JV e)⟩⟩
def RS.viewAll (h:RS D G0 A τ ρ G) (fv:List Nat):C2 fv D G τ ρ:=λi _ d hd=>by
 unfold vw at hd;obtain ⟨s,e,hd⟩:=obb hd;have less:Ex (rs (AD D A) G) (rs D G):=QW λb z=>.inl z;cases s with
 |un=>cases hd
 |sh d'=>
  cases hd;obtain ⟨t,b,c⟩:=h.sh i _ e;exact ⟨t,b,c.up less⟩
 |ow ds=>
  cases hd;obtain ⟨p,xs,b,c,g,f⟩:=h.ow i _ e;exact ⟨_,c,.lst (by rw [QP (h.nd b)];exact g) (f.up less)⟩
 |dc kvs=>cases hd
def RS.view (h:RS D G0 A τ ρ G) {fv:List Nat} (hn:∀ i∈fv,A i=none):C2 fv (AD D A) G τ ρ:=λi hi d hd=>by
 unfold vw at hd;obtain ⟨s,e,hd⟩:=obb hd;cases s with
 |un=>cases hd
 |sh d'=>
  cases hd;exact h.sh i _ e
 |ow ds=>
  obtain ⟨p,xs,b,_⟩:=h.ow i _ e;rw [hn i hi] at b;cases b
 |dc kvs=>cases hd
def Sl.dem:Sl->Sl
 |.ow ds=>.sh (.list ds)
 |.dc _=>.un
 |s=>s
def dm:List Bool->Rho->Rho
 |b::m,s::r=>(match b with|true=>s.dem|false=>s)::dm m r
 |_,r=>r
def mkb (m:List Bool) (i:Nat):Bool:=(m[i]?).getD false
def qaE:∀ (m:List Bool) (ρ:Rho) (i:Nat),(dm m ρ)[i]?=(ρ[i]?).map λs=>if mkb m i=true then s.dem else s
 |[],ρ,i=>by simp [dm,mkb]
 |b::m,[],i=>by simp [dm]
 |b::m,s::r,0=>by cases b<;>simp [dm,mkb]
 |b::m,s::r,i+1=>by
  have:=qaE m r i;simp only [dm,getElem?_cons_succ,mkb] at this ⊢;exact this
def qoJ (s:Sl):s.dem.d=s.d:=by cases s<;>rfl
def qoP (m:List Bool) (ρ:Rho) (i:Nat):vw (dm m ρ) i=vw ρ i:=by
 unfold vw;rw [qaE];cases ρ[i]? with
 |none=>rfl
 |some s=>
  simp only [Option.map_some,Option.bind_some];split
  ·exact qoJ s
  ·rfl
def qe6:∀ (m:List Bool) (ρ:Rho),(dm m ρ).length=ρ.length
 |[],ρ=>rfl
 |b::m,[]=>rfl
 |b::m,s::r=>by simp [dm,qe6 m r]
def Ad (m:List Bool) (A:Nat->Option Addr):Nat->Option Addr:=λi=>if mkb m i=true then none else A i
def XT {m:List Bool} {i:Nat} {p:Addr} (h:Ad m A i=some p):A i=some p/\mkb m i=false:=by
 unfold Ad at h;split at h
 ·cases h
 ·rename_i n;exact ⟨h,by simpa using n⟩
def RS.dem (h:RS D G0 A τ ρ G) (m:List Bool):RS D G0 (Ad m A) τ (Pu.dm m ρ) G:=by
 have less:Ex (rs (AD D A) G) (rs (AD D (Ad m A)) G):=QW λb z=>by
  rcases z with z|⟨i,z⟩
  ·exact .inl z
  ·exact .inr ⟨i,(XT z).1⟩
 refine ⟨h.ex,h.dm,λi p e=>h.fr i p (XT e).1,λi p e=>h.da i p (XT e).1,λi j p a b=>h.inj i j p (XT a).1 (XT b).1,by rw [qe6];exact h.len,λi d e=>?_,λi ds e=>?_,λi kvs e=>?_⟩
 ·rw [qaE] at e;obtain ⟨s,e1,e2⟩:=Option.map_eq_some_iff.mp e;cases s with
  |un=>split at e2<;>cases e2
  |sh d'=>
   have:d'=d:=by split at e2<;>(cases e2;rfl)
   subst this;obtain ⟨t,b,c⟩:=h.sh i _ e1;exact ⟨t,b,c.up less⟩
  |ow ds=>
   split at e2
   ·rename_i hm;cases e2;obtain ⟨p,xs,b,c,g,f⟩:=h.ow i _ e1;refine ⟨_,c,.lst ?_ (f.up less)⟩;rw [QP]
    ·exact g
    ·rintro (z|⟨j,z⟩)
     ·exact h.nd b z
     ·have:=h.inj i j p b (XT z).1;subst this;rw [(XT z).2] at hm;cases hm
   ·cases e2
  |dc kvs=>split at e2<;>cases e2
 ·rw [qaE] at e;obtain ⟨s,e1,e2⟩:=Option.map_eq_some_iff.mp e;cases s with
  |un=>split at e2<;>cases e2
  |sh d'=>split at e2<;>cases e2
  |ow ds'=>
   split at e2
   ·cases e2
   ·rename_i hm;cases e2;obtain ⟨p,xs,b,c,g,f⟩:=h.ow i _ e1;exact ⟨p,xs,by unfold Ad;rw [if_neg hm];exact b,c,g,f.up less⟩
  |dc kvs=>split at e2<;>cases e2
 ·rw [qaE] at e;obtain ⟨s,e1,e2⟩:=Option.map_eq_some_iff.mp e;cases s with
  |un=>split at e2<;>cases e2
  |sh d'=>split at e2<;>cases e2
  |ow ds'=>split at e2<;>cases e2
  |dc ds'=>
   split at e2
   ·cases e2
   ·rename_i hm;cases e2;obtain ⟨p,xs,b,c,g,k,f⟩:=h.dc i _ e1;exact ⟨p,xs,by unfold Ad;rw [if_neg hm];exact b,c,g,k,f.up less⟩
def RS.viewD (h:RS D G0 A τ ρ G) {m:List Bool} {fv:List Nat} (hm:Tru (fv.all (mkb m))):C2 fv (AD D (Ad m A)) G τ ρ:=by
 have:=(h.dem m).view (fv:=fv) λi hi=>by unfold Ad;rw [if_pos (List.all_eq_true.mp hm.h i hi)]
 intro i hi d hd;exact this i hi d (by rw [qoP];exact hd)
def Er (A:Nat->Option Addr) (i:Nat):Nat->Option Addr:=λj=>if j=i then none else A j
def X9 {i j:Nat} {p:Addr} (h:Er A i j=some p):A j=some p/\j≠i:=by
 unfold Er at h;split at h
 ·cases h
 ·rename_i n;exact ⟨h,n⟩
def RS.put (h:RS D G0 A τ ρ G) (i:Nat) {x:T} {d:PyData} (hx:Dq (rs (AD D A) G) x d):RS D G0 (Er A i) (τ.set i (some x)) (ρ.set i (.sh d)) G:=by
 have less:Ex (rs (AD D A) G) (rs (AD D (Er A i)) G):=QW λb z=>by
  rcases z with z|⟨j,z⟩
  ·exact .inl z
  ·exact .inr ⟨j,(X9 z).1⟩
 refine ⟨h.ex,h.dm,λj p e=>h.fr j p (X9 e).1,λj p e=>h.da j p (X9 e).1,λj k p a b=>h.inj j k p (X9 a).1 (X9 b).1,by simp [h.len],λj e he=>?_,λj ds e=>?_,λj ds e=>?_⟩
 ·rw [getElem?_set] at he ⊢;split at he
  ·rename_i hj;rw [if_pos hj];split at he
   ·rename_i hl;cases he;exact ⟨x,by rw [if_pos (by rw [← h.len];exact hl)],hx.up less⟩
   ·cases he
  ·rename_i hj;rw [if_neg hj];obtain ⟨t,b,c⟩:=h.sh j _ he;exact ⟨t,b,c.up less⟩
 ·rw [getElem?_set] at e ⊢;split at e
  ·split at e<;>cases e
  ·rename_i hj;rw [if_neg hj];obtain ⟨p,xs,b,c,g,f⟩:=h.ow j _ e;exact ⟨p,xs,by unfold Er;rw [if_neg (λz=>hj z.symm)];exact b,c,g,f.up less⟩
 ·rw [getElem?_set] at e ⊢;split at e
  ·split at e<;>cases e
  ·rename_i hj;rw [if_neg hj];obtain ⟨p,xs,b,c,g,k,f⟩:=h.dc j _ e;exact ⟨p,xs,by unfold Er;rw [if_neg (λz=>hj z.symm)];exact b,c,g,k,f.up less⟩
def RS.puts:∀ {ts:List (Nat×T)} {bs:List (Nat×PyData)} {A:Nat->Option Addr} {τ:St3} {ρ:Rho},RS D G0 A τ ρ G->Bd (rs (AD D A) G) ts bs->∃ A',RS D G0 A' (sets τ ts) (YU ρ bs) G
 |_,_,A,_,_,h,.nil=>⟨A,h⟩
 |_,_,A,_,_,h,.cons (i:=i) a b=>by
  unfold sets YU;exact RS.puts (h.put i a) (b.up (QW λb z=>by
   rcases z with z|⟨j,z⟩
   ·exact .inl z
   ·exact .inr ⟨j,(X9 z).1⟩))
def RS.putN (h:RS D G0 A τ ρ G) (i:Nat) {x:T} {d:PyData} {ds:List PyData} (hd:d=.list ds) (E:Ex G G') (hx:Nw (AD D A) G G' x d):RS D G0 (λj=>if j=i then (match x with|.ref p=>some p|_=>none) else A j) (τ.set i (some x)) (ρ.set i (.ow ds)) G':=by
 rcases hx with hx|⟨p,xs,ds',rfl,e',gp,gp',hs⟩
 ·rw [hd] at hx;cases hx
 rw [hd] at e';cases e';have np:∀ {j q},A j=some q->q≠p:=λe=>by rintro rfl;exact h.da _ _ e gp
 have X1:Ex (rs (AD D A) G) (rs (AD D (λj=>if j=i then some p else A j)) G'):=λb o e=>by
  obtain ⟨n,e⟩:=qM e;rw [QP]
  ·exact E _ _ e
  ·rintro (z|⟨j,z⟩)
   ·exact n (.inl z)
   ·simp only at z;split at z
    ·cases z;rw [gp] at e;cases e
    ·exact n (.inr ⟨j,z⟩)
 refine ⟨h.ex.trans E,h.dm,λj q e=>?_,λj q e=>?_,λj k q a b=>?_,by simp [h.len],λj e he=>?_,λj es e=>?_,λj es e=>?_⟩
 ·simp only at e;split at e
  ·cases e;cases z:G0 p with
   |none=>rfl
   |some o=>rw [h.ex _ _ z] at gp;cases gp
  ·exact h.fr j q e
 ·simp only at e;split at e
  ·cases e;rw [gp'];simp
  ·exact (h.up E).da j q e
 ·simp only at a b;split at a
  ·cases a;split at b
   ·rename_i h1 h2;rw [h1,h2]
   ·exact absurd rfl (np b)
  ·split at b
   ·cases b;exact absurd rfl (np a)
   ·exact h.inj j k q a b
 ·rw [getElem?_set] at he ⊢;split at he
  ·split at he<;>cases he
  ·rename_i hj;rw [if_neg hj];obtain ⟨t,b,c⟩:=h.sh j _ he;exact ⟨t,b,c.up X1⟩
 ·rw [getElem?_set] at e ⊢;split at e
  ·rename_i hj;subst hj;split at e
   ·rename_i hl;cases e;refine ⟨p,xs,by simp,by rw [if_pos rfl,if_pos (by rw [← h.len];exact hl)],gp',hs.up (QW λb z=>?_)⟩;rcases z with z|⟨j,z⟩
    ·exact .inl (.inl z)
    ·simp only at z;split at z
     ·cases z;exact .inr rfl
     ·exact .inl (.inr ⟨j,z⟩)
   ·cases e
  ·rename_i hj;rw [if_neg hj];obtain ⟨q,ys,b,c,g,f⟩:=h.ow j _ e;exact ⟨q,ys,by rw [if_neg (λz=>hj z.symm)];exact b,c,E _ _ g,f.up X1⟩
 ·rw [getElem?_set] at e ⊢;split at e
  ·split at e<;>cases e
  ·rename_i hj;rw [if_neg hj];obtain ⟨q,ys,b,c,g,k,f⟩:=h.dc j _ e;exact ⟨q,ys,by rw [if_neg (λz=>hj z.symm)];exact b,c,E _ _ g,k,f.up X1⟩
def RS.wr (h:RS D G0 A τ ρ G) {i:Nat} {p:Addr} {xs:List T} {ds:List PyData} (hi:A i=some p) (ht:τ[i]?=some (some (.ref p))) (hs:Dqs (rs (AD D A) G) xs ds):RS D G0 A τ (ρ.set i (.ow ds)) (gu G p (.lst xs)):=by
 have X1:Ex (rs (AD D A) G) (rs (AD D A) (gu G p (.lst xs))):=λb o e=>by
  obtain ⟨n,e⟩:=qM e;rw [QP n,jc (by rintro rfl;exact n (.inr ⟨i,hi⟩))];exact e
 refine ⟨λb o e=>?_,h.dm,h.fr,λj q e=>?_,h.inj,by simp [h.len],λj e he=>?_,λj es e=>?_,λj es e=>?_⟩
 ·rw [jc (by rintro rfl;rw [h.fr i _ hi] at e;cases e)];exact h.ex _ _ e
 ·by_cases z:q=p
  ·subst z;rw [qB];simp
  ·rw [jc z];exact h.da j q e
 ·rw [getElem?_set] at he;split at he
  ·split at he<;>cases he
  ·obtain ⟨t,b,c⟩:=h.sh j _ he;exact ⟨t,b,c.up X1⟩
 ·rw [getElem?_set] at e;split at e
  ·rename_i hj;subst hj;split at e
   ·cases e;exact ⟨p,xs,hi,ht,qB,hs.up X1⟩
   ·cases e
  ·rename_i hj;obtain ⟨q,ys,b,c,g,f⟩:=h.ow j _ e;exact ⟨q,ys,b,c,by rw [jc (by rintro rfl;exact hj (h.inj i j _ hi b))];exact g,f.up X1⟩
 ·rw [getElem?_set] at e;split at e
  ·split at e<;>cases e
  ·rename_i hj;obtain ⟨q,ys,b,c,g,k,f⟩:=h.dc j _ e;exact ⟨q,ys,b,c,by rw [jc (by rintro rfl;exact hj (h.inj i j _ hi b))];exact g,k,f.up X1⟩
def RS.base {Gb:Gp} (h:RS D Gb A τ ρ G) (e:Ex G0 Gb) (hd:Dom D G0):RS D G0 A τ ρ G:=
 ⟨e.trans h.ex,hd,(λi p a=>by
  cases z:G0 p with
  |none=>rfl
  |some o=>have:=h.fr i p a;rw [e _ _ z] at this;cases this),h.da,h.inj,h.len,h.sh,h.ow,h.dc⟩
end
inductive Ot where
 |nx (ρ:Rho)|bk (ρ:Rho)|ct (ρ:Rho)|rt (d:PyData) (fr:Bool)
def qk6 (D:Addr->Prop) (G0:Gp) (e:Ends3):Ot->Prop
 |.nx ρ=>∀ A τ G,RS D G0 A τ ρ G->e.nx τ G
 |.bk ρ=>∀ A τ G,RS D G0 A τ ρ G->e.bk τ G
 |.ct ρ=>∀ A τ G,RS D G0 A τ ρ G->e.ct τ G
 |.rt d fr=>∀ x G,Ex G0 G->Dq (rs D G) x d->(fr=true->Nw D G0 G x d)->e.rt x G
def qk6.base {D:Addr->Prop} {G0 Gb:Gp} {e:Ends3} {o:Ot} (h:qk6 D G0 e o) (x:Ex G0 Gb) (hd:Dom D G0):qk6 D Gb e o:=by
 cases o with
 |nx ρ=>exact λA τ G r=>h A τ G (r.base x hd)
 |bk ρ=>exact λA τ G r=>h A τ G (r.base x hd)
 |ct ρ=>exact λA τ G r=>h A τ G (r.base x hd)
 |rt d fr=>exact λy G a b c=>h y G (x.trans a) b λz=>(c z).back x
structure PuS (t:TS3) where
 f:Nat->Rho->Option Ot
 ok:∀ {D G0 A τ ρ G n o} {e:Ends3},RS D G0 A τ ρ G->f n ρ=some o->qk6 D G0 e o->t e τ G
def jH:PuS qH:=⟨λ_ ρ=>some (.nx ρ),λh hf k=>by cases hf;exact k _ _ _ h⟩
def qge:PuS MH:=⟨λ_ ρ=>none,λh hf k=>by cases hf⟩
def qnU (a b:Nat->Rho->Option Ot) (n:Nat) (ρ:Rho):Option Ot:=(a n ρ).bind λo=>match o with|.nx ρ'=>b n ρ'|o=>some o
def ZX {t u:TS3} (a:PuS t) (b:PuS u):PuS (qK t u):=⟨qnU a.f b.f,λ{D G0 A τ ρ G n o e} h hf k=>by
 unfold qnU at hf;obtain ⟨o1,e1,hf⟩:=obb hf;refine a.ok h e1 ?_;cases o1 with
 |nx ρ'=>exact λA' τ' G' h'=>b.ok h' hf k
 |bk ρ'=>cases hf;exact k
 |ct ρ'=>cases hf;exact k
 |rt d fr=>cases hf;exact k⟩
def sIf {c:TT3} {t u:TS3} (pc:PuC c) (a:PuS t) (b:PuS u):PuS (zM c t u):=⟨λn ρ=>(pc.f ρ).bind λk=>if k then a.f n ρ else b.f n ρ,λh hf k=>by
 obtain ⟨o1,e1,hf⟩:=obb hf;refine pc.ok (h.viewAll _) h.domD e1 λG1 E1=>?_;cases o1 with
 |true=>exact a.ok (h.up E1) hf k
 |false=>exact b.ok (h.up E1) hf k⟩
def YG {t:TE3} (a:PuE t):PuS (qZ t):=⟨λ_ ρ=>(a.f ρ).map λd=>.rt d a.nw,λh hf k=>by
 obtain ⟨d,e1,rfl⟩:=Option.map_eq_some_iff.mp hf;exact a.ok (h.viewAll _) h.domD e1 λx G1 E1 D1 N1=>k x G1 (h.ex.trans E1) D1 λz=>(N1 z).back h.ex⟩
def qh2 (ρ:Rho) (i:Nat):Option Ot:=match ρ[i]? with|some (.ow ds)=>some (.rt (.list ds) true)|some (.sh d)=>some (.rt d false)|_=>none
def qbL (i:Nat):PuS (qZ (v3 i)):=⟨λ_ ρ=>qh2 ρ i,λh hf k=>by
 unfold qh2 at hf;split at hf
 ·rename_i ds e;cases hf;obtain ⟨p,xs,b,c,g,f⟩:=h.ow i _ e;simp only [qZ,v3,c];refine k _ _ h.ex (.lst (by rw [QP (h.nd b)];exact g) (f.up (QW λb z=>.inl z))) λ_=>.inr ⟨p,xs,ds,rfl,rfl,h.fr i p b,g,f.up (QW λq z=>?_)⟩;rcases z with z|z
  ·exact .inl z
  ·subst z;exact .inr ⟨i,b⟩
 ·rename_i d e;cases hf;obtain ⟨t,b,c⟩:=h.sh i _ e;simp only [qZ,v3,b];exact k _ _ h.ex (c.up (QW λb z=>.inl z)) (λz=>by cases z)
 ·cases hf⟩
def R7 {H H':Gp} {x:T} {d:PyData} (h:Dq H x d) (s:qdu d=true):Dq H' x d:=by
 cases h<;>first|(constructor;done)|(simp [qdu] at s;done)
def qri:PyData->Sl
 |.list ds=>.ow ds
 |d=>.sh d
def MG (m:List Bool) (nw:Bool) (i:Nat) (d:PyData) (ρ:Rho):Rho:=if qdu d then ρ.set i (.sh d) else (dm m ρ).set i (if nw then qri d else .sh d)
def qbP {t:TE3} (a:PuE t) (i:Nat) (m:List Bool) (hm:Tru (a.fv.all (mkb m))):PuS (zg t (gn3 i)):=⟨λ_ ρ=>(a.f ρ).map λd=>.nx (MG m a.nw i d ρ),λ{D G0 A τ ρ G n o e} h hf k=>by
 obtain ⟨d,e1,rfl⟩:=Option.map_eq_some_iff.mp hf;refine a.ok (h.viewD hm) (h.dem m).dom e1 λx G1 E1 D1 N1=>?_;unfold MG at k;show e.nx (τ.set i (some x)) G1;split at k
 ·rename_i hs;exact k _ _ _ ((h.up E1).put i (R7 D1 hs))
 ·split at k
  ·rename_i hn;have N:=N1 hn;rcases id N with h2|⟨p,xs,ds,h1,h2,_⟩
   ·exact absurd h2 (by assumption)
   subst h2;exact k _ _ _ ((h.dem m).putN i rfl E1 N)
  ·exact k _ _ _ (((h.dem m).up E1).put i D1)⟩
def qaQ {t:TE3} {g:TG3} (a:PuE t) (pg:PuG g) (m:List Bool) (hm:Tru (a.fv.all (mkb m))):PuS (zg t g):=⟨λ_ ρ=>(a.f ρ).bind λd=>(pg.f d).map λbs=>.nx (YU (dm m ρ) bs),λ{D G0 A τ ρ G n o e} h hf k=>by
 obtain ⟨d,e1,hf⟩:=obb hf;obtain ⟨bs,e2,rfl⟩:=Option.map_eq_some_iff.mp hf;refine a.ok (h.viewD hm) (h.dem m).dom e1 λx G1 E1 D1 N1=>?_;obtain ⟨ts,bd,kg⟩:=pg.ok D1 e2;refine kg _ _ _ ?_;obtain ⟨A',h'⟩:=((h.dem m).up E1).puts bd;exact k _ _ _ h'⟩
def qm2 (i j:Nat) (m:List Bool) (ds:List PyData) (ρ:Rho):Option Ot:=match ds with
 |[d,e]=>if qdu d&&qdu e then some (.nx ((ρ.set i (.sh d)).set j (.sh e))) else some (.nx (((dm m ρ).set i (.sh d)).set j (.sh e)))
 |_=>none
def qhL {D:Addr->Prop} {A:Nat->Option Addr} {G:Gp} {i:Nat}:Ex (rs (AD D A) G) (rs (AD D (Er A i)) G):=QW λb z=>by
 rcases z with z|⟨j,z⟩
 ·exact .inl z
 ·exact .inr ⟨j,(X9 z).1⟩
def qoM {t:TA3} (a:PuA t) (i j:Nat) (m:List Bool) (hm:Tru (a.fv.all (mkb m))):PuS (R9 i j t):=⟨λ_ ρ=>(a.f ρ).bind λds=>qm2 i j m ds ρ,λ{D G0 A τ ρ G n o e} h hf k=>by
 obtain ⟨ds,e1,hf⟩:=obb hf;refine a.ok (h.viewD hm) (h.dem m).dom e1 λx G1 E1 D1=>?_;unfold qm2 at hf;split at hf
 ·cases D1 with
  |cons a b=>cases b with
   |cons b c=>
    cases c;split at hf
    ·rename_i hs;cases hf;rw [Bool.and_eq_true] at hs;exact k _ _ _ (((h.up E1).put i (R7 a hs.1)).put j (R7 b hs.2))
    ·cases hf;exact k _ _ _ ((((h.dem m).up E1).put i a).put j (b.up qhL))
 ·cases hf⟩
def qnS (i:Nat) (d:PyData) (ρ:Rho):Option Ot:=match (vw ρ i).bind asI,asI d with|some x,some y=>some (.nx (ρ.set i (.sh (.int (x+y)))))|_,_=>none
def qqt {t:TE3} (a:PuE t) (i:Nat):PuS (MF i (iI (·+·)) t):=⟨λ_ ρ=>(a.f ρ).bind λd=>qnS i d ρ,λ{D G0 A τ ρ G n o e} h hf k=>by
 obtain ⟨d,e1,hf⟩:=obb hf;unfold qnS at hf;split at hf
 ·rename_i u v hu hv;cases hf;obtain ⟨w,e2,hu⟩:=obb hu;have:=SK hu;subst this;have:=SK hv;subst this;obtain ⟨t,b,c⟩:=h.viewAll [i] i (by simp) _ e2;cases c;simp only [MF,b];refine a.ok (h.viewAll _) h.domD e1 λy G1 E1 D1 _=>?_;cases D1;exact k _ _ _ ((h.up E1).put i (.int _))
 ·cases hf⟩
def slot (ρ:Rho) (i:Nat):Option (List PyData):=match ρ[i]? with|some (.ow ds)=>some ds|_=>none
def dmS (m:List Bool) (d:PyData) (ρ:Rho):Rho:=if qdu d then ρ else dm m ρ
def RS.evalS {D:Addr->Prop} {G0 G:Gp} {A:Nat->Option Addr} {τ:St3} {ρ:Rho} (h:RS D G0 A τ ρ G) {t:TE3} (a:PuE t) (m:List Bool) (hm:Tru (a.fv.all (mkb m))) {d:PyData} (hf:a.f ρ=some d):∃ A1,RS D G0 A1 τ (dmS m d ρ) G/\∀ q:Q3,(∀ x G',Ex G G'->Dq (rs (AD D A1) G') x d->q x G')->t τ G q:=by
 unfold dmS;by_cases hs:qdu d=true
 ·rw [if_pos hs];exact ⟨A,h,λq k=>a.ok (h.viewAll _) h.domD hf λx G1 E1 D1 _=>k x G1 E1 (R7 D1 hs)⟩
 ·rw [if_neg hs];exact ⟨Ad m A,h.dem m,λq k=>a.ok (h.viewD hm) (h.dem m).dom hf λx G1 E1 D1 _=>k x G1 E1 D1⟩
def LU (gf:PyData->Option (List (Nat×PyData))) (bf:Rho->Option Ot):List PyData->Rho->Option Ot
 |[],ρ=>some (.nx ρ)
 |d::r,ρ=>(gf d).bind λbs=>(bf (YU ρ bs)).bind λo=>match o with
  |.nx ρ'=>LU gf bf r ρ'
  |.ct ρ'=>LU gf bf r ρ'
  |.bk ρ'=>some (.nx ρ')
  |.rt d b=>some (.rt d b)
def qan {stay:Gp->Prop} {g:TG3} {tb:TS3} {e:Ends3} (pg:PuG g) (pb:PuS tb) {D:Addr->Prop} {G0:Gp} {n:Nat} {o:Ot} {items0:List T} (hs:∀ A τ ρ G,RS D G0 A τ ρ G->stay G) (k:qk6 D G0 e o) :
  ∀ (ds:List PyData) (items:List T),(∀ A τ ρ G,RS D G0 A τ ρ G->Dqs (rs (AD D A) G) items ds)->∀ A τ ρ G,RS D G0 A τ ρ G->LU pg.f (pb.f n) ds ρ=some o->SV stay g tb e items τ G
 |[],items,hi,A,τ,ρ,G,h,hf=>by
  cases hf;have:=hi _ _ _ _ h;cases this;exact ⟨hs _ _ _ _ h,k _ _ _ h⟩
 |d::ds,items,hi,A,τ,ρ,G,h,hf=>by
  have hh:=hi _ _ _ _ h;cases hh with
  |cons hx hr=>
   rename_i x items;unfold LU at hf;obtain ⟨bs,e1,hf⟩:=obb hf;obtain ⟨o1,e2,hf⟩:=obb hf;obtain ⟨ts,bd,kg⟩:=pg.ok hx e1;refine ⟨hs _ _ _ _ h,kg _ _ _ ?_⟩;obtain ⟨A',h'⟩:=h.puts bd;refine pb.ok h' e2 ?_;have hi':∀ A τ ρ G,RS D G0 A τ ρ G->Dqs (rs (AD D A) G) items ds:=λA τ ρ G h=>by
    have:=hi _ _ _ _ h;cases this with
    |cons a b=>exact b
   cases o1 with
   |nx ρ'=>exact λA2 τ2 G2 h2=>qan (items0:=items0) pg pb hs k ds items hi' _ _ _ _ h2 hf
   |ct ρ'=>exact λA2 τ2 G2 h2=>qan (items0:=items0) pg pb hs k ds items hi' _ _ _ _ h2 hf
   |bk ρ'=>cases hf;exact k
   |rt d fr=>cases hf;exact k
def qnV (pi:Rho->Option (List PyData)) (nm:Bool) (m:List Bool) (gf:PyData->Option (List (Nat×PyData))) (bf:Nat->Rho->Option Ot) (n:Nat) (ρ:Rho):Option Ot:=(pi ρ).bind λds=>LU gf (bf n) ds (if nm then ρ else dm m ρ)
def qpL {wi:TI3} {g:TG3} {tb:TS3} (pi:PuI wi) (pg:PuG g) (pb:PuS tb) (m:List Bool) (hm:Tru (pi.fv.all (mkb m))):PuS (RQ wi g tb):=⟨qnV pi.f pi.nm m pg.f pb.f,λ{D G0 A τ ρ G n o e} h hf k=>by
 unfold qnV at hf;obtain ⟨ds,e1,hf⟩:=obb hf;refine pi.ok (h.viewD hm) (h.dem m).dom e1 λitems stay G1 E1 D1 hs hnm=>?_;cases hb:pi.nm with
 |true=>
  rw [hb,if_pos rfl] at hf;obtain ⟨ns,rfl⟩:=hnm hb;have:=D1.ints;subst this;exact qan (items0:=[]) pg pb (λ_ _ _ _ _=>hs _ (.inl hb)) k _ _ (λA τ ρ G _=>Dqs.ofInts _) _ _ _ _ (h.up E1) hf
 |false=>
  rw [hb,if_neg Bool.false_ne_true] at hf;have h1:=(h.dem m).up E1;have b1:Ex G0 (rs (λb=>∃ i,Ad m A i=some b) G1):=λb o e=>by
   rw [QP]
   ·exact h1.ex _ _ e
   ·rintro ⟨i,z⟩;rw [h1.fr i _ z] at e;cases e
  have h2:RS D (rs (λb=>∃ i,Ad m A i=some b) G1) (Ad m A) τ (dm m ρ) G1:=⟨WG,h.dm.up b1,λi p z=>by unfold rs;exact zS ⟨i,z⟩,h1.da,h1.inj,h1.len,h1.sh,h1.ow,h1.dc⟩
  have X:∀ A2 τ2 ρ2 G2,RS D (rs (λb=>∃ i,Ad m A i=some b) G1) A2 τ2 ρ2 G2->Ex (rs (AD D (Ad m A)) G1) (rs (AD D A2) G2):=λA2 τ2 ρ2 G2 r b o e=>by
   obtain ⟨n1,e⟩:=qM e;have eb:rs (λb=>∃ i,Ad m A i=some b) G1 b=some o:=by rw [QP (λz=>n1 (.inr z))];exact e
   rw [QP]
   ·exact r.ex _ _ eb
   ·rintro (z|⟨i,z⟩)
    ·exact n1 (.inl z)
    ·rw [r.fr i _ z] at eb;cases eb
  exact qan (items0:=[]) pg pb (λA2 τ2 ρ2 G2 r=>hs _ (.inr ((X _ _ _ _ r).trans WG))) (k.base b1 h.dm) _ _ (λA2 τ2 ρ2 G2 r=>D1.up (X _ _ _ _ r)) _ _ _ _ h2 hf⟩
def whP (cf:Rho->Option Bool) (bf:Rho->Option Ot):Nat->Rho->Option Ot
 |0,_=>none
 |n+1,ρ=>(cf ρ).bind λk=>if k then (bf ρ).bind λo=>match o with
   |.nx ρ'=>whP cf bf n ρ'
   |.ct ρ'=>whP cf bf n ρ'
   |.bk ρ'=>some (.nx ρ')
   |.rt d b=>some (.rt d b)
  else some (.nx ρ)
def sWh {c:TT3} {tb:TS3} (pc:PuC c) (pb:PuS tb):PuS (R6 c tb):=⟨λn ρ=>whP pc.f (pb.f n) n ρ,λ{D G0 A τ ρ G n o e} h hf k=>by
 refine ⟨λm τ G=>∃ A ρ,RS D G0 A τ ρ G/\whP pc.f (pb.f n) m ρ=some o,⟨n,A,ρ,h,hf⟩,?_⟩;rintro m τ G ⟨A,ρ,h,hf⟩;cases m with
 |zero=>cases hf
 |succ m=>
  unfold whP at hf;obtain ⟨b,e1,hf⟩:=obb hf;refine pc.ok (h.viewAll _) h.domD e1 λG1 E1=>?_;cases b with
  |true=>
   rw [if_pos rfl] at hf ⊢;obtain ⟨o1,e2,hf⟩:=obb hf;cases o1 with
   |nx ρ'=>exact ⟨λτ' G'=>∃ A',RS D G0 A' τ' ρ' G',λτ' G' ⟨A',h'⟩=>⟨m,by omega,A',ρ',h',hf⟩,pb.ok (h.up E1) e2 λA' τ' G' h'=>⟨A',h'⟩⟩
   |ct ρ'=>exact ⟨λτ' G'=>∃ A',RS D G0 A' τ' ρ' G',λτ' G' ⟨A',h'⟩=>⟨m,by omega,A',ρ',h',hf⟩,pb.ok (h.up E1) e2 λA' τ' G' h'=>⟨A',h'⟩⟩
   |bk ρ'=>cases hf;exact ⟨λ_ _=>False,λ_ _ z=>z.elim,pb.ok (h.up E1) e2 k⟩
   |rt d fr=>cases hf;exact ⟨λ_ _=>False,λ_ _ z=>z.elim,pb.ok (h.up E1) e2 k⟩
  |false=>
   cases hf;rw [if_neg Bool.false_ne_true];exact k _ _ _ (h.up E1)⟩
def EY (fr:Bool):Option Ot->Option PyData
 |some (.rt d b)=>if fr=true/\b=false then (match d with|.none=>some .none|_=>none) else some d
 |some (.nx _)=>if fr then none else some .none
 |_=>none
def st (ds:List PyData) (N:Nat):Rho:=ds.map Sl.sh++List.replicate (N-ds.length) .un
def run (f:Nat->Rho->Option Ot) (k N n:Nat) (fr:Bool) (ds:List PyData):Option PyData:=if ds.length=k then EY fr (f n (st ds N)) else none
def zu {t:TS3} (b:PuS t) (N:List Str) (k n:Nat) (fr:Bool):∀ ts G q,PSp (run b.f k N.length n fr) fr ts G q->ts.length=k/\t { nx:=λ_ G'=>q .non G',rt:=q } (qv N ts) G:=by
 rintro ts G q ⟨D,ds,d,hs,hd,hf,h⟩;unfold run at hf;split at hf
 ·rename_i hk;refine ⟨by rw [hs.length];exact hk,?_⟩;have r:RS D G (λ_=>none) (qv N ts) (st ds N.length) G:=by
   refine ⟨Ex.refl,hd,(λi p e=>by cases e),(λi p e=>by cases e),(λi j p e=>by cases e),(by simp [st,qv,hs.length]),λi d' e=>?_,λi es e=>?_,λi es e=>?_⟩
   ·unfold st at e;unfold qv;by_cases hi:i<ds.length
    ·rw [List.getElem?_append_left (by simpa using hi),getElem?_map] at e;obtain ⟨d2,e3,e4⟩:=Option.map_eq_some_iff.mp e;cases e4;obtain ⟨x,e5,hx⟩:=hs.get e3;refine ⟨x,?_,hx.up (QW λb z=>?_)⟩
     ·rw [List.getElem?_append_left (by simp [hs.length];exact hi),getElem?_map,e5];rfl
     ·rcases z with z|⟨i,z⟩
      ·exact z
      ·cases z
    ·rw [List.getElem?_append_right (by simpa using hi),List.getElem?_replicate] at e;split at e<;>cases e
   ·unfold st at e;by_cases hi:i<ds.length
    ·rw [List.getElem?_append_left (by simpa using hi),getElem?_map] at e;obtain ⟨d2,e3,e4⟩:=Option.map_eq_some_iff.mp e;cases e4
    ·rw [List.getElem?_append_right (by simpa using hi),List.getElem?_replicate] at e;split at e<;>cases e
   ·unfold st at e;by_cases hi:i<ds.length
    ·rw [List.getElem?_append_left (by simpa using hi),getElem?_map] at e;obtain ⟨d2,e3,e4⟩:=Option.map_eq_some_iff.mp e;cases e4
    ·rw [List.getElem?_append_right (by simpa using hi),List.getElem?_replicate] at e;split at e<;>cases e
  unfold EY at hf;split at hf
  ·rename_i d' b' e;split at hf
   ·split at hf
    ·cases hf;exact b.ok r e λx G' a c z=>h x G' a c λ_=>.inl rfl
    ·cases hf
   ·rename_i hb;cases hf;exact b.ok r e λx G' a c z=>h x G' a c λw=>z (by
     cases b' with
     |true=>rfl
     |false=>exact absurd ⟨w,rfl⟩ hb)
  ·rename_i ρ' e;split at hf
   ·cases hf
   ·rename_i hb;cases hf;exact b.ok r e λA τ G' r'=>h .non G' r'.ex .non λw=>absurd w hb
  ·cases hf
 ·cases hf
def qdZ {fr:Bool}:∀ ts G q,PSp (λ_=>none) fr ts G q->False:=λts G q ⟨_,_,_,_,_,h,_⟩=>by cases h
def Fn3.pz {P:Program} {w:World} {K:Frg} {mg:Str->Option Value} {base:Heap} {k:Nat} {x:Str} {sp:Sp3} (F:Fn3 P w K mg base k x sp) (fr:Bool):Fn3 P w K mg base k x (PSp (λ_=>none) fr):=F.imp λts G q h=>(qdZ ts G q h).elim
def qqw {i:Nat}:(bV i).f=λρ=>vw ρ i:=id rfl
def qfh {i:Int}:(qE i).f=λ_=>some (.int i):=id rfl
def qkd {i:Bool}:(bBl i).f=λ_=>some (.bool i):=id rfl
def qfQ {i:Str}:(jB i).f=λ_=>some (.str i):=id rfl
def qqE {r:R3} {ta tb:TE3} {R:OpD r} {a:PuE ta} {b:PuE tb}:(bO R a b).f=λρ=>(a.f ρ).bind λx=>(b.f ρ).bind λy=>R.f x y:=id rfl
def qf0:qz.f=λ_=>some []:=id rfl
def qb2 {ta:TE3} {tr:TA3} {a:PuE ta} {r:PuA tr}:(qf a r).f=λρ=>(a.f ρ).bind λx=>(r.f ρ).bind λxs=>some (x::xs):=id rfl
def qga {t:TA3} {a:PuA t} {hn:Tru (Nat.ble a.n 1000)}:(JU a hn).f=λρ=>(a.f ρ).map .tuple:=id rfl
def qeW {t:TA3} {a:PuA t} {hn:Tru (Nat.ble a.n 1000)}:(LL a hn).f=λρ=>(a.f ρ).map .list:=id rfl
def qbV {r:List T->Gp->Q3->Prop} {t:TA3} {R:FnD r} {a:PuA t}:(qx R a).f=λρ=>(a.f ρ).bind R.f:=id rfl
def qj6 {t:TE3} {a:PuE t}:(bTb a).f=λρ=>(a.f ρ).bind asB:=id rfl
def qiV {t u:TT3} {a:PuC t} {b:PuC u}:(bOr a b).f=λρ=>(a.f ρ).bind λk=>if k then some true else b.f ρ:=id rfl
def qfK {t:TT3} {a:PuC t}:(MK a).f=λρ=>(a.f ρ).map (! ·):=id rfl
def qkj:bTt.f=λ_=>some true:=id rfl
def qbB {ta tb:TE3} {a:PuE ta} {b:PuE tb}:(RA a b).f=λρ=>((a.f ρ).bind asB).bind λk=>if k then b.f ρ else some (.bool false):=id rfl
def qcP {ta:TE3} {a:PuE ta}:(qlc a).f=λρ=>((a.f ρ).bind asB).map λk=>.bool (!k):=id rfl
def qmm {t:TT3} {ta tb:TE3} {c:PuC t} {a:PuE ta} {b:PuE tb}:(bIf c a b).f=λρ=>(c.f ρ).bind λk=>if k then a.f ρ else b.f ρ:=id rfl
def qk2 {r r':R3} {ta tb tc:TE3} {R:OpD r} {R':OpD r'} {a:PuE ta} {b:PuE tb} {c:PuE tc}:(bCh R R' a b c).f=λρ=>(a.f ρ).bind λx=>(b.f ρ).bind λy=>((R.f x y).bind asB).bind λk=>if k then (c.f ρ).bind λz=>R'.f y z else some (.bool false):=id rfl
def qgH {ta:TE3} {a:PuE ta}:(qqT a).f=λρ=>((a.f ρ).bind asI).map λi=>.int (Builtin.Int.intBits i):=id rfl
def qfR {ta:TE3} {g:String->Bool} {a:PuE ta}:(qfX g a).f=λρ=>(a.f ρ).bind λd=>(tyD d).map λt=>.bool (g t):=id rfl
def qkm:bNp.f=λ_=>some none:=id rfl
def qme {t:TE3} {a:PuE t}:(bSp a).f=λρ=>((a.f ρ).bind asI).map some:=id rfl
def qmn {te:TE3} {tl th:TO3} {a:PuE te} {l:PuO tl} {h:PuO th}:(bSl a l h).f=λρ=>(a.f ρ).bind λd=>(l.f ρ).bind λlo=>(h.f ρ).bind λhi=>slD d lo hi:=id rfl
def qkz {wi:TI3} {g:TG3} {tif:TT3} {te:TE3} {pi:PuI wi} {pg:PuG g} {pc:PuC tif} {pe:PuE te} {m:List (Option Nat)} {hm:Tru (pg.tg.all λi=>m[i]?==some none)}:(bLc pi pg pc pe m hm).f=lcF pi.f (lcH pg.f pc.f pe.f) m:=id rfl
def qeY:qaM.f=qj9:=id rfl
def qeT:qlM.f=qn0:=id rfl
def qe0:qmH.f=qnQ:=id rfl
def qgI:qhD.f=qiZ:=id rfl
def qcD {F:List PyData->Option PyData} {fr:Bool}:(zn F fr).f=F:=id rfl
def qjv {g:Int->Int->Int} {i j:Int}:(opI g).f (.int i) (.int j)=some (.int (g i j)):=id rfl
def qmJ {g:Int->Int->Bool} {i j:Int}:(opB g).f (.int i) (.int j)=some (.bool (g i j)):=id rfl
def qls {C:Int->Int->Prop} {g:Int->Int->Int}:(opC C g).f=cI C g:=id rfl
def qgM {n:Bool}:(UG n).f=eqD n:=id rfl
def qck {n:Bool}:(qnC n).f=qn2 n:=id rfl
def qfA:VI.f=ixD:=id rfl
def qdg:qhZ.f=qn4:=id rfl
def qfP {t:TE3} {a:PuE t}:(RR a).f=λρ=>(a.f ρ).bind qbc:=id rfl
def qeR {t:TA3} {a:PuA t}:(qiP a).f=λρ=>(a.f ρ).bind qmj:=id rfl
def qbj {t:TA3} {a:PuA t}:(qdR a).f=λρ=>(a.f ρ).bind λds=>match ds with|[d]=>(qbc d).map λus=>enD 0 us|_=>none:=id rfl
def N8 {t:TA3} {a:PuA t}:(qdR a).nm=false:=id rfl
def qbU {t:TA3} {a:PuA t}:(qiP a).nm=true:=id rfl
def qqX {i:Nat}:(gN i).f=λd=>some [(i,d)]:=id rfl
def qfd:qci.f []=some []:=id rfl
def qbS {t:TG3} {u:C1} {a:PuG t} {b:PuGs u} {d:PyData} {r:List PyData}:(Z3 a b).f (d::r)=(a.f d).bind λx=>(b.f r).map λy=>x++y:=id rfl
def qf5 {u:C1} {n:Nat} {b:PuGs u} {ds:List PyData}:(qdl n b).f (.tuple ds)=if ds.length=n then b.f ds else none:=id rfl
def qcy:jH.f=λ_ ρ=>some (.nx ρ):=id rfl
def qfE {t u:TS3} {a:PuS t} {b:PuS u}:(ZX a b).f=qnU a.f b.f:=id rfl
def qnD {c:TT3} {t u:TS3} {pc:PuC c} {a:PuS t} {b:PuS u}:(sIf pc a b).f=λn ρ=>(pc.f ρ).bind λk=>if k then a.f n ρ else b.f n ρ:=id rfl
def qe1 {t:TE3} {a:PuE t}:(YG a).f=λ_ ρ=>(a.f ρ).map λd=>.rt d a.nw:=id rfl
def qcE {i:Nat}:(qbL i).f=λ_ ρ=>qh2 ρ i:=id rfl
def qgl {t:TE3} {a:PuE t} {i:Nat} {m:List Bool} {hm:Tru (a.fv.all (mkb m))}:(qbP a i m hm).f=λ_ ρ=>(a.f ρ).map λd=>.nx (MG m a.nw i d ρ):=id rfl
def qb9 {t:TE3} {g:TG3} {a:PuE t} {pg:PuG g} {m:List Bool} {hm:Tru (a.fv.all (mkb m))}:(qaQ a pg m hm).f=λ_ ρ=>(a.f ρ).bind λd=>(pg.f d).map λbs=>.nx (YU (dm m ρ) bs):=id rfl
def qgz {t:TA3} {a:PuA t} {i j:Nat} {m:List Bool} {hm:Tru (a.fv.all (mkb m))}:(qoM a i j m hm).f=λ_ ρ=>(a.f ρ).bind λds=>qm2 i j m ds ρ:=id rfl
def qe4 {t:TE3} {a:PuE t} {i:Nat}:(qqt a i).f=λ_ ρ=>(a.f ρ).bind λd=>qnS i d ρ:=id rfl
def qfy {wi:TI3} {g:TG3} {tb:TS3} {pi:PuI wi} {pg:PuG g} {pb:PuS tb} {m:List Bool} {hm:Tru (pi.fv.all (mkb m))}:(qpL pi pg pb m hm).f=qnV pi.f pi.nm m pg.f pb.f:=id rfl
def qjA {c:TT3} {tb:TS3} {pc:PuC c} {pb:PuS tb}:(sWh pc pb).f=λn ρ=>whP pc.f (pb.f n) n ρ:=id rfl
def qcv {i:Int}:(qE i).nw=false:=id rfl
def qgk {i:Bool}:(bBl i).nw=false:=id rfl
def qlA {r:R3} {ta tb:TE3} {R:OpD r} {a:PuE ta} {b:PuE tb}:(bO R a b).nw=R.nw:=id rfl
def qb1 {t:TA3} {a:PuA t} {hn:Tru (Nat.ble a.n 1000)}:(JU a hn).nw=false:=id rfl
def qcW {t:TA3} {a:PuA t} {hn:Tru (Nat.ble a.n 1000)}:(LL a hn).nw=true:=id rfl
def qar {r:List T->Gp->Q3->Prop} {t:TA3} {R:FnD r} {a:PuA t}:(qx R a).nw=R.nw:=id rfl
def qab {F:List PyData->Option PyData} {fr:Bool}:(zn F fr).nw=fr:=id rfl
def qaq {ta tb:TE3} {a:PuE ta} {b:PuE tb}:(RA a b).nw=false:=id rfl
def qfx {t:TT3} {ta tb:TE3} {c:PuC t} {a:PuE ta} {b:PuE tb}:(bIf c a b).nw=false:=id rfl
def qda:qlM.nw=false:=id rfl
def qbw:qhD.nw=false:=id rfl
def qc2:VI.nw=false:=id rfl
def qdi {n:Bool}:(UG n).nw=false:=id rfl
def qqS {s:Sl} {r:Rho}:vw (s::r) 0=s.d:=id rfl
def qqD {s:Sl} {r:Rho} {i:Nat}:vw (s::r) (i+1)=vw r i:=id rfl
def ql5 {d:PyData}:(Sl.sh d).d=some d:=id rfl
def qjZ {ds:List PyData}:(Sl.ow ds).d=some (.list ds):=id rfl
def qnL:Sl.un.d=none:=id rfl
def qb6 {r:Rho} {ds:List PyData}:qh2 (.ow ds::r) 0=some (.rt (.list ds) true):=id rfl
def qbn {r:Rho} {d:PyData}:qh2 (.sh d::r) 0=some (.rt d false):=id rfl
def qeK {s:Sl} {r:Rho} {i:Nat}:qh2 (s::r) (i+1)=qh2 r i:=id rfl
def qlr {xs:List PyData} {i:Int}:ixD (.tuple xs) (.int i)=L2.atI xs i:=id rfl
def qlK {xs:List PyData} {i:Int}:ixD (.list xs) (.int i)=L2.atI xs i:=id rfl
def at0 {α:Type} {a:α} {r:List α}:L2.atI (a::r) 0=some a:=by simp [L2.atI,ixN]
def at1 {α:Type} {a b:α} {r:List α}:L2.atI (a::b::r) 1=some b:=by
 have h:ixN (a::b::r).length 1=some 1:=by unfold ixN;rw [if_pos (by omega),if_pos (by simp;omega)];rfl
 unfold L2.atI;rw [h];rfl
def at2 {α:Type} {a b c:α} {r:List α}:L2.atI (a::b::c::r) 2=some c:=by
 have h:ixN (a::b::c::r).length 2=some 2:=by unfold ixN;rw [if_pos (by omega),if_pos (by simp;omega)];rfl
 unfold L2.atI;rw [h];rfl
def at3 {α:Type} {a b c d:α} {r:List α}:L2.atI (a::b::c::d::r) 3=some d:=by
 have h:ixN (a::b::c::d::r).length 3=some 3:=by unfold ixN;rw [if_pos (by omega),if_pos (by simp;omega)];rfl
 unfold L2.atI;rw [h];rfl
def atN {α:Type} {xs:List α} {k:Nat} (h:k<xs.length):L2.atI xs (k:Int)=xs[k]?:=by
 have e:ixN xs.length (k:Int)=some k:=by unfold ixN;rw [if_pos (by omega),if_pos (by omega)];rfl
 unfold L2.atI;rw [e];rfl
def eqS {n:Bool} {a b:Str}:eqD n (.str a) (.str b)=some (.bool (if n then !decide (a=b) else decide (a=b))):=id rfl
def eqI {n:Bool} {a b:Int}:eqD n (.int a) (.int b)=some (.bool (if n then !decide (a=b) else decide (a=b))):=id rfl
def qiJ {C:Int->Int->Prop} {g:Int->Int->Int} {i j:Int} (h:C i j):cI C g (.int i) (.int j)=some (.int (g i j)):=by simp only [cI];exact zS h
def MS {i j:Int} (h:-1000000<i/\i<1000000):cI XQ (·*·) (.int i) (.int j)=some (.int (i*j)):=qiJ (.inl ⟨by omega,by omega⟩)
def qfo {i j:Int} (h:0<j):cI (λ_ j=>0<j) (·%·) (.int i) (.int j)=some (.int (i%j)):=qiJ h
def qlp {i j:Int} (h:0<j/\j<1073741824):cI qdr (·/·) (.int i) (.int j)=some (.int (i/j)):=qiJ h
def qql {i j:Int}:qn4 (.int i) (.int j)=some (.int (i+j)):=id rfl
def qnN {j:Int} (h:-1000000000<=j/\j<1000000000):qmj [.int j]=some ((RJ 0 j.toNat).map PyData.int):=by simp only [qmj];exact zS ⟨by omega,by omega⟩
def YN {pi:Rho->Option (List PyData)} {h:Rho->PyData->Option (Option PyData)} {m:List (Option Nat)} {ρ:Rho} {ds fs:List PyData} (h1:pi ρ=some ds) (h2:lcP (h (MA m ρ)) ds=some fs) (h3:fs.length<=16777216):lcF pi h m ρ=some (.list fs):=by unfold lcF;rw [h1];simp only [Option.bind_some,h2];exact zS h3
def qeb {gf:PyData->Option (List (Nat×PyData))} {bf:Rho->Option Ot} {α:Type} {g:α->PyData} (xs:List α) (I:Nat->Rho->Prop) {ρ:Rho} (h0:I 0 ρ)
  (hs:∀ i x ρ,xs[i]?=some x->I i ρ->∃ bs ρ',gf (g x)=some bs/\(bf (YU ρ bs)=some (.nx ρ')\/bf (YU ρ bs)=some (.ct ρ'))/\I (i+1) ρ'):∃ ρ',LU gf bf (xs.map g) ρ=some (.nx ρ')/\I xs.length ρ':=by
 have key:∀ (r:List α) (i:Nat) (ρ:Rho),xs.drop i=r->i<=xs.length->I i ρ->∃ ρ',LU gf bf (r.map g) ρ=some (.nx ρ')/\I xs.length ρ':=by
  intro r;induction r with
  |nil=>
   intro i ρ e hi h;have:i=xs.length:=by
    have:=congrArg List.length e;simp at this;omega
   subst this;exact ⟨ρ,rfl,h⟩
  |cons x r ih=>
   intro i ρ e hi h;have hl:i<xs.length:=by
    have:=congrArg List.length e;simp at this;omega
   have e':=List.drop_eq_getElem_cons hl;rw [e] at e';injection e' with e1 e2;obtain ⟨bs,ρ',h1,h2,h3⟩:=hs i x ρ (by rw [getElem?_eq_getElem hl,e1]) h;obtain ⟨ρ2,h4,h5⟩:=ih (i+1) ρ' e2.symm hl h3;refine ⟨ρ2,?_,h5⟩;simp only [map_cons,LU,h1,Option.bind_some];rcases h2 with h2|h2<;>(rw [h2];exact h4)
 exact key xs 0 ρ (by simp) (Nat.zero_le _) h0
def qbN {gf:PyData->Option (List (Nat×PyData))} {bf:Rho->Option Ot} {α:Type} {g:α->PyData} (xs:List α) (n:Nat) (x:α) (hn:xs[n]?=some x) (I:Nat->Rho->Prop) {ρ:Rho} {o:Ot} (h0:I 0 ρ)
  (hs:∀ i x ρ,i<n->xs[i]?=some x->I i ρ->∃ bs ρ',gf (g x)=some bs/\(bf (YU ρ bs)=some (.nx ρ')\/bf (YU ρ bs)=some (.ct ρ'))/\I (i+1) ρ')
  (he:∀ ρ,I n ρ->∃ bs,gf (g x)=some bs/\((∃ d b,o=.rt d b/\bf (YU ρ bs)=some (.rt d b))\/∃ ρ',o=.nx ρ'/\bf (YU ρ bs)=some (.bk ρ'))):LU gf bf (xs.map g) ρ=some o:=by
 have hl:=(List.getElem?_eq_some_iff.mp hn).1;have key:∀ (k i:Nat) (ρ:Rho),i+k=n->I i ρ->LU gf bf ((xs.drop i).map g) ρ=some o:=by
  intro k;induction k with
  |zero=>
   intro i ρ e h;have:i=n:=by omega
   subst this;obtain ⟨bs,h1,h2⟩:=he ρ h;rw [List.drop_eq_getElem_cons hl];have ex:xs[i]=x:=by
    rw [getElem?_eq_getElem hl] at hn;exact Option.some.inj hn
   rw [ex];simp only [map_cons,LU,h1,Option.bind_some];rcases h2 with ⟨d,b,rfl,h2⟩|⟨ρ',rfl,h2⟩<;>(rw [h2];rfl)
  |succ k ih=>
   intro i ρ e h;have hi:i<xs.length:=by omega
   obtain ⟨bs,ρ',h1,h2,h3⟩:=hs i xs[i] ρ (by omega) (getElem?_eq_getElem hi) h;rw [List.drop_eq_getElem_cons hi];simp only [map_cons,LU,h1,Option.bind_some];rcases h2 with h2|h2<;>(rw [h2];exact ih (i+1) ρ' (by omega) h3)
 exact key n 0 ρ (by omega) h0
def sqk (b:Nat->Rho->Option Ot) (n:Nat) (o:Ot):Option Ot:=match o with|.nx ρ'=>b n ρ'|o=>some o
def qfm {a b:Nat->Rho->Option Ot} {n:Nat} {ρ:Rho}:qnU a b n ρ=(a n ρ).bind (sqk b n):=id rfl
def qeS {b:Nat->Rho->Option Ot} {n:Nat} {ρ:Rho}:sqk b n (.nx ρ)=b n ρ:=id rfl
def qgC {b:Nat->Rho->Option Ot} {n:Nat} {d:PyData} {f:Bool}:sqk b n (.rt d f)=some (.rt d f):=id rfl
def qgc {d:PyData} {b:Bool}:EY false (some (.rt d b))=some d:=by simp [EY]
def qkJ {b:Bool}:asB (.bool b)=some b:=id rfl
def qlB {b:Int}:asI (.int b)=some b:=id rfl
def qfL {xs:List PyData}:qj9 [.tuple xs]=some (.int xs.length):=id rfl
def qe2 {xs:List PyData}:qj9 [.list xs]=some (.int xs.length):=id rfl
def qfv {xs:List PyData}:qn0 [.list xs]=some (.tuple xs):=id rfl
def qe7 {xs:List PyData}:qnQ [.tuple xs]=some (.list xs):=id rfl
def XW {xs:List Bool}:qiZ [.list (xs.map PyData.bool)]=some (.bool (xs.all id)):=by simp only [qiZ,qeG,Option.map_some]
def qfN {xs:List PyData}:qbc (.tuple xs)=some xs:=id rfl
def qfU {xs:List PyData}:qbc (.list xs)=some xs:=id rfl
def qkf {i:Int}:tyD (.int i)=some "int" := id rfl
def qkV {i:Bool}:tyD (.bool i)=some "bool" := id rfl
def qkr:tyD .none=some "NoneType" := id rfl
def qmu {i:Str}:tyD (.str i)=some "str" := id rfl
def qkL {i:List PyData}:tyD (.tuple i)=some "tuple" := id rfl
def qlz {i:List PyData}:tyD (.list i)=some "list" := id rfl
def qfz {n a b:Bool}:qn2 n (.bool a) (.bool b)=some (.bool (if n then a != b else a==b)):=id rfl
def ql4 {m:List Bool} {nw:Bool} {i:Nat} {v:Int} {ρ:Rho}:MG m nw i (.int v) ρ=ρ.set i (.sh (.int v)):=id rfl
def qmc {m:List Bool} {nw:Bool} {i:Nat} {v:Bool} {ρ:Rho}:MG m nw i (.bool v) ρ=ρ.set i (.sh (.bool v)):=id rfl
def qk4 {m:List Bool} {nw:Bool} {i:Nat} {v:Str} {ρ:Rho}:MG m nw i (.str v) ρ=ρ.set i (.sh (.str v)):=id rfl
def qkh {m:List Bool} {nw:Bool} {i:Nat} {ρ:Rho}:MG m nw i .none ρ=ρ.set i (.sh .none):=id rfl
def qih {m:List Bool} {nw:Bool} {i:Nat} {v:List PyData} {ρ:Rho}:MG m nw i (.tuple v) ρ=(dm m ρ).set i (.sh (.tuple v)):=by cases nw<;>rfl
def qgh {m:List Bool} {i:Nat} {v:List PyData} {ρ:Rho}:MG m true i (.list v) ρ=(dm m ρ).set i (.ow v):=id rfl
def qfe {m:List Bool} {i:Nat} {v:List PyData} {ρ:Rho}:MG m false i (.list v) ρ=(dm m ρ).set i (.sh (.list v)):=id rfl
def qqj {ρ:Rho}:dm [] ρ=ρ:=id rfl
def qqI {m:List Bool} {s:Sl} {ρ:Rho}:dm (true::m) (s::ρ)=s.dem::dm m ρ:=id rfl
def qqL {m:List Bool} {s:Sl} {ρ:Rho}:dm (false::m) (s::ρ)=s::dm m ρ:=id rfl
def qlS {ds:List PyData}:(Sl.ow ds).dem=.sh (.list ds):=id rfl
def qni {d:PyData}:(Sl.sh d).dem=.sh d:=id rfl
def qmU {ρ:Rho}:MA [] ρ=[]:=id rfl
def qjQ {m:List (Option Nat)} {ρ:Rho}:MA (none::m) ρ=.un::MA m ρ:=id rfl
def cp (o:Option PyData):Sl:=match o with|some d=>.sh d|none=>.un
def qlJ {m:List (Option Nat)} {j:Nat} {ρ:Rho}:MA (some j::m) ρ=cp (vw ρ j)::MA m ρ:=id rfl
def qqJ {d:PyData}:cp (some d)=.sh d:=id rfl
def qjJ {i j:Nat} {m:List Bool} {x y:Int} {ρ:Rho}:qm2 i j m [.int x,.int y] ρ=some (.nx ((ρ.set i (.sh (.int x))).set j (.sh (.int y)))):=id rfl
def qfJ {pi:Rho->Option (List PyData)} {m:List Bool} {gf:PyData->Option (List (Nat×PyData))} {bf:Nat->Rho->Option Ot} {n:Nat} {ρ:Rho}:qnV pi false m gf bf n ρ=(pi ρ).bind λds=>LU gf (bf n) ds (dm m ρ):=id rfl
def qfs {ρ:Rho}:YU ρ []=ρ:=id rfl
def qfk {ρ:Rho} {i:Nat} {d:PyData} {r:List (Nat×PyData)}:YU ρ ((i,d)::r)=YU (ρ.set i (.sh d)) r:=id rfl
def C8 {gf:PyData->Option (List (Nat×PyData))} {cf:Rho->Option Bool} {ef:Rho->Option PyData} {ρ:Rho} {d:PyData}:lcH gf cf ef ρ d=(gf d).bind λbs=>(cf (YU ρ bs)).bind λk=>if k then (ef (YU ρ bs)).map some else some none:=id rfl
def Nx (o:Option Ot) (P:Rho->Prop):Prop:=match o with|some (.nx ρ)=>P ρ|some (.ct ρ)=>P ρ|_=>False
def qkK {ρ:Rho} {P:Rho->Prop}:Nx (some (.nx ρ)) P=P ρ:=id rfl
def qj3 {o:Option Ot} {P:Rho->Prop} (h:Nx o P):∃ ρ,(o=some (.nx ρ)\/o=some (.ct ρ))/\P ρ:=by
 unfold Nx at h;split at h
 ·exact ⟨_,.inl rfl,h⟩
 ·exact ⟨_,.inr rfl,h⟩
 ·exact h.elim
section
variable {gf:PyData->Option (List (Nat×PyData))} {bf:Rho->Option Ot} {α:Type} {g:α->PyData} {ρ:Rho} {Q:Option Ot->Prop} {F:Ot->Option Ot}
def qdL (xs:List α) (I:Nat->Rho->Prop) (h0:I 0 ρ) (hs:∀ i x ρ,xs[i]?=some x->I i ρ->Nx ((gf (g x)).bind λbs=>bf (YU ρ bs)) (I (i+1))) (k:∀ ρ',I xs.length ρ'->Q (some (.nx ρ'))):Q (LU gf bf (xs.map g) ρ):=by
 obtain ⟨ρ',e,h⟩:=qeb (gf:=gf) (bf:=bf) (g:=g) xs I h0 λi x ρ hx hi=>by
  obtain ⟨ρ2,e,h⟩:=qj3 (hs i x ρ hx hi);cases e1:gf (g x) with
  |none=>rw [e1] at e;rcases e with e|e<;>cases e
  |some bs=>rw [e1] at e;exact ⟨bs,ρ2,rfl,e,h⟩
 rw [e];exact k ρ' h
def qg8 (xs:List α) (I:Nat->Rho->Prop) (h0:I 0 ρ) (hs:∀ i x ρ,xs[i]?=some x->I i ρ->Nx ((gf (g x)).bind λbs=>bf (YU ρ bs)) (I (i+1))) (k:∀ ρ',I xs.length ρ'->Q (F (.nx ρ'))):Q ((LU gf bf (xs.map g) ρ).bind F):=
 qdL (Q:=λo=>Q (o.bind F)) xs I h0 hs k
def LH (xs:List α) (n:Nat) (x:α) (d:PyData) (b:Bool) (hn:xs[n]?=some x) (I:Nat->Rho->Prop) (h0:I 0 ρ) (hs:∀ i x ρ,i<n->xs[i]?=some x->I i ρ->Nx ((gf (g x)).bind λbs=>bf (YU ρ bs)) (I (i+1))) (he:∀ ρ,I n ρ->((gf (g x)).bind λbs=>bf (YU ρ bs))=some (.rt d b)) (k:Q (some (.rt d b))):Q (LU gf bf (xs.map g) ρ):=by
 rw [qbN (gf:=gf) (bf:=bf) (g:=g) xs n x hn I h0 (λi x ρ hi hx hI=>by
  obtain ⟨ρ2,e,h⟩:=qj3 (hs i x ρ hi hx hI);cases e1:gf (g x) with
  |none=>rw [e1] at e;rcases e with e|e<;>cases e
  |some bs=>rw [e1] at e;exact ⟨bs,ρ2,rfl,e,h⟩) (o:=.rt d b) λρ hI=>by
  have:=he ρ hI;cases e1:gf (g x) with
  |none=>rw [e1] at this;cases this
  |some bs=>rw [e1] at this;exact ⟨bs,rfl,.inl ⟨d,b,rfl,this⟩⟩]
 exact k
def qhX (xs:List α) (n:Nat) (x:α) (d:PyData) (b:Bool) (hn:xs[n]?=some x) (I:Nat->Rho->Prop) (h0:I 0 ρ) (hs:∀ i x ρ,i<n->xs[i]?=some x->I i ρ->Nx ((gf (g x)).bind λbs=>bf (YU ρ bs)) (I (i+1))) (he:∀ ρ,I n ρ->((gf (g x)).bind λbs=>bf (YU ρ bs))=some (.rt d b)) (k:Q (F (.rt d b))):Q ((LU gf bf (xs.map g) ρ).bind F):=
 LH (Q:=λo=>Q (o.bind F)) xs n x d b hn I h0 hs he k
end
def ER {α:Type} {us:List α} (h:us.length=1):∃ a0,us=[a0]:=List.length_eq_one_iff.mp h
def qdp {α:Type} {us:List α} (h:us.length=2):∃ a0 a1,us=[a0,a1]:=by
 obtain ⟨a0,r,rfl⟩:=List.exists_cons_of_length_pos (show 0<us.length by omega);obtain ⟨a1,rfl⟩:=ER (show r.length=1 by simpa using h);exact ⟨a0,a1,rfl⟩
def qrN {α:Type} {us:List α} (h:us.length=3):∃ a0 a1 a2,us=[a0,a1,a2]:=by
 obtain ⟨a0,r,rfl⟩:=List.exists_cons_of_length_pos (show 0<us.length by omega);obtain ⟨a1,a2,rfl⟩:=qdp (show r.length=2 by simpa using h);exact ⟨a0,a1,a2,rfl⟩
def T0 (d e:PyData):Option PyData:=match d,e with
 |.tuple xs,.tuple ys=>cif (xs.length+ys.length<=sizeLine) (some (.tuple (xs++ys))) none
 |.list xs,.list ys=>cif (xs.length+ys.length<=sizeLine) (some (.list (xs++ys))) none
 |.int i,.int j=>some (.int (i+j))
 |_,_=>none
def zO:OpD j0:=⟨T0,false,λ{D G x y d e v q} hx hy hd hf k=>by
  unfold T0 at hf;cases hx with
  | int i => cases hy <;> try (simp at hf;done)
             cases hf;exact k _ _ Ex.refl (.int _) (λz=>by cases z)
  |tup hs=>
    cases hy<;>try (simp at hf;done)
    rename_i hs2;simp only [cif] at hf;split at hf
    · rename_i c;cases hf;exact ⟨by rw [hs.length,hs2.length];exact c,k _ _ Ex.refl (.tup (hs.append hs2)) (λz=>by cases z)⟩
    · cases hf
  |lst g hs=>
    cases hy<;>try (simp at hf;done)
    rename_i g2 hs2;simp only [cif] at hf;split at hf
    · rename_i c;cases hf;simp only [j0,(qM g).2,(qM g2).2];exact ⟨by rw [hs.length,hs2.length];exact c,λp hp=>k _ _ (jL hp) (YO hd hp (hs.append hs2)) (λz=>by cases z)⟩
    · cases hf
  |_=>simp at hf⟩
def slA (d:PyData) (lo hi:Option Int):Option PyData:=match d with
 |.tuple xs=>some (.tuple (UW xs lo hi))
 |.list xs=>some (.list (UW xs lo hi))
 |_=>none
def qdQ {te:TE3} {tl th:TO3} (a:PuE te) (l:PuO tl) (h:PuO th):PuE (MQ te tl th):=⟨λρ=>(a.f ρ).bind λd=>(l.f ρ).bind λlo=>(h.f ρ).bind λhi=>slA d lo hi,a.fv++(l.fv++h.fv),false,λhv hd hf k=>by
 obtain ⟨d,e1,hf⟩:=obb hf;obtain ⟨lo,e2,hf⟩:=obb hf;obtain ⟨hi,e3,hf⟩:=obb hf;refine a.ok hv.l hd e1 λx' G1 E1 D1 _=>l.ok (hv.r.l.up E1) (hd.up E1) e2 λG2 E2=>h.ok (hv.r.r.up (E1.trans E2)) (hd.up (E1.trans E2)) e3 λG3 E3=>?_;have E:=(E1.trans E2).trans E3;have D3:=(D1.up (JV E2)).up (JV E3);unfold slA at hf;cases D3 with
 |tup hs=>
  simp only at hf;cases hf;exact k _ _ E (.tup (hs.cut _ _)) (λz=>by cases z)
 |lst g hs=>
  simp only at hf;cases hf;simp only [qpi,zC (qM g).2];intro p hp;exact k _ _ (E.trans (jL hp)) (YO (hd.up E) hp (hs.cut _ _)) (λz=>by cases z)
 |_=>simp at hf⟩
def zi:zO.f=T0:=id rfl
def zN:zO.nw=false:=id rfl
def VY {te:TE3} {tl th:TO3} {a:PuE te} {l:PuO tl} {h:PuO th}:(qdQ a l h).f=λρ=>(a.f ρ).bind λd=>(l.f ρ).bind λlo=>(h.f ρ).bind λhi=>slA d lo hi:=id rfl
def LS {xs ys:List PyData} (h:xs.length+ys.length<=16777216):T0 (.tuple xs) (.tuple ys)=some (.tuple (xs++ys)):=zS h
end Pu
namespace Pv
open PySem L2 L3 Pu
open Bk (Dl)
def W5 (r:List Int):PyData:=.tuple (r.map PyData.int)
def dlD:Dl->PyData
 |.skew r c b x y=>.tuple [.str "skew",.int r,.int c,.int b,.int x,.int y]
 |.rests r c b p=>.tuple [.str "rests",.int r,.int c,.int b,.int p]
 |.bits h l ms=>.tuple [.str "bits",.int h,.int l,.tuple (ms.map PyData.int)]
 |.table b cells=>.tuple [.str "table",.int b,.tuple (cells.map W5)]
 |.joined d e=>.tuple [.str "joined",dlD d,dlD e]
def qcZ (G:Gp):∀ (cs:List (List Int)),Dqs G (cs.map Bk.qnh) (cs.map W5)
 |[]=>.nil
 |r::cs=>.cons (.tup (Dqs.ofInts r)) (qcZ G cs)
def qiz (G:Gp):∀ (d:Dl),Dq G d.t (dlD d)
 |.skew r c b x y=>.tup (.cons (.str _) (.cons (.int _) (.cons (.int _) (.cons (.int _) (.cons (.int _) (.cons (.int _) .nil))))))
 |.rests r c b p=>.tup (.cons (.str _) (.cons (.int _) (.cons (.int _) (.cons (.int _) (.cons (.int _) .nil)))))
 |.bits h l ms=>.tup (.cons (.str _) (.cons (.int _) (.cons (.int _) (.cons (.tup (Dqs.ofInts ms)) .nil))))
 |.table b cells=>.tup (.cons (.str _) (.cons (.int _) (.cons (.tup (qcZ G cells)) .nil)))
 |.joined d e=>.tup (.cons (.str _) (.cons (qiz G d) (.cons (qiz G e) .nil)))
end Pv
namespace Pu
open PySem L2 L3
open Bk (Lf Ext)
section
variable {D:Addr->Prop} {a:Addr} {G G' G0:Gp} {n n':Nat} {fv gv:List Nat} {l:Nat} {τ:St3} {ρ:Rho}
def U0 (e:Ext a G G') (h:D a):Ex (rs D G) (rs D G'):=λb o x=>by
 obtain ⟨n,x⟩:=qM x;rw [QP n];exact e b o (by rintro rfl;exact n h) x
def CM {k:Int} (h:Lf G a k):G a≠none:=by
 obtain ⟨o,c,m,e,_⟩:=h;rw [e];simp
def ZT {k:Int} (hd:Dom D G) (e:Ext a G G') (lf:Lf G' a k):Dom D G':=λb hb z=>by
 by_cases h:b=a
 ·subst h;exact CM lf z
 ·cases g:G b with
  |none=>exact hd b hb g
  |some o=>rw [e b o h g] at z;cases z
def Nw.backx {x:T} {d:PyData} {k:Int} (h:Nw D G G' x d) (e:Ext a G0 G) (lf:Lf G a k):Nw D G0 G' x d:=by
 rcases h with h|⟨p,xs,ds,h1,h2,c,r⟩
 ·exact .inl h
 refine .inr ⟨p,xs,ds,h1,h2,?_,r⟩;cases z:G0 p with
 |none=>rfl
 |some o=>
  by_cases hp:p=a
  ·subst hp;exact absurd c (CM lf)
  ·rw [e p o hp z] at c;cases c
structure Ln (fv:List Nat) (l:Nat) (D:Addr->Prop) (G:Gp) (τ:St3) (ρ:Rho) (a:Addr) (n:Nat):Prop where
 v:C2 fv D G τ ρ
 d:Dom D G
 da:D a
 tl:τ[l]?=some (some (.ref a))
 ul:vw ρ l=none
 lf:Lf G a n
def Ln.up (h:Ln fv l D G τ ρ a n) (e:Ext a G G') (lf:Lf G' a n'):Ln fv l D G' τ ρ a n':=
 ⟨λi hi d hd=>let ⟨t,x,y⟩:=h.v i hi d hd;⟨t,x,y.up (U0 e h.da)⟩,ZT h.d e lf,h.da,h.tl,h.ul,lf⟩
def Ln.fst (h:Ln (fv++gv) l D G τ ρ a n):Ln fv l D G τ ρ a n:=⟨h.v.l,h.d,h.da,h.tl,h.ul,h.lf⟩
def Ln.snd (h:Ln (fv++gv) l D G τ ρ a n):Ln gv l D G τ ρ a n:=⟨h.v.r,h.d,h.da,h.tl,h.ul,h.lf⟩
end
abbrev QD:=PyData->Nat->Prop
structure PwE (l:Nat) (t:TE3) where
 w:Rho->Nat->QD->Prop
 fv:List Nat
 nw:Bool
 mono:∀ {ρ n} {Q Q':QD},w ρ n Q->(∀ d m,Q d m->Q' d m)->w ρ n Q'
 ok:∀ {D τ ρ G a n} {q:Q3} {Q:QD},Ln fv l D G τ ρ a n->w ρ n Q->(∀ x d G' n',Q d n'->Ext a G G'->Lf G' a n'->Dq (rs D G') x d->(nw=true->Nw D G G' x d)->q x G')->t τ G q
structure PwC (l:Nat) (t:TT3) where
 w:Rho->Nat->(Bool->Nat->Prop)->Prop
 fv:List Nat
 mono:∀ {ρ n} {Q Q':Bool->Nat->Prop},w ρ n Q->(∀ d m,Q d m->Q' d m)->w ρ n Q'
 ok:∀ {D τ ρ G a n} {q:Bool->Gp->Prop} {Q:Bool->Nat->Prop},Ln fv l D G τ ρ a n->w ρ n Q->(∀ k G' n',Q k n'->Ext a G G'->Lf G' a n'->q k G')->t τ G q
structure PwA (l:Nat) (t:TA3) where
 w:Rho->Nat->(List PyData->Nat->Prop)->Prop
 fv:List Nat
 k:Nat
 mono:∀ {ρ n} {Q Q':List PyData->Nat->Prop},w ρ n Q->(∀ d m,Q d m->Q' d m)->w ρ n Q'
 ok:∀ {D τ ρ G a n} {q:List T->Gp->Prop} {Q:List PyData->Nat->Prop},Ln fv l D G τ ρ a n->w ρ n Q->(∀ x d G' n',Q d n'->d.length=k->Ext a G G'->Lf G' a n'->Dqs (rs D G') x d->q x G')->t τ G q
structure PwI (l:Nat) (t:TI3) where
 w:Rho->Nat->(List PyData->Nat->Prop)->Prop
 fv:List Nat
 nm:Bool
 mono:∀ {ρ n} {Q Q':List PyData->Nat->Prop},w ρ n Q->(∀ d m,Q d m->Q' d m)->w ρ n Q'
 ok:∀ {D τ ρ G a n} {r:List T->(Gp->Prop)->Gp->Prop} {Q:List PyData->Nat->Prop},Ln fv l D G τ ρ a n->w ρ n Q ->
  (∀ items stay ds G' n',Q ds n'->Ext a G G'->Lf G' a n'->Dqs (rs D G') items ds->(∀ G'',(nm=true\/Ex (rs D G') G'')->stay G'')->(nm=true->∃ ns:List Int,ds=ns.map PyData.int)->r items stay G')->t τ G r
structure DrD (r:List T->Gp->Q3->Prop) where
 W:List PyData->Nat->QD->Prop
 nw:Bool
 mono:∀ {ds n} {Q Q':QD},W ds n Q->(∀ d m,Q d m->Q' d m)->W ds n Q'
 ok:∀ {D:Addr->Prop} {G:Gp} {a:Addr} {n:Nat} {ts:List T} {ds:List PyData} {q:Q3} {Q:QD},Lf G a n->D a->Dom D G->Dqs (rs D G) ts ds->W ds n Q->(∀ x d G' n',Q d n'->Ext a G G'->Lf G' a n'->Dq (rs D G') x d->(nw=true->Nw D G G' x d)->q x G')->r (.ref a::ts) G q
section
variable {l:Nat}
def eOf {t:TE3} (b:PuE t):PwE l t:=⟨λρ n Q=>∃ d,b.f ρ=some d/\Q d n,b.fv,b.nw,λ⟨d,h1,h2⟩ h=>⟨d,h1,h _ _ h2⟩,λh ⟨d,h1,h2⟩ k=>
 b.ok h.v h.d h1 λx G1 E1 D1 N1=>k x d G1 _ h2 (Bk.XX E1) (h.lf.ex E1) D1 N1⟩
def cOf {t:TT3} (b:PuC t):PwC l t:=⟨λρ n Q=>∃ d,b.f ρ=some d/\Q d n,b.fv,λ⟨d,h1,h2⟩ h=>⟨d,h1,h _ _ h2⟩,λh ⟨d,h1,h2⟩ k=>
 b.ok h.v h.d h1 λG1 E1=>k d G1 _ h2 (Bk.XX E1) (h.lf.ex E1)⟩
def aOf {t:TA3} (b:PuA t):PwA l t:=⟨λρ n Q=>∃ d,b.f ρ=some d/\Q d n,b.fv,b.n,λ⟨d,h1,h2⟩ h=>⟨d,h1,h _ _ h2⟩,λh ⟨d,h1,h2⟩ k=>
 b.ok h.v h.d h1 λx G1 E1 D1=>k x d G1 _ h2 (b.ln h1) (Bk.XX E1) (h.lf.ex E1) D1⟩
def iOf {t:TI3} (b:PuI t):PwI l t:=⟨λρ n Q=>∃ d,b.f ρ=some d/\Q d n,b.fv,b.nm,λ⟨d,h1,h2⟩ h=>⟨d,h1,h _ _ h2⟩,λh ⟨d,h1,h2⟩ k=>
 b.ok h.v h.d h1 λitems stay G1 E1 D1 s nm=>k items stay d G1 _ h2 (Bk.XX E1) (h.lf.ex E1) D1 s nm⟩
def eO {r:R3} {ta tb:TE3} (R:OpD r) (a:PwE l ta) (b:PwE l tb):PwE l (o3 r ta tb):=
 ⟨λρ n Q=>a.w ρ n λx n1=>b.w ρ n1 λy n2=>∃ v,R.f x y=some v/\Q v n2,a.fv++b.fv,R.nw,λh k=>a.mono h λx n1 h=>b.mono h λy n2 ⟨v,h1,h2⟩=>⟨v,h1,k _ _ h2⟩,λh hw k=>
  a.ok h.fst hw λx dx G1 n1 h1 E1 L1 D1 _=>b.ok (h.snd.up E1 L1) h1 λy dy G2 n2 ⟨v,e,hq⟩ E2 L2 D2 _=>R.ok (D1.up (U0 E2 h.da)) D2 (ZT (ZT h.d E1 L1) E2 L2) e λz G3 E3 D3 N3=>k z v G3 n2 hq ((E1.trans E2).trans (Bk.XX E3)) (L2.ex E3) D3 λz=>(N3 z).backx (E1.trans E2) L2⟩
def qkB {ta:TE3} {tr:TA3} (a:PwE l ta) (r:PwA l tr):PwA l (qb ta tr):=
 ⟨λρ n Q=>a.w ρ n λx n1=>r.w ρ n1 λxs n2=>Q (x::xs) n2,a.fv++r.fv,r.k+1,λh k=>a.mono h λx n1 h=>r.mono h λxs n2 h=>k _ _ h,λh hw k=>
  a.ok h.fst hw λx dx G1 n1 h1 E1 L1 D1 _=>r.ok (h.snd.up E1 L1) h1 λy dy G2 n2 hq hl E2 L2 D2=>k _ _ G2 n2 hq (by simp [hl]) (E1.trans E2) L2 (.cons (D1.up (U0 E2 h.da)) D2)⟩
def qqV {t:TA3} (b:PwA l t) (hn:Tru (Nat.ble b.k 1000)):PwE l (QQ t):=⟨λρ n Q=>b.w ρ n λxs n1=>Q (.list xs) n1,b.fv,true,λh k=>b.mono h λxs n1 h=>k _ _ h,λh hw k=>
 b.ok h hw λx dx G1 n1 h1 hl E1 L1 D1=>⟨by rw [D1.length,hl];exact few hn,λp hp=>k _ _ _ _ h1 (E1.trans (Bk.XX (jL hp))) (L1.ex (jL hp)) (YO (ZT h.d E1 L1) hp D1) λ_=>(CT hp D1).backx E1 L1⟩⟩
def eDr {r:List T->Gp->Q3->Prop} {t:TA3} (R:DrD r) (b:PwA l t):PwE l (cb3 r (qb (v3 l) t)):=⟨λρ n Q=>b.w ρ n λxs n1=>R.W xs n1 Q,b.fv,R.nw,λh k=>b.mono h λxs n1 h=>R.mono h k,λ{D τ ρ G a n q Q} h hw k=>by
 simp only [cb3,qb,v3,h.tl];exact b.ok h hw λx dx G1 n1 hW hl E1 L1 D1=>R.ok L1 h.da (ZT h.d E1 L1) D1 hW λz d G3 n3 hq E3 L3 D3 N3=>k z d G3 n3 hq (E1.trans E3) L3 D3 λz=>(N3 z).backx E1 L1⟩
def cTb {t:TE3} (b:PwE l t):PwC l (tb3 t):=⟨λρ n Q=>b.w ρ n λd n1=>∃ k,asB d=some k/\Q k n1,b.fv,λh k=>b.mono h λd m ⟨v,h1,h2⟩=>⟨v,h1,k _ _ h2⟩,λh hw k=>b.ok h hw λx d G1 n1 ⟨v,e,hq⟩ E1 L1 D1 _=>by
 have:=LP e;subst this;cases D1;exact k _ _ _ hq E1 L1⟩
def iS {t:TE3} (b:PwE l t):PwI l (ZR t):=⟨λρ n Q=>b.w ρ n λd n1=>∃ ds,qbc d=some ds/\Q ds n1,b.fv,false,λh k=>b.mono h λxs n1 ⟨v,h1,h2⟩=>⟨v,h1,k _ _ h2⟩,λh hw k=>b.ok h hw λx dx G1 n1 ⟨ds,e,hq⟩ E1 L1 D1 _=>by
 unfold qbc at e;cases D1 with
 |tup hs=>cases e;exact k _ _ _ _ _ hq E1 L1 hs (λ_ _=>trivial) (λz=>by cases z)
 |lst g hs=>
  cases e;simp only [zC (qM g).2];refine k _ _ _ _ _ hq E1 L1 hs (λG2 h=>?_) (λz=>by cases z);rcases h with h|h
  ·cases h
  ·exact zC (h _ _ g)
 |_=>simp at e⟩
end
def lcW (gf:PyData->Option (List (Nat×PyData))) (cw:Rho->Nat->(Bool->Nat->Prop)->Prop) (ew:Rho->Nat->QD->Prop) (ρ:Rho):List PyData->Nat->(List PyData->Nat->Prop)->Prop
 |[],n,Q=>Q [] n
 |d::r,n,Q=>∃ bs,gf d=some bs/\cw (YU ρ bs) n λk n1=>if k then ew (YU ρ bs) n1 λy n2=>lcW gf cw ew ρ r n2 λys n3=>Q (y::ys) n3 else lcW gf cw ew ρ r n1 Q
def DX {l:Nat} {g:TG3} {tif:TT3} {te:TE3} (pg:PuG g) (pc:PwC l tif) (pe:PwE l te) {ρ:Rho}:∀ {ds:List PyData} {n:Nat} {Q Q':List PyData->Nat->Prop},lcW pg.f pc.w pe.w ρ ds n Q->(∀ d m,Q d m->Q' d m)->lcW pg.f pc.w pe.w ρ ds n Q'
 |[],n,Q,Q',h,k=>k _ _ h
 |d::r,n,Q,Q',⟨bs,e,h⟩,k=>⟨bs,e,pc.mono h λj m h=>by
   cases j with
   |true=>rw [if_pos rfl] at h ⊢;exact pe.mono h λy m2 h=>DX pg pc pe h λys m3 h=>k _ _ h
   |false=>exact DX pg pc pe h k⟩
def VA.ext {D:Addr->Prop} {a:Addr} {G G':Gp} {τ:St3} {ρ:Rho} (h:VA D G τ ρ) (e:Ext a G G') (da:D a):VA D G' τ ρ:=h.upx (U0 e da)
def qc5:∀ {ts:List (Nat×T)} {τ:St3} {i:Nat},(∀ p∈ts,p.1≠i)->(sets τ ts)[i]?=τ[i]?
 |[],_,_,_=>rfl
 |p::r,τ,i,h=>by
  unfold sets;rw [qc5 λq hq=>h q (by simp [hq]),getElem?_set,if_neg (h p (by simp))]
def qcI {l:Nat} {stay:Gp->Prop} {g:TG3} {tif:TT3} {te:TE3} {q:Q3} (pg:PuG g) (pc:PwC l tif) (pe:PwE l te) {D:Addr->Prop} {a:Addr} {ρ0:Rho} {G0:Gp} (da:D a) (hs:∀ G,Ext a G0 G->stay G) (hm:∀ i∈pg.tg,vw ρ0 i=none) (hl:∀ i∈pg.tg,i≠l) {Q:List PyData->Nat->Prop}
  (k:∀ G ys fs n,Q fs n->fs.length<=sizeLine->Ext a G0 G->Lf G a n->Dqs (rs D G) ys fs->∀ p,G p=none->q (.ref p) (gu G p (.lst ys))) :
  vw ρ0 l=none->∀ (ds:List PyData) (items ys:List T) (es:List PyData) (τ:St3) (G:Gp) (n:Nat),Dqs (rs D G0) items ds->VA D G τ ρ0->τ[l]?=some (some (.ref a))->Ext a G0 G->Dom D G->Lf G a n->Dqs (rs D G) ys es->lcW pg.f pc.w pe.w ρ0 ds n (λfs n=>(es++fs).length<=sizeLine/\Q (es++fs) n)->ds.length+es.length<=sizeLine->RC stay g tif te q items ys τ G
 |_,_,_,ys,es,τ,G,n,.nil,va,tl,E,hd,lf,hy,hw,_=>by
  obtain ⟨h1,h2⟩:=hw;rw [List.append_nil] at h1 h2;exact ⟨hs G E,k G ys es n h2 h1 E lf hy⟩
 |ul,d::ds,x::items,ys,es,τ,G,n,.cons hx hr,va,tl,E,hd,lf,hy,⟨bs,e3,hw⟩,hz=>by
  obtain ⟨ts,bd,kg⟩:=pg.ok (hx.up (U0 E da)) e3;refine ⟨hs G E,kg τ G _ ?_⟩;have va1:=va.sets bd;have at1:∀ p∈ts,p.1∈pg.tg:=λp hp=>by
   obtain ⟨q,hq,e⟩:=qg6 bd p hp;rw [← e];exact pg.at' e3 q hq
  have va2:=va.keep (ts:=ts) λp hp=>hm _ (at1 p hp);have tl1:(sets τ ts)[l]?=some (some (.ref a)):=by rw [qc5 λp hp=>hl _ (at1 p hp)];exact tl
  have ul1:vw (YU ρ0 bs) l=none:=by rw [qbM λp hp=>hl _ (pg.at' e3 p hp)];exact ul
  refine pc.ok ⟨va1.view _,hd,da,tl1,ul1,lf⟩ hw λc G1 n1 hc E1 L1=>?_;cases c with
  |true=>
   rw [if_pos rfl] at hc ⊢;refine pe.ok ⟨(va1.ext E1 da).view _,ZT hd E1 L1,da,tl1,ul1,L1⟩ hc λz y G2 n2 hq E2 L2 D2 _=>⟨?_,?_⟩
   ·rw [hy.length];simp at hz;omega
   ·refine qcI pg pc pe da hs hm hl k ul ds items (ys++[z]) (es++[y]) _ G2 n2 hr ((va2.ext E1 da).ext E2 da) tl1 ((E.trans E1).trans E2) (ZT (ZT hd E1 L1) E2 L2) L2 (((hy.up (U0 E1 da)).up (U0 E2 da)).append (.cons D2 .nil)) ?_ (by simp at hz ⊢;omega);refine DX pg pc pe hq λfs m h=>?_;rw [List.append_assoc];exact h
  |false=>
   rw [if_neg Bool.false_ne_true] at hc ⊢;exact qcI pg pc pe da hs hm hl k ul ds items ys es _ G1 n1 hr (va2.ext E1 da) tl1 (E.trans E1) (ZT hd E1 L1) L1 (hy.up (U0 E1 da)) hc (by simp at hz;omega)
def qrd {l:Nat} (it:Rho->Nat->(List PyData->Nat->Prop)->Prop) (h:Rho->List PyData->Nat->(List PyData->Nat->Prop)->Prop) (m:List (Option Nat)) (ρ:Rho) (n:Nat) (Q:QD):Prop:=
 it ρ n λds n1=>ds.length<=16777216/\h (MA m ρ) ds n1 λfs n2=>fs.length<=16777216/\Q (.list fs) n2
def eLc {l:Nat} {wi:TI3} {g:TG3} {tif:TT3} {te:TE3} (l2:Nat) (pi:PwI l wi) (pg:PuG g) (pc:PwC l2 tif) (pe:PwE l2 te) (m:List (Option Nat)) (hm:Tru (pg.tg.all λi=>m[i]?==some none)) (hl:Tru (m[l2]?==some (some l))):PwE l (lc3 wi g tif te m):=
 ⟨qrd (l:=l) pi.w (lcW pg.f pc.w pe.w) m,pi.fv++(m.filterMap id).filter (· != l),true,λh k=>pi.mono h λds n1 ⟨h1,h⟩=>⟨h1,DX pg pc pe h λfs n2 ⟨h2,h⟩=>⟨h2,k _ _ h⟩⟩,λ{D τ ρ G a n q Q} h hw k=>by
  have hl':m[l2]?=some (some l):=by simpa using hl.h
  refine pi.ok h.fst hw λitems stay ds G1 n1 ⟨h1,hw1⟩ E1 L1 D1 hs _=>?_;have hv:C2 (m.filterMap id) D G τ ρ:=λi hi d hd=>by
   by_cases e:i=l
   ·subst e;rw [h.ul] at hd;cases hd
   ·exact h.snd.v i (List.mem_filter.mpr ⟨hi,by simpa using e⟩) d hd
  have va:=(VA.cap (m:=m) hv).ext E1 h.da;refine qcI pg pc pe (D:=D) (a:=a) (ρ0:=MA m ρ) (G0:=G1) h.da (λG2 E2=>hs G2 (.inr ((U0 E2 h.da).trans WG))) (λi hi=>qcK ?_) (λi hi e=>?_) (Q:=λfs n=>Q (.list fs) n) (λG2 ys fs n2 hq hlen E2 L2 D2 p hp=>?_) ?_ ds items [] [] _ G1 n1 D1 va ?_ Bk.Ext.refl (ZT h.d E1 L1) L1 .nil ?_ ?_
  ·simpa using List.all_eq_true.mp hm.h i hi
  ·subst e;have:=List.all_eq_true.mp hm.h i hi;rw [hl'] at this;simp at this
  ·exact k _ _ _ _ hq ((E1.trans E2).trans (Bk.XX (jL hp))) (L2.ex (jL hp)) (YO (ZT (ZT h.d E1 L1) E2 L2) hp D2) λ_=>(CT hp D2).backx (E1.trans E2) L2
  ·unfold vw MA;rw [getElem?_map,hl'];simp only [Option.map_some,Option.bind_some,h.ul];rfl
  ·unfold L3.cap;rw [getElem?_map,hl'];simp [h.tl]
  ·refine DX pg pc pe hw1 λfs m ⟨h2,h3⟩=>⟨?_,by simpa using h3⟩
   rw [sizeLine_eq];simpa using h2
  ·rw [sizeLine_eq];simpa using h1⟩
structure RL (l:Nat) (a:Addr) (z0:Option (Option T)×Nat) (D:Addr->Prop) (G0:Gp) (A:Nat->Option Addr) (τ:St3) (ρ:Rho) (G:Gp) (n:Nat):Prop where
 r:RS D G0 A τ ρ G
 al:A l=some a
 tl:τ[l]?=some (some (.ref a))
 ul:ρ[l]?=some Sl.un
 lf:Lf G a n
 tz:τ[0]?=z0.1/\τ.length=z0.2
section
variable {l:Nat} {a:Addr} {z0:Option (Option T)×Nat} {D:Addr->Prop} {G0 G G':Gp} {A:Nat->Option Addr} {τ:St3} {ρ:Rho} {n n':Nat}
def RL.vl (h:RL l a z0 D G0 A τ ρ G n):vw ρ l=none:=by unfold vw;rw [h.ul];rfl
def RL.up (h:RL l a z0 D G0 A τ ρ G n) (e:Ext a G G') (lf:Lf G' a n'):RL l a z0 D G0 A τ ρ G' n':=by
 have X:Ex (rs (AD D A) G) (rs (AD D A) G'):=U0 e (.inr ⟨l,h.al⟩);refine ⟨⟨λb o x=>e b o (by rintro rfl;rw [h.r.fr l _ h.al] at x;cases x) (h.r.ex b o x),h.r.dm,h.r.fr,λi p hp z=>?_,h.r.inj,h.r.len,λi d x=>let ⟨t,y,z⟩:=h.r.sh i d x;⟨t,y,z.up X⟩,λi ds x=>?_,λi ds x=>?_⟩,h.al,h.tl,h.ul,lf,h.tz⟩
 ·by_cases c:p=a
  ·subst c;exact CM lf z
  ·cases g:G p with
   |none=>exact h.r.da i p hp g
   |some o=>rw [e p o c g] at z;cases z
 ·obtain ⟨p,xs,y1,y2,y3,y4⟩:=h.r.ow i ds x;refine ⟨p,xs,y1,y2,e p _ ?_ y3,y4.up X⟩;rintro rfl;have:=h.r.inj i l _ y1 h.al;subst this;rw [h.ul] at x;cases x
 ·obtain ⟨p,xs,y1,y2,y3,yk,y4⟩:=h.r.dc i ds x;refine ⟨p,xs,y1,y2,e p _ ?_ y3,yk,y4.up X⟩;rintro rfl;have:=h.r.inj i l _ y1 h.al;subst this;rw [h.ul] at x;cases x
def RL.all (h:RL l a z0 D G0 A τ ρ G n) (fv:List Nat):Ln fv l (λb=>D b\/b=a) G τ ρ a n:=by
 refine ⟨λi _ d hd=>?_,λb hb=>?_,.inr rfl,h.tl,h.vl,h.lf⟩
 ·unfold vw at hd;obtain ⟨s,e,hd⟩:=obb hd;have less:Ex (rs (AD D A) G) (rs (λb=>D b\/b=a) G):=QW λb z=>by
   rcases z with z|z
   ·exact .inl z
   ·subst z;exact .inr ⟨l,h.al⟩
  cases s with
  |un=>cases hd
  |sh d'=>
   cases hd;obtain ⟨t,b,c⟩:=h.r.sh i _ e;exact ⟨t,b,c.up less⟩
  |ow ds=>
   cases hd;obtain ⟨p,xs,b,c,g,f⟩:=h.r.ow i _ e;refine ⟨_,c,.lst ?_ (f.up less)⟩;rw [QP]
   ·exact g
   ·rintro (z|z)
    ·exact h.r.nd b z
    ·subst z;have:=h.r.inj i l _ b h.al;subst this;rw [h.ul] at e;cases e
  |dc kvs=>cases hd
 ·rcases hb with hb|hb
  ·exact h.r.domD b hb
  ·subst hb;exact CM h.lf
def qq0 {m:List Bool} (hm:mkb m l=false) (al:A l=some a):Ad m A l=some a:=by unfold Ad;rw [if_neg (by rw [hm];simp)];exact al
def RL.dem (h:RL l a z0 D G0 A τ ρ G n) {m:List Bool} (hm:mkb m l=false):RL l a z0 D G0 (Ad m A) τ (Pu.dm m ρ) G n:=
 ⟨h.r.dem m,qq0 hm h.al,h.tl,by rw [qaE,h.ul];simp [hm],h.lf,h.tz⟩
def RL.ln (h:RL l a z0 D G0 A τ ρ G n) {m:List Bool} {fv:List Nat} (hm:mkb m l=false) (hf:Tru (fv.all (mkb m))):Ln fv l (AD D (Ad m A)) G τ ρ a n:=
 ⟨h.r.viewD hf,(h.r.dem m).dom,.inr ⟨l,qq0 hm h.al⟩,h.tl,h.vl,h.lf⟩
def RL.put (h:RL l a z0 D G0 A τ ρ G n) {i:Nat} (hi:i≠l) (h0:i≠0) {x:T} {d:PyData} (hx:Dq (rs (AD D A) G) x d):RL l a z0 D G0 (Er A i) (τ.set i (some x)) (ρ.set i (.sh d)) G n:=
 ⟨h.r.put i hx,by unfold Er;rw [if_neg (λz=>hi z.symm)];exact h.al,by rw [getElem?_set,if_neg hi];exact h.tl,by rw [getElem?_set,if_neg hi];exact h.ul,h.lf,⟨by rw [getElem?_set,if_neg h0];exact h.tz.1,by rw [List.length_set];exact h.tz.2⟩⟩
def RL.puts:∀ {ts:List (Nat×T)} {bs:List (Nat×PyData)} {A:Nat->Option Addr} {τ:St3} {ρ:Rho},RL l a z0 D G0 A τ ρ G n->Bd (rs (AD D A) G) ts bs->(∀ p∈bs,p.1≠l/\p.1≠0)->∃ A',RL l a z0 D G0 A' (sets τ ts) (YU ρ bs) G n
 |_,_,A,_,_,h,.nil,_=>⟨A,h⟩
 |_,_,A,_,_,h,.cons x b,hn=>by
  unfold sets YU;exact RL.puts (h.put (hn _ List.mem_cons_self).1 (hn _ List.mem_cons_self).2 x) (b.up qhL) (λp hp=>hn p (List.mem_cons_of_mem _ hp))
def RL.putN (h:RL l a z0 D G0 A τ ρ G n) {i:Nat} (hi:i≠l) (h0:i≠0) {x:T} {d:PyData} {ds:List PyData} (hd:d=.list ds) (E:Ext a G G') (lf:Lf G' a n') (hx:Nw (AD D A) G G' x d):∃ A',RL l a z0 D G0 A' (τ.set i (some x)) (ρ.set i (.ow ds)) G' n':=by
 have h1:=h.up E lf;rcases hx with hx|⟨p,xs,ds',rfl,e',gp,gp',hs⟩
 ·rw [hd] at hx;cases hx
 rw [hd] at e';cases e';have np:∀ {j q},A j=some q->q≠p:=λe=>by rintro rfl;exact h.r.da _ _ e gp
 have X1:Ex (rs (AD D A) G) (rs (AD D (λj=>if j=i then some p else A j)) G'):=λb o e=>by
  obtain ⟨n,e⟩:=qM e;rw [QP]
  ·exact E b o (by rintro rfl;exact n (.inr ⟨l,h.al⟩)) e
  ·rintro (z|⟨j,z⟩)
   ·exact n (.inl z)
   ·simp only at z;split at z
    ·cases z;rw [gp] at e;cases e
    ·exact n (.inr ⟨j,z⟩)
 refine ⟨λj=>if j=i then some p else A j,⟨h1.r.ex,h.r.dm,λj q e=>?_,λj q e=>?_,λj k q x y=>?_,by simp [h.r.len],λj e he=>?_,λj es e=>?_,λj es e=>?_⟩,by rw [if_neg (λz=>hi z.symm)];exact h.al,by rw [getElem?_set,if_neg hi];exact h.tl,by rw [getElem?_set,if_neg hi];exact h.ul,lf,⟨by rw [getElem?_set,if_neg h0];exact h.tz.1,by rw [List.length_set];exact h.tz.2⟩⟩
 ·split at e
  ·cases e;cases z:G0 p with
   |none=>rfl
   |some o=>rw [h.r.ex _ _ z] at gp;cases gp
  ·exact h.r.fr j q e
 ·split at e
  ·cases e;rw [gp'];simp
  ·exact h1.r.da j q e
 ·split at x
  ·cases x;split at y
   ·rename_i h1 h2;rw [h1,h2]
   ·exact absurd rfl (np y)
  ·split at y
   ·cases y;exact absurd rfl (np x)
   ·exact h.r.inj j k q x y
 ·rw [getElem?_set] at he ⊢;split at he
  ·split at he<;>cases he
  ·rename_i hj;rw [if_neg hj];obtain ⟨t,b,c⟩:=h.r.sh j _ he;exact ⟨t,b,c.up X1⟩
 ·rw [getElem?_set] at e ⊢;split at e
  ·rename_i hj;subst hj;split at e
   ·rename_i hl;cases e;refine ⟨p,xs,by simp,by rw [if_pos rfl,if_pos (by rw [← h.r.len];exact hl)],gp',hs.up (QW λb z=>?_)⟩;rcases z with z|⟨j,z⟩
    ·exact .inl (.inl z)
    ·simp only at z;split at z
     ·cases z;exact .inr rfl
     ·exact .inl (.inr ⟨j,z⟩)
   ·cases e
  ·rename_i hj;rw [if_neg hj];obtain ⟨q,ys,b,c,g,f⟩:=h1.r.ow j _ e;obtain ⟨q',ys',b',c',g',f'⟩:=h.r.ow j _ e;rw [b] at b';cases b';have:G' q=some (.lst ys'):=E q _ (by rintro rfl;have:=h.r.inj j l _ b h.al;subst this;rw [h.ul] at e;cases e) g';exact ⟨q,ys',by rw [if_neg (λz=>hj z.symm)];exact b,c,this,f'.up X1⟩
 ·rw [getElem?_set] at e ⊢;split at e
  ·split at e<;>cases e
  ·rename_i hj;rw [if_neg hj];obtain ⟨q,ys,b,c,g,k,f⟩:=h.r.dc j _ e;have:G' q=some (.dct ys):=E q _ (by rintro rfl;have:=h.r.inj j l _ b h.al;subst this;rw [h.ul] at e;cases e) g;exact ⟨q,ys,by rw [if_neg (λz=>hj z.symm)];exact b,c,this,k,f.up X1⟩
def RL.wr (h:RL l a z0 D G0 A τ ρ G n) {i:Nat} {p:Addr} {xs:List T} {ds ds0:List PyData} (ho:ρ[i]?=some (Sl.ow ds0)) (hi:A i=some p) (ht:τ[i]?=some (some (.ref p))) (hs:Dqs (rs (AD D A) G) xs ds):RL l a z0 D G0 A τ (ρ.set i (.ow ds)) (gu G p (.lst xs)) n:=by
 have il:i≠l:=by rintro rfl;rw [h.ul] at ho;cases ho
 have pa:p≠a:=by rintro rfl;exact il (h.r.inj i l _ hi h.al)
 exact ⟨h.r.wr hi ht hs,h.al,h.tl,by rw [getElem?_set,if_neg il];exact h.ul,h.lf.new pa,h.tz⟩
end
abbrev QO:=Ot->Nat->Prop
def qcb (l:Nat) (a:Addr) (z0:Option (Option T)×Nat) (D:Addr->Prop) (G0:Gp) (e:Ends3):Ot->Nat->Prop
 |.nx ρ,n=>∀ A τ G,RL l a z0 D G0 A τ ρ G n->e.nx τ G
 |.bk ρ,n=>∀ A τ G,RL l a z0 D G0 A τ ρ G n->e.bk τ G
 |.ct ρ,n=>∀ A τ G,RL l a z0 D G0 A τ ρ G n->e.ct τ G
 |.rt d fr,n=>∀ x G,Ex G0 G->Lf G a n->Dq (rs (λb=>D b\/b=a) G) x d->(fr=true->Nw (λb=>D b\/b=a) G0 G x d)->e.rt x G
structure PwS (l:Nat) (t:TS3) where
 w:Rho->Nat->QO->Prop
 mono:∀ {ρ n} {Q Q':QO},w ρ n Q->(∀ o m,Q o m->Q' o m)->w ρ n Q'
 ok:∀ {a z0 D G0 A τ ρ G n} {e:Ends3} {Q:QO},RL l a z0 D G0 A τ ρ G n->w ρ n Q->(∀ o m,Q o m->qcb l a z0 D G0 e o m)->t e τ G
section
variable {l:Nat}
def qbz:PwS l qH:=⟨λρ n Q=>Q (.nx ρ) n,λh k=>k _ _ h,λh hw k=>k _ _ hw _ _ _ h⟩
def sqw (b:Rho->Nat->QO->Prop) (Q:QO):QO:=λo n=>match o with|.nx ρ'=>b ρ' n Q|o=>Q o n
def KD {t u:TS3} (x:PwS l t) (y:PwS l u):PwS l (qK t u):=⟨λρ n Q=>x.w ρ n (sqw y.w Q),λh k=>x.mono h λo m h=>by
  cases o with
  |nx ρ=>exact y.mono h k
  |bk ρ=>exact k _ _ h
  |ct ρ=>exact k _ _ h
  |rt d f=>exact k _ _ h,λh hw k=>x.ok h hw λo m h=>by
  cases o with
  |nx ρ=>exact λA τ G r=>y.ok r h k
  |bk ρ=>exact k _ _ h
  |ct ρ=>exact k _ _ h
  |rt d f=>exact k _ _ h⟩
def wIf {c:TT3} {t u:TS3} (pc:PwC l c) (x:PwS l t) (y:PwS l u):PwS l (zM c t u):=⟨λρ n Q=>pc.w ρ n λk n1=>if k then x.w ρ n1 Q else y.w ρ n1 Q,λh k=>pc.mono h λj m h=>by
  cases j with
  |true=>rw [if_pos rfl] at h ⊢;exact x.mono h k
  |false=>exact y.mono h k,λh hw k=>pc.ok (h.all _) hw λj G1 n1 hj E1 L1=>by
  cases j with
  |true=>rw [if_pos rfl] at hj ⊢;exact x.ok (h.up E1 L1) hj k
  |false=>exact y.ok (h.up E1 L1) hj k⟩
def qg9 {a:Addr} {z0:Option (Option T)×Nat} {D:Addr->Prop} {G0 G G':Gp} {A:Nat->Option Addr} {τ:St3} {ρ:Rho} {n:Nat} (h:RL l a z0 D G0 A τ ρ G n) (e:Ext a G G'):Ex G0 G':=λb o x=>e b o (by rintro rfl;rw [h.r.fr l _ h.al] at x;cases x) (h.r.ex b o x)
def qh5 {t:TE3} (x:PwE l t):PwS l (qZ t):=⟨λρ n Q=>x.w ρ n λd n1=>Q (.rt d x.nw) n1,λh k=>x.mono h λd m h=>k _ _ h,λh hw k=>x.ok (h.all _) hw λy d G1 n1 hq E1 L1 D1 N1=>k _ _ hq y G1 (qg9 h E1) L1 D1 λz=>(N1 z).back h.r.ex⟩
def qa2 {t:TE3} (x:PwE l t) (i:Nat) (m:List Bool) (hm:Tru (x.fv.all (mkb m))) (hl:Tru (!mkb m l&&(i != l&&i != 0))):PwS l (zg t (gn3 i)):=⟨λρ n Q=>x.w ρ n λd n1=>Q (.nx (MG m x.nw i d ρ)) n1,λh k=>x.mono h λd m h=>k _ _ h,λ{a z0 D G0 A τ ρ G n e Q} h hw k=>by
 have hl':mkb m l=false/\i≠l/\i≠0:=by simpa using hl.h
 refine x.ok (h.ln hl'.1 hm) hw λy d G1 n1 hq E1 L1 D1 N1=>?_;have k:=k _ _ hq;unfold MG at k;show e.nx (τ.set i (some y)) G1;split at k
 ·rename_i hs;exact k _ _ _ ((h.up E1 L1).put hl'.2.1 hl'.2.2 (R7 D1 hs))
 ·split at k
  ·rename_i hn;have N:=N1 hn;rcases id N with h2|⟨p,xs,ds,h1,h2,_⟩
   ·exact absurd h2 (by assumption)
   subst h2;obtain ⟨A',r⟩:=(h.dem hl'.1).putN hl'.2.1 hl'.2.2 rfl E1 L1 N;exact k _ _ _ r
  ·exact k _ _ _ (((h.dem hl'.1).up E1 L1).put hl'.2.1 hl'.2.2 D1)⟩
def RL.evalS {a:Addr} {z0:Option (Option T)×Nat} {D:Addr->Prop} {G0 G:Gp} {A:Nat->Option Addr} {τ:St3} {ρ:Rho} {n:Nat} (h:RL l a z0 D G0 A τ ρ G n) {t:TE3} (x:PwE l t) (m:List Bool) (hm:Tru (x.fv.all (mkb m))) (hl:mkb m l=false) {Q:QD} (hw:x.w ρ n Q) (q:Q3) (k:∀ y d G' n' A1,Q d n'->RL l a z0 D G0 A1 τ (dmS m d ρ) G' n'->Ext a G G'->Dq (rs (AD D A1) G') y d->q y G'):t τ G q:=by
 refine x.ok (h.ln hl hm) hw λy d G1 n1 hq E1 L1 D1 _=>?_;by_cases hs:qdu d=true
 ·exact k y d G1 n1 A hq (by unfold dmS;rw [if_pos hs];exact h.up E1 L1) E1 (R7 D1 hs)
 ·exact k y d G1 n1 _ hq (by unfold dmS;rw [if_neg hs];exact (h.dem hl).up E1 L1) E1 D1
def qdN (gf:PyData->Option (List (Nat×PyData))) (bw:Rho->Nat->QO->Prop):List PyData->Rho->Nat->QO->Prop
 |[],ρ,n,Q=>Q (.nx ρ) n
 |d::r,ρ,n,Q=>∃ bs,gf d=some bs/\bw (YU ρ bs) n λo n1=>match o with
  |.nx ρ'=>qdN gf bw r ρ' n1 Q
  |.ct ρ'=>qdN gf bw r ρ' n1 Q
  |.bk ρ'=>Q (.nx ρ') n1
  |.rt d b=>Q (.rt d b) n1
def CW {g:TG3} {tb:TS3} (pg:PuG g) (pb:PwS l tb):∀ {ds:List PyData} {ρ:Rho} {n:Nat} {Q Q':QO},qdN pg.f pb.w ds ρ n Q->(∀ o m,Q o m->Q' o m)->qdN pg.f pb.w ds ρ n Q'
 |[],_,_,_,_,h,k=>k _ _ h
 |d::r,_,_,_,_,⟨bs,e,h⟩,k=>⟨bs,e,pb.mono h λo m h=>by
   cases o with
   |nx ρ=>exact CW pg pb h k
   |ct ρ=>exact CW pg pb h k
   |bk ρ=>exact k _ _ h
   |rt d b=>exact k _ _ h⟩
def SO {stay:Gp->Prop} {g:TG3} {tb:TS3} {e:Ends3} (pg:PuG g) (pb:PwS l tb) {a:Addr} {z0:Option (Option T)×Nat} {D:Addr->Prop} {G0:Gp} {Q:QO} (hl:∀ i∈pg.tg,i≠l/\i≠0) (hs:∀ A τ ρ G n,RL l a z0 D G0 A τ ρ G n->stay G) (k:∀ o m,Q o m->qcb l a z0 D G0 e o m) :
  ∀ (ds:List PyData) (items:List T),(∀ A τ ρ G n,RL l a z0 D G0 A τ ρ G n->Dqs (rs (AD D A) G) items ds)->∀ A τ ρ G n,RL l a z0 D G0 A τ ρ G n->qdN pg.f pb.w ds ρ n Q->SV stay g tb e items τ G
 |[],items,hi,A,τ,ρ,G,n,h,hw=>by
  have:=hi _ _ _ _ _ h;cases this;exact ⟨hs _ _ _ _ _ h,k _ _ hw _ _ _ h⟩
 |d::ds,items,hi,A,τ,ρ,G,n,h,⟨bs,e1,hw⟩=>by
  have hh:=hi _ _ _ _ _ h;cases hh with
  |cons hx hr=>
   rename_i x items;obtain ⟨ts,bd,kg⟩:=pg.ok hx e1;refine ⟨hs _ _ _ _ _ h,kg _ _ _ ?_⟩;obtain ⟨A',h'⟩:=h.puts bd λp hp=>hl _ (pg.at' e1 p hp);have hi':∀ A τ ρ G n,RL l a z0 D G0 A τ ρ G n->Dqs (rs (AD D A) G) items ds:=λA τ ρ G n h=>by
    have:=hi _ _ _ _ _ h;cases this with
    |cons a b=>exact b
   refine pb.ok h' hw λo m hq=>?_;cases o with
   |nx ρ'=>exact λA2 τ2 G2 h2=>SO pg pb hl hs k ds items hi' _ _ _ _ _ h2 hq
   |ct ρ'=>exact λA2 τ2 G2 h2=>SO pg pb hl hs k ds items hi' _ _ _ _ _ h2 hq
   |bk ρ'=>exact k _ _ hq
   |rt d fr=>exact k _ _ hq
def RL.base {a:Addr} {z0:Option (Option T)×Nat} {D:Addr->Prop} {G0 Gb G:Gp} {A:Nat->Option Addr} {τ:St3} {ρ:Rho} {n:Nat} (h:RL l a z0 D Gb A τ ρ G n) (e:Ex G0 Gb) (hd:Dom D G0):RL l a z0 D G0 A τ ρ G n:=⟨h.r.base e hd,h.al,h.tl,h.ul,h.lf,h.tz⟩
def qcb.base {a:Addr} {z0:Option (Option T)×Nat} {D:Addr->Prop} {G0 Gb:Gp} {e:Ends3} {o:Ot} {n:Nat} (h:qcb l a z0 D G0 e o n) (x:Ex G0 Gb) (hd:Dom D G0):qcb l a z0 D Gb e o n:=by
 cases o with
 |nx ρ=>exact λA τ G r=>h A τ G (r.base x hd)
 |bk ρ=>exact λA τ G r=>h A τ G (r.base x hd)
 |ct ρ=>exact λA τ G r=>h A τ G (r.base x hd)
 |rt d fr=>exact λy G p q r z=>h y G (x.trans p) q r λw=>(z w).back x
def qnO {wi:TI3} {g:TG3} {tb:TS3} (pi:PwI l wi) (pg:PuG g) (pb:PwS l tb) (m:List Bool) (hm:Tru (pi.fv.all (mkb m))) (hl:Tru (!mkb m l&&pg.tg.all (λi=>i != l&&i != 0))):PwS l (RQ wi g tb):=⟨λρ n Q=>pi.w ρ n λds n1=>qdN pg.f pb.w ds (if pi.nm then ρ else dm m ρ) n1 Q,λh k=>pi.mono h λd m h=>CW pg pb h k,λ{a z0 D G0 A τ ρ G n e Q} h hw k=>by
 have hl':mkb m l=false/\∀ i∈pg.tg,i≠l/\i≠0:=by simpa using hl.h
 refine pi.ok (h.ln hl'.1 hm) hw λitems stay ds G1 n1 hq E1 L1 D1 hs hnm=>?_;cases hb:pi.nm with
 |true=>
  rw [hb,if_pos rfl] at hq;obtain ⟨ns,rfl⟩:=hnm hb;have:=D1.ints;subst this;exact SO pg pb hl'.2 (λ_ _ _ _ _ _=>hs _ (.inl hb)) k _ _ (λA τ ρ G _ _=>Dqs.ofInts _) _ _ _ _ _ (h.up E1 L1) hq
 |false=>
  rw [hb,if_neg Bool.false_ne_true] at hq;have h1:=(h.dem hl'.1).up E1 L1;have b1:Ex G0 (rs (λb=>∃ i,Ad m A i=some b) G1):=λb o e=>by
   rw [QP]
   ·exact h1.r.ex _ _ e
   ·rintro ⟨i,z⟩;rw [h1.r.fr i _ z] at e;cases e
  have h2:RL l a z0 D (rs (λb=>∃ i,Ad m A i=some b) G1) (Ad m A) τ (dm m ρ) G1 n1:=⟨⟨WG,h.r.dm.up b1,λi p z=>by unfold rs;exact zS ⟨i,z⟩,h1.r.da,h1.r.inj,h1.r.len,h1.r.sh,h1.r.ow,h1.r.dc⟩,h1.al,h1.tl,h1.ul,h1.lf,h1.tz⟩
  have X:∀ A2 τ2 ρ2 G2,RS D (rs (λb=>∃ i,Ad m A i=some b) G1) A2 τ2 ρ2 G2->Ex (rs (AD D (Ad m A)) G1) (rs (AD D A2) G2):=λA2 τ2 ρ2 G2 r b o e=>by
   obtain ⟨n1,e⟩:=qM e;have eb:rs (λb=>∃ i,Ad m A i=some b) G1 b=some o:=by rw [QP (λz=>n1 (.inr z))];exact e
   rw [QP]
   ·exact r.ex _ _ eb
   ·rintro (z|⟨i,z⟩)
    ·exact n1 (.inl z)
    ·rw [r.fr i _ z] at eb;cases eb
  exact SO pg pb hl'.2 (λA2 τ2 ρ2 G2 n2 r=>hs _ (.inr ((X _ _ _ _ r.r).trans WG))) (λo m hq=>(k o m hq).base b1 h.r.dm) _ _ (λA2 τ2 ρ2 G2 n2 r=>D1.up (X _ _ _ _ r.r)) _ _ _ _ _ h2 hq⟩
end
def DSp (W:List PyData->Nat->QD->Prop) (fr:Bool):Sp3:=λts G q=>∃ (D:Addr->Prop) (a:Addr) (n:Nat) (ts':List T) (ds:List PyData) (Q:QD),ts=.ref a::ts'/\Lf G a n/\D a/\Dom D G/\Dqs (rs D G) ts' ds/\W ds n Q/\∀ x d G' n',Q d n'->Ext a G G'->Lf G' a n'->Dq (rs D G') x d->(fr=true->Nw D G G' x d)->q x G'
structure Wm where
 W:List PyData->Nat->QD->Prop
 mono:∀ {ds n} {Q Q':QD},W ds n Q->(∀ d m,Q d m->Q' d m)->W ds n Q'
def dSp (w:Wm) (fr:Bool):DrD (DSp w.W fr):=⟨w.W,fr,w.mono,λ{D G a n ts ds q Q} lf da hd hs hw k=>⟨D,a,n,ts,ds,Q,rfl,lf,da,hd,hs,hw,k⟩⟩
def qnY (fr:Bool) (Q:QD):QO:=λo n=>match o with
 |.rt d b=>(fr=true->b=true)/\∃ m,n<=m/\Q d m
 |.nx _=>fr=false/\∃ m,n<=m/\Q .none m
 |_=>False
def qoG {t:TS3} (b:PwS 0 t) (k N:Nat) (fr:Bool):Wm:=⟨λds n Q=>ds.length+1=k/\b.w (.un::(ds.map Sl.sh++List.replicate (N-(ds.length+1)) .un)) n (qnY fr Q),λ⟨h1,h2⟩ k=>⟨h1,b.mono h2 λo m h=>by
 cases o with
 |rt d f=>obtain ⟨h1,m,h2,h3⟩:=h;exact ⟨h1,m,h2,k _ _ h3⟩
 |nx ρ=>obtain ⟨h1,m,h2,h3⟩:=h;exact ⟨h1,m,h2,k _ _ h3⟩
 |bk ρ=>exact h
 |ct ρ=>exact h⟩⟩
def qbD {t:TS3} (b:PwS 0 t) (N:List Str) (k:Nat) (fr:Bool):∀ ts G q,DSp (qoG b k N.length fr).W fr ts G q->ts.length=k/\t { nx:=λ_ G'=>q .non G',rt:=q } (qv N ts) G:=by
 rintro ts G q ⟨D,a,n,ts',ds,Q,rfl,lf,da,hd,hs,⟨hk,hw⟩,h⟩;refine ⟨by simp [hs.length];omega,?_⟩;have DD:∀ b,(D b/\b≠a)\/b=a↔D b:=λb=>by
  by_cases e:b=a
  ·subst e;simp [da]
  ·simp [e]
 have rr:∀ H,rs (λb=>(D b/\b≠a)\/b=a) H=rs D H:=λH=>by
  have:(λb=>(D b/\b≠a)\/b=a)=D:=funext λb=>propext (DD b);rw [this]
 have ad:AD (λb=>D b/\b≠a) (λi=>if i=0 then some a else none)=D:=funext λb=>propext ⟨(λz=>by
   rcases z with z|⟨i,z⟩
   ·exact z.1
   ·simp only at z;split at z
    ·cases z;exact da
    ·cases z),(λz=>by
   by_cases e:b=a
   ·subst e;exact .inr ⟨0,rfl⟩
   ·exact .inl ⟨z,e⟩)⟩
 have ga:G a≠none:=CM lf;have r:RL 0 a (some (some (.ref a)),(qv N (.ref a::ts')).length) (λb=>D b/\b≠a) (rs (λb=>b=a) G) (λi=>if i=0 then some a else none) (qv N (.ref a::ts')) (.un::(ds.map Sl.sh++List.replicate (N.length-(ds.length+1)) .un)) G n:=by
  refine ⟨⟨WG,λb hb=>by rw [QP (D:=λb=>b=a) hb.2];exact hd b hb.1,λi p e=>?_,λi p e=>?_,λi j p e e'=>?_,by simp [qv,hs.length],λi d' e=>?_,λi es e=>?_,λi es e=>?_⟩,rfl,by simp [qv],rfl,lf,⟨by simp [qv],rfl⟩⟩
  ·split at e
   ·cases e;unfold rs;exact zS rfl
   ·cases e
  ·split at e
   ·cases e;exact ga
   ·cases e
  ·split at e
   ·split at e'
    ·rename_i h1 h2;rw [h1,h2]
    ·cases e'
   ·cases e
  ·rw [ad];cases i with
   |zero=>cases e
   |succ i=>
    rw [getElem?_cons_succ] at e;by_cases hi:i<ds.length
    ·rw [List.getElem?_append_left (by simpa using hi),getElem?_map] at e;obtain ⟨d2,e3,e4⟩:=Option.map_eq_some_iff.mp e;cases e4;obtain ⟨x,e5,hx⟩:=hs.get e3;refine ⟨x,?_,hx⟩;unfold qv;rw [List.getElem?_append_left (by simp [hs.length];exact hi),getElem?_map,getElem?_cons_succ,e5];rfl
    ·rw [List.getElem?_append_right (by simpa using hi),List.getElem?_replicate] at e;split at e<;>cases e
  ·cases i with
   |zero=>cases e
   |succ i=>
    rw [getElem?_cons_succ] at e;by_cases hi:i<ds.length
    ·rw [List.getElem?_append_left (by simpa using hi),getElem?_map] at e;obtain ⟨d2,e3,e4⟩:=Option.map_eq_some_iff.mp e;cases e4
    ·rw [List.getElem?_append_right (by simpa using hi),List.getElem?_replicate] at e;split at e<;>cases e
  ·cases i with
   |zero=>cases e
   |succ i=>
    rw [getElem?_cons_succ] at e;by_cases hi:i<ds.length
    ·rw [List.getElem?_append_left (by simpa using hi),getElem?_map] at e;obtain ⟨d2,e3,e4⟩:=Option.map_eq_some_iff.mp e;cases e4
    ·rw [List.getElem?_append_right (by simpa using hi),List.getElem?_replicate] at e;split at e<;>cases e
 have xe:∀ {G'},Ex (rs (λb=>b=a) G) G'->Ext a G G':=λe b o n x=>e b o (by rw [QP (D:=λb=>b=a) n];exact x);refine b.ok r hw λo m hq=>?_;cases o with
 |rt d f=>
  intro x G' E L Dx0 N;have Dx:=Dx0;rw [rr] at Dx;obtain ⟨hq1,m2,hm,hq2⟩:=hq;refine h x d G' m2 hq2 (xe E) (L.mono (by omega)) Dx λz=>?_;rcases N (hq1 z) with h2|⟨p,xs,ds',h1,h2,c,g,f'⟩
  ·exact .inl h2
  have np:p≠a:=by
   rintro rfl;rw [h1] at Dx0;cases Dx0 with
   |lst g0 _=>exact (qM g0).1 (.inr rfl)
  refine .inr ⟨p,xs,ds',h1,h2,by rw [QP (D:=λb=>b=a) np] at c;exact c,g,f'.up (QW λb z=>?_)⟩;rcases z with z|z
  ·exact .inl ((DD b).mpr z)
  ·exact .inr z
 |nx ρ=>
  obtain ⟨hq1,m2,hm,hq2⟩:=hq;exact λA τ G' r'=>h .non .none G' m2 hq2 (xe r'.r.ex) (r'.lf.mono (by omega)) .non λz=>by rw [hq1] at z;cases z
 |bk ρ=>exact hq.elim
 |ct ρ=>exact hq.elim
end Pu
namespace Pu
open PySem L2 L3
open Bk (Lf Ext Dl Dr)
def okW:QO:=λo _=>match o with|.nx _=>True|.ct _=>True|_=>False
def qqG (K:Int):TE3:=o3 QM (c3 (.int 1)) (cb3 qdm (qb (c3 (.int K)) (qb (cb3 U2 (qb (v3 0) qi)) qi)))
def qj0 {i:Nat} {τ:St3} {t:T} {G:Gp} {q:Q3} (h:τ[i]?=some (some t)):v3 i τ G q=q t G:=by unfold v3;rw [h]
def qqO (K:Int) (R:TS3):TS3:=qK (RQ (QR (qb (qqG K) qi)) (gn3 1) (qK (zg (cb3 Bk.VE (qb (v3 0) (qb (v3 1) qi))) (gn3 2)) R)) (qZ (c3 (.bl true)))
def qen {R:TS3} (b:PwS 2 R) (N:List Str) (K:Int) (M:Nat) (hK:0<=K/\K<=60) (hN:N.length=M+3) (h:∀ k:Nat,k<=60->b.w ([.un,.sh (.int k),.un]++List.replicate M .un) 0 okW):∀ ts G q,SF ts G q->ts.length=1/\qqO K R { nx:=λ_ G'=>q .non G',rt:=q } (qv N ts) G:=by
 rintro ts G q ⟨a,ns,rfl,hG,hl,hq⟩;refine ⟨rfl,?_⟩;have s0:(qv N [T.ref a])[0]?=some (some (.ref a)):=by simp [qv]
 have gl:getL G a=some (ns.map T.int):=by unfold getL;rw [hG]
 simp only [qqO,qK,RQ,QR,qqG,qb,qi,o3,c3,cb3,v3,s0,U2,gl,qdm,QM,length_map];have cnt:((1+(if ((ns.length:Nat):Int)<K then ((ns.length:Nat):Int) else K)).toNat)<=61:=by split<;>omega
 refine ⟨⟨by split<;>omega,by split<;>omega⟩,?_⟩;refine DW _ (λ_ τ G'=>G' a=some (.frz (ns.map T.int))/\τ[0]?=some (some (.ref a))/\τ.length=M+3) ⟨hG,s0,by simp [qv,hN]⟩ (λ_ _ _ _ _=>True.intro) ?_ ?_
 ·rintro i z τ G' nx hz ⟨gA,t0,tl⟩ hn;obtain ⟨hi,rfl⟩:=qb5 hz;have hi2:i<=60:=by omega
  have t1:(τ.set 1 (some (T.int (0+(i:Int)))))[0]?=some (some (.ref a)):=by rw [getElem?_set,if_neg (by omega)];exact t0
  have t2:(τ.set 1 (some (T.int (0+(i:Int)))))[1]?=some (some (T.int (0+(i:Int)))):=by rw [getElem?_set,if_pos rfl,if_pos (by omega)]
  show v3 0 (τ.set 1 (some (T.int (0+(i:Int))))) G' (λx G1=>v3 1 (τ.set 1 (some (T.int (0+(i:Int))))) G1 λy G2=>Bk.VE [x,y] G2 λz G3=>R _ ((τ.set 1 (some (T.int (0+(i:Int))))).set 2 (some z)) G3);rw [qj0 t1,qj0 t2];refine ⟨a,_,ns,rfl,gA,hl,by omega,by omega,λp o c hp ho=>?_⟩;have pa:a≠p:=by rintro rfl;rw [gA] at hp;cases hp
  have r:RL 2 p (some (some (.ref a)),M+3) (λ_=>False) G' (λj=>if j=2 then some p else none) ((τ.set 1 (some (T.int (0+(i:Int))))).set 2 (some (.ref p))) ([.un,.sh (.int i),.un]++List.replicate M .un) (gu G' p (.lst [.int o,.int c,.int 0])) 0:=by
   refine ⟨⟨jL hp,λb z=>z.elim,λj q e=>?_,λj q e=>?_,λj k q e e'=>?_,by simp [tl],λj d e=>?_,λj ds e=>?_,λj ds e=>?_⟩,rfl,by rw [getElem?_set,if_pos rfl,if_pos (by simp;omega)],rfl,⟨o,c,0,qB,ho,by omega,by omega⟩,⟨by rw [getElem?_set,if_neg (by omega)];exact t1,by simp [tl]⟩⟩
   ·split at e
    ·cases e;exact hp
    ·cases e
   ·split at e
    ·cases e;rw [qB];simp
    ·cases e
   ·split at e
    ·split at e'
     ·rename_i h1 h2;rw [h1,h2]
     ·cases e'
    ·cases e
   ·match j,e with
    |0,e=>cases e
    |1,e=>
     cases e;refine ⟨.int (0+(i:Int)),by rw [getElem?_set,if_neg (by omega)];exact t2,?_⟩;rw [Int.zero_add];exact .int _
    |2,e=>cases e
    |j+3,e=>
     simp only [cons_append,List.nil_append,getElem?_cons_succ,List.getElem?_replicate] at e;split at e<;>cases e
   ·match j,e with
    |0,e=>cases e
    |1,e=>cases e
    |2,e=>cases e
    |j+3,e=>
     simp only [cons_append,List.nil_append,getElem?_cons_succ,List.getElem?_replicate] at e;split at e<;>cases e
   ·match j,e with
    |0,e=>cases e
    |1,e=>cases e
    |2,e=>cases e
    |j+3,e=>
     simp only [cons_append,List.nil_append,getElem?_cons_succ,List.getElem?_replicate] at e;split at e<;>cases e
  refine b.ok r (h i hi2) λo' m ho'=>?_;cases o' with
  |nx ρ'=>exact λA τ' G2 r2=>hn _ _ ⟨r2.r.ex _ _ gA,r2.tz.1,r2.tz.2⟩
  |ct ρ'=>exact λA τ' G2 r2=>hn _ _ ⟨r2.r.ex _ _ gA,r2.tz.1,r2.tz.2⟩
  |bk ρ'=>exact ho'.elim
  |rt d f=>exact ho'.elim
 ·rintro τ G' ⟨gA,t0,tl⟩;exact hq G'
def qhh {G:Gp} {ts:List T} (h:Dqs G ts []):ts=[]:=by cases h;rfl
def qod {G:Gp} {ts:List T} {i:Int} (h:Dqs G ts [.int i]):ts=[.int i]:=by
 cases h with
 |cons a b=>cases b;cases a;rfl
def lfc {G:Gp} {a:Addr} {n c:Nat} (h:Lf G a ((n:Int)+(c:Int))):Lf G a ((n+c:Nat):Int):=by rw [Int.natCast_add];exact h
def qax:DrD Bk.qR:=⟨λds n Q=>∃ m:Int,ds=[.int m]/\(1<=m/\m<1073741824)/\n<1000000000/\∀ d:Int,0<=d->d<m->Q (.int d) (n+1),false,
 λ⟨m,h1,h2,h3,h4⟩ k=>⟨m,h1,h2,h3,λd x y=>k _ _ (h4 d x y)⟩,λ{D G a n ts ds q Q} lf da hd hs ⟨m,h1,h2,h3,h4⟩ k=>by
 subst h1;have:=qod hs;subst this;exact ⟨a,n,m,rfl,h2.1,h2.2,lf,by omega,λd G' x y L E=>k _ _ G' (n+1) (h4 d x y) E (lfc (c:=1) L) (.int d) (λz=>by cases z)⟩⟩
def S6:DrD Bk.Q5:=⟨λds n Q=>ds=[]/\n<100000/\∀ d:Dl,Dr d 16 16 32->d.dep<=2->Q (Pv.dlD d) (n+1000),false,
 λ⟨h1,h3,h4⟩ k=>⟨h1,h3,λd x y=>k _ _ (h4 d x y)⟩,λ{D G a n ts ds q Q} lf da hd hs ⟨h1,h3,h4⟩ k=>by
 subst h1;have:=qhh hs;subst this;exact ⟨a,n,rfl,lf,by omega,λd G' a1 a2 L E=>k _ _ G' (n+1000) (h4 d a1 a2) E (lfc (c:=1000) L) (Pv.qiz _ _) (λz=>by cases z)⟩⟩
def qnn (n:Nat):FnD (Bk.jT (n+1)):=⟨λds=>match ds with|[d,e]=>cif (d=e/\Bk.UY n d) (some (.bool true)) none|_=>none,false,λ{D G xs ds v q} hx hd hf k=>by
 split at hf
 ·unfold cif at hf;split at hf
  ·rename_i c;cases hf;obtain ⟨rfl,c⟩:=c;cases hx with
   |cons x b=>cases b with
    |cons y b=>
     cases b;exact ⟨_,_,_,rfl,(x.up WG).dp,(y.up WG).dp,c,λG' E=>k _ _ E (.bl true) (λz=>by cases z)⟩
  ·cases hf
 ·cases hf⟩
def qh1 {n:Nat} {d:PyData} (h:Bk.UY n d):(qnn n).f [d,d]=some (.bool true):=zS ⟨rfl,h⟩
def qms {l:Nat} {t:TE3} {b:PuE t}:(eOf (l:=l) b).w=λρ n Q=>∃ d,b.f ρ=some d/\Q d n:=id rfl
def qi2 {l:Nat} {t:TT3} {b:PuC t}:(cOf (l:=l) b).w=λρ n Q=>∃ d,b.f ρ=some d/\Q d n:=id rfl
def qmk {l:Nat} {t:TA3} {b:PuA t}:(aOf (l:=l) b).w=λρ n Q=>∃ d,b.f ρ=some d/\Q d n:=id rfl
def qj7 {l:Nat} {t:TI3} {b:PuI t}:(iOf (l:=l) b).w=λρ n Q=>∃ d,b.f ρ=some d/\Q d n:=id rfl
def qqs {l:Nat} {r:R3} {ta tb:TE3} {R:OpD r} {a:PwE l ta} {b:PwE l tb}:(eO R a b).w=λρ n Q=>a.w ρ n λx n1=>b.w ρ n1 λy n2=>∃ v,R.f x y=some v/\Q v n2:=id rfl
def qcg {l:Nat} {ta:TE3} {tr:TA3} {a:PwE l ta} {r:PwA l tr}:(qkB a r).w=λρ n Q=>a.w ρ n λx n1=>r.w ρ n1 λxs n2=>Q (x::xs) n2:=id rfl
def qgd {l:Nat} {t:TA3} {b:PwA l t} {hn:Tru (Nat.ble b.k 1000)}:(qqV b hn).w=λρ n Q=>b.w ρ n λxs n1=>Q (.list xs) n1:=id rfl
def qmK {l:Nat} {r:List T->Gp->Q3->Prop} {t:TA3} {R:DrD r} {b:PwA l t}:(eDr R b).w=λρ n Q=>b.w ρ n λxs n1=>R.W xs n1 Q:=id rfl
def qmf {l:Nat} {t:TE3} {b:PwE l t}:(cTb b).w=λρ n Q=>b.w ρ n λd n1=>∃ k,asB d=some k/\Q k n1:=id rfl
def qqU {l:Nat} {t:TE3} {b:PwE l t}:(iS b).w=λρ n Q=>b.w ρ n λd n1=>∃ ds,qbc d=some ds/\Q ds n1:=id rfl
def qjK {l:Nat} {t:TE3} {b:PwE l t}:(iS b).nm=false:=id rfl
def qfV {l:Nat} {t:TI3} {b:PuI t}:(iOf (l:=l) b).nm=b.nm:=id rfl
def qgf {l:Nat} {t:TE3} {b:PuE t}:(eOf (l:=l) b).nw=b.nw:=id rfl
def qgo {l:Nat} {r:List T->Gp->Q3->Prop} {t:TA3} {R:DrD r} {b:PwA l t}:(eDr R b).nw=R.nw:=id rfl
def qnf {l:Nat} {wi:TI3} {g:TG3} {tif:TT3} {te:TE3} {l2:Nat} {pi:PwI l wi} {pg:PuG g} {pc:PwC l2 tif} {pe:PwE l2 te} {m:List (Option Nat)} {hm:Tru (pg.tg.all λi=>m[i]?==some none)} {hl:Tru (m[l2]?==some (some l))}:(eLc l2 pi pg pc pe m hm hl).w=λρ n Q=>pi.w ρ n λds n1=>ds.length<=16777216/\lcW pg.f pc.w pe.w (MA m ρ) ds n1 λfs n2=>fs.length<=16777216/\Q (.list fs) n2:=id rfl
def qfC {l:Nat} {wi:TI3} {g:TG3} {tif:TT3} {te:TE3} {l2:Nat} {pi:PwI l wi} {pg:PuG g} {pc:PwC l2 tif} {pe:PwE l2 te} {m:List (Option Nat)} {hm:Tru (pg.tg.all λi=>m[i]?==some none)} {hl:Tru (m[l2]?==some (some l))}:(eLc l2 pi pg pc pe m hm hl).nw=true:=id rfl
def qbA {l:Nat}:(qbz (l:=l)).w=λρ n Q=>Q (.nx ρ) n:=id rfl
def qfS {l:Nat} {t u:TS3} {x:PwS l t} {y:PwS l u}:(KD x y).w=λρ n Q=>x.w ρ n (sqw y.w Q):=id rfl
def qgN {b:Rho->Nat->QO->Prop} {Q:QO} {ρ:Rho} {n:Nat}:sqw b Q (.nx ρ) n=b ρ n Q:=id rfl
def qfg {b:Rho->Nat->QO->Prop} {Q:QO} {d:PyData} {f:Bool} {n:Nat}:sqw b Q (.rt d f) n=Q (.rt d f) n:=id rfl
def ql8 {l:Nat} {c:TT3} {t u:TS3} {pc:PwC l c} {x:PwS l t} {y:PwS l u}:(wIf pc x y).w=λρ n Q=>pc.w ρ n λk n1=>if k then x.w ρ n1 Q else y.w ρ n1 Q:=id rfl
def qft {l:Nat} {t:TE3} {x:PwE l t}:(qh5 x).w=λρ n Q=>x.w ρ n λd n1=>Q (.rt d x.nw) n1:=id rfl
def qfr {l:Nat} {t:TE3} {x:PwE l t} {i:Nat} {m:List Bool} {hm:Tru (x.fv.all (mkb m))} {hl:Tru (!mkb m l&&(i != l&&i != 0))}:(qa2 x i m hm hl).w=λρ n Q=>x.w ρ n λd n1=>Q (.nx (MG m x.nw i d ρ)) n1:=id rfl
def qfZ {l:Nat} {wi:TI3} {g:TG3} {tb:TS3} {pi:PwI l wi} {pg:PuG g} {pb:PwS l tb} {m:List Bool} {hm:Tru (pi.fv.all (mkb m))} {hl:Tru (!mkb m l&&pg.tg.all (λi=>i != l&&i != 0))}:(qnO pi pg pb m hm hl).w=λρ n Q=>pi.w ρ n λds n1=>qdN pg.f pb.w ds (if pi.nm then ρ else dm m ρ) n1 Q:=id rfl
def qbr {ds:List PyData} {n:Nat} {Q:QD}:qax.W ds n Q=(∃ m:Int,ds=[.int m]/\(1<=m/\m<1073741824)/\n<1000000000/\∀ d:Int,0<=d->d<m->Q (.int d) (n+1)):=id rfl
def RX {ds:List PyData} {n:Nat} {Q:QD}:S6.W ds n Q=(ds=[]/\n<100000/\∀ d:Dl,Dr d 16 16 32->d.dep<=2->Q (Pv.dlD d) (n+1000)):=id rfl
def qah:qax.nw=false:=id rfl
def CL:S6.nw=false:=id rfl
def qkP {w:Wm} {fr:Bool}:(dSp w fr).W=w.W:=id rfl
def qdk {Q:QD} {d:PyData} {b:Bool} {n:Nat}:qnY false Q (.rt d b) n=∃ m,n<=m/\Q d m:=propext ⟨λh=>h.2,λh=>⟨λz=>(Bool.false_ne_true z).elim,h⟩⟩
def qeL {ρ:Rho} {n:Nat}:okW (.nx ρ) n=True:=id rfl
def qjn {α:Type} {v:α} {P:α->Prop}:(∃ d,some v=some d/\P d)=P v:=propext ⟨λ⟨d,h1,h2⟩=>by cases h1;exact h2,λh=>⟨v,rfl,h⟩⟩
def qe3 {v:Int} {P:Int->Prop}:(∃ m:Int,[PyData.int v]=[.int m]/\P m)=P v:=propext ⟨λ⟨d,h1,h2⟩=>by cases h1;exact h2,λh=>⟨v,rfl,h⟩⟩
def qfc {m:List Bool} {nw:Bool} {i:Nat} {d:Dl} {ρ:Rho}:MG m nw i (Pv.dlD d) ρ=(dm m ρ).set i (.sh (Pv.dlD d)):=by cases d<;>exact qih
def EF {l:Nat} {t u:TS3} {x:PwS l t} {y:PwS l u} {ρ:Rho} {n:Nat} {Q:QO} (h:∀ Y:Rho->Nat->QO->Prop,Y=y.w->x.w ρ n (sqw Y Q)):(KD x y).w ρ n Q:=h _ rfl
structure Mn (bw:Rho->Nat->QO->Prop):Prop where
 h:∀ ρ n (Q Q':QO),bw ρ n Q->(∀ o m,Q o m->Q' o m)->bw ρ n Q'
def PwS.mn {l:Nat} {t:TS3} (b:PwS l t):Mn b.w:=⟨λ_ _ _ _ h k=>b.mono h k⟩
structure MnE (bw:Rho->Nat->QD->Prop):Prop where
 h:∀ ρ n (Q Q':QD),bw ρ n Q->(∀ o m,Q o m->Q' o m)->bw ρ n Q'
def PwE.mn {l:Nat} {t:TE3} (b:PwE l t):MnE b.w:=⟨λ_ _ _ _ h k=>b.mono h k⟩
structure MnC (bw:Rho->Nat->(Bool->Nat->Prop)->Prop):Prop where
 h:∀ ρ n (Q Q':Bool->Nat->Prop),bw ρ n Q->(∀ o m,Q o m->Q' o m)->bw ρ n Q'
def mnT:MnC (λρ n Q=>Q true n):=⟨λ_ _ _ _ h k=>k _ _ h⟩
section
variable {l:Nat} {g:TG3} {tb:TS3}
def T5 {gf:PyData->Option (List (Nat×PyData))} {bw:Rho->Nat->QO->Prop} {α:Type} {f:α->PyData} (xs:List α) (mono:Mn bw) (I:Nat->Rho->Nat->Prop) {ρ:Rho} {n:Nat} {Q:QO} (h0:I 0 ρ n)
  (hs:∀ i x ρ n,xs[i]?=some x->I i ρ n->∃ bs,gf (f x)=some bs/\bw (YU ρ bs) n λo m=>match o with|.nx ρ'=>I (i+1) ρ' m|.ct ρ'=>I (i+1) ρ' m|.bk ρ'=>Q (.nx ρ') m|.rt d b=>Q (.rt d b) m)
  (k:∀ ρ n,I xs.length ρ n->Q (.nx ρ) n):qdN gf bw (xs.map f) ρ n Q:=by
 have key:∀ (r:List α) (i:Nat) (ρ:Rho) (n:Nat),xs.drop i=r->i<=xs.length->I i ρ n->qdN gf bw (r.map f) ρ n Q:=by
  intro r;induction r with
  |nil=>
   intro i ρ n e hi h;have:i=xs.length:=by
    have:=congrArg List.length e;simp at this;omega
   subst this;exact k ρ n h
  |cons x r ih=>
   intro i ρ n e hi h;have hl:i<xs.length:=by
    have:=congrArg List.length e;simp at this;omega
   have e':=List.drop_eq_getElem_cons hl;rw [e] at e';injection e' with e1 e2;obtain ⟨bs,h1,h2⟩:=hs i x ρ n (by rw [getElem?_eq_getElem hl,e1]) h;refine ⟨bs,h1,mono.h _ _ _ _ h2 λo m h=>?_⟩;cases o with
   |nx ρ'=>exact ih (i+1) ρ' m e2.symm hl h
   |ct ρ'=>exact ih (i+1) ρ' m e2.symm hl h
   |bk ρ'=>exact h
   |rt d b=>exact h
 exact key xs 0 ρ n (by simp) (Nat.zero_le _) h0
def NM {gf:PyData->Option (List (Nat×PyData))} {cw:Rho->Nat->(Bool->Nat->Prop)->Prop} {ew:Rho->Nat->QD->Prop} {α β:Type} {f:α->PyData} {gd:β->PyData} {ρ:Rho} (R:β->Prop) (c:Nat) (N:Nat):∀ (xs:List α) (n:Nat) (Q:List PyData->Nat->Prop),
  (∀ x∈xs,∀ n Q,n+c<=N->(∀ b,R b->Q (gd b) (n+c))->∃ bs,gf (f x)=some bs/\cw (YU ρ bs) n λk n1=>if k then ew (YU ρ bs) n1 Q else False) ->
  MnE ew->MnC cw->n+c*xs.length<=N->(∀ bs:List β,bs.length=xs.length->(∀ b∈bs,R b)->Q (bs.map gd) (n+c*xs.length))->lcW gf cw ew ρ (xs.map f) n Q
 |[],n,Q,_,_,_,_,h=>h [] rfl (by simp)
 |x::xs,n,Q,hx,me,mc,hn,h=>by
  have hc:c*(xs.length+1)=c*xs.length+c:=by rw [Nat.mul_succ]
  simp only [length_cons] at hn h;obtain ⟨bs,h1,h2⟩:=hx x (by simp) n (λy n2=>lcW gf cw ew ρ (xs.map f) n2 λys n3=>Q (y::ys) n3) (by omega) λb hb=>by
   refine NM R c N xs (n+c) _ (λz hz=>hx z (by simp [hz])) me mc (by omega) λcs hl hr=>?_;have:=h (b::cs) (by simp [hl]) (by intro z hz;rcases mem_cons.mp hz with rfl|hz;exact hb;exact hr z hz);rw [show n+c*(xs.length+1)=n+c+c*xs.length by omega] at this;exact this
  refine ⟨bs,h1,mc.h _ _ _ _ h2 λk m hk=>?_⟩;cases k with
  |true=>exact hk
  |false=>exact hk.elim
end
def qc8 {α β:Type} {x:α} {f:α->Option β}:(some x).bind f=f x:=id rfl
def qfM {α β:Type} {x:α} {f:α->β}:(some x).map f=some (f x):=id rfl
def qmr {α:Type} {x:α} {r:List α}:(x::r).length=r.length+1:=id rfl
def qmO {α:Type}:([]:List α).length=0:=id rfl
def qjy {α:Type} {x y:α} {r:List α}:(x::r).set 0 y=y::r:=id rfl
def qkv {α:Type} {x y:α} {r:List α} {i:Nat}:(x::r).set (i+1) y=x::r.set i y:=id rfl
def qja {α:Type} {r:List α}:r++[]=r:=List.append_nil r
def qln {α:Type} {x:α} {r s:List α}:(x::r)++s=x::(r++s):=id rfl
def qi5 {α:Type} {s:List α}:[]++s=s:=id rfl
def qlj {n:Nat}:0+n=n:=Nat.zero_add n
def qk1 {p:Prop}:(True/\p)=p:=true_and p
def qm1 {α:Type} {a b:α} {i:Decidable True}:@ite α True i a b=a:=if_pos trivial
def qnt {α:Type} {a b:α} {i:Decidable False}:@ite α False i a b=b:=if_neg not_false
def qjS:(false=true)=False:=Bool.false_eq_true
def qjj:(!true)=false:=id rfl
def qld:(!false)=true:=id rfl
def qmW {i:Decidable True}:@decide True i=true:=decide_true i
def qmb {i:Decidable False}:@decide False i=false:=decide_false i
def qnl {b:Bool}:(b&&true)=b:=Bool.and_true b
def qmw {b:Bool}:(true&&b)=b:=Bool.true_and b
def qkO {b:Bool}:(false&&b)=false:=Bool.false_and b
def qjk {b:Bool}:(b&&false)=false:=Bool.and_false b
def ai{a b:Prop}(x:a)(y:b):a/\b:=⟨x,y⟩
def pwA:=(ai (ai (ai (ai (ai (ai (ai @Pu.qms @Pu.qi2) (ai @Pu.qmk (ai @Pu.qj7 @Pu.qqs))) (ai (ai @Pu.qcg (ai @Pu.qgd @Pu.qmK)) (ai @Pu.qmf (ai @Pu.qqU @Pu.qjK)))) (ai (ai (ai @Pu.qfV @Pu.qgf) (ai @Pu.qgo (ai @Pu.qnf @Pu.qfC))) (ai (ai @Pu.qbA (ai @Pu.qfS @Pu.qgN)) (ai @Pu.qfg (ai @Pu.ql8 @Pu.qft))))) (ai (ai (ai (ai @Pu.qfr @Pu.qfZ) (ai @Pu.qbr (ai @Pu.RX @Pu.qah))) (ai (ai @Pu.CL (ai @Pu.qkP @Pu.qdk)) (ai @Pu.qeL (ai @Pu.qe3 @Pu.qfc)))) (ai (ai (ai @Pu.qkK (ai @Pu.qqw @Pu.qfh)) (ai @Pu.qkd (ai @Pu.qfQ @Pu.qqE))) (ai (ai @Pu.qf0 (ai @Pu.qb2 @Pu.qga)) (ai @Pu.qeW (ai @Pu.qbV @Pu.qj6)))))) (ai (ai (ai (ai (ai @Pu.qiV @Pu.qfK) (ai @Pu.qkj (ai @Pu.qbB @Pu.qcP))) (ai (ai @Pu.qmm (ai @Pu.qk2 @Pu.qgH)) (ai @Pu.qfR (ai @Pu.qkm @Pu.qme)))) (ai (ai (ai @Pu.qmn (ai @Pu.qkz @Pu.qeY)) (ai @Pu.qeT (ai @Pu.qe0 @Pu.qgI))) (ai (ai @Pu.qcD (ai @Pu.qjv @Pu.qmJ)) (ai @Pu.qls (ai @Pu.qgM @Pu.qck))))) (ai (ai (ai (ai @Pu.qfA @Pu.qdg) (ai @Pu.qfP (ai @Pu.qeR @Pu.qbj))) (ai (ai @Pu.N8 (ai @Pu.qbU @Pu.qqX)) (ai @Pu.qfd (ai @Pu.qbS @Pu.qf5)))) (ai (ai (ai @Pu.qcy (ai @Pu.qfE @Pu.qnD)) (ai @Pu.qe1 (ai @Pu.qcE @Pu.qgl))) (ai (ai @Pu.qb9 (ai @Pu.qgz @Pu.qe4)) (ai @Pu.qfy (ai @Pu.qjA @Pu.qcv))))))) (ai (ai (ai (ai (ai (ai @Pu.qgk @Pu.qlA) (ai @Pu.qb1 (ai @Pu.qcW @Pu.qar))) (ai (ai @Pu.qab (ai @Pu.qaq @Pu.qfx)) (ai @Pu.qda (ai @Pu.qbw @Pu.qc2)))) (ai (ai (ai @Pu.qdi (ai @Pu.qqS @Pu.qqD)) (ai @Pu.ql5 (ai @Pu.qjZ @Pu.qnL))) (ai (ai @Pu.qb6 (ai @Pu.qbn @Pu.qeK)) (ai @Pu.qlr (ai @Pu.qlK @Pu.at0))))) (ai (ai (ai (ai @Pu.at1 @Pu.at2) (ai @Pu.at3 (ai @Pu.eqS @Pu.eqI))) (ai (ai @Pu.qql (ai @Pu.qfm @Pu.qeS)) (ai @Pu.qgC (ai @Pu.qgc @Pu.qkJ)))) (ai (ai (ai @Pu.qlB (ai @Pu.qfL @Pu.qe2)) (ai @Pu.qfv (ai @Pu.qe7 @Pu.XW))) (ai (ai @Pu.qfN (ai @Pu.qfU @Pu.qkf)) (ai @Pu.qkV (ai @Pu.qkr @Pu.qmu)))))) (ai (ai (ai (ai (ai @Pu.qkL @Pu.qlz) (ai @Pu.qfz (ai @Pu.ql4 @Pu.qmc))) (ai (ai @Pu.qk4 (ai @Pu.qkh @Pu.qih)) (ai @Pu.qgh (ai @Pu.qfe @Pu.qqj)))) (ai (ai (ai @Pu.qqI (ai @Pu.qqL @Pu.qlS)) (ai @Pu.qni (ai @Pu.qmU @Pu.qjQ))) (ai (ai @Pu.qlJ (ai @Pu.qqJ @Pu.qjJ)) (ai @Pu.qfJ (ai @Pu.qfs @Pu.qfk))))) (ai (ai (ai (ai @Pu.qjn @Pu.qc8) (ai @Pu.qfM (ai @Pu.qmr @Pu.qmO))) (ai (ai @Pu.qjy (ai @Pu.qkv @Pu.qja)) (ai @Pu.qln (ai @Pu.qi5 @Pu.qlj)))) (ai (ai (ai @Pu.qk1 (ai @Pu.qm1 @Pu.qnt)) (ai @Pu.qjS (ai @Pu.qjj @Pu.qld))) (ai (ai @Pu.qmW (ai @Pu.qmb @Pu.qnl)) (ai @Pu.qmw (ai @Pu.qkO @Pu.qjk))))))))
end Pu
namespace Bk
open PySem L2 L3
end Bk
namespace Pu
open PySem L2 L3
open Bk (Lf Ext Dl Dr)
def the (S:PyData->Prop):Option PyData:=@dite _ (∃ v,S v) (Classical.propDecidable _) (λh=>some (Classical.choose h)) λ_=>none
end Pu
namespace Pu
open PySem L2 L3
def qaT (st:Bool):List PyData->Option PyData
 |[.none]=>some (.str "None")
 |[.bool b]=>some (.str (if b=true then Str.ofString "True" else Str.ofString "False"))
 |[.int i]=>cif (i.natAbs.log2<1920) (some (.str (Str.ofString (toString i)))) none
 |[.str x]=>match st with
  |true=>some (.str x)
  |false=>cif ((reprText x).length<=sizeLine) (some (.str (reprText x))) none
 |[.list ds]=>cif (ShW (.list ds)) (some (.str (PyData.list ds).shown)) none
 |[.tuple ds]=>cif (ShW (.tuple ds)) (some (.str (PyData.tuple ds).shown)) none
 |_=>none
def YZ {α:Type} {c:Prop} {x:α} {d:α} (h:cif c (some x) none=some d):c/\x=d:=by
 unfold cif at h;split at h
 ·rename_i z;exact ⟨z,Option.some.inj h⟩
 ·cases h
def D9 (st:Bool):FnD (TZ st):=⟨qaT st,false,λ{D G xs ds v q} hx hd hf k=>by
 cases hx with
 |nil=>cases hf
 |cons a b=>
  cases b with
  |cons b1 b2=>cases a<;>cases hf
  |nil=>
   have dp:=(a.up WG).dp;have fin:∀ (x:Str) {w:PyData},w=v->w=.str x->q (.str x) G:=λx w e1 e2=>k _ _ Ex.refl (by rw [← e1,e2];exact .str _) (λz=>by cases z);cases a with
   |non=>exact fin _ (Option.some.inj hf) rfl
   |bl b=>exact fin _ (Option.some.inj hf) rfl
   |int i=>exact ⟨(YZ hf).1,fin _ (YZ hf).2 rfl⟩
   |str x=>
    cases st with
    |true=>exact fin _ (Option.some.inj hf) rfl
    |false=>exact ⟨(YZ hf).1,fin _ (YZ hf).2 rfl⟩
   |tup hs=>exact ⟨_,dp,(YZ hf).1,fin _ (YZ hf).2 rfl⟩
   |lst g hs=>exact ⟨_,dp,(YZ hf).1,fin _ (YZ hf).2 rfl⟩⟩
def CC {st:Bool}:(D9 st).f=qaT st:=id rfl
def log2_lt {n k:Nat} (h:n<2 ^ k) (hk:0<k):n.log2<k:=by
 rcases Nat.eq_zero_or_pos n with z|z
 ·subst z;simpa using hk
 ·exact (Nat.log2_lt (by omega)).mpr h
def qbG {st:Bool} {i:Int} (h:-1000000000<=i/\i<=1000000000):qaT st [.int i]=some (.str (Str.ofString (toString i))):=zS (Nat.lt_of_lt_of_le (log2_lt (k:=30) (by omega) (by decide)) (by decide))
def qjL {x:Str}:qaT true [.str x]=some (.str x):=id rfl
def qcs {α:Type} (g:α->PyData) (xs:List α):∀ k,enD k (xs.map g)=(xs.zipIdx k).map λp=>PyData.tuple [.int (p.2:Int),g p.1]:=by
 induction xs with
 |nil=>intro k;rfl
 |cons x xs ih=>intro k;simp only [map_cons,enD,List.zipIdx_cons,ih (k+1)]
def SD {α:Type} {xs:List α} {i n:Nat} {x:α} (h:(xs.zipIdx 0)[i]?=some (x,n)):xs[i]?=some x/\n=i/\i<xs.length:=by
 rw [List.getElem?_zipIdx] at h;obtain ⟨c,hc,e⟩:=Option.map_eq_some_iff.mp h;simp only [Nat.zero_add,Prod.mk.injEq] at e;obtain ⟨rfl,rfl⟩:=e;exact ⟨hc,rfl,(List.getElem?_eq_some_iff.mp hc).1⟩
def qlD {ds:List PyData} {r:Int} (h0:0<=r) (h1:r<(ds.length:Int)):∃ v∈ds,L2.atI ds r=some v:=by
 obtain ⟨j,rfl⟩:=Int.eq_ofNat_of_zero_le h0;have hj:j<ds.length:=by omega
 exact ⟨ds[j],List.getElem_mem hj,by rw [atN hj,getElem?_eq_getElem hj]⟩
def qkE (d e:PyData):Option PyData:=match d,e with
 |.list xs,.int k=>cif ((-(2 ^ 63)<=k/\k<2 ^ 63)/\xs.length*k.toNat<=sizeLine) (some (.list (List.replicate k.toNat xs).flatten)) none
 |_,_=>none
def Dqs.rep {G:Gp} {xs:List T} {ds:List PyData} (h:Dqs G xs ds):∀ k,Dqs G (List.replicate k xs).flatten (List.replicate k ds).flatten
 |0=>.nil
 |k+1=>by
  rw [List.replicate_succ,List.flatten_cons,List.replicate_succ,List.flatten_cons];exact h.append (h.rep k)
def qnr:OpD qiR:=⟨qkE,true,λ{D G x y d e v q} hx hy hd hf k=>by
 unfold qkE at hf;cases hx with
 |lst g hs=>
  cases hy<;>try (simp at hf;done)
  simp only [cif] at hf;split at hf
  ·rename_i c;cases hf;simp only [qiR,(qM g).2];exact ⟨c.1,by rw [hs.length];exact c.2,λp hp=>k _ _ (jL hp) (YO hd hp (hs.rep _)) λ_=>CT hp (hs.rep _)⟩
  ·cases hf
 |_=>simp at hf⟩
def qhV:qnr.f=qkE:=id rfl
def qq9 {d:PyData} {k:Int} (h:-1000<=k/\k<=1000000):qkE (.list [d]) (.int k)=some (.list (List.replicate k.toNat d)):=by
 have e:(List.replicate k.toNat [d]).flatten=List.replicate k.toNat d:=by simp
 refine (zS ⟨by omega,?_⟩).trans (by rw [e]);rw [sizeLine_eq,List.length_singleton];omega
def qmT {xs:List PyData} {lo hi:Option Int}:slD (.list xs) lo hi=some (.list (UW xs lo hi)):=id rfl
def qec (d e:PyData):Option PyData:=match d,e with
 |.tuple _,.str _=>some (.bool false)
 |.list _,.str _=>some (.bool false)
 |d,e=>eqD false d e
def qa1:OpD qeC:=⟨qec,false,λ{D G x y d e v q} hx hy hd hf k=>by
 have hx':=hx;have hy':=hy;cases hx with
 |tup hs=>
  cases hy with
  |str s=>cases hf;exact k _ _ Ex.refl (.bl _) (λz=>by cases z)
  |_=>exact (UG false).ok hx' hy' hd hf k
 |lst g hs=>
  cases hy with
  |str s=>
   simp only [qeC,(qM g).2];cases hf;exact k _ _ Ex.refl (.bl _) (λz=>by cases z)
  |_=>exact (UG false).ok hx' hy' hd hf k
 |_=>exact (UG false).ok hx' hy' hd hf k⟩
def EN:qa1.f=qec:=id rfl
def qot {xs:List PyData} {s:Str}:qec (.tuple xs) (.str s)=some (.bool false):=id rfl
def qoT {xs:List PyData} {s:Str}:qec (.list xs) (.str s)=some (.bool false):=id rfl
def qqf {x s:Str}:qec (.str x) (.str s)=eqD false (.str x) (.str s):=id rfl
def qhw:List PyData->Option PyData
 |[.str x]=>cif (x.length<=sizeLine) (some (.int x.length)) none
 |_=>none
def qlh:FnD U2:=⟨qhw,false,λ{D G xs ds v q} hx hd hf k=>by
 cases hx with
 |nil=>cases hf
 |cons a b=>
  cases b with
  |cons b1 b2=>cases a<;>cases hf
  |nil=>
   cases a with
   |str x=>
    have:=YZ hf;refine ⟨this.1,?_⟩;exact k _ _ Ex.refl (by rw [← this.2];exact .int _) (λz=>by cases z)
   |_=>cases hf⟩
def qh3:qlh.f=qhw:=id rfl
def qoS (d:PyData) (lo hi:Option Int):Option PyData:=match d with
 |.str z=>cif ((Txt.slice z lo hi).length<=sizeLine) (some (.str (Txt.slice z lo hi))) none
 |_=>none
def qox {te:TE3} {tl th:TO3} (a:PuE te) (l:PuO tl) (h:PuO th):PuE (qiu te tl th):=⟨λρ=>(a.f ρ).bind λd=>(l.f ρ).bind λlo=>(h.f ρ).bind λhi=>qoS d lo hi,a.fv++(l.fv++h.fv),false,λhv hd hf k=>by
 obtain ⟨d,e1,hf⟩:=obb hf;obtain ⟨lo,e2,hf⟩:=obb hf;obtain ⟨hi,e3,hf⟩:=obb hf;refine a.ok hv.l hd e1 λx' G1 E1 D1 _=>l.ok (hv.r.l.up E1) (hd.up E1) e2 λG2 E2=>h.ok (hv.r.r.up (E1.trans E2)) (hd.up (E1.trans E2)) e3 λG3 E3=>?_;have E:=(E1.trans E2).trans E3;have D3:=(D1.up (JV E2)).up (JV E3);unfold qoS at hf;cases D3 with
 |str s=>
  simp only [cif] at hf;split at hf
  ·rename_i c;cases hf;exact ⟨c,k _ _ E (.str _) (λz=>by cases z)⟩
  ·cases hf
 |_=>simp at hf⟩
def qkc {te:TE3} {tl th:TO3} {a:PuE te} {l:PuO tl} {h:PuO th} {ρ:Rho}:(qox a l h).f ρ=(a.f ρ).bind λd=>(l.f ρ).bind λlo=>(h.f ρ).bind λhi=>qoS d lo hi:=id rfl
def qhY {te:TE3} {tl th:TO3} {a:PuE te} {l:PuO tl} {h:PuO th}:(qox a l h).nw=false:=id rfl
open Bk (Lf Ext)
end Pu
namespace Pu
open PySem L2 L3
section
variable {D:Addr->Prop} {G0 G G':Gp} {A A':Nat->Option Addr} {τ:St3} {ρ:Rho}
end
def KH:List PyData->Option (List Str)
 |[]=>some []
 |.str i::r=>(KH r).map (i::·)
 |_=>none
def KI (ns:List Str):KH (ns.map PyData.str)=some ns:=by
 induction ns with
 |nil=>rfl
 |cons n r ih=>simp [KH,ih]
def TK:∀ {xs:List PyData} {ns:List Str},KH xs=some ns->xs=ns.map PyData.str
 |[],_,h=>by simp [KH] at h;subst h;rfl
 |x::r,ns,h=>by
  unfold KH at h;split at h
  ·cases h;assumption
  ·rename_i a b c;obtain ⟨ms,e,rfl⟩:=Option.map_eq_some_iff.mp h;cases c;rw [map_cons,← TK e]
  ·cases h
def S0 {G:Gp}:∀ {ys:List Str} {xs:List T},Dqs G xs (ys.map PyData.str)->xs=ys.map T.str
 |[],_,h=>by cases h;rfl
 |y::ys,_,h=>by
  cases h with
  |cons a b=>cases a;rw [S0 b];rfl
def qaI (d:PyData) (es:List PyData):Option PyData:=match d,es with
 |.str sep,[.list ds]=>(KH ds).bind λys=>cif (NP sep ys) (some (.str (Txt.join sep ys))) none
 |_,_=>none
def qdd {te:TE3} {t:TA3} (b:PuE te) (a:PuA t):PuE (qaP SW te t):=⟨λρ=>(b.f ρ).bind λd=>(a.f ρ).bind λes=>qaI d es,b.fv++a.fv,false,λhv hd hf k=>by
 obtain ⟨d,e1,hf⟩:=obb hf;obtain ⟨es,e2,hf⟩:=obb hf;unfold qaI at hf;split at hf
 ·obtain ⟨ys,e3,hf⟩:=obb hf;unfold cif at hf;split at hf
  ·rename_i hk;cases hf;have:=TK e3;subst this;refine b.ok hv.l hd e1 λx G1 E1 D1 _=>?_;cases D1;refine ⟨trivial,a.ok (hv.r.up E1) (hd.up E1) e2 λzs G2 E2 D2=>?_⟩;cases D2 with
   |cons y1 y2=>
    cases y2;cases y1 with
    |lst g hs=>
     have:=S0 hs;subst this;simp only [SW,zC (qM g).2,qbC];exact ⟨hk,k _ _ (E1.trans E2) (.str _) (λz=>by cases z)⟩
  ·cases hf
 ·cases hf⟩
def NN {te:TE3} {t:TA3} {b:PuE te} {a:PuA t}:(qdd b a).f=λρ=>(b.f ρ).bind λd=>(a.f ρ).bind λes=>qaI d es:=id rfl
def qew {te:TE3} {t:TA3} {b:PuE te} {a:PuA t}:(qdd b a).nw=false:=id rfl
def M8 {sep:Str} {ys:List Str} (h:NP sep ys):qaI (.str sep) [.list (ys.map PyData.str)]=some (.str (Txt.join sep ys)):=by
 simp only [qaI,KI,Option.bind_some];exact zS h
def XA:List Str->Str
 |[]=>Str.empty
 |x::r=>x++XA r
structure PuF (ps:List (Str ⊕ TE3)) where
 f:Rho->Option (List Str)
 fv:List Nat
 ok:∀ {D τ ρ G} {q:Q3} {xs:List Str} (acc:Str),C2 fv D G τ ρ->Dom D G->f ρ=some xs->(acc++XA xs).length<=sizeLine->(∀ G',Ex G G'->q (.str (acc++XA xs)) G')->fs3 ps acc τ G q
def qhm:PuF []:=⟨λ_=>some [],[],λacc _ _ hf hl k=>by
 cases hf;unfold XA at hl k;rw [Str.append_empty] at hl k;exact ⟨hl,k _ Ex.refl⟩⟩
def qaJ {ps:List (Str ⊕ TE3)} (x:Str) (r:PuF ps):PuF (.inl x::ps):=⟨λρ=>(r.f ρ).map (x::·),r.fv,λacc hv hd hf hl k=>by
 obtain ⟨xs,e,rfl⟩:=Option.map_eq_some_iff.mp hf;unfold XA at hl k;rw [← Str.append_assoc] at hl k;refine ⟨by rw [Str.length_append] at hl;omega,r.ok (acc++x) hv hd e hl k⟩⟩
def qkp:PyData->Option Str
 |.str y=>some y
 |.int i=>cif (i.natAbs.log2<1920) (some (Str.ofString (toString i))) none
 |_=>none
def qbm {te:TE3} {ps:List (Str ⊕ TE3)} (a:PuE te) (r:PuF ps):PuF (.inr te::ps):=⟨λρ=>(a.f ρ).bind λd=>(qkp d).bind λy=>(r.f ρ).map (y::·),a.fv++r.fv,λ{D τ ρ G q xs} acc hv hd hf hl k=>by
 obtain ⟨d,e1,hf⟩:=obb hf;obtain ⟨y,e2,hf⟩:=obb hf;obtain ⟨xs,e3,rfl⟩:=Option.map_eq_some_iff.mp hf;unfold XA at hl k;rw [← Str.append_assoc] at hl k;have hl2:(acc++y).length<=sizeLine:=by rw [Str.length_append] at hl;omega
 refine a.ok hv.l hd e1 λx G1 E1 D1 _=>?_;unfold qkp at e2;split at e2
 ·cases e2;cases D1;exact ⟨by rw [Str.length_append] at hl2;omega,hl2,r.ok _ (hv.r.up E1) (hd.up E1) e3 hl λG' E=>k G' (E1.trans E)⟩
 ·unfold cif at e2;split at e2
  ·rename_i c;cases e2;cases D1;exact ⟨c,hl2,r.ok _ (hv.r.up E1) (hd.up E1) e3 hl λG' E=>k G' (E1.trans E)⟩
  ·cases e2
 ·cases e2⟩
def bFs {ps:List (Str ⊕ TE3)} (p:PuF ps):PuE (fs3 ps Str.empty):=⟨λρ=>(p.f ρ).bind λxs=>cif ((XA xs).length<=sizeLine) (some (.str (XA xs))) none,p.fv,false,λhv hd hf k=>by
 obtain ⟨xs,e,hf⟩:=obb hf;unfold cif at hf;split at hf
 ·rename_i c;cases hf;exact p.ok Str.empty hv hd e (by rw [Str.empty_append];exact c) λG' E=>by rw [Str.empty_append];exact k _ _ E (.str _) (λz=>by cases z)
 ·cases hf⟩
def qmQ {ps:List (Str ⊕ TE3)} {p:PuF ps}:(bFs p).f=λρ=>(p.f ρ).bind λxs=>cif ((XA xs).length<=sizeLine) (some (.str (XA xs))) none:=id rfl
def qcL {ρ:Rho}:qhm.f ρ=some []:=id rfl
def qb3 {ps:List (Str ⊕ TE3)} {x:Str} {r:PuF ps} {ρ:Rho}:(qaJ x r).f ρ=(r.f ρ).map (x::·):=id rfl
def qcN {te:TE3} {ps:List (Str ⊕ TE3)} {a:PuE te} {r:PuF ps} {ρ:Rho}:(qbm a r).f ρ=(a.f ρ).bind λd=>(qkp d).bind λy=>(r.f ρ).map (y::·):=id rfl
def qjB {y:Str}:qkp (.str y)=some y:=id rfl
def qpx {i:Int} (h:-1000000000<=i/\i<=1000000000):qkp (.int i)=some (Str.ofString (toString i)):=zS (Nat.lt_of_lt_of_le (log2_lt (k:=30) (by omega) (by omega)) (by omega))
def SR (d:PyData) (es:List PyData):Option PyData:=match d,es with
 |.str a,[.str b]=>some (.bool (Txt.startswith a b))
 |_,_=>none
def qbp {te:TE3} {t:TA3} (b:PuE te) (a:PuA t):PuE (qaP X8 te t):=⟨λρ=>(b.f ρ).bind λd=>(a.f ρ).bind λes=>SR d es,b.fv++a.fv,false,λhv hd hf k=>by
 obtain ⟨d,e1,hf⟩:=obb hf;obtain ⟨es,e2,hf⟩:=obb hf;unfold SR at hf;split at hf
 ·cases hf;refine b.ok hv.l hd e1 λx G1 E1 D1 _=>?_;cases D1;refine ⟨trivial,a.ok (hv.r.up E1) (hd.up E1) e2 λzs G2 E2 D2=>?_⟩;cases D2 with
  |cons y1 y2=>
   cases y2;cases y1;exact k _ _ (E1.trans E2) (.bl _) (λz=>by cases z)
 ·cases hf⟩
def qb8 {te:TE3} {t:TA3} {b:PuE te} {a:PuA t}:(qbp b a).f=λρ=>(b.f ρ).bind λd=>(a.f ρ).bind λes=>SR d es:=id rfl
def QZ {G:Gp}:∀ (ys:List Str),Dqs G (ys.map T.str) (ys.map PyData.str)
 |[]=>.nil
 |y::ys=>.cons (.str y) (QZ ys)
def LD (d:PyData) (es:List PyData):Option PyData:=match d,es with
 |.str a,[.str b]=>cif (b.length≠0/\a.length+2<=sizeLine) (some (.list ((Txt.split a b).map PyData.str))) none
 |_,_=>none
def qgG {te:TE3} {t:TA3} (b:PuE te) (a:PuA t):PuE (qaP LK te t):=⟨λρ=>(b.f ρ).bind λd=>(a.f ρ).bind λes=>LD d es,b.fv++a.fv,false,λhv hd hf k=>by
 obtain ⟨d,e1,hf⟩:=obb hf;obtain ⟨es,e2,hf⟩:=obb hf;unfold LD at hf;split at hf
 ·unfold cif at hf;split at hf
  ·rename_i c;cases hf;refine b.ok hv.l hd e1 λx G1 E1 D1 _=>?_;cases D1;refine ⟨trivial,a.ok (hv.r.up E1) (hd.up E1) e2 λzs G2 E2 D2=>?_⟩;cases D2 with
   |cons y1 y2=>
    cases y2;cases y1;exact ⟨c.1,c.2,λp hp=>k _ _ ((E1.trans E2).trans (jL hp)) (YO ((hd.up E1).up E2) hp (QZ _)) (λz=>by cases z)⟩
  ·cases hf
 ·cases hf⟩
def qeD {te:TE3} {t:TA3} {b:PuE te} {a:PuA t}:(qgG b a).f=λρ=>(b.f ρ).bind λd=>(a.f ρ).bind λes=>LD d es:=id rfl
def qey {a b:Str} (h1:b.length≠0) (h2:a.length+2<=sizeLine):LD (.str a) [.str b]=some (.list ((Txt.split a b).map PyData.str)):=zS ⟨h1,h2⟩
def qnW (d e:PyData):Option PyData:=match d,e with
 |.str a,.str b=>some (.bool (Txt.contains b a))
 |_,_=>none
def qhs:OpD qn3:=⟨qnW,false,λ{D G x y d e v q} hx hy hd hf k=>by
 unfold qnW at hf;split at hf
 ·cases hf;cases hx;cases hy;exact k _ _ Ex.refl (.bl _) (λz=>by cases z)
 ·cases hf⟩
def NC:qhs.f=qnW:=id rfl
def qcx:List PyData->Option PyData
 |[.str x]=>if x.length<=640 then (PySem.intText? x).map PyData.int else none
 |_=>none
def qhr:FnD qem:=⟨qcx,false,λ{D G xs ds v q} hx hd hf k=>by
 unfold qcx at hf;split at hf
 ·split at hf
  ·rename_i c;obtain ⟨n,e,rfl⟩:=Option.map_eq_some_iff.mp hf;cases hx with
   |cons a b=>
    cases b;cases a;exact ⟨c,n,e,k _ _ Ex.refl (.int _) (λz=>by cases z)⟩
  ·cases hf
 ·cases hf⟩
def qhP:qhr.f=qcx:=id rfl
def qdH:qhr.nw=false:=id rfl
def CV (x:Str):List Str:=x.cps.toList.map λc=>⟨#[c]⟩
def qn7:PyData->Option (List PyData)
 |.str x=>if x.cps.all (·<128)=true then some ((CV x).map PyData.str) else none
 |_=>none
def qdy (x:Str):WZ x=(CV x).map T.str:=by simp [WZ,CV]
def qo0 {t:TE3} (a:PuE t):PuI (qhK t):=⟨λρ=>(a.f ρ).bind qn7,a.fv,false,λhv hd hf k=>by
 obtain ⟨d,e1,hf⟩:=obb hf;unfold qn7 at hf;split at hf
 ·split at hf
  ·rename_i c;cases hf;refine a.ok hv hd e1 λx G1 E1 D1 _=>?_;cases D1;refine ⟨c,?_⟩;rw [qdy];exact k _ _ _ E1 (QZ _) (λ_ _=>trivial) (λz=>by cases z)
  ·cases hf
 ·cases hf⟩
def qbq {t:TE3} {a:PuE t}:(qo0 a).f=λρ=>(a.f ρ).bind qn7:=id rfl
def qd3:PyData->Option (List PyData)
 |.list (d::ds)=>if ds.length<16384 then some [d,.list ds] else none
 |_=>none
def qnj {t:TE3} (a:PuE t) (i j:Nat) (m:List Bool) (hm:Tru (a.fv.all (mkb m))):PuS (zg t (qak (qG (gn3 i) (qG (gn3 j) QC)))):=⟨λ_ ρ=>(a.f ρ).bind λd=>(qd3 d).bind λds=>match ds with|[x,y]=>some (.nx (((dm m ρ).set i (.sh x)).set j (.sh y)))|_=>none,λ{D G0 A τ ρ G n o e} h hf k=>by
 obtain ⟨d,e1,hf⟩:=obb hf;obtain ⟨ds,e2,hf⟩:=obb hf;unfold qd3 at e2;split at e2
 ·rename_i d0 dr;split at e2
  ·rename_i c;cases e2;cases hf;refine a.ok (h.viewD hm) (h.dem m).dom e1 λx G1 E1 D1 N1=>?_;cases D1 with
   |lst g hs=>
    cases hs with
    |cons y1 ys=>
     rename_i x0 xr;simp only [qak,zC (qM g).2];refine ⟨by rw [ys.length];exact c,λl hl=>?_⟩;have hd1:=(h.dem m).dom.up E1;have E2:=E1.trans (jL (o:=.lst xr) hl);exact k _ _ _ ((((h.dem m).up E2).put i (y1.up (JV (jL hl)))).put j ((YO hd1 hl ys).up qhL))
  ·cases e2
 ·cases e2⟩
def S8 {t:TE3} {a:PuE t} {i j:Nat} {m:List Bool} {hm:Tru (a.fv.all (mkb m))}:(qnj a i j m hm).f=λ_ ρ=>(a.f ρ).bind λd=>(qd3 d).bind λds=>match ds with|[x,y]=>some (.nx (((dm m ρ).set i (.sh x)).set j (.sh y)))|_=>none:=id rfl
def qjP (R:TS3):TS3:=qK (zg (QQ (qb (QQ qi) qi)) (gn3 1)) (qK (RQ (ZR (v3 0)) (gn3 2) (zM (tb3 (o3 (zV false) (v3 2) (c3 (.str "/")))) (UZ (bm3 KG (v3 1) (qb (QQ qi) qi))) (UZ (bm3 KG (o3 ix3 (v3 1) (u3 K6 (c3 (.int 1)))) (qb (v3 2) qi))))) R)
def VZ:List Str->List (List Str)->List Str->List (List Str)
 |[],acc,cur=>acc++[cur]
 |w::ws,acc,cur=>if w="/" then VZ ws (acc++[cur]) [] else VZ ws acc (cur++[w])
abbrev wsD (ys:List Str):PyData:=.list (ys.map PyData.str)
def qbY {R:TS3} (c:PuS R):List PyData->Option PyData
 |[.list ds]=>(KH ds).bind λws=>cif (ws.length<=100000) (match c.f 1000000000 [.sh (.list ds),.sh (.list ((VZ ws [] []).map wsD)),.un] with|some (.rt d _)=>some d|_=>none) none
 |_=>none
structure RwI (G G':Gp) (ws:List Str) (i:Nat) (p:Addr):Prop where
 ex:Ex G G'
 gp:G p=none
 rw:∃ xa rl acc cur,G' p=some (.lst (xa++[.ref rl]))/\rl≠p/\G rl=none/\G' rl=some (.lst (cur.map T.str))/\Dqs (rs (λb=>b=p\/b=rl\/G b≠none) G') xa (acc.map wsD)/\VZ (ws.drop i) acc cur=VZ ws [] []/\xa.length<=i/\cur.length<=i
def MN {w:Str} {ws:List Str} {acc:List (List Str)} {cur:List Str}:VZ (w::ws) acc cur=if w="/" then VZ ws (acc++[cur]) [] else VZ ws acc (cur++[w]):=id rfl
def qhS {xa:List T} {x:T}:atI (xa++[x]) (-1)=some x:=by
 have h:ixN (xa++[x]).length (-1)=some xa.length:=by
  unfold ixN;rw [if_neg (by decide),if_pos (by simp;omega)];simp
  try omega
 unfold atI;rw [h];simp
def qbR {R:TS3} (c:PuS R) (N:List Str) (hN:N.length=3):∀ ts G q,PSp (qbY c) false ts G q->ts.length=1/\qjP R { nx:=λ_ G'=>q .non G',rt:=q } (qv N ts) G:=by
 rintro ts G q ⟨D,ds,d,hs,hd,hf,h⟩;unfold qbY at hf;split at hf
 ·rename_i ds';obtain ⟨ws,e1,hf⟩:=obb hf;unfold cif at hf;split at hf
  ·rename_i hw;have:=TK e1;subst this;cases hs with
   |cons a b=>
    cases b;rename_i t0;refine ⟨rfl,?_⟩;have s0:qv N [t0]=[some t0,none,none]:=by
     match N,hN with
     |[_,_,_],_=>rfl
    rw [s0];unfold qjP qK;simp only [zg,QQ,qb,qi,gn3,set_cons_succ,set_cons_zero];refine ⟨by decide,λl hl=>⟨by rw [sizeLine_eq];simp,λp hp=>?_⟩⟩;have lp:l≠p:=by rintro rfl;rw [qB] at hp;cases hp
    have gl:G p=none:=by rw [jc (Ne.symm lp)] at hp;exact hp
    cases a with
    |lst g hs'=>
     have:=S0 hs';subst this;rename_i pa;have ga:=(qM g).2;have pl:pa≠l:=by rintro rfl;rw [ga] at hl;cases hl
     have pp:pa≠p:=by rintro rfl;rw [ga] at gl;cases gl
     have E0:Ex G (gu (gu G l (.lst [])) p (.lst [.ref l])):=(jL hl).trans (jL hp);simp only [RQ,ZR,v3,getElem?_cons_zero,zC (E0 _ _ ga)];refine DW _ (λi τ G'=>∃ s2,τ=[some (.ref pa),some (.ref p),s2]/\RwI G G' ws i p) ⟨none,rfl,E0,gl,[],l,[],[],qB,lp,hl,by rw [jc lp,qB];rfl,.nil,rfl,Nat.zero_le _,Nat.zero_le _⟩ ?_ ?_ ?_
     ·rintro i τ G' _ ⟨s2,rfl,I⟩;exact zC (I.ex _ _ ga)
     ·rintro i x τ G' nx hx ⟨s2,rfl,I⟩ hn;rw [getElem?_map] at hx;obtain ⟨w,hw1,rfl⟩:=Option.map_eq_some_iff.mp hx;have hi:=(List.getElem?_eq_some_iff.mp hw1).1;have hdr:ws.drop i=w::ws.drop (i+1):=by
       rw [List.drop_eq_getElem_cons hi];have:=(List.getElem?_eq_some_iff.mp hw1).2;rw [this]
      obtain ⟨E,gp,xa,rl,acc,cur,g1,n1,f1,g2,fz,er,lx,lc⟩:=I;rw [hdr] at er;rw [MN] at er;show zM _ _ _ _ [some (.ref pa),some (.ref p),some (.str w)] G';simp only [zM,tb3,o3,v3,c3,zV,jF,getElem?_cons_zero,getElem?_cons_succ];by_cases hc:w="/"
      ·rw [if_pos hc] at er;simp only [hc,decide_true,if_true,Bool.false_eq_true,if_false,UZ,bm3,v3,KG,qb,QQ,qi,getElem?_cons_succ,getElem?_cons_zero,zC g1];refine ⟨rfl,by decide,λl' hl'=>?_⟩;have l1:l'≠p:=by rintro rfl;rw [g1] at hl';cases hl'
       have l2:l'≠rl:=by rintro rfl;rw [g2] at hl';cases hl'
       have l0:G l'=none:=by
        cases z:G l' with
        |none=>rfl
        |some o=>rw [E _ _ z] at hl';cases hl'
       simp only [jc (Ne.symm l1),g1];refine ⟨by rw [sizeLine_eq];simp;omega,hn _ _ ⟨_,rfl,?_⟩⟩;refine ⟨λb o z=>?_,gp,xa++[.ref rl],l',acc++[cur],[],qB,l1,l0,by rw [jc l1,qB];rfl,?_,er,by simp;omega,Nat.zero_le _⟩
       ·have b1:b≠p:=by rintro rfl;rw [gp] at z;cases z
        have b2:b≠l':=by rintro rfl;rw [l0] at z;cases z
        rw [jc b1,jc b2];exact E _ _ z
       ·rw [List.map_append];refine Dqs.append (fz.up λb o z=>?_) (.cons (.lst (xs:=cur.map T.str) ?_ (QZ _)) .nil)
        ·obtain ⟨z1,z2⟩:=qM z;have b2:b≠l':=by rintro rfl;rw [z2] at hl';cases hl'
         rw [QP (λy=>?_),jc (λy=>z1 (.inl y)),jc b2]
         ·exact z2
         ·rcases y with y|y|y
          ·exact z1 (.inl y)
          ·exact b2 y
          ·exact z1 (.inr (.inr y))
        ·rw [QP (λy=>?_),jc n1,jc (Ne.symm l2)]
         ·exact g2
         ·rcases y with y|y|y
          ·exact n1 y
          ·exact l2 y.symm
          ·exact y f1
      ·rw [if_neg hc] at er;simp only [hc,decide_false,if_false,Bool.false_eq_true,UZ,bm3,v3,KG,qb,o3,ix3,u3,K6,c3,qi,getElem?_cons_succ,getElem?_cons_zero,zC g1,qhS,zC g2,g2];refine ⟨rfl,by rw [sizeLine_eq];simp;omega,hn _ _ ⟨_,rfl,?_⟩⟩;refine ⟨λb o z=>?_,gp,xa,rl,acc,cur++[w],by rw [jc (Ne.symm n1)];exact g1,n1,f1,by rw [qB];simp,?_,er,by omega,by simp;omega⟩
       ·have b1:b≠rl:=by rintro rfl;rw [f1] at z;cases z
        rw [jc b1];exact E _ _ z
       ·refine fz.up λb o z=>?_;obtain ⟨z1,z2⟩:=qM z;rw [QP z1,jc (λy=>z1 (.inr (.inl y)))];exact z2
     ·rintro τ G' ⟨s2,rfl,I⟩;obtain ⟨E,gp,xa,rl,acc,cur,g1,n1,f1,g2,fz,er,lx,lc⟩:=I;rw [length_map,List.drop_length] at er;have nD:∀ b,G b=none->¬ D b:=λb z y=>hd b y z;have dqp:Dq (rs D G') (.ref p) (.list ((VZ ws [] []).map wsD)):=by
       rw [← er];show Dq _ _ (.list ((acc++[cur]).map wsD));rw [List.map_append];refine .lst (by rw [QP (nD _ gp)];exact g1) (Dqs.append (fz.up λb o z=>?_) (.cons (.lst (by rw [QP (nD _ f1)];exact g2) (QZ _)) .nil));obtain ⟨z1,z2⟩:=qM z;rw [QP (λy=>z1 (.inr (.inr (hd b y))))];exact z2
      have r:RS D G (λ_=>none) [some (.ref pa),some (.ref p),s2] [.sh (.list (ws.map PyData.str)),.sh (.list ((VZ ws [] []).map wsD)),.un] G':=by
       have AN:AD D (λ_=>none)=D:=by
        funext b;exact propext ⟨λz=>z.elim id λ⟨_,y⟩=>(by cases y),.inl⟩
       refine ⟨E,hd,(λi p e=>by cases e),(λi p e=>by cases e),(λi j p e=>by cases e),rfl,λi d' e=>?_,λi es e=>?_,λi es e=>?_⟩
       ·rw [AN]
        match i,e with
        |0,e=>cases e;exact ⟨_,rfl,.lst (by rw [QP (qM g).1];exact E _ _ ga) (QZ _)⟩
        |1,e=>cases e;exact ⟨_,rfl,dqp⟩
        |2,e=>cases e
       ·match i,e with
        |0,e=>cases e
        |1,e=>cases e
        |2,e=>cases e
       ·match i,e with
        |0,e=>cases e
        |1,e=>cases e
        |2,e=>cases e
      split at hf
      ·rename_i d' fr' hc;cases hf;exact c.ok r hc λx G2 E2 D2 _=>h x G2 E2 D2 (λz=>by cases z)
      ·cases hf
  ·cases hf
 ·cases hf
def qcj (i:Nat) (d:PyData) (ρ:Rho):Option Ot:=match (vw ρ i).bind asI,asI d with|some x,some y=>some (.nx (ρ.set i (.sh (.int (x-y)))))|_,_=>none
def qk9 {t:TE3} (a:PuE t) (i:Nat):PuS (MF i (iI (·-·)) t):=⟨λ_ ρ=>(a.f ρ).bind λd=>qcj i d ρ,λ{D G0 A τ ρ G n o e} h hf k=>by
 obtain ⟨d,e1,hf⟩:=obb hf;unfold qcj at hf;split at hf
 ·rename_i u v hu hv;cases hf;obtain ⟨w,e2,hu⟩:=obb hu;have:=SK hu;subst this;have:=SK hv;subst this;obtain ⟨t,b,c⟩:=h.viewAll [i] i (by simp) _ e2;cases c;simp only [MF,b];refine a.ok (h.viewAll _) h.domD e1 λy G1 E1 D1 _=>?_;cases D1;exact k _ _ _ ((h.up E1).put i (.int _))
 ·cases hf⟩
def T9 {t:TE3} {a:PuE t} {i:Nat}:(qk9 a i).f=λ_ ρ=>(a.f ρ).bind λd=>qcj i d ρ:=id rfl
open Bk (Lf Ext)
def qkD {l:Nat} {t:TE3} {u:C1} (x:PwE l t) (k:Nat) (b:PuGs u) (m:List Bool) (hm:Tru (x.fv.all (mkb m))) (hl:Tru (!mkb m l&&b.tg.all (λi=>i != l&&i != 0))):PwS l (zg t (N6 k u)):=⟨λρ n Q=>x.w ρ n λd n1=>∃ ds bs,d=.list ds/\ds.length=k/\b.f ds=some bs/\Q (.nx (YU (dm m ρ) bs)) n1,λh k=>x.mono h λd m ⟨ds,bs,h0,h1,h2,h3⟩=>⟨ds,bs,h0,h1,h2,k _ _ h3⟩,λ{a z0 D G0 A τ ρ G n e Q} h hw k=>by
 have hl':mkb m l=false/\∀ i∈b.tg,i≠l/\i≠0:=by simpa using hl.h
 refine x.ok (h.ln hl'.1 hm) hw λy d G1 n1 ⟨ds,bs,e0,e1,e2,hq⟩ E1 L1 D1 N1=>?_;subst e0;cases D1 with
 |lst g hs=>
  obtain ⟨ts,bd,kg⟩:=b.ok hs e2;simp only [N6,zC (qM g).2];refine ⟨by rw [hs.length];exact e1,kg _ _ _ ?_⟩;obtain ⟨A',h'⟩:=((h.dem hl'.1).up E1 L1).puts bd (λp hp=>hl'.2 _ (b.at' e2 p hp));exact k _ _ hq _ _ _ h'⟩
def qg2 {l:Nat} {t:TE3} {u:C1} {x:PwE l t} {k:Nat} {b:PuGs u} {m:List Bool} {hm:Tru (x.fv.all (mkb m))} {hl:Tru (!mkb m l&&b.tg.all (λi=>i != l&&i != 0))} {ρ:Rho} {n:Nat} {Q:QO}:(qkD x k b m hm hl).w ρ n Q=x.w ρ n λd n1=>∃ ds bs,d=.list ds/\ds.length=k/\b.f ds=some bs/\Q (.nx (YU (dm m ρ) bs)) n1:=id rfl
end Pu
namespace Pu
open PySem L2 L3
open Bk (Dl)
end Pu
namespace Pv
open PySem L2 L3 Pu
def NW {lo:Int} {n i:Nat} {x:Int} (h:(RJ lo n)[i]?=some x):i<n/\x=lo+i:=by
 unfold RJ at h;rw [getElem?_map] at h;obtain ⟨k,e1,e2⟩:=Option.map_eq_some_iff.mp h;obtain ⟨hl,hk⟩:=List.getElem?_eq_some_iff.mp e1;simp at hl hk;subst hk;exact ⟨hl,e2.symm⟩
def qai (lo:Int) (n:Nat):(RJ lo n).length=n:=by simp [RJ]
open Bk (Dl)
end Pv
namespace Pv
open PySem L2 L3 Pu
open Bk (Dl)
end Pv
namespace Hd
open PySem L2 L3 PySem.W
def oF (x:Str) (st:Stmt) (pm cd:Value):Obj:=⟨.type "function",none,.func (PySem.W.fnOf x x (VJ st) (QK st) (qj st) .none .none .none pm none cd .none),#[]⟩
def oG (x:Str) (st:Stmt):Obj:=⟨.none,none,.func { name:=x,qualname:=x,params:=VJ st,body:=.stmts (QK st),scope:=qj st,globals:=0,closure:=[],defaults:=.none,kwdefaults:=.none },#[]⟩
def oC (vs:List Value):Obj:=⟨.type "code",none,.fields vs.toArray,#[]⟩
def oT (vs:List Value):Obj:=⟨.type "tuple",none,.seq vs.toArray 0,#[]⟩
def eD (P:Params):Value×Value->DictEntry
 | (.str x t,v)=>⟨PyData.keyHash P x,.str x t,v⟩
 | (u,v)=>⟨0,u,v⟩
def oD (P:Params) (n:Nat) (es:List (Value×Value)):Obj:=⟨.type "dict",none,.dict (es.map (eD P)).toArray n,#[]⟩
def oK (x:Str) (t l n m:Nat) (a b:Addr) (u v z:Value) (e y q:Nat):Obj:=oC [.str x t,.str x (t+1),.str "/claim/cut.py" (t+2),.int l 0,.int n 0,.int 0 0,.int 0 0,.int 3 0,.ref a,.bool true,.int m 0,.ref b,u,v,z,.ref e,.int y 0,.int l 0,.str "/claim/cut.py" q]
def nmV:List Str->Nat->List Value
 |[],_=>[]
 |x::r,t=>.str x t::nmV r (t+1)
def oN (xs:List Str) (t:Nat):Obj:=oT (nmV xs t)
abbrev nd (o:Obj) (l r:PySem.W.BT):PySem.W.BT:=.node o l r
abbrev lf (o:Obj):PySem.W.BT:=.node o .nil .nil
def zX {K:Frg} (x:Str) (st:Stmt) (f:Addr) (pm cd:Value) (l:K.lookup f=some (oF x st pm cd)) (c:PySem.W.codeIn K cd x=true) (k:PySem.W.keepIn K (.ref f)=true) :
  Fun K x x st f (PySem.W.fnOf x x (VJ st) (QK st) (qj st) .none .none .none pm none cd .none):=qly l c k
def zR {K:Frg} {h:Heap} {mg:Str->Option Value} (X:K.In h) (G:h.Ns mainGlobals mg) (n:Str) (v:Value) (e:PySem.W.nsIn K mainGlobals n=some (some v)):mg n=some v:=PySem.W.mg_of X G e
def WT {K:Frg} {h:Heap} {mg:Str->Option Value} (X:K.In h) (G:h.Ns mainGlobals mg) (n:Str) (e:PySem.W.nsIn K mainGlobals n=some none):mg n=none:=PySem.W.mg_none_of X G e
def head {l:OpenLaw} {q:Program} {loose:List Str} {K:Params->Frag} {as:List Addr} {d:DefRec} {N:Nat} {k:Nat} {x:Str} (ha:∀ P,as=(K P).map (·.1))
  (ok:l.wellSaid=true)
  (left:LeftO l.prog q loose (λs=>xlAt q [] s&&recOk [] s) (λs=>as.map s.heap.get?) (λw=>(K w.params).map λp=>some p.2) N)
  (hdef:defOf q l.name=some (d,[])) (hp:l.prog.theDef l.name=some (d.params,d.body,d.scope)) (hk:kwWritten? d.params.kwonlyargs d.params.kw_defaults=some [])
  (hwr:(!l.row.writes||l.row.records.isEmpty)=true) (ok2:(chainsOk q&&opensWell l.prog&&(frees l.row.toRowW&&l.row.within.isEmpty))=true) (hb:l.prog.bare) (hw:l.row.toRowW.promised)
  (hn:l.most=some 63) (hdf:d.params.defaults=[]) (hr:Room k callerA) (hK:∀ w:World,WO (K w.params)=true)
  (F:∀ (w:World) (mg:Str->Option Value) (fa:Addr) (h:Heap),(K w.params).In h->h.Ns mainGlobals mg->mg d.name=some (.ref fa) ->
   ∃ fd:FuncData,(∀ (s:Shared) (u:Value),BindsTo s fd ⟨[u],[]⟩ [(x,u)])/\∀ base:Heap,(K w.params).In base->base.Ns mainGlobals mg->FnOk l.prog w (K w.params) mg base CX0 k fa fd [x] (lSp (K w.params) SF)):l.Holds:=by
 refine holds_law ok λsaid=>?_;exact holds_open (q:=q) (loose:=loose) (Xt:=λs=>xlAt q [] s&&recOk [] s) (XP:=XL q []) (Yf:=Hook.obs (kHook K as ha)) (Ya:=Hook.val (kHook K as ha)) (YP:=Hook.says (kHook K as ha)) (N:=N) left
  (Hook.of (kHook K as ha)) (Hook.keeps (kHook K as ha)) (λs e=>xl_of s (Bool.and_eq_true_iff.mp e).1) XL.keeps hdef hp hk (λs e=>recFacts_of (Bool.and_eq_true_iff.mp e).2) hwr said ok2 hb hw
  (L3.qpR (l:=l) (k:=k) (x:=x) hn hdf hr (λw h Y=>kIn_of Y) hK F)
end Hd
namespace L3
open PySem PySem.Spec PyProof.Rows L2
end L3
namespace Hd
open PySem PySem.Spec PyProof.Rows L2 L3 PySem.W
end Hd
namespace Pu
open PySem L2 L3
end Pu
namespace K77
open PySem L2 L3 Bk
def top (i : Nat) : Stmt := PySem.Challenge.pw_bankwalk_k77_dealings_read.main.body.getD i (.Pass ⟨0,0,0,0⟩)
variable {P:Program} {w:World} {K:Frg} {mg:Str->Option Value} {base:Heap} {f:Addr} {fd:FuncData} {k:Nat} {sp:Sp3}
abbrev ZJ:Stmt:=top 1
abbrev VM:List Str:=["thing"]
abbrev EI:List Str:=["thing"]
def KZ:FnScope VM EI (qj ZJ):=⟨rfl,rfl,rfl,by decide +kernel,rfl,by decide +kernel,by decide +kernel⟩
def KO (F:Fun K "is_number" "is_number" ZJ f fd) (bd:zt K fd EI []) (hm:mg "is_number" = some (.ref f))   (m_isinstance:mg "isinstance" = none) (m_bool:mg "bool" = none) (m_int:mg "int" = none)
  (read:Rd sp 1 (Bk.VB) VM):Fn3 P w K mg base (k+1) "is_number" sp:=
 qF (t3:=(Bk.VB)) F KZ bd hm (λcdv A outer s H E hr=>(qm (qp (YR (JT (qc 0) rfl m_isinstance rfl m_int PyProof.Rows.boot_int) (DT (qeX (JT (qc 0) rfl m_isinstance rfl m_bool PyProof.Rows.boot_bool))))))) read
abbrev jG:Stmt:=top 2
abbrev j9:List Str:=["thing","least"]
abbrev YW:List Str:=["thing","least"]
def RP:FnScope j9 YW (qj jG):=⟨rfl,rfl,rfl,by decide +kernel,rfl,by decide +kernel,by decide +kernel⟩
def Z4 (S_is_number:Sp3):TS3:=(qZ (JF (cb3 S_is_number (qb (v3 0) qi)) (o3 (iB λi j=>decide (j<=i)) (v3 0) (v3 1))))
def RD {S_is_number:Sp3} (F:Fun K "is_at_least" "is_at_least" jG f fd) (bd:zt K fd YW []) (hm:mg "is_at_least" = some (.ref f)) (jr:Fn3 P w K mg base k "is_number" S_is_number)  
  (read:Rd sp 2 (Z4 S_is_number) j9):Fn3 P w K mg base (k+1) "is_at_least" sp:=
 qF (t3:=(Z4 S_is_number)) F RP bd hm (λcdv A outer s H E hr=>(qm (qp (YR (qh jr hr rfl (qa (qc 0) qe)) (DT (ZU qhb ZW (qc 0) (qc 1) (qr _))))))) read
abbrev js:Stmt:=top 3
abbrev Q4:List Str:=["things","least"]
abbrev YD:List Str:=["things","least"]
def XZ:FnScope Q4 YD (qj js):=⟨rfl,rfl,rfl,by decide +kernel,rfl,by decide +kernel,by decide +kernel⟩
def Q1 (S_is_at_least:Sp3):TS3:=(qZ (cb3 KF (qb (lc3 (ZR (v3 0)) (gn3 0) tt3 (cb3 S_is_at_least (qb (v3 0) (qb (v3 1) qi))) [none,some 1]) qi)))
def CD {S_is_at_least:Sp3} (F:Fun K "are_at_least" "are_at_least" js f fd) (bd:zt K fd YD []) (hm:mg "are_at_least" = some (.ref f)) (qQ:Fn3 P w K mg base k "is_at_least" S_is_at_least)  (m_all:mg "all" = none)
  (read:Rd sp 2 (Q1 S_is_at_least) Q4):Fn3 P w K mg base (k+1) "are_at_least" sp:=
 qF (t3:=(Q1 S_is_at_least)) F XZ bd hm (λcdv A outer s H E hr=>(qm (qp (qU (je rfl) WJ rfl m_all PyProof.Rows.boot_all (qa (VV ["thing","least"] [none,some 1] rfl (JI (qc 0)) (λ_ _ _=>(jgn 0)) (λ_ _ _=>jm) (λ_ _ _=>(qh qQ hr rfl (qa (qc 0) (qa (qc 1) qe)))) (by kernel_rfl) (by kernel_rfl)) qe))))) read
abbrev zx:Stmt:=top 8
abbrev zH:List Str:=["one","other"]
abbrev QE:List Str:=["one","other"]
def JL:FnScope zH QE (qj zx):=⟨rfl,rfl,rfl,by decide +kernel,rfl,by decide +kernel,by decide +kernel⟩
def jg:TS3:=(qK (R6 (tb3 (o3 (iB λi j=>decide (j<i)) (v3 1) (c3 (.int 0)))) (R9 0 1 (qb (v3 1) (qb (o3 (iC (λ_ j=>0<j) (·%·)) (v3 0) (v3 1)) qi)))) (qZ (o3 (zV false) (v3 0) (c3 (.int 1)))))
def EL (F:Fun K "share_no_divisor" "share_no_divisor" zx f fd) (bd:zt K fd QE []) (hm:mg "share_no_divisor" = some (.ref f))   
  (read:Rd sp 2 (jg) zH):Fn3 P w K mg base (k+1) "share_no_divisor" sp:=
 qF (t3:=(jg)) F JL bd hm (λcdv A outer s H E hr=>(qg (N0 PassesOwn.never (qC NO ZW (qc 1) qd (qr _)) (qm (SH (i:=0) (j:=1) rfl JL.nd rfl rfl (by decide) rfl rfl (qa (qc 1) (qa (U1 (qc 0) (qc 1)) qe))))) (qm (qp (ZU (zh hr.units) qN (qc 0) qd (qr _)))))) read
abbrev YS:Stmt:=top 9
abbrev DK:List Str:=["thing"]
abbrev X6:List Str:=["thing"]
def qaU:FnScope DK X6 (qj YS):=⟨rfl,rfl,rfl,by decide +kernel,rfl,by decide +kernel,by decide +kernel⟩
def DP (S_are_at_least:Sp3):TS3:=(qZ (JF (o3 (zV false) (cb3 U2 (qb (v3 0) qi)) (c3 (.int 6))) (JF (cb3 S_are_at_least (qb (SJ (v3 0) (sp3 (c3 (.int 1))) (sp3 (c3 (.int 4)))) (qb (c3 (.int 1)) qi))) (cb3 S_are_at_least (qb (SJ (v3 0) (sp3 (c3 (.int 4))) np3) (qb (c3 (.int 0)) qi))))))
def qaL {S_are_at_least:Sp3} (F:Fun K "is_skew" "is_skew" YS f fd) (bd:zt K fd X6 []) (hm:mg "is_skew" = some (.ref f)) (qk:Fn3 P w K mg base k "are_at_least" S_are_at_least)  (m_len:mg "len" = none)
  (read:Rd sp 1 (DP S_are_at_least) DK):Fn3 P w K mg base (k+1) "is_skew" sp:=
 qF (t3:=(DP S_are_at_least)) F qaU bd hm (λcdv A outer s H E hr=>(qm (qp (YR (ZU (zh hr.units) qN (qU zI ju rfl m_len PySem.boot_len (qa (qc 0) qe)) qd (qr _)) (YR (qh qk hr rfl (qa (jQ (qc 0) (zw qd) (zw qd)) (qa qd qe))) (DT (qh qk hr rfl (qa (jQ (qc 0) (zw qd) QU) (qa qd qe))))))))) read
abbrev JN:Stmt:=top 10
abbrev YH:List Str:=["thing","rows","columns","banks","places"]
abbrev WK:List Str:=["thing"]
def JD:FnScope YH WK (qj JN):=⟨rfl,rfl,rfl,by decide +kernel,rfl,by decide +kernel,by decide +kernel⟩
def UP (S_are_at_least:Sp3) (S_share_no_divisor:Sp3):TS3:=(qK (zM (or3 (tb3 (o3 (zV true) (cb3 U2 (qb (v3 0) qi)) (c3 (.int 5)))) (CQ (tb3 (cb3 S_are_at_least (qb (SJ (v3 0) (sp3 (c3 (.int 1))) np3) (qb (c3 (.int 1)) qi)))))) (qZ (c3 (.bl false))) qH) (qK (zg (SJ (v3 0) (sp3 (c3 (.int 1))) np3) (ZI 4 (qG (gn3 1) (qG (gn3 2) (qG (gn3 3) (qG (gn3 4) QC)))))) (qZ (JF (cb3 S_share_no_divisor (qb (v3 3) (qb (v3 4) qi))) (o3 (iB λi j=>decide (j<=i)) (o3 (iC XQ (·*·)) (v3 3) (v3 4)) (o3 (iC XQ (·*·)) (v3 1) (v3 2)))))))
def M3 {S_are_at_least:Sp3} {S_share_no_divisor:Sp3} (F:Fun K "is_rests" "is_rests" JN f fd) (bd:zt K fd WK []) (hm:mg "is_rests" = some (.ref f)) (qk:Fn3 P w K mg base k "are_at_least" S_are_at_least) (qT:Fn3 P w K mg base k "share_no_divisor" S_share_no_divisor)  (m_len:mg "len" = none)
  (read:Rd sp 1 (UP S_are_at_least S_share_no_divisor) YH):Fn3 P w K mg base (k+1) "is_rests" sp:=
 qF (t3:=(UP S_are_at_least S_share_no_divisor)) F JD bd hm (λcdv A outer s H E hr=>(qg (zl (jpt (DG (qC (V4 hr.units) JK (qU zI ju rfl m_len PySem.boot_len (qa (qc 0) qe)) qd (qr _)) (VS (J4 (ZV (qh qk hr rfl (qa (jQ (qc 0) (zw qd) QU) (qa qd qe)))))))) (qm (qp XB)) qI) (qg (YL (jQ (qc 0) (zw qd) QU) (VT rfl (qP (qA (i:=1) (JD.nd)) (qP (qA (i:=2) (JD.nd)) (qP (qA (i:=3) (JD.nd)) (qP (qA (i:=4) (JD.nd)) J2)))))) (qm (qp (YR (qh qT hr rfl (qa (qc 3) (qa (qc 4) qe))) (DT (ZU qhb ZW (UA (qc 3) (qc 4)) (UA (qc 1) (qc 2)) (qr _))))))))) read
abbrev YK:Stmt:=top 11
abbrev EU:List Str:=["thing","high","low","masks"]
abbrev CK:List Str:=["thing"]
def UR:FnScope EU CK (qj YK):=⟨rfl,rfl,rfl,by decide +kernel,rfl,by decide +kernel,by decide +kernel⟩
def DA (S_are_at_least:Sp3):TS3:=(qK (zM (or3 (tb3 (o3 (zV true) (cb3 U2 (qb (v3 0) qi)) (c3 (.int 4)))) (CQ (tb3 (cb3 S_are_at_least (qb (SJ (v3 0) (sp3 (c3 (.int 1))) (sp3 (c3 (.int 3)))) (qb (c3 (.int 0)) qi)))))) (qZ (c3 (.bl false))) qH) (qK (zg (SJ (v3 0) (sp3 (c3 (.int 1))) np3) (ZI 3 (qG (gn3 1) (qG (gn3 2) (qG (gn3 3) QC))))) (qK (zM (or3 (CQ (tb3 (E9 (λt=>jP t "tuple") (v3 3)))) (CQ (tb3 (cb3 S_are_at_least (qb (v3 3) (qb (c3 (.int 0)) qi)))))) (qZ (c3 (.bl false))) qH) (qZ (cb3 KF (qb (lc3 (ZR (v3 3)) (gn3 0) tt3 (o3 (iB λi j=>decide (i<=j)) (bl3 (v3 0)) (o3 QM (v3 1) (v3 2))) [none,some 1,some 2]) qi))))))
def qaz {S_are_at_least:Sp3} (F:Fun K "is_bits" "is_bits" YK f fd) (bd:zt K fd CK []) (hm:mg "is_bits" = some (.ref f)) (qk:Fn3 P w K mg base k "are_at_least" S_are_at_least)  (m_len:mg "len" = none) (m_isinstance:mg "isinstance" = none) (m_tuple:mg "tuple" = none) (m_all:mg "all" = none)
  (read:Rd sp 1 (DA S_are_at_least) EU):Fn3 P w K mg base (k+1) "is_bits" sp:=
 qF (t3:=(DA S_are_at_least)) F UR bd hm (λcdv A outer s H E hr=>(qg (zl (jpt (DG (qC (V4 hr.units) JK (qU zI ju rfl m_len PySem.boot_len (qa (qc 0) qe)) qd (qr _)) (VS (J4 (ZV (qh qk hr rfl (qa (jQ (qc 0) (zw qd) (zw qd)) (qa qd qe)))))))) (qm (qp XB)) qI) (qg (YL (jQ (qc 0) (zw qd) QU) (VT rfl (qP (qA (i:=1) (UR.nd)) (qP (qA (i:=2) (UR.nd)) (qP (qA (i:=3) (UR.nd)) J2))))) (qg (zl (jpt (DG (J4 (ZV (JT (qc 3) rfl m_isinstance rfl m_tuple PyProof.Rows.boot_tuple))) (VS (J4 (ZV (qh qk hr rfl (qa (qc 3) (qa qd qe)))))))) (qm (qp XB)) qI) (qm (qp (qU (je rfl) WJ rfl m_all PyProof.Rows.boot_all (qa (VV ["mask","high","low"] [none,some 1,some 2] rfl (JI (qc 3)) (λ_ _ _=>(jgn 0)) (λ_ _ _=>jm) (λ_ _ _=>(ZU qht ZW (qbx (qc 0)) (zo (qc 1) (qc 2)) (qr _))) (by kernel_rfl) (by kernel_rfl)) qe)))))))) read
abbrev jJ:Stmt:=top 12
abbrev Z5:List Str:=["thing","wide","banks"]
abbrev VN:List Str:=["thing","wide","banks"]
def RK:FnScope Z5 VN (qj jJ):=⟨rfl,rfl,rfl,by decide +kernel,rfl,by decide +kernel,by decide +kernel⟩
def Z7 (S_are_at_least:Sp3):TS3:=(qK (zM (or3 (CQ (tb3 (E9 (λt=>jP t "tuple") (v3 0)))) (or3 (tb3 (o3 (zV true) (cb3 U2 (qb (v3 0) qi)) (v3 1))) (CQ (tb3 (cb3 S_are_at_least (qb (v3 0) (qb (c3 (.int 0)) qi))))))) (qZ (c3 (.bl false))) qH) (qZ (cb3 KF (qb (lc3 (ZR (v3 0)) (gn3 0) tt3 (o3 (iB λi j=>decide (i<j)) (v3 0) (v3 1)) [none,some 2]) qi))))
def RE {S_are_at_least:Sp3} (F:Fun K "is_bank_row" "is_bank_row" jJ f fd) (bd:zt K fd VN []) (hm:mg "is_bank_row" = some (.ref f)) (qk:Fn3 P w K mg base k "are_at_least" S_are_at_least)  (m_len:mg "len" = none) (m_isinstance:mg "isinstance" = none) (m_tuple:mg "tuple" = none) (m_all:mg "all" = none)
  (read:Rd sp 3 (Z7 S_are_at_least) Z5):Fn3 P w K mg base (k+1) "is_bank_row" sp:=
 qF (t3:=(Z7 S_are_at_least)) F RK bd hm (λcdv A outer s H E hr=>(qg (zl (jpt (DG (J4 (ZV (JT (qc 0) rfl m_isinstance rfl m_tuple PyProof.Rows.boot_tuple))) (DG (qC (V4 hr.units) JK (qU zI ju rfl m_len PySem.boot_len (qa (qc 0) qe)) (qc 1) (qr _)) (VS (J4 (ZV (qh qk hr rfl (qa (qc 0) (qa qd qe))))))))) (qm (qp XB)) qI) (qm (qp (qU (je rfl) WJ rfl m_all PyProof.Rows.boot_all (qa (VV ["bank","banks"] [none,some 2] rfl (JI (qc 0)) (λ_ _ _=>(jgn 0)) (λ_ _ _=>jm) (λ_ _ _=>(ZU qiI ZW (qc 0) (qc 1) (qr _))) (by kernel_rfl) (by kernel_rfl)) qe)))))) read
abbrev JP:Stmt:=top 13
abbrev UK:List Str:=["thing","banks","cells"]
abbrev D7:List Str:=["thing"]
def EC:FnScope UK D7 (qj JP):=⟨rfl,rfl,rfl,by decide +kernel,rfl,by decide +kernel,by decide +kernel⟩
def UU (S_is_at_least:Sp3) (S_is_bank_row:Sp3):TS3:=(qK (zM (or3 (tb3 (o3 (zV true) (cb3 U2 (qb (v3 0) qi)) (c3 (.int 3)))) (CQ (tb3 (cb3 S_is_at_least (qb (o3 ix3 (v3 0) (c3 (.int 1))) (qb (c3 (.int 1)) qi)))))) (qZ (c3 (.bl false))) qH) (qK (zg (SJ (v3 0) (sp3 (c3 (.int 1))) np3) (ZI 2 (qG (gn3 1) (qG (gn3 2) QC)))) (qK (zM (or3 (CQ (tb3 (E9 (λt=>jP t "tuple") (v3 2)))) (tb3 (o3 (zV false) (cb3 U2 (qb (v3 2) qi)) (c3 (.int 0))))) (qZ (c3 (.bl false))) qH) (qK (zM (or3 (CQ (tb3 (E9 (λt=>jP t "tuple") (o3 ix3 (v3 2) (c3 (.int 0)))))) (tb3 (o3 (zV false) (cb3 U2 (qb (o3 ix3 (v3 2) (c3 (.int 0))) qi)) (c3 (.int 0))))) (qZ (c3 (.bl false))) qH) (qZ (cb3 KF (qb (lc3 (ZR (v3 2)) (gn3 0) tt3 (cb3 S_is_bank_row (qb (v3 0) (qb (cb3 U2 (qb (o3 ix3 (v3 2) (c3 (.int 0))) qi)) (qb (v3 1) qi)))) [none,some 1,some 2]) qi)))))))
def MW {S_is_at_least:Sp3} {S_is_bank_row:Sp3} (F:Fun K "is_table" "is_table" JP f fd) (bd:zt K fd D7 []) (hm:mg "is_table" = some (.ref f)) (qQ:Fn3 P w K mg base k "is_at_least" S_is_at_least) (zF:Fn3 P w K mg base k "is_bank_row" S_is_bank_row)  (m_len:mg "len" = none) (m_isinstance:mg "isinstance" = none) (m_tuple:mg "tuple" = none) (m_all:mg "all" = none)
  (read:Rd sp 1 (UU S_is_at_least S_is_bank_row) UK):Fn3 P w K mg base (k+1) "is_table" sp:=
 qF (t3:=(UU S_is_at_least S_is_bank_row)) F EC bd hm (λcdv A outer s H E hr=>(qg (zl (jpt (DG (qC (V4 hr.units) JK (qU zI ju rfl m_len PySem.boot_len (qa (qc 0) qe)) qd (qr _)) (VS (J4 (ZV (qh qQ hr rfl (qa (ze (qc 0) qd) (qa qd qe)))))))) (qm (qp XB)) qI) (qg (YL (jQ (qc 0) (zw qd) QU) (VT rfl (qP (qA (i:=1) (EC.nd)) (qP (qA (i:=2) (EC.nd)) J2)))) (qg (zl (jpt (DG (J4 (ZV (JT (qc 2) rfl m_isinstance rfl m_tuple PyProof.Rows.boot_tuple))) (VS (qC (zh hr.units) qN (qU zI ju rfl m_len PySem.boot_len (qa (qc 2) qe)) qd (qr _))))) (qm (qp XB)) qI) (qg (zl (jpt (DG (J4 (ZV (JT (ze (qc 2) qd) rfl m_isinstance rfl m_tuple PyProof.Rows.boot_tuple))) (VS (qC (zh hr.units) qN (qU zI ju rfl m_len PySem.boot_len (qa (ze (qc 2) qd) qe)) qd (qr _))))) (qm (qp XB)) qI) (qm (qp (qU (je rfl) WJ rfl m_all PyProof.Rows.boot_all (qa (VV ["row","banks","cells"] [none,some 1,some 2] rfl (JI (qc 2)) (λ_ _ _=>(jgn 0)) (λ_ _ _=>jm) (λ_ _ _=>(qh zF hr rfl (qa (qc 0) (qa (qU zI ju rfl m_len PySem.boot_len (qa (ze (qc 2) qd) qe)) (qa (qc 1) qe))))) (by kernel_rfl) (by kernel_rfl)) qe))))))))) read
abbrev ZN:Stmt:=top 14
abbrev jS:List Str:=["thing"]
abbrev EM:List Str:=["thing"]
def KL:FnScope jS EM (qj ZN):=⟨rfl,rfl,rfl,by decide +kernel,rfl,by decide +kernel,by decide +kernel⟩
def Y0 (S_is_dealing:Sp3):TS3:=(qZ (JF (o3 (zV false) (cb3 U2 (qb (v3 0) qi)) (c3 (.int 3))) (JF (cb3 S_is_dealing (qb (o3 ix3 (v3 0) (c3 (.int 1))) qi)) (cb3 S_is_dealing (qb (o3 ix3 (v3 0) (c3 (.int 2))) qi)))))
def K5 {S_is_dealing:Sp3} (F:Fun K "is_joined" "is_joined" ZN f fd) (bd:zt K fd EM []) (hm:mg "is_joined" = some (.ref f)) (F_is_dealing:Fn3 P w K mg base k "is_dealing" S_is_dealing)  (m_len:mg "len" = none)
  (read:Rd sp 1 (Y0 S_is_dealing) jS):Fn3 P w K mg base (k+1) "is_joined" sp:=
 qF (t3:=(Y0 S_is_dealing)) F KL bd hm (λcdv A outer s H E hr=>(qm (qp (YR (ZU (zh hr.units) qN (qU zI ju rfl m_len PySem.boot_len (qa (qc 0) qe)) qd (qr _)) (YR (qh F_is_dealing hr rfl (qa (ze (qc 0) qd) qe)) (DT (qh F_is_dealing hr rfl (qa (ze (qc 0) qd) qe)))))))) read
abbrev QI:Stmt:=top 15
abbrev ZG:List Str:=["thing","kind"]
abbrev V8:List Str:=["thing"]
def DL:FnScope ZG V8 (qj QI):=⟨rfl,rfl,rfl,by decide +kernel,rfl,by decide +kernel,by decide +kernel⟩
def J5 (S_is_skew:Sp3) (S_is_rests:Sp3) (S_is_bits:Sp3) (S_is_table:Sp3) (S_is_joined:Sp3):TS3:=(qK (zM (or3 (CQ (tb3 (E9 (λt=>jP t "tuple") (v3 0)))) (tb3 (o3 (zV false) (cb3 U2 (qb (v3 0) qi)) (c3 (.int 0))))) (qZ (c3 (.bl false))) qH) (qK (zg (o3 ix3 (v3 0) (c3 (.int 0))) (gn3 1)) (qK (zM (tb3 (o3 qeC (v3 1) (c3 (.str "skew")))) (qZ (cb3 S_is_skew (qb (v3 0) qi))) qH) (qK (zM (tb3 (o3 qeC (v3 1) (c3 (.str "rests")))) (qZ (cb3 S_is_rests (qb (v3 0) qi))) qH) (qK (zM (tb3 (o3 qeC (v3 1) (c3 (.str "bits")))) (qZ (cb3 S_is_bits (qb (v3 0) qi))) qH) (qK (zM (tb3 (o3 qeC (v3 1) (c3 (.str "table")))) (qZ (cb3 S_is_table (qb (v3 0) qi))) qH) (qZ (JF (o3 qeC (v3 1) (c3 (.str "joined"))) (cb3 S_is_joined (qb (v3 0) qi))))))))))
def TM {S_is_skew:Sp3} {S_is_rests:Sp3} {S_is_bits:Sp3} {S_is_table:Sp3} {S_is_joined:Sp3} (F:Fun K "is_dealing" "is_dealing" QI f fd) (bd:zt K fd V8 []) (hm:mg "is_dealing" = some (.ref f)) (ZD:Fn3 P w K mg base k "is_skew" S_is_skew) (jX:Fn3 P w K mg base k "is_rests" S_is_rests) (ZK:Fn3 P w K mg base k "is_bits" S_is_bits) (jY:Fn3 P w K mg base k "is_table" S_is_table) (F_is_joined:Fn3 P w K mg base k "is_joined" S_is_joined)  (m_len:mg "len" = none) (m_isinstance:mg "isinstance" = none) (m_tuple:mg "tuple" = none)
  (read:Rd sp 1 (J5 S_is_skew S_is_rests S_is_bits S_is_table S_is_joined) ZG):Fn3 P w K mg base (k+1) "is_dealing" sp:=
 qF (t3:=(J5 S_is_skew S_is_rests S_is_bits S_is_table S_is_joined)) F DL bd hm (λcdv A outer s H E hr=>(qg (zl (jpt (DG (J4 (ZV (JT (qc 0) rfl m_isinstance rfl m_tuple PyProof.Rows.boot_tuple))) (VS (qC (zh hr.units) qN (qU zI ju rfl m_len PySem.boot_len (qa (qc 0) qe)) qd (qr _))))) (qm (qp XB)) qI) (qg (qX 1 DL.nd (ze (qc 0) qd)) (qg (zl (qC (KU hr.units) XR (qc 1) qo (qr _)) (qm (qp (qh ZD hr rfl (qa (qc 0) qe)))) qI) (qg (zl (qC (KU hr.units) XR (qc 1) qo (qr _)) (qm (qp (qh jX hr rfl (qa (qc 0) qe)))) qI) (qg (zl (qC (KU hr.units) XR (qc 1) qo (qr _)) (qm (qp (qh ZK hr rfl (qa (qc 0) qe)))) qI) (qg (zl (qC (KU hr.units) XR (qc 1) qo (qr _)) (qm (qp (qh jY hr rfl (qa (qc 0) qe)))) qI) (qm (qp (YR (ZU (KU hr.units) XR (qc 1) qo (qr _)) (DT (qh F_is_joined hr rfl (qa (qc 0) qe))))))))))))) read
abbrev JG:Stmt:=top 19
abbrev UO:List Str:=["things"]
abbrev WS:List Str:=["things"]
def MY:FnScope UO WS (qj JG):=⟨rfl,rfl,rfl,by decide +kernel,rfl,by decide +kernel,by decide +kernel⟩
def US:TS3:=(qZ (qaP SW (c3 (.str " ")) (qb (lc3 (ZR (v3 0)) (gn3 0) tt3 (cb3 (TZ true) (qb (v3 0) qi)) [none]) qi)))
def MU (F:Fun K "in_words" "in_words" JG f fd) (bd:zt K fd WS []) (hm:mg "in_words" = some (.ref f))   (m_str:mg "str" = none)
  (read:Rd sp 1 (US) UO):Fn3 P w K mg base (k+1) "in_words" sp:=
 qF (t3:=(US)) F MY bd hm (λcdv A outer s H E hr=>(qm (qp (M0 qo (qa (VV ["thing"] [none] rfl (JI (qc 0)) (λ_ _ _=>(jgn 0)) (λ_ _ _=>jm) (λ_ _ _=>(zd (QX hr.gd hr.units) UT rfl m_str PyProof.Rows.boot_str (qa (qc 0) qe))) (by kernel_rfl) (by kernel_rfl)) qe))))) read
abbrev YQ:Stmt:=top 20
abbrev EW:List Str:=["rows"]
abbrev CF:List Str:=["rows"]
def qau:FnScope EW CF (qj YQ):=⟨rfl,rfl,rfl,by decide +kernel,rfl,by decide +kernel,by decide +kernel⟩
def DB (S_in_words:Sp3):TS3:=(qZ (qaP SW (c3 (.str " / ")) (qb (lc3 (ZR (v3 0)) (gn3 0) tt3 (cb3 S_in_words (qb (v3 0) qi)) [none]) qi)))
def qaV {S_in_words:Sp3} (F:Fun K "in_rows" "in_rows" YQ f fd) (bd:zt K fd CF []) (hm:mg "in_rows" = some (.ref f)) (za:Fn3 P w K mg base k "in_words" S_in_words)  
  (read:Rd sp 1 (DB S_in_words) EW):Fn3 P w K mg base (k+1) "in_rows" sp:=
 qF (t3:=(DB S_in_words)) F qau bd hm (λcdv A outer s H E hr=>(qm (qp (M0 qo (qa (VV ["row"] [none] rfl (JI (qc 0)) (λ_ _ _=>(jgn 0)) (λ_ _ _=>jm) (λ_ _ _=>(qh za hr rfl (qa (qc 0) qe))) (by kernel_rfl) (by kernel_rfl)) qe))))) read
abbrev jl:Stmt:=top 21
abbrev jD:List Str:=["dealing","kind"]
abbrev YB:List Str:=["dealing"]
def V2:FnScope jD YB (qj jl):=⟨rfl,rfl,rfl,by decide +kernel,rfl,by decide +kernel,by decide +kernel⟩
def Q6 (S_in_words:Sp3) (S_in_rows:Sp3) (S_dealing_text:Sp3):TS3:=(qK (zg (o3 ix3 (v3 0) (c3 (.int 0))) (gn3 1)) (qK (zM (tb3 (o3 (zV false) (v3 1) (c3 (.str "bits")))) (qZ (cb3 S_in_words (qb (o3 j0 (MQ (v3 0) np3 (sp3 (c3 (.int 3)))) (o3 ix3 (v3 0) (c3 (.int 3)))) qi))) qH) (qK (zM (tb3 (o3 (zV false) (v3 1) (c3 (.str "table")))) (qZ (fs3 [.inl "table ",.inr (o3 ix3 (v3 0) (c3 (.int 1))),.inl " : ",.inr (cb3 S_in_rows (qb (o3 ix3 (v3 0) (c3 (.int 2))) qi))] Str.empty)) qH) (qK (zM (tb3 (o3 (zV false) (v3 1) (c3 (.str "joined")))) (qZ (fs3 [.inl "joined ( ",.inr (cb3 S_dealing_text (qb (o3 ix3 (v3 0) (c3 (.int 1))) qi)),.inl " ) ( ",.inr (cb3 S_dealing_text (qb (o3 ix3 (v3 0) (c3 (.int 2))) qi)),.inl " )"] Str.empty)) qH) (qZ (cb3 S_in_words (qb (v3 0) qi)))))))
def CS {S_in_words:Sp3} {S_in_rows:Sp3} {S_dealing_text:Sp3} (F:Fun K "dealing_text" "dealing_text" jl f fd) (bd:zt K fd YB []) (hm:mg "dealing_text" = some (.ref f)) (za:Fn3 P w K mg base k "in_words" S_in_words) (ZM:Fn3 P w K mg base k "in_rows" S_in_rows) (F_dealing_text:Fn3 P w K mg base k "dealing_text" S_dealing_text)  
  (read:Rd sp 1 (Q6 S_in_words S_in_rows S_dealing_text) jD):Fn3 P w K mg base (k+1) "dealing_text" sp:=
 qF (t3:=(Q6 S_in_words S_in_rows S_dealing_text)) F V2 bd hm (λcdv A outer s H E hr=>(qg (qX 1 V2.nd (ze (qc 0) qd)) (qg (zl (qC (zh hr.units) qN (qc 1) qo (qr _)) (qm (qp (qh za hr rfl (qa (qW (V7 (qc 0) QU (zw qd)) (ze (qc 0) qd)) qe)))) qI) (qg (zl (qC (zh hr.units) qN (qc 1) qo (qr _)) (qm (qp (qm0 (.lit (.val (ze (qc 0) qd) (.lit (.val (qh ZM hr rfl (qa (ze (qc 0) qd) qe)) .nil))))))) qI) (qg (zl (qC (zh hr.units) qN (qc 1) qo (qr _)) (qm (qp (qm0 (.lit (.val (qh F_dealing_text hr rfl (qa (ze (qc 0) qd) qe)) (.lit (.val (qh F_dealing_text hr rfl (qa (ze (qc 0) qd) qe)) (.lit .nil)))))))) qI) (qm (qp (qh za hr rfl (qa (qc 0) qe))))))))) read
abbrev zQ:Stmt:=top 22
abbrev jN:List Str:=["word","figures","number"]
abbrev ZQ:List Str:=["word"]
def QY:FnScope jN ZQ (qj zQ):=⟨rfl,rfl,rfl,by decide +kernel,rfl,by decide +kernel,by decide +kernel⟩
def jO:TS3:=(qK (zg (if3 (tb3 (qaP X8 (v3 0) (qb (c3 (.str "-")) qi))) (qiu (v3 0) (sp3 (c3 (.int 1))) np3) (v3 0)) (gn3 1)) (qK (zM (or3 (CQ (tb3 (ch3 (iB λi j=>decide (i<=j)) (iB λi j=>decide (i<=j)) (c3 (.int 1)) (cb3 U2 (qb (v3 1) qi)) (c3 (.int 4))))) (CQ (tb3 (cb3 KF (qb (lc3 (qhK (v3 1)) (gn3 0) tt3 (o3 qn3 (v3 0) (c3 (.str "0123456789"))) [none]) qi))))) MH qH) (qK (zg (cb3 qem (qb (v3 0) qi)) (gn3 2)) (qK (zM (tb3 (o3 (zV true) (cb3 (TZ true) (qb (v3 2) qi)) (v3 0))) MH qH) (qZ (v3 2))))))
def WH (F:Fun K "number_of_word" "number_of_word" zQ f fd) (bd:zt K fd ZQ []) (hm:mg "number_of_word" = some (.ref f))   (m_FIGURES:∃ t,mg "FIGURES" = some (.str "0123456789" t)) (m_all:mg "all" = none) (m_len:mg "len" = none) (m_MOST_FIGURES:∃ t,mg "MOST_FIGURES" = some (.int 4 t)) (m_int:mg "int" = none) (m_str:mg "str" = none)
  (read:Rd sp 1 (jO) jN):Fn3 P w K mg base (k+1) "number_of_word" sp:=
 qF (t3:=(jO)) F QY bd hm (λcdv A outer s H E hr=>(qg (qX 1 QY.nd (qeH (ZV (qdj (qc 0) (qa qo qe))) (qcc (qc 0) (zw qd) QU) (qc 0))) (qg (zl (jpt (DG (J4 (qeE qht ZW qht ZW qd (qU zI ju rfl m_len PySem.boot_len (qa (qc 1) qe)) (qou rfl m_MOST_FIGURES))) (VS (J4 (ZV (qU (je rfl) WJ rfl m_all PyProof.Rows.boot_all (qa (VV ["sign"] [none] rfl (qmB (qc 1)) (λ_ _ _=>(jgn 0)) (λ_ _ _=>jm) (λ_ _ _=>(ZU qmC qh0 (qc 0) (qpK rfl m_FIGURES) (by with_unfolding_all rfl))) (by kernel_rfl) (by kernel_rfl)) qe))))))) JX qI) (qg (qX 2 QY.nd (zd qbW qex rfl m_int PyProof.Rows.boot_int (qa (qc 0) qe))) (qg (zl (qC (V4 hr.units) JK (zd (QX hr.gd hr.units) UT rfl m_str PyProof.Rows.boot_str (qa (qc 2) qe)) (qc 0) (qr _)) JX qI) (qm (qp (qc 2)))))))) read
abbrev QB:Stmt:=top 23
abbrev J7:List Str:=["words"]
abbrev UB:List Str:=["words"]
def SM:FnScope J7 UB (qj QB):=⟨rfl,rfl,rfl,by decide +kernel,rfl,by decide +kernel,by decide +kernel⟩
def JZ (S_number_of_word:Sp3):TS3:=(qZ (cb3 ja (qb (lc3 (ZR (v3 0)) (gn3 0) tt3 (cb3 S_number_of_word (qb (v3 0) qi)) [none]) qi)))
def SU {S_number_of_word:Sp3} (F:Fun K "numbers_of" "numbers_of" QB f fd) (bd:zt K fd UB []) (hm:mg "numbers_of" = some (.ref f)) (qs:Fn3 P w K mg base k "number_of_word" S_number_of_word)  (m_tuple:mg "tuple" = none)
  (read:Rd sp 1 (JZ S_number_of_word) J7):Fn3 P w K mg base (k+1) "numbers_of" sp:=
 qF (t3:=(JZ S_number_of_word)) F SM bd hm (λcdv A outer s H E hr=>(qm (qp (zd zm QF rfl m_tuple PyProof.Rows.boot_tuple (qa (VV ["word"] [none] rfl (JI (qc 0)) (λ_ _ _=>(jgn 0)) (λ_ _ _=>jm) (λ_ _ _=>(qh qs hr rfl (qa (qc 0) qe))) (by kernel_rfl) (by kernel_rfl)) qe))))) read
abbrev YI:Stmt:=top 24
abbrev DE:List Str:=["words","rows","word"]
abbrev X5:List Str:=["words"]
def D8:FnScope DE X5 (qj YI):=⟨rfl,rfl,rfl,by decide +kernel,rfl,by decide +kernel,by decide +kernel⟩
def XH (S_numbers_of:Sp3):TS3:=(qK (zg (QQ (qb (QQ qi) qi)) (gn3 1)) (qK (RQ (ZR (v3 0)) (gn3 2) (zM (tb3 (o3 (zV false) (v3 2) (c3 (.str "/")))) (UZ (bm3 KG (v3 1) (qb (QQ qi) qi))) (UZ (bm3 KG (o3 ix3 (v3 1) (u3 K6 (c3 (.int 1)))) (qb (v3 2) qi))))) (qZ (cb3 ja (qb (lc3 (ZR (v3 1)) (gn3 0) tt3 (cb3 S_numbers_of (qb (v3 0) qi)) [none]) qi)))))
def qaY {S_numbers_of:Sp3} (F:Fun K "rows_of" "rows_of" YI f fd) (bd:zt K fd X5 []) (hm:mg "rows_of" = some (.ref f)) (qS:Fn3 P w K mg base k "numbers_of" S_numbers_of)  (m_tuple:mg "tuple" = none)
  (read:Rd sp 1 (XH S_numbers_of) DE):Fn3 P w K mg base (k+1) "rows_of" sp:=
 qF (t3:=(XH S_numbers_of)) F D8 bd hm (λcdv A outer s H E hr=>(qg (qX 1 D8.nd (zJ (qa (zJ qe) qe))) (qg (ET PassesOwn.never rfl (JI (qc 0)) (qA (i:=2) (D8.nd)) (qm (zl (qC (zh hr.units) qN (qc 2) qo (qr _)) (qm (TN (DJ (qc 1) (qa (zJ qe) qe)))) (qm (TN (DJ (ze (qc 1) (K7 qd)) (qa (qc 2) qe))))))) (qm (qp (zd zm QF rfl m_tuple PyProof.Rows.boot_tuple (qa (VV ["row"] [none] rfl (JI (qc 1)) (λ_ _ _=>(jgn 0)) (λ_ _ _=>jm) (λ_ _ _=>(qh qS hr rfl (qa (qc 0) qe))) (by kernel_rfl) (by kernel_rfl)) qe))))))) read
abbrev YM:Stmt:=top 25
abbrev UC:List Str:=["words","depth","at","word"]
abbrev CO:List Str:=["words"]
def Z8:FnScope UC CO (qj YM):=⟨rfl,rfl,rfl,by decide +kernel,rfl,by decide +kernel,by decide +kernel⟩
def DM:TS3:=(qK (zg (c3 (.int 0)) (gn3 1)) (qK (RQ (KR (qb (v3 0) qi)) (ZI 2 (qG (gn3 2) (qG (gn3 3) QC))) (qK (zM (tb3 (o3 (zV false) (v3 3) (c3 (.str "(")))) (MF 1 (iI (·+·)) (c3 (.int 1))) qH) (qK (zM (tb3 (o3 (zV false) (v3 3) (c3 (.str ")")))) (MF 1 (iI (·-·)) (c3 (.int 1))) qH) (zM (tb3 (o3 (zV false) (v3 1) (c3 (.int 0)))) (qZ (v3 2)) qH)))) MH))
def qaW (F:Fun K "closing" "closing" YM f fd) (bd:zt K fd CO []) (hm:mg "closing" = some (.ref f))   (m_enumerate:mg "enumerate" = none)
  (read:Rd sp 1 (DM) UC):Fn3 P w K mg base (k+1) "closing" sp:=
 qF (t3:=(DM)) F Z8 bd hm (λcdv A outer s H E hr=>(qg (qX 1 Z8.nd qd) (qg (ET PassesOwn.never rfl (qcG rfl m_enumerate (qa (qc 0) qe)) (VT rfl (qP (qA (i:=2) (Z8.nd)) (qP (qA (i:=3) (Z8.nd)) J2))) (qg (zl (qC (zh hr.units) qN (qc 3) qo (qr _)) (qm (qcn 1 Z8.nd qd)) qI) (qg (zl (qC (zh hr.units) qN (qc 3) qo (qr _)) (qm (qbv 1 Z8.nd qd)) qI) (qm (zl (qC (zh hr.units) qN (qc 1) qd (qr _)) (qm (qp (qc 2))) qI))))) JX))) read
abbrev ZF:Stmt:=top 26
abbrev JR:List Str:=["words","end"]
abbrev U8:List Str:=["words"]
def W4:FnScope JR U8 (qj ZF):=⟨rfl,rfl,rfl,by decide +kernel,rfl,by decide +kernel,by decide +kernel⟩
def VP (S_closing:Sp3):TS3:=(qK (zM (tb3 (o3 (zV true) (SJ (v3 0) np3 (sp3 (c3 (.int 1)))) (QQ (qb (c3 (.str "(")) qi)))) MH qH) (qK (zg (cb3 S_closing (qb (v3 0) qi)) (gn3 1)) (qZ (zB (qb (SJ (v3 0) (sp3 (c3 (.int 1))) (sp3 (v3 1))) (qb (SJ (v3 0) (sp3 (o3 QM (v3 1) (c3 (.int 1)))) np3) qi))))))
def LJ {S_closing:Sp3} (F:Fun K "bracketed" "bracketed" ZF f fd) (bd:zt K fd U8 []) (hm:mg "bracketed" = some (.ref f)) (ZH:Fn3 P w K mg base k "closing" S_closing)  
  (read:Rd sp 1 (VP S_closing) JR):Fn3 P w K mg base (k+1) "bracketed" sp:=
 qF (t3:=(VP S_closing)) F W4 bd hm (λcdv A outer s H E hr=>(qg (zl (qC (V4 hr.units) JK (jQ (qc 0) QU (zw qd)) (zJ (qa qo qe)) (qr _)) JX qI) (qg (qX 1 W4.nd (qh ZH hr rfl (qa (qc 0) qe))) (qm (qp (qq (qa (jQ (qc 0) (zw qd) (zw (qc 1))) (qa (jQ (qc 0) (zw (zo (qc 1) qd)) QU) qe)))))))) read
abbrev QH:Stmt:=top 27
abbrev Q8:List Str:=["words"]
abbrev V1:List Str:=["words"]
def SS:FnScope Q8 V1 (qj QH):=⟨rfl,rfl,rfl,by decide +kernel,rfl,by decide +kernel,by decide +kernel⟩
def J3 (S_number_of_word:Sp3) (S_rows_of:Sp3):TS3:=(qK (zM (tb3 (o3 (zV true) (SJ (v3 0) (sp3 (c3 (.int 1))) (sp3 (c3 (.int 2)))) (QQ (qb (c3 (.str ":")) qi)))) MH qH) (qZ (zB (qb (c3 (.str "table")) (qb (cb3 S_number_of_word (qb (o3 ix3 (v3 0) (c3 (.int 0))) qi)) (qb (cb3 S_rows_of (qb (SJ (v3 0) (sp3 (c3 (.int 2))) np3) qi)) qi))))))
def TD {S_number_of_word:Sp3} {S_rows_of:Sp3} (F:Fun K "read_table" "read_table" QH f fd) (bd:zt K fd V1 []) (hm:mg "read_table" = some (.ref f)) (qs:Fn3 P w K mg base k "number_of_word" S_number_of_word) (JB:Fn3 P w K mg base k "rows_of" S_rows_of)  
  (read:Rd sp 1 (J3 S_number_of_word S_rows_of) Q8):Fn3 P w K mg base (k+1) "read_table" sp:=
 qF (t3:=(J3 S_number_of_word S_rows_of)) F SS bd hm (λcdv A outer s H E hr=>(qg (zl (qC (V4 hr.units) JK (jQ (qc 0) (zw qd) (zw qd)) (zJ (qa qo qe)) (qr _)) JX qI) (qm (qp (qq (qa qo (qa (qh qs hr rfl (qa (ze (qc 0) qd) qe)) (qa (qh JB hr rfl (qa (jQ (qc 0) (zw qd) QU) qe)) qe)))))))) read
abbrev jC:Stmt:=top 28
abbrev j8:List Str:=["words","one","behind","other","left"]
abbrev VQ:List Str:=["words"]
def jM:FnScope j8 VQ (qj jC):=⟨rfl,rfl,rfl,by decide +kernel,rfl,by decide +kernel,by decide +kernel⟩
def Z2 (S_bracketed:Sp3) (S_read_dealing:Sp3):TS3:=(qK (zg (cb3 S_bracketed (qb (v3 0) qi)) (ZI 2 (qG (gn3 1) (qG (gn3 2) QC)))) (qK (zg (cb3 S_bracketed (qb (v3 2) qi)) (ZI 2 (qG (gn3 3) (qG (gn3 4) QC)))) (qK (zM (tb3 (o3 (iB λi j=>decide (j<i)) (cb3 U2 (qb (v3 4) qi)) (c3 (.int 0)))) MH qH) (qZ (zB (qb (c3 (.str "joined")) (qb (cb3 S_read_dealing (qb (v3 1) qi)) (qb (cb3 S_read_dealing (qb (v3 3) qi)) qi))))))))
def RN {S_bracketed:Sp3} {S_read_dealing:Sp3} (F:Fun K "read_joined" "read_joined" jC f fd) (bd:zt K fd VQ []) (hm:mg "read_joined" = some (.ref f)) (zK:Fn3 P w K mg base k "bracketed" S_bracketed) (F_read_dealing:Fn3 P w K mg base k "read_dealing" S_read_dealing)  (m_len:mg "len" = none)
  (read:Rd sp 1 (Z2 S_bracketed S_read_dealing) j8):Fn3 P w K mg base (k+1) "read_joined" sp:=
 qF (t3:=(Z2 S_bracketed S_read_dealing)) F jM bd hm (λcdv A outer s H E hr=>(qg (YL (qh zK hr rfl (qa (qc 0) qe)) (VT rfl (qP (qA (i:=1) (jM.nd)) (qP (qA (i:=2) (jM.nd)) J2)))) (qg (YL (qh zK hr rfl (qa (qc 2) qe)) (VT rfl (qP (qA (i:=3) (jM.nd)) (qP (qA (i:=4) (jM.nd)) J2)))) (qg (zl (qC NO ZW (qU zI ju rfl m_len PySem.boot_len (qa (qc 4) qe)) qd (qr _)) JX qI) (qm (qp (qq (qa qo (qa (qh F_read_dealing hr rfl (qa (qc 1) qe)) (qa (qh F_read_dealing hr rfl (qa (qc 3) qe)) qe)))))))))) read
abbrev jj:Stmt:=top 29
abbrev jK:List Str:=["words","kind","rest","numbers"]
abbrev YF:List Str:=["words"]
def j7:FnScope jK YF (qj jj):=⟨rfl,rfl,rfl,by decide +kernel,rfl,by decide +kernel,by decide +kernel⟩
def Q0 (S_read_joined:Sp3) (S_read_table:Sp3) (S_numbers_of:Sp3):TS3:=(qK (zM (tb3 (o3 (zV false) (cb3 U2 (qb (v3 0) qi)) (c3 (.int 0)))) MH qH) (qK (zg (v3 0) (qak (qG (gn3 1) (qG (gn3 2) QC)))) (qK (zM (tb3 (o3 (zV false) (v3 1) (c3 (.str "joined")))) (qZ (cb3 S_read_joined (qb (v3 2) qi))) qH) (qK (zM (tb3 (o3 (zV false) (v3 1) (c3 (.str "table")))) (qZ (cb3 S_read_table (qb (v3 2) qi))) qH) (qK (zg (cb3 S_numbers_of (qb (v3 2) qi)) (gn3 3)) (qK (zM (tb3 (o3 (zV false) (v3 1) (c3 (.str "bits")))) (qZ (o3 j0 (o3 j0 (zB (qb (c3 (.str "bits")) qi)) (MQ (v3 3) np3 (sp3 (c3 (.int 2))))) (zB (qb (MQ (v3 3) (sp3 (c3 (.int 2))) np3) qi)))) qH) (qZ (o3 j0 (zB (qb (v3 1) qi)) (v3 3)))))))))
def CY {S_read_joined:Sp3} {S_read_table:Sp3} {S_numbers_of:Sp3} (F:Fun K "read_dealing" "read_dealing" jj f fd) (bd:zt K fd YF []) (hm:mg "read_dealing" = some (.ref f)) (F_read_joined:Fn3 P w K mg base k "read_joined" S_read_joined) (zU:Fn3 P w K mg base k "read_table" S_read_table) (qS:Fn3 P w K mg base k "numbers_of" S_numbers_of)  (m_len:mg "len" = none)
  (read:Rd sp 1 (Q0 S_read_joined S_read_table S_numbers_of) jK):Fn3 P w K mg base (k+1) "read_dealing" sp:=
 qF (t3:=(Q0 S_read_joined S_read_table S_numbers_of)) F j7 bd hm (λcdv A outer s H E hr=>(qg (zl (qC (zh hr.units) qN (qU zI ju rfl m_len PySem.boot_len (qa (qc 0) qe)) qd (qr _)) JX qI) (qg (YL (qc 0) (qiM rfl (qP (qA (i:=1) (j7.nd)) (qP (qA (i:=2) (j7.nd)) J2)))) (qg (zl (qC (zh hr.units) qN (qc 1) qo (qr _)) (qm (qp (qh F_read_joined hr rfl (qa (qc 2) qe)))) qI) (qg (zl (qC (zh hr.units) qN (qc 1) qo (qr _)) (qm (qp (qh zU hr rfl (qa (qc 2) qe)))) qI) (qg (qX 3 j7.nd (qh qS hr rfl (qa (qc 2) qe))) (qg (zl (qC (zh hr.units) qN (qc 1) qo (qr _)) (qm (qp (qW (qW (qq (qa qo qe)) (V7 (qc 3) QU (zw qd))) (qq (qa (V7 (qc 3) (zw qd) QU) qe))))) qI) (qm (qp (qW (qq (qa (qc 1) qe)) (qc 3))))))))))) read
abbrev j6:Stmt:=top 30
abbrev ZE:List Str:=["text","dealing"]
abbrev V0:List Str:=["text"]
def DZ:FnScope ZE V0 (qj j6):=⟨rfl,rfl,rfl,by decide +kernel,rfl,by decide +kernel,by decide +kernel⟩
def JY (S_read_dealing:Sp3) (S_is_dealing:Sp3):TS3:=(qK (zg (cb3 S_read_dealing (qb (qaP LK (v3 0) (qb (c3 (.str " ")) qi)) qi)) (gn3 1)) (qK (zM (CQ (tb3 (cb3 S_is_dealing (qb (v3 1) qi)))) MH qH) (qZ (v3 1))))
def TB {S_read_dealing:Sp3} {S_is_dealing:Sp3} (F:Fun K "dealing_of" "dealing_of" j6 f fd) (bd:zt K fd V0 []) (hm:mg "dealing_of" = some (.ref f)) (F_read_dealing:Fn3 P w K mg base k "read_dealing" S_read_dealing) (F_is_dealing:Fn3 P w K mg base k "is_dealing" S_is_dealing)  
  (read:Rd sp 1 (JY S_read_dealing S_is_dealing) ZE):Fn3 P w K mg base (k+1) "dealing_of" sp:=
 qF (t3:=(JY S_read_dealing S_is_dealing)) F DZ bd hm (λcdv A outer s H E hr=>(qg (qX 1 DZ.nd (qh F_read_dealing hr rfl (qa (qeh (qc 0) (qa qo qe)) qe))) (qg (zl (J4 (ZV (qh F_is_dealing hr rfl (qa (qc 1) qe)))) JX qI) (qm (qp (qc 1)))))) read
abbrev YJ:Stmt:=top 32
abbrev C0:List Str:=["_law_cell","_law_k","_law_m"]
abbrev CH:List Str:=["_law_cell","_law_k"]
def SI:FnScope C0 CH (qj YJ):=⟨rfl,rfl,rfl,by decide +kernel,rfl,by decide +kernel,by decide +kernel⟩
def qa8 (F:Fun K "_law_mix" "_law_mix" YJ f fd) (bd:zt K fd CH []) (hm:mg "_law_mix" = some (.ref f))   
  (read:Rd sp 2 (Bk.DU) C0):Fn3 P w K mg base (k+1) "_law_mix" sp:=
 qF (t3:=(Bk.DU)) F SI bd hm (λcdv A outer s H E hr=>(qg (qX 2 SI.nd (U1 (UA (zo (zo (U1 (qc 0) qd) (UA (UA (qc 1) (qc 1)) qd)) qd) qd) qd)) (qm (qp (U1 (UA (qc 2) (qc 2)) qd))))) read
abbrev JS:Stmt:=top 33
abbrev WR:List Str:=["_law_script","_law_k","_law_cell","_law_own"]
abbrev WC:List Str:=["_law_script","_law_k"]
def EG:FnScope WR WC (qj JS):=⟨rfl,rfl,rfl,by decide +kernel,rfl,by decide +kernel,by decide +kernel⟩
def NG (F:Fun K "_law_left" "_law_left" JS f fd) (bd:zt K fd WC []) (hm:mg "_law_left" = some (.ref f))   (m_len:mg "len" = none) (m_abs:mg "abs" = none)
  (read:Rd sp 2 (Bk.UQ) WR):Fn3 P w K mg base (k+1) "_law_left" sp:=
 qF (t3:=(Bk.UQ)) F EG bd hm (λcdv A outer s H E hr=>(qg (qX 2 EG.nd (qeH (qC qiI ZW (qc 1) (qU zI ju rfl m_len PySem.boot_len (qa (qc 0) qe)) (qr _)) (ze (qc 0) (qc 1)) qd)) (qg (qX 3 EG.nd (qeH (qC qhb ZW (qU qam qcr rfl m_abs PyProof.Rows.boot_abs (qa (qc 2) qe)) (qki qd qd) (qr _)) (qU qam qcr rfl m_abs PyProof.Rows.boot_abs (qa (qc 2) qe)) qd)) (qm (qp (zJ (qa (qc 3) (qa (zo (qc 2) (UA qd (qc 1))) (qa qd qe))))))))) read
abbrev JE:Stmt:=top 34
abbrev WP:List Str:=["_law_left_here","_law_many","_law_digit"]
abbrev D6:List Str:=["_law_left_here","_law_many"]
def XO:FnScope WP D6 (qj JE):=⟨rfl,rfl,rfl,by decide +kernel,rfl,by decide +kernel,by decide +kernel⟩
def MI {S_law_mix:Sp3} (F:Fun K "_law_pick" "_law_pick" JE f fd) (bd:zt K fd D6 []) (hm:mg "_law_pick" = some (.ref f)) (F_law_mix:Fn3 P w K mg base k "_law_mix" S_law_mix)  
  (read:Rd sp 2 (Bk.UM S_law_mix) WP):Fn3 P w K mg base (k+1) "_law_pick" sp:=
 qF (t3:=(Bk.UM S_law_mix)) F XO bd hm (λcdv A outer s H E hr=>(qg (YL (zo (ze (qc 0) qd) qd) (qfF (qc 0) qd)) (qg (zl (qC NO ZW (ze (qc 0) qd) qd (qr _)) (qg (qX 2 XO.nd (U1 (ze (qc 0) qd) (qc 1))) (qg (YL (KK (ze (qc 0) qd) (qc 1)) (qfF (qc 0) qd)) (qm (qp (qc 2))))) qI) (qm (qp (U1 (KK (qh F_law_mix hr rfl (qa (qh F_law_mix hr rfl (qa (ze (qc 0) qd) (qa (ze (qc 0) qd) qe))) (qa (zo (ze (qc 0) qd) qd) qe))) qd) (qc 1))))))) read
abbrev ZO:Stmt:=top 35
abbrev ED:List Str:=["_law_left_here","_law_wide","_law_rows","_law_columns"]
abbrev EK:List Str:=["_law_left_here"]
def V5:FnScope ED EK (qj ZO):=⟨rfl,rfl,rfl,by decide +kernel,rfl,by decide +kernel,by decide +kernel⟩
def KY {S_law_pick:Sp3} (F:Fun K "_law_sides" "_law_sides" ZO f fd) (bd:zt K fd EK []) (hm:mg "_law_sides" = some (.ref f)) (F_law_pick:Fn3 P w K mg base k "_law_pick" S_law_pick)  
  (read:Rd sp 1 (Bk.YX S_law_pick) ED):Fn3 P w K mg base (k+1) "_law_sides" sp:=
 qF (t3:=(Bk.YX S_law_pick)) F V5 bd hm (λcdv A outer s H E hr=>(qg (qX 1 V5.nd (ze (zJ (qa qd (qa qd (qa qd (qa qd qe))))) (qh F_law_pick hr rfl (qa (qc 0) (qa qd qe))))) (qg (SH (i:=2) (j:=3) rfl V5.nd rfl rfl (by decide) rfl rfl (qa (zo qd (qh F_law_pick hr rfl (qa (qc 0) (qa (qc 1) qe)))) (qa (zo qd (qh F_law_pick hr rfl (qa (qc 0) (qa (qc 1) qe)))) qe))) (qm (qp (ze (zJ (qa (qq (qa (qc 2) (qa (qc 3) qe))) (qa (qq (qa (qc 2) (qa (qc 3) qe))) (qa (qq (qa (qc 2) (qa (qc 3) qe))) (qa (qq (qa (qc 2) (qa (qc 2) qe))) qe))))) (qh F_law_pick hr rfl (qa (qc 0) (qa qd qe))))))))) read
abbrev YT:Stmt:=top 36
abbrev CZ:List Str:=["_law_one","_law_other"]
abbrev CG:List Str:=["_law_one","_law_other"]
def SE:FnScope CZ CG (qj YT):=⟨rfl,rfl,rfl,by decide +kernel,rfl,by decide +kernel,by decide +kernel⟩
def qa3 (F:Fun K "_law_gcd" "_law_gcd" YT f fd) (bd:zt K fd CG []) (hm:mg "_law_gcd" = some (.ref f))   
  (read:Rd sp 2 (Bk.EV) CZ):Fn3 P w K mg base (k+1) "_law_gcd" sp:=
 qF (t3:=(Bk.EV)) F SE bd hm (λcdv A outer s H E hr=>(qg (N0 PassesOwn.never (qC NO ZW (qc 1) qd (qr _)) (qm (SH (i:=0) (j:=1) rfl SE.nd rfl rfl (by decide) rfl rfl (qa (qc 1) (qa (U1 (qc 0) (qc 1)) qe))))) (qm (qp (qc 0))))) read
abbrev JA:Stmt:=top 37
abbrev WB:List Str:=["_law_left_here","_law_rows","_law_columns","_law_banks","_law_wide"]
abbrev WD:List Str:=["_law_left_here"]
def JJ:FnScope WB WD (qj JA):=⟨rfl,rfl,rfl,by decide +kernel,rfl,by decide +kernel,by decide +kernel⟩
def MX {S_law_sides:Sp3} {S_law_pick:Sp3} (F:Fun K "_law_skew" "_law_skew" JA f fd) (bd:zt K fd WD []) (hm:mg "_law_skew" = some (.ref f)) (F_law_sides:Fn3 P w K mg base k "_law_sides" S_law_sides) (F_law_pick:Fn3 P w K mg base k "_law_pick" S_law_pick)  
  (read:Rd sp 1 (Bk.UI S_law_sides S_law_pick) WB):Fn3 P w K mg base (k+1) "_law_skew" sp:=
 qF (t3:=(Bk.UI S_law_sides S_law_pick)) F JJ bd hm (λcdv A outer s H E hr=>(qg (YL (qh F_law_sides hr rfl (qa (qc 0) qe)) (VT rfl (qP (qA (i:=1) (JJ.nd)) (qP (qA (i:=2) (JJ.nd)) J2)))) (qg (qX 3 JJ.nd (zo qd (qh F_law_pick hr rfl (qa (qc 0) (qa (ze (zJ (qa qd (qa qd (qa qd (qa qd qe))))) (qh F_law_pick hr rfl (qa (qc 0) (qa qd qe)))) qe))))) (qg (qX 4 JJ.nd (ze (zJ (qa (qc 3) (qa qd (qa qd qe)))) (qh F_law_pick hr rfl (qa (qc 0) (qa qd qe))))) (qm (qp (qq (qa qo (qa (qc 1) (qa (qc 2) (qa (qc 3) (qa (qh F_law_pick hr rfl (qa (qc 0) (qa (qc 4) qe))) (qa (qh F_law_pick hr rfl (qa (qc 0) (qa (qc 4) qe))) qe))))))))))))) read
abbrev ZL:Stmt:=top 38
abbrev U4:List Str:=["_law_left_here","_law_rows","_law_columns","_law_banks","_law_places","_law_turn"]
abbrev EQ:List Str:=["_law_left_here"]
def jp:FnScope U4 EQ (qj ZL):=⟨rfl,rfl,rfl,by decide +kernel,rfl,by decide +kernel,by decide +kernel⟩
def LZ {S_law_sides:Sp3} {S_law_pick:Sp3} {S_law_gcd:Sp3} (F:Fun K "_law_rests" "_law_rests" ZL f fd) (bd:zt K fd EQ []) (hm:mg "_law_rests" = some (.ref f)) (F_law_sides:Fn3 P w K mg base k "_law_sides" S_law_sides) (F_law_pick:Fn3 P w K mg base k "_law_pick" S_law_pick) (F_law_gcd:Fn3 P w K mg base k "_law_gcd" S_law_gcd)  (m_range:mg "range" = none)
  (read:Rd sp 1 (Bk.VD S_law_sides S_law_pick S_law_gcd) U4):Fn3 P w K mg base (k+1) "_law_rests" sp:=
 qF (t3:=(Bk.VD S_law_sides S_law_pick S_law_gcd)) F jp bd hm (λcdv A outer s H E hr=>(qg (YL (qh F_law_sides hr rfl (qa (qc 0) qe)) (VT rfl (qP (qA (i:=1) (jp.nd)) (qP (qA (i:=2) (jp.nd)) J2)))) (qg (qX 3 jp.nd (zo qd (qh F_law_pick hr rfl (qa (qc 0) (qa (ze (zJ (qa qd (qa qd (qa qd qe)))) (qh F_law_pick hr rfl (qa (qc 0) (qa qd qe)))) qe))))) (qg (qX 4 jp.nd (zo (K7 (KK (UA (K7 (qc 1)) (qc 2)) (qc 3))) (qh F_law_pick hr rfl (qa (qc 0) (qa qd qe))))) (qg (ET PassesOwn.never rfl (zP rfl m_range (qa qd qe) (h1:=by intro _ _ _ h;simpa [qb,qi] using h)) (qA (i:=5) (jp.nd)) (qm (zl (qC NO ZW (qh F_law_gcd hr rfl (qa (qc 3) (qa (qc 4) qe))) qd (qr _)) (qm (qX 4 jp.nd (zo (qc 4) qd))) qI))) (qm (qp (qq (qa qo (qa (qc 1) (qa (qc 2) (qa (qc 3) (qa (qc 4) qe))))))))))))) read
abbrev JH:Stmt:=top 39
abbrev RY:List Str:=["_law_left_here","_law_most","_law_high","_law_low","_law_masks","_law_wide"]
abbrev WV:List Str:=["_law_left_here","_law_most"]
def VF:FnScope RY WV (qj JH):=⟨rfl,rfl,rfl,by decide +kernel,rfl,by decide +kernel,by decide +kernel⟩
def MZ {S_law_pick:Sp3} (F:Fun K "_law_bits" "_law_bits" JH f fd) (bd:zt K fd WV []) (hm:mg "_law_bits" = some (.ref f)) (F_law_pick:Fn3 P w K mg base k "_law_pick" S_law_pick)  (m_range:mg "range" = none) (m_tuple:mg "tuple" = none)
  (read:Rd sp 2 (Bk.UL S_law_pick) RY):Fn3 P w K mg base (k+1) "_law_bits" sp:=
 qF (t3:=(Bk.UL S_law_pick)) F VF bd hm (λcdv A outer s H E hr=>(qg (SH (i:=2) (j:=3) rfl VF.nd rfl rfl (by decide) rfl rfl (qa (qh F_law_pick hr rfl (qa (qc 0) (qa (zo (qc 1) qd) qe))) (qa (qh F_law_pick hr rfl (qa (qc 0) (qa (zo (qc 1) qd) qe))) qe))) (qg (EZ 4 ["_law_t","_law_left_here"] [none,some 0] rfl VF.nd (zP rfl m_range (qa (qh F_law_pick hr rfl (qa (qc 0) (qa qd qe))) qe) (h1:=by intro _ _ _ h;simpa [qb,qi] using h)) (λ_ _ _=>(jgn 0)) (λ_ _ _=>jm) (λ_ _ _=>(qh F_law_pick hr rfl (qa (qc 1) (qa qd qe)))) (by kernel_rfl) (by kernel_rfl) rfl rfl) (qg (qX 5 VF.nd (ze (zJ (qa qd (qa qd (qa qd (qa qd (qa qd (qa qd (qa qd (qa qd (qa qd qe)))))))))) (zo (qc 2) (qc 3)))) (qm (qp (qq (qa qo (qa (qc 2) (qa (qc 3) (qa (zd zm QF rfl m_tuple PyProof.Rows.boot_tuple (qa (VV ["_law_mask","_law_wide"] [none,some 5] rfl (JI (qc 4)) (λ_ _ _=>(jgn 0)) (λ_ _ _=>jm) (λ_ _ _=>(U1 (qc 0) (qc 1))) (by kernel_rfl) (by kernel_rfl)) qe)) qe))))))))))) read
abbrev ZB:Stmt:=top 40
abbrev XG:List Str:=["_law_left_here","_law_rows","_law_columns","_law_banks","_law_cells"]
abbrev U5:List Str:=["_law_left_here"]
def ZC:FnScope XG U5 (qj ZB):=⟨rfl,rfl,rfl,by decide +kernel,rfl,by decide +kernel,by decide +kernel⟩
def KM {S_law_sides:Sp3} {S_law_pick:Sp3} (F:Fun K "_law_table" "_law_table" ZB f fd) (bd:zt K fd U5 []) (hm:mg "_law_table" = some (.ref f)) (F_law_sides:Fn3 P w K mg base k "_law_sides" S_law_sides) (F_law_pick:Fn3 P w K mg base k "_law_pick" S_law_pick)  (m_range:mg "range" = none) (m_tuple:mg "tuple" = none)
  (read:Rd sp 1 (Bk.YY S_law_sides S_law_pick) XG):Fn3 P w K mg base (k+1) "_law_table" sp:=
 qF (t3:=(Bk.YY S_law_sides S_law_pick)) F ZC bd hm (λcdv A outer s H E hr=>(qg (YL (qh F_law_sides hr rfl (qa (qc 0) qe)) (VT rfl (qP (qA (i:=1) (ZC.nd)) (qP (qA (i:=2) (ZC.nd)) J2)))) (qg (qX 3 ZC.nd (zo qd (qh F_law_pick hr rfl (qa (qc 0) (qa (ze (zJ (qa qd (qa qd (qa qd qe)))) (qh F_law_pick hr rfl (qa (qc 0) (qa qd qe)))) qe))))) (qg (EZ 4 ["_law_i","_law_left_here","_law_banks","_law_columns"] [none,some 0,some 3,some 2] rfl ZC.nd (zP rfl m_range (qa (qc 1) qe) (h1:=by intro _ _ _ h;simpa [qb,qi] using h)) (λ_ _ _=>(jgn 0)) (λ_ _ _=>jm) (λ_ _ _=>(zd zm QF rfl m_tuple PyProof.Rows.boot_tuple (qa (VV ["_law_j","_law_left_here","_law_banks"] [none,some 1,some 2] rfl (zP rfl m_range (qa (qc 3) qe) (h1:=by intro _ _ _ h;simpa [qb,qi] using h)) (λ_ _ _=>(jgn 0)) (λ_ _ _=>jm) (λ_ _ _=>(qh F_law_pick hr rfl (qa (qc 1) (qa (qc 2) qe)))) (by kernel_rfl) (by kernel_rfl)) qe))) (by kernel_rfl) (by kernel_rfl) rfl rfl) (qm (qp (qq (qa qo (qa (qc 3) (qa (zd zm QF rfl m_tuple PyProof.Rows.boot_tuple (qa (qc 4) qe)) qe)))))))))) read
abbrev Q9:Stmt:=top 41
abbrev XJ:List Str:=["_law_left_here","_law_rows","_law_columns","_law_banks","_law_way","_law_high","_law_low","_law_masks","_law_wide","_law_places","_law_turn","_law_cells"]
abbrev EA:List Str:=["_law_left_here"]
def zb:FnScope XJ EA (qj Q9):=⟨rfl,rfl,rfl,by decide +kernel,rfl,by decide +kernel,by decide +kernel⟩
def LB {S_law_pick:Sp3} {S_law_gcd:Sp3} (F:Fun K "_law_small" "_law_small" Q9 f fd) (bd:zt K fd EA []) (hm:mg "_law_small" = some (.ref f)) (F_law_pick:Fn3 P w K mg base k "_law_pick" S_law_pick) (F_law_gcd:Fn3 P w K mg base k "_law_gcd" S_law_gcd)  (m_range:mg "range" = none) (m_tuple:mg "tuple" = none)
  (read:Rd sp 1 (Bk.Y9 S_law_pick S_law_gcd) XJ):Fn3 P w K mg base (k+1) "_law_small" sp:=
 qF (t3:=(Bk.Y9 S_law_pick S_law_gcd)) F zb bd hm (λcdv A outer s H E hr=>(qg (YL (qq (qa (zo qd (qh F_law_pick hr rfl (qa (qc 0) (qa qd qe)))) (qa (zo qd (qh F_law_pick hr rfl (qa (qc 0) (qa qd qe)))) (qa (zo qd (qh F_law_pick hr rfl (qa (qc 0) (qa qd qe)))) qe)))) (VT rfl (qP (qA (i:=1) (zb.nd)) (qP (qA (i:=2) (zb.nd)) (qP (qA (i:=3) (zb.nd)) J2))))) (qg (qX 4 zb.nd (qh F_law_pick hr rfl (qa (qc 0) (qa qd qe)))) (qg (zl (qC (zh hr.units) qN (qc 4) qd (qr _)) (qm (qp (qq (qa qo (qa (qc 1) (qa (qc 2) (qa (qc 3) (qa (qh F_law_pick hr rfl (qa (qc 0) (qa (qc 3) qe))) (qa (qh F_law_pick hr rfl (qa (qc 0) (qa qd qe))) qe))))))))) qI) (qg (zl (qC (zh hr.units) qN (qc 4) qd (qr _)) (qg (SH (i:=5) (j:=6) rfl zb.nd rfl rfl (by decide) rfl rfl (qa (qh F_law_pick hr rfl (qa (qc 0) (qa qd qe))) (qa (qh F_law_pick hr rfl (qa (qc 0) (qa qd qe))) qe))) (qg (EZ 7 ["_law_t","_law_left_here"] [none,some 0] rfl zb.nd (zP rfl m_range (qa (qh F_law_pick hr rfl (qa (qc 0) (qa qd qe))) qe) (h1:=by intro _ _ _ h;simpa [qb,qi] using h)) (λ_ _ _=>(jgn 0)) (λ_ _ _=>jm) (λ_ _ _=>(qh F_law_pick hr rfl (qa (qc 1) (qa qd qe)))) (by kernel_rfl) (by kernel_rfl) rfl rfl) (qg (qX 8 zb.nd (ze (zJ (qa qd (qa qd (qa qd (qa qd (qa qd qe)))))) (zo (qc 5) (qc 6)))) (qm (qp (qq (qa qo (qa (qc 5) (qa (qc 6) (qa (zd zm QF rfl m_tuple PyProof.Rows.boot_tuple (qa (VV ["_law_mask","_law_wide"] [none,some 8] rfl (JI (qc 7)) (λ_ _ _=>(jgn 0)) (λ_ _ _=>jm) (λ_ _ _=>(U1 (qc 0) (qc 1))) (by kernel_rfl) (by kernel_rfl)) qe)) qe)))))))))) qI) (qg (zl (qC (zh hr.units) qN (qc 4) qd (qr _)) (qg (qX 9 zb.nd (zo (K7 (KK (UA (K7 (qc 1)) (qc 2)) (qc 3))) (qh F_law_pick hr rfl (qa (qc 0) (qa qd qe))))) (qg (ET PassesOwn.never rfl (zP rfl m_range (qa qd qe) (h1:=by intro _ _ _ h;simpa [qb,qi] using h)) (qA (i:=10) (zb.nd)) (qm (zl (qC NO ZW (qh F_law_gcd hr rfl (qa (qc 3) (qa (qc 9) qe))) qd (qr _)) (qm (qX 9 zb.nd (zo (qc 9) qd))) qI))) (qm (qp (qq (qa qo (qa (qc 1) (qa (qc 2) (qa (qc 3) (qa (qc 9) qe)))))))))) qI) (qg (EZ 11 ["_law_i","_law_left_here","_law_banks","_law_columns"] [none,some 0,some 3,some 2] rfl zb.nd (zP rfl m_range (qa (qc 1) qe) (h1:=by intro _ _ _ h;simpa [qb,qi] using h)) (λ_ _ _=>(jgn 0)) (λ_ _ _=>jm) (λ_ _ _=>(zd zm QF rfl m_tuple PyProof.Rows.boot_tuple (qa (VV ["_law_j","_law_left_here","_law_banks"] [none,some 1,some 2] rfl (zP rfl m_range (qa (qc 3) qe) (h1:=by intro _ _ _ h;simpa [qb,qi] using h)) (λ_ _ _=>(jgn 0)) (λ_ _ _=>jm) (λ_ _ _=>(qh F_law_pick hr rfl (qa (qc 1) (qa (qc 2) qe)))) (by kernel_rfl) (by kernel_rfl)) qe))) (by kernel_rfl) (by kernel_rfl) rfl rfl) (qm (qp (qq (qa qo (qa (qc 3) (qa (zd zm QF rfl m_tuple PyProof.Rows.boot_tuple (qa (qc 11) qe)) qe))))))))))))) read
abbrev jE:Stmt:=top 42
abbrev VH:List Str:=["_law_left_here","_law_way","_law_inner","_law_some"]
abbrev Y8:List Str:=["_law_left_here"]
def Q7:FnScope VH Y8 (qj jE):=⟨rfl,rfl,rfl,by decide +kernel,rfl,by decide +kernel,by decide +kernel⟩
def RI {S_law_pick:Sp3} {S_law_skew:Sp3} {S_law_rests:Sp3} {S_law_bits:Sp3} {S_law_table:Sp3} {S_law_small:Sp3} (F:Fun K "_law_dealing" "_law_dealing" jE f fd) (bd:zt K fd Y8 []) (hm:mg "_law_dealing" = some (.ref f)) (F_law_pick:Fn3 P w K mg base k "_law_pick" S_law_pick) (F_law_skew:Fn3 P w K mg base k "_law_skew" S_law_skew) (F_law_rests:Fn3 P w K mg base k "_law_rests" S_law_rests) (F_law_bits:Fn3 P w K mg base k "_law_bits" S_law_bits) (F_law_table:Fn3 P w K mg base k "_law_table" S_law_table) (F_law_small:Fn3 P w K mg base k "_law_small" S_law_small)  
  (read:Rd sp 1 (Bk.ZY S_law_pick S_law_skew S_law_rests S_law_bits S_law_table S_law_small) VH):Fn3 P w K mg base (k+1) "_law_dealing" sp:=
 qF (t3:=(Bk.ZY S_law_pick S_law_skew S_law_rests S_law_bits S_law_table S_law_small)) F Q7 bd hm (λcdv A outer s H E hr=>(qg (qX 1 Q7.nd (qh F_law_pick hr rfl (qa (qc 0) (qa qd qe)))) (qg (zl (qC qiI ZW (qc 1) qd (qr _)) (qm (qp (qh F_law_skew hr rfl (qa (qc 0) qe)))) qI) (qg (zl (qC (zh hr.units) qN (qc 1) qd (qr _)) (qm (qp (qh F_law_rests hr rfl (qa (qc 0) qe)))) qI) (qg (zl (qC (zh hr.units) qN (qc 1) qd (qr _)) (qm (qp (qh F_law_bits hr rfl (qa (qc 0) (qa qd qe))))) qI) (qg (zl (qC (zh hr.units) qN (qc 1) qd (qr _)) (qm (qp (qh F_law_table hr rfl (qa (qc 0) qe)))) qI) (qg (zl (qC (zh hr.units) qN (qc 1) qd (qr _)) (qg (qX 2 Q7.nd (qq (qa qo (qa (qq (qa qo (qa (zo qd (qh F_law_pick hr rfl (qa (qc 0) (qa qd qe)))) (qa qd (qa qd (qa qd (qa qd qe))))))) (qa (qq (qa qo (qa qd (qa (qq (qa (qq (qa qd (qa qd qe))) qe)) qe)))) qe))))) (qg (qX 3 Q7.nd (zJ (qa (qq (qa qo (qa (qc 2) (qa (qh F_law_small hr rfl (qa (qc 0) qe)) qe)))) (qa (qq (qa qo (qa (qh F_law_small hr rfl (qa (qc 0) qe)) (qa (qc 2) qe)))) qe)))) (qg (TN (DJ (qc 3) (qa (qq (qa qo (qa (qq (qa qo (qa qd (qa qd (qa qd (qa qd (qa qd qe))))))) (qa (qq (qa qo (qa qd (qa qd (qa qd (qa qd qe)))))) qe)))) qe))) (qg (TN (DJ (qc 3) (qa (qq (qa qo (qa (qq (qa qo (qa qd (qa qd (qa qd (qa qd qe)))))) (qa (qq (qa qo (qa qd (qa qd (qa qd (qa qd (qa qd qe))))))) qe)))) qe))) (qm (qp (ze (qc 3) (qh F_law_pick hr rfl (qa (qc 0) (qa qd qe)))))))))) qI) (qm (qp (qq (qa qo (qa (qh F_law_small hr rfl (qa (qc 0) qe)) (qa (qh F_law_small hr rfl (qa (qc 0) qe)) qe))))))))))))) read
abbrev zj:Stmt:=top 43
abbrev zW:List Str:=["_law_dealing_here","_law_one","_law_other","_law_found","_law_i","_law_row"]
abbrev jV:List Str:=["_law_dealing_here"]
def q0:FnScope zW jV (qj zj):=⟨rfl,rfl,rfl,by decide +kernel,rfl,by decide +kernel,by decide +kernel⟩
def z9 (S_law_dealing_words:Sp3):TS3:=(qK (zM (tb3 (o3 (zV false) (o3 ix3 (v3 0) (c3 (.int 0))) (c3 (.str "joined")))) (qK (R9 1 2 (qb (cb3 S_law_dealing_words (qb (o3 ix3 (v3 0) (c3 (.int 1))) qi)) (qb (cb3 S_law_dealing_words (qb (o3 ix3 (v3 0) (c3 (.int 2))) qi)) qi))) (qZ (o3 j0 (o3 j0 (o3 j0 (o3 j0 (QQ (qb (c3 (.str "joined")) (qb (c3 (.str "(")) qi))) (v3 1)) (QQ (qb (c3 (.str ")")) (qb (c3 (.str "(")) qi)))) (v3 2)) (QQ (qb (c3 (.str ")")) qi))))) qH) (qK (zM (tb3 (o3 (zV false) (o3 ix3 (v3 0) (c3 (.int 0))) (c3 (.str "bits")))) (qZ (o3 j0 (QQ (qb (c3 (.str "bits")) qi)) (lc3 (ZR (o3 j0 (cb3 XM (qb (MQ (v3 0) (sp3 (c3 (.int 1))) (sp3 (c3 (.int 3)))) qi)) (cb3 XM (qb (o3 ix3 (v3 0) (c3 (.int 3))) qi)))) (gn3 0) tt3 (cb3 (TZ true) (qb (v3 0) qi)) [none]))) qH) (qK (zM (tb3 (o3 (zV true) (o3 ix3 (v3 0) (c3 (.int 0))) (c3 (.str "table")))) (qZ (o3 j0 (QQ (qb (o3 ix3 (v3 0) (c3 (.int 0))) qi)) (lc3 (ZR (MQ (v3 0) (sp3 (c3 (.int 1))) np3)) (gn3 0) tt3 (cb3 (TZ true) (qb (v3 0) qi)) [none]))) qH) (qK (zg (QQ (qb (c3 (.str "table")) (qb (cb3 (TZ true) (qb (o3 ix3 (v3 0) (c3 (.int 1))) qi)) qi))) (gn3 3)) (qK (RQ (KR (qb (o3 ix3 (v3 0) (c3 (.int 2))) qi)) (ZI 2 (qG (gn3 4) (qG (gn3 5) QC))) (zg (o3 j0 (o3 j0 (v3 3) (QQ (qb (if3 (tb3 (o3 (zV false) (v3 4) (c3 (.int 0)))) (c3 (.str ":")) (c3 (.str "/"))) qi))) (lc3 (ZR (v3 5)) (gn3 0) tt3 (cb3 (TZ true) (qb (v3 0) qi)) [none])) (gn3 3))) (qZ (v3 3)))))))
def UX {S_law_dealing_words:Sp3} (F:Fun K "_law_dealing_words" "_law_dealing_words" zj f fd) (bd:zt K fd jV []) (hm:mg "_law_dealing_words" = some (.ref f)) (F_law_dealing_words:Fn3 P w K mg base k "_law_dealing_words" S_law_dealing_words)  (m_list:mg "list" = none) (m_str:mg "str" = none) (m_enumerate:mg "enumerate" = none)
  (read:Rd sp 1 (z9 S_law_dealing_words) zW):Fn3 P w K mg base (k+1) "_law_dealing_words" sp:=
 qF (t3:=(z9 S_law_dealing_words)) F q0 bd hm (λcdv A outer s H E hr=>(qg (zl (qC (zh hr.units) qN (ze (qc 0) qd) qo (qr _)) (qg (SH (i:=1) (j:=2) rfl q0.nd rfl rfl (by decide) rfl rfl (qa (qh F_law_dealing_words hr rfl (qa (ze (qc 0) qd) qe)) (qa (qh F_law_dealing_words hr rfl (qa (ze (qc 0) qd) qe)) qe))) (qm (qp (qW (qW (qW (qW (zJ (qa qo (qa qo qe))) (qc 1)) (zJ (qa qo (qa qo qe)))) (qc 2)) (zJ (qa qo qe)))))) qI) (qg (zl (qC (zh hr.units) qN (ze (qc 0) qd) qo (qr _)) (qm (qp (qW (zJ (qa qo qe)) (VV ["_law_number"] [none] rfl (JI (qW (zd W6 NZ rfl m_list PyProof.Rows.boot_list (qa (V7 (qc 0) (zw qd) (zw qd)) qe)) (zd W6 NZ rfl m_list PyProof.Rows.boot_list (qa (ze (qc 0) qd) qe)))) (λ_ _ _=>(jgn 0)) (λ_ _ _=>jm) (λ_ _ _=>(zd (QX hr.gd hr.units) UT rfl m_str PyProof.Rows.boot_str (qa (qc 0) qe))) (by kernel_rfl) (by kernel_rfl))))) qI) (qg (zl (qC (V4 hr.units) JK (ze (qc 0) qd) qo (qr _)) (qm (qp (qW (zJ (qa (ze (qc 0) qd) qe)) (VV ["_law_number"] [none] rfl (JI (V7 (qc 0) (zw qd) QU)) (λ_ _ _=>(jgn 0)) (λ_ _ _=>jm) (λ_ _ _=>(zd (QX hr.gd hr.units) UT rfl m_str PyProof.Rows.boot_str (qa (qc 0) qe))) (by kernel_rfl) (by kernel_rfl))))) qI) (qg (qX 3 q0.nd (zJ (qa qo (qa (zd (QX hr.gd hr.units) UT rfl m_str PyProof.Rows.boot_str (qa (ze (qc 0) qd) qe)) qe)))) (qg (ET PassesOwn.never rfl (qcG rfl m_enumerate (qa (ze (qc 0) qd) qe)) (VT rfl (qP (qA (i:=4) (q0.nd)) (qP (qA (i:=5) (q0.nd)) J2))) (qm (qX 3 q0.nd (qW (qW (qc 3) (zJ (qa (qeH (qC (zh hr.units) qN (qc 4) qd (qr _)) qo qo) qe))) (VV ["_law_bank"] [none] rfl (JI (qc 5)) (λ_ _ _=>(jgn 0)) (λ_ _ _=>jm) (λ_ _ _=>(zd (QX hr.gd hr.units) UT rfl m_str PyProof.Rows.boot_str (qa (qc 0) qe))) (by kernel_rfl) (by kernel_rfl)))))) (qm (qp (qc 3))))))))) read
abbrev zG:Stmt:=top 44
abbrev jw:List Str:=["_law_left_here","_law_small_here","_law_one","_law_other","_law_third","_law_last","_law_way"]
abbrev QV:List Str:=["_law_left_here"]
def qY:FnScope jw QV (qj zG):=⟨rfl,rfl,rfl,by decide +kernel,rfl,by decide +kernel,by decide +kernel⟩
def jx (S_law_pick:Sp3) (S_law_dealing:Sp3):TS3:=(qK (zM (tb3 (o3 (iB λi j=>decide (j<i)) (cb3 S_law_pick (qb (v3 0) (qb (c3 (.int 8)) qi))) (c3 (.int 0)))) (qZ (cb3 S_law_dealing (qb (v3 0) qi))) qH) (qK (zg (QQ (qb (zB (qb (c3 (.str "skew")) (qb (c3 (.int 2)) (qb (c3 (.int 2)) (qb (c3 (.int 2)) (qb (c3 (.int 1)) (qb (c3 (.int 1)) qi))))))) (qb (zB (qb (c3 (.str "bits")) (qb (c3 (.int 1)) (qb (c3 (.int 0)) (qb (zB (qb (c3 (.int 1)) qi)) qi))))) (qb (zB (qb (c3 (.str "rests")) (qb (c3 (.int 1)) (qb (c3 (.int 2)) (qb (c3 (.int 2)) (qb (c3 (.int 1)) qi)))))) (qb (zB (qb (c3 (.str "table")) (qb (c3 (.int 2)) (qb (zB (qb (zB (qb (c3 (.int 1)) (qb (c3 (.int 0)) qi))) qi)) qi)))) qi))))) (gn3 1)) (qK (zg (lc3 (QR (qb (c3 (.int 4)) qi)) (gn3 0) tt3 (o3 ix3 (v3 1) (cb3 S_law_pick (qb (v3 2) (qb (c3 (.int 4)) qi)))) [none,some 1,some 0]) (N6 4 (qG (gn3 2) (qG (gn3 3) (qG (gn3 4) (qG (gn3 5) QC)))))) (qK (zg (cb3 S_law_pick (qb (v3 0) (qb (c3 (.int 4)) qi))) (gn3 6)) (qK (zM (tb3 (o3 (zV false) (v3 6) (c3 (.int 0)))) (qZ (zB (qb (c3 (.str "joined")) (qb (zB (qb (c3 (.str "joined")) (qb (v3 2) (qb (v3 3) qi)))) (qb (v3 4) qi))))) qH) (qK (zM (tb3 (o3 (zV false) (v3 6) (c3 (.int 1)))) (qZ (zB (qb (c3 (.str "joined")) (qb (v3 2) (qb (zB (qb (c3 (.str "joined")) (qb (v3 3) (qb (v3 4) qi)))) qi))))) qH) (qZ (zB (qb (c3 (.str "joined")) (qb (zB (qb (c3 (.str "joined")) (qb (v3 2) (qb (v3 3) qi)))) (qb (zB (qb (c3 (.str "joined")) (qb (v3 4) (qb (v3 5) qi)))) qi)))))))))))
def DH {S_law_pick:Sp3} {S_law_dealing:Sp3} (F:Fun K "_law_any_dealing" "_law_any_dealing" zG f fd) (bd:zt K fd QV []) (hm:mg "_law_any_dealing" = some (.ref f)) (F_law_pick:Fn3 P w K mg base k "_law_pick" S_law_pick) (F_law_dealing:Fn3 P w K mg base k "_law_dealing" S_law_dealing)  (m_range:mg "range" = none)
  (read:Rd sp 1 (jx S_law_pick S_law_dealing) jw):Fn3 P w K mg base (k+1) "_law_any_dealing" sp:=
 qF (t3:=(jx S_law_pick S_law_dealing)) F qY bd hm (λcdv A outer s H E hr=>(qg (zl (qC NO ZW (qh F_law_pick hr rfl (qa (qc 0) (qa qd qe))) qd (qr _)) (qm (qp (qh F_law_dealing hr rfl (qa (qc 0) qe)))) qI) (qg (qX 1 qY.nd (zJ (qa (qq (qa qo (qa qd (qa qd (qa qd (qa qd (qa qd qe))))))) (qa (qq (qa qo (qa qd (qa qd (qa (qq (qa qd qe)) qe))))) (qa (qq (qa qo (qa qd (qa qd (qa qd (qa qd qe)))))) (qa (qq (qa qo (qa qd (qa (qq (qa (qq (qa qd (qa qd qe))) qe)) qe)))) qe)))))) (qg (YL (VV ["_law_turn","_law_small_here","_law_left_here"] [none,some 1,some 0] rfl (zP rfl m_range (qa qd qe) (h1:=by intro _ _ _ h;simpa [qb,qi] using h)) (λ_ _ _=>(jgn 0)) (λ_ _ _=>jm) (λ_ _ _=>(ze (qc 1) (qh F_law_pick hr rfl (qa (qc 2) (qa qd qe))))) (by kernel_rfl) (by kernel_rfl)) (qhi rfl (qP (qA (i:=2) (qY.nd)) (qP (qA (i:=3) (qY.nd)) (qP (qA (i:=4) (qY.nd)) (qP (qA (i:=5) (qY.nd)) J2)))))) (qg (qX 6 qY.nd (qh F_law_pick hr rfl (qa (qc 0) (qa qd qe)))) (qg (zl (qC (zh hr.units) qN (qc 6) qd (qr _)) (qm (qp (qq (qa qo (qa (qq (qa qo (qa (qc 2) (qa (qc 3) qe)))) (qa (qc 4) qe)))))) qI) (qg (zl (qC (zh hr.units) qN (qc 6) qd (qr _)) (qm (qp (qq (qa qo (qa (qc 2) (qa (qq (qa qo (qa (qc 3) (qa (qc 4) qe)))) qe)))))) qI) (qm (qp (qq (qa qo (qa (qq (qa qo (qa (qc 2) (qa (qc 3) qe)))) (qa (qq (qa qo (qa (qc 4) (qa (qc 5) qe)))) qe))))))))))))) read
abbrev JO:Stmt:=top 45
abbrev RW:List Str:=["_law_found","_law_due"]
abbrev WQ:List Str:=["_law_found","_law_due"]
def NI:FnScope RW WQ (qj JO):=⟨rfl,rfl,rfl,by decide +kernel,rfl,by decide +kernel,by decide +kernel⟩
def NQ {S_law_same:Sp3} (F:Fun K "_law_same" "_law_same" JO f fd) (bd:zt K fd WQ []) (hm:mg "_law_same" = some (.ref f)) (F_law_same:Fn3 P w K mg base k "_law_same" S_law_same)  (m_isinstance:mg "isinstance" = none) (m_list:mg "list" = none) (m_tuple:mg "tuple" = none) (m_zip:mg "zip" = none) (m_all:mg "all" = none) (m_len:mg "len" = none) (m_str:mg "str" = none) (m_bool:mg "bool" = none) (m_int:mg "int" = none)
  (read:Rd sp 2 (Bk.WN S_law_same) RW):Fn3 P w K mg base (k+1) "_law_same" sp:=
 qF (t3:=(Bk.WN S_law_same)) F NI bd hm (λcdv A outer s H E hr=>(qg (zl (ZV (qbJ (qc 1) rfl m_isinstance rfl m_list PyProof.Rows.boot_list rfl m_tuple PyProof.Rows.boot_tuple)) (qg (zl (jpt (DG (qC (V4 hr.units) JK (JT (qc 0) rfl m_isinstance rfl m_list PyProof.Rows.boot_list) (JT (qc 1) rfl m_isinstance rfl m_list PyProof.Rows.boot_list) (qr _)) (VS (qC (V4 hr.units) JK (JT (qc 0) rfl m_isinstance rfl m_tuple PyProof.Rows.boot_tuple) (JT (qc 1) rfl m_isinstance rfl m_tuple PyProof.Rows.boot_tuple) (qr _))))) (qm (qp XB)) qI) (qm (qp (YR (ZU (zh hr.units) qN (qU zI ju rfl m_len PySem.boot_len (qa (qc 0) qe)) (qU zI ju rfl m_len PySem.boot_len (qa (qc 1) qe)) (qr _)) (DT (qU (je rfl) WJ rfl m_all PyProof.Rows.boot_all (qa (VV ["_law_one","_law_other"] [none,none] rfl (qkW rfl m_zip (qa (qc 0) (qa (qc 1) qe))) (λ_ _ _=>(VT rfl (qP (jgn 0) (qP (jgn 1) J2)))) (λ_ _ _=>jm) (λ_ _ _=>(qh F_law_same hr rfl (qa (qc 0) (qa (qc 1) qe)))) (by kernel_rfl) (by kernel_rfl)) qe))))))) qI) (qg (zl (jpt (DG (qC qc3 M1 (qc 1) qbd (qr _)) (VS (ZV (qbJ (qc 1) rfl m_isinstance rfl m_str PyProof.Rows.boot_str rfl m_bool PyProof.Rows.boot_bool))))) (qm (qp (YR (ZU (zh hr.units) qN (qc 0) (qc 1) (qr _)) (YR (ZU (zh hr.units) qN (JT (qc 0) rfl m_isinstance rfl m_bool PyProof.Rows.boot_bool) (JT (qc 1) rfl m_isinstance rfl m_bool PyProof.Rows.boot_bool) (qr _)) (DT (ZU (zh hr.units) qN (ZU qc3 M1 (qc 0) qbd (qr _)) (ZU qc3 M1 (qc 1) qbd (qr _)) (qr _))))))) qI) (qm (qp (YR (JT (qc 0) rfl m_isinstance rfl m_int PyProof.Rows.boot_int) (YR (qeX (JT (qc 0) rfl m_isinstance rfl m_bool PyProof.Rows.boot_bool)) (DT (ZU (zh hr.units) qN (qc 0) (qc 1) (qr _)))))))))) read
abbrev QA:Stmt:=top 46
abbrev J9:List Str:=["_law_left_here","_law_more","_law_deep","_law_skew_here","_law_found","_law_chain","_law_turn","_law_other"]
abbrev V6:List Str:=["_law_left_here"]
def zf:FnScope J9 V6 (qj QA):=⟨rfl,rfl,rfl,by decide +kernel,rfl,by decide +kernel,by decide +kernel⟩
def J1 (S_law_pick:Sp3):TS3:=(qK (zg (lc3 (QR (qb (c3 (.int 4)) qi)) (gn3 0) tt3 (cb3 S_law_pick (qb (v3 1) (qb (c3 (.int 9)) qi))) [none,some 0]) (gn3 1)) (qK (zg (zB (qb (c3 (.str "joined")) (qb (zB (qb (c3 (.str "joined")) (qb (zB (qb (c3 (.str "skew")) (qb (c3 (.int 1)) (qb (c3 (.int 2)) (qb (c3 (.int 2)) (qb (c3 (.int 0)) (qb (c3 (.int 1)) qi))))))) (qb (zB (qb (c3 (.str "skew")) (qb (c3 (.int 2)) (qb (c3 (.int 1)) (qb (c3 (.int 2)) (qb (c3 (.int 1)) (qb (c3 (.int 0)) qi))))))) qi)))) (qb (zB (qb (c3 (.str "table")) (qb (c3 (.int 1)) (qb (zB (qb (zB (qb (c3 (.int 0)) qi)) qi)) qi)))) qi)))) (gn3 2)) (qK (zg (zB (qb (c3 (.str "skew")) (qb (o3 j0 (c3 (.int 17)) (o3 ix3 (v3 1) (c3 (.int 0)))) (qb (c3 (.int 17)) (qb (o3 j0 (c3 (.int 33)) (o3 ix3 (v3 1) (c3 (.int 1)))) (qb (o3 j0 (c3 (.int 100)) (o3 ix3 (v3 1) (c3 (.int 2)))) (qb (c3 (.int 9990)) qi))))))) (gn3 3)) (qK (zg (QQ (qb (v3 3) (qb (zB (qb (c3 (.str "rests")) (qb (c3 (.int 40)) (qb (o3 j0 (c3 (.int 17)) (o3 ix3 (v3 1) (c3 (.int 0)))) (qb (c3 (.int 41)) (qb (o3 j0 (c3 (.int 100)) (o3 ix3 (v3 1) (c3 (.int 1)))) qi)))))) qi))) (gn3 4)) (qK (zg (o3 j0 (v3 4) (QQ (qb (zB (qb (c3 (.str "bits")) (qb (c3 (.int 5)) (qb (c3 (.int 6)) (qb (zB (qb (o3 j0 (c3 (.int 1024)) (o3 ix3 (v3 1) (c3 (.int 2)))) (qb (o3 (iI (·-·)) (c3 (.int 2047)) (o3 ix3 (v3 1) (c3 (.int 3)))) qi))) qi))))) (qb (zB (qb (c3 (.str "table")) (qb (c3 (.int 33)) (qb (cb3 ja (qb (o3 qiR (QQ (qb (zB (qb (o3 (iI (·-·)) (c3 (.int 32)) (o3 ix3 (v3 1) (c3 (.int 0)))) qi)) qi)) (c3 (.int 17))) qi)) qi)))) qi)))) (gn3 4)) (qK (zg (zB (qb (c3 (.str "table")) (qb (c3 (.int 1)) (qb (zB (qb (zB (qb (c3 (.int 0)) qi)) qi)) qi)))) (gn3 5)) (qK (RQ (QR (qb (o3 j0 (c3 (.int 10)) (o3 (iC XQ (·*·)) (c3 (.int 2)) (o3 ix3 (v3 1) (c3 (.int 0))))) qi)) (gn3 6) (qK (zg (zB (qb (c3 (.str "skew")) (qb (c3 (.int 1)) (qb (c3 (.int 1)) (qb (c3 (.int 1)) (qb (c3 (.int 0)) (qb (c3 (.int 0)) qi))))))) (gn3 7)) (zg (o3 ix3 (QQ (qb (zB (qb (c3 (.str "joined")) (qb (v3 5) (qb (v3 7) qi)))) (qb (zB (qb (c3 (.str "joined")) (qb (v3 7) (qb (v3 5) qi)))) qi))) (o3 (iC (λ_ j=>0<j) (·%·)) (o3 (iC qdr (·/·)) (o3 j0 (o3 (iC XQ (·*·)) (v3 6) (o3 ix3 (v3 1) (c3 (.int 1)))) (o3 ix3 (v3 1) (c3 (.int 2)))) (c3 (.int 3))) (c3 (.int 2)))) (gn3 5)))) (qZ (o3 j0 (v3 4) (QQ (qb (v3 5) (qb (zB (qb (c3 (.str "joined")) (qb (v3 2) (qb (zB (qb (c3 (.str "bits")) (qb (c3 (.int 1)) (qb (c3 (.int 0)) (qb (zB (qb (c3 (.int 1)) qi)) qi))))) qi)))) (qb (zB (qb (c3 (.str "joined")) (qb (zB (qb (c3 (.str "rests")) (qb (c3 (.int 1)) (qb (c3 (.int 1)) (qb (c3 (.int 33)) (qb (c3 (.int 1)) qi)))))) (qb (v3 2) qi)))) qi)))))))))))))
def S5 {S_law_pick:Sp3} (F:Fun K "_law_beyond" "_law_beyond" QA f fd) (bd:zt K fd V6 []) (hm:mg "_law_beyond" = some (.ref f)) (F_law_pick:Fn3 P w K mg base k "_law_pick" S_law_pick)  (m_range:mg "range" = none) (m_tuple:mg "tuple" = none)
  (read:Rd sp 1 (J1 S_law_pick) J9):Fn3 P w K mg base (k+1) "_law_beyond" sp:=
 qF (t3:=(J1 S_law_pick)) F zf bd hm (λcdv A outer s H E hr=>(qg (EZ 1 ["_law_turn","_law_left_here"] [none,some 0] rfl zf.nd (zP rfl m_range (qa qd qe) (h1:=by intro _ _ _ h;simpa [qb,qi] using h)) (λ_ _ _=>(jgn 0)) (λ_ _ _=>jm) (λ_ _ _=>(qh F_law_pick hr rfl (qa (qc 1) (qa qd qe)))) (by kernel_rfl) (by kernel_rfl) rfl rfl) (qg (qX 2 zf.nd (qq (qa qo (qa (qq (qa qo (qa (qq (qa qo (qa qd (qa qd (qa qd (qa qd (qa qd qe))))))) (qa (qq (qa qo (qa qd (qa qd (qa qd (qa qd (qa qd qe))))))) qe)))) (qa (qq (qa qo (qa qd (qa (qq (qa (qq (qa qd qe)) qe)) qe)))) qe))))) (qg (qX 3 zf.nd (qq (qa qo (qa (qW qd (ze (qc 1) qd)) (qa qd (qa (qW qd (ze (qc 1) qd)) (qa (qW qd (ze (qc 1) qd)) (qa qd qe)))))))) (qg (qX 4 zf.nd (zJ (qa (qc 3) (qa (qq (qa qo (qa qd (qa (qW qd (ze (qc 1) qd)) (qa qd (qa (qW qd (ze (qc 1) qd)) qe)))))) qe)))) (qg (qX 4 zf.nd (qW (qc 4) (zJ (qa (qq (qa qo (qa qd (qa qd (qa (qq (qa (qW qd (ze (qc 1) qd)) (qa (qeM qd (ze (qc 1) qd)) qe))) qe))))) (qa (qq (qa qo (qa qd (qa (zd zm QF rfl m_tuple PyProof.Rows.boot_tuple (qa (qmD (zJ (qa (qq (qa (qeM qd (ze (qc 1) qd)) qe)) qe)) qd) qe)) qe)))) qe))))) (qg (qX 5 zf.nd (qq (qa qo (qa qd (qa (qq (qa (qq (qa qd qe)) qe)) qe))))) (qg (ET PassesOwn.never rfl (zP rfl m_range (qa (qW qd (UA qd (ze (qc 1) qd))) qe) (h1:=by intro _ _ _ h;simpa [qb,qi] using h)) (qA (i:=6) (zf.nd)) (qg (qX 7 zf.nd (qq (qa qo (qa qd (qa qd (qa qd (qa qd (qa qd qe)))))))) (qm (qX 5 zf.nd (ze (zJ (qa (qq (qa qo (qa (qc 5) (qa (qc 7) qe)))) (qa (qq (qa qo (qa (qc 7) (qa (qc 5) qe)))) qe))) (U1 (KK (qW (UA (qc 6) (ze (qc 1) qd)) (ze (qc 1) qd)) qd) qd)))))) (qm (qp (qW (qc 4) (zJ (qa (qc 5) (qa (qq (qa qo (qa (qc 2) (qa (qq (qa qo (qa qd (qa qd (qa (qq (qa qd qe)) qe))))) qe)))) (qa (qq (qa qo (qa (qq (qa qo (qa qd (qa qd (qa qd (qa qd qe)))))) (qa (qc 2) qe)))) qe))))))))))))))) read
abbrev V9:Stmt:=top 47
abbrev qbK:List Str:=["_law_script","_law_k","_law_left_here","_law_dealing_here","_law_text","_law_turn","_law_found"]
abbrev qkn:List Str:=["_law_script"]
def CP:FnScope qbK qkn (qj V9):=⟨rfl,rfl,rfl,by decide +kernel,rfl,by decide +kernel,by decide +kernel⟩
def qhE (S_law_left:Sp3) (S_law_any_dealing:Sp3) (S_law_beyond:Sp3) (S_law_dealing_words:Sp3) (S_dealing_of:Sp3) (S_dealing_text:Sp3) (S_is_dealing:Sp3) (S_law_same:Sp3):TS3:=(qK (RQ (QR (qb (o3 j0 (c3 (.int 1)) (cb3 qdm (qb (c3 (.int 10)) (qb (cb3 U2 (qb (v3 0) qi)) qi)))) qi)) (gn3 1) (qK (zg (cb3 S_law_left (qb (v3 0) (qb (v3 1) qi))) (gn3 2)) (RQ (ZR (o3 j0 (QQ (qb (cb3 S_law_any_dealing (qb (v3 2) qi)) qi)) (cb3 S_law_beyond (qb (v3 2) qi)))) (gn3 3) (qK (zg (qaP SW (c3 (.str " ")) (qb (cb3 S_law_dealing_words (qb (v3 3) qi)) qi)) (gn3 4)) (RQ (QR (qb (c3 (.int 2)) qi)) (gn3 5) (qK (zg (cb3 S_dealing_of (qb (v3 4) qi)) (gn3 6)) (zM (or3 (CQ (tb3 (cb3 S_law_same (qb (v3 6) (qb (v3 3) qi))))) (or3 (tb3 (o3 (qnT true) (cb3 S_is_dealing (qb (v3 6) qi)) (c3 (.bl true)))) (tb3 (o3 (zV true) (cb3 S_dealing_text (qb (v3 6) qi)) (v3 4))))) (qZ (c3 (.bl false))) qH))))))) (qZ (c3 (.bl true))))
def qkM {S_law_left:Sp3} {S_law_any_dealing:Sp3} {S_law_beyond:Sp3} {S_law_dealing_words:Sp3} {S_dealing_of:Sp3} {S_dealing_text:Sp3} {S_is_dealing:Sp3} {S_law_same:Sp3} (F:Fun K "law" "law" V9 f fd) (F_law_left:Fn3 P w K mg base k "_law_left" S_law_left) (F_law_any_dealing:Fn3 P w K mg base k "_law_any_dealing" S_law_any_dealing) (F_law_beyond:Fn3 P w K mg base k "_law_beyond" S_law_beyond) (F_law_dealing_words:Fn3 P w K mg base k "_law_dealing_words" S_law_dealing_words) (zT:Fn3 P w K mg base k "dealing_of" S_dealing_of) (F_dealing_text:Fn3 P w K mg base k "dealing_text" S_dealing_text) (F_is_dealing:Fn3 P w K mg base k "is_dealing" S_is_dealing) (F_law_same:Fn3 P w K mg base k "_law_same" S_law_same)  (m_len:mg "len" = none) (m_min:mg "min" = none) (m_range:mg "range" = none)
  (read:Rd sp 1 (qhE S_law_left S_law_any_dealing S_law_beyond S_law_dealing_words S_dealing_of S_dealing_text S_is_dealing S_law_same) qbK):FnOk P w K mg base CX0 (k+1) f fd qkn (lSp K sp):=
 qd5 (t3:=(qhE S_law_left S_law_any_dealing S_law_beyond S_law_dealing_words S_dealing_of S_dealing_text S_is_dealing S_law_same)) F CP (λcdv A outer s H E hr=>(qg (ET PassesOwn.never rfl (zP rfl m_range (qa (qW qd (qU (qcu rfl) qhx rfl m_min PyProof.Rows.boot_min (qa qd (qa (qU zI ju rfl m_len PySem.boot_len (qa (qc 0) qe)) qe)))) qe) (h1:=by intro _ _ _ h;simpa [qb,qi] using h)) (qA (i:=1) (CP.nd)) (qg (qX 2 CP.nd (qh F_law_left hr rfl (qa (qc 0) (qa (qc 1) qe)))) (qm (ET PassesOwn.never rfl (JI (qW (zJ (qa (qh F_law_any_dealing hr rfl (qa (qc 2) qe)) qe)) (qh F_law_beyond hr rfl (qa (qc 2) qe)))) (qA (i:=3) (CP.nd)) (qg (qX 4 CP.nd (M0 qo (qa (qh F_law_dealing_words hr rfl (qa (qc 3) qe)) qe))) (qm (ET PassesOwn.never rfl (zP rfl m_range (qa qd qe) (h1:=by intro _ _ _ h;simpa [qb,qi] using h)) (qA (i:=5) (CP.nd)) (qg (qX 6 CP.nd (qh zT hr rfl (qa (qc 4) qe))) (qm (zl (jpt (DG (J4 (ZV (qh F_law_same hr rfl (qa (qc 6) (qa (qc 3) qe))))) (DG (qC qha qdE (qh F_is_dealing hr rfl (qa (qc 6) qe)) XB (qr _)) (VS (qC (V4 hr.units) JK (qh F_dealing_text hr rfl (qa (qc 6) qe)) (qc 4) (qr _)))))) (qm (qp XB)) qI)))))))))) (qm (qp XB)))) read
end K77
namespace K77
open PySem L2 L3 Pu
def VO:PuS (Bk.VB):=(YG (RA (qfX (λt=>jP t "int") (bV 0)) (qlc (qfX (λt=>jP t "bool") (bV 0)))))
def jr:List PyData->Option PyData:=Pu.run VO.f 1 1 1000000000 false
def KS:Rd (PSp jr false) 1 (Bk.VB) VM:=zu VO VM 1 1000000000 false
def LX {x0:PyData}:jr [x0]=EY false (VO.f 1000000000 [.sh x0]):=id rfl
def Z6:PuS (K77.Z4 (PSp jr false)):=(YG (RA (qx (zn jr false) (qf (bV 0) qz)) (bO (opB λi j=>decide (j<=i)) (bV 0) (bV 1))))
def qQ:List PyData->Option PyData:=Pu.run Z6.f 2 2 1000000000 false
def C9:Rd (PSp qQ false) 2 (K77.Z4 (PSp jr false)) j9:=zu Z6 j9 2 1000000000 false
def C6 {x0 x1:PyData}:qQ [x0,x1]=EY false (Z6.f 1000000000 [.sh x0,.sh x1]):=id rfl
def Q2:PuS (K77.Q1 (PSp qQ false)):=(YG (qx qhD (qf (bLc (RR (bV 0)) (gN 0) bTt (qx (zn qQ false) (qf (bV 0) (qf (bV 1) qz))) [none,some 1] ⟨rfl⟩) qz)))
def qk:List PyData->Option PyData:=Pu.run Q2.f 2 2 1000000000 false
def CJ:Rd (PSp qk false) 2 (K77.Q1 (PSp qQ false)) Q4:=zu Q2 Q4 2 1000000000 false
def CN {x0 x1:PyData}:qk [x0,x1]=EY false (Q2.f 1000000000 [.sh x0,.sh x1]):=id rfl
def jf:PuS (K77.jg):=(ZX (sWh (bTb (bO (opB λi j=>decide (j<i)) (bV 1) (qE 0))) (qoM (qf (bV 1) (qf (bO (opC (λ_ j=>0<j) (·%·)) (bV 0) (bV 1)) qz)) 0 1 [true,true] ⟨rfl⟩)) (YG (bO (UG false) (bV 0) (qE 1))))
def qT:List PyData->Option PyData:=Pu.run jf.f 2 2 1000000000 false
def EO:Rd (PSp qT false) 2 (K77.jg) zH:=zu jf zH 2 1000000000 false
def EJ {x0 x1:PyData}:qT [x0,x1]=EY false (jf.f 1000000000 [.sh x0,.sh x1]):=id rfl
def jI:PuS (K77.DP (PSp qk false)):=(YG (RA (bO (UG false) (qx qaM (qf (bV 0) qz)) (qE 6)) (RA (qx (zn qk false) (qf (bSl (bV 0) (bSp (qE 1)) (bSp (qE 4))) (qf (qE 1) qz))) (qx (zn qk false) (qf (bSl (bV 0) (bSp (qE 4)) bNp) (qf (qE 0) qz))))))
def ZD:List PyData->Option PyData:=Pu.run jI.f 1 1 1000000000 false
def qay:Rd (PSp ZD false) 1 (K77.DP (PSp qk false)) DK:=zu jI DK 1 1000000000 false
def qaZ {x0:PyData}:ZD [x0]=EY false (jI.f 1000000000 [.sh x0]):=id rfl
def jd:PuS (K77.UP (PSp qk false) (PSp qT false)):=(ZX (sIf (bOr (bTb (bO (UG true) (qx qaM (qf (bV 0) qz)) (qE 5))) (MK (bTb (qx (zn qk false) (qf (bSl (bV 0) (bSp (qE 1)) bNp) (qf (qE 1) qz)))))) (YG (bBl false)) jH) (ZX (qaQ (bSl (bV 0) (bSp (qE 1)) bNp) (qdl 4 (Z3 (gN 1) (Z3 (gN 2) (Z3 (gN 3) (Z3 (gN 4) qci))))) [true] ⟨rfl⟩) (YG (RA (qx (zn qT false) (qf (bV 3) (qf (bV 4) qz))) (bO (opB λi j=>decide (j<=i)) (bO (opC XQ (·*·)) (bV 3) (bV 4)) (bO (opC XQ (·*·)) (bV 1) (bV 2)))))))
def jX:List PyData->Option PyData:=Pu.run jd.f 1 5 1000000000 false
def NK:Rd (PSp jX false) 1 (K77.UP (PSp qk false) (PSp qT false)) YH:=zu jd YH 1 1000000000 false
def M7 {x0:PyData}:jX [x0]=EY false (jd.f 1000000000 [.sh x0,.un,.un,.un,.un]):=id rfl
def jt:PuS (K77.DA (PSp qk false)):=(ZX (sIf (bOr (bTb (bO (UG true) (qx qaM (qf (bV 0) qz)) (qE 4))) (MK (bTb (qx (zn qk false) (qf (bSl (bV 0) (bSp (qE 1)) (bSp (qE 3))) (qf (qE 0) qz)))))) (YG (bBl false)) jH) (ZX (qaQ (bSl (bV 0) (bSp (qE 1)) bNp) (qdl 3 (Z3 (gN 1) (Z3 (gN 2) (Z3 (gN 3) qci)))) [true] ⟨rfl⟩) (ZX (sIf (bOr (MK (bTb (qfX (λt=>jP t "tuple") (bV 3)))) (MK (bTb (qx (zn qk false) (qf (bV 3) (qf (qE 0) qz)))))) (YG (bBl false)) jH) (YG (qx qhD (qf (bLc (RR (bV 3)) (gN 0) bTt (bO (opB λi j=>decide (i<=j)) (qqT (bV 0)) (bO qhZ (bV 1) (bV 2))) [none,some 1,some 2] ⟨rfl⟩) qz))))))
def ZK:List PyData->Option PyData:=Pu.run jt.f 1 4 1000000000 false
def qaK:Rd (PSp ZK false) 1 (K77.DA (PSp qk false)) EU:=zu jt EU 1 1000000000 false
def qa5 {x0:PyData}:ZK [x0]=EY false (jt.f 1000000000 [.sh x0,.un,.un,.un]):=id rfl
def zY:PuS (K77.Z7 (PSp qk false)):=(ZX (sIf (bOr (MK (bTb (qfX (λt=>jP t "tuple") (bV 0)))) (bOr (bTb (bO (UG true) (qx qaM (qf (bV 0) qz)) (bV 1))) (MK (bTb (qx (zn qk false) (qf (bV 0) (qf (qE 0) qz))))))) (YG (bBl false)) jH) (YG (qx qhD (qf (bLc (RR (bV 0)) (gN 0) bTt (bO (opB λi j=>decide (i<j)) (bV 0) (bV 1)) [none,some 2] ⟨rfl⟩) qz))))
def zF:List PyData->Option PyData:=Pu.run zY.f 3 3 1000000000 false
def C4:Rd (PSp zF false) 3 (K77.Z7 (PSp qk false)) Z5:=zu zY Z5 3 1000000000 false
def RB {x0 x1 x2:PyData}:zF [x0,x1,x2]=EY false (zY.f 1000000000 [.sh x0,.sh x1,.sh x2]):=id rfl
def zD:PuS (K77.UU (PSp qQ false) (PSp zF false)):=(ZX (sIf (bOr (bTb (bO (UG true) (qx qaM (qf (bV 0) qz)) (qE 3))) (MK (bTb (qx (zn qQ false) (qf (bO VI (bV 0) (qE 1)) (qf (qE 1) qz)))))) (YG (bBl false)) jH) (ZX (qaQ (bSl (bV 0) (bSp (qE 1)) bNp) (qdl 2 (Z3 (gN 1) (Z3 (gN 2) qci))) [true] ⟨rfl⟩) (ZX (sIf (bOr (MK (bTb (qfX (λt=>jP t "tuple") (bV 2)))) (bTb (bO (UG false) (qx qaM (qf (bV 2) qz)) (qE 0)))) (YG (bBl false)) jH) (ZX (sIf (bOr (MK (bTb (qfX (λt=>jP t "tuple") (bO VI (bV 2) (qE 0))))) (bTb (bO (UG false) (qx qaM (qf (bO VI (bV 2) (qE 0)) qz)) (qE 0)))) (YG (bBl false)) jH) (YG (qx qhD (qf (bLc (RR (bV 2)) (gN 0) bTt (qx (zn zF false) (qf (bV 0) (qf (qx qaM (qf (bO VI (bV 2) (qE 0)) qz)) (qf (bV 1) qz)))) [none,some 1,some 2] ⟨rfl⟩) qz)))))))
def jY:List PyData->Option PyData:=Pu.run zD.f 1 3 1000000000 false
def MR:Rd (PSp jY false) 1 (K77.UU (PSp qQ false) (PSp zF false)) UK:=zu zD UK 1 1000000000 false
def MT {x0:PyData}:jY [x0]=EY false (zD.f 1000000000 [.sh x0,.un,.un]):=id rfl
def jW (Ff:List PyData->Option PyData):PuS (K77.Y0 (PSp Ff false)):=(YG (RA (bO (UG false) (qx qaM (qf (bV 0) qz)) (qE 3)) (RA (qx (zn Ff false) (qf (bO VI (bV 0) (qE 1)) qz)) (qx (zn Ff false) (qf (bO VI (bV 0) (qE 2)) qz)))))
def QT (Ff:List PyData->Option PyData):List PyData->Option PyData:=Pu.run (jW Ff).f 1 1 1000000000 false
def KT (Ff:List PyData->Option PyData):Rd (PSp (QT Ff) false) 1 (K77.Y0 (PSp Ff false)) jS:=zu (jW Ff) jS 1 1000000000 false
def K2 {Ff:List PyData->Option PyData} {x0:PyData}:QT Ff [x0]=EY false ((jW Ff).f 1000000000 [.sh x0]):=id rfl
def zc (Ff:List PyData->Option PyData):PuS (K77.J5 (PSp ZD false) (PSp jX false) (PSp ZK false) (PSp jY false) (PSp (QT Ff) false)):=(ZX (sIf (bOr (MK (bTb (qfX (λt=>jP t "tuple") (bV 0)))) (bTb (bO (UG false) (qx qaM (qf (bV 0) qz)) (qE 0)))) (YG (bBl false)) jH) (ZX (qbP (bO VI (bV 0) (qE 0)) 1 [true] ⟨rfl⟩) (ZX (sIf (bTb (bO qa1 (bV 1) (jB "skew"))) (YG (qx (zn ZD false) (qf (bV 0) qz))) jH) (ZX (sIf (bTb (bO qa1 (bV 1) (jB "rests"))) (YG (qx (zn jX false) (qf (bV 0) qz))) jH) (ZX (sIf (bTb (bO qa1 (bV 1) (jB "bits"))) (YG (qx (zn ZK false) (qf (bV 0) qz))) jH) (ZX (sIf (bTb (bO qa1 (bV 1) (jB "table"))) (YG (qx (zn jY false) (qf (bV 0) qz))) jH) (YG (RA (bO qa1 (bV 1) (jB "joined")) (qx (zn (QT Ff) false) (qf (bV 0) qz))))))))))
def qy:Nat->List PyData->Option PyData
 |0=>λ_=>none
 |j+1=>Pu.run (zc (qy j)).f 1 2 1000000000 false
def TV (j:Nat):Rd (PSp (qy (j+1)) false) 1 (K77.J5 (PSp ZD false) (PSp jX false) (PSp ZK false) (PSp jY false) (PSp (QT (qy j)) false)) ZG:=zu (zc (qy j)) ZG 1 1000000000 false
def SY {j:Nat} {x0:PyData}:qy (j+1) [x0]=EY false ((zc (qy j)).f 1000000000 [.sh x0,.un]):=id rfl
def UJ:PuS (K77.US):=(YG (qdd (jB " ") (qf (bLc (RR (bV 0)) (gN 0) bTt (qx (D9 true) (qf (bV 0) qz)) [none] ⟨rfl⟩) qz)))
def za:List PyData->Option PyData:=Pu.run UJ.f 1 1 1000000000 false
def MO:Rd (PSp za false) 1 (K77.US) UO:=zu UJ UO 1 1000000000 false
def M9 {x0:PyData}:za [x0]=EY false (UJ.f 1000000000 [.sh x0]):=id rfl
def DC:PuS (K77.DB (PSp za false)):=(YG (qdd (jB " / ") (qf (bLc (RR (bV 0)) (gN 0) bTt (qx (zn za false) (qf (bV 0) qz)) [none] ⟨rfl⟩) qz)))
def ZM:List PyData->Option PyData:=Pu.run DC.f 1 1 1000000000 false
def qa9:Rd (PSp ZM false) 1 (K77.DB (PSp za false)) EW:=zu DC EW 1 1000000000 false
def qa0 {x0:PyData}:ZM [x0]=EY false (DC.f 1000000000 [.sh x0]):=id rfl
def zq (Ff:List PyData->Option PyData):PuS (K77.Q6 (PSp za false) (PSp ZM false) (PSp Ff false)):=(ZX (qbP (bO VI (bV 0) (qE 0)) 1 [true] ⟨rfl⟩) (ZX (sIf (bTb (bO (UG false) (bV 1) (jB "bits"))) (YG (qx (zn za false) (qf (bO zO (qdQ (bV 0) bNp (bSp (qE 3))) (bO VI (bV 0) (qE 3))) qz))) jH) (ZX (sIf (bTb (bO (UG false) (bV 1) (jB "table"))) (YG (bFs (qaJ "table " (qbm (bO VI (bV 0) (qE 1)) (qaJ " : " (qbm (qx (zn ZM false) (qf (bO VI (bV 0) (qE 2)) qz)) qhm)))))) jH) (ZX (sIf (bTb (bO (UG false) (bV 1) (jB "joined"))) (YG (bFs (qaJ "joined ( " (qbm (qx (zn Ff false) (qf (bO VI (bV 0) (qE 1)) qz)) (qaJ " ) ( " (qbm (qx (zn Ff false) (qf (bO VI (bV 0) (qE 2)) qz)) (qaJ " )" qhm))))))) jH) (YG (qx (zn za false) (qf (bV 0) qz)))))))
def qV:Nat->List PyData->Option PyData
 |0=>λ_=>none
 |j+1=>Pu.run (zq (qV j)).f 1 2 1000000000 false
def CI (j:Nat):Rd (PSp (qV (j+1)) false) 1 (K77.Q6 (PSp za false) (PSp ZM false) (PSp (qV j) false)) jD:=zu (zq (qV j)) jD 1 1000000000 false
def jk {j:Nat} {x0:PyData}:qV (j+1) [x0]=EY false ((zq (qV j)).f 1000000000 [.sh x0,.un]):=id rfl
def jR:PuS (K77.jO):=(ZX (qbP (bIf (bTb (qbp (bV 0) (qf (jB "-") qz))) (qox (bV 0) (bSp (qE 1)) bNp) (bV 0)) 1 [true] ⟨rfl⟩) (ZX (sIf (bOr (MK (bTb (bCh (opB λi j=>decide (i<=j)) (opB λi j=>decide (i<=j)) (qE 1) (qx qlh (qf (bV 1) qz)) (qE 4)))) (MK (bTb (qx qhD (qf (bLc (qo0 (bV 1)) (gN 0) bTt (bO qhs (bV 0) (jB "0123456789")) [none] ⟨rfl⟩) qz))))) qge jH) (ZX (qbP (qx qhr (qf (bV 0) qz)) 2 [true] ⟨rfl⟩) (ZX (sIf (bTb (bO (UG true) (qx (D9 true) (qf (bV 2) qz)) (bV 0))) qge jH) (qbL 2)))))
def qs:List PyData->Option PyData:=Pu.run jR.f 1 3 1000000000 false
def WU:Rd (PSp qs false) 1 (K77.jO) jN:=zu jR jN 1 1000000000 false
def WA {x0:PyData}:qs [x0]=EY false (jR.f 1000000000 [.sh x0,.un,.un]):=id rfl
def J6:PuS (K77.JZ (PSp qs false)):=(YG (qx qlM (qf (bLc (RR (bV 0)) (gN 0) bTt (qx (zn qs false) (qf (bV 0) qz)) [none] ⟨rfl⟩) qz)))
def qS:List PyData->Option PyData:=Pu.run J6.f 1 1 1000000000 false
def KB:Rd (PSp qS false) 1 (K77.JZ (PSp qs false)) J7:=zu J6 J7 1 1000000000 false
def S9 {x0:PyData}:qS [x0]=EY false (J6.f 1000000000 [.sh x0]):=id rfl
def XD:PuS (qZ (cb3 ja (qb (lc3 (ZR (v3 1)) (gn3 0) tt3 (cb3 (PSp qS false) (qb (v3 0) qi)) [none]) qi))):=(YG (qx qlM (qf (bLc (RR (bV 1)) (gN 0) bTt (qx (zn qS false) (qf (bV 0) qz)) [none] ⟨rfl⟩) qz)))
def JB:List PyData->Option PyData:=qbY XD
def qaG:Rd (PSp JB false) 1 (K77.XH (PSp qS false)) DE:=qbR XD DE rfl
def DF:PuS (K77.DM):=(ZX (qbP (qE 0) 1 [] ⟨rfl⟩) (ZX (qpL (qdR (qf (bV 0) qz)) (qdl 2 (Z3 (gN 2) (Z3 (gN 3) qci))) (ZX (sIf (bTb (bO (UG false) (bV 3) (jB "("))) (qqt (qE 1) 1) jH) (ZX (sIf (bTb (bO (UG false) (bV 3) (jB ")"))) (qk9 (qE 1) 1) jH) (sIf (bTb (bO (UG false) (bV 1) (qE 0))) (qbL 2) jH))) [true] ⟨rfl⟩) qge))
def ZH:List PyData->Option PyData:=Pu.run DF.f 1 4 1000000000 false
def qat:Rd (PSp ZH false) 1 (K77.DM) UC:=zu DF UC 1 1000000000 false
def qaS {x0:PyData}:ZH [x0]=EY false (DF.f 1000000000 [.sh x0,.un,.un,.un]):=id rfl
def VG:PuS (K77.VP (PSp ZH false)):=(ZX (sIf (bTb (bO (UG true) (bSl (bV 0) bNp (bSp (qE 1))) (LL (qf (jB "(") qz) ⟨rfl⟩))) qge jH) (ZX (qbP (qx (zn ZH false) (qf (bV 0) qz)) 1 [true] ⟨rfl⟩) (YG (JU (qf (bSl (bV 0) (bSp (qE 1)) (bSp (bV 1))) (qf (bSl (bV 0) (bSp (bO qhZ (bV 1) (qE 1))) bNp) qz)) ⟨rfl⟩))))
def zK:List PyData->Option PyData:=Pu.run VG.f 1 2 1000000000 false
def LV:Rd (PSp zK false) 1 (K77.VP (PSp ZH false)) JR:=zu VG JR 1 1000000000 false
def K8 {x0:PyData}:zK [x0]=EY false (VG.f 1000000000 [.sh x0,.un]):=id rfl
def JW:PuS (K77.J3 (PSp qs false) (PSp JB false)):=(ZX (sIf (bTb (bO (UG true) (bSl (bV 0) (bSp (qE 1)) (bSp (qE 2))) (LL (qf (jB ":") qz) ⟨rfl⟩))) qge jH) (YG (JU (qf (jB "table") (qf (qx (zn qs false) (qf (bO VI (bV 0) (qE 0)) qz)) (qf (qx (zn JB false) (qf (bSl (bV 0) (bSp (qE 2)) bNp) qz)) qz))) ⟨rfl⟩)))
def zU:List PyData->Option PyData:=Pu.run JW.f 1 1 1000000000 false
def TR:Rd (PSp zU false) 1 (K77.J3 (PSp qs false) (PSp JB false)) Q8:=zu JW Q8 1 1000000000 false
def TL {x0:PyData}:zU [x0]=EY false (JW.f 1000000000 [.sh x0]):=id rfl
def Z0 (Ff:List PyData->Option PyData):PuS (K77.Z2 (PSp zK false) (PSp Ff false)):=(ZX (qaQ (qx (zn zK false) (qf (bV 0) qz)) (qdl 2 (Z3 (gN 1) (Z3 (gN 2) qci))) [true] ⟨rfl⟩) (ZX (qaQ (qx (zn zK false) (qf (bV 2) qz)) (qdl 2 (Z3 (gN 3) (Z3 (gN 4) qci))) [false,false,true] ⟨rfl⟩) (ZX (sIf (bTb (bO (opB λi j=>decide (j<i)) (qx qaM (qf (bV 4) qz)) (qE 0))) qge jH) (YG (JU (qf (jB "joined") (qf (qx (zn Ff false) (qf (bV 1) qz)) (qf (qx (zn Ff false) (qf (bV 3) qz)) qz))) ⟨rfl⟩)))))
def jy (Ff:List PyData->Option PyData):List PyData->Option PyData:=Pu.run (Z0 Ff).f 1 5 1000000000 false
def C5 (Ff:List PyData->Option PyData):Rd (PSp (jy Ff) false) 1 (K77.Z2 (PSp zK false) (PSp Ff false)) j8:=zu (Z0 Ff) j8 1 1000000000 false
def RF {Ff:List PyData->Option PyData} {x0:PyData}:jy Ff [x0]=EY false ((Z0 Ff).f 1000000000 [.sh x0,.un,.un,.un,.un]):=id rfl
def zL (Ff:List PyData->Option PyData):PuS (K77.Q0 (PSp (jy Ff) false) (PSp zU false) (PSp qS false)):=(ZX (sIf (bTb (bO (UG false) (qx qaM (qf (bV 0) qz)) (qE 0))) qge jH) (ZX (qnj (bV 0) 1 2 [true] ⟨rfl⟩) (ZX (sIf (bTb (bO (UG false) (bV 1) (jB "joined"))) (YG (qx (zn (jy Ff) false) (qf (bV 2) qz))) jH) (ZX (sIf (bTb (bO (UG false) (bV 1) (jB "table"))) (YG (qx (zn zU false) (qf (bV 2) qz))) jH) (ZX (qbP (qx (zn qS false) (qf (bV 2) qz)) 3 [false,false,true] ⟨rfl⟩) (ZX (sIf (bTb (bO (UG false) (bV 1) (jB "bits"))) (YG (bO zO (bO zO (JU (qf (jB "bits") qz) ⟨rfl⟩) (qdQ (bV 3) bNp (bSp (qE 2)))) (JU (qf (qdQ (bV 3) (bSp (qE 2)) bNp) qz) ⟨rfl⟩))) jH) (YG (bO zO (JU (qf (bV 1) qz) ⟨rfl⟩) (bV 3)))))))))
def qw:Nat->List PyData->Option PyData
 |0=>λ_=>none
 |j+1=>Pu.run (zL (qw j)).f 1 4 1000000000 false
def XN (j:Nat):Rd (PSp (qw (j+1)) false) 1 (K77.Q0 (PSp (jy (qw j)) false) (PSp zU false) (PSp qS false)) jK:=zu (zL (qw j)) jK 1 1000000000 false
def QJ {j:Nat} {x0:PyData}:qw (j+1) [x0]=EY false ((zL (qw j)).f 1000000000 [.sh x0,.un,.un,.un]):=id rfl
def YA:PuS (K77.JY (PSp (qw 30) false) (PSp (qy 30) false)):=(ZX (qbP (qx (zn (qw 30) false) (qf (qgG (bV 0) (qf (jB " ") qz)) qz)) 1 [true] ⟨rfl⟩) (ZX (sIf (MK (bTb (qx (zn (qy 30) false) (qf (bV 1) qz)))) qge jH) (qbL 1)))
def zT:List PyData->Option PyData:=Pu.run YA.f 1 2 1000000000 false
def SQ:Rd (PSp zT false) 1 (K77.JY (PSp (qw 30) false) (PSp (qy 30) false)) ZE:=zu YA ZE 1 1000000000 false
def TF {x0:PyData}:zT [x0]=EY false (YA.f 1000000000 [.sh x0,.un]):=id rfl
def qL (Ff:List PyData->Option PyData):PuS (K77.z9 (PSp Ff false)):=(ZX (sIf (bTb (bO (UG false) (bO VI (bV 0) (qE 0)) (jB "joined"))) (ZX (qoM (qf (qx (zn Ff false) (qf (bO VI (bV 0) (qE 1)) qz)) (qf (qx (zn Ff false) (qf (bO VI (bV 0) (qE 2)) qz)) qz)) 1 2 [true] ⟨rfl⟩) (YG (bO zO (bO zO (bO zO (bO zO (LL (qf (jB "joined") (qf (jB "(") qz)) ⟨rfl⟩) (bV 1)) (LL (qf (jB ")") (qf (jB "(") qz)) ⟨rfl⟩)) (bV 2)) (LL (qf (jB ")") qz) ⟨rfl⟩)))) jH) (ZX (sIf (bTb (bO (UG false) (bO VI (bV 0) (qE 0)) (jB "bits"))) (YG (bO zO (LL (qf (jB "bits") qz) ⟨rfl⟩) (bLc (RR (bO zO (qx qmH (qf (qdQ (bV 0) (bSp (qE 1)) (bSp (qE 3))) qz)) (qx qmH (qf (bO VI (bV 0) (qE 3)) qz)))) (gN 0) bTt (qx (D9 true) (qf (bV 0) qz)) [none] ⟨rfl⟩))) jH) (ZX (sIf (bTb (bO (UG true) (bO VI (bV 0) (qE 0)) (jB "table"))) (YG (bO zO (LL (qf (bO VI (bV 0) (qE 0)) qz) ⟨rfl⟩) (bLc (RR (qdQ (bV 0) (bSp (qE 1)) bNp)) (gN 0) bTt (qx (D9 true) (qf (bV 0) qz)) [none] ⟨rfl⟩))) jH) (ZX (qbP (LL (qf (jB "table") (qf (qx (D9 true) (qf (bO VI (bV 0) (qE 1)) qz)) qz)) ⟨rfl⟩) 3 [true] ⟨rfl⟩) (ZX (qpL (qdR (qf (bO VI (bV 0) (qE 2)) qz)) (qdl 2 (Z3 (gN 4) (Z3 (gN 5) qci))) (qbP (bO zO (bO zO (bV 3) (LL (qf (bIf (bTb (bO (UG false) (bV 4) (qE 0))) (jB ":") (jB "/")) qz) ⟨rfl⟩)) (bLc (RR (bV 5)) (gN 0) bTt (qx (D9 true) (qf (bV 0) qz)) [none] ⟨rfl⟩)) 3 [false,false,false,true,true,true] ⟨rfl⟩) [true] ⟨rfl⟩) (qbL 3))))))
def qt:Nat->List PyData->Option PyData
 |0=>λ_=>none
 |j+1=>Pu.run (qL (qt j)).f 1 6 1000000000 false
def UV (j:Nat):Rd (PSp (qt (j+1)) false) 1 (K77.z9 (PSp (qt j) false)) zW:=zu (qL (qt j)) zW 1 1000000000 false
def zk {j:Nat} {x0:PyData}:qt (j+1) [x0]=EY false ((qL (qt j)).f 1000000000 [.sh x0,.un,.un,.un,.un,.un]):=id rfl
def jz:=((eO VI (eOf (bV 1)) (eDr qax (aOf (qf (qE 4) qz)))):PwE 2 _)
def jv:PwS 0 (K77.jx Bk.qR Bk.Q5):=(KD (wIf (cTb (eO (opB λi j=>decide (j<i)) (eDr qax (aOf (qf (qE 8) qz))) (eOf (qE 0)))) (qh5 (eDr S6 (aOf qz))) qbz) (KD (qa2 (eOf (LL (qf (JU (qf (jB "skew") (qf (qE 2) (qf (qE 2) (qf (qE 2) (qf (qE 1) (qf (qE 1) qz)))))) ⟨rfl⟩) (qf (JU (qf (jB "bits") (qf (qE 1) (qf (qE 0) (qf (JU (qf (qE 1) qz) ⟨rfl⟩) qz)))) ⟨rfl⟩) (qf (JU (qf (jB "rests") (qf (qE 1) (qf (qE 2) (qf (qE 2) (qf (qE 1) qz))))) ⟨rfl⟩) (qf (JU (qf (jB "table") (qf (qE 2) (qf (JU (qf (JU (qf (qE 1) (qf (qE 0) qz)) ⟨rfl⟩) qz) ⟨rfl⟩) qz))) ⟨rfl⟩) qz)))) ⟨rfl⟩)) 1 [] ⟨rfl⟩ ⟨rfl⟩) (KD (qkD (eLc 2 (iOf (qiP (qf (qE 4) qz))) (gN 0) (cOf bTt) jz [none,some 1,some 0] ⟨rfl⟩ ⟨rfl⟩) 4 (Z3 (gN 2) (Z3 (gN 3) (Z3 (gN 4) (Z3 (gN 5) qci)))) [false,true] ⟨rfl⟩ ⟨rfl⟩) (KD (qa2 (eDr qax (aOf (qf (qE 4) qz))) 6 [] ⟨rfl⟩ ⟨rfl⟩) (KD (wIf (cOf (bTb (bO (UG false) (bV 6) (qE 0)))) (qh5 (eOf (JU (qf (jB "joined") (qf (JU (qf (jB "joined") (qf (bV 2) (qf (bV 3) qz))) ⟨rfl⟩) (qf (bV 4) qz))) ⟨rfl⟩))) qbz) (KD (wIf (cOf (bTb (bO (UG false) (bV 6) (qE 1)))) (qh5 (eOf (JU (qf (jB "joined") (qf (bV 2) (qf (JU (qf (jB "joined") (qf (bV 3) (qf (bV 4) qz))) ⟨rfl⟩) qz))) ⟨rfl⟩))) qbz) (qh5 (eOf (JU (qf (jB "joined") (qf (JU (qf (jB "joined") (qf (bV 2) (qf (bV 3) qz))) ⟨rfl⟩) (qf (JU (qf (jB "joined") (qf (bV 4) (qf (bV 5) qz))) ⟨rfl⟩) qz))) ⟨rfl⟩)))))))))
def zr:Wm:=qoG jv 1 7 false
def DI:Rd (DSp zr.W false) 1 (K77.jx Bk.qR Bk.Q5) jw:=qbD jv jw 1 false
def ES {n:Nat} {Q:QD}:zr.W [] n Q=(0+1=1/\jv.w [.un,.un,.un,.un,.un,.un,.un] n (qnY false Q)):=id rfl
def JC:=((eDr qax (aOf (qf (qE 9) qz))):PwE 1 _)
def JM:=((KD (qa2 (eOf (JU (qf (jB "skew") (qf (qE 1) (qf (qE 1) (qf (qE 1) (qf (qE 0) (qf (qE 0) qz)))))) ⟨rfl⟩)) 7 [] ⟨rfl⟩ ⟨rfl⟩) (qa2 (eOf (bO VI (LL (qf (JU (qf (jB "joined") (qf (bV 5) (qf (bV 7) qz))) ⟨rfl⟩) (qf (JU (qf (jB "joined") (qf (bV 7) (qf (bV 5) qz))) ⟨rfl⟩) qz)) ⟨rfl⟩) (bO (opC (λ_ j=>0<j) (·%·)) (bO (opC qdr (·/·)) (bO zO (bO (opC XQ (·*·)) (bV 6) (bO VI (bV 1) (qE 1))) (bO VI (bV 1) (qE 2))) (qE 3)) (qE 2)))) 5 [false,true,false,false,false,true,true,true] ⟨rfl⟩ ⟨rfl⟩)):PwS 0 _)
def J0:PwS 0 (K77.J1 Bk.qR):=(KD (qa2 (eLc 1 (iOf (qiP (qf (qE 4) qz))) (gN 0) (cOf bTt) JC [none,some 0] ⟨rfl⟩ ⟨rfl⟩) 1 [] ⟨rfl⟩ ⟨rfl⟩) (KD (qa2 (eOf (JU (qf (jB "joined") (qf (JU (qf (jB "joined") (qf (JU (qf (jB "skew") (qf (qE 1) (qf (qE 2) (qf (qE 2) (qf (qE 0) (qf (qE 1) qz)))))) ⟨rfl⟩) (qf (JU (qf (jB "skew") (qf (qE 2) (qf (qE 1) (qf (qE 2) (qf (qE 1) (qf (qE 0) qz)))))) ⟨rfl⟩) qz))) ⟨rfl⟩) (qf (JU (qf (jB "table") (qf (qE 1) (qf (JU (qf (JU (qf (qE 0) qz) ⟨rfl⟩) qz) ⟨rfl⟩) qz))) ⟨rfl⟩) qz))) ⟨rfl⟩)) 2 [] ⟨rfl⟩ ⟨rfl⟩) (KD (qa2 (eOf (JU (qf (jB "skew") (qf (bO zO (qE 17) (bO VI (bV 1) (qE 0))) (qf (qE 17) (qf (bO zO (qE 33) (bO VI (bV 1) (qE 1))) (qf (bO zO (qE 100) (bO VI (bV 1) (qE 2))) (qf (qE 9990) qz)))))) ⟨rfl⟩)) 3 [false,true] ⟨rfl⟩ ⟨rfl⟩) (KD (qa2 (eOf (LL (qf (bV 3) (qf (JU (qf (jB "rests") (qf (qE 40) (qf (bO zO (qE 17) (bO VI (bV 1) (qE 0))) (qf (qE 41) (qf (bO zO (qE 100) (bO VI (bV 1) (qE 1))) qz))))) ⟨rfl⟩) qz)) ⟨rfl⟩)) 4 [false,true,false,true] ⟨rfl⟩ ⟨rfl⟩) (KD (qa2 (eOf (bO zO (bV 4) (LL (qf (JU (qf (jB "bits") (qf (qE 5) (qf (qE 6) (qf (JU (qf (bO zO (qE 1024) (bO VI (bV 1) (qE 2))) (qf (bO (opI (·-·)) (qE 2047) (bO VI (bV 1) (qE 3))) qz)) ⟨rfl⟩) qz)))) ⟨rfl⟩) (qf (JU (qf (jB "table") (qf (qE 33) (qf (qx qlM (qf (bO qnr (LL (qf (JU (qf (bO (opI (·-·)) (qE 32) (bO VI (bV 1) (qE 0))) qz) ⟨rfl⟩) qz) ⟨rfl⟩) (qE 17)) qz)) qz))) ⟨rfl⟩) qz)) ⟨rfl⟩))) 4 [false,true,false,false,true] ⟨rfl⟩ ⟨rfl⟩) (KD (qa2 (eOf (JU (qf (jB "table") (qf (qE 1) (qf (JU (qf (JU (qf (qE 0) qz) ⟨rfl⟩) qz) ⟨rfl⟩) qz))) ⟨rfl⟩)) 5 [] ⟨rfl⟩ ⟨rfl⟩) (KD (qnO (iOf (qiP (qf (bO zO (qE 10) (bO (opC XQ (·*·)) (qE 2) (bO VI (bV 1) (qE 0)))) qz))) (gN 6) JM [false,true] ⟨rfl⟩ ⟨rfl⟩) (qh5 (eOf (bO zO (bV 4) (LL (qf (bV 5) (qf (JU (qf (jB "joined") (qf (bV 2) (qf (JU (qf (jB "bits") (qf (qE 1) (qf (qE 0) (qf (JU (qf (qE 1) qz) ⟨rfl⟩) qz)))) ⟨rfl⟩) qz))) ⟨rfl⟩) (qf (JU (qf (jB "joined") (qf (JU (qf (jB "rests") (qf (qE 1) (qf (qE 1) (qf (qE 33) (qf (qE 1) qz))))) ⟨rfl⟩) (qf (bV 2) qz))) ⟨rfl⟩) qz))) ⟨rfl⟩)))))))))))
def jZ:Wm:=qoG J0 1 8 false
def TJ:Rd (DSp jZ.W false) 1 (K77.J1 Bk.qR) J9:=qbD J0 J9 1 false
def TY {n:Nat} {Q:QD}:jZ.W [] n Q=(0+1=1/\J0.w [.un,.un,.un,.un,.un,.un,.un,.un] n (qnY false Q)):=id rfl
def qpD (S_law_any_dealing:Sp3) (S_law_beyond:Sp3) (S_law_dealing_words:Sp3) (S_dealing_of:Sp3) (S_dealing_text:Sp3) (S_is_dealing:Sp3) (S_law_same:Sp3):TS3:=(RQ (ZR (o3 j0 (QQ (qb (cb3 S_law_any_dealing (qb (v3 2) qi)) qi)) (cb3 S_law_beyond (qb (v3 2) qi)))) (gn3 3) (qK (zg (qaP SW (c3 (.str " ")) (qb (cb3 S_law_dealing_words (qb (v3 3) qi)) qi)) (gn3 4)) (RQ (QR (qb (c3 (.int 2)) qi)) (gn3 5) (qK (zg (cb3 S_dealing_of (qb (v3 4) qi)) (gn3 6)) (zM (or3 (CQ (tb3 (cb3 S_law_same (qb (v3 6) (qb (v3 3) qi))))) (or3 (tb3 (o3 (qnT true) (cb3 S_is_dealing (qb (v3 6) qi)) (c3 (.bl true)))) (tb3 (o3 (zV true) (cb3 S_dealing_text (qb (v3 6) qi)) (v3 4))))) (qZ (c3 (.bl false))) qH)))))
def KC:=((KD (qa2 (eOf (qx (zn zT false) (qf (bV 4) qz))) 6 [false,false,false,false,true] ⟨rfl⟩ ⟨rfl⟩) (wIf (cOf (bOr (MK (bTb (qx (qnn 31) (qf (bV 6) (qf (bV 3) qz))))) (bOr (bTb (bO (qnC true) (qx (zn (qy 30) false) (qf (bV 6) qz)) (bBl true))) (bTb (bO (UG true) (qx (zn (qV 30) false) (qf (bV 6) qz)) (bV 4)))))) (qh5 (eOf (bBl false))) qbz)):PwS 2 _)
def T1:=((KD (qa2 (eOf (qdd (jB " ") (qf (qx (zn (qt 30) false) (qf (bV 3) qz)) qz))) 4 [false,false,false,true] ⟨rfl⟩ ⟨rfl⟩) (qnO (iOf (qiP (qf (qE 2) qz))) (gN 5) KC [] ⟨rfl⟩ ⟨rfl⟩)):PwS 2 _)
def qeu:PwS 2 (qpD (DSp zr.W false) (DSp jZ.W false) (PSp (qt 30) false) (PSp zT false) (PSp (qV 30) false) (PSp (qy 30) false) (Bk.jT 32)):=(qnO (iS (eO zO (qqV (qkB (eDr (dSp zr false) (aOf qz)) (aOf qz)) ⟨rfl⟩) (eDr (dSp jZ false) (aOf qz)))) (gN 3) T1 [] ⟨rfl⟩ ⟨rfl⟩)
def qjG (h:∀ k:Nat,k<=60->qeu.w [.un,.sh (.int k),.un,.un,.un,.un,.un] 0 okW):Rd SF 1 (K77.qhE Bk.VE (DSp zr.W false) (DSp jZ.W false) (PSp (qt 30) false) (PSp zT false) (PSp (qV 30) false) (PSp (qy 30) false) (Bk.jT 32)) qbK:=qen qeu qbK 10 4 ⟨by decide,by decide⟩ rfl h
open Bk (Dl)
open Pv (dlD W5)
def ls (x:Str):List Nat:=x.cps.toList
def qc6 {a b:Str} (h:ls a=ls b):a=b:=Str.ext' (Array.toList_inj.mp h)
def qcp (a b:Str):ls (a++b)=ls a++ls b:=by unfold ls;rw [Str.cps_append,Array.toList_append]
def jn:List (List Nat)->List Nat
 |[]=>[]
 |[x]=>x
 |x::y::r=>x++32::jn (y::r)
def VL:∀ ys:List Str,ls (Txt.join " " ys)=jn (ys.map ls)
 |[]=>rfl
 |[x]=>by
  show ls (Builtin.Str.glued " " [x])=_;rw [StrLaws.glued_eq_join];rfl
 |x::y::r=>by
  have ih:=VL (y::r);show ls (Builtin.Str.glued " " (x::y::r))=_;rw [StrLaws.glued_eq_join];have e:Str.join " " (x::y::r)=x++" " ++ Str.join " " (y::r):=rfl;rw [e,qcp,qcp,← StrLaws.glued_eq_join];show ls x++[32]++ls (Txt.join " " (y::r))=_;rw [ih];simp [jn]
def qiL {x y t u:List Nat} (hx:32∉x) (hy:32∉y) (ht:t=[]\/∃ t',t=32::t') (hu:u=[]\/∃ u',u=32::u') (h:x++t=y++u):x=y/\t=u:=by
 induction x generalizing y with
 |nil=>
  cases y with
  |nil=>exact ⟨rfl,h⟩
  |cons b y=>
   rcases ht with rfl|⟨t',rfl⟩
   ·cases h
   ·simp only [List.nil_append,cons_append,List.cons.injEq] at h;exact absurd (h.1▸List.mem_cons_self) hy
 |cons a x ih=>
  cases y with
  |nil=>
   rcases hu with rfl|⟨u',rfl⟩
   ·cases h
   ·simp only [List.nil_append,cons_append,List.cons.injEq] at h;exact absurd (h.1▸List.mem_cons_self) hx
  |cons b y=>
   simp only [cons_append,List.cons.injEq] at h;obtain ⟨e1,e2⟩:=ih (λz=>hx (List.mem_cons_of_mem _ z)) (λz=>hy (List.mem_cons_of_mem _ z)) h.2;exact ⟨by rw [h.1,e1],e2⟩
def qde (x:List Nat) (r:List (List Nat)):jn (x::r)=x++(match r with|[]=>[]|y::s=>32::jn (y::s)):=by
 cases r with
 |nil=>simp [jn]
 |cons y s=>rfl
def qff:∀ {xs ys:List (List Nat)},xs≠[]->ys≠[]->(∀ x∈xs,32∉x)->(∀ y∈ys,32∉y)->jn xs=jn ys->xs=ys
 |[],_,h,_,_,_,_=>absurd rfl h
 |_::_,[],_,h,_,_,_=>absurd rfl h
 |x::r,y::s,_,_,hx,hy,h=>by
  rw [qde,qde] at h;obtain ⟨e1,e2⟩:=qiL (hx x (by simp)) (hy y (by simp)) (by cases r<;>simp) (by cases s<;>simp) h;subst e1;cases r with
  |nil=>
   cases s with
   |nil=>rfl
   |cons b s=>cases e2
  |cons a r=>
   cases s with
   |nil=>cases e2
   |cons b s=>
    simp only [List.cons.injEq,true_and] at e2;rw [qff (by simp) (by simp) (λz hz=>hx z (by simp only [mem_cons] at hz ⊢;exact .inr hz)) (λz hz=>hy z (by simp only [mem_cons] at hz ⊢;exact .inr hz)) e2]
def num (i:Int):Str:=Str.ofString (toString i)
def NV {i:Int} {k:Nat} (hk:k≠45/\(k<48\/57<k)):k∉ls (num i):=PyProof.Rows.int_text_free' k hk i
def rws:Bool->List (List Int)->List Str
 |_,[]=>[]
 |b,r::t=>(if b then (":" : Str) else ("/" : Str))::(r.map num++rws false t)
def wds:Dl->List Str
 |.skew r c b x y=>["skew",num r,num c,num b,num x,num y]
 |.rests r c b p=>["rests",num r,num c,num b,num p]
 |.bits h l ms=>"bits" :: num h::num l::ms.map num
 |.table b cells=>"table" :: num b::rws true cells
 |.joined d e=>("joined" : Str)::("(" : Str)::(wds d++(")" : Str)::("(" : Str)::(wds e++[(")" : Str)]))
def txt (d:Dl):Str:=Txt.join " " (wds d)
def lsA (a b:Str):ls (a++b)=ls a++ls b:=qcp a b
def LR:∀ {xs ys:List (List Nat)},xs≠[]->ys≠[]->jn (xs++ys)=jn xs++32::jn ys
 |[],_,h,_=>absurd rfl h
 |[x],y::ys,_,_=>rfl
 |[x],[],_,h=>absurd rfl h
 |x::z::r,ys,_,hy=>by
  have ih:=LR (xs:=z::r) (by simp) hy;show x++32::jn (z::(r++ys))=_;rw [show z::(r++ys)=(z::r)++ys from rfl,ih];simp [jn]
def qfq {x:List Nat} {ys:List (List Nat)} (hy:ys≠[]):jn (x::ys)=x++32::jn ys:=LR (xs:=[x]) (by simp) hy
def qfu {n:Nat}:∀ {ys:List Str},(∀ y∈ys,y.length<=n)->(ys.map (·.length)).sum<=n*ys.length
 |[],_=>by simp
 |y::r,h=>by
  have:=qfu (ys:=r) λz hz=>h z (by simp [hz]);have:=h y (by simp);simp only [map_cons,List.sum_cons,length_cons,Nat.mul_succ];omega
def NX (sep:Str):∀ ys:List Str,(Str.join sep ys).length<=(ys.map (·.length)).sum+ys.length*sep.length
 |[]=>by show Str.empty.length<=_;simp [Str.empty,Str.length]
 |[x]=>by show x.length<=_;simp
 |x::y::r=>by
  have ih:=NX sep (y::r);show (x++sep++Str.join sep (y::r)).length<=_;rw [Str.length_append,Str.length_append];simp only [map_cons,List.sum_cons,length_cons,Nat.add_mul,Nat.one_mul] at ih ⊢;omega
def qiT (sep:Str) (ys:List Str):(Txt.join sep ys).length<=(ys.map (·.length)).sum+ys.length*sep.length:=by
 show (Builtin.Str.glued sep ys).length<=_;rw [StrLaws.glued_eq_join];exact NX sep ys
def CB {i:Int} (h:-1000000000<=i/\i<=1000000000):(num i).length<=12:=by
 have:=int_text_length_le10 (a:=i) (k:=10) (by decide) (by omega);unfold num;rw [ofString_length];omega
def tkD:PyData->Str
 |.str s=>s
 |.int i=>num i
 |_=>Str.empty
def O1:PyData->Prop
 |.str s=>s.length<=12
 |.int i=>-1000000000<=i/\i<=1000000000
 |_=>False
def qlw {x:PyData} (h:O1 x):(tkD x).length<=12:=by
 cases x with
 |str s=>exact h
 |int i=>exact CB h
 |_=>exact h.elim
def qcF {x:PyData} (h:O1 x):qaT true [x]=some (.str (tkD x)):=by
 cases x with
 |str s=>exact qjL
 |int i=>exact qbG h
 |_=>exact h.elim
def qmV {ds:List PyData} {H:PyData->Option (Option PyData)} (hh:∀ d∈ds,H d=some (some (.str (tkD d)))):lcP H ds=some ((ds.map tkD).map PyData.str):=by
 have:=U7 (g:=id) (xs:=ds) (k:=λd=>PyData.str (tkD d)) hh;rw [List.map_id] at this;rw [this,map_map];rfl
def jb {n m:Nat} {sep:Str} {ys:List Str} (h:∀ y∈ys,y.length<=n) (hl:ys.length<=m) (hs:sep.length<=3) (hb:(n+3)*m<=16777216):NP sep ys/\(Txt.join sep ys).length<=(n+3)*m:=by
 have a:=qfu h;have b:=qiT sep ys;have c:n*ys.length<=n*m:=Nat.mul_le_mul_left _ hl;have d:ys.length*sep.length<=m*3:=Nat.mul_le_mul hl hs;rw [Nat.add_mul] at hb ⊢;unfold NP;omega
def qnP {ds:List PyData} (h:∀ x∈ds,O1 x) (hl:ds.length<=100000):za [.tuple ds]=some (.str (Txt.join " " (ds.map tkD))):=by
 rw [M9];unfold UJ;have lc:=YN (pi:=(RR (bV 0)).f) (h:=lcH (gN 0).f bTt.f (qx (D9 true) (qf (bV 0) qz)).f) (m:=[none]) (ρ:=[.sh (.tuple ds)]) (ds:=ds) (fs:=(ds.map tkD).map PyData.str) (by try simp only [Pu.pwA]) (qmV λd hd=>by try simp only [Pu.pwA,C8,CC,qcF (h d hd)]) (by simp;omega);simp only [Pu.pwA] at lc;have j:=(jb (n:=12) (m:=100000) (sep:=" ") (ys:=ds.map tkD) (λy hy=>by obtain ⟨x,hx,rfl⟩:=mem_map.mp hy;exact qlw (h x hx)) (by simpa using hl) (by decide) (by decide)).1
 try simp only [Pu.pwA,NN,lc,M8 j]
def qag {r:List Int}:(r.map PyData.int).map tkD=r.map num:=by rw [map_map];rfl
def rt (r:List Int):Str:=Txt.join " " (r.map num)
def NB (r:List Int):Prop:=∀ i∈r,-1000000000<=i/\i<=1000000000
def qqB {r:List Int} (h:NB r):∀ x∈r.map PyData.int,O1 x:=λx hx=>by
 obtain ⟨i,hi,rfl⟩:=mem_map.mp hx;exact h i hi
def qrr {cells:List (List Int)} (h:∀ r∈cells,NB r/\r.length<=100) (hl:cells.length<=100):ZM [.tuple (cells.map W5)]=some (.str (Txt.join " / " (cells.map rt)))/\(Txt.join " / " (cells.map rt)).length<=200000:=by
 have rl:∀ r∈cells,(rt r).length<=1500:=λr hr=>(jb (n:=12) (m:=100) (sep:=" ") (ys:=r.map num) (λy hy=>by obtain ⟨x,hx,rfl⟩:=mem_map.mp hy;exact CB ((h r hr).1 x hx)) (by simpa using (h r hr).2) (by decide) (by decide)).2;have j:=jb (n:=1500) (m:=100) (sep:=" / ") (ys:=cells.map rt) (λy hy=>by obtain ⟨x,hx,rfl⟩:=mem_map.mp hy;exact rl x hx) (by simpa using hl) (by decide) (by decide);refine ⟨?_,by have:=j.2;omega⟩;rw [qa0];unfold DC;have lc:=YN (pi:=(RR (bV 0)).f) (h:=lcH (gN 0).f bTt.f (qx (zn za false) (qf (bV 0) qz)).f) (m:=[none]) (ρ:=[.sh (.tuple (cells.map W5))]) (ds:=cells.map W5) (fs:=(cells.map rt).map PyData.str) (by try simp only [Pu.pwA]) (by
  rw [map_map];refine U7 λr hr=>?_;have:=qnP (qqB (h r hr).1) (by have:=(h r hr).2;simp;omega);rw [qag] at this
  try simp only [Pu.pwA,C8,W5,this]
  rfl) (by simp;omega)
 simp only [Pu.pwA] at lc
 try simp only [Pu.pwA,NN,lc,M8 j.1]
def rw2:List (List Int)->List Str
 |[]=>[]
 |r::t=>r.map num++rws false t
def qrL (sep:Str) (x y:Str) (r:List Str):ls (Txt.join sep (x::y::r))=ls x++ls sep++ls (Txt.join sep (y::r)):=by
 show ls (Builtin.Str.glued sep (x::y::r))=_++ls (Builtin.Str.glued sep (y::r));rw [StrLaws.glued_eq_join,StrLaws.glued_eq_join];show ls (x++sep++Str.join sep (y::r))=_;rw [lsA,lsA]
def qqg (sep x:Str):Txt.join sep [x]=x:=by
 show Builtin.Str.glued sep [x]=_;rw [StrLaws.glued_eq_join];rfl
def qc9:∀ {cells:List (List Int)},cells≠[]->(∀ r∈cells,r≠[])->ls (Txt.join " / " (cells.map rt))=jn ((rw2 cells).map ls)
 |[],h,_=>absurd rfl h
 |[r],_,hr=>by
  rw [map_cons,List.map_nil,qqg,rt,VL];simp [rw2,rws]
 |r::s::t,_,hr=>by
  have ih:=qc9 (cells:=s::t) (by simp) λx hx=>hr x (by simp only [mem_cons] at hx ⊢;exact .inr hx);have hne:r≠[]:=hr r (by simp);have hs:s≠[]:=hr s (by simp);rw [map_cons,map_cons,qrL,← map_cons,ih,rt,VL];have e:(rw2 (r::s::t)).map ls=(r.map num).map ls++(ls ("/" : Str)::(rw2 (s::t)).map ls):=by
   simp [rw2,rws]
  rw [e,LR (by simpa using hne) (by simp),qfq (by simp [rw2,hs])];show _++[32,47,32]++_=_++32::([47]++32::_);simp
def N4 (i:Int):Prop:=0<=i/\i<=9999
def Gn:Dl->Prop
 |.skew r c b x y=>N4 r/\N4 c/\N4 b/\N4 x/\N4 y
 |.rests r c b p=>N4 r/\N4 c/\N4 b/\N4 p
 |.bits h l ms=>N4 (h:Int)/\N4 (l:Int)/\ms.length<=1000/\∀ m∈ms,N4 m
 |.table b cells=>N4 b/\1<=cells.length/\cells.length<=100/\∀ r∈cells,(1<=r.length/\r.length<=100)/\∀ i∈r,N4 i
 |.joined d e=>Gn d/\Gn e
def UF {i:Int} (h:N4 i):-1000000000<=i/\i<=1000000000:=⟨by have:=h.1;omega,by have:=h.2;omega⟩
def SG {i:Int} (h:N4 i):(num i).length<=12:=CB (UF h)
def qmG:∀ {b:Bool} {t:List (List Int)},(∀ r∈t,NB r)->∀ y∈rws b t,y.length<=12
 |_,[],_,y,hy=>by cases hy
 |b,r::t,h,y,hy=>by
  simp only [rws,mem_cons,List.mem_append,mem_map] at hy;rcases hy with rfl|⟨i,hi,rfl⟩|hy
  ·cases b<;>decide
  ·exact CB (h r (by simp) i hi)
  ·exact qmG (λx hx=>h x (by simp [hx])) y hy
def qd7:∀ (d:Dl),Gn d->∀ y∈wds d,y.length<=12
 |.skew r c b x y,g=>by
  obtain ⟨a1,a2,a3,a4,a5⟩:=g;intro z hz;simp only [wds,mem_cons,not_mem_nil,or_false] at hz;rcases hz with rfl|rfl|rfl|rfl|rfl|rfl
  ·decide
  all_goals (apply SG;assumption)
 |.rests r c b p,g=>by
  obtain ⟨a1,a2,a3,a4⟩:=g;intro z hz;simp only [wds,mem_cons,not_mem_nil,or_false] at hz;rcases hz with rfl|rfl|rfl|rfl|rfl
  ·decide
  all_goals (apply SG;assumption)
 |.bits h l ms,g=>by
  obtain ⟨a1,a2,a3,a4⟩:=g;intro z hz;simp only [wds,mem_cons,mem_map] at hz;rcases hz with rfl|rfl|rfl|⟨i,hi,rfl⟩
  ·decide
  ·exact SG a1
  ·exact SG a2
  ·exact SG (a4 i hi)
 |.table b cells,g=>by
  obtain ⟨a1,a2,a3,a4⟩:=g;intro z hz;simp only [wds,mem_cons] at hz;rcases hz with rfl|rfl|hz
  ·decide
  ·exact SG a1
  ·exact qmG (λr hr i hi=>UF ((a4 r hr).2 i hi)) z hz
 |.joined d e,g=>by
  intro z hz;simp only [wds,mem_cons,List.mem_append,not_mem_nil,or_false] at hz;rcases hz with rfl|rfl|hz|rfl|rfl|hz|rfl
  ·decide
  ·decide
  ·exact qd7 d g.1 z hz
  ·decide
  ·decide
  ·exact qd7 e g.2 z hz
  ·decide
def qp1 {d:Dl} (g:Gn d) (hl:(wds d).length<=100000):(txt d).length<=1500000:=(jb (n:=12) (m:=100000) (sep:=" ") (qd7 d g) hl (by decide) (by decide)).2
def qbI {d:Dl}:wds d≠[]:=by cases d<;>simp [wds]
def qqM:decide (Str.ofString "skew" = Str.ofString "bits")=false:=by decide
def qqv:decide (Str.ofString "skew" = Str.ofString "table")=false:=by decide
def qqC:decide (Str.ofString "skew" = Str.ofString "joined")=false:=by decide
def qqA:decide (Str.ofString "rests" = Str.ofString "bits")=false:=by decide
def qqx:decide (Str.ofString "rests" = Str.ofString "table")=false:=by decide
def qqu:decide (Str.ofString "rests" = Str.ofString "joined")=false:=by decide
def qqN:decide (Str.ofString "bits" = Str.ofString "bits")=true:=by decide
def qrK:decide (Str.ofString "bits" = Str.ofString "joined")=false:=by decide
def qqk:decide (Str.ofString "table" = Str.ofString "bits")=false:=by decide
def qq2:decide (Str.ofString "table" = Str.ofString "table")=true:=by decide
def qrt:decide (Str.ofString "table" = Str.ofString "joined")=false:=by decide
def qrH:decide (Str.ofString "joined" = Str.ofString "bits")=false:=by decide
def qr4:decide (Str.ofString "joined" = Str.ofString "table")=false:=by decide
def qqY:decide (Str.ofString "joined" = Str.ofString "joined")=true:=by decide
def qpJ:∀ (d:Dl) (j:Nat),Gn d->d.dep<j->(wds d).length<=100000->qV j [dlD d]=some (.str (txt d))
 |d,0,_,h,_=>by omega
 |.skew r c b x y,j+1,ok,_,_=>by
  obtain ⟨a1,a2,a3,a4,a5⟩:=ok;have iw:=qnP (ds:=[.str "skew",.int r,.int c,.int b,.int x,.int y]) (λz hz=>by
   simp only [mem_cons,not_mem_nil,or_false] at hz;rcases hz with rfl|rfl|rfl|rfl|rfl|rfl
   ·show (("skew" : Str).length)<=12;decide
   all_goals (apply UF;assumption)) (by simp)
  rw [jk]
  try simp only [Pu.pwA,dlD,zq,qqM,qqv,qqC,iw]
  rfl
 |.rests r c b p,j+1,ok,_,_=>by
  obtain ⟨a1,a2,a3,a4⟩:=ok;have iw:=qnP (ds:=[.str "rests",.int r,.int c,.int b,.int p]) (λz hz=>by
   simp only [mem_cons,not_mem_nil,or_false] at hz;rcases hz with rfl|rfl|rfl|rfl|rfl
   ·show (("rests" : Str).length)<=12;decide
   all_goals (apply UF;assumption)) (by simp)
  rw [jk]
  try simp only [Pu.pwA,dlD,zq,qqA,qqx,qqu,iw]
  rfl
 |.bits h l ms,j+1,ok,_,_=>by
  obtain ⟨a1,a2,a3,a4⟩:=ok;have iw:=qnP (ds:=.str "bits" :: .int (h:Int)::.int (l:Int)::ms.map PyData.int) (λz hz=>by
   simp only [mem_cons,mem_map] at hz;rcases hz with rfl|rfl|rfl|⟨i,hi,rfl⟩
   ·show (("bits" : Str).length)<=12;decide
   ·exact UF a1
   ·exact UF a2
   ·exact UF (a4 i hi)) (by simp;omega)
  have s1:slA (.tuple [.str "bits",.int (h:Int),.int (l:Int),.tuple (ms.map PyData.int)]) none (some 3)=some (.tuple [.str "bits",.int (h:Int),.int (l:Int)]):=rfl;have ca:T0 (.tuple [.str "bits",.int (h:Int),.int (l:Int)]) (.tuple (ms.map PyData.int))=some (.tuple (.str "bits" :: .int (h:Int)::.int (l:Int)::ms.map PyData.int)):=LS (by simp;omega);rw [jk]
  try simp only [Pu.pwA,dlD,zq,qqN,VY,zi,s1,ca,iw]
  rw [map_cons,map_cons,map_cons,qag];rfl
 |.table b cells,j+1,ok,_,hl=>by
  have ok':=ok;obtain ⟨a1,a3,a4,a7⟩:=ok;have b1:=UF a1;obtain ⟨ir,il⟩:=qrr (cells:=cells) (λr hr=>⟨λi hi=>UF ((a7 r hr).2 i hi),(a7 r hr).1.2⟩) (by omega);have bl:=CB (i:=b) (by omega);have gl:XA ["table ",num b," : ",Txt.join " / " (cells.map rt)]=txt (.table b cells):=by
   refine qc6 ?_;have hne:cells≠[]:=by rintro rfl;simp at a3
   have hr:∀ r∈cells,r≠[]:=λr hr=>by rintro rfl;have:=(a7 _ hr).1.1;simp at this
   unfold txt XA XA XA XA XA;rw [lsA,lsA,lsA,lsA,qc9 hne hr,VL];cases cells with
   |nil=>exact absurd rfl hne
   |cons r t=>
    have e:(wds (.table b (r::t))).map ls=ls ("table" : Str)::ls (num b)::ls (":" : Str)::(rw2 (r::t)).map ls:=by simp [wds,rws,rw2]
    have n2:(rw2 (r::t)).map ls≠[]:=by simp [rw2,hr r (by simp)]
    rw [e,qfq (by simp),qfq (by simp),qfq n2];show ls ("table " : Str)++(ls (num b)++(ls (" : " : Str)++(_++ls Str.empty)))=_;have l1:ls ("table " : Str)=ls ("table" : Str)++[32]:=by decide
    have l2:ls (" : " : Str)=32::(ls (":" : Str)++[32]):=by decide
    have l3:ls Str.empty=[]:=by decide
    rw [l1,l2,l3];simp
  have gb:(XA ["table ",num b," : ",Txt.join " / " (cells.map rt)]).length<=sizeLine:=by
   rw [gl];have:=qp1 ok' hl;rw [sizeLine_eq];omega
  rw [jk]
  try simp only [Pu.pwA,dlD,zq,qqk,qq2,qmQ,qb3,qcN,qcL,ir,qjB,qpx (show -1000000000<=b/\b<=1000000000 by omega),Option.bind_some,Option.map_some]
  rw [show Str.ofString (toString b)=num b from rfl,zS gb,gl];rfl
 |.joined d e,j+1,ok,hj,hl=>by
  simp only [Dl.dep] at hj;have hl':=hl;simp only [wds,length_cons,length_append] at hl';have m1:=Nat.le_max_left d.dep e.dep;have m2:=Nat.le_max_right d.dep e.dep;have i1:=qpJ d j ok.1 (by omega) (by omega);have i2:=qpJ e j ok.2 (by omega) (by omega);have gl:XA ["joined ( ",txt d," ) ( ",txt e," )"]=txt (.joined d e):=by
   refine qc6 ?_;have dn:(wds d).map ls≠[]:=by simp [qbI]
   have en:(wds e).map ls≠[]:=by simp [qbI]
   unfold XA XA XA XA XA XA;rw [lsA,lsA,lsA,lsA,lsA];show _++(ls (Txt.join " " (wds d))++(_++(ls (Txt.join " " (wds e))++_)))=ls (Txt.join " " (wds (.joined d e)));rw [VL,VL,VL];have ee:(wds (.joined d e)).map ls=ls ("joined" : Str)::ls ("(" : Str)::((wds d).map ls++ls (")" : Str)::ls ("(" : Str)::((wds e).map ls++[ls (")" : Str)])):=by simp [wds]
   rw [ee,qfq (by simp),qfq (by simp),LR dn (by simp),qfq (by simp),qfq (by simp),LR en (by simp)];have l1:ls ("joined ( " : Str)=ls ("joined" : Str)++32::(ls ("(" : Str)++[32]):=by decide
   have l2:ls (" ) ( " : Str)=32::(ls (")" : Str)++32::(ls ("(" : Str)++[32])):=by decide
   have l3:ls (" )" : Str)=32::jn [ls (")" : Str)]:=by decide
   have l4:ls Str.empty=[]:=by decide
   rw [l1,l2,l3,l4];simp
  have gb:(XA ["joined ( ",txt d," ) ( ",txt e," )"]).length<=sizeLine:=by
   rw [gl];have:=qp1 ok hl;rw [sizeLine_eq];omega
  rw [jk]
  try simp only [Pu.pwA,dlD,zq,qrH,qr4,qqY,qmQ,qb3,qcN,qcL,i1,i2,qjB,Option.bind_some,Option.map_some]
  rw [zS gb,gl];rfl
end K77
namespace K77
open PySem L2 L3 Pu Pv
open Bk (Dl)
abbrev sD (ys:List Str):PyData:=.list (ys.map PyData.str)
def qbi {i:Int} (h:N4 i):∀ c∈ls (num i),48<=c/\c<=57:=by
 obtain ⟨m,rfl⟩:=Int.eq_ofNat_of_zero_le h.1;intro c hc;unfold ls num at hc;rw [PySem.W.KIN.signs_num] at hc;obtain ⟨ch,hch,e⟩:=mem_map.mp hc;have r:=PyProof.Rows.digit_range (Nat.isDigit_of_mem_toDigits (by decide) (by decide) hch);rw [← e];exact r
def qoL {i:Int} (h:N4 i):Txt.startswith (num i) "-" = false:=by
 have e:("-" : Str)=⟨#[45]⟩:=by decide
 cases z:Txt.startswith (num i) "-" with
 |false=>rfl
 |true=>
  rw [e] at z;have z':=z;unfold Txt.startswith at z';rw [Bool.and_eq_true,decide_eq_true_eq] at z';have:=(StrLaws.subAt_one (num i) 45 0).mp z';have:=qbi h 45 (mem_of_getElem? this);omega
def qrX {i:Int} (h:N4 i):1<=(num i).length/\(num i).length<=4:=by
 refine ⟨?_,PyProof.Rows.toString_length_le h.1 (by decide) (by have:=h.2;omega)⟩;obtain ⟨m,rfl⟩:=Int.eq_ofNat_of_zero_le h.1;have e:=congrArg List.length (PySem.W.KIN.signs_num m);rw [length_map] at e;have:=toDigits_len_ge 10 m;unfold num Str.length;rw [← Array.length_toList,e];exact this
def qp8 {i:Int} (h:N4 i):(num i).cps.all (·<128)=true:=by
 rw [Array.all_eq_true_iff_forall_mem];intro c hc;have:=qbi h c (by unfold ls;simpa using hc);simp;omega
def qnd {c:Nat} (h:48<=c/\c<=57):Txt.contains "0123456789" ⟨#[c]⟩=true:=by
 show (!(Builtin.Str.occurrences ("0123456789" : Str) ⟨#[c]⟩ 0 ("0123456789" : Str).length 1).isEmpty)=true;rw [StrLaws.found_one,decide_eq_true_eq];have:(("0123456789" : Str)).cps.toList=[48,49,50,51,52,53,54,55,56,57]:=by decide
 rw [this];simp;omega
def qnI {i:Int} (h:N4 i):qs [.str (num i)]=some (.int i):=by
 obtain ⟨c1,c2⟩:=qrX h;have c3:=qp8 h;have c6:=PySem.W.KIN.num_reads h.1 (show i<10 ^ 10 by have:=h.2;omega);have it:qcx [.str (num i)]=some (.int i):=by
  have:PySem.intText? (num i)=some i:=c6;simp only [qcx,this,if_pos (show (num i).length<=640 by omega)];rfl
 have lc:=YN (pi:=(qo0 (bV 1)).f) (h:=lcH (gN 0).f bTt.f (bO qhs (bV 0) (jB "0123456789")).f) (m:=[none]) (ρ:=[.sh (.str (num i)),.sh (.str (num i)),.un]) (ds:=(CV (num i)).map PyData.str) (fs:=((CV (num i)).map λ_=>true).map PyData.bool) (by
  try simp only [Pu.pwA,qbq,qn7,if_pos c3]) (by
  rw [map_map];refine U7 λs hs=>?_;obtain ⟨c,hc,rfl⟩:=mem_map.mp hs;have:=qnd (qbi h c hc)
  try simp only [Pu.pwA,C8,NC,qnW,this,Function.comp_def]) (by simp only [CV,length_map,Array.length_toList];exact Nat.le_trans c2 (by decide))
 have al:((CV (num i)).map λ_=>true).all id=true:=by simp
 simp only [qbq,NC,Pu.pwA] at lc;have sh:qaT true [.int i]=some (.str (num i)):=qbG (UF h);have d1:decide ((1:Int)<=((num i).length:Int))=true:=decide_eq_true (by omega);have d2:decide (((num i).length:Int)<=4)=true:=decide_eq_true (by omega);have ln:qhw [.str (num i)]=some (.int ((num i).length:Int)):=zS (by rw [sizeLine_eq];omega);have c':=qoL h;rw [WA]
 try simp only [Pu.pwA,jR,qb8,SR,c',qkc,qhY,qh3,ln,d1,d2,lc,XW,al,qhP,qdH,it,CC,sh,NC,qbq,Bool.not_true]
def qix {xs:List Int} (h:∀ x∈xs,N4 x) (hl:xs.length<=1000000):qS [sD (xs.map num)]=some (.tuple (xs.map PyData.int)):=by
 have lc:=YN (pi:=(RR (bV 0)).f) (h:=lcH (gN 0).f bTt.f (qx (zn qs false) (qf (bV 0) qz)).f) (m:=[none]) (ρ:=[.sh (sD (xs.map num))]) (ds:=(xs.map num).map PyData.str) (fs:=xs.map PyData.int) (by try simp only [Pu.pwA,sD]) (by
  rw [map_map];refine U7 λx hx=>?_
  try simp only [Pu.pwA,C8,Function.comp_def,qnI (h x hx)]) (by simp;omega)
 simp only [Pu.pwA] at lc;rw [S9]
 try simp only [Pu.pwA,J6,lc]
def dlt (w:Str):Int:=if w="(" then 1 else if w=")" then -1 else 0
def dp (ws:List Str):Int:=(ws.map dlt).sum
def R0 (a b:List Str):dp (a++b)=dp a+dp b:=by simp [dp]
def U6 (a:Str) (b:List Str):dp (a::b)=dlt a+dp b:=by simp [dp]
structure Bal (ws:List Str):Prop where
 z:dp ws=0
 p:∀ k,0<=dp (ws.take k)
def qb4 {a b:List Str} (h:Bal a) (g:Bal b):Bal (a++b):=by
 refine ⟨by rw [R0,h.z,g.z];rfl,λk=>?_⟩;rw [List.take_append,R0];have:=h.p k;have:=g.p (k-a.length);omega
def DS {ws:List Str} (h:∀ w∈ws,dlt w=0):Bal ws:=by
 have key:∀ vs:List Str,(∀ w∈vs,dlt w=0)->dp vs=0:=by
  intro vs;induction vs with
  |nil=>intro _;rfl
  |cons a r ih=>intro h;rw [U6,h a (by simp),ih λw hw=>h w (by simp [hw])];rfl
 exact ⟨key ws h,λk=>by rw [key _ λw hw=>h w (List.mem_of_mem_take hw)];exact Int.le_refl _⟩
def qna:dlt "(" = 1:=by decide
def qiW:dlt ")" = -1:=by decide
def qao {a:List Str} (h:Bal a):Bal ("(" :: (a++[(")" : Str)])):=by
 refine ⟨?_,λk=>?_⟩
 ·rw [U6,R0,h.z,qna,U6,qiW];rfl
 ·cases k with
  |zero=>exact Int.le_refl _
  |succ k=>
   rw [List.take_succ_cons,U6,qna,List.take_append,R0];have:=h.p k;cases e:k-a.length with
   |zero=>simp [dp] at this ⊢;omega
   |succ m=>
    rw [List.take_succ_cons,U6,qiW];simp [dp] at this ⊢;omega
def qdh {i:Int} {x:Str} {k:Nat} (hk:k≠45/\(k<48\/57<k)) (hx:k∈ls x):num i≠x:=λe=>NV (i:=i) hk (e▸hx)
def qdb {i:Int}:dlt (num i)=0:=by
 unfold dlt;rw [if_neg (qdh (k:=40) (by decide) (by decide)),if_neg (qdh (k:=41) (by decide) (by decide))]
def qlC:∀ {b:Bool} {t:List (List Int)},∀ w∈rws b t,dlt w=0
 |_,[],w,hw=>by cases hw
 |b,r::t,w,hw=>by
  simp only [rws,mem_cons,List.mem_append,mem_map] at hw;rcases hw with rfl|⟨i,_,rfl⟩|hw
  ·cases b<;>decide
  ·exact qdb
  ·exact qlC w hw
def S4:∀ d:Dl,Bal (wds d)
 |.skew r c b x y=>DS λw hw=>by
  simp only [wds,mem_cons,not_mem_nil,or_false] at hw;rcases hw with rfl|rfl|rfl|rfl|rfl|rfl
  ·decide
  all_goals exact qdb
 |.rests r c b p=>DS λw hw=>by
  simp only [wds,mem_cons,not_mem_nil,or_false] at hw;rcases hw with rfl|rfl|rfl|rfl|rfl
  ·decide
  all_goals exact qdb
 |.bits h l ms=>DS λw hw=>by
  simp only [wds,mem_cons,mem_map] at hw;rcases hw with rfl|rfl|rfl|⟨i,_,rfl⟩
  ·decide
  all_goals exact qdb
 |.table b cells=>DS λw hw=>by
  simp only [wds,mem_cons] at hw;rcases hw with rfl|rfl|hw
  ·decide
  ·exact qdb
  ·exact qlC w hw
 |.joined d e=>by
  have h1:=qao (S4 d);have h2:=qao (S4 e);have h0:Bal [("joined" : Str)]:=DS (by simp;decide);have:=qb4 h0 (qb4 h1 h2);simpa [wds] using this
def qrp:decide (Str.ofString "(" = Str.ofString ")")=false:=by decide
def qqQ:decide (Str.ofString ")" = Str.ofString "(")=false:=by decide
def qo7 {a r:List Str} (hb:Bal a) (hl:(a++r).length<=100000):ZH [sD ((("(" : Str)::(a++(")" : Str)::r)))]=some (.int ((a.length+1:Nat):Int)):=by
 have fst:∀ i,i<=a.length->dp (((("(" : Str)::(a++(")" : Str)::r))).take (i+1))=1+dp (a.take i):=λi hi=>by
  rw [List.take_succ_cons,U6,qna,List.take_append_of_le_length hi]
 have lst:dp (((("(" : Str)::(a++(")" : Str)::r))).take (a.length+1+1))=0:=by
  rw [List.take_succ_cons,U6,qna,List.take_append,List.take_of_length_le (by omega),show a.length+1-a.length=1 by omega,R0,hb.z];simp [dp,qiW]
 have nth:((("(" : Str)::(a++(")" : Str)::r)))[a.length+1]?=some (")" : Str):=by simp
 generalize hw:((("(" : Str)::(a++(")" : Str)::r)))=ws at fst lst nth;have stp:∀ n w,ws[n]?=some w->dp (ws.take (n+1))=dp (ws.take n)+dlt w:=λn w e=>by
  rw [List.take_add_one,e,R0];simp [dp]
 rw [qaS]
 try simp only [Pu.pwA,DF,sD]
 rw [qcs PyData.str ws 0];refine qhX (Q:=λo=>EY false o=_) (ws.zipIdx 0) (a.length+1) ((")" : Str),a.length+1) (.int ((a.length+1:Nat):Int)) false (by rw [List.getElem?_zipIdx,nth];simp) (λi ρ=>∃ s2 s3:Sl,ρ=[.sh (.list (ws.map PyData.str)),.sh (.int (dp (ws.take i))),s2,s3]) ⟨_,_,rfl⟩ ?_ ?_ ?_
 ·rintro i ⟨w,n⟩ ρ hi hx ⟨s2,s3,rfl⟩;obtain ⟨hr,rfl,_⟩:=SD hx;have e:=stp n w hr;have f:=fst n (by omega);have:=hb.p n;have nz:¬ dp (ws.take (n+1))=0:=by omega
  by_cases c:w="("
  ·have c2:¬ w=")" := by rw [c];decide
   have ev:dp (ws.take (n+1))=dp (ws.take n)+1:=by rw [e,c,qna]
   rw [ev] at nz;have a1:∀ x y z:Sl,qnS 1 (.int 1) [x,.sh (.int (dp (ws.take n))),y,z]=some (.nx [x,.sh (.int (dp (ws.take n)+1)),y,z]):=λ_ _ _=>rfl
   try simp only [Pu.pwA,c,c2,qrp,nz,a1,decide_true,decide_false,T9]
   exact ⟨_,_,by rw [ev]⟩
  ·by_cases c2:w=")"
   ·have ev:dp (ws.take (n+1))=dp (ws.take n)-1:=by rw [e,c2,qiW];rfl
    rw [ev] at nz
    try simp only [Pu.pwA,c2,qqQ,nz,decide_true,decide_false,T9,qcj,asI]
    exact ⟨_,_,by rw [ev]⟩
   ·have ev:dp (ws.take (n+1))=dp (ws.take n):=by rw [e];unfold dlt;rw [if_neg c,if_neg c2];omega
    rw [ev] at nz
    try simp only [Pu.pwA,c,c2,nz,decide_false,T9]
    exact ⟨_,_,by rw [ev]⟩
 ·rintro ρ ⟨s2,s3,rfl⟩;have e:=stp _ _ nth;rw [lst,qiW] at e;have z:dp (ws.take (a.length+1))-1=0:=by omega
  try simp only [Pu.pwA,qqQ,z,decide_true,decide_false,T9,qcj,asI]
 ·rfl
def qg4 {α:Type} (x:α) (a b:List α):UW (x::(a++b)) (some 1) (some ((a.length+1:Nat):Int))=a:=by
 unfold UW;have e1:HT.sIx (x::(a++b)).length 0 (some ((1:Nat):Int))=1:=by rw [HT.T3];simp
 have e2:HT.sIx (x::(a++b)).length (x::(a++b)).length (some ((a.length+1:Nat):Int))=a.length+1:=by rw [HT.T3];simp
 rw [show (some (1:Int))=some ((1:Nat):Int) from rfl,e1,e2];simp
def MV {α:Type} (k:Nat) (xs:List α) (h:k<=xs.length):UW xs (some (k:Int)) none=xs.drop k:=by
 unfold UW;rw [HT.T3,HT.NT,List.take_of_length_le (by simp),Nat.min_eq_left h]
def qiX {x:Str}:eqD true (.list [.str x]) (.list [.str x])=some (.bool false):=by
 have h:qdM (.list [.str x]) (.list [.str x])=none:=rfl;unfold eqD;rw [h];simp only;rw [zS (by simp [dpt,qiS])];simp [QN,DR]
def qjd {a r:List Str} (hb:Bal a) (hl:(a++r).length<=100000):zK [sD ((("(" : Str)::(a++(")" : Str)::r)))]=some (.tuple [sD a,sD r]):=by
 have cl:=qo7 hb hl;have c0:UW ((((("(" : Str)::(a++(")" : Str)::r))).map PyData.str)) none (some 1)=[.str "("]:=by
  rw [show (some (1:Int))=some ((1:Nat):Int) from rfl];unfold UW;rw [HT.T3,HT.NT,List.drop_zero,Nat.sub_zero];simp
 have c1:UW ((((("(" : Str)::(a++(")" : Str)::r))).map PyData.str)) (some 1) (some ((a.length+1:Nat):Int))=a.map PyData.str:=by
  have:=qg4 (PyData.str "(") (a.map PyData.str) (.str ")" :: r.map PyData.str);rw [length_map] at this;simpa using this
 have c2:UW ((((("(" : Str)::(a++(")" : Str)::r))).map PyData.str)) (some (((a.length+1:Nat):Int)+1)) none=r.map PyData.str:=by
  have:=MV (a.length+2) ((((("(" : Str)::(a++(")" : Str)::r))).map PyData.str)) (by simp);rw [show ((a.length+1:Nat):Int)+1=((a.length+2:Nat):Int) by omega,this];rw [map_cons,List.map_append,map_cons,List.drop_succ_cons,List.drop_append,length_map,show a.length+1-a.length=1 by omega,List.drop_of_length_le (by simp)];rfl
 rw [K8];unfold VG;unfold sD at cl ⊢;generalize (((("(" : Str)::(a++(")" : Str)::r))).map PyData.str)=W at cl c0 c1 c2
 try simp only [Pu.pwA,qmT,c0,c1,c2,cl,qiX]
def qrc {i:Int}:num i≠"/" := qdh (k:=47) (by decide) (by decide)
def XU:∀ (r:List Int) (ws:List Str) (acc:List (List Str)) (cur:List Str),VZ (r.map num++ws) acc cur=VZ ws acc (cur++r.map num)
 |[],_,_,_=>by simp
 |i::r,ws,acc,cur=>by
  rw [map_cons,cons_append,MN,if_neg qrc,XU];simp
def K1:∀ (t:List (List Int)) (acc:List (List Str)) (cur:List Str),VZ (rws false t) acc cur=acc++[cur]++t.map (λr=>r.map num)
 |[],_,_=>by simp [rws,VZ]
 |r::t,acc,cur=>by
  show VZ (("/" : Str)::(r.map num++rws false t)) acc cur=_;rw [MN,if_pos rfl,XU,K1];simp
def qcT {t:List (List Int)} (h:t≠[]):VZ (rw2 t) [] []=t.map λr=>r.map num:=by
 cases t with
 |nil=>exact absurd rfl h
 |cons r t=>
  show VZ (r.map num++rws false t) [] []=_;rw [XU,K1];simp
def qpl {t:List (List Int)} (l1:1<=t.length) (l2:t.length<=100) (hp:∀ r∈t,(1<=r.length/\r.length<=100)/\∀ i∈r,N4 i) (ln:(rw2 t).length<=100000):JB [sD (rw2 t)]=some (.tuple (t.map W5)):=by
 have hne:t≠[]:=by intro z;rw [z] at l1;simp at l1
 have lc:=YN (pi:=(RR (bV 1)).f) (h:=lcH (gN 0).f bTt.f (qx (zn qS false) (qf (bV 0) qz)).f) (m:=[none]) (ρ:=[.sh (sD (rw2 t)),.sh (.list ((t.map λr=>r.map num).map wsD)),.un]) (ds:=(t.map λr=>r.map num).map wsD) (fs:=t.map W5) (by try simp only [Pu.pwA]) (by
  rw [map_map];refine U7 λr hq=>?_;have:=qix (xs:=r) (hp r hq).2 (by have:=(hp r hq).1.2;omega);simp only [C8,Function.comp_def,wsD,sD] at this ⊢
  try simp only [Pu.pwA,this]
  rfl) (by simp;omega)
 simp only [Pu.pwA] at lc;show qbY XD [.list ((rw2 t).map PyData.str)]=_;unfold qbY;simp only [KI,Option.bind_some];rw [zS (by omega),qcT hne];simp only [XD,sD,wsD,Pu.pwA] at lc ⊢
 try simp only [Pu.pwA,lc]
def qrh {ws:List Str} (hne:ws≠[]) (hb:∀ w∈ws,32∉ls w):Txt.split (Txt.join " " ws) " " = ws:=by
 have bl:(" " : Str)=⟨#[32]⟩:=by decide
 have h1:=StrLaws.join_split (Txt.join " " ws) " ";have h2:Txt.join " " (Txt.split (Txt.join " " ws) " ")=Txt.join " " ws:=by
  show Builtin.Str.glued " " (Txt.split (Txt.join " " ws) " ")=_;rw [StrLaws.glued_eq_join];exact h1
 have h3:=congrArg ls h2;rw [VL,VL] at h3;have hp:Txt.split (Txt.join " " ws) " " ≠ []:=by
  intro z;have:=PyProof.Rows.split_pos (Txt.join " " ws) " ";rw [z] at this;simp at this
 have h4:=qff (by simpa using hp) (by simpa using hne) (λx hx=>by
  obtain ⟨y,hy,rfl⟩:=mem_map.mp hx;rw [bl] at hy;exact StrLaws.split_free _ 32 y hy) (λx hx=>by obtain ⟨y,hy,rfl⟩:=mem_map.mp hx;exact hb y hy) h3
 exact (List.map_inj_right (λ_ _=>qc6)).mp h4
def qn1 {x:PyData} {xs:List PyData} (h:xs.length<16384):qd3 (.list (x::xs))=some [x,.list xs]:=if_pos h
def qgA {r:List Int} {t:List (List Int)}:rws true (r::t)=(":" : Str)::rw2 (r::t):=rfl
def qrF {b:Int} {t:List (List Int)} (hb:N4 b) (l1:1<=t.length) (l2:t.length<=100) (hp:∀ r∈t,(1<=r.length/\r.length<=100)/\∀ i∈r,N4 i) (ln:(rw2 t).length<=100000):zU [sD (num b::rws true t)]=some (dlD (.table b t)):=by
 have ro:=qpl l1 l2 hp ln;have nw:=qnI hb;cases t with
 |nil=>simp at l1
 |cons r t=>
  rw [qgA];generalize rw2 (r::t)=X at ro;have c1:UW (((num b::(":" : Str)::X)).map PyData.str) (some 1) (some 2)=[.str ":"]:=rfl;have c2:UW (((num b::(":" : Str)::X)).map PyData.str) (some 2) none=X.map PyData.str:=by
   have:=MV 2 (((num b::(":" : Str)::X)).map PyData.str) (by simp);exact this
  have a0:L2.atI (((num b::(":" : Str)::X)).map PyData.str) 0=some (.str (num b)):=by
   have:=atN (xs:=((num b::(":" : Str)::X)).map PyData.str) (k:=0) (by simp);exact this.trans rfl
  rw [TL];unfold JW;unfold sD at ro ⊢;generalize ((num b::(":" : Str)::X)).map PyData.str=W at c1 c2 a0
  try simp only [Pu.pwA,qmT,c1,c2,a0,ro,nw,qiX,dlD]
def LS {xs ys:List PyData} (h:xs.length+ys.length<=16777216):T0 (.tuple xs) (.tuple ys)=some (.tuple (xs++ys)):=zS h
def rdP {j:Nat} {s:Str} {xs:List Int} (h1:decide (s="joined")=false) (h2:decide (s="table")=false) (h3:decide (s="bits")=false) (hx:∀ x∈xs,N4 x) (hl:xs.length<16384):qw (j+1) [sD (s::xs.map num)]=some (.tuple (.str s::xs.map PyData.int)):=by
 have nn:=qix hx (by omega);have st:=qn1 (x:=.str s) (xs:=(xs.map num).map PyData.str) (by simpa using hl);have ca:T0 (.tuple [.str s]) (.tuple (xs.map PyData.int))=some (.tuple (.str s::xs.map PyData.int)):=LS (by simp;omega);have l0:∀ n:Nat,decide (((n+1:Nat):Int)=0)=false:=λn=>decide_eq_false (by omega);rw [QJ];unfold sD at nn ⊢
 try simp only [Pu.pwA,zL,map_cons,l0,st,h1,h2,h3,nn,ca,zi,zN,S8,Option.bind_some]
def l0 (n:Nat):decide (((n+1:Nat):Int)=0)=false:=decide_eq_false (by omega)
def qrS {j:Nat} {d e:Dl} (gl:(wds d).length+(wds e).length<=90000) (h1:qw j [sD (wds d)]=some (dlD d)) (h2:qw j [sD (wds e)]=some (dlD e)):jy (qw j) [sD ((("(" : Str)::(wds d++(")" : Str)::("(" : Str)::(wds e++[(")" : Str)]))))]=some (dlD (.joined d e)):=by
 have b1:=qjd (a:=wds d) (r:=("(" : Str)::(wds e++[(")" : Str)])) (S4 d) (by simp;omega);have b2:=qjd (a:=wds e) (r:=[]) (S4 e) (by simp;omega);have z0:decide ((0:Int)<((0:Nat):Int))=false:=by decide
 rw [RF];unfold sD at b1 b2 h1 h2 ⊢
 try simp only [Pu.pwA,Z0,b1,b2,h1,h2,z0,List.map_nil,length_nil,dlD]
def qok:∀ (d:Dl) (j:Nat),Gn d->d.dep<j->(wds d).length<16384->qw j [sD (wds d)]=some (dlD d)
 |d,0,_,h,_=>by omega
 |.skew r c b x y,j+1,g,_,_=>rdP (s:="skew") (xs:=[r,c,b,x,y]) (by decide) (by decide) (by decide) (by
   obtain ⟨a1,a2,a3,a4,a5⟩:=g;simp;exact ⟨a1,a2,a3,a4,a5⟩) (by simp)
 |.rests r c b p,j+1,g,_,_=>rdP (s:="rests") (xs:=[r,c,b,p]) (by decide) (by decide) (by decide) (by
   obtain ⟨a1,a2,a3,a4⟩:=g;simp;exact ⟨a1,a2,a3,a4⟩) (by simp)
 |.bits h l ms,j+1,g,_,hl=>by
  obtain ⟨a1,a2,a3,a4⟩:=g;have nn:=qix (xs:=(h:Int)::(l:Int)::ms) (λx hx=>by
   rcases mem_cons.mp hx with rfl|hx
   ·exact a1
   ·rcases mem_cons.mp hx with rfl|hx
    ·exact a2
    ·exact a4 x hx) (by simp;omega)
  have st:=qn1 (x:=.str "bits") (xs:=(((h:Int)::(l:Int)::ms).map num).map PyData.str) (by simp;omega);have s1:slA (.tuple (((h:Int)::(l:Int)::ms).map PyData.int)) none (some 2)=some (.tuple [.int h,.int l]):=rfl;have s2:slA (.tuple (((h:Int)::(l:Int)::ms).map PyData.int)) (some 2) none=some (.tuple (ms.map PyData.int)):=by
   have:=MV 2 (((h:Int)::(l:Int)::ms).map PyData.int) (by simp);show some (PyData.tuple (UW _ _ _))=_;rw [show (some (2:Int))=some ((2:Nat):Int) from rfl,this];rfl
  have c1:T0 (.tuple [.str "bits"]) (.tuple [.int (h:Int),.int (l:Int)])=some (.tuple [.str "bits",.int h,.int l]):=LS (by simp);have c2:T0 (.tuple [.str "bits",.int (h:Int),.int (l:Int)]) (.tuple [.tuple (ms.map PyData.int)])=some (dlD (.bits h l ms)):=LS (by simp);have ew:wds (.bits h l ms)=("bits" : Str)::((h:Int)::(l:Int)::ms).map num:=rfl;rw [QJ,ew];unfold sD at nn ⊢;generalize (((h:Int)::(l:Int)::ms).map PyData.int)=X at nn s1 s2;have e1:decide (Str.ofString "bits" = Str.ofString "joined")=false:=by decide
  have e2:decide (Str.ofString "bits" = Str.ofString "table")=false:=by decide
  simp only [map_cons] at st nn
  try simp only [Pu.pwA,zL,map_cons,l0,st,e1,e2,nn,s1,s2,c1,c2,VY,zi,zN,S8,Option.bind_some,decide_true]
 |.table b t,j+1,g,_,hl=>by
  obtain ⟨a1,a2,a3,a4⟩:=g;have ew:wds (.table b t)=("table" : Str)::(num b::rws true t):=rfl;rw [ew] at hl ⊢;have rt:=qrF a1 a2 a3 a4 (by
   cases t with
   |nil=>simp at a2
   |cons r t=>rw [qgA] at hl;simp only [length_cons] at hl;omega)
  generalize num b::rws true t=X at hl rt;have st:=qn1 (x:=.str "table") (xs:=X.map PyData.str) (by simp at hl ⊢;omega);have e1:decide (Str.ofString "table" = Str.ofString "joined")=false:=by decide
  rw [QJ];unfold sD at rt ⊢
  try simp only [Pu.pwA,zL,map_cons,l0,st,e1,rt,S8,Option.bind_some,decide_true]
 |.joined d e,j+1,g,hj,hl=>by
  simp only [Dl.dep] at hj;have m1:=Nat.le_max_left d.dep e.dep;have m2:=Nat.le_max_right d.dep e.dep;have ew:wds (.joined d e)=("joined" : Str)::(("(" : Str)::(wds d++(")" : Str)::("(" : Str)::(wds e++[(")" : Str)]))):=rfl;have hl':=hl;simp only [wds,length_cons,length_append] at hl';have i1:=qok d j g.1 (by omega) (by omega);have i2:=qok e j g.2 (by omega) (by omega);have rj:=qrS (by omega) i1 i2;rw [ew] at hl ⊢;generalize ("(" : Str)::(wds d++(")" : Str)::("(" : Str)::(wds e++[(")" : Str)]))=X at hl rj;have st:=qn1 (x:=.str "joined") (xs:=X.map PyData.str) (by simp at hl ⊢;omega);rw [QJ];unfold sD at rj ⊢
  try simp only [Pu.pwA,zL,map_cons,l0,st,rj,S8,Option.bind_some,decide_true]
end K77
namespace K77
open PySem L2 L3 Pu
open Bk (Dl Dr)
open Pv (dlD W5 qai NW)
def s4:List Dl:=[.skew 2 2 2 1 1,.bits 1 0 [1],.rests 1 2 2 1,.table 2 [[1,0]]]
def qbk {d:Dl} (h:d∈s4):d.Ok/\d.dep=0/\(1<=d.R/\d.R<=4)/\(1<=d.C/\d.C<=4)/\(1<=d.B/\d.B<=4):=by
 simp only [s4,mem_cons,not_mem_nil,or_false] at h;rcases h with rfl|rfl|rfl|rfl
 ·exact ⟨by simp [Dl.Ok],rfl,by decide,by decide,by decide⟩
 ·exact ⟨by simp [Dl.Ok],rfl,by decide,by decide,by decide⟩
 ·exact ⟨by simp [Dl.Ok],rfl,by decide,by decide,by decide⟩
 ·exact ⟨⟨by decide,by decide,by decide,by decide,2,by decide,by decide,by simp⟩,rfl,by decide,by decide,by decide⟩
def m44 {a b:Int} (h:1<=a/\a<=4) (k:1<=b/\b<=4):1<=a*b/\a*b<=16:=by
 have h1:=Bk.XS h.1 h.2 k.1 k.2;have h2:1*1<=a*b:=Int.mul_le_mul h.1 k.1 (by omega) (by omega);omega
def m16 {a b:Int} (h:1<=a/\a<=16) (k:1<=b/\b<=16):a*b<=4096:=by
 have h1:=Bk.XS h.1 h.2 k.1 k.2;omega
def qhR {d e:Dl} (hd:d∈s4) (he:e∈s4):(Dl.joined d e).Ok/\(Dl.joined d e).dep=1/\(1<=(Dl.joined d e).R/\(Dl.joined d e).R<=16)/\(1<=(Dl.joined d e).C/\(Dl.joined d e).C<=16)/\(1<=(Dl.joined d e).B/\(Dl.joined d e).B<=16):=by
 obtain ⟨a1,a2,a3,a4,a5⟩:=qbk hd;obtain ⟨b1,b2,b3,b4,b5⟩:=qbk he;have r:=m44 a3 b3;have c:=m44 a4 b4;have b:=m44 a5 b5;exact ⟨⟨a1,b1,by omega,by omega,by omega⟩,by simp [Dl.dep,a2,b2],r,c,b⟩
def qow {n:Nat} {Q:QD} (hn:n<90000) (h:∀ (d:Dl) (m:Nat),d.Ok->d.dep<=2->m<=n+1010->Q (dlD d) m):zr.W [] n Q:=by
 rw [ES];refine ⟨rfl,?_⟩;unfold jv;have fin:∀ (d:Dl) (m:Nat),d.Ok->d.dep<=2->m<=n+1010->∃ m',m<=m'/\Q (dlD d) m':=λd m a b c=>⟨m,Nat.le_refl _,h d m a b c⟩
 refine EF λY1 h1=>?_
 try simp only [Pu.pwA]
 refine ⟨by omega,by omega,λw w0 w1=>?_⟩;by_cases k0:0<w
 ·try simp only [Pu.pwA,k0,decide_true]
  exact ⟨by omega,λd D dp=>fin d _ D.ok dp (by omega)⟩
 try simp only [Pu.pwA,k0,decide_false]
 rw [h1];refine EF λY2 h2=>?_
 try simp only [Pu.pwA]
 rw [h2];refine EF λY3 h3=>?_;rw [qg2]
 try simp (disch:=omega) only [Pu.pwA,qnN]
 refine ⟨by simp [RJ],?_⟩;refine NM (R:=λd:Dl=>d∈s4) (gd:=dlD) (c:=1) (N:=n+10) (RJ 0 (4:Int).toNat) _ _ (λx _ n' Q' hn' h'=>?_) jz.mn mnT (by simp [RJ]) λds ld hd=>?_
 ·unfold jz
  try simp only [Pu.pwA]
  refine ⟨by omega,by omega,λz z0 z1=>?_⟩;obtain ⟨v,hv,e⟩:=qlD (ds:=s4.map dlD) z0 (by simp [s4];omega);obtain ⟨d,hd,rfl⟩:=mem_map.mp hv;have e':=e;simp only [s4,map_cons,List.map_nil,dlD,W5] at e';exact ⟨_,e',h' d hd⟩
 obtain ⟨a,b,c,d,rfl⟩:∃ a b c d,ds=[a,b,c,d]:=by
  match ds,ld with
  |[a,b,c,d],_=>exact ⟨a,b,c,d,rfl⟩
 have ha:=hd a (by simp);have hb:=hd b (by simp);have hc:=hd c (by simp);have hd:=hd d (by simp);have oa:=qbk ha;have ob:=qbk hb;have oc:=qbk hc;have jab:=qhR ha hb;have jbc:=qhR hb hc;have jcd:=qhR hc hd;have m1:(Dl.joined (.joined a b) c).Ok/\(Dl.joined (.joined a b) c).dep<=2:=by
  obtain ⟨j1,j2,j3,j4,j5⟩:=jab;obtain ⟨c1,c2,c3,c4,c5⟩:=oc;exact ⟨⟨j1,c1,m16 j3 (by omega),m16 j4 (by omega),m16 j5 (by omega)⟩,by rw [Dl.dep,j2,c2];decide⟩
 have m2:(Dl.joined a (.joined b c)).Ok/\(Dl.joined a (.joined b c)).dep<=2:=by
  obtain ⟨j1,j2,j3,j4,j5⟩:=jbc;obtain ⟨c1,c2,c3,c4,c5⟩:=oa;exact ⟨⟨c1,j1,m16 (by omega) j3,m16 (by omega) j4,m16 (by omega) j5⟩,by rw [Dl.dep,j2,c2];decide⟩
 have m3:(Dl.joined (.joined a b) (.joined c d)).Ok/\(Dl.joined (.joined a b) (.joined c d)).dep<=2:=by
  obtain ⟨j1,j2,j3,j4,j5⟩:=jab;obtain ⟨c1,c2,c3,c4,c5⟩:=jcd;exact ⟨⟨j1,c1,m16 j3 c3,m16 j4 c4,m16 j5 c5⟩,by rw [Dl.dep,j2,c2];decide⟩
 simp only [map_cons,List.map_nil];refine ⟨by simp,_,_,rfl,rfl,rfl,?_⟩;rw [h3];refine EF λY4 h4=>?_;have hl:(RJ 0 (4:Int).toNat).length=4:=by simp [RJ]
 try simp only [Pu.pwA,hl]
 refine ⟨by omega,by omega,λw w0 w1=>?_⟩;generalize PyData.list _=L4;rw [h4];refine EF λY5 h5=>?_
 try simp only [Pu.pwA]
 by_cases k1:w=0
 ·try simp only [Pu.pwA,k1,decide_true]
  exact fin _ _ m1.1 m1.2 (by omega)
 try simp only [Pu.pwA,k1,decide_false]
 rw [h5];refine EF λY6 h6=>?_
 try simp only [Pu.pwA]
 by_cases k2:w=1
 ·try simp only [Pu.pwA,k2,decide_true]
  exact fin _ _ m2.1 m2.2 (by omega)
 try simp only [Pu.pwA,k2,decide_false]
 rw [h6]
 try simp only [Pu.pwA]
 exact fin _ _ m3.1 m3.2 (by omega)
end K77
namespace K77
open PySem L2 L3 Pu
open Bk (Dl)
open Pv (dlD W5)
def XY {xs ys:List PyData} (h:xs.length+ys.length<=16777216):T0 (.list xs) (.list ys)=some (.list (xs++ys)):=zS h
def SN:∀ {b:Bool} {t:List (List Int)} {n:Nat},(∀ r∈t,r.length<=n)->(rws b t).length<=t.length*(n+1)
 |_,[],_,_=>by simp [rws]
 |b,r::t,n,h=>by
  have:=SN (b:=false) (t:=t) λx hx=>h x (by simp [hx]);have:=h r (by simp);simp only [rws,length_cons,length_append,length_map,Nat.add_mul,Nat.one_mul];omega
def qlU {i j:Nat} {m:List Bool} {x y:List PyData} {ρ:Rho}:qm2 i j m [.list x,.list y] ρ=some (.nx (((dm m ρ).set i (.sh (.list x))).set j (.sh (.list y)))):=id rfl
def MP {xs ys:List Str} (h:xs.length+ys.length<=16777216):T0 (.list (xs.map PyData.str)) (.list (ys.map PyData.str))=some (.list ((xs++ys).map PyData.str)):=by
 rw [List.map_append];exact XY (by simpa using h)
def TU {ds:List PyData} {ρ:Rho} {s:Sl} (h:∀ x∈ds,O1 x):lcP (lcH (gN 0).f bTt.f (qx (D9 true) (qf (bV 0) qz)).f [s]) ds=some ((ds.map tkD).map PyData.str):=qmV λd hd=>by try simp only [Pu.pwA,C8,CC,qcF (h d hd)]
def qp0:∀ (d:Dl) (j:Nat),Gn d->d.dep<j->(wds d).length<=100000->qt j [dlD d]=some (sD (wds d))
 |d,0,_,h,_=>by omega
 |.skew r c b x y,j+1,ok,_,_=>by
  obtain ⟨a1,a2,a3,a4,a5⟩:=ok;have s1:slA (.tuple [.str "skew",.int r,.int c,.int b,.int x,.int y]) (some 1) none=some (.tuple [.int r,.int c,.int b,.int x,.int y]):=rfl;have lc:=λρ h1=>YN (pi:=(RR (qdQ (bV 0) (bSp (qE 1)) bNp)).f) (h:=lcH (gN 0).f bTt.f (qx (D9 true) (qf (bV 0) qz)).f) (m:=[none]) (ρ:=ρ) (ds:=[.int r,.int c,.int b,.int x,.int y]) (fs:=[num r,num c,num b,num x,num y].map PyData.str) h1 (TU (ρ:=ρ) λz hz=>by
   simp only [mem_cons,not_mem_nil,or_false] at hz;rcases hz with rfl|rfl|rfl|rfl|rfl<;>(apply UF;assumption)) (by simp)
  have l1:=lc [.sh (.tuple [.str "skew",.int r,.int c,.int b,.int x,.int y]),.un,.un,.un,.un,.un] (by try simp only [Pu.pwA,VY,s1]);simp only [VY,Pu.pwA] at l1;have ca:T0 (.list [.str "skew"]) (.list ([num r,num c,num b,num x,num y].map PyData.str))=some (sD (wds (.skew r c b x y))):=MP (xs:=["skew"]) (by simp);rw [zk]
  try simp only [Pu.pwA,dlD,qL,qqM,qqv,qqC,VY,zi,l1,ca,Bool.not_false]
 |.rests r c b p,j+1,ok,_,_=>by
  obtain ⟨a1,a2,a3,a4⟩:=ok;have s1:slA (.tuple [.str "rests",.int r,.int c,.int b,.int p]) (some 1) none=some (.tuple [.int r,.int c,.int b,.int p]):=rfl;have l1:=YN (pi:=(RR (qdQ (bV 0) (bSp (qE 1)) bNp)).f) (h:=lcH (gN 0).f bTt.f (qx (D9 true) (qf (bV 0) qz)).f) (m:=[none]) (ρ:=[.sh (.tuple [.str "rests",.int r,.int c,.int b,.int p]),.un,.un,.un,.un,.un]) (ds:=[.int r,.int c,.int b,.int p]) (fs:=[num r,num c,num b,num p].map PyData.str) (by try simp only [Pu.pwA,VY,s1]) (TU (ρ:=[]) λz hz=>by
   simp only [mem_cons,not_mem_nil,or_false] at hz;rcases hz with rfl|rfl|rfl|rfl<;>(apply UF;assumption)) (by simp)
  simp only [VY,Pu.pwA] at l1;have ca:T0 (.list [.str "rests"]) (.list ([num r,num c,num b,num p].map PyData.str))=some (sD (wds (.rests r c b p))):=MP (xs:=["rests"]) (by simp);rw [zk]
  try simp only [Pu.pwA,dlD,qL,qqA,qqx,qqu,VY,zi,l1,ca,Bool.not_false]
 |.bits h l ms,j+1,ok,_,_=>by
  obtain ⟨a1,a2,a3,a4⟩:=ok;have s1:slA (.tuple [.str "bits",.int (h:Int),.int (l:Int),.tuple (ms.map PyData.int)]) (some 1) (some 3)=some (.tuple [.int (h:Int),.int (l:Int)]):=rfl;have c0:T0 (.list [.int (h:Int),.int (l:Int)]) (.list (ms.map PyData.int))=some (.list (.int (h:Int)::.int (l:Int)::ms.map PyData.int)):=XY (by simp;omega);have l1:=YN (pi:=(RR (bO zO (qx qmH (qf (qdQ (bV 0) (bSp (qE 1)) (bSp (qE 3))) qz)) (qx qmH (qf (bO VI (bV 0) (qE 3)) qz)))).f) (h:=lcH (gN 0).f bTt.f (qx (D9 true) (qf (bV 0) qz)).f) (m:=[none]) (ρ:=[.sh (.tuple [.str "bits",.int (h:Int),.int (l:Int),.tuple (ms.map PyData.int)]),.un,.un,.un,.un,.un]) (ds:=.int (h:Int)::.int (l:Int)::ms.map PyData.int) (fs:=(num h::num l::ms.map num).map PyData.str) (by try simp only [Pu.pwA,VY,zi,s1,c0]) (by
   have:=TU (ρ:=[]) (s:=.un) (ds:=.int (h:Int)::.int (l:Int)::ms.map PyData.int) λz hz=>by
    simp only [mem_cons,mem_map] at hz;rcases hz with rfl|rfl|⟨i,hi,rfl⟩
    ·exact UF a1
    ·exact UF a2
    ·exact UF (a4 i hi)
   have e:(PyData.int (h:Int)::.int (l:Int)::ms.map PyData.int).map tkD=num h::num l::ms.map num:=by simp only [map_cons,qag];rfl
   rw [e] at this;exact this) (by simp;omega)
  simp only [VY,zi,Pu.pwA] at l1;have ca:T0 (.list [.str "bits"]) (.list ((num h::num l::ms.map num).map PyData.str))=some (sD (wds (.bits h l ms))):=MP (xs:=["bits"]) (by simp;omega);rw [zk]
  try simp only [Pu.pwA,dlD,qL,qqN,qrK,VY,zi,l1,ca]
 |.table b cells,j+1,ok,_,hl=>by
  obtain ⟨a1,a3,a4,a7⟩:=ok;have b1:=UF a1;have hcl:∀ k,(rws true (cells.take k)).length<=100*101:=λk=>by
   have:=SN (b:=true) (t:=cells.take k) (n:=100) λr hr=>(a7 r (List.mem_of_mem_take hr)).1.2;have h3:(cells.take k).length*(100+1)<=100*101:=Nat.mul_le_mul (by rw [List.length_take];omega) (by omega);omega
  rw [zk]
  try simp only [Pu.pwA,dlD,qL,qqk,qq2,qrt,Bool.not_true,CC,qbG (st:=true) (i:=b) (by omega)]
  rw [qcs W5 cells 0];refine qg8 (Q:=λo=>EY false o=_) (cells.zipIdx 0) (λi ρ=>∃ s4 s5:Sl,∃ f:List PyData,(ρ=[.sh (.tuple [.str "table",.int b,.tuple (cells.map W5)]),.un,.un,.ow f,s4,s5]\/ρ=[.sh (.tuple [.str "table",.int b,.tuple (cells.map W5)]),.un,.un,.sh (.list f),s4,s5])/\f=(("table" : Str)::num b::rws true (cells.take i)).map PyData.str) ⟨_,_,_,.inl rfl,by simp [rws,num]⟩ ?_ ?_
  ·rintro i ⟨r,n⟩ ρ hx ⟨s4,s5,f,hρ,hf⟩;obtain ⟨hr,rfl,hi⟩:=SD hx;have hrm:=mem_of_getElem? hr;have rl:=(a7 r hrm).1.2;have tl:=hcl n;have tk:cells.take (n+1)=cells.take n++[r]:=by rw [List.take_add_one,hr];rfl
   have fl:f.length<=100*101+2:=by rw [hf];simp;omega
   have lcr:∀ s3:Sl,lcF (RR (bV 5)).f (lcH (gN 0).f bTt.f (qx (D9 true) (qf (bV 0) qz)).f) [none] [.sh (.tuple [.str "table",.int b,.tuple (cells.map W5)]),.un,.un,s3,.sh (.int (n:Int)),.sh (W5 r)]=some (.list ((r.map num).map PyData.str)):=λs3=>YN (ds:=r.map PyData.int) (by try simp only [Pu.pwA,W5]) (by
    have:=TU (ρ:=[]) (s:=.un) (ds:=r.map PyData.int) (qqB λi hi=>UF ((a7 r hrm).2 i hi));rw [qag] at this;exact this) (by simp;omega)
   simp only [CC,Pu.pwA] at lcr;have c1:∀ sep:Str,T0 (.list f) (.list [.str sep])=some (.list (f++[.str sep])):=λsep=>XY (by simp;omega);have c2:∀ sep:Str,T0 (.list (f++[.str sep])) (.list ((r.map num).map PyData.str))=some (.list (f++[.str sep]++(r.map num).map PyData.str)):=λsep=>XY (by simp;omega);have rw1:∀ (b:Bool) (t:List (List Int)),rws b (t++[r])=rws b t++(if b&&t.isEmpty then (":" : Str) else "/")::r.map num:=by
    intro b t;induction t generalizing b with
    |nil=>cases b<;>simp [rws]
    |cons a t ih=>simp [rws,ih]
   have te:(cells.take n).isEmpty=decide (n=0):=by
    cases n with
    |zero=>simp
    |succ m=>
     have:cells.take (m+1)≠[]:=by
      intro z;have:=congrArg List.length z;rw [List.length_take,length_nil] at this;omega
     simp [List.isEmpty_eq_false_iff.mpr this]
   have fin:∀ sep:Str,sep=(if decide (n=0)=true then (":" : Str) else "/")->f++[.str sep]++(r.map num).map PyData.str=(("table" : Str)::num b::rws true (cells.take (n+1))).map PyData.str:=by
    intro sep hs;rw [tk,rw1,te,hf,hs];simp
   by_cases h0:n=0
   ·have fz:=fin ":" (by simp [h0]);have hz:decide ((n:Int)=0)=true:=by simp [h0]
    rcases hρ with rfl|rfl
    ·try simp only [Pu.pwA,hz,zi,zN,lcr,c1,c2]
     exact ⟨_,_,_,.inr rfl,fz⟩
    ·try simp only [Pu.pwA,hz,zi,zN,lcr,c1,c2]
     exact ⟨_,_,_,.inr rfl,fz⟩
   ·have fz:=fin "/" (by simp [h0]);have hz:decide ((n:Int)=0)=false:=by simp [h0]
    rcases hρ with rfl|rfl
    ·try simp only [Pu.pwA,hz,zi,zN,lcr,c1,c2]
     exact ⟨_,_,_,.inr rfl,fz⟩
    ·try simp only [Pu.pwA,hz,zi,zN,lcr,c1,c2]
     exact ⟨_,_,_,.inr rfl,fz⟩
  ·rintro ρ ⟨s4,s5,f,hρ,hf⟩;rw [List.length_zipIdx,List.take_length] at hf;rcases hρ with rfl|rfl
   ·try simp only [Pu.pwA,hf,wds]
   ·try simp only [Pu.pwA,hf,wds]
 |.joined d e,j+1,ok,hj,hl=>by
  simp only [Dl.dep] at hj;have hl':=hl;simp only [wds,length_cons,length_append] at hl';have m1:=Nat.le_max_left d.dep e.dep;have m2:=Nat.le_max_right d.dep e.dep;have i1:=qp0 d j ok.1 (by omega) (by omega);have i2:=qp0 e j ok.2 (by omega) (by omega);have c1:=MP (xs:=[("joined" : Str),"("]) (ys:=wds d) (by simp;omega);have c2:=MP (xs:=[("joined" : Str),"("]++wds d) (ys:=[(")" : Str),"("]) (by simp;omega);have c3:=MP (xs:=[("joined" : Str),"("]++wds d++[(")" : Str),"("]) (ys:=wds e) (by simp;omega);have c4:=MP (xs:=[("joined" : Str),"("]++wds d++[(")" : Str),"("]++wds e) (ys:=[(")" : Str)]) (by simp;omega);have ee:[("joined" : Str),"("]++wds d++[(")" : Str),"("]++wds e++[(")" : Str)]=wds (.joined d e):=by simp [wds]
  rw [ee] at c4;generalize [("joined" : Str),"("]++wds d++[(")" : Str),"("]++wds e=X3 at c3 c4;generalize [("joined" : Str),"("]++wds d++[(")" : Str),"("]=X2 at c2 c3;generalize [("joined" : Str),"("]++wds d=X1 at c1 c2;simp only [map_cons,List.map_nil] at c1 c2 c4;rw [zk]
  try simp only [Pu.pwA,dlD,qL,qqY,i1,i2,qlU,zi,c1,c2,c3,c4]
end K77
namespace K77
open PySem L2 L3 Pu Pv
def Th (L B:Nat):Nat->PyData->Prop
 |_,.none=>True
 |_,.bool _=>True
 |_,.int i=>-(B:Int)<=i/\i<=B
 |_,.str s=>s.cps.size<=20/\(s.cps.toList.all λc=>decide (c<16 ^ 8))=true
 |n+1,.list ds=>ds.length<=L/\∀ d∈ds,Th L B n d
 |n+1,.tuple ds=>ds.length<=L/\∀ d∈ds,Th L B n d
 |_,_=>False
def qrk {L B:Nat} (n:Nat):Th L B n .none:=by cases n<;>trivial
def qrT {L B:Nat} (n:Nat) {b:Bool}:Th L B n (.bool b):=by cases n<;>trivial
def qd8 {L B:Nat} (n:Nat) {i:Int}:Th L B n (.int i)=(-(B:Int)<=i/\i<=B):=by cases n<;>rfl
def qiQ {L B:Nat} (n:Nat) {s:Str}:Th L B n (.str s)=(s.cps.size<=20/\(s.cps.toList.all λc=>decide (c<16 ^ 8))=true):=by cases n<;>rfl
def qgx {L B n:Nat} {ds:List PyData} (hl:ds.length<=L) (h:∀ d∈ds,Th L B n d):Th L B (n+1) (.tuple ds):=⟨hl,h⟩
def YC {L B L' B':Nat} (hL:L<=L') (hB:B<=B'):∀ {n:Nat} (m:Nat) {d:PyData},Th L B n d->n<=m->Th L' B' m d
 |n,m,.none,_,_=>qrk m
 |n,m,.bool _,_,_=>qrT m
 |n,m,.int i,h,_=>by rw [qd8] at h ⊢;omega
 |n,m,.str s,h,_=>by rw [qiQ] at h ⊢;exact h
 |n+1,m+1,.list ds,⟨h1,h2⟩,e=>⟨by omega,λd hd=>YC hL hB m (h2 d hd) (by omega)⟩
 |n+1,m+1,.tuple ds,⟨h1,h2⟩,e=>⟨by omega,λd hd=>YC hL hB m (h2 d hd) (by omega)⟩
 |0,_,.list ds,h,_=>h.elim
 |0,_,.tuple ds,h,_=>h.elim
 |n+1,0,.list ds,h,e=>by omega
 |n+1,0,.tuple ds,h,e=>by omega
 |0,_,.dict _,h,_=>h.elim
 |n+1,_,.dict _,h,_=>h.elim
def bd (L:Nat):Nat->Nat
 |0=>20
 |n+1=>L*(bd L n+1)+20
def isN:PyData->Bool
 |.int _=>true
 |_=>false
def geN (m:Int):PyData->Bool
 |.int i=>decide (m<=i)
 |_=>false
def a1:jP "NoneType" "int" = false:=rfl
def a2:jP "bool" "int" = true:=rfl
def a3:jP "int" "int" = true:=rfl
def a4:jP "str" "int" = false:=rfl
def a5:jP "list" "int" = false:=rfl
def a6:jP "tuple" "int" = false:=rfl
def a7:jP "bool" "bool" = true:=rfl
def a8:jP "int" "bool" = false:=rfl
def c1:jP "NoneType" "tuple" = false:=rfl
def c2:jP "bool" "tuple" = false:=rfl
def cq3:jP "int" "tuple" = false:=rfl
def c4:jP "str" "tuple" = false:=rfl
def c5:jP "list" "tuple" = false:=rfl
def c6:jP "tuple" "tuple" = true:=rfl
def d1:jP "NoneType" "str" = false:=rfl
def d2:jP "bool" "str" = false:=rfl
def d4:jP "str" "str" = true:=rfl
def qoC {L B n:Nat} {d:PyData} (h:Th L B n d):jr [d]=some (.bool (isN d)):=by
 rw [LX];cases d with
 |dict _=>cases n<;>exact h.elim
 |_=>try simp only [Pu.pwA,VO,isN,a1,a2,a3,a4,a5,a6,a7,a8,Bool.not_true,Bool.not_false]
def qjp {L B n:Nat} {d:PyData} {e:Int} (h:Th L B n d):qQ [d,.int e]=some (.bool (geN e d)):=by
 have k:=qoC h;rw [C6];cases d<;>try simp only [Pu.pwA,Z6,k,isN,geN]
def qj1 {h:PyData->Option (Option PyData)} {k:PyData->PyData} {ds:List PyData} (hh:∀ d∈ds,h d=some (some (k d))):lcP h ds=some (ds.map k):=by
 have:=U7 (g:=id) (k:=k) (xs:=ds) hh;rw [List.map_id] at this;exact this
def qaw {L B n:Nat} {ds:List PyData} {e:Int} (h:∀ d∈ds,Th L B n d) (hl:ds.length<=1000):qk [.tuple ds,.int e]=some (.bool (ds.all (geN e))):=by
 rw [CN]
 try simp only [Pu.pwA,Q2]
 rw [YN (ds:=ds) (fs:=(ds.map (geN e)).map PyData.bool)]
 ·try simp only [Pu.pwA,XW]
  rw [List.all_map];rfl
 ·try simp only [Pu.pwA]
 ·rw [map_map];refine qj1 λd hd=>?_
  try simp only [Pu.pwA,C8,qjp (h d hd),Function.comp_def]
 ·simp;omega
def qlT {cf:Rho->Option Bool} {bf:Rho->Option Ot} (hc:∀ a b:Int,cf [.sh (.int a),.sh (.int b)]=some (decide (0<b))) (hb:∀ a b:Int,0<b->bf [.sh (.int a),.sh (.int b)]=some (.nx [.sh (.int b),.sh (.int (a%b))])):∀ (b a N:Nat),b<N->whP cf bf N [.sh (.int (a:Int)),.sh (.int (b:Int))]=some (.nx [.sh (.int ((Nat.gcd a b:Nat):Int)),.sh (.int 0)]):=by
 intro b;induction b using Nat.strongRecOn with
 |_ b ih=>
  intro a N hN;obtain ⟨M,rfl⟩:∃ M,N=M+1:=⟨N-1,by omega⟩
  simp only [whP,hc,Option.bind_some];by_cases z:b=0
  ·subst z;simp
  ·have p:(0:Int)<(b:Int):=by omega
   have lt:=Nat.mod_lt a (show 0<b by omega);rw [decide_eq_true p,if_pos rfl,hb _ _ p];simp only [Option.bind_some];have:=ih (a%b) lt b M (by omega);rw [show ((a%b:Nat):Int)=(a:Int)%(b:Int) from Int.natCast_emod a b] at this;rw [this,Nat.gcd_comm b (a%b),← Nat.gcd_rec,Nat.gcd_comm]
def qo4 {a b:Nat} (h:b<1000000000):qT [.int (a:Int),.int (b:Int)]=some (.bool (decide (Nat.gcd a b=1))):=by
 rw [EJ]
 try simp only [Pu.pwA,jf]
 rw [qlT (λa b=>by try simp only [Pu.pwA]) (λa b hb=>by try simp (disch:=omega) only [Pu.pwA,qfo]) b a _ h];have e:decide (((Nat.gcd a b:Nat):Int)=1)=decide (Nat.gcd a b=1):=by rw [decide_eq_decide];omega
 try simp only [Pu.pwA,e]
def skW (r:List PyData):Bool:=match r with
 |[a,b,c,x,y]=>(geN 1 a&&(geN 1 b&&geN 1 c))&&(geN 0 x&&geN 0 y)
 |_=>false
def qoZ {L B n:Nat} {k:PyData} {r:List PyData} (h:∀ d∈r,Th L B n d):ZD [.tuple (k::r)]=some (.bool (skW r)):=by
 rw [qaZ]
 match r,h with
 |[a,b,c,x,y],h=>
  have e:(((0+1+1+1+1+1+1:Nat):Int)=6):=by decide
  have s1:slD (.tuple [k,a,b,c,x,y]) (some 1) (some 4)=some (.tuple [a,b,c]):=EH (by simp [HT.sIx]);have s2:slD (.tuple [k,a,b,c,x,y]) (some 4) none=some (.tuple [x,y]):=EH (by simp [HT.sIx]);have f1:=qaw (e:=1) (ds:=[a,b,c]) (λd hd=>h d (by simp at hd ⊢;rcases hd with rfl|rfl|rfl<;>simp)) (by simp);have f2:=qaw (e:=0) (ds:=[x,y]) (λd hd=>h d (by simp at hd ⊢;rcases hd with rfl|rfl<;>simp)) (by simp)
  try simp only [Pu.pwA,jI,skW,s1,s2,f1,f2,e,List.all_cons,List.all_nil,Bool.and_true,decide_true]
  cases (geN 1 a&&(geN 1 b&&geN 1 c))<;>try simp only [Pu.pwA,Bool.true_and,Bool.false_and]
 |[],_=>try simp only [Pu.pwA,jI,skW];rfl
 |[a],_=>try simp only [Pu.pwA,jI,skW];rfl
 |[a,b],_=>try simp only [Pu.pwA,jI,skW];rfl
 |[a,b,c],_=>try simp only [Pu.pwA,jI,skW];rfl
 |[a,b,c,x],_=>try simp only [Pu.pwA,jI,skW];rfl
 |a::b::c::x::y::z::r,_=>
  have e:¬ (((r.length+1+1+1+1+1+1+1:Nat):Int)=6):=by omega
  try simp only [Pu.pwA,jI,skW,length_cons,e,decide_false]
def rsW (r:List PyData):Bool:=match r with
 |[.int a,.int b,.int c,.int p]=>(decide (1<=a)&&(decide (1<=b)&&(decide (1<=c)&&decide (1<=p))))&&(decide (Nat.gcd c.toNat p.toNat=1)&&decide (a*b<=c*p))
 |_=>false
def qpQ {L B n:Nat} {k:PyData} {r:List PyData} (h:∀ d∈r,Th L B n d) (hB:B<=900000):jX [.tuple (k::r)]=some (.bool (rsW r)):=by
 rw [M7]
 match r,h with
 |[a,b,c,p],h=>
  have e:(((0+1+1+1+1+1:Nat):Int)=5):=by decide
  have s1:slD (.tuple [k,a,b,c,p]) (some 1) none=some (.tuple [a,b,c,p]):=EH (by simp [HT.sIx]);have f1:=qaw (e:=1) (ds:=[a,b,c,p]) h (by simp);by_cases al:[a,b,c,p].all (geN 1)=true
  ·have gi:∀ d,geN 1 d=true->∃ i:Int,d=.int i/\1<=i:=λd hd=>by
    cases d<;>simp [geN] at hd;exact ⟨_,rfl,hd⟩
   have al':=al;simp only [List.all_cons,List.all_nil,Bool.and_true,Bool.and_eq_true] at al';obtain ⟨i1,rfl,g1⟩:=gi a al'.1;obtain ⟨i2,rfl,g2⟩:=gi b al'.2.1;obtain ⟨i3,rfl,g3⟩:=gi c al'.2.2.1;obtain ⟨i4,rfl,g4⟩:=gi p al'.2.2.2;have t1:=h (.int i1) (by simp);have t2:=h (.int i2) (by simp);have t3:=h (.int i3) (by simp);have t4:=h (.int i4) (by simp);rw [qd8] at t1 t2 t3 t4;have sd:=qo4 (a:=i3.toNat) (b:=i4.toNat) (by omega);rw [show ((i3.toNat:Nat):Int)=i3 by omega,show ((i4.toNat:Nat):Int)=i4 by omega] at sd;rw [al] at f1
   try simp (disch:=omega) only [Pu.pwA,jd,rsW,s1,f1,e,sd,g1,g2,g3,g4,MS,decide_true,Bool.not_true,Bool.true_and]
   cases decide (Nat.gcd i3.toNat i4.toNat=1)<;>try simp only [Pu.pwA,Bool.true_and,Bool.false_and]
  ·have al2:[a,b,c,p].all (geN 1)=false:=by simpa using al
   rw [al2] at f1;have z:rsW [a,b,c,p]=false:=by
    unfold rsW;split
    ·rename_i e';cases e';simp only [List.all_cons,List.all_nil,geN,Bool.and_true] at al2;rw [al2,Bool.false_and]
    ·rfl
   try simp only [Pu.pwA,jd,z,s1,f1,e,decide_true,Bool.not_true,Bool.not_false]
 |[],_=>try simp only [Pu.pwA,jd,rsW];rfl
 |[a],_=>try simp only [Pu.pwA,jd,rsW];rfl
 |[a,b],_=>try simp only [Pu.pwA,jd,rsW];rfl
 |[a,b,c],_=>try simp only [Pu.pwA,jd,rsW];rfl
 |a::b::c::x::y::r,_=>
  have e:¬ (((r.length+1+1+1+1+1+1:Nat):Int)=5):=by omega
  try simp only [Pu.pwA,jd,rsW,length_cons,e,decide_false,Bool.not_false]
def MJ {h:PyData->Option (Option PyData)} {k:PyData->PyData} {ds:List PyData} (hh:∀ d∈ds,h d=some (some (k d))):lcP h ds=some (ds.map k):=by
 have:=U7 (g:=id) (k:=k) (xs:=ds) hh;rw [List.map_id] at this;exact this
def ltN (m:Int):PyData->Bool
 |.int i=>decide (i<m)
 |_=>false
def qjr {m:Int} {d:PyData} (h:geN m d=true):∃ i:Int,d=.int i/\m<=i:=by
 cases d<;>simp [geN] at h;exact ⟨_,rfl,h⟩
def qdo (wide banks:Int):PyData->Bool
 |.tuple ds=>decide ((ds.length:Int)=wide)&&(ds.all (geN 0)&&ds.all (ltN banks))
 |_=>false
def qpw {L B n:Nat} {d:PyData} {wide banks:Int} (h:Th L B (n+1) d) (hL:L<=1000):zF [d,.int wide,.int banks]=some (.bool (qdo wide banks d)):=by
 rw [RB];cases d with
 |dict _=>exact h.elim
 |tuple ds=>
  obtain ⟨hl,ha⟩:=h;have f:=qaw (e:=0) ha (by omega);by_cases e:(ds.length:Int)=wide
  ·by_cases g:ds.all (geN 0)=true
   ·rw [g] at f
    try simp only [Pu.pwA,zY,qdo,c6,e,f,g,decide_true,Bool.not_true,Bool.true_and]
    rw [YN (ds:=ds) (fs:=(ds.map (ltN banks)).map PyData.bool)]
    ·try simp only [Pu.pwA,XW,List.all_map]
     rfl
    ·try simp only [Pu.pwA]
    ·rw [map_map];refine MJ λd hd=>?_;obtain ⟨i,rfl,_⟩:=qjr (List.all_eq_true.mp g d hd)
     try simp only [Pu.pwA,C8,ltN,Function.comp_def]
    ·simp;omega
   ·have g':ds.all (geN 0)=false:=by simpa using g
    rw [g'] at f
    try simp only [Pu.pwA,zY,qdo,c6,e,f,g',decide_true,Bool.not_true,Bool.not_false,Bool.true_and,Bool.false_and]
  ·try simp only [Pu.pwA,zY,qdo,c6,e,decide_false,Bool.not_true,Bool.not_false,Bool.false_and]
 |_=>try simp only [Pu.pwA,zY,qdo,c1,c2,cq3,c4,c5,Bool.not_false]
def tbW (r:List PyData):Bool:=match r with
 |[.int b,.tuple (.tuple (x::xs)::rs)]=>decide (1<=b)&&(PyData.tuple (x::xs)::rs).all (qdo ((x::xs).length:Int) b)
 |_=>false
def qp9 {L B n:Nat} {k:PyData} {r:List PyData} (h:∀ d∈r,Th L B (n+2) d) (hL:L<=1000):jY [.tuple (k::r)]=some (.bool (tbW r)):=by
 rw [MT]
 match r,h with
 |[b,cs],h=>
  have e:(((0+1+1+1:Nat):Int)=3):=by decide
  have s1:slD (.tuple [k,b,cs]) (some 1) none=some (.tuple [b,cs]):=EH (by simp [HT.sIx]);have f1:=qjp (e:=1) (h b (by simp));by_cases g:geN 1 b=true
  ·obtain ⟨i,rfl,gi⟩:=qjr g;rw [g] at f1;have hc:=h cs (by simp);cases cs with
   |dict _=>exact hc.elim
   |tuple rs=>
    obtain ⟨hl,ha⟩:=hc;cases rs with
    |nil=>try simp only [Pu.pwA,zD,tbW,s1,f1,e,c6,decide_true,Bool.not_true,length_nil,Int.natCast_zero]
    |cons d rs=>
     have l0:¬ (((rs.length+1:Nat):Int)=0):=by omega
     have hd:=ha d (by simp);cases d with
     |dict _=>exact hd.elim
     |tuple xs=>
      cases xs with
      |nil=>try simp only [Pu.pwA,zD,tbW,s1,f1,e,c6,l0,decide_true,decide_false,Bool.not_true,length_cons,length_nil,Int.natCast_zero]
      |cons x xs=>
       have l1:¬ (((xs.length+1:Nat):Int)=0):=by omega
       try simp only [Pu.pwA,zD,tbW,s1,f1,e,c6,l0,l1,gi,decide_true,decide_false,Bool.not_true,length_cons,Bool.true_and]
       rw [YN (ds:=PyData.tuple (x::xs)::rs) (fs:=((PyData.tuple (x::xs)::rs).map (qdo ((xs.length+1:Nat):Int) i)).map PyData.bool)]
       ·try simp only [Pu.pwA,XW]
        rw [List.all_map];rfl
       ·try simp only [Pu.pwA]
       ·rw [map_map];refine MJ λd hd=>?_
        try simp only [Pu.pwA,C8,qpw (ha d hd) hL,length_cons,Function.comp_def]
       ·simp at hl ⊢;omega
     |_=>try simp only [Pu.pwA,zD,tbW,s1,f1,e,c6,c1,c2,cq3,c4,c5,l0,decide_true,decide_false,Bool.not_true,Bool.not_false,length_cons]
   |_=>try simp only [Pu.pwA,zD,tbW,s1,f1,e,c1,c2,cq3,c4,c5,decide_true,Bool.not_true,Bool.not_false]
  ·have g':geN 1 b=false:=by simpa using g
   rw [g'] at f1;have z:tbW [b,cs]=false:=by
    unfold tbW;split
    ·rename_i b' x xs rs e';cases e';simp only [geN] at g';rw [g',Bool.false_and]
    ·rfl
   try simp only [Pu.pwA,zD,z,f1,e,decide_true,Bool.not_true,Bool.not_false]
 |[],_=>try simp only [Pu.pwA,zD,tbW];rfl
 |[a],_=>try simp only [Pu.pwA,zD,tbW];rfl
 |a::b::c::r,_=>
  have e:¬ (((r.length+1+1+1+1:Nat):Int)=3):=by omega
  try simp only [Pu.pwA,zD,tbW,length_cons,e,decide_false,Bool.not_false]
def biN (w:Int):PyData->Bool
 |.int i=>decide (((Builtin.Int.intBits i:Nat):Int)<=w)
 |_=>false
def btW (r:List PyData):Bool:=match r with
 |[.int a,.int b,.tuple ms]=>(decide (0<=a)&&decide (0<=b))&&(ms.all (geN 0)&&ms.all (biN (a+b)))
 |_=>false
def qpk {L B n:Nat} {k:PyData} {r:List PyData} (h:∀ d∈r,Th L B (n+1) d) (hL:L<=1000):ZK [.tuple (k::r)]=some (.bool (btW r)):=by
 rw [qa5]
 match r,h with
 |[a,b,c],h=>
  have e:(((0+1+1+1+1:Nat):Int)=4):=by decide
  have s1:slD (.tuple [k,a,b,c]) (some 1) (some 3)=some (.tuple [a,b]):=EH (by simp [HT.sIx]);have s2:slD (.tuple [k,a,b,c]) (some 1) none=some (.tuple [a,b,c]):=EH (by simp [HT.sIx]);have f1:=qaw (e:=0) (ds:=[a,b]) (λd hd=>h d (by simp at hd ⊢;rcases hd with rfl|rfl<;>simp)) (by simp);by_cases al:[a,b].all (geN 0)=true
  ·have al':=al;simp only [List.all_cons,List.all_nil,Bool.and_true,Bool.and_eq_true] at al';obtain ⟨i1,rfl,g1⟩:=qjr al'.1;obtain ⟨i2,rfl,g2⟩:=qjr al'.2;rw [al] at f1;have hc:=h c (by simp);cases c with
   |dict _=>exact hc.elim
   |tuple ms=>
    obtain ⟨hl,ha⟩:=hc;have f2:=qaw (e:=0) ha (by omega);by_cases g:ms.all (geN 0)=true
    ·rw [g] at f2
     try simp only [Pu.pwA,jt,btW,s1,s2,f1,f2,e,g,g1,g2,c6,decide_true,Bool.not_true,Bool.true_and]
     rw [YN (ds:=ms) (fs:=(ms.map (biN (i1+i2))).map PyData.bool)]
     ·try simp only [Pu.pwA,XW,List.all_map]
      rfl
     ·try simp only [Pu.pwA]
     ·rw [map_map];refine MJ λd hd=>?_;obtain ⟨i,rfl,_⟩:=qjr (List.all_eq_true.mp g d hd)
      try simp only [Pu.pwA,C8,biN,Function.comp_def]
     ·simp;omega
    ·have g':ms.all (geN 0)=false:=by simpa using g
     rw [g'] at f2
     try simp only [Pu.pwA,jt,btW,s1,s2,f1,f2,e,g',g1,g2,c6,decide_true,Bool.not_true,Bool.not_false,Bool.true_and,Bool.false_and]
   |_=>try simp only [Pu.pwA,jt,btW,s1,s2,f1,e,c1,c2,cq3,c4,c5,decide_true,Bool.not_true,Bool.not_false]
  ·have al2:[a,b].all (geN 0)=false:=by simpa using al
   rw [al2] at f1;have z:btW [a,b,c]=false:=by
    unfold btW;split
    ·rename_i a' b' ms e';cases e';simp only [List.all_cons,List.all_nil,geN,Bool.and_true] at al2;rw [al2,Bool.false_and]
    ·rfl
   try simp only [Pu.pwA,jt,z,s1,f1,e,decide_true,Bool.not_true,Bool.not_false]
 |[],_=>try simp only [Pu.pwA,jt,btW];rfl
 |[a],_=>try simp only [Pu.pwA,jt,btW];rfl
 |[a,b],_=>try simp only [Pu.pwA,jt,btW];rfl
 |a::b::c::x::r,_=>
  have e:¬ (((r.length+1+1+1+1+1:Nat):Int)=4):=by omega
  try simp only [Pu.pwA,jt,btW,length_cons,e,decide_false,Bool.not_false]
def jnW (f:PyData->Bool) (r:List PyData):Bool:=match r with
 |[a,b]=>f a&&f b
 |_=>false
def isD:Nat->PyData->Bool
 |0,_=>false
 |j+1,.tuple (.str s::r)=>if s=Str.ofString "skew" then skW r else if s=Str.ofString "rests" then rsW r else if s=Str.ofString "bits" then btW r else if s=Str.ofString "table" then tbW r else if s=Str.ofString "joined" then jnW (isD j) r else false
 |_+1,_=>false
def qpW {j:Nat} {k:PyData} {r:List PyData} {G:List PyData->Option PyData} (g:∀ d∈r,G [d]=some (.bool (isD j d))):QT G [.tuple (k::r)]=some (.bool (jnW (isD j) r)):=by
 rw [K2]
 match r,g with
 |[a,b],g=>
  have e:(((0+1+1+1:Nat):Int)=3):=by decide
  have e1:=g a (by simp);have e2:=g b (by simp)
  try simp only [Pu.pwA,jW,jnW,e,e1,e2,decide_true]
  cases isD j a<;>try simp only [Pu.pwA,Bool.true_and,Bool.false_and]
 |[],_=>try simp only [Pu.pwA,jW,jnW];rfl
 |[a],_=>try simp only [Pu.pwA,jW,jnW];rfl
 |a::b::c::r,_=>
  have e:¬ (((r.length+1+1+1+1:Nat):Int)=3):=by omega
  try simp only [Pu.pwA,jW,jnW,length_cons,e,decide_false]
def qq8 {s:Str}:qec .none (.str s)=some (.bool false):=id rfl
def qrg {b:Bool} {s:Str}:qec (.bool b) (.str s)=some (.bool false):=id rfl
def qrY {i:Int} {s:Str}:qec (.int i) (.str s)=some (.bool false):=id rfl
def qiN {x s:Str}:qec (.str x) (.str s)=some (.bool (decide (x=s))):=by
 rw [qqf,eqS];rfl
def qpN {L B:Nat} (hL:L<=1000) (hB:B<=900000):∀ {j n:Nat} {d:PyData},Th L B n d->n<j->qy j [d]=some (.bool (isD j d)):=by
 intro j;induction j with
 |zero=>intro n d _ h;omega
 |succ j ih=>
  intro n d h hn;rw [SY];cases d with
  |dict _=>cases n<;>exact h.elim
  |tuple ds=>
   cases n with
   |zero=>exact h.elim
   |succ n=>
   obtain ⟨hl,ha⟩:=h;cases ds with
   |nil=>try simp only [Pu.pwA,zc,isD,c6,length_nil,Int.natCast_zero,decide_true,Bool.not_true]
   |cons k r=>
    have l0:¬ (((r.length+1:Nat):Int)=0):=by omega
    have hk:=ha k (by simp);have hr:∀ d∈r,Th L B n d:=λd hd=>ha d (by simp [hd]);have hr2:∀ m,n<=m->∀ d∈r,Th L B m d:=λm hm d hd=>YC (Nat.le_refl _) (Nat.le_refl _) m (hr d hd) hm;cases k with
    |dict _=>cases n<;>exact hk.elim
    |str s=>
     have f1:=qoZ (k:=.str s) hr;have f2:=qpQ (k:=.str s) hr hB;have f3:=qpk (k:=.str s) (n:=n) (hr2 _ (by omega)) hL;have f4:=qp9 (k:=.str s) (n:=n) (hr2 _ (by omega)) hL;have f5:=qpW (k:=.str s) (G:=qy j) (j:=j) (r:=r) (λd hd=>ih (hr d hd) (by omega));by_cases b1:s=Str.ofString "skew"
     ·subst b1
      try simp only [Pu.pwA,zc,isD,c6,l0,EN,qiN,f1,if_true,length_cons,decide_true,decide_false,Bool.not_true]
     by_cases b2:s=Str.ofString "rests"
     ·subst b2
      try simp only [Pu.pwA,zc,isD,c6,l0,EN,qiN,f2,b1,if_true,if_false,length_cons,decide_true,decide_false,Bool.not_true]
     by_cases b3:s=Str.ofString "bits"
     ·subst b3
      try simp only [Pu.pwA,zc,isD,c6,l0,EN,qiN,f3,b1,b2,if_true,if_false,length_cons,decide_true,decide_false,Bool.not_true]
     by_cases b4:s=Str.ofString "table"
     ·subst b4
      try simp only [Pu.pwA,zc,isD,c6,l0,EN,qiN,f4,b1,b2,b3,if_true,if_false,length_cons,decide_true,decide_false,Bool.not_true]
     by_cases b5:s=Str.ofString "joined"
     ·subst b5
      try simp only [Pu.pwA,zc,isD,c6,l0,EN,qiN,f5,b1,b2,b3,b4,if_true,if_false,length_cons,decide_true,decide_false,Bool.not_true]
     ·try simp only [Pu.pwA,zc,isD,c6,l0,EN,qiN,b1,b2,b3,b4,b5,if_true,if_false,length_cons,decide_true,decide_false,Bool.not_true]
    |_=>try simp only [Pu.pwA,zc,isD,c6,l0,EN,qq8,qrg,qrY,qot,qoT,length_cons,decide_true,decide_false,Bool.not_true]
  |_=>try simp only [Pu.pwA,zc,isD,c1,c2,cq3,c4,c5,Bool.not_false]
open Bk (Dl)
def al0 {P:PyData->Prop}:∀ d∈([]:List PyData),P d:=λ_ h=>nomatch h
def alc {P:PyData->Prop} {x:PyData} {r:List PyData} (h:P x) (t:∀ d∈r,P d):∀ d∈x::r,P d:=λd hd=>by
 rcases mem_cons.mp hd with rfl|hd
 ·exact h
 ·exact t d hd
def qij {m:Int} {k:Nat} (h0:0<=m) (h1:m<2 ^ k):((Builtin.Int.intBits m:Nat):Int)<=k:=by
 unfold Builtin.Int.intBits;by_cases z:m=0
 ·subst z;simp
 ·have:(m==0)=false:=by simp [z]
  rw [this,if_neg Bool.false_ne_true];have e:((2 ^ k:Nat):Int)=2 ^ k:=by simp
  have h2:m.natAbs<2 ^ k:=by omega
  have:=(Nat.log2_lt (by omega)).mpr h2;omega
def Wb:Dl->Prop
 |.skew r c b x y=>1<=r/\r<=9999/\1<=c/\c<=9999/\1<=b/\b<=9999/\0<=x/\x<=9999/\0<=y/\y<=9999
 |.rests r c b p=>1<=r/\r<=9999/\1<=c/\c<=9999/\1<=b/\b<=9999/\1<=p/\p<=9999/\Int.gcd b p=1/\r*c<=b*p
 |.bits h l ms=>h+l<=13/\ms.length<=5/\∀ m∈ms,0<=m/\m<2 ^ (h+l)
 |.table b cells=>1<=b/\b<=9999/\1<=cells.length/\cells.length<=60/\∃ c,1<=c/\c<=60/\∀ row∈cells,row.length=c/\∀ x∈row,0<=x/\x<b
 |.joined d e=>Wb d/\Wb e
def qb7:∀ (d:Dl),Wb d->∀ j,d.dep<j->isD j (dlD d)=true
 |.skew r c b x y,ok,j+1,_=>by
  simp only [Wb] at ok;simp only [isD,dlD,if_true,skW,geN,Bool.and_eq_true,decide_eq_true_eq];omega
 |.rests r c b p,ok,j+1,_=>by
  obtain ⟨h1,h2,h3,h4,h5,h6,h7,h8,h9,h10⟩:=ok;have g:Nat.gcd b.toNat p.toNat=1:=by
   rw [← h9];unfold Int.gcd;rw [show b.natAbs=b.toNat by omega,show p.natAbs=p.toNat by omega]
  simp only [isD,dlD,L3.TH,if_true,if_false,rsW,g,h10,h1,h3,h5,h7,decide_true,Bool.and_self]
 |.bits h l ms,ok,j+1,_=>by
  obtain ⟨h1,h3,h4⟩:=ok;have n1:¬ (Str.ofString "bits" = Str.ofString "skew"):=by decide
  have n2:¬ (Str.ofString "bits" = Str.ofString "rests"):=by decide
  have a1:(ms.map PyData.int).all (geN 0)=true:=by
   rw [List.all_map,List.all_eq_true];intro m hm;simp only [Function.comp_def,geN,decide_eq_true_eq];exact (h4 m hm).1
  have a2:(ms.map PyData.int).all (biN ((h:Int)+(l:Int)))=true:=by
   rw [List.all_map,List.all_eq_true];intro m hm;simp only [Function.comp_def,biN,decide_eq_true_eq];have:=qij (k:=h+l) (h4 m hm).1 (h4 m hm).2;omega
  have z1:(0:Int)<=(h:Int):=by omega
  have z2:(0:Int)<=(l:Int):=by omega
  simp only [isD,dlD,n1,n2,if_true,if_false,btW,a1,a2,z1,z2,decide_true,Bool.and_self]
 |.table b cells,ok,j+1,_=>by
  obtain ⟨h1,h2,h3,h4,c,c1,c2,hr⟩:=ok;have n1:¬ (Str.ofString "table" = Str.ofString "skew"):=by decide
  have n2:¬ (Str.ofString "table" = Str.ofString "rests"):=by decide
  have n3:¬ (Str.ofString "table" = Str.ofString "bits"):=by decide
  have rw1:∀ row∈cells,qdo (c:Int) b (W5 row)=true:=λrow hrow=>by
   obtain ⟨l1,hx⟩:=hr row hrow;simp only [qdo,W5,length_map,l1,decide_true,Bool.true_and,Bool.and_eq_true,List.all_map,List.all_eq_true];exact ⟨λx hx'=>by simp only [Function.comp_def,geN,decide_eq_true_eq];exact (hx x hx').1,λx hx'=>by simp only [Function.comp_def,ltN,decide_eq_true_eq];exact (hx x hx').2⟩
  cases cells with
  |nil=>simp at h3
  |cons row rows=>
   obtain ⟨l1,hx⟩:=hr row (by simp);cases row with
   |nil=>simp at l1;omega
   |cons x xs=>
    have al:((W5 (x::xs)::rows.map W5).all (qdo (c:Int) b))=true:=by
     rw [List.all_eq_true];intro d hd;rcases mem_cons.mp hd with rfl|hd
     ·exact rw1 _ (by simp)
     ·obtain ⟨r,hr',rfl⟩:=mem_map.mp hd;exact rw1 r (by simp [hr'])
    have lc:(((xs.length+1:Nat):Int))=(c:Int):=by simp at l1;omega
    simp only [isD,dlD,n1,n2,n3,if_true,if_false,map_cons];show tbW [.int b,.tuple (.tuple (.int x::xs.map PyData.int)::rows.map W5)]=true;simp only [tbW,length_cons,length_map,lc,h1,decide_true,Bool.true_and];exact al
 |.joined d e,ok,j+1,hj=>by
  obtain ⟨o1,o2⟩:=ok;simp only [Dl.dep] at hj;have n1:¬ (Str.ofString "joined" = Str.ofString "skew"):=by decide
  have n2:¬ (Str.ofString "joined" = Str.ofString "rests"):=by decide
  have n3:¬ (Str.ofString "joined" = Str.ofString "bits"):=by decide
  have n4:¬ (Str.ofString "joined" = Str.ofString "table"):=by decide
  simp only [isD,dlD,n1,n2,n3,n4,if_true,if_false,jnW,qb7 d o1 j (by omega),qb7 e o2 j (by omega),Bool.and_self]
 |_,_,0,h=>absurd h (Nat.not_lt_zero _)
def qhC:∀ (d:Dl),Wb d->Th 60 100000 (d.dep+3) (dlD d)
 |.skew r c b x y,ok=>by
  simp only [Wb] at ok;refine YC (n:=1) (Nat.le_refl _) (Nat.le_refl _) _ (qgx (by simp) ?_) (by omega);refine alc (by rw [qiQ];exact ⟨by decide,by decide⟩) (alc ?_ (alc ?_ (alc ?_ (alc ?_ (alc ?_ al0)))))<;>(rw [qd8];omega)
 |.rests r c b p,ok=>by
  simp only [Wb] at ok;refine YC (n:=1) (Nat.le_refl _) (Nat.le_refl _) _ (qgx (by simp) ?_) (by omega);refine alc (by rw [qiQ];exact ⟨by decide,by decide⟩) (alc ?_ (alc ?_ (alc ?_ (alc ?_ al0))))<;>(rw [qd8];omega)
 |.bits h l ms,ok=>by
  obtain ⟨h1,h3,h4⟩:=ok;have pw:(2:Int) ^ (h+l)<=8192:=by
   have:2 ^ (h+l)<=2 ^ 13:=Nat.pow_le_pow_right (by omega) (by omega);have e:((2 ^ (h+l):Nat):Int)=2 ^ (h+l):=by simp
   omega
  refine YC (n:=2) (Nat.le_refl _) (Nat.le_refl _) _ (qgx (by simp) ?_) (by omega);refine alc (by rw [qiQ];exact ⟨by decide,by decide⟩) (alc (by rw [qd8];omega) (alc (by rw [qd8];omega) (alc (qgx (by simp;omega) λd hd=>?_) al0)));obtain ⟨m,hm,rfl⟩:=mem_map.mp hd;have:=h4 m hm;rw [qd8];omega
 |.table b cells,ok=>by
  obtain ⟨h1,h2,h3,h4,c,c1,c2,hr⟩:=ok;refine YC (n:=3) (Nat.le_refl _) (Nat.le_refl _) _ (qgx (by simp) ?_) (by omega);refine alc (by rw [qiQ];exact ⟨by decide,by decide⟩) (alc (by rw [qd8];omega) (alc (qgx (by simp;omega) λd hd=>?_) al0));obtain ⟨row,hrow,rfl⟩:=mem_map.mp hd;obtain ⟨l1,hx⟩:=hr row hrow;refine qgx (by simp;omega) λd hd=>?_;obtain ⟨x,hx',rfl⟩:=mem_map.mp hd;have:=hx x hx';rw [qd8];omega
 |.joined d e,ok=>by
  obtain ⟨o1,o2⟩:=ok;have t1:=qhC d o1;have t2:=qhC e o2;simp only [Dl.dep];refine YC (n:=max d.dep e.dep+3+1) (Nat.le_refl _) (Nat.le_refl _) _ (qgx (by simp) ?_) (by omega);exact alc (by rw [qiQ];exact ⟨by decide,by decide⟩) (alc (YC (Nat.le_refl _) (Nat.le_refl _) _ t1 (by omega)) (alc (YC (Nat.le_refl _) (Nat.le_refl _) _ t2 (by omega)) al0))
def qbX {i:Int}:32∉ls (num i):=NV (by decide)
def qlI:∀ {b:Bool} {t:List (List Int)},∀ w∈rws b t,32∉ls w
 |_,[],w,hw=>by cases hw
 |b,r::t,w,hw=>by
  simp only [rws,mem_cons,List.mem_append,mem_map] at hw;rcases hw with rfl|⟨i,_,rfl⟩|hw
  ·cases b<;>decide
  ·exact qbX
  ·exact qlI w hw
def qib:∀ (d:Dl),∀ w∈wds d,32∉ls w
 |.skew r c b x y,w,hw=>by
  simp only [wds,mem_cons,not_mem_nil,or_false] at hw;rcases hw with rfl|rfl|rfl|rfl|rfl|rfl
  ·decide
  all_goals exact qbX
 |.rests r c b p,w,hw=>by
  simp only [wds,mem_cons,not_mem_nil,or_false] at hw;rcases hw with rfl|rfl|rfl|rfl|rfl
  ·decide
  all_goals exact qbX
 |.bits h l ms,w,hw=>by
  simp only [wds,mem_cons,mem_map] at hw;rcases hw with rfl|rfl|rfl|⟨i,_,rfl⟩
  ·decide
  all_goals exact qbX
 |.table b cells,w,hw=>by
  simp only [wds,mem_cons] at hw;rcases hw with rfl|rfl|hw
  ·decide
  ·exact qbX
  ·exact qlI w hw
 |.joined d e,w,hw=>by
  simp only [wds,mem_cons,List.mem_append,not_mem_nil,or_false] at hw;rcases hw with rfl|rfl|hw|rfl|rfl|hw|rfl
  ·decide
  ·decide
  ·exact qib d w hw
  ·decide
  ·decide
  ·exact qib e w hw
  ·decide
def qre {d:Dl} (g:Gn d) (hd:d.dep<30) (hl:(wds d).length<16384) (is:qy 30 [dlD d]=some (.bool true)):zT [.str (txt d)]=some (dlD d):=by
 have sp:=qrh (ws:=wds d) qbI (qib d);have tl:=qp1 g (by omega);have so:LD (.str (txt d)) [.str " "]=some (sD (wds d)):=by
  rw [qey (by decide) (by rw [sizeLine_eq];omega)];unfold txt;rw [sp]
 have rd:=qok d 30 g hd hl;have as:∀ ρ:Rho,dm [true] ρ=ρ->MG [true] false 1 (dlD d) ρ=ρ.set 1 (.sh (dlD d)):=λρ h=>by
  unfold MG;rw [h];split<;>rfl
 rw [TF]
 try simp only [Pu.pwA,YA,qeD,so,rd,is,Bool.not_true]
end K77
namespace K77
open PySem L2 L3 Pu Pv
open Bk (Dl UY)
def qae (n:Nat) {xs:List Int}:∀ d∈xs.map PyData.int,UY n d:=λd hd=>by
 obtain ⟨i,_,rfl⟩:=mem_map.mp hd;cases n<;>trivial
def LQ:∀ {n m:Nat} {d:PyData},UY n d->n<=m->UY m d
 |0,m,d,h,_=>by
  cases d<;>first|(cases m<;>trivial)|exact h.elim
 |n+1,0,d,_,hm=>by omega
 |n+1,m+1,.list ds,h,hm=>⟨h.1,λx hx=>LQ (h.2 x hx) (by omega)⟩
 |n+1,m+1,.tuple ds,h,hm=>⟨h.1,λx hx=>LQ (h.2 x hx) (by omega)⟩
 |n+1,m+1,.none,_,_=>trivial
 |n+1,m+1,.bool _,_,_=>trivial
 |n+1,m+1,.int _,_,_=>trivial
 |n+1,m+1,.str _,_,_=>trivial
def qbO:∀ (d:Dl),Gn d->UY (d.dep+3) (dlD d)
 |.skew r c b x y,_=>⟨by simp,λz hz=>by
  simp only [mem_cons,not_mem_nil,or_false] at hz;rcases hz with rfl|rfl|rfl|rfl|rfl|rfl<;>trivial⟩
 |.rests r c b p,_=>⟨by simp,λz hz=>by
  simp only [mem_cons,not_mem_nil,or_false] at hz;rcases hz with rfl|rfl|rfl|rfl|rfl<;>trivial⟩
 |.bits h l ms,g=>⟨by simp,λz hz=>by
  simp only [mem_cons,not_mem_nil,or_false] at hz;rcases hz with rfl|rfl|rfl|rfl
  ·trivial
  ·trivial
  ·trivial
  ·exact ⟨by have:=g.2.2.1;simp;omega,qae _⟩⟩
 |.table b cells,g=>⟨by simp,λz hz=>by
  simp only [mem_cons,not_mem_nil,or_false] at hz;rcases hz with rfl|rfl|rfl
  ·trivial
  ·trivial
  ·refine ⟨by have:=g.2.2.1;simp;omega,λz hz=>?_⟩;obtain ⟨r,hr,rfl⟩:=mem_map.mp hz;exact ⟨by have:=(g.2.2.2 r hr).1.2;simp;omega,qae _⟩⟩
 |.joined d e,g=>⟨by simp,λz hz=>by
  have h1:=LQ (qbO d g.1) (m:=(Dl.joined d e).dep+2) (by simp only [Dl.dep];omega);have h2:=LQ (qbO e g.2) (m:=(Dl.joined d e).dep+2) (by simp only [Dl.dep];omega);simp only [mem_cons,not_mem_nil,or_false] at hz;rcases hz with rfl|rfl|rfl
  ·trivial
  ·exact h1
  ·exact h2⟩
end K77
namespace K77
open PySem L2 L3 Pu Pv
open Bk (Dl)
def wl:∀ (d:Dl),d.Ok->(wds d).length+5<=3667*2 ^ d.dep
 |.skew r c b x y,_=>by simp [wds,Dl.dep]
 |.rests r c b p,_=>by simp [wds,Dl.dep]
 |.bits h l ms,ok=>by have:=ok.2.2.1;simp [wds,Dl.dep];omega
 |.table b cells,ok=>by
  obtain ⟨a1,a2,a3,a4,c,a5,a6,a7⟩:=ok;have:=SN (b:=true) (t:=cells) (n:=60) λr hr=>by have:=(a7 r hr).1;omega
  have h3:cells.length*(60+1)<=60*61:=Nat.mul_le_mul a4 (by omega);simp [wds,Dl.dep];omega
 |.joined d e,ok=>by
  have h1:=wl d ok.1;have h2:=wl e ok.2.1;have p1:2 ^ d.dep<=2 ^ max d.dep e.dep:=Nat.pow_le_pow_right (by decide) (Nat.le_max_left ..);have p2:2 ^ e.dep<=2 ^ max d.dep e.dep:=Nat.pow_le_pow_right (by decide) (Nat.le_max_right ..);simp only [wds,Dl.dep,length_cons,length_append,length_nil,Nat.pow_succ];omega
def wl2 {d:Dl} (ok:d.Ok) (hd:d.dep<=2):(wds d).length<16384:=by
 have:=wl d ok;have:2 ^ d.dep<=2 ^ 2:=Nat.pow_le_pow_right (by decide) hd;omega
def qhf:∀ (d:Dl),d.Ok->Wb d
 |.skew r c b x y,ok=>by simp only [Dl.Ok] at ok;simp only [Wb];omega
 |.rests r c b p,ok=>by
  obtain ⟨a1,a2,a3,a4,a5,a6,a7,a8,a9,a0⟩:=ok;exact ⟨a1,by omega,a3,by omega,a5,by omega,a7,a8,a9,a0⟩
 |.bits h l ms,ok=>⟨by have:=ok.1;have:=ok.2.1;omega,ok.2.2⟩
 |.table b cells,ok=>by
  obtain ⟨a1,a2,a3,a4,a5⟩:=ok;exact ⟨a1,by omega,a3,a4,a5⟩
 |.joined d e,ok=>⟨qhf d ok.1,qhf e ok.2.1⟩
def qh6:∀ (d:Dl),Wb d->Gn d
 |.skew r c b x y,ok=>by
  obtain ⟨a1,a2,a3,a4,a5,a6,a7,a8,a9,a0⟩:=ok;exact ⟨⟨by omega,by omega⟩,⟨by omega,by omega⟩,⟨by omega,by omega⟩,⟨by omega,by omega⟩,⟨by omega,by omega⟩⟩
 |.rests r c b p,ok=>by
  obtain ⟨a1,a2,a3,a4,a5,a6,a7,a8,a9,a0⟩:=ok;exact ⟨⟨by omega,by omega⟩,⟨by omega,by omega⟩,⟨by omega,by omega⟩,⟨by omega,by omega⟩⟩
 |.bits h l ms,ok=>by
  obtain ⟨a1,a3,a4⟩:=ok;have q:(2:Int) ^ (h+l)<=2 ^ 13:=Bk.RG (by omega);have e:(2:Int) ^ 13=8192:=by decide
  exact ⟨⟨by omega,by omega⟩,⟨by omega,by omega⟩,by omega,λm hm=>by have:=a4 m hm;exact ⟨by omega,by omega⟩⟩
 |.table b cells,ok=>by
  obtain ⟨a1,a2,a3,a4,c,a5,a6,a7⟩:=ok;exact ⟨⟨by omega,by omega⟩,a3,by omega,λr hr=>⟨by have:=(a7 r hr).1;omega,λi hi=>by have:=(a7 r hr).2 i hi;exact ⟨by omega,by omega⟩⟩⟩
 |.joined d e,ok=>⟨qh6 d ok.1,qh6 e ok.2⟩
def Fit (d:Dl):Prop:=Wb d/\d.dep<=26/\(wds d).length<16384
def qiU {d:Dl} (ok:d.Ok) (hd:d.dep<=2):Fit d:=⟨qhf d ok,by omega,wl2 ok hd⟩
def K3 {i j:Int}:T0 (.int i) (.int j)=some (.int (i+j)):=id rfl
def dpd:Dl:=.joined (.joined (.skew 1 2 2 0 1) (.skew 2 1 2 1 0)) (.table 1 [[0]])
def lk:Dl:=.skew 1 1 1 0 0
def qjY:Wb lk:=by simp [lk,Wb]
def qmz:Wb (.table 1 [[0]]):=⟨by omega,by omega,by simp,by simp,1,by omega,by omega,by simp⟩
def Chn (n:Nat) (d:Dl):Prop:=Wb d/\d.dep<=n/\(wds d).length<=12*n+5
def qr2:Chn 0 (.table 1 [[0]]):=⟨qmz,by decide,by decide⟩
def qrs {n:Nat} {d:Dl} (h:Chn n d):Chn (n+1) (.joined d lk):=by
 obtain ⟨a,b,c⟩:=h;refine ⟨⟨a,qjY⟩,?_,?_⟩
 ·simp only [Dl.dep,lk];omega
 ·simp only [wds,lk,length_cons,length_append,length_nil];omega
def qr1 {n:Nat} {d:Dl} (h:Chn n d):Chn (n+1) (.joined lk d):=by
 obtain ⟨a,b,c⟩:=h;refine ⟨⟨qjY,a⟩,?_,?_⟩
 ·simp only [Dl.dep,lk];omega
 ·simp only [wds,lk,length_cons,length_append,length_nil];omega
def qrx {n:Nat} {d:Dl} (h:Chn n d) (hn:n<=26):Fit d:=⟨h.1,by have:=h.2.1;omega,by have:=h.2.2;omega⟩
def qof {a b c:Int} (ha:0<=a/\a<9) (hb:0<=b/\b<9) (hc:0<=c/\c<9):Fit (.skew (17+a) 17 (33+b) (100+c) 9990):=by
 refine ⟨?_,by simp [Dl.dep],by simp [wds]⟩;simp only [Wb];omega
def g41:∀ b:Nat,b<9->Nat.gcd 41 (100+b)=1:=by decide
def qoW {a b:Int} (ha:0<=a/\a<9) (hb:0<=b/\b<9):Fit (.rests 40 (17+a) 41 (100+b)):=by
 refine ⟨⟨by omega,by omega,by omega,by omega,by omega,by omega,by omega,by omega,?_,by omega⟩,by simp [Dl.dep],by simp [wds]⟩;have:=g41 b.toNat (by omega);unfold Int.gcd;rw [show (100+b).natAbs=100+b.toNat by omega];exact this
def qoo {a b:Int} (ha:0<=a/\a<9) (hb:0<=b/\b<9):Fit (.bits 5 6 [1024+a,2047-b]):=by
 refine ⟨⟨by omega,by simp,?_⟩,by simp [Dl.dep],by simp [wds]⟩;intro m hm;have e:(2:Int) ^ (5+6)=2048:=by decide
 rw [e];simp only [mem_cons,not_mem_nil,or_false] at hm;rcases hm with rfl|rfl<;>omega
def qqd {a:Int} (ha:0<=a/\a<9):Fit (.table 33 (List.replicate 17 [32-a])):=by
 refine ⟨⟨by omega,by omega,by simp,by simp,1,by omega,by omega,?_⟩,by simp [Dl.dep],?_⟩
 ·intro row hr;rw [List.eq_of_mem_replicate hr];exact ⟨rfl,λx hx=>by rw [List.mem_singleton.mp hx];omega⟩
 ·have:=SN (b:=true) (t:=List.replicate 17 [32-a]) (n:=1) λr hr=>by rw [List.eq_of_mem_replicate hr];simp
  simp only [List.length_replicate] at this;simp only [wds,length_cons];omega
def qgD:Wb dpd:=⟨⟨by simp [Wb],by simp [Wb]⟩,qmz⟩
def qoA:Fit (.joined dpd (.bits 1 0 [1])):=⟨⟨qgD,by simp [Wb]⟩,by decide,by decide⟩
def qpZ:Fit (.joined (.rests 1 1 33 1) dpd):=⟨⟨by simp [Wb],qgD⟩,by decide,by decide⟩
def qo3 {n:Nat} {Q:QD} (hn:n<90000) (h:∀ (ds:List Dl) (m:Nat),(∀ d∈ds,Fit d)->ds.length=7->m<=n+10->Q (.list (ds.map dlD)) m):jZ.W [] n Q:=by
 rw [TY];refine ⟨rfl,?_⟩;unfold J0;refine EF λY1 h1=>?_
 try simp (disch:=omega) only [Pu.pwA,qnN]
 refine ⟨by simp [RJ],?_⟩;refine NM (R:=λi:Int=>0<=i/\i<9) (gd:=PyData.int) (c:=1) (N:=n+10) (RJ 0 (4:Int).toNat) _ _ (λx _ n' Q' hn' h'=>?_) JC.mn mnT (by simp [RJ]) λbs lb hb=>?_
 ·unfold JC
  try simp only [Pu.pwA]
  exact ⟨by omega,by omega,λz z0 z1=>h' z ⟨z0,z1⟩⟩
 obtain ⟨a,b,c,d,rfl⟩:∃ a b c d,bs=[a,b,c,d]:=by
  match bs,lb with
  |[a,b,c,d],_=>exact ⟨a,b,c,d,rfl⟩
 have ha:=hb a (by simp);have hb':=hb b (by simp);have hc:=hb c (by simp);have hd:=hb d (by simp);have hl:(RJ 0 (4:Int).toNat).length=4:=by simp [RJ]
 try simp only [Pu.pwA,map_cons,List.map_nil,hl]
 refine ⟨by decide,?_⟩;rw [h1];refine EF λY2 h2=>?_
 try simp only [Pu.pwA]
 rw [h2];refine EF λY3 h3=>?_
 try simp only [Pu.pwA,zi,zN,K3]
 rw [h3];refine EF λY4 h4=>?_
 try simp only [Pu.pwA,zi,zN,K3]
 rw [h4];refine EF λY5 h5=>?_;have rp:∀ z:PyData,qkE (.list [z]) (.int 17)=some (.list (List.replicate 17 z)):=λz=>qq9 (by omega);simp (disch:=simp) only [zi,zN,K3,XY,qhV,rp,Pu.pwA];have e4:PyData.list [PyData.tuple [PyData.str "skew",PyData.int (17+a),PyData.int 17,PyData.int (33+b),PyData.int (100+c),PyData.int 9990],PyData.tuple [PyData.str "rests",PyData.int 40,PyData.int (17+a),PyData.int 41,PyData.int (100+b)],PyData.tuple [PyData.str "bits",PyData.int 5,PyData.int 6,PyData.tuple [PyData.int (1024+c),PyData.int (2047-d)]],PyData.tuple [PyData.str "table",PyData.int 33,PyData.tuple (List.replicate 17 (PyData.tuple [PyData.int (32-a)]))]]=.list ([Dl.skew (17+a) 17 (33+b) (100+c) 9990,.rests 40 (17+a) 41 (100+b),.bits 5 6 [1024+c,2047-d],.table 33 (List.replicate 17 [32-a])].map dlD):=by
  simp only [map_cons,List.map_nil,dlD,W5,List.map_replicate];rfl
 have f4:∀ x∈[Dl.skew (17+a) 17 (33+b) (100+c) 9990,.rests 40 (17+a) 41 (100+b),.bits 5 6 [1024+c,2047-d],.table 33 (List.replicate 17 [32-a])],Fit x:=by
  intro x hx;simp only [mem_cons,not_mem_nil,or_false] at hx;rcases hx with rfl|rfl|rfl|rfl
  ·exact qof ha hb' hc
  ·exact qoW ha hb'
  ·exact qoo hc hd
  ·exact qqd ha
 have l4:[Dl.skew (17+a) 17 (33+b) (100+c) 9990,.rests 40 (17+a) 41 (100+b),.bits 5 6 [1024+c,2047-d],.table 33 (List.replicate 17 [32-a])].length=4:=rfl;rw [e4];generalize [Dl.skew (17+a) 17 (33+b) (100+c) 9990,.rests 40 (17+a) 41 (100+b),.bits 5 6 [1024+c,2047-d],.table 33 (List.replicate 17 [32-a])]=d4 at f4 l4;generalize Sl.sh (PyData.tuple [PyData.str "skew",PyData.int (17+a),PyData.int 17,PyData.int (33+b),PyData.int (100+c),PyData.int 9990])=s3;rw [h5];refine EF λY6 h6=>?_
 try simp only [Pu.pwA]
 rw [h6];refine EF λY7 h7=>?_
 try simp (disch:=omega) only [Pu.pwA,zi,zN,K3,MS,qnN]
 refine T5 (RJ 0 (10+2*a).toNat) JM.mn (λi ρ m=>m=n+4/\∃ x s6 s7,Chn i x/\ρ=[.un,.sh (.list [.int a,.int b,.int c,.int d]),.sh (dlD dpd),s3,.sh (.list (d4.map dlD)),.sh (dlD x),s6,s7]) ⟨rfl,.table 1 [[0]],_,_,qr2,rfl⟩ ?_ ?_
 ·rintro i t ρ m ht ⟨hm,x,s6,s7,hx,rfl⟩;obtain ⟨hi1,hi2⟩:=NW ht;refine ⟨_,rfl,?_⟩;unfold JM;have md:(t*b+c)/3%2=0\/(t*b+c)/3%2=1:=by omega
  have tb:0<=t*b/\t*b<=1000:=by
   have h1:=Int.mul_nonneg (a:=t) (b:=b) (by omega) (by omega);have h2:t*b<=100*9:=Int.mul_le_mul (by omega) (by omega) (by omega) (by omega);omega
  try simp (disch:=omega) only [Pu.pwA,zi,zN,K3,MS,qlp,qfo]
  rcases md with e|e<;>rw [e]<;>try simp only [Pu.pwA]
  ·exact ⟨hm,.joined x lk,_,_,qrs hx,rfl⟩
  ·exact ⟨hm,.joined lk x,_,_,qr1 hx,rfl⟩
 ·rintro ρ m ⟨hm,x,s6,s7,hx,rfl⟩
  try simp only [Pu.pwA]
  rw [h7];simp (disch:=simp [l4]) only [zi,zN,XY,Pu.pwA];refine ⟨m,Nat.le_refl _,?_⟩;have:=h (d4++[x,.joined dpd (.bits 1 0 [1]),.joined (.rests 1 1 33 1) dpd]) m (λy hy=>?_) (by simp [l4]) (by omega)
  ·rw [List.map_append] at this;exact this
  ·rcases List.mem_append.mp hy with hy|hy
   ·exact f4 y hy
   ·simp only [mem_cons,not_mem_nil,or_false] at hy;rw [qai] at hx;rcases hy with rfl|rfl|rfl
    ·exact qrx hx (by omega)
    ·exact qoA
    ·exact qpZ
end K77
namespace K77
open PySem L2 L3 Pu Pv
open Bk (Dl UY)
def qq3 {x:Str}:eqD true (.str x) (.str x)=some (.bool false):=by
 try simp only [Pu.pwA]
def qmM:∀ k:Nat,k<=60->qeu.w [.un,.sh (.int k),.un,.un,.un,.un,.un] 0 okW:=by
 intro k hk;unfold qeu
 try simp only [Pu.pwA,zi,zN]
 refine qow (by omega) λd m ok dp hm=>?_
 try simp only [Pu.pwA]
 refine qo3 (by omega) λds m2 fd ld hm2=>?_;have cl:T0 (.list [dlD d]) (.list (ds.map dlD))=some (.list ((d::ds).map dlD)):=XY (by simp;omega);have fa:∀ x∈d::ds,Fit x:=λx hx=>by
  rcases mem_cons.mp hx with rfl|hx
  ·exact qiU ok dp
  ·exact fd x hx
 generalize d::ds=xs at cl fa;refine ⟨_,cl,_,rfl,?_⟩;refine T5 (f:=dlD) xs T1.mn (λ_ ρ n=>∃ s3 s4 s5 s6,ρ=[.un,.sh (.int k),.un,s3,s4,s5,s6]) ⟨_,_,_,_,rfl⟩ ?_ ?_
 ·rintro j d ρ n hd ⟨s3,s4,s5,s6,rfl⟩;obtain ⟨wb,dl,hl⟩:=fa d (mem_of_getElem? hd);have g:=qh6 d wb;have is:qy 30 [dlD d]=some (.bool true):=by
   rw [qpN (j:=30) (by decide) (by decide) (qhC d wb) (by omega),qb7 d wb 30 (by omega)]
  have wd:=qp0 d 30 g (by omega) (by omega);have tx:=qpJ d 30 g (by omega) (by omega);have dn:=qre g (by omega) hl is;have jo:qaI (.str " ") [sD (wds d)]=some (.str (txt d)):=M8 (jb (n:=12) (m:=100000) (sep:=" ") (qd7 d g) (by omega) (by decide) (by decide)).1;refine ⟨_,rfl,?_⟩;unfold T1;refine EF λY4 h4=>?_
  try simp only [Pu.pwA,wd,jo,NN,qew]
  rw [h4]
  try simp (disch:=omega) only [Pu.pwA,qnN]
  refine T5 (RJ 0 (2:Int).toNat) KC.mn (λ_ ρ n'=>∃ s5 s6,ρ=[.un,.sh (.int k),.un,.sh (dlD d),.sh (.str (txt d)),s5,s6]) ⟨_,_,rfl⟩ ?_ ?_
  ·rintro t x ρ n' hx ⟨s9,s10,rfl⟩;refine ⟨_,rfl,?_⟩;unfold KC;refine EF λY5 h5=>?_
   try simp only [Pu.pwA,dn]
   rw [h5];have sm:=qh1 (n:=31) (LQ (qbO d g) (by omega))
   try simp only [Pu.pwA,sm,is,tx,qq3,Bool.not_true]
   exact ⟨false,rfl,_,_,rfl⟩
  ·rintro ρ n' ⟨s9,s10,rfl⟩;exact ⟨_,_,_,_,rfl⟩
 ·rintro ρ n ⟨s3,s4,s5,s6,rfl⟩
  try simp only [Pu.pwA]
end K77
namespace K77
open PySem L2 L3 Bk
abbrev qnb : Env := { scope := PySem.Challenge.pw_bankwalk_k77_dealings_read.main.scope,locals := mainNs,globals := mainNs,cells := [],code := .ref 13,frame := some 14 }
abbrev qbe : List Stmt := PySem.W.behindTheImports PySem.Challenge.pw_bankwalk_k77_dealings_read
abbrev T8:Code:=.body qbe qnb
abbrev qlY:List Frame:=[PySem.W.topFrame ⟨0,0,0,0⟩]
def zz:Obj:=Hd.oT []
def QL:Obj:=⟨.none,none,.fields #[],#[]⟩
def qnX:Obj:=Hd.oC [.str "<module>" 182,.str "<module>" 183,.str "/claim/cut.py" 184,.int (1) 0,.int (0) 0,.int (0) 0,.int (0) 0,.int (0) 0,.ref 11,.bool false,.int (181) 0,.ref 12,.none,.none,.none,.none,.int (185) 0,.int (1) 0,.str "/claim/cut.py" 186]
def qnZ:Obj:=⟨.type "frame",none,.plain,#[some (.ref 13),some (.ref 3),some (.ref 3),none,some (.str "__main__" 164),none,some (.ref 0)]⟩
def qi4 (P:Params):Heap:=⟨Array.mk [PySem.W.boot_o_0 P,PySem.W.boot_o_1 P,PySem.W.boot_o_2 P,PySem.W.boot_o_3 P,PySem.W.boot_o_4 P,PySem.W.boot_o_5 P,PySem.W.boot_o_6 P,PySem.W.boot_o_7 P,PySem.W.boot_o_8 P,PySem.W.boot_o_9 P,PySem.W.boot_o_10 P,zz,QL,qnX,qnZ],{ }⟩
def qkA (P:Params):PySem.W.BT:=(Hd.nd (PySem.W.boot_o_0 P) (Hd.nd (PySem.W.boot_o_1 P) (Hd.nd (PySem.W.boot_o_3 P) (Hd.lf (PySem.W.boot_o_7 P)) (Hd.lf zz)) (Hd.nd (PySem.W.boot_o_5 P) (Hd.lf (PySem.W.boot_o_9 P)) (Hd.lf qnX))) (Hd.nd (PySem.W.boot_o_2 P) (Hd.nd (PySem.W.boot_o_4 P) (Hd.lf (PySem.W.boot_o_8 P)) (Hd.lf QL)) (Hd.nd (PySem.W.boot_o_6 P) (Hd.lf (PySem.W.boot_o_10 P)) (Hd.lf qnZ))))
set_option maxRecDepth 100000 in
set_option maxHeartbeats 0 in
def qjE (w : World) (os : OsState) : PySem.W.topGo treeTable PySem.Challenge.pw_bankwalk_k77_dealings_read w 11 (some (Value.ref 6)) 12 ⟨PySem.W.boot_heap w.params,Array.mk [],PySem.W.boot_drawn,PySem.W.boot_toks,os⟩ (PySem.W.topStub PySem.Challenge.pw_bankwalk_k77_dealings_read) = some (⟨qi4 w.params,#[],{ },187,os⟩,⟨denote treeTable T8,T8,⟨0,0,0,0⟩,qlY⟩) := by kernel_rfl
set_option maxRecDepth 100000 in
set_option maxHeartbeats 0 in
def qlX (w : World) (os : OsState) : PySem.W.segRun treeTable PySem.Challenge.pw_bankwalk_k77_dealings_read w 11 (some (Value.ref 6)) 1 1 ⟨qi4 w.params,#[],{ },187,os⟩ (PySem.W.blockOf qbe qnb T8 ⟨0,0,0,0⟩ qlY) = some (.next,(⟨qkA w.params,15,{ },#[],{ },187,os⟩ : PySem.W.SharedT).abs,T8,⟨0,0,0,0⟩) := by kernel_rfl
def qrZ (P:Params):Obj:=Hd.oD P 26 [(.str "__name__" 165,.str "bankwalk.texts" 307),(.str "__doc__" 166,.none),(.str "__package__" 167,.none),(.str "__loader__" 168,.builtin "__main__.__loader__#opaque"),(.str "__spec__" 169,.none),(.str "__annotations__" 170,.ref 6),(.str "__builtins__" 171,.ref 4),(.str "__file__" 173,.str "/claim/cut.py" 172),(.str "__cached__" 174,.none),(.str "is_number" 195,.ref 21),(.str "is_at_least" 203,.ref 28),(.str "are_at_least" 209,.ref 33),(.str "BankError" 229,.ref 43),(.str "BadText" 245,.ref 56),(.str "share_no_divisor" 255,.ref 65),(.str "is_skew" 262,.ref 72),(.str "is_rests" 273,.ref 79),(.str "is_bits" 279,.ref 84),(.str "is_bank_row" 285,.ref 89),(.str "is_table" 291,.ref 94),(.str "is_joined" 298,.ref 101),(.str "is_dealing" 306,.ref 108),(.str "FIGURES" 310,.str "0123456789" 309),(.str "MOST_FIGURES" 312,.int (4) 311),(.str "in_words" 318,.ref 113),(.str "in_rows" 324,.ref 118)]
def qrE:Obj:=⟨.none,none,.fields #[.int (2) 0,.int (0) 0,.ref 20,.int (4) 0,.int (0) 0,.ref 27,.int (6) 0,.int (0) 0,.ref 32,.int (9) 0,.int (0) 0,.ref 39,.int (11) 0,.int (0) 0,.ref 52,.int (14) 0,.int (0) 0,.ref 64,.int (18) 0,.int (0) 0,.ref 71,.int (20) 0,.int (0) 0,.ref 78,.int (25) 0,.int (0) 0,.ref 83,.int (32) 0,.int (0) 0,.ref 88,.int (36) 0,.int (0) 0,.ref 93,.int (45) 0,.int (0) 0,.ref 100,.int (47) 0,.int (0) 0,.ref 107,.int (63) 0,.int (0) 0,.ref 112,.int (65) 0,.int (0) 0,.ref 117],#[]⟩
def qqR:Obj:=Hd.oN jS 192
def qqK:Obj:=Hd.oG "is_number" ZJ
def qpj:Obj:=Hd.oK "is_number" 189 2 1 181 15 16 .none (.ref 17) (.ref 18) 19 193 194
def qhA:Obj:=Hd.oF "is_number" ZJ (.str "bankwalk.basics" 187) (.ref 20)
def qlE:Obj:=Hd.oN j9 199
def qno:Obj:=Hd.oG "is_at_least" jG
def qho:Obj:=Hd.oK "is_at_least" 196 4 2 181 22 23 .none (.ref 24) (.ref 25) 26 201 202
def qio:Obj:=Hd.oF "is_at_least" jG (.str "bankwalk.basics" 187) (.ref 27)
def qmp:Obj:=Hd.oG "are_at_least" js
def qiA:Obj:=Hd.oK "are_at_least" 204 6 2 181 29 30 .none .none .none 31 207 208
def qhg:Obj:=Hd.oF "are_at_least" js (.str "bankwalk.basics" 187) (.ref 32)
def qng:Obj:=Hd.oT [.type "ValueError"]
def qdz:Obj:=⟨.type "builtin_function_or_method",none,.fields #[.builtin "type.__prepare__",.type "type"],#[]⟩
def qjw (P:Params):Obj:=Hd.oD P 4 [(.str "__module__" 219,.str "bankwalk.errors" 210),(.str "__qualname__" 221,.str "BankError" 220),(.str "__firstlineno__" 223,.int (9) 222),(.str "__static_attributes__" 224,.ref 41)]
def qjh:Obj:=Hd.oC [.str "BankError" 214,.str "BankError" 215,.str "/claim/cut.py" 216,.int (9) 0,.int (0) 0,.int (0) 0,.int (0) 0,.int (0) 0,.ref 37,.bool false,.int (181) 0,.ref 38,.none,.none,.none,.none,.int (217) 0,.int (9) 0,.str "/claim/cut.py" 218]
def qnA:Obj:=⟨.type "frame",none,.plain,#[some (.ref 39),some (.ref 3),some (.ref 36),none,some (.str "bankwalk.errors" 210),none,some (.ref 0)]⟩
def qlm (P:Params):Obj:=Hd.oD P 3 [(.str "__module__" 219,.str "bankwalk.errors" 210),(.str "__firstlineno__" 223,.int (9) 222),(.str "__static_attributes__" 224,.ref 41),(.str "__weakref__" 226,.ref 44),(.str "__doc__" 227,.none)]
def qnM:Obj:=⟨.type "type",none,.cls ({ name:=Str.ofString "BankError",bases:=[Value.type "ValueError"],  mro:=    [Value.ref 43,Value.type "ValueError",Value.type "Exception",Value.type "BaseException",Value.type "object"],  ns:=42,qualname:=Str.ofString "BankError",subclasses:=[Value.ref 56] }),#[some (.ref 34),none,some (.str "BankError" 212),some (.str "BankError" 220),some (.builtin "ValueError.__new__"),some (.bool true)]⟩
def qlR:Obj:=⟨.type "getset_descriptor",none,.fields #[.str "__weakref__" 225,.ref 43,.builtin "ExceptionGroup.__weakref__",.none],#[]⟩
def qmo:Obj:=⟨.type "super",none,.fields #[.ref 43,.ref 43,.ref 43],#[]⟩
def qjH:Obj:=⟨.type "builtin_function_or_method",none,.fields #[.builtin "object.__init_subclass__",.ref 43],#[]⟩
def qkl:Obj:=Hd.oT [.ref 43]
def qnv (P:Params):Obj:=Hd.oD P 4 [(.str "__module__" 237,.str "bankwalk.errors" 210),(.str "__qualname__" 239,.str "BadText" 238),(.str "__firstlineno__" 241,.int (11) 240),(.str "__static_attributes__" 242,.ref 54)]
def qm5:Obj:=Hd.oC [.str "BadText" 232,.str "BadText" 233,.str "/claim/cut.py" 234,.int (11) 0,.int (0) 0,.int (0) 0,.int (0) 0,.int (0) 0,.ref 50,.bool false,.int (181) 0,.ref 51,.none,.none,.none,.none,.int (235) 0,.int (11) 0,.str "/claim/cut.py" 236]
def qk8:Obj:=⟨.type "frame",none,.plain,#[some (.ref 52),some (.ref 3),some (.ref 49),none,some (.str "bankwalk.errors" 210),none,some (.ref 0)]⟩
def qnG (P:Params):Obj:=Hd.oD P 2 [(.str "__module__" 237,.str "bankwalk.errors" 210),(.str "__firstlineno__" 241,.int (11) 240),(.str "__static_attributes__" 242,.ref 54),(.str "__doc__" 243,.none)]
def qk3:Obj:=⟨.type "type",none,.cls ({ name:=Str.ofString "BadText",bases:=[Value.ref 43],  mro:=    [Value.ref 56,Value.ref 43,Value.type "ValueError",Value.type "Exception",Value.type "BaseException",      Value.type "object"],  ns:=55,qualname:=Str.ofString "BadText" }),#[some (.ref 47),none,some (.str "BadText" 230),some (.str "BadText" 238),some (.builtin "ValueError.__new__"),some (.bool true)]⟩
def qke:Obj:=⟨.type "super",none,.fields #[.ref 56,.ref 56,.ref 56],#[]⟩
def qk5:Obj:=⟨.type "builtin_function_or_method",none,.fields #[.builtin "object.__init_subclass__",.ref 56],#[]⟩
def qks:Obj:=Hd.oN zH 251
def qjU:Obj:=Hd.oG "share_no_divisor" zx
def qiB:Obj:=Hd.oK "share_no_divisor" 248 14 2 181 59 60 .none (.ref 61) (.ref 62) 63 253 254
def qie:Obj:=Hd.oF "share_no_divisor" zx (.str "bankwalk.dealings" 246) (.ref 64)
def qlk:Obj:=Hd.oN jS 259
def qi9:Obj:=Hd.oG "is_skew" YS
def qgX:Obj:=Hd.oK "is_skew" 256 18 1 181 66 67 .none (.ref 68) (.ref 69) 70 260 261
def qg7:Obj:=Hd.oF "is_skew" YS (.str "bankwalk.dealings" 246) (.ref 71)
def qka:Obj:=Hd.oN YH 266
def qjc:Obj:=Hd.oG "is_rests" JN
def qh4:Obj:=Hd.oK "is_rests" 263 20 1 181 73 74 .none (.ref 75) (.ref 76) 77 271 272
def qis:Obj:=Hd.oF "is_rests" JN (.str "bankwalk.dealings" 246) (.ref 78)
def qj4:Obj:=Hd.oG "is_bits" YK
def qid:Obj:=Hd.oK "is_bits" 274 25 1 181 80 81 .none .none .none 82 277 278
def qgV:Obj:=Hd.oF "is_bits" YK (.str "bankwalk.dealings" 246) (.ref 83)
def qkt:Obj:=Hd.oG "is_bank_row" jJ
def qhU:Obj:=Hd.oK "is_bank_row" 280 32 3 181 85 86 .none .none .none 87 283 284
def qhH:Obj:=Hd.oF "is_bank_row" jJ (.str "bankwalk.dealings" 246) (.ref 88)
def qjC:Obj:=Hd.oG "is_table" JP
def qhJ:Obj:=Hd.oK "is_table" 286 36 1 181 90 91 .none .none .none 92 289 290
def qhj:Obj:=Hd.oF "is_table" JP (.str "bankwalk.dealings" 246) (.ref 93)
def qjN:Obj:=Hd.oN jS 295
def qjW:Obj:=Hd.oG "is_joined" ZN
def qin:Obj:=Hd.oK "is_joined" 292 45 1 181 95 96 .none (.ref 97) (.ref 98) 99 296 297
def qii:Obj:=Hd.oF "is_joined" ZN (.str "bankwalk.dealings" 246) (.ref 100)
def qm9:Obj:=Hd.oN ZG 302
def qmi:Obj:=Hd.oG "is_dealing" QI
def qhl:Obj:=Hd.oK "is_dealing" 299 47 1 181 102 103 .none (.ref 104) (.ref 105) 106 304 305
def qhc:Obj:=Hd.oF "is_dealing" QI (.str "bankwalk.dealings" 246) (.ref 107)
def qlZ:Obj:=Hd.oG "in_words" JG
def qiK:Obj:=Hd.oK "in_words" 313 63 1 181 109 110 .none .none .none 111 316 317
def qhq:Obj:=Hd.oF "in_words" JG (.str "bankwalk.texts" 307) (.ref 112)
def qmR:Obj:=Hd.oG "in_rows" YQ
def qh7:Obj:=Hd.oK "in_rows" 319 65 1 181 114 115 .none .none .none 116 322 323
def qhT:Obj:=Hd.oF "in_rows" YQ (.str "bankwalk.texts" 307) (.ref 117)
def qj8 (P:Params):PySem.W.BT:=(Hd.nd (PySem.W.boot_o_0 P) (Hd.nd (PySem.W.boot_o_1 P) (Hd.nd (qrZ P) (Hd.nd (PySem.W.boot_o_7 P) (Hd.nd zz (Hd.nd qmp (Hd.lf qjU) (Hd.lf zz)) (Hd.nd qkl (Hd.lf qis) (Hd.lf qlZ))) (Hd.nd QL (Hd.nd qjh (Hd.lf qgX) (Hd.lf QL)) (Hd.nd (qnG P) (Hd.lf qkt) .nil))) (Hd.nd zz (Hd.nd qqK (Hd.nd qdz (Hd.lf QL) (Hd.lf qjW)) (Hd.nd QL (Hd.lf qid) (Hd.lf QL))) (Hd.nd qho (Hd.nd qnM (Hd.lf qka) (Hd.lf qhl)) (Hd.nd zz (Hd.lf QL) .nil)))) (Hd.nd (PySem.W.boot_o_5 P) (Hd.nd (PySem.W.boot_o_9 P) (Hd.nd qqR (Hd.nd qhg (Hd.lf qie) (Hd.lf qjN)) (Hd.nd (qnv P) (Hd.lf QL) (Hd.lf qhq))) (Hd.nd zz (Hd.nd zz (Hd.lf zz) (Hd.lf zz)) (Hd.nd qke (Hd.lf qhH) .nil))) (Hd.nd qnX (Hd.nd qhA (Hd.nd zz (Hd.lf zz) (Hd.lf qii)) (Hd.nd qk8 (Hd.lf zz) (Hd.lf qh7))) (Hd.nd zz (Hd.nd qmo (Hd.lf qjc) (Hd.lf zz)) (Hd.nd qks (Hd.lf qhJ) .nil))))) (Hd.nd (PySem.W.boot_o_2 P) (Hd.nd (PySem.W.boot_o_4 P) (Hd.nd (PySem.W.boot_o_8 P) (Hd.nd QL (Hd.nd qiA (Hd.lf qiB) (Hd.lf QL)) (Hd.nd qdz (Hd.lf zz) (Hd.lf qiK))) (Hd.nd qlE (Hd.nd qnA (Hd.lf qg7) (Hd.lf qm9)) (Hd.nd qk3 (Hd.lf qhU) .nil))) (Hd.nd qrE (Hd.nd qpj (Hd.nd (qjw P) (Hd.lf qlk) (Hd.lf qin)) (Hd.nd qm5 (Hd.lf qgV) (Hd.lf qmR))) (Hd.nd qio (Hd.nd qlR (Hd.lf zz) (Hd.lf qhc)) (Hd.nd QL (Hd.lf qjC) .nil)))) (Hd.nd (PySem.W.boot_o_6 P) (Hd.nd (PySem.W.boot_o_10 P) (Hd.nd zz (Hd.nd qng (Hd.lf zz) (Hd.lf zz)) (Hd.nd zz (Hd.lf qj4) (Hd.lf zz))) (Hd.nd qno (Hd.nd (qlm P) (Hd.lf QL) (Hd.lf qmi)) (Hd.nd qk5 (Hd.lf zz) .nil))) (Hd.nd qnZ (Hd.nd zz (Hd.nd QL (Hd.lf qi9) (Hd.lf zz)) (Hd.nd zz (Hd.lf QL) (Hd.lf qhT))) (Hd.nd QL (Hd.nd qjH (Hd.lf qh4) (Hd.lf QL)) (Hd.nd zz (Hd.lf qhj) .nil))))))
abbrev qeV:List Stmt:=(qbe.drop 0).take 21
set_option maxRecDepth 100000 in
set_option maxHeartbeats 0 in
def qlP (w : World) (os : OsState) : PySem.W.segRunT treeTable PySem.Challenge.pw_bankwalk_k77_dealings_read w 11 (some (Value.ref 6)) 1 820 (⟨qkA w.params,15,{ },#[],{ },187,os⟩ : PySem.W.SharedT) (PySem.W.piecesOf qeV qnb T8 ⟨0,0,0,0⟩ qlY) = some (.next,(⟨qj8 w.params,119,{ },#[],{ },325,os⟩ : PySem.W.SharedT),T8,⟨65,0,66,54⟩) := by kernel_rfl
def qlq (P:Params):Obj:=Hd.oD P 52 [(.str "__name__" 165,.str "law_bankwalk_k77_dealings_read" 405),(.str "__doc__" 166,.none),(.str "__package__" 167,.none),(.str "__loader__" 168,.builtin "__main__.__loader__#opaque"),(.str "__spec__" 169,.none),(.str "__annotations__" 170,.ref 6),(.str "__builtins__" 171,.ref 4),(.str "__file__" 173,.str "/claim/cut.py" 172),(.str "__cached__" 174,.none),(.str "is_number" 195,.ref 21),(.str "is_at_least" 203,.ref 28),(.str "are_at_least" 209,.ref 33),(.str "BankError" 229,.ref 43),(.str "BadText" 245,.ref 56),(.str "share_no_divisor" 255,.ref 65),(.str "is_skew" 262,.ref 72),(.str "is_rests" 273,.ref 79),(.str "is_bits" 279,.ref 84),(.str "is_bank_row" 285,.ref 89),(.str "is_table" 291,.ref 94),(.str "is_joined" 298,.ref 101),(.str "is_dealing" 306,.ref 108),(.str "FIGURES" 310,.str "0123456789" 309),(.str "MOST_FIGURES" 312,.int (4) 311),(.str "in_words" 318,.ref 113),(.str "in_rows" 324,.ref 118),(.str "dealing_text" 332,.ref 125),(.str "number_of_word" 338,.ref 130),(.str "numbers_of" 344,.ref 135),(.str "rows_of" 350,.ref 140),(.str "closing" 360,.ref 147),(.str "bracketed" 368,.ref 154),(.str "read_table" 375,.ref 161),(.str "read_joined" 386,.ref 168),(.str "read_dealing" 396,.ref 175),(.str "dealing_of" 404,.ref 182),(.str "_law_mix" 415,.ref 189),(.str "_law_left" 425,.ref 196),(.str "_law_pick" 434,.ref 203),(.str "_law_sides" 444,.ref 210),(.str "_law_gcd" 452,.ref 217),(.str "_law_skew" 463,.ref 224),(.str "_law_rests" 475,.ref 231),(.str "_law_bits" 481,.ref 236),(.str "_law_table" 487,.ref 241),(.str "_law_small" 493,.ref 246),(.str "_law_dealing" 503,.ref 253),(.str "_law_dealing_words" 509,.ref 258),(.str "_law_any_dealing" 515,.ref 263),(.str "_law_same" 521,.ref 268),(.str "_law_beyond" 527,.ref 273),(.str "law" 540,.ref 280)]
def qoI:Obj:=⟨.none,none,.fields #[.int (2) 0,.int (0) 0,.ref 20,.int (4) 0,.int (0) 0,.ref 27,.int (6) 0,.int (0) 0,.ref 32,.int (9) 0,.int (0) 0,.ref 39,.int (11) 0,.int (0) 0,.ref 52,.int (14) 0,.int (0) 0,.ref 64,.int (18) 0,.int (0) 0,.ref 71,.int (20) 0,.int (0) 0,.ref 78,.int (25) 0,.int (0) 0,.ref 83,.int (32) 0,.int (0) 0,.ref 88,.int (36) 0,.int (0) 0,.ref 93,.int (45) 0,.int (0) 0,.ref 100,.int (47) 0,.int (0) 0,.ref 107,.int (63) 0,.int (0) 0,.ref 112,.int (65) 0,.int (0) 0,.ref 117,.int (67) 0,.int (0) 0,.ref 124,.int (76) 0,.int (0) 0,.ref 129,.int (84) 0,.int (0) 0,.ref 134,.int (86) 0,.int (0) 0,.ref 139,.int (94) 0,.int (0) 0,.ref 146,.int (104) 0,.int (0) 0,.ref 153,.int (109) 0,.int (0) 0,.ref 160,.int (113) 0,.int (0) 0,.ref 167,.int (119) 0,.int (0) 0,.ref 174,.int (131) 0,.int (0) 0,.ref 181,.int (137) 0,.int (0) 0,.ref 188,.int (140) 0,.int (0) 0,.ref 195,.int (144) 0,.int (0) 0,.ref 202,.int (151) 0,.int (0) 0,.ref 209,.int (155) 0,.int (0) 0,.ref 216,.int (159) 0,.int (0) 0,.ref 223,.int (164) 0,.int (0) 0,.ref 230,.int (172) 0,.int (0) 0,.ref 235,.int (177) 0,.int (0) 0,.ref 240,.int (182) 0,.int (0) 0,.ref 245,.int (200) 0,.int (0) 0,.ref 252,.int (217) 0,.int (0) 0,.ref 257,.int (229) 0,.int (0) 0,.ref 262,.int (240) 0,.int (0) 0,.ref 267,.int (248) 0,.int (0) 0,.ref 272,.int (259) 0,.int (0) 0,.ref 279],#[]⟩
def qpt:Obj:=Hd.oN jD 328
def qpb:Obj:=Hd.oG "dealing_text" jl
def qnw:Obj:=Hd.oK "dealing_text" 325 67 1 181 119 120 .none (.ref 121) (.ref 122) 123 330 331
def qkS:Obj:=Hd.oF "dealing_text" jl (.str "bankwalk.texts" 307) (.ref 124)
def qpS:Obj:=Hd.oG "number_of_word" zQ
def qkQ:Obj:=Hd.oK "number_of_word" 333 76 1 181 126 127 .none .none .none 128 336 337
def qjM:Obj:=Hd.oF "number_of_word" zQ (.str "bankwalk.texts" 307) (.ref 129)
def qpe:Obj:=Hd.oG "numbers_of" QB
def qku:Obj:=Hd.oK "numbers_of" 339 84 1 181 131 132 .none .none .none 133 342 343
def qmL:Obj:=Hd.oF "numbers_of" QB (.str "bankwalk.texts" 307) (.ref 134)
def qoc:Obj:=Hd.oG "rows_of" YI
def qju:Obj:=Hd.oK "rows_of" 345 86 1 181 136 137 .none .none .none 138 348 349
def qlH:Obj:=Hd.oF "rows_of" YI (.str "bankwalk.texts" 307) (.ref 139)
def qov:Obj:=Hd.oN UC 354
def qoO:Obj:=Hd.oG "closing" YM
def qmS:Obj:=Hd.oK "closing" 351 94 1 181 141 142 .none (.ref 143) (.ref 144) 145 358 359
def qjX:Obj:=Hd.oF "closing" YM (.str "bankwalk.texts" 307) (.ref 146)
def qqc:Obj:=Hd.oN JR 364
def qpA:Obj:=Hd.oG "bracketed" ZF
def qkG:Obj:=Hd.oK "bracketed" 361 104 1 181 148 149 .none (.ref 150) (.ref 151) 152 366 367
def qnp:Obj:=Hd.oF "bracketed" ZF (.str "bankwalk.texts" 307) (.ref 153)
def qpg:Obj:=Hd.oN Q8 372
def qpu:Obj:=Hd.oG "read_table" QH
def ql3:Obj:=Hd.oK "read_table" 369 109 1 181 155 156 .none (.ref 157) (.ref 158) 159 373 374
def qkX:Obj:=Hd.oF "read_table" QH (.str "bankwalk.texts" 307) (.ref 160)
def qog:Obj:=Hd.oN j8 379
def qpU:Obj:=Hd.oG "read_joined" jC
def qf4:Obj:=Hd.oK "read_joined" 376 113 1 181 162 163 .none (.ref 164) (.ref 165) 166 384 385
def qgv:Obj:=Hd.oF "read_joined" jC (.str "bankwalk.texts" 307) (.ref 167)
def ql7:Obj:=Hd.oN jK 390
def qll:Obj:=Hd.oG "read_dealing" jj
def qe5:Obj:=Hd.oK "read_dealing" 387 119 1 181 169 170 .none (.ref 171) (.ref 172) 173 394 395
def qgP:Obj:=Hd.oF "read_dealing" jj (.str "bankwalk.texts" 307) (.ref 174)
def qlF:Obj:=Hd.oN ZE 400
def qmg:Obj:=Hd.oG "dealing_of" j6
def qfj:Obj:=Hd.oK "dealing_of" 397 131 1 181 176 177 .none (.ref 178) (.ref 179) 180 402 403
def qgt:Obj:=Hd.oF "dealing_of" j6 (.str "bankwalk.texts" 307) (.ref 181)
def qkY:Obj:=Hd.oN C0 410
def qns:Obj:=Hd.oG "_law_mix" YJ
def qgq:Obj:=Hd.oK "_law_mix" 407 137 2 181 183 184 .none (.ref 185) (.ref 186) 187 413 414
def qgm:Obj:=Hd.oF "_law_mix" YJ (.str "law_bankwalk_k77_dealings_read" 405) (.ref 188)
def qmv:Obj:=Hd.oN WR 419
def qji:Obj:=Hd.oG "_law_left" JS
def qgJ:Obj:=Hd.oK "_law_left" 416 140 2 181 190 191 .none (.ref 192) (.ref 193) 194 423 424
def qgw:Obj:=Hd.oF "_law_left" JS (.str "law_bankwalk_k77_dealings_read" 405) (.ref 195)
def qnH:Obj:=Hd.oN WP 429
def qj5:Obj:=Hd.oG "_law_pick" JE
def qfa:Obj:=Hd.oK "_law_pick" 426 144 2 181 197 198 .none (.ref 199) (.ref 200) 201 432 433
def qfn:Obj:=Hd.oF "_law_pick" JE (.str "law_bankwalk_k77_dealings_read" 405) (.ref 202)
def qjR:Obj:=Hd.oN ED 438
def qi8:Obj:=Hd.oG "_law_sides" ZO
def qfO:Obj:=Hd.oK "_law_sides" 435 151 1 181 204 205 .none (.ref 206) (.ref 207) 208 442 443
def qfp:Obj:=Hd.oF "_law_sides" ZO (.str "law_bankwalk_k77_dealings_read" 405) (.ref 209)
def qjx:Obj:=Hd.oN CZ 448
def qjf:Obj:=Hd.oG "_law_gcd" YT
def qeO:Obj:=Hd.oK "_law_gcd" 445 155 2 181 211 212 .none (.ref 213) (.ref 214) 215 450 451
def qgi:Obj:=Hd.oF "_law_gcd" YT (.str "law_bankwalk_k77_dealings_read" 405) (.ref 216)
def qk7:Obj:=Hd.oN WB 456
def qlf:Obj:=Hd.oG "_law_skew" JA
def qeP:Obj:=Hd.oK "_law_skew" 453 159 1 181 218 219 .none (.ref 220) (.ref 221) 222 461 462
def qfB:Obj:=Hd.oF "_law_skew" JA (.str "law_bankwalk_k77_dealings_read" 405) (.ref 223)
def qkx:Obj:=Hd.oN U4 467
def qma:Obj:=Hd.oG "_law_rests" ZL
def qfI:Obj:=Hd.oK "_law_rests" 464 164 1 181 225 226 .none (.ref 227) (.ref 228) 229 473 474
def qfl:Obj:=Hd.oF "_law_rests" ZL (.str "law_bankwalk_k77_dealings_read" 405) (.ref 230)
def qkN:Obj:=Hd.oG "_law_bits" JH
def qfw:Obj:=Hd.oK "_law_bits" 476 172 2 181 232 233 .none .none .none 234 479 480
def qfH:Obj:=Hd.oF "_law_bits" JH (.str "law_bankwalk_k77_dealings_read" 405) (.ref 235)
def qnz:Obj:=Hd.oG "_law_table" ZB
def qfW:Obj:=Hd.oK "_law_table" 482 177 1 181 237 238 .none .none .none 239 485 486
def qgE:Obj:=Hd.oF "_law_table" ZB (.str "law_bankwalk_k77_dealings_read" 405) (.ref 240)
def qmP:Obj:=Hd.oG "_law_small" Q9
def qeN:Obj:=Hd.oK "_law_small" 488 182 1 181 242 243 .none .none .none 244 491 492
def qfY:Obj:=Hd.oF "_law_small" Q9 (.str "law_bankwalk_k77_dealings_read" 405) (.ref 245)
def qnE:Obj:=Hd.oN VH 497
def ql0:Obj:=Hd.oG "_law_dealing" jE
def qgg:Obj:=Hd.oK "_law_dealing" 494 200 1 181 247 248 .none (.ref 249) (.ref 250) 251 501 502
def qfT:Obj:=Hd.oF "_law_dealing" jE (.str "law_bankwalk_k77_dealings_read" 405) (.ref 252)
def qlV:Obj:=Hd.oG "_law_dealing_words" zj
def qf3:Obj:=Hd.oK "_law_dealing_words" 504 217 1 181 254 255 .none .none .none 256 507 508
def qf6:Obj:=Hd.oF "_law_dealing_words" zj (.str "law_bankwalk_k77_dealings_read" 405) (.ref 257)
def qmF:Obj:=Hd.oG "_law_any_dealing" zG
def qgp:Obj:=Hd.oK "_law_any_dealing" 510 229 1 181 259 260 .none .none .none 261 513 514
def qe9:Obj:=Hd.oF "_law_any_dealing" zG (.str "law_bankwalk_k77_dealings_read" 405) (.ref 262)
def qm6:Obj:=Hd.oG "_law_same" JO
def qgy:Obj:=Hd.oK "_law_same" 516 240 2 181 264 265 .none .none .none 266 519 520
def qeQ:Obj:=Hd.oF "_law_same" JO (.str "law_bankwalk_k77_dealings_read" 405) (.ref 267)
def qlt:Obj:=Hd.oG "_law_beyond" QA
def qf1:Obj:=Hd.oK "_law_beyond" 522 248 1 181 269 270 .none .none .none 271 525 526
def qgr:Obj:=Hd.oF "_law_beyond" QA (.str "law_bankwalk_k77_dealings_read" 405) (.ref 272)
def qlx:Obj:=Hd.oN qbK 531
def qny:Obj:=Hd.oG "law" V9
def qgF:Obj:=Hd.oK "law" 528 259 1 181 274 275 .none (.ref 276) (.ref 277) 278 538 539
def qf2:Obj:=Hd.oF "law" V9 (.str "law_bankwalk_k77_dealings_read" 405) (.ref 279)
def qhO (P:Params):PySem.W.BT:=(Hd.nd (PySem.W.boot_o_0 P) (Hd.nd (PySem.W.boot_o_1 P) (Hd.nd (qlq P) (Hd.nd (PySem.W.boot_o_7 P) (Hd.nd zz (Hd.nd qmp (Hd.nd qjU (Hd.nd QL (Hd.lf QL) .nil) (Hd.lf QL)) (Hd.nd zz (Hd.lf qpu) (Hd.lf qeP))) (Hd.nd qkl (Hd.nd qis (Hd.nd qov (Hd.lf qlt) .nil) (Hd.lf zz)) (Hd.nd qlZ (Hd.lf qgP) (Hd.lf qnz)))) (Hd.nd QL (Hd.nd qjh (Hd.nd qgX (Hd.nd qmL (Hd.lf qe9) .nil) (Hd.lf qnH)) (Hd.nd QL (Hd.lf qf4) (Hd.lf qfl))) (Hd.nd (qnG P) (Hd.nd qkt (Hd.nd zz (Hd.lf qgF) .nil) (Hd.lf qjf)) (Hd.nd zz (Hd.lf zz) (Hd.lf zz))))) (Hd.nd zz (Hd.nd qqK (Hd.nd qdz (Hd.nd QL (Hd.nd zz (Hd.lf zz) .nil) (Hd.lf qgJ)) (Hd.nd qjW (Hd.lf QL) (Hd.lf qkx))) (Hd.nd QL (Hd.nd qid (Hd.nd qjX (Hd.lf QL) .nil) (Hd.lf zz)) (Hd.nd QL (Hd.lf zz) (Hd.lf QL)))) (Hd.nd qho (Hd.nd qnM (Hd.nd qka (Hd.nd qju (Hd.lf qgy) .nil) (Hd.lf qfn)) (Hd.nd qhl (Hd.lf ql7) (Hd.lf qfw))) (Hd.nd zz (Hd.nd QL (Hd.lf zz) (Hd.lf QL)) (Hd.nd qpb (Hd.lf qns) (Hd.lf ql0)))))) (Hd.nd (PySem.W.boot_o_5 P) (Hd.nd (PySem.W.boot_o_9 P) (Hd.nd qqR (Hd.nd qhg (Hd.nd qie (Hd.nd qkQ (Hd.lf qf3) .nil) (Hd.lf zz)) (Hd.nd qjN (Hd.lf qkX) (Hd.lf zz))) (Hd.nd (qnv P) (Hd.nd QL (Hd.nd qoO (Hd.lf qgr) .nil) (Hd.lf qfO)) (Hd.nd qhq (Hd.lf QL) (Hd.lf qgE)))) (Hd.nd zz (Hd.nd zz (Hd.nd zz (Hd.nd QL (Hd.lf QL) .nil) (Hd.lf qj5)) (Hd.nd zz (Hd.lf zz) (Hd.lf QL))) (Hd.nd qke (Hd.nd qhH (Hd.lf qkG) (Hd.lf qgi)) (Hd.nd qpt (Hd.lf qkY) (Hd.lf qnE))))) (Hd.nd qnX (Hd.nd qhA (Hd.nd zz (Hd.nd zz (Hd.nd qpe (Hd.lf qmF) .nil) (Hd.lf zz)) (Hd.nd qii (Hd.lf zz) (Hd.lf qma))) (Hd.nd qk8 (Hd.nd zz (Hd.nd QL (Hd.lf zz) .nil) (Hd.lf qjx)) (Hd.nd qh7 (Hd.lf qfj) (Hd.lf qeN)))) (Hd.nd zz (Hd.nd qmo (Hd.nd qjc (Hd.nd zz (Hd.lf zz) .nil) (Hd.lf QL)) (Hd.nd zz (Hd.lf qll) (Hd.lf zz))) (Hd.nd qks (Hd.nd qhJ (Hd.lf qpg) (Hd.lf zz)) (Hd.nd qkS (Hd.lf qgm) (Hd.lf qfT))))))) (Hd.nd (PySem.W.boot_o_2 P) (Hd.nd (PySem.W.boot_o_4 P) (Hd.nd (PySem.W.boot_o_8 P) (Hd.nd QL (Hd.nd qiA (Hd.nd qiB (Hd.nd qpS (Hd.lf qlV) .nil) (Hd.lf qmv)) (Hd.nd QL (Hd.lf ql3) (Hd.lf qfB))) (Hd.nd qdz (Hd.nd zz (Hd.nd zz (Hd.lf qf1) .nil) (Hd.lf qi8)) (Hd.nd qiK (Hd.lf zz) (Hd.lf qfW)))) (Hd.nd qlE (Hd.nd qnA (Hd.nd qg7 (Hd.nd zz (Hd.lf zz) .nil) (Hd.lf zz)) (Hd.nd qm9 (Hd.lf qgv) (Hd.lf zz))) (Hd.nd qk3 (Hd.nd qhU (Hd.nd qpA (Hd.lf qf2) .nil) (Hd.lf qeO)) (Hd.nd QL (Hd.lf QL) (Hd.lf QL))))) (Hd.nd qoI (Hd.nd qpj (Hd.nd (qjw P) (Hd.nd qlk (Hd.nd QL (Hd.lf QL) .nil) (Hd.lf qgw)) (Hd.nd qin (Hd.lf qog) (Hd.lf zz))) (Hd.nd qm5 (Hd.nd qgV (Hd.nd zz (Hd.lf qlx) .nil) (Hd.lf QL)) (Hd.nd qmR (Hd.lf qmg) (Hd.lf qmP)))) (Hd.nd qio (Hd.nd qlR (Hd.nd zz (Hd.nd qlH (Hd.lf qeQ) .nil) (Hd.lf zz)) (Hd.nd qhc (Hd.lf zz) (Hd.lf qfH))) (Hd.nd QL (Hd.nd qjC (Hd.lf QL) (Hd.lf qk7)) (Hd.nd qnw (Hd.lf qgq) (Hd.lf qgg)))))) (Hd.nd (PySem.W.boot_o_6 P) (Hd.nd (PySem.W.boot_o_10 P) (Hd.nd zz (Hd.nd qng (Hd.nd zz (Hd.nd qjM (Hd.lf qf6) .nil) (Hd.lf qji)) (Hd.nd zz (Hd.lf zz) (Hd.lf QL))) (Hd.nd zz (Hd.nd qj4 (Hd.nd qmS (Hd.lf zz) .nil) (Hd.lf qfp)) (Hd.nd zz (Hd.lf qlF) (Hd.lf zz)))) (Hd.nd qno (Hd.nd (qlm P) (Hd.nd QL (Hd.nd qoc (Hd.lf qm6) .nil) (Hd.lf qfa)) (Hd.nd qmi (Hd.lf QL) (Hd.lf qkN))) (Hd.nd qk5 (Hd.nd zz (Hd.lf qnp) (Hd.lf zz)) (Hd.nd zz (Hd.lf zz) (Hd.lf zz))))) (Hd.nd qnZ (Hd.nd zz (Hd.nd QL (Hd.nd qi9 (Hd.nd qku (Hd.lf qgp) .nil) (Hd.lf QL)) (Hd.nd zz (Hd.lf qpU) (Hd.lf qfI))) (Hd.nd zz (Hd.nd QL (Hd.nd qqc (Hd.lf qny) .nil) (Hd.lf zz)) (Hd.nd qhT (Hd.lf qgt) (Hd.lf qfY)))) (Hd.nd QL (Hd.nd qjH (Hd.nd qh4 (Hd.nd QL (Hd.lf QL) .nil) (Hd.lf qjR)) (Hd.nd QL (Hd.lf qe5) (Hd.lf QL))) (Hd.nd zz (Hd.nd qhj (Hd.lf zz) (Hd.lf qlf)) (Hd.nd zz (Hd.lf zz) (Hd.lf zz))))))))
abbrev qfD:List Stmt:=(qbe.drop 21).take 27
set_option maxRecDepth 100000 in
set_option maxHeartbeats 0 in
def qjl (w : World) (os : OsState) : PySem.W.segRunT treeTable PySem.Challenge.pw_bankwalk_k77_dealings_read w 11 (some (Value.ref 6)) 1 776 (⟨qj8 w.params,119,{ },#[],{ },325,os⟩ : PySem.W.SharedT) (PySem.W.piecesOf qfD qnb T8 ⟨65,0,66,54⟩ qlY) = some (.next,(⟨qhO w.params,281,{ },#[],{ },541,os⟩ : PySem.W.SharedT),T8,⟨259,0,268,15⟩) := by kernel_rfl
abbrev qhk (P:Params):Heap:=PySem.W.absHeap (qhO P) 281 { }
def Kf (P:Params):PySem.W.Frag:=[(3,qlq P),(20,qpj),(21,qhA),(27,qho),(28,qio),(32,qiA),(33,qhg),(64,qiB),(65,qie),(71,qgX),(72,qg7),(78,qh4),(79,qis),(83,qid),(84,qgV),(88,qhU),(89,qhH),(93,qhJ),(94,qhj),(100,qin),(101,qii),(107,qhl),(108,qhc),(112,qiK),(113,qhq),(117,qh7),(118,qhT),(124,qnw),(125,qkS),(129,qkQ),(130,qjM),(134,qku),(135,qmL),(139,qju),(140,qlH),(146,qmS),(147,qjX),(153,qkG),(154,qnp),(160,ql3),(161,qkX),(167,qf4),(168,qgv),(174,qe5),(175,qgP),(181,qfj),(182,qgt),(188,qgq),(189,qgm),(195,qgJ),(196,qgw),(202,qfa),(203,qfn),(209,qfO),(210,qfp),(216,qeO),(217,qgi),(223,qeP),(224,qfB),(230,qfI),(231,qfl),(235,qfw),(236,qfH),(240,qfW),(241,qgE),(245,qeN),(246,qfY),(252,qgg),(253,qfT),(257,qf3),(258,qf6),(262,qgp),(263,qe9),(267,qgy),(268,qeQ),(272,qf1),(273,qgr),(279,qgF),(280,qf2)]
def qkk {l:PySem.W.OpenLaw} {w:World} {h:Heap} {mg:Str->Option Value} {fa:Addr} (X:(Kf w.params).In h) (G:h.Ns mainGlobals mg) (hfa:mg "law" = some (.ref fa)) :
  ∃ fd:FuncData,(∀ (s:Shared) (v:Value),BindsTo s fd ⟨[v],[]⟩ [("_law_script",v)])/\∀ base:Heap,(Kf w.params).In base->base.Ns mainGlobals mg->FnOk l.prog w (Kf w.params) mg base CX0 67 fa fd ["_law_script"] (lSp (Kf w.params) SF):=by
 have e:=hfa.symm.trans (Hd.zR X G "law" (.ref 280) (by kernel_rfl));cases e;have F0:=Hd.zX (K:=Kf w.params) "is_number" ZJ 21 (.str "bankwalk.basics" 187) (.ref 20) (by kernel_rfl) (by kernel_rfl) (by kernel_rfl);have b0:=F0.binds (ps:=EI) λ_ _ _ _ _ _ us hl=>by obtain ⟨_,rfl⟩:=Pu.ER hl;rfl
 have m0:=Hd.zR X G "is_number" (.ref 21) (by kernel_rfl);have F1:=Hd.zX (K:=Kf w.params) "is_at_least" jG 28 (.str "bankwalk.basics" 187) (.ref 27) (by kernel_rfl) (by kernel_rfl) (by kernel_rfl);have b1:=F1.binds (ps:=YW) λ_ _ _ _ _ _ us hl=>by obtain ⟨_,_,rfl⟩:=Pu.qdp hl;rfl
 have m1:=Hd.zR X G "is_at_least" (.ref 28) (by kernel_rfl);have F2:=Hd.zX (K:=Kf w.params) "are_at_least" js 33 (.str "bankwalk.basics" 187) (.ref 32) (by kernel_rfl) (by kernel_rfl) (by kernel_rfl);have b2:=F2.binds (ps:=YD) λ_ _ _ _ _ _ us hl=>by obtain ⟨_,_,rfl⟩:=Pu.qdp hl;rfl
 have m2:=Hd.zR X G "are_at_least" (.ref 33) (by kernel_rfl);have F3:=Hd.zX (K:=Kf w.params) "share_no_divisor" zx 65 (.str "bankwalk.dealings" 246) (.ref 64) (by kernel_rfl) (by kernel_rfl) (by kernel_rfl);have b3:=F3.binds (ps:=QE) λ_ _ _ _ _ _ us hl=>by obtain ⟨_,_,rfl⟩:=Pu.qdp hl;rfl
 have m3:=Hd.zR X G "share_no_divisor" (.ref 65) (by kernel_rfl);have F4:=Hd.zX (K:=Kf w.params) "is_skew" YS 72 (.str "bankwalk.dealings" 246) (.ref 71) (by kernel_rfl) (by kernel_rfl) (by kernel_rfl);have b4:=F4.binds (ps:=X6) λ_ _ _ _ _ _ us hl=>by obtain ⟨_,rfl⟩:=Pu.ER hl;rfl
 have m4:=Hd.zR X G "is_skew" (.ref 72) (by kernel_rfl);have F5:=Hd.zX (K:=Kf w.params) "is_rests" JN 79 (.str "bankwalk.dealings" 246) (.ref 78) (by kernel_rfl) (by kernel_rfl) (by kernel_rfl);have b5:=F5.binds (ps:=WK) λ_ _ _ _ _ _ us hl=>by obtain ⟨_,rfl⟩:=Pu.ER hl;rfl
 have m5:=Hd.zR X G "is_rests" (.ref 79) (by kernel_rfl);have F6:=Hd.zX (K:=Kf w.params) "is_bits" YK 84 (.str "bankwalk.dealings" 246) (.ref 83) (by kernel_rfl) (by kernel_rfl) (by kernel_rfl);have b6:=F6.binds (ps:=CK) λ_ _ _ _ _ _ us hl=>by obtain ⟨_,rfl⟩:=Pu.ER hl;rfl
 have m6:=Hd.zR X G "is_bits" (.ref 84) (by kernel_rfl);have F7:=Hd.zX (K:=Kf w.params) "is_bank_row" jJ 89 (.str "bankwalk.dealings" 246) (.ref 88) (by kernel_rfl) (by kernel_rfl) (by kernel_rfl);have b7:=F7.binds (ps:=VN) λ_ _ _ _ _ _ us hl=>by obtain ⟨_,_,_,rfl⟩:=Pu.qrN hl;rfl
 have m7:=Hd.zR X G "is_bank_row" (.ref 89) (by kernel_rfl);have F8:=Hd.zX (K:=Kf w.params) "is_table" JP 94 (.str "bankwalk.dealings" 246) (.ref 93) (by kernel_rfl) (by kernel_rfl) (by kernel_rfl);have b8:=F8.binds (ps:=D7) λ_ _ _ _ _ _ us hl=>by obtain ⟨_,rfl⟩:=Pu.ER hl;rfl
 have m8:=Hd.zR X G "is_table" (.ref 94) (by kernel_rfl);have F9:=Hd.zX (K:=Kf w.params) "is_joined" ZN 101 (.str "bankwalk.dealings" 246) (.ref 100) (by kernel_rfl) (by kernel_rfl) (by kernel_rfl);have b9:=F9.binds (ps:=EM) λ_ _ _ _ _ _ us hl=>by obtain ⟨_,rfl⟩:=Pu.ER hl;rfl
 have m9:=Hd.zR X G "is_joined" (.ref 101) (by kernel_rfl);have F10:=Hd.zX (K:=Kf w.params) "is_dealing" QI 108 (.str "bankwalk.dealings" 246) (.ref 107) (by kernel_rfl) (by kernel_rfl) (by kernel_rfl);have b10:=F10.binds (ps:=V8) λ_ _ _ _ _ _ us hl=>by obtain ⟨_,rfl⟩:=Pu.ER hl;rfl
 have m10:=Hd.zR X G "is_dealing" (.ref 108) (by kernel_rfl);have F11:=Hd.zX (K:=Kf w.params) "in_words" JG 113 (.str "bankwalk.texts" 307) (.ref 112) (by kernel_rfl) (by kernel_rfl) (by kernel_rfl);have b11:=F11.binds (ps:=WS) λ_ _ _ _ _ _ us hl=>by obtain ⟨_,rfl⟩:=Pu.ER hl;rfl
 have m11:=Hd.zR X G "in_words" (.ref 113) (by kernel_rfl);have F12:=Hd.zX (K:=Kf w.params) "in_rows" YQ 118 (.str "bankwalk.texts" 307) (.ref 117) (by kernel_rfl) (by kernel_rfl) (by kernel_rfl);have b12:=F12.binds (ps:=CF) λ_ _ _ _ _ _ us hl=>by obtain ⟨_,rfl⟩:=Pu.ER hl;rfl
 have m12:=Hd.zR X G "in_rows" (.ref 118) (by kernel_rfl);have F13:=Hd.zX (K:=Kf w.params) "dealing_text" jl 125 (.str "bankwalk.texts" 307) (.ref 124) (by kernel_rfl) (by kernel_rfl) (by kernel_rfl);have b13:=F13.binds (ps:=YB) λ_ _ _ _ _ _ us hl=>by obtain ⟨_,rfl⟩:=Pu.ER hl;rfl
 have m13:=Hd.zR X G "dealing_text" (.ref 125) (by kernel_rfl);have F14:=Hd.zX (K:=Kf w.params) "number_of_word" zQ 130 (.str "bankwalk.texts" 307) (.ref 129) (by kernel_rfl) (by kernel_rfl) (by kernel_rfl);have b14:=F14.binds (ps:=ZQ) λ_ _ _ _ _ _ us hl=>by obtain ⟨_,rfl⟩:=Pu.ER hl;rfl
 have m14:=Hd.zR X G "number_of_word" (.ref 130) (by kernel_rfl);have F15:=Hd.zX (K:=Kf w.params) "numbers_of" QB 135 (.str "bankwalk.texts" 307) (.ref 134) (by kernel_rfl) (by kernel_rfl) (by kernel_rfl);have b15:=F15.binds (ps:=UB) λ_ _ _ _ _ _ us hl=>by obtain ⟨_,rfl⟩:=Pu.ER hl;rfl
 have m15:=Hd.zR X G "numbers_of" (.ref 135) (by kernel_rfl);have F16:=Hd.zX (K:=Kf w.params) "rows_of" YI 140 (.str "bankwalk.texts" 307) (.ref 139) (by kernel_rfl) (by kernel_rfl) (by kernel_rfl);have b16:=F16.binds (ps:=X5) λ_ _ _ _ _ _ us hl=>by obtain ⟨_,rfl⟩:=Pu.ER hl;rfl
 have m16:=Hd.zR X G "rows_of" (.ref 140) (by kernel_rfl);have F17:=Hd.zX (K:=Kf w.params) "closing" YM 147 (.str "bankwalk.texts" 307) (.ref 146) (by kernel_rfl) (by kernel_rfl) (by kernel_rfl);have b17:=F17.binds (ps:=CO) λ_ _ _ _ _ _ us hl=>by obtain ⟨_,rfl⟩:=Pu.ER hl;rfl
 have m17:=Hd.zR X G "closing" (.ref 147) (by kernel_rfl);have F18:=Hd.zX (K:=Kf w.params) "bracketed" ZF 154 (.str "bankwalk.texts" 307) (.ref 153) (by kernel_rfl) (by kernel_rfl) (by kernel_rfl);have b18:=F18.binds (ps:=U8) λ_ _ _ _ _ _ us hl=>by obtain ⟨_,rfl⟩:=Pu.ER hl;rfl
 have m18:=Hd.zR X G "bracketed" (.ref 154) (by kernel_rfl);have F19:=Hd.zX (K:=Kf w.params) "read_table" QH 161 (.str "bankwalk.texts" 307) (.ref 160) (by kernel_rfl) (by kernel_rfl) (by kernel_rfl);have b19:=F19.binds (ps:=V1) λ_ _ _ _ _ _ us hl=>by obtain ⟨_,rfl⟩:=Pu.ER hl;rfl
 have m19:=Hd.zR X G "read_table" (.ref 161) (by kernel_rfl);have F20:=Hd.zX (K:=Kf w.params) "read_joined" jC 168 (.str "bankwalk.texts" 307) (.ref 167) (by kernel_rfl) (by kernel_rfl) (by kernel_rfl);have b20:=F20.binds (ps:=VQ) λ_ _ _ _ _ _ us hl=>by obtain ⟨_,rfl⟩:=Pu.ER hl;rfl
 have m20:=Hd.zR X G "read_joined" (.ref 168) (by kernel_rfl);have F21:=Hd.zX (K:=Kf w.params) "read_dealing" jj 175 (.str "bankwalk.texts" 307) (.ref 174) (by kernel_rfl) (by kernel_rfl) (by kernel_rfl);have b21:=F21.binds (ps:=YF) λ_ _ _ _ _ _ us hl=>by obtain ⟨_,rfl⟩:=Pu.ER hl;rfl
 have m21:=Hd.zR X G "read_dealing" (.ref 175) (by kernel_rfl);have F22:=Hd.zX (K:=Kf w.params) "dealing_of" j6 182 (.str "bankwalk.texts" 307) (.ref 181) (by kernel_rfl) (by kernel_rfl) (by kernel_rfl);have b22:=F22.binds (ps:=V0) λ_ _ _ _ _ _ us hl=>by obtain ⟨_,rfl⟩:=Pu.ER hl;rfl
 have m22:=Hd.zR X G "dealing_of" (.ref 182) (by kernel_rfl);have F23:=Hd.zX (K:=Kf w.params) "_law_mix" YJ 189 (.str "law_bankwalk_k77_dealings_read" 405) (.ref 188) (by kernel_rfl) (by kernel_rfl) (by kernel_rfl);have b23:=F23.binds (ps:=CH) λ_ _ _ _ _ _ us hl=>by obtain ⟨_,_,rfl⟩:=Pu.qdp hl;rfl
 have m23:=Hd.zR X G "_law_mix" (.ref 189) (by kernel_rfl);have F24:=Hd.zX (K:=Kf w.params) "_law_left" JS 196 (.str "law_bankwalk_k77_dealings_read" 405) (.ref 195) (by kernel_rfl) (by kernel_rfl) (by kernel_rfl);have b24:=F24.binds (ps:=WC) λ_ _ _ _ _ _ us hl=>by obtain ⟨_,_,rfl⟩:=Pu.qdp hl;rfl
 have m24:=Hd.zR X G "_law_left" (.ref 196) (by kernel_rfl);have F25:=Hd.zX (K:=Kf w.params) "_law_pick" JE 203 (.str "law_bankwalk_k77_dealings_read" 405) (.ref 202) (by kernel_rfl) (by kernel_rfl) (by kernel_rfl);have b25:=F25.binds (ps:=D6) λ_ _ _ _ _ _ us hl=>by obtain ⟨_,_,rfl⟩:=Pu.qdp hl;rfl
 have m25:=Hd.zR X G "_law_pick" (.ref 203) (by kernel_rfl);have F26:=Hd.zX (K:=Kf w.params) "_law_sides" ZO 210 (.str "law_bankwalk_k77_dealings_read" 405) (.ref 209) (by kernel_rfl) (by kernel_rfl) (by kernel_rfl);have b26:=F26.binds (ps:=EK) λ_ _ _ _ _ _ us hl=>by obtain ⟨_,rfl⟩:=Pu.ER hl;rfl
 have m26:=Hd.zR X G "_law_sides" (.ref 210) (by kernel_rfl);have F27:=Hd.zX (K:=Kf w.params) "_law_gcd" YT 217 (.str "law_bankwalk_k77_dealings_read" 405) (.ref 216) (by kernel_rfl) (by kernel_rfl) (by kernel_rfl);have b27:=F27.binds (ps:=CG) λ_ _ _ _ _ _ us hl=>by obtain ⟨_,_,rfl⟩:=Pu.qdp hl;rfl
 have m27:=Hd.zR X G "_law_gcd" (.ref 217) (by kernel_rfl);have F28:=Hd.zX (K:=Kf w.params) "_law_skew" JA 224 (.str "law_bankwalk_k77_dealings_read" 405) (.ref 223) (by kernel_rfl) (by kernel_rfl) (by kernel_rfl);have b28:=F28.binds (ps:=WD) λ_ _ _ _ _ _ us hl=>by obtain ⟨_,rfl⟩:=Pu.ER hl;rfl
 have m28:=Hd.zR X G "_law_skew" (.ref 224) (by kernel_rfl);have F29:=Hd.zX (K:=Kf w.params) "_law_rests" ZL 231 (.str "law_bankwalk_k77_dealings_read" 405) (.ref 230) (by kernel_rfl) (by kernel_rfl) (by kernel_rfl);have b29:=F29.binds (ps:=EQ) λ_ _ _ _ _ _ us hl=>by obtain ⟨_,rfl⟩:=Pu.ER hl;rfl
 have m29:=Hd.zR X G "_law_rests" (.ref 231) (by kernel_rfl);have F30:=Hd.zX (K:=Kf w.params) "_law_bits" JH 236 (.str "law_bankwalk_k77_dealings_read" 405) (.ref 235) (by kernel_rfl) (by kernel_rfl) (by kernel_rfl);have b30:=F30.binds (ps:=WV) λ_ _ _ _ _ _ us hl=>by obtain ⟨_,_,rfl⟩:=Pu.qdp hl;rfl
 have m30:=Hd.zR X G "_law_bits" (.ref 236) (by kernel_rfl);have F31:=Hd.zX (K:=Kf w.params) "_law_table" ZB 241 (.str "law_bankwalk_k77_dealings_read" 405) (.ref 240) (by kernel_rfl) (by kernel_rfl) (by kernel_rfl);have b31:=F31.binds (ps:=U5) λ_ _ _ _ _ _ us hl=>by obtain ⟨_,rfl⟩:=Pu.ER hl;rfl
 have m31:=Hd.zR X G "_law_table" (.ref 241) (by kernel_rfl);have F32:=Hd.zX (K:=Kf w.params) "_law_small" Q9 246 (.str "law_bankwalk_k77_dealings_read" 405) (.ref 245) (by kernel_rfl) (by kernel_rfl) (by kernel_rfl);have b32:=F32.binds (ps:=EA) λ_ _ _ _ _ _ us hl=>by obtain ⟨_,rfl⟩:=Pu.ER hl;rfl
 have m32:=Hd.zR X G "_law_small" (.ref 246) (by kernel_rfl);have F33:=Hd.zX (K:=Kf w.params) "_law_dealing" jE 253 (.str "law_bankwalk_k77_dealings_read" 405) (.ref 252) (by kernel_rfl) (by kernel_rfl) (by kernel_rfl);have b33:=F33.binds (ps:=Y8) λ_ _ _ _ _ _ us hl=>by obtain ⟨_,rfl⟩:=Pu.ER hl;rfl
 have m33:=Hd.zR X G "_law_dealing" (.ref 253) (by kernel_rfl);have F34:=Hd.zX (K:=Kf w.params) "_law_dealing_words" zj 258 (.str "law_bankwalk_k77_dealings_read" 405) (.ref 257) (by kernel_rfl) (by kernel_rfl) (by kernel_rfl);have b34:=F34.binds (ps:=jV) λ_ _ _ _ _ _ us hl=>by obtain ⟨_,rfl⟩:=Pu.ER hl;rfl
 have m34:=Hd.zR X G "_law_dealing_words" (.ref 258) (by kernel_rfl);have F35:=Hd.zX (K:=Kf w.params) "_law_any_dealing" zG 263 (.str "law_bankwalk_k77_dealings_read" 405) (.ref 262) (by kernel_rfl) (by kernel_rfl) (by kernel_rfl);have b35:=F35.binds (ps:=QV) λ_ _ _ _ _ _ us hl=>by obtain ⟨_,rfl⟩:=Pu.ER hl;rfl
 have m35:=Hd.zR X G "_law_any_dealing" (.ref 263) (by kernel_rfl);have F36:=Hd.zX (K:=Kf w.params) "_law_same" JO 268 (.str "law_bankwalk_k77_dealings_read" 405) (.ref 267) (by kernel_rfl) (by kernel_rfl) (by kernel_rfl);have b36:=F36.binds (ps:=WQ) λ_ _ _ _ _ _ us hl=>by obtain ⟨_,_,rfl⟩:=Pu.qdp hl;rfl
 have m36:=Hd.zR X G "_law_same" (.ref 268) (by kernel_rfl);have F37:=Hd.zX (K:=Kf w.params) "_law_beyond" QA 273 (.str "law_bankwalk_k77_dealings_read" 405) (.ref 272) (by kernel_rfl) (by kernel_rfl) (by kernel_rfl);have b37:=F37.binds (ps:=V6) λ_ _ _ _ _ _ us hl=>by obtain ⟨_,rfl⟩:=Pu.ER hl;rfl
 have m37:=Hd.zR X G "_law_beyond" (.ref 273) (by kernel_rfl);have F38:=Hd.zX (K:=Kf w.params) "law" V9 280 (.str "law_bankwalk_k77_dealings_read" 405) (.ref 279) (by kernel_rfl) (by kernel_rfl) (by kernel_rfl);have g_isinstance:=Hd.WT X G "isinstance" (by kernel_rfl);have g_bool:=Hd.WT X G "bool" (by kernel_rfl);have g_int:=Hd.WT X G "int" (by kernel_rfl);have g_all:=Hd.WT X G "all" (by kernel_rfl);have g_len:=Hd.WT X G "len" (by kernel_rfl);have g_tuple:=Hd.WT X G "tuple" (by kernel_rfl);have g_str:=Hd.WT X G "str" (by kernel_rfl);have g_FIGURES:∃ t,mg "FIGURES" = some (.str "0123456789" t):=⟨309,Hd.zR X G "FIGURES" (.str "0123456789" 309) (by kernel_rfl)⟩
 have g_MOST_FIGURES:∃ t,mg "MOST_FIGURES" = some (.int 4 t):=⟨311,Hd.zR X G "MOST_FIGURES" (.int 4 311) (by kernel_rfl)⟩
 have g_enumerate:=Hd.WT X G "enumerate" (by kernel_rfl);have g_abs:=Hd.WT X G "abs" (by kernel_rfl);have g_range:=Hd.WT X G "range" (by kernel_rfl);have g_list:=Hd.WT X G "list" (by kernel_rfl);have g_zip:=Hd.WT X G "zip" (by kernel_rfl);have g_min:=Hd.WT X G "min" (by kernel_rfl);refine ⟨PySem.W.fnOf "law" "law" (VJ V9) (QK V9) (qj V9) .none .none .none (.str "law_bankwalk_k77_dealings_read" 405) none (.ref 279) .none,λs v=>.of_eq rfl,λbase Xb _=>?_⟩;have O_is_number:=KO (P:=l.prog) (w:=w) (base:=base) (k:=0) F0 b0 m0  g_isinstance g_bool g_int KS;have O_is_at_least:=RD (P:=l.prog) (w:=w) (base:=base) (k:=1) F1 b1 m1 O_is_number  C9;have O_are_at_least:=CD (P:=l.prog) (w:=w) (base:=base) (k:=2) F2 b2 m2 O_is_at_least g_all CJ;have O_share_no_divisor:=EL (P:=l.prog) (w:=w) (base:=base) (k:=0) F3 b3 m3   EO;have O_is_skew:=qaL (P:=l.prog) (w:=w) (base:=base) (k:=3) F4 b4 m4 O_are_at_least g_len qay;have O_is_rests:=M3 (P:=l.prog) (w:=w) (base:=base) (k:=3) F5 b5 m5 O_are_at_least (O_share_no_divisor.mono (by decide)) g_len NK;have O_is_bits:=qaz (P:=l.prog) (w:=w) (base:=base) (k:=3) F6 b6 m6 O_are_at_least g_len g_isinstance g_tuple g_all qaK;have O_is_bank_row:=RE (P:=l.prog) (w:=w) (base:=base) (k:=3) F7 b7 m7 O_are_at_least g_len g_isinstance g_tuple g_all C4;have O_is_table:=MW (P:=l.prog) (w:=w) (base:=base) (k:=4) F8 b8 m8 (O_is_at_least.mono (by decide)) O_is_bank_row g_len g_isinstance g_tuple g_all MR;have O_in_words:=MU (P:=l.prog) (w:=w) (base:=base) (k:=0) F11 b11 m11  g_str MO;have O_in_rows:=qaV (P:=l.prog) (w:=w) (base:=base) (k:=1) F12 b12 m12 O_in_words  qa9;have O_number_of_word:=WH (P:=l.prog) (w:=w) (base:=base) (k:=0) F14 b14 m14  g_FIGURES g_all g_len g_MOST_FIGURES g_int g_str WU;have O_numbers_of:=SU (P:=l.prog) (w:=w) (base:=base) (k:=1) F15 b15 m15 O_number_of_word g_tuple KB;have O_rows_of:=qaY (P:=l.prog) (w:=w) (base:=base) (k:=2) F16 b16 m16 O_numbers_of g_tuple qaG;have O_closing:=qaW (P:=l.prog) (w:=w) (base:=base) (k:=0) F17 b17 m17  g_enumerate qat;have O_bracketed:=LJ (P:=l.prog) (w:=w) (base:=base) (k:=1) F18 b18 m18 O_closing  LV;have O_read_table:=TD (P:=l.prog) (w:=w) (base:=base) (k:=3) F19 b19 m19 (O_number_of_word.mono (by decide)) O_rows_of  TR;have O_law_mix:=qa8 (P:=l.prog) (w:=w) (base:=base) (k:=0) F23 b23 m23   Bk.qaC;have O_law_left:=NG (P:=l.prog) (w:=w) (base:=base) (k:=0) F24 b24 m24  g_len g_abs Bk.NF;have O_law_pick:=MI (P:=l.prog) (w:=w) (base:=base) (k:=1) F25 b25 m25 O_law_mix  Bk.M2;have O_law_sides:=KY (P:=l.prog) (w:=w) (base:=base) (k:=2) F26 b26 m26 O_law_pick  Bk.LW;have O_law_gcd:=qa3 (P:=l.prog) (w:=w) (base:=base) (k:=0) F27 b27 m27   Bk.qa4;have O_law_skew:=MX (P:=l.prog) (w:=w) (base:=base) (k:=3) F28 b28 m28 O_law_sides (O_law_pick.mono (by decide))  Bk.M4;have O_law_rests:=LZ (P:=l.prog) (w:=w) (base:=base) (k:=3) F29 b29 m29 O_law_sides (O_law_pick.mono (by decide)) (O_law_gcd.mono (by decide)) g_range Bk.K0;have O_law_bits:=MZ (P:=l.prog) (w:=w) (base:=base) (k:=2) F30 b30 m30 O_law_pick g_range g_tuple Bk.NA;have O_law_table:=KM (P:=l.prog) (w:=w) (base:=base) (k:=3) F31 b31 m31 O_law_sides (O_law_pick.mono (by decide)) g_range g_tuple Bk.KN;have O_law_small:=LB (P:=l.prog) (w:=w) (base:=base) (k:=2) F32 b32 m32 O_law_pick (O_law_gcd.mono (by decide)) g_range g_tuple Bk.LA;have O_law_dealing:=RI (P:=l.prog) (w:=w) (base:=base) (k:=4) F33 b33 m33 (O_law_pick.mono (by decide)) O_law_skew O_law_rests (O_law_bits.mono (by decide)) O_law_table (O_law_small.mono (by decide))  Bk.RM;have O_law_any_dealing:=DH (P:=l.prog) (w:=w) (base:=base) (k:=5) F35 b35 m35 (O_law_pick.mono (by decide)) O_law_dealing g_range DI;have O_law_beyond:=S5 (P:=l.prog) (w:=w) (base:=base) (k:=2) F37 b37 m37 O_law_pick g_range g_tuple TJ;have O_is_dealing:∀ j:Nat,Fn3 l.prog w (Kf w.params) mg base (5+2*j) "is_dealing" (Pu.PSp (qy j) false):=λj=>by
  induction j with
  |zero=>exact (Pu.Fn3.pz (DQ (P:=l.prog) (w:=w) (base:=base) F10 b10 m10) false).mono (by decide)
  |succ j ih=>
   have O_is_joined:=K5 (P:=l.prog) (w:=w) (base:=base) (k:=5+2*j+0) F9 b9 m9 ih g_len (KT (qy j));exact TM (P:=l.prog) (w:=w) (base:=base) (k:=5+2*j+1) F10 b10 m10 (O_is_skew.mono (by omega)) (O_is_rests.mono (by omega)) (O_is_bits.mono (by omega)) (O_is_table.mono (by omega)) O_is_joined g_len g_isinstance g_tuple (TV j)
 have O_read_dealing:∀ j:Nat,Fn3 l.prog w (Kf w.params) mg base (4+2*j) "read_dealing" (Pu.PSp (qw j) false):=λj=>by
  induction j with
  |zero=>exact (Pu.Fn3.pz (DQ (P:=l.prog) (w:=w) (base:=base) F21 b21 m21) false).mono (by decide)
  |succ j ih=>
   have O_read_joined:=RN (P:=l.prog) (w:=w) (base:=base) (k:=4+2*j+0) F20 b20 m20 (O_bracketed.mono (by omega)) ih g_len (C5 (qw j));exact CY (P:=l.prog) (w:=w) (base:=base) (k:=4+2*j+1) F21 b21 m21 O_read_joined (O_read_table.mono (by omega)) (O_numbers_of.mono (by omega)) g_len (XN j)
 have O_dealing_of:=TB (P:=l.prog) (w:=w) (base:=base) (k:=65) F22 b22 m22 ((O_read_dealing 30).mono (by decide)) (O_is_dealing 30)  SQ;have O_dealing_text:∀ j:Nat,Fn3 l.prog w (Kf w.params) mg base (2+1*j) "dealing_text" (Pu.PSp (qV j) false):=λj=>by
  induction j with
  |zero=>exact (Pu.Fn3.pz (DQ (P:=l.prog) (w:=w) (base:=base) F13 b13 m13) false).mono (by decide)
  |succ j ih=>
   exact CS (P:=l.prog) (w:=w) (base:=base) (k:=2+1*j+0) F13 b13 m13 (O_in_words.mono (by omega)) (O_in_rows.mono (by omega)) ih  (CI j)
 have O_law_dealing_words:∀ j:Nat,Fn3 l.prog w (Kf w.params) mg base (0+1*j) "_law_dealing_words" (Pu.PSp (qt j) false):=λj=>by
  induction j with
  |zero=>exact (Pu.Fn3.pz (DQ (P:=l.prog) (w:=w) (base:=base) F34 b34 m34) false).mono (by decide)
  |succ j ih=>
   exact UX (P:=l.prog) (w:=w) (base:=base) (k:=0+1*j+0) F34 b34 m34 ih g_list g_str g_enumerate (UV j)
 have O_law_same:∀ j:Nat,Fn3 l.prog w (Kf w.params) mg base (0+1*j) "_law_same" (Bk.jT j):=λj=>by
  induction j with
  |zero=>exact (DQ (P:=l.prog) (w:=w) (base:=base) F36 b36 m36).mono (by decide)
  |succ j ih=>
   exact NQ (P:=l.prog) (w:=w) (base:=base) (k:=0+1*j+0) F36 b36 m36 ih g_isinstance g_list g_tuple g_zip g_all g_len g_str g_bool g_int (Bk.MM j)
 exact qkM (k:=66) F38 (O_law_left.mono (by decide)) (O_law_any_dealing.mono (by decide)) (O_law_beyond.mono (by decide)) ((O_law_dealing_words 30).mono (by decide)) O_dealing_of ((O_dealing_text 30).mono (by decide)) ((O_is_dealing 30).mono (by decide)) ((O_law_same 32).mono (by decide)) g_len g_min g_range (qjG qmM)
set_option maxRecDepth 100000 in
set_option maxHeartbeats 0 in
def qi7 (w : World) (os : OsState) : PySem.W.topRun treeTable PySem.Challenge.pw_bankwalk_k77_dealings_read w 11 (some (Value.ref 6)) 2 (⟨qhO w.params,281,{ },#[],{ },541,os⟩ : PySem.W.SharedT).abs (PySem.W.restOf [] qnb T8 ⟨259,0,268,15⟩ qlY) = some ⟨qhk w.params,#[],{ },541,os⟩ := by kernel_rfl
def qoV:(qeV++(qfD++[]))=qbe:=by kernel_rfl
set_option maxRecDepth 100000 in
set_option maxHeartbeats 0 in
def qip (w : World) (os : OsState) : PySem.W.topRun treeTable PySem.Challenge.pw_bankwalk_k77_dealings_read w 11 (some (Value.ref 6)) (12 + (1 + (820 + (776 + 2)))) ⟨PySem.W.boot_heap w.params,Array.mk [],PySem.W.boot_drawn,PySem.W.boot_toks,os⟩ (PySem.W.topStub PySem.Challenge.pw_bankwalk_k77_dealings_read) = some ⟨qhk w.params,#[],{ },541,os⟩ := by
 have h:=(PySem.W.piece_app (PySem.W.segRun_of (qlP w os)) (PySem.W.piece_app (PySem.W.segRun_of (qjl w os)) (qi7 w os)))
 rw [qoV] at h;exact PySem.W.go_top (qjE w os) (PySem.W.piece_block (qlX w os) h)
abbrev Q : Program := PySem.W.view PySem.Challenge.pw_bankwalk_k77_dealings_read [1,2,3,5,6,8,9,10,11,12,13,14,15,17,18,19,20,21,22,23,24,25,26,27,28,29,30,32,33,34,35,36,37,38,39,40,41,42,43,44,45,46,47]
set_option maxRecDepth 100000 in
set_option maxHeartbeats 0 in
def left : PySem.W.LeftO PySem.Challenge.pw_bankwalk_k77_dealings_read Q [] (λs => PySem.W.xlAt Q [] s && PySem.W.recOk [] s) (λs => ([3,20,21,27,28,32,33,64,65,71,72,78,79,83,84,88,89,93,94,100,101,107,108,112,113,117,118,124,125,129,130,134,135,139,140,146,147,153,154,160,161,167,168,174,175,181,182,188,189,195,196,202,203,209,210,216,217,223,224,230,231,235,236,240,241,245,246,252,253,257,258,262,263,267,268,272,273,279,280] : List Addr).map s.heap.get?) (λw => (Kf w.params).map λp => some p.2) 3314 :=
 PySem.W.LeftO.of_pieces (H₀:=PySem.W.boot_heap) (H₁:=qhk) (gs₀:=Array.mk []) (gs₁:=#[]) (d₀:=PySem.W.boot_drawn) (d₁:={ }) (k₀:=PySem.W.boot_toks) (k₁:=541) (m₀:=11) (ann:=some (Value.ref 6)) (M:=(12+(1+(820+(776+2)))))
  (PySem.W.boot_open (by kernel_rfl) (by kernel_rfl) (λs=>by kernel_rfl)) (λw=>by kernel_rfl) qip (by kernel_rfl) (λw=>by kernel_rfl)
end K77
open PySem PySem.W PyProof.Rows
set_option maxRecDepth 100000 in
set_option maxHeartbeats 0 in
theorem PySem.Challenge.cw_bankwalk_k77_dealings_read_holds : PySem.Challenge.rw_bankwalk_k77_dealings_read.Holds :=
 Hd.head (l := PySem.Challenge.rw_bankwalk_k77_dealings_read) (q := K77.Q) (loose := []) (K := K77.Kf) (as := [3,20,21,27,28,32,33,64,65,71,72,78,79,83,84,88,89,93,94,100,101,107,108,112,113,117,118,124,125,129,130,134,135,139,140,146,147,153,154,160,161,167,168,174,175,181,182,188,189,195,196,202,203,209,210,216,217,223,224,230,231,235,236,240,241,245,246,252,253,257,258,262,263,267,268,272,273,279,280]) (N := 3314) (k := 67) (x := "_law_script")
  (d:=⟨"law",L2.VJ K77.V9,L2.QK K77.V9,L2.qj K77.V9,⟨259,0,268,15⟩⟩) (λ_=>by kernel_rfl) (by kernel_rfl) K77.left (by kernel_rfl) (by kernel_rfl) (by kernel_rfl) (by kernel_rfl) (by kernel_rfl)
  ⟨rfl,rfl,rfl,rfl,rfl,by decide +kernel⟩ (by w_witness2) rfl (by kernel_rfl) ⟨rfl,by decide,by decide,rfl⟩ (λw=>by kernel_rfl) λw mg fa h KX G hmg=>K77.qkk KX G hmg
