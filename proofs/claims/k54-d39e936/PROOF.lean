import PyProof.Rows.All
import Wide.All
import OpenK.AllK
import Wide.FinOn
import Lean
import PyProof.EqAt
import PyProof.EqKinds
import PyProof.TupleCall
import PyProof.NeKinds
import KE.KRevSl
import PyProof.FactsAll.bool_2
import PyProof.Rows.EqBoolInt
import PyProof.Rows.IntBool
import KE.KUnpackStar
import KE.KIntText
import KE.KSortTup
import PySem.Challenge.RW_bankwalk_k54_walks_in_joined_dealings
set_option Elab.async false
set_option genSizeOf false
set_option genInjectivity false
set_option compiler.extract_closed false
set_option bootstrap.genMatcherCode false
theorem zA0 {p:Prop} (h:p:=by rfl):p:=h
theorem zA1 {p:Prop} (h:p:=by decide):p:=h
theorem zA2 {p:Prop} (h:p:=by kernel_rfl):p:=h
theorem zA3 {p:Prop} (h:p:=by intro _;rfl):p:=h
theorem zA4 {p:Prop} (h:p:=by first|exact .inl rfl|exact .inr rfl|assumption):p:=h
theorem zA5 {p:Prop} (h:p:=by first|exact Or.inl rfl|exact Or.inr rfl):p:=h
theorem zA6 {p:Prop} (h:p:=by first|exact .inl rfl|exact .inr rfl):p:=h
theorem zA7 {p:Prop} (h:p:=by intro _ _ _ _;rfl):p:=h
theorem zA8 {p:Prop} (h:p:=by with_unfolding_all rfl):p:=h
theorem zA9 {p:Prop} (h:p:=by decide +kernel):p:=h
theorem zA10 {p:Prop} (h:p:=by intros;rfl):p:=h
theorem zA11 {p:Prop} (h:p:=by intro _ _;rfl):p:=h
theorem zA12 {p:Prop} (h:p:=by intro _ _ _ h;simpa [qe,qw] using h):p:=h
theorem zA13 {p:Prop} (h:p:=by exact Hd.sc0):p:=h
noncomputable section
open List renaming getElem?_cons_succ→x6,getElem?_cons_zero→x8,getElem_cons_zero→x9,getElem_cons_succ→y6,getElem?_eq_getElem→u7,mem_cons_of_mem→za0,mem_append_right→za1,mem_of_getElem?→za3,mem_cons_self→za7,getElem_mem→za8
open PySem renaming wpAny_bind→y8,wpAny_pure→y9,wpAny_mono→v4,sizeLine_eq→v9,boot_len→zb1
open PySem.Heap renaming get?_push_of_some→v5,get?_push_size→v6,lt_size→v7
open Bool renaming false_ne_true→v8
open Nat renaming zero_lt_succ→u8,le_refl→u9,lt_of_lt_of_le→za2,le_trans→za4,ne_of_lt→za5,lt_add_one→za6
open PyProof.Rows renaming boot_tuple→zb2,boot_max→zb3,boot_list→zb4
open List renaming length_map→zd9,size_toArray→ze3,getD_eq_getElem?_getD→ze4,getElem?_map→ze5,length_cons→ze8,mem_cons→ze9,not_mem_nil→zf0,mem_map→zf4,length_nil→zf5,drop_eq_getElem_cons→zf6,map_cons→zg2,getElem?_set→zg3,set_cons_zero→zg4,range→zg5,getElem?_append_left→zg7,map_map→zg8,length_append→zg9,append_nil→zh0,map_nil→zh8,set_cons_succ→zh9,mem_range→zi0,mem_filter→zi5,lookup_cons→zi6,all_eq_true→zi7,length_filter_le→zi8,getElem?_append_right→zj2,nodup_cons→zj4,length_take→zj7,exists_cons_of_length_pos→zj8,mem_flatMap→zj9,length_singleton→zk3,mem_append→zk7,cons_append→zm6,map_append→zm8,nil_append→zm9,all_cons→zn1,replicate→zn4,getElem?_replicate→zn7,pairwise_map→zn8,length_set→zn9,take_length→zp8,getElem?_eq_none→xa2,pairwise_iff_getElem→xa5,exists_mem_of_ne_nil→xa6,take_succ_eq_append_getElem→xa9,flatMap_cons→xb0,map_congr_left→xb5,map_flatMap→xc1,replicate_one→xc7,mem_iff_getElem?→xd0,take_add_one→xd3,getElem?_set_ne→xd5,nodup_iff_pairwise_ne→xd9,mem_iff_getElem→xe1,exists_cons_of_ne_nil→xe3,zipIdx_cons→xe4,filterMap_cons→xe7,replicate_zero→xe9,flatMap_append→xf0,any_cons→xf2,mem_filterMap→xg2,getElem?_set_self→xh2,reverse_cons→xh4,append_assoc→xh5,drop_length→xi6,getElem?_range→xk8,length_pos_iff→xk9,length_range→xm1,map_inj_right→xm9
open PySem renaming starEach→ze0,foldedSetIterable→zf1,compareOp→zi1,mainGlobals→zi2,mem_of_lookup→zi3,wpAny_field→zj3,cellsFrom→zj6,bootBuiltins→zk6,wpAny_callSpecial?_slot→zk9,wpAny_newObj_type→zm1,wpAny_seqItems→zm3,backTo→zn3,wpAny_truthy_bool→zn6,wpAny_holding→zp4,wpAny_standAt→zp5,strKind→zp6,wpAny_setField_rec→xa0,wpAny_passesOwn→xa7,wpAny_pyIter_list→xa8,assignEach→xb2,setSearchFrom→xb4,binaryOp→xb7,wpAny_call_entry→xb8,wpAny_Call_Name_kw→xc4,behindInMarks→xc9,wpAny_setState_of→xd2,IsPair→xd7,holding→xf7,swapsWith→xg7,sliceBounds→xg8,assign→xi4,wpAny_updateSeq_pair→xk1,wpAny_execs_nil→xk3,letOwnedTupleGo→xk4,wpAny_loadPart'→xk6,codeAny_mono→xm2,treeTable→xm5,wpAny_rule→xm6
open PySem.Str renaming ofString→ze1
open Bool renaming false_eq_true→ze2,and_eq_true→zf9,not_true→zg1,eq_iff_iff→zm7,not_false→zn5,false_and→xb6,and_false→xb9,true_and→xf5,and_self→xn7
open Function renaming comp_def→ze6
open Option renaming bind_some→ze7,isSome_iff_exists→xf1,map_some→xf9,isSome_some→xg4,toList_some→xg6,getD_some→xi9
open Nat renaming zero_add→zf2,mul_le_mul→zh7,zero_le→zj1,ne_of_gt→zj5,lt_or_ge→zk8,lt_irrefl→zp3,lt_succ_self→zp7,not_lt_zero→xf8,ble→xg1,sub_add_cancel→xg5,lt_trichotomy→xh6,div_div_eq_div_mul→xh7,pow_le_pow_right→xk2,pow_succ→xm3,sub_self→xm4,le_succ→xn3
open Int renaming eq_ofNat_of_zero_le→zf3,toNat_natCast→zf8,emod_lt_of_pos→zg0,emod_nonneg→zh6,mul_le_mul_of_nonneg_right→zk0,add_mul_ediv_right→zk1,ediv_eq_zero_of_lt→zk2,add_mul_emod_self_right→zm0,zero_add→zn2,add_comm→zp2,mul_le_mul_of_nonneg_left→xc2,gcd→xc6,cast_ofNat_Int→xc8,emod_eq_of_lt→xd4,mul_le_mul→xe2,natCast_pos→xg0,zero_le_ofNat→xh8,toNat_zero→xh9,ediv_lt_of_lt_mul→xi3,ediv_nonneg→xk7,toNat_of_nonneg→xm0,toNat_one→xn8
open PySem.Builtin.SmallTypes renaming nextOf→zf7,ownedTupleIsFree→zk4,ownedTupleHandOut→xe8
open PySem.PassesOwn renaming never→zg6
open PySem.Heap renaming size_push→zi4,SameBut→xc3,get?_update_self→xi2
open PyProof.Rows renaming callWith_type1→zi9,boot_bool→zp1,boot_min→xa3,subscriptTail_builtinR→xc5,boot_all→xd1,envOfC→xg3,slot_tuple_getitem→xi1,callWith_builtin1→xi5
open PySem.Builtin renaming bitAnd→zj0
open PySem.SetTable renaming insertAt→zk5,sizeAbove→xg9,runEnd→xi8
open PySem.W renaming emptyDict→zm2,fnOf→zn0,keepIn→xd6,instObj→xf6,Frag→xh1,codeIn→xh3,boot_o_10→xi0,boot_o_0→xj2,boot_o_1→xj3,boot_o_2→xj4,boot_o_4→xj5,boot_o_5→xj6,boot_o_6→xj7,boot_o_7→xj8,boot_o_8→xj9,boot_o_9→xk0,kitAny→xm8,boot_drawn→xn0,methodObj→xn1,boot_heap→xn5,boot_toks→xn6
open Option.some renaming injEq→zm4
open Array renaming length_toList→zm5,getElem?_eq_some_iff→xd8,getD→xi7
open List.cons renaming injEq→zp0
open PySem.F renaming slot_tuple_iterator_next→zp9,slot_zip_next→xk5
open PySem.PyData.tuple renaming injEq→xa1
open PySem.Builtin.Slice renaming slicePlaces→xa4,sliceAdjust→xe5
open PySem.Value renaming isStrOf→xb1
open PySem.Builtin.Tuple renaming tupleExact→xb3
open Classical renaming propDecidable→xc0,byContradiction→xe6
open PySem.PyData renaming keyHash→xe0
open PySem.Builtin.List renaming listTooLong→xf3
open List.Pairwise renaming imp_of_mem→xf4
open PyProof.Rows.F renaming plain_set_update_loop→xh0
open PySem.Obj renaming putSet→xj0
open PySem.PyData.int renaming injEq→xj1
open PySem.Calls renaming spliced_cons→xm7,spliced_nil→xn2
open Std renaming le_refl→xn4
open PySem.SetTable.probe renaming go→xn9
theorem za9:type_of% @decide_eq_false:=@decide_eq_false
theorem zb0:type_of% @decide_eq_true:=@decide_eq_true
def zb5{α β:Type}{b:β}{f:α->β}{o:Option α}(h:o.map f=some b):=Option.map_eq_some_iff.mp h
def zb6{α:Type}{l:List α}{i:Nat}{a:α}(h:l[i]?=some a):=List.getElem?_eq_some_iff.mp h
noncomputable abbrev zb7:PySem.Value:=.str "law_bankwalk_k54_walks_in_joined_dealings" 501
noncomputable abbrev zb8:PySem.Value:=.str "bankwalk.dealings" 278
noncomputable abbrev zb9:PySem.Value:=.str "bankwalk.clashes" 454
noncomputable abbrev zc0:PySem.Value:=.str "bankwalk.basics" 187
noncomputable abbrev zc1:PySem.Value:=.str "bankwalk.lanes" 474
noncomputable abbrev zc2:PySem.Value:=.str "bankwalk.walks" 366
noncomputable abbrev zc3:PySem.Str:="bankwalk.errors"
abbrev Frg:=xh1
open List (length_cons length_nil set_cons_zero set_cons_succ length_map not_mem_nil map_cons mem_cons getElem?_set getElem?_map cons_append size_toArray map_map mem_map length_append getD_eq_getElem?_getD mem_range length_range)
theorem obb{α β:Type _}{o:Option α}{f:α->Option β}{b:β}(h:o.bind f=some b):∃a,o=some a/\f a=some b:=Option.bind_eq_some_iff.mp h
set_option linter.all false
set_option maxRecDepth 100000
namespace L2
open PySem PySem.Spec PyProof.Rows
abbrev Key:=Sum Int Str
noncomputable def qkn:Key->Value->Bool
 |.inl k,v=>Value.isInt k v
 |.inr x,v=>xb1 x v
noncomputable def qrO (w:World):Key->Int
 |.inl k=>hashInt k
 |.inr x=>hashStr w x
theorem zt:∀ {k:Key} {v:Value},qkn k v=true->(∃ i t,k=Sum.inl i/\v=Value.int i t)\/(∃ x t,k=Sum.inr x/\v=Value.str x t)
 |.inl i,v,h=>by
  obtain ⟨t,e⟩:=Value.isInt_shape (k:=i) (v:=v) h;exact .inl ⟨i,t,rfl,e⟩
 |.inr x,v,h=>by
  obtain ⟨t,e⟩:=Value.isStrOf_shape (x:=x) (v:=v) h;exact .inr ⟨x,t,rfl,e⟩
theorem qk8 (a b:Int):decide ((Sum.inl a:Key)=Sum.inl b)=(a==b):=by
 by_cases e:a=b
 ·subst e;simp
 ·have h:¬ (Sum.inl a:Key)=Sum.inl b:=λq=>e (Sum.inl.inj q);rw [za9 h];exact (beq_eq_false_iff_ne.mpr e).symm
theorem qmc (a b:Str):decide ((Sum.inr a:Key)=Sum.inr b)=decide (a=b):=by
 by_cases e:a=b
 ·subst e;simp
 ·have h:¬ (Sum.inr a:Key)=Sum.inr b:=λq=>e (Sum.inr.inj q);rw [za9 h,za9 e]
theorem qkq (a:Int) (b:Str):decide ((Sum.inl a:Key)=Sum.inr b)=false:=za9 (λq=>nomatch q)
theorem qkW (a:Str) (b:Int):decide ((Sum.inr a:Key)=Sum.inl b)=false:=za9 (λq=>nomatch q)
def qbi (prog:Program) (w:World):PySem.KeyKind prog w Key where
 is:=qkn
 hash:=qrO w
 inj:=λv a b ha hb=>by
  rcases zt ha with ⟨i,t,rfl,rfl⟩|⟨x,t,rfl,rfl⟩
  ·rcases zt hb with ⟨j,u,rfl,e⟩|⟨y,u,rfl,e⟩
   ·injection e with e1 _;rw [e1]
   ·exact nomatch e
  ·rcases zt hb with ⟨j,u,rfl,e⟩|⟨y,u,rfl,e⟩
   ·exact nomatch e
   ·injection e with e1 _;rw [e1]
 byValue:=λk v h=>by
  rcases zt h with ⟨i,t,rfl,rfl⟩|⟨x,t,rfl,rfl⟩<;>rfl
 pyHash:=λhv h=>by
  rcases zt hv with ⟨i,t,rfl,rfl⟩|⟨x,t,rfl,rfl⟩
  ·exact wpAny_pyHash_int h
  ·exact wpAny_pyHash_str h
 eqBool:=λhu hv h=>by
  rcases zt hu with ⟨i,t,rfl,rfl⟩|⟨x,t,rfl,rfl⟩
  ·rcases zt hv with ⟨j,u,rfl,rfl⟩|⟨y,u,rfl,rfl⟩
   ·rw [qk8] at h;exact wpAny_eqBool_int h
   ·rw [qkq] at h;exact SeqAt.EqAt.int_str i t y u _ _ _ _ h
  ·rcases zt hv with ⟨j,u,rfl,rfl⟩|⟨y,u,rfl,rfl⟩
   ·rw [qkW] at h;exact SeqAt.EqAt.str_int x t j u _ _ _ _ h
   ·rw [qmc] at h;exact wpAny_eqBool_str h
 «strs»:=λk x t v h=>by
  rcases zt h with ⟨i,u,rfl,e⟩|⟨y,u,rfl,e⟩
  ·exact nomatch e
  ·injection e with e1 _;subst e1;cases v<;>rfl
set_option genInjectivity true in
inductive V where
 |non|bl (b:Bool)|int (i:Int)|str (x:Str)|byt (b:Array UInt8)|flt (b:UInt64)|ref (a:Addr)|ty (n:String)
 deriving DecidableEq
def zK:V->Value->Prop
 |.non,u=>u=Value.none
 |.bl b,u=>u=Value.bool b
 |.int i,u=>∃ t,u=Value.int i t
 |.str x,u=>∃ t,u=Value.str x t
 |.byt b,u=>∃ t,u=Value.bytes b t
 |.flt b,u=>∃ t,u=Value.float b t
 |.ref a,u=>u=Value.ref a
 |.ty n,u=>u=Value.type n
abbrev zJ:List V->List Value->Prop:=Paired zK
variable {us:List Value}
theorem zJ.length {xs:List V} (r:zJ xs us):xs.length=us.length:=Paired.length r
theorem zJ.get:∀ {xs:List V} {us:List Value} {i:Nat} {x:V},zJ xs us->xs[i]?=some x->∃ u,us[i]?=some u/\zK x u
 |_,_,_,_,.nil,e=>by simp at e
 |_,_,0,_,.cons r _,e=>by simp at e;subst e;exact ⟨_,rfl,r⟩
 |_,_,i+1,x,.cons _ t,e=>by
  obtain ⟨u,h1,h2⟩:=zJ.get (i:=i) (x:=x) t (by simpa using e);exact ⟨u,by simpa using h1,h2⟩
theorem zJ.set {x:V} {u:Value} (r:zK x u):∀ {xs:List V} {us:List Value} (i:Nat),zJ xs us->zJ (xs.set i x) (us.set i u)
 |_,_,_,.nil=>.nil
 |_,_,0,.cons _ t=>.cons r t
 |_,_,i+1,.cons q t=>.cons q (zJ.set r i t)
theorem zJ.append:∀ {xs ys:List V} {us ws:List Value},zJ xs us->zJ ys ws->zJ (xs++ys) (us++ws)
 |_,_,_,_,.nil,s=>s
 |_,_,_,_,.cons r t,s=>.cons r (zJ.append t s)
theorem zJ.take:∀ {xs:List V} {us:List Value} (n:Nat),zJ xs us->zJ (xs.take n) (us.take n)
 |_,_,0,_=>.nil
 |_,_,_+1,.nil=>.nil
 |_,_,n+1,.cons r t=>.cons r (zJ.take n t)
theorem zJ.drop:∀ {xs:List V} {us:List Value} (n:Nat),zJ xs us->zJ (xs.drop n) (us.drop n)
 |_,_,0,r=>r
 |_,_,_+1,.nil=>.nil
 |_,_,n+1,.cons _ t=>zJ.drop n t
def qrI:Option V->Option Value->Prop
 |some v,some u=>zK v u
 |none,none=>True
 |_,_=>False
def KV {κ:Type}:List (κ×V)->List (κ×Value)->Prop:=Paired λ(p:κ×V) (q:κ×Value)=>p.1=q.1/\zK p.2 q.2
noncomputable def kV:Key->V
 |.inl i=>.int i
 |.inr x=>.str x
inductive HO where
 |lst (xs:List V)
 |tup (xs:List V)
 |dK (kvs:List (Key×V))|dT (kvs:List (List Key×V))
 |set (S:Int->Bool) (n:Nat)
 |ins (C dx:Addr) (fs:List (Str×V))
 |own (x:Addr)
 |xd (fs:List (Str×V))
 |met (f x:Addr)
 |rng (lo hi:Int)
 |frz (o:Obj) (u:HO)
 |tbl (ps:Array Value)
 |ext (φ:Heap->Prop)
abbrev Hp:=Addr->Option HO
noncomputable def upd (H:Hp) (a:Addr) (o:HO):Hp:=λb=>if b=a then some o else H b
variable {H:Hp} {a:Addr} {o:HO}
theorem zn:upd H a o a=some o:=by unfold upd;rw [if_pos rfl]
variable {b:Addr}
theorem qO (h:b≠a):upd H a o b=H b:=by unfold upd;rw [if_neg h]
theorem qP (h:H a=some o) (h':H b=none):a≠b:=by
 intro e;subst e;rw [h] at h';cases h'
def DY (h:Heap) (a:Addr) (items:Array Value):Prop:=∃ o,h.get? a=some o/\o.cls=.type "tuple"/\∃ n,o.data=.seq items n/\o.dict=none
variable {h:Heap}
theorem DY.tup {items:Array Value} (x:DY h a items):IsTup h a items:=let ⟨o,a,b,n,d,_⟩:=x;⟨o,a,b,n,d⟩
theorem DY.new (h:Heap) (items:Array Value):DY (h.push { cls:=.type "tuple",data:=.seq items }) h.objs.size items:=⟨_,v6 _ rfl,rfl,_,rfl,rfl⟩
section
variable (P:Program) (w:World)
def JF (H:Hp) (h:Heap) (a:Addr):HO->Prop
 |.lst xs=>xs.length<=sizeLine/\∃ (its:List Value) (n:Nat),zJ xs its/\h.get? a=some { cls:=.type "list",data:=.seq its.toArray n }
 |.tup xs=>xs.length<=sizeLine/\∃ its:List Value,zJ xs its/\DY h a its.toArray
 |.dK kvs=>kvs.length<=sizeLine/\(a==sysModules)=false/\∃ vs,KV kvs vs/\h.DictOf (qbi P w) a vs
 |.dT kvs=>kvs.length<=sizeLine/\(a==sysModules)=false/\∃ xs:List (List Key×Addr×Value),
   Paired (λ(p:List Key×V) (q:List Key×Addr×Value)=>p.1=q.1/\H q.2.1=some (.tup (p.1.map kV))/\zK p.2 q.2.2) kvs xs /\
   ∃ o es ep,h.get? a=some o/\o.ExactDict/\o.data=.dict es ep/\es.toList=xs.map (entryOfKey (tupleKind (qbi P w)))/\(xs.map (·.1)).Nodup
 |.set S n=>h.SetOf (intKind P w) a S n
 |.ins C dx fs=>H dx=some (.own a)/\fs.length<=1000/\dx≠a/\h.get? a=some (xf6 C dx) /\
   ∃ mA,h.Ns1 dx mA/\(∀ f,qrI (fs.lookup f) (mA f))/\PySem.Within mA (fs.map (·.1))
 |.own _=>∃ o,h.get? a=some o
 |.xd fs=>∃ mA,h.Ns1 a mA/\∀ f,qrI (fs.lookup f) (mA f)
 |.rng lo hi=>∃ t u v,h.get? a=some { cls:=.type "range",data:=.fields #[.int lo t,.int hi u,.int 1 v] }
 |.frz o u=>h.get? a=some o/\JF H h a u
 |.tbl ps=>h.get? a=some { cls:=.none,data:=.fields ps }
 |.met f x=>h.get? a=some (xn1 (.ref f) (.ref x))
 |.ext φ=>φ h/\(∃ o,h.get? a=some o)/\∀ h1 h2:Heap,φ h1->(∀ o,h1.get? a=some o->h2.get? a=some o)->φ h2
def HOk (H:Hp) (h:Heap):Prop:=∀ a o,H a=some o->JF P w H h a o
end
variable {P:Program} {w:World} {H':Hp} {h':Heap}
theorem JF.lt (x:JF P w H h a o):a<h.objs.size:=by
 cases o with
 |lst xs=>obtain ⟨_,_,_,_,e⟩:=x;exact v7 e
 |tup xs=>obtain ⟨_,_,_,p⟩:=x;exact p.tup.lt
 |dK kvs=>obtain ⟨_,_,_,_,o,_,_,e,_⟩:=x;exact v7 e
 |dT kvs=>obtain ⟨_,_,_,_,o,_,_,e,_⟩:=x;exact v7 e
 |set S n=>obtain ⟨o,_,_,_,e,_⟩:=x;exact v7 e
 |ins C dx fs=>obtain ⟨_,_,_,e,_⟩:=x;exact v7 e
 |own y=>obtain ⟨_,e⟩:=x;exact v7 e
 |xd fs=>obtain ⟨_,⟨_,_,_,e,_⟩,_⟩:=x;exact v7 e
 |rng lo hi=>obtain ⟨_,_,_,e⟩:=x;exact v7 e
 |frz ob u=>obtain ⟨e,_⟩:=x;exact v7 e
 |tbl ps=>exact v7 (show h.get? a=some _ from x)
 |met f y=>exact v7 (show h.get? a=some _ from x)
 |ext φ=>obtain ⟨_,⟨_,e⟩,_⟩:=x;exact v7 e
theorem Paired.mapP {α β:Type} {F G:α->β->Prop}:∀ {l₁:List α} {l₂:List β},Paired F l₁ l₂->(∀ a b,F a b->G a b)->Paired G l₁ l₂
 |_,_,.nil,_=>.nil
 |_,_,.cons r t,f=>.cons (f _ _ r) (Paired.mapP t f)
theorem JF.stay (x:JF P w H h a o) (k:∀ b u,(b=a\/H b=some (.own a))->h.get? b=some u->h'.get? b=some u)
  (ho:∀ b,H b=some (.own a)->H' b=some (.own a)) (ht:∀ b xs,H b=some (.tup xs)->H' b=some (.tup xs)):JF P w H' h' a o:=by
 induction o with
 |lst xs=>obtain ⟨z,its,n,r,e⟩:=x;exact ⟨z,its,n,r,k _ _ (.inl rfl) e⟩
 |tup xs=>obtain ⟨z,its,r,ob,e,c⟩:=x;exact ⟨z,its,r,ob,k _ _ (.inl rfl) e,c⟩
 |dK kvs=>obtain ⟨z,y,vs,r,ob,es,ep,e,c⟩:=x;exact ⟨z,y,vs,r,ob,es,ep,k _ _ (.inl rfl) e,c⟩
 |dT kvs=>
  obtain ⟨z,y,xs,r,ob,es,ep,e,c⟩:=x;exact ⟨z,y,xs,Paired.mapP r λp q z=>⟨z.1,ht _ _ z.2.1,z.2.2⟩,ob,es,ep,k _ _ (.inl rfl) e,c⟩
 |set S n=>obtain ⟨ob,es,ep,t,e,c⟩:=x;exact ⟨ob,es,ep,t,k _ _ (.inl rfl) e,c⟩
 |ins C dx fs=>
  obtain ⟨d,z,ne,e,mA,⟨od,es,ep,e2,c⟩,r⟩:=x;exact ⟨ho _ d,z,ne,k _ _ (.inl rfl) e,mA,⟨od,es,ep,k _ _ (.inr d) e2,c⟩,r⟩
 |own y=>obtain ⟨ob,e⟩:=x;exact ⟨ob,k _ _ (.inl rfl) e⟩
 |xd fs=>obtain ⟨mA,⟨od,es,ep,e,c⟩,r⟩:=x;exact ⟨mA,⟨od,es,ep,k _ _ (.inl rfl) e,c⟩,r⟩
 |rng lo hi=>obtain ⟨t,u,v,e⟩:=x;exact ⟨t,u,v,k _ _ (.inl rfl) e⟩
 |frz ob u ih=>obtain ⟨e,q⟩:=x;exact ⟨k _ _ (.inl rfl) e,ih q⟩
 |tbl ps=>
  have e:h.get? a=some { cls:=.none,data:=.fields ps }:=x;show h'.get? a=some { cls:=.none,data:=.fields ps };exact k a _ (.inl rfl) e
 |met f y=>
  have e:h.get? a=some (xn1 (.ref f) (.ref y)):=x;show h'.get? a=some (xn1 (.ref f) (.ref y));exact k a _ (.inl rfl) e
 |ext φ=>obtain ⟨p,⟨o,e⟩,st⟩:=x;exact ⟨st _ _ p λo q=>k _ _ (.inl rfl) q,⟨o,k _ _ (.inl rfl) e⟩,st⟩
theorem HOk.lt (x:HOk P w H h) (e:H a=some o):a<h.objs.size:=(x a o e).lt
theorem HOk.fresh (x:HOk P w H h) (e:h.objs.size<=a):H a=none:=by
 cases q:H a with
 |none=>rfl
 |some u=>exact absurd (za2 (x.lt q) e) (zp3 _)
theorem HOk.kept (x:HOk P w H h) (k:∀ b u,h.get? b=some u->h'.get? b=some u):HOk P w H h':=λa o e=>
 (x a o e).stay (λb u _ q=>k b u q) (λ_ q=>q) λ_ _ q=>q
theorem HOk.laid (x:HOk P w H h) (k:∀ b u,h.get? b=some u->h'.get? b=some u) (hp:h.objs.size<=a) (new:JF P w (upd H a o) h' a o):HOk P w (upd H a o) h':=λb u e=>by
 have hn:=x.fresh hp;by_cases hb:b=a
 ·subst hb;rw [zn] at e;cases e;exact new
 ·rw [qO hb] at e;exact (x b u e).stay (λc v _ q=>k c v q) (λc q=>by rw [qO (qP q hn)];exact q) λc xs q=>by rw [qO (qP q hn)];exact q
def Rd (H:Hp) (a:Addr) (u:HO):Prop:=H a=some u\/∃ o,H a=some (.frz o u)
theorem Rd.ok {u:HO} (r:Rd H a u) (x:HOk P w H h):JF P w H h a u:=by
 rcases r with r|⟨o,r⟩
 ·exact x a u r
 ·obtain ⟨_,q⟩:=x a _ r;exact q
def Mut:Option HO->Prop
 |some (.lst _)=>True
 |some (.dK _)=>True
 |some (.dT _)=>True
 |some (.set _ _)=>True
 |some (.ins _ _ _)=>True
 |some (.ext _)=>True
 |_=>False
section
variable {x e:Addr} {o':HO}
theorem HOk.write (ok:HOk P w H h) (mu:Mut (H x)) (he:e=x\/H e=some (.own x)) (k:∀ b u,b≠e->h.get? b=some u->h'.get? b=some u) (heo:∃ u,h'.get? e=some u)
  (new:JF P w (upd H x o') h' x o'):HOk P w (upd H x o') h':=λb u q=>by
 have nown:∀ c y,H c=some (.own y)->c≠x:=λc y r z=>by subst z;rw [r] at mu;exact mu
 have ntup:∀ c xs,H c=some (.tup xs)->c≠x:=λc xs r z=>by subst z;rw [r] at mu;exact mu
 by_cases hb:b=x
 ·subst hb;rw [zn] at q;cases q;exact new
 ·rw [qO hb] at q;by_cases hbe:b=e
  ·have q':H b=some (.own x):=by
    rcases he with z|z
    ·exact absurd (hbe.trans z) hb
    ·rw [hbe];exact z
   rw [q] at q';cases q';obtain ⟨v,hv⟩:=heo;exact ⟨v,by rw [hbe];exact hv⟩
  ·refine (ok b u q).stay (λc v hc r=>k c v ?_ r) (λc r=>by rw [qO (nown c b r)];exact r) λc xs r=>by rw [qO (ntup c xs r)];exact r
   rcases hc with rfl|hc
   ·exact hbe
   ·rintro rfl;rcases he with z|z
    ·exact nown c b hc z
    ·rw [hc] at z;cases z;exact hb rfl
end
structure Un (fs ex:List Addr) (H H':Hp) (h h':Heap):Prop where
 keep:∀ b o,h.get? b=some o->H b=none->b∉fs->b∉ex->h'.get? b=some o
 slot:∀ b o,h.get? b=some o->H b=none->b∈fs->b∉ex->∃ sl,h'.get? b=some { o with slots:=sl }
 free:∀ b o,h.get? b=some o->H b=none->b∉ex->H' b=none
 there:∀ b o,h.get? b=some o->b∉ex->∃ o',h'.get? b=some o'
 tups:∀ b xs,H b=some (.tup xs)->H' b=some (.tup xs)
 frzs:∀ b o u,H b=some (.frz o u)->H' b=some (.frz o u)
 tbls:∀ b ps,H b=some (.tbl ps)->∃ more,H' b=some (.tbl (ps++more))
section
variable {fs fs' ex ex':List Addr} {H1 H2:Hp} {h1 h2:Heap} {x e:Addr}
theorem Un.any (u:Un fs ex H H1 h h1) {ob:Obj} (q:h.get? b=some ob) (n:H b=none) (hx:b∉ex):∃ sl,h1.get? b=some { ob with slots:=sl }:=by
 by_cases hb:b∈fs
 ·exact u.slot b ob q n hb hx
 ·exact ⟨ob.slots,u.keep b ob q n hb hx⟩
theorem Un.kept (k:∀ b u,h.get? b=some u->h'.get? b=some u):Un fs ex H H h h':=
 ⟨λb ob q _ _ _=>k b ob q,λb ob q _ _ _=>⟨ob.slots,k b ob q⟩,λ_ _ _ n _=>n,λb ob q _=>⟨ob,k b ob q⟩,λ_ _ q=>q,λ_ _ _ q=>q,λ_ ps q=>⟨#[],by rw [q];simp⟩⟩
theorem Un.refl:Un fs ex H H h h:=Un.kept λ_ _ q=>q
theorem Un.laid (k:∀ b u,h.get? b=some u->h'.get? b=some u) (hp:h.objs.size<=a) (hn:H a=none):Un fs ex H (upd H a o) h h' where
 keep:=λb u q _ _ _=>k b u q
 slot:=λb u q _ _ _=>⟨u.slots,k b u q⟩
 free:=λb u q n _=>by rw [qO (za5 (za2 (v7 q) hp))];exact n
 there:=λb u q _=>⟨u,k b u q⟩
 tups:=λb xs q=>by rw [qO (qP q hn)];exact q
 frzs:=λb u xs q=>by rw [qO (qP q hn)];exact q
 tbls:=λb ps q=>⟨#[],by rw [qO (qP q hn),q];simp⟩
theorem Un.write (mu:Mut (H x)) (he:e=x\/H e=some (.own x)) (k:∀ b u,b≠e->h.get? b=some u->h'.get? b=some u) (heo:∃ u,h'.get? e=some u):Un fs ex H (upd H x o) h h':=by
 have hx:∀ b,H b=none->b≠x:=λb n z=>by subst z;rw [n] at mu;exact mu
 have hb:∀ b,H b=none->b≠e:=λb n z=>by
  subst z;rcases he with r|r
  ·exact hx b n r
  ·rw [n] at r;cases r
 have hm:∀ b u,H b=some u->¬ Mut (some u)->b≠x:=λb u q nm z=>by subst z;rw [q] at mu;exact nm mu
 refine ⟨λb u q n _ _=>k b u (hb b n) q,λb u q n _ _=>⟨u.slots,k b u (hb b n) q⟩,λb u q n _=>by rw [qO (hx b n)];exact n,λb u q _=>?_,
  λb xs q=>by rw [qO (hm b _ q λz=>z)];exact q,λb u xs q=>by rw [qO (hm b _ q λz=>z)];exact q,λb ps q=>⟨#[],by rw [qO (hm b _ q λz=>z),q];simp⟩⟩
 by_cases hbe:b=e
 ·subst hbe;exact heo
 ·exact ⟨u,k b u hbe q⟩
end
noncomputable def trk (h:Heap) (H:Hp):List Addr:=(zg5 h.objs.size).filter λa=>(H a).isSome
def qeg (h:Heap) (H:Hp):Heap:=PySem.W.hideAll h (trk h H)
theorem qbJ (h:Heap) (H:Hp):(qeg h H).objs.size=h.objs.size:=PySem.W.hideAll_size _ _
theorem qem {o:Obj} (e:h.get? b=some o) (n:H b=none):(qeg h H).get? b=some o:=
 PySem.W.hideAll_get _ e λhm=>by
  have q:(H b).isSome=true:=(zi5.mp hm).2;rw [n] at q;simp at q
theorem qiI {o:Obj} (e:(qeg h H).get? b=some o):h.get? b=some o/\H b=none:=by
 have e':h.get? b=some o:=PySem.W.of_hideAll (trk h H) e;refine ⟨e',?_⟩;cases q:H b with
 |none=>rfl
 |some x=>
  have hm:b∈trk h H:=zi5.mpr ⟨zi0.mpr (v7 e'),by simp [q]⟩;have z:(qeg h H).get? b=none:=PySem.W.hideAll_none (trk h H) hm;rw [z] at e;cases e
noncomputable def qjn (g h:Heap) (L:Addr):List (Addr×Obj):=(zg5 h.objs.size).filterMap λa=>if a=L\/(g.get? a).isSome=true then none else (h.get? a).map λo=>(a,o)
def jz (g h:Heap) (L d:Addr):List (Addr×Obj):=(qjn g h L).filter λp=>decide (p.1≠d)
structure Mod (K:Frg) (mg:Str->Option Value) (base:Heap):Prop where
 kin:K.In base
 glob:base.Ns zi2 mg
 blt:∃ mb,base.Ns builtinsNs mb/\∀ x:Str,x≠"__name__" -> mb x=zk6 x
 nolimit:base.NoLimit
structure Cx where
 prog:Program
 w:World
 K:xh1
 mg:Str->Option Value
 base:Heap
 A:Around
 N:List Str
 s₀:Shared
 H₀:Hp
 env:Env
 outer:List Env
 stack:List Env
 ex:List Addr
 fn:Str->Bool
 calm:Bool
 pn:List (Addr×Obj)
 xe:Value->Shared->Prop
noncomputable def frs (l:List Env):List Addr:=l.filterMap (·.frame)
abbrev Cx.fs (X:Cx):List Addr:=frs X.outer
def Vis (sc:Scope) (x:Str):Prop:=sc.names.lookup x=some .local\/sc.names.lookup x=some .cell\/sc.names.lookup x=some .free
def Loc (sc:Scope) (x:Str):Prop:=sc.names.lookup x=some .local\/sc.names.lookup x=some .cell
def qsa (env:Env) (h:Heap) (m:Str->Option Value) (x:Str) (u:Value):Prop:=
 (env.kindOf x=some .local/\m x=some u)\/((env.kindOf x=some .cell\/env.kindOf x=some .free)/\∃ c,env.cells.lookup x=some c/\h.IsCell c (some u))
structure Cx.Ok (X:Cx):Prop where
 mod:Mod X.K X.mg X.base
 kind:X.env.scope.kind=.function
 glob:X.env.globals=zi2
 blt:X.env.builtins=builtinsNs
 above:X.s₀.heap.objs.size<=X.env.locals
 inj:∀ x y c,X.env.cells.lookup x=some c->X.env.cells.lookup y=some c->x=y
 has:∀ x,(X.env.kindOf x=some .cell\/X.env.kindOf x=some .free)->∃ c,X.env.cells.lookup x=some c
 cab:∀ x c,X.fn x=true->X.env.cells.lookup x=some c->X.s₀.heap.objs.size<=c
 hd:X.calm=true->X.A.handled=none
 frames:X.A.frames=some X.stack
 stk:X.stack=X.outer\/(X.stack=X.env::X.outer/\X.env.frame=some X.env.locals)
 exf:∀ b∈X.ex,b≠X.env.locals/\∀ x c,X.env.cells.lookup x=some c->c≠b
 bs:∀ b o,X.base.get? b=some o->X.s₀.heap.get? b=some o/\X.H₀ b=none
 bsz:X.base.objs.size<=X.s₀.heap.objs.size
 noex:∀ b o,X.base.get? b=some o->b∉X.ex
 exfs:∀ b∈X.ex,b∉X.fs
 funs:X.s₀.heap.FunFrames X.base X.outer
 frf:∀ b∈X.fs,X.H₀ b=none
structure Inv (X:Cx) (pins:List (Addr×Obj)) (σ:List (Option V)) (H:Hp) (s:Shared):Prop where
 ok:X.Ok
 os:s.os=X.s₀.os
 bare:AllBare s.gens
 base:Un X.fs X.ex X.H₀ H X.s₀.heap s.heap
 loc:∃ m,s.heap.Ns X.env.locals m/\∀ (i:Nat) (x:Str) (v:V),X.N[i]?=some x->σ[i]?=some (some v)->Vis X.env.scope x->∃ u,zK v u/\qsa X.env s.heap m x u
 cell:∀ x c,X.env.cells.lookup x=some c->∃ v,s.heap.IsCell c v
 free:H X.env.locals=none
 freeC:∀ x c,X.env.cells.lookup x=some c->H c=none
 pin:∀ p∈X.pn++pins,s.heap.get? p.1=some p.2/\H p.1=none/\p.1≠X.env.locals/\p.1∉X.fs/\∀ v,p.2.data≠.cell v
 hok:HOk X.prog X.w H s.heap
 len:σ.length=X.N.length
variable {X:Cx} {pins:List (Addr×Obj)} {s:Shared} {t' i j:Nat} {x:Str}
section
variable {σ:List (Option V)}
theorem Cx.Ok.nofr (ok:X.Ok) {o:Obj} (e:X.base.get? b=some o):b∉X.fs:=λhb=>by
 have:=(ok.funs.mem hb).1;rw [e] at this;cases this
theorem Inv.bs (I:Inv X pins σ H s):∀ b o,X.base.get? b=some o->s.heap.get? b=some o/\H b=none:=λb o e=>
 ⟨I.base.keep b o (I.ok.bs b o e).1 (I.ok.bs b o e).2 (I.ok.nofr e) (I.ok.noex b o e),I.base.free b o (I.ok.bs b o e).1 (I.ok.bs b o e).2 (I.ok.noex b o e)⟩
theorem Inv.bk (I:Inv X pins σ H s):∀ b o,X.base.get? b=some o->s.heap.get? b=some o:=λb o e=>(I.bs b o e).1
theorem Inv.mod (I:Inv X pins σ H s):Mod X.K X.mg X.base:=I.ok.mod
theorem Inv.kIn (I:Inv X pins σ H s):X.K.In s.heap:=I.ok.mod.kin.keeps I.bk
theorem Inv.nolimit (I:Inv X pins σ H s):s.heap.NoLimit:=I.ok.mod.nolimit.keeps I.bk
theorem Inv.fr (I:Inv X pins σ H s):∃ m,Fr X.base X.env.locals s.heap m:=
 let ⟨m,hn,_⟩:=I.loc
 ⟨m,hn,I.bk,za4 I.ok.bsz I.ok.above⟩
theorem Inv.lt (I:Inv X pins σ H s):X.env.locals<s.heap.objs.size:=let ⟨_,hn,_⟩:=I.loc;hn.lt
theorem Inv.sz (I:Inv X pins σ H s):X.s₀.heap.objs.size<=s.heap.objs.size:=za4 I.ok.above (Nat.le_of_lt I.lt)
theorem Inv.nofs (I:Inv X pins σ H s) (h:s.heap.objs.size<=a):a∉X.fs:=λhb=>by
 obtain ⟨_,o,ho,_⟩:=I.ok.funs.mem hb;exact absurd (za2 (v7 ho) (za4 I.sz h)) (zp3 _)
theorem Inv.cne (I:Inv X pins σ H s):∀ x c,X.env.cells.lookup x=some c->c≠X.env.locals:=λx c e z=>by
 obtain ⟨v,o,ho,hd⟩:=I.cell x c e;obtain ⟨m,⟨o',es,ep,ho',hd',_⟩,_⟩:=I.loc;rw [z,ho'] at ho;cases ho;rw [hd'] at hd;cases hd
theorem Inv.funs (I:Inv X pins σ H s):s.heap.FunFrames X.base X.outer:=by
 have all:∀ (l:List Env),(∀ b∈frs l,b∈X.fs)->X.s₀.heap.FunFrames X.base l->s.heap.FunFrames X.base l:=by
  intro l;induction l with
  |nil=>intro _ _;trivial
  |cons env r ih=>
   intro hs hl;obtain ⟨hk,⟨L,o,hf,hn,ho,hd⟩,hr⟩:=hl;have hL:L∈X.fs:=hs L (by unfold frs;rw [xe7,hf];exact za7);obtain ⟨sl,e⟩:=I.base.slot L o ho (I.ok.frf L hL) hL λz=>I.ok.exfs L z hL;exact ⟨hk,⟨L,_,hf,hn,e,hd⟩,ih (λb hb=>hs b (by unfold frs;rw [xe7,hf];exact za0 _ hb)) hr⟩
 exact all X.outer (λ_ hb=>hb) I.ok.funs
theorem Inv.stack (I:Inv X pins σ H s):s.heap.FunFrames X.base X.stack:=by
 rcases I.ok.stk with e|⟨e,hf⟩
 ·rw [e];exact I.funs
 ·rw [e];obtain ⟨m,hn,_⟩:=I.loc;refine .cons (by rw [I.ok.kind];decide) hf hn ?_ I.funs;exact Heap.get?_none_of_le (za4 I.ok.bsz I.ok.above)
theorem Inv.stkSub (I:Inv X pins σ H s):∀ b∈frs X.stack,b∈X.env.locals::X.fs:=λb hb=>by
 rcases I.ok.stk with e|⟨e,hf⟩
 ·rw [e] at hb;exact za0 _ hb
 ·rw [e] at hb;unfold frs at hb;rw [xe7,hf] at hb;exact hb
theorem Inv.stkFree (I:Inv X pins σ H s):∀ b∈frs X.stack,H b=none:=λb hb=>by
 rcases ze9.mp (I.stkSub b hb) with e|hb
 ·rw [e];exact I.free
 ·obtain ⟨_,o,ho,_⟩:=I.ok.funs.mem hb;exact I.base.free b o ho (I.ok.frf b hb) λz=>I.ok.exfs b z hb
theorem Inv.step {g':Array GenState} {t':Nat} {d':Drawn} {ch:List Addr} (I:Inv X pins σ H s)
  (hch:∀ b∈ch,(b∈X.ex\/X.s₀.heap.objs.size<=b)/\b≠X.env.locals/\(∀ x c,X.env.cells.lookup x=some c->c≠b)/\∀ p∈X.pn++pins,p.1≠b)
  (keep:∀ b o,b≠X.env.locals->b∉X.fs->b∉ch->s.heap.get? b=some o->H b=none->h'.get? b=some o)
  (slot:∀ b o,b≠X.env.locals->b∈X.fs->b∉ch->s.heap.get? b=some o->H b=none->∃ sl,h'.get? b=some { o with slots:=sl }) (free:∀ b o,b∉ch->s.heap.get? b=some o->H b=none->H' b=none)
  (there:∀ b o,b∉ch->s.heap.get? b=some o->∃ o',h'.get? b=some o')
  (tups:∀ b xs,H b=some (.tup xs)->H' b=some (.tup xs)) (frzs:∀ b o u,H b=some (.frz o u)->H' b=some (.frz o u)) (tbls:∀ b ps,H b=some (.tbl ps)->∃ more,H' b=some (.tbl (ps++more)))
  (ns:∀ m,s.heap.Ns X.env.locals m->h'.Ns X.env.locals m) (hok:HOk X.prog X.w H' h') (hg:AllBare g') :
  Inv X pins σ H' { s with heap:=h',gens:=g',drawn:=d',toks:=t' }:=by
 have neL:∀ b o,X.s₀.heap.get? b=some o->b≠X.env.locals:=λb o e=>za5 (za2 (v7 e) I.ok.above);have neC:∀ b o,X.s₀.heap.get? b=some o->b∉X.ex->b∉ch:=λb o e hx hb=>by
  rcases (hch b hb).1 with z|z
  ·exact hx z
  ·exact absurd (za2 (v7 e) z) (zp3 _)
 have cellK:∀ x c,X.env.cells.lookup x=some c->∀ v,s.heap.IsCell c v->h'.IsCell c v:=λx c e v ⟨o,ho,hd⟩=>by
  have nch:c∉ch:=λz=>(hch c z).2.2.1 x c e rfl;by_cases hc:c∈X.fs
  ·obtain ⟨sl,q⟩:=slot c o (I.cne x c e) hc nch ho (I.freeC x c e);exact ⟨_,q,hd⟩
  ·exact ⟨o,keep c o (I.cne x c e) hc nch ho (I.freeC x c e),hd⟩
 refine ⟨I.ok,I.os,hg,⟨λb o e n hb hx=>?_,λb o e n hb hx=>?_,λb o e n hx=>?_,λb o e hx=>?_,λb xs e=>tups b xs (I.base.tups b xs e),λb o xs e=>frzs b o xs (I.base.frzs b o xs e),λb ps e=>?_⟩,?_,λx c e=>?_,?_,λx c e=>?_,λp hp=>?_,hok,I.len⟩
 ·exact keep b o (neL b o e) hb (neC b o e hx) (I.base.keep b o e n hb hx) (I.base.free b o e n hx)
 ·obtain ⟨sl,e1⟩:=I.base.slot b o e n hb hx;obtain ⟨sl',e2⟩:=slot b _ (neL b o e) hb (neC b o e hx) e1 (I.base.free b o e n hx);exact ⟨sl',e2⟩
 ·obtain ⟨o',e1⟩:=I.base.there b o e hx;exact free b o' (neC b o e hx) e1 (I.base.free b o e n hx)
 ·obtain ⟨o',e1⟩:=I.base.there b o e hx;exact there b o' (neC b o e hx) e1
 ·obtain ⟨m1,e1⟩:=I.base.tbls b ps e;obtain ⟨m2,e2⟩:=tbls b _ e1;exact ⟨m1++m2,by rw [e2,Array.append_assoc]⟩
 ·obtain ⟨m,hn,hl⟩:=I.loc;refine ⟨m,ns m hn,λi x v e1 e2 e3=>?_⟩;obtain ⟨u,r,l⟩:=hl i x v e1 e2 e3;refine ⟨u,r,?_⟩;rcases l with l|⟨k,c,e,z⟩
  ·exact .inl l
  ·exact .inr ⟨k,c,e,cellK x c e _ z⟩
 ·obtain ⟨v,z⟩:=I.cell x c e;exact ⟨v,cellK x c e v z⟩
 ·obtain ⟨m,⟨o,_,_,ho,_⟩,_⟩:=I.loc;exact free _ o (λz=>(hch _ z).2.1 rfl) ho I.free
 ·obtain ⟨v,o,ho,hd⟩:=I.cell x c e;exact free c o (λz=>(hch c z).2.2.1 x c e rfl) ho (I.freeC x c e)
 ·obtain ⟨e,n,ne,nf,d⟩:=I.pin p hp;have nch:p.1∉ch:=λz=>(hch p.1 z).2.2.2 p hp rfl;exact ⟨keep p.1 p.2 ne nf nch e n,free p.1 p.2 nch e n,ne,nf,d⟩
theorem Inv.un (I:Inv X pins σ H s) (u:Un X.fs [] H H' s.heap h') (hok:HOk X.prog X.w H' h'):Inv X pins σ H' { s with heap:=h',toks:=t' }:=by
 obtain ⟨m,⟨o,es,ep,ho,r⟩,_⟩:=id I.loc;obtain ⟨sl,hL⟩:=u.any ho I.free (by simp);exact I.step (g':=s.gens) (d':=s.drawn) (ch:=[]) (λ_ z=>nomatch z) (λb o _ hb _ e n=>u.keep b o e n hb (by simp)) (λb o _ hb _ e n=>u.slot b o e n hb (by simp)) (λb o _ e n=>u.free b o e n (by simp)) (λb o _ e=>u.there b o e (by simp)) u.tups u.frzs u.tbls (λm' hm=>by
  obtain ⟨o',es',ep',ho',r'⟩:=hm;rw [ho] at ho';cases ho';exact ⟨_,es',ep',hL,r'⟩) hok I.bare
theorem Inv.call {g':Array GenState} {t':Nat} {d':Drawn} {ch:List Addr} (I:Inv X pins σ H s) (u:Un (frs X.stack) ch H H' s.heap h') (hok:HOk X.prog X.w H' h') (hg:AllBare g')
  (hch:∀ b∈ch,(b∈X.ex\/X.s₀.heap.objs.size<=b)/\b≠X.env.locals/\(∀ x c,X.env.cells.lookup x=some c->c≠b)/\∀ p∈X.pn++pins,p.1≠b) :
  Inv X pins σ H' { s with heap:=h',gens:=g',drawn:=d',toks:=t' }:=by
 obtain ⟨m,⟨o,es,ep,ho,r⟩,_⟩:=id I.loc;obtain ⟨sl,hL⟩:=u.any ho I.free λz=>(hch _ z).2.1 rfl;exact I.step (ch:=ch) hch (λb o hL hb hc e n=>u.keep b o e n (λz=>(ze9.mp (I.stkSub b z)).elim hL hb) hc) (λb o _ _ hc e n=>u.any e n hc) (λb o hc e n=>u.free b o e n hc) (λb o hc e=>u.there b o e hc) u.tups u.frzs u.tbls (λm' hm=>by
  obtain ⟨o',es',ep',ho',r'⟩:=hm;rw [ho] at ho';cases ho';exact ⟨_,es',ep',hL,r'⟩) hok hg
theorem Inv.turned {t':Nat} {it:Addr} (I:Inv X pins σ H s) (k:∀ b o,b≠it->s.heap.get? b=some o->h'.get? b=some o) (hn:H it=none) (hL:it≠X.env.locals)
  (h1:it∈X.ex\/X.s₀.heap.objs.size<=it) (h2:∀ x c,X.env.cells.lookup x=some c->c≠it) (h3:∀ p∈X.pn++pins,p.1≠it):Inv X pins σ H { s with heap:=h',toks:=t' }:=by
 have nit:∀ b u,H b=some u->b≠it:=λb u e z=>by rw [z,hn] at e;cases e
 refine I.step (g':=s.gens) (d':=s.drawn) (ch:=[it]) (λb hb=>?_) (λb o _ _ hc e _=>k b o (λz=>hc (by simp [z])) e) (λb o _ _ hc e _=>⟨o.slots,k b o (λz=>hc (by simp [z])) e⟩) (λ_ _ _ _ n=>n)
  (λb o hc e=>⟨o,k b o (λz=>hc (by simp [z])) e⟩) (λ_ _ e=>e) (λ_ _ _ e=>e) (λb ps e=>⟨#[],by rw [e];simp⟩) (λm hm=>?_) (λb u e=>?_) I.bare
 ·have e:b=it:=by simpa using hb
  subst e;exact ⟨h1,hL,h2,h3⟩
 ·obtain ⟨o,es,ep,ho,r⟩:=hm;exact ⟨o,es,ep,k _ o (Ne.symm hL) ho,r⟩
 ·refine (I.hok b u e).stay (λc v hc q=>k c v ?_ q) (λ_ q=>q) λ_ _ q=>q;rcases hc with z|z
  ·rw [z];exact nit b u e
  ·exact nit c _ z
theorem Inv.tok (I:Inv X pins σ H s) (t:Nat):Inv X pins σ H { s with toks:=t }:=I.un (h':=s.heap) (t':=t) Un.refl I.hok
theorem Inv.kept (I:Inv X pins σ H s) (k:∀ b u,s.heap.get? b=some u->h'.get? b=some u):Inv X pins σ H { s with heap:=h',toks:=t' }:=I.un (Un.kept k) (I.hok.kept k)
theorem Inv.laid {t':Nat} (I:Inv X pins σ H s) (k:∀ b u,s.heap.get? b=some u->h'.get? b=some u) (hp:s.heap.objs.size<=a) (new:JF X.prog X.w (upd H a o) h' a o) :
  Inv X pins σ (upd H a o) { s with heap:=h',toks:=t' }:=I.un (Un.laid k hp (I.hok.fresh hp)) (I.hok.laid k hp new)
theorem Inv.write {x e:Addr} {o:HO} {t':Nat} (I:Inv X pins σ H s) (mu:Mut (H x)) (he:e=x\/H e=some (.own x)) (k:∀ b u,b≠e->s.heap.get? b=some u->h'.get? b=some u) (heo:∃ u,h'.get? e=some u)
  (new:JF X.prog X.w (upd H x o) h' x o):Inv X pins σ (upd H x o) { s with heap:=h',toks:=t' }:=I.un (Un.write mu he k heo) (I.hok.write mu he k heo new)
theorem Inv.pins_of {pins':List (Addr×Obj)} (I:Inv X pins σ H s) (h:∀ p∈pins',s.heap.get? p.1=some p.2/\H p.1=none/\p.1≠X.env.locals/\p.1∉X.fs/\∀ v,p.2.data≠.cell v):Inv X pins' σ H s:=
 ⟨I.ok,I.os,I.bare,I.base,I.loc,I.cell,I.free,I.freeC,λp hp=>(zk7.mp hp).elim (λz=>I.pin p (List.mem_append_left _ z)) (h p),I.hok,I.len⟩
theorem NJ {N:List Str} (hN:N.Nodup) (a:N[i]?=some x) (b:N[j]?=some x):i=j:=by
 obtain ⟨h1,e1⟩:=zb6 a;obtain ⟨h2,e2⟩:=zb6 b;exact (List.getElem_inj hN).mp (e1.trans e2.symm)
theorem XN {M:Model} {A:Around} {E:Value->Shared->Prop} {i:Nat} {x:Str} {v:V} {u:Value} {Q:Unit->Shared->Prop} (I:Inv X pins σ H s) (hN:X.N.Nodup) (hi:X.N[i]?=some x) (hx:Loc X.env.scope x) (r:zK v u)
  (h:∀ s',Inv X pins (σ.set i (some v)) H s'->(∃ a,xc3 a s.heap s'.heap/\(a=X.env.locals\/X.env.cells.lookup x=some a))->Q () s') (hf:autoParam (X.fn x=true\/X.env.scope.names.lookup x=some .local) zA4._auto_1):wpAny M A (storeName X.env x u) Q E s:=by
 obtain ⟨m,hn,hl⟩:=id I.loc;have hcls:(X.env.scope.kind==.class||(X.env.scope.kind==.module&&X.env.locals != X.env.globals))=false:=by rw [I.ok.kind];rfl
 have hiσ:i<σ.length:=by rw [I.len];exact (zb6 hi).1
 have cne:=I.cne;have tracked:∀ {a:Addr} {h':Heap},(∃ o,s.heap.get? a=some o/\H a=none)->xc3 a s.heap h'->HOk X.prog X.w H h':=λ{a h'} ha hs b ob e=>by
  obtain ⟨_,_,hfree⟩:=ha;refine (I.hok b ob e).stay (λc w' hc q=>(hs.2 c ?_).trans q) (λ_ q=>q) λ_ _ q=>q;rintro rfl;rcases hc with rfl|hc
  ·rw [hfree] at e;cases e
  ·rw [hfree] at hc;cases hc
 rcases hx with hk|hk
 ·refine wpAny_storeName_local hk hn (λh' hn' hs=>?_) hcls;obtain ⟨oL,_,_,hoL,_⟩:=id hn;refine h _ ⟨I.ok,I.os,I.bare,⟨λb o e n hb hx=>?_,λb o e n hb hx=>?_,I.base.free,λb o e hx=>?_,I.base.tups,I.base.frzs,I.base.tbls⟩,⟨_,hn',λj y v' e1 e2 e3=>?_⟩,λy c e=>?_,I.free,I.freeC,λp hp=>?_,tracked ⟨oL,hoL,I.free⟩ hs,by simpa using I.len⟩ ⟨_,hs,.inl rfl⟩
  ·exact (hs.2 b (za5 (za2 (v7 e) I.ok.above))).trans (I.base.keep b o e n hb hx)
  ·obtain ⟨sl,e1⟩:=I.base.slot b o e n hb hx;exact ⟨sl,(hs.2 b (za5 (za2 (v7 e) I.ok.above))).trans e1⟩
  ·obtain ⟨o',e1⟩:=I.base.there b o e hx;exact ⟨o',(hs.2 b (za5 (za2 (v7 e) I.ok.above))).trans e1⟩
  ·by_cases hj:j=i
   ·subst hj;rw [hi] at e1;cases e1;rw [xh2 hiσ] at e2;cases e2;exact ⟨u,r,.inl ⟨hk,by simp⟩⟩
   ·rw [xd5 (Ne.symm hj)] at e2;obtain ⟨u',r',q⟩:=hl j y v' e1 e2 e3;refine ⟨u',r',?_⟩;rcases q with ⟨k,e⟩|⟨k,c,e,z⟩
    ·refine .inl ⟨k,?_⟩;have:y≠x:=λe=>hj (NJ hN e1 (e▸hi));simp [this,e]
    ·exact .inr ⟨k,c,e,z.sameBut hs (cne y c e)⟩
  ·obtain ⟨w',z⟩:=I.cell y c e;exact ⟨w',z.sameBut hs (cne y c e)⟩
  ·obtain ⟨e,n,ne,nf,d⟩:=I.pin p hp;exact ⟨(hs.2 p.1 ne).trans e,n,ne,nf,d⟩
 ·have hfn:X.fn x=true:=by
   rcases hf with z|z
   ·exact z
   ·rw [z] at hk;cases hk
  obtain ⟨c,hc⟩:=I.ok.has x (.inl hk);obtain ⟨w',z⟩:=I.cell x c hc;refine wpAny_storeName_cell I.ok.kind hk hc z (λh' hc' hs=>?_);obtain ⟨oc,hoc,hocd⟩:=id z;refine h { s with heap:=h' } ⟨I.ok,I.os,I.bare,⟨λb o e n hb hx=>?_,λb o e n hb hx=>?_,I.base.free,λb o e hx=>?_,I.base.tups,I.base.frzs,I.base.tbls⟩,⟨m,hn.sameBut hs (Ne.symm (cne x c hc)),λj y v' e1 e2 e3=>?_⟩,λy c' e=>?_,I.free,I.freeC,λp hp=>?_,tracked ⟨oc,hoc,I.freeC x c hc⟩ hs,by simpa using I.len⟩ ⟨c,hs,.inr hc⟩
  ·exact (hs.2 b (za5 (za2 (v7 e) (I.ok.cab x c hfn hc)))).trans (I.base.keep b o e n hb hx)
  ·obtain ⟨sl,e1⟩:=I.base.slot b o e n hb hx;exact ⟨sl,(hs.2 b (za5 (za2 (v7 e) (I.ok.cab x c hfn hc)))).trans e1⟩
  ·obtain ⟨o',e1⟩:=I.base.there b o e hx;exact ⟨o',(hs.2 b (za5 (za2 (v7 e) (I.ok.cab x c hfn hc)))).trans e1⟩
  ·by_cases hj:j=i
   ·subst hj;rw [hi] at e1;cases e1;rw [xh2 hiσ] at e2;cases e2;exact ⟨u,r,.inr ⟨.inl hk,c,hc,hc'⟩⟩
   ·rw [xd5 (Ne.symm hj)] at e2;obtain ⟨u',r',q⟩:=hl j y v' e1 e2 e3;refine ⟨u',r',?_⟩;rcases q with q|⟨k,c',e,z'⟩
    ·exact .inl q
    ·refine .inr ⟨k,c',e,z'.sameBut hs ?_⟩;rintro rfl;exact hj (NJ hN e1 (I.ok.inj _ _ _ e hc▸hi))
  ·by_cases hcc:c'=c
   ·subst hcc;exact ⟨_,hc'⟩
   ·obtain ⟨w2,z2⟩:=I.cell y c' e;exact ⟨w2,z2.sameBut hs hcc⟩
  ·obtain ⟨e,n,ne,nf,d⟩:=I.pin p hp;refine ⟨(hs.2 p.1 ?_).trans e,n,ne,nf,d⟩;intro q;rw [q,hoc] at e;have q':oc=p.2:=Option.some.inj e;exact d w' (by rw [← q'];exact hocd)
theorem UC {M:Model} {A:Around} {E:Value->Shared->Prop} {i:Nat} {x:Str} {v:V} {u:Value} {Q:Unit->Shared->Prop} (I:Inv X pins σ H s) (hN:X.N.Nodup) (hi:X.N[i]?=some x) (hx:Loc X.env.scope x) (r:zK v u)
  (h:∀ s',Inv X pins (σ.set i (some v)) H s'->Q () s') (hf:autoParam (X.fn x=true\/X.env.scope.names.lookup x=some .local) zA4._auto_1):wpAny M A (storeName X.env x u) Q E s:=
 XN I hN hi hx r (λs' I' _=>h s' I') hf
theorem Inv.call' {s':Shared} {ch:List Addr} (I:Inv X pins σ H s) (ho:s'.os=s.os) (u:Un (frs X.stack) ch H H' s.heap s'.heap) (hok:HOk X.prog X.w H' s'.heap) (hg:AllBare s'.gens)
  (hch:∀ b∈ch,(b∈X.ex\/X.s₀.heap.objs.size<=b)/\b≠X.env.locals/\(∀ x c,X.env.cells.lookup x=some c->c≠b)/\∀ p∈X.pn++pins,p.1≠b):Inv X pins σ H' s':=by
 obtain ⟨h',g',d',t',o'⟩:=s';have e:o'=s.os:=ho;subst e;exact I.call (g':=g') (t':=t') (d':=d') u hok hg hch
end
abbrev XK:=Value->Option Addr->Hp->Prop
abbrev St:=List (Option V)
abbrev VK:=V->Hp->Prop
abbrev TE:=St->Hp->VK->Prop
abbrev TT:=St->Hp->(Bool->Hp->Prop)->Prop
abbrev TA:=St->Hp->(List V->Hp->Prop)->Prop
structure Ends where
 nx:St->Hp->Prop
 rt:VK
 bk:St->Hp->Prop:=λ_ _=>False
 ct:St->Hp->Prop:=λ_ _=>False
abbrev TS:=Ends->St->Hp->Prop
def EP (X:Cx) (pins:List (Addr×Obj)) (σ:St) (Q:VK) (u:Value) (s':Shared):Prop:=∃ v H',Inv X pins σ H' s'/\zK v u/\Q v H'
def TP (X:Cx) (pins:List (Addr×Obj)) (σ:St) (Q:Bool->Hp->Prop) (b:Bool) (s':Shared):Prop:=∃ H',Inv X pins σ H' s'/\Q b H'
def AP (X:Cx) (pins:List (Addr×Obj)) (σ:St) (Q:List V->Hp->Prop) (us:List Value) (s':Shared):Prop:=∃ vs H',Inv X pins σ H' s'/\zJ vs us/\Q vs H'
def SP (X:Cx) (pins:List (Addr×Obj)) (D:Ends) (f:Flow) (s':Shared):Prop:=
 match f with
 |.next=>∃ σ' H',Inv X pins σ' H' s'/\D.nx σ' H'
 |.brk=>∃ σ' H',Inv X pins σ' H' s'/\D.bk σ' H'
 |.cont=>∃ σ' H',Inv X pins σ' H' s'/\D.ct σ' H'
 |.ret u=>∃ v σ' H',Inv X pins σ' H' s'/\zK v u/\D.rt v H'
def PE (X:Cx) (e:Expr) (t:TE):Prop:=
 ∀ (pins:List (Addr×Obj)) (s:Shared) (σ:St) (H:Hp) (Q:VK),Inv X pins σ H s->t σ H Q->wpAny (model X.prog X.w) X.A (eval e X.env) (EP X pins σ Q) X.xe s
def PT (X:Cx) (e:Expr) (t:TT):Prop:=
 ∀ (pins:List (Addr×Obj)) (s:Shared) (σ:St) (H:Hp) (Q:Bool->Hp->Prop),Inv X pins σ H s->t σ H Q->wpAny (model X.prog X.w) X.A (isTrue e X.env (eval e X.env)) (TP X pins σ Q) X.xe s
def PW (X:Cx) (e:Expr) (t:TT):Prop:=
 ∀ (whole:Sem Value) (pins:List (Addr×Obj)) (s:Shared) (σ:St) (H:Hp) (Q:Bool->Hp->Prop),Inv X pins σ H s->t σ H Q->wpAny (model X.prog X.w) X.A (isTrue e X.env whole) (TP X pins σ Q) X.xe s
variable {e:Expr}
theorem PW.pt {t:TT} (h:PW X e t):PT X e t:=h _
def PA (X:Cx) (es:List Expr) (t:TA):Prop:=
 ∀ (pos:Pos) (pins:List (Addr×Obj)) (s:Shared) (σ:St) (H:Hp) (Q:List V->Hp->Prop),Inv X pins σ H s->t σ H Q->wpAny (model X.prog X.w) X.A (spliced (zn3 pos (ze0 es X.env))) (AP X pins σ Q) X.xe s
def PS (X:Cx) (st:Stmt) (t:TS):Prop:=
 ∀ (pins:List (Addr×Obj)) (s:Shared) (σ:St) (H:Hp) (D:Ends),Inv X pins σ H s->t D σ H->wpAny (model X.prog X.w) X.A (exec st X.env) (SP X pins D) X.xe s
def PSs (X:Cx) (st:List Stmt) (t:TS):Prop:=
 ∀ (pins:List (Addr×Obj)) (s:Shared) (σ:St) (H:Hp) (D:Ends),Inv X pins σ H s->t D σ H->wpAny (model X.prog X.w) X.A (execs st X.env) (SP X pins D) X.xe s
variable {A:Around} {E:Value->Shared->Prop}
theorem thn {α:Type} {t:Sem α} {Q Q':α->Shared->Prop} {M:Model} (h:wpAny M A t Q E s) (hQ:∀ a s,Q a s->Q' a s):wpAny M A t Q' E s:=v4 h hQ λ_ _ x=>x
variable {u:Value} {c:Expr}
section
variable {X:Cx}
def qsg (i:Nat):TE:=λσ H Q=>∃ v,σ[i]?=some (some v)/\Q v H
def tC (v:V):TE:=λ_ H Q=>Q v H
theorem qly {pos:Pos} (hN:X.N[i]?=some x) (hv:Vis X.env.scope x) (hd:autoParam ((x==("__debug__" : Str))=false) zA1._auto_1) (hcd:autoParam ((x==("__classdict__" : Str))=false) zA1._auto_1):PE X (.Name x pos) (qsg i):=by
 intro pins s σ H Q I h;obtain ⟨v,e,h⟩:=h;obtain ⟨m,hn,hl⟩:=I.loc;obtain ⟨u,r,l⟩:=hl i x v hN e hv;have fin:EP X pins σ Q u s:=⟨v,H,I,r,h⟩
 rcases l with ⟨hk,hm⟩|⟨hk,c,hc,hcell⟩
 ·exact wpAny_Name (wpAny_loadName_local I.ok.kind hk hn hm fin) hd
 ·rcases hk with hk|hk
  ·exact wpAny_Name (wpAny_loadName_cell I.ok.kind hk hc hcell fin) hd
  ·exact wpAny_Name (wpAny_loadName_free I.ok.kind hk hc hcell fin hcd) hd
theorem qmb {i j pos}:PE X (.Constant (.int i) j pos) (tC (.int i)):=λ_ _ _ H _ I h=>wpAny_Constant_int ⟨.int i,H,I.tok _,⟨_,rfl⟩,h⟩
theorem qqa {b j pos}:PE X (.Constant (.bool b) j pos) (tC (.bl b)):=λ_ _ _ H _ I h=>Constant_bool ⟨.bl b,H,I,rfl,h⟩
theorem qpf {j pos}:PE X (.Constant .none j pos) (tC .non):=λ_ _ _ H _ I h=>Constant_none ⟨.non,H,I,rfl,h⟩
theorem qfA {x j pos}:PE X (.Constant (.str x) j pos) (tC (.str x)):=λ_ _ _ H _ I h=>Calls.Constant_str ⟨.str x,H,I.tok _,⟨_,rfl⟩,h⟩
def Gl (X:Cx) (x:Str):Prop:=X.env.kindOf x=some .globalImplicit
theorem qcx {E:Value->Shared->Prop} {pins:List (Addr×Obj)} {s:Shared} {σ:St} {H:Hp} {x:Str} {u:Value} {pos:Pos} {Q:Value->Shared->Prop} (I:Inv X pins σ H s) (hg:Gl X x) (hm:X.mg x=some u) (h:Q u s)
  (hd:autoParam ((x==("__debug__" : Str))=false) zA1._auto_1):wpAny (model X.prog X.w) X.A (eval (.Name x pos) X.env) Q E s:=
 Calls.Name_function_global I.ok.kind hg (Calls.loadGlobal_global (by rw [I.ok.glob];exact I.mod.glob.keeps I.bk) hm h) hd
theorem UE {E:Value->Shared->Prop} {pins:List (Addr×Obj)} {s:Shared} {σ:St} {H:Hp} {x:Str} {u:Value} {pos:Pos} {Q:Value->Shared->Prop} (I:Inv X pins σ H s) (hg:Gl X x) (hm:X.mg x=none) (hv:zk6 x=some u) (h:Q u s)
  (hn:autoParam (x≠"__name__") zA1._auto_1) (hd:autoParam ((x==("__debug__" : Str))=false) zA1._auto_1):wpAny (model X.prog X.w) X.A (eval (.Name x pos) X.env) Q E s:=by
 obtain ⟨mb,h1,h2⟩:=I.mod.blt;exact Calls.Name_function_global I.ok.kind hg (Calls.loadGlobal_builtin (by rw [I.ok.glob];exact I.mod.glob.keeps I.bk) hm (by rw [I.ok.blt];exact h1.keeps I.bk) ((h2 x hn).trans hv) h) hd
theorem qcX {v:V} {pos:Pos} (hg:Gl X x) (hm:X.mg x=some u) (r:zK v u) (hd:autoParam ((x==("__debug__" : Str))=false) zA1._auto_1):PE X (.Name x pos) (tC v):=
 λ_ _ _ H _ I h=>qcx I hg hm ⟨v,H,I,r,h⟩ hd
theorem L9 {v:V} {pos:Pos} (hg:Gl X x) (hm:X.mg x=none) (hv:zk6 x=some u) (r:zK v u) (hn:autoParam (x≠"__name__") zA1._auto_1) (hd:autoParam ((x==("__debug__" : Str))=false) zA1._auto_1):PE X (.Name x pos) (tC v):=
 λ_ _ _ H _ I h=>UE I hg hm hv ⟨v,H,I,r,h⟩ hn hd
variable {a b:Expr} {ta tb:TE} {pos:Pos}
def tB (t:TE):TT:=λσ H Q=>t σ H λx H1=>∃ c,x=.bl c/\Q c H1
theorem qlA {t:TE} (h:PE X e t) (he:autoParam (∀ whole,isTrue e X.env whole=(do let v←whole;standAt e.pos;xf7 [v] (truthy v))) zA3._auto_1):PT X e (tB t):=by
 intro pins s σ H Q I hw;refine isTrue_plain (thn (h pins s σ H _ I hw) λv s1 ⟨x,H1,I1,r1,q1⟩=>?_) (he _);obtain ⟨d,rfl,q⟩:=q1;cases r1;exact zn6 ⟨H1,I1,q⟩
variable {tA tB':TT} {jz:List Expr}
def qrX (t u:TT):TT:=λσ H Q=>t σ H λc H1=>if c=true then u σ H1 Q else Q false H1
def tOr (t u:TT):TT:=λσ H Q=>t σ H λc H1=>if c=true then Q true H1 else u σ H1 Q
def qsm (t:TT):TT:=λσ H Q=>t σ H λc H1=>Q (!c) H1
theorem qjB (ha:PT X a tA):PW X (.BoolOp .And [a] pos) tA:=by
 intro wh pins s σ H Q I h;refine isTrue_and (thn (ha pins s σ H Q I h) λc s1 e=>?_);cases c with
 |true=>exact isTrue_and_nil e
 |false=>exact e
theorem qpb (ha:PT X a tA):PW X (.BoolOp .Or [a] pos) tA:=by
 intro wh pins s σ H Q I h;refine isTrue_or (thn (ha pins s σ H Q I h) λc s1 e=>?_);cases c with
 |false=>exact isTrue_or_nil e
 |true=>exact e
theorem qoE (ha:PT X a tA) (hb:PW X (.BoolOp .And (b::jz) pos) tB'):PW X (.BoolOp .And (a::b::jz) pos) (qrX tA tB'):=by
 intro wh pins s σ H Q I h;refine isTrue_and (thn (ha pins s σ H _ I h) λc s1 ⟨H1,I1,q1⟩=>?_);cases c with
 |true=>exact hb wh pins s1 σ H1 Q I1 q1
 |false=>exact ⟨H1,I1,q1⟩
theorem qqC (ha:PT X a tA) (hb:PW X (.BoolOp .Or (b::jz) pos) tB'):PW X (.BoolOp .Or (a::b::jz) pos) (tOr tA tB'):=by
 intro wh pins s σ H Q I h;refine isTrue_or (thn (ha pins s σ H _ I h) λc s1 ⟨H1,I1,q1⟩=>?_);cases c with
 |true=>exact ⟨H1,I1,q1⟩
 |false=>exact hb wh pins s1 σ H1 Q I1 q1
theorem qnb (ha:PT X a tA):PT X (.UnaryOp .Not a pos) (qsm tA):=by
 intro pins s σ H Q I h;exact isTrue_not (ha pins s σ H (λc H1=>Q (!c) H1) I h)
def qqR (ta tb:TE):TE:=λσ H Q=>ta σ H λx H1=>∃ c,x=.bl c/\if c=true then tb σ H1 Q else Q (.bl false) H1
def qrW (ta tb:TE):TE:=λσ H Q=>ta σ H λx H1=>∃ c,x=.bl c/\if c=true then Q (.bl true) H1 else tb σ H1 Q
def qpZ (ta:TE):TE:=λσ H Q=>ta σ H λx H1=>∃ c,x=.bl c/\Q (.bl (!c)) H1
theorem qoZ {op} {t:TE} (h:PE X a t):PE X (.BoolOp op [a] pos) t:=λpins s σ H Q I hw=>BoolOp_one (h pins s σ H Q I hw)
theorem qob (ha:PE X a ta) (hb:PE X (.BoolOp .And (b::jz) pos) tb):PE X (.BoolOp .And (a::b::jz) pos) (qqR ta tb):=by
 intro pins s σ H Q I h;refine BoolOp_and (thn (ha pins s σ H _ I h) λv s1 ⟨x,H1,I1,r1,q1⟩=>?_);obtain ⟨c,rfl,q1⟩:=q1;cases r1;refine zn6 ?_;cases c with
 |true=>exact hb pins s1 σ H1 Q I1 q1
 |false=>exact ⟨.bl false,H1,I1,rfl,q1⟩
theorem qpF (ha:PE X a ta) (hb:PE X (.BoolOp .Or (b::jz) pos) tb):PE X (.BoolOp .Or (a::b::jz) pos) (qrW ta tb):=by
 intro pins s σ H Q I h;refine BoolOp_or (thn (ha pins s σ H _ I h) λv s1 ⟨x,H1,I1,r1,q1⟩=>?_);obtain ⟨c,rfl,q1⟩:=q1;cases r1;refine zn6 ?_;cases c with
 |false=>exact hb pins s1 σ H1 Q I1 q1
 |true=>exact ⟨.bl true,H1,I1,rfl,q1⟩
theorem qn8 (ha:PE X a ta):PE X (.UnaryOp .Not a pos) (qpZ ta):=by
 intro pins s σ H Q I h;refine UnaryOp_ (thn (ha pins s σ H _ I h) λv s1 ⟨x,H1,I1,r1,q1⟩=>?_);obtain ⟨c,rfl,q1⟩:=q1;cases r1;exact not_of (zn6 ⟨.bl (!c),H1,I1,rfl,q1⟩)
def tIf (t:TT) (ta tb:TE):TE:=λσ H Q=>t σ H λc H1=>if c=true then ta σ H1 Q else tb σ H1 Q
theorem qed (hc:PT X c tA) (ha:PE X a ta) (hb:PE X b tb):PE X (.IfExp c a b pos) (tIf tA ta tb):=by
 intro pins s σ H Q I h;refine wpAny_IfExp (thn (hc pins s σ H _ I h) λd s1 ⟨H1,I1,q1⟩=>?_);cases d with
 |true=>exact ha pins s1 σ H1 Q I1 q1
 |false=>exact hb pins s1 σ H1 Q I1 q1
end
def SqL (K:Frg) (H:Hp) (a:Addr) (xs:List V):Prop:=
 Rd H a (.lst xs) ∨
  ∃ (o:Obj) (its:Array Value) (n:Nat),K.lookup a=some o/\o.cls=.type "list"/\o.dict=none/\o.data=.seq its n/\its.size<=sizeLine/\zJ xs its.toList
def SqT (K:Frg) (H:Hp) (a:Addr) (xs:List V):Prop:=
 Rd H a (.tup xs) ∨
  ∃ (o:Obj) (its:Array Value) (n:Nat),K.lookup a=some o/\o.cls=.type "tuple"/\o.data=.seq its n/\its.size<=sizeLine/\zJ xs its.toList/\o.dict=none
noncomputable def qrN:Value->Option V
 |.none=>some .non
 |.bool b=>some (.bl b)
 |.int i _=>some (.int i)
 |.str x _=>some (.str x)
 |.bytes b _=>some (.byt b)
 |.float b _=>some (.flt b)
 |.ref a=>some (.ref a)
 |.type n=>some (.ty n)
 |_=>none
theorem zK.abs {x:V} (r:zK x u):qrN u=some x:=by
 cases x with
 |non=>cases r;rfl
 |bl _=>cases r;rfl
 |int _=>obtain ⟨t,rfl⟩:=r;rfl
 |str _=>obtain ⟨t,rfl⟩:=r;rfl
 |byt _=>obtain ⟨t,rfl⟩:=r;rfl
 |flt _=>obtain ⟨t,rfl⟩:=r;rfl
 |ref _=>cases r;rfl
 |ty _=>cases r;rfl
theorem zK.inj {x y:V} (r:zK x u) (q:zK y u):x=y:=Option.some.inj (r.abs.symm.trans q.abs)
theorem zJ.inj:∀ {xs ys:List V} {us:List Value},zJ xs us->zJ ys us->xs=ys
 |_,_,_,.nil,.nil=>rfl
 |_,_,_,.cons r t,.cons r' t'=>by rw [r.inj r',zJ.inj t t']
variable {σ:St} {K:Frg}
section
variable {xs ys:List V}
theorem SqL.of (h:H a=some (.lst xs)):SqL K H a xs:=.inl (.inl h)
theorem SqT.of (h:H a=some (.tup xs)):SqT K H a xs:=.inl (.inl h)
theorem Inv.list (I:Inv X pins σ H s) (h:SqL X.K H a xs):∃ its:List Value,zJ xs its/\PlainL s.heap a its.toArray/\xs.length<=sizeLine:=by
 rcases h with h|⟨o,its,n,hk,hc,hd,hs,hz,r⟩
 ·obtain ⟨z,its,n,r,e⟩:=h.ok I.hok;exact ⟨its,r,⟨_,n,e,rfl,rfl,rfl⟩,z⟩
 ·refine ⟨its.toList,r,⟨o,n,I.kIn a o hk,hc,hd,by simpa using hs⟩,?_⟩;have e:=r.length;simp only [zm5] at e;omega
theorem Inv.tuple (I:Inv X pins σ H s) (h:SqT X.K H a xs):∃ its:List Value,zJ xs its/\IsTup s.heap a its.toArray/\xs.length<=sizeLine:=by
 rcases h with h|⟨o,its,n,hk,hc,hs,hz,r,_⟩
 ·obtain ⟨z,its,r,p⟩:=h.ok I.hok;exact ⟨its,r,p.tup,z⟩
 ·refine ⟨its.toList,r,⟨o,I.kIn a o hk,hc,n,by simpa using hs⟩,?_⟩;have e:=r.length;simp only [zm5] at e;omega
theorem Inv.list_inj (I:Inv X pins σ H s) (h:SqL X.K H a xs) (h':SqL X.K H a ys):xs=ys:=by
 obtain ⟨its,r,⟨o,n,e,_,_,d⟩,_⟩:=I.list h;obtain ⟨its',r',⟨o',n',e',_,_,d'⟩,_⟩:=I.list h';rw [e] at e';cases e';rw [d] at d';injection d' with d1 _;have:its=its':=by simpa using congrArg Array.toList d1
 subst this;exact r.inj r'
theorem Inv.tuple_inj (I:Inv X pins σ H s) (h:SqT X.K H a xs) (h':SqT X.K H a ys):xs=ys:=by
 obtain ⟨its,r,⟨o,e,_,n,d⟩,_⟩:=I.tuple h;obtain ⟨its',r',⟨o',e',_,n',d'⟩,_⟩:=I.tuple h';rw [e] at e';cases e';rw [d] at d';injection d' with d1 _;have:its=its':=by simpa using congrArg Array.toList d1
 subst this;exact r.inj r'
end
noncomputable abbrev Cx.wish (X:Cx) (E:Value->Shared->Prop):Cx:={ X with xe:=E }
abbrev Cx.nox (X:Cx):Cx:=X.wish λ_ _=>False
theorem Cx.Ok.wish (ok:X.Ok) (E:Value->Shared->Prop):(X.wish E).Ok:=
 ⟨ok.mod,ok.kind,ok.glob,ok.blt,ok.above,ok.inj,ok.has,ok.cab,ok.hd,ok.frames,ok.stk,ok.exf,ok.bs,ok.bsz,ok.noex,ok.exfs,ok.funs,ok.frf⟩
theorem Cx.Ok.unwish (ok:(X.wish E).Ok):X.Ok:=
 ⟨ok.mod,ok.kind,ok.glob,ok.blt,ok.above,ok.inj,ok.has,ok.cab,ok.hd,ok.frames,ok.stk,ok.exf,ok.bs,ok.bsz,ok.noex,ok.exfs,ok.funs,ok.frf⟩
theorem Inv.wish (I:Inv X pins σ H s) (E:Value->Shared->Prop):Inv (X.wish E) pins σ H s:=⟨I.ok.wish E,I.os,I.bare,I.base,I.loc,I.cell,I.free,I.freeC,I.pin,I.hok,I.len⟩
theorem Inv.unwish (I:Inv (X.wish E) pins σ H s):Inv X pins σ H s:=⟨I.ok.unwish,I.os,I.bare,I.base,I.loc,I.cell,I.free,I.freeC,I.pin,I.hok,I.len⟩
theorem SP.unwish {D:Ends} {f:Flow} {s':Shared} (h:SP (X.wish E) pins D f s'):SP X pins D f s':=by
 cases f with
 |next=>obtain ⟨σ',H',I,q⟩:=h;exact ⟨σ',H',I.unwish,q⟩
 |brk=>obtain ⟨σ',H',I,q⟩:=h;exact ⟨σ',H',I.unwish,q⟩
 |cont=>obtain ⟨σ',H',I,q⟩:=h;exact ⟨σ',H',I.unwish,q⟩
 |ret u=>obtain ⟨v,σ',H',I,r,q⟩:=h;exact ⟨v,σ',H',I.unwish,r,q⟩
theorem PSs.nox {st:List Stmt} {t:TS} (h:PSs X.nox st t):PSs X st t:=λpins s σ H D I hw=>
 v4 (h pins s σ H D (I.wish _) hw) (λ_ _ q=>q.unwish) λ_ _ z=>False.elim z
variable {te:TE} {pos:Pos}
section
variable {st:Stmt} {jz:List Stmt} {t u:TS}
def qp1:TS:=λD σ H=>D.nx σ H
def qsf (t u:TS):TS:=λD σ H=>t { D with nx:=u D } σ H
theorem qjD:PSs X [] qp1:=λ_ _ σ H _ I h=>xk3 ⟨σ,H,I,h⟩
theorem qei (h1:PS X st t) (h2:PSs X jz u):PSs X (st::jz) (qsf t u):=by
 intro pins s σ H D I h;refine wpAny_execs_cons (thn (h1 pins s σ H { D with nx:=u D } I h) λf s1 q=>?_);cases f with
 |next=>
  obtain ⟨σ',H',I',q⟩:=q;exact h2 pins s1 σ' H' D I' q
 |ret v=>exact q
 |brk=>exact q
 |cont=>exact q
theorem qhZ (h1:PS X st t):PSs X [st] t:=by
 intro pins s σ H D I h;refine wpAny_execs_cons (thn (h1 pins s σ H D I h) λf s1 q=>?_);cases f with
 |next=>exact xk3 q
 |ret v=>exact q
 |brk=>exact q
 |cont=>exact q
theorem Inv.quiet (I:Inv X pins σ H s):interactive X.env=false:=by simp [interactive,I.ok.kind]
def qqB (te:TE):TS:=λD σ H=>te σ H λ_ H1=>D.nx σ H1
theorem qjU (he:PE X e te) (hs:autoParam (xg7 e none pos.line X.env=pure false) zA0._auto_1):PS X (.Expr e pos) (qqB te):=by
 intro pins s σ H D I h;exact wpAny_Expr_any (thn (he pins s σ H _ I h) λv s1 ⟨x,H1,I1,r1,q1⟩=>⟨σ,H1,I1,q1⟩) I.quiet hs
def qr3 (te:TE):TS:=λD σ H=>te σ H D.rt
theorem qlJ (he:PE X e te):PS X (.Return (some e) pos) (qr3 te):=by
 intro pins s σ H D I h;exact wpAny_Return_some (thn (he pins s σ H _ I h) λv s1 ⟨x,H1,I1,r1,q1⟩=>⟨x,σ,H1,I1,r1,q1⟩)
def qso (c:TT) (t u:TS):TS:=λD σ H=>c σ H λb H1=>if b=true then t D σ H1 else u D σ H1
theorem qqs {a b:List Stmt} {tc:TT} (hc:PT X c tc) (ha:PSs X a t) (hb:PSs X b u):PS X (.If c a b pos) (qso tc t u):=by
 intro pins s σ H D I h;refine wpAny_If (thn (hc pins s σ H _ I h) λd s1 ⟨H1,I1,q1⟩=>?_);cases d with
 |true=>exact ha pins s1 σ H1 D I1 q1
 |false=>exact hb pins s1 σ H1 D I1 q1
end
abbrev TG:=V->St->Hp->(St->Hp->Prop)->Prop
abbrev TGs:=List V->St->Hp->(St->Hp->Prop)->Prop
def PG (X:Cx) (target:Expr) (t:TG):Prop:=
 ∀ (pins:List (Addr×Obj)) (s:Shared) (σ:St) (H:Hp) (v:V) (u:Value) (Q:St->Hp->Prop),Inv X pins σ H s->zK v u->t v σ H Q ->
  wpAny (model X.prog X.w) X.A (xi4 target X.env u) (λ_ s'=>∃ σ' H',Inv X pins σ' H' s'/\Q σ' H') X.xe s
def PGs (X:Cx) (ts:List Expr) (t:TGs):Prop:=
 ∀ (pins:List (Addr×Obj)) (s:Shared) (σ:St) (H:Hp) (vs:List V) (us:List Value) (Q:St->Hp->Prop),Inv X pins σ H s->zJ vs us->t vs σ H Q ->
  wpAny (model X.prog X.w) X.A (assignInOrder ((xb2 ts X.env).map (·.2)) us) (λ_ s'=>∃ σ' H',Inv X pins σ' H' s'/\Q σ' H') X.xe s
abbrev qoB:=V->V->V->Hp->(Hp->Prop)->Prop
def qeL (X:Cx) (t:qoB):Prop:=
 ∀ (pins:List (Addr×Obj)) (s:Shared) (σ:St) (H:Hp) (o i v:V) (ov iv u:Value) (Q:Hp->Prop),Inv X pins σ H s->zK o ov->zK i iv->zK v u->t o i v H Q ->
  wpAny (model X.prog X.w) X.A (setItem ov iv u) (λ_ s'=>∃ H',Inv X pins σ H' s'/\Q H') X.xe s
abbrev TIp:=V->V->Hp->VK->Prop
def PIp (X:Cx) (op:Operator) (t:TIp):Prop:=
 ∀ (pins:List (Addr×Obj)) (s:Shared) (σ:St) (H:Hp) (x y:V) (v u:Value) (Q:VK),Inv X pins σ H s->zK x v->zK y u->t x y H Q ->
  wpAny (model X.prog X.w) X.A (inplaceOp op v u) (EP X pins σ Q) X.xe s
variable {pos':Pos}
def qdG (i:Nat):TG:=λv σ H Q=>Q (σ.set i (some v)) H
theorem qid (hN:X.N.Nodup) (hi:X.N[i]?=some x) (hx:Loc X.env.scope x) (hf:autoParam (X.fn x=true\/X.env.scope.names.lookup x=some .local) zA4._auto_1):PG X (.Name x pos) (qdG i):=by
 intro pins s σ H v u Q I r h;exact wpAny_assign_Name (UC I hN hi hx r (λs' I'=>⟨_,H,I',h⟩) hf)
def DK:TGs:=λvs σ H Q=>vs=[]/\Q σ H
def qQ (t:TG) (u:TGs):TGs:=λvs σ H Q=>∃ v r,vs=v::r/\t v σ H λσ' H'=>u r σ' H' Q
theorem qjC:PGs X [] DK:=by
 intro pins s σ H vs us Q I r h;obtain ⟨e,h⟩:=h;subst e;cases r;exact assignInOrder_nil ⟨σ,H,I,h⟩
theorem qeI {e:Expr} {es:List Expr} {t:TG} {u:TGs} (h1:PG X e t) (h2:PGs X es u)
  (hs:autoParam ((xb2 (e::es) X.env).map (·.2)=xi4 e X.env::(xb2 es X.env).map (·.2)) zA0._auto_1):PGs X (e::es) (qQ t u):=by
 intro pins s σ H vs us Q I r h;obtain ⟨v,vr,e1,h⟩:=h;subst e1;cases r with
 |cons r rr=>
  rw [hs];refine assignInOrder_cons (thn (h1 pins s σ H _ _ _ I r h) λ_ s1 ⟨σ1,H1,I1,q1⟩=>?_);exact h2 pins s1 σ1 H1 _ _ Q I1 rr q1
def DQ (K:Frg) (n:Nat) (t:TGs):TG:=λv σ H Q=>∃ a xs,v=.ref a/\SqT K H a xs/\xs.length=n/\t xs σ H Q
theorem ql3 {es:List Expr} {k:Nat} {t:TGs} {n:Nat} (hc:X.calm=true) (h:PGs X es t)
  (hn:autoParam ((xb2 es X.env).length=n) zA0._auto_1) (hst:autoParam ((xb2 es X.env).findIdx? (·.1)=none) zA0._auto_1):PG X (.Tuple es k pos) (DQ X.K n t):=by
 intro pins s σ H v u Q I r hw;obtain ⟨a,xs,e1,hq,hl,hw⟩:=hw;subst e1;cases r;obtain ⟨its,rv,ht,hz⟩:=I.tuple hq;refine assign_Tuple_tuple (I.ok.hd hc) ht (by simp [hn,← hl,rv.length]) hst λh' hx=>?_;have I1:Inv X pins σ H { s with heap:=h' }:=I.kept (t':=s.toks) λb o e=>hx b o (za5 (v7 e)) e;exact h pins _ σ H xs _ Q I1 (by simpa using rv) hw
def qr9 (to ti:TE) (t:qoB):TG:=λv σ H Q=>to σ H λo H1=>ti σ H1 λi H2=>t o i v H2 λH3=>Q σ H3
theorem qmi {o i:Expr} {to ti:TE} {t:qoB} (ho:PE X o to) (hi:PE X i ti) (hs:qeL X t)
  (ha:autoParam (∀ v,xi4 (.Subscript o i pos) X.env v=(do
   let ov←xf7 [v] (eval o X.env)
   let iv←xf7 [v,ov] (eval i X.env)
   standAt pos
   xf7 [v,ov,iv] (setItem ov iv v)
   release [v,ov,iv] [])) zA3._auto_1):PG X (.Subscript o i pos) (qr9 to ti t):=by
 intro pins s σ H v u Q I r h;rw [ha];refine y8 (zp4 (thn (ho pins s σ H _ I h) λov s1 ⟨x,H1,I1,r1,q1⟩=>?_));refine y8 (zp4 (thn (hi pins s1 σ H1 _ I1 q1) λiv s2 ⟨y,H2,I2,r2,q2⟩=>?_));refine y8 (zp5 (y8 (zp4 (thn (hs pins s2 σ H2 x y v ov iv u _ I2 r1 r2 r q2) λ_ s3 ⟨H3,I3,q3⟩=>?_))));exact wpAny_release ⟨σ,H3,I3,q3⟩
def qpC (te:TE) (g:TG):TS:=λD σ H=>te σ H λx H1=>g x σ H1 D.nx
theorem ql7 {tg e:Expr} {te:TE} {g:TG} (he:PE X e te) (hg:PG X tg g) (hs:autoParam (swapsWithSole [tg] e pos.line X.env=pure false) zA0._auto_1) (hw:autoParam (swappedStores [tg] e X.env=pure none) zA0._auto_1)
  (h1:autoParam ((xb2 [tg] X.env).map (·.2)=[xi4 tg X.env]) zA0._auto_1):PS X (.Assign [tg] e pos) (qpC te g):=by
 intro pins s σ H D I h;refine wpAny_Assign_stores (thn (he pins s σ H _ I h) λv s1 ⟨x,H1,I1,r1,q1⟩=>?_) hs hw;rw [h1];exact thn (hg pins s1 σ H1 x v _ I1 r1 q1) λ_ s2 q=>q
theorem qnB (hN:X.N.Nodup) (hi:X.N[i]?=some x) (hx:Loc X.env.scope x) (he:PE X e te) (hs:autoParam (xg7 e (some (.Name x pos')) pos.line X.env=pure false) zA0._auto_1) (hf:autoParam (X.fn x=true\/X.env.scope.names.lookup x=some .local) zA4._auto_1) :
  PS X (.Assign [.Name x pos'] e pos) (qpC te (qdG i)):=by
 intro pins s σ H D I h;refine wpAny_Assign_Name (thn (he pins s σ H _ I h) λv s1 ⟨y,H1,I1,r1,q1⟩=>?_) hs;exact UC I1 hN hi hx r1 (λs2 I2=>⟨_,H1,I2,q1⟩) hf
def qrQ (i j:Nat) (ta:TA):TS:=λD σ H=>ta σ H λvs H1=>∃ v w,vs=[v,w]/\D.nx ((σ.set i (some v)).set j (some w)) H1
theorem qnf {i j:Nat} {x y:Str} {a b:Expr} {ta:TA} {px py pt:Pos} {kt k2 pt2} (hc:X.calm=true) (hN:X.N.Nodup) (hi:X.N[i]?=some x) (hj:X.N[j]?=some y) (hij:i≠j)
  (hx:X.env.scope.names.lookup x=some .local) (hy:X.env.scope.names.lookup y=some .local) (ha:PA X [a,b] ta)
  (hw:swappedStores [.Tuple [.Name x px,.Name y py] kt pt] (.Tuple [a,b] k2 pt2) X.env=pure (some [x,y]))
  (hs:autoParam (swapsWithSole [.Tuple [.Name x px,.Name y py] kt pt] (.Tuple [a,b] k2 pt2) pos.line X.env=pure false) zA0._auto_1) :
  PS X (.Assign [.Tuple [.Name x px,.Name y py] kt pt] (.Tuple [a,b] k2 pt2) pos) (qrQ i j ta):=by
 intro pins s σ H D I h;rw [exec_Assign_arm];refine y8 (zp5 ?_);rw [hs];refine y8 (y9 ?_);rw [if_neg (by decide)];refine y8 (Tuple_ (thn (ha _ pins s σ H _ I h) λus s1 ⟨vs,H1,I1,r1,q1⟩=>?_));obtain ⟨v,w,e1,q1⟩:=q1;subst e1;obtain ⟨u1,u2,rfl,rv,rw'⟩:∃ u1 u2,us=[u1,u2]/\zK v u1/\zK w u2:=by
  cases r1 with
  |cons p q=>
   cases q with
   |cons p' q'=>
    cases q';exact ⟨_,_,rfl,p,p'⟩
 refine zm1 ?_ (by show 2<=sizeLine;decide);have I2:Inv X pins σ H1 { s1 with heap:=s1.heap.push { cls:=.type "tuple",data:=.seq [u1,u2].toArray } }:=I1.kept (t':=s1.toks) λb o e=>v5 _ e;rw [hw];refine y8 (y9 ?_);show wpAny (model X.prog X.w) X.A (do rule "assign.swapped-stores";let items←unpackItems (.ref s1.heap.objs.size) 2 none;assignInOrder [λv=>bindName X.env y v,λv=>bindName X.env x v] items.reverse;pure Flow.next) _ _ _;refine y8 (xm6 (y8 (unpackItems_tuple (items:=#[u1,u2]) (I.ok.hd hc) (IsTup.new s1.heap _) λh' hx'=>?_)));have I3:=I2.kept (h':=h') (t':=s1.toks) λb o e=>hx' b o (za5 (v7 e)) e;show wpAny _ _ (assignInOrder [λv=>bindName X.env y v,λv=>bindName X.env x v] [u2,u1] >>= λ_=>pure Flow.next) _ _ _;refine y8 (assignInOrder_cons (wpAny_bindName (UC I3 hN hj (.inl hy) rw' (λs2 I4=>?_) (.inr hy))));refine assignInOrder_cons (wpAny_bindName (UC I4 hN hi (.inl hx) rv (λs3 I5=>assignInOrder_nil (y9 ?_)) (.inr hx)));rw [List.set_comm _ _ (Ne.symm hij)] at I5;exact ⟨_,H1,I5,q1⟩
def qr8 (i:Nat) (te:TE) (ti:TIp):TS:=λD σ H=>∃ x,σ[i]?=some (some x)/\te σ H λy H1=>ti x y H1 λz H2=>D.nx (σ.set i (some z)) H2
theorem qkT {op:Operator} {ti:TIp} {pos':Pos} (hN:X.N.Nodup) (hi:X.N[i]?=some x) (hx:Loc X.env.scope x) (he:PE X e te) (ho:PIp X op ti) (hf:autoParam (X.fn x=true\/X.env.scope.names.lookup x=some .local) zA4._auto_1) :
  PS X (.AugAssign (.Name x pos') op e pos) (qr8 i te ti):=by
 intro pins s σ H D I h;obtain ⟨v,e1,h⟩:=h;obtain ⟨m,hn,hl⟩:=I.loc;have vis:Vis X.env.scope x:=by rcases hx with k|k;exact .inl k;exact .inr (.inl k)
 obtain ⟨u,r,l⟩:=hl i x v hi e1 vis;refine wpAny_AugAssign_Name ?_;have go:wpAny (model X.prog X.w) X.A (eval e X.env) (λw s₂=>wpAny (model X.prog X.w) X.A (inplaceOp op u w) (λr s₃=>wpAny (model X.prog X.w) X.A (storeName X.env x r) (λ_=>SP X pins D .next) X.xe s₃) X.xe s₂) X.xe s:=by
  refine thn (he pins s σ H _ I h) λw s1 ⟨y,H1,I1,r1,q1⟩=>?_;refine thn (ho pins s1 σ H1 v y u w _ I1 r r1 q1) λz s2 ⟨zv,H2,I2,r2,q2⟩=>?_;exact UC I2 hN hi hx r2 (λs3 I3=>⟨_,H2,I3,q2⟩) hf
 rcases l with ⟨hk,hm⟩|⟨hk,c,hc,hcell⟩
 ·exact wpAny_loadName_local I.ok.kind hk hn hm go
 ·rcases hk with hk|hk
  ·exact wpAny_loadName_cell I.ok.kind hk hc hcell go
  ·rcases hx with k|k
   ·have:X.env.scope.names.lookup x=some .free:=hk;rw [k] at this;cases this
   ·have:X.env.scope.names.lookup x=some .free:=hk;rw [k] at this;cases this
def qqZ (to ti te:TE) (tget:V->V->Hp->VK->Prop) (tip:TIp) (tset:qoB):TS:=λD σ H=>to σ H λo H1=>ti σ H1 λi H2=>tget o i H2 λx H3=>te σ H3 λy H4=>tip x y H4 λz H5=>tset o i z H5 λH6=>D.nx σ H6
def qq1 (X:Cx) (t:V->V->Hp->VK->Prop):Prop:=
 ∀ (pins:List (Addr×Obj)) (s:Shared) (σ:St) (H:Hp) (o i:V) (ov iv:Value) (Q:VK),Inv X pins σ H s->zK o ov->zK i iv->t o i H Q ->
  wpAny (model X.prog X.w) X.A (getItem ov iv) (EP X pins σ Q) X.xe s
theorem qi9 {o i e:Expr} {to ti te:TE} {tget:V->V->Hp->VK->Prop} {tip:TIp} {tset:qoB} {op:Operator} {tpos:Pos} (ho:PE X o to) (hi:PE X i ti) (hg:qq1 X tget) (he:PE X e te) (hp:PIp X op tip) (hs:qeL X tset)
  (ha:autoParam (∀ ov iv new,augStore i ov iv new=(do xf7 [new,ov,iv] (setItem ov iv new);release [new,ov,iv] [];pure .next)) zA10._auto_1):PS X (.AugAssign (.Subscript o i tpos) op e pos) (qqZ to ti te tget tip tset):=by
 intro pins s σ H D I h;refine wpAny_AugAssign_SubscriptAny (thn (ho pins s σ H _ I h) λov s1 ⟨x1,H1,I1,r1,q1⟩=>?_) ha;refine thn (hi pins s1 σ H1 _ I1 q1) λiv s2 ⟨x2,H2,I2,r2,q2⟩=>?_;refine thn (hg pins s2 σ H2 x1 x2 ov iv _ I2 r1 r2 q2) λold s3 ⟨x3,H3,I3,r3,q3⟩=>?_;refine thn (he pins s3 σ H3 _ I3 q3) λv s4 ⟨x4,H4,I4,r4,q4⟩=>?_;refine thn (hp pins s4 σ H4 x3 x4 old v _ I4 r3 r4 q4) λnew s5 ⟨x5,H5,I5,r5,q5⟩=>?_;exact thn (hs pins s5 σ H5 x1 x2 x5 ov iv new _ I5 r1 r2 r5 q5) λ_ s6 ⟨H6,I6,q6⟩=>⟨σ,H6,I6,q6⟩
def ipI (f:Int->Int->Int):TIp:=λx y H Q=>∃ i j,x=.int i/\y=.int j/\Q (.int (f i j)) H
theorem qhz:PIp X .Add (ipI λi j=>i+j):=by
 intro pins s σ H x y v u Q I r1 r2 h;obtain ⟨i,j,e1,e2,q⟩:=h;subst e1;subst e2;obtain ⟨t,rfl⟩:=r1;obtain ⟨t',rfl⟩:=r2;exact iadd_int ⟨.int _,H,I.tok _,⟨_,rfl⟩,q⟩
def qos (c:TT) (tb:TS):TS:=λD σ H=>∃ W:Nat->St->Hp->Prop,(∃ m,W m σ H)/\∀ m σ H,W m σ H ->
 c σ H λb H1=>if b=true then ∃ N:St->Hp->Prop,(∀ σ' H',N σ' H'->∃ m',m'<m/\W m' σ' H')/\tb { D with nx:=N,ct:=N,bk:=D.nx } σ H1 else D.nx σ H1
theorem qdv {body:List Stmt} {tc:TT} {tb:TS} (hp:PassesOwn (model X.prog X.w) X.A X.env X.xe) (hc:PT X c tc) (hb:PSs X body tb):PS X (.While c body [] pos) (qos tc tb):=by
 intro pins s σ H D I h;obtain ⟨W,⟨m0,w0⟩,turn⟩:=h;refine wpAny_While (codeAny_whileLoop (λn s'=>∃ σ' H',Inv X pins σ' H' s'/\W n σ' H') ?_ m0 ⟨σ,H,I,w0⟩);rintro n s1 ⟨σ1,H1,I1,w1⟩;refine xa7 hp (thn (hc pins s1 σ1 H1 _ I1 (turn n σ1 H1 w1)) λb s2 ⟨H2,I2,q2⟩=>?_);cases b with
 |true=>
  obtain ⟨N,hN,q2⟩:=q2;rw [if_pos rfl];refine xa7 hp (thn (hb pins s2 σ1 H2 _ I2 q2) λf s3 q3=>?_);cases f with
  |next=>
   obtain ⟨σ3,H3,I3,n3⟩:=q3;obtain ⟨m',hm,w3⟩:=hN σ3 H3 n3;exact ⟨m',hm,σ3,H3,I3,w3⟩
  |cont=>
   obtain ⟨σ3,H3,I3,n3⟩:=q3;obtain ⟨m',hm,w3⟩:=hN σ3 H3 n3;exact ⟨m',hm,σ3,H3,I3,w3⟩
  |brk=>exact q3
  |ret v=>exact q3
 |false=>
  rw [if_neg v8];exact xk3 ⟨σ1,H2,I2,q2⟩
structure It where
 go:Nat->Hp->Prop
 yld:Nat->Hp->V->Hp->Prop
 stop:Nat->Hp->Prop
def LB (X:Cx) (pins:List (Addr×Obj)) (H:Hp) (b:Addr):Prop:=
 H b=none/\b≠X.env.locals/\b∉X.fs/\(b∈X.ex\/X.s₀.heap.objs.size<=b)/\(∀ x c,X.env.cells.lookup x=some c->c≠b)/\∀ p∈X.pn++pins,p.1≠b
theorem Inv.fpOk (I:Inv X pins σ H s) (hb:s.heap.objs.size<=b) (hn:H' b=none):LB X pins H' b:=by
 refine ⟨hn,zj5 (za2 I.lt hb),I.nofs hb,.inr (za4 I.sz hb),λx c e z=>?_,λp hp z=>?_⟩
 ·obtain ⟨v,q⟩:=I.cell x c e;exact absurd (za2 q.lt (by rw [z];exact hb)) (zp3 _)
 ·exact absurd (za2 (v7 (I.pin p hp).1) (by rw [z];exact hb)) (zp3 _)
structure Turn (P:Program) (w:World) (K:Frg) (tg:Expr) (J:It) (fp:List Addr) (it:Addr) (tn:Nat->Heap->Prop):Prop where
 mem:it∈fp
 obj:∀ i h,tn i h->∀ b∈fp,∃ o,h.get? b=some o/\∀ v,o.data≠.cell v
 keep:∀ i h h',tn i h->(∀ b∈fp,∀ o,h.get? b=some o->h'.get? b=some o)->tn i h'
 item:∀ (X:Cx),X.prog=P->X.w=w->X.K=K->X.calm=true->∀ (i:Nat) (pins:List (Addr×Obj)) (s:Shared) (σ:St) (H:Hp) (E:Value->Shared->Prop),Inv X pins σ H s->(∀ b∈fp,LB X pins H b)->tn i s.heap->J.go i H ->
  wpAny (model P w) X.A (pyNext (.ref it)) (λr s1=>∃ u,r=some u /\
   wpAny (model P w) X.A (xk4 tg (.ref it) u) (λ_ s2=>∃ x H',Inv X pins σ H' s2/\zK x u/\J.yld i H x H'/\tn (i+1) s2.heap/\∀ b∈fp,H' b=none) E s1) E s
 done:∀ (X:Cx),X.prog=P->X.w=w->X.K=K->X.calm=true->∀ (i:Nat) (pins:List (Addr×Obj)) (s:Shared) (σ:St) (H:Hp) (E:Value->Shared->Prop),Inv X pins σ H s->(∀ b∈fp,LB X pins H b)->tn i s.heap->J.stop i H ->
  wpAny (model P w) X.A (pyNext (.ref it)) (λr s1=>r=none/\Inv X pins σ H s1) E s
 self:∀ (A:Around) (i:Nat) (s:Shared) (Q:Value->Shared->Prop) (E:Value->Shared->Prop),tn i s.heap->Q (.ref it) s->wpAny (model P w) A (pyIter (.ref it)) Q E s
abbrev TI:=St->Hp->(It->Hp->Prop)->Prop
def PIE (X:Cx) (pins:List (Addr×Obj)) (σ:St) (tg:Expr) (R:It->Hp->Prop) (itv:Value) (s2:Shared):Prop:=
 ∃ (it:Addr) (fp:List Addr) (tn:Nat->Heap->Prop) (J:It) (H':Hp),itv=.ref it/\Inv X pins σ H' s2/\Turn X.prog X.w X.K tg J fp it tn/\tn 0 s2.heap/\(∀ b∈fp,LB X pins H' b)/\R J H'
def PI (X:Cx) (tg iter:Expr) (wi:TI):Prop:=
 ∀ (pins:List (Addr×Obj)) (s:Shared) (σ:St) (H:Hp) (R:It->Hp->Prop),Inv X pins σ H s->wi σ H R ->
  wpAny (model X.prog X.w) X.A (eval iter X.env) (λv s1=>wpAny (model X.prog X.w) X.A (pyIter v) (PIE X pins σ tg R) X.xe s1) X.xe s
theorem qh3 {M:Model} {A:Around} {E:Value->Shared->Prop} {s:Shared} {tg:Expr} {it:Addr} {u:Value} {o:Obj} {n:String} {vs:Array Value} {Q:Unit->Shared->Prop} (ho:s.heap.get? it=some o) (hc:o.cls=.type n) (hd:o.data=.fields vs)
    (hn:["enumerate","zip","dict_itemiterator","dict_reverseitemiterator","odict_iterator","itertools.zip_longest","itertools.pairwise"].contains n=false) (hQ:Q () s):wpAny M A (xk4 tg (.ref it) u) Q E s:=by
  unfold xk4;cases tg<;>first
    |exact y9 hQ
    | (cases u<;>first
        |exact y9 hQ
        | (refine y8 (wpAny_load ho ?_)
           rw [hc,hd];show wpAny M A (if (["enumerate","zip","dict_itemiterator","dict_reverseitemiterator","odict_iterator","itertools.zip_longest","itertools.pairwise"].contains n&&vs[0]?==some (rawInt _))=true then _ else _) Q E s;rw [if_neg (by intro h;rw [hn,xb6] at h;cases h)];exact y9 hQ))
noncomputable def Itl (K:Frg) (a:Addr):It:=
 ⟨λi H=>∃ xs x,SqL K H a xs/\xs[i]?=some x,λi H x H'=>H'=H/\∀ xs,SqL K H a xs->xs[i]?=some x,λi H=>∃ xs,SqL K H a xs/\xs.length<=i⟩
noncomputable def Itt (K:Frg) (a:Addr):It:=
 ⟨λi H=>∃ xs x,SqT K H a xs/\xs[i]?=some x,λi H x H'=>H'=H/\∀ xs,SqT K H a xs->xs[i]?=some x,λi H=>∃ xs,SqT K H a xs/\xs.length<=i⟩
noncomputable def Itr (lo:Int) (n:Nat):It:=⟨λi _=>i<n,λi H x H'=>H'=H/\x=.int (lo+i),λi _=>n<=i⟩
variable {tg:Expr}
theorem qcg (a it:Addr):Turn P w K tg (Itl K a) [it] it (λi h=>h.IsListIter it a i) where
 mem:=by simp
 obj:=λi h st b hb=>by
  have e:b=it:=by simpa using hb
  subst e;obtain ⟨o,e,c,d⟩:=st;exact ⟨o,e,λv z=>by rw [d] at z;cases z⟩
 keep:=λi h h' st k=>st.at λo e=>k it (by simp) o e
 item:=by
  intro X hP hw hK hc i pins s σ H E I hf st hg;subst hP hw hK;obtain ⟨xs,x,hq,hx⟩:=hg;obtain ⟨its,rv,p,hz⟩:=I.list hq;obtain ⟨u,hu,ru⟩:=rv.get hx;obtain ⟨f0,f1,f2,f3,f4,f5⟩:=hf it (by simp);refine wpAny_pyNext_list_item st p.isList (x:=u) (by simpa using hu) λh' st' sb=>?_;have I1:Inv X pins σ H { s with heap:=h' }:=I.turned (t':=s.toks) (λb o hb e=>(sb.2 b hb).trans e) f0 f1 f3 f4 f5;obtain ⟨o,e,c,d⟩:=id st';exact ⟨u,rfl,qh3 (s:={ s with heap:=h' }) e c d (by decide) ⟨x,H,I1,ru,⟨rfl,λys hy=>by rw [I.list_inj hy hq];exact hx⟩,st',λb hb=>(hf b hb).1⟩⟩
 done:=by
  intro X hP hw hK hc i pins s σ H E I hf st hg;subst hP hw hK;obtain ⟨xs,hq,hx⟩:=hg;obtain ⟨its,rv,p,hz⟩:=I.list hq;obtain ⟨f0,f1,f2,f3,f4,f5⟩:=hf it (by simp);have hl:=rv.length;exact wpAny_pyNext_list_end (I.ok.hd hc) st p.isList (by simp;omega) λh' eb=>⟨rfl,I.turned (t':=s.toks) (λb o hb e=>eb b o hb e) f0 f1 f3 f4 f5⟩
 self:=λ_ _ _ _ _ st h=>wpAny_pyIter_listiter st h
theorem qaf (a it:Addr):Turn P w K tg (Itt K a) [it] it (λi h=>h.IsTupleIter it a i) where
 mem:=by simp
 obj:=λi h st b hb=>by
  have e:b=it:=by simpa using hb
  subst e;obtain ⟨o,e,c,d⟩:=st;exact ⟨o,e,λv z=>by rw [d] at z;cases z⟩
 keep:=λi h h' st k=>st.at λo e=>k it (by simp) o e
 item:=by
  intro X hP hw hK hc i pins s σ H E I hf st hg;subst hP hw hK;obtain ⟨xs,x,hq,hx⟩:=hg;obtain ⟨its,rv,p,hz⟩:=I.tuple hq;obtain ⟨u,hu,ru⟩:=rv.get hx;obtain ⟨f0,f1,f2,f3,f4,f5⟩:=hf it (by simp);refine wpAny_pyNext_tuple_item st (show s.heap.IsTuple a its.toArray from p) (x:=u) (by simpa using hu) λh' st' sb=>?_;have I1:Inv X pins σ H { s with heap:=h' }:=I.turned (t':=s.toks) (λb o hb e=>(sb.2 b hb).trans e) f0 f1 f3 f4 f5;obtain ⟨o,e,c,d⟩:=id st';exact ⟨u,rfl,qh3 (s:={ s with heap:=h' }) e c d (by decide) ⟨x,H,I1,ru,⟨rfl,λys hy=>by rw [I.tuple_inj hy hq];exact hx⟩,st',λb hb=>(hf b hb).1⟩⟩
 done:=by
  intro X hP hw hK hc i pins s σ H E I hf st hg;subst hP hw hK;obtain ⟨xs,hq,hx⟩:=hg;obtain ⟨its,rv,p,hz⟩:=I.tuple hq;obtain ⟨f0,f1,f2,f3,f4,f5⟩:=hf it (by simp);have hl:=rv.length;exact wpAny_pyNext_tuple_end (I.ok.hd hc) st (show s.heap.IsTuple a its.toArray from p) (by simp;omega) λh' eb=>⟨rfl,I.turned (t':=s.toks) (λb o hb e=>eb b o hb e) f0 f1 f3 f4 f5⟩
 self:=λ_ _ _ _ _ st h=>wpAny_pyIter_tupleiter st h
theorem qaG (it:Addr) (lo:Int) (n:Nat):Turn P w K tg (Itr lo n) [it] it (λi h=>IsRangeIter h it (lo+(i:Nat)*1) ((n:Int)-(i:Nat)) 1) where
 mem:=by simp
 obj:=λi h st b hb=>by
  have e:b=it:=by simpa using hb
  subst e;exact ⟨_,st,λv z=>by
   have z':Data.fields _=Data.cell v:=z;cases z'⟩
 keep:=λi h h' st k=>k it (by simp) _ st
 item:=by
  intro X hP hw hK hc i pins s σ H E I hf st hg;subst hP hw hK;obtain ⟨f0,f1,f2,f3,f4,f5⟩:=hf it (by simp);have W:=Walks.range (prog:=X.prog) (w:=X.w) (I.ok.hd hc) it lo 1 n;refine W.item i s _ _ hg st λv h' tk hv st' kk=>?_;obtain ⟨t,rfl⟩:=hv;have I1:Inv X pins σ H { s with heap:=h',toks:=tk }:=I.turned (λb o hb e=>kk b o (by simpa using hb) e) f0 f1 f3 f4 f5;refine ⟨_,rfl,qh3 (s:={ s with heap:=h',toks:=tk }) (n:="range_iterator") st' rfl rfl (by decide) ⟨.int (lo+i),H,I1,⟨t,?_⟩,⟨rfl,rfl⟩,st',λb hb=>(hf b hb).1⟩⟩;rw [Int.mul_one]
 done:=by
  intro X hP hw hK hc i pins s σ H E I hf st hg;subst hP hw hK;obtain ⟨f0,f1,f2,f3,f4,f5⟩:=hf it (by simp);exact wpAny_pyNext_range_end (I.ok.hd hc) st (by have:n<=i:=hg;omega) λh' eb=>⟨rfl,I.turned (t':=s.toks) (λb o hb e=>eb b o hb e) f0 f1 f3 f4 f5⟩
 self:=λ_ _ _ _ _ st h=>wpAny_pyIter_rangeiter st h
variable {p:Pos} {fp:List Addr}
theorem M9 {pins:List (Addr×Obj)} {σ:St} {H:Hp} {s:Shared} {R:It->Hp->Prop} {E:Value->Shared->Prop} {lo hi:Int} {t u v:Tok} {tk:Nat} (I:Inv X pins σ H s) (h1:-(2 ^ 62)<=lo) (h2:lo<2 ^ 62) (h3:-(2 ^ 62)<=hi) (h4:hi<2 ^ 62)
  (q:R (Itr lo (hi-lo).toNat) H):wpAny (model X.prog X.w) X.A (pyIter (.ref s.heap.objs.size)) (PIE X pins σ tg R) E { s with heap:=s.heap.push { cls:=.type "range",data:=.fields #[.int lo t,.int hi u,.int 1 v] },toks:=tk }:=by
 refine wpAny_pyIter_range (IsRange.new ..) (small_one h1 h2 h3 h4) ?_;have I1:Inv X pins σ H { s with heap:=s.heap.push { cls:=.type "range",data:=.fields #[.int lo t,.int hi u,.int 1 v] },toks:=tk }:=I.kept λb o e=>v5 _ e;refine ⟨(s.heap.push { cls:=.type "range",data:=.fields #[.int lo t,.int hi u,.int 1 v] }).objs.size,[(s.heap.push { cls:=.type "range",data:=.fields #[.int lo t,.int hi u,.int 1 v] }).objs.size],_,_,H,rfl,
  I1.kept (t':=tk) λb o e=>v5 _ e,qaG _ lo (hi-lo).toNat,?_,λb hb=>?_,q⟩
 ·have e1:lo+((0:Nat):Int)*1=lo:=by simp
  have e2:(((hi-lo).toNat:Nat):Int)-((0:Nat):Int)=Builtin.Range.rangeSize lo hi 1:=by rw [rangeSize_one];split<;>omega
  show IsRangeIter _ _ (lo+((0:Nat):Int)*1) ((((hi-lo).toNat:Nat):Int)-((0:Nat):Int)) 1;rw [e1,e2];exact v6 _ rfl
 ·have e:b=(s.heap.push { cls:=.type "range",data:=.fields #[.int lo t,.int hi u,.int 1 v] }).objs.size:=by simpa using hb
  subst e;exact I1.fpOk (u9 _) (I1.hok.fresh (u9 _))
def qp3 (ta:TA):TI:=λσ H R=>ta σ H λvs H1=>∃ j:Int,vs=[.int j]/\-(2 ^ 62)<=j/\j<2 ^ 62/\R (Itr 0 j.toNat) H1
def qp8 (ta:TA):TI:=λσ H R=>ta σ H λvs H1=>∃ i j:Int,vs=[.int i,.int j]/\(-(2 ^ 62)<=i/\i<2 ^ 62/\-(2 ^ 62)<=j/\j<2 ^ 62)/\R (Itr i (j-i).toNat) H1
theorem qaR {a:Expr} {ta:TA} (hg:Gl X "range") (hm:X.mg "range" = none) (ha:PA X [a] ta) (hs:autoParam (ze0 [a] X.env=[(false,eval a X.env)]) zA0._auto_1):PI X tg (.Call (.Name "range" p) [a] [] pos) (qp3 ta):=by
 intro pins s σ H R I h;refine Call_ (UE I hg hm boot_range (zi9 (thn (ha pos pins s σ H _ I h) λus s1 ⟨vs,H1,I1,r1,q1⟩=>?_) hs rfl));obtain ⟨j,e,q1,q2,q⟩:=q1;subst e;cases r1 with
 |cons r rr=>
  cases rr;obtain ⟨t,rfl⟩:=r;exact call_range_1 (M9 I1 (by omega) (by omega) q1 q2 (by simpa using q))
theorem qa8 {a b:Expr} {ta:TA} {p pos:Pos} (hg:Gl X "range") (hm:X.mg "range" = none) (ha:PA X [a,b] ta) (hs:autoParam (ze0 [a,b] X.env=[(false,eval a X.env),(false,eval b X.env)]) zA0._auto_1) (hs2:autoParam (ze0 [b] X.env=[(false,eval b X.env)]) zA0._auto_1) :
  PI X tg (.Call (.Name "range" p) [a,b] [] pos) (qp8 ta):=by
 intro pins s σ H R I h;refine Call_ (UE I hg hm boot_range (zi9 (thn (ha pos pins s σ H _ I h) λus s1 ⟨vs,H1,I1,r1,q1⟩=>?_) (by rw [hs,hs2]) (by rw [hs2];rfl)));obtain ⟨i,j,e,⟨q1,q2,q3,q4⟩,q⟩:=q1;subst e;cases r1 with
 |cons r rr=>
  cases rr with
  |cons r' rr=>
   cases rr;obtain ⟨t,rfl⟩:=r;obtain ⟨t',rfl⟩:=r';exact call_range_2 (M9 I1 q1 q2 q3 q4 q)
def qrS (wi:TI) (g:TG) (tb:TS):TS:=λD σ H=>wi σ H λJ H1=>∃ W:Nat->Nat->St->Hp->Prop,(∃ m,W 0 m σ H1)/\∀ i m σ H,W i m σ H ->
 (J.stop i H/\D.nx σ H)\/(J.go i H/\∃ N:St->Hp->Prop,(∀ σ' H',N σ' H'->∃ m',m'<m/\W (i+1) m' σ' H')/\∀ x H',J.yld i H x H'->g x σ H' λσ2 H2=>tb { D with nx:=N,ct:=N,bk:=D.nx } σ2 H2)
noncomputable def K5 (fp:List Addr) (h:Heap):List (Addr×Obj):=fp.filterMap λb=>(h.get? b).map λo=>(b,o)
theorem YA {o:Obj} (hb:b∈fp) (e:h.get? b=some o):(b,o)∈K5 fp h:=xg2.mpr ⟨b,hb,by rw [e];rfl⟩
theorem qcf {p:Addr×Obj} (hp:p∈K5 fp h):p.1∈fp/\h.get? p.1=some p.2:=by
 obtain ⟨b,hb,e⟩:=xg2.mp hp;cases q:h.get? b with
 |none=>rw [q] at e;cases e
 |some o=>
  rw [q] at e;have e':(b,o)=p:=Option.some.inj e;subst e';exact ⟨hb,q⟩
theorem Inv.pinned (I:Inv X pins σ H s) (hf:∀ b∈fp,LB X pins H b) (ho:∀ b∈fp,∃ o,s.heap.get? b=some o/\∀ v,o.data≠.cell v):Inv X (pins++K5 fp s.heap) σ H s:=
 I.pins_of λp hp=>(zk7.mp hp).elim (λz=>I.pin p (za1 _ z)) λz=>by
  obtain ⟨hb,e⟩:=qcf z;obtain ⟨f0,f1,f2,_⟩:=hf p.1 hb;obtain ⟨o,e',d⟩:=ho p.1 hb;rw [e] at e';cases e';exact ⟨e,f0,f1,f2,d⟩
theorem Inv.unpinned {pl:List (Addr×Obj)} (I:Inv X (pins++pl) σ H s):Inv X pins σ H s:=I.pins_of λp hp=>I.pin p (za1 _ (List.mem_append_left _ hp))
theorem qoV {iter:Expr} {body:List Stmt} {wi:TI} {g:TG} {tb:TS} {pos:Pos} (hp:PassesOwn (model X.prog X.w) X.A X.env X.xe) (hc:X.calm=true) (hi:PI X tg iter wi) (hg:PG X tg g) (hb:PSs X body tb)
  (hs:autoParam (∀ x,zf1 iter X.env x=pure x) zA3._auto_1):PS X (.For tg iter body [] pos) (qrS wi g tb):=by
 intro pins s σ H D I h;refine wpAny_For (thn (hi pins s σ H _ I h) λv s1 h1=>thn h1 λitv s2 h2=>?_) hs;obtain ⟨it,fp,tn,J,H2,e,I2,T,st2,f2,W,⟨m0,w0⟩,turn⟩:=h2;subst e
 -- what stays true of the iterator's objects through the loop
 have stat:∀ {H':Hp},(∀ b∈fp,H' b=none)->∀ b∈fp,LB X pins H' b:=λhn b hb=>⟨hn b hb,(f2 b hb).2⟩
 refine codeAny_forLoop_any (λn s'=>∃ i σ' H',Inv X pins σ' H' s'/\tn i s'.heap/\(∀ b∈fp,H' b=none)/\W i n σ' H') ?_ m0 ⟨0,σ,H2,I2,st2,λb hb=>(f2 b hb).1,w0⟩;rintro n s3 ⟨i,σ3,H3,I3,st3,fr3,w3⟩;rcases turn i n σ3 H3 w3 with ⟨stop,qn⟩|⟨go,N,hN,step⟩
 ·refine xa7 hp (thn (T.done X rfl rfl rfl hc i pins s3 σ3 H3 X.xe I3 (stat fr3) st3 stop) λr s4 ⟨hr,I4⟩=>?_);subst hr;exact xk3 ⟨σ3,H3,I4,qn⟩
 ·refine xa7 hp (thn (T.item X rfl rfl rfl hc i pins s3 σ3 H3 X.xe I3 (stat fr3) st3 go) λr s4 ⟨u,hr,h4⟩=>?_);subst hr;refine xa7 hp (thn h4 λ_ s5 ⟨x,H5,I5,r5,y5,st5,fr5⟩=>?_);have I5':=I5.pinned (stat fr5) (T.obj _ _ st5);refine xa7 hp (thn (hg _ s5 σ3 H5 x u _ I5' r5 (step x H5 y5)) λ_ s6 ⟨σ6,H6,I6,q6⟩=>?_);refine xa7 hp (thn (hb _ s6 σ6 H6 _ I6 q6) λf s7 q7=>?_);have again:∀ {σ7:St} {H7:Hp},Inv X (pins++K5 fp s5.heap) σ7 H7 s7->N σ7 H7->∃ m,m<n/\∃ i σ' H',Inv X pins σ' H' s7/\tn i s7.heap/\(∀ b∈fp,H' b=none)/\W i m σ' H':=λ{σ7 H7} I7 n7=>by
   obtain ⟨m',hm,w7⟩:=hN σ7 H7 n7;refine ⟨m',hm,i+1,σ7,H7,I7.unpinned,T.keep _ _ _ st5 λb hb o e=>(I7.pin (b,o) (za1 _ (za1 _ (YA hb e)))).1,λb hb=>?_,w7⟩;obtain ⟨o,e,d⟩:=T.obj _ _ st5 b hb;exact (I7.pin (b,o) (za1 _ (za1 _ (YA hb e)))).2.1
  cases f with
  |next=>obtain ⟨σ7,H7,I7,n7⟩:=q7;exact again I7 n7
  |cont=>obtain ⟨σ7,H7,I7,n7⟩:=q7;exact again I7 n7
  |brk=>obtain ⟨σ7,H7,I7,q7⟩:=q7;exact ⟨σ7,H7,I7.unpinned,q7⟩
  |ret v=>obtain ⟨x7,σ7,H7,I7,r7,q7⟩:=q7;exact ⟨x7,σ7,H7,I7.unpinned,r7,q7⟩
abbrev R2:=V->V->Hp->VK->Prop
def OpR (X:Cx) (f:Value->Value->Sem Value) (r:R2):Prop:=
 ∀ (pins:List (Addr×Obj)) (s:Shared) (σ:St) (H:Hp) (x y:V) (v u:Value) (Q:VK),Inv X pins σ H s->zK x v->zK y u->r x y H Q ->
  wpAny (model X.prog X.w) X.A (f v u) (EP X pins σ Q) X.xe s
def UnR (X:Cx) (f:Value->Sem Value) (r:V->Hp->VK->Prop):Prop:=
 ∀ (pins:List (Addr×Obj)) (s:Shared) (σ:St) (H:Hp) (x:V) (v:Value) (Q:VK),Inv X pins σ H s->zK x v->r x H Q ->
  wpAny (model X.prog X.w) X.A (f v) (EP X pins σ Q) X.xe s
def JW (X:Cx) (f:Value) (r:List V->Hp->VK->Prop):Prop:=
 ∀ (pins:List (Addr×Obj)) (s:Shared) (σ:St) (H:Hp) (xs:List V) (us:List Value) (Q:VK),Inv X pins σ H s->zJ xs us->r xs H Q ->
  wpAny (model X.prog X.w) X.A (call f us) (EP X pins σ Q) X.xe s
def tOp (r:R2) (ta tb:TE):TE:=λσ H Q=>ta σ H λx H1=>tb σ H1 λy H2=>r x y H2 Q
def tUn (r:V->Hp->VK->Prop) (ta:TE):TE:=λσ H Q=>ta σ H λx H1=>r x H1 Q
def rI (C:Int->Int->Prop) (g:Int->Int->V):R2:=λx y H Q=>∃ i j,x=.int i/\y=.int j/\C i j/\Q (g i j) H
def rI0 (g:Int->Int->V):R2:=λx y H Q=>∃ i j,x=.int i/\y=.int j/\Q (g i j) H
def rU (g:Int->V):V->Hp->VK->Prop:=λx H Q=>∃ i,x=.int i/\Q (g i) H
variable {ta:TE} {r:R2}
section
variable {a b:Expr} {tb tc:TE}
theorem qqW (ha:PE X a ta) (hb:PE X b tb) {pins:List (Addr×Obj)} {s:Shared} {σ:St} {H:Hp} {R:V->V->Hp->Prop} (I:Inv X pins σ H s)
  (h:ta σ H λx H1=>tb σ H1 λy H2=>R x y H2) {Q:Value->Shared->Prop} {f:Value->Value->Sem Value}
  (hf:∀ v u s2 x y H2,Inv X pins σ H2 s2->zK x v->zK y u->R x y H2->wpAny (model X.prog X.w) X.A (f v u) Q X.xe s2) :
  wpAny (model X.prog X.w) X.A (eval a X.env) (λv s₁=>wpAny (model X.prog X.w) X.A (eval b X.env) (λu s₂=>wpAny (model X.prog X.w) X.A (f v u) Q X.xe s₂) X.xe s₁) X.xe s:=by
 refine thn (ha pins s σ H _ I h) λv s1 ⟨x,H1,I1,r1,q1⟩=>?_;refine thn (hb pins s1 σ H1 _ I1 q1) λu s2 ⟨y,H2,I2,r2,q2⟩=>?_;exact hf v u s2 x y H2 I2 r1 r2 q2
theorem qpO {op:Operator} (ho:OpR X (xb7 op) r) (ha:PE X a ta) (hb:PE X b tb):PE X (.BinOp a op b pos) (tOp r ta tb):=by
 intro pins s σ H Q I h;exact wpAny_BinOp (qqW ha hb I h λv u s2 x y H2 I2 rx ry q=>ho pins s2 σ H2 x y v u Q I2 rx ry q)
theorem qqc {op:UnaryOp} {r:V->Hp->VK->Prop} (ho:UnR X (unaryOp op) r) (ha:PE X a ta):PE X (.UnaryOp op a pos) (tUn r ta):=by
 intro pins s σ H Q I h;exact UnaryOp_ (thn (ha pins s σ H _ I h) λv s1 ⟨x,H1,I1,r1,q1⟩=>ho pins s1 σ H1 x v Q I1 r1 q1)
theorem opI {f:Value->Value->Sem Value} {C:Int->Int->Prop} {g:Int->Int->Int}
  (rule:∀ (i j:Int) (t u:Tok) (s:Shared) (Q:Value->Shared->Prop) (E:Value->Shared->Prop),C i j->Q (.int (g i j) s.toks) { s with toks:=s.toks+1 }->wpAny (model X.prog X.w) X.A (f (.int i t) (.int j u)) Q E s) :
  OpR X f (rI C λi j=>.int (g i j)):=by
 intro pins s σ H x y v u Q I rx ry h;obtain ⟨i,j,rfl,rfl,hc,q⟩:=h;obtain ⟨t,rfl⟩:=rx;obtain ⟨t',rfl⟩:=ry;exact rule i j t t' s _ _ hc ⟨.int (g i j),H,I.tok _,⟨_,rfl⟩,q⟩
theorem qqu {f:Value->Value->Sem Value} {g:Int->Int->Int}
  (rule:∀ (i j:Int) (t u:Tok) (s:Shared) (Q:Value->Shared->Prop) (E:Value->Shared->Prop),Q (.int (g i j) s.toks) { s with toks:=s.toks+1 }->wpAny (model X.prog X.w) X.A (f (.int i t) (.int j u)) Q E s) :
  OpR X f (rI0 λi j=>.int (g i j)):=by
 intro pins s σ H x y v u Q I rx ry h;obtain ⟨i,j,rfl,rfl,q⟩:=h;obtain ⟨t,rfl⟩:=rx;obtain ⟨t',rfl⟩:=ry;exact rule i j t t' s _ _ ⟨.int (g i j),H,I.tok _,⟨_,rfl⟩,q⟩
theorem qpt {f:Value->Value->Sem Value} {g:Int->Int->Bool}
  (rule:∀ (i j:Int) (t u:Tok) (s:Shared) (Q:Value->Shared->Prop) (E:Value->Shared->Prop),Q (.bool (g i j)) s->wpAny (model X.prog X.w) X.A (f (.int i t) (.int j u)) Q E s) :
  OpR X f (rI0 λi j=>.bl (g i j)):=by
 intro pins s σ H x y v u Q I rx ry h;obtain ⟨i,j,rfl,rfl,q⟩:=h;obtain ⟨t,rfl⟩:=rx;obtain ⟨t',rfl⟩:=ry;exact rule i j t t' s _ _ ⟨.bl (g i j),H,I,rfl,q⟩
def qdr (i j:Int):Prop:=0<j/\j<1073741824
def qcK (i j:Int):Prop:=0<=j/\j<=1000000/\i.natAbs<2 ^ 64
def j9 (i j:Int):Prop:=(-(2 ^ 64)<i/\i<2 ^ 64)\/(-(2 ^ 64)<j/\j<2 ^ 64)
theorem j9.ok {i j:Int} (h:j9 i j):IntMulOk i j:=by
 rcases h with ⟨h1,h2⟩|⟨h1,h2⟩
 ·exact .of_left (intBits_le_64 h1 h2)
 ·exact .of_right (intBits_le_64 h1 h2)
theorem qaK (k:Nat):(0:Int)<=2 ^ k:=by
 rw [two_pow_cast];exact Int.natCast_nonneg _
theorem qlx:OpR X (xb7 .Add) (rI0 λi j=>.int (i+j)):=qqu λ_ _ _ _ _ _ _ q=>add_int q
theorem qn2:OpR X (xb7 .Sub) (rI0 λi j=>.int (i-j)):=qqu λ_ _ _ _ _ _ _ q=>sub_int q
theorem ql6:OpR X (xb7 .Mult) (rI j9 λi j=>.int (i*j)):=opI λ_ _ _ _ _ _ _ hc q=>mul_int q hc.ok
theorem qhY:OpR X (xb7 .FloorDiv) (rI qdr λi j=>.int (i/j)):=opI λi j _ _ _ _ _ hc q=>by
 have h1:(0:Int)<j:=hc.1;have h2:j<1073741824:=hc.2;exact floordiv_int (by omega) (by rw [Int.fdiv_eq_ediv_of_nonneg i (by omega)];exact q) (.inl (PyProof.noPylong_small (by omega)))
theorem qnM:OpR X (xb7 .Mod) (rI (λ_ j=>0<j) λi j=>.int (i%j)):=opI λi j _ _ _ _ _ hc q=>by
 have h1:(0:Int)<j:=hc;exact mod_int' (by omega) (by rw [Int.fmod_eq_emod_of_nonneg i (by omega)];exact q)
theorem qm1:OpR X (xb7 .Pow) (rI qcK λi j=>.int (i ^ j.toNat)):=opI λ_ _ _ _ _ _ _ hc q=>pow_int_small hc.1 hc.2.1 hc.2.2 q
theorem qmw:OpR X (xb7 .LShift) (rI qcK λi j=>.int (i*2 ^ j.toNat)):=opI λ_ _ _ _ _ _ _ hc q=>lshift_int_small hc.1 hc.2.1 hc.2.2 q
theorem qmm:OpR X (xb7 .RShift) (rI (λ_ j=>0<=j) λi j=>.int (i/2 ^ j.toNat)):=opI λi j _ _ _ _ _ hc q=>
 rshift_int hc (by rw [Int.fdiv_eq_ediv_of_nonneg i (qaK _)];exact q)
theorem qkI:OpR X (xb7 .BitAnd) (rI0 λi j=>.int (zj0 i j)):=qqu λ_ _ _ _ _ _ _ q=>and_int q
theorem unI {f:Value->Sem Value} {g:Int->Int}
  (rule:∀ (i:Int) (t:Tok) (s:Shared) (Q:Value->Shared->Prop) (E:Value->Shared->Prop),Q (.int (g i) s.toks) { s with toks:=s.toks+1 }->wpAny (model X.prog X.w) X.A (f (.int i t)) Q E s) :
  UnR X f (rU λi=>.int (g i)):=by
 intro pins s σ H x v Q I rx h;obtain ⟨i,rfl,q⟩:=h;obtain ⟨t,rfl⟩:=rx;exact rule i t s _ _ ⟨.int (g i),H,I.tok _,⟨_,rfl⟩,q⟩
theorem qnr:UnR X (unaryOp .USub) (rU λi=>.int (-i)):=unI λ_ _ _ _ _ q=>neg_int q
end
noncomputable def qqM:V->V->Bool
 |.non,.non=>true|.non,.int _=>true|.int _,.non=>true|.non,.bl _=>true|.bl _,.non=>true|.non,.str _=>true|.str _,.non=>true
 |.int _,.int _=>true|.bl _,.bl _=>true|.str _,.str _=>true|.byt _,.byt _=>true
 |.int _,.str _=>true|.str _,.int _=>true|.bl _,.str _=>true|.str _,.bl _=>true
 |_,_=>false
def rEq:R2:=λx y H Q=>qqM x y=true/\Q (.bl (decide (x=y))) H
def rNe:R2:=λx y H Q=>qqM x y=true/\Q (.bl (!decide (x=y))) H
theorem qc2 {i j:Int}:decide (V.int i=V.int j)=(i==j):=by
 rw [zm7];simp
theorem qe5 {i j:Bool}:decide (V.bl i=V.bl j)=(i==j):=by
 rw [zm7];simp
theorem qcb {i j:Str}:decide (V.str i=V.str j)=(i==j):=by
 rw [zm7];simp
theorem qb8 {i j:Array UInt8}:decide (V.byt i=V.byt j)=(i.toList==j.toList):=by
 rw [zm7];cases i;cases j;simp
variable {op:CmpOp}
section
variable {a b:Expr} {tb tc:TE}
theorem zf {Q:VK} {k k':Bool} (I:Inv X pins σ H s) (q:Q (.bl k) H) (e:k=k'):EP X pins σ Q (.bool k') s:=by
 subst e;exact ⟨.bl k,H,I,rfl,q⟩
theorem qqt:OpR X (zi1 .Eq) rEq:=by
 intro pins s σ H x y v u Q I rx ry h;obtain ⟨hs,q⟩:=h;cases x with
 |non=>
  cases rx;cases y with
  |non=>cases ry;exact PySem.EqNone.eq_none_none (zf I q (by simp))
  |bl j=>cases ry;exact PySem.EqNone.eq_none_bool (zf I q (by simp))
  |int j=>obtain ⟨t',rfl⟩:=ry;exact PySem.EqNone.eq_none_int (zf I q (by simp))
  |str j=>obtain ⟨t',rfl⟩:=ry;exact PySem.EqNone.eq_none_str (zf I q (by simp))
  |_=>exact absurd (show false=true from hs) v8
 |bl i=>
  cases rx;cases y with
  |non=>cases ry;exact PySem.EqNone.eq_bool_none (zf I q (by simp))
  |bl j=>cases ry;exact eq_bool (zf I q qe5)
  |str j=>obtain ⟨t',rfl⟩:=ry;exact PySem.EqMixed.eq_bool_str (zf I q (by simp))
  |_=>exact absurd (show false=true from hs) v8
 |int i=>
  obtain ⟨t,rfl⟩:=rx;cases y with
  |non=>cases ry;exact PySem.EqNone.eq_int_none (zf I q (by simp))
  |int j=>obtain ⟨t',rfl⟩:=ry;exact eq_int (zf I q qc2)
  |str j=>obtain ⟨t',rfl⟩:=ry;exact PySem.EqMixed.eq_int_str (zf I q (by simp))
  |_=>exact absurd (show false=true from hs) v8
 |str i=>
  obtain ⟨t,rfl⟩:=rx;cases y with
  |non=>cases ry;exact PySem.EqNone.eq_str_none (zf I q (by simp))
  |bl j=>cases ry;exact PySem.EqMixed.eq_str_bool (zf I q (by simp))
  |int j=>obtain ⟨t',rfl⟩:=ry;exact PySem.EqMixed.eq_str_int (zf I q (by simp))
  |str j=>obtain ⟨t',rfl⟩:=ry;exact eq_str (zf I q qcb)
  |_=>exact absurd (show false=true from hs) v8
 |byt i=>
  obtain ⟨t,rfl⟩:=rx;cases y with
  |byt j=>obtain ⟨t',rfl⟩:=ry;exact PySem.W.eq_bytes (zf I q qb8)
  |_=>exact absurd (show false=true from hs) v8
 |_=>cases y<;>exact absurd (show false=true from hs) v8
theorem qqx:OpR X (zi1 .NotEq) rNe:=by
 intro pins s σ H x y v u Q I rx ry h;obtain ⟨hs,q⟩:=h;cases x with
 |non=>
  cases rx;cases y with
  |non=>cases ry;exact PySem.EqNone.ne_none_none (zf I q (by simp))
  |bl j=>cases ry;exact PySem.EqNone.ne_none_bool (zf I q (by simp))
  |int j=>obtain ⟨t',rfl⟩:=ry;exact PySem.EqNone.ne_none_int (zf I q (by simp))
  |str j=>obtain ⟨t',rfl⟩:=ry;exact PySem.EqNone.ne_none_str (zf I q (by simp))
  |_=>exact absurd (show false=true from hs) v8
 |bl i=>
  cases rx;cases y with
  |non=>cases ry;exact PySem.EqNone.ne_bool_none (zf I q (by simp))
  |bl j=>cases ry;exact ne_bool (zf I q (congrArg not qe5))
  |str j=>obtain ⟨t',rfl⟩:=ry;exact PySem.EqMixed.ne_bool_str (zf I q (by simp))
  |_=>exact absurd (show false=true from hs) v8
 |int i=>
  obtain ⟨t,rfl⟩:=rx;cases y with
  |non=>cases ry;exact PySem.EqNone.ne_int_none (zf I q (by simp))
  |int j=>obtain ⟨t',rfl⟩:=ry;exact ne_int (zf I q (congrArg not qc2))
  |str j=>obtain ⟨t',rfl⟩:=ry;exact PySem.EqMixed.ne_int_str (zf I q (by simp))
  |_=>exact absurd (show false=true from hs) v8
 |str i=>
  obtain ⟨t,rfl⟩:=rx;cases y with
  |non=>cases ry;exact PySem.EqNone.ne_str_none (zf I q (by simp))
  |bl j=>cases ry;exact PySem.EqMixed.ne_str_bool (zf I q (by simp))
  |int j=>obtain ⟨t',rfl⟩:=ry;exact PySem.EqMixed.ne_str_int (zf I q (by simp))
  |str j=>obtain ⟨t',rfl⟩:=ry;exact ne_str (zf I q (congrArg not qcb))
  |_=>exact absurd (show false=true from hs) v8
 |byt i=>
  obtain ⟨t,rfl⟩:=rx;cases y with
  |byt j=>obtain ⟨t',rfl⟩:=ry;exact PySem.W.ne_bytes (zf I q (congrArg not qb8))
  |_=>exact absurd (show false=true from hs) v8
 |_=>cases y<;>exact absurd (show false=true from hs) v8
theorem qaE:OpR X (zi1 .Lt) (rI0 λi j=>.bl (decide (i<j))):=qpt λ_ _ _ _ _ _ _ q=>lt_int q
theorem qju:OpR X (zi1 .LtE) (rI0 λi j=>.bl (decide (i<=j))):=qpt λ_ _ _ _ _ _ _ q=>le_int q
theorem qen:OpR X (zi1 .Gt) (rI0 λi j=>.bl (decide (j<i))):=qpt λ_ _ _ _ _ _ _ q=>gt_int q
theorem qnW:OpR X (zi1 .GtE) (rI0 λi j=>.bl (decide (j<=i))):=qpt λ_ _ _ _ _ _ _ q=>ge_int q
theorem TV:OpR X (zi1 .Is) (λx y H Q=>y=.non/\Q (.bl (decide (x=.non))) H):=by
 intro pins s σ H x y v u Q I rx ry h;obtain ⟨rfl,q⟩:=h;cases ry;refine is_none_gen (zf I q ?_);cases x<;>first
  | (cases rx;rfl)
  | (obtain ⟨t,rfl⟩:=rx;rfl)
theorem qjg:OpR X (zi1 .IsNot) (λx y H Q=>y=.non/\Q (.bl (!decide (x=.non))) H):=by
 intro pins s σ H x y v u Q I rx ry h;obtain ⟨rfl,q⟩:=h;cases ry;refine isnot_none_gen (zf I q ?_);cases x<;>first
  | (cases rx;rfl)
  | (obtain ⟨t,rfl⟩:=rx;rfl)
theorem OpR.or {f:Value->Value->Sem Value} {r':R2} (h:OpR X f r) (h':OpR X f r'):OpR X f (λx y H Q=>r x y H Q\/r' x y H Q):=by
 intro pins s σ H x y v u Q I rx ry q;rcases q with q|q
 ·exact h pins s σ H x y v u Q I rx ry q
 ·exact h' pins s σ H x y v u Q I rx ry q
theorem qp (b:Expr) (h:autoParam (op≠.In) zA1._auto_1) (h2:autoParam (op≠.NotIn) zA1._auto_1):xc9 op b=false:=by
 have e1:(op==CmpOp.In)=false:=by cases op<;>first|rfl|exact absurd rfl h
 have e2:(op==CmpOp.NotIn)=false:=by cases op<;>first|rfl|exact absurd rfl h2
 cases b<;>simp [xc9,e1,e2]
theorem qjO (ho:OpR X (zi1 op) r) (ha:PE X a ta) (hb:PE X b tb) (hm:xc9 op b=false):PE X (.Compare a [op] [b] pos) (tOp r ta tb):=by
 intro pins s σ H Q I h;exact wpAny_Compare1 (qqW ha hb I h λv u s2 x y H2 I2 rx ry q=>ho pins s2 σ H2 x y v u Q I2 rx ry q) hm
def qm8 (t:TE):TT:=λσ H Q=>t σ H λx H'=>∃ k,x=.bl k/\Q k H'
theorem qa1 (ho:OpR X (zi1 op) r) (ha:PE X a ta) (hb:PE X b tb) (hm:xc9 op b=false):PT X (.Compare a [op] [b] pos) (qm8 (tOp r ta tb)):=by
 intro pins s σ H Q I h;refine wpAny_isTrue_Compare1 (thn (ha pins s σ H _ I h) λv s1 ⟨x,H1,I1,r1,q1⟩=>thn (hb pins s1 σ H1 _ I1 q1) λu s2 ⟨y,H2,I2,r2,q2⟩=>
  thn (ho pins s2 σ H2 x y v u _ I2 r1 r2 q2) λc s3 ⟨z,H3,I3,r3,k,e,q3⟩=>?_) hm
 subst e;cases r3;exact zn6 ⟨H3,I3,q3⟩
def qg6 (r r':R2) (ta tb tc:TE):TE:=λσ H Q=>ta σ H λx H1=>tb σ H1 λy H2=>r x y H2 λz H3=>∃ k,z=.bl k /\
 (if k=true then tc σ H3 λw' H4=>r' y w' H4 Q else Q (.bl false) H3)
theorem qeU {op op':CmpOp} {r r':R2} (ho:OpR X (zi1 op) r) (ho':OpR X (zi1 op') r') (ha:PE X a ta) (hb:PE X b tb) (hc:PE X c tc)
  (hm:autoParam (lastMarks [op,op'] [b,c]=false) zA8._auto_1):PE X (.Compare a [op,op'] [b,c] pos) (qg6 r r' ta tb tc):=by
 intro pins s σ H Q I h;refine Compare_chain (thn (ha pins s σ H _ I h) λv s1 ⟨x,H1,I1,r1,q1⟩=>chain_link (thn (hb pins s1 σ H1 _ I1 q1) λu s2 ⟨y,H2,I2,r2,q2⟩=>
  thn (ho pins s2 σ H2 x y v u _ I2 r1 r2 q2) λd s3 ⟨z,H3,I3,r3,k,e,q3⟩=>?_)) hm
 subst e;cases r3;refine zn6 ?_;cases k with
 |false=>exact ite_ff ⟨.bl false,H3,I3,rfl,q3⟩
 |true=>exact ite_tt (chain_last (thn (hc pins s3 σ H3 _ I3 q3) λw' s4 ⟨z',H4,I4,r4,q4⟩=>ho' pins s4 σ H4 y z' u w' Q I4 r2 r4 q4))
theorem C2:(sizeLine:Nat)<2 ^ 63:=by rw [v9];decide
theorem W0 {x:V} (r:zJ [x] us):∃ u,us=[u]/\zK x u:=by
 cases r with
 |cons r1 r2=>cases r2;exact ⟨_,rfl,r1⟩
theorem qcN {x y:V} (r:zJ [x,y] us):∃ u w',us=[u,w']/\zK x u/\zK y w':=by
 cases r with
 |cons r1 r2=>
  cases r2 with
  |cons r3 r4=>cases r4;exact ⟨_,_,rfl,r1,r3⟩
theorem ND:JW X (.builtin "abs") (λxs H Q=>∃ i,xs=[.int i]/\Q (.int (if i<0 then -i else i)) H):=by
 intro pins s σ H xs us Q I r h;obtain ⟨i,rfl,q⟩:=h;obtain ⟨u,rfl,t,rfl⟩:=W0 r;exact call_abs_int λu tk=>⟨.int (if i<0 then -i else i),H,I.tok _,⟨_,rfl⟩,q⟩
theorem qcB (hc:X.calm=true):JW X (.builtin "min") (λxs H Q=>∃ i j,xs=[.int i,.int j]/\Q (.int (if j<i then j else i)) H):=by
 intro pins s σ H xs us Q I r h;obtain ⟨i,j,rfl,q⟩:=h;obtain ⟨u,w',rfl,⟨t,rfl⟩,⟨t',rfl⟩⟩:=qcN r;refine min_two_ints (I.ok.hd hc) λh' tk k=>⟨_,H,I.kept k,?_,q⟩
 by_cases hj:j<i
 ·rw [if_pos hj,if_pos hj];exact ⟨_,rfl⟩
 ·rw [if_neg hj,if_neg hj];exact ⟨_,rfl⟩
def qq2 (K:Frg) (x:V) (H:Hp) (n:Nat):Prop:=
 match x with
 |.str y=>y.length<=sizeLine/\n=y.length
 |.byt y=>y.size<=sizeLine/\n=y.size
 |.ref p=>(∃ xs,SqL K H p xs/\n=xs.length)\/∃ xs,SqT K H p xs/\n=xs.length
 |_=>False
theorem qL:JW X (.builtin "len") (λxs H Q=>∃ x n,xs=[x]/\qq2 X.K x H n/\Q (.int n) H):=by
 intro pins s σ H xs us Q I r h;obtain ⟨x,n,rfl,e,q⟩:=h;obtain ⟨u,rfl,rx⟩:=W0 r;have hl:=C2;have hs:sizeLine=16777216:=v9;cases x with
 |str y=>
  obtain ⟨t,rfl⟩:=rx;obtain ⟨hy,e'⟩:y.length<=sizeLine/\n=y.length:=e;subst e';exact len_str (by omega) ⟨.int _,H,I.tok _,⟨_,rfl⟩,q⟩
 |byt y=>
  obtain ⟨t,rfl⟩:=rx;obtain ⟨hy,e'⟩:y.size<=sizeLine/\n=y.size:=e;subst e';exact PySem.W.len_bytes (by omega) ⟨.int _,H,I.tok _,⟨_,rfl⟩,q⟩
 |ref p=>
  cases rx;have e':(∃ xs,SqL X.K H p xs/\n=xs.length)\/∃ xs,SqT X.K H p xs/\n=xs.length:=e;rcases e' with ⟨xs,hx,e'⟩|⟨xs,hx,e'⟩
  ·subst e';obtain ⟨its,r',pl,hz⟩:=I.list hx;have hlen:=r'.length;exact Calls.call_len_list pl.isList (by simp only [ze3];omega) ⟨.int xs.length,H,I.tok _,⟨_,by simp only [ze3];rw [hlen]⟩,q⟩
  ·subst e';obtain ⟨its,r',pl,hz⟩:=I.tuple hx;have hlen:=r'.length;exact len_tuple pl (by simp only [ze3];omega) ⟨.int xs.length,H,I.tok _,⟨_,by simp only [ze3];rw [hlen]⟩,q⟩
 |_=>exact (show False from e).elim
end
variable {dx C f:Addr}
section
variable {prog:Program} {x:Addr} {mA:Str->Option Value} {name:Str} {v:Value}
end
variable {fs:List (Str×V)}
section
variable {fs':List (Str×V)}
end
section
variable {f:Str} {v:V}
theorem Inv.made (I:Inv X pins σ H s):Inv X pins σ (upd (upd H s.heap.objs.size (.own (s.heap.objs.size+1))) (s.heap.objs.size+1) (.ins C s.heap.objs.size []))
  { s with heap:=(s.heap.push zm2).push (xf6 C s.heap.objs.size) }:=by
 have e1:(s.heap.push zm2).get? s.heap.objs.size=some zm2:=v6 s.heap rfl;have e2:((s.heap.push zm2).push (xf6 C s.heap.objs.size)).get? (s.heap.objs.size+1)=some (xf6 C s.heap.objs.size):=by
  have:=v6 (s.heap.push zm2) (o:=xf6 C s.heap.objs.size) rfl
  rwa [zi4] at this
 have e3:(s.heap.push zm2).Ns s.heap.objs.size (λ_=>none):=⟨zm2,#[],_,e1,rfl,(λe he=>absurd he (by simp)),λ_=>rfl⟩
 have I1:=I.laid (a:=s.heap.objs.size) (o:=.own (s.heap.objs.size+1)) (h':=s.heap.push zm2) (t':=s.toks) (λb u q=>v5 _ q) (u9 _) ⟨_,e1⟩;refine I1.laid (a:=s.heap.objs.size+1) (o:=.ins C s.heap.objs.size []) (t':=s.toks) (λb u q=>v5 _ q) (Nat.le_of_eq (zi4 _ _)) ?_;have ne:s.heap.objs.size≠s.heap.objs.size+1:=za5 (zp7 _);refine ⟨by rw [qO ne,zn],zj1 _,ne,e2,λ_=>none,(Heap.Ns1.of_empty e3).at λo q=>v5 _ q,λ_=>True.intro,λy hy=>absurd rfl hy⟩
end
section
variable {o value:Expr} {f:Str} {tpos:Pos} {tv:TE}
end
section
variable {Q:Value->Shared->Prop} {c:Value} {b:Bool}
end
structure Room (k:Nat) (A:Around):Prop where
 hd:A.handled=none
 dp:A.depth+3*k+5<recursionLimit
 un:A.units+16*k+200<cLine
 gd:A.guards=some []
variable {k:Nat}
theorem Room.mono (r:Room k A) (h:j<=k):Room j A:=⟨r.hd,by have:=r.dp;omega,by have:=r.un;omega,r.gd⟩
theorem Room.deeper (r:Room (k+1) A) (env:Env):Room k (A.deeper env):=
 ⟨r.hd,by have:=r.dp;show A.depth+1+3*k+5<_;omega,by have:=r.un;show A.units+3+16*k+200<_;omega,r.gd⟩
theorem Room.in1 (r:Room (k+1) A):Room k A.in1:=
 ⟨r.hd,by have:=r.dp;show A.depth+3*k+5<_;omega,by have:=r.un;show A.units+1+16*k+200<_;omega,r.gd⟩
theorem Room.depth (r:Room k A):A.depth<recursionLimit:=by have:=r.dp;omega
theorem Room.units (r:Room k A):A.units+64<cLine:=by have:=r.un;omega
def qsj:TA:=λ_ H Q=>Q [] H
def qpY (ta:TE) (tr:TA):TA:=λσ H Q=>ta σ H λx H1=>tr σ H1 λxs H2=>Q (x::xs) H2
variable {es:List Expr} {t:TA}
theorem CY:PA X [] qsj:=λ_ _ _ _ H Q I h=>xn2 ⟨[],H,I,.nil,h⟩
theorem ZT (ha:PE X e te) (hr:PA X es t) (hs:autoParam (ze0 (e::es) X.env=(false,eval e X.env)::ze0 es X.env) zA0._auto_1):PA X (e::es) (qpY te t):=by
 intro pos pins s σ H Q I h;rw [hs];show wpAny _ _ (spliced ((false,eval e X.env)::zn3 pos (ze0 es X.env))) _ _ s;refine xm7 (thn (ha pins s σ H _ I h) λu s1 ⟨x,H1,I1,r1,q1⟩=>?_);exact thn (hr pos pins s1 σ H1 _ I1 q1) λus s2 ⟨xs,H2,I2,r2,q2⟩=>⟨x::xs,H2,I2,.cons r1 r2,q2⟩
def qsd (t:TA):TE:=λσ H Q=>t σ H λxs H1=>xs.length<=sizeLine/\∀ p,H1 p=none->Q (.ref p) (upd H1 p (.tup xs))
def qsn (t:TA):TE:=λσ H Q=>t σ H λxs H1=>xs.length<=sizeLine/\∀ p,H1 p=none->Q (.ref p) (upd H1 p (.lst xs))
theorem qfo {x1} (h:PA X es t):PE X (.Tuple es x1 pos) (qsd t):=by
 intro pins s σ H Q I hq;refine wpAny_Tuple_spliced (thn (h pos pins s σ H _ I hq) λus s1 ⟨xs,H1,I1,r,z,q⟩=>⟨by rw [← r.length];exact z,?_⟩);have hf:H1 s1.heap.objs.size=none:=I1.hok.fresh (u9 _);refine ⟨.ref s1.heap.objs.size,upd H1 s1.heap.objs.size (.tup xs),I1.laid (t':=s1.toks) (λb u e=>v5 _ e) (u9 _) ?_,rfl,q _ hf⟩;exact ⟨z,us,r,⟨_,v6 _ rfl,rfl,_,rfl,rfl⟩⟩
theorem qme (h:PA X es t):PE X (.List es pos) (qsn t):=by
 intro pins s σ H Q I hq;refine wpAny_List_spliced (thn (h pos pins s σ H _ I hq) λus s1 ⟨xs,H1,I1,r,z,q⟩=>⟨by rw [← r.length];exact z,?_⟩);have hf:H1 s1.heap.objs.size=none:=I1.hok.fresh (u9 _);refine ⟨.ref s1.heap.objs.size,upd H1 s1.heap.objs.size (.lst xs),I1.laid (t':=s1.toks) (λb u e=>v5 _ e) (u9 _) ?_,rfl,q _ hf⟩;exact ⟨z,us,0,r,v6 _ rfl⟩
abbrev Sp:=List V->Hp->VK->XK->Prop
abbrev CXT:=List Env->Hp->Shared->XK->Value->Shared->Prop
structure Env0 (P:Program) (w:World) (K:Frg) (mg:Str->Option Value) (base:Heap) (A:Around) (outer:List Env) (s:Shared) (H:Hp):Prop where
 frames:A.frames=some outer
 mod:Mod K mg base
 bs:∀ b o,base.get? b=some o->s.heap.get? b=some o/\H b=none
 bsz:base.objs.size<=s.heap.objs.size
 funs:s.heap.FunFrames base outer
 frf:∀ b∈frs outer,H b=none
 hok:HOk P w H s.heap
 bare:AllBare s.gens
def CE (outer:List Env) (P:Program) (w:World) (H:Hp) (s:Shared) (Q:VK) (u:Value) (s':Shared):Prop:=
 ∃ v H',s'.os=s.os/\AllBare s'.gens/\Un (frs outer) [] H H' s.heap s'.heap/\HOk P w H' s'.heap/\zK v u/\Q v H'
def CR (CX:CXT) (outer:List Env) (P:Program) (w:World) (H:Hp) (s:Shared) (Q:VK) (E:XK) (r:Result) (s':Shared):Prop:=
 match r with
 |.ok (.ret u)=>CE outer P w H s Q u s'
 |.ok _=>False
 |.error e=>CX outer H s E e s'
structure FnOk (P:Program) (w:World) (K:Frg) (mg:Str->Option Value) (base:Heap) (CX:CXT) (k:Nat) (f:Addr) (fd:FuncData) (ps:List Str) (sp:Sp):Prop where
 len:∀ vs H Q E,sp vs H Q E->vs.length=ps.length
 run:∀ (A:Around) (outer:List Env) (s:Shared) (H:Hp) (args:Args) (us:List Value) (vs:List V) (Q:VK) (E:XK),Room k A->Env0 P w K mg base A outer s H->BindsTo s fd args (ps.zip us)->zJ vs us->sp vs H Q E ->
  codeAny (model P w) A (.call (.ref f) args) (CR CX outer P w H s Q E) s
variable {mg:Str->Option Value} {CX:CXT} {fd:FuncData} {ps:List Str} {sp:Sp}
theorem FnOk.mono {base:Heap} (F:FnOk P w K mg base CX j f fd ps sp) (h:j<=k) :
  FnOk P w K mg base CX k f fd ps sp:=⟨F.len,λA outer s H args us vs Q E hr=>F.run A outer s H args us vs Q E (hr.mono h)⟩
theorem FnOk.imp {P:Program} {w:World} {K:Frg} {mg:Str->Option Value} {base:Heap} {CX:CXT} {k:Nat} {f:Addr} {fd:FuncData} {ps:List Str} {sp sp':Sp} (F:FnOk P w K mg base CX k f fd ps sp)
  (h:∀ vs H Q E,sp' vs H Q E->sp vs H Q E):FnOk P w K mg base CX k f fd ps sp':=
 ⟨λvs H Q E q=>F.len vs H Q E (h _ _ _ _ q),λA outer s H args us vs Q E hr he hb hv hs=>F.run A outer s H args us vs Q E hr he hb hv (h _ _ _ _ hs)⟩
theorem Env0.in1 {base:Heap} {outer:List Env} (e:Env0 P w K mg base A outer s H) :
  Env0 P w K mg base A.in1 outer s H:=⟨e.frames,e.mod,e.bs,e.bsz,e.funs,e.frf,e.hok,e.bare⟩
section
variable {s':Shared}
theorem Inv.env0 (I:Inv X pins σ H s):Env0 X.prog X.w X.K X.mg X.base X.A X.stack s H:=
 ⟨I.ok.frames,I.ok.mod,I.bs,za4 I.ok.bsz I.sz,I.stack,I.stkFree,I.hok,I.bare⟩
theorem Inv.after {Q:VK} (I:Inv X pins σ H s) (h:CE X.stack X.prog X.w H s Q u s'):EP X pins σ Q u s':=by
 obtain ⟨v,H',os,bare,un,hok,r,q⟩:=h;obtain ⟨hh,g,d,t,os'⟩:=s';obtain rfl:os'=s.os:=os;exact ⟨v,H',I.call (h':=hh) (g':=g) (d':=d) (t':=t) (ch:=[]) un hok bare (λb z=>absurd z (by simp)),r,q⟩
end
def qp6 (sp:Sp) (dvs:List V) (E:XK) (t:TA):TE:=λσ H Q=>t σ H λvs H1=>sp (vs++dvs) H1 Q E
def X5 (K:Frg) (fd:FuncData) (ps:List Str) (ds:List Value):Prop:=
 ∀ (s:Shared) (us:List Value),K.In s.heap->(us++ds).length=ps.length->BindsTo s fd ⟨us,[]⟩ (ps.zip (us++ds))
theorem X5.all (h:∀ us:List Value,us.length=ps.length->bindArgs fd ⟨us,[]⟩=pure (ps.zip us)):X5 K fd ps []:=λs us _ hl=>by
 rw [zh0] at hl ⊢;exact .of_eq (h us hl)
def qa0 (CX:CXT) (X:Cx) (E:XK):Prop:=∀ (pins:List (Addr×Obj)) (σ:St) (H:Hp) (s:Shared) (e:Value) (s':Shared),Inv X pins σ H s->CX X.stack H s E e s'->X.xe e s'
section
variable {dvs:List V} {ds:List Value} {E:XK} {m:Str} {apos:Pos} {o:Expr}
theorem qo9 {pins:List (Addr×Obj)} {σ:St} {H:Hp} {s:Shared} {Q:VK} {us:List Value} {vs:List V} (F:FnOk X.prog X.w X.K X.mg X.base CX k f fd ps sp) (hr:Room k X.A) (hb:X5 X.K fd ps ds) (hd:zJ dvs ds) (hx:qa0 CX X E)
  (I:Inv X pins σ H s) (r:zJ vs us) (h:sp (vs++dvs) H Q E):wpAny (model X.prog X.w) X.A (call (.ref f) us) (EP X pins σ Q) X.xe s:=by
 have r2:zJ (vs++dvs) (us++ds):=r.append hd;have hl:(us++ds).length=ps.length:=by rw [← r2.length];exact F.len _ _ _ _ h
 refine wpAny_call (xm2 (F.run X.A X.stack s H ⟨us,[]⟩ (us++ds) (vs++dvs) Q E hr I.env0 (hb s us I.kIn hl) r2 h) λr s' hq=>?_);cases r with
 |error e=>exact hx pins σ H s e s' I hq
 |ok fl=>
  cases fl with
  |ret u=>exact I.after hq
  |next=>exact False.elim hq
  |brk=>exact False.elim hq
  |cont=>exact False.elim hq
theorem qjE (F:FnOk X.prog X.w X.K X.mg X.base CX k f fd ps sp) (hr:Room k X.A) (hg:Gl X x) (hm:X.mg x=some (.ref f)) (hk:xd6 X.K (.ref f)=true) (hb:X5 X.K fd ps ds) (hd:zJ dvs ds) (hx:qa0 CX X E)
  (ha:PA X (e::es) t) (hdb:autoParam ((x==("__debug__" : Str))=false) zA1._auto_1) (he:autoParam (ze0 (e::es) X.env=(false,eval e X.env)::ze0 es X.env) zA0._auto_1) (hpl:autoParam ((zn3 pos (ze0 es X.env)).any (·.1)=false) zA0._auto_1) :
  PE X (.Call (.Name x p) (e::es) [] pos) (qp6 sp dvs E t):=by
 intro pins s σ H Q I h;refine xc4 (qcx I hg hm ?_ hdb);refine PySem.W.callWith_K (h₀:=X.base) I.ok.mod.kin hk (thn (ha pos pins s σ H _ I h) λus s1 ⟨vs,H1,I1,r,q⟩=>⟨I1.kIn,?_⟩) he hpl;exact qo9 F hr hb hd hx I1 r q
end
section
variable {X:Cx} {CX:CXT} {k:Nat} {f C:Addr} {fd:FuncData} {ps ks:List Str} {sp:Sp} {E:XK} {x m:Str} {p pos apos kpos:Pos} {e o:Expr} {es:List Expr} {kws:List Keyword} {te ta:TE} {t tk:TA} {nm:Option Str}
variable {g:List Value->List Value->List Value} {gV:List V->List V->List V}
end
structure FnScope (N P:List Str) (sc:Scope):Prop where
 kind:sc.kind=.function
 co:sc.isCoroutine=false
 gen:sc.isGenerator=false
 nd:N.Nodup
 pre:N.take P.length=P
 par:∀ x∈P,sc.names.lookup x=some .local\/sc.names.lookup x=some .cell
 nofree:∀ y∈sc.names,y.2≠.free
theorem KH {kindOf:Str->Option NameKind} {x:Str}:∀ {binds:List (Str×Value)} {m:Str->Option Value},(∀ v,(x,v)∉binds)->bindL kindOf binds m x=m x
 |[],_,_=>rfl
 | (n,v)::r,m,h=>by
  unfold bindL;rw [KH λw hw=>h w (za0 _ hw)];split
  ·have:x≠n:=by rintro rfl;exact h v za7
   simp [this]
  ·rfl
theorem T7 {kindOf:Str->Option NameKind} {x:Str}:∀ {binds:List (Str×Value)} {m:Str->Option Value},(∀ v,(x,v)∉binds)->bindC kindOf binds m x=m x
 |[],_,_=>rfl
 | (n,v)::r,m,h=>by
  unfold bindC;rw [T7 λw hw=>h w (za0 _ hw)];split
  ·rfl
  ·have:x≠n:=by rintro rfl;exact h v za7
   simp [this]
theorem KM {kindOf:Str->Option NameKind} {x:Str} {v:Value}:∀ {P:List Str} {vs:List Value} {i:Nat} {m:Str->Option Value},P.Nodup->P[i]?=some x->vs[i]?=some v->kindOf x=some .local ->
  bindL kindOf (P.zip vs) m x=some v
 |[],_,_,_,_,h,_,_=>by simp at h
 |_::_,[],_,_,_,_,h,_=>by simp at h
 |p::P,w::vs,0,m,nd,h1,h2,hk=>by
  simp at h1 h2;subst h1;subst h2;show bindL kindOf ((p,w)::P.zip vs) m p=_;unfold bindL;rw [KH λv hv=>(zj4.mp nd).1 (List.of_mem_zip hv).1,if_pos hk];simp
 |p::P,w::vs,i+1,m,nd,h1,h2,hk=>by
  show bindL kindOf ((p,w)::P.zip vs) m x=_;unfold bindL;exact KM (i:=i) (zj4.mp nd).2 (by simpa using h1) (by simpa using h2) hk
theorem TC {kindOf:Str->Option NameKind} {x:Str} {v:Value}:∀ {P:List Str} {vs:List Value} {i:Nat} {m:Str->Option Value},P.Nodup->P[i]?=some x->vs[i]?=some v->kindOf x≠some .local ->
  bindC kindOf (P.zip vs) m x=some v
 |[],_,_,_,_,h,_,_=>by simp at h
 |_::_,[],_,_,_,_,h,_=>by simp at h
 |p::P,w::vs,0,m,nd,h1,h2,hk=>by
  simp at h1 h2;subst h1;subst h2;show bindC kindOf ((p,w)::P.zip vs) m p=_;unfold bindC;rw [T7 λv hv=>(zj4.mp nd).1 (List.of_mem_zip hv).1,if_neg hk];simp
 |p::P,w::vs,i+1,m,nd,h1,h2,hk=>by
  show bindC kindOf ((p,w)::P.zip vs) m x=_;unfold bindC;exact TC (i:=i) (zj4.mp nd).2 (by simpa using h1) (by simpa using h2) hk
noncomputable def start (N:List Str) (vs:List V):St:=vs.map some++zn4 (N.length-vs.length) none
noncomputable def qas (CX:CXT) (P:Program) (w:World) (K:Frg) (mg:Str->Option Value) (base:Heap) (N:List Str) (qual:Str) (scope:Scope) (f:Addr) (cd:Value) (A:Around) (outer:List Env) (s:Shared) (H:Hp) (E:XK):Cx where
 prog:=P
 w:=w
 K:=K
 mg:=mg
 base:=base
 A:=A.deeper (xg3 qual scope s.heap.objs.size f cd)
 N:=N
 s₀:=s
 H₀:=H
 env:=xg3 qual scope s.heap.objs.size f cd
 outer:=outer
 stack:=xg3 qual scope s.heap.objs.size f cd::outer
 ex:=[]
 calm:=true
 fn:=λ_=>true
 pn:=[]
 xe:=λe s'=>wpAny (model P w) (A.deeper (xg3 qual scope s.heap.objs.size f cd)) (leaving (xg3 qual scope s.heap.objs.size f cd) e) (λ_ s''=>CX outer H s E e s'') (λe' s''=>CX outer H s E e' s'') s'
theorem NH {sc:Scope} {n:Nat} (h:sc.names.lookup x=some .cell):∃ c,(zj6 n sc.names []).lookup x=some c:=by
 have q:=PySem.W.cellsFrom_some sc.names n [] (.inl h);exact xf1.mp q
theorem qbM {CX:CXT} {P:Program} {w:World} {K:Frg} {mg:Str->Option Value} {base:Heap} {N ps:List Str} {qual:Str} {scope:Scope} {f:Addr} {cd:Value} {A:Around} {outer:List Env} {s s1:Shared} {H:Hp} {E:XK} {us:List Value} {vs:List V}
  (S:FnScope N ps scope) (hd:A.handled=none) (e0:Env0 P w K mg base A outer s H) (hl:vs.length=ps.length) (r:zJ vs us)
  (x:InCallC s s.heap.objs.size (bindL (xg3 qual scope s.heap.objs.size f cd).kindOf (ps.zip us) λ_=>none) (zj6 (s.heap.objs.size+1) scope.names []) (bindC (xg3 qual scope s.heap.objs.size f cd).kindOf (ps.zip us) λ_=>none) s1) :
  Inv (qas CX P w K mg base N qual scope f cd A outer s H E) [] (start N vs) H s1:=by
 have hpl:ps.length<=N.length:=by have:=congrArg List.length S.pre;rw [zj7] at this;omega
 obtain ⟨h1,tk,rfl,hk⟩:=x.done;have noA:∀ b:Addr,b∉(qas CX P w K mg base N qual scope f cd A outer s H E).ex:=λb z=>absurd (show b∈([]:List Addr) from z) (by simp);refine ⟨⟨e0.mod,S.kind,rfl,rfl,u9 _,λy z c h1 h2=>?_,λy hy=>?_,λy c _ h=>?_,λ_=>hd,Around.frames_deeper e0.frames,.inr ⟨rfl,rfl⟩,λb z=>absurd z (noA b),e0.bs,e0.bsz,λb _ _=>noA b,λb z=>absurd z (noA b),e0.funs,e0.frf⟩,
  rfl,e0.bare,Un.kept hk,⟨_,x.toInCall.ns,λi y v h1 h2 h3=>?_⟩,λy c h=>⟨_,x.cell y c h⟩,e0.hok.fresh (u9 _),λy c h=>?_,λp hp=>absurd (show p∈([]:List (Addr×Obj)) from hp) (by simp),e0.hok.kept hk,?_⟩
 ·exact name_of_addr x.apart (zi3 h1) (zi3 h2)
 ·have hy:scope.names.lookup y=some .cell\/scope.names.lookup y=some .free:=hy;rcases hy with hy|hy
  ·exact NH hy
  ·exact absurd rfl (S.nofree _ (zi3 hy))
 ·exact Nat.le_of_lt (x.above y c (zi3 h))
 ·have hi:i<vs.length:=by
   unfold start at h2;by_cases hi:i<vs.length
   ·exact hi
   ·rw [zj2 (by simpa using hi)] at h2;rw [zn7] at h2;split at h2<;>cases h2
  have ha:vs[i]?=some v:=by
   unfold start at h2;rw [zg7 (by simpa using hi),ze5] at h2;cases e:vs[i]? with
   |none=>rw [e] at h2;cases h2
   |some a=>rw [e] at h2;cases h2;rfl
  obtain ⟨u,hu,rv⟩:=r.get ha;have hp:ps[i]?=some y:=by
   rw [← S.pre,List.getElem?_take_of_lt (by omega)];exact h1
  have ndP:ps.Nodup:=by rw [← S.pre];exact S.nd.sublist (List.take_sublist _ _)
  refine ⟨u,rv,?_⟩;rcases S.par y (za3 hp) with k|k
  ·exact .inl ⟨k,KM ndP hp hu k⟩
  ·obtain ⟨c,e⟩:=NH (n:=s.heap.objs.size+1) k;refine .inr ⟨.inl k,c,e,?_⟩;have q:=x.cell y c e;rw [TC ndP hp hu (by show scope.names.lookup y≠_;rw [k];decide)] at q;exact q
 ·exact e0.hok.fresh (Nat.le_of_lt (x.above y c (zi3 h)))
 ·unfold start;show _=N.length;rw [zg9,zd9,List.length_replicate];omega
theorem qqb {CX:CXT} {P:Program} {w:World} {K:Frg} {mg:Str->Option Value} {base:Heap} {k:Nat} {f:Addr} {name qual:Str} {params:Arguments} {body:List Stmt} {scope:Scope} {dV kV doc pm cdv ct oc:Value} {an od:Option Addr}
  {osl:Array (Option Value)} {N ps:List Str} {sp:Sp} (lk:K.lookup f=some ⟨oc,od,.func (zn0 name qual params body scope dV kV doc pm an cdv ct),osl⟩) (hcd:xh3 K cdv qual=true) (S:FnScope N ps scope)
  (len:∀ vs H Q E,sp vs H Q E->vs.length=ps.length)
  (hbody:∀ (A:Around) (outer:List Env) (s:Shared) (H:Hp) (vs:List V) (Q:VK) (E:XK),Room k (A.deeper (xg3 qual scope s.heap.objs.size f cdv))->sp vs H Q E ->
   ∃ t,PSs (qas CX P w K mg base N qual scope f cdv A outer s H E) body t/\t { nx:=λ_ H'=>Q .non H',rt:=Q } (start N vs) H) :
  FnOk P w K mg base CX (k+1) f (zn0 name qual params body scope dV kV doc pm an cdv ct) ps sp:=by
 refine ⟨len,λA outer s H args us vs Q E hr e0 hb r hsp=>?_⟩;have hl:=len _ _ _ _ hsp;have KX:K.In s.heap:=e0.mod.kin.keeps λb o e=>(e0.bs b o e).1;have lim:s.heap.NoLimit:=e0.mod.nolimit.keeps λb o e=>(e0.bs b o e).1;have hkind:∀ y∈ps.zip us,scope.names.lookup y.1=some .local\/(scope.names.lookup y.1=some .cell/\((zj6 (s.heap.objs.size+1) scope.names []).lookup y.1).isSome=true):=λ⟨n,v⟩ hy=>by
  rcases S.par n (List.of_mem_zip hy).1 with q|q
  ·exact .inl q
  ·exact .inr ⟨q,PySem.W.cellsFrom_some _ _ _ (.inl q)⟩
 refine codeAny_call_function hr.depth (KX _ _ lk) rfl S.co S.gen rfl (PySem.W.codeRec_of KX hcd) (hb _ _ _ _ ?_);refine wpAny_newFunctionEnv_cells S.kind hkind λenv he s1 x=>?_;subst he;refine ⟨lim.keeps x.toInCall.keep,codeAny_func ?_⟩;obtain ⟨t,ht,hq⟩:=hbody A outer s H vs Q E (hr.deeper _) hsp;have I:Inv (qas CX P w K mg base N qual scope f cdv A outer s H E) [] (start N vs) H s1:=qbM S hr.hd e0 hl r x;refine v4 (ht [] s1 (start N vs) H _ I hq) (λfl s' hs=>?_) λe s' hs=>hs;have fin:∀ {σ':St} {H':Hp} {v:V} {u:Value},Inv (qas CX P w K mg base N qual scope f cdv A outer s H E) [] σ' H' s'->zK v u->Q v H'->CE outer P w H s Q u s':=
  λ{σ' H' v u} J rv q=>⟨v,H',J.os,J.bare,J.base,J.hok,rv,q⟩
 cases fl with
 |ret u=>
  obtain ⟨v,σ',H',J,rv,q⟩:=hs;exact fin J rv q
 |next=>
  obtain ⟨σ',H',J,q⟩:=hs;exact fin (v:=V.non) (u:=Value.none) J rfl q
 |brk=>
  obtain ⟨_,_,_,q⟩:=hs;exact False.elim q
 |cont=>
  obtain ⟨_,_,_,q⟩:=hs;exact False.elim q
section
variable {id T:String} {r:List V->Hp->VK->Prop}
def tCB (r:List V->Hp->VK->Prop) (t:TA):TE:=λσ H Q=>t σ H λvs H1=>r vs H1 Q
theorem WD (hc:JW X (.builtin id) r) (hg:Gl X x) (hm:X.mg x=none) (hv:zk6 x=some (.builtin id)) (ha:PA X (e::es) t) (hn:autoParam (x≠"__name__") zA1._auto_1) (hdb:autoParam ((x==("__debug__" : Str))=false) zA1._auto_1)
  (he:autoParam (ze0 (e::es) X.env=(false,eval e X.env)::ze0 es X.env) zA0._auto_1) (hpl:autoParam ((zn3 pos (ze0 es X.env)).any (·.1)=false) zA0._auto_1):PE X (.Call (.Name x p) (e::es) [] pos) (tCB r t):=by
 intro pins s σ H Q I h;refine xc4 (UE I hg hm hv ?_ hn hdb);exact xi5 (thn (ha pos pins s σ H _ I h) λus s1 ⟨vs,H1,I1,r1,q1⟩=>hc pins s1 σ H1 vs us Q I1 r1 q1) he hpl
theorem K1 (hc:JW X (.type T) r) (hg:Gl X x) (hm:X.mg x=none) (hv:zk6 x=some (.type T)) (ha:PA X (e::es) t) (hn:autoParam (x≠"__name__") zA1._auto_1) (hdb:autoParam ((x==("__debug__" : Str))=false) zA1._auto_1)
  (he:autoParam (ze0 (e::es) X.env=(false,eval e X.env)::ze0 es X.env) zA0._auto_1) (hpl:autoParam ((zn3 pos (ze0 es X.env)).any (·.1)=false) zA0._auto_1):PE X (.Call (.Name x p) (e::es) [] pos) (tCB r t):=by
 intro pins s σ H Q I h;refine xc4 (UE I hg hm hv ?_ hn hdb);exact zi9 (thn (ha pos pins s σ H _ I h) λus s1 ⟨vs,H1,I1,r1,q1⟩=>hc pins s1 σ H1 vs us Q I1 r1 q1) he hpl
end
end L2
namespace HT
open PySem PyProof.Rows
section
open PySem.SeqAt
open PySem.MeetsSeq PySem.MeetsSeq2 PySem.MeetsSeq3
end
section
variable {prog:Program} {w:World} {A:Around} {E:Value->Shared->Prop} {s:Shared}
theorem qiF {t b:Addr} {vs ws:List Value} {Q:Value->Shared->Prop} (ht:IsTup s.heap t vs.toArray) (hb:IsTup s.heap b ws.toArray) (hv:vs≠[])
  (h1:ws=[]->Q (.ref t) s) (h2:ws≠[]->Q (.ref s.heap.objs.size) { s with heap:=s.heap.push { cls:=.type "tuple",data:=.seq (vs++ws).toArray } })
  (hsz:vs.length+ws.length<=sizeLine):wpAny (model prog w) A (xb7 .Add (.ref t) (.ref b)) Q E s:=by
 obtain ⟨⟨cls,dd,data,sl⟩,ho,hc,n,hd⟩:=id ht;obtain ⟨⟨cls2,dd2,data2,sl2⟩,ho2,hc2,n2,hd2⟩:=id hb;simp only at hc hd hc2 hd2;subst hc hd hc2 hd2;have e:vs.toArray++ws.toArray=(vs++ws).toArray:=by simp
 by_cases hw:ws=[]
 ·exact concat_meets ⟨_,ho,rfl⟩ ⟨_,ho2,rfl⟩ noFill_tuple_add seq_tuple_add PySem.F.slot_tuple_add PySem.F.entry_tuple_add (PySem.F.args_tuple_add_2 _ _)
   (tuple_addW1 t b vs.toArray ws.toArray n n2 dd dd2 sl sl2 (by simpa using hv) (by simp [hw])) ⟨ho,ho2,h1 hw⟩
 ·refine concat_meets ⟨_,ho,rfl⟩ ⟨_,ho2,rfl⟩ noFill_tuple_add seq_tuple_add PySem.F.slot_tuple_add PySem.F.entry_tuple_add (PySem.F.args_tuple_add_2 _ _)
   (tuple_addW2 t b vs.toArray ws.toArray n n2 dd dd2 sl sl2 (by simpa using hv) (by simpa using hw) (by rw [ze3,ze3];exact hsz)) ⟨ho,ho2,?_⟩
  rw [e];exact h2 hw
def sIx (n d:Nat):Option Int->Nat
 |none=>d
 |some v=>if v<0 then (v+(n:Int)).toNat else min v.toNat n
theorem qeo (n d:Nat):sIx n d none=d:=rfl
theorem qjY (n d k:Nat):sIx n d (some (k:Int))=min k n:=by
 show (if (k:Int)<0 then ((k:Int)+(n:Int)).toNat else min (k:Int).toNat n)=min k n;rw [if_neg (by omega),zf8]
theorem qok (n d:Nat) (hd:d<=n) (o:Option Int):sIx n d o<=n:=by
 cases o with
 |none=>exact hd
 |some v=>
  show (if v<0 then (v+(n:Int)).toNat else min v.toNat n)<=n;by_cases hv:v<0
  ·rw [if_pos hv];omega
  ·rw [if_neg hv];exact Nat.min_le_right _ _
theorem qc8 (v:Int) (n d:Nat):(if v<0 then max (v+(n:Int)) 0 else min v (n:Int))=((sIx n d (some v):Nat):Int):=by
 show (if v<0 then max (v+(n:Int)) 0 else min v (n:Int))=(((if v<0 then (v+(n:Int)).toNat else min v.toNat n):Nat):Int);by_cases hv:v<0
 ·simp only [if_pos hv];omega
 ·simp only [if_neg hv];omega
theorem qao (lo hi:Option Int) (n:Nat):xe5 lo hi 1 (n:Int)=(((sIx n 0 lo:Nat):Int),((sIx n n hi:Nat):Int)):=by
 have h1:¬ ((1:Int)<0):=by omega
 unfold xe5;simp only [h1,if_false];refine Prod.ext ?_ ?_
 ·cases lo with
  |none=>rfl
  |some v=>exact qc8 v n 0
 ·cases hi with
  |none=>rfl
  |some v=>exact qc8 v n n
theorem qab (i j:Nat):xa4 (i:Int) (j:Int) 1=j-i:=by
 unfold xa4;have h1:(1:Int) > 0:=by omega
 simp only [h1,if_true,Int.ediv_one];split<;>omega
theorem C5 {v:Value} {o:Option Int} {Q:Option Int->Shared->Prop} (p:IsPart v o) (h:Q o s):wpAny (model prog w) A (Builtin.Slice.slicePartIndex v) Q E s:=by
 cases p with
 |none=>exact slicePart_none h
 |int i t=>exact slicePart_int h
theorem D9 {sl:Addr} {vl vu:Value} {lo hi:Option Int} {n:Nat} {Q:Int×Int×Nat->Shared->Prop} (hs:s.heap.IsSliceOf sl vl vu .none) (pl:IsPart vl lo) (pu:IsPart vu hi)
  (h:Q (((sIx n 0 lo:Nat):Int),1,sIx n n hi-sIx n 0 lo) s):wpAny (model prog w) A (Builtin.Slice.sliceApplied (.ref sl) (pure (n:Int))) Q E s:=by
 obtain ⟨os,hos,hcs,hds⟩:=id hs;unfold Builtin.Slice.sliceApplied Builtin.Slice.sliceFields;refine y8 (y8 (zj3 hos hds (x:=vl) rfl (y8 (zj3 hos hds (x:=vu) rfl (y8 (zj3 hos hds (x:=.none) rfl (y9 ?_)))))));refine y8 (slicePart_none ?_);show wpAny _ _ (if ((1:Int)==0)=true then _ else _) _ _ s;rw [if_neg (by decide)];refine y8 (C5 pl (y8 (C5 pu (y8 (y9 ?_)))));show wpAny _ _ (match xe5 lo hi 1 (n:Int) with|(lo,hi)=>pure (lo,(1:Int),xa4 lo hi 1)) _ _ s;rw [qao lo hi n];show wpAny _ _ (pure (((sIx n 0 lo:Nat):Int),(1:Int),xa4 ((sIx n 0 lo:Nat):Int) ((sIx n n hi:Nat):Int) 1)) _ _ s;rw [qab];exact y9 h
theorem qdJ (xs:Array Value) (i k:Nat):((zg5 k).filterMap λ(m:Nat)=>xs[((i:Int)+(m:Int)*1).toNat]?).toArray=((xs.toList.drop i).take k).toArray:=by
 have e:(λ(m:Nat)=>xs[((i:Int)+(m:Int)*1).toNat]?)=λm=>xs[i+m]?:=by
  funext m;have:((i:Int)+(m:Int)*1).toNat=i+m:=by omega
  rw [this]
 rw [e];have:=pick_run xs i k;rw [List.filterMap_map] at this;have e2:((λx=>xs[x]?)∘λx=>i+x)=λm=>xs[i+m]?:=rfl;rw [e2] at this;rw [this]
theorem EC {t sl:Addr} {items:Array Value} {vl vu:Value} {lo hi:Option Int} {Q:Value->Shared->Prop} (ht:IsTup s.heap t items) (hs:s.heap.IsSliceOf sl vl vu .none) (pl:IsPart vl lo) (pu:IsPart vu hi)
  (hw:¬ (sIx items.size 0 lo=0/\sIx items.size items.size hi=items.size))
  (h:Q (.ref s.heap.objs.size) { s with heap:=s.heap.push { cls:=.type "tuple",data:=.seq ((items.toList.drop (sIx items.size 0 lo)).take (sIx items.size items.size hi-sIx items.size 0 lo)).toArray } })
  (hsz:items.size<=sizeLine):wpAny (model prog w) A (getItem (.ref t) (.ref sl)) Q E s:=by
 have htake:sizeOk (.seq ((items.toList.drop (sIx items.size 0 lo)).take (sIx items.size items.size hi-sIx items.size 0 lo)).toArray):=by
  show ((items.toList.drop (sIx items.size 0 lo)).take (sIx items.size items.size hi-sIx items.size 0 lo)).toArray.size<=sizeLine;rw [ze3,zj7,List.length_drop,zm5];omega
 have hj:sIx items.size items.size hi<=items.size:=qok _ _ (u9 _) hi;obtain ⟨os,hos,hcs,hds⟩:=id hs;have hTs:s.TypeIs (.ref sl) "slice" := ⟨os,hos,hcs⟩
 unfold getItem
 try with_reducible refine zp4 ?_
 first|refine y8 (y9 ?_)|skip
 refine y8 (wpAny_sequenceKey ht.typeIs (by decide) ?_);refine y8 (zk9 (name:=ze1 "__getitem__") ht.typeIs xi1
  (xb8 xi1 ht.typeIs entry_tuple_getitem ?_ (args_tuple_getitem _ _)))
 show wpAny _ _ (Builtin.Tuple.tupleItemsOf (.ref t) >>= _) _ _ s;refine y8 (tupleItemsOf_ ht ?_);refine y8 (wpAny_typeOf hTs ?_);rw [if_pos (by decide)];refine y8 (D9 hs pl pu ?_);have hno:¬ ((((sIx items.size 0 lo:Nat):Int)==0&&(1:Int)==1&&(sIx items.size items.size hi-sIx items.size 0 lo)==items.size)=true):=by
  intro q;rw [zf9,zf9] at q;have q1:((sIx items.size 0 lo:Nat):Int)=0:=eq_of_beq q.1.1;have q2:sIx items.size items.size hi-sIx items.size 0 lo=items.size:=eq_of_beq q.2;exact hw ⟨by omega,by omega⟩
 show wpAny _ _ (if (((sIx items.size 0 lo:Nat):Int)==0&&(1:Int)==1&&(sIx items.size items.size hi-sIx items.size 0 lo)==items.size)=true then _ else _) _ _ s;rw [if_neg hno,qdJ]
 first
  |exact y8 (m:=xb3 _) (zm1 (y9 ⟨_,rfl,y9 h⟩) htake)
  |exact y8 (m:=xb3 _) (zm1 (y8 (y9 (y9 ⟨_,rfl,y9 h⟩))) htake)
  |exact y8 (y8 (m:=xb3 _) (zm1 (y9 (y9 ⟨_,rfl,y9 h⟩)) htake))
  |exact y8 (y8 (m:=xb3 _) (zm1 (y9 ⟨_,rfl,y9 h⟩) htake))
end
end HT
namespace L2
open PySem PySem.Spec PyProof.Rows
abbrev TO:=St->Hp->(Option Int->Hp->Prop)->Prop
def PO (X:Cx) (e:Option Expr) (t:TO):Prop:=
 ∀ (pins:List (Addr×Obj)) (s:Shared) (σ:St) (H:Hp) (Q:Option Int->Hp->Prop),Inv X pins σ H s->t σ H Q ->
  wpAny (model X.prog X.w) X.A (evalPart e X.env) (λu s'=>∃ o H',Inv X pins σ H' s'/\IsPart u o/\Q o H') X.xe s
def qjK:TO:=λ_ H Q=>Q none H
def qqy (t:TE):TO:=λσ H Q=>t σ H λx H1=>∃ i,x=.int i/\Q (some i) H1
variable {X:Cx} {r:V->Option Int->Option Int->Hp->VK->Prop} {xs:List V} {us:List Value}
section
variable {e:Expr} {te:TE} {lo hi:Option Expr} {tl th:TO} {pos p2:Pos}
theorem qh8:PO X none qjK:=by
 intro pins s σ H Q I h;rw [evalPart_none];exact y9 ⟨none,H,I,.none,h⟩
theorem qh5 (h:PE X e te):PO X (some e) (qqy te):=by
 intro pins s σ H Q I hw;rw [evalPart_some];refine thn (h pins s σ H _ I hw) λu s1 ⟨x,H1,I1,r1,q1⟩=>?_;obtain ⟨i,rfl,q⟩:=q1;obtain ⟨t,rfl⟩:=r1;exact ⟨some i,H1,I1,.int i t,q⟩
def SlR (X:Cx) (r:V->Option Int->Option Int->Hp->VK->Prop):Prop:=
 ∀ (pins:List (Addr×Obj)) (s:Shared) (σ:St) (H:Hp) (x:V) (v vl vu:Value) (lo hi:Option Int) (sl:Addr) (Q:VK),Inv X pins σ H s->zK x v->s.heap.IsSliceOf sl vl vu .none->IsPart vl lo->IsPart vu hi->r x lo hi H Q ->
  ∃ T id,typeLookup (.type T) "__getitem__" = pure (some (.builtin id))/\s.TypeIs v T/\wpAny (model X.prog X.w) X.A (getItem v (.ref sl)) (EP X pins σ Q) X.xe s
theorem SlR.or {r':V->Option Int->Option Int->Hp->VK->Prop} (h:SlR X r) (h':SlR X r'):SlR X (λx lo hi H Q=>r x lo hi H Q\/r' x lo hi H Q):=by
 intro pins s σ H x v vl vu lo hi sl Q I rx hs pl pu q;rcases q with q|q
 ·exact h pins s σ H x v vl vu lo hi sl Q I rx hs pl pu q
 ·exact h' pins s σ H x v vl vu lo hi sl Q I rx hs pl pu q
def tSl (r:V->Option Int->Option Int->Hp->VK->Prop) (te:TE) (tl th:TO):TE:=λσ H Q=>te σ H λx H1=>tl σ H1 λl H2=>th σ H2 λu H3=>r x l u H3 Q
theorem qeH (hr:SlR X r) (he:PE X e te) (hl:PO X lo tl) (hu:PO X hi th):PE X (.Subscript e (.Slice lo hi none p2) pos) (tSl r te tl th):=by
 intro pins s σ H Q I h;refine Subscript_ (thn (he pins s σ H _ I h) λv s1 ⟨x,H1,I1,r1,q1⟩=>?_);refine wpAny_Slice (thn (hl pins s1 σ H1 _ I1 q1) λvl s2 ⟨l,H2,I2,pl,q2⟩=>thn (hu pins s2 σ H2 _ I2 q2) λvu s3 ⟨u,H3,I3,pu,q3⟩=>?_);rw [evalPart_none];refine y9 ?_;have I4:Inv X pins σ H3 { s3 with heap:=s3.heap.push { cls:=.type "slice",data:=.fields #[vl,vu,.none] } }:=I3.kept (t':=s3.toks) λb ob q=>v5 _ q;obtain ⟨T,id,hT,ht,hg⟩:=hr pins { s3 with heap:=s3.heap.push { cls:=.type "slice",data:=.fields #[vl,vu,.none] } } σ H3 x v vl vu l u s3.heap.objs.size Q I4 r1 (Heap.IsSliceOf.new ..) pl pu q3;show wpAny (model X.prog X.w) X.A (subscriptTail e (.Slice lo hi none p2) v (.ref s3.heap.objs.size)) (EP X pins σ Q) X.xe { s3 with heap:=s3.heap.push { cls:=.type "slice",data:=.fields #[vl,vu,.none] } };exact tail_any (ops:=[.ref s3.heap.objs.size,v]) ht hT hg (by with_unfolding_all rfl)
def qe4 (xs:List V) (lo hi:Option Int):List V:=(xs.drop (HT.sIx xs.length 0 lo)).take (HT.sIx xs.length xs.length hi-HT.sIx xs.length 0 lo)
theorem W7 (xs:List V) (lo hi:Option Int):(qe4 xs lo hi).length<=xs.length:=by
 unfold qe4;rw [zj7,List.length_drop];omega
def qsl (K:Frg):V->Option Int->Option Int->Hp->VK->Prop:=λx lo hi H Q=>∃ a xs,x=.ref a/\SqT K H a xs /\
 ¬ (HT.sIx xs.length 0 lo=0/\HT.sIx xs.length xs.length hi=xs.length)/\∀ p,H p=none->Q (.ref p) (upd H p (.tup (qe4 xs lo hi)))
theorem qlf:SlR X (qsl X.K):=by
 intro pins s σ H x v vl vu lo hi sl Q I rx hs pl pu h;obtain ⟨a,xs,rfl,hx,hw,q⟩:=h;cases rx;obtain ⟨its,r,ht,hz⟩:=I.tuple hx;have hlen:its.toArray.size=xs.length:=by rw [ze3];exact r.length.symm
 refine ⟨"tuple",_,PyProof.Rows.slot_tuple_getitem.lookup,ht.typeIs,?_⟩;refine HT.EC ht hs pl pu (by rw [hlen];exact hw) ?_ (by rw [hlen];exact hz);rw [hlen];refine ⟨.ref s.heap.objs.size,_,I.laid (t':=s.toks) (o:=.tup (qe4 xs lo hi)) (λb ob q=>v5 _ q) (u9 _) ?_,rfl,q _ (I.hok.fresh (u9 _))⟩;exact ⟨za4 (W7 xs lo hi) hz,_,(r.drop (HT.sIx xs.length 0 lo)).take (HT.sIx xs.length xs.length hi-HT.sIx xs.length 0 lo),DY.new _ _⟩
def qkh (K:Frg):R2:=λx y H Q=>∃ a b xs ys,x=.ref a/\y=.ref b/\SqT K H a xs/\SqT K H b ys/\xs≠[]/\xs.length+ys.length<=sizeLine /\
 (ys=[]->Q (.ref a) H)/\(ys≠[]->∀ p,H p=none->Q (.ref p) (upd H p (.tup (xs++ys))))
theorem zJ.nil_iff (r:zJ xs us):us=[]↔xs=[]:=by
 cases r with
 |nil=>simp
 |cons _ _=>simp
theorem qj5:OpR X (xb7 .Add) (qkh X.K):=by
 intro pins s σ H x y v u Q I rx ry h;obtain ⟨a,b,xs,ys,rfl,rfl,ha,hb,hx,hz,q1,q2⟩:=h;cases rx;cases ry;obtain ⟨its,r1,p1,_⟩:=I.tuple ha;obtain ⟨its2,r2,p2,_⟩:=I.tuple hb;refine HT.qiF p1 p2 (λz=>hx (r1.nil_iff.mp z)) (λz=>⟨.ref a,H,I,rfl,q1 (r2.nil_iff.mp z)⟩) (λz=>?_) (by rw [← r1.length,← r2.length];exact hz);refine ⟨.ref s.heap.objs.size,_,I.laid (t':=s.toks) (o:=.tup (xs++ys)) (λb ob q=>v5 _ q) (u9 _) ?_,rfl,q2 (λw=>z (r2.nil_iff.mpr w)) _ (I.hok.fresh (u9 _))⟩;exact ⟨by rw [zg9];exact hz,_,r1.append r2,DY.new _ _⟩
end
noncomputable def ixN (n:Nat) (i:Int):Option Nat:=if 0<=i then (if i<n then some i.toNat else none) else if -(n:Int)<=i then some (i+n).toNat else none
def atI {α:Type} (xs:List α) (i:Int):Option α:=(ixN xs.length i).bind λj=>xs[j]?
theorem qaZ {n:Nat} {i:Int} {j:Nat} (h:ixN n i=some j):seqIndex? i n=some j/\j<n/\-(n:Int)<=i/\i<n:=by
 unfold ixN at h;by_cases h0:0<=i
 ·rw [if_pos h0] at h;by_cases h1:i<n
  ·rw [if_pos h1] at h;have e:i.toNat=j:=Option.some.inj h;exact ⟨by rw [seqIndex_of h0 h1,e],by omega,by omega,h1⟩
  ·rw [if_neg h1] at h;cases h
 ·rw [if_neg h0] at h;by_cases h1:-(n:Int)<=i
  ·rw [if_pos h1] at h;have e:(i+n).toNat=j:=Option.some.inj h;exact ⟨by rw [seqIndex_neg (by omega) h1,e],by omega,h1,by omega⟩
  ·rw [if_neg h1] at h;cases h
theorem SM {α:Type} {xs:List α} {i:Int} {v:α} (h:atI xs i=some v):∃ j,seqIndex? i xs.length=some j/\xs[j]?=some v/\j<xs.length/\-(xs.length:Int)<=i/\i<xs.length:=by
 unfold atI at h;cases e:ixN xs.length i with
 |none=>rw [e] at h;cases h
 |some j=>
  rw [e] at h;obtain ⟨h1,h2,h3,h4⟩:=qaZ e;exact ⟨j,h1,h,h2,h3,h4⟩
def W1 (b:Expr):Prop:=∀ o i,subscripted b false o i=operate [o,i] (getItem o i)
def IxR (X:Cx) (r:R2):Prop:=
 ∀ (value slice:Expr) (pins:List (Addr×Obj)) (s:Shared) (σ:St) (H:Hp) (x y:V) (v u:Value) (Q:VK),Inv X pins σ H s->zK x v->zK y u->r x y H Q ->
  subscripted slice false v u=operate [v,u] (getItem v u)->wpAny (model X.prog X.w) X.A (subscriptTail value slice v u) (EP X pins σ Q) X.xe s
def MtR (X:Cx) (id:String) (r:V->List V->Hp->VK->Prop):Prop:=
 ∀ (pins:List (Addr×Obj)) (s:Shared) (σ:St) (H:Hp) (x:V) (xs:List V) (v:Value) (us:List Value) (Q:VK),Inv X pins σ H s->zK x v->zJ xs us->r x xs H Q ->
  wpAny (model X.prog X.w) X.A (call (.builtin id) (v::us)) (EP X pins σ Q) X.xe s
variable {pins:List (Addr×Obj)} {s:Shared}
section
variable {X:Cx} {a b:Expr} {ta tb:TE} {pos:Pos}
theorem IxR.or {r r':R2} (h:IxR X r) (h':IxR X r'):IxR X (λx y H Q=>r x y H Q\/r' x y H Q):=by
 intro value slice pins s σ H x y v u Q I rx ry q hs;rcases q with q|q
 ·exact h value slice pins s σ H x y v u Q I rx ry q hs
 ·exact h' value slice pins s σ H x y v u Q I rx ry q hs
theorem qm5 {r:R2} (hr:IxR X r) (ha:PE X a ta) (hb:PE X b tb) (hs:W1 b):PE X (.Subscript a b pos) (tOp r ta tb):=by
 intro pins s σ H Q I h;exact Subscript_ (qqW ha hb I h λv u s2 x y H2 I2 rx ry q=>hr a b pins s2 σ H2 x y v u Q I2 rx ry q (hs _ _))
def qq3 (K:Frg):R2:=λx y H Q=>∃ p xs i v,x=.ref p/\y=.int i/\SqL K H p xs/\atI xs i=some v/\Q v H
def qrx (K:Frg):R2:=λx y H Q=>∃ p xs i v,x=.ref p/\y=.int i/\SqT K H p xs/\atI xs i=some v/\Q v H
def qq4:R2:=λx y H Q=>∃ z i c,x=.str z/\y=.int i/\z.length<=sizeLine/\atI z.cps.toList i=some c/\Q (.str ⟨#[c]⟩) H
theorem qi3:IxR X (qq3 X.K):=by
 intro value slice pins s σ H x y v u Q I rx ry h hs;obtain ⟨p,xs,i,z,rfl,rfl,hq,he,q⟩:=h;cases rx;obtain ⟨t,rfl⟩:=ry;obtain ⟨its,r,pl,hz⟩:=I.list hq;obtain ⟨j,h1,h2,h3,h4,h5⟩:=SM he;obtain ⟨w,ew,rw'⟩:=r.get h2;have hl:=r.length;have hn:=C2;have fin:EP X pins σ Q w s:=⟨z,H,I,rw',q⟩
 by_cases h0:0<=i
 ·have hj:i.toNat=j:=by
   rw [seqIndex_of h0 h5] at h1;exact Option.some.inj h1
  exact item_listR pl.isList h0 (by omega) (by rw [hj];simpa using ew) fin hs
 ·have hj:(i+(its.toArray.size:Int)).toNat=j:=by
   rw [seqIndex_neg (by omega) h4] at h1;rw [ze3,← hl];exact Option.some.inj h1
  exact xc5 (x:=w) pl.isList.typeIs slot_list_getitem.lookup
   (wpAny_getItem_list_neg (Q:=λr s'=>r=w/\EP X pins σ Q r s') pl.isList (by omega) (by rw [ze3]<;>omega) (by omega) (by rw [hj];simpa using ew) ⟨rfl,fin⟩) hs
theorem qnm:IxR X (qrx X.K):=by
 intro value slice pins s σ H x y v u Q I rx ry h hs;obtain ⟨p,xs,i,z,rfl,rfl,hq,he,q⟩:=h;cases rx;obtain ⟨t,rfl⟩:=ry;obtain ⟨its,r,pl,hz⟩:=I.tuple hq;obtain ⟨j,h1,h2,h3,h4,h5⟩:=SM he;obtain ⟨w,ew,rw'⟩:=r.get h2;have hl:=r.length;have hn:=C2;have fin:EP X pins σ Q w s:=⟨z,H,I,rw',q⟩
 exact xc5 (x:=w) pl.typeIs slot_tuple_getitem.lookup
  (getItem_tuple (j:=j) (Q:=λr s'=>r=w/\EP X pins σ Q r s') pl (by omega) (by omega) (by rw [ze3,← hl];exact h1) (by simpa using ew) ⟨rfl,fin⟩) hs
theorem qkN:IxR X qq4:=by
 intro value slice pins s σ H x y v u Q I rx ry h hs;obtain ⟨z,i,c,rfl,rfl,hz,he,q⟩:=h;obtain ⟨t,rfl⟩:=rx;obtain ⟨t',rfl⟩:=ry;obtain ⟨j,h1,h2,h3,h4,h5⟩:=SM he;have hl:z.cps.toList.length=z.length:=by simp [Str.length]
 rw [hl] at h1 h4 h5;have hn:=C2;exact tail_any (typeIs_str s z t) slot_str_getitem.lookup (getItem_str (c:=c) (by
  have e1:decide (i < -(2 ^ 63:Int))=false:=za9 (by omega);have e2:decide (i ≥ 2 ^ 63)=false:=za9 (by omega);rw [e1,e2,Bool.or_false]) (by rw [h1];simpa using h2) ⟨.str ⟨#[c]⟩,H,I.tok _,⟨_,rfl⟩,q⟩) hs
def rIx (K:Frg):R2:=λx y H Q=>qq3 K x y H Q\/qrx K x y H Q\/qq4 x y H Q
theorem qlz:IxR X (rIx X.K):=qi3.or (qnm.or qkN)
theorem qaM (its:List Value) (n j:Nat) (u:Value):Obj.mapSeq (·.setIfInBounds j u) { cls:=.type "list",data:=.seq its.toArray n }={ cls:=.type "list",data:=.seq (its.set j u).toArray n }:=by
 simp [Obj.mapSeq]
theorem Inv.lst {σ:St} {H:Hp} {p:Addr} (I:Inv X pins σ H s) (h:H p=some (.lst xs)) :
  ∃ (its:List Value) (n:Nat),zJ xs its/\s.heap.get? p=some { cls:=.type "list",data:=.seq its.toArray n }/\xs.length<=sizeLine:=by
 obtain ⟨z,its,n,r,e⟩:=I.hok p _ h;exact ⟨its,n,r,e,z⟩
theorem Inv.lstUpd {pins:List (Addr×Obj)} {σ:St} {H:Hp} {s:Shared} {p:Addr} {xs ys:List V} {its its':List Value} {n n':Nat} {f:Obj->Obj} (I:Inv X pins σ H s) (h:H p=some (.lst xs))
  (ho:s.heap.get? p=some { cls:=.type "list",data:=.seq its.toArray n }) (hf:f { cls:=.type "list",data:=.seq its.toArray n }={ cls:=.type "list",data:=.seq its'.toArray n' }) (r:zJ ys its') (hz:ys.length<=sizeLine) (t:Nat) :
  Inv X pins σ (upd H p (.lst ys)) { s with heap:=s.heap.update p f,toks:=t }:=by
 have e:(s.heap.update p f).get? p=some { cls:=.type "list",data:=.seq its'.toArray n' }:=by
  rw [xi2 f ho (by rw [hf]<;>rfl),hf]
 refine I.write (x:=p) (e:=p) (by rw [h];trivial) (.inl rfl) (λb u hb q=>(Heap.get?_update_other _ _ (Ne.symm hb)).trans q) ⟨_,e⟩ ?_;exact ⟨hz,its',n',r,e⟩
def qqg:V->V->V->Hp->(Hp->Prop)->Prop:=λo i v H Q=>∃ p xs k j,o=.ref p/\i=.int k/\H p=some (.lst xs)/\ixN xs.length k=some j/\Q (upd H p (.lst (xs.set j v)))
theorem MS:qeL X qqg:=by
 intro pins s σ H o i v ov iv u Q I ro ri rv h;obtain ⟨p,xs,k,j,rfl,rfl,hp,hj,q⟩:=h;cases ro;obtain ⟨t,rfl⟩:=ri;obtain ⟨its,n,r,ho,hz⟩:=I.lst hp;obtain ⟨h1,h2,h3,h4⟩:=qaZ hj;have hl:=r.length;have hn:=C2;have I':Inv X pins σ (upd H p (.lst (xs.set j v))) { s with heap:=s.heap.update p (Obj.mapSeq (·.setIfInBounds j u)) }:=
  I.lstUpd hp ho (qaM its n j u) (r.set rv j) (by rw [zn9];exact hz) s.toks
 by_cases h0:0<=k
 ·have hk:k.toNat=j:=by
   rw [seqIndex_of h0 h4] at h1;exact Option.some.inj h1
  exact PySem.W.ki_setAt ho h0 (by omega) (by rw [ze3,← hl];exact h4) (by rw [hk];exact ⟨_,I',q⟩)
 ·have hk:(k+(its.toArray.size:Int)).toNat=j:=by
   rw [seqIndex_neg (by omega) h3] at h1;rw [ze3,← hl];exact Option.some.inj h1
  exact PySem.W.ki_setBack ho (by omega) (by rw [ze3,← hl];exact h3) (by omega) (by rw [hk];exact ⟨_,I',q⟩)
theorem T0 (lo hi:Option Int) (n:Nat):(xg8 lo hi none n).1=((HT.sIx n 0 lo:Nat):Int)/\(xg8 lo hi none n).2.1=((HT.sIx n n hi:Nat):Int)/\(xg8 lo hi none n).2.2=1:=by
 refine ⟨?_,?_,rfl⟩
 ·cases lo with
  |none=>simp [xg8,HT.sIx]
  |some i=>
   simp only [xg8,HT.sIx,Option.getD_none,show (1:Int) > 0 by decide,if_true];by_cases h:i<0
   ·simp only [h,if_true]<;>omega
   ·simp only [h,if_false]<;>omega
 ·cases hi with
  |none=>simp [xg8,HT.sIx]
  |some i=>
   simp only [xg8,HT.sIx,Option.getD_none,show (1:Int) > 0 by decide,if_true];by_cases h:i<0
   ·simp only [h,if_true]<;>omega
   ·simp only [h,if_false]<;>omega
theorem R7 (its:List Value) (lo hi:Option Int):slicePick its.toArray lo hi none=((its.drop (HT.sIx its.length 0 lo)).take (HT.sIx its.length its.length hi-HT.sIx its.length 0 lo)).toArray:=by
 obtain ⟨h1,h2,h3⟩:=T0 lo hi its.toArray.size;unfold slicePick;rw [h1,h2,h3];simp only [sliceRange_one,pick_run,ze3]<;>rfl
def qsi (K:Frg):V->Option Int->Option Int->Hp->VK->Prop:=λx lo hi H Q=>∃ a xs,x=.ref a/\SqL K H a xs/\∀ p,H p=none->Q (.ref p) (upd H p (.lst (qe4 xs lo hi)))
theorem qh7:SlR X (qsi X.K):=by
 intro pins s σ H x v vl vu lo hi sl Q I rx hs pl pu h;obtain ⟨a,xs,rfl,hx,q⟩:=h;cases rx;obtain ⟨its,r,ht,hz⟩:=I.list hx;have hlen:=r.length;refine ⟨"list",_,slot_list_getitem.lookup,ht.isList.typeIs,?_⟩;refine wpAny_getItem_list_slice ht.isList hs pl pu .none (by simp) ?_ (by rw [ze3]<;>omega);rw [R7,← hlen];refine ⟨.ref s.heap.objs.size,_,I.laid (t':=s.toks) (o:=.lst (qe4 xs lo hi)) (λb ob q=>v5 _ q) (u9 _) ?_,rfl,q _ (I.hok.fresh (u9 _))⟩;exact ⟨za4 (W7 xs lo hi) hz,_,0,(r.drop (HT.sIx xs.length 0 lo)).take (HT.sIx xs.length xs.length hi-HT.sIx xs.length 0 lo),v6 _ rfl⟩
noncomputable def CG:V->Bool
 |.non=>true
 |.bl _=>true
 |.int _=>true
 |.str _=>true
 |_=>false
noncomputable def eqV:V->V->Bool
 |.non,.non=>true
 |.bl a,.bl b=>a==b
 |.bl a,.int b=>(if a then 1 else 0)==b
 |.int a,.bl b=>a==(if b then 1 else 0)
 |.int a,.int b=>a==b
 |.str a,.str b=>a==b
 |_,_=>false
theorem qlu {A:Around} {y x:V} {u v:Value} (ry:zK y u) (rx:zK x v) (fy:CG y=true) (fx:CG x=true):SeqAt.EqAt A s u v (eqV y x):=by
 cases y with
 |non=>
  cases ry;cases x with
  |non=>cases rx;exact SeqAt.EqAt.same _
  |bl b=>cases rx;exact SeqAt.EqAt.none_bool b
  |int b=>obtain ⟨t,rfl⟩:=rx;exact SeqAt.EqAt.none_int b t
  |str b=>obtain ⟨t,rfl⟩:=rx;exact SeqAt.EqAt.none_str b t
  |_=>exact absurd (show false=true from fx) v8
 |bl a=>
  cases ry;cases x with
  |non=>cases rx;exact SeqAt.EqAt.bool_none a
  |bl b=>cases rx;exact SeqAt.EqAt.bool_bool a b
  |int b=>obtain ⟨t,rfl⟩:=rx;exact SeqAt.EqAt.bool_int a b t
  |str b=>obtain ⟨t,rfl⟩:=rx;exact SeqAt.EqAt.bool_str a b t
  |_=>exact absurd (show false=true from fx) v8
 |int a=>
  obtain ⟨t',rfl⟩:=ry;cases x with
  |non=>cases rx;exact SeqAt.EqAt.int_none a t'
  |bl b=>cases rx;exact SeqAt.EqAt.int_bool a t' b
  |int b=>obtain ⟨t,rfl⟩:=rx;exact SeqAt.EqAt.int_int a t' b t
  |str b=>obtain ⟨t,rfl⟩:=rx;exact SeqAt.EqAt.int_str a t' b t
  |_=>exact absurd (show false=true from fx) v8
 |str a=>
  obtain ⟨t',rfl⟩:=ry;cases x with
  |non=>cases rx;exact SeqAt.EqAt.str_none a t'
  |bl b=>cases rx;exact SeqAt.EqAt.str_bool a t' b
  |int b=>obtain ⟨t,rfl⟩:=rx;exact SeqAt.EqAt.str_int a t' b t
  |str b=>obtain ⟨t,rfl⟩:=rx;exact SeqAt.EqAt.str_str a t' b t
  |_=>exact absurd (show false=true from fx) v8
 |_=>exact absurd (show false=true from fy) v8
def eqU (x:V) (u:Value):Bool:=match u with
 |.none=>eqV .non x
 |.bool b=>eqV (.bl b) x
 |.int i _=>eqV (.int i) x
 |.str z _=>eqV (.str z) x
 |_=>false
theorem qfE {x y:V} {u:Value} (r:zK y u) (f:CG y=true):eqU x u=eqV y x:=by
 cases y with
 |non=>cases r;rfl
 |bl b=>cases r;rfl
 |int i=>obtain ⟨t,rfl⟩:=r;rfl
 |str z=>obtain ⟨t,rfl⟩:=r;rfl
 |_=>exact absurd (show false=true from f) v8
theorem XI {x:V}:∀ {xs:List V} {us:List Value},zJ xs us->xs.all CG=true->us.any (eqU x)=xs.any λy=>eqV y x
 |_,_,.nil,_=>rfl
 |y::xs,u::us,.cons r t,f=>by
  rw [zn1,zf9] at f;rw [xf2,xf2,qfE r f.1,XI t f.2]
theorem UR {A:Around} {s:Shared} {x:V} {v:Value} (rx:zK x v) (fx:CG x=true):∀ {xs:List V} {us:List Value},zJ xs us->xs.all CG=true->∀ u∈us,SeqAt.EqAt A s u v (eqU x u)
 |_,_,.nil,_=>λu hu=>by cases hu
 |y::xs,u::us,.cons r t,f=>λu' hu=>by
  rw [zn1,zf9] at f;rcases ze9.mp hu with rfl|hu
  ·rw [qfE r f.1];exact qlu r rx f.1 fx
  ·exact UR rx fx t f.2 u' hu
def inV (x:V) (xs:List V):Bool:=xs.any λy=>eqV y x
def rIn (K:Frg) (neg:Bool):R2:=λx y H Q=>∃ p xs,y=.ref p/\(SqL K H p xs\/SqT K H p xs)/\CG x=true/\xs.all CG=true/\Q (.bl (if neg then !inV x xs else inV x xs)) H
theorem qdg:OpR X (zi1 .In) (rIn X.K false):=by
 intro pins s σ H x y v u Q I rx ry h;obtain ⟨p,xs,rfl,hq,fx,fs,q⟩:=h;cases ry;rcases hq with hq|hq
 ·obtain ⟨its,r,pl,hz⟩:=I.list hq;refine SeqAt.in_listAt (eqU x) pl.isList (λw hw=>UR rx fx r fs w (by simpa using hw)) ⟨.bl _,H,I,rfl,?_⟩;rw [show its.toArray.any (eqU x)=its.any (eqU x) by simp,XI r fs];exact q
 ·obtain ⟨its,r,pl,hz⟩:=I.tuple hq;refine SeqAt.in_tupleAt (eqU x) pl (λw hw=>UR rx fx r fs w (by simpa using hw)) ⟨.bl _,H,I,rfl,?_⟩;rw [show its.toArray.any (eqU x)=its.any (eqU x) by simp,XI r fs];exact q
theorem KQ:OpR X (zi1 .NotIn) (rIn X.K true):=by
 intro pins s σ H x y v u Q I rx ry h;obtain ⟨p,xs,rfl,hq,fx,fs,q⟩:=h;cases ry;rcases hq with hq|hq
 ·obtain ⟨its,r,pl,hz⟩:=I.list hq;refine SeqAt.notIn_listAt (eqU x) pl.isList (λw hw=>UR rx fx r fs w (by simpa using hw)) ⟨.bl _,H,I,rfl,?_⟩;rw [show its.toArray.any (eqU x)=its.any (eqU x) by simp,XI r fs];exact q
 ·obtain ⟨its,r,pl,hz⟩:=I.tuple hq;refine SeqAt.notIn_tupleAt (eqU x) pl (λw hw=>UR rx fx r fs w (by simpa using hw)) ⟨.bl _,H,I,rfl,?_⟩;rw [show its.toArray.any (eqU x)=its.any (eqU x) by simp,XI r fs];exact q
theorem DP:JW X (.type "list") (λxs H Q=>∃ p ys,xs=[.ref p]/\(SqL X.K H p ys\/SqT X.K H p ys)/\∀ l,H l=none->Q (.ref l) (upd H l (.lst ys))):=by
 intro pins s σ H xs us Q I r h;obtain ⟨p,ys,rfl,hq,q⟩:=h;obtain ⟨u,rfl,rx⟩:=W0 r;cases rx;have fin:∀ (its:List Value),zJ ys its->ys.length<=sizeLine->∀ (h':Heap) (c':Nat),(∀ b o',s.heap.get? b=some o'->h'.get? b=some o') ->
   h'.get? s.heap.objs.size=some { cls:=.type "list",dict:=none,data:=.seq its.toArray c',slots:=#[] }->EP X pins σ Q (.ref s.heap.objs.size) { s with heap:=h' }:=λits r' hz h' c' kp e=>
  ⟨.ref s.heap.objs.size,_,I.laid (t':=s.toks) kp (u9 _) (show JF X.prog X.w _ h' _ (.lst ys) from ⟨hz,its,c',r',e⟩),rfl,q _ (I.hok.fresh (u9 _))⟩
 rcases hq with hq|hq
 ·obtain ⟨its,r',pl,hz⟩:=I.list hq;have hlen:=r'.length;obtain ⟨o,ho,hc,n,hd⟩:=pl.isList;exact call_list_seq p (.inl rfl) ho hc hd (λh' c' kp e=>fin its r' hz h' c' kp e) (by simp only [ze3]<;>omega)
 ·obtain ⟨its,r',pl,hz⟩:=I.tuple hq;have hlen:=r'.length;obtain ⟨o,ho,hc,n,hd⟩:=pl;exact call_list_seq p (.inr rfl) ho hc hd (λh' c' kp e=>fin its r' hz h' c' kp e) (by simp only [ze3]<;>omega)
theorem zb:JW X (.type "tuple") (λxs H Q=>∃ p ys,xs=[.ref p]/\((SqL X.K H p ys/\∀ l,H l=none->Q (.ref l) (upd H l (.tup ys)))\/(SqT X.K H p ys/\Q (.ref p) H))):=by
 intro pins s σ H xs us Q I r h;obtain ⟨p,ys,rfl,h⟩:=h;obtain ⟨u,rfl,rx⟩:=W0 r;cases rx;rcases h with ⟨hq,q⟩|⟨hq,q⟩
 ·obtain ⟨its,r',pl,hz⟩:=I.list hq;have hlen:=r'.length;refine call_tuple_list pl.isList (λh' kp=>?_) (by simp only [ze3]<;>omega);have I1:Inv X pins σ H { s with heap:=h' }:=I.kept (t':=s.toks) kp;have I2:Inv X pins σ (upd H h'.objs.size (.tup ys)) { s with heap:=h'.push { cls:=.type "tuple",data:=.seq its.toArray } }:=
   I1.laid (t':=s.toks) (λb o e=>v5 _ e) (u9 _) (show JF X.prog X.w _ _ _ (.tup ys) from ⟨hz,its,r',DY.new _ _⟩)
  exact ⟨.ref h'.objs.size,_,I2,rfl,q _ (I1.hok.fresh (u9 _))⟩
 ·obtain ⟨its,r',pl,hz⟩:=I.tuple hq;exact call_tuple_same pl ⟨.ref p,H,I,rfl,q⟩
def tyV (K:Frg) (T:String) (x:V) (H:Hp):Prop:=match x with
 |.str _=>T="str"
 |.int _=>T="int"
 |.ref p=>(T="list"/\∃ xs,SqL K H p xs)\/(T="tuple"/\∃ o,K.lookup p=some o/\o.cls=.type "tuple"/\o.dict=none) ∨
   (T="dict"/\((∃ kvs,H p=some (.dK kvs))\/∃ kvs,H p=some (.dT kvs)))\/(T="set"/\∃ S n,H p=some (.set S n))
 |_=>False
theorem qmg {σ:St} {H:Hp} {T:String} {x:V} {v:Value} (I:Inv X pins σ H s) (r:zK x v) (ty:tyV X.K T x H) :
  s.TypeIs v T/\∀ a,v=.ref a->∃ ob,s.heap.get? a=some ob/\ob.dict=none:=by
 cases x with
 |str z=>
  obtain ⟨t,rfl⟩:=r;cases (show T="str" from ty);exact ⟨typeIs_str s z t,λ_ e=>nomatch e⟩
 |int i=>
  obtain ⟨t,rfl⟩:=r;cases (show T="int" from ty);exact ⟨typeIs_int s i t,λ_ e=>nomatch e⟩
 |ref p=>
  cases r;rcases ty with ⟨rfl,xs,hq⟩|⟨rfl,o,hk,hc,hd⟩|⟨rfl,hk⟩|⟨rfl,S,n,hk⟩
  ·obtain ⟨its,_,pl,_⟩:=I.list hq;refine ⟨pl.isList.typeIs,λa e=>?_⟩;cases e;obtain ⟨o,n,e,c,hd,_⟩:=pl;exact ⟨o,e,hd⟩
  ·refine ⟨⟨o,I.kIn p o hk,hc⟩,λa e=>?_⟩;cases e;exact ⟨o,I.kIn _ o hk,hd⟩
  ·have z:∃ o,s.heap.get? p=some o/\o.ExactDict:=by
    rcases hk with ⟨kvs,hk⟩|⟨kvs,hk⟩
    ·obtain ⟨_,_,_,_,o,_,_,e,ex,_⟩:=I.hok p _ hk;exact ⟨o,e,ex⟩
    ·obtain ⟨_,_,_,_,o,_,_,e,ex,_⟩:=I.hok p _ hk;exact ⟨o,e,ex⟩
   obtain ⟨o,e,ex⟩:=z;refine ⟨⟨o,e,ex.1⟩,λa e2=>?_⟩;cases e2;exact ⟨o,e,ex.2.1⟩
  ·obtain ⟨o,_,_,_,e,ex,_⟩:=I.hok p _ hk;refine ⟨⟨o,e,ex.1⟩,λa e2=>?_⟩;cases e2;exact ⟨o,e,ex.2.1⟩
 |_=>exact False.elim ty
def tBM (K:Frg) (T:String) (r:V->List V->Hp->VK->Prop) (to:TE) (t:TA):TE:=λσ H Q=>to σ H λx H1=>tyV K T x H1/\t σ H1 λxs H2=>r x xs H2 Q
variable {o e:Expr} {es:List Expr} {to:TE} {t:TA} {name:Str} {apos cpos:Pos} {T id:String} {r:V->List V->Hp->VK->Prop}
theorem qqS (pa:PlainAttrs T) (slot:Slot T name id) (hty:typeOf (.builtin id)=pure (.type "method_descriptor")) (hm:MtR X id r) (ho:PE X o to) (ha:PA X (e::es) t)
  (hbase:autoParam (attributeBase o name X.env (eval o X.env)=eval o X.env) zA0._auto_1)
  (hfew:autoParam (((zn3 cpos (ze0 (e::es) X.env)).all (λx=>!x.1)&&(backToKw cpos (keywordEach [] X.env)).all (λx=>x.1.isSome)
   && decide ((e::es).length+([]:List Keyword).length+(if ([]:List Keyword).isEmpty then 0 else 1)<30))=true) zA0._auto_1)
  (hline:autoParam ((apos.endLine==cpos.line)=true) zA0._auto_1) (hs:autoParam (ze0 (e::es) X.env=(false,eval e X.env)::ze0 es X.env) zA0._auto_1) (hplain:autoParam ((zn3 cpos (ze0 es X.env)).any (·.1)=false) zA0._auto_1) :
  PE X (.Call (.Attribute o name apos) (e::es) [] cpos) (tBM X.K T r to t):=by
 intro pins s σ H Q I h;refine wpAny_Call_method_late hbase hfew hline rfl (thn (ho pins s σ H _ I h) λv s1 ⟨x,H1,I1,r1,ty,q1⟩=>?_);obtain ⟨h1,h2⟩:=qmg I1 r1 ty;refine ⟨T,id,pa,slot,hty,h1,h2,?_⟩;have hA:=ha cpos pins s1 σ H1 _ I1 q1;rw [hs] at hA ⊢;refine Calls.callWith_builtin (by show (false||(zn3 cpos (ze0 es X.env)).any (·.1))=false;rw [hplain]<;>rfl) (Calls.evalArgs_plain ?_);exact thn hA λus s2 ⟨vs,H2,I2,r2,q2⟩=>hm pins s2 σ H2 x vs v us Q I2 r1 r2 q2
end
def MtM (X:Cx) (id:String) (r:V->List V->Hp->VK->Prop):Prop:=
 ∀ (pins:List (Addr×Obj)) (s:Shared) (σ:St) (H:Hp) (x:V) (xs:List V) (v:Value) (us:List Value) (Q:VK),Inv X pins σ H s->zK x v->zJ xs us->r x xs H Q ->
  wpAny (model X.prog X.w) X.A (call (.builtin id) (v::us)) (EP X pins σ Q) X.xe s
theorem zJ.one:∀ {x:V} {us:List Value},zJ [x] us->∃ u,us=[u]/\zK x u
 |_,_,.cons r .nil=>⟨_,rfl,r⟩
theorem zJ.reverse (h:zJ xs us):zJ xs.reverse us.reverse:=by
 induction h with
 |nil=>exact .nil
 |cons r t ih=>rw [xh4,xh4];exact zJ.append ih (.cons r .nil)
section
variable {σ:St} {H:Hp} {l b:Addr} {ys zs:List V}
theorem Inv.lset {its its':List Value} {n:Nat} {f:Array Value->Array Value} {t':Nat} (I:Inv X pins σ H s) (hH:H l=some (.lst xs))
  (e:s.heap.get? l=some { cls:=.type "list",data:=.seq its.toArray n }) (hf:f its.toArray=its'.toArray) (hv:zJ ys its') (hz:ys.length<=sizeLine) :
  Inv X pins σ (upd H l (.lst ys)) { s with heap:=s.heap.update l (Obj.mapSeq f),toks:=t' }:=by
 have q:=PySem.IsL.update e f;rw [hf] at q;refine I.write (x:=l) (e:=l) (by rw [hH];exact trivial) (.inl rfl) (λb' u hb hu=>(Heap.get?_update_other s.heap (Obj.mapSeq f) (Ne.symm hb)).trans hu) ⟨_,q⟩ ?_;exact ⟨hz,its',_,hv,q⟩
theorem Inv.lnew {its:List Value} {t':Nat} (I:Inv X pins σ H s) (hv:zJ ys its) (hz:ys.length<=sizeLine) :
  Inv X pins σ (upd H s.heap.objs.size (.lst ys)) { s with heap:=s.heap.push { cls:=.type "list",data:=.seq its.toArray },toks:=t' }:=
 I.laid (λ_ _ q=>v5 _ q) (u9 _) ⟨hz,its,0,hv,v6 _ rfl⟩
theorem Inv.fresh (I:Inv X pins σ H s):H s.heap.objs.size=none:=I.hok.fresh (u9 _)
theorem Inv.lstM (I:Inv X pins σ H s) (hH:H l=some (.lst xs)):xs.length<=sizeLine/\∃ (its:List Value) (n:Nat),zJ xs its/\xs.length=its.length/\s.heap.get? l=some { cls:=.type "list",data:=.seq its.toArray n }:=by
 obtain ⟨z,its,n,r,e⟩:=I.hok l _ hH;exact ⟨z,its,n,r,r.length,e⟩
theorem qeF {n:Nat} (h:n<=sizeLine):xf3 n=false:=by
 unfold xf3;exact za9 (by omega)
end
def qdp:V->List V->Hp->VK->Prop:=λx vs H Q=>∃ l xs y,x=.ref l/\vs=[y]/\H l=some (.lst xs)/\xs.length<sizeLine/\Q .non (upd H l (.lst (xs++[y])))
theorem K9:MtM X "list.append" qdp:=by
 intro pins s σ H x vs v us Q I rx rv h;obtain ⟨l,xs,y,rfl,rfl,hH,hz,q⟩:=h;cases rx;obtain ⟨u,rfl,ru⟩:=rv.one;obtain ⟨z,its,n,r,hl,e⟩:=I.lstM hH;refine call_meets F.slot_list_append ⟨_,e,rfl⟩ F.entry_list_append (F.args_list_append_2 _ _) (PySem.list_append l its.toArray n u (by rw [ze3];omega)) ⟨e,?_⟩;refine ⟨.non,_,I.lset (its':=its++[u]) hH e (by simp) (r.append (.cons ru .nil)) ?_,rfl,q⟩;rw [zg9,zk3];omega
def qbD:V->List V->Hp->VK->Prop:=λx vs H Q=>∃ l b xs zs,x=.ref l/\vs=[.ref b]/\H l=some (.lst xs)/\H b=some (.lst zs)/\xs.length+zs.length<=sizeLine/\Q .non (upd H l (.lst (xs++zs)))
theorem qdc:MtM X "list.extend" qbD:=by
 intro pins s σ H x vs v us Q I rx rv h;obtain ⟨l,b,xs,zs,rfl,rfl,hH,hB,hz,q⟩:=h;cases rx;obtain ⟨u,rfl,ru⟩:=rv.one;cases ru;obtain ⟨z,its,n,r,hl,e⟩:=I.lstM hH;obtain ⟨z2,its2,n2,r2,hl2,e2⟩:=I.lstM hB;have hsz:its.toArray.size+its2.toArray.size<=sizeLine:=by rw [ze3,ze3];omega
 have hlong:¬ (!its.toArray.isEmpty&&xf3 (its.toArray.size+its2.toArray.size))=true:=by
  rw [qeF hsz,xb9];exact v8
 refine call_meets F.slot_list_extend ⟨_,e,rfl⟩ F.entry_list_extend (F.args_list_extend_2 _ _)
  (AutoSeq1.list_extend_list_list_0 l its.toArray n b its2.toArray n2 hlong (by rw [ze3];omega) (by omega)) ⟨e,e2,?_⟩
 refine ⟨.non,_,I.lset (its':=its++its2) hH e (by simp) (r.append r2) ?_,rfl,q⟩;rw [zg9];omega
def qrq:R2:=λx y H Q=>∃ l b xs zs,x=.ref l/\y=.ref b/\H l=some (.lst xs)/\H b=some (.lst zs)/\xs.length+zs.length<=sizeLine/\∀ p,H p=none->Q (.ref p) (upd H p (.lst (xs++zs)))
theorem qnk:OpR X (xb7 .Add) qrq:=by
 intro pins s σ H x y v u Q I rx ry h;obtain ⟨l,b,xs,zs,rfl,rfl,hH,hB,hz,q⟩:=h;cases rx;cases ry;obtain ⟨z,its,n,r,hl,e⟩:=I.lstM hH;obtain ⟨z2,its2,n2,r2,hl2,e2⟩:=I.lstM hB;refine PySem.P.add_list e e2 ?_ (by rw [ze3,ze3];omega);have ea:its.toArray++its2.toArray=(its++its2).toArray:=by simp
 rw [ea];exact ⟨.ref _,_,I.lnew (t':=s.toks) (r.append r2) (by rw [zg9];omega),rfl,q _ I.fresh⟩
section
variable {prog:Program} {w:World} {A:Around} {E:Value->Shared->Prop}
end
end L2
namespace Att
open PySem PySem.W PySem.Calls PyProof.Rows
theorem XA {P:Params} {h:Heap}:∀ (ns:List Int) (vs:List Value),WellAll P h vs (ns.map WData.int)->IntsAre vs ns:=by
 intro ns;induction ns with
 |nil=>
  intro vs w;rw [zh8] at w;cases w;exact .nil
 |cons n ns ih=>
  intro vs w;rw [zg2] at w;cases w with
  |cons a b=>
   cases a;exact .cons _ _ (ih _ b)
theorem qbE {l:OpenLaw} {n:Nat} (hn:l.most=some n) {P:Params} {h:Heap} {args:List WData} {vals:List Value}
  (hpre:l.row.toRowW.claim.pre args=true) (hwl:WellAll P h vals args) :
  ∃ a vs ns,vals=[Value.ref a]/\args=[WData.list (ns.map WData.int)]/\h.get? a=some { cls:=.type "list",data:=.seq vs.toArray }/\IntsAre vs ns/\ns.length<=n:=by
 have hsh:WShape.hasAll [] args [.list .int]=true:=(pre_splitW hpre).1;have hc:l.pre.holds [] { args:=args }=true:=(pre_splitW hpre).2;obtain ⟨d,r,rfl,h1,h2⟩:=hasAllW_cons hsh;obtain rfl:=hasAllW_nil h2;obtain ⟨xs,rfl,h3⟩:=hasW_list h1;obtain ⟨ns,rfl⟩:=items_int h3;have hlen:ns.length<=n:=by
  unfold OpenLaw.pre at hc;have h4:(WTm.not (.lt (.lit (.int (n:Int))) (.len (.arg 0)))).holds [] { args:=[.list (ns.map .int)] }=true:=by
   have h4:=(holds_andW hc).1;rw [hn] at h4;exact h4
  have h5:=condW_of h4 (w_not (w_lt w_lit (w_len_list (w_arg rfl))));rw [zd9] at h5;refine Nat.le_of_not_lt λq=>?_;have q':(n:Int)<((ns.length:Nat):Int):=by omega
  first
   | (rw [zb0 q'] at h5;exact absurd h5 (by decide))
   | (simp at h5;omega)
 cases hwl with
 |cons w1 w2=>
  cases w2;cases w1 with
  |list ho hall=>exact ⟨_,_,ns,rfl,rfl,ho,XA ns _ hall,hlen⟩
theorem qch (l:OpenLaw) (args:List WData):l.row.toRowW.claim.post args (.bool true) args=true:=
 postW_of (r:=l.row.toRowW) (X:=(true==true))
  (show WShape.has [] (.bool true) .bool=true by first|rfl|decide|simp [WShape.has,WShape.arms,WShape.armsAll])
  (show (WTm.eq .res (.lit (.bool true))).value [] { args:=args,res:=some (.bool true),after:=args }=some (.bool (true==true)) from w_eq_bool (w_res rfl) w_lit) rfl
theorem LS {l:OpenLaw} {n:Nat} {q:Program} {loose:List Str} {XP:(Str->Option Value)->Heap->Prop} {YP:World->Heap->Prop} {d:DefRec}
  (hn:l.most=some n) (hdf:d.params.defaults=[])
  (call:∀ (w:World) (s₀ s₁:Shared) (mg mb:Str->Option Value) (fa:Addr) (o:Obj) (pm cd doc:Value) (a:Addr) (vs:List Value) (ns:List Int),
   Ground q loose [] XP w s₀ mg mb s₁.heap->YP w s₁.heap ->
   s₁.heap.get? fa=some o->o.data=.func (docDef d.name d.params d.body d.scope pm cd doc)->s₁.heap.CodeRec cd d.name->mg d.name=some (.ref fa) ->
   s₁.heap.get? a=some { cls:=.type "list",data:=.seq vs.toArray }->IntsAre vs ns->ns.length<=n->s₁.gens=#[] ->
   codeAny (model l.prog w) callerA (.call (.ref fa) ⟨[.ref a],[]⟩) (λr s'=>r=.ok (.ret (.bool true))/\OldK s₁.heap s'.heap/\s'.os=s₁.os/\AllBare s'.gens) s₁) :
  WalkO q loose XP YP l.row.toRowW d [] (λf vs=>PySem.call f vs):=by
 intro w s₀ s₁ mg mb G Y fa o pm cd doc dV kV ho hd hcd hD hmg hg args vals as hpre hlay hrd hwl hlo;obtain rfl:dV=.none:=Dflts.none hD hdf;obtain rfl:kV=.none:=Dflts.noKw hD;obtain ⟨a,vs,ns,rfl,rfl,hobj,hints,hlen⟩:=qbE hn hpre hwl;refine enter_call (xm2 (call w s₀ s₁ mg mb fa o pm cd doc a vs ns G Y ho (fd_plain hd) hcd hmg hobj hints hlen hg) λr s' hq=>?_);obtain ⟨rfl,h2,h3,h4⟩:=hq;exact ⟨.inl ⟨.bool true,.bool true,[],rfl,λ_=>rfl,.bool true,qch l _,λ_=>⟨List.Pairwise.nil,λ_ hm=>(nomatch hm)⟩⟩,h2,h3,h4⟩
section
variable {prog:Program} {w:World} {A:Around} {E:Value->Shared->Prop} {s:Shared} {K:Frag}
end
end Att
namespace L2
open PySem PySem.Spec PyProof.Rows
theorem KD:∀ {vs:List Value} {ns:List Int},IntsAre vs ns->zJ (ns.map V.int) vs
 |_,_,.nil=>.nil
 |_,_,.cons n t h=>.cons ⟨t,rfl⟩ (KD h)
def qpw (H:Hp):Prop:=∀ b,H b=none\/∃ o xs,H b=some (.frz o (.lst xs))
theorem qeN {P:Program} {w:World} {K:Frg} {mg mb:Str->Option Value} {CX:CXT} {k:Nat} {fa a:Addr} {fd:FuncData} {x:Str} {sp:Sp} {s₁:Shared} {vs:List Value} {ns:List Int}
  (KX:K.In s₁.heap) (hns:s₁.heap.Ns zi2 mg) (hb:s₁.heap.Ns builtinsNs mb) (hbb:∀ x:Str,x≠"__name__" -> mb x=zk6 x) (hlim:s₁.heap.NoLimit) (hg:s₁.gens=#[])
  (ha:s₁.heap.get? a=some { cls:=.type "list",data:=.seq vs.toArray }) (hi:IntsAre vs ns) (hl:ns.length<=sizeLine) (hr:Room k callerA)
  (F:∀ base:Heap,K.In base->base.Ns zi2 mg->FnOk P w K mg base CX k fa fd [x] sp) (hbind:∀ (s:Shared) (u:Value),BindsTo s fd ⟨[u],[]⟩ [(x,u)])
  (hsp:∀ H:Hp,qpw H->SqL K H a (ns.map V.int)->sp [.ref a] H (λv _=>v=.bl true) λ_ _ _=>False)
  (hCX:∀ H e s',CX [] H s₁ (λ_ _ _=>False) e s'->False) :
  codeAny (model P w) callerA (.call (.ref fa) ⟨[.ref a],[]⟩) (λr s'=>r=.ok (.ret (.bool true))/\OldK s₁.heap s'.heap/\s'.os=s₁.os/\AllBare s'.gens) s₁:=by
 have rv:=KD hi;have lenV:=hi.length
 -- from an abstract heap in which nothing but the script may be tracked
 have core:∀ H:Hp,qpw H->SqL K H a (ns.map V.int)->HOk P w H s₁.heap->(∀ b,H b≠none->b=a)->(H a≠none->K.lookup a=none) ->
   codeAny (model P w) callerA (.call (.ref fa) ⟨[.ref a],[]⟩) (λr s'=>r=.ok (.ret (.bool true))/\OldK s₁.heap s'.heap/\s'.os=s₁.os/\AllBare s'.gens) s₁:=by
  intro H hO hS hok hA hK;have base_of:∀ {b:Addr} {o:Obj},s₁.heap.get? b=some o->H b=none->(qeg s₁.heap H).get? b=some o:=λe n=>qem e n;have noA:∀ {b:Addr} {o:Obj} {es:Array DictEntry} {ep:Nat},s₁.heap.get? b=some o->o.data=.dict es ep->H b=none:=λ{b o es ep} e d=>by
   cases q:H b with
   |none=>rfl
   |some u=>
    have e':b=a:=hA b (by rw [q];simp);subst e';rw [ha] at e;cases e;have d':Data.seq vs.toArray _=Data.dict es ep:=d;cases d'
  have nsK:∀ {b:Addr} {m:Str->Option Value},s₁.heap.Ns b m->(qeg s₁.heap H).Ns b m:=λ{b m} ⟨o,es,ep,e,d,r⟩=>⟨o,es,ep,base_of e (noA e d),d,r⟩
  have hKb:K.In (qeg s₁.heap H):=λb o e=>base_of (KX b o e) (by
   cases q:H b with
   |none=>rfl
   |some u=>
    have e':b=a:=hA b (by rw [q];simp);subst e';rw [hK (by rw [q];simp)] at e;cases e)
  have hM:Mod K mg (qeg s₁.heap H):=⟨hKb,nsK hns,⟨mb,nsK hb,hbb⟩,let ⟨mc,h1,h2⟩:=hlim;⟨mc,nsK h1,h2⟩⟩
  have e0:Env0 P w K mg (qeg s₁.heap H) callerA [] s₁ H:=⟨rfl,hM,λb o e=>qiI e,Nat.le_of_eq (qbJ _ _),trivial,λb hb=>absurd (show b∈([]:List Addr) from hb) (by simp),hok,.of_eq hg⟩
  refine xm2 ((F _ hKb (nsK hns)).run callerA [] s₁ H ⟨[.ref a],[]⟩ [.ref a] [.ref a] _ _ hr e0 (hbind s₁ (.ref a)) (.cons rfl .nil) (hsp H hO hS)) λr s' h=>?_;cases r with
  |error e=>exact (hCX H e s' h).elim
  |ok fl=>
   cases fl with
   |next=>exact False.elim h
   |brk=>exact False.elim h
   |cont=>exact False.elim h
   |ret u=>
    obtain ⟨v,H',os,bare,un,hok',r',q⟩:=h;have q':v=.bl true:=q;subst q';obtain rfl:u=Value.bool true:=r';refine ⟨rfl,OldK.of_keep λb o e=>?_,os,bare⟩;cases q:H b with
    |none=>exact un.keep b o e q (by intro z;exact absurd (show b∈([]:List Addr) from z) (by simp)) (by simp)
    |some u=>
     rcases hO b with z|⟨ob,xs,z⟩
     ·rw [q] at z;cases z
     ·have z2:=un.frzs b ob _ z;obtain ⟨e1,_⟩:=hok b _ z;obtain ⟨e2,_⟩:=hok' b _ z2;rw [e] at e1;cases e1;exact e2
 cases hk:K.lookup a with
 |some o=>
  -- the script is one of the module's own objects
  have e:=KX a o hk;rw [ha] at e;cases e;refine core (λ_=>none) (λ_=>.inl rfl) (.inr ⟨_,vs.toArray,_,hk,rfl,rfl,rfl,by rw [ze3,lenV];exact hl,by simpa using rv⟩) (λb u z=>by have z':(none:Option HO)=some u:=z;cases z') (λb z=>absurd rfl z) λz=>absurd rfl z
 |none=>
  refine core (λb=>if b=a then some (.frz { cls:=.type "list",data:=.seq vs.toArray } (.lst (ns.map V.int))) else none) (λb=>?_) (.inl (.inr ⟨{ cls:=.type "list",data:=.seq vs.toArray },if_pos rfl⟩)) (λb u z=>?_) (λb z=>?_) λ_=>hk
  ·by_cases hb:b=a
   ·exact .inr ⟨_,_,if_pos hb⟩
   ·exact .inl (if_neg hb)
  ·by_cases hb:b=a
   ·have z':=(if_pos hb).symm.trans z;cases z';subst hb;exact ⟨ha,by rw [zd9];exact hl,vs,_,rv,ha⟩
   ·have z':=(if_neg hb).symm.trans z;cases z'
  ·by_cases hb:b=a
   ·exact hb
   ·exact absurd (if_neg hb) z
theorem qiP {l:PySem.W.OpenLaw} {n k:Nat} {q:Program} {loose:List Str} {XP:(Str->Option Value)->Heap->Prop} {YP:World->Heap->Prop} {d:DefRec} {K:Params->xh1} {CX:World->CXT} {sp:World->Sp} {x:Str}
  (hn:l.most=some n) (hn2:n<=sizeLine) (hdf:d.params.defaults=[]) (hr:Room k callerA)
  (hY:∀ (w:World) (h:Heap),YP w h->(K w.params).In h)
  (F:∀ (w:World) (mg:Str->Option Value) (fa:Addr) (h:Heap),(K w.params).In h->h.Ns zi2 mg->mg d.name=some (.ref fa) ->
   ∃ fd:FuncData,(∀ (s:Shared) (u:Value),BindsTo s fd ⟨[u],[]⟩ [(x,u)]) /\
    ∀ base:Heap,(K w.params).In base->base.Ns zi2 mg->FnOk l.prog w (K w.params) mg base (CX w) k fa fd [x] (sp w))
  (hsp:∀ (w:World) (H:Hp) (a:Addr) (ns:List Int),ns.length<=n->qpw H->SqL (K w.params) H a (ns.map V.int)->sp w [.ref a] H (λv _=>v=.bl true) λ_ _ _=>False)
  (hCX:∀ (w:World) (H:Hp) (s:Shared) (e:Value) (s':Shared),CX w [] H s (λ_ _ _=>False) e s'->False) :
  PySem.W.WalkO q loose XP YP l.row.toRowW d [] (λf vs=>PySem.call f vs):=by
 refine Att.LS hn hdf λw s₀ s₁ mg mb fa o pm cd doc a vs ns G Y ho hd hcd hmg hobj hints hlen hg=>?_;have KX:=hY w _ Y;obtain ⟨fd,hb,hF⟩:=F w mg fa _ KX G.T.g hmg;exact qeN KX G.T.g G.T.b G.T.builtins G.T.nolimit hg hobj hints (za4 hlen hn2) hr hF hb (λH hO hS=>hsp w H a ns hlen hO hS) λH e s'=>hCX w H s₁ e s'
noncomputable def j7 (s:Stmt):Arguments:=match s with
 |.FunctionDef _ a _ _ _ _ _ _ _ _=>a
 |_=>{ posonlyargs:=[],args:=[],vararg:=none,kwonlyargs:=[],kw_defaults:=[],kwarg:=none,defaults:=[] }
noncomputable def zy (s:Stmt):List Stmt:=match s with
 |.FunctionDef _ _ b _ _ _ _ _ _ _=>b
 |_=>[]
noncomputable def qz (s:Stmt):Scope:=match s with
 |.FunctionDef _ _ _ _ _ _ sc _ _ _=>sc
 |_=>{ kind:=.function,names:=[],isGenerator:=false,isCoroutine:=false }
abbrev CX0:CXT:=λ_ _ _ _ _ _=>False
abbrev E0:XK:=λ_ _ _=>False
theorem qqk {X:Cx}:qa0 CX0 X E0:=λ_ _ _ _ _ _ _ h=>h.elim
structure Fun (K:Frg) (x qual:Str) (st:Stmt) (f:Addr) (fd:FuncData):Prop where
 ex:∃ (oc:Value) (od:Option Addr) (kV doc pm:Value) (an:Option Addr) (cdv ct:Value) (osl:Array (Option Value)),
  fd=zn0 x qual (j7 st) (zy st) (qz st) .none kV doc pm an cdv ct/\K.lookup f=some ⟨oc,od,.func fd,osl⟩/\xh3 K cdv qual=true
 kp:xd6 K (.ref f)=true
section
variable {P:Program} {w:World} {K:Frg} {mg:Str->Option Value} {base:Heap}
theorem Fun.ok {x qual:Str} {st:Stmt} {f:Addr} {fd:FuncData} {N ps:List Str} {k:Nat} {sp:Sp} (F:Fun K x qual st f fd) (S:FnScope N ps (qz st)) (len:∀ vs H Q E,sp vs H Q E->vs.length=ps.length)
  (hbody:∀ (cdv:Value) (A:Around) (outer:List Env) (s:Shared) (H:Hp) (vs:List V) (Q:VK) (E:XK),Room k (A.deeper (xg3 qual (qz st) s.heap.objs.size f cdv))->sp vs H Q E ->
   ∃ t,PSs (qas CX0 P w K mg base N qual (qz st) f cdv A outer s H E).nox (zy st) t/\t { nx:=λ_ H'=>Q .non H',rt:=Q } (start N vs) H):FnOk P w K mg base CX0 (k+1) f fd ps sp:=by
 obtain ⟨oc,od,kV,doc,pm,an,cdv,ct,osl,rfl,lk,hcd⟩:=F.ex;refine qqb lk hcd S len λA outer s H vs Q E hr hsp=>?_;obtain ⟨t,h,q⟩:=hbody cdv A outer s H vs Q E hr hsp;exact ⟨t,h.nox,q⟩
theorem Fun.binds {x qual:Str} {st:Stmt} {f:Addr} {fd:FuncData} {ps:List Str} (F:Fun K x qual st f fd)
  (h:∀ (kV doc pm:Value) (an:Option Addr) (cdv ct:Value) (us:List Value),us.length=ps.length->bindArgs (zn0 x qual (j7 st) (zy st) (qz st) .none kV doc pm an cdv ct) ⟨us,[]⟩=pure (ps.zip us)):X5 K fd ps []:=by
 obtain ⟨oc,od,kV,doc,pm,an,cdv,ct,osl,rfl,lk,hcd⟩:=F.ex;exact .all (h kV doc pm an cdv ct)
theorem qbR {x qual:Str} {st:Stmt} {f:Addr} {oc:Value} {od an:Option Addr} {osl:Array (Option Value)} {kV doc pm cdv ct:Value} (l:K.lookup f=some ⟨oc,od,.func (zn0 x qual (j7 st) (zy st) (qz st) .none kV doc pm an cdv ct),osl⟩)
  (c:xh3 K cdv qual=true) (k:xd6 K (.ref f)=true):Fun K x qual st f (zn0 x qual (j7 st) (zy st) (qz st) .none kV doc pm an cdv ct):=⟨⟨oc,od,kV,doc,pm,an,cdv,ct,osl,rfl,l,c⟩,k⟩
end
section
variable {X:Cx}
end
theorem qp5 {A B:Prop} (h:B):if false=true then A else B:=by
 rw [if_neg v8];exact h
theorem qqw {A B:Prop} (h:A):if true=true then A else B:=by
 rw [if_pos rfl];exact h
end L2
set_option maxHeartbeats 4000000
namespace L3
open PySem PySem.Spec PyProof.Rows L2
set_option genInjectivity true in
inductive T where
 |non|bl (b:Bool)|int (i:Int)|str (x:Str)|tup (xs:List T)|ref (a:Addr)
inductive O where
 |lst (xs:List T)
 |frz (xs:List T)
 |dct (kvs:List (Int×T))
 |exn (C:Addr)
 |tab (ks:List Str) (xs:List T)
abbrev Gp:=Addr->Option O
noncomputable def gu (G:Gp) (a:Addr) (o:O):Gp:=λb=>if b=a then some o else G b
variable {G:Gp} {a:Addr} {o:O}
theorem qN:gu G a o a=some o:=by unfold gu;rw [if_pos rfl]
theorem QU {b:Addr} (h:b≠a):gu G a o b=G b:=by unfold gu;rw [if_neg h]
mutual
inductive Rp (K:Frg) (H:Hp):T->V->Prop
 |non:Rp K H .non .non
 |bl (b:Bool):Rp K H (.bl b) (.bl b)
 |int (i:Int):Rp K H (.int i) (.int i)
 |str (x:Str):Rp K H (.str x) (.str x)
 |ref (a:Addr):Rp K H (.ref a) (.ref a)
 |tup {xs:List T} {a:Addr} {vs:List V}:SqT K H a vs->Rps K H xs vs->Rp K H (.tup xs) (.ref a)
inductive Rps (K:Frg) (H:Hp):List T->List V->Prop
 |nil:Rps K H [] []
 |cons {x:T} {v:V} {xs:List T} {vs:List V}:Rp K H x v->Rps K H xs vs->Rps K H (x::xs) (v::vs)
end
def IsX (a C:Addr) (h:Heap):Prop:=∃ o vs,h.get? a=some o/\o.cls=.ref C/\o.data=.fields vs
def OR (K:Frg) (H:Hp) (a:Addr):O->Prop
 |.lst xs=>∃ vs,H a=some (.lst vs)/\Rps K H xs vs
 |.frz xs=>∃ vs,(∃ o,H a=some (.frz o (.lst vs)))/\Rps K H xs vs
 |.dct kvs=>∃ vs,H a=some (.dK ((kvs.map λp=>(Sum.inl p.1:Key)).zip vs))/\Rps K H (kvs.map λp=>p.2) vs
 |.exn C=>H a=some (.ext (IsX a C))
 |.tab ks xs=>∃ vs,H a=some (.dK ((ks.map λk=>(Sum.inr k:Key)).zip vs))/\Rps K H xs vs
def HR (K:Frg) (G:Gp) (H:Hp):Prop:=∀ a o,G a=some o->OR K H a o
def Kp (G:Gp) (H:Hp) (G':Gp) (H':Hp):Prop:=∀ a o,H a=some o->G a=none->H' a=some o/\G' a=none
variable {H:Hp}
theorem Kp.refl:Kp G H G H:=λ_ _ h g=>⟨h,g⟩
variable {G1:Gp} {H1:Hp}
theorem Kp.trans {G2:Gp} {H2:Hp} (a:Kp G H G1 H1) (b:Kp G1 H1 G2 H2):Kp G H G2 H2:=λx o h g=>
 let ⟨h1,g1⟩:=a x o h g;b x o h1 g1
variable {K:Frg} {G':Gp} {H':Hp} {vs:List V} {xs:List T} {p:Addr} {ho:HO}
theorem HR.noneT (hr:HR K G H) (h:Rd H a (.tup vs)):G a=none:=by
 cases e:G a with
 |none=>rfl
 |some o=>
  have q:=hr a o e;cases o with
  |lst xs=>
   obtain ⟨us,q1,_⟩:=q;rcases h with h|⟨ob,h⟩<;>(rw [q1] at h;cases h)
  |frz xs=>
   obtain ⟨us,⟨o1,q1⟩,_⟩:=q;rcases h with h|⟨ob,h⟩<;>(rw [q1] at h;cases h)
  |dct kvs=>
   obtain ⟨us,q1,_⟩:=q;rcases h with h|⟨ob,h⟩<;>(rw [q1] at h;cases h)
  |exn C=>
   have q1:H a=some (.ext (IsX a C)):=q;rcases h with h|⟨ob,h⟩<;>(rw [q1] at h;cases h)
  |tab ks xs=>
   obtain ⟨us,q1,_⟩:=q;rcases h with h|⟨ob,h⟩<;>(rw [q1] at h;cases h)
theorem SZ (hr:HR K G H) (k:Kp G H G' H') (h:SqT K H a vs):SqT K H' a vs:=by
 rcases h with h|h
 ·have g:=hr.noneT h;rcases h with h|⟨o,h⟩
  ·exact .inl (.inl (k a _ h g).1)
  ·exact .inl (.inr ⟨o,(k a _ h g).1⟩)
 ·exact .inr h
mutual
theorem Rp.keep (hr:HR K G H) (k:Kp G H G' H'):∀ {x:T} {v:V},Rp K H x v->Rp K H' x v
 |_,_,.non=>.non
 |_,_,.bl b=>.bl b
 |_,_,.int i=>.int i
 |_,_,.str x=>.str x
 |_,_,.ref a=>.ref a
 |_,_,.tup h hs=>.tup (SZ hr k h) (Rps.keep hr k hs)
theorem Rps.keep (hr:HR K G H) (k:Kp G H G' H'):∀ {x:List T} {v:List V},Rps K H x v->Rps K H' x v
 |_,_,.nil=>.nil
 |_,_,.cons a b=>.cons (Rp.keep hr k a) (Rps.keep hr k b)
end
theorem Rps.length:∀ {xs:List T} {vs:List V},Rps K H xs vs->xs.length=vs.length
 |_,_,.nil=>rfl
 |_,_,.cons _ b=>by simp [Rps.length b]
theorem Rps.get:∀ {xs:List T} {vs:List V} {i:Nat} {x:T},Rps K H xs vs->xs[i]?=some x->∃ v,vs[i]?=some v/\Rp K H x v
 |_,_,_,_,.nil,e=>by simp at e
 |_,_,0,_,.cons r _,e=>by simp at e;subst e;exact ⟨_,rfl,r⟩
 |_,_,i+1,x,.cons _ t,e=>by
  obtain ⟨u,h1,h2⟩:=Rps.get (i:=i) (x:=x) t (by simpa using e);exact ⟨u,by simpa using h1,h2⟩
theorem Rps.append:∀ {xs ys:List T} {vs us:List V},Rps K H xs vs->Rps K H ys us->Rps K H (xs++ys) (vs++us)
 |_,_,_,_,.nil,s=>s
 |_,_,_,_,.cons r t,s=>.cons r (Rps.append t s)
theorem Rps.take:∀ {xs:List T} {vs:List V} (n:Nat),Rps K H xs vs->Rps K H (xs.take n) (vs.take n)
 |_,_,0,_=>.nil
 |_,_,_+1,.nil=>.nil
 |_,_,n+1,.cons r t=>.cons r (Rps.take n t)
theorem Rps.drop:∀ {xs:List T} {vs:List V} (n:Nat),Rps K H xs vs->Rps K H (xs.drop n) (vs.drop n)
 |_,_,0,r=>r
 |_,_,_+1,.nil=>.nil
 |_,_,n+1,.cons _ t=>Rps.drop n t
theorem Rps.set {x:T} {v:V} (r:Rp K H x v):∀ {xs:List T} {vs:List V} (i:Nat),Rps K H xs vs->Rps K H (xs.set i x) (vs.set i v)
 |_,_,_,.nil=>.nil
 |_,_,0,.cons _ t=>.cons r t
 |_,_,i+1,.cons q t=>.cons q (Rps.set r i t)
theorem Rps.ints:∀ (ns:List Int),Rps K H (ns.map T.int) (ns.map V.int)
 |[]=>.nil
 |n::r=>.cons (.int n) (Rps.ints r)
theorem Rps.reverse (h:Rps K H xs vs):Rps K H xs.reverse vs.reverse:=by
 induction xs generalizing vs with
 |nil=>cases h;exact .nil
 |cons x r ih=>
  cases h with
  |cons a b=>
   rw [xh4,xh4];exact (ih b).append (.cons a .nil)
theorem Kp.laid (hp:H p=none):Kp G H G (upd H p ho):=λa o h g=>⟨by rw [qO (qP h hp)];exact h,g⟩
theorem HR.free (hr:HR K G H) (hp:H p=none):G p=none:=by
 cases e:G p with
 |none=>rfl
 |some o=>
  have q:=hr p o e;cases o with
  |lst xs=>obtain ⟨us,q1,_⟩:=q;rw [hp] at q1;cases q1
  |frz xs=>obtain ⟨us,⟨o1,q1⟩,_⟩:=q;rw [hp] at q1;cases q1
  |dct kvs=>obtain ⟨us,q1,_⟩:=q;rw [hp] at q1;cases q1
  |exn C=>have q1:H p=some (.ext (IsX p C)):=q;rw [hp] at q1;cases q1
  |tab ks xs=>obtain ⟨us,q1,_⟩:=q;rw [hp] at q1;cases q1
theorem OR.keep (hr:HR K G H) (k:Kp G H G' H') (h:OR K H a o) (e:∀ u,H a=some u->H' a=some u):OR K H' a o:=by
 cases o with
 |lst xs=>obtain ⟨vs,h1,h2⟩:=h;exact ⟨vs,e _ h1,h2.keep hr k⟩
 |frz xs=>obtain ⟨vs,⟨o,h1⟩,h2⟩:=h;exact ⟨vs,⟨o,e _ h1⟩,h2.keep hr k⟩
 |dct kvs=>obtain ⟨vs,h1,h2⟩:=h;exact ⟨vs,e _ h1,h2.keep hr k⟩
 |exn C=>exact e _ h
 |tab ks xs=>obtain ⟨vs,h1,h2⟩:=h;exact ⟨vs,e _ h1,h2.keep hr k⟩
theorem HR.laid (hr:HR K G H) (hp:H p=none):HR K G (upd H p ho):=λa o e=>
 (hr a o e).keep hr (Kp.laid hp) λu h=>by rw [qO (qP h hp)];exact h
theorem Kp.newL {o':O} (hp:H p=none):Kp G H (gu G p o') (upd H p ho):=λa o h g=>
 ⟨by rw [qO (qP h hp)];exact h,by rw [QU (qP h hp)];exact g⟩
theorem HR.newL (hr:HR K G H) (hp:H p=none) (r:Rps K H xs vs):HR K (gu G p (.lst xs)) (upd H p (.lst vs)):=λa o e=>by
 by_cases ha:a=p
 ·subst ha;rw [qN] at e;cases e;exact ⟨vs,zn,r.keep hr (Kp.laid hp)⟩
 ·rw [QU ha] at e;exact (hr a o e).keep hr (Kp.laid hp) λu h=>by rw [qO ha];exact h
theorem Kp.wr {o':O} (g:G p=some o):Kp G H (gu G p o') (upd H p ho):=λa ob h ga=>by
 have ha:a≠p:=by intro e;subst e;rw [g] at ga;cases ga
 exact ⟨by rw [qO ha];exact h,by rw [QU ha];exact ga⟩
theorem HR.wr (hr:HR K G H) {ys:List T} (g:G p=some (.lst ys)) (r:Rps K H xs vs):HR K (gu G p (.lst xs)) (upd H p (.lst vs)):=λa o e=>by
 have k:Kp G H (gu G p (.lst xs)) (upd H p (.lst vs)):=Kp.wr g;by_cases ha:a=p
 ·subst ha;rw [qN] at e;cases e;exact ⟨vs,zn,r.keep hr k⟩
 ·rw [QU ha] at e;exact (hr a o e).keep hr k λu h=>by rw [qO ha];exact h
abbrev St3:=List (Option T)
structure Rel (K:Frg) (τ:St3) (G:Gp) (σ:L2.St) (H:Hp):Prop where
 hp:HR K G H
 len:τ.length=σ.length
 st:∀ (i:Nat) (t:T),τ[i]?=some (some t)->∃ v,σ[i]?=some (some v)/\Rp K H t v
variable {τ:St3} {σ:L2.St}
theorem Rel.next (r:Rel K τ G σ H) (hr:HR K G' H') (k:Kp G H G' H'):Rel K τ G' σ H':=
 ⟨hr,r.len,λi t e=>let ⟨v,h1,h2⟩:=r.st i t e;⟨v,h1,h2.keep r.hp k⟩⟩
variable {v:V}
theorem Rel.set {t:T} (r:Rel K τ G σ H) (i:Nat) (h:Rp K H t v):Rel K (τ.set i (some t)) G (σ.set i (some v)) H:=by
 refine ⟨r.hp,by simp [r.len],λj u e=>?_⟩;by_cases hij:i=j
 ·subst hij;rw [List.getElem?_set_self'] at e;have hl:i<τ.length:=by
   cases q:τ[i]? with
   |none=>rw [q] at e;cases e
   |some z=>exact (zb6 q).1
  rw [u7 hl] at e;have e':t=u:=by simpa using e
  subst e';exact ⟨v,by rw [xh2 (by rw [← r.len];exact hl)],h⟩
 ·rw [xd5 hij] at e;obtain ⟨w,h1,h2⟩:=r.st j u e;exact ⟨w,by rw [xd5 hij];exact h1,h2⟩
abbrev Q3:=T->Gp->Prop
abbrev TE3:=St3->Gp->Q3->Prop
abbrev TT3:=St3->Gp->(Bool->Gp->Prop)->Prop
abbrev TA3:=St3->Gp->(List T->Gp->Prop)->Prop
def Aft (K:Frg) (G:Gp) (H:Hp) (q:Q3) (Q:VK):Prop:=∀ x G',q x G'->∀ v H',Rp K H' x v->HR K G' H'->Kp G H G' H'->Q v H'
def qpk (K:Frg) (G:Gp) (H:Hp) (q:Bool->Gp->Prop) (Q:Bool->Hp->Prop):Prop:=∀ x G',q x G'->∀ H',HR K G' H'->Kp G H G' H'->Q x H'
def qsb (K:Frg) (G:Gp) (H:Hp) (q:List T->Gp->Prop) (Q:List V->Hp->Prop):Prop:=∀ x G',q x G'->∀ v H',Rps K H' x v->HR K G' H'->Kp G H G' H'->Q v H'
def lE (K:Frg) (t:TE3):TE:=λσ H Q=>∃ τ G q,Rel K τ G σ H/\t τ G q/\Aft K G H q Q
def lT (K:Frg) (t:TT3):TT:=λσ H Q=>∃ τ G q,Rel K τ G σ H/\t τ G q/\qpk K G H q Q
def lA (K:Frg) (t:TA3):TA:=λσ H Q=>∃ τ G q,Rel K τ G σ H/\t τ G q/\qsb K G H q Q
abbrev E3 (X:Cx) (e:Expr) (t:TE3):Prop:=PE X e (lE X.K t)
abbrev C3 (X:Cx) (e:Expr) (t:TT3):Prop:=PT X e (lT X.K t)
abbrev W3 (X:Cx) (e:Expr) (t:TT3):Prop:=PW X e (lT X.K t)
abbrev A3 (X:Cx) (es:List Expr) (t:TA3):Prop:=PA X es (lA X.K t)
variable {Q:VK}
theorem Aft.back {q:Q3} (a:Aft K G H q Q) (k:Kp G H G1 H1):Aft K G1 H1 q Q:=λx G' h v H' r hr k'=>a x G' h v H' r hr (k.trans k')
theorem qpk.back {q:Bool->Gp->Prop} {Q:Bool->Hp->Prop} (a:qpk K G H q Q) (k:Kp G H G1 H1):qpk K G1 H1 q Q:=λx G' h H' hr k'=>a x G' h H' hr (k.trans k')
variable {X:Cx} {e:Expr}
theorem D0 {t t':TE} (h:PE X e t) (w:∀ σ H Q,t' σ H Q->t σ H Q):PE X e t':=λpins s σ H Q I q=>h pins s σ H Q I (w σ H Q q)
theorem qpq {t t':TT} (h:PT X e t) (w:∀ σ H Q,t' σ H Q->t σ H Q):PT X e t':=λpins s σ H Q I q=>h pins s σ H Q I (w σ H Q q)
theorem qrH {t t':TT} (h:PW X e t) (w:∀ σ H Q,t' σ H Q->t σ H Q):PW X e t':=λwh pins s σ H Q I q=>h wh pins s σ H Q I (w σ H Q q)
theorem qrm {e:List Expr} {t t':TA} (h:PA X e t) (w:∀ σ H Q,t' σ H Q->t σ H Q):PA X e t':=λpos pins s σ H Q I q=>h pos pins s σ H Q I (w σ H Q q)
theorem ze {K:Frg} {ta:TE3} {τ:St3} {G:Gp} {σ:L2.St} {H:Hp} {q:Q3} {Q:VK} (r:Rel K τ G σ H) (h:ta τ G q)
  (n:∀ x G1,q x G1->∀ v H1,Rp K H1 x v->HR K G1 H1->Kp G H G1 H1->Rel K τ G1 σ H1->Q v H1):lE K ta σ H Q:=
 ⟨τ,G,q,r,h,λx G1 hq v H1 rx hr k=>n x G1 hq v H1 rx hr k (r.next hr k)⟩
theorem CP {K:Frg} {ta:TT3} {τ:St3} {G:Gp} {σ:L2.St} {H:Hp} {q:Bool->Gp->Prop} {Q:Bool->Hp->Prop} (r:Rel K τ G σ H) (h:ta τ G q)
  (n:∀ x G1,q x G1->∀ H1,HR K G1 H1->Kp G H G1 H1->Rel K τ G1 σ H1->Q x H1):lT K ta σ H Q:=
 ⟨τ,G,q,r,h,λx G1 hq H1 hr k=>n x G1 hq H1 hr k (r.next hr k)⟩
theorem JZ {K:Frg} {ta:TA3} {τ:St3} {G:Gp} {σ:L2.St} {H:Hp} {q:List T->Gp->Prop} {Q:List V->Hp->Prop} (r:Rel K τ G σ H) (h:ta τ G q)
  (n:∀ x G1,q x G1->∀ v H1,Rps K H1 x v->HR K G1 H1->Kp G H G1 H1->Rel K τ G1 σ H1->Q v H1):lA K ta σ H Q:=
 ⟨τ,G,q,r,h,λx G1 hq v H1 rx hr k=>n x G1 hq v H1 rx hr k (r.next hr k)⟩
variable {r3:R3} {f:Int->Int->Int} {x:T}
section
variable {X:Cx} {a b c:Expr} {ta tb tc:TE3} {pos:Pos}
def v3 (i:Nat):TE3:=λτ G q=>match τ[i]? with|some (some t)=>q t G|_=>False
def c3 (t:T):TE3:=λ_ G q=>q t G
theorem e_c {t:T} {e:Expr} (h:PE X e (tC v)) (hr:∀ H,Rp X.K H t v):E3 X e (c3 t):=D0 h λσ H Q ⟨τ,G,q,r,h,af⟩=>af t G h v H (hr H) r.hp Kp.refl
def n3:TE3:=λ_ _ _=>False
abbrev R3:=T->T->Gp->Q3->Prop
def SA (K:Frg) (r3:R3) (r:R2):Prop:=∀ x y v u G H q Q,HR K G H->Rp K H x v->Rp K H y u->r3 x y G q->Aft K G H q Q->r v u H Q
def o3 (r:R3) (ta tb:TE3):TE3:=λτ G q=>ta τ G λx G1=>tb τ G1 λy G2=>r x y G2 q
theorem qd1 {r:R2} (hr:SA K r3 r) (h:lE K (o3 r3 ta tb) σ H Q):tOp r (lE K ta) (lE K tb) σ H Q:=by
 obtain ⟨τ,G,q,rl,h,af⟩:=h;refine ze rl h λx G1 h1 v H1 rx hr1 k1 rl1=>ze rl1 h1 λy G2 h2 u H2 ry hr2 k2 rl2=>?_;exact hr x y v u G2 H2 q Q hr2 (rx.keep hr1 k2) ry h2 (af.back (k1.trans k2))
theorem qee {op:Operator} {r:R2} (ho:OpR X (xb7 op) r) (hr:SA X.K r3 r) (ha:E3 X a ta) (hb:E3 X b tb):E3 X (.BinOp a op b pos) (o3 r3 ta tb):=
 D0 (qpO ho ha hb) λ_ _ _ h=>qd1 hr h
def tb3 (t:TE3):TT3:=λτ G q=>t τ G λx G'=>match x with|.bl k=>q k G'|_=>False
theorem qim {t:TE3} {t2:TE} (hw:∀ σ H Q,lE K t σ H Q->t2 σ H Q) {Q:Bool->Hp->Prop} (h:lT K (tb3 t) σ H Q):qm8 t2 σ H Q:=by
 obtain ⟨τ,G,q,rl,h,af⟩:=h;refine hw _ _ _ (ze rl h λx G1 h1 v H1 rx hr1 k1 rl1=>?_);cases x with
 |bl k=>cases rx;exact ⟨k,rfl,af k G1 h1 H1 hr1 k1⟩
 |_=>exact h1.elim
def ch3 (r r':R3) (ta tb tc:TE3):TE3:=λτ G q=>ta τ G λx G1=>tb τ G1 λy G2=>r x y G2 λz G3=>match z with
 |.bl k=>if k=true then tc τ G3 λw G4=>r' y w G4 q else q (.bl false) G3
 |_=>False
theorem qqL {r3':R3} {r r':R2} (hr:SA K r3 r) (hr':SA K r3' r') (h:lE K (ch3 r3 r3' ta tb tc) σ H Q):qg6 r r' (lE K ta) (lE K tb) (lE K tc) σ H Q:=by
 obtain ⟨τ,G,q,rl,h,af⟩:=h;refine ze rl h λx G1 h1 v H1 rx hr1 k1 rl1=>ze rl1 h1 λy G2 h2 u H2 ry hr2 k2 rl2=>?_;refine hr x y v u G2 H2 _ _ hr2 (rx.keep hr1 k2) ry h2 λz G3 h3 w H3 rz hr3 k3=>?_;cases z with
 |bl k=>
  cases rz;refine ⟨k,rfl,?_⟩;cases k with
  |false=>
   rw [if_neg v8];rw [show (match T.bl false with|.bl k=>if k=true then tc τ G3 λw G4=>r3' y w G4 q else q (.bl false) G3|_=>False)=q (.bl false) G3 from by simp] at h3;exact af _ G3 h3 _ H3 (.bl false) hr3 ((k1.trans k2).trans k3)
  |true=>
   rw [if_pos rfl];refine ze (rl2.next hr3 k3) (show tc τ G3 λw G4=>r3' y w G4 q from by simpa using h3) λw G4 h4 w' H4 rw' hr4 k4 rl4=>?_;exact hr' y w _ _ G4 H4 q Q hr4 ((ry.keep hr2 k3).keep hr3 k4) rw' h4 (af.back (((k1.trans k2).trans k3).trans k4))
 |_=>exact h3.elim
def qre (K:Frg) (r3:T->Gp->Q3->Prop) (r:V->Hp->VK->Prop):Prop:=∀ x v G H q Q,HR K G H->Rp K H x v->r3 x G q->Aft K G H q Q->r v H Q
def u3 (r:T->Gp->Q3->Prop) (ta:TE3):TE3:=λτ G q=>ta τ G λx G1=>r x G1 q
theorem qsh {op:UnaryOp} {r3:T->Gp->Q3->Prop} {r:V->Hp->VK->Prop} (ho:UnR X (unaryOp op) r) (hr:qre X.K r3 r) (ha:E3 X a ta):E3 X (.UnaryOp op a pos) (u3 r3 ta):=
 D0 (qqc ho ha) λ_ _ _ ⟨τ,G,q,rl,h,af⟩=>ze rl h λx G1 h1 v H1 rx hr1 k1 rl1=>hr x v G1 H1 q _ hr1 rx h1 (af.back k1)
def YD:T->Gp->Q3->Prop:=λx G q=>match x with|.int i=>q (.int (-i)) G|_=>False
theorem qi7:qre K YD (rU λi=>.int (-i)):=λx v G H q Q hr rx h af=>by
 cases x with
 |int i=>cases rx;exact ⟨i,rfl,af _ G h _ H (.int _) hr Kp.refl⟩
 |_=>exact h.elim
def iI (f:Int->Int->Int):R3:=λx y G q=>match x,y with|.int i,.int j=>q (.int (f i j)) G|_,_=>False
def iC (C:Int->Int->Prop) (f:Int->Int->Int):R3:=λx y G q=>match x,y with|.int i,.int j=>C i j/\q (.int (f i j)) G|_,_=>False
def iB (f:Int->Int->Bool):R3:=λx y G q=>match x,y with|.int i,.int j=>q (.bl (f i j)) G|_,_=>False
theorem qfK:SA K (iI f) (rI0 λi j=>.int (f i j)):=λx y v u G H q Q hr rx ry h af=>by
 cases x<;>try exact h.elim
 cases y<;>try exact h.elim
 cases rx;cases ry;exact ⟨_,_,rfl,rfl,af _ G h _ H (.int _) hr Kp.refl⟩
theorem RB {C:Int->Int->Prop} :SA K (iC C f) (rI C λi j=>.int (f i j)):=λx y v u G H q Q hr rx ry h af=>by
 cases x<;>try exact h.elim
 cases y<;>try exact h.elim
 cases rx;cases ry;exact ⟨_,_,rfl,rfl,h.1,af _ G h.2 _ H (.int _) hr Kp.refl⟩
theorem j5 {f:Int->Int->Bool}:SA K (iB f) (rI0 λi j=>.bl (f i j)):=λx y v u G H q Q hr rx ry h af=>by
 cases x<;>try exact h.elim
 cases y<;>try exact h.elim
 cases rx;cases ry;exact ⟨_,_,rfl,rfl,af _ G h _ H (.bl _) hr Kp.refl⟩
def zc:T->T->Option Bool
 |.non,.non=>some true|.non,.int _=>some false|.int _,.non=>some false|.non,.bl _=>some false|.bl _,.non=>some false|.non,.str _=>some false|.str _,.non=>some false
 |.int i,.int j=>some (decide (i=j))|.bl i,.bl j=>some (decide (i=j))|.str i,.str j=>some (decide (i=j))
 |.int _,.str _=>some false|.str _,.int _=>some false|.bl _,.str _=>some false|.str _,.bl _=>some false
 |_,_=>none
theorem NE {y:T} {u:V} {k:Bool} (rx:Rp K H x v) (ry:Rp K H y u) (h:zc x y=some k):qqM v u=true/\decide (v=u)=k:=by
 cases rx<;>cases ry<;>simp [zc] at h<;>subst h<;>refine ⟨rfl,?_⟩<;>simp
def JO (neg:Bool):R3:=λx y G q=>match y with|.non=>q (.bl (match x with|.non=>!neg|_=>neg)) G|_=>False
theorem qfI (rx:Rp K H x v):decide (v=.non)=(match x with|.non=>true|_=>false):=by
 cases rx<;>simp
theorem XH:SA K (JO false) (λx y H Q=>y=.non/\Q (.bl (decide (x=.non))) H):=λx y v u G H q Q hr rx ry h af=>by
 cases y<;>try exact h.elim
 cases ry;refine ⟨rfl,?_⟩;rw [qfI rx];refine af _ G h _ H ?_ hr Kp.refl;cases x<;>exact .bl _
theorem qdO:SA K (JO true) (λx y H Q=>y=.non/\Q (.bl (!decide (x=.non))) H):=λx y v u G H q Q hr rx ry h af=>by
 cases y<;>try exact h.elim
 cases ry;refine ⟨rfl,?_⟩;rw [qfI rx];refine af _ G h _ H ?_ hr Kp.refl;cases x<;>exact .bl _
variable {tA tB:TT3} {jz:List Expr}
def V4 (t u:TT3):TT3:=λτ G q=>t τ G λk G1=>if k=true then u τ G1 q else q false G1
def or3 (t u:TT3):TT3:=λτ G q=>t τ G λk G1=>if k=true then q true G1 else u τ G1 q
def V1 (t:TT3):TT3:=λτ G q=>t τ G λk G1=>q (!k) G1
def zC (ta tb:TE3):TE3:=λτ G q=>ta τ G λx G1=>match x with|.bl k=>if k=true then tb τ G1 q else q (.bl false) G1|_=>False
def V5 (ta tb:TE3):TE3:=λτ G q=>ta τ G λx G1=>match x with|.bl k=>if k=true then q (.bl true) G1 else tb τ G1 q|_=>False
def zZ (ta:TE3):TE3:=λτ G q=>ta τ G λx G1=>match x with|.bl k=>q (.bl (!k)) G1|_=>False
def if3 (t:TT3) (ta tb:TE3):TE3:=λτ G q=>t τ G λk G1=>if k=true then ta τ G1 q else tb τ G1 q
variable {e:Expr} {es:List Expr} {te:TE3} {t:TA3}
def qw:TA3:=λ_ G q=>q [] G
def qe (ta:TE3) (tr:TA3):TA3:=λτ G q=>ta τ G λx G1=>tr τ G1 λxs G2=>q (x::xs) G2
def jv (t:TA3):TE3:=λτ G q=>t τ G λxs G1=>xs.length<=sizeLine/\q (.tup xs) G1
def ZD (t:TA3):TE3:=λτ G q=>t τ G λxs G1=>xs.length<=sizeLine/\∀ p,G1 p=none->q (.ref p) (gu G1 p (.lst xs))
def qaP (K:Frg) (r3:List T->Gp->Q3->Prop) (r:List V->Hp->VK->Prop):Prop:=∀ xs vs G H q Q,HR K G H->Rps K H xs vs->r3 xs G q->Aft K G H q Q->r vs H Q
def cb3 (r:List T->Gp->Q3->Prop) (t:TA3):TE3:=λτ G q=>t τ G λxs G1=>r xs G1 q
theorem qkD {r3:List T->Gp->Q3->Prop} {r:List V->Hp->VK->Prop} (hr:qaP K r3 r) (h:lE K (cb3 r3 t) σ H Q):tCB r (lA K t) σ H Q:=by
 obtain ⟨τ,G,q,rl,h,af⟩:=h;exact JZ rl h λxs G1 h1 vs H1 rs hr1 k1 rl1=>hr xs vs G1 H1 q Q hr1 rs h1 (af.back k1)
end
def getL (G:Gp) (p:Addr):Option (List T):=match G p with|some (.lst xs)=>some xs|some (.frz xs)=>some xs|_=>none
theorem zB (hr:HR K G H) (h:getL G p=some xs):∃ vs,SqL K H p vs/\Rps K H xs vs:=by
 unfold getL at h;split at h
 ·rename_i ys e;cases h;obtain ⟨vs,h1,h2⟩:=hr p _ e;exact ⟨vs,SqL.of h1,h2⟩
 ·rename_i ys e;cases h;obtain ⟨vs,⟨o,h1⟩,h2⟩:=hr p _ e;exact ⟨vs,.inl (.inr ⟨o,h1⟩),h2⟩
 ·cases h
theorem HR.lst (hr:HR K G H) (h:G p=some (.lst xs)):∃ vs,H p=some (.lst vs)/\Rps K H xs vs:=hr p _ h
theorem Rps.atI {i:Int} (r:Rps K H xs vs) (h:atI xs i=some x):∃ v,L2.atI vs i=some v/\Rp K H x v:=by
 unfold L2.atI at h ⊢;rw [← r.length];cases e:ixN xs.length i with
 |none=>rw [e] at h;cases h
 |some j=>
  rw [e] at h;exact r.get (by simpa using h)
def ix3:R3:=λx y G q=>match x,y with
 |.tup xs,.int i=>(match atI xs i with|some z=>q z G|none=>False)
 |.ref p,.int i=>(match getL G p with|some xs=>(match atI xs i with|some z=>q z G|none=>False)|none=>False)
 |_,_=>False
variable {b c:Expr} {es:List Expr} {ta tb tc te:TE3} {t:TA3} {pos:Pos} {α:Type}
section
variable {a:Expr}
theorem qnx:SA K ix3 (rIx K):=λx y v u G H q Q hr rx ry h af=>by
 cases x<;>try exact h.elim
 case tup xs=>
  cases y<;>try exact h.elim
  case int i=>
   unfold ix3 at h;simp only at h;split at h
   ·rename_i z e;cases ry;cases rx with
    |tup hs rs=>
     obtain ⟨w,e2,rw'⟩:=rs.atI e;exact .inr (.inl ⟨_,_,i,w,rfl,rfl,hs,e2,af z G h w H rw' hr Kp.refl⟩)
   ·exact h.elim
 case ref p=>
  cases y<;>try exact h.elim
  case int i=>
   unfold ix3 at h;simp only at h;split at h
   ·rename_i xs e0;split at h
    ·rename_i z e;cases ry;cases rx;obtain ⟨vs,hs,rs⟩:=zB hr e0;obtain ⟨w,e2,rw'⟩:=rs.atI e;exact .inl ⟨p,vs,i,w,rfl,rfl,hs,e2,af z G h w H rw' hr Kp.refl⟩
    ·exact h.elim
   ·exact h.elim
def QY (xs:List α) (lo hi:Option Int):List α:=(xs.drop (HT.sIx xs.length 0 lo)).take (HT.sIx xs.length xs.length hi-HT.sIx xs.length 0 lo)
theorem Rps.cut (r:Rps K H xs vs) (lo hi:Option Int):Rps K H (QY xs lo hi) (qe4 vs lo hi):=by
 unfold QY qe4;rw [r.length];exact (r.drop _).take _
abbrev TO3:=St3->Gp->(Option Int->Gp->Prop)->Prop
def lO (K:Frg) (t:TO3):TO:=λσ H Q=>∃ τ G q,Rel K τ G σ H/\t τ G q/\∀ x G',q x G'->∀ H',HR K G' H'->Kp G H G' H'->Q x H'
abbrev P3 (X:Cx) (e:Option Expr) (t:TO3):Prop:=PO X e (lO X.K t)
def np3:TO3:=λ_ G q=>q none G
def sp3 (t:TE3):TO3:=λτ G q=>t τ G λx G1=>match x with|.int i=>q (some i) G1|_=>False
theorem qrp {e:Option Expr} {t t':TO} (h:PO X e t) (w:∀ σ H Q,t' σ H Q->t σ H Q):PO X e t':=λpins s σ H Q I q=>h pins s σ H Q I (w σ H Q q)
def sl3:T->Option Int->Option Int->Gp->Q3->Prop:=λx lo hi G q=>match x with
 |.tup xs=>¬ (HT.sIx xs.length 0 lo=0/\HT.sIx xs.length xs.length hi=xs.length)/\q (.tup (QY xs lo hi)) G
 |.ref p=>(match getL G p with|some xs=>∀ a,G a=none->q (.ref a) (gu G a (.lst (QY xs lo hi)))|none=>False)
 |_=>False
def YS (te:TE3) (tl th:TO3):TE3:=λτ G q=>te τ G λx G1=>tl τ G1 λl G2=>th τ G2 λu G3=>sl3 x l u G3 q
theorem qbz (r:Rps K H xs vs):vs=[]↔xs=[]:=by
 cases r<;>simp
def zU:R3:=λx y G q=>match x,y with
 |.tup xs,.tup ys=>xs≠[]/\xs.length+ys.length<=sizeLine/\q (.tup (xs++ys)) G
 |.ref a,.ref b=>(match G a,G b with|some (.lst xs),some (.lst ys)=>xs.length+ys.length<=sizeLine/\∀ p,G p=none->q (.ref p) (gu G p (.lst (xs++ys)))|_,_=>False)
 |.int i,.int j=>q (.int (i+j)) G
 |_,_=>False
theorem qi5:SA K zU (λx y H Q=>(rI0 (λi j=>.int (i+j)) x y H Q\/qkh K x y H Q)\/qrq x y H Q):=λx y v u G H q Q hr rx ry h af=>by
 cases x<;>try exact h.elim
 case int i=>
  cases y<;>try exact h.elim
  cases rx;cases ry;exact .inl (.inl ⟨_,_,rfl,rfl,af _ G h _ H (.int _) hr Kp.refl⟩)
 case tup xs=>
  cases y<;>try exact h.elim
  case tup ys=>
   obtain ⟨h1,h2,h3⟩:=h;cases rx with
   |tup hs rs=>
    cases ry with
    |tup hs' rs'=>
     refine .inl (.inr ⟨_,_,_,_,rfl,rfl,hs,hs',λz=>h1 ((qbz rs).mp z),by rw [← rs.length,← rs'.length];exact h2,λz=>?_,λz p hp=>?_⟩)
     ·have e:=(qbz rs').mp z;subst e;rw [zh0] at h3;exact af _ G h3 _ H (.tup hs rs) hr Kp.refl
     ·exact af _ G h3 _ _ (.tup (SqT.of zn) ((rs.append rs').keep hr (Kp.laid hp))) (hr.laid hp) (Kp.laid hp)
 case ref a=>
  cases y<;>try exact h.elim
  case ref b=>
   unfold zU at h;simp only at h;split at h
   ·rename_i xs ys e1 e2;cases rx;cases ry;obtain ⟨vs,g1,r1⟩:=hr.lst e1;obtain ⟨us,g2,r2⟩:=hr.lst e2;refine .inr ⟨a,b,vs,us,rfl,rfl,g1,g2,by rw [← r1.length,← r2.length];exact h.1,λp hp=>?_⟩;exact af _ _ (h.2 p (hr.free hp)) _ _ (.ref p) (hr.newL hp (r1.append r2)) (Kp.newL hp)
   ·exact h.elim
def zm:T->Bool
 |.non=>true|.bl _=>true|.int _=>true|.str _=>true|_=>false
def eqF:T->T->Bool
 |.non,.non=>true
 |.bl a,.bl b=>a==b
 |.bl a,.int b=>(if a then 1 else 0)==b
 |.int a,.bl b=>a==(if b then 1 else 0)
 |.int a,.int b=>a==b
 |.str a,.str b=>a==b
 |_,_=>false
theorem LZ (r:Rp K H x v) (h:zm x=true):CG v=true:=by
 cases r<;>first|rfl|(cases h)
theorem S6 {K:Frg} {H:Hp}:∀ {x:List T} {v:List V},Rps K H x v->x.all zm=true->v.all CG=true
 |_,_,.nil,_=>rfl
 |_,_,.cons a b,h=>by
  rw [zn1,zf9] at h ⊢;exact ⟨LZ a h.1,S6 b h.2⟩
theorem qoj {y:T} {u:V} (r:Rp K H x v) (s:Rp K H y u) (h:zm x=true) (h':zm y=true):eqV v u=eqF x y:=by
 cases r<;>first|(cases h;done)|(cases s<;>first|rfl|(cases h';done))
theorem qcF {K:Frg} {H:Hp} {x:T} {v:V} (r:Rp K H x v) (h:zm x=true):∀ {ys:List T} {us:List V},Rps K H ys us->ys.all zm=true->inV v us=ys.any λy=>eqF y x
 |_,_,.nil,_=>rfl
 |_,_,.cons a b,h'=>by
  rw [zn1,zf9] at h';unfold inV;rw [xf2,xf2,qoj a r h'.1 h];congr 1;exact qcF r h b h'.2
def in3 (neg:Bool):R3:=λx y G q=>zm x=true/\match y with
 |.tup ys=>ys.all zm=true/\q (.bl (if neg then !(ys.any λy=>eqF y x) else (ys.any λy=>eqF y x))) G
 |.ref p=>(match getL G p with|some ys=>ys.all zm=true/\q (.bl (if neg then !(ys.any λy=>eqF y x) else (ys.any λy=>eqF y x))) G|none=>False)
 |_=>False
theorem qe3 {neg:Bool}:SA K (in3 neg) (rIn K neg):=λx y v u G H q Q hr rx ry h af=>by
 obtain ⟨hf,h⟩:=h;cases y<;>try exact h.elim
 case tup ys=>
  cases ry with
  |tup hs rs=>
   refine ⟨_,_,rfl,.inr hs,LZ rx hf,S6 rs h.1,?_⟩;rw [qcF rx hf rs h.1];exact af _ G h.2 _ H (.bl _) hr Kp.refl
 case ref p=>
  simp only at h;split at h
  ·rename_i ys e;cases ry;obtain ⟨us,hs,rs⟩:=zB hr e;refine ⟨_,_,rfl,.inl hs,LZ rx hf,S6 rs h.1,?_⟩;rw [qcF rx hf rs h.1];exact af _ G h.2 _ H (.bl _) hr Kp.refl
  ·exact h.elim
def jV:List T->Gp->Q3->Prop:=λxs G q=>match xs with
 |[.tup ys]=>q (.int ys.length) G
 |[.str y]=>y.length<=sizeLine/\q (.int y.length) G
 |[.ref p]=>(match getL G p with|some ys=>q (.int ys.length) G|none=>False)
 |_=>False
theorem LC (r:Rps K H [x] vs):∃ v,vs=[v]/\Rp K H x v:=by
 cases r with
 |cons a b=>cases b;exact ⟨_,rfl,a⟩
theorem qpA {y:T} (r:Rps K H [x,y] vs):∃ v u,vs=[v,u]/\Rp K H x v/\Rp K H y u:=by
 cases r with
 |cons a b=>cases b with|cons c d=>cases d;exact ⟨_,_,rfl,a,c⟩
theorem q0:qaP K jV (λxs H Q=>∃ x n,xs=[x]/\qq2 K x H n/\Q (.int n) H):=λxs vs G H q Q hr rs h af=>by
 unfold jV at h;split at h
 ·obtain ⟨v,rfl,r⟩:=LC rs;cases r with
  |tup hs r2=>exact ⟨_,_,rfl,.inr ⟨_,hs,rfl⟩,by rw [← r2.length];exact af _ G h _ H (.int _) hr Kp.refl⟩
 ·obtain ⟨v,rfl,r⟩:=LC rs;cases r;exact ⟨_,_,rfl,⟨h.1,rfl⟩,af _ G h.2 _ H (.int _) hr Kp.refl⟩
 ·obtain ⟨v,rfl,r⟩:=LC rs;split at h
  ·rename_i ys e;cases r;obtain ⟨us,hs,r2⟩:=zB hr e;exact ⟨_,_,rfl,.inl ⟨_,hs,rfl⟩,by rw [← r2.length];exact af _ G h _ H (.int _) hr Kp.refl⟩
  ·exact h.elim
 ·exact h.elim
def YT:List T->Gp->Q3->Prop:=λxs G q=>match xs with|[.int i]=>q (.int (if i<0 then -i else i)) G|_=>False
theorem qc6:qaP K YT (λxs H Q=>∃ i,xs=[.int i]/\Q (.int (if i<0 then -i else i)) H):=λxs vs G H q Q hr rs h af=>by
 unfold YT at h;split at h
 ·obtain ⟨v,rfl,r⟩:=LC rs;cases r;exact ⟨_,rfl,af _ G h _ H (.int _) hr Kp.refl⟩
 ·exact h.elim
def YZ:List T->Gp->Q3->Prop:=λxs G q=>match xs with|[.int i,.int j]=>q (.int (if j<i then j else i)) G|_=>False
theorem qj4:qaP K YZ (λxs H Q=>∃ i j,xs=[.int i,.int j]/\Q (.int (if j<i then j else i)) H):=λxs vs G H q Q hr rs h af=>by
 unfold YZ at h;split at h
 ·obtain ⟨v,u,rfl,r,r'⟩:=qpA rs;cases r;cases r';exact ⟨_,_,rfl,af _ G h _ H (.int _) hr Kp.refl⟩
 ·exact h.elim
def U0:List T->Gp->Q3->Prop:=λxs G q=>match xs with|[.int i,.int j]=>q (.int (if j > i then j else i)) G|_=>False
def U2:List T->Gp->Q3->Prop:=λxs G q=>match xs with|[.int i]=>q (.int i) G|[.bl k]=>q (.int (if k then 1 else 0)) G|_=>False
def qM:List T->Gp->Q3->Prop:=λxs G q=>match xs with
 |[.tup ys]=>q (.tup ys) G
 |[.ref p]=>(match getL G p with|some ys=>q (.tup ys) G|none=>False)
 |_=>False
theorem jg:qaP K qM (λxs H Q=>∃ p ys,xs=[.ref p]/\((SqL K H p ys/\∀ l,H l=none->Q (.ref l) (upd H l (.tup ys)))\/(SqT K H p ys/\Q (.ref p) H))):=λxs vs G H q Q hr rs h af=>by
 unfold qM at h;split at h
 ·obtain ⟨v,rfl,r⟩:=LC rs;cases r with
  |tup hs r2=>exact ⟨_,_,rfl,.inr ⟨hs,af _ G h _ H (.tup hs r2) hr Kp.refl⟩⟩
 ·obtain ⟨v,rfl,r⟩:=LC rs;split at h
  ·rename_i ys e;cases r;obtain ⟨us,hs,r2⟩:=zB hr e;exact ⟨_,_,rfl,.inl ⟨hs,λl hl=>af _ G h _ _ (.tup (SqT.of zn) (r2.keep hr (Kp.laid hl))) (hr.laid hl) (Kp.laid hl)⟩⟩
  ·exact h.elim
 ·exact h.elim
def zS:List T->Gp->Q3->Prop:=λxs G q=>match xs with
 |[.tup ys]=>∀ p,G p=none->q (.ref p) (gu G p (.lst ys))
 |[.ref p]=>(match getL G p with|some ys=>∀ p,G p=none->q (.ref p) (gu G p (.lst ys))|none=>False)
 |_=>False
theorem N5:qaP K zS (λxs H Q=>∃ p ys,xs=[.ref p]/\(SqL K H p ys\/SqT K H p ys)/\∀ l,H l=none->Q (.ref l) (upd H l (.lst ys))):=λxs vs G H q Q hr rs h af=>by
 unfold zS at h;split at h
 ·obtain ⟨v,rfl,r⟩:=LC rs;cases r with
  |tup hs r2=>exact ⟨_,_,rfl,.inr hs,λl hl=>af _ _ (h l (hr.free hl)) _ _ (.ref l) (hr.newL hl r2) (Kp.newL hl)⟩
 ·obtain ⟨v,rfl,r⟩:=LC rs;split at h
  ·rename_i ys e;cases r;obtain ⟨us,hs,r2⟩:=zB hr e;exact ⟨_,_,rfl,.inl hs,λl hl=>af _ _ (h l (hr.free hl)) _ _ (.ref l) (hr.newL hl r2) (Kp.newL hl)⟩
  ·exact h.elim
 ·exact h.elim
def YQ:T->List T->Gp->Q3->Prop:=λx xs G q=>match x,xs with
 |.ref l,[.ref b]=>(match G l,G b with|some (.lst ys),some (.lst zs)=>ys.length+zs.length<=sizeLine/\q .non (gu G l (.lst (ys++zs)))|_,_=>False)
 |_,_=>False
def JK:T->List T->Gp->Q3->Prop:=λx xs G q=>match x,xs with
 |.ref l,[y]=>(match G l with|some (.lst ys)=>ys.length<sizeLine/\q .non (gu G l (.lst (ys++[y])))|_=>False)
 |_,_=>False
def qqv (K:Frg) (r3:T->List T->Gp->Q3->Prop) (r:V->List V->Hp->VK->Prop):Prop:=∀ x xs v vs G H q Q,HR K G H->Rp K H x v->Rps K H xs vs->r3 x xs G q->Aft K G H q Q->r v vs H Q
theorem qh0:qqv K YQ qbD:=λx xs v vs G H q Q hr rx rs h af=>by
 unfold YQ at h;split at h
 ·rename_i l b;split at h
  ·rename_i ys zs e1 e2;cases rx;obtain ⟨u,rfl,r⟩:=LC rs;cases r;obtain ⟨vs,g1,r1⟩:=hr.lst e1;obtain ⟨us,g2,r2⟩:=hr.lst e2;exact ⟨l,b,vs,us,rfl,rfl,g1,g2,by rw [← r1.length,← r2.length];exact h.1,af _ _ h.2 _ _ .non (hr.wr e1 (r1.append r2)) (Kp.wr e1)⟩
  ·exact h.elim
 ·exact h.elim
theorem qjx:qqv K JK qdp:=λx xs v vs G H q Q hr rx rs h af=>by
 unfold JK at h;split at h
 ·rename_i l y;split at h
  ·rename_i ys e1;cases rx;obtain ⟨u,rfl,r⟩:=LC rs;obtain ⟨vs,g1,r1⟩:=hr.lst e1;exact ⟨l,vs,u,rfl,rfl,g1,by rw [← r1.length];exact h.1,af _ _ h.2 _ _ .non (hr.wr e1 (r1.append (.cons r .nil))) (Kp.wr e1)⟩
  ·exact h.elim
 ·exact h.elim
def bm3 (r:T->List T->Gp->Q3->Prop) (to:TE3) (t:TA3):TE3:=λτ G q=>to τ G λx G1=>(match x with|.ref p=>(getL G1 p).isSome=true|_=>False)/\t τ G1 λxs G2=>r x xs G2 q
theorem qrE {o:Expr} {to:TE3} {name:Str} {apos cpos:Pos} {id:String} {r3:T->List T->Gp->Q3->Prop} {r:V->List V->Hp->VK->Prop} (slot:Slot "list" name id) (hty:typeOf (.builtin id)=pure (.type "method_descriptor")) (hm:MtR X id r) (hr:qqv X.K r3 r) (ho:E3 X o to) (ha:A3 X (e::es) t)
  (hbase:autoParam (attributeBase o name X.env (eval o X.env)=eval o X.env) zA0._auto_1)
  (hfew:autoParam (((zn3 cpos (ze0 (e::es) X.env)).all (λx=>!x.1)&&(backToKw cpos (keywordEach [] X.env)).all (λx=>x.1.isSome)
   && decide ((e::es).length+([]:List Keyword).length+(if ([]:List Keyword).isEmpty then 0 else 1)<30))=true) zA0._auto_1)
  (hline:autoParam ((apos.endLine==cpos.line)=true) zA0._auto_1) (hs:autoParam (ze0 (e::es) X.env=(false,eval e X.env)::ze0 es X.env) zA0._auto_1) (hplain:autoParam ((zn3 cpos (ze0 es X.env)).any (·.1)=false) zA0._auto_1) :
  E3 X (.Call (.Attribute o name apos) (e::es) [] cpos) (bm3 r3 to t):=
 D0 (qqS PySem.F.plainAttrs_list slot hty hm ho ha hbase hfew hline hs hplain) λ_ _ _ ⟨τ,G,q,rl,h,af⟩=>ze rl h λx G1 h1 v H1 rx hr1 k1 rl1=>by
  obtain ⟨hp,h1⟩:=h1;cases x<;>try exact hp.elim
  case ref p=>
   cases rx;have hp':(getL G1 p).isSome=true:=hp;obtain ⟨ys,e⟩:=xf1.mp hp';obtain ⟨us,hs,r2⟩:=zB hr1 e;exact ⟨.inl ⟨rfl,us,hs⟩,JZ rl1 h1 λxs G2 h2 vs H2 rs hr2 k2 rl2=>hr _ xs _ vs G2 H2 q _ hr2 (.ref p) rs h2 (af.back (k1.trans k2))⟩
end
def tyT (G:Gp):T->Option String
 |.non=>some "NoneType" |.bl _=>some "bool" |.int _=>some "int" |.str _=>some "str" |.tup _=>some "tuple"
 |.ref p=>if (getL G p).isSome then some "list" else none
def zY (t c:String):Bool:=t==c||(t == "bool" && c == "int")
theorem RM (K:Frg):∀ t∈["NoneType","bool","int","str","tuple","list"],∀ c∈["bool","int","str","tuple","list"],PySem.W.kitOne K (.type t) (.type c)=some (zY t c):=by
 intro t ht c hc;simp only [ze9,zf0,or_false] at ht hc;rcases ht with rfl|rfl|rfl|rfl|rfl|rfl<;>rcases hc with rfl|rfl|rfl|rfl|rfl<;>kernel_rfl
variable {pins:List (Addr×Obj)} {s:Shared}
section
variable {X:Cx} {a b c e:Expr} {es:List Expr} {ta tb tc te:TE3} {t:TA3} {pos:Pos}
def TyS (K:Frg) (H:Hp) (x:V) (t:String):Prop:=match x with
 |.non=>t="NoneType" |.bl _=>t="bool" |.int _=>t="int" |.str _=>t="str"
 |.ref a=>(t="tuple"/\∃ vs,SqT K H a vs)\/(t="list"/\∃ vs,SqL K H a vs)
 |_=>False
theorem TyS.mem {x:V} {t:String} (h:TyS K H x t):t∈["NoneType","bool","int","str","tuple","list"]:=by
 cases x<;>simp [TyS] at h<;>first|(subst h;decide)|(rcases h with ⟨rfl,_⟩|⟨rfl,_⟩<;>decide)
theorem TyS.kitx {x:V} {u:Value} {t:String} (I:Inv X pins σ H s) (rx:zK x u) (h:TyS X.K H x t) :
  ∃ HH:Heap->Prop,PySem.W.KitX X.K u (.type t) HH/\HH s.heap/\u≠.builtin "__main__.__loader__#opaque" := by
 cases x with
 |non=>cases (show u=Value.none from rx);cases (show t=_ from h);exact ⟨_,PySem.W.kitx_none,True.intro,λz=>nomatch z⟩
 |bl y=>cases (show u=Value.bool y from rx);cases (show t=_ from h);exact ⟨_,PySem.W.kitx_bool,True.intro,λz=>nomatch z⟩
 |int i=>obtain ⟨tk,q⟩:=(show ∃ t,u=Value.int i t from rx);cases q;cases (show t=_ from h);exact ⟨_,PySem.W.kitx_int,True.intro,λz=>nomatch z⟩
 |str y=>obtain ⟨tk,q⟩:=(show ∃ t,u=Value.str y t from rx);cases q;cases (show t=_ from h);exact ⟨_,PySem.W.kitx_str,True.intro,λz=>nomatch z⟩
 |ref a=>
  cases (show u=Value.ref a from rx);rcases (show (t="tuple"/\∃ vs,SqT X.K H a vs)\/(t="list"/\∃ vs,SqL X.K H a vs) from h) with ⟨rfl,vs,hs⟩|⟨rfl,vs,hs⟩
  ·obtain ⟨its,_,p,_⟩:=I.tuple hs;obtain ⟨o,h1,h2,_⟩:=p;exact ⟨_,PySem.W.kitx_tuple,⟨o,h1,h2⟩,λz=>nomatch z⟩
  ·obtain ⟨its,_,p,_⟩:=I.list hs;obtain ⟨o,n,h1,h2,_⟩:=p;exact ⟨_,PySem.W.kitx_list,⟨o,h1,h2⟩,λz=>nomatch z⟩
 |_=>exact False.elim h
abbrev JV:List String:=["bool","int","str","tuple","list"]
theorem qdA:JW X (.builtin "isinstance") (λxs H Q=>∃ x t c,xs=[x,.ty c]/\TyS X.K H x t/\c∈JV/\Q (.bl (zY t c)) H):=by
 intro pins s σ H xs us Q I r h;obtain ⟨x,t,c,rfl,ht,hc,q⟩:=h;obtain ⟨u,w,rfl,rx,rc⟩:=qcN r;cases (show w=Value.type c from rc);obtain ⟨HH,kx,hh,ne⟩:=ht.kitx I rx;exact PySem.W.kia_one kx I.kIn hh (RM X.K t ht.mem c hc) ne λtk=>⟨.bl _,H,I.tok tk,rfl,q⟩
theorem qeJ (K:Frg) {t c d:String} (ht:t∈["NoneType","bool","int","str","tuple","list"]) (hc:c∈JV) (hd:d∈JV):xm8 K (.type t) [.type c,.type d]=some (zY t c||zY t d):=by
 unfold xm8;rw [RM K t ht c hc];cases zY t c with
 |true=>rfl
 |false=>
  show xm8 K (.type t) [.type d]=_;unfold xm8;rw [RM K t ht d hd];cases zY t d<;>rfl
theorem qbA:JW X (.builtin "isinstance") (λxs H Q=>∃ x t c d p,xs=[x,.ref p]/\H p=some (.tup [.ty c,.ty d])/\TyS X.K H x t/\c∈JV/\d∈JV/\Q (.bl (zY t c||zY t d)) H):=by
 intro pins s σ H xs us Q I r h;obtain ⟨x,t,c,d,p,rfl,hp,ht,hc,hd,q⟩:=h;obtain ⟨u,w,rfl,rx,rc⟩:=qcN r;cases (show w=Value.ref p from rc);obtain ⟨HH,kx,hh,ne⟩:=ht.kitx I rx;obtain ⟨_,its,rv,⟨o,ho,hcl,n,hda,_⟩⟩:=(show JF X.prog X.w H s.heap p (.tup [.ty c,.ty d]) from I.hok p _ hp)
 obtain ⟨u1,u2,rfl,r1,r2⟩:=qcN rv;cases (show u1=Value.type c from r1);cases (show u2=Value.type d from r2);obtain ⟨cl,dd,da,sl⟩:=o;cases (show cl=_ from hcl);cases (show da=_ from hda);exact PySem.W.kia_tup kx I.kIn hh ho (qeJ X.K ht.mem hc hd) ne λtk=>⟨.bl _,H,I.tok tk,rfl,q⟩
theorem qe6 (hr:HR K G H) {t:String} (r:Rp K H x v) (h:tyT G x=some t):TyS K H v t:=by
 cases r with
 |non=>cases h;rfl
 |bl _=>cases h;rfl
 |int _=>cases h;rfl
 |str _=>cases h;rfl
 |tup hs rs=>cases h;exact .inl ⟨rfl,_,hs⟩
 |ref a=>
  have h:(if (getL G a).isSome then some "list" else none)=some t:=h;split at h
  ·rename_i e;cases h;obtain ⟨ys,e⟩:=xf1.mp e;obtain ⟨us,hs,_⟩:=zB hr e;exact .inr ⟨rfl,us,hs⟩
  ·cases h
def QM (f:String->Bool) (te:TE3):TE3:=λτ G q=>te τ G λx G1=>match tyT G1 x with|some t=>q (.bl (f t)) G1|none=>False
structure Ends3 where
 nx:St3->Gp->Prop
 rt:Q3
 bk:St3->Gp->Prop:=λ_ _=>False
 ct:St3->Gp->Prop:=λ_ _=>False
abbrev TS3:=Ends3->St3->Gp->Prop
def qhU (K:Frg) (G:Gp) (H:Hp) (q:St3->Gp->Prop) (Q:L2.St->Hp->Prop):Prop:=∀ τ G',q τ G'->∀ σ H',Rel K τ G' σ H'->Kp G H G' H'->Q σ H'
structure AftD (K:Frg) (G:Gp) (H:Hp) (d:Ends3) (D:Ends):Prop where
 nx:qhU K G H d.nx D.nx
 rt:Aft K G H d.rt D.rt
 bk:qhU K G H d.bk D.bk
 ct:qhU K G H d.ct D.ct
theorem qhU.back {q:St3->Gp->Prop} {Q:L2.St->Hp->Prop} (a:qhU K G H q Q) (k:Kp G H G1 H1):qhU K G1 H1 q Q:=λx G' h v H' r k'=>a x G' h v H' r (k.trans k')
theorem AftD.back {d:Ends3} {D:Ends} (a:AftD K G H d D) (k:Kp G H G1 H1):AftD K G1 H1 d D:=⟨a.nx.back k,a.rt.back k,a.bk.back k,a.ct.back k⟩
def lS (K:Frg) (t:TS3):TS:=λD σ H=>∃ τ G d,Rel K τ G σ H/\t d τ G/\AftD K G H d D
abbrev S3 (X:Cx) (st:Stmt) (t:TS3):Prop:=PS X st (lS X.K t)
abbrev B3 (X:Cx) (st:List Stmt) (t:TS3):Prop:=PSs X st (lS X.K t)
theorem qaO {st:Stmt} {t t':TS} (h:PS X st t) (w:∀ D σ H,t' D σ H->t D σ H):PS X st t':=λpins s σ H D I q=>h pins s σ H D I (w D σ H q)
theorem qkz {st:List Stmt} {t t':TS} (h:PSs X st t) (w:∀ D σ H,t' D σ H->t D σ H):PSs X st t':=λpins s σ H D I q=>h pins s σ H D I (w D σ H q)
variable {st:Stmt} {jz:List Stmt} {t1 t2:TS3} {tA:TT3}
def qE:TS3:=λd τ G=>d.nx τ G
def qS (t u:TS3):TS3:=λd τ G=>t { d with nx:=u d } τ G
def zN (te:TE3):TS3:=λd τ G=>te τ G λ_ G1=>d.nx τ G1
def zg (te:TE3):TS3:=λd τ G=>te τ G d.rt
def jt:TS3:=λd _ G=>d.rt .non G
def zD (c:TT3) (t u:TS3):TS3:=λd τ G=>c τ G λk G1=>if k=true then t d τ G1 else u d τ G1
def V3:TS3:=λ_ _ _=>False
abbrev TG3:=T->St3->Gp->(St3->Gp->Prop)->Prop
abbrev M0:=List T->St3->Gp->(St3->Gp->Prop)->Prop
def lG (K:Frg) (t:TG3):TG:=λv σ H Q=>∃ x τ G q,Rp K H x v/\Rel K τ G σ H/\t x τ G q/\qhU K G H q Q
def lGs (K:Frg) (t:M0):TGs:=λv σ H Q=>∃ x τ G q,Rps K H x v/\Rel K τ G σ H/\t x τ G q/\qhU K G H q Q
abbrev G3 (X:Cx) (e:Expr) (t:TG3):Prop:=PG X e (lG X.K t)
abbrev Gs3 (X:Cx) (es:List Expr) (t:M0):Prop:=PGs X es (lGs X.K t)
theorem qpT {t t':TG} (h:PG X e t) (w:∀ v σ H Q,t' v σ H Q->t v σ H Q):PG X e t':=λpins s σ H v u Q I r q=>h pins s σ H v u Q I r (w v σ H Q q)
theorem qmR {e:List Expr} {t t':TGs} (h:PGs X e t) (w:∀ v σ H Q,t' v σ H Q->t v σ H Q):PGs X e t':=λpins s σ H v u Q I r q=>h pins s σ H v u Q I r (w v σ H Q q)
def gn3 (i:Nat):TG3:=λx τ G q=>q (τ.set i (some x)) G
def za:M0:=λxs τ G q=>match xs with|[]=>q τ G|_=>False
def qr (t:TG3) (u:M0):M0:=λxs τ G q=>match xs with|x::r=>t x τ G λτ' G'=>u r τ' G' q|[]=>False
def zd (n:Nat) (t:M0):TG3:=λx τ G q=>match x with|.tup xs=>xs.length=n/\t xs τ G q|_=>False
def Q5:T->T->T->Gp->(Gp->Prop)->Prop:=λo i v G q=>match o,i with
 |.ref p,.int k=>(match G p with|some (.lst xs)=>(match ixN xs.length k with|some j=>q (gu G p (.lst (xs.set j v)))|none=>False)|_=>False)
 |_,_=>False
def zG (to ti:TE3):TG3:=λx τ G q=>to τ G λo G1=>ti τ G1 λi G2=>Q5 o i x G2 λG3=>q τ G3
def zl (te:TE3) (g:TG3):TS3:=λd τ G=>te τ G λx G1=>g x τ G1 d.nx
def JC (i j:Nat) (ta:TA3):TS3:=λd τ G=>ta τ G λxs G1=>match xs with|[x,y]=>d.nx ((τ.set i (some x)).set j (some y)) G1|_=>False
end
abbrev TI3:=St3->Gp->(List T->(Gp->Prop)->Gp->Prop)->Prop
def qka (K:Frg) (J:It) (items:List T) (stay:Gp->Prop) (G0:Gp) (H0:Hp):Prop:=∀ G H,HR K G H->Kp G0 H0 G H->stay G ->
 (∀ i x,items[i]?=some x->J.go i H)/\(∀ i x v H',items[i]?=some x->J.yld i H v H'->Rp K H' x v/\HR K G H'/\Kp G H G H')/\J.stop items.length H
def lI (K:Frg) (wi:TI3):TI:=λσ H R=>∃ τ G r,Rel K τ G σ H/\wi τ G r/\∀ items stay G',r items stay G'->∀ J H',HR K G' H'->Kp G H G' H'->qka K J items stay G' H'->R J H'
abbrev I3 (X:Cx) (tg iter:Expr) (wi:TI3):Prop:=PI X tg iter (lI X.K wi)
variable {tg:Expr}
theorem qmW {t t':TI} (h:PI X tg e t) (w:∀ σ H R,t' σ H R->t σ H R):PI X tg e t':=λpins s σ H R I q=>h pins s σ H R I (w σ H R q)
variable {l:Expr} {G0:Gp} {H0:Hp} {P:Program} {w:World} {mg:Str->Option Value} {j:Nat} {N:List Str} {A:Around}
section
variable {a:Expr}
theorem qoh {tl:TE} (hl:PE X l tl):PI X tg l (λσ H R=>tl σ H λx H1=>∃ a,x=.ref a/\(((∃ xs,SqL X.K H1 a xs)/\R (Itl X.K a) H1)\/((∃ xs,SqT X.K H1 a xs)/\R (Itt X.K a) H1))):=by
 intro pins s σ H R I h;refine thn (hl pins s σ H _ I h) λv s1 ⟨x,H1,I1,r1,q1⟩=>?_;obtain ⟨a,e,⟨⟨xs,hq⟩,q⟩|⟨⟨xs,hq⟩,q⟩⟩:=q1
 ·subst e;cases r1;obtain ⟨its,rv,p,hz⟩:=I1.list hq;refine xa8 p.isList ?_;refine ⟨s1.heap.objs.size,[s1.heap.objs.size],_,_,H1,rfl,I1.kept (t':=s1.toks) λb o e=>v5 _ e,qcg a _,⟨_,v6 _ rfl,rfl,rfl⟩,λb hb=>?_,q⟩;have e:b=s1.heap.objs.size:=by simpa using hb
  subst e;exact I1.fpOk (u9 _) (I1.hok.fresh (u9 _))
 ·subst e;cases r1;obtain ⟨its,rv,p,hz⟩:=I1.tuple hq;refine wpAny_pyIter_tuple (show s1.heap.IsTuple a its.toArray from p) ?_;refine ⟨s1.heap.objs.size,[s1.heap.objs.size],_,_,H1,rfl,I1.kept (t':=s1.toks) λb o e=>v5 _ e,qaf a _,⟨_,v6 _ rfl,rfl,rfl⟩,λb hb=>?_,q⟩;have e:b=s1.heap.objs.size:=by simpa using hb
  subst e;exact I1.fpOk (u9 _) (I1.hok.fresh (u9 _))
def qdR (tl:TE3):TI3:=λτ G r=>tl τ G λx G1=>match x with
 |.tup xs=>r xs (λ_=>True) G1
 |.ref p=>(match getL G1 p with|some xs=>r xs (λG=>getL G p=some xs) G1|none=>False)
 |_=>False
theorem qmv:qka K (Itl K p) xs (λG=>getL G p=some xs) G0 H0:=by
 intro G H hr _ hs;obtain ⟨vs,sq,rs⟩:=zB hr hs;refine ⟨λi x hi=>?_,λi x v H' hi y=>?_,⟨vs,sq,by rw [rs.length];exact u9 _⟩⟩
 ·obtain ⟨v,hv,_⟩:=rs.get hi;exact ⟨vs,v,sq,hv⟩
 ·obtain ⟨e,y⟩:=y;subst e;obtain ⟨w,hw,rw'⟩:=rs.get hi;have e2:=(y vs sq).symm.trans hw;cases e2;exact ⟨rw',hr,Kp.refl⟩
theorem qlT (hr0:HR K G0 H0) (sq0:SqT K H0 p vs) (rs0:Rps K H0 xs vs):qka K (Itt K p) xs (λ_=>True) G0 H0:=by
 intro G H hr k _;have sq:=SZ hr0 k sq0;have rs:=rs0.keep hr0 k;refine ⟨λi x hi=>?_,λi x v H' hi y=>?_,⟨vs,sq,by rw [rs.length];exact u9 _⟩⟩
 ·obtain ⟨v,hv,_⟩:=rs.get hi;exact ⟨vs,v,sq,hv⟩
 ·obtain ⟨e,y⟩:=y;subst e;obtain ⟨w,hw,rw'⟩:=rs.get hi;have e2:=(y vs sq).symm.trans hw;cases e2;exact ⟨rw',hr,Kp.refl⟩
def N7 (lo:Int) (n:Nat):List T:=(zg5 n).map λ(i:Nat)=>T.int (lo+(i:Int))
theorem qgP {lo:Int} {n:Nat} :qka K (Itr lo n) (N7 lo n) (λ_=>True) G0 H0:=by
 intro G H hr k _;have hl:(N7 lo n).length=n:=by simp [N7]
 refine ⟨λi x hi=>?_,λi x v H' hi y=>?_,(show n<=(N7 lo n).length by rw [hl];exact u9 n)⟩
 ·have:=(zb6 hi).1;rw [hl] at this;exact this
 ·obtain ⟨e,y⟩:=y;subst e;subst y;have h1:=(zb6 hi).1;rw [hl] at h1;unfold N7 at hi;rw [ze5,xk8 h1] at hi;have e:T.int (lo+(i:Int))=x:=by simpa using hi
  subst e;exact ⟨.int _,hr,Kp.refl⟩
def QW (ta:TA3):TI3:=λτ G r=>ta τ G λxs G1=>match xs with
 |[.int j]=>(-(2 ^ 62)<=j/\j<2 ^ 62)/\r (N7 0 j.toNat) (λ_=>True) G1
 |[.int i,.int j]=>(-(2 ^ 62)<=i/\i<2 ^ 62/\-(2 ^ 62)<=j/\j<2 ^ 62)/\r (N7 i (j-i).toNat) (λ_=>True) G1
 |_=>False
def S0 (stay:Gp->Prop) (g:TG3) (tb:TS3) (d:Ends3):List T->St3->Gp->Prop
 |[],τ,G=>stay G/\d.nx τ G
 |x::r,τ,G=>stay G/\g x τ G λτ2 G2=>tb { d with nx:=S0 stay g tb d r,ct:=S0 stay g tb d r,bk:=d.nx } τ2 G2
def qcY (wi:TI3) (g:TG3) (tb:TS3):TS3:=λd τ G=>wi τ G λitems stay G1=>S0 stay g tb d items τ G1
theorem XU {stay:Gp->Prop} {g:TG3} {tb:TS3} {d:Ends3} (items:List T) (Pv:Nat->St3->Gp->Prop) {τ:St3} {G:Gp} (h0:Pv 0 τ G) (hst:∀ i τ G,i<=items.length->Pv i τ G->stay G)
  (hs:∀ i x τ G (nx:St3->Gp->Prop),items[i]?=some x->Pv i τ G->(∀ τ G,Pv (i+1) τ G->nx τ G)->g x τ G λτ2 G2=>tb { d with nx:=nx,ct:=nx,bk:=d.nx } τ2 G2)
  (hd:∀ τ G,Pv items.length τ G->d.nx τ G):S0 stay g tb d items τ G:=by
 have key:∀ (r:List T) (i:Nat) τ G,items.drop i=r->i<=items.length->Pv i τ G->S0 stay g tb d r τ G:=by
  intro r;induction r with
  |nil=>
   intro i τ G e hi p;have:i=items.length:=by have:=congrArg List.length e;simp at this;omega
   subst this;exact ⟨hst _ τ G hi p,hd τ G p⟩
  |cons x r ih=>
   intro i τ G e hi p;have hl:i<items.length:=by
    apply xe6;intro z;rw [List.drop_eq_nil_of_le (by omega)] at e;cases e
   have e':=zf6 hl;rw [e] at e';injection e' with e1 e2;refine ⟨hst i τ G hi p,hs i x τ G _ (by rw [u7 hl,e1]) p λτ2 G2 p2=>ih (i+1) τ2 G2 e2.symm hl p2⟩
 exact key items 0 τ G (by simp) (zj1 _) h0
def CL (c:TT3) (tb:TS3):TS3:=λd τ G=>∃ W:Nat->St3->Gp->Prop,(∃ m,W m τ G)/\∀ m τ G,W m τ G ->
 c τ G λb G1=>if b=true then ∃ N:St3->Gp->Prop,(∀ τ' G',N τ' G'->∃ m',m'<m/\W m' τ' G')/\tb { d with nx:=N,ct:=N,bk:=d.nx } τ G1 else d.nx τ G1
abbrev Sp3:=List T->Gp->Q3->Prop
def lSp (K:Frg) (sp:Sp3):Sp:=λvs H Q _=>∃ ts G q,HR K G H/\Rps K H ts vs/\sp ts G q/\Aft K G H q Q
def Fn3 (P:Program) (w:World) (K:Frg) (mg:Str->Option Value) (base:Heap) (k:Nat) (x:Str) (sp:Sp3):Prop:=
 ∃ f fd ps,FnOk P w K mg base CX0 k f fd ps (lSp K sp)/\X5 K fd ps []/\xd6 K (.ref f)=true/\mg x=some (.ref f)
theorem Fn3.mono {base:Heap} {k:Nat} {x:Str} {sp:Sp3} (F:Fn3 P w K mg base j x sp) (h:j<=k):Fn3 P w K mg base k x sp:=
 let ⟨f,fd,ps,a,b,c,d⟩:=F;⟨f,fd,ps,a.mono h,b,c,d⟩
theorem Fn3.imp {base:Heap} {k:Nat} {x:Str} {sp sp':Sp3} (F:Fn3 P w K mg base k x sp) (h:∀ ts G q,sp' ts G q->sp ts G q):Fn3 P w K mg base k x sp':=
 let ⟨f,fd,ps,a,b,c,d⟩:=F;⟨f,fd,ps,a.imp λvs H Q E ⟨ts,G,q,h1,h2,h3,h4⟩=>⟨ts,G,q,h1,h2,h _ _ _ h3,h4⟩,b,c,d⟩
def qo (N:List Str) (ts:List T):St3:=ts.map some++zn4 (N.length-ts.length) none
theorem KP {ts:List T} (hr:HR K G H) (rs:Rps K H ts vs):Rel K (qo N ts) G (L2.start N vs) H:=by
 refine ⟨hr,by simp [qo,L2.start,rs.length],λi t e=>?_⟩;unfold qo at e;by_cases hi:i<ts.length
 ·rw [zg7 (by simpa using hi),ze5] at e;cases q:ts[i]? with
  |none=>rw [q] at e;cases e
  |some z=>
   rw [q] at e;have e':z=t:=by simpa using e
   subst e';obtain ⟨v,hv,r⟩:=rs.get q;refine ⟨v,?_,r⟩;unfold L2.start;rw [zg7 (by rw [zd9,← rs.length];exact hi),ze5,hv];rfl
 ·rw [zj2 (by simpa using hi),zn7] at e;split at e<;>cases e
theorem qlN {P:Program} {w:World} {K:Frg} {mg:Str->Option Value} {base:Heap} {x qual:Str} {st:Stmt} {f:Addr} {fd:FuncData} {N ps:List Str} {k:Nat} {sp:Sp3} {t3:TS3} (F:Fun K x qual st f fd) (S:FnScope N ps (qz st)) (bd:X5 K fd ps []) (hm:mg x=some (.ref f))
  (body:∀ (cdv:Value) (A:Around) (outer:List Env) (s:Shared) (H:Hp) (E:XK),Room k (A.deeper (xg3 qual (qz st) s.heap.objs.size f cdv)) ->
   B3 (qas CX0 P w K mg base N qual (qz st) f cdv A outer s H E).nox (zy st) t3)
  (read:∀ ts G q,sp ts G q->ts.length=ps.length/\t3 { nx:=λ_ G'=>q .non G',rt:=q } (qo N ts) G):Fn3 P w K mg base (k+1) x sp:=by
 refine ⟨f,fd,ps,F.ok S (λvs H Q E ⟨ts,G,q,h1,h2,h3,h4⟩=>by rw [← h2.length];exact (read ts G q h3).1) λcdv A outer s H vs Q E hr ⟨ts,G,q,h1,h2,h3,h4⟩=>?_,bd,F.kp,hm⟩;refine ⟨_,body cdv A outer s H E hr,qo N ts,G,_,KP h1 h2,(read ts G q h3).2,⟨λτ' G' h' σ' H' rl' k'=>h4 _ G' h' _ H' .non rl'.hp k',h4,λ_ _ z=>z.elim,λ_ _ z=>z.elim⟩⟩
def qhK (xs:List T):Option Bool:=match xs with
 |[]=>some true
 |.bl k::r=>(match qhK r with|some j=>some (k&&j)|none=>none)
 |_=>none
def qpu (xs:List T):Option Bool:=match xs with
 |[]=>some false
 |.bl k::r=>(match qpu r with|some j=>some (k||j)|none=>none)
 |_=>none
theorem qdL {its:List Value} {ks:List Bool} (h:its=ks.map Value.bool):TruthOf P w A (λi v=>its.toArray[i]?=some v) (λi=>ks.getD i true):=by
 intro i v s Q E hp hq;subst h;have hp':ks[i]?.map Value.bool=some v:=by simpa using hp
 cases e:ks[i]? with
 |none=>rw [e] at hp';cases hp'
 |some k=>
  rw [e] at hp';cases hp';have:ks.getD i true=k:=by rw [ze4,e];rfl
  have hq:Q (ks.getD i true) s:=hq;rw [this] at hq;exact zn6 hq
theorem C8:∀ {ks:List Bool} {us:List Value},zJ (ks.map V.bl) us->us=ks.map Value.bool
 |[],_,r=>by cases r;rfl
 |k::ks,_,r=>by
  cases r with
  |cons a b=>rw [show _=Value.bool k from a,C8 b];rfl
theorem qbW (ks:List Bool):((zg5 ks.length).all λi=>ks.getD i true)=ks.all id:=by
 induction ks with
 |nil=>rfl
 |cons k ks ih=>
  rw [ze8,List.range_succ_eq_map,zn1,List.all_map,zn1];congr 1
theorem jF (hc:X.calm=true):JW X (.builtin "all") (λxs H Q=>∃ (p:Addr) (ks:List Bool),xs=[.ref p]/\SqL X.K H p (ks.map V.bl)/\Q (.bl (ks.all id)) H):=by
 intro pins s σ H xs us Q I r h;obtain ⟨p,ks,rfl,hq,q⟩:=h;obtain ⟨u,rfl,rp⟩:=W0 r;cases (show u=Value.ref p from rp);obtain ⟨its,rv,pl,hz⟩:=I.list hq;have hb:=C8 rv;have hlen:its.length=ks.length:=by rw [hb];simp
 have hp:p<s.heap.objs.size:=by obtain ⟨o,n,e,_⟩:=pl;exact v7 e
 refine call_all_walk (xa8 pl.isList ⟨s.heap.objs.size,_,_,_,_,_,λi=>ks.getD i true,rfl,Walks.list (A:=X.A.in1) (show X.A.in1.handled=none from I.ok.hd hc) s.heap.objs.size p (za5 hp) its.toArray,⟨⟨_,v6 _ rfl,rfl,rfl⟩,?_⟩,qdL hb,λh' tk hk=>?_⟩)
 ·obtain ⟨o,n,e,c,_,d⟩:=pl;exact ⟨o,v5 _ e,c,n,d⟩
 ·refine ⟨.bl _,H,?_,rfl,by rw [ze3,hlen,qbW];exact q⟩;exact I.kept (h':=h') (t':=tk) λb o e=>hk b o (by simp;exact za5 (v7 e)) (v5 _ e)
end
def X4 (env:Env):List (Str×NameKind)->List (Str×Addr)->List (Str×Addr)
 |[],cs=>cs
 | (n,k)::r,cs=>if k=.free then X4 env r ((n,(env.cells.lookup n).getD 0)::cs) else X4 env r cs
variable {scope:Scope}
theorem SF {env:Env} (h:∀ y∈scope.names,y.2=.free->∃ c,env.cells.lookup y.1=some c):closureFor scope env=pure (X4 env scope.names []):=by
 have key:∀ (l:List (Str×NameKind)) (cs:List (Str×Addr)),(∀ y∈l,y.2=.free->∃ c,env.cells.lookup y.1=some c) ->
   (forIn l cs λ(x:Str×NameKind) (r:List (Str×Addr))=>if (x.2==NameKind.free)=true then (do let a←cellOf env x.1;pure (ForInStep.yield ((x.1,a)::r))) else pure (ForInStep.yield r))=(pure (X4 env l cs):Sem _):=by
  intro l;induction l with
  |nil=>intro cs _;rfl
  |cons y r ih=>
   intro cs hl;obtain ⟨n,k⟩:=y;rw [List.forIn_cons];by_cases hk:k=.free
   ·subst hk;obtain ⟨c,hc⟩:=hl (n,.free) za7 rfl;have e:cellOf env n=pure c:=by unfold cellOf;rw [show List.lookup n env.cells=some c from hc]
    simp only [beq_self_eq_true,if_true];rw [e,pure_bind,pure_bind];show forIn r ((n,c)::cs) _=_;rw [ih _ λz hz=>hl z (za0 _ hz)];show _=(pure (if NameKind.free=NameKind.free then X4 env r ((n,(env.cells.lookup n).getD 0)::cs) else X4 env r cs):Sem _);rw [if_pos rfl,show List.lookup n env.cells=some c from hc];rfl
   ·have hb:(k==NameKind.free)=false:=by cases k<;>first|rfl|exact absurd rfl hk
    simp only [hb,ze2,if_false];rw [pure_bind];show forIn r cs _=_;rw [ih _ λz hz=>hl z (za0 _ hz)];show _=(pure (if k=NameKind.free then X4 env r ((n,(env.cells.lookup n).getD 0)::cs) else X4 env r cs):Sem _);rw [if_neg hk]
 have:=key scope.names [] h;unfold closureFor;refine Eq.trans ?_ this;exact bind_pure (m:=Sem) _
theorem VD {env:Env}:∀ (l:List (Str×NameKind)) (cs:List (Str×Addr)) (x:Str) (c:Addr),(∀ y∈l,y.2=.free->∃ c,env.cells.lookup y.1=some c) ->
  (∀ x c,cs.lookup x=some c->env.cells.lookup x=some c)->(X4 env l cs).lookup x=some c->env.cells.lookup x=some c
 |[],_,_,_,_,h,e=>h _ _ e
 | (n,k)::r,cs,x,c,hl,h,e=>by
  unfold X4 at e;split at e
  ·rename_i hk;refine VD r _ x c (λy hy=>hl y (za0 _ hy)) (λx c e=>?_) e;rw [zi6] at e;split at e
   ·rename_i hx;have hx':x=n:=by simpa using hx
    subst hx';obtain ⟨d,hd⟩:=hl (x,k) za7 hk;have hd:List.lookup x env.cells=some d:=hd;rw [hd] at e ⊢;exact e
   ·exact h _ _ e
  ·exact VD r cs x c (λy hy=>hl y (za0 _ hy)) h e
theorem WF {env:Env}:∀ (l:List (Str×NameKind)) (cs:List (Str×Addr)) (x:Str),((x,NameKind.free)∈l\/∃ c,cs.lookup x=some c)->∃ c,(X4 env l cs).lookup x=some c
 |[],_,_,h=>by
  rcases h with h|h
  ·simp at h
  ·exact h
 | (n,k)::r,cs,x,h=>by
  unfold X4;have put:∀ d:Addr,(x=n\/∃ c,cs.lookup x=some c)->∃ c,((n,d)::cs).lookup x=some c:=λd z=>by
   rw [zi6];cases hx:x==n with
   |true=>exact ⟨d,rfl⟩
   |false=>
    rcases z with z|z
    ·rw [z] at hx;simp at hx
    ·exact z
  split
  ·rename_i hk;refine WF r _ x ?_;rcases h with h|h
   ·rcases ze9.mp h with e|e
    ·cases e;exact .inr (put _ (.inl rfl))
    ·exact .inl e
   ·exact .inr (put _ (.inr h))
  ·rename_i hk;refine WF r _ x ?_;rcases h with h|h
   ·rcases ze9.mp h with e|e
    ·cases e;exact absurd rfl hk
    ·exact .inl e
   ·exact .inr h
theorem RJ {env:Env}:∀ (l:List (Str×NameKind)) (cs:List (Str×Addr)) (x:Str) (c:Addr),(X4 env l cs).lookup x=some c->(x,NameKind.free)∈l\/cs.lookup x=some c
 |[],_,_,_,e=>.inr e
 | (n,k)::r,cs,x,c,e=>by
  unfold X4 at e;split at e
  ·rename_i hk;rcases RJ r _ x c e with z|z
   ·exact .inl (za0 _ z)
   ·rw [zi6] at z;split at z
    ·rename_i hx;have hx':x=n:=by simpa using hx
     subst hx';subst hk;exact .inl za7
    ·exact .inr z
  ·rcases RJ r cs x c e with z|z
   ·exact .inl (za0 _ z)
   ·exact .inr z
theorem EJ {α:Type}:∀ (xs ys:List (Str×α)) (x:Str),(xs++ys).lookup x=(match xs.lookup x with|some c=>some c|none=>ys.lookup x)
 |[],ys,x=>rfl
 | (n,c)::xs,ys,x=>by
  rw [zm6,zi6,zi6];cases x==n with
  |true=>rfl
  |false=>exact EJ xs ys x
theorem jk:∀ (l:List (Str×NameKind)) {n:Nat} {acc:List (Str×Addr)},zj6 n l acc=zj6 n l []++acc
 |[],_,_=>rfl
 | (x,k)::r,n,acc=>by
  unfold zj6;split
  ·rw [jk r (acc:=(x,n)::acc),jk r (acc:=[(x,n)]),xh5];rfl
  ·exact jk r
theorem ZR:∀ (l:List (Str×NameKind)) (n:Nat) (acc:List (Str×Addr)) (x:Str) (c:Addr),(x,c)∈zj6 n l acc->(x,NameKind.cell)∈l\/(x,c)∈acc
 |[],_,_,_,_,h=>.inr h
 | (y,k)::r,n,acc,x,c,h=>by
  unfold zj6 at h;split at h
  ·rename_i hk;have hk:k=.cell:=by simpa using hk
   rcases ZR r _ _ x c h with z|z
   ·exact .inl (za0 _ z)
   ·rcases ze9.mp z with e|e
    ·cases e;subst hk;exact .inl za7
    ·exact .inr e
  ·rcases ZR r _ _ x c h with z|z
   ·exact .inl (za0 _ z)
   ·exact .inr z
theorem jM:∀ (l:List (Str×NameKind)) (n:Nat) (acc:List (Str×Addr)) (x:Str),((x,NameKind.cell)∈l\/∃ c,acc.lookup x=some c)->∃ c,(zj6 n l acc).lookup x=some c
 |[],_,_,_,h=>by
  rcases h with h|h
  ·simp at h
  ·exact h
 | (y,k)::r,n,acc,x,h=>by
  unfold zj6;have put:(x=y\/∃ c,acc.lookup x=some c)->∃ c,((y,n)::acc).lookup x=some c:=λz=>by
   rw [zi6];cases hx:x==y with
   |true=>exact ⟨n,rfl⟩
   |false=>
    rcases z with z|z
    ·rw [z] at hx;simp at hx
    ·exact z
  split
  ·refine jM r _ _ x ?_;rcases h with h|h
   ·rcases ze9.mp h with e|e
    ·cases e;exact .inr (put (.inl rfl))
    ·exact .inl e
   ·exact .inr (put (.inr h))
  ·rename_i hk;refine jM r _ _ x ?_;rcases h with h|h
   ·rcases ze9.mp h with e|e
    ·cases e;exact absurd rfl hk
    ·exact .inl e
   ·exact .inr h
theorem D8 {M:Model} {A:Around} {E:Value->Shared->Prop} {s:Shared} {scope:Scope} {globals:Addr} {cl:List (Str×Addr)} {qual:Str} {env:Env} {Q:Env->Shared->Prop}
  (hQ:∀ h₁:Heap,h₁.Ns s.heap.objs.size (λ_=>none)->(∀ b o,s.heap.get? b=some o->h₁.get? b=some o)->CellsOk h₁ (s.heap.objs.size+1) (zj6 (s.heap.objs.size+1) scope.names [])->Q (newEnv scope s.heap.objs.size globals (zj6 (s.heap.objs.size+1) scope.names cl) qual none .none (some env) builtinsNs) { s with heap:=h₁ }) :
  wpAny M A (newFunctionEnv scope globals cl [] qual none .none (some env)) Q E s:=by
 simp only [newFunctionEnv,xg4,if_true];refine y8 (wpAny_alloc ?_);refine y8 (wpAny_layCells _ (λname kind cells=>by cases hkc:kind==NameKind.cell<;>simp [hkc]) _ _ _ _ ?_);have ok:=cellsFrom_ok scope.names (s.heap.push { cls:=.type "dict",data:=.dict #[] }) (s.heap.objs.size+1) [] ⟨λ_ _ hm=>(nomatch hm),List.Pairwise.nil⟩ (by rw [zi4];exact u9 _);rw [zi4] at ok;rw [show ({ s with heap:=s.heap.push { cls:=.type "dict",data:=.dict #[] } }:Shared).heap.objs.size=s.heap.objs.size+1 from zi4 ..];rw [List.forIn_nil];refine y8 (y9 (y9 ?_));exact hQ _ ((Heap.Ns.new s.heap (.type "dict")).keeps (pushCells_keeps _ _)) (λb o e=>pushCells_keeps _ _ b o (v5 _ e)) ok
def qv (X:Cx) (N':List Str) (scope:Scope) (s:Shared) (H:Hp) (fp:List Addr):Cx where
 prog:=X.prog
 w:=X.w
 K:=X.K
 mg:=X.mg
 base:=X.base
 A:=X.A
 N:=N'
 s₀:=s
 H₀:=H
 env:=compEnvC scope (zj6 (s.heap.objs.size+1) scope.names (X4 X.env scope.names [])) s.heap.objs.size X.env
 outer:=X.stack
 stack:=X.stack
 ex:=fp
 fn:=λx=>scope.names.lookup x==some .cell
 calm:=true
 pn:=[]
 xe:=λ_ _=>False
def qaI (outer inner:Scope):Bool:=(inner.kind==.function)&&inner.names.all λy=>
 (y.2 != .cell||inner.names.lookup y.1==some .cell)&&(y.2 != .local||inner.names.lookup y.1==some .local)&&(y.2 != .free||(inner.names.lookup y.1==some .free&&(outer.names.lookup y.1==some .cell||outer.names.lookup y.1==some .free)))
def cap (m:List (Option Nat)) (σ:List (Option α)):List (Option α):=m.map λo=>match o with|some j=>(σ[j]?).join|none=>none
def YU (N N':List Str) (scope:Scope) (m:List (Option Nat)):Bool:=(m.length==N'.length)&&(m.zip N').all λp=>match p.1 with
 |none=>true
 |some j=>N[j]?==some p.2&&scope.names.lookup p.2==some .free
variable {m:List (Option Nat)} {i:Nat}
theorem qbU {σ:List (Option α)} {v:α} (h:(cap m σ)[i]?=some (some v)):∃ j,m[i]?=some (some j)/\σ[j]?=some (some v):=by
 unfold cap at h;rw [ze5] at h;cases e:m[i]? with
 |none=>rw [e] at h;cases h
 |some o=>
  rw [e] at h;cases o with
  |none=>cases h
  |some j=>
   refine ⟨j,rfl,?_⟩;have h':(σ[j]?).join=some v:=by simpa using h
   cases q:σ[j]? with
   |none=>rw [q] at h';cases h'
   |some z=>rw [q] at h';exact congrArg some h'
variable {N':List Str}
theorem qcv (h:YU N N' scope m=true) {x:Str} (e:m[i]?=some (some j)) (hx:N'[i]?=some x):N[j]?=some x/\scope.names.lookup x=some .free:=by
 unfold YU at h;rw [zf9] at h;have hm:(some j,x)∈m.zip N':=za3 (i:=i) (List.getElem?_zip_eq_some.mpr ⟨e,hx⟩);have:=zi7.mp h.2 _ hm;simp only [zf9,beq_iff_eq] at this;exact this
theorem qiv (σ:List (Option α)) (h:YU N N' scope m=true):(cap m σ).length=N'.length:=by
 unfold YU at h;rw [zf9] at h;unfold cap;rw [zd9];simpa using h.1
structure ScFacts (outer inner:Scope):Prop where
 kind:inner.kind=.function
 own:∀ y∈inner.names,y.2=.cell->inner.names.lookup y.1=some .cell
 loc:∀ y∈inner.names,y.2=.local->inner.names.lookup y.1=some .local
 free:∀ y∈inner.names,y.2=.free->inner.names.lookup y.1=some .free/\(outer.names.lookup y.1=some .cell\/outer.names.lookup y.1=some .free)
theorem qam {outer inner:Scope} (h:qaI outer inner=true):ScFacts outer inner:=by
 unfold qaI at h;rw [zf9] at h;have ha:=zi7.mp h.2;refine ⟨by simpa using h.1,λy hy e=>?_,λy hy e=>?_,λy hy e=>?_⟩
 ·have:=ha y hy;rw [e] at this;simpa using this
 ·have:=ha y hy;rw [e] at this;simpa using this
 ·have:=ha y hy;rw [e] at this;simpa using this
theorem QL {env:Env} {x:Str} {k:NameKind} (h:(relabel scope env).names.lookup x=some k):scope.names.lookup x=some k\/(k=.cell/\scope.names.lookup x=some .free):=by
 have key:∀ (l:List (Str×NameKind)),(l.map λ(n,k)=>if (k==NameKind.free&&env.scope.kind==.function&&env.kindOf n==some .cell) then (n,NameKind.cell) else (n,k)).lookup x=some k->l.lookup x=some k\/(k=.cell/\l.lookup x=some .free):=by
  intro l;induction l with
  |nil=>intro h;simp at h
  |cons y r ih=>
   intro h;obtain ⟨n,j⟩:=y;rw [zg2] at h;dsimp only at h;by_cases hc:(j==NameKind.free&&env.scope.kind==.function&&env.kindOf n==some .cell)=true
   ·rw [if_pos hc,zi6] at h;rw [zi6];cases hx:x==n with
    |true=>
     rw [hx] at h;have hk:NameKind.cell=k:=by simpa using h
     have hj:j=.free:=by simp only [zf9,beq_iff_eq] at hc;exact hc.1.1
     exact .inr ⟨hk.symm,by rw [hj]⟩
    |false=>rw [hx] at h;exact ih h
   ·rw [if_neg hc,zi6] at h;rw [zi6];cases hx:x==n with
    |true=>rw [hx] at h;exact .inl h
    |false=>rw [hx] at h;exact ih h
 exact key scope.names h
def PF (X:Cx) (ifs:List Expr) (t:TT):Prop:=
 ∀ (pins:List (Addr×Obj)) (s:Shared) (σ:L2.St) (H:Hp) (Q:Bool->Hp->Prop),Inv X pins σ H s->t σ H Q ->
  wpAny (model X.prog X.w) X.A (forIn ifs true λc r=>if r=true then do let ok←isTrue c X.env (eval c X.env);pure (ForInStep.yield ok) else pure (ForInStep.yield r)) (TP X pins σ Q) X.xe s
theorem qlj:PF X [] (λ_ H Q=>Q true H):=λ_ _ _ H _ I h=>wpAny_tests_nil ⟨H,I,h⟩
theorem qnl {t:TT} (h:PT X c t):PF X [c] t:=λpins s σ H Q I q=>wpAny_tests_one (h pins s σ H Q I q)
theorem qd6 {N':List Str} {scope:Scope} {fp:List Addr} {m:List (Option Nat)} {h1:Heap} {mm:Str->Option Value} (hc:X.calm=true) (I:Inv X pins σ H s) (sc:ScFacts X.env.scope scope) (hcap:YU X.N N' scope m=true)
  (hfp:∀ b∈fp,LB X pins H b) (hob:∀ b∈fp,∃ o,s.heap.get? b=some o) (hns:h1.Ns s.heap.objs.size mm) (hk:∀ b o,s.heap.get? b=some o->h1.get? b=some o) (hown:CellsOk h1 (s.heap.objs.size+1) (zj6 (s.heap.objs.size+1) scope.names [])) :
  Inv (qv X N' scope s H fp) [] (cap m σ) H { s with heap:=h1 }:=by
 have hcl:∀ y∈scope.names,y.2=.free->∃ c,X.env.cells.lookup y.1=some c:=λy hy e=>by
  rcases (sc.free y hy e).2 with z|z
  ·exact I.ok.has y.1 (.inl z)
  ·exact I.ok.has y.1 (.inr z)
 have cl:∀ x c,(X4 X.env scope.names []).lookup x=some c->X.env.cells.lookup x=some c:=λx c e=>VD scope.names [] x c hcl (λ_ _ z=>by simp at z) e;have clt:∀ x c,(X4 X.env scope.names []).lookup x=some c->c<s.heap.objs.size:=λx c e=>by
  obtain ⟨v,q⟩:=I.cell x c (cl x c e);exact q.lt
 -- a cell of the block: its own,or one from around
 have cs:∀ x c,(zj6 (s.heap.objs.size+1) scope.names (X4 X.env scope.names [])).lookup x=some c->((x,c)∈zj6 (s.heap.objs.size+1) scope.names []/\s.heap.objs.size+1<=c/\h1.IsCell c none)\/(X4 X.env scope.names []).lookup x=some c:=λx c e=>by
  rw [jk,EJ] at e;cases q:(zj6 (s.heap.objs.size+1) scope.names []).lookup x with
  |none=>rw [q] at e;exact .inr e
  |some d=>
   rw [q] at e;cases e;have mem:=zi3 q;exact .inl ⟨mem,(hown.empty x _ mem).2,(hown.empty x _ mem).1⟩
 have fpne:∀ b∈fp,b≠s.heap.objs.size:=λb hb=>let ⟨o,e⟩:=hob b hb;za5 (v7 e)
 refine ⟨⟨I.ok.mod,sc.kind,I.ok.glob,I.ok.blt,u9 _,λx y c e1 e2=>?_,λx hx=>?_,λx c hf e=>?_,λ_=>I.ok.hd hc,I.ok.frames,.inl rfl,λb hb=>⟨fpne b hb,λx c e=>?_⟩,I.bs,za4 I.ok.bsz I.sz,λb o e hb=>?_,λb hb z=>?_,I.stack,I.stkFree⟩,
  rfl,I.bare,Un.kept hk,⟨mm,hns,λi x v e1 e2 e3=>?_⟩,λx c e=>?_,I.fresh,λx c e=>?_,λp hp=>absurd (show p∈([]:List (Addr×Obj)) from hp) (by simp),I.hok.kept hk,qiv σ hcap⟩
 ·rcases cs x c e1 with ⟨m1,l1,_⟩|z1<;>rcases cs y c e2 with ⟨m2,l2,_⟩|z2
  ·exact PySem.name_of_addr hown.apart m1 m2
  ·exact absurd (clt y c z2) (Nat.not_lt.mpr (za4 (xn3 _) l1))
  ·exact absurd (clt x c z1) (Nat.not_lt.mpr (za4 (xn3 _) l2))
  ·exact I.ok.inj x y c (cl x c z1) (cl y c z2)
 ·have hx:(relabel scope X.env).names.lookup x=some .cell\/(relabel scope X.env).names.lookup x=some .free:=hx;have hf:scope.names.lookup x=some .cell\/scope.names.lookup x=some .free:=by
   rcases hx with z|z
   ·rcases QL z with q|⟨_,q⟩
    ·exact .inl q
    ·exact .inr q
   ·rcases QL z with q|⟨q,_⟩
    ·exact .inr q
    ·cases q
  show ∃ c,(zj6 (s.heap.objs.size+1) scope.names (X4 X.env scope.names [])).lookup x=some c;rcases hf with hf|hf
  ·exact jM scope.names _ _ x (.inl (zi3 hf))
  ·exact jM scope.names _ _ x (.inr (WF scope.names [] x (.inl (zi3 hf))))
 ·have hf:scope.names.lookup x=some .cell:=by simpa [qv] using hf
  rcases cs x c e with ⟨_,l1,_⟩|z1
  ·exact za4 (xn3 _) l1
  ·rcases RJ scope.names [] x c z1 with q|q
   ·rw [(sc.free _ q rfl).1] at hf;cases hf
   ·simp at q
 ·rcases cs x c e with ⟨_,l1,_⟩|z1
  ·obtain ⟨o,eo⟩:=hob b hb;exact zj5 (za2 (v7 eo) (za4 (xn3 _) l1))
  ·exact (hfp b hb).2.2.2.2.1 x c (cl x c z1)
 ·rcases (hfp b hb).2.2.2.1 with z|z
  ·exact I.ok.noex b o e z
  ·exact absurd (za2 (v7 e) (za4 I.ok.bsz z)) (zp3 _)
 ·rcases ze9.mp (I.stkSub b z) with q|q
  ·exact (hfp b hb).2.1 q
  ·exact (hfp b hb).2.2.1 q
 ·obtain ⟨j,ej,es⟩:=qbU e2;obtain ⟨hN,hfr⟩:=qcv hcap ej e1;have mem:=zi3 hfr;have ho:=(sc.free _ mem rfl).2;obtain ⟨m0,hn0,hl0⟩:=I.loc;obtain ⟨u,ru,lk⟩:=hl0 j x v hN es (ho.elim (λz=>.inr (.inl z)) λz=>.inr (.inr z));refine ⟨u,ru,.inr ⟨?_,?_⟩⟩
  ·rcases e3 with z|z|z
   ·rcases QL z with q|⟨q,_⟩
    ·rw [hfr] at q;cases q
    ·cases q
   ·exact .inl z
   ·exact .inr z
  ·rcases lk with ⟨z,_⟩|⟨_,c,hc',hcell⟩
   ·have z:X.env.scope.names.lookup x=some .local:=z;rcases ho with q|q<;>(rw [z] at q;cases q)
   ·obtain ⟨c',hc2⟩:=WF (env:=X.env) scope.names [] x (.inl mem);have e:=cl x c' hc2;rw [hc'] at e;cases e;obtain ⟨o,eo,d⟩:=hcell;refine ⟨c,?_,o,hk c o eo,d⟩;show (zj6 (s.heap.objs.size+1) scope.names (X4 X.env scope.names [])).lookup x=some c;rw [jk,EJ];cases q:(zj6 (s.heap.objs.size+1) scope.names []).lookup x with
    |none=>exact hc2
    |some d=>
     rcases ZR scope.names _ [] x d (zi3 q) with z|z
     ·rw [sc.own _ z rfl] at hfr;cases hfr
     ·simp at z
 ·rcases cs x c e with ⟨_,_,z⟩|z1
  ·exact ⟨none,z⟩
  ·obtain ⟨v,o,eo,d⟩:=I.cell x c (cl x c z1);exact ⟨v,o,hk c o eo,d⟩
 ·rcases cs x c e with ⟨_,l1,_⟩|z1
  ·exact I.hok.fresh (za4 (xn3 _) l1)
  ·exact I.freeC x c (cl x c z1)
theorem EA {N':List Str} {scope:Scope} {fp:List Addr} {pins':List (Addr×Obj)} {σ':L2.St} {H':Hp} {s':Shared} {h2:Heap} (I:Inv X pins σ H s) (hfp:∀ b∈fp,LB X pins H b) (J:Inv (qv X N' scope s H fp) pins' σ' H' s')
  (sb:xc3 s.heap.objs.size s'.heap h2):Inv X pins σ H' { s' with heap:=h2 }:=by
 have ne:∀ b o,s.heap.get? b=some o->b≠s.heap.objs.size:=λb o e=>za5 (v7 e);have g:∀ b,b≠s.heap.objs.size->h2.get? b=s'.heap.get? b:=λb hb=>sb.2 b hb;have hn:H' s.heap.objs.size=none:=J.free;have u:Un (frs X.stack) fp H H' s.heap s'.heap:=J.base;refine I.call' (s':={ s' with heap:=h2 }) J.os ⟨λb o e n hb hx=>?_,λb o e n hb hx=>?_,u.free,λb o e hx=>?_,u.tups,u.frzs,u.tbls⟩ (λa o e=>?_) J.bare λb hb=>⟨(hfp b hb).2.2.2.1,(hfp b hb).2.1,(hfp b hb).2.2.2.2.1,(hfp b hb).2.2.2.2.2⟩
 ·show h2.get? b=_;rw [g b (ne b o e)];exact u.keep b o e n hb hx
 ·show ∃ sl,h2.get? b=_;rw [g b (ne b o e)];exact u.slot b o e n hb hx
 ·show ∃ o',h2.get? b=_;rw [g b (ne b o e)];exact u.there b o e hx
 ·refine (J.hok a o e).stay (λb v hb q=>?_) (λ_ q=>q) λ_ _ q=>q;have hb':b≠s.heap.objs.size:=by
   intro z;subst z;rcases hb with z|z
   ·rw [← z] at e;rw [hn] at e;cases e
   ·rw [hn] at z;cases z
  rw [g b hb'];exact q
def qkG (ip:Pos) (tg:Expr) (ifs:List Expr) (it:Value) (env:Env) (body ag:Sem Fin):Sem Fin:=do
 standAt ip
 match←pyNext it with
 |none=>pure (.done .next)
 |some v=>
  xk4 tg it v
  xi4 tg env v
  let mut ok:=true
  for c in ifs do
   if ok then ok←isTrue c env (eval c env)
  if ok then body else ag
variable {D:Addr}
section
variable {ce iter:Expr} {kx:Nat} {ip:Pos} {ifs:List Expr} {gs:List Comprehension} {body:Sem Fin} {wi:TI} {g:TG} {tif:TT} {tb:Addr->(L2.St->Hp->Prop)->L2.St->Hp->Prop}
def qec (J:It) (g:TG) (tif:TT) (tb:(L2.St->Hp->Prop)->L2.St->Hp->Prop) (QN:L2.St->Hp->Prop) (W:Nat->Nat->L2.St->Hp->Prop):Prop:=∀ i n σ H,W i n σ H ->
 (J.stop i H/\QN σ H)\/(J.go i H/\∀ x H',J.yld i H x H'->g x σ H' λσ2 H2=>tif σ2 H2 λk H3=>
  if k=true then tb (λσ4 H4=>∃ n',n'<n/\W (i+1) n' σ4 H4) σ2 H3 else ∃ n',n'<n/\W (i+1) n' σ2 H3)
theorem ML {it D:Addr} {fp:List Addr} {tn:Nat->Heap->Prop} {J:It} {tb:(L2.St->Hp->Prop)->L2.St->Hp->Prop} {QN:L2.St->Hp->Prop} {Post:Result->Shared->Prop} {W:Nat->Nat->L2.St->Hp->Prop} {n0:Nat} (hc:X.calm=true) (hx:∀ v s,¬ X.xe v s)
  (hq:(Code.compLoop ce kx (.ref it) (.ref D) X.env).quiet=true) (ha:X.A.under (.compLoop ce kx (.ref it) (.ref D) X.env)=X.A) (hp:(model X.prog X.w).den (.compLoop ce kx (.ref it) (.ref D) X.env)=(qkG ip tg ifs (.ref it) X.env body (again (.compLoop ce kx (.ref it) (.ref D) X.env))).onRaise (λx=>do noteFrame x X.env;theTreesLotGoes x))
  (T:Turn X.prog X.w X.K tg J fp it tn) (hg:PG X tg g) (hf:PF X ifs tif) (hb:∀ pins s σ H N Q E,Inv X pins σ H s->tb N σ H->(∀ s' σ' H',Inv X pins σ' H' s'->N σ' H'->wpAny (model X.prog X.w) X.A (again (.compLoop ce kx (.ref it) (.ref D) X.env)) Q E s')->wpAny (model X.prog X.w) X.A body Q E s)
  (stat:∀ H',(∀ b∈fp,H' b=none)->∀ b∈fp,LB X pins H' b) (turn:qec J g tif tb QN W) (stop:∀ s σ H,Inv X pins σ H s->QN σ H->Post (.ok .next) s)
  (I:Inv X pins σ H s) (st:tn 0 s.heap) (fr:∀ b∈fp,H b=none) (w0:W 0 n0 σ H):codeAny (model X.prog X.w) X.A (.compLoop ce kx (.ref it) (.ref D) X.env) Post s:=by
 refine codeAny_loop hq (λn s'=>∃ i σ' H',Inv X pins σ' H' s'/\tn i s'.heap/\(∀ b∈fp,H' b=none)/\W i n σ' H') (λn s' hI=>?_) n0 ⟨0,σ,H,I,st,fr,w0⟩;rw [ha,hp];refine wpAny_noted ?_;refine y8 (zp5 (y8 ?_));obtain ⟨i,σ5,H5,I5,st5,fr5,w5⟩:=hI;rcases turn i n σ5 H5 w5 with ⟨sp,q⟩|⟨go,step⟩
 ·refine thn (T.done X rfl rfl rfl hc i pins s' σ5 H5 _ I5 (stat _ fr5) st5 sp) λr s6 ⟨hr,I6⟩=>?_;subst hr;exact y9 (stop _ _ _ I6 q)
 ·refine thn (T.item X rfl rfl rfl hc i pins s' σ5 H5 _ I5 (stat _ fr5) st5 go) λr s6 ⟨u,hr,h6⟩=>?_;subst hr;refine y8 (thn h6 λ_ s7 ⟨x,H7,I7,r7,y7,st7,fr7⟩=>?_);have I7':=I7.pinned (stat _ fr7) (T.obj _ _ st7);have again:∀ {σ8:L2.St} {H8:Hp} {s8:Shared},Inv X (pins++K5 fp s7.heap) σ8 H8 s8->(∃ n',n'<n/\W (i+1) n' σ8 H8) ->
    ∃ m',m'<n/\∃ i σ' H',Inv X pins σ' H' s8/\tn i s8.heap/\(∀ b∈fp,H' b=none)/\W i m' σ' H':=λ{σ8 H8 s8} I8 ⟨n',hn,w8⟩=>by
   refine ⟨n',hn,i+1,σ8,H8,I8.unpinned,T.keep _ _ _ st7 λb hb o e=>(I8.pin (b,o) (za1 _ (za1 _ (YA hb e)))).1,λb hb=>?_,w8⟩;obtain ⟨o,e,d⟩:=T.obj _ _ st7 b hb;exact (I8.pin (b,o) (za1 _ (za1 _ (YA hb e)))).2.1
  refine y8 (v4 (hg _ s7 σ5 H7 x u _ I7' r7 (step x H7 y7)) (λ_ s8 ⟨σ8,H8,I8,q8⟩=>?_) λ_ _ z=>(hx _ _ z).elim);refine y8 (v4 (hf _ s8 σ8 H8 _ I8 q8) (λk s9 ⟨H9,I9,q9⟩=>?_) λ_ _ z=>(hx _ _ z).elim);cases k with
  |false=>
   rw [if_neg v8] at q9;exact y9 ⟨rfl,again I9 q9⟩
  |true=>
   rw [if_pos rfl] at q9;exact hb _ _ _ _ _ _ _ I9 q9 λs10 σ10 H10 I10 q10=>y9 ⟨rfl,again I10 q10⟩
def tLG (wi:TI) (g:TG) (tif:TT) (tb:Addr->(L2.St->Hp->Prop)->L2.St->Hp->Prop) (m:List (Option Nat)):TE:=λσ H Q=>wi σ H λJ H1=>∀ D,H1 D=none ->
 ∃ W:Nat->Nat->L2.St->Hp->Prop,(∃ n,W 0 n (cap m σ) (upd H1 D (.lst [])))/\qec J g tif (tb D) (λ_ H=>Q (.ref D) H) W
theorem RR {elt:Expr} {scope:Scope} {pos cpos:Pos} {N':List Str} {m:List (Option Nat)} {bd:Addr->Env->Sem Fin->Sem Fin} {use:Option (Value->Sem Unit)} {Qc:Value->Shared->Prop} {QD:Addr->Hp->Prop} (hc:X.calm=true) (hi:PI X tg iter wi)
  (hp:∀ it D env,(model X.prog X.w).den (.compLoop (.ListComp elt (⟨tg,iter,ifs,0⟩::gs) scope pos) 0 (.ref it) (.ref D) env)=(qkG iter.pos tg ifs (.ref it) env (bd D env (again (.compLoop (.ListComp elt (⟨tg,iter,ifs,0⟩::gs) scope pos) 0 (.ref it) (.ref D) env))) (again (.compLoop (.ListComp elt (⟨tg,iter,ifs,0⟩::gs) scope pos) 0 (.ref it) (.ref D) env))).onRaise (λx=>do noteFrame x env;theTreesLotGoes x))
  (hg:∀ s H fp,PG (qv X N' scope s H fp) tg g) (hf:∀ s H fp,PF (qv X N' scope s H fp) ifs tif)
  (hb:∀ s H fp D kk pins s' σ' H' N Q E,Inv (qv X N' scope s H fp) pins σ' H' s'->tb D N σ' H'->(∀ s2 σ2 H2,Inv (qv X N' scope s H fp) pins σ2 H2 s2->N σ2 H2->wpAny (model X.prog X.w) X.A kk Q E s2)->wpAny (model X.prog X.w) X.A (bd D (qv X N' scope s H fp).env kk) Q E s')
  (hsc:autoParam (qaI X.env.scope scope=true) zA2._auto_1) (hcap:autoParam (YU X.N N' scope m=true) zA2._auto_1) (hs:∀ x,zf1 iter X.env x=pure x) (I:Inv X pins σ H s)
  (h:wi σ H λJ H1=>∀ D,H1 D=none->∃ W:Nat->Nat->L2.St->Hp->Prop,(∃ n,W 0 n (cap m σ) (upd H1 D (.lst [])))/\qec J g tif (tb D) (λ_ H=>QD D H) W)
  (fin:∀ (D:Addr) (s3:Shared) (H3:Hp) (fp:List Addr) (s6:Shared) (H6:Hp) (σ6:L2.St) (r:Flow),Inv X pins σ H3 s3->(∀ b∈fp,LB X pins H3 b)->Inv (qv X N' scope s3 H3 fp) [] σ6 H6 s6->QD D H6->compPost (model X.prog X.w) X.A X.xe use Qc (.ref D) s3.heap.objs.size (.ok r) s6) :
  wpAny (model X.prog X.w) X.A (comprehension (.ListComp elt (⟨tg,iter,ifs,0⟩::gs) scope pos) scope X.env cpos (newList []) false (eval iter X.env) use) Qc X.xe s:=by
 have sc:=qam hsc;have hcl:∀ y∈scope.names,y.2=.free->∃ c,X.env.cells.lookup y.1=some c:=λy hy e=>by
  rcases (sc.free y hy e).2 with z|z
  ·exact I.ok.has y.1 (.inl z)
  ·exact I.ok.has y.1 (.inr z)
 refine wpAny_comprehension_free (g:=⟨tg,iter,ifs,0⟩) (gs:=gs) rfl hs (SF hcl) sc.kind sc.loc ?_;show wpAny _ _ (eval iter X.env) _ _ s;refine thn (hi pins s σ H _ I h) λv s1 h1=>thn h1 λitv s2 h2=>?_;obtain ⟨it,fp,tn,J,H2,rfl,I2,T,st2,f2,hW⟩:=h2;refine zm1 ?_;have hD:H2 s2.heap.objs.size=none:=I2.fresh;obtain ⟨W,⟨n0,w0⟩,turn⟩:=hW _ hD;generalize hDe:s2.heap.objs.size=D at *;have I3:Inv X pins σ (upd H2 D (.lst [])) { s2 with heap:=s2.heap.push { cls:=.type "list",dict:=none,data:=.seq ([]:List Value).toArray } }:=by
  subst hDe;exact I2.laid (t':=s2.toks) (λb u e=>v5 _ e) (u9 _) ⟨zj1 _,[],0,.nil,v6 _ rfl⟩
 have ob2:=T.obj 0 _ st2;have ob3:∀ b∈fp,∃ o,(s2.heap.push { cls:=.type "list",dict:=none,data:=.seq ([]:List Value).toArray }).get? b=some o:=λb hb=>let ⟨o,e,_⟩:=ob2 b hb;⟨o,v5 _ e⟩
 have f3:∀ b∈fp,LB X pins (upd H2 D (.lst [])) b:=λb hb=>by
  obtain ⟨o,e,_⟩:=ob2 b hb;have:b≠D:=by rw [← hDe];exact za5 (v7 e)
  exact ⟨by rw [qO this];exact (f2 b hb).1,(f2 b hb).2⟩
 have k23:∀ b o,s2.heap.get? b=some o->(s2.heap.push { cls:=.type "list",dict:=none,data:=.seq ([]:List Value).toArray }).get? b=some o:=λb o e=>v5 _ e;generalize hH3:upd H2 D (.lst [])=H3 at *;generalize hs3:({ s2 with heap:=s2.heap.push { cls:=.type "list",dict:=none,data:=.seq ([]:List Value).toArray } }:Shared)=s3 at *;have ob3:∀ b∈fp,∃ o,s3.heap.get? b=some o:=by rw [← hs3];exact ob3
 have k23:∀ b o,s2.heap.get? b=some o->s3.heap.get? b=some o:=by rw [← hs3];exact k23
 refine D8 λh₁ hns hk hown=>?_;have I4:Inv (qv X N' scope s3 H3 fp) [] (cap m σ) H3 { s3 with heap:=h₁ }:=qd6 hc I3 sc hcap f3 ob3 hns hk hown;have tn4:tn 0 h₁:=T.keep _ _ _ st2 λb hb o e=>hk b o (k23 b o e);have stat:∀ H':Hp,(∀ b∈fp,H' b=none)->∀ b∈fp,LB (qv X N' scope s3 H3 fp) [] H' b:=λH' hn b hb=>by
  refine ⟨hn b hb,I4.ok.exf b hb |>.1,I4.ok.exfs b hb,.inl hb,λx c e=>(I4.ok.exf b hb).2 x c e,λp hp=>absurd (show p∈([]:List (Addr×Obj)) from hp) (by simp)⟩
 exact codeAny_compStart_list (ML (X:=qv X N' scope s3 H3 fp) rfl (λ_ _ z=>z) rfl rfl (hp _ _ _) T (hg _ _ _) (hf _ _ _) (hb s3 H3 fp D _) stat turn (λs6 σ6 H6 I6 q=>fin D s3 H3 fp s6 H6 σ6 _ I3 f3 I6 q) I4 tn4 (λb hb=>(f3 b hb).1) w0)
  (T.self X.A 0 _ _ _ tn4 (ML (X:=qv X N' scope s3 H3 fp) rfl (λ_ _ z=>z) rfl rfl (hp _ _ _) T (hg _ _ _) (hf _ _ _) (hb s3 H3 fp D _) stat turn (λs6 σ6 H6 I6 q=>fin D s3 H3 fp s6 H6 σ6 _ I3 f3 I6 q) I4 tn4 (λb hb=>(f3 b hb).1) w0))
def apB (elt:Expr) (D:Addr) (env:Env) (kk:Sem Fin):Sem Fin:=do
 (do let _←call (.builtin "list.append") [.ref D,← eval elt env])
 kk
def tAp (te:TE) (D:Addr) (N:L2.St->Hp->Prop) (σ:L2.St) (H:Hp):Prop:=te σ H λy H4=>∃ zs,H4 D=some (.lst zs)/\zs.length<sizeLine/\N σ (upd H4 D (.lst (zs++[y])))
theorem qiO {elt:Expr} {te:TE} {kk:Sem Fin} (hx:∀ v s,¬ X.xe v s) (he:PE X elt te):∀ pins s σ H N Q E,Inv X pins σ H s->tAp te D N σ H->(∀ s' σ' H',Inv X pins σ' H' s'->N σ' H'->wpAny (model X.prog X.w) X.A kk Q E s')->wpAny (model X.prog X.w) X.A (apB elt D X.env kk) Q E s:=λpins s σ H N Q E I h hk=>by
 refine y8 (y8 (v4 (he pins s σ H _ I h) (λw s10 ⟨y,H10,I10,r10,zs,hz,hl,q10⟩=>?_) λ_ _ z=>(hx _ _ z).elim));refine y8 (v4 (K9 (X:=X) _ s10 σ H10 (.ref D) [y] (.ref D) [w] (λ_ H11=>H11=upd H10 D (.lst (zs++[y]))) I10 rfl (.cons r10 .nil) ⟨D,zs,y,rfl,rfl,hz,hl,rfl⟩) (λ_ s11 ⟨_,H11,I11,_,e11⟩=>?_) λ_ _ z=>(hx _ _ z).elim);subst e11;exact y9 (hk _ _ _ I11 q10)
theorem qgv (D:Addr) (s3:Shared) (H3:Hp) (fp:List Addr) (s6:Shared) (H6:Hp) (σ6:L2.St) (r:Flow) (I3:Inv X pins σ H3 s3) (f3:∀ b∈fp,LB X pins H3 b) (I6:Inv (qv X N' scope s3 H3 fp) [] σ6 H6 s6) (q:Q (.ref D) H6):compPost (model X.prog X.w) X.A X.xe none (EP X pins σ Q) (.ref D) s3.heap.objs.size (.ok r) s6:=by
 obtain ⟨mm,hn6,_⟩:=I6.loc;exact ⟨mm,hn6,λh' sb=>⟨.ref D,H6,EA I3 f3 I6 sb,rfl,q⟩⟩
theorem qqX {elt:Expr} {scope:Scope} {pos:Pos} {N':List Str} {m:List (Option Nat)} {te:TE} (hc:X.calm=true) (hi:PI X tg iter wi)
  (hg:∀ s H fp,PG (qv X N' scope s H fp) tg g) (hf:∀ s H fp,PF (qv X N' scope s H fp) ifs tif) (he:∀ s H fp,PE (qv X N' scope s H fp) elt te)
  (hsc:autoParam (qaI X.env.scope scope=true) zA2._auto_1) (hcap:autoParam (YU X.N N' scope m=true) zA2._auto_1) (hs:autoParam (∀ x,zf1 iter X.env x=pure x) zA3._auto_1) :
  PE X (.ListComp elt [⟨tg,iter,ifs,0⟩] scope pos) (tLG wi g tif (tAp te) m):=by
 intro pins s σ H Q I h;rw [eval_ListComp];exact RR (use:=none) (bd:=apB elt) hc hi (λ_ _ _=>rfl) hg hf (λs H fp D kk=>qiO (λ_ _ z=>z) (he s H fp)) hsc hcap hs I h qgv
end
variable {ws:List V}
theorem qih {o:HO} (hD:H D=some (.lst ws)) (h:SqT K H a vs):SqT K (upd H D o) a vs:=by
 rcases h with h|h
 ·refine .inl ?_;rcases h with h|⟨ob,h⟩
  ·have:a≠D:=by intro e;subst e;rw [hD] at h;cases h
   exact .inl (by rw [qO this];exact h)
  ·have:a≠D:=by intro e;subst e;rw [hD] at h;cases h
   exact .inr ⟨ob,by rw [qO this];exact h⟩
 ·exact .inr h
mutual
theorem Rp.wrD {D:Addr} {o:HO} {ws:List V} (hD:H D=some (.lst ws)):∀ {x:T} {v:V},Rp K H x v->Rp K (upd H D o) x v
 |_,_,.non=>.non
 |_,_,.bl b=>.bl b
 |_,_,.int i=>.int i
 |_,_,.str x=>.str x
 |_,_,.ref a=>.ref a
 |_,_,.tup h hs=>.tup (qih hD h) (Rps.wrD hD hs)
theorem Rps.wrD {D:Addr} {o:HO} {ws:List V} (hD:H D=some (.lst ws)):∀ {x:List T} {v:List V},Rps K H x v->Rps K (upd H D o) x v
 |_,_,.nil=>.nil
 |_,_,.cons a b=>.cons (Rp.wrD hD a) (Rps.wrD hD b)
end
theorem HR.wrD {o:HO} (hr:HR K G H) (hD:H D=some (.lst ws)) (g:G D=none):HR K G (upd H D o):=λa ob e=>by
 have ha:a≠D:=by intro z;subst z;rw [g] at e;cases e
 have q:=hr a ob e;cases ob with
 |lst xs=>obtain ⟨vs,h1,h2⟩:=q;exact ⟨vs,by rw [qO ha];exact h1,h2.wrD hD⟩
 |frz xs=>obtain ⟨vs,⟨o1,h1⟩,h2⟩:=q;exact ⟨vs,⟨o1,by rw [qO ha];exact h1⟩,h2.wrD hD⟩
 |dct kvs=>obtain ⟨vs,h1,h2⟩:=q;exact ⟨vs,by rw [qO ha];exact h1,h2.wrD hD⟩
 |exn C=>have h1:H a=some (.ext (IsX a C)):=q;exact (show _=_ by rw [qO ha];exact h1)
 |tab ks xs=>obtain ⟨vs,h1,h2⟩:=q;exact ⟨vs,by rw [qO ha];exact h1,h2.wrD hD⟩
theorem Rel.wrD {o:HO} (r:Rel K τ G σ H) (hD:H D=some (.lst ws)) (g:G D=none):Rel K τ G σ (upd H D o):=
 ⟨r.hp.wrD hD g,r.len,λi t e=>let ⟨v,h1,h2⟩:=r.st i t e;⟨v,h1,h2.wrD hD⟩⟩
theorem Kp.wrD {o:HO} (k:Kp G H G' H') (hD:H D=none):Kp G H G' (upd H' D o):=λa ob h g=>by
 obtain ⟨h1,h2⟩:=k a ob h g;exact ⟨by rw [qO (qP h hD)];exact h1,h2⟩
theorem qeG {σ:List (Option α)} (h:m[i]?=some (some j)):(cap m σ)[i]?=some ((σ[j]?).join):=by
 unfold cap;rw [ze5,h];rfl
theorem Rel.cap (r:Rel K τ G σ H) (m:List (Option Nat)):Rel K (cap m τ) G (L3.cap m σ) H:=by
 refine ⟨r.hp,by simp [L3.cap],λi t e=>?_⟩;obtain ⟨j,e1,e2⟩:=qbU e;obtain ⟨v,h1,h2⟩:=r.st j t e2;exact ⟨v,by rw [qeG e1,h1];rfl,h2⟩
def RE (stay:Gp->Prop) (g:TG3) (tif:TT3) (te:TE3) (q:Q3):List T->List T->St3->Gp->Prop
 |[],ys,_,G=>stay G/\∀ p,G p=none->q (.ref p) (gu G p (.lst ys))
 |x::r,ys,τ,G=>stay G/\g x τ G λτ2 G2=>tif τ2 G2 λk G3=>if k=true then te τ2 G3 λy G4=>ys.length<sizeLine/\RE stay g tif te q r (ys++[y]) τ2 G4 else RE stay g tif te q r ys τ2 G3
def lc3 (wi:TI3) (g:TG3) (tif:TT3) (te:TE3) (m:List (Option Nat)):TE3:=λτ G q=>wi τ G λitems stay G1=>RE stay g tif te q items [] (cap m τ) G1
abbrev F3 (X:Cx) (ifs:List Expr) (t:TT3):Prop:=PF X ifs (lT X.K t)
def tt3:TT3:=λ_ G q=>q true G
theorem ql9 {wi:TI3} {g:TG3} {tif:TT3} (hh:lE K (lc3 wi g tif te m) σ H Q):tLG (lI K wi) (lG K g) (lT K tif) (tAp (lE K te)) m σ H Q:=by
  obtain ⟨τ,G,q,rl,h,af⟩:=hh;refine ⟨τ,G,_,rl,h,λitems stay G1 h1 J H1 hr1 k1 ok D hD=>?_⟩;have gD:G1 D=none:=hr1.free hD;refine ⟨λi n σ' H'=>n=items.length-i/\i<=items.length/\∃ τ' G' ys vs,Rel K τ' G' σ' H'/\Kp G1 H1 G' H'/\H' D=some (.lst vs)/\Rps K H' ys vs/\G' D=none/\RE stay g tif te q (items.drop i) ys τ' G',
   ⟨_,rfl,zj1 _,cap m τ,G1,[],[],((rl.next hr1 k1).cap m).next (hr1.laid hD) (Kp.laid hD),Kp.laid hD,zn,.nil,gD,by simpa using h1⟩,?_⟩
  rintro i n σ' H' ⟨rfl,hi,τ',G',ys,vs,rl',k',hDl,rys,gD',h'⟩;by_cases hlt:i<items.length
  ·rw [zf6 hlt] at h';obtain ⟨hst,h'⟩:=h';obtain ⟨go,yld,_⟩:=ok G' H' rl'.hp k' hst;have hx:items[i]?=some items[i]:=u7 hlt;refine .inr ⟨go i _ hx,λv H2 y=>?_⟩;obtain ⟨rv,hr2,k2⟩:=yld i _ v H2 hx y;have nxt:∀ {τ4:St3} {G4:Gp} {σ4:L2.St} {H4:Hp} {ys4:List T} {vs4:List V},Rel K τ4 G4 σ4 H4->Kp G1 H1 G4 H4->H4 D=some (.lst vs4)->Rps K H4 ys4 vs4->G4 D=none->RE stay g tif te q (items.drop (i+1)) ys4 τ4 G4 ->
     ∃ n',n'<items.length-i/\(n'=items.length-(i+1)/\i+1<=items.length/\∃ τ' G' ys vs,Rel K τ' G' σ4 H4/\Kp G1 H1 G' H4/\H4 D=some (.lst vs)/\Rps K H4 ys vs/\G' D=none/\RE stay g tif te q (items.drop (i+1)) ys τ' G'):=
    λ{τ4 G4 σ4 H4 ys4 vs4} a b c d e f=>⟨_,by omega,rfl,hlt,τ4,G4,ys4,vs4,a,b,c,d,e,f⟩
   refine ⟨_,τ',G',_,rv,rl'.next hr2 k2,h',λτ3 G3 h3 σ3 H3 rl3 k3=>⟨τ3,G3,_,rl3,h3,λk G4 h4 H4 hr4 k4=>?_⟩⟩;have kk:=(k2.trans k3).trans k4;obtain ⟨hD4,gD4⟩:=kk D _ hDl gD';have rys4:=rys.keep rl'.hp kk;cases k with
   |false=>
    rw [if_neg v8] at h4;refine qp5 ?_;exact nxt (rl3.next hr4 k4) (k'.trans kk) hD4 rys4 gD4 h4
   |true=>
    rw [if_pos rfl] at h4;refine qqw ?_;refine ⟨τ3,G4,_,rl3.next hr4 k4,h4,λz G5 h5 w H5 rw5 hr5 k5=>?_⟩;obtain ⟨hD5,gD5⟩:=k5 D _ hD4 gD4;have rys5:=rys4.keep hr4 k5;exact ⟨vs,hD5,by rw [← rys.length];exact h5.1,nxt (((rl3.next hr4 k4).next hr5 k5).wrD hD5 gD5) (((k'.trans kk).trans k5).wrD hD) zn ((rys5.append (.cons rw5 .nil)).wrD hD5) gD5 h5.2⟩
  ·have e:i=items.length:=by omega
   subst e;rw [xi6] at h';obtain ⟨_,_,stop⟩:=ok G' H' rl'.hp k' h'.1;refine .inl ⟨stop,af _ _ (h'.2 D gD') _ H' (.ref D) (λa o e=>?_) λa o e ga=>?_⟩
   ·by_cases ha:a=D
    ·subst ha;rw [qN] at e;cases e;exact ⟨vs,hDl,rys⟩
    ·rw [QU ha] at e;exact rl'.hp a o e
   ·obtain ⟨e1,g1⟩:=k1 a o e ga;obtain ⟨e2,g2⟩:=k' a o e1 g1;exact ⟨e2,by rw [QU (qP e1 hD)];exact g2⟩
structure Src (P:Program) (w:World) (it c:Addr) (St:Nat->Heap->Prop) (Has:Array Value->Heap->Prop):Prop where
 obj:∀ {k h},St k h->∃ o,h.get? it=some o/\∀ v,o.data≠.cell v
 keep:∀ {k h h'},St k h->(∀ o,h.get? it=some o->h'.get? it=some o)->St k h'
 hkeep:∀ {xs h h'},Has xs h->(∀ o,h.get? c=some o->h'.get? c=some o)->Has xs h'
 item:∀ {A:Around} {s:Shared} {k:Nat} {xs:Array Value} {x:Value} {Q:Value->Shared->Prop} {E:Value->Shared->Prop},St k s.heap->Has xs s.heap->xs[k]?=some x ->
  (∀ h',St (k+1) h'->xc3 it s.heap h'->Q x { s with heap:=h' })->wpAny (model P w) A (zf7 (.ref it)) Q E s
 done:∀ {A:Around} {s:Shared} {k:Nat} {xs:Array Value} {Q:Value->Shared->Prop} {E:Value->Shared->Prop},A.handled=none->St k s.heap->Has xs s.heap->xs[k]?=none ->
  (∀ h' e,Heap.ExtBut it s.heap h'->(∃ o,h'.get? e=some o/\o.cls=.type "StopIteration")->E (.ref e) { s with heap:=h' })->wpAny (model P w) A (zf7 (.ref it)) Q E s
theorem qdH (it l:Addr):Src P w it l (λk h=>h.IsListIter it l k) (λxs h=>h.IsList l xs) where
 obj:=λst=>let ⟨o,e,_,d⟩:=st;⟨o,e,λv z=>by rw [d] at z;cases z⟩
 keep:=λst k=>st.at λo e=>k o e
 hkeep:=λst k=>st.at λo e=>k o e
 item:=λst hl hx hQ=>wpAny_nextOf_list_item st hl hx hQ
 done:=λhh st hl hx hE=>wpAny_nextOf_list_end hh st hl hx hE
theorem qad {P:Program} {w:World} {A:Around} {s:Shared} {it t:Addr} {i:Nat} {its:Array Value} {x:Value} {Q:Value->Shared->Prop} {E:Value->Shared->Prop} (hit:s.heap.IsTupleIter it t i) (ht:s.heap.IsTuple t its) (hx:its[i]?=some x)
  (hQ:∀ h',h'.IsTupleIter it t (i+1)->xc3 it s.heap h'->Q x { s with heap:=h' }):wpAny (model P w) A (zf7 (.ref it)) Q E s:=by
 obtain ⟨o1,e1,c1,d1⟩:=id hit;obtain ⟨o2,e2,_,n2,d2⟩:=ht;unfold zf7;refine y8 (zk9 (name:=ze1 "__next__") hit.typeIs zp9 (xb8 zp9 hit.typeIs F.entry_tuple_iterator_next ?_ (F.args_tuple_iterator_next_1 _)));refine y8 (m:=field (.ref it) 0) (zj3 e1 d1 (x:=.ref t) rfl ?_);rw [if_neg (show ¬ ((Value.ref t==Value.none)=true) by exact v8)];refine y8 (m:=field (.ref it) 1) (zj3 e1 d1 (x:=.int i 0) rfl ?_);refine y8 (m:=seqItems? (.ref t)) (zm3 e2 d2 ?_);simp only [zf8,hx];refine y8 (wpAny_setField e1 d1 (by simp) (y9 ⟨x,rfl,y9 (hQ _ ⟨_,xi2 _ e1 (Obj.isFreed_of_fields (Obj.data_mapFields d1 _)),(Obj.cls_mapFields ..).trans c1,?_⟩ (Heap.SameBut.update ..))⟩));rw [Obj.data_mapFields d1];simp [rawInt]
theorem CH {P:Program} {w:World} {A:Around} {s:Shared} {it t:Addr} {i:Nat} {its:Array Value} {Q:Value->Shared->Prop} {E:Value->Shared->Prop} (hh:A.handled=none) (hit:s.heap.IsTupleIter it t i) (ht:s.heap.IsTuple t its) (hx:its[i]?=none)
  (hE:∀ h' e,Heap.ExtBut it s.heap h'->(∃ o,h'.get? e=some o/\o.cls=.type "StopIteration")->E (.ref e) { s with heap:=h' }):wpAny (model P w) A (zf7 (.ref it)) Q E s:=by
 obtain ⟨o1,e1,c1,d1⟩:=id hit;obtain ⟨o2,e2,_,n2,d2⟩:=ht;unfold zf7;refine y8 (zk9 (name:=ze1 "__next__") hit.typeIs zp9 (xb8 zp9 hit.typeIs F.entry_tuple_iterator_next ?_ (F.args_tuple_iterator_next_1 _)));refine y8 (m:=field (.ref it) 0) (zj3 e1 d1 (x:=.ref t) rfl ?_);rw [if_neg (show ¬ ((Value.ref t==Value.none)=true) by exact v8)];refine y8 (m:=field (.ref it) 1) (zj3 e1 d1 (x:=.int i 0) rfl ?_);refine y8 (m:=seqItems? (.ref t)) (zm3 e2 d2 ?_);simp only [zf8,hx];refine y8 (xm6 (y8 (wpAny_setField e1 d1 (by simp) ?_)));refine y8 (m:=newExc (.type "StopIteration") []) ?_;simp only [newExc,newTuple];refine y8 (zm1 ?_ (by size_fits));refine y8 (m:=firstArgMember _ _) (wpAny_of_eq (a:=Value.none) (by first|rfl|(simp only [firstArgMember]<;>rfl)) (zm1 ?_ (by size_fits)));simp only [raiseNew];refine y8 (wpAny_handled ?_)
 first|rw [show A.in1.handled=Option.none from hh]|rw [show A.handled=Option.none from hh]
 exact y8 (y9 (wpAny_throw (hE _ _ (((Heap.SameBut.update ..).extBut.push _).push _) ⟨_,v6 _ rfl,rfl⟩)))
theorem qi0 (it t:Addr):Src P w it t (λk h=>h.IsTupleIter it t k) (λxs h=>h.IsTuple t xs) where
 obj:=λst=>let ⟨o,e,_,d⟩:=st;⟨o,e,λv z=>by rw [d] at z;cases z⟩
 keep:=λst k=>st.at λo e=>k o e
 hkeep:=λst k=>st.at λo e=>k o e
 item:=λst hl hx hQ=>qad st hl hx hQ
 done:=λhh st hl hx hE=>CH hh st hl hx hE
structure ZA (z ti to i1 i2 c1 c2:Addr):Prop where
 ne:([z,ti,to,i1,i2]:List Addr).Nodup
 a1:c1∉[z,to,i1,i2]
 a2:c2∉[z,to,i1,i2]
variable {c1 c2:Addr} {k1:Nat} {E:Value->Shared->Prop}
section
variable {z ti to i1 i2:Addr} {S1 S2:Nat->Heap->Prop} {H1 H2:Array Value->Heap->Prop} {k2:Nat} {xs ys:Array Value} {x y a b:Value}
theorem qdB {Q:Value->Shared->Prop} (R1:Src P w i1 c1 S1 H1) (R2:Src P w i2 c2 S2 H2) (D:ZA z ti to i1 i2 c1 c2) (hz:IsZip s.heap z ti to .none) (hi:xd7 s.heap ti (.ref i1) (.ref i2)) (ho:xd7 s.heap to a b)
  (p1:S1 k1 s.heap) (p2:S2 k2 s.heap) (l1:H1 xs s.heap) (l2:H2 ys s.heap) (hx:xs[k1]?=some x) (hy:ys[k2]?=some y)
  (hQ:∀ h',IsZip h' z ti to (rawInt s.heap.objs.size)->xd7 h' to x y->S1 (k1+1) h'->S2 (k2+1) h'->xd7 h' s.heap.objs.size x y->(∀ c o,c∉[z,to,i1,i2]->s.heap.get? c=some o->h'.get? c=some o)->Q (.ref s.heap.objs.size) { s with heap:=h' }) :
  wpAny (model P w) A (Builtin.«zip.__next__» ⟨[.ref z],[]⟩) (λfin s'=>∃ v,fin=.done (.ret v)/\Q v s') E s:=by
 have ne:=D.ne;simp only [zj4,ze9,zf0,not_or,or_false] at ne;obtain ⟨⟨n1,n2,n3,n4⟩,⟨n5,n6,n7⟩,⟨n8,n9⟩,n10,_⟩:=ne;have a1:=D.a1;have a2:=D.a2;simp only [ze9,zf0,not_or,or_false] at a1 a2;obtain ⟨q1,q2,q3,q4⟩:=a1;obtain ⟨r1,r2,r3,r4⟩:=a2;refine y8 (m:=field (.ref z) 2) (zj3 hz rfl (x:=.bool false) rfl ?_);refine y8 (m:=field (.ref z) 3) (zj3 hz rfl (x:=.ref ti) rfl ?_);refine y8 (zm3 hi rfl ?_);refine y8 (m:=zk4 (.ref z)) ?_;unfold zk4;refine y8 (zj3 hz rfl (x:=Value.none) rfl (y9 ?_));simp only [if_true];refine y8 (xm6 (y8 (zj3 hz rfl (x:=.ref to) rfl (y8 (xa0 hz (by simp) λg1 z1 s1=>?_)))))
 replace z1:IsZip g1 z ti to Value.ellipsis:=z1
 refine y8 ?_;simp only [xe4,List.zipIdx_nil,List.forIn_cons,List.forIn_nil];refine y8 (y8 (wpAny_onRaise (y8 (m:=zf7 (.ref i1)) ?_)));refine R1.item (R1.keep p1 λo e=>s1.extBut _ _ (Ne.symm n3) e) (R1.hkeep l1 λo e=>s1.extBut _ _ q1 e) hx λg2 p12 s2=>y9 ?_;have t2:xd7 g2 to a b:=s2.extBut _ _ n8 (s1.extBut _ _ (Ne.symm n2) ho);refine y8 (zm3 t2 rfl (y8 (xk1 t2 λg3 t3 s3=>?_)))
 replace t3:xd7 g3 to x b:=t3
 refine y8 (wpAny_letGo (y9 (y8 (y8 (wpAny_onRaise (y8 (m:=zf7 (.ref i2)) ?_))))));refine R2.item (R2.keep p2 λo e=>s3.extBut _ _ (Ne.symm n9) (s2.extBut _ _ (Ne.symm n10) (s1.extBut _ _ (Ne.symm n4) e))) (R2.hkeep l2 λo e=>s3.extBut _ _ r2 (s2.extBut _ _ r3 (s1.extBut _ _ r1 e))) hy λg4 p24 s4=>y9 ?_;have t4:xd7 g4 to x b:=s4.extBut _ _ n9 t3;refine y8 (zm3 t4 rfl (y8 (xk1 t4 λg5 t5 s5=>?_)))
 replace t5:xd7 g5 to x y:=t5
 refine y8 (wpAny_letGo (y9 (y9 (y8 (zm3 t5 rfl (y8 (wpAny_newTuple ?_)))))));have sz:g5.objs.size=s.heap.objs.size:=by rw [s5.1,s4.1,s3.1,s2.1,s1.1]
 have z5:IsZip g5 z ti to Value.ellipsis:=s5.extBut _ _ n2 (s4.extBut _ _ n4 (s3.extBut _ _ n2 (s2.extBut _ _ n3 z1)));have kk:∀ c o,c∉[z,to,i1,i2]->s.heap.get? c=some o->g5.get? c=some o:=λc o hc e=>by
  simp only [ze9,zf0,not_or,or_false] at hc;exact s5.extBut _ _ hc.2.1 (s4.extBut _ _ hc.2.2.2 (s3.extBut _ _ hc.2.1 (s2.extBut _ _ hc.2.2.1 (s1.extBut _ _ hc.1 e))))
 have p15:S1 (k1+1) g5:=R1.keep p12 λo e=>s5.extBut _ _ (Ne.symm n8) (s4.extBut _ _ n10 (s3.extBut _ _ (Ne.symm n8) e));have p25:S2 (k2+1) g5:=R2.keep p24 λo e=>s5.extBut _ _ (Ne.symm n9) e;have zlt:z<g5.objs.size:=v7 z5;refine y8 (m:=xe8 (.ref z) (.ref g5.objs.size)) ?_;unfold xe8;have z6:IsZip (g5.push { cls:=.type "tuple",data:=.seq #[x,y] }) z ti to Value.ellipsis:=v5 _ z5;refine y8 (xa0 z6 (by simp) λg7 z7 s7=>?_)
 replace z7:IsZip g7 z ti to (rawInt g5.objs.size):=z7
 refine xa0 z7 (by simp) λg8 z8 s8=>?_
 replace z8:IsZip g8 z ti to (rawInt g5.objs.size):=z8
 have up:∀ c o,c≠z->g5.get? c=some o->g8.get? c=some o:=λc o hc e=>s8.extBut _ _ hc (s7.extBut _ _ hc (v5 _ e));have t8:xd7 g8 g5.objs.size x y:=s8.extBut _ _ (zj5 zlt) (s7.extBut _ _ (zj5 zlt) (v6 _ rfl));rw [sz] at z8 t8;refine y9 ⟨_,rfl,?_⟩;show Q (Value.ref g5.objs.size) _;rw [sz];exact hQ g8 z8 (up _ _ (Ne.symm n2) t5) (R1.keep p15 λo e=>up _ o (Ne.symm n3) e) (R2.keep p25 λo e=>up _ o (Ne.symm n4) e) t8 λc o hc e=>up c o (λq=>hc (by simp [q])) (kk c o hc e)
theorem qjd {Q:Fin->Shared->Prop} (hh:A.handled=none) (R1:Src P w i1 c1 S1 H1) (R2:Src P w i2 c2 S2 H2) (D:ZA z ti to i1 i2 c1 c2) (hz:IsZip s.heap z ti to .none) (hi:xd7 s.heap ti (.ref i1) (.ref i2)) (ho:xd7 s.heap to a b)
  (p1:S1 k1 s.heap) (p2:S2 k2 s.heap) (l1:H1 xs s.heap) (l2:H2 ys s.heap) (hend:xs[k1]?=none\/ys[k2]?=none)
  (hE:∀ h' e,(∀ c o,c∉[z,to,i1,i2]->s.heap.get? c=some o->h'.get? c=some o)->(∃ o,h'.get? e=some o/\o.cls=.type "StopIteration")->E (.ref e) { s with heap:=h' }) :
  wpAny (model P w) A (Builtin.«zip.__next__» ⟨[.ref z],[]⟩) Q E s:=by
 have ne:=D.ne;simp only [zj4,ze9,zf0,not_or,or_false] at ne;obtain ⟨⟨n1,n2,n3,n4⟩,⟨n5,n6,n7⟩,⟨n8,n9⟩,n10,_⟩:=ne;have a1:=D.a1;have a2:=D.a2;simp only [ze9,zf0,not_or,or_false] at a1 a2;obtain ⟨q1,q2,q3,q4⟩:=a1;obtain ⟨r1,r2,r3,r4⟩:=a2;refine y8 (m:=field (.ref z) 2) (zj3 hz rfl (x:=.bool false) rfl ?_);refine y8 (m:=field (.ref z) 3) (zj3 hz rfl (x:=.ref ti) rfl ?_);refine y8 (zm3 hi rfl ?_);refine y8 (m:=zk4 (.ref z)) ?_;unfold zk4;refine y8 (zj3 hz rfl (x:=Value.none) rfl (y9 ?_));simp only [if_true];refine y8 (xm6 (y8 (zj3 hz rfl (x:=.ref to) rfl (y8 (xa0 hz (by simp) λg1 z1 s1=>?_)))))
 replace z1:IsZip g1 z ti to Value.ellipsis:=z1
 refine y8 ?_;simp only [xe4,List.zipIdx_nil,List.forIn_cons,List.forIn_nil];refine y8 (y8 (wpAny_onRaise (y8 (m:=zf7 (.ref i1)) ?_)));cases hx:xs[k1]? with
 |none=>
  refine R1.done hh (R1.keep p1 λo e=>s1.extBut _ _ (Ne.symm n3) e) (R1.hkeep l1 λo e=>s1.extBut _ _ q1 e) hx λg2 e s2 ⟨oe,he,ce⟩=>?_;have z2:IsZip g2 z ti to Value.ellipsis:=s2 _ _ n3 z1;have ez:e≠z:=λq=>by subst q;rw [z2] at he;cases he;simp at ce
  refine xa0 z2 (by simp) λg3 _ s3=>hE g3 e (λc o hc q=>?_) ⟨oe,s3.extBut _ _ ez he,ce⟩;simp only [ze9,zf0,not_or,or_false] at hc;exact s3.extBut _ _ hc.1 (s2 _ _ hc.2.2.1 (s1.extBut _ _ hc.1 q))
 |some x=>
  have hy:ys[k2]?=none:=by rcases hend with q|q;rw [hx] at q;cases q;exact q
  refine R1.item (R1.keep p1 λo e=>s1.extBut _ _ (Ne.symm n3) e) (R1.hkeep l1 λo e=>s1.extBut _ _ q1 e) hx λg2 p12 s2=>y9 ?_;have t2:xd7 g2 to a b:=s2.extBut _ _ n8 (s1.extBut _ _ (Ne.symm n2) ho);refine y8 (zm3 t2 rfl (y8 (xk1 t2 λg3 t3 s3=>?_)));refine y8 (wpAny_letGo (y9 (y8 (y8 (wpAny_onRaise (y8 (m:=zf7 (.ref i2)) ?_))))));refine R2.done hh (R2.keep p2 λo e=>s3.extBut _ _ (Ne.symm n9) (s2.extBut _ _ (Ne.symm n10) (s1.extBut _ _ (Ne.symm n4) e))) (R2.hkeep l2 λo e=>s3.extBut _ _ r2 (s2.extBut _ _ r3 (s1.extBut _ _ r1 e))) hy λg4 e s4 ⟨oe,he,ce⟩=>?_;have z4:IsZip g4 z ti to Value.ellipsis:=s4 _ _ n4 (s3.extBut _ _ n2 (s2.extBut _ _ n3 z1));have ez:e≠z:=λq=>by subst q;rw [z4] at he;cases he;simp at ce
  refine xa0 z4 (by simp) λg5 _ s5=>hE g5 e (λc o hc q=>?_) ⟨oe,s5.extBut _ _ ez he,ce⟩;simp only [ze9,zf0,not_or,or_false] at hc;exact s5.extBut _ _ hc.1 (s4 _ _ hc.2.2.2 (s3.extBut _ _ hc.2.1 (s2.extBut _ _ hc.2.2.1 (s1.extBut _ _ hc.1 q))))
end
abbrev qpX (b:Bool):String:=if b then "list_iterator" else "tuple_iterator"
abbrev zF (b:Bool) (c:Addr):Obj:={ cls:=.type (qpX b),data:=.fields #[.ref c,.int 0 0] }
def qdD (b:Bool) (it c:Addr) (k:Nat) (h:Heap):Prop:=match b with|true=>h.IsListIter it c k|false=>h.IsTupleIter it c k
def LD (b:Bool) (c:Addr) (xs:Array Value) (h:Heap):Prop:=match b with|true=>h.IsList c xs|false=>h.IsTuple c xs
theorem zO (b:Bool) (it c:Addr):Src P w it c (qdD b it c) (LD b c):=by
 cases b
 ·exact qi0 it c
 ·exact qdH it c
theorem LL {P:Program} {w:World} {A:Around} {b:Bool} {c:Addr} {xs:Array Value} {Q:Value->Shared->Prop} {E:Value->Shared->Prop} (h:LD b c xs s.heap) (q:Q (.ref s.heap.objs.size) { s with heap:=s.heap.push (zF b c) }) :
  wpAny (model P w) A (pyIter (.ref c)) Q E s:=by
 cases b
 ·exact wpAny_pyIter_tuple (show s.heap.IsTuple c xs from h) q
 ·exact xa8 (show s.heap.IsList c xs from h) q
variable {h:Heap}
theorem qbN {b:Bool} {c:Addr} {xs:Array Value} {o:Obj} (q:LD b c xs h):LD b c xs (h.push o):=by
 cases b
 ·exact (show h.IsTuple c xs from q).at λ_ e=>v5 _ e
 ·exact (show h.IsList c xs from q).at λ_ e=>v5 _ e
abbrev zh1 (h:Heap) (o1:Obj):Heap:=h.push o1
abbrev zh2 (h:Heap) (o1 o2:Obj):Heap:=(zh1 h o1).push o2
abbrev zh3 (h:Heap) (o1 o2:Obj):Heap:=(zh2 h o1 o2).push { cls:=.type "tuple",data:=.seq #[.ref h.objs.size,.ref (zh1 h o1).objs.size] }
abbrev zh4 (h:Heap) (o1 o2:Obj):Heap:=(zh3 h o1 o2).push { cls:=.type "tuple",data:=.seq #[.none,.none] }
abbrev zh5 (h:Heap) (o1 o2:Obj):Heap:=(zh4 h o1 o2).push { cls:=.type "zip",data:=.fields #[.none,.bool false,.bool false,.ref (zh2 h o1 o2).objs.size,.ref (zh3 h o1 o2).objs.size] }
theorem qdq (c1 c2:Addr) (o1 o2:Obj) :
  Meets (Builtin.«zip.__new__» ⟨[.type "zip",.ref c1,.ref c2],[]⟩) (λ_ R s=>
   (∀ (P:Program) (w:World) (A:Around) (Q:Value->Shared->Prop) (E:Value->Shared->Prop),Q (.ref s.heap.objs.size) { s with heap:=zh1 s.heap o1 }->wpAny (model P w) A (pyIter (.ref c1)) Q E s) /\
   (∀ (P:Program) (w:World) (A:Around) (Q:Value->Shared->Prop) (E:Value->Shared->Prop),Q (.ref (zh1 s.heap o1).objs.size) { s with heap:=zh2 s.heap o1 o2 }->wpAny (model P w) A (pyIter (.ref c2)) Q E { s with heap:=zh1 s.heap o1 }) /\
   R (.ok (.ret (.ref (zh4 s.heap o1 o2).objs.size))) { s with heap:=zh5 s.heap o1 o2 }):=
 .of_wp λprog w A R s h=>by
  obtain ⟨hp,g,d,tk,os⟩:=s;obtain ⟨h1,h2,h⟩:=h;have hsub:=sub_zip;have k1:=λA Q E=>h1 prog w A Q E;have k2:=λA Q E=>h2 prog w A Q E
  wp_walk using k1 _ _ _,k2 _ _ _
  exact ⟨_,rfl,h⟩
def qek (b1 b2:Bool) (z ti to i1 i2 c1 c2:Addr) (k:Nat) (h:Heap):Prop:=
 IsZip h z ti to .none/\xd7 h ti (.ref i1) (.ref i2)/\(∃ a b,xd7 h to a b)/\qdD b1 i1 c1 k h/\qdD b2 i2 c2 k h
theorem qew {b1 b2:Bool} {c1 c2:Addr} {xs ys:Array Value} {Q:Value->Shared->Prop} (h1:LD b1 c1 xs s.heap) (h2:LD b2 c2 ys s.heap)
  (q:∀ h',qek b1 b2 (s.heap.objs.size+4) (s.heap.objs.size+2) (s.heap.objs.size+3) s.heap.objs.size (s.heap.objs.size+1) c1 c2 0 h'->(∀ c o,s.heap.get? c=some o->h'.get? c=some o)->Q (.ref (s.heap.objs.size+4)) { s with heap:=h' }) :
  wpAny (model P w) A (call (.type "zip") [.ref c1,.ref c2]) Q E s:=by
 refine callType_new F.called_zip (by decide) (F.typeCall_zip_2 _ _) (F.newCall_zip_2 _ _) (λobj=>F.args_object_init_3 obj _ _) F.entry_zip_new
  (qdq c1 c2 (zF b1 c1) (zF b2 c2)) ⟨λP w A Q E q=>LL h1 q,λP w A Q E q=>LL (s:={ s with heap:=zh1 s.heap (zF b1 c1) }) (qbN h2) q,?_⟩
 have e1:(zh1 s.heap (zF b1 c1)).objs.size=s.heap.objs.size+1:=zi4 ..;have e2:(zh2 s.heap (zF b1 c1) (zF b2 c2)).objs.size=s.heap.objs.size+2:=by rw [zi4,e1]
 have e3:(zh3 s.heap (zF b1 c1) (zF b2 c2)).objs.size=s.heap.objs.size+3:=by rw [zi4,e2]
 have e4:(zh4 s.heap (zF b1 c1) (zF b2 c2)).objs.size=s.heap.objs.size+4:=by rw [zi4,e3]
 have g5:(zh5 s.heap (zF b1 c1) (zF b2 c2)).get? (zh4 s.heap (zF b1 c1) (zF b2 c2)).objs.size=some _:=v6 _ rfl;have g4:(zh5 s.heap (zF b1 c1) (zF b2 c2)).get? (zh3 s.heap (zF b1 c1) (zF b2 c2)).objs.size=some _:=v5 _ (v6 _ rfl);have g3:(zh5 s.heap (zF b1 c1) (zF b2 c2)).get? (zh2 s.heap (zF b1 c1) (zF b2 c2)).objs.size=some _:=v5 _ (v5 _ (v6 _ rfl));have g2:(zh5 s.heap (zF b1 c1) (zF b2 c2)).get? (zh1 s.heap (zF b1 c1)).objs.size=some (zF b2 c2):=v5 _ (v5 _ (v5 _ (v6 _ rfl)));have g1:(zh5 s.heap (zF b1 c1) (zF b2 c2)).get? s.heap.objs.size=some (zF b1 c1):=v5 _ (v5 _ (v5 _ (v5 _ (v6 _ rfl))));show _/\_;rw [e2,e3,e4] at g5;rw [e1,e2] at g3;rw [e3] at g4;rw [e1] at g2;rw [e4];refine ⟨⟨_,g5,rfl⟩,q _ ⟨g5,g3,⟨_,_,g4⟩,?_,?_⟩ λc o e=>v5 _ (v5 _ (v5 _ (v5 _ (v5 _ e))))⟩
 ·cases b1<;>exact ⟨_,g1,rfl,rfl⟩
 ·cases b2<;>exact ⟨_,g2,rfl,rfl⟩
theorem qdK {b1 b2:Bool} {z ti to i1 i2 c1 c2:Addr} {k:Nat} {xs ys:Array Value} {x y:Value} {Q:Option Value->Shared->Prop} (D:ZA z ti to i1 i2 c1 c2) (st:qek b1 b2 z ti to i1 i2 c1 c2 k s.heap) (l1:LD b1 c1 xs s.heap) (l2:LD b2 c2 ys s.heap) (hx:xs[k]?=some x) (hy:ys[k]?=some y)
  (hQ:∀ h',IsZip h' z ti to (rawInt s.heap.objs.size)->xd7 h' ti (.ref i1) (.ref i2)->(∃ a b,xd7 h' to a b)->qdD b1 i1 c1 (k+1) h'->qdD b2 i2 c2 (k+1) h'->xd7 h' s.heap.objs.size x y->(∀ c o,c∉[z,to,i1,i2]->s.heap.get? c=some o->h'.get? c=some o)->Q (some (.ref s.heap.objs.size)) { s with heap:=h' }) :
  wpAny (model P w) A (pyNext (.ref z)) Q E s:=by
 obtain ⟨hz,hi,⟨a,b,ho⟩,p1,p2⟩:=st;have ty:s.TypeIs (.ref z) "zip" := ⟨_,hz,rfl⟩
 have nti:ti∉[z,to,i1,i2]:=by
  have ne:=D.ne;simp only [zj4,ze9,zf0,not_or,or_false] at ne ⊢;exact ⟨Ne.symm ne.1.1,ne.2.1.1,ne.2.1.2.1,ne.2.1.2.2⟩
 unfold pyNext;exact y8 (wpAny_attempt (zk9 (name:=ze1 "__next__") ty xk5 (xb8 xk5 ty F.entry_zip_next
  (qdB (zO b1 i1 c1) (zO b2 i2 c2) D hz hi ho p1 p2 l1 l2 hx hy λh' u1 u2 u3 u4 u5 u6=>y9 (hQ h' u1 (u6 _ _ nti hi) ⟨_,_,u2⟩ u3 u4 u5 u6)) (F.args_zip_next_1 _))))
theorem K7 {b1 b2:Bool} {z ti to i1 i2 c1 c2:Addr} {k:Nat} {xs ys:Array Value} {Q:Option Value->Shared->Prop} (hh:A.handled=none) (D:ZA z ti to i1 i2 c1 c2) (st:qek b1 b2 z ti to i1 i2 c1 c2 k s.heap) (l1:LD b1 c1 xs s.heap) (l2:LD b2 c2 ys s.heap) (hend:xs[k]?=none\/ys[k]?=none)
  (hQ:∀ h',(∀ c o,c∉[z,to,i1,i2]->s.heap.get? c=some o->h'.get? c=some o)->Q none { s with heap:=h' }):wpAny (model P w) A (pyNext (.ref z)) Q E s:=by
 obtain ⟨hz,hi,⟨a,b,ho⟩,p1,p2⟩:=st;have ty:s.TypeIs (.ref z) "zip" := ⟨_,hz,rfl⟩
 unfold pyNext;refine y8 (wpAny_attempt (zk9 (name:=ze1 "__next__") ty xk5 (xb8 xk5 ty F.entry_zip_next
  (qjd hh (zO b1 i1 c1) (zO b2 i2 c2) D hz hi ho p1 p2 l1 l2 hend λh' e hk ⟨o,q1,q2⟩=>?_) (F.args_zip_next_1 _))))
 exact y8 (wpAny_isInstance (T:="StopIteration") (b:=true) ⟨o,q1,q2⟩ isSubtype_stop (y9 (hQ _ hk)))
def SqB (K:Frg) (b:Bool) (H:Hp) (a:Addr) (xs:List V):Prop:=match b with|true=>SqL K H a xs|false=>SqT K H a xs
theorem SqB.get {X:Cx} {pins:List (Addr×Obj)} {σ:L2.St} {H:Hp} {s:Shared} {b:Bool} {a:Addr} {xs:List V} (I:Inv X pins σ H s) (h:SqB X.K b H a xs):∃ its:List Value,zJ xs its/\LD b a its.toArray s.heap/\xs.length<=sizeLine:=by
 cases b
 ·obtain ⟨its,r,p,hz⟩:=I.tuple (show SqT X.K H a xs from h);exact ⟨its,r,(show s.heap.IsTuple a its.toArray from p),hz⟩
 ·obtain ⟨its,r,p,hz⟩:=I.list (show SqL X.K H a xs from h);exact ⟨its,r,p.isList,hz⟩
theorem SqB.inj {b:Bool} {xs ys:List V} (I:Inv X pins σ H s) (h:SqB X.K b H a xs) (h':SqB X.K b H a ys):xs=ys:=by
 cases b
 ·exact I.tuple_inj h h'
 ·exact I.list_inj h h'
def Itz (K:Frg) (b1 b2:Bool) (c1 c2:Addr):It:=
  ⟨λi H=>∃ xs ys x y,SqB K b1 H c1 xs/\SqB K b2 H c2 ys/\xs[i]?=some x/\ys[i]?=some y,
   λi H v H'=>∃ p x y,H p=none/\v=.ref p/\H'=upd H p (.tup [x,y])/\(∀ xs,SqB K b1 H c1 xs->xs[i]?=some x)/\(∀ ys,SqB K b2 H c2 ys->ys[i]?=some y),
   λi H=>∃ xs ys,SqB K b1 H c1 xs/\SqB K b2 H c2 ys/\(xs.length<=i\/ys.length<=i)⟩
theorem qjh {b:Bool} {c:Addr} {xs:Array Value} (q:LD b c xs h):c<h.objs.size:=by
 cases b
 ·obtain ⟨o,e,_⟩:=(show h.IsTuple c xs from q);exact v7 e
 ·obtain ⟨o,e,_⟩:=(show h.IsList c xs from q);exact v7 e
theorem KR {X:Cx} {pins:List (Addr×Obj)} {σ:L2.St} {H:Hp} {s:Shared} (I:Inv X pins σ H s) {ch:List Addr} (hf:∀ b∈ch,LB X pins H b) {h2:Heap} {t2:Nat} {x y:V} {u1 u2:Value} (r1:zK x u1) (r2:zK y u2)
  (hp:h2.get? s.heap.objs.size=some { cls:=.type "tuple",data:=.seq #[u1,u2] }) (kk:∀ c o,c∉ch->s.heap.get? c=some o->h2.get? c=some o):Inv X pins σ (upd H s.heap.objs.size (.tup [x,y])) { s with heap:=h2,toks:=t2 }:=by
 have hfr:H s.heap.objs.size=none:=I.fresh;refine I.step (g':=s.gens) (d':=s.drawn) (t':=t2) (ch:=ch) (λb hb=>?_) (λb o _ _ hcb e _=>kk b o hcb e) (λb o _ _ hcb e _=>⟨o.slots,kk b o hcb e⟩) (λb o _ e n=>by rw [qO (za5 (v7 e))];exact n) (λb o hcb e=>⟨o,kk b o hcb e⟩)
  (λb _ e=>by rw [qO (qP e hfr)];exact e) (λb _ _ e=>by rw [qO (qP e hfr)];exact e) (λb ps e=>⟨#[],by rw [qO (qP e hfr),e];simp⟩) (λm hm=>?_) (λb u e=>?_) I.bare
 ·obtain ⟨f0,f1,f2,f3,f4,f5⟩:=hf b hb;exact ⟨f3,f1,f4,f5⟩
 ·obtain ⟨o,es',ep,ho',r⟩:=hm;exact ⟨o,es',ep,kk _ o (λq=>(hf _ q).2.1 rfl) ho',r⟩
 ·by_cases hb:b=s.heap.objs.size
  ·subst hb;rw [zn] at e;cases e;exact ⟨by show 2<=sizeLine;decide,[u1,u2],.cons r1 (.cons r2 .nil),⟨_,hp,rfl,_,rfl,rfl⟩⟩
  ·rw [qO hb] at e;refine (I.hok b u e).stay (λc v hcb q=>kk c v (λm=>?_) q) (λ_ q=>by rw [qO (qP q hfr)];exact q) λ_ _ q=>by rw [qO (qP q hfr)];exact q
   have hn:=(hf c m).1;rcases hcb with q|q
   ·rw [q] at hn;rw [hn] at e;cases e
   ·rw [hn] at q;cases q
variable {pt:Pos}
theorem qd3 {b1 b2:Bool} {z ti to i1 i2:Addr} (D:ZA z ti to i1 i2 c1 c2):Turn P w K (.Tuple es k1 pt) (Itz K b1 b2 c1 c2) [z,ti,to,i1,i2] z (qek b1 b2 z ti to i1 i2 c1 c2) where
 mem:=by simp
 obj:=λi h ⟨hz,hi,⟨a,b,ho⟩,p1,p2⟩ c hc=>by
  simp only [ze9,zf0,or_false] at hc;rcases hc with rfl|rfl|rfl|rfl|rfl
  ·exact ⟨_,hz,λv q=>by cases q⟩
  ·exact ⟨_,hi,λv q=>by cases q⟩
  ·exact ⟨_,ho,λv q=>by cases q⟩
  ·exact (zO (P:=P) (w:=w) b1 c c1).obj p1
  ·exact (zO (P:=P) (w:=w) b2 c c2).obj p2
 keep:=λi h h' ⟨hz,hi,⟨a,b,ho⟩,p1,p2⟩ k=>
  ⟨k z (by simp) _ hz,k ti (by simp) _ hi,⟨a,b,k to (by simp) _ ho⟩,(zO (P:=P) (w:=w) b1 i1 c1).keep p1 λo e=>k i1 (by simp) o e,(zO (P:=P) (w:=w) b2 i2 c2).keep p2 λo e=>k i2 (by simp) o e⟩
 item:=by
  intro X hP hw hK hc i pins s σ H E I hf st hg;subst hP hw hK;obtain ⟨xs,ys,x,y,sq1,sq2,hx,hy⟩:=hg;obtain ⟨its1,rv1,l1,z1⟩:=sq1.get I;obtain ⟨its2,rv2,l2,z2⟩:=sq2.get I;obtain ⟨u1,hu1,ru1⟩:=rv1.get hx;obtain ⟨u2,hu2,ru2⟩:=rv2.get hy;refine qdK D st l1 l2 (x:=u1) (y:=u2) (by simpa using hu1) (by simpa using hu2) λh' hz hi ho p1 p2 hp hk=>?_;have hfr:H s.heap.objs.size=none:=I.fresh;have free:∀ b∈[z,ti,to,i1,i2],H b=none:=λb hb=>(hf b hb).1;refine ⟨_,rfl,wpAny_letOwnedTupleGo_zip hz λh2 hz2 s2=>?_⟩;have zlt:z<s.heap.objs.size:=v7 st.1;have hp2:xd7 h2 s.heap.objs.size u1 u2:=(s2.2 _ (zj5 zlt)).trans hp;have ne:=D.ne;simp only [zj4,ze9,zf0,not_or,or_false] at ne;have up:∀ c o,c≠z->h'.get? c=some o->h2.get? c=some o:=λc o hc e=>(s2.2 c hc).trans e;have kk:∀ c o,c∉[z,to,i1,i2]->s.heap.get? c=some o->h2.get? c=some o:=λc o hc e=>up c o (λq=>hc (by simp [q])) (hk c o hc e);have I3:Inv X pins σ (upd H s.heap.objs.size (.tup [x,y])) { s with heap:=h2 }:=KR (t2:=s.toks) I (ch:=[z,to,i1,i2]) (λb hb=>hf b (by simp only [ze9,zf0,or_false] at hb ⊢;rcases hb with q|q|q|q<;>simp [q])) ru1 ru2 hp2 kk;refine ⟨.ref s.heap.objs.size,_,I3,rfl,⟨_,x,y,hfr,rfl,rfl,λzs q=>by rw [q.inj I sq1];exact hx,λzs q=>by rw [q.inj I sq2];exact hy⟩,⟨hz2,up _ _ (Ne.symm ne.1.1) hi,let ⟨a,b,q⟩:=ho;⟨a,b,up _ _ (Ne.symm ne.1.2.1) q⟩,(zO (P:=X.prog) (w:=X.w) b1 i1 c1).keep p1 λo e=>up _ o (Ne.symm ne.1.2.2.1) e,(zO (P:=X.prog) (w:=X.w) b2 i2 c2).keep p2 λo e=>up _ o (Ne.symm ne.1.2.2.2) e⟩,λb hb=>?_⟩;rw [qO (λq=>?_)]
  ·exact free b hb
  ·subst q;obtain ⟨hz0,hi0,⟨a0,b0,ho0⟩,q1,q2⟩:=st;simp only [ze9,zf0,or_false] at hb;rcases hb with q|q|q|q|q
   ·exact absurd q (zj5 zlt)
   ·exact absurd q (zj5 (v7 hi0))
   ·exact absurd q (zj5 (v7 ho0))
   ·obtain ⟨o,e,_⟩:=(zO (P:=X.prog) (w:=X.w) b1 i1 c1).obj q1;exact absurd q (zj5 (v7 e))
   ·obtain ⟨o,e,_⟩:=(zO (P:=X.prog) (w:=X.w) b2 i2 c2).obj q2;exact absurd q (zj5 (v7 e))
 done:=by
  intro X hP hw hK hc i pins s σ H E I hf st hg;subst hP hw hK;obtain ⟨xs,ys,sq1,sq2,hend⟩:=hg;obtain ⟨its1,rv1,l1,z1⟩:=sq1.get I;obtain ⟨its2,rv2,l2,z2⟩:=sq2.get I;have e1:=rv1.length;have e2:=rv2.length;refine K7 (I.ok.hd hc) D st l1 l2 (by rcases hend with q|q;exact .inl (by simp;omega);exact .inr (by simp;omega)) λh' hk=>⟨rfl,?_⟩
  have free:∀ b∈[z,ti,to,i1,i2],H b=none:=λb hb=>(hf b hb).1;refine I.step (g':=s.gens) (d':=s.drawn) (t':=s.toks) (ch:=[z,to,i1,i2]) (λb hb=>?_) (λb o _ _ hcb e _=>hk b o hcb e) (λb o _ _ hcb e _=>⟨o.slots,hk b o hcb e⟩) (λ_ _ _ _ n=>n) (λb o hcb e=>⟨o,hk b o hcb e⟩) (λ_ _ e=>e) (λ_ _ _ e=>e) (λb ps e=>⟨#[],by rw [e];simp⟩) (λm hm=>?_) (λb u e=>?_) I.bare
  ·obtain ⟨f0,f1,f2,f3,f4,f5⟩:=hf b (by simp only [ze9,zf0,or_false] at hb ⊢;rcases hb with q|q|q|q<;>simp [q]);exact ⟨f3,f1,f4,f5⟩
  ·obtain ⟨o,es',ep,ho',r⟩:=hm;refine ⟨o,es',ep,hk _ o (λq=>?_) ho',r⟩;obtain ⟨f0,f1,_⟩:=hf X.env.locals (by simp only [ze9,zf0,or_false] at q ⊢;rcases q with q|q|q|q<;>simp [q]);exact f1 rfl
  ·refine (I.hok b u e).stay (λc v hcb q=>hk c v (λm=>?_) q) (λ_ q=>q) λ_ _ q=>q;have hn:=free c (by simp only [ze9,zf0,or_false] at m ⊢;rcases m with q|q|q|q<;>simp [q]);rcases hcb with q|q
   ·rw [q] at hn;rw [hn] at e;cases e
   ·rw [hn] at q;cases q
 self:=λA i s Q E st h=>wpAny_pyIter_zip st.1 h
theorem qlH {n:Addr} (h1:c1<n) (h2:c2<n):ZA (n+4) (n+2) (n+3) n (n+1) c1 c2:=by
 have k:∀ n c:Nat,c<n->c≠n+4/\c≠n+3/\c≠n/\c≠n+1:=λn c h=>by omega
 have d:∀ n:Nat,(([n+4,n+2,n+3,n,n+1]:List Nat)).Nodup:=λn=>by
  simp only [zj4,ze9,zf0,not_or,or_false,List.nodup_nil,and_true,not_false_eq_true];omega
 refine ⟨d n,?_,?_⟩
 ·simp only [ze9,zf0,not_or,or_false];exact k n c1 h1
 ·simp only [ze9,zf0,not_or,or_false];exact k n c2 h2
section
variable {a:Expr}
theorem qou {p pt:Pos} {k1:Nat} {ta:TA} (hg:Gl X "zip") (hm:X.mg "zip" = none) (ha:PA X [a,b] ta) (hs:autoParam (ze0 [a,b] X.env=[(false,eval a X.env),(false,eval b X.env)]) zA0._auto_1) (hs2:autoParam (ze0 [b] X.env=[(false,eval b X.env)]) zA0._auto_1) :
  PI X (.Tuple es k1 pt) (.Call (.Name "zip" p) [a,b] [] pos) (λσ H R=>ta σ H λvs H1=>∃ b1 b2 c1 c2 xs ys,vs=[.ref c1,.ref c2]/\SqB X.K b1 H1 c1 xs/\SqB X.K b2 H1 c2 ys/\R (Itz X.K b1 b2 c1 c2) H1):=by
 intro pins s σ H R I h;refine Call_ (UE I hg hm PyProof.Rows.boot_zip (zi9 (thn (ha pos pins s σ H _ I h) λus s1 ⟨vs,H1,I1,r1,q1⟩=>?_) (by rw [hs,hs2]) (by rw [hs2];rfl)));obtain ⟨b1,b2,c1,c2,xs,ys,rfl,sq1,sq2,q⟩:=q1;obtain ⟨u1,u2,rfl,e1,e2⟩:=qcN r1;cases (show u1=Value.ref c1 from e1);cases (show u2=Value.ref c2 from e2);obtain ⟨its1,rv1,l1,z1⟩:=sq1.get I1;obtain ⟨its2,rv2,l2,z2⟩:=sq2.get I1;refine qew l1 l2 λh' st hk=>wpAny_pyIter_zip st.1 ?_;refine ⟨s1.heap.objs.size+4,[s1.heap.objs.size+4,s1.heap.objs.size+2,s1.heap.objs.size+3,s1.heap.objs.size,s1.heap.objs.size+1],_,_,H1,rfl,I1.kept (t':=s1.toks) hk,qd3 (qlH (qjh l1) (qjh l2)),st,λc hc=>?_,q⟩;have hle:s1.heap.objs.size<=c:=by
  simp only [ze9,zf0,or_false] at hc;rcases hc with rfl|rfl|rfl|rfl|rfl<;>first|exact u9 _|exact Nat.le_add_right _ _
 exact I1.fpOk hle (I1.hok.fresh hle)
end
def zV (G:Gp):T->Option (List T)
 |.tup xs=>some xs
 |.ref p=>getL G p
 |_=>none
variable {us:List T}
theorem qaV (hr0:HR K G0 H0) (rx:Rp K H0 x v) (h:zV G0 x=some us) :
  ∃ b c,v=.ref c/\∀ G H,HR K G H->Kp G0 H0 G H->zV G x=some us->∃ vs,SqB K b H c vs/\Rps K H us vs:=by
 cases rx with
 |tup hs rs=>
  cases h;exact ⟨false,_,rfl,λG H hr k _=>⟨_,(SZ hr0 k hs:SqT K H _ _),rs.keep hr0 k⟩⟩
 |ref a=>exact ⟨true,a,rfl,λG H hr k hq=>let ⟨vs,h1,h2⟩:=zB hr (show getL G a=some us from hq);⟨vs,h1,h2⟩⟩
 |_=>cases h
def qb7 (us vs:List T):List T:=(us.zip vs).map λp=>.tup [p.1,p.2]
theorem SC {vs:List T} (h:(qb7 us vs)[i]?=some x):∃ a b,us[i]?=some a/\vs[i]?=some b/\x=.tup [a,b]:=by
 unfold qb7 at h;rw [ze5] at h;cases e:(us.zip vs)[i]? with
 |none=>rw [e] at h;cases h
 |some p=>
  rw [e] at h;have:=List.getElem?_zip_eq_some.mp e;exact ⟨p.1,p.2,this.1,this.2,by simpa using h.symm⟩
theorem qkK {K:Frg} {b1 b2:Bool} {c1 c2:Addr} {x y:T} {us vs:List T} {G0:Gp} {H0:Hp}
  (f1:∀ G H,HR K G H->Kp G0 H0 G H->zV G x=some us->∃ vs,SqB K b1 H c1 vs/\Rps K H us vs) (f2:∀ G H,HR K G H->Kp G0 H0 G H->zV G y=some vs->∃ ws,SqB K b2 H c2 ws/\Rps K H vs ws) :
  qka K (Itz K b1 b2 c1 c2) (qb7 us vs) (λG=>zV G x=some us/\zV G y=some vs) G0 H0:=by
 intro G H hr k ⟨h1,h2⟩;obtain ⟨p,sp,rp⟩:=f1 G H hr k h1;obtain ⟨q,sq,rq⟩:=f2 G H hr k h2;refine ⟨λi z hz=>?_,λi z v H' hz hy=>?_,⟨p,q,sp,sq,?_⟩⟩
 ·obtain ⟨a,b,ha,hb,_⟩:=SC hz;obtain ⟨v,hv,_⟩:=rp.get ha;obtain ⟨w,hw,_⟩:=rq.get hb;exact ⟨p,q,v,w,sp,sq,hv,hw⟩
 ·obtain ⟨a,b,ha,hb,rfl⟩:=SC hz;obtain ⟨t,v1,v2,ht,rfl,rfl,g1,g2⟩:=hy;obtain ⟨v,hv,rv⟩:=rp.get ha;obtain ⟨w,hw,rw'⟩:=rq.get hb;have e1:=(g1 p sp).symm.trans hv;have e2:=(g2 q sq).symm.trans hw;obtain rfl:v1=v:=Option.some.inj e1;obtain rfl:v2=w:=Option.some.inj e2;have kk:Kp G H G (upd H t (.tup [v1,v2])):=Kp.laid ht;exact ⟨.tup (SqT.of zn) (.cons (rv.keep hr kk) (.cons (rw'.keep hr kk) .nil)),hr.laid ht,kk⟩
 ·rw [← rp.length,← rq.length,show (qb7 us vs).length=min us.length vs.length by simp [qb7]];omega
def qbH (ta:TA3):TI3:=λτ G r=>ta τ G λxs G1=>match xs with
 |[x,y]=>(match zV G1 x,zV G1 y with|some us,some vs=>r (qb7 us vs) (λG=>zV G x=some us/\zV G y=some vs) G1|_,_=>False)
 |_=>False
section
variable {a:Expr}
def JD:List T->Gp->Q3->Prop:=λxs G q=>match xs with
 |[.ref p]=>(match getL G p with|some ys=>(match qhK ys with|some k=>q (.bl k) G|none=>False)|none=>False)
 |_=>False
theorem qb6 {K:Frg} {H:Hp}:∀ {ys:List T} {vs:List V} {k:Bool},Rps K H ys vs->qhK ys=some k->∃ ks:List Bool,vs=ks.map V.bl/\ks.all id=k
 |_,_,_,.nil,h=>by cases h;exact ⟨[],rfl,rfl⟩
 |y::ys,_,k,.cons a b,h=>by
  unfold qhK at h;split at h
  ·rename_i e;cases e
  ·rename_i j r e;cases e;split at h
   ·rename_i i ei;obtain ⟨ks,rfl,hk⟩:=qb6 b ei;cases a;cases h;exact ⟨j::ks,rfl,by rw [zn1,hk];rfl⟩
   ·cases h
  ·cases h
theorem SJ:qaP K JD (λxs H Q=>∃ (p:Addr) (ks:List Bool),xs=[.ref p]/\SqL K H p (ks.map V.bl)/\Q (.bl (ks.all id)) H):=λxs vs G H q Q hr rs h af=>by
 unfold JD at h;split at h
 ·rename_i p;obtain ⟨v,rfl,r⟩:=LC rs;cases r;split at h
  ·rename_i ys e0;split at h
   ·rename_i k e1;obtain ⟨us,hs,r2⟩:=zB hr e0;obtain ⟨ks,rfl,hk⟩:=qb6 r2 e1;exact ⟨p,ks,rfl,hs,by rw [hk];exact af _ G h _ H (.bl _) hr Kp.refl⟩
   ·exact h.elim
  ·exact h.elim
 ·exact h.elim
end
def qpU:Value->Bool
 |.type t=>t == "list"
 |_=>false
def DB:List (Addr×Obj)->Bool
 |[]=>true
 |p::r=>if qpU p.2.cls then false else DB r
theorem CN:∀ {K:List (Addr×Obj)} {a:Addr} {o:Obj},DB K=true->K.lookup a=some o->o.cls≠.type "list"
 |[],_,_,_,e=>by simp at e
 | (b,x)::r,a,o,h,e=>by
  unfold DB at h;split at h
  ·cases h
  ·rename_i hx;rw [zi6] at e;split at e
   ·cases e;intro z;rw [z] at hx;exact hx rfl
   ·exact CN h e
variable {ns:List Int}
theorem qaJ (hK:DB K=true) (hO:qpw H) (hS:SqL K H a (ns.map V.int)):∃ o,H a=some (.frz o (.lst (ns.map V.int))):=by
 rcases hS with (h|h)|⟨o,its,n,h1,h2,_⟩
 ·rcases hO a with z|⟨o,xs,z⟩<;>(rw [h] at z;cases z)
 ·exact h
 ·exact absurd h2 (CN hK h1)
def only (a:Addr) (ns:List Int):Gp:=λb=>if b=a then some (.frz (ns.map T.int)) else none
theorem qjR (h:∃ o,H a=some (.frz o (.lst (ns.map V.int)))):HR K (only a ns) H:=λb o e=>by
 unfold only at e;split at e
 ·rename_i hb;subst hb;cases e;exact ⟨_,h,Rps.ints ns⟩
 ·cases e
def TY:Sp3:=λts G q=>∃ (a:Addr) (ns:List Int),ts=[.ref a]/\G a=some (.frz (ns.map T.int))/\ns.length<=63/\∀ G',q (.bl true) G'
theorem qqN {l:PySem.W.OpenLaw} {k:Nat} {q:Program} {loose:List Str} {XP:(Str->Option Value)->Heap->Prop} {YP:World->Heap->Prop} {d:DefRec} {K:Params->xh1} {x:Str} (hn:l.most=some 63) (hdf:d.params.defaults=[]) (hr:Room k callerA)
  (hY:∀ (w:World) (h:Heap),YP w h->(K w.params).In h) (hK:∀ w:World,DB (K w.params)=true)
  (F:∀ (w:World) (mg:Str->Option Value) (fa:Addr) (h:Heap),(K w.params).In h->h.Ns zi2 mg->mg d.name=some (.ref fa) ->
   ∃ fd:FuncData,(∀ (s:Shared) (u:Value),BindsTo s fd ⟨[u],[]⟩ [(x,u)])/\∀ base:Heap,(K w.params).In base->base.Ns zi2 mg->FnOk l.prog w (K w.params) mg base CX0 k fa fd [x] (lSp (K w.params) TY)) :
  PySem.W.WalkO q loose XP YP l.row.toRowW d [] (λf vs=>PySem.call f vs):=
 L2.qiP (n:=63) (k:=k) (x:=x) (CX:=λ_=>CX0) (sp:=λw=>lSp (K w.params) TY) hn (by decide) hdf hr hY F
  (λw H a ns hl hO hS=>⟨[.ref a],only a ns,λt _=>t=.bl true,qjR (qaJ (hK w) hO hS),.cons (.ref a) .nil,⟨a,ns,rfl,by simp [only],hl,λ_=>rfl⟩,λt G' e v H' r _ _=>by subst e;cases r;rfl⟩) λ_ _ _ _ _ z=>z
theorem qia {P:Program} {w:World} {K:Frg} {mg:Str->Option Value} {base:Heap} {x qual:Str} {st:Stmt} {f:Addr} {fd:FuncData} {N ps:List Str} {k:Nat} {sp:Sp3} {t3:TS3} (F:Fun K x qual st f fd) (S:FnScope N ps (qz st))
  (body:∀ (cdv:Value) (A:Around) (outer:List Env) (s:Shared) (H:Hp) (E:XK),Room k (A.deeper (xg3 qual (qz st) s.heap.objs.size f cdv)) ->
   B3 (qas CX0 P w K mg base N qual (qz st) f cdv A outer s H E).nox (zy st) t3)
  (read:∀ ts G q,sp ts G q->ts.length=ps.length/\t3 { nx:=λ_ G'=>q .non G',rt:=q } (qo N ts) G):FnOk P w K mg base CX0 (k+1) f fd ps (lSp K sp):=by
 refine F.ok S (λvs H Q E ⟨ts,G,q,h1,h2,h3,h4⟩=>by rw [← h2.length];exact (read ts G q h3).1) λcdv A outer s H vs Q E hr ⟨ts,G,q,h1,h2,h3,h4⟩=>?_;refine ⟨_,body cdv A outer s H E hr,qo N ts,G,_,KP h1 h2,(read ts G q h3).2,⟨λτ' G' h' σ' H' rl' k'=>h4 _ G' h' _ H' .non rl'.hp k',h4,λ_ _ z=>z.elim,λ_ _ z=>z.elim⟩⟩
abbrev eh1 (h:Heap) (o1:Obj):Heap:=h.push o1
abbrev eh2 (h:Heap) (o1:Obj):Heap:=(eh1 h o1).push { cls:=.type "enumerate",data:=.fields #[.none,.bool false,.ref h.objs.size,rawInt 0,.none,.none] }
theorem qat (c:Addr) (o1:Obj) (ob:Obj) :
  Meets (Builtin.«enumerate.__new__» ⟨[.type "enumerate",.ref c],[]⟩) (λ_ R s=>s.heap.get? c=some ob /\
   (∀ (P:Program) (w:World) (A:Around) (Q:Value->Shared->Prop) (E:Value->Shared->Prop),Q (.ref s.heap.objs.size) { s with heap:=eh1 s.heap o1 }->wpAny (model P w) A (pyIter (.ref c)) Q E s) /\
   R (.ok (.ret (.ref (eh1 s.heap o1).objs.size))) { s with heap:=eh2 s.heap o1 }):=
 .of_wp λprog w A R s h=>by
  obtain ⟨hp,g,d,tk,os⟩:=s;obtain ⟨hl,h1,h⟩:=h;have hsub:=sub_enumerate;have k1:=λA Q E=>h1 prog w A Q E
  wp_walk using xk6 hl
  refine wpAny_stack_any λst=>y9 ?_;split
  ·rename_i c _ _ _ _ _;cases (c==Value.type "enumerate")
   ·wp_walk using xk6 hl,k1 _ _ _
    exact ⟨_,rfl,h⟩
   ·wp_walk using xk6 hl,k1 _ _ _
    exact ⟨_,rfl,h⟩
  ·wp_walk using xk6 hl,k1 _ _ _
   exact ⟨_,rfl,h⟩
theorem qeT {b:Bool} {c:Addr} {xs:Array Value} (q:LD b c xs h):∃ o,h.get? c=some o:=by
 cases b
 ·obtain ⟨o,e,_⟩:=(show h.IsTuple c xs from q);exact ⟨o,e⟩
 ·obtain ⟨o,e,_⟩:=(show h.IsList c xs from q);exact ⟨o,e⟩
theorem qcc {b:Bool} {c:Addr} {xs:Array Value} {Q:Value->Shared->Prop} (h1:LD b c xs s.heap)
  (q:∀ h',IsEnum h' (s.heap.objs.size+1) s.heap.objs.size 0 .none->qdD b s.heap.objs.size c 0 h'->(∀ c o,s.heap.get? c=some o->h'.get? c=some o)->Q (.ref (s.heap.objs.size+1)) { s with heap:=h' }) :
  wpAny (model P w) A (call (.type "enumerate") [.ref c]) Q E s:=by
 obtain ⟨ob,hob⟩:=qeT h1;refine callType_new F.called_enumerate (by decide) (F.typeCall_enumerate_1 _) (F.newCall_enumerate_1 _) (λobj=>F.args_object_init_2 obj _) F.entry_enumerate_new
  (qat c (zF b c) ob) ⟨hob,λP w A Q E q=>LL h1 q,?_⟩
 have e1:(eh1 s.heap (zF b c)).objs.size=s.heap.objs.size+1:=zi4 ..;have g2:(eh2 s.heap (zF b c)).get? (eh1 s.heap (zF b c)).objs.size=some _:=v6 _ rfl;have g1:(eh2 s.heap (zF b c)).get? s.heap.objs.size=some (zF b c):=v5 _ (v6 _ rfl);show _/\_;rw [e1] at g2 ⊢;refine ⟨⟨_,g2,rfl⟩,q _ g2 ?_ λc o e=>v5 _ (v5 _ e)⟩;cases b<;>exact ⟨_,g1,rfl,rfl⟩
theorem qd9 {P:Program} {w:World} (hh:A.handled=none) (b:Bool) (it c:Addr) (hne:c≠it) (xs:Array Value) :
  Draws P w A it [it,c] xs.size (λi v=>xs[i]?=some v) (λi h=>qdD b it c i h/\LD b c xs h) where
 live:=λi h st=>let ⟨o,e,_⟩:=(zO (P:=P) (w:=w) b it c).obj st.1;⟨o,e⟩
 frame:=λi h h' st hk=>⟨(zO (P:=P) (w:=w) b it c).keep st.1 λo e=>hk it (by simp) o e,(zO (P:=P) (w:=w) b it c).hkeep st.2 λo e=>hk c (by simp) o e⟩
 item:=λi s Q E hi st hQ=>by
  refine (zO (P:=P) (w:=w) b it c).item st.1 st.2 (x:=xs[i]) (by simp [hi]) λh' st' sb=>?_;exact hQ _ h' s.toks (by simp [hi]) ⟨st',(zO (P:=P) (w:=w) b it c).hkeep st.2 λo e=>(sb.2 c hne).trans e⟩ sb
 done:=λs Q E st hE=>(zO (P:=P) (w:=w) b it c).done hh st.1 st.2 (by simp) hE
theorem SE {P:Program} {w:World} {A:Around} {s:Shared} {E:Value->Shared->Prop} {b:Bool} {e it c:Addr} {i:Nat} {xs:Array Value} {old:Value} {Q:Option Value->Shared->Prop} (hh:A.handled=none) (he:IsEnum s.heap e it i old) (p1:qdD b it c i s.heap) (l1:LD b c xs s.heap) (hx:xs[i]?=none)
  (hQ:∀ h',Heap.ExtBut it s.heap h'->Q none { s with heap:=h' }):wpAny (model P w) A (pyNext (.ref e)) Q E s:=by
 have hT:s.TypeIs (.ref e) "enumerate" := ⟨_,he,rfl⟩
 unfold pyNext;refine y8 (wpAny_attempt (zk9 (name:=ze1 "__next__") hT F.slot_enumerate_next
  (xb8 F.slot_enumerate_next hT F.entry_enumerate_next ?_ (F.args_enumerate_next_1 _))))
 show wpAny _ _ (field (.ref e) 2 >>= _) _ _ _;refine y8 (zj3 he rfl (x:=.ref it) rfl ?_);refine y8 ((zO (P:=P) (w:=w) b it c).done (show A.in1.handled=none from hh) p1 l1 hx λh' x he' hx'=>?_);obtain ⟨o,ho,hc⟩:=hx';refine y8 (wpAny_isInstance (T:="StopIteration") (b:=true) ⟨o,ho,hc⟩ isSubtype_stop ?_);exact y9 (hQ _ he')
def Ite (K:Frg) (b:Bool) (c:Addr):It:=
  ⟨λi H=>∃ xs x,SqB K b H c xs/\xs[i]?=some x,
   λi H v H'=>∃ p x,H p=none/\v=.ref p/\H'=upd H p (.tup [.int i,x])/\(∀ xs,SqB K b H c xs->xs[i]?=some x),
   λi H=>∃ xs,SqB K b H c xs/\xs.length<=i⟩
def qoL (b:Bool) (e it c:Addr) (k:Nat) (h:Heap):Prop:=(∃ old,IsEnum h e it k old)/\qdD b it c k h
theorem qcC {b:Bool} {e it c:Addr} (n1:e≠it) (n2:c≠e) (n3:c≠it):Turn P w K (.Tuple es k1 pt) (Ite K b c) [e,it] e (qoL b e it c) where
 mem:=by simp
 obj:=λi h ⟨⟨old,he⟩,p1⟩ d hd=>by
  simp only [ze9,zf0,or_false] at hd;rcases hd with rfl|rfl
  ·exact ⟨_,he,λv q=>by cases q⟩
  ·exact (zO (P:=P) (w:=w) b d c).obj p1
 keep:=λi h h' ⟨⟨old,he⟩,p1⟩ k=>⟨⟨old,k e (by simp) _ he⟩,(zO (P:=P) (w:=w) b it c).keep p1 λo e=>k it (by simp) o e⟩
 item:=by
  intro X hP hw hK hc i pins s σ H E I hf st hg;subst hP hw hK;obtain ⟨xs,x,sq,hx⟩:=hg;obtain ⟨its,rv,l1,z1⟩:=sq.get I;obtain ⟨u,hu,ru⟩:=rv.get hx;obtain ⟨⟨old,he⟩,p1⟩:=st;have hil:i<its.toArray.size:=by have:=(zb6 hu).1;simpa using this
  refine wpAny_pyNext_enum_itemD (qd9 (show X.A.in1.handled=none from I.ok.hd hc) b it c n3 its.toArray) he ⟨p1,l1⟩ hil n1 (by simp only [ze9,zf0,or_false,not_or];exact ⟨n1,Ne.symm n2⟩) λy h' tk hy ho st' ht hsz hk=>?_;have hy':y=u:=by
   have:its.toArray[i]?=some u:=by simpa using hu
   rw [this] at hy;exact (Option.some.inj hy).symm
  subst hy';have hfr:H s.heap.objs.size=none:=I.fresh;have free:∀ b∈[e,it],H b=none:=λb hb=>(hf b hb).1;refine ⟨_,rfl,wpAny_letOwnedTupleGo_enum ho λh2 hz2 s2=>?_⟩;have elt:e<s.heap.objs.size:=v7 he;have hp2:h2.get? s.heap.objs.size=some { cls:=.type "tuple",data:=.seq #[.int i tk,y] }:=(s2.2 _ (zj5 elt)).trans ht;have up:∀ c o,c≠e->h'.get? c=some o->h2.get? c=some o:=λc o hc e=>(s2.2 c hc).trans e;have kk:∀ c o,c∉[e,it]->s.heap.get? c=some o->h2.get? c=some o:=λc o hc q=>by
   simp only [ze9,zf0,or_false,not_or] at hc;exact up c o hc.1 (hk c o hc.1 hc.2 q)
  have I3:Inv X pins σ (upd H s.heap.objs.size (.tup [.int i,x])) { s with heap:=h2,toks:=tk+1 }:=KR I hf ⟨tk,rfl⟩ ru hp2 kk;refine ⟨.ref s.heap.objs.size,_,I3,rfl,⟨_,x,hfr,rfl,rfl,λzs q=>by rw [q.inj I sq];exact hx⟩,⟨⟨_,by push_cast;exact hz2⟩,(zO (P:=X.prog) (w:=X.w) b it c).keep st'.1 λo e=>up _ o (Ne.symm n1) e⟩,λb hb=>?_⟩;rw [qO (λq=>?_)]
  ·exact free b hb
  ·subst q;simp only [ze9,zf0,or_false] at hb;rcases hb with q|q
   ·exact absurd q (zj5 elt)
   ·obtain ⟨o,e,_⟩:=(zO (P:=X.prog) (w:=X.w) b it c).obj p1;exact absurd q (zj5 (v7 e))
 done:=by
  intro X hP hw hK hc i pins s σ H E I hf st hg;subst hP hw hK;obtain ⟨xs,sq,hend⟩:=hg;obtain ⟨its,rv,l1,z1⟩:=sq.get I;obtain ⟨⟨old,he⟩,p1⟩:=st;have e1:=rv.length;have free:∀ b∈[e,it],H b=none:=λb hb=>(hf b hb).1;refine SE (I.ok.hd hc) he p1 l1 (by simp;omega) λh' hk0=>⟨rfl,?_⟩
  have hk:∀ c o,c∉[e,it]->s.heap.get? c=some o->h'.get? c=some o:=λc o hcb q=>hk0 c o (by simp only [ze9,zf0,or_false,not_or] at hcb;exact hcb.2) q;refine I.step (g':=s.gens) (d':=s.drawn) (t':=s.toks) (ch:=[e,it]) (λb hb=>?_) (λb o _ _ hcb e _=>hk b o hcb e) (λb o _ _ hcb e _=>⟨o.slots,hk b o hcb e⟩) (λ_ _ _ _ n=>n) (λb o hcb e=>⟨o,hk b o hcb e⟩) (λ_ _ e=>e) (λ_ _ _ e=>e) (λb ps e=>⟨#[],by rw [e];simp⟩) (λm hm=>?_) (λb u e=>?_) I.bare
  ·obtain ⟨f0,f1,f2,f3,f4,f5⟩:=hf b hb;exact ⟨f3,f1,f4,f5⟩
  ·obtain ⟨o,es',ep,ho',r⟩:=hm;refine ⟨o,es',ep,hk _ o (λq=>?_) ho',r⟩;obtain ⟨f0,f1,_⟩:=hf X.env.locals q;exact f1 rfl
  ·refine (I.hok b u e).stay (λc v hcb q=>hk c v (λm=>?_) q) (λ_ q=>q) λ_ _ q=>q;have hn:=free c m;rcases hcb with q|q
   ·rw [q] at hn;rw [hn] at e;cases e
   ·rw [hn] at q;cases q
 self:=λA i s Q E st h=>let ⟨⟨old,he⟩,_⟩:=st;wpAny_pyIter_enum he h
section
variable {a:Expr}
theorem qig {p pt:Pos} {k1:Nat} {ta:TA} (hg:Gl X "enumerate") (hm:X.mg "enumerate" = none) (ha:PA X [a] ta) (hs:autoParam (ze0 [a] X.env=[(false,eval a X.env)]) zA0._auto_1) :
  PI X (.Tuple es k1 pt) (.Call (.Name "enumerate" p) [a] [] pos) (λσ H R=>ta σ H λvs H1=>∃ b1 c1 xs,vs=[.ref c1]/\SqB X.K b1 H1 c1 xs/\R (Ite X.K b1 c1) H1):=by
 intro pins s σ H R I h;refine Call_ (UE I hg hm PyProof.Rows.boot_enumerate (zi9 (thn (ha pos pins s σ H _ I h) λus s1 ⟨vs,H1,I1,r1,q1⟩=>?_) (by rw [hs];rfl) (by rfl)));obtain ⟨b1,c1,xs,rfl,sq1,q⟩:=q1;obtain ⟨u1,rfl,e1⟩:=W0 r1;cases (show u1=Value.ref c1 from e1);obtain ⟨its1,rv1,l1,z1⟩:=sq1.get I1;refine qcc l1 λh' he hit hk=>wpAny_pyIter_enum he ?_;have lt:=qjh l1;have ne3:∀ n c:Nat,c<n->n+1≠n/\c≠n+1/\c≠n:=λn c h=>by omega
 obtain ⟨m1,m2,m3⟩:=ne3 _ _ lt;refine ⟨s1.heap.objs.size+1,[s1.heap.objs.size+1,s1.heap.objs.size],_,_,H1,rfl,I1.kept (t':=s1.toks) hk,qcC m1 m2 m3,⟨⟨_,he⟩,hit⟩,λc hc=>?_,q⟩;have hle:s1.heap.objs.size<=c:=by
  simp only [ze9,zf0,or_false] at hc;rcases hc with rfl|rfl<;>first|exact u9 _|exact Nat.le_add_right _ _
 exact I1.fpOk hle (I1.hok.fresh hle)
end
def jN (k:Nat):List T->List T
 |[]=>[]
 |x::r=>.tup [.int (k:Int),x]::jN (k+1) r
def qb3 (us:List T):List T:=jN 0 us
theorem DW:∀ {us:List T} {k i:Nat} {x:T},(jN k us)[i]?=some x->∃ a,us[i]?=some a/\x=.tup [.int ((k+i:Nat):Int),a]
 |[],_,_,_,h=>by simp [jN] at h
 |u::us,k,0,x,h=>by simp [jN] at h;exact ⟨u,rfl,by simp [← h]⟩
 |u::us,k,i+1,x,h=>by
  simp [jN] at h;obtain ⟨a,ha,hx⟩:=DW h;exact ⟨a,by simpa using ha,by rw [hx];congr 4;omega⟩
theorem DO:∀ (us:List T) (k:Nat),(jN k us).length=us.length
 |[],_=>rfl
 |u::us,k=>by simp [jN,DO us]
theorem XF (us:List T):(qb3 us).length=us.length:=DO us 0
theorem UH (h:(qb3 us)[i]?=some x):∃ a,us[i]?=some a/\x=.tup [.int (i:Int),a]:=by
 obtain ⟨a,ha,hx⟩:=DW h;exact ⟨a,ha,by rw [hx];congr 4;omega⟩
theorem qpc {K:Frg} {b1:Bool} {c1:Addr} {x:T} {us:List T} {G0:Gp} {H0:Hp}
  (f1:∀ G H,HR K G H->Kp G0 H0 G H->zV G x=some us->∃ vs,SqB K b1 H c1 vs/\Rps K H us vs) :
  qka K (Ite K b1 c1) (qb3 us) (λG=>zV G x=some us) G0 H0:=by
 intro G H hr k h1;obtain ⟨p,sp,rp⟩:=f1 G H hr k h1;refine ⟨λi z hz=>?_,λi z v H' hz hy=>?_,⟨p,sp,?_⟩⟩
 ·obtain ⟨a,ha,_⟩:=UH hz;obtain ⟨v,hv,_⟩:=rp.get ha;exact ⟨p,v,sp,hv⟩
 ·obtain ⟨a,ha,rfl⟩:=UH hz;obtain ⟨t,v1,ht,rfl,rfl,g1⟩:=hy;obtain ⟨v,hv,rv⟩:=rp.get ha;have e1:=(g1 p sp).symm.trans hv;obtain rfl:v1=v:=Option.some.inj e1;have kk:Kp G H G (upd H t (.tup [.int i,v1])):=Kp.laid ht;exact ⟨.tup (SqT.of zn) (.cons (.int _) (.cons (rv.keep hr kk) .nil)),hr.laid ht,kk⟩
 ·rw [← rp.length,XF];exact u9 _
def C9 (ta:TA3):TI3:=λτ G r=>ta τ G λxs G1=>match xs with
 |[x]=>(match zV G1 x with|some us=>r (qb3 us) (λG=>zV G x=some us) G1|_=>False)
 |_=>False
section
variable {a:Expr}
end
section
variable {a:Expr}
def VH (i:Nat) (r:R3) (te:TE3):TS3:=λd τ G=>match τ[i]? with
 |some (some x)=>te τ G λy G1=>r x y G1 λz G2=>d.nx (τ.set i (some z)) G2
 |_=>False
def qj3 (ns:List Int):Prop:=ns.length<=1000000/\∀ x∈ns,-1000000000000<=x/\x<=1000000000000
theorem LG (ns:List Int):∀ j,j<=ns.length->preSum (λi=>ns.getD i 0) j=(ns.take j).sum
 |0,_=>by simp [preSum]
 |j+1,h=>by
  have hj:j<ns.length:=h;unfold preSum;rw [LG ns j (by omega),xa9 hj,List.sum_append,ze4,u7 hj];simp
theorem qhC:∀ (ns:List Int),(∀ x∈ns,-1000000000000<=x/\x<=1000000000000)->-1000000000000*(ns.length:Int)<=ns.sum/\ns.sum<=1000000000000*(ns.length:Int)
 |[],_=>by simp
 |n::r,h=>by
  have h1:=h n za7;have h2:=qhC r λx hx=>h x (za0 _ hx);rw [List.sum_cons,ze8];omega
theorem UD (hc:X.calm=true):JW X (.builtin "sum") (λxs H Q=>∃ (p:Addr) (ns:List Int),xs=[.ref p]/\SqL X.K H p (ns.map V.int)/\qj3 ns/\Q (.int ns.sum) H):=by
 intro pins s σ H xs us Q I r h;obtain ⟨p,ns,rfl,hq,ok,q⟩:=h;obtain ⟨u,rfl,rp⟩:=W0 r;cases (show u=Value.ref p from rp);obtain ⟨its,rv,pl,hz⟩:=I.list hq;have hlen:its.length=ns.length:=by have:=rv.length;simp at this;omega
 have hp:p<s.heap.objs.size:=by obtain ⟨o,n,e,_⟩:=pl;exact v7 e
 have bd:∀ j,j<=ns.length->InLong (preSum (λi=>ns.getD i 0) j):=λj hj=>by
  rw [LG ns j hj];have:=qhC (ns.take j) λx hx=>ok.2 x (List.mem_of_mem_take hx);have hl:(ns.take j).length<=1000000:=za4 (by rw [zj7];omega) ok.1;unfold InLong;omega
 refine call_sum_walk (xa8 pl.isList ⟨s.heap.objs.size,_,_,_,_,_,λi=>ns.getD i 0,rfl,Walks.list (A:=X.A.in1) (show X.A.in1.handled=none from I.ok.hd hc) s.heap.objs.size p (za5 hp) its.toArray,⟨⟨_,v6 _ rfl,rfl,rfl⟩,?_⟩,λb hb=>?_,λi v hv=>?_,λj hj=>?_,λh' tk t' hk=>?_⟩)
 ·obtain ⟨o,n,e,c,_,d⟩:=pl;exact ⟨o,v5 _ e,c,n,d⟩
 ·have lt1:∀ n c:Nat,c<n->c<n+1:=λn c h=>by omega
  rw [show (({ s with heap:=s.heap.push _ }:Shared).heap.objs.size)=s.heap.objs.size+1 from zi4 ..];simp only [ze9,zf0,or_false] at hb;rcases hb with rfl|rfl
  ·exact zp7 _
  ·exact lt1 _ _ hp
 ·have hv':its[i]?=some v:=by simpa using hv
  obtain ⟨hi,_⟩:=zb6 hv';have hi':i<ns.length:=by omega
  obtain ⟨u,hu,ru⟩:=rv.get (i:=i) (show (ns.map V.int)[i]?=some (V.int (ns[i])) by simp [hi']);rw [hv'] at hu;cases hu;obtain ⟨t,rfl⟩:=ru;exact ⟨t,by show Value.int ns[i] t=Value.int (ns.getD i 0) t;rw [ze4,u7 hi'];rfl⟩
 ·have hj':j<ns.length:=by rw [ze3] at hj;omega
  refine ⟨?_,bd _ hj'⟩;have:=ok.2 (ns.getD j 0) (by rw [ze4,u7 hj'];exact za8 hj');show InLong (ns.getD j 0);unfold InLong;omega
 ·refine ⟨.int _,H,?_,⟨_,rfl⟩,by rw [ze3,hlen,LG ns _ (u9 _),zp8];exact q⟩;exact I.kept (h':=h') (t':=tk) λb o e=>hk b o (by simp;exact za5 (v7 e)) (v5 _ e)
def XB:List T->Option (List Int)
 |[]=>some []
 |.int i::r=>(match XB r with|some ns=>some (i::ns)|none=>none)
 |_=>none
theorem Q7 (ns:List Int):XB (ns.map T.int)=some ns:=by
 induction ns with
 |nil=>rfl
 |cons n r ih=>simp [XB,ih]
theorem YH:∀ {xs:List T} {ns:List Int},XB xs=some ns->xs=ns.map T.int
 |[],_,h=>by simp [XB] at h;subst h;rfl
 |x::r,ns,h=>by
  unfold XB at h;split at h
  ·rename_i e;cases e
  ·rename_i i r' e;cases e;split at h
   ·rename_i ms e2;cases h;rw [YH e2];rfl
   ·cases h
  ·cases h
def qj7:List T->Gp->Q3->Prop:=λxs G q=>match xs with
 |[.ref p]=>(match getL G p with|some ys=>(match XB ys with|some ns=>qj3 ns/\q (.int ns.sum) G|none=>False)|none=>False)
 |_=>False
theorem J7 {K:Frg} {H:Hp}:∀ {ns:List Int} {vs:List V},Rps K H (ns.map T.int) vs->vs=ns.map V.int
 |[],_,r=>by cases r;rfl
 |n::ns,_,r=>by
  cases r with
  |cons a b=>cases a;rw [J7 b];rfl
theorem qa2:qaP K qj7 (λxs H Q=>∃ (p:Addr) (ns:List Int),xs=[.ref p]/\SqL K H p (ns.map V.int)/\qj3 ns/\Q (.int ns.sum) H):=λxs vs G H q Q hr rs h af=>by
 unfold qj7 at h;split at h
 ·rename_i p;obtain ⟨v,rfl,r⟩:=LC rs;cases r;split at h
  ·rename_i ys e0;split at h
   ·rename_i ns e1;obtain ⟨us,hs,r2⟩:=zB hr e0;have:=YH e1;subst this;have:=J7 r2;subst this;exact ⟨p,ns,rfl,hs,h.1,af _ G h.2 _ H (.int _) hr Kp.refl⟩
   ·exact h.elim
  ·exact h.elim
 ·exact h.elim
def U1:List T->Gp->Q3->Prop:=λxs G q=>match xs with
 |[.ref p]=>(match getL G p with|some ys=>(match qpu ys with|some k=>q (.bl k) G|none=>False)|none=>False)
 |_=>False
end
theorem qdw {i:Nat} {y:Str} {py spos:Pos} {elt tg iter:Expr} {ifs:List Expr} {scope:Scope} {pos:Pos} {N':List Str} {m:List (Option Nat)} {wi:TI} {g:TG} {tif:TT} {te:TE} (hc:X.calm=true) (hN:X.N.Nodup) (hi:PI X tg iter wi)
  (hg:∀ s H fp,PG (qv X N' scope s H fp) tg g) (hf:∀ s H fp,PF (qv X N' scope s H fp) ifs tif) (he:∀ s H fp,PE (qv X N' scope s H fp) elt te)
  (hsc:autoParam (qaI X.env.scope scope=true) zA2._auto_1) (hcap:autoParam (YU X.N N' scope m=true) zA2._auto_1) (hs:∀ x,zf1 iter X.env x=pure x) (hiy:X.N[i]?=some y) (hl:X.env.scope.names.lookup y=some .local)
  (hsw:xg7 (.ListComp elt [⟨tg,iter,ifs,0⟩] scope pos) (some (.Name y py)) spos.line X.env=pure true) :
  PS X (.Assign [.Name y py] (.ListComp elt [⟨tg,iter,ifs,0⟩] scope pos) spos) (qpC (tLG wi g tif (tAp te) m) (qdG i)):=by
 intro pins s σ H D I h;rw [exec_Assign_Name_used _ _ _ _ hsw];refine y8 (zp5 (y8 ?_));show wpAny _ X.A (do let _←comprehension (.ListComp elt [⟨tg,iter,ifs,0⟩] scope pos) scope X.env _ (newList []) false (eval iter X.env) (some (xi4 (.Name y py) X.env))) _ _ s;refine y8 (v4 (RR (gs:=[]) (bd:=apB elt) (use:=some (xi4 (.Name y py) X.env)) (QD:=λD' H'=>D.nx (σ.set i (some (.ref D'))) H') (Qc:=λ_ s'=>∃ σ' H',Inv X pins σ' H' s'/\D.nx σ' H') hc hi (λ_ _ _=>rfl) hg hf (λs H fp D kk=>qiO (λ_ _ z=>z) (he s H fp)) hsc hcap hs I h λD' s3 H3 fp s6 H6 σ6 r I3 f3 I6 q=>?_) (λ_ s' hq=>y9 (y9 hq)) λ_ _ e=>e);have I7:Inv X pins σ H6 s6:=EA (h2:=s6.heap) I3 f3 I6 ⟨rfl,λ_ _=>rfl⟩;obtain ⟨mm,hn6,_⟩:=I6.loc;have hfC:LB X pins H6 s3.heap.objs.size:=I3.fpOk (u9 _) I6.free;obtain ⟨f0,f1,f2,f3',f4,f5⟩:=hfC;show wpAny _ X.A (xi4 (.Name y py) X.env (.ref D')) _ _ _;refine wpAny_assign_Name (XN I7 hN hiy (.inl hl) (v:=.ref D') rfl (λs8 I8 hch=>?_) (.inr hl));obtain ⟨a,sb,ha⟩:=hch;have hne:s3.heap.objs.size≠a:=by
  rcases ha with rfl|ha
  ·exact f1
  ·exact Ne.symm (f4 _ _ ha)
 refine ⟨mm,hn6.sameBut sb hne,λh' sb'=>⟨_,_,I8.turned (t':=s8.toks) (λb o hb e=>(sb'.2 b hb).trans e) f0 f1 f3' f4 f5,q⟩⟩
end L3
set_option autoImplicit true
namespace L3
open PySem PySem.Spec PyProof.Rows L2
structure jE3 (X:Cx) (e:Expr) (t:TE3):Prop where h:E3 X e t
structure jC3 (X:Cx) (e:Expr) (t:TT3):Prop where h:C3 X e t
structure jW3 (X:Cx) (e:Expr) (t:TT3):Prop where h:W3 X e t
structure jA3 (X:Cx) (e:List Expr) (t:TA3):Prop where h:A3 X e t
structure jP3 (X:Cx) (e:Option Expr) (t:TO3):Prop where h:P3 X e t
structure jS3 (X:Cx) (e:Stmt) (t:TS3):Prop where h:S3 X e t
structure jB3 (X:Cx) (e:List Stmt) (t:TS3):Prop where h:B3 X e t
structure jG3 (X:Cx) (e:Expr) (t:TG3):Prop where h:G3 X e t
structure jGs3 (X:Cx) (e:List Expr) (t:M0):Prop where h:Gs3 X e t
structure jI3 (X:Cx) (tg e:Expr) (t:TI3):Prop where h:I3 X tg e t
structure jF3 (X:Cx) (e:List Expr) (t:TT3):Prop where h:F3 X e t
theorem qb {X:Cx} (i:Nat) {x:Str} {pos:Pos} (hN:autoParam (X.N[i]?=some x) zA0._auto_1) (hv:Vis X.env.scope x:=by first|exact Or.inl rfl|exact Or.inr (Or.inl rfl)|exact Or.inr (Or.inr rfl)) (hd:autoParam ((x==("__debug__" : Str))=false) zA1._auto_1)
  (hcd:autoParam ((x==("__classdict__" : Str))=false) zA1._auto_1):jE3 X (.Name x pos) (v3 i):=⟨by
 refine D0 (qly (i:=i) hN hv hd hcd) λσ H Q ⟨τ,G,q,r,h,af⟩=>?_;unfold v3 at h;split at h
 ·rename_i t e;obtain ⟨v,e2,rv⟩:=r.st i t e;exact ⟨v,e2,af t G h v H rv r.hp Kp.refl⟩
 ·exact h.elim⟩
variable {X:Cx}
theorem qd {i:Int} {j pos}:jE3 X (.Constant (.int i) j pos) (c3 (.int i)):=⟨e_c qmb λ_=>.int i⟩
theorem VM {b:Bool} {j pos}:jE3 X (.Constant (.bool b) j pos) (c3 (.bl b)):=⟨e_c qqa λ_=>.bl b⟩
theorem DZ {j pos}:jE3 X (.Constant .none j pos) (c3 .non):=⟨e_c qpf λ_=>.non⟩
variable {x:Str}
theorem qG {j pos}:jE3 X (.Constant (.str x) j pos) (c3 (.str x)):=⟨e_c qfA λ_=>.str x⟩
variable {ta tb:TE3} {pos:Pos} {a b:Expr}
theorem zA {op:CmpOp} {r3:R3} {r:R2} (ho:OpR X (zi1 op) r) (hr:SA X.K r3 r) (ha:jE3 X a ta) (hb:jE3 X b tb) (hm:xc9 op b=false):jE3 X (.Compare a [op] [b] pos) (o3 r3 ta tb):=⟨have ha:=ha.h;have hb:=hb.h;D0 (qjO ho ha hb hm) λ_ _ _ h=>qd1 hr h⟩
theorem qA {op:CmpOp} {r3:R3} {r:R2} (ho:OpR X (zi1 op) r) (hr:SA X.K r3 r) (ha:jE3 X a ta) (hb:jE3 X b tb) (hm:xc9 op b=false):jC3 X (.Compare a [op] [b] pos) (tb3 (o3 r3 ta tb)):=⟨have ha:=ha.h;have hb:=hb.h;qpq (qa1 ho ha hb hm) λ_ _ _ h=>qim (λ_ _ _=>qd1 hr) h⟩
theorem M4 {ta:TE3} {tb:TE3} {tc:TE3} {pos:Pos} {a:Expr} {b:Expr} {c:Expr} {X:Cx} {op op':CmpOp} {r3 r3':R3} {r r':R2} (ho:OpR X (zi1 op) r) (hr:SA X.K r3 r) (ho':OpR X (zi1 op') r') (hr':SA X.K r3' r') (ha:jE3 X a ta) (hb:jE3 X b tb) (hc:jE3 X c tc)
  (hm:autoParam (lastMarks [op,op'] [b,c]=false) zA8._auto_1):jE3 X (.Compare a [op,op'] [b,c] pos) (ch3 r3 r3' ta tb tc):=⟨have ha:=ha.h;have hb:=hb.h;have hc:=hc.h;D0 (qeU ho ho' ha hb hc hm) λ_ _ _ h=>qqL hr hr' h⟩
theorem DF (ha:jE3 X a ta) (hb:jE3 X b tb):jE3 X (.BinOp a .Sub b pos) (o3 (iI (·-·)) ta tb):=⟨have ha:=ha.h;have hb:=hb.h;qee qn2 qfK ha hb⟩
theorem qY (ha:jE3 X a ta) (hb:jE3 X b tb):jE3 X (.BinOp a .Mult b pos) (o3 (iC j9 (·*·)) ta tb):=⟨have ha:=ha.h;have hb:=hb.h;qee ql6 RB ha hb⟩
theorem jJ (ha:jE3 X a ta) (hb:jE3 X b tb):jE3 X (.BinOp a .Mod b pos) (o3 (iC (λ_ j=>0<j) (·%·)) ta tb):=⟨have ha:=ha.h;have hb:=hb.h;qee qnM RB ha hb⟩
theorem DS (ha:jE3 X a ta) (hb:jE3 X b tb):jE3 X (.BinOp a .FloorDiv b pos) (o3 (iC qdr (·/·)) ta tb):=⟨have ha:=ha.h;have hb:=hb.h;qee qhY RB ha hb⟩
theorem qo2 (ha:jE3 X a ta) (hb:jE3 X b tb):jE3 X (.BinOp a .Pow b pos) (o3 (iC qcK (λi j=>i ^ j.toNat)) ta tb):=⟨have ha:=ha.h;have hb:=hb.h;qee qm1 RB ha hb⟩
theorem R9 (ha:jE3 X a ta) (hb:jE3 X b tb):jE3 X (.BinOp a .BitAnd b pos) (o3 (iI zj0) ta tb):=⟨have ha:=ha.h;have hb:=hb.h;qee qkI qfK ha hb⟩
theorem M3 (ha:jE3 X a ta) (hb:jE3 X b tb):jE3 X (.BinOp a .LShift b pos) (o3 (iC qcK (λi j=>i*2 ^ j.toNat)) ta tb):=⟨have ha:=ha.h;have hb:=hb.h;qee qmw RB ha hb⟩
theorem qmV (ha:jE3 X a ta) (hb:jE3 X b tb):jE3 X (.BinOp a .RShift b pos) (o3 (iC (λ_ j=>0<=j) (λi j=>i/2 ^ j.toNat)) ta tb):=⟨have ha:=ha.h;have hb:=hb.h;qee qmm RB ha hb⟩
theorem DU (ha:jE3 X a ta):jE3 X (.UnaryOp .USub a pos) (u3 YD ta):=⟨have ha:=ha.h;qsh qnr qi7 ha⟩
variable {tA:TT3}
theorem qaW (ha:jC3 X a tA):jW3 X (.BoolOp .And [a] pos) tA:=⟨have ha:=ha.h;qjB ha⟩
theorem CU (ha:jC3 X a tA):jW3 X (.BoolOp .Or [a] pos) tA:=⟨have ha:=ha.h;qpb ha⟩
theorem qe2 {jz:List Expr} {tB:TT3} (ha:jC3 X a tA) (hb:jW3 X (.BoolOp .And (b::jz) pos) tB):jW3 X (.BoolOp .And (a::b::jz) pos) (V4 tA tB):=⟨have ha:=ha.h;have hb:=hb.h;qrH (qoE ha hb) λ_ _ _ ⟨τ,G,q,rl,h,af⟩=>CP rl h λk G1 h1 H1 hr1 k1 rl1=>by
  cases k with
  |true=>rw [if_pos rfl] at h1 ⊢;exact ⟨τ,G1,q,rl1,h1,af.back k1⟩
  |false=>rw [if_neg v8] at h1 ⊢;exact af _ G1 h1 H1 hr1 k1⟩
theorem SX {jz:List Expr} {tB:TT3} (ha:jC3 X a tA) (hb:jW3 X (.BoolOp .Or (b::jz) pos) tB):jW3 X (.BoolOp .Or (a::b::jz) pos) (or3 tA tB):=⟨have ha:=ha.h;have hb:=hb.h;qrH (qqC ha hb) λ_ _ _ ⟨τ,G,q,rl,h,af⟩=>CP rl h λk G1 h1 H1 hr1 k1 rl1=>by
  cases k with
  |true=>rw [if_pos rfl] at h1 ⊢;exact af _ G1 h1 H1 hr1 k1
  |false=>rw [if_neg v8] at h1 ⊢;exact ⟨τ,G1,q,rl1,h1,af.back k1⟩⟩
theorem Q6 (ha:jC3 X a tA):jC3 X (.UnaryOp .Not a pos) (V1 tA):=⟨have ha:=ha.h;qpq (qnb ha) λ_ _ _ ⟨τ,G,q,rl,h,af⟩=>CP rl h λk G1 h1 H1 hr1 k1 rl1=>af _ G1 h1 H1 hr1 k1⟩
variable {e:Expr}
theorem jh {t:TE3} (h:jE3 X e t) (he:autoParam (∀ whole,isTrue e X.env whole=(do let v←whole;standAt e.pos;xf7 [v] (truthy v))) zA3._auto_1):jC3 X e (tb3 t):=⟨have h:=h.h;qpq (qlA h he) λ_ _ _ h=>qim (λ_ _ _ h=>h) h⟩
theorem QE {op} (h:jE3 X a ta):jE3 X (.BoolOp op [a] pos) ta:=⟨have h:=h.h;qoZ h⟩
theorem jI {jz:List Expr} (ha:jE3 X a ta) (hb:jE3 X (.BoolOp .And (b::jz) pos) tb):jE3 X (.BoolOp .And (a::b::jz) pos) (zC ta tb):=⟨have ha:=ha.h;have hb:=hb.h;D0 (qob ha hb) λ_ _ _ ⟨τ,G,q,rl,h,af⟩=>ze rl h λx G1 h1 v H1 rx hr1 k1 rl1=>by
  cases x with
  |bl k=>
   cases rx;refine ⟨k,rfl,?_⟩;cases k with
   |true=>rw [if_pos rfl];exact ⟨τ,G1,q,rl1,(show tb τ G1 q from by simpa using h1),af.back k1⟩
   |false=>rw [if_neg v8];exact af _ G1 (by simpa using h1) _ H1 (.bl false) hr1 k1
  |_=>exact h1.elim⟩
theorem qqm {jz:List Expr} (ha:jE3 X a ta) (hb:jE3 X (.BoolOp .Or (b::jz) pos) tb):jE3 X (.BoolOp .Or (a::b::jz) pos) (V5 ta tb):=⟨have ha:=ha.h;have hb:=hb.h;D0 (qpF ha hb) λ_ _ _ ⟨τ,G,q,rl,h,af⟩=>ze rl h λx G1 h1 v H1 rx hr1 k1 rl1=>by
  cases x with
  |bl k=>
   cases rx;refine ⟨k,rfl,?_⟩;cases k with
   |true=>rw [if_pos rfl];exact af _ G1 (by simpa using h1) _ H1 (.bl true) hr1 k1
   |false=>rw [if_neg v8];exact ⟨τ,G1,q,rl1,(show tb τ G1 q from by simpa using h1),af.back k1⟩
  |_=>exact h1.elim⟩
theorem qgt (ha:jE3 X a ta):jE3 X (.UnaryOp .Not a pos) (zZ ta):=⟨have ha:=ha.h;D0 (qn8 ha) λ_ _ _ ⟨τ,G,q,rl,h,af⟩=>ze rl h λx G1 h1 v H1 rx hr1 k1 rl1=>by
  cases x with
  |bl k=>cases rx;exact ⟨k,rfl,af _ G1 h1 _ H1 (.bl _) hr1 k1⟩
  |_=>exact h1.elim⟩
variable {c:Expr}
theorem qls (hc:jC3 X c tA) (ha:jE3 X a ta) (hb:jE3 X b tb):jE3 X (.IfExp c a b pos) (if3 tA ta tb):=⟨have hc:=hc.h;have ha:=ha.h;have hb:=hb.h;D0 (qed hc ha hb) λ_ _ _ ⟨τ,G,q,rl,h,af⟩=>CP rl h λk G1 h1 H1 hr1 k1 rl1=>by
  cases k with
  |true=>rw [if_pos rfl] at h1 ⊢;exact ⟨τ,G1,q,rl1,h1,af.back k1⟩
  |false=>rw [if_neg v8] at h1 ⊢;exact ⟨τ,G1,q,rl1,h1,af.back k1⟩⟩
theorem qc:jA3 X [] qw:=⟨qrm CY λ_ H _ ⟨τ,G,q,rl,h,af⟩=>af _ G h _ H .nil rl.hp Kp.refl⟩
variable {te:TE3} {t:TA3} {es:List Expr}
theorem qa (ha:jE3 X e te) (hr:jA3 X es t) (hs:autoParam (ze0 (e::es) X.env=(false,eval e X.env)::ze0 es X.env) zA0._auto_1):jA3 X (e::es) (qe te t):=⟨have ha:=ha.h;have hr:=hr.h;qrm (ZT ha hr hs) λ_ _ _ ⟨τ,G,q,rl,h,af⟩=>ze rl h λx G1 h1 v H1 rx hr1 k1 rl1=>JZ rl1 h1 λxs G2 h2 vs H2 rs hr2 k2 rl2=>
  af _ G2 h2 _ H2 (.cons (rx.keep hr1 k2) rs) hr2 (k1.trans k2)⟩
theorem qB {x1} (h:jA3 X es t):jE3 X (.Tuple es x1 pos) (jv t):=⟨have h:=h.h;D0 (qfo h) λ_ _ _ ⟨τ,G,q,rl,h,af⟩=>JZ rl h λxs G1 h1 vs H1 rs hr1 k1 rl1=>⟨by rw [← rs.length];exact h1.1,λp hp=>
  af _ G1 h1.2 _ _ (.tup (SqT.of zn) (rs.keep hr1 (Kp.laid hp))) (hr1.laid hp) (k1.trans (Kp.laid hp))⟩⟩
theorem jm (h:jA3 X es t):jE3 X (.List es pos) (ZD t):=⟨have h:=h.h;D0 (qme h) λ_ _ _ ⟨τ,G,q,rl,h,af⟩=>JZ rl h λxs G1 h1 vs H1 rs hr1 k1 rl1=>⟨by rw [← rs.length];exact h1.1,λp hp=>
  af _ _ (h1.2 p (hr1.free hp)) _ _ (.ref p) (hr1.newL hp rs) (k1.trans (Kp.newL hp))⟩⟩
theorem qq {t:TA3} {pos:Pos} {es:List Expr} {X:Cx} {x:Str} {p:Pos} {id:String} {r3:List T->Gp->Q3->Prop} {r:List V->Hp->VK->Prop} (hc:JW X (.builtin id) r) (hr:qaP X.K r3 r) (hg:Gl X x) (hm:X.mg x=none) (hv:zk6 x=some (.builtin id)) (ha:jA3 X (e::es) t) (hn:autoParam (x≠"__name__") zA1._auto_1) (hdb:autoParam ((x==("__debug__" : Str))=false) zA1._auto_1)
  (he:autoParam (ze0 (e::es) X.env=(false,eval e X.env)::ze0 es X.env) zA0._auto_1) (hpl:autoParam ((zn3 pos (ze0 es X.env)).any (·.1)=false) zA0._auto_1):jE3 X (.Call (.Name x p) (e::es) [] pos) (cb3 r3 t):=⟨have ha:=ha.h;D0 (WD hc hg hm hv ha hn hdb he hpl) λ_ _ _ h=>qkD hr h⟩
theorem zL {t:TA3} {pos:Pos} {es:List Expr} {X:Cx} {x:Str} {p:Pos} {ty:String} {r3:List T->Gp->Q3->Prop} {r:List V->Hp->VK->Prop} (hc:JW X (.type ty) r) (hr:qaP X.K r3 r) (hg:Gl X x) (hm:X.mg x=none) (hv:zk6 x=some (.type ty)) (ha:jA3 X (e::es) t) (hn:autoParam (x≠"__name__") zA1._auto_1) (hdb:autoParam ((x==("__debug__" : Str))=false) zA1._auto_1)
  (he:autoParam (ze0 (e::es) X.env=(false,eval e X.env)::ze0 es X.env) zA0._auto_1) (hpl:autoParam ((zn3 pos (ze0 es X.env)).any (·.1)=false) zA0._auto_1):jE3 X (.Call (.Name x p) (e::es) [] pos) (cb3 r3 t):=⟨have ha:=ha.h;D0 (K1 hc hg hm hv ha hn hdb he hpl) λ_ _ _ h=>qkD hr h⟩
theorem qk (ha:jE3 X a ta) (hb:jE3 X b tb) (hs:autoParam (W1 b) zA11._auto_1):jE3 X (.Subscript a b pos) (o3 ix3 ta tb):=⟨have ha:=ha.h;have hb:=hb.h;D0 (qm5 qlz ha hb hs) λ_ _ _ h=>qd1 qnx h⟩
theorem qdn:jP3 X none np3:=⟨qrp qh8 λ_ H _ ⟨τ,G,q,rl,h,af⟩=>af none G h H rl.hp Kp.refl⟩
theorem U8 (h:jE3 X e te):jP3 X (some e) (sp3 te):=⟨have h:=h.h;qrp (qh5 h) λ_ _ _ ⟨τ,G,q,rl,h,af⟩=>ze rl h λx G1 h1 v H1 rx hr1 k1 rl1=>by
 cases x<;>try exact h1.elim
 cases rx;exact ⟨_,rfl,af _ G1 h1 H1 hr1 k1⟩⟩
theorem WM {lo hi:Option Expr} {tl th:TO3} {p2:Pos} (he:jE3 X e te) (hl:jP3 X lo tl) (hu:jP3 X hi th):jE3 X (.Subscript e (.Slice lo hi none p2) pos) (YS te tl th):=⟨have he:=he.h;have hl:=hl.h;have hu:=hu.h;D0 (qeH (qlf.or qh7) he hl hu) λ_ _ _ ⟨τ,G,q,rl,h,af⟩=>ze rl h λx G1 h1 v H1 rx hr1 k1 rl1=>
  ⟨τ,G1,_,rl1,h1,λl G2 h2 H2 hr2 k2=>⟨τ,G2,_,rl1.next hr2 k2,h2,λu G3 h3 H3 hr3 k3=>by
   have kk:=(k1.trans k2).trans k3;have rx3:=(rx.keep hr1 k2).keep hr2 k3;cases x<;>try exact h3.elim
   case tup xs=>
    cases rx3 with
    |tup hs rs=>
     refine .inl ⟨_,_,rfl,hs,by rw [← rs.length];exact h3.1,λp hp=>?_⟩;exact af _ G3 h3.2 _ _ (.tup (SqT.of zn) ((rs.cut _ _).keep hr3 (Kp.laid hp))) (hr3.laid hp) (kk.trans (Kp.laid hp))
   case ref p=>
    unfold sl3 at h3;simp only at h3;split at h3
    ·rename_i xs e0;cases rx3;obtain ⟨vs,hs,rs⟩:=zB hr3 e0;refine .inr ⟨p,vs,rfl,hs,λa ha=>?_⟩;exact af _ _ (h3 a (hr3.free ha)) _ _ (.ref a) (hr3.newL ha (rs.cut _ _)) (kk.trans (Kp.newL ha))
    ·exact h3.elim⟩⟩⟩
theorem qx (ha:jE3 X a ta) (hb:jE3 X b tb):jE3 X (.BinOp a .Add b pos) (o3 zU ta tb):=⟨have ha:=ha.h;have hb:=hb.h;qee ((qlx.or qj5).or qnk) qi5 ha hb⟩
theorem KT {t:TA3} {e:Expr} {X:Cx} {o:Expr} {to:TE3} {apos cpos:Pos} (ho:jE3 X o to) (ha:jA3 X [e] t)
  (hbase:autoParam (attributeBase o "append" X.env (eval o X.env)=eval o X.env) zA0._auto_1)
  (hfew:autoParam (((zn3 cpos (ze0 [e] X.env)).all (λx=>!x.1)&&(backToKw cpos (keywordEach [] X.env)).all (λx=>x.1.isSome)
   && decide (([e]:List Expr).length+([]:List Keyword).length+(if ([]:List Keyword).isEmpty then 0 else 1)<30))=true) zA0._auto_1)
  (hline:autoParam ((apos.endLine==cpos.line)=true) zA0._auto_1) (hs:autoParam (ze0 [e] X.env=(false,eval e X.env)::ze0 [] X.env) zA0._auto_1) (hplain:autoParam ((zn3 cpos (ze0 [] X.env)).any (·.1)=false) zA0._auto_1):jE3 X (.Call (.Attribute o "append" apos) [e] [] cpos) (bm3 JK to t):=⟨have ho:=ho.h;have ha:=ha.h;qrE PySem.F.slot_list_append PySem.F.type_list_append K9 qjx ho ha hbase hfew hline hs hplain⟩
theorem XM {t:TA3} {e:Expr} {X:Cx} {o:Expr} {to:TE3} {apos cpos:Pos} (ho:jE3 X o to) (ha:jA3 X [e] t)
  (hbase:autoParam (attributeBase o "extend" X.env (eval o X.env)=eval o X.env) zA0._auto_1)
  (hfew:autoParam (((zn3 cpos (ze0 [e] X.env)).all (λx=>!x.1)&&(backToKw cpos (keywordEach [] X.env)).all (λx=>x.1.isSome)
   && decide (([e]:List Expr).length+([]:List Keyword).length+(if ([]:List Keyword).isEmpty then 0 else 1)<30))=true) zA0._auto_1)
  (hline:autoParam ((apos.endLine==cpos.line)=true) zA0._auto_1) (hs:autoParam (ze0 [e] X.env=(false,eval e X.env)::ze0 [] X.env) zA0._auto_1) (hplain:autoParam ((zn3 cpos (ze0 [] X.env)).any (·.1)=false) zA0._auto_1):jE3 X (.Call (.Attribute o "extend" apos) [e] [] cpos) (bm3 YQ to t):=⟨have ho:=ho.h;have ha:=ha.h;qrE PySem.F.slot_list_extend PySem.F.type_list_extend qdc qh0 ho ha hbase hfew hline hs hplain⟩
theorem QF {te:TE3} {pos:Pos} {e:Expr} {X:Cx} {tn:Str} {ty:String} {p p2:Pos} (he:jE3 X e te) (hg:Gl X "isinstance") (hm:X.mg "isinstance" = none) (hg2:Gl X tn) (hm2:X.mg tn=none) (hv:zk6 tn=some (.type ty)) (hmem:autoParam (ty∈JV) zA1._auto_1) (hn:autoParam (tn≠"__name__") zA1._auto_1) (hdb:autoParam ((tn==("__debug__" : Str))=false) zA1._auto_1)
  (hs:autoParam (ze0 [e,.Name tn p2] X.env=(false,eval e X.env)::ze0 [.Name tn p2] X.env) zA0._auto_1) (hs2:autoParam (ze0 [.Name tn p2] X.env=(false,eval (.Name tn p2) X.env)::ze0 [] X.env) zA0._auto_1) (hpl:autoParam ((zn3 pos (ze0 [.Name tn p2] X.env)).any (·.1)=false) zA0._auto_1):jE3 X (.Call (.Name "isinstance" p) [e,.Name tn p2] [] pos) (QM (λt=>zY t ty) te):=⟨have he:=he.h;D0 (WD qdA hg hm PyProof.Rows.boot_isinstance (ZT he (ZT (L9 (v:=.ty ty) hg2 hm2 hv rfl hn hdb) CY hs2) hs) (by decide) (by decide) hs hpl)
  λ_ _ _ ⟨τ,G,q,rl,h,af⟩=>ze rl h λx G1 h1 v H1 rx hr1 k1 rl1=>by
   split at h1
   ·rename_i t e1;exact ⟨_,t,ty,rfl,qe6 hr1 rx e1,hmem,af _ G1 h1 _ H1 (.bl _) hr1 k1⟩
   ·exact h1.elim⟩
theorem qcw {te:TE3} {pos:Pos} {e:Expr} {X:Cx} {tn tn':Str} {ty ty':String} {p p2 p3 p4:Pos} {x1} (he:jE3 X e te) (hg:Gl X "isinstance") (hm:X.mg "isinstance" = none) (hg2:Gl X tn) (hm2:X.mg tn=none) (hv:zk6 tn=some (.type ty)) (hg3:Gl X tn') (hm3:X.mg tn'=none) (hv3:zk6 tn'=some (.type ty'))
  (hmem:autoParam (ty∈JV) zA1._auto_1) (hn:autoParam (tn≠"__name__") zA1._auto_1) (hdb:autoParam ((tn==("__debug__" : Str))=false) zA1._auto_1) (hmem3:autoParam (ty'∈JV) zA1._auto_1) (hn3:autoParam (tn'≠"__name__") zA1._auto_1) (hdb3:autoParam ((tn'==("__debug__" : Str))=false) zA1._auto_1)
  (hs:autoParam (ze0 [e,.Tuple [.Name tn p2,.Name tn' p3] x1 p4] X.env=(false,eval e X.env)::ze0 [.Tuple [.Name tn p2,.Name tn' p3] x1 p4] X.env) zA0._auto_1) (hs2:autoParam (ze0 [.Tuple [.Name tn p2,.Name tn' p3] x1 p4] X.env=(false,eval (.Tuple [.Name tn p2,.Name tn' p3] x1 p4) X.env)::ze0 [] X.env) zA0._auto_1)
  (hs3:autoParam (ze0 [.Name tn p2,.Name tn' p3] X.env=(false,eval (.Name tn p2) X.env)::ze0 [.Name tn' p3] X.env) zA0._auto_1) (hs4:autoParam (ze0 [.Name tn' p3] X.env=(false,eval (.Name tn' p3) X.env)::ze0 [] X.env) zA0._auto_1)
  (hpl:autoParam ((zn3 pos (ze0 [.Tuple [.Name tn p2,.Name tn' p3] x1 p4] X.env)).any (·.1)=false) zA0._auto_1):jE3 X (.Call (.Name "isinstance" p) [e,.Tuple [.Name tn p2,.Name tn' p3] x1 p4] [] pos) (QM (λt=>zY t ty||zY t ty') te):=⟨have he:=he.h;D0 (WD qbA hg hm PyProof.Rows.boot_isinstance (ZT he (ZT (qfo (ZT (L9 (v:=.ty ty) hg2 hm2 hv rfl hn hdb) (ZT (L9 (v:=.ty ty') hg3 hm3 hv3 rfl hn3 hdb3) CY hs4) hs3)) CY hs2) hs) (by decide) (by decide) hs hpl)
  λ_ _ _ ⟨τ,G,q,rl,h,af⟩=>ze rl h λx G1 h1 v H1 rx hr1 k1 rl1=>by
   refine ⟨by show 2<=sizeLine;decide,λpp hp=>?_⟩;split at h1
   ·rename_i t e1;have hr2:=hr1.laid (ho:=.tup [.ty ty,.ty ty']) hp;have kk:Kp G1 H1 G1 (upd H1 pp (.tup [.ty ty,.ty ty'])):=Kp.laid hp;exact ⟨_,t,ty,ty',pp,rfl,zn,qe6 hr2 (rx.keep hr1 kk) e1,hmem,hmem3,af _ G1 h1 _ _ (.bl _) hr2 (k1.trans kk)⟩
   ·exact h1.elim⟩
theorem qD:jB3 X [] qE:=⟨qkz qjD λ_ σ H ⟨τ,G,d,rl,h,af⟩=>af.nx τ G h σ H rl Kp.refl⟩
variable {t1:TS3}
theorem qg {jz:List Stmt} {st:Stmt} {t2:TS3} (h1:jS3 X st t1) (h2:jB3 X jz t2):jB3 X (st::jz) (qS t1 t2):=⟨have h1:=h1.h;have h2:=h2.h;qkz (qei h1 h2) λD σ H ⟨τ,G,d,rl,h,af⟩=>
 ⟨τ,G,{ d with nx:=t2 d },rl,h,⟨λτ' G' h' σ' H' rl' k'=>⟨τ',G',d,rl',h',af.back k'⟩,af.rt,af.bk,af.ct⟩⟩⟩
theorem qj {st:Stmt} (h1:jS3 X st t1):jB3 X [st] t1:=⟨have h1:=h1.h;qhZ h1⟩
theorem WT (he:jE3 X e te) (hs:autoParam (xg7 e none pos.line X.env=pure false) zA0._auto_1):jS3 X (.Expr e pos) (zN te):=⟨have he:=he.h;qaO (qjU he hs) λ_ σ H ⟨τ,G,d,rl,h,af⟩=>
 ze rl h λx G1 h1 v H1 rx hr1 k1 rl1=>af.nx τ G1 h1 σ H1 rl1 k1⟩
theorem qm (he:jE3 X e te):jS3 X (.Return (some e) pos) (zg te):=⟨have he:=he.h;qaO (qlJ he) λ_ σ H ⟨τ,G,d,rl,h,af⟩=>⟨τ,G,d.rt,rl,h,af.rt⟩⟩
theorem qX {t2:TS3} {ba bb:List Stmt} (hc:jC3 X c tA) (ha:jB3 X ba t1) (hb:jB3 X bb t2):jS3 X (.If c ba bb pos) (zD tA t1 t2):=⟨have hc:=hc.h;have ha:=ha.h;have hb:=hb.h;qaO (qqs hc ha hb) λ_ σ H ⟨τ,G,d,rl,h,af⟩=>
 CP rl h λk G1 h1 H1 hr1 k1 rl1=>by
  cases k with
  |true=>rw [if_pos rfl] at h1 ⊢;exact ⟨τ,G1,d,rl1,h1,af.back k1⟩
  |false=>rw [if_neg v8] at h1 ⊢;exact ⟨τ,G1,d,rl1,h1,af.back k1⟩⟩
theorem N2 {sts:List Stmt}:jB3 X sts V3:=⟨λ_ _ _ _ _ _ ⟨_,_,_,_,h,_⟩=>h.elim⟩
theorem ql {i:Nat} (hN:X.N.Nodup) (hi:autoParam (X.N[i]?=some x) zA0._auto_1) (hx:autoParam (Loc X.env.scope x) zA5._auto_1) (hf:autoParam (X.fn x=true\/X.env.scope.names.lookup x=some .local) zA6._auto_1):jG3 X (.Name x pos) (gn3 i):=⟨qpT (qid hN hi hx hf) λv σ H Q ⟨x,τ,G,q,rx,rl,h,af⟩=>af _ G h _ H (rl.set i rx) Kp.refl⟩
theorem qV:jGs3 X [] za:=⟨qmR qjC λv σ H Q ⟨x,τ,G,q,rx,rl,h,af⟩=>by
 cases rx with
 |nil=>exact ⟨rfl,af _ G h _ H rl Kp.refl⟩
 |cons _ _=>exact h.elim⟩
theorem qi {tg:TG3} {tgs:M0} (h1:jG3 X e tg) (h2:jGs3 X es tgs) (hs:autoParam ((xb2 (e::es) X.env).map (·.2)=xi4 e X.env::(xb2 es X.env).map (·.2)) zA0._auto_1):jGs3 X (e::es) (qr tg tgs):=⟨have h1:=h1.h;have h2:=h2.h;qmR (qeI h1 h2 hs) λv σ H Q ⟨x,τ,G,q,rx,rl,h,af⟩=>by
 cases rx with
 |nil=>exact h.elim
 |cons r rs=>exact ⟨_,_,rfl,_,τ,G,_,r,rl,h,λτ' G' h' σ' H' rl' k'=>⟨_,τ',G',q,rs.keep rl.hp k',rl',h',af.back k'⟩⟩⟩
theorem qU {k:Nat} {tgs:M0} {n:Nat} (hc:X.calm=true) (h:jGs3 X es tgs) (hn:autoParam ((xb2 es X.env).length=n) zA0._auto_1) (hst:autoParam ((xb2 es X.env).findIdx? (·.1)=none) zA0._auto_1):jG3 X (.Tuple es k pos) (zd n tgs):=⟨have h:=h.h;qpT (ql3 hc h hn hst) λv σ H Q ⟨x,τ,G,q,rx,rl,h,af⟩=>by
  cases x<;>try exact h.elim
  case tup xs=>
   cases rx with
   |tup hs rs=>exact ⟨_,_,rfl,hs,by rw [← rs.length];exact h.1,_,τ,G,q,rs,rl,h.2,af⟩⟩
theorem qf9 {pos : Pos} {X : Cx} {o i : Expr} {to ti : TE3} (ho : jE3 X o to) (hi : jE3 X i ti) (ha:autoParam (∀ v,xi4 (.Subscript o i pos) X.env v = (do
      let ov←xf7 [v] (eval o X.env)
      let iv←xf7 [v,ov] (eval i X.env)
      standAt pos
      xf7 [v,ov,iv] (setItem ov iv v)
      release [v,ov,iv] [])) zA3._auto_1):jG3 X (.Subscript o i pos) (zG to ti):=⟨have ho:=ho.h;have hi:=hi.h;qpT (qmi ho hi MS ha) λv σ H Q ⟨x,τ,G,q,rx,rl,h,af⟩=>ze rl h λy G1 h1 u H1 ry hr1 k1 rl1=>ze rl1 h1 λz G2 h2 w H2 rz hr2 k2 rl2=>by
    have rx2:=(rx.keep rl.hp k1).keep hr1 k2;have ry2:=ry.keep hr1 k2;unfold Q5 at h2;split at h2
    · rename_i p k;split at h2
      · rename_i xs e;split at h2
        · rename_i j ej;cases ry2;cases rz;obtain ⟨vs,g1,r1⟩:=hr2.lst e;have kk:Kp G2 H2 (gu G2 p (.lst (xs.set j x))) (upd H2 p (.lst (vs.set j v))):=Kp.wr e;exact ⟨p,vs,k,j,rfl,rfl,g1,by rw [← r1.length];exact ej,af τ _ h2 σ _ (rl2.next (hr2.wr e (r1.set rx2 j)) kk) ((k1.trans k2).trans kk)⟩
        · exact h2.elim
      · exact h2.elim
    · exact h2.elim⟩
theorem zR {te:TE3} {pos:Pos} {X:Cx} {tg e:Expr} {g:TG3} (he:jE3 X e te) (hg:jG3 X tg g) (hs:autoParam (swapsWithSole [tg] e pos.line X.env=pure false) zA0._auto_1) (hw:autoParam (swappedStores [tg] e X.env=pure none) zA0._auto_1)
  (h1:autoParam ((xb2 [tg] X.env).map (·.2)=[xi4 tg X.env]) zA0._auto_1):jS3 X (.Assign [tg] e pos) (zl te g):=⟨have he:=he.h;have hg:=hg.h;qaO (ql7 he hg hs hw h1) λ_ σ H ⟨τ,G,d,rl,h,af⟩=>
 ze rl h λx G1 h1 v H1 rx hr1 k1 rl1=>⟨x,τ,G1,d.nx,rx,rl1,h1,af.nx.back k1⟩⟩
theorem qF (i:Nat) {pos':Pos} (hN:X.N.Nodup) (he:jE3 X e te) (hi:autoParam (X.N[i]?=some x) zA0._auto_1) (hx:autoParam (Loc X.env.scope x) zA5._auto_1) (hs:autoParam (xg7 e (some (.Name x pos')) pos.line X.env=pure false) zA0._auto_1) (hf:autoParam (X.fn x=true\/X.env.scope.names.lookup x=some .local) zA6._auto_1):jS3 X (.Assign [.Name x pos'] e pos) (zl te (gn3 i)):=⟨have he:=he.h;qaO (qnB hN hi hx he hs hf) λ_ σ H ⟨τ,G,d,rl,h,af⟩=>
 ze rl h λx G1 h1 v H1 rx hr1 k1 rl1=>af.nx _ G1 h1 _ H1 (rl1.set i rx) k1⟩
theorem CO {pos:Pos} {X:Cx} {i j:Nat} {x y:Str} {a b:Expr} {tt:TA3} {px py pt:Pos} {kt k2 pt2} (hc:X.calm=true) (hN:X.N.Nodup) (hi:X.N[i]?=some x) (hj:X.N[j]?=some y) (hij:i≠j)
  (hx:X.env.scope.names.lookup x=some .local) (hy:X.env.scope.names.lookup y=some .local) (ha:jA3 X [a,b] tt)
  (hw:autoParam (swappedStores [.Tuple [.Name x px,.Name y py] kt pt] (.Tuple [a,b] k2 pt2) X.env=pure (some [x,y])) zA0._auto_1)
  (hs:autoParam (swapsWithSole [.Tuple [.Name x px,.Name y py] kt pt] (.Tuple [a,b] k2 pt2) pos.line X.env=pure false) zA0._auto_1):jS3 X (.Assign [.Tuple [.Name x px,.Name y py] kt pt] (.Tuple [a,b] k2 pt2) pos) (JC i j tt):=⟨have ha:=ha.h;qaO (qnf hc hN hi hj hij hx hy ha hw hs) λ_ σ H ⟨τ,G,d,rl,h,af⟩=>
 JZ rl h λxs G1 h1 vs H1 rs hr1 k1 rl1=>by
  split at h1
  ·obtain ⟨v,u,rfl,r,r'⟩:=qpA rs;exact ⟨v,u,rfl,af.nx _ G1 h1 _ H1 ((rl1.set i r).set j r') k1⟩
  ·exact h1.elim⟩
variable {tg:Expr}
theorem zM {l:Expr} (hl:jE3 X l te):jI3 X tg l (qdR te):=⟨have hl:=hl.h;qmW (qoh hl) λσ H R ⟨τ,G,r,rl,h,af⟩=>ze rl h λx G1 h1 v H1 rx hr1 k1 rl1=>by
 cases x<;>try exact h1.elim
 case tup xs=>
  cases rx with
  |tup hs rs=>exact ⟨_,rfl,.inr ⟨⟨_,hs⟩,af _ _ G1 h1 _ H1 hr1 k1 (qlT hr1 hs rs)⟩⟩
 case ref p=>
  simp only at h1;split at h1
  ·rename_i xs e0;cases rx;obtain ⟨vs,hs,rs⟩:=zB hr1 e0;exact ⟨_,rfl,.inl ⟨⟨_,hs⟩,af _ _ G1 h1 _ H1 hr1 k1 qmv⟩⟩
  ·exact h1.elim⟩
variable {p:Pos}
theorem qK (hg:Gl X "range") (hm:X.mg "range" = none) (ha:jA3 X [a] t) (hs:autoParam (ze0 [a] X.env=[(false,eval a X.env)]) zA0._auto_1) (h1:autoParam (∀ τ G q,t τ G q->t τ G λxs G=>q xs G/\xs.length=1) zA12._auto_1):jI3 X tg (.Call (.Name "range" p) [a] [] pos) (QW t):=⟨have ha:=ha.h;qmW (qaR hg hm ha hs) λσ H R ⟨τ,G,r,rl,h,af⟩=>JZ rl (h1 _ _ _ h) λxs G1 h1 vs H1 rs hr1 k1 rl1=>by
  obtain ⟨h1,hl⟩:=h1;simp only at h1;split at h1
  ·obtain ⟨v,rfl,r1⟩:=LC rs;cases r1;exact ⟨_,rfl,h1.1.1,h1.1.2,af _ _ G1 h1.2 _ H1 hr1 k1 qgP⟩
  ·simp at hl
  ·exact h1.elim⟩
theorem JP (hg:Gl X "range") (hm:X.mg "range" = none) (ha:jA3 X [a,b] t) (hs:autoParam (ze0 [a,b] X.env=[(false,eval a X.env),(false,eval b X.env)]) zA0._auto_1) (hs2:autoParam (ze0 [b] X.env=[(false,eval b X.env)]) zA0._auto_1) (h1:autoParam (∀ τ G q,t τ G q->t τ G λxs G=>q xs G/\xs.length=2) zA12._auto_1):jI3 X tg (.Call (.Name "range" p) [a,b] [] pos) (QW t):=⟨have ha:=ha.h;qmW (qa8 hg hm ha hs hs2) λσ H R ⟨τ,G,r,rl,h,af⟩=>JZ rl (h1 _ _ _ h) λxs G1 h1 vs H1 rs hr1 k1 rl1=>by
  obtain ⟨h1,hl⟩:=h1;simp only at h1;split at h1
  ·simp at hl
  ·obtain ⟨v,u,rfl,r1,r2⟩:=qpA rs;cases r1;cases r2;exact ⟨_,_,rfl,h1.1,af _ _ G1 h1.2 _ H1 hr1 k1 qgP⟩
  ·exact h1.elim⟩
theorem Q8 {pos:Pos} {X:Cx} {tg:Expr} {iter:Expr} {body:List Stmt} {wi:TI3} {g:TG3} {tb:TS3} (hp:PassesOwn (model X.prog X.w) X.A X.env X.xe) (hc:X.calm=true) (hi:jI3 X tg iter wi) (hg:jG3 X tg g) (hb:jB3 X body tb)
  (hs:autoParam (∀ x,zf1 iter X.env x=pure x) zA3._auto_1):jS3 X (.For tg iter body [] pos) (qcY wi g tb):=⟨have hi:=hi.h;have hg:=hg.h;have hb:=hb.h;qaO (qoV hp hc hi hg hb hs) λD σ H ⟨τ,G,d,rl,h,af⟩=>by
  refine ⟨τ,G,_,rl,h,λitems stay G1 h1 J H1 hr1 k1 ok=>?_⟩;refine ⟨λi m σ' H'=>m=items.length-i/\i<=items.length/\∃ τ' G',Rel X.K τ' G' σ' H'/\Kp G1 H1 G' H'/\S0 stay g tb d (items.drop i) τ' G',⟨_,rfl,zj1 _,τ,G1,rl.next hr1 k1,Kp.refl,by simpa using h1⟩,?_⟩;rintro i m σ' H' ⟨rfl,hi,τ',G',rl',k',h'⟩;by_cases hlt:i<items.length
  ·rw [zf6 hlt] at h';obtain ⟨hst,h'⟩:=h';obtain ⟨go,yld,_⟩:=ok G' H' rl'.hp k' hst;have hx:items[i]?=some items[i]:=u7 hlt;refine .inr ⟨go i _ hx,λσ2 H2=>∃ τ2 G2,Rel X.K τ2 G2 σ2 H2/\Kp G1 H1 G2 H2/\S0 stay g tb d (items.drop (i+1)) τ2 G2,λσ2 H2 h2=>⟨_,by omega,rfl,hlt,h2⟩,λv H2 y=>?_⟩;obtain ⟨rv,hr2,k2⟩:=yld i _ v H2 hx y;have k3:Kp G1 H1 G' H2:=k'.trans k2;refine ⟨_,τ',G',_,rv,rl'.next hr2 k2,h',λτ3 G3 h3 σ3 H3 rl3 k4=>?_⟩;have k5:Kp G H G3 H3:=(k1.trans k3).trans k4;refine ⟨τ3,G3,_,rl3,h3,⟨λτ4 G4 h4 σ4 H4 rl4 k6=>⟨τ4,G4,rl4,(k3.trans k4).trans k6,h4⟩,af.rt.back k5,af.nx.back k5,λτ4 G4 h4 σ4 H4 rl4 k6=>⟨τ4,G4,rl4,(k3.trans k4).trans k6,h4⟩⟩⟩
  ·have e:i=items.length:=by omega
   subst e;rw [xi6] at h';obtain ⟨_,_,stop⟩:=ok G' H' rl'.hp k' h'.1;exact .inl ⟨stop,af.nx τ' G' h'.2 σ' H' rl' (k1.trans k')⟩⟩
theorem SD {body:List Stmt} {tc:TT3} {tb:TS3} (hp:PassesOwn (model X.prog X.w) X.A X.env X.xe) (hc:jC3 X c tc) (hb:jB3 X body tb):jS3 X (.While c body [] pos) (CL tc tb):=⟨have hc:=hc.h;have hb:=hb.h;qaO (qdv hp hc hb) λD σ H ⟨τ,G,d,rl,⟨W,⟨m0,w0⟩,turn⟩,af⟩=>by
  refine ⟨λm σ' H'=>∃ τ' G',Rel X.K τ' G' σ' H'/\Kp G H G' H'/\W m τ' G',⟨m0,τ,G,rl,Kp.refl,w0⟩,?_⟩;rintro m σ' H' ⟨τ',G',rl',k',w'⟩;refine CP rl' (turn m τ' G' w') λb G1 h1 H1 hr1 k1 rl1=>?_;cases b with
  |true=>
   rw [if_pos rfl] at h1 ⊢;obtain ⟨N,hN,h1⟩:=h1;refine ⟨λσ2 H2=>∃ τ2 G2,Rel X.K τ2 G2 σ2 H2/\Kp G H G2 H2/\N τ2 G2,λσ2 H2 ⟨τ2,G2,r2,k2,n2⟩=>?_,τ',G1,_,rl1,h1,⟨λτ2 G2 h2 σ2 H2 r2 k2=>⟨τ2,G2,r2,(k'.trans k1).trans k2,h2⟩,af.rt.back (k'.trans k1),af.nx.back (k'.trans k1),λτ2 G2 h2 σ2 H2 r2 k2=>⟨τ2,G2,r2,(k'.trans k1).trans k2,h2⟩⟩⟩;obtain ⟨m',hm,w2⟩:=hN τ2 G2 n2;exact ⟨m',hm,τ2,G2,r2,k2,w2⟩
  |false=>
   rw [if_neg v8] at h1 ⊢;exact af.nx τ' G1 h1 σ' H1 rl1 (k'.trans k1)⟩
theorem qh {t:TA3} {pos:Pos} {es:List Expr} {X:Cx} {k:Nat} {x:Str} {p:Pos} {sp:Sp3} (F:Fn3 X.prog X.w X.K X.mg X.base k x sp) (hr:Room k X.A) (hg:Gl X x) (ha:jA3 X (e::es) t) (hdb:autoParam ((x==("__debug__" : Str))=false) zA1._auto_1)
  (he:autoParam (ze0 (e::es) X.env=(false,eval e X.env)::ze0 es X.env) zA0._auto_1) (hpl:autoParam ((zn3 pos (ze0 es X.env)).any (·.1)=false) zA0._auto_1):jE3 X (.Call (.Name x p) (e::es) [] pos) (cb3 sp t):=⟨by
 have ha:=ha.h;obtain ⟨f,fd,ps,F,b,kp,m⟩:=F;refine D0 (qjE F hr hg m kp b .nil qqk ha hdb he hpl) λσ H Q ⟨τ,G,q,rl,h,af⟩=>JZ rl h λxs G1 h1 vs H1 rs hr1 k1 rl1=>?_;rw [zh0];exact ⟨xs,G1,q,hr1,rs,h1,af.back k1⟩⟩
theorem jH {X:Cx} {elt tg iter:Expr} {ifs:List Expr} {scope:Scope} {pos:Pos} (N':List Str) (m:List (Option Nat)) {wi:TI3} {g:TG3} {tif:TT3} {te:TE3} (hc:X.calm=true) (hi:jI3 X tg iter wi)
  (hg:∀ s H fp,jG3 (qv X N' scope s H fp) tg g) (hf:∀ s H fp,jF3 (qv X N' scope s H fp) ifs tif) (he:∀ s H fp,jE3 (qv X N' scope s H fp) elt te)
  (hsc:autoParam (qaI X.env.scope scope=true) zA2._auto_1) (hcap:autoParam (YU X.N N' scope m=true) zA2._auto_1) (hs:autoParam (∀ x,zf1 iter X.env x=pure x) zA3._auto_1):jE3 X (.ListComp elt [⟨tg,iter,ifs,0⟩] scope pos) (lc3 wi g tif te m):=⟨have hi:=hi.h;have hg:=(λs H fp=>(hg s H fp).h);have hf:=(λs H fp=>(hf s H fp).h);have he:=(λs H fp=>(he s H fp).h);D0 (qqX (g:=lG X.K g) (tif:=lT X.K tif) (te:=lE X.K te) hc hi hg hf he hsc hcap hs) λσ H Q hh=>ql9 hh⟩
theorem qZ:jF3 X [] tt3:=⟨λpins s σ H Q I ⟨τ,G,q,rl,h,af⟩=>qlj pins s σ H Q I (af true G h H rl.hp Kp.refl)⟩
theorem DT {t:TT3} (h:jC3 X c t):jF3 X [c] t:=⟨have h:=h.h;qnl h⟩
theorem qgd {pt:Pos} {k1:Nat} (hg:Gl X "zip") (hm:X.mg "zip" = none) (ha:jA3 X [a,b] t) (hs:autoParam (ze0 [a,b] X.env=[(false,eval a X.env),(false,eval b X.env)]) zA0._auto_1) (hs2:autoParam (ze0 [b] X.env=[(false,eval b X.env)]) zA0._auto_1):jI3 X (.Tuple es k1 pt) (.Call (.Name "zip" p) [a,b] [] pos) (qbH t):=⟨have ha:=ha.h;qmW (qou hg hm ha hs hs2) λσ H R ⟨τ,G,r,rl,h,af⟩=>JZ rl h λxs G1 h1 vs H1 rs hr1 k1 rl1=>by
  split at h1
  ·rename_i x y;split at h1
   ·rename_i us ws e1 e2;obtain ⟨v,u,rfl,r1,r2⟩:=qpA rs;obtain ⟨b1,c1,rfl,f1⟩:=qaV hr1 r1 e1;obtain ⟨b2,c2,rfl,f2⟩:=qaV hr1 r2 e2;obtain ⟨p,sp,_⟩:=f1 G1 H1 hr1 Kp.refl e1;obtain ⟨q,sq,_⟩:=f2 G1 H1 hr1 Kp.refl e2;exact ⟨b1,b2,c1,c2,p,q,rfl,sp,sq,af _ _ G1 h1 _ H1 hr1 k1 (qkK f1 f2)⟩
   ·exact h1.elim
  ·exact h1.elim⟩
theorem RX {pt:Pos} {k1:Nat} (hg:Gl X "enumerate") (hm:X.mg "enumerate" = none) (ha:jA3 X [a] t) (hs:autoParam (ze0 [a] X.env=[(false,eval a X.env)]) zA0._auto_1):jI3 X (.Tuple es k1 pt) (.Call (.Name "enumerate" p) [a] [] pos) (C9 t):=⟨have ha:=ha.h;qmW (qig hg hm ha hs) λσ H R ⟨τ,G,r,rl,h,af⟩=>JZ rl h λxs G1 h1 vs H1 rs hr1 k1 rl1=>by
  split at h1
  ·rename_i x;split at h1
   ·rename_i us e1;obtain ⟨v,rfl,r1⟩:=LC rs;obtain ⟨b1,c1,rfl,f1⟩:=qaV hr1 r1 e1;obtain ⟨p,sp,_⟩:=f1 G1 H1 hr1 Kp.refl e1;exact ⟨b1,c1,p,rfl,sp,af _ _ G1 h1 _ H1 hr1 k1 (qpc f1)⟩
   ·exact h1.elim
  ·exact h1.elim⟩
theorem qbs (i:Nat) {pos':Pos} (hN:X.N.Nodup) (he:jE3 X e te) (hi:autoParam (X.N[i]?=some x) zA0._auto_1) (hx:autoParam (Loc X.env.scope x) zA5._auto_1) (hf:autoParam (X.fn x=true\/X.env.scope.names.lookup x=some .local) zA6._auto_1):jS3 X (.AugAssign (.Name x pos') .Add e pos) (VH i (iI (·+·)) te):=⟨have he:=he.h;qaO (qkT (i:=i) hN hi hx he qhz hf) λD σ H ⟨τ,G,d,rl,h,af⟩=>by
  unfold VH at h;split at h
  ·rename_i x e1;obtain ⟨v,e2,rv⟩:=rl.st i x e1;refine ⟨v,e2,ze rl h λy G1 h1 u H1 ry hr1 k1 rl1=>?_⟩;have rv1:=rv.keep rl.hp k1;cases x<;>try exact h1.elim
   cases y<;>try exact h1.elim
   cases rv1;cases ry;exact ⟨_,_,rfl,rfl,af.nx _ G1 h1 _ H1 (rl1.set i (.int _)) k1⟩
  ·exact h.elim⟩
theorem jO {X:Cx} {py spos:Pos} {elt tg iter:Expr} {ifs:List Expr} {scope:Scope} {pos:Pos} {y:Str} (i:Nat) (N':List Str) (m:List (Option Nat)) {wi:TI3} {g:TG3} {tif:TT3} {te:TE3} (hc:X.calm=true) (hN:X.N.Nodup) (hi:jI3 X tg iter wi)
  (hg:∀ s H fp,jG3 (qv X N' scope s H fp) tg g) (hf:∀ s H fp,jF3 (qv X N' scope s H fp) ifs tif) (he:∀ s H fp,jE3 (qv X N' scope s H fp) elt te)
  (hsc:autoParam (qaI X.env.scope scope=true) zA2._auto_1) (hcap:autoParam (YU X.N N' scope m=true) zA2._auto_1) (hl:autoParam (X.env.scope.names.lookup y=some .local) zA0._auto_1) (hsw:autoParam (xg7 (.ListComp elt [⟨tg,iter,ifs,0⟩] scope pos) (some (.Name y py)) spos.line X.env=pure true) zA0._auto_1) (hiy:autoParam (X.N[i]?=some y) zA0._auto_1) (hs:autoParam (∀ x,zf1 iter X.env x=pure x) zA3._auto_1):jS3 X (.Assign [.Name y py] (.ListComp elt [⟨tg,iter,ifs,0⟩] scope pos) spos) (zl (lc3 wi g tif te m) (gn3 i)):=⟨have hi:=hi.h;have hg:=(λs H fp=>(hg s H fp).h);have hf:=(λs H fp=>(hf s H fp).h);have he:=(λs H fp=>(he s H fp).h);qaO (qdw (g:=lG X.K g) (tif:=lT X.K tif) (te:=lE X.K te) hc hN hi hg hf he hsc hcap hs hiy hl hsw) λ_ σ H ⟨τ,G,d,rl,h,af⟩=>
  ql9 ⟨τ,G,_,rl,h,λx G1 h1 v H1 rx hr1 k1=>af.nx _ G1 h1 _ H1 ((rl.next hr1 k1).set i rx) k1⟩⟩
theorem jpt {t:TT3} (h:jW3 X e t):jC3 X e t:=⟨PW.pt h.h⟩
theorem qiT {P:Program} {w:World} {K:Frg} {mg:Str->Option Value} {base:Heap} {x qual:Str} {st:Stmt} {f:Addr} {fd:FuncData} {N ps:List Str} {k:Nat} {sp:Sp3} {t3:TS3} (F:Fun K x qual st f fd) (S:FnScope N ps (qz st)) (bd:X5 K fd ps []) (hm:mg x=some (.ref f))
  (body:∀ (cdv:Value) (A:Around) (outer:List Env) (s:Shared) (H:Hp) (E:XK),Room k (A.deeper (xg3 qual (qz st) s.heap.objs.size f cdv)) ->
   jB3 (qas CX0 P w K mg base N qual (qz st) f cdv A outer s H E).nox (zy st) t3)
  (read:∀ ts G q,sp ts G q->ts.length=ps.length/\t3 { nx:=λ_ G'=>q .non G',rt:=q } (qo N ts) G):Fn3 P w K mg base (k+1) x sp:=
 qlN F S bd hm (λcdv A outer s H E hr=>(body cdv A outer s H E hr).h) read
theorem qer {P:Program} {w:World} {K:Frg} {mg:Str->Option Value} {base:Heap} {x qual:Str} {st:Stmt} {f:Addr} {fd:FuncData} {N ps:List Str} {k:Nat} {sp:Sp3} {t3:TS3} (F:Fun K x qual st f fd) (S:FnScope N ps (qz st))
  (body:∀ (cdv:Value) (A:Around) (outer:List Env) (s:Shared) (H:Hp) (E:XK),Room k (A.deeper (xg3 qual (qz st) s.heap.objs.size f cdv)) ->
   jB3 (qas CX0 P w K mg base N qual (qz st) f cdv A outer s H E).nox (zy st) t3)
  (read:∀ ts G q,sp ts G q->ts.length=ps.length/\t3 { nx:=λ_ G'=>q .non G',rt:=q } (qo N ts) G):FnOk P w K mg base CX0 (k+1) f fd ps (lSp K sp):=
 qia F S (λcdv A outer s H E hr=>(body cdv A outer s H E hr).h) read
open PySem.SeqAt
def Ex (G G':Gp):Prop:=∀ b o,G b=some o->G' b=some o
variable {G:Gp}
theorem Ex.refl:Ex G G:=λ_ _ e=>e
theorem Ex.trans {G1 G2:Gp} (a:Ex G G1) (b:Ex G1 G2):Ex G G2:=λx o e=>b x o (a x o e)
theorem ja {p:Addr} {o:O} (hp:G p=none):Ex G (gu G p o):=λb ob e=>by
 rw [QU (by rintro rfl;rw [hp] at e;cases e)];exact e
mutual
inductive Dp (G:Gp):T->PyData->Prop
 |non:Dp G .non .none
 |bl (b:Bool):Dp G (.bl b) (.bool b)
 |int (i:Int):Dp G (.int i) (.int i)
 |str (x:Str):Dp G (.str x) (.str x)
 |tup {xs:List T} {ds:List PyData}:Dps G xs ds->Dp G (.tup xs) (.tuple ds)
 |lst {p:Addr} {xs:List T} {ds:List PyData}:getL G p=some xs->Dps G xs ds->Dp G (.ref p) (.list ds)
inductive Dps (G:Gp):List T->List PyData->Prop
 |nil:Dps G [] []
 |cons {x:T} {d:PyData} {xs:List T} {ds:List PyData}:Dp G x d->Dps G xs ds->Dps G (x::xs) (d::ds)
end
theorem Ex.getL {G':Gp} (e:Ex G G') {p:Addr} {xs:List T} (h:getL G p=some xs):getL G' p=some xs:=by
 unfold L3.getL at h ⊢;split at h
 ·rename_i ys g;cases h;rw [e _ _ g]
 ·rename_i ys g;cases h;rw [e _ _ g]
 ·cases h
mutual
theorem Dp.up {G G':Gp} (e:Ex G G'):∀ {x:T} {d:PyData},Dp G x d->Dp G' x d
 |_,_,.non=>.non
 |_,_,.bl b=>.bl b
 |_,_,.int i=>.int i
 |_,_,.str x=>.str x
 |_,_,.tup h=>.tup (Dps.up e h)
 |_,_,.lst h1 h2=>.lst (e.getL h1) (Dps.up e h2)
theorem Dps.up {G G':Gp} (e:Ex G G'):∀ {x:List T} {d:List PyData},Dps G x d->Dps G' x d
 |_,_,.nil=>.nil
 |_,_,.cons a b=>.cons (Dp.up e a) (Dps.up e b)
end
theorem Dps.length {G:Gp}:∀ {xs:List T} {ds:List PyData},Dps G xs ds->xs.length=ds.length
 |_,_,.nil=>rfl
 |_,_,.cons _ b=>by simp [Dps.length b]
theorem Dps.get {G:Gp}:∀ {xs:List T} {ds:List PyData} {i:Nat} {x:T},Dps G xs ds->xs[i]?=some x->∃ d,ds[i]?=some d/\Dp G x d
 |_,_,_,_,.nil,e=>by simp at e
 |_,_,0,_,.cons r _,e=>by simp at e;subst e;exact ⟨_,rfl,r⟩
 |_,_,i+1,x,.cons _ t,e=>by
  obtain ⟨u,h1,h2⟩:=Dps.get (i:=i) (x:=x) t (by simpa using e);exact ⟨u,by simpa using h1,h2⟩
mutual
inductive DV (K:Frg) (H:Hp):V->PyData->Prop
 |non:DV K H .non .none
 |bl (b:Bool):DV K H (.bl b) (.bool b)
 |int (i:Int):DV K H (.int i) (.int i)
 |str (x:Str):DV K H (.str x) (.str x)
 |tup {a:Addr} {vs:List V} {ds:List PyData}:SqT K H a vs->DVs K H vs ds->DV K H (.ref a) (.tuple ds)
 |lst {a:Addr} {vs:List V} {ds:List PyData}:SqL K H a vs->DVs K H vs ds->DV K H (.ref a) (.list ds)
inductive DVs (K:Frg) (H:Hp):List V->List PyData->Prop
 |nil:DVs K H [] []
 |cons {x:V} {d:PyData} {xs:List V} {ds:List PyData}:DV K H x d->DVs K H xs ds->DVs K H (x::xs) (d::ds)
end
mutual
theorem Dp.dv {K:Frg} {G:Gp} {H:Hp} (hr:HR K G H):∀ {x:T} {d:PyData} {v:V},Dp G x d->Rp K H x v->DV K H v d
 |_,_,_,.non,.non=>.non
 |_,_,_,.bl b,.bl _=>.bl b
 |_,_,_,.int i,.int _=>.int i
 |_,_,_,.str x,.str _=>.str x
 |_,_,_,.tup h,.tup hs rs=>.tup hs (Dps.dv hr h rs)
 |_,_,_,.lst g h,r=>by
  cases r;obtain ⟨_,hs,rs⟩:=zB hr g;exact .lst hs (Dps.dv hr h rs)
theorem Dps.dv {K:Frg} {G:Gp} {H:Hp} (hr:HR K G H):∀ {x:List T} {d:List PyData} {v:List V},Dps G x d->Rps K H x v->DVs K H v d
 |_,_,_,.nil,.nil=>.nil
 |_,_,_,.cons a b,.cons c d=>.cons (Dp.dv hr a c) (Dps.dv hr b d)
end
mutual
def jS:PyData->PyData->Option Bool
 |.none,.none=>some true
 |.bool a,.bool b=>some (a==b)
 |.int a,.int b=>some (a==b)
 |.str a,.str b=>some (a==b)
 |.list xs,.list ys=>YV xs ys
 |.tuple xs,.tuple ys=>YV xs ys
 |.int _,.none=>some false
 |.none,.int _=>some false
 |_,_=>none
def YV:List PyData->List PyData->Option Bool
 |[],[]=>some true
 |x::xs,y::ys=>match jS x y,YV xs ys with|some a,some b=>some (a&&b)|_,_=>none
 |_,_=>some false
end
mutual
def dpt:PyData->Nat
 |.list xs=>qcl xs+1
 |.tuple xs=>qcl xs+1
 |_=>0
def qcl:List PyData->Nat
 |[]=>0
 |x::xs=>max (dpt x) (qcl xs)
end
section
variable {pins:List (Addr×Obj)} {σ:L2.St} {H:Hp} {s:Shared}
mutual
theorem DV.inj (I:Inv X pins σ H s):∀ {v:V} {d e:PyData},DV X.K H v d->DV X.K H v e->d=e
 |_,_,_,.non,.non=>rfl
 |_,_,_,.bl _,.bl _=>rfl
 |_,_,_,.int _,.int _=>rfl
 |_,_,_,.str _,.str _=>rfl
 |_,_,_,.tup h hs,.tup k ks=>by
  have:=I.tuple_inj h k;subst this;rw [DVs.inj I hs ks]
 |_,_,_,.lst h hs,.lst k ks=>by
  have:=I.list_inj h k;subst this;rw [DVs.inj I hs ks]
 |_,_,_,.tup h hs,.lst k ks=>by
  obtain ⟨i1,_,p1,_⟩:=I.tuple h;obtain ⟨i2,_,p2,_⟩:=I.list k;exact absurd rfl (ne_of_list_tuple p2.isList (show s.heap.IsTuple _ i1.toArray from p1))
 |_,_,_,.lst k ks,.tup h hs=>by
  obtain ⟨i1,_,p1,_⟩:=I.tuple h;obtain ⟨i2,_,p2,_⟩:=I.list k;exact absurd rfl (ne_of_list_tuple p2.isList (show s.heap.IsTuple _ i1.toArray from p1))
theorem DVs.inj (I:Inv X pins σ H s):∀ {v:List V} {d e:List PyData},DVs X.K H v d->DVs X.K H v e->d=e
 |_,_,_,.nil,.nil=>rfl
 |_,_,_,.cons a b,.cons c d=>by rw [DV.inj I a c,DVs.inj I b d]
end
mutual
theorem T3:∀ {d:PyData} {b:Bool},jS d d=some b->b=true
 |.none,_,h=>by simp [jS] at h;exact h
 |.bool _,_,h=>by simp [jS] at h;exact h
 |.int _,_,h=>by simp [jS] at h;exact h
 |.str _,_,h=>by simp [jS] at h;exact h
 |.list xs,_,h=>by simp only [jS] at h;exact U4 h
 |.tuple xs,_,h=>by simp only [jS] at h;exact U4 h
 |.dict _,_,h=>by simp [jS] at h
theorem U4:∀ {d:List PyData} {b:Bool},YV d d=some b->b=true
 |[],_,h=>by simp [YV] at h;exact h
 |x::xs,b,h=>by
  simp only [YV] at h;split at h
  ·rename_i a c e1 e2;rw [T3 e1,U4 e2] at h;simpa using h.symm
  ·cases h
end
theorem TL:∀ {xs ys:List PyData} {b:Bool},YV xs ys=some b->xs.length=ys.length->∃ e:Nat->Bool,(∀ (j:Nat) x y,xs[j]?=some x->ys[j]?=some y->jS x y=some (e j))/\b=(zg5 xs.length).all e
 |[],[],b,h,_=>by simp [YV] at h;exact ⟨λ_=>true,by simp,by simp [h]⟩
 |x::xs,y::ys,b,h,hl=>by
  simp only [YV] at h;split at h
  ·rename_i a c e1 e2;obtain ⟨e,h1,h2⟩:=TL e2 (by simpa using hl);refine ⟨λj=>match j with|0=>a|j+1=>e j,λj u v hu hv=>?_,?_⟩
   ·cases j with
    |zero=>simp at hu hv;subst hu;subst hv;exact e1
    |succ j=>exact h1 j u v (by simpa using hu) (by simpa using hv)
   ·rw [ze8,List.range_succ_eq_map,zn1,List.all_map];cases h;rw [h2];rfl
  ·cases h
 |[],_::_,_,_,hl=>by simp at hl
 |_::_,[],_,_,hl=>by simp at hl
theorem TZ:∀ {xs ys:List PyData} {b:Bool},YV xs ys=some b->xs.length≠ys.length->b=false/\∃ e:Nat->Bool,∀ (j:Nat) x y,xs[j]?=some x->ys[j]?=some y->jS x y=some (e j)
 |[],[],_,_,hl=>by simp at hl
 |[],_::_,b,h,_=>by simp [YV] at h;exact ⟨h,λ_=>true,by simp⟩
 |_::_,[],b,h,_=>by simp [YV] at h;exact ⟨h,λ_=>true,by simp⟩
 |x::xs,y::ys,b,h,hl=>by
  simp only [YV] at h;split at h
  ·rename_i a c e1 e2;obtain ⟨h0,e,h1⟩:=TZ e2 (by simpa using hl);subst h0;refine ⟨by simpa using h.symm,λj=>match j with|0=>a|j+1=>e j,λj u v hu hv=>?_⟩;cases j with
   |zero=>simp at hu hv;subst hu;subst hv;exact e1
   |succ j=>exact h1 j u v (by simpa using hu) (by simpa using hv)
  ·cases h
theorem NQ:∀ {xs:List PyData} {x:PyData},x∈xs->dpt x<=qcl xs
 |[],_,h=>by simp at h
 |y::ys,x,h=>by
  simp only [qcl];rcases ze9.mp h with e|e
  ·subst e;omega
  ·have:=NQ e;omega
theorem DVs.get {K:Frg} {H:Hp}:∀ {xs:List V} {ds:List PyData} {i:Nat} {x:V},DVs K H xs ds->xs[i]?=some x->∃ d,ds[i]?=some d/\DV K H x d
 |_,_,_,_,.nil,e=>by simp at e
 |_,_,0,_,.cons r _,e=>by simp at e;subst e;exact ⟨_,rfl,r⟩
 |_,_,i+1,x,.cons _ t,e=>by
  obtain ⟨u,h1,h2⟩:=DVs.get (i:=i) (x:=x) t (by simpa using e);exact ⟨u,by simpa using h1,h2⟩
theorem DVs.length {K:Frg} {H:Hp}:∀ {xs:List V} {ds:List PyData},DVs K H xs ds->xs.length=ds.length
 |_,_,.nil=>rfl
 |_,_,.cons _ b=>by simp [DVs.length b]
theorem qdi {vs:List V} {us:List Value} (r:zJ vs us) {j:Nat} (h:j<us.toArray.size):∃ v,vs[j]?=some v/\zK v us.toArray[j]:=by
 have hj:j<vs.length:=by rw [r.length];simpa using h
 obtain ⟨u,hu,ru⟩:=r.get (u7 hj);refine ⟨vs[j],u7 hj,?_⟩;have hj2:j<us.length:=by simpa using h
 rw [u7 hj2] at hu;have:us[j]=u:=Option.some.inj hu;simpa [this] using ru
theorem qbm {v u:V} {d e:PyData} {b:Bool} {x y:Value} {A:Around} (hv:DV X.K H v d) (hu:DV X.K H u e) (h:jS d e=some b) (h0:dpt d=0) (rx:zK v x) (ry:zK u y):RcAt A s x y b/\EqAt A s x y b:=by
 cases hv with
 |non=>
  cases hu with
  |non=>simp [jS] at h;subst h;cases (show x=Value.none from rx);cases (show y=Value.none from ry);exact ⟨RcAt.none_none,EqAt.same _⟩
  |int c=>simp [jS] at h;subst h;cases (show x=Value.none from rx);obtain ⟨t',rfl⟩:=(show ∃ t,y=Value.int _ t from ry);exact ⟨RcAt.none_int _ _,EqAt.none_int _ _⟩
  |bl _=>simp [jS] at h
  |str _=>simp [jS] at h
  |tup _ _=>simp [jS] at h
  |lst _ _=>simp [jS] at h
 |bl a=>cases hu<;>simp [jS] at h;subst h;cases (show x=Value.bool _ from rx);cases (show y=Value.bool _ from ry);exact ⟨RcAt.bool_bool _ _,EqAt.bool_bool _ _⟩
 |int a=>
  cases hu with
  |int c=>simp [jS] at h;subst h;obtain ⟨t,rfl⟩:=(show ∃ t,x=Value.int _ t from rx);obtain ⟨t',rfl⟩:=(show ∃ t,y=Value.int _ t from ry);exact ⟨RcAt.int_int _ _ _ _,EqAt.int_int _ _ _ _⟩
  |non=>simp [jS] at h;subst h;obtain ⟨t,rfl⟩:=(show ∃ t,x=Value.int _ t from rx);cases (show y=Value.none from ry);exact ⟨RcAt.int_none _ _,EqAt.int_none _ _⟩
  |bl _=>simp [jS] at h
  |str _=>simp [jS] at h
  |tup _ _=>simp [jS] at h
  |lst _ _=>simp [jS] at h
 |str a=>cases hu<;>simp [jS] at h;subst h;obtain ⟨t,rfl⟩:=(show ∃ t,x=Value.str _ t from rx);obtain ⟨t',rfl⟩:=(show ∃ t,y=Value.str _ t from ry);exact ⟨RcAt.str_str _ _ _ _,EqAt.str_str _ _ _ _⟩
 |tup=>simp [dpt] at h0
 |lst=>simp [dpt] at h0
theorem RV {n:Nat} {vs1 vs2:List V} {ds1 ds2:List PyData} {i1 i2:List Value} {b:Bool} {A:Around} (ih:∀ {v u:V} {d e:PyData} {b:Bool} {x y:Value},DV X.K H v d->DV X.K H u e->jS d e=some b->dpt d<=n->zK v x->zK u y->EqAt A s x y b)
  (hs:DVs X.K H vs1 ds1) (ks:DVs X.K H vs2 ds2) (r1:zJ vs1 i1) (r2:zJ vs2 i2) (h:YV ds1 ds2=some b) (hd:qcl ds1<=n) :
  ∃ e:Nat->Bool,(∀ j (h1:j<i1.toArray.size) (h2:j<i2.toArray.size),EqAt A s i1.toArray[j] i2.toArray[j] (e j))/\(i1.toArray.size=i2.toArray.size/\b=(zg5 i1.toArray.size).all e\/i1.toArray.size≠i2.toArray.size/\b=false):=by
 have l1:=hs.length;have l2:=ks.length;have m1:=r1.length;have m2:=r2.length;have e1:i1.toArray.size=ds1.length:=by rw [ze3];omega
 have e2:i2.toArray.size=ds2.length:=by rw [ze3];omega
 have el:∀ (e:Nat->Bool),(∀ (j:Nat) x y,ds1[j]?=some x->ds2[j]?=some y->jS x y=some (e j))->∀ j (h1:j<i1.toArray.size) (h2:j<i2.toArray.size),EqAt A s i1.toArray[j] i2.toArray[j] (e j):=λe he j h1 h2=>by
  obtain ⟨w1,g1,q1⟩:=qdi r1 h1;obtain ⟨w2,g2,q2⟩:=qdi r2 h2;obtain ⟨d1,f1,dv1⟩:=hs.get g1;obtain ⟨d2,f2,dv2⟩:=ks.get g2;have:=NQ (za3 f1);exact ih dv1 dv2 (he j d1 d2 f1 f2) (by omega) q1 q2
 by_cases hl:ds1.length=ds2.length
 ·obtain ⟨e,he,hb⟩:=TL h hl;exact ⟨e,el e he,.inl ⟨by omega,by rw [e1];exact hb⟩⟩
 ·obtain ⟨hb,e,he⟩:=TZ h hl;exact ⟨e,el e he,.inr ⟨by omega,hb⟩⟩
theorem LQ (I:Inv X pins σ H s):∀ (n:Nat) {v u:V} {d e:PyData} {b:Bool} {x y:Value} {A:Around},DV X.K H v d->DV X.K H u e->jS d e=some b->dpt d<=n->A.units+n<cLine->zK v x->zK u y ->
  RcAt A s x y b/\EqAt A s x y b:=by
 intro n;induction n with
 |zero=>intro v u d e b x y A hv hu h hd hn rx ry;exact qbm hv hu h (by omega) rx ry
 |succ n ih=>
  intro v u d e b x y A hv hu h hd hn rx ry;by_cases h0:dpt d=0
  ·exact qbm hv hu h h0 rx ry
  have fin:∀ {l l':Addr},x=.ref l->y=.ref l'->v=.ref l->u=.ref l'->RcAt A s x y b->RcAt A s x y b/\EqAt A s x y b:=by
   rintro l l' rfl rfl rfl rfl rc;refine ⟨rc,?_⟩;by_cases hll:l=l'
   ·subst hll;have:=DV.inj I hv hu;subst this;rw [T3 h];exact EqAt.same _
   ·exact EqAt.of_refs hll rc
  have ih':∀ {v u:V} {d e:PyData} {b:Bool} {x y:Value},DV X.K H v d->DV X.K H u e->jS d e=some b->dpt d<=n->zK v x->zK u y->EqAt A.in1 s x y b:=λa b c d e f=>(ih a b c d (show A.units+1+n<cLine by omega) e f).2;cases hv with
  |tup hq hs=>
   cases hu with
   |tup kq ks=>
    simp only [jS] at h;simp only [dpt] at hd;obtain ⟨i1,r1,p1,z1⟩:=I.tuple hq;obtain ⟨i2,r2,p2,z2⟩:=I.tuple kq;obtain ⟨e,el,hb⟩:=RV ih' hs ks r1 r2 h (by omega);have rc:=RcAt.tuples (A:=A) (show s.heap.IsTuple _ i1.toArray from p1) (show s.heap.IsTuple _ i2.toArray from p2) (by omega) el;refine fin rx ry rfl rfl ?_;cases (show x=Value.ref _ from rx);cases (show y=Value.ref _ from ry);rcases hb with ⟨e1,hb⟩|⟨e1,hb⟩
    ·rw [← e1] at rc;rw [hb];simpa using rc
    ·rw [beq_eq_false_iff_ne.mpr e1,xb9] at rc;rw [hb];exact rc
   |_=>simp [jS] at h
  |lst hq hs=>
   cases hu with
   |lst kq ks=>
    simp only [jS] at h;simp only [dpt] at hd;obtain ⟨i1,r1,p1,z1⟩:=I.list hq;obtain ⟨i2,r2,p2,z2⟩:=I.list kq;obtain ⟨e,el,hb⟩:=RV ih' hs ks r1 r2 h (by omega);refine fin rx ry rfl rfl ?_;cases (show x=Value.ref _ from rx);cases (show y=Value.ref _ from ry);rcases hb with ⟨e1,hb⟩|⟨e1,hb⟩
    ·rw [hb];exact RcAt.lists p1.isList p2.isList e1 (by omega) el
    ·rw [hb];exact RcAt.lists_lengths p1.isList p2.isList (by simpa using e1) (by omega)
   |_=>simp [jS] at h
  |_=>exact (h0 rfl).elim
theorem qiw (I:Inv X pins σ H s) {n:Nat} {v u:V} {d e:PyData} {b:Bool} {x y:Value} {A:Around} (hv:DV X.K H v d) (hu:DV X.K H u e) (h:jS d e=some b) (hd:dpt d<=n+1) (hn:A.units+(n+1)<cLine) (rx:zK v x) (ry:zK u y) (hs:dpt d≠0):RcNeAt A s x y (!b):=by
 have ih':∀ {v u:V} {d e:PyData} {b:Bool} {x y:Value},DV X.K H v d->DV X.K H u e->jS d e=some b->dpt d<=n->zK v x->zK u y->EqAt A.in1 s x y b:=λa b c d e f=>(LQ I n a b c d (show A.units+1+n<cLine by omega) e f).2;cases hv with
 |tup hq hs'=>
  cases hu with
  |tup kq ks=>
   simp only [jS] at h;simp only [dpt] at hd;obtain ⟨i1,r1,p1,z1⟩:=I.tuple hq;obtain ⟨i2,r2,p2,z2⟩:=I.tuple kq;obtain ⟨e,el,hb⟩:=RV ih' hs' ks r1 r2 h (by omega);have rc:=RcNeAt.tuples (A:=A) (show s.heap.IsTuple _ i1.toArray from p1) (show s.heap.IsTuple _ i2.toArray from p2) (by omega) el;cases (show x=Value.ref _ from rx);cases (show y=Value.ref _ from ry);rcases hb with ⟨e1,hb⟩|⟨e1,hb⟩
   ·rw [← e1] at rc;rw [hb];simpa using rc
   ·rw [beq_eq_false_iff_ne.mpr e1] at rc;rw [hb];simpa using rc
  |_=>simp [jS] at h
 |lst hq hs'=>
  cases hu with
  |lst kq ks=>
   simp only [jS] at h;simp only [dpt] at hd;obtain ⟨i1,r1,p1,z1⟩:=I.list hq;obtain ⟨i2,r2,p2,z2⟩:=I.list kq;obtain ⟨e,el,hb⟩:=RV ih' hs' ks r1 r2 h (by omega);cases (show x=Value.ref _ from rx);cases (show y=Value.ref _ from ry);rcases hb with ⟨e1,hb⟩|⟨e1,hb⟩
   ·rw [hb];exact RcNeAt.lists p1.isList p2.isList (A:=A) e1 (by omega) el
   ·rw [hb];exact RcNeAt.lists_lengths p1.isList p2.isList (by simpa using e1) (by omega)
  |_=>simp [jS] at h
 |_=>exact (hs rfl).elim
def qj9 (K:Frg) (neg:Bool):R2:=λx y H Q=>∃ d e b,DV K H x d/\DV K H y e/\jS d e=some b/\dpt d<=40/\dpt d≠0/\Q (.bl (if neg then !b else b)) H
theorem qmP (hu:X.A.units+64<cLine):OpR X (zi1 .Eq) (qj9 X.K false):=by
 intro pins s σ H x y v u Q I rx ry h;obtain ⟨d,e,b,hx,hy,hb,hd,_,q⟩:=h;exact (LQ I 40 hx hy hb hd (by omega) rx ry).1 X.prog X.w X.xe _ ⟨.bl b,H,I,rfl,q⟩
theorem qkB (hu:X.A.units+64<cLine):OpR X (zi1 .NotEq) (qj9 X.K true):=by
 intro pins s σ H x y v u Q I rx ry h;obtain ⟨d,e,b,hx,hy,hb,hd,hs,q⟩:=h;exact qiw I (n:=40) hx hy hb (by omega) (by omega) rx ry hs X.prog X.w X.xe _ ⟨.bl (!b),H,I,rfl,q⟩
end
def zo (neg:Bool):R3:=λx y G q=>match zc x y with
 |some k=>q (.bl (if neg then !k else k)) G
 |none=>∃ d e b,Dp G x d/\Dp G y e/\jS d e=some b/\dpt d<=40/\dpt d≠0/\q (.bl (if neg then !b else b)) G
theorem qy {K:Frg}:SA K (zo false) (λx y H Q=>rEq x y H Q\/qj9 K false x y H Q):=λx y v u G H q Q hr rx ry h af=>by
 unfold zo at h;split at h
 ·rename_i k e;obtain ⟨h1,h2⟩:=NE rx ry e;refine .inl ⟨h1,?_⟩;rw [h2];exact af _ G h _ H (.bl _) hr Kp.refl
 ·obtain ⟨d,e,b,h1,h2,h3,h4,h5,h6⟩:=h;exact .inr ⟨d,e,b,h1.dv hr rx,h2.dv hr ry,h3,h4,h5,af _ G h6 _ H (.bl _) hr Kp.refl⟩
theorem jL {K:Frg}:SA K (zo true) (λx y H Q=>rNe x y H Q\/qj9 K true x y H Q):=λx y v u G H q Q hr rx ry h af=>by
 unfold zo at h;split at h
 ·rename_i k e;obtain ⟨h1,h2⟩:=NE rx ry e;refine .inl ⟨h1,?_⟩;rw [h2];exact af _ G h _ H (.bl _) hr Kp.refl
 ·obtain ⟨d,e,b,h1,h2,h3,h4,h5,h6⟩:=h;exact .inr ⟨d,e,b,h1.dv hr rx,h2.dv hr ry,h3,h4,h5,af _ G h6 _ H (.bl _) hr Kp.refl⟩
theorem qH (hu:X.A.units+64<cLine):OpR X (zi1 .Eq) (λx y H Q=>rEq x y H Q\/qj9 X.K false x y H Q):=qqt.or (qmP hu)
theorem Z7 (hu:X.A.units+64<cLine):OpR X (zi1 .NotEq) (λx y H Q=>rNe x y H Q\/qj9 X.K true x y H Q):=qqx.or (qkB hu)
end L3
namespace L3
open PySem PySem.Spec PyProof.Rows L2
variable {X:Cx}
section
variable {pins:List (Addr×Obj)} {σ:L2.St} {H:Hp} {s:Shared}
end
section
variable {prog:Program} {w:World} {A:Around} {R:Result->Shared->Prop} {s:Shared}
theorem JA {elt t1 i1 t2 i2:Expr} {f1 f2:List Expr} {scope:Scope} {pos:Pos} {it acc:Value} {env:Env}
  (h0:codeAny (model prog w) A (.compLoop (.ListComp elt [⟨t1,i1,f1,0⟩,⟨t2,i2,f2,0⟩] scope pos) 1 it acc env) R s)
  (h:wpAny (model prog w) A (pyIter it) (λit' s'=>codeAny (model prog w) A (.compLoop (.ListComp elt [⟨t1,i1,f1,0⟩,⟨t2,i2,f2,0⟩] scope pos) 1 it' acc env) R s')
   (notedBy (model prog w) A env λx s'=>R (.error x) s') s) :
  codeAny (model prog w) A (.compStart (.ListComp elt [⟨t1,i1,f1,0⟩,⟨t2,i2,f2,0⟩] scope pos) 1 it acc env) R s:=by
 refine codeAny_of_tree ?_;show wpAny _ _ ((compStart (.ListComp elt [⟨t1,i1,f1,0⟩,⟨t2,i2,f2,0⟩] scope pos) 1 it acc env).onRaise (λx=>do noteFrame x env;standAt theWindowsPlace)) _ _ s;refine wpAny_notedAt ?_;unfold compStart;show wpAny _ _ (ask >>= _) _ _ s;refine y8 (wpAny_askSetting (wpAny_ite ?_));split
 ·first
   |exact y8 (y9 (y9 (And.intro rfl h0)))
   |exact y9 (And.intro rfl h0)
 ·first
   |exact y8 (xm6 (y8 (zp5 (y8 (v4 h (λit' s' h'=>y9 (And.intro rfl h')) λ_ _ x=>x)))))
   | (refine y8 (xm6 ?_);show wpAny _ _ (standAt i2.pos >>= _) _ _ s;exact y8 (zp5 (y8 (v4 h (λit' s' h'=>y9 (And.intro rfl h')) λ_ _ x=>x))))
end
def tIn (wi:TI) (g:TG) (tif:TT) (te:TE) (D:Addr) (N:L2.St->Hp->Prop) (σ:L2.St) (H:Hp):Prop:=wi σ H λJ H1=>
 ∃ W:Nat->Nat->L2.St->Hp->Prop,(∃ n,W 0 n σ H1)/\qec J g tif (tAp te D) N W
noncomputable def inB (elt t1 i1:Expr) (f1:List Expr) (t2 i2:Expr) (f2:List Expr) (scope:Scope) (pos:Pos) (D:Addr) (env:Env) (kk:Sem Fin):Sem Fin:=do
 let x←eval i2 env
 standAt i2.pos
 let x←zf1 i2 env x
 let _←runOwn (.compStart (.ListComp elt [⟨t1,i1,f1,0⟩,⟨t2,i2,f2,0⟩] scope pos) 1 (← xf7 [x] (pyIter x)) (.ref D) env) env
 kk
theorem qn9 {elt t1 i1 t2 i2:Expr} {f1 f2:List Expr} {scope:Scope} {pos:Pos} {wi:TI} {g:TG} {tif:TT} {te:TE} {D:Addr} {kk:Sem Fin} (hc:X.calm=true) (hx:∀ v s,¬ X.xe v s) (hi:PI X t2 i2 wi) (hg:PG X t2 g) (hf:PF X f2 tif) (he:PE X elt te)
  (hs:∀ x,zf1 i2 X.env x=pure x) (hA:∀ it,X.A.under (.compLoop (.ListComp elt [⟨t1,i1,f1,0⟩,⟨t2,i2,f2,0⟩] scope pos) 1 (.ref it) (.ref D) X.env)=X.A):∀ pins s σ H N Q E,Inv X pins σ H s->tIn wi g tif te D N σ H->(∀ s' σ' H',Inv X pins σ' H' s'->N σ' H'->wpAny (model X.prog X.w) X.A kk Q E s')->wpAny (model X.prog X.w) X.A (inB elt t1 i1 f1 t2 i2 f2 scope pos D X.env kk) Q E s:=λpins s σ H N Q E I h hk=>by
 refine y8 (v4 (hi pins s σ H _ I h) (λv s1 h1=>?_) λ_ _ z=>(hx _ _ z).elim);refine y8 (zp5 (y8 (wpAny_of_eq (hs v) ?_)));refine y8 (zp4 (v4 h1 (λitv s2 h2=>?_) λ_ _ z=>(hx _ _ z).elim));obtain ⟨it,fp,tn,J,H2,rfl,I2,T,st2,f2',W,⟨n0,w0⟩,turn⟩:=h2;have loop:=ML (ce:=.ListComp elt [⟨t1,i1,f1,0⟩,⟨t2,i2,f2,0⟩] scope pos) (kx:=1) (ip:=i2.pos) (Post:=λr s'=>match r with
   |.ok f=>wpAny (model X.prog X.w) X.A kk Q E s'
   |.error e=>cameBackBy (model X.prog X.w) X.A X.env E e s') hc hx rfl (hA it) rfl T hg hf (qiO hx he) (λ_ hn b hb=>⟨hn b hb,(f2' b hb).2⟩) turn (λs σ H I q=>hk _ _ _ I q) I2 st2 (λb hb=>(f2' b hb).1) w0
 exact y8 (wpAny_runOwn (JA loop (T.self X.A 0 _ _ _ st2 loop)))
theorem qmo {elt tg iter t2 i2:Expr} {ifs f2:List Expr} {scope:Scope} {pos:Pos} {N':List Str} {m:List (Option Nat)} {wi:TI} {g:TG} {tif:TT} {wi2:TI} {g2:TG} {tif2:TT} {te:TE} (hc:X.calm=true) (hi:PI X tg iter wi)
  (hg:∀ s H fp,PG (qv X N' scope s H fp) tg g) (hf:∀ s H fp,PF (qv X N' scope s H fp) ifs tif) (hi2:∀ s H fp,PI (qv X N' scope s H fp) t2 i2 wi2) (hg2:∀ s H fp,PG (qv X N' scope s H fp) t2 g2) (hf2:∀ s H fp,PF (qv X N' scope s H fp) f2 tif2) (he:∀ s H fp,PE (qv X N' scope s H fp) elt te)
  (hsc:autoParam (qaI X.env.scope scope=true) zA2._auto_1) (hcap:autoParam (YU X.N N' scope m=true) zA2._auto_1) (hs:autoParam (∀ x,zf1 iter X.env x=pure x) zA3._auto_1) (hs2:autoParam (∀ s H fp x,zf1 i2 (qv X N' scope s H fp).env x=pure x) zA7._auto_1) :
  PE X (.ListComp elt [⟨tg,iter,ifs,0⟩,⟨t2,i2,f2,0⟩] scope pos) (tLG wi g tif (tIn wi2 g2 tif2 te) m):=by
 intro pins s σ H Q I h;rw [eval_ListComp];exact RR (use:=none) (bd:=inB elt tg iter ifs t2 i2 f2 scope pos) hc hi (λ_ _ _=>rfl) hg hf (λs H fp D kk=>qn9 rfl (λ_ _ z=>z) (hi2 s H fp) (hg2 s H fp) (hf2 s H fp) (he s H fp) (hs2 s H fp) λ_=>rfl) hsc hcap hs I h qgv
def qj8 (D:Addr) (stay:Gp->Prop) (g:TG3) (tif:TT3) (te:TE3) (N:St3->Gp->Prop):List T->St3->Gp->Prop
 |[],τ,G=>stay G/\N τ G
 |x::r,τ,G=>stay G/\g x τ G λτ2 G2=>tif τ2 G2 λk G3=>
  if k=true then te τ2 G3 λy G4=>(match G4 D with|some (.lst ys)=>ys.length<sizeLine/\qj8 D stay g tif te N r τ2 (gu G4 D (.lst (ys++[y])))|_=>False) else qj8 D stay g tif te N r τ2 G3
def qcL (D:Addr) (stay:Gp->Prop) (g:TG3) (tif:TT3) (wi2:TI3) (g2:TG3) (tif2:TT3) (te:TE3) (q:Q3):List T->St3->Gp->Prop
 |[],_,G=>stay G/\q (.ref D) G
 |x::r,τ,G=>stay G/\g x τ G λτ2 G2=>tif τ2 G2 λk G3=>
  if k=true then wi2 τ2 G3 λitems2 stay2 G4=>qj8 D stay2 g2 tif2 te (λτ' G'=>qcL D stay g tif wi2 g2 tif2 te q r τ' G') items2 τ2 G4 else qcL D stay g tif wi2 g2 tif2 te q r τ2 G3
def qiL (wi:TI3) (g:TG3) (tif:TT3) (wi2:TI3) (g2:TG3) (tif2:TT3) (te:TE3) (m:List (Option Nat)):TE3:=λτ G q=>wi τ G λitems stay G1=>∀ D,G1 D=none->qcL D stay g tif wi2 g2 tif2 te q items (cap m τ) (gu G1 D (.lst []))
section
variable {K:Frg}
theorem qiN {wi2:TI3} {g2:TG3} {tif2:TT3} {te:TE3} {D:Addr} {N3:St3->Gp->Prop} {N:L2.St->Hp->Prop} {τ:St3} {G:Gp} {σ:L2.St} {H:Hp} {Gb:Gp} {Hb:Hp} (rl:Rel K τ G σ H) (kb:Kp Gb Hb G H) (h:wi2 τ G λitems stay G1=>qj8 D stay g2 tif2 te N3 items τ G1)
  (hN:∀ τ' G' σ' H',Rel K τ' G' σ' H'->Kp Gb Hb G' H'->N3 τ' G'->N σ' H'):tIn (lI K wi2) (lG K g2) (lT K tif2) (lE K te) D N σ H:=by
 refine ⟨τ,G,_,rl,h,λitems stay G1 h1 J H1 hr1 k1 ok=>?_⟩;refine ⟨λi n σ' H'=>n=items.length-i/\i<=items.length/\∃ τ' G',Rel K τ' G' σ' H'/\Kp G1 H1 G' H'/\qj8 D stay g2 tif2 te N3 (items.drop i) τ' G',⟨_,rfl,zj1 _,τ,G1,rl.next hr1 k1,Kp.refl,by simpa using h1⟩,?_⟩;rintro i n σ' H' ⟨rfl,hi,τ',G',rl',k',h'⟩;by_cases hlt:i<items.length
 ·rw [zf6 hlt] at h';obtain ⟨hst,h'⟩:=h';obtain ⟨go,yld,_⟩:=ok G' H' rl'.hp k' hst;have hx:items[i]?=some items[i]:=u7 hlt;refine .inr ⟨go i _ hx,λv H2 y=>?_⟩;obtain ⟨rv,hr2,k2⟩:=yld i _ v H2 hx y;refine ⟨_,τ',G',_,rv,rl'.next hr2 k2,h',λτ3 G3 h3 σ3 H3 rl3 k3=>⟨τ3,G3,_,rl3,h3,λk G4 h4 H4 hr4 k4=>?_⟩⟩;have kk:=(k2.trans k3).trans k4;cases k with
  |false=>
   rw [if_neg v8] at h4;refine qp5 ?_;exact ⟨_,by omega,rfl,hlt,τ3,G4,rl3.next hr4 k4,k'.trans kk,h4⟩
  |true=>
   rw [if_pos rfl] at h4;refine qqw ?_;refine ⟨τ3,G4,_,rl3.next hr4 k4,h4,λz G5 h5 w H5 rw5 hr5 k5=>?_⟩;split at h5
   ·rename_i ys e1;obtain ⟨vs,g1,r1⟩:=hr5.lst e1;exact ⟨vs,g1,by rw [← r1.length];exact h5.1,_,by omega,rfl,hlt,τ3,_,((rl3.next hr4 k4).next hr5 k5).next (hr5.wr e1 (r1.append (.cons rw5 .nil))) (Kp.wr e1),((k'.trans kk).trans k5).trans (Kp.wr e1),h5.2⟩
   ·exact h5.elim
 ·have e:i=items.length:=by omega
  subst e;rw [xi6] at h';obtain ⟨_,_,stop⟩:=ok G' H' rl'.hp k' h'.1;exact .inl ⟨stop,hN _ _ _ _ rl' ((kb.trans k1).trans k') h'.2⟩
end
theorem qfw {K:Frg} {m:List (Option Nat)} {wi:TI3} {g:TG3} {tif:TT3} {wi2:TI3} {g2:TG3} {tif2:TT3} {te:TE3} {σ:L2.St} {H:Hp} {Q:VK} (hh:lE K (qiL wi g tif wi2 g2 tif2 te m) σ H Q):tLG (lI K wi) (lG K g) (lT K tif) (tIn (lI K wi2) (lG K g2) (lT K tif2) (lE K te)) m σ H Q:=by
  obtain ⟨τ,G,q,rl,h,af⟩:=hh;refine ⟨τ,G,_,rl,h,λitems stay G1 h1 J H1 hr1 k1 ok D hD=>?_⟩;have gD:G1 D=none:=hr1.free hD;have h1:=h1 D gD;have hr1':HR K (gu G1 D (.lst [])) (upd H1 D (.lst [])):=HR.newL hr1 hD .nil;have k1':Kp G1 H1 (gu G1 D (.lst [])) (upd H1 D (.lst [])):=Kp.newL hD;refine ⟨λi n σ' H'=>n=items.length-i/\i<=items.length/\∃ τ' G',Rel K τ' G' σ' H'/\Kp G1 H1 G' H'/\qcL D stay g tif wi2 g2 tif2 te q (items.drop i) τ' G',
   ⟨_,rfl,zj1 _,cap m τ,_,((rl.next hr1 k1).cap m).next hr1' k1',k1',by simpa using h1⟩,?_⟩
  rintro i n σ' H' ⟨rfl,hi,τ',G',rl',k',h'⟩;by_cases hlt:i<items.length
  ·rw [zf6 hlt] at h';obtain ⟨hst,h'⟩:=h';obtain ⟨go,yld,_⟩:=ok G' H' rl'.hp k' hst;have hx:items[i]?=some items[i]:=u7 hlt;refine .inr ⟨go i _ hx,λv H2 y=>?_⟩;obtain ⟨rv,hr2,k2⟩:=yld i _ v H2 hx y;refine ⟨_,τ',G',_,rv,rl'.next hr2 k2,h',λτ3 G3 h3 σ3 H3 rl3 k3=>⟨τ3,G3,_,rl3,h3,λk G4 h4 H4 hr4 k4=>?_⟩⟩;have kk:=(k2.trans k3).trans k4;cases k with
   |false=>
    rw [if_neg v8] at h4;refine qp5 ?_;exact ⟨_,by omega,rfl,hlt,τ3,G4,rl3.next hr4 k4,k'.trans kk,h4⟩
   |true=>
    rw [if_pos rfl] at h4;refine qqw ?_;exact qiN (rl3.next hr4 k4) (k'.trans kk) h4 λτ5 G5 σ5 H5 rl5 k5 h5=>⟨_,by omega,rfl,hlt,τ5,G5,rl5,k5,h5⟩
  ·have e:i=items.length:=by omega
   subst e;rw [xi6] at h';obtain ⟨_,_,stop⟩:=ok G' H' rl'.hp k' h'.1;exact .inl ⟨stop,af _ _ h'.2 _ H' (.ref D) rl'.hp (k1.trans k')⟩
theorem qpK {elt tg iter t2 i2:Expr} {ifs f2:List Expr} {scope:Scope} {pos:Pos} (N':List Str) (m:List (Option Nat)) {wi:TI3} {g:TG3} {tif:TT3} {wi2:TI3} {g2:TG3} {tif2:TT3} {te:TE3} (hc:X.calm=true) (hi:I3 X tg iter wi)
  (hg:∀ s H fp,G3 (qv X N' scope s H fp) tg g) (hf:∀ s H fp,F3 (qv X N' scope s H fp) ifs tif) (hi2:∀ s H fp,I3 (qv X N' scope s H fp) t2 i2 wi2) (hg2:∀ s H fp,G3 (qv X N' scope s H fp) t2 g2) (hf2:∀ s H fp,F3 (qv X N' scope s H fp) f2 tif2) (he:∀ s H fp,E3 (qv X N' scope s H fp) elt te)
  (hsc:autoParam (qaI X.env.scope scope=true) zA2._auto_1) (hcap:autoParam (YU X.N N' scope m=true) zA2._auto_1) (hs:autoParam (∀ x,zf1 iter X.env x=pure x) zA3._auto_1) (hs2:autoParam (∀ s H fp x,zf1 i2 (qv X N' scope s H fp).env x=pure x) zA7._auto_1) :
  E3 X (.ListComp elt [⟨tg,iter,ifs,0⟩,⟨t2,i2,f2,0⟩] scope pos) (qiL wi g tif wi2 g2 tif2 te m):=
 D0 (qmo (g:=lG X.K g) (tif:=lT X.K tif) (wi2:=lI X.K wi2) (g2:=lG X.K g2) (tif2:=lT X.K tif2) (te:=lE X.K te) hc hi hg hf hi2 hg2 hf2 he hsc hcap hs hs2) λσ H Q hh=>qfw hh
theorem qhp {elt tg iter t2 i2:Expr} {ifs f2:List Expr} {scope:Scope} {pos:Pos} (N':List Str) (m:List (Option Nat)) {wi:TI3} {g:TG3} {tif:TT3} {wi2:TI3} {g2:TG3} {tif2:TT3} {te:TE3} (hc:X.calm=true) (hi:jI3 X tg iter wi)
  (hg:∀ s H fp,jG3 (qv X N' scope s H fp) tg g) (hf:∀ s H fp,jF3 (qv X N' scope s H fp) ifs tif) (hi2:∀ s H fp,jI3 (qv X N' scope s H fp) t2 i2 wi2) (hg2:∀ s H fp,jG3 (qv X N' scope s H fp) t2 g2) (hf2:∀ s H fp,jF3 (qv X N' scope s H fp) f2 tif2) (he:∀ s H fp,jE3 (qv X N' scope s H fp) elt te)
  (hsc:autoParam (qaI X.env.scope scope=true) zA2._auto_1) (hcap:autoParam (YU X.N N' scope m=true) zA2._auto_1) (hs:autoParam (∀ x,zf1 iter X.env x=pure x) zA3._auto_1) (hs2:autoParam (∀ s H fp x,zf1 i2 (qv X N' scope s H fp).env x=pure x) zA7._auto_1) :
  jE3 X (.ListComp elt [⟨tg,iter,ifs,0⟩,⟨t2,i2,f2,0⟩] scope pos) (qiL wi g tif wi2 g2 tif2 te m):=
 ⟨qpK N' m hc hi.h (λs H fp=>(hg s H fp).h) (λs H fp=>(hf s H fp).h) (λs H fp=>(hi2 s H fp).h) (λs H fp=>(hg2 s H fp).h) (λs H fp=>(hf2 s H fp).h) (λs H fp=>(he s H fp).h) hsc hcap hs hs2⟩
theorem CW:∀ {its:List Value} {ns:List Int},zJ (ns.map V.int) its->IntsAre its ns
 |_,[],h=>by cases h;exact .nil
 |_,n::ns,h=>by
  cases h with
  |cons r t=>
   obtain ⟨k,rfl⟩:=r;exact .cons n k (CW t)
section
variable {tg a b c:Expr} {pos:Pos}
end
noncomputable def V6 (ns:List Int):Nat:=(firstMet (λi=>ns.getD i 0) ns.length).length
theorem SU (hc:X.calm=true):JW X (.type "set") (λxs H Q=>∃ (p:Addr) (ns:List Int),xs=[.ref p]/\SqL X.K H p (ns.map V.int)/\ns.length<4000/\∀ l S,H l=none->Q (.ref l) (upd H l (.set S (V6 ns)))):=by
 intro pins s σ H xs us Q I r h;obtain ⟨p,ns,rfl,hq,hl,q⟩:=h;obtain ⟨u,rfl,rp⟩:=W0 r;cases (show u=Value.ref p from rp);obtain ⟨its,rv,pl,hz⟩:=I.list hq;have hlen:its.length=ns.length:=by have:=rv.length;simp at this;omega
 refine call_set_list (items:=its.toArray) (ns:=ns) (I.ok.hd hc) pl.isList (by simpa using CW rv) (by rw [ze3];unfold scanBound;omega) λh' tk hs kp=>?_;have e:(its.toArray).size=ns.length:=by rw [ze3];exact hlen
 rw [e] at hs;exact ⟨.ref s.heap.objs.size,_,I.laid (t':=tk) (o:=.set (λk'=>(firstMet (λi=>ns.getD i 0) ns.length).any (·==k')) (V6 ns)) (λb o hb=>kp b o (v7 hb) hb) (u9 _) hs,rfl,q _ _ (I.hok.fresh (u9 _))⟩
theorem RW:JW X (.builtin "len") (λxs H Q=>∃ a S n,xs=[.ref a]/\H a=some (.set S n)/\Q (.int n) H):=by
 intro pins s σ H xs us Q I r h;obtain ⟨a,S,n,rfl,ha,q⟩:=h;obtain ⟨u,rfl,rp⟩:=W0 r;cases (show u=Value.ref a from rp);obtain ⟨o,es,ep,t,h1,h2,h3,_,_,h6,h7,h8⟩:=(show s.heap.SetOf (intKind X.prog X.w) a S n from I.hok a _ ha)
 refine call_len_set h1 h2 h3 h7 (by unfold scanBound at h6;omega) ⟨.int n,H,I.tok _,⟨_,by rw [h8]⟩,q⟩
def qog (te:TE3):TE3:=λτ G q=>te τ G λx G1=>match x with
 |.ref p=>(match getL G1 p with|some ys=>(match XB ys with|some ns=>ns.length<4000/\q (.int (V6 ns)) G1|none=>False)|none=>False)
 |_=>False
theorem qcI {e:Expr} {te:TE3} {p p2 pos pos2:Pos} (hc:X.calm=true) (hg:Gl X "len") (hm:X.mg "len" = none) (hg2:Gl X "set") (hm2:X.mg "set" = none) (he:jE3 X e te)
  (h1:autoParam (ze0 [e] X.env=(false,eval e X.env)::ze0 [] X.env) zA0._auto_1) (h2:autoParam (ze0 [.Call (.Name "set" p2) [e] [] pos2] X.env=(false,eval (.Call (.Name "set" p2) [e] [] pos2) X.env)::ze0 [] X.env) zA0._auto_1)
  (h3:autoParam ((zn3 pos (ze0 [] X.env)).any (·.1)=false) zA0._auto_1) (h4:autoParam ((zn3 pos2 (ze0 [] X.env)).any (·.1)=false) zA0._auto_1):jE3 X (.Call (.Name "len" p) [.Call (.Name "set" p2) [e] [] pos2] [] pos) (qog te):=
 ⟨D0 (WD RW hg hm zb1 (ZT (K1 (SU hc) hg2 hm2 (show zk6 "set" = some (.type "set") by decide +kernel) (ZT he.h CY h1) (he:=h1) (hpl:=h4)) CY h2) (he:=h2) (hpl:=h3)) λ_ _ _ ⟨τ,G,q,rl,h,af⟩=>ze rl h λx G1 h1 v H1 rx hr1 k1 rl1=>by
  split at h1
  ·rename_i l;cases rx;split at h1
   ·rename_i ys e0;split at h1
    ·rename_i ns e1;obtain ⟨us,hs,r2⟩:=zB hr1 e0;have:=YH e1;subst this;have:=J7 r2;subst this;exact ⟨l,ns,rfl,hs,h1.1,λa S ha=>⟨a,S,_,rfl,zn,af _ _ h1.2 _ _ (.int _) (HR.laid hr1 ha) (k1.trans (Kp.laid ha))⟩⟩
    ·exact h1.elim
   ·exact h1.elim
  ·exact h1.elim⟩
section
variable {a b:Expr} {ta tb:TE3} {pos:Pos}
end
end L3
namespace HT
open PySem PySem.Spec PyProof.Rows
section
variable {prog:Program} {w:World} {A:Around} {E:Value->Shared->Prop} {s:Shared}
end
end HT
namespace L3
open PySem PySem.Spec PyProof.Rows L2
variable {pos:Pos}
section
variable {X:Cx} {e ek:Expr} {p2:Pos}
end
section
variable {X:Cx} {a b:Expr} {ta tb:TE3}
end
abbrev Rd (sp:Sp3) (n:Nat) (t:TS3) (N:List Str):Prop:=∀ ts G q,sp ts G q->ts.length=n/\t { nx:=λ_ G'=>q .non G',rt:=q } (qo N ts) G
theorem jgn {X:Cx} {x:Str} (i:Nat) (hN:autoParam (decide X.N.Nodup=true) zA2._auto_1) (hi:autoParam (X.N[i]?=some x) zA0._auto_1) (hx:autoParam (Loc X.env.scope x) zA5._auto_1) (hf:autoParam (X.fn x=true\/X.env.scope.names.lookup x=some .local) zA6._auto_1):jG3 X (.Name x pos) (gn3 i):=
 ql (of_decide_eq_true hN) hi hx hf
end L3
namespace L2
open PySem PySem.Spec PyProof.Rows
section
variable {X:Cx} {pos:Pos}
end
end L2
namespace L3
open PySem PySem.Spec PyProof.Rows L2
section
variable {X:Cx} {pos:Pos}
end
end L3
namespace HT
open PySem PyProof.Rows
section
variable {prog:Program} {w:World} {A:Around} {E:Value->Shared->Prop} {s:Shared}
noncomputable abbrev oS (led:Bool):Obj:={ cls:=.type "set",dict:=none,data:=.set #[] 0 (.fresh 0 0 led) }
end
end HT
namespace L3
open PySem PySem.Spec PyProof.Rows L2
section
variable {X:Cx}
end
variable {E:Value->Shared->Prop}
section
variable {P:Program} {w:World} {A:Around} {s:Shared} {z ti to i1 i2 c1 c2:Addr} {S1 S2:Nat->Heap->Prop} {H1 H2:Array Value->Heap->Prop} {k1 k2:Nat} {xs ys:Array Value} {x y a b f0 f1:Value}
end
section
variable {P:Program} {w:World} {A:Around} {s:Shared}
end
section
variable {X:Cx} {a b e l:Expr} {es:List Expr} {pos:Pos} {t:TA3}
end
end L3
namespace Tb8
open PySem PySem.SetTable
def Up (xs:Array Nat):Prop:=∀ a b,a<b->b<xs.size->xs.getD a 0<xs.getD b 0
variable {xs:Array Nat} {i:Nat}
theorem gD {d e:Nat} (h:i<xs.size):xs.getD i d=xs.getD i e:=by simp [xi7,h]
theorem Up.le (u:Up xs) {a b:Nat} (h:a<=b) (hb:b<xs.size):xs.getD a 0<=xs.getD b 0:=by
 rcases zk8 a b with z|z
 ·exact Nat.le_of_lt (u a b z hb)
 ·rw [show a=b by omega];exact u9 _
structure Bel (xs:Array Nat) (j r:Nat):Prop where
 le:r<=xs.size
 lo:∀ i,i<r->xs.getD i 0<j
 hi:∀ i,r<=i->i<xs.size->j<=xs.getD i 0
theorem SR {xs:Array Nat} {j:Nat} (u:Up xs):∀ (fuel lo hi:Nat),lo<=hi->hi<=xs.size->hi-lo<=fuel->(∀ i,i<lo->xs.getD i 0<j)->(∀ i,hi<=i->i<xs.size->j<=xs.getD i 0)->Bel xs j (below.go xs j fuel lo hi)
 |0,lo,hi,h1,h2,h3,h4,h5=>by
  obtain rfl:lo=hi:=by omega
  exact ⟨h2,h4,h5⟩
 |fuel+1,lo,hi,h1,h2,h3,h4,h5=>by
  unfold below.go;by_cases c:lo<hi
  ·have hm:(lo+hi)/2<xs.size:=by omega
   rw [if_pos c];simp only;rw [gD (e:=0) hm];by_cases c2:xs.getD ((lo+hi)/2) 0<j
   ·rw [if_pos c2];exact SR u fuel _ _ (by omega) h2 (by omega) (λi hi'=>Nat.lt_of_le_of_lt (u.le (show i<=(lo+hi)/2 by omega) hm) c2) h5
   ·rw [if_neg c2];exact SR u fuel _ _ (by omega) (by omega) (by omega) h4 λi hi' hs=>za4 (Nat.le_of_not_lt c2) (u.le hi' hs)
  ·rw [if_neg c];obtain rfl:lo=hi:=by omega
   exact ⟨h2,h4,h5⟩
variable {j:Nat}
theorem NZ (u:Up xs):Bel xs j (below xs j):=SR u _ _ _ (zj1 _) (u9 _) (u9 _) (λi h=>absurd h (xf8 i)) λi h hs=>absurd hs (by omega)
theorem qd0 (h:xs[i]?=some j):i<xs.size/\xs.getD i 0=j:=by
 obtain ⟨h1,h2⟩:=xd8.mp h;exact ⟨h1,by simp [xi7,h1,h2]⟩
theorem SG (h:i<xs.size):xs[i]?=some (xs.getD i 0):=by simp [xi7,h]
theorem qdT (u:Up xs) (h:xs[i]?=some j):below xs j=i:=by
 obtain ⟨h1,h2⟩:=qd0 h;have B:=NZ (j:=j) u;rcases xh6 (below xs j) i with z|z|z
 ·have:=B.hi _ (u9 _) (by omega);have:=u _ _ z h1;omega
 ·exact z
 ·have:=B.lo i z;omega
variable {t:SetTable}
theorem UP (u:Up t.place) (h:t.place[i]?=some j):t.slot j=.live i:=by
 unfold SetTable.slot;simp only;rw [qdT u h,h];simp
theorem RG (d:t.dummies=#[]) (h:∀ i:Nat,t.place[i]?≠some j):t.slot j=.empty:=by
 unfold SetTable.slot;simp only;rw [if_neg (by simpa using h _),if_neg];unfold has;rw [d];simp
theorem LI (u:Up t.place) (d:t.dummies=#[]) (j:Nat):(t.slot j=.empty/\∀ i:Nat,t.place[i]?≠some j)\/∃ i:Nat,t.slot j=.live i/\t.place[i]?=some j:=by
 by_cases c:∃ i:Nat,t.place[i]?=some j
 ·obtain ⟨i,h⟩:=c;exact .inr ⟨i,UP u h,h⟩
 ·have c':∀ i:Nat,t.place[i]?≠some j:=λi h=>c ⟨i,h⟩;exact .inl ⟨RG d c',c'⟩
noncomputable def adv (M:Nat) (p:Probe):Probe:=
 if p.more > 0 then { p with j:=p.j+1,more:=p.more-1 } else
 { p with j:=(leap M p.i p.perturb).1,more:=xi8 M (leap M p.i p.perturb).1-(leap M p.i p.perturb).1,i:=(leap M p.i p.perturb).1,perturb:=(leap M p.i p.perturb).2 }
theorem qnU (t:SetTable) (p:Probe):t.advance p=adv t.mask p:=rfl
noncomputable def st (M:Nat) (h:Int):Probe:={ j:=bits h%(M+1),more:=xi8 M (bits h%(M+1))-bits h%(M+1),i:=bits h%(M+1),perturb:=bits h,dummy:=none }
def pth (M:Nat) (h:Int):Nat->Probe
 |0=>st M h
 |n+1=>adv M (pth M h n)
theorem KK (M:Nat) (h:Int):∀ n,(pth M h n).dummy=none
 |0=>rfl
 |n+1=>by
  have:=KK M h n;simp only [pth,adv];split<;>exact this
variable {M:Nat}
theorem N8 (h:i<=M):xi8 M i<=M/\i<=xi8 M i/\xi8 M i<=i+9:=by unfold xi8;split<;>omega
theorem qfv (M:Nat) (h:Int):∀ n,(pth M h n).j+(pth M h n).more<=M
 |0=>by
  have:=Nat.mod_lt (bits h) (show 0<M+1 by omega);have:=N8 (M:=M) (i:=bits h%(M+1)) (by omega);simp only [pth,st];omega
 |n+1=>by
  have ih:=qfv M h n;simp only [pth,adv];split
  ·simp only;omega
  ·have:(leap M (pth M h n).i (pth M h n).perturb).1<M+1:=Nat.mod_lt _ (by omega);have:=N8 (M:=M) (i:=(leap M (pth M h n).i (pth M h n).perturb).1) (by omega);simp only;omega
noncomputable def hd (M i p:Nat):Probe:={ j:=i,more:=xi8 M i-i,i:=i,perturb:=p,dummy:=none }
noncomputable def lv (M:Nat) (h:Int):Nat->Nat×Nat
 |0=>(bits h%(M+1),bits h)
 |k+1=>leap M (lv M h k).1 (lv M h k).2
theorem qp0 {M:Nat} {h:Int} {i p:Nat}:∀ (m n j:Nat),pth M h n={ j:=j,more:=m,i:=i,perturb:=p,dummy:=none }->pth M h (n+m)={ j:=j+m,more:=0,i:=i,perturb:=p,dummy:=none }
 |0,n,j,e=>e
 |m+1,n,j,e=>by
  have e2:pth M h (n+1)={ j:=j+1,more:=m,i:=i,perturb:=p,dummy:=none }:=by
   rw [pth,e,adv];simp
  have:=qp0 m (n+1) (j+1) e2;rw [show n+1+m=n+(m+1) by omega,show j+1+m=j+(m+1) by omega] at this;exact this
theorem qdt (M:Nat) (h:Int):∀ k,(lv M h k).1<=M
 |0=>by have:=Nat.mod_lt (bits h) (show 0<M+1 by omega);simp only [lv];omega
 |k+1=>by
  have:(leap M (lv M h k).1 (lv M h k).2).1<M+1:=Nat.mod_lt _ (by omega);simp only [lv];omega
theorem qku (M:Nat) (h:Int):∀ k,∃ n,n<=10*k/\pth M h n=hd M (lv M h k).1 (lv M h k).2
 |0=>⟨0,by omega,rfl⟩
 |k+1=>by
  obtain ⟨n,hn,e⟩:=qku M h k;have r:=N8 (qdt M h k);have w:=qp0 _ n _ e;refine ⟨n+(xi8 M (lv M h k).1-(lv M h k).1)+1,by omega,?_⟩;rw [pth,w];rfl
theorem qbo (M:Nat) (h:Int):∀ k,(lv M h k).2=bits h/32 ^ k
 |0=>by simp [lv]
 |k+1=>by
  show (lv M h k).2/32=_;rw [qbo M h k,xh7,xm3]
theorem qib (h:Int):bits h<2 ^ 64:=by
 unfold bits;have:=zg0 h (show (0:Int)<2 ^ 64 by decide);have:=zh6 h (show (2 ^ 64:Int)≠0 by decide);omega
noncomputable def stp (M x:Nat):Nat:=(x*5+1)%(M+1)
def its (M:Nat):Nat->Nat->Nat
 |0,x=>x
 |t+1,x=>stp M (its M t x)
theorem qaU (M:Nat) (h:Int):∀ t,(lv M h (13+t)).1=its M t (lv M h 13).1
 |0=>rfl
 |t+1=>by
  have z:(lv M h (13+t)).2/32=0:=by
   rw [qbo,xh7,← xm3];refine Nat.div_eq_of_lt (za2 (qib h) ?_);exact za4 (show 2 ^ 64<=32 ^ 14 by decide) (xk2 (by omega) (by omega))
  show ((lv M h (13+t)).1*5+1+(lv M h (13+t)).2/32)%(M+1)=stp M (its M t _);rw [z,qaU M h t];rfl
def qac (M:Nat):Prop:=∀ x,x<=M->∀ c,c<=M->∃ t,t<=M/\its M t x=c
theorem qqn:qac 7:=by
 have:∀ x:Fin 8,∀ c:Fin 8,∃ t:Fin 8,its 7 t.val x.val=c.val:=by decide +kernel
 intro x hx c hc;obtain ⟨t,ht⟩:=this ⟨x,by omega⟩ ⟨c,by omega⟩;exact ⟨t.val,by omega,ht⟩
theorem qom:qac 31:=by
 have:∀ x:Fin 32,∀ c:Fin 32,∃ t:Fin 32,its 31 t.val x.val=c.val:=by decide +kernel
 intro x hx c hc;obtain ⟨t,ht⟩:=this ⟨x,by omega⟩ ⟨c,by omega⟩;exact ⟨t.val,by omega,ht⟩
theorem VE (M:Nat) (x t:Nat):∀ s,its M (s+t) x=its M s (its M t x)
 |0=>by rw [zf2];rfl
 |s+1=>by rw [Nat.succ_add];show stp M (its M (s+t) x)=stp M _;rw [VE M x t s]
theorem qiu:qac 127:=by
 have h:∀ c:Fin 128,∃ t:Fin 128,its 127 t.val 0=c.val:=by decide +kernel
 have z:its 127 128 0=0:=by decide +kernel
 intro x hx c hc;obtain ⟨a,ha⟩:=h ⟨x,by omega⟩;obtain ⟨b,hb⟩:=h ⟨c,by omega⟩;simp only at ha hb;have la:=a.isLt;have lb:=b.isLt;by_cases q:a.val<=b.val
 ·refine ⟨b.val-a.val,by omega,?_⟩;have:=VE 127 0 a.val (b.val-a.val);rw [xg5 q,hb,ha] at this;exact this.symm
 ·refine ⟨b.val+128-a.val,by omega,?_⟩;have:=VE 127 0 a.val (b.val+128-a.val);rw [xg5 (by omega),VE 127 0 128,z,hb,ha] at this;exact this.symm
theorem qjl:qac 511:=by
 have h:∀ c:Fin 512,∃ t:Fin 512,its 511 t.val 0=c.val:=by decide +kernel
 have z:its 511 512 0=0:=by decide +kernel
 intro x hx c hc;obtain ⟨a,ha⟩:=h ⟨x,by omega⟩;obtain ⟨b,hb⟩:=h ⟨c,by omega⟩;simp only at ha hb;have la:=a.isLt;have lb:=b.isLt;by_cases q:a.val<=b.val
 ·refine ⟨b.val-a.val,by omega,?_⟩;have:=VE 511 0 a.val (b.val-a.val);rw [xg5 q,hb,ha] at this;exact this.symm
 ·refine ⟨b.val+512-a.val,by omega,?_⟩;have:=VE 511 0 a.val (b.val+512-a.val);rw [xg5 (by omega),VE 511 0 512,z,hb,ha] at this;exact this.symm
theorem qmK (F:qac M) (h:Int) {c:Nat} (hc:c<=M):∃ n,n<10*turns M/\(pth M h n).j=c:=by
 obtain ⟨t,ht,e⟩:=F _ (qdt M h 13) c hc;obtain ⟨n,hn,e2⟩:=qku M h (13+t);refine ⟨n,by unfold turns;omega,?_⟩;rw [e2,hd,qaU,e]
variable {n:Nat}
theorem qbf {P:Nat->Prop} (h:P n):∃ m,m<=n/\P m/\∀ k,k<m->¬ P k:=by
 induction n using Nat.strongRecOn with
 |_ n ih=>
  by_cases c:∃ k,k<n/\P k
  ·obtain ⟨k,hk,pk⟩:=c;obtain ⟨m,hm,r⟩:=ih k hk pk;exact ⟨m,by omega,r⟩
  ·exact ⟨n,u9 _,h,λk hk pk=>c ⟨k,hk,pk⟩⟩
theorem qjo (u:Up xs) (h:xs.size<=M):∃ c,c<=M/\∀ i:Nat,xs[i]?≠some c:=by
 by_cases c:∃ c,c<=M/\∀ i:Nat,xs[i]?≠some c
 ·exact c
 exfalso;have all:∀ c,c<=M->∃ i:Nat,xs[i]?=some c:=λd hd=>by
  by_cases z:∃ i:Nat,xs[i]?=some d
  ·exact z
  ·exact absurd ⟨d,hd,λi e=>z ⟨i,e⟩⟩ c
 have ge:∀ i,i<xs.size->i<=xs.getD i 0:=by
  intro i;induction i with
  |zero=>intro _;exact zj1 _
  |succ i ih=>
   intro hi;have:=ih (by omega);have:=u i (i+1) (by omega) hi;omega
 obtain ⟨i,hi⟩:=all M (u9 _);obtain ⟨i1,i2⟩:=qd0 hi;obtain ⟨m,hm,⟨m1,m2⟩,hl⟩:=qbf (P:=λi=>i<xs.size/\i<xs.getD i 0) (n:=i) ⟨i1,by omega⟩;obtain ⟨k,hk⟩:=all m (by omega);obtain ⟨k1,k2⟩:=qd0 hk;rcases zk8 k m with z|z
 ·have a:=ge k k1;have b:=hl k z;have:¬ k<xs.getD k 0:=λq=>b ⟨k1,q⟩;omega
 ·have:=u.le z k1;omega
variable {h:Int}
theorem qae (F:qac t.mask) (u:Up t.place) (d:t.dummies=#[]) (s:t.place.size<=t.mask):∃ e,e<10*turns t.mask/\t.slot (pth t.mask h e).j=.empty/\∀ k,k<e->t.slot (pth t.mask h k).j≠.empty:=by
 obtain ⟨c,hc,hf⟩:=qjo u s;obtain ⟨n,hn,e⟩:=qmK F h hc;obtain ⟨m,hm,pm,hl⟩:=qbf (P:=λn=>t.slot (pth t.mask h n).j=.empty) (n:=n) (by rw [e];exact RG d hf);exact ⟨m,by omega,pm,hl⟩
theorem qcS {t:SetTable} {hA:Nat->Int} {h:Int}:∀ (m fuel n:Nat),(∀ k,k<m->∃ i,t.slot (pth t.mask h (n+k)).j=.live i/\(hA i==h)=false)->m<=fuel->xn9 t hA h fuel (pth t.mask h n)=xn9 t hA h (fuel-m) (pth t.mask h (n+m))
 |0,fuel,n,_,_=>rfl
 |m+1,0,n,_,hf=>by omega
 |m+1,fuel+1,n,hs,hf=>by
  obtain ⟨i,e1,e2⟩:=hs 0 (by omega);rw [Nat.add_zero] at e1;rw [xn9,e1];simp only [e2,ze2,if_false];have:=qcS m fuel (n+1) (λk hk=>by rw [show n+1+k=n+(k+1) by omega];exact hs (k+1) (by omega)) (by omega);rw [qnU,← pth,this,show n+1+m=n+(m+1) by omega,show fuel+1-(m+1)=fuel-m by omega]
variable {hA:Nat->Int}
theorem qev {fuel:Nat} (e:t.slot (pth t.mask h n).j=.empty) (hf:0<fuel):xn9 t hA h fuel (pth t.mask h n)=some (.empty (pth t.mask h n).j none):=by
 obtain ⟨f,rfl⟩:∃ f,fuel=f+1:=⟨fuel-1,by omega⟩
 rw [xn9,e,KK]
theorem qi2 {fuel:Nat} (e:t.slot (pth t.mask h n).j=.live i) (eh:(hA i==h)=true) (hf:0<fuel):xn9 t hA h fuel (pth t.mask h n)=some (.candidate (pth t.mask h n).j i (pth t.mask h (n+1))):=by
 obtain ⟨f,rfl⟩:∃ f,fuel=f+1:=⟨fuel-1,by omega⟩
 rw [xn9,e];simp only [eh,if_true];rfl
variable {α:Type}
noncomputable def ins (l:List α) (p:Nat) (x:α):List α:=l.take p++x::l.drop p
theorem SK {l:List α} {p:Nat} {x:α} (h:p<=l.length):(ins l p x).length=l.length+1:=by simp [ins];omega
theorem qbt {l:List α} {p:Nat} {x:α} (h:p<=l.length) (i:Nat):(ins l p x)[i]?=if i<p then l[i]? else if i=p then some x else l[i-1]?:=by
 have e:(l.take p).length=p:=by simp;omega
 unfold ins;split
 ·rename_i c;rw [zg7 (by omega),List.getElem?_take_of_lt c]
 ·rw [zj2 (by omega),e];split
  ·rename_i c;subst c;simp
  ·rename_i c1 c2;obtain ⟨k,rfl⟩:∃ k,i=p+(k+1):=⟨i-p-1,by omega⟩
   rw [show p+(k+1)-p=k+1 by omega,x6,List.getElem?_drop,show p+(k+1)-1=p+k by omega]
theorem U5 (xs:Array α) (p:Nat) (x:α) (h:p<=xs.size):(zk5 xs p x).toList=ins xs.toList p x:=by
 unfold zk5 ins;simp;exact List.take_of_length_le (by simp)
structure Ok8 (t:SetTable) (hs:List Int):Prop where
 up:Up t.place
 dm:t.dummies=#[]
 sz:t.place.size=hs.length
 fl:hs.length<=t.mask
 le:∀ (i j:Nat),t.place[i]?=some j->j<=t.mask
 fu:qac t.mask
 od:t.mask%2=1
 wy:∀ (i j:Nat) (h:Int),t.place[i]?=some j->hs[i]?=some h->∃ m,(pth t.mask h m).j=j/\∀ k,k<m->t.slot (pth t.mask h k).j≠.empty
variable {hs:List Int}
theorem Ok8.ne (o:Ok8 t hs) :t.slot j≠.empty↔∃ i:Nat,t.place[i]?=some j:=by
 rcases LI o.up o.dm j with ⟨e,h⟩|⟨i,e,h⟩
 ·exact ⟨λz=>absurd e z,λ⟨i,z⟩=>absurd z (h i)⟩
 ·exact ⟨λ_=>⟨i,h⟩,λ_ z=>by rw [e] at z;cases z⟩
theorem qaH (xs:Array α) (i:Nat):xs[i]?=xs.toList[i]?:=by simp
theorem Ok8.put (o:Ok8 t hs) (he:t.slot j=.empty) (hj:j<=t.mask) (hf:hs.length+1<=t.mask) (w:∃ m,(pth t.mask h m).j=j/\∀ k,k<m->t.slot (pth t.mask h k).j≠.empty) :
  (t.put j).2<=hs.length/\Ok8 (t.put j).1 (ins hs (t.put j).2 h)/\(t.put j).1.mask=t.mask:=by
 have hn:∀ i:Nat,t.place[i]?≠some j:=λi z=>(o.ne.mpr ⟨i,z⟩) he;have B:=NZ (j:=j) o.up;obtain ⟨p,hp⟩:∃ p,p=below t.place j:=⟨_,rfl⟩
 have hd:has t.dummies j=false:=by unfold has;rw [o.dm];simp
 have e1:(t.put j).1={ t with place:=zk5 t.place p j }:=by
  unfold SetTable.put;simp only [hd,hp];rfl
 have e2:(t.put j).2=p:=by unfold SetTable.put;rw [hp]
 rw [← hp] at B;have pl:p<=t.place.size:=B.le;have pl':p<=hs.length:=by rw [← o.sz];exact pl
 have gt:∀ i:Nat,(zk5 t.place p j)[i]?=if i<p then t.place[i]? else if i=p then some j else t.place[i-1]?:=λi=>by
  rw [qaH,U5 _ _ _ pl,qbt (by simpa using pl),qaH,qaH]
 have hz:(zk5 t.place p j).size=t.place.size+1:=by
  rw [← zm5,U5 _ _ _ pl,SK (by simpa using pl),zm5]
 rw [e1,e2];have up':Up (zk5 t.place p j):=by
  intro a b hab hb;rw [hz] at hb;have ga:=gt a;have gb:=gt b;have da:(zk5 t.place p j)[a]?=some ((zk5 t.place p j).getD a 0):=SG (by rw [hz];omega);have db:(zk5 t.place p j)[b]?=some ((zk5 t.place p j).getD b 0):=SG (by rw [hz];omega);rw [da] at ga;rw [db] at gb;generalize (zk5 t.place p j).getD a 0=x at ga ⊢;generalize (zk5 t.place p j).getD b 0=y at gb ⊢;have gtj:∀ i:Nat,p<=i->i<t.place.size->j<t.place.getD i 0:=λi h1 h2=>by
   have a1:=B.hi i h1 h2;have a2:t.place.getD i 0≠j:=λz=>hn i (by rw [SG h2,z]);omega
  by_cases c1:a<p
  ·rw [if_pos c1,SG (by omega)] at ga;cases ga;by_cases c2:b<p
   ·rw [if_pos c2,SG (by omega)] at gb;cases gb;exact o.up a b hab (by omega)
   ·rw [if_neg c2] at gb;by_cases c3:b=p
    ·rw [if_pos c3] at gb;cases gb;exact B.lo a c1
    ·rw [if_neg c3,SG (by omega)] at gb;cases gb;exact Nat.lt_trans (B.lo a c1) (gtj _ (by omega) (by omega))
  ·rw [if_neg c1] at ga;have c2:¬ b<p:=by omega
   have c3:¬ b=p:=by omega
   rw [if_neg c2,if_neg c3,SG (by omega)] at gb;cases gb;by_cases c4:a=p
   ·rw [if_pos c4] at ga;cases ga;exact gtj _ (by omega) (by omega)
   ·rw [if_neg c4,SG (by omega)] at ga;cases ga;exact o.up _ _ (by omega) (by omega)
 have ne':∀ j',t.slot j'≠.empty->SetTable.slot { t with place:=zk5 t.place p j } j'≠.empty:=λj' z=>by
  obtain ⟨i,hi⟩:=o.ne.mp z;have:∃ i':Nat,(zk5 t.place p j)[i']?=some j':=by
   by_cases c:i<p
   ·exact ⟨i,by rw [gt,if_pos c,hi]⟩
   ·exact ⟨i+1,by rw [gt,if_neg (by omega),if_neg (by omega),Nat.add_sub_cancel,hi]⟩
  obtain ⟨i',hi'⟩:=this;rw [UP (t:={ t with place:=zk5 t.place p j }) up' hi'];exact λz=>by cases z
 refine ⟨pl',⟨up',o.dm,by rw [SK pl'];simp only;rw [hz,o.sz],by rw [SK pl'];exact hf,λi j' hi=>?_,o.fu,o.od,λi j' h' hi hh=>?_⟩,rfl⟩
 ·simp only at hi;rw [gt] at hi;split at hi
  ·exact o.le _ _ hi
  ·split at hi
   ·cases hi;exact hj
   ·exact o.le _ _ hi
 ·simp only at hi;rw [gt] at hi;rw [qbt pl'] at hh;have go:∀ i0:Nat,t.place[i0]?=some j'->hs[i0]?=some h'->∃ m,(pth t.mask h' m).j=j'/\∀ k,k<m->SetTable.slot { t with place:=zk5 t.place p j } (pth t.mask h' k).j≠.empty:=λi0 a b=>by
   obtain ⟨m,m1,m2⟩:=o.wy i0 j' h' a b;exact ⟨m,m1,λk hk=>ne' _ (m2 k hk)⟩
  split at hi
  ·rename_i c;rw [if_pos c] at hh;exact go i hi hh
  ·rename_i c;rw [if_neg c] at hh;split at hi
   ·rename_i c2;rw [if_pos c2] at hh;cases hi;cases hh;obtain ⟨m,m1,m2⟩:=w;exact ⟨m,m1,λk hk=>ne' _ (m2 k hk)⟩
   ·rename_i c2;rw [if_neg c2] at hh;exact go _ hi hh
theorem Ok8.fresh (f m:Nat) (led:Bool):Ok8 (SetTable.fresh f m led) []:=by
 refine ⟨λa b h hb=>?_,rfl,rfl,zj1 _,λi j h=>?_,qqn,(by show 7%2=1;rfl),λi j h a b=>?_⟩
 ·simp [SetTable.fresh] at hb
 ·simp [SetTable.fresh] at h
 ·simp at b
end Tb8
namespace Tb8
open PySem PyProof.Rows
variable {k:List Int} {a:Addr} {Q:Bool->Shared->Prop}
section
variable {prog:Program} {w:World} {A:Around} {E:Value->Shared->Prop} {s:Shared}
abbrev IsP (prog:Program) (w:World) (h:Heap) (k:List Int) (a:Addr):Prop:=IsTupleKey (intKind prog w) h k a
noncomputable abbrev hsh (prog:Program) (w:World) (k:List Int):Int:=tupleKeyHash (intKind prog w) k
theorem qnY {k:Int} {v:Value} (h:(intKind prog w).is k v=true):∃ t,v=.int k t:=by
 cases v<;>first|(cases h;done)|skip
 case int i t=>
  have:i=k:=by simpa [intKind,Value.isInt] using h
  exact ⟨t,by rw [this]⟩
theorem qfi {ks:List Int} {vs:List Value} (h:ItemsAre (intKind prog w) ks vs):∀ v∈vs,∃ i t,v=Value.int i t:=by
 induction h with
 |nil=>intro v hv;cases hv
 |cons h1 _ ih=>
  intro v hv;rcases ze9.mp hv with rfl|hv
  ·obtain ⟨t,e⟩:=qnY h1;exact ⟨_,t,e⟩
  ·exact ih v hv
theorem qrs (hk:IsP prog w s.heap k a) (h:Q false s):wpAny (model prog w) A (ofAClassStatement 8 (.ref a)) Q E s:=by
 have hT:=hk.typeIs;obtain ⟨o,items,n,ho,_,hd,hi⟩:=hk;unfold ofAClassStatement;refine y8 (wpAny_typeOf hT ?_);simp only [beq_self_eq_true,if_true];refine y8 (y9 ?_);simp only [zg1,ze2,if_false];refine y8 (zm3 ho hd ?_);refine y8 ?_;show wpAny _ _ (forIn items _ _) _ _ s;rw [← Array.forIn_toList];refine wpAny_forIn_list _ (λjz r s'=>r.1=none/\s'=s/\∀ v∈jz,∃ i t,v=Value.int i t) _ ?_ ?_ _ _ ⟨rfl,rfl,qfi hi⟩
 ·rintro v jz r s' ⟨hr,rfl,hall⟩;obtain ⟨i,t,rfl⟩:=hall v za7;refine y8 (y9 ?_);simp only [ze2,if_false];exact y9 ⟨rfl,rfl,λu hu=>hall u (za0 _ hu)⟩
 ·rintro ⟨r1,r2⟩ s' ⟨hr,rfl,_⟩;simp only at hr;subst hr;exact y9 h
theorem qpV {ys:List Value} (hk:IsP prog w s.heap k a) (hy:∀ y∈ys,∃ k' b,y=Value.ref b/\IsP prog w s.heap k' b) (h:Q false s):wpAny (model prog w) A (searchCouldBeSeen (.ref a) ys) Q E s:=by
 unfold searchCouldBeSeen;refine y8 ?_;refine wpAny_forIn_list _ (λjz r s'=>r.1=none/\s'=s/\∀ y∈jz,∃ k' b,y=Value.ref b/\IsP prog w s.heap k' b) _ ?_ ?_ _ _ ⟨rfl,rfl,hy⟩
 ·rintro y jz r s' ⟨hr,rfl,hall⟩;obtain ⟨k',b,rfl,hb⟩:=hall y za7;have nx:∀ y∈jz,∃ k' b,y=Value.ref b/\IsP prog w s'.heap k' b:=λu hu=>hall u (za0 _ hu);simp only;refine wpAny_ite ?_;split
  ·exact y9 ⟨rfl,rfl,nx⟩
  refine y8 (wpAny_eqIsQuiet_tuple hk ?_);simp only [zg1,ze2,if_false];refine y8 (wpAny_eqIsQuiet_tuple hb ?_);simp only [zg1,ze2,if_false];refine y8 (qrs hk ?_);simp only [ze2,if_false];refine y8 (qrs hb ?_);simp only [ze2,if_false];exact y9 ⟨rfl,rfl,nx⟩
 ·rintro ⟨r1,r2⟩ s' ⟨hr,rfl,_⟩;simp only at hr;subst hr;exact y9 h
theorem qrT (hk:IsP prog w s.heap k a) (h:∀ b,Q b s):wpAny (model prog w) A (hashByValue 8 (.ref a)) Q E s:=by
 have hT:=hk.typeIs;obtain ⟨o,items,n,ho,_,hd,hi⟩:=hk;unfold hashByValue;refine y8 (wpAny_specialOf hT F.slot_tuple_hash.lookup ?_);simp only;refine y8 (zm3 ho hd ?_);simp only [xi9];refine y8 ?_;show wpAny _ _ (forIn items _ _) _ _ s;rw [← Array.forIn_toList];refine wpAny_forIn_list _ (λjz r s'=>r.1=none/\s'=s/\∀ v∈jz,∃ i t,v=Value.int i t) _ ?_ ?_ _ _ ⟨rfl,rfl,qfi hi⟩
 ·rintro v jz r s' ⟨hr,rfl,hall⟩;obtain ⟨i,t,rfl⟩:=hall v za7;refine y8 (y9 ?_);simp only [zg1,ze2,if_false];exact y9 ⟨rfl,rfl,λu hu=>hall u (za0 _ hu)⟩
 ·rintro ⟨r1,r2⟩ s' ⟨hr,rfl,_⟩;simp only at hr;subst hr;exact y9 (h _)
end
end Tb8
namespace Tb8
open PySem PyProof.Rows PySem.SetTable
variable {h:Heap} {S:Addr} {en:List (List Int×Addr)} {o:Obj} {es:Array (Int×Value)} {ep:Nat} {t:SetTable}
section
variable {prog:Program} {w:World} {A:Around} {E:Value->Shared->Prop} {s:Shared}
def ent (prog:Program) (w:World) (q:List Int×Addr):Int×Value:=(hsh prog w q.1,.ref q.2)
structure PS (prog:Program) (w:World) (h:Heap) (S:Addr) (en:List (List Int×Addr)) (o:Obj) (es:Array (Int×Value)) (ep:Nat) (t:SetTable):Prop where
 ho:h.get? S=some o
 hc:o.ExactSet
 hd:o.data=.set es ep t
 he:es.toList=en.map (ent prog w)
 hP:∀ q∈en,IsP prog w h q.1 q.2
 ok:Ok8 t (en.map λq=>hsh prog w q.1)
 nd:(en.map (·.1)).Nodup
theorem PS.sz (p:PS prog w h S en o es ep t):es.size=en.length:=by
 have:=congrArg List.length p.he;simpa using this
theorem PS.fits (p:PS prog w h S en o es ep t):t.fits es.size=true:=by
 have a:=p.ok.sz;have b:=p.ok.fl;rw [zd9] at a b;have c:t.fill=t.place.size:=by unfold SetTable.fill;rw [p.ok.dm];rfl
 unfold SetTable.fits;rw [p.sz,c,a];simp [b]
theorem PS.at_ (p:PS prog w h S en o es ep t) (i:Nat):es[i]?=(en[i]?).map (ent prog w):=by
 rw [qaH,p.he,ze5]
theorem qiB {S:Addr} {en:List (List Int×Addr)} {o:Obj} {es:Array (Int×Value)} {ep:Nat} {t:SetTable} {k:List Int} {a:Addr} {e:Nat} {Q:SetFound->Shared->Prop} (hu:A.units<cLine) (p:PS prog w s.heap S en o es ep t) (hk:IsP prog w s.heap k a)
  (e0:e<10*turns t.mask) (e1:t.slot (pth t.mask (hsh prog w k) e).j=.empty) (e2:∀ m,m<e->t.slot (pth t.mask (hsh prog w k) m).j≠.empty)
  (q1:k∈en.map (·.1)->Q (.there none) s) (q2:k∉en.map (·.1)->Q (.free (pth t.mask (hsh prog w k) e).j false) s) :
  ∀ (d n fuel:Nat) (stand:Option Probe),e-n=d->n<=e->d<fuel->stand.getD (t.probeStart (hsh prog w k))=pth t.mask (hsh prog w k) n ->
   (∀ m,m<n->∀ i q,t.slot (pth t.mask (hsh prog w k) m).j=.live i->en[i]?=some q->q.1≠k) ->
   wpAny (model prog w) A (xb4 S (.ref a) (hsh prog w k) true fuel stand) Q E s:=by
 intro d;induction d using Nat.strongRecOn with
 |_ d ih=>
  intro n fuel stand hd hn hf hst hno;obtain ⟨f,rfl⟩:∃ f,fuel=f+1:=⟨fuel-1,by omega⟩
  obtain ⟨H,hH⟩:∃ H:Nat->Int,H=λi=>(es[i]?.map (·.1)).getD 0:=⟨_,rfl⟩
  have hA:∀ i q,en[i]?=some q->H i=hsh prog w q.1:=λi q hq=>by rw [hH];simp only;rw [p.at_,hq];rfl
  -- the next that is met
  obtain ⟨m,hm1,⟨hm2,hm3⟩,hm4⟩:=qbf (P:=λm=>n<=m/\(t.slot (pth t.mask (hsh prog w k) m).j=.empty\/∃ i,t.slot (pth t.mask (hsh prog w k) m).j=.live i/\(H i==hsh prog w k)=true)) (n:=e) ⟨hn,.inl e1⟩;have sk:∀ x,x<m-n->∃ i,t.slot (pth t.mask (hsh prog w k) (n+x)).j=.live i/\(H i==hsh prog w k)=false:=λx hx=>by
   have b:=hm4 (n+x) (by omega);have c:¬ (t.slot (pth t.mask (hsh prog w k) (n+x)).j=.empty\/∃ i,t.slot (pth t.mask (hsh prog w k) (n+x)).j=.live i/\(H i==hsh prog w k)=true):=λz=>b ⟨by omega,z⟩;rcases LI p.ok.up p.ok.dm (pth t.mask (hsh prog w k) (n+x)).j with ⟨z,_⟩|⟨i,z,_⟩
   ·exact absurd (.inl z) c
   ·refine ⟨i,z,?_⟩;cases z2:(H i==hsh prog w k) with
    |true=>exact absurd (.inr ⟨i,z,z2⟩) c
    |false=>rfl
  have pr:t.probe H (hsh prog w k) (stand.getD (t.probeStart (hsh prog w k)))=SetTable.probe.go t H (hsh prog w k) (10*turns t.mask-(m-n)) (pth t.mask (hsh prog w k) m):=by
   rw [hst];show SetTable.probe.go t H (hsh prog w k) (10*turns t.mask) _=_;rw [qcS (m-n) _ n sk (by omega),show n+(m-n)=m by omega]
  have gw:t.gaveWay=false:=by unfold SetTable.gaveWay;rw [p.ok.od];rfl
  unfold xb4;refine y8 (xd2 p.ho p.hd p.fits ?_);simp only [gw,ze2,if_false];rw [hH] at pr;rcases hm3 with hm3|⟨i,hm3,hm5⟩
  ·-- a free place
   obtain rfl:m=e:=by
    rcases zk8 m e with z|z
    ·exact absurd hm3 (e2 m z)
    ·omega
   rw [qev hm3 (by omega)] at pr;generalize hX:t.probe _ _ _=X;obtain rfl:X=_:=hX.symm.trans pr;simp only;refine y9 (q2 λhin=>?_)
   -- it would have been met
   obtain ⟨q,hq,rfl⟩:=zf4.mp hin;obtain ⟨i,hi⟩:=xd0.mp hq;obtain ⟨j,hj⟩:∃ j,t.place[i]?=some j:=by
    have:=(zb6 hi).1;have sz:=p.ok.sz;rw [zd9] at sz;exact ⟨_,SG (by omega)⟩
   obtain ⟨x,x1,x2⟩:=p.ok.wy i j (hsh prog w q.1) hj (by rw [ze5,hi];rfl);have lv:t.slot (pth t.mask (hsh prog w q.1) x).j=.live i:=by rw [x1];exact UP p.ok.up hj
   have xe:x<m:=by
    rcases xh6 x m with z|z|z
    ·exact z
    ·rw [z,e1] at lv;cases lv
    ·exact absurd e1 (x2 m z)
   rcases zk8 x n with z|z
   ·exact hno x z i q lv hi rfl
   ·refine hm4 x xe ⟨z,.inr ⟨i,lv,?_⟩⟩;rw [hA i q hi];simp
  ·-- one with the same hash
   rw [qi2 hm3 (by rw [hH] at hm5;exact hm5) (by omega)] at pr;generalize hX:t.probe _ _ _=X;obtain rfl:X=_:=hX.symm.trans pr;simp only;have iP:∃ q,en[i]?=some q:=by
    rcases LI p.ok.up p.ok.dm (pth t.mask (hsh prog w k) m).j with ⟨z,_⟩|⟨i',z,z2⟩
    ·rw [z] at hm3;cases hm3
    ·rw [hm3] at z;cases z;have:=(qd0 z2).1;have sz:=p.ok.sz;rw [zd9] at sz;exact ⟨_,u7 (by omega)⟩
   obtain ⟨q,hq⟩:=iP;have hqP:=p.hP q (za3 hq);have ei:es[i]?=some (ent prog w q):=by rw [p.at_,hq];rfl
   have sm:t.sameMemory t.moves t.mask=some true:=by unfold SetTable.sameMemory;simp
   have me:m<e:=by
    rcases zk8 m e with z|z
    ·exact z
    ·rw [show m=e by omega,e1] at hm3;cases hm3
   have jz:wpAny (model prog w) A (xf7 [Value.ref q.2] (eqBool (Value.ref q.2) (Value.ref a)) >>= λequal=>do
     let __x←setState S
     if (true&&equal)=true then pure (SetFound.there none)
     else match __x.2.snd.sameMemory t.moves t.mask with
      |some same=>match if same=true then __x.2.snd.slot (pth t.mask (hsh prog w k) m).j else Slot.empty with
       |Slot.live i'=>match __x.fst[i']? with
        |some (fst,y')=>do
         let __do_lift←isSame y' (Value.ref q.2)
         let still←pure (if __do_lift=true then some i' else none)
         match still with
          |none=>do
           rule "set.search.anew"
           xb4 S (Value.ref a) (hsh prog w k) true f none
          |some i'=>if equal=true then pure (SetFound.there (some i')) else xb4 S (Value.ref a) (hsh prog w k) true f (some (pth t.mask (hsh prog w k) (m+1)))
        |none=>do
         let still←pure none
         match still with
          |none=>do
           rule "set.search.anew"
           xb4 S (Value.ref a) (hsh prog w k) true f none
          |some i'=>if equal=true then pure (SetFound.there (some i')) else xb4 S (Value.ref a) (hsh prog w k) true f (some (pth t.mask (hsh prog w k) (m+1)))
       |x=>do
        let still←pure none
        match still with
         |none=>do
          rule "set.search.anew"
          xb4 S (Value.ref a) (hsh prog w k) true f none
         |some i'=>if equal=true then pure (SetFound.there (some i')) else xb4 S (Value.ref a) (hsh prog w k) true f (some (pth t.mask (hsh prog w k) (m+1)))
      |x=>unsupported "set.changed-during-lookup:is-the-new-block-at-the-old-address") Q E s:=by
    refine y8 (zp4 (wpAny_eqBool_tuple hu hqP hk ?_));refine y8 (xd2 p.ho p.hd p.fits ?_);by_cases c:q.1=k
    ·rw [zb0 c];simp only [xn7,if_true];exact y9 (q1 (zf4.mpr ⟨q,za3 hq,c⟩))
    ·rw [za9 c];simp only [xb9,ze2,if_false,sm,if_true,hm3,ei,ent];refine y8 (wpAny_isSame_ref_self ?_);refine y8 (y9 ?_);simp only [if_true];refine ih (e-(m+1)) (by omega) (m+1) f _ rfl (by omega) (by omega) rfl λx hx i' q' hl hq'=>?_;rcases zk8 x n with z|z
     ·exact hno x z i' q' hl hq'
     rcases zk8 x m with z2|z2
     ·obtain ⟨i2,y1,y2⟩:=sk (x-n) (by omega);rw [show n+(x-n)=x by omega,hl] at y1;cases y1;rw [hA _ _ hq'] at y2;exact λz3=>by rw [z3] at y2;simp at y2
     ·obtain rfl:x=m:=by omega
      rw [hm3] at hl;cases hl;rw [hq] at hq';cases hq';exact c
   cases t.led with
   |true=>
    simp only [zg1,ze2,if_false,ei,ent];exact jz
   |false=>
    simp only [zn5,if_true];refine y8 (qpV hk (λy hy=>?_) ?_)
    ·obtain ⟨x,hx,rfl⟩:=zf4.mp hy;have hx2:x∈es.toList:=by
      have:=Array.mem_toList_iff.mp hx;exact Array.mem_toList_iff.mpr (Array.mem_of_mem_filter this)
     rw [p.he] at hx2;obtain ⟨q',hq',rfl⟩:=zf4.mp hx2;exact ⟨q'.1,q'.2,rfl,p.hP q' hq'⟩
    ·simp only [ze2,if_false,ei,ent];exact jz
end
end Tb8
namespace Tb8
open PySem PySem.SetTable
noncomputable def own (ow:Array (Option Nat)) (j:Nat):Option Nat:=ow.getD j (some 0)
variable {M:Nat} {h:Int} {n:Nat}
theorem NU {c:Nat} (e:pth M h n=hd M (lv M h c).1 (lv M h c).2) {k:Nat} (hk:(lv M h c).1+k<=xi8 M (lv M h c).1):(pth M h (n+k)).j=(lv M h c).1+k:=by
 have key:∀ k,(lv M h c).1+k<=xi8 M (lv M h c).1->pth M h (n+k)={ j:=(lv M h c).1+k,more:=xi8 M (lv M h c).1-((lv M h c).1+k),i:=(lv M h c).1,perturb:=(lv M h c).2,dummy:=none }:=by
  intro k;induction k with
  |zero=>intro _;exact e
  |succ k ih=>
   intro hk;have:=ih (by omega);rw [← Nat.add_assoc,pth,this,adv];simp only;rw [if_pos (by omega)];congr 1
 rw [key k hk]
theorem qdW {c:Nat} (e:pth M h n=hd M (lv M h c).1 (lv M h c).2):pth M h (n+(xi8 M (lv M h c).1-(lv M h c).1)+1)=hd M (lv M h (c+1)).1 (lv M h (c+1)).2:=by
 rw [pth,qp0 _ n _ e];rfl
variable {P:Nat->Bool}
theorem KF (h:(zg5 n).find? P=none):∀ k,k<n->P k=false:=λk hk=>by
 have:=List.find?_eq_none.mp h k (zi0.mpr hk);simpa using this
theorem qbu:∀ {n k:Nat},(zg5 n).find? P=some k->k<n/\P k=true/\∀ i,i<k->P i=false:=by
 intro n;induction n with
 |zero=>intro k h;simp at h
 |succ n ih=>
  intro k h;rw [List.range_succ,List.find?_append] at h;cases e:(zg5 n).find? P with
  |some k'=>
   rw [e] at h;simp at h;subst h;obtain ⟨a,b,c⟩:=ih e;exact ⟨by omega,b,c⟩
  |none=>
   rw [e] at h;simp [List.find?_cons] at h;split at h
   ·rename_i z;cases h;exact ⟨by omega,z,KF e⟩
   ·cases h
theorem qmA {M:Nat} {h:Int} {ow:Array (Option Nat)}:∀ (fuel c n:Nat),pth M h n=hd M (lv M h c).1 (lv M h c).2->(∀ m,m<n->own ow (pth M h m).j≠none)->(∃ c',c<=c'/\c'<c+fuel/\own ow (lv M h c').1=none) ->
  ∃ m,layClean.free M ow fuel (lv M h c).1 (lv M h c).2=some (pth M h m).j/\own ow (pth M h m).j=none/\∀ m',m'<m->own ow (pth M h m').j≠none
 |0,c,n,_,_,⟨c',h1,h2,_⟩=>by omega
 |fuel+1,c,n,e,hn,⟨c',h1,h2,h3⟩=>by
  have r:=N8 (qdt M h c);rw [layClean.free];cases f:(zg5 (xi8 M (lv M h c).1+1-(lv M h c).1)).find? (λk=>(ow.getD ((lv M h c).1+k) (some 0)).isNone) with
  |some k=>
   obtain ⟨k1,k2,k3⟩:=qbu f;refine ⟨n+k,?_,?_,λm' hm'=>?_⟩
   ·simp only;rw [NU e (by omega)]
   ·rw [NU e (by omega)];unfold own;exact Option.isNone_iff_eq_none.mp k2
   ·rcases zk8 m' n with z|z
    ·exact hn m' z
    ·obtain ⟨x,rfl⟩:∃ x,m'=n+x:=⟨m'-n,by omega⟩
     rw [NU e (by omega)];have:=k3 x (by omega);unfold own;intro q;rw [q] at this;cases this
  |none=>
   have k3:=KF f;have all:∀ m,m<n+(xi8 M (lv M h c).1-(lv M h c).1)+1->own ow (pth M h m).j≠none:=λm hm=>by
    rcases zk8 m n with z|z
    ·exact hn m z
    ·obtain ⟨x,rfl⟩:∃ x,m=n+x:=⟨m-n,by omega⟩
     rw [NU e (by omega)];have:=k3 x (by omega);unfold own;intro q;rw [q] at this;cases this
   have ne:c'≠c:=λz=>by
    subst z;have:=k3 0 (by omega);rw [Nat.add_zero] at this;unfold own at h3;rw [h3] at this;cases this
   exact qmA fuel (c+1) _ (qdW e) all ⟨c',by omega,by omega,h3⟩
structure Lay (M:Nat) (ow:Array (Option Nat)) (hs:List Int):Prop where
 sz:ow.size=M+1
 lt:∀ (j k:Nat),ow[j]?=some (some k)->k<hs.length
 ex:∀ k,k<hs.length->∃ j:Nat,ow[j]?=some (some k)
 un:∀ (j j' k:Nat),ow[j]?=some (some k)->ow[j']?=some (some k)->j=j'
 wy:∀ (j k:Nat) (h:Int),ow[j]?=some (some k)->hs[k]?=some h->∃ m,(pth M h m).j=j/\∀ x,x<m->own ow (pth M h x).j≠none
variable {ow:Array (Option Nat)}
theorem DM {j:Nat} (h:j<ow.size):ow[j]?=some (own ow j):=by simp [own,xi7,h]
theorem qaY:(pth M h n).j<=M:=by have:=qfv M h n;omega
theorem pig:∀ (b:Nat) (l:List Nat),(∀ x∈l,x<b)->l.Nodup->l.length<=b
 |0,l,h,_=>by
  cases l with
  |nil=>simp
  |cons a r=>exact absurd (h a (by simp)) (xf8 a)
 |b+1,l,h,nd=>by
  have ih:=pig b (l.erase b) (λx hx=>by
   have q:=(List.Nodup.mem_erase_iff nd).mp hx;have:=h x q.2;have:=q.1;omega) (nd.erase b)
  rw [List.length_erase] at ih;split at ih<;>omega
variable {hs:List Int}
theorem Lay.free (l:Lay M ow hs) (hl:hs.length<=M):∃ c,c<=M/\own ow c=none:=by
 by_cases z:∃ c,c<=M/\own ow c=none
 ·exact z
 exfalso;have all:∀ c,c<=M->∃ k,ow[c]?=some (some k):=λc hc=>by
  have:=DM (ow:=ow) (j:=c) (by rw [l.sz];omega);cases q:own ow c with
  |none=>exact absurd ⟨c,hc,q⟩ z
  |some k=>exact ⟨k,by rw [this,q]⟩
 have inj:((zg5 (M+1)).map λc=>(own ow c).getD 0).Nodup:=by
  rw [xd9,zn8];refine xf4 (R:=(·<·)) (λ{a b} ha hb hab e=>?_) (List.pairwise_lt_range);obtain ⟨k1,h1⟩:=all a (by have:=zi0.mp ha;omega);obtain ⟨k2,h2⟩:=all b (by have:=zi0.mp hb;omega);have e1:=DM (ow:=ow) (j:=a) (by rw [l.sz];have:=zi0.mp ha;omega);have e2:=DM (ow:=ow) (j:=b) (by rw [l.sz];have:=zi0.mp hb;omega);rw [h1] at e1;rw [h2] at e2;rw [← Option.some.inj e1,← Option.some.inj e2] at e;simp only [xi9] at e;subst e;have:=l.un a b k1 h1 h2;omega
 have sub:∀ x∈((zg5 (M+1)).map λc=>(own ow c).getD 0),x∈zg5 hs.length:=λx hx=>by
  obtain ⟨c,hc,rfl⟩:=zf4.mp hx;obtain ⟨k,hk⟩:=all c (by have:=zi0.mp hc;omega);have e1:=DM (ow:=ow) (j:=c) (by rw [l.sz];have:=zi0.mp hc;omega);rw [hk] at e1;rw [← Option.some.inj e1];exact zi0.mpr (l.lt c k hk)
 have:=pig hs.length _ (λx hx=>zi0.mp (sub x hx)) inj;simp at this;omega
theorem Lay.next (F:qac M) (l:Lay M ow hs) (hl:hs.length<=M) (h:Int):∃ j,layClean.free M ow (turns M) (bits h%(M+1)) (bits h)=some j/\Lay M (ow.setIfInBounds j (some hs.length)) (hs++[h]):=by
 obtain ⟨c,hc,hf⟩:=l.free hl;obtain ⟨t,ht,e⟩:=F _ (qdt M h 13) c hc;obtain ⟨m,m1,m2,m3⟩:=qmA (M:=M) (h:=h) (ow:=ow) (turns M) 0 0 rfl (λm hm=>absurd hm (xf8 m)) ⟨13+t,by omega,by unfold turns;omega,by rw [qaU,e];exact hf⟩;refine ⟨_,m1,?_⟩;obtain ⟨j,hj⟩:∃ j,j=(pth M h m).j:=⟨_,rfl⟩
 have jl:j<ow.size:=by rw [l.sz,hj];have:=qaY (M:=M) (h:=h) (n:=m);omega
 rw [← hj] at m2 ⊢;have gt:∀ i:Nat,(ow.setIfInBounds j (some hs.length))[i]?=if j=i then some (some hs.length) else ow[i]?:=λi=>by
  rw [Array.getElem?_setIfInBounds];by_cases c:j=i
  ·rw [if_pos c,if_pos c,if_pos (by omega)]
  ·rw [if_neg c,if_neg c]
 have jn:ow[j]?=some none:=by rw [DM jl,m2]
 have on:∀ i,i<=M->own ow i≠none->own (ow.setIfInBounds j (some hs.length)) i≠none:=λi hi hn q=>by
  have s2:(ow.setIfInBounds j (some hs.length)).size=ow.size:=by simp
  have e1:=DM (ow:=ow.setIfInBounds j (some hs.length)) (j:=i) (by rw [s2,l.sz];omega);rw [gt,q] at e1;split at e1
  ·cases e1
  ·rw [DM (by rw [l.sz];omega)] at e1;exact hn (Option.some.inj e1)
 refine ⟨by simp [l.sz],λi k hk=>?_,λk hk=>?_,λi i' k h1 h2=>?_,λi k h' h1 h2=>?_⟩
 ·rw [gt] at hk;rw [zg9,zk3];split at hk
  ·cases hk;omega
  ·have:=l.lt i k hk;omega
 ·rw [zg9,zk3] at hk;rcases zk8 k hs.length with z|z
  ·obtain ⟨i,hi⟩:=l.ex k z;refine ⟨i,?_⟩;rw [gt,if_neg (λq=>by rw [← q,jn] at hi;cases hi),hi]
  ·obtain rfl:k=hs.length:=by omega
   exact ⟨j,by rw [gt,if_pos rfl]⟩
 ·rw [gt] at h1 h2;split at h1
  ·rename_i q1;split at h2
   ·rename_i q2;omega
   ·cases h1;have:=l.lt i' _ h2;omega
  ·split at h2
   ·cases h2;have:=l.lt i _ h1;omega
   ·exact l.un i i' k h1 h2
 ·rw [gt] at h1;split at h1
  ·rename_i q;cases h1;rw [zj2 (by omega),xm4] at h2;cases h2;exact ⟨m,by rw [← hj,q],λx hx=>on _ qaY (m3 x hx)⟩
  ·have kl:=l.lt i k h1;rw [zg7 kl] at h2;obtain ⟨m',w1,w2⟩:=l.wy i k h' h1 h2;exact ⟨m',w1,λx hx=>on _ qaY (w2 x hx)⟩
theorem Lay.start (M:Nat):Lay M (Array.replicate (M+1) none) []:=by
 have g:∀ j k:Nat,¬ (Array.replicate (M+1) (none:Option Nat))[j]?=some (some k):=λj k h=>by
  rw [Array.getElem?_replicate] at h;split at h<;>cases h
 exact ⟨by simp,λj k h=>absurd h (g j k),λk hk=>absurd hk (by simp),λj j' k h=>absurd h (g j k),λj k h q=>absurd q (g j k)⟩
theorem qce {M:Nat} (F:qac M):∀ (hs r:List Int) (ow:Array (Option Nat)),Lay M ow r->r.length+hs.length<=M+1 ->
  ∃ ow',hs.foldl (λacc h=>do
   let (owner,k)←acc
   let j←layClean.free M owner (turns M) (bits h%(M+1)) (bits h)
   pure (owner.setIfInBounds j (some k),k+1)) (some (ow,r.length))=some (ow',(r++hs).length)/\Lay M ow' (r++hs)
 |[],r,ow,l,_=>⟨ow,by simp,by simpa using l⟩
 |h::hs,r,ow,l,hl=>by
  rw [ze8] at hl;obtain ⟨j,h1,h2⟩:=l.next F (by omega) h;have ih:=qce F hs (r++[h]) _ h2 (by rw [zg9,zk3];omega);rw [zg9,zk3,xh5] at ih;obtain ⟨ow',e1,e2⟩:=ih;refine ⟨ow',?_,e2⟩;rw [List.foldl_cons];simp only [Option.bind_eq_bind,ze7,h1,Option.pure_def];exact e1
theorem qmH (F:qac M) {hs:Array Int} (hl:hs.size<=M+1):∃ ow,layClean M hs=some ow/\Lay M ow hs.toList:=by
 obtain ⟨ow,e1,e2⟩:=qce F hs.toList [] _ (Lay.start M) (by simpa using hl);refine ⟨ow,?_,by simpa using e2⟩;unfold layClean;rw [← Array.foldl_toList];rw [zf5] at e1;rw [e1];rfl
noncomputable def liv (M:Nat) (ow:Array (Option Nat)):List (Nat×Nat):=(zg5 (M+1)).filterMap λj=>(ow.getD j none).map (j,·)
theorem VI (l:Lay M ow hs) {j k:Nat}:(j,k)∈liv M ow↔ow[j]?=some (some k):=by
 unfold liv;rw [xg2];constructor
 ·rintro ⟨x,hx,e⟩;obtain ⟨k',e1,e2⟩:=zb5 e;cases e2;have:=zi0.mp hx;have:j<ow.size:=by rw [l.sz];exact this
  have z:ow.getD j none=ow[j]:=by simp [xi7,this]
  rw [Array.getElem?_eq_getElem this,← z,e1]
 ·intro e;obtain ⟨h1,h2⟩:=xd8.mp e;refine ⟨j,zi0.mpr (by rw [← l.sz];exact h1),?_⟩;have z:ow.getD j none=ow[j]:=by simp [xi7,h1]
  rw [z,h2];rfl
theorem qgC (M:Nat) (ow:Array (Option Nat)):((liv M ow).map (·.1)).Pairwise (·<·):=by
 unfold liv;rw [zn8,List.pairwise_filterMap];refine List.Pairwise.imp (λ{a b} hab x hx y hy=>?_) List.pairwise_lt_range;obtain ⟨_,_,rfl⟩:=zb5 hx;obtain ⟨_,_,rfl⟩:=zb5 hy;exact hab
theorem qqo {l:List Nat} (h:l.Pairwise (·<·)):Up l.toArray:=by
 intro a b hab hb;have hb':b<l.length:=by simpa using hb
 have:=xa5.mp h a b (by omega) hb' hab;simpa [xi7,hb',show a<l.length by omega] using this
theorem NP (l:Lay M ow hs):((liv M ow).map (·.2)).Perm (zg5 hs.length):=by
 have nd:((liv M ow).map (·.2)).Nodup:=by
  rw [xd9,zn8];have u:=qgC M ow;rw [zn8] at u;refine xf4 (λ{a b} ha hb hab e=>?_) u;obtain ⟨a1,a2⟩:=a;obtain ⟨b1,b2⟩:=b;simp only at e hab;subst e;have:=l.un a1 b1 a2 ((VI l).mp ha) ((VI l).mp hb);omega
 refine (List.perm_ext_iff_of_nodup nd List.nodup_range).mpr λk=>?_;rw [zi0,zf4];constructor
 ·rintro ⟨⟨j,k'⟩,hq,rfl⟩;exact l.lt j _ ((VI l).mp hq)
 ·intro hk;obtain ⟨j,hj⟩:=l.ex k hk;exact ⟨(j,k),(VI l).mpr hj,rfl⟩
theorem qis {f mv:Nat} {led pl:Bool} (F:qac M) (od:M%2=1) (l:Lay M ow hs) (hl:hs.length<=M) :
  Ok8 { mask:=M,place:=((liv M ow).map (·.1)).toArray,dummies:=#[],finger:=f,led:=led,moves:=mv,plain:=pl } (((liv M ow).map (·.2)).map λk=>hs.getD k 0):=by
 have pm:=NP l;have ll:(liv M ow).length=hs.length:=by have:=pm.length_eq;simpa using this
 have up:Up ((liv M ow).map (·.1)).toArray:=qqo (qgC M ow);have at_:∀ (i j:Nat),((liv M ow).map (·.1)).toArray[i]?=some j->∃ k,(liv M ow)[i]?=some (j,k):=λi j h=>by
  rw [qaH,ze5] at h;obtain ⟨⟨a,b⟩,e1,e2⟩:=zb5 h;exact ⟨b,by rw [e1];simp only at e2;rw [e2]⟩
 refine ⟨up,rfl,by simp [ll],by simp [ll];exact hl,λi j h=>?_,F,od,λi j h h1 h2=>?_⟩
 ·obtain ⟨k,hk⟩:=at_ i j h;have:=(VI l).mp (za3 hk);have:=(xd8.mp this).1;rw [l.sz] at this;simp only;omega
 ·obtain ⟨k,hk⟩:=at_ i j h1;have o1:=(VI l).mp (za3 hk);rw [ze5,ze5,hk] at h2;simp only [xf9,zm4] at h2;have kl:=l.lt j k o1;obtain ⟨m,m1,m2⟩:=l.wy j k h o1 (by rw [← h2,ze4,u7 kl];rfl);refine ⟨m,m1,λx hx=>?_⟩;have n1:=m2 x hx;have jl:(pth M h x).j<ow.size:=by rw [l.sz];have:=qaY (M:=M) (h:=h) (n:=x);omega
  cases q:own ow (pth M h x).j with
  |none=>exact absurd q n1
  |some k'=>
   have o2:ow[(pth M h x).j]?=some (some k'):=by rw [DM jl,q]
   obtain ⟨i',hi'⟩:=xd0.mp ((VI l).mpr o2);have:((liv M ow).map (·.1)).toArray[i']?=some (pth M h x).j:=by rw [qaH,ze5,hi'];rfl
   rw [UP (t:={ mask:=M,place:=((liv M ow).map (·.1)).toArray,dummies:=#[],finger:=f,led:=led,moves:=mv,plain:=pl }) up this];exact λz=>by cases z
theorem qij {t:SetTable} {hs:Array Int} (hM:xg9 n-1=M) (F:qac M) (od:M%2=1) (hl:hs.size<=M) :
  ∃ t' ord,t.relaid hs n=some (t',ord)/\ord.toList.Perm (zg5 hs.size)/\Ok8 t' (ord.toList.map λk=>hs.toList.getD k 0)/\t'.mask=M:=by
 obtain ⟨ow,e1,e2⟩:=qmH F (hs:=hs) (by omega);refine ⟨{ mask:=M,place:=((liv M ow).map (·.1)).toArray,dummies:=#[],finger:=t.finger,led:=t.led,moves:=t.movedTo M,plain:=t.plain },((liv M ow).map (·.2)).toArray,?_,?_,?_,rfl⟩
 ·unfold SetTable.relaid SetTable.laid;rw [hM,e1];rfl
 ·have:=NP e2;simpa using this
 ·exact qis F od e2 (by simpa using hl)
end Tb8
namespace Tb8
open PySem PyProof.Rows PySem.SetTable
variable {prog:Program} {w:World} {A:Around} {E:Value->Shared->Prop} {h h':Heap} {S a:Addr} {k:List Int} {en:List (List Int×Addr)} {o:Obj} {es:Array (Int×Value)} {ep:Nat} {t:SetTable}
section
variable {s:Shared}
theorem IsP.other (p:IsP prog w h k a) (n:a≠S) (sb:xc3 S h h'):IsP prog w h' k a:=by
 obtain ⟨o,items,m,ho,r⟩:=p;exact ⟨o,items,m,(sb.2 a n).trans ho,r⟩
theorem PS.ne (p:PS prog w h S en o es ep t) (hk:IsP prog w h k a):a≠S:=by
 rintro rfl;obtain ⟨o',items,m,ho,hc,_⟩:=hk;obtain rfl:o'=o:=Option.some.inj (ho.symm.trans p.ho);have z:=hc.symm.trans p.hc.1;injection z with z;exact absurd z (by decide)
theorem PS.store {en':List (List Int×Addr)} {es':Array (Int×Value)} {t':SetTable} (p:PS prog w h S en o es ep t) (he:es'.toList=en'.map (ent prog w)) (hP:∀ q∈en',IsP prog w h q.1 q.2) (ok:Ok8 t' (en'.map λq=>hsh prog w q.1)) (nd:(en'.map (·.1)).Nodup) :
  ∃ o',PS prog w (h.update S (xj0 es' t')) S en' o' es' (ep+1) t':=by
 have hp:xj0 es' t' o={ o with data:=.set es' (ep+1) t' }:=by
  obtain ⟨c,d,da,sl⟩:=o;have hd:da=.set es ep t:=p.hd;subst hd;rfl
 have hg:(h.update S (xj0 es' t')).get? S=some { o with data:=.set es' (ep+1) t' }:=by
  have:=xi2 (xj0 es' t') p.ho (by rw [hp];rfl);rw [hp] at this;exact this
 exact ⟨_,hg,p.hc,rfl,he,λq hq=>(hP q hq).other (p.ne (hP q hq)) (.update ..),ok,nd⟩
theorem RQ {α β:Type} {l:List α} {f:α->β} {g:α->Option β}:(∀ x∈l,g x=some (f x))->l.filterMap g=l.map f:=by
 induction l with
 |nil=>intro _;rfl
 |cons x r ih=>
  intro h;rw [xe7,h x (by simp),zg2,ih λy hy=>h y (by simp [hy])]
theorem qcP {S:Addr} {en:List (List Int×Addr)} {o:Obj} {es:Array (Int×Value)} {ep:Nat} {t:SetTable} {n M:Nat} {Q:Unit->Shared->Prop} (p:PS prog w s.heap S en o es ep t) (hM:xg9 n-1=M) (hs:xg9 n<=1000) (F:qac M) (od:M%2=1) (hl:en.length<=M)
  (h:∀ h' en' o' es' ep' t',PS prog w h' S en' o' es' ep' t'->t'.mask=M->en'.Perm en->xc3 S s.heap h'->Q () { s with heap:=h' }):wpAny (model prog w) A (setRelay S n) Q E s:=by
 have sz:=p.sz;obtain ⟨t',ord,e1,e2,e3,e4⟩:=qij (t:=t) (hs:=es.map (·.1)) hM F od (by simpa [sz] using hl);have e2':ord.toList.Perm (zg5 en.length):=by simpa [sz] using e2
 obtain ⟨g,hg⟩:∃ g:Nat->List Int×Addr,g=λk=>en.getD k ([],0):=⟨_,rfl⟩
 have gl:∀ k∈ord.toList,k<en.length:=λk hk=>zi0.mp (e2'.mem_iff.mp hk);have ga:∀ k,k<en.length->en[k]?=some (g k):=λk hk=>by rw [hg];simp [ze4,u7 hk]
 have pm:(ord.toList.map g).Perm en:=by
  refine (e2'.map g).trans ?_;have:(zg5 en.length).map g=en:=by
   refine List.ext_getElem? λi=>?_;rw [ze5];by_cases c:i<en.length
   ·rw [xk8 c,ga i c];rfl
   ·rw [xa2 (by simpa using c),xa2 (by simpa using c)];rfl
  rw [this]
 obtain ⟨es',he'⟩:∃ es',es'=ord.filterMap (es[·]?):=⟨_,rfl⟩
 have hes:es'.toList=(ord.toList.map g).map (ent prog w):=by
  rw [he',Array.toList_filterMap,zg8];exact RQ λk hk=>by rw [p.at_,ga k (gl k hk)];rfl
 have es'z:es'.size=es.size:=by
  rw [← zm5,hes,zd9,pm.length_eq,sz]
 have ok:Ok8 t' ((ord.toList.map g).map λq=>hsh prog w q.1):=by
  have:((ord.toList.map g).map λq=>hsh prog w q.1)=ord.toList.map λk=>((es.map (·.1)).toList).getD k 0:=by
   rw [zg8];refine xb5 λk hk=>?_;rw [Array.toList_map,p.he,zg8,ze4,ze5,ga k (gl k hk)];rfl
  rw [this];exact e3
 obtain ⟨o',q⟩:=p.store (en':=ord.toList.map g) hes (λq hq=>p.hP q (pm.mem_iff.mp hq)) ok ((pm.map _).nodup_iff.mpr p.nd);unfold setRelay;refine y8 (xd2 p.ho p.hd p.fits ?_);dsimp only;rw [if_neg (by rw [v9];omega)];refine y8 ?_;rw [e1];show wpAny (model prog w) A (do
  if (ord.filterMap (es[·]?)).size != es.size then unsupported "internal:set-table-lost-an-element"
  pure (ord.filterMap (es[·]?),t')) _ E s
 rw [← he',es'z];simp only [bne_self_eq_false,ze2,if_false];refine y8 (y9 ?_);refine y9 ?_;refine wpAny_storeSet_of p.ho p.hd ?_ (by rw [es'z,sz,v9];omega);exact h _ _ _ _ _ _ q e4 pm (.update ..)
def Gd (t:SetTable) (n:Nat):Prop:=(t.mask=7/\n<=4)\/(t.mask=31/\n<=18)\/(t.mask=127/\n<=76)\/(t.mask=511/\n<=306)
theorem qr5 {S a:Addr} {en:List (List Int×Addr)} {o:Obj} {es:Array (Int×Value)} {ep:Nat} {t:SetTable} {k:List Int} {Q:Bool->Shared->Prop} (hu:A.units<cLine) (p:PS prog w s.heap S en o es ep t) (g:Gd t en.length) (hn:en.length<306) (hk:IsP prog w s.heap k a)
  (h:∀ b h' en' o' es' ep' t',PS prog w h' S en' o' es' ep' t'->Gd t' en'.length->(∀ q∈en',q∈en\/q=(k,a))->(∀ x,x∈en'.map (·.1)↔x∈en.map (·.1)\/x=k)->(k∈en.map (·.1)->en'.length=en.length)->(k∉en.map (·.1)->en'.length=en.length+1)->xc3 S s.heap h'->Q b { s with heap:=h' }) :
  wpAny (model prog w) A (setAddHashed S (.ref a) (hsh prog w k)) Q E s:=by
 obtain ⟨e,e0,e1,e2⟩:=qae (t:=t) (h:=hsh prog w k) p.ok.fu p.ok.up p.ok.dm (by have:=p.ok.sz;have:=p.ok.fl;simp at *;omega);have tm:t.mask<=511:=by rcases g with g|g|g|g<;>omega
 unfold setAddHashed;refine zp4 ?_;unfold setAddHashedIn;refine y8 (xd2 p.ho p.hd p.fits ?_);have bs:byScan (.ref a) es=false:=rfl;simp only [bs,ze2,if_false];unfold setSearch;refine y8 (qiB (e:=e) hu p hk e0 e1 e2 (λhin=>?_) (λhin=>?_) e 0 100000 none (by omega) (zj1 _) (by unfold turns at e0;omega) rfl λm hm=>absurd hm (xf8 m))
 ·exact y9 (h _ s.heap en o es ep t p g (λq hq=>.inl hq) (λx=>⟨.inl,λz=>z.elim id λz=>z▸hin⟩) (λ_=>rfl) (λz=>absurd hin z) (.refl ..))
 simp only;refine y8 (xd2 p.ho p.hd p.fits ?_);obtain ⟨j,hj⟩:∃ j,j=(pth t.mask (hsh prog w k) e).j:=⟨_,rfl⟩
 rw [← hj] at e1 ⊢;obtain ⟨pl,ok1,mk1⟩:=p.ok.put (h:=hsh prog w k) e1 (by rw [hj];exact qaY) (by rcases g with g|g|g|g<;>(rw [zd9];omega)) ⟨e,hj.symm,λm hm=>e2 m hm⟩;simp only;generalize ht1:(t.put j).1=t1 at *;generalize hp1:(t.put j).2=pp at *;rw [zd9] at pl;have sz:=p.sz;have hes:(zk5 es pp (hsh prog w k,.ref a)).toList=(ins en pp (k,a)).map (ent prog w):=by
  rw [U5 _ _ _ (by rw [sz];exact pl),p.he];unfold ins;rw [zm8,zg2,List.map_take,List.map_drop];rfl
 have hhs:(ins en pp (k,a)).map (λq=>hsh prog w q.1)=ins (en.map λq=>hsh prog w q.1) pp (hsh prog w k):=by
  unfold ins;rw [zm8,zg2,List.map_take,List.map_drop]
 have pm:(ins en pp (k,a)).Perm ((k,a)::en):=by
  unfold ins;refine List.perm_middle.trans ?_;rw [List.take_append_drop]
 have il:(ins en pp (k,a)).length=en.length+1:=SK pl;have hP:∀ q∈ins en pp (k,a),IsP prog w s.heap q.1 q.2:=λq hq=>by
  rcases ze9.mp (pm.mem_iff.mp hq) with rfl|z
  ·exact hk
  ·exact p.hP q z
 have nd:((ins en pp (k,a)).map (·.1)).Nodup:=by
  rw [(pm.map _).nodup_iff,zg2,zj4];exact ⟨hin,p.nd⟩
 have sub:∀ q∈ins en pp (k,a),q∈en\/q=(k,a):=λq hq=>(ze9.mp (pm.mem_iff.mp hq)).elim .inr .inl;have mem:∀ x,x∈(ins en pp (k,a)).map (·.1)↔x∈en.map (·.1)\/x=k:=λx=>by
  rw [(pm.map _).mem_iff,zg2,ze9];exact ⟨λz=>z.elim .inr .inl,λz=>z.elim .inr .inl⟩
 have main:∀ pl:Bool,wpAny (model prog w) A (do
   storeSet S (zk5 es pp (hsh prog w k,.ref a)) { t1 with plain:=pl }
   if (!false&&({ t1 with plain:=pl }:SetTable).tooFull)=true then setRelay S (grown (es.size+1))
   pure true) Q E s:=λb=>by
  have ok2:Ok8 { t1 with plain:=b } ((ins en pp (k,a)).map λq=>hsh prog w q.1):=by
   rw [hhs];exact ⟨ok1.up,ok1.dm,ok1.sz,ok1.fl,ok1.le,ok1.fu,ok1.od,ok1.wy⟩
  obtain ⟨o',q⟩:=p.store (t':={ t1 with plain:=b }) hes hP ok2 nd;have iz:(zk5 es pp (hsh prog w k,.ref a)).size=en.length+1:=by rw [← zm5,hes,zd9,il]
  refine y8 (wpAny_storeSet_of p.ho p.hd ?_ (by rw [iz,v9];omega));have fl:({ t1 with plain:=b }:SetTable).fill=en.length+1:=by
   have z:=ok2.sz;rw [zd9,il] at z;unfold SetTable.fill;rw [ok2.dm,z];rfl
  have tf:({ t1 with plain:=b }:SetTable).tooFull=decide ((en.length+1)*5 ≥ t.mask*3):=by
   unfold SetTable.tooFull;rw [fl,show ({ t1 with plain:=b }:SetTable).mask=t.mask from mk1]
  rw [tf];by_cases c:(en.length+1)*5 ≥ t.mask*3
  ·rw [zb0 c];simp only [zn5,xn7,if_true];have n5:(en.length=4/\t.mask=7)\/(en.length=18/\t.mask=31)\/(en.length=76/\t.mask=127):=by rcases g with g|g|g|g<;>omega
   rcases n5 with n5|n5|n5
   rotate_left
   ·have hM:xg9 (grown (es.size+1))-1=127:=by rw [sz,n5.1];rfl
    have hM2:xg9 (grown (es.size+1))<=1000:=by rw [sz,n5.1];decide
    refine y8 (qcP (s:={ s with heap:=s.heap.update S (xj0 (zk5 es pp (hsh prog w k,.ref a)) { t1 with plain:=b }) }) q hM hM2 qiu rfl (by rw [il];omega) λh' en' o'' es'' ep'' t'' q' mk pe sb=>?_);refine y9 (h _ h' en' o'' es'' ep'' t'' q' (.inr (.inr (.inl ⟨mk,by rw [pe.length_eq,il];omega⟩))) (λq hq=>sub q (pe.mem_iff.mp hq)) (λx=>by rw [(pe.map _).mem_iff];exact mem x) (λz=>absurd z hin) (λ_=>by rw [pe.length_eq,il]) (.trans (.update ..) sb))
   ·have hM:xg9 (grown (es.size+1))-1=511:=by rw [sz,n5.1];rfl
    have hM2:xg9 (grown (es.size+1))<=1000:=by rw [sz,n5.1];decide
    refine y8 (qcP (s:={ s with heap:=s.heap.update S (xj0 (zk5 es pp (hsh prog w k,.ref a)) { t1 with plain:=b }) }) q hM hM2 qjl rfl (by rw [il];omega) λh' en' o'' es'' ep'' t'' q' mk pe sb=>?_);refine y9 (h _ h' en' o'' es'' ep'' t'' q' (.inr (.inr (.inr ⟨mk,by rw [pe.length_eq,il];omega⟩))) (λq hq=>sub q (pe.mem_iff.mp hq)) (λx=>by rw [(pe.map _).mem_iff];exact mem x) (λz=>absurd z hin) (λ_=>by rw [pe.length_eq,il]) (.trans (.update ..) sb))
   have hM:xg9 (grown (es.size+1))-1=31:=by rw [sz,n5.1];rfl
   have hM2:xg9 (grown (es.size+1))<=1000:=by rw [sz,n5.1];decide
   refine y8 (qcP (s:={ s with heap:=s.heap.update S (xj0 (zk5 es pp (hsh prog w k,.ref a)) { t1 with plain:=b }) }) q hM hM2 qom rfl (by rw [il];omega) λh' en' o'' es'' ep'' t'' q' mk pe sb=>?_);refine y9 (h _ h' en' o'' es'' ep'' t'' q' (.inr (.inl ⟨mk,by rw [pe.length_eq,il];omega⟩)) (λq hq=>sub q (pe.mem_iff.mp hq)) (λx=>by rw [(pe.map _).mem_iff];exact mem x) (λz=>absurd z hin) (λ_=>by rw [pe.length_eq,il]) (.trans (.update ..) sb))
  ·rw [za9 c];simp only [zn5,xb9,ze2,if_false];refine y8 (y9 (y9 ?_));refine h _ _ _ _ _ _ _ q ?_ sub mem (λz=>absurd z hin) (λ_=>il) (.update ..);have mk2:({ t1 with plain:=b }:SetTable).mask=t.mask:=mk1;unfold Gd;rw [mk2,il];rcases g with g|g|g|g<;>omega
 refine wpAny_ite ?_;split
 ·refine y8 (qrT hk λb=>?_);cases b with
  |true=>
   simp only [if_true];exact main t1.plain
  |false=>
   simp only [ze2,if_false];exact main false
 ·refine y8 (y9 ?_);simp only [if_true];exact main t1.plain
end
def cnt (key:Nat->List Int):Nat->Nat
 |0=>0
 |j+1=>if ∃ i,i<j/\key i=key j then cnt key j else cnt key j+1
theorem NM (key:Nat->List Int):∀ j,cnt key j<=j
 |0=>u9 _
 |j+1=>by
  have:=NM key j;unfold cnt;split<;>omega
def qeL (prog:Program) (w:World) (h:Heap) (S:Addr) (n:Nat):Prop:=∃ en o es ep t,PS prog w h S en o es ep t/\en.length=n
section
variable {R:Result->Shared->Prop} {I:Addr} {fp wr:List Addr} {n:Nat} {P:Nat->Value->Prop} {St:Nat->Heap->Prop}
theorem PS.keep (p:PS prog w h S en o es ep t) (k:h'.get? S=some o) (ki:∀ q∈en,IsP prog w h' q.1 q.2):PS prog w h' S en o es ep t:=⟨k,p.hc,p.hd,p.he,ki,p.ok,p.nd⟩
theorem IsP.keep (p:IsP prog w h k a) (hk:∀ o,h.get? a=some o->h'.get? a=some o):IsP prog w h' k a:=by
 obtain ⟨o,items,m,ho,r⟩:=p;exact ⟨o,items,m,hk o ho,r⟩
theorem qpW (W:Walks prog w A.in1 I fp wr n P St) (key:Nat->List Int) (ad:Nat->Addr) (hval:∀ i v,P i v->v=.ref (ad i)) (S:Addr) (hSf:S∉fp) (hu:A.in1.units<cLine) (hn:n<=306) (had:∀ i,i<n->ad i∉wr) :
  ∀ (k j:Nat) (s:Shared) (en:List (List Int×Addr)) (o:Obj) (es:Array (Int×Value)) (ep:Nat) (t:SetTable),n-j=k->j<=n->St j s.heap->PS prog w s.heap S en o es ep t->Gd t en.length->(∀ q∈en,q.2∉wr) ->
  (∀ x,x∈en.map (·.1)↔∃ i,i<j/\key i=x)->en.length=cnt key j->(∀ i,i<n->IsP prog w s.heap (key i) (ad i)) ->
  (∀ h' tk,qeL prog w h' S (cnt key n)->(∀ b o,b∉wr->b≠S->s.heap.get? b=some o->h'.get? b=some o)->R (.ok (.ret .none)) { s with heap:=h',toks:=tk }) ->
  codeAny (model prog w) A (.builtin "set.update.loop" ⟨[.ref S,.ref I],[]⟩) R s:=by
 have hSw:S∉wr:=λh=>hSf (W.sub _ h);intro k;induction k with
 |zero=>
  intro j s en o es ep t hk hj hst p g hw hm hc hP hR;obtain rfl:j=n:=by omega
  refine codeAny_builtin F.entry_set_update_loop ?_;rw [Around.under_plainId xh0 _];show wpAny _ A.in1 (pyNext (.ref I) >>= _) _ _ s;refine y8 (W.done s _ _ hst λh' tk kp=>?_);show wpAny _ A.in1 (ret Value.none) _ _ _;exact y9 (hR h' tk ⟨en,o,es,ep,t,p.keep (kp S _ hSw p.ho) (λq hq=>(p.hP q hq).keep λo e=>kp _ o (hw q hq) e),hc⟩ λb o hb _ e=>kp b o hb e)
 |succ k ih=>
  intro j s en o es ep t hk hj hst p g hw hm hc hP hR;have lt:j<n:=by omega
  refine codeAny_builtin F.entry_set_update_loop ?_;rw [Around.under_plainId xh0 _];show wpAny _ A.in1 (pyNext (.ref I) >>= _) _ _ s;refine y8 (W.item j s _ _ lt hst λv h' tk hv hst' kp=>?_);obtain rfl:=hval j v hv;have p':PS prog w h' S en o es ep t:=p.keep (kp S _ hSw p.ho) (λq hq=>(p.hP q hq).keep λo e=>kp _ o (hw q hq) e);have hP':∀ i,i<n->IsP prog w h' (key i) (ad i):=λi hi=>(hP i hi).keep λo e=>kp _ o (had i hi) e;show wpAny _ A.in1 (xf7 [Value.ref (ad j)] (setAdd S (.ref (ad j))) >>= _) _ _ _;refine y8 (zp4 ?_);unfold setAdd;refine zp4 ?_;refine y8 (wpAny_pyHash_tuple hu (hP' j lt) ?_);refine qr5 (s:={ s with heap:=h',toks:=tk+((key j).length+1) }) hu p' g (by have:=NM key j;omega) (hP' j lt) λb h'' en' o' es' ep' t' q g' sub mem l1 l2 sb=>?_;refine y9 ⟨plainId_quiet xh0 _,ih (j+1) _ en' o' es' ep' t' (by omega) lt (W.frame _ _ _ hst' λb hb o e=>?_) q g' ?_ (λx=>?_) ?_ (λi hi=>?_) λh3 tk3 hS3 kp3=>?_⟩
  ·exact (sb.2 b (λz:b=S=>hSf (by rw [← z];exact hb))).trans e
  ·intro q' hq';rcases sub q' hq' with z|rfl
   ·exact hw q' z
   ·exact had j lt
  ·rw [mem,hm];constructor
   ·rintro (⟨i,h1,h2⟩|rfl)
    ·exact ⟨i,by omega,h2⟩
    ·exact ⟨j,by omega,rfl⟩
   ·rintro ⟨i,h1,h2⟩;rcases zk8 i j with z|z
    ·exact .inl ⟨i,z,h2⟩
    ·obtain rfl:i=j:=by omega
     exact .inr h2.symm
  ·unfold cnt;split
   ·rename_i c;rw [l1 ((hm _).mpr c),hc]
   ·rename_i c;rw [l2 (λz=>c ((hm _).mp z)),hc]
  ·exact (hP' i hi).other (p'.ne (hP' i hi)) sb
  ·exact hR h3 tk3 hS3 λb o hb hbS e=>kp3 b o hb hbS ((sb.2 b hbS).trans (kp b o hb e))
end
section
variable {s:Shared}
structure Tt (prog:Program) (w:World) (h:Heap) (l:Addr) (vs:Array Value) (key:Nat->List Int) (ad:Nat->Addr):Prop where
 tu:h.IsTuple l vs
 at_:∀ (i:Nat) v,vs[i]?=some v->v=.ref (ad i)
 is:∀ i,i<vs.size->IsP prog w h (key i) (ad i)
theorem Tt.lt {l:Addr} {vs:Array Value} {key:Nat->List Int} {ad:Nat->Addr} (T:Tt prog w h l vs key ad) {i:Nat} (hi:i<vs.size):ad i<h.objs.size:=by
 obtain ⟨o,_,_,e,_⟩:=T.is i hi;exact v7 e
theorem qqT {l:Addr} {vs:Array Value} {key:Nat->List Int} {ad:Nat->Addr} {led:Bool} {Q:PySem.Fin->Shared->Prop} {E':Value->Shared->Prop} (hh:A.handled=none) (hu:A.in1.units<cLine) (T:Tt prog w s.heap l vs key ad) (hb:vs.size<=306)
  (h:∀ h' tk,qeL prog w h' s.heap.objs.size (cnt key vs.size)->(∀ b o,b<s.heap.objs.size->s.heap.get? b=some o->h'.get? b=some o)->wpAny (model prog w) A (ret Value.none) Q E' { s with heap:=h',toks:=tk }) :
  wpAny (model prog w) A (Builtin.«set.__init__» ⟨[.ref s.heap.objs.size,.ref l],[]⟩) Q E' { s with heap:=s.heap.push (HT.oS led) }:=by
 obtain ⟨⟨oc,od,da,os⟩,hg,hc,nl,hd⟩:=id T.tu;simp only at hc hd;subst hc hd;have hS:(s.heap.push (HT.oS led)).get? s.heap.objs.size=some (HT.oS led):=v6 _ rfl;have hg':(s.heap.push (HT.oS led)).get? l=some { cls:=.type "tuple",dict:=od,data:=.seq vs nl,slots:=os }:=v5 _ hg;have h1:=F.sub_tuple_set;have h2:=F.sub_tuple_frozenset;have ne:(Value.type "tuple" == Value.type "dict")=false:=by decide
 have hl1:=T.tu.push (HT.oS led);unfold Builtin.«set.__init__» noKeywords Builtin.Frozenset.updateFrom;generalize hPI:pyIter=PI
 wp_walk
 subst hPI;refine wpAny_pyIter_tuple hl1 ?_;refine y8 (wpAny_runValue ?_);have ll:l<s.heap.objs.size:=v7 hg;have sz:(s.heap.push (HT.oS led)).objs.size=s.heap.objs.size+1:=zi4 ..;refine qpW (Walks.tuple (show A.in1.handled=none by simp [hh]) (s.heap.push (HT.oS led)).objs.size l (by rw [sz];exact za5 (Nat.lt_succ_of_lt ll)) vs) key ad T.at_ s.heap.objs.size
  (by rw [sz];simp only [ze9,zf0,or_false,not_or];exact ⟨za5 (zp7 _),zj5 ll⟩) hu hb (λi hi=>?_) vs.size 0 _ [] (HT.oS led) #[] 0 (.fresh 0 0 led) rfl (zj1 _) ⟨⟨_,v6 _ rfl,rfl,rfl⟩,hl1.push _⟩ ?_ (.inl ⟨rfl,zj1 _⟩) (λq hq=>by cases hq) (λx=>?_) rfl (λi hi=>?_) ?_
 ·rw [sz];simp only [ze9,zf0,or_false];exact za5 (Nat.lt_succ_of_lt (T.lt hi))
 ·exact ⟨v5 _ hS,⟨rfl,rfl,rfl⟩,rfl,rfl,λq hq=>(by cases hq),Ok8.fresh ..,by simp⟩
 ·simp
 ·exact (T.is i hi).keep λo e=>v5 _ (v5 _ e)
 ·intro h' tk hS' kp;show wpAny _ _ _ _ _ _;refine y9 (h h' tk hS' λb o hb e=>kp b o ?_ ?_ (v5 _ (v5 _ e)))
  ·rw [sz];simp only [ze9,zf0,or_false];exact za5 (Nat.lt_succ_of_lt hb)
  ·exact za5 hb
theorem qbF {l:Addr} {vs:Array Value} {key:Nat->List Int} {ad:Nat->Addr} {Q:Value->Shared->Prop} (hh:A.handled=none) (hu:A.units+8<cLine) (T:Tt prog w s.heap l vs key ad) (hb:vs.size<=306)
  (h:∀ h' tk,qeL prog w h' s.heap.objs.size (cnt key vs.size)->(∀ b o,b<s.heap.objs.size->s.heap.get? b=some o->h'.get? b=some o)->Q (.ref s.heap.objs.size) { s with heap:=h',toks:=tk }) :
  wpAny (model prog w) A (call (.type "set") [.ref l]) Q E s:=by
 have C:=F.called_set;obtain ⟨c,tl,m1⟩:=C.mro;have m2:=C.made;have m3:=C.sub;have m4:=C.notType;have m5:=C.canCreate;have m6:=F.typeCall_set_1 (.ref l);refine wpAny_call (codeAny_of_tree ?_);show wpAny _ _ (callAny (.type "set") _) _ _ _;refine y9 ⟨Code.quiet_builtin _ (by decide +kernel),codeAny_builtin F.entry_type_call ?_⟩;rw [Around.under_plain (weight_type_call_type "set" [.ref l] []) rfl]
 repeat (any_goals (first|assumption|wp_step))
 refine xm2 (code_set_new_1 (.ref l) (E:=E) (Q₁:=λv s₁=>∃ led,v=.ref s.heap.objs.size/\s₁={ s with heap:=s.heap.push (HT.oS led) }) λled=>⟨led,rfl,rfl⟩) λr s₁ hr=>?_;rcases r with e|f
 ·exact hr
 cases f<;>try exact hr.elim
 obtain ⟨led,rfl,rfl⟩:=hr;have hT:Shared.TypeIs { s with heap:=s.heap.push (HT.oS led) } (.ref s.heap.objs.size) "set" := ⟨_,v6 _ rfl,rfl⟩
 have n1:=C.init.lookup;have n2:=C.init.bind (.ref s.heap.objs.size)
 repeat (any_goals (first|assumption|wp_step))
 refine xm2 (codeAny_call_builtin (R:=wants (λr s₂=>r=.none/\∃ h' tk,s₂={ s with heap:=h',toks:=tk }/\qeL prog w h' s.heap.objs.size (cnt key vs.size)/\∀ b o,b<s.heap.objs.size->s.heap.get? b=some o->h'.get? b=some o) E) C.init.plain F.entry_set_init (check_set_init_1 hT (qqT (by simp [hh]) (by simp;omega) T hb λh' tk hS hk=>y9 ⟨rfl,h',tk,rfl,hS,hk⟩))) λr₂ s₂ hr₂=>?_;rcases r₂ with e|f
 ·exact hr₂
 cases f<;>try exact hr₂.elim
 obtain ⟨rfl,h',tk,rfl,hS,hk⟩:=hr₂
 repeat (any_goals (first|assumption|wp_step))
 exact h _ _ hS hk
theorem qcA {n:Nat} {Q:Value->Shared->Prop} (p:qeL prog w s.heap S n) (hn:n<=1000) (h:Q (.int n (s.toks+1)) { s with toks:=s.toks+1+1 }):wpAny (model prog w) A (call (.builtin "len") [.ref S]) Q E s:=by
 obtain ⟨en,o,es,ep,t,q,e⟩:=p;refine call_len_set q.ho q.hc q.hd q.fits (by rw [q.sz];omega) ?_;rw [q.sz,e];exact h
end
end Tb8
namespace L3
open PySem PySem.Spec PyProof.Rows L2
section
variable {X:Cx}
inductive Tks (K:Frg) (H:Hp):List V->List (List Int)->Prop
 |nil:Tks K H [] []
 |cons {a:Addr} {k:List Int} {vs:List V} {ks:List (List Int)}:SqT K H a (k.map V.int)->Tks K H vs ks->Tks K H (.ref a::vs) (k::ks)
noncomputable def kAt (ks:List (List Int)) (i:Nat):List Int:=ks.getD i []
theorem NG {prog:Program} {w:World}:∀ {k:List Int} {its:List Value},zJ (k.map V.int) its->ItemsAre (intKind prog w) k its
 |[],_,r=>by cases r;exact .nil
 |i::k,_,r=>by
  cases r with
  |cons a b=>
   obtain ⟨t,rfl⟩:=a;exact .cons (intKind_is ..) (NG b)
theorem qoD {pins:List (Addr×Obj)} {σ:L2.St} {H:Hp} {s:Shared} (I:Inv X pins σ H s) {a:Addr}:∀ {vs:List V} {ks:List (List Int)} {its:List Value},Tks X.K H vs ks->zJ vs its->∃ ad:Nat->Addr,its.length=ks.length/\(∀ (i:Nat) v,its[i]?=some v->v=.ref (ad i))/\∀ i,i<ks.length->Tb8.IsP X.prog X.w s.heap (kAt ks i) (ad i)
 |_,_,_,.nil,r=>by cases r;exact ⟨λ_=>0,rfl,λi v h=>by simp at h,λi h=>absurd h (by simp)⟩
 |_,_,_,.cons (a:=b) (k:=k) h t,r=>by
  cases r with
  |cons rb r=>
   obtain ⟨ad,h1,h2,h3⟩:=qoD I (a:=a) t r;cases rb;obtain ⟨its',rv,⟨o,e,c,n,d⟩,_⟩:=I.tuple h;refine ⟨λi=>match i with|0=>b|i+1=>ad i,by simp [h1],λi v hv=>?_,λi hi=>?_⟩
   ·cases i with
    |zero=>simp at hv;exact hv.symm
    |succ i=>exact h2 i v (by simpa using hv)
   ·cases i with
    |zero=>exact ⟨o,_,n,e,c,d,by simpa [kAt] using NG rv⟩
    |succ i=>exact h3 i (by simpa using hi)
theorem qak {e:Expr} {te:TE} {p p2 pos pos2:Pos} (hc:X.calm=true) (hu:X.A.units+64<cLine) (hg:Gl X "len") (hm:X.mg "len" = none) (hg2:Gl X "set") (hm2:X.mg "set" = none) (he:PE X e te)
  (h1:autoParam (ze0 [e] X.env=(false,eval e X.env)::ze0 [] X.env) zA0._auto_1) (h2:autoParam (ze0 [.Call (.Name "set" p2) [e] [] pos2] X.env=(false,eval (.Call (.Name "set" p2) [e] [] pos2) X.env)::ze0 [] X.env) zA0._auto_1)
  (h3:autoParam ((zn3 pos (ze0 [] X.env)).any (·.1)=false) zA0._auto_1) (h4:autoParam ((zn3 pos2 (ze0 [] X.env)).any (·.1)=false) zA0._auto_1) :
  PE X (.Call (.Name "len" p) [.Call (.Name "set" p2) [e] [] pos2] [] pos) (λσ H Q=>te σ H λx H1=>∃ a vs ks,x=.ref a/\SqT X.K H1 a vs/\Tks X.K H1 vs ks/\ks.length<=306/\Q (.int (Tb8.cnt (kAt ks) ks.length)) H1):=by
 intro pins s σ H Q I h;refine xc4 (UE I hg hm zb1 ?_);refine xi5 ?_ h2 h3;rw [h2];show wpAny _ _ (spliced ((false,eval (.Call (.Name "set" p2) [e] [] pos2) X.env)::zn3 pos (ze0 [] X.env))) _ _ s;refine xm7 ?_;refine xc4 (UE I hg2 hm2 (show zk6 "set" = some (.type "set") by decide +kernel) ?_);refine zi9 ?_ h1 h4;rw [h1];show wpAny _ _ (spliced ((false,eval e X.env)::zn3 pos2 (ze0 [] X.env))) _ _ s;refine xm7 (thn (he pins s σ H _ I h) λu s1 ⟨x,H1,I1,r1,a,vs,ks,ex,hq,ht,hl,q⟩=>?_);subst ex;cases r1;refine xn2 ?_;obtain ⟨its,rv,tp,_⟩:=I1.tuple hq;obtain ⟨ad,l1,l2,l3⟩:=qoD I1 (a:=a) ht rv;have sz:its.toArray.size=ks.length:=by rw [ze3];exact l1
 refine Tb8.qbF (vs:=its.toArray) (key:=kAt ks) (ad:=ad) (I1.ok.hd hc) (by omega) ⟨tp,λi v hv=>l2 i v (by simpa using hv),λi hi=>l3 i (by omega)⟩ (by omega) λh' tk ps kp=>?_;refine xn2 ?_;rw [sz] at ps;refine Tb8.qcA (s:={ s1 with heap:=h',toks:=tk }) ps (by have:=Tb8.NM (kAt ks) ks.length;omega) ?_;exact ⟨.int _,H1,I1.kept (h':=h') (t':=tk+1+1) λb o e=>kp b o (v7 e) e,⟨_,rfl⟩,q⟩
noncomputable def qdX:List T->Option (List (List Int))
 |[]=>some []
 |.tup ys::r=>(match XB ys,qdX r with|some k,some ks=>some (k::ks)|_,_=>none)
 |_=>none
def qfe (te:TE3):TE3:=λτ G q=>te τ G λx G1=>match x with
 |.tup ys=>(match qdX ys with|some ks=>ks.length<=306/\q (.int (Tb8.cnt (kAt ks) ks.length)) G1|none=>False)
 |_=>False
theorem qfX {K:Frg} {H:Hp}:∀ {ys:List T} {ks:List (List Int)} {vs:List V},qdX ys=some ks->Rps K H ys vs->Tks K H vs ks
 |[],ks,_,h,r=>by
  simp only [qdX,zm4] at h;subst h;cases r;exact .nil
 |y::ys,ks,_,h,r=>by
  cases r with
  |cons ra rb=>
   cases y<;>try (simp only [qdX] at h;cases h;done)
   case tup xs=>
    simp only [qdX] at h;split at h
    ·rename_i k ks' e1 e2;cases h;have:=YH e1;subst this;cases ra with
     |tup hs r2=>
      have:=J7 r2;subst this;exact .cons hs (qfX e2 rb)
    ·cases h
theorem qaA {e:Expr} {te:TE3} {p p2 pos pos2:Pos} (hc:X.calm=true) (hu:X.A.units+64<cLine) (hg:Gl X "len") (hm:X.mg "len" = none) (hg2:Gl X "set") (hm2:X.mg "set" = none) (he:jE3 X e te)
  (h1:autoParam (ze0 [e] X.env=(false,eval e X.env)::ze0 [] X.env) zA0._auto_1) (h2:autoParam (ze0 [.Call (.Name "set" p2) [e] [] pos2] X.env=(false,eval (.Call (.Name "set" p2) [e] [] pos2) X.env)::ze0 [] X.env) zA0._auto_1)
  (h3:autoParam ((zn3 pos (ze0 [] X.env)).any (·.1)=false) zA0._auto_1) (h4:autoParam ((zn3 pos2 (ze0 [] X.env)).any (·.1)=false) zA0._auto_1):jE3 X (.Call (.Name "len" p) [.Call (.Name "set" p2) [e] [] pos2] [] pos) (qfe te):=
 ⟨D0 (qak hc hu hg hm hg2 hm2 he.h h1 h2 h3 h4) λ_ _ _ ⟨τ,G,q,rl,h,af⟩=>ze rl h λx G1 h1 v H1 rx hr1 k1 rl1=>by
  split at h1
  ·rename_i ys;split at h1
   ·rename_i ks e1;cases rx with
    |tup hs r2=>exact ⟨_,_,ks,rfl,hs,qfX e1 r2,h1.1,af _ _ h1.2 _ _ (.int _) hr1 k1⟩
   ·exact h1.elim
  ·exact h1.elim⟩
end
end L3
namespace Tb8
open PySem PyProof.Rows PySem.SetTable
section
variable {prog:Program} {w:World} {A:Around} {E:Value->Shared->Prop} {s:Shared}
end
end Tb8
namespace L3
open PySem PySem.Spec PyProof.Rows L2
variable {X:Cx}
variable {K:Frg} {d:Addr} {es:Array DictEntry} {ep:Nat} {tab:List (Str×T)} {e:Expr} {te:TE3} {p1 pos:Pos}
section
variable {w:World} {mg:Str->Option Value}
inductive Ents (K:Frg) (w:World):List DictEntry->List (Str×T)->Prop
 |nil:Ents K w [] []
 |cons {x:Str} {tk:Tok} {u:Value} {v:V} {t:T} {es:List DictEntry} {tab:List (Str×T)}:zK v u->(∀ H,Rp K H t v)->Ents K w es tab->Ents K w (⟨xe0 w.params x,.str x tk,u⟩::es) ((x,t)::tab)
def zE:List (Str×T)->Str->Option T
 |[],_=>none
 | (y,t)::r,x=>if y=x then some t else zE r x
structure Tb (K:Frg) (mg:Str->Option Value) (w:World) (x:Str) (tab:List (Str×T)):Prop where
 at_:∃ (d:Addr) (es:Array DictEntry) (ep:Nat),mg x=some (.ref d)/\K.lookup d=some ⟨.type "dict",none,.dict es ep,#[]⟩/\(d==sysModules)=false/\Ents K w es.toList tab
theorem Ents.keys {P:Program}:∀ {es:List DictEntry} {tab:List (Str×T)},Ents K w es tab->∀ e∈es,∃ k,(zp6 P w).is k e.key=true/\e.hash=(zp6 P w).hash k
 |_,_,.nil,e,h=>by cases h
 |_,_,.cons (x:=x) a b t,e,h=>by
  rcases ze9.mp h with rfl|h
  ·exact ⟨x,by show (x==x)=true;simp,rfl⟩
  ·exact Ents.keys t e h
theorem Ents.find:∀ {es:List DictEntry} {tab:List (Str×T)} (x:Str),Ents K w es tab ->
    (match zE tab x with
     |some t=>∃ (u:Value) (v:V),(es.find? λe=>xb1 x e.key).map (·.val)=some u/\zK v u/\∀ H,Rp K H t v
     |none=>(es.find? λe=>xb1 x e.key).map (·.val)=none)
  |_,_,x,.nil=>by simp [zE]
  |_,_,x,.cons (x:=y) (tk:=tk) (u:=u) (v:=v) (t:=t) (es:=es) (tab:=tab) a b r=>by
    by_cases e:y=x
    · have:xb1 x (Value.str y tk)=true:=by show (y==x)=true;simp [e]
      simp only [zE,e,if_true,List.find?_cons,this];subst e;simp only [this];exact ⟨u,v,rfl,a,b⟩
    · have:xb1 x (Value.str y tk)=false:=by show (y==x)=false;simp [e]
      have ih:=Ents.find x r;simp only [zE,e,if_false,List.find?_cons,this];exact ih
theorem Ents.map {P:Program} {h:Heap} (hd:h.get? d=some ⟨.type "dict",none,.dict es ep,#[]⟩) (en:Ents K w es.toList tab) :
  Heap.MapOf (zp6 P w) h d (λx=>findBy xb1 es x):=
 ⟨_,es,ep,hd,⟨rfl,rfl,rfl⟩,rfl,λe he=>en.keys e (by simpa using he),λ_=>rfl⟩
def qrV (K:Frg) (d:Addr) (tab:List (Str×T)):R2:=λx y H Q=>x=.ref d/\∃ s t,y=.str s/\zE tab s=some t/\∀ v,Rp K H t v->Q v H
theorem qlq (hk:X.K.lookup d=some ⟨.type "dict",none,.dict es ep,#[]⟩) (en:Ents X.K X.w es.toList tab):IxR X (qrV X.K d tab):=by
 intro value slice pins s σ H x y v u Q I rx ry h hs;obtain ⟨rfl,z,t,rfl,ht,q⟩:=h;cases rx;obtain ⟨tk,rfl⟩:=ry;have hd:=I.kIn _ _ hk;have f:=en.find z;rw [ht] at f;obtain ⟨u,v,hf,rv,rp⟩:=f;have hf':findBy xb1 es z=some u:=by
  unfold findBy;rw [← Array.find?_toList];exact hf
 refine xc5 (x:=u) ⟨_,hd,rfl⟩ PySem.F.slot_dict_getitem.lookup (wpAny_getItem_of (knd:=zp6 X.prog X.w) (Q:=λr s'=>r=u/\EP X pins σ Q r s') (k:=z) (by show (z==z)=true;simp) (en.map hd) hf' ⟨rfl,v,H,I.tok _,rv,q v (rp H)⟩) hs
def qep (tab:List (Str×T)) (te:TE3):TE3:=λτ G q=>te τ G λx G1=>match x with|.str s=>(match zE tab s with|some t=>q t G1|none=>False)|_=>False
theorem qjf {x:Str} (tb:Tb X.K X.mg X.w x tab) (hg:Gl X x) (he:jE3 X e te) (hs:W1 e) (hd:autoParam ((x==("__debug__" : Str))=false) zA1._auto_1):jE3 X (.Subscript (.Name x p1) e pos) (qep tab te):=by
 obtain ⟨d,es,ep,hm,hk,hn,en⟩:=tb.at_;exact ⟨D0 (qm5 (qlq hk en) (qcX hg hm (v:=.ref d) rfl hd) he.h hs) λ_ _ _ ⟨τ,G,q,rl,h,af⟩=>ze rl h λy G1 h1 v H1 rx hr1 k1 rl1=>by
  cases y<;>try exact h1.elim
  case str z=>
   cases rx;unfold qep at h;simp only at h1;split at h1
   ·rename_i t ht;exact ⟨rfl,z,t,rfl,ht,λv rv=>af.back k1 _ _ h1 _ _ rv hr1 Kp.refl⟩
   ·exact h1.elim⟩
theorem qeb (hk:X.K.lookup d=some ⟨.type "dict",none,.dict es ep,#[]⟩) (hn:(d==sysModules)=false) (en:Ents X.K X.w es.toList tab):OpR X (zi1 .In) (λx y H Q=>y=.ref d/\∃ s,x=.str s/\Q (.bl (zE tab s).isSome) H):=by
 intro pins s σ H x y v u Q I rx ry h;obtain ⟨rfl,z,rfl,q⟩:=h;cases ry;obtain ⟨tk,rfl⟩:=rx;have hd:=I.kIn _ _ hk;refine wpAny_in_of (knd:=zp6 X.prog X.w) (k:=z) (by show (z==z)=true;simp) hn (en.map hd) ?_;have f:=en.find z;have e:(findBy xb1 es z).isSome=(zE tab z).isSome:=by
  unfold findBy;rw [← Array.find?_toList];split at f
  ·rename_i t ht;obtain ⟨u,v,hf,_⟩:=f;rw [hf,ht];rfl
  ·rename_i ht;rw [f,ht];rfl
 rw [e];exact ⟨.bl _,H,I.tok _,rfl,q⟩
def qpR (tab:List (Str×T)) (te:TE3):TE3:=λτ G q=>te τ G λx G1=>match x with|.str s=>q (.bl (zE tab s).isSome) G1|_=>False
theorem qdM {x:Str} (tb:Tb X.K X.mg X.w x tab) (hg:Gl X x) (he:jE3 X e te) (hm2:autoParam (xc9 .In (.Name x p1)=false) zA8._auto_1) (hd:autoParam ((x==("__debug__" : Str))=false) zA1._auto_1):jC3 X (.Compare e [.In] [.Name x p1] pos) (tb3 (qpR tab te)):=by
 obtain ⟨d,es,ep,hm,hk,hn,en⟩:=tb.at_;refine ⟨qpq (qa1 (qeb hk hn en) he.h (qcX hg hm (v:=.ref d) rfl hd) hm2) λ_ _ _ h=>qim (t:=qpR tab te) (λ_ _ _ h'=>?_) h⟩;obtain ⟨τ,G,q,rl,h,af⟩:=h';refine ze rl h λy G1 h1 v H1 rx hr1 k1 rl1=>?_;cases y<;>try exact h1.elim
 case str z=>
  cases rx;exact ⟨rfl,z,rfl,af.back k1 _ _ h1 _ _ (.bl _) hr1 Kp.refl⟩
theorem UM (hc:X.calm=true):JW X (.builtin "min") (λxs H Q=>∃ (p:Addr) (ns:List Int),xs=[.ref p]/\SqL X.K H p (ns.map V.int)/\ns≠[]/\∀ m∈ns,(∀ a∈ns,m<=a)->Q (.int m) H):=by
 intro pins s σ H xs us Q I r h;obtain ⟨p,ns,rfl,hq,hne,q⟩:=h;obtain ⟨u,rfl,rp⟩:=W0 r;cases (show u=Value.ref p from rp);obtain ⟨its,rv,pl,hz⟩:=I.list hq;have hlen:its.length=ns.length:=by have:=rv.length;simp at this;omega
 have hpos:0<ns.length:=xk9.mpr hne;have hp:p<s.heap.objs.size:=by obtain ⟨o,n,e,_⟩:=pl;exact v7 e
 have vals:∀ (i:Nat) (v:Value),its.toArray[i]?=some v->∃ t,v=Value.int (ns.getD i 0) t:=λi v hv=>by
  have hv':its[i]?=some v:=by simpa using hv
  obtain ⟨hi,_⟩:=zb6 hv';have hi':i<ns.length:=by omega
  obtain ⟨u,hu,ru⟩:=rv.get (i:=i) (show (ns.map V.int)[i]?=some (V.int (ns[i])) by simp [hi']);rw [hv'] at hu;cases hu;obtain ⟨t,rfl⟩:=ru;exact ⟨t,by show Value.int ns[i] t=Value.int (ns.getD i 0) t;rw [ze4,u7 hi'];rfl⟩
 refine call_min_walk (xa8 pl.isList ⟨s.heap.objs.size,_,_,_,_,_,_,rfl,Walks.list (A:=X.A.in1) (show X.A.in1.handled=none from I.ok.hd hc) s.heap.objs.size p (za5 hp) its.toArray,⟨⟨_,v6 _ rfl,rfl,rfl⟩,?_⟩,λb hb=>?_,by rw [ze3];omega,CmpOf.ints_lt (λi=>ns.getD i 0) vals,λv h' tk hP hk=>?_⟩)
 ·obtain ⟨o,n,e,c,_,d⟩:=pl;exact ⟨o,v5 _ e,c,n,d⟩
 ·have lt1:∀ n c:Nat,c<n->c<n+1:=λn c h=>by omega
  rw [show (({ s with heap:=s.heap.push _ }:Shared).heap.objs.size)=s.heap.objs.size+1 from zi4 ..];simp only [ze9,zf0,or_false] at hb;rcases hb with rfl|rfl
  ·exact zp7 _
  ·exact lt1 _ _ hp
 ·obtain ⟨b1,b2⟩:=argBest_lt (λi=>ns.getD i 0) (its.toArray.size-1);obtain ⟨t,rfl⟩:=vals _ _ hP;rw [ze3] at b1 b2 ⊢;have gd:∀ j,j<ns.length->ns.getD j 0∈ns:=λj hj=>by rw [ze4,u7 hj];exact za8 hj
  refine ⟨.int _,H,I.kept (h':=h') (t':=tk) λb o e=>hk b o (by simp;exact za5 (v7 e)) (v5 _ e),⟨_,rfl⟩,q _ (gd _ (by omega)) λa ha=>?_⟩;obtain ⟨j,hj,rfl⟩:=xe1.mp ha;have:=b2 j (by omega);have e:ns.getD j 0=ns[j]:=by rw [ze4,u7 hj];rfl
  rw [e] at this;exact this
def qeV:List T->Gp->Q3->Prop:=λxs G q=>match xs with
 |[.ref p]=>(match getL G p with|some ys=>(match XB ys with|some ns=>ns≠[]/\∀ m∈ns,(∀ a∈ns,m<=a)->q (.int m) G|none=>False)|none=>False)
 |_=>False
theorem WI:qaP K qeV (λxs H Q=>∃ (p:Addr) (ns:List Int),xs=[.ref p]/\SqL K H p (ns.map V.int)/\ns≠[]/\∀ m∈ns,(∀ a∈ns,m<=a)->Q (.int m) H):=λxs vs G H q Q hr rs h af=>by
 unfold qeV at h;split at h
 ·rename_i p;obtain ⟨v,rfl,r⟩:=LC rs;cases r;split at h
  ·rename_i ys e0;split at h
   ·rename_i ns e1;obtain ⟨us,hs,r2⟩:=zB hr e0;have:=YH e1;subst this;have:=J7 r2;subst this;exact ⟨p,ns,rfl,hs,h.1,λm hm ha=>af _ _ (h.2 m hm ha) _ _ (.int _) hr Kp.refl⟩
   ·exact h.elim
  ·exact h.elim
 ·exact h.elim
theorem j0 (hc:X.calm=true):JW X (.builtin "max") (λxs H Q=>∃ (p:Addr) (ns:List Int),xs=[.ref p]/\SqL X.K H p (ns.map V.int)/\ns≠[]/\∀ m∈ns,(∀ a∈ns,a<=m)->Q (.int m) H):=by
 intro pins s σ H xs us Q I r h;obtain ⟨p,ns,rfl,hq,hne,q⟩:=h;obtain ⟨u,rfl,rp⟩:=W0 r;cases (show u=Value.ref p from rp);obtain ⟨its,rv,pl,hz⟩:=I.list hq;have hlen:its.length=ns.length:=by have:=rv.length;simp at this;omega
 have hpos:0<ns.length:=xk9.mpr hne;have hp:p<s.heap.objs.size:=by obtain ⟨o,n,e,_⟩:=pl;exact v7 e
 have vals:∀ (i:Nat) (v:Value),its.toArray[i]?=some v->∃ t,v=Value.int (ns.getD i 0) t:=λi v hv=>by
  have hv':its[i]?=some v:=by simpa using hv
  obtain ⟨hi,_⟩:=zb6 hv';have hi':i<ns.length:=by omega
  obtain ⟨u,hu,ru⟩:=rv.get (i:=i) (show (ns.map V.int)[i]?=some (V.int (ns[i])) by simp [hi']);rw [hv'] at hu;cases hu;obtain ⟨t,rfl⟩:=ru;exact ⟨t,by show Value.int ns[i] t=Value.int (ns.getD i 0) t;rw [ze4,u7 hi'];rfl⟩
 refine call_max_walk (xa8 pl.isList ⟨s.heap.objs.size,_,_,_,_,_,_,rfl,Walks.list (A:=X.A.in1) (show X.A.in1.handled=none from I.ok.hd hc) s.heap.objs.size p (za5 hp) its.toArray,⟨⟨_,v6 _ rfl,rfl,rfl⟩,?_⟩,λb hb=>?_,by rw [ze3];omega,CmpOf.ints_gt (λi=>ns.getD i 0) vals,λv h' tk hP hk=>?_⟩)
 ·obtain ⟨o,n,e,c,_,d⟩:=pl;exact ⟨o,v5 _ e,c,n,d⟩
 ·have lt1:∀ n c:Nat,c<n->c<n+1:=λn c h=>by omega
  rw [show (({ s with heap:=s.heap.push _ }:Shared).heap.objs.size)=s.heap.objs.size+1 from zi4 ..];simp only [ze9,zf0,or_false] at hb;rcases hb with rfl|rfl
  ·exact zp7 _
  ·exact lt1 _ _ hp
 ·obtain ⟨b1,b2⟩:=argBest_gt (λi=>ns.getD i 0) (its.toArray.size-1);obtain ⟨t,rfl⟩:=vals _ _ hP;rw [ze3] at b1 b2 ⊢;have gd:∀ j,j<ns.length->ns.getD j 0∈ns:=λj hj=>by rw [ze4,u7 hj];exact za8 hj
  refine ⟨.int _,H,I.kept (h':=h') (t':=tk) λb o e=>hk b o (by simp;exact za5 (v7 e)) (v5 _ e),⟨_,rfl⟩,q _ (gd _ (by omega)) λa ha=>?_⟩;obtain ⟨j,hj,rfl⟩:=xe1.mp ha;have:=b2 j (by omega);have e:ns.getD j 0=ns[j]:=by rw [ze4,u7 hj];rfl
  rw [e] at this;exact this
def qd5:List T->Gp->Q3->Prop:=λxs G q=>match xs with
 |[.ref p]=>(match getL G p with|some ys=>(match XB ys with|some ns=>ns≠[]/\∀ m∈ns,(∀ a∈ns,a<=m)->q (.int m) G|none=>False)|none=>False)
 |_=>False
theorem Z3:qaP K qd5 (λxs H Q=>∃ (p:Addr) (ns:List Int),xs=[.ref p]/\SqL K H p (ns.map V.int)/\ns≠[]/\∀ m∈ns,(∀ a∈ns,a<=m)->Q (.int m) H):=λxs vs G H q Q hr rs h af=>by
 unfold qd5 at h;split at h
 ·rename_i p;obtain ⟨v,rfl,r⟩:=LC rs;cases r;split at h
  ·rename_i ys e0;split at h
   ·rename_i ns e1;obtain ⟨us,hs,r2⟩:=zB hr e0;have:=YH e1;subst this;have:=J7 r2;subst this;exact ⟨p,ns,rfl,hs,h.1,λm hm ha=>af _ _ (h.2 m hm ha) _ _ (.int _) hr Kp.refl⟩
   ·exact h.elim
  ·exact h.elim
 ·exact h.elim
end
inductive Cv:List Str->List V->List (Value×Value)->Prop
 |nil:Cv [] [] []
 |cons {k:Str} {tk:Tok} {v:V} {u:Value} {ks:List Str} {xs:List V} {vs:List (Value×Value)}:zK v u->Cv ks xs vs->Cv (k::ks) (v::xs) ((.str k tk,u)::vs)
structure jD3 (X:Cx) (keys:List (Option Expr)) (values:List Expr) (ks:List Str) (t:TA3):Prop where
 h:∀ (pos:Pos) (pins:List (Addr×Obj)) (s:Shared) (σ:L2.St) (H:Hp) (Q:List V->Hp->Prop),Inv X pins σ H s->lA X.K t σ H Q ->
  wpAny (model X.prog X.w) X.A (evalPairs (pairTrees keys values X.env pos)) (λvs s'=>∃ xs H',Inv X pins σ H' s'/\Cv ks xs vs/\Q xs H') X.xe s
 len:keys.length=values.length
 all:(keys.all λx=>x.isSome)=true
variable {keys:List (Option Expr)} {values:List Expr} {ks:List Str} {t:TA3}
theorem qmd:jD3 X [] [] [] qw:=
 ⟨λpos pins s σ H Q I ⟨τ,G,q,rl,h,af⟩=>by
  show wpAny _ _ (evalPairs []) _ _ _;exact y9 ⟨[],H,I,.nil,af _ _ h _ _ .nil rl.hp Kp.refl⟩,rfl,rfl⟩
theorem XD {k:Str} {j:Nat} {kp:Pos} {v:Expr} {tv:TE3} (hv:jE3 X v tv) (r:jD3 X keys values ks t) :
  jD3 X (some (.Constant (.str k) j kp)::keys) (v::values) (k::ks) (qe tv t):=
 ⟨λpos pins s σ H Q I ⟨τ,G,q,rl,h,af⟩=>by
  show wpAny _ _ (evalPairs ((eval (.Constant (.str k) j kp) X.env,do let x←eval v X.env;standAt pos;pure x)::pairTrees keys values X.env pos)) _ _ _;refine evalPairs_cons (thn (qfA (X:=X) (x:=k) (j:=j) (pos:=kp) pins s σ H (λy H'=>y=.str k/\H'=H) I ⟨rfl,rfl⟩) λkv s1 ⟨y,H1,I1,ry,ey,eH⟩=>?_);subst ey;subst eH;obtain ⟨tk,rfl⟩:=ry;refine y8 (thn (hv.h pins s1 σ H1 (λx H2=>lA X.K t σ H2 λxs H3=>Q (x::xs) H3) I1 (ze rl h λx G1 h1 v H2 rx hr1 k1 rl1=>⟨τ,G1,_,rl1,h1,λxs G2 h2 vs H3 rs hr2 k2=>af _ _ h2 _ _ (.cons (rx.keep hr1 k2) rs) hr2 (k1.trans k2)⟩)) λu s2 ⟨x,H2,I2,rx,q2⟩=>?_);refine y8 (zp5 (y9 ?_));exact thn (r.h pos pins s2 σ H2 _ I2 q2) λvs s3 ⟨xs,H3,I3,cv,q3⟩=>⟨x::xs,H3,I3,.cons rx cv,q3⟩,by simp [r.len],by simpa using r.all⟩
theorem Cv.carries {P:Program} {w:World}:∀ {ks:List Str} {xs:List V} {vs:List (Value×Value)},Cv ks xs vs->Carries (zp6 P w) vs (ks.zip (vs.map (·.2)))
 |_,_,_,.nil=>True.intro
 |_,_,_,.cons (k:=k) r t=>⟨by show (k==k)=true;simp,rfl,t.carries⟩
theorem Cv.len:∀ {ks:List Str} {xs:List V} {vs:List (Value×Value)},Cv ks xs vs->ks.length=vs.length
 |_,_,_,.nil=>rfl
 |_,_,_,.cons _ t=>by simp [t.len]
noncomputable def qds:List Str->List V->Str->Option V
 |k::ks,v::vs,x=>if k=x then some v else qds ks vs x
 |_,_,_=>none
theorem Cv.get:∀ {ks:List Str} {xs:List V} {vs:List (Value×Value)} {x:Str} {v:V},Cv ks xs vs->qds ks xs x=some v->∃ u,valueAt (ks.zip (vs.map (·.2))) x=some u/\zK v u
 |_,_,_,x,v,.nil,h=>by simp [qds] at h
 |_,_,_,x,v,.cons (k:=k) (u:=u) r t,h=>by
  by_cases e:k=x
  ·simp [qds,e] at h;subst h;exact ⟨u,by simp [valueAt,e],r⟩
  ·simp [qds,e] at h;obtain ⟨u',h1,h2⟩:=Cv.get t h;exact ⟨u',by simpa [valueAt,e] using h1,h2⟩
def qqp (ks:List Str) (tv:TA) (te:TE):TE:=λσ H Q=>tv σ H λxs H1=>te σ H1 λy H2=>∃ k v,y=.str k/\qds ks xs k=some v/\Q v H2
theorem qh1 {te:TE} {p1 pos:Pos} (hd:jD3 X keys values ks t) (he:PE X e te) (hs:W1 e) (nd:ks.Nodup) (ne:keys≠[]) (h15:keys.length<=15) :
  PE X (.Subscript (.Dict keys values p1) e pos) (qqp ks (lA X.K t) te):=by
 intro pins s σ H Q I hl;refine Subscript_ ?_;refine wpAny_Dict_walk (knd:=zp6 X.prog X.w) hd.all hd.len ne h15 ?_;have hsz:=I.sz;have hlt:=I.lt;have I0:Inv X pins σ H { s with heap:=s.heap.push { cls:=.type "dict",data:=.dict #[] } }:=I.kept (t':=s.toks) λb o e=>v5 _ e;have ok0:H s.heap.objs.size=none/\s.heap.objs.size≠X.env.locals/\s.heap.objs.size∉X.fs:=⟨I.fresh,λz=>zp3 _ (z▸hlt),I.nofs (u9 _)⟩
 have hcell:∀ x c,X.env.cells.lookup x=some c->c≠s.heap.objs.size:=λx c e z=>by
  obtain ⟨v,o,ho,_⟩:=I.cell x c e;have:=v7 ho;rw [z] at this;exact zp3 _ this
 have hpin:∀ p∈X.pn++pins,p.1≠s.heap.objs.size:=λp hp z=>by
  have:=v7 (I.pin p hp).1;rw [z] at this;exact zp3 _ this
 have Ip:Inv X (pins++[(s.heap.objs.size,{ cls:=.type "dict",data:=.dict #[] })]) σ H { s with heap:=s.heap.push { cls:=.type "dict",data:=.dict #[] } }:=I0.pins_of λp hp=>by
  rcases zk7.mp hp with z|z
  ·exact I0.pin p (za1 _ z)
  ·simp only [List.mem_singleton] at z;subst z;exact ⟨v6 _ rfl,ok0.1,ok0.2.1,ok0.2.2,λv=>by simp⟩
 refine thn (hd.h p1 _ _ σ H _ Ip hl) λvs s1 ⟨xs,H1,I1,cv,q1⟩=>?_;have p1':=I1.pin (s.heap.objs.size,{ cls:=.type "dict",data:=.dict #[] }) (by simp);have hkeys:(List.map (λx=>x.fst) (ks.zip (vs.map (·.2))))=ks:=by
  have:=cv.len;rw [List.map_fst_zip (by simp;omega)]
 refine ⟨ks.zip (vs.map (·.2)),cv.carries,⟨_,#[],0,p1'.1,⟨rfl,rfl,rfl⟩,rfl,λe he=>by simp at he,by first|exact True.intro|constructor,by simp⟩,λh' hd' hsame=>?_⟩;rw [merged_nil_of_nodup _ (by rw [hkeys];exact nd)] at hd';have I1u:Inv X pins σ H1 s1:=I1.unpinned;have I2:Inv X pins σ H1 { heap:=h',gens:=s1.gens,drawn:=s1.drawn,toks:=s1.toks+vs.length,os:=s1.os }:=
  I1u.turned (it:=s.heap.objs.size) (λb o hb e=>by rw [hsame.2 b hb];exact e) p1'.2.1 ok0.2.1 (.inr hsz) hcell hpin
 obtain ⟨o,es,ep,ho,hx,hdata,hk,hp,hn⟩:=hd';have I3:Inv X (pins++[(s.heap.objs.size,o)]) σ H1 { heap:=h',gens:=s1.gens,drawn:=s1.drawn,toks:=s1.toks+vs.length,os:=s1.os }:=I2.pins_of λp hp=>by
  rcases zk7.mp hp with z|z
  ·exact I2.pin p (za1 _ z)
  ·simp only [List.mem_singleton] at z;subst z;exact ⟨ho,p1'.2.1,ok0.2.1,ok0.2.2,λv=>by rw [hdata];simp⟩
 refine thn (he _ _ σ H1 _ I3 q1) λu s2 ⟨y,H2,I4,ry,k,v,ey,hg,q2⟩=>?_;subst ey;obtain ⟨tk,rfl⟩:=ry;have po:=I4.pin (s.heap.objs.size,o) (by simp);have dd:s2.heap.DictOf (zp6 X.prog X.w) s.heap.objs.size (ks.zip (vs.map (·.2))):=⟨o,es,ep,po.1,hx,hdata,hk,hp,hn⟩
 obtain ⟨u,hu,ru⟩:=cv.get hg;exact xc5 (x:=u) ⟨_,po.1,hx.1⟩ PySem.F.slot_dict_getitem.lookup (wpAny_getItem_of (knd:=zp6 X.prog X.w) (Q:=λr s'=>r=u/\EP X pins σ Q r s') (k:=k) (by show (k==k)=true;simp) dd.mapOf hu ⟨rfl,v,H2,I4.unpinned.tok _,ru,q2⟩) (hs _ _)
def qnI (ks:List Str) (t:TA3) (te:TE3):TE3:=λτ G q=>t τ G λxs G1=>te τ G1 λy G2=>match y with|.str k=>(match zE (ks.zip xs) k with|some x=>q x G2|none=>False)|_=>False
theorem qba {K:Frg} {H:Hp}:∀ {ks:List Str} {xs:List T} {vs:List V} {k:Str} {x:T},Rps K H xs vs->zE (ks.zip xs) k=some x->∃ v,qds ks vs k=some v/\Rp K H x v
 |[],_,_,k,x,_,h=>by simp [zE] at h
 |_::_,_,_,k,x,.nil,h=>by simp [zE] at h
 |y::ks,_,_,k,x,.cons (v:=v) r t,h=>by
  by_cases e:y=k
  ·simp [zE,e] at h;subst h;exact ⟨v,by simp [qds,e],r⟩
  ·simp [zE,e] at h;obtain ⟨v,h1,h2⟩:=qba t h;exact ⟨v,by simpa [qds,e] using h1,h2⟩
theorem qjV {p1 pos:Pos} (hd:jD3 X keys values ks t) (he:jE3 X e te) (hs:autoParam (W1 e) zA11._auto_1) (nd:autoParam (ks.Nodup) zA1._auto_1) (ne:keys≠[]:=by simp) (h15:autoParam (keys.length<=15) zA1._auto_1) :
  jE3 X (.Subscript (.Dict keys values p1) e pos) (qnI ks t te):=
 ⟨D0 (qh1 hd he.h hs nd ne h15) λσ H Q ⟨τ,G,q,rl,h,af⟩=>
  ⟨τ,G,_,rl,h,λxs G1 h1 vs H1 rs hr1 k1=>ze (rl.next hr1 k1) h1 λy G2 h2 v H2 ry hr2 k2 rl2=>by
   cases y<;>try exact h2.elim
   case str k=>
    cases ry;simp only at h2;split at h2
    ·rename_i x hx;obtain ⟨v,hv,rv⟩:=qba (rs.keep hr1 k2) hx;exact ⟨k,v,rfl,hv,af _ _ h2 _ _ rv hr2 (k1.trans k2)⟩
    ·exact h2.elim⟩⟩
theorem NF {p:Addr} {n:Nat} {sl:Array (Option Value)} {i j:Int} {ti tj:Tok} (h:K.lookup p=some ⟨.type "tuple",none,.seq #[.int i ti,.int j tj] n,sl⟩):∀ H,Rp K H (.tup [.int i,.int j]) (.ref p):=λH=>
 .tup (vs:=[.int i,.int j]) (.inr ⟨_,_,_,h,rfl,rfl,by show 2<=sizeLine;decide,.cons ⟨_,rfl⟩ (.cons ⟨_,rfl⟩ .nil),rfl⟩) (.cons (.int _) (.cons (.int _) .nil))
noncomputable def YI:List (Str×T):=[("row",.tup [.int 0,.int 1]),("column",.tup [.int 1,.int 0]),("slant",.tup [.int 1,.int 1]),("back",.tup [.int 1,.int (-1)])]
open PySem.SeqAt
def qa6 (dx:PyData):List PyData->Option Bool
 |[]=>some false
 |d::ds=>(match jS d dx,qa6 dx ds with|some b,some c=>some (b||c)|_,_=>none)
theorem M2 {dx:PyData}:∀ {ds:List PyData} {b:Bool},qa6 dx ds=some b->∃ bs:List Bool,bs.length=ds.length/\(∀ (j:Nat) d,ds[j]?=some d->∃ c,bs[j]?=some c/\jS d dx=some c)/\b=bs.any id
 |[],b,h=>by simp [qa6] at h;subst h;exact ⟨[],rfl,λj d hd=>by simp at hd,rfl⟩
 |d::ds,b,h=>by
  unfold qa6 at h;split at h
  ·rename_i b1 c1 e1 e2;cases h;obtain ⟨bs,hl,ha,hb⟩:=M2 e2;refine ⟨b1::bs,by simp [hl],λj d' hd=>?_,by simp [hb]⟩;cases j with
   |zero=>simp at hd;subst hd;exact ⟨b1,rfl,e1⟩
   |succ j=>simpa using ha j d' (by simpa using hd)
  ·cases h
section
variable {pins:List (Addr×Obj)} {σ:L2.St} {H:Hp} {s:Shared}
theorem SH (I:Inv X pins σ H s) {x:V} {dx:PyData} {v:Value} {xs:List V} {ds:List PyData} {its:List Value} {b:Bool} (hu:X.A.units+64<cLine) (hx:DV X.K H x dx) (rx:zK x v) (hs:DVs X.K H xs ds) (rs:zJ xs its) (hb:qa6 dx ds=some b) (hd:∀ d∈ds,dpt d<=40) :
  ∃ e:Value->Bool,(∀ y∈its,EqAt X.A.in1 s y v (e y))/\its.any e=b:=by
 obtain ⟨bs,hl,ha,rfl⟩:=M2 hb;have un:X.A.in1.units+40<cLine:=by
  have:X.A.in1.units<=X.A.units+8:=by first|(show X.A.units+1<=_;omega)|(show X.A.units<=_;omega)|(simp [Around.in1];omega)
  omega
 have at_:∀ (j:Nat) y,its[j]?=some y->∃ c,bs[j]?=some c/\EqAt X.A.in1 s y v c:=λj y hj=>by
  obtain ⟨hj1,_⟩:=zb6 hj;have hxl:j<xs.length:=by rw [rs.length];exact hj1
  obtain ⟨u,hu',ru⟩:=rs.get (u7 hxl);rw [hj] at hu';cases hu';obtain ⟨d,hd1,hd2⟩:=hs.get (u7 hxl);obtain ⟨c,hc1,hc2⟩:=ha j d hd1;exact ⟨c,hc1,(LQ I 40 hd2 hx hc2 (hd d (za3 hd1)) un ru rx).2⟩
 classical
 refine ⟨λy=>decide (∃ j:Nat,its[j]?=some y/\bs[j]?=some true),λy hy=>?_,?_⟩
 ·by_cases he:∃ j:Nat,its[j]?=some y/\bs[j]?=some true
  ·obtain ⟨j,h1,h2⟩:=id he;obtain ⟨c,hc,eq⟩:=at_ j y h1;rw [h2] at hc;cases hc;simpa [he] using eq
  ·obtain ⟨j,hj,e⟩:=xe1.mp hy;have hj':its[j]?=some y:=by rw [u7 hj,e]
   obtain ⟨c,hc,eq⟩:=at_ j y hj';cases c with
   |true=>exact absurd ⟨j,hj',hc⟩ he
   |false=>simpa [he] using eq
 ·rw [zm7,List.any_eq_true,List.any_eq_true];constructor
  ·rintro ⟨y,_,hy⟩;obtain ⟨j,_,h2⟩:=of_decide_eq_true hy;exact ⟨true,za3 h2,rfl⟩
  ·rintro ⟨c,hc,e⟩;have:c=true:=e;subst this;obtain ⟨j,hj,ej⟩:=xe1.mp hc;have hl2:its.length=bs.length:=by rw [← rs.length,hs.length,hl]
   have hj2:j<its.length:=by omega
   exact ⟨its[j],za8 hj2,zb0 ⟨j,u7 hj2,by rw [u7 hj,ej]⟩⟩
def qqO (K:Frg) (neg:Bool):R2:=λx y H Q=>∃ p xs dx ds b,y=.ref p/\(SqL K H p xs\/SqT K H p xs)/\DV K H x dx/\DVs K H xs ds/\qa6 dx ds=some b/\(∀ d∈ds,dpt d<=40)/\Q (.bl (if neg then !b else b)) H
theorem qlO (hu:X.A.units+64<cLine):OpR X (zi1 .In) (qqO X.K false):=by
 intro pins s σ H x y v u Q I rx ry h;obtain ⟨p,xs,dx,ds,b,rfl,hq,hx,hs,hb,hd,q⟩:=h;cases ry;rcases hq with hq|hq
 ·obtain ⟨its,r,pl,hz⟩:=I.list hq;obtain ⟨e,he,ha⟩:=SH I hu hx rx hs r hb hd;refine SeqAt.in_listAt e pl.isList (λw hw=>he w (by simpa using hw)) ⟨.bl _,H,I,rfl,?_⟩;rw [show its.toArray.any e=its.any e by simp,ha];exact q
 ·obtain ⟨its,r,pl,hz⟩:=I.tuple hq;obtain ⟨e,he,ha⟩:=SH I hu hx rx hs r hb hd;refine SeqAt.in_tupleAt e pl (λw hw=>he w (by simpa using hw)) ⟨.bl _,H,I,rfl,?_⟩;rw [show its.toArray.any e=its.any e by simp,ha];exact q
theorem qbQ (hu:X.A.units+64<cLine):OpR X (zi1 .NotIn) (qqO X.K true):=by
 intro pins s σ H x y v u Q I rx ry h;obtain ⟨p,xs,dx,ds,b,rfl,hq,hx,hs,hb,hd,q⟩:=h;cases ry;rcases hq with hq|hq
 ·obtain ⟨its,r,pl,hz⟩:=I.list hq;obtain ⟨e,he,ha⟩:=SH I hu hx rx hs r hb hd;refine SeqAt.notIn_listAt e pl.isList (λw hw=>he w (by simpa using hw)) ⟨.bl _,H,I,rfl,?_⟩;rw [show its.toArray.any e=its.any e by simp,ha];exact q
 ·obtain ⟨its,r,pl,hz⟩:=I.tuple hq;obtain ⟨e,he,ha⟩:=SH I hu hx rx hs r hb hd;refine SeqAt.notIn_tupleAt e pl (λw hw=>he w (by simpa using hw)) ⟨.bl _,H,I,rfl,?_⟩;rw [show its.toArray.any e=its.any e by simp,ha];exact q
end
def qrB (neg:Bool):R3:=λx y G q=>∃ ys dx ds b,zV G y=some ys/\Dp G x dx/\Dps G ys ds/\qa6 dx ds=some b/\(∀ d∈ds,dpt d<=40)/\q (.bl (if neg then !b else b)) G
theorem qdl {neg:Bool}:SA K (qrB neg) (qqO K neg):=λx y v u G H q Q hr rx ry h af=>by
 obtain ⟨ys,dx,ds,b,h1,h2,h3,h4,h5,h6⟩:=h;cases y with
 |tup zs=>
  simp [zV] at h1;subst h1;cases ry with
  |tup hs rs=>exact ⟨_,_,dx,ds,b,rfl,.inr hs,h2.dv hr rx,h3.dv hr rs,h4,h5,af _ G h6 _ H (.bl _) hr Kp.refl⟩
 |ref p=>
  simp [zV] at h1;cases ry;obtain ⟨us,hs,rs⟩:=zB hr h1;exact ⟨_,_,dx,ds,b,rfl,.inl hs,h2.dv hr rx,h3.dv hr rs,h4,h5,af _ G h6 _ H (.bl _) hr Kp.refl⟩
 |_=>simp [zV] at h1
end L3
namespace HT
open PySem PySem.Spec PyProof.Rows L2
section
open PySem.SeqAt
open PySem.MeetsSeq PySem.MeetsSeq2 PySem.MeetsSeq3
end
section
variable {prog:Program} {w:World} {A:Around} {E:Value->Shared->Prop} {s:Shared}
end
end HT
namespace L3
open PySem PySem.Spec PyProof.Rows L2
section
variable {X:Cx}
end
end L3
namespace HT
open PySem PyProof.Rows
variable {prog:Program}
section
variable {w:World} {A:Around} {R:Result->Shared->Prop} {I:Addr} {fp wr:List Addr} {n:Nat} {P:Nat->Value->Prop} {St:Nat->Heap->Prop}
end
section
variable {w:World} {A:Around} {E:Value->Shared->Prop} {s:Shared}
end
end HT
namespace L3
open PySem PySem.Spec PyProof.Rows L2
variable {X:Cx}
theorem qcG {i:Nat} {y:Str} {py spos:Pos} {elt tg iter t2 i2:Expr} {ifs f2:List Expr} {scope:Scope} {pos:Pos} {N':List Str} {m:List (Option Nat)} {wi:TI} {g:TG} {tif:TT} {wi2:TI} {g2:TG} {tif2:TT} {te:TE} (hc:X.calm=true) (hN:X.N.Nodup) (hi:PI X tg iter wi)
  (hg:∀ s H fp,PG (qv X N' scope s H fp) tg g) (hf:∀ s H fp,PF (qv X N' scope s H fp) ifs tif) (hi2:∀ s H fp,PI (qv X N' scope s H fp) t2 i2 wi2) (hg2:∀ s H fp,PG (qv X N' scope s H fp) t2 g2) (hf2:∀ s H fp,PF (qv X N' scope s H fp) f2 tif2) (he:∀ s H fp,PE (qv X N' scope s H fp) elt te)
  (hsc:autoParam (qaI X.env.scope scope=true) zA2._auto_1) (hcap:autoParam (YU X.N N' scope m=true) zA2._auto_1) (hs:∀ x,zf1 iter X.env x=pure x) (hs2:∀ s H fp x,zf1 i2 (qv X N' scope s H fp).env x=pure x) (hiy:X.N[i]?=some y) (hl:X.env.scope.names.lookup y=some .local)
  (hsw:xg7 (.ListComp elt [⟨tg,iter,ifs,0⟩,⟨t2,i2,f2,0⟩] scope pos) (some (.Name y py)) spos.line X.env=pure true) :
  PS X (.Assign [.Name y py] (.ListComp elt [⟨tg,iter,ifs,0⟩,⟨t2,i2,f2,0⟩] scope pos) spos) (qpC (tLG wi g tif (tIn wi2 g2 tif2 te) m) (qdG i)):=by
 intro pins s σ H D I h;rw [exec_Assign_Name_used _ _ _ _ hsw];refine y8 (zp5 (y8 ?_));show wpAny _ X.A (do let _←comprehension (.ListComp elt [⟨tg,iter,ifs,0⟩,⟨t2,i2,f2,0⟩] scope pos) scope X.env _ (newList []) false (eval iter X.env) (some (xi4 (.Name y py) X.env))) _ _ s;refine y8 (v4 (RR (gs:=[⟨t2,i2,f2,0⟩]) (bd:=inB elt tg iter ifs t2 i2 f2 scope pos) (use:=some (xi4 (.Name y py) X.env)) (QD:=λD' H'=>D.nx (σ.set i (some (.ref D'))) H') (Qc:=λ_ s'=>∃ σ' H',Inv X pins σ' H' s'/\D.nx σ' H') hc hi (λ_ _ _=>rfl) hg hf (λs H fp D kk=>qn9 rfl (λ_ _ z=>z) (hi2 s H fp) (hg2 s H fp) (hf2 s H fp) (he s H fp) (hs2 s H fp) λ_=>rfl) hsc hcap hs I h λD' s3 H3 fp s6 H6 σ6 r I3 f3 I6 q=>?_) (λ_ s' hq=>y9 (y9 hq)) λ_ _ e=>e);have I7:Inv X pins σ H6 s6:=EA (h2:=s6.heap) I3 f3 I6 ⟨rfl,λ_ _=>rfl⟩;obtain ⟨mm,hn6,_⟩:=I6.loc;have hfC:LB X pins H6 s3.heap.objs.size:=I3.fpOk (u9 _) I6.free;obtain ⟨f0,f1,f2,f3',f4,f5⟩:=hfC;show wpAny _ X.A (xi4 (.Name y py) X.env (.ref D')) _ _ _;refine wpAny_assign_Name (XN I7 hN hiy (.inl hl) (v:=.ref D') rfl (λs8 I8 hch=>?_) (.inr hl));obtain ⟨a,sb,ha⟩:=hch;have hne:s3.heap.objs.size≠a:=by
  rcases ha with rfl|ha
  ·exact f1
  ·exact Ne.symm (f4 _ _ ha)
 refine ⟨mm,hn6.sameBut sb hne,λh' sb'=>⟨_,_,I8.turned (t':=s8.toks) (λb o hb e=>(sb'.2 b hb).trans e) f0 f1 f3' f4 f5,q⟩⟩
theorem qeA {X:Cx} {py spos:Pos} {elt tg iter t2 i2:Expr} {ifs f2:List Expr} {scope:Scope} {pos:Pos} {y:Str} (i:Nat) (N':List Str) (m:List (Option Nat)) {wi:TI3} {g:TG3} {tif:TT3} {wi2:TI3} {g2:TG3} {tif2:TT3} {te:TE3} (hc:X.calm=true) (hN:X.N.Nodup) (hi:I3 X tg iter wi)
  (hg:∀ s H fp,G3 (qv X N' scope s H fp) tg g) (hf:∀ s H fp,F3 (qv X N' scope s H fp) ifs tif) (hi2:∀ s H fp,I3 (qv X N' scope s H fp) t2 i2 wi2) (hg2:∀ s H fp,G3 (qv X N' scope s H fp) t2 g2) (hf2:∀ s H fp,F3 (qv X N' scope s H fp) f2 tif2) (he:∀ s H fp,E3 (qv X N' scope s H fp) elt te)
  (hsc:autoParam (qaI X.env.scope scope=true) zA2._auto_1) (hcap:autoParam (YU X.N N' scope m=true) zA2._auto_1) (hl:autoParam (X.env.scope.names.lookup y=some .local) zA0._auto_1) (hsw:autoParam (xg7 (.ListComp elt [⟨tg,iter,ifs,0⟩,⟨t2,i2,f2,0⟩] scope pos) (some (.Name y py)) spos.line X.env=pure true) zA0._auto_1) (hiy:X.N[i]?=some y) (hs:∀ x,zf1 iter X.env x=pure x) (hs2:∀ s H fp x,zf1 i2 (qv X N' scope s H fp).env x=pure x) :
  S3 X (.Assign [.Name y py] (.ListComp elt [⟨tg,iter,ifs,0⟩,⟨t2,i2,f2,0⟩] scope pos) spos) (zl (qiL wi g tif wi2 g2 tif2 te m) (gn3 i)):=
 qaO (qcG (g:=lG X.K g) (tif:=lT X.K tif) (wi2:=lI X.K wi2) (g2:=lG X.K g2) (tif2:=lT X.K tif2) (te:=lE X.K te) hc hN hi hg hf hi2 hg2 hf2 he hsc hcap hs hs2 hiy hl hsw) λ_ σ H ⟨τ,G,d,rl,h,af⟩=>
  qfw ⟨τ,G,_,rl,h,λx G1 h1 v H1 rx hr1 k1=>af.nx _ G1 h1 _ H1 ((rl.next hr1 k1).set i rx) k1⟩
theorem qby {X:Cx} {py spos:Pos} {elt tg iter t2 i2:Expr} {ifs f2:List Expr} {scope:Scope} {pos:Pos} {y:Str} (i:Nat) (N':List Str) (m:List (Option Nat)) {wi:TI3} {g:TG3} {tif:TT3} {wi2:TI3} {g2:TG3} {tif2:TT3} {te:TE3} (hc:X.calm=true) (hN:X.N.Nodup) (hi:jI3 X tg iter wi)
  (hg:∀ s H fp,jG3 (qv X N' scope s H fp) tg g) (hf:∀ s H fp,jF3 (qv X N' scope s H fp) ifs tif) (hi2:∀ s H fp,jI3 (qv X N' scope s H fp) t2 i2 wi2) (hg2:∀ s H fp,jG3 (qv X N' scope s H fp) t2 g2) (hf2:∀ s H fp,jF3 (qv X N' scope s H fp) f2 tif2) (he:∀ s H fp,jE3 (qv X N' scope s H fp) elt te)
  (hsc:autoParam (qaI X.env.scope scope=true) zA2._auto_1) (hcap:autoParam (YU X.N N' scope m=true) zA2._auto_1) (hl:autoParam (X.env.scope.names.lookup y=some .local) zA0._auto_1) (hsw:autoParam (xg7 (.ListComp elt [⟨tg,iter,ifs,0⟩,⟨t2,i2,f2,0⟩] scope pos) (some (.Name y py)) spos.line X.env=pure true) zA0._auto_1) (hiy:autoParam (X.N[i]?=some y) zA0._auto_1) (hs:autoParam (∀ x,zf1 iter X.env x=pure x) zA3._auto_1) (hs2:autoParam (∀ s H fp x,zf1 i2 (qv X N' scope s H fp).env x=pure x) zA7._auto_1) :
  jS3 X (.Assign [.Name y py] (.ListComp elt [⟨tg,iter,ifs,0⟩,⟨t2,i2,f2,0⟩] scope pos) spos) (zl (qiL wi g tif wi2 g2 tif2 te m) (gn3 i)):=
 ⟨qeA i N' m hc hN hi.h (λs H fp=>(hg s H fp).h) (λs H fp=>(hf s H fp).h) (λs H fp=>(hi2 s H fp).h) (λs H fp=>(hg2 s H fp).h) (λs H fp=>(hf2 s H fp).h) (λs H fp=>(he s H fp).h) hsc hcap hl hsw hiy hs hs2⟩
section
variable {a b:Expr} {ta tb:TE3} {pos:Pos}
end
end L3
namespace L3
open PySem PySem.Spec PyProof.Rows L2 PySem.SeqAt
section
variable {X:Cx} {a b:Expr} {ta tb:TE3} {pos:Pos}
end
end L3
namespace L3
open PySem PySem.Spec PyProof.Rows L2
variable {X:Cx} {e:Expr} {te:TE3} {pos:Pos}
section
variable {a b:Expr} {ta tb:TE3}
end
section
variable {a b:Expr} {ta tb:TE3}
end
noncomputable def ev {α:Type}:List α->List α
 |[]=>[]
 |[x]=>[x]
 |x::_::r=>x::ev r
section
variable {el ek:Expr} {p2:Pos}
end
section
variable {o i:Expr} {to ti:TE3}
end
section
variable {K:Frg} {G G':Gp} {H H':Hp}
noncomputable def qqf (kvs:List (Int×T)):List Key:=kvs.map λp=>(Sum.inl p.1:Key)
noncomputable def qqe (kvs:List (Int×T)):List T:=kvs.map λp=>p.2
theorem HR.dct (hr:HR K G H) {p:Addr} {kvs:List (Int×T)} (g:G p=some (.dct kvs)):∃ vs,H p=some (.dK ((qqf kvs).zip vs))/\Rps K H (qqe kvs) vs:=hr p _ g
end
section
variable {X:Cx} {pos:Pos} {o i e:Expr} {to ti te:TE3}
variable {es:List Expr} {t:TA3}
end
end L3
namespace L3
open PySem PySem.Spec PyProof.Rows L2 PySem.SeqAt
section
variable {prog:Program} {w:World} {A:Around} {E:Value->Shared->Prop} {s:Shared}
end
section
variable {X:Cx}
end
end L3
namespace L2
open PySem PySem.Spec PyProof.Rows
section
variable {X:Cx} {pins:List (Addr×Obj)} {σ:St} {H:Hp} {s:Shared}
end
variable {P:Program} {w:World}
theorem JF.there {H:Hp} {h:Heap} {a:Addr} {o:HO} (x:JF P w H h a o):∃ u,h.get? a=some u:=by
 cases o with
 |lst xs=>obtain ⟨_,_,_,_,e⟩:=x;exact ⟨_,e⟩
 |tup xs=>obtain ⟨_,_,_,ob,e,_⟩:=x;exact ⟨_,e⟩
 |dK kvs=>obtain ⟨_,_,_,_,o,_,_,e,_⟩:=x;exact ⟨_,e⟩
 |dT kvs=>obtain ⟨_,_,_,_,o,_,_,e,_⟩:=x;exact ⟨_,e⟩
 |set S n=>obtain ⟨o,_,_,_,e,_⟩:=x;exact ⟨_,e⟩
 |ins C dx fs=>obtain ⟨_,_,_,e,_⟩:=x;exact ⟨_,e⟩
 |own y=>obtain ⟨_,e⟩:=x;exact ⟨_,e⟩
 |xd fs=>obtain ⟨_,⟨_,_,_,e,_⟩,_⟩:=x;exact ⟨_,e⟩
 |rng lo hi=>obtain ⟨_,_,_,e⟩:=x;exact ⟨_,e⟩
 |frz ob u=>obtain ⟨e,_⟩:=x;exact ⟨_,e⟩
 |tbl ps=>exact ⟨_,(show h.get? a=some _ from x)⟩
 |met f y=>exact ⟨_,(show h.get? a=some _ from x)⟩
 |ext φ=>obtain ⟨_,⟨_,e⟩,_⟩:=x;exact ⟨_,e⟩
theorem HOk.nil {H:Hp} {h:Heap} {a:Addr} (x:HOk P w H h) (e:h.get? a=none):H a=none:=by
 cases q:H a with
 |none=>rfl
 |some u=>
  obtain ⟨z,y⟩:=(x a u q).there;rw [e] at y;cases y
section
variable {K:Frg} {mg:Str->Option Value} {base:Heap} {N:List Str} {qual:Str} {scope:Scope} {f:Addr} {cd:Value} {A:Around} {outer:List Env} {s0:Shared} {H0:Hp} {E:XK} {CX:CXT}
 {pins:List (Addr×Obj)} {σ:St} {H:Hp} {s:Shared}
end
section
variable {X:Cx} {x:Str} {C:Addr} {B Bn newId nid initId inN:String} {bm bmN:List Value} {np cpos pos:Pos} {e:Expr} {es:List Expr} {t:TA} {EE:Hp->Prop}
end
end L2
namespace L3
open PySem PySem.Spec PyProof.Rows L2
abbrev X3:=Addr->Gp->Prop
abbrev Spx:=List T->Gp->X3->Prop
section
variable {X:Cx} {x:Str} {C:Addr} {B Bn newId nid initId inN:String} {bm bmN:List Value} {np cpos pos:Pos} {e:Expr} {es:List Expr} {t:TA3} {dx:X3}
end
section
variable {K:Frg} {G G':Gp} {H H':Hp}
mutual
theorem Rp.sub (z:∀ a vs,SqT K H a vs->SqT K H' a vs):∀ {x:T} {v:V},Rp K H x v->Rp K H' x v
 |_,_,.non=>.non
 |_,_,.bl b=>.bl b
 |_,_,.int i=>.int i
 |_,_,.str x=>.str x
 |_,_,.ref a=>.ref a
 |_,_,.tup h hs=>.tup (z _ _ h) (Rps.sub z hs)
theorem Rps.sub (z:∀ a vs,SqT K H a vs->SqT K H' a vs):∀ {x:List T} {v:List V},Rps K H x v->Rps K H' x v
 |_,_,.nil=>.nil
 |_,_,.cons a b=>.cons (Rp.sub z a) (Rps.sub z b)
end
theorem HR.sub (hr:HR K G H) (z:∀ a vs,SqT K H a vs->SqT K H' a vs) (k:∀ a u,G a≠none->H a=some u->H' a=some u):HR K G H':=λa o e=>by
 have q:=hr a o e;have n:G a≠none:=by rw [e];simp
 cases o with
 |lst xs=>obtain ⟨vs,h1,h2⟩:=q;exact ⟨vs,k _ _ n h1,h2.sub z⟩
 |frz xs=>obtain ⟨vs,⟨o,h1⟩,h2⟩:=q;exact ⟨vs,⟨o,k _ _ n h1⟩,h2.sub z⟩
 |dct kvs=>obtain ⟨vs,h1,h2⟩:=q;exact ⟨vs,k _ _ n h1,h2.sub z⟩
 |tab ks xs=>obtain ⟨vs,h1,h2⟩:=q;exact ⟨vs,k _ _ n h1,h2.sub z⟩
 |exn C=>exact k _ _ n q
theorem HR.kind (hr:HR K G H) {a:Addr} (n:G a≠none):(∃ vs,H a=some (.lst vs))\/(∃ o vs,H a=some (.frz o (.lst vs)))\/(∃ kvs,H a=some (.dK kvs))\/∃ φ,H a=some (.ext φ):=by
 cases e:G a with
 |none=>exact absurd e n
 |some o=>
  have q:=hr a o e;cases o with
  |lst xs=>obtain ⟨vs,h1,_⟩:=q;exact .inl ⟨vs,h1⟩
  |frz xs=>obtain ⟨vs,⟨o,h1⟩,_⟩:=q;exact .inr (.inl ⟨o,vs,h1⟩)
  |dct kvs=>obtain ⟨vs,h1,_⟩:=q;exact .inr (.inr (.inl ⟨_,h1⟩))
  |tab ks xs=>obtain ⟨vs,h1,_⟩:=q;exact .inr (.inr (.inl ⟨_,h1⟩))
  |exn C=>exact .inr (.inr (.inr ⟨_,q⟩))
end
end L3
namespace L2
open PySem PySem.Spec PyProof.Rows
variable {X:Cx} {pins:List (Addr×Obj)} {σ:St} {H:Hp} {s:Shared}
section
variable {H':Hp} {s':Shared}
end
section
variable {M:Model} {A:Around} {E:Value->Shared->Prop}
variable {nm q nm' q':Str} {C N B N':Addr} {bs bm bs' bm':List Value} {hdct hdct':Bool} {sn sn':List Str} {sub sub':List Value} {ab ab':Bool} {col col':Option Bool} {dd dd':Option Addr} {k0 k1 k2 k3 k5 l0 l1 l2 l3 l5:Option Value} {newId newId':String}
end
open L3 (IsX)
section
variable {ea:Addr} {o:HO}
end
section
variable {σ0:St} {E:XK} {e:Value}
end
section
variable {s':Shared} {E:XK} {ev:Value}
end
end L2
namespace L2
open PySem PySem.Spec PyProof.Rows PySem.W PySem.Calls Builtin Builtin.ObjectAttr Builtin.Getset_descriptor
open L3 (IsX)
section
variable {prog:Program} {w:World} {A:Around} {E:Value->Shared->Prop} {K:Frag} {e C:Addr}
end
end L2
namespace L3
open PySem PySem.Spec PyProof.Rows L2
abbrev TX3:=X3->St3->Gp->Prop
section
variable {X:Cx} {k:Nat} {x:Str} {sx:Spx} {p pos:Pos} {e:Expr} {es:List Expr} {ta:TA3} {tx ty:TX3}
end
section
variable {X:Cx} {e ce:Expr} {te:TE3} {p pos:Pos} {D:List (Option Addr×Bool)}
end
section
variable {X:Cx}
noncomputable def qr7 (ks:List Str):List Key:=ks.map λk=>(Sum.inr k:Key)
theorem HR.tab {K:Frg} {G:Gp} {H:Hp} (hr:HR K G H) {p:Addr} {ks:List Str} {xs:List T} (g:G p=some (.tab ks xs)):∃ vs,H p=some (.dK ((qr7 ks).zip vs))/\Rps K H xs vs:=hr p _ g
end
end L3
namespace L3
open PySem PySem.Spec PyProof.Rows L2 PySem.SeqAt
section
end
section
variable {X:Cx}
end
end L3
namespace L3
open PySem PySem.Spec PyProof.Rows L2
variable {X:Cx}
section
variable {tg a b c:Expr} {pos:Pos}
end
variable {prog:Program} {w:World} {A:Around} {E:Value->Shared->Prop} {s:Shared}
section
variable {pos:Pos}
end
open PySem.SeqAt
section
variable {pins:List (Addr×Obj)} {σ:L2.St} {H:Hp}
end
end L3
namespace L3
open PySem PySem.Spec PyProof.Rows L2
open Builtin Builtin.Str
section
variable {prog:Program} {w:World} {A:Around} {E:Value->Shared->Prop} {s:Shared}
end
section
variable {X:Cx}
end
end L3
namespace L3
open PySem PySem.Spec PyProof.Rows L2
section
variable {prog:Program} {w:World} {A:Around} {E:Value->Shared->Prop} {s:Shared}
end
section
variable {X:Cx} {pos:Pos}
end
section
variable {X:Cx} {tg l:Expr}
end
def qqr:V->V->Hp->VK->Prop:=λo i H Q=>∃ p xs k z,o=.ref p/\i=.int k/\H p=some (.lst xs)/\atI xs k=some z/\Q z H
theorem qeR {X:Cx}:qq1 X qqr:=by
 intro pins s σ H o i ov iv Q I ro ri h;obtain ⟨p,xs,k,z,rfl,rfl,hp,he,q⟩:=h;cases ro;obtain ⟨t,rfl⟩:=ri;obtain ⟨its,n,r,ho,hz⟩:=I.lst hp;have pl:s.heap.IsList p its.toArray:=⟨_,ho,rfl,n,rfl⟩
 obtain ⟨j,h1,h2,h3,h4,h5⟩:=SM he;obtain ⟨w,ew,rw'⟩:=r.get h2;have hl:=r.length;have hn:=C2;have fin:EP X pins σ Q w s:=⟨z,H,I,rw',q⟩
 by_cases h0:0<=k
 ·have hj:k.toNat=j:=by
   rw [seqIndex_of h0 h5] at h1;exact Option.some.inj h1
  exact wpAny_getItem_list pl h0 (by omega) (by rw [hj];simpa using ew) fin
 ·have hj:(k+(its.toArray.size:Int)).toNat=j:=by
   rw [seqIndex_neg (by omega) h4] at h1;rw [ze3,← hl];exact Option.some.inj h1
  exact wpAny_getItem_list_neg pl (by omega) (by rw [ze3]<;>omega) (by omega) (by rw [hj];simpa using ew) fin
def qjA (to ti te:TE3):TS3:=λd τ G=>to τ G λo G1=>ti τ G1 λi G2=>match o,i with
 |.ref p,.int k=>(match G2 p with|some (.lst xs)=>(match atI xs k with|some (.int x)=>te τ G2 λy G4=>(match y with|.int y'=>Q5 (.ref p) (.int k) (.int (x+y')) G4 λG6=>d.nx τ G6|_=>False)|_=>False)|_=>False)
 |_,_=>False
theorem qjX {te to ti:TE3} {pos tpos:Pos} {e o i:Expr} {X:Cx} (ho:jE3 X o to) (hi:jE3 X i ti) (he:jE3 X e te)
  (ha:autoParam (∀ ov iv new,augStore i ov iv new=(do xf7 [new,ov,iv] (setItem ov iv new);release [new,ov,iv] [];pure .next)) zA10._auto_1):jS3 X (.AugAssign (.Subscript o i tpos) .Add e pos) (qjA to ti te):=
 ⟨qaO (qi9 ho.h hi.h qeR he.h qhz MS ha) λD σ H ⟨τ,G,d,rl,h,af⟩=>ze rl h λx1 G1 h1 v1 H1 r1 hr1 k1 rl1=>ze rl1 h1 λx2 G2 h2 v2 H2 r2 hr2 k2 rl2=>by
  have r1':=r1.keep hr1 k2;split at h2
  ·rename_i p k;split at h2
   ·rename_i xs e;split at h2
    ·rename_i x ex;cases r1';cases r2;obtain ⟨vs,g1,rs⟩:=hr2.lst e;obtain ⟨j,ej,gj⟩:∃ j,ixN xs.length k=some j/\xs[j]?=some (.int x):=by
      unfold atI at ex;exact obb ex
     obtain ⟨v,gv,rv⟩:=rs.get gj;cases rv;refine ⟨p,vs,k,.int x,rfl,rfl,g1,by unfold atI;rw [← rs.length,ej];exact gv,ze rl2 h2 λy G4 h4 u H4 ry hr4 k4 rl4=>?_⟩;split at h4
     ·rename_i y';cases ry;refine ⟨x,y',rfl,rfl,?_⟩;cases ez:G4 p with
      |none=>simp only [Q5,ez] at h4
      |some ob=>
       cases ob with
       |lst zs=>
        cases ej':ixN zs.length k with
        |none=>simp only [Q5,ez,ej'] at h4
        |some j'=>
         simp only [Q5,ez,ej'] at h4;obtain ⟨ws,g2,rz⟩:=hr4.lst ez;have kk:Kp G4 H4 (gu G4 p (.lst (zs.set j' (.int (x+y'))))) (upd H4 p (.lst (ws.set j' (.int (x+y'))))):=Kp.wr ez;exact ⟨p,ws,k,j',rfl,rfl,g2,by rw [← rz.length];exact ej',af.nx τ _ h4 σ _ (rl4.next (hr4.wr ez (rz.set (.int _) j')) kk) (((k1.trans k2).trans k4).trans kk)⟩
       |_=>simp only [Q5,ez] at h4
     ·exact h4.elim
    ·exact h2.elim
   ·exact h2.elim
  ·exact h2.elim⟩
end L3
namespace Srt
open PySem PySem.W PySem.Calls PyProof.Rows
section
variable {prog:Program} {w:World} {A:Around} {E:Value->Shared->Prop} {s:Shared}
end
end Srt
namespace L3
open PySem PySem.Spec PyProof.Rows L2
section
variable {X:Cx} {K:Frg} {H:Hp}
end
def DE:Sp3:=λ_ _ _=>False
theorem UN {P:Program} {w:World} {K:Frg} {mg:Str->Option Value} {base:Heap} {x qual:Str} {st:Stmt} {f:Addr} {fd:FuncData} {ps:List Str} (F:Fun K x qual st f fd) (bd:X5 K fd ps []) (hm:mg x=some (.ref f)):Fn3 P w K mg base 0 x DE:=
 ⟨f,fd,ps,⟨λvs H Q E ⟨_,_,_,_,_,h,_⟩=>h.elim,λA outer s H args us vs Q E _ _ _ _ ⟨_,_,_,_,_,h,_⟩=>h.elim⟩,bd,F.kp,hm⟩
theorem ixT (xs:List T) (i:Int) (G:Gp) (q:Q3):ix3 (.tup xs) (.int i) G q=(match L2.atI xs i with|some z=>q z G|none=>False):=rfl
theorem ixR (p:Addr) (i:Int) (G:Gp) (q:Q3):ix3 (.ref p) (.int i) G q=(match getL G p with|some xs=>(match L2.atI xs i with|some z=>q z G|none=>False)|none=>False):=rfl
variable {i:Int}
theorem jj {α:Type} {xs:List α} (h0:0<=i) (h1:i<(xs.length:Int)):L2.atI xs i=xs[i.toNat]?:=by
 unfold L2.atI ixN;have e1:i.toNat<xs.length:=by omega
 simp [h0,e1,h1]
theorem T4:¬ ze1 "row" = ze1 "block" := by decide
theorem MD:¬ ze1 "row" = ze1 "step" := by decide
theorem K3:¬ ze1 "row" = ze1 "cells" := by decide
theorem WX:¬ ze1 "column" = ze1 "block" := by decide
theorem CF:¬ ze1 "column" = ze1 "step" := by decide
theorem XS:¬ ze1 "column" = ze1 "cells" := by decide
theorem CI:¬ ze1 "slant" = ze1 "block" := by decide
theorem R0:¬ ze1 "slant" = ze1 "step" := by decide
theorem X6:¬ ze1 "slant" = ze1 "cells" := by decide
theorem RZ:¬ ze1 "back" = ze1 "block" := by decide
theorem TX:¬ ze1 "back" = ze1 "step" := by decide
theorem RY:¬ ze1 "back" = ze1 "cells" := by decide
theorem Y0:¬ ze1 "block" = ze1 "cells" := by decide
theorem UF:¬ ze1 "step" = ze1 "block" := by decide
theorem UJ:¬ ze1 "step" = ze1 "cells" := by decide
theorem CB:¬ ze1 "cells" = ze1 "block" := by decide
theorem SI:¬ ze1 "cells" = ze1 "step" := by decide
theorem cm {j:Int} (h1:-1000000<j) (h2:j<1000000):j9 i j:=.inr ⟨by omega,by omega⟩
theorem cm' {j:Int} (h1:-1000000<i) (h2:i<1000000):j9 i j:=.inl ⟨by omega,by omega⟩
theorem UL {stay:Gp->Prop} {g:TG3} {tif:TT3} {te:TE3} {q:Q3} (items:List T) (Pv:Nat->List T->St3->Gp->Prop) {τ:St3} {G:Gp} (h0:Pv 0 [] τ G) (hst:∀ i ys τ G,i<=items.length->Pv i ys τ G->stay G)
  (hs:∀ i x ys τ G (R:List T->St3->Gp->Prop),items[i]?=some x->Pv i ys τ G->(∀ ys' τ' G',Pv (i+1) ys' τ' G'->R ys' τ' G') ->
   g x τ G λτ2 G2=>tif τ2 G2 λk G3=>if k=true then te τ2 G3 λy G4=>ys.length<sizeLine/\R (ys++[y]) τ2 G4 else R ys τ2 G3)
  (hd:∀ ys τ G,Pv items.length ys τ G->∀ p,G p=none->q (.ref p) (gu G p (.lst ys))):RE stay g tif te q items [] τ G:=by
 have key:∀ (r:List T) (i:Nat) ys τ G,items.drop i=r->i<=items.length->Pv i ys τ G->RE stay g tif te q r ys τ G:=by
  intro r;induction r with
  |nil=>
   intro i ys τ G e hi p;have:i=items.length:=by have:=congrArg List.length e;simp at this;omega
   subst this;exact ⟨hst _ ys τ G hi p,hd ys τ G p⟩
  |cons x r ih=>
   intro i ys τ G e hi p;have hl:i<items.length:=by
    apply xe6;intro z;rw [List.drop_eq_nil_of_le (by omega)] at e;cases e
   have e':=zf6 hl;rw [e] at e';injection e' with e1 e2;exact ⟨hst i ys τ G hi p,hs i x ys τ G _ (by rw [u7 hl,e1]) p λys2 τ2 G2 p2=>ih (i+1) ys2 τ2 G2 e2.symm hl p2⟩
 exact key items 0 [] τ G (by simp) (zj1 _) h0
theorem NA {stay:Gp->Prop} {g:TG3} {te:TE3} {q:Q3} {G:Gp} (f:T->T) (Ok:St3->Prop) (hst:stay G):∀ (items ys:List T) (τ:St3),Ok τ ->
  (∀ x∈items,∀ τ,Ok τ->∀ R:St3->T->Gp->Prop,(∀ τ',Ok τ'->R τ' (f x) G)->g x τ G λτ2 G2=>te τ2 G2 λy G4=>R τ2 y G4) ->
  ys.length+items.length<sizeLine->(∀ p,G p=none->q (.ref p) (gu G p (.lst (ys++items.map f))))->RE stay g tt3 te q items ys τ G
 |[],ys,τ,_,_,_,h=>⟨hst,by simpa using h⟩
 |x::r,ys,τ,ok,step,len,h=>by
  refine ⟨hst,?_⟩;have e:(λτ2 G2=>tt3 τ2 G2 λk G3=>if k=true then te τ2 G3 λy G4=>ys.length<sizeLine/\RE stay g tt3 te q r (ys++[y]) τ2 G4 else RE stay g tt3 te q r ys τ2 G3)=(λτ2 G2=>te τ2 G2 λy G4=>ys.length<sizeLine/\RE stay g tt3 te q r (ys++[y]) τ2 G4):=by
   funext τ2 G2;simp [tt3]
  rw [e];rw [ze8] at len;refine step x za7 τ ok _ λτ' ok'=>⟨by omega,NA f Ok hst r (ys++[f x]) τ' ok' (λz hz=>step z (za0 _ hz)) (by rw [zg9,zk3];omega) λp hp=>?_⟩
  simpa using h p hp
theorem MJ {lo:Int} {n i:Nat} {x:T} (h:(N7 lo n)[i]?=some x):i<n/\x=T.int (lo+(i:Int)):=by
 unfold N7 at h;rw [ze5] at h;cases e:(zg5 n)[i]? with
 |none=>rw [e] at h;cases h
 |some k=>
  rw [e] at h;obtain ⟨hi,hk⟩:=zb6 e;simp at hi hk;subst hk;exact ⟨hi,by simpa using h.symm⟩
theorem VQ (lo:Int) (n:Nat):(N7 lo n).length=n:=by simp [N7]
end L3
namespace Bk
open PySem L2 L3
def XY (zd7:Sp3):TS3:=(qS (zl (o3 ix3 (v3 0) (c3 (.int 0))) (gn3 1)) (qS (zD (tb3 (o3 (zo false) (v3 1) (c3 (.str "bits")))) (zg (jv (qe (o3 (iC qcK (λi j=>i*2 ^ j.toNat)) (c3 (.int 1)) (o3 ix3 (v3 0) (c3 (.int 1)))) (qe (o3 (iC qcK (λi j=>i*2 ^ j.toNat)) (c3 (.int 1)) (o3 ix3 (v3 0) (c3 (.int 2)))) (qe (o3 (iC qcK (λi j=>i*2 ^ j.toNat)) (c3 (.int 1)) (cb3 jV (qe (o3 ix3 (v3 0) (c3 (.int 3))) qw))) qw))))) qE) (qS (zD (tb3 (o3 (zo false) (v3 1) (c3 (.str "table")))) (zg (jv (qe (cb3 jV (qe (o3 ix3 (v3 0) (c3 (.int 2))) qw)) (qe (cb3 jV (qe (o3 ix3 (o3 ix3 (v3 0) (c3 (.int 2))) (c3 (.int 0))) qw)) (qe (o3 ix3 (v3 0) (c3 (.int 1))) qw))))) qE) (qS (zD (tb3 (o3 (zo false) (v3 1) (c3 (.str "joined")))) (qS (zl (cb3 zd7 (qe (o3 ix3 (v3 0) (c3 (.int 1))) qw)) (zd 3 (qr (gn3 2) (qr (gn3 3) (qr (gn3 4) za))))) (qS (zl (cb3 zd7 (qe (o3 ix3 (v3 0) (c3 (.int 2))) qw)) (zd 3 (qr (gn3 5) (qr (gn3 6) (qr (gn3 7) za))))) (zg (jv (qe (o3 (iC j9 (·*·)) (v3 2) (v3 5)) (qe (o3 (iC j9 (·*·)) (v3 3) (v3 6)) (qe (o3 (iC j9 (·*·)) (v3 4) (v3 7)) qw))))))) qE) (zg (jv (qe (o3 ix3 (v3 0) (c3 (.int 1))) (qe (o3 ix3 (v3 0) (c3 (.int 2))) (qe (o3 ix3 (v3 0) (c3 (.int 3))) qw)))))))))
def VV (zd7:Sp3):TS3:=(qS (zl (cb3 zd7 (qe (v3 0) qw)) (zd 3 (qr (gn3 2) (qr (gn3 3) (qr (gn3 4) za))))) (zg (o3 zU (o3 (iC j9 (·*·)) (o3 ix3 (v3 1) (c3 (.int 0))) (v3 3)) (o3 ix3 (v3 1) (c3 (.int 1))))))
def JT:TS3:=(qS (zl (o3 (iI zj0) (v3 0) (v3 1)) (gn3 2)) (qS (zl (c3 (.int 0)) (gn3 3)) (qS (CL (tb3 (o3 (iB λi j=>decide (j<i)) (v3 2) (c3 (.int 0)))) (qS (VH 3 (iI (·+·)) (o3 (iI zj0) (v3 2) (c3 (.int 1)))) (zl (o3 (iC (λ_ j=>0<=j) (λi j=>i/2 ^ j.toNat)) (v3 2) (c3 (.int 1))) (gn3 2)))) (zg (o3 (zo false) (o3 (iI zj0) (v3 3) (c3 (.int 1))) (c3 (.int 1)))))))
def WY (zd5:Sp3):TS3:=(zg (cb3 qj7 (qe (lc3 (C9 (qe (v3 0) qw)) (zd 2 (qr (gn3 0) (qr (gn3 1) za))) (tb3 (cb3 zd5 (qe (v3 2) (qe (v3 1) qw)))) (o3 (iC qcK (λi j=>i*2 ^ j.toNat)) (c3 (.int 1)) (v3 0)) [none,none,some 1]) qw)))
def qaa:TS3:=(qS (zl (v3 0) (zd 2 (qr (gn3 3) (qr (gn3 4) za)))) (zg (jv (qe (jv (qe (o3 (iC qdr (·/·)) (v3 3) (v3 1)) (qe (o3 (iC qdr (·/·)) (v3 4) (v3 2)) qw))) (qe (jv (qe (o3 (iC (λ_ j=>0<j) (·%·)) (v3 3) (v3 1)) (qe (o3 (iC (λ_ j=>0<j) (·%·)) (v3 4) (v3 2)) qw))) qw)))))
def ZI (zd7:Sp3) (zd6:Sp3) (zc4:Sp3):TS3:=(qS (zl (cb3 zd7 (qe (v3 1) qw)) (zd 3 (qr (gn3 3) (qr (gn3 4) (qr (gn3 5) za))))) (qS (zl (cb3 zd6 (qe (v3 2) (qe (v3 3) (qe (v3 4) qw)))) (zd 2 (qr (gn3 6) (qr (gn3 7) za)))) (zg (o3 zU (o3 (iC j9 (·*·)) (cb3 zc4 (qe (v3 0) (qe (v3 6) qw))) (v3 5)) (cb3 zc4 (qe (v3 1) (qe (v3 7) qw)))))))
def XV (zd4:Sp3) (zc5:Sp3) (zc6:Sp3):TS3:=(qS (zl (o3 ix3 (v3 0) (c3 (.int 0))) (gn3 2)) (qS (zD (tb3 (o3 (zo false) (v3 2) (c3 (.str "skew")))) (zg (o3 (iC (λ_ j=>0<j) (·%·)) (o3 zU (o3 (iC j9 (·*·)) (o3 ix3 (v3 0) (c3 (.int 4))) (o3 ix3 (v3 1) (c3 (.int 0)))) (o3 (iC j9 (·*·)) (o3 ix3 (v3 0) (c3 (.int 5))) (o3 ix3 (v3 1) (c3 (.int 1))))) (o3 ix3 (v3 0) (c3 (.int 3))))) qE) (qS (zD (tb3 (o3 (zo false) (v3 2) (c3 (.str "rests")))) (zg (o3 (iC (λ_ j=>0<j) (·%·)) (cb3 zd4 (qe (v3 0) (qe (v3 1) qw))) (o3 ix3 (v3 0) (c3 (.int 3))))) qE) (qS (zD (tb3 (o3 (zo false) (v3 2) (c3 (.str "bits")))) (zg (cb3 zc5 (qe (o3 ix3 (v3 0) (c3 (.int 3))) (qe (cb3 zd4 (qe (v3 0) (qe (v3 1) qw))) qw)))) qE) (qS (zD (tb3 (o3 (zo false) (v3 2) (c3 (.str "table")))) (zg (o3 ix3 (o3 ix3 (o3 ix3 (v3 0) (c3 (.int 2))) (o3 ix3 (v3 1) (c3 (.int 0)))) (o3 ix3 (v3 1) (c3 (.int 1))))) qE) (zg (cb3 zc6 (qe (o3 ix3 (v3 0) (c3 (.int 1))) (qe (o3 ix3 (v3 0) (c3 (.int 2))) (qe (v3 1) qw))))))))))
def TJ:TS3:=(qS (zl (o3 (iC (λ_ j=>0<j) (·%·)) (o3 (iC j9 (·*·)) (o3 zU (o3 zU (o3 (iC (λ_ j=>0<j) (·%·)) (v3 0) (c3 (.int 2147483629))) (o3 (iC j9 (·*·)) (o3 (iC j9 (·*·)) (v3 1) (v3 1)) (c3 (.int 7919)))) (c3 (.int 11))) (c3 (.int 48271))) (c3 (.int 2147483647))) (gn3 2)) (zg (o3 (iC (λ_ j=>0<j) (·%·)) (o3 (iC j9 (·*·)) (v3 2) (v3 2)) (c3 (.int 1999999973)))))
def CJ:TS3:=(qS (zl (if3 (tb3 (o3 (iB λi j=>decide (i<j)) (v3 1) (cb3 jV (qe (v3 0) qw)))) (o3 ix3 (v3 0) (v3 1)) (c3 (.int 0))) (gn3 2)) (qS (zl (if3 (tb3 (o3 (iB λi j=>decide (j<=i)) (cb3 YT (qe (v3 2) qw)) (o3 (iC qcK (λi j=>i ^ j.toNat)) (c3 (.int 10)) (c3 (.int 18))))) (cb3 YT (qe (v3 2) qw)) (c3 (.int 0))) (gn3 3)) (zg (ZD (qe (v3 3) (qe (o3 zU (v3 2) (o3 (iC j9 (·*·)) (c3 (.int 1000003)) (v3 1))) (qe (c3 (.int 0)) qw)))))))
def CS (zc9:Sp3):TS3:=(qS (zl (o3 zU (o3 ix3 (v3 0) (c3 (.int 2))) (c3 (.int 1))) (zG (v3 0) (c3 (.int 2)))) (qS (zD (tb3 (o3 (iB λi j=>decide (j<i)) (o3 ix3 (v3 0) (c3 (.int 0))) (c3 (.int 0)))) (qS (zl (o3 (iC (λ_ j=>0<j) (·%·)) (o3 ix3 (v3 0) (c3 (.int 0))) (v3 1)) (gn3 2)) (qS (zl (o3 (iC qdr (·/·)) (o3 ix3 (v3 0) (c3 (.int 0))) (v3 1)) (zG (v3 0) (c3 (.int 0)))) (zg (v3 2)))) qE) (zg (o3 (iC (λ_ j=>0<j) (·%·)) (o3 (iC qdr (·/·)) (cb3 zc9 (qe (cb3 zc9 (qe (o3 ix3 (v3 0) (c3 (.int 1))) (qe (o3 ix3 (v3 0) (c3 (.int 2))) qw))) (qe (o3 zU (o3 ix3 (v3 0) (c3 (.int 2))) (c3 (.int 64))) qw))) (c3 (.int 64))) (v3 1)))))
def KW:TS3:=(qS (CL (tb3 (o3 (iB λi j=>decide (j<i)) (v3 1) (c3 (.int 0)))) (JC 0 1 (qe (v3 1) (qe (o3 (iC (λ_ j=>0<j) (·%·)) (v3 0) (v3 1)) qw)))) (zg (v3 0)))
def WS (zd1:Sp3) (zc8:Sp3):TS3:=(qS (zl (jv (qe (o3 zU (c3 (.int 1)) (cb3 zd1 (qe (v3 0) (qe (c3 (.int 4)) qw)))) (qe (o3 zU (c3 (.int 1)) (cb3 zd1 (qe (v3 0) (qe (c3 (.int 4)) qw)))) (qe (o3 zU (c3 (.int 1)) (cb3 zd1 (qe (v3 0) (qe (c3 (.int 5)) qw)))) qw)))) (zd 3 (qr (gn3 1) (qr (gn3 2) (qr (gn3 3) za))))) (qS (zl (cb3 zd1 (qe (v3 0) (qe (c3 (.int 4)) qw))) (gn3 4)) (qS (zD (tb3 (o3 (zo false) (v3 4) (c3 (.int 0)))) (zg (jv (qe (c3 (.str "skew")) (qe (v3 1) (qe (v3 2) (qe (v3 3) (qe (cb3 zd1 (qe (v3 0) (qe (v3 3) qw))) (qe (cb3 zd1 (qe (v3 0) (qe (c3 (.int 9)) qw))) qw)))))))) qE) (qS (zD (tb3 (o3 (zo false) (v3 4) (c3 (.int 1)))) (qS (JC 5 6 (qe (cb3 zd1 (qe (v3 0) (qe (c3 (.int 3)) qw))) (qe (cb3 zd1 (qe (v3 0) (qe (c3 (.int 3)) qw))) qw))) (qS (zl (lc3 (QW (qe (cb3 zd1 (qe (v3 0) (qe (c3 (.int 3)) qw))) qw)) (gn3 0) tt3 (cb3 zd1 (qe (v3 1) (qe (c3 (.int 16)) qw))) [none,some 0]) (gn3 7)) (qS (zl (o3 ix3 (ZD (qe (c3 (.int 1)) (qe (c3 (.int 2)) (qe (c3 (.int 4)) (qe (c3 (.int 8)) (qe (c3 (.int 16)) qw)))))) (o3 zU (v3 5) (v3 6))) (gn3 8)) (zg (jv (qe (c3 (.str "bits")) (qe (v3 5) (qe (v3 6) (qe (cb3 qM (qe (lc3 (qdR (v3 7)) (gn3 0) tt3 (o3 (iC (λ_ j=>0<j) (·%·)) (v3 0) (v3 1)) [none,some 8]) qw)) qw))))))))) qE) (qS (zD (tb3 (o3 (zo false) (v3 4) (c3 (.int 2)))) (qS (zl (o3 zU (u3 YD (o3 (iC qdr (·/·)) (o3 (iC j9 (·*·)) (u3 YD (v3 1)) (v3 2)) (v3 3))) (cb3 zd1 (qe (v3 0) (qe (c3 (.int 3)) qw)))) (gn3 9)) (qS (qcY (QW (qe (c3 (.int 9)) qw)) (gn3 10) (zD (tb3 (o3 (iB λi j=>decide (j<i)) (cb3 zc8 (qe (v3 3) (qe (v3 9) qw))) (c3 (.int 1)))) (zl (o3 zU (v3 9) (c3 (.int 1))) (gn3 9)) qE)) (zg (jv (qe (c3 (.str "rests")) (qe (v3 1) (qe (v3 2) (qe (v3 3) (qe (v3 9) qw))))))))) qE) (qS (zl (lc3 (QW (qe (v3 1) qw)) (gn3 0) tt3 (cb3 qM (qe (lc3 (QW (qe (v3 3) qw)) (gn3 0) tt3 (cb3 zd1 (qe (v3 1) (qe (v3 2) qw))) [none,some 1,some 2]) qw)) [none,some 0,some 3,some 2]) (gn3 11)) (zg (jv (qe (c3 (.str "table")) (qe (v3 3) (qe (cb3 qM (qe (v3 11) qw)) qw)))))))))))
def K6:TS3:=(qS (zl (c3 (.bl false)) (gn3 1)) (qS (qcY (QW (qe (c3 (.int 9)) qw)) (gn3 2) (zl (o3 (zo true) (v3 1) (o3 (zo false) (o3 (iC (λ_ j=>0<j) (·%·)) (o3 (iC qdr (·/·)) (v3 0) (o3 ix3 (ZD (qe (c3 (.int 1)) (qe (c3 (.int 2)) (qe (c3 (.int 4)) (qe (c3 (.int 8)) (qe (c3 (.int 16)) (qe (c3 (.int 32)) (qe (c3 (.int 64)) (qe (c3 (.int 128)) (qe (c3 (.int 256)) qw)))))))))) (v3 2))) (c3 (.int 2))) (c3 (.int 1)))) (gn3 1))) (zg (v3 1))))
def E9 (zd3:Sp3) (zd0:Sp3) (zc7:Sp3):TS3:=(qS (zl (cb3 zd3 (qe (v3 0) qw)) (zd 3 (qr (gn3 3) (qr (gn3 4) (qr (gn3 5) za))))) (qS (zD (tb3 (o3 (zo false) (o3 ix3 (v3 0) (c3 (.int 0))) (c3 (.str "skew")))) (zg (o3 (iC (λ_ j=>0<j) (·%·)) (o3 zU (o3 (iC j9 (·*·)) (o3 ix3 (v3 0) (c3 (.int 4))) (v3 1)) (o3 (iC j9 (·*·)) (o3 ix3 (v3 0) (c3 (.int 5))) (v3 2))) (v3 5))) qE) (qS (zD (tb3 (o3 (zo false) (o3 ix3 (v3 0) (c3 (.int 0))) (c3 (.str "rests")))) (zg (o3 (iC (λ_ j=>0<j) (·%·)) (o3 zU (o3 (iC j9 (·*·)) (v3 1) (v3 4)) (v3 2)) (v3 5))) qE) (qS (zD (tb3 (o3 (zo false) (o3 ix3 (v3 0) (c3 (.int 0))) (c3 (.str "bits")))) (qS (zl (lc3 (C9 (qe (o3 ix3 (v3 0) (c3 (.int 3))) qw)) (zd 2 (qr (gn3 0) (qr (gn3 1) za))) (tb3 (cb3 zd0 (qe (o3 (iI zj0) (o3 zU (o3 (iC j9 (·*·)) (v3 3) (v3 4)) (v3 2)) (v3 1)) qw))) (o3 ix3 (ZD (qe (c3 (.int 1)) (qe (c3 (.int 2)) (qe (c3 (.int 4)) (qe (c3 (.int 8)) (qe (c3 (.int 16)) qw)))))) (v3 0)) [none,none,some 2,some 1,some 4]) (gn3 6)) (zg (cb3 qj7 (qe (v3 6) qw)))) qE) (qS (zD (tb3 (o3 (zo false) (o3 ix3 (v3 0) (c3 (.int 0))) (c3 (.str "table")))) (zg (o3 ix3 (o3 ix3 (o3 ix3 (v3 0) (c3 (.int 2))) (v3 1)) (v3 2))) qE) (qS (zl (cb3 zd3 (qe (o3 ix3 (v3 0) (c3 (.int 2))) qw)) (zd 3 (qr (gn3 7) (qr (gn3 8) (qr (gn3 9) za))))) (zg (o3 zU (o3 (iC j9 (·*·)) (cb3 zc7 (qe (o3 ix3 (v3 0) (c3 (.int 1))) (qe (o3 (iC qdr (·/·)) (v3 1) (v3 7)) (qe (o3 (iC qdr (·/·)) (v3 2) (v3 8)) qw)))) (v3 9)) (cb3 zc7 (qe (o3 ix3 (v3 0) (c3 (.int 2))) (qe (o3 (iC (λ_ j=>0<j) (·%·)) (v3 1) (v3 7)) (qe (o3 (iC (λ_ j=>0<j) (·%·)) (v3 2) (v3 8)) qw))))))))))))
def CK (zd2:Sp3):TS3:=(qS (zD (tb3 (QM (λt=>zY t "list" || zY t "tuple") (v3 1))) (qS (zD (or3 (tb3 (o3 (zo true) (QM (λt=>zY t "list") (v3 0)) (QM (λt=>zY t "list") (v3 1)))) (tb3 (o3 (zo true) (QM (λt=>zY t "tuple") (v3 0)) (QM (λt=>zY t "tuple") (v3 1))))) (zg (c3 (.bl false))) qE) (zg (zC (o3 (zo false) (cb3 jV (qe (v3 0) qw)) (cb3 jV (qe (v3 1) qw))) (cb3 JD (qe (lc3 (qbH (qe (v3 0) (qe (v3 1) qw))) (zd 2 (qr (gn3 0) (qr (gn3 1) za))) tt3 (cb3 zd2 (qe (v3 0) (qe (v3 1) qw))) [none,none]) qw))))) qE) (qS (zD (or3 (tb3 (o3 (JO false) (v3 1) (c3 .non))) (tb3 (QM (λt=>zY t "str" || zY t "bool") (v3 1)))) (zg (zC (o3 (zo false) (v3 0) (v3 1)) (zC (o3 (zo false) (QM (λt=>zY t "bool") (v3 0)) (QM (λt=>zY t "bool") (v3 1))) (o3 (zo false) (o3 (JO false) (v3 0) (c3 .non)) (o3 (JO false) (v3 1) (c3 .non)))))) qE) (zg (zC (QM (λt=>zY t "int") (v3 0)) (zC (zZ (QM (λt=>zY t "bool") (v3 0))) (o3 (zo false) (v3 0) (v3 1)))))))
inductive Dl where
 |skew (r c b x y:Int)
 |rests (r c b p:Int)
 |bits (h l:Nat) (ms:List Int)
 |table (b:Int) (cells:List (List Int))
 |joined (d e:Dl)
noncomputable def MQ (r:List Int):T:=.tup (r.map T.int)
def Dl.t:Dl->T
 |.skew r c b x y=>.tup [.str "skew",.int r,.int c,.int b,.int x,.int y]
 |.rests r c b p=>.tup [.str "rests",.int r,.int c,.int b,.int p]
 |.bits h l ms=>.tup [.str "bits",.int h,.int l,.tup (ms.map T.int)]
 |.table b cells=>.tup [.str "table",.int b,.tup (cells.map MQ)]
 |.joined d e=>.tup [.str "joined",d.t,e.t]
def Dl.R:Dl->Int
 |.skew r _ _ _ _=>r
 |.rests r _ _ _=>r
 |.bits h _ _=>2 ^ h
 |.table _ cells=>cells.length
 |.joined d e=>d.R*e.R
def Dl.C:Dl->Int
 |.skew _ c _ _ _=>c
 |.rests _ c _ _=>c
 |.bits _ l _=>2 ^ l
 |.table _ cells=>((cells[0]?).getD []).length
 |.joined d e=>d.C*e.C
def Dl.B:Dl->Int
 |.skew _ _ b _ _=>b
 |.rests _ _ b _=>b
 |.bits _ _ ms=>2 ^ ms.length
 |.table b _=>b
 |.joined d e=>d.B*e.B
noncomputable def pop:Nat->Nat->Nat
 |0,_=>0
 |k+1,n=>n%2+pop k (n/2)
def NC (n m:Int):Bool:=pop 64 (zj0 n m).toNat%2==1
def zW (n:Int):Nat->List Int->Int
 |_,[]=>0
 |t,m::ms=>(if NC n m then 2 ^ t else 0)+zW n (t+1) ms
def jp (ms:List Int) (n:Int):Int:=zW n 0 ms
def Dl.bank:Dl->Int->Int->Int
 |.skew _ _ b x y,i,j=>(x*i+y*j)%b
 |.rests _ c b _,i,j=>(i*c+j)%b
 |.bits _ l ms,i,j=>jp ms (i*2 ^ l+j)
 |.table _ cells,i,j=>(((cells[i.toNat]?).getD [])[j.toNat]?).getD 0
 |.joined d e,i,j=>d.bank (i/e.R) (j/e.C)*e.B+e.bank (i%e.R) (j%e.C)
def Dl.Ok:Dl->Prop
 |.skew r c b x y=>1<=r/\r<=60/\1<=c/\c<=60/\1<=b/\b<=1000/\0<=x/\x<=1000/\0<=y/\y<=1000
 |.rests r c b p=>1<=r/\r<=60/\1<=c/\c<=60/\1<=b/\b<=1000/\1<=p/\p<=9999/\xc6 b p=1/\r*c<=b*p
 |.bits h l ms=>h<=4/\l<=4/\ms.length<=5/\∀ m∈ms,0<=m/\m<2 ^ (h+l)
 |.table b cells=>1<=b/\b<=1000/\1<=cells.length/\cells.length<=60/\∃ c,1<=c/\c<=60/\∀ row∈cells,row.length=c/\∀ x∈row,0<=x/\x<b
 |.joined d e=>d.Ok/\e.Ok/\d.R*e.R<=4096/\d.C*e.C<=4096/\d.B*e.B<=4096
def Dl.dep:Dl->Nat
 |.joined d e=>max d.dep e.dep+1
 |_=>0
theorem p2 (n:Nat):((2:Int) ^ n)=((2 ^ n:Nat):Int):=by simp
theorem DG (n:Nat):(1:Int)<=2 ^ n:=by
 rw [p2];have:=Nat.one_le_two_pow (n:=n);omega
variable {n:Nat}
theorem W9 {k:Nat} (h:n<=k):(2:Int) ^ n<=2 ^ k:=by
 rw [p2,p2];have:=xk2 (n:=2) (by omega) h;omega
structure Lims (d:Dl):Prop where
 r1:1<=d.R
 r2:d.R<=4096
 c1:1<=d.C
 c2:d.C<=4096
 b1:1<=d.B
 b2:d.B<=4096
variable {b:Int}
theorem YE {a:Int} (h1:1<=a) (h2:1<=b):1<=a*b:=by
 have:=xe2 (a:=1) (b:=1) (c:=a) (d:=b) h1 h2 (by omega) (by omega);omega
theorem Dl.lims:∀ {d:Dl},d.Ok->Lims d
 |.skew r c b x y,⟨h1,h2,h3,h4,h5,h6,_⟩=>⟨h1,by simp [Dl.R];omega,h3,by simp [Dl.C];omega,h5,by simp [Dl.B];omega⟩
 |.rests r c b x,⟨h1,h2,h3,h4,h5,h6,_⟩=>⟨h1,by simp [Dl.R];omega,h3,by simp [Dl.C];omega,h5,by simp [Dl.B];omega⟩
 |.bits h l ms,⟨h1,h2,h3,_⟩=>by
  have e1:=W9 h1;have e2:=W9 h2;have e3:=W9 h3;refine ⟨DG _,?_,DG _,?_,DG _,?_⟩<;>simp [Dl.R,Dl.C,Dl.B]<;>omega
 |.table b cells,⟨h1,h2,h3,h4,c,h5,h6,h7⟩=>by
  have e0:cells[0]?=some cells[0]:=u7 (by omega);have e1:=(h7 cells[0] (za8 _)).1;have e2:(Dl.table b cells).C=c:=by simp [Dl.C,e0,e1]
  exact ⟨by simp [Dl.R];omega,by simp [Dl.R];omega,by rw [e2];omega,by rw [e2];omega,h1,by simp [Dl.B];omega⟩
 |.joined d e,⟨h1,h2,h3,h4,h5⟩=>by
  have a:=Dl.lims h1;have b:=Dl.lims h2;exact ⟨YE a.r1 b.r1,h3,YE a.c1 b.c1,h4,YE a.b1 b.b1,h5⟩
structure Inn (d:Dl) (i j:Int):Prop where
 i1:0<=i
 i2:i<d.R
 j1:0<=j
 j2:j<d.C
def WA (d:Dl):T:=.tup [.int d.R,.int d.C,.int d.B]
noncomputable def wdT (i j:Int):T:=.tup [.int i,.int j]
def QZ:Nat->Sp3
 |0=>DE
 |n+1=>λts G q=>∃ d:Dl,ts=[d.t]/\d.dep<=n/\d.Ok/\q (WA d) G
def DJ (n:Nat):Sp3:=λts G q=>∃ (d:Dl) (i j:Int),ts=[d.t,wdT i j]/\d.dep<=n/\d.Ok/\q (.int (i*d.C+j)) G
def Z9:Sp3:=λts G q=>∃ (n m:Int),ts=[.int n,.int m]/\0<=n/\0<=m/\m<2 ^ 64/\q (.bl (NC n m)) G
def DH:Sp3:=λts G q=>∃ (ms:List Int) (n:Int),ts=[.tup (ms.map T.int),.int n]/\ms.length<=30/\(∀ m∈ms,0<=m/\m<2 ^ 64)/\0<=n/\∀ G',Ex G G'->q (.int (jp ms n)) G'
def EH:Nat->Sp3
 |0=>DE
 |n+1=>λts G q=>∃ (d:Dl) (i j:Int),ts=[d.t,wdT i j]/\d.dep<=n/\d.Ok/\Inn d i j/\∀ G',Ex G G'->q (.int (d.bank i j)) G'
def KG:Sp3:=λts G q=>∃ (i j r c:Int),ts=[wdT i j,.int r,.int c]/\(0<r/\r<1000000)/\(0<c/\c<1000000)/\q (.tup [wdT (i/r) (j/c),wdT (i%r) (j%c)]) G
def VB (n:Nat):Sp3:=λts G q=>∃ (d e:Dl) (i j:Int),ts=[d.t,e.t,wdT i j]/\(Dl.joined d e).dep<=n/\(Dl.joined d e).Ok/\Inn (.joined d e) i j/\∀ G',Ex G G'->q (.int ((Dl.joined d e).bank i j)) G'
def qaC (n:Nat):Sp3:=λts G q=>∃ (d:Dl) (i j:Int),ts=[d.t,wdT i j]/\d.dep<=n/\d.Ok/\Inn d i j/\∀ G',Ex G G'->q (.int (d.bank i j)) G'
noncomputable abbrev LA (q:Q3):Ends3:={ nx:=λ_ G'=>q .non G',rt:=q }
variable {j:Nat}
theorem qpy (h:j<=1000):qcK 1 (j:Int):=⟨by omega,by omega,by decide⟩
variable {d:Ends3} {τ:St3} {G:Gp}
theorem JB {A B:TS3} (h:∀ nx,nx=B d->A { d with nx:=nx } τ G):qS A B d τ G:=h _ rfl
variable {i:Nat}
theorem zr {s l:Str} {R S:TS3} (hτ:τ[i]?=some (some (T.str s))):qS (zD (tb3 (o3 (zo false) (v3 i) (c3 (.str l)))) R qE) S d τ G=(if s=l then R { d with nx:=S d } τ G else S d τ G):=by
 simp only [qS,zD,tb3,o3,v3,hτ,c3,zo,zc,qE];by_cases e:s=l<;>simp [e]
theorem EG (n:Nat):∀ ts G q,QZ (n+1) ts G q->ts.length=1/\XY (QZ n) (LA q) (qo ["dealing","kind","rows","columns","banks","other_rows","other_columns","other_banks"] ts) G:=by
 rintro ts G q ⟨d,rfl,hd,ok,h⟩;refine ⟨rfl,?_⟩;unfold XY;refine JB λnx q1=>?_;cases d with
 |skew r c b x y=>
  show nx [some (Dl.skew r c b x y).t,some (.str "skew"),none,none,none,none,none,none] G;rw [q1,zr rfl,if_neg (by decide),zr rfl,if_neg (by decide),zr rfl,if_neg (by decide)];simp [Dl.t,qS,zl,gn3,zg,jt,zD,zN,V3,qE,v3,c3,o3,u3,YD,L3.ixT,L3.ixR,zU,iI,iC,iB,zo,zc,JO,tb3,V4,or3,V1,zC,V5,zZ,if3,ch3,cb3,qe,qw,QM,tyT,zY,jv,ZD,YS,np3,sp3,zd,qr,za,zG,Q5,JC,qo,bm3,JK,YQ,jV,YT,YZ,U0,U2,qM,zS,JD,U1,VH,L2.atI,ixN,QY,HT.sIx,getL,in3,zm,eqF,gu,v9,x8,x6];exact h
 |rests r c b x=>
  show nx [some (Dl.rests r c b x).t,some (.str "rests"),none,none,none,none,none,none] G;rw [q1,zr rfl,if_neg (by decide),zr rfl,if_neg (by decide),zr rfl,if_neg (by decide)];simp [Dl.t,qS,zl,gn3,zg,jt,zD,zN,V3,qE,v3,c3,o3,u3,YD,L3.ixT,L3.ixR,zU,iI,iC,iB,zo,zc,JO,tb3,V4,or3,V1,zC,V5,zZ,if3,ch3,cb3,qe,qw,QM,tyT,zY,jv,ZD,YS,np3,sp3,zd,qr,za,zG,Q5,JC,qo,bm3,JK,YQ,jV,YT,YZ,U0,U2,qM,zS,JD,U1,VH,L2.atI,ixN,QY,HT.sIx,getL,in3,zm,eqF,gu,v9,x8,x6];exact h
 |bits hh l ms=>
  obtain ⟨k1,k2,k3,_⟩:=ok;show nx [some (Dl.bits hh l ms).t,some (.str "bits"),none,none,none,none,none,none] G;rw [q1,zr rfl,if_pos rfl];simp [Dl.t,qS,zl,gn3,zg,jt,zD,zN,V3,qE,v3,c3,o3,u3,YD,L3.ixT,L3.ixR,zU,iI,iC,iB,zo,zc,JO,tb3,V4,or3,V1,zC,V5,zZ,if3,ch3,cb3,qe,qw,QM,tyT,zY,jv,ZD,YS,np3,sp3,zd,qr,za,zG,Q5,JC,qo,bm3,JK,YQ,jV,YT,YZ,U0,U2,qM,zS,JD,U1,VH,L2.atI,ixN,QY,HT.sIx,getL,in3,zm,eqF,gu,v9,x8,x6];exact ⟨qpy (by omega),qpy (by omega),qpy (by omega),h⟩
 |table b cells=>
  have L:=Dl.lims ok;obtain ⟨k1,k2,k3,k4,c,k5,k6,k7⟩:=ok;cases cells with
  |nil=>simp at k3
  |cons row cells=>
   show nx [some (Dl.table b (row::cells)).t,some (.str "table"),none,none,none,none,none,none] G;rw [q1,zr rfl,if_neg (by decide),zr rfl,if_pos rfl];simp [Dl.t,MQ,qS,zl,gn3,zg,jt,zD,zN,V3,qE,v3,c3,o3,u3,YD,L3.ixT,L3.ixR,zU,iI,iC,iB,zo,zc,JO,tb3,V4,or3,V1,zC,V5,zZ,if3,ch3,cb3,qe,qw,QM,tyT,zY,jv,ZD,YS,np3,sp3,zd,qr,za,zG,Q5,JC,qo,bm3,JK,YQ,jV,YT,YZ,U0,U2,qM,zS,JD,U1,VH,L2.atI,ixN,QY,HT.sIx,getL,in3,zm,eqF,gu,v9,x8,x6];simpa [WA,Dl.R,Dl.C,Dl.B] using h
 |joined d e=>
  have Ld:=Dl.lims ok.1;have Le:=Dl.lims ok.2.1;have:1<=n:=by simp [Dl.dep] at hd;omega
  obtain ⟨m,rfl⟩:∃ m,n=m+1:=⟨n-1,by omega⟩
  show nx [some (Dl.joined d e).t,some (.str "joined"),none,none,none,none,none,none] G;rw [q1,zr rfl,if_neg (by decide),zr rfl,if_neg (by decide),zr rfl,if_pos rfl];simp [Dl.t,qS,zl,gn3,zg,jt,zD,zN,V3,qE,v3,c3,o3,u3,YD,L3.ixT,L3.ixR,zU,iI,iC,iB,zo,zc,JO,tb3,V4,or3,V1,zC,V5,zZ,if3,ch3,cb3,qe,qw,QM,tyT,zY,jv,ZD,YS,np3,sp3,zd,qr,za,zG,Q5,JC,qo,bm3,JK,YQ,jV,YT,YZ,U0,U2,qM,zS,JD,U1,VH,L2.atI,ixN,QY,HT.sIx,getL,in3,zm,eqF,gu,v9,x8,x6];refine ⟨d,rfl,by simp [Dl.dep] at hd;omega,ok.1,?_⟩;simp [WA];refine ⟨e,rfl,by simp [Dl.dep] at hd;omega,ok.2.1,?_⟩;have e1:=Le.r1;have e2:=Le.r2;have e3:=Le.c1;have e4:=Le.c2;have e5:=Le.b1;have e6:=Le.b2;simp [WA];exact ⟨cm (by omega) (by omega),cm (by omega) (by omega),cm (by omega) (by omega),h⟩
theorem WO:∀ k,pop k 0=0
 |0=>rfl
 |k+1=>by simp [pop,WO k]
theorem WN:∀ (k n:Nat),n<2 ^ k->pop (k+1) n=pop k n
 |0,n,h=>by simp at h;subst h;simp [pop]
 |k+1,n,h=>by
  rw [pop,WN k (n/2) (by rw [xm3] at h;omega)];rfl
theorem JI (n:Nat):∀ ts G q,DJ n ts G q->ts.length=2/\VV (QZ (n+1)) (LA q) (qo ["dealing","word","rows","columns","banks"] ts) G:=by
 rintro ts G q ⟨d,i,j,rfl,hd,ok,h⟩;refine ⟨rfl,?_⟩;have L:=Dl.lims ok;simp [VV,qS,zl,gn3,zg,jt,zD,zN,V3,qE,v3,c3,o3,u3,YD,L3.ixT,L3.ixR,zU,iI,iC,iB,zo,zc,JO,tb3,V4,or3,V1,zC,V5,zZ,if3,ch3,cb3,qe,qw,QM,tyT,zY,jv,ZD,YS,np3,sp3,zd,qr,za,zG,Q5,JC,qo,bm3,JK,YQ,jV,YT,YZ,U0,U2,qM,zS,JD,U1,VH,L2.atI,ixN,QY,HT.sIx,getL,in3,zm,eqF,gu,v9,x8,x6];refine ⟨d,rfl,hd,ok,?_⟩;simp [WA,wdT,qS,zl,gn3,zg,jt,zD,zN,V3,qE,v3,c3,o3,u3,YD,L3.ixT,L3.ixR,zU,iI,iC,iB,zo,zc,JO,tb3,V4,or3,V1,zC,V5,zZ,if3,ch3,cb3,qe,qw,QM,tyT,zY,jv,ZD,YS,np3,sp3,zd,qr,za,zG,Q5,JC,qo,bm3,JK,YQ,jV,YT,YZ,U0,U2,qM,zS,JD,U1,VH,L2.atI,ixN,QY,HT.sIx,getL,in3,zm,eqF,gu,v9,x8,x6];exact ⟨cm (by have:=L.c1;omega) (by have:=L.c2;omega),h⟩
theorem WC:∀ ts G q,Z9 ts G q->ts.length=2/\JT (LA q) (qo ["number","mask","common","many"] ts) G:=by
 rintro ts G q ⟨n,m,rfl,hn,hm,hm2,h⟩;refine ⟨rfl,?_⟩;have hr:=PyProof.Rows.bitAnd_range n hm;simp [JT,qS,zl,gn3,zg,jt,zD,zN,V3,qE,v3,c3,o3,u3,YD,L3.ixT,L3.ixR,zU,iI,iC,iB,zo,zc,JO,tb3,V4,or3,V1,zC,V5,zZ,if3,ch3,cb3,qe,qw,QM,tyT,zY,jv,ZD,YS,np3,sp3,zd,qr,za,zG,Q5,JC,qo,bm3,JK,YQ,jV,YT,YZ,U0,U2,qM,zS,JD,U1,VH,L2.atI,ixN,QY,HT.sIx,getL,in3,zm,eqF,gu,v9,x8,x6,CL];refine ⟨λk τ G'=>G'=G/\∃ c y:Nat,τ=[some (.int n),some (.int m),some (.int (c:Int)),some (.int (y:Int))]/\c<2 ^ k/\y+pop k c=pop 64 (zj0 n m).toNat,
  ⟨64,rfl,(zj0 n m).toNat,0,by simp;omega,by omega,by simp⟩,?_⟩
 rintro k τ G' ⟨rfl,c,y,rfl,hc,e⟩;simp [PyProof.Rows.bitAnd_m1];by_cases h0:0<c
 ·have hk:1<=k:=by
   rcases Nat.eq_zero_or_pos k with z|z
   ·subst z;simp at hc;omega
   ·exact z
  obtain ⟨k',rfl⟩:∃ k',k=k'+1:=⟨k-1,by omega⟩
  simp [h0];refine ⟨λτ' G''=>G''=G'/\∃ c y:Nat,τ'=[some (.int n),some (.int m),some (.int (c:Int)),some (.int (y:Int))]/\c<2 ^ k'/\y+pop k' c=pop 64 (zj0 n m).toNat,?_,rfl,c/2,y+c%2,?_,?_,?_⟩
  ·rintro τ' G'' ⟨e1,c',y',e2,e3,e4⟩;exact ⟨k',by omega,e1,c',y',e2,e3,e4⟩
  ·simp
  ·rw [xm3] at hc;omega
  ·rw [pop] at e;omega
 ·have hc0:c=0:=by omega
  subst hc0;simp;rw [WO] at e;have e':(NC n m)=decide ((y:Int)%2=1):=by
   unfold NC;rw [← e,Nat.add_zero];by_cases hy:y%2=1
   ·have:(y:Int)%2=1:=by omega
    simp [hy,this]
   ·have:¬ (y:Int)%2=1:=by omega
    simp [hy,this]
  rw [← e'];exact h
def zq (n:Int):Nat->List Int->List Int
 |_,[]=>[]
 |t,m::ms=>(if NC n m then [2 ^ t] else [])++zq n (t+1) ms
theorem ZJ (n:Int):∀ (t:Nat) (xs ys:List Int),zq n t (xs++ys)=zq n t xs++zq n (t+xs.length) ys
 |_,[],_=>by simp [zq]
 |t,x::xs,ys=>by simp [zq,ZJ n (t+1) xs ys,Nat.add_assoc,Nat.add_comm 1]
theorem YK (n:Int):∀ (t:Nat) (ms:List Int),(zq n t ms).sum=zW n t ms
 |_,[]=>rfl
 |t,m::ms=>by
  simp only [zq,zW,List.sum_append,YK n (t+1) ms];split<;>simp
theorem jT (n:Int):∀ (t:Nat) (ms:List Int),(zq n t ms).length<=ms.length
 |_,[]=>by simp [zq]
 |t,m::ms=>by
  have:=jT n (t+1) ms;simp only [zq,zg9,ze8];split<;>simp<;>omega
theorem J9 (n:Int):∀ (t:Nat) (ms:List Int) (x:Int),x∈zq n t ms->∃ k,k<t+ms.length/\x=2 ^ k
 |_,[],_,h=>by simp [zq] at h
 |t,m::ms,x,h=>by
  simp only [zq,zk7] at h;rcases h with h|h
  ·split at h
   ·simp at h;exact ⟨t,by simp,h⟩
   ·simp at h
  ·obtain ⟨k,h1,h2⟩:=J9 n (t+1) ms x h;exact ⟨k,by simp;omega,h2⟩
theorem T5:∀ ts G q,DH ts G q->ts.length=2/\WY Z9 (LA q) (qo ["masks","number"] ts) G:=by
 rintro ts G q ⟨ms,n,rfl,hl,hm,hn,h⟩;refine ⟨rfl,?_⟩;simp [WY,lc3,C9,zV,cap,qS,zl,gn3,zg,jt,zD,zN,V3,qE,v3,c3,o3,u3,YD,L3.ixT,L3.ixR,zU,iI,iC,iB,zo,zc,JO,tb3,V4,or3,V1,zC,V5,zZ,if3,ch3,cb3,qe,qw,QM,tyT,zY,jv,ZD,YS,np3,sp3,zd,qr,za,zG,Q5,JC,qo,bm3,JK,YQ,jV,YT,YZ,U0,U2,qM,zS,JD,U1,VH,L2.atI,ixN,QY,HT.sIx,getL,in3,zm,eqF,gu,v9,x8,x6];refine UL _ (λi ys τ G'=>G'=G/\ys=(zq n 0 (ms.take i)).map T.int/\∃ x0 x1,τ=[x0,x1,some (.int n)]) ⟨rfl,by simp [zq],none,none,rfl⟩ (λi ys τ G' _ hp=>by simp [zV]) ?_ ?_
 ·rintro i z ys τ G' R hz ⟨rfl,rfl,x0,x1,rfl⟩ hR;obtain ⟨a,ha,rfl⟩:=UH hz;rw [ze5] at ha;cases e:ms[i]? with
  |none=>rw [e] at ha;cases ha
  |some m=>
   rw [e] at ha;have:a=T.int m:=by simpa using ha.symm
   subst this;obtain ⟨hi,hm'⟩:=zb6 e;have mm:m∈ms:=by rw [← hm'];exact za8 hi
   simp [qS,zl,gn3,zg,jt,zD,zN,V3,qE,v3,c3,o3,u3,YD,L3.ixT,L3.ixR,zU,iI,iC,iB,zo,zc,JO,tb3,V4,or3,V1,zC,V5,zZ,if3,ch3,cb3,qe,qw,QM,tyT,zY,jv,ZD,YS,np3,sp3,zd,qr,za,zG,Q5,JC,qo,bm3,JK,YQ,jV,YT,YZ,U0,U2,qM,zS,JD,U1,VH,L2.atI,ixN,QY,HT.sIx,getL,in3,zm,eqF,gu,v9,x8,x6];refine ⟨n,m,rfl,hn,(hm m mm).1,(hm m mm).2,?_⟩;have tk:ms.take (i+1)=ms.take i++[m]:=by rw [xa9 hi,hm']
   have lt:(ms.take i).length=i:=by rw [zj7];omega
   have st:zq n 0 (ms.take (i+1))=zq n 0 (ms.take i)++(if NC n m then [2 ^ i] else []):=by
    rw [tk,ZJ,lt];simp [zq]
   have cl:=jT n 0 (ms.take i);cases ho:NC n m with
   |true=>
    simp;refine ⟨qpy (by omega),by omega,hR _ _ _ ⟨rfl,?_,_,_,rfl⟩⟩;rw [st,ho];simp
   |false=>
    simp;refine hR _ _ _ ⟨rfl,?_,_,_,rfl⟩;rw [st,ho];simp
 ·rintro ys τ G' ⟨rfl,rfl,x0,x1,rfl⟩ p hp;rw [XF,zd9,zp8];simp [qj7,getL,qN,Q7];refine ⟨⟨by have:=jT n 0 ms;omega,λx hx=>?_⟩,?_⟩
  ·obtain ⟨k,h1,rfl⟩:=J9 n 0 ms x hx;have:=DG k;have:=W9 (n:=k) (k:=30) (by omega);omega
  ·rw [YK];exact h _ (ja hp)
theorem NX {h l:Nat} {i j:Int} (i1:0<=i) (j1:0<=j):0<=i*2 ^ l+j:=by
 have:=Int.mul_nonneg i1 (show (0:Int)<=2 ^ l by have:=DG l;omega);omega
theorem EL (n:Nat):∀ ts G q,EH (n+1) ts G q->ts.length=2/\XV (DJ n) DH (VB n) (LA q) (qo ["dealing","word","kind"] ts) G:=by
 rintro ts G q ⟨d,i,j,rfl,hd,ok,I,h⟩;refine ⟨rfl,?_⟩;unfold XV;refine JB λnx q1=>?_;have h:=h;have i1:=I.i1;have i2:=I.i2;have j1:=I.j1;have j2:=I.j2;have L:=Dl.lims ok;have r2:=L.r2;have c2:=L.c2;cases d with
 |skew r c b x y=>
  have k:=ok;obtain ⟨k1,k2,k3,k4,k5,k6,k7,k8,k9,k10⟩:=ok;show nx [some (Dl.skew r c b x y).t,some (wdT i j),some (.str "skew")] G;rw [q1,zr rfl,if_pos rfl];simp [Dl.t,wdT,qS,zl,gn3,zg,jt,zD,zN,V3,qE,v3,c3,o3,u3,YD,L3.ixT,L3.ixR,zU,iI,iC,iB,zo,zc,JO,tb3,V4,or3,V1,zC,V5,zZ,if3,ch3,cb3,qe,qw,QM,tyT,zY,jv,ZD,YS,np3,sp3,zd,qr,za,zG,Q5,JC,qo,bm3,JK,YQ,jV,YT,YZ,U0,U2,qM,zS,JD,U1,VH,L2.atI,ixN,QY,HT.sIx,getL,in3,zm,eqF,gu,v9,x8,x6];exact ⟨cm' (by omega) (by omega),cm' (by omega) (by omega),by omega,h _ Ex.refl⟩
 |rests r c b x=>
  have k:=ok;obtain ⟨k1,k2,k3,k4,k5,k6,k7,k8,k9⟩:=ok;show nx [some (Dl.rests r c b x).t,some (wdT i j),some (.str "rests")] G;rw [q1,zr rfl,if_neg (by decide),zr rfl,if_pos rfl];simp [Dl.t,wdT,qS,zl,gn3,zg,jt,zD,zN,V3,qE,v3,c3,o3,u3,YD,L3.ixT,L3.ixR,zU,iI,iC,iB,zo,zc,JO,tb3,V4,or3,V1,zC,V5,zZ,if3,ch3,cb3,qe,qw,QM,tyT,zY,jv,ZD,YS,np3,sp3,zd,qr,za,zG,Q5,JC,qo,bm3,JK,YQ,jV,YT,YZ,U0,U2,qM,zS,JD,U1,VH,L2.atI,ixN,QY,HT.sIx,getL,in3,zm,eqF,gu,v9,x8,x6];refine ⟨.rests r c b x,i,j,rfl,hd,k,?_⟩;simp;exact ⟨by omega,h _ Ex.refl⟩
 |bits hh l ms=>
  have k:=ok;obtain ⟨k1,k2,k3,k4⟩:=ok;show nx [some (Dl.bits hh l ms).t,some (wdT i j),some (.str "bits")] G;rw [q1,zr rfl,if_neg (by decide),zr rfl,if_neg (by decide),zr rfl,if_pos rfl];simp [Dl.t,wdT,qS,zl,gn3,zg,jt,zD,zN,V3,qE,v3,c3,o3,u3,YD,L3.ixT,L3.ixR,zU,iI,iC,iB,zo,zc,JO,tb3,V4,or3,V1,zC,V5,zZ,if3,ch3,cb3,qe,qw,QM,tyT,zY,jv,ZD,YS,np3,sp3,zd,qr,za,zG,Q5,JC,qo,bm3,JK,YQ,jV,YT,YZ,U0,U2,qM,zS,JD,U1,VH,L2.atI,ixN,QY,HT.sIx,getL,in3,zm,eqF,gu,v9,x8,x6];refine ⟨.bits hh l ms,i,j,rfl,hd,k,?_⟩;refine ⟨ms,_,rfl,by omega,λm hm=>⟨(k4 m hm).1,?_⟩,NX (h:=hh) i1 j1,λG' E=>h G' E⟩;have:=(k4 m hm).2;have:=W9 (n:=hh+l) (k:=10) (by omega);omega
 |table b cells=>
  obtain ⟨k1,k2,k3,k4,c,k5,k6,k7⟩:=ok;have e0:cells[0]?=some cells[0]:=u7 (by omega);have eC:(Dl.table b cells).C=c:=by simp [Dl.C,e0,(k7 cells[0] (za8 _)).1]
  have eR:(Dl.table b cells).R=cells.length:=rfl;rw [eR] at i2;rw [eC] at j2;have hi:i.toNat<cells.length:=by omega
  have hrow:=k7 cells[i.toNat] (za8 hi);have hj:j.toNat<cells[i.toNat].length:=by rw [hrow.1];omega
  show nx [some (Dl.table b cells).t,some (wdT i j),some (.str "table")] G;rw [q1,zr rfl,if_neg (by decide),zr rfl,if_neg (by decide),zr rfl,if_neg (by decide),zr rfl,if_pos rfl];simp [Dl.t,wdT,qS,zl,gn3,zg,jt,zD,zN,V3,qE,v3,c3,o3,u3,YD,L3.ixT,L3.ixR,zU,iI,iC,iB,zo,zc,JO,tb3,V4,or3,V1,zC,V5,zZ,if3,ch3,cb3,qe,qw,QM,tyT,zY,jv,ZD,YS,np3,sp3,zd,qr,za,zG,Q5,JC,qo,bm3,JK,YQ,jV,YT,YZ,U0,U2,qM,zS,JD,U1,VH,QY,HT.sIx,getL,in3,zm,eqF,gu,v9,x8,x6,jj (xs:=[T.str (ze1 "table"),.int b,.tup (cells.map MQ)]) (i:=2) (by omega) (by simp),jj (xs:=[T.str (ze1 "table"),.int b,.tup (cells.map MQ)]) (i:=0) (by omega) (by simp),jj (xs:=[T.int i,.int j]) (i:=0) (by omega) (by simp),jj (xs:=[T.int i,.int j]) (i:=1) (by omega) (by simp)];rw [jj i1 (by simpa using i2)];simp [hi,MQ,L3.ixT];rw [jj j1 (by simp;omega)];simp [hj];have:=h G Ex.refl;simpa [Dl.bank,hi,hj] using this
 |joined d e=>
  show nx [some (Dl.joined d e).t,some (wdT i j),some (.str "joined")] G;rw [q1,zr rfl,if_neg (by decide),zr rfl,if_neg (by decide),zr rfl,if_neg (by decide),zr rfl,if_neg (by decide)];simp [Dl.t,wdT,qS,zl,gn3,zg,jt,zD,zN,V3,qE,v3,c3,o3,u3,YD,L3.ixT,L3.ixR,zU,iI,iC,iB,zo,zc,JO,tb3,V4,or3,V1,zC,V5,zZ,if3,ch3,cb3,qe,qw,QM,tyT,zY,jv,ZD,YS,np3,sp3,zd,qr,za,zG,Q5,JC,qo,bm3,JK,YQ,jV,YT,YZ,U0,U2,qM,zS,JD,U1,VH,L2.atI,ixN,QY,HT.sIx,getL,in3,zm,eqF,gu,v9,x8,x6];exact ⟨d,e,i,j,rfl,hd,ok,I,h⟩
theorem qhS {i a:Int} (h0:0<=i) (h1:i<a*b) (hb:1<=b):0<=i/b/\i/b<a/\0<=i%b/\i%b<b:=
 ⟨xk7 h0 (by omega),xi3 (by omega) h1,zh6 _ (by omega),zg0 _ (by omega)⟩
theorem Inn.up {d e:Dl} {i j:Int} (I:Inn (.joined d e) i j) (Le:Lims e):Inn d (i/e.R) (j/e.C)/\Inn e (i%e.R) (j%e.C):=by
 obtain ⟨i1,i2,j1,j2⟩:=I;obtain ⟨a1,a2,a3,a4⟩:=qhS i1 i2 Le.r1;obtain ⟨b1,b2,b3,b4⟩:=qhS j1 j2 Le.c1;exact ⟨⟨a1,a2,b1,b2⟩,⟨a3,a4,b3,b4⟩⟩
theorem qb9:∀ ts G q,KG ts G q->ts.length=3/\qaa (LA q) (qo ["word","rows","columns","i","j"] ts) G:=by
 rintro ts G q ⟨i,j,r,c,rfl,hr,hc,h⟩;refine ⟨rfl,?_⟩;simp [qaa,wdT,qS,zl,gn3,zg,jt,zD,zN,V3,qE,v3,c3,o3,u3,YD,L3.ixT,L3.ixR,zU,iI,iC,iB,zo,zc,JO,tb3,V4,or3,V1,zC,V5,zZ,if3,ch3,cb3,qe,qw,QM,tyT,zY,jv,ZD,YS,np3,sp3,zd,qr,za,zG,Q5,JC,qo,bm3,JK,YQ,jV,YT,YZ,U0,U2,qM,zS,JD,U1,VH,L2.atI,ixN,QY,HT.sIx,getL,in3,zm,eqF,gu,v9,x8,x6];exact ⟨⟨by omega,by omega⟩,⟨by omega,by omega⟩,by omega,by omega,h⟩
theorem QP (n:Nat):∀ ts G q,VB n ts G q->ts.length=3/\ZI (QZ (n+1)) KG (EH n) (LA q) (qo ["one","other","word","rows","columns","banks","upper","lower"] ts) G:=by
 rintro ts G q ⟨d,e,i,j,rfl,hd,ok,I,h⟩;refine ⟨rfl,?_⟩;obtain ⟨kd,ke,kr,kc,kb⟩:=ok;have Le:=Dl.lims ke;obtain ⟨I1,I2⟩:=I.up Le;have:1<=n:=by simp [Dl.dep] at hd;omega
 obtain ⟨m,rfl⟩:∃ m,n=m+1:=⟨n-1,by omega⟩
 have r1:=Le.r1;have r2:=Le.r2;have c1:=Le.c1;have c2:=Le.c2;have b1:=Le.b1;have b2:=Le.b2;simp [ZI,qS,zl,gn3,zg,jt,zD,zN,V3,qE,v3,c3,o3,u3,YD,L3.ixT,L3.ixR,zU,iI,iC,iB,zo,zc,JO,tb3,V4,or3,V1,zC,V5,zZ,if3,ch3,cb3,qe,qw,QM,tyT,zY,jv,ZD,YS,np3,sp3,zd,qr,za,zG,Q5,JC,qo,bm3,JK,YQ,jV,YT,YZ,U0,U2,qM,zS,JD,U1,VH,L2.atI,ixN,QY,HT.sIx,getL,in3,zm,eqF,gu,v9,x8,x6];refine ⟨e,rfl,by simp [Dl.dep] at hd;omega,ke,?_⟩;simp [WA];refine ⟨i,j,_,_,rfl,⟨by omega,by omega⟩,⟨by omega,by omega⟩,?_⟩;simp;refine ⟨d,_,_,rfl,by simp [Dl.dep] at hd;omega,kd,I1,λG1 E1=>?_⟩;simp;refine ⟨cm (by omega) (by omega),e,_,_,rfl,by simp [Dl.dep] at hd;omega,ke,I2,λG2 E2=>?_⟩;simp;exact h _ (E1.trans E2)
def Lf (G:Gp) (a:Addr) (n:Int):Prop:=∃ o c m,G a=some (.lst [.int o,.int c,.int m])/\0<=o/\0<=m/\m<=n
def Ext (a:Addr) (G G':Gp):Prop:=∀ b o,b≠a->G b=some o->G' b=some o
variable {a p:Addr}
theorem Lf.ne {n:Int} (h:Lf G a n) (hp:G p=none):p≠a:=by
 rintro rfl;obtain ⟨o,c,m,e,_⟩:=h;rw [hp] at e;cases e
theorem Lf.new {n:Int} {ob:O} (h:Lf G a n) (hp:p≠a):Lf (gu G p ob) a n:=by
 obtain ⟨o,c,m,e,r⟩:=h;exact ⟨o,c,m,by rw [QU (Ne.symm hp)];exact e,r⟩
theorem Lf.mono {n k:Int} (h:Lf G a n) (hk:n<=k):Lf G a k:=by
 obtain ⟨o,c,m,e,h1,h2,h3⟩:=h;exact ⟨o,c,m,e,h1,h2,by omega⟩
variable {G':Gp}
theorem Lf.ex {n:Int} (h:Lf G a n) (e:Ex G G'):Lf G' a n:=by
 obtain ⟨o,c,m,e1,h1⟩:=h;exact ⟨o,c,m,e _ _ e1,h1⟩
theorem Ext.refl:Ext a G G:=λ_ _ _ e=>e
theorem Ext.trans {G1 G2:Gp} (x:Ext a G G1) (y:Ext a G1 G2):Ext a G G2:=λb o hb e=>y b o hb (x b o hb e)
theorem XQ {ob:O} (hp:G p=none):Ext a G (gu G p ob):=λb o _ e=>by
 rw [QU (by rintro rfl;rw [hp] at e;cases e)];exact e
theorem DR (h:Ex G G'):Ext a G G':=λb o _ e=>h b o e
def RH:Sp3:=λts G q=>∃ c k,ts=[.int c,.int k]/\0<=k/\k<4294967296/\∀ m,0<=m->m<1999999973->q (.int m) G
def VC:Sp3:=λts G q=>∃ (a:Addr) (k:Int) (ns:List Int),ts=[.ref a,.int k]/\G a=some (.frz (ns.map T.int))/\ns.length<=63/\0<=k/\k<=63/\∀ p o c,G p=none->0<=o->q (.ref p) (gu G p (.lst [.int o,.int c,.int 0]))
def jD:Sp3:=λts G q=>∃ a n many,ts=[.ref a,.int many]/\1<=many/\many<1073741824/\Lf G a n/\n<1073741824/\∀ d G',0<=d->d<many->Lf G' a (n+1)->Ext a G G'->q (.int d) G'
def C0:Sp3:=λts G q=>∃ x y:Int,ts=[.int x,.int y]/\0<=x/\0<=y/\q (.int (xc6 x y:Nat)) G
structure Dr (d:Dl) (r c b:Int):Prop where
 ok:d.Ok
 r2:d.R<=r
 c2:d.C<=c
 b2:d.B<=b
variable {q:Q3}
theorem JS {n many:Int} (hL:Lf G a n) (h1:1<=many) (h2:many<1073741824) (hn:n<1073741824) (h:∀ d G',0<=d->d<many->Lf G' a (n+1)->Ext a G G'->q (.int d) G'):jD [.ref a,.int many] G q:=⟨a,n,many,rfl,h1,h2,hL,hn,h⟩
theorem qaF:∀ ts G q,RH ts G q->ts.length=2/\TJ (LA q) (qo ["_law_cell","_law_k","_law_m"] ts) G:=by
 rintro ts G q ⟨c,k,rfl,h1,h2,h⟩;refine ⟨rfl,?_⟩;simp only [TJ,qS,zl,o3,v3,qo,zg2,zh8,ze8,zf5,zf2,Nat.reduceAdd,Nat.reduceSub,xc7,zm6,zm9,u8,getElem?_pos,x9,c3,iC,Int.reduceLT,Nat.reduceLT,y6,zU,gn3,zg,zh9,zg4,za6,true_and];exact ⟨.inl ⟨by omega,by omega⟩,cm (by omega) (by omega),cm (by omega) (by omega),.inl ⟨by omega,by omega⟩,h _ (zh6 _ (by omega)) (zg0 _ (by omega))⟩
theorem cp:qcK 10 18:=⟨by decide,by decide,by decide⟩
theorem MF:∀ ts G q,VC ts G q->ts.length=2/\CJ (LA q) (qo ["_law_script","_law_k","_law_cell","_law_own"] ts) G:=by
 rintro ts G q ⟨a,k,ns,rfl,hG,hl,h1,h2,h⟩;refine ⟨rfl,?_⟩;simp only [CJ,qS,zl,if3,tb3,o3,v3,qo,zg2,zh8,ze8,zf5,zf2,Nat.reduceAdd,Nat.reduceSub,List.reduceReplicate,zm6,zm9,Nat.reduceLT,getElem?_pos,y6,x9,cb3,qe,u8,qw,jV,getL,hG,iB,zd9,decide_eq_true_eq,gn3,zh9,zg4,YT,c3,iC,Int.reduceToNat,Int.reducePow,zg,ZD,za6,zU,ne_eq,v9,Nat.reduceLeDiff,true_and,gu,ixR,atI,ixN,ze5,Int.lt_irrefl,↓reduceIte,Int.reduceLE,decide_false,ze2,zn2];have ck:j9 1000003 k:=cm (by omega) (by omega);by_cases hk:k<ns.length
 ·have hk':k.toNat<ns.length:=by omega
  simp [hk,h1,hk',cp,ck];split
  ·split
   ·exact λp hp=>h p (-ns[k.toNat]) _ hp (by omega)
   ·exact λp hp=>h p 0 _ hp (by omega)
  ·split
   ·exact λp hp=>h p ns[k.toNat] _ hp (by omega)
   ·exact λp hp=>h p 0 _ hp (by omega)
 ·simp [hk,cp,ck];exact λp hp=>h p 0 _ hp (by omega)
theorem LN:∀ ts G q,jD ts G q->ts.length=2/\CS RH (LA q) (qo ["_law_left_here","_law_many","_law_digit"] ts) G:=by
 rintro ts G q ⟨a,n,many,rfl,m1,m2,⟨o,c,m,hG,ho,hm,hn⟩,h3,h⟩;refine ⟨rfl,?_⟩;unfold CS;refine JB λnx1 q1=>?_;simp only [zl,o3,v3,qo,zg2,zh8,ze8,zf5,zf2,Nat.reduceAdd,Nat.reduceSub,xc7,zm6,zm9,u8,getElem?_pos,x9,c3,zU,ne_eq,v9,zG,Q5,ixN,xh8,↓reduceIte,Int.reduceToNat,tb3,iB,decide_eq_true_eq,Nat.reduceLT,y6,iC,gn3,zh9,zg4,xn4,xg0,xh9,zg,za6,ixR,getL,atI,qE,cb3,qe,qw,xn8,zn9,hG,xc8,Int.reduceLT,ze7,qN];rw [q1];clear q1;refine JB λnx2 q2=>?_;simp only [zD,zl,o3,v3,qo,zg2,zh8,ze8,zf5,zf2,Nat.reduceAdd,Nat.reduceSub,xc7,zm6,zm9,u8,getElem?_pos,x9,c3,zU,ne_eq,v9,zG,Q5,ixN,xh8,↓reduceIte,Int.reduceToNat,tb3,iB,decide_eq_true_eq,Nat.reduceLT,y6,iC,gn3,zh9,zg4,xn4,xg0,xh9,zg,za6,ixR,getL,atI,qE,cb3,qe,qw,xn8,zn9,hG,xc8,Int.reduceLT,ze7,qN];split
 ·simp only [qS,zl,o3,v3,ze8,zf5,zf2,Nat.reduceAdd,u8,getElem?_pos,x9,c3,Nat.reduceLT,y6,iC,gn3,zh9,zg4,zG,Q5,ixN,xn4,↓reduceIte,xg0,xh9,zg,za6,ixR,getL,atI,qN,xc8,Int.reduceLT,ze7];refine ⟨by omega,⟨by omega,m2⟩,h _ _ (zh6 _ (by omega)) (zg0 _ (by omega)) ⟨o/many,c,m+1,qN,xk7 ho (by omega),by omega,by omega⟩ λb ob hb e=>?_⟩;rw [QU hb,QU hb];exact e
 ·rw [q2];clear q2;simp only [zl,o3,v3,qo,zg2,zh8,ze8,zf5,zf2,Nat.reduceAdd,Nat.reduceSub,xc7,zm6,zm9,u8,getElem?_pos,x9,c3,zU,ne_eq,v9,zG,Q5,ixN,xh8,↓reduceIte,Int.reduceToNat,tb3,iB,decide_eq_true_eq,Nat.reduceLT,y6,iC,gn3,zh9,zg4,xn4,xg0,xh9,zg,za6,ixR,getL,atI,qE,cb3,qe,qw,xn8,zn9,hG,xc8,Int.reduceLT,ze7,qN];refine ⟨c,m+1,rfl,by omega,by omega,λu u1 u2=>?_⟩;simp only [zl,o3,v3,qo,zg2,zh8,ze8,zf5,zf2,Nat.reduceAdd,Nat.reduceSub,xc7,zm6,zm9,u8,getElem?_pos,x9,c3,zU,ne_eq,v9,zG,Q5,ixN,xh8,↓reduceIte,Int.reduceToNat,tb3,iB,decide_eq_true_eq,Nat.reduceLT,y6,iC,gn3,zh9,zg4,xn4,xg0,xh9,zg,za6,ixR,getL,atI,qE,cb3,qe,qw,xn8,zn9,hG,xc8,Int.reduceLT,ze7,qN];refine ⟨u,m+1+64,rfl,by omega,by omega,λv v1 v2=>?_⟩;refine ⟨⟨by omega,by omega⟩,by omega,h _ _ (zh6 _ (by omega)) (zg0 _ (by omega)) ⟨o,c,m+1,qN,ho,by omega,by omega⟩ λb ob hb e=>?_⟩;rw [QU hb];exact e
theorem qex {x y:Int} (hy:0<y):xc6 y (x%y)=xc6 x y:=by
 rw [Int.emod_def,Int.gcd_comm x y];simp
theorem qax:∀ ts G q,C0 ts G q->ts.length=2/\KW (LA q) (qo ["_law_one","_law_other"] ts) G:=by
 rintro ts G q ⟨x,y,rfl,hx,hy,h⟩;refine ⟨rfl,?_⟩;simp only [KW,qS,CL,qo,zg2,zh8,ze8,zf5,zf2,Nat.reduceAdd,xm4,xe9,zh0,tb3,o3,v3,c3,iB,decide_eq_true_eq,JC,qe,iC,qw,zg];refine ⟨λn τ G'=>G'=G/\∃ u v:Int,τ=[some (.int u),some (.int v)]/\n=v.toNat/\0<=u/\0<=v/\xc6 u v=xc6 x y,⟨_,rfl,x,y,rfl,rfl,hx,hy,rfl⟩,?_⟩;rintro n τ G' ⟨eG,u,v,rfl,rfl,hu,hv,e⟩;simp;by_cases h0:0<v
 ·simp [h0];refine ⟨λτ' G'=>G'=G/\∃ x' y':Int,τ'=[some (.int x'),some (.int y')]/\y'.toNat<v.toNat/\0<=x'/\0<=y'/\xc6 x' y'=xc6 x y,λτ' G' ⟨e1,x',y',e2,e3,e4,e5,e6⟩=>⟨y'.toNat,by omega,e1,x',y',e2,rfl,e4,e5,e6⟩,eG,v,u%v,rfl,?_,hv,zh6 _ (by omega),by rw [qex h0,e]⟩;have:=zg0 u h0;omega
 ·have:v=0:=by omega
  subst this;simp at e;simp [eG];have:u=(xc6 x y:Nat):=by omega
  rw [this];exact h
theorem cop {p:Int} (hb:1<=b):∃ k:Nat,(k:Int)<b/\xc6 b (p+k)=1:=by
 refine ⟨((1-p)%b).toNat,?_,?_⟩
 ·have:=zh6 (1-p) (show b≠0 by omega);have:=zg0 (1-p) (show 0<b by omega);omega
 ·have h1:=zh6 (1-p) (show b≠0 by omega);have h2:=Int.emod_add_mul_ediv (1-p) b;have e:p+(((1-p)%b).toNat:Int)=1+b*(-((1-p)/b)):=by
   rw [xm0 h1,Int.mul_neg];omega
  rw [e];simp
structure Plc (b p0 pl:Int) (i:Nat):Prop where
 lo:p0<=pl
 hi:pl<=p0+i
 at_:xc6 b pl=1\/(pl=p0+i/\∀ k:Nat,k<i->xc6 b (p0+k)≠1)
variable {p0 pl:Int}
theorem Plc.done (h:Plc b p0 pl n) (hb:1<=b) (hn:b<=n):xc6 b pl=1:=by
 rcases h.at_ with h|⟨_,h⟩
 ·exact h
 ·obtain ⟨k,h1,h2⟩:=cop (p:=p0) hb;exact absurd h2 (h k (by omega))
theorem Plc.next (h:Plc b p0 pl i) (hb:1<=b) (hp:1<=p0) (hg:(1:Int)<(xc6 b pl:Nat)):Plc b p0 (pl+1) (i+1):=by
 rcases h.at_ with z|⟨z1,z2⟩
 ·rw [z] at hg;simp at hg
 ·refine ⟨by have:=h.lo;omega,by omega,.inr ⟨by omega,λk hk=>?_⟩⟩;rcases zk8 k i with q|q
  ·exact z2 k q
  ·have:k=i:=by omega
   subst this;rw [← z1];omega
theorem Plc.stay (h:Plc b p0 pl i) (hb:1<=b) (hp:1<=p0) (hg:¬ (1:Int)<(xc6 b pl:Nat)):Plc b p0 pl (i+1):=by
 have g0:0<xc6 b pl:=Int.gcd_pos_of_ne_zero_left _ (by omega);exact ⟨h.lo,by have:=h.hi;omega,.inl (by omega)⟩
variable {c:Int}
theorem qoX {r:Int} (hr:1<=r) (hc:1<=c) (hb:1<=b):1<=-(-r*c/b)/\r*c<=b*-(-r*c/b)/\-(-r*c/b)<=r*c:=by
 have h1:=YE hr hc;have e:-r*c=-(r*c):=Int.neg_mul ..;rw [e];have h2:=Int.ediv_neg_of_neg_of_pos (a:=-(r*c)) (b:=b) (by omega) (by omega);have h3:=Int.mul_ediv_self_le (x:=-(r*c)) (k:=b) (by omega);have h4:-(r*c)<=-(r*c)/b:=by
  have:=Int.le_ediv_of_mul_le (a:=-(r*c)) (b:=-(r*c)) (c:=b) (by omega) (by
   have:=xc2 hb (show (0:Int)<=r*c by omega);rw [Int.neg_mul];omega)
  exact this
 rw [Int.mul_neg];omega
def WB:Nat->PyData->Prop
 |_,.none=>True
 |_,.bool _=>True
 |_,.int _=>True
 |_,.str _=>True
 |n+1,.list ds=>ds.length<=1000000/\∀ d∈ds,WB n d
 |n+1,.tuple ds=>ds.length<=1000000/\∀ d∈ds,WB n d
 |_,_=>False
def ZO:Nat->Sp3
 |0=>DE
 |n+1=>λts G q=>∃ (x y:T) (d:PyData),ts=[x,y]/\Dp G x d/\Dp G y d/\WB n d/\∀ G',Ex G G'->q (.bl true) G'
variable {x:T}
theorem N9 (e:Ex G G') {us:List T} (h:zV G x=some us):zV G' x=some us:=by
 cases x<;>simp [zV] at h ⊢
 ·exact h
 ·exact e.getL h
theorem qeq (n:Nat):qhK (zn4 n (.bl true))=some true:=by
 induction n with
 |zero=>rfl
 |succ n ih=>rw [List.replicate_succ];simp [qhK,ih]
variable {ds:List PyData}
theorem M5 {y:T} {us vs:List T} (hx:zV G x=some us) (hy:zV G y=some vs) (du:Dps G us ds) (dv:Dps G vs ds) (hl:us.length<=1000000) (hd:∀ d∈ds,∃ m,n=m+1/\WB m d) (h:∀ G',Ex G G'->q (.bl true) G') :
  RE (λG=>zV G x=some us/\zV G y=some vs) (zd 2 (qr (gn3 0) (qr (gn3 1) za))) tt3 (cb3 (ZO n) (qe (v3 0) (qe (v3 1) qw))) (λx G1=>JD [x] G1 q) (qb7 us vs) [] [none,none] G:=by
 have e1:=du.length;have e2:=dv.length;refine UL _ (λi ys τ G'=>Ex G G'/\ys=zn4 i (.bl true)/\∃ x0 x1,τ=[x0,x1]) ⟨Ex.refl,rfl,none,none,rfl⟩ (λi ys τ G' _ hp=>⟨N9 hp.1 hx,N9 hp.1 hy⟩) ?_ ?_
 ·rintro i z ys τ G' R hz ⟨E,rfl,x0,x1,rfl⟩ hR;obtain ⟨a,b,ha,hb,rfl⟩:=SC hz;obtain ⟨d,hd1,da⟩:=du.get ha;obtain ⟨d',hd2,db⟩:=dv.get hb;rw [hd1] at hd2;cases hd2;obtain ⟨m,rfl,dl⟩:=hd d (za3 hd1);have hi:=(zb6 ha).1;simp only [zd,ze8,zf5,zf2,Nat.reduceAdd,qr,gn3,za,tt3,↓reduceIte,cb3,qe,v3,zg4,zh9,u8,getElem?_pos,x9,za6,y6,qw,List.length_replicate,v9,true_and];refine ⟨a,b,d,rfl,da.up E,db.up E,dl,λG2 E2=>⟨by omega,hR _ _ _ ⟨E.trans E2,?_,_,_,rfl⟩⟩⟩;rw [List.replicate_succ']
 ·rintro ys τ G' ⟨E,rfl,x0,x1,rfl⟩ p hp;simp [JD,getL,qN,qeq];exact h _ (E.trans (ja hp))
theorem qdQ (h:WB n (.list ds)):ds.length<=1000000/\∀ d∈ds,∃ m,n=m+1/\WB m d:=by
 cases n with
 |zero=>exact h.elim
 |succ n=>exact ⟨h.1,λd hd=>⟨n,rfl,h.2 d hd⟩⟩
theorem qc0 (h:WB n (.tuple ds)):ds.length<=1000000/\∀ d∈ds,∃ m,n=m+1/\WB m d:=by
 cases n with
 |zero=>exact h.elim
 |succ n=>exact ⟨h.1,λd hd=>⟨n,rfl,h.2 d hd⟩⟩
theorem qmL (h:zc x x=some true) (k:q (.bl true) G):zo false x x G q:=by
 unfold zo;rw [h];exact k
theorem qcd {ta tb:TE3} {e:Ends3} (h:∀ q',q' x G->ta τ G q') (k:x=.bl true) (h2:tb τ G e.rt):zg (zC ta tb) e τ G:=h _ (by subst k;exact h2)
theorem qrd {ta tb:TE3} (ha:∀ q',q' x G->ta τ G q') (hb:∀ q',q' x G->tb τ G q') (h:zc x x=some true):∀ q',q' (.bl true) G->o3 (zo false) ta tb τ G q':=λq' k=>ha _ (hb _ (qmL h k))
theorem qal {c:TT3} {a b:TS3} {e:Ends3} (h:∀ A,A=a->zD c A b e τ G):zD c a b e τ G:=h _ rfl
theorem Z1 (n:Nat):∀ ts G q,ZO (n+1) ts G q->ts.length=2/\CK (ZO n) (LA q) (qo ["_law_found","_law_due"] ts) G:=by
 rintro ts G q ⟨x,y,d,rfl,hx,hy,hd,h⟩;refine ⟨rfl,?_⟩;have h0:=h G Ex.refl;cases hx with
 |non=>cases hy;exact h0
 |bl b=>cases hy;cases b<;>exact h0
 |int i=>cases hy;exact qmL (x:=.int i) (by simp [zc]) h0
 |str s=>
  cases hy;refine JB λnx1 q1=>?_;refine qal λA1 hA=>?_;clear hA;show nx1 _ _;rw [q1];clear q1;refine JB λnx2 q2=>?_;refine qal λA2 hA=>?_;show A2 _ _ _;rw [hA];exact qcd (qrd (x:=.str s) (λ_ k=>k) (λ_ k=>k) (by simp [zc])) rfl h0
 |tup dx=>
  cases hy with
  |tup dy=>
   rename_i xs ds ys;have e1:=dx.length;have e2:=dy.length;obtain ⟨l1,l2⟩:=qc0 hd;have key:=M5 (n:=n) (x:=.tup xs) (y:=.tup ys) (us:=xs) (vs:=ys) (q:=q) rfl rfl dx dy (by omega) l2 h;have e3:xs.length=ys.length:=by omega
   refine JB λnx1 q1=>?_;clear q1;refine qal λA1 hA=>?_;show A1 _ _ _;rw [hA];clear hA;refine JB λnx2 q2=>?_;refine qal λA2 hA=>?_;show nx2 _ _;rw [q2];clear q2;exact qcd (qrd (x:=.int ys.length) (λ_ k=>by rw [← e3] at k;exact k) (λ_ k=>k) (by simp [zc])) rfl key
 |lst gx dx=>
  cases hy with
  |lst gy dy=>
   rename_i p1 xs ds p2 ys;have e1:=dx.length;have e2:=dy.length;obtain ⟨l1,l2⟩:=qdQ hd;have key:=M5 (n:=n) (x:=.ref p1) (y:=.ref p2) (us:=xs) (vs:=ys) (q:=q) gx gy dx dy (by omega) l2 h;have e3:xs.length=ys.length:=by omega
   refine JB λnx1 q1=>?_;clear q1;refine qal λA1 hA=>?_;simp only [zD,tb3,QM,v3,qo,zg2,zh8,ze8,zf5,zf2,Nat.reduceAdd,xm4,xe9,zh0,za6,getElem?_pos,y6,x9,tyT,gx,gy,xg4,↓reduceIte,zY,BEq.rfl,String.reduceBEq,xn7,Bool.or_false,Bool.or_self,or3,o3,u8,zo,zc,decide_true,zg1,ze2,qE];rw [hA];clear hA;refine JB λnx2 q2=>?_;refine qal λA2 hA=>?_;clear hA;simp only [zD,tb3,QM,v3,qo,zg2,zh8,ze8,zf5,zf2,Nat.reduceAdd,xm4,xe9,zh0,za6,getElem?_pos,y6,x9,tyT,gx,gy,xg4,↓reduceIte,zY,BEq.rfl,String.reduceBEq,xn7,Bool.or_false,Bool.or_self,or3,o3,u8,zo,zc,decide_true,zg1,ze2,qE];rw [q2];clear q2;simp only [zV,JD,qo,zg2,zh8,ze8,zf5,zf2,Nat.reduceAdd,xm4,xe9,zh0,za6,getElem?_pos,y6,x9,gy,↓reduceIte,o3,v3,u8,gx,zo,zc,decide_true,ze2,zg,zC,cb3,qe,qw,jV,e3,lc3,qbH,cap] at key ⊢;exact key
def ZY:Nat->Sp3
 |0=>DE
 |n+1=>λts G q=>∃ d:Dl,ts=[d.t]/\d.dep<=n/\d.Ok/\∀ G',Ex G G'->q (WA d) G'
theorem qdC:∀ {d:Nat},d<=8->L2.atI [T.int 1,.int 2,.int 4,.int 8,.int 16,.int 32,.int 64,.int 128,.int 256] (d:Int)=some (.int (2 ^ d))
 |0,_=>rfl
 |1,_=>rfl
 |2,_=>rfl
 |3,_=>rfl
 |4,_=>rfl
 |5,_=>rfl
 |6,_=>rfl
 |7,_=>rfl
 |8,_=>rfl
 |k+9,h=>absurd h (Nat.not_le.mpr (za2 (zp7 _) (Nat.le_add_left _ _)))
theorem MR:∀ {d:Nat},d<=4->L2.atI [T.int 1,.int 2,.int 4,.int 8,.int 16] (d:Int)=some (.int (2 ^ d))
 |0,_=>rfl
 |1,_=>rfl
 |2,_=>rfl
 |3,_=>rfl
 |4,_=>rfl
 |k+5,h=>absurd h (Nat.not_le.mpr (za2 (zp7 _) (Nat.le_add_left _ _)))
variable {α:Type} {xs:List α}
theorem qbI {x:α} :L2.atI (x::xs) 0=some x:=by simp [L2.atI,ixN]
theorem qes {x y:α} :L2.atI (x::y::xs) 1=some y:=by
 rw [jj (by omega) (by simp;omega)];rfl
theorem qc3 {x y z:α} :L2.atI (x::y::z::xs) 2=some z:=by
 rw [jj (by omega) (by simp;omega)];rfl
theorem qlR {x y z w:α} :L2.atI (x::y::z::w::xs) 3=some w:=by
 rw [jj (by omega) (by simp;omega)];rfl
theorem zx {s l:Str} {xs:List T} {R S:TS3} (hτ:τ[0]?=some (some (T.tup (.str s::xs)))):qS (zD (tb3 (o3 (zo false) (o3 ix3 (v3 0) (c3 (.int 0))) (c3 (.str l)))) R qE) S d τ G=(if s=l then R { d with nx:=S d } τ G else S d τ G):=by
 simp only [qS,zD,tb3,o3,v3,hτ,c3,L3.ixT,qbI,zo,zc,qE];by_cases e:s=l<;>simp [e]
theorem N4 {te:TE3} {q:Q3} {a:Addr} {n many:Int} {jz:St3} {items:List T} {x0:Option T} {G:Gp} (hte:∀ x0 G3 (Q:T->Gp->Prop),jD [.ref a,.int many] G3 Q->te (x0::jz) G3 Q) (hL:Lf G a n) (m1:1<=many) (m2:many<1073741824) (hl:items.length<=1000) (hn:n<1000000000)
  (h:∀ (ds:List Int) G' p,ds.length=items.length->(∀ d∈ds,0<=d/\d<many)->Lf G' a (n+items.length)->Ext a G G'->G' p=none->q (.ref p) (gu G' p (.lst (ds.map T.int)))) :
  RE (λ_=>True) (gn3 0) tt3 te q items [] (x0::jz) G:=by
 refine UL _ (λi ys τ G'=>∃ (ds:List Int) (x0:Option T),τ=x0::jz/\ys=ds.map T.int/\ds.length=i/\(∀ d∈ds,0<=d/\d<many)/\Lf G' a (n+i)/\Ext a G G') ⟨[],x0,rfl,rfl,rfl,by simp,by simpa using hL,Ext.refl⟩ (λ_ _ _ _ _ _=>True.intro) ?_ ?_
 ·rintro i z ys τ G' R hz ⟨ds,x0,rfl,rfl,e,hd,hL',E⟩ hR;have hi:=(zb6 hz).1;simp only [gn3,tt3,zg4,if_true];refine hte _ _ _ (JS hL' m1 m2 (by omega) λd G2 d1 d2 L2 E2=>⟨by simp [v9];omega,hR _ _ _ ⟨ds++[d],_,rfl,by simp,by simp [e],λx hx=>?_,L2.mono (by omega),E.trans E2⟩⟩);rcases zk7.mp hx with hx|hx
  ·exact hd x hx
  ·simp at hx;subst hx;exact ⟨d1,d2⟩
 ·rintro ys τ G' ⟨ds,x0,rfl,rfl,e,hd,hL',E⟩ p hp;exact h ds G' p e hd hL' E hp
theorem qeC {wide:Int} {ds:List Int} {x0:Option T} (hw:0<wide) (hl:ds.length<=1000) (hG:getL G p=some (ds.map T.int)) (h:∀ p2,G p2=none->q (.ref p2) (gu G p2 (.lst ((ds.map (·%wide)).map T.int)))) :
  RE (λG=>getL G p=some (ds.map T.int)) (gn3 0) tt3 (o3 (iC (λ_ j=>0<j) (·%·)) (v3 0) (v3 1)) q (ds.map T.int) [] [x0,some (.int wide)] G:=by
 refine NA (λt=>match t with|.int m=>T.int (m%wide)|t=>t) (λτ=>∃ x0,τ=[x0,some (.int wide)]) hG _ _ _ ⟨_,rfl⟩ ?_ (by simp [v9];omega) λp2 hp2=>?_
 ·rintro z hz τ ⟨x0,rfl⟩ R hR;rw [zf4] at hz;obtain ⟨m,_,rfl⟩:=hz;simp [gn3,o3,v3,iC];exact ⟨hw,hR _ ⟨_,rfl⟩⟩
 ·have:=h p2 hp2;simpa [zg8,ze6] using this
structure Cells (cells:List (List Int)) (r c b:Int):Prop where
 r:(cells.length:Int)=r
 c:∀ row∈cells,(row.length:Int)=c/\∀ x∈row,0<=x/\x<b
theorem qey {q:Q3} {a:Addr} {n r c b:Int} {x0:Option T} {G:Gp} (hL:Lf G a n) (hn:n<100000000) (r1:1<=r) (r2:r<=16) (c1:1<=c) (c2:c<=16) (b1:1<=b) (b2:b<=1000)
  (h:∀ cells G' p,Cells cells r c b->Lf G' a (n+256)->Ext a G G'->G' p=none->q (.ref p) (gu G' p (.lst (cells.map MQ)))) :
  RE (λ_=>True) (gn3 0) tt3 (cb3 qM (qe (lc3 (QW (qe (v3 3) qw)) (gn3 0) tt3 (cb3 jD (qe (v3 1) (qe (v3 2) qw))) [none,some 1,some 2]) qw)) q (N7 0 r.toNat) [] [x0,some (.ref a),some (.int b),some (.int c)] G:=by
 refine UL _ (λi ys τ G'=>∃ (cells:List (List Int)) (x0:Option T),τ=[x0,some (.ref a),some (.int b),some (.int c)]/\ys=cells.map MQ/\Cells cells i c b/\Lf G' a (n+16*i)/\Ext a G G') ⟨[],x0,rfl,rfl,⟨rfl,by simp⟩,by simpa using hL,Ext.refl⟩ (λ_ _ _ _ _ _=>True.intro) ?_ ?_
 ·rintro i z ys τ G' R hz ⟨cells,x0,rfl,rfl,C,hL',E⟩ hR;obtain ⟨hi,rfl⟩:=MJ hz;have hc:=C.r;simp only [gn3,tt3,↓reduceIte,cb3,qe,lc3,QW,v3,zn2,zg4,ze8,zf5,zf2,Nat.reduceAdd,za6,getElem?_pos,y6,x9,qw,Int.reducePow,Int.reduceNeg,qM,zd9,v9,getL,cap,zg2,Nat.reduceLT,Option.join_some,zh8];refine ⟨⟨by omega,by omega⟩,N4 (many:=b) (λx0 G3 Q hq=>by simpa [cb3,qe,v3,c3,qw] using hq) hL' (by omega) (by omega) (by rw [VQ];omega) (by omega) λds G4 p e1 e2 L4 E4 hp=>?_⟩;rw [VQ] at e1 L4;simp only [qN];refine ⟨by omega,hR _ _ _ ⟨cells++[ds],_,rfl,by simp [MQ],⟨by simp;omega,λrow hrow=>?_⟩,((L4.new (L4.ne hp)).mono (by omega)),(E.trans E4).trans (XQ hp)⟩⟩;rcases zk7.mp hrow with hr|hr
  ·exact C.c row hr
  ·simp at hr;subst hr;exact ⟨by omega,e2⟩
 ·rintro ys τ G' ⟨cells,x0,rfl,rfl,C,hL',E⟩ p hp;rw [VQ] at C hL';exact h cells G' p ⟨by have:=C.r;omega,C.c⟩ (hL'.mono (by omega)) E hp
theorem Cells.ok {cells:List (List Int)} {r c b:Int} (C:Cells cells r c b) (r1:1<=r) (r2:r<=60) (c1:1<=c) (c2:c<=60) (b1:1<=b) (b2:b<=1000):(Dl.table b cells).Ok/\(Dl.table b cells).R=r/\(Dl.table b cells).C=c:=by
 have hl:=C.r;have ok:(Dl.table b cells).Ok:=⟨b1,b2,by omega,by omega,c.toNat,by omega,by omega,λrow hr=>⟨by have:=(C.c row hr).1;omega,(C.c row hr).2⟩⟩
 have e0:cells[0]?=some cells[0]:=u7 (by omega);exact ⟨ok,hl,by simp [Dl.C,e0];exact (C.c cells[0] (za8 _)).1⟩
def DX:Sp3:=λts G q=>∃ a n,ts=[.ref a]/\Lf G a n/\n<10000000/\∀ (d:Dl) G',Dr d 4 4 5->d.dep=0->Lf G' a (n+300)->Ext a G G'->q d.t G'
theorem T6:∀ ts G q,DX ts G q->ts.length=1/\WS jD C0 (LA q) (qo ["_law_left_here","_law_rows","_law_columns","_law_banks","_law_way","_law_high","_law_low","_law_masks","_law_wide","_law_places","_law_turn","_law_cells"] ts) G:=by
 rintro ts G q ⟨a,n,rfl,hL,hn,h⟩;refine ⟨rfl,?_⟩;unfold WS;refine JB λnx1 q1=>?_;simp only [zl,jv,qe,o3,c3,cb3,v3,qo,zg2,zh8,ze8,zf5,zf2,Nat.reduceAdd,Nat.add_one_sub_one,List.reduceReplicate,zm6,zm9,u8,getElem?_pos,x9,qw,zU,ne_eq,v9,Nat.reduceLeDiff,zd,qr,gn3,za,zh9,zg4,true_and];refine JS hL (by first|decide|omega) (by first|decide|omega) (by omega) λr G1 r1 r2 L1 E1=>?_
 try simp
 refine JS L1 (by first|decide|omega) (by first|decide|omega) (by omega) λc G2 c1 c2 L2' E2=>?_
 try simp
 refine JS L2' (by first|decide|omega) (by first|decide|omega) (by omega) λb G3 b1 b2 L3' E3=>?_
 try simp
 rw [q1];refine JB λnx2 q2=>?_;simp only [zl,cb3,qe,v3,ze8,zf5,zf2,Nat.reduceAdd,u8,getElem?_pos,x9,c3,qw,gn3,zh9,zg4];refine JS L3' (by first|decide|omega) (by first|decide|omega) (by omega) λway G4 w1 w2 L4 E4=>?_;have EE:=(E1.trans E2).trans (E3.trans E4);rw [q2];refine JB λnx3 q3=>?_;by_cases k0:way=0
 ·subst k0;simp only [zD,tb3,o3,v3,ze8,zf5,zf2,Nat.reduceAdd,Nat.reduceLT,getElem?_pos,y6,x9,c3,zo,zc,decide_true,ze2,↓reduceIte,zg,jv,qe,cb3,u8,qw,v9,Nat.reduceLeDiff,true_and];refine JS L4 (by first|decide|omega) (by first|decide|omega) (by omega) λx G5 x1 x2 L5 E5=>?_
  try simp
  refine JS L5 (by first|decide|omega) (by first|decide|omega) (by omega) λy G6 y1 y2 L6 E6=>?_
  try simp
  exact h (.skew (1+r) (1+c) (1+b) x y) G6 ⟨⟨by omega,by omega,by omega,by omega,by omega,by omega,by omega,by omega,by omega,by omega⟩,by show 1+r<=4;omega,by show 1+c<=4;omega,by show 1+b<=5;omega⟩ rfl (L6.mono (by omega)) (EE.trans (E5.trans E6))
 simp only [zD,tb3,o3,v3,c3,zo,zc,x8,x6,k0,decide_false,ze2,if_false,qE];rw [q3];refine JB λnx4 q4=>?_;by_cases k1:way=1
 ·subst k1;simp only [zD,tb3,o3,v3,ze8,zf5,zf2,Nat.reduceAdd,Nat.reduceLT,getElem?_pos,y6,x9,c3,zo,zc,decide_true,ze2,↓reduceIte,qS,JC,qe,cb3,u8,qw,zl,zh9,zg4,gn3,ZD,v9,Nat.reduceLeDiff,zU,ne_eq,zg,jv,qM,true_and,getL,gu,ixR];refine JS L4 (by first|decide|omega) (by first|decide|omega) (by omega) λhi G5 h1 h2 L5 E5=>?_
  try simp
  refine JS L5 (by first|decide|omega) (by first|decide|omega) (by omega) λlo G6 l1 l2 L6 E6=>?_;simp only [lc3,QW,qe,cb3,v3,ze8,zf5,zf2,Nat.reduceAdd,u8,getElem?_pos,x9,c3,qw,Int.reducePow,Int.reduceNeg,cap,zg2,Nat.reduceLT,y6,Option.join_some,zh8];refine JS L6 (by first|decide|omega) (by first|decide|omega) (by omega) λk G7 k1 k2 L7 E7=>?_;refine ⟨⟨by omega,by omega⟩,N4 (many:=16) (λx0 G3 Q hq=>by simpa [cb3,qe,v3,c3,qw] using hq) L7 (by omega) (by omega) (by rw [VQ];omega) (by omega) λds G8 p e1 e2 L8 E8 hp=>?_⟩;rw [VQ] at e1 L8;obtain ⟨H,rfl⟩:=zf3 h1;obtain ⟨W,rfl⟩:=zf3 l1;have hpa:=L8.ne hp
  try simp
  intro p2 hp2;have pp:p≠p2:=by rintro rfl;rw [qN] at hp2;cases hp2
  have e3:((H:Int)+(W:Int))=((H+W:Nat):Int):=by omega
  have w1:=DG (H+W);have hG:∀ B,getL (gu (gu G8 p (.lst (ds.map T.int))) p2 B) p=some (ds.map T.int):=λB=>by simp only [getL,QU pp,qN]
  rw [e3,MR (d:=H+W) (by omega)];simp only [qdR,v3,x8,x6,hG];refine qeC (by omega) (by omega) (hG _) λp3 hp3=>?_;simp only [qN];have bl:(Dl.bits H W (ds.map (·%2 ^ (H+W)))).Ok:=⟨by omega,by omega,by simp;omega,λm hm=>by
   rw [zf4] at hm;obtain ⟨x,_,rfl⟩:=hm;exact ⟨zh6 _ (by omega),zg0 _ (by omega)⟩⟩
  have q1:=W9 (n:=H) (k:=2) (by omega);have q2:=W9 (n:=W) (k:=2) (by omega);have q3:=W9 (n:=ds.length) (k:=2) (by omega);exact h (.bits H W _) _ ⟨bl,by show (2:Int) ^ H<=4;omega,by show (2:Int) ^ W<=4;omega,by simp [Dl.B];omega⟩ rfl ((((L8.new hpa).new ((L8.new hpa).ne hp2)).new (((L8.new hpa).new ((L8.new hpa).ne hp2)).ne hp3)).mono (by omega)) (EE.trans (((E5.trans E6).trans (E7.trans E8)).trans (((XQ hp).trans (XQ hp2)).trans (XQ hp3))))
 simp only [zD,tb3,o3,v3,c3,zo,zc,x8,x6,k1,decide_false,ze2,if_false,qE];rw [q4];refine JB λnx5 q5=>?_;by_cases k2:way=2
 ·subst k2;simp only [zD,tb3,o3,v3,ze8,zf5,zf2,Nat.reduceAdd,Nat.reduceLT,getElem?_pos,y6,x9,c3,zo,zc,decide_true,ze2,↓reduceIte,qS,zl,u3,YD,iC,cb3,qe,u8,qw,zU,ne_eq,v9,gn3,zh9,zg4];refine ⟨cm (by omega) (by omega),⟨by omega,by omega⟩,JS L4 (by first|decide|omega) (by first|decide|omega) (by omega) λe G5 e1 e2 L5 E5=>?_⟩;obtain ⟨u1,u2,u3⟩:=qoX (show 1<=1+r by omega) (show 1<=1+c by omega) (show 1<=1+b by omega);have rc:(1+r)*(1+c)<=4*4:=xe2 (by omega) (by omega) (by omega) (by omega);simp only [qcY,QW,qe,c3,qw,Int.reducePow,Int.reduceNeg,Int.neg_ofNat_le_ofNat,Int.reduceLT,and_self,Int.reduceToNat,true_and];obtain ⟨p0,hp0⟩:∃ p0,p0=-(-(1+r)*(1+c)/(1+b))+e:=⟨_,rfl⟩
  refine XU _ (λi τ G'=>G'=G5/\∃ (pl:Int) (x:Option T),τ=[some (.ref a),some (.int (1+r)),some (.int (1+c)),some (.int (1+b)),some (.int 2),none,none,none,none,some (.int pl),x,none]/\Plc (1+b) p0 pl i) ⟨rfl,_,none,by rw [← hp0],⟨by omega,by omega,.inr ⟨by omega,by omega⟩⟩⟩ (λ_ _ _ _ _=>True.intro) ?_ ?_
  ·rintro i x τ G' nx hx ⟨rfl,pl,y,rfl,P⟩ hn;simp only [gn3,zD,tb3,o3,cb3,qe,v3,zh9,zg4,ze8,zf5,zf2,Nat.reduceAdd,Nat.reduceLT,getElem?_pos,y6,x9,qw,c3,iB,decide_eq_true_eq,zl,zU,qE];refine ⟨1+b,pl,rfl,by omega,by have:=P.lo;omega,?_⟩;simp;split
   ·exact hn _ _ ⟨rfl,_,_,rfl,P.next (by omega) (by omega) (by omega)⟩
   ·exact hn _ _ ⟨rfl,_,_,rfl,P.stay (by omega) (by omega) (by omega)⟩
  ·rintro τ G' ⟨rfl,pl,x,rfl,P⟩;simp only [zg,jv,qe,c3,v3,ze8,zf5,zf2,Nat.reduceAdd,Nat.reduceLT,getElem?_pos,y6,x9,qw,v9,Nat.reduceLeDiff,true_and];rw [VQ] at P;have lo:=P.lo;have hi:=P.hi;have m1:(1+b)*-(-(1+r)*(1+c)/(1+b))<=(1+b)*pl:=xc2 (by omega) (by omega);exact h (.rests (1+r) (1+c) (1+b) pl) G' ⟨⟨by omega,by omega,by omega,by omega,by omega,by omega,by omega,by omega,P.done (by omega) (by omega),by omega⟩,by show 1+r<=4;omega,by show 1+c<=4;omega,by show 1+b<=5;omega⟩ rfl (L5.mono (by omega)) (EE.trans E5)
 ·simp only [zD,tb3,o3,v3,c3,zo,zc,x8,x6,k2,decide_false,ze2,if_false,qE];rw [q5];simp only [qS,zl,lc3,QW,qe,v3,ze8,zf5,zf2,Nat.reduceAdd,Nat.reduceLT,getElem?_pos,y6,x9,qw,Int.reducePow,Int.reduceNeg,gn3,zg,jv,c3,zh9,zg4,cb3,za6,qM,v9,Nat.reduceLeDiff,true_and,getL,cap,zg2,u8,Option.join_some,zh8];refine ⟨⟨by omega,by omega⟩,qey L4 (by omega) (by omega) (by omega) (by omega) (by omega) (by omega) (by omega) λcells G5 p C L5 E5 hp=>?_⟩;obtain ⟨ok,eR,eC⟩:=C.ok (by omega) (by omega) (by omega) (by omega) (by omega) (by omega);simp only [qN];exact h (.table (1+b) cells) _ ⟨ok,by omega,by omega,by show 1+b<=5;omega⟩ rfl ((L5.new (L5.ne hp)).mono (by omega)) (EE.trans (E5.trans (XQ hp)))
theorem LU {a x y:Int} (h0:1<=a) (h1:a<=x) (h2:1<=b) (h3:b<=y):a*b<=x*y:=xe2 h1 h3 (by omega) (by omega)
theorem Dr.join {d e:Dl} {r r' c' b':Int} (D:Dr d r c b) (E:Dr e r' c' b') (h1:r*r'<=4096) (h2:c*c'<=4096) (h3:b*b'<=4096):Dr (.joined d e) (r*r') (c*c') (b*b'):=by
 have Ld:=Dl.lims D.ok;have Le:=Dl.lims E.ok;have a1:=LU Ld.r1 D.r2 Le.r1 E.r2;have a2:=LU Ld.c1 D.c2 Le.c1 E.c2;have a3:=LU Ld.b1 D.b2 Le.b1 E.b2;exact ⟨⟨D.ok,E.ok,by omega,by omega,by omega⟩,a1,a2,a3⟩
theorem qaS:∀ (k n:Nat),pop (k+1) n=pop k n+n/2 ^ k%2
 |0,n=>by simp [pop]
 |k+1,n=>by
  have e1:pop (k+2) n=n%2+pop (k+1) (n/2):=rfl;have e2:pop (k+1) n=n%2+pop k (n/2):=rfl;rw [e1,e2,qaS k (n/2),xh7,show 2*2 ^ k=2 ^ (k+1) by rw [xm3,Nat.mul_comm]];omega
theorem qlS {k k':Nat} (h:n<2 ^ k) (hk:k<=k'):pop k' n=pop k n:=by
 induction hk with
 |refl=>rfl
 |step hk ih=>rw [WN _ n (za2 h (xk2 (by omega) hk)),ih]
def EW:Sp3:=λts G q=>∃ n:Int,ts=[.int n]/\0<=n/\n<512/\∀ G',Ex G G'->q (.bl (pop 64 n.toNat%2==1)) G'
theorem qaw:∀ ts G q,EW ts G q->ts.length=1/\K6 (LA q) (qo ["_law_number","_law_found","_law_t"] ts) G:=by
 rintro ts G q ⟨n,rfl,n0,n1,h⟩;refine ⟨rfl,?_⟩;obtain ⟨m,rfl⟩:=zf3 n0;simp only [K6,qS,zl,c3,gn3,qcY,QW,qe,qw,Int.reducePow,Int.reduceNeg,Int.neg_ofNat_le_ofNat,Int.reduceLT,and_self,Int.reduceToNat,qo,zg2,zh8,ze8,zf5,zf2,Nat.reduceAdd,Nat.add_one_sub_one,List.reduceReplicate,zm6,zm9,zh9,zg4,true_and];refine XU _ (λi τ G'=>Ex G G'/\∃ x2,τ=[some (.int m),some (.bl (pop i m%2==1)),x2]) ⟨Ex.refl,none,rfl⟩ (λ_ _ _ _ _=>True.intro) ?_ ?_
 ·rintro i z τ G' nx hz ⟨E,x2,rfl⟩ hn;obtain ⟨hi,rfl⟩:=MJ hz;have hi9:i<=8:=Nat.le_of_lt_succ hi;simp only [gn3,zl,o3,v3,zn2,zh9,zg4,ze8,zf5,zf2,Nat.reduceAdd,Nat.reduceLT,getElem?_pos,y6,x9,u8,ZD,qe,c3,qw,v9,Nat.reduceLeDiff,za6,iC,Int.reduceLT,zo,zc,ze2,↓reduceIte,true_and,ixR,getL,gu];intro p hp;rw [qdC hi9];have hp2:=DG i;have hp3:=W9 (n:=i) (k:=8) hi9;simp only;refine ⟨⟨by omega,by omega⟩,hn _ _ ⟨E.trans (ja hp),some (.int i),?_⟩⟩;have e1:((m:Int)/2 ^ i)=((m/2 ^ i:Nat):Int):=by rw [p2];exact (Int.natCast_ediv _ _).symm
  have e2:decide ((m:Int)/2 ^ i%2=1)=(m/2 ^ i%2==1):=by
   rw [e1];by_cases hb:m/2 ^ i%2=1
   ·have z:((m/2 ^ i:Nat):Int)%2=1:=by omega
    rw [zb0 z,hb];rfl
   ·have z:¬ ((m/2 ^ i:Nat):Int)%2=1:=by omega
    rw [za9 z];exact (beq_eq_false_iff_ne.mpr hb).symm
  have e3:(pop (i+1) m%2==1)=!(decide ((pop i m%2==1)=decide ((m:Int)/2 ^ i%2=1))):=by
   rw [e2,qaS];have h1:pop i m%2=0\/pop i m%2=1:=by omega
   have h2:m/2 ^ i%2=0\/m/2 ^ i%2=1:=by omega
   rcases h1 with h1|h1<;>rcases h2 with h2|h2<;>simp [Nat.add_mod,h1,h2]
  rw [e3]
  all_goals try simp
 ·rintro τ G' ⟨E,x2,rfl⟩;rw [VQ];simp only [zg,v3,ze8,zf5,zf2,Nat.reduceAdd,Nat.reduceLT,getElem?_pos,y6,x9];have:=h G' E;rw [show (m:Int).toNat=m from rfl,qlS (k:=9) (k':=64) (by omega) (by omega)] at this;simpa using this
def V0:Nat->Sp3
 |0=>DE
 |n+1=>λts G q=>∃ (d:Dl) (i j:Int),ts=[d.t,.int i,.int j]/\d.dep<=n/\d.Ok/\Inn d i j/\∀ G',Ex G G'->q (.int (d.bank i j)) G'
theorem qjc {ms:List Int} {i j:Int} {n:Int} (hn:n=i*c+j) (hc:j9 i c) (h0:0<=n) (hl:ms.length<=5) (hm:∀ m∈ms,0<=m/\m<512) (h:∀ p G',Ex G G'->G' p=none->q (.ref p) (gu G' p (.lst ((zq n 0 ms).map T.int)))) :
  RE (λG=>zV G (.tup (ms.map T.int))=some (ms.map T.int)) (zd 2 (qr (gn3 0) (qr (gn3 1) za))) (tb3 (cb3 EW (qe (o3 (iI zj0) (o3 zU (o3 (iC j9 (·*·)) (v3 3) (v3 4)) (v3 2)) (v3 1)) qw))) (o3 ix3 (ZD (qe (c3 (.int 1)) (qe (c3 (.int 2)) (qe (c3 (.int 4)) (qe (c3 (.int 8)) (qe (c3 (.int 16)) qw)))))) (v3 0)) q (qb3 (ms.map T.int)) [] [none,none,some (.int j),some (.int i),some (.int c)] G:=by
 refine UL _ (λk ys τ G'=>Ex G G'/\ys=(zq n 0 (ms.take k)).map T.int/\∃ x0 x1,τ=[x0,x1,some (.int j),some (.int i),some (.int c)]) ⟨Ex.refl,by simp [zq],none,none,rfl⟩ (λ_ ys τ G' _ hp=>rfl) ?_ ?_
 ·rintro k z ys τ G' R hz ⟨E,rfl,x0,x1,rfl⟩ hR;obtain ⟨a,ha,rfl⟩:=UH hz;rw [ze5] at ha;cases e:ms[k]? with
  |none=>rw [e] at ha;cases ha
  |some m=>
   rw [e] at ha;have:a=T.int m:=by simpa using ha.symm
   subst this;obtain ⟨hi,hm'⟩:=zb6 e;have mm:=hm m (by rw [← hm'];exact za8 hi);have hr:=PyProof.Rows.bitAnd_range n mm.1;simp [qS,zl,gn3,zg,jt,zD,zN,V3,qE,v3,c3,o3,u3,YD,L3.ixT,L3.ixR,zU,iI,iC,iB,zo,zc,JO,tb3,V4,or3,V1,zC,V5,zZ,if3,ch3,cb3,qe,qw,QM,tyT,zY,jv,ZD,YS,np3,sp3,zd,qr,za,zG,Q5,JC,qo,bm3,JK,YQ,jV,YT,YZ,U0,U2,qM,zS,JD,U1,VH,QY,HT.sIx,getL,in3,zm,eqF,gu,v9,x8,x6,hc,← hn];refine ⟨_,rfl,hr.1,by omega,λG2 E2=>?_⟩;have tk:ms.take (k+1)=ms.take k++[m]:=by rw [xa9 hi,hm']
   have lt:(ms.take k).length=k:=by rw [zj7];omega
   have st:zq n 0 (ms.take (k+1))=zq n 0 (ms.take k)++(if NC n m then [2 ^ k] else []):=by
    rw [tk,ZJ,lt];simp [zq]
   have cl:=jT n 0 (ms.take k);have eo:(pop 64 (zj0 n m).toNat%2==1)=NC n m:=rfl;rw [eo];cases ho:NC n m with
   |true=>
    simp;intro p hp;have e5:=MR (d:=k) (by omega);simp [L3.ixR,getL,qN,e5];refine ⟨by omega,hR _ _ _ ⟨E.trans (E2.trans (ja hp)),?_,_,_,rfl⟩⟩;rw [st,ho];simp
   |false=>
    simp;refine hR _ _ _ ⟨E.trans E2,?_,_,_,rfl⟩;rw [st,ho];simp
 ·rintro ys τ G' ⟨E,rfl,x0,x1,rfl⟩ p hp;rw [XF,zd9,zp8];exact h p G' E hp
theorem VS (n:Nat):∀ ts G q,V0 (n+1) ts G q->ts.length=3/\E9 (ZY (n+1)) EW (V0 n) (LA q) (qo ["_law_dealing_here","_law_i","_law_j","_law_rows","_law_columns","_law_banks","_law_some","_law_high","_law_wide","_law_more"] ts) G:=by
 rintro ts G q ⟨d,i,j,rfl,hd,ok,I,h⟩;refine ⟨rfl,?_⟩;have i1:=I.i1;have i2:=I.i2;have j1:=I.j1;have j2:=I.j2;have L:=Dl.lims ok;have r2:=L.r2;have c1:=L.c1;have c2:=L.c2;have b1:=L.b1;have b2:=L.b2;unfold E9;refine JB λnx1 q1=>?_;simp only [zl,cb3,qe,qw,v3,qo,List.map,List.length,zm6,x8];refine ⟨d,rfl,hd,ok,λG1 E1=>?_⟩;simp [WA,zd,qr,za,gn3];cases d with
 |skew r c b x y=>
  obtain ⟨k1,k2,k3,k4,k5,k6,k7,k8,k9,k10⟩:=ok;simp only [Dl.t];rw [q1,zx rfl,if_pos rfl];simp [L2.atI,ixN,qS,zl,gn3,zg,jt,zD,zN,V3,qE,v3,c3,o3,u3,YD,L3.ixT,L3.ixR,zU,iI,iC,iB,zo,zc,JO,tb3,V4,or3,V1,zC,V5,zZ,if3,ch3,cb3,qe,qw,QM,tyT,zY,jv,ZD,YS,np3,sp3,zd,qr,za,zG,Q5,JC,qo,bm3,JK,YQ,jV,YT,YZ,U0,U2,qM,zS,JD,U1,VH,QY,HT.sIx,getL,in3,zm,eqF,gu,v9,x8,x6];exact ⟨cm' (by omega) (by omega),cm' (by omega) (by omega),by simp only [Dl.B];omega,h _ E1⟩
 |rests r c b x=>
  simp only [Dl.t];rw [q1,zx rfl,if_neg (by decide),zx rfl,if_pos rfl];simp [qS,zl,gn3,zg,jt,zD,zN,V3,qE,v3,c3,o3,u3,YD,L3.ixT,L3.ixR,zU,iI,iC,iB,zo,zc,JO,tb3,V4,or3,V1,zC,V5,zZ,if3,ch3,cb3,qe,qw,QM,tyT,zY,jv,ZD,YS,np3,sp3,zd,qr,za,zG,Q5,JC,qo,bm3,JK,YQ,jV,YT,YZ,U0,U2,qM,zS,JD,U1,VH,QY,HT.sIx,getL,in3,zm,eqF,gu,v9,x8,x6];exact ⟨cm (by omega) (by omega),by omega,h _ E1⟩
 |bits hh l ms=>
  obtain ⟨k1,k2,k3,k4⟩:=ok;simp only [Dl.t];rw [q1,zx rfl,if_neg (by decide),zx rfl,if_neg (by decide),zx rfl,if_pos rfl];refine JB λnx2 q2=>?_;simp [qbI,qlR,lc3,C9,cap,qS,zl,gn3,zg,jt,zD,zN,V3,qE,v3,c3,o3,u3,YD,L3.ixT,L3.ixR,zU,iI,iC,iB,zo,zc,JO,tb3,V4,or3,V1,zC,V5,zZ,if3,ch3,cb3,qe,qw,QM,tyT,zY,jv,ZD,YS,np3,sp3,zd,qr,za,zG,Q5,JC,qo,bm3,JK,YQ,jV,YT,YZ,U0,U2,qM,zS,JD,U1,VH,QY,HT.sIx,getL,in3,zm,eqF,gu,v9,x8,x6];refine qjc (n:=i*2 ^ l+j) rfl (cm (by omega) (by omega)) (NX (h:=hh) i1 j1) k3 (λm hm=>⟨(k4 m hm).1,?_⟩) λp G2 E2 hp=>?_
  ·have:=(k4 m hm).2;have:=W9 (n:=hh+l) (k:=8) (by omega);omega
  ·try rw [q2]
   simp [qj7,getL,qN,Q7,qS,zl,gn3,zg,jt,zD,zN,V3,qE,v3,c3,o3,u3,YD,L3.ixT,L3.ixR,zU,iI,iC,iB,zo,zc,JO,tb3,V4,or3,V1,zC,V5,zZ,if3,ch3,cb3,qe,qw,QM,tyT,zY,jv,ZD,YS,np3,sp3,zd,qr,za,zG,Q5,JC,qo,bm3,JK,YQ,jV,YT,YZ,U0,U2,qM,zS,JD,U1,VH,QY,HT.sIx,getL,in3,zm,eqF,gu,v9,x8,x6];refine ⟨⟨by have:=jT (i*2 ^ l+j) 0 ms;omega,λx hx=>?_⟩,?_⟩
   ·obtain ⟨k,h1,rfl⟩:=J9 _ 0 ms x hx;have:=DG k;have:=W9 (n:=k) (k:=30) (by omega);omega
   ·rw [YK];exact h _ (E1.trans (E2.trans (ja hp)))
 |table b cells=>
  obtain ⟨k1,k2,k3,k4,c,k5,k6,k7⟩:=ok;have e0:cells[0]?=some cells[0]:=u7 (by omega);have eC:(Dl.table b cells).C=c:=by simp [Dl.C,e0,(k7 cells[0] (za8 _)).1]
  have eR:(Dl.table b cells).R=cells.length:=rfl;rw [eR] at i2;rw [eC] at j2;have hi:i.toNat<cells.length:=by omega
  have hrow:=k7 cells[i.toNat] (za8 hi);have hj:j.toNat<cells[i.toNat].length:=by rw [hrow.1];omega
  simp only [Dl.t];rw [q1,zx rfl,if_neg (by decide),zx rfl,if_neg (by decide),zx rfl,if_neg (by decide),zx rfl,if_pos rfl];simp [qc3,qS,zl,gn3,zg,jt,zD,zN,V3,qE,v3,c3,o3,u3,YD,L3.ixT,L3.ixR,zU,iI,iC,iB,zo,zc,JO,tb3,V4,or3,V1,zC,V5,zZ,if3,ch3,cb3,qe,qw,QM,tyT,zY,jv,ZD,YS,np3,sp3,zd,qr,za,zG,Q5,JC,qo,bm3,JK,YQ,jV,YT,YZ,U0,U2,qM,zS,JD,U1,VH,QY,HT.sIx,getL,in3,zm,eqF,gu,v9,x8,x6];rw [jj i1 (by simpa using i2)];simp [hi,MQ,L3.ixT];rw [jj j1 (by simp;omega)];simp [hj];have:=h G1 E1;simpa [Dl.bank,hi,hj] using this
 |joined d e=>
  obtain ⟨kd,ke,kr,kc,kb⟩:=ok;have Le:=Dl.lims ke;obtain ⟨I1,I2⟩:=I.up Le;have:1<=n:=by simp [Dl.dep] at hd;omega
  obtain ⟨m,rfl⟩:∃ m,n=m+1:=⟨n-1,by omega⟩
  have r1:=Le.r1;have r2:=Le.r2;have c1:=Le.c1;have c2:=Le.c2;have b1:=Le.b1;have b2:=Le.b2;simp only [Dl.t];rw [q1,zx rfl,if_neg (by decide),zx rfl,if_neg (by decide),zx rfl,if_neg (by decide),zx rfl,if_neg (by decide)];simp [qes,qc3,qS,zl,gn3,zg,jt,zD,zN,V3,qE,v3,c3,o3,u3,YD,L3.ixT,L3.ixR,zU,iI,iC,iB,zo,zc,JO,tb3,V4,or3,V1,zC,V5,zZ,if3,ch3,cb3,qe,qw,QM,tyT,zY,jv,ZD,YS,np3,sp3,zd,qr,za,zG,Q5,JC,qo,bm3,JK,YQ,jV,YT,YZ,U0,U2,qM,zS,JD,U1,VH,QY,HT.sIx,getL,in3,zm,eqF,gu,v9,x8,x6];refine ⟨e,rfl,by simp [Dl.dep] at hd;omega,ke,λG2 E2=>?_⟩;simp [WA];refine ⟨⟨by omega,by omega⟩,⟨by omega,by omega⟩,d,_,_,rfl,by simp [Dl.dep] at hd;omega,kd,I1,λG3 E3=>?_⟩;simp;refine ⟨cm (by omega) (by omega),by omega,by omega,e,_,_,rfl,by simp [Dl.dep] at hd;omega,ke,I2,λG4 E4=>?_⟩;simp;exact h _ (E1.trans (E2.trans (E3.trans E4)))
theorem _root_.L3.Dps.append {G:Gp}:∀ {xs ys:List T} {ds es:List PyData},Dps G xs ds->Dps G ys es->Dps G (xs++ys) (ds++es)
 |_,_,_,_,.nil,b=>b
 |_,_,_,_,.cons a t,b=>.cons a (L3.Dps.append t b)
theorem _root_.L3.Dps.take {G:Gp}:∀ {xs:List T} {ds:List PyData} (i:Nat),Dps G xs ds->Dps G (xs.take i) (ds.take i)
 |_,_,0,_=>.nil
 |_,_,_+1,.nil=>.nil
 |_,_,i+1,.cons a t=>.cons a (L3.Dps.take i t)
theorem _root_.L3.Dps.drop {G:Gp}:∀ {xs:List T} {ds:List PyData} (i:Nat),Dps G xs ds->Dps G (xs.drop i) (ds.drop i)
 |_,_,0,h=>h
 |_,_,_+1,.nil=>.nil
 |_,_,i+1,.cons a t=>L3.Dps.drop i t
def NW:TS3:=(zg (lc3 (QW (qe (v3 2) qw)) (gn3 0) tt3 (jv (qe (o3 (iC j9 (·*·)) (v3 0) (v3 1)) (qe (o3 (iC j9 (·*·)) (v3 0) (v3 2)) qw))) [none,some 0,some 1]))
def C6 (zd8:Sp3):TS3:=(qS (zl (o3 ix3 (v3 0) (c3 (.int 0))) (gn3 1)) (qS (zD (tb3 (o3 (zo false) (v3 1) (c3 (.str "cells")))) (zg (cb3 zS (qe (o3 ix3 (v3 0) (c3 (.int 1))) qw))) qE) (qS (zD (tb3 (o3 (zo false) (v3 1) (c3 (.str "block")))) (zg (qiL (QW (qe (o3 ix3 (v3 0) (c3 (.int 1))) qw)) (gn3 0) tt3 (QW (qe (o3 ix3 (v3 2) (c3 (.int 2))) qw)) (gn3 1) tt3 (jv (qe (v3 0) (qe (v3 1) qw))) [none,none,some 0])) qE) (qS (zD (tb3 (o3 (zo false) (v3 1) (c3 (.str "step")))) (zg (cb3 zd8 (qe (o3 ix3 (v3 0) (c3 (.int 1))) (qe (o3 ix3 (v3 0) (c3 (.int 2))) (qe (o3 ix3 (v3 0) (c3 (.int 3))) qw))))) qE) (qS (zl (qep YI (v3 1)) (zd 2 (qr (gn3 2) (qr (gn3 3) za)))) (zg (cb3 zd8 (qe (v3 2) (qe (v3 3) (qe (o3 ix3 (v3 0) (c3 (.int 1))) qw))))))))))
def UB:TS3:=(qS (qcY (QW (qe (cb3 jV (qe (v3 0) qw)) qw)) (gn3 1) (qcY (QW (qe (o3 zU (v3 1) (c3 (.int 1))) (qe (cb3 jV (qe (v3 0) qw)) qw))) (gn3 2) (zD (tb3 (o3 (zo false) (o3 ix3 (v3 0) (v3 1)) (o3 ix3 (v3 0) (v3 2)))) (zg (jv (qe (v3 1) (qe (v3 2) qw)))) qE))) (zg (c3 .non)))
inductive Wk where
 |line (k m:Nat)
 |block (h w:Nat)
 |step (d a:Int) (m:Nat)
 |cells (ps:List (Int×Int))
noncomputable def Q1:Nat->Str
 |0=>"row" |1=>"column" |2=>"slant" |_=>"back"
noncomputable def lnD:Nat->Int
 |0=>0|_=>1
noncomputable def lnA:Nat->Int
 |0=>1|1=>0|2=>1|_=>-1
def zH (d a:Int) (m:Nat):List (Int×Int):=(zg5 m).map λ(t:Nat)=>((t:Int)*d,(t:Int)*a)
noncomputable def zp (h w:Nat):List (Int×Int):=(zg5 h).flatMap λ(p:Nat)=>(zg5 w).map λ(q:Nat)=>((p:Int),(q:Int))
def Wk.pc:Wk->List (Int×Int)
 |.line k m=>zH (lnD k) (lnA k) m
 |.block h w=>zp h w
 |.step d a m=>zH d a m
 |.cells ps=>ps
theorem EI (h w:Nat):zp (h+1) w=zp h w++(zg5 w).map λ(q:Nat)=>((h:Int),(q:Int)):=by
 simp [zp,List.range_succ]
theorem J0 (h w:Nat):(zp h w).length=h*w:=by
 induction h with
 |zero=>simp [zp]
 |succ h ih=>rw [EI,zg9,ih,zd9,xm1,Nat.succ_mul]
def Un2 (ns:List Int) (i:Nat):Prop:=∀ a b,a<i->a<b->b<ns.length->ns[a]?≠ns[b]?
structure Fst (ns:List Int) (i j:Nat):Prop where
 ij:i<j
 jl:j<ns.length
 un:Un2 ns i
 nb:∀ b,i<b->b<j->ns[i]?≠ns[b]?
 eq:ns[i]?=ns[j]?
variable {ns:List Int}
theorem Fst.uniq {i' j':Nat} (F:Fst ns i j) (F':Fst ns i' j'):i=i'/\j=j':=by
 have e:i=i':=by
  rcases xh6 i i' with z|z|z
  ·exact absurd F.eq (F'.un i j z F.ij F.jl)
  ·exact z
  ·exact absurd F'.eq (F.un i' j' z F'.ij F'.jl)
 subst e;refine ⟨rfl,?_⟩;rcases xh6 j j' with z|z|z
 ·exact absurd F.eq (F'.nb j F.ij z)
 ·exact z
 ·exact absurd F'.eq (F.nb j' F'.ij z)
open Classical in
def faO (ns:List Int):Option (Nat×Nat):=if h:∃ ij:Nat×Nat,Fst ns ij.1 ij.2 then some h.choose else none
theorem ZE (F:Fst ns i j):faO ns=some (i,j):=by
 have h:∃ ij:Nat×Nat,Fst ns ij.1 ij.2:=⟨(i,j),F⟩
 unfold faO;rw [dif_pos h];have:=h.choose_spec;obtain ⟨e1,e2⟩:=this.uniq F;exact congrArg some (Prod.ext e1 e2)
theorem ZK (h:Un2 ns ns.length):faO ns=none:=by
 unfold faO;rw [dif_neg];rintro ⟨ij,F⟩;exact h ij.1 ij.2 (Nat.lt_trans F.ij F.jl) F.ij F.jl F.eq
theorem XG (h:¬ Un2 ns ns.length):∃ i j,Fst ns i j:=by
 have key:∀ k,k<=ns.length->Un2 ns k\/∃ i j,Fst ns i j:=by
  intro k;induction k with
  |zero=>exact λ_=>.inl λa b ha=>by omega
  |succ k ih=>
   intro hk;rcases ih (by omega) with hu|he
   ·have inner:∀ n,(∀ b,k<b->b<k+1+n->b<ns.length->ns[k]?≠ns[b]?)\/∃ j,Fst ns k j:=by
     intro n;induction n with
     |zero=>exact .inl λb h1 h2=>by omega
     |succ n ihn=>
      rcases ihn with hn|he
      ·by_cases hb:k+1+n<ns.length/\ns[k]?=ns[k+1+n]?
       ·exact .inr ⟨k+1+n,by omega,hb.1,hu,λb h1 h2=>hn b h1 h2 (by omega),hb.2⟩
       ·refine .inl λb h1 h2 h3=>?_;by_cases e:b=k+1+n
        ·subst e;exact λz=>hb ⟨h3,z⟩
        ·exact hn b h1 (by omega) h3
      ·exact .inr he
    rcases inner ns.length with hn|⟨j,F⟩
    ·refine .inl λa b ha hab hb=>?_;by_cases e:a=k
     ·subst e;exact hn b hab (by omega) hb
     ·exact hu a b (by omega) hab hb
    ·exact .inr ⟨k,j,F⟩
   ·exact .inr he
 rcases key ns.length (u9 _) with hu|he
 ·exact absurd hu h
 ·exact he
theorem qdo (val:Nat->Int):∀ i,(PyProof.Rows.firstMet val i).length=i↔∀ a b,a<b->b<i->val a≠val b
 |0=>by simp [PyProof.Rows.firstMet_zero]
 |i+1=>by
  have ih:=qdo val i;have le:=PyProof.Rows.firstMet_length_le val i;have an:=PyProof.Rows.firstMet_any val i (val i);rw [PyProof.Rows.firstMet_succ];unfold PyProof.Rows.step_dedup;by_cases hq:((PyProof.Rows.firstMet val i).any (·==val i))=true
  ·rw [if_pos hq];constructor
   ·intro e;omega
   ·intro hh;rw [an] at hq;simp at hq;obtain ⟨a,ha,e⟩:=hq;exact absurd e (hh a i ha (by omega))
  ·rw [if_neg hq,zg9,zk3];have hq':∀ a,a<i->val a≠val i:=by
    intro a ha e;apply hq;rw [an];simp;exact ⟨a,ha,e⟩
   constructor
   ·intro e a b hab hb;by_cases eb:b=i
    ·subst eb;exact hq' a hab
    ·exact (ih.mp (by omega)) a b hab (by omega)
   ·intro hh;rw [ih.mpr λa b hab hb=>hh a b hab (by omega)]
theorem qai:V6 ns=ns.length↔Un2 ns ns.length:=by
 unfold V6;rw [qdo];constructor
 ·intro h a b ha hab hb e;refine h a b hab hb ?_;rw [ze4,ze4,e]
 ·intro h a b hab hb e;have ha:a<ns.length:=by omega
  apply h a b ha hab hb;rw [ze4,ze4] at e;simp [ha,hb] at e;simp [ha,hb,e]
end Bk
namespace Pu
open PySem L2 L3
variable {α:Type}
def cif (P:Prop) (a b:α):α:=@ite α P (xc0 P) a b
theorem zk {P:Prop} {a b:α} (h:P):cif P a b=a:=@if_pos P (xc0 P) h α a b
theorem LM {P:Prop} {a b:α} (h:¬ P):cif P a b=b:=@if_neg P (xc0 P) h α a b
structure Tru (b:Bool):Prop where
 h:b=true
mutual
inductive Dq (G:Gp):T->PyData->Prop
 |non:Dq G .non .none
 |bl (b:Bool):Dq G (.bl b) (.bool b)
 |int (i:Int):Dq G (.int i) (.int i)
 |str (x:Str):Dq G (.str x) (.str x)
 |tup {xs:List T} {ds:List PyData}:Dqs G xs ds->Dq G (.tup xs) (.tuple ds)
 |lst {p:Addr} {xs:List T} {ds:List PyData}:G p=some (.lst xs)->Dqs G xs ds->Dq G (.ref p) (.list ds)
inductive Dqs (G:Gp):List T->List PyData->Prop
 |nil:Dqs G [] []
 |cons {x:T} {d:PyData} {xs:List T} {ds:List PyData}:Dq G x d->Dqs G xs ds->Dqs G (x::xs) (d::ds)
end
mutual
theorem Dq.up {G G':Gp} (e:Ex G G'):∀ {x:T} {d:PyData},Dq G x d->Dq G' x d
 |_,_,.non=>.non
 |_,_,.bl b=>.bl b
 |_,_,.int i=>.int i
 |_,_,.str x=>.str x
 |_,_,.tup h=>.tup (Dqs.up e h)
 |_,_,.lst h1 h2=>.lst (e _ _ h1) (Dqs.up e h2)
theorem Dqs.up {G G':Gp} (e:Ex G G'):∀ {x:List T} {d:List PyData},Dqs G x d->Dqs G' x d
 |_,_,.nil=>.nil
 |_,_,.cons a b=>.cons (Dq.up e a) (Dqs.up e b)
end
variable {G:Gp} {p:Addr} {xs:List T}
theorem zw (h:G p=some (.lst xs)):getL G p=some xs:=by unfold getL;rw [h]
mutual
theorem Dq.dp {G:Gp}:∀ {x:T} {d:PyData},Dq G x d->Dp G x d
 |_,_,.non=>.non
 |_,_,.bl b=>.bl b
 |_,_,.int i=>.int i
 |_,_,.str x=>.str x
 |_,_,.tup h=>.tup (Dqs.dp h)
 |_,_,.lst h1 h2=>.lst (zw h1) (Dqs.dp h2)
theorem Dqs.dp {G:Gp}:∀ {x:List T} {d:List PyData},Dqs G x d->Dps G x d
 |_,_,.nil=>.nil
 |_,_,.cons a b=>.cons (Dq.dp a) (Dqs.dp b)
end
theorem Dqs.length {G:Gp}:∀ {xs:List T} {ds:List PyData},Dqs G xs ds->xs.length=ds.length
 |_,_,.nil=>rfl
 |_,_,.cons _ b=>by simp [Dqs.length b]
theorem Dqs.get {G:Gp}:∀ {xs:List T} {ds:List PyData} {i:Nat} {d:PyData},Dqs G xs ds->ds[i]?=some d->∃ x,xs[i]?=some x/\Dq G x d
 |_,_,_,_,.nil,e=>by simp at e
 |_,_,0,_,.cons r _,e=>by simp at e;subst e;exact ⟨_,rfl,r⟩
 |_,_,i+1,d,.cons _ t,e=>by
  obtain ⟨u,h1,h2⟩:=Dqs.get (i:=i) (d:=d) t (by simpa using e);exact ⟨u,by simpa using h1,h2⟩
theorem Dqs.append {G:Gp}:∀ {xs:List T} {ds:List PyData} {ys:List T} {es:List PyData},Dqs G xs ds->Dqs G ys es->Dqs G (xs++ys) (ds++es)
 |_,_,_,_,.nil,h=>h
 |_,_,_,_,.cons a b,h=>.cons a (Dqs.append b h)
theorem Dqs.drop {G:Gp}:∀ {xs:List T} {ds:List PyData} (n:Nat),Dqs G xs ds->Dqs G (xs.drop n) (ds.drop n)
 |_,_,0,h=>h
 |_,_,_+1,.nil=>.nil
 |_,_,n+1,.cons _ b=>Dqs.drop n b
theorem Dqs.take {G:Gp}:∀ {xs:List T} {ds:List PyData} (n:Nat),Dqs G xs ds->Dqs G (xs.take n) (ds.take n)
 |_,_,0,h=>by simp;exact .nil
 |_,_,_+1,.nil=>.nil
 |_,_,n+1,.cons a b=>.cons a (Dqs.take n b)
theorem Dqs.set {G:Gp}:∀ {xs:List T} {ds:List PyData} (n:Nat) {x:T} {d:PyData},Dqs G xs ds->Dq G x d->Dqs G (xs.set n x) (ds.set n d)
 |_,_,_,_,_,.nil,_=>.nil
 |_,_,0,_,_,.cons _ b,h=>.cons h b
 |_,_,n+1,_,_,.cons a b,h=>.cons a (Dqs.set n b h)
theorem Dqs.ints {G:Gp}:∀ {ns:List Int} {xs:List T},Dqs G xs (ns.map PyData.int)->xs=ns.map T.int
 |[],_,.nil=>rfl
 |n::ns,_,.cons a b=>by cases a;rw [Dqs.ints b];rfl
theorem Dqs.ofInts {G:Gp}:∀ (ns:List Int),Dqs G (ns.map T.int) (ns.map PyData.int)
 |[]=>.nil
 |n::r=>.cons (.int n) (Dqs.ofInts r)
def rs (D:Addr->Prop) (G:Gp):Gp:=λb=>cif (D b) none (G b)
variable {D:Addr->Prop} {o:O}
theorem qI {b:Addr} (h:rs D G b=some o):¬ D b/\G b=some o:=by
 unfold rs cif at h;split at h
 ·cases h
 ·rename_i n;exact ⟨n,h⟩
theorem jQ {b:Addr} (n:¬ D b):rs D G b=G b:=by unfold rs;exact LM n
theorem ZC:Ex (rs D G) G:=λb o h=>(qI h).2
variable {G':Gp}
theorem jW (e:Ex G G'):Ex (rs D G) (rs D G'):=λb o h=>by
 obtain ⟨n,h⟩:=qI h;rw [jQ n];exact e _ _ h
theorem jB {D':Addr->Prop} (h:∀ b,D' b->D b):Ex (rs D G) (rs D' G):=λb o e=>by
 obtain ⟨n,e⟩:=qI e;rw [jQ λz=>n (h b z)];exact e
def Dom (D:Addr->Prop) (G:Gp):Prop:=∀ b,D b->G b≠none
theorem Dom.up (h:Dom D G) (e:Ex G G'):Dom D G':=λb d z=>by
 cases g:G b with
 |none=>exact h b d g
 |some o=>rw [e _ _ g] at z;cases z
theorem qkX (hd:Dom D G) (hp:G p=none):rs D (gu G p o) p=some o:=by
 rw [jQ λz=>hd p z hp,qN]
inductive Sl where
 |un|sh (d:PyData)|ow (ds:List PyData)|dc (kvs:List (Int×PyData))|on (dss:List (List PyData))|rg (d:PyData)
abbrev Rho:=List Sl
def Sl.d:Sl->Option PyData
 |.un=>none|.sh d=>some d|.ow ds=>some (.list ds)|.dc _=>none|.on dss=>some (.list (dss.map PyData.list))|.rg d=>some d
def vw (ρ:Rho) (i:Nat):Option PyData:=(ρ[i]?).bind Sl.d
def X8 (fv:List Nat) (D:Addr->Prop) (G:Gp) (τ:St3) (ρ:Rho):Prop:=∀ i∈fv,∀ d,vw ρ i=some d->∃ t,τ[i]?=some (some t)/\Dq (rs D G) t d
variable {fv:List Nat} {τ:St3} {ρ:Rho}
theorem X8.up (h:X8 fv D G τ ρ) (e:Ex G G'):X8 fv D G' τ ρ:=λi hi d hd=>
 let ⟨t,a,b⟩:=h i hi d hd;⟨t,a,b.up (jW e)⟩
variable {gv:List Nat}
theorem X8.l (h:X8 (fv++gv) D G τ ρ):X8 fv D G τ ρ:=λi hi=>h i (by simp [hi])
theorem X8.r (h:X8 (fv++gv) D G τ ρ):X8 gv D G τ ρ:=λi hi=>h i (by simp [hi])
def qd2:PyData->Bool
 |.none=>true|.bool _=>true|.int _=>true|.str _=>true|_=>false
def Nw (D:Addr->Prop) (G G':Gp) (x:T) (d:PyData):Prop:=qd2 d=true\/∃ p xs ds,x=.ref p/\d=.list ds/\G p=none/\G' p=some (.lst xs)/\Dqs (rs (λb=>D b\/b=p) G') xs ds
variable {G0:Gp} {x:T} {d:PyData}
theorem Nw.back (h:Nw D G G' x d) (e:Ex G0 G):Nw D G0 G' x d:=by
 rcases h with h|⟨p,xs,ds,a,b,c,r⟩
 ·exact .inl h
 refine .inr ⟨p,xs,ds,a,b,?_,r⟩;cases z:G0 p with
 |none=>rfl
 |some o=>rw [e _ _ z] at c;cases c
structure PuE (t:TE3) where
 f:Rho->Option PyData
 fv:List Nat
 nw:Bool
 ok:∀ {D τ ρ G} {q:Q3} {d},X8 fv D G τ ρ->Dom D G->f ρ=some d->(∀ x G',Ex G G'->Dq (rs D G') x d->(nw=true->Nw D G G' x d)->q x G')->t τ G q
structure PuC (t:TT3) where
 f:Rho->Option Bool
 fv:List Nat
 ok:∀ {D τ ρ G} {q:Bool->Gp->Prop} {k},X8 fv D G τ ρ->Dom D G->f ρ=some k->(∀ G',Ex G G'->q k G')->t τ G q
structure PuA (t:TA3) where
 f:Rho->Option (List PyData)
 fv:List Nat
 n:Nat
 ln:∀ {ρ d},f ρ=some d->d.length=n
 ok:∀ {D τ ρ G} {q:List T->Gp->Prop} {d},X8 fv D G τ ρ->Dom D G->f ρ=some d->(∀ x G',Ex G G'->Dqs (rs D G') x d->q x G')->t τ G q
structure PuO (t:TO3) where
 f:Rho->Option (Option Int)
 fv:List Nat
 ok:∀ {D τ ρ G} {q:Option Int->Gp->Prop} {k},X8 fv D G τ ρ->Dom D G->f ρ=some k->(∀ G',Ex G G'->q k G')->t τ G q
structure PuI (t:TI3) where
 f:Rho->Option (List PyData)
 fv:List Nat
 nm:Bool
 ok:∀ {D τ ρ G} {r:List T->(Gp->Prop)->Gp->Prop} {ds},X8 fv D G τ ρ->Dom D G->f ρ=some ds ->
  (∀ items stay G',Ex G G'->Dqs (rs D G') items ds->(∀ G'',(nm=true\/Ex (rs D G') G'')->stay G'')->(nm=true->∃ ns:List Int,ds=ns.map PyData.int)->r items stay G')->t τ G r
structure OpD (r:R3) where
 f:PyData->PyData->Option PyData
 nw:Bool
 ok:∀ {D G x y d e v} {q:Q3},Dq (rs D G) x d->Dq (rs D G) y e->Dom D G->f d e=some v->(∀ z G',Ex G G'->Dq (rs D G') z v->(nw=true->Nw D G G' z v)->q z G')->r x y G q
structure FnD (r:List T->Gp->Q3->Prop) where
 f:List PyData->Option PyData
 nw:Bool
 ok:∀ {D G xs ds v} {q:Q3},Dqs (rs D G) xs ds->Dom D G->f ds=some v->(∀ z G',Ex G G'->Dq (rs D G') z v->(nw=true->Nw D G G' z v)->q z G')->r xs G q
def bV (i:Nat):PuE (v3 i):=⟨λρ=>vw ρ i,[i],false,λhv hd hf k=>by
 obtain ⟨t,e,h⟩:=hv i (by simp) _ hf;unfold v3;rw [e];exact k t _ Ex.refl h (λz=>by cases z)⟩
def qC (i:Int):PuE (c3 (.int i)):=⟨λ_=>some (.int i),[],false,λhv hd hf k=>by cases hf;exact k _ _ Ex.refl (.int i) (λz=>by cases z)⟩
def bBl (i:Bool):PuE (c3 (.bl i)):=⟨λ_=>some (.bool i),[],false,λhv hd hf k=>by cases hf;exact k _ _ Ex.refl (.bl i) (λz=>by cases z)⟩
def V8 (i:Str):PuE (c3 (.str i)):=⟨λ_=>some (.str i),[],false,λhv hd hf k=>by cases hf;exact k _ _ Ex.refl (.str i) (λz=>by cases z)⟩
def qiW:PuE (c3 .non):=⟨λ_=>some .none,[],false,λhv hd hf k=>by cases hf;exact k _ _ Ex.refl .non (λz=>by cases z)⟩
variable {ta tb:TE3}
def bO {r:R3} (R:OpD r) (a:PuE ta) (b:PuE tb):PuE (o3 r ta tb):=
 ⟨λρ=>(a.f ρ).bind λx=>(b.f ρ).bind λy=>R.f x y,a.fv++b.fv,R.nw,λhv hd hf k=>by
  obtain ⟨x,e1,hf⟩:=obb hf;obtain ⟨y,e2,hf⟩:=obb hf;exact a.ok hv.l hd e1 λx' G1 E1 D1 _=>b.ok (hv.r.up E1) (hd.up E1) e2 λy' G2 E2 D2 _=>R.ok (D1.up (jW E2)) D2 ((hd.up E1).up E2) hf λz G3 E3 D3 N3=>k z G3 ((E1.trans E2).trans E3) D3 λh=>(N3 h).back (E1.trans E2)⟩
def qu:PuA qw:=⟨λ_=>some [],[],0,(λh=>by cases h;rfl),λhv hd hf k=>by cases hf;exact k _ _ Ex.refl .nil⟩
def qf {tr:TA3} (a:PuE ta) (r:PuA tr):PuA (qe ta tr):=
 ⟨λρ=>(a.f ρ).bind λx=>(r.f ρ).bind λxs=>some (x::xs),a.fv++r.fv,r.n+1,(λhf=>by
  obtain ⟨x,e1,hf⟩:=obb hf;obtain ⟨xs,e2,hf⟩:=obb hf;cases hf;simp [r.ln e2]),λhv hd hf k=>by
  obtain ⟨x,e1,hf⟩:=obb hf;obtain ⟨xs,e2,hf⟩:=obb hf;cases hf;exact a.ok hv.l hd e1 λx' G1 E1 D1 _=>r.ok (hv.r.up E1) (hd.up E1) e2 λy' G2 E2 D2=>k _ G2 (E1.trans E2) (.cons (D1.up (jW E2)) D2)⟩
theorem few {n:Nat} (h:Tru (xg1 n 1000)):n<=sizeLine:=za4 (Nat.le_of_ble_eq_true h.h) (by rw [v9];omega)
def YR {t:TA3} (a:PuA t) (hn:Tru (xg1 a.n 1000)):PuE (jv t):=⟨λρ=>(a.f ρ).map .tuple,a.fv,false,λhv hd hf k=>by
 obtain ⟨xs,e1,rfl⟩:=zb5 hf;exact a.ok hv hd e1 λx G1 E1 D1=>⟨by rw [D1.length,a.ln e1];exact few hn,k _ _ E1 (.tup D1) (λz=>by cases z)⟩⟩
variable {ds:List PyData}
theorem WR (hp:G p=none) (h:Dqs (rs D G) xs ds):Nw D G (gu G p (.lst xs)) (.ref p) (.list ds):=
 .inr ⟨p,xs,ds,rfl,rfl,hp,qN,h.up λb o e=>by
  obtain ⟨n,e⟩:=qI e;have:b≠p:=by rintro rfl;rw [hp] at e;cases e
  rw [jQ (by rintro (z|z);exact n z;exact this z),QU this];exact e⟩
theorem UU (hd:Dom D G) (hp:G p=none) (h:Dqs (rs D G) xs ds):Dq (rs D (gu G p (.lst xs))) (.ref p) (.list ds):=
 .lst (qkX hd hp) (h.up (jW (ja hp)))
def NO {t:TA3} (a:PuA t) (hn:Tru (xg1 a.n 1000)):PuE (ZD t):=⟨λρ=>(a.f ρ).map .list,a.fv,true,λhv hd hf k=>by
 obtain ⟨xs,e1,rfl⟩:=zb5 hf;exact a.ok hv hd e1 λx G1 E1 D1=>⟨by rw [D1.length,a.ln e1];exact few hn,λp hp=>k _ _ (E1.trans (ja hp)) (UU (hd.up E1) hp D1) λ_=>(WR hp D1).back E1⟩⟩
def qt {r:List T->Gp->Q3->Prop} {t:TA3} (R:FnD r) (a:PuA t):PuE (cb3 r t):=
 ⟨λρ=>(a.f ρ).bind R.f,a.fv,R.nw,λhv hd hf k=>by
  obtain ⟨x,e1,hf⟩:=obb hf;exact a.ok hv hd e1 λx' G1 E1 D1=>R.ok D1 (hd.up E1) hf λz G3 E3 D3 N3=>k z G3 (E1.trans E3) D3 λh=>(N3 h).back E1⟩
def asB:PyData->Option Bool
 |.bool b=>some b
 |_=>none
def asI:PyData->Option Int
 |.int b=>some b
 |_=>none
theorem CV {b:Bool} (h:asB d=some b):d=.bool b:=by cases d<;>simp [asB] at h;subst h;rfl
theorem KN {b:Int} (h:asI d=some b):d=.int b:=by cases d<;>simp [asI] at h;subst h;rfl
variable {t:TE3}
def bTb (a:PuE t):PuC (tb3 t):=⟨λρ=>(a.f ρ).bind asB,a.fv,λhv hd hf k=>by
 obtain ⟨x,e1,hf⟩:=obb hf;have:=CV hf;subst this;exact a.ok hv hd e1 λx' G1 E1 D1 _=>by cases D1;exact k G1 E1⟩
def qqh {t u:TT3} (a:PuC t) (b:PuC u):PuC (V4 t u):=⟨λρ=>(a.f ρ).bind λk=>if k then b.f ρ else some false,a.fv++b.fv,λhv hd hf k=>by
 obtain ⟨x,e1,hf⟩:=obb hf;refine a.ok hv.l hd e1 λG1 E1=>?_;cases x with
 |true=>exact b.ok (hv.r.up E1) (hd.up E1) hf λG2 E2=>k G2 (E1.trans E2)
 |false=>cases hf;exact k G1 E1⟩
def bOr {t u:TT3} (a:PuC t) (b:PuC u):PuC (or3 t u):=⟨λρ=>(a.f ρ).bind λk=>if k then some true else b.f ρ,a.fv++b.fv,λhv hd hf k=>by
 obtain ⟨x,e1,hf⟩:=obb hf;refine a.ok hv.l hd e1 λG1 E1=>?_;cases x with
 |false=>exact b.ok (hv.r.up E1) (hd.up E1) hf λG2 E2=>k G2 (E1.trans E2)
 |true=>cases hf;exact k G1 E1⟩
def MT {t:TT3} (a:PuC t):PuC (V1 t):=⟨λρ=>(a.f ρ).map (! ·),a.fv,λhv hd hf k=>by
 obtain ⟨x,e1,hf⟩:=zb5 hf;subst hf;exact a.ok hv hd e1 λG1 E1=>k G1 E1⟩
def bTt:PuC tt3:=⟨λ_=>some true,[],λhv hd hf k=>by cases hf;exact k _ Ex.refl⟩
def UT (a:PuE ta) (b:PuE tb):PuE (zC ta tb):=⟨λρ=>((a.f ρ).bind asB).bind λk=>if k then b.f ρ else some (.bool false),a.fv++b.fv,false,λhv hd hf k=>by
 obtain ⟨x,e1,hf⟩:=obb hf;obtain ⟨y,e1,e2⟩:=obb e1;have:=CV e2;subst this;refine a.ok hv.l hd e1 λx' G1 E1 D1 _=>?_;cases D1;cases x with
 |true=>exact b.ok (hv.r.up E1) (hd.up E1) hf λz G2 E2 D2 _=>k z G2 (E1.trans E2) D2 (λz=>by cases z)
 |false=>cases hf;exact k _ G1 E1 (.bl false) (λz=>by cases z)⟩
def qrP (a:PuE ta) (b:PuE tb):PuE (V5 ta tb):=⟨λρ=>((a.f ρ).bind asB).bind λk=>if k then some (.bool true) else b.f ρ,a.fv++b.fv,false,λhv hd hf k=>by
 obtain ⟨x,e1,hf⟩:=obb hf;obtain ⟨y,e1,e2⟩:=obb e1;have:=CV e2;subst this;refine a.ok hv.l hd e1 λx' G1 E1 D1 _=>?_;cases D1;cases x with
 |false=>exact b.ok (hv.r.up E1) (hd.up E1) hf λz G2 E2 D2 _=>k z G2 (E1.trans E2) D2 (λz=>by cases z)
 |true=>cases hf;exact k _ G1 E1 (.bl true) (λz=>by cases z)⟩
def qns (a:PuE ta):PuE (zZ ta):=⟨λρ=>((a.f ρ).bind asB).map λk=>.bool (!k),a.fv,false,λhv hd hf k=>by
 obtain ⟨x,e1,hf⟩:=zb5 hf;obtain ⟨y,e1,e2⟩:=obb e1;have:=CV e2;subst this;subst hf;refine a.ok hv hd e1 λx' G1 E1 D1 _=>?_;cases D1;exact k _ G1 E1 (.bl _) (λz=>by cases z)⟩
def qiK (a:PuE ta):PuE (u3 YD ta):=⟨λρ=>((a.f ρ).bind asI).map λi=>.int (-i),a.fv,false,λhv hd hf k=>by
 obtain ⟨x,e1,hf⟩:=zb5 hf;obtain ⟨y,e1,e2⟩:=obb e1;have:=KN e2;subst this;subst hf;refine a.ok hv hd e1 λx' G1 E1 D1 _=>?_;cases D1;exact k _ G1 E1 (.int _) (λz=>by cases z)⟩
def bCh {r r':R3} {tc:TE3} (R:OpD r) (R':OpD r') (a:PuE ta) (b:PuE tb) (c:PuE tc):PuE (ch3 r r' ta tb tc):=
 ⟨λρ=>(a.f ρ).bind λx=>(b.f ρ).bind λy=>((R.f x y).bind asB).bind λk=>if k then (c.f ρ).bind λz=>R'.f y z else some (.bool false),a.fv++(b.fv++c.fv),false,λ{D τ ρ G q d} hv hd hf k=>by
  obtain ⟨x,e1,hf⟩:=obb hf;obtain ⟨y,e2,hf⟩:=obb hf;obtain ⟨j,e3,hf⟩:=obb hf;obtain ⟨v,e3,e4⟩:=obb e3;have:=CV e4;subst this;refine a.ok hv.l hd e1 λx' G1 E1 D1 _=>b.ok (hv.r.l.up E1) (hd.up E1) e2 λy' G2 E2 D2 _=>R.ok (D1.up (jW E2)) D2 ((hd.up E1).up E2) e3 λz G3 E3 D3 _=>?_;cases D3;have E:=(E1.trans E2).trans E3;cases j with
  |true=>
   obtain ⟨w,e5,hf⟩:=obb hf;exact c.ok (hv.r.r.up E) (hd.up E) e5 λw' G4 E4 D4 _=>R'.ok ((D2.up (jW E3)).up (jW E4)) D4 ((hd.up E).up E4) hf λu G5 E5 D5 _=>k u G5 ((E.trans E4).trans E5) D5 (λz=>by cases z)
  |false=>cases hf;exact k _ G3 E (.bl false) (λz=>by cases z)⟩
def tyD:PyData->Option String
 |.none=>some "NoneType" |.bool _=>some "bool" |.int _=>some "int" |.str _=>some "str" |.tuple _=>some "tuple" |.list _=>some "list" |.dict _=>none
def qjs (g:String->Bool) (a:PuE ta):PuE (QM g ta):=⟨λρ=>(a.f ρ).bind λd=>(tyD d).map λt=>.bool (g t),a.fv,false,λhv hd hf k=>by
 obtain ⟨x,e1,hf⟩:=obb hf;obtain ⟨y,e2,hf⟩:=zb5 hf;subst hf;refine a.ok hv hd e1 λx' G1 E1 D1 _=>?_;have:tyT G1 x'=some y:=by
  cases D1 with
  |lst h _=>have g:=zw (qI h).2;simp [tyT,g];simpa [tyD] using e2
  |_=>simpa [tyT,tyD] using e2
 simp only [this];exact k _ G1 E1 (.bl _) (λz=>by cases z)⟩
def bNp:PuO np3:=⟨λ_=>some none,[],λhv hd hf k=>by cases hf;exact k _ Ex.refl⟩
def bSp (a:PuE t):PuO (sp3 t):=⟨λρ=>((a.f ρ).bind asI).map some,a.fv,λhv hd hf k=>by
 obtain ⟨x,e1,hf⟩:=zb5 hf;obtain ⟨y,e1,e2⟩:=obb e1;have:=KN e2;subst this;subst hf;refine a.ok hv hd e1 λx' G1 E1 D1 _=>?_;cases D1;exact k G1 E1⟩
theorem Dqs.cut (h:Dqs G xs ds) (lo hi:Option Int):Dqs G (QY xs lo hi) (QY ds lo hi):=by
 unfold QY;rw [h.length];exact (h.drop _).take _
def slD (d:PyData) (lo hi:Option Int):Option PyData:=match d with
 |.tuple xs=>cif (HT.sIx xs.length 0 lo=0/\HT.sIx xs.length xs.length hi=xs.length) none (some (.tuple (QY xs lo hi)))
 |.list xs=>some (.list (QY xs lo hi))
 |_=>none
variable {te:TE3}
def bSl {tl th:TO3} (a:PuE te) (l:PuO tl) (h:PuO th):PuE (YS te tl th):=⟨λρ=>(a.f ρ).bind λd=>(l.f ρ).bind λlo=>(h.f ρ).bind λhi=>slD d lo hi,a.fv++(l.fv++h.fv),false,λhv hd hf k=>by
 obtain ⟨d,e1,hf⟩:=obb hf;obtain ⟨lo,e2,hf⟩:=obb hf;obtain ⟨hi,e3,hf⟩:=obb hf;refine a.ok hv.l hd e1 λx' G1 E1 D1 _=>l.ok (hv.r.l.up E1) (hd.up E1) e2 λG2 E2=>h.ok (hv.r.r.up (E1.trans E2)) (hd.up (E1.trans E2)) e3 λG3 E3=>?_;have E:=(E1.trans E2).trans E3;have D3:=(D1.up (jW E2)).up (jW E3);unfold slD at hf;cases D3 with
 |tup hs=>
  simp only [cif] at hf;split at hf
  ·cases hf
  ·rename_i n;cases hf;exact ⟨by rw [hs.length];exact n,k _ _ E (.tup (hs.cut _ _)) (λz=>by cases z)⟩
 |lst g hs=>
  simp only at hf;cases hf;simp only [sl3,zw (qI g).2];intro p hp;exact k _ _ (E.trans (ja hp)) (UU (hd.up E) hp (hs.cut _ _)) (λz=>by cases z)
 |_=>simp at hf⟩
def JH:List PyData->Option (List Int)
 |[]=>some []
 |.int i::r=>(JH r).map (i::·)
 |_=>none
theorem W6 (ns:List Int):JH (ns.map PyData.int)=some ns:=by
 induction ns with
 |nil=>rfl
 |cons n r ih=>simp [JH,ih]
theorem UA:∀ {xs:List PyData} {ns:List Int},JH xs=some ns->xs=ns.map PyData.int
 |[],_,h=>by simp [JH] at h;subst h;rfl
 |.int i::r,ns,h=>by
  simp only [JH] at h;obtain ⟨ms,e,rfl⟩:=zb5 h;rw [UA e];rfl
 |.none::r,ns,h=>by simp [JH] at h
 |.bool _::r,ns,h=>by simp [JH] at h
 |.str _::r,ns,h=>by simp [JH] at h
 |.list _::r,ns,h=>by simp [JH] at h
 |.tuple _::r,ns,h=>by simp [JH] at h
 |.dict _::r,ns,h=>by simp [JH] at h
def qag (d:PyData):Option PyData:=match d with
 |.list ds=>(JH ds).bind λns=>cif (ns.length<4000) (some (.int (V6 ns))) none
 |_=>none
def qk3 (a:PuE te):PuE (qog te):=⟨λρ=>(a.f ρ).bind qag,a.fv,false,λhv hd hf k=>by
 obtain ⟨d,e1,hf⟩:=obb hf;refine a.ok hv hd e1 λx' G1 E1 D1 _=>?_;unfold qag at hf;cases D1 with
 |lst g hs=>
  simp only at hf;obtain ⟨ns,en,hf⟩:=obb hf;unfold cif at hf;split at hf
  ·rename_i hl;cases hf;have:=UA en;subst this;have:=hs.ints;subst this;simp only [zw (qI g).2,Q7];exact ⟨hl,k _ _ E1 (.int _) (λz=>by cases z)⟩
  ·cases hf
 |_=>simp at hf⟩
def opI (g:Int->Int->Int):OpD (iI g):=⟨λd e=>match d,e with|.int i,.int j=>some (.int (g i j))|_,_=>none,false,λ{D G x y d e v q} hx hy hd hf k=>by
 cases hx<;>try (simp at hf;done)
 cases hy<;>try (simp at hf;done)
 cases hf;exact k _ _ Ex.refl (.int _) (λz=>by cases z)⟩
def cI (C:Int->Int->Prop) (g:Int->Int->Int) (d e:PyData):Option PyData:=match d,e with|.int i,.int j=>cif (C i j) (some (.int (g i j))) none|_,_=>none
def opC (C:Int->Int->Prop) (g:Int->Int->Int):OpD (iC C g):=⟨cI C g,false,λ{D G x y d e v q} hx hy hd hf k=>by
 unfold cI at hf;cases hx<;>try (simp at hf;done)
 cases hy<;>try (simp at hf;done)
 simp only [cif] at hf;split at hf
 ·rename_i c;cases hf;exact ⟨c,k _ _ Ex.refl (.int _) (λz=>by cases z)⟩
 ·cases hf⟩
def opB (g:Int->Int->Bool):OpD (iB g):=⟨λd e=>match d,e with|.int i,.int j=>some (.bool (g i j))|_,_=>none,false,λ{D G x y d e v q} hx hy hd hf k=>by
 cases hx<;>try (simp at hf;done)
 cases hy<;>try (simp at hf;done)
 cases hf;exact k _ _ Ex.refl (.bl _) (λz=>by cases z)⟩
def qbg:PyData->PyData->Option Bool
 |.none,.none=>some true|.none,.int _=>some false|.int _,.none=>some false|.none,.bool _=>some false|.bool _,.none=>some false|.none,.str _=>some false|.str _,.none=>some false
 |.int i,.int j=>some (decide (i=j))|.bool i,.bool j=>some (decide (i=j))|.str i,.str j=>some (decide (i=j))
 |.int _,.str _=>some false|.str _,.int _=>some false|.bool _,.str _=>some false|.str _,.bool _=>some false
 |_,_=>none
theorem qcU {y:T} {e:PyData} (hx:Dq G x d) (hy:Dq G y e):zc x y=qbg d e:=by
 cases hx<;>cases hy<;>rfl
def eqD (neg:Bool) (d e:PyData):Option PyData:=match qbg d e with
 |some k=>some (.bool (if neg then !k else k))
 |none=>cif (dpt d<=40/\dpt d≠0) ((jS d e).map λb=>.bool (if neg then !b else b)) none
def YG (neg:Bool):OpD (zo neg):=⟨eqD neg,false,λ{D G x y d e v q} hx hy hd hf k=>by
 unfold zo;rw [qcU hx hy];unfold eqD at hf;cases h:qbg d e with
 |some b=>rw [h] at hf;cases hf;exact k _ _ Ex.refl (.bl _) (λz=>by cases z)
 |none=>
  rw [h] at hf;simp only [cif] at hf ⊢;split at hf
  ·rename_i c;obtain ⟨b,e1,rfl⟩:=zb5 hf;exact ⟨d,e,b,(hx.up ZC).dp,(hy.up ZC).dp,e1,c.1,c.2,k _ _ Ex.refl (.bl _) (λz=>by cases z)⟩
  ·cases hf⟩
def qke (neg:Bool) (d e:PyData):Option PyData:=match e with|.none=>some (.bool (match d with|.none=>!neg|_=>neg))|_=>none
def qd7 (neg:Bool):OpD (JO neg):=⟨qke neg,false,λ{D G x y d e v q} hx hy hd hf k=>by
 unfold qke at hf;cases hy<;>try (simp at hf;done)
 cases hf;unfold JO;cases hx<;>exact k _ _ Ex.refl (.bl _) (λz=>by cases z)⟩
def ixD (d e:PyData):Option PyData:=match d,e with
 |.tuple xs,.int i=>atI xs i
 |.list xs,.int i=>atI xs i
 |_,_=>none
theorem Dqs.atI {i:Int} (h:Dqs G xs ds) (e:L2.atI ds i=some d):∃ x,L2.atI xs i=some x/\Dq G x d:=by
 unfold L2.atI at e ⊢;rw [h.length];obtain ⟨j,e1,e2⟩:=obb e;obtain ⟨x,hx,r⟩:=h.get e2;exact ⟨x,by rw [e1];exact hx,r⟩
def zi:OpD ix3:=⟨ixD,false,λ{D G x y d e v q} hx hy hd hf k=>by
 unfold ixD at hf;cases hx with
 |tup hs=>
  cases hy<;>try (simp at hf;done)
  obtain ⟨x,e1,r⟩:=hs.atI hf;simp only [ix3,e1];exact k _ _ Ex.refl r (λz=>by cases z)
 |lst g hs=>
  cases hy<;>try (simp at hf;done)
  obtain ⟨x,e1,r⟩:=hs.atI hf;simp only [ix3,zw (qI g).2,e1];exact k _ _ Ex.refl r (λz=>by cases z)
 |_=>simp at hf⟩
def qpz (d e:PyData):Option PyData:=match d,e with
 |.tuple xs,.tuple ys=>cif (xs≠[]/\xs.length+ys.length<=sizeLine) (some (.tuple (xs++ys))) none
 |.list xs,.list ys=>cif (xs.length+ys.length<=sizeLine) (some (.list (xs++ys))) none
 |.int i,.int j=>some (.int (i+j))
 |_,_=>none
def jy:OpD zU:=⟨qpz,false,λ{D G x y d e v q} hx hy hd hf k=>by
  unfold qpz at hf;cases hx with
  | int i => cases hy <;> try (simp at hf;done)
             cases hf;exact k _ _ Ex.refl (.int _) (λz=>by cases z)
  |tup hs=>
    cases hy<;>try (simp at hf;done)
    rename_i hs2;simp only [cif] at hf;split at hf
    · rename_i c;cases hf;refine ⟨?_,by rw [hs.length,hs2.length];exact c.2,k _ _ Ex.refl (.tup (hs.append hs2)) (λz=>by cases z)⟩;rintro rfl;cases hs;exact c.1 rfl
    · cases hf
  |lst g hs=>
    cases hy<;>try (simp at hf;done)
    rename_i g2 hs2;simp only [cif] at hf;split at hf
    · rename_i c;cases hf;simp only [zU,(qI g).2,(qI g2).2];exact ⟨by rw [hs.length,hs2.length];exact c,λp hp=>k _ _ (ja hp) (UU hd hp (hs.append hs2)) (λz=>by cases z)⟩
    · cases hf
  |_=>simp at hf⟩
def qps (d e:PyData):Option PyData:=match d,e with
 |.list xs,.list ys=>cif (xs.length+ys.length<=sizeLine) (some (.list (xs++ys))) none
 |_,_=>none
def qf2:OpD zU:=⟨qps,true,λ{D G x y d e v q} hx hy hd hf k=>by
 unfold qps at hf;cases hx with
 |lst g hs=>
  cases hy<;>try (simp at hf;done)
  rename_i g2 hs2;simp only [cif] at hf;split at hf
  ·rename_i c;cases hf;simp only [zU,(qI g).2,(qI g2).2];exact ⟨by rw [hs.length,hs2.length];exact c,λp hp=>k _ _ (ja hp) (UU hd hp (hs.append hs2)) λ_=>WR hp (hs.append hs2)⟩
  ·cases hf
 |_=>simp at hf⟩
def MC:PyData->Bool
 |.none=>true|.bool _=>true|.int _=>true|.str _=>true|_=>false
def qkb:PyData->PyData->Bool
 |.none,.none=>true
 |.bool a,.bool b=>a==b
 |.bool a,.int b=>(if a then 1 else 0)==b
 |.int a,.bool b=>a==(if b then 1 else 0)
 |.int a,.int b=>a==b
 |.str a,.str b=>a==b
 |_,_=>false
theorem XJ (h:Dq G x d):zm x=MC d:=by cases h<;>rfl
theorem EV {G:Gp}:∀ {x:List T} {d:List PyData},Dqs G x d->x.all zm=d.all MC
 |_,_,.nil=>rfl
 |_,_,.cons a b=>by rw [zn1,zn1,XJ a,EV b]
theorem qdI {y:T} {e:PyData} (h:Dq G x d) (h':Dq G y e):eqF x y=qkb d e:=by cases h<;>cases h'<;>rfl
theorem XC {G:Gp} {x:T} {d:PyData} (h:Dq G x d):∀ {ys:List T} {es:List PyData},Dqs G ys es->(ys.any λy=>eqF y x)=es.any λy=>qkb y d
 |_,_,.nil=>rfl
 |_,_,.cons a b=>by rw [xf2,xf2,qdI a h,XC h b]
def inD (neg:Bool) (d e:PyData):Option PyData:=match e with
 |.tuple ys=>cif (MC d=true/\ys.all MC=true) (some (.bool (if neg then !(ys.any λy=>qkb y d) else (ys.any λy=>qkb y d)))) none
 |.list ys=>cif (MC d=true/\ys.all MC=true) (some (.bool (if neg then !(ys.any λy=>qkb y d) else (ys.any λy=>qkb y d)))) none
 |_=>none
def qry (neg:Bool):OpD (in3 neg):=⟨inD neg,false,λ{D G x y d e v q} hx hy hd hf k=>by
 unfold inD at hf;cases hy with
 |tup hs=>
  simp only [cif] at hf;split at hf
  ·rename_i c;cases hf;refine ⟨by rw [XJ hx];exact c.1,by rw [EV hs];exact c.2,?_⟩;rw [XC hx hs];exact k _ _ Ex.refl (.bl _) (λz=>by cases z)
  ·cases hf
 |lst g hs=>
  simp only [cif] at hf;split at hf
  ·rename_i c;cases hf;refine ⟨by rw [XJ hx];exact c.1,?_⟩;simp only [zw (qI g).2];refine ⟨by rw [EV hs];exact c.2,?_⟩;rw [XC hx hs];exact k _ _ Ex.refl (.bl _) (λz=>by cases z)
  ·cases hf
 |_=>simp at hf⟩
def qlM (neg:Bool) (d e:PyData):Option PyData:=match e with
 |.tuple ys=>cif (∀ y∈ys,dpt y<=40) ((qa6 d ys).map λb=>.bool (if neg then !b else b)) none
 |.list ys=>cif (∀ y∈ys,dpt y<=40) ((qa6 d ys).map λb=>.bool (if neg then !b else b)) none
 |_=>none
def qi8 (neg:Bool):OpD (qrB neg):=⟨qlM neg,false,λ{D G x y d e v q} hx hy hd hf k=>by
 unfold qlM at hf;cases hy with
 |tup hs=>
  simp only [cif] at hf;split at hf
  ·rename_i c;obtain ⟨b,e1,rfl⟩:=zb5 hf;exact ⟨_,d,_,b,rfl,(hx.up ZC).dp,(hs.up ZC).dp,e1,c,k _ _ Ex.refl (.bl _) (λz=>by cases z)⟩
  ·cases hf
 |lst g hs=>
  simp only [cif] at hf;split at hf
  ·rename_i c;obtain ⟨b,e1,rfl⟩:=zb5 hf;exact ⟨_,d,_,b,zw (qI g).2,(hx.up ZC).dp,(hs.up ZC).dp,e1,c,k _ _ Ex.refl (.bl _) (λz=>by cases z)⟩
  ·cases hf
 |_=>simp at hf⟩
def qjM:List PyData->Option PyData
 |[.tuple xs]=>some (.int xs.length)
 |[.list xs]=>some (.int xs.length)
 |_=>none
def LW:FnD jV:=⟨qjM,false,λ{D G xs ds v q} hx hd hf k=>by
 unfold qjM at hf;split at hf
 ·cases hx with
  |cons a b=>cases b;cases a;rename_i hs;cases hf;simp only [jV];rw [hs.length];exact k _ _ Ex.refl (.int _) (λz=>by cases z)
 ·cases hx with
  |cons a b=>cases b;cases a;rename_i g hs;cases hf;simp only [jV,zw (qI g).2];rw [hs.length];exact k _ _ Ex.refl (.int _) (λz=>by cases z)
 ·cases hf⟩
def qpm:List PyData->Option PyData
 |[.tuple xs]=>some (.tuple xs)
 |[.list xs]=>some (.tuple xs)
 |_=>none
def qiE:FnD qM:=⟨qpm,false,λ{D G xs ds v q} hx hd hf k=>by
 unfold qpm at hf;split at hf
 ·cases hx with
  |cons a b=>cases b;cases a;rename_i hs;cases hf;exact k _ _ Ex.refl (.tup hs) (λz=>by cases z)
 ·cases hx with
  |cons a b=>cases b;cases a;rename_i g hs;cases hf;simp only [qM,zw (qI g).2];exact k _ _ Ex.refl (.tup hs) (λz=>by cases z)
 ·cases hf⟩
def qpp:List PyData->Option PyData
 |[.tuple xs]=>some (.list xs)
 |[.list xs]=>some (.list xs)
 |_=>none
def qpD:FnD zS:=⟨qpp,true,λ{D G xs ds v q} hx hd hf k=>by
 unfold qpp at hf;split at hf
 ·cases hx with
  |cons a b=>cases b;cases a;rename_i hs;cases hf;exact λp hp=>k _ _ (ja hp) (UU hd hp hs) λ_=>WR hp hs
 ·cases hx with
  |cons a b=>cases b;cases a;rename_i g hs;cases hf;simp only [zS,zw (qI g).2];exact λp hp=>k _ _ (ja hp) (UU hd hp hs) λ_=>WR hp hs
 ·cases hf⟩
def qay:List PyData->Option (List Bool)
 |[]=>some []
 |.bool i::r=>(qay r).map (i::·)
 |_=>none
theorem qdV (ns:List Bool):qay (ns.map PyData.bool)=some ns:=by
 induction ns with
 |nil=>rfl
 |cons n r ih=>simp [qay,ih]
theorem qaT {G:Gp}:∀ {xs:List T} {ds:List PyData} {ns:List Bool},Dqs G xs ds->qay ds=some ns->qhK xs=some (ns.all id)/\qpu xs=some (ns.any id)
 |_,_,_,.nil,h=>by simp [qay] at h;subst h;exact ⟨rfl,rfl⟩
 |_,.bool i::r,ns,.cons a b,h=>by
  simp only [qay] at h;obtain ⟨ms,e,rfl⟩:=zb5 h;obtain ⟨h1,h2⟩:=qaT b e;cases a;simp [qhK,qpu,h1,h2]
 |_,.int _::r,ns,_,h=>by simp [qay] at h
 |_,.none::r,ns,_,h=>by simp [qay] at h
 |_,.str _::r,ns,_,h=>by simp [qay] at h
 |_,.list _::r,ns,_,h=>by simp [qay] at h
 |_,.tuple _::r,ns,_,h=>by simp [qay] at h
 |_,.dict _::r,ns,_,h=>by simp [qay] at h
def qlU:List PyData->Option PyData
 |[.list xs]=>(qay xs).map λns=>.bool (ns.all id)
 |_=>none
def qpB:FnD JD:=⟨qlU,false,λ{D G xs ds v q} hx hd hf k=>by
 unfold qlU at hf;split at hf
 ·obtain ⟨ns,e,rfl⟩:=zb5 hf;cases hx with
  |cons a b=>cases b;cases a;rename_i g hs;simp only [JD,zw (qI g).2,(qaT hs e).1];exact k _ _ Ex.refl (.bl _) (λz=>by cases z)
 ·cases hf⟩
def mn:List Int->Int
 |[]=>0|[a]=>a|a::b::r=>min a (mn (b::r))
def mx:List Int->Int
 |[]=>0|[a]=>a|a::b::r=>max a (mx (b::r))
theorem qaB:∀ {ns:List Int} {m:Int},m∈ns->mn ns<=m
 |[a],m,h=>by simp at h;subst h;exact Int.le_refl _
 |a::b::r,m,h=>by
  unfold mn;rcases ze9.mp h with rfl|h
  ·omega
  ·have:=qaB h;omega
theorem CT:∀ {ns:List Int},ns≠[]->mn ns∈ns
 |[a],_=>by simp [mn]
 |a::b::r,_=>by
  unfold mn;have:=CT (ns:=b::r) (by simp);rcases Int.le_total a (mn (b::r)) with h|h
  ·rw [Int.min_eq_left h];simp
  ·rw [Int.min_eq_right h];exact za0 _ this
theorem qco:∀ {ns:List Int} {m:Int},m∈ns->m<=mx ns
 |[a],m,h=>by simp at h;subst h;exact Int.le_refl _
 |a::b::r,m,h=>by
  unfold mx;rcases ze9.mp h with rfl|h
  ·omega
  ·have:=qco h;omega
theorem WV:∀ {ns:List Int},ns≠[]->mx ns∈ns
 |[a],_=>by simp [mx]
 |a::b::r,_=>by
  unfold mx;have:=WV (ns:=b::r) (by simp);rcases Int.le_total a (mx (b::r)) with h|h
  ·rw [Int.max_eq_right h];exact za0 _ this
  ·rw [Int.max_eq_left h];simp
def mnD:List PyData->Option PyData
 |[.list xs]=>(JH xs).bind λns=>cif (ns≠[]) (some (.int (mn ns))) none
 |_=>none
def qcz:FnD qeV:=⟨mnD,false,λ{D G xs ds v q} hx hd hf k=>by
 unfold mnD at hf;split at hf
 ·obtain ⟨ns,e,hf⟩:=obb hf;unfold cif at hf;split at hf
  ·rename_i c;cases hf;cases hx with
   |cons a b=>
    cases b;cases a;rename_i g hs;have:=UA e;subst this;have:=hs.ints;subst this;simp only [qeV,zw (qI g).2,Q7];refine ⟨c,λm hm hl=>?_⟩;have:m=mn ns:=Int.le_antisymm (hl _ (CT c)) (qaB hm);subst this;exact k _ _ Ex.refl (.int _) (λz=>by cases z)
  ·cases hf
 ·cases hf⟩
def mxD:List PyData->Option PyData
 |[.list xs]=>(JH xs).bind λns=>cif (ns≠[]) (some (.int (mx ns))) none
 |_=>none
def K0:FnD qd5:=⟨mxD,false,λ{D G xs ds v q} hx hd hf k=>by
 unfold mxD at hf;split at hf
 ·obtain ⟨ns,e,hf⟩:=obb hf;unfold cif at hf;split at hf
  ·rename_i c;cases hf;cases hx with
   |cons a b=>
    cases b;cases a;rename_i g hs;have:=UA e;subst this;have:=hs.ints;subst this;simp only [qd5,zw (qI g).2,Q7];refine ⟨c,λm hm hl=>?_⟩;have:m=mx ns:=Int.le_antisymm (qco hm) (hl _ (WV c));subst this;exact k _ _ Ex.refl (.int _) (λz=>by cases z)
  ·cases hf
 ·cases hf⟩
def PSp (F:List PyData->Option PyData) (fr:Bool):Sp3:=λts G q=>∃ (D:Addr->Prop) (ds:List PyData) (d:PyData),Dqs (rs D G) ts ds/\Dom D G/\F ds=some d/\∀ x G',Ex G G'->Dq (rs D G') x d->(fr=true->Nw D G G' x d)->q x G'
def qR (F:List PyData->Option PyData) (fr:Bool):FnD (PSp F fr):=⟨F,fr,λ{D G xs ds v q} hx hd hf k=>⟨D,ds,v,hx,hd,hf,k⟩⟩
def qdx:PyData->Option (List PyData)
 |.tuple xs=>some xs
 |.list xs=>some xs
 |_=>none
def WE (a:PuE t):PuI (qdR t):=⟨λρ=>(a.f ρ).bind qdx,a.fv,false,λ{D τ ρ G r ds} hv hd hf k=>by
 obtain ⟨d,e1,hf⟩:=obb hf;refine a.ok hv hd e1 λx G1 E1 D1 _=>?_;unfold qdx at hf;cases D1 with
 |tup hs=>cases hf;exact k _ _ _ E1 hs (λ_ _=>trivial) (λz=>by cases z)
 |lst g hs=>
  cases hf;simp only [zw (qI g).2];refine k _ _ _ E1 hs (λG2 h=>?_) (λz=>by cases z);rcases h with h|h
  ·cases h
  ·exact zw (h _ _ g)
 |_=>simp at hf⟩
def zh (lo:Int) (n:Nat):List Int:=(zg5 n).map λ(i:Nat)=>lo+(i:Int)
theorem qgm (lo:Int) (n:Nat):N7 lo n=(zh lo n).map T.int:=by simp [N7,zh,zg8,ze6]
def qhH:List PyData->Option (List PyData)
 |[.int j]=>cif (-(2 ^ 62)<=j/\j<2 ^ 62) (some ((zh 0 j.toNat).map PyData.int)) none
 |[.int i,.int j]=>cif (-(2 ^ 62)<=i/\i<2 ^ 62/\-(2 ^ 62)<=j/\j<2 ^ 62) (some ((zh i (j-i).toNat).map PyData.int)) none
 |_=>none
def X9 {t:TA3} (a:PuA t):PuI (QW t):=⟨λρ=>(a.f ρ).bind qhH,a.fv,true,λ{D τ ρ G r ds} hv hd hf k=>by
 obtain ⟨d,e1,hf⟩:=obb hf;refine a.ok hv hd e1 λx G1 E1 D1=>?_;unfold qhH at hf;split at hf
 ·unfold cif at hf;split at hf
  ·rename_i c;cases hf;cases D1 with
   |cons a b=>cases b;cases a;simp only;rw [qgm];exact ⟨c,k _ _ _ E1 (Dqs.ofInts _) (λ_ _=>trivial) λ_=>⟨_,rfl⟩⟩
  ·cases hf
 ·unfold cif at hf;split at hf
  ·rename_i c;cases hf;cases D1 with
   |cons a b=>cases b with
    |cons b c'=>cases c';cases a;cases b;simp only;rw [qgm];exact ⟨c,k _ _ _ E1 (Dqs.ofInts _) (λ_ _=>trivial) λ_=>⟨_,rfl⟩⟩
  ·cases hf
 ·cases hf⟩
def qqi (us vs:List PyData):List PyData:=(us.zip vs).map λp=>.tuple [p.1,p.2]
theorem Dqs.zip {G:Gp}:∀ {xs:List T} {ds:List PyData} {ys:List T} {es:List PyData},Dqs G xs ds->Dqs G ys es->Dqs G (qb7 xs ys) (qqi ds es)
 |_,_,_,_,.nil,_=>by simp [qb7,qqi];exact .nil
 |_,_,_,_,.cons _ _,.nil=>by simp [qb7,qqi];exact .nil
 |_,_,_,_,.cons a b,.cons c d=>.cons (.tup (.cons a (.cons c .nil))) (Dqs.zip b d)
theorem qeP (h:Dq G x d) (e:qdx d=some ds):∃ us,zV G x=some us/\Dqs G us ds:=by
 unfold qdx at e;cases h with
 |tup hs=>cases e;exact ⟨_,rfl,hs⟩
 |lst g hs=>cases e;exact ⟨_,zw g,hs⟩
 |_=>simp at e
theorem qfJ {us:List T} (e:Ex G G') (h:zV G x=some us):zV G' x=some us:=by
 cases x with
 |tup xs=>exact h
 |ref p=>exact e.getL h
 |_=>cases h
def enD (k:Nat):List PyData->List PyData
 |[]=>[]
 |x::r=>.tuple [.int (k:Int),x]::enD (k+1) r
theorem Dqs.enum {G:Gp}:∀ {xs:List T} {ds:List PyData} (k:Nat),Dqs G xs ds->Dqs G (jN k xs) (enD k ds)
 |_,_,_,.nil=>.nil
 |_,_,k,.cons a b=>.cons (.tup (.cons (.int _) (.cons a .nil))) (Dqs.enum (k+1) b)
def qjW {t:TA3} (a:PuA t):PuI (C9 t):=⟨λρ=>(a.f ρ).bind λds=>match ds with|[d]=>(qdx d).map λus=>enD 0 us|_=>none,a.fv,false,λ{D τ ρ G r ds} hv hd hf k=>by
 obtain ⟨d,e1,hf⟩:=obb hf;refine a.ok hv hd e1 λx G1 E1 D1=>?_;split at hf
 ·obtain ⟨us,e2,rfl⟩:=zb5 hf;cases D1 with
  |cons a b=>
   cases b;obtain ⟨us',h1,h2⟩:=qeP a e2;simp only [qfJ ZC h1];refine k _ _ _ E1 (h2.enum 0) (λG2 h=>?_) (λz=>by cases z);rcases h with h|h
   ·cases h
   ·exact qfJ h h1
 ·cases hf⟩
inductive Bd (H:Gp):List (Nat×T)->List (Nat×PyData)->Prop
 |nil:Bd H [] []
 |cons {i:Nat} {x:T} {d:PyData} {ts:List (Nat×T)} {bs:List (Nat×PyData)}:Dq H x d->Bd H ts bs->Bd H ((i,x)::ts) ((i,d)::bs)
theorem Bd.append {H:Gp}:∀ {ts:List (Nat×T)} {bs:List (Nat×PyData)} {us:List (Nat×T)} {cs:List (Nat×PyData)},Bd H ts bs->Bd H us cs->Bd H (ts++us) (bs++cs)
 |_,_,_,_,.nil,h=>h
 |_,_,_,_,.cons a b,h=>.cons a (Bd.append b h)
theorem Bd.up {H H':Gp} (e:Ex H H'):∀ {ts:List (Nat×T)} {bs:List (Nat×PyData)},Bd H ts bs->Bd H' ts bs
 |_,_,.nil=>.nil
 |_,_,.cons a b=>.cons (a.up e) (Bd.up e b)
def sets:St3->List (Nat×T)->St3
 |τ,[]=>τ
 |τ,p::r=>sets (τ.set p.1 (some p.2)) r
def jR:Rho->List (Nat×PyData)->Rho
 |ρ,[]=>ρ
 |ρ,p::r=>jR (ρ.set p.1 (.sh p.2)) r
theorem MV:∀ (τ:St3) (a b:List (Nat×T)),sets τ (a++b)=sets (sets τ a) b
 |τ,[],b=>rfl
 |τ,p::a,b=>by simp only [zm6,sets];exact MV _ a b
structure PuG (g:TG3) where
 f:PyData->Option (List (Nat×PyData))
 tg:List Nat
 at':∀ {d bs},f d=some bs->∀ p∈bs,p.1∈tg
 ok:∀ {H x d bs},Dq H x d->f d=some bs->∃ ts,Bd H ts bs/\∀ τ G (q:St3->Gp->Prop),q (sets τ ts) G->g x τ G q
structure PuGs (g:M0) where
 f:List PyData->Option (List (Nat×PyData))
 tg:List Nat
 at':∀ {d bs},f d=some bs->∀ p∈bs,p.1∈tg
 ok:∀ {H x d bs},Dqs H x d->f d=some bs->∃ ts,Bd H ts bs/\∀ τ G (q:St3->Gp->Prop),q (sets τ ts) G->g x τ G q
def gN (i:Nat):PuG (gn3 i):=⟨λd=>some [(i,d)],[i],λh p hp=>by cases h;simp at hp;subst hp;simp,λhx h=>by cases h;exact ⟨_,.cons hx .nil,λτ G q hq=>hq⟩⟩
def DK:PuGs za:=⟨λds=>match ds with|[]=>some []|_=>none,[],(λh p hp=>by split at h;cases h;cases hp;cases h),λhx h=>by
 split at h
 ·cases h;cases hx;exact ⟨[],.nil,λτ G q hq=>hq⟩
 ·cases h⟩
def qQ {t:TG3} {u:M0} (a:PuG t) (b:PuGs u):PuGs (qr t u):=⟨λds=>match ds with|d::r=>(a.f d).bind λx=>(b.f r).map λy=>x++y|[]=>none,a.tg++b.tg,(λh p hp=>by
 split at h
 ·obtain ⟨x,e1,h⟩:=obb h;obtain ⟨y,e2,rfl⟩:=zb5 h;rcases zk7.mp hp with z|z
  ·exact zk7.mpr (.inl (a.at' e1 p z))
  ·exact zk7.mpr (.inr (b.at' e2 p z))
 ·cases h),λhx h=>by
 split at h
 ·obtain ⟨x,e1,h⟩:=obb h;obtain ⟨y,e2,rfl⟩:=zb5 h;cases hx with
  |cons hx hr=>
   obtain ⟨ts,b1,k1⟩:=a.ok hx e1;obtain ⟨us,b2,k2⟩:=b.ok hr e2;refine ⟨ts++us,b1.append b2,λτ G q hq=>k1 τ G _ (k2 _ G q ?_)⟩;rw [← MV];exact hq
 ·cases h⟩
def DQ {u:M0} (n:Nat) (b:PuGs u):PuG (zd n u):=⟨λd=>match d with|.tuple ds=>if ds.length=n then b.f ds else none|_=>none,b.tg,(λh p hp=>by
 split at h
 ·split at h
  ·exact b.at' h p hp
  ·cases h
 ·cases h),λhx h=>by
 split at h
 ·split at h
  ·rename_i c;cases hx with
   |tup hs=>
    obtain ⟨ts,b1,k1⟩:=b.ok hs h;exact ⟨ts,b1,λτ G q hq=>⟨by rw [hs.length];exact c,k1 τ G q hq⟩⟩
  ·cases h
 ·cases h⟩
structure VA (D:Addr->Prop) (G:Gp) (τ:St3) (ρ:Rho):Prop where
 len:ρ.length=τ.length
 vw:∀ i d,vw ρ i=some d->∃ t,τ[i]?=some (some t)/\Dq (rs D G) t d
theorem VA.view (h:VA D G τ ρ) (fv:List Nat):X8 fv D G τ ρ:=λi _ d e=>h.vw i d e
theorem VA.upx (h:VA D G τ ρ) (e:Ex (rs D G) (rs D G')):VA D G' τ ρ:=⟨h.len,λi d hd=>let ⟨t,a,b⟩:=h.vw i d hd;⟨t,a,b.up e⟩⟩
theorem VA.up (h:VA D G τ ρ) (e:Ex G G'):VA D G' τ ρ:=h.upx (jW e)
variable {i:Nat}
theorem qgM {j:Nat} {s:Sl}:vw (ρ.set i s) j=if i=j then (if i<ρ.length then s.d else none) else vw ρ j:=by
 unfold vw;rw [zg3];split
 ·subst j;split
  ·rfl
  ·rfl
 ·rfl
theorem VA.set (h:VA D G τ ρ) (hx:Dq (rs D G) x d):VA D G (τ.set i (some x)) (ρ.set i (.sh d)):=by
 refine ⟨by simp [h.len],λj e he=>?_⟩;rw [qgM] at he;split at he
 ·subst j;split at he
  ·rename_i l;cases he;refine ⟨x,?_,hx⟩;rw [zg3,if_pos rfl,if_pos (by rw [← h.len];exact l)]
  ·cases he
 ·rename_i n;obtain ⟨t,a,b⟩:=h.vw j e he;exact ⟨t,by rw [zg3,if_neg n];exact a,b⟩
theorem VA.sets {D:Addr->Prop} {G:Gp}:∀ {ts:List (Nat×T)} {bs:List (Nat×PyData)} {τ:St3} {ρ:Rho},VA D G τ ρ->Bd (rs D G) ts bs->VA D G (Pu.sets τ ts) (jR ρ bs)
 |_,_,_,_,h,.nil=>h
 |_,_,_,_,h,.cons a b=>by unfold Pu.sets jR;exact VA.sets (h.set a) b
theorem VA.keep {D:Addr->Prop} {G:Gp} {ρ:Rho}:∀ {ts:List (Nat×T)} {τ:St3},VA D G τ ρ->(∀ p∈ts,Pu.vw ρ p.1=none)->VA D G (Pu.sets τ ts) ρ
 |[],_,h,_=>h
 |p::r,τ,h,hn=>VA.keep (ts:=r) ⟨by rw [zn9];exact h.len,λj d hd=>by
   have:p.1≠j:=by rintro rfl;rw [hn p (by simp)] at hd;cases hd
   obtain ⟨t,a,b⟩:=h.vw j d hd;exact ⟨t,by rw [zg3,if_neg this];exact a,b⟩⟩ λq hq=>hn q (by simp [hq])
def RA (m:List (Option Nat)) (ρ:Rho):Rho:=m.map λo=>match o with|some j=>(match vw ρ j with|some d=>.sh d|none=>.un)|none=>.un
variable {m:List (Option Nat)}
theorem VA.cap (h:X8 (m.filterMap id) D G τ ρ):VA D G (L3.cap m τ) (RA m ρ):=by
 refine ⟨by simp [RA,L3.cap],λi d hd=>?_⟩;unfold Pu.vw RA at hd;rw [ze5] at hd;cases e:m[i]? with
 |none=>rw [e] at hd;cases hd
 |some o=>
  rw [e] at hd;cases o with
  |none=>cases hd
  |some j=>
   simp only [xf9,ze7] at hd;cases e2:Pu.vw ρ j with
   |none=>rw [e2] at hd;cases hd
   |some d'=>
    rw [e2] at hd;have hd':d'=d:=by simpa [Sl.d] using hd
    subst hd';obtain ⟨t,a,b⟩:=h j (xg2.mpr ⟨some j,za3 e,rfl⟩) d' e2;refine ⟨t,?_,b⟩;unfold L3.cap;rw [ze5,e];simp [a]
theorem SN (h:m[i]?=some none):vw (RA m ρ) i=none:=by
 unfold vw RA;rw [ze5,h];rfl
def lcP (h:PyData->Option (Option PyData)):List PyData->Option (List PyData)
 |[]=>some []
 |d::r=>(h d).bind λo=>(lcP h r).bind λys=>some (match o with|some y=>y::ys|none=>ys)
def lcH (gf:PyData->Option (List (Nat×PyData))) (cf:Rho->Option Bool) (ef:Rho->Option PyData) (ρ:Rho) (d:PyData):Option (Option PyData):=
 (gf d).bind λbs=>(cf (jR ρ bs)).bind λk=>if k then (ef (jR ρ bs)).map some else some none
variable {h:PyData->Option (Option PyData)} {g k:α->PyData}
theorem zu {xs:List α} (hh:∀ a∈xs,h (g a)=some (some (k a))):lcP h (xs.map g)=some (xs.map k):=by
 induction xs with
 |nil=>rfl
 |cons a r ih=>simp only [zg2,lcP,hh a (by simp),ze7,ih λb hb=>hh b (by simp [hb])]
theorem jU {c:α->Bool} {xs:List α} (hh:∀ a∈xs,h (g a)=some (if c a then some (k a) else none)):lcP h (xs.map g)=some ((xs.filter c).map k):=by
 induction xs with
 |nil=>rfl
 |cons a r ih=>
  simp only [zg2,lcP,hh a (by simp),ze7,ih λb hb=>hh b (by simp [hb])];cases e:c a with
  |true=>simp [e]
  |false=>simp [e]
theorem qbB {H:Gp}:∀ {ts:List (Nat×T)} {bs:List (Nat×PyData)},Bd H ts bs->∀ p∈ts,∃ q∈bs,q.1=p.1
 |_,_,.nil,p,hp=>by cases hp
 |_,_,.cons a b,p,hp=>by
  rcases ze9.mp hp with rfl|hp
  ·exact ⟨_,za7,rfl⟩
  ·obtain ⟨q,hq,e⟩:=qbB b p hp;exact ⟨q,by simp [hq],e⟩
theorem qjz {stay:Gp->Prop} {g:TG3} {tif:TT3} {te:TE3} {q:Q3} (pg:PuG g) (pc:PuC tif) (pe:PuE te) {D:Addr->Prop} {ρ0:Rho} {G0:Gp} (hs:∀ G,Ex G0 G->stay G) (hm:∀ i∈pg.tg,vw ρ0 i=none) (fin:List PyData) (hfin:fin.length<=sizeLine)
  (k:∀ G ys,Ex G0 G->Dqs (rs D G) ys fin->∀ p,G p=none->q (.ref p) (gu G p (.lst ys))) :
  ∀ (ds:List PyData) (items ys:List T) (es fs:List PyData) (τ:St3) (G:Gp),Dqs (rs D G0) items ds->VA D G τ ρ0->Ex G0 G->Dom D G->Dqs (rs D G) ys es->lcP (lcH pg.f pc.f pe.f ρ0) ds=some fs->es++fs=fin->RE stay g tif te q items ys τ G
 |_,_,ys,es,fs,τ,G,.nil,va,E,hd,hy,hf,hl=>by
  cases hf;rw [zh0] at hl;subst hl;exact ⟨hs G E,k G ys E hy⟩
 |d::ds,x::items,ys,es,fs,τ,G,.cons hx hr,va,E,hd,hy,hf,hl=>by
  unfold lcP at hf;obtain ⟨o,e1,hf⟩:=obb hf;obtain ⟨jz,e2,hf⟩:=obb hf;unfold lcH at e1;obtain ⟨bs,e3,e1⟩:=obb e1;obtain ⟨c,e4,e1⟩:=obb e1;obtain ⟨ts,bd,kg⟩:=pg.ok (hx.up (jW E)) e3;refine ⟨hs G E,kg τ G _ ?_⟩;have va1:=va.sets bd;have va2:=va.keep (ts:=ts) λp hp=>by
   obtain ⟨q,hq,e⟩:=qbB bd p hp;rw [← e];exact hm _ (pg.at' e3 q hq)
  refine pc.ok (va1.view _) hd e4 λG1 E1=>?_;cases c with
  |true=>
   rw [if_pos rfl];rw [if_pos rfl] at e1;obtain ⟨y,e5,rfl⟩:=zb5 e1;simp only [zm4] at hf;subst hf;refine pe.ok ((va1.up E1).view _) (hd.up E1) e5 λz G2 E2 D2 _=>⟨?_,?_⟩
   ·rw [hy.length];rw [← hl] at hfin;simp at hfin;omega
   ·refine qjz pg pc pe hs hm fin hfin k ds items (ys++[z]) (es++[y]) jz _ G2 hr ((va2.up E1).up E2) (E.trans (E1.trans E2)) ((hd.up E1).up E2) (((hy.up (jW E1)).up (jW E2)).append (.cons D2 .nil)) e2 ?_;rw [← hl];simp
  |false=>
   rw [if_neg v8];simp at e1;subst e1;simp only [zm4] at hf;subst hf;exact qjz pg pc pe hs hm fin hfin k ds items ys es jz _ G1 hr (va2.up E1) (E.trans E1) (hd.up E1) (hy.up (jW E1)) e2 hl
def lcF (pi:Rho->Option (List PyData)) (h:Rho->PyData->Option (Option PyData)) (m:List (Option Nat)) (ρ:Rho):Option PyData:=
 (pi ρ).bind λds=>(lcP (h (RA m ρ)) ds).bind λfs=>cif (fs.length<=sizeLine) (some (.list fs)) none
variable {wi:TI3}
def bLc {g:TG3} {tif:TT3} (pi:PuI wi) (pg:PuG g) (pc:PuC tif) (pe:PuE te) (m:List (Option Nat)) (hm:Tru (pg.tg.all λi=>m[i]?==some none)):PuE (lc3 wi g tif te m):=
 ⟨lcF pi.f (lcH pg.f pc.f pe.f) m,pi.fv++m.filterMap id,true,λ{D τ ρ G q d} hv hd hf k=>by
  unfold lcF at hf;obtain ⟨ds,e1,hf⟩:=obb hf;obtain ⟨fs,e2,hf⟩:=obb hf;unfold cif at hf;split at hf
  ·rename_i hl;cases hf;refine pi.ok hv.l hd e1 λitems stay G1 E1 D1 hs _=>?_;have va:=(VA.cap (m:=m) hv.r).up E1;refine qjz pg pc pe (D:=D) (ρ0:=RA m ρ) (G0:=G1) (λG2 E2=>hs G2 (.inr (ZC.trans E2))) (λi hi=>SN ?_) fs hl (λG2 ys E2 D2 p hp=>?_) ds items [] [] fs _ G1 D1 va Ex.refl (hd.up E1) .nil e2 (by simp)
   ·have:=zi7.mp hm.h i hi;simpa using this
   ·exact k _ _ ((E1.trans E2).trans (ja hp)) (UU ((hd.up E1).up E2) hp D2) λ_=>(WR hp D2).back (E1.trans E2)
  ·cases hf⟩
def E0 (p:Addr) (G G':Gp):Prop:=∀ b o,b≠p->G b=some o->G' b=some o
theorem E0.refl:E0 p G G:=λ_ _ _ e=>e
variable {G1:Gp}
theorem E0.trans {G2:Gp} (a:E0 p G G1) (b:E0 p G1 G2):E0 p G G2:=λx o n e=>b x o n (a x o n e)
theorem E0.of (a:Ex G G1):E0 p G G1:=λx o _ e=>a x o e
theorem E0.wr:E0 p G (gu G p o):=λb ob n e=>by rw [QU n];exact e
theorem E0.rs (a:E0 p G G1):Ex (rs (λb=>D b\/b=p) G) (rs (λb=>D b\/b=p) G1):=λb o h=>by
 obtain ⟨n,h⟩:=qI h;rw [jQ n];exact a b o (λz=>n (.inr z)) h
theorem qnw (h:Dom D G):Dom D (gu G p o):=λb d z=>by
 by_cases e:b=p
 ·subst e;rw [qN] at z;cases z
 ·rw [QU e] at z;exact h b d z
theorem qi6 {p:Addr} {stay:Gp->Prop} {g:TG3} {tif:TT3} {te:TE3} {N:St3->Gp->Prop} (pg:PuG g) (pc:PuC tif) (pe:PuE te) {D:Addr->Prop} {ρ0:Rho} {G0:Gp} (hs:∀ G,Ex (rs (λb=>D b\/b=p) G0) G->stay G) (hm:∀ i∈pg.tg,vw ρ0 i=none) (fin:List PyData) (hfin:fin.length<=sizeLine)
  (k:∀ τ G ys,VA (λb=>D b\/b=p) G τ ρ0->E0 p G0 G->Dom (λb=>D b\/b=p) G->G p=some (.lst ys)->Dqs (rs (λb=>D b\/b=p) G) ys fin->N τ G) :
  ∀ (ds:List PyData) (items ys:List T) (es fs:List PyData) (τ:St3) (G:Gp),Dqs (rs (λb=>D b\/b=p) G0) items ds->VA (λb=>D b\/b=p) G τ ρ0->E0 p G0 G->Dom (λb=>D b\/b=p) G->G p=some (.lst ys)->Dqs (rs (λb=>D b\/b=p) G) ys es->lcP (lcH pg.f pc.f pe.f ρ0) ds=some fs->es++fs=fin->qj8 p stay g tif te N items τ G
 |_,_,ys,es,fs,τ,G,.nil,va,E,hd,gp,hy,hf,hl=>by
  cases hf;rw [zh0] at hl;subst hl;exact ⟨hs G (E.rs.trans ZC),k τ G ys va E hd gp hy⟩
 |d::ds,x::items,ys,es,fs,τ,G,.cons hx hr,va,E,hd,gp,hy,hf,hl=>by
  unfold lcP at hf;obtain ⟨o,e1,hf⟩:=obb hf;obtain ⟨jz,e2,hf⟩:=obb hf;unfold lcH at e1;obtain ⟨bs,e3,e1⟩:=obb e1;obtain ⟨c,e4,e1⟩:=obb e1;obtain ⟨ts,bd,kg⟩:=pg.ok (hx.up E.rs) e3;refine ⟨hs G (E.rs.trans ZC),kg τ G _ ?_⟩;have va1:=va.sets bd;have va2:=va.keep (ts:=ts) λp hp=>by
   obtain ⟨q,hq,e⟩:=qbB bd p hp;rw [← e];exact hm _ (pg.at' e3 q hq)
  refine pc.ok (va1.view _) hd e4 λG1 E1=>?_;cases c with
  |true=>
   rw [if_pos rfl];rw [if_pos rfl] at e1;obtain ⟨y,e5,rfl⟩:=zb5 e1;simp only [zm4] at hf;subst hf;refine pe.ok ((va1.up E1).view _) (hd.up E1) e5 λz G2 E2 D2 _=>?_;simp only [E2 _ _ (E1 _ _ gp)];have W:E0 p G2 (gu G2 p (.lst (ys++[z]))):=E0.wr;refine ⟨?_,?_⟩
   ·rw [hy.length];rw [← hl] at hfin;simp at hfin;omega
   ·refine qi6 pg pc pe hs hm fin hfin k ds items (ys++[z]) (es++[y]) jz _ _ hr (((va2.up E1).up E2).upx W.rs) ((E.trans (E0.of (E1.trans E2))).trans W) (qnw ((hd.up E1).up E2)) qN ((((hy.up (jW E1)).up (jW E2)).append (.cons D2 .nil)).up W.rs) e2 ?_;rw [← hl];simp
  |false=>
   rw [if_neg v8];simp at e1;subst e1;simp only [zm4] at hf;subst hf;exact qi6 pg pc pe hs hm fin hfin k ds items ys es jz _ G1 hr (va2.up E1) (E.trans (E0.of E1)) (hd.up E1) (E1 _ _ gp) (hy.up (jW E1)) e2 hl
def qjy (h:PyData->Option (Option (List PyData))):List PyData->Option (List PyData)
 |[]=>some []
 |d::r=>(h d).bind λo=>(qjy h r).bind λys=>some (match o with|some y=>y++ys|none=>ys)
def qoM (gf:PyData->Option (List (Nat×PyData))) (cf:Rho->Option Bool) (it:Rho->Option (List PyData)) (h:Rho->PyData->Option (Option PyData)) (ρ:Rho) (d:PyData):Option (Option (List PyData)):=
 (gf d).bind λbs=>(cf (jR ρ bs)).bind λk=>if k then ((it (jR ρ bs)).bind λds=>lcP (h (jR ρ bs)) ds).map some else some none
theorem SV:∀ {bs:List (Nat×PyData)} {ρ:Rho} {i:Nat},(∀ p∈bs,p.1≠i)->vw (jR ρ bs) i=vw ρ i
 |[],_,_,_=>rfl
 |p::r,ρ,i,h=>by
  unfold jR;rw [SV (λq hq=>h q (by simp [hq])),qgM,if_neg (h p (by simp))]
theorem NK:∀ (bs:List (Nat×PyData)) (ρ:Rho),(jR ρ bs).length=ρ.length
 |[],τ=>rfl
 |p::r,τ=>by unfold jR;rw [NK r];simp
theorem qcR {p:Addr} {stay:Gp->Prop} {g g2:TG3} {tif tif2:TT3} {wi2:TI3} {te:TE3} {q:Q3} (pg:PuG g) (pc:PuC tif) (pi2:PuI wi2) (pg2:PuG g2) (pc2:PuC tif2) (pe:PuE te) {D:Addr->Prop} {ρ0:Rho} {G0:Gp} (hs:∀ G,Ex (rs (λb=>D b\/b=p) G0) G->stay G) (hm:∀ i∈pg.tg,vw ρ0 i=none) (hm2:∀ i∈pg2.tg,vw ρ0 i=none) (hdj:∀ i∈pg2.tg,i∉pg.tg) (fin:List PyData) (hfin:fin.length<=sizeLine)
  (k:∀ G ys,E0 p G0 G->G p=some (.lst ys)->Dqs (rs (λb=>D b\/b=p) G) ys fin->q (.ref p) G) :
  ∀ (ds:List PyData) (items ys:List T) (es fs:List PyData) (τ:St3) (G:Gp),Dqs (rs (λb=>D b\/b=p) G0) items ds->VA (λb=>D b\/b=p) G τ ρ0->E0 p G0 G->Dom (λb=>D b\/b=p) G->G p=some (.lst ys)->Dqs (rs (λb=>D b\/b=p) G) ys es->qjy (qoM pg.f pc.f pi2.f (lcH pg2.f pc2.f pe.f) ρ0) ds=some fs->es++fs=fin->qcL p stay g tif wi2 g2 tif2 te q items τ G
 |_,_,ys,es,fs,τ,G,.nil,va,E,hd,gp,hy,hf,hl=>by
  cases hf;rw [zh0] at hl;subst hl;exact ⟨hs G (E.rs.trans ZC),k G ys E gp hy⟩
 |d::ds,x::items,ys,es,fs,τ,G,.cons hx hr,va,E,hd,gp,hy,hf,hl=>by
  unfold qjy at hf;obtain ⟨o,e1,hf⟩:=obb hf;obtain ⟨jz,e2,hf⟩:=obb hf;unfold qoM at e1;obtain ⟨bs,e3,e1⟩:=obb e1;obtain ⟨c,e4,e1⟩:=obb e1;obtain ⟨ts,bd,kg⟩:=pg.ok (hx.up E.rs) e3;refine ⟨hs G (E.rs.trans ZC),kg τ G _ ?_⟩;have va1:=va.sets bd;have va2:=va.keep (ts:=ts) λp hp=>by
   obtain ⟨q,hq,e⟩:=qbB bd p hp;rw [← e];exact hm _ (pg.at' e3 q hq)
  refine pc.ok (va1.view _) hd e4 λG1 E1=>?_;cases c with
  |true=>
   rw [if_pos rfl];rw [if_pos rfl] at e1;obtain ⟨y,e5,rfl⟩:=zb5 e1;obtain ⟨ds2,e6,e5⟩:=obb e5;simp only [zm4] at hf;subst hf;refine pi2.ok ((va1.up E1).view _) (hd.up E1) e6 λitems2 stay2 G2 E2 D2 hs2 _=>?_;have l2:(es++y).length<=sizeLine:=by
    rw [← hl] at hfin;simp at hfin ⊢;omega
   refine qi6 pg2 pc2 pe (ρ0:=jR ρ0 bs) (G0:=G2) (λG3 E3=>hs2 G3 (.inr E3)) (λi hi=>?_) (es++y) l2 (λτ3 G3 zs va3 E3 hd3 gp3 hz=>?_) ds2 items2 ys es y _ G2 D2 ((va1.up E1).up E2) E0.refl ((hd.up E1).up E2) (E2 _ _ (E1 _ _ gp)) ((hy.up (jW E1)).up (jW E2)) e5 rfl
   ·rw [SV λq hq e=>hdj i hi (by rw [← e];exact pg.at' e3 q hq)];exact hm2 i hi
   ·have E4:E0 p G G3:=(E0.of (E1.trans E2)).trans E3;have va4:VA (λb=>D b\/b=p) G3 τ3 ρ0:=⟨by rw [← va3.len,NK],λi d' hd'=>va3.vw i d' (by
     rw [SV λq hq e=>?_];exact hd';rw [← e,hm _ (pg.at' e3 q hq)] at hd';cases hd')⟩
    exact qcR pg pc pi2 pg2 pc2 pe hs hm hm2 hdj fin hfin k ds items zs (es++y) jz τ3 G3 hr va4 (E.trans E4) hd3 gp3 hz e2 (by rw [← hl];simp)
  |false=>
   rw [if_neg v8];simp at e1;subst e1;simp only [zm4] at hf;subst hf;exact qcR pg pc pi2 pg2 pc2 pe hs hm hm2 hdj fin hfin k ds items ys es jz _ G1 hr (va2.up E1) (E.trans (E0.of E1)) (hd.up E1) (E1 _ _ gp) (hy.up (jW E1)) e2 hl
def qnR (pi:Rho->Option (List PyData)) (h:Rho->PyData->Option (Option (List PyData))) (m:List (Option Nat)) (ρ:Rho):Option PyData:=
 (pi ρ).bind λds=>(qjy (h (RA m ρ)) ds).bind λfs=>cif (fs.length<=sizeLine) (some (.list fs)) none
theorem R8 {h:PyData->Option (Option (List PyData))} {k:α->List PyData} {xs:List α} (hh:∀ a∈xs,h (g a)=some (some (k a))):qjy h (xs.map g)=some (xs.flatMap k):=by
 induction xs with
 |nil=>rfl
 |cons a r ih=>simp only [zg2,qjy,hh a (by simp),ze7,ih λb hb=>hh b (by simp [hb]),xb0]
def qmr {wi2:TI3} {g g2:TG3} {tif tif2:TT3} (pi:PuI wi) (pg:PuG g) (pc:PuC tif) (pi2:PuI wi2) (pg2:PuG g2) (pc2:PuC tif2) (pe:PuE te) (m:List (Option Nat)) (hm:Tru (pg.tg.all λi=>m[i]?==some none)) (hm2:Tru (pg2.tg.all λi=>m[i]?==some none)) (hdj:Tru (pg2.tg.all λi=>!pg.tg.contains i)):PuE (qiL wi g tif wi2 g2 tif2 te m):=
 ⟨qnR pi.f (qoM pg.f pc.f pi2.f (lcH pg2.f pc2.f pe.f)) m,pi.fv++m.filterMap id,true,λ{D τ ρ G q d} hv hd hf k=>by
  unfold qnR at hf;obtain ⟨ds,e1,hf⟩:=obb hf;obtain ⟨fs,e2,hf⟩:=obb hf;unfold cif at hf;split at hf
  ·rename_i hl;cases hf;refine pi.ok hv.l hd e1 λitems stay G1 E1 D1 hs _ p hp=>?_;have va:=(VA.cap (m:=m) hv.r).up E1;have np:∀ {b o},G1 b=some o->b≠p:=λe=>by rintro rfl;rw [hp] at e;cases e
   have X1:Ex (rs D G1) (rs (λb=>D b\/b=p) (gu G1 p (.lst []))):=λb o e=>by
    obtain ⟨n,e⟩:=qI e;rw [jQ (by rintro (z|z);exact n z;exact np e z),QU (np e)];exact e
   refine qcR pg pc pi2 pg2 pc2 pe (D:=D) (ρ0:=RA m ρ) (G0:=gu G1 p (.lst [])) (p:=p) (λG2 E2=>hs G2 (.inr (X1.trans E2))) (λi hi=>SN ?_) (λi hi=>SN ?_) (λi hi hj=>?_) fs hl (λG2 ys E2 gp D2=>?_) ds items [] [] fs _ _ (D1.up X1) ⟨va.len,λi d hd=>let ⟨t,a,b⟩:=va.vw i d hd;⟨t,a,b.up X1⟩⟩ E0.refl ?_ qN .nil e2 (by simp)
   ·simpa using zi7.mp hm.h i hi
   ·simpa using zi7.mp hm2.h i hi
   ·have:=zi7.mp hdj.h i hi;simp at this;exact this hj
   ·have EE:Ex G1 G2:=λb o e=>E2 b o (np e) (by rw [QU (np e)];exact e);have hdp:¬ D p:=λz=>(hd.up E1) p z hp;refine k _ _ (E1.trans EE) (.lst (by rw [jQ hdp];exact gp) (D2.up (jB λb z=>.inl z))) λ_=>Nw.back (.inr ⟨p,ys,fs,rfl,rfl,hp,gp,D2⟩) E1
   ·intro b hb z;by_cases e:b=p
    ·subst e;rw [qN] at z;cases z
    ·rw [QU e] at z;rcases hb with hb|hb
     ·exact (hd.up E1) b hb z
     ·exact e hb
  ·cases hf⟩
def AD (D:Addr->Prop) (A:Nat->Addr->Prop) (b:Addr):Prop:=D b\/∃ i,A i b
def Ons (R G:Gp) (B:Addr->Prop) (qs:List Addr) (dss:List (List PyData)):Prop:=qs.length=dss.length/\∀ (j:Nat) (q:Addr) (ds:List PyData),qs[j]?=some q->dss[j]?=some ds->B q/\∃ ys,G q=some (.lst ys)/\Dqs R ys ds
def SlR (R G:Gp) (B:Addr->Prop) (t:Option (Option T)):Sl->Prop
 |.un=>True
 |.sh d=>∃ x,t=some (some x)/\Dq R x d
 |.ow ds=>∃ p xs,B p/\t=some (some (.ref p))/\G p=some (.lst xs)/\Dqs R xs ds
 |.dc kvs=>∃ p ks,B p/\t=some (some (.ref p))/\G p=some (.dct ks)/\ks.map (λq=>q.1)=kvs.map (λq=>q.1)/\Dqs R (ks.map λq=>q.2) (kvs.map λq=>q.2)
 |.on dss=>∃ p qs,B p/\t=some (some (.ref p))/\G p=some (.lst (qs.map T.ref))/\(p::qs).Nodup/\Ons R G B qs dss
 |.rg d=>∃ x,t=some (some x)/\Dq (rs (λb=>¬ B b) G) x d
section
variable {R R':Gp} {B B':Addr->Prop} {t:Option (Option T)} {s:Sl}
theorem Ons.mono {qs:List Addr} {dss:List (List PyData)} (h:Ons R G B qs dss) (hr:Ex R R') (hg:∀ q∈qs,∀ o,B q->G q=some o->G' q=some o) (hb:∀ p,B p->B' p):Ons R' G' B' qs dss:=
 ⟨h.1,λj q ds a b=>let ⟨c,ys,d,e⟩:=h.2 j q ds a b;⟨hb _ c,ys,hg _ (za3 a) _ c d,e.up hr⟩⟩
theorem SlR.mono (h:SlR R G B t s) (hr:Ex R R') (hg:s≠.un->∀ p o,B p->G p=some o->G' p=some o) (hb:∀ p,B p->B' p):SlR R' G' B' t s:=by
 by_cases n:s=.un
 ·subst n;trivial
 replace hg:=hg n
 cases s with
 |un=>trivial
 |sh d=>obtain ⟨x,a,b⟩:=h;exact ⟨x,a,b.up hr⟩
 |ow ds=>obtain ⟨p,xs,a,b,c,d⟩:=h;exact ⟨p,xs,hb _ a,b,hg _ _ a c,d.up hr⟩
 |dc ds=>obtain ⟨p,xs,a,b,c,d,e⟩:=h;exact ⟨p,xs,hb _ a,b,hg _ _ a c,d,e.up hr⟩
 |on ds=>obtain ⟨p,xs,a,b,c,d,e⟩:=h;exact ⟨p,xs,hb _ a,b,hg _ _ a c,d,e.mono hr (λq _=>hg q) hb⟩
 |rg d=>obtain ⟨x,a,b⟩:=h;exact ⟨x,a,b.up λq o e=>by
   obtain ⟨n,e⟩:=qI e;rw [jQ λz=>n λy=>z (hb q y)];exact hg q o (Classical.not_not.mp n) e⟩
theorem Ons.dqs:∀ {qs:List Addr} {dss:List (List PyData)},Ons R G B qs dss->Ex R R'->(∀ p o,B p->G p=some o->R' p=some o)->Dqs R' (qs.map T.ref) (dss.map PyData.list)
 |[],[],_,_,_=>.nil
 |q::qs,ds::dss,h,hr,hg=>by
  obtain ⟨a,ys,b,c⟩:=h.2 0 q ds rfl rfl;exact .cons (.lst (hg _ _ a b) (c.up hr)) (Ons.dqs ⟨by simpa using h.1,λj q ds x y=>h.2 (j+1) q ds x y⟩ hr hg)
 |[],_::_,h,_,_=>by cases h.1
 |_::_,[],h,_,_=>by cases h.1
theorem SlR.vis (h:SlR R G B t s) (hs:s.d=some d) (hr:Ex R R') (hg:∀ p o,B p->G p=some o->R' p=some o):∃ x,t=some (some x)/\Dq R' x d:=by
 cases s with
 |un=>cases hs
 |sh d=>cases hs;obtain ⟨x,a,b⟩:=h;exact ⟨x,a,b.up hr⟩
 |ow ds=>cases hs;obtain ⟨p,xs,a,b,c,d⟩:=h;exact ⟨_,b,.lst (hg _ _ a c) (d.up hr)⟩
 |dc ds=>cases hs
 |on ds=>cases hs;obtain ⟨p,xs,a,b,c,d,e⟩:=h;exact ⟨_,b,.lst (hg _ _ a c) (e.dqs hr hg)⟩
 |rg d=>cases hs;obtain ⟨x,a,b⟩:=h;exact ⟨x,a,b.up λq o e=>by
   obtain ⟨n,e⟩:=qI e;exact hg q o (Classical.not_not.mp n) e⟩
end
structure RS (D:Addr->Prop) (G0:Gp) (A:Nat->Addr->Prop) (τ:St3) (ρ:Rho) (G:Gp):Prop where
 ex:Ex G0 G
 dm:Dom D G0
 fr:∀ i p,A i p->G0 p=none
 da:∀ i p,A i p->G p≠none
 inj:∀ i j p,A i p->A j p->i=j
 len:ρ.length=τ.length
 sl:∀ (i:Nat) (s:Sl),ρ[i]?=some s->SlR (rs (AD D A) G) G (A i) τ[i]? s
variable {A:Nat->Addr->Prop}
section
variable {A':Nat->Addr->Prop}
theorem RS.sh (h:RS D G0 A τ ρ G) (i:Nat) (d:PyData) (e:ρ[i]?=some (Sl.sh d)):∃ t,τ[i]?=some (some t)/\Dq (rs (AD D A) G) t d:=h.sl i _ e
theorem RS.ow (h:RS D G0 A τ ρ G) (i:Nat) (ds:List PyData) (e:ρ[i]?=some (Sl.ow ds)):∃ p xs,A i p/\τ[i]?=some (some (.ref p))/\G p=some (.lst xs)/\Dqs (rs (AD D A) G) xs ds:=h.sl i _ e
theorem RS.nd (h:RS D G0 A τ ρ G) (e:A i p):¬ D p:=λz=>h.dm p z (h.fr i p e)
theorem RS.dom (h:RS D G0 A τ ρ G):Dom (AD D A) G:=λb hb=>by
 rcases hb with hb|⟨i,hi⟩
 ·exact (h.dm.up h.ex) b hb
 ·exact h.da i b hi
theorem RS.domD (h:RS D G0 A τ ρ G):Dom D G:=h.dm.up h.ex
theorem RS.keep (h:RS D G0 A τ ρ G) {W:Addr->Prop} (hg:∀ b o,¬ W b->G b=some o->G' b=some o) (hW:∀ b,W b->∃ j,A j b/\ρ[j]?=some Sl.un/\G' b≠none):RS D G0 A τ ρ G':=by
 have out:∀ b,W b->AD D A b:=λb z=>let ⟨j,a,_⟩:=hW b z;.inr ⟨j,a⟩
 have X:Ex (rs (AD D A) G) (rs (AD D A) G'):=λb o e=>by
  obtain ⟨n,e⟩:=qI e;rw [jQ n];exact hg b o (λz=>n (out b z)) e
 refine ⟨λb o e=>hg b o (λz=>?_) (h.ex b o e),h.dm,h.fr,λi p a z=>?_,h.inj,h.len,λi s e=>(h.sl i s e).mono X (λnu p o a g=>hg p o (λz=>?_) g) λ_ z=>z⟩
 ·obtain ⟨j,a,_⟩:=hW b z;rw [h.fr j b a] at e;cases e
 ·by_cases c:W p
  ·obtain ⟨j,_,_,n⟩:=hW p c;exact n z
  ·cases g:G p with
   |none=>exact h.da i p a g
   |some o=>rw [hg p o c g] at z;cases z
 ·obtain ⟨j,b,u,_⟩:=hW p z;have:=h.inj i j p a b;subst this;rw [u] at e;cases e;exact nu rfl
theorem RS.up (h:RS D G0 A τ ρ G) (e:Ex G G'):RS D G0 A τ ρ G':=h.keep (W:=λ_=>False) (λb o _ z=>e b o z) λ_ z=>z.elim
theorem RS.viewAll (h:RS D G0 A τ ρ G) (fv:List Nat):X8 fv D G τ ρ:=λi _ d hd=>by
 unfold vw at hd;obtain ⟨s,e,hd⟩:=obb hd;exact (h.sl i s e).vis hd (jB λb z=>.inl z) λp o a g=>by rw [jQ (h.nd a)];exact g
theorem RS.view (h:RS D G0 A τ ρ G) (hn:∀ i∈fv,∀ p,¬ A i p):X8 fv (AD D A) G τ ρ:=λi hi d hd=>by
 unfold vw at hd;obtain ⟨s,e,hd⟩:=obb hd;exact (h.sl i s e).vis hd (λ_ _ z=>z) λp o a=>(hn i hi p a).elim
def Sl.dem:Sl->Sl
 |.ow ds=>.sh (.list ds)
 |.dc _=>.un
 |.on dss=>.sh (.list (dss.map PyData.list))
 |.rg d=>.sh d
 |s=>s
def dm:List Bool->Rho->Rho
 |b::m,s::r=>(match b with|true=>s.dem|false=>s)::dm m r
 |_,r=>r
def mkb (m:List Bool) (i:Nat):Bool:=(m[i]?).getD false
theorem qdE:∀ (m:List Bool) (ρ:Rho) (i:Nat),(dm m ρ)[i]?=(ρ[i]?).map λs=>if mkb m i=true then s.dem else s
 |[],ρ,i=>by simp [dm,mkb]
 |b::m,[],i=>by simp [dm]
 |b::m,s::r,0=>by cases b<;>simp [dm,mkb]
 |b::m,s::r,i+1=>by
  have:=qdE m r i;simp only [dm,x6,mkb] at this ⊢;exact this
theorem qpE (s:Sl):s.dem.d=s.d:=by cases s<;>rfl
theorem qpS (m:List Bool) (ρ:Rho) (i:Nat):vw (dm m ρ) i=vw ρ i:=by
 unfold vw;rw [qdE];cases ρ[i]? with
 |none=>rfl
 |some s=>
  simp only [xf9,ze7];split
  ·exact qpE s
  ·rfl
theorem qf3:∀ (m:List Bool) (ρ:Rho),(dm m ρ).length=ρ.length
 |[],ρ=>rfl
 |b::m,[]=>rfl
 |b::m,s::r=>by simp [dm,qf3 m r]
def Ad (m:List Bool) (A:Nat->Addr->Prop):Nat->Addr->Prop:=λi p=>A i p/\mkb m i=false
theorem qnE (s:Sl):s.dem=.un\/∃ d,s.dem=.sh d/\s.d=some d:=by cases s<;>simp [Sl.dem,Sl.d]
theorem RS.dem (h:RS D G0 A τ ρ G) (m:List Bool):RS D G0 (Ad m A) τ (Pu.dm m ρ) G:=by
 have less:Ex (rs (AD D A) G) (rs (AD D (Ad m A)) G):=jB λb z=>by
  rcases z with z|⟨i,z⟩
  ·exact .inl z
  ·exact .inr ⟨i,z.1⟩
 refine ⟨h.ex,h.dm,λi p e=>h.fr i p e.1,λi p e=>h.da i p e.1,λi j p a b=>h.inj i j p a.1 b.1,by rw [qf3];exact h.len,λi s e=>?_⟩;rw [qdE] at e;obtain ⟨s',e1,rfl⟩:=zb5 e;have q:=h.sl i s' e1;split
 ·rename_i hm;rcases qnE s' with z|⟨d,z,hd⟩<;>rw [z]
  ·trivial
  ·refine q.vis hd less λp o a g=>?_;rw [jQ]
   ·exact g
   ·rintro (z|⟨j,z⟩)
    ·exact h.nd a z
    ·have:=h.inj i j p a z.1;subst this;rw [z.2] at hm;cases hm
 ·rename_i hm;exact q.mono less (λ_ _ _ _ z=>z) λp z=>⟨z,by simpa using hm⟩
theorem RS.viewD (h:RS D G0 A τ ρ G) {m:List Bool} (hm:Tru (fv.all (mkb m))):X8 fv (AD D (Ad m A)) G τ ρ:=by
 have:=(h.dem m).view (fv:=fv) λi hi p z=>by have q:=zi7.mp hm.h i hi;rw [z.2] at q;cases q
 intro i hi d hd;exact this i hi d (by rw [qpS];exact hd)
def Rg (A:Nat->Addr->Prop) (i:Nat) (B:Addr->Prop):Nat->Addr->Prop:=λj p=>(j=i/\B p)\/(j≠i/\A j p)
theorem RS.upd (h:RS D G0 A τ ρ G) (i:Nat) {x:T} {s:Sl} {B W:Addr->Prop} (hg:∀ b o,¬ W b->G b=some o->G' b=some o) (hW:∀ b,W b->∃ j,A j b/\(j=i\/(ρ[j]?=some Sl.un/\G' b≠none))) (hB:∀ b,B b->(A i b\/G b=none)/\G' b≠none)
  (hs:Ex (rs (AD D A) G) (rs (AD D (Rg A i B)) G')->SlR (rs (AD D (Rg A i B)) G') G' B (some (some x)) s):RS D G0 (Rg A i B) (τ.set i (some x)) (ρ.set i s) G':=by
 have X:Ex (rs (AD D A) G) (rs (AD D (Rg A i B)) G'):=λb o e=>by
  obtain ⟨n,e⟩:=qI e;rw [jQ]
  ·exact hg b o (λz=>let ⟨j,a,_⟩:=hW b z;n (.inr ⟨j,a⟩)) e
  ·rintro (z|⟨j,⟨rfl,z⟩|⟨_,z⟩⟩)
   ·exact n (.inl z)
   ·rcases (hB b z).1 with z|z
    ·exact n (.inr ⟨j,z⟩)
    ·rw [z] at e;cases e
   ·exact n (.inr ⟨j,z⟩)
 have ng:∀ p,G p=none->G0 p=none:=λp g=>by
  cases z:G0 p with
  |none=>rfl
  |some o=>rw [h.ex _ _ z] at g;cases g
 refine ⟨λb o e=>hg b o (λz=>?_) (h.ex b o e),h.dm,λj p e=>?_,λj p e=>?_,λj k p a b=>?_,by simp [h.len],λj s' e=>?_⟩
 ·obtain ⟨j,a,_⟩:=hW b z;rw [h.fr j b a] at e;cases e
 ·rcases e with ⟨rfl,z⟩|⟨_,z⟩
  ·rcases (hB p z).1 with z|z
   ·exact h.fr j p z
   ·exact ng p z
  ·exact h.fr j p z
 ·rcases e with ⟨rfl,z⟩|⟨n,z⟩
  ·exact (hB p z).2
  ·intro g;by_cases c:W p
   ·obtain ⟨k,a,b|⟨_,b⟩⟩:=hW p c
    ·exact n ((h.inj j k p z a).trans b)
    ·exact b g
   ·cases g':G p with
    |none=>exact h.da j p z g'
    |some o=>rw [hg p o c g'] at g;cases g
 ·rcases a with ⟨rfl,a⟩|⟨n,a⟩<;>rcases b with ⟨rfl,b⟩|⟨n',b⟩
  ·rfl
  ·rcases (hB p a).1 with z|z
   ·exact h.inj _ _ p z b
   ·exact absurd z (h.da k p b)
  ·rcases (hB p b).1 with z|z
   ·exact h.inj _ _ p a z
   ·exact absurd z (h.da j p a)
  ·exact h.inj j k p a b
 ·rw [zg3] at e ⊢;split at e
  ·rename_i hj;subst hj;split at e
   ·rename_i hl;cases e;rw [if_pos rfl,if_pos (by rw [← h.len];exact hl)];exact (hs X).mono (λ_ _ z=>z) (λ_ _ _ _ z=>z) λp z=>.inl ⟨rfl,z⟩
   ·cases e
  ·rename_i hj;rw [if_neg hj];refine (h.sl j s' e).mono X (λnu p o a g=>hg p o (λz=>?_) g) λp z=>.inr ⟨λy=>hj y.symm,z⟩;obtain ⟨k,b,y|⟨y,_⟩⟩:=hW p z
   ·exact hj ((h.inj j k p a b).trans y).symm
   ·have:=h.inj j k p a b;subst this;rw [e] at y;cases y;exact nu rfl
abbrev Er (A:Nat->Addr->Prop) (i:Nat):Nat->Addr->Prop:=Rg A i λ_=>False
theorem qgw {j:Nat} (h:Er A i j p):A j p/\j≠i:=by
 rcases h with ⟨_,z⟩|⟨n,z⟩
 ·exact z.elim
 ·exact ⟨z,n⟩
theorem RS.put (h:RS D G0 A τ ρ G) (i:Nat) (hx:Dq (rs (AD D A) G) x d):RS D G0 (Er A i) (τ.set i (some x)) (ρ.set i (.sh d)) G:=
 h.upd i (W:=λ_=>False) (λ_ _ _ z=>z) (λ_ z=>z.elim) (λ_ z=>z.elim) λX=>⟨x,rfl,hx.up X⟩
theorem RS.puts:∀ {ts:List (Nat×T)} {bs:List (Nat×PyData)} {A:Nat->Addr->Prop} {τ:St3} {ρ:Rho},RS D G0 A τ ρ G->Bd (rs (AD D A) G) ts bs->∃ A',RS D G0 A' (sets τ ts) (jR ρ bs) G
 |_,_,A,_,_,h,.nil=>⟨A,h⟩
 |_,_,A,_,_,h,.cons (i:=i) a b=>by
  unfold sets jR;exact RS.puts (h.put i a) (b.up (jB λb z=>by
   rcases z with z|⟨j,z⟩
   ·exact .inl z
   ·exact .inr ⟨j,(qgw z).1⟩))
theorem RS.putN (h:RS D G0 A τ ρ G) (i:Nat) (hd:d=.list ds) (E:Ex G G') (hx:Nw (AD D A) G G' x d):RS D G0 (Rg A i λb=>x=.ref b) (τ.set i (some x)) (ρ.set i (.ow ds)) G':=by
 rcases hx with hx|⟨p,xs,ds',rfl,e',gp,gp',hs⟩
 ·rw [hd] at hx;cases hx
 rw [hd] at e';cases e';refine h.upd i (W:=λ_=>False) (λb o _ z=>E b o z) (λ_ z=>z.elim) (λb z=>by cases z;exact ⟨.inr gp,by rw [gp'];simp⟩) λ_=>⟨p,xs,rfl,rfl,gp',hs.up (jB λb z=>?_)⟩
 rcases z with z|⟨j,⟨_,z⟩|⟨_,z⟩⟩
 ·exact .inl (.inl z)
 ·cases z;exact .inr rfl
 ·exact .inl (.inr ⟨j,z⟩)
theorem qeM {t:Option T} (h:τ[i]?=some t):τ.set i t=τ:=by
 apply List.ext_getElem?;intro j;rw [zg3];split
 ·rename_i e;subst e;split
  ·exact h.symm
  ·rename_i n;rw [xa2 (by omega)] at h;cases h
 ·rfl
theorem qiy:Rg A i (A i)=A:=funext λj=>funext λp=>propext ⟨λz=>by
 rcases z with ⟨rfl,z⟩|⟨_,z⟩<;>exact z,λz=>by
 by_cases c:j=i
 ·subst c;exact .inl ⟨rfl,z⟩
 ·exact .inr ⟨c,z⟩⟩
theorem RS.wr (h:RS D G0 A τ ρ G) (hi:A i p) (ht:τ[i]?=some (some (.ref p))) (hs:Dqs (rs (AD D A) G) xs ds):RS D G0 A τ (ρ.set i (.ow ds)) (gu G p (.lst xs)):=by
 have:=h.upd i (G':=gu G p (.lst xs)) (x:=.ref p) (s:=.ow ds) (B:=A i) (W:=λb=>b=p) (λb o n z=>by rw [QU n];exact z) (λb z=>⟨i,by rw [z];exact hi,.inl rfl⟩) (λb z=>⟨.inl z,by
  by_cases c:b=p
  ·rw [c,qN];simp
  ·rw [QU c];exact h.da i b z⟩) λX=>⟨p,xs,hi,rfl,qN,hs.up X⟩
 rw [qeM ht,qiy] at this;exact this
theorem RS.base {Gb:Gp} (h:RS D Gb A τ ρ G) (e:Ex G0 Gb) (hd:Dom D G0):RS D G0 A τ ρ G:=
 ⟨e.trans h.ex,hd,(λi p a=>by
  cases z:G0 p with
  |none=>rfl
  |some o=>have:=h.fr i p a;rw [e _ _ z] at this;cases this),h.da,h.inj,h.len,h.sl⟩
end
inductive Ot where
 |nx (ρ:Rho)|bk (ρ:Rho)|ct (ρ:Rho)|rt (d:PyData) (fr:Bool)
def Post (D:Addr->Prop) (G0:Gp) (e:Ends3):Ot->Prop
 |.nx ρ=>∀ A τ G,RS D G0 A τ ρ G->e.nx τ G
 |.bk ρ=>∀ A τ G,RS D G0 A τ ρ G->e.bk τ G
 |.ct ρ=>∀ A τ G,RS D G0 A τ ρ G->e.ct τ G
 |.rt d fr=>∀ x G,Ex G0 G->Dq (rs D G) x d->(fr=true->Nw D G0 G x d)->e.rt x G
theorem Post.base {Gb:Gp} {e:Ends3} {o:Ot} (h:Post D G0 e o) (x:Ex G0 Gb) (hd:Dom D G0):Post D Gb e o:=by
 cases o with
 |nx ρ=>exact λA τ G r=>h A τ G (r.base x hd)
 |bk ρ=>exact λA τ G r=>h A τ G (r.base x hd)
 |ct ρ=>exact λA τ G r=>h A τ G (r.base x hd)
 |rt d fr=>exact λy G a b c=>h y G (x.trans a) b λz=>(c z).back x
structure PuS (t:TS3) where
 f:Nat->Rho->Option Ot
 ok:∀ {D G0 A τ ρ G n o} {e:Ends3},RS D G0 A τ ρ G->f n ρ=some o->Post D G0 e o->t e τ G
def QS:PuS qE:=⟨λ_ ρ=>some (.nx ρ),λh hf k=>by cases hf;exact k _ _ _ h⟩
def qrf:PuS V3:=⟨λ_ ρ=>none,λh hf k=>by cases hf⟩
def qpx (a b:Nat->Rho->Option Ot) (n:Nat) (ρ:Rho):Option Ot:=(a n ρ).bind λo=>match o with|.nx ρ'=>b n ρ'|o=>some o
def ju {t u:TS3} (a:PuS t) (b:PuS u):PuS (qS t u):=⟨qpx a.f b.f,λ{D G0 A τ ρ G n o e} h hf k=>by
 unfold qpx at hf;obtain ⟨o1,e1,hf⟩:=obb hf;refine a.ok h e1 ?_;cases o1 with
 |nx ρ'=>exact λA' τ' G' h'=>b.ok h' hf k
 |bk ρ'=>cases hf;exact k
 |ct ρ'=>cases hf;exact k
 |rt d fr=>cases hf;exact k⟩
def sIf {c:TT3} {t u:TS3} (pc:PuC c) (a:PuS t) (b:PuS u):PuS (zD c t u):=⟨λn ρ=>(pc.f ρ).bind λk=>if k then a.f n ρ else b.f n ρ,λh hf k=>by
 obtain ⟨o1,e1,hf⟩:=obb hf;refine pc.ok (h.viewAll _) h.domD e1 λG1 E1=>?_;cases o1 with
 |true=>exact a.ok (h.up E1) hf k
 |false=>exact b.ok (h.up E1) hf k⟩
def Q0 (a:PuE t):PuS (zg t):=⟨λ_ ρ=>(a.f ρ).map λd=>.rt d a.nw,λh hf k=>by
 obtain ⟨d,e1,rfl⟩:=zb5 hf;exact a.ok (h.viewAll _) h.domD e1 λx G1 E1 D1 N1=>k x G1 (h.ex.trans E1) D1 λz=>(N1 z).back h.ex⟩
def qi1 (ρ:Rho) (i:Nat):Option Ot:=match ρ[i]? with|some (.ow ds)=>some (.rt (.list ds) true)|some (.sh d)=>some (.rt d false)|_=>none
def qau (i:Nat):PuS (zg (v3 i)):=⟨λ_ ρ=>qi1 ρ i,λh hf k=>by
 unfold qi1 at hf;split at hf
 ·rename_i ds e;cases hf;obtain ⟨p,xs,b,c,g,f⟩:=h.ow i _ e;simp only [zg,v3,c];refine k _ _ h.ex (.lst (by rw [jQ (h.nd b)];exact g) (f.up (jB λb z=>.inl z))) λ_=>.inr ⟨p,xs,ds,rfl,rfl,h.fr i p b,g,f.up (jB λq z=>?_)⟩;rcases z with z|z
  ·exact .inl z
  ·subst z;exact .inr ⟨i,b⟩
 ·rename_i d e;cases hf;obtain ⟨t,b,c⟩:=h.sh i _ e;simp only [zg,v3,b];exact k _ _ h.ex (c.up (jB λb z=>.inl z)) (λz=>by cases z)
 ·cases hf⟩
theorem DN {H H':Gp} (h:Dq H x d) (s:qd2 d=true):Dq H' x d:=by
 cases h<;>first|(constructor;done)|(simp [qd2] at s;done)
def qsc:PyData->Sl
 |.list ds=>.ow ds
 |d=>.sh d
def qaQ (m:List Bool) (nw:Bool) (i:Nat) (d:PyData) (ρ:Rho):Rho:=if qd2 d then ρ.set i (.sh d) else (dm m ρ).set i (if nw then qsc d else .sh d)
def X7 (a:PuE t) (i:Nat) (m:List Bool) (hm:Tru (a.fv.all (mkb m))):PuS (zl t (gn3 i)):=⟨λ_ ρ=>(a.f ρ).map λd=>.nx (qaQ m a.nw i d ρ),λ{D G0 A τ ρ G n o e} h hf k=>by
 obtain ⟨d,e1,rfl⟩:=zb5 hf;refine a.ok (h.viewD hm) (h.dem m).dom e1 λx G1 E1 D1 N1=>?_;unfold qaQ at k;show e.nx (τ.set i (some x)) G1;split at k
 ·rename_i hs;exact k _ _ _ ((h.up E1).put i (DN D1 hs))
 ·split at k
  ·rename_i hn;have N:=N1 hn;rcases id N with h2|⟨p,xs,ds,h1,h2,_⟩
   ·exact absurd h2 (by assumption)
   subst h2;exact k _ _ _ ((h.dem m).putN i rfl E1 N)
  ·exact k _ _ _ (((h.dem m).up E1).put i D1)⟩
def RU {g:TG3} (a:PuE t) (pg:PuG g) (m:List Bool) (hm:Tru (a.fv.all (mkb m))):PuS (zl t g):=⟨λ_ ρ=>(a.f ρ).bind λd=>(pg.f d).map λbs=>.nx (jR (dm m ρ) bs),λ{D G0 A τ ρ G n o e} h hf k=>by
 obtain ⟨d,e1,hf⟩:=obb hf;obtain ⟨bs,e2,rfl⟩:=zb5 hf;refine a.ok (h.viewD hm) (h.dem m).dom e1 λx G1 E1 D1 N1=>?_;obtain ⟨ts,bd,kg⟩:=pg.ok D1 e2;refine kg _ _ _ ?_;obtain ⟨A',h'⟩:=((h.dem m).up E1).puts bd;exact k _ _ _ h'⟩
def qfS (i j:Nat) (m:List Bool) (ds:List PyData) (ρ:Rho):Option Ot:=match ds with
 |[d,e]=>if qd2 d&&qd2 e then some (.nx ((ρ.set i (.sh d)).set j (.sh e))) else some (.nx (((dm m ρ).set i (.sh d)).set j (.sh e)))
 |_=>none
theorem qic:Ex (rs (AD D A) G) (rs (AD D (Er A i)) G):=jB λb z=>by
 rcases z with z|⟨j,z⟩
 ·exact .inl z
 ·exact .inr ⟨j,(qgw z).1⟩
def qqG {t:TA3} (a:PuA t) (i j:Nat) (m:List Bool) (hm:Tru (a.fv.all (mkb m))):PuS (JC i j t):=⟨λ_ ρ=>(a.f ρ).bind λds=>qfS i j m ds ρ,λ{D G0 A τ ρ G n o e} h hf k=>by
 obtain ⟨ds,e1,hf⟩:=obb hf;refine a.ok (h.viewD hm) (h.dem m).dom e1 λx G1 E1 D1=>?_;unfold qfS at hf;split at hf
 ·cases D1 with
  |cons a b=>cases b with
   |cons b c=>
    cases c;split at hf
    ·rename_i hs;cases hf;rw [zf9] at hs;exact k _ _ _ (((h.up E1).put i (DN a hs.1)).put j (DN b hs.2))
    ·cases hf;exact k _ _ _ ((((h.dem m).up E1).put i a).put j (b.up qic))
 ·cases hf⟩
def slot (ρ:Rho) (i:Nat):Option (List PyData):=match ρ[i]? with|some (.ow ds)=>some ds|_=>none
theorem JY (h:slot ρ i=some ds):ρ[i]?=some (.ow ds):=by
 unfold slot at h;split at h
 ·rename_i e;cases h;exact e
 ·cases h
def dmS (m:List Bool) (d:PyData) (ρ:Rho):Rho:=if qd2 d then ρ else dm m ρ
theorem RS.evalS (h:RS D G0 A τ ρ G) (a:PuE t) (m:List Bool) (hm:Tru (a.fv.all (mkb m))) (hf:a.f ρ=some d):∃ A1,RS D G0 A1 τ (dmS m d ρ) G/\∀ q:Q3,(∀ x G',Ex G G'->Dq (rs (AD D A1) G') x d->q x G')->t τ G q:=by
 unfold dmS;by_cases hs:qd2 d=true
 ·rw [if_pos hs];exact ⟨A,h,λq k=>a.ok (h.viewAll _) h.domD hf λx G1 E1 D1 _=>k x G1 E1 (DN D1 hs)⟩
 ·rw [if_neg hs];exact ⟨Ad m A,h.dem m,λq k=>a.ok (h.viewD hm) (h.dem m).dom hf λx G1 E1 D1 _=>k x G1 E1 D1⟩
def qkF (i:Nat) (d:PyData) (ρ:Rho):Option Ot:=(slot ρ i).bind λds=>cif (ds.length<sizeLine) (some (.nx (ρ.set i (.ow (ds++[d]))))) none
def qrk (a:PuE t) (i:Nat) (m:List Bool) (hm:Tru (a.fv.all (mkb m))):PuS (zN (bm3 JK (v3 i) (qe t qw))):=⟨λ_ ρ=>(a.f ρ).bind λd=>qkF i d (dmS m d ρ),λ{D G0 A τ ρ G n o e} h hf k=>by
 obtain ⟨d,e1,hf⟩:=obb hf;obtain ⟨A1,h1,ev⟩:=h.evalS a m hm e1;unfold qkF at hf;obtain ⟨ds,e2,hf⟩:=obb hf;unfold cif at hf;split at hf
 ·rename_i hl;cases hf;obtain ⟨p,xs,b,c,g,f⟩:=h1.ow i _ (JY e2);simp only [zN,bm3,v3,c,zw g];refine ⟨rfl,ev _ λx G1 E1 D1=>?_⟩;simp only [qw,JK,E1 _ _ g];exact ⟨by rw [f.length];exact hl,k _ _ _ ((h1.up E1).wr b c ((f.up (jW E1)).append (.cons D1 .nil)))⟩
 ·cases hf⟩
def qkE (i:Nat) (d:PyData) (ρ:Rho):Option Ot:=match d with|.list es=>(slot ρ i).bind λds=>cif (ds.length+es.length<=sizeLine) (some (.nx (ρ.set i (.ow (ds++es))))) none|_=>none
def qpo (a:PuE t) (i:Nat) (m:List Bool) (hm:Tru (a.fv.all (mkb m))):PuS (zN (bm3 YQ (v3 i) (qe t qw))):=⟨λ_ ρ=>(a.f ρ).bind λd=>qkE i d (dmS m d ρ),λ{D G0 A τ ρ G n o e} h hf k=>by
 obtain ⟨d,e1,hf⟩:=obb hf;obtain ⟨A1,h1,ev⟩:=h.evalS a m hm e1;unfold qkE at hf;split at hf
 ·obtain ⟨ds,e2,hf⟩:=obb hf;unfold cif at hf;split at hf
  ·rename_i hl;cases hf;obtain ⟨p,xs,b,c,g,f⟩:=h1.ow i _ (JY e2);simp only [zN,bm3,v3,c,zw g];refine ⟨rfl,ev _ λx G1 E1 D1=>?_⟩;cases D1 with
   |lst g2 hs2=>
    simp only [qw,YQ,E1 _ _ g,(qI g2).2];exact ⟨by rw [f.length,hs2.length];exact hl,k _ _ _ ((h1.up E1).wr b c ((f.up (jW E1)).append hs2))⟩
  ·cases hf
 ·cases hf⟩
def S7 (gf:PyData->Option (List (Nat×PyData))) (bf:Rho->Option Ot):List PyData->Rho->Option Ot
 |[],ρ=>some (.nx ρ)
 |d::r,ρ=>(gf d).bind λbs=>(bf (jR ρ bs)).bind λo=>match o with
  |.nx ρ'=>S7 gf bf r ρ'
  |.ct ρ'=>S7 gf bf r ρ'
  |.bk ρ'=>some (.nx ρ')
  |.rt d b=>some (.rt d b)
theorem NS {stay:Gp->Prop} {g:TG3} {tb:TS3} {e:Ends3} (pg:PuG g) (pb:PuS tb) {D:Addr->Prop} {G0:Gp} {n:Nat} {o:Ot} {items0:List T} (hs:∀ A τ ρ G,RS D G0 A τ ρ G->stay G) (k:Post D G0 e o) :
  ∀ (ds:List PyData) (items:List T),(∀ A τ ρ G,RS D G0 A τ ρ G->Dqs (rs (AD D A) G) items ds)->∀ A τ ρ G,RS D G0 A τ ρ G->S7 pg.f (pb.f n) ds ρ=some o->S0 stay g tb e items τ G
 |[],items,hi,A,τ,ρ,G,h,hf=>by
  cases hf;have:=hi _ _ _ _ h;cases this;exact ⟨hs _ _ _ _ h,k _ _ _ h⟩
 |d::ds,items,hi,A,τ,ρ,G,h,hf=>by
  have hh:=hi _ _ _ _ h;cases hh with
  |cons hx hr=>
   rename_i x items;unfold S7 at hf;obtain ⟨bs,e1,hf⟩:=obb hf;obtain ⟨o1,e2,hf⟩:=obb hf;obtain ⟨ts,bd,kg⟩:=pg.ok hx e1;refine ⟨hs _ _ _ _ h,kg _ _ _ ?_⟩;obtain ⟨A',h'⟩:=h.puts bd;refine pb.ok h' e2 ?_;have hi':∀ A τ ρ G,RS D G0 A τ ρ G->Dqs (rs (AD D A) G) items ds:=λA τ ρ G h=>by
    have:=hi _ _ _ _ h;cases this with
    |cons a b=>exact b
   cases o1 with
   |nx ρ'=>exact λA2 τ2 G2 h2=>NS (items0:=items0) pg pb hs k ds items hi' _ _ _ _ h2 hf
   |ct ρ'=>exact λA2 τ2 G2 h2=>NS (items0:=items0) pg pb hs k ds items hi' _ _ _ _ h2 hf
   |bk ρ'=>cases hf;exact k
   |rt d fr=>cases hf;exact k
def qoI (pi:Rho->Option (List PyData)) (nm:Bool) (m:List Bool) (gf:PyData->Option (List (Nat×PyData))) (bf:Nat->Rho->Option Ot) (n:Nat) (ρ:Rho):Option Ot:=(pi ρ).bind λds=>S7 gf (bf n) ds (if nm then ρ else dm m ρ)
def qdZ {g:TG3} {tb:TS3} (pi:PuI wi) (pg:PuG g) (pb:PuS tb) (m:List Bool) (hm:Tru (pi.fv.all (mkb m))):PuS (qcY wi g tb):=⟨qoI pi.f pi.nm m pg.f pb.f,λ{D G0 A τ ρ G n o e} h hf k=>by
 unfold qoI at hf;obtain ⟨ds,e1,hf⟩:=obb hf;refine pi.ok (h.viewD hm) (h.dem m).dom e1 λitems stay G1 E1 D1 hs hnm=>?_;cases hb:pi.nm with
 |true=>
  rw [hb,if_pos rfl] at hf;obtain ⟨ns,rfl⟩:=hnm hb;have:=D1.ints;subst this;exact NS (items0:=[]) pg pb (λ_ _ _ _ _=>hs _ (.inl hb)) k _ _ (λA τ ρ G _=>Dqs.ofInts _) _ _ _ _ (h.up E1) hf
 |false=>
  rw [hb,if_neg v8] at hf;have h1:=(h.dem m).up E1;have b1:Ex G0 (rs (λb=>∃ i,Ad m A i b) G1):=λb o e=>by
   rw [jQ]
   ·exact h1.ex _ _ e
   ·rintro ⟨i,z⟩;rw [h1.fr i _ z] at e;cases e
  have h2:RS D (rs (λb=>∃ i,Ad m A i b) G1) (Ad m A) τ (dm m ρ) G1:=⟨ZC,h.dm.up b1,λi p z=>by unfold rs;exact zk ⟨i,z⟩,h1.da,h1.inj,h1.len,h1.sl⟩
  have X:∀ A2 τ2 ρ2 G2,RS D (rs (λb=>∃ i,Ad m A i b) G1) A2 τ2 ρ2 G2->Ex (rs (AD D (Ad m A)) G1) (rs (AD D A2) G2):=λA2 τ2 ρ2 G2 r b o e=>by
   obtain ⟨n1,e⟩:=qI e;have eb:rs (λb=>∃ i,Ad m A i b) G1 b=some o:=by rw [jQ (λz=>n1 (.inr z))];exact e
   rw [jQ]
   ·exact r.ex _ _ eb
   ·rintro (z|⟨i,z⟩)
    ·exact n1 (.inl z)
    ·rw [r.fr i _ z] at eb;cases eb
  exact NS (items0:=[]) pg pb (λA2 τ2 ρ2 G2 r=>hs _ (.inr ((X _ _ _ _ r).trans ZC))) (k.base b1 h.dm) _ _ (λA2 τ2 ρ2 G2 r=>D1.up (X _ _ _ _ r)) _ _ _ _ h2 hf⟩
def whP (cf:Rho->Option Bool) (bf:Rho->Option Ot):Nat->Rho->Option Ot
 |0,_=>none
 |n+1,ρ=>(cf ρ).bind λk=>if k then (bf ρ).bind λo=>match o with
   |.nx ρ'=>whP cf bf n ρ'
   |.ct ρ'=>whP cf bf n ρ'
   |.bk ρ'=>some (.nx ρ')
   |.rt d b=>some (.rt d b)
  else some (.nx ρ)
def sWh {c:TT3} {tb:TS3} (pc:PuC c) (pb:PuS tb):PuS (CL c tb):=⟨λn ρ=>whP pc.f (pb.f n) n ρ,λ{D G0 A τ ρ G n o e} h hf k=>by
 refine ⟨λm τ G=>∃ A ρ,RS D G0 A τ ρ G/\whP pc.f (pb.f n) m ρ=some o,⟨n,A,ρ,h,hf⟩,?_⟩;rintro m τ G ⟨A,ρ,h,hf⟩;cases m with
 |zero=>cases hf
 |succ m=>
  unfold whP at hf;obtain ⟨b,e1,hf⟩:=obb hf;refine pc.ok (h.viewAll _) h.domD e1 λG1 E1=>?_;cases b with
  |true=>
   rw [if_pos rfl] at hf ⊢;obtain ⟨o1,e2,hf⟩:=obb hf;cases o1 with
   |nx ρ'=>exact ⟨λτ' G'=>∃ A',RS D G0 A' τ' ρ' G',λτ' G' ⟨A',h'⟩=>⟨m,by omega,A',ρ',h',hf⟩,pb.ok (h.up E1) e2 λA' τ' G' h'=>⟨A',h'⟩⟩
   |ct ρ'=>exact ⟨λτ' G'=>∃ A',RS D G0 A' τ' ρ' G',λτ' G' ⟨A',h'⟩=>⟨m,by omega,A',ρ',h',hf⟩,pb.ok (h.up E1) e2 λA' τ' G' h'=>⟨A',h'⟩⟩
   |bk ρ'=>cases hf;exact ⟨λ_ _=>False,λ_ _ z=>z.elim,pb.ok (h.up E1) e2 k⟩
   |rt d fr=>cases hf;exact ⟨λ_ _=>False,λ_ _ z=>z.elim,pb.ok (h.up E1) e2 k⟩
  |false=>
   cases hf;rw [if_neg v8];exact k _ _ _ (h.up E1)⟩
def Z6 (fr:Bool):Option Ot->Option PyData
 |some (.rt d b)=>if fr=true/\b=false then (match d with|.none=>some .none|_=>none) else some d
 |some (.nx _)=>if fr then none else some .none
 |_=>none
def st (ds:List PyData) (N:Nat):Rho:=ds.map Sl.sh++zn4 (N-ds.length) .un
theorem qqF {ts:List T} (N:List Str) (hs:Dqs (rs D G) ts ds) (hd:Dom D G):RS D G (λ_ _=>False) (qo N ts) (st ds N.length) G:=by
 refine ⟨Ex.refl,hd,(λi p e=>e.elim),(λi p e=>e.elim),(λi j p e=>e.elim),(by simp [st,qo,hs.length]),λi s e=>?_⟩;unfold st at e;unfold qo;by_cases hi:i<ds.length
 ·rw [zg7 (by simpa using hi),ze5] at e;obtain ⟨d2,e3,rfl⟩:=zb5 e;obtain ⟨x,e5,hx⟩:=hs.get e3;refine ⟨x,?_,hx.up (jB λb z=>?_)⟩
  ·rw [zg7 (by simp [hs.length];exact hi),ze5,e5];rfl
  ·rcases z with z|⟨i,z⟩
   ·exact z
   ·exact z.elim
 ·rw [zj2 (by simpa using hi),zn7] at e;split at e<;>cases e
  trivial
def run (f:Nat->Rho->Option Ot) (k N n:Nat) (fr:Bool) (ds:List PyData):Option PyData:=if ds.length=k then Z6 fr (f n (st ds N)) else none
theorem qT {t:TS3} (b:PuS t) (N:List Str) (k n:Nat) (fr:Bool):∀ ts G q,PSp (run b.f k N.length n fr) fr ts G q->ts.length=k/\t { nx:=λ_ G'=>q .non G',rt:=q } (qo N ts) G:=by
 rintro ts G q ⟨D,ds,d,hs,hd,hf,h⟩;unfold run at hf;split at hf
 ·rename_i hk;refine ⟨by rw [hs.length];exact hk,?_⟩;have r:=qqF N hs hd;unfold Z6 at hf;split at hf
  ·rename_i d' b' e;split at hf
   ·split at hf
    ·cases hf;exact b.ok r e λx G' a c z=>h x G' a c λ_=>.inl rfl
    ·cases hf
   ·rename_i hb;cases hf;exact b.ok r e λx G' a c z=>h x G' a c λw=>z (by
     cases b' with
     |true=>rfl
     |false=>exact absurd ⟨w,rfl⟩ hb)
  ·rename_i ρ' e;split at hf
   ·cases hf
   ·rename_i hb;cases hf;exact b.ok r e λA τ G' r'=>h .non G' r'.ex .non λw=>absurd w hb
  ·cases hf
 ·cases hf
mutual
def tD:T->Option PyData
 |.non=>some .none|.bl b=>some (.bool b)|.int i=>some (.int i)|.str x=>some (.str x)|.tup xs=>(tDs xs).map .tuple|.ref _=>none
def tDs:List T->Option (List PyData)
 |[]=>some []
 |x::r=>(tD x).bind λd=>(tDs r).map (d::·)
end
mutual
theorem qmS {G:Gp}:∀ (t:T) {d:PyData},tD t=some d->Dq G t d
 |.non,_,h=>by cases h;exact .non
 |.bl b,_,h=>by cases h;exact .bl b
 |.int b,_,h=>by cases h;exact .int b
 |.str b,_,h=>by cases h;exact .str b
 |.tup xs,_,h=>by
  unfold tD at h;obtain ⟨ds,e,rfl⟩:=zb5 h;exact .tup (qhh xs e)
 |.ref _,_,h=>by cases h
theorem qhh {G:Gp}:∀ (t:List T) {d:List PyData},tDs t=some d->Dqs G t d
 |[],_,h=>by cases h;exact .nil
 |x::r,_,h=>by
  unfold tDs at h;obtain ⟨d,e,h⟩:=obb h;obtain ⟨ds,e2,rfl⟩:=zb5 h;exact .cons (qmS x e) (qhh r e2)
end
def asS:PyData->Option Str
 |.str s=>some s
 |_=>none
theorem qcV {b:Str} (h:asS d=some b):d=.str b:=by cases d<;>simp [asS] at h;subst h;rfl
def qoq (tab:List (Str×T)) (a:PuE te):PuE (qep tab te):=⟨λρ=>((a.f ρ).bind asS).bind λs=>(zE tab s).bind tD,a.fv,false,λhv hd hf k=>by
 obtain ⟨s,e1,hf⟩:=obb hf;obtain ⟨d,e1,e2⟩:=obb e1;have:=qcV e2;subst this;obtain ⟨t,e3,hf⟩:=obb hf;refine a.ok hv hd e1 λx' G1 E1 D1 _=>?_;cases D1;simp only [e3];exact k _ _ E1 (qmS t hf) (λz=>by cases z)⟩
def qrg (tab:List (Str×T)) (a:PuE te):PuE (qpR tab te):=⟨λρ=>((a.f ρ).bind asS).map λs=>.bool (zE tab s).isSome,a.fv,false,λhv hd hf k=>by
 obtain ⟨s,e1,rfl⟩:=zb5 hf;obtain ⟨d,e1,e2⟩:=obb e1;have:=qcV e2;subst this;refine a.ok hv hd e1 λx' G1 E1 D1 _=>?_;cases D1;exact k _ _ E1 (.bl _) (λz=>by cases z)⟩
def qeO:List Str->List PyData->Str->Option PyData
 |k::ks,x::xs,s=>if k=s then some x else qeO ks xs s
 |_,_,_=>none
theorem qbK {G:Gp}:∀ (ks:List Str) {xs:List T} {ds:List PyData} {s:Str} {d:PyData},Dqs G xs ds->qeO ks ds s=some d->∃ x,zE (ks.zip xs) s=some x/\Dq G x d
 |[],_,_,_,_,_,h=>by simp [qeO] at h
 |k::ks,_,_,_,_,.nil,h=>by simp [qeO] at h
 |k::ks,_,_,s,d,.cons a b,h=>by
  unfold qeO at h;simp only [List.zip_cons_cons,zE];split at h
  ·rename_i e;cases h;exact ⟨_,by rw [if_pos e],a⟩
  ·rename_i e;obtain ⟨x,h1,h2⟩:=qbK ks b h;exact ⟨x,by rw [if_neg e];exact h1,h2⟩
def qoe (ks:List Str) {t:TA3} (a:PuA t) (b:PuE te):PuE (qnI ks t te):=⟨λρ=>(a.f ρ).bind λds=>((b.f ρ).bind asS).bind λs=>qeO ks ds s,a.fv++b.fv,false,λhv hd hf k=>by
 obtain ⟨ds,e1,hf⟩:=obb hf;obtain ⟨s,e2,hf⟩:=obb hf;obtain ⟨d,e2,e3⟩:=obb e2;have:=qcV e3;subst this;refine a.ok hv.l hd e1 λxs G1 E1 D1=>b.ok (hv.r.up E1) (hd.up E1) e2 λy G2 E2 D2 _=>?_;cases D2;obtain ⟨x,h1,h2⟩:=qbK ks (D1.up (jW E2)) hf;simp only [h1];exact k _ _ (E1.trans E2) h2 (λz=>by cases z)⟩
theorem qrj {i:Nat}:(bV i).f=λρ=>vw ρ i:=rfl
theorem qfz {i:Int}:(qC i).f=λ_=>some (.int i):=rfl
theorem qnS {i:Bool}:(bBl i).f=λ_=>some (.bool i):=rfl
theorem qhd {i:Str}:(V8 i).f=λ_=>some (.str i):=rfl
theorem qgH:qiW.f=λ_=>some .none:=rfl
theorem qrC {r:R3} {ta tb:TE3} {R:OpD r} {a:PuE ta} {b:PuE tb}:(bO R a b).f=λρ=>(a.f ρ).bind λx=>(b.f ρ).bind λy=>R.f x y:=rfl
theorem qha:qu.f=λ_=>some []:=rfl
theorem qbw {ta:TE3} {tr:TA3} {a:PuE ta} {r:PuA tr}:(qf a r).f=λρ=>(a.f ρ).bind λx=>(r.f ρ).bind λxs=>some (x::xs):=rfl
theorem qhq {t:TA3} {a:PuA t} {hn:Tru (xg1 a.n 1000)}:(YR a hn).f=λρ=>(a.f ρ).map .tuple:=rfl
theorem qhM {t:TA3} {a:PuA t} {hn:Tru (xg1 a.n 1000)}:(NO a hn).f=λρ=>(a.f ρ).map .list:=rfl
theorem qbn {r:List T->Gp->Q3->Prop} {t:TA3} {R:FnD r} {a:PuA t}:(qt R a).f=λρ=>(a.f ρ).bind R.f:=rfl
theorem qkf {t:TE3} {a:PuE t}:(bTb a).f=λρ=>(a.f ρ).bind asB:=rfl
theorem qgx {t u:TT3} {a:PuC t} {b:PuC u}:(qqh a b).f=λρ=>(a.f ρ).bind λk=>if k then b.f ρ else some false:=rfl
theorem qnO {t u:TT3} {a:PuC t} {b:PuC u}:(bOr a b).f=λρ=>(a.f ρ).bind λk=>if k then some true else b.f ρ:=rfl
theorem qfx {t:TT3} {a:PuC t}:(MT a).f=λρ=>(a.f ρ).map (! ·):=rfl
theorem qlG:bTt.f=λ_=>some true:=rfl
theorem qct {ta tb:TE3} {a:PuE ta} {b:PuE tb}:(UT a b).f=λρ=>((a.f ρ).bind asB).bind λk=>if k then b.f ρ else some (.bool false):=rfl
theorem qc7 {ta:TE3} {a:PuE ta}:(qns a).f=λρ=>((a.f ρ).bind asB).map λk=>.bool (!k):=rfl
theorem qgT {ta:TE3} {a:PuE ta}:(qiK a).f=λρ=>((a.f ρ).bind asI).map λi=>.int (-i):=rfl
theorem qlK {r r':R3} {ta tb tc:TE3} {R:OpD r} {R':OpD r'} {a:PuE ta} {b:PuE tb} {c:PuE tc}:(bCh R R' a b c).f=λρ=>(a.f ρ).bind λx=>(b.f ρ).bind λy=>((R.f x y).bind asB).bind λk=>if k then (c.f ρ).bind λz=>R'.f y z else some (.bool false):=rfl
theorem qhA {ta:TE3} {g:String->Bool} {a:PuE ta}:(qjs g a).f=λρ=>(a.f ρ).bind λd=>(tyD d).map λt=>.bool (g t):=rfl
theorem qko:bNp.f=λ_=>some none:=rfl
theorem qnA {t:TE3} {a:PuE t}:(bSp a).f=λρ=>((a.f ρ).bind asI).map some:=rfl
theorem qkV {te:TE3} {tl th:TO3} {a:PuE te} {l:PuO tl} {h:PuO th}:(bSl a l h).f=λρ=>(a.f ρ).bind λd=>(l.f ρ).bind λlo=>(h.f ρ).bind λhi=>slD d lo hi:=rfl
theorem qbx {te:TE3} {a:PuE te}:(qk3 a).f=λρ=>(a.f ρ).bind qag:=rfl
theorem qc4 {tab:List (Str×T)} {te:TE3} {a:PuE te}:(qoq tab a).f=λρ=>((a.f ρ).bind asS).bind λs=>(zE tab s).bind tD:=rfl
theorem qhJ {tab:List (Str×T)} {te:TE3} {a:PuE te}:(qrg tab a).f=λρ=>((a.f ρ).bind asS).map λs=>.bool (zE tab s).isSome:=rfl
theorem qcy {ks:List Str} {t:TA3} {te:TE3} {a:PuA t} {b:PuE te}:(qoe ks a b).f=λρ=>(a.f ρ).bind λds=>((b.f ρ).bind asS).bind λs=>qeO ks ds s:=rfl
theorem qkS {wi:TI3} {g:TG3} {tif:TT3} {te:TE3} {pi:PuI wi} {pg:PuG g} {pc:PuC tif} {pe:PuE te} {m:List (Option Nat)} {hm:Tru (pg.tg.all λi=>m[i]?==some none)}:(bLc pi pg pc pe m hm).f=lcF pi.f (lcH pg.f pc.f pe.f) m:=rfl
theorem qhe {wi wi2:TI3} {g g2:TG3} {tif tif2:TT3} {te:TE3} {pi:PuI wi} {pg:PuG g} {pc:PuC tif} {pi2:PuI wi2} {pg2:PuG g2} {pc2:PuC tif2} {pe:PuE te} {m:List (Option Nat)} {hm:Tru (pg.tg.all λi=>m[i]?==some none)} {hm2:Tru (pg2.tg.all λi=>m[i]?==some none)} {hdj:Tru (pg2.tg.all λi=>!pg.tg.contains i)}:(qmr pi pg pc pi2 pg2 pc2 pe m hm hm2 hdj).f=qnR pi.f (qoM pg.f pc.f pi2.f (lcH pg2.f pc2.f pe.f)) m:=rfl
theorem qf7:LW.f=qjM:=rfl
theorem qfV:qiE.f=qpm:=rfl
theorem qgs:qpD.f=qpp:=rfl
theorem qgW:qpB.f=qlU:=rfl
theorem qcs:qcz.f=mnD:=rfl
theorem qbX:K0.f=mxD:=rfl
theorem qa3 {F:List PyData->Option PyData} {fr:Bool}:(qR F fr).f=F:=rfl
theorem qm6 {g:Int->Int->Int} {i j:Int}:(opI g).f (.int i) (.int j)=some (.int (g i j)):=rfl
theorem qoT {g:Int->Int->Bool} {i j:Int}:(opB g).f (.int i) (.int j)=some (.bool (g i j)):=rfl
theorem qnV {C:Int->Int->Prop} {g:Int->Int->Int}:(opC C g).f=cI C g:=rfl
theorem qgl {n:Bool}:(YG n).f=eqD n:=rfl
theorem qbO {n:Bool}:(qd7 n).f=qke n:=rfl
theorem qeY {n:Bool}:(qry n).f=inD n:=rfl
theorem qde {n:Bool}:(qi8 n).f=qlM n:=rfl
theorem qge:zi.f=ixD:=rfl
theorem qa7:jy.f=qpz:=rfl
theorem NV:qf2.f=qps:=rfl
theorem qf8 {t:TE3} {a:PuE t}:(WE a).f=λρ=>(a.f ρ).bind qdx:=rfl
theorem qhQ {t:TA3} {a:PuA t}:(X9 a).f=λρ=>(a.f ρ).bind qhH:=rfl
theorem qbe {t:TA3} {a:PuA t}:(qjW a).f=λρ=>(a.f ρ).bind λds=>match ds with|[d]=>(qdx d).map λus=>enD 0 us|_=>none:=rfl
theorem qcj {t:TE3} {a:PuE t}:(WE a).nm=false:=rfl
theorem qcT {t:TA3} {a:PuA t}:(X9 a).nm=true:=rfl
theorem qri {i:Nat}:(gN i).f=λd=>some [(i,d)]:=rfl
theorem qfb:DK.f []=some []:=rfl
theorem qdb {t:TG3} {u:M0} {a:PuG t} {b:PuGs u} {d:PyData} {r:List PyData}:(qQ a b).f (d::r)=(a.f d).bind λx=>(b.f r).map λy=>x++y:=rfl
theorem qg2 {u:M0} {n:Nat} {b:PuGs u} {ds:List PyData}:(DQ n b).f (.tuple ds)=if ds.length=n then b.f ds else none:=rfl
theorem qbq:QS.f=λ_ ρ=>some (.nx ρ):=rfl
theorem qfB {t u:TS3} {a:PuS t} {b:PuS u}:(ju a b).f=qpx a.f b.f:=rfl
theorem qnn {c:TT3} {t u:TS3} {pc:PuC c} {a:PuS t} {b:PuS u}:(sIf pc a b).f=λn ρ=>(pc.f ρ).bind λk=>if k then a.f n ρ else b.f n ρ:=rfl
theorem qgQ {t:TE3} {a:PuE t}:(Q0 a).f=λ_ ρ=>(a.f ρ).map λd=>.rt d a.nw:=rfl
theorem qa5 {i:Nat}:(qau i).f=λ_ ρ=>qi1 ρ i:=rfl
theorem qfs {t:TE3} {a:PuE t} {i:Nat} {m:List Bool} {hm:Tru (a.fv.all (mkb m))}:(X7 a i m hm).f=λ_ ρ=>(a.f ρ).map λd=>.nx (qaQ m a.nw i d ρ):=rfl
theorem qcJ {t:TE3} {g:TG3} {a:PuE t} {pg:PuG g} {m:List Bool} {hm:Tru (a.fv.all (mkb m))}:(RU a pg m hm).f=λ_ ρ=>(a.f ρ).bind λd=>(pg.f d).map λbs=>.nx (jR (dm m ρ) bs):=rfl
theorem qgr {t:TA3} {a:PuA t} {i j:Nat} {m:List Bool} {hm:Tru (a.fv.all (mkb m))}:(qqG a i j m hm).f=λ_ ρ=>(a.f ρ).bind λds=>qfS i j m ds ρ:=rfl
theorem qfT {t:TE3} {a:PuE t} {i:Nat} {m:List Bool} {hm:Tru (a.fv.all (mkb m))}:(qrk a i m hm).f=λ_ ρ=>(a.f ρ).bind λd=>qkF i d (dmS m d ρ):=rfl
theorem qfl {t:TE3} {a:PuE t} {i:Nat} {m:List Bool} {hm:Tru (a.fv.all (mkb m))}:(qpo a i m hm).f=λ_ ρ=>(a.f ρ).bind λd=>qkE i d (dmS m d ρ):=rfl
theorem qhL {wi:TI3} {g:TG3} {tb:TS3} {pi:PuI wi} {pg:PuG g} {pb:PuS tb} {m:List Bool} {hm:Tru (pi.fv.all (mkb m))}:(qdZ pi pg pb m hm).f=qoI pi.f pi.nm m pg.f pb.f:=rfl
theorem qmq {c:TT3} {tb:TS3} {pc:PuC c} {pb:PuS tb}:(sWh pc pb).f=λn ρ=>whP pc.f (pb.f n) n ρ:=rfl
theorem qda {i:Int}:(qC i).nw=false:=rfl
theorem qhf {i:Bool}:(bBl i).nw=false:=rfl
theorem qcH:qiW.nw=false:=rfl
theorem qmj {r:R3} {ta tb:TE3} {R:OpD r} {a:PuE ta} {b:PuE tb}:(bO R a b).nw=R.nw:=rfl
theorem qcZ {t:TA3} {a:PuA t} {hn:Tru (xg1 a.n 1000)}:(YR a hn).nw=false:=rfl
theorem qbd {t:TA3} {a:PuA t} {hn:Tru (xg1 a.n 1000)}:(NO a hn).nw=true:=rfl
theorem MZ {r:List T->Gp->Q3->Prop} {t:TA3} {R:FnD r} {a:PuA t}:(qt R a).nw=R.nw:=rfl
theorem MY {F:List PyData->Option PyData} {fr:Bool}:(qR F fr).nw=fr:=rfl
theorem M6 {ta tb:TE3} {a:PuE ta} {b:PuE tb}:(UT a b).nw=false:=rfl
theorem qg9 {wi:TI3} {g:TG3} {tif:TT3} {te:TE3} {pi:PuI wi} {pg:PuG g} {pc:PuC tif} {pe:PuE te} {m:List (Option Nat)} {hm:Tru (pg.tg.all λi=>m[i]?==some none)}:(bLc pi pg pc pe m hm).nw=true:=rfl
theorem qb4 {wi wi2:TI3} {g g2:TG3} {tif tif2:TT3} {te:TE3} {pi:PuI wi} {pg:PuG g} {pc:PuC tif} {pi2:PuI wi2} {pg2:PuG g2} {pc2:PuC tif2} {pe:PuE te} {m:List (Option Nat)} {hm:Tru (pg.tg.all λi=>m[i]?==some none)} {hm2:Tru (pg2.tg.all λi=>m[i]?==some none)} {hdj:Tru (pg2.tg.all λi=>!pg.tg.contains i)}:(qmr pi pg pc pi2 pg2 pc2 pe m hm hm2 hdj).nw=true:=rfl
theorem qbl:qiE.nw=false:=rfl
theorem qaX:qpD.nw=true:=rfl
theorem qbc:zi.nw=false:=rfl
theorem qcn {n:Bool}:(YG n).nw=false:=rfl
theorem qhm {g:Int->Int->Int}:(opI g).nw=false:=rfl
theorem qgz {C:Int->Int->Prop} {g:Int->Int->Int}:(opC C g).nw=false:=rfl
theorem qrF {s:Sl} {r:Rho}:vw (s::r) 0=s.d:=rfl
theorem qrl {s:Sl} {r:Rho} {i:Nat}:vw (s::r) (i+1)=vw r i:=rfl
theorem qkY {d:PyData}:(Sl.sh d).d=some d:=rfl
theorem qlD {ds:List PyData}:(Sl.ow ds).d=some (.list ds):=rfl
theorem qlW:Sl.un.d=none:=rfl
theorem qa4 {r:Rho} {ds:List PyData}:slot (.ow ds::r) 0=some ds:=rfl
theorem qfm {s:Sl} {r:Rho} {i:Nat}:slot (s::r) (i+1)=slot r i:=rfl
theorem qbj {r:Rho} {ds:List PyData}:qi1 (.ow ds::r) 0=some (.rt (.list ds) true):=rfl
theorem qcE {r:Rho} {d:PyData}:qi1 (.sh d::r) 0=some (.rt d false):=rfl
theorem qfG {s:Sl} {r:Rho} {i:Nat}:qi1 (s::r) (i+1)=qi1 r i:=rfl
theorem qn3 {xs:List PyData} {i:Int}:ixD (.tuple xs) (.int i)=L2.atI xs i:=rfl
theorem qkv {xs:List PyData} {i:Int}:ixD (.list xs) (.int i)=L2.atI xs i:=rfl
theorem at0 {α:Type} {a:α} {r:List α}:L2.atI (a::r) 0=some a:=by simp [L2.atI,ixN]
theorem at1 {α:Type} {a b:α} {r:List α}:L2.atI (a::b::r) 1=some b:=by
 have h:ixN (a::b::r).length 1=some 1:=by unfold ixN;rw [if_pos (by omega),if_pos (by simp;omega)];rfl
 unfold L2.atI;rw [h];rfl
theorem at2 {α:Type} {a b c:α} {r:List α}:L2.atI (a::b::c::r) 2=some c:=by
 have h:ixN (a::b::c::r).length 2=some 2:=by unfold ixN;rw [if_pos (by omega),if_pos (by simp;omega)];rfl
 unfold L2.atI;rw [h];rfl
theorem at3 {α:Type} {a b c d:α} {r:List α}:L2.atI (a::b::c::d::r) 3=some d:=by
 have h:ixN (a::b::c::d::r).length 3=some 3:=by unfold ixN;rw [if_pos (by omega),if_pos (by simp;omega)];rfl
 unfold L2.atI;rw [h];rfl
theorem atN {xs:List α} {k:Nat} (h:k<xs.length):L2.atI xs (k:Int)=xs[k]?:=by
 have e:ixN xs.length (k:Int)=some k:=by unfold ixN;rw [if_pos (by omega),if_pos (by omega)];rfl
 unfold L2.atI;rw [e];rfl
theorem eqS {n:Bool} {a b:Str}:eqD n (.str a) (.str b)=some (.bool (if n then !decide (a=b) else decide (a=b))):=rfl
theorem eqI {n:Bool} {a b:Int}:eqD n (.int a) (.int b)=some (.bool (if n then !decide (a=b) else decide (a=b))):=rfl
theorem eqB {n:Bool} {a b:Bool}:eqD n (.bool a) (.bool b)=some (.bool (if n then !decide (a=b) else decide (a=b))):=rfl
theorem qoU {n:Bool}:qke n .none .none=some (.bool !n):=rfl
theorem ql5 {n:Bool} {xs:List PyData}:qke n (.tuple xs) .none=some (.bool n):=rfl
variable {j:Int}
theorem qir {C:Int->Int->Prop} {g:Int->Int->Int} {i:Int} (h:C i j):cI C g (.int i) (.int j)=some (.int (g i j)):=by simp only [cI];exact zk h
theorem qoH {i:Int} (h:-1000000<j/\j<1000000):cI j9 (·*·) (.int i) (.int j)=some (.int (i*j)):=qir (.inr ⟨by omega,by omega⟩)
theorem JQ {i:Int} (h:-1000000<i/\i<1000000):cI j9 (·*·) (.int i) (.int j)=some (.int (i*j)):=qir (.inl ⟨by omega,by omega⟩)
theorem qmN {i:Int} (h:0<j):cI (λ_ j=>0<j) (·%·) (.int i) (.int j)=some (.int (i%j)):=qir h
theorem qrh {i j:Int}:qpz (.int i) (.int j)=some (.int (i+j)):=rfl
theorem LJ (h:-1000000000<=j/\j<1000000000):qhH [.int j]=some ((zh 0 j.toNat).map PyData.int):=by simp only [qhH];exact zk ⟨by omega,by omega⟩
theorem qh2 {i:Int} (h:-1000000000<=i/\i<1000000000/\-1000000000<=j/\j<1000000000):qhH [.int i,.int j]=some ((zh i (j-i).toNat).map PyData.int):=by simp only [qhH];exact zk ⟨by omega,by omega,by omega,by omega⟩
variable {pi:Rho->Option (List PyData)} {fs:List PyData}
theorem zI {h:Rho->PyData->Option (Option PyData)} (h1:pi ρ=some ds) (h2:lcP (h (RA m ρ)) ds=some fs) (h3:fs.length<=16777216):lcF pi h m ρ=some (.list fs):=by unfold lcF;rw [h1];simp only [ze7,h2];exact zk h3
theorem ME {h:Rho->PyData->Option (Option (List PyData))} (h1:pi ρ=some ds) (h2:qjy (h (RA m ρ)) ds=some fs) (h3:fs.length<=16777216):qnR pi h m ρ=some (.list fs):=by unfold qnR;rw [h1];simp only [ze7,h2];exact zk h3
theorem qjP (h:slot ρ i=some ds) (hl:ds.length<16777216):qkF i d ρ=some (.nx (ρ.set i (.ow (ds++[d])))):=by unfold qkF;rw [h];simp only [ze7];exact zk hl
theorem qeK {gf:PyData->Option (List (Nat×PyData))} {bf:Rho->Option Ot} {α:Type} {g:α->PyData} (xs:List α) (I:Nat->Rho->Prop) {ρ:Rho} (h0:I 0 ρ)
  (hs:∀ i x ρ,xs[i]?=some x->I i ρ->∃ bs ρ',gf (g x)=some bs/\(bf (jR ρ bs)=some (.nx ρ')\/bf (jR ρ bs)=some (.ct ρ'))/\I (i+1) ρ'):∃ ρ',S7 gf bf (xs.map g) ρ=some (.nx ρ')/\I xs.length ρ':=by
 have key:∀ (r:List α) (i:Nat) (ρ:Rho),xs.drop i=r->i<=xs.length->I i ρ->∃ ρ',S7 gf bf (r.map g) ρ=some (.nx ρ')/\I xs.length ρ':=by
  intro r;induction r with
  |nil=>
   intro i ρ e hi h;have:i=xs.length:=by
    have:=congrArg List.length e;simp at this;omega
   subst this;exact ⟨ρ,rfl,h⟩
  |cons x r ih=>
   intro i ρ e hi h;have hl:i<xs.length:=by
    have:=congrArg List.length e;simp at this;omega
   have e':=zf6 hl;rw [e] at e';injection e' with e1 e2;obtain ⟨bs,ρ',h1,h2,h3⟩:=hs i x ρ (by rw [u7 hl,e1]) h;obtain ⟨ρ2,h4,h5⟩:=ih (i+1) ρ' e2.symm hl h3;refine ⟨ρ2,?_,h5⟩;simp only [zg2,S7,h1,ze7];rcases h2 with h2|h2<;>(rw [h2];exact h4)
 exact key xs 0 ρ (by simp) (zj1 _) h0
theorem qcD {gf:PyData->Option (List (Nat×PyData))} {bf:Rho->Option Ot} {α:Type} {g:α->PyData} (xs:List α) (n:Nat) (x:α) (hn:xs[n]?=some x) (I:Nat->Rho->Prop) {ρ:Rho} {o:Ot} (h0:I 0 ρ)
  (hs:∀ i x ρ,i<n->xs[i]?=some x->I i ρ->∃ bs ρ',gf (g x)=some bs/\(bf (jR ρ bs)=some (.nx ρ')\/bf (jR ρ bs)=some (.ct ρ'))/\I (i+1) ρ')
  (he:∀ ρ,I n ρ->∃ bs,gf (g x)=some bs/\((∃ d b,o=.rt d b/\bf (jR ρ bs)=some (.rt d b))\/∃ ρ',o=.nx ρ'/\bf (jR ρ bs)=some (.bk ρ'))):S7 gf bf (xs.map g) ρ=some o:=by
 have hl:=(zb6 hn).1;have key:∀ (k i:Nat) (ρ:Rho),i+k=n->I i ρ->S7 gf bf ((xs.drop i).map g) ρ=some o:=by
  intro k;induction k with
  |zero=>
   intro i ρ e h;have:i=n:=by omega
   subst this;obtain ⟨bs,h1,h2⟩:=he ρ h;rw [zf6 hl];have ex:xs[i]=x:=by
    rw [u7 hl] at hn;exact Option.some.inj hn
   rw [ex];simp only [zg2,S7,h1,ze7];rcases h2 with ⟨d,b,rfl,h2⟩|⟨ρ',rfl,h2⟩<;>(rw [h2];rfl)
  |succ k ih=>
   intro i ρ e h;have hi:i<xs.length:=by omega
   obtain ⟨bs,ρ',h1,h2,h3⟩:=hs i xs[i] ρ (by omega) (u7 hi) h;rw [zf6 hi];simp only [zg2,S7,h1,ze7];rcases h2 with h2|h2<;>(rw [h2];exact ih (i+1) ρ' (by omega) h3)
 exact key n 0 ρ (by omega) h0
def sqk (b:Nat->Rho->Option Ot) (n:Nat) (o:Ot):Option Ot:=match o with|.nx ρ'=>b n ρ'|o=>some o
theorem qhv {a b:Nat->Rho->Option Ot} {n:Nat} {ρ:Rho}:qpx a b n ρ=(a n ρ).bind (sqk b n):=rfl
theorem qhl {b:Nat->Rho->Option Ot} {n:Nat} {ρ:Rho}:sqk b n (.nx ρ)=b n ρ:=rfl
theorem qg8 {b:Nat->Rho->Option Ot} {n:Nat} {d:PyData} {f:Bool}:sqk b n (.rt d f)=some (.rt d f):=rfl
theorem qcu {d:PyData}:Z6 true (some (.rt d true))=some d:=rfl
theorem qfn {d:PyData} {b:Bool}:Z6 false (some (.rt d b))=some d:=by simp [Z6]
theorem qn5 {b:Bool}:asB (.bool b)=some b:=rfl
theorem qlm {b:Int}:asI (.int b)=some b:=rfl
theorem qnP {b:Str}:asS (.str b)=some b:=rfl
theorem qgS {xs:List PyData}:qjM [.tuple xs]=some (.int xs.length):=rfl
theorem qfP {xs:List PyData}:qjM [.list xs]=some (.int xs.length):=rfl
theorem qhB {xs:List PyData}:qpm [.list xs]=some (.tuple xs):=rfl
theorem qgJ {xs:List PyData}:qpp [.tuple xs]=some (.list xs):=rfl
theorem NL {xs:List Bool}:qlU [.list (xs.map PyData.bool)]=some (.bool (xs.all id)):=by simp only [qlU,qdV,xf9]
theorem qdP {xs:List Int} (h:xs≠[]):mnD [.list (xs.map PyData.int)]=some (.int (mn xs)):=by simp only [mnD,W6,ze7];exact zk h
theorem LV {xs:List Int} (h:xs≠[]):mxD [.list (xs.map PyData.int)]=some (.int (mx xs)):=by simp only [mxD,W6,ze7];exact zk h
theorem qh9 {xs:List Int} (h:xs.length<4000):qag (.list (xs.map PyData.int))=some (.int (V6 xs)):=by simp only [qag,W6,ze7];exact zk h
theorem qfr {xs:List PyData}:qdx (.tuple xs)=some xs:=rfl
theorem qgh {xs:List PyData}:qdx (.list xs)=some xs:=rfl
theorem qn6 {i:Int}:tyD (.int i)=some "int" := id rfl
theorem qoa {i:Str}:tyD (.str i)=some "str" := id rfl
theorem qoc {i:List PyData}:tyD (.tuple i)=some "tuple" := id rfl
theorem qk0 {m:List Bool} {nw:Bool} {i:Nat} {v:Int} {ρ:Rho}:qaQ m nw i (.int v) ρ=ρ.set i (.sh (.int v)):=rfl
theorem qmU {m:List Bool} {nw:Bool} {i:Nat} {v:Bool} {ρ:Rho}:qaQ m nw i (.bool v) ρ=ρ.set i (.sh (.bool v)):=rfl
theorem qlZ {m:List Bool} {nw:Bool} {i:Nat} {v:Str} {ρ:Rho}:qaQ m nw i (.str v) ρ=ρ.set i (.sh (.str v)):=rfl
theorem qj1 {m:List Bool} {nw:Bool} {i:Nat} {v:List PyData} {ρ:Rho}:qaQ m nw i (.tuple v) ρ=(dm m ρ).set i (.sh (.tuple v)):=by cases nw<;>rfl
theorem qf1 {m:List Bool} {i:Nat} {v:List PyData} {ρ:Rho}:qaQ m true i (.list v) ρ=(dm m ρ).set i (.ow v):=rfl
theorem qmJ {m:List Bool} {v:List PyData} {ρ:Rho}:dmS m (.tuple v) ρ=dm m ρ:=rfl
theorem qmE {m:List Bool} {v:List PyData} {ρ:Rho}:dmS m (.list v) ρ=dm m ρ:=rfl
theorem qrG {ρ:Rho}:dm [] ρ=ρ:=rfl
theorem qrn {m:List Bool} {s:Sl} {ρ:Rho}:dm (true::m) (s::ρ)=s.dem::dm m ρ:=rfl
theorem qq9 {m:List Bool} {s:Sl} {ρ:Rho}:dm (false::m) (s::ρ)=s::dm m ρ:=rfl
theorem qoQ {ds:List PyData}:(Sl.ow ds).dem=.sh (.list ds):=rfl
theorem qlt {d:PyData}:(Sl.sh d).dem=.sh d:=rfl
theorem qmh {ρ:Rho}:RA [] ρ=[]:=rfl
theorem qnu {m:List (Option Nat)} {ρ:Rho}:RA (none::m) ρ=.un::RA m ρ:=rfl
def cp (o:Option PyData):Sl:=match o with|some d=>.sh d|none=>.un
theorem qll {m:List (Option Nat)} {j:Nat} {ρ:Rho}:RA (some j::m) ρ=cp (vw ρ j)::RA m ρ:=rfl
theorem qq8 {d:PyData}:cp (some d)=.sh d:=rfl
theorem qng {i j:Nat} {m:List Bool} {x y:Int} {ρ:Rho}:qfS i j m [.int x,.int y] ρ=some (.nx ((ρ.set i (.sh (.int x))).set j (.sh (.int y)))):=rfl
theorem qfu {pi:Rho->Option (List PyData)} {m:List Bool} {gf:PyData->Option (List (Nat×PyData))} {bf:Nat->Rho->Option Ot} {n:Nat} {ρ:Rho}:qoI pi true m gf bf n ρ=(pi ρ).bind λds=>S7 gf (bf n) ds ρ:=rfl
theorem qg7 {pi:Rho->Option (List PyData)} {m:List Bool} {gf:PyData->Option (List (Nat×PyData))} {bf:Nat->Rho->Option Ot} {n:Nat} {ρ:Rho}:qoI pi false m gf bf n ρ=(pi ρ).bind λds=>S7 gf (bf n) ds (dm m ρ):=rfl
theorem qgi {ρ:Rho}:jR ρ []=ρ:=rfl
theorem qhy {ρ:Rho} {i:Nat} {d:PyData} {r:List (Nat×PyData)}:jR ρ ((i,d)::r)=jR (ρ.set i (.sh d)) r:=rfl
variable {gf:PyData->Option (List (Nat×PyData))} {cf:Rho->Option Bool}
theorem jq {ef:Rho->Option PyData} :lcH gf cf ef ρ d=(gf d).bind λbs=>(cf (jR ρ bs)).bind λk=>if k then (ef (jR ρ bs)).map some else some none:=id rfl
theorem qdm {it:Rho->Option (List PyData)} {h:Rho->PyData->Option (Option PyData)} :qoM gf cf it h ρ d=(gf d).bind λbs=>(cf (jR ρ bs)).bind λk=>if k then ((it (jR ρ bs)).bind λds=>lcP (h (jR ρ bs)) ds).map some else some none:=id rfl
def Nx (o:Option Ot) (P:Rho->Prop):Prop:=match o with|some (.nx ρ)=>P ρ|some (.ct ρ)=>P ρ|_=>False
theorem qma {ρ:Rho} {P:Rho->Prop}:Nx (some (.nx ρ)) P=P ρ:=rfl
theorem qh4 {o:Option Ot} {P:Rho->Prop} (h:Nx o P):∃ ρ,(o=some (.nx ρ)\/o=some (.ct ρ))/\P ρ:=by
 unfold Nx at h;split at h
 ·exact ⟨_,.inl rfl,h⟩
 ·exact ⟨_,.inr rfl,h⟩
 ·exact h.elim
section
variable {bf:Rho->Option Ot} {Q:Option Ot->Prop} {F:Ot->Option Ot}
theorem WJ (xs:List α) (I:Nat->Rho->Prop) (h0:I 0 ρ) (hs:∀ i x ρ,xs[i]?=some x->I i ρ->Nx ((gf (g x)).bind λbs=>bf (jR ρ bs)) (I (i+1))) (k:∀ ρ',I xs.length ρ'->Q (some (.nx ρ'))):Q (S7 gf bf (xs.map g) ρ):=by
 obtain ⟨ρ',e,h⟩:=qeK (gf:=gf) (bf:=bf) (g:=g) xs I h0 λi x ρ hx hi=>by
  obtain ⟨ρ2,e,h⟩:=qh4 (hs i x ρ hx hi);cases e1:gf (g x) with
  |none=>rw [e1] at e;rcases e with e|e<;>cases e
  |some bs=>rw [e1] at e;exact ⟨bs,ρ2,rfl,e,h⟩
 rw [e];exact k ρ' h
theorem U6 (xs:List α) (I:Nat->Rho->Prop) (h0:I 0 ρ) (hs:∀ i x ρ,xs[i]?=some x->I i ρ->Nx ((gf (g x)).bind λbs=>bf (jR ρ bs)) (I (i+1))) (k:∀ ρ',I xs.length ρ'->Q (F (.nx ρ'))):Q ((S7 gf bf (xs.map g) ρ).bind F):=
 WJ (Q:=λo=>Q (o.bind F)) xs I h0 hs k
theorem DL (xs:List α) (n:Nat) (x:α) (d:PyData) (b:Bool) (hn:xs[n]?=some x) (I:Nat->Rho->Prop) (h0:I 0 ρ) (hs:∀ i x ρ,i<n->xs[i]?=some x->I i ρ->Nx ((gf (g x)).bind λbs=>bf (jR ρ bs)) (I (i+1))) (he:∀ ρ,I n ρ->((gf (g x)).bind λbs=>bf (jR ρ bs))=some (.rt d b)) (k:Q (some (.rt d b))):Q (S7 gf bf (xs.map g) ρ):=by
 rw [qcD (gf:=gf) (bf:=bf) (g:=g) xs n x hn I h0 (λi x ρ hi hx hI=>by
  obtain ⟨ρ2,e,h⟩:=qh4 (hs i x ρ hi hx hI);cases e1:gf (g x) with
  |none=>rw [e1] at e;rcases e with e|e<;>cases e
  |some bs=>rw [e1] at e;exact ⟨bs,ρ2,rfl,e,h⟩) (o:=.rt d b) λρ hI=>by
  have:=he ρ hI;cases e1:gf (g x) with
  |none=>rw [e1] at this;cases this
  |some bs=>rw [e1] at this;exact ⟨bs,rfl,.inl ⟨d,b,rfl,this⟩⟩]
 exact k
theorem qjq (xs:List α) (n:Nat) (x:α) (d:PyData) (b:Bool) (hn:xs[n]?=some x) (I:Nat->Rho->Prop) (h0:I 0 ρ) (hs:∀ i x ρ,i<n->xs[i]?=some x->I i ρ->Nx ((gf (g x)).bind λbs=>bf (jR ρ bs)) (I (i+1))) (he:∀ ρ,I n ρ->((gf (g x)).bind λbs=>bf (jR ρ bs))=some (.rt d b)) (k:Q (F (.rt d b))):Q ((S7 gf bf (xs.map g) ρ).bind F):=
 DL (Q:=λo=>Q (o.bind F)) xs n x d b hn I h0 hs he k
theorem qkl {N:Nat} (n:Nat) (hn:n<N) (I:Nat->Rho->Prop) (h0:I 0 ρ) (hc:∀ i ρ,i<n->I i ρ->cf ρ=some true) (hs:∀ i ρ,i<n->I i ρ->Nx (bf ρ) (I (i+1))) (he:∀ ρ,I n ρ->cf ρ=some false) (k:∀ ρ',I n ρ'->Q (F (.nx ρ'))):Q ((whP cf bf N ρ).bind F):=by
 have key:∀ (k i M:Nat) (ρ:Rho),i+k=n->k<M->I i ρ->∃ ρ',whP cf bf M ρ=some (.nx ρ')/\I n ρ':=by
  intro k;induction k with
  |zero=>
   intro i M ρ e hM h;have:i=n:=by omega
   subst this;cases M with
   |zero=>omega
   |succ M=>exact ⟨ρ,by unfold whP;rw [he ρ h];rfl,h⟩
  |succ k ih=>
   intro i M ρ e hM h;cases M with
   |zero=>omega
   |succ M=>
    have h1:=hc i ρ (by omega) h;obtain ⟨ρ',h2,h3⟩:=qh4 (hs i ρ (by omega) h);obtain ⟨ρ2,h4,h5⟩:=ih (i+1) M ρ' (by omega) (by omega) h3;refine ⟨ρ2,?_,h5⟩;unfold whP;rw [h1];rcases h2 with h2|h2<;>(simp only [ze7,if_pos,h2];exact h4)
 obtain ⟨ρ',e,h⟩:=key n 0 N ρ (by omega) hn h0;rw [e];exact k ρ' h
end
variable {us:List α}
theorem qrt (h:us.length=1):∃ a0,us=[a0]:=List.length_eq_one_iff.mp h
theorem qrr (h:us.length=2):∃ a0 a1,us=[a0,a1]:=by
 obtain ⟨a0,r,rfl⟩:=zj8 (show 0<us.length by omega);obtain ⟨a1,rfl⟩:=qrt (show r.length=1 by simpa using h);exact ⟨a0,a1,rfl⟩
theorem qro (h:us.length=3):∃ a0 a1 a2,us=[a0,a1,a2]:=by
 obtain ⟨a0,r,rfl⟩:=zj8 (show 0<us.length by omega);obtain ⟨a1,a2,rfl⟩:=qrr (show r.length=2 by simpa using h);exact ⟨a0,a1,a2,rfl⟩
theorem qrD (h:us.length=4):∃ a0 a1 a2 a3,us=[a0,a1,a2,a3]:=by
 obtain ⟨a0,r,rfl⟩:=zj8 (show 0<us.length by omega);obtain ⟨a1,a2,a3,rfl⟩:=qro (show r.length=3 by simpa using h);exact ⟨a0,a1,a2,a3,rfl⟩
theorem qq5 (h:us.length=5):∃ a0 a1 a2 a3 a4,us=[a0,a1,a2,a3,a4]:=by
 obtain ⟨a0,r,rfl⟩:=zj8 (show 0<us.length by omega);obtain ⟨a1,a2,a3,a4,rfl⟩:=qrD (show r.length=4 by simpa using h);exact ⟨a0,a1,a2,a3,a4,rfl⟩
theorem qsq (h:us.length=6):∃ a0 a1 a2 a3 a4 a5,us=[a0,a1,a2,a3,a4,a5]:=by
 obtain ⟨a0,r,rfl⟩:=zj8 (show 0<us.length by omega);obtain ⟨a1,a2,a3,a4,a5,rfl⟩:=qq5 (show r.length=5 by simpa using h);exact ⟨a0,a1,a2,a3,a4,a5,rfl⟩
end Pu
namespace Pv
open PySem L2 L3 Pu
def WH:PuS (Bk.NW):=(Q0 (bLc (X9 (qf (bV 2) qu)) (gN 0) bTt (YR (qf (bO (opC j9 (·*·)) (bV 0) (bV 1)) (qf (bO (opC j9 (·*·)) (bV 0) (bV 2)) qu)) ⟨rfl⟩) [none,some 0,some 1] ⟨rfl⟩))
def js:List PyData->Option PyData:=run (WH).f 3 3 1000000000 true
theorem qbY:∀ ts G q,PSp (js) true ts G q->ts.length=3/\Bk.NW { nx:=λ_ G'=>q .non G',rt:=q } (qo ["down","along","many"] ts) G:=qT (WH) ["down","along","many"] 3 1000000000 true
variable {x0:PyData}
theorem qbr {x1 x2:PyData}:js [x0,x1,x2]=Z6 true ((WH).f 1000000000 [.sh x0,.sh x1,.sh x2]):=id rfl
def jA (js:List PyData->Option PyData):PuS (Bk.C6 (PSp js true)):=(ju (X7 (bO zi (bV 0) (qC 0)) 1 [true] ⟨rfl⟩) (ju (sIf (bTb (bO (YG false) (bV 1) (V8 "cells"))) (Q0 (qt qpD (qf (bO zi (bV 0) (qC 1)) qu))) QS) (ju (sIf (bTb (bO (YG false) (bV 1) (V8 "block"))) (Q0 (qmr (X9 (qf (bO zi (bV 0) (qC 1)) qu)) (gN 0) bTt (X9 (qf (bO zi (bV 2) (qC 2)) qu)) (gN 1) bTt (YR (qf (bV 0) (qf (bV 1) qu)) ⟨rfl⟩) [none,none,some 0] ⟨rfl⟩ ⟨rfl⟩ ⟨rfl⟩)) QS) (ju (sIf (bTb (bO (YG false) (bV 1) (V8 "step"))) (Q0 (qt (qR js true) (qf (bO zi (bV 0) (qC 1)) (qf (bO zi (bV 0) (qC 2)) (qf (bO zi (bV 0) (qC 3)) qu))))) QS) (ju (RU (qoq YI (bV 1)) (DQ 2 (qQ (gN 2) (qQ (gN 3) DK))) [false,true] ⟨rfl⟩) (Q0 (qt (qR js true) (qf (bV 2) (qf (bV 3) (qf (bO zi (bV 0) (qC 1)) qu))))))))))
def je:List PyData->Option PyData:=run (jA js).f 1 4 1000000000 true
theorem LO:∀ ts G q,PSp (je) true ts G q->ts.length=1/\Bk.C6 (PSp js true) { nx:=λ_ G'=>q .non G',rt:=q } (qo ["walk","kind","down","along"] ts) G:=qT (jA js) ["walk","kind","down","along"] 1 1000000000 true
theorem ZW:je [x0]=Z6 true ((jA js).f 1000000000 [.sh x0,.un,.un,.un]):=id rfl
def jP:PuS (Bk.UB):=(ju (qdZ (X9 (qf (qt LW (qf (bV 0) qu)) qu)) (gN 1) (qdZ (X9 (qf (bO jy (bV 1) (qC 1)) (qf (qt LW (qf (bV 0) qu)) qu))) (gN 2) (sIf (bTb (bO (YG false) (bO zi (bV 0) (bV 1)) (bO zi (bV 0) (bV 2)))) (Q0 (YR (qf (bV 1) (qf (bV 2) qu)) ⟨rfl⟩)) QS) [true,true] ⟨rfl⟩) [true] ⟨rfl⟩) (Q0 qiW))
def zz:List PyData->Option PyData:=run (jP).f 1 3 1000000000 false
theorem CA:∀ ts G q,PSp (zz) false ts G q->ts.length=1/\Bk.UB { nx:=λ_ G'=>q .non G',rt:=q } (qo ["things","k","l"] ts) G:=qT (jP) ["things","k","l"] 1 1000000000 false
theorem CD:zz [x0]=Z6 false ((jP).f 1000000000 [.sh x0,.un,.un]):=id rfl
open Bk (Wk Dl zH zp Q1 lnD lnA)
noncomputable def pD (p:Int×Int):PyData:=.tuple [.int p.1,.int p.2]
def Wk.d:Wk->PyData
 |.line k m=>.tuple [.str (Q1 k),.int m]
 |.block h w=>.tuple [.str "block",.int h,.int w]
 |.step d a m=>.tuple [.str "step",.int d,.int a,.int m]
 |.cells ps=>.tuple [.str "cells",.tuple (ps.map pD)]
noncomputable def qjr (r:List Int):PyData:=.tuple (r.map PyData.int)
def dlD:Dl->PyData
 |.skew r c b x y=>.tuple [.str "skew",.int r,.int c,.int b,.int x,.int y]
 |.rests r c b p=>.tuple [.str "rests",.int r,.int c,.int b,.int p]
 |.bits h l ms=>.tuple [.str "bits",.int h,.int l,.tuple (ms.map PyData.int)]
 |.table b cells=>.tuple [.str "table",.int b,.tuple (cells.map qjr)]
 |.joined d e=>.tuple [.str "joined",dlD d,dlD e]
theorem qcO (G:Gp):∀ (cs:List (List Int)),Dqs G (cs.map Bk.MQ) (cs.map qjr)
 |[]=>.nil
 |r::cs=>.cons (.tup (Dqs.ofInts r)) (qcO G cs)
theorem qjk (G:Gp):∀ (d:Dl),Dq G d.t (dlD d)
 |.skew r c b x y=>.tup (.cons (.str _) (.cons (.int _) (.cons (.int _) (.cons (.int _) (.cons (.int _) (.cons (.int _) .nil))))))
 |.rests r c b p=>.tup (.cons (.str _) (.cons (.int _) (.cons (.int _) (.cons (.int _) (.cons (.int _) .nil)))))
 |.bits h l ms=>.tup (.cons (.str _) (.cons (.int _) (.cons (.int _) (.cons (.tup (Dqs.ofInts ms)) .nil))))
 |.table b cells=>.tup (.cons (.str _) (.cons (.int _) (.cons (.tup (qcO G cells)) .nil)))
 |.joined d e=>.tup (.cons (.str _) (.cons (qjk G d) (.cons (qjk G e) .nil)))
end Pv
namespace Pu
open PySem L2 L3
open Bk (Lf Ext)
variable {D:Addr->Prop} {a:Addr} {G G' G0:Gp} {n:Nat} {fv:List Nat} {l:Nat} {τ:St3} {ρ:Rho} {k:Int} {d:PyData}
section
variable {n':Nat} {gv:List Nat}
theorem UZ (e:Ext a G G') (h:D a):Ex (rs D G) (rs D G'):=λb o x=>by
 obtain ⟨n,x⟩:=qI x;rw [jQ n];exact e b o (by rintro rfl;exact n h) x
theorem EU (h:Lf G a k):G a≠none:=by
 obtain ⟨o,c,m,e,_⟩:=h;rw [e];simp
theorem jC (hd:Dom D G) (e:Ext a G G') (lf:Lf G' a k):Dom D G':=λb hb z=>by
 by_cases h:b=a
 ·subst h;exact EU lf z
 ·cases g:G b with
  |none=>exact hd b hb g
  |some o=>rw [e b o h g] at z;cases z
theorem Nw.backx {x:T} (h:Nw D G G' x d) (e:Ext a G0 G) (lf:Lf G a k):Nw D G0 G' x d:=by
 rcases h with h|⟨p,xs,ds,h1,h2,c,r⟩
 ·exact .inl h
 refine .inr ⟨p,xs,ds,h1,h2,?_,r⟩;cases z:G0 p with
 |none=>rfl
 |some o=>
  by_cases hp:p=a
  ·subst hp;exact absurd c (EU lf)
  ·rw [e p o hp z] at c;cases c
structure Ln (fv:List Nat) (l:Nat) (D:Addr->Prop) (G:Gp) (τ:St3) (ρ:Rho) (a:Addr) (n:Nat):Prop where
 v:X8 fv D G τ ρ
 d:Dom D G
 da:D a
 tl:τ[l]?=some (some (.ref a))
 ul:vw ρ l=none
 lf:Lf G a n
theorem Ln.up (h:Ln fv l D G τ ρ a n) (e:Ext a G G') (lf:Lf G' a n'):Ln fv l D G' τ ρ a n':=
 ⟨λi hi d hd=>let ⟨t,x,y⟩:=h.v i hi d hd;⟨t,x,y.up (UZ e h.da)⟩,jC h.d e lf,h.da,h.tl,h.ul,lf⟩
theorem Ln.fst (h:Ln (fv++gv) l D G τ ρ a n):Ln fv l D G τ ρ a n:=⟨h.v.l,h.d,h.da,h.tl,h.ul,h.lf⟩
theorem Ln.snd (h:Ln (fv++gv) l D G τ ρ a n):Ln gv l D G τ ρ a n:=⟨h.v.r,h.d,h.da,h.tl,h.ul,h.lf⟩
end
abbrev QD:=PyData->Nat->Prop
structure PwE (l:Nat) (t:TE3) where
 w:Rho->Nat->QD->Prop
 fv:List Nat
 nw:Bool
 mono:∀ {ρ n} {Q Q':QD},w ρ n Q->(∀ d m,Q d m->Q' d m)->w ρ n Q'
 ok:∀ {D τ ρ G a n} {q:Q3} {Q:QD},Ln fv l D G τ ρ a n->w ρ n Q->(∀ x d G' n',Q d n'->Ext a G G'->Lf G' a n'->Dq (rs D G') x d->(nw=true->Nw D G G' x d)->q x G')->t τ G q
structure PwC (l:Nat) (t:TT3) where
 w:Rho->Nat->(Bool->Nat->Prop)->Prop
 fv:List Nat
 mono:∀ {ρ n} {Q Q':Bool->Nat->Prop},w ρ n Q->(∀ d m,Q d m->Q' d m)->w ρ n Q'
 ok:∀ {D τ ρ G a n} {q:Bool->Gp->Prop} {Q:Bool->Nat->Prop},Ln fv l D G τ ρ a n->w ρ n Q->(∀ k G' n',Q k n'->Ext a G G'->Lf G' a n'->q k G')->t τ G q
structure PwA (l:Nat) (t:TA3) where
 w:Rho->Nat->(List PyData->Nat->Prop)->Prop
 fv:List Nat
 k:Nat
 mono:∀ {ρ n} {Q Q':List PyData->Nat->Prop},w ρ n Q->(∀ d m,Q d m->Q' d m)->w ρ n Q'
 ok:∀ {D τ ρ G a n} {q:List T->Gp->Prop} {Q:List PyData->Nat->Prop},Ln fv l D G τ ρ a n->w ρ n Q->(∀ x d G' n',Q d n'->d.length=k->Ext a G G'->Lf G' a n'->Dqs (rs D G') x d->q x G')->t τ G q
structure PwI (l:Nat) (t:TI3) where
 w:Rho->Nat->(List PyData->Nat->Prop)->Prop
 fv:List Nat
 nm:Bool
 mono:∀ {ρ n} {Q Q':List PyData->Nat->Prop},w ρ n Q->(∀ d m,Q d m->Q' d m)->w ρ n Q'
 ok:∀ {D τ ρ G a n} {r:List T->(Gp->Prop)->Gp->Prop} {Q:List PyData->Nat->Prop},Ln fv l D G τ ρ a n->w ρ n Q ->
  (∀ items stay ds G' n',Q ds n'->Ext a G G'->Lf G' a n'->Dqs (rs D G') items ds->(∀ G'',(nm=true\/Ex (rs D G') G'')->stay G'')->(nm=true->∃ ns:List Int,ds=ns.map PyData.int)->r items stay G')->t τ G r
structure DrD (r:List T->Gp->Q3->Prop) where
 W:List PyData->Nat->QD->Prop
 nw:Bool
 mono:∀ {ds n} {Q Q':QD},W ds n Q->(∀ d m,Q d m->Q' d m)->W ds n Q'
 ok:∀ {D:Addr->Prop} {G:Gp} {a:Addr} {n:Nat} {ts:List T} {ds:List PyData} {q:Q3} {Q:QD},Lf G a n->D a->Dom D G->Dqs (rs D G) ts ds->W ds n Q->(∀ x d G' n',Q d n'->Ext a G G'->Lf G' a n'->Dq (rs D G') x d->(nw=true->Nw D G G' x d)->q x G')->r (.ref a::ts) G q
variable {t:TE3} {r:List T->Gp->Q3->Prop}
def eOf (b:PuE t):PwE l t:=⟨λρ n Q=>∃ d,b.f ρ=some d/\Q d n,b.fv,b.nw,λ⟨d,h1,h2⟩ h=>⟨d,h1,h _ _ h2⟩,λh ⟨d,h1,h2⟩ k=>
 b.ok h.v h.d h1 λx G1 E1 D1 N1=>k x d G1 _ h2 (Bk.DR E1) (h.lf.ex E1) D1 N1⟩
def cOf {t:TT3} (b:PuC t):PwC l t:=⟨λρ n Q=>∃ d,b.f ρ=some d/\Q d n,b.fv,λ⟨d,h1,h2⟩ h=>⟨d,h1,h _ _ h2⟩,λh ⟨d,h1,h2⟩ k=>
 b.ok h.v h.d h1 λG1 E1=>k d G1 _ h2 (Bk.DR E1) (h.lf.ex E1)⟩
def aOf {t:TA3} (b:PuA t):PwA l t:=⟨λρ n Q=>∃ d,b.f ρ=some d/\Q d n,b.fv,b.n,λ⟨d,h1,h2⟩ h=>⟨d,h1,h _ _ h2⟩,λh ⟨d,h1,h2⟩ k=>
 b.ok h.v h.d h1 λx G1 E1 D1=>k x d G1 _ h2 (b.ln h1) (Bk.DR E1) (h.lf.ex E1) D1⟩
def iOf {t:TI3} (b:PuI t):PwI l t:=⟨λρ n Q=>∃ d,b.f ρ=some d/\Q d n,b.fv,b.nm,λ⟨d,h1,h2⟩ h=>⟨d,h1,h _ _ h2⟩,λh ⟨d,h1,h2⟩ k=>
 b.ok h.v h.d h1 λitems stay G1 E1 D1 s nm=>k items stay d G1 _ h2 (Bk.DR E1) (h.lf.ex E1) D1 s nm⟩
def eO {r:R3} {ta tb:TE3} (R:OpD r) (a:PwE l ta) (b:PwE l tb):PwE l (o3 r ta tb):=
 ⟨λρ n Q=>a.w ρ n λx n1=>b.w ρ n1 λy n2=>∃ v,R.f x y=some v/\Q v n2,a.fv++b.fv,R.nw,λh k=>a.mono h λx n1 h=>b.mono h λy n2 ⟨v,h1,h2⟩=>⟨v,h1,k _ _ h2⟩,λh hw k=>
  a.ok h.fst hw λx dx G1 n1 h1 E1 L1 D1 _=>b.ok (h.snd.up E1 L1) h1 λy dy G2 n2 ⟨v,e,hq⟩ E2 L2 D2 _=>R.ok (D1.up (UZ E2 h.da)) D2 (jC (jC h.d E1 L1) E2 L2) e λz G3 E3 D3 N3=>k z v G3 n2 hq ((E1.trans E2).trans (Bk.DR E3)) (L2.ex E3) D3 λz=>(N3 z).backx (E1.trans E2) L2⟩
def zT {ta:TE3} {tr:TA3} (a:PwE l ta) (r:PwA l tr):PwA l (qe ta tr):=
 ⟨λρ n Q=>a.w ρ n λx n1=>r.w ρ n1 λxs n2=>Q (x::xs) n2,a.fv++r.fv,r.k+1,λh k=>a.mono h λx n1 h=>r.mono h λxs n2 h=>k _ _ h,λh hw k=>
  a.ok h.fst hw λx dx G1 n1 h1 E1 L1 D1 _=>r.ok (h.snd.up E1 L1) h1 λy dy G2 n2 hq hl E2 L2 D2=>k _ _ G2 n2 hq (by simp [hl]) (E1.trans E2) L2 (.cons (D1.up (UZ E2 h.da)) D2)⟩
def qdY {t:TA3} (b:PwA l t) (hn:Tru (xg1 b.k 1000)):PwE l (jv t):=⟨λρ n Q=>b.w ρ n λxs n1=>Q (.tuple xs) n1,b.fv,false,λh k=>b.mono h λxs n1 h=>k _ _ h,λh hw k=>
 b.ok h hw λx dx G1 n1 h1 hl E1 L1 D1=>⟨by rw [D1.length,hl];exact few hn,k _ _ _ _ h1 E1 L1 (.tup D1) (λz=>by cases z)⟩⟩
def qpn {t:TA3} (b:PwA l t) (hn:Tru (xg1 b.k 1000)):PwE l (ZD t):=⟨λρ n Q=>b.w ρ n λxs n1=>Q (.list xs) n1,b.fv,true,λh k=>b.mono h λxs n1 h=>k _ _ h,λh hw k=>
 b.ok h hw λx dx G1 n1 h1 hl E1 L1 D1=>⟨by rw [D1.length,hl];exact few hn,λp hp=>k _ _ _ _ h1 (E1.trans (Bk.DR (ja hp))) (L1.ex (ja hp)) (UU (jC h.d E1 L1) hp D1) λ_=>(WR hp D1).backx E1 L1⟩⟩
def qiY {t:TA3} (R:FnD r) (b:PwA l t):PwE l (cb3 r t):=⟨λρ n Q=>b.w ρ n λxs n1=>∃ v,R.f xs=some v/\Q v n1,b.fv,R.nw,λh k=>b.mono h λxs n1 ⟨v,h1,h2⟩=>⟨v,h1,k _ _ h2⟩,λh hw k=>
 b.ok h hw λx dx G1 n1 ⟨v,e,hq⟩ hl E1 L1 D1=>R.ok D1 (jC h.d E1 L1) e λz G3 E3 D3 N3=>k z v G3 n1 hq (E1.trans (Bk.DR E3)) (L1.ex E3) D3 λz=>(N3 z).backx E1 L1⟩
def eDr {t:TA3} (R:DrD r) (b:PwA l t):PwE l (cb3 r (qe (v3 l) t)):=⟨λρ n Q=>b.w ρ n λxs n1=>R.W xs n1 Q,b.fv,R.nw,λh k=>b.mono h λxs n1 h=>R.mono h k,λ{D τ ρ G a n q Q} h hw k=>by
 simp only [cb3,qe,v3,h.tl];exact b.ok h hw λx dx G1 n1 hW hl E1 L1 D1=>R.ok L1 h.da (jC h.d E1 L1) D1 hW λz d G3 n3 hq E3 L3 D3 N3=>k z d G3 n3 hq (E1.trans E3) L3 D3 λz=>(N3 z).backx E1 L1⟩
def cTb (b:PwE l t):PwC l (tb3 t):=⟨λρ n Q=>b.w ρ n λd n1=>∃ k,asB d=some k/\Q k n1,b.fv,λh k=>b.mono h λd m ⟨v,h1,h2⟩=>⟨v,h1,k _ _ h2⟩,λh hw k=>b.ok h hw λx d G1 n1 ⟨v,e,hq⟩ E1 L1 D1 _=>by
 have:=CV e;subst this;cases D1;exact k _ _ _ hq E1 L1⟩
def lcW (gf:PyData->Option (List (Nat×PyData))) (cw:Rho->Nat->(Bool->Nat->Prop)->Prop) (ew:Rho->Nat->QD->Prop) (ρ:Rho):List PyData->Nat->(List PyData->Nat->Prop)->Prop
 |[],n,Q=>Q [] n
 |d::r,n,Q=>∃ bs,gf d=some bs/\cw (jR ρ bs) n λk n1=>if k then ew (jR ρ bs) n1 λy n2=>lcW gf cw ew ρ r n2 λys n3=>Q (y::ys) n3 else lcW gf cw ew ρ r n1 Q
theorem UK {l:Nat} {g:TG3} {tif:TT3} {te:TE3} (pg:PuG g) (pc:PwC l tif) (pe:PwE l te) {ρ:Rho}:∀ {ds:List PyData} {n:Nat} {Q Q':List PyData->Nat->Prop},lcW pg.f pc.w pe.w ρ ds n Q->(∀ d m,Q d m->Q' d m)->lcW pg.f pc.w pe.w ρ ds n Q'
 |[],n,Q,Q',h,k=>k _ _ h
 |d::r,n,Q,Q',⟨bs,e,h⟩,k=>⟨bs,e,pc.mono h λj m h=>by
   cases j with
   |true=>rw [if_pos rfl] at h ⊢;exact pe.mono h λy m2 h=>UK pg pc pe h λys m3 h=>k _ _ h
   |false=>exact UK pg pc pe h k⟩
theorem VA.ext (h:VA D G τ ρ) (e:Ext a G G') (da:D a):VA D G' τ ρ:=h.upx (UZ e da)
theorem qca:∀ {ts:List (Nat×T)} {τ:St3} {i:Nat},(∀ p∈ts,p.1≠i)->(sets τ ts)[i]?=τ[i]?
 |[],_,_,_=>rfl
 |p::r,τ,i,h=>by
  unfold sets;rw [qca λq hq=>h q (by simp [hq]),zg3,if_neg (h p (by simp))]
theorem qb1 {l:Nat} {stay:Gp->Prop} {g:TG3} {tif:TT3} {te:TE3} {q:Q3} (pg:PuG g) (pc:PwC l tif) (pe:PwE l te) {D:Addr->Prop} {a:Addr} {ρ0:Rho} {G0:Gp} (da:D a) (hs:∀ G,Ext a G0 G->stay G) (hm:∀ i∈pg.tg,vw ρ0 i=none) (hl:∀ i∈pg.tg,i≠l) {Q:List PyData->Nat->Prop}
  (k:∀ G ys fs n,Q fs n->fs.length<=sizeLine->Ext a G0 G->Lf G a n->Dqs (rs D G) ys fs->∀ p,G p=none->q (.ref p) (gu G p (.lst ys))) :
  vw ρ0 l=none->∀ (ds:List PyData) (items ys:List T) (es:List PyData) (τ:St3) (G:Gp) (n:Nat),Dqs (rs D G0) items ds->VA D G τ ρ0->τ[l]?=some (some (.ref a))->Ext a G0 G->Dom D G->Lf G a n->Dqs (rs D G) ys es->lcW pg.f pc.w pe.w ρ0 ds n (λfs n=>(es++fs).length<=sizeLine/\Q (es++fs) n)->ds.length+es.length<=sizeLine->RE stay g tif te q items ys τ G
 |_,_,_,ys,es,τ,G,n,.nil,va,tl,E,hd,lf,hy,hw,_=>by
  obtain ⟨h1,h2⟩:=hw;rw [zh0] at h1 h2;exact ⟨hs G E,k G ys es n h2 h1 E lf hy⟩
 |ul,d::ds,x::items,ys,es,τ,G,n,.cons hx hr,va,tl,E,hd,lf,hy,⟨bs,e3,hw⟩,hz=>by
  obtain ⟨ts,bd,kg⟩:=pg.ok (hx.up (UZ E da)) e3;refine ⟨hs G E,kg τ G _ ?_⟩;have va1:=va.sets bd;have at1:∀ p∈ts,p.1∈pg.tg:=λp hp=>by
   obtain ⟨q,hq,e⟩:=qbB bd p hp;rw [← e];exact pg.at' e3 q hq
  have va2:=va.keep (ts:=ts) λp hp=>hm _ (at1 p hp);have tl1:(sets τ ts)[l]?=some (some (.ref a)):=by rw [qca λp hp=>hl _ (at1 p hp)];exact tl
  have ul1:vw (jR ρ0 bs) l=none:=by rw [SV λp hp=>hl _ (pg.at' e3 p hp)];exact ul
  refine pc.ok ⟨va1.view _,hd,da,tl1,ul1,lf⟩ hw λc G1 n1 hc E1 L1=>?_;cases c with
  |true=>
   rw [if_pos rfl] at hc ⊢;refine pe.ok ⟨(va1.ext E1 da).view _,jC hd E1 L1,da,tl1,ul1,L1⟩ hc λz y G2 n2 hq E2 L2 D2 _=>⟨?_,?_⟩
   ·rw [hy.length];simp at hz;omega
   ·refine qb1 pg pc pe da hs hm hl k ul ds items (ys++[z]) (es++[y]) _ G2 n2 hr ((va2.ext E1 da).ext E2 da) tl1 ((E.trans E1).trans E2) (jC (jC hd E1 L1) E2 L2) L2 (((hy.up (UZ E1 da)).up (UZ E2 da)).append (.cons D2 .nil)) ?_ (by simp at hz ⊢;omega);refine UK pg pc pe hq λfs m h=>?_;rw [xh5];exact h
  |false=>
   rw [if_neg v8] at hc ⊢;exact qb1 pg pc pe da hs hm hl k ul ds items ys es _ G1 n1 hr (va2.ext E1 da) tl1 (E.trans E1) (jC hd E1 L1) L1 (hy.up (UZ E1 da)) hc (by simp at hz;omega)
def qrU {l:Nat} (it:Rho->Nat->(List PyData->Nat->Prop)->Prop) (h:Rho->List PyData->Nat->(List PyData->Nat->Prop)->Prop) (m:List (Option Nat)) (ρ:Rho) (n:Nat) (Q:QD):Prop:=
 it ρ n λds n1=>ds.length<=16777216/\h (RA m ρ) ds n1 λfs n2=>fs.length<=16777216/\Q (.list fs) n2
variable {g:TG3}
def eLc {wi:TI3} {tif:TT3} {te:TE3} (l2:Nat) (pi:PwI l wi) (pg:PuG g) (pc:PwC l2 tif) (pe:PwE l2 te) (m:List (Option Nat)) (hm:Tru (pg.tg.all λi=>m[i]?==some none)) (hl:Tru (m[l2]?==some (some l))):PwE l (lc3 wi g tif te m):=
 ⟨qrU (l:=l) pi.w (lcW pg.f pc.w pe.w) m,pi.fv++(m.filterMap id).filter (· != l),true,λh k=>pi.mono h λds n1 ⟨h1,h⟩=>⟨h1,UK pg pc pe h λfs n2 ⟨h2,h⟩=>⟨h2,k _ _ h⟩⟩,λ{D τ ρ G a n q Q} h hw k=>by
  have hl':m[l2]?=some (some l):=by simpa using hl.h
  refine pi.ok h.fst hw λitems stay ds G1 n1 ⟨h1,hw1⟩ E1 L1 D1 hs _=>?_;have hv:X8 (m.filterMap id) D G τ ρ:=λi hi d hd=>by
   by_cases e:i=l
   ·subst e;rw [h.ul] at hd;cases hd
   ·exact h.snd.v i (zi5.mpr ⟨hi,by simpa using e⟩) d hd
  have va:=(VA.cap (m:=m) hv).ext E1 h.da;refine qb1 pg pc pe (D:=D) (a:=a) (ρ0:=RA m ρ) (G0:=G1) h.da (λG2 E2=>hs G2 (.inr ((UZ E2 h.da).trans ZC))) (λi hi=>SN ?_) (λi hi e=>?_) (Q:=λfs n=>Q (.list fs) n) (λG2 ys fs n2 hq hlen E2 L2 D2 p hp=>?_) ?_ ds items [] [] _ G1 n1 D1 va ?_ Bk.Ext.refl (jC h.d E1 L1) L1 .nil ?_ ?_
  ·simpa using zi7.mp hm.h i hi
  ·subst e;have:=zi7.mp hm.h i hi;rw [hl'] at this;simp at this
  ·exact k _ _ _ _ hq ((E1.trans E2).trans (Bk.DR (ja hp))) (L2.ex (ja hp)) (UU (jC (jC h.d E1 L1) E2 L2) hp D2) λ_=>(WR hp D2).backx (E1.trans E2) L2
  ·unfold vw RA;rw [ze5,hl'];simp only [xf9,ze7,h.ul];rfl
  ·unfold L3.cap;rw [ze5,hl'];simp [h.tl]
  ·refine UK pg pc pe hw1 λfs m ⟨h2,h3⟩=>⟨?_,by simpa using h3⟩
   rw [v9];simpa using h2
  ·rw [v9];simpa using h1⟩
structure RL (l:Nat) (a:Addr) (z0:Option (Option T)×Nat) (D:Addr->Prop) (G0:Gp) (A:Nat->Addr->Prop) (τ:St3) (ρ:Rho) (G:Gp) (n:Nat):Prop where
 r:RS D G0 A τ ρ G
 al:A l a
 tl:τ[l]?=some (some (.ref a))
 ul:ρ[l]?=some Sl.un
 lf:Lf G a n
 tz:τ[0]?=z0.1/\τ.length=z0.2
variable {z0:Option (Option T)×Nat} {A:Nat->Addr->Prop} {i:Nat} {m:List Bool} {ds:List PyData}
section
variable {n':Nat}
theorem RL.vl (h:RL l a z0 D G0 A τ ρ G n):vw ρ l=none:=by unfold vw;rw [h.ul];rfl
theorem RL.up (h:RL l a z0 D G0 A τ ρ G n) (e:Ext a G G') (lf:Lf G' a n'):RL l a z0 D G0 A τ ρ G' n':=
 ⟨h.r.keep (W:=λb=>b=a) e λb z=>⟨l,by rw [z];exact h.al,h.ul,by rw [z];exact EU lf⟩,h.al,h.tl,h.ul,lf,h.tz⟩
theorem RL.ne (h:RL l a z0 D G0 A τ ρ G n) {p:Addr} {s:Sl} (hp:A i p) (e:ρ[i]?=some s) (hs:s≠.un):p≠a:=by
 rintro rfl;have:=h.r.inj i l _ hp h.al;subst this;rw [h.ul] at e;cases e;exact hs rfl
theorem RL.all (h:RL l a z0 D G0 A τ ρ G n) (fv:List Nat):Ln fv l (λb=>D b\/b=a) G τ ρ a n:=by
 refine ⟨λi _ d hd=>?_,λb hb=>?_,.inr rfl,h.tl,h.vl,h.lf⟩
 ·unfold vw at hd;obtain ⟨s,e,hd⟩:=obb hd;refine (h.r.sl i s e).vis hd (jB λb z=>?_) λp o q g=>?_
  ·rcases z with z|z
   ·exact .inl z
   ·subst z;exact .inr ⟨l,h.al⟩
  ·rw [jQ]
   ·exact g
   ·rintro (z|z)
    ·exact h.r.nd q z
    ·exact h.ne q e (by rintro rfl;cases hd) z
 ·rcases hb with hb|hb
  ·exact h.r.domD b hb
  ·subst hb;exact EU h.lf
theorem qrv (hm:mkb m l=false) (al:A l a):Ad m A l a:=⟨al,hm⟩
theorem RL.dem (h:RL l a z0 D G0 A τ ρ G n) (hm:mkb m l=false):RL l a z0 D G0 (Ad m A) τ (Pu.dm m ρ) G n:=
 ⟨h.r.dem m,qrv hm h.al,h.tl,by rw [qdE,h.ul];simp [hm],h.lf,h.tz⟩
theorem RL.ln (h:RL l a z0 D G0 A τ ρ G n) (hm:mkb m l=false) (hf:Tru (fv.all (mkb m))):Ln fv l (AD D (Ad m A)) G τ ρ a n:=
 ⟨h.r.viewD hf,(h.r.dem m).dom,.inr ⟨l,qrv hm h.al⟩,h.tl,h.vl,h.lf⟩
theorem RL.put (h:RL l a z0 D G0 A τ ρ G n) (hi:i≠l) (h0:i≠0) {x:T} (hx:Dq (rs (AD D A) G) x d):RL l a z0 D G0 (Er A i) (τ.set i (some x)) (ρ.set i (.sh d)) G n:=
 ⟨h.r.put i hx,(.inr ⟨λz=>hi z.symm,h.al⟩),by rw [zg3,if_neg hi];exact h.tl,by rw [zg3,if_neg hi];exact h.ul,h.lf,⟨by rw [zg3,if_neg h0];exact h.tz.1,by rw [zn9];exact h.tz.2⟩⟩
theorem RL.puts:∀ {ts:List (Nat×T)} {bs:List (Nat×PyData)} {A:Nat->Addr->Prop} {τ:St3} {ρ:Rho},RL l a z0 D G0 A τ ρ G n->Bd (rs (AD D A) G) ts bs->(∀ p∈bs,p.1≠l/\p.1≠0)->∃ A',RL l a z0 D G0 A' (sets τ ts) (jR ρ bs) G n
 |_,_,A,_,_,h,.nil,_=>⟨A,h⟩
 |_,_,A,_,_,h,.cons x b,hn=>by
  unfold sets jR;exact RL.puts (h.put (hn _ za7).1 (hn _ za7).2 x) (b.up qic) (λp hp=>hn p (za0 _ hp))
theorem RL.upd (h:RL l a z0 D G0 A τ ρ G n) {i:Nat} (hi:i≠l) (h0:i≠0) {x:T} {s:Sl} {B:Addr->Prop} (hg:∀ b o,b≠a->¬ A i b->G b=some o->G' b=some o) (lf:Lf G' a n') (hB:∀ b,B b->(A i b\/G b=none)/\G' b≠none)
  (hs:Ex (rs (AD D A) G) (rs (AD D (Rg A i B)) G')->SlR (rs (AD D (Rg A i B)) G') G' B (some (some x)) s):RL l a z0 D G0 (Rg A i B) (τ.set i (some x)) (ρ.set i s) G' n':=
 ⟨h.r.upd i (W:=λb=>b=a\/A i b) (λb o w z=>hg b o (λy=>w (.inl y)) (λy=>w (.inr y)) z) (λb z=>by
  rcases z with z|z
  ·exact ⟨l,by rw [z];exact h.al,.inr ⟨h.ul,by rw [z];exact EU lf⟩⟩
  ·exact ⟨i,z,.inl rfl⟩) hB hs,.inr ⟨λz=>hi z.symm,h.al⟩,by rw [zg3,if_neg hi];exact h.tl,by rw [zg3,if_neg hi];exact h.ul,lf,⟨by rw [zg3,if_neg h0];exact h.tz.1,by rw [zn9];exact h.tz.2⟩⟩
theorem RL.putN (h:RL l a z0 D G0 A τ ρ G n) (hi:i≠l) (h0:i≠0) {x:T} (hd:d=.list ds) (E:Ext a G G') (lf:Lf G' a n') (hx:Nw (AD D A) G G' x d):∃ A',RL l a z0 D G0 A' (τ.set i (some x)) (ρ.set i (.ow ds)) G' n':=by
 rcases hx with hx|⟨p,xs,ds',rfl,e',gp,gp',hs⟩
 ·rw [hd] at hx;cases hx
 rw [hd] at e';cases e';refine ⟨_,h.upd hi h0 (B:=λb=>b=p) (λb o w _ z=>E b o w z) lf (λb z=>by subst z;exact ⟨.inr gp,by rw [gp'];simp⟩) λ_=>⟨p,xs,rfl,rfl,gp',hs.up (jB λb z=>?_)⟩⟩;rcases z with z|⟨j,⟨_,z⟩|⟨_,z⟩⟩
 ·exact .inl (.inl z)
 ·exact .inr z
 ·exact .inl (.inr ⟨j,z⟩)
theorem RL.wr (h:RL l a z0 D G0 A τ ρ G n) {p:Addr} {xs:List T} {ds0:List PyData} (ho:ρ[i]?=some (Sl.ow ds0)) (hi:A i p) (ht:τ[i]?=some (some (.ref p))) (hs:Dqs (rs (AD D A) G) xs ds):RL l a z0 D G0 A τ (ρ.set i (.ow ds)) (gu G p (.lst xs)) n:=by
 have il:i≠l:=by rintro rfl;rw [h.ul] at ho;cases ho
 have pa:p≠a:=by rintro rfl;exact il (h.r.inj i l _ hi h.al)
 exact ⟨h.r.wr hi ht hs,h.al,h.tl,by rw [zg3,if_neg il];exact h.ul,h.lf.new pa,h.tz⟩
end
abbrev QO:=Ot->Nat->Prop
def qcQ (l:Nat) (a:Addr) (z0:Option (Option T)×Nat) (D:Addr->Prop) (G0:Gp) (e:Ends3):Ot->Nat->Prop
 |.nx ρ,n=>∀ A τ G,RL l a z0 D G0 A τ ρ G n->e.nx τ G
 |.bk ρ,n=>∀ A τ G,RL l a z0 D G0 A τ ρ G n->e.bk τ G
 |.ct ρ,n=>∀ A τ G,RL l a z0 D G0 A τ ρ G n->e.ct τ G
 |.rt d fr,n=>∀ x G,Ex G0 G->Lf G a n->Dq (rs (λb=>D b\/b=a) G) x d->(fr=true->Nw (λb=>D b\/b=a) G0 G x d)->e.rt x G
structure PwS (l:Nat) (t:TS3) where
 w:Rho->Nat->QO->Prop
 mono:∀ {ρ n} {Q Q':QO},w ρ n Q->(∀ o m,Q o m->Q' o m)->w ρ n Q'
 ok:∀ {a z0 D G0 A τ ρ G n} {e:Ends3} {Q:QO},RL l a z0 D G0 A τ ρ G n->w ρ n Q->(∀ o m,Q o m->qcQ l a z0 D G0 e o m)->t e τ G
def S5:PwS l qE:=⟨λρ n Q=>Q (.nx ρ) n,λh k=>k _ _ h,λh hw k=>k _ _ hw _ _ _ h⟩
def sqw (b:Rho->Nat->QO->Prop) (Q:QO):QO:=λo n=>match o with|.nx ρ'=>b ρ' n Q|o=>Q o n
def V2 {t u:TS3} (x:PwS l t) (y:PwS l u):PwS l (qS t u):=⟨λρ n Q=>x.w ρ n (sqw y.w Q),λh k=>x.mono h λo m h=>by
  cases o with
  |nx ρ=>exact y.mono h k
  |bk ρ=>exact k _ _ h
  |ct ρ=>exact k _ _ h
  |rt d f=>exact k _ _ h,λh hw k=>x.ok h hw λo m h=>by
  cases o with
  |nx ρ=>exact λA τ G r=>y.ok r h k
  |bk ρ=>exact k _ _ h
  |ct ρ=>exact k _ _ h
  |rt d f=>exact k _ _ h⟩
def wIf {c:TT3} {t u:TS3} (pc:PwC l c) (x:PwS l t) (y:PwS l u):PwS l (zD c t u):=⟨λρ n Q=>pc.w ρ n λk n1=>if k then x.w ρ n1 Q else y.w ρ n1 Q,λh k=>pc.mono h λj m h=>by
  cases j with
  |true=>rw [if_pos rfl] at h ⊢;exact x.mono h k
  |false=>exact y.mono h k,λh hw k=>pc.ok (h.all _) hw λj G1 n1 hj E1 L1=>by
  cases j with
  |true=>rw [if_pos rfl] at hj ⊢;exact x.ok (h.up E1 L1) hj k
  |false=>exact y.ok (h.up E1 L1) hj k⟩
theorem qj6 (h:RL l a z0 D G0 A τ ρ G n) (e:Ext a G G'):Ex G0 G':=λb o x=>e b o (by rintro rfl;rw [h.r.fr l _ h.al] at x;cases x) (h.r.ex b o x)
def qcM (x:PwE l t):PwS l (zg t):=⟨λρ n Q=>x.w ρ n λd n1=>Q (.rt d x.nw) n1,λh k=>x.mono h λd m h=>k _ _ h,λh hw k=>x.ok (h.all _) hw λy d G1 n1 hq E1 L1 D1 N1=>k _ _ hq y G1 (qj6 h E1) L1 D1 λz=>(N1 z).back h.r.ex⟩
def S8 (x:PwE l t) (i:Nat) (m:List Bool) (hm:Tru (x.fv.all (mkb m))) (hl:Tru (!mkb m l&&(i != l&&i != 0))):PwS l (zl t (gn3 i)):=⟨λρ n Q=>x.w ρ n λd n1=>Q (.nx (qaQ m x.nw i d ρ)) n1,λh k=>x.mono h λd m h=>k _ _ h,λ{a z0 D G0 A τ ρ G n e Q} h hw k=>by
 have hl':mkb m l=false/\i≠l/\i≠0:=by simpa using hl.h
 refine x.ok (h.ln hl'.1 hm) hw λy d G1 n1 hq E1 L1 D1 N1=>?_;have k:=k _ _ hq;unfold qaQ at k;show e.nx (τ.set i (some y)) G1;split at k
 ·rename_i hs;exact k _ _ _ ((h.up E1 L1).put hl'.2.1 hl'.2.2 (DN D1 hs))
 ·split at k
  ·rename_i hn;have N:=N1 hn;rcases id N with h2|⟨p,xs,ds,h1,h2,_⟩
   ·exact absurd h2 (by assumption)
   subst h2;obtain ⟨A',r⟩:=(h.dem hl'.1).putN hl'.2.1 hl'.2.2 rfl E1 L1 N;exact k _ _ _ r
  ·exact k _ _ _ (((h.dem hl'.1).up E1 L1).put hl'.2.1 hl'.2.2 D1)⟩
def qej (x:PwE l t) (pg:PuG g) (m:List Bool) (hm:Tru (x.fv.all (mkb m))) (hl:Tru (!mkb m l&&pg.tg.all (λi=>i != l&&i != 0))):PwS l (zl t g):=⟨λρ n Q=>x.w ρ n λd n1=>∃ bs,pg.f d=some bs/\Q (.nx (jR (dm m ρ) bs)) n1,λh k=>x.mono h λd m ⟨bs,h1,h2⟩=>⟨bs,h1,k _ _ h2⟩,λ{a z0 D G0 A τ ρ G n e Q} h hw k=>by
 have hl':mkb m l=false/\∀ i∈pg.tg,i≠l/\i≠0:=by simpa using hl.h
 refine x.ok (h.ln hl'.1 hm) hw λy d G1 n1 ⟨bs,e2,hq⟩ E1 L1 D1 N1=>?_;obtain ⟨ts,bd,kg⟩:=pg.ok D1 e2;refine kg _ _ _ ?_;obtain ⟨A',h'⟩:=((h.dem hl'.1).up E1 L1).puts bd (λp hp=>hl'.2 _ (pg.at' e2 p hp));exact k _ _ hq _ _ _ h'⟩
def qq7 {t:TA3} (x:PwA l t) (i j:Nat) (m:List Bool) (hm:Tru (x.fv.all (mkb m))) (hl:Tru (!mkb m l&&((i != l&&i != 0)&&(j != l&&j != 0)))):PwS l (JC i j t):=⟨λρ n Q=>x.w ρ n λds n1=>∃ o,qfS i j m ds ρ=some o/\Q o n1,λh k=>x.mono h λd m ⟨bs,h1,h2⟩=>⟨bs,h1,k _ _ h2⟩,λ{a z0 D G0 A τ ρ G n e Q} h hw k=>by
 have hl':mkb m l=false/\(i≠l/\i≠0)/\j≠l/\j≠0:=by simpa using hl.h
 refine x.ok (h.ln hl'.1 hm) hw λy d G1 n1 ⟨o,e2,hq⟩ hlen E1 L1 D1=>?_;unfold qfS at e2;split at e2
 ·cases D1 with
  |cons x1 b=>cases b with
   |cons x2 c=>
    cases c;split at e2
    ·rename_i hs;cases e2;rw [zf9] at hs;exact k _ _ hq _ _ _ (((h.up E1 L1).put hl'.2.1.1 hl'.2.1.2 (DN x1 hs.1)).put hl'.2.2.1 hl'.2.2.2 (DN x2 hs.2))
    ·cases e2;exact k _ _ hq _ _ _ ((((h.dem hl'.1).up E1 L1).put hl'.2.1.1 hl'.2.1.2 x1).put hl'.2.2.1 hl'.2.2.2 (x2.up qic))
 ·cases e2⟩
theorem RL.evalS (h:RL l a z0 D G0 A τ ρ G n) (x:PwE l t) (m:List Bool) (hm:Tru (x.fv.all (mkb m))) (hl:mkb m l=false) {Q:QD} (hw:x.w ρ n Q) (q:Q3) (k:∀ y d G' n' A1,Q d n'->RL l a z0 D G0 A1 τ (dmS m d ρ) G' n'->Ext a G G'->Dq (rs (AD D A1) G') y d->q y G'):t τ G q:=by
 refine x.ok (h.ln hl hm) hw λy d G1 n1 hq E1 L1 D1 _=>?_;by_cases hs:qd2 d=true
 ·exact k y d G1 n1 A hq (by unfold dmS;rw [if_pos hs];exact h.up E1 L1) E1 (DN D1 hs)
 ·exact k y d G1 n1 _ hq (by unfold dmS;rw [if_neg hs];exact (h.dem hl).up E1 L1) E1 D1
def qrA (x:PwE l t) (i:Nat) (m:List Bool) (hm:Tru (x.fv.all (mkb m))) (hl:Tru (!mkb m l)):PwS l (zN (bm3 JK (v3 i) (qe t qw))):=⟨λρ n Q=>∃ ds,slot ρ i=some ds/\x.w ρ n λd n1=>slot (dmS m d ρ) i=some ds/\ds.length<16777216/\Q (.nx ((dmS m d ρ).set i (.ow (ds++[d])))) n1,λ⟨v,h0,h⟩ k=>⟨v,h0,x.mono h λd m ⟨y,h1,h2⟩=>⟨y,h1,k _ _ h2⟩⟩,λ{a z0 D G0 A τ ρ G n e Q} h ⟨ds,h0,hw⟩ k=>by
 have hl':mkb m l=false:=by simpa using hl.h
 obtain ⟨p,xs,b,c,g,f⟩:=h.r.ow i _ (JY h0);simp only [zN,bm3,v3,c,zw g];refine ⟨rfl,h.evalS x m hm hl' hw _ λy d G1 n1 A1 ⟨h1,h2,hq⟩ r E1 D1=>?_⟩;obtain ⟨p',xs',b',c',g',f'⟩:=r.r.ow i _ (JY h1);rw [c] at c';cases c';simp only [qw,JK,g'];exact ⟨by rw [f'.length,v9];exact h2,k _ _ hq _ _ _ (r.wr (JY h1) b' c (f'.append (.cons D1 .nil)))⟩⟩
def qeh (gf:PyData->Option (List (Nat×PyData))) (bw:Rho->Nat->QO->Prop):List PyData->Rho->Nat->QO->Prop
 |[],ρ,n,Q=>Q (.nx ρ) n
 |d::r,ρ,n,Q=>∃ bs,gf d=some bs/\bw (jR ρ bs) n λo n1=>match o with
  |.nx ρ'=>qeh gf bw r ρ' n1 Q
  |.ct ρ'=>qeh gf bw r ρ' n1 Q
  |.bk ρ'=>Q (.nx ρ') n1
  |.rt d b=>Q (.rt d b) n1
theorem XR {g:TG3} {tb:TS3} (pg:PuG g) (pb:PwS l tb):∀ {ds:List PyData} {ρ:Rho} {n:Nat} {Q Q':QO},qeh pg.f pb.w ds ρ n Q->(∀ o m,Q o m->Q' o m)->qeh pg.f pb.w ds ρ n Q'
 |[],_,_,_,_,h,k=>k _ _ h
 |d::r,_,_,_,_,⟨bs,e,h⟩,k=>⟨bs,e,pb.mono h λo m h=>by
   cases o with
   |nx ρ=>exact XR pg pb h k
   |ct ρ=>exact XR pg pb h k
   |bk ρ=>exact k _ _ h
   |rt d b=>exact k _ _ h⟩
theorem RT {stay:Gp->Prop} {g:TG3} {tb:TS3} {e:Ends3} (pg:PuG g) (pb:PwS l tb) {a:Addr} {z0:Option (Option T)×Nat} {D:Addr->Prop} {G0:Gp} {Q:QO} (hl:∀ i∈pg.tg,i≠l/\i≠0) (hs:∀ A τ ρ G n,RL l a z0 D G0 A τ ρ G n->stay G) (k:∀ o m,Q o m->qcQ l a z0 D G0 e o m) :
  ∀ (ds:List PyData) (items:List T),(∀ A τ ρ G n,RL l a z0 D G0 A τ ρ G n->Dqs (rs (AD D A) G) items ds)->∀ A τ ρ G n,RL l a z0 D G0 A τ ρ G n->qeh pg.f pb.w ds ρ n Q->S0 stay g tb e items τ G
 |[],items,hi,A,τ,ρ,G,n,h,hw=>by
  have:=hi _ _ _ _ _ h;cases this;exact ⟨hs _ _ _ _ _ h,k _ _ hw _ _ _ h⟩
 |d::ds,items,hi,A,τ,ρ,G,n,h,⟨bs,e1,hw⟩=>by
  have hh:=hi _ _ _ _ _ h;cases hh with
  |cons hx hr=>
   rename_i x items;obtain ⟨ts,bd,kg⟩:=pg.ok hx e1;refine ⟨hs _ _ _ _ _ h,kg _ _ _ ?_⟩;obtain ⟨A',h'⟩:=h.puts bd λp hp=>hl _ (pg.at' e1 p hp);have hi':∀ A τ ρ G n,RL l a z0 D G0 A τ ρ G n->Dqs (rs (AD D A) G) items ds:=λA τ ρ G n h=>by
    have:=hi _ _ _ _ _ h;cases this with
    |cons a b=>exact b
   refine pb.ok h' hw λo m hq=>?_;cases o with
   |nx ρ'=>exact λA2 τ2 G2 h2=>RT pg pb hl hs k ds items hi' _ _ _ _ _ h2 hq
   |ct ρ'=>exact λA2 τ2 G2 h2=>RT pg pb hl hs k ds items hi' _ _ _ _ _ h2 hq
   |bk ρ'=>exact k _ _ hq
   |rt d fr=>exact k _ _ hq
theorem RL.base {Gb:Gp} (h:RL l a z0 D Gb A τ ρ G n) (e:Ex G0 Gb) (hd:Dom D G0):RL l a z0 D G0 A τ ρ G n:=⟨h.r.base e hd,h.al,h.tl,h.ul,h.lf,h.tz⟩
theorem qcQ.base {Gb:Gp} {e:Ends3} {o:Ot} (h:qcQ l a z0 D G0 e o n) (x:Ex G0 Gb) (hd:Dom D G0):qcQ l a z0 D Gb e o n:=by
 cases o with
 |nx ρ=>exact λA τ G r=>h A τ G (r.base x hd)
 |bk ρ=>exact λA τ G r=>h A τ G (r.base x hd)
 |ct ρ=>exact λA τ G r=>h A τ G (r.base x hd)
 |rt d fr=>exact λy G p q r z=>h y G (x.trans p) q r λw=>(z w).back x
def qp2 {wi:TI3} {tb:TS3} (pi:PwI l wi) (pg:PuG g) (pb:PwS l tb) (m:List Bool) (hm:Tru (pi.fv.all (mkb m))) (hl:Tru (!mkb m l&&pg.tg.all (λi=>i != l&&i != 0))):PwS l (qcY wi g tb):=⟨λρ n Q=>pi.w ρ n λds n1=>qeh pg.f pb.w ds (if pi.nm then ρ else dm m ρ) n1 Q,λh k=>pi.mono h λd m h=>XR pg pb h k,λ{a z0 D G0 A τ ρ G n e Q} h hw k=>by
 have hl':mkb m l=false/\∀ i∈pg.tg,i≠l/\i≠0:=by simpa using hl.h
 refine pi.ok (h.ln hl'.1 hm) hw λitems stay ds G1 n1 hq E1 L1 D1 hs hnm=>?_;cases hb:pi.nm with
 |true=>
  rw [hb,if_pos rfl] at hq;obtain ⟨ns,rfl⟩:=hnm hb;have:=D1.ints;subst this;exact RT pg pb hl'.2 (λ_ _ _ _ _ _=>hs _ (.inl hb)) k _ _ (λA τ ρ G _ _=>Dqs.ofInts _) _ _ _ _ _ (h.up E1 L1) hq
 |false=>
  rw [hb,if_neg v8] at hq;have h1:=(h.dem hl'.1).up E1 L1;have b1:Ex G0 (rs (λb=>∃ i,Ad m A i b) G1):=λb o e=>by
   rw [jQ]
   ·exact h1.r.ex _ _ e
   ·rintro ⟨i,z⟩;rw [h1.r.fr i _ z] at e;cases e
  have h2:RL l a z0 D (rs (λb=>∃ i,Ad m A i b) G1) (Ad m A) τ (dm m ρ) G1 n1:=⟨⟨ZC,h.r.dm.up b1,λi p z=>by unfold rs;exact zk ⟨i,z⟩,h1.r.da,h1.r.inj,h1.r.len,h1.r.sl⟩,h1.al,h1.tl,h1.ul,h1.lf,h1.tz⟩
  have X:∀ A2 τ2 ρ2 G2,RS D (rs (λb=>∃ i,Ad m A i b) G1) A2 τ2 ρ2 G2->Ex (rs (AD D (Ad m A)) G1) (rs (AD D A2) G2):=λA2 τ2 ρ2 G2 r b o e=>by
   obtain ⟨n1,e⟩:=qI e;have eb:rs (λb=>∃ i,Ad m A i b) G1 b=some o:=by rw [jQ (λz=>n1 (.inr z))];exact e
   rw [jQ]
   ·exact r.ex _ _ eb
   ·rintro (z|⟨i,z⟩)
    ·exact n1 (.inl z)
    ·rw [r.fr i _ z] at eb;cases eb
  exact RT pg pb hl'.2 (λA2 τ2 ρ2 G2 n2 r=>hs _ (.inr ((X _ _ _ _ r.r).trans ZC))) (λo m hq=>(k o m hq).base b1 h.r.dm) _ _ (λA2 τ2 ρ2 G2 n2 r=>D1.up (X _ _ _ _ r.r)) _ _ _ _ _ h2 hq⟩
def DSp (W:List PyData->Nat->QD->Prop) (fr:Bool):Sp3:=λts G q=>∃ (D:Addr->Prop) (a:Addr) (n:Nat) (ts':List T) (ds:List PyData) (Q:QD),ts=.ref a::ts'/\Lf G a n/\D a/\Dom D G/\Dqs (rs D G) ts' ds/\W ds n Q/\∀ x d G' n',Q d n'->Ext a G G'->Lf G' a n'->Dq (rs D G') x d->(fr=true->Nw D G G' x d)->q x G'
structure Wm where
 W:List PyData->Nat->QD->Prop
 mono:∀ {ds n} {Q Q':QD},W ds n Q->(∀ d m,Q d m->Q' d m)->W ds n Q'
def dSp (w:Wm) (fr:Bool):DrD (DSp w.W fr):=⟨w.W,fr,w.mono,λ{D G a n ts ds q Q} lf da hd hs hw k=>⟨D,a,n,ts,ds,Q,rfl,lf,da,hd,hs,hw,k⟩⟩
def qj2 (fr:Bool) (Q:QD):QO:=λo n=>match o with
 |.rt d b=>(fr=true->b=true)/\∃ m,n<=m/\Q d m
 |.nx _=>fr=false/\∃ m,n<=m/\Q .none m
 |_=>False
def qkg {t:TS3} (b:PwS 0 t) (k N:Nat) (fr:Bool):Wm:=⟨λds n Q=>ds.length+1=k/\b.w (.un::(ds.map Sl.sh++zn4 (N-(ds.length+1)) .un)) n (qj2 fr Q),λ⟨h1,h2⟩ k=>⟨h1,b.mono h2 λo m h=>by
 cases o with
 |rt d f=>obtain ⟨h1,m,h2,h3⟩:=h;exact ⟨h1,m,h2,k _ _ h3⟩
 |nx ρ=>obtain ⟨h1,m,h2,h3⟩:=h;exact ⟨h1,m,h2,k _ _ h3⟩
 |bk ρ=>exact h
 |ct ρ=>exact h⟩⟩
theorem R5 {t:TS3} (b:PwS 0 t) (N:List Str) (k:Nat) (fr:Bool):∀ ts G q,DSp (qkg b k N.length fr).W fr ts G q->ts.length=k/\t { nx:=λ_ G'=>q .non G',rt:=q } (qo N ts) G:=by
 rintro ts G q ⟨D,a,n,ts',ds,Q,rfl,lf,da,hd,hs,⟨hk,hw⟩,h⟩;refine ⟨by simp [hs.length];omega,?_⟩;have DD:∀ b,(D b/\b≠a)\/b=a↔D b:=λb=>by
  by_cases e:b=a
  ·subst e;simp [da]
  ·simp [e]
 have rr:∀ H,rs (λb=>(D b/\b≠a)\/b=a) H=rs D H:=λH=>by
  have:(λb=>(D b/\b≠a)\/b=a)=D:=funext λb=>propext (DD b);rw [this]
 have ad:AD (λb=>D b/\b≠a) (λi p=>i=0/\p=a)=D:=funext λb=>propext ⟨(λz=>by
   rcases z with z|⟨i,_,z⟩
   ·exact z.1
   ·rw [z];exact da),(λz=>by
   by_cases e:b=a
   ·exact .inr ⟨0,rfl,e⟩
   ·exact .inl ⟨z,e⟩)⟩
 have ga:G a≠none:=EU lf;have r:RL 0 a (some (some (.ref a)),(qo N (.ref a::ts')).length) (λb=>D b/\b≠a) (rs (λb=>b=a) G) (λi p=>i=0/\p=a) (qo N (.ref a::ts')) (.un::(ds.map Sl.sh++zn4 (N.length-(ds.length+1)) .un)) G n:=by
  refine ⟨⟨ZC,λb hb=>by rw [jQ (D:=λb=>b=a) hb.2];exact hd b hb.1,λi p e=>by rw [e.2];unfold rs;exact zk rfl,λi p e=>by rw [e.2];exact ga,λi j p e e'=>e.1.trans e'.1.symm,by simp [qo,hs.length],λi s e=>?_⟩,⟨rfl,rfl⟩,by simp [qo],rfl,lf,⟨by simp [qo],rfl⟩⟩;rw [ad];cases i with
  |zero=>cases e;trivial
  |succ i=>
   rw [x6] at e;by_cases hi:i<ds.length
   ·rw [zg7 (by simpa using hi),ze5] at e;obtain ⟨d2,e3,rfl⟩:=zb5 e;obtain ⟨x,e5,hx⟩:=hs.get e3;refine ⟨x,?_,hx⟩;unfold qo;rw [zg7 (by simp [hs.length];exact hi),ze5,x6,e5];rfl
   ·rw [zj2 (by simpa using hi),zn7] at e;split at e<;>cases e
    trivial
 have xe:∀ {G'},Ex (rs (λb=>b=a) G) G'->Ext a G G':=λe b o n x=>e b o (by rw [jQ (D:=λb=>b=a) n];exact x);refine b.ok r hw λo m hq=>?_;cases o with
 |rt d f=>
  intro x G' E L Dx0 N;have Dx:=Dx0;rw [rr] at Dx;obtain ⟨hq1,m2,hm,hq2⟩:=hq;refine h x d G' m2 hq2 (xe E) (L.mono (by omega)) Dx λz=>?_;rcases N (hq1 z) with h2|⟨p,xs,ds',h1,h2,c,g,f'⟩
  ·exact .inl h2
  have np:p≠a:=by
   rintro rfl;rw [h1] at Dx0;cases Dx0 with
   |lst g0 _=>exact (qI g0).1 (.inr rfl)
  refine .inr ⟨p,xs,ds',h1,h2,by rw [jQ (D:=λb=>b=a) np] at c;exact c,g,f'.up (jB λb z=>?_)⟩;rcases z with z|z
  ·exact .inl ((DD b).mpr z)
  ·exact .inr z
 |nx ρ=>
  obtain ⟨hq1,m2,hm,hq2⟩:=hq;exact λA τ G' r'=>h .non .none G' m2 hq2 (xe r'.r.ex) (r'.lf.mono (by omega)) .non λz=>by rw [hq1] at z;cases z
 |bk ρ=>exact hq.elim
 |ct ρ=>exact hq.elim
end Pu
namespace Pu
open PySem L2 L3
open Bk (Lf Ext Dl Wk Dr)
def okW:QO:=λo _=>match o with|.nx _=>True|.ct _=>True|_=>False
def qrb (K:Int):TE3:=o3 zU (c3 (.int 1)) (cb3 YZ (qe (c3 (.int K)) (qe (cb3 jV (qe (v3 0) qw)) qw)))
variable {G:Gp}
theorem qlh {i:Nat} {τ:St3} {t:T} {q:Q3} (h:τ[i]?=some (some t)):v3 i τ G q=q t G:=by unfold v3;rw [h]
def qrz (K:Int) (R:TS3):TS3:=qS (qcY (QW (qe (qrb K) qw)) (gn3 1) (qS (zl (cb3 Bk.VC (qe (v3 0) (qe (v3 1) qw))) (gn3 2)) R)) (zg (c3 (.bl true)))
theorem qeD {R:TS3} (b:PwS 2 R) (N:List Str) (K:Int) (M:Nat) (hK:0<=K/\K<=60) (hN:N.length=M+3) (h:∀ k:Nat,k<=60->b.w ([.un,.sh (.int k),.un]++zn4 M .un) 0 okW):∀ ts G q,TY ts G q->ts.length=1/\qrz K R { nx:=λ_ G'=>q .non G',rt:=q } (qo N ts) G:=by
 rintro ts G q ⟨a,ns,rfl,hG,hl,hq⟩;refine ⟨rfl,?_⟩;have s0:(qo N [T.ref a])[0]?=some (some (.ref a)):=by simp [qo]
 have gl:getL G a=some (ns.map T.int):=by unfold getL;rw [hG]
 simp only [qrz,qS,qcY,QW,qrb,qe,qw,o3,c3,cb3,v3,s0,jV,gl,YZ,zU,zd9];have cnt:((1+(if ((ns.length:Nat):Int)<K then ((ns.length:Nat):Int) else K)).toNat)<=61:=by split<;>omega
 refine ⟨⟨by split<;>omega,by split<;>omega⟩,?_⟩;refine XU _ (λ_ τ G'=>G' a=some (.frz (ns.map T.int))/\τ[0]?=some (some (.ref a))/\τ.length=M+3) ⟨hG,s0,by simp [qo,hN]⟩ (λ_ _ _ _ _=>True.intro) ?_ ?_
 ·rintro i z τ G' nx hz ⟨gA,t0,tl⟩ hn;obtain ⟨hi,rfl⟩:=MJ hz;have hi2:i<=60:=by omega
  have t1:(τ.set 1 (some (T.int (0+(i:Int)))))[0]?=some (some (.ref a)):=by rw [zg3,if_neg (by omega)];exact t0
  have t2:(τ.set 1 (some (T.int (0+(i:Int)))))[1]?=some (some (T.int (0+(i:Int)))):=by rw [zg3,if_pos rfl,if_pos (by omega)]
  show v3 0 (τ.set 1 (some (T.int (0+(i:Int))))) G' (λx G1=>v3 1 (τ.set 1 (some (T.int (0+(i:Int))))) G1 λy G2=>Bk.VC [x,y] G2 λz G3=>R _ ((τ.set 1 (some (T.int (0+(i:Int))))).set 2 (some z)) G3);rw [qlh t1,qlh t2];refine ⟨a,_,ns,rfl,gA,hl,by omega,by omega,λp o c hp ho=>?_⟩;have pa:a≠p:=by rintro rfl;rw [gA] at hp;cases hp
  have r:RL 2 p (some (some (.ref a)),M+3) (λ_=>False) G' (λj q=>j=2/\q=p) ((τ.set 1 (some (T.int (0+(i:Int))))).set 2 (some (.ref p))) ([.un,.sh (.int i),.un]++zn4 M .un) (gu G' p (.lst [.int o,.int c,.int 0])) 0:=by
   refine ⟨⟨ja hp,λb z=>z.elim,λj q e=>by rw [e.2];exact hp,λj q e=>by rw [e.2,qN];simp,λj k q e e'=>e.1.trans e'.1.symm,by simp [tl],λj s e=>?_⟩,⟨rfl,rfl⟩,by rw [zg3,if_pos rfl,if_pos (by simp;omega)],rfl,⟨o,c,0,qN,ho,by omega,by omega⟩,⟨by rw [zg3,if_neg (by omega)];exact t1,by simp [tl]⟩⟩
   match j,e with
   |0,e=>cases e;trivial
   |1,e=>
    cases e;refine ⟨.int (0+(i:Int)),by rw [zg3,if_neg (by omega)];exact t2,?_⟩;rw [zn2];exact .int _
   |2,e=>cases e;trivial
   |j+3,e=>
    simp only [zm6,zm9,x6,zn7] at e;split at e<;>cases e
    trivial
  refine b.ok r (h i hi2) λo' m ho'=>?_;cases o' with
  |nx ρ'=>exact λA τ' G2 r2=>hn _ _ ⟨r2.r.ex _ _ gA,r2.tz.1,r2.tz.2⟩
  |ct ρ'=>exact λA τ' G2 r2=>hn _ _ ⟨r2.r.ex _ _ gA,r2.tz.1,r2.tz.2⟩
  |bk ρ'=>exact ho'.elim
  |rt d f=>exact ho'.elim
 ·rintro τ G' ⟨gA,t0,tl⟩;exact hq G'
theorem qii {ts:List T} (h:Dqs G ts []):ts=[]:=by cases h;rfl
theorem qqI {ts:List T} {i:Int} (h:Dqs G ts [.int i]):ts=[.int i]:=by
 cases h with
 |cons a b=>cases b;cases a;rfl
variable {n:Nat}
theorem lfc {a:Addr} {c:Nat} (h:Lf G a ((n:Int)+(c:Int))):Lf G a ((n+c:Nat):Int):=by rw [Int.natCast_add];exact h
def ZM:DrD Bk.jD:=⟨λds n Q=>∃ m:Int,ds=[.int m]/\(1<=m/\m<1073741824)/\n<1000000000/\∀ d:Int,0<=d->d<m->Q (.int d) (n+1),false,
 λ⟨m,h1,h2,h3,h4⟩ k=>⟨m,h1,h2,h3,λd x y=>k _ _ (h4 d x y)⟩,λ{D G a n ts ds q Q} lf da hd hs ⟨m,h1,h2,h3,h4⟩ k=>by
 subst h1;have:=qqI hs;subst this;exact ⟨a,n,m,rfl,h2.1,h2.2,lf,by omega,λd G' x y L E=>k _ _ G' (n+1) (h4 d x y) E (lfc (c:=1) L) (.int d) (λz=>by cases z)⟩⟩
def qc5:DrD Bk.DX:=⟨λds n Q=>ds=[]/\n<1000000/\∀ d:Dl,Dr d 4 4 5->d.dep=0->Q (Pv.dlD d) (n+300),false,
 λ⟨h1,h3,h4⟩ k=>⟨h1,h3,λd x y=>k _ _ (h4 d x y)⟩,λ{D G a n ts ds q Q} lf da hd hs ⟨h1,h3,h4⟩ k=>by
 subst h1;have:=qii hs;subst this;exact ⟨a,n,rfl,lf,by omega,λd G' a1 a2 L E=>k _ _ G' (n+300) (h4 d a1 a2) E (lfc (c:=300) L) (Pv.qjk _ _) (λz=>by cases z)⟩⟩
def qdz (n:Nat):FnD (Bk.ZO (n+1)):=⟨λds=>match ds with|[d,e]=>cif (d=e/\Bk.WB n d) (some (.bool true)) none|_=>none,false,λ{D G xs ds v q} hx hd hf k=>by
 split at hf
 ·unfold cif at hf;split at hf
  ·rename_i c;cases hf;obtain ⟨rfl,c⟩:=c;cases hx with
   |cons x b=>cases b with
    |cons y b=>
     cases b;exact ⟨_,_,_,rfl,(x.up ZC).dp,(y.up ZC).dp,c,λG' E=>k _ _ E (.bl true) (λz=>by cases z)⟩
  ·cases hf
 ·cases hf⟩
theorem LH {d:PyData} (h:Bk.WB n d):(qdz n).f [d,d]=some (.bool true):=zk ⟨rfl,h⟩
theorem qmG {l:Nat} {t:TE3} {b:PuE t}:(eOf (l:=l) b).w=λρ n Q=>∃ d,b.f ρ=some d/\Q d n:=rfl
theorem qnJ {l:Nat} {t:TT3} {b:PuC t}:(cOf (l:=l) b).w=λρ n Q=>∃ d,b.f ρ=some d/\Q d n:=rfl
theorem qki {l:Nat} {t:TA3} {b:PuA t}:(aOf (l:=l) b).w=λρ n Q=>∃ d,b.f ρ=some d/\Q d n:=rfl
theorem qkj {l:Nat} {t:TI3} {b:PuI t}:(iOf (l:=l) b).w=λρ n Q=>∃ d,b.f ρ=some d/\Q d n:=rfl
theorem qrw {l:Nat} {r:R3} {ta tb:TE3} {R:OpD r} {a:PwE l ta} {b:PwE l tb}:(eO R a b).w=λρ n Q=>a.w ρ n λx n1=>b.w ρ n1 λy n2=>∃ v,R.f x y=some v/\Q v n2:=rfl
theorem qbh {l:Nat} {ta:TE3} {tr:TA3} {a:PwE l ta} {r:PwA l tr}:(zT a r).w=λρ n Q=>a.w ρ n λx n1=>r.w ρ n1 λxs n2=>Q (x::xs) n2:=rfl
theorem qfZ {l:Nat} {t:TA3} {b:PwA l t} {hn:Tru (xg1 b.k 1000)}:(qdY b hn).w=λρ n Q=>b.w ρ n λxs n1=>Q (.tuple xs) n1:=rfl
theorem qgE {l:Nat} {t:TA3} {b:PwA l t} {hn:Tru (xg1 b.k 1000)}:(qpn b hn).w=λρ n Q=>b.w ρ n λxs n1=>Q (.list xs) n1:=rfl
theorem qc1 {l:Nat} {r:List T->Gp->Q3->Prop} {t:TA3} {R:FnD r} {b:PwA l t}:(qiY R b).w=λρ n Q=>b.w ρ n λxs n1=>∃ v,R.f xs=some v/\Q v n1:=rfl
theorem ql0 {l:Nat} {r:List T->Gp->Q3->Prop} {t:TA3} {R:DrD r} {b:PwA l t}:(eDr R b).w=λρ n Q=>b.w ρ n λxs n1=>R.W xs n1 Q:=rfl
theorem qoF {l:Nat} {t:TE3} {b:PwE l t}:(cTb b).w=λρ n Q=>b.w ρ n λd n1=>∃ k,asB d=some k/\Q k n1:=rfl
theorem qfN {l:Nat} {t:TI3} {b:PuI t}:(iOf (l:=l) b).nm=b.nm:=rfl
theorem qfj {l:Nat} {t:TE3} {b:PuE t}:(eOf (l:=l) b).nw=b.nw:=rfl
theorem qlP {l:Nat} {r:R3} {ta tb:TE3} {R:OpD r} {a:PwE l ta} {b:PwE l tb}:(eO R a b).nw=R.nw:=rfl
theorem qbL {l:Nat} {t:TA3} {b:PwA l t} {hn:Tru (xg1 b.k 1000)}:(qdY b hn).nw=false:=rfl
theorem qbS {l:Nat} {t:TA3} {b:PwA l t} {hn:Tru (xg1 b.k 1000)}:(qpn b hn).nw=true:=rfl
theorem qgY {l:Nat} {r:List T->Gp->Q3->Prop} {t:TA3} {R:DrD r} {b:PwA l t}:(eDr R b).nw=R.nw:=rfl
theorem qox {l:Nat} {wi:TI3} {g:TG3} {tif:TT3} {te:TE3} {l2:Nat} {pi:PwI l wi} {pg:PuG g} {pc:PwC l2 tif} {pe:PwE l2 te} {m:List (Option Nat)} {hm:Tru (pg.tg.all λi=>m[i]?==some none)} {hl:Tru (m[l2]?==some (some l))}:(eLc l2 pi pg pc pe m hm hl).w=λρ n Q=>pi.w ρ n λds n1=>ds.length<=16777216/\lcW pg.f pc.w pe.w (RA m ρ) ds n1 λfs n2=>fs.length<=16777216/\Q (.list fs) n2:=rfl
theorem qgu {l:Nat} {wi:TI3} {g:TG3} {tif:TT3} {te:TE3} {l2:Nat} {pi:PwI l wi} {pg:PuG g} {pc:PwC l2 tif} {pe:PwE l2 te} {m:List (Option Nat)} {hm:Tru (pg.tg.all λi=>m[i]?==some none)} {hl:Tru (m[l2]?==some (some l))}:(eLc l2 pi pg pc pe m hm hl).nw=true:=rfl
theorem qdj {l:Nat}:(S5 (l:=l)).w=λρ n Q=>Q (.nx ρ) n:=rfl
theorem qbZ {l:Nat} {t u:TS3} {x:PwS l t} {y:PwS l u}:(V2 x y).w=λρ n Q=>x.w ρ n (sqw y.w Q):=rfl
theorem qgy {b:Rho->Nat->QO->Prop} {Q:QO} {ρ:Rho} {n:Nat}:sqw b Q (.nx ρ) n=b ρ n Q:=rfl
theorem qgB {b:Rho->Nat->QO->Prop} {Q:QO} {d:PyData} {f:Bool} {n:Nat}:sqw b Q (.rt d f) n=Q (.rt d f) n:=rfl
theorem qpi {l:Nat} {c:TT3} {t u:TS3} {pc:PwC l c} {x:PwS l t} {y:PwS l u}:(wIf pc x y).w=λρ n Q=>pc.w ρ n λk n1=>if k then x.w ρ n1 Q else y.w ρ n1 Q:=rfl
theorem qeZ {l:Nat} {t:TE3} {x:PwE l t}:(qcM x).w=λρ n Q=>x.w ρ n λd n1=>Q (.rt d x.nw) n1:=rfl
theorem qgI {l:Nat} {t:TE3} {x:PwE l t} {i:Nat} {m:List Bool} {hm:Tru (x.fv.all (mkb m))} {hl:Tru (!mkb m l&&(i != l&&i != 0))}:(S8 x i m hm hl).w=λρ n Q=>x.w ρ n λd n1=>Q (.nx (qaQ m x.nw i d ρ)) n1:=rfl
theorem qdk {l:Nat} {t:TE3} {g:TG3} {x:PwE l t} {pg:PuG g} {m:List Bool} {hm:Tru (x.fv.all (mkb m))} {hl:Tru (!mkb m l&&pg.tg.all (λi=>i != l&&i != 0))}:(qej x pg m hm hl).w=λρ n Q=>x.w ρ n λd n1=>∃ bs,pg.f d=some bs/\Q (.nx (jR (dm m ρ) bs)) n1:=rfl
theorem qgK {l:Nat} {t:TA3} {x:PwA l t} {i j:Nat} {m:List Bool} {hm:Tru (x.fv.all (mkb m))} {hl:Tru (!mkb m l&&((i != l&&i != 0)&&(j != l&&j != 0)))}:(qq7 x i j m hm hl).w=λρ n Q=>x.w ρ n λds n1=>∃ o,qfS i j m ds ρ=some o/\Q o n1:=rfl
theorem qgA {l:Nat} {t:TE3} {x:PwE l t} {i:Nat} {m:List Bool} {hm:Tru (x.fv.all (mkb m))} {hl:Tru (!mkb m l)}:(qrA x i m hm hl).w=λρ n Q=>∃ ds,slot ρ i=some ds/\x.w ρ n λd n1=>slot (dmS m d ρ) i=some ds/\ds.length<16777216/\Q (.nx ((dmS m d ρ).set i (.ow (ds++[d])))) n1:=rfl
theorem qfa {l:Nat} {wi:TI3} {g:TG3} {tb:TS3} {pi:PwI l wi} {pg:PuG g} {pb:PwS l tb} {m:List Bool} {hm:Tru (pi.fv.all (mkb m))} {hl:Tru (!mkb m l&&pg.tg.all (λi=>i != l&&i != 0))}:(qp2 pi pg pb m hm hl).w=λρ n Q=>pi.w ρ n λds n1=>qeh pg.f pb.w ds (if pi.nm then ρ else dm m ρ) n1 Q:=rfl
theorem qci {ds:List PyData} {n:Nat} {Q:QD}:ZM.W ds n Q=(∃ m:Int,ds=[.int m]/\(1<=m/\m<1073741824)/\n<1000000000/\∀ d:Int,0<=d->d<m->Q (.int d) (n+1)):=rfl
theorem MU {ds:List PyData} {n:Nat} {Q:QD}:qc5.W ds n Q=(ds=[]/\n<1000000/\∀ d:Dl,Dr d 4 4 5->d.dep=0->Q (Pv.dlD d) (n+300)):=rfl
theorem M7:ZM.nw=false:=rfl
theorem qlE {w:Wm} {fr:Bool}:(dSp w fr).W=w.W:=rfl
theorem qbv {Q:QD} {d:PyData} {b:Bool} {n:Nat}:qj2 false Q (.rt d b) n=∃ m,n<=m/\Q d m:=propext ⟨λh=>h.2,λh=>⟨λz=>(v8 z).elim,h⟩⟩
theorem qgc {Q:QD} {d:PyData} {n:Nat}:qj2 true Q (.rt d true) n=∃ m,n<=m/\Q d m:=propext ⟨λh=>h.2,λh=>⟨λ_=>rfl,h⟩⟩
theorem qgq {ρ:Rho} {n:Nat}:okW (.nx ρ) n=True:=rfl
theorem qna {α:Type} {v:α} {P:α->Prop}:(∃ d,some v=some d/\P d)=P v:=propext ⟨λ⟨d,h1,h2⟩=>by cases h1;exact h2,λh=>⟨v,rfl,h⟩⟩
theorem qgR {v:Int} {P:Int->Prop}:(∃ m:Int,[PyData.int v]=[.int m]/\P m)=P v:=propext ⟨λ⟨d,h1,h2⟩=>by cases h1;exact h2,λh=>⟨v,rfl,h⟩⟩
theorem qgk {m:List Bool} {nw:Bool} {i:Nat} {w:Wk} {ρ:Rho}:qaQ m nw i (Pv.Wk.d w) ρ=(dm m ρ).set i (.sh (Pv.Wk.d w)):=by cases w<;>exact qj1
variable {l:Nat}
theorem QA {t u:TS3} {x:PwS l t} {y:PwS l u} {ρ:Rho} {Q:QO} (h:∀ Y:Rho->Nat->QO->Prop,Y=y.w->x.w ρ n (sqw Y Q)):(V2 x y).w ρ n Q:=h _ rfl
structure Mn (bw:Rho->Nat->QO->Prop):Prop where
 h:∀ ρ n (Q Q':QO),bw ρ n Q->(∀ o m,Q o m->Q' o m)->bw ρ n Q'
theorem PwS.mn {t:TS3} (b:PwS l t):Mn b.w:=⟨λ_ _ _ _ h k=>b.mono h k⟩
structure MnE (bw:Rho->Nat->QD->Prop):Prop where
 h:∀ ρ n (Q Q':QD),bw ρ n Q->(∀ o m,Q o m->Q' o m)->bw ρ n Q'
theorem PwE.mn {t:TE3} (b:PwE l t):MnE b.w:=⟨λ_ _ _ _ h k=>b.mono h k⟩
structure MnC (bw:Rho->Nat->(Bool->Nat->Prop)->Prop):Prop where
 h:∀ ρ n (Q Q':Bool->Nat->Prop),bw ρ n Q->(∀ o m,Q o m->Q' o m)->bw ρ n Q'
theorem mnT:MnC (λρ n Q=>Q true n):=⟨λ_ _ _ _ h k=>k _ _ h⟩
section
variable {g:TG3} {tb:TS3}
theorem M8 {gf:PyData->Option (List (Nat×PyData))} {bw:Rho->Nat->QO->Prop} {α:Type} {f:α->PyData} (xs:List α) (mono:Mn bw) (I:Nat->Rho->Nat->Prop) {ρ:Rho} {n:Nat} {Q:QO} (h0:I 0 ρ n)
  (hs:∀ i x ρ n,xs[i]?=some x->I i ρ n->∃ bs,gf (f x)=some bs/\bw (jR ρ bs) n λo m=>match o with|.nx ρ'=>I (i+1) ρ' m|.ct ρ'=>I (i+1) ρ' m|.bk ρ'=>Q (.nx ρ') m|.rt d b=>Q (.rt d b) m)
  (k:∀ ρ n,I xs.length ρ n->Q (.nx ρ) n):qeh gf bw (xs.map f) ρ n Q:=by
 have key:∀ (r:List α) (i:Nat) (ρ:Rho) (n:Nat),xs.drop i=r->i<=xs.length->I i ρ n->qeh gf bw (r.map f) ρ n Q:=by
  intro r;induction r with
  |nil=>
   intro i ρ n e hi h;have:i=xs.length:=by
    have:=congrArg List.length e;simp at this;omega
   subst this;exact k ρ n h
  |cons x r ih=>
   intro i ρ n e hi h;have hl:i<xs.length:=by
    have:=congrArg List.length e;simp at this;omega
   have e':=zf6 hl;rw [e] at e';injection e' with e1 e2;obtain ⟨bs,h1,h2⟩:=hs i x ρ n (by rw [u7 hl,e1]) h;refine ⟨bs,h1,mono.h _ _ _ _ h2 λo m h=>?_⟩;cases o with
   |nx ρ'=>exact ih (i+1) ρ' m e2.symm hl h
   |ct ρ'=>exact ih (i+1) ρ' m e2.symm hl h
   |bk ρ'=>exact h
   |rt d b=>exact h
 exact key xs 0 ρ n (by simp) (zj1 _) h0
theorem SY {gf:PyData->Option (List (Nat×PyData))} {cw:Rho->Nat->(Bool->Nat->Prop)->Prop} {ew:Rho->Nat->QD->Prop} {α β:Type} {f:α->PyData} {gd:β->PyData} {ρ:Rho} (R:β->Prop) (c:Nat) (N:Nat):∀ (xs:List α) (n:Nat) (Q:List PyData->Nat->Prop),
  (∀ x∈xs,∀ n Q,n+c<=N->(∀ b,R b->Q (gd b) (n+c))->∃ bs,gf (f x)=some bs/\cw (jR ρ bs) n λk n1=>if k then ew (jR ρ bs) n1 Q else False) ->
  MnE ew->MnC cw->n+c*xs.length<=N->(∀ bs:List β,bs.length=xs.length->(∀ b∈bs,R b)->Q (bs.map gd) (n+c*xs.length))->lcW gf cw ew ρ (xs.map f) n Q
 |[],n,Q,_,_,_,_,h=>h [] rfl (by simp)
 |x::xs,n,Q,hx,me,mc,hn,h=>by
  have hc:c*(xs.length+1)=c*xs.length+c:=by rw [Nat.mul_succ]
  simp only [ze8] at hn h;obtain ⟨bs,h1,h2⟩:=hx x (by simp) n (λy n2=>lcW gf cw ew ρ (xs.map f) n2 λys n3=>Q (y::ys) n3) (by omega) λb hb=>by
   refine SY R c N xs (n+c) _ (λz hz=>hx z (by simp [hz])) me mc (by omega) λcs hl hr=>?_;have:=h (b::cs) (by simp [hl]) (by intro z hz;rcases ze9.mp hz with rfl|hz;exact hb;exact hr z hz);rw [show n+c*(xs.length+1)=n+c+c*xs.length by omega] at this;exact this
  refine ⟨bs,h1,mc.h _ _ _ _ h2 λk m hk=>?_⟩;cases k with
  |true=>exact hk
  |false=>exact hk.elim
end
theorem qc9 {α β:Type} {x:α} {f:α->Option β}:(some x).bind f=f x:=rfl
theorem qfy {α β:Type} {x:α} {f:α->β}:(some x).map f=some (f x):=rfl
theorem qmf {α:Type} {x:α} {r:List α}:(x::r).length=r.length+1:=rfl
theorem qk9 {α:Type}:([]:List α).length=0:=rfl
theorem qlo {α:Type} {x y:α} {r:List α}:(x::r).set 0 y=y::r:=rfl
theorem qmF {α:Type} {x y:α} {r:List α} {i:Nat}:(x::r).set (i+1) y=x::r.set i y:=rfl
theorem qml {α:Type} {r:List α}:r++[]=r:=zh0 r
theorem qo3 {α:Type} {x:α} {r s:List α}:(x::r)++s=x::(r++s):=rfl
theorem qnQ {α:Type} {s:List α}:[]++s=s:=rfl
theorem qn0 {n:Nat}:0+n=n:=zf2 n
theorem qny {p:Prop}:(True/\p)=p:=true_and p
theorem qph {α:Type} {a b:α} {i:Decidable True}:@ite α True i a b=a:=if_pos trivial
theorem qov {α:Type} {a b:α} {i:Decidable False}:@ite α False i a b=b:=if_neg not_false
theorem qld:(false=true)=False:=ze2
theorem qlV:(!true)=false:=rfl
theorem qoo:(!false)=true:=rfl
theorem qnN {i:Decidable True}:@decide True i=true:=decide_true i
theorem qlr {i:Decidable False}:@decide False i=false:=decide_false i
theorem qoS {b:Bool}:(b&&true)=b:=Bool.and_true b
theorem qo0 {b:Bool}:(true&&b)=b:=xf5 b
theorem qms {b:Bool}:(false&&b)=false:=xb6 b
theorem qmC {b:Bool}:(b&&false)=false:=xb9 b
theorem ai{a b:Prop}(x:a)(y:b):a/\b:=⟨x,y⟩
def pwA:=(ai @Pu.qbv (ai @Pu.qgc (ai @Pu.qgR (ai @Pu.qgk (ai @Pu.at0 (ai @Pu.at1 (ai @Pu.at2 (ai @Pu.at3 (ai @Pu.qfn (ai @Pu.NL (ai @Pu.qn6 (ai @Pu.qoa (ai @Pu.qoc (ai @Pu.qj1 (ai @Pu.qna (ai @Pu.qml (ai @Pu.qn0 (ai @Pu.qny (ai @Pu.qph (ai @Pu.qov (ai @Pu.qld (ai @Pu.qnN (ai @Pu.qlr (ai @Pu.qoS (ai @Pu.qo0 (ai @Pu.qms @Pu.qmC))))))))))))))))))))))))))
end Pu
local macro_rules|`(tactic|simp! $c:optConfig $[$d:discharger]? [$xs,*])=>`(tactic|try simp $c:optConfig $[$d]? only [$xs,*,Pu.qmG,Pu.qnJ,Pu.qki,Pu.qkj,Pu.qrw,Pu.qbh,Pu.qfZ,Pu.qgE,Pu.qc1,Pu.ql0,Pu.qoF,Pu.qfN,Pu.qfj,Pu.qlP,Pu.qbL,Pu.qbS,Pu.qgY,Pu.qox,Pu.qgu,Pu.qdj,Pu.qbZ,Pu.qgy,Pu.qgB,Pu.qpi,Pu.qeZ,Pu.qgI,Pu.qdk,Pu.qgK,Pu.qgA,Pu.qfa,Pu.qci,Pu.MU,Pu.M7,Pu.qlE,Pu.qgq,Pu.qma,Pu.qrj,Pu.qfz,Pu.qnS,Pu.qhd,Pu.qgH,Pu.qrC,Pu.qha,Pu.qbw,Pu.qhq,Pu.qhM,Pu.qbn,Pu.qkf,Pu.qgx,Pu.qnO,Pu.qfx,Pu.qlG,Pu.qct,Pu.qc7,Pu.qgT,Pu.qlK,Pu.qhA,Pu.qko,Pu.qnA,Pu.qkV,Pu.qbx,Pu.qc4,Pu.qhJ,Pu.qcy,Pu.qkS,Pu.qhe,Pu.qf7,Pu.qfV,Pu.qgs,Pu.qgW,Pu.qcs,Pu.qbX,Pu.qa3,Pu.qm6,Pu.qoT,Pu.qnV,Pu.qgl,Pu.qbO,Pu.qeY,Pu.qde,Pu.qge,Pu.qa7,Pu.NV,Pu.qf8,Pu.qhQ,Pu.qbe,Pu.qcj,Pu.qcT,Pu.qri,Pu.qfb,Pu.qdb,Pu.qg2,Pu.qbq,Pu.qfB,Pu.qnn,Pu.qgQ,Pu.qa5,Pu.qfs,Pu.qcJ,Pu.qgr,Pu.qfT,Pu.qfl,Pu.qhL,Pu.qmq,Pu.qda,Pu.qhf,Pu.qcH,Pu.qmj,Pu.qcZ,Pu.qbd,Pu.MZ,Pu.MY,Pu.M6,Pu.qg9,Pu.qb4,Pu.qbl,Pu.qaX,Pu.qbc,Pu.qcn,Pu.qhm,Pu.qgz,Pu.qrF,Pu.qrl,Pu.qkY,Pu.qlD,Pu.qlW,Pu.qa4,Pu.qfm,Pu.qbj,Pu.qcE,Pu.qfG,Pu.qn3,Pu.qkv,Pu.eqS,Pu.eqI,Pu.eqB,Pu.qoU,Pu.ql5,Pu.qrh,Pu.qhv,Pu.qhl,Pu.qg8,Pu.qcu,Pu.qn5,Pu.qlm,Pu.qnP,Pu.qgS,Pu.qfP,Pu.qhB,Pu.qgJ,Pu.qfr,Pu.qgh,Pu.qk0,Pu.qmU,Pu.qlZ,Pu.qf1,Pu.qmJ,Pu.qmE,Pu.qrG,Pu.qrn,Pu.qq9,Pu.qoQ,Pu.qlt,Pu.qmh,Pu.qnu,Pu.qll,Pu.qq8,Pu.qng,Pu.qfu,Pu.qg7,Pu.qgi,Pu.qhy,Pu.qc9,Pu.qfy,Pu.qmf,Pu.qk9,Pu.qlo,Pu.qmF,Pu.qo3,Pu.qnQ,Pu.qlV,Pu.qoo])
namespace Pu
open PySem L2 L3
open Bk (Lf Ext Dl Wk Dr)
end Pu
namespace Bk
open PySem L2 L3
end Bk
namespace Pu
open PySem L2 L3
open Bk (Wk)
end Pu
namespace Pu
open PySem L2 L3
open Bk (Lf Ext Dl Wk Dr)
variable {H:Gp} {xs:List T} {ds:List PyData}
theorem LR {d:PyData} (h:Dqs H xs (d::ds)):∃ x r,xs=x::r/\Dq H x d/\Dqs H r ds:=by
 cases h with
 |cons a b=>exact ⟨_,_,rfl,a,b⟩
theorem qaj (h:Dqs H xs []):xs=[]:=by cases h;rfl
variable {i:Int}
theorem qrY {x:T} (h:Dq H x (.int i)):x=.int i:=by cases h;rfl
theorem qsk {x:T} {i:Str} (h:Dq H x (.str i)):x=.str i:=by cases h;rfl
theorem qgb {x:T} (h:Dq H x (.tuple ds)):∃ xs,x=.tup xs/\Dqs H xs ds:=by
 cases h with
 |tup a=>exact ⟨_,rfl,a⟩
theorem D7 (h:Dqs H xs (.int i::ds)):∃ r,xs=.int i::r/\Dqs H r ds:=by
 obtain ⟨x,r,rfl,a,b⟩:=LR h;exact ⟨r,by rw [qrY a],b⟩
theorem qcW {i:Str} (h:Dqs H xs (.str i::ds)):∃ r,xs=.str i::r/\Dqs H r ds:=by
 obtain ⟨x,r,rfl,a,b⟩:=LR h;exact ⟨r,by rw [qsk a],b⟩
theorem qiC:∀ (cs:List (List Int)) {xs:List T},Dqs H xs (cs.map Pv.qjr)->xs=cs.map Bk.MQ:=by
 intro cs;induction cs with
 |nil=>intro xs h;exact qaj h
 |cons r cs ih=>
  intro xs h;obtain ⟨x,t,rfl,a,b⟩:=LR h;obtain ⟨ys,rfl,a1⟩:=qgb a;rw [ih b,Dqs.ints a1];rfl
theorem qdS (d:Dl):∀ {x:T},Dq H x (Pv.dlD d)->x=d.t:=by
 induction d with
 |skew r c b x y=>
  intro z h0;obtain ⟨_,rfl,h1⟩:=qgb h0;obtain ⟨_,rfl,h2⟩:=qcW h1;obtain ⟨_,rfl,h3⟩:=D7 h2;obtain ⟨_,rfl,h4⟩:=D7 h3;obtain ⟨_,rfl,h5⟩:=D7 h4;obtain ⟨_,rfl,h6⟩:=D7 h5;obtain ⟨_,rfl,h7⟩:=D7 h6;rw [qaj h7];rfl
 |rests r c b p=>
  intro z h0;obtain ⟨_,rfl,h1⟩:=qgb h0;obtain ⟨_,rfl,h2⟩:=qcW h1;obtain ⟨_,rfl,h3⟩:=D7 h2;obtain ⟨_,rfl,h4⟩:=D7 h3;obtain ⟨_,rfl,h5⟩:=D7 h4;obtain ⟨_,rfl,h6⟩:=D7 h5;rw [qaj h6];rfl
 |bits hh l ms=>
  intro z h0;obtain ⟨_,rfl,h1⟩:=qgb h0;obtain ⟨_,rfl,h2⟩:=qcW h1;obtain ⟨_,rfl,h3⟩:=D7 h2;obtain ⟨_,rfl,h4⟩:=D7 h3;obtain ⟨_,_,rfl,a0,h5⟩:=LR h4;obtain ⟨_,rfl,a1⟩:=qgb a0;rw [qaj h5,Dqs.ints a1];rfl
 |table b cells=>
  intro z h0;obtain ⟨_,rfl,h1⟩:=qgb h0;obtain ⟨_,rfl,h2⟩:=qcW h1;obtain ⟨_,rfl,h3⟩:=D7 h2;obtain ⟨_,_,rfl,a0,h4⟩:=LR h3;obtain ⟨_,rfl,a1⟩:=qgb a0;rw [qaj h4,qiC cells a1];rfl
 |joined d e ih1 ih2=>
  intro z h0;obtain ⟨_,rfl,h1⟩:=qgb h0;obtain ⟨_,rfl,h2⟩:=qcW h1;obtain ⟨_,_,rfl,a0,h3⟩:=LR h2;obtain ⟨_,_,rfl,b0,h4⟩:=LR h3;rw [qaj h4,ih1 a0,ih2 b0];rfl
theorem qa9:∀ (a b:Int),PyData.int a=PyData.int b->a=b:=λ_ _ h=>by injection h
theorem qjj:∀ (a b:List Int),Pv.qjr a=Pv.qjr b->a=b:=λa b h=>by
 unfold Pv.qjr at h;injection h with h;exact (xm9 qa9).mp h
theorem K8:∀ (d e:Dl),Pv.dlD d=Pv.dlD e->d=e
 |.skew ..,.skew ..,h=>by simp [Pv.dlD] at h;simp [h]
 |.rests ..,.rests ..,h=>by simp [Pv.dlD] at h;simp [h]
 |.bits _ _ ms,.bits _ _ ns,h=>by
  simp only [Pv.dlD,xa1,zp0,xj1,and_true,true_and,Int.natCast_inj] at h;have:=(xm9 qa9).mp h.2.2;simp [h.1,h.2.1,this]
 |.table _ cs,.table _ es,h=>by
  simp only [Pv.dlD,xa1,zp0,xj1,and_true,true_and] at h;have:=(xm9 qjj).mp h.2;simp [h.1,this]
 |.joined d e,.joined d' e',h=>by
  simp only [Pv.dlD,xa1,zp0,and_true,true_and] at h;rw [K8 d d' h.1,K8 e e' h.2]
 |.skew ..,.rests ..,h=>by simp [Pv.dlD] at h
 |.skew ..,.bits ..,h=>by simp [Pv.dlD] at h
 |.skew ..,.table ..,h=>by simp [Pv.dlD] at h
 |.skew ..,.joined ..,h=>by simp [Pv.dlD] at h
 |.rests ..,.skew ..,h=>by simp [Pv.dlD] at h
 |.rests ..,.bits ..,h=>by simp [Pv.dlD] at h
 |.rests ..,.table ..,h=>by simp [Pv.dlD] at h
 |.rests ..,.joined ..,h=>by simp [Pv.dlD] at h
 |.bits ..,.skew ..,h=>by simp [Pv.dlD] at h
 |.bits ..,.rests ..,h=>by simp [Pv.dlD] at h
 |.bits ..,.table ..,h=>by simp [Pv.dlD] at h
 |.bits ..,.joined ..,h=>by simp [Pv.dlD] at h
 |.table ..,.skew ..,h=>by simp [Pv.dlD] at h
 |.table ..,.rests ..,h=>by simp [Pv.dlD] at h
 |.table ..,.bits ..,h=>by simp [Pv.dlD] at h
 |.table ..,.joined ..,h=>by simp only [Pv.dlD,xa1,zp0,PyData.str.injEq] at h;exact absurd h.1 (by decide)
 |.joined ..,.skew ..,h=>by simp [Pv.dlD] at h
 |.joined ..,.rests ..,h=>by simp [Pv.dlD] at h
 |.joined ..,.bits ..,h=>by simp [Pv.dlD] at h
 |.joined ..,.table ..,h=>by simp only [Pv.dlD,xa1,zp0,PyData.str.injEq] at h;exact absurd h.1 (by decide)
def the (S:PyData->Prop):Option PyData:=@dite _ (∃ v,S v) (xc0 _) (λh=>some (Classical.choose h)) λ_=>none
variable {S:PyData->Prop}
theorem WL {v:PyData} (h:the S=some v):S v:=by
 unfold the at h;split at h
 ·rename_i e;cases h;exact Classical.choose_spec e
 ·cases h
theorem qbk {v:PyData} (h:S v) (u:∀ w,S w->w=v):the S=some v:=by
 unfold the;rw [dif_pos ⟨v,h⟩];exact congrArg some (u _ (Classical.choose_spec (⟨v,h⟩:∃ v,S v)))
def siz (d:Dl):PyData:=.tuple [.int d.R,.int d.C,.int d.B]
theorem qf4 (G:Gp) (d:Dl):Dq G (Bk.WA d) (siz d):=.tup (.cons (.int _) (.cons (.int _) (.cons (.int _) .nil)))
def SzR (n:Nat) (ds:List PyData) (v:PyData):Prop:=∃ d:Dl,ds=[Pv.dlD d]/\d.dep<=n/\d.Ok/\v=siz d
def fSz (n:Nat):FnD (Bk.QZ (n+1)):=⟨λds=>the (SzR n ds),false,λ{D G xs ds v q} hx hd hf k=>by
 obtain ⟨d,rfl,h1,h2,rfl⟩:=WL hf;cases hx with
 |cons a b=>
  cases b;have:=qdS d a;subst this;exact ⟨d,rfl,h1,h2,k _ _ Ex.refl (qf4 _ d) (λz=>by cases z)⟩⟩
def qkP (n:Nat):FnD (Bk.ZY (n+1)):=⟨λds=>the (SzR n ds),false,λ{D G xs ds v q} hx hd hf k=>by
 obtain ⟨d,rfl,h1,h2,rfl⟩:=WL hf;cases hx with
 |cons a b=>
  cases b;have:=qdS d a;subst this;exact ⟨d,rfl,h1,h2,λG' E=>k _ _ E (qf4 _ d) (λz=>by cases z)⟩⟩
variable {n:Nat}
theorem TF {d:Dl} (h1:d.dep<=n) (h2:d.Ok):the (SzR n [Pv.dlD d])=some (siz d):=qbk ⟨d,rfl,h1,h2,rfl⟩ λw ⟨e,a,_,_,b⟩=>by
 injection a with a;rw [b,K8 d e a]
theorem MB:(fSz n).f=λds=>the (SzR n ds):=id rfl
theorem NT:(qkP n).f=λds=>the (SzR n ds):=id rfl
def BkR (n:Nat) (ds:List PyData) (v:PyData):Prop:=∃ (d:Dl) (i j:Int),ds=[Pv.dlD d,.tuple [.int i,.int j]]/\d.dep<=n/\d.Ok/\Bk.Inn d i j/\v=.int (d.bank i j)
def fBk (n:Nat):FnD (Bk.qaC n):=⟨λds=>the (BkR n ds),false,λ{D G xs ds v q} hx hd hf k=>by
 obtain ⟨d,i,j,rfl,h1,h2,h3,rfl⟩:=WL hf;cases hx with
 |cons a b=>cases b with
  |cons c b=>
   cases b;have:=qdS d a;subst this;cases c with
   |tup hs=>cases hs with
    |cons x hs=>cases hs with
     |cons y hs=>
      cases hs;cases x;cases y;exact ⟨d,i,j,rfl,h1,h2,h3,λG' E=>k _ _ E (.int _) (λz=>by cases z)⟩⟩
theorem qpP {d:Dl} {j:Int} (h1:d.dep<=n) (h2:d.Ok) (h3:Bk.Inn d i j):the (BkR n [Pv.dlD d,.tuple [.int i,.int j]])=some (.int (d.bank i j)):=qbk ⟨d,i,j,rfl,h1,h2,h3,rfl⟩ λw ⟨e,i',j',a,_,_,_,b⟩=>by
 simp only [zp0,xa1,xj1,and_true] at a;rw [b,K8 d e a.1,a.2.1,a.2.2]
def LbR (n:Nat) (ds:List PyData) (v:PyData):Prop:=∃ (d:Dl) (i j:Int),ds=[Pv.dlD d,.int i,.int j]/\d.dep<=n/\d.Ok/\Bk.Inn d i j/\v=.int (d.bank i j)
def qrJ (n:Nat):FnD (Bk.V0 (n+1)):=⟨λds=>the (LbR n ds),false,λ{D G xs ds v q} hx hd hf k=>by
 obtain ⟨d,i,j,rfl,h1,h2,h3,rfl⟩:=WL hf;cases hx with
 |cons a b=>cases b with
  |cons x b=>cases b with
   |cons y b=>
    cases b;have:=qdS d a;subst this;cases x;cases y;exact ⟨d,i,j,rfl,h1,h2,h3,λG' E=>k _ _ E (.int _) (λz=>by cases z)⟩⟩
theorem qqP {d:Dl} {j:Int} (h1:d.dep<=n) (h2:d.Ok) (h3:Bk.Inn d i j):the (LbR n [Pv.dlD d,.int i,.int j])=some (.int (d.bank i j)):=qbk ⟨d,i,j,rfl,h1,h2,h3,rfl⟩ λw ⟨e,i',j',a,_,_,_,b⟩=>by
 simp only [zp0,xj1,and_true] at a;rw [b,K8 d e a.1,a.2.1,a.2.2]
theorem qpe:(qrJ n).f=λds=>the (LbR n ds):=id rfl
end Pu
namespace Pu
open PySem L2 L3
def nxM (M:Rho->Nat->Prop):QO:=λo m=>match o with|.nx ρ'=>M ρ' m|_=>False
variable {n:Nat}
theorem qjG {l:Nat} {t u:TS3} {x:PwS l t} {y:PwS l u} {ρ:Rho} {Q:QO} (M:Rho->Nat->Prop) (h1:x.w ρ n (nxM M)) (h2:∀ ρ' m,M ρ' m->y.w ρ' m Q):(V2 x y).w ρ n Q:=by
 rw [qbZ];refine x.mono h1 λo m h=>?_;cases o with
 |nx ρ'=>exact h2 _ _ h
 |_=>exact h.elim
theorem qb5 {α:Type} (g:α->PyData) (xs:List α):∀ k,enD k (xs.map g)=(xs.zipIdx k).map λp=>PyData.tuple [.int (p.2:Int),g p.1]:=by
 induction xs with
 |nil=>intro k;rfl
 |cons x xs ih=>intro k;simp only [zg2,enD,xe4,ih (k+1)]
theorem UX {a m:Int} (h:m∈zh a n):a<=m/\m<a+n:=by
 unfold zh at h;obtain ⟨i,hi,rfl⟩:=zf4.mp h;have:=zi0.mp hi;omega
theorem RC {α:Type} {xs:List α} {i:Nat} {x:α} (h:(xs.zipIdx 0)[i]?=some (x,n)):xs[i]?=some x/\n=i/\i<xs.length:=by
 rw [List.getElem?_zipIdx] at h;obtain ⟨c,hc,e⟩:=zb5 h;simp only [zf2,Prod.mk.injEq] at e;obtain ⟨rfl,rfl⟩:=e;exact ⟨hc,rfl,(zb6 hc).1⟩
variable {xs:List PyData}
theorem qqE {lo hi:Option Int}:slD (.list xs) lo hi=some (.list (QY xs lo hi)):=id rfl
theorem qk5 {ys:List PyData} (h:xs.length+ys.length<=16777216):qps (.list xs) (.list ys)=some (.list (xs++ys)):=zk (by rw [v9];exact h)
noncomputable def qe0:List PyData->Option (List (List Int))
 |[]=>some []
 |.tuple ys::r=>(match JH ys,qe0 r with|some k,some ks=>some (k::ks)|_,_=>none)
 |_=>none
theorem qgF {G:Gp}:∀ {xs:List T} {ds:List PyData} {ks:List (List Int)},Dqs G xs ds->qe0 ds=some ks->qdX xs=some ks
 |_,[],ks,h,e=>by cases h;simpa [qe0,qdX] using e
 |_,d::ds,ks,h,e=>by
  cases h with
  |cons a b=>
   cases d<;>try (simp only [qe0] at e;cases e;done)
   case tuple ys=>
    simp only [qe0] at e;split at e
    ·rename_i k ks' e1 e2;cases e;cases a with
     |tup hs=>
      have:=UA e1;subst this;have:=hs.ints;subst this;simp only [qdX,Q7,qgF b e2]
    ·cases e
def KL (d:PyData):Option PyData:=match d with
 |.tuple ds=>(qe0 ds).bind λks=>cif (ks.length<=306) (some (.int (Tb8.cnt (kAt ks) ks.length))) none
 |_=>none
def qhw {te:TE3} (a:PuE te):PuE (qfe te):=⟨λρ=>(a.f ρ).bind KL,a.fv,false,λhv hd hf k=>by
 obtain ⟨d,e1,hf⟩:=obb hf;refine a.ok hv hd e1 λx' G1 E1 D1 _=>?_;unfold KL at hf;cases D1 with
 |tup hs=>
  simp only at hf;obtain ⟨ks,en,hf⟩:=obb hf;unfold cif at hf;split at hf
  ·rename_i hl;cases hf;simp only [qgF hs en];exact ⟨hl,k _ _ E1 (.int _) (λz=>by cases z)⟩
  ·cases hf
 |_=>simp at hf⟩
theorem qel {te:TE3} {a:PuE te}:(qhw a).f=λρ=>(a.f ρ).bind KL:=id rfl
def qkt (ps:List (Int×Int)):Nat:=Tb8.cnt (kAt (ps.map λp=>[p.1,p.2])) ps.length
theorem qon:∀ ps:List (Int×Int),qe0 (ps.map λp=>.tuple [.int p.1,.int p.2])=some (ps.map λp=>[p.1,p.2])
 |[]=>rfl
 |p::ps=>by simp only [zg2,qe0,JH,qon ps];rfl
variable {ps:List (Int×Int)}
theorem qje (h:ps.length<=306):KL (.tuple (ps.map λp=>.tuple [.int p.1,.int p.2]))=some (.int (qkt ps)):=by
 simp only [KL,qon,ze7];rw [zk (by simpa using h)];simp [qkt]
theorem qcq {key:Nat->List Int}:∀ {n:Nat},Tb8.cnt key n=n↔∀ i j,i<j->j<n->key i≠key j
 |0=>⟨λ_ i j _ h=>absurd h (xf8 j),λ_=>rfl⟩
 |n+1=>by
  have ih:=qcq (key:=key) (n:=n);have le:=Tb8.NM key n;unfold Tb8.cnt;constructor
  ·intro h;split at h
   ·omega
   ·rename_i c;intro i j hij hj e;rcases zk8 j n with z|z
    ·exact ih.mp (by omega) i j hij z e
    ·obtain rfl:j=n:=by omega
     exact c ⟨i,hij,e⟩
  ·intro h;rw [if_neg (λ⟨i,hi,e⟩=>h i n hi (by omega) e),ih.mpr λi j hij hj=>h i j hij (by omega)]
theorem qeQ:qkt ps=ps.length↔ps.Nodup:=by
 unfold qkt;rw [qcq,xd9,xa5];have k:∀ i (h:i<ps.length),kAt (ps.map λp=>[p.1,p.2]) i=[ps[i].1,ps[i].2]:=λi h=>by
  unfold kAt;rw [ze4,ze5,u7 h];rfl
 constructor
 ·intro h i j hi hj hij e;exact h i j hij hj (by rw [k i hi,k j hj,e])
 ·intro h i j hij hj e;rw [k i (by omega),k j hj] at e;simp only [zp0,and_true] at e;exact h i j (by omega) hj hij (Prod.ext e.1 e.2)
open Bk (Lf Ext)
end Pu
namespace Pu
open PySem L2 L3
section
variable {D:Addr->Prop} {G0 G G':Gp} {A A':Nat->Addr->Prop} {τ:St3} {ρ:Rho}
end
def fBi (n:Nat):FnD (Bk.EH (n+1)):=fBk n
theorem qpI {n:Nat}:(fBi n).f=λds=>the (BkR n ds):=id rfl
open Bk (Lf Ext)
end Pu
namespace Pu
open PySem L2 L3
open Bk (Dl)
end Pu
namespace Pv
open PySem L2 L3 Pu
open Bk (Wk zH zp Q1 lnD lnA Un2 Fst faO ZE ZK XG)
theorem J4 {lo:Int} {n i:Nat} {x:Int} (h:(zh lo n)[i]?=some x):i<n/\x=lo+i:=by
 unfold zh at h;rw [ze5] at h;obtain ⟨k,e1,e2⟩:=zb5 h;obtain ⟨hl,hk⟩:=zb6 e1;simp at hl hk;subst hk;exact ⟨hl,e2.symm⟩
theorem qJ (lo:Int) (n:Nat):(zh lo n).length=n:=by simp [zh]
theorem qbG {lo:Int} {n i:Nat} (h:i<n):(zh lo n)[i]?=some (lo+i):=by simp [zh,h]
theorem WW {d a:Int} {m:Nat} (hd:-1000<=d/\d<=1000) (ha:-1000<=a/\a<=1000) (hm:m<=10000):js [.int d,.int a,.int m]=some (.list ((zH d a m).map pD)):=by
 rw [qbr]
 simp! [Pu.pwA,WH]
 rw [zI (ds:=(zh 0 m).map PyData.int) (fs:=(zH d a m).map pD)]
 ·simp! [Pu.pwA]
 ·simp! (disch:=omega) [Pu.pwA,LJ,zf8]
 ·have:zH d a m=(zh 0 m).map λi=>(i*d,i*a):=by simp [zH,zh,zg8,ze6]
  rw [this,zg8];refine zu λi hi=>?_
  simp! (disch:=omega) [Pu.pwA,jq,qoH,ze6,pD]
 ·simp [zH];omega
def Big:Wk->Prop
 |.line k m=>k<4/\m<=1000
 |.block h w=>h<=1000/\w<=1000
 |.step d a m=>(-1000<=d/\d<=1000)/\(-1000<=a/\a<=1000)/\m<=1000
 |.cells ps=>ps.length<=1000
theorem Q4 {w:Wk} (ok:Big w):je [Wk.d w]=some (.list (w.pc.map pD)):=by
 cases w with
 |cells ps=>
  rw [ZW]
  simp! [Pu.pwA,jA,Wk.d,eq_self,Wk.pc]
 |block h v=>
  obtain ⟨h1,h2⟩:=ok;rw [ZW]
  simp! [Pu.pwA,jA,Wk.d,eq_self,L3.Y0,Wk.pc]
  rw [ME (ds:=(zh 0 h).map PyData.int) (fs:=(zp h v).map pD)]
  ·simp! [Pu.pwA]
  ·simp! (disch:=omega) [Pu.pwA,LJ,zf8]
  ·have:(zp h v).map pD=(zh 0 h).flatMap λp=>(zh 0 v).map λq=>pD (p,q):=by
    simp only [zp,zh,xc1,zg8,List.flatMap_map,ze6,zn2]
   rw [this];refine R8 λp hp=>?_
   simp! (disch:=omega) [Pu.pwA,qdm,LJ,zf8]
   rw [zu (k:=λq=>pD (p,q)) λq hq=>?_]
   ·simp! [Pu.pwA]
   ·simp! [Pu.pwA,jq,pD]
  ·have:=zh7 h1 h2;rw [zd9,Bk.J0];omega
 |step d a m=>
  obtain ⟨h1,h2,h3⟩:=ok;rw [ZW]
  simp! [Pu.pwA,jA,Wk.d,eq_self,L3.UJ,L3.UF,Wk.pc,WW h1 h2 (show m<=10000 by omega)]
 |line k m=>
  obtain ⟨h1,h2⟩:=ok;have key:∀ (s:Str) (d a:Int),¬ s=ze1 "cells" -> ¬ s=ze1 "block" -> ¬ s=ze1 "step" -> (-1000<=d/\d<=1000)->(-1000<=a/\a<=1000)->(zE YI s).bind tD=some (.tuple [.int d,.int a])->je [.tuple [.str s,.int (m:Int)]]=some (.list ((zH d a m).map pD)):=by
   intro s d a n1 n2 n3 hd ha e;rw [ZW]
   simp! [Pu.pwA,jA,n1,n2,n3,e,WW (d:=d) (a:=a) (m:=m) hd ha (by omega)]
  have:(k=0\/k=1\/k=2\/k=3):=by omega
  rcases this with rfl|rfl|rfl|rfl
  ·exact key "row" 0 1 L3.K3 L3.T4 L3.MD (by decide) (by decide) rfl
  ·exact key "column" 1 0 L3.XS L3.WX L3.CF (by decide) (by decide) rfl
  ·exact key "slant" 1 1 L3.X6 L3.CI L3.R0 (by decide) (by decide) rfl
  ·exact key "back" 1 (-1) L3.RY L3.RZ L3.TX (by decide) (by decide) rfl
def faD (ns:List Int):PyData:=match faO ns with|some (i,j)=>.tuple [.int i,.int j]|none=>.none
variable {ns:List Int}
theorem qrZ {x:PyData} (hl:ns.length<=1000000) (h1:qjM [x]=some (.int ns.length)) (h2:∀ i,ixD x (.int i)=L2.atI (ns.map PyData.int) i):zz [x]=some (faD ns):=by
 rw [CD];have at':∀ i:Nat,i<ns.length->ixD x (.int (0+(i:Int)))=some (.int ((ns[i]?).getD 0)):=λi hi=>by
  rw [h2,zn2,atN (by simpa using hi),ze5,u7 hi];rfl
 have at2:∀ i j:Nat,i+1+j<ns.length->ixD x (.int (0+(i:Int)+1+(j:Int)))=some (.int ((ns[i+1+j]?).getD 0)):=λi j hi=>by
  rw [h2,show (0+(i:Int)+1+(j:Int))=((i+1+j:Nat):Int) by omega,atN (by simpa using hi),ze5,u7 hi];rfl
 have ne':∀ {a b:Nat},a<ns.length->b<ns.length->ns[a]?≠ns[b]?->(ns[a]?).getD 0≠(ns[b]?).getD 0:=λ{a b} ha hb hn e=>by
  rw [u7 ha,u7 hb] at hn e;exact hn (congrArg some e)
 simp! (disch:=omega) [Pu.pwA,jP,h1,LJ,zf8]
 have tn:∀ i:Nat,((ns.length:Int)-(0+(i:Int)+1)).toNat=ns.length-(i+1):=λi=>by omega
 by_cases hu:Un2 ns ns.length
 ·refine U6 (Q:=λo=>Z6 false o=_) (zh 0 ns.length) (λ_ ρ=>∃ s1 s2,ρ=[.sh x,s1,s2]) ⟨_,_,rfl⟩ ?_ ?_
  ·rintro i z ρ hz ⟨s1,s2,rfl⟩;obtain ⟨hi,rfl⟩:=J4 hz
   simp! (disch:=omega) [Pu.pwA,h1,qh2,tn]
   refine WJ (Q:=λo=>Nx o _) _ (λ_ ρ=>∃ s3,ρ=[.sh x,.sh (.int (0+(i:Int))),s3]) ⟨_,rfl⟩ ?_ ?_
   ·rintro j z ρ hz ⟨s3,rfl⟩;obtain ⟨hj,rfl⟩:=J4 hz;have hj2:i+1+j<ns.length:=by omega
    have:=ne' hi hj2 (hu i _ hi (by omega) hj2)
    simp! [Pu.pwA,at' i hi,at2 i j hj2,this]
    exact ⟨_,rfl⟩
   ·rintro ρ ⟨s3,rfl⟩
    simp! [Pu.pwA]
    exact ⟨_,_,rfl⟩
  ·rintro ρ ⟨s1,s2,rfl⟩
   simp! [Pu.pwA,faD,ZK hu]
 ·obtain ⟨i,j,F⟩:=XG hu;have hi:i<ns.length:=Nat.lt_trans F.ij F.jl;have jl:=F.jl;have ij:=F.ij;refine qjq (Q:=λo=>Z6 false o=_) (zh 0 ns.length) i (0+(i:Int)) (.tuple [.int i,.int j]) false (qbG hi) (λ_ ρ=>∃ s1 s2,ρ=[.sh x,s1,s2]) ⟨_,_,rfl⟩ ?_ ?_ ?_
  ·rintro k z ρ hk hz ⟨s1,s2,rfl⟩;obtain ⟨hk2,rfl⟩:=J4 hz
   simp! (disch:=omega) [Pu.pwA,h1,qh2,tn]
   refine WJ (Q:=λo=>Nx o _) _ (λ_ ρ=>∃ s3,ρ=[.sh x,.sh (.int (0+(k:Int))),s3]) ⟨_,rfl⟩ ?_ ?_
   ·rintro l z ρ hz ⟨s3,rfl⟩;obtain ⟨hj,rfl⟩:=J4 hz;have hj2:k+1+l<ns.length:=by omega
    have:=ne' hk2 hj2 (F.un k _ hk (by omega) hj2)
    simp! [Pu.pwA,at' k hk2,at2 k l hj2,this]
    exact ⟨_,rfl⟩
   ·rintro ρ ⟨s3,rfl⟩
    simp! [Pu.pwA]
    exact ⟨_,_,rfl⟩
  ·rintro ρ ⟨s1,s2,rfl⟩
   simp! (disch:=omega) [Pu.pwA,h1,qh2,tn]
   refine DL (Q:=λo=>o=_) _ (j-(i+1)) (0+(i:Int)+1+((j-(i+1):Nat):Int)) (.tuple [.int i,.int j]) false (qbG (by omega)) (λ_ ρ=>∃ s3,ρ=[.sh x,.sh (.int (0+(i:Int))),s3]) ⟨_,rfl⟩ ?_ ?_ rfl
   ·rintro l z ρ hl hz ⟨s3,rfl⟩;obtain ⟨hj,rfl⟩:=J4 hz;have hj2:i+1+l<ns.length:=by omega
    have:=ne' hi hj2 (F.nb _ (by omega) (by omega))
    simp! [Pu.pwA,at' i hi,at2 i l hj2,this]
    exact ⟨_,rfl⟩
   ·rintro ρ ⟨s3,rfl⟩;have hj2:i+1+(j-(i+1))<ns.length:=by omega
    have ej:i+1+(j-(i+1))=j:=by omega
    have e2:(ns[i]?).getD 0=(ns[i+1+(j-(i+1))]?).getD 0:=by rw [ej,F.eq]
    simp! [Pu.pwA,at' i hi,at2 i _ hj2,e2]
    rw [show (0+(i:Int))=i by omega,show ((i:Int)+1+((j-(i+1):Nat):Int))=j by omega]
  ·simp! [Pu.pwA,faD,ZE F]
theorem qe7 (hl:ns.length<=1000000):zz [.list (ns.map PyData.int)]=some (faD ns):=qrZ hl (by simp [qjM]) λ_=>rfl
end Pv
namespace Pv
open PySem L2 L3 Pu
open Bk (Wk Dl zH zp Q1 lnD lnA Un2 Fst faO ZE ZK XG)
theorem DI {w:Wk} (ok:Big w):w.pc.length<=1000000:=by
 cases w with
 |line k m=>simp only [Wk.pc,zH,zd9,xm1];have:=ok.2;omega
 |block h v=>simp only [Wk.pc,Bk.J0];exact zh7 ok.1 ok.2
 |step d a m=>simp only [Wk.pc,zH,zd9,xm1];have:=ok.2.2;omega
 |cells ps=>have:ps.length<=1000:=ok;simp only [Wk.pc];omega
def unB (ns:List Int):Bool:=(faO ns).isNone
theorem qdf {ns:List Int}:unB ns=true↔Un2 ns ns.length:=by
 constructor
 ·intro h;apply xe6;intro hn;obtain ⟨i,j,F⟩:=XG hn;unfold unB at h;rw [ZE F] at h;cases h
 ·intro h;unfold unB;rw [ZK h];rfl
noncomputable def dn (cs:List (Int×Int)):List Int:=cs.map λp=>p.1
noncomputable def al (cs:List (Int×Int)):List Int:=cs.map λp=>p.2
def stI (R C:Int) (cs:List (Int×Int)):List (Int×Int):=(zh (-(mn (dn cs))) (R-mx (dn cs) - -(mn (dn cs))).toNat).flatMap λi=>(zh (-(mn (al cs))) (C-mx (al cs) - -(mn (al cs))).toNat).map λj=>(i,j)
theorem YN {α β:Type} (xs:List α) (ys:List β) {γ:Type} (f:α->β->γ):(xs.flatMap λa=>ys.map λb=>f a b).length=xs.length*ys.length:=by
 induction xs with
 |nil=>simp
 |cons a r ih=>simp only [xb0,zg9,zd9,ih,ze8,Nat.succ_mul];omega
structure Cb (cs:List (Int×Int)):Prop where
 ne:cs≠[]
 b:∀ p∈cs,(-1000000<=p.1/\p.1<=1000000)/\(-1000000<=p.2/\p.2<=1000000)
variable {cs:List (Int×Int)}
theorem Cb.lim (h:Cb cs):(-1000000<=mn (dn cs)/\mn (dn cs)<=mx (dn cs)/\mx (dn cs)<=1000000)/\(-1000000<=mn (al cs)/\mn (al cs)<=mx (al cs)/\mx (al cs)<=1000000):=by
 have n1:dn cs≠[]:=by simp [dn,h.ne]
 have n2:al cs≠[]:=by simp [al,h.ne]
 have m1:=CT n1;have m2:=WV n1;have m3:=CT n2;have m4:=WV n2;have l1:=qaB m2;have l2:=qaB m4;have b1:∀ x∈dn cs,-1000000<=x/\x<=1000000:=λx hx=>by
  obtain ⟨p,hp,rfl⟩:=zf4.mp hx;exact (h.b p hp).1
 have b2:∀ x∈al cs,-1000000<=x/\x<=1000000:=λx hx=>by
  obtain ⟨p,hp,rfl⟩:=zf4.mp hx;exact (h.b p hp).2
 have:=b1 _ m1;have:=b1 _ m2;have:=b2 _ m3;have:=b2 _ m4;omega
theorem LK {R C:Int} (h:Cb cs) (hR:R<=4096) (hC:C<=4096):(stI R C cs).length<=16777216:=by
 obtain ⟨⟨h1,h2,h3⟩,⟨h4,h5,h6⟩⟩:=h.lim;unfold stI;rw [YN,qJ,qJ];have a:(R-mx (dn cs) - -(mn (dn cs))).toNat<=4096:=by omega
 have b:(C-mx (al cs) - -(mn (al cs))).toNat<=4096:=by omega
 exact za4 (zh7 a b) (by decide)
end Pv
namespace Pv
open PySem L2 L3 Pu
open Bk (pop NC zW jp WO WN Dl zq YK jT J9)
theorem T9 (n:Int):∀ (t:Nat) (ms:List Int),zW n (t+1) ms=2*zW n t ms
 |_,[]=>rfl
 |t,m::ms=>by
  simp only [zW,T9 n (t+1) ms,Int.pow_succ];split<;>omega
theorem qbb (n m:Int) (ms:List Int):jp (m::ms) n=(if NC n m then 1 else 0)+2*jp ms n:=by
 unfold jp;rw [zW,T9];simp
theorem NI (n:Int):∀ ms:List Int,0<=jp ms n/\jp ms n<2 ^ ms.length
 |[]=>by simp [jp,zW]
 |m::ms=>by
  have ih:=NI n ms;rw [qbb,ze8,Int.pow_succ];split<;>omega
end Pv
namespace Pv
open PySem L2 L3 Pu
open Bk (pop NC zW jp WO WN Dl)
end Pv
namespace Pv
open PySem L2 L3 Pu
open Bk (pop NC zW jp Dl)
end Pv
namespace Hd
open PySem L2 L3 PySem.W
def oF (x:Str) (st:Stmt) (pm cd:Value):Obj:=⟨.type "function",none,.func (zn0 x x (j7 st) (zy st) (qz st) .none .none .none pm none cd .none),#[]⟩
def oG (x:Str) (st:Stmt):Obj:=⟨.none,none,.func { name:=x,qualname:=x,params:=j7 st,body:=.stmts (zy st),scope:=qz st,globals:=0,closure:=[],defaults:=.none,kwdefaults:=.none },#[]⟩
noncomputable def oC (vs:List Value):Obj:=⟨.type "code",none,.fields vs.toArray,#[]⟩
noncomputable def oT (vs:List Value):Obj:=⟨.type "tuple",none,.seq vs.toArray 0,#[]⟩
def eD (P:Params):Value×Value->DictEntry
 | (.str x t,v)=>⟨xe0 P x,.str x t,v⟩
 | (u,v)=>⟨0,u,v⟩
def oD (P:Params) (n:Nat) (es:List (Value×Value)):Obj:=⟨.type "dict",none,.dict (es.map (eD P)).toArray n,#[]⟩
def oK (x:Str) (t l n m:Nat) (a b:Addr) (u v z:Value) (e y q:Nat):Obj:=oC [.str x t,.str x (t+1),.str "/claim/cut.py" (t+2),.int l 0,.int n 0,.int 0 0,.int 0 0,.int 3 0,.ref a,.bool true,.int m 0,.ref b,u,v,z,.ref e,.int y 0,.int l 0,.str "/claim/cut.py" q]
def o3 (x:Str) (st:Stmt) (M:Value) (t l n a:Nat) (u v z:Value) (e y q:Nat) (i:Nat):Obj:=match i with |0=>oG x st|1=>oK x t l n 181 a (a+1) u v z e y q|_=>oF x st M (.ref (e+1))
def nmV:List Str->Nat->List Value
 |[],_=>[]
 |x::r,t=>.str x t::nmV r (t+1)
def oN (xs:List Str) (t:Nat):Obj:=oT (nmV xs t)
noncomputable abbrev nd (o:Obj) (l r:PySem.W.BT):PySem.W.BT:=.node o l r
noncomputable abbrev lf (o:Obj):PySem.W.BT:=.node o .nil .nil
theorem qpQ {K:Frg} (x:Str) (st:Stmt) (f:Addr) (pm cd:Value) (l:K.lookup f=some (oF x st pm cd)) (c:xh3 K cd x=true) (k:xd6 K (.ref f)=true) :
  Fun K x x st f (zn0 x x (j7 st) (zy st) (qz st) .none .none .none pm none cd .none):=qbR l c k
theorem qoY {K:Frg} {h:Heap} {mg:Str->Option Value} (X:K.In h) (G:h.Ns zi2 mg) (n:Str) (v:Value) (e:PySem.W.nsIn K zi2 n=some (some v)):mg n=some v:=PySem.W.mg_of X G e
theorem head {l:OpenLaw} {q:Program} {loose:List Str} {K:Params->Frag} {as:List Addr} {d:DefRec} {N:Nat} {k:Nat} {x:Str} (ha:∀ P,as=(K P).map (·.1))
  (ok:l.wellSaid=true)
  (left:LeftO l.prog q loose (λs=>xlAt q [] s&&recOk [] s) (λs=>as.map s.heap.get?) (λw=>(K w.params).map λp=>some p.2) N)
  (hdef:defOf q l.name=some (d,[])) (hp:l.prog.theDef l.name=some (d.params,d.body,d.scope)) (hk:kwWritten? d.params.kwonlyargs d.params.kw_defaults=some [])
  (hwr:(!l.row.writes||l.row.records.isEmpty)=true) (ok2:(chainsOk q&&opensWell l.prog&&(frees l.row.toRowW&&l.row.within.isEmpty))=true) (hb:l.prog.bare) (hw:l.row.toRowW.promised)
  (hn:l.most=some 63) (hdf:d.params.defaults=[]) (hr:Room k callerA) (hK:∀ w:World,DB (K w.params)=true)
  (F:∀ (w:World) (mg:Str->Option Value) (fa:Addr) (h:Heap),(K w.params).In h->h.Ns zi2 mg->mg d.name=some (.ref fa) ->
   ∃ fd:FuncData,(∀ (s:Shared) (u:Value),BindsTo s fd ⟨[u],[]⟩ [(x,u)])/\∀ base:Heap,(K w.params).In base->base.Ns zi2 mg->FnOk l.prog w (K w.params) mg base CX0 k fa fd [x] (lSp (K w.params) TY)):l.Holds:=by
 refine holds_law ok λsaid=>?_;exact holds_open (q:=q) (loose:=loose) (Xt:=λs=>xlAt q [] s&&recOk [] s) (XP:=XL q []) (Yf:=Hook.obs (kHook K as ha)) (Ya:=Hook.val (kHook K as ha)) (YP:=Hook.says (kHook K as ha)) (N:=N) left
  (Hook.of (kHook K as ha)) (Hook.keeps (kHook K as ha)) (λs e=>xl_of s (Bool.and_eq_true_iff.mp e).1) XL.keeps hdef hp hk (λs e=>recFacts_of (Bool.and_eq_true_iff.mp e).2) hwr said ok2 hb hw
  (L3.qqN (l:=l) (k:=k) (x:=x) hn hdf hr (λw h Y=>kIn_of Y) hK F)
end Hd
namespace Hd
open PySem L2 L3 PySem.W PySem.Spec PySem.Calls PyProof.Rows
structure Fb (K:Frg) (mg:Str->Option Value) (x:Str) (st:Stmt) (ps:List Str) (f:Addr) (fd:FuncData):Prop where
 F:Fun K x x st f fd
 b:X5 K fd ps []
 m:mg x=some (.ref f)
theorem sc0 {N ps:List Str} {s:Scope} (h1:autoParam (s.kind=.function) zA0._auto_1) (h2:autoParam (s.isCoroutine=false) zA0._auto_1) (h3:autoParam (s.isGenerator=false) zA0._auto_1) (h4:autoParam (N.Nodup) zA9._auto_1) (h5:autoParam (N.take ps.length=ps) zA0._auto_1) (h6:autoParam (∀ x∈ps,s.names.lookup x=some .local\/s.names.lookup x=some .cell) zA9._auto_1) (h7:autoParam (∀ y∈s.names,y.2≠.free) zA9._auto_1):FnScope N ps s:=⟨h1,h2,h3,h4,h5,h6,h7⟩
theorem jfE {P:Program} {w:World} {K:Frg} {mg:Str->Option Value} {base:Heap} {x:Str} {st:Stmt} {f:Addr} {fd:FuncData} {N ps:List Str} {k:Nat} {sp:Sp3} {t3:TS3} (E:Fb K mg x st ps f fd) (S:FnScope N ps (qz st))
  (read:∀ ts G q,sp ts G q->ts.length=ps.length/\t3 { nx:=λ_ G'=>q .non G',rt:=q } (qo N ts) G)
  (body:∀ (cdv:Value) (A:Around) (outer:List Env) (s:Shared) (H:Hp) (E:XK),Room k (A.deeper (xg3 x (qz st) s.heap.objs.size f cdv)) ->
   jB3 (qas CX0 P w K mg base N x (qz st) f cdv A outer s H E).nox (zy st) t3):Fn3 P w K mg base (k+1) x sp:=qiT E.F S E.b E.m body read
theorem no {K:Frg} {h:Heap} {mg:Str->Option Value} (X:K.In h) (G:h.Ns zi2 mg) (n:Str) (e:autoParam (PySem.W.nsIn K zi2 n=some none) zA2._auto_1):mg n=none:=PySem.W.mg_none_of X G e
def c1 (P:Params) (M:Str) (q:Nat) (nm:Str) (t:Nat) (ln:Int) (r:Nat):Obj:=oD P 4 [(.str "__module__" (t+7),.str M q),(.str "__qualname__" (t+9),.str nm (t+8)),(.str "__firstlineno__" (t+11),.int ln (t+10)),(.str "__static_attributes__" (t+12),.ref (r+7))]
def c2 (nm:Str) (t:Nat) (ln:Int) (r:Nat):Obj:=oC [.str nm (t+2),.str nm (t+3),.str "/claim/cut.py" (t+4),.int ln 0,.int 0 0,.int 0 0,.int 0 0,.int 0 0,.ref (r+3),.bool false,.int 181 0,.ref (r+4),.none,.none,.none,.none,.int (t+5:Nat) 0,.int ln 0,.str "/claim/cut.py" (t+6)]
noncomputable def c3 (M:Str) (q r:Nat):Obj:=⟨.type "frame",none,.plain,#[some (.ref (r+5)),some (.ref 3),some (.ref (r+2)),none,some (.str M q),none,some (.ref 0)]⟩
def c4 (P:Params) (M:Str) (q t:Nat) (ln:Int) (r:Nat):Obj:=oD P 2 [(.str "__module__" (t+7),.str M q),(.str "__firstlineno__" (t+11),.int ln (t+10)),(.str "__static_attributes__" (t+12),.ref (r+7)),(.str "__doc__" (t+13),.none)]
def c5 (nm:Str) (b t r:Nat):Obj:=⟨.type "type",none,.cls ({ name:=nm,bases:=[Value.ref b],mro:=[Value.ref (r+9),Value.ref b,Value.type "ValueError",Value.type "Exception",Value.type "BaseException",Value.type "object"],ns:=r+8,qualname:=nm }),#[some (.ref r),none,some (.str nm t),some (.str nm (t+8)),some (.builtin "ValueError.__new__"),some (.bool true)]⟩
noncomputable def c6 (r:Nat):Obj:=⟨.type "super",none,.fields #[.ref r,.ref r,.ref r],#[]⟩
noncomputable def c7 (r:Nat):Obj:=⟨.type "builtin_function_or_method",none,.fields #[.builtin "object.__init_subclass__",.ref r],#[]⟩
def oM (P:Params) (n:Nat) (M:Str) (q:Nat) (es:List (Value×Value)):Obj:=oD P n ([(.str "__name__" 165,.str M q),(.str "__doc__" 166,.none),(.str "__package__" 167,.none),(.str "__loader__" 168,.builtin "__main__.__loader__#opaque"),(.str "__spec__" 169,.none),(.str "__annotations__" 170,.ref 6),(.str "__builtins__" 171,.ref 4),(.str "__file__" 173,.str "/claim/cut.py" 172),(.str "__cached__" 174,.none)]++es)
theorem e {K:Frg} {h:Heap} {mg:Str->Option Value} (X:K.In h) (G:h.Ns zi2 mg) (x:Str) (st:Stmt) (ps:List Str) (f:Addr) (pm cd:Value) (l:autoParam (K.lookup f=some (oF x st pm cd)) zA2._auto_1) (c:autoParam (xh3 K cd x=true) zA2._auto_1) (k:autoParam (xd6 K (.ref f)=true) zA2._auto_1) (e:autoParam (PySem.W.nsIn K zi2 x=some (some (.ref f))) zA2._auto_1)
  (b:∀ (kV doc pm:Value) (an:Option Addr) (cdv ct:Value) (us:List Value),us.length=ps.length->bindArgs (zn0 x x (j7 st) (zy st) (qz st) .none kV doc pm an cdv ct) ⟨us,[]⟩=pure (ps.zip us):=by exact λ_ _ _ _ _ _ us hl=>by first|(obtain ⟨_,rfl⟩:=Pu.qrt hl;rfl)|(obtain ⟨_,_,rfl⟩:=Pu.qrr hl;rfl)|(obtain ⟨_,_,_,rfl⟩:=Pu.qro hl;rfl)|(obtain ⟨_,_,_,_,rfl⟩:=Pu.qrD hl;rfl)|(obtain ⟨_,_,_,_,_,rfl⟩:=Pu.qq5 hl;rfl)) :
  Fb K mg x st ps f (zn0 x x (j7 st) (zy st) (qz st) .none .none .none pm none cd .none):=⟨qbR l c k,(qbR l c k).binds b,PySem.W.mg_of X G e⟩
end Hd
namespace L3
open PySem PySem.Spec PyProof.Rows L2
end L3
namespace Hd
open PySem PySem.Spec PyProof.Rows L2 L3 PySem.W
end Hd
namespace Hd
open PySem L2 L3 PySem.W PySem.Spec PySem.Calls PyProof.Rows
end Hd
namespace Pu
open PySem L2 L3
noncomputable def qiV (ρ:Rho) (i:Nat):Option (List (List PyData)):=match ρ[i]? with|some (.on dss)=>some dss|_=>none
variable {ρ:Rho} {i:Nat} {dss:List (List PyData)}
theorem qef (h:qiV ρ i=some dss):ρ[i]?=some (.on dss):=by
 unfold qiV at h;split at h
 ·rename_i e;cases h;exact e
 ·cases h
variable {D:Addr->Prop} {G0 G G':Gp} {A:Nat->Addr->Prop} {τ:St3} {p q:Addr} {qs:List Addr} {xs ys:List T} {ds:List PyData}
theorem RS.on (h:RS D G0 A τ ρ G) (e:qiV ρ i=some dss):∃ p qs,A i p/\τ[i]?=some (some (.ref p))/\G p=some (.lst (qs.map T.ref))/\(p::qs).Nodup/\Ons (rs (AD D A) G) G (A i) qs dss:=h.sl i _ (qef e)
def qdU (i:Nat) (kk y:Int) (ρ:Rho):Option Ot:=(slot ρ i).bind λds=>(ixN ds.length kk).bind λj=>(ds[j]?).bind λd=>(asI d).map λx=>.nx (ρ.set i (.ow (ds.set j (.int (x+y)))))
def qnc {tk t:TE3} (b:PuE tk) (a:PuE t) (i:Nat):PuS (qjA (v3 i) tk t):=⟨λ_ ρ=>(b.f ρ).bind λk=>(asI k).bind λkk=>(a.f ρ).bind λd=>(asI d).bind λy=>qdU i kk y ρ,λ{D G0 A τ ρ G n o e} h hf k=>by
 obtain ⟨kd,e1,hf1⟩:=obb hf;obtain ⟨kk,e2,hf2⟩:=obb hf1;obtain ⟨d,e3,hf3⟩:=obb hf2;obtain ⟨y,e4,hf4⟩:=obb hf3;unfold qdU at hf4;obtain ⟨ds,e5,hf5⟩:=obb hf4;obtain ⟨j,e6,hf6⟩:=obb hf5;obtain ⟨dx,e7,hf7⟩:=obb hf6;obtain ⟨x,e8,rfl⟩:=zb5 hf7;have:=KN e2;subst this;have:=KN e4;subst this;have:=KN e8;subst this;clear hf hf1 hf2 hf3 hf4 hf5 hf6 hf7;obtain ⟨p,xs,b1,c1,g1,f1⟩:=h.ow i _ (JY e5);simp only [qjA,v3,c1];refine b.ok (h.viewAll _) h.domD e1 λz G1 E1 D1 _=>?_;cases D1;have h1:=h.up E1;obtain ⟨p',xs',b1',c1',g1',f1'⟩:=h1.ow i _ (JY e5);rw [c1] at c1';cases c1';obtain ⟨t,gt,dt⟩:=f1'.get e7;cases dt;have at':atI xs' kk=some (.int x):=by
  unfold atI;rw [f1'.length,e6];exact gt
 simp only [g1',at'];refine a.ok (h1.viewAll _) h1.domD e3 λz G2 E2 D2 _=>?_;cases D2;have h2:=h1.up E2;obtain ⟨p2,xs2,b2,c2,g2,f2⟩:=h2.ow i _ (JY e5);rw [c1] at c2;cases c2;simp only [Q5,g2,f2.length,e6];exact k _ _ _ (h2.wr b2 c1 (f2.set j (.int _)))⟩
theorem qjw {tk t:TE3} {b:PuE tk} {a:PuE t} :(qnc b a i).f=λ_ ρ=>(b.f ρ).bind λk=>(asI k).bind λkk=>(a.f ρ).bind λd=>(asI d).bind λy=>qdU i kk y ρ:=id rfl
open Bk (Lf Ext)
section
variable {l:Nat} {a0:Addr} {z0:Option (Option T)×Nat} {n:Nat} {j:Nat}
end
end Pu
namespace L3
open PySem L2
noncomputable def nmT:Expr->List Str
 |.Name x _=>[x]
 |.Tuple es _ _=>es.flatMap λe=>match e with
  |.Name x _=>[x]
  |.Tuple es _ _=>es.flatMap λe=>match e with
   |.Name x _=>[x]
   |_=>[]
  |_=>[]
 |_=>[]
def nm (N:List Str) (ts:List Expr) (m:List (Option Nat)):List Str:=ts.flatMap nmT++m.filterMap λo=>o.bind λi=>N[i]?
end L3
namespace Hd
open PySem L2 L3 PySem.W PySem.Spec PySem.Calls PyProof.Rows
class Cz (mg:outParam (Str->Option Value)) (K:outParam xh1) (h:outParam Heap):Prop where
 X:K.In h
 G:h.Ns zi2 mg
open PySem L2 L3 PySem.W PySem.Spec PySem.Calls PyProof.Rows
theorem up {P:Program} {w:World} {K:Frg} {mg:Str->Option Value} {base:Heap} {j k:Nat} {x:Str} {sp:Sp3} (F:Fn3 P w K mg base j x sp) (h:autoParam (j<=k) zA1._auto_1):Fn3 P w K mg base k x sp:=F.mono h
theorem jf2 {P:Program} {w:World} {K:Frg} {mg:Str->Option Value} {base:Heap} {x:Str} {st:Stmt} {f:Addr} {fd:FuncData} {ps N:List Str} {sp:Sp3} {t3:TS3} (k:Nat) (E:Fb K mg x st ps f fd)
  (read:∀ ts G q,sp ts G q->ts.length=ps.length/\t3 { nx:=λ_ G'=>q .non G',rt:=q } (qo N ts) G)
  (body:∀ {cdv:Value} {A:Around} {outer:List Env} {s:Shared} {H:Hp} {E:XK},N.Nodup->Room k (A.deeper (xg3 x (qz st) s.heap.objs.size f cdv)) ->
   jB3 (qas CX0 P w K mg base N x (qz st) f cdv A outer s H E).nox (zy st) t3) (S:autoParam (FnScope N ps (qz st)) zA13._auto_1):Fn3 P w K mg base (k+1) x sp:=jfE E S read λ_ _ _ _ _ _=>body S.nd
theorem jf3 {P:Program} {w:World} {K:Frg} {mg:Str->Option Value} {base:Heap} {st:Stmt} {ps N:List Str} {f:Addr} {fd:FuncData} {sp:Sp3} {t3:TS3} (k:Nat) (F:Fun K "law" "law" st f fd)
  (read:∀ ts G q,sp ts G q->ts.length=ps.length/\t3 { nx:=λ_ G'=>q .non G',rt:=q } (qo N ts) G)
  (body:∀ {cdv:Value} {A:Around} {outer:List Env} {s:Shared} {H:Hp} {E:XK},N.Nodup->Room k (A.deeper (xg3 "law" (qz st) s.heap.objs.size f cdv)) ->
   jB3 (qas CX0 P w K mg base N "law" (qz st) f cdv A outer s H E).nox (zy st) t3) (S:autoParam (FnScope N ps (qz st)) zA13._auto_1):FnOk P w K mg base CX0 (k+1) f fd ps (lSp K sp):=qer F S (λ_ _ _ _ _ _=>body S.nd) read
end Hd
namespace K54
open PySem L2 L3 Bk
noncomputable def top (i : Nat) : Stmt := PySem.Challenge.pw_bankwalk_k54_walks_in_joined_dealings.main.body.getD i (.Pass ⟨0,0,0,0⟩)
variable {P:Program} {w:World} {K:Frg} {mg:Str->Option Value} {base:Heap} {f:Addr} {fd:FuncData} {k:Nat} {sp:Sp3}
section
abbrev JN:Stmt:=top 1
noncomputable abbrev W8:List Str:=["thing"]
abbrev QV:Stmt:=top 2
noncomputable abbrev ZU:List Str:=["thing","least"]
abbrev jZ:Stmt:=top 3
noncomputable abbrev YY:List Str:=["things","least"]
abbrev DC:Stmt:=top 4
noncomputable abbrev KU:List Str:=["thing"]
abbrev QQ:Stmt:=top 5
noncomputable abbrev UG:List Str:=["things","k","l"]
abbrev YL:Stmt:=top 11
noncomputable abbrev K4:List Str:=["dealing","kind","rows","columns","banks","other_rows","other_columns","other_banks"]
noncomputable abbrev KC:List Str:=["dealing"]
def EY (k:Nat) (m6:mg "len" = none) {S9:Sp3} (V9:Fn3 P w K mg base k "size_of" S9) (E:Hd.Fb K mg "size_of" YL KC f fd) (read:Rd sp 1 (Bk.XY S9) K4):=Hd.jf2 (P:=P) (w:=w) (base:=base) k E read λnd hr=>(qg (qF 1 nd (qk (qb 0) qd)) (qg (qX (qA (qH hr.units) qy (qb 1) qG (qp _)) (qj (qm (qB (qa (M3 qd (qk (qb 0) qd)) (qa (M3 qd (qk (qb 0) qd)) (qa (M3 qd (qq qL q0 rfl m6 zb1 (qa (qk (qb 0) qd) qc))) qc)))))) qD) (qg (qX (qA (qH hr.units) qy (qb 1) qG (qp _)) (qj (qm (qB (qa (qq qL q0 rfl m6 zb1 (qa (qk (qb 0) qd) qc)) (qa (qq qL q0 rfl m6 zb1 (qa (qk (qk (qb 0) qd) qd) qc)) (qa (qk (qb 0) qd) qc)))))) qD) (qg (qX (qA (qH hr.units) qy (qb 1) qG (qp _)) (qg (zR (qh V9 hr rfl (qa (qk (qb 0) qd) qc)) (qU rfl (qi (ql (i:=2) nd) (qi (ql (i:=3) nd) (qi (ql (i:=4) nd) qV))))) (qg (zR (qh V9 hr rfl (qa (qk (qb 0) qd) qc)) (qU rfl (qi (ql (i:=5) nd) (qi (ql (i:=6) nd) (qi (ql (i:=7) nd) qV))))) (qj (qm (qB (qa (qY (qb 2) (qb 5)) (qa (qY (qb 3) (qb 6)) (qa (qY (qb 4) (qb 7)) qc)))))))) qD) (qj (qm (qB (qa (qk (qb 0) qd) (qa (qk (qb 0) qd) (qa (qk (qb 0) qd) qc))))))))))
abbrev QB:Stmt:=top 12
noncomputable abbrev WZ:List Str:=["dealing","word","rows","columns","banks"]
noncomputable abbrev XX:List Str:=["dealing","word"]
def JU (k:Nat) {S9:Sp3} (V9:Fn3 P w K mg base k "size_of" S9) (E:Hd.Fb K mg "number_of" QB XX f fd) (read:Rd sp 2 (Bk.VV S9) WZ):=Hd.jf2 (P:=P) (w:=w) (base:=base) k E read λnd hr=>(qg (zR (qh V9 hr rfl (qa (qb 0) qc)) (qU rfl (qi (ql (i:=2) nd) (qi (ql (i:=3) nd) (qi (ql (i:=4) nd) qV))))) (qj (qm (qx (qY (qk (qb 1) qd) (qb 3)) (qk (qb 1) qd)))))
abbrev U7:Stmt:=top 13
noncomputable abbrev KA:List Str:=["dealing","thing","rows","columns","banks"]
abbrev jK:Stmt:=top 14
noncomputable abbrev JX:List Str:=["number","mask","common","many"]
abbrev JG:Stmt:=top 15
noncomputable abbrev XE:List Str:=["masks","number"]
abbrev X2:Stmt:=top 16
noncomputable abbrev MP:List Str:=["word","rows","columns","i","j"]
abbrev jE:Stmt:=top 17
noncomputable abbrev UQ:List Str:=["one","other","word","rows","columns","banks","upper","lower"]
noncomputable abbrev UW:List Str:=["one","other","word"]
def QX (k:Nat) {S9:Sp3} (V9:Fn3 P w K mg base k "size_of" S9) {S14:Sp3} (V14:Fn3 P w K mg base k "parted" S14) {S15:Sp3} (V15:Fn3 P w K mg base k "bank_in" S15) (E:Hd.Fb K mg "joined_bank" jE UW f fd) (read:Rd sp 3 (Bk.ZI S9 S14 S15) UQ):=Hd.jf2 (P:=P) (w:=w) (base:=base) k E read λnd hr=>(qg (zR (qh V9 hr rfl (qa (qb 1) qc)) (qU rfl (qi (ql (i:=3) nd) (qi (ql (i:=4) nd) (qi (ql (i:=5) nd) qV))))) (qg (zR (qh V14 hr rfl (qa (qb 2) (qa (qb 3) (qa (qb 4) qc)))) (qU rfl (qi (ql (i:=6) nd) (qi (ql (i:=7) nd) qV)))) (qj (qm (qx (qY (qh V15 hr rfl (qa (qb 0) (qa (qb 6) qc))) (qb 5)) (qh V15 hr rfl (qa (qb 1) (qa (qb 7) qc))))))))
abbrev J8:Stmt:=top 18
noncomputable abbrev KB:List Str:=["dealing","word","kind"]
noncomputable abbrev TK:List Str:=["dealing","word"]
def EZ (k:Nat) {S16:Sp3} (V16:Fn3 P w K mg base k "number_of" S16) {S17:Sp3} (V17:Fn3 P w K mg base k "bits_bank" S17) {S18:Sp3} (V18:Fn3 P w K mg base k "joined_bank" S18) (E:Hd.Fb K mg "bank_in" J8 TK f fd) (read:Rd sp 2 (Bk.XV S16 S17 S18) KB):=Hd.jf2 (P:=P) (w:=w) (base:=base) k E read λnd hr=>(qg (qF 2 nd (qk (qb 0) qd)) (qg (qX (qA (qH hr.units) qy (qb 2) qG (qp _)) (qj (qm (jJ (qx (qY (qk (qb 0) qd) (qk (qb 1) qd)) (qY (qk (qb 0) qd) (qk (qb 1) qd))) (qk (qb 0) qd)))) qD) (qg (qX (qA (qH hr.units) qy (qb 2) qG (qp _)) (qj (qm (jJ (qh V16 hr rfl (qa (qb 0) (qa (qb 1) qc))) (qk (qb 0) qd)))) qD) (qg (qX (qA (qH hr.units) qy (qb 2) qG (qp _)) (qj (qm (qh V17 hr rfl (qa (qk (qb 0) qd) (qa (qh V16 hr rfl (qa (qb 0) (qa (qb 1) qc))) qc))))) qD) (qg (qX (qA (qH hr.units) qy (qb 2) qG (qp _)) (qj (qm (qk (qk (qk (qb 0) qd) (qk (qb 1) qd)) (qk (qb 1) qd)))) qD) (qj (qm (qh V18 hr rfl (qa (qk (qb 0) qd) (qa (qk (qb 0) qd) (qa (qb 1) qc)))))))))))
abbrev DA:Stmt:=top 21
noncomputable abbrev TR:List Str:=["thing"]
abbrev VW:Stmt:=top 22
noncomputable abbrev ZB:List Str:=["thing"]
abbrev EX:Stmt:=top 23
noncomputable abbrev TB:List Str:=["thing","kind"]
abbrev XO:Stmt:=top 24
noncomputable abbrev N6:List Str:=["down","along","many"]
abbrev VT:Stmt:=top 25
noncomputable abbrev qaq:List Str:=["walk","kind","down","along"]
abbrev W2:Stmt:=top 26
noncomputable abbrev qez:List Str:=["dealing","walk","rows","columns","banks","cells","downs","alongs"]
abbrev U3:Stmt:=top 27
abbrev T8:List Str:=["walk","start"]
abbrev VF:Stmt:=top 28
noncomputable abbrev RI:List Str:=["dealing","walk","thing"]
abbrev VU:Stmt:=top 29
abbrev C1:List Str:=["dealing","walk","start"]
abbrev W4:Stmt:=top 31
noncomputable abbrev qeE:List Str:=["one","other","rows","columns","pairs","walk"]
abbrev Z5:Stmt:=top 33
abbrev D6:List Str:=["dealing","walk","start"]
abbrev R4:Stmt:=top 34
abbrev qip:List Str:=["dealing","walk","start","rows","columns","banks","told","bank"]
abbrev jX:Stmt:=top 35
noncomputable abbrev YW:List Str:=["dealing","walk"]
abbrev JE:Stmt:=top 37
noncomputable abbrev W5:List Str:=["banks","lanes"]
abbrev VY:Stmt:=top 38
abbrev qar:List Str:=["dealing","walk","start","asked","rows","columns","banks"]
abbrev VJ:Stmt:=top 40
abbrev J6:List Str:=["dealing","walk","start"]
abbrev EB:Stmt:=top 42
noncomputable abbrev TU:List Str:=["_law_cell","_law_k","_law_m"]
abbrev VN:Stmt:=top 43
noncomputable abbrev RF:List Str:=["_law_script","_law_k","_law_cell","_law_own"]
abbrev VP:Stmt:=top 44
noncomputable abbrev C7:List Str:=["_law_left_here","_law_many","_law_digit"]
abbrev U9:Stmt:=top 45
noncomputable abbrev XW:List Str:=["_law_one","_law_other"]
abbrev JM:Stmt:=top 46
noncomputable abbrev MH:List Str:=["_law_left_here","_law_rows","_law_columns","_law_banks","_law_way","_law_high","_law_low","_law_masks","_law_wide","_law_places","_law_turn","_law_cells_here"]
abbrev ZQ:Stmt:=top 47
noncomputable abbrev qaz:List Str:=["_law_dealing","_law_two","_law_one","_law_other"]
noncomputable abbrev RD:List Str:=["_law_dealing"]
def EK (S44:Sp3):TS3:=(qS (zD (tb3 (o3 (in3 false) (o3 ix3 (v3 0) (c3 (.int 0))) (jv (qe (c3 (.str "skew")) (qe (c3 (.str "rests")) qw))))) (zg (YS (v3 0) (sp3 (c3 (.int 1))) (sp3 (c3 (.int 4))))) qE) (qS (zD (tb3 (o3 (zo false) (o3 ix3 (v3 0) (c3 (.int 0))) (c3 (.str "bits")))) (qS (zl (ZD (qe (c3 (.int 1)) (qe (c3 (.int 2)) (qe (c3 (.int 4)) (qe (c3 (.int 8)) (qe (c3 (.int 16)) (qe (c3 (.int 32)) qw))))))) (gn3 1)) (zg (jv (qe (o3 ix3 (v3 1) (o3 ix3 (v3 0) (c3 (.int 1)))) (qe (o3 ix3 (v3 1) (o3 ix3 (v3 0) (c3 (.int 2)))) (qe (o3 ix3 (v3 1) (cb3 jV (qe (o3 ix3 (v3 0) (c3 (.int 3))) qw))) qw)))))) qE) (qS (zD (tb3 (o3 (zo false) (o3 ix3 (v3 0) (c3 (.int 0))) (c3 (.str "table")))) (zg (jv (qe (cb3 jV (qe (o3 ix3 (v3 0) (c3 (.int 2))) qw)) (qe (cb3 jV (qe (o3 ix3 (o3 ix3 (v3 0) (c3 (.int 2))) (c3 (.int 0))) qw)) (qe (o3 ix3 (v3 0) (c3 (.int 1))) qw))))) qE) (qS (JC 2 3 (qe (cb3 S44 (qe (o3 ix3 (v3 0) (c3 (.int 1))) qw)) (qe (cb3 S44 (qe (o3 ix3 (v3 0) (c3 (.int 2))) qw)) qw))) (zg (cb3 qM (qe (lc3 (qbH (qe (v3 2) (qe (v3 3) qw))) (zd 2 (qr (gn3 0) (qr (gn3 1) za))) tt3 (o3 (iC j9 (·*·)) (v3 0) (v3 1)) [none,none]) qw)))))))
def VO (k:Nat) (m6:mg "len" = none) (m7:mg "tuple" = none) {S44:Sp3} (V44:Fn3 P w K mg base k "_law_size" S44) (m45:mg "zip" = none) (E:Hd.Fb K mg "_law_size" ZQ RD f fd) (read:Rd sp 1 (EK S44) qaz):=Hd.jf2 (P:=P) (w:=w) (base:=base) k E read λnd hr=>(qg (qX (qA qdg qe3 (qk (qb 0) qd) (qB (qa qG (qa qG qc))) (by with_unfolding_all rfl)) (qj (qm (WM (qb 0) (U8 qd) (U8 qd)))) qD) (qg (qX (qA (qH hr.units) qy (qk (qb 0) qd) qG (qp _)) (qg (qF 1 nd (jm (qa qd (qa qd (qa qd (qa qd (qa qd (qa qd qc)))))))) (qj (qm (qB (qa (qk (qb 1) (qk (qb 0) qd)) (qa (qk (qb 1) (qk (qb 0) qd)) (qa (qk (qb 1) (qq qL q0 rfl m6 zb1 (qa (qk (qb 0) qd) qc))) qc))))))) qD) (qg (qX (qA (qH hr.units) qy (qk (qb 0) qd) qG (qp _)) (qj (qm (qB (qa (qq qL q0 rfl m6 zb1 (qa (qk (qb 0) qd) qc)) (qa (qq qL q0 rfl m6 zb1 (qa (qk (qk (qb 0) qd) qd) qc)) (qa (qk (qb 0) qd) qc)))))) qD) (qg (CO (i:=2) (j:=3) rfl nd rfl rfl (by decide) rfl rfl (qa (qh V44 hr rfl (qa (qk (qb 0) qd) qc)) (qa (qh V44 hr rfl (qa (qk (qb 0) qd) qc)) qc))) (qj (qm (zL zb jg rfl m7 zb2 (qa (jH ["_law_x","_law_y"] [none,none] rfl (qgd rfl m45 (qa (qb 2) (qa (qb 3) qc))) (λ_ _ _=>(qU rfl (qi (jgn 0) (qi (jgn 1) qV)))) (λ_ _ _=>qZ) (λ_ _ _=>(qY (qb 0) (qb 1)))) qc))))))))
abbrev EF:Stmt:=top 48
noncomputable abbrev KZ:List Str:=["_law_number","_law_found","_law_t"]
abbrev ZG:Stmt:=top 49
noncomputable abbrev qaL:List Str:=["_law_dealing","_law_i","_law_j","_law_rows","_law_columns","_law_banks","_law_some","_law_high","_law_wide","_law_more"]
noncomputable abbrev CM:List Str:=["_law_dealing","_law_i","_law_j"]
def VR (k:Nat) (m12:mg "enumerate" = none) (m13:mg "sum" = none) {S44:Sp3} (V44:Fn3 P w K mg base k "_law_size" S44) {S46:Sp3} (V46:Fn3 P w K mg base k "_law_odd" S46) {S47:Sp3} (V47:Fn3 P w K mg base k "_law_bank" S47) (E:Hd.Fb K mg "_law_bank" ZG CM f fd) (read:Rd sp 3 (Bk.E9 S44 S46 S47) qaL):=Hd.jf2 (P:=P) (w:=w) (base:=base) k E read λnd hr=>(qg (zR (qh V44 hr rfl (qa (qb 0) qc)) (qU rfl (qi (ql (i:=3) nd) (qi (ql (i:=4) nd) (qi (ql (i:=5) nd) qV))))) (qg (qX (qA (qH hr.units) qy (qk (qb 0) qd) qG (qp _)) (qj (qm (jJ (qx (qY (qk (qb 0) qd) (qb 1)) (qY (qk (qb 0) qd) (qb 2))) (qb 5)))) qD) (qg (qX (qA (qH hr.units) qy (qk (qb 0) qd) qG (qp _)) (qj (qm (jJ (qx (qY (qb 1) (qb 4)) (qb 2)) (qb 5)))) qD) (qg (qX (qA (qH hr.units) qy (qk (qb 0) qd) qG (qp _)) (qg (jO 6 ["_law_t","_law_mask","_law_j","_law_i","_law_columns"] [none,none,some 2,some 1,some 4] rfl nd (RX rfl m12 (qa (qk (qb 0) qd) qc)) (λ_ _ _=>(qU rfl (qi (jgn 0) (qi (jgn 1) qV)))) (λ_ _ _=>DT (jh (qh V46 hr rfl (qa (R9 (qx (qY (qb 3) (qb 4)) (qb 2)) (qb 1)) qc)))) (λ_ _ _=>(qk (jm (qa qd (qa qd (qa qd (qa qd (qa qd qc)))))) (qb 0)))) (qj (qm (qq (UD rfl) qa2 rfl m13 PyProof.Rows.boot_sum (qa (qb 6) qc))))) qD) (qg (qX (qA (qH hr.units) qy (qk (qb 0) qd) qG (qp _)) (qj (qm (qk (qk (qk (qb 0) qd) (qb 1)) (qb 2)))) qD) (qg (zR (qh V44 hr rfl (qa (qk (qb 0) qd) qc)) (qU rfl (qi (ql (i:=7) nd) (qi (ql (i:=8) nd) (qi (ql (i:=9) nd) qV))))) (qj (qm (qx (qY (qh V47 hr rfl (qa (qk (qb 0) qd) (qa (DS (qb 1) (qb 7)) (qa (DS (qb 2) (qb 8)) qc)))) (qb 9)) (qh V47 hr rfl (qa (qk (qb 0) qd) (qa (jJ (qb 1) (qb 7)) (qa (jJ (qb 2) (qb 8)) qc)))))))))))))
abbrev JL:Stmt:=top 50
noncomputable abbrev MA:List Str:=["_law_walk","_law_found","_law_p","_law_down","_law_along"]
abbrev ZH:Stmt:=top 51
noncomputable abbrev TQ:List Str:=["_law_dealing","_law_walk","_law_rows","_law_columns","_law_banks","_law_cells_here","_law_downs","_law_alongs","_law_found","_law_i"]
abbrev VZ:Stmt:=top 52
noncomputable abbrev CZ:List Str:=["_law_dealing","_law_walk","_law_start"]
abbrev ZV:Stmt:=top 53
noncomputable abbrev EM:List Str:=["_law_found","_law_due"]
def ZZ (k:Nat) (m0:mg "isinstance" = none) (m1:mg "bool" = none) (m2:mg "int" = none) (m5:mg "all" = none) (m6:mg "len" = none) (m7:mg "tuple" = none) (m23:mg "str" = none) (m26:mg "list" = none) (m45:mg "zip" = none) {S49:Sp3} (V49:Fn3 P w K mg base k "_law_same" S49) (E:Hd.Fb K mg "_law_same" ZV EM f fd) (read:Rd sp 2 (Bk.CK S49) EM):=Hd.jf2 (P:=P) (w:=w) (base:=base) k E read λnd hr=>(qg (qX (jh (qcw (qb 1) rfl m0 rfl m26 zb4 rfl m7 zb2)) (qg (qX (jpt (SX (qA (Z7 hr.units) jL (QF (qb 0) rfl m0 rfl m26 zb4) (QF (qb 1) rfl m0 rfl m26 zb4) (qp _)) (CU (qA (Z7 hr.units) jL (QF (qb 0) rfl m0 rfl m7 zb2) (QF (qb 1) rfl m0 rfl m7 zb2) (qp _))))) (qj (qm VM)) qD) (qj (qm (jI (zA (qH hr.units) qy (qq qL q0 rfl m6 zb1 (qa (qb 0) qc)) (qq qL q0 rfl m6 zb1 (qa (qb 1) qc)) (qp _)) (QE (qq (jF rfl) SJ rfl m5 xd1 (qa (jH ["_law_one","_law_other"] [none,none] rfl (qgd rfl m45 (qa (qb 0) (qa (qb 1) qc))) (λ_ _ _=>(qU rfl (qi (jgn 0) (qi (jgn 1) qV)))) (λ_ _ _=>qZ) (λ_ _ _=>(qh V49 hr rfl (qa (qb 0) (qa (qb 1) qc))))) qc))))))) qD) (qg (qX (jpt (SX (qA TV XH (qb 1) DZ (qp _)) (CU (jh (qcw (qb 1) rfl m0 rfl m23 PyProof.Rows.boot_str rfl m1 zp1))))) (qj (qm (jI (zA (qH hr.units) qy (qb 0) (qb 1) (qp _)) (jI (zA (qH hr.units) qy (QF (qb 0) rfl m0 rfl m1 zp1) (QF (qb 1) rfl m0 rfl m1 zp1) (qp _)) (QE (zA (qH hr.units) qy (zA TV XH (qb 0) DZ (qp _)) (zA TV XH (qb 1) DZ (qp _)) (qp _))))))) qD) (qj (qm (jI (QF (qb 0) rfl m0 rfl m2 PyProof.Rows.boot_int) (jI (qgt (QF (qb 0) rfl m0 rfl m1 zp1)) (QE (zA (qH hr.units) qy (qb 0) (qb 1) (qp _)))))))))
abbrev J1:Stmt:=top 54
noncomputable abbrev LY:List Str:=["_law_left_here","_law_way","_law_many","_law_pairs"]
abbrev ZX:Stmt:=top 55
noncomputable abbrev KJ:List Str:=["_law_left_here","_law_rows","_law_columns","_law_banks","_law_cells_here"]
abbrev VL:Stmt:=top 56
noncomputable abbrev qaN:List Str:=["_law_left_here","_law_dealing","_law_some","_law_good"]
abbrev jw:Stmt:=top 57
noncomputable abbrev Z8:List Str:=["_law_dealing","_law_walk","_law_start","_law_told"]
abbrev ZS:Stmt:=top 58
noncomputable abbrev KS:List Str:=["_law_left_here","_law_dealing","_law_walk","_law_some","_law_good","_law_turn"]
abbrev JJ:Stmt:=top 59
noncomputable abbrev MK:List Str:=["_law_dealing","_law_walks","_law_whole","_law_start","_law_other","_law_high","_law_wide","_law_more","_law_both","_law_told","_law_due","_law_p","_law_q","_law_r","_law_t","_law_first","_law_second","_law_load","_law_one"]
abbrev V7:Stmt:=top 60
noncomputable abbrev qqA:List Str:=["_law_script","_law_k","_law_left_here","_law_twice","_law_dealing","_law_walks","_law_inner","_law_high","_law_wide","_law_more","_law_some","_law_whole","_law_start","_law_other","_law_both","_law_good"]
end
end K54
namespace K54
open PySem L2 L3 Pu
def Z4:=((Q0 (UT (qjs (λt=>zY t "int") (bV 0)) (qns (qjs (λt=>zY t "bool") (bV 0))))):PuS _)
def z9:List PyData->Option PyData:=Pu.run Z4.f 1 1 1000000000 false
variable {x0:PyData}
theorem KY:z9 [x0]=Z6 false (Z4.f 1000000000 [.sh x0]):=id rfl
def UV:=((Q0 (UT (qt (qR z9 false) (qf (bV 0) qu)) (bO (opB λi j=>decide (j<=i)) (bV 0) (bV 1)))):PuS _)
def ZF:List PyData->Option PyData:=Pu.run UV.f 2 2 1000000000 false
def YX:=((Q0 (qt qpB (qf (bLc (WE (bV 0)) (gN 0) bTt (qt (qR ZF false) (qf (bV 0) (qf (bV 1) qu))) [none,some 1] ⟨rfl⟩) qu))):PuS _)
def CC:List PyData->Option PyData:=Pu.run YX.f 2 2 1000000000 false
def UI:=((Q0 (UT (qjs (λt=>zY t "tuple") (bV 0)) (UT (bO (YG false) (qt LW (qf (bV 0) qu)) (qC 2)) (UT (qt (qR z9 false) (qf (bO zi (bV 0) (qC 0)) qu)) (qt (qR z9 false) (qf (bO zi (bV 0) (qC 1)) qu)))))):PuS _)
def J2:List PyData->Option PyData:=Pu.run UI.f 1 1 1000000000 false
theorem qah:J2 [x0]=Z6 false (UI.f 1000000000 [.sh x0]):=id rfl
def jY:=((ju (sIf (MT (bTb (qt (qR J2 false) (qf (bV 1) qu)))) (Q0 (bBl false)) QS) (ju (RU (qt (fSz 2) (qf (bV 0) qu)) (DQ 3 (qQ (gN 2) (qQ (gN 3) (qQ (gN 4) DK)))) [true] ⟨rfl⟩) (Q0 (UT (bCh (opB λi j=>decide (i<=j)) (opB λi j=>decide (i<j)) (qC 0) (bO zi (bV 1) (qC 0)) (bV 2)) (bCh (opB λi j=>decide (i<=j)) (opB λi j=>decide (i<j)) (qC 0) (bO zi (bV 1) (qC 1)) (bV 3)))))):PuS _)
def XZ:List PyData->Option PyData:=Pu.run jY.f 2 5 1000000000 false
variable {x1:PyData}
theorem qap:XZ [x0,x1]=Z6 false (jY.f 1000000000 [.sh x0,.sh x1,.un,.un,.un]):=id rfl
def K2:=((ju (sIf (bOr (bTb (bO (YG true) (qt LW (qf (bV 0) qu)) (qC 4))) (bOr (MT (bTb (qt (qR z9 false) (qf (bO zi (bV 0) (qC 1)) qu)))) (MT (bTb (qt (qR z9 false) (qf (bO zi (bV 0) (qC 2)) qu)))))) (Q0 (bBl false)) QS) (Q0 (UT (qrP (bO (YG true) (bO zi (bV 0) (qC 1)) (qC 0)) (bO (YG true) (bO zi (bV 0) (qC 2)) (qC 0))) (qt (qR ZF false) (qf (bO zi (bV 0) (qC 3)) (qf (qC 1) qu)))))):PuS _)
def qcr:List PyData->Option PyData:=Pu.run K2.f 1 1 1000000000 false
def YM:=((ju (sIf (bOr (bTb (bO (YG true) (qt LW (qf (bV 0) qu)) (qC 2))) (bOr (MT (bTb (qjs (λt=>zY t "tuple") (bO zi (bV 0) (qC 1))))) (bTb (bO (YG false) (qt LW (qf (bO zi (bV 0) (qC 1)) qu)) (qC 0))))) (Q0 (bBl false)) QS) (ju (sIf (MT (bTb (qt qpB (qf (bLc (WE (bO zi (bV 0) (qC 1))) (gN 0) bTt (qt (qR J2 false) (qf (bV 0) qu)) [none] ⟨rfl⟩) qu)))) (Q0 (bBl false)) QS) (Q0 (bO (YG false) (qhw (bO zi (bV 0) (qC 1))) (qt LW (qf (bO zi (bV 0) (qC 1)) qu)))))):PuS _)
def ED:List PyData->Option PyData:=Pu.run YM.f 1 1 1000000000 false
theorem LX:ED [x0]=Z6 false (YM.f 1000000000 [.sh x0]):=id rfl
def UO:=((ju (sIf (bOr (MT (bTb (qjs (λt=>zY t "tuple") (bV 0)))) (bOr (bTb (bO (YG false) (qt LW (qf (bV 0) qu)) (qC 0))) (MT (bTb (qjs (λt=>zY t "str") (bO zi (bV 0) (qC 0))))))) (Q0 (bBl false)) QS) (ju (X7 (bO zi (bV 0) (qC 0)) 1 [true] ⟨rfl⟩) (ju (sIf (bTb (qrg YI (bV 1))) (Q0 (UT (bO (YG false) (qt LW (qf (bV 0) qu)) (qC 2)) (qt (qR ZF false) (qf (bO zi (bV 0) (qC 1)) (qf (qC 1) qu))))) QS) (ju (sIf (bTb (bO (YG false) (bV 1) (V8 "block"))) (Q0 (UT (bO (YG false) (qt LW (qf (bV 0) qu)) (qC 3)) (qt (qR CC false) (qf (bSl (bV 0) (bSp (qC 1)) bNp) (qf (qC 1) qu))))) QS) (ju (sIf (bTb (bO (YG false) (bV 1) (V8 "step"))) (Q0 (qt (qR qcr false) (qf (bV 0) qu))) QS) (Q0 (UT (bO (YG false) (bV 1) (V8 "cells")) (qt (qR ED false) (qf (bV 0) qu))))))))):PuS _)
def X0:List PyData->Option PyData:=Pu.run UO.f 1 2 1000000000 false
theorem qan:X0 [x0]=Z6 false (UO.f 1000000000 [.sh x0,.un]):=id rfl
def WK:=((ju (RU (qt (fSz 2) (qf (bV 0) qu)) (DQ 3 (qQ (gN 2) (qQ (gN 3) (qQ (gN 4) DK)))) [true] ⟨rfl⟩) (ju (X7 (qt (qR Pv.je true) (qf (bV 1) qu)) 5 [false,true] ⟨rfl⟩) (ju (X7 (bLc (WE (bV 5)) (DQ 2 (qQ (gN 0) (qQ (gN 1) DK))) bTt (bV 0) [none,none] ⟨rfl⟩) 6 [false,false,false,false,false,true] ⟨rfl⟩) (ju (X7 (bLc (WE (bV 5)) (DQ 2 (qQ (gN 0) (qQ (gN 1) DK))) bTt (bV 1) [none,none] ⟨rfl⟩) 7 [false,false,false,false,false,true] ⟨rfl⟩) (Q0 (qmr (X9 (qf (qiK (qt qcz (qf (bV 6) qu))) (qf (bO (opI (·-·)) (bV 2) (qt K0 (qf (bV 6) qu))) qu))) (gN 0) bTt (X9 (qf (qiK (qt qcz (qf (bV 3) qu))) (qf (bO (opI (·-·)) (bV 2) (qt K0 (qf (bV 3) qu))) qu))) (gN 1) bTt (YR (qf (bV 0) (qf (bV 1) qu)) ⟨rfl⟩) [none,none,some 3,some 7] ⟨rfl⟩ ⟨rfl⟩ ⟨rfl⟩)))))):PuS _)
def SL:List PyData->Option PyData:=Pu.run WK.f 2 8 1000000000 true
theorem qb2:SL [x0,x1]=Z6 true (WK.f 1000000000 [.sh x0,.sh x1,.un,.un,.un,.un,.un,.un]):=id rfl
def UY:=((Q0 (bLc (WE (qt (qR Pv.je true) (qf (bV 0) qu))) (DQ 2 (qQ (gN 0) (qQ (gN 1) DK))) bTt (YR (qf (bO jy (bO zi (bV 2) (qC 0)) (bV 0)) (qf (bO jy (bO zi (bV 2) (qC 1)) (bV 1)) qu)) ⟨rfl⟩) [none,none,some 1] ⟨rfl⟩)):PuS _)
def US:List PyData->Option PyData:=Pu.run UY.f 2 2 1000000000 true
theorem qav:US [x0,x1]=Z6 true (UY.f 1000000000 [.sh x0,.sh x1]):=id rfl
def YC:=((Q0 (UT (qt (qR J2 false) (qf (bV 2) qu)) (qt qpB (qf (bLc (WE (qt (qR US true) (qf (bV 1) (qf (bV 2) qu)))) (gN 0) bTt (qt (qR XZ false) (qf (bV 1) (qf (bV 0) qu))) [none,some 0] ⟨rfl⟩) qu)))):PuS _)
def ER:List PyData->Option PyData:=Pu.run YC.f 3 3 1000000000 false
variable {x2:PyData}
theorem LF:ER [x0,x1,x2]=Z6 false (YC.f 1000000000 [.sh x0,.sh x1,.sh x2]):=id rfl
def YO:=((ju (sIf (MT (bTb (qt (qR ER false) (qf (bV 0) (qf (bV 1) (qf (bV 2) qu)))))) qrf QS) (Q0 (qt (qR US true) (qf (bV 1) (qf (bV 2) qu))))):PuS _)
def J5:List PyData->Option PyData:=Pu.run YO.f 3 3 1000000000 true
theorem L0:J5 [x0,x1,x2]=Z6 true (YO.f 1000000000 [.sh x0,.sh x1,.sh x2]):=id rfl
def WG:=((ju (X7 (qmr (WE (qt (qR Pv.je true) (qf (bV 0) qu))) (DQ 2 (qQ (gN 0) (qQ (gN 1) DK))) bTt (WE (qt (qR Pv.je true) (qf (bV 4) qu))) (DQ 2 (qQ (gN 2) (qQ (gN 3) DK))) bTt (YR (qf (bO jy (bO (opC j9 (·*·)) (bV 0) (bV 5)) (bV 2)) (qf (bO jy (bO (opC j9 (·*·)) (bV 1) (bV 6)) (bV 3)) qu)) ⟨rfl⟩) [none,none,none,none,some 1,some 2,some 3] ⟨rfl⟩ ⟨rfl⟩ ⟨rfl⟩) 4 [true,true,true,true] ⟨rfl⟩) (ju (X7 (YR (qf (V8 "cells") (qf (qt qiE (qf (bV 4) qu)) qu)) ⟨rfl⟩) 5 [false,false,false,false,true] ⟨rfl⟩) (ju (sIf (MT (bTb (qt (qR X0 false) (qf (bV 5) qu)))) qrf QS) (qau 5)))):PuS _)
def WP:List PyData->Option PyData:=Pu.run WG.f 4 6 1000000000 false
theorem qb0 {x3:PyData}:WP [x0,x1,x2,x3]=Z6 false (WG.f 1000000000 [.sh x0,.sh x1,.sh x2,.sh x3,.un,.un]):=id rfl
def QJ:=((Q0 (bLc (WE (qt (qR J5 true) (qf (bV 0) (qf (bV 1) (qf (bV 2) qu))))) (gN 0) bTt (qt (fBi 2) (qf (bV 1) (qf (bV 0) qu))) [none,some 0] ⟨rfl⟩)):PuS _)
def jf:List PyData->Option PyData:=Pu.run QJ.f 3 3 1000000000 true
theorem SS:jf [x0,x1,x2]=Z6 true (QJ.f 1000000000 [.sh x0,.sh x1,.sh x2]):=id rfl
def RK:=((ju (RU (qt (fSz 2) (qf (bV 0) qu)) (DQ 3 (qQ (gN 3) (qQ (gN 4) (qQ (gN 5) DK)))) [true] ⟨rfl⟩) (ju (X7 (bLc (X9 (qf (bV 5) qu)) (gN 0) bTt (qC 0) [none] ⟨rfl⟩) 6 [false,false,false,false,false,true] ⟨rfl⟩) (ju (qdZ (WE (qt (qR jf true) (qf (bV 0) (qf (bV 1) (qf (bV 2) qu))))) (gN 7) (qnc (bV 7) (qC 1) 6) [true,true,true] ⟨rfl⟩) (qau 6)))):PuS _)
def ES:List PyData->Option PyData:=Pu.run RK.f 3 8 1000000000 true
theorem qeS:ES [x0,x1,x2]=Z6 true (RK.f 1000000000 [.sh x0,.sh x1,.sh x2,.un,.un,.un,.un,.un]):=id rfl
def jG:=((Q0 (bLc (WE (qt (qR SL true) (qf (bV 0) (qf (bV 1) qu)))) (gN 0) (bTb (bO (qd7 false) (qt (qR Pv.zz false) (qf (qt (qR jf true) (qf (bV 1) (qf (bV 2) (qf (bV 0) qu)))) qu)) qiW)) (bV 0) [none,some 0,some 1] ⟨rfl⟩)):PuS _)
def QT:List PyData->Option PyData:=Pu.run jG.f 2 2 1000000000 true
theorem XT:QT [x0,x1]=Z6 true (jG.f 1000000000 [.sh x0,.sh x1]):=id rfl
def ZL:=((ju (X7 (qC 2) 1 [] ⟨rfl⟩) (ju (sWh (bTb (bO (opB λi j=>decide (i<j)) (bV 1) (bV 0))) (X7 (bO (opC j9 (·*·)) (bV 1) (qC 2)) 1 [false,true] ⟨rfl⟩)) (qau 1))):PuS _)
def VX:List PyData->Option PyData:=Pu.run ZL.f 1 2 1000000000 false
theorem KI:VX [x0]=Z6 false (ZL.f 1000000000 [.sh x0,.un]):=id rfl
def Q9:=((ju (X7 (qt (qR jf true) (qf (bV 0) (qf (bV 1) (qf (bV 2) qu)))) 3 [true,true,true] ⟨rfl⟩) (ju (sIf (bTb (bO (qd7 true) (qt (qR Pv.zz false) (qf (bV 3) qu)) qiW)) (Q0 qiW) QS) (ju (RU (qt (fSz 2) (qf (bV 0) qu)) (DQ 3 (qQ (gN 4) (qQ (gN 5) (qQ (gN 6) DK)))) [true] ⟨rfl⟩) (Q0 (qt qiE (qf (bO qf2 (bV 3) (bLc (X9 (qf (qt (qR VX false) (qf (bV 6) qu)) qu)) (gN 0) (bTb (bO (qry true) (bV 0) (bV 1))) (bV 0) [none,some 3] ⟨rfl⟩)) qu)))))):PuS _)
def EN:List PyData->Option PyData:=Pu.run Q9.f 3 7 1000000000 false
theorem MG:EN [x0,x1,x2]=Z6 false (Q9.f 1000000000 [.sh x0,.sh x1,.sh x2,.un,.un,.un,.un]):=id rfl
def J3:=((Q0 (bO (opI (·-·)) (qt K0 (qf (qt (qR ES true) (qf (bV 0) (qf (bV 1) (qf (bV 2) qu)))) qu)) (qC 1))):PuS _)
def EQ:List PyData->Option PyData:=Pu.run J3.f 3 3 1000000000 false
theorem MM:EQ [x0,x1,x2]=Z6 false (J3.f 1000000000 [.sh x0,.sh x1,.sh x2]):=id rfl
def zP:=((ju (sIf (bTb (bO (YG false) (bO zi (bV 0) (qC 0)) (V8 "cells"))) (Q0 (qt qpD (qf (bO zi (bV 0) (qC 1)) qu))) QS) (ju (sIf (bTb (bO (YG false) (bO zi (bV 0) (qC 0)) (V8 "block"))) (ju (X7 (NO qu ⟨rfl⟩) 1 [] ⟨rfl⟩) (ju (qdZ (X9 (qf (bO zi (bV 0) (qC 1)) qu)) (gN 2) (qpo (bLc (X9 (qf (bO zi (bV 0) (qC 2)) qu)) (gN 0) bTt (YR (qf (bV 1) (qf (bV 0) qu)) ⟨rfl⟩) [none,some 2] ⟨rfl⟩) 1 [true,false,true] ⟨rfl⟩) [true] ⟨rfl⟩) (qau 1))) QS) (ju (RU (qoe ["row","column","slant","back","step"] (qf (YR (qf (qC 0) (qf (qC 1) qu)) ⟨rfl⟩) (qf (YR (qf (qC 1) (qf (qC 0) qu)) ⟨rfl⟩) (qf (YR (qf (qC 1) (qf (qC 1) qu)) ⟨rfl⟩) (qf (YR (qf (qC 1) (qf (qiK (qC 1)) qu)) ⟨rfl⟩) (qf (bSl (bV 0) (bSp (qC 1)) (bSp (qC 3))) qu))))) (bO zi (bV 0) (qC 0))) (DQ 2 (qQ (gN 3) (qQ (gN 4) DK))) [true] ⟨rfl⟩) (Q0 (bLc (X9 (qf (bO zi (bV 0) (qiK (qC 1))) qu)) (gN 0) bTt (YR (qf (bO (opC j9 (·*·)) (bV 0) (bV 1)) (qf (bO (opC j9 (·*·)) (bV 0) (bV 2)) qu)) ⟨rfl⟩) [none,some 3,some 4] ⟨rfl⟩))))):PuS _)
def jx:List PyData->Option PyData:=Pu.run zP.f 1 5 1000000000 true
theorem TH:jx [x0]=Z6 true (zP.f 1000000000 [.sh x0,.un,.un,.un,.un]):=id rfl
def QI:=((ju (RU (qt (qkP 2) (qf (bV 0) qu)) (DQ 3 (qQ (gN 2) (qQ (gN 3) (qQ (gN 4) DK)))) [true] ⟨rfl⟩) (ju (X7 (qt (qR jx true) (qf (bV 1) qu)) 5 [false,true] ⟨rfl⟩) (ju (qqG (qf (bLc (WE (bV 5)) (DQ 2 (qQ (gN 0) (qQ (gN 1) DK))) bTt (bV 0) [none,none] ⟨rfl⟩) (qf (bLc (WE (bV 5)) (DQ 2 (qQ (gN 0) (qQ (gN 1) DK))) bTt (bV 1) [none,none] ⟨rfl⟩) qu)) 6 7 [false,false,false,false,false,true] ⟨rfl⟩) (ju (X7 (NO qu ⟨rfl⟩) 8 [] ⟨rfl⟩) (ju (qdZ (X9 (qf (qiK (qt qcz (qf (bV 6) qu))) (qf (bO (opI (·-·)) (bV 2) (qt K0 (qf (bV 6) qu))) qu))) (gN 9) (qpo (bLc (X9 (qf (qiK (qt qcz (qf (bV 7) qu))) (qf (bO (opI (·-·)) (bV 3) (qt K0 (qf (bV 7) qu))) qu))) (gN 0) bTt (YR (qf (bV 1) (qf (bV 0) qu)) ⟨rfl⟩) [none,some 9] ⟨rfl⟩) 8 [false,false,false,true,false,false,false,true,false,true] ⟨rfl⟩) [false,false,true,false,false,false,true] ⟨rfl⟩) (qau 8)))))):PuS _)
def QK:List PyData->Option PyData:=Pu.run QI.f 2 10 1000000000 true
theorem RN:QK [x0,x1]=Z6 true (QI.f 1000000000 [.sh x0,.sh x1,.un,.un,.un,.un,.un,.un,.un,.un]):=id rfl
def YF:=((Q0 (bLc (WE (qt (qR jx true) (qf (bV 1) qu))) (DQ 2 (qQ (gN 0) (qQ (gN 1) DK))) bTt (qt (qrJ 2) (qf (bV 2) (qf (bO jy (bO zi (bV 3) (qC 0)) (bV 0)) (qf (bO jy (bO zi (bV 3) (qC 1)) (bV 1)) qu)))) [none,none,some 0,some 2] ⟨rfl⟩)):PuS _)
def ET:List PyData->Option PyData:=Pu.run YF.f 3 3 1000000000 true
theorem MN:ET [x0,x1,x2]=Z6 true (YF.f 1000000000 [.sh x0,.sh x1,.sh x2]):=id rfl
def QR:=((qdY (zT (eO (opI (·-·)) (eDr ZM (aOf (qf (qC 4) qu))) (eOf (qC 1))) (zT (eO (opI (·-·)) (eDr ZM (aOf (qf (qC 4) qu))) (eOf (qC 1))) (aOf qu))) ⟨rfl⟩):PwE 1 _)
def ZP:=((V2 (qq7 (zT (eDr ZM (aOf (qf (qC 7) qu))) (zT (eO jy (eOf (qC 1)) (eDr ZM (aOf (qf (qC 3) qu)))) (aOf qu))) 1 2 [] ⟨rfl⟩ ⟨rfl⟩) (V2 (wIf (cOf (bTb (bO (opB λi j=>decide (i<j)) (bV 1) (qC 4)))) (qcM (eOf (YR (qf (bO zi (NO (qf (V8 "row") (qf (V8 "column") (qf (V8 "slant") (qf (V8 "back") qu)))) ⟨rfl⟩) (bV 1)) (qf (bV 2) qu)) ⟨rfl⟩))) S5) (V2 (wIf (cOf (bTb (bO (YG false) (bV 1) (qC 4)))) (qcM (qdY (zT (eOf (V8 "block")) (zT (eOf (bV 2)) (zT (eO jy (eOf (qC 1)) (eDr ZM (aOf (qf (qC 3) qu)))) (aOf qu)))) ⟨rfl⟩)) S5) (V2 (wIf (cOf (bTb (bO (YG false) (bV 1) (qC 5)))) (qcM (qdY (zT (eOf (V8 "step")) (zT (eDr ZM (aOf (qf (qC 2) qu))) (zT (eO jy (eOf (qC 1)) (eDr ZM (aOf (qf (qC 2) qu)))) (aOf (qf (bV 2) qu))))) ⟨rfl⟩)) S5) (V2 (S8 (eLc 1 (iOf (X9 (qf (bV 2) qu))) (gN 0) (cOf bTt) QR [none,some 0] ⟨rfl⟩ ⟨rfl⟩) 3 [false,false,true] ⟨rfl⟩ ⟨rfl⟩) (qcM (eOf (YR (qf (V8 "cells") (qf (qt qiE (qf (bLc (qjW (qf (bV 3) qu)) (DQ 2 (qQ (gN 0) (qQ (gN 1) DK))) (bTb (bO (qi8 true) (bV 1) (bSl (bV 2) bNp (bSp (bV 0))))) (bV 1) [none,none,some 3] ⟨rfl⟩) qu)) qu)) ⟨rfl⟩)))))))):PwS 0 _)
def ZN:Wm:=qkg ZP 1 4 false
variable {n:Nat}
theorem TN {Q:QD}:ZN.W [] n Q=(0+1=1/\ZP.w [.un,.un,.un,.un] n (qj2 false Q)):=id rfl
def j8:=((eDr ZM (aOf (qf (bV 2) qu))):PwE 1 _)
def j6:=((qiY qiE (zT (eLc 1 (iOf (X9 (qf (bV 3) qu))) (gN 0) (cOf bTt) j8 [none,some 1,some 2] ⟨rfl⟩ ⟨rfl⟩) (aOf qu))):PwE 1 _)
def QG:=((V2 (qej (qdY (zT (eO jy (eOf (qC 1)) (eDr ZM (aOf (qf (qC 2) qu)))) (zT (eO jy (eOf (qC 1)) (eDr ZM (aOf (qf (qC 2) qu)))) (zT (eO jy (eOf (qC 1)) (eDr ZM (aOf (qf (qC 2) qu)))) (aOf qu)))) ⟨rfl⟩) (DQ 3 (qQ (gN 1) (qQ (gN 2) (qQ (gN 3) DK)))) [] ⟨rfl⟩ ⟨rfl⟩) (V2 (wIf (cTb (eO (YG false) (eDr ZM (aOf (qf (qC 2) qu))) (eOf (qC 0)))) (qcM (qdY (zT (eOf (V8 "skew")) (zT (eOf (bV 1)) (zT (eOf (bV 2)) (zT (eOf (bV 3)) (zT (eDr ZM (aOf (qf (qC 3) qu))) (zT (eDr ZM (aOf (qf (qC 3) qu))) (aOf qu))))))) ⟨rfl⟩)) S5) (V2 (S8 (eLc 1 (iOf (X9 (qf (bV 1) qu))) (gN 0) (cOf bTt) j6 [none,some 0,some 3,some 2] ⟨rfl⟩ ⟨rfl⟩) 4 [false,true,true,true] ⟨rfl⟩ ⟨rfl⟩) (qcM (eOf (YR (qf (V8 "table") (qf (bV 3) (qf (qt qiE (qf (bV 4) qu)) qu))) ⟨rfl⟩)))))):PwS 0 _)
def QH:Wm:=qkg QG 1 5 false
theorem SW {Q:QD}:QH.W [] n Q=(0+1=1/\QG.w [.un,.un,.un,.un,.un] n (qj2 false Q)):=id rfl
def YB:=((V2 (S8 (eOf (NO (qf (YR (qf (V8 "row") (qf (qC 1) qu)) ⟨rfl⟩) (qf (YR (qf (V8 "row") (qf (qC 2) qu)) ⟨rfl⟩) (qf (YR (qf (V8 "column") (qf (qC 2) qu)) ⟨rfl⟩) (qf (YR (qf (V8 "slant") (qf (qC 2) qu)) ⟨rfl⟩) (qf (YR (qf (V8 "back") (qf (qC 2) qu)) ⟨rfl⟩) (qf (YR (qf (V8 "block") (qf (qC 2) (qf (qC 2) qu))) ⟨rfl⟩) qu)))))) ⟨rfl⟩)) 2 [] ⟨rfl⟩ ⟨rfl⟩) (V2 (qrA (eOf (YR (qf (V8 "cells") (qf (YR (qf (YR (qf (qC 1) (qf (qC 0) qu)) ⟨rfl⟩) (qf (YR (qf (qC 0) (qf (qC 1) qu)) ⟨rfl⟩) qu)) ⟨rfl⟩) qu)) ⟨rfl⟩)) 2 [] ⟨rfl⟩ ⟨rfl⟩) (V2 (S8 (eOf (bLc (WE (bV 2)) (gN 0) (bTb (bO (YG true) (qt (qR QK true) (qf (bV 1) (qf (bV 0) qu))) (NO qu ⟨rfl⟩))) (bV 0) [none,some 1] ⟨rfl⟩)) 3 [false,true,true] ⟨rfl⟩ ⟨rfl⟩) (qcM (eO zi (eOf (bV 3)) (eDr ZM (aOf (qf (qt LW (qf (bV 3) qu)) qu)))))))):PwS 0 _)
def YJ:Wm:=qkg YB 2 4 false
theorem LP {Q:QD}:YJ.W [x0] n Q=(2=2/\YB.w [.un,.sh x0,.un,.un] n (qj2 false Q)):=id rfl
def zX:=((ju (X7 (qt (qR ET true) (qf (bV 0) (qf (bV 1) (qf (bV 2) qu)))) 3 [true,true,true] ⟨rfl⟩) (Q0 (bO (YG false) (qk3 (bV 3)) (qt LW (qf (bV 3) qu))))):PuS _)
def zj:List PyData->Option PyData:=Pu.run zX.f 3 4 1000000000 false
theorem EO:zj [x0,x1,x2]=Z6 false (zX.f 1000000000 [.sh x0,.sh x1,.sh x2,.un]):=id rfl
def QC:=((V2 (S8 (eOf (qt (qR QK true) (qf (bV 1) (qf (bV 2) qu)))) 3 [false,true,true] ⟨rfl⟩ ⟨rfl⟩) (V2 (S8 (eOf (bLc (WE (bV 3)) (gN 0) (bTb (qt (qR zj false) (qf (bV 1) (qf (bV 2) (qf (bV 0) qu))))) (bV 0) [none,some 1,some 2] ⟨rfl⟩)) 4 [false,true,true,true] ⟨rfl⟩ ⟨rfl⟩) (V2 (S8 (eDr ZM (aOf (qf (qC 16) qu))) 5 [] ⟨rfl⟩ ⟨rfl⟩) (qcM (eOf (bLc (qjW (qf (NO (qf (bV 4) (qf (bV 4) (qf (bV 3) qu))) ⟨rfl⟩) qu)) (DQ 2 (qQ (gN 0) (qQ (gN 1) DK))) (bTb (bO (YG true) (bV 1) (NO qu ⟨rfl⟩))) (bO zi (bV 1) (bO (opC (λ_ j=>0<j) (·%·)) (bO jy (bV 2) (bV 0)) (qt LW (qf (bV 1) qu)))) [none,none,some 5] ⟨rfl⟩)))))):PwS 0 _)
def JR:Wm:=qkg QC 3 6 true
theorem SO {Q:QD}:JR.W [x0,x1] n Q=(3=3/\QC.w [.un,.sh x0,.sh x1,.un,.un,.un] n (qj2 true Q)):=id rfl
def Z2:=((ju (RU (qt (qkP 2) (qf (bO zi (bV 0) (qC 2)) qu)) (DQ 3 (qQ (gN 5) (qQ (gN 6) (qQ (gN 7) DK)))) [true] ⟨rfl⟩) (ju (X7 (YR (qf (bO jy (bO (opC j9 (·*·)) (bO zi (bV 3) (qC 0)) (bV 5)) (bO zi (bV 4) (qC 0))) (qf (bO jy (bO (opC j9 (·*·)) (bO zi (bV 3) (qC 1)) (bV 6)) (bO zi (bV 4) (qC 1))) qu)) ⟨rfl⟩) 8 [false,false,false,true,true,true,true] ⟨rfl⟩) (ju (X7 (qt (qR J5 true) (qf (bV 0) (qf (bV 2) (qf (bV 8) qu)))) 9 [true,false,true,false,false,false,false,false,true] ⟨rfl⟩) (ju (X7 (NO qu ⟨rfl⟩) 10 [] ⟨rfl⟩) (ju (qdZ (WE (qt (qR jx true) (qf (bO zi (bV 1) (qC 0)) qu))) (DQ 2 (qQ (gN 11) (qQ (gN 12) DK))) (qdZ (WE (qt (qR jx true) (qf (bO zi (bV 1) (qC 1)) qu))) (DQ 2 (qQ (gN 13) (qQ (gN 14) DK))) (qrk (YR (qf (bO jy (bO jy (bO (opC j9 (·*·)) (bO jy (bO zi (bV 3) (qC 0)) (bV 11)) (bV 5)) (bO zi (bV 4) (qC 0))) (bV 13)) (qf (bO jy (bO jy (bO (opC j9 (·*·)) (bO jy (bO zi (bV 3) (qC 1)) (bV 12)) (bV 6)) (bO zi (bV 4) (qC 1))) (bV 14)) qu)) ⟨rfl⟩) 10 [false,false,false,true,true,true,true,false,false,false,false,true,true,true,true] ⟨rfl⟩) [false,true] ⟨rfl⟩) [false,true] ⟨rfl⟩) (ju (sIf (MT (bTb (qt (qdz 3) (qf (bV 9) (qf (bV 10) qu))))) (Q0 (bBl false)) QS) (ju (qqG (qf (qt (qR ES true) (qf (bO zi (bV 0) (qC 1)) (qf (bO zi (bV 1) (qC 0)) (qf (bV 3) qu)))) (qf (qt (qR ES true) (qf (bO zi (bV 0) (qC 2)) (qf (bO zi (bV 1) (qC 1)) (qf (bV 4) qu)))) qu)) 15 16 [true,true,false,true,true] ⟨rfl⟩) (ju (X7 (NO qu ⟨rfl⟩) 10 [] ⟨rfl⟩) (ju (qdZ (WE (bV 15)) (gN 17) (qpo (bLc (WE (bV 16)) (gN 0) bTt (bO (opC j9 (·*·)) (bV 1) (bV 0)) [none,some 17] ⟨rfl⟩) 10 [false,false,false,false,false,false,false,false,false,false,false,false,false,false,false,false,true,true] ⟨rfl⟩) [false,false,false,false,false,false,false,false,false,false,false,false,false,false,false,true] ⟨rfl⟩) (ju (X7 (UT (qt (qR zj false) (qf (bO zi (bV 0) (qC 1)) (qf (bO zi (bV 1) (qC 0)) (qf (bV 3) qu)))) (qt (qR zj false) (qf (bO zi (bV 0) (qC 2)) (qf (bO zi (bV 1) (qC 1)) (qf (bV 4) qu))))) 18 [true,true,false,true,true] ⟨rfl⟩) (ju (sIf (bOr (MT (bTb (qt (qdz 3) (qf (qt (qR ES true) (qf (bV 0) (qf (bV 2) (qf (bV 8) qu)))) (qf (bV 10) qu))))) (MT (bTb (qt (qdz 3) (qf (qt (qR EQ false) (qf (bV 0) (qf (bV 2) (qf (bV 8) qu)))) (qf (bO (opI (·-·)) (qt K0 (qf (bV 10) qu)) (qC 1)) qu)))))) (Q0 (bBl false)) QS) (ju (sIf (qqh (bTb (bO (opB λi j=>decide (i<=j)) (qt LW (qf (bV 10) qu)) (qC 16))) (bTb (bO (YG false) (bO (qd7 false) (qt (qR EN false) (qf (bV 0) (qf (bV 2) (qf (bV 8) qu)))) qiW) (bV 18)))) (Q0 (bBl false)) QS) (Q0 (bO (YG false) (bV 18) (bO (opB λi j=>decide (i<j)) (qt K0 (qf (bV 10) qu)) (qC 2)))))))))))))))):PuS _)
def Z0:List PyData->Option PyData:=Pu.run Z2.f 5 19 1000000000 false
theorem TW {x3 x4:PyData}:Z0 [x0,x1,x2,x3,x4]=Z6 false (Z2.f 1000000000 [.sh x0,.sh x1,.sh x2,.sh x3,.sh x4,.un,.un,.un,.un,.un,.un,.un,.un,.un,.un,.un,.un,.un,.un]):=id rfl
def NB:=((eDr (dSp JR true) (aOf (qf (bO zi (bV 2) (bO jy (qC 1) (bV 0))) (qf (bO zi (bV 3) (bV 0)) qu)))):PwE 1 _)
def R6:=((wIf (cOf (MT (bTb (qt (qR Z0 false) (qf (bV 4) (qf (bV 5) (qf (bV 11) (qf (bV 12) (qf (bV 13) qu))))))))) (qcM (eOf (bBl false))) S5):PwS 2 _)
def RO:=((qp2 (iOf (WE (bO zi (bV 10) (qC 1)))) (gN 13) R6 [false,false,false,false,false,false,false,false,false,false,true] ⟨rfl⟩ ⟨rfl⟩):PwS 2 _)
def qeu:=((V2 (S8 (eO (YG false) (eDr ZM (aOf (qf (qC 3) qu))) (eOf (qC 0))) 3 [] ⟨rfl⟩ ⟨rfl⟩) (V2 (S8 (qdY (zT (eOf (V8 "joined")) (zT (eDr qc5 (aOf qu)) (zT (eDr qc5 (aOf qu)) (aOf qu)))) ⟨rfl⟩) 4 [] ⟨rfl⟩ ⟨rfl⟩) (V2 (S8 (qpn (zT (eDr (dSp ZN false) (aOf qu)) (zT (eDr (dSp ZN false) (aOf qu)) (aOf qu))) ⟨rfl⟩) 5 [] ⟨rfl⟩ ⟨rfl⟩) (V2 (wIf (cOf (bTb (bV 3))) (V2 (S8 (qdY (zT (eOf (V8 "joined")) (zT (eDr (dSp QH false) (aOf qu)) (zT (eDr (dSp QH false) (aOf qu)) (aOf qu)))) ⟨rfl⟩) 6 [] ⟨rfl⟩ ⟨rfl⟩) (V2 (qej (eOf (qt (qkP 2) (qf (bO zi (bV 6) (qC 2)) qu))) (DQ 3 (qQ (gN 7) (qQ (gN 8) (qQ (gN 9) DK)))) [false,false,false,false,false,false,true] ⟨rfl⟩ ⟨rfl⟩) (V2 (S8 (eOf (YR (qf (V8 "joined") (qf (bO zi (bV 4) (qC 1)) (qf (bV 6) qu))) ⟨rfl⟩)) 4 [false,false,false,false,true,false,true] ⟨rfl⟩ ⟨rfl⟩) (S8 (qpn (zT (eOf (bO zi (bV 5) (qC 0))) (zT (qiY (qR WP false) (zT (eDr (dSp YJ false) (aOf (qf (bO zi (bV 6) (qC 1)) qu))) (zT (eDr (dSp YJ false) (aOf (qf (bO zi (bV 6) (qC 2)) qu))) (aOf (qf (bV 7) (qf (bV 8) qu)))))) (aOf qu))) ⟨rfl⟩) 5 [false,false,false,false,false,true,true,true,true] ⟨rfl⟩ ⟨rfl⟩)))) S5) (V2 (qej (eOf (qt (qkP 2) (qf (bO zi (bV 4) (qC 2)) qu))) (DQ 3 (qQ (gN 7) (qQ (gN 8) (qQ (gN 9) DK)))) [false,false,false,false,true] ⟨rfl⟩ ⟨rfl⟩) (V2 (S8 (eLc 1 (iOf (X9 (qf (qC 2) qu))) (gN 0) (cOf bTt) NB [none,some 2,some 4,some 5] ⟨rfl⟩ ⟨rfl⟩) 10 [false,false,false,false,true,true] ⟨rfl⟩ ⟨rfl⟩) (wIf (cOf (qqh (bTb (bO (YG true) (bO zi (bV 10) (qC 0)) (NO qu ⟨rfl⟩))) (bTb (bO (YG true) (bO zi (bV 10) (qC 1)) (NO qu ⟨rfl⟩))))) (V2 (S8 (eOf (qt (qR WP false) (qf (bO zi (bV 5) (qC 0)) (qf (bO zi (bV 5) (qC 1)) (qf (bV 7) (qf (bV 8) qu)))))) 11 [false,false,false,false,false,true,false,true,true] ⟨rfl⟩ ⟨rfl⟩) (V2 (qp2 (iOf (WE (bO zi (bV 10) (qC 0)))) (gN 12) RO [false,false,false,false,false,false,false,false,false,false,true] ⟨rfl⟩ ⟨rfl⟩) (V2 (S8 (eOf (YR (qf (bO jy (bO (opC j9 (·*·)) (bO zi (bO zi (bO zi (bV 10) (qC 0)) (qC 0)) (qC 0)) (bV 7)) (bO zi (bO zi (bO zi (bV 10) (qC 1)) (qC 0)) (qC 0))) (qf (bO jy (bO (opC j9 (·*·)) (bO zi (bO zi (bO zi (bV 10) (qC 0)) (qC 0)) (qC 1)) (bV 8)) (bO zi (bO zi (bO zi (bV 10) (qC 1)) (qC 0)) (qC 1))) qu)) ⟨rfl⟩)) 14 [false,false,false,false,false,false,false,true,true,false,true] ⟨rfl⟩ ⟨rfl⟩) (V2 (S8 (eOf (bLc (X9 (qf (qC 2) qu)) (gN 0) bTt (qt (qR zj false) (qf (bO zi (bV 1) (bO jy (qC 1) (bV 0))) (qf (bO zi (bV 2) (bV 0)) (qf (bO zi (bO zi (bV 3) (bV 0)) (qC 0)) qu)))) [none,some 4,some 5,some 10] ⟨rfl⟩)) 15 [false,false,false,false,true,true,false,false,false,false,true] ⟨rfl⟩ ⟨rfl⟩) (wIf (cOf (bTb (bO (YG true) (bO (qi8 false) (bV 14) (qt (qR QT true) (qf (bV 4) (qf (bV 11) qu)))) (bO (YG false) (bV 15) (NO (qf (bBl true) (qf (bBl true) qu)) ⟨rfl⟩))))) (qcM (eOf (bBl false))) S5))))) S5))))))):PwS 2 _)
def qmx (h:∀ k:Nat,k<=60->qeu.w [.un,.sh (.int k),.un,.un,.un,.un,.un,.un,.un,.un,.un,.un,.un,.un,.un,.un] 0 okW):=qeD qeu qqA 5 13 ⟨by decide,by decide⟩ rfl h
end K54
namespace K54
open PySem L2 L3 Bk
theorem qdN {d:Nat} (h:d<=5):L2.atI [T.int 1,.int 2,.int 4,.int 8,.int 16,.int 32] (d:Int)=some (.int (2 ^ d)):=by
 have:d=0\/d=1\/d=2\/d=3\/d=4\/d=5:=by omega
 rcases this with rfl|rfl|rfl|rfl|rfl|rfl<;>rfl
theorem TD {s l1 l2:Str} {xs:List T} {R S:TS3} {d:Ends3} {τ:St3} {G:Gp} (hτ:τ[0]?=some (some (T.tup (.str s::xs)))):qS (zD (tb3 (o3 (in3 false) (o3 ix3 (v3 0) (c3 (.int 0))) (jv (qe (c3 (.str l1)) (qe (c3 (.str l2)) qw))))) R qE) S d τ G=(if s=l1\/s=l2 then R { d with nx:=S d } τ G else S d τ G):=by
 have s2:[T.str l1,T.str l2].length<=sizeLine:=by simp [v9]
 simp only [qS,zD,tb3,o3,v3,hτ,c3,L3.ixT,qbI,jv,qe,qw,in3,qE];by_cases e1:s=l1
 ·subst e1;simp [zm,eqF,v9]
 ·have e1':¬ l1=s:=λz=>e1 z.symm;by_cases e2:s=l2
  ·subst e2;simp [zm,eqF,v9]
  ·have e2':¬ l2=s:=λz=>e2 z.symm;simp [zm,eqF,v9,e1,e2,e1',e2']
theorem VG (n:Nat):∀ ts G q,ZY (n+1) ts G q->ts.length=1/\EK (ZY n) (LA q) (qo ["_law_dealing","_law_two","_law_one","_law_other"] ts) G:=by
 rintro ts G q ⟨d,rfl,hd,ok,h⟩;refine ⟨rfl,?_⟩;have h0:=h G Ex.refl;unfold EK;cases d with
 |skew r c b x y=>
  show qS _ _ _ [some (.tup [.str "skew",.int r,.int c,.int b,.int x,.int y]),none,none,none] G;rw [TD rfl,if_pos (.inl rfl)];simp [sl3,zg,YS,sp3,v3,c3,L3.QY,HT.sIx];exact h0
 |rests r c b x=>
  show qS _ _ _ [some (.tup [.str "rests",.int r,.int c,.int b,.int x]),none,none,none] G;rw [TD rfl,if_pos (.inr rfl)];simp [sl3,zg,YS,sp3,v3,c3,L3.QY,HT.sIx];exact h0
 |bits hh l ms=>
  obtain ⟨k1,k2,k3,_⟩:=ok;show qS _ _ _ [some (.tup [.str "bits",.int hh,.int l,.tup (ms.map T.int)]),none,none,none] G;rw [TD rfl,if_neg (by decide),zx rfl,if_pos rfl];simp [qS,zl,gn3,zg,jt,zD,zN,V3,qE,v3,c3,o3,u3,YD,L3.ixT,L3.ixR,zU,iI,iC,iB,zo,zc,JO,tb3,V4,or3,V1,zC,V5,zZ,if3,ch3,cb3,qe,qw,QM,tyT,zY,jv,ZD,YS,np3,sp3,zd,qr,za,zG,Q5,JC,qo,bm3,JK,YQ,jV,YT,YZ,U0,U2,qM,zS,JD,U1,VH,QY,HT.sIx,getL,in3,zm,eqF,gu,v9,x8,x6];intro p hp;have ix:∀ k:Nat,k<=5->L2.atI [T.int 1,.int 2,.int 4,.int 8,.int 16,.int 32] (k:Int)=some (.int (2 ^ k)):=λk hk=>qdN hk;simp [qS,zl,gn3,zg,jt,zD,zN,V3,qE,v3,c3,o3,u3,YD,L3.ixT,L3.ixR,zU,iI,iC,iB,zo,zc,JO,tb3,V4,or3,V1,zC,V5,zZ,if3,ch3,cb3,qe,qw,QM,tyT,zY,jv,ZD,YS,np3,sp3,zd,qr,za,zG,Q5,JC,qo,bm3,JK,YQ,jV,YT,YZ,U0,U2,qM,zS,JD,U1,VH,QY,HT.sIx,getL,in3,zm,eqF,gu,v9,x8,x6,qbI,qes,qc3,qlR,ix hh (by omega),ix l (by omega),ix ms.length (by omega)];exact h _ (ja hp)
 |table b cells=>
  have L:=Dl.lims ok;obtain ⟨k1,k2,k3,k4,c,k5,k6,k7⟩:=ok;cases cells with
  |nil=>simp at k3
  |cons row cells=>
   show qS _ _ _ [some (.tup [.str "table",.int b,.tup (MQ row::cells.map MQ)]),none,none,none] G;rw [TD rfl,if_neg (by decide),zx rfl,if_neg (by decide),zx rfl,if_pos rfl];simp [MQ,qbI,qes,qc3,qS,zl,gn3,zg,jt,zD,zN,V3,qE,v3,c3,o3,u3,YD,L3.ixT,L3.ixR,zU,iI,iC,iB,zo,zc,JO,tb3,V4,or3,V1,zC,V5,zZ,if3,ch3,cb3,qe,qw,QM,tyT,zY,jv,ZD,YS,np3,sp3,zd,qr,za,zG,Q5,JC,qo,bm3,JK,YQ,jV,YT,YZ,U0,U2,qM,zS,JD,U1,VH,QY,HT.sIx,getL,in3,zm,eqF,gu,v9,x8,x6];simpa [WA,Dl.R,Dl.C,Dl.B] using h0
 |joined d e=>
  have Ld:=Dl.lims ok.1;have Le:=Dl.lims ok.2.1;have:1<=n:=by simp [Dl.dep] at hd;omega
  obtain ⟨m,rfl⟩:∃ m,n=m+1:=⟨n-1,by omega⟩
  show qS _ _ _ [some (.tup [.str "joined",d.t,e.t]),none,none,none] G;rw [TD rfl,if_neg (by decide),zx rfl,if_neg (by decide),zx rfl,if_neg (by decide)];refine JB λnx1 q1=>?_;simp only [JC,qe,qw,cb3,o3,v3,c3,L3.ixT,qes,qc3,x8];refine ⟨d,rfl,by simp [Dl.dep] at hd;omega,ok.1,λG1 E1=>?_⟩;refine ⟨e,rfl,by simp [Dl.dep] at hd;omega,ok.2.1,λG2 E2=>?_⟩;simp;rw [q1];have e1:=Le.r1;have e2:=Le.r2;have e3:=Le.c1;have e4:=Le.c2;have e5:=Le.b1;have e6:=Le.b2;simp [WA,lc3,qbH,zV,qb7,RE,tt3,cap,qS,zl,gn3,zg,jt,zD,zN,V3,qE,v3,c3,o3,u3,YD,L3.ixT,L3.ixR,zU,iI,iC,iB,zo,zc,JO,tb3,V4,or3,V1,zC,V5,zZ,if3,ch3,cb3,qe,qw,QM,tyT,zY,jv,ZD,YS,np3,sp3,zd,qr,za,zG,Q5,JC,qo,bm3,JK,YQ,jV,YT,YZ,U0,U2,qM,zS,JD,U1,VH,L2.atI,ixN,QY,HT.sIx,getL,in3,zm,eqF,gu,v9,x8,x6];refine ⟨cm (by omega) (by omega),cm (by omega) (by omega),cm (by omega) (by omega),λp hp=>?_⟩;exact h _ ((E1.trans E2).trans (ja hp))
end K54
namespace K54
open PySem L2 L3 Pu Pv
open Bk (Wk Dl Dr zH zp)
theorem s1:zY "int" "int" = true:=rfl
theorem s2:zY "int" "bool" = false:=rfl
theorem s3:zY "tuple" "tuple" = true:=rfl
theorem t2:((1+1:Nat):Int)=2:=rfl
theorem qqD {i:Int}:z9 [.int i]=some (.bool true):=by
 rw [KY]
 simp! [Pu.pwA,Z4,s1,s2]
variable {p:Int×Int}
theorem qiX:J2 [pD p]=some (.bool true):=by
 rw [qah]
 simp! [Pu.pwA,UI,pD,s3,t2,qqD]
def inT (d:Dl) (p:Int×Int):Prop:=Bk.Inn d p.1 p.2
def inW (d:Dl) (p:Int×Int):Bool:=(decide (0<=p.1)&&decide (p.1<d.R))&&(decide (0<=p.2)&&decide (p.2<d.C))
variable {d:Dl}
theorem qkm (h:inW d p=true):inT d p:=by
 simp only [inW,zf9,decide_eq_true_eq] at h;exact ⟨h.1.1,h.1.2,h.2.1,h.2.2⟩
theorem qmO (h:inT d p):inW d p=true:=by
 obtain ⟨h1,h2,h3,h4⟩:=h;simp only [inW,zf9,decide_eq_true_eq];exact ⟨⟨h1,h2⟩,h3,h4⟩
theorem qp7 (hp:d.dep<=2) (ok:d.Ok):XZ [dlD d,pD p]=some (.bool (inW d p)):=by
 have sz:=TF (n:=2) hp ok;have e:=qiX (p:=p);rw [qap];simp only [pD] at e;unfold inW;by_cases h1:0<=p.1
 ·by_cases h2:p.1<d.R
  ·by_cases h3:0<=p.2
   ·simp! [Pu.pwA,jY,pD,e,MB,sz,siz,h1,h2,h3,decide_true,xf5]
   ·simp! [Pu.pwA,jY,pD,e,MB,sz,siz,h1,h2,h3,decide_true,decide_false,xf5,xb6]
  ·simp! [Pu.pwA,jY,pD,e,MB,sz,siz,h1,h2,decide_true,decide_false,xf5,xb6]
 ·simp! [Pu.pwA,jY,pD,e,MB,sz,siz,h1,decide_false,xb6]
def bk (d:Dl) (p:Int×Int):Int:=d.bank p.1 p.2
noncomputable def sh (s:Int×Int) (cs:List (Int×Int)):List (Int×Int):=cs.map λp=>(s.1+p.1,s.2+p.2)
variable {w:Wk} {s:Int×Int}
theorem qrK (ok:Big w):US [Wk.d w,pD s]=some (.list ((sh s w.pc).map pD)):=by
 have hl:=DI ok;rw [qav]
 simp! [Pu.pwA,UY,Q4 ok]
 rw [zI (ds:=w.pc.map pD) (fs:=(sh s w.pc).map pD)]
 ·simp! [Pu.pwA]
 ·simp! [Pu.pwA,Q4 ok]
 ·rw [sh,zg8];refine zu λp hp=>?_
  simp! [Pu.pwA,jq,pD,ze6]
 ·simp [sh];omega
def isS (d:Dl) (w:Wk) (s:Int×Int):Bool:=(sh s w.pc).all (inW d)
theorem qpJ (hp:d.dep<=2) (okd:d.Ok) (ok:Big w):ER [dlD d,Wk.d w,pD s]=some (.bool (isS d w s)):=by
 have hl:=DI ok;rw [LF]
 simp! [Pu.pwA,YC,qiX]
 rw [zI (ds:=(sh s w.pc).map pD) (fs:=((sh s w.pc).map (inW d)).map PyData.bool)]
 ·simp! [Pu.pwA,NL]
  rw [List.all_map];rfl
 ·simp! [Pu.pwA,qrK ok]
 ·rw [zg8];refine zu λq hq=>?_
  simp! [Pu.pwA,jq,qp7 hp okd,ze6]
 ·simp [sh];omega
theorem qk1 (h:isS d w s=true):∀ q∈sh s w.pc,inT d q:=λq hq=>qkm (zi7.mp h q hq)
theorem MX (h:∀ q∈sh s w.pc,inT d q):isS d w s=true:=zi7.mpr λq hq=>qmO (h q hq)
theorem qra (hp:d.dep<=2) (okd:d.Ok) (ok:Big w) (h:∀ q∈sh s w.pc,inT d q):J5 [dlD d,Wk.d w,pD s]=some (.list ((sh s w.pc).map pD)):=by
 rw [L0]
 simp! [Pu.pwA,YO,qpJ hp okd ok,MX h,qrK ok]
def bks (d:Dl) (s:Int×Int) (cs:List (Int×Int)):List Int:=(sh s cs).map (bk d)
theorem qrc (hp:d.dep<=2) (okd:d.Ok) (ok:Big w) (h:∀ q∈sh s w.pc,inT d q):jf [dlD d,Wk.d w,pD s]=some (.list ((bks d s w.pc).map PyData.int)):=by
 have hl:=DI ok;rw [SS]
 simp! [Pu.pwA,QJ]
 rw [zI (ds:=(sh s w.pc).map pD) (fs:=(bks d s w.pc).map PyData.int)]
 ·simp! [Pu.pwA]
 ·simp! [Pu.pwA,qra hp okd ok h]
 ·rw [bks,zg8];refine zu λq hq=>?_
  simp! [Pu.pwA,jq,qpI,pD,qpP (n:=2) hp okd (h q hq),bk,ze6]
 ·simp [bks,sh];omega
end K54
namespace K54
open PySem L2 L3 Pu Pv
open Bk (Wk Dl Dr zH zp Q1 lnD lnA faO Fst Un2 ZE ZK XG)
theorem MI {i:Nat} {es ds:List PyData} {ρ:Rho} (h:slot ρ i=some ds) (hl:ds.length+es.length<=16777216):qkE i (.list es) ρ=some (.nx (ρ.set i (.ow (ds++es)))):=by unfold qkE;rw [h];simp only [ze7];exact zk hl
theorem qh6 {s:Str} {m:Int}:slD (.tuple [.str s,.int m]) (some 1) (some 3)=some (.tuple [.int m]):=LM (by simp [HT.sIx])
theorem qiz {s:Str} {u v m:Int}:slD (.tuple [.str s,.int u,.int v,.int m]) (some 1) (some 3)=some (.tuple [.int u,.int v]):=LM (by simp [HT.sIx])
theorem qpH {x y:PyData}:L2.atI [x,y] (-1)=some y:=rfl
theorem qqK {x y z w:PyData}:L2.atI [x,y,z,w] (-1)=some w:=rfl
theorem qpr {w:Wk} (ok:Big w):jx [Wk.d w]=some (.list (w.pc.map pD)):=by
 rw [TH];cases w with
 |cells ps=>
  simp! [Pu.pwA,zP,Wk.d,eq_self,Wk.pc]
 |block h v=>
  obtain ⟨h1,h2⟩:=ok
  simp! (disch:=omega) [Pu.pwA,zP,Wk.d,eq_self,L3.Y0,Wk.pc,LJ,zf8]
  rw [Option.bind_assoc];refine U6 (Q:=λo=>Z6 true o=_) (zh 0 h) (λi ρ=>∃ s2 s3 s4,ρ=[.sh (Wk.d (.block h v)),.ow ((zp i v).map pD),s2,s3,s4]) ⟨_,_,_,rfl⟩ ?_ ?_
  ·rintro i x ρ hx ⟨s2,s3,s4,rfl⟩;obtain ⟨hi,rfl⟩:=J4 hx
   simp! [Pu.pwA,Wk.d]
   rw [zI (ds:=(zh 0 v).map PyData.int) (fs:=((zg5 v).map λ(q:Nat)=>((i:Int),(q:Int))).map pD)]
   rotate_left
   ·simp! (disch:=omega) [Pu.pwA,LJ,zf8]
   ·unfold zh;rw [zg8,zg8];refine zu λq hq=>?_
    simp! [Pu.pwA,jq,pD,zn2,ze6]
   ·simp;omega
   simp! [Pu.pwA]
   rw [MI (ds:=(zp i v).map pD) rfl (by
    have:=zh7 (show i<=1000 by omega) h2;rw [zd9,Bk.J0,zd9,zd9,xm1];omega)]
   simp! [Pu.pwA]
   rw [Bk.EI,zm8];exact ⟨_,_,_,rfl⟩
  ·rintro ρ ⟨s2,s3,s4,rfl⟩;rw [qJ]
   simp! [Pu.pwA]
 |step d a m=>
  obtain ⟨h1,h2,h3⟩:=ok;have e5:qeO ["row","column","slant","back","step"] [.tuple [.int 0,.int 1],.tuple [.int 1,.int 0],.tuple [.int 1,.int 1],.tuple [.int 1,.int (-1)],.tuple [.int d,.int a]] "step" = some (.tuple [.int d,.int a]):=rfl
  simp! [Pu.pwA,zP,Wk.d,L3.UJ,L3.UF,Wk.pc,qiz,e5]
  rw [zI (ds:=(zh 0 m).map PyData.int) (fs:=(zH d a m).map pD)]
  ·simp! [Pu.pwA]
  ·simp! (disch:=omega) [Pu.pwA,qqK,LJ,zf8]
  ·unfold zH zh;rw [zg8,zg8];refine zu λt ht=>?_;have:=zi0.mp ht
   simp! (disch:=omega) [Pu.pwA,jq,pD,JQ,zn2,ze6]
  ·simp [zH];omega
 |line k m=>
  obtain ⟨h1,h2⟩:=ok;have key:∀ (d a:Int),(-1000<=d/\d<=1000)->(-1000<=a/\a<=1000)->∀ s:Str,ze1 "cells" ≠ s->ze1 "block" ≠ s->qeO ["row","column","slant","back","step"] [.tuple [.int 0,.int 1],.tuple [.int 1,.int 0],.tuple [.int 1,.int 1],.tuple [.int 1,.int (-1)],.tuple [.int (m:Int)]] s=some (.tuple [.int d,.int a])->Z6 true (zP.f 1000000000 [.sh (.tuple [.str s,.int (m:Int)]),.un,.un,.un,.un])=some (.list ((zH d a m).map pD)):=by
   intro d a hd ha s n1 n2 e5;have n1':¬ s=ze1 "cells" := λz=>n1 z.symm;have n2':¬ s=ze1 "block" := λz=>n2 z.symm
   simp! [Pu.pwA,zP,n1',n2',qh6,e5]
   rw [zI (ds:=(zh 0 m).map PyData.int) (fs:=(zH d a m).map pD)]
   ·simp! [Pu.pwA]
   ·simp! (disch:=omega) [Pu.pwA,qpH,LJ,zf8]
   ·unfold zH zh;rw [zg8,zg8];refine zu λt ht=>?_;have:=zi0.mp ht
    simp! (disch:=omega) [Pu.pwA,jq,pD,JQ,zn2,ze6]
   ·simp [zH];omega
  have:(k=0\/k=1\/k=2\/k=3):=by omega
  rcases this with rfl|rfl|rfl|rfl
  ·exact key 0 1 (by omega) (by omega) "row" (by decide) (by decide) rfl
  ·exact key 1 0 (by omega) (by omega) "column" (by decide) (by decide) rfl
  ·exact key 1 1 (by omega) (by omega) "slant" (by decide) (by decide) rfl
  ·exact key 1 (-1) (by omega) (by omega) "back" (by decide) (by decide) rfl
theorem qgo {i j:Nat} {m:List Bool} {x y:List PyData} {ρ:Rho}:qfS i j m [.list x,.list y] ρ=some (.nx (((dm m ρ).set i (.sh (.list x))).set j (.sh (.list y)))):=id rfl
theorem qnj {d:Dl} {w:Wk} (hp:d.dep<=2) (okd:d.Ok) (ok:Big w) (hc:Cb w.pc):QK [dlD d,Wk.d w]=some (.list ((stI d.R d.C w.pc).map pD)):=by
 have hl:=DI ok;have l:=Dl.lims okd;have:=l.r1;have:=l.r2;have:=l.c1;have:=l.c2;obtain ⟨⟨h1,h2,h3⟩,⟨h4,h5,h6⟩⟩:=hc.lim;rw [RN]
 simp! [Pu.pwA,QI,NT,TF (n:=2) hp okd,siz,qpr ok]
 rw [zI (ds:=w.pc.map pD) (fs:=(dn w.pc).map PyData.int) rfl (by
  rw [dn,zg8];refine zu λp hp=>?_
  simp! [Pu.pwA,jq,pD,ze6]) (by simp [dn];omega)]
 simp! [Pu.pwA]
 rw [zI (ds:=w.pc.map pD) (fs:=(al w.pc).map PyData.int) rfl (by
  rw [al,zg8];refine zu λp hp=>?_
  simp! [Pu.pwA,jq,pD,ze6]) (by simp [al];omega)]
 simp! [Pu.pwA]
 have n1:dn w.pc≠[]:=by simp [dn,hc.ne]
 have n2:al w.pc≠[]:=by simp [al,hc.ne]
 simp! (disch:=omega) [Pu.pwA,qgo,qdP n1,LV n1,qh2]
 have row:∀ i:Int,(zh (-(mn (al w.pc))) (d.C-mx (al w.pc) - -(mn (al w.pc))).toNat).length<=4096:=λi=>by rw [qJ];omega
 have rows:(zh (-(mn (dn w.pc))) (d.R-mx (dn w.pc) - -(mn (dn w.pc))).toNat).length<=4096:=by rw [qJ];omega
 have fl:∀ i,(((zh (-(mn (dn w.pc))) (d.R-mx (dn w.pc) - -(mn (dn w.pc))).toNat).take i).flatMap λi=>(zh (-(mn (al w.pc))) (d.C-mx (al w.pc) - -(mn (al w.pc))).toNat).map λj=>(i,j)).length<=i*4096:=λi=>by
  rw [YN];exact zh7 (by rw [zj7];omega) (row 0)
 refine U6 (Q:=λo=>Z6 true o=_) (zh (-(mn (dn w.pc))) (d.R-mx (dn w.pc) - -(mn (dn w.pc))).toNat) (λi ρ=>∃ s9,ρ=[.sh (dlD d),.sh (Wk.d w),.sh (.int d.R),.sh (.int d.C),.sh (.int d.B),.sh (.list (w.pc.map pD)),.sh (.list ((dn w.pc).map PyData.int)),.sh (.list ((al w.pc).map PyData.int)),.ow ((((zh (-(mn (dn w.pc))) (d.R-mx (dn w.pc) - -(mn (dn w.pc))).toNat).take i).flatMap λi=>(zh (-(mn (al w.pc))) (d.C-mx (al w.pc) - -(mn (al w.pc))).toNat).map λj=>(i,j)).map pD),s9]) ⟨_,rfl⟩ ?_ ?_
 ·rintro i x ρ hx ⟨s9,rfl⟩;have hi:=(zb6 hx).1
  simp! [Pu.pwA]
  rw [zI (ds:=(zh (-(mn (al w.pc))) (d.C-mx (al w.pc) - -(mn (al w.pc))).toNat).map PyData.int) (fs:=((zh (-(mn (al w.pc))) (d.C-mx (al w.pc) - -(mn (al w.pc))).toNat).map λj=>(x,j)).map pD)]
  rotate_left
  ·simp! (disch:=omega) [Pu.pwA,qdP n2,LV n2,qh2]
  ·rw [zg8];refine zu λq hq=>?_
   simp! [Pu.pwA,jq,pD,ze6]
  ·rw [zd9,zd9];have:=row 0;omega
  simp! [Pu.pwA]
  rw [MI rfl (by
   rw [zd9,zd9,zd9];have a:=fl i;have b:=row 0;have:=zh7 (show i<=4095 by omega) (u9 4096);omega)]
  simp! [Pu.pwA]
  rw [xd3,hx,xg6,xf0,zm8];exact ⟨.sh (.int x),by simp⟩
 ·rintro ρ ⟨s9,rfl⟩;rw [zp8]
  simp! [Pu.pwA]
  rfl
variable {cs:List (Int×Int)}
theorem qit {R C:Int} {s:Int×Int} (h:s∈stI R C cs) {p:Int×Int} (hp:p∈cs):(0<=s.1+p.1/\s.1+p.1<R)/\(0<=s.2+p.2/\s.2+p.2<C):=by
 obtain ⟨i,hi,h⟩:=zj9.mp h;obtain ⟨j,hj,rfl⟩:=zf4.mp h;have a:=UX hi;have b:=UX hj;have m1:=qaB (show p.1∈dn cs from zf4.mpr ⟨p,hp,rfl⟩);have m2:=qco (show p.1∈dn cs from zf4.mpr ⟨p,hp,rfl⟩);have m3:=qaB (show p.2∈al cs from zf4.mpr ⟨p,hp,rfl⟩);have m4:=qco (show p.2∈al cs from zf4.mpr ⟨p,hp,rfl⟩);simp only;omega
theorem KO {d:Dl} {s:Int×Int} (h:s∈stI d.R d.C cs):∀ q∈sh s cs,inT d q:=λq hq=>by
 obtain ⟨p,hp,rfl⟩:=zf4.mp hq;obtain ⟨⟨h1,h2⟩,h3,h4⟩:=qit h hp;exact ⟨h1,h2,h3,h4⟩
theorem qck {neg:Bool} {n:Int} {ms:List Int}:inD neg (.int n) (.list (ms.map PyData.int))=some (.bool (if neg then !(ms.any (·==n)) else ms.any (·==n))):=by
 refine (zk ⟨rfl,by simp [MC]⟩).trans ?_;rw [List.any_map];rfl
theorem WU {n:Bool} {ps:List (Int×Int)}:eqD n (.list (ps.map pD)) (.list [])=some (.bool (if n then !decide (ps=[]) else decide (ps=[]))):=by
 have dp:∀ ps:List (Int×Int),qcl (ps.map pD)<=1:=λps=>by
  induction ps with
  |nil=>simp [qcl]
  |cons p ps ih=>simp only [zg2,qcl,pD,dpt];omega
 have h:qbg (.list (ps.map pD)) (.list [])=none:=rfl;unfold eqD;rw [h];simp only;rw [zk (by have:=dp ps;simp only [dpt];omega)];cases ps<;>simp [jS,YV]
theorem qrR {d:Dl} {w:Wk} (hd:d.dep<=2) (okd:d.Ok) (ok:Big w) (hc:Cb w.pc):SL [dlD d,Wk.d w]=some (.list ((stI d.R d.C w.pc).map pD)):=by
 have hl:=DI ok;have l:=Dl.lims okd;have:=l.r1;have:=l.r2;have:=l.c1;have:=l.c2;obtain ⟨⟨h1,h2,h3⟩,⟨h4,h5,h6⟩⟩:=hc.lim;rw [qb2]
 simp! [Pu.pwA,WK,MB,TF (n:=2) hd okd,siz,Q4 ok]
 rw [zI (ds:=w.pc.map pD) (fs:=(dn w.pc).map PyData.int) rfl (by
  rw [dn,zg8];refine zu λp hp=>?_
  simp! [Pu.pwA,jq,pD,ze6]) (by simp [dn];omega)]
 simp! [Pu.pwA]
 rw [zI (ds:=w.pc.map pD) (fs:=(al w.pc).map PyData.int) rfl (by
  rw [al,zg8];refine zu λp hp=>?_
  simp! [Pu.pwA,jq,pD,ze6]) (by simp [al];omega)]
 simp! [Pu.pwA]
 have n1:dn w.pc≠[]:=by simp [dn,hc.ne]
 have n2:al w.pc≠[]:=by simp [al,hc.ne]
 rw [ME (ds:=(zh (-(mn (dn w.pc))) (d.R-mx (dn w.pc) - -(mn (dn w.pc))).toNat).map PyData.int) (fs:=(stI d.R d.C w.pc).map pD)]
 ·simp! [Pu.pwA]
 ·simp! (disch:=omega) [Pu.pwA,qdP n1,LV n1,qh2]
 ·have:(stI d.R d.C w.pc).map pD=(zh (-(mn (dn w.pc))) (d.R-mx (dn w.pc) - -(mn (dn w.pc))).toNat).flatMap λi=>(zh (-(mn (al w.pc))) (d.C-mx (al w.pc) - -(mn (al w.pc))).toNat).map λj=>pD (i,j):=by
   simp only [Pv.stI,xc1,zg8,ze6]
  rw [this];refine R8 λi hi=>?_
  simp! (disch:=omega) [Pu.pwA,qdm,qdP n2,LV n2,qh2]
  rw [zu (k:=λq=>pD (i,q)) λq hq=>?_]
  ·simp! [Pu.pwA]
  ·simp! [Pu.pwA,jq,pD]
 ·rw [zd9];exact LK hc l.r2 l.c2
end K54
namespace K54
open PySem L2 L3 Pu Pv
open Bk (Dl Wk Dr faO Un2)
variable {d:Dl} {w:Wk} {s:Int×Int}
theorem qrM (hp:d.dep<=2) (okd:d.Ok) (ok:Big w) (h:∀ q∈sh s w.pc,inT d q):ET [dlD d,Wk.d w,pD s]=some (.list ((bks d s w.pc).map PyData.int)):=by
 have hl:=DI ok;rw [MN]
 simp! [Pu.pwA,YF]
 rw [zI (ds:=w.pc.map pD) (fs:=(bks d s w.pc).map PyData.int)]
 ·simp! [Pu.pwA]
 ·simp! [Pu.pwA,qpr ok]
 ·rw [bks,sh,zg8,zg8];refine zu λp hp'=>?_;have:=qqP (n:=2) (i:=s.1+p.1) (j:=s.2+p.2) hp okd (h (s.1+p.1,s.2+p.2) (zf4.mpr ⟨p,hp',rfl⟩))
  simp! [Pu.pwA,jq,pD,qpe,this,bk,ze6]
 ·simp [bks,sh];omega
def cln (d:Dl) (w:Wk) (s:Int×Int):Bool:=(faO (bks d s w.pc)).isSome
theorem qrL (hp:d.dep<=2) (okd:d.Ok) (ok:Big w) (hs:s∈stI d.R d.C w.pc):jf [dlD d,Wk.d w,pD s]=some (.list ((bks d s w.pc).map PyData.int))/\zz [.list ((bks d s w.pc).map PyData.int)]=some (faD (bks d s w.pc)):=
 ⟨qrc hp okd ok (KO hs),qe7 (by have:=DI ok;simp [bks,sh];omega)⟩
def csL (d:Dl) (w:Wk):List (Int×Int):=(stI d.R d.C w.pc).filter λs=>!cln d w s
theorem qse (hp:d.dep<=2) (okd:d.Ok) (ok:Big w) (hc:Cb w.pc):QT [dlD d,Wk.d w]=some (.list ((csL d w).map pD)):=by
 have l:=Dl.lims okd;have sl:=LK (R:=d.R) (C:=d.C) hc l.r2 l.c2;rw [XT]
 simp! [Pu.pwA,jG]
 rw [zI (ds:=(stI d.R d.C w.pc).map pD) (fs:=(csL d w).map pD)]
 ·simp! [Pu.pwA]
 ·simp! [Pu.pwA,qrR hp okd ok hc]
 ·refine jU λs hs=>?_;obtain ⟨e1,e2⟩:=qrL hp okd ok hs;unfold cln;cases e:faO (bks d s w.pc) with
  |none=>
   have:faD (bks d s w.pc)=.none:=by unfold faD;rw [e]
   rw [this] at e2
   simp! [Pu.pwA,jq,e1,e2,Option.isSome_none]
  |some ij=>
   have:faD (bks d s w.pc)=.tuple [.int ij.1,.int ij.2]:=by unfold faD;rw [e]
   rw [this] at e2
   simp! [Pu.pwA,jq,e1,e2,xg4]
 ·rw [zd9];exact za4 (zi8 _ _) sl
theorem CQ:∀ (d:Dl) {i j:Int},d.Ok->Bk.Inn d i j->0<=d.bank i j/\d.bank i j<d.B
 |.skew r c b x y,i,j,ok,_=>by
  have:=ok.2.2.2.2.1;exact ⟨zh6 _ (by omega),zg0 _ (by omega)⟩
 |.rests r c b p,i,j,ok,_=>by
  have:=ok.2.2.2.2.1;exact ⟨zh6 _ (by omega),zg0 _ (by omega)⟩
 |.bits h l ms,i,j,ok,_=>NI _ ms
 |.table b cells,i,j,ok,h=>by
  obtain ⟨a1,a2,a3,a4,c,c1,c2,hr⟩:=ok;have hi:i.toNat<cells.length:=by have:=h.i1;have:=h.i2;simp only [Dl.R] at this;omega
  have hm:=za8 hi;obtain ⟨l1,hx⟩:=hr _ hm;have hj:j.toNat<(cells[i.toNat]).length:=by
   have h1:=h.j1;have h2:=h.j2;have e:(Dl.table b cells).C=c:=by
    have:cells≠[]:=by intro z;rw [z] at a3;simp at a3
    obtain ⟨r0,rs,rfl⟩:=xe3 this;have:=(hr r0 (by simp)).1;simp [Dl.C,this]
   rw [e] at h2;omega
  simp only [Dl.bank,u7 hi,xi9,u7 hj,Dl.B];exact hx _ (za8 hj)
 |.joined d e,i,j,ok,h=>by
  have ld:=Dl.lims ok.1;have le:=Dl.lims ok.2.1;obtain ⟨h1,h2,h3,h4⟩:=h;simp only [Dl.R] at h2;simp only [Dl.C] at h4;have er:=le.r1;have ec:=le.c1;have q1:=CQ d (i:=i/e.R) (j:=j/e.C) ok.1 ⟨xk7 h1 (by omega),xi3 (by omega) h2,xk7 h3 (by omega),xi3 (by omega) h4⟩;have q2:=CQ e (i:=i%e.R) (j:=j%e.C) ok.2.1 ⟨zh6 _ (by omega),zg0 _ (by omega),zh6 _ (by omega),zg0 _ (by omega)⟩;have m1:=Int.mul_nonneg q1.1 (show 0<=e.B by omega);have m2:(d.bank (i/e.R) (j/e.C)+1)*e.B<=d.B*e.B:=zk0 (by omega) (by omega);rw [Int.add_mul,Int.one_mul] at m2;simp only [Dl.bank,Dl.B];omega
def cnt (ns:List Int) (b:Int):Int:=((ns.filter λn=>decide (n=b)).length:Nat)
theorem qp4 (hp:d.dep<=2) (okd:d.Ok) (ok:Big w) (hs:s∈stI d.R d.C w.pc):ES [dlD d,Wk.d w,pD s]=some (.list ((zh 0 d.B.toNat).map λb=>.int (cnt (bks d s w.pc) b))):=by
 have lm:=Dl.lims okd;have rgB:∀ n∈bks d s w.pc,0<=n/\n<d.B:=λn hn=>by
  obtain ⟨q,hq,rfl⟩:=zf4.mp hn;exact CQ d okd (KO hs q hq)
 have lb:=lm.b1;have lb2:=lm.b2;rw [qeS]
 simp! [Pu.pwA,RK,MB,TF (n:=2) hp okd,siz]
 rw [zI (ds:=(zh 0 d.B.toNat).map PyData.int) (fs:=(zh 0 d.B.toNat).map λ_=>.int 0) (by simp! (disch:=omega) [Pu.pwA,LJ]) (zu λb hb=>by simp! [Pu.pwA,jq]) (by simp [zh];omega)]
 simp! [Pu.pwA,(qrL hp okd ok hs).1]
 refine U6 (Q:=λo=>Z6 true o=some (.list ((zh 0 d.B.toNat).map λb=>.int (cnt (bks d s w.pc) b)))) (g:=PyData.int) (bks d s w.pc) (λi ρ=>∃ s7,ρ=[.sh (dlD d),.sh (Wk.d w),.sh (pD s),.sh (.int d.R),.sh (.int d.C),.sh (.int d.B),.ow ((zh 0 d.B.toNat).map λb=>.int (cnt ((bks d s w.pc).take i) b)),s7]) ⟨_,rfl⟩ ?_ ?_
 ·rintro i n ρ hx ⟨s7,rfl⟩;have hn:=rgB n (za3 hx);have e1:(bks d s w.pc).take (i+1)=(bks d s w.pc).take i++[n]:=by rw [xd3,hx];rfl
  have ce:∀ b,cnt ((bks d s w.pc).take (i+1)) b=cnt ((bks d s w.pc).take i) b+if n=b then 1 else 0:=λb=>by
   rw [e1];unfold cnt;rw [List.filter_append,zg9];by_cases z:n=b<;>simp [z]
  generalize (bks d s w.pc).take i=ns at ce;obtain ⟨k,rfl⟩:=zf3 hn.1;have kB:k<d.B.toNat:=by omega
  have ln:((zh 0 d.B.toNat).map λb=>PyData.int (cnt ns b)).length=d.B.toNat:=by simp [zh]
  have ix:ixN ((zh 0 d.B.toNat).map λb=>PyData.int (cnt ns b)).length (k:Int)=some k:=by
   unfold ixN;rw [if_pos (by omega),if_pos (by omega)];simp
  have gt:∀ (j:Nat) (f:Int->PyData),j<d.B.toNat->((zh 0 d.B.toNat).map f)[j]?=some (f (j:Int)):=λj f hj=>by
   unfold zh;rw [ze5,ze5,xk8 hj];simp
  have st:((zh 0 d.B.toNat).map λb=>PyData.int (cnt ns b)).set k (.int (cnt ns k+1))=(zh 0 d.B.toNat).map λb=>.int (cnt ((bks d s w.pc).take (i+1)) b):=by
   apply List.ext_getElem?;intro j;rw [zg3,ln];by_cases hj:j<d.B.toNat
   ·rw [gt j _ hj,gt j _ hj,ce];by_cases z:k=j
    ·subst z;rw [if_pos rfl,if_pos hj,if_pos rfl]
    ·rw [if_neg z,if_neg (by omega)];simp
   ·rw [xa2 (by simp [zh];omega),xa2 (by simp [zh];omega)];split
    ·exfalso;omega
    ·rfl
  simp! [Pu.pwA,qjw,qdU,ix,gt k _ kB]
  rw [st];exact ⟨_,rfl⟩
 ·rintro ρ ⟨s7,rfl⟩;rw [List.take_of_length_le (u9 _)]
  simp! [Pu.pwA]
variable {ns:List Int}
theorem qqz:decide ((V6 ns:Int)=(ns.length:Int))=unB ns:=by
 rw [zm7,decide_eq_true_eq,qdf,← Bk.qai];omega
theorem qcm (hc:Cb w.pc) (h:isS d w s=true):s∈stI d.R d.C w.pc:=by
 have hin:=qk1 h;have n1:dn w.pc≠[]:=by simp [dn,hc.ne]
 have n2:al w.pc≠[]:=by simp [al,hc.ne]
 have key:∀ p∈w.pc,(0<=s.1+p.1/\s.1+p.1<d.R)/\(0<=s.2+p.2/\s.2+p.2<d.C):=λp hp=>by
  obtain ⟨h1,h2,h3,h4⟩:=hin _ (zf4.mpr ⟨p,hp,rfl⟩);exact ⟨⟨h1,h2⟩,h3,h4⟩
 obtain ⟨p1,m1,e1⟩:=zf4.mp (CT n1);obtain ⟨p2,m2,e2⟩:=zf4.mp (WV n1);obtain ⟨p3,m3,e3⟩:=zf4.mp (CT n2);obtain ⟨p4,m4,e4⟩:=zf4.mp (WV n2);have e1:p1.1=mn (dn w.pc):=e1;have e2:p2.1=mx (dn w.pc):=e2;have e3:p3.2=mn (al w.pc):=e3;have e4:p4.2=mx (al w.pc):=e4;have k1:=key p1 m1;have k2:=key p2 m2;have k3:=key p3 m3;have k4:=key p4 m4;unfold Pv.stI;refine zj9.mpr ⟨s.1,zf4.mpr ⟨(s.1+mn (dn w.pc)).toNat,zi0.mpr (by omega),by omega⟩,zf4.mpr ⟨s.2,zf4.mpr ⟨(s.2+mn (al w.pc)).toNat,zi0.mpr (by omega),by omega⟩,rfl⟩⟩
theorem qea:Un2 ns ns.length↔ns.Nodup:=by
 unfold Un2 List.Nodup;rw [xa5];constructor
 ·intro h i j hi hj hij e;exact h i j hi hij hj (by rw [u7 hi,u7 hj,e])
 ·intro h a b ha hab hb e;rw [u7 ha,u7 hb] at e;exact h a b ha hb hab (Option.some.inj e)
noncomputable def pw:Nat->Int
 |0=>2
 |n+1=>pw n*2
def lns (B:Int):Int:=if B<=2 then 2 else if B<=4 then 4 else if B<=8 then 8 else 16
theorem qlB {B:Int} (h2:B<=16):∃ n,n<=3/\(∀ i,i<n->pw i<B)/\B<=pw n/\lns B=pw n:=by
 unfold lns;by_cases c1:B<=2
 ·exact ⟨0,by omega,λi hi=>by omega,c1,if_pos c1⟩
 rw [if_neg c1];by_cases c2:B<=4
 ·refine ⟨1,by omega,λi hi=>?_,c2,if_pos c2⟩
  match i,hi with
  |0,_=>simp only [pw];omega
 rw [if_neg c2];by_cases c3:B<=8
 ·refine ⟨2,by omega,λi hi=>?_,c3,if_pos c3⟩
  match i,hi with
  |0,_=>simp only [pw];omega
  |1,_=>simp only [pw];omega
 rw [if_neg c3];refine ⟨3,by omega,λi hi=>?_,h2,rfl⟩
 match i,hi with
 |0,_=>simp only [pw];omega
 |1,_=>simp only [pw];omega
 |2,_=>simp only [pw];omega
theorem qhn:∀ n,2<=pw n
 |0=>by decide
 |n+1=>by have:=qhn n;simp only [pw];omega
theorem qqU {B:Int} (h2:B<=16):VX [.int B]=some (.int (lns B)):=by
 obtain ⟨n,hn,h3,h4,h5⟩:=qlB h2;rw [KI,h5]
 simp! [Pu.pwA,ZL]
 refine qkl (Q:=λo=>Z6 false o=_) n (by omega) (λi ρ=>ρ=[.sh (.int B),.sh (.int (pw i))]) rfl ?_ ?_ ?_ ?_
 ·rintro i ρ hi rfl;have:=h3 i hi
  simp! [Pu.pwA,this,decide_true]
 ·rintro i ρ hi rfl;have:=h3 i hi;have:=qhn i
  simp! (disch:=omega) [Pu.pwA,JQ]
  rfl
 ·rintro ρ rfl;have:¬ pw n<B:=by omega
  simp! [Pu.pwA,this,decide_false]
 ·rintro ρ rfl
  simp! [Pu.pwA]
noncomputable def free (bs:List Int) (m:Int):List Int:=(zh 0 m.toNat).filter λx=>!(bs.any (·==x))
def duD (d:Dl) (bs:List Int):PyData:=if unB bs then .tuple ((bs++free bs (lns d.B)).map PyData.int) else .none
theorem qnH (B:Int):2<=lns B/\lns B<=16:=by
 unfold lns
 (repeat' split)<;>omega
theorem qdy (bs:List Int) (B:Int):(free bs (lns B)).length<=16:=by
 have h:=zi8 (λx=>!(bs.any (·==x))) (zh 0 (lns B).toNat);have:=qnH B;rw [qJ] at h;unfold free;omega
theorem qsp (hp:d.dep<=2) (okd:d.Ok) (h16:d.B<=16) (ok:Big w) (h:∀ q∈sh s w.pc,inT d q):EN [dlD d,Wk.d w,pD s]=some (duD d (bks d s w.pc)):=by
 have hl:=DI ok;have bl:(bks d s w.pc).length<=1000000:=by simp [bks,sh];omega
 have r:=qnH d.B;have fl:=qdy (bks d s w.pc) d.B;have sz:=TF (n:=2) hp okd;have bf:=qrc hp okd ok h;have fa:=qe7 bl;rw [MG];unfold duD;generalize bks d s w.pc=bs at *;cases e:faO bs with
 |some ij=>
  have ed:faD bs=.tuple [.int ij.1,.int ij.2]:=by unfold faD;rw [e]
  have eu:unB bs=false:=by unfold unB;rw [e];rfl
  rw [ed] at fa;rw [eu]
  simp! [Pu.pwA,Q9,bf,fa]
 |none=>
  have ed:faD bs=.none:=by unfold faD;rw [e]
  have eu:unB bs=true:=by unfold unB;rw [e];rfl
  rw [ed] at fa;rw [eu]
  simp! [Pu.pwA,Q9,bf,fa,MB,sz,siz]
  rw [zI (ds:=(zh 0 (lns d.B).toNat).map PyData.int) (fs:=(free bs (lns d.B)).map PyData.int)]
  rotate_left
  ·simp! (disch:=omega) [Pu.pwA,qqU h16,LJ]
  ·refine jU λx hx=>?_;cases z:bs.any (·==x) with
   |true=>simp! [Pu.pwA,jq,qck,z,zg1]
   |false=>simp! [Pu.pwA,jq,qck,z,zn5]
  ·rw [zd9];omega
  rw [zm8]
  simp! [Pu.pwA,qk5 (show (bs.map PyData.int).length+((free bs (lns d.B)).map PyData.int).length<=16777216 by rw [zd9,zd9];omega)]
def spr (cs ds:List (Int×Int)) (R C:Int):List (Int×Int):=cs.flatMap λp=>ds.map λr=>(p.1*R+r.1,p.2*C+r.2)
theorem qbp (cs ds:List (Int×Int)) (R C:Int):(spr cs ds R C).length=cs.length*ds.length:=YN cs ds λp r=>(p.1*R+r.1,p.2*C+r.2)
theorem q3:zY "tuple" "tuple" = true:=rfl
theorem q4:zY "str" "str" = true:=rfl
variable {ps:List (Int×Int)}
theorem qq0 (l1:1<=ps.length) (l2:ps.length<=306):ED [.tuple [.str "cells",.tuple (ps.map pD)]]=some (.bool (decide ps.Nodup)):=by
 have t2:((0+1+1:Nat):Int)=2:=rfl;have ne':¬ (((ps.map pD).length:Int)=0):=by simp;intro z;rw [z] at l1;simp at l1
 have ls:=qje (ps:=ps) l2;rw [show (ps.map λp=>PyData.tuple [.int p.1,.int p.2])=ps.map pD from rfl] at ls;have un:decide ((qkt ps:Int)=((ps.map pD).length:Int))=decide ps.Nodup:=by
  rw [zd9];refine decide_eq_decide.mpr ?_;rw [← qeQ];omega
 rw [LX]
 simp! [Pu.pwA,YM,ze8,zf5,t2,q3,ne',decide_true,decide_false,zg1]
 rw [zI (ds:=ps.map pD) (fs:=ps.map λ_=>PyData.bool true)]
 ·have al:(ps.map λ_=>PyData.bool true)=(ps.map λ_=>true).map PyData.bool:=by rw [zg8];rfl
  have al':(ps.map λ_=>true).all id=true:=by simp
  rw [al]
  simp! [Pu.pwA,NL,al',qel,ls,un,zg1]
 ·simp! [Pu.pwA]
 ·refine zu λp hp=>?_
  simp! [Pu.pwA,jq,qiX]
 ·simp;omega
theorem qm4 (l1:1<=ps.length) (l2:ps.length<=306):X0 [.tuple [.str "cells",.tuple (ps.map pD)]]=some (.bool (decide ps.Nodup)):=by
 have t0:¬ (((0+1+1:Nat):Int)=0):=by decide
 have b1:(zE YI "cells").isSome=false:=by decide
 rw [qan]
 simp! [Pu.pwA,UO,q3,q4,t0,b1,L3.CB,L3.SI,qq0 l1 l2,ze8,zf5,decide_true,decide_false,zg1]
end K54
namespace K54
open PySem L2 L3 Pu Pv
open Bk (Wk Dl Dr zH zp Q1 lnD lnA)
structure Sw (w:Wk):Prop where
 l1:1<=w.pc.length
 l2:w.pc.length<=16
 nd:w.pc.Nodup
 b:∀ p∈w.pc,(-64<=p.1/\p.1<=64)/\(-64<=p.2/\p.2<=64)
 big:Big w
variable {w:Wk}
theorem Sw.cb (h:Sw w):Cb w.pc:=⟨λe=>by have:=h.l1;rw [e] at this;simp at this,λp hp=>by have:=h.b p hp;omega⟩
theorem qhD {α β:Type} {f:α->β} (hf:∀ a b,f a=f b->a=b) {xs:List α} (h:xs.Nodup):(xs.map f).Nodup:=zn8.mpr (h.imp λn e=>n (hf _ _ e))
theorem qd4 {u v:Int} (m:Nat) (h:u≠0\/v≠0):(zH u v m).Nodup:=by
 unfold zH;refine qhD (λa b e=>?_) List.nodup_range;injection e with e1 e2;rcases h with h|h
 ·have:=Int.eq_of_mul_eq_mul_right h e1;omega
 ·have:=Int.eq_of_mul_eq_mul_right h e2;omega
theorem qdF (h w:Nat):(zp h w).Nodup:=by
 induction h with
 |zero=>simp [zp]
 |succ h ih=>
  rw [Bk.EI];refine List.nodup_append.mpr ⟨ih,qhD (λa b e=>by injection e with e1 e2;omega) List.nodup_range,λa ha b hb e=>?_⟩;subst e;obtain ⟨q,_,rfl⟩:=zf4.mp hb;obtain ⟨i,hi,hj⟩:=zj9.mp ha;obtain ⟨j,_,e⟩:=zf4.mp hj;have:=zi0.mp hi;injection e with e1 e2;omega
theorem MO {u v:Int} {m:Nat} (e:w.pc=zH u v m) (hw:Big w) (h:u≠0\/v≠0) (hu:-2<=u/\u<=2) (hv:-2<=v/\v<=2) (m1:1<=m) (m2:m<=3):Sw w:=by
 refine ⟨by rw [e];simp [zH];omega,by rw [e];simp [zH];omega,by rw [e];exact qd4 m h,λp hp=>?_,hw⟩;rw [e] at hp;obtain ⟨t,ht,rfl⟩:=zf4.mp hp;have:=zi0.mp ht;have:t=0\/t=1\/t=2:=by omega
 rcases this with rfl|rfl|rfl<;>(simp only;omega)
theorem qiR {k m:Nat} (hk:k<4) (m1:1<=m) (m2:m<=3):Sw (.line k m):=by
 refine MO (u:=lnD k) (v:=lnA k) rfl ⟨hk,by omega⟩ ?_ ?_ ?_ m1 m2 <;>
 ·match k,hk with
  |0,_=>decide
  |1,_=>decide
  |2,_=>decide
  |3,_=>decide
theorem qeB {h w:Nat} (h1:1<=h) (h2:h<=3) (w1:1<=w) (w2:w<=3):Sw (.block h w):=by
 have l1:=zh7 h1 w1;have l2:=zh7 h2 w2;refine ⟨by simp only [Wk.pc,Bk.J0];omega,by simp only [Wk.pc,Bk.J0];omega,qdF h w,λp hp=>?_,⟨by omega,by omega⟩⟩;obtain ⟨i,hi,hj⟩:=zj9.mp hp;obtain ⟨j,hj2,rfl⟩:=zf4.mp hj;have:=zi0.mp hi;have:=zi0.mp hj2;simp only;omega
noncomputable def ddp (ps:List (Int×Int)):List (Int×Int):=(ps.zipIdx.filter λq=>!decide (q.1∈ps.take q.2)).map λq=>q.1
theorem qoO (ps:List (Int×Int)):(ddp ps).Nodup:=by
 unfold ddp;have idx:ps.zipIdx.Pairwise λa b=>a.2<b.2:=by
  rw [xa5];intro i j hi hj h;simp only [List.getElem_zipIdx];omega
 have mem:∀ q∈ps.zipIdx,ps[q.2]?=some q.1:=λq hq=>by
  obtain ⟨i,hi⟩:=xd0.mp hq;obtain ⟨a,b,_⟩:=RC (x:=q.1) (n:=q.2) hi;rw [b];exact a
 refine zn8.mpr (xf4 (λ{a b} ha hb h=>?_) (idx.sublist List.filter_sublist));intro e;have a1:=mem a (zi5.mp ha).1;have b1:=(zi5.mp hb).2;simp only [Bool.not_eq_true',decide_eq_false_iff_not] at b1;refine b1 ?_;rw [← e];have:(ps.take b.2)[a.2]?=some a.1:=by rw [List.getElem?_take,if_pos h];exact a1
 exact za3 this
variable {ps:List (Int×Int)} {p:Int×Int}
theorem qiq (h:p∈ddp ps):p∈ps:=by
 obtain ⟨q,hq,rfl⟩:=zf4.mp h;obtain ⟨i,hi⟩:=xd0.mp (zi5.mp hq).1;exact za3 (RC (x:=q.1) (n:=q.2) hi).1
theorem qbT (ps:List (Int×Int)):(ddp ps).length<=ps.length:=by
 unfold ddp;rw [zd9];exact za4 (zi8 _ _) (by simp)
theorem qmD:1<=(ddp (p::ps)).length:=by
 unfold ddp;rw [xe4,List.filter_cons];simp
theorem SB {k l:Int}:∀ ps:List (Int×Int),qa6 (.tuple [.int k,.int l]) (ps.map pD)=some (decide ((k,l)∈ps))
 |[]=>rfl
 |p::ps=>by
  have e:jS (pD p) (.tuple [.int k,.int l])=some (decide (p=(k,l))):=by
   obtain ⟨a,b⟩:=p;simp only [pD,jS,YV];by_cases c1:a=k<;>by_cases c2:b=l<;>simp [c1,c2]
  rw [zg2,qa6,e,SB ps];simp only;congr 1;by_cases c:p=(k,l)
  ·subst c;simp
  ·have:¬ (k,l)=p:=λz=>c z.symm;by_cases c2:(k,l)∈ps<;>simp [c,c2,this]
theorem qkA:qlM true (pD p) (.list (ps.map pD))=some (.bool (!decide (p∈ps))):=by
 obtain ⟨k,l⟩:=p;refine (zk λy hy=>?_).trans ?_
 ·obtain ⟨p,_,rfl⟩:=zf4.mp hy;simp [pD,dpt,qcl]
 ·rw [show pD (k,l)=.tuple [.int k,.int l] from rfl,SB];rfl
theorem qd8 {α:Type} (xs:List α) (k:Nat):QY xs none (some (k:Int))=xs.take k:=by
 unfold QY;rw [HT.qjY,HT.qeo,List.drop_zero,Nat.sub_zero,List.take_eq_take_iff];omega
variable {n:Nat}
theorem qdh {Q:QD} (hn:n<900000) (h:∀ (w:Wk) (m:Nat),Sw w->m<=n+20->Q (Wk.d w) m):ZN.W [] n Q:=by
 rw [TN];refine ⟨rfl,?_⟩;unfold ZP;refine QA λY1 h1=>?_
 simp! [Pu.pwA]
 refine ⟨by omega,by omega,λwy y0 y1=>⟨by omega,by omega,λmm m0 m1=>?_⟩⟩;obtain ⟨m,rfl⟩:=zf3 m0;have em:(1:Int)+(m:Int)=((1+m:Nat):Int):=by omega
 simp! [Pu.pwA,em]
 rw [h1];refine QA λY2 h2=>?_;by_cases c1:wy<4
 ·simp! [Pu.pwA,c1,decide_true]
  obtain ⟨k,rfl⟩:=zf3 y0;have:k=0\/k=1\/k=2\/k=3:=by omega
  have hh:=h (.line k (1+m)) (n+2) (qiR (by omega) (by omega) (by omega)) (by omega);rcases this with rfl|rfl|rfl|rfl<;>exact ⟨_,rfl,_,u9 _,hh⟩
 simp! [Pu.pwA,c1,decide_false]
 rw [h2];refine QA λY3 h3=>?_;by_cases c2:wy=4
 ·simp! [Pu.pwA,c2,decide_true]
  refine ⟨by omega,by omega,λx x0 x1=>?_⟩;obtain ⟨v,rfl⟩:=zf3 x0;have ev:(1:Int)+(v:Int)=((1+v:Nat):Int):=by omega
  have hh:=h (.block (1+m) (1+v)) (n+3) (qeB (by omega) (by omega) (by omega) (by omega)) (by omega)
  simp! [Pu.pwA,ev]
  exact ⟨_,u9 _,hh⟩
 simp! [Pu.pwA,c2,decide_false]
 rw [h3];refine QA λY4 h4=>?_;by_cases c3:wy=5
 ·simp! [Pu.pwA,c3,decide_true]
  refine ⟨by omega,by omega,λu u0 u1=>⟨by omega,by omega,λv v0 v1=>?_⟩⟩;have hh:=h (.step u (1+v) (1+m)) (n+4) (MO rfl ⟨by omega,by omega,by omega⟩ (.inr (by omega)) (by omega) (by omega) (by omega) (by omega)) (by omega);exact ⟨_,u9 _,hh⟩
 simp! [Pu.pwA,c3,decide_false]
 rw [h4];refine QA λY5 h5=>?_
 simp! (disch:=omega) [Pu.pwA,LJ]
 refine ⟨by rw [zd9,qJ];omega,?_⟩;refine SY (R:=λp:Int×Int=>(-1<=p.1/\p.1<=2)/\(-1<=p.2/\p.2<=2)) (gd:=pD) (c:=2) (N:=n+10) (zh 0 ((1+m:Nat):Int).toNat) _ _ (λx _ n' Q' hn' h'=>?_) QR.mn mnT (by rw [qJ];omega) λbs lb hb=>?_
 ·refine ⟨_,rfl,?_⟩;unfold QR
  simp! [Pu.pwA]
  refine ⟨by omega,by omega,λu u0 u1=>⟨by omega,by omega,λv v0 v1=>?_⟩⟩;exact h' (u-1,v-1) ⟨by simp only;omega,by simp only;omega⟩
 ·rw [qJ] at lb;refine ⟨by rw [zd9];omega,?_⟩
  simp! [Pu.pwA]
  rw [h5];have dl:=qbT bs
  simp! [Pu.pwA]
  rw [zI (ds:=(bs.zipIdx).map λp=>PyData.tuple [.int (p.2:Int),pD p.1]) (fs:=(ddp bs).map pD)]
  ·simp! [Pu.pwA]
   cases bs with
   |nil=>simp at lb;omega
   |cons b bs=>
    have d2:=qbT (b::bs);refine ⟨_,u9 _,h (.cells (ddp (b::bs))) _ ⟨qmD,by simp only [Wk.pc];omega,qoO _,λp hp=>?_,by simp only [Big];omega⟩ ?_⟩
    ·have:=hb p (qiq hp);omega
    ·rw [qJ];omega
  ·simp! [Pu.pwA,qb5]
  ·unfold ddp;rw [zg8];refine jU λq hq=>?_;obtain ⟨p,i⟩:=q;have st:slD (.list (bs.map pD)) none (some (i:Int))=some (.list ((bs.take i).map pD)):=by rw [qqE,qd8,List.map_take]
   simp! [Pu.pwA,jq,st,qkA,ze6]
   cases decide (p∈bs.take i)<;>simp! [Pu.pwA]
  ·rw [zd9];omega
structure Lt (d:Dl):Prop where
 ok:d.Ok
 dep:d.dep=0
 r:d.R<=2
 c:d.C<=2
 b:d.B<=2
theorem M1 {Q:QD} (hn:n<900000) (h:∀ (d:Dl) (m:Nat),Lt d->m<=n+20->Q (dlD d) m):QH.W [] n Q:=by
 rw [SW];refine ⟨rfl,?_⟩;unfold QG;refine QA λY1 h1=>?_
 simp! [Pu.pwA]
 refine ⟨by omega,by omega,λr r0 r1=>⟨by omega,by omega,λc c0 c1=>⟨by omega,by omega,λb b0 b1=>?_⟩⟩⟩
 simp! [Pu.pwA]
 rw [h1];refine QA λY2 h2=>?_
 simp! [Pu.pwA]
 refine ⟨by omega,by omega,λk k0 k1=>?_⟩;by_cases kk:k=0
 ·simp! [Pu.pwA,kk,decide_true]
  refine ⟨by omega,by omega,λx x0 x1=>⟨by omega,by omega,λy y0 y1=>?_⟩⟩;exact ⟨_,u9 _,h (.skew (1+r) (1+c) (1+b) x y) _ ⟨⟨by omega,by omega,by omega,by omega,by omega,by omega,by omega,by omega,by omega,by omega⟩,rfl,by simp only [Dl.R];omega,by simp only [Dl.C];omega,by simp only [Dl.B];omega⟩ (by omega)⟩
 simp! [Pu.pwA,kk,decide_false]
 rw [h2]
 simp! (disch:=omega) [Pu.pwA,LJ]
 refine ⟨by rw [zd9,qJ];omega,?_⟩;refine SY (R:=λrw:List Int=>rw.length=(1+c).toNat/\∀ x∈rw,0<=x/\x<1+b) (gd:=qjr) (c:=(1+c).toNat) (N:=n+10) (zh 0 (1+r).toNat) _ _ (λx _ n' Q' hn' h'=>?_) j6.mn mnT (by
  rw [qJ];have:=zh7 (show (1+c).toNat<=2 by omega) (show (1+r).toNat<=2 by omega);omega) λbs lb hb=>?_
 ·refine ⟨_,rfl,?_⟩;unfold j6
  simp! (disch:=omega) [Pu.pwA,LJ]
  refine ⟨by rw [zd9,qJ];omega,?_⟩;refine SY (R:=λi:Int=>0<=i/\i<1+b) (gd:=PyData.int) (c:=1) (N:=n+20) (zh 0 (1+c).toNat) _ _ (λx _ n2 Q2 hn2 h2=>?_) j8.mn mnT (by rw [qJ];omega) λbs lb hb=>?_
  ·refine ⟨_,rfl,?_⟩;unfold j8
   simp! [Pu.pwA]
   exact ⟨by omega,by omega,λz z0 z1=>h2 z ⟨z0,z1⟩⟩
  ·rw [qJ] at lb;refine ⟨by rw [zd9];omega,?_⟩;have:=h' bs ⟨lb,hb⟩;rw [qJ,Nat.one_mul];exact this
 ·rw [qJ] at lb;refine ⟨by rw [zd9];omega,?_⟩
  simp! [Pu.pwA]
  have e0:bs[0]?=some bs[0]:=u7 (by omega);have l0:=(hb bs[0] (za8 _)).1;have mm:=zh7 (show (1+c).toNat<=2 by omega) (show (1+r).toNat<=2 by omega);refine ⟨_,u9 _,h (.table (1+b) bs) _ ⟨⟨by omega,by omega,by omega,by omega,(1+c).toNat,by omega,by omega,λw hw=>hb w hw⟩,rfl,by simp only [Dl.R];omega,by simp only [Dl.C,e0,xi9];omega,by simp only [Dl.B];omega⟩ (by rw [qJ];omega)⟩
noncomputable def tw:List Wk:=[.line 0 1,.line 0 2,.line 1 2,.line 2 2,.line 3 2,.block 2 2,.cells [(1,0),(0,1)]]
structure Ty (w:Wk):Prop where
 l1:1<=w.pc.length
 l2:w.pc.length<=4
 nd:w.pc.Nodup
 b:∀ p∈w.pc,(-2<=p.1/\p.1<=2)/\(-2<=p.2/\p.2<=2)
 big:Big w
theorem Ty.sw (h:Ty w):Sw w:=⟨h.l1,by have:=h.l2;omega,h.nd,λp hp=>by have:=h.b p hp;omega,h.big⟩
theorem qjH (h:w∈tw):Ty w:=by
 simp only [tw,ze9,zf0,or_false] at h;rcases h with rfl|rfl|rfl|rfl|rfl|rfl|rfl
 all_goals exact ⟨by decide,by decide,by decide,by decide,by simp [Big]⟩
variable {d:Dl}
theorem qoG (ok:d.Ok) (h:Sw w):(stI d.R d.C w.pc).length<=16777216:=LK h.cb (Dl.lims ok).r2 (Dl.lims ok).c2
theorem qqJ (ok:d.Ok):stI d.R d.C (Wk.line 0 1).pc≠[]:=by
 have l:=Dl.lims ok;have:=l.r1;have:=l.c1;have h:(0,0)∈stI d.R d.C (Wk.line 0 1).pc:=qcm (qjH (by simp [tw])).sw.cb (MX λq hq=>by
  simp [sh,Wk.pc,zH,lnD,lnA] at hq;subst hq;exact ⟨by decide,by show (0:Int)<d.R;omega,by decide,by show (0:Int)<d.C;omega⟩)
 intro e;rw [e] at h;cases h
theorem qe8 {Q:QD} (hn:n<900000) (dp:d.dep<=2) (ok:d.Ok) (h:∀ w:Wk,Ty w->stI d.R d.C w.pc≠[]->Q (Wk.d w) (n+1)):YJ.W [dlD d] n Q:=by
 rw [LP];refine ⟨rfl,?_⟩;unfold YB;refine QA λY1 h1=>?_
 simp! [Pu.pwA]
 rw [h1];refine QA λY2 h2=>?_
 simp! [Pu.pwA]
 rw [h2];refine ⟨by omega,QA λY3 h3=>?_⟩
 simp! [Pu.pwA]
 rw [zI (ds:=tw.map Wk.d) (fs:=(tw.filter λw=>!decide (stI d.R d.C w.pc=[])).map Wk.d)]
 rotate_left
 ·rfl
 ·refine jU λw hw=>?_;have S:=(qjH hw).sw
  simp! [Pu.pwA,jq,qnj dp ok S.big S.cb,WU]
  cases decide (stI d.R d.C w.pc=[])<;>simp! [Pu.pwA,zg1,zn5]
 ·rw [zd9];have:=zi8 (λw=>!decide (stI d.R d.C w.pc=[])) tw;have e:tw.length=7:=rfl;omega
 simp! [Pu.pwA]
 rw [h3];have hl:(tw.filter λw=>!decide (stI d.R d.C w.pc=[])).length<=7:=zi8 _ tw;have h0:1<=(tw.filter λw=>!decide (stI d.R d.C w.pc=[])).length:=by
  refine List.length_pos_of_mem (a:=Wk.line 0 1) (zi5.mpr ⟨by simp [tw],?_⟩);have:=qqJ ok;simp only [this,decide_false,zn5]
 have hm:∀ w∈tw.filter (λw=>!decide (stI d.R d.C w.pc=[])),Ty w/\stI d.R d.C w.pc≠[]:=λw hw=>by
  obtain ⟨a,b⟩:=zi5.mp hw;exact ⟨qjH a,by simpa using b⟩
 generalize (tw.filter λw=>!decide (stI d.R d.C w.pc=[]))=ws at *
 simp! [Pu.pwA,zd9]
 refine ⟨by omega,by omega,λt t0 t1=>?_⟩;obtain ⟨k,rfl⟩:=zf3 t0;have hk:k<ws.length:=by omega
 have ai:L2.atI (ws.map Wk.d) (k:Int)=some (Wk.d ws[k]):=by
  rw [atN (by simpa using hk),ze5,u7 hk];rfl
 have sm:=hm _ (za8 hk);exact ⟨_,ai,_,u9 _,h _ sm.1 sm.2⟩
theorem qmu {s:Int×Int} (hp:d.dep<=2) (ok:d.Ok) (S:Sw w) (hs:s∈stI d.R d.C w.pc):zj [dlD d,Wk.d w,pD s]=some (.bool (unB (bks d s w.pc))):=by
 have:=S.l2;have bl:(bks d s w.pc).length<=16:=by simp [bks,sh];omega
 have lf:=qrM hp ok S.big (KO hs);rw [EO];generalize bks d s w.pc=bs at *;have ls:qag (.list (bs.map PyData.int))=some (.int (V6 bs)):=qh9 (by omega)
 simp! [Pu.pwA,zX,lf,ls,zd9,qqz]
def chs (t:Int) (rs:List (List (Int×Int))):List (Int×Int):=(rs.zipIdx.filter λq=>!decide (q.1=[])).map λq=>q.1.getD ((t+(q.2:Int))%(q.1.length:Int)).toNat (0,0)
theorem qbP {xs:List (Int×Int)} {i:Int} (h0:0<=i) (h1:i<(xs.length:Int)):L2.atI (xs.map pD) i=some (pD (xs.getD i.toNat (0,0)))/\xs.getD i.toNat (0,0)∈xs:=by
 obtain ⟨k,rfl⟩:=zf3 h0;have hk:k<xs.length:=by omega
 rw [zf8,ze4,u7 hk,atN (by simpa using hk),ze5,u7 hk];exact ⟨rfl,za8 hk⟩
theorem N0 {Q:QD} (hn:n<900000) (dp:d.dep<=2) (ok:d.Ok) (S:Sw w) (h:∀ xs:List (Int×Int),xs.length<=3->(∀ s∈xs,s∈stI d.R d.C w.pc)->Q (.list (xs.map pD)) (n+1)):JR.W [dlD d,Wk.d w] n Q:=by
 rw [SO];refine ⟨rfl,?_⟩;have sl:=qoG ok S;unfold QC;refine QA λY1 h1=>?_
 simp! [Pu.pwA,qnj dp ok S.big S.cb]
 rw [h1];refine QA λY2 h2=>?_
 simp! [Pu.pwA]
 rw [zI (ds:=(stI d.R d.C w.pc).map pD) (fs:=((stI d.R d.C w.pc).filter λs=>unB (bks d s w.pc)).map pD)]
 rotate_left
 ·rfl
 ·refine jU λs hs=>?_
  simp! [Pu.pwA,jq,qmu dp ok S hs]
  cases unB (bks d s w.pc)<;>simp! [Pu.pwA]
 ·rw [zd9];exact za4 (zi8 _ _) sl
 simp! [Pu.pwA]
 rw [h2];refine QA λY3 h3=>?_
 simp! [Pu.pwA]
 refine ⟨by omega,by omega,λt t0 t1=>?_⟩
 simp! [Pu.pwA]
 rw [h3];have fm:∀ s∈(stI d.R d.C w.pc).filter (λs=>unB (bks d s w.pc)),s∈stI d.R d.C w.pc:=λs hs=>(zi5.mp hs).1;generalize (stI d.R d.C w.pc).filter (λs=>unB (bks d s w.pc))=gd at *;generalize stI d.R d.C w.pc=st at *;have ds:enD 0 [PyData.list (gd.map pD),.list (gd.map pD),.list (st.map pD)]=(([gd,gd,st].zipIdx 0).map λp=>PyData.tuple [.int (p.2:Int),.list (p.1.map pD)]):=qb5 (λr:List (Int×Int)=>PyData.list (r.map pD)) [gd,gd,st] 0;have cl:(chs t [gd,gd,st]).length<=3:=by
  unfold chs;rw [zd9];exact zi8 _ ([gd,gd,st].zipIdx 0)
 have memz:∀ r∈[gd,gd,st].zipIdx 0,∀ s∈r.1,s∈st:=λr hr s hs=>by
  simp [xe4] at hr;rcases hr with rfl|rfl|rfl
  ·exact fm s hs
  ·exact fm s hs
  ·exact hs
 have rng:∀ r:List (Int×Int)×Nat,r.1≠[]->0<(r.1.length:Int)/\0<=(t+(r.2:Int))%(r.1.length:Int)/\(t+(r.2:Int))%(r.1.length:Int)<(r.1.length:Int):=λr hr=>by
  have:=xk9.mpr hr;exact ⟨by omega,zh6 _ (by omega),zg0 _ (by omega)⟩
 simp! [Pu.pwA]
 rw [zI (ds:=(([gd,gd,st].zipIdx 0).map λp=>PyData.tuple [.int (p.2:Int),.list (p.1.map pD)])) (fs:=(chs t [gd,gd,st]).map pD)]
 ·refine ⟨_,rfl,_,u9 _,h _ cl λs hs=>?_⟩;obtain ⟨r,hr,rfl⟩:=zf4.mp hs;obtain ⟨a,b⟩:=zi5.mp hr;have b':r.1≠[]:=by simpa using b
  obtain ⟨_,c2,c3⟩:=rng r b';exact memz r a _ (qbP c2 c3).2
 ·simp! [Pu.pwA,ds]
 ·unfold chs;rw [zg8];refine jU λr hr=>?_;by_cases e:r.1=[]
  ·simp! [Pu.pwA,jq,WU,e,decide_true,zg1]
  ·obtain ⟨c1,c2,c3⟩:=rng r e
   simp! (disch:=omega) [Pu.pwA,jq,WU,e,decide_false,zn5,zd9,qmN,(qbP c2 c3).1,ze6]
 ·rw [zd9];omega
end K54
namespace K54
open PySem L2 L3 Pu Pv
open Bk (Wk Dl Dr zH zp Q1 lnD lnA Un2)
theorem qet (p:Int×Int) (cs ds:List (Int×Int)) (R C:Int):spr (p::cs) ds R C=(ds.map λr=>(p.1*R+r.1,p.2*C+r.2))++spr cs ds R C:=by simp [spr]
variable {R C:Int} {o:Int×Int}
theorem qcp {p p' r r':Int×Int} (hr:(0<=o.1+r.1/\o.1+r.1<R)/\(0<=o.2+r.2/\o.2+r.2<C)) (hr':(0<=o.1+r'.1/\o.1+r'.1<R)/\(0<=o.2+r'.2/\o.2+r'.2<C)) (e:((p.1*R+r.1,p.2*C+r.2):Int×Int)=(p'.1*R+r'.1,p'.2*C+r'.2)):p=p'/\r=r':=by
 obtain ⟨⟨a1,a2⟩,a3,a4⟩:=hr;obtain ⟨⟨b1,b2⟩,b3,b4⟩:=hr';have e1:p.1*R+r.1=p'.1*R+r'.1:=congrArg Prod.fst e;have e2:p.2*C+r.2=p'.2*C+r'.2:=congrArg Prod.snd e;have key:∀ {R x x' y y':Int},0<=y->y<R->0<=y'->y'<R->x*R+y=x'*R+y'->x=x'/\y=y':=λ{R x x' y y'} h1 h2 h3 h4 h=>by
  have q1:(x*R+y)/R=x:=by rw [zp2,zk1 _ _ (by omega),zk2 h1 h2];omega
  have q2:(x'*R+y')/R=x':=by rw [zp2,zk1 _ _ (by omega),zk2 h3 h4];omega
  rw [h,q2] at q1;subst q1;exact ⟨rfl,by omega⟩
 obtain ⟨c1,c2⟩:=key a1 a2 b1 b2 (show p.1*R+(o.1+r.1)=p'.1*R+(o.1+r'.1) by omega);obtain ⟨c3,c4⟩:=key a3 a4 b3 b4 (show p.2*C+(o.2+r.2)=p'.2*C+(o.2+r'.2) by omega);exact ⟨Prod.ext c1 c3,Prod.ext (by omega) (by omega)⟩
variable {cs:List (Int×Int)}
theorem qhP {ds:List (Int×Int)} (hc:cs.Nodup) (hd:ds.Nodup) (ho:∀ r∈ds,(0<=o.1+r.1/\o.1+r.1<R)/\(0<=o.2+r.2/\o.2+r.2<C)):(spr cs ds R C).Nodup:=by
 induction cs with
 |nil=>simp [spr]
 |cons p cs ih=>
  obtain ⟨n1,n2⟩:=zj4.mp hc;rw [qet];refine List.nodup_append.mpr ⟨zn8.mpr (hd.imp_of_mem λha hb n e=>n (qcp (ho _ ha) (ho _ hb) e).2),ih n2,λa ha b hb e=>?_⟩;subst e;obtain ⟨r,hr,rfl⟩:=zf4.mp ha;obtain ⟨p',hp',hb⟩:=zj9.mp hb;obtain ⟨r',hr',e⟩:=zf4.mp hb;exact n1 ((qcp (ho _ hr') (ho _ hr) e).1▸hp')
def wh (w v:Wk) (R C:Int):Wk:=.cells (spr w.pc v.pc R C)
variable {w v:Wk}
theorem MW (S:Sw w) (T:Sw v) (R C:Int):1<=(wh w v R C).pc.length/\(wh w v R C).pc.length<=256:=by
 have a:=S.l1;have b:=S.l2;have c:=T.l1;have d:=T.l2;have:=qbp w.pc v.pc R C;have m1:=zh7 a c;have m2:=zh7 b d;show 1<=(spr w.pc v.pc R C).length/\(spr w.pc v.pc R C).length<=256;omega
theorem qmZ {x:Int} (hx:-64<=x/\x<=64) (hR:1<=R/\R<=16):-1024<=x*R/\x*R<=1024:=by
 have a:x*R<=64*R:=zk0 hx.2 (by omega);have b:(-64)*R<=x*R:=zk0 hx.1 (by omega);omega
theorem qnq (S:Sw w) (T:Sw v) (hR:1<=R/\R<=16) (hC:1<=C/\C<=16):Cb (wh w v R C).pc:=by
 refine ⟨λe=>?_,λq hq=>?_⟩
 ·have:=(MW S T R C).1;rw [e] at this;simp at this
 ·obtain ⟨p,hp,hq⟩:=zj9.mp hq;obtain ⟨r,hr,rfl⟩:=zf4.mp hq;have:=T.b r hr;have:=qmZ (S.b p hp).1 hR;have:=qmZ (S.b p hp).2 hC;simp only;omega
theorem TM (S:Sw w) (T:Sw v) (R C:Int):Big (wh w v R C):=by
 have:(spr w.pc v.pc R C).length<=256:=(MW S T R C).2;show (spr w.pc v.pc R C).length<=1000;omega
theorem qlb (S:Sw w) (T:Sw v) (hR:1<=R/\R<=16) (hC:1<=C/\C<=16) (nd:(spr w.pc v.pc R C).Nodup):WP [Wk.d w,Wk.d v,.int R,.int C]=some (Wk.d (wh w v R C)):=by
 have c1:=Q4 S.big;have c2:=Q4 T.big;obtain ⟨s1,s2⟩:1<=(spr w.pc v.pc R C).length/\(spr w.pc v.pc R C).length<=256:=MW S T R C;have iw:=qm4 (ps:=spr w.pc v.pc R C) s1 (by omega);rw [zb0 nd] at iw;rw [qb0]
 simp! [Pu.pwA,WG]
 rw [ME (ds:=w.pc.map pD) (fs:=(spr w.pc v.pc R C).map pD)]
 ·simp! [Pu.pwA,iw,wh,Wk.d,zg1]
 ·simp! [Pu.pwA,c1]
 ·rw [show (spr w.pc v.pc R C).map pD=w.pc.flatMap λp=>(v.pc.map λr=>pD (p.1*R+r.1,p.2*C+r.2)) by unfold spr;rw [xc1];congr 1;funext p;rw [zg8];rfl];refine R8 λp hp=>?_;have pl:=S.b p hp
  simp! [Pu.pwA,qdm,pD]
  simp! [Pu.pwA,c2]
  rw [zu (g:=pD) (k:=λr=>pD (p.1*R+r.1,p.2*C+r.2))]
  ·rfl
  ·intro r hr
   simp! (disch:=omega) [Pu.pwA,jq,pD,JQ]
 ·rw [zd9];omega
def bo (s o:Int×Int) (R C:Int):Int×Int:=(s.1*R+o.1,s.2*C+o.2)
def wo (s o:Int×Int) (R C:Int) (cs ds:List (Int×Int)):List (Int×Int):=cs.flatMap λp=>ds.map λr=>((s.1+p.1)*R+o.1+r.1,(s.2+p.2)*C+o.2+r.2)
theorem qil (s o:Int×Int) (R C:Int) (cs ds:List (Int×Int)):sh (bo s o R C) (spr cs ds R C)=wo s o R C cs ds:=by
 unfold sh spr wo bo;rw [xc1];congr 1;funext p;rw [zg8];refine xb5 λr _=>?_;simp only [ze6,Int.add_mul];refine Prod.ext ?_ ?_<;>(simp only;omega)
variable {d e:Dl}
theorem qqq {x y:Int×Int} (okd:d.Ok) (oke:e.Ok) (hx:inT d x) (hy:inT e y):inT (.joined d e) (x.1*e.R+y.1,x.2*e.C+y.2)/\bk (.joined d e) (x.1*e.R+y.1,x.2*e.C+y.2)=bk d x*e.B+bk e y:=by
 have le:=Dl.lims oke;have r1:=le.r1;have c1:=le.c1;obtain ⟨x1,x2,x3,x4⟩:=hx;obtain ⟨y1,y2,y3,y4⟩:=hy;have key:∀ {a b m n:Int},1<=n->0<=a->a<m->0<=b->b<n->(0<=a*n+b/\a*n+b<m*n)/\(a*n+b)/n=a/\(a*n+b)%n=b:=λ{a b m n} hn ha hm hb hbn=>by
  have q1:(a*n+b)/n=a:=by rw [zp2,zk1 _ _ (by omega),zk2 hb hbn];omega
  have q2:(a*n+b)%n=b:=by rw [zp2,zm0,xd4 hb hbn]
  have m1:=Int.mul_nonneg ha (show 0<=n by omega);have m2:(a+1)*n<=m*n:=zk0 (by omega) (by omega);rw [Int.add_mul] at m2;exact ⟨⟨by omega,by omega⟩,q1,q2⟩
 obtain ⟨⟨i1,i2⟩,i3,i4⟩:=key r1 x1 x2 y1 y2;obtain ⟨⟨j1,j2⟩,j3,j4⟩:=key c1 x3 x4 y3 y4;refine ⟨⟨i1,i2,j1,j2⟩,?_⟩;simp only [bk,Dl.bank,i3,i4,j3,j4]
theorem SQ {α β:Type} {f g:α->List β}:∀ {xs:List α},(∀ a∈xs,f a=g a)->xs.flatMap f=xs.flatMap g
 |[],_=>rfl
 |x::xs,h=>by rw [xb0,xb0,h x (by simp),SQ λa ha=>h a (by simp [ha])]
noncomputable def pr (xs ys:List Int) (m:Int):List Int:=xs.flatMap λx=>ys.map λy=>x*m+y
variable {s:Int×Int}
theorem qgf (okd:d.Ok) (oke:e.Ok) (hs:s∈stI d.R d.C w.pc) (ho:o∈stI e.R e.C v.pc):(∀ q∈sh (bo s o e.R e.C) (wh w v e.R e.C).pc,inT (.joined d e) q)/\bks (.joined d e) (bo s o e.R e.C) (wh w v e.R e.C).pc=pr (bks d s w.pc) (bks e o v.pc) e.B:=by
 have one:∀ p∈w.pc,∀ r∈v.pc,inT (.joined d e) ((s.1+p.1)*e.R+o.1+r.1,(s.2+p.2)*e.C+o.2+r.2)/\bk (.joined d e) ((s.1+p.1)*e.R+o.1+r.1,(s.2+p.2)*e.C+o.2+r.2)=bk d (s.1+p.1,s.2+p.2)*e.B+bk e (o.1+r.1,o.2+r.2):=λp hp r hr=>by
  have a:=qqq okd oke (KO hs _ (zf4.mpr ⟨p,hp,rfl⟩)) (KO ho _ (zf4.mpr ⟨r,hr,rfl⟩));simp only [← Int.add_assoc] at a;exact a
 constructor
 ·intro q hq;rw [show (wh w v e.R e.C).pc=spr w.pc v.pc e.R e.C from rfl,qil] at hq;obtain ⟨p,hp,hq⟩:=zj9.mp hq;obtain ⟨r,hr,rfl⟩:=zf4.mp hq;exact (one p hp r hr).1
 ·unfold bks pr;rw [show (wh w v e.R e.C).pc=spr w.pc v.pc e.R e.C from rfl,qil];unfold wo sh;rw [xc1,zg8,zg8,List.flatMap_map];refine SQ λp hp=>?_;rw [zg8,zg8];exact xb5 λr hr=>(one p hp r hr).2
theorem qbV (b:Int):cnt [] b=0:=rfl
theorem S4 (xs ys:List Int) (b:Int):cnt (xs++ys) b=cnt xs b+cnt ys b:=by
 unfold cnt;rw [List.filter_append,zg9];omega
theorem WQ (xs:List Int) (b:Int):0<=cnt xs b:=by unfold cnt;omega
variable {xs:List Int} {b:Int}
theorem qdd (h:b∈xs):1<=cnt xs b:=by
 have:0<(xs.filter λn=>decide (n=b)).length:=List.length_pos_of_mem (zi5.mpr ⟨h,zb0 rfl⟩);unfold cnt;omega
variable {ys:List Int} {m:Int}
theorem qiH {x:Int} (hy:∀ y∈ys,0<=y/\y<m):cnt (ys.map λy=>x*m+y) b=if x=b/m then cnt ys (b%m) else 0:=by
 induction ys with
 |nil=>simp only [zh8,qbV];split<;>rfl
 |cons y ys ih=>
  have h0:=hy y (by simp);have ih:=ih λz hz=>hy z (by simp [hz]);rw [zg2,show (x*m+y)::ys.map (λy=>x*m+y)=[x*m+y]++ys.map (λy=>x*m+y) from rfl,show y::ys=[y]++ys from rfl,S4,S4,ih];have q:x*m+y=b↔x=b/m/\y=b%m:=by
   have q1:(x*m+y)/m=x:=by rw [zp2,zk1 _ _ (by omega),zk2 h0.1 h0.2];omega
   have q2:(x*m+y)%m=y:=by rw [zp2,zm0,xd4 h0.1 h0.2]
   constructor
   ·rintro rfl;exact ⟨q1.symm,q2.symm⟩
   ·rintro ⟨e1,e2⟩;have:=Int.mul_ediv_add_emod b m;rw [e1,e2,Int.mul_comm];exact this
  have one:∀ (z c:Int),cnt [z] c=if z=c then 1 else 0:=λz c=>by
   unfold cnt;by_cases e:z=c<;>simp [e]
  rw [one,one];by_cases e1:x=b/m
  ·by_cases e2:y=b%m
   ·rw [if_pos (q.mpr ⟨e1,e2⟩),if_pos e2,if_pos e1,if_pos e1]
   ·rw [if_neg λz=>e2 (q.mp z).2,if_neg e2,if_pos e1,if_pos e1]
  ·rw [if_neg λz=>e1 (q.mp z).1,if_neg e1,if_neg e1];rfl
theorem C4 (hy:∀ y∈ys,0<=y/\y<m) (xs:List Int):cnt (pr xs ys m) b=cnt xs (b/m)*cnt ys (b%m):=by
 induction xs with
 |nil=>simp [pr,qbV]
 |cons x xs ih=>
  rw [show pr (x::xs) ys m=(ys.map λy=>x*m+y)++pr xs ys m from rfl,S4,qiH hy,ih,show x::xs=[x]++xs from rfl,S4];have one:cnt [x] (b/m)=if x=b/m then 1 else 0:=by
   unfold cnt;by_cases e:x=b/m<;>simp [e]
  rw [one,Int.add_mul];split
  ·rw [Int.one_mul]
  ·rw [Int.zero_mul]
theorem NR (h:b∉xs):cnt xs b=0:=by
 unfold cnt;have:(xs.filter λn=>decide (n=b))=[]:=List.filter_eq_nil_iff.mpr λn hn e=>h (by rw [← of_decide_eq_true e];exact hn);rw [this];rfl
theorem NY:unB xs=true↔∀ b,cnt xs b<=1:=by
 rw [qdf,qea,List.nodup_iff_count];have e:∀ b,cnt xs b=(xs.count b:Int):=λb=>by
  unfold cnt;rw [List.count_eq_length_filter];congr 3
 constructor
 ·intro h b;rw [e];have:=h b;omega
 ·intro h b;have:=h b;rw [e] at this;omega
theorem qj0 (hx:xs≠[]) (hy0:ys≠[]) (hm:∀ y∈ys,0<=y/\y<m):unB (pr xs ys m)=(unB xs&&unB ys):=by
 have z:∀ {x y:Int},y∈ys->(x*m+y)/m=x/\(x*m+y)%m=y:=λ{x y} h=>by
  have h0:=hm y h;exact ⟨by rw [zp2,zk1 _ _ (by omega),zk2 h0.1 h0.2];omega,by rw [zp2,zm0,xd4 h0.1 h0.2]⟩
 rw [zm7,zf9,NY,NY,NY];obtain ⟨x0,hx0⟩:=xa6 _ hx;obtain ⟨y0,hy0⟩:=xa6 _ hy0;constructor
 ·intro h;constructor
  ·intro x;have:=h (x*m+y0);rw [C4 hm,(z hy0).1,(z hy0).2] at this;have a:=qdd hy0;have b:=WQ xs x;have:=xc2 a b;omega
  ·intro y;by_cases hy:y∈ys
   ·have:=h (x0*m+y);rw [C4 hm,(z hy).1,(z hy).2] at this;have a:=qdd hx0;have b:=WQ ys y;have:=zk0 a b;omega
   ·rw [NR hy];omega
 ·rintro ⟨h1,h2⟩ b;rw [C4 hm];have a1:=h1 (b/m);have a2:=h2 (b%m);have b1:=WQ xs (b/m);have b2:=WQ ys (b%m);have:=xe2 a1 a2 b2 (by omega);omega
theorem NN (m:Nat):∀ n:Nat,zh 0 (n*m)=(zh 0 n).flatMap λa=>(zh 0 m).map λb=>a*(m:Int)+b
 |0=>by simp [zh]
 |n+1=>by
  have e:∀ k,zh 0 (n*m+k)=zh 0 (n*m)++(zh 0 k).map λb=>(n:Int)*(m:Int)+b:=λk=>by
   unfold zh;rw [List.range_add,zm8,zg8,zg8];congr 1;refine xb5 λa _=>?_;simp only [ze6];rw [Int.natCast_add,Int.natCast_mul];omega
  have s:zh 0 (n+1)=zh 0 n++[(n:Int)]:=by unfold zh;rw [List.range_succ,zm8];simp
  rw [Nat.succ_mul,e,NN m n,s,xf0];simp
def due (xs ys:List Int) (B C:Int):List Int:=(zh 0 B.toNat).flatMap λa=>(zh 0 C.toNat).map λb=>cnt xs a*cnt ys b
theorem qkc {B:Int} (hB:1<=B) (hC:1<=C) (hy:∀ y∈ys,0<=y/\y<C):(zh 0 (B*C).toNat).map (cnt (pr xs ys C))=due xs ys B C:=by
 obtain ⟨n,rfl⟩:=zf3 (show 0<=B by omega);obtain ⟨m,rfl⟩:=zf3 (show 0<=C by omega);rw [← Int.natCast_mul,zf8,NN,xc1];unfold due;rw [zf8,zf8];refine SQ λa ha=>?_;rw [zg8];refine xb5 λb hb=>?_;have hb':=UX hb;simp only [ze6];rw [C4 hy,zp2,zk1 _ _ (by omega),zk2 (by omega) (by omega),zm0,xd4 (by omega) (by omega),zn2]
theorem qmI {B:Int} (hB:1<=B) (hC:1<=C) (hx:∀ x∈xs,0<=x/\x<B) (hy:∀ y∈ys,0<=y/\y<C) (nx:xs≠[]) (ny:ys≠[]):due xs ys B C≠[]/\decide (mx (due xs ys B C)<2)=(unB xs&&unB ys):=by
 have mem:∀ {a b:Int},0<=a->a<B->0<=b->b<C->cnt xs a*cnt ys b∈due xs ys B C:=λ{a b} a0 a1 b0 b1=>by
  obtain ⟨n,rfl⟩:=zf3 a0;obtain ⟨m,rfl⟩:=zf3 b0;refine zj9.mpr ⟨n,?_,zf4.mpr ⟨m,?_,rfl⟩⟩
  ·exact zf4.mpr ⟨n,zi0.mpr (by omega),by omega⟩
  ·exact zf4.mpr ⟨m,zi0.mpr (by omega),by omega⟩
 have ne:due xs ys B C≠[]:=List.ne_nil_of_mem (mem (a:=0) (b:=0) (by omega) (by omega) (by omega) (by omega));refine ⟨ne,?_⟩;rw [← qj0 nx ny hy,zm7,decide_eq_true_eq,NY];constructor
 ·intro h b;rw [C4 hy];by_cases c:(0<=b/C/\b/C<B)
  ·have h1:=zh6 b (show C≠0 by omega);have h2:=zg0 b (show 0<C by omega);have:=qco (mem c.1 c.2 h1 h2);omega
  ·rw [NR λhn=>c (hx _ hn),Int.zero_mul];omega
 ·intro h;obtain ⟨a,ha,hm⟩:=zj9.mp (WV ne);obtain ⟨b,hb,e⟩:=zf4.mp hm;have ra:=UX ha;have rb:=UX hb;have:=h (a*C+b);rw [C4 hy,zp2,zk1 _ _ (by omega),zk2 (by omega) (by omega),zm0,xd4 (by omega) (by omega),zn2,e] at this;exact Int.lt_of_le_of_lt this (by decide)
variable {ps:List (Int×Int)}
theorem qo7 (h:ps.length<=1000):Bk.WB 3 (.list (ps.map pD)):=⟨by rw [zd9];omega,λd hd=>by
 obtain ⟨p,_,rfl⟩:=zf4.mp hd;exact ⟨by simp,λd hd=>by
  simp only [ze9,zf0,or_false] at hd;rcases hd with rfl|rfl<;>trivial⟩⟩
theorem qlF {ns:List Int} (h:ns.length<=1000000):Bk.WB 3 (.list (ns.map PyData.int)):=⟨by rw [zd9];exact h,λd hd=>by
 obtain ⟨p,_,rfl⟩:=zf4.mp hd
 trivial⟩
structure Cs (d e:Dl) (w v:Wk):Prop where
 okd:d.Ok
 oke:e.Ok
 ok:(Dl.joined d e).Ok
 dp:(Dl.joined d e).dep<=2
 S:Sw w
 T:Sw v
 R:e.R<=16
 C:e.C<=16
theorem qp9 (S:Sw w) (hR:R<=4096) (hC:C<=4096) (h:s∈stI R C w.pc):(-100<=s.1/\s.1<=5000)/\(-100<=s.2/\s.2<=5000):=by
 obtain ⟨p,hp⟩:=xa6 _ S.cb.ne;have:=qit h hp;have:=S.b p hp;omega
theorem qik (K:Cs d e w v) (hs:s∈stI d.R d.C w.pc) (ho:o∈stI e.R e.C v.pc):Z0 [dlD (.joined d e),.list [Wk.d w,Wk.d v],Wk.d (wh w v e.R e.C),pD s,pD o]=some (.bool true):=by
 have okd:=K.okd;have oke:=K.oke;have ok:=K.ok;have dp:=K.dp;have dp1:d.dep<=1/\e.dep<=1:=by have:max d.dep e.dep+1<=2:=dp;omega
 have ld:=Dl.lims okd;have le:=Dl.lims oke;have l:=Dl.lims ok;have sb:=qp9 K.S ld.r2 ld.c2 hs;have ob:=qp9 K.T le.r2 le.c2 ho;obtain ⟨win,wbk⟩:=qgf okd oke hs ho;have sz:=TF (n:=2) (show e.dep<=2 by omega) oke;have wwo:=qra dp ok (TM K.S K.T e.R e.C) win;have whc:=qnq K.S K.T ⟨le.r1,K.R⟩ ⟨le.c1,K.C⟩;have hst:bo s o e.R e.C∈stI (Dl.joined d e).R (Dl.joined d e).C (wh w v e.R e.C).pc:=qcm whc (MX win);have lw:=qp4 dp ok (TM K.S K.T e.R e.C) hst;have l1:=qp4 (show d.dep<=2 by omega) okd K.S.big hs;have l2:=qp4 (show e.dep<=2 by omega) oke K.T.big ho;have c1:=qmu (show d.dep<=2 by omega) okd K.S hs;have c2:=qmu (show e.dep<=2 by omega) oke K.T ho;have cw:=qpr K.S.big;have cv:=qpr K.T.big;simp only [pD,bo,dlD] at wwo l1 l2 c1 c2 lw;have r1:=le.r1;have rc:=le.c1;have r2:=K.R;have rc2:=K.C;have wpl:=K.S.l2;have vpl:=K.T.l2;have wlen:∀ (cs:List (Int×Int)),(wo s o e.R e.C cs v.pc).length=cs.length*v.pc.length:=λcs=>YN cs v.pc λp r=>((s.1+p.1)*e.R+o.1+r.1,(s.2+p.2)*e.C+o.2+r.2)
 rw [TW]
 simp! [Pu.pwA,Z2,dlD,NT,sz,siz]
 simp! (disch:=omega) [Pu.pwA,pD,JQ]
 simp! [Pu.pwA,wwo,cw]
 refine U6 (Q:=λx=>Z6 false x=some (.bool true)) (g:=pD) w.pc (λi ρ=>∃ s11 s12 s13 s14,ρ=[.sh (.tuple [.str "joined",dlD d,dlD e]),.sh (.list [Wk.d w,Wk.d v]),.sh (Wk.d (wh w v e.R e.C)),.sh (.tuple [.int s.1,.int s.2]),.sh (.tuple [.int o.1,.int o.2]),.sh (.int e.R),.sh (.int e.C),.sh (.int e.B),.sh (.tuple [.int (s.1*e.R+o.1),.int (s.2*e.C+o.2)]),.ow ((sh (s.1*e.R+o.1,s.2*e.C+o.2) (wh w v e.R e.C).pc).map pD),.ow ((wo s o e.R e.C (w.pc.take i) v.pc).map pD),s11,s12,s13,s14,.un,.un,.un,.un]) ⟨_,_,_,_,rfl⟩ ?_ ?_
 ·rintro i p ρ hx ⟨s11,s12,s13,s14,rfl⟩;have hi:=(zb6 hx).1;have hp:=K.S.b p (za3 hx)
  simp! [Pu.pwA,pD,cv]
  have wi:=wlen (w.pc.take i);rw [zj7] at wi;have wi2:=zh7 (show min i w.pc.length<=16 by omega) vpl;have ws:wo s o e.R e.C (w.pc.take (i+1)) v.pc=wo s o e.R e.C (w.pc.take i) v.pc++v.pc.map λr=>((s.1+p.1)*e.R+o.1+r.1,(s.2+p.2)*e.C+o.2+r.2):=by
   unfold wo;rw [xd3,hx,xg6,xf0,xb0,List.flatMap_nil,zh0]
  refine WJ (Q:=λz=>Nx z _) (g:=pD) v.pc (λj ρ=>∃ s13 s14,ρ=[.sh (.tuple [.str "joined",dlD d,dlD e]),.sh (.list [Wk.d w,Wk.d v]),.sh (Wk.d (wh w v e.R e.C)),.sh (.tuple [.int s.1,.int s.2]),.sh (.tuple [.int o.1,.int o.2]),.sh (.int e.R),.sh (.int e.C),.sh (.int e.B),.sh (.tuple [.int (s.1*e.R+o.1),.int (s.2*e.C+o.2)]),.ow ((sh (s.1*e.R+o.1,s.2*e.C+o.2) (wh w v e.R e.C).pc).map pD),.ow ((wo s o e.R e.C (w.pc.take i) v.pc++(v.pc.take j).map λr=>((s.1+p.1)*e.R+o.1+r.1,(s.2+p.2)*e.C+o.2+r.2)).map pD),.sh (.int p.1),.sh (.int p.2),s13,s14,.un,.un,.un,.un]) ⟨_,_,by rw [List.take_zero,zh8,zh0]⟩ ?_ ?_
  ·rintro j r ρ hy ⟨s13,s14,rfl⟩;have hj:=(zb6 hy).1
   simp! (disch:=omega) [Pu.pwA,pD,JQ]
   rw [qjP rfl (by rw [zd9,zg9,zd9,zj7];omega)];refine ⟨.sh (.int r.1),.sh (.int r.2),?_⟩;simp only [xd3,hy,xg6,zm8,zg2,zh8,xh5];rfl
  ·rintro ρ ⟨s13,s14,rfl⟩;rw [zp8,← ws];exact ⟨_,_,_,_,rfl⟩
 ·rintro ρ ⟨s11,s12,s13,s14,rfl⟩;rw [zp8,← qil,show (wh w v e.R e.C).pc=spr w.pc v.pc e.R e.C from rfl,show bo s o e.R e.C=(s.1*e.R+o.1,s.2*e.C+o.2) from rfl];rw [show (wh w v e.R e.C).pc=spr w.pc v.pc e.R e.C from rfl] at wbk lw;have wl:=(MW K.S K.T e.R e.C).2;rw [show (wh w v e.R e.C).pc=spr w.pc v.pc e.R e.C from rfl] at wl;have sm:=LH (n:=3) (qo7 (ps:=sh (s.1*e.R+o.1,s.2*e.C+o.2) (spr w.pc v.pc e.R e.C)) (by unfold sh;rw [zd9];omega))
  simp! [Pu.pwA,sm,l1,l2,qgo,zg1]
  have lb1:=ld.b1;have lb2:=ld.b2;have lb3:=le.b1;have lb4:=le.b2;have mB:d.B*e.B<=4096:=ok.2.2.2.2;have cl:∀ (xs:List Int) b,cnt xs b<=xs.length:=λxs b=>by unfold cnt;have:=zi8 (λn=>decide (n=b)) xs;omega
  have bw:(bks d s w.pc).length<=16:=by simp [bks,sh];omega
  generalize hX:bks d s w.pc=xs at *;generalize hY:bks e o v.pc=ys at *;refine U6 (Q:=λx=>Z6 false x=some (.bool true)) (g:=λb=>PyData.int (cnt xs b)) (zh 0 d.B.toNat) (λi ρ=>∃ s17,ρ=[.sh (.tuple [.str "joined",dlD d,dlD e]),.sh (.list [Wk.d w,Wk.d v]),.sh (Wk.d (wh w v e.R e.C)),.sh (.tuple [.int s.1,.int s.2]),.sh (.tuple [.int o.1,.int o.2]),.sh (.int e.R),.sh (.int e.C),.sh (.int e.B),.sh (.tuple [.int (s.1*e.R+o.1),.int (s.2*e.C+o.2)]),.ow ((sh (s.1*e.R+o.1,s.2*e.C+o.2) (spr w.pc v.pc e.R e.C)).map pD),.ow ((((zh 0 d.B.toNat).take i).flatMap λa=>(zh 0 e.B.toNat).map λb=>cnt xs a*cnt ys b).map PyData.int),s11,s12,s13,s14,.sh (.list ((zh 0 d.B.toNat).map λb=>.int (cnt xs b))),.sh (.list ((zh 0 e.B.toNat).map λb=>.int (cnt ys b))),s17,.un]) ⟨_,rfl⟩ ?_ ?_
  ·rintro i a ρ hx ⟨s17,rfl⟩;have hi:=(zb6 hx).1;rw [qJ] at hi;have ca:=cl xs a;have cp:=WQ xs a
   simp! [Pu.pwA]
   rw [zI (ds:=(zh 0 e.B.toNat).map λb=>PyData.int (cnt ys b)) (fs:=((zh 0 e.B.toNat).map λb=>cnt xs a*cnt ys b).map PyData.int)]
   rotate_left
   ·simp! [Pu.pwA]
   ·rw [zg8];refine zu λb hb=>?_
    simp! (disch:=omega) [Pu.pwA,jq,JQ,ze6]
   ·rw [zd9,zd9,qJ];omega
   simp! [Pu.pwA]
   rw [MI rfl (by
    have l3:=YN ((zh 0 d.B.toNat).take i) (zh 0 e.B.toNat) λa b=>cnt xs a*cnt ys b;rw [zd9,zd9,zd9,l3,zj7,qJ,qJ];have:=zh7 (show min i d.B.toNat<=4095 by omega) (show e.B.toNat<=4096 by omega);omega)]
   rw [xd3,hx,xg6,xf0,xb0,List.flatMap_nil,zh0,zm8];exact ⟨_,rfl⟩
  ·rintro ρ ⟨s17,rfl⟩;rw [zp8,show ((zh 0 d.B.toNat).flatMap λa=>(zh 0 e.B.toNat).map λb=>cnt xs a*cnt ys b)=due xs ys d.B e.B from rfl];have rx:∀ x∈xs,0<=x/\x<d.B:=λx hx=>by
    rw [← hX] at hx;obtain ⟨q,hq,rfl⟩:=zf4.mp hx;exact CQ d okd (KO hs q hq)
   have ry:∀ y∈ys,0<=y/\y<e.B:=λy hy=>by
    rw [← hY] at hy;obtain ⟨q,hq,rfl⟩:=zf4.mp hy;exact CQ e oke (KO ho q hq)
   have nx:xs≠[]:=λz=>K.S.cb.ne (by
    rw [z] at hX;simpa [bks,sh] using hX)
   have ny:ys≠[]:=λz=>K.T.cb.ne (by
    rw [z] at hY;simpa [bks,sh] using hY)
   obtain ⟨dn,dm⟩:=qmI lb1 lb3 rx ry nx ny;have dl:(due xs ys d.B e.B).length=d.B.toNat * e.B.toNat:=by
    have:=YN (zh 0 d.B.toNat) (zh 0 e.B.toNat) λa b=>cnt xs a*cnt ys b;rw [qJ,qJ] at this;exact this
   have dB:((due xs ys d.B e.B).length:Int)=d.B*e.B:=by
    rw [dl,Int.natCast_mul,xm0 (by omega),xm0 (by omega)]
   rw [show (Dl.joined d e).B=d.B*e.B from rfl] at lw;have bw0:(s.1*e.R+o.1,s.2*e.C+o.2)=bo s o e.R e.C:=rfl;rw [show (λb=>PyData.int (cnt (bks (d.joined e) (s.1*e.R+o.1,s.2*e.C+o.2) (spr w.pc v.pc e.R e.C)) b))=PyData.int∘cnt (pr xs ys e.B) by rw [bw0,wbk];rfl,← zg8,qkc lb1 lb3 ry] at lw;have wt:EQ [.tuple [.str "joined",dlD d,dlD e],Wk.d (wh w v e.R e.C),.tuple [.int (s.1*e.R+o.1),.int (s.2*e.C+o.2)]]=some (.int (mx (due xs ys d.B e.B)-1)):=by
    rw [MM]
    simp! [Pu.pwA,J3,lw,LV dn]
   have sd:=LH (n:=3) (qlF (ns:=due xs ys d.B e.B) (by omega));have si:=LH (n:=3) (d:=.int (mx (due xs ys d.B e.B)-1)) trivial;have nn:=qj0 nx ny ry;have la:=λh16:d.B*e.B<=16=>qsp dp ok h16 (TM K.S K.T e.R e.C) win;simp only [show (wh w v e.R e.C).pc=spr w.pc v.pc e.R e.C from rfl,wbk] at la;simp only [duD,dlD,bo,pD] at la;generalize hD:due xs ys d.B e.B=dd at *;have t1:decide (true=false)=false:=rfl;have t2:decide (false=true)=false:=rfl;rw [nn] at la;by_cases h16:d.B*e.B<=16
   ·have l16:((dd.length:Nat):Int)<=16:=by omega
    replace la:=la h16
    cases e1:unB xs<;>cases e2:unB ys<;>rw [e1,e2] at dm la<;>rw [e1] at c1<;>rw [e2] at c2 <;>
     simp! [Pu.pwA,c1,c2,lw,sd,wt,si,LV dn,dm,la,zd9,l16,decide_true,zg1,Bool.and_true,xb9,xb6,xf5,t1,t2]
   ·have l16:¬ ((dd.length:Nat):Int)<=16:=by omega
    cases e1:unB xs<;>cases e2:unB ys<;>rw [e1,e2] at dm<;>rw [e1] at c1<;>rw [e2] at c2 <;>
     simp! [Pu.pwA,c1,c2,lw,sd,wt,si,LV dn,dm,zd9,l16,decide_false,zg1,Bool.and_true,xb9,xb6,xf5,t1,t2]
theorem qjb {a c:Int} (okd:d.Ok) (oke:e.Ok) (r1:d.R<=a) (r2:e.R<=a) (c1:d.C<=b) (c2:e.C<=b) (b1:d.B<=c) (b2:e.B<=c) (ha:a<=16) (hb:b<=16) (hc:c<=40):(Dl.joined d e).Ok:=by
 have l:=Dl.lims okd;have k:=Dl.lims oke;have q1:=l.r1;have q2:=l.c1;have q3:=l.b1;have q4:=k.r1;have q5:=k.c1;have q6:=k.b1;have m:∀ {x y z w:Int},0<=y->x<=z->y<=w->0<=z->x*y<=z*w:=λh1 h2 h3 h4=>xe2 h2 h3 h1 h4;have m1:=m (x:=d.R) (y:=e.R) (z:=16) (w:=16) (by omega) (by omega) (by omega) (by omega);have m2:=m (x:=d.C) (y:=e.C) (z:=16) (w:=16) (by omega) (by omega) (by omega) (by omega);have m3:=m (x:=d.B) (y:=e.B) (z:=40) (w:=40) (by omega) (by omega) (by omega) (by omega);exact ⟨okd,oke,by omega,by omega,by omega⟩
theorem qr0 (h:Lt d) (k:Lt e):(Dl.joined d e).Ok/\(Dl.joined d e).R<=4/\(Dl.joined d e).C<=4/\(Dl.joined d e).B<=4/\(Dl.joined d e).dep=1:=by
 have l:=Dl.lims h.ok;have q:=Dl.lims k.ok;have m:∀ {x y:Int},0<=y->x<=2->y<=2->x*y<=2*2:=λh1 h2 h3=>xe2 h2 h3 h1 (by decide);have q1:=q.r1;have q2:=q.c1;have q3:=q.b1;refine ⟨qjb h.ok k.ok h.r k.r h.c k.c h.b k.b (by decide) (by decide) (by decide),?_,?_,?_,?_⟩
 ·have:=m (x:=d.R) (y:=e.R) (by omega) h.r k.r;simp only [Dl.R];omega
 ·have:=m (x:=d.C) (y:=e.C) (by omega) h.c k.c;simp only [Dl.C];omega
 ·have:=m (x:=d.B) (y:=e.B) (by omega) h.b k.b;simp only [Dl.B];omega
 ·simp [Dl.dep,h.dep,k.dep]
theorem qne (h:o∈stI R C cs):∀ r∈cs,(0<=o.1+r.1/\o.1+r.1<R)/\(0<=o.2+r.2/\o.2+r.2<C):=λr hr=>qit h hr
theorem qql (S:Ty w) (T:Ty v) (hR:1<=R/\R<=2) (hC:1<=C/\C<=2) (nd:(spr w.pc v.pc R C).Nodup):Sw (wh w v R C):=by
 have l:=qbp w.pc v.pc R C;have m1:=zh7 S.l1 T.l1;have m2:=zh7 S.l2 T.l2;refine ⟨?_,?_,nd,λq hq=>?_,TM S.sw T.sw R C⟩
 ·show 1<=(spr w.pc v.pc R C).length;omega
 ·show (spr w.pc v.pc R C).length<=16;omega
 ·obtain ⟨p,hp,hq⟩:=zj9.mp hq;obtain ⟨r,hr,rfl⟩:=zf4.mp hq;have b1:=S.b p hp;have b2:=T.b r hr;have key:∀ {x y:Int},(-2<=x/\x<=2)->(1<=y/\y<=2)->-4<=x*y/\x*y<=4:=λ{x y} hx hy=>by
   have:y=1\/y=2:=by omega
   rcases this with rfl|rfl<;>omega
  have:=key b1.1 hR;have:=key b1.2 hC;simp only;omega
theorem qmz {p:Int×Int} :qlM false (pD p) (.list (ps.map pD))=some (.bool (decide (p∈ps))):=by
 obtain ⟨k,l⟩:=p;refine (zk λy hy=>?_).trans ?_
 ·obtain ⟨p,_,rfl⟩:=zf4.mp hy;simp [pD,dpt,qcl]
 ·rw [show pD (k,l)=.tuple [.int k,.int l] from rfl,SB];rfl
theorem qpN {a b:Bool}:eqD false (.list [.bool a,.bool b]) (.list [.bool true,.bool true])=some (.bool (a&&b)):=by
 have h:qbg (.list [.bool a,.bool b]) (.list [.bool true,.bool true])=none:=rfl;unfold eqD;rw [h];simp only;rw [zk (by cases a<;>cases b<;>decide)];cases a<;>cases b<;>rfl
theorem qpG (h:s∈stI d.R d.C w.pc):decide (s∈csL d w)=unB (bks d s w.pc):=by
 rw [zm7,decide_eq_true_eq];unfold csL cln unB;rw [zi5];cases Bk.faO (bks d s w.pc)<;>simp [h]
theorem qr6 {l:Nat} {tc:TT3} {ta tb:TS3} {c:PwC l tc} {x:PwS l ta} {y:PwS l tb} {ρ:Rho} {n:Nat} {Q:QO} (h:∀ X Y:Rho->Nat->QO->Prop,X=x.w->Y=y.w->c.w ρ n λk n1=>if k then X ρ n1 Q else Y ρ n1 Q):(wIf c x y).w ρ n Q:=h _ _ rfl rfl
theorem qnD:∀ k:Nat,k<=60->qeu.w [.un,.sh (.int k),.un,.un,.un,.un,.un,.un,.un,.un,.un,.un,.un,.un,.un,.un] 0 okW:=by
 intro k hk;unfold qeu;refine QA λY1 h1=>?_
 simp! [Pu.pwA]
 refine ⟨by omega,by omega,λtw0 t0 t1=>?_⟩
 simp! [Pu.pwA]
 rw [h1];refine QA λY2 h2=>?_
 simp! [Pu.pwA]
 refine ⟨by omega,λd D dd=>⟨by omega,λe E de=>?_⟩⟩
 simp! [Pu.pwA]
 rw [h2];refine QA λY3 h3=>?_
 simp! [Pu.pwA]
 refine qdh (by omega) λw m S hm=>qdh (by omega) λv m2 T hm2=>?_
 simp! [Pu.pwA]
 rw [h3];have lD:=Dl.lims D.ok;have lE:=Dl.lims E.ok;have r2:=D.r2;have c2:=D.c2;have b2:=D.b2;have r3:=E.r2;have c3:=E.c2;have b3:=E.b2;refine qjG (λρ n=>n<=2000/\∃ e v s6 s7 s8 s9,Cs d e w v/\ρ=[.un,.sh (.int k),.un,.sh (.bool (decide (tw0=0))),.sh (.tuple [.str "joined",dlD d,dlD e]),.ow [Wk.d w,Wk.d v],s6,s7,s8,s9,.un,.un,.un,.un,.un,.un]) ?_ ?_
 ·by_cases tc:tw0=0
  ·simp! [Pu.pwA,tc,decide_true]
   refine M1 (by omega) λi m3 I hm3=>M1 (by omega) λj m4 J hm4=>?_;have szj:=TF (n:=2) (show j.dep<=2 by rw [J.dep];omega) J.ok;have lI:=Dl.lims I.ok;have lJ:=Dl.lims J.ok
   simp! [Pu.pwA,NT,szj,siz]
   have ji:=J.r;have jc:=J.c;refine qe8 (by omega) (by rw [I.dep];omega) I.ok λt1 T1 n1=>qe8 (by omega) (by rw [J.dep];omega) J.ok λt2 T2 n2=>?_;obtain ⟨o,ho⟩:=xa6 _ n2;have nd:(spr t1.pc t2.pc j.R j.C).Nodup:=qhP T1.nd T2.nd (qne ho);have fs:=qlb T1.sw T2.sw ⟨lJ.r1,by omega⟩ ⟨lJ.c1,by omega⟩ nd;obtain ⟨jo,jr,jcc,jb,jd⟩:=qr0 I J
   simp! [Pu.pwA,fs]
   refine ⟨by omega,.joined i j,wh t1 t2 j.R j.C,_,_,_,_,⟨D.ok,jo,qjb (a:=4) (b:=4) (c:=5) D.ok jo r2 jr c2 jcc b2 (by omega) (by decide) (by decide) (by decide),by simp only [Dl.dep] at jd ⊢;omega,S,qql T1 T2 ⟨lJ.r1,J.r⟩ ⟨lJ.c1,J.c⟩ nd,by omega,by omega⟩,rfl⟩
  ·simp! [Pu.pwA,tc,decide_false]
   exact ⟨by omega,e,v,_,_,_,_,⟨D.ok,E.ok,qjb (a:=4) (b:=4) (c:=5) D.ok E.ok r2 r3 c2 c3 b2 b3 (by decide) (by decide) (by decide),by simp only [Dl.dep];omega,S,T,by omega,by omega⟩,rfl⟩
 clear T de E lE r3 c3 b3 e v m2 hm2;rintro ρ n ⟨hn,e,v,s6,s7,s8,s9,K,rfl⟩;have okd:=K.okd;have oke:=K.oke;have ok:=K.ok;have dp:=K.dp;have dp1:d.dep<=1/\e.dep<=1:=by have:max d.dep e.dep+1<=2:=dp;omega
 have le:=Dl.lims oke;have szj:=TF (n:=2) (show e.dep<=2 by omega) oke;have r1:=le.r1;have rc:=le.c1;have rr:=K.R;have rcc:=K.C;refine QA λY5 h5=>?_
 simp! [Pu.pwA,NT,szj,siz]
 rw [h5];refine QA λY6 h6=>?_
 simp! (disch:=omega) [Pu.pwA,LJ]
 refine ⟨by rw [zd9,qJ];omega,?_⟩;rw [show (zh 0 (2:Int).toNat).map PyData.int=[.int 0,.int 1] from rfl];unfold lcW;refine ⟨_,rfl,?_⟩;unfold NB
 simp! [Pu.pwA]
 refine ⟨_,rfl,N0 (by omega) (by omega) okd K.S λxs lx mx=>?_⟩;unfold lcW;refine ⟨_,rfl,?_⟩
 simp! [Pu.pwA]
 refine ⟨_,rfl,N0 (by omega) (by omega) oke K.T λys ly my=>?_⟩;unfold lcW
 simp! [Pu.pwA]
 refine ⟨by simp,?_⟩;rw [h6];refine qr6 λX Y hX hY=>?_;have ex:eqD true (.list (xs.map pD)) (.list [])=some (.bool (!decide (xs=[]))):=WU;have ey:eqD true (.list (ys.map pD)) (.list [])=some (.bool (!decide (ys=[]))):=WU;by_cases nx:xs=[]
 ·rw [zb0 nx] at ex
  simp! [Pu.pwA,ex,zg1]
  rw [hY]
  simp! [Pu.pwA]
 rw [za9 nx] at ex;by_cases ny:ys=[]
 ·rw [zb0 ny] at ey
  simp! [Pu.pwA,ex,ey,zg1,zn5]
  rw [hY]
  simp! [Pu.pwA]
 rw [za9 ny] at ey
 simp! [Pu.pwA,ex,ey,zn5]
 rw [hX];clear ex ey hX hY X Y;obtain ⟨x0,xs,rfl⟩:=xe3 nx;obtain ⟨y0,ys,rfl⟩:=xe3 ny;have mx0:=mx x0 (by simp);have my0:=my y0 (by simp);have nd:(spr w.pc v.pc e.R e.C).Nodup:=qhP K.S.nd K.T.nd (qne my0);have fs:=qlb K.S K.T ⟨le.r1,by omega⟩ ⟨le.c1,by omega⟩ nd;refine QA λY7 h7=>?_
 simp! [Pu.pwA,fs]
 rw [h7];refine QA λY8 h8=>?_
 simp! [Pu.pwA]
 have fr:∀ s∈x0::xs,∀ o∈y0::ys,Z0 [.tuple [.str "joined",dlD d,dlD e],.list [Wk.d w,Wk.d v],Wk.d (wh w v e.R e.C),pD s,pD o]=some (.bool true):=λs hs o ho=>qik K (mx s hs) (my o ho);refine M8 (f:=pD) (x0::xs) RO.mn (λ_ ρ _=>∃ s12 s13,ρ=[.un,.sh (.int k),.un,.sh (.bool (decide (tw0=0))),.sh (.tuple [.str "joined",dlD d,dlD e]),.sh (.list [Wk.d w,Wk.d v]),s6,.sh (.int e.R),.sh (.int e.C),.sh (.int e.B),.sh (.list [.list ((x0::xs).map pD),.list ((y0::ys).map pD)]),.sh (Wk.d (wh w v e.R e.C)),s12,s13,.un,.un]) ⟨_,_,rfl⟩ ?_ ?_
 ·rintro i s ρ n2 hx ⟨s12,s13,rfl⟩;have hs:=za3 hx;refine ⟨_,rfl,?_⟩;unfold RO
  simp! [Pu.pwA]
  refine M8 (f:=pD) (y0::ys) R6.mn (λ_ ρ _=>∃ s13,ρ=[.un,.sh (.int k),.un,.sh (.bool (decide (tw0=0))),.sh (.tuple [.str "joined",dlD d,dlD e]),.sh (.list [Wk.d w,Wk.d v]),s6,.sh (.int e.R),.sh (.int e.C),.sh (.int e.B),.sh (.list [.list ((x0::xs).map pD),.list ((y0::ys).map pD)]),.sh (Wk.d (wh w v e.R e.C)),.sh (pD s),s13,.un,.un]) ⟨_,rfl⟩ ?_ ?_
  ·rintro j o ρ n3 hy ⟨s13,rfl⟩;have ho:=za3 hy;refine ⟨_,rfl,?_⟩;unfold R6
   simp! [Pu.pwA,fr s hs o ho,zg1]
   exact ⟨_,rfl⟩
  ·rintro ρ n3 ⟨s13,rfl⟩;exact ⟨_,_,rfl⟩
 rintro ρ n2 ⟨s12,s13,rfl⟩
 simp! [Pu.pwA]
 rw [h8];have sb:=qp9 K.S lD.r2 lD.c2 mx0;refine QA λY9 h9=>?_;have i0:∀ p:Int×Int,ixD (pD p) (.int 0)=some (.int p.1):=λ_=>rfl;have i1:∀ p:Int×Int,ixD (pD p) (.int 1)=some (.int p.2):=λ_=>rfl
 simp! (disch:=omega) [Pu.pwA,zg2,i0,i1,JQ]
 rw [h9];have c1:=qmu (show d.dep<=2 by omega) okd K.S mx0;have c2:=qmu (show e.dep<=2 by omega) oke K.T my0;obtain ⟨win,wbk⟩:=qgf okd oke mx0 my0;have whc:=qnq K.S K.T ⟨le.r1,K.R⟩ ⟨le.c1,K.C⟩;have hst:bo x0 y0 e.R e.C∈stI (Dl.joined d e).R (Dl.joined d e).C (wh w v e.R e.C).pc:=qcm whc (MX win);have cs:=qse dp ok (TM K.S K.T e.R e.C) whc;have ci:=qpG hst;rw [wbk] at ci;have nx':bks d x0 w.pc≠[]:=λz=>K.S.cb.ne (by simpa [bks,sh] using z);have ny':bks e y0 v.pc≠[]:=λz=>K.T.cb.ne (by simpa [bks,sh] using z);rw [qj0 nx' ny' λy hy=>by
  obtain ⟨q,hq,rfl⟩:=zf4.mp hy;exact CQ e oke (KO my0 q hq)] at ci
 have ia:=qmz (p:=bo x0 y0 e.R e.C) (ps:=csL (.joined d e) (wh w v e.R e.C));rw [ci] at ia;simp only [pD,bo] at ia;simp only [dlD] at cs;refine QA λY10 h10=>?_
 simp! [Pu.pwA]
 rw [zI (ds:=[PyData.int 0,.int 1]) (fs:=[PyData.bool (unB (bks d x0 w.pc)),.bool (unB (bks e y0 v.pc))]) (by simp! [Pu.pwA,show qhH [PyData.int 2]=some [PyData.int 0,.int 1] from (LJ (by decide)).trans rfl]) (by
  have a0:∀ x y z:PyData,L2.atI [x,y,z] (1+0)=some y:=λ_ _ _=>rfl;have a1:∀ x y z:PyData,L2.atI [x,y,z] (1+1)=some z:=λ_ _ _=>rfl
  simp! [Pu.pwA,lcP,jq,i0,a0,a1,c1,c2]) (by simp)]
 simp! [Pu.pwA]
 rw [h10]
 simp! [Pu.pwA,cs,ia,qpN]
end K54
namespace K54
open PySem L2 L3 Bk
noncomputable abbrev qpa: Env := { scope := PySem.Challenge.pw_bankwalk_k54_walks_in_joined_dealings.main.scope,locals := mainNs,globals := mainNs,cells := [],code := .ref 13,frame := some 14 }
noncomputable abbrev qbC: List Stmt := PySem.W.behindTheImports PySem.Challenge.pw_bankwalk_k54_walks_in_joined_dealings
abbrev RP:Code:=.body qbC qpa
noncomputable abbrev qmT:List Frame:=[PySem.W.topFrame ⟨0,0,0,0⟩]
def qW:Obj:=Hd.oT []
noncomputable def zQ:Obj:=⟨.none,none,.fields #[],#[]⟩
def qpl:Obj:=Hd.oC [.str "<module>" 182,.str "<module>" 183,.str "/claim/cut.py" 184,.int (1) 0,.int (0) 0,.int (0) 0,.int (0) 0,.int (0) 0,.ref 11,.bool false,.int (181) 0,.ref 12,.none,.none,.none,.none,.int (185) 0,.int (1) 0,.str "/claim/cut.py" 186]
noncomputable def qpv:Obj:=⟨.type "frame",none,.plain,#[some (.ref 13),some (.ref 3),some (.ref 3),none,some (.str "__main__" 164),none,some (.ref 0)]⟩
def qnt (P:Params):Heap:=⟨Array.mk [xj2 P,xj3 P,xj4 P,PySem.W.boot_o_3 P,xj5 P,xj6 P,xj7 P,xj8 P,xj9 P,xk0 P,xi0 P,qW,zQ,qpl,qpv],{ }⟩
def qot (P:Params):PySem.W.BT:=(Hd.nd (xj2 P) (Hd.nd (xj3 P) (Hd.nd (PySem.W.boot_o_3 P) (Hd.lf (xj8 P)) (Hd.lf qW)) (Hd.nd (xj6 P) (Hd.lf (xk0 P)) (Hd.lf qpl))) (Hd.nd (xj4 P) (Hd.nd (xj5 P) (Hd.lf (xj9 P)) (Hd.lf zQ)) (Hd.nd (xj7 P) (Hd.lf (xi0 P)) (Hd.lf qpv))))
set_option maxRecDepth 100000 in
set_option maxHeartbeats 0 in
theorem qlw (w : World) (os : OsState) : PySem.W.topGo xm5 PySem.Challenge.pw_bankwalk_k54_walks_in_joined_dealings w 11 (some (Value.ref 6)) 12 ⟨xn5 w.params,Array.mk [],xn0,xn6,os⟩ (PySem.W.topStub PySem.Challenge.pw_bankwalk_k54_walks_in_joined_dealings) = some (⟨qnt w.params,#[],{ },187,os⟩,⟨denote xm5 RP,RP,⟨0,0,0,0⟩,qmT⟩) := by kernel_rfl
set_option maxRecDepth 100000 in
set_option maxHeartbeats 0 in
theorem qkJ (w : World) (os : OsState) : PySem.W.segRun xm5 PySem.Challenge.pw_bankwalk_k54_walks_in_joined_dealings w 11 (some (Value.ref 6)) 1 1 ⟨qnt w.params,#[],{ },187,os⟩ (PySem.W.blockOf qbC qpa RP ⟨0,0,0,0⟩ qmT) = some (.next,(⟨qot w.params,15,{ },#[],{ },187,os⟩ : PySem.W.SharedT).abs,RP,⟨0,0,0,0⟩) := by kernel_rfl
def qsr (P:Params):Obj:=Hd.oM P 26 "bankwalk.walks" 366 [(.str "is_number" 195,.ref 21),(.str "is_at_least" 203,.ref 28),(.str "are_at_least" 209,.ref 33),(.str "is_pair" 216,.ref 40),(.str "first_alike" 225,.ref 47),(.str "BankError" 245,.ref 57),(.str "NoStart" 261,.ref 70),(.str "NoWalk" 277,.ref 82),(.str "size_of" 293,.ref 91),(.str "number_of" 304,.ref 98),(.str "is_word" 315,.ref 105),(.str "odd_in_common" 325,.ref 112),(.str "bits_bank" 331,.ref 117),(.str "parted" 342,.ref 124),(.str "joined_bank" 356,.ref 131),(.str "bank_in" 365,.ref 138),(.str "STRIDES" 385,.ref 139)]
noncomputable def qr4:Obj:=⟨.none,none,.fields #[.int (2) 0,.int (0) 0,.ref 20,.int (4) 0,.int (0) 0,.ref 27,.int (6) 0,.int (0) 0,.ref 32,.int (8) 0,.int (0) 0,.ref 39,.int (10) 0,.int (0) 0,.ref 46,.int (17) 0,.int (0) 0,.ref 53,.int (19) 0,.int (0) 0,.ref 66,.int (21) 0,.int (0) 0,.ref 78,.int (24) 0,.int (0) 0,.ref 90,.int (35) 0,.int (0) 0,.ref 97,.int (38) 0,.int (0) 0,.ref 104,.int (43) 0,.int (0) 0,.ref 111,.int (50) 0,.int (0) 0,.ref 116,.int (52) 0,.int (0) 0,.ref 123,.int (55) 0,.int (0) 0,.ref 130,.int (59) 0,.int (0) 0,.ref 137],#[]⟩
def qru:Obj:=Hd.oN ZB 192
def qq6:=Hd.o3 "is_number" JN zc0 189 2 1 15 .none (.ref 17) (.ref 18) 19 193 194
def qlQ:Obj:=Hd.oN ZU 199
def qoK:=Hd.o3 "is_at_least" QV zc0 196 4 2 22 .none (.ref 24) (.ref 25) 26 201 202
def qkC:=Hd.o3 "are_at_least" jZ zc0 204 6 2 29 .none .none .none 31 207 208
def qpd:Obj:=Hd.oN ZB 213
def qla:=Hd.o3 "is_pair" DC zc0 210 8 1 34 .none (.ref 36) (.ref 37) 38 214 215
def qo5:Obj:=Hd.oN UG 220
def qmk:=Hd.o3 "first_alike" QQ zc0 217 10 1 41 .none (.ref 43) (.ref 44) 45 223 224
def qmB:Obj:=Hd.oT [.type "ValueError"]
noncomputable def qaD:Obj:=⟨.type "builtin_function_or_method",none,.fields #[.builtin "type.__prepare__",.type "type"],#[]⟩
def qn4 (P:Params):Obj:=Hd.oD P 4 [(.str "__module__" 235,.str zc3 226),(.str "__qualname__" 237,.str "BankError" 236),(.str "__firstlineno__" 239,.int (17) 238),(.str "__static_attributes__" 240,.ref 55)]
def qmp:Obj:=Hd.oC [.str "BankError" 230,.str "BankError" 231,.str "/claim/cut.py" 232,.int (17) 0,.int (0) 0,.int (0) 0,.int (0) 0,.int (0) 0,.ref 51,.bool false,.int (181) 0,.ref 52,.none,.none,.none,.none,.int (233) 0,.int (17) 0,.str "/claim/cut.py" 234]
def qnK:Obj:=⟨.type "frame",none,.plain,#[some (.ref 53),some (.ref 3),some (.ref 50),none,some (.str zc3 226),none,some (.ref 0)]⟩
def qlC (P:Params):Obj:=Hd.oD P 3 [(.str "__module__" 235,.str zc3 226),(.str "__firstlineno__" 239,.int (17) 238),(.str "__static_attributes__" 240,.ref 55),(.str "__weakref__" 242,.ref 58),(.str "__doc__" 243,.none)]
noncomputable def qkL:Obj:=⟨.type "type",none,.cls ({ name:=ze1 "BankError",bases:=[Value.type "ValueError"],  mro:=    [Value.ref 57,Value.type "ValueError",Value.type "Exception",Value.type "BaseException",Value.type "object"],  ns:=56,qualname:=ze1 "BankError",subclasses:=[Value.ref 70,Value.ref 82] }),#[some (.ref 48),none,some (.str "BankError" 228),some (.str "BankError" 236),some (.builtin "ValueError.__new__"),some (.bool true)]⟩
noncomputable def ql2:Obj:=⟨.type "getset_descriptor",none,.fields #[.str "__weakref__" 241,.ref 57,.builtin "ExceptionGroup.__weakref__",.none],#[]⟩
def qod:Obj:=Hd.c6 57
def qoC:Obj:=Hd.c7 57
def qdu:Obj:=Hd.oT [.ref 57]
def qoR (P:Params):Obj:=Hd.c1 P zc3 226 "NoStart" 246 19 61
def qoA:Obj:=Hd.c2 "NoStart" 246 19 61
def qkQ:Obj:=Hd.c3 zc3 226 61
def qk4 (P:Params):Obj:=Hd.c4 P zc3 226 246 19 61
def qlX:Obj:=Hd.c5 "NoStart" 57 246 61
def qkZ:Obj:=Hd.c6 70
def qlI:Obj:=Hd.c7 70
def qnX (P:Params):Obj:=Hd.c1 P zc3 226 "NoWalk" 262 21 73
def qno:Obj:=Hd.c2 "NoWalk" 262 21 73
def qmn:Obj:=Hd.c3 zc3 226 73
def ql1 (P:Params):Obj:=Hd.c4 P zc3 226 262 21 73
def qow:Obj:=Hd.c5 "NoWalk" 57 262 73
def qnL:Obj:=Hd.c6 82
def qln:Obj:=Hd.c7 82
def ql4:Obj:=Hd.oN K4 283
def qk7:=Hd.o3 "size_of" YL zb8 280 24 1 85 .none (.ref 87) (.ref 88) 89 291 292
def qk6:Obj:=Hd.oN WZ 297
def qm7:=Hd.o3 "number_of" QB zb8 294 35 2 92 .none (.ref 94) (.ref 95) 96 302 303
def qpj:Obj:=Hd.oN KA 308
def qli:=Hd.o3 "is_word" U7 zb8 305 38 2 99 .none (.ref 101) (.ref 102) 103 313 314
def qks:Obj:=Hd.oN JX 319
def qop:=Hd.o3 "odd_in_common" jK zb8 316 43 2 106 .none (.ref 108) (.ref 109) 110 323 324
def qkw:=Hd.o3 "bits_bank" JG zb8 326 50 2 113 .none .none .none 115 329 330
def qmt:Obj:=Hd.oN MP 335
def qoJ:=Hd.o3 "parted" X2 zb8 332 52 3 118 .none (.ref 120) (.ref 121) 122 340 341
def qoP:Obj:=Hd.oN UQ 346
def qnz:=Hd.o3 "joined_bank" jE zb8 343 55 3 125 .none (.ref 127) (.ref 128) 129 354 355
def qnF:Obj:=Hd.oN KB 360
def qkR:=Hd.o3 "bank_in" J8 zb8 357 59 2 132 .none (.ref 134) (.ref 135) 136 363 364
def qiZ (P:Params):Obj:=Hd.oD P 4 [(.str "row" 368,.ref 140),(.str "column" 371,.ref 141),(.str "slant" 374,.ref 142),(.str "back" 377,.ref 143)]
def qiA:Obj:=Hd.oT [.int (0) 369,.int (1) 370]
def qjt:Obj:=Hd.oT [.int (1) 372,.int (0) 373]
def qio:Obj:=Hd.oT [.int (1) 375,.int (1) 376]
def qjv:Obj:=Hd.oT [.int (1) 378,.int (-1) 380]
def qoi (P:Params):PySem.W.BT:=(Hd.nd (xj2 P) (Hd.nd (xj3 P) (Hd.nd (qsr P) (Hd.nd (xj8 P) (Hd.nd qW (Hd.nd (qkC 0) (Hd.nd (qoR P) (Hd.lf qoP) .nil) (Hd.lf qW)) (Hd.nd (qmk 2) (Hd.nd qmn (Hd.lf qjv) .nil) (Hd.lf (qop 1)))) (Hd.nd zQ (Hd.nd (qla 1) (Hd.nd qkZ (Hd.lf qW) .nil) (Hd.lf (qli 0))) (Hd.nd qW (Hd.lf ql4) (Hd.lf zQ)))) (Hd.nd qW (Hd.nd (qq6 0) (Hd.nd zQ (Hd.nd qkQ (Hd.lf (qnz 2)) .nil) (Hd.lf qW)) (Hd.nd qW (Hd.lf qnL) (Hd.lf (qkw 0)))) (Hd.nd (qoK 1) (Hd.nd qo5 (Hd.nd (qnX P) (Hd.lf (qiZ P)) .nil) (Hd.lf zQ)) (Hd.nd qod (Hd.lf (qk7 2)) (Hd.lf (qoJ 1)))))) (Hd.nd (xj6 P) (Hd.nd (xk0 P) (Hd.nd qru (Hd.nd (qkC 2) (Hd.nd zQ (Hd.lf (qnz 0)) .nil) (Hd.lf (qm7 1))) (Hd.nd qaD (Hd.lf (ql1 P)) (Hd.lf qW))) (Hd.nd qW (Hd.nd qW (Hd.nd qdu (Hd.lf (qkR 1)) .nil) (Hd.lf (qli 2))) (Hd.nd qkL (Hd.lf (qk7 0)) (Hd.lf qW)))) (Hd.nd qpl (Hd.nd (qq6 2) (Hd.nd qW (Hd.nd (qk4 P) (Hd.lf zQ) .nil) (Hd.lf qpj)) (Hd.nd qmp (Hd.lf qW) (Hd.lf (qkw 2)))) (Hd.nd qW (Hd.nd (qmk 0) (Hd.nd zQ (Hd.lf qjt) .nil) (Hd.lf qW)) (Hd.nd qdu (Hd.lf zQ) (Hd.lf qW)))))) (Hd.nd (xj4 P) (Hd.nd (xj5 P) (Hd.nd (xj9 P) (Hd.nd zQ (Hd.nd (qkC 1) (Hd.nd qW (Hd.lf qW) .nil) (Hd.lf (qm7 0))) (Hd.nd qmB (Hd.lf qW) (Hd.lf (qop 2)))) (Hd.nd qlQ (Hd.nd (qla 2) (Hd.nd qlI (Hd.lf (qkR 0)) .nil) (Hd.lf (qli 1))) (Hd.nd (qlC P) (Hd.lf qW) (Hd.lf qmt)))) (Hd.nd qr4 (Hd.nd (qq6 1) (Hd.nd qpd (Hd.nd qW (Hd.lf qW) .nil) (Hd.lf zQ)) (Hd.nd zQ (Hd.lf qln) (Hd.lf (qkw 1)))) (Hd.nd (qoK 2) (Hd.nd qW (Hd.nd qW (Hd.lf qiA) .nil) (Hd.lf qks)) (Hd.nd qoC (Hd.lf qW) (Hd.lf (qoJ 2)))))) (Hd.nd (xj7 P) (Hd.nd (xi0 P) (Hd.nd qW (Hd.nd qW (Hd.nd qoA (Hd.lf (qnz 1)) .nil) (Hd.lf (qm7 2))) (Hd.nd (qn4 P) (Hd.lf qow) (Hd.lf zQ))) (Hd.nd (qoK 0) (Hd.nd zQ (Hd.nd qaD (Hd.lf (qkR 2)) .nil) (Hd.lf qW)) (Hd.nd ql2 (Hd.lf (qk7 1)) (Hd.lf (qoJ 0))))) (Hd.nd qpv (Hd.nd qW (Hd.nd (qla 0) (Hd.nd qlX (Hd.lf qnF) .nil) (Hd.lf qW)) (Hd.nd qnK (Hd.lf zQ) (Hd.lf qW))) (Hd.nd zQ (Hd.nd (qmk 1) (Hd.nd qno (Hd.lf qio) .nil) (Hd.lf (qop 0))) (Hd.nd qaD (Hd.lf qk6) (Hd.lf zQ)))))))
abbrev qfg:List Stmt:=(qbC.drop 0).take 21
def qgG (os : OsState) (w : World) : Prop := PySem.W.segRunT xm5 PySem.Challenge.pw_bankwalk_k54_walks_in_joined_dealings w 11 (some (Value.ref 6)) 1 1141 (⟨qot w.params,15,{ },#[],{ },187,os⟩ : PySem.W.SharedT) (PySem.W.piecesOf qfg qpa RP ⟨0,0,0,0⟩ qmT) = some (.next,(⟨qoi w.params,144,{ },#[],{ },386,os⟩ : PySem.W.SharedT),RP,⟨71,0,71,7⟩)
set_option maxRecDepth 100000 in
set_option maxHeartbeats 0 in
theorem qkH (w:World) (os:OsState):qgG os w:=
 PySem.W.byRow2 "special-get-raises" (P:=qgG os) (λw=>show _=_ by kernel_rfl) (λw=>show _=_ by kernel_rfl) w
def qlp (P:Params):Obj:=Hd.oM P 61 "law_bankwalk_k54_walks_in_joined_dealings" 501 [(.str "is_number" 195,.ref 21),(.str "is_at_least" 203,.ref 28),(.str "are_at_least" 209,.ref 33),(.str "is_pair" 216,.ref 40),(.str "first_alike" 225,.ref 47),(.str "BankError" 245,.ref 57),(.str "NoStart" 261,.ref 70),(.str "NoWalk" 277,.ref 82),(.str "size_of" 293,.ref 91),(.str "number_of" 304,.ref 98),(.str "is_word" 315,.ref 105),(.str "odd_in_common" 325,.ref 112),(.str "bits_bank" 331,.ref 117),(.str "parted" 342,.ref 124),(.str "joined_bank" 356,.ref 131),(.str "bank_in" 365,.ref 138),(.str "STRIDES" 385,.ref 139),(.str "is_step" 392,.ref 150),(.str "is_cells" 398,.ref 155),(.str "is_walk" 406,.ref 162),(.str "strung" 412,.ref 167),(.str "cells_of" 418,.ref 172),(.str "starts" 424,.ref 177),(.str "shifted" 430,.ref 182),(.str "is_start" 436,.ref 187),(.str "words_of" 445,.ref 194),(.str "spread" 453,.ref 199),(.str "banks_from" 461,.ref 204),(.str "loads" 467,.ref 209),(.str "clear_starts" 473,.ref 214),(.str "lanes_for" 483,.ref 221),(.str "lanes_of" 489,.ref 226),(.str "waits_of" 500,.ref 233),(.str "_law_mix" 511,.ref 240),(.str "_law_left" 521,.ref 247),(.str "_law_pick" 530,.ref 254),(.str "_law_gcd" 538,.ref 261),(.str "_law_small" 544,.ref 266),(.str "_law_size" 550,.ref 271),(.str "_law_odd" 559,.ref 278),(.str "_law_bank" 565,.ref 283),(.str "_law_cells" 571,.ref 288),(.str "_law_starts" 577,.ref 293),(.str "_law_from" 583,.ref 298),(.str "_law_same" 589,.ref 303),(.str "_law_short" 595,.ref 308),(.str "_law_little" 601,.ref 313),(.str "_law_tiny" 607,.ref 318),(.str "_law_clear_from" 617,.ref 325),(.str "_law_chosen" 623,.ref 330),(.str "_law_right" 629,.ref 335),(.str "law" 635,.ref 340)]
noncomputable def qpL:Obj:=⟨.none,none,.fields #[.int (2) 0,.int (0) 0,.ref 20,.int (4) 0,.int (0) 0,.ref 27,.int (6) 0,.int (0) 0,.ref 32,.int (8) 0,.int (0) 0,.ref 39,.int (10) 0,.int (0) 0,.ref 46,.int (17) 0,.int (0) 0,.ref 53,.int (19) 0,.int (0) 0,.ref 66,.int (21) 0,.int (0) 0,.ref 78,.int (24) 0,.int (0) 0,.ref 90,.int (35) 0,.int (0) 0,.ref 97,.int (38) 0,.int (0) 0,.ref 104,.int (43) 0,.int (0) 0,.ref 111,.int (50) 0,.int (0) 0,.ref 116,.int (52) 0,.int (0) 0,.ref 123,.int (55) 0,.int (0) 0,.ref 130,.int (59) 0,.int (0) 0,.ref 137,.int (72) 0,.int (0) 0,.ref 149,.int (76) 0,.int (0) 0,.ref 154,.int (82) 0,.int (0) 0,.ref 161,.int (93) 0,.int (0) 0,.ref 166,.int (95) 0,.int (0) 0,.ref 171,.int (105) 0,.int (0) 0,.ref 176,.int (111) 0,.int (0) 0,.ref 181,.int (113) 0,.int (0) 0,.ref 186,.int (115) 0,.int (0) 0,.ref 193,.int (120) 0,.int (0) 0,.ref 198,.int (127) 0,.int (0) 0,.ref 203,.int (129) 0,.int (0) 0,.ref 208,.int (135) 0,.int (0) 0,.ref 213,.int (138) 0,.int (0) 0,.ref 220,.int (143) 0,.int (0) 0,.ref 225,.int (150) 0,.int (0) 0,.ref 232,.int (153) 0,.int (0) 0,.ref 239,.int (156) 0,.int (0) 0,.ref 246,.int (160) 0,.int (0) 0,.ref 253,.int (167) 0,.int (0) 0,.ref 260,.int (171) 0,.int (0) 0,.ref 265,.int (189) 0,.int (0) 0,.ref 270,.int (199) 0,.int (0) 0,.ref 277,.int (204) 0,.int (0) 0,.ref 282,.int (217) 0,.int (0) 0,.ref 287,.int (227) 0,.int (0) 0,.ref 292,.int (235) 0,.int (0) 0,.ref 297,.int (237) 0,.int (0) 0,.ref 302,.int (245) 0,.int (0) 0,.ref 307,.int (255) 0,.int (0) 0,.ref 312,.int (261) 0,.int (0) 0,.ref 317,.int (266) 0,.int (0) 0,.ref 324,.int (269) 0,.int (0) 0,.ref 329,.int (274) 0,.int (0) 0,.ref 334,.int (294) 0,.int (0) 0,.ref 339],#[]⟩
def qqj:Obj:=Hd.oN ZB 389
def qqV:=Hd.o3 "is_step" DA zc2 386 72 1 144 .none (.ref 146) (.ref 147) 148 390 391
def qqd:=Hd.o3 "is_cells" VW zc2 393 76 1 151 .none .none .none 153 396 397
def qqH:Obj:=Hd.oN TB 402
def qpM:=Hd.o3 "is_walk" EX zc2 399 82 1 156 .none (.ref 158) (.ref 159) 160 404 405
def qnv:=Hd.o3 "strung" XO zc2 407 93 3 163 .none .none .none 165 410 411
def qnZ:=Hd.o3 "cells_of" VT zc2 413 95 1 168 .none .none .none 170 416 417
def qlc:=Hd.o3 "starts" W2 zc2 419 105 2 173 .none .none .none 175 422 423
def qnG:=Hd.o3 "shifted" U3 zc2 425 111 2 178 .none .none .none 180 428 429
def qkx:=Hd.o3 "is_start" VF zc2 431 113 3 183 .none .none .none 185 434 435
def qkU:Obj:=Hd.oN J6 440
def qoy:=Hd.o3 "words_of" VU zc2 437 115 3 188 .none (.ref 190) (.ref 191) 192 443 444
def qkp:=Hd.o3 "spread" W4 (.str "bankwalk.joining" 446) 448 120 4 195 .none .none .none 197 451 452
def qoN:=Hd.o3 "banks_from" Z5 zb9 456 127 3 200 .none .none .none 202 459 460
def qmy:=Hd.o3 "loads" R4 zb9 462 129 3 205 .none .none .none 207 465 466
def qoz:=Hd.o3 "clear_starts" jX zb9 468 135 2 210 .none .none .none 212 471 472
def qlL:Obj:=Hd.oN W5 479
def qk2:=Hd.o3 "lanes_for" JE zc1 476 138 1 215 .none (.ref 217) (.ref 218) 219 481 482
def qnT:=Hd.o3 "lanes_of" VY zc1 484 143 3 222 .none .none .none 224 487 488
def qkk:Obj:=Hd.oN J6 495
def qn1:=Hd.o3 "waits_of" VJ (.str "bankwalk.player" 490) 492 150 3 227 .none (.ref 229) (.ref 230) 231 498 499
def qni:Obj:=Hd.oN TU 506
def qkO:=Hd.o3 "_law_mix" EB zb7 503 153 2 234 .none (.ref 236) (.ref 237) 238 509 510
def ql8:Obj:=Hd.oN RF 515
def qnC:=Hd.o3 "_law_left" VN zb7 512 156 2 241 .none (.ref 243) (.ref 244) 245 519 520
def qkr:Obj:=Hd.oN C7 525
def qmX:=Hd.o3 "_law_pick" VP zb7 522 160 2 248 .none (.ref 250) (.ref 251) 252 528 529
def qo1:Obj:=Hd.oN XW 534
def qmM:=Hd.o3 "_law_gcd" U9 zb7 531 167 2 255 .none (.ref 257) (.ref 258) 259 536 537
def qnp:=Hd.o3 "_law_small" JM zb7 539 171 1 262 .none .none .none 264 542 543
def qo6:=Hd.o3 "_law_size" ZQ zb7 545 189 1 267 .none .none .none 269 548 549
def qor:Obj:=Hd.oN KZ 554
def qnd:=Hd.o3 "_law_odd" EF zb7 551 199 1 272 .none (.ref 274) (.ref 275) 276 557 558
def qm2:=Hd.o3 "_law_bank" ZG zb7 560 204 3 279 .none .none .none 281 563 564
def qoW:=Hd.o3 "_law_cells" JL zb7 566 217 1 284 .none .none .none 286 569 570
def qm0:=Hd.o3 "_law_starts" ZH zb7 572 227 2 289 .none .none .none 291 575 576
def qo4:=Hd.o3 "_law_from" VZ zb7 578 235 3 294 .none .none .none 296 581 582
def qol:=Hd.o3 "_law_same" ZV zb7 584 237 2 299 .none .none .none 301 587 588
def qlv:=Hd.o3 "_law_short" J1 zb7 590 245 1 304 .none .none .none 306 593 594
def qpg:=Hd.o3 "_law_little" ZX zb7 596 255 1 309 .none .none .none 311 599 600
def qlY:=Hd.o3 "_law_tiny" VL zb7 602 261 2 314 .none .none .none 316 605 606
def qkd:Obj:=Hd.oN Z8 611
def qmQ:=Hd.o3 "_law_clear_from" jw zb7 608 266 3 319 .none (.ref 321) (.ref 322) 323 615 616
def qlg:=Hd.o3 "_law_chosen" ZS zb7 618 269 3 326 .none .none .none 328 621 622
def qof:=Hd.o3 "_law_right" JJ zb7 624 274 5 331 .none .none .none 333 627 628
def qlk:=Hd.o3 "law" V7 zb7 630 294 1 336 .none .none .none 338 633 634
def qie (P:Params):PySem.W.BT:=(Hd.nd (xj2 P) (Hd.nd (xj3 P) (Hd.nd (qlp P) (Hd.nd (xj8 P) (Hd.nd qW (Hd.nd (qkC 0) (Hd.nd (qoR P) (Hd.nd qoP (Hd.lf qW) .nil) (Hd.nd qW (Hd.lf qW) .nil)) (Hd.nd qW (Hd.nd qW (Hd.lf (qoW 1)) .nil) (Hd.lf zQ))) (Hd.nd (qmk 2) (Hd.nd qmn (Hd.nd qjv (Hd.lf (qo6 2)) .nil) (Hd.nd (qmy 0) (Hd.lf (qof 2)) .nil)) (Hd.nd (qop 1) (Hd.nd (qlc 0) (Hd.lf (qol 2)) .nil) (Hd.lf (qkO 1))))) (Hd.nd zQ (Hd.nd (qla 1) (Hd.nd qkZ (Hd.nd qW (Hd.lf zQ) .nil) (Hd.nd (qkp 2) (Hd.lf zQ) .nil)) (Hd.nd (qli 0) (Hd.nd (qnv 2) (Hd.lf zQ) .nil) (Hd.lf (qn1 0)))) (Hd.nd qW (Hd.nd ql4 (Hd.nd qW (Hd.lf qW) .nil) (Hd.lf qW)) (Hd.nd zQ (Hd.nd qW (Hd.lf (qpg 0)) .nil) (Hd.lf (qnC 2)))))) (Hd.nd qW (Hd.nd (qq6 0) (Hd.nd zQ (Hd.nd qkQ (Hd.nd (qnz 2) (Hd.lf (qmM 0)) .nil) (Hd.nd qW (Hd.lf (qmQ 0)) .nil)) (Hd.nd qW (Hd.nd qW (Hd.lf (qm0 0)) .nil) (Hd.lf qW))) (Hd.nd qW (Hd.nd qnL (Hd.nd qW (Hd.lf qW) .nil) (Hd.nd zQ (Hd.lf (qlk 1)) .nil)) (Hd.nd (qkw 0) (Hd.nd zQ (Hd.lf (qlv 1)) .nil) (Hd.lf ql8)))) (Hd.nd (qoK 1) (Hd.nd qo5 (Hd.nd (qnX P) (Hd.nd (qiZ P) (Hd.lf qW) .nil) (Hd.nd (qoN 1) (Hd.lf qW) .nil)) (Hd.nd zQ (Hd.nd (qnZ 1) (Hd.lf qW) .nil) (Hd.lf zQ))) (Hd.nd qod (Hd.nd (qk7 2) (Hd.nd (qqd 2) (Hd.lf (qm2 2)) .nil) (Hd.lf (qk2 0))) (Hd.nd (qoJ 1) (Hd.nd (qkx 2) (Hd.lf zQ) .nil) (Hd.lf qW)))))) (Hd.nd (xj6 P) (Hd.nd (xk0 P) (Hd.nd qru (Hd.nd (qkC 2) (Hd.nd zQ (Hd.nd (qnz 0) (Hd.lf qo1) .nil) (Hd.nd (qoy 1) (Hd.lf qkd) .nil)) (Hd.nd (qm7 1) (Hd.nd (qpM 1) (Hd.lf qW) .nil) (Hd.lf (qnT 1)))) (Hd.nd qaD (Hd.nd (ql1 P) (Hd.nd zQ (Hd.lf zQ) .nil) (Hd.nd (qmy 2) (Hd.lf zQ) .nil)) (Hd.nd qW (Hd.nd (qlc 2) (Hd.lf zQ) .nil) (Hd.lf qW)))) (Hd.nd qW (Hd.nd qW (Hd.nd qdu (Hd.nd (qkR 1) (Hd.lf (qnp 1)) .nil) (Hd.nd zQ (Hd.lf (qlg 1)) .nil)) (Hd.nd (qli 2) (Hd.nd zQ (Hd.lf (qo4 1)) .nil) (Hd.lf (qn1 2)))) (Hd.nd qkL (Hd.nd (qk7 0) (Hd.nd (qqd 0) (Hd.lf (qm2 0)) .nil) (Hd.lf qlL)) (Hd.nd qW (Hd.nd (qkx 0) (Hd.lf (qpg 2)) .nil) (Hd.lf zQ))))) (Hd.nd qpl (Hd.nd (qq6 2) (Hd.nd qW (Hd.nd (qk4 P) (Hd.nd zQ (Hd.lf (qmM 2)) .nil) (Hd.nd (qkp 0) (Hd.lf (qmQ 2)) .nil)) (Hd.nd qpj (Hd.nd (qnv 0) (Hd.lf (qm0 2)) .nil) (Hd.lf qkk))) (Hd.nd qmp (Hd.nd qW (Hd.nd (qqV 1) (Hd.lf (qnd 1)) .nil) (Hd.lf (qoz 1))) (Hd.nd (qkw 2) (Hd.nd (qnG 1) (Hd.lf qW) .nil) (Hd.lf (qnC 0))))) (Hd.nd qW (Hd.nd (qmk 0) (Hd.nd zQ (Hd.nd qjt (Hd.lf (qo6 0)) .nil) (Hd.nd qW (Hd.lf (qof 0)) .nil)) (Hd.nd qW (Hd.nd qW (Hd.lf (qol 0)) .nil) (Hd.lf qW))) (Hd.nd qdu (Hd.nd zQ (Hd.nd zQ (Hd.lf zQ) .nil) (Hd.lf (qk2 2))) (Hd.nd qW (Hd.nd zQ (Hd.lf (qlY 1)) .nil) (Hd.lf (qmX 1)))))))) (Hd.nd (xj4 P) (Hd.nd (xj5 P) (Hd.nd (xj9 P) (Hd.nd zQ (Hd.nd (qkC 1) (Hd.nd qW (Hd.nd qW (Hd.lf zQ) .nil) (Hd.nd (qoy 0) (Hd.lf zQ) .nil)) (Hd.nd (qm7 0) (Hd.nd (qpM 0) (Hd.lf (qoW 2)) .nil) (Hd.lf (qnT 0)))) (Hd.nd qmB (Hd.nd qW (Hd.nd qW (Hd.lf qW) .nil) (Hd.nd (qmy 1) (Hd.lf qW) .nil)) (Hd.nd (qop 2) (Hd.nd (qlc 1) (Hd.lf qW) .nil) (Hd.lf (qkO 2))))) (Hd.nd qlQ (Hd.nd (qla 2) (Hd.nd qlI (Hd.nd (qkR 0) (Hd.lf (qnp 0)) .nil) (Hd.nd qW (Hd.lf (qlg 0)) .nil)) (Hd.nd (qli 1) (Hd.nd qW (Hd.lf (qo4 0)) .nil) (Hd.lf (qn1 1)))) (Hd.nd (qlC P) (Hd.nd qW (Hd.nd zQ (Hd.lf zQ) .nil) (Hd.lf zQ)) (Hd.nd qmt (Hd.nd zQ (Hd.lf (qpg 1)) .nil) (Hd.lf qW))))) (Hd.nd qpL (Hd.nd (qq6 1) (Hd.nd qpd (Hd.nd qW (Hd.nd qW (Hd.lf (qmM 1)) .nil) (Hd.nd zQ (Hd.lf (qmQ 1)) .nil)) (Hd.nd zQ (Hd.nd zQ (Hd.lf (qm0 1)) .nil) (Hd.lf zQ))) (Hd.nd zQ (Hd.nd qln (Hd.nd (qqV 0) (Hd.lf (qnd 0)) .nil) (Hd.nd (qoz 0) (Hd.lf (qlk 2)) .nil)) (Hd.nd (qkw 1) (Hd.nd (qnG 0) (Hd.lf (qlv 2)) .nil) (Hd.lf qW)))) (Hd.nd (qoK 2) (Hd.nd qW (Hd.nd qW (Hd.nd qiA (Hd.lf zQ) .nil) (Hd.nd (qoN 2) (Hd.lf zQ) .nil)) (Hd.nd qks (Hd.nd (qnZ 2) (Hd.lf zQ) .nil) (Hd.lf qni))) (Hd.nd qoC (Hd.nd qW (Hd.nd qW (Hd.lf qW) .nil) (Hd.lf (qk2 1))) (Hd.nd (qoJ 2) (Hd.nd qW (Hd.lf (qlY 0)) .nil) (Hd.lf (qmX 0))))))) (Hd.nd (xj7 P) (Hd.nd (xi0 P) (Hd.nd qW (Hd.nd qW (Hd.nd qoA (Hd.nd (qnz 1) (Hd.lf qW) .nil) (Hd.nd (qoy 2) (Hd.lf qW) .nil)) (Hd.nd (qm7 2) (Hd.nd (qpM 2) (Hd.lf zQ) .nil) (Hd.lf (qnT 2)))) (Hd.nd (qn4 P) (Hd.nd qow (Hd.nd qqj (Hd.lf qor) .nil) (Hd.nd qW (Hd.lf (qlk 0)) .nil)) (Hd.nd zQ (Hd.nd qW (Hd.lf (qlv 0)) .nil) (Hd.lf zQ)))) (Hd.nd (qoK 0) (Hd.nd zQ (Hd.nd qaD (Hd.nd (qkR 2) (Hd.lf (qnp 2)) .nil) (Hd.nd (qoN 0) (Hd.lf (qlg 2)) .nil)) (Hd.nd qW (Hd.nd (qnZ 0) (Hd.lf (qo4 2)) .nil) (Hd.lf qW))) (Hd.nd ql2 (Hd.nd (qk7 1) (Hd.nd (qqd 1) (Hd.lf (qm2 1)) .nil) (Hd.lf qW)) (Hd.nd (qoJ 0) (Hd.nd (qkx 1) (Hd.lf qW) .nil) (Hd.lf qkr))))) (Hd.nd qpv (Hd.nd qW (Hd.nd (qla 0) (Hd.nd qlX (Hd.nd qnF (Hd.lf qW) .nil) (Hd.nd (qkp 1) (Hd.lf qW) .nil)) (Hd.nd qW (Hd.nd (qnv 1) (Hd.lf qW) .nil) (Hd.lf qW))) (Hd.nd qnK (Hd.nd zQ (Hd.nd (qqV 2) (Hd.lf (qnd 2)) .nil) (Hd.lf (qoz 2))) (Hd.nd qW (Hd.nd (qnG 2) (Hd.lf zQ) .nil) (Hd.lf (qnC 1))))) (Hd.nd zQ (Hd.nd (qmk 1) (Hd.nd qno (Hd.nd qio (Hd.lf (qo6 1)) .nil) (Hd.nd zQ (Hd.lf (qof 1)) .nil)) (Hd.nd (qop 0) (Hd.nd zQ (Hd.lf (qol 1)) .nil) (Hd.lf (qkO 0)))) (Hd.nd qaD (Hd.nd qk6 (Hd.nd qqH (Hd.lf (qoW 0)) .nil) (Hd.lf qW)) (Hd.nd zQ (Hd.nd qkU (Hd.lf (qlY 2)) .nil) (Hd.lf (qmX 2)))))))))
abbrev qhT:List Stmt:=(qbC.drop 21).take 40
set_option maxRecDepth 100000 in
set_option maxHeartbeats 0 in
theorem qn7 (w : World) (os : OsState) : PySem.W.segRunT xm5 PySem.Challenge.pw_bankwalk_k54_walks_in_joined_dealings w 11 (some (Value.ref 6)) 1 1008 (⟨qoi w.params,144,{ },#[],{ },386,os⟩ : PySem.W.SharedT) (PySem.W.piecesOf qhT qpa RP ⟨71,0,71,7⟩ qmT) = some (.next,(⟨qie w.params,341,{ },#[],{ },636,os⟩ : PySem.W.SharedT),RP,⟨294,0,317,15⟩) := by kernel_rfl
abbrev qjN (P:Params):Heap:=PySem.W.absHeap (qie P) 341 { }
def Kf (P:Params):xh1:=[(3,qlp P),(20,(qq6 1)),(21,(qq6 2)),(27,(qoK 1)),(28,(qoK 2)),(32,(qkC 1)),(33,(qkC 2)),(39,(qla 1)),(40,(qla 2)),(46,(qmk 1)),(47,(qmk 2)),(90,(qk7 1)),(91,(qk7 2)),(97,(qm7 1)),(98,(qm7 2)),(104,(qli 1)),(105,(qli 2)),(111,(qop 1)),(112,(qop 2)),(116,(qkw 1)),(117,(qkw 2)),(123,(qoJ 1)),(124,(qoJ 2)),(130,(qnz 1)),(131,(qnz 2)),(137,(qkR 1)),(138,(qkR 2)),(139,qiZ P),(140,qiA),(141,qjt),(142,qio),(143,qjv),(149,(qqV 1)),(150,(qqV 2)),(154,(qqd 1)),(155,(qqd 2)),(161,(qpM 1)),(162,(qpM 2)),(166,(qnv 1)),(167,(qnv 2)),(171,(qnZ 1)),(172,(qnZ 2)),(176,(qlc 1)),(177,(qlc 2)),(181,(qnG 1)),(182,(qnG 2)),(186,(qkx 1)),(187,(qkx 2)),(193,(qoy 1)),(194,(qoy 2)),(198,(qkp 1)),(199,(qkp 2)),(203,(qoN 1)),(204,(qoN 2)),(208,(qmy 1)),(209,(qmy 2)),(213,(qoz 1)),(214,(qoz 2)),(220,(qk2 1)),(221,(qk2 2)),(225,(qnT 1)),(226,(qnT 2)),(232,(qn1 1)),(233,(qn1 2)),(239,(qkO 1)),(240,(qkO 2)),(246,(qnC 1)),(247,(qnC 2)),(253,(qmX 1)),(254,(qmX 2)),(260,(qmM 1)),(261,(qmM 2)),(265,(qnp 1)),(266,(qnp 2)),(270,(qo6 1)),(271,(qo6 2)),(277,(qnd 1)),(278,(qnd 2)),(282,(qm2 1)),(283,(qm2 2)),(287,(qoW 1)),(288,(qoW 2)),(292,(qm0 1)),(293,(qm0 2)),(297,(qo4 1)),(298,(qo4 2)),(302,(qol 1)),(303,(qol 2)),(307,(qlv 1)),(308,(qlv 2)),(312,(qpg 1)),(313,(qpg 2)),(317,(qlY 1)),(318,(qlY 2)),(324,(qmQ 1)),(325,(qmQ 2)),(329,(qlg 1)),(330,(qlg 2)),(334,(qof 1)),(335,(qof 2)),(339,(qlk 1)),(340,(qlk 2))]
def J (l:PySem.W.OpenLaw) (w:World) (base:Heap) {mg:Str->Option Value}:=@Hd.jf2 l.prog w (Kf w.params) mg base
section
variable {l:PySem.W.OpenLaw} {w:World} {h:Heap} {mg:Str->Option Value} {base:Heap} [Z:Hd.Cz mg (Kf w.params) h]
def Ez:=@Hd.e _ _ _ Z.X Z.G
def E5:=Ez "size_of" YL KC 91 zb8 (.ref 90)
def E6:=Ez "number_of" QB XX 98 zb8 (.ref 97)
def E11:=Ez "joined_bank" jE UW 131 zb8 (.ref 130)
def E12:=Ez "bank_in" J8 TK 138 zb8 (.ref 137)
def E34:=Ez "_law_size" ZQ RD 271 zb7 (.ref 270)
def E36:=Ez "_law_bank" ZG CM 283 zb7 (.ref 282)
def E40:=Ez "_law_same" ZV EM 303 zb7 (.ref 302)
def g0:=Hd.no Z.X Z.G "isinstance"
def g1:=Hd.no Z.X Z.G "bool"
def g2:=Hd.no Z.X Z.G "int"
def g3:=Hd.no Z.X Z.G "all"
def g4:=Hd.no Z.X Z.G "len"
def g5:=Hd.no Z.X Z.G "tuple"
def g6:=Hd.no Z.X Z.G "range"
def g7:=Hd.no Z.X Z.G "enumerate"
def g8:=Hd.no Z.X Z.G "sum"
def g9:=Hd.no Z.X Z.G "set"
def g10:=Hd.no Z.X Z.G "str"
def g11:Tb (Kf w.params) mg w "STRIDES" YI:=⟨139,_,4,Hd.qoY Z.X Z.G "STRIDES" (.ref 139) (by kernel_rfl),(show (Kf w.params).lookup 139=some ⟨.type "dict",none,.dict #[⟨xe0 w.params "row",.str "row" 368,.ref 140⟩,⟨xe0 w.params "column",.str "column" 371,.ref 141⟩,⟨xe0 w.params "slant",.str "slant" 374,.ref 142⟩,⟨xe0 w.params "back",.str "back" 377,.ref 143⟩] 4,#[]⟩ by kernel_rfl),rfl,(.cons (v:=.ref 140) rfl (NF (show (Kf w.params).lookup 140=some ⟨.type "tuple",none,.seq #[.int (0) 369,.int (1) 370] 0,#[]⟩ by kernel_rfl)) (.cons (v:=.ref 141) rfl (NF (show (Kf w.params).lookup 141=some ⟨.type "tuple",none,.seq #[.int (1) 372,.int (0) 373] 0,#[]⟩ by kernel_rfl)) (.cons (v:=.ref 142) rfl (NF (show (Kf w.params).lookup 142=some ⟨.type "tuple",none,.seq #[.int (1) 375,.int (1) 376] 0,#[]⟩ by kernel_rfl)) (.cons (v:=.ref 143) rfl (NF (show (Kf w.params).lookup 143=some ⟨.type "tuple",none,.seq #[.int (1) 378,.int (-1) 380] 0,#[]⟩ by kernel_rfl)) .nil))))⟩
def g12:=Hd.no Z.X Z.G "list"
def g13:=Hd.no Z.X Z.G "min"
def g14:=Hd.no Z.X Z.G "max"
def g15:=Hd.no Z.X Z.G "abs"
def g16:=Hd.no Z.X Z.G "zip"
def O17:=J l w base 0 (Ez "is_number" JN W8 21 zc0 (.ref 20)) (Pu.qT Z4 W8 1 1000000000 false) λnd hr=>(qj (qm (jI (QF (qb 0) rfl g0 rfl g2 PyProof.Rows.boot_int) (QE (qgt (QF (qb 0) rfl g0 rfl g1 zp1))))))
def O18:=J l w base 1 (Ez "is_at_least" QV ZU 28 zc0 (.ref 27)) (Pu.qT UV ZU 2 1000000000 false) λnd hr=>(qj (qm (jI (qh O17 hr rfl (qa (qb 0) qc)) (QE (zA qnW j5 (qb 0) (qb 1) (qp _))))))
def O19:=J l w base 2 (Ez "are_at_least" jZ YY 33 zc0 (.ref 32)) (Pu.qT YX YY 2 1000000000 false) λnd hr=>(qj (qm (qq (jF rfl) SJ rfl g3 xd1 (qa (jH ["thing","least"] [none,some 1] rfl (zM (qb 0)) (λ_ _ _=>(jgn 0)) (λ_ _ _=>qZ) (λ_ _ _=>(qh O18 hr rfl (qa (qb 0) (qa (qb 1) qc))))) qc))))
def O20:=J l w base 1 (Ez "is_pair" DC KU 40 zc0 (.ref 39)) (Pu.qT UI KU 1 1000000000 false) λnd hr=>(qj (qm (jI (QF (qb 0) rfl g0 rfl g5 zb2) (jI (zA (qH hr.units) qy (qq qL q0 rfl g4 zb1 (qa (qb 0) qc)) qd (qp _)) (jI (qh O17 hr rfl (qa (qk (qb 0) qd) qc)) (QE (qh O17 hr rfl (qa (qk (qb 0) qd) qc))))))))
def O21:=J l w base (N:=UG) 0 (Ez "first_alike" QQ ["things"] 47 zc0 (.ref 46)) Pv.CA λnd hr=>(qg (Q8 zg6 rfl (qK rfl g6 (qa (qq qL q0 rfl g4 zb1 (qa (qb 0) qc)) qc)) (ql (i:=1) nd) (qj (Q8 zg6 rfl (JP rfl g6 (qa (qx (qb 1) qd) (qa (qq qL q0 rfl g4 zb1 (qa (qb 0) qc)) qc))) (ql (i:=2) nd) (qj (qX (qA (qH hr.units) qy (qk (qb 0) (qb 1)) (qk (qb 0) (qb 2)) (qp _)) (qj (qm (qB (qa (qb 1) (qa (qb 2) qc))))) qD))))) (qj (qm DZ)))
def O22:=J l w base (N:=JX) 0 (Ez "odd_in_common" jK ["number","mask"] 112 zb8 (.ref 111)) WC λnd hr=>(qg (qF 2 nd (R9 (qb 0) (qb 1))) (qg (qF 3 nd qd) (qg (SD zg6 (qA qen j5 (qb 2) qd (qp _)) (qg (qbs 3 nd (R9 (qb 2) qd)) (qj (qF 2 nd (qmV (qb 2) qd))))) (qj (qm (zA (qH hr.units) qy (R9 (qb 3) qd) qd (qp _)))))))
def O23:=J l w base (N:=XE) 1 (Ez "bits_bank" JG XE 117 zb8 (.ref 116)) T5 λnd hr=>(qj (qm (qq (UD rfl) qa2 rfl g8 PyProof.Rows.boot_sum (qa (jH ["t","mask","number"] [none,none,some 1] rfl (RX rfl g7 (qa (qb 0) qc)) (λ_ _ _=>(qU rfl (qi (jgn 0) (qi (jgn 1) qV)))) (λ_ _ _=>DT (jh (qh O22 hr rfl (qa (qb 2) (qa (qb 1) qc))))) (λ_ _ _=>(M3 qd (qb 0)))) qc))))
def O24:=J l w base (N:=MP) 0 (Ez "parted" X2 ["word","rows","columns"] 124 zb8 (.ref 123)) qb9 λnd hr=>(qg (zR (qb 0) (qU rfl (qi (ql (i:=3) nd) (qi (ql (i:=4) nd) qV)))) (qj (qm (qB (qa (qB (qa (DS (qb 3) (qb 1)) (qa (DS (qb 4) (qb 2)) qc))) (qa (qB (qa (jJ (qb 3) (qb 1)) (qa (jJ (qb 4) (qb 2)) qc))) qc))))))
def O25:=J l w base 2 (Ez "is_step" DA TR 150 zc2 (.ref 149)) (Pu.qT K2 TR 1 1000000000 false) λnd hr=>(qg (qX (jpt (SX (qA (Z7 hr.units) jL (qq qL q0 rfl g4 zb1 (qa (qb 0) qc)) qd (qp _)) (SX (Q6 (jh (qh (Hd.up O17) hr rfl (qa (qk (qb 0) qd) qc)))) (CU (Q6 (jh (qh (Hd.up O17) hr rfl (qa (qk (qb 0) qd) qc)))))))) (qj (qm VM)) qD) (qj (qm (jI (qqm (zA (Z7 hr.units) jL (qk (qb 0) qd) qd (qp _)) (QE (zA (Z7 hr.units) jL (qk (qb 0) qd) qd (qp _)))) (QE (qh O18 hr rfl (qa (qk (qb 0) qd) (qa qd qc))))))))
def O26:=J l w base 2 (Ez "is_cells" VW ZB 155 zc2 (.ref 154)) (Pu.qT YM ZB 1 1000000000 false) λnd hr=>(qg (qX (jpt (SX (qA (Z7 hr.units) jL (qq qL q0 rfl g4 zb1 (qa (qb 0) qc)) qd (qp _)) (SX (Q6 (jh (QF (qk (qb 0) qd) rfl g0 rfl g5 zb2))) (CU (qA (qH hr.units) qy (qq qL q0 rfl g4 zb1 (qa (qk (qb 0) qd) qc)) qd (qp _)))))) (qj (qm VM)) qD) (qg (qX (Q6 (jh (qq (jF rfl) SJ rfl g3 xd1 (qa (jH ["cell"] [none] rfl (zM (qk (qb 0) qd)) (λ_ _ _=>(jgn 0)) (λ_ _ _=>qZ) (λ_ _ _=>(qh O20 hr rfl (qa (qb 0) qc)))) qc)))) (qj (qm VM)) qD) (qj (qm (zA (qH hr.units) qy (qaA rfl hr.units rfl g4 rfl g9 (qk (qb 0) qd)) (qq qL q0 rfl g4 zb1 (qa (qk (qb 0) qd) qc)) (qp _))))))
def O27:=J l w base 3 (Ez "is_walk" EX ["thing"] 162 zc2 (.ref 161)) (Pu.qT UO TB 1 1000000000 false) λnd hr=>(qg (qX (jpt (SX (Q6 (jh (QF (qb 0) rfl g0 rfl g5 zb2))) (SX (qA (qH hr.units) qy (qq qL q0 rfl g4 zb1 (qa (qb 0) qc)) qd (qp _)) (CU (Q6 (jh (QF (qk (qb 0) qd) rfl g0 rfl g10 PyProof.Rows.boot_str))))))) (qj (qm VM)) qD) (qg (qF 1 nd (qk (qb 0) qd)) (qg (qX (qdM g11 rfl (qb 1)) (qj (qm (jI (zA (qH hr.units) qy (qq qL q0 rfl g4 zb1 (qa (qb 0) qc)) qd (qp _)) (QE (qh (Hd.up O18) hr rfl (qa (qk (qb 0) qd) (qa qd qc))))))) qD) (qg (qX (qA (qH hr.units) qy (qb 1) qG (qp _)) (qj (qm (jI (zA (qH hr.units) qy (qq qL q0 rfl g4 zb1 (qa (qb 0) qc)) qd (qp _)) (QE (qh O19 hr rfl (qa (WM (qb 0) (U8 qd) qdn) (qa qd qc))))))) qD) (qg (qX (qA (qH hr.units) qy (qb 1) qG (qp _)) (qj (qm (qh O25 hr rfl (qa (qb 0) qc)))) qD) (qj (qm (jI (zA (qH hr.units) qy (qb 1) qG (qp _)) (QE (qh O26 hr rfl (qa (qb 0) qc)))))))))))
def O28:=J l w base (N:=N6) 0 (Ez "strung" XO N6 167 zc2 (.ref 166)) Pv.qbY λnd hr=>(qj (qm (jH ["t","down","along"] [none,some 0,some 1] rfl (qK rfl g6 (qa (qb 2) qc)) (λ_ _ _=>(jgn 0)) (λ_ _ _=>qZ) (λ_ _ _=>(qB (qa (qY (qb 0) (qb 1)) (qa (qY (qb 0) (qb 2)) qc)))))))
def O29:=J l w base (N:=qaq) 1 (Ez "cells_of" VT ["walk"] 172 zc2 (.ref 171)) Pv.LO λnd hr=>(qg (qF 1 nd (qk (qb 0) qd)) (qg (qX (qA (qH hr.units) qy (qb 1) qG (qp _)) (qj (qm (zL DP N5 rfl g12 zb4 (qa (qk (qb 0) qd) qc)))) qD) (qg (qX (qA (qH hr.units) qy (qb 1) qG (qp _)) (qj (qm (qhp ["p","q","walk"] [none,none,some 0] rfl (qK rfl g6 (qa (qk (qb 0) qd) qc)) (λ_ _ _=>(jgn 0)) (λ_ _ _=>qZ) (λ_ _ _=>(qK rfl g6 (qa (qk (qb 2) qd) qc))) (λ_ _ _=>(jgn 1)) (λ_ _ _=>qZ) (λ_ _ _=>(qB (qa (qb 0) (qa (qb 1) qc))))))) qD) (qg (qX (qA (qH hr.units) qy (qb 1) qG (qp _)) (qj (qm (qh O28 hr rfl (qa (qk (qb 0) qd) (qa (qk (qb 0) qd) (qa (qk (qb 0) qd) qc)))))) qD) (qg (zR (qjf g11 rfl (qb 1) (λ_ _=>rfl)) (qU rfl (qi (ql (i:=2) nd) (qi (ql (i:=3) nd) qV)))) (qj (qm (qh O28 hr rfl (qa (qb 2) (qa (qb 3) (qa (qk (qb 0) qd) qc)))))))))))
def O30:=J l w base 2 (Ez "shifted" U3 T8 182 zc2 (.ref 181)) (Pu.qT UY T8 2 1000000000 true) λnd hr=>(qj (qm (jH ["p","q","start"] [none,none,some 1] rfl (zM (qh O29 hr rfl (qa (qb 0) qc))) (λ_ _ _=>(qU rfl (qi (jgn 0) (qi (jgn 1) qV)))) (λ_ _ _=>qZ) (λ_ _ _=>(qB (qa (qx (qk (qb 2) qd) (qb 0)) (qa (qx (qk (qb 2) qd) (qb 1)) qc)))))))
def O31:=J l w base 4 (Ez "spread" W4 ["one","other","rows","columns"] 199 (.str "bankwalk.joining" 446) (.ref 198)) (Pu.qT WG qeE 4 1000000000 false) λnd hr=>(qg (qby 4 ["p","q","r","t","other","rows","columns"] [none,none,none,none,some 1,some 2,some 3] rfl nd (zM (qh (Hd.up O29) hr rfl (qa (qb 0) qc))) (λ_ _ _=>(qU rfl (qi (jgn 0) (qi (jgn 1) qV)))) (λ_ _ _=>qZ) (λ_ _ _=>(zM (qh (Hd.up O29) hr rfl (qa (qb 4) qc)))) (λ_ _ _=>(qU rfl (qi (jgn 2) (qi (jgn 3) qV)))) (λ_ _ _=>qZ) (λ_ _ _=>(qB (qa (qx (qY (qb 0) (qb 5)) (qb 2)) (qa (qx (qY (qb 1) (qb 6)) (qb 3)) qc))))) (qg (qF 5 nd (qB (qa qG (qa (zL zb jg rfl g5 zb2 (qa (qb 4) qc)) qc)))) (qg (qX (Q6 (jh (qh O27 hr rfl (qa (qb 5) qc)))) N2 qD) (qj (qm (qb 5))))))
def O32:=J l w base 0 (Ez "lanes_for" JE ["banks"] 221 zc1 (.ref 220)) (Pu.qT ZL W5 1 1000000000 false) λnd hr=>(qg (qF 1 nd qd) (qg (SD zg6 (qA qaE j5 (qb 1) (qb 0) (qp _)) (qj (qF 1 nd (qY (qb 1) qd)))) (qj (qm (qb 1)))))
def O33:=J l w base (N:=TU) 0 (Ez "_law_mix" EB ["_law_cell","_law_k"] 240 zb7 (.ref 239)) qaF λnd hr=>(qg (qF 2 nd (jJ (qY (qx (qx (jJ (qb 0) qd) (qY (qY (qb 1) (qb 1)) qd)) qd) qd) qd)) (qj (qm (jJ (qY (qb 2) (qb 2)) qd))))
def O34:=J l w base (N:=RF) 0 (Ez "_law_left" VN ["_law_script","_law_k"] 247 zb7 (.ref 246)) MF λnd hr=>(qg (qF 2 nd (qls (qA qaE j5 (qb 1) (qq qL q0 rfl g4 zb1 (qa (qb 0) qc)) (qp _)) (qk (qb 0) (qb 1)) qd)) (qg (qF 3 nd (qls (qA qnW j5 (qq ND qc6 rfl g15 PyProof.Rows.boot_abs (qa (qb 2) qc)) (qo2 qd qd) (qp _)) (qq ND qc6 rfl g15 PyProof.Rows.boot_abs (qa (qb 2) qc)) qd)) (qj (qm (jm (qa (qb 3) (qa (qx (qb 2) (qY qd (qb 1))) (qa qd qc))))))))
def O35:=J l w base (N:=C7) 1 (Ez "_law_pick" VP ["_law_left_here","_law_many"] 254 zb7 (.ref 253)) LN λnd hr=>(qg (zR (qx (qk (qb 0) qd) qd) (qf9 (qb 0) qd)) (qg (qX (qA qen j5 (qk (qb 0) qd) qd (qp _)) (qg (qF 2 nd (jJ (qk (qb 0) qd) (qb 1))) (qg (zR (DS (qk (qb 0) qd) (qb 1)) (qf9 (qb 0) qd)) (qj (qm (qb 2))))) qD) (qj (qm (jJ (DS (qh O33 hr rfl (qa (qh O33 hr rfl (qa (qk (qb 0) qd) (qa (qk (qb 0) qd) qc))) (qa (qx (qk (qb 0) qd) qd) qc))) qd) (qb 1))))))
def O36:=J l w base (N:=XW) 0 (Ez "_law_gcd" U9 XW 261 zb7 (.ref 260)) qax λnd hr=>(qg (SD zg6 (qA qen j5 (qb 1) qd (qp _)) (qj (CO (i:=0) (j:=1) rfl nd rfl rfl (by decide) rfl rfl (qa (qb 1) (qa (jJ (qb 0) (qb 1)) qc))))) (qj (qm (qb 0))))
def O37:=J l w base (N:=MH) 2 (Ez "_law_small" JM ["_law_left_here"] 266 zb7 (.ref 265)) T6 λnd hr=>(qg (zR (qB (qa (qx qd (qh O35 hr rfl (qa (qb 0) (qa qd qc)))) (qa (qx qd (qh O35 hr rfl (qa (qb 0) (qa qd qc)))) (qa (qx qd (qh O35 hr rfl (qa (qb 0) (qa qd qc)))) qc)))) (qU rfl (qi (ql (i:=1) nd) (qi (ql (i:=2) nd) (qi (ql (i:=3) nd) qV))))) (qg (qF 4 nd (qh O35 hr rfl (qa (qb 0) (qa qd qc)))) (qg (qX (qA (qH hr.units) qy (qb 4) qd (qp _)) (qj (qm (qB (qa qG (qa (qb 1) (qa (qb 2) (qa (qb 3) (qa (qh O35 hr rfl (qa (qb 0) (qa (qb 3) qc))) (qa (qh O35 hr rfl (qa (qb 0) (qa qd qc))) qc))))))))) qD) (qg (qX (qA (qH hr.units) qy (qb 4) qd (qp _)) (qg (CO (i:=5) (j:=6) rfl nd rfl rfl (by decide) rfl rfl (qa (qh O35 hr rfl (qa (qb 0) (qa qd qc))) (qa (qh O35 hr rfl (qa (qb 0) (qa qd qc))) qc))) (qg (jO 7 ["_law_t","_law_left_here"] [none,some 0] rfl nd (qK rfl g6 (qa (qh O35 hr rfl (qa (qb 0) (qa qd qc))) qc)) (λ_ _ _=>(jgn 0)) (λ_ _ _=>qZ) (λ_ _ _=>(qh O35 hr rfl (qa (qb 1) (qa qd qc))))) (qg (qF 8 nd (qk (jm (qa qd (qa qd (qa qd (qa qd (qa qd qc)))))) (qx (qb 5) (qb 6)))) (qj (qm (qB (qa qG (qa (qb 5) (qa (qb 6) (qa (zL zb jg rfl g5 zb2 (qa (jH ["_law_mask","_law_wide"] [none,some 8] rfl (zM (qb 7)) (λ_ _ _=>(jgn 0)) (λ_ _ _=>qZ) (λ_ _ _=>(jJ (qb 0) (qb 1)))) qc)) qc)))))))))) qD) (qg (qX (qA (qH hr.units) qy (qb 4) qd (qp _)) (qg (qF 9 nd (qx (DU (DS (qY (DU (qb 1)) (qb 2)) (qb 3))) (qh O35 hr rfl (qa (qb 0) (qa qd qc))))) (qg (Q8 zg6 rfl (qK rfl g6 (qa qd qc)) (ql (i:=10) nd) (qj (qX (qA qen j5 (qh (Hd.up O36) hr rfl (qa (qb 3) (qa (qb 9) qc))) qd (qp _)) (qj (qF 9 nd (qx (qb 9) qd))) qD))) (qj (qm (qB (qa qG (qa (qb 1) (qa (qb 2) (qa (qb 3) (qa (qb 9) qc)))))))))) qD) (qg (jO 11 ["_law_i","_law_left_here","_law_banks","_law_columns"] [none,some 0,some 3,some 2] rfl nd (qK rfl g6 (qa (qb 1) qc)) (λ_ _ _=>(jgn 0)) (λ_ _ _=>qZ) (λ_ _ _=>(zL zb jg rfl g5 zb2 (qa (jH ["_law_j","_law_left_here","_law_banks"] [none,some 1,some 2] rfl (qK rfl g6 (qa (qb 3) qc)) (λ_ _ _=>(jgn 0)) (λ_ _ _=>qZ) (λ_ _ _=>(qh O35 hr rfl (qa (qb 1) (qa (qb 2) qc))))) qc)))) (qj (qm (qB (qa qG (qa (qb 3) (qa (zL zb jg rfl g5 zb2 (qa (qb 11) qc)) qc))))))))))))
def O38:=J l w base (N:=KZ) 0 (Ez "_law_odd" EF ["_law_number"] 278 zb7 (.ref 277)) qaw λnd hr=>(qg (qF 1 nd VM) (qg (Q8 zg6 rfl (qK rfl g6 (qa qd qc)) (ql (i:=2) nd) (qj (qF 1 nd (zA (Z7 hr.units) jL (qb 1) (zA (qH hr.units) qy (jJ (DS (qb 0) (qk (jm (qa qd (qa qd (qa qd (qa qd (qa qd (qa qd (qa qd (qa qd (qa qd qc)))))))))) (qb 2))) qd) qd (qp _)) (qp _))))) (qj (qm (qb 1)))))
def O39:=J l w base 0 (Ez "_law_cells" JL ["_law_walk"] 288 zb7 (.ref 287)) (Pu.qT zP MA 1 1000000000 true) λnd hr=>(qg (qX (qA (qH hr.units) qy (qk (qb 0) qd) qG (qp _)) (qj (qm (zL DP N5 rfl g12 zb4 (qa (qk (qb 0) qd) qc)))) qD) (qg (qX (qA (qH hr.units) qy (qk (qb 0) qd) qG (qp _)) (qg (qF 1 nd (jm qc)) (qg (Q8 zg6 rfl (qK rfl g6 (qa (qk (qb 0) qd) qc)) (ql (i:=2) nd) (qj (WT (XM (qb 1) (qa (jH ["_law_q","_law_p"] [none,some 2] rfl (qK rfl g6 (qa (qk (qb 0) qd) qc)) (λ_ _ _=>(jgn 0)) (λ_ _ _=>qZ) (λ_ _ _=>(qB (qa (qb 1) (qa (qb 0) qc))))) qc))))) (qj (qm (qb 1))))) qD) (qg (zR (qjV (XD (qB (qa qd (qa qd qc))) (XD (qB (qa qd (qa qd qc))) (XD (qB (qa qd (qa qd qc))) (XD (qB (qa qd (qa (DU qd) qc))) (XD (WM (qb 0) (U8 qd) (U8 qd)) qmd))))) (qk (qb 0) qd)) (qU rfl (qi (ql (i:=3) nd) (qi (ql (i:=4) nd) qV)))) (qj (qm (jH ["_law_t","_law_down","_law_along"] [none,some 3,some 4] rfl (qK rfl g6 (qa (qk (qb 0) (DU qd)) qc)) (λ_ _ _=>(jgn 0)) (λ_ _ _=>qZ) (λ_ _ _=>(qB (qa (qY (qb 0) (qb 1)) (qa (qY (qb 0) (qb 2)) qc))))))))))
def O40:=J l w base 2 (Ez "_law_short" J1 ["_law_left_here"] 308 zb7 (.ref 307)) (Pu.R5 ZP LY 1 false) λnd hr=>(qg (CO (i:=1) (j:=2) rfl nd rfl rfl (by decide) rfl rfl (qa (qh O35 hr rfl (qa (qb 0) (qa qd qc))) (qa (qx qd (qh O35 hr rfl (qa (qb 0) (qa qd qc)))) qc))) (qg (qX (qA qaE j5 (qb 1) qd (qp _)) (qj (qm (qB (qa (qk (jm (qa qG (qa qG (qa qG (qa qG qc))))) (qb 1)) (qa (qb 2) qc))))) qD) (qg (qX (qA (qH hr.units) qy (qb 1) qd (qp _)) (qj (qm (qB (qa qG (qa (qb 2) (qa (qx qd (qh O35 hr rfl (qa (qb 0) (qa qd qc)))) qc)))))) qD) (qg (qX (qA (qH hr.units) qy (qb 1) qd (qp _)) (qj (qm (qB (qa qG (qa (qh O35 hr rfl (qa (qb 0) (qa qd qc))) (qa (qx qd (qh O35 hr rfl (qa (qb 0) (qa qd qc)))) (qa (qb 2) qc))))))) qD) (qg (qF 3 nd (jH ["_law_turn","_law_left_here"] [none,some 0] rfl (qK rfl g6 (qa (qb 2) qc)) (λ_ _ _=>(jgn 0)) (λ_ _ _=>qZ) (λ_ _ _=>(qB (qa (DF (qh O35 hr rfl (qa (qb 1) (qa qd qc))) qd) (qa (DF (qh O35 hr rfl (qa (qb 1) (qa qd qc))) qd) qc)))))) (qj (qm (qB (qa qG (qa (zL zb jg rfl g5 zb2 (qa (jH ["_law_n","_law_pair","_law_pairs"] [none,none,some 3] rfl (RX rfl g7 (qa (qb 3) qc)) (λ_ _ _=>(qU rfl (qi (jgn 0) (qi (jgn 1) qV)))) (λ_ _ _=>DT (qA (qbQ hr.units) qdl (qb 1) (WM (qb 2) qdn (U8 (qb 0))) (by with_unfolding_all rfl))) (λ_ _ _=>(qb 1))) qc)) qc))))))))))
def O41:=J l w base 2 (Ez "_law_little" ZX ["_law_left_here"] 313 zb7 (.ref 312)) (Pu.R5 QG KJ 1 false) λnd hr=>(qg (zR (qB (qa (qx qd (qh O35 hr rfl (qa (qb 0) (qa qd qc)))) (qa (qx qd (qh O35 hr rfl (qa (qb 0) (qa qd qc)))) (qa (qx qd (qh O35 hr rfl (qa (qb 0) (qa qd qc)))) qc)))) (qU rfl (qi (ql (i:=1) nd) (qi (ql (i:=2) nd) (qi (ql (i:=3) nd) qV))))) (qg (qX (qA (qH hr.units) qy (qh O35 hr rfl (qa (qb 0) (qa qd qc))) qd (qp _)) (qj (qm (qB (qa qG (qa (qb 1) (qa (qb 2) (qa (qb 3) (qa (qh O35 hr rfl (qa (qb 0) (qa qd qc))) (qa (qh O35 hr rfl (qa (qb 0) (qa qd qc))) qc))))))))) qD) (qg (jO 4 ["_law_i","_law_left_here","_law_banks","_law_columns"] [none,some 0,some 3,some 2] rfl nd (qK rfl g6 (qa (qb 1) qc)) (λ_ _ _=>(jgn 0)) (λ_ _ _=>qZ) (λ_ _ _=>(zL zb jg rfl g5 zb2 (qa (jH ["_law_j","_law_left_here","_law_banks"] [none,some 1,some 2] rfl (qK rfl g6 (qa (qb 3) qc)) (λ_ _ _=>(jgn 0)) (λ_ _ _=>qZ) (λ_ _ _=>(qh O35 hr rfl (qa (qb 1) (qa (qb 2) qc))))) qc)))) (qj (qm (qB (qa qG (qa (qb 3) (qa (zL zb jg rfl g5 zb2 (qa (qb 4) qc)) qc)))))))))
def O42:=UN (P:=l.prog) (w:=w) (base:=base) E5.F E5.b E5.m
def O43:=EY (P:=l.prog) (w:=w) (base:=base) 0 g4 O42 E5 (EG 0)
def O44:=EY (P:=l.prog) (w:=w) (base:=base) 1 g4 O43 E5 (EG 1)
def O45:=EY (P:=l.prog) (w:=w) (base:=base) 2 g4 O44 E5 (EG 2)
def O46:=J l w base 3 (Ez "is_word" U7 ["dealing","thing"] 105 zb8 (.ref 104)) (Pu.qT jY KA 2 1000000000 false) λnd hr=>(qg (qX (Q6 (jh (qh (Hd.up O20) hr rfl (qa (qb 1) qc)))) (qj (qm VM)) qD) (qg (zR (qh O45 hr rfl (qa (qb 0) qc)) (qU rfl (qi (ql (i:=2) nd) (qi (ql (i:=3) nd) (qi (ql (i:=4) nd) qV))))) (qj (qm (jI (M4 qju j5 qaE j5 qd (qk (qb 1) qd) (qb 2)) (QE (M4 qju j5 qaE j5 qd (qk (qb 1) qd) (qb 3))))))))
def O47:=J l w base 3 (Ez "starts" W2 ["dealing","walk"] 177 zc2 (.ref 176)) (Pu.qT WK qez 2 1000000000 true) λnd hr=>(qg (zR (qh O45 hr rfl (qa (qb 0) qc)) (qU rfl (qi (ql (i:=2) nd) (qi (ql (i:=3) nd) (qi (ql (i:=4) nd) qV))))) (qg (qF 5 nd (qh (Hd.up O29) hr rfl (qa (qb 1) qc))) (qg (jO 6 ["p","q"] [none,none] rfl nd (zM (qb 5)) (λ_ _ _=>(qU rfl (qi (jgn 0) (qi (jgn 1) qV)))) (λ_ _ _=>qZ) (λ_ _ _=>(qb 0))) (qg (qF 7 nd (jH ["p","q"] [none,none] rfl (zM (qb 5)) (λ_ _ _=>(qU rfl (qi (jgn 0) (qi (jgn 1) qV)))) (λ_ _ _=>qZ) (λ_ _ _=>(qb 1)))) (qj (qm (qhp ["i","j","columns","alongs"] [none,none,some 3,some 7] rfl (JP rfl g6 (qa (DU (qq (UM rfl) WI rfl g13 xa3 (qa (qb 6) qc))) (qa (DF (qb 2) (qq (j0 rfl) Z3 rfl g14 zb3 (qa (qb 6) qc))) qc))) (λ_ _ _=>(jgn 0)) (λ_ _ _=>qZ) (λ_ _ _=>(JP rfl g6 (qa (DU (qq (UM rfl) WI rfl g13 xa3 (qa (qb 3) qc))) (qa (DF (qb 2) (qq (j0 rfl) Z3 rfl g14 zb3 (qa (qb 3) qc))) qc)))) (λ_ _ _=>(jgn 1)) (λ_ _ _=>qZ) (λ_ _ _=>(qB (qa (qb 0) (qa (qb 1) qc)))))))))))
def O48:=J l w base 4 (Ez "is_start" VF RI 187 zc2 (.ref 186)) (Pu.qT YC RI 3 1000000000 false) λnd hr=>(qj (qm (jI (qh (Hd.up O20) hr rfl (qa (qb 2) qc)) (QE (qq (jF rfl) SJ rfl g3 xd1 (qa (jH ["word","dealing"] [none,some 0] rfl (zM (qh (Hd.up O30) hr rfl (qa (qb 1) (qa (qb 2) qc)))) (λ_ _ _=>(jgn 0)) (λ_ _ _=>qZ) (λ_ _ _=>(qh O46 hr rfl (qa (qb 1) (qa (qb 0) qc))))) qc))))))
def O49:=J l w base 5 (Ez "words_of" VU C1 194 zc2 (.ref 193)) (Pu.qT YO C1 3 1000000000 true) λnd hr=>(qg (qX (Q6 (jh (qh O48 hr rfl (qa (qb 0) (qa (qb 1) (qa (qb 2) qc)))))) N2 qD) (qj (qm (qh (Hd.up O30) hr rfl (qa (qb 1) (qa (qb 2) qc))))))
def O50:=JU (P:=l.prog) (w:=w) (base:=base) 1 O43 E6 (JI 0)
def O51:=JU (P:=l.prog) (w:=w) (base:=base) 2 O44 E6 (JI 1)
def O52:=JU (P:=l.prog) (w:=w) (base:=base) 3 O45 E6 (JI 2)
def O53:=UN (P:=l.prog) (w:=w) (base:=base) E12.F E12.b E12.m
def O54:=QX (P:=l.prog) (w:=w) (base:=base) 1 O43 O24 (Hd.up O53) E11 (QP 0)
def O55:=EZ (P:=l.prog) (w:=w) (base:=base) 2 O50 O23 O54 E12 (EL 0)
def O56:=QX (P:=l.prog) (w:=w) (base:=base) 3 (Hd.up O44) (Hd.up O24) O55 E11 (QP 1)
def O57:=EZ (P:=l.prog) (w:=w) (base:=base) 4 (Hd.up O51) (Hd.up O23) O56 E12 (EL 1)
def O58:=QX (P:=l.prog) (w:=w) (base:=base) 5 (Hd.up O45) (Hd.up O24) O57 E11 (QP 2)
def O59:=EZ (P:=l.prog) (w:=w) (base:=base) 6 (Hd.up O52) (Hd.up O23) O58 E12 (EL 2)
def O60:=J l w base 7 (Ez "banks_from" Z5 D6 204 zb9 (.ref 203)) (Pu.qT QJ D6 3 1000000000 true) λnd hr=>(qj (qm (jH ["word","dealing"] [none,some 0] rfl (zM (qh (Hd.up O49) hr rfl (qa (qb 0) (qa (qb 1) (qa (qb 2) qc))))) (λ_ _ _=>(jgn 0)) (λ_ _ _=>qZ) (λ_ _ _=>(qh O59 hr rfl (qa (qb 1) (qa (qb 0) qc)))))))
def O61:=J l w base 8 (Ez "loads" R4 ["dealing","walk","start"] 209 zb9 (.ref 208)) (Pu.qT RK qip 3 1000000000 true) λnd hr=>(qg (zR (qh (Hd.up O45) hr rfl (qa (qb 0) qc)) (qU rfl (qi (ql (i:=3) nd) (qi (ql (i:=4) nd) (qi (ql (i:=5) nd) qV))))) (qg (jO 6 ["bank"] [none] rfl nd (qK rfl g6 (qa (qb 5) qc)) (λ_ _ _=>(jgn 0)) (λ_ _ _=>qZ) (λ_ _ _=>qd)) (qg (Q8 zg6 rfl (zM (qh O60 hr rfl (qa (qb 0) (qa (qb 1) (qa (qb 2) qc))))) (ql (i:=7) nd) (qj (qjX (qb 6) (qb 7) qd))) (qj (qm (qb 6))))))
def O62:=J l w base 8 (Ez "clear_starts" jX YW 214 zb9 (.ref 213)) (Pu.qT jG YW 2 1000000000 true) λnd hr=>(qj (qm (jH ["start","dealing","walk"] [none,some 0,some 1] rfl (zM (qh (Hd.up O47) hr rfl (qa (qb 0) (qa (qb 1) qc)))) (λ_ _ _=>(jgn 0)) (λ_ _ _=>DT (qA TV XH (qh (Hd.up O21) hr rfl (qa (qh O60 hr rfl (qa (qb 1) (qa (qb 2) (qa (qb 0) qc)))) qc)) DZ (qp _))) (λ_ _ _=>(qb 0)))))
def O63:=J l w base 8 (Ez "lanes_of" VY ["dealing","walk","start"] 226 zc1 (.ref 225)) (Pu.qT Q9 qar 3 1000000000 false) λnd hr=>(qg (qF 3 nd (qh O60 hr rfl (qa (qb 0) (qa (qb 1) (qa (qb 2) qc))))) (qg (qX (qA qjg qdO (qh (Hd.up O21) hr rfl (qa (qb 3) qc)) DZ (qp _)) (qj (qm DZ)) qD) (qg (zR (qh (Hd.up O45) hr rfl (qa (qb 0) qc)) (qU rfl (qi (ql (i:=4) nd) (qi (ql (i:=5) nd) (qi (ql (i:=6) nd) qV))))) (qj (qm (zL zb jg rfl g5 zb2 (qa (qx (qb 3) (jH ["lane","asked"] [none,some 3] rfl (qK rfl g6 (qa (qh (Hd.up O32) hr rfl (qa (qb 6) qc)) qc)) (λ_ _ _=>(jgn 0)) (λ_ _ _=>DT (qA KQ qe3 (qb 0) (qb 1) (by with_unfolding_all rfl))) (λ_ _ _=>(qb 0)))) qc)))))))
def O64:=J l w base 9 (Ez "waits_of" VJ J6 233 (.str "bankwalk.player" 490) (.ref 232)) (Pu.qT J3 J6 3 1000000000 false) λnd hr=>(qj (qm (DF (qq (j0 rfl) Z3 rfl g14 zb3 (qa (qh O61 hr rfl (qa (qb 0) (qa (qb 1) (qa (qb 2) qc)))) qc)) qd)))
def O65:=UN (P:=l.prog) (w:=w) (base:=base) E34.F E34.b E34.m
def O66:=VO (P:=l.prog) (w:=w) (base:=base) 0 g4 g5 O65 g16 E34 (VG 0)
def O67:=VO (P:=l.prog) (w:=w) (base:=base) 1 g4 g5 O66 g16 E34 (VG 1)
def O68:=VO (P:=l.prog) (w:=w) (base:=base) 2 g4 g5 O67 g16 E34 (VG 2)
def O69:=J l w base 3 (Ez "_law_starts" ZH ["_law_dealing","_law_walk"] 293 zb7 (.ref 292)) (Pu.qT QI TQ 2 1000000000 true) λnd hr=>(qg (zR (qh O68 hr rfl (qa (qb 0) qc)) (qU rfl (qi (ql (i:=2) nd) (qi (ql (i:=3) nd) (qi (ql (i:=4) nd) qV))))) (qg (qF 5 nd (qh (Hd.up O39) hr rfl (qa (qb 1) qc))) (qg (CO (i:=6) (j:=7) rfl nd rfl rfl (by decide) rfl rfl (qa (jH ["_law_p","_law_q"] [none,none] rfl (zM (qb 5)) (λ_ _ _=>(qU rfl (qi (jgn 0) (qi (jgn 1) qV)))) (λ_ _ _=>qZ) (λ_ _ _=>(qb 0))) (qa (jH ["_law_p","_law_q"] [none,none] rfl (zM (qb 5)) (λ_ _ _=>(qU rfl (qi (jgn 0) (qi (jgn 1) qV)))) (λ_ _ _=>qZ) (λ_ _ _=>(qb 1))) qc))) (qg (qF 8 nd (jm qc)) (qg (Q8 zg6 rfl (JP rfl g6 (qa (DU (qq (UM rfl) WI rfl g13 xa3 (qa (qb 6) qc))) (qa (DF (qb 2) (qq (j0 rfl) Z3 rfl g14 zb3 (qa (qb 6) qc))) qc))) (ql (i:=9) nd) (qj (WT (XM (qb 8) (qa (jH ["_law_j","_law_i"] [none,some 9] rfl (JP rfl g6 (qa (DU (qq (UM rfl) WI rfl g13 xa3 (qa (qb 7) qc))) (qa (DF (qb 3) (qq (j0 rfl) Z3 rfl g14 zb3 (qa (qb 7) qc))) qc))) (λ_ _ _=>(jgn 0)) (λ_ _ _=>qZ) (λ_ _ _=>(qB (qa (qb 1) (qa (qb 0) qc))))) qc))))) (qj (qm (qb 8))))))))
def O70:=J l w base 4 (Ez "_law_tiny" VL ["_law_left_here","_law_dealing"] 318 zb7 (.ref 317)) (Pu.R5 YB qaN 2 false) λnd hr=>(qg (qF 2 nd (jm (qa (qB (qa qG (qa qd qc))) (qa (qB (qa qG (qa qd qc))) (qa (qB (qa qG (qa qd qc))) (qa (qB (qa qG (qa qd qc))) (qa (qB (qa qG (qa qd qc))) (qa (qB (qa qG (qa qd (qa qd qc)))) qc)))))))) (qg (WT (KT (qb 2) (qa (qB (qa qG (qa (qB (qa (qB (qa qd (qa qd qc))) (qa (qB (qa qd (qa qd qc))) qc))) qc))) qc))) (qg (jO 3 ["_law_walk","_law_dealing"] [none,some 1] rfl nd (zM (qb 2)) (λ_ _ _=>(jgn 0)) (λ_ _ _=>DT (qA (Z7 hr.units) jL (qh O69 hr rfl (qa (qb 1) (qa (qb 0) qc))) (jm qc) (qp _))) (λ_ _ _=>(qb 0))) (qj (qm (qk (qb 3) (qh (Hd.up O35) hr rfl (qa (qb 0) (qa (qq qL q0 rfl g4 zb1 (qa (qb 3) qc)) qc)))))))))
def O71:=UN (P:=l.prog) (w:=w) (base:=base) E40.F E40.b E40.m
def O72:=ZZ (P:=l.prog) (w:=w) (base:=base) 0 g0 g1 g2 g3 g4 g5 g10 g12 g16 O71 E40 (Z1 0)
def O73:=ZZ (P:=l.prog) (w:=w) (base:=base) 1 g0 g1 g2 g3 g4 g5 g10 g12 g16 O72 E40 (Z1 1)
def O74:=ZZ (P:=l.prog) (w:=w) (base:=base) 2 g0 g1 g2 g3 g4 g5 g10 g12 g16 O73 E40 (Z1 2)
def O75:=ZZ (P:=l.prog) (w:=w) (base:=base) 3 g0 g1 g2 g3 g4 g5 g10 g12 g16 O74 E40 (Z1 3)
def O76:=UN (P:=l.prog) (w:=w) (base:=base) E36.F E36.b E36.m
def O77:=VR (P:=l.prog) (w:=w) (base:=base) 1 g7 g8 O66 O38 (Hd.up O76) E36 (VS 0)
def O78:=VR (P:=l.prog) (w:=w) (base:=base) 2 g7 g8 O67 (Hd.up O38) O77 E36 (VS 1)
def O79:=VR (P:=l.prog) (w:=w) (base:=base) 3 g7 g8 O68 (Hd.up O38) O78 E36 (VS 2)
def O80:=J l w base 4 (Ez "_law_from" VZ CZ 298 zb7 (.ref 297)) (Pu.qT YF CZ 3 1000000000 true) λnd hr=>(qj (qm (jH ["_law_p","_law_q","_law_dealing","_law_start"] [none,none,some 0,some 2] rfl (zM (qh (Hd.up O39) hr rfl (qa (qb 1) qc))) (λ_ _ _=>(qU rfl (qi (jgn 0) (qi (jgn 1) qV)))) (λ_ _ _=>qZ) (λ_ _ _=>(qh O79 hr rfl (qa (qb 2) (qa (qx (qk (qb 3) qd) (qb 0)) (qa (qx (qk (qb 3) qd) (qb 1)) qc))))))))
def O81:=J l w base 5 (Ez "_law_clear_from" jw ["_law_dealing","_law_walk","_law_start"] 325 zb7 (.ref 324)) (Pu.qT zX Z8 3 1000000000 false) λnd hr=>(qg (qF 3 nd (qh O80 hr rfl (qa (qb 0) (qa (qb 1) (qa (qb 2) qc))))) (qj (qm (zA (qH hr.units) qy (qcI rfl rfl g4 rfl g9 (qb 3)) (qq qL q0 rfl g4 zb1 (qa (qb 3) qc)) (qp _)))))
def O82:=J l w base 6 (Ez "_law_chosen" ZS ["_law_left_here","_law_dealing","_law_walk"] 330 zb7 (.ref 329)) (Pu.R5 QC KS 3 true) λnd hr=>(qg (qF 3 nd (qh (Hd.up O69) hr rfl (qa (qb 1) (qa (qb 2) qc)))) (qg (jO 4 ["_law_start","_law_dealing","_law_walk"] [none,some 1,some 2] rfl nd (zM (qb 3)) (λ_ _ _=>(jgn 0)) (λ_ _ _=>DT (jh (qh O81 hr rfl (qa (qb 1) (qa (qb 2) (qa (qb 0) qc)))))) (λ_ _ _=>(qb 0))) (qg (qF 5 nd (qh (Hd.up O35) hr rfl (qa (qb 0) (qa qd qc)))) (qj (qm (jH ["_law_k","_law_row","_law_turn"] [none,none,some 5] rfl (RX rfl g7 (qa (jm (qa (qb 4) (qa (qb 4) (qa (qb 3) qc)))) qc)) (λ_ _ _=>(qU rfl (qi (jgn 0) (qi (jgn 1) qV)))) (λ_ _ _=>DT (qA (Z7 hr.units) jL (qb 1) (jm qc) (qp _))) (λ_ _ _=>(qk (qb 1) (jJ (qx (qb 2) (qb 0)) (qq qL q0 rfl g4 zb1 (qa (qb 1) qc)))))))))))
def O83:=J l w base 10 (Ez "_law_right" JJ ["_law_dealing","_law_walks","_law_whole","_law_start","_law_other"] 335 zb7 (.ref 334)) (Pu.qT Z2 MK 5 1000000000 false) λnd hr=>(qg (zR (qh (Hd.up O68) hr rfl (qa (qk (qb 0) qd) qc)) (qU rfl (qi (ql (i:=5) nd) (qi (ql (i:=6) nd) (qi (ql (i:=7) nd) qV))))) (qg (qF 8 nd (qB (qa (qx (qY (qk (qb 3) qd) (qb 5)) (qk (qb 4) qd)) (qa (qx (qY (qk (qb 3) qd) (qb 6)) (qk (qb 4) qd)) qc)))) (qg (qF 9 nd (qh (Hd.up O49) hr rfl (qa (qb 0) (qa (qb 2) (qa (qb 8) qc))))) (qg (qF 10 nd (jm qc)) (qg (Q8 zg6 rfl (zM (qh (Hd.up O39) hr rfl (qa (qk (qb 1) qd) qc))) (qU rfl (qi (ql (i:=11) nd) (qi (ql (i:=12) nd) qV))) (qj (Q8 zg6 rfl (zM (qh (Hd.up O39) hr rfl (qa (qk (qb 1) qd) qc))) (qU rfl (qi (ql (i:=13) nd) (qi (ql (i:=14) nd) qV))) (qj (WT (KT (qb 10) (qa (qB (qa (qx (qx (qY (qx (qk (qb 3) qd) (qb 11)) (qb 5)) (qk (qb 4) qd)) (qb 13)) (qa (qx (qx (qY (qx (qk (qb 3) qd) (qb 12)) (qb 6)) (qk (qb 4) qd)) (qb 14)) qc))) qc))))))) (qg (qX (Q6 (jh (qh (Hd.up O75) hr rfl (qa (qb 9) (qa (qb 10) qc))))) (qj (qm VM)) qD) (qg (CO (i:=15) (j:=16) rfl nd rfl rfl (by decide) rfl rfl (qa (qh (Hd.up O61) hr rfl (qa (qk (qb 0) qd) (qa (qk (qb 1) qd) (qa (qb 3) qc)))) (qa (qh (Hd.up O61) hr rfl (qa (qk (qb 0) qd) (qa (qk (qb 1) qd) (qa (qb 4) qc)))) qc))) (qg (qF 10 nd (jm qc)) (qg (Q8 zg6 rfl (zM (qb 15)) (ql (i:=17) nd) (qj (WT (XM (qb 10) (qa (jH ["_law_another","_law_load"] [none,some 17] rfl (zM (qb 16)) (λ_ _ _=>(jgn 0)) (λ_ _ _=>qZ) (λ_ _ _=>(qY (qb 1) (qb 0)))) qc))))) (qg (qF 18 nd (jI (qh (Hd.up O81) hr rfl (qa (qk (qb 0) qd) (qa (qk (qb 1) qd) (qa (qb 3) qc)))) (QE (qh (Hd.up O81) hr rfl (qa (qk (qb 0) qd) (qa (qk (qb 1) qd) (qa (qb 4) qc))))))) (qg (qX (jpt (SX (Q6 (jh (qh (Hd.up O75) hr rfl (qa (qh (Hd.up O61) hr rfl (qa (qb 0) (qa (qb 2) (qa (qb 8) qc)))) (qa (qb 10) qc))))) (CU (Q6 (jh (qh (Hd.up O75) hr rfl (qa (qh O64 hr rfl (qa (qb 0) (qa (qb 2) (qa (qb 8) qc)))) (qa (DF (qq (j0 rfl) Z3 rfl g14 zb3 (qa (qb 10) qc)) qd) qc)))))))) (qj (qm VM)) qD) (qg (qX (jpt (qe2 (qA qju j5 (qq qL q0 rfl g4 zb1 (qa (qb 10) qc)) qd (qp _)) (qaW (qA (qH hr.units) qy (zA TV XH (qh (Hd.up O63) hr rfl (qa (qb 0) (qa (qb 2) (qa (qb 8) qc)))) DZ (qp _)) (qb 18) (qp _))))) (qj (qm VM)) qD) (qj (qm (zA (qH hr.units) qy (qb 18) (zA qaE j5 (qq (j0 rfl) Z3 rfl g14 zb3 (qa (qb 10) qc)) qd (qp _)) (qp _))))))))))))))))
end
theorem qnh {l:PySem.W.OpenLaw} {w:World} {h:Heap} {mg:Str->Option Value} {fa:Addr} (X:(Kf w.params).In h) (G:h.Ns zi2 mg) (hfa:mg "law" = some (.ref fa)) :
  ∃ fd:FuncData,(∀ (s:Shared) (v:Value),BindsTo s fd ⟨[v],[]⟩ [("_law_script",v)])/\∀ base:Heap,(Kf w.params).In base->base.Ns zi2 mg->FnOk l.prog w (Kf w.params) mg base CX0 12 fa fd ["_law_script"] (lSp (Kf w.params) TY):=by
 have e:=hfa.symm.trans (Hd.qoY X G "law" (.ref 340) (by kernel_rfl));cases e;have F47:=Hd.qpQ (K:=Kf w.params) "law" V7 340 zb7 (.ref 339) (by kernel_rfl) (by kernel_rfl) (by kernel_rfl);have:=Hd.Cz.mk X G;refine ⟨zn0 "law" "law" (j7 V7) (zy V7) (qz V7) .none .none .none zb7 none (.ref 339) .none,λs v=>.of_eq rfl,λbase Xb _=>?_⟩;exact Hd.jf3 11 F47 (qmx qnD) λnd hr=>(qg (Q8 zg6 rfl (qK rfl g6 (qa (qx qd (qq (qcB rfl) qj4 rfl g13 xa3 (qa qd (qa (qq qL q0 rfl g4 zb1 (qa (qb 0) qc)) qc)))) qc)) (ql (i:=1) nd) (qg (qF 2 nd (qh (Hd.up O34) hr rfl (qa (qb 0) (qa (qb 1) qc)))) (qg (qF 3 nd (zA (qH hr.units) qy (qh (Hd.up O35) hr rfl (qa (qb 2) (qa qd qc))) qd (qp _))) (qg (qF 4 nd (qB (qa qG (qa (qh (Hd.up O37) hr rfl (qa (qb 2) qc)) (qa (qh (Hd.up O37) hr rfl (qa (qb 2) qc)) qc))))) (qg (qF 5 nd (jm (qa (qh (Hd.up O40) hr rfl (qa (qb 2) qc)) (qa (qh (Hd.up O40) hr rfl (qa (qb 2) qc)) qc)))) (qg (qX (jh (qb 3)) (qg (qF 6 nd (qB (qa qG (qa (qh (Hd.up O41) hr rfl (qa (qb 2) qc)) (qa (qh (Hd.up O41) hr rfl (qa (qb 2) qc)) qc))))) (qg (zR (qh (Hd.up O68) hr rfl (qa (qk (qb 6) qd) qc)) (qU rfl (qi (ql (i:=7) nd) (qi (ql (i:=8) nd) (qi (ql (i:=9) nd) qV))))) (qg (qF 4 nd (qB (qa qG (qa (qk (qb 4) qd) (qa (qb 6) qc))))) (qj (qF 5 nd (jm (qa (qk (qb 5) qd) (qa (qh (Hd.up O31) hr rfl (qa (qh (Hd.up O70) hr rfl (qa (qb 2) (qa (qk (qb 6) qd) qc))) (qa (qh (Hd.up O70) hr rfl (qa (qb 2) (qa (qk (qb 6) qd) qc))) (qa (qb 7) (qa (qb 8) qc))))) qc)))))))) qD) (qg (zR (qh (Hd.up O68) hr rfl (qa (qk (qb 4) qd) qc)) (qU rfl (qi (ql (i:=7) nd) (qi (ql (i:=8) nd) (qi (ql (i:=9) nd) qV))))) (qg (qF 10 nd (jH ["_law_n","_law_left_here","_law_dealing","_law_walks"] [none,some 2,some 4,some 5] rfl (qK rfl g6 (qa qd qc)) (λ_ _ _=>(jgn 0)) (λ_ _ _=>qZ) (λ_ _ _=>(qh (Hd.up O82) hr rfl (qa (qb 1) (qa (qk (qb 2) (qx qd (qb 0))) (qa (qk (qb 3) (qb 0)) qc))))))) (qj (qX (jpt (qe2 (qA (Z7 hr.units) jL (qk (qb 10) qd) (jm qc) (qp _)) (qaW (qA (Z7 hr.units) jL (qk (qb 10) qd) (jm qc) (qp _))))) (qg (qF 11 nd (qh (Hd.up O31) hr rfl (qa (qk (qb 5) qd) (qa (qk (qb 5) qd) (qa (qb 7) (qa (qb 8) qc)))))) (qg (Q8 zg6 rfl (zM (qk (qb 10) qd)) (ql (i:=12) nd) (qj (Q8 zg6 rfl (zM (qk (qb 10) qd)) (ql (i:=13) nd) (qj (qX (Q6 (jh (qh O83 hr rfl (qa (qb 4) (qa (qb 5) (qa (qb 11) (qa (qb 12) (qa (qb 13) qc)))))))) (qj (qm VM)) qD))))) (qg (qF 14 nd (qB (qa (qx (qY (qk (qk (qk (qb 10) qd) qd) qd) (qb 7)) (qk (qk (qk (qb 10) qd) qd) qd)) (qa (qx (qY (qk (qk (qk (qb 10) qd) qd) qd) (qb 8)) (qk (qk (qk (qb 10) qd) qd) qd)) qc)))) (qg (jO 15 ["_law_n","_law_dealing","_law_walks","_law_some"] [none,some 4,some 5,some 10] rfl nd (qK rfl g6 (qa qd qc)) (λ_ _ _=>(jgn 0)) (λ_ _ _=>qZ) (λ_ _ _=>(qh (Hd.up O81) hr rfl (qa (qk (qb 1) (qx qd (qb 0))) (qa (qk (qb 2) (qb 0)) (qa (qk (qk (qb 3) (qb 0)) qd) qc)))))) (qj (qX (qA (Z7 hr.units) jL (zA (qlO hr.units) qdl (qb 14) (qh (Hd.up O62) hr rfl (qa (qb 4) (qa (qb 11) qc))) (by with_unfolding_all rfl)) (zA (qH hr.units) qy (qb 15) (jm (qa VM (qa VM qc))) (qp _)) (qp _)) (qj (qm VM)) qD)))))) qD)))))))))) (qj (qm VM)))
set_option maxRecDepth 100000 in
set_option maxHeartbeats 0 in
theorem qky (w : World) (os : OsState) : PySem.W.topRun xm5 PySem.Challenge.pw_bankwalk_k54_walks_in_joined_dealings w 11 (some (Value.ref 6)) 2 (⟨qie w.params,341,{ },#[],{ },636,os⟩ : PySem.W.SharedT).abs (PySem.W.restOf [] qpa RP ⟨294,0,317,15⟩ qmT) = some ⟨qjN w.params,#[],{ },636,os⟩ := by kernel_rfl
theorem qqY:(qfg++(qhT++[]))=qbC:=by kernel_rfl
set_option maxRecDepth 100000 in
set_option maxHeartbeats 0 in
theorem qiU (w : World) (os : OsState) : PySem.W.topRun xm5 PySem.Challenge.pw_bankwalk_k54_walks_in_joined_dealings w 11 (some (Value.ref 6)) (12 + (1 + (1141 + (1008 + 2)))) ⟨xn5 w.params,Array.mk [],xn0,xn6,os⟩ (PySem.W.topStub PySem.Challenge.pw_bankwalk_k54_walks_in_joined_dealings) = some ⟨qjN w.params,#[],{ },636,os⟩ := by
 have h:=(PySem.W.piece_app (PySem.W.segRun_of (qkH w os)) (PySem.W.piece_app (PySem.W.segRun_of (qn7 w os)) (qky w os)))
 rw [qqY] at h;exact PySem.W.go_top (qlw w os) (PySem.W.piece_block (qkJ w os) h)
noncomputable abbrev Q: Program := PySem.W.view PySem.Challenge.pw_bankwalk_k54_walks_in_joined_dealings [1,2,3,4,5,7,8,9,11,12,13,14,15,16,17,18,20,21,22,23,24,25,26,27,28,29,31,33,34,35,37,38,40,42,43,44,45,46,47,48,49,50,51,52,53,54,55,56,57,58,59,60]
set_option maxRecDepth 100000 in
set_option maxHeartbeats 0 in
theorem left: PySem.W.LeftO PySem.Challenge.pw_bankwalk_k54_walks_in_joined_dealings Q ["STRIDES"] (λs=>PySem.W.xlAt Q [] s&&PySem.W.recOk [] s) (λs=>([3,20,21,27,28,32,33,39,40,46,47,90,91,97,98,104,105,111,112,116,117,123,124,130,131,137,138,139,140,141,142,143,149,150,154,155,161,162,166,167,171,172,176,177,181,182,186,187,193,194,198,199,203,204,208,209,213,214,220,221,225,226,232,233,239,240,246,247,253,254,260,261,265,266,270,271,277,278,282,283,287,288,292,293,297,298,302,303,307,308,312,313,317,318,324,325,329,330,334,335,339,340]:List Addr).map s.heap.get?) (λw=>(Kf w.params).map λp=>some p.2) 4420:=
 PySem.W.LeftO.of_pieces (H₀:=xn5) (H₁:=qjN) (gs₀:=Array.mk []) (gs₁:=#[]) (d₀:=xn0) (d₁:={ }) (k₀:=xn6) (k₁:=636) (m₀:=11) (ann:=some (Value.ref 6)) (M:=(12+(1+(1141+(1008+2)))))
  (PySem.W.boot_open (by kernel_rfl) (by kernel_rfl) (λs=>by kernel_rfl)) (λw=>by kernel_rfl) qiU (by kernel_rfl) (λw=>by kernel_rfl)
end K54
open PySem PySem.W PyProof.Rows
set_option maxRecDepth 100000 in
set_option maxHeartbeats 0 in
theorem qr1: PySem.Challenge.rw_bankwalk_k54_walks_in_joined_dealings.row.wellSaid = true := by kernel_rfl
set_option maxRecDepth 100000 in
set_option maxHeartbeats 0 in
theorem qr2: PySem.Challenge.rw_bankwalk_k54_walks_in_joined_dealings.wellSaid = true := by
 unfold PySem.W.OpenLaw.wellSaid;rw [qr1]
 kernel_rfl
set_option maxRecDepth 100000 in
set_option maxHeartbeats 0 in
theorem PySem.Challenge.cw_bankwalk_k54_walks_in_joined_dealings_holds : PySem.Challenge.rw_bankwalk_k54_walks_in_joined_dealings.Holds :=
 Hd.head (l := PySem.Challenge.rw_bankwalk_k54_walks_in_joined_dealings) (q := K54.Q) (loose := ["STRIDES"]) (K:=K54.Kf) (as:=[3,20,21,27,28,32,33,39,40,46,47,90,91,97,98,104,105,111,112,116,117,123,124,130,131,137,138,139,140,141,142,143,149,150,154,155,161,162,166,167,171,172,176,177,181,182,186,187,193,194,198,199,203,204,208,209,213,214,220,221,225,226,232,233,239,240,246,247,253,254,260,261,265,266,270,271,277,278,282,283,287,288,292,293,297,298,302,303,307,308,312,313,317,318,324,325,329,330,334,335,339,340]) (N:=4420) (k:=12) (x:="_law_script")
  (d:=⟨"law",L2.j7 K54.V7,L2.zy K54.V7,L2.qz K54.V7,⟨294,0,317,15⟩⟩) (λ_=>by kernel_rfl) qr2 K54.left (by kernel_rfl) (by kernel_rfl) (by kernel_rfl) (by kernel_rfl) (by kernel_rfl)
  ⟨rfl,rfl,rfl,rfl,rfl,by decide +kernel⟩ (by w_witness2) rfl (by kernel_rfl) ⟨rfl,by decide,by decide,rfl⟩ (λw=>by kernel_rfl) λw mg fa h KX G hmg=>K54.qnh KX G hmg
