import PyProof.Rows.All
import Wide.All
import OpenK.AllK
import Wide.FinOn
import Lean
import PyProof.EqAt
import PyProof.EqKinds
import PyProof.TupleCall
import PyProof.NeKinds
import KE.KDictSum
import KE.KListLetter
import KE.KIsAll
import KE.KTryMore
import PySem.Challenge.RW_stonebreath_k17_no_stand_again
set_option Elab.async false
set_option linter.all false
set_option maxHeartbeats 0
set_option maxRecDepth 100000
local macro_rules|`(tactic|omega)=>`(tactic|first
 |assumption
 |with_reducible exact Nat.le_of_lt (by assumption)
 |with_reducible exact Nat.le_trans (by assumption) (by assumption)
 |with_reducible exact Nat.lt_of_le_of_lt (by assumption) (by assumption)
 |with_reducible exact Nat.lt_of_lt_of_le (by assumption) (by assumption)
 |with_reducible exact Nat.lt_of_le_of_lt (by assumption) (by decide)
 |with_reducible exact Nat.le_trans (by assumption) (by decide)
 |lia)
open PyProof.Rows (boot_isinstance boot_int boot_bool boot_sorted boot_tuple boot_all boot_list boot_str boot_sum)
open PySem.F (excBase_ValueError entry_bexc_ga entry_sum_loop)
open PySem.Paired (length)
open PySem (sizeLine boot_len)
open PySem.P (add_list)
open PySem.W.Looks (here)
open PySem.EqMixed (eq_bool_str eq_int_str eq_str_bool eq_str_int ne_bool_str ne_int_str ne_str_bool ne_str_int)
open PySem.EqNone (eq_none_int eq_none_str eq_int_none eq_str_none ne_none_int ne_none_str ne_int_none ne_str_none)
open PySem.W (instObj methodObj hideAll hideAll_get of_hideAll hideAll_none Frag lookIn plainGet hasDictIn findIn handedIn plainGet_of isFn plainOver takerIn set_plain any_some looks_clsIn makesIn typeIn emptyDict bind_fn keepIn mroIn kitOne kia_one kitx_list kitx_dict callWith_K methodCall_KW cellsFrom_some fnOf codeIn kdl_dict excIn tail_of_in kitAny nsIn mg_of mg_none_of)
open List (length_map mem_append map_cons length_append mem_singleton length_cons getD_eq_getElem?_getD getElem?_eq_getElem size_toArray mem_filter mem_append_left mem_range mem_map length_nil getElem?_map getElem?_append_left getElem?_set_ne all_eq_true append_assoc mem_cons_of_mem mem_cons length_set mem_cons_self mem_append_right map_nil length_range append_nil any_eq_true getElem?_eq_none map_map map_append getElem?_set_self lookup_cons getElem?_append_right nodup_append length_take length_filter_le length_drop find?_cons nodup_range filter_congr exists_mem_of_ne_nil replicate_succ nil_append cons_append nodup_cons mem_of_getElem? map_congr_left any_cons set_append_right mem_filterMap getElem_mem flatten_cons ne_nil_of_mem map_set map_drop getElem?_range getElem?_cons_zero concat_eq_append all_cons take_of_length_le map_id length_eq_zero_iff getElem?_of_mem filter_append ext_getElem? eq_nil_or_concat of_mem_zip mem_of_mem_drop mem_of_find?_eq_some length_singleton find?_eq_none filter_nil filterMap_cons contains_cons append_inj' take_zero take_sublist take_left take_append_of_le_length range_succ_eq_map pairwise_lt_range pairwise_cons not_mem_nil map_take length_pos_of_mem getElem?_take_of_lt getElem?_replicate getElem?_cons_succ forIn_cons find?_some filter_cons_of_pos filter_cons_of_neg filter_cons erase_cons eraseIdx_eq_take_drop_succ eq_nil_of_length_eq_zero eq_nil_iff_forall_not_mem drop_length drop_eq_getElem_cons dropLast_eq_take contains_iff_mem all_map take_range take_length take_add_one set_cons_succ set_append_left range_succ perm_iff_count pairwise_mergeSort pairwise_map pairwise_iff_getElem nil_perm mergeSort_perm mem_or_eq_of_mem_set mem_of_mem_take mem_of_mem_erase mem_iff_getElem length_replicate length_pos_iff_exists_mem length_pos_iff length_erase_of_mem length_erase_le length_dropLast idxOf_lt_length_iff getElem_of_mem getElem_inj getElem_idxOf getElem?_zip_eq_some getElem?_set forIn_nil foldl_cons find?_eq_some_iff_append find?_append filter_filter filter_eq_self filterMap_append ext_getElem erase_eq_eraseIdx_of_idxOf eraseIdx_cons_succ eraseIdxIfInBounds_toArray drop_of_length_le drop_append_of_le_length any_eq_false all_nil)
open Option (map_some map_eq_some_iff getD_some bind_some bind_eq_some_iff isSome_map isSome_iff_exists getD_none none_or isSome_some)
open Nat (le_refl ne_of_lt lt_of_lt_of_le le_trans zero_le lt_irrefl le_succ lt_of_le_of_lt lt_succ_self lt_succ_of_lt ne_of_gt le_of_lt not_lt_zero min_eq_left le_add_right zero_add sub_self mul_le_mul le_of_eq add_sub_cancel_left succ_mul not_lt mul_pos mul_le_mul_right mul_comm min_self lt_trichotomy lt_trans log2_lt le_of_not_lt le_mul_of_pos_right exists_eq_add_of_le add_mul add_comm)
open Bool (and_eq_true false_eq_true not_eq_true' not_eq_false' eq_false_iff or_eq_false_iff not_not)
open Array (length_toList toArray_toList size_push getElem?_toList toList_inj toList_eraseIdxIfInBounds size_modify mem_toList_iff find?_toList any_eq_true')
open Int (natCast_mul toNat_natCast ofNat_inj mul_one fmod_eq_emod_of_nonneg fdiv_eq_ediv_of_nonneg emod_nonneg emod_lt_of_pos)
noncomputable section
namespace L2
open PySem PySem.Spec PyProof.Rows
abbrev Key:=Sum Int Str
def lW:Key->Value->Bool
 | .inl k,v=>Value.isInt k v
 | .inr x,v=>Value.isStrOf x v
def AN(w:World):Key->Int
 | .inl k=>hashInt k
 | .inr x=>hashStr w x
theorem iQ:∀{k:Key} {v:Value},lW k v=true->(∃i t,k=Sum.inl i/\v=Value.int i t)\/(∃x t,k=Sum.inr x/\v=Value.str x t)
 | .inl i,v,h=>by
  obtain⟨t,e⟩:=Value.isInt_shape (k:=i) (v:=v) h;exact .inl ⟨i,t,rfl,e⟩
 | .inr x,v,h=>by
  obtain⟨t,e⟩:=Value.isStrOf_shape (x:=x) (v:=v) h;exact .inr ⟨x,t,rfl,e⟩
theorem Hc(i:Int)(t:Tok):lW (.inl i) (.int i t)=true:=by simp[lW,Value.isInt]
theorem Hb(x:Str)(t:Tok):lW (.inr x) (.str x t)=true:=by simp[lW,Value.isStrOf]
theorem DC(a b:Int):decide ((Sum.inl a:Key)=Sum.inl b)=(a==b):=by
 by_cases e:a=b
 ·subst e;simp
 ·have h:¬(Sum.inl a:Key)=Sum.inl b:=fun q=>e (Sum.inl.inj q);rw[decide_eq_false h];exact(beq_eq_false_iff_ne.mpr e).symm
theorem DB(a b:Str):decide ((Sum.inr a:Key)=Sum.inr b)=decide (a=b):=by
 by_cases e:a=b
 ·subst e;simp
 ·have h:¬(Sum.inr a:Key)=Sum.inr b:=fun q=>e (Sum.inr.inj q);rw[decide_eq_false h,decide_eq_false e]
theorem DA(a:Int)(b:Str):decide ((Sum.inl a:Key)=Sum.inr b)=false:=decide_eq_false (fun q=>nomatch q)
theorem Dz(a:Str)(b:Int):decide ((Sum.inr a:Key)=Sum.inl b)=false:=decide_eq_false (fun q=>nomatch q)
def dS(prog:Program)(w:World):PySem.KeyKind prog w Key where
 is:=lW
 hash:=AN w
 inj:=fun v a b ha hb=>by
  rcases iQ ha with ⟨i,t,rfl,rfl⟩|⟨x,t,rfl,rfl⟩
  ·rcases iQ hb with ⟨j,u,rfl,e⟩|⟨y,u,rfl,e⟩
   ·injection e with e1 _;rw[e1]
   ·exact nomatch e
  ·rcases iQ hb with ⟨j,u,rfl,e⟩|⟨y,u,rfl,e⟩
   ·exact nomatch e
   ·injection e with e1 _;rw[e1]
 byValue:=fun k v h=>by
  rcases iQ h with ⟨i,t,rfl,rfl⟩|⟨x,t,rfl,rfl⟩<;>rfl
 pyHash:=fun hv h=>by
  rcases iQ hv with ⟨i,t,rfl,rfl⟩|⟨x,t,rfl,rfl⟩
  ·exact wpAny_pyHash_int h
  ·exact wpAny_pyHash_str h
 eqBool:=fun hu hv h=>by
  rcases iQ hu with ⟨i,t,rfl,rfl⟩|⟨x,t,rfl,rfl⟩
  ·rcases iQ hv with ⟨j,u,rfl,rfl⟩|⟨y,u,rfl,rfl⟩
   ·rw[DC] at h;exact wpAny_eqBool_int h
   ·rw[DA] at h;exact SeqAt.EqAt.int_str i t y u _ _ _ _ h
  ·rcases iQ hv with ⟨j,u,rfl,rfl⟩|⟨y,u,rfl,rfl⟩
   ·rw[Dz] at h;exact SeqAt.EqAt.str_int x t j u _ _ _ _ h
   ·rw[DB] at h;exact wpAny_eqBool_str h
 «strs»:=fun k x t v h=>by
  rcases iQ h with ⟨i,u,rfl,e⟩|⟨y,u,rfl,e⟩
  ·exact nomatch e
  ·injection e with e1 _;subst e1;cases v<;>rfl
theorem H9(prog:Program)(w:World)(i:Int)(t:Tok):(dS prog w).is (.inl i) (.int i t)=true:=Hc i t
theorem H0(prog:Program)(w:World)(x:Str)(t:Tok):(dS prog w).is (.inr x) (.str x t)=true:=Hb x t
inductive V where
 | non|bl (b:Bool)|int (i:Int)|str (x:Str)|byt (b:Array UInt8)|flt (b:UInt64)|ref (a:Addr)|ty (n:String)
 deriving DecidableEq
def RelV:V->Value->Prop
 | .non,u=>u=Value.none
 | .bl b,u=>u=Value.bool b
 | .int i,u=>∃t,u=Value.int i t
 | .str x,u=>∃t,u=Value.str x t
 | .byt b,u=>∃t,u=Value.bytes b t
 | .flt b,u=>∃t,u=Value.float b t
 | .ref a,u=>u=Value.ref a
 | .ty n,u=>u=Value.type n
abbrev Vals:List V->List Value->Prop:=Paired RelV
theorem Vals.length{xs:List V}{us:List Value}(r:Vals xs us):xs.length=us.length:=Paired.length r
theorem Vals.get:∀{xs:List V} {us:List Value} {i:Nat} {x:V},Vals xs us->xs[i]?=some x->∃u,us[i]?=some u/\RelV x u
 | _,_,_,_,.nil,e=>by simp at e
 | _,_,0,_,.cons r _,e=>by simp at e;subst e;exact⟨_,rfl,r⟩
 | _,_,i+1,x,.cons _ t,e=>by
  obtain⟨u,h1,h2⟩:=Vals.get (i:=i) (x:=x) t (by simpa using e);exact⟨u,by simpa using h1,h2⟩
theorem Vals.set{x:V}{u:Value}(r:RelV x u):∀{xs:List V} {us:List Value} (i:Nat),Vals xs us->Vals (xs.set i x) (us.set i u)
 | _,_,_,.nil=>.nil
 | _,_,0,.cons _ t=>.cons r t
 | _,_,i+1,.cons q t=>.cons q (Vals.set r i t)
theorem Vals.append:∀{xs ys:List V} {us ws:List Value},Vals xs us->Vals ys ws->Vals (xs++ys) (us++ws)
 | _,_,_,_,.nil,s=>s
 | _,_,_,_,.cons r t,s=>.cons r (Vals.append t s)
theorem Vals.take:∀{xs:List V} {us:List Value} (n:Nat),Vals xs us->Vals (xs.take n) (us.take n)
 | _,_,0,_=>.nil
 | _,_,_+1,.nil=>.nil
 | _,_,n+1,.cons r t=>.cons r (Vals.take n t)
theorem Vals.drop:∀{xs:List V} {us:List Value} (n:Nat),Vals xs us->Vals (xs.drop n) (us.drop n)
 | _,_,0,r=>r
 | _,_,_+1,.nil=>.nil
 | _,_,n+1,.cons _ t=>Vals.drop n t
def c9:Option V->Option Value->Prop
 | some v,some u=>RelV v u
 | none,none=>True
 | _,_=>False
def KV{κ:Type}:List (κ×V)->List (κ×Value)->Prop:=Paired fun(p:κ×V) (q:κ×Value)=>p.1=q.1/\RelV p.2 q.2
def kV:Key->V
 | .inl i=>.int i
 | .inr x=>.str x
inductive HO where
  | lst (xs:List V)
  | tup (xs:List V)
  | dK (kvs:List (Key×V))|dT (kvs:List (List Key×V))
  | set (S:Int->Bool) (n:Nat)
  | ins (C dx:Addr) (fs:List (Str×V))
  | own (x:Addr)
  | xd (fs:List (Str×V))
  | met (f x:Addr)
  | rng (lo hi:Int)
  | frz (o:Obj) (u:HO)
  | tbl (ps:Array Value)
  | ext (φ:Heap->Prop)
abbrev Hp:=Addr->Option HO
def upd(H:Hp)(a:Addr)(o:HO):Hp:=fun b=>if b=a then some o else H b
variable {H:Hp} {a:Addr} {o:HO}
theorem ak:upd H a o a=some o:=by unfold upd;rw[if_pos rfl]
variable {b:Addr}
theorem bj(h:b≠a):upd H a o b=H b:=by unfold upd;rw[if_neg h]
theorem B8{u:HO}(h:H a=some o)(h':H b=some u)(d:o≠u):a≠b:=by intro e;subst e;rw[h] at h';exact d (Option.some.inj h')
theorem eN(h:H a=some o)(h':H b=none):a≠b:=by intro e;subst e;rw[h] at h';cases h'
def gv(h:Heap)(a:Addr)(items:Array Value):Prop:=∃o,h.get? a=some o/\o.cls=.type "tuple" /\ (∃n,o.data=.seq items n)/\o.dict=none
variable {h:Heap}
theorem gv.isTup{items:Array Value}(t:gv h a items):PyProof.Rows.IsTup h a items:=by obtain⟨o,e,c,⟨n,d⟩,_⟩:=t;exact⟨o,e,c,n,d⟩
theorem gv.new(h:Heap)(items:Array Value):gv (h.push { cls:=.type "tuple",data:=.seq items }) h.objs.size items:=⟨_,Heap.get?_push_size _ rfl,rfl,⟨_,rfl⟩,rfl⟩
section
variable (P:Program) (w:World)
def aA(H:Hp)(h:Heap)(a:Addr):HO->Prop
 | .lst xs=>xs.length<=sizeLine/\∃(its:List Value) (n:Nat),Vals xs its/\h.get? a=some { cls:=.type "list",data:=.seq its.toArray n }
 | .tup xs=>xs.length<=sizeLine/\∃its:List Value,Vals xs its/\gv h a its.toArray
 | .dK kvs=>kvs.length<=sizeLine/\(a==sysModules)=false/\∃vs,KV kvs vs/\h.DictOf (dS P w) a vs
 | .dT kvs=>kvs.length<=sizeLine/\(a==sysModules)=false/\∃xs:List (List Key×Addr×Value),
   Paired (fun(p:List Key×V) (q:List Key×Addr×Value)=>p.1=q.1/\H q.2.1=some (.tup (p.1.map kV))/\RelV p.2 q.2.2) kvs xs /\
   ∃o es ep,h.get? a=some o/\o.ExactDict/\o.data=.dict es ep/\es.toList=xs.map (entryOfKey (tupleKind (dS P w)))/\(xs.map (·.1)).Nodup
 | .set S n=>h.SetOf (intKind P w) a S n
 | .ins C dx fs=>H dx=some (.own a)/\fs.length<=1000/\dx≠a/\h.get? a=some (instObj C dx) /\
   ∃mA,h.Ns1 dx mA/\(∀f,c9 (fs.lookup f) (mA f))/\PySem.Within mA (fs.map (·.1))
 | .own _=>∃o,h.get? a=some o
 | .xd fs=>∃mA,h.Ns1 a mA/\∀f,c9 (fs.lookup f) (mA f)
 | .rng lo hi=>∃t u v,h.get? a=some { cls:=.type "range",data:=.fields #[.int lo t,.int hi u,.int 1 v] }
 | .frz o u=>h.get? a=some o/\aA H h a u
 | .tbl ps=>h.get? a=some { cls:=.none,data:=.fields ps }
 | .met f x=>h.get? a=some (methodObj (.ref f) (.ref x))
 | .ext φ=>φ h/\(∃o,h.get? a=some o)/\∀h1 h2:Heap,φ h1->(∀o,h1.get? a=some o->h2.get? a=some o)->φ h2
def bY(H:Hp)(h:Heap):Prop:=∀a o,H a=some o->aA P w H h a o
end
variable {P:Program} {w:World} {H':Hp} {h':Heap}
theorem aA.lt(x:aA P w H h a o):a<h.objs.size:=by
 cases o with
 | lst xs=>obtain⟨_,_,_,_,e⟩:=x;exact Heap.lt_size e
 | tup xs=>obtain⟨_,_,_,p⟩:=x;exact(gv.isTup p).lt
 | dK kvs=>obtain⟨_,_,_,_,o,_,_,e,_⟩:=x;exact Heap.lt_size e
 | dT kvs=>obtain⟨_,_,_,_,o,_,_,e,_⟩:=x;exact Heap.lt_size e
 | set S n=>obtain⟨o,_,_,_,e,_⟩:=x;exact Heap.lt_size e
 | ins C dx fs=>obtain⟨_,_,_,e,_⟩:=x;exact Heap.lt_size e
 | own y=>obtain⟨_,e⟩:=x;exact Heap.lt_size e
 | xd fs=>obtain⟨_,⟨_,_,_,e,_⟩,_⟩:=x;exact Heap.lt_size e
 | rng lo hi=>obtain⟨_,_,_,e⟩:=x;exact Heap.lt_size e
 | frz ob u=>obtain⟨e,_⟩:=x;exact Heap.lt_size e
 | tbl ps=>exact Heap.lt_size (show h.get? a=some _ from x)
 | met f y=>exact Heap.lt_size (show h.get? a=some _ from x)
 | ext φ=>obtain⟨_,⟨_,e⟩,_⟩:=x;exact Heap.lt_size e
theorem Paired.mapP{α β:Type}{F G:α->β->Prop}:∀{l₁:List α} {l₂:List β},Paired F l₁ l₂->(∀a b,F a b->G a b)->Paired G l₁ l₂
 | _,_,.nil,_=>.nil
 | _,_,.cons r t,f=>.cons (f _ _ r) (Paired.mapP t f)
theorem aA.stay(x:aA P w H h a o)(k:∀b u,(b=a\/H b=some (.own a))->h.get? b=some u->h'.get? b=some u)(ho:∀b,H b=some (.own a)->H' b=some (.own a))(ht:∀b xs,H b=some (.tup xs)->H' b=some (.tup xs)):aA P w H' h' a o:=by
 induction o with
 | lst xs=>obtain⟨z,its,n,r,e⟩:=x;exact⟨z,its,n,r,k _ _ (.inl rfl) e⟩
 | tup xs=>obtain⟨z,its,r,ob,e,c⟩:=x;exact⟨z,its,r,ob,k _ _ (.inl rfl) e,c⟩
 | dK kvs=>obtain⟨z,y,vs,r,ob,es,ep,e,c⟩:=x;exact⟨z,y,vs,r,ob,es,ep,k _ _ (.inl rfl) e,c⟩
 | dT kvs =>
  obtain⟨z,y,xs,r,ob,es,ep,e,c⟩:=x;exact⟨z,y,xs,Paired.mapP r fun p q z=>⟨z.1,ht _ _ z.2.1,z.2.2⟩,ob,es,ep,k _ _ (.inl rfl) e,c⟩
 | set S n=>obtain⟨ob,es,ep,t,e,c⟩:=x;exact⟨ob,es,ep,t,k _ _ (.inl rfl) e,c⟩
 | ins C dx fs =>
  obtain⟨d,z,ne,e,mA,⟨od,es,ep,e2,c⟩,r⟩:=x;exact⟨ho _ d,z,ne,k _ _ (.inl rfl) e,mA,⟨od,es,ep,k _ _ (.inr d) e2,c⟩,r⟩
 | own y=>obtain⟨ob,e⟩:=x;exact⟨ob,k _ _ (.inl rfl) e⟩
 | xd fs=>obtain⟨mA,⟨od,es,ep,e,c⟩,r⟩:=x;exact⟨mA,⟨od,es,ep,k _ _ (.inl rfl) e,c⟩,r⟩
 | rng lo hi=>obtain⟨t,u,v,e⟩:=x;exact⟨t,u,v,k _ _ (.inl rfl) e⟩
 | frz ob u ih=>obtain⟨e,q⟩:=x;exact⟨k _ _ (.inl rfl) e,ih q⟩
 | tbl ps =>
  have e:h.get? a=some { cls:=.none,data:=.fields ps }:=x;show h'.get? a=some { cls:=.none,data:=.fields ps };exact k a _ (.inl rfl) e
 | met f y =>
  have e:h.get? a=some (methodObj (.ref f) (.ref y)):=x;show h'.get? a=some (methodObj (.ref f) (.ref y));exact k a _ (.inl rfl) e
 | ext φ=>obtain⟨p,⟨o,e⟩,st⟩:=x;exact⟨st _ _ p fun o q=>k _ _ (.inl rfl) q,⟨o,k _ _ (.inl rfl) e⟩,st⟩
theorem bY.lt(x:bY P w H h)(e:H a=some o):a<h.objs.size:=(x a o e).lt
theorem bY.fresh(x:bY P w H h)(e:h.objs.size<=a):H a=none:=by
 cases q:H a with
 | none=>rfl
 | some u=>exact absurd (lt_of_lt_of_le (x.lt q) e) (lt_irrefl _)
theorem bY.kept(x:bY P w H h)(k:∀b u,h.get? b=some u->h'.get? b=some u):bY P w H h':=fun a o e =>
 (x a o e).stay (fun b u _ q=>k b u q) (fun _ q=>q) fun _ _ q=>q
theorem bY.laid(x:bY P w H h)(k:∀b u,h.get? b=some u->h'.get? b=some u)(hp:h.objs.size<=a)(new:aA P w (upd H a o) h' a o):bY P w (upd H a o) h':=fun b u e=>by
 have hn:=x.fresh hp
 by_cases hb:b=a
 ·subst hb;rw[ak] at e;cases e;exact new
 ·rw[bj hb] at e;exact(x b u e).stay (fun c v _ q=>k c v q) (fun c q=>by rw[bj (eN q hn)];exact q) fun c xs q=>by rw[bj (eN q hn)];exact q
def Rd(H:Hp)(a:Addr)(u:HO):Prop:=H a=some u\/∃o,H a=some (.frz o u)
theorem Rd.ok{u:HO}(r:Rd H a u)(x:bY P w H h):aA P w H h a u:=by
 rcases r with r|⟨o,r⟩
 ·exact x a u r
 ·obtain⟨_,q⟩:=x a _ r;exact q
def oB:Option HO->Prop
 | some (.lst _)=>True
 | some (.dK _)=>True
 | some (.dT _)=>True
 | some (.set _ _)=>True
 | some (.ins _ _ _)=>True
 | some (.ext _)=>True
 | _=>False
section
variable {x e:Addr} {o':HO}
theorem bY.write(ok:bY P w H h)(mu:oB (H x))(he:e=x\/H e=some (.own x))(k:∀b u,b≠e->h.get? b=some u->h'.get? b=some u)(heo:∃u,h'.get? e=some u)(new:aA P w (upd H x o') h' x o'):bY P w (upd H x o') h':=fun b u q=>by
 have nown:∀c y,H c=some (.own y)->c≠x:=fun c y r z=>by subst z;rw[r] at mu;exact mu
 have ntup:∀c xs,H c=some (.tup xs)->c≠x:=fun c xs r z=>by subst z;rw[r] at mu;exact mu
 by_cases hb:b=x
 ·subst hb;rw[ak] at q;cases q;exact new
 ·rw[bj hb] at q
  by_cases hbe:b=e
  ·have q':H b=some (.own x):=by
    rcases he with z|z
    ·exact absurd (hbe.trans z) hb
    ·rw[hbe];exact z
   rw[q] at q';cases q';obtain⟨v,hv⟩:=heo;exact⟨v,by rw[hbe];exact hv⟩
  ·refine(ok b u q).stay (fun c v hc r=>k c v ?_ r) (fun c r=>by rw[bj (nown c b r)];exact r) fun c xs r=>by rw[bj (ntup c xs r)];exact r
   rcases hc with rfl|hc
   ·exact hbe
   ·rintro rfl;rcases he with z|z
    ·exact nown c b hc z
    ·rw[hc] at z;cases z;exact hb rfl
end
structure Un (fs ex:List Addr) (H H':Hp) (h h':Heap):Prop where
 keep:∀b o,h.get? b=some o->H b=none->b∉fs->b∉ex->h'.get? b=some o
 slot:∀b o,h.get? b=some o->H b=none->b∈fs->b∉ex->∃sl,h'.get? b=some { o with slots:=sl }
 free:∀b o,h.get? b=some o->H b=none->b∉ex->H' b=none
 there:∀b o,h.get? b=some o->b∉ex->∃o',h'.get? b=some o'
 tups:∀b xs,H b=some (.tup xs)->H' b=some (.tup xs)
 frzs:∀b o u,H b=some (.frz o u)->H' b=some (.frz o u)
 tbls:∀b ps,H b=some (.tbl ps)->∃more,H' b=some (.tbl (ps++more))
section
variable {fs fs' ex ex':List Addr} {H1 H2:Hp} {h1 h2:Heap} {x e:Addr}
theorem Un.any(u:Un fs ex H H1 h h1){ob:Obj}(q:h.get? b=some ob)(n:H b=none)(hx:b∉ex):∃sl,h1.get? b=some { ob with slots:=sl }:=by
 by_cases hb:b∈fs
 ·exact u.slot b ob q n hb hx
 ·exact⟨ob.slots,u.keep b ob q n hb hx⟩
theorem Un.kept(k:∀b u,h.get? b=some u->h'.get? b=some u):Un fs ex H H h h' :=
 ⟨fun b ob q _ _ _=>k b ob q,fun b ob q _ _ _=>⟨ob.slots,k b ob q⟩,fun _ _ _ n _=>n,fun b ob q _=>⟨ob,k b ob q⟩,fun _ _ q=>q,fun _ _ _ q=>q,fun _ ps q=>⟨#[],by rw[q];simp⟩⟩
theorem Un.refl:Un fs ex H H h h:=Un.kept fun _ _ q=>q
theorem Un.laid(k:∀b u,h.get? b=some u->h'.get? b=some u)(hp:h.objs.size<=a)(hn:H a=none):Un fs ex H (upd H a o) h h' where
 keep:=fun b u q _ _ _=>k b u q
 slot:=fun b u q _ _ _=>⟨u.slots,k b u q⟩
 free:=fun b u q n _=>by rw[bj (ne_of_lt (lt_of_lt_of_le (Heap.lt_size q) hp))];exact n
 there:=fun b u q _=>⟨u,k b u q⟩
 tups:=fun b xs q=>by rw[bj (eN q hn)];exact q
 frzs:=fun b u xs q=>by rw[bj (eN q hn)];exact q
 tbls:=fun b ps q=>⟨#[],by rw[bj (eN q hn),q];simp⟩
theorem Un.write(mu:oB (H x))(he:e=x\/H e=some (.own x))(k:∀b u,b≠e->h.get? b=some u->h'.get? b=some u)(heo:∃u,h'.get? e=some u):Un fs ex H (upd H x o) h h':=by
 have hx:∀b,H b=none->b≠x:=fun b n z=>by subst z;rw[n] at mu;exact mu
 have hb:∀b,H b=none->b≠e:=fun b n z=>by
  subst z;rcases he with r|r
  ·exact hx b n r
  ·rw[n] at r;cases r
 have hm:∀b u,H b=some u->¬oB (some u)->b≠x:=fun b u q nm z=>by subst z;rw[q] at mu;exact nm mu
 refine⟨fun b u q n _ _=>k b u (hb b n) q,fun b u q n _ _=>⟨u.slots,k b u (hb b n) q⟩,fun b u q n _=>by rw[bj (hx b n)];exact n,fun b u q _=>?_,
  fun b xs q=>by rw[bj (hm b _ q fun z=>z)];exact q,fun b u xs q=>by rw[bj (hm b _ q fun z=>z)];exact q,fun b ps q=>⟨#[],by rw[bj (hm b _ q fun z=>z),q];simp⟩⟩
 by_cases hbe:b=e
 ·subst hbe;exact heo
 ·exact⟨u,k b u hbe q⟩
end
def qd(h:Heap)(H:Hp):List Addr:=(List.range h.objs.size).filter fun a=>(H a).isSome
def jJ(h:Heap)(H:Hp):Heap:=hideAll h (qd h H)
theorem Ha(h:Heap)(H:Hp):(jJ h H).objs.size=h.objs.size:=PySem.W.hideAll_size _ _
theorem Gu{o:Obj}(e:h.get? b=some o)(n:H b=none):(jJ h H).get? b=some o :=
 hideAll_get _ e fun hm=>by
  have q:(H b).isSome=true:=(mem_filter.mp hm).2;rw[n] at q;simp at q
theorem ET{o:Obj}(e:(jJ h H).get? b=some o):h.get? b=some o/\H b=none:=by
 have e':h.get? b=some o:=of_hideAll (qd h H) e;refine⟨e',?_⟩;cases q:H b with
 | none=>rfl
 | some x =>
  have hm:b∈qd h H:=mem_filter.mpr ⟨mem_range.mpr (Heap.lt_size e'),by simp[q]⟩;have z:(jJ h H).get? b=none:=hideAll_none (qd h H) hm;rw[z] at e;cases e
def ES(g h:Heap)(L:Addr):List (Addr×Obj):=(List.range h.objs.size).filterMap fun a=>if a=L\/(g.get? a).isSome=true then none else (h.get? a).map fun o=>(a,o)
def rest(g h:Heap)(L d:Addr):List (Addr×Obj):=(ES g h L).filter fun p=>decide (p.1≠d)
structure Mod (K:Frag) (mg:Str->Option Value) (base:Heap):Prop where
 kin:K.In base
 glob:base.Ns mainGlobals mg
 blt:∃mb,base.Ns builtinsNs mb/\∀x:Str,x ≠ "__name__" -> mb x=bootBuiltins x
 nolimit:base.NoLimit
structure Cx where
 prog:Program
 w:World
 K:Frag
 mg:Str->Option Value
 base:Heap
 A:Around
 N:List Str
 s₀:Shared
 H₀:Hp
 env:Env
 outer:List Env
 stack:List Env
 ex:List Addr
 fn:Str->Bool
 calm:Bool
 pn:List (Addr×Obj)
 xe:Value->Shared->Prop
def cW(l:List Env):List Addr:=l.filterMap (·.frame)
abbrev Cx.fs(X:Cx):List Addr:=cW X.outer
def lG(sc:Scope)(x:Str):Prop:=sc.names.lookup x=some .local\/sc.names.lookup x=some .cell\/sc.names.lookup x=some .free
def Loc(sc:Scope)(x:Str):Prop:=sc.names.lookup x=some .local\/sc.names.lookup x=some .cell
def AM(env:Env)(h:Heap)(m:Str->Option Value)(x:Str)(u:Value):Prop :=
 (env.kindOf x=some .local/\m x=some u)\/((env.kindOf x=some .cell\/env.kindOf x=some .free)/\∃c,env.cells.lookup x=some c/\h.IsCell c (some u))
structure Cx.Ok (X:Cx):Prop where
 mod:Mod X.K X.mg X.base
 kind:X.env.scope.kind=.function
 glob:X.env.globals=mainGlobals
 blt:X.env.builtins=builtinsNs
 above:X.s₀.heap.objs.size<=X.env.locals
 inj:∀x y c,X.env.cells.lookup x=some c->X.env.cells.lookup y=some c->x=y
 has:∀x,(X.env.kindOf x=some .cell\/X.env.kindOf x=some .free)->∃c,X.env.cells.lookup x=some c
 cab:∀x c,X.fn x=true->X.env.cells.lookup x=some c->X.s₀.heap.objs.size<=c
 hd:X.calm=true->X.A.handled=none
 frames:X.A.frames=some X.stack
 stk:X.stack=X.outer\/(X.stack=X.env::X.outer/\X.env.frame=some X.env.locals)
 exf:∀b∈X.ex,b≠X.env.locals/\∀x c,X.env.cells.lookup x=some c->c≠b
 bs:∀b o,X.base.get? b=some o->X.s₀.heap.get? b=some o/\X.H₀ b=none
 bsz:X.base.objs.size<=X.s₀.heap.objs.size
 noex:∀b o,X.base.get? b=some o->b∉X.ex
 exfs:∀b∈X.ex,b∉X.fs
 funs:X.s₀.heap.FunFrames X.base X.outer
 frf:∀b∈X.fs,X.H₀ b=none
structure Inv (X:Cx) (pins:List (Addr×Obj)) (σ:List (Option V)) (H:Hp) (s:Shared):Prop where
 ok:X.Ok
 os:s.os=X.s₀.os
 bare:AllBare s.gens
 base:Un X.fs X.ex X.H₀ H X.s₀.heap s.heap
 loc:∃m,s.heap.Ns X.env.locals m/\∀(i:Nat) (x:Str) (v:V),X.N[i]?=some x->σ[i]?=some (some v)->lG X.env.scope x->∃u,RelV v u/\AM X.env s.heap m x u
 cell:∀x c,X.env.cells.lookup x=some c->∃v,s.heap.IsCell c v
 free:H X.env.locals=none
 freeC:∀x c,X.env.cells.lookup x=some c->H c=none
 pin:∀p∈X.pn++pins,s.heap.get? p.1=some p.2/\H p.1=none/\p.1≠X.env.locals/\p.1∉X.fs/\∀v,p.2.data≠.cell v
 hok:bY X.prog X.w H s.heap
 len:σ.length=X.N.length
variable {u:Value} {X:Cx} {pins:List (Addr×Obj)} {s s':Shared} {t' i:Nat} {ch:List Addr} {it:Addr} {N:List Str} {A:Around} {E:Value->Shared->Prop} {v:V}
section
variable {σ:List (Option V)}
theorem Cx.Ok.nofr(ok:X.Ok){o:Obj}(e:X.base.get? b=some o):b∉X.fs:=fun hb=>by
 have:=(ok.funs.mem hb).1;rw[e] at this;cases this
theorem Inv.bs(I:Inv X pins σ H s):∀b o,X.base.get? b=some o->s.heap.get? b=some o/\H b=none:=fun b o e =>
 ⟨I.base.keep b o (I.ok.bs b o e).1 (I.ok.bs b o e).2 (I.ok.nofr e) (I.ok.noex b o e),I.base.free b o (I.ok.bs b o e).1 (I.ok.bs b o e).2 (I.ok.noex b o e)⟩
theorem Inv.bk(I:Inv X pins σ H s):∀b o,X.base.get? b=some o->s.heap.get? b=some o:=fun b o e=>(I.bs b o e).1
theorem Inv.mod(I:Inv X pins σ H s):Mod X.K X.mg X.base:=I.ok.mod
theorem Inv.kIn(I:Inv X pins σ H s):X.K.In s.heap:=I.ok.mod.kin.keeps I.bk
theorem Inv.lt(I:Inv X pins σ H s):X.env.locals<s.heap.objs.size:=let ⟨_,hn,_⟩:=I.loc;hn.lt
theorem Inv.sz(I:Inv X pins σ H s):X.s₀.heap.objs.size<=s.heap.objs.size:=le_trans I.ok.above (le_of_lt I.lt)
theorem Inv.nofs(I:Inv X pins σ H s)(h:s.heap.objs.size<=a):a∉X.fs:=fun hb=>by
 obtain⟨_,o,ho,_⟩:=I.ok.funs.mem hb;exact absurd (lt_of_lt_of_le (Heap.lt_size ho) (le_trans I.sz h)) (lt_irrefl _)
theorem Inv.cne(I:Inv X pins σ H s):∀x c,X.env.cells.lookup x=some c->c≠X.env.locals:=fun x c e z=>by
 obtain⟨v,o,ho,hd⟩:=I.cell x c e;obtain⟨m,⟨o',es,ep,ho',hd',_⟩,_⟩:=I.loc;rw[z,ho'] at ho;cases ho;rw[hd'] at hd;cases hd
theorem Inv.funs(I:Inv X pins σ H s):s.heap.FunFrames X.base X.outer:=by
 have all:∀(l:List Env),(∀b∈cW l,b∈X.fs)->X.s₀.heap.FunFrames X.base l->s.heap.FunFrames X.base l:=by
  intro l
  induction l with
  | nil=>intro _ _;trivial
  | cons env r ih =>
   intro hs hl;obtain⟨hk,⟨L,o,hf,hn,ho,hd⟩,hr⟩:=hl;have hL:L∈X.fs:=hs L (by unfold cW;rw[filterMap_cons,hf];exact mem_cons_self);obtain⟨sl,e⟩:=I.base.slot L o ho (I.ok.frf L hL) hL fun z=>I.ok.exfs L z hL;exact⟨hk,⟨L,_,hf,hn,e,hd⟩,ih (fun b hb=>hs b (by unfold cW;rw[filterMap_cons,hf];exact mem_cons_of_mem _ hb)) hr⟩
 exact all X.outer (fun _ hb=>hb) I.ok.funs
theorem Inv.stack(I:Inv X pins σ H s):s.heap.FunFrames X.base X.stack:=by
 rcases I.ok.stk with e|⟨e,hf⟩
 ·rw[e];exact I.funs
 ·rw[e];obtain⟨m,hn,_⟩:=I.loc;refine .cons (by rw[I.ok.kind];decide) hf hn ?_ I.funs;exact Heap.get?_none_of_le (le_trans I.ok.bsz I.ok.above)
theorem Inv.stkSub(I:Inv X pins σ H s):∀b∈cW X.stack,b∈X.env.locals::X.fs:=fun b hb=>by
 rcases I.ok.stk with e|⟨e,hf⟩
 ·rw[e] at hb;exact mem_cons_of_mem _ hb
 ·rw[e] at hb;unfold cW at hb;rw[filterMap_cons,hf] at hb;exact hb
theorem Inv.stkFree(I:Inv X pins σ H s):∀b∈cW X.stack,H b=none:=fun b hb=>by
 rcases mem_cons.mp (I.stkSub b hb) with e|hb
 ·rw[e];exact I.free
 ·obtain⟨_,o,ho,_⟩:=I.ok.funs.mem hb;exact I.base.free b o ho (I.ok.frf b hb) fun z=>I.ok.exfs b z hb
theorem Inv.step{g':Array GenState}{t':Nat}{d':Drawn}{ch:List Addr}(I:Inv X pins σ H s)(hch:∀b∈ch,(b∈X.ex\/X.s₀.heap.objs.size<=b)/\b≠X.env.locals/\(∀x c,X.env.cells.lookup x=some c->c≠b)/\∀p∈X.pn++pins,p.1≠b)(keep:∀b o,b≠X.env.locals->b∉X.fs->b∉ch->s.heap.get? b=some o->H b=none->h'.get? b=some o)(slot:∀b o,b≠X.env.locals->b∈X.fs->b∉ch->s.heap.get? b=some o->H b=none->∃sl,h'.get? b=some { o with slots:=sl })(free:∀b o,b∉ch->s.heap.get? b=some o->H b=none->H' b=none)(there:∀b o,b∉ch->s.heap.get? b=some o->∃o',h'.get? b=some o')(tups:∀b xs,H b=some (.tup xs)->H' b=some (.tup xs))(frzs:∀b o u,H b=some (.frz o u)->H' b=some (.frz o u))(tbls:∀b ps,H b=some (.tbl ps)->∃more,H' b=some (.tbl (ps++more)))(ns:∀m,s.heap.Ns X.env.locals m->h'.Ns X.env.locals m)(hok:bY X.prog X.w H' h')(hg:AllBare g') :
  Inv X pins σ H' { s with heap:=h',gens:=g',drawn:=d',toks:=t' }:=by
 have neL:∀b o,X.s₀.heap.get? b=some o->b≠X.env.locals:=fun b o e=>ne_of_lt (lt_of_lt_of_le (Heap.lt_size e) I.ok.above);have neC:∀b o,X.s₀.heap.get? b=some o->b∉X.ex->b∉ch:=fun b o e hx hb=>by
  rcases(hch b hb).1 with z|z
  ·exact hx z
  ·exact absurd (lt_of_lt_of_le (Heap.lt_size e) z) (lt_irrefl _)
 have cellK:∀x c,X.env.cells.lookup x=some c->∀v,s.heap.IsCell c v->h'.IsCell c v:=fun x c e v ⟨o,ho,hd⟩=>by
  have nch:c∉ch:=fun z=>(hch c z).2.2.1 x c e rfl
  by_cases hc:c∈X.fs
  ·obtain⟨sl,q⟩:=slot c o (I.cne x c e) hc nch ho (I.freeC x c e);exact⟨_,q,hd⟩
  ·exact⟨o,keep c o (I.cne x c e) hc nch ho (I.freeC x c e),hd⟩
 refine⟨I.ok,I.os,hg,⟨fun b o e n hb hx=>?_,fun b o e n hb hx=>?_,fun b o e n hx=>?_,fun b o e hx=>?_,fun b xs e=>tups b xs (I.base.tups b xs e),fun b o xs e=>frzs b o xs (I.base.frzs b o xs e),fun b ps e=>?_⟩,?_,fun x c e=>?_,?_,fun x c e=>?_,fun p hp=>?_,hok,I.len⟩
 ·exact keep b o (neL b o e) hb (neC b o e hx) (I.base.keep b o e n hb hx) (I.base.free b o e n hx)
 ·obtain⟨sl,e1⟩:=I.base.slot b o e n hb hx;obtain⟨sl',e2⟩:=slot b _ (neL b o e) hb (neC b o e hx) e1 (I.base.free b o e n hx);exact⟨sl',e2⟩
 ·obtain⟨o',e1⟩:=I.base.there b o e hx;exact free b o' (neC b o e hx) e1 (I.base.free b o e n hx)
 ·obtain⟨o',e1⟩:=I.base.there b o e hx;exact there b o' (neC b o e hx) e1
 ·obtain⟨m1,e1⟩:=I.base.tbls b ps e;obtain⟨m2,e2⟩:=tbls b _ e1;exact⟨m1++m2,by rw[e2,Array.append_assoc]⟩
 ·obtain⟨m,hn,hl⟩:=I.loc;refine⟨m,ns m hn,fun i x v e1 e2 e3=>?_⟩;obtain⟨u,r,l⟩:=hl i x v e1 e2 e3;refine⟨u,r,?_⟩;rcases l with l|⟨k,c,e,z⟩
  ·exact .inl l
  ·exact .inr ⟨k,c,e,cellK x c e _ z⟩
 ·obtain⟨v,z⟩:=I.cell x c e;exact⟨v,cellK x c e v z⟩
 ·obtain⟨m,⟨o,_,_,ho,_⟩,_⟩:=I.loc;exact free _ o (fun z=>(hch _ z).2.1 rfl) ho I.free
 ·obtain⟨v,o,ho,hd⟩:=I.cell x c e;exact free c o (fun z=>(hch c z).2.2.1 x c e rfl) ho (I.freeC x c e)
 ·obtain⟨e,n,ne,nf,d⟩:=I.pin p hp;have nch:p.1∉ch:=fun z=>(hch p.1 z).2.2.2 p hp rfl;exact⟨keep p.1 p.2 ne nf nch e n,free p.1 p.2 nch e n,ne,nf,d⟩
theorem Inv.un(I:Inv X pins σ H s)(u:Un X.fs [] H H' s.heap h')(hok:bY X.prog X.w H' h'):Inv X pins σ H' { s with heap:=h',toks:=t' }:=by
 obtain⟨m,⟨o,es,ep,ho,r⟩,_⟩:=id I.loc;obtain⟨sl,hL⟩:=u.any ho I.free (by simp);exact I.step (g':=s.gens) (d':=s.drawn) (ch:=[]) (fun _ z=>nomatch z) (fun b o _ hb _ e n=>u.keep b o e n hb (by simp)) (fun b o _ hb _ e n=>u.slot b o e n hb (by simp)) (fun b o _ e n=>u.free b o e n (by simp)) (fun b o _ e=>u.there b o e (by simp)) u.tups u.frzs u.tbls (fun m' hm=>by
  obtain⟨o',es',ep',ho',r'⟩:=hm;rw[ho] at ho';cases ho';exact⟨_,es',ep',hL,r'⟩) hok I.bare
theorem Inv.call{g':Array GenState}{d':Drawn}(I:Inv X pins σ H s)(u:Un (cW X.stack) ch H H' s.heap h')(hok:bY X.prog X.w H' h')(hg:AllBare g')(hch:∀b∈ch,(b∈X.ex\/X.s₀.heap.objs.size<=b)/\b≠X.env.locals/\(∀x c,X.env.cells.lookup x=some c->c≠b)/\∀p∈X.pn++pins,p.1≠b) :
  Inv X pins σ H' { s with heap:=h',gens:=g',drawn:=d',toks:=t' }:=by
 obtain⟨m,⟨o,es,ep,ho,r⟩,_⟩:=id I.loc;obtain⟨sl,hL⟩:=u.any ho I.free fun z=>(hch _ z).2.1 rfl;exact I.step (ch:=ch) hch (fun b o hL hb hc e n=>u.keep b o e n (fun z=>(mem_cons.mp (I.stkSub b z)).elim hL hb) hc) (fun b o _ _ hc e n=>u.any e n hc) (fun b o hc e n=>u.free b o e n hc) (fun b o hc e=>u.there b o e hc) u.tups u.frzs u.tbls (fun m' hm=>by
  obtain⟨o',es',ep',ho',r'⟩:=hm;rw[ho] at ho';cases ho';exact⟨_,es',ep',hL,r'⟩) hok hg
theorem Inv.turned(I:Inv X pins σ H s)(k:∀b o,b≠it->s.heap.get? b=some o->h'.get? b=some o)(hn:H it=none)(hL:it≠X.env.locals)(h1:it∈X.ex\/X.s₀.heap.objs.size<=it)(h2:∀x c,X.env.cells.lookup x=some c->c≠it)(h3:∀p∈X.pn++pins,p.1≠it):Inv X pins σ H { s with heap:=h',toks:=t' }:=by
 have nit:∀b u,H b=some u->b≠it:=fun b u e z=>by rw[z,hn] at e;cases e
 refine I.step (g':=s.gens) (d':=s.drawn) (ch:=[it]) (fun b hb=>?_) (fun b o _ _ hc e _=>k b o (fun z=>hc (by simp[z])) e) (fun b o _ _ hc e _=>⟨o.slots,k b o (fun z=>hc (by simp[z])) e⟩) (fun _ _ _ _ n=>n)
  (fun b o hc e=>⟨o,k b o (fun z=>hc (by simp[z])) e⟩) (fun _ _ e=>e) (fun _ _ _ e=>e) (fun b ps e=>⟨#[],by rw[e];simp⟩) (fun m hm=>?_) (fun b u e=>?_) I.bare
 ·have e:b=it:=by simpa using hb
  subst e;exact⟨h1,hL,h2,h3⟩
 ·obtain⟨o,es,ep,ho,r⟩:=hm;exact⟨o,es,ep,k _ o (Ne.symm hL) ho,r⟩
 ·refine(I.hok b u e).stay (fun c v hc q=>k c v ?_ q) (fun _ q=>q) fun _ _ q=>q;rcases hc with z|z
  ·rw[z];exact nit b u e
  ·exact nit c _ z
theorem Inv.tok(I:Inv X pins σ H s)(t:Nat):Inv X pins σ H { s with toks:=t }:=I.un (h':=s.heap) (t':=t) Un.refl I.hok
theorem Inv.kept{t':Nat}(I:Inv X pins σ H s)(k:∀b u,s.heap.get? b=some u->h'.get? b=some u):Inv X pins σ H { s with heap:=h',toks:=t' }:=I.un (Un.kept k) (I.hok.kept k)
theorem Inv.laid{a:Addr}{o:HO}{t':Nat}(I:Inv X pins σ H s)(k:∀b u,s.heap.get? b=some u->h'.get? b=some u)(hp:s.heap.objs.size<=a)(new:aA X.prog X.w (upd H a o) h' a o) :
  Inv X pins σ (upd H a o) { s with heap:=h',toks:=t' }:=I.un (Un.laid k hp (I.hok.fresh hp)) (I.hok.laid k hp new)
theorem Inv.write{x e:Addr}{o:HO}{t':Nat}(I:Inv X pins σ H s)(mu:oB (H x))(he:e=x\/H e=some (.own x))(k:∀b u,b≠e->s.heap.get? b=some u->h'.get? b=some u)(heo:∃u,h'.get? e=some u)(new:aA X.prog X.w (upd H x o) h' x o):Inv X pins σ (upd H x o) { s with heap:=h',toks:=t' }:=I.un (Un.write mu he k heo) (I.hok.write mu he k heo new)
theorem Inv.weak{σ':List (Option V)}(I:Inv X pins σ H s)(hl:σ'.length=σ.length)(w:∀(i:Nat) v,σ'[i]?=some (some v)->σ[i]?=some (some v)):Inv X pins σ' H s :=
 ⟨I.ok,I.os,I.bare,I.base,let ⟨m,hn,hl'⟩:=I.loc;⟨m,hn,fun i x v e1 e2 e3=>hl' i x v e1 (w i v e2) e3⟩,I.cell,I.free,I.freeC,I.pin,I.hok,hl.trans I.len⟩
theorem Inv.pins_of{pins':List (Addr×Obj)}(I:Inv X pins σ H s)(h:∀p∈pins',s.heap.get? p.1=some p.2/\H p.1=none/\p.1≠X.env.locals/\p.1∉X.fs/\∀v,p.2.data≠.cell v):Inv X pins' σ H s :=
 ⟨I.ok,I.os,I.bare,I.base,I.loc,I.cell,I.free,I.freeC,fun p hp=>(mem_append.mp hp).elim (fun z=>I.pin p (mem_append_left _ z)) (h p),I.hok,I.len⟩
theorem sR(hN:N.Nodup){j:Nat}{x:Str}(a:N[i]?=some x)(b:N[j]?=some x):i=j:=by obtain⟨h1,e1⟩:=List.getElem?_eq_some_iff.mp a;obtain⟨h2,e2⟩:=List.getElem?_eq_some_iff.mp b;exact(getElem_inj hN).mp (e1.trans e2.symm)
theorem G_{M:Model}{x:Str}{Q:Unit->Shared->Prop}(I:Inv X pins σ H s)(hN:X.N.Nodup)(hi:X.N[i]?=some x)(hx:Loc X.env.scope x)(r:RelV v u)(h:∀s',Inv X pins (σ.set i (some v)) H s'->(∃a,Heap.SameBut a s.heap s'.heap/\(a=X.env.locals\/X.env.cells.lookup x=some a))->Q () s')(hf:X.fn x=true\/X.env.scope.names.lookup x=some .local:=by first|exact .inl rfl|exact .inr rfl|assumption):wpAny M A (storeName X.env x u) Q E s:=by
 obtain⟨m,hn,hl⟩:=id I.loc;have hcls:(X.env.scope.kind==.class||(X.env.scope.kind==.module&&X.env.locals != X.env.globals))=false:=by rw[I.ok.kind];rfl
 have hiσ:i<σ.length:=by rw[I.len];exact(List.getElem?_eq_some_iff.mp hi).1
 have cne:=I.cne;have tracked:∀{a:Addr} {h':Heap},(∃o,s.heap.get? a=some o/\H a=none)->Heap.SameBut a s.heap h'->bY X.prog X.w H h':=fun {a h'} ha hs b ob e=>by
  obtain⟨_,_,hfree⟩:=ha;refine(I.hok b ob e).stay (fun c w' hc q=>(hs.2 c ?_).trans q) (fun _ q=>q) fun _ _ q=>q;rintro rfl;rcases hc with rfl|hc
  ·rw[hfree] at e;cases e
  ·rw[hfree] at hc;cases hc
 rcases hx with hk|hk
 ·refine wpAny_storeName_local hk hn (fun h' hn' hs=>?_) hcls;obtain⟨oL,_,_,hoL,_⟩:=id hn;refine h _ ⟨I.ok,I.os,I.bare,⟨fun b o e n hb hx=>?_,fun b o e n hb hx=>?_,I.base.free,fun b o e hx=>?_,I.base.tups,I.base.frzs,I.base.tbls⟩,⟨_,hn',fun j y v' e1 e2 e3=>?_⟩,fun y c e=>?_,I.free,I.freeC,fun p hp=>?_,tracked ⟨oL,hoL,I.free⟩ hs,by simpa using I.len⟩ ⟨_,hs,.inl rfl⟩
  ·exact(hs.2 b (ne_of_lt (lt_of_lt_of_le (Heap.lt_size e) I.ok.above))).trans (I.base.keep b o e n hb hx)
  ·obtain⟨sl,e1⟩:=I.base.slot b o e n hb hx;exact⟨sl,(hs.2 b (ne_of_lt (lt_of_lt_of_le (Heap.lt_size e) I.ok.above))).trans e1⟩
  ·obtain⟨o',e1⟩:=I.base.there b o e hx;exact⟨o',(hs.2 b (ne_of_lt (lt_of_lt_of_le (Heap.lt_size e) I.ok.above))).trans e1⟩
  ·by_cases hj:j=i
   ·subst hj;rw[hi] at e1;cases e1;rw[getElem?_set_self hiσ] at e2;cases e2;exact⟨u,r,.inl ⟨hk,by simp⟩⟩
   ·rw[getElem?_set_ne (Ne.symm hj)] at e2;obtain⟨u',r',q⟩:=hl j y v' e1 e2 e3;refine⟨u',r',?_⟩;rcases q with ⟨k,e⟩|⟨k,c,e,z⟩
    ·refine .inl ⟨k,?_⟩;have:y≠x:=fun e=>hj (sR hN e1 (e▸hi));simp[this,e]
    ·exact .inr ⟨k,c,e,z.sameBut hs (cne y c e)⟩
  ·obtain⟨w',z⟩:=I.cell y c e;exact⟨w',z.sameBut hs (cne y c e)⟩
  ·obtain⟨e,n,ne,nf,d⟩:=I.pin p hp;exact⟨(hs.2 p.1 ne).trans e,n,ne,nf,d⟩
 ·have hfn:X.fn x=true:=by
   rcases hf with z|z
   ·exact z
   ·rw[z] at hk;cases hk
  obtain⟨c,hc⟩:=I.ok.has x (.inl hk);obtain⟨w',z⟩:=I.cell x c hc;refine wpAny_storeName_cell I.ok.kind hk hc z (fun h' hc' hs=>?_);obtain⟨oc,hoc,hocd⟩:=id z;refine h { s with heap:=h' } ⟨I.ok,I.os,I.bare,⟨fun b o e n hb hx=>?_,fun b o e n hb hx=>?_,I.base.free,fun b o e hx=>?_,I.base.tups,I.base.frzs,I.base.tbls⟩,⟨m,hn.sameBut hs (Ne.symm (cne x c hc)),fun j y v' e1 e2 e3=>?_⟩,fun y c' e=>?_,I.free,I.freeC,fun p hp=>?_,tracked ⟨oc,hoc,I.freeC x c hc⟩ hs,by simpa using I.len⟩ ⟨c,hs,.inr hc⟩
  ·exact(hs.2 b (ne_of_lt (lt_of_lt_of_le (Heap.lt_size e) (I.ok.cab x c hfn hc)))).trans (I.base.keep b o e n hb hx)
  ·obtain⟨sl,e1⟩:=I.base.slot b o e n hb hx;exact⟨sl,(hs.2 b (ne_of_lt (lt_of_lt_of_le (Heap.lt_size e) (I.ok.cab x c hfn hc)))).trans e1⟩
  ·obtain⟨o',e1⟩:=I.base.there b o e hx;exact⟨o',(hs.2 b (ne_of_lt (lt_of_lt_of_le (Heap.lt_size e) (I.ok.cab x c hfn hc)))).trans e1⟩
  ·by_cases hj:j=i
   ·subst hj;rw[hi] at e1;cases e1;rw[getElem?_set_self hiσ] at e2;cases e2;exact⟨u,r,.inr ⟨.inl hk,c,hc,hc'⟩⟩
   ·rw[getElem?_set_ne (Ne.symm hj)] at e2;obtain⟨u',r',q⟩:=hl j y v' e1 e2 e3;refine⟨u',r',?_⟩;rcases q with q|⟨k,c',e,z'⟩
    ·exact .inl q
    ·refine .inr ⟨k,c',e,z'.sameBut hs ?_⟩;rintro rfl;exact hj (sR hN e1 (I.ok.inj _ _ _ e hc▸hi))
  ·by_cases hcc:c'=c
   ·subst hcc;exact⟨_,hc'⟩
   ·obtain⟨w2,z2⟩:=I.cell y c' e;exact⟨w2,z2.sameBut hs hcc⟩
  ·obtain⟨e,n,ne,nf,d⟩:=I.pin p hp;refine⟨(hs.2 p.1 ?_).trans e,n,ne,nf,d⟩;intro q;rw[q,hoc] at e;have q':oc=p.2:=Option.some.inj e;exact d w' (by rw[<- q'];exact hocd)
theorem pM{M:Model}{x:Str}{Q:Unit->Shared->Prop}(I:Inv X pins σ H s)(hN:X.N.Nodup)(hi:X.N[i]?=some x)(hx:Loc X.env.scope x)(r:RelV v u)(h:∀s',Inv X pins (σ.set i (some v)) H s'->Q () s')(hf:X.fn x=true\/X.env.scope.names.lookup x=some .local:=by first|exact .inl rfl|exact .inr rfl|assumption):wpAny M A (storeName X.env x u) Q E s :=
 G_ I hN hi hx r (fun s' I' _=>h s' I') hf
theorem Inv.call'(I:Inv X pins σ H s)(ho:s'.os=s.os)(u:Un (cW X.stack) ch H H' s.heap s'.heap)(hok:bY X.prog X.w H' s'.heap)(hg:AllBare s'.gens)(hch:∀b∈ch,(b∈X.ex\/X.s₀.heap.objs.size<=b)/\b≠X.env.locals/\(∀x c,X.env.cells.lookup x=some c->c≠b)/\∀p∈X.pn++pins,p.1≠b):Inv X pins σ H' s':=by obtain⟨h',g',d',t',o'⟩:=s';have e:o'=s.os:=ho;subst e;exact I.call (g':=g') (t':=t') (d':=d') u hok hg hch
end
abbrev XK:=Value->Option Addr->Hp->Prop
abbrev St:=List (Option V)
abbrev VK:=V->Hp->Prop
abbrev TE:=St->Hp->VK->Prop
abbrev TT:=St->Hp->(Bool->Hp->Prop)->Prop
abbrev TA:=St->Hp->(List V->Hp->Prop)->Prop
structure Ends where
 nx:St->Hp->Prop
 rt:VK
 bk:St->Hp->Prop:=fun _ _=>False
 ct:St->Hp->Prop:=fun _ _=>False
abbrev TS:=Ends->St->Hp->Prop
def EP(X:Cx)(pins:List (Addr×Obj))(σ:St)(Q:VK)(u:Value)(s':Shared):Prop:=∃v H',Inv X pins σ H' s'/\RelV v u/\Q v H'
def TP(X:Cx)(pins:List (Addr×Obj))(σ:St)(Q:Bool->Hp->Prop)(b:Bool)(s':Shared):Prop:=∃H',Inv X pins σ H' s'/\Q b H'
def AP(X:Cx)(pins:List (Addr×Obj))(σ:St)(Q:List V->Hp->Prop)(us:List Value)(s':Shared):Prop:=∃vs H',Inv X pins σ H' s'/\Vals vs us/\Q vs H'
def SP(X:Cx)(pins:List (Addr×Obj))(D:Ends)(f:Flow)(s':Shared):Prop :=
 match f with
 | .next=>∃σ' H',Inv X pins σ' H' s'/\D.nx σ' H'
 | .brk=>∃σ' H',Inv X pins σ' H' s'/\D.bk σ' H'
 | .cont=>∃σ' H',Inv X pins σ' H' s'/\D.ct σ' H'
 | .ret u=>∃v σ' H',Inv X pins σ' H' s'/\RelV v u/\D.rt v H'
def PE(X:Cx)(e:Expr)(t:TE):Prop :=
 ∀(pins:List (Addr×Obj)) (s:Shared) (σ:St) (H:Hp) (Q:VK),Inv X pins σ H s->t σ H Q->wpAny (model X.prog X.w) X.A (eval e X.env) (EP X pins σ Q) X.xe s
def PT(X:Cx)(e:Expr)(t:TT):Prop :=
 ∀(pins:List (Addr×Obj)) (s:Shared) (σ:St) (H:Hp) (Q:Bool->Hp->Prop),Inv X pins σ H s->t σ H Q->wpAny (model X.prog X.w) X.A (isTrue e X.env (eval e X.env)) (TP X pins σ Q) X.xe s
def PW(X:Cx)(e:Expr)(t:TT):Prop :=
 ∀(whole:Sem Value) (pins:List (Addr×Obj)) (s:Shared) (σ:St) (H:Hp) (Q:Bool->Hp->Prop),Inv X pins σ H s->t σ H Q->wpAny (model X.prog X.w) X.A (isTrue e X.env whole) (TP X pins σ Q) X.xe s
variable {e:Expr}
theorem PW.pt{t:TT}(h:PW X e t):PT X e t:=h _
def PA(X:Cx)(es:List Expr)(t:TA):Prop :=
 ∀(pos:Pos) (pins:List (Addr×Obj)) (s:Shared) (σ:St) (H:Hp) (Q:List V->Hp->Prop),Inv X pins σ H s->t σ H Q->wpAny (model X.prog X.w) X.A (spliced (backTo pos (starEach es X.env))) (AP X pins σ Q) X.xe s
def PS(X:Cx)(st:Stmt)(t:TS):Prop :=
 ∀(pins:List (Addr×Obj)) (s:Shared) (σ:St) (H:Hp) (D:Ends),Inv X pins σ H s->t D σ H->wpAny (model X.prog X.w) X.A (exec st X.env) (SP X pins D) X.xe s
def PSs(X:Cx)(st:List Stmt)(t:TS):Prop :=
 ∀(pins:List (Addr×Obj)) (s:Shared) (σ:St) (H:Hp) (D:Ends),Inv X pins σ H s->t D σ H->wpAny (model X.prog X.w) X.A (execs st X.env) (SP X pins D) X.xe s
theorem aN{α:Type}{t:Sem α}{Q Q':α->Shared->Prop}{M:Model}(h:wpAny M A t Q E s)(hQ:∀a s,Q a s->Q' a s):wpAny M A t Q' E s:=wpAny_mono h hQ fun _ _ x=>x
variable {Q:Value->Shared->Prop} {pos:Pos} {ta tb:TE} {op:CmpOp} {c:Expr}
section
def AL(i:Nat):TE:=fun σ H Q=>∃v,σ[i]?=some (some v)/\Q v H
def tC(v:V):TE:=fun _ H Q=>Q v H
theorem mq{x:Str}(hN:X.N[i]?=some x)(hv:lG X.env.scope x)(hd:(x==("__debug__" : Str))=false:=by decide)(hcd:(x==("__classdict__" : Str))=false:=by decide):PE X (.Name x pos) (AL i):=by
 intro pins s σ H Q I h;obtain⟨v,e,h⟩:=h;obtain⟨m,hn,hl⟩:=I.loc;obtain⟨u,r,l⟩:=hl i x v hN e hv;have fin:EP X pins σ Q u s:=⟨v,H,I,r,h⟩
 rcases l with ⟨hk,hm⟩|⟨hk,c,hc,hcell⟩
 ·exact wpAny_Name (wpAny_loadName_local I.ok.kind hk hn hm fin) hd
 ·rcases hk with hk|hk
  ·exact wpAny_Name (wpAny_loadName_cell I.ok.kind hk hc hcell fin) hd
  ·exact wpAny_Name (wpAny_loadName_free I.ok.kind hk hc hcell fin hcd) hd
theorem Dy{i j pos}:PE X (.Constant (.int i) j pos) (tC (.int i)):=fun _ _ _ H _ I h=>wpAny_Constant_int ⟨.int i,H,I.tok _,⟨_,rfl⟩,h⟩
theorem B7{b j pos}:PE X (.Constant (.bool b) j pos) (tC (.bl b)):=fun _ _ _ H _ I h=>Constant_bool ⟨.bl b,H,I,rfl,h⟩
theorem Dx{j pos}:PE X (.Constant .none j pos) (tC .non):=fun _ _ _ H _ I h=>Constant_none ⟨.non,H,I,rfl,h⟩
theorem Dw{x j pos}:PE X (.Constant (.str x) j pos) (tC (.str x)):=fun _ _ _ H _ I h=>Calls.Constant_str ⟨.str x,H,I.tok _,⟨_,rfl⟩,h⟩
def Gl(X:Cx)(x:Str):Prop:=X.env.kindOf x=some .globalImplicit
theorem lg{σ:St}{x:Str}(I:Inv X pins σ H s)(hg:Gl X x)(hm:X.mg x=some u)(h:Q u s)(hd:(x==("__debug__" : Str))=false:=by decide):wpAny (model X.prog X.w) X.A (eval (.Name x pos) X.env) Q E s :=
 Calls.Name_function_global I.ok.kind hg (Calls.loadGlobal_global (by rw[I.ok.glob];exact I.mod.glob.keeps I.bk) hm h) hd
theorem o8{σ:St}{x:Str}(I:Inv X pins σ H s)(hg:Gl X x)(hm:X.mg x=none)(hv:bootBuiltins x=some u)(h:Q u s)(hn:x ≠ "__name__" := by decide)(hd:(x==("__debug__" : Str))=false:=by decide):wpAny (model X.prog X.w) X.A (eval (.Name x pos) X.env) Q E s:=by obtain⟨mb,h1,h2⟩:=I.mod.blt;exact Calls.Name_function_global I.ok.kind hg (Calls.loadGlobal_builtin (by rw[I.ok.glob];exact I.mod.glob.keeps I.bk) hm (by rw[I.ok.blt];exact h1.keeps I.bk) ((h2 x hn).trans hv) h) hd
theorem sr{x:Str}(hg:Gl X x)(hm:X.mg x=some u)(r:RelV v u)(hd:(x==("__debug__" : Str))=false:=by decide):PE X (.Name x pos) (tC v) :=
 fun _ _ _ H _ I h=>lg I hg hm ⟨v,H,I,r,h⟩ hd
theorem xj{x:Str}(hg:Gl X x)(hm:X.mg x=none)(hv:bootBuiltins x=some u)(r:RelV v u)(hn:x ≠ "__name__" := by decide)(hd:(x==("__debug__" : Str))=false:=by decide):PE X (.Name x pos) (tC v) :=
 fun _ _ _ H _ I h=>o8 I hg hm hv ⟨v,H,I,r,h⟩ hn hd
variable {a b:Expr}
def PC(X:Cx)(op:CmpOp)(a b:Expr)(t:TE):Prop :=
 ∀(pins:List (Addr×Obj)) (s:Shared) (σ:St) (H:Hp) (Q:VK),Inv X pins σ H s->t σ H Q ->
  wpAny (model X.prog X.w) X.A (eval a X.env) (fun v s₁=>wpAny (model X.prog X.w) X.A (eval b X.env) (fun u s₂=>wpAny (model X.prog X.w) X.A (compareOp op v u) (EP X pins σ Q) X.xe s₂) X.xe s₁) X.xe s
theorem yj(b:Expr)(h:op≠.In)(h2:op≠.NotIn):behindInMarks op b=false:=by
 have e1:(op==CmpOp.In)=false:=by cases op<;>first|rfl|exact absurd rfl h
 have e2:(op==CmpOp.NotIn)=false:=by cases op<;>first|rfl|exact absurd rfl h2
 cases b<;>simp[behindInMarks,e1,e2]
def AK(ta:TE):TE:=fun σ H Q=>ta σ H fun x H1=>Q (.bl (decide (x=.non))) H1
def B6(ta:TE):TE:=fun σ H Q=>ta σ H fun x H1=>Q (.bl (!decide (x=.non))) H1
theorem RelV.none_iff{x:V}{v:Value}(r:RelV x v):(v==Value.none)=decide (x=.non):=by
 cases x with
 | non=>cases r;rfl
 | bl _=>cases r;rfl
 | int _=>obtain⟨t,rfl⟩:=r;rfl
 | str _=>obtain⟨t,rfl⟩:=r;rfl
 | byt _=>obtain⟨t,rfl⟩:=r;rfl
 | flt _=>obtain⟨t,rfl⟩:=r;rfl
 | ref _=>cases r;rfl
 | ty _=>cases r;rfl
theorem vM{j pos'}(ha:PE X a ta):PC X .Is a (.Constant .none j pos') (AK ta):=by intro pins s σ H Q I h;refine aN (ha pins s σ H _ I h) fun v s1 ⟨x,H1,I1,r1,q1⟩=>?_;exact Constant_none (is_none_gen ⟨.bl _,H1,I1,by rw[r1.none_iff];rfl,q1⟩)
theorem ER{j pos'}(ha:PE X a ta):PC X .IsNot a (.Constant .none j pos') (B6 ta):=by intro pins s σ H Q I h;refine aN (ha pins s σ H _ I h) fun v s1 ⟨x,H1,I1,r1,q1⟩=>?_;exact Constant_none (isnot_none_gen ⟨.bl _,H1,I1,by rw[r1.none_iff];rfl,q1⟩)
def tB(t:TE):TT:=fun σ H Q=>t σ H fun x H1=>∃c,x=.bl c/\Q c H1
theorem Dv{t:TE}(h:PC X op a b t)(h1:behindInMarks op b=false:=by first|exact yj _ (by decide) (by decide)|rfl):PE X (.Compare a [op] [b] pos) t:=fun pins s σ H Q I hw=>wpAny_Compare1 (h pins s σ H Q I hw) h1
theorem Du{t:TE}(h:PC X op a b t)(h1:behindInMarks op b=false:=by first|exact yj _ (by decide) (by decide)|rfl):PT X (.Compare a [op] [b] pos) (tB t):=by intro pins s σ H Q I hw;refine wpAny_isTrue_Compare1 (aN (h pins s σ H _ I hw) fun v s1 h1=>aN h1 fun u s2 h2=>aN h2 fun c s3 ⟨x,H1,I1,r1,q1⟩=>?_) h1;obtain⟨d,rfl,q⟩:=q1;cases r1;exact wpAny_truthy_bool ⟨H1,I1,q⟩
theorem Dt{t:TE}(h:PE X e t)(he:∀whole,isTrue e X.env whole=(do let v <- whole;standAt e.pos;holding [v] (truthy v)):=by intro _;rfl):PT X e (tB t):=by intro pins s σ H Q I hw;refine isTrue_plain (aN (h pins s σ H _ I hw) fun v s1 ⟨x,H1,I1,r1,q1⟩=>?_) (he _);obtain⟨d,rfl,q⟩:=q1;cases r1;exact wpAny_truthy_bool ⟨H1,I1,q⟩
variable {tA tB':TT} {rest:List Expr}
def AJ(t u:TT):TT:=fun σ H Q=>t σ H fun c H1=>if c=true then u σ H1 Q else Q false H1
def Jj(t u:TT):TT:=fun σ H Q=>t σ H fun c H1=>if c=true then Q true H1 else u σ H1 Q
def AI(t:TT):TT:=fun σ H Q=>t σ H fun c H1=>Q (!c) H1
theorem EO(ha:PT X a tA):PW X (.BoolOp .And [a] pos) tA:=by
 intro wh pins s σ H Q I h;refine isTrue_and (aN (ha pins s σ H Q I h) fun c s1 e=>?_);cases c with
 | true=>exact isTrue_and_nil e
 | false=>exact e
theorem Ds(ha:PT X a tA):PW X (.BoolOp .Or [a] pos) tA:=by
 intro wh pins s σ H Q I h;refine isTrue_or (aN (ha pins s σ H Q I h) fun c s1 e=>?_);cases c with
 | false=>exact isTrue_or_nil e
 | true=>exact e
theorem Dr(ha:PT X a tA)(hb:PW X (.BoolOp .And (b::rest) pos) tB'):PW X (.BoolOp .And (a::b::rest) pos) (AJ tA tB'):=by
 intro wh pins s σ H Q I h;refine isTrue_and (aN (ha pins s σ H _ I h) fun c s1 ⟨H1,I1,q1⟩=>?_);cases c with
 | true=>exact hb wh pins s1 σ H1 Q I1 q1
 | false=>exact⟨H1,I1,q1⟩
theorem B5(ha:PT X a tA)(hb:PW X (.BoolOp .Or (b::rest) pos) tB'):PW X (.BoolOp .Or (a::b::rest) pos) (Jj tA tB'):=by
 intro wh pins s σ H Q I h;refine isTrue_or (aN (ha pins s σ H _ I h) fun c s1 ⟨H1,I1,q1⟩=>?_);cases c with
 | true=>exact⟨H1,I1,q1⟩
 | false=>exact hb wh pins s1 σ H1 Q I1 q1
theorem Dq(ha:PT X a tA):PT X (.UnaryOp .Not a pos) (AI tA):=by intro pins s σ H Q I h;exact isTrue_not (ha pins s σ H (fun c H1=>Q (!c) H1) I h)
def B4(ta tb:TE):TE:=fun σ H Q=>ta σ H fun x H1=>∃c,x=.bl c/\if c=true then tb σ H1 Q else Q (.bl false) H1
def Ap(ta tb:TE):TE:=fun σ H Q=>ta σ H fun x H1=>∃c,x=.bl c/\if c=true then Q (.bl true) H1 else tb σ H1 Q
def B3(ta:TE):TE:=fun σ H Q=>ta σ H fun x H1=>∃c,x=.bl c/\Q (.bl (!c)) H1
theorem Dp{op}{t:TE}(h:PE X a t):PE X (.BoolOp op [a] pos) t:=fun pins s σ H Q I hw=>BoolOp_one (h pins s σ H Q I hw)
theorem Dn(ha:PE X a ta)(hb:PE X (.BoolOp .And (b::rest) pos) tb):PE X (.BoolOp .And (a::b::rest) pos) (B4 ta tb):=by
 intro pins s σ H Q I h;refine BoolOp_and (aN (ha pins s σ H _ I h) fun v s1 ⟨x,H1,I1,r1,q1⟩=>?_);obtain⟨c,rfl,q1⟩:=q1;cases r1;refine wpAny_truthy_bool ?_;cases c with
 | true=>exact hb pins s1 σ H1 Q I1 q1
 | false=>exact⟨.bl false,H1,I1,rfl,q1⟩
theorem B2(ha:PE X a ta)(hb:PE X (.BoolOp .Or (b::rest) pos) tb):PE X (.BoolOp .Or (a::b::rest) pos) (Ap ta tb):=by
 intro pins s σ H Q I h;refine BoolOp_or (aN (ha pins s σ H _ I h) fun v s1 ⟨x,H1,I1,r1,q1⟩=>?_);obtain⟨c,rfl,q1⟩:=q1;cases r1;refine wpAny_truthy_bool ?_;cases c with
 | false=>exact hb pins s1 σ H1 Q I1 q1
 | true=>exact⟨.bl true,H1,I1,rfl,q1⟩
theorem Dm(ha:PE X a ta):PE X (.UnaryOp .Not a pos) (B3 ta):=by intro pins s σ H Q I h;refine UnaryOp_ (aN (ha pins s σ H _ I h) fun v s1 ⟨x,H1,I1,r1,q1⟩=>?_);obtain⟨c,rfl,q1⟩:=q1;cases r1;exact not_of (wpAny_truthy_bool ⟨.bl (!c),H1,I1,rfl,q1⟩)
def Jk(t:TT)(ta tb:TE):TE:=fun σ H Q=>t σ H fun c H1=>if c=true then ta σ H1 Q else tb σ H1 Q
theorem Gs(hc:PT X c tA)(ha:PE X a ta)(hb:PE X b tb):PE X (.IfExp c a b pos) (Jk tA ta tb):=by
 intro pins s σ H Q I h;refine wpAny_IfExp (aN (hc pins s σ H _ I h) fun d s1 ⟨H1,I1,q1⟩=>?_);cases d with
 | true=>exact ha pins s1 σ H1 Q I1 q1
 | false=>exact hb pins s1 σ H1 Q I1 q1
end
def cL(K:Frag)(H:Hp)(a:Addr)(xs:List V):Prop :=
 Rd H a (.lst xs) \/
  ∃(o:Obj) (its:Array Value) (n:Nat),K.lookup a=some o/\o.cls=.type "list" /\ o.dict=none/\o.data=.seq its n/\its.size<=sizeLine/\Vals xs its.toList
def eG(K:Frag)(H:Hp)(a:Addr)(xs:List V):Prop :=
 Rd H a (.tup xs) \/
  ∃(o:Obj) (its:Array Value) (n:Nat),K.lookup a=some o/\o.cls=.type "tuple" /\ o.data=.seq its n/\its.size<=sizeLine/\Vals xs its.toList
def Ao:Value->Option V
 | .none=>some .non
 | .bool b=>some (.bl b)
 | .int i _=>some (.int i)
 | .str x _=>some (.str x)
 | .bytes b _=>some (.byt b)
 | .float b _=>some (.flt b)
 | .ref a=>some (.ref a)
 | .type n=>some (.ty n)
 | _=>none
theorem RelV.abs{x:V}(r:RelV x u):Ao u=some x:=by
 cases x with
 | non=>cases r;rfl
 | bl _=>cases r;rfl
 | int _=>obtain⟨t,rfl⟩:=r;rfl
 | str _=>obtain⟨t,rfl⟩:=r;rfl
 | byt _=>obtain⟨t,rfl⟩:=r;rfl
 | flt _=>obtain⟨t,rfl⟩:=r;rfl
 | ref _=>cases r;rfl
 | ty _=>cases r;rfl
theorem RelV.inj{x y:V}{u:Value}(r:RelV x u)(q:RelV y u):x=y:=Option.some.inj (r.abs.symm.trans q.abs)
theorem Vals.inj:∀{xs ys:List V} {us:List Value},Vals xs us->Vals ys us->xs=ys
 | _,_,_,.nil,.nil=>rfl
 | _,_,_,.cons r t,.cons r' t'=>by rw[r.inj r',Vals.inj t t']
variable {xs:List V}
section
variable {σ:St} {ys:List V}
theorem Inv.list(I:Inv X pins σ H s)(h:cL X.K H a xs):∃its:List Value,Vals xs its/\PlainL s.heap a its.toArray/\xs.length<=sizeLine:=by
 rcases h with h|⟨o,its,n,hk,hc,hd,hs,hz,r⟩
 ·obtain⟨z,its,n,r,e⟩:=h.ok I.hok;exact⟨its,r,⟨_,n,e,rfl,rfl,rfl⟩,z⟩
 ·refine⟨its.toList,r,⟨o,n,I.kIn a o hk,hc,hd,by simpa using hs⟩,?_⟩;have e:=r.length;simp only[length_toList] at e;omega
theorem Inv.tuple(I:Inv X pins σ H s)(h:eG X.K H a xs):∃its:List Value,Vals xs its/\IsTup s.heap a its.toArray/\xs.length<=sizeLine:=by
 rcases h with h|⟨o,its,n,hk,hc,hs,hz,r⟩
 ·obtain⟨z,its,r,p⟩:=h.ok I.hok;exact⟨its,r,p.isTup,z⟩
 ·refine⟨its.toList,r,⟨o,I.kIn a o hk,hc,n,by simpa using hs⟩,?_⟩;have e:=r.length;simp only[length_toList] at e;omega
theorem Inv.list_inj(I:Inv X pins σ H s)(h:cL X.K H a xs)(h':cL X.K H a ys):xs=ys:=by
 obtain⟨its,r,⟨o,n,e,_,_,d⟩,_⟩:=I.list h;obtain⟨its',r',⟨o',n',e',_,_,d'⟩,_⟩:=I.list h';rw[e] at e';cases e';rw[d] at d';injection d' with d1 _;have:its=its':=by simpa using congrArg Array.toList d1
 subst this;exact r.inj r'
theorem Inv.tuple_inj(I:Inv X pins σ H s)(h:eG X.K H a xs)(h':eG X.K H a ys):xs=ys:=by
 obtain⟨its,r,⟨o,e,_,n,d⟩,_⟩:=I.tuple h;obtain⟨its',r',⟨o',e',_,n',d'⟩,_⟩:=I.tuple h';rw[e] at e';cases e';rw[d] at d';injection d' with d1 _;have:its=its':=by simpa using congrArg Array.toList d1
 subst this;exact r.inj r'
end
abbrev Cx.wish(X:Cx)(E:Value->Shared->Prop):Cx:={ X with xe:=E }
abbrev Cx.nox(X:Cx):Cx:=X.wish fun _ _=>False
theorem Cx.Ok.wish(ok:X.Ok)(E:Value->Shared->Prop):(X.wish E).Ok :=
 ⟨ok.mod,ok.kind,ok.glob,ok.blt,ok.above,ok.inj,ok.has,ok.cab,ok.hd,ok.frames,ok.stk,ok.exf,ok.bs,ok.bsz,ok.noex,ok.exfs,ok.funs,ok.frf⟩
theorem Cx.Ok.unwish(ok:(X.wish E).Ok):X.Ok :=
 ⟨ok.mod,ok.kind,ok.glob,ok.blt,ok.above,ok.inj,ok.has,ok.cab,ok.hd,ok.frames,ok.stk,ok.exf,ok.bs,ok.bsz,ok.noex,ok.exfs,ok.funs,ok.frf⟩
section
variable {σ:St}
theorem Inv.wish(I:Inv X pins σ H s)(E:Value->Shared->Prop):Inv (X.wish E) pins σ H s:=⟨I.ok.wish E,I.os,I.bare,I.base,I.loc,I.cell,I.free,I.freeC,I.pin,I.hok,I.len⟩
theorem Inv.unwish(I:Inv (X.wish E) pins σ H s):Inv X pins σ H s:=⟨I.ok.unwish,I.os,I.bare,I.base,I.loc,I.cell,I.free,I.freeC,I.pin,I.hok,I.len⟩
end
variable {te:TE} {tc:TT}
section
variable {st:Stmt} {rest:List Stmt} {t u:TS}
def B1:TS:=fun D σ H=>D.nx σ H
def An(t u:TS):TS:=fun D σ H=>t { D with nx:=u D } σ H
theorem EN:PSs X [] B1:=fun _ _ σ H _ I h=>wpAny_execs_nil ⟨σ,H,I,h⟩
theorem yi(h1:PS X st t)(h2:PSs X rest u):PSs X (st::rest) (An t u):=by
 intro pins s σ H D I h;refine wpAny_execs_cons (aN (h1 pins s σ H { D with nx:=u D } I h) fun f s1 q=>?_);cases f with
 | next =>
  obtain⟨σ',H',I',q⟩:=q;exact h2 pins s1 σ' H' D I' q
 | ret v=>exact q
 | brk=>exact q
 | cont=>exact q
theorem xh(h1:PS X st t):PSs X [st] t:=by
 intro pins s σ H D I h;refine wpAny_execs_cons (aN (h1 pins s σ H D I h) fun f s1 q=>?_);cases f with
 | next=>exact wpAny_execs_nil q
 | ret v=>exact q
 | brk=>exact q
 | cont=>exact q
theorem Inv.quiet{σ:St}(I:Inv X pins σ H s):interactive X.env=false:=by simp[interactive,I.ok.kind]
def B0(te:TE):TS:=fun D σ H=>te σ H fun _ H1=>D.nx σ H1
theorem xg(he:PE X e te)(hs:swapsWith e none pos.line X.env=pure false:=by rfl):PS X (.Expr e pos) (B0 te):=by intro pins s σ H D I h;exact wpAny_Expr_any (aN (he pins s σ H _ I h) fun v s1 ⟨x,H1,I1,r1,q1⟩=>⟨σ,H1,I1,q1⟩) I.quiet hs
def Am(te:TE):TS:=fun D σ H=>te σ H D.rt
theorem Dl(he:PE X e te):PS X (.Return (some e) pos) (Am te):=by intro pins s σ H D I h;exact wpAny_Return_some (aN (he pins s σ H _ I h) fun v s1 ⟨x,H1,I1,r1,q1⟩=>⟨x,σ,H1,I1,r1,q1⟩)
def Al(c:TT)(t u:TS):TS:=fun D σ H=>c σ H fun b H1=>if b=true then t D σ H1 else u D σ H1
theorem A9{a b:List Stmt}(hc:PT X c tc)(ha:PSs X a t)(hb:PSs X b u):PS X (.If c a b pos) (Al tc t u):=by
 intro pins s σ H D I h;refine wpAny_If (aN (hc pins s σ H _ I h) fun d s1 ⟨H1,I1,q1⟩=>?_);cases d with
 | true=>exact ha pins s1 σ H1 D I1 q1
 | false=>exact hb pins s1 σ H1 D I1 q1
end
abbrev TG:=V->St->Hp->(St->Hp->Prop)->Prop
abbrev kC:=List V->St->Hp->(St->Hp->Prop)->Prop
def PG(X:Cx)(target:Expr)(t:TG):Prop :=
 ∀(pins:List (Addr×Obj)) (s:Shared) (σ:St) (H:Hp) (v:V) (u:Value) (Q:St->Hp->Prop),Inv X pins σ H s->RelV v u->t v σ H Q ->
  wpAny (model X.prog X.w) X.A (assign target X.env u) (fun _ s'=>∃σ' H',Inv X pins σ' H' s'/\Q σ' H') X.xe s
def PGs(X:Cx)(ts:List Expr)(t:kC):Prop :=
 ∀(pins:List (Addr×Obj)) (s:Shared) (σ:St) (H:Hp) (vs:List V) (us:List Value) (Q:St->Hp->Prop),Inv X pins σ H s->Vals vs us->t vs σ H Q ->
  wpAny (model X.prog X.w) X.A (assignInOrder ((assignEach ts X.env).map (·.2)) us) (fun _ s'=>∃σ' H',Inv X pins σ' H' s'/\Q σ' H') X.xe s
abbrev qx:=V->V->V->Hp->(Hp->Prop)->Prop
def uK(X:Cx)(t:qx):Prop :=
 ∀(pins:List (Addr×Obj)) (s:Shared) (σ:St) (H:Hp) (o i v:V) (ov iv u:Value) (Q:Hp->Prop),Inv X pins σ H s->RelV o ov->RelV i iv->RelV v u->t o i v H Q ->
  wpAny (model X.prog X.w) X.A (setItem ov iv u) (fun _ s'=>∃H',Inv X pins σ H' s'/\Q H') X.xe s
variable {es:List Expr} {k n:Nat} {tg:Expr} {pos':Pos}
def gJ(i:Nat):TG:=fun v σ H Q=>Q (σ.set i (some v)) H
theorem sm{x:Str}(hN:X.N.Nodup)(hi:X.N[i]?=some x)(hx:Loc X.env.scope x)(hf:X.fn x=true\/X.env.scope.names.lookup x=some .local:=by first|exact .inl rfl|exact .inr rfl|assumption):PG X (.Name x pos) (gJ i):=by intro pins s σ H v u Q I r h;exact wpAny_assign_Name (pM I hN hi hx r (fun s' I'=>⟨_,H,I',h⟩) hf)
def Ak:kC:=fun vs σ H Q=>vs=[]/\Q σ H
def A8(t:TG)(u:kC):kC:=fun vs σ H Q=>∃v r,vs=v::r/\t v σ H fun σ' H'=>u r σ' H' Q
theorem E4:PGs X [] Ak:=by intro pins s σ H vs us Q I r h;obtain⟨e,h⟩:=h;subst e;cases r;exact assignInOrder_nil ⟨σ,H,I,h⟩
theorem Gr{t:TG}{u:kC}(h1:PG X e t)(h2:PGs X es u)(hs:(assignEach (e::es) X.env).map (·.2)=assign e X.env::(assignEach es X.env).map (·.2):=by rfl):PGs X (e::es) (A8 t u):=by
 intro pins s σ H vs us Q I r h;obtain⟨v,vr,e1,h⟩:=h;subst e1;cases r with
 | cons r rr =>
  rw[hs];refine assignInOrder_cons (aN (h1 pins s σ H _ _ _ I r h) fun _ s1 ⟨σ1,H1,I1,q1⟩=>?_);exact h2 pins s1 σ1 H1 _ _ Q I1 rr q1
def Aj(K:Frag)(n:Nat)(t:kC):TG:=fun v σ H Q=>∃a xs,v=.ref a/\eG K H a xs/\xs.length=n/\t xs σ H Q
theorem Dk{t:kC}(hc:X.calm=true)(h:PGs X es t)(hn:(assignEach es X.env).length=n:=by rfl)(hst:(assignEach es X.env).findIdx? (·.1)=none:=by rfl):PG X (.Tuple es k pos) (Aj X.K n t):=by intro pins s σ H v u Q I r hw;obtain⟨a,xs,e1,hq,hl,hw⟩:=hw;subst e1;cases r;obtain⟨its,rv,ht,hz⟩:=I.tuple hq;refine assign_Tuple_tuple (I.ok.hd hc) ht (by simp[hn,<- hl,rv.length]) hst fun h' hx=>?_;have I1:Inv X pins σ H { s with heap:=h' }:=I.kept (t':=s.toks) fun b o e=>hx b o (ne_of_lt (Heap.lt_size e)) e;exact h pins _ σ H xs _ Q I1 (by simpa using rv) hw
def Ai(to ti:TE)(t:qx):TG:=fun v σ H Q=>to σ H fun o H1=>ti σ H1 fun i H2=>t o i v H2 fun H3=>Q σ H3
theorem Dj{o i:Expr}{to ti:TE}{t:qx}(ho:PE X o to)(hi:PE X i ti)(hs:uK X t)(ha:∀v,assign (.Subscript o i pos) X.env v=(do
   let ov <- holding [v] (eval o X.env)
   let iv <- holding [v,ov] (eval i X.env)
   standAt pos
   holding [v,ov,iv] (setItem ov iv v)
   release [v,ov,iv] []):=by intro _;rfl):PG X (.Subscript o i pos) (Ai to ti t):=by
 intro pins s σ H v u Q I r h;rw[ha];refine wpAny_bind (wpAny_holding (aN (ho pins s σ H _ I h) fun ov s1 ⟨x,H1,I1,r1,q1⟩=>?_));refine wpAny_bind (wpAny_holding (aN (hi pins s1 σ H1 _ I1 q1) fun iv s2 ⟨y,H2,I2,r2,q2⟩=>?_));refine wpAny_bind (wpAny_standAt (wpAny_bind (wpAny_holding (aN (hs pins s2 σ H2 x y v ov iv u _ I2 r1 r2 r q2) fun _ s3 ⟨H3,I3,q3⟩=>?_))));exact wpAny_release ⟨σ,H3,I3,q3⟩
def qw(te:TE)(g:TG):TS:=fun D σ H=>te σ H fun x H1=>g x σ H1 D.nx
theorem DN{g:TG}(he:PE X e te)(hg:PG X tg g)(hs:swapsWithSole [tg] e pos.line X.env=pure false:=by rfl)(hw:swappedStores [tg] e X.env=pure none:=by rfl)(h1:(assignEach [tg] X.env).map (·.2)=[assign tg X.env]:=by rfl):PS X (.Assign [tg] e pos) (qw te g):=by intro pins s σ H D I h;refine wpAny_Assign_stores (aN (he pins s σ H _ I h) fun v s1 ⟨x,H1,I1,r1,q1⟩=>?_) hs hw;rw[h1];exact aN (hg pins s1 σ H1 x v _ I1 r1 q1) fun _ s2 q=>q
theorem DM{x:Str}(hN:X.N.Nodup)(hi:X.N[i]?=some x)(hx:Loc X.env.scope x)(he:PE X e te)(hs:swapsWith e (some (.Name x pos')) pos.line X.env=pure false:=by rfl)(hf:X.fn x=true\/X.env.scope.names.lookup x=some .local:=by first|exact .inl rfl|exact .inr rfl|assumption) :
  PS X (.Assign [.Name x pos'] e pos) (qw te (gJ i)):=by
 intro pins s σ H D I h;refine wpAny_Assign_Name (aN (he pins s σ H _ I h) fun v s1 ⟨y,H1,I1,r1,q1⟩=>?_) hs;exact pM I1 hN hi hx r1 (fun s2 I2=>⟨_,H1,I2,q1⟩) hf
variable {body:List Stmt}
def DL(c:TT)(tb:TS):TS:=fun D σ H=>∃W:Nat->St->Hp->Prop,(∃m,W m σ H)/\∀m σ H,W m σ H ->
 c σ H fun b H1=>if b=true then ∃N:St->Hp->Prop,(∀σ' H',N σ' H'->∃m',m'<m/\W m' σ' H')/\tb { D with nx:=N,ct:=N,bk:=D.nx } σ H1 else D.nx σ H1
theorem Gq{tb:TS}(hp:PassesOwn (model X.prog X.w) X.A X.env X.xe)(hc:PT X c tc)(hb:PSs X body tb):PS X (.While c body [] pos) (DL tc tb):=by
 intro pins s σ H D I h;obtain⟨W,⟨m0,w0⟩,turn⟩:=h;refine wpAny_While (codeAny_whileLoop (fun n s'=>∃σ' H',Inv X pins σ' H' s'/\W n σ' H') ?_ m0 ⟨σ,H,I,w0⟩);rintro n s1 ⟨σ1,H1,I1,w1⟩;refine wpAny_passesOwn hp (aN (hc pins s1 σ1 H1 _ I1 (turn n σ1 H1 w1)) fun b s2 ⟨H2,I2,q2⟩=>?_);cases b with
 | true =>
  obtain⟨N,hN,q2⟩:=q2;rw[if_pos rfl];refine wpAny_passesOwn hp (aN (hb pins s2 σ1 H2 _ I2 q2) fun f s3 q3=>?_);cases f with
  | next =>
   obtain⟨σ3,H3,I3,n3⟩:=q3;obtain⟨m',hm,w3⟩:=hN σ3 H3 n3;exact⟨m',hm,σ3,H3,I3,w3⟩
  | cont =>
   obtain⟨σ3,H3,I3,n3⟩:=q3;obtain⟨m',hm,w3⟩:=hN σ3 H3 n3;exact⟨m',hm,σ3,H3,I3,w3⟩
  | brk=>exact q3
  | ret v=>exact q3
 | false =>
  rw[if_neg Bool.false_ne_true];exact wpAny_execs_nil ⟨σ1,H2,I2,q2⟩
structure It where
 go:Nat->Hp->Prop
 yld:Nat->Hp->V->Hp->Prop
 stop:Nat->Hp->Prop
def kc(X:Cx)(pins:List (Addr×Obj))(H:Hp)(b:Addr):Prop :=
 H b=none/\b≠X.env.locals/\b∉X.fs/\(b∈X.ex\/X.s₀.heap.objs.size<=b)/\(∀x c,X.env.cells.lookup x=some c->c≠b)/\∀p∈X.pn++pins,p.1≠b
theorem Inv.fpOk{σ:St}(I:Inv X pins σ H s)(hb:s.heap.objs.size<=b)(hn:H' b=none):kc X pins H' b:=by
 refine⟨hn,ne_of_gt (lt_of_lt_of_le I.lt hb),I.nofs hb,.inr (le_trans I.sz hb),fun x c e z=>?_,fun p hp z=>?_⟩
 ·obtain⟨v,q⟩:=I.cell x c e;exact absurd (lt_of_lt_of_le q.lt (by rw[z];exact hb)) (lt_irrefl _)
 ·exact absurd (lt_of_lt_of_le (Heap.lt_size (I.pin p hp).1) (by rw[z];exact hb)) (lt_irrefl _)
structure Turn (P:Program) (w:World) (K:Frag) (tg:Expr) (J:It) (fp:List Addr) (it:Addr) (tn:Nat->Heap->Prop):Prop where
 mem:it∈fp
 obj:∀i h,tn i h->∀b∈fp,∃o,h.get? b=some o/\∀v,o.data≠.cell v
 keep:∀i h h',tn i h->(∀b∈fp,∀o,h.get? b=some o->h'.get? b=some o)->tn i h'
 item:∀(X:Cx),X.prog=P->X.w=w->X.K=K->X.calm=true->∀(i:Nat) (pins:List (Addr×Obj)) (s:Shared) (σ:St) (H:Hp) (E:Value->Shared->Prop),Inv X pins σ H s->(∀b∈fp,kc X pins H b)->tn i s.heap->J.go i H ->
  wpAny (model P w) X.A (pyNext (.ref it)) (fun r s1=>∃u,r=some u /\
   wpAny (model P w) X.A (letOwnedTupleGo tg (.ref it) u) (fun _ s2=>∃x H',Inv X pins σ H' s2/\RelV x u/\J.yld i H x H'/\tn (i+1) s2.heap/\∀b∈fp,H' b=none) E s1) E s
 done:∀(X:Cx),X.prog=P->X.w=w->X.K=K->X.calm=true->∀(i:Nat) (pins:List (Addr×Obj)) (s:Shared) (σ:St) (H:Hp) (E:Value->Shared->Prop),Inv X pins σ H s->(∀b∈fp,kc X pins H b)->tn i s.heap->J.stop i H ->
  wpAny (model P w) X.A (pyNext (.ref it)) (fun r s1=>r=none/\Inv X pins σ H s1) E s
 self:∀(A:Around) (i:Nat) (s:Shared) (Q:Value->Shared->Prop) (E:Value->Shared->Prop),tn i s.heap->Q (.ref it) s->wpAny (model P w) A (pyIter (.ref it)) Q E s
abbrev TI:=St->Hp->(It->Hp->Prop)->Prop
def zY(X:Cx)(pins:List (Addr×Obj))(σ:St)(tg:Expr)(R:It->Hp->Prop)(itv:Value)(s2:Shared):Prop :=
 ∃(it:Addr) (fp:List Addr) (tn:Nat->Heap->Prop) (J:It) (H':Hp),itv=.ref it/\Inv X pins σ H' s2/\Turn X.prog X.w X.K tg J fp it tn/\tn 0 s2.heap/\(∀b∈fp,kc X pins H' b)/\R J H'
def PI(X:Cx)(tg iter:Expr)(wi:TI):Prop :=
 ∀(pins:List (Addr×Obj)) (s:Shared) (σ:St) (H:Hp) (R:It->Hp->Prop),Inv X pins σ H s->wi σ H R ->
  wpAny (model X.prog X.w) X.A (eval iter X.env) (fun v s1=>wpAny (model X.prog X.w) X.A (pyIter v) (zY X pins σ tg R) X.xe s1) X.xe s
theorem oY{M:Model}{o:Obj}{n:String}{vs:Array Value}{Q:Unit->Shared->Prop}(ho:s.heap.get? it=some o)(hc:o.cls=.type n)(hd:o.data=.fields vs)(hn:["enumerate", "zip", "dict_itemiterator", "dict_reverseitemiterator", "odict_iterator", "itertools.zip_longest", "itertools.pairwise"].contains n=false)(hQ:Q () s):wpAny M A (letOwnedTupleGo tg (.ref it) u) Q E s:=by
 unfold letOwnedTupleGo;cases tg<;>first
  | exact wpAny_pure hQ
  | (cases u<;>first
    | exact wpAny_pure hQ
    | (refine wpAny_bind (wpAny_load ho ?_)
       rw[hc,hd];show wpAny M A (if (["enumerate", "zip", "dict_itemiterator", "dict_reverseitemiterator", "odict_iterator", "itertools.zip_longest", "itertools.pairwise"].contains n&&vs[0]?==some (rawInt _))=true then _ else _) Q E s;rw[if_neg (by intro h;rw[hn,Bool.false_and] at h;cases h)];exact wpAny_pure hQ))
def lI(K:Frag)(a:Addr):It :=
 ⟨fun i H=>∃xs x,cL K H a xs/\xs[i]?=some x,fun i H x H'=>H'=H/\∀xs,cL K H a xs->xs[i]?=some x,fun i H=>∃xs,cL K H a xs/\xs.length<=i⟩
def uC(K:Frag)(a:Addr):It :=
 ⟨fun i H=>∃xs x,eG K H a xs/\xs[i]?=some x,fun i H x H'=>H'=H/\∀xs,eG K H a xs->xs[i]?=some x,fun i H=>∃xs,eG K H a xs/\xs.length<=i⟩
def ql(lo:Int)(n:Nat):It:=⟨fun i _=>i<n,fun i H x H'=>H'=H/\x=.int (lo+i),fun i _=>n<=i⟩
variable {K:Frag}
theorem HC(a it:Addr):Turn P w K tg (lI K a) [it] it (fun i h=>h.IsListIter it a i) where
 mem:=by simp
 obj:=fun i h st b hb=>by
  have e:b=it:=by simpa using hb
  subst e;obtain⟨o,e,c,d⟩:=st;exact⟨o,e,fun v z=>by rw[d] at z;cases z⟩
 keep:=fun i h h' st k=>st.at fun o e=>k it (by simp) o e
 item:=by intro X hP hw hK hc i pins s σ H E I hf st hg;subst hP hw hK;obtain⟨xs,x,hq,hx⟩:=hg;obtain⟨its,rv,p,hz⟩:=I.list hq;obtain⟨u,hu,ru⟩:=rv.get hx;obtain⟨f0,f1,f2,f3,f4,f5⟩:=hf it (by simp);refine wpAny_pyNext_list_item st p.isList (x:=u) (by simpa using hu) fun h' st' sb=>?_;have I1:Inv X pins σ H { s with heap:=h' }:=I.turned (t':=s.toks) (fun b o hb e=>(sb.2 b hb).trans e) f0 f1 f3 f4 f5;obtain⟨o,e,c,d⟩:=id st';exact⟨u,rfl,oY (s:={ s with heap:=h' }) e c d (by decide) ⟨x,H,I1,ru,⟨rfl,fun ys hy=>by rw[I.list_inj hy hq];exact hx⟩,st',fun b hb=>(hf b hb).1⟩⟩
 done:=by
  intro X hP hw hK hc i pins s σ H E I hf st hg;subst hP hw hK;obtain⟨xs,hq,hx⟩:=hg;obtain⟨its,rv,p,hz⟩:=I.list hq;obtain⟨f0,f1,f2,f3,f4,f5⟩:=hf it (by simp);have hl:=rv.length;exact wpAny_pyNext_list_end (I.ok.hd hc) st p.isList (by simp;omega) fun h' eb=>⟨rfl,I.turned (t':=s.toks) (fun b o hb e=>eb b o hb e) f0 f1 f3 f4 f5⟩
 self:=fun _ _ _ _ _ st h=>wpAny_pyIter_listiter st h
theorem HU(a it:Addr):Turn P w K tg (uC K a) [it] it (fun i h=>h.IsTupleIter it a i) where
 mem:=by simp
 obj:=fun i h st b hb=>by
  have e:b=it:=by simpa using hb
  subst e;obtain⟨o,e,c,d⟩:=st;exact⟨o,e,fun v z=>by rw[d] at z;cases z⟩
 keep:=fun i h h' st k=>st.at fun o e=>k it (by simp) o e
 item:=by intro X hP hw hK hc i pins s σ H E I hf st hg;subst hP hw hK;obtain⟨xs,x,hq,hx⟩:=hg;obtain⟨its,rv,p,hz⟩:=I.tuple hq;obtain⟨u,hu,ru⟩:=rv.get hx;obtain⟨f0,f1,f2,f3,f4,f5⟩:=hf it (by simp);refine wpAny_pyNext_tuple_item st (show s.heap.IsTuple a its.toArray from p) (x:=u) (by simpa using hu) fun h' st' sb=>?_;have I1:Inv X pins σ H { s with heap:=h' }:=I.turned (t':=s.toks) (fun b o hb e=>(sb.2 b hb).trans e) f0 f1 f3 f4 f5;obtain⟨o,e,c,d⟩:=id st';exact⟨u,rfl,oY (s:={ s with heap:=h' }) e c d (by decide) ⟨x,H,I1,ru,⟨rfl,fun ys hy=>by rw[I.tuple_inj hy hq];exact hx⟩,st',fun b hb=>(hf b hb).1⟩⟩
 done:=by
  intro X hP hw hK hc i pins s σ H E I hf st hg;subst hP hw hK;obtain⟨xs,hq,hx⟩:=hg;obtain⟨its,rv,p,hz⟩:=I.tuple hq;obtain⟨f0,f1,f2,f3,f4,f5⟩:=hf it (by simp);have hl:=rv.length;exact wpAny_pyNext_tuple_end (I.ok.hd hc) st (show s.heap.IsTuple a its.toArray from p) (by simp;omega) fun h' eb=>⟨rfl,I.turned (t':=s.toks) (fun b o hb e=>eb b o hb e) f0 f1 f3 f4 f5⟩
 self:=fun _ _ _ _ _ st h=>wpAny_pyIter_tupleiter st h
theorem HS(it:Addr)(lo:Int)(n:Nat):Turn P w K tg (ql lo n) [it] it (fun i h=>IsRangeIter h it (lo+(i:Nat)*1) ((n:Int)-(i:Nat)) 1) where
 mem:=by simp
 obj:=fun i h st b hb=>by
  have e:b=it:=by simpa using hb
  subst e;exact⟨_,st,fun v z=>by
   have z':Data.fields _=Data.cell v:=z;cases z'⟩
 keep:=fun i h h' st k=>k it (by simp) _ st
 item:=by intro X hP hw hK hc i pins s σ H E I hf st hg;subst hP hw hK;obtain⟨f0,f1,f2,f3,f4,f5⟩:=hf it (by simp);have W:=Walks.range (prog:=X.prog) (w:=X.w) (I.ok.hd hc) it lo 1 n;refine W.item i s _ _ hg st fun v h' tk hv st' kk=>?_;obtain⟨t,rfl⟩:=hv;have I1:Inv X pins σ H { s with heap:=h',toks:=tk }:=I.turned (fun b o hb e=>kk b o (by simpa using hb) e) f0 f1 f3 f4 f5;refine⟨_,rfl,oY (s:={ s with heap:=h',toks:=tk }) (n := "range_iterator") st' rfl rfl (by decide) ⟨.int (lo+i),H,I1,⟨t,?_⟩,⟨rfl,rfl⟩,st',fun b hb=>(hf b hb).1⟩⟩;rw[mul_one]
 done:=by
  intro X hP hw hK hc i pins s σ H E I hf st hg;subst hP hw hK;obtain⟨f0,f1,f2,f3,f4,f5⟩:=hf it (by simp);exact wpAny_pyNext_range_end (I.ok.hd hc) st (by have:n<=i:=hg;omega) fun h' eb=>⟨rfl,I.turned (t':=s.toks) (fun b o hb e=>eb b o hb e) f0 f1 f3 f4 f5⟩
 self:=fun _ _ _ _ _ st h=>wpAny_pyIter_rangeiter st h
variable {l:Expr} {tl:TE} {p:Pos} {fp:List Addr}
def A7(K:Frag)(tl:TE):TI:=fun σ H R=>tl σ H fun x H1=>∃a,x=.ref a/\(∃xs,cL K H1 a xs)/\R (lI K a) H1
def Ah(K:Frag)(tl:TE):TI:=fun σ H R=>tl σ H fun x H1=>∃a,x=.ref a/\(∃xs,eG K H1 a xs)/\R (uC K a) H1
theorem E3(hl:PE X l tl):PI X tg l (A7 X.K tl):=by
 intro pins s σ H R I h;refine aN (hl pins s σ H _ I h) fun v s1 ⟨x,H1,I1,r1,q1⟩=>?_;obtain⟨a,e,⟨xs,hq⟩,q⟩:=q1;subst e;cases r1;obtain⟨its,rv,p,hz⟩:=I1.list hq;refine wpAny_pyIter_list p.isList ?_;refine⟨s1.heap.objs.size,[s1.heap.objs.size],_,_,H1,rfl,I1.kept (t':=s1.toks) fun b o e=>Heap.get?_push_of_some _ e,HC a _,⟨_,Heap.get?_push_size _ rfl,rfl,rfl⟩,fun b hb=>?_,q⟩;have e:b=s1.heap.objs.size:=by simpa using hb
 subst e;exact I1.fpOk (le_refl _) (I1.hok.fresh (le_refl _))
theorem DK(hl:PE X l tl):PI X tg l (Ah X.K tl):=by
 intro pins s σ H R I h;refine aN (hl pins s σ H _ I h) fun v s1 ⟨x,H1,I1,r1,q1⟩=>?_;obtain⟨a,e,⟨xs,hq⟩,q⟩:=q1;subst e;cases r1;obtain⟨its,rv,p,hz⟩:=I1.tuple hq;refine wpAny_pyIter_tuple (show s1.heap.IsTuple a its.toArray from p) ?_;refine⟨s1.heap.objs.size,[s1.heap.objs.size],_,_,H1,rfl,I1.kept (t':=s1.toks) fun b o e=>Heap.get?_push_of_some _ e,HU a _,⟨_,Heap.get?_push_size _ rfl,rfl,rfl⟩,fun b hb=>?_,q⟩;have e:b=s1.heap.objs.size:=by simpa using hb
 subst e;exact I1.fpOk (le_refl _) (I1.hok.fresh (le_refl _))
theorem GN{σ:St}{R:It->Hp->Prop}{lo hi:Int}{t u v:Tok}{tk:Nat}(I:Inv X pins σ H s)(h1:-(2 ^ 62)<=lo)(h2:lo<2 ^ 62)(h3:-(2 ^ 62)<=hi)(h4:hi<2 ^ 62)(q:R (ql lo (hi-lo).toNat) H):wpAny (model X.prog X.w) X.A (pyIter (.ref s.heap.objs.size)) (zY X pins σ tg R) E { s with heap:=s.heap.push { cls:=.type "range",data:=.fields #[.int lo t,.int hi u,.int 1 v] },toks:=tk }:=by
 refine wpAny_pyIter_range (IsRange.new ..) (small_one h1 h2 h3 h4) ?_;have I1:Inv X pins σ H { s with heap:=s.heap.push { cls:=.type "range",data:=.fields #[.int lo t,.int hi u,.int 1 v] },toks:=tk }:=I.kept fun b o e=>Heap.get?_push_of_some _ e;refine⟨(s.heap.push { cls:=.type "range",data:=.fields #[.int lo t,.int hi u,.int 1 v] }).objs.size,[(s.heap.push { cls:=.type "range",data:=.fields #[.int lo t,.int hi u,.int 1 v] }).objs.size],_,_,H,rfl,
  I1.kept (t':=tk) fun b o e=>Heap.get?_push_of_some _ e,HS _ lo (hi-lo).toNat,?_,fun b hb=>?_,q⟩
 ·have e1:lo+((0:Nat):Int)*1=lo:=by simp
  have e2:(((hi-lo).toNat:Nat):Int)-((0:Nat):Int)=Builtin.Range.rangeSize lo hi 1:=by rw[rangeSize_one];split<;>omega
  show IsRangeIter _ _ (lo+((0:Nat):Int)*1) ((((hi-lo).toNat:Nat):Int)-((0:Nat):Int)) 1;rw[e1,e2];exact Heap.get?_push_size _ rfl
 ·have e:b=(s.heap.push { cls:=.type "range",data:=.fields #[.int lo t,.int hi u,.int 1 v] }).objs.size:=by simpa using hb
  subst e;exact I1.fpOk (le_refl _) (I1.hok.fresh (le_refl _))
def A6(ta:TA):TI:=fun σ H R=>ta σ H fun vs H1=>∃j:Int,vs=[.int j]/\-(2 ^ 62)<=j/\j<2 ^ 62/\R (ql 0 j.toNat) H1
theorem HB{a:Expr}{ta:TA}(hg:Gl X "range")(hm:X.mg "range" = none)(ha:PA X [a] ta)(hs:starEach [a] X.env=[(false,eval a X.env)]:=by rfl):PI X tg (.Call (.Name "range" p) [a] [] pos) (A6 ta):=by
 intro pins s σ H R I h;refine Call_ (o8 I hg hm boot_range (PyProof.Rows.callWith_type1 (aN (ha pos pins s σ H _ I h) fun us s1 ⟨vs,H1,I1,r1,q1⟩=>?_) hs rfl));obtain⟨j,e,q1,q2,q⟩:=q1;subst e;cases r1 with
 | cons r rr =>
  cases rr;obtain⟨t,rfl⟩:=r;exact call_range_1 (GN I1 (by omega) (by omega) q1 q2 (by simpa using q))
def Ag(wi:TI)(g:TG)(tb:TS):TS:=fun D σ H=>wi σ H fun J H1=>∃W:Nat->Nat->St->Hp->Prop,(∃m,W 0 m σ H1)/\∀i m σ H,W i m σ H ->
 (J.stop i H/\D.nx σ H)\/(J.go i H/\∃N:St->Hp->Prop,(∀σ' H',N σ' H'->∃m',m'<m/\W (i+1) m' σ' H')/\∀x H',J.yld i H x H'->g x σ H' fun σ2 H2=>tb { D with nx:=N,ct:=N,bk:=D.nx } σ2 H2)
def mn(fp:List Addr)(h:Heap):List (Addr×Obj):=fp.filterMap fun b=>(h.get? b).map fun o=>(b,o)
theorem qa{o:Obj}(hb:b∈fp)(e:h.get? b=some o):(b,o)∈mn fp h:=mem_filterMap.mpr ⟨b,hb,by rw[e];rfl⟩
theorem HA{p:Addr×Obj}(hp:p∈mn fp h):p.1∈fp/\h.get? p.1=some p.2:=by
 obtain⟨b,hb,e⟩:=mem_filterMap.mp hp;cases q:h.get? b with
 | none=>rw[q] at e;cases e
 | some o =>
  rw[q] at e;have e':(b,o)=p:=Option.some.inj e;subst e';exact⟨hb,q⟩
theorem Inv.pinned{σ:St}(I:Inv X pins σ H s)(hf:∀b∈fp,kc X pins H b)(ho:∀b∈fp,∃o,s.heap.get? b=some o/\∀v,o.data≠.cell v):Inv X (pins++mn fp s.heap) σ H s :=
 I.pins_of fun p hp=>(mem_append.mp hp).elim (fun z=>I.pin p (mem_append_right _ z)) fun z=>by
  obtain⟨hb,e⟩:=HA z;obtain⟨f0,f1,f2,_⟩:=hf p.1 hb;obtain⟨o,e',d⟩:=ho p.1 hb;rw[e] at e';cases e';exact⟨e,f0,f1,f2,d⟩
theorem Inv.unpinned{pl:List (Addr×Obj)}{σ:St}(I:Inv X (pins++pl) σ H s):Inv X pins σ H s:=I.pins_of fun p hp=>I.pin p (mem_append_right _ (mem_append_left _ hp))
theorem DJ{iter:Expr}{wi:TI}{g:TG}{tb:TS}(hp:PassesOwn (model X.prog X.w) X.A X.env X.xe)(hc:X.calm=true)(hi:PI X tg iter wi)(hg:PG X tg g)(hb:PSs X body tb)(hs:∀x,foldedSetIterable iter X.env x=pure x:=by intro _;rfl):PS X (.For tg iter body [] pos) (Ag wi g tb):=by
 intro pins s σ H D I h;refine wpAny_For (aN (hi pins s σ H _ I h) fun v s1 h1=>aN h1 fun itv s2 h2=>?_) hs;obtain⟨it,fp,tn,J,H2,e,I2,T,st2,f2,W,⟨m0,w0⟩,turn⟩:=h2;subst e;have stat:∀{H':Hp},(∀b∈fp,H' b=none)->∀b∈fp,kc X pins H' b:=fun hn b hb=>⟨hn b hb,(f2 b hb).2⟩
 refine codeAny_forLoop_any (fun n s'=>∃i σ' H',Inv X pins σ' H' s'/\tn i s'.heap/\(∀b∈fp,H' b=none)/\W i n σ' H') ?_ m0 ⟨0,σ,H2,I2,st2,fun b hb=>(f2 b hb).1,w0⟩;rintro n s3 ⟨i,σ3,H3,I3,st3,fr3,w3⟩;rcases turn i n σ3 H3 w3 with ⟨stop,qn⟩|⟨go,N,hN,step⟩
 ·refine wpAny_passesOwn hp (aN (T.done X rfl rfl rfl hc i pins s3 σ3 H3 X.xe I3 (stat fr3) st3 stop) fun r s4 ⟨hr,I4⟩=>?_);subst hr;exact wpAny_execs_nil ⟨σ3,H3,I4,qn⟩
 ·refine wpAny_passesOwn hp (aN (T.item X rfl rfl rfl hc i pins s3 σ3 H3 X.xe I3 (stat fr3) st3 go) fun r s4 ⟨u,hr,h4⟩=>?_);subst hr;refine wpAny_passesOwn hp (aN h4 fun _ s5 ⟨x,H5,I5,r5,y5,st5,fr5⟩=>?_);have I5':=I5.pinned (stat fr5) (T.obj _ _ st5);refine wpAny_passesOwn hp (aN (hg _ s5 σ3 H5 x u _ I5' r5 (step x H5 y5)) fun _ s6 ⟨σ6,H6,I6,q6⟩=>?_);refine wpAny_passesOwn hp (aN (hb _ s6 σ6 H6 _ I6 q6) fun f s7 q7=>?_);have again:∀{σ7:St} {H7:Hp},Inv X (pins++mn fp s5.heap) σ7 H7 s7->N σ7 H7->∃m,m<n/\∃i σ' H',Inv X pins σ' H' s7/\tn i s7.heap/\(∀b∈fp,H' b=none)/\W i m σ' H':=fun {σ7 H7} I7 n7=>by
   obtain⟨m',hm,w7⟩:=hN σ7 H7 n7;refine⟨m',hm,i+1,σ7,H7,I7.unpinned,T.keep _ _ _ st5 fun b hb o e=>(I7.pin (b,o) (mem_append_right _ (mem_append_right _ (qa hb e)))).1,fun b hb=>?_,w7⟩;obtain⟨o,e,d⟩:=T.obj _ _ st5 b hb;exact(I7.pin (b,o) (mem_append_right _ (mem_append_right _ (qa hb e)))).2.1
  cases f with
  | next=>obtain⟨σ7,H7,I7,n7⟩:=q7;exact again I7 n7
  | cont=>obtain⟨σ7,H7,I7,n7⟩:=q7;exact again I7 n7
  | brk=>obtain⟨σ7,H7,I7,q7⟩:=q7;exact⟨σ7,H7,I7.unpinned,q7⟩
  | ret v=>obtain⟨x7,σ7,H7,I7,r7,q7⟩:=q7;exact⟨x7,σ7,H7,I7.unpinned,r7,q7⟩
abbrev R2:=V->V->Hp->VK->Prop
def de(X:Cx)(f:Value->Value->Sem Value)(r:R2):Prop :=
 ∀(pins:List (Addr×Obj)) (s:Shared) (σ:St) (H:Hp) (x y:V) (v u:Value) (Q:VK),Inv X pins σ H s->RelV x v->RelV y u->r x y H Q ->
  wpAny (model X.prog X.w) X.A (f v u) (EP X pins σ Q) X.xe s
def uz(X:Cx)(f:Value->Sem Value)(r:V->Hp->VK->Prop):Prop :=
 ∀(pins:List (Addr×Obj)) (s:Shared) (σ:St) (H:Hp) (x:V) (v:Value) (Q:VK),Inv X pins σ H s->RelV x v->r x H Q ->
  wpAny (model X.prog X.w) X.A (f v) (EP X pins σ Q) X.xe s
def aO(X:Cx)(f:Value)(r:List V->Hp->VK->Prop):Prop :=
 ∀(pins:List (Addr×Obj)) (s:Shared) (σ:St) (H:Hp) (xs:List V) (us:List Value) (Q:VK),Inv X pins σ H s->Vals xs us->r xs H Q ->
  wpAny (model X.prog X.w) X.A (call f us) (EP X pins σ Q) X.xe s
def Af(X:Cx)(r:V->Hp->(Bool->Hp->Prop)->Prop):Prop :=
 ∀(pins:List (Addr×Obj)) (s:Shared) (σ:St) (H:Hp) (x:V) (v:Value) (Q:Bool->Hp->Prop),Inv X pins σ H s->RelV x v->r x H Q ->
  wpAny (model X.prog X.w) X.A (truthy v) (TP X pins σ Q) X.xe s
def lA(r:R2)(ta tb:TE):TE:=fun σ H Q=>ta σ H fun x H1=>tb σ H1 fun y H2=>r x y H2 Q
def Jh(r:V->Hp->VK->Prop)(ta:TE):TE:=fun σ H Q=>ta σ H fun x H1=>r x H1 Q
def rI(C:Int->Int->Prop)(g:Int->Int->V):R2:=fun x y H Q=>∃i j,x=.int i/\y=.int j/\C i j/\Q (g i j) H
def jZ(g:Int->Int->V):R2:=fun x y H Q=>∃i j,x=.int i/\y=.int j/\Q (g i j) H
def rU(g:Int->V):V->Hp->VK->Prop:=fun x H Q=>∃i,x=.int i/\Q (g i) H
variable {f:Value->Value->Sem Value}
section
variable {a b:Expr} {tc:TE}
theorem qv(ha:PE X a ta)(hb:PE X b tb){σ:St}{R:V->V->Hp->Prop}(I:Inv X pins σ H s)(h:ta σ H fun x H1=>tb σ H1 fun y H2=>R x y H2)(hf:∀v u s2 x y H2,Inv X pins σ H2 s2->RelV x v->RelV y u->R x y H2->wpAny (model X.prog X.w) X.A (f v u) Q X.xe s2) :
  wpAny (model X.prog X.w) X.A (eval a X.env) (fun v s₁=>wpAny (model X.prog X.w) X.A (eval b X.env) (fun u s₂=>wpAny (model X.prog X.w) X.A (f v u) Q X.xe s₂) X.xe s₁) X.xe s:=by
 refine aN (ha pins s σ H _ I h) fun v s1 ⟨x,H1,I1,r1,q1⟩=>?_;refine aN (hb pins s1 σ H1 _ I1 q1) fun u s2 ⟨y,H2,I2,r2,q2⟩=>?_;exact hf v u s2 x y H2 I2 r1 r2 q2
theorem qT{op:Operator}{r:R2}(ho:de X (binaryOp op) r)(ha:PE X a ta)(hb:PE X b tb):PE X (.BinOp a op b pos) (lA r ta tb):=by intro pins s σ H Q I h;exact wpAny_BinOp (qv ha hb I h fun v u s2 x y H2 I2 rx ry q=>ho pins s2 σ H2 x y v u Q I2 rx ry q)
theorem A5{op:UnaryOp}{r:V->Hp->VK->Prop}(ho:uz X (unaryOp op) r)(ha:PE X a ta):PE X (.UnaryOp op a pos) (Jh r ta):=by intro pins s σ H Q I h;exact UnaryOp_ (aN (ha pins s σ H _ I h) fun v s1 ⟨x,H1,I1,r1,q1⟩=>ho pins s1 σ H1 x v Q I1 r1 q1)
theorem ur{C:Int->Int->Prop}{g:Int->Int->Int}(rule:∀(i j:Int) (t u:Tok) (s:Shared) (Q:Value->Shared->Prop) (E:Value->Shared->Prop),C i j->Q (.int (g i j) s.toks) { s with toks:=s.toks+1 }->wpAny (model X.prog X.w) X.A (f (.int i t) (.int j u)) Q E s) :
  de X f (rI C fun i j=>.int (g i j)):=by
 intro pins s σ H x y v u Q I rx ry h;obtain⟨i,j,rfl,rfl,hc,q⟩:=h;obtain⟨t,rfl⟩:=rx;obtain⟨t',rfl⟩:=ry;exact rule i j t t' s _ _ hc ⟨.int (g i j),H,I.tok _,⟨_,rfl⟩,q⟩
theorem uJ{g:Int->Int->Int}(rule:∀(i j:Int) (t u:Tok) (s:Shared) (Q:Value->Shared->Prop) (E:Value->Shared->Prop),Q (.int (g i j) s.toks) { s with toks:=s.toks+1 }->wpAny (model X.prog X.w) X.A (f (.int i t) (.int j u)) Q E s) :
  de X f (jZ fun i j=>.int (g i j)):=by
 intro pins s σ H x y v u Q I rx ry h;obtain⟨i,j,rfl,rfl,q⟩:=h;obtain⟨t,rfl⟩:=rx;obtain⟨t',rfl⟩:=ry;exact rule i j t t' s _ _ ⟨.int (g i j),H,I.tok _,⟨_,rfl⟩,q⟩
theorem oO{g:Int->Int->Bool}(rule:∀(i j:Int) (t u:Tok) (s:Shared) (Q:Value->Shared->Prop) (E:Value->Shared->Prop),Q (.bool (g i j)) s->wpAny (model X.prog X.w) X.A (f (.int i t) (.int j u)) Q E s) :
  de X f (jZ fun i j=>.bl (g i j)):=by
 intro pins s σ H x y v u Q I rx ry h;obtain⟨i,j,rfl,rfl,q⟩:=h;obtain⟨t,rfl⟩:=rx;obtain⟨t',rfl⟩:=ry;exact rule i j t t' s _ _ ⟨.bl (g i j),H,I,rfl,q⟩
def qu(i j:Int):Prop:=0<j/\j<1073741824
def fh(i j:Int):Prop:=(-(2 ^ 64)<i/\i<2 ^ 64)\/(-(2 ^ 64)<j/\j<2 ^ 64)
theorem fh.ok{i j:Int}(h:fh i j):IntMulOk i j:=by
 rcases h with ⟨h1,h2⟩|⟨h1,h2⟩
 ·exact .of_left (intBits_le_64 h1 h2)
 ·exact .of_right (intBits_le_64 h1 h2)
theorem DI:de X (binaryOp .Add) (jZ fun i j=>.int (i+j)):=uJ fun _ _ _ _ _ _ _ q=>add_int q
theorem DH:de X (binaryOp .Sub) (jZ fun i j=>.int (i-j)):=uJ fun _ _ _ _ _ _ _ q=>sub_int q
theorem DF:de X (binaryOp .Mult) (rI fh fun i j=>.int (i*j)):=ur fun _ _ _ _ _ _ _ hc q=>mul_int q hc.ok
theorem E2:de X (binaryOp .FloorDiv) (rI qu fun i j=>.int (i / j)):=ur fun i j _ _ _ _ _ hc q=>by
 have h1:(0:Int)<j:=hc.1;have h2:j<1073741824:=hc.2;exact floordiv_int (by omega) (by rw[fdiv_eq_ediv_of_nonneg i (by omega)];exact q) (.inl (PyProof.noPylong_small (by omega)))
theorem DE:de X (binaryOp .Mod) (rI (fun _ j=>0<j) fun i j=>.int (i % j)):=ur fun i j _ _ _ _ _ hc q=>by
 have h1:(0:Int)<j:=hc;exact mod_int' (by omega) (by rw[fmod_eq_emod_of_nonneg i (by omega)];exact q)
theorem Jg{f:Value->Sem Value}{g:Int->Int}(rule:∀(i:Int) (t:Tok) (s:Shared) (Q:Value->Shared->Prop) (E:Value->Shared->Prop),Q (.int (g i) s.toks) { s with toks:=s.toks+1 }->wpAny (model X.prog X.w) X.A (f (.int i t)) Q E s) :
  uz X f (rU fun i=>.int (g i)):=by
 intro pins s σ H x v Q I rx h;obtain⟨i,rfl,q⟩:=h;obtain⟨t,rfl⟩:=rx;exact rule i t s _ _ ⟨.int (g i),H,I.tok _,⟨_,rfl⟩,q⟩
theorem DD:uz X (unaryOp .USub) (rU fun i=>.int (-i)):=Jg fun _ _ _ _ _ q=>neg_int q
end
def uI:V->V->Bool
 | .non,.non=>true|.non,.int _=>true|.int _,.non=>true|.non,.bl _=>true|.bl _,.non=>true|.non,.str _=>true|.str _,.non=>true
 | .int _,.int _=>true|.bl _,.bl _=>true|.str _,.str _=>true|.byt _,.byt _=>true
 | .int _,.str _=>true|.str _,.int _=>true|.bl _,.str _=>true|.str _,.bl _=>true
 | _,_=>false
def zW:R2:=fun x y H Q=>uI x y=true/\Q (.bl (decide (x=y))) H
def zV:R2:=fun x y H Q=>uI x y=true/\Q (.bl (!decide (x=y))) H
theorem xy{i j:Int}:decide (V.int i=V.int j)=(i==j):=by rw[Bool.eq_iff_iff];simp
theorem vL{i j:Bool}:decide (V.bl i=V.bl j)=(i==j):=by rw[Bool.eq_iff_iff];simp
theorem xx{i j:Str}:decide (V.str i=V.str j)=(i==j):=by rw[Bool.eq_iff_iff];simp
theorem xw{i j:Array UInt8}:decide (V.byt i=V.byt j)=(i.toList==j.toList):=by rw[Bool.eq_iff_iff];cases i;cases j;simp
variable {us:List Value} {y:V}
section
variable {a b:Expr} {tc:TE}
theorem cV{σ:St}{Q:VK}{k k':Bool}(I:Inv X pins σ H s)(q:Q (.bl k) H)(e:k=k'):EP X pins σ Q (.bool k') s:=by subst e;exact⟨.bl k,H,I,rfl,q⟩
theorem A4:de X (compareOp .Eq) zW:=by
 intro pins s σ H x y v u Q I rx ry h;obtain⟨hs,q⟩:=h;cases x with
 | non =>
  cases rx;cases y with
  | non=>cases ry;exact PySem.EqNone.eq_none_none (cV I q (by simp))
  | bl j=>cases ry;exact PySem.EqNone.eq_none_bool (cV I q (by simp))
  | int j=>obtain⟨t',rfl⟩:=ry;exact eq_none_int (cV I q (by simp))
  | str j=>obtain⟨t',rfl⟩:=ry;exact eq_none_str (cV I q (by simp))
  | _=>exact absurd (show false=true from hs) Bool.false_ne_true
 | bl i =>
  cases rx;cases y with
  | non=>cases ry;exact PySem.EqNone.eq_bool_none (cV I q (by simp))
  | bl j=>cases ry;exact eq_bool (cV I q vL)
  | str j=>obtain⟨t',rfl⟩:=ry;exact eq_bool_str (cV I q (by simp))
  | _=>exact absurd (show false=true from hs) Bool.false_ne_true
 | int i =>
  obtain⟨t,rfl⟩:=rx;cases y with
  | non=>cases ry;exact eq_int_none (cV I q (by simp))
  | int j=>obtain⟨t',rfl⟩:=ry;exact eq_int (cV I q xy)
  | str j=>obtain⟨t',rfl⟩:=ry;exact eq_int_str (cV I q (by simp))
  | _=>exact absurd (show false=true from hs) Bool.false_ne_true
 | str i =>
  obtain⟨t,rfl⟩:=rx;cases y with
  | non=>cases ry;exact eq_str_none (cV I q (by simp))
  | bl j=>cases ry;exact eq_str_bool (cV I q (by simp))
  | int j=>obtain⟨t',rfl⟩:=ry;exact eq_str_int (cV I q (by simp))
  | str j=>obtain⟨t',rfl⟩:=ry;exact eq_str (cV I q xx)
  | _=>exact absurd (show false=true from hs) Bool.false_ne_true
 | byt i =>
  obtain⟨t,rfl⟩:=rx;cases y with
  | byt j=>obtain⟨t',rfl⟩:=ry;exact PySem.W.eq_bytes (cV I q xw)
  | _=>exact absurd (show false=true from hs) Bool.false_ne_true
 | _=>cases y<;>exact absurd (show false=true from hs) Bool.false_ne_true
theorem A3:de X (compareOp .NotEq) zV:=by
 intro pins s σ H x y v u Q I rx ry h;obtain⟨hs,q⟩:=h;cases x with
 | non =>
  cases rx;cases y with
  | non=>cases ry;exact PySem.EqNone.ne_none_none (cV I q (by simp))
  | bl j=>cases ry;exact PySem.EqNone.ne_none_bool (cV I q (by simp))
  | int j=>obtain⟨t',rfl⟩:=ry;exact ne_none_int (cV I q (by simp))
  | str j=>obtain⟨t',rfl⟩:=ry;exact ne_none_str (cV I q (by simp))
  | _=>exact absurd (show false=true from hs) Bool.false_ne_true
 | bl i =>
  cases rx;cases y with
  | non=>cases ry;exact PySem.EqNone.ne_bool_none (cV I q (by simp))
  | bl j=>cases ry;exact ne_bool (cV I q (congrArg not vL))
  | str j=>obtain⟨t',rfl⟩:=ry;exact ne_bool_str (cV I q (by simp))
  | _=>exact absurd (show false=true from hs) Bool.false_ne_true
 | int i =>
  obtain⟨t,rfl⟩:=rx;cases y with
  | non=>cases ry;exact ne_int_none (cV I q (by simp))
  | int j=>obtain⟨t',rfl⟩:=ry;exact ne_int (cV I q (congrArg not xy))
  | str j=>obtain⟨t',rfl⟩:=ry;exact ne_int_str (cV I q (by simp))
  | _=>exact absurd (show false=true from hs) Bool.false_ne_true
 | str i =>
  obtain⟨t,rfl⟩:=rx;cases y with
  | non=>cases ry;exact ne_str_none (cV I q (by simp))
  | bl j=>cases ry;exact ne_str_bool (cV I q (by simp))
  | int j=>obtain⟨t',rfl⟩:=ry;exact ne_str_int (cV I q (by simp))
  | str j=>obtain⟨t',rfl⟩:=ry;exact ne_str (cV I q (congrArg not xx))
  | _=>exact absurd (show false=true from hs) Bool.false_ne_true
 | byt i =>
  obtain⟨t,rfl⟩:=rx;cases y with
  | byt j=>obtain⟨t',rfl⟩:=ry;exact PySem.W.ne_bytes (cV I q (congrArg not xw))
  | _=>exact absurd (show false=true from hs) Bool.false_ne_true
 | _=>cases y<;>exact absurd (show false=true from hs) Bool.false_ne_true
theorem A2:de X (compareOp .Lt) (jZ fun i j=>.bl (decide (i<j))):=oO fun _ _ _ _ _ _ _ q=>lt_int q
theorem vi:de X (compareOp .LtE) (jZ fun i j=>.bl (decide (i<=j))):=oO fun _ _ _ _ _ _ _ q=>le_int q
theorem vh:de X (compareOp .Gt) (jZ fun i j=>.bl (decide (j<i))):=oO fun _ _ _ _ _ _ _ q=>gt_int q
theorem A1:de X (compareOp .GtE) (jZ fun i j=>.bl (decide (j<=i))):=oO fun _ _ _ _ _ _ _ q=>ge_int q
theorem ip(b:Expr)(h:op≠.In:=by decide)(h2:op≠.NotIn:=by decide):behindInMarks op b=false:=by
 have e1:(op==CmpOp.In)=false:=by cases op<;>first|rfl|exact absurd rfl h
 have e2:(op==CmpOp.NotIn)=false:=by cases op<;>first|rfl|exact absurd rfl h2
 cases b<;>simp[behindInMarks,e1,e2]
theorem xu{r:R2}(ho:de X (compareOp op) r)(ha:PE X a ta)(hb:PE X b tb)(hm:behindInMarks op b=false):PE X (.Compare a [op] [b] pos) (lA r ta tb):=by intro pins s σ H Q I h;exact wpAny_Compare1 (qv ha hb I h fun v u s2 x y H2 I2 rx ry q=>ho pins s2 σ H2 x y v u Q I2 rx ry q) hm
def A0(t:TE):TT:=fun σ H Q=>t σ H fun x H'=>∃k,x=.bl k/\Q k H'
theorem EZ{r:R2}(ho:de X (compareOp op) r)(ha:PE X a ta)(hb:PE X b tb)(hm:behindInMarks op b=false):PT X (.Compare a [op] [b] pos) (A0 (lA r ta tb)):=by
 intro pins s σ H Q I h;refine wpAny_isTrue_Compare1 (aN (ha pins s σ H _ I h) fun v s1 ⟨x,H1,I1,r1,q1⟩=>aN (hb pins s1 σ H1 _ I1 q1) fun u s2 ⟨y,H2,I2,r2,q2⟩ =>
  aN (ho pins s2 σ H2 x y v u _ I2 r1 r2 q2) fun c s3 ⟨z,H3,I3,r3,k,e,q3⟩=>?_) hm
 subst e;cases r3;exact wpAny_truthy_bool ⟨H3,I3,q3⟩
def vK(r r':R2)(ta tb tc:TE):TE:=fun σ H Q=>ta σ H fun x H1=>tb σ H1 fun y H2=>r x y H2 fun z H3=>∃k,z=.bl k /\
 (if k=true then tc σ H3 fun w' H4=>r' y w' H4 Q else Q (.bl false) H3)
theorem GL{op':CmpOp}{r r':R2}(ho:de X (compareOp op) r)(ho':de X (compareOp op') r')(ha:PE X a ta)(hb:PE X b tb)(hc:PE X c tc)(hm:lastMarks [op,op'] [b,c]=false:=by with_unfolding_all rfl):PE X (.Compare a [op,op'] [b,c] pos) (vK r r' ta tb tc):=by
 intro pins s σ H Q I h;refine Compare_chain (aN (ha pins s σ H _ I h) fun v s1 ⟨x,H1,I1,r1,q1⟩=>chain_link (aN (hb pins s1 σ H1 _ I1 q1) fun u s2 ⟨y,H2,I2,r2,q2⟩ =>
  aN (ho pins s2 σ H2 x y v u _ I2 r1 r2 q2) fun d s3 ⟨z,H3,I3,r3,k,e,q3⟩=>?_)) hm
 subst e;cases r3;refine wpAny_truthy_bool ?_;cases k with
 | false=>exact ite_ff ⟨.bl false,H3,I3,rfl,q3⟩
 | true=>exact ite_tt (chain_last (aN (hc pins s3 σ H3 _ I3 q3) fun w' s4 ⟨z',H4,I4,r4,q4⟩=>ho' pins s4 σ H4 y z' u w' Q I4 r2 r4 q4))
def oN(K:Frag)(x:V)(H:Hp)(k:Bool):Prop :=
 match x with
 | .non=>k=false
 | .bl b=>k=b
 | .int i=>k=(i != 0)
 | .str y=>y.length<=sizeLine/\k=((y.length:Int) != 0)
 | .byt y=>y.size<=sizeLine/\k=((y.size:Int) != 0)
 | .ref p=>(∃xs,cL K H p xs/\k=!xs.isEmpty)\/(∃xs,eG K H p xs/\k=!xs.isEmpty)\/∃kvs,H p=some (.dK kvs)/\k=!kvs.isEmpty
 | _=>False
theorem HR{κ:Type}{kvs:List (κ×V)}{vs:List (κ×Value)}(r:KV kvs vs):(!vs.isEmpty)=!kvs.isEmpty:=by cases r<;>rfl
theorem zo{its:List Value}(r:Vals xs its):(!its.toArray.isEmpty)=!xs.isEmpty:=by cases r<;>simp
theorem nK:(sizeLine:Nat)<2 ^ 63:=by rw[sizeLine_eq];decide
theorem Cr:Af X (fun x H Q=>∃k,oN X.K x H k/\Q k H):=by
 intro pins s σ H x v Q I rx h;obtain⟨k,e,q⟩:=h;have hl:=nK;have hs:sizeLine=16777216:=sizeLine_eq;cases x with
 | non =>
  cases rx;have e':k=false:=e;subst e';exact truthy_none ⟨H,I,q⟩
 | bl b =>
  cases rx;have e':k=b:=e;subst e';exact wpAny_truthy_bool ⟨H,I,q⟩
 | int i =>
  obtain⟨t,rfl⟩:=rx;have e':k=(i != 0):=e;subst e';exact PySem.P.truthy_int ⟨H,I,q⟩
 | str y =>
  obtain⟨t,rfl⟩:=rx;obtain⟨hy,e'⟩:y.length<=sizeLine/\k=((y.length:Int) != 0):=e;subst e';exact PySem.P.truthy_str (by omega) ⟨H,I.tok _,q⟩
 | byt y =>
  obtain⟨t,rfl⟩:=rx;obtain⟨hy,e'⟩:y.size<=sizeLine/\k=((y.size:Int) != 0):=e;subst e';exact PySem.W.truthy_bytes (by omega) ⟨H,I.tok _,q⟩
 | ref p =>
  cases rx;have e':(∃xs,cL X.K H p xs/\k=!xs.isEmpty)\/(∃xs,eG X.K H p xs/\k=!xs.isEmpty)\/∃kvs,H p=some (.dK kvs)/\k=!kvs.isEmpty:=e;rcases e' with ⟨xs,hx,e'⟩|⟨xs,hx,e'⟩|⟨kvs,hx,e'⟩
  ·subst e';obtain⟨its,r,pl,hz⟩:=I.list hx;have hlen:=r.length;exact wpAny_truthy_list pl.isList (by simp only[size_toArray];omega) ⟨H,I.tok _,by rw[zo r];exact q⟩
  ·subst e';obtain⟨its,r,pl,hz⟩:=I.tuple hx;have hlen:=r.length;exact truthy_tuple pl (by simp only[size_toArray];omega) ⟨H,I.tok _,by rw[zo r];exact q⟩
  ·subst e';obtain⟨hz,hS,vs,r,m⟩:kvs.length<=sizeLine/\(p==sysModules)=false/\∃vs,KV kvs vs/\s.heap.DictOf (dS X.prog X.w) p vs:=I.hok p _ hx;have hlen:kvs.length=vs.length:=Paired.length r;exact wpAny_truthy_dict hS m (by omega) ⟨H,I.tok _,by rw[HR r];exact q⟩
 | _=>exact(show False from e).elim
theorem GK(ha:PE X a ta)(he:∀whole,isTrue a X.env whole=(do let v <- whole;standAt a.pos;holding [v] (truthy v))) :
  PT X a (fun σ H Q=>ta σ H fun x H'=>∃k,oN X.K x H' k/\Q k H'):=by
 intro pins s σ H Q I h;exact isTrue_plain (aN (ha pins s σ H _ I h) fun v s1 ⟨x,H1,I1,r1,q1⟩=>Cr pins s1 σ H1 x v Q I1 r1 q1) (he _)
theorem iJ{x:V}(r:Vals [x] us):∃u,us=[u]/\RelV x u:=by
 cases r with
 | cons r1 r2=>cases r2;exact⟨_,rfl,r1⟩
theorem nG{x:V}(r:Vals [x,y] us):∃u w',us=[u,w']/\RelV x u/\RelV y w':=by
 cases r with
 | cons r1 r2 =>
  cases r2 with
  | cons r3 r4=>cases r4;exact⟨_,_,rfl,r1,r3⟩
theorem lj:aO X (.type "int") (fun xs H Q=>(∃i,xs=[.int i]/\Q (.int i) H)\/∃k,xs=[.bl k]/\Q (.int (if k then 1 else 0)) H):=by
 intro pins s σ H xs us Q I r h;rcases h with ⟨i,rfl,q⟩|⟨k,rfl,q⟩
 ·obtain⟨u,rfl,t,rfl⟩:=iJ r;exact call_int_int ⟨.int i,H,I,⟨_,rfl⟩,q⟩
 ·obtain⟨u,rfl,r1⟩:=iJ r;cases r1;exact call_int_bool ⟨.int (if k then 1 else 0),H,I.tok _,⟨_,rfl⟩,q⟩
def uH(K:Frag)(x:V)(H:Hp)(n:Nat):Prop :=
 match x with
 | .str y=>y.length<=sizeLine/\n=y.length
 | .byt y=>y.size<=sizeLine/\n=y.size
 | .ref p=>(∃xs,cL K H p xs/\n=xs.length)\/∃xs,eG K H p xs/\n=xs.length
 | _=>False
theorem GJ:aO X (.builtin "len") (fun xs H Q=>∃x n,xs=[x]/\uH X.K x H n/\Q (.int n) H):=by
 intro pins s σ H xs us Q I r h;obtain⟨x,n,rfl,e,q⟩:=h;obtain⟨u,rfl,rx⟩:=iJ r;have hl:=nK;have hs:sizeLine=16777216:=sizeLine_eq;cases x with
 | str y =>
  obtain⟨t,rfl⟩:=rx;obtain⟨hy,e'⟩:y.length<=sizeLine/\n=y.length:=e;subst e';exact len_str (by omega) ⟨.int _,H,I.tok _,⟨_,rfl⟩,q⟩
 | byt y =>
  obtain⟨t,rfl⟩:=rx;obtain⟨hy,e'⟩:y.size<=sizeLine/\n=y.size:=e;subst e';exact PySem.W.len_bytes (by omega) ⟨.int _,H,I.tok _,⟨_,rfl⟩,q⟩
 | ref p =>
  cases rx;have e':(∃xs,cL X.K H p xs/\n=xs.length)\/∃xs,eG X.K H p xs/\n=xs.length:=e;rcases e' with ⟨xs,hx,e'⟩|⟨xs,hx,e'⟩
  ·subst e';obtain⟨its,r',pl,hz⟩:=I.list hx;have hlen:=r'.length;exact Calls.call_len_list pl.isList (by simp only[size_toArray];omega) ⟨.int xs.length,H,I.tok _,⟨_,by simp only[size_toArray];rw[hlen]⟩,q⟩
  ·subst e';obtain⟨its,r',pl,hz⟩:=I.tuple hx;have hlen:=r'.length;exact len_tuple pl (by simp only[size_toArray];omega) ⟨.int xs.length,H,I.tok _,⟨_,by simp only[size_toArray];rw[hlen]⟩,q⟩
 | _=>exact(show False from e).elim
end
structure gw (h:Heap) (x dx C:Addr) (mA:Str->Option Value):Prop where
 obj:h.get? x=some (instObj C dx)
 ns:h.Ns1 dx mA
 ne:dx≠x
variable {dx:Addr} {mA:Str->Option Value}
theorem Hz(n:h.Ns1 dx mA):∃od,h.get? dx=some od/\∀name,lookIn name od=some (mA name):=by
 obtain⟨o,es,ep,ho,hd,hk,_,hm⟩:=n;refine⟨o,ho,fun name=>?_⟩;have e:=hm name;unfold nsFind findBy at e;rw[<- find?_toList] at e;unfold lookIn;rw[hd];dsimp only;split
 ·rename_i y q;rw[q] at e;exact congrArg some e
 ·rename_i q;rw[q] at e;have a:es.toList.any (·.refKey)=false:=by rw[any_eq_false];intro y hy;obtain⟨z,t,hkey⟩:=hk y (mem_toList_iff.mp hy);simp[DictEntry.refKey,hkey]
  have a':¬es.toList.any (·.refKey)=true:=by rw[a];exact Bool.false_ne_true
  rw[if_neg a'];exact congrArg some e
theorem gw.look{x C:Addr}(I:gw h x dx C mA):∃od,PySem.W.InstAt h x (instObj C dx) C (some od)/\∀name,lookIn name od=some (mA name) :=
 let ⟨od,ho,hl⟩:=Hz I.ns
 ⟨od,⟨I.obj,rfl,rfl,ho⟩,hl⟩
variable {pl:Sem Bool} {prog:Program} {name:Str} {kw:List (Str×Value)}
section
variable {x C f:Addr} {v:Value}
theorem EY{expr:Bool}(X:K.In s.heap)(I:gw s.heap x dx C mA)(hg:plainGet K C name=true)(hh:hasDictIn K C=true)(ha:findIn K (.ref C) name=some none)(hv:mA name=some v)(hv':handedIn v=true)(h:Q v { s with toks:=s.toks+1 }) :
  wpAny (model prog w) A (getAttr (.ref x) name expr) Q E s:=by
 obtain⟨od,J,hl⟩:=I.look;exact PySem.W.get_value X J (plainGet_of hg).1 (PySem.W.findObj_own hh ha rfl (by rw[hl,hv])) hv' h
theorem GI{Q:Value×List Value->Shared->Prop}(X:K.In s.heap)(I:gw s.heap x dx C mA)(hg:plainGet K C name=true)(hf:findIn K (.ref C) name=some (some (.ref f)))(ht:isFn K (.ref f)=true)(hv:mA name=none)(h:Q (.ref f,[.ref x]) s) :
  wpAny (model prog w) A (getMethod (.ref x) name pl) Q E s:=by
 obtain⟨od,J,hl⟩:=I.look;exact PySem.W.method_fn X J (plainGet_of hg).1 (plainGet_of hg).2 hf (beq_iff_eq.mp ht) (by show(lookIn name od).map (·.isSome)=some false;rw[hl,hv];rfl) h
theorem EX{ns:List Str}{Q:Unit->Shared->Prop}(X:K.In s.heap)(I:gw s.heap x dx C mA)(hs:findIn K (.ref C) "__setattr__" = some (some (.builtin "object.__setattr__")))(hp:plainOver K C=true)(ht:takerIn K C name=some none)(hh:hasDictIn K C=true)(hw:PySem.Within mA ns)(hsz:ns.length<=sizeLine)(h:∀h',gw h' x dx C (fun y=>if y=name then some v else mA y)->Heap.SameBut dx s.heap h'->Q () { s with heap:=h',toks:=s.toks+2 }) :
  wpAny (model prog w) A (setAttr (.ref x) name v) Q E s:=by
 obtain⟨od,J,hl⟩:=I.look;refine set_plain X J hs (PySem.W.osa_open (s:={ s with toks:=s.toks+1 }) (r:=none) X J hp ht fun b=>?_);obtain⟨cd,hc,hd'⟩:=any_some hh;have hx:s.heap.get? x=some ⟨.ref C,some dx,.plain,#[]⟩:=I.obj;refine wpAny_bind (wpAny_pure (wpAny_bind (wpAny_bind (wpAny_loadPart hx (wpAny_bind (here (s:={ s with toks:=s.toks+1 }) (looks_clsIn X hc) ?_))))));rw[hd'];refine wpAny_pure (a:=some dx) (wpAny_bind (wpAny_pure (wpAny_bind ?_)));refine wpAny_nsSet1 (s:={ s with toks:=s.toks+1 }) I.ns fun h' hn2 hs2=>?_;obtain⟨oD,esD,epD,hoD,hdD,hcD⟩:=hn2.count (PySem.Within.cons name v hw);refine wpAny_bind (wpAny_lookBehind hoD (by rw[hdD];exact pastItsLine_dict (le_trans hcD (by rw[length_cons];omega))) ?_);exact wpAny_pure (h _ ⟨(hs2.2 _ (Ne.symm I.ne)).trans I.obj,hn2,I.ne⟩ hs2)
theorem GH{R:Result->Shared->Prop}{vs:List Value}(X:K.In s.heap)(hm:makesIn K C=true)(hi:findIn K (.ref C) "__init__" = some (some (.ref f)))(hf:typeIn K (.ref f)=some (.type "function"))(h:codeAny (model prog w) (A.under (.builtin "type.__call__" ⟨.ref C::vs,kw⟩)) (.call (.ref f) ⟨.ref (s.heap.objs.size+1)::vs,kw⟩) (PySem.W.InitBack (s.heap.objs.size+1) R)
   { s with heap:=(s.heap.push emptyDict).push (instObj C s.heap.objs.size) }) :
  codeAny (model prog w) A (.call (.ref C) ⟨vs,kw⟩) R s:=by
 obtain⟨hh,g,d,t,os⟩:=s;exact PySem.W.make_core (PySem.W.makes_of X hm) (PySem.W.looks_findIn X hi) (fun self=>bind_fn X self hf) (.inl rfl) h
end
def eY(f:Str)(v:V):List (Str×V)->List (Str×V)
 | []=>[(f,v)]
 | (g,x)::r=>if g=f then (g,v)::r else (g,x)::eY f v r
theorem zy(f g:Str)(v:V):∀fs:List (Str×V),(eY f v fs).lookup g=if g=f then some v else fs.lookup g
 | []=>by
  show List.lookup g [(f,v)]=_
  by_cases h:g=f
  ·have hb:(g==f)=true:=beq_iff_eq.mpr h;simp only[List.lookup,hb,if_pos h]
  ·have hb:(g==f)=false:=beq_eq_false_iff_ne.mpr h;simp only[List.lookup,hb,if_neg h]
 | (k,x)::r=>by
  have ih:=zy f g v r;rw[show eY f v ((k,x)::r)=(if k=f then (k,v)::r else (k,x)::eY f v r) from rfl]
  by_cases hk:k=f
  ·rw[if_pos hk]
   by_cases h:g=k
   ·have hb:(g==k)=true:=beq_iff_eq.mpr h;simp only[List.lookup,hb,if_pos (h.trans hk)]
   ·have hb:(g==k)=false:=beq_eq_false_iff_ne.mpr h;simp only[List.lookup,hb,if_neg (fun e:g=f=>h (e.trans hk.symm))]
  ·rw[if_neg hk]
   by_cases h:g=k
   ·have hb:(g==k)=true:=beq_iff_eq.mpr h;simp only[List.lookup,hb,if_neg (fun e:g=f=>hk (h.symm.trans e))]
   ·have hb:(g==k)=false:=beq_eq_false_iff_ne.mpr h;simp only[List.lookup,hb];exact ih
theorem tG(f:Str)(v:V):∀fs:List (Str×V),f∈(eY f v fs).map (·.1)/\∀g,g∈fs.map (·.1)->g∈(eY f v fs).map (·.1)
 | []=>⟨by simp[eY],fun g h=>by simp at h⟩
 | (k,x)::r=>by
  obtain⟨i1,i2⟩:=tG f v r;rw[show eY f v ((k,x)::r)=(if k=f then (k,v)::r else (k,x)::eY f v r) from rfl]
  by_cases hk:k=f
  ·rw[if_pos hk];subst hk;exact⟨by simp,fun g h=>by simpa using h⟩
  ·rw[if_neg hk];refine⟨?_,fun g h=>?_⟩
   ·rw[map_cons];exact mem_cons_of_mem _ i1
   ·rw[map_cons] at h ⊢;rcases mem_cons.mp h with e|e
    ·exact mem_cons.mpr (.inl e)
    ·exact mem_cons_of_mem _ (i2 g e)
theorem zx(f:Str)(v:V):∀fs:List (Str×V),(eY f v fs).length<=fs.length+1
 | []=>by simp[eY]
 | (k,x)::r=>by
  have ih:=zx f v r;rw[show eY f v ((k,x)::r)=(if k=f then (k,v)::r else (k,x)::eY f v r) from rfl]
  by_cases hk:k=f
  ·rw[if_pos hk,length_cons,length_cons];omega
  ·rw[if_neg hk,length_cons,length_cons];omega
theorem c9.some_of{o:Option Value}(r:c9 (some v) o):∃u,o=some u/\RelV v u:=by
 cases o with
 | none=>exact(show False from r).elim
 | some u=>exact⟨u,rfl,r⟩
theorem c9.none_of{o:Option Value}(r:c9 none o):o=none:=by
 cases o with
 | none=>rfl
 | some u=>exact(show False from r).elim
theorem Hy(r:RelV v u):handedIn u=true:=by
 cases v with
 | non=>cases (show u=Value.none from r);rfl
 | bl b=>cases (show u=Value.bool b from r);rfl
 | int i=>obtain⟨t,e⟩:=(show ∃t,u=Value.int i t from r);cases e;rfl
 | str x=>obtain⟨t,e⟩:=(show ∃t,u=Value.str x t from r);cases e;rfl
 | byt b=>obtain⟨t,e⟩:=(show ∃t,u=Value.bytes b t from r);cases e;rfl
 | flt b=>obtain⟨t,e⟩:=(show ∃t,u=Value.float b t from r);cases e;rfl
 | ref a=>cases (show u=Value.ref a from r);rfl
 | ty n=>cases (show u=Value.type n from r);rfl
section
variable {C:Addr} {fs fs':List (Str×V)}
theorem pj(hok:bY P w H h)(e:H a=some (.ins C dx fs)):∃mA,gw h a dx C mA/\(∀f,c9 (fs.lookup f) (mA f))/\PySem.Within mA (fs.map (·.1))/\fs.length<=1000/\H dx=some (.own a):=by
 obtain⟨d,z,ne,ob,mA,n,r,q⟩:=(show aA P w H h a (.ins C dx fs) from hok a _ e)
 exact⟨mA,⟨ob,n,ne⟩,r,q,z,d⟩
end
structure Cls (K:Frag) (C:Addr):Prop where
 pg:plainGet K C Str.empty=true
 hd:hasDictIn K C=true
 po:plainOver K C=true
 sa:findIn K (.ref C) "__setattr__" = some (some (.builtin "object.__setattr__"))
theorem Cls.get{C:Addr}(c:Cls K C)(f:Str):plainGet K C f=true:=c.pg
def NoAttr(K:Frag)(C:Addr)(f:Str):Prop:=findIn K (.ref C) f=some none
theorem NoAttr.taker{C:Addr}{f:Str}(n:NoAttr K C f):takerIn K C f=some none:=by unfold takerIn;rw[show findIn K (.ref C) f=some none from n];rfl
structure Meth (K:Frag) (C:Addr) (m:Str) (f:Addr):Prop where
 at_:findIn K (.ref C) m=some (some (.ref f))
 fn:isFn K (.ref f)=true
 kp:keepIn K (.ref f)=true
variable {m:Str}
section
variable {σ:St} {C:Addr} {fs:List (Str×V)} {f:Str}
theorem HQ{b:Bool}(I:Inv X pins σ H s)(e:H a=some (.ins C dx fs))(c:Cls X.K C)(n:NoAttr X.K C f)(l:fs.lookup f=some v)(h:∀u s',Inv X pins σ H s'->RelV v u->Q u s'):wpAny (model X.prog X.w) A (getAttr (.ref a) f b) Q E s:=by obtain⟨mA,O,r,_,_,_⟩:=pj I.hok e;obtain⟨u,hu,ru⟩:=c9.some_of (v:=v) (o:=mA f) (by rw[<- l];exact r f);exact EY I.kIn O (c.get f) c.hd n hu (Hy ru) (h u _ (I.tok _) ru)
theorem tO{g:Addr}{Q:Value×List Value->Shared->Prop}(I:Inv X pins σ H s)(e:H a=some (.ins C dx fs))(c:Cls X.K C)(k:Meth X.K C m g)(l:fs.lookup m=none)(h:Q (.ref g,[.ref a]) s):wpAny (model X.prog X.w) A (getMethod (.ref a) m pl) Q E s:=by obtain⟨mA,O,r,_,_,_⟩:=pj I.hok e;have hn:mA m=none:=c9.none_of (by rw[<- l];exact r m);exact GI I.kIn O (c.get m) k.at_ k.fn hn h
theorem HP{Q:Unit->Shared->Prop}(I:Inv X pins σ H s)(e:H a=some (.ins C dx fs))(c:Cls X.K C)(n:NoAttr X.K C f)(hl:fs.length<1000)(ry:RelV y u)(h:∀s',Inv X pins σ (upd H a (.ins C dx (eY f y fs))) s'->Q () s'):wpAny (model X.prog X.w) A (setAttr (.ref a) f u) Q E s:=by
 obtain⟨mA,O,r,wi,_,ho⟩:=pj I.hok e;have hz:(fs.map (·.1)).length<=sizeLine:=by rw[length_map,sizeLine_eq];omega
 refine EX I.kIn O c.sa c.po n.taker c.hd wi hz fun h' O' sb=>h _ ?_;have hd:∃o,h'.get? dx=some o:=let ⟨o,_,_,e',_⟩:=O'.ns;⟨o,e'⟩
 refine I.write (x:=a) (e:=dx) (by rw[e];exact True.intro) (.inr ho) (fun b q hb z=>(sb.2 b hb).trans z) hd ?_;refine⟨by rw[bj O.ne];exact ho,?_,O.ne,O'.obj,_,O'.ns,fun g=>?_,fun g hg=>?_⟩
 ·have:=zx f y fs;omega
 ·show c9 ((eY f y fs).lookup g) (if g=f then some u else mA g);rw[zy]
  by_cases q:g=f
  ·rw[if_pos q,if_pos q];exact ry
  ·rw[if_neg q,if_neg q];exact r g
 ·by_cases q:g=f
  ·rw[q];exact(tG f y fs).1
  ·refine(tG f y fs).2 g (wi g fun z=>hg ?_);show(if g=f then some u else mA g)=none;rw[if_neg q];exact z
theorem Inv.made(I:Inv X pins σ H s):Inv X pins σ (upd (upd H s.heap.objs.size (.own (s.heap.objs.size+1))) (s.heap.objs.size+1) (.ins C s.heap.objs.size []))
  { s with heap:=(s.heap.push emptyDict).push (instObj C s.heap.objs.size) }:=by
 have e1:(s.heap.push emptyDict).get? s.heap.objs.size=some emptyDict:=Heap.get?_push_size s.heap rfl;have e2:((s.heap.push emptyDict).push (instObj C s.heap.objs.size)).get? (s.heap.objs.size+1)=some (instObj C s.heap.objs.size):=by have:=Heap.get?_push_size (s.heap.push emptyDict) (o:=instObj C s.heap.objs.size) rfl;rwa [Heap.size_push] at this
 have e3:(s.heap.push emptyDict).Ns s.heap.objs.size (fun _=>none):=⟨emptyDict,#[],_,e1,rfl,(fun e he=>absurd he (by simp)),fun _=>rfl⟩
 have I1:=I.laid (a:=s.heap.objs.size) (o:=.own (s.heap.objs.size+1)) (h':=s.heap.push emptyDict) (t':=s.toks) (fun b u q=>Heap.get?_push_of_some _ q) (le_refl _) ⟨_,e1⟩;refine I1.laid (a:=s.heap.objs.size+1) (o:=.ins C s.heap.objs.size []) (t':=s.toks) (fun b u q=>Heap.get?_push_of_some _ q) (le_of_eq (Heap.size_push _ _)) ?_;have ne:s.heap.objs.size≠s.heap.objs.size+1:=ne_of_lt (lt_succ_self _);refine⟨by rw[bj ne,ak],zero_le _,ne,e2,fun _=>none,(Heap.Ns1.of_empty e3).at fun o q=>Heap.get?_push_of_some _ q,fun _=>True.intro,fun y hy=>absurd rfl hy⟩
theorem xq{env:Env}{f:Str}(hb:attributeBase e f env (eval e env)=eval e env)(h:wpAny (model prog w) A (eval e env) (fun o s₁=>wpAny (model prog w) A (getAttr o f true) Q E s₁) E s):wpAny (model prog w) A (eval (.Attribute e f pos) env) Q E s :=
 Attribute_any_ h (by rw[arm_eval_Attribute,hb])
end
def Ae(K:Frag)(ta:TE)(f:Str):TE:=fun σ H Q=>ta σ H fun x H1=>∃a C dx fs v,x=.ref a/\H1 a=some (.ins C dx fs)/\Cls K C/\NoAttr K C f/\fs.lookup f=some v/\Q v H1
def Ad(K:Frag)(ta tv:TE)(f:Str):TS:=fun D σ H=>tv σ H fun y H1=>ta σ H1 fun x H2=>∃a C dx fs,x=.ref a/\H2 a=some (.ins C dx fs)/\Cls K C/\NoAttr K C f/\fs.length<1000 /\
 D.nx σ (upd H2 a (.ins C dx (eY f y fs)))
section
variable {o value:Expr} {f:Str} {tpos:Pos} {tv:TE}
theorem Cq(he:PE X e ta)(hb:attributeBase e f X.env (eval e X.env)=eval e X.env):PE X (.Attribute e f pos) (Ae X.K ta f):=by
 intro pins s σ H Q I h;refine xq hb (aN (he pins s σ H _ I h) fun u s1 ⟨x,H1,I1,rx,a,C,dx,fs,v,ex,ea,c,n,l,q⟩=>?_);subst ex;obtain rfl:u=Value.ref a:=rx;exact HQ I1 ea c n l fun u' s2 I2 ru=>⟨v,H1,I2,ru,q⟩
theorem Cp(ha:PE X o ta)(hv:PE X value tv)(hs:swapsWith value (some (.Attribute o f pos')) pos.line X.env=pure false):PS X (.Assign [.Attribute o f pos'] value pos) (Ad X.K ta tv f):=by
 intro pins s σ H D I h;refine plainObj_wpAny_Assign_Attribute (aN (hv pins s σ H _ I h) fun u s1 ⟨y,H1,I1,ry,q⟩=>aN (ha pins s1 σ H1 _ I1 q) fun ov s2 ⟨x,H2,I2,rx,a,C,dx,fs,ex,ea,c,n,l,q2⟩=>?_) hs;subst ex;obtain rfl:ov=Value.ref a:=rx;exact HP I2 ea c n l ry fun s3 I3=>⟨σ,_,I3,q2⟩
end
section
variable {σ:St} {c:Value} {b:Bool}
inductive cQ (K:Frag) (H:Hp):V->Value->Prop where
 | non:cQ K H .non (.type "NoneType")
 | bl (x:Bool):cQ K H (.bl x) (.type "bool")
 | int (i:Int):cQ K H (.int i) (.type "int")
 | str (x:Str):cQ K H (.str x) (.type "str")
 | flt (x:UInt64):cQ K H (.flt x) (.type "float")
 | lst {a:Addr} {xs:List V} (e:H a=some (.lst xs)):cQ K H (.ref a) (.type "list")
 | frz {a:Addr} {o:Obj} {xs:List V} (e:H a=some (.frz o (.lst xs))):cQ K H (.ref a) (.type "list")
 | tup {a:Addr} {xs:List V} (e:H a=some (.tup xs)):cQ K H (.ref a) (.type "tuple")
 | dK {a:Addr} {kvs:List (Key×V)} (e:H a=some (.dK kvs)):cQ K H (.ref a) (.type "dict")
 | dT {a:Addr} {kvs:List (List Key×V)} (e:H a=some (.dT kvs)):cQ K H (.ref a) (.type "dict")
 | ins {a C dx:Addr} {fs:List (Str×V)} (e:H a=some (.ins C dx fs)) (cl:Cls K C) (ha:findIn K (.ref C) "__class__" = some (some (.builtin "object.__class__")))
   (hn:PySem.W.specialIn K (.builtin "object.__class__") "__get__" = some (some (.builtin "getset_descriptor.__get__"))) (htk:PySem.W.takesIn K (.builtin "object.__class__")=some true)
   (hm:mroIn K C (.type "object")=some true):cQ K H (.ref a) (.ref C)
theorem Hx{x:V}{t:Value}(I:Inv X pins σ H s)(rx:RelV x u)(ty:cQ X.K H x t)(e:kitOne X.K t c=some b)(h:∀tk,Q (.bool b) { s with toks:=tk }) :
  wpAny (model X.prog X.w) A (call (.builtin "isinstance") [u,c]) Q E s:=by
 cases ty with
 | non=>cases (show u=Value.none from rx);exact kia_one PySem.W.kitx_none I.kIn True.intro e (fun z=>nomatch z) h
 | bl y=>cases (show u=Value.bool y from rx);exact kia_one PySem.W.kitx_bool I.kIn True.intro e (fun z=>nomatch z) h
 | int i=>obtain⟨t,q⟩:=(show ∃t,u=Value.int i t from rx);cases q;exact kia_one PySem.W.kitx_int I.kIn True.intro e (fun z=>nomatch z) h
 | str y=>obtain⟨t,q⟩:=(show ∃t,u=Value.str y t from rx);cases q;exact kia_one PySem.W.kitx_str I.kIn True.intro e (fun z=>nomatch z) h
 | flt y=>obtain⟨t,q⟩:=(show ∃t,u=Value.float y t from rx);cases q;exact kia_one PySem.W.kitx_float I.kIn True.intro e (fun z=>nomatch z) h
 | @lst a xs ea =>
  cases (show u=Value.ref a from rx);obtain⟨_,_,n,_,h1⟩:=(show aA X.prog X.w H s.heap a (.lst xs) from I.hok a _ ea)
  exact kia_one kitx_list I.kIn ⟨_,h1,rfl⟩ e (fun z=>nomatch z) h
 | @frz a ob xs ea =>
  cases (show u=Value.ref a from rx);obtain⟨_,_,_,n,_,h1⟩:=(show aA X.prog X.w H s.heap a (.frz ob (.lst xs)) from I.hok a _ ea)
  exact kia_one kitx_list I.kIn ⟨_,h1,rfl⟩ e (fun z=>nomatch z) h
 | @tup a xs ea =>
  cases (show u=Value.ref a from rx);obtain⟨_,_,_,p⟩:=(show aA X.prog X.w H s.heap a (.tup xs) from I.hok a _ ea)
  obtain⟨o,h1,h2,_⟩:=p;exact kia_one PySem.W.kitx_tuple I.kIn ⟨o,h1,h2⟩ e (fun z=>nomatch z) h
 | @dK a kvs ea =>
  cases (show u=Value.ref a from rx);obtain⟨_,_,vs,_,p⟩:=(show aA X.prog X.w H s.heap a (.dK kvs) from I.hok a _ ea)
  obtain⟨o,es,ep,h1,h2,_⟩:=p;exact kia_one kitx_dict I.kIn ⟨o,h1,h2.1⟩ e (fun z=>nomatch z) h
 | @dT a kvs ea =>
  cases (show u=Value.ref a from rx);obtain⟨_,_,xs,_,o,es,ep,h1,h2,_⟩:=(show aA X.prog X.w H s.heap a (.dT kvs) from I.hok a _ ea)
  exact kia_one kitx_dict I.kIn ⟨o,h1,h2.1⟩ e (fun z=>nomatch z) h
 | @ins a C dx fs ea cl ha hn htk hm =>
  cases (show u=Value.ref a from rx);obtain⟨mA,O,_⟩:=pj I.hok ea;obtain⟨od,J,_⟩:=O.look;exact kia_one (PySem.W.kitx_own (cl.get _) cl.hd ha hn htk hm) I.kIn J e (fun z=>nomatch z) h
end
structure aR (k:Nat) (A:Around):Prop where
 hd:A.handled=none
 dp:A.depth+3*k+5<recursionLimit
 un:A.units+16*k+200<cLine
theorem aR.mono{j:Nat}(r:aR k A)(h:j<=k):aR j A:=⟨r.hd,by have:=r.dp;omega,by have:=r.un;omega⟩
theorem aR.deeper(r:aR (k+1) A)(env:Env):aR k (A.deeper env) :=
 ⟨r.hd,by have:=r.dp;show A.depth+1+3*k+5<_;omega,by have:=r.un;show A.units+3+16*k+200<_;omega⟩
theorem HN{C:Addr}:(A.under (.builtin "type.__call__" ⟨.ref C::us,kw⟩)).depth=A.depth+1:=by
 first|rfl|simp[Around.under,Code.weight,Code.isCreation,Code.isGuard,Code.isCaller,Code.frames,Code.isFrame,guardIds]
theorem HM{C:Addr}:(A.under (.builtin "type.__call__" ⟨.ref C::us,kw⟩)).units=A.units+1:=by
 first|rfl|simp[Around.under,Code.cUnits,Code.frames,Code.isFrame]
theorem aR.make(r:aR (k+1) A)(C:Addr)(us:List Value)(kw:List (Str×Value)):aR k (A.under (.builtin "type.__call__" ⟨.ref C::us,kw⟩)) :=
 ⟨r.hd,by have:=r.dp;rw[HN];omega,by have:=r.un;rw[HM];omega⟩
theorem aR.depth(r:aR k A):A.depth<recursionLimit:=by have:=r.dp;omega
theorem aR.units(r:aR k A):A.units+64<cLine:=by have:=r.un;omega
def uG:TA:=fun _ H Q=>Q [] H
def AZ(ta:TE)(tr:TA):TA:=fun σ H Q=>ta σ H fun x H1=>tr σ H1 fun xs H2=>Q (x::xs) H2
variable {t:TA}
theorem o7:PA X [] uG:=fun _ _ _ _ H Q I h=>Calls.spliced_nil ⟨[],H,I,.nil,h⟩
theorem nV(ha:PE X e te)(hr:PA X es t)(hs:starEach (e::es) X.env=(false,eval e X.env)::starEach es X.env:=by rfl):PA X (e::es) (AZ te t):=by
 intro pos pins s σ H Q I h;rw[hs];show wpAny _ _ (spliced ((false,eval e X.env)::backTo pos (starEach es X.env))) _ _ s;refine Calls.spliced_cons (aN (ha pins s σ H _ I h) fun u s1 ⟨x,H1,I1,r1,q1⟩=>?_);exact aN (hr pos pins s1 σ H1 _ I1 q1) fun us s2 ⟨xs,H2,I2,r2,q2⟩=>⟨x::xs,H2,I2,.cons r1 r2,q2⟩
def Ac(t:TA):TE:=fun σ H Q=>t σ H fun xs H1=>xs.length<=sizeLine/\∀p,H1 p=none->Q (.ref p) (upd H1 p (.tup xs))
def Ab(t:TA):TE:=fun σ H Q=>t σ H fun xs H1=>xs.length<=sizeLine/\∀p,H1 p=none->Q (.ref p) (upd H1 p (.lst xs))
theorem vJ{x1}(h:PA X es t):PE X (.Tuple es x1 pos) (Ac t):=by intro pins s σ H Q I hq;refine wpAny_Tuple_spliced (aN (h pos pins s σ H _ I hq) fun us s1 ⟨xs,H1,I1,r,z,q⟩=>⟨by rw[<- r.length];exact z,?_⟩);have hf:H1 s1.heap.objs.size=none:=I1.hok.fresh (le_refl _);refine⟨.ref s1.heap.objs.size,upd H1 s1.heap.objs.size (.tup xs),I1.laid (t':=s1.toks) (fun b u e=>Heap.get?_push_of_some _ e) (le_refl _) ?_,rfl,q _ hf⟩;exact⟨z,us,r,⟨_,Heap.get?_push_size _ rfl,rfl,⟨_,rfl⟩,rfl⟩⟩
theorem rS(h:PA X es t):PE X (.List es pos) (Ab t):=by intro pins s σ H Q I hq;refine wpAny_List_spliced (aN (h pos pins s σ H _ I hq) fun us s1 ⟨xs,H1,I1,r,z,q⟩=>⟨by rw[<- r.length];exact z,?_⟩);have hf:H1 s1.heap.objs.size=none:=I1.hok.fresh (le_refl _);refine⟨.ref s1.heap.objs.size,upd H1 s1.heap.objs.size (.lst xs),I1.laid (t':=s1.toks) (fun b u e=>Heap.get?_push_of_some _ e) (le_refl _) ?_,rfl,q _ hf⟩;exact⟨z,us,0,r,Heap.get?_push_size _ rfl⟩
abbrev Sp:=List V->Hp->VK->XK->Prop
abbrev i4:=List Env->Hp->Shared->XK->Value->Shared->Prop
structure gx (P:Program) (w:World) (K:Frag) (mg:Str->Option Value) (base:Heap) (A:Around) (outer:List Env) (s:Shared) (H:Hp):Prop where
 frames:A.frames=some outer
 mod:Mod K mg base
 bs:∀b o,base.get? b=some o->s.heap.get? b=some o/\H b=none
 bsz:base.objs.size<=s.heap.objs.size
 funs:s.heap.FunFrames base outer
 frf:∀b∈cW outer,H b=none
 hok:bY P w H s.heap
 bare:AllBare s.gens
def CE(outer:List Env)(P:Program)(w:World)(H:Hp)(s:Shared)(Q:VK)(u:Value)(s':Shared):Prop :=
 ∃v H',s'.os=s.os/\AllBare s'.gens/\Un (cW outer) [] H H' s.heap s'.heap/\bY P w H' s'.heap/\RelV v u/\Q v H'
def CR(CX:i4)(outer:List Env)(P:Program)(w:World)(H:Hp)(s:Shared)(Q:VK)(E:XK)(r:Result)(s':Shared):Prop :=
 match r with
 | .ok (.ret u)=>CE outer P w H s Q u s'
 | .ok _=>False
 | .error e=>CX outer H s E e s'
structure ay (P:Program) (w:World) (K:Frag) (mg:Str->Option Value) (base:Heap) (CX:i4) (k:Nat) (f:Addr) (fd:FuncData) (ps:List Str) (sp:Sp):Prop where
 len:∀vs H Q E,sp vs H Q E->vs.length=ps.length
 run:∀(A:Around) (outer:List Env) (s:Shared) (H:Hp) (args:Args) (us:List Value) (vs:List V) (Q:VK) (E:XK),aR k A->gx P w K mg base A outer s H->BindsTo s fd args (ps.zip us)->Vals vs us->sp vs H Q E ->
  codeAny (model P w) A (.call (.ref f) args) (CR CX outer P w H s Q E) s
variable {mg:Str->Option Value} {base:Heap} {CX:i4} {fd:FuncData} {ps:List Str} {sp:Sp}
theorem ay.imp{f:Addr}{sp':Sp}(F:ay P w K mg base CX k f fd ps sp)(h:∀vs H Q E,sp' vs H Q E->sp vs H Q E):ay P w K mg base CX k f fd ps sp' :=
 ⟨fun vs H Q E q=>F.len vs H Q E (h _ _ _ _ q),fun A outer s H args us vs Q E hr he hb hv hs=>F.run A outer s H args us vs Q E hr he hb hv (h _ _ _ _ hs)⟩
variable {outer:List Env}
theorem gx.make(e:gx P w K mg base A outer s H)(C:Addr)(us:List Value)(kw:List (Str×Value)) :
  gx P w K mg base (A.under (.builtin "type.__call__" ⟨.ref C::us,kw⟩)) outer s H:=⟨by first|exact e.frames|(simpa[Around.under,Code.envs,Code.isFrame,pushEnvs] using e.frames),e.mod,e.bs,e.bsz,e.funs,e.frf,e.hok,e.bare⟩
section
variable {σ:St}
theorem Inv.env0(I:Inv X pins σ H s):gx X.prog X.w X.K X.mg X.base X.A X.stack s H :=
 ⟨I.ok.frames,I.ok.mod,I.bs,le_trans I.ok.bsz I.sz,I.stack,I.stkFree,I.hok,I.bare⟩
theorem Inv.after{Q:VK}(I:Inv X pins σ H s)(h:CE X.stack X.prog X.w H s Q u s'):EP X pins σ Q u s':=by obtain⟨v,H',os,bare,un,hok,r,q⟩:=h;obtain⟨hh,g,d,t,os'⟩:=s';obtain rfl:os'=s.os:=os;exact⟨v,H',I.call (h':=hh) (g':=g) (d':=d) (t':=t) (ch:=[]) un hok bare (fun b z=>absurd z (by simp)),r,q⟩
end
def AY(sp:Sp)(dvs:List V)(E:XK)(t:TA):TE:=fun σ H Q=>t σ H fun vs H1=>sp (vs++dvs) H1 Q E
def vg(C:Addr)(m:Str)(sp:Sp)(dvs:List V)(E:XK)(ta:TE)(t:TA):TE:=fun σ H Q=>ta σ H fun x H1=>∃a dx fs,x=.ref a/\H1 a=some (.ins C dx fs)/\fs.lookup m=none /\
 t σ H1 fun vs H2=>sp (x::(vs++dvs)) H2 Q E
def AX(C:Addr)(sp:Sp)(dvs:List V)(E:XK)(t:TA):TE:=fun σ H Q=>t σ H fun vs H1=>∀x dx,H1 x=none->H1 dx=none->dx≠x ->
 sp (.ref x::(vs++dvs)) (upd (upd H1 dx (.own x)) x (.ins C dx [])) (fun v H2=>v=.non/\Q (.ref x) H2) E
def Binds(K:Frag)(fd:FuncData)(ps:List Str)(ds:List Value):Prop :=
 ∀(s:Shared) (us:List Value),K.In s.heap->(us++ds).length=ps.length->BindsTo s fd ⟨us,[]⟩ (ps.zip (us++ds))
theorem Binds.all(h:∀us:List Value,us.length=ps.length->bindArgs fd ⟨us,[]⟩=pure (ps.zip us)):Binds K fd ps []:=fun s us _ hl=>by
 rw[append_nil] at hl ⊢;exact .of_eq (h us hl)
def gh(CX:i4)(X:Cx)(E:XK):Prop:=∀(pins:List (Addr×Obj)) (σ:St) (H:Hp) (s:Shared) (e:Value) (s':Shared),Inv X pins σ H s->CX X.stack H s E e s'->X.xe e s'
variable {vs:List V} {apos:Pos}
section
variable {f C:Addr} {dvs:List V} {ds:List Value} {E:XK} {x:Str} {o:Expr}
theorem mm{σ:St}{Q:VK}(F:ay X.prog X.w X.K X.mg X.base CX k f fd ps sp)(hr:aR k X.A)(hb:Binds X.K fd ps ds)(hd:Vals dvs ds)(hx:gh CX X E)(I:Inv X pins σ H s)(r:Vals vs us)(h:sp (vs++dvs) H Q E):wpAny (model X.prog X.w) X.A (call (.ref f) us) (EP X pins σ Q) X.xe s:=by
 have r2:Vals (vs++dvs) (us++ds):=r.append hd;have hl:(us++ds).length=ps.length:=by rw[<- r2.length];exact F.len _ _ _ _ h
 refine wpAny_call (codeAny_mono (F.run X.A X.stack s H ⟨us,[]⟩ (us++ds) (vs++dvs) Q E hr I.env0 (hb s us I.kIn hl) r2 h) fun r s' hq=>?_);cases r with
 | error e=>exact hx pins σ H s e s' I hq
 | ok fl =>
  cases fl with
  | ret u=>exact I.after hq
  | next=>exact False.elim hq
  | brk=>exact False.elim hq
  | cont=>exact False.elim hq
theorem EW(F:ay X.prog X.w X.K X.mg X.base CX k f fd ps sp)(hr:aR k X.A)(hg:Gl X x)(hm:X.mg x=some (.ref f))(hk:keepIn X.K (.ref f)=true)(hb:Binds X.K fd ps ds)(hd:Vals dvs ds)(hx:gh CX X E)(ha:PA X (e::es) t)(hdb:(x==("__debug__" : Str))=false:=by decide)(he:starEach (e::es) X.env=(false,eval e X.env)::starEach es X.env:=by rfl)(hpl:(backTo pos (starEach es X.env)).any (·.1)=false:=by rfl) :
  PE X (.Call (.Name x p) (e::es) [] pos) (AY sp dvs E t):=by
 intro pins s σ H Q I h;refine wpAny_Call_Name_kw (lg I hg hm ?_ hdb);refine callWith_K (h₀:=X.base) I.ok.mod.kin hk (aN (ha pos pins s σ H _ I h) fun us s1 ⟨vs,H1,I1,r,q⟩=>⟨I1.kIn,?_⟩) he hpl;exact mm F hr hb hd hx I1 r q
theorem EV(he:PE X o ta)(c:Cls X.K C)(hm:Meth X.K C m f)(F:ay X.prog X.w X.K X.mg X.base CX k f fd ps sp)(hr:aR k X.A)(hb:Binds X.K fd ps ds)(hd:Vals dvs ds)(hx:gh CX X E)(ha:PA X (e::es) t)(hst:starEach (e::es) X.env=(false,eval e X.env)::starEach es X.env:=by rfl)(hpl:(backTo pos (starEach es X.env)).any (·.1)=false:=by rfl)(ht:eval (.Call (.Attribute o m apos) (e::es) [] pos) X.env=(do
   let ov <- eval o X.env
   standAt apos.atName
   let (f,first) <- holding [ov] (getMethod ov m pl)
   callWith pos f first (backTo pos (starEach (e::es) X.env)) (backToKw pos (keywordEach [] X.env))):=by rfl) :
  PE X (.Call (.Attribute o m apos) (e::es) [] pos) (vg C m sp dvs E ta t):=by
 intro pins s σ H Q I h;refine methodCall_KW (pl:=pl) (aN (he pins s σ H _ I h) fun u s1 ⟨x,H1,I1,rx,a,dx,fs,ex,ea,l,q⟩=>?_) ht;subst ex;obtain rfl:u=Value.ref a:=rx;refine tO I1 ea c hm l ?_;refine callWith_K (first:=[.ref a]) (h₀:=X.base) I.ok.mod.kin hm.kp (aN (ha pos pins s1 σ H1 _ I1 q) fun us s2 ⟨vs,H2,I2,r,q2⟩=>⟨I2.kIn,?_⟩) hst hpl;exact mm (us:=.ref a::us) (vs:=.ref a::vs) F hr hb hd hx I2 (.cons rfl r) q2
theorem GG(he:PE X o ta)(c:Cls X.K C)(hm:Meth X.K C m f)(F:ay X.prog X.w X.K X.mg X.base CX k f fd ps sp)(hr:aR k X.A)(hb:Binds X.K fd ps ds)(hd:Vals dvs ds)(hx:gh CX X E)(ht:eval (.Call (.Attribute o m apos) [] [] pos) X.env=(do
   let ov <- eval o X.env
   standAt apos.atName
   let (f,first) <- holding [ov] (getMethod ov m pl)
   callWith pos f first (backTo pos (starEach [] X.env)) (backToKw pos (keywordEach [] X.env))):=by rfl) :
  PE X (.Call (.Attribute o m apos) [] [] pos) (vg C m sp dvs E ta uG):=by
 intro pins s σ H Q I h;refine methodCall_KW (pl:=pl) (aN (he pins s σ H _ I h) fun u s1 ⟨x,H1,I1,rx,a,dx,fs,ex,ea,l,q⟩=>?_) ht;subst ex;obtain rfl:u=Value.ref a:=rx;refine tO I1 ea c hm l ?_;exact PySem.W.callWith_K0 (first:=[.ref a]) I1.kIn hm.kp (mm (us:=[.ref a]) (vs:=[.ref a]) F hr hb hd hx I1 (.cons rfl .nil) q)
structure Mk (K:Frag) (C f:Addr):Prop where
 makes:makesIn K C=true
 init:findIn K (.ref C) "__init__" = some (some (.ref f))
 fn:isFn K (.ref f)=true
 kp:keepIn K (.ref C)=true
theorem GF{σ:St}{Q:VK}(M:Mk X.K C f)(F:ay X.prog X.w X.K X.mg X.base CX k f fd ps sp)(hr:aR (k+1) X.A)(hb:Binds X.K fd ps ds)(hd:Vals dvs ds)(hx:gh CX X E)(I:Inv X pins σ H s)(r:Vals vs us)(h:∀x dx,H x=none->H dx=none->dx≠x->sp (.ref x::(vs++dvs)) (upd (upd H dx (.own x)) x (.ins C dx [])) (fun v H2=>v=.non/\Q (.ref x) H2) E) :
  wpAny (model X.prog X.w) X.A (call (.ref C) us) (EP X pins σ Q) X.xe s:=by
 have hq:=h (s.heap.objs.size+1) s.heap.objs.size (I.hok.fresh (le_succ _)) (I.hok.fresh (le_refl _)) (ne_of_lt (lt_succ_self _));have I2:=Inv.made (C:=C) I;have r2:Vals (V.ref (s.heap.objs.size+1)::(vs++dvs)) (Value.ref (s.heap.objs.size+1)::(us++ds)):=.cons rfl (r.append hd);have hl:(Value.ref (s.heap.objs.size+1)::us++ds).length=ps.length:=by have e:=r2.length;rw[F.len _ _ _ _ hq] at e;exact e.symm
 refine wpAny_call (GH (f:=f) I.kIn M.makes M.init (beq_iff_eq.mp M.fn) (codeAny_mono (F.run _ X.stack _ _ ⟨Value.ref (s.heap.objs.size+1)::us,[]⟩ (Value.ref (s.heap.objs.size+1)::(us++ds)) _ _ E (hr.make C us [])
  (I2.env0.make C us []) (hb _ (Value.ref (s.heap.objs.size+1)::us) I2.kIn hl) r2 hq) fun r s' hq'=>?_))
 cases r with
 | error e=>exact hx pins σ _ _ e s' I2 hq'
 | ok fl =>
  cases fl with
  | ret u =>
   obtain⟨v,H',I3,rv,ev,q3⟩:=I2.after hq';subst ev;exact⟨rv,⟨V.ref (s.heap.objs.size+1),H',I3,rfl,q3⟩⟩
  | next=>exact False.elim hq'
  | brk=>exact False.elim hq'
  | cont=>exact False.elim hq'
theorem EU(M:Mk X.K C f)(F:ay X.prog X.w X.K X.mg X.base CX k f fd ps sp)(hr:aR (k+1) X.A)(hg:Gl X x)(hm:X.mg x=some (.ref C))(hb:Binds X.K fd ps ds)(hd:Vals dvs ds)(hx:gh CX X E)(ha:PA X (e::es) t)(hdb:(x==("__debug__" : Str))=false:=by decide)(he:starEach (e::es) X.env=(false,eval e X.env)::starEach es X.env:=by rfl)(hpl:(backTo pos (starEach es X.env)).any (·.1)=false:=by rfl) :
  PE X (.Call (.Name x p) (e::es) [] pos) (AX C sp dvs E t):=by
 intro pins s σ H Q I h;refine wpAny_Call_Name_kw (lg I hg hm ?_ hdb);refine callWith_K (h₀:=X.base) I.ok.mod.kin M.kp (aN (ha pos pins s σ H _ I h) fun us s1 ⟨vs,H1,I1,r,q⟩=>⟨I1.kIn,?_⟩) he hpl;exact GF M F hr hb hd hx I1 r q
end
section
variable {f C:Addr} {ks:List Str} {E:XK} {x:Str} {kpos:Pos} {o:Expr} {kws:List Keyword} {tk:TA} {nm:Option Str}
variable {g:List Value->List Value->List Value} {gV:List V->List V->List V}
end
structure ao (N P:List Str) (sc:Scope):Prop where
 kind:sc.kind=.function
 co:sc.isCoroutine=false
 gen:sc.isGenerator=false
 nd:N.Nodup
 pre:N.take P.length=P
 par:∀x∈P,sc.names.lookup x=some .local\/sc.names.lookup x=some .cell
 nofree:∀y∈sc.names,y.2≠.free
theorem yC{kindOf:Str->Option NameKind}{x:Str}:∀{binds:List (Str×Value)} {m:Str->Option Value},(∀v,(x,v)∉binds)->bindL kindOf binds m x=m x
 | [],_,_=>rfl
 | (n,v)::r,m,h=>by
  unfold bindL;rw[yC fun w hw=>h w (mem_cons_of_mem _ hw)];split
  ·have:x≠n:=by rintro rfl;exact h v mem_cons_self
   simp[this]
  ·rfl
theorem yB{kindOf:Str->Option NameKind}{x:Str}:∀{binds:List (Str×Value)} {m:Str->Option Value},(∀v,(x,v)∉binds)->bindC kindOf binds m x=m x
 | [],_,_=>rfl
 | (n,v)::r,m,h=>by
  unfold bindC;rw[yB fun w hw=>h w (mem_cons_of_mem _ hw)];split
  ·rfl
  ·have:x≠n:=by rintro rfl;exact h v mem_cons_self
   simp[this]
theorem yA{kindOf:Str->Option NameKind}{x:Str}{v:Value}:∀{P:List Str} {vs:List Value} {i:Nat} {m:Str->Option Value},P.Nodup->P[i]?=some x->vs[i]?=some v->kindOf x=some .local ->
  bindL kindOf (P.zip vs) m x=some v
 | [],_,_,_,_,h,_,_=>by simp at h
 | _::_,[],_,_,_,_,h,_=>by simp at h
 | p::P,w::vs,0,m,nd,h1,h2,hk=>by
  simp at h1 h2;subst h1;subst h2;show bindL kindOf ((p,w)::P.zip vs) m p=_;unfold bindL;rw[yC fun v hv=>(nodup_cons.mp nd).1 (of_mem_zip hv).1,if_pos hk];simp
 | p::P,w::vs,i+1,m,nd,h1,h2,hk=>by
  show bindL kindOf ((p,w)::P.zip vs) m x=_;unfold bindL;exact yA (i:=i) (nodup_cons.mp nd).2 (by simpa using h1) (by simpa using h2) hk
theorem yz{kindOf:Str->Option NameKind}{x:Str}{v:Value}:∀{P:List Str} {vs:List Value} {i:Nat} {m:Str->Option Value},P.Nodup->P[i]?=some x->vs[i]?=some v->kindOf x≠some .local ->
  bindC kindOf (P.zip vs) m x=some v
 | [],_,_,_,_,h,_,_=>by simp at h
 | _::_,[],_,_,_,_,h,_=>by simp at h
 | p::P,w::vs,0,m,nd,h1,h2,hk=>by
  simp at h1 h2;subst h1;subst h2;show bindC kindOf ((p,w)::P.zip vs) m p=_;unfold bindC;rw[yB fun v hv=>(nodup_cons.mp nd).1 (of_mem_zip hv).1,if_neg hk];simp
 | p::P,w::vs,i+1,m,nd,h1,h2,hk=>by
  show bindC kindOf ((p,w)::P.zip vs) m x=_;unfold bindC;exact yz (i:=i) (nodup_cons.mp nd).2 (by simpa using h1) (by simpa using h2) hk
def start(N:List Str)(vs:List V):St:=vs.map some++List.replicate (N.length-vs.length) none
def gO(CX:i4)(P:Program)(w:World)(K:Frag)(mg:Str->Option Value)(base:Heap)(N:List Str)(qual:Str)(scope:Scope)(f:Addr)(cd:Value)(A:Around)(outer:List Env)(s:Shared)(H:Hp)(E:XK):Cx where
 prog:=P
 w:=w
 K:=K
 mg:=mg
 base:=base
 A:=A.deeper (envOfC qual scope s.heap.objs.size f cd)
 N:=N
 s₀:=s
 H₀:=H
 env:=envOfC qual scope s.heap.objs.size f cd
 outer:=outer
 stack:=envOfC qual scope s.heap.objs.size f cd::outer
 ex:=[]
 calm:=true
 fn:=fun _=>true
 pn:=[]
 xe:=fun e s'=>wpAny (model P w) (A.deeper (envOfC qual scope s.heap.objs.size f cd)) (leaving (envOfC qual scope s.heap.objs.size f cd) e) (fun _ s''=>CX outer H s E e s'') (fun e' s''=>CX outer H s E e' s'') s'
theorem yg{sc:Scope}{x:Str}(h:sc.names.lookup x=some .cell):∃c,(cellsFrom n sc.names []).lookup x=some c:=by have q:=cellsFrom_some sc.names n [] (.inl h);exact isSome_iff_exists.mp q
variable {qual:Str} {scope:Scope}
theorem Hw{f:Addr}{cd:Value}{s1:Shared}{E:XK}(S:ao N ps scope)(hd:A.handled=none)(e0:gx P w K mg base A outer s H)(hl:vs.length=ps.length)(r:Vals vs us)(x:InCallC s s.heap.objs.size (bindL (envOfC qual scope s.heap.objs.size f cd).kindOf (ps.zip us) fun _=>none) (cellsFrom (s.heap.objs.size+1) scope.names []) (bindC (envOfC qual scope s.heap.objs.size f cd).kindOf (ps.zip us) fun _=>none) s1) :
  Inv (gO CX P w K mg base N qual scope f cd A outer s H E) [] (start N vs) H s1:=by
 have hpl:ps.length<=N.length:=by have:=congrArg List.length S.pre;rw[length_take] at this;omega
 obtain⟨h1,tk,rfl,hk⟩:=x.done;have noA:∀b:Addr,b∉(gO CX P w K mg base N qual scope f cd A outer s H E).ex:=fun b z=>absurd (show b∈([]:List Addr) from z) (by simp);refine⟨⟨e0.mod,S.kind,rfl,rfl,le_refl _,fun y z c h1 h2=>?_,fun y hy=>?_,fun y c _ h=>?_,fun _=>hd,Around.frames_deeper e0.frames,.inr ⟨rfl,rfl⟩,fun b z=>absurd z (noA b),e0.bs,e0.bsz,fun b _ _=>noA b,fun b z=>absurd z (noA b),e0.funs,e0.frf⟩,
  rfl,e0.bare,Un.kept hk,⟨_,x.toInCall.ns,fun i y v h1 h2 h3=>?_⟩,fun y c h=>⟨_,x.cell y c h⟩,e0.hok.fresh (le_refl _),fun y c h=>?_,fun p hp=>absurd (show p∈([]:List (Addr×Obj)) from hp) (by simp),e0.hok.kept hk,?_⟩
 ·exact name_of_addr x.apart (PySem.mem_of_lookup h1) (PySem.mem_of_lookup h2)
 ·have hy:scope.names.lookup y=some .cell\/scope.names.lookup y=some .free:=hy;rcases hy with hy|hy
  ·exact yg hy
  ·exact absurd rfl (S.nofree _ (PySem.mem_of_lookup hy))
 ·exact le_of_lt (x.above y c (PySem.mem_of_lookup h))
 ·have hi:i<vs.length:=by
   unfold start at h2
   by_cases hi:i<vs.length
   ·exact hi
   ·rw[getElem?_append_right (by simpa using hi)] at h2;rw[getElem?_replicate] at h2;split at h2<;>cases h2
  have ha:vs[i]?=some v:=by
   unfold start at h2;rw[getElem?_append_left (by simpa using hi),getElem?_map] at h2;cases e:vs[i]? with
   | none=>rw[e] at h2;cases h2
   | some a=>rw[e] at h2;cases h2;rfl
  obtain⟨u,hu,rv⟩:=r.get ha;have hp:ps[i]?=some y:=by rw[<- S.pre,getElem?_take_of_lt (by omega)];exact h1
  have ndP:ps.Nodup:=by rw[<- S.pre];exact S.nd.sublist (take_sublist _ _)
  refine⟨u,rv,?_⟩;rcases S.par y (mem_of_getElem? hp) with k|k
  ·exact .inl ⟨k,yA ndP hp hu k⟩
  ·obtain⟨c,e⟩:=yg (n:=s.heap.objs.size+1) k;refine .inr ⟨.inl k,c,e,?_⟩;have q:=x.cell y c e;rw[yz ndP hp hu (by show scope.names.lookup y≠_;rw[k];decide)] at q;exact q
 ·exact e0.hok.fresh (le_of_lt (x.above y c (PySem.mem_of_lookup h)))
 ·unfold start;show _=N.length;rw[length_append,length_map,length_replicate];omega
theorem AW{f:Addr}{params:Arguments}{dV kV doc pm cdv ct oc:Value}{an od:Option Addr}{osl:Array (Option Value)}(lk:K.lookup f=some ⟨oc,od,.func (fnOf name qual params body scope dV kV doc pm an cdv ct),osl⟩)(hcd:codeIn K cdv qual=true)(S:ao N ps scope)(len:∀vs H Q E,sp vs H Q E->vs.length=ps.length)(hbody:∀(A:Around) (outer:List Env) (s:Shared) (H:Hp) (vs:List V) (Q:VK) (E:XK),aR k (A.deeper (envOfC qual scope s.heap.objs.size f cdv))->sp vs H Q E ->
   ∃t,PSs (gO CX P w K mg base N qual scope f cdv A outer s H E) body t/\t { nx:=fun _ H'=>Q .non H',rt:=Q } (start N vs) H) :
  ay P w K mg base CX (k+1) f (fnOf name qual params body scope dV kV doc pm an cdv ct) ps sp:=by
 refine⟨len,fun A outer s H args us vs Q E hr e0 hb r hsp=>?_⟩;have hl:=len _ _ _ _ hsp;have KX:K.In s.heap:=e0.mod.kin.keeps fun b o e=>(e0.bs b o e).1;have lim:s.heap.NoLimit:=e0.mod.nolimit.keeps fun b o e=>(e0.bs b o e).1;have hkind:∀y∈ps.zip us,scope.names.lookup y.1=some .local\/(scope.names.lookup y.1=some .cell/\((cellsFrom (s.heap.objs.size+1) scope.names []).lookup y.1).isSome=true):=fun⟨n,v⟩ hy=>by
  rcases S.par n (of_mem_zip hy).1 with q|q
  ·exact .inl q
  ·exact .inr ⟨q,cellsFrom_some _ _ _ (.inl q)⟩
 refine codeAny_call_function hr.depth (KX _ _ lk) rfl S.co S.gen rfl (PySem.W.codeRec_of KX hcd) (hb _ _ _ _ ?_);refine wpAny_newFunctionEnv_cells S.kind hkind fun env he s1 x=>?_;subst he;refine⟨lim.keeps x.toInCall.keep,codeAny_func ?_⟩;obtain⟨t,ht,hq⟩:=hbody A outer s H vs Q E (hr.deeper _) hsp;have I:Inv (gO CX P w K mg base N qual scope f cdv A outer s H E) [] (start N vs) H s1:=Hw S hr.hd e0 hl r x;refine wpAny_mono (ht [] s1 (start N vs) H _ I hq) (fun fl s' hs=>?_) fun e s' hs=>hs;have fin:∀{σ':St} {H':Hp} {v:V} {u:Value},Inv (gO CX P w K mg base N qual scope f cdv A outer s H E) [] σ' H' s'->RelV v u->Q v H'->CE outer P w H s Q u s' :=
  fun {σ' H' v u} J rv q=>⟨v,H',J.os,J.bare,J.base,J.hok,rv,q⟩
 cases fl with
 | ret u =>
  obtain⟨v,σ',H',J,rv,q⟩:=hs;exact fin J rv q
 | next =>
  obtain⟨σ',H',J,q⟩:=hs;exact fin (v:=V.non) (u:=Value.none) J rfl q
 | brk =>
  obtain⟨_,_,_,q⟩:=hs;exact False.elim q
 | cont =>
  obtain⟨_,_,_,q⟩:=hs;exact False.elim q
section
variable {x:Str} {id T:String} {r:List V->Hp->VK->Prop}
def zU(r:List V->Hp->VK->Prop)(t:TA):TE:=fun σ H Q=>t σ H fun vs H1=>r vs H1 Q
theorem yf(hc:aO X (.builtin id) r)(hg:Gl X x)(hm:X.mg x=none)(hv:bootBuiltins x=some (.builtin id))(ha:PA X (e::es) t)(hn:x ≠ "__name__" := by decide)(hdb:(x==("__debug__" : Str))=false:=by decide)(he:starEach (e::es) X.env=(false,eval e X.env)::starEach es X.env:=by rfl)(hpl:(backTo pos (starEach es X.env)).any (·.1)=false:=by rfl):PE X (.Call (.Name x p) (e::es) [] pos) (zU r t):=by intro pins s σ H Q I h;refine wpAny_Call_Name_kw (o8 I hg hm hv ?_ hn hdb);exact PyProof.Rows.callWith_builtin1 (aN (ha pos pins s σ H _ I h) fun us s1 ⟨vs,H1,I1,r1,q1⟩=>hc pins s1 σ H1 vs us Q I1 r1 q1) he hpl
theorem Hv(hc:aO X (.type T) r)(hg:Gl X x)(hm:X.mg x=none)(hv:bootBuiltins x=some (.type T))(ha:PA X (e::es) t)(hn:x ≠ "__name__" := by decide)(hdb:(x==("__debug__" : Str))=false:=by decide)(he:starEach (e::es) X.env=(false,eval e X.env)::starEach es X.env:=by rfl)(hpl:(backTo pos (starEach es X.env)).any (·.1)=false:=by rfl):PE X (.Call (.Name x p) (e::es) [] pos) (zU r t):=by intro pins s σ H Q I h;refine wpAny_Call_Name_kw (o8 I hg hm hv ?_ hn hdb);exact PyProof.Rows.callWith_type1 (aN (ha pos pins s σ H _ I h) fun us s1 ⟨vs,H1,I1,r1,q1⟩=>hc pins s1 σ H1 vs us Q I1 r1 q1) he hpl
end
end L2
namespace HT
open PySem PyProof.Rows
section
open PySem.SeqAt
open PySem.AutoSeq1 (wpAny_loadPart')
open PySem.MeetsSeq PySem.MeetsSeq2 PySem.MeetsSeq3
end
section
variable {prog:Program} {w:World} {A:Around} {E:Value->Shared->Prop} {s:Shared}
def sIx(n d:Nat):Option Int->Nat
 | none=>d
 | some v=>if v<0 then (v+(n:Int)).toNat else min v.toNat n
theorem sIx_nat(n d k:Nat):sIx n d (some (k:Int))=min k n:=by show(if (k:Int)<0 then ((k:Int)+(n:Int)).toNat else min (k:Int).toNat n)=min k n;rw[if_neg (by omega),toNat_natCast]
end
end HT
namespace L2
open PySem PySem.Spec PyProof.Rows
abbrev TO:=St->Hp->(Option Int->Hp->Prop)->Prop
def PO(X:Cx)(e:Option Expr)(t:TO):Prop :=
 ∀(pins:List (Addr×Obj)) (s:Shared) (σ:St) (H:Hp) (Q:Option Int->Hp->Prop),Inv X pins σ H s->t σ H Q ->
  wpAny (model X.prog X.w) X.A (evalPart e X.env) (fun u s'=>∃o H',Inv X pins σ H' s'/\IsPart u o/\Q o H') X.xe s
def Ea:TO:=fun _ H Q=>Q none H
def AV(t:TE):TO:=fun σ H Q=>t σ H fun x H1=>∃i,x=.int i/\Q (some i) H1
theorem zm{ns:List Int}:∀{us:List Value},Vals (ns.map V.int) us->IntsAre us ns:=by
 induction ns with
 | nil=>intro us r;rw[map_nil] at r;cases r;exact .nil
 | cons n ns ih =>
  intro us r;rw[map_cons] at r;cases r with
  | cons r1 r2 =>
   obtain⟨t,e⟩:=r1;subst e;exact .cons n t (ih r2)
variable {X:Cx} {e:Expr} {pos:Pos}
section
variable {te:TE} {lo hi:Option Expr} {tl th:TO} {p2:Pos}
theorem D_:PO X none Ea:=by intro pins s σ H Q I h;rw[evalPart_none];exact wpAny_pure ⟨none,H,I,.none,h⟩
theorem D9(h:PE X e te):PO X (some e) (AV te):=by intro pins s σ H Q I hw;rw[evalPart_some];refine aN (h pins s σ H _ I hw) fun u s1 ⟨x,H1,I1,r1,q1⟩=>?_;obtain⟨i,rfl,q⟩:=q1;obtain⟨t,rfl⟩:=r1;exact⟨some i,H1,I1,.int i t,q⟩
def uA(X:Cx)(r:V->Option Int->Option Int->Hp->VK->Prop):Prop :=
 ∀(pins:List (Addr×Obj)) (s:Shared) (σ:St) (H:Hp) (x:V) (v vl vu:Value) (lo hi:Option Int) (sl:Addr) (Q:VK),Inv X pins σ H s->RelV x v->s.heap.IsSliceOf sl vl vu .none->IsPart vl lo->IsPart vu hi->r x lo hi H Q ->
  ∃T id,typeLookup (.type T) "__getitem__" = pure (some (.builtin id))/\s.TypeIs v T/\wpAny (model X.prog X.w) X.A (getItem v (.ref sl)) (EP X pins σ Q) X.xe s
def Ji(r:V->Option Int->Option Int->Hp->VK->Prop)(te:TE)(tl th:TO):TE:=fun σ H Q=>te σ H fun x H1=>tl σ H1 fun l H2=>th σ H2 fun u H3=>r x l u H3 Q
theorem GD{r:V->Option Int->Option Int->Hp->VK->Prop}(hr:uA X r)(he:PE X e te)(hl:PO X lo tl)(hu:PO X hi th):PE X (.Subscript e (.Slice lo hi none p2) pos) (Ji r te tl th):=by intro pins s σ H Q I h;refine Subscript_ (aN (he pins s σ H _ I h) fun v s1 ⟨x,H1,I1,r1,q1⟩=>?_);refine wpAny_Slice (aN (hl pins s1 σ H1 _ I1 q1) fun vl s2 ⟨l,H2,I2,pl,q2⟩=>aN (hu pins s2 σ H2 _ I2 q2) fun vu s3 ⟨u,H3,I3,pu,q3⟩=>?_);rw[evalPart_none];refine wpAny_pure ?_;have I4:Inv X pins σ H3 { s3 with heap:=s3.heap.push { cls:=.type "slice",data:=.fields #[vl,vu,.none] } }:=I3.kept (t':=s3.toks) fun b ob q=>Heap.get?_push_of_some _ q;obtain⟨T,id,hT,ht,hg⟩:=hr pins { s3 with heap:=s3.heap.push { cls:=.type "slice",data:=.fields #[vl,vu,.none] } } σ H3 x v vl vu l u s3.heap.objs.size Q I4 r1 (Heap.IsSliceOf.new ..) pl pu q3;show wpAny (model X.prog X.w) X.A (subscriptTail e (.Slice lo hi none p2) v (.ref s3.heap.objs.size)) (EP X pins σ Q) X.xe { s3 with heap:=s3.heap.push { cls:=.type "slice",data:=.fields #[vl,vu,.none] } };exact tail_any (ops:=[.ref s3.heap.objs.size,v]) ht hT hg (by with_unfolding_all rfl)
def lK(xs:List V)(lo hi:Option Int):List V:=(xs.drop (HT.sIx xs.length 0 lo)).take (HT.sIx xs.length xs.length hi-HT.sIx xs.length 0 lo)
theorem HZ(xs:List V)(lo hi:Option Int):(lK xs lo hi).length<=xs.length:=by unfold lK;rw[length_take,length_drop];omega
end
def gq(n:Nat)(i:Int):Option Nat:=if 0<=i then (if i<n then some i.toNat else none) else if -(n:Int)<=i then some (i+n).toNat else none
def atI{α:Type}(xs:List α)(i:Int):Option α:=(gq xs.length i).bind fun j=>xs[j]?
variable {n:Nat} {i:Int}
theorem xp{j:Nat}(h:gq n i=some j):seqIndex? i n=some j/\j<n/\-(n:Int)<=i/\i<n:=by
 unfold gq at h
 by_cases h0:0<=i
 ·rw[if_pos h0] at h
  by_cases h1:i<n
  ·rw[if_pos h1] at h;have e:i.toNat=j:=Option.some.inj h;exact⟨by rw[seqIndex_of h0 h1,e],by omega,by omega,h1⟩
  ·rw[if_neg h1] at h;cases h
 ·rw[if_neg h0] at h
  by_cases h1:-(n:Int)<=i
  ·rw[if_pos h1] at h;have e:(i+n).toNat=j:=Option.some.inj h;exact⟨by rw[seqIndex_neg (by omega) h1,e],by omega,h1,by omega⟩
  ·rw[if_neg h1] at h;cases h
theorem xo{α:Type}{xs:List α}{v:α}(h:atI xs i=some v):∃j,seqIndex? i xs.length=some j/\xs[j]?=some v/\j<xs.length/\-(xs.length:Int)<=i/\i<xs.length:=by
 unfold atI at h;cases e:gq xs.length i with
 | none=>rw[e] at h;cases h
 | some j =>
  rw[e] at h;obtain⟨h1,h2,h3,h4⟩:=xp e;exact⟨j,h1,h,h2,h3,h4⟩
def xn(b:Expr):Prop:=∀o i,subscripted b false o i=operate [o,i] (getItem o i)
def jE(X:Cx)(r:R2):Prop :=
 ∀(value slice:Expr) (pins:List (Addr×Obj)) (s:Shared) (σ:St) (H:Hp) (x y:V) (v u:Value) (Q:VK),Inv X pins σ H s->RelV x v->RelV y u->r x y H Q ->
  subscripted slice false v u=operate [v,u] (getItem v u)->wpAny (model X.prog X.w) X.A (subscriptTail value slice v u) (EP X pins σ Q) X.xe s
def oE(X:Cx)(id:String)(r:V->List V->Hp->VK->Prop):Prop :=
 ∀(pins:List (Addr×Obj)) (s:Shared) (σ:St) (H:Hp) (x:V) (xs:List V) (v:Value) (us:List Value) (Q:VK),Inv X pins σ H s->RelV x v->Vals xs us->r x xs H Q ->
  wpAny (model X.prog X.w) X.A (call (.builtin id) (v::us)) (EP X pins σ Q) X.xe s
variable {pins:List (Addr×Obj)} {H:Hp} {s:Shared} {xs:List V} {its its':List Value} {T:String}
section
variable {a b:Expr} {ta tb:TE}
theorem jE.or{r r':R2}(h:jE X r)(h':jE X r'):jE X (fun x y H Q=>r x y H Q\/r' x y H Q):=by
 intro value slice pins s σ H x y v u Q I rx ry q hs;rcases q with q|q
 ·exact h value slice pins s σ H x y v u Q I rx ry q hs
 ·exact h' value slice pins s σ H x y v u Q I rx ry q hs
theorem AU{r:R2}(hr:jE X r)(ha:PE X a ta)(hb:PE X b tb)(hs:xn b):PE X (.Subscript a b pos) (lA r ta tb):=by intro pins s σ H Q I h;exact Subscript_ (qv ha hb I h fun v u s2 x y H2 I2 rx ry q=>hr a b pins s2 σ H2 x y v u Q I2 rx ry q (hs _ _))
def qt(K:Frag):R2:=fun x y H Q=>∃p xs i v,x=.ref p/\y=.int i/\cL K H p xs/\atI xs i=some v/\Q v H
def qr(K:Frag):R2:=fun x y H Q=>∃p xs i v,x=.ref p/\y=.int i/\eG K H p xs/\atI xs i=some v/\Q v H
theorem D8:jE X (qt X.K):=by
 intro value slice pins s σ H x y v u Q I rx ry h hs;obtain⟨p,xs,i,z,rfl,rfl,hq,he,q⟩:=h;cases rx;obtain⟨t,rfl⟩:=ry;obtain⟨its,r,pl,hz⟩:=I.list hq;obtain⟨j,h1,h2,h3,h4,h5⟩:=xo he;obtain⟨w,ew,rw'⟩:=r.get h2;have hl:=r.length;have hn:=nK;have fin:EP X pins σ Q w s:=⟨z,H,I,rw',q⟩
 by_cases h0:0<=i
 ·have hj:i.toNat=j:=by rw[seqIndex_of h0 h5] at h1;exact Option.some.inj h1
  exact item_listR pl.isList h0 (by omega) (by rw[hj];simpa using ew) fin hs
 ·have hj:(i+(its.toArray.size:Int)).toNat=j:=by rw[seqIndex_neg (by omega) h4] at h1;rw[size_toArray,<- hl];exact Option.some.inj h1
  exact subscriptTail_builtinR (x:=w) pl.isList.typeIs slot_list_getitem.lookup
   (wpAny_getItem_list_neg (Q:=fun r s'=>r=w/\EP X pins σ Q r s') pl.isList (by omega) (by rw[size_toArray]<;>omega) (by omega) (by rw[hj];simpa using ew) ⟨rfl,fin⟩) hs
theorem Co:jE X (qr X.K):=by
 intro value slice pins s σ H x y v u Q I rx ry h hs;obtain⟨p,xs,i,z,rfl,rfl,hq,he,q⟩:=h;cases rx;obtain⟨t,rfl⟩:=ry;obtain⟨its,r,pl,hz⟩:=I.tuple hq;obtain⟨j,h1,h2,h3,h4,h5⟩:=xo he;obtain⟨w,ew,rw'⟩:=r.get h2;have hl:=r.length;have hn:=nK;have fin:EP X pins σ Q w s:=⟨z,H,I,rw',q⟩
 exact subscriptTail_builtinR (x:=w) pl.typeIs slot_tuple_getitem.lookup
  (getItem_tuple (j:=j) (Q:=fun r s'=>r=w/\EP X pins σ Q r s') pl (by omega) (by omega) (by rw[size_toArray,<- hl];exact h1) (by simpa using ew) ⟨rfl,fin⟩) hs
theorem HL(its:List Value)(n j:Nat)(u:Value):Obj.mapSeq (·.setIfInBounds j u) { cls:=.type "list",data:=.seq its.toArray n }={ cls:=.type "list",data:=.seq (its.set j u).toArray n }:=by simp[Obj.mapSeq]
theorem Inv.lst{pins:List (Addr×Obj)}{σ:St}{H:Hp}{s:Shared}{p:Addr}{xs:List V}(I:Inv X pins σ H s)(h:H p=some (.lst xs)) :
  ∃(its:List Value) (n:Nat),Vals xs its/\s.heap.get? p=some { cls:=.type "list",data:=.seq its.toArray n }/\xs.length<=sizeLine:=by
 obtain⟨z,its,n,r,e⟩:=I.hok p _ h;exact⟨its,n,r,e,z⟩
theorem Inv.lstUpd{σ:St}{p:Addr}{ys:List V}{n':Nat}{f:Obj->Obj}(I:Inv X pins σ H s)(h:H p=some (.lst xs))(ho:s.heap.get? p=some { cls:=.type "list",data:=.seq its.toArray n })(hf:f { cls:=.type "list",data:=.seq its.toArray n }={ cls:=.type "list",data:=.seq its'.toArray n' })(r:Vals ys its')(hz:ys.length<=sizeLine)(t:Nat) :
  Inv X pins σ (upd H p (.lst ys)) { s with heap:=s.heap.update p f,toks:=t }:=by
 have e:(s.heap.update p f).get? p=some { cls:=.type "list",data:=.seq its'.toArray n' }:=by rw[Heap.get?_update_self f ho (by rw[hf]<;>rfl),hf]
 refine I.write (x:=p) (e:=p) (by rw[h];trivial) (.inl rfl) (fun b u hb q=>(Heap.get?_update_other _ _ (Ne.symm hb)).trans q) ⟨_,e⟩ ?_;exact⟨hz,its',n',r,e⟩
def AS:V->V->V->Hp->(Hp->Prop)->Prop:=fun o i v H Q=>∃p xs k j,o=.ref p/\i=.int k/\H p=some (.lst xs)/\gq xs.length k=some j/\Q (upd H p (.lst (xs.set j v)))
theorem Ft:uK X AS:=by
 intro pins s σ H o i v ov iv u Q I ro ri rv h;obtain⟨p,xs,k,j,rfl,rfl,hp,hj,q⟩:=h;cases ro;obtain⟨t,rfl⟩:=ri;obtain⟨its,n,r,ho,hz⟩:=I.lst hp;obtain⟨h1,h2,h3,h4⟩:=xp hj;have hl:=r.length;have hn:=nK;have I':Inv X pins σ (upd H p (.lst (xs.set j v))) { s with heap:=s.heap.update p (Obj.mapSeq (·.setIfInBounds j u)) } :=
  I.lstUpd hp ho (HL its n j u) (r.set rv j) (by rw[length_set];exact hz) s.toks
 by_cases h0:0<=k
 ·have hk:k.toNat=j:=by rw[seqIndex_of h0 h4] at h1;exact Option.some.inj h1
  exact PySem.W.ki_setAt ho h0 (by omega) (by rw[size_toArray,<- hl];exact h4) (by rw[hk];exact⟨_,I',q⟩)
 ·have hk:(k+(its.toArray.size:Int)).toNat=j:=by rw[seqIndex_neg (by omega) h3] at h1;rw[size_toArray,<- hl];exact Option.some.inj h1
  exact PySem.W.ki_setBack ho (by omega) (by rw[size_toArray,<- hl];exact h3) (by omega) (by rw[hk];exact⟨_,I',q⟩)
theorem Il(lo hi:Option Int)(n:Nat):(sliceBounds lo hi none n).1=((HT.sIx n 0 lo:Nat):Int)/\(sliceBounds lo hi none n).2.1=((HT.sIx n n hi:Nat):Int)/\(sliceBounds lo hi none n).2.2=1:=by
 refine⟨?_,?_,rfl⟩
 ·cases lo with
  | none=>simp[sliceBounds,HT.sIx]
  | some i =>
   simp only[sliceBounds,HT.sIx,getD_none,show(1:Int)>0 by decide,if_true]
   by_cases h:i<0
   ·simp only[h,if_true]<;>omega
   ·simp only[h,if_false]<;>omega
 ·cases hi with
  | none=>simp[sliceBounds,HT.sIx]
  | some i =>
   simp only[sliceBounds,HT.sIx,getD_none,show(1:Int)>0 by decide,if_true]
   by_cases h:i<0
   ·simp only[h,if_true]<;>omega
   ·simp only[h,if_false]<;>omega
theorem Iv(its:List Value)(lo hi:Option Int):slicePick its.toArray lo hi none=((its.drop (HT.sIx its.length 0 lo)).take (HT.sIx its.length its.length hi-HT.sIx its.length 0 lo)).toArray:=by obtain⟨h1,h2,h3⟩:=Il lo hi its.toArray.size;unfold slicePick;rw[h1,h2,h3];simp only[sliceRange_one,pick_run,size_toArray]<;>rfl
def uF(K:Frag):V->Option Int->Option Int->Hp->VK->Prop:=fun x lo hi H Q=>∃a xs,x=.ref a/\cL K H a xs/\∀p,H p=none->Q (.ref p) (upd H p (.lst (lK xs lo hi)))
theorem D7:uA X (uF X.K):=by intro pins s σ H x v vl vu lo hi sl Q I rx hs pl pu h;obtain⟨a,xs,rfl,hx,q⟩:=h;cases rx;obtain⟨its,r,ht,hz⟩:=I.list hx;have hlen:=r.length;refine⟨"list",_,slot_list_getitem.lookup,ht.isList.typeIs,?_⟩;refine wpAny_getItem_list_slice ht.isList hs pl pu .none (by simp) ?_ (by rw[size_toArray]<;>omega);rw[Iv,<- hlen];refine⟨.ref s.heap.objs.size,_,I.laid (t':=s.toks) (o:=.lst (lK xs lo hi)) (fun b ob q=>Heap.get?_push_of_some _ q) (le_refl _) ?_,rfl,q _ (I.hok.fresh (le_refl _))⟩;exact⟨le_trans (HZ xs lo hi) hz,_,0,(r.drop (HT.sIx xs.length 0 lo)).take (HT.sIx xs.length xs.length hi-HT.sIx xs.length 0 lo),Heap.get?_push_size _ rfl⟩
theorem Ik:aO X (.type "list") (fun xs H Q=>∃p ys,xs=[.ref p]/\(cL X.K H p ys\/eG X.K H p ys)/\∀l,H l=none->Q (.ref l) (upd H l (.lst ys))):=by
 intro pins s σ H xs us Q I r h;obtain⟨p,ys,rfl,hq,q⟩:=h;obtain⟨u,rfl,rx⟩:=iJ r;cases rx;have fin:∀(its:List Value),Vals ys its->ys.length<=sizeLine->∀(h':Heap) (c':Nat),(∀b o',s.heap.get? b=some o'->h'.get? b=some o') ->
   h'.get? s.heap.objs.size=some { cls:=.type "list",dict:=none,data:=.seq its.toArray c',slots:=#[] }->EP X pins σ Q (.ref s.heap.objs.size) { s with heap:=h' }:=fun its r' hz h' c' kp e =>
  ⟨.ref s.heap.objs.size,_,I.laid (t':=s.toks) kp (le_refl _) (show aA X.prog X.w _ h' _ (.lst ys) from⟨hz,its,c',r',e⟩),rfl,q _ (I.hok.fresh (le_refl _))⟩
 rcases hq with hq|hq
 ·obtain⟨its,r',pl,hz⟩:=I.list hq;have hlen:=r'.length;obtain⟨o,ho,hc,n,hd⟩:=pl.isList;exact call_list_seq p (.inl rfl) ho hc hd (fun h' c' kp e=>fin its r' hz h' c' kp e) (by simp only[size_toArray]<;>omega)
 ·obtain⟨its,r',pl,hz⟩:=I.tuple hq;have hlen:=r'.length;obtain⟨o,ho,hc,n,hd⟩:=pl;exact call_list_seq p (.inr rfl) ho hc hd (fun h' c' kp e=>fin its r' hz h' c' kp e) (by simp only[size_toArray]<;>omega)
theorem Iu:aO X (.type "tuple") (fun xs H Q=>∃p ys,xs=[.ref p]/\((cL X.K H p ys/\∀l,H l=none->Q (.ref l) (upd H l (.tup ys)))\/(eG X.K H p ys/\Q (.ref p) H))):=by
 intro pins s σ H xs us Q I r h;obtain⟨p,ys,rfl,h⟩:=h;obtain⟨u,rfl,rx⟩:=iJ r;cases rx;rcases h with ⟨hq,q⟩|⟨hq,q⟩
 ·obtain⟨its,r',pl,hz⟩:=I.list hq;have hlen:=r'.length;refine call_tuple_list pl.isList (fun h' kp=>?_) (by simp only[size_toArray]<;>omega);have I1:Inv X pins σ H { s with heap:=h' }:=I.kept (t':=s.toks) kp;have I2:Inv X pins σ (upd H h'.objs.size (.tup ys)) { s with heap:=h'.push { cls:=.type "tuple",data:=.seq its.toArray } } :=
   I1.laid (t':=s.toks) (fun b o e=>Heap.get?_push_of_some _ e) (le_refl _) (show aA X.prog X.w _ _ _ (.tup ys) from⟨hz,its,r',gv.new _ _⟩)
  exact⟨.ref h'.objs.size,_,I2,rfl,q _ (I1.hok.fresh (le_refl _))⟩
 ·obtain⟨its,r',pl,hz⟩:=I.tuple hq;exact call_tuple_same pl ⟨.ref p,H,I,rfl,q⟩
def uo(K:Frag)(T:String)(x:V)(H:Hp):Prop:=match x with
 | .str _=>T = "str"
 | .int _=>T = "int"
 | .ref p=>(T = "list" /\ ∃xs,cL K H p xs)\/(T = "tuple" /\ ∃o,K.lookup p=some o/\o.cls=.type "tuple" /\ o.dict=none) \/
   (T = "dict" /\ ((∃kvs,H p=some (.dK kvs))\/∃kvs,H p=some (.dT kvs)))\/(T = "set" /\ ∃S n,H p=some (.set S n))
 | _=>False
theorem vI{σ:St}{x:V}{v:Value}(I:Inv X pins σ H s)(r:RelV x v)(ty:uo X.K T x H) :
  s.TypeIs v T/\∀a,v=.ref a->∃ob,s.heap.get? a=some ob/\ob.dict=none:=by
 cases x with
 | str z =>
  obtain⟨t,rfl⟩:=r;cases (show T = "str" from ty);exact⟨typeIs_str s z t,fun _ e=>nomatch e⟩
 | int i =>
  obtain⟨t,rfl⟩:=r;cases (show T = "int" from ty);exact⟨typeIs_int s i t,fun _ e=>nomatch e⟩
 | ref p =>
  cases r;rcases ty with ⟨rfl,xs,hq⟩|⟨rfl,o,hk,hc,hd⟩|⟨rfl,hk⟩|⟨rfl,S,n,hk⟩
  ·obtain⟨its,_,pl,_⟩:=I.list hq;refine⟨pl.isList.typeIs,fun a e=>?_⟩;cases e;obtain⟨o,n,e,c,hd,_⟩:=pl;exact⟨o,e,hd⟩
  ·refine⟨⟨o,I.kIn p o hk,hc⟩,fun a e=>?_⟩;cases e;exact⟨o,I.kIn _ o hk,hd⟩
  ·have z:∃o,s.heap.get? p=some o/\o.ExactDict:=by
    rcases hk with ⟨kvs,hk⟩|⟨kvs,hk⟩
    ·obtain⟨_,_,_,_,o,_,_,e,ex,_⟩:=I.hok p _ hk;exact⟨o,e,ex⟩
    ·obtain⟨_,_,_,_,o,_,_,e,ex,_⟩:=I.hok p _ hk;exact⟨o,e,ex⟩
   obtain⟨o,e,ex⟩:=z;refine⟨⟨o,e,ex.1⟩,fun a e2=>?_⟩;cases e2;exact⟨o,e,ex.2.1⟩
  ·obtain⟨o,_,_,_,e,ex,_⟩:=I.hok p _ hk;refine⟨⟨o,e,ex.1⟩,fun a e2=>?_⟩;cases e2;exact⟨o,e,ex.2.1⟩
 | _=>exact False.elim ty
def Aa(K:Frag)(T:String)(r:V->List V->Hp->VK->Prop)(to:TE):TE:=fun σ H Q=>to σ H fun x H1=>uo K T x H1/\r x [] H1 Q
def Jl(K:Frag)(T:String)(r:V->List V->Hp->VK->Prop)(to:TE)(t:TA):TE:=fun σ H Q=>to σ H fun x H1=>uo K T x H1/\t σ H1 fun xs H2=>r x xs H2 Q
variable {o:Expr} {es:List Expr} {to:TE} {t:TA} {name:Str} {apos cpos:Pos} {id:String} {r:V->List V->Hp->VK->Prop}
theorem Cm(pa:PlainAttrs T)(slot:Slot T name id)(hty:typeOf (.builtin id)=pure (.type "method_descriptor"))(hm:oE X id r)(ho:PE X o to)(hbase:attributeBase o name X.env (eval o X.env)=eval o X.env:=by rfl)(hline:(apos.endLine==cpos.line)=true:=by rfl):PE X (.Call (.Attribute o name apos) [] [] cpos) (Aa X.K T r to):=by intro pins s σ H Q I h;refine wpAny_Call_method0_late hbase hline (aN (ho pins s σ H _ I h) fun v s1 ⟨x,H1,I1,r1,ty,q1⟩=>?_);obtain⟨h1,h2⟩:=vI I1 r1 ty;exact⟨T,id,pa,slot,hty,h1,h2,Calls.callWith_builtin rfl (PySem.evalArgs_none (hm pins s1 σ H1 x [] v [] Q I1 r1 .nil q1))⟩
theorem AR(pa:PlainAttrs T)(slot:Slot T name id)(hty:typeOf (.builtin id)=pure (.type "method_descriptor"))(hm:oE X id r)(ho:PE X o to)(ha:PA X (e::es) t)(hbase:attributeBase o name X.env (eval o X.env)=eval o X.env:=by rfl)(hfew:((backTo cpos (starEach (e::es) X.env)).all (fun x=>!x.1)&&(backToKw cpos (keywordEach [] X.env)).all (fun x=>x.1.isSome)
   && decide ((e::es).length+([]:List Keyword).length+(if ([]:List Keyword).isEmpty then 0 else 1)<30))=true:=by rfl)(hline:(apos.endLine==cpos.line)=true:=by rfl)(hs:starEach (e::es) X.env=(false,eval e X.env)::starEach es X.env:=by rfl)(hplain:(backTo cpos (starEach es X.env)).any (·.1)=false:=by rfl) :
  PE X (.Call (.Attribute o name apos) (e::es) [] cpos) (Jl X.K T r to t):=by
 intro pins s σ H Q I h;refine wpAny_Call_method_late hbase hfew hline rfl (aN (ho pins s σ H _ I h) fun v s1 ⟨x,H1,I1,r1,ty,q1⟩=>?_);obtain⟨h1,h2⟩:=vI I1 r1 ty;refine⟨T,id,pa,slot,hty,h1,h2,?_⟩;have hA:=ha cpos pins s1 σ H1 _ I1 q1;rw[hs] at hA ⊢;refine Calls.callWith_builtin (by show(false||(backTo cpos (starEach es X.env)).any (·.1))=false;rw[hplain]<;>rfl) (Calls.evalArgs_plain ?_);exact aN hA fun us s2 ⟨vs,H2,I2,r2,q2⟩=>hm pins s2 σ H2 x vs v us Q I2 r1 r2 q2
end
def uB(X:Cx)(id:String)(r:V->List V->Hp->VK->Prop):Prop :=
 ∀(pins:List (Addr×Obj)) (s:Shared) (σ:St) (H:Hp) (x:V) (xs:List V) (v:Value) (us:List Value) (Q:VK),Inv X pins σ H s->RelV x v->Vals xs us->r x xs H Q ->
  wpAny (model X.prog X.w) X.A (call (.builtin id) (v::us)) (EP X pins σ Q) X.xe s
theorem Vals.one:∀{x:V} {us:List Value},Vals [x] us->∃u,us=[u]/\RelV x u
 | _,_,.cons r .nil=>⟨_,rfl,r⟩
theorem Vals.zero:∀{us:List Value},Vals [] us->us=[]
 | _,.nil=>rfl
theorem Vals.dropLast{us:List Value}(h:Vals xs us):Vals xs.dropLast us.dropLast:=by
 induction h with
 | nil=>exact .nil
 | cons r t ih =>
  cases t with
  | nil=>exact .nil
  | cons q t'=>exact .cons r ih
theorem Vals.rep{xs:List V}{us:List Value}(h:Vals xs us):∀k:Nat,Vals (List.replicate k xs).flatten (List.replicate k us).flatten
 | 0=>.nil
 | k+1=>by
  rw[replicate_succ,replicate_succ,flatten_cons,flatten_cons];exact Vals.append h (Vals.rep h k)
theorem HK{α:Type}(l:List α):l.eraseIdx (l.length-1)=l.dropLast:=by
 induction l with
 | nil=>rfl
 | cons a r ih =>
  cases r with
  | nil=>rfl
  | cons b r =>
   have e:(a::b::r).length-1=((b::r).length-1)+1:=by have h1:(a::b::r).length=r.length+2:=rfl;have h2:(b::r).length=r.length+1:=rfl;omega
   rw[e,eraseIdx_cons_succ,ih]
   all_goals rfl
theorem yy(its:List Value):∀(k:Nat) (acc:List Value),
  List.foldl (fun x1 x2=>x1++x2) acc.toArray (List.replicate k its.toArray)=(acc++(List.replicate k its).flatten).toArray
 | 0,acc=>by simp
 | k+1,acc=>by
  have e:acc.toArray++its.toArray=(acc++its).toArray:=by simp
  have e2:(acc++its)++(List.replicate k its).flatten=acc++(List.replicate (k+1) its).flatten:=by rw[replicate_succ,flatten_cons,append_assoc]
  rw[<- e2,<- yy its k (acc++its),<- e,replicate_succ,foldl_cons]
variable {t':Nat}
section
variable {σ:St} {l b:Addr} {ys zs:List V}
theorem Inv.lset{f:Array Value->Array Value}(I:Inv X pins σ H s)(hH:H l=some (.lst xs))(e:s.heap.get? l=some { cls:=.type "list",data:=.seq its.toArray n })(hf:f its.toArray=its'.toArray)(hv:Vals ys its')(hz:ys.length<=sizeLine) :
  Inv X pins σ (upd H l (.lst ys)) { s with heap:=s.heap.update l (Obj.mapSeq f),toks:=t' }:=by
 have q:=PySem.IsL.update e f;rw[hf] at q;refine I.write (x:=l) (e:=l) (by rw[hH];exact trivial) (.inl rfl) (fun b' u hb hu=>(Heap.get?_update_other s.heap (Obj.mapSeq f) (Ne.symm hb)).trans hu) ⟨_,q⟩ ?_;exact⟨hz,its',_,hv,q⟩
theorem Inv.lnew(I:Inv X pins σ H s)(hv:Vals ys its)(hz:ys.length<=sizeLine) :
  Inv X pins σ (upd H s.heap.objs.size (.lst ys)) { s with heap:=s.heap.push { cls:=.type "list",data:=.seq its.toArray },toks:=t' } :=
 I.laid (fun _ _ q=>Heap.get?_push_of_some _ q) (le_refl _) ⟨hz,its,0,hv,Heap.get?_push_size _ rfl⟩
theorem Inv.fresh(I:Inv X pins σ H s):H s.heap.objs.size=none:=I.hok.fresh (le_refl _)
theorem Inv.lstM(I:Inv X pins σ H s)(hH:H l=some (.lst xs)):xs.length<=sizeLine/\∃(its:List Value) (n:Nat),Vals xs its/\xs.length=its.length/\s.heap.get? l=some { cls:=.type "list",data:=.seq its.toArray n }:=by obtain⟨z,its,n,r,e⟩:=I.hok l _ hH;exact⟨z,its,n,r,r.length,e⟩
theorem ye(h:n<=sizeLine):Builtin.List.listTooLong n=false:=by unfold Builtin.List.listTooLong;exact decide_eq_false (by omega)
end
def xm:V->List V->Hp->VK->Prop:=fun x vs H Q=>∃l xs y,x=.ref l/\vs=[y]/\H l=some (.lst xs)/\xs.length<sizeLine/\Q .non (upd H l (.lst (xs++[y])))
theorem gj:uB X "list.append" xm:=by intro pins s σ H x vs v us Q I rx rv h;obtain⟨l,xs,y,rfl,rfl,hH,hz,q⟩:=h;cases rx;obtain⟨u,rfl,ru⟩:=rv.one;obtain⟨z,its,n,r,hl,e⟩:=I.lstM hH;refine call_meets F.slot_list_append ⟨_,e,rfl⟩ F.entry_list_append (F.args_list_append_2 _ _) (PySem.list_append l its.toArray n u (by rw[size_toArray];omega)) ⟨e,?_⟩;refine⟨.non,_,I.lset (its':=its++[u]) hH e (by simp) (r.append (.cons ru .nil)) ?_,rfl,q⟩;rw[length_append,length_singleton];omega
def uE:V->List V->Hp->VK->Prop:=fun x vs H Q=>∃l xs y,x=.ref l/\vs=[]/\H l=some (.lst xs)/\xs[xs.length-1]?=some y/\Q y (upd H l (.lst xs.dropLast))
theorem Ck:uB X "list.pop" uE:=by
 intro pins s σ H x vs v us Q I rx rv h;obtain⟨l,xs,y,rfl,rfl,hH,hy,q⟩:=h;cases rx;have hus:=rv.zero;subst hus;obtain⟨z,its,n,r,hl,e⟩:=I.lstM hH;obtain⟨u,hu,ru⟩:=r.get hy;have hy':its.toArray[its.toArray.size-1]?=some u:=by show its.toArray[its.length-1]?=some u;rw[<- getElem?_toList,<- hl];exact hu
 refine call_meets F.slot_list_pop ⟨_,e,rfl⟩ F.entry_list_pop (F.args_list_pop_1 _) (MeetsSeq.list_pop_last l its.toArray n u hy' (by rw[size_toArray];omega)) ⟨e,?_⟩;refine⟨y,_,I.lset (its':=its.dropLast) hH e ?_ r.dropLast ?_,ru,q⟩
 ·show its.toArray.eraseIdxIfInBounds (its.toArray.size-1)=its.dropLast.toArray;rw[size_toArray,eraseIdxIfInBounds_toArray,HK]
 ·rw[length_dropLast];omega
def z_:R2:=fun x y H Q=>∃l k xs,x=.ref l/\y=.int k/\H l=some (.lst xs)/\-(2 ^ 63)<=k/\k<2 ^ 63/\xs.length*k.toNat<=sizeLine /\
 ∀p,H p=none->Q (.ref p) (upd H p (.lst (List.replicate k.toNat xs).flatten))
theorem D6{α:Type}(xs:List α)(k:Nat):(List.replicate k xs).flatten.length=k*xs.length:=by
 induction k with
 | zero=>simp
 | succ k ih=>rw[replicate_succ,flatten_cons,length_append,ih,succ_mul,add_comm]
theorem Cj:de X (binaryOp .Mult) z_:=by
 intro pins s σ H x y v u Q I rx ry h;obtain⟨l,k,xs,rfl,rfl,hH,h1,h2,hz,q⟩:=h;cases rx;obtain⟨t,rfl⟩:=ry;obtain⟨z,its,n,r,hl,e⟩:=I.lstM hH;have hlen:its.toArray.size*k.toNat<=sizeLine:=by rw[size_toArray,<- hl];exact hz
 have hcap:¬its.toArray.size*k.toNat>(2 ^ 63-1) / 8:=by
  have:(sizeLine:Nat)<=(2 ^ 63-1) / 8:=by decide
  omega
 have hfit:¬(!Builtin.List.listFitsIndex k)=true:=by rw[fitsIndex_both h1 h2];exact Bool.false_ne_true
 have hlong:¬Builtin.List.listTooLong (its.toArray.size*k.toNat)=true:=by rw[ye hlen];exact Bool.false_ne_true
 have hnew:List.foldl (fun x1 x2=>x1++x2) #[] (List.replicate (if its.toArray.isEmpty=true then 0 else k.toNat) its.toArray)=(List.replicate k.toNat its).flatten.toArray:=by
  have f0:∀m:Nat,List.foldl (fun x1 x2=>x1++x2) #[] (List.replicate m its.toArray)=(List.replicate m its).flatten.toArray:=fun m=>by
   have:=yy its m [];rw[nil_append] at this;exact this
  rw[f0];cases its with
  | nil=>simp
  | cons a r'=>rw[if_neg (by simp)]
 refine wpAny_binaryOp_repeat_ref (T := "list") (U := "int") (by decide) ⟨_,e,rfl⟩ (fun s'=>typeIs_int s' k t) noFill_list_mul F.fills_int_mul F.slot_int_rmul repeat_list F.slot_int_index.lookup
  (call_meets F.slot_int_rmul (typeIs_int s k t) F.entry_int_rmul (F.args_int_rmul_2 _ _) (int___rmul___int_list k t l its.toArray n)
   ⟨e,rfl,⟨_,e,rfl⟩,call_meets F.slot_list_mul ⟨_,e,rfl⟩ F.entry_list_mul (F.args_list_mul_2 _ _) (AutoListH.list___mul___list_int_3 l its.toArray n k t hfit hcap hlong) ⟨e,?_⟩⟩)
 rw[hnew];exact⟨.ref _,_,I.lnew (t':=s.toks) (r.rep k.toNat) (by rw[D6,mul_comm];exact hz),rfl,q _ I.fresh⟩
section
variable {prog:Program} {w:World} {A:Around} {E:Value->Shared->Prop}
end
end L2
namespace Att
open PySem PySem.W PySem.Calls PyProof.Rows
variable {P:Params} {h:Heap}
theorem Ja:∀(ns:List Int) (vs:List Value),WellAll P h vs (ns.map WData.int)->IntsAre vs ns:=by
 intro ns
 induction ns with
 | nil =>
  intro vs w;rw[map_nil] at w;cases w;exact .nil
 | cons n ns ih =>
  intro vs w;rw[map_cons] at w;cases w with
  | cons a b =>
   cases a;exact .cons _ _ (ih _ b)
variable {l:OpenLaw} {n:Nat}
theorem Hu(hn:l.most=some n){args:List WData}{vals:List Value}(hpre:l.row.toRowW.claim.pre args=true)(hwl:WellAll P h vals args) :
  ∃a vs ns,vals=[Value.ref a]/\args=[WData.list (ns.map WData.int)]/\h.get? a=some { cls:=.type "list",data:=.seq vs.toArray }/\IntsAre vs ns/\ns.length<=n:=by
 have hsh:WShape.hasAll [] args [.list .int]=true:=(pre_splitW hpre).1;have hc:l.pre.holds [] { args:=args }=true:=(pre_splitW hpre).2;obtain⟨d,r,rfl,h1,h2⟩:=hasAllW_cons hsh;obtain rfl:=hasAllW_nil h2;obtain⟨xs,rfl,h3⟩:=hasW_list h1;obtain⟨ns,rfl⟩:=items_int h3;have hlen:ns.length<=n:=by
  unfold OpenLaw.pre at hc;have h4:(WTm.not (.lt (.lit (.int (n:Int))) (.len (.arg 0)))).holds [] { args:=[.list (ns.map .int)] }=true:=by have h4:=(holds_andW hc).1;rw[hn] at h4;exact h4
  have h5:=condW_of h4 (w_not (w_lt w_lit (w_len_list (w_arg rfl))));rw[length_map] at h5;refine le_of_not_lt fun q=>?_;have q':(n:Int)<((ns.length:Nat):Int):=by omega
  first
   | (rw[decide_eq_true q'] at h5;exact absurd h5 (by decide))
   | (simp at h5;omega)
 cases hwl with
 | cons w1 w2 =>
  cases w2;cases w1 with
  | list ho hall=>exact⟨_,_,ns,rfl,rfl,ho,Ja ns _ hall,hlen⟩
theorem Ht(l:OpenLaw)(args:List WData):l.row.toRowW.claim.post args (.bool true) args=true :=
 postW_of (r:=l.row.toRowW) (X:=(true==true))
  (show WShape.has [] (.bool true) .bool=true by first|rfl|decide|simp[WShape.has,WShape.arms,WShape.armsAll])
  (show(WTm.eq .res (.lit (.bool true))).value [] { args:=args,res:=some (.bool true),after:=args }=some (.bool (true==true)) from w_eq_bool (w_res rfl) w_lit) rfl
theorem attach_call{q:Program}{loose:List Str}{XP:(Str->Option Value)->Heap->Prop}{YP:World->Heap->Prop}{d:DefRec}(hn:l.most=some n)(hdf:d.params.defaults=[])(call:∀(w:World) (s₀ s₁:Shared) (mg mb:Str->Option Value) (fa:Addr) (o:Obj) (pm cd doc:Value) (a:Addr) (vs:List Value) (ns:List Int),
   Ground q loose [] XP w s₀ mg mb s₁.heap->YP w s₁.heap ->
   s₁.heap.get? fa=some o->o.data=.func (docDef d.name d.params d.body d.scope pm cd doc)->s₁.heap.CodeRec cd d.name->mg d.name=some (.ref fa) ->
   s₁.heap.get? a=some { cls:=.type "list",data:=.seq vs.toArray }->IntsAre vs ns->ns.length<=n->s₁.gens=#[] ->
   codeAny (model l.prog w) callerA (.call (.ref fa) ⟨[.ref a],[]⟩) (fun r s'=>r=.ok (.ret (.bool true))/\OldK s₁.heap s'.heap/\s'.os=s₁.os/\AllBare s'.gens) s₁) :
  WalkO q loose XP YP l.row.toRowW d [] (fun f vs=>PySem.call f vs):=by
 intro w s₀ s₁ mg mb G Y fa o pm cd doc dV kV ho hd hcd hD hmg hg args vals as hpre hlay hrd hwl hlo;obtain rfl:dV=.none:=Dflts.none hD hdf;obtain rfl:kV=.none:=Dflts.noKw hD;obtain⟨a,vs,ns,rfl,rfl,hobj,hints,hlen⟩:=Hu hn hpre hwl;refine enter_call (codeAny_mono (call w s₀ s₁ mg mb fa o pm cd doc a vs ns G Y ho (fd_plain hd) hcd hmg hobj hints hlen hg) fun r s' hq=>?_);obtain⟨rfl,h2,h3,h4⟩:=hq;exact⟨.inl ⟨.bool true,.bool true,[],rfl,fun _=>rfl,.bool true,Ht l _,fun _=>⟨List.Pairwise.nil,fun _ hm=>(nomatch hm)⟩⟩,h2,h3,h4⟩
section
variable {prog:Program} {w:World} {A:Around} {E:Value->Shared->Prop} {s:Shared} {K:Frag}
def JQ(h:Heap)(L d:Addr):List (Addr×Obj):=(List.range h.objs.size).filterMap fun a=>if a=L\/a=d then none else (h.get? a).map fun o=>(a,o)
end
end Att
namespace L2
open PySem PySem.Spec PyProof.Rows
theorem oh:∀{vs:List Value} {ns:List Int},IntsAre vs ns->Vals (ns.map V.int) vs
 | _,_,.nil=>.nil
 | _,_,.cons n t h=>.cons ⟨t,rfl⟩ (oh h)
def nc(H:Hp):Prop:=∀b,H b=none\/∃o xs,H b=some (.frz o (.lst xs))
variable {P:Program} {w:World} {mg:Str->Option Value} {CX:i4} {a:Addr} {fd:FuncData} {ns:List Int}
theorem Fs{K:Frag}{mb:Str->Option Value}{k:Nat}{fa:Addr}{x:Str}{sp:Sp}{s₁:Shared}{vs:List Value}(KX:K.In s₁.heap)(hns:s₁.heap.Ns mainGlobals mg)(hb:s₁.heap.Ns builtinsNs mb)(hbb:∀x:Str,x ≠ "__name__" -> mb x=bootBuiltins x)(hlim:s₁.heap.NoLimit)(hg:s₁.gens=#[])(ha:s₁.heap.get? a=some { cls:=.type "list",data:=.seq vs.toArray })(hi:IntsAre vs ns)(hl:ns.length<=sizeLine)(hr:aR k callerA)(F:∀base:Heap,K.In base->base.Ns mainGlobals mg->ay P w K mg base CX k fa fd [x] sp)(hbind:∀(s:Shared) (u:Value),BindsTo s fd ⟨[u],[]⟩ [(x,u)])(hsp:∀H:Hp,nc H->cL K H a (ns.map V.int)->sp [.ref a] H (fun v _=>v=.bl true) fun _ _ _=>False)(hCX:∀H e s',CX [] H s₁ (fun _ _ _=>False) e s'->False) :
  codeAny (model P w) callerA (.call (.ref fa) ⟨[.ref a],[]⟩) (fun r s'=>r=.ok (.ret (.bool true))/\OldK s₁.heap s'.heap/\s'.os=s₁.os/\AllBare s'.gens) s₁:=by
 have rv:=oh hi;have lenV:=hi.length;have core:∀H:Hp,nc H->cL K H a (ns.map V.int)->bY P w H s₁.heap->(∀b,H b≠none->b=a)->(H a≠none->K.lookup a=none) ->
   codeAny (model P w) callerA (.call (.ref fa) ⟨[.ref a],[]⟩) (fun r s'=>r=.ok (.ret (.bool true))/\OldK s₁.heap s'.heap/\s'.os=s₁.os/\AllBare s'.gens) s₁:=by
  intro H hO hS hok hA hK;have base_of:∀{b:Addr} {o:Obj},s₁.heap.get? b=some o->H b=none->(jJ s₁.heap H).get? b=some o:=fun e n=>Gu e n;have noA:∀{b:Addr} {o:Obj} {es:Array DictEntry} {ep:Nat},s₁.heap.get? b=some o->o.data=.dict es ep->H b=none:=fun {b o es ep} e d=>by
   cases q:H b with
   | none=>rfl
   | some u =>
    have e':b=a:=hA b (by rw[q];simp);subst e';rw[ha] at e;cases e;have d':Data.seq vs.toArray _=Data.dict es ep:=d;cases d'
  have nsK:∀{b:Addr} {m:Str->Option Value},s₁.heap.Ns b m->(jJ s₁.heap H).Ns b m:=fun {b m} ⟨o,es,ep,e,d,r⟩=>⟨o,es,ep,base_of e (noA e d),d,r⟩
  have hKb:K.In (jJ s₁.heap H):=fun b o e=>base_of (KX b o e) (by
   cases q:H b with
   | none=>rfl
   | some u =>
    have e':b=a:=hA b (by rw[q];simp);subst e';rw[hK (by rw[q];simp)] at e;cases e)
  have hM:Mod K mg (jJ s₁.heap H):=⟨hKb,nsK hns,⟨mb,nsK hb,hbb⟩,let ⟨mc,h1,h2⟩:=hlim;⟨mc,nsK h1,h2⟩⟩
  have e0:gx P w K mg (jJ s₁.heap H) callerA [] s₁ H:=⟨rfl,hM,fun b o e=>ET e,le_of_eq (Ha _ _),trivial,fun b hb=>absurd (show b∈([]:List Addr) from hb) (by simp),hok,.of_eq hg⟩
  refine codeAny_mono ((F _ hKb (nsK hns)).run callerA [] s₁ H ⟨[.ref a],[]⟩ [.ref a] [.ref a] _ _ hr e0 (hbind s₁ (.ref a)) (.cons rfl .nil) (hsp H hO hS)) fun r s' h=>?_;cases r with
  | error e=>exact(hCX H e s' h).elim
  | ok fl =>
   cases fl with
   | next=>exact False.elim h
   | brk=>exact False.elim h
   | cont=>exact False.elim h
   | ret u =>
    obtain⟨v,H',os,bare,un,hok',r',q⟩:=h;have q':v=.bl true:=q;subst q';obtain rfl:u=Value.bool true:=r';refine⟨rfl,OldK.of_keep fun b o e=>?_,os,bare⟩;cases q:H b with
    | none=>exact un.keep b o e q (by intro z;exact absurd (show b∈([]:List Addr) from z) (by simp)) (by simp)
    | some u =>
     rcases hO b with z|⟨ob,xs,z⟩
     ·rw[q] at z;cases z
     ·have z2:=un.frzs b ob _ z;obtain⟨e1,_⟩:=hok b _ z;obtain⟨e2,_⟩:=hok' b _ z2;rw[e] at e1;cases e1;exact e2
 cases hk:K.lookup a with
 | some o =>
  have e:=KX a o hk;rw[ha] at e;cases e;refine core (fun _=>none) (fun _=>.inl rfl) (.inr ⟨_,vs.toArray,_,hk,rfl,rfl,rfl,by rw[size_toArray,lenV];exact hl,by simpa using rv⟩) (fun b u z=>by have z':(none:Option HO)=some u:=z;cases z') (fun b z=>absurd rfl z) fun z=>absurd rfl z
 | none =>
  refine core (fun b=>if b=a then some (.frz { cls:=.type "list",data:=.seq vs.toArray } (.lst (ns.map V.int))) else none) (fun b=>?_) (.inl (.inr ⟨{ cls:=.type "list",data:=.seq vs.toArray },if_pos rfl⟩)) (fun b u z=>?_) (fun b z=>?_) fun _=>hk
  ·by_cases hb:b=a
   ·exact .inr ⟨_,_,if_pos hb⟩
   ·exact .inl (if_neg hb)
  ·by_cases hb:b=a
   ·have z':=(if_pos hb).symm.trans z;cases z';subst hb;exact⟨ha,by rw[length_map];exact hl,vs,_,rv,ha⟩
   ·have z':=(if_neg hb).symm.trans z;cases z'
  ·by_cases hb:b=a
   ·exact hb
   ·exact absurd (if_neg hb) z
variable {K:Params->Frag} {l:PySem.W.OpenLaw} {n:Nat} {q:Program} {loose:List Str} {YP:World->Heap->Prop} {d:DefRec}
theorem D5{k:Nat}{XP:(Str->Option Value)->Heap->Prop}{CX:World->i4}{sp:World->Sp}{x:Str}(hn:l.most=some n)(hn2:n<=sizeLine)(hdf:d.params.defaults=[])(hr:aR k callerA)(hY:∀(w:World) (h:Heap),YP w h->(K w.params).In h)(F:∀(w:World) (mg:Str->Option Value) (fa:Addr) (h:Heap),(K w.params).In h->h.Ns mainGlobals mg->mg d.name=some (.ref fa) ->
   ∃fd:FuncData,(∀(s:Shared) (u:Value),BindsTo s fd ⟨[u],[]⟩ [(x,u)]) /\
    ∀base:Heap,(K w.params).In base->base.Ns mainGlobals mg->ay l.prog w (K w.params) mg base (CX w) k fa fd [x] (sp w))(hsp:∀(w:World) (H:Hp) (a:Addr) (ns:List Int),ns.length<=n->nc H->cL (K w.params) H a (ns.map V.int)->sp w [.ref a] H (fun v _=>v=.bl true) fun _ _ _=>False)(hCX:∀(w:World) (H:Hp) (s:Shared) (e:Value) (s':Shared),CX w [] H s (fun _ _ _=>False) e s'->False) :
  PySem.W.WalkO q loose XP YP l.row.toRowW d [] (fun f vs=>PySem.call f vs):=by
 refine Att.attach_call hn hdf fun w s₀ s₁ mg mb fa o pm cd doc a vs ns G Y ho hd hcd hmg hobj hints hlen hg=>?_;have KX:=hY w _ Y;obtain⟨fd,hb,hF⟩:=F w mg fa _ KX G.T.g hmg;exact Fs KX G.T.g G.T.b G.T.builtins G.T.nolimit hg hobj hints (le_trans hlen hn2) hr hF hb (fun H hO hS=>hsp w H a ns hlen hO hS) fun H e s'=>hCX w H s₁ e s'
theorem walk_ofK{k:Nat}{XP:(Str->Option Value)->Heap->Prop}{sp:Frag->Sp}{x:Str}(hn:l.most=some n)(hn2:n<=sizeLine)(hdf:d.params.defaults=[])(hr:aR k callerA)(hY:∀(w:World) (h:Heap),YP w h->(K w.params).In h)(F:∀(w:World) (mg:Str->Option Value) (fa:Addr) (h:Heap),(K w.params).In h->h.Ns mainGlobals mg->mg d.name=some (.ref fa) ->
   ∃fd:FuncData,(∀(s:Shared) (u:Value),BindsTo s fd ⟨[u],[]⟩ [(x,u)]) /\
    ∀base:Heap,(K w.params).In base->base.Ns mainGlobals mg->ay l.prog w (K w.params) mg base CX k fa fd [x] (sp (K w.params)))(hsp:∀(K:Frag) (H:Hp) (a:Addr) (ns:List Int),ns.length<=n->nc H->cL K H a (ns.map V.int)->sp K [.ref a] H (fun v _=>v=.bl true) fun _ _ _=>False)(hCX:∀(H:Hp) (s:Shared) (e:Value) (s':Shared),CX [] H s (fun _ _ _=>False) e s'->False) :
  PySem.W.WalkO q loose XP YP l.row.toRowW d [] (fun f vs=>PySem.call f vs) :=
 D5 (K:=K) (CX:=fun _=>CX) (sp:=fun w=>sp (K w.params)) hn hn2 hdf hr hY F (fun w H a ns h1 h2 h3=>hsp (K w.params) H a ns h1 h2 h3) fun _ H s e s'=>hCX H s e s'
def mI(s:Stmt):Arguments:=match s with
 | .FunctionDef _ a _ _ _ _ _ _ _ _=>a
 | _=>{ posonlyargs:=[],args:=[],vararg:=none,kwonlyargs:=[],kw_defaults:=[],kwarg:=none,defaults:=[] }
def ku(s:Stmt):List Stmt:=match s with
 | .FunctionDef _ _ b _ _ _ _ _ _ _=>b
 | _=>[]
def bb(s:Stmt):Scope:=match s with
 | .FunctionDef _ _ _ _ _ _ sc _ _ _=>sc
 | _=>{ kind:=.function,names:=[],isGenerator:=false,isCoroutine:=false }
abbrev CX0:i4:=fun _ _ _ _ _ _=>False
abbrev E0:XK:=fun _ _ _=>False
structure bO (K:Frag) (x qual:Str) (st:Stmt) (f:Addr) (fd:FuncData):Prop where
 ex:∃(oc:Value) (od:Option Addr) (kV doc pm:Value) (an:Option Addr) (cdv ct:Value) (osl:Array (Option Value)),
  fd=fnOf x qual (mI st) (ku st) (bb st) .none kV doc pm an cdv ct/\K.lookup f=some ⟨oc,od,.func fd,osl⟩/\codeIn K cdv qual=true
 kp:keepIn K (.ref f)=true
variable {qual:Str} {st:Stmt} {f:Addr}
section
variable {K:Frag} {base:Heap}
theorem bO.binds{x:Str}{ps:List Str}(F:bO K x qual st f fd)(h:∀(kV doc pm:Value) (an:Option Addr) (cdv ct:Value) (us:List Value),us.length=ps.length->bindArgs (fnOf x qual (mI st) (ku st) (bb st) .none kV doc pm an cdv ct) ⟨us,[]⟩=pure (ps.zip us)):Binds K fd ps []:=by obtain⟨oc,od,kV,doc,pm,an,cdv,ct,osl,rfl,lk,hcd⟩:=F.ex;exact .all (h kV doc pm an cdv ct)
theorem vG{x:Str}{oc:Value}{od an:Option Addr}{osl:Array (Option Value)}{kV doc pm cdv ct:Value}(l:K.lookup f=some ⟨oc,od,.func (fnOf x qual (mI st) (ku st) (bb st) .none kV doc pm an cdv ct),osl⟩)(c:codeIn K cdv qual=true)(k:keepIn K (.ref f)=true):bO K x qual st f (fnOf x qual (mI st) (ku st) (bb st) .none kV doc pm an cdv ct):=⟨⟨oc,od,kV,doc,pm,an,cdv,ct,osl,rfl,l,c⟩,k⟩
end
variable {X:Cx}
def JI(H H':Hp):Prop:=∀b o,H b=some o->H' b=some o
def gM(js:List Nat)(σ:St):St:=js.map fun j=>σ.getD j none
structure fJ (N:List Str) (psc:Scope) (js:List Nat) (N':List Str) (scope:Scope):Prop where
 cell:∀y∈scope.names,y.2≠.cell
 kind:scope.kind=.function
 names:∀y∈scope.names,y.2=.local->scope.names.lookup y.1=some .local
 frees:∀y∈scope.names,y.2=.free->psc.names.lookup y.1=some .cell\/psc.names.lookup y.1=some .free
 nd:N'.Nodup
 len:N'.length=js.length+1
 cap:∀p∈js.zip (N'.drop 1),N[p.1]?=some p.2/\scope.names.lookup p.2=some .free
def jq(env:Env)(cs:List (Str×Addr))(y:Str×NameKind):List (Str×Addr):=if y.2==.free then (y.1,(env.cells.lookup y.1).getD 0)::cs else cs
def clOf(scope:Scope)(env:Env):List (Str×Addr):=scope.names.foldl (jq env) []
theorem zw{α β:Type}(f:α->β->Sem (ForInStep β))(g:β->α->β):∀(l:List α) (b:β),(∀x∈l,∀c,f x c=pure (.yield (g c x)))->forIn l b f=pure (l.foldl g b)
 | [],_,_=>rfl
 | x::l,b,h=>by
  rw[forIn_cons,h x mem_cons_self,pure_bind];exact zw f g l (g b x) fun y hy=>h y (mem_cons_of_mem _ hy)
variable {scope:Scope} {env:Env}
theorem HJ(h:∀y∈scope.names,y.2=.free->∃c,env.cells.lookup y.1=some c):closureFor scope env=pure (clOf scope env):=by
 simp only[closureFor,clOf];rw[zw _ (jq env) scope.names [] (fun y hy c=>by
  obtain⟨n,k⟩:=y
  by_cases hk:k=.free
  ·subst hk;obtain⟨a,ha⟩:=h _ hy rfl;have ha':env.cells.lookup n=some a:=ha;simp[cellOf,ha',jq]
  ·have hb:(k==NameKind.free)=false:=by simpa using hk
   simp[hb,jq])]
 rfl
theorem zl{env:Env}{P:Str×Addr->Prop}:∀(l:List (Str×NameKind)) (acc:List (Str×Addr)),(∀p∈acc,P p)->(∀y∈l,y.2=.free->P (y.1,(env.cells.lookup y.1).getD 0))->∀p∈l.foldl (jq env) acc,P p
 | [],_,ha,_=>ha
 | y::l,acc,ha,hl=>by
  refine zl l _ (fun p hp=>?_) fun z hz=>hl z (mem_cons_of_mem _ hz);unfold jq at hp
  by_cases hk:y.2=.free
  ·rw[if_pos (by simp[hk])] at hp;rcases mem_cons.mp hp with e|hp
   ·rw[e];exact hl y mem_cons_self hk
   ·exact ha p hp
  ·rw[if_neg (by simp[hk])] at hp;exact ha p hp
theorem zk{env:Env}:∀(l:List (Str×NameKind)) (acc:List (Str×Addr)),∀p∈acc,p∈l.foldl (jq env) acc
 | [],_,_,hp=>hp
 | y::l,acc,p,hp=>by
  refine zk l _ p ?_;unfold jq;split
  ·exact mem_cons_of_mem _ hp
  ·exact hp
theorem zj{env:Env}{y:Str}:∀(l:List (Str×NameKind)) (acc:List (Str×Addr)),(y,NameKind.free)∈l->∃c,(y,c)∈l.foldl (jq env) acc
 | z::l,acc,h=>by
  rcases mem_cons.mp h with e|h
  ·subst e;exact⟨(env.cells.lookup y).getD 0,zk l _ _ (by simp[jq])⟩
  ·exact zj l _ h
theorem zA{β:Type}{y:Str}{c:β}:∀{l:List (Str×β)},(y,c)∈l->∃c',l.lookup y=some c'
 | (n,d)::l,h=>by
  rw[lookup_cons];cases e:y==n with
  | true=>exact⟨d,rfl⟩
  | false =>
   rcases mem_cons.mp h with q|q
   ·have q1:y=n:=congrArg Prod.fst q;rw[q1] at e;simp at e
   ·exact zA q
theorem yx(h:∀y∈scope.names,y.2=.free->∃c,env.cells.lookup y.1=some c){y:Str}{c:Addr}(e:(clOf scope env).lookup y=some c):env.cells.lookup y=some c:=by refine zl (P:=fun p=>env.cells.lookup p.1=some p.2) scope.names [] (fun _ hp=>nomatch hp) (fun z hz hf=>?_) (y,c) (PySem.mem_of_lookup e);obtain⟨a,ha⟩:=h z hz hf;simp[ha]
theorem yt{y:Str}(h:(y,NameKind.free)∈scope.names):∃c,(clOf scope env).lookup y=some c:=by obtain⟨c,hc⟩:=zj (env:=env) scope.names [] h;exact zA hc
theorem cN{env:Env}{y:Str}{k':NameKind}:∀{names:List (Str×NameKind)},(names.map fun(n,k)=>if (k==NameKind.free&&env.scope.kind==.function&&env.kindOf n==some .cell) then (n,NameKind.cell) else (n,k)).lookup y=some k' ->
  ∃k,(y,k)∈names/\(k'=k\/(k=.free/\k'=.cell))
 | [],h=>by simp at h
 | (n,k)::r,h=>by
  have ih:=@cN env y k' r;have h:List.lookup y ((if (k==NameKind.free&&env.scope.kind==.function&&env.kindOf n==some .cell)=true then (n,NameKind.cell) else (n,k))::_)=some k':=h;cases e:y==n with
  | true =>
   have e':y=n:=by simpa using e
   by_cases hc:(k==NameKind.free&&env.scope.kind==.function&&env.kindOf n==some .cell)=true
   ·rw[if_pos hc] at h;simp only[lookup_cons,e] at h;cases h;have hk:k=.free:=by simp only[and_eq_true] at hc;simpa using hc.1.1
    subst hk;exact⟨.free,by rw[e'];exact mem_cons_self,.inr ⟨rfl,rfl⟩⟩
   ·rw[if_neg hc] at h;simp only[lookup_cons,e] at h;have hk:=Option.some.inj h;exact⟨k,by rw[e'];exact mem_cons_self,.inl hk.symm⟩
  | false =>
   have h':List.lookup y (r.map fun(n,k)=>if (k==NameKind.free&&env.scope.kind==.function&&env.kindOf n==some .cell) then (n,NameKind.cell) else (n,k))=some k':=by
    by_cases hc:(k==NameKind.free&&env.scope.kind==.function&&env.kindOf n==some .cell)=true
    ·rw[if_pos hc] at h;simp only[lookup_cons,e] at h;exact h
    ·rw[if_neg hc] at h;simp only[lookup_cons,e] at h;exact h
   obtain⟨k0,h1,h2⟩:=ih h';exact⟨k0,mem_cons_of_mem _ h1,h2⟩
theorem c8{env:Env}{y:Str}:∀{names:List (Str×NameKind)},names.lookup y=some .free ->
  (names.map fun(n,k)=>if (k==NameKind.free&&env.scope.kind==.function&&env.kindOf n==some .cell) then (n,NameKind.cell) else (n,k)).lookup y=some .cell \/
  (names.map fun(n,k)=>if (k==NameKind.free&&env.scope.kind==.function&&env.kindOf n==some .cell) then (n,NameKind.cell) else (n,k)).lookup y=some .free
 | [],h=>by simp at h
 | (n,k)::r,h=>by
  have ih:=@c8 env y r;show List.lookup y ((if (k==NameKind.free&&env.scope.kind==.function&&env.kindOf n==some .cell)=true then (n,NameKind.cell) else (n,k))::_)=_\/List.lookup y ((if (k==NameKind.free&&env.scope.kind==.function&&env.kindOf n==some .cell)=true then (n,NameKind.cell) else (n,k))::_)=_;cases e:y==n with
  | true =>
   simp only[lookup_cons,e] at h;cases h
   by_cases hc:(NameKind.free==NameKind.free&&env.scope.kind==.function&&env.kindOf n==some .cell)=true
   ·rw[if_pos hc];exact .inl (by simp[lookup_cons,e])
   ·rw[if_neg hc];exact .inr (by simp[lookup_cons,e])
  | false =>
   simp only[lookup_cons,e] at h
   by_cases hc:(k==NameKind.free&&env.scope.kind==.function&&env.kindOf n==some .cell)=true
   ·rw[if_pos hc];simp only[lookup_cons,e];exact ih h
   ·rw[if_neg hc];simp only[lookup_cons,e];exact ih h
def dU(X:Cx)(N':List Str)(scope:Scope)(C:Addr)(fp:List Addr)(s₀:Shared)(H₀:Hp):Cx :=
 { X with N:=N',s₀:=s₀,H₀:=H₀,env:=compEnvC scope (clOf scope X.env) C X.env,outer:=X.stack,stack:=X.stack,ex:=fp,fn:=fun _=>false,pn:=[],xe:=fun _ _=>False }
variable {H:Hp} {h:Heap}
theorem bY.track{o:HO}(x:bY P w H h)(hn:H a=none)(new:aA P w (upd H a o) h a o):bY P w (upd H a o) h:=fun b u e=>by
 by_cases hb:b=a
 ·subst hb;rw[ak] at e;cases e;exact new
 ·rw[bj hb] at e;exact(x b u e).stay (fun c v _ q=>q) (fun c q=>by rw[bj (eN q hn)];exact q) fun c xs q=>by rw[bj (eN q hn)];exact q
variable {pins:List (Addr×Obj)} {s:Shared} {b:Addr} {js:List Nat} {caps:List Str}
section
variable {σ:St}
theorem Inv.stkNe(I:Inv X pins σ H s)(h1:b≠X.env.locals)(h2:b∉X.fs):b∉cW X.stack:=fun hb=>(mem_cons.mp (I.stkSub b hb)).elim h1 h2
theorem Inv.frees(I:Inv X pins σ H s){js:List Nat}{N':List Str}{scope:Scope}(B:fJ X.N X.env.scope js N' scope):∀y∈scope.names,y.2=.free->∃c,X.env.cells.lookup y.1=some c :=
 fun y hy hf=>I.ok.has y.1 (B.frees y hy hf)
theorem Hs{x:Str}{C:Addr}{fp:List Addr}{h₁:Heap}{tk:Nat}{m:Str->Option Value}(B:fJ X.N X.env.scope js (x::caps) scope)(I:Inv X pins σ H s)(f2:∀b∈fp,kc X pins H b)(ho:∀b∈fp,∃o,s.heap.get? b=some o)(hC:s.heap.objs.size<=C)(old:∀b o,s.heap.get? b=some o->h₁.get? b=some o)(ns:h₁.Ns C m) :
  Inv (dU X (x::caps) scope C fp s H) [] (none::gM js σ) H { s with heap:=h₁,toks:=tk }:=by
 have fr:=I.frees B;have clo:∀y c,(clOf scope X.env).lookup y=some c->X.env.cells.lookup y=some c:=fun y c e=>yx fr e;have lt:∀b∈fp,b<s.heap.objs.size:=fun b hb=>let ⟨o,e⟩:=ho b hb;Heap.lt_size e
 refine⟨⟨I.ok.mod,B.kind,I.ok.glob,I.ok.blt,hC,fun a b c h1 h2=>I.ok.inj a b c (clo _ _ h1) (clo _ _ h2),fun y hy=>?_,fun y c h _=>absurd (show false=true from h) Bool.false_ne_true,I.ok.hd,I.ok.frames,.inl rfl,
   fun b hb=>⟨ne_of_lt (lt_of_lt_of_le (lt b hb) hC),fun y c h=>(f2 b hb).2.2.2.2.1 y c (clo y c h)⟩,I.bs,le_trans I.ok.bsz I.sz,fun b o e hb=>?_,fun b hb=>I.stkNe (f2 b hb).2.1 (f2 b hb).2.2.1,I.stack,I.stkFree⟩,
  rfl,I.bare,Un.kept old,⟨m,ns,fun i y v e1 e2 e3=>?_⟩,fun y c h=>?_,I.hok.fresh hC,fun y c h=>I.freeC y c (clo y c h),fun p hp=>absurd (show p∈([]:List (Addr×Obj)) from hp) (by simp),I.hok.kept old,?_⟩
 ·have hy':(relabel scope X.env).names.lookup y=some .cell\/(relabel scope X.env).names.lookup y=some .free:=hy;have hm:(y,NameKind.free)∈scope.names:=by
   rcases hy' with z|z
   ·obtain⟨k,h1,h2⟩:=cN z;rcases h2 with h2|⟨h2,_⟩
    ·exact absurd h2.symm (B.cell _ h1)
    ·rw[h2] at h1;exact h1
   ·obtain⟨k,h1,h2⟩:=cN z;rcases h2 with h2|⟨_,h2⟩
    ·rw[<- h2] at h1;exact h1
    ·cases h2
  exact yt hm
 ·rcases(f2 b hb).2.2.2.1 with z|z
  ·exact I.ok.noex b o e z
  ·exact absurd (lt_of_lt_of_le (Heap.lt_size e) (le_trans I.ok.bsz z)) (lt_irrefl _)
 ·cases i with
  | zero =>
   have q:some (none:Option V)=some (some v):=e2;cases q
  | succ k =>
   have e1':caps[k]?=some y:=e1;have e2':(js.map fun j=>σ.getD j none)[k]?=some (some v):=e2;rw[getElem?_map] at e2';cases hj:js[k]? with
   | none=>rw[hj] at e2';cases e2'
   | some j =>
    rw[hj] at e2';have hv:σ.getD j none=some v:=Option.some.inj e2';have hσ:σ[j]?=some (some v):=by
     rw[getD_eq_getElem?_getD] at hv;cases q:σ[j]? with
     | none=>rw[q] at hv;cases hv
     | some z=>rw[q] at hv;exact congrArg some hv
    have hz:(j,y)∈js.zip caps:=mem_of_getElem? (getElem?_zip_eq_some.mpr ⟨hj,e1'⟩);obtain⟨hN,hf⟩:=B.cap (j,y) hz;have hk:=B.frees (y,.free) (PySem.mem_of_lookup hf) rfl;obtain⟨m',_,hl⟩:=I.loc;obtain⟨u,r,l⟩:=hl j y v hN hσ (.inr hk);rcases l with ⟨k1,_⟩|⟨k1,c,hcl,o,hco,hcd⟩
    ·have k1':X.env.scope.names.lookup y=some .local:=k1;have hk':X.env.scope.names.lookup y=some .cell\/X.env.scope.names.lookup y=some .free:=hk;rw[k1'] at hk';rcases hk' with z|z<;>cases z
    ·obtain⟨c',hc'⟩:=yt (env:=X.env) (PySem.mem_of_lookup hf);have:=clo _ _ hc';rw[hcl] at this;cases this;exact⟨u,r,.inr ⟨c8 hf,c,hc',o,old c o hco,hcd⟩⟩
 ·obtain⟨v,o,h1,h2⟩:=I.cell y c (clo y c h);exact⟨v,o,old c o h1,h2⟩
 ·show(none::gM js σ).length=(x::caps).length;rw[B.len];simp[gM]
end
def PIfs(Y:Cx)(ifs:List Expr)(tt:TT):Prop :=
 ∀(pins:List (Addr×Obj)) (s:Shared) (σ:St) (H:Hp) (Q:Bool->Hp->Prop),Inv Y pins σ H s->tt σ H Q ->
  wpAny (model Y.prog Y.w) Y.A (forIn ifs true fun c r=>if r=true then do let ok <- isTrue c Y.env (eval c Y.env);pure (ForInStep.yield ok) else pure (ForInStep.yield r)) (TP Y pins σ Q) Y.xe s
def AQ:TT:=fun _ H Q=>Q true H
variable {Y:Cx}
theorem Fq:PIfs Y [] AQ:=fun _ _ _ H _ I h=>wpAny_tests_nil ⟨H,I,h⟩
theorem Fp{c:Expr}{tc:TT}(h:PT Y c tc):PIfs Y [c] tc:=fun pins s σ H Q I hw=>wpAny_tests_one (h pins s σ H Q I hw)
def z9(J:It)(cs:St)(tt:TT)(te:TE)(Q:VK)(H1:Hp):Prop:=∃W:Nat->Nat->List V->Hp->Prop,(∃m,W 0 m [] H1)/\∀i m ys H2,W i m ys H2 ->
 (J.stop i H2/\∀p,H2 p=none->Q (.ref p) (upd H2 p (.lst ys))) \/
 (J.go i H2/\ys.length<sizeLine/\∃N:List V->Hp->Prop,(∀ys' H',N ys' H'->∃m',m'<m/\W (i+1) m' ys' H') /\
  ∀x H',J.yld i H2 x H'->tt (some x::cs) H' fun b H4=>if b=true then te (some x::cs) H4 fun y H5=>N (ys++[y]) H5 else N ys H4)
def qe(js:List Nat)(wi:TI)(tt:TT)(te:TE):TE:=fun σ H Q=>wi σ H fun J H1=>z9 J (gM js σ) tt te Q H1
variable {A:Around} {E:Value->Shared->Prop}
theorem Fo{α:Type}{M:Model}{Φ:Unit->Shared->Prop}{E':Value->Shared->Prop}{t:Sem α}{Ψ:α->Shared->Prop}(h:wpAny M A (pure ()) Φ E s)(k:Φ () s->wpAny M A t Ψ E' s):wpAny M A t Ψ E' s :=
 fun Γ p hΓ=>k (h Γ p hΓ) Γ p hΓ
variable {pos:Pos} {tt:TT} {te:TE}
section
variable {elt iter:Expr} {x:Str} {px p:Pos} {ifs:List Expr} {wi:TI}
theorem xk{use:Option (Value->Sem Unit)}{Qf:Value->Shared->Prop}{σ:St}{Q:VK}(B:fJ X.N X.env.scope js (x::caps) scope)(hc:X.calm=true)(hx:scope.names.lookup x=some .local)(hi:PI X (.Name x px) iter wi)(ht:∀C fp s₀ H₀,PIfs (dU X (x::caps) scope C fp s₀ H₀) ifs tt)(he:∀C fp s₀ H₀,PE (dU X (x::caps) scope C fp s₀ H₀) elt te)(hs:∀v,foldedSetIterable iter X.env v=pure v)(I:Inv X pins σ H s)(hw:qe js wi tt te σ H Q)(fin:∀(C D:Addr) (oC:Obj) (ys:List V) (H':Hp) (s1:Shared),Inv X (pins++[(C,oC)]) σ (upd H' D (.lst ys)) s1->Q (.ref D) (upd H' D (.lst ys)) ->
   (∀σ' H'' s',Inv X (pins++[(C,oC)]) σ' H'' s'->(∃m,s'.heap.Ns C m)/\∀h',Heap.SameBut C s'.heap h'->Inv X pins σ' H'' { s' with heap:=h' }) ->
   compPost (model X.prog X.w) X.A X.xe use Qf (.ref D) C (.ok .next) s1) :
  wpAny (model X.prog X.w) X.A (comprehension (.ListComp elt [⟨.Name x px,iter,ifs,0⟩] scope pos) scope X.env p (newList []) false (eval iter X.env) use) Qf X.xe s:=by
 have fr:=I.frees B;refine wpAny_comprehension_free (use:=use) rfl hs (HJ fr) B.kind B.names (aN (hi pins s σ H _ I hw) fun v s1 h1=>aN h1 fun itv s2 h2=>?_);obtain⟨it,fp,tn,J,H2,e,I2,T,st2,f2,W,⟨m0,w0⟩,turn⟩:=h2;subst e;refine wpAny_newObj_type (wpAny_newFunctionEnv B.cell (by intro y hy;simp at hy) (fun h₁ hns₁ hsb₁=>?_) B.kind);dsimp only at hns₁ hsb₁ ⊢;generalize hG:s2.heap.push { cls:=.type "list",dict:=none,data:=.seq ([]:List Value).toArray }=G at hns₁ hsb₁ ⊢;have hC:G.objs.size=s2.heap.objs.size+1:=by rw[<- hG,Heap.size_push]
 have hDC:s2.heap.objs.size≠G.objs.size:=by rw[hC];exact ne_of_lt (lt_succ_self _)
 have hCle:s2.heap.objs.size<=G.objs.size:=by rw[hC];exact le_succ _
 have old:∀b o,s2.heap.get? b=some o->h₁.get? b=some o:=fun b o e =>
  hsb₁.extBut b o (ne_of_lt (lt_of_lt_of_le (Heap.lt_size e) hCle)) (Heap.get?_push_of_some _ (hG▸Heap.get?_push_of_some _ e))
 have hacc:h₁.get? s2.heap.objs.size=some (LCg.lst []):=hsb₁.extBut _ _ hDC (Heap.get?_push_of_some _ (hG▸Heap.get?_push_size _ rfl));have fpo:∀b∈fp,∃o,s2.heap.get? b=some o:=fun b hb=>let ⟨o,e,_⟩:=T.obj 0 _ st2 b hb;⟨o,e⟩
 have fpl:∀b∈fp,b<s2.heap.objs.size:=fun b hb=>let ⟨o,e⟩:=fpo b hb;Heap.lt_size e
 have clo:∀y c,(clOf scope X.env).lookup y=some c->X.env.cells.lookup y=some c:=fun y c e=>yx fr e;have cls2:∀y c,X.env.cells.lookup y=some c->c<s2.heap.objs.size:=fun y c e=>let ⟨v,o,h1,_⟩:=I2.cell y c e;Heap.lt_size h1
 have st1:tn 0 h₁:=T.keep 0 _ _ st2 fun b _ o e=>old b o e;have D_fs:s2.heap.objs.size∉cW X.stack:=I2.stkNe (ne_of_gt I2.lt) (I2.nofs (le_refl _));have C_fs:G.objs.size∉X.fs:=I2.nofs hCle;have C_L:G.objs.size≠X.env.locals:=ne_of_gt (lt_of_lt_of_le I2.lt hCle);have fpY:∀{pl:List (Addr×Obj)} {H':Hp},(∀b∈fp,H' b=none)->(∀p∈pl,s2.heap.objs.size<=p.1)->∀b∈fp,kc (dU X (x::caps) scope G.objs.size fp s2 H2) pl H' b:=fun {pl H'} hn hp b hb =>
  ⟨hn b hb,ne_of_lt (lt_of_lt_of_le (fpl b hb) hCle),I2.stkNe (f2 b hb).2.1 (f2 b hb).2.2.1,.inl hb,fun y c h=>(f2 b hb).2.2.2.2.1 y c (clo y c h),fun p hp' z =>
   absurd (lt_of_lt_of_le (fpl b hb) (by rw[<- z];exact hp p (by simpa[dU] using hp'))) (lt_irrefl _)⟩
 have rel:∀{oC:Obj} {mC:Str->Option Value},LCg.NsObj oC mC->∀σ' H'' s',Inv X (pins++[(G.objs.size,oC)]) σ' H'' s'->(∃m,s'.heap.Ns G.objs.size m)/\∀h',Heap.SameBut G.objs.size s'.heap h'->Inv X pins σ' H'' { s' with heap:=h' }:=by
  intro oC mC hns σ' H'' s' I';obtain⟨e1,e2,e3,e4,e5⟩:=I'.pin (G.objs.size,oC) (mem_append_right _ (mem_append_right _ (by simp)));refine⟨⟨mC,hns.ns e1⟩,fun h' hs'=>?_⟩;exact(I'.unpinned).turned (t':=s'.toks) (it:=G.objs.size) (fun b o hb e=>(hs'.2 b hb).trans e) e2 e3 (.inr (le_trans I2.sz hCle)) (fun y c h z=>absurd (lt_of_lt_of_le (cls2 y c h) (by rw[z];exact hCle)) (lt_irrefl _))
   (fun q hq z=>absurd (lt_of_lt_of_le (Heap.lt_size (I2.pin q hq).1) (by rw[z];exact hCle)) (lt_irrefl _))
 have I1:Inv (dU X (x::caps) scope G.objs.size fp s2 H2) [] (none::gM js σ) H2 { s2 with heap:=h₁,toks:=s2.toks+([]:List (Str×Value)).length }:=Hs B I2 f2 fpo hCle old hns₁;have hxl:(dU X (x::caps) scope G.objs.size fp s2 H2).env.scope.names.lookup x=some .local:=lookup_relabel_local hx;have pinD:∀{us:List Value} {σ3:St} {H3:Hp} {s3:Shared},Inv (dU X (x::caps) scope G.objs.size fp s2 H2) [] σ3 H3 s3->s3.heap.get? s2.heap.objs.size=some (LCg.lst us)->H3 s2.heap.objs.size=none ->
   Inv (dU X (x::caps) scope G.objs.size fp s2 H2) [(s2.heap.objs.size,LCg.lst us)] σ3 H3 s3:=fun {us σ3 H3 s3} I3 hD nD=>I3.pins_of fun p hp=>by
  have e:p=(s2.heap.objs.size,LCg.lst us):=by simpa using hp
  subst e;exact⟨hD,nD,hDC,D_fs,fun v z=>by
   have z':Data.seq _ _=Data.cell v:=z;cases z'⟩
 have back:∀{us us':List Value} {ts:Option V} {H8:Hp} {s5 s8:Shared} {h9:Heap} {i:Nat},Inv (dU X (x::caps) scope G.objs.size fp s2 H2) ([(s2.heap.objs.size,LCg.lst us)]++mn fp s5.heap) (ts::gM js σ) H8 s8->tn (i+1) s5.heap ->
   (∀b,b≠s2.heap.objs.size->h9.get? b=s8.heap.get? b)->h9.get? s2.heap.objs.size=some (LCg.lst us') ->
   Inv (dU X (x::caps) scope G.objs.size fp s2 H2) [] (none::gM js σ) H8 { s8 with heap:=h9 }/\tn (i+1) h9/\(∀b∈fp,H8 b=none)/\H8 s2.heap.objs.size=none:=by
  intro us us' ts H8 s5 s8 h9 i I8 st5 hk hD9;have pn:∀q∈[(s2.heap.objs.size,LCg.lst us)]++mn fp s5.heap,s8.heap.get? q.1=some q.2/\H8 q.1=none:=fun q hq=>let z:=I8.pin q (mem_append_right _ hq);⟨z.1,z.2.1⟩
  have nD:H8 s2.heap.objs.size=none:=(pn (s2.heap.objs.size,LCg.lst us) (by simp)).2;have Iw:Inv (dU X (x::caps) scope G.objs.size fp s2 H2) [] (none::gM js σ) H8 s8:=(I8.pins_of (pins':=[]) fun q hq=>nomatch hq).weak rfl fun j v e=>by
   cases j with
   | zero =>
    have q:some (none:Option V)=some (some v):=e;cases q
   | succ j=>exact e
  refine⟨Iw.turned (t':=s8.toks) (it:=s2.heap.objs.size) (fun b o hb e=>(hk b hb).trans e) nD hDC (.inr (le_refl _)) (fun y c h z=>absurd (cls2 y c (clo y c h)) (by rw[z];exact lt_irrefl _)) (fun q hq=>absurd (show q∈([]:List (Addr×Obj)) from hq) (by simp)),
   T.keep _ _ _ st5 fun b hb o e=>?_,fun b hb=>?_,nD⟩
  ·rw[hk b (ne_of_lt (fpl b hb))];exact(pn (b,o) (mem_append_right _ (qa hb e))).1
  ·obtain⟨o,e,_⟩:=T.obj _ _ st5 b hb;exact(pn (b,o) (mem_append_right _ (qa hb e))).2
 have loop:codeAny (model X.prog X.w) X.A (.compLoop (.ListComp elt [⟨.Name x px,iter,ifs,0⟩] scope pos) 0 (.ref it) (.ref s2.heap.objs.size) (compEnvC scope (clOf scope X.env) G.objs.size X.env))
   (compPost (model X.prog X.w) X.A X.xe use Qf (.ref s2.heap.objs.size) G.objs.size) { s2 with heap:=h₁,toks:=s2.toks+([]:List (Str×Value)).length }:=by
  refine codeAny_compLoop_tests (fun n s'=>∃(i:Nat) (ys:List V) (us:List Value) (H':Hp),Inv (dU X (x::caps) scope G.objs.size fp s2 H2) [] (none::gM js σ) H' s'/\tn i s'.heap/\(∀b∈fp,H' b=none) /\
   s'.heap.get? s2.heap.objs.size=some (LCg.lst us)/\Vals ys us/\H' s2.heap.objs.size=none/\ys.length<=sizeLine/\W i n ys H') ?_ m0 ⟨0,[],[],H2,I1,st1,fun b hb=>(f2 b hb).1,hacc,.nil,I2.hok.fresh (le_refl _),zero_le _,w0⟩
  rintro n s3 ⟨i,ys,us,H3,I3,st3,fr3,hD,rv,nD,hz,w3⟩;have I3':=pinD I3 hD nD;have hpl:∀p∈[(s2.heap.objs.size,LCg.lst us)],s2.heap.objs.size<=p.1:=fun p hp=>by
   have e:p=(s2.heap.objs.size,LCg.lst us):=by simpa using hp
   subst e;exact le_refl _
  rcases turn i n ys H3 w3 with ⟨stop,q⟩|⟨go,hlt,N,hN,step⟩
  ·refine wpAny_mono (T.done (dU X (x::caps) scope G.objs.size fp s2 H2) rfl rfl rfl hc i _ s3 _ H3 (fun _ _=>False) I3' (fpY fr3 hpl) st3 stop) (fun r s4 hr=>?_) fun _ _ z=>z.elim;obtain⟨hr,I4⟩:=hr;subst hr;have hD4:s4.heap.get? s2.heap.objs.size=some (LCg.lst us):=(I4.pin (s2.heap.objs.size,LCg.lst us) (mem_append_right _ (by simp))).1;have un:Un (cW X.stack) fp H2 (upd H3 s2.heap.objs.size (.lst ys)) s2.heap s4.heap :=
    ⟨fun b o e n hb hx=>I4.base.keep b o e n hb hx,fun b o e n hb hx=>I4.base.slot b o e n hb hx,fun b o e n hx=>by rw[bj (ne_of_lt (Heap.lt_size e))];exact I4.base.free b o e n hx,fun b o e hx=>I4.base.there b o e hx,
     fun b zs e=>by have q:=I4.base.tups b zs e;rw[bj (eN q nD)];exact q,fun b o u e=>by have q:=I4.base.frzs b o u e;rw[bj (eN q nD)];exact q,
     fun b ps e=>by obtain⟨more,q⟩:=I4.base.tbls b ps e;exact⟨more,by rw[bj (eN q nD)];exact q⟩⟩
   have hok4:bY X.prog X.w (upd H3 s2.heap.objs.size (.lst ys)) s4.heap:=bY.track I4.hok nD ⟨hz,us,us.length,rv,hD4⟩;have IX:Inv X pins σ (upd H3 s2.heap.objs.size (.lst ys)) s4:=I2.call' (ch:=fp) I4.os un hok4 I4.bare fun b hb=>⟨(f2 b hb).2.2.2.1,(f2 b hb).2.1,(f2 b hb).2.2.2.2.1,(f2 b hb).2.2.2.2.2⟩
   obtain⟨mC,hnC,_⟩:=I4.loc;obtain⟨oC,eC,nsC⟩:=LCg.ns_obj hnC;have nC:(upd H3 s2.heap.objs.size (.lst ys)) G.objs.size=none:=by rw[bj (Ne.symm hDC)];exact I4.free
   have dC:∀v,oC.data≠.cell v:=fun v z=>by
    obtain⟨es,ep,d,_⟩:=nsC;rw[d] at z;cases z
   have IX':Inv X (pins++[(G.objs.size,oC)]) σ (upd H3 s2.heap.objs.size (.lst ys)) s4:=IX.pins_of fun q hq=>by
    rcases mem_append.mp hq with z|z
    ·exact IX.pin q (mem_append_right _ z)
    ·have e:q=(G.objs.size,oC):=by simpa using z
     subst e;exact⟨eC,nC,C_L,C_fs,dC⟩
   exact fin G.objs.size s2.heap.objs.size oC ys H3 s4 IX' (q _ nD) (rel nsC)
  ·refine wpAny_mono (T.item (dU X (x::caps) scope G.objs.size fp s2 H2) rfl rfl rfl hc i _ s3 _ H3 (fun _ _=>False) I3' (fpY fr3 hpl) st3 go) (fun r s4 hr=>?_) fun _ _ z=>z.elim;obtain⟨u,hr,h4⟩:=hr;subst hr;show wpAny _ _ (assign _ _ u) _ _ s4;refine Fo h4 fun h5=>?_;obtain⟨xv,H5,I5,r5,y5,st5,fr5⟩:=h5;have I5':=I5.pinned (fpY fr5 hpl) (T.obj _ _ st5);refine wpAny_mono (sm (X:=dU X (x::caps) scope G.objs.size fp s2 H2) (i:=0) (x:=x) B.nd rfl (Or.inl hxl) (.inr hxl) _ s4 _ H5 xv u (fun σ' H'=>σ'=some xv::gM js σ/\H'=H5) I5' r5 ⟨rfl,rfl⟩) (fun _ s6 h6=>?_) fun _ _ z=>False.elim z;obtain⟨σ6,H6,I6,e6,e6'⟩:=h6;subst e6 e6';refine wpAny_mono (ht _ _ _ _ _ s6 _ _ _ I6 (step xv _ y5)) (fun b s7 h7=>?_) fun _ _ z=>False.elim z;obtain⟨H7,I7,q7⟩:=h7;cases b with
   | false =>
    rw[if_neg Bool.false_ne_true] at q7;show if false=true then _ else _
    rw[if_neg Bool.false_ne_true];have hD7:s7.heap.get? s2.heap.objs.size=some (LCg.lst us):=(I7.pin (s2.heap.objs.size,LCg.lst us) (mem_append_right _ (mem_append_left _ (by simp)))).1;obtain⟨J1,J2,J3,J4⟩:=back I7 st5 (fun _ _=>rfl) hD7;obtain⟨m',hm,w'⟩:=hN _ _ q7;exact⟨m',hm,i+1,ys,us,H7,J1,J2,J3,hD7,rv,J4,hz,w'⟩
   | true =>
    rw[if_pos rfl] at q7;show if true=true then _ else _
    rw[if_pos rfl];refine wpAny_mono (he _ _ _ _ _ s7 _ _ _ I7 q7) (fun yu s8 h8=>?_) fun _ _ z=>False.elim z;obtain⟨yv,H8,I8,r8,q8⟩:=h8;have hD8:s8.heap.get? s2.heap.objs.size=some (LCg.lst us):=(I8.pin (s2.heap.objs.size,LCg.lst us) (mem_append_right _ (mem_append_left _ (by simp)))).1;have hlu:us.length=ys.length:=rv.length.symm;refine append_at hD8 (fun h9 hs9 hD9=>?_) (by rw[size_toArray,hlu];exact hz);have hD9':h9.get? s2.heap.objs.size=some (LCg.lst (us++[yu])):=hD9.trans (congrArg some (LCg.lst_snoc us yu));obtain⟨J1,J2,J3,J4⟩:=back I8 st5 hs9.2 hD9';obtain⟨m',hm,w'⟩:=hN _ _ q8;exact⟨m',hm,i+1,ys++[yv],us++[yu],H8,J1,J2,J3,hD9',rv.append (.cons r8 .nil),J4,by rw[length_append,length_singleton];exact hlt,w'⟩
 exact codeAny_compStart_list loop (T.self X.A 0 _ _ _ st1 loop)
theorem AO(B:fJ X.N X.env.scope js (x::caps) scope)(hc:X.calm=true)(hx:scope.names.lookup x=some .local)(hi:PI X (.Name x px) iter wi)(ht:∀C fp s₀ H₀,PIfs (dU X (x::caps) scope C fp s₀ H₀) ifs tt)(he:∀C fp s₀ H₀,PE (dU X (x::caps) scope C fp s₀ H₀) elt te)(hs:∀v,foldedSetIterable iter X.env v=pure v:=by intro _;rfl):PE X (.ListComp elt [⟨.Name x px,iter,ifs,0⟩] scope pos) (qe js wi tt te):=by intro pins s σ H Q I hw;rw[eval_ListComp];refine xk (use:=none) (Q:=Q) B hc hx hi ht he hs I hw fun C D oC ys H' s1 IX q rel=>?_;obtain⟨⟨m,hn⟩,rl⟩:=rel _ _ _ IX;exact⟨m,hn,fun h' hs'=>⟨.ref D,_,rl h' hs',rfl,q⟩⟩
theorem Bs{y:Str}{py spos:Pos}{k:Nat}(B:fJ X.N X.env.scope js (x::caps) scope)(hc:X.calm=true)(hx:scope.names.lookup x=some .local)(hi:PI X (.Name x px) iter wi)(ht:∀C fp s₀ H₀,PIfs (dU X (x::caps) scope C fp s₀ H₀) ifs tt)(he:∀C fp s₀ H₀,PE (dU X (x::caps) scope C fp s₀ H₀) elt te)(hN:X.N.Nodup)(hk:X.N[k]?=some y)(hy:X.env.scope.names.lookup y=some .local)(hsw:swapsWith (.ListComp elt [⟨.Name x px,iter,ifs,0⟩] scope pos) (some (.Name y py)) spos.line X.env=pure true)(hs:∀v,foldedSetIterable iter X.env v=pure v:=by intro _;rfl):PS X (.Assign [.Name y py] (.ListComp elt [⟨.Name x px,iter,ifs,0⟩] scope pos) spos) (qw (qe js wi tt te) (gJ k)):=by intro pins s σ H D I hw;rw[exec_Assign_Name_used _ _ _ _ hsw];refine wpAny_bind (wpAny_standAt (wpAny_bind ?_));show wpAny _ _ (do let _ <- comprehension (.ListComp elt [⟨.Name x px,iter,ifs,0⟩] scope pos) scope X.env _ (newList []) false (eval iter X.env) (some (assign (.Name y py) X.env))) _ _ s;refine wpAny_bind (aN (xk (use:=some (assign (.Name y py) X.env)) (Qf:=fun _ s'=>SP X pins D .next s') (Q:=fun v H1=>D.nx (σ.set k (some v)) H1) B hc hx hi ht he hs I hw fun C a oC ys H' s1 IX q rel=>?_) fun _ s' hq=>wpAny_pure (wpAny_pure hq));show wpAny _ _ (assign (.Name y py) X.env (.ref a)) _ _ s1;refine aN (sm (i:=k) hN hk (Or.inl hy) (.inr hy) _ s1 σ _ (.ref a) (.ref a) (fun σ' H'=>D.nx σ' H') IX rfl q) fun _ s' h=>?_;obtain⟨σ',H'',I',q'⟩:=h;obtain⟨⟨m,hn⟩,rl⟩:=rel _ _ _ I';exact⟨m,hn,fun h' hs'=>⟨σ',H'',rl h' hs',q'⟩⟩
end
section
variable {p:Pos}
def qE(K:Frag):List V->Hp->VK->Prop:=fun xs H Q=>∃x T t b,xs=[x,.ty T]/\cQ K H x t/\kitOne K t (.type T)=some b/\Q (.bl b) H
theorem Fm:aO X (.builtin "isinstance") (qE X.K):=by
 intro pins s σ H xs us Q I r h;obtain⟨x,T,t,b,rfl,ty,e,q⟩:=h;obtain⟨u,w',rfl,rx,ry⟩:=nG r;cases ry;exact Hx I rx ty e fun tk=>⟨.bl b,H,I.tok tk,rfl,q⟩
theorem Fj(hc:X.calm=true):aO X (.builtin "all") (fun xs H Q=>∃(a:Addr) (bs:List Bool),xs=[.ref a]/\cL X.K H a (bs.map V.bl)/\Q (.bl (bs.all id)) H):=by
 intro pins s σ H xs us Q I r h;obtain⟨a,bs,rfl,hq,q⟩:=h;obtain⟨u,rfl,rx⟩:=iJ r;cases rx;obtain⟨its,rv,pl,hz⟩:=I.list hq;have hlt:a<s.heap.objs.size:=by obtain⟨o,n,e,_⟩:=pl;exact Heap.lt_size e
 have hlen:bs.length=its.length:=by have:=rv.length;simpa using this
 have hh:X.A.in1.handled=none:=I.ok.hd hc;refine call_all_walk (wpAny_pyIter_list pl.isList ?_);have tr:TruthOf X.prog X.w X.A.in1 (fun i v=>its.toArray[i]?=some v) (fun i=>bs.getD i true):=by
  intro i v s' Q' E' hv hQ;have hv':its[i]?=some v:=by simpa using hv
  have hi:i<its.length:=(List.getElem?_eq_some_iff.mp hv').1;have hb:bs[i]?=some bs[i]:=by simp[hlen,hi]
  obtain⟨u,hu,ru⟩:=rv.get (i:=i) (x:=V.bl (bs[i]'(by omega))) (by rw[getElem?_map,hb];rfl);rw[hv'] at hu;cases hu;cases (show v=Value.bool (bs[i]'(by omega)) from ru);have e:bs.getD i true=bs[i]'(by omega):=by rw[getD_eq_getElem?_getD,hb];rfl
  have hQ':Q' (bs.getD i true) s':=hQ;rw[e] at hQ';exact wpAny_truthy_bool hQ'
 refine⟨s.heap.objs.size,_,_,its.toArray.size,_,_,fun i=>bs.getD i true,rfl,Walks.list hh s.heap.objs.size a (ne_of_lt hlt) its.toArray,⟨⟨_,Heap.get?_push_size _ rfl,rfl,rfl⟩,pl.isList.push _⟩,tr,fun h' tk hk=>?_⟩;have I1:Inv X pins σ H { s with heap:=h',toks:=tk }:=I.kept fun b o e=>hk b o (by simpa using ne_of_lt (Heap.lt_size e)) (Heap.get?_push_of_some _ e);refine⟨.bl _,H,I1,rfl,?_⟩;have e:(List.range its.toArray.size).all (fun i=>bs.getD i true)=bs.all id:=by
  rw[size_toArray,<- hlen];rw[Bool.eq_iff_iff,all_eq_true,all_eq_true];constructor
  ·intro z b hb;obtain⟨i,hi,rfl⟩:=mem_iff_getElem.mp hb;have:=z i (mem_range.mpr hi);rw[getD_eq_getElem?_getD] at this;simpa[hi] using this
  ·intro z i hi;have hi':=mem_range.mp hi;have:=z (bs[i]) (getElem_mem hi');rw[getD_eq_getElem?_getD];simpa[hi'] using this
 rw[e];exact q
theorem HY:aO X (.builtin "sorted") (fun xs H Q=>∃(a:Addr) (ns:List Int),xs=[.ref a]/\cL X.K H a (ns.map V.int)/\ns.length<64/\∀ms:List Int,ms.Perm ns->ms.Pairwise (·<=·)->∀l,H l=none->Q (.ref l) (upd H l (.lst (ms.map V.int)))):=by
 intro pins s σ H xs us Q I r h;obtain⟨a,ns,rfl,hq,h64,q⟩:=h;obtain⟨u,rfl,rx⟩:=iJ r;cases rx;obtain⟨its,rv,pl,hz⟩:=I.list hq;have hlen:ns.length=its.length:=by have:=rv.length;simpa using this
 refine sorted_ints pl.isList (zm rv) (by omega) fun out ms hI hp hs=>?_;obtain⟨e,he⟩:=sortedAll_at s.heap its out;have rv':Vals (ms.map V.int) out.toList:=oh hI;have hl':ms.length=ns.length:=hp.length_eq;refine⟨.ref (s.heap.objs.size+1),_,I.laid (t':=s.toks) (a:=s.heap.objs.size+1) (o:=.lst (ms.map V.int)) (fun b o e=>sortedAll_old e) (le_succ _) ?_,rfl,q ms hp hs _ (I.hok.fresh (le_succ _))⟩;refine⟨by rw[length_map,hl',hlen];have:=rv.length;omega,out.toList,e,rv',?_⟩;rw[toArray_toList];exact he
end
abbrev Rep(α:Type):=Frag->Hp->V->α->Prop
def JH:Rep Int:=fun _ _ v i=>v=.int i
def JG{α:Type}(R:Rep α):Rep (List α):=fun K H v l=>∃p vs,v=.ref p/\cL K H p vs/\Paired (R K H) vs l
def Kh{α β:Type}(R:Rep α)(S:Rep β):Rep (α×β):=fun K H v l=>∃p x y,v=.ref p/\eG K H p [x,y]/\R K H x l.1/\S K H y l.2
theorem Paired.at2{α β:Type}{F:α->β->Prop}:∀{l₁:List α} {l₂:List β},Paired F l₁ l₂->∀(i:Nat) (a:α),l₁[i]?=some a->∃b,l₂[i]?=some b/\F a b
 | _,_,.nil,_,_,h=>by simp at h
 | _,_,.cons r t,0,a,h=>by simp at h;subst h;exact⟨_,rfl,r⟩
 | _,_,.cons r t,i+1,a,h=>by
  obtain⟨b,h1,h2⟩:=Paired.at2 t i a (by simpa using h);exact⟨b,by simpa using h1,h2⟩
section
variable {α β:Type} [DecidableEq α] [DecidableEq β] {R:Rep α} {S:Rep β} {σ:St}
end
section
variable {α β:Type} [DecidableEq α] [DecidableEq β] {R:Rep α} {S:Rep β}
end
section
variable {α:Type} [DecidableEq α] {R:Rep α}
end
section
variable {α β:Type} [DecidableEq α] [DecidableEq β] {R:Rep α} {S:Rep β}
end
variable {e:Expr}
section
variable {rest:List Stmt} {t u:TS}
end
def vf(N:List Str)(psc:Scope)(js:List Nat)(N':List Str)(scope:Scope):Bool :=
 scope.names.all (fun y=>decide (y.2≠.cell))&&decide (scope.kind=.function)&&scope.names.all (fun y=>decide (y.2=.local->scope.names.lookup y.1=some .local)) &&
 scope.names.all (fun y=>decide (y.2=.free->psc.names.lookup y.1=some .cell\/psc.names.lookup y.1=some .free))&&decide N'.Nodup&&decide (N'.length=js.length+1) &&
 (js.zip (N'.drop 1)).all (fun p=>decide (N[p.1]?=some p.2/\scope.names.lookup p.2=some .free))
theorem g8{N:List Str}{psc:Scope}{N':List Str}(h:vf N psc js N' scope=true):fJ N psc js N' scope:=by unfold vf at h;simp only[and_eq_true,all_eq_true,decide_eq_true_eq] at h;obtain⟨⟨⟨⟨⟨⟨h1,h2⟩,h3⟩,h4⟩,h5⟩,h6⟩,h7⟩:=h;exact⟨h1,h2,h3,h4,h5,h6,h7⟩
theorem aR.cmp{k:Nat}(r:aR k A)(n:Nat)(h:n<=64:=by decide):A.units+n<cLine:=by have:=r.units;omega
theorem Paired.app{α β:Type}{F:α->β->Prop}:∀{l₁ m₁:List α} {l₂ m₂:List β},Paired F l₁ l₂->Paired F m₁ m₂->Paired F (l₁++m₁) (l₂++m₂)
 | _,_,_,_,.nil,s=>s
 | _,_,_,_,.cons r t,s=>.cons r (Paired.app t s)
def pr(H:Hp)(v:V)(l:Int×Int):Prop:=∃q,v=.ref q/\H q=some (.tup [.int l.1,.int l.2])
def Kj(H:Hp)(p:Addr)(L:List (Int×Int)):Prop:=∃vs,H p=some (.lst vs)/\Paired (pr H) vs L
def Br(H:Hp)(v:V)(r:List Int):Prop:=∃q,v=.ref q/\H q=some (.tup (r.map V.int))
def JP(H:Hp)(v:V)(rows:List (List Int)):Prop:=∃q vs,v=.ref q/\H q=some (.tup vs)/\Paired (Br H) vs rows
variable {tg:Expr} {tl:TE}
section
variable (K:Frag)
theorem Jo(hK:X.K=K:=by rfl):jE X (qt K):=hK▸D8
theorem Jn(hK:X.K=K:=by rfl):jE X (qr K):=hK▸Co
theorem lJ(hK:X.K=K:=by rfl):aO X (.builtin "isinstance") (qE K):=hK▸Fm
def uD(K:Frag):List V->Hp->VK->Prop:=fun xs H Q=>∃(a:Addr) (bs:List Bool),xs=[.ref a]/\cL K H a (bs.map V.bl)/\Q (.bl (bs.all id)) H
theorem uT(hc:X.calm=true:=by rfl)(hK:X.K=K:=by rfl):aO X (.builtin "all") (uD K):=hK▸Fj hc
def D4(K:Frag):List V->Hp->VK->Prop:=fun xs H Q=>∃(a:Addr) (ns:List Int),xs=[.ref a]/\cL K H a (ns.map V.int)/\ns.length<64/\∀ms:List Int,ms.Perm ns->ms.Pairwise (·<=·)->∀l,H l=none->Q (.ref l) (upd H l (.lst (ms.map V.int)))
def D3(K:Frag):List V->Hp->VK->Prop:=fun xs H Q=>∃p ys,xs=[.ref p]/\(cL K H p ys\/eG K H p ys)/\∀l,H l=none->Q (.ref l) (upd H l (.lst ys))
def vF(K:Frag):List V->Hp->VK->Prop:=fun xs H Q=>∃p ys,xs=[.ref p]/\((cL K H p ys/\∀l,H l=none->Q (.ref l) (upd H l (.tup ys)))\/(eG K H p ys/\Q (.ref p) H))
theorem ml(hK:X.K=K:=by rfl):aO X (.type "tuple") (vF K):=hK▸Iu
theorem slL(hK:X.K=K:=by rfl):uA X (uF K):=hK▸D7
variable {l a:Expr} {ta:TE}
def z8(K:Frag)(ta:TE):TT:=fun σ H Q=>ta σ H fun x H'=>∃k,oN K x H' k/\Q k H'
theorem Bq(ha:PE X a ta)(he:∀whole,isTrue a X.env whole=(do let v <- whole;standAt a.pos;holding [v] (truthy v)))(hK:X.K=K:=by rfl):PT X a (z8 K ta):=hK▸GK ha he
variable {α:Type} [DecidableEq α] {R:Rep α}
end
variable {y:V} {o:Option V} {u:Value}
section
variable {κ:Type} [DecidableEq κ]
def gL(kvs:List (κ×V))(k:κ):Option V:=(kvs.find? fun kv=>decide (kv.1=k)).map (·.2)
def fo(kvs:List (κ×V))(k:κ)(v:V):List (κ×V) :=
 if (kvs.any fun kv=>decide (kv.1=k))=true then kvs.map (fun kv=>if kv.1=k then (kv.1,v) else kv) else kvs++[(k,v)]
def Jx(kvs:List (κ×V))(k:κ):List (κ×V):=kvs.filter fun kv=>decide (kv.1≠k)
theorem pL{p:κ×V}{r:List (κ×V)}{k:κ}(e:p.1=k):gL (p::r) k=some p.2:=by simp[gL,find?_cons,e]
theorem pK{p:κ×V}{r:List (κ×V)}{k:κ}(e:¬p.1=k):gL (p::r) k=gL r k:=by simp[gL,find?_cons,e]
theorem yr(k:κ):∀kvs:List (κ×V),(kvs.any fun kv=>decide (kv.1=k))=(gL kvs k).isSome
 | []=>rfl
 | p::r=>by
  rw[any_cons]
  by_cases e:p.1=k
  ·simp only[pL e,decide_eq_true e,Bool.true_or,isSome_some]
  ·rw[pK e,decide_eq_false e,Bool.false_or];exact yr k r
theorem ua(kvs:List (κ×V))(k:κ)(v:V):(fo kvs k v).length<=kvs.length+1:=by
 unfold fo;split
 ·rw[length_map];omega
 ·rw[length_append,length_cons,length_nil];omega
theorem c9.isSome_eq{u:Option Value}(r:c9 o u):o.isSome=u.isSome:=by
 cases o with
 | none=>cases u with
  | none=>rfl
  | some _=>exact(show False from r).elim
 | some _=>cases u with
  | none=>exact(show False from r).elim
  | some _=>rfl
theorem KV.val{kvs:List (κ×V)}{vs:List (κ×Value)}(r:KV kvs vs)(k:κ):c9 (gL kvs k) (valueAt vs k):=by
 unfold KV at r
 induction r with
 | nil=>exact True.intro
 | @cons p q ps qs h t ih =>
  obtain⟨h1,h2⟩:=h
  by_cases e:p.1=k
  ·have e':q.1=k:=h1.symm.trans e;have b:valueAt (q::qs) k=some q.2:=by simp[valueAt,find?_cons,e']
   rw[pL e,b];exact h2
  ·have e':¬q.1=k:=fun z=>e (h1.trans z);have b:valueAt (q::qs) k=valueAt qs k:=by simp[valueAt,find?_cons,e']
   rw[pK e,b];exact ih
theorem KV.any{kvs:List (κ×V)}{vs:List (κ×Value)}(r:KV kvs vs)(k:κ):(kvs.any fun kv=>decide (kv.1=k))=vs.any fun kv=>decide (kv.1=k):=by
 unfold KV at r
 induction r with
 | nil=>rfl
 | cons h t ih=>rw[any_cons,any_cons,ih,h.1]
theorem KV.repl{kvs:List (κ×V)}{vs:List (κ×Value)}(r:KV kvs vs)(k:κ)(ry:RelV y u) :
  KV (kvs.map fun kv=>if kv.1=k then (kv.1,y) else kv) (vs.map fun kv=>if kv.1=k then (kv.1,u) else kv):=by
 unfold KV at r ⊢
 induction r with
 | nil=>exact .nil
 | @cons p q ps qs h t ih =>
  rw[map_cons,map_cons];refine .cons ?_ ih;obtain⟨h1,h2⟩:=h
  by_cases e:p.1=k
  ·rw[if_pos e,if_pos (h1.symm.trans e)];exact⟨h1,ry⟩
  ·rw[if_neg e,if_neg (fun z=>e (h1.trans z))];exact⟨h1,h2⟩
theorem KV.put{kvs:List (κ×V)}{vs:List (κ×Value)}(r:KV kvs vs)(k:κ)(ry:RelV y u):KV (fo kvs k y) (stored vs k u):=by
 unfold fo stored;rw[r.any k]
 by_cases e:(vs.any fun kv=>decide (kv.1=k))=true
 ·rw[if_pos e,if_pos e];exact r.repl k ry
 ·rw[if_neg e,if_neg e];exact Paired.snoc r ⟨rfl,ry⟩
theorem KV.keys{kvs:List (κ×V)}{vs:List (κ×Value)}(r:KV kvs vs):kvs.map (·.1)=vs.map (·.1):=by
 unfold KV at r
 induction r with
 | nil=>rfl
 | cons h t ih=>rw[map_cons,map_cons,ih,h.1]
theorem KV.length{kvs:List (κ×V)}{vs:List (κ×Value)}(r:KV kvs vs):kvs.length=vs.length:=Paired.length r
end
variable {k:Key}
theorem gI(r:RelV (kV k) u):(dS P w).is k u=true:=by
 cases k with
 | inl i=>obtain⟨t,e⟩:=(show ∃t,u=Value.int i t from r);subst e;exact H9 P w i t
 | inr x=>obtain⟨t,e⟩:=(show ∃t,u=Value.str x t from r);subst e;exact H0 P w x t
theorem yw{P:Program}{w:World}:∀{ks:List Key} {us:List Value},Vals (ks.map kV) us->ItemsAre (dS P w) ks us
 | [],_,r=>by rw[map_nil] at r;cases r;exact .nil
 | k::ks,_,r=>by
  rw[map_cons] at r;cases r with
  | cons h t=>exact .cons (gI h) (yw t)
abbrev KT(H:Hp):List (List Key×V)->List (List Key×Addr×Value)->Prop:=Paired fun p q=>p.1=q.1/\H q.2.1=some (.tup (p.1.map kV))/\RelV p.2 q.2.2
variable {xs:List (List Key×Addr×Value)}
theorem KT.val{kvs:List (List Key×V)}(r:KT H kvs xs)(k:List Key):c9 (gL kvs k) ((atKey xs k).map (·.2)):=by
 induction r with
 | nil=>exact True.intro
 | @cons p q ps qs h t ih =>
  obtain⟨h1,_,h2⟩:=h
  by_cases e:p.1=k
  ·have e':q.1=k:=h1.symm.trans e;have b:atKey (q::qs) k=some q.2:=by simp[atKey,find?_cons,e']
   rw[pL e,b];exact h2
  ·have e':¬q.1=k:=fun z=>e (h1.trans z);have b:atKey (q::qs) k=atKey qs k:=by simp[atKey,find?_cons,e']
   rw[pK e,b];exact ih
theorem KT.repl{kvs:List (List Key×V)}(r:KT H kvs xs)(k:List Key)(ry:RelV y u) :
  KT H (kvs.map fun kv=>if kv.1=k then (kv.1,y) else kv) (xs.map (putAt k u)):=by
 induction r with
 | nil=>exact .nil
 | @cons p q ps qs h t ih =>
  rw[map_cons,map_cons];refine .cons ?_ ih;obtain⟨h1,h2,h3⟩:=h;unfold putAt
  by_cases e:p.1=k
  ·rw[if_pos e,if_pos (h1.symm.trans e)];exact⟨h1,h2,ry⟩
  ·rw[if_neg e,if_neg (fun z=>e (h1.trans z))];exact⟨h1,h2,h3⟩
theorem KT.put{kvs:List (List Key×V)}(r:KT H kvs xs)(k:List Key)(hb:H b=some (.tup (k.map kV)))(ry:RelV y u) :
  KT H (fo kvs k y) (storedH xs k b u):=by
 have e:(kvs.any fun kv=>decide (kv.1=k))=(atKey xs k).isSome:=by rw[yr,(r.val k).isSome_eq,isSome_map]
 unfold fo storedH;rw[e]
 by_cases q:(atKey xs k).isSome=true
 ·rw[if_pos q,if_pos q];exact r.repl k ry
 ·rw[if_neg q,if_neg q];exact Paired.snoc r ⟨rfl,hb,ry⟩
variable {H':Hp}
theorem KT.keeps{kvs:List (List Key×V)}(r:KT H kvs xs)(ht:∀b ys,H b=some (.tup ys)->H' b=some (.tup ys)):KT H' kvs xs :=
 Paired.mapP r fun _ _ z=>⟨z.1,ht _ _ z.2.1,z.2.2⟩
theorem ve{u:HO}(ok:bY P w H h)(e:Rd H a u):aA P w H h a u:=e.ok ok
theorem nF{kvs:List (Key×V)}(ok:bY P w H h)(e:Rd H a (.dK kvs)):kvs.length<=sizeLine/\(a==sysModules)=false/\∃vs,KV kvs vs/\h.DictOf (dS P w) a vs :=
 show aA P w H h a (.dK kvs) from ve ok e
theorem vd{kvs:List (Key×V)}(ok:bY P w H h)(e:H a=some (.dK kvs)):kvs.length<=sizeLine/\(a==sysModules)=false/\∃vs,KV kvs vs/\h.DictOf (dS P w) a vs:=nF ok (.inl e)
theorem rR{ks:List Key}(ok:bY P w H h)(e:H a=some (.tup (ks.map kV))):(tupleKind (dS P w)).is h ks a:=by
 obtain⟨_,its,r,o,h1,h2,⟨n,h3⟩,_⟩:=(show aA P w H h a (.tup (ks.map kV)) from ok a _ e)
 exact⟨o,its.toArray,n,h1,h2,h3,by simpa using yw r⟩
theorem vc{kvs:List (List Key×V)}(ok:bY P w H h)(e:Rd H a (.dT kvs)):kvs.length<=sizeLine/\(a==sysModules)=false /\
  ∃xs,KT H kvs xs/\h.DictOfH (tupleKind (dS P w)) a xs:=by
 obtain⟨z,y,xs,r,o,es,ep,h1,h2,h3,h4,h5⟩:=(show aA P w H h a (.dT kvs) from ve ok e)
 refine⟨z,y,xs,r,o,es,ep,h1,h2,h3,h4,fun x hx=>?_,h5⟩;have all:∀{l:List (List Key×V)} {m:List (List Key×Addr×Value)},KT H l m->∀x∈m,(tupleKind (dS P w)).is h x.1 x.2.1:=by
  intro l m q
  induction q with
  | nil=>intro x hx;exact nomatch hx
  | @cons p q ps qs hq t ih =>
   intro x hx;rcases mem_cons.mp hx with e|hx
   ·subst e;exact rR ok (by rw[<- hq.1];exact hq.2.1)
   ·exact ih x hx
 exact all r x hx
theorem Bp{kvs:List (List Key×V)}(ok:bY P w H h)(e:H a=some (.dT kvs)):kvs.length<=sizeLine/\(a==sysModules)=false /\
  ∃xs,KT H kvs xs/\h.DictOfH (tupleKind (dS P w)) a xs:=vc ok (.inl e)
def hJ(H:Hp)(a:Addr)(y:V)(r:Option V):Prop :=
 (∃kvs k,Rd H a (.dK kvs)/\y=kV k/\r=gL kvs k)\/∃kvs k b,Rd H a (.dT kvs)/\y=.ref b/\H b=some (.tup (k.map kV))/\r=gL kvs k
def iZ(H:Hp)(a:Addr)(y v:V)(H':Hp):Prop :=
 (∃kvs k,H a=some (.dK kvs)/\y=kV k/\kvs.length<sizeLine/\H'=upd H a (.dK (fo kvs k v))) \/
 ∃kvs k b,H a=some (.dT kvs)/\y=.ref b/\H b=some (.tup (k.map kV))/\kvs.length<sizeLine/\H'=upd H a (.dT (fo kvs k v))
theorem hJ.kz{kvs:List (Key×V)}(e:H a=some (.dK kvs)):hJ H a (kV k) (gL kvs k):=.inl ⟨kvs,k,.inl e,rfl,rfl⟩
variable {v:V}
theorem iZ.kz{kvs:List (Key×V)}(e:H a=some (.dK kvs))(hl:kvs.length<sizeLine):iZ H a (kV k) v (upd H a (.dK (fo kvs k v))):=.inl ⟨kvs,k,e,rfl,hl,rfl⟩
variable {vs:List (Key×Value)} {Q:Value->Shared->Prop} {r:Value} {h':Heap}
section
variable {σ:St}
theorem Inv.big(I:Inv X pins σ H s):sysModules<s.heap.objs.size:=by have h:mainGlobals<s.heap.objs.size:=(I.mod.glob.keeps I.bk).lt;exact lt_trans (by decide) h
theorem D0(hu:A.units+1<cLine)(I:Inv X pins σ H s)(g:hJ H a y o)(ry:RelV y u)(h:∀s',Inv X pins σ H s'->Q (.bool (!o.isSome)) s') :
  wpAny (model X.prog X.w) A (compareOp .NotIn u (.ref a)) Q E s:=by
 rcases g with ⟨kvs,k,e,ey,l⟩|⟨kvs,k,b,e,ey,eb,l⟩
 ·subst ey;obtain⟨z,hd,vs,rel,dd⟩:=nF I.hok e;refine wpAny_notIn_of (gI ry) hd dd.mapOf ?_;rw[<- (rel.val k).isSome_eq,<- l];exact h _ (I.tok _)
 ·subst ey;cases (show u=Value.ref b from ry);obtain⟨z,hd,xs,rel,dd⟩:=vc I.hok e;refine wpAny_notIn_heap (tupleKind_room_in1 hu) (rR I.hok eb) hd dd ?_;have q:=(rel.val k).isSome_eq;rw[isSome_map] at q;rw[<- q,<- l];exact h _ (I.tok _)
theorem sk{t':Nat}{ob:HO}(I:Inv X pins σ H s)(mu:oB (H a))(hs:Heap.SameBut a s.heap h')(he:∃q,h'.get? a=some q)(new:aA X.prog X.w (upd H a ob) h' a ob) :
  Inv X pins σ (upd H a ob) { s with heap:=h',toks:=t' } :=
 I.write (x:=a) (e:=a) mu (.inl rfl) (fun b q hb z=>(hs.2 b hb).trans z) he new
theorem vE{kvs:List (Key×V)}(z:kvs.length<=sizeLine)(hd:(a==sysModules)=false)(rel:KV kvs vs)(dd:h'.DictOf (dS P w) a vs) :
  aA P w H' h' a (.dK kvs):=⟨z,hd,vs,rel,dd⟩
theorem Hr{Q:Unit->Shared->Prop}(hu:A.units+1<cLine)(I:Inv X pins σ H s)(g:iZ H a y v H')(ry:RelV y u)(rv:RelV v r)(h:∀s',Inv X pins σ H' s'->Q () s') :
  wpAny (model X.prog X.w) A (setItem (.ref a) u r) Q E s:=by
 rcases g with ⟨kvs,k,e,ey,l,eH⟩|⟨kvs,k,b,e,ey,eb,l,eH⟩
 ·subst ey eH;obtain⟨z,hd,vs,rel,dd⟩:=vd I.hok e;have hz:vs.length<=sizeLine:=by rw[<- rel.length];exact z
  have hl:(fo kvs k v).length<=sizeLine:=by have:=ua kvs k v;omega
  refine wpAny_setItem_pairs (hsz:=hz) (gI ry) dd fun h' dd' hs=>h _ ?_;have he:∃q,h'.get? a=some q:=let ⟨q,_,_,hq,_⟩:=dd';⟨q,hq⟩
  exact sk I (by rw[e];exact True.intro) hs he (vE hl hd (rel.put k rv) dd')
 ·subst ey eH;cases (show u=Value.ref b from ry);obtain⟨z,hd,xs,rel,dd⟩:=Bp I.hok e;have hz:xs.length<=sizeLine:=by rw[<- Paired.length rel];exact z
  have hl:(fo kvs k v).length<=sizeLine:=by have:=ua kvs k v;omega
  refine wpAny_setItem_heap (hsz:=hz) (tupleKind_room_in1 hu) (rR I.hok eb) dd fun h' dd' hs=>h _ ?_;obtain⟨q,es,ep,hq,h2,h3,h4,_,h5⟩:=dd';refine sk I (by rw[e];exact True.intro) hs ⟨q,hq⟩ ⟨hl,hd,_,(rel.put k eb rv).keeps fun c ys ec=>?_,q,es,ep,hq,h2,h3,h4,h5⟩;rw[bj (B8 ec e (fun z=>nomatch z))];exact ec
end
section
variable {σ:St} {kvs:List (Key×V)}
theorem Bo(I:Inv X pins σ H s)(e:Rd H a (.dK kvs))(h:∀t s',Inv X pins σ H s'->Q (.int kvs.length t) s'):wpAny (model X.prog X.w) A (call (.builtin "len") [.ref a]) Q E s:=by obtain⟨z,hd,vs,rel,dd⟩:=nF I.hok e;refine call_len_dict hd dd (by rw[<- rel.length];rw[sizeLine_eq] at z;omega) ?_;rw[<- rel.length];exact h _ _ (I.tok _)
end
def DZ(ty td:TE):TE:=fun σ H Q=>ty σ H fun y H1=>td σ H1 fun x H2=>∃a o,x=.ref a/\hJ H2 a y o/\Q (.bl (!o.isSome)) H2
def Bm(td ty tv:TE):TS:=fun D σ H=>tv σ H fun v H1=>td σ H1 fun x H2=>ty σ H2 fun y H3=>∃a H4,x=.ref a/\iZ H3 a y v H4/\D.nx σ H4
section
variable {o i value:Expr} {pos' tpos:Pos} {td ty tv:TE}
theorem HF(hu:X.A.units+1<cLine)(hi:PE X i ty)(ho:PE X o td):PC X .NotIn i o (DZ ty td):=by
 intro pins s σ H Q I h;refine aN (hi pins s σ H _ I h) fun iv s1 ⟨y,H1,I1,ry,q1⟩=>aN (ho pins s1 σ H1 _ I1 q1) fun u s2 ⟨x,H2,I2,rx,a,ov,ex,g,q2⟩=>?_;subst ex;obtain rfl:u=Value.ref a:=rx;exact D0 hu I2 g ry fun s3 I3=>⟨.bl (!ov.isSome),H2,I3,rfl,q2⟩
theorem DY(hu:X.A.units+1<cLine)(ho:PE X o td)(hi:PE X i ty)(hv:PE X value tv)(hs:swapsWith value (some (.Subscript o i pos')) pos.line X.env=pure false) :
  PS X (.Assign [.Subscript o i pos'] value pos) (Bm td ty tv):=by
 intro pins s σ H D I h;refine wpAny_Assign_Subscript (aN (hv pins s σ H _ I h) fun r s1 ⟨v,H1,I1,rv,q1⟩=>aN (ho pins s1 σ H1 _ I1 q1) fun u s2 ⟨x,H2,I2,rx,q2⟩=>aN (hi pins s2 σ H2 _ I2 q2) fun iv s3 ⟨y,H3,I3,ry,a,H4,ex,g,q3⟩=>?_) hs;subst ex;obtain rfl:u=Value.ref a:=rx;exact Hr hu I3 g ry rv fun s4 I4=>⟨σ,H4,I4,q3⟩
end
theorem yq(h:Heap)(hb:sysModules<h.objs.size):aA P w H (h.push { cls:=.type "dict",data:=.dict #[] }) h.objs.size (.dK []) :=
 ⟨zero_le _,beq_eq_false_iff_ne.mpr (Ne.symm (ne_of_lt hb)),[],.nil,Heap.DictOf.new h⟩
def Ci:TE:=fun _ H Q=>∀p,H p=none->Q (.ref p) (upd H p (.dK []))
theorem Fh:PE X (.Dict [] [] pos) Ci:=fun pins s σ H Q I h =>
 wpAny_Dict_empty ⟨.ref s.heap.objs.size,_,I.laid (a:=s.heap.objs.size) (o:=.dK []) (t':=s.toks) (fun _ _ q=>Heap.get?_push_of_some _ q) (le_refl _) (yq s.heap I.big),rfl,h _ (I.hok.fresh (le_refl _))⟩
def rW:List (TE×TE)->St->Hp->(List (V×V)->Hp->Prop)->Prop
 | [],_,H,Q=>Q [] H
 | (tk,tv)::r,σ,H,Q=>tk σ H fun x H1=>tv σ H1 fun y H2=>rW r σ H2 fun ps H3=>Q ((x,y)::ps) H3
abbrev VV:List (V×V)->List (Value×Value)->Prop:=Paired fun p q=>RelV p.1 q.1/\RelV p.2 q.2
def qi(X:Cx)(pos:Pos)(keys:List (Option Expr))(values:List Expr)(trs:List (TE×TE)):Prop :=
 ∀(pins:List (Addr×Obj)) (s:Shared) (σ:St) (H:Hp) (Q:List (V×V)->Hp->Prop),Inv X pins σ H s->rW trs σ H Q ->
  wpAny (model X.prog X.w) X.A (evalPairs (pairTrees keys values X.env pos)) (fun vs s'=>∃ps H',Inv X pins σ H' s'/\VV ps vs/\Q ps H') X.xe s
theorem DX:qi X pos [] [] []:=fun pins s σ H Q I h=>pairTrees_nil_walk ⟨[],H,I,.nil,h⟩
variable {trs:List (TE×TE)}
theorem Fg{k v:Expr}{ks:List (Option Expr)}{vs:List Expr}{tk tv:TE}(hk:PE X k tk)(hv:PE X v tv)(hr:qi X pos ks vs trs) :
  qi X pos (some k::ks) (v::vs) ((tk,tv)::trs):=fun pins s σ H Q I h =>
 pairTrees_cons_walk (aN (hk pins s σ H _ I h) fun u s1 ⟨x,H1,I1,rx,q1⟩=>aN (hv pins s1 σ H1 _ I1 q1) fun w2 s2 ⟨y,H2,I2,ry,q2⟩ =>
  aN (hr pins s2 σ H2 _ I2 q2) fun ws s3 ⟨ps,H3,I3,rel,q3⟩=>⟨(x,y)::ps,H3,I3,.cons ⟨rx,ry⟩ rel,q3⟩)
def kT(kvs more:List (Key×V)):List (Key×V):=more.foldl (fun acc kv=>fo acc kv.1 kv.2) kvs
theorem KV.merge:∀{more:List (Key×V)} {rs:List (Key×Value)} {kvs:List (Key×V)} {vs:List (Key×Value)},KV more rs->KV kvs vs->KV (kT kvs more) (merged vs rs):=by
 intro more rs kvs vs r;unfold KV at r
 induction r generalizing kvs vs with
 | nil=>intro q;exact q
 | @cons p q ps qs h t ih =>
  intro r0;have e:KV (fo kvs p.1 p.2) (stored vs q.1 q.2):=by have:=r0.put p.1 h.2;rw[<- h.1];exact this
  exact ih e
theorem zz:∀(more kvs:List (Key×V)),(kT kvs more).length<=kvs.length+more.length
 | [],kvs=>by show kvs.length<=kvs.length+0;omega
 | p::r,kvs=>by
  have h1:=zz r (fo kvs p.1 p.2);have h2:=ua kvs p.1 p.2;show(kT (fo kvs p.1 p.2) r).length<=_;rw[length_cons];omega
theorem zi{P:Program}{w:World}:∀{kvs:List (Key×V)} {ws:List (Value×Value)},VV (kvs.map fun kv=>(kV kv.1,kv.2)) ws->∃rs,Carries (dS P w) ws rs/\KV kvs rs
 | [],_,r=>by rw[map_nil] at r;cases r;exact⟨[],True.intro,.nil⟩
 | p::kvs,_,r=>by
  rw[map_cons] at r;cases r with
  | @cons a b as bs h t =>
   obtain⟨rs,c,q⟩:=zi (P:=P) (w:=w) t;obtain⟨b1,b2⟩:=b;exact⟨(p.1,b2)::rs,⟨gI h.1,rfl,c⟩,.cons ⟨rfl,h.2⟩ q⟩
def Bl(trs:List (TE×TE)):TE:=fun σ H Q=>∀p,H p=none->rW trs σ (upd H p (.dK [])) fun ps H2=>H2 p=some (.dK [])/\∃kvs:List (Key×V),ps=kvs.map (fun kv=>(kV kv.1,kv.2))/\kvs.length<=15/\Q (.ref p) (upd H2 p (.dK (kT [] kvs)))
theorem DW{keys:List (Option Expr)}{values:List Expr}(h:qi X pos keys values trs)(hall:keys.all (·.isSome)=true)(hl:keys.length=values.length)(h0:keys≠[])(h15:keys.length<=15):PE X (.Dict keys values pos) (Bl trs):=by
 intro pins s σ H Q I q;have hn:=I.hok.fresh (le_refl s.heap.objs.size);have I1:=I.laid (a:=s.heap.objs.size) (o:=.dK []) (h':=s.heap.push { cls:=.type "dict",data:=.dict #[] }) (t':=s.toks) (fun _ _ q=>Heap.get?_push_of_some _ q) (le_refl _) (yq s.heap I.big);refine wpAny_Dict_walk (knd:=dS X.prog X.w) hall hl h0 h15 (aN (h pins _ σ _ _ I1 (q _ hn)) fun ws s2 ⟨ps,H2,I2,rel,e,kvs,ep,lk,q2⟩=>?_);subst ep;obtain⟨rs,c,rk⟩:=zi (P:=X.prog) (w:=X.w) rel;obtain⟨z,hd,vs0,r0,dd⟩:=vd I2.hok e;cases r0;refine⟨rs,c,dd,fun h' dd' hs=>⟨.ref s.heap.objs.size,_,?_,rfl,q2⟩⟩;have hz:(kT [] kvs).length<=sizeLine:=by have h1:=zz kvs [];rw[length_nil] at h1;rw[sizeLine_eq];omega
 have he:∃q,h'.get? s.heap.objs.size=some q:=let ⟨q,_,_,hq,_⟩:=dd';⟨q,hq⟩
 exact sk I2 (by rw[e];exact True.intro) hs he (vE hz hd (rk.merge .nil) dd')
section
variable {σ:St} {d:V}
end
section
variable {o f:Expr} {apos cpos:Pos} {td ty tx:TE}
end
section
variable {σ:St} {kvs:List (Key×V)}
end
section
variable {σ:St}
end
theorem HE:aO X (.builtin "len") (fun xs H Q=>∃a kvs,xs=[V.ref a]/\H a=some (.dK kvs)/\Q (.int kvs.length) H):=by
 intro pins s σ H xs us Q I r h;obtain⟨a,kvs,rfl,ha,q⟩:=h;obtain⟨u,rfl,ru⟩:=iJ r;cases ru;exact Bo I (.inl ha) fun t s' I'=>⟨.int kvs.length,H,I',⟨t,rfl⟩,q⟩
section
variable {κ:Type} [DecidableEq κ]
end
theorem zh{kvs:List (Key×V)}(rel:KV kvs vs)(hk:kvs.map (·.1)=ns.map Sum.inl){acc:Array Value}(h:ItemsOf (fun i v=>∃k x,vs[i]?=some (k,x)/\(dS P w).is k v=true) acc vs.length):IntsAre acc.toList ns:=by
 have hl:acc.toList.length=ns.length:=by rw[length_toList,h.1,<- length_map (f:=fun x:Key×Value=>x.1),<- KV.keys rel,hk,length_map]
 have at':∀(i:Nat) (v:Value),acc.toList[i]?=some v->∃t,v=Value.int (ns.getD i 0) t:=by
  intro i v hv;obtain⟨k,x,h1,h2⟩:=h.2 i v (by rw[<- getElem?_toList];exact hv);have e:(ns.map Sum.inl:List Key)[i]?=some k:=by rw[<- hk,KV.keys rel,getElem?_map,h1];rfl
  rw[getElem?_map] at e;cases q:ns[i]? with
  | none=>rw[q] at e;cases e
  | some n =>
   rw[q] at e;simp only[map_some,Option.some.injEq] at e;subst e;rcases iQ (k:=Sum.inl n) (v:=v) h2 with ⟨j,t,e1,e2⟩|⟨j,t,e1,e2⟩
   ·cases e1;exact⟨t,by rw[e2,getD_eq_getElem?_getD,q];rfl⟩
   ·cases e1
 clear h;revert hl at';generalize acc.toList=us;clear hk
 induction ns generalizing us with
 | nil=>intro hl _;cases us with|nil=>exact .nil|cons a r=>simp at hl
 | cons n ns ih =>
  intro hl h;cases us with
  | nil=>simp at hl
  | cons a r =>
   obtain⟨t,rfl⟩:=h 0 a rfl;exact .cons n t (ih r (by simpa using hl) fun i v hv=>h (i+1) v hv)
theorem Ij(hc:X.calm=true):aO X (.builtin "sorted") (fun xs H Q=>∃(a:Addr) (kvs:List (Key×V)) (ns:List Int),xs=[.ref a]/\Rd H a (.dK kvs)/\kvs.map (·.1)=ns.map Sum.inl/\ns.length<64 /\
  ∀ms:List Int,ms.Perm ns->ms.Pairwise (·<=·)->∀l,H l=none->Q (.ref l) (upd H l (.lst (ms.map V.int)))):=by
 intro pins s σ H xs us Q I r h;obtain⟨a,kvs,ns,rfl,hd,hk,h64,q⟩:=h;obtain⟨u,rfl,rx⟩:=iJ r;cases rx;obtain⟨hz,hS,vs,rel,dd⟩:=nF I.hok hd;obtain⟨ep,hat⟩:=dd.dictAt;have hh:X.A.in1.handled=none:=I.ok.hd hc;have hlen:vs.length=ns.length:=by rw[<- KV.length rel,<- length_map (f:=fun x:Key×V=>x.1),hk,length_map]
 refine Calls.call_function_entry kind_sorted plain_sorted entry_sorted (args_sorted1 _) ?_;unfold Builtin.«sorted»;refine wpAny_bind (m:=checkCount "sorted" 1 1 _) (wpAny_pure ?_);refine wpAny_bind (PySem.W.kdu_collect (A:=X.A.in1) (kdl_dict (knd:=dS X.prog X.w) (kvs:=vs) (ep:=ep) hS) hh hat (by rw[<- KV.length rel];exact hz) fun h' tk acc hkp hacc=>?_);have hI:=zh rel hk hacc;have hal:acc.toList.length=ns.length:=by rw[length_toList,hacc.1,hlen]
 refine wpAny_bind (wpAny_newList ?_ (by rw[hal,<- hlen,<- KV.length rel];exact hz));have hoL:(h'.push (seqObj "list" acc.toList.toArray 0)).get? h'.objs.size=some (seqObj "list" acc.toList.toArray 0):=Heap.get?_push_size _ rfl;refine wpAny_bind (wpAny_holding (wpAny_call_entry slot_list_sort ⟨_,hoL,rfl⟩ entry_list_sort (list_sort_tree hoL hI (by omega) fun out ns' a1 a2 a3=>⟨_,rfl,?_⟩) (args_list_sort _)));refine wpAny_pure ⟨_,rfl,?_⟩;obtain⟨e,he⟩:=sortedHeap_at (out:=out) hoL;have I1:Inv X pins σ H { s with heap:=h',toks:=tk }:=I.kept hkp;have rv':Vals (ns'.map V.int) out.toList:=oh a1;refine⟨.ref h'.objs.size,_,I1.laid (t':=tk) (a:=h'.objs.size) (o:=.lst (ns'.map V.int)) (fun b o hb=>?_) (le_refl _) ?_,rfl,q ns' a2 a3 _ I1.fresh⟩
 ·have hb:h'.get? b=some o:=hb;have hlt:=Heap.lt_size hb;show(sortedHeap (h'.push (seqObj "list" acc.toList.toArray 0)) h'.objs.size acc.toList out).get? b=some o;rw[sortedHeap_old (ne_of_lt hlt) (by rw[size_push'];exact lt_succ_of_lt hlt)];exact Heap.get?_push_of_some _ hb
 ·refine⟨by rw[length_map,a2.length_eq,<- hlen,<- KV.length rel];exact hz,out.toList,e,rv',?_⟩;rw[toArray_toList];exact he
theorem HI(hc:X.calm=true):aO X (.type "list") (fun xs H Q=>∃(a:Addr) (kvs:List (Key×V)) (ns:List Int),xs=[.ref a]/\Rd H a (.dK kvs)/\kvs.map (·.1)=ns.map Sum.inl/\∀l,H l=none->Q (.ref l) (upd H l (.lst (ns.map V.int)))):=by
 intro pins s σ H xs us Q I r h;obtain⟨a,kvs,ns,rfl,hd,hk,q⟩:=h;obtain⟨u,rfl,rx⟩:=iJ r;cases rx;obtain⟨hz,hS,vs,rel,dd⟩:=nF I.hok hd;obtain⟨ep,hat⟩:=dd.dictAt;have hlen:vs.length=ns.length:=by rw[<- KV.length rel,<- length_map (f:=fun x:Key×V=>x.1),hk,length_map]
 refine PySem.W.kdl_call (kdl_dict (knd:=dS X.prog X.w) (kvs:=vs) (ep:=ep) hS) (I.ok.hd hc) hat (by rw[<- KV.length rel];exact hz) fun h' tk acc c hkp hD hacc=>?_;have hI:=zh rel hk hacc;refine⟨.ref s.heap.objs.size,_,I.laid (t':=tk) (a:=s.heap.objs.size) (o:=.lst (ns.map V.int)) hkp (le_refl _) ?_,rfl,q _ I.fresh⟩;refine⟨by rw[length_map,<- hlen,<- KV.length rel];exact hz,acc.toList,c,oh hI,?_⟩;rw[toArray_toList];exact hD
variable {ps:List (Key×V)} {es:Array DictEntry} {ep:Nat}
def mX(a:Addr)(o:Obj)(ps:List (Key×V)):It where
 go:=fun i H=>H a=some (.frz o (.dK ps))/\i<ps.length
 yld:=fun i H x H'=>H'=H/\∃p,ps[i]?=some p/\x=kV p.1
 stop:=fun i H=>H a=some (.frz o (.dK ps))/\ps.length=i
theorem DV(h:(dS P w).is k u=true):RelV (kV k) u:=by
 rcases iQ (k:=k) (v:=u) h with ⟨i,t,rfl,rfl⟩|⟨x,t,rfl,rfl⟩
 ·exact⟨t,rfl⟩
 ·exact⟨t,rfl⟩
theorem vD{o:Obj}(ok:bY P w H h)(e:H a=some (.frz o (.dK ps)))(hd:o.data=.dict es ep) :
  ∃vs,KV ps vs/\h.DictAt (dS P w) a vs ep:=by
 obtain⟨h1,_,_,vs,r,o',es',ep',ho,hx,hd',hr⟩:=(show aA P w H h a (.frz o (.dK ps)) from ok a _ e)
 rw[h1] at ho;cases ho;rw[hd] at hd';cases hd';exact⟨vs,r,o,es,h1,hx,hd,hr⟩
theorem HD{K:Frag}(a it:Addr){o:Obj}(hd:o.data=.dict es ep):Turn P w K tg (mX a o ps) [it] it (fun i h=>h.IsKeyIter it a i ps.length ep) where
 mem:=by simp
 obj:=fun i h st b hb=>by
  have e:b=it:=by simpa using hb
  subst e;obtain⟨o,e,c,d⟩:=st;exact⟨o,e,fun v z=>by rw[d] at z;cases z⟩
 keep:=fun i h h' st k=>st.at fun o e=>k it (by simp) o e
 item:=by
  intro X hP hw hK hc i pins s σ H E I hf st hg;subst hP hw hK;obtain⟨he,hi⟩:=hg;obtain⟨vs,r,hat⟩:=vD I.hok he hd;have hl:=KV.length r;obtain⟨f0,f1,f2,f3,f4,f5⟩:=hf it (by simp);have hx:vs[i]?=some (vs[i]'(by omega)):=getElem?_eq_getElem _;have hp:ps[i]?=some (ps[i]'(by omega)):=getElem?_eq_getElem _;have hk:(vs[i]'(by omega)).1=(ps[i]'(by omega)).1:=by have e1:=congrArg (fun l:List Key=>l[i]?) (KV.keys r);simp only[getElem?_map,hx,hp,map_some,Option.some.injEq] at e1;exact e1.symm
  refine wpAny_pyNext_dict_item (knd:=dS X.prog X.w) (hl▸st) hat (k:=(vs[i]'(by omega)).1) (v:=(vs[i]'(by omega)).2) (by rw[hx]) fun key h' hkey st' sb=>?_;have I1:Inv X pins σ H { s with heap:=h' }:=I.turned (t':=s.toks) (fun b o hb e=>(sb.2 b hb).trans e) f0 f1 f3 f4 f5;obtain⟨oi,e,c,d⟩:=id st';exact⟨key,rfl,oY (s:={ s with heap:=h' }) e c d (by decide) ⟨kV (ps[i]'(by omega)).1,H,I1,hk▸DV hkey,⟨rfl,_,hp,rfl⟩,hl▸st',fun b hb=>(hf b hb).1⟩⟩
 done:=by
  intro X hP hw hK hc i pins s σ H E I hf st hg;subst hP hw hK;obtain⟨he,hi⟩:=hg;obtain⟨vs,r,hat⟩:=vD I.hok he hd;have hl:=KV.length r;obtain⟨f0,f1,f2,f3,f4,f5⟩:=hf it (by simp);exact wpAny_pyNext_dict_end (knd:=dS X.prog X.w) (I.ok.hd hc) (hl▸st) hat (getElem?_eq_none (by omega)) fun h' eb=>⟨rfl,I.turned (t':=s.toks) (fun b o hb e=>eb b o hb e) f0 f1 f3 f4 f5⟩
 self:=fun _ _ _ _ _ st h=>wpAny_pyIter_keyiter st h
def Bk(tl:TE):TI:=fun σ H R=>tl σ H fun v H1=>∃a,v=.ref a/\((∃ps,H1 a=some (.dK ps)/\∀o,R (mX a o ps) (upd H1 a (.frz o (.dK ps))))\/∃o ps,H1 a=some (.frz o (.dK ps))/\R (mX a o ps) H1)
theorem DU{l:Expr}(hl:PE X l tl):PI X tg l (Bk tl):=by
 intro pins s σ H R I h;refine aN (hl pins s σ H _ I h) fun v s1 ⟨x,H1,I1,r1,q1⟩=>?_;obtain⟨a,e,q⟩:=q1;subst e;cases r1;obtain⟨o,ps,H2,I2,he,q⟩:∃o ps H2,Inv X pins σ H2 s1/\H2 a=some (.frz o (.dK ps))/\R (mX a o ps) H2:=by
  rcases q with ⟨ps,he,q⟩|⟨o,ps,he,q⟩
  ·have ok:=(show aA X.prog X.w H1 s1.heap a (.dK ps) from I1.hok a _ he)
   obtain⟨_,_,vs,r,o,es,ep,ho,hr⟩:=id ok;refine⟨o,ps,_,I1.write (t':=s1.toks) (h':=s1.heap) (x:=a) (e:=a) (o:=.frz o (.dK ps)) (by rw[he];trivial) (.inl rfl) (fun b u _ z=>z) ⟨o,ho⟩ ?_,ak,q o⟩;exact⟨ho,ok⟩
  ·exact⟨o,ps,H1,I1,he,q⟩
 obtain⟨h1,_,hS,vs,r,o',es,ep,ho,hx,hd,hr⟩:=(show aA X.prog X.w H2 s1.heap a (.frz o (.dK ps)) from I2.hok a _ he)
 rw[h1] at ho;cases ho;have hat:s1.heap.DictAt (dS X.prog X.w) a vs ep:=⟨o,es,h1,hx,hd,hr⟩
 refine wpAny_pyIter_dict hS hat ?_;refine⟨s1.heap.objs.size,[s1.heap.objs.size],_,_,H2,rfl,I2.kept (t':=s1.toks) fun b o e=>Heap.get?_push_of_some _ e,HD a _ hd,⟨_,Heap.get?_push_size _ rfl,rfl,by rw[KV.length r];rfl⟩,fun b hb=>?_,q⟩;have e:b=s1.heap.objs.size:=by simpa using hb
 subst e;exact I2.fpOk (le_refl _) (I2.hok.fresh (le_refl _))
section
variable {prog:Program}
end
end L2
namespace VS
open PySem PySem.Spec PyProof.Rows L2
abbrev St:=L2.St
variable {k:Nat}
theorem dJ{α:Type}{l:List α}{a:α}(h:l[k]?=some a):k<l.length:=(List.getElem?_eq_some_iff.mp h).1
variable {i j:Nat}
theorem nJ{α:Type}{l:List α}(h:l.Nodup)(hi:i<l.length)(hj:j<l.length)(e:l[i]=l[j]):i=j:=by
 have p:=pairwise_iff_getElem.mp h;rcases lt_trichotomy i j with q|q|q
 ·exact absurd e (p i j hi hj q)
 ·exact q
 ·exact absurd e.symm (p j i hj hi q)
inductive W where
 | non|bl (b:Bool)|int (i:Int)|str (x:Str)|ty (n:String)|lst (xs:List W)|tup (xs:List W)|cel (k:Nat)
inductive C where
 | lst (xs:List W)|dct (kvs:List (Key×W))|ins (c:Str) (fs:List (Str×W))|exn (c:Str)|exm (c f:Str) (n:Int)|dead|fzd (kvs:List (Key×W))|dtp (kvs:List (List Key×W))
def C.nf:C->Bool
 | .fzd _=>false
 | _=>true
def Jm:HO->Bool
 | .frz _ _=>false
 | _=>true
abbrev Ce:=List C
abbrev Sl:=List (Option W)
structure cX where
 nm:Str
 fld:Option (Str×W)
inductive R (α:Type) where
 | ok (a:α) (ce:Ce)|ex (x:cX) (ce:Ce)
abbrev M(α:Type):=Ce->Option (R α)
structure Ga where
 K:Frag
 cl:Str->Addr
 xr:cX->Value->Option Addr->Hp->Prop
mutual
def Rep(F:Hp)(as:List Addr):W->V->Prop
 | .non,v=>v=.non
 | .bl b,v=>v=.bl b
 | .int i,v=>v=.int i
 | .str x,v=>v=.str x
 | .ty n,v=>v=.ty n
 | .lst xs,v=>∃a vs,v=.ref a/\Rd F a (.lst vs)/\ag F as xs vs
 | .tup xs,v=>∃a vs,v=.ref a/\F a=some (.tup vs)/\ag F as xs vs
 | .cel k,v=>∃a,v=.ref a/\as[k]?=some a
def ag(F:Hp)(as:List Addr):List W->List V->Prop
 | [],vs=>vs=[]
 | x::xs,vs=>∃v r,vs=v::r/\Rep F as x v/\ag F as xs r
end
structure Le (F:Hp) (as:List Addr) (F':Hp) (as':List Addr):Prop where
 f:∀a o,F a=some o->F' a=some o
 c:∀(k:Nat) (a:Addr),as[k]?=some a->as'[k]?=some a
variable {F:Hp} {as:List Addr}
theorem Le.refl:Le F as F as:=⟨fun _ _ h=>h,fun _ _ h=>h⟩
theorem Le.trans{F1 F2:Hp}{as1 as2:List Addr}(h:Le F as F1 as1)(h':Le F1 as1 F2 as2):Le F as F2 as2:=⟨fun a o e=>h'.f a o (h.f a o e),fun k a e=>h'.c k a (h.c k a e)⟩
variable {F':Hp} {as':List Addr} {a:Addr} {o:HO}
theorem Le.rd(h:Le F as F' as')(r:Rd F a o):Rd F' a o:=by
 rcases r with r|⟨u,r⟩
 ·exact .inl (h.f _ _ r)
 ·exact .inr ⟨u,h.f _ _ r⟩
mutual
theorem Rep.le{F F':Hp}{as as':List Addr}(h:Le F as F' as'):∀{w:W} {v:V},Rep F as w v->Rep F' as' w v
 | .non,_,r=>by simpa only[Rep] using r
 | .bl _,_,r=>by simpa only[Rep] using r
 | .int _,_,r=>by simpa only[Rep] using r
 | .str _,_,r=>by simpa only[Rep] using r
 | .ty _,_,r=>by simpa only[Rep] using r
 | .lst xs,_,r=>by
  simp only[Rep] at r ⊢;obtain⟨a,vs,e,q,s⟩:=r;exact⟨a,vs,e,h.rd q,ag.le h s⟩
 | .tup xs,_,r=>by
  simp only[Rep] at r ⊢;obtain⟨a,vs,e,q,s⟩:=r;exact⟨a,vs,e,h.f _ _ q,ag.le h s⟩
 | .cel k,_,r=>by
  simp only[Rep] at r ⊢;obtain⟨a,e,q⟩:=r;exact⟨a,e,h.c _ _ q⟩
theorem ag.le{F F':Hp}{as as':List Addr}(h:Le F as F' as'):∀{ws:List W} {vs:List V},ag F as ws vs->ag F' as' ws vs
 | [],_,r=>by simpa only[ag] using r
 | _::_,_,r=>by
  simp only[ag] at r ⊢;obtain⟨v,r',e,q,s⟩:=r;exact⟨v,r',e,Rep.le h q,ag.le h s⟩
end
variable {ws:List W} {vs:List V} {v:V}
theorem ag.nil:ag F as [] []:=by simp only[ag]
theorem ag.cons{w:W}{v:V}{ws:List W}{vs:List V}(h:Rep F as w v)(t:ag F as ws vs):ag F as (w::ws) (v::vs):=by simp only[ag];exact⟨v,vs,rfl,h,t⟩
theorem ag.length:∀{ws:List W} {vs:List V},ag F as ws vs->vs.length=ws.length
 | [],_,r=>by simp only[ag] at r;subst r;rfl
 | _::_,_,r=>by
  simp only[ag] at r;obtain⟨v,r',rfl,_,s⟩:=r;simp only[length_cons,ag.length s]
theorem ag.get:∀{ws:List W} {vs:List V} {i:Nat} {w:W},ag F as ws vs->ws[i]?=some w->∃v,vs[i]?=some v/\Rep F as w v
 | [],_,_,_,_,e=>by simp at e
 | _::_,_,0,_,r,e=>by
  simp only[ag] at r;obtain⟨v,r',rfl,q,s⟩:=r;simp at e;subst e;exact⟨v,rfl,q⟩
 | _::_,_,i+1,w,r,e=>by
  simp only[ag] at r;obtain⟨v,r',rfl,q,s⟩:=r;obtain⟨u,h1,h2⟩:=ag.get (i:=i) (w:=w) s (by simpa using e);exact⟨u,by simpa using h1,h2⟩
theorem ag.get'(r:ag F as ws vs)(e:vs[i]?=some v):∃w,ws[i]?=some w/\Rep F as w v:=by have hl:=r.length;have hi:i<vs.length:=dJ e;have e1:ws[i]?=some ws[i]:=getElem?_eq_getElem (by omega);obtain⟨u,h1,h2⟩:=r.get e1;rw[e] at h1;cases h1;exact⟨_,e1,h2⟩
theorem ag.append:∀{ws zs:List W} {vs us:List V},ag F as ws vs->ag F as zs us->ag F as (ws++zs) (vs++us)
 | [],_,_,_,r,s=>by simp only[ag] at r;subst r;exact s
 | _::_,_,_,_,r,s=>by
  simp only[ag] at r;obtain⟨v,r',rfl,q,t⟩:=r;exact .cons q (ag.append t s)
theorem ag.set:∀{ws:List W} {vs:List V} {w:W} {v:V} (i:Nat),ag F as ws vs->Rep F as w v->ag F as (ws.set i w) (vs.set i v)
 | [],_,_,_,_,r,_=>by simp only[ag] at r;subst r;exact .nil
 | _::_,_,_,_,0,r,h=>by
  simp only[ag] at r;obtain⟨v,r',rfl,q,t⟩:=r;exact .cons h t
 | _::_,_,_,_,i+1,r,h=>by
  simp only[ag] at r;obtain⟨v,r',rfl,q,t⟩:=r;exact .cons q (ag.set i t h)
theorem ag.take:∀{ws:List W} {vs:List V} (n:Nat),ag F as ws vs->ag F as (ws.take n) (vs.take n)
 | _,_,0,_=>by rw[take_zero,take_zero];exact .nil
 | [],_,_+1,r=>by simp only[ag] at r;subst r;exact .nil
 | _::_,_,n+1,r=>by
  simp only[ag] at r;obtain⟨v,r',rfl,q,t⟩:=r;exact .cons q (ag.take n t)
theorem ag.drop:∀{ws:List W} {vs:List V} (n:Nat),ag F as ws vs->ag F as (ws.drop n) (vs.drop n)
 | _,_,0,r=>r
 | [],_,_+1,r=>by simp only[ag] at r;subst r;exact .nil
 | _::_,_,n+1,r=>by
  simp only[ag] at r;obtain⟨v,r',rfl,q,t⟩:=r;exact ag.drop n t
theorem ag.dropLast(r:ag F as ws vs):ag F as ws.dropLast vs.dropLast:=by rw[dropLast_eq_take,dropLast_eq_take,r.length];exact r.take _
theorem ag.rep{ws:List W}{vs:List V}(r:ag F as ws vs):∀n,ag F as (List.replicate n ws).flatten (List.replicate n vs).flatten
 | 0=>.nil
 | n+1=>by rw[replicate_succ,replicate_succ,flatten_cons,flatten_cons];exact r.append (r.rep n)
theorem ag.ints:∀(ns:List Int),ag F as (ns.map W.int) (ns.map V.int)
 | []=>.nil
 | n::r=>.cons (by simp only[Rep]) (ag.ints r)
theorem ag.of_ints:∀{ns:List Int} {vs:List V},ag F as (ns.map W.int) vs->vs=ns.map V.int
 | [],_,r=>by simpa only[map_nil,ag] using r
 | n::ns,_,r=>by
  simp only[map_cons,ag,Rep] at r;obtain⟨v,r',rfl,rfl,t⟩:=r;rw[ag.of_ints t,map_cons]
theorem ag.of_bools:∀{bs:List Bool} {vs:List V},ag F as (bs.map W.bl) vs->vs=bs.map V.bl
 | [],_,r=>by simpa only[map_nil,ag] using r
 | n::ns,_,r=>by
  simp only[map_cons,ag,Rep] at r;obtain⟨v,r',rfl,rfl,t⟩:=r;rw[ag.of_bools t,map_cons]
theorem bu{α β γ δ:Type}{p q:α->β->γ->δ->Prop}{g:Prop}(h:∃a b c d,p a b c d/\q a b c d)(k:∀a b c d,p a b c d->q a b c d->g):g:=by obtain⟨a,b,c,d,h1,h2⟩:=h;exact k a b c d h1 h2
theorem aZ{α β γ δ:Type}{p q r s:α->β->γ->δ->Prop}{g:Prop}(h:∃a b c d,p a b c d/\q a b c d/\r a b c d/\s a b c d)(k:∀a b c d,p a b c d->q a b c d->r a b c d->s a b c d->g):g:=by obtain⟨a,b,c,d,h1,h2,h3,h4⟩:=h;exact k a b c d h1 h2 h3 h4
def az{κ:Type}(F:Hp)(as:List Addr)(kvs:List (κ×W))(ps:List (κ×V)):Prop:=Paired (fun(p:κ×W) (q:κ×V)=>p.1=q.1/\Rep F as p.2 q.2) kvs ps
theorem az.le{κ:Type}{F F':Hp}{as as':List Addr}(h:Le F as F' as'){kvs:List (κ×W)}{ps:List (κ×V)}(r:az F as kvs ps):az F' as' kvs ps:=Paired.mapP r fun _ _ z=>⟨z.1,z.2.le h⟩
def tgC:Value->Option Addr
 | .ref C=>some C
 | .int _ C=>some C
 | _=>none
def Tg(t:Value)(o:Obj):Prop:=match t with
 | .int i C=>o.cls=.ref C/\o.dict=some i.toNat
 | v=>o.cls=v
theorem Tg.cls{t:Value}{o:Obj}{C:Addr}(h:Tg t o)(e:tgC t=some C):o.cls=.ref C:=by
 cases t<;>simp only[tgC,Option.some.injEq,reduceCtorEq] at e
 ·subst e;exact h.1
 ·subst e;exact h
theorem Tg.same{t:Value}{o o':Obj}(h:Tg t o)(e1:o'.cls=o.cls)(e2:o'.dict=o.dict):Tg t o':=by
 unfold Tg at h ⊢;split at h
 ·exact⟨e1.trans h.1,e2.trans h.2⟩
 ·exact e1.trans h
def XPhi(a:Addr)(cls:Value)(h:Heap):Prop:=∃o vs,h.get? a=some o/\Tg cls o/\o.data=.fields vs/\∃a0,vs[0]?=some a0
def NumP(D:Addr)(f:Str)(n:Int)(h:Heap):Prop:=∃m t,h.Ns D m/\m f=some (.int n t)
def cS(G:Ga)(F:Hp)(as:List Addr)(H:Hp)(a:Addr):C->Prop
 | .lst xs=>∃vs,H a=some (.lst vs)/\ag F as xs vs
 | .dct kvs=>∃ps,H a=some (.dK ps)/\az F as kvs ps
 | .ins c fs=>∃dx ps,H a=some (.ins (G.cl c) dx ps)/\az F as fs ps
 | .exn c=>H a=some (.ext (XPhi a (.ref (G.cl c))))
 | .exm c f n=>∃D:Addr,H a=some (.ext (XPhi a (.int (D:Int) (G.cl c))))/\F D=some (.ext (NumP D f n))
 | .dead=>∃o,H a=some o
 | .fzd kvs=>∃o ps,F a=some (.frz o (.dK ps))/\H a=some (.frz o (.dK ps))/\az F as kvs ps
 | .dtp kvs=>∃ps,H a=some (.dT ps)/\az F as kvs ps
structure aw (G:Ga) (F:Hp) (as:List Addr) (H:Hp) (ce:Ce):Prop where
 sub:∀a o,F a=some o->H a=some o
 nd:as.Nodup
 len:as.length=ce.length
 cell:∀(k:Nat) (a:Addr) (c:C),as[k]?=some a->ce[k]?=some c->(c.nf=true->F a=none)/\cS G F as H a c
structure SR (G:Ga) (F:Hp) (as:List Addr) (H:Hp) (σ:VS.St) (sl:Sl) (ce:Ce):Prop where
 st:aw G F as H ce
 len:σ.length=sl.length
 slot:∀(i:Nat) (w:W),sl[i]?=some (some w)->∃v,σ[i]?=some (some v)/\Rep F as w v
variable {G:Ga} {H H':Hp} {sl:Sl} {ce ce':Ce} {w:W}
section
variable {σ:VS.St} {p:Addr}
theorem cS.tracked{c:C}(h:cS G F as H a c):∃o,H a=some o:=by
 cases c with
 | lst xs=>obtain⟨vs,e,_⟩:=h;exact⟨_,e⟩
 | dct xs=>obtain⟨vs,e,_⟩:=h;exact⟨_,e⟩
 | ins c xs=>obtain⟨dx,vs,e,_⟩:=h;exact⟨_,e⟩
 | exn c=>exact⟨_,h⟩
 | exm c f n=>obtain⟨D,e,_⟩:=h;exact⟨_,e⟩
 | dead=>exact h
 | fzd xs=>obtain⟨o,ps,_,e,_⟩:=h;exact⟨_,e⟩
 | dtp xs=>obtain⟨vs,e,_⟩:=h;exact⟨_,e⟩
theorem cS.le{c:C}(l:Le F as F' as')(hH:H' a=H a)(h:cS G F as H a c):cS G F' as' H' a c:=by
 cases c with
 | lst xs=>obtain⟨vs,e,r⟩:=h;exact⟨vs,hH.trans e,r.le l⟩
 | dct xs=>obtain⟨vs,e,r⟩:=h;exact⟨vs,hH.trans e,r.le l⟩
 | ins c xs=>obtain⟨dx,vs,e,r⟩:=h;exact⟨dx,vs,hH.trans e,r.le l⟩
 | exn c=>exact hH.trans h
 | exm c f n=>obtain⟨D,e,r⟩:=h;exact⟨D,hH.trans e,l.f _ _ r⟩
 | dead=>obtain⟨o,e⟩:=h;exact⟨o,hH.trans e⟩
 | fzd xs=>obtain⟨o,ps,e1,e2,r⟩:=h;exact⟨o,ps,l.f _ _ e1,hH.trans e2,r.le l⟩
 | dtp xs=>obtain⟨vs,e,r⟩:=h;exact⟨vs,hH.trans e,r.le l⟩
theorem aw.at(S:aw G F as H ce){c:C}(h:ce[k]?=some c):∃a,as[k]?=some a/\(c.nf=true->F a=none)/\cS G F as H a c:=by have hk:k<ce.length:=dJ h;have e:as[k]?=some (as[k]'(by rw[S.len];exact hk)):=getElem?_eq_getElem _;exact⟨_,e,S.cell _ _ _ e h⟩
theorem aw.tracked(S:aw G F as H ce)(h:as[k]?=some a):∃o,H a=some o:=by have hk:k<as.length:=dJ h;have e:ce[k]?=some (ce[k]'(by rw[<- S.len];exact hk)):=getElem?_eq_getElem _;exact(S.cell _ _ _ h e).2.tracked
theorem SR.slots(S:SR G F as H σ sl ce)(S':aw G F' as' H' ce')(l:Le F as F' as'):SR G F' as' H' σ sl ce' :=
 ⟨S',S.len,fun i w e=>let ⟨v,h1,h2⟩:=S.slot i w e;⟨v,h1,h2.le l⟩⟩
theorem SR.var(S:SR G F as H σ sl ce)(h:sl[i]?=some (some w)):∃v,σ[i]?=some (some v)/\Rep F as w v:=S.slot i w h
theorem SR.put(S:SR G F as H σ sl ce)(r:Rep F as w v)(i:Nat):SR G F as H (σ.set i (some v)) (sl.set i (some w)) ce:=by
 refine⟨S.st,by rw[length_set,length_set];exact S.len,fun j u e=>?_⟩
 by_cases hj:i=j
 ·subst hj;have hi:i<sl.length:=by have:=dJ e;rwa [length_set] at this
  rw[getElem?_set_self hi] at e;cases e;exact⟨v,by rw[getElem?_set_self (by rw[S.len];exact hi)],r⟩
 ·rw[getElem?_set_ne hj] at e;obtain⟨v',h1,h2⟩:=S.slot j u e;exact⟨v',by rw[getElem?_set_ne hj];exact h1,h2⟩
theorem fc(hF:F p=none):∀a u,F a=some u->upd F p o a=some u:=fun a u e=>by
 rw[bj (eN e hF)];exact e
theorem aw.freeze(S:aw G F as H ce)(hp:H p=none):aw G (upd F p o) as (upd H p o) ce/\Le F as (upd F p o) as:=by
 have hF:F p=none:=by
  cases e:F p with
  | none=>rfl
  | some u=>rw[S.sub _ _ e] at hp;cases hp
 have l:Le F as (upd F p o) as:=⟨fc hF,fun _ _ h=>h⟩
 refine⟨⟨fun a u e=>?_,S.nd,S.len,fun k a c h1 h2=>?_⟩,l⟩
 ·by_cases ha:a=p
  ·subst ha;rw[ak] at e ⊢;exact e
  ·rw[bj ha] at e ⊢;exact S.sub _ _ e
 ·obtain⟨q1,q2⟩:=S.cell k a c h1 h2;obtain⟨u,hu⟩:=q2.tracked;have ha:a≠p:=eN hu hp;exact⟨fun hn=>by rw[bj ha];exact q1 hn,q2.le l (bj ha)⟩
theorem aw.alloc(S:aw G F as H ce)(hp:H p=none){c:C}(hc:∀as',Le F as F as'->cS G F as' (upd H p o) p c):aw G F (as++[p]) (upd H p o) (ce++[c])/\Le F as F (as++[p]):=by
 have hF:F p=none:=by
  cases e:F p with
  | none=>rfl
  | some u=>rw[S.sub _ _ e] at hp;cases hp
 have l:Le F as F (as++[p]):=⟨fun _ _ h=>h,fun k a h=>by
  have hk:k<as.length:=dJ h;rw[getElem?_append_left hk];exact h⟩
 refine⟨⟨fun a u e=>?_,?_,by rw[length_append,length_append,S.len];rfl,fun k a c' h1 h2=>?_⟩,l⟩
 ·rw[bj (eN (S.sub _ _ e) hp)];exact S.sub _ _ e
 ·rw[nodup_append];refine⟨S.nd,by simp,fun a ha b hb=>?_⟩;obtain⟨k,hk⟩:=getElem?_of_mem ha;obtain⟨u,hu⟩:=S.tracked hk;rw[mem_singleton] at hb;subst hb;exact eN hu hp
 ·by_cases hk:k<ce.length
  ·rw[getElem?_append_left (by rw[S.len];exact hk)] at h1;rw[getElem?_append_left hk] at h2;obtain⟨q1,q2⟩:=S.cell k a c' h1 h2;obtain⟨u,hu⟩:=q2.tracked;exact⟨q1,q2.le l (bj (eN hu hp))⟩
  ·rw[getElem?_append_right (by rw[S.len];omega)] at h1;rw[getElem?_append_right (by omega)] at h2;have e:k-as.length=0:=by
    cases q:k-as.length with
    | zero=>rfl
    | succ n=>rw[q] at h1;simp at h1
   rw[e] at h1;rw[<- S.len,e] at h2;simp at h1 h2;subst h1;subst h2;exact⟨fun _=>hF,hc _ l⟩
theorem aw.write(S:aw G F as H ce)(h1:as[k]?=some a){c:C}(hc:cS G F as (upd H a o) a c)(hm:∃o',H a=some o'/\Jm o'=true:=by exact⟨_,by assumption,rfl⟩):aw G F as (upd H a o) (ce.set k c):=by
 have hk:k<ce.length:=by rw[<- S.len];exact dJ h1
 have e:ce[k]?=some ce[k]:=getElem?_eq_getElem hk;obtain⟨q1,q2⟩:=S.cell k a _ h1 e;have q1:F a=none:=by
  cases ek:ce[k] with
  | fzd xs =>
   rw[ek] at q2;obtain⟨o1,ps,_,e2,_⟩:=q2;obtain⟨o',e3,hn⟩:=hm;rw[e2] at e3;cases e3;cases hn
  | _=>exact q1 (by rw[ek];rfl)
 refine⟨fun b u e'=>?_,S.nd,by rw[length_set];exact S.len,fun j b c' h1' h2'=>?_⟩
 ·rw[bj (fun z=>by subst z;rw[q1] at e';cases e')];exact S.sub _ _ e'
 ·by_cases hj:k=j
  ·subst hj;rw[getElem?_set_self hk] at h2';rw[h1] at h1';cases h1';cases h2';exact⟨fun _=>q1,hc⟩
  ·rw[getElem?_set_ne hj] at h2';obtain⟨p1,p2⟩:=S.cell j b c' h1' h2';have hb:b≠a:=fun z=>by
    subst z;have hj':j<as.length:=dJ h1';have hk':k<as.length:=by rw[S.len];exact hk
    have e1:as[k]=as[j]:=by rw[getElem?_eq_getElem hk'] at h1;rw[getElem?_eq_getElem hj'] at h1';exact(Option.some.inj h1).trans (Option.some.inj h1').symm
    exact hj (nJ S.nd hk' hj' e1)
   exact⟨p1,p2.le .refl (bj hb)⟩
end
def au{α β:Type}(m:M α)(f:α->M β):M β:=fun ce=>match m ce with
 | some (.ok a ce')=>f a ce'
 | some (.ex x ce')=>some (.ex x ce')
 | none=>none
def ret{α:Type}(a:α):M α:=fun ce=>some (.ok a ce)
def look{α:Type}(f:Ce->Option α):M α:=fun ce=>(f ce).map fun a=>R.ok a ce
def jQ{α:Type}:M α:=fun _=>none
def aG{α β:Type}(G:Ga)(E:XK)(RP:Hp->List Addr->α->β->Prop)(F:Hp)(as:List Addr)(σ:VS.St)(sl:Sl)(Q:β->Hp->Prop):Option (R α)->Prop
 | some (.ok a ce')=>∀b H' F' as',Le F as F' as'->SR G F' as' H' σ sl ce'->RP F' as' a b->Q b H'
 | some (.ex x ce')=>∀H' F' as' cv od,Le F as F' as'->aw G F' as' H' ce'->G.xr x cv od F'->E cv od H'
 | none=>False
def toT{α β:Type}(G:Ga)(E:XK)(RP:Hp->List Addr->α->β->Prop)(d:Sl->M α):VS.St->Hp->(β->Hp->Prop)->Prop :=
 fun σ H Q=>∃F as sl ce,SR G F as H σ sl ce/\aG G E RP F as σ sl Q (d sl ce)
def rB:Hp->List Addr->Bool->Bool->Prop:=fun _ _ a b=>a=b
abbrev ar(G:Ga)(E:XK)(d:Sl->M W):TE:=toT G E Rep d
abbrev bW(G:Ga)(E:XK)(d:Sl->M Bool):TT:=toT G E rB d
abbrev fv(G:Ga)(E:XK)(d:Sl->M (List W)):TA:=toT G E ag d
variable {E:XK}
section
variable {α β γ δ:Type} {RP:Hp->List Addr->α->β->Prop} {RQ:Hp->List Addr->γ->δ->Prop} {σ:VS.St}
theorem aG.le{Q:β->Hp->Prop}{r:Option (R α)}(l:Le F as F' as')(P:aG G E RP F as σ sl Q r):aG G E RP F' as' σ sl Q r:=by
 cases r with
 | none=>exact P
 | some r=>cases r with
  | ok a ce'=>exact fun b H' F2 as2 l2=>P b H' F2 as2 (l.trans l2)
  | ex x ce'=>exact fun H' F2 as2 cv od l2=>P H' F2 as2 cv od (l.trans l2)
theorem toT.mono{d:Sl->M α}{Q Q':β->Hp->Prop}(h:toT G E RP d σ H Q)(q:∀b H1,Q b H1->Q' b H1):toT G E RP d σ H Q':=by
 obtain⟨F,as,sl,ce,S,P⟩:=h;refine⟨F,as,sl,ce,S,?_⟩;revert P;cases d sl ce with
 | none=>exact fun P=>P
 | some r=>cases r with
  | ok a ce'=>exact fun P b H' F' as' l S' r=>q _ _ (P b H' F' as' l S' r)
  | ex x ce'=>exact fun P=>P
theorem step{d:Sl->M α}{f:α->M γ}{Q:δ->Hp->Prop}(S:SR G F as H σ sl ce)(P:aG G E RQ F as σ sl Q (au (d sl) f ce)) :
  toT G E RP d σ H fun b H2=>∃a F' as' ce',Le F as F' as'/\SR G F' as' H2 σ sl ce'/\RP F' as' a b/\aG G E RQ F' as' σ sl Q (f a ce'):=by
 refine⟨F,as,sl,ce,S,?_⟩;revert P;unfold au;cases d sl ce with
 | none=>exact fun P=>P
 | some r=>cases r with
  | ok a ce'=>exact fun P b H' F' as' l S' r=>⟨a,F',as',ce',l,S',r,P.le l⟩
  | ex x ce'=>exact fun P=>P
theorem jw{f:Ce->Option α}{Q:β->Hp->Prop}(P:aG G E RP F as σ sl Q (look f ce)):∃a,f ce=some a/\aG G E RP F as σ sl Q (some (.ok a ce)):=by
 revert P;unfold look;cases f ce with
 | none=>exact fun P=>P.elim
 | some a=>exact fun P=>⟨a,rfl,P⟩
theorem aG.done{a:α}{b:β}{Q:β->Hp->Prop}(S:SR G F as H σ sl ce)(P:aG G E RP F as σ sl Q (some (.ok a ce)))(r:RP F as a b):Q b H:=P b H F as .refl S r
end
variable {X:Cx} {e:Expr}
theorem PE.imp{t t':TE}(h:PE X e t)(q:∀σ H Q,t' σ H Q->t σ H Q):PE X e t':=fun pins s σ H Q I z=>h pins s σ H Q I (q _ _ _ z)
variable {t':TT}
theorem PT.imp{t:TT}(h:PT X e t)(q:∀σ H Q,t' σ H Q->t σ H Q):PT X e t':=fun pins s σ H Q I z=>h pins s σ H Q I (q _ _ _ z)
theorem PW.imp{t:TT}(h:PW X e t)(q:∀σ H Q,t' σ H Q->t σ H Q):PW X e t':=fun wh pins s σ H Q I z=>h wh pins s σ H Q I (q _ _ _ z)
theorem PA.imp{e:List Expr}{t t':TA}(h:PA X e t)(q:∀σ H Q,t' σ H Q->t σ H Q):PA X e t':=fun pos pins s σ H Q I z=>h pos pins s σ H Q I (q _ _ _ z)
theorem PS.imp{e:Stmt}{t t':TS}(h:PS X e t)(q:∀D σ H,t' D σ H->t D σ H):PS X e t':=fun pins s σ H Q I z=>h pins s σ H Q I (q _ _ _ z)
theorem PSs.imp{e:List Stmt}{t t':TS}(h:PSs X e t)(q:∀D σ H,t' D σ H->t D σ H):PSs X e t':=fun pins s σ H Q I z=>h pins s σ H Q I (q _ _ _ z)
def aa(i:Nat):Sl->M W:=fun sl ce=>match sl[i]? with
 | some (some w)=>some (.ok w ce)
 | _=>none
def dC(w:W):Sl->M W:=fun _=>ret w
def aJ(f:W->W->Option W)(a b:Sl->M W):Sl->M W:=fun sl=>au (a sl) fun x=>au (b sl) fun y=>look fun _=>f x y
def dM(f:W->Option W)(a:Sl->M W):Sl->M W:=fun sl=>au (a sl) fun x=>look fun _=>f x
def jA:W->Option V
 | .non=>some .non
 | .bl b=>some (.bl b)
 | .int i=>some (.int i)
 | .str x=>some (.str x)
 | .ty n=>some (.ty n)
 | _=>none
theorem Rep.sc{u:V}(r:Rep F as w v)(e:jA w=some u):v=u:=by
 cases w<;>simp only[jA,Option.some.injEq,reduceCtorEq] at e<;>simp only[Rep] at r<;>(subst e;exact r)
theorem Rep.of_sc{u:V}(e:jA w=some u):Rep F as w u:=by cases w<;>simp only[jA,Option.some.injEq,reduceCtorEq] at e<;>simp only[Rep]<;>exact e.symm
def lH(r:R2)(f:W->W->Option W):Prop:=∀x y w,f x y=some w->∃vx vy vw,jA x=some vx/\jA y=some vy/\jA w=some vw/\∀H Q,Q vw H->r vx vy H Q
def i2(g:Int->Int->W):W->W->Option W
 | .int i,.int j=>some (g i j)
 | _,_=>none
open Classical in
def j5(c:Int->Int->Prop)(g:Int->Int->W):W->W->Option W
 | .int i,.int j=>if c i j then some (g i j) else none
 | _,_=>none
variable {g:Int->Int->W} {b:Expr} {da db dc d:Sl->M W} {pos:Pos} {f:W->W->Option W} {Q:VK} {op:CmpOp} {h:Int->Int->V}
section
variable {a c:Expr}
theorem af(i:Nat){x:Str}(hN:X.N[i]?=some x:=by rfl)(hv:lG X.env.scope x:=by first|exact Or.inl rfl|exact Or.inr (Or.inl rfl)|exact Or.inr (Or.inr rfl))(hd:(x==("__debug__" : Str))=false:=by decide)(hcd:(x==("__classdict__" : Str))=false:=by decide):PE X (.Name x pos) (ar G E (aa i)):=by
 refine PE.imp (mq hN hv hd hcd) fun σ H Q h=>?_;obtain⟨F,as,sl,ce,S,P⟩:=h;revert P;unfold aa;split
 ·rename_i w e;intro P;obtain⟨v,h1,h2⟩:=S.var e;exact⟨v,h1,P.done S h2⟩
 ·exact fun P=>P.elim
theorem lR(h:PE X e (tC v))(hs:jA w=some v):PE X e (ar G E (dC w)):=by refine PE.imp h fun σ H Q h=>?_;obtain⟨F,as,sl,ce,S,P⟩:=h;exact P.done S (Rep.of_sc hs)
theorem aD{i j pos}:PE X (.Constant (.int i) j pos) (ar G E (dC (.int i))):=lR Dy rfl
theorem iI{i j pos}:PE X (.Constant (.bool i) j pos) (ar G E (dC (.bl i))):=lR B7 rfl
theorem kq{j pos}:PE X (.Constant .none j pos) (ar G E (dC .non)):=lR Dx rfl
theorem eS{x j pos}:PE X (.Constant (.str x) j pos) (ar G E (dC (.str x))):=lR Dw rfl
theorem o_{r:R2}{f:W->W->M W}{σ:VS.St}(h:ar G E (fun sl=>au (da sl) fun x=>au (db sl) fun y=>f x y) σ H Q)(k:∀F as sl ce H2 x y wx wy,SR G F as H2 σ sl ce->Rep F as wx x->Rep F as wy y->aG G E Rep F as σ sl Q (f wx wy ce)->r x y H2 Q):lA r (ar G E da) (ar G E db) σ H Q:=by obtain⟨F,as,sl,ce,S,P⟩:=h;refine(step S P).mono fun x H1 zz_=>aZ zz_ fun wx F1 as1 ce1 l1 S1 rx P1=>(step S1 P1).mono fun y H2 zz_=>aZ zz_ fun wy F2 as2 ce2 l2 S2 ry P2=>?_;exact k F2 as2 sl ce2 H2 x y wx wy S2 (rx.le l2) ry P2
theorem nH{op:Operator}{r:R2}(ho:de X (binaryOp op) r)(hf:lH r f)(ha:PE X a (ar G E da))(hb:PE X b (ar G E db)):PE X (.BinOp a op b pos) (ar G E (aJ f da db)):=by
 refine PE.imp (qT ho ha hb) fun σ H Q h=>o_ h fun F as sl ce H2 x y wx wy S rx ry P=>?_;revert P;unfold look;cases e:f wx wy with
 | none=>exact fun P=>P.elim
 | some w =>
  intro P;obtain⟨vx,vy,vw,e1,e2,e3,k⟩:=hf _ _ _ e;rw[rx.sc e1,ry.sc e2];exact k _ _ (P.done S (Rep.of_sc e3))
theorem Cg{r:R2}(ho:de X (compareOp op) r)(hf:lH r f)(ha:PE X a (ar G E da))(hb:PE X b (ar G E db))(hm:behindInMarks op b=false):PE X (.Compare a [op] [b] pos) (ar G E (aJ f da db)):=by
 refine PE.imp (xu ho ha hb hm) fun σ H Q h=>o_ h fun F as sl ce H2 x y wx wy S rx ry P=>?_;revert P;unfold look;cases e:f wx wy with
 | none=>exact fun P=>P.elim
 | some w =>
  intro P;obtain⟨vx,vy,vw,e1,e2,e3,k⟩:=hf _ _ _ e;rw[rx.sc e1,ry.sc e2];exact k _ _ (P.done S (Rep.of_sc e3))
theorem ke(q:∀i j,jA (g i j)=some (h i j)):lH (jZ h) (i2 g):=by intro x y w e;cases x<;>cases y<;>simp only[i2,Option.some.injEq,reduceCtorEq] at e;subst e;exact⟨_,_,_,rfl,rfl,q _ _,fun H Q hq=>⟨_,_,rfl,rfl,hq⟩⟩
theorem rV{c:Int->Int->Prop}(q:∀i j,jA (g i j)=some (h i j)):lH (rI c h) (j5 c g):=by
 intro x y w e;cases x<;>cases y<;>simp only[j5,reduceCtorEq] at e;split at e
 ·rename_i hc;cases e;exact⟨_,_,_,rfl,rfl,q _ _,fun H Q hq=>⟨_,_,rfl,rfl,hc,hq⟩⟩
 ·cases e
def c7:W->W->Option W:=i2 fun i j=>.int (i+j)
def gB:W->W->Option W:=i2 fun i j=>.int (i-j)
def fk:W->W->Option W:=j5 fh fun i j=>.int (i*j)
def bV:W->W->Option W:=j5 (fun _ j=>0<j) fun i j=>.int (i % j)
def lQ:W->W->Option W:=j5 qu fun i j=>.int (i / j)
def lF:W->W->Option W:=i2 fun i j=>.bl (decide (i<j))
def j6:W->W->Option W:=i2 fun i j=>.bl (decide (i<=j))
def iC:W->W->Option W:=i2 fun i j=>.bl (decide (j<i))
def uw:W->W->Option W:=i2 fun i j=>.bl (decide (j<=i))
theorem fT(ha:PE X a (ar G E da))(hb:PE X b (ar G E db)):PE X (.BinOp a .Add b pos) (ar G E (aJ c7 da db)):=nH DI (ke fun _ _=>rfl) ha hb
theorem mj(ha:PE X a (ar G E da))(hb:PE X b (ar G E db)):PE X (.BinOp a .Sub b pos) (ar G E (aJ gB da db)):=nH DH (ke fun _ _=>rfl) ha hb
theorem mi(ha:PE X a (ar G E da))(hb:PE X b (ar G E db)):PE X (.BinOp a .Mult b pos) (ar G E (aJ fk da db)):=nH DF (rV fun _ _=>rfl) ha hb
theorem eE(ha:PE X a (ar G E da))(hb:PE X b (ar G E db)):PE X (.BinOp a .Mod b pos) (ar G E (aJ bV da db)):=nH DE (rV fun _ _=>rfl) ha hb
theorem Cf(ha:PE X a (ar G E da))(hb:PE X b (ar G E db)):PE X (.BinOp a .FloorDiv b pos) (ar G E (aJ lQ da db)):=nH E2 (rV fun _ _=>rfl) ha hb
theorem Bj(ha:PE X a (ar G E da))(hb:PE X b (ar G E db)):PE X (.Compare a [.Gt] [b] pos) (ar G E (aJ iC da db)):=Cg vh (ke fun _ _=>rfl) ha hb (ip _)
def iE:W->Option W
 | .int i=>some (.int (-i))
 | _=>none
theorem mh(ha:PE X a (ar G E da)):PE X (.UnaryOp .USub a pos) (ar G E (dM iE da)):=by
 refine PE.imp (A5 DD ha) fun σ H Q zz_=>bu zz_ fun F as sl ce S P=>(step S P).mono fun x H1 zz_=>aZ zz_ fun wx F1 as1 ce1 l1 S1 rx P1=>?_;revert P1;unfold look iE;cases wx<;>first|exact fun P=>P.elim|skip
 simp only[Rep] at rx;subst rx;exact fun P=>⟨_,rfl,P.done S1 (by simp only[Rep])⟩
def fH:W->Bool
 | .non=>true
 | _=>false
def lP:W->Option W:=fun w=>some (.bl (fH w))
def fQ:W->Option W:=fun w=>some (.bl (!fH w))
theorem Rep.isN(r:Rep F as w v):decide (v=.non)=fH w:=by
 cases w<;>simp only[Rep] at r<;>first|(subst r;rfl)|(obtain⟨_,_,rfl,_⟩:=r;rfl)|(obtain⟨_,rfl,_⟩:=r;rfl)
theorem Cd{j pos'}(ha:PE X a (ar G E da)):PE X (.Compare a [.Is] [.Constant .none j pos'] pos) (ar G E (dM lP da)):=by refine PE.imp (Dv (vM ha)) fun σ H Q zz_=>bu zz_ fun F as sl ce S P=>(step S P).mono fun x H1 zz_=>aZ zz_ fun wx F1 as1 ce1 l1 S1 rx P1=>?_;exact aG.done S1 (a:=W.bl _) P1 (by simp only[Rep];rw[rx.isN])
def fU(ce:Ce):W->Option Bool
 | .non=>some false
 | .bl b=>some b
 | .int i=>some (i != 0)
 | .str x=>if x.length<=sizeLine then some ((x.length:Int) != 0) else none
 | .lst xs=>some (!xs.isEmpty)
 | .tup xs=>some (!xs.isEmpty)
 | .cel k=>match ce[k]? with
  | some (.lst xs)=>some (!xs.isEmpty)
  | some (.dct xs)=>some (!xs.isEmpty)
  | _=>none
 | _=>none
theorem ag.empty(r:ag F as ws vs):vs.isEmpty=ws.isEmpty:=by have:=r.length;cases ws<;>cases vs<;>simp_all
theorem Rd.sub{G:Ga}{F:Hp}{as:List Addr}{H:Hp}{ce:Ce}(S:aw G F as H ce){a:Addr}{o:HO}(r:Rd F a o):Rd H a o:=by
 rcases r with r|⟨u,r⟩
 ·exact .inl (S.sub _ _ r)
 ·exact .inr ⟨u,S.sub _ _ r⟩
theorem DT{k:Bool}(S:aw G F as H ce)(r:Rep F as w v)(e:fU ce w=some k)(K:Frag):oN K v H k:=by
 cases w with
 | non=>simp only[Rep] at r;simp only[fU,Option.some.injEq] at e;subst r;exact e.symm
 | bl b=>simp only[Rep] at r;simp only[fU,Option.some.injEq] at e;subst r;exact e.symm
 | int i=>simp only[Rep] at r;simp only[fU,Option.some.injEq] at e;subst r;exact e.symm
 | str x =>
  simp only[Rep] at r;subst r;simp only[fU] at e;split at e
  ·rename_i h;exact⟨h,(Option.some.inj e).symm⟩
  ·cases e
 | ty n=>simp only[fU,reduceCtorEq] at e
 | lst xs =>
  simp only[Rep] at r;obtain⟨a,vs,rfl,h,rs⟩:=r;simp only[fU,Option.some.injEq] at e;exact .inl ⟨vs,.inl (Rd.sub S h),by rw[<- e,rs.empty]⟩
 | tup xs =>
  simp only[Rep] at r;obtain⟨a,vs,rfl,h,rs⟩:=r;simp only[fU,Option.some.injEq] at e;exact .inr (.inl ⟨vs,.inl (.inl (S.sub _ _ h)),by rw[<- e,rs.empty]⟩)
 | cel n =>
  simp only[Rep] at r;obtain⟨a,rfl,h⟩:=r;simp only[fU] at e;split at e
  ·rename_i xs hc;obtain⟨_,vs,h2,rs⟩:=S.cell _ _ _ h hc;exact .inl ⟨vs,.inl (.inl h2),by rw[<- Option.some.inj e,rs.empty]⟩
  ·rename_i xs hc;obtain⟨_,vs,h2,rs⟩:=S.cell _ _ _ h hc;refine .inr (.inr ⟨vs,h2,?_⟩);rw[<- Option.some.inj e];cases rs<;>rfl
  ·cases e
def jf(d:Sl->M W):Sl->M Bool:=fun sl=>au (d sl) fun w=>look fun ce=>fU ce w
theorem rT(ha:PE X a (ar G E da))(he:∀whole,isTrue a X.env whole=(do let v <- whole;standAt a.pos;holding [v] (truthy v)):=by intro _;rfl):PT X a (bW G E (jf da)):=by refine PT.imp (Bq (K:=X.K) ha he) fun σ H Q zz_=>bu zz_ fun F as sl ce S P=>(step S P).mono fun x H1 zz_=>aZ zz_ fun wx F1 as1 ce1 l1 S1 rx P1=>?_;obtain⟨k,e,P⟩:=jw P1;exact⟨k,DT S1.st rx e _,aG.done (RP:=rB) S1 P rfl⟩
def dB(d:Sl->M W):Sl->M Bool:=fun sl=>au (d sl) fun w=>look fun _=>match w with|.bl b=>some b|_=>none
theorem qJ{t:TE}{σ:VS.St}{Q:Bool->Hp->Prop}(h:bW G E (dB d) σ H Q):tB (ar G E d) σ H Q:=by
 obtain⟨F,as,sl,ce,S,P⟩:=h;refine(step S P).mono fun x H1 zz_=>aZ zz_ fun wx F1 as1 ce1 l1 S1 rx P1=>?_;revert P1;unfold look;cases wx<;>first|exact fun P=>P.elim|skip
 simp only[Rep] at rx;subst rx;exact fun P=>⟨_,rfl,P.done S1 rfl⟩
theorem ko(h:PE X e (ar G E d))(he:∀whole,isTrue e X.env whole=(do let v <- whole;standAt e.pos;holding [v] (truthy v)):=by intro _;rfl):PT X e (bW G E (dB d)) :=
 PT.imp (Dt h he) fun σ H Q q=>qJ (t:=ar G E d) q
theorem jP{r:R2}(ho:de X (compareOp op) r)(ha:PE X a (ar G E da))(hb:PE X b (ar G E db))(hm:behindInMarks op b=false)(q:∀σ H Q,ar G E d σ H Q->lA r (ar G E da) (ar G E db) σ H Q):PT X (.Compare a [op] [b] pos) (bW G E (dB d)):=by refine PT.imp (EZ ho ha hb hm) fun σ H Q h=>?_;exact q σ H _ (qJ (t:=ar G E d) h)
theorem qI(h:∃t,PC X op a b t/\∀σ H Q,ar G E d σ H Q->t σ H Q)(h1:behindInMarks op b=false):PT X (.Compare a [op] [b] pos) (bW G E (dB d)):=by obtain⟨t,h,q⟩:=h;exact PT.imp (Du h h1) fun σ H Q z=>q _ _ _ (qJ (t:=ar G E d) z)
end
mutual
def aL:W->W->Bool
 | .non,y=>match y with|.non=>true|_=>false
 | .bl a,y=>match y with|.bl b=>a==b|.int b=>(if a then 1 else 0)==b|_=>false
 | .int a,y=>match y with|.int b=>a==b|.bl b=>a==(if b then 1 else 0)|_=>false
 | .str a,y=>match y with|.str b=>a==b|_=>false
 | .lst xs,y=>match y with|.lst ys=>bB xs ys|_=>false
 | .tup xs,y=>match y with|.tup ys=>bB xs ys|_=>false
 | .ty _,_=>false
 | .cel _,_=>false
def bB:List W->List W->Bool
 | [],ys=>match ys with|[]=>true|_=>false
 | x::xs,ys=>match ys with|y::ys=>aL x y&&bB xs ys|[]=>false
end
def aX:Nat->W->Bool
 | _,.non=>true
 | _,.bl _=>true
 | _,.int _=>true
 | _,.str _=>true
 | _,.ty _=>false
 | _,.cel _=>false
 | 0,.lst _=>false
 | 0,.tup _=>false
 | n+1,.lst xs=>xs.all (aX n)
 | n+1,.tup xs=>xs.all (aX n)
variable {us:List V}
theorem HH(h:Rd F a (.lst vs))(h':Rd F a (.lst us)):vs=us:=by
 rcases h with h|⟨o,h⟩<;>rcases h' with h'|⟨o',h'⟩<;>(first|(rw[h] at h';cases h';rfl)|(rw[h] at h';cases h'))
theorem HG(h:Rd F a (.tup vs))(h':Rd F a (.tup us)):vs=us:=by
 rcases h with h|⟨o,h⟩<;>rcases h' with h'|⟨o',h'⟩<;>(first|(rw[h] at h';cases h';rfl)|(rw[h] at h';cases h'))
theorem yp(h:Rd F a (.lst vs))(h':Rd F a (.tup us)):False:=by
 rcases h with h|⟨o,h⟩<;>rcases h' with h'|⟨o',h'⟩<;>(rw[h] at h';cases h')
theorem xB:∀(n:Nat) {w w':W} {v:V},aX n w=true->aX n w'=true->Rep F as w v->Rep F as w' v->w=w':=by
 intro n
 induction n with
 | zero =>
  intro w w' v c c' r r';cases w<;>cases w'<;>simp only[aX,reduceCtorEq] at c c'<;>simp only[Rep] at r r'<;>(subst r;cases r')<;>rfl
 | succ n ih =>
  have its:∀{ws ws':List W} {vs:List V},ws.all (aX n)=true->ws'.all (aX n)=true->ag F as ws vs->ag F as ws' vs->ws=ws':=by
   intro ws
   induction ws with
   | nil =>
    intro ws' vs _ _ r r';simp only[ag] at r;subst r;cases ws' with
    | nil=>rfl
    | cons y ys=>simp only[ag] at r';obtain⟨v,r,e,_⟩:=r';cases e
   | cons x xs ihx =>
    intro ws' vs c c' r r';simp only[ag] at r;obtain⟨v,vs',rfl,h1,h2⟩:=r;cases ws' with
    | nil=>simp only[ag] at r';cases r'
    | cons y ys =>
     simp only[ag] at r';obtain⟨v',r',e,h3,h4⟩:=r';cases e;simp only[all_cons,and_eq_true] at c c';rw[ih c.1 c'.1 h1 h3,ihx c.2 c'.2 h2 h4]
  intro w w' v c c' r r';cases w<;>cases w'<;>simp only[aX,reduceCtorEq] at c c'<;>simp only[Rep] at r r'<;>first
   | (subst r;cases r';rfl)
   | (subst r;cases r';done)
   | (subst r;obtain⟨_,_,e,_⟩:=r';cases e)
   | (subst r';obtain⟨_,_,e,_⟩:=r;cases e)
   | (obtain⟨a,vs,rfl,q,s⟩:=r
      obtain⟨b,us,e,q',s'⟩:=r';cases e
      first
       | exact(yp q (.inl q')).elim
       | exact(yp q' (.inl q)).elim
       | (cases HH q q';rw[its c c' s s'])
       | (cases HG (.inl q) (.inl q');rw[its c c' s s']))
theorem yn:∀(n:Nat) {w:W},aX n w=true->aL w w=true:=by
 intro n
 induction n with
 | zero=>intro w c;cases w<;>simp_all[aX,aL]
 | succ n ih =>
  have its:∀{ws:List W},ws.all (aX n)=true->bB ws ws=true:=by
   intro ws
   induction ws with
   | nil=>intro _;simp[bB]
   | cons x xs ihx =>
    intro c;simp only[all_cons,and_eq_true] at c;simp only[bB,ih c.1,ihx c.2,Bool.and_self]
  intro w c;cases w<;>simp only[aX,reduceCtorEq] at c<;>first|(simp only[aL];exact its c)|simp[aL]
theorem sQ:∀(xs ys:List W),xs.length=ys.length->bB xs ys=(List.range xs.length).all fun j=>match xs[j]?,ys[j]? with|some a,some b=>aL a b|_,_=>false
 | [],[],_=>by simp[bB]
 | x::xs,y::ys,h=>by
  have e:xs.length=ys.length:=by simpa using h
  simp only[bB];rw[sQ xs ys e,length_cons,range_succ_eq_map,all_cons,all_map];rfl
 | [],_::_,h=>by simp at h
 | _::_,[],h=>by simp at h
theorem ym:∀{xs ys:List W},bB xs ys=true->xs.length=ys.length
 | [],[],_=>rfl
 | x::xs,y::ys,h=>by
  simp only[bB,and_eq_true] at h;simp only[length_cons,ym h.2]
 | [],_::_,h=>by simp[bB] at h
 | _::_,[],h=>by simp[bB] at h
variable {xs ys:List W}
theorem xA(h:xs.length≠ys.length):bB xs ys=false:=by
 cases e:bB xs ys with
 | false=>rfl
 | true=>exact absurd (ym e) h
variable {pins:List (Addr×Obj)} {s:Shared} {A:Around} {zs:List W} {n:Nat}
section
variable {σ:VS.St}
theorem wY{ps qs:List Value}(it:∀{w z:W} {v u:V} {p q:Value},w∈ws->z∈zs->Rep F as w v->Rep F as z u->L2.RelV v p->L2.RelV u q->SeqAt.EqAt A s p q (aL w z))(h1:ag F as ws vs)(h2:ag F as zs us)(r1:Vals vs ps)(r2:Vals us qs) :
  ∀j (k1:j<ps.toArray.size) (k2:j<qs.toArray.size),SeqAt.EqAt A s ps.toArray[j] qs.toArray[j] (match ws[j]?,zs[j]? with|some a,some b=>aL a b|_,_=>false):=by
 intro j k1 k2;have k1':j<ps.length:=by simpa using k1
 have k2':j<qs.length:=by simpa using k2
 have l1:=r1.length;have l2:=r2.length;have e1:vs[j]?=some (vs[j]'(by omega)):=by simp
 have e2:us[j]?=some (us[j]'(by omega)):=by simp
 obtain⟨u,hu1,ru⟩:=r1.get e1;obtain⟨z,hz1,rz⟩:=r2.get e2;obtain⟨a,ha,ra⟩:=h1.get' e1;obtain⟨b,hb,rb⟩:=h2.get' e2;have eu:ps.toArray[j]=u:=by
  have:ps[j]?=some ps[j]:=by simp
  rw[hu1] at this;simpa using (Option.some.inj this).symm
 have ez:qs.toArray[j]=z:=by
  have:qs[j]?=some qs[j]:=by simp
  rw[hz1] at this;simpa using (Option.some.inj this).symm
 rw[eu,ez,ha,hb];exact it (mem_of_getElem? ha) (mem_of_getElem? hb) ra rb ru rz
theorem Ff{b:Addr}(I:Inv X pins σ H s)(hu:A.units<cLine)(ha:cL X.K H a vs)(hb:cL X.K H b us)(h1:ag F as ws vs)(h2:ag F as zs us)(it:∀{w z:W} {v u:V} {p q:Value},w∈ws->z∈zs->Rep F as w v->Rep F as z u->L2.RelV v p->L2.RelV u q->SeqAt.EqAt A.in1 s p q (aL w z)) :
  SeqAt.RcAt A s (.ref a) (.ref b) (bB ws zs)/\SeqAt.RcNeAt A s (.ref a) (.ref b) (!bB ws zs):=by
 obtain⟨ps,r1,p1,z1⟩:=I.list ha;obtain⟨qs,r2,p2,z2⟩:=I.list hb;have l1:=r1.length;have l2:=r2.length;have l3:=h1.length;have l4:=h2.length
 by_cases hl:ws.length=zs.length
 ·have hsz:ps.toArray.size=qs.toArray.size:=by rw[size_toArray,size_toArray];omega
  have ia:=wY (A:=A.in1) it h1 h2 r1 r2;have a1:=SeqAt.RcAt.lists p1.isList p2.isList hsz hu ia;have a2:=SeqAt.RcNeAt.lists p1.isList p2.isList hsz hu ia;rw[size_toArray,show ps.length=ws.length by omega,<- sQ ws zs hl] at a1 a2;exact⟨a1,a2⟩
 ·have hne:(ps.toArray.size != qs.toArray.size)=true:=by rw[size_toArray,size_toArray];simp;omega
  rw[xA hl];exact⟨SeqAt.RcAt.lists_lengths p1.isList p2.isList hne hu,SeqAt.RcNeAt.lists_lengths p1.isList p2.isList hne hu⟩
theorem DR{b:Addr}(I:Inv X pins σ H s)(hu:A.units<cLine)(ha:eG X.K H a vs)(hb:eG X.K H b us)(h1:ag F as ws vs)(h2:ag F as zs us)(it:∀{w z:W} {v u:V} {p q:Value},w∈ws->z∈zs->Rep F as w v->Rep F as z u->L2.RelV v p->L2.RelV u q->SeqAt.EqAt A.in1 s p q (aL w z)) :
  SeqAt.RcAt A s (.ref a) (.ref b) (bB ws zs)/\SeqAt.RcNeAt A s (.ref a) (.ref b) (!bB ws zs):=by
 obtain⟨ps,r1,p1,z1⟩:=I.tuple ha;obtain⟨qs,r2,p2,z2⟩:=I.tuple hb;have l1:=r1.length;have l2:=r2.length;have l3:=h1.length;have l4:=h2.length;have ia:=wY (A:=A.in1) it h1 h2 r1 r2;have e:((List.range (min ps.toArray.size qs.toArray.size)).all (fun j=>match ws[j]?,zs[j]? with|some a,some b=>aL a b|_,_=>false)&&ps.toArray.size==qs.toArray.size)=bB ws zs:=by
  rw[size_toArray,size_toArray]
  by_cases hl:ws.length=zs.length
  ·have h1:ps.length=ws.length:=by omega
   have h2:qs.length=ws.length:=by omega
   rw[h1,h2,min_self,sQ ws zs hl];simp
  ·have e1:(ps.length==qs.length)=false:=by simp;omega
   rw[e1,Bool.and_false,xA hl]
 have a1:=SeqAt.RcAt.tuples p1 p2 hu ia;have a2:=SeqAt.RcNeAt.tuples p1 p2 hu ia;rw[e] at a1 a2;exact⟨a1,a2⟩
inductive Sh (F:Hp) (as:List Addr):W->V->Value->Prop where
 | non:Sh F as .non .non .none
 | bl (b:Bool):Sh F as (.bl b) (.bl b) (.bool b)
 | int (i:Int) (t:Tok):Sh F as (.int i) (.int i) (.int i t)
 | str (x:Str) (t:Tok):Sh F as (.str x) (.str x) (.str x t)
 | lst {xs:List W} {a:Addr} {vs:List V} (h:Rd F a (.lst vs)) (r:ag F as xs vs):Sh F as (.lst xs) (.ref a) (.ref a)
 | tup {xs:List W} {a:Addr} {vs:List V} (h:Rd F a (.tup vs)) (r:ag F as xs vs):Sh F as (.tup xs) (.ref a) (.ref a)
theorem oU{p:Value}(c:aX n w=true)(r:Rep F as w v)(rv:L2.RelV v p):Sh F as w v p:=by
 cases w with
 | non=>simp only[Rep] at r;subst r;cases rv;exact .non
 | bl b=>simp only[Rep] at r;subst r;cases rv;exact .bl b
 | int i=>simp only[Rep] at r;subst r;obtain⟨t,rfl⟩:=rv;exact .int i t
 | str i=>simp only[Rep] at r;subst r;obtain⟨t,rfl⟩:=rv;exact .str i t
 | ty i=>cases n<;>simp only[aX,reduceCtorEq] at c
 | cel i=>cases n<;>simp only[aX,reduceCtorEq] at c
 | lst xs=>simp only[Rep] at r;obtain⟨a,vs,rfl,h,q⟩:=r;cases rv;exact .lst h q
 | tup xs=>simp only[Rep] at r;obtain⟨a,vs,rfl,h,q⟩:=r;cases rv;exact .tup (.inl h) q
theorem qD(hs:∀a o,F a=some o->H a=some o)(I:Inv X pins σ H s):∀(n:Nat) {A:Around} {w z:W} {v u:V} {p q:Value},A.units+n<cLine->aX n w=true->aX n z=true->Rep F as w v->Rep F as z u->L2.RelV v p->L2.RelV u q ->
  SeqAt.RcAt A s p q (aL w z)/\SeqAt.RcNeAt A s p q (!aL w z)/\SeqAt.EqAt A s p q (aL w z):=by
 have sub:∀{a:Addr} {o:HO},Rd F a o->Rd H a o:=fun {a o} r=>by
  rcases r with r|⟨u,r⟩
  ·exact .inl (hs _ _ r)
  ·exact .inr ⟨u,hs _ _ r⟩
 have isL:∀{a:Addr} {vs:List V},Rd F a (.lst vs)->∃its,s.heap.IsList a its:=fun {a vs} h=>by
  obtain⟨its,_,p,_⟩:=I.list (.inl (sub h));exact⟨_,p.isList⟩
 have isT:∀{a:Addr} {vs:List V},Rd F a (.tup vs)->∃its,s.heap.IsTuple a its:=fun {a vs} h=>by
  obtain⟨its,_,p,_⟩:=I.tuple (.inl (sub h));exact⟨_,p⟩
 intro n
 induction n with
 | zero =>
  intro A w z v u p q hu c c' r r' rv ru;have sh:=oU c r rv;have sh':=oU c' r' ru;cases sh with
  | non =>
   cases sh' with
   | non =>
    simp only[aL];exact⟨SeqAt.RcAt.none_none ,SeqAt.RcNeAt.none_none ,SeqAt.EqAt.same _⟩
   | bl b2 =>
    simp only[aL];exact⟨SeqAt.RcAt.none_bool _,SeqAt.RcNeAt.none_bool _,SeqAt.EqAt.none_bool _⟩
   | int i2 t2 =>
    simp only[aL];exact⟨SeqAt.RcAt.none_int _ _,SeqAt.RcNeAt.none_int _ _,SeqAt.EqAt.none_int _ _⟩
   | str x2 t2 =>
    simp only[aL];exact⟨SeqAt.RcAt.none_str _ _,SeqAt.RcNeAt.none_str _ _,SeqAt.EqAt.none_str _ _⟩
   | lst q2 s2 =>
    simp only[aX,reduceCtorEq] at c'
   | tup q2 s2 =>
    simp only[aX,reduceCtorEq] at c'
  | bl b =>
   cases sh' with
   | non =>
    simp only[aL];exact⟨SeqAt.RcAt.bool_none _,SeqAt.RcNeAt.bool_none _,SeqAt.EqAt.bool_none _⟩
   | bl b2 =>
    simp only[aL];exact⟨SeqAt.RcAt.bool_bool _ _,SeqAt.RcNeAt.bool_bool _ _,SeqAt.EqAt.bool_bool _ _⟩
   | int i2 t2 =>
    simp only[aL];exact⟨SeqAt.RcAt.bool_int _ _ _,SeqAt.RcNeAt.bool_int _ _ _,SeqAt.EqAt.bool_int _ _ _⟩
   | str x2 t2 =>
    simp only[aL];exact⟨SeqAt.RcAt.bool_str _ _ _,SeqAt.RcNeAt.bool_str _ _ _,SeqAt.EqAt.bool_str _ _ _⟩
   | lst q2 s2 =>
    simp only[aX,reduceCtorEq] at c'
   | tup q2 s2 =>
    simp only[aX,reduceCtorEq] at c'
  | int i t =>
   cases sh' with
   | non =>
    simp only[aL];exact⟨SeqAt.RcAt.int_none _ _,SeqAt.RcNeAt.int_none _ _,SeqAt.EqAt.int_none _ _⟩
   | bl b2 =>
    simp only[aL];exact⟨SeqAt.RcAt.int_bool _ _ _,SeqAt.RcNeAt.int_bool _ _ _,SeqAt.EqAt.int_bool _ _ _⟩
   | int i2 t2 =>
    simp only[aL];exact⟨SeqAt.RcAt.int_int _ _ _ _,SeqAt.RcNeAt.int_int _ _ _ _,SeqAt.EqAt.int_int _ _ _ _⟩
   | str x2 t2 =>
    simp only[aL];exact⟨SeqAt.RcAt.int_str _ _ _ _,SeqAt.RcNeAt.int_str _ _ _ _,SeqAt.EqAt.int_str _ _ _ _⟩
   | lst q2 s2 =>
    simp only[aX,reduceCtorEq] at c'
   | tup q2 s2 =>
    simp only[aX,reduceCtorEq] at c'
  | str x t =>
   cases sh' with
   | non =>
    simp only[aL];exact⟨SeqAt.RcAt.str_none _ _,SeqAt.RcNeAt.str_none _ _,SeqAt.EqAt.str_none _ _⟩
   | bl b2 =>
    simp only[aL];exact⟨SeqAt.RcAt.str_bool _ _ _,SeqAt.RcNeAt.str_bool _ _ _,SeqAt.EqAt.str_bool _ _ _⟩
   | int i2 t2 =>
    simp only[aL];exact⟨SeqAt.RcAt.str_int _ _ _ _,SeqAt.RcNeAt.str_int _ _ _ _,SeqAt.EqAt.str_int _ _ _ _⟩
   | str x2 t2 =>
    simp only[aL];exact⟨SeqAt.RcAt.str_str _ _ _ _,SeqAt.RcNeAt.str_str _ _ _ _,SeqAt.EqAt.str_str _ _ _ _⟩
   | lst q2 s2 =>
    simp only[aX,reduceCtorEq] at c'
   | tup q2 s2 =>
    simp only[aX,reduceCtorEq] at c'
  | lst q1 s1 =>
   simp only[aX,reduceCtorEq] at c
  | tup q1 s1 =>
   simp only[aX,reduceCtorEq] at c
 | succ n ih =>
  intro A w z v u p q hu c c' r r' rv ru;have hu0:A.units<cLine:=by omega
  have hu1:A.in1.units+n<cLine:=by show A.units+1+n<cLine;omega
  have ref:∀{a b:Addr},v=.ref a->u=.ref b->(SeqAt.RcAt A s (.ref a) (.ref b) (aL w z)/\SeqAt.RcNeAt A s (.ref a) (.ref b) (!aL w z))->SeqAt.RcAt A s (.ref a) (.ref b) (aL w z)/\SeqAt.RcNeAt A s (.ref a) (.ref b) (!aL w z)/\SeqAt.EqAt A s (.ref a) (.ref b) (aL w z):=by
   intro a b e1 e2 ⟨h1,h2⟩;subst e1 e2;refine⟨h1,h2,?_⟩
   by_cases e:a=b
   ·subst e;rw[xB (n+1) c c' r r',yn (n+1) c'];exact SeqAt.EqAt.same _
   ·exact SeqAt.EqAt.of_refs e h1
  have sh:=oU c r rv;have sh':=oU c' r' ru;cases sh with
  | non =>
   cases sh' with
   | non =>
    simp only[aL];exact⟨SeqAt.RcAt.none_none ,SeqAt.RcNeAt.none_none ,SeqAt.EqAt.same _⟩
   | bl b2 =>
    simp only[aL];exact⟨SeqAt.RcAt.none_bool _,SeqAt.RcNeAt.none_bool _,SeqAt.EqAt.none_bool _⟩
   | int i2 t2 =>
    simp only[aL];exact⟨SeqAt.RcAt.none_int _ _,SeqAt.RcNeAt.none_int _ _,SeqAt.EqAt.none_int _ _⟩
   | str x2 t2 =>
    simp only[aL];exact⟨SeqAt.RcAt.none_str _ _,SeqAt.RcNeAt.none_str _ _,SeqAt.EqAt.none_str _ _⟩
   | lst q2 s2 =>
    obtain⟨_,p1⟩:=isL q2;simp only[aL];exact⟨SeqAt.RcAt.none_list p1 hu0,SeqAt.RcNeAt.none_list p1 hu0,SeqAt.EqAt.none_list p1 hu0⟩
   | tup q2 s2 =>
    obtain⟨_,p1⟩:=isT q2;simp only[aL];exact⟨SeqAt.RcAt.none_tuple p1 hu0,SeqAt.RcNeAt.none_tuple p1 hu0,SeqAt.EqAt.none_tuple p1 hu0⟩
  | bl b =>
   cases sh' with
   | non =>
    simp only[aL];exact⟨SeqAt.RcAt.bool_none _,SeqAt.RcNeAt.bool_none _,SeqAt.EqAt.bool_none _⟩
   | bl b2 =>
    simp only[aL];exact⟨SeqAt.RcAt.bool_bool _ _,SeqAt.RcNeAt.bool_bool _ _,SeqAt.EqAt.bool_bool _ _⟩
   | int i2 t2 =>
    simp only[aL];exact⟨SeqAt.RcAt.bool_int _ _ _,SeqAt.RcNeAt.bool_int _ _ _,SeqAt.EqAt.bool_int _ _ _⟩
   | str x2 t2 =>
    simp only[aL];exact⟨SeqAt.RcAt.bool_str _ _ _,SeqAt.RcNeAt.bool_str _ _ _,SeqAt.EqAt.bool_str _ _ _⟩
   | lst q2 s2 =>
    obtain⟨_,p1⟩:=isL q2;simp only[aL];exact⟨SeqAt.RcAt.bool_list _ p1 hu0,SeqAt.RcNeAt.bool_list _ p1 hu0,SeqAt.EqAt.bool_list _ p1 hu0⟩
   | tup q2 s2 =>
    obtain⟨_,p1⟩:=isT q2;simp only[aL];exact⟨SeqAt.RcAt.bool_tuple _ p1 hu0,SeqAt.RcNeAt.bool_tuple _ p1 hu0,SeqAt.EqAt.bool_tuple _ p1 hu0⟩
  | int i t =>
   cases sh' with
   | non =>
    simp only[aL];exact⟨SeqAt.RcAt.int_none _ _,SeqAt.RcNeAt.int_none _ _,SeqAt.EqAt.int_none _ _⟩
   | bl b2 =>
    simp only[aL];exact⟨SeqAt.RcAt.int_bool _ _ _,SeqAt.RcNeAt.int_bool _ _ _,SeqAt.EqAt.int_bool _ _ _⟩
   | int i2 t2 =>
    simp only[aL];exact⟨SeqAt.RcAt.int_int _ _ _ _,SeqAt.RcNeAt.int_int _ _ _ _,SeqAt.EqAt.int_int _ _ _ _⟩
   | str x2 t2 =>
    simp only[aL];exact⟨SeqAt.RcAt.int_str _ _ _ _,SeqAt.RcNeAt.int_str _ _ _ _,SeqAt.EqAt.int_str _ _ _ _⟩
   | lst q2 s2 =>
    obtain⟨_,p1⟩:=isL q2;simp only[aL];exact⟨SeqAt.RcAt.int_list _ _ p1 hu0,SeqAt.RcNeAt.int_list _ _ p1 hu0,SeqAt.EqAt.int_list _ _ p1 hu0⟩
   | tup q2 s2 =>
    obtain⟨_,p1⟩:=isT q2;simp only[aL];exact⟨SeqAt.RcAt.int_tuple _ _ p1 hu0,SeqAt.RcNeAt.int_tuple _ _ p1 hu0,SeqAt.EqAt.int_tuple _ _ p1 hu0⟩
  | str x t =>
   cases sh' with
   | non =>
    simp only[aL];exact⟨SeqAt.RcAt.str_none _ _,SeqAt.RcNeAt.str_none _ _,SeqAt.EqAt.str_none _ _⟩
   | bl b2 =>
    simp only[aL];exact⟨SeqAt.RcAt.str_bool _ _ _,SeqAt.RcNeAt.str_bool _ _ _,SeqAt.EqAt.str_bool _ _ _⟩
   | int i2 t2 =>
    simp only[aL];exact⟨SeqAt.RcAt.str_int _ _ _ _,SeqAt.RcNeAt.str_int _ _ _ _,SeqAt.EqAt.str_int _ _ _ _⟩
   | str x2 t2 =>
    simp only[aL];exact⟨SeqAt.RcAt.str_str _ _ _ _,SeqAt.RcNeAt.str_str _ _ _ _,SeqAt.EqAt.str_str _ _ _ _⟩
   | lst q2 s2 =>
    obtain⟨_,p1⟩:=isL q2;simp only[aL];exact⟨SeqAt.RcAt.str_list _ _ p1 hu0,SeqAt.RcNeAt.str_list _ _ p1 hu0,SeqAt.EqAt.str_list _ _ p1 hu0⟩
   | tup q2 s2 =>
    obtain⟨_,p1⟩:=isT q2;simp only[aL];exact⟨SeqAt.RcAt.str_tuple _ _ p1 hu0,SeqAt.RcNeAt.str_tuple _ _ p1 hu0,SeqAt.EqAt.str_tuple _ _ p1 hu0⟩
  | lst q1 s1 =>
   cases sh' with
   | non =>
    obtain⟨_,p1⟩:=isL q1;simp only[aL];exact⟨SeqAt.RcAt.list_none p1 hu0,SeqAt.RcNeAt.list_none p1 hu0,SeqAt.EqAt.list_none p1 hu0⟩
   | bl b2 =>
    obtain⟨_,p1⟩:=isL q1;simp only[aL];exact⟨SeqAt.RcAt.list_bool _ p1 hu0,SeqAt.RcNeAt.list_bool _ p1 hu0,SeqAt.EqAt.list_bool _ p1 hu0⟩
   | int i2 t2 =>
    obtain⟨_,p1⟩:=isL q1;simp only[aL];exact⟨SeqAt.RcAt.list_int _ _ p1 hu0,SeqAt.RcNeAt.list_int _ _ p1 hu0,SeqAt.EqAt.list_int _ _ p1 hu0⟩
   | str x2 t2 =>
    obtain⟨_,p1⟩:=isL q1;simp only[aL];exact⟨SeqAt.RcAt.list_str _ _ p1 hu0,SeqAt.RcNeAt.list_str _ _ p1 hu0,SeqAt.EqAt.list_str _ _ p1 hu0⟩
   | lst q2 s2 =>
    refine ref rfl rfl ?_;simp only[aL];simp only[aX] at c c';exact Ff I hu0 (.inl (sub q1)) (.inl (sub q2)) s1 s2 fun {w z v u p q} m m' r r' rv ru=>(ih hu1 (all_eq_true.mp c _ m) (all_eq_true.mp c' _ m') r r' rv ru).2.2
   | tup q2 s2 =>
    refine ref rfl rfl ?_;simp only[aL];obtain⟨_,p1⟩:=isL q1;obtain⟨_,p2⟩:=isT q2;exact⟨SeqAt.RcAt.list_tuple p1 p2 hu0,SeqAt.RcNeAt.list_tuple p1 p2 hu0⟩
  | tup q1 s1 =>
   cases sh' with
   | non =>
    obtain⟨_,p1⟩:=isT q1;simp only[aL];exact⟨SeqAt.RcAt.tuple_none p1 hu0,SeqAt.RcNeAt.tuple_none p1 hu0,SeqAt.EqAt.tuple_none p1 hu0⟩
   | bl b2 =>
    obtain⟨_,p1⟩:=isT q1;simp only[aL];exact⟨SeqAt.RcAt.tuple_bool _ p1 hu0,SeqAt.RcNeAt.tuple_bool _ p1 hu0,SeqAt.EqAt.tuple_bool _ p1 hu0⟩
   | int i2 t2 =>
    obtain⟨_,p1⟩:=isT q1;simp only[aL];exact⟨SeqAt.RcAt.tuple_int _ _ p1 hu0,SeqAt.RcNeAt.tuple_int _ _ p1 hu0,SeqAt.EqAt.tuple_int _ _ p1 hu0⟩
   | str x2 t2 =>
    obtain⟨_,p1⟩:=isT q1;simp only[aL];exact⟨SeqAt.RcAt.tuple_str _ _ p1 hu0,SeqAt.RcNeAt.tuple_str _ _ p1 hu0,SeqAt.EqAt.tuple_str _ _ p1 hu0⟩
   | lst q2 s2 =>
    refine ref rfl rfl ?_;simp only[aL];obtain⟨_,p1⟩:=isT q1;obtain⟨_,p2⟩:=isL q2;exact⟨SeqAt.RcAt.tuple_list p1 p2 hu0,SeqAt.RcNeAt.tuple_list p1 p2 hu0⟩
   | tup q2 s2 =>
    refine ref rfl rfl ?_;simp only[aL];simp only[aX] at c c';exact DR I hu0 (.inl (sub q1)) (.inl (sub q2)) s1 s2 fun {w z v u p q} m m' r r' rv ru=>(ih hu1 (all_eq_true.mp c _ m) (all_eq_true.mp c' _ m') r r' rv ru).2.2
end
def drf(ce:Ce):W->W
 | .cel k=>match ce[k]? with
  | some (.lst xs)=>.lst xs
  | _=>.cel k
 | w=>w
def bP(ce:Ce):W->Option (List W)
 | .lst xs=>some xs
 | .cel k=>match ce[k]? with
  | some (.lst xs)=>some xs
  | _=>none
 | _=>none
def dg(ce:Ce):W->Option (List W)
 | .tup xs=>some xs
 | w=>bP ce w
def lO(ce:Ce):W->Option (List (Key×W))
 | .cel k=>match ce[k]? with
  | some (.dct xs)=>some xs
  | _=>none
 | _=>none
def je(ce:Ce):W->Option (List (Key×W))
 | .cel k=>match ce[k]? with
  | some (.dct xs)=>some xs
  | some (.fzd xs)=>some xs
  | _=>none
 | _=>none
def hZ:W->Option Key
 | .int i=>some (.inl i)
 | .str x=>some (.inr x)
 | _=>none
theorem aw.toH(S:aw G F as H ce):Le F as H as:=⟨S.sub,fun _ _ h=>h⟩
theorem sj(S:aw G F as H ce)(r:Rep F as w v):Rep H as (drf ce w) v:=by
 cases w with
 | cel k =>
  simp only[drf];split
  ·rename_i xs hc;simp only[Rep] at r ⊢;obtain⟨a,rfl,h⟩:=r;obtain⟨_,vs,h2,rs⟩:=S.cell _ _ _ h hc;exact⟨a,vs,rfl,.inl h2,rs.le S.toH⟩
  ·exact r.le S.toH
 | _=>exact r.le S.toH
theorem g7(S:aw G F as H ce)(r:Rep F as w v)(e:bP ce w=some xs):∃a vs,v=.ref a/\Rd H a (.lst vs)/\ag F as xs vs:=by
 cases w<;>simp only[bP,reduceCtorEq,Option.some.injEq] at e
 ·subst e;simp only[Rep] at r;obtain⟨a,vs,rfl,h,q⟩:=r;exact⟨a,vs,rfl,Rd.sub S h,q⟩
 ·split at e
  ·rename_i xs' hc;cases e;simp only[Rep] at r;obtain⟨a,rfl,h⟩:=r;obtain⟨_,vs,h2,rs⟩:=S.cell _ _ _ h hc;exact⟨a,vs,rfl,.inl h2,rs⟩
  ·cases e
theorem ph(S:aw G F as H ce)(r:Rep F as w v)(e:dg ce w=some xs):∃a vs,v=.ref a/\(Rd H a (.lst vs)\/Rd H a (.tup vs))/\ag F as xs vs:=by
 cases w with
 | tup ys =>
  simp only[dg,Option.some.injEq] at e;subst e;simp only[Rep] at r;obtain⟨a,vs,rfl,h,q⟩:=r;exact⟨a,vs,rfl,.inr (.inl (S.sub _ _ h)),q⟩
 | _ =>
  obtain⟨a,vs,h1,h2,h3⟩:=g7 S r e;exact⟨a,vs,h1,.inl h2,h3⟩
theorem wX{xs:List (Key×W)}(S:aw G F as H ce)(r:Rep F as w v)(e:lO ce w=some xs):∃k a ps,w=.cel k/\v=.ref a/\as[k]?=some a/\H a=some (.dK ps)/\az F as xs ps:=by
 cases w<;>simp only[lO,reduceCtorEq] at e;split at e
 ·rename_i k xs' hc;cases e;simp only[Rep] at r;obtain⟨a,rfl,h⟩:=r;obtain⟨_,ps,h2,rs⟩:=S.cell _ _ _ h hc;exact⟨_,a,ps,rfl,rfl,h,h2,rs⟩
 ·cases e
theorem yk{xs:List (Key×W)}(S:aw G F as H ce)(r:Rep F as w v)(e:je ce w=some xs):∃k a ps,w=.cel k/\v=.ref a/\as[k]?=some a/\Rd H a (.dK ps)/\az F as xs ps:=by
 cases w<;>simp only[je,reduceCtorEq] at e;split at e
 ·rename_i k xs' hc;cases e;simp only[Rep] at r;obtain⟨a,rfl,h⟩:=r;obtain⟨_,ps,h2,rs⟩:=S.cell _ _ _ h hc;exact⟨_,a,ps,rfl,rfl,h,.inl h2,rs⟩
 ·rename_i k xs' hc;cases e;simp only[Rep] at r;obtain⟨a,rfl,h⟩:=r;obtain⟨_,o,ps,_,h2,rs⟩:=S.cell _ _ _ h hc;exact⟨_,a,ps,rfl,rfl,h,.inr ⟨o,h2⟩,rs⟩
 ·cases e
theorem si{k:Key}(r:Rep F as w v)(e:hZ w=some k):v=kV k:=by cases w<;>simp only[hZ,reduceCtorEq,Option.some.injEq] at e<;>subst e<;>simp only[Rep] at r<;>exact r
def oM(ng:Bool):R2:=fun x y H Q=>∃as w z,Rep H as w x/\Rep H as z y/\aX 8 w=true/\aX 8 z=true/\Q (.bl (if ng then !aL w z else aL w z)) H
def uS(K:Frag)(ng:Bool):R2:=fun x y H Q=>∃as w ys a vs,Rep H as w x/\y=.ref a/\(cL K H a vs\/eG K H a vs)/\ag H as ys vs/\aX 8 w=true/\ys.all (aX 8)=true/\Q (.bl (if ng then !ys.any (aL · w) else ys.any (aL · w))) H
variable {K:Frag}
theorem rD(hu:X.A.units+8<cLine):de X (compareOp .Eq) (oM false):=by intro pins s σ H x y v u Q I rx ry ⟨as,w,z,r1,r2,c1,c2,q⟩;exact(qD (fun _ _ h=>h) I 8 hu c1 c2 r1 r2 rx ry).1 X.prog X.w X.xe _ ⟨.bl _,H,I,rfl,q⟩
theorem Cc(hu:X.A.units+8<cLine):de X (compareOp .NotEq) (oM true):=by intro pins s σ H x y v u Q I rx ry ⟨as,w,z,r1,r2,c1,c2,q⟩;exact(qD (fun _ _ h=>h) I 8 hu c1 c2 r1 r2 rx ry).2.1 X.prog X.w X.xe _ ⟨.bl _,H,I,rfl,q⟩
open Classical in
theorem zv{σ:VS.St}{x:V}{u:Value}{ps:List Value}(I:Inv X pins σ H s)(hu:A.units+8<cLine)(rw':Rep H as w x)(c:aX 8 w=true)(cs:ys.all (aX 8)=true)(ru:L2.RelV x u)(rs:ag H as ys vs)(rp:Vals vs ps):∃e:Value->Bool,(∀y,y∈ps.toArray->SeqAt.EqAt A s y u (e y))/\ps.toArray.any e=ys.any (aL · w):=by
 have hl:=rs.length;have hl2:=rp.length;have key:∀{j:Nat} {p:Value},ps[j]?=some p->∃y v,ys[j]?=some y/\Rep H as y v/\L2.RelV v p/\aX 8 y=true:=fun {j p} hp=>by
  have hj:=dJ hp;have e1:vs[j]?=some (vs[j]'(by omega)):=by simp
  obtain⟨q,hq,rq⟩:=rp.get e1;rw[hp] at hq;cases hq;obtain⟨y,hy,ry⟩:=rs.get' e1;exact⟨y,_,hy,ry,rq,all_eq_true.mp cs _ (mem_of_getElem? hy)⟩
 have uniq:∀{j j':Nat} {p:Value} {y y':W},ps[j]?=some p->ps[j']?=some p->ys[j]?=some y->ys[j']?=some y'->y=y':=fun {j j' p y y'} h1 h2 h3 h4=>by
  obtain⟨z,v,hz,rz,rv,cz⟩:=key h1;obtain⟨z',v',hz',rz',rv',cz'⟩:=key h2;rw[h3] at hz;cases hz;rw[h4] at hz';cases hz';cases rv.inj rv';exact xB 8 cz cz' rz rz'
 refine⟨fun p=>decide (∃(j:Nat) (y:W),ps[j]?=some p/\ys[j]?=some y/\aL y w=true),fun p hp=>?_,?_⟩
 ·have hp':p∈ps:=by simpa using hp
  obtain⟨j,hj⟩:=getElem?_of_mem hp';obtain⟨y,v,hy,ry,rv,cy⟩:=key hj;have q:=(qD (fun _ _ h=>h) I 8 hu cy c ry rw' rv ru).2.2;have e:decide (∃(j:Nat) (y:W),ps[j]?=some p/\ys[j]?=some y/\aL y w=true)=aL y w:=by
   rw[Bool.eq_iff_iff,decide_eq_true_iff];constructor
   ·rintro⟨j',y',h1,h2,h3⟩;rw[uniq hj h1 hy h2];exact h3
   ·intro h;exact⟨j,y,hj,hy,h⟩
  show SeqAt.EqAt A s p u (decide (∃(j:Nat) (y:W),ps[j]?=some p/\ys[j]?=some y/\aL y w=true));rw[e];exact q
 ·rw[Bool.eq_iff_iff,any_eq_true',any_eq_true];constructor
  ·rintro⟨p,_,hp⟩;obtain⟨j,y,h1,h2,h3⟩:=of_decide_eq_true hp;exact⟨y,mem_of_getElem? h2,h3⟩
  ·rintro⟨y,hy,h⟩;obtain⟨j,hj⟩:=getElem?_of_mem hy;have hlt:=dJ hj;have e1:ps[j]?=some (ps[j]'(by omega)):=by simp
   refine⟨ps[j]'(by omega),by simp,decide_eq_true ⟨j,y,e1,hj,h⟩⟩
theorem GS(hu:X.A.units+9<cLine)(hK:X.K=K:=by rfl):de X (compareOp .NotIn) (uS K true):=by
 subst hK;intro pins s σ H x y v u Q I rx ry ⟨as,w,ys,a,vs,r1,ey,sq,rs,c1,c2,q⟩;subst ey;cases ry;rcases sq with sq|sq
 ·obtain⟨ps,rp,pl,_⟩:=I.list sq;obtain⟨e,he,ea⟩:=zv (A:=X.A.in1) I (by show X.A.units+1+8<cLine;omega) r1 c1 c2 rx rs rp;exact SeqAt.notIn_listAt e pl.isList he ⟨.bl _,H,I,rfl,by rw[ea];exact q⟩
 ·obtain⟨ps,rp,pl,_⟩:=I.tuple sq;obtain⟨e,he,ea⟩:=zv (A:=X.A.in1) I (by show X.A.units+1+8<cLine;omega) r1 c1 c2 rx rs rp;exact SeqAt.notIn_tupleAt e pl he ⟨.bl _,H,I,rfl,by rw[ea];exact q⟩
def bo(ng:Bool)(ce:Ce)(x y:W):Option W:=if (aX 8 (drf ce x)&&aX 8 (drf ce y))=true then some (.bl (if ng then !aL (drf ce x) (drf ce y) else aL (drf ce x) (drf ce y))) else none
def kB(ng:Bool)(ce:Ce)(x y:W):Option W:=match dg ce y with
 | some ys=>if (aX 8 (drf ce x)&&ys.all (aX 8))=true then some (.bl (if ng then !ys.any (aL · (drf ce x)) else ys.any (aL · (drf ce x)))) else none
 | none=>none
def aE(f:Ce->W->W->Option W)(a b:Sl->M W):Sl->M W:=fun sl=>au (a sl) fun x=>au (b sl) fun y=>look fun ce=>f ce x y
section
variable {a c:Expr}
def jC(r:R2)(f:Ce->W->W->Option W):Prop:=∀(G:Ga) F as H ce x y wx wy w,aw G F as H ce->Rep F as wx x->Rep F as wy y->f ce wx wy=some w->∀Q:VK,(∀v,Rep F as w v->Q v H)->r x y H Q
theorem iP{r:R2}{f:Ce->W->W->Option W}(hf:jC r f)(σ:L2.St)(H:Hp)(Q:VK)(h:ar G E (aE f da db) σ H Q):lA r (ar G E da) (ar G E db) σ H Q:=by refine o_ h fun F as sl ce H2 x y wx wy S rx ry P=>?_;obtain⟨w,e,P⟩:=jw P;exact hf G F as H2 ce x y wx wy w S.st rx ry e Q fun v r=>P.done S r
theorem rA(ng:Bool):jC (oM ng) (bo ng):=by
 intro G F as H ce x y wx wy w S rx ry e Q q;unfold bo at e;split at e
 ·rename_i hc;rw[and_eq_true] at hc;cases e;exact⟨as,_,_,sj S rx,sj S ry,hc.1,hc.2,q _ (by simp only[Rep])⟩
 ·cases e
theorem Cb(K:Frag)(ng:Bool):jC (uS K ng) (kB ng):=by
 intro G F as H ce x y wx wy w S rx ry e Q q;unfold kB at e;split at e
 ·rename_i ys hy;split at e
  ·rename_i hc;rw[and_eq_true] at hc;cases e;obtain⟨a,vs,rfl,h,rs⟩:=ph S ry hy;exact⟨as,_,ys,a,vs,sj S rx,rfl,h.imp .inl .inl,rs.le S.toH,hc.1,hc.2,q _ (by simp only[Rep])⟩
  ·cases e
 ·cases e
theorem oS(hu:X.A.units+8<cLine)(ha:PE X a (ar G E da))(hb:PE X b (ar G E db)):PE X (.Compare a [.Eq] [b] pos) (ar G E (aE (bo false) da db)):=PE.imp (xu (rD hu) ha hb (ip _)) (iP (rA false))
theorem jg(hu:X.A.units+8<cLine)(ha:PE X a (ar G E da))(hb:PE X b (ar G E db)):PT X (.Compare a [.Eq] [b] pos) (bW G E (dB (aE (bo false) da db))):=jP (rD hu) ha hb (ip _) (iP (rA false))
theorem kd(hu:X.A.units+8<cLine)(ha:PE X a (ar G E da))(hb:PE X b (ar G E db)):PT X (.Compare a [.NotEq] [b] pos) (bW G E (dB (aE (bo true) da db))):=jP (Cc hu) ha hb (ip _) (iP (rA true))
theorem Fe(hu:X.A.units+9<cLine)(ha:PE X a (ar G E da))(hb:PE X b (ar G E db))(hm:behindInMarks .NotIn b=false):PT X (.Compare a [.NotIn] [b] pos) (bW G E (dB (aE (kB true) da db))):=jP (GS hu rfl) ha hb hm (iP (Cb _ true))
theorem kS{r:R2}(hf:lH r f):jC r (fun _=>f):=by intro G F as H ce x y wx wy w S rx ry e Q q;obtain⟨vx,vy,vw,e1,e2,e3,k⟩:=hf _ _ _ e;rw[rx.sc e1,ry.sc e2];exact k _ _ (q _ (Rep.of_sc e3))
theorem vb(ha:PE X a (ar G E da))(hb:PE X b (ar G E db)):PT X (.Compare a [.Lt] [b] pos) (bW G E (dB (aJ lF da db))):=jP A2 ha hb (ip _) (iP (kS (ke fun _ _=>rfl)))
theorem qH(ha:PE X a (ar G E da))(hb:PE X b (ar G E db)):PT X (.Compare a [.Gt] [b] pos) (bW G E (dB (aJ iC da db))):=jP vh ha hb (ip _) (iP (kS (ke fun _ _=>rfl)))
theorem Bh(ha:PE X a (ar G E da))(hb:PE X b (ar G E db)):PT X (.Compare a [.GtE] [b] pos) (bW G E (dB (aJ uw da db))):=jP A1 ha hb (ip _) (iP (kS (ke fun _ _=>rfl)))
theorem rn{j pos'}(ha:PE X a (ar G E da)):PT X (.Compare a [.Is] [.Constant .none j pos'] pos) (bW G E (dB (dM lP da))) :=
 qI ⟨_,vM ha,fun σ H Q zz_=>bu zz_ fun F as sl ce S P=>(step S P).mono fun x H1 zz_=>aZ zz_ fun wx F1 as1 ce1 l1 S1 rx P1=>aG.done S1 (a:=W.bl _) P1 (by simp only[Rep];rw[rx.isN])⟩ (ip _)
theorem pf{j pos'}(ha:PE X a (ar G E da)):PT X (.Compare a [.IsNot] [.Constant .none j pos'] pos) (bW G E (dB (dM fQ da))) :=
 qI ⟨_,ER ha,fun σ H Q zz_=>bu zz_ fun F as sl ce S P=>(step S P).mono fun x H1 zz_=>aZ zz_ fun wx F1 as1 ce1 l1 S1 rx P1=>aG.done S1 (a:=W.bl _) P1 (by simp only[Rep];rw[rx.isN])⟩ (ip _)
def kI(a b:Sl->M W):Sl->M W:=fun sl=>au (a sl) fun x=>match x with
 | .bl true=>b sl
 | .bl false=>ret (.bl false)
 | _=>jQ
def oA(a b:Sl->M W):Sl->M W:=fun sl=>au (a sl) fun x=>match x with
 | .bl true=>ret (.bl true)
 | .bl false=>b sl
 | _=>jQ
def uR(a:Sl->M W):Sl->M W:=fun sl=>au (a sl) fun x=>match x with
 | .bl b=>ret (.bl (!b))
 | _=>jQ
def gW(a b:Sl->M Bool):Sl->M Bool:=fun sl=>au (a sl) fun x=>match x with
 | true=>b sl
 | false=>ret false
def jd(a b:Sl->M Bool):Sl->M Bool:=fun sl=>au (a sl) fun x=>match x with
 | true=>ret true
 | false=>b sl
def gD(a:Sl->M Bool):Sl->M Bool:=fun sl=>au (a sl) fun x=>ret (!x)
def m_(c:Sl->M Bool)(a b:Sl->M W):Sl->M W:=fun sl=>au (c sl) fun x=>match x with
 | true=>a sl
 | false=>b sl
variable {rest:List Expr} {ta tb:Sl->M Bool}
theorem o9{op}(h:PE X a (ar G E da)):PE X (.BoolOp op [a] pos) (ar G E da):=Dp h
theorem rj(ha:PE X a (ar G E da))(hb:PE X (.BoolOp .And (b::rest) pos) (ar G E db)):PE X (.BoolOp .And (a::b::rest) pos) (ar G E (kI da db)):=by
 refine PE.imp (Dn ha hb) fun σ H Q zz_=>bu zz_ fun F as sl ce S P=>(step S P).mono fun x H1 zz_=>aZ zz_ fun wx F1 as1 ce1 l1 S1 rx P1=>?_;cases wx<;>first|exact(show False from P1).elim|skip
 rename_i k;simp only[Rep] at rx;subst rx;cases k
 ·exact⟨false,rfl,by rw[if_neg Bool.false_ne_true];exact aG.done S1 (a:=W.bl false) P1 (by simp only[Rep])⟩
 ·exact⟨true,rfl,by rw[if_pos rfl];exact⟨F1,as1,sl,ce1,S1,P1⟩⟩
theorem Bg(ha:PE X a (ar G E da))(hb:PE X (.BoolOp .Or (b::rest) pos) (ar G E db)):PE X (.BoolOp .Or (a::b::rest) pos) (ar G E (oA da db)):=by
 refine PE.imp (B2 ha hb) fun σ H Q zz_=>bu zz_ fun F as sl ce S P=>(step S P).mono fun x H1 zz_=>aZ zz_ fun wx F1 as1 ce1 l1 S1 rx P1=>?_;cases wx<;>first|exact(show False from P1).elim|skip
 rename_i k;simp only[Rep] at rx;subst rx;cases k
 ·exact⟨false,rfl,by rw[if_neg Bool.false_ne_true];exact⟨F1,as1,sl,ce1,S1,P1⟩⟩
 ·exact⟨true,rfl,by rw[if_pos rfl];exact aG.done S1 (a:=W.bl true) P1 (by simp only[Rep])⟩
theorem Ca(ha:PE X a (ar G E da)):PE X (.UnaryOp .Not a pos) (ar G E (uR da)):=by
 refine PE.imp (Dm ha) fun σ H Q zz_=>bu zz_ fun F as sl ce S P=>(step S P).mono fun x H1 zz_=>aZ zz_ fun wx F1 as1 ce1 l1 S1 rx P1=>?_;cases wx<;>first|exact(show False from P1).elim|skip
 rename_i k;simp only[Rep] at rx;subst rx;exact⟨k,rfl,aG.done S1 (a:=W.bl (!k)) P1 (by simp only[Rep])⟩
theorem lb(ha:PT X a (bW G E ta)):PW X (.BoolOp .And [a] pos) (bW G E ta):=EO ha
theorem nI(ha:PT X a (bW G E ta)):PW X (.BoolOp .Or [a] pos) (bW G E ta):=Ds ha
theorem kn(ha:PT X a (bW G E ta))(hb:PW X (.BoolOp .And (b::rest) pos) (bW G E tb)):PW X (.BoolOp .And (a::b::rest) pos) (bW G E (gW ta tb)):=by
 refine PW.imp (Dr ha hb) fun σ H Q zz_=>bu zz_ fun F as sl ce S P=>(step (RP:=rB) S P).mono fun x H1 zz_=>aZ zz_ fun wx F1 as1 ce1 l1 S1 rx P1=>?_;have rx:wx=x:=rx;subst rx;cases wx
 ·rw[if_neg Bool.false_ne_true];exact aG.done (RP:=rB) S1 (a:=false) P1 rfl
 ·rw[if_pos rfl];exact⟨F1,as1,sl,ce1,S1,P1⟩
theorem ny(ha:PT X a (bW G E ta))(hb:PW X (.BoolOp .Or (b::rest) pos) (bW G E tb)):PW X (.BoolOp .Or (a::b::rest) pos) (bW G E (jd ta tb)):=by
 refine PW.imp (B5 ha hb) fun σ H Q zz_=>bu zz_ fun F as sl ce S P=>(step (RP:=rB) S P).mono fun x H1 zz_=>aZ zz_ fun wx F1 as1 ce1 l1 S1 rx P1=>?_;have rx:wx=x:=rx;subst rx;cases wx
 ·rw[if_neg Bool.false_ne_true];exact⟨F1,as1,sl,ce1,S1,P1⟩
 ·rw[if_pos rfl];exact aG.done (RP:=rB) S1 (a:=true) P1 rfl
theorem kR(ha:PT X a (bW G E ta)):PT X (.UnaryOp .Not a pos) (bW G E (gD ta)):=by refine PT.imp (Dq ha) fun σ H Q zz_=>bu zz_ fun F as sl ce S P=>(step (RP:=rB) S P).mono fun x H1 zz_=>aZ zz_ fun wx F1 as1 ce1 l1 S1 rx P1=>?_;have rx:wx=x:=rx;subst rx;exact aG.done (RP:=rB) S1 (a:=!wx) P1 rfl
theorem B_{c:Expr}(hc:PT X c (bW G E ta))(ha:PE X a (ar G E da))(hb:PE X b (ar G E db)):PE X (.IfExp c a b pos) (ar G E (m_ ta da db)):=by
 refine PE.imp (Gs hc ha hb) fun σ H Q zz_=>bu zz_ fun F as sl ce S P=>(step (RP:=rB) S P).mono fun x H1 zz_=>aZ zz_ fun wx F1 as1 ce1 l1 S1 rx P1=>?_;have rx:wx=x:=rx;subst rx;cases wx
 ·rw[if_neg Bool.false_ne_true];exact⟨F1,as1,sl,ce1,S1,P1⟩
 ·rw[if_pos rfl];exact⟨F1,as1,sl,ce1,S1,P1⟩
def nO(f g:Ce->W->W->Option W)(a b c:Sl->M W):Sl->M W:=fun sl=>au (a sl) fun x=>au (b sl) fun y=>au (look fun ce=>f ce x y) fun t=>match t with
 | .bl true=>au (c sl) fun z=>look fun ce=>g ce y z
 | .bl false=>ret (.bl false)
 | _=>jQ
theorem GR{r r':R2}{f g:Ce->W->W->Option W}(hf:jC r f)(hg:jC r' g)(σ:L2.St)(H:Hp)(Q:VK)(h:ar G E (nO f g da db dc) σ H Q):vK r r' (ar G E da) (ar G E db) (ar G E dc) σ H Q:=by
 obtain⟨F,as,sl,ce,S,P⟩:=h;refine(step S P).mono fun x H1 zz_=>aZ zz_ fun wx F1 as1 ce1 l1 S1 rx P1=>(step S1 P1).mono fun y H2 zz_=>aZ zz_ fun wy F2 as2 ce2 l2 S2 ry P2=>?_;have e:∃w,f ce2 wx wy=some w/\aG G E Rep F2 as2 σ sl Q ((match w with|.bl true=>au (dc sl) fun z=>look fun ce=>g ce wy z|.bl false=>ret (.bl false)|_=>jQ:M W) ce2):=by
  revert P2;simp only[au,look];cases f ce2 wx wy with
  | none=>exact fun P=>P.elim
  | some w=>exact fun P=>⟨w,rfl,P⟩
 obtain⟨w,e,P3⟩:=e;refine hf G F2 as2 H2 ce2 x y wx wy w S2.st (rx.le l2) ry e _ fun v rv=>?_;cases w<;>first|exact(show False from P3).elim|skip
 rename_i k;simp only[Rep] at rv;subst rv;refine⟨k,rfl,?_⟩;cases k
 ·rw[if_neg Bool.false_ne_true];exact aG.done S2 (a:=W.bl false) P3 (by simp only[Rep])
 ·rw[if_pos rfl];refine(step S2 P3).mono fun z H3 zz_=>aZ zz_ fun wz F3 as3 ce3 l3 S3 rz P4=>?_;obtain⟨w',e',P4⟩:=jw P4;exact hg G F3 as3 H3 ce3 y z wy wz w' S3.st (ry.le l3) rz e' Q fun v r=>P4.done S3 r
theorem Fd{op':CmpOp}{r r':R2}{f g:Ce->W->W->Option W}(ho:de X (compareOp op) r)(ho':de X (compareOp op') r')(hf:jC r f)(hg:jC r' g)(ha:PE X a (ar G E da))(hb:PE X b (ar G E db))(hc:PE X c (ar G E dc))(hm:lastMarks [op,op'] [b,c]=false:=by with_unfolding_all rfl):PE X (.Compare a [op,op'] [b,c] pos) (ar G E (nO f g da db dc)):=PE.imp (GL ho ho' ha hb hc hm) (GR hf hg)
end
def ai:Sl->M (List W):=fun _=>ret []
def ah(a:Sl->M W)(r:Sl->M (List W)):Sl->M (List W):=fun sl=>au (a sl) fun x=>au (r sl) fun xs=>ret (x::xs)
open Classical in
def g9(w:W)(n:Nat):M W:=fun ce=>if n<=sizeLine then some (.ok w ce) else none
open Classical in
def iV(c:C)(n:Nat):M W:=fun ce=>if n<=sizeLine then some (.ok (.cel ce.length) (ce++[c])) else none
def eo(r:Sl->M (List W)):Sl->M W:=fun sl=>au (r sl) fun xs=>g9 (.tup xs) xs.length
def c6(r:Sl->M (List W)):Sl->M W:=fun sl=>au (r sl) fun xs=>g9 (.lst xs) xs.length
def dZ(r:Sl->M (List W)):Sl->M W:=fun sl=>au (r sl) fun xs=>iV (.lst xs) xs.length
variable {es:List Expr} {dr:Sl->M (List W)}
section
variable {σ:VS.St}
theorem av:PA X [] (fv G E ai):=PA.imp o7 fun σ H Q zz_=>bu zz_ fun F as sl ce S P=>aG.done (RP:=ag) S (a:=[]) P ag.nil
theorem aj(ha:PE X e (ar G E da))(hr:PA X es (fv G E dr))(hs:starEach (e::es) X.env=(false,eval e X.env)::starEach es X.env:=by rfl):PA X (e::es) (fv G E (ah da dr)):=by refine PA.imp (nV ha hr hs) fun σ H Q zz_=>bu zz_ fun F as sl ce S P=>(step S P).mono fun x H1 zz_=>aZ zz_ fun wx F1 as1 ce1 l1 S1 rx P1=>(step (RP:=ag) S1 P1).mono fun y H2 zz_=>aZ zz_ fun wy F2 as2 ce2 l2 S2 ry P2=>?_;exact aG.done (RP:=ag) S2 (a:=wx::wy) P2 (.cons (rx.le l2) ry)
theorem sg(S:SR G F as H σ sl ce)(rs:ag F as xs vs)(P:aG G E Rep F as σ sl Q (g9 (.lst xs) n ce)):n<=sizeLine/\∀p,H p=none->Q (.ref p) (upd H p (.lst vs)):=by
 revert P;unfold g9;split
 ·rename_i h;intro P;refine⟨h,fun p hp=>?_⟩;obtain⟨S',l⟩:=S.st.freeze (o:=.lst vs) hp;exact P _ _ _ _ l (S.slots S' l) (by simp only[Rep];exact⟨p,vs,rfl,.inl ak,rs.le l⟩)
 ·exact fun P=>P.elim
theorem wW(S:SR G F as H σ sl ce)(rs:ag F as xs vs)(P:aG G E Rep F as σ sl Q (g9 (.tup xs) n ce)):n<=sizeLine/\∀p,H p=none->Q (.ref p) (upd H p (.tup vs)):=by
 revert P;unfold g9;split
 ·rename_i h;intro P;refine⟨h,fun p hp=>?_⟩;obtain⟨S',l⟩:=S.st.freeze (o:=.tup vs) hp;exact P _ _ _ _ l (S.slots S' l) (by simp only[Rep];exact⟨p,vs,rfl,ak,rs.le l⟩)
 ·exact fun P=>P.elim
theorem wV{c:C}(S:SR G F as H σ sl ce)(hc:∀p as',Le F as F as'->cS G F as' (upd H p o) p c)(P:aG G E Rep F as σ sl Q (iV c n ce)):n<=sizeLine/\∀p,H p=none->Q (.ref p) (upd H p o):=by
 revert P;unfold iV;split
 ·rename_i h;intro P;refine⟨h,fun p hp=>?_⟩;obtain⟨S',l⟩:=S.st.alloc (c:=c) hp (hc p);exact P _ _ _ _ l (S.slots S' l) (by simp only[Rep];exact⟨p,rfl,by rw[<- S.st.len];simp⟩)
 ·exact fun P=>P.elim
theorem wU(S:SR G F as H σ sl ce)(rs:ag F as xs vs)(P:aG G E Rep F as σ sl Q (iV (.lst xs) n ce)):n<=sizeLine/\∀p,H p=none->Q (.ref p) (upd H p (.lst vs)) :=
 wV (c:=.lst xs) S (fun p as' l=>⟨vs,ak,rs.le l⟩) P
theorem il{x1}(h:PA X es (fv G E dr)):PE X (.Tuple es x1 pos) (ar G E (eo dr)):=by refine PE.imp (vJ h) fun σ H Q zz_=>bu zz_ fun F as sl ce S P=>(step (RP:=ag) S P).mono fun x H1 zz_=>aZ zz_ fun wx F1 as1 ce1 l1 S1 rx P1=>?_;have:=wW S1 rx P1;rwa [<- ag.length rx] at this
theorem fE(h:PA X es (fv G E dr)):PE X (.List es pos) (ar G E (c6 dr)):=by refine PE.imp (rS h) fun σ H Q zz_=>bu zz_ fun F as sl ce S P=>(step (RP:=ag) S P).mono fun x H1 zz_=>aZ zz_ fun wx F1 as1 ce1 l1 S1 rx P1=>?_;have:=sg S1 rx P1;rwa [<- ag.length rx] at this
theorem g6(h:PA X es (fv G E dr)):PE X (.List es pos) (ar G E (dZ dr)):=by refine PE.imp (rS h) fun σ H Q zz_=>bu zz_ fun F as sl ce S P=>(step (RP:=ag) S P).mono fun x H1 zz_=>aZ zz_ fun wx F1 as1 ce1 l1 S1 rx P1=>?_;have:=wU S1 rx P1;rwa [<- ag.length rx] at this
def jO:Sl->M W:=fun _=>iV (.dct []) 0
theorem nU:PE X (.Dict [] [] pos) (ar G E jO):=by refine PE.imp Fh fun σ H Q zz_=>bu zz_ fun F as sl ce S P=>?_;exact(wV (c:=.dct []) (o:=.dK []) S (fun p as' l=>⟨[],ak,.nil⟩) P).2
end
def gR(kvs:List (Key×W))(k:Key):Option W:=(kvs.find? fun kv=>decide (kv.1=k)).map (·.2)
def gQ(kvs:List (Key×W))(k:Key)(v:W):List (Key×W) :=
 if (kvs.any fun kv=>decide (kv.1=k))=true then kvs.map (fun kv=>if kv.1=k then (kv.1,v) else kv) else kvs++[(k,v)]
variable {ps:List (Key×V)}
section
variable {kvs:List (Key×W)}
theorem az.val(r:az F as kvs ps)(k:Key):(gR kvs k=none/\gL ps k=none)\/∃w v,gR kvs k=some w/\gL ps k=some v/\Rep F as w v:=by
 induction r with
 | nil=>exact .inl ⟨rfl,rfl⟩
 | @cons p q l1 l2 h t ih =>
  obtain⟨e,rv⟩:=h
  by_cases hk:p.1=k
  ·refine .inr ⟨p.2,q.2,?_,pL (by rw[<- e];exact hk),rv⟩;simp[gR,find?_cons,hk]
  ·have e1:gR (p::l1) k=gR l1 k:=by simp only[gR,find?_cons,hk,decide_false]
   rw[e1,pK (by rw[<- e];exact hk)];exact ih
theorem az.any(r:az F as kvs ps)(k:Key):(kvs.any fun kv=>decide (kv.1=k))=(ps.any fun kv=>decide (kv.1=k)):=by
 induction r with
 | nil=>rfl
 | cons h t ih=>rw[any_cons,any_cons,ih,h.1]
theorem az.mapPut(k:Key)(rv:Rep F as w v)(r:az F as kvs ps):az F as (kvs.map fun kv=>if kv.1=k then (kv.1,w) else kv) (ps.map fun kv=>if kv.1=k then (kv.1,v) else kv):=by
 induction r with
 | nil=>exact .nil
 | @cons p q l1 l2 h t ih =>
  rw[map_cons,map_cons];refine .cons ?_ ih
  by_cases hk:p.1=k
  ·rw[if_pos hk,if_pos (by rw[<- h.1];exact hk)];exact⟨h.1,rv⟩
  ·rw[if_neg hk,if_neg (by rw[<- h.1];exact hk)];exact h
theorem az.put(r:az F as kvs ps)(k:Key)(rv:Rep F as w v):az F as (gQ kvs k w) (fo ps k v):=by
 unfold gQ fo;rw[r.any k];split
 ·exact r.mapPut k rv
 ·exact Paired.app r (.cons ⟨rfl,rv⟩ .nil)
theorem az.length(r:az F as kvs ps):kvs.length=ps.length:=Paired.length r
end
def kb(ng:Bool)(ce:Ce)(x y:W):Option W:=match hZ x,lO ce y with
 | some k,some kvs=>some (.bl (if ng then !(gR kvs k).isSome else (gR kvs k).isSome))
 | _,_=>none
variable {mk:List W->M W}
section
variable {a c:Expr}
theorem DP(ng:Bool)(σ:L2.St)(H:Hp)(Q:VK)(h:ar G E (aE (kb ng) da db) σ H Q) :
  ar G E da σ H fun y H1=>ar G E db σ H1 fun x H2=>∃a o,x=.ref a/\hJ H2 a y o/\Q (.bl (if ng then !o.isSome else o.isSome)) H2:=by
 obtain⟨F,as,sl,ce,S,P⟩:=h;refine(step S P).mono fun x H1 zz_=>aZ zz_ fun wx F1 as1 ce1 l1 S1 rx P1=>(step S1 P1).mono fun y H2 zz_=>aZ zz_ fun wy F2 as2 ce2 l2 S2 ry P2=>?_;obtain⟨w,e,P3⟩:=jw P2;unfold kb at e;split at e
 ·rename_i k kvs hk hd;cases e;obtain⟨n,a,ps,rfl,rfl,ha,hH,rk⟩:=wX S2.st ry hd;rw[si rx hk];refine⟨a,_,rfl,hJ.kz hH,?_⟩;rcases rk.val k with ⟨e1,e2⟩|⟨w,v,e1,e2,_⟩
  ·rw[e1] at P3;rw[e2];exact P3.done S2 (by simp only[Rep];cases ng<;>rfl)
  ·rw[e1] at P3;rw[e2];exact P3.done S2 (by simp only[Rep];cases ng<;>rfl)
 ·cases e
theorem yP(hu:X.A.units+1<cLine)(ha:PE X a (ar G E da))(hb:PE X b (ar G E db))(h1:behindInMarks .NotIn b=false):PT X (.Compare a [.NotIn] [b] pos) (bW G E (dB (aE (kb true) da db))):=qI ⟨_,HF hu ha hb,DP true⟩ h1
def aB(ce:Ce)(x y:W):Option W:=match dg ce x,y with
 | some xs,.int i=>atI xs i
 | _,_=>none
theorem ag.atI{F:Hp}{as:List Addr}{ws:List W}{vs:List V}{i:Int}{w:W}(r:ag F as ws vs)(h:L2.atI ws i=some w):∃v,L2.atI vs i=some v/\Rep F as w v:=by
 unfold L2.atI at h ⊢;rw[r.length];cases e:gq ws.length i with
 | none=>rw[e] at h;cases h
 | some j=>rw[e] at h;exact r.get h
theorem B9(K:Frag):jC (fun x y H Q=>qt K x y H Q\/qr K x y H Q) aB:=by
 intro G F as H ce x y wx wy w S rx ry e Q q;unfold aB at e;split at e
 ·rename_i xs i hs;obtain⟨a,vs,rfl,h,rs⟩:=ph S rx hs;obtain⟨v,hv,rv⟩:=rs.atI e;simp only[Rep] at ry;subst ry;rcases h with h|h
  ·exact .inl ⟨a,vs,i,v,rfl,rfl,.inl h,hv,q _ rv⟩
  ·exact .inr ⟨a,vs,i,v,rfl,rfl,.inl h,hv,q _ rv⟩
 ·cases e
theorem aW(ha:PE X a (ar G E da))(hb:PE X b (ar G E db))(hs:xn b):PE X (.Subscript a b pos) (ar G E (aE aB da db)):=PE.imp (AU (jE.or (Jo X.K rfl) (Jn X.K rfl)) ha hb hs) (iP (B9 _))
def ft:Sl->M (Option Int):=fun _=>ret none
def dP(d:Sl->M W):Sl->M (Option Int):=fun sl=>au (d sl) fun w=>match w with
 | .int i=>ret (some i)
 | _=>jQ
def rO:Hp->List Addr->Option Int->Option Int->Prop:=fun _ _ a b=>a=b
abbrev oK(G:Ga)(E:XK)(d:Sl->M (Option Int)):TO:=toT G E rO d
theorem PO.imp{e:Option Expr}{t t':TO}(h:PO X e t)(q:∀σ H Q,t' σ H Q->t σ H Q):PO X e t':=fun pins s σ H Q I z=>h pins s σ H Q I (q _ _ _ z)
theorem nS:PO X none (oK G E ft):=PO.imp D_ fun σ H Q zz_=>bu zz_ fun F as sl ce S P=>aG.done (RP:=rO) S (a:=none) P rfl
theorem la(h:PE X a (ar G E da)):PO X (some a) (oK G E (dP da)):=by
 refine PO.imp (D9 h) fun σ H Q zz_=>bu zz_ fun F as sl ce S P=>(step S P).mono fun x H1 zz_=>aZ zz_ fun wx F1 as1 ce1 l1 S1 rx P1=>?_;cases wx<;>first|exact(show False from P1).elim|skip
 simp only[Rep] at rx;exact⟨_,rx,aG.done (RP:=rO) S1 (a:=some _) P1 rfl⟩
def jc(xs:List W)(lo hi:Option Int):List W:=(xs.drop (HT.sIx xs.length 0 lo)).take (HT.sIx xs.length xs.length hi-HT.sIx xs.length 0 lo)
theorem ag.cut(r:ag F as ws vs)(lo hi:Option Int):ag F as (jc ws lo hi) (lK vs lo hi):=by unfold jc lK;rw[r.length];exact(r.drop _).take _
def oo(mk:List W->M W)(x:W)(lo hi:Option Int):M W:=fun ce=>match bP ce x with
 | some xs=>mk (jc xs lo hi) ce
 | none=>none
def aQ(xs:List W):M W:=g9 (.lst xs) xs.length
def eI(xs:List W):M W:=iV (.lst xs) xs.length
def qB(xs:List W):M W:=g9 (.tup xs) xs.length
def eV(mk:List W->M W)(d:Sl->M W)(l h:Sl->M (Option Int)):Sl->M W:=fun sl=>au (d sl) fun x=>au (l sl) fun lo=>au (h sl) fun hi=>oo mk x lo hi
def jD(G:Ga)(E:XK)(mk:List W->M W):Prop:=∀{F:Hp} {as:List Addr} {H:Hp} {σ:VS.St} {sl:Sl} {ce:Ce} {Q:VK} {xs:List W} {vs:List V},SR G F as H σ sl ce->ag F as xs vs->aG G E Rep F as σ sl Q (mk xs ce)->xs.length<=sizeLine/\∀p,H p=none->Q (.ref p) (upd H p (.lst vs))
theorem cE:jD G E aQ:=fun S rs P=>sg S rs P
theorem jb:jD G E eI:=fun S rs P=>wU S rs P
theorem me{lo hi:Option Expr}{dl dh:Sl->M (Option Int)}{p2:Pos}(hm:jD G E mk)(he:PE X a (ar G E da))(hl:PO X lo (oK G E dl))(hu:PO X hi (oK G E dh)):PE X (.Subscript a (.Slice lo hi none p2) pos) (ar G E (eV mk da dl dh)):=by
 refine PE.imp (GD (L2.slL X.K) he hl hu) fun σ H Q zz_=>bu zz_ fun F as sl ce S P=>(step S P).mono fun x H1 zz_=>aZ zz_ fun wx F1 as1 ce1 l1 S1 rx P1=>(step (RP:=rO) S1 P1).mono fun y H2 zz_=>aZ zz_ fun wy F2 as2 ce2 l2 S2 ry P2=>(step (RP:=rO) S2 P2).mono fun z H3 zz_=>aZ zz_ fun wz F3 as3 ce3 l3 S3 rz P3=>?_;have ry:wy=y:=ry;have rz:wz=z:=rz;subst ry rz;unfold oo at P3;cases e:bP ce3 wx with
 | none=>rw[e] at P3;exact(show False from P3).elim
 | some xs =>
  rw[e] at P3;obtain⟨p,vs,rfl,h,rs⟩:=g7 S3.st ((rx.le l2).le l3) e;exact⟨p,vs,rfl,.inl h,(hm S3 (rs.cut wy wz) P3).2⟩
open Classical in
def qA(mk:List W->M W)(x y:W):M W:=fun ce=>match bP ce x,bP ce y with
 | some xs,some ys=>if xs.length+ys.length<=sizeLine then mk (xs++ys) ce else none
 | _,_=>none
def fN(mk:List W->M W)(a b:Sl->M W):Sl->M W:=fun sl=>au (a sl) fun x=>au (b sl) fun y=>qA mk x y
def Bf:R2:=fun x y H Q=>∃l b xs zs,x=.ref l/\y=.ref b/\Rd H l (.lst xs)/\Rd H b (.lst zs)/\xs.length+zs.length<=sizeLine/\∀p,H p=none->Q (.ref p) (upd H p (.lst (xs++zs)))
theorem Inv.lstR{σ:VS.St}{l:Addr}{xs:List V}(I:Inv X pins σ H s)(hH:Rd H l (.lst xs)):xs.length<=sizeLine/\∃(its:List Value) (n:Nat),Vals xs its/\xs.length=its.length/\s.heap.get? l=some { cls:=.type "list",data:=.seq its.toArray n }:=by obtain⟨z,its,n,r,e⟩:=hH.ok I.hok;exact⟨z,its,n,r,r.length,e⟩
theorem DO:de X (binaryOp .Add) Bf:=by
 intro pins s σ H x y v u Q I rx ry h;obtain⟨l,b,xs,zs,rfl,rfl,hH,hB,hz,q⟩:=h;cases rx;cases ry;obtain⟨z,its,n,r,hl,e⟩:=Inv.lstR I hH;obtain⟨z2,its2,n2,r2,hl2,e2⟩:=Inv.lstR I hB;refine add_list e e2 ?_ (by rw[size_toArray,size_toArray];omega);have ea:its.toArray++its2.toArray=(its++its2).toArray:=by simp
 rw[ea];exact⟨.ref _,_,I.lnew (t':=s.toks) (r.append r2) (by rw[length_append];omega),rfl,q _ I.fresh⟩
theorem kQ(hm:jD G E mk)(ha:PE X a (ar G E da))(hb:PE X b (ar G E db)):PE X (.BinOp a .Add b pos) (ar G E (fN mk da db)):=by
 refine PE.imp (qT DO ha hb) fun σ H Q h=>o_ h fun F as sl ce H2 x y wx wy S rx ry P=>?_;unfold qA at P;split at P
 ·rename_i xs ys h1 h2;split at P
  ·rename_i hl;obtain⟨p,vs,rfl,q1,r1⟩:=g7 S.st rx h1;obtain⟨p',us,rfl,q2,r2⟩:=g7 S.st ry h2;exact⟨p,p',vs,us,rfl,rfl,q1,q2,by rw[r1.length,r2.length];exact hl,(hm S (r1.append r2) P).2⟩
  ·exact(show False from P).elim
 ·exact(show False from P).elim
end
inductive Fl where
 | nx|bk|ct|rt (w:W)
inductive O where
 | go (f:Fl) (sl:Sl) (ce:Ce)|ex (x:cX) (ce:Ce)
abbrev DS:=Sl->Ce->Option O
def Be(D:Ends)(F:Hp)(as:List Addr)(σ:VS.St)(H:Hp):Fl->Prop
 | .nx=>D.nx σ H
 | .bk=>D.bk σ H
 | .ct=>D.ct σ H
 | .rt w=>∀v,Rep F as w v->D.rt v H
def bh(G:Ga)(E:XK)(D:Ends)(F:Hp)(as:List Addr):Option O->Prop
 | some (.go f sl' ce')=>∀σ' H' F' as',Le F as F' as'->SR G F' as' H' σ' sl' ce'->Be D F' as' σ' H' f
 | some (.ex x ce')=>∀H' F' as' cv od,Le F as F' as'->aw G F' as' H' ce'->G.xr x cv od F'->E cv od H'
 | none=>False
def dH(G:Ga)(E:XK)(d:DS):TS:=fun D σ H=>∃F as sl ce,SR G F as H σ sl ce/\bh G E D F as (d sl ce)
def cu{α:Type}(m:Option (R α))(k:α->Ce->Option O):Option O:=match m with
 | some (.ok a ce')=>k a ce'
 | some (.ex x ce')=>some (.ex x ce')
 | none=>none
variable {D:Ends}
section
variable {α β:Type} {RP:Hp->List Addr->α->β->Prop} {σ:VS.St} {D':Ends}
theorem bh.le{r:Option O}(l:Le F as F' as')(P:bh G E D F as r):bh G E D F' as' r:=by
 cases r with
 | none=>exact P
 | some r=>cases r with
  | go f sl' ce'=>exact fun σ' H' F2 as2 l2=>P σ' H' F2 as2 (l.trans l2)
  | ex x ce'=>exact fun H' F2 as2 cv od l2=>P H' F2 as2 cv od (l.trans l2)
theorem gU{d:Sl->M α}{k:α->Ce->Option O}(S:SR G F as H σ sl ce)(P:bh G E D F as (cu (d sl ce) k)) :
  toT G E RP d σ H fun b H2=>∃a F' as' ce',Le F as F' as'/\SR G F' as' H2 σ sl ce'/\RP F' as' a b/\bh G E D F' as' (k a ce'):=by
 refine⟨F,as,sl,ce,S,?_⟩;revert P;unfold cu;cases d sl ce with
 | none=>exact fun P=>P
 | some r=>cases r with
  | ok a ce'=>exact fun P b H' F' as' l S' r=>⟨a,F',as',ce',l,S',r,P.le l⟩
  | ex x ce'=>exact fun P=>P
theorem bh.nxt(S:SR G F as H σ sl ce)(P:bh G E D F as (some (.go .nx sl ce))):D.nx σ H:=P σ H F as .refl S
end
def bH:DS:=fun sl ce=>some (.go .nx sl ce)
def aq(a b:DS):DS:=fun sl ce=>match a sl ce with
 | some (.go .nx sl' ce')=>b sl' ce'
 | r=>r
def cG(d:Sl->M W):DS:=fun sl ce=>cu (d sl ce) fun _ ce'=>some (.go .nx sl ce')
def aY(d:Sl->M W):DS:=fun sl ce=>cu (d sl ce) fun w ce'=>some (.go (.rt w) sl ce')
def bw(c:Sl->M Bool)(a b:DS):DS:=fun sl ce=>cu (c sl ce) fun t ce'=>match t with
 | true=>a sl ce'
 | false=>b sl ce'
abbrev DG:=W->Sl->Ce->Option (Sl×Ce)
def gN(i:Nat):DG:=fun w sl ce=>some (sl.set i (some w),ce)
def gP(d:Sl->M W)(g:DG):DS:=fun sl ce=>cu (d sl ce) fun w ce'=>match g w sl ce' with
 | some (sl',ce'')=>some (.go .nx sl' ce'')
 | none=>none
def aP(i:Nat)(d:Sl->M W):DS:=fun sl ce=>cu (d sl ce) fun w ce'=>some (.go .nx (sl.set i (some w)) ce')
def mW(G:Ga)(X:Cx)(tg:Expr)(g:DG):Prop:=∃t:TG,PG X tg t/\∀F as H σ sl ce w v sl' ce' (Q:VS.St->Hp->Prop),SR G F as H σ sl ce->Rep F as w v->g w sl ce=some (sl',ce') ->
 (∀σ' H' F' as',Le F as F' as'->SR G F' as' H' σ' sl' ce'->Q σ' H')->t v σ H Q
def oJ(G:Ga)(X:Cx)(tgs:List Expr)(g:List W->Sl->Ce->Option (Sl×Ce)):Prop:=∃t:kC,PGs X tgs t/\∀F as H σ sl ce ws vs sl' ce' (Q:VS.St->Hp->Prop),SR G F as H σ sl ce->ag F as ws vs->g ws sl ce=some (sl',ce') ->
 (∀σ' H' F' as',Le F as F' as'->SR G F' as' H' σ' sl' ce'->Q σ' H')->t vs σ H Q
def nv:List W->Sl->Ce->Option (Sl×Ce):=fun ws sl ce=>match ws with
 | []=>some (sl,ce)
 | _=>none
def jo(g:DG)(r:List W->Sl->Ce->Option (Sl×Ce)):List W->Sl->Ce->Option (Sl×Ce):=fun ws sl ce=>match ws with
 | w::ws=>match g w sl ce with
  | some (sl',ce')=>r ws sl' ce'
  | none=>none
 | []=>none
def gT(n:Nat)(r:List W->Sl->Ce->Option (Sl×Ce)):DG:=fun w sl ce=>match w with
 | .tup ws=>if ws.length=n then r ws sl ce else none
 | _=>none
variable {t tg:Expr} {c:Sl->M Bool} {r:List W->Sl->Ce->Option (Sl×Ce)} {pos':Pos}
section
variable {st:Stmt} {rest:List Stmt} {a b:DS} {g:DG}
theorem bX:PSs X [] (dH G E bH):=PSs.imp EN fun D σ H zz_=>bu zz_ fun F as sl ce S P=>P.nxt S
theorem aI(h:PS X st (dH G E a)):PSs X [st] (dH G E a):=xh h
theorem aC(h1:PS X st (dH G E a))(h2:PSs X rest (dH G E b)):PSs X (st::rest) (dH G E (aq a b)):=by
 refine PSs.imp (yi h1 h2) fun D σ H zz_=>bu zz_ fun F as sl ce S P=>⟨F,as,sl,ce,S,?_⟩
 revert P;unfold aq;cases a sl ce with
 | none=>exact fun P=>P.elim
 | some r=>cases r with
  | ex x ce'=>exact fun P=>P
  | go f sl' ce'=>cases f with
   | nx=>exact fun P σ' H' F' as' l S'=>⟨F',as',sl',ce',S',P.le l⟩
   | bk=>exact fun P=>P
   | ct=>exact fun P=>P
   | rt w=>exact fun P=>P
theorem fq(he:PE X e (ar G E d))(hs:swapsWith e none pos.line X.env=pure false:=by rfl):PS X (.Expr e pos) (dH G E (cG d)) :=
 PS.imp (xg he hs) fun D σ H zz_=>bu zz_ fun F as sl ce S P=>(gU S P).mono fun x H1 zz_=>aZ zz_ fun wx F1 as1 ce1 l1 S1 rx P1=>P1.nxt S1
theorem bE(he:PE X e (ar G E d)):PS X (.Return (some e) pos) (dH G E (aY d)) :=
 PS.imp (Dl he) fun D σ H zz_=>bu zz_ fun F as sl ce S P=>(gU S P).mono fun x H1 zz_=>aZ zz_ fun wx F1 as1 ce1 l1 S1 rx P1=>P1 σ H1 F1 as1 .refl S1 x rx
theorem bR{sa sb:List Stmt}(hc:PT X t (bW G E c))(ha:PSs X sa (dH G E a))(hb:PSs X sb (dH G E b)):PS X (.If t sa sb pos) (dH G E (bw c a b)):=by
 refine PS.imp (A9 hc ha hb) fun D σ H zz_=>bu zz_ fun F as sl ce S P=>(gU (RP:=rB) S P).mono fun x H1 zz_=>aZ zz_ fun wx F1 as1 ce1 l1 S1 rx P1=>?_;have rx:wx=x:=rx;subst rx;cases wx
 ·rw[if_neg Bool.false_ne_true];exact⟨F1,as1,sl,ce1,S1,P1⟩
 ·rw[if_pos rfl];exact⟨F1,as1,sl,ce1,S1,P1⟩
theorem bc{x:Str}(hN:X.N.Nodup)(hi:X.N[i]?=some x)(hx:Loc X.env.scope x)(he:PE X e (ar G E d))(hs:swapsWith e (some (.Name x pos')) pos.line X.env=pure false:=by rfl)(hf:X.fn x=true\/X.env.scope.names.lookup x=some .local:=by first|exact .inl rfl|exact .inr rfl|assumption):PS X (.Assign [.Name x pos'] e pos) (dH G E (aP i d)) :=
 PS.imp (DM hN hi hx he hs hf) fun D σ H zz_=>bu zz_ fun F as sl ce S P=>(gU S P).mono fun x H1 zz_=>aZ zz_ fun wx F1 as1 ce1 l1 S1 rx P1=>P1 _ H1 F1 as1 .refl (S1.put rx i)
theorem dm{x:Str}(hN:X.N.Nodup)(hi:X.N[i]?=some x)(hx:Loc X.env.scope x)(hf:X.fn x=true\/X.env.scope.names.lookup x=some .local:=by first|exact .inl rfl|exact .inr rfl|assumption):mW G X (.Name x pos) (gN i) :=
 ⟨gJ i,sm hN hi hx hf,fun F as H σ sl ce w v sl' ce' Q S r e k=>by
  cases e;exact k _ _ _ _ .refl (S.put r i)⟩
theorem sf:oJ G X [] nv:=⟨_,E4,fun F as H σ sl ce ws vs sl' ce' Q S r e k=>by
 cases ws with
 | nil=>cases e;simp only[ag] at r;exact⟨r,k _ _ _ _ .refl S⟩
 | cons w ws=>cases e⟩
theorem mT(h1:mW G X e g)(h2:oJ G X es r)(hs:(assignEach (e::es) X.env).map (·.2)=assign e X.env::(assignEach es X.env).map (·.2):=by rfl):oJ G X (e::es) (jo g r):=by
 obtain⟨t,h1,q1⟩:=h1;obtain⟨u,h2,q2⟩:=h2;refine⟨_,Gr h1 h2 hs,fun F as H σ sl ce ws vs sl' ce' Q S rs e k=>?_⟩;cases ws with
 | nil=>cases e
 | cons w ws =>
  simp only[ag] at rs;obtain⟨v,vs',rfl,rv,rs⟩:=rs;simp only[jo] at e;split at e
  ·rename_i sl1 ce1 eg;refine⟨v,vs',rfl,q1 F as H σ sl ce w v sl1 ce1 _ S rv eg fun σ' H' F' as' l S'=>?_⟩;exact q2 F' as' H' σ' sl1 ce1 ws vs' sl' ce' Q S' (rs.le l) e fun σ2 H2 F2 as2 l2 S2=>k _ _ _ _ (l.trans l2) S2
  ·cases e
theorem rh(hc:X.calm=true)(h:oJ G X es r)(hn:(assignEach es X.env).length=n:=by rfl)(hst:(assignEach es X.env).findIdx? (·.1)=none:=by rfl):mW G X (.Tuple es k pos) (gT n r):=by
 obtain⟨t,h,q⟩:=h;refine⟨_,Dk hc h hn hst,fun F as H σ sl ce w v sl' ce' Q S rw' e k=>?_⟩;cases w<;>simp only[gT,reduceCtorEq] at e;split at e
 ·rename_i ws hl;simp only[Rep] at rw';obtain⟨a,vs,rfl,ha,rs⟩:=rw';exact⟨a,vs,rfl,.inl (.inl (S.st.sub _ _ ha)),by rw[rs.length];exact hl,q F as H σ sl ce _ vs sl' ce' Q S rs e k⟩
 ·cases e
theorem mf(he:PE X e (ar G E d))(hg:mW G X tg g)(hs:swapsWithSole [tg] e pos.line X.env=pure false:=by rfl)(hw:swappedStores [tg] e X.env=pure none:=by rfl)(h1:(assignEach [tg] X.env).map (·.2)=[assign tg X.env]:=by rfl):PS X (.Assign [tg] e pos) (dH G E (gP d g)):=by
 obtain⟨t,hg,q⟩:=hg;refine PS.imp (DN he hg hs hw h1) fun D σ H zz_=>bu zz_ fun F as sl ce S P=>(gU S P).mono fun x H1 zz_=>aZ zz_ fun wx F1 as1 ce1 l1 S1 rx P1=>?_;split at P1
 ·rename_i sl' ce'' eg;exact q F1 as1 H1 σ sl ce1 wx x sl' ce'' _ S1 rx eg fun σ' H' F' as' l S'=>P1 σ' H' F' as' l S'
 ·exact(show False from P1).elim
def ja(ce:Ce):W->Option (Nat×List W)
 | .cel k=>match ce[k]? with
  | some (.lst xs)=>some (k,xs)
  | _=>none
 | _=>none
def ka(ce:Ce):W->Option (Nat×List (Key×W))
 | .cel k=>match ce[k]? with
  | some (.dct xs)=>some (k,xs)
  | _=>none
 | _=>none
theorem n8(S:aw G F as H ce)(r:Rep F as w v)(e:ja ce w=some (k,xs)):∃a vs,v=.ref a/\as[k]?=some a/\H a=some (.lst vs)/\ag F as xs vs:=by
 cases w<;>simp only[ja,reduceCtorEq] at e;split at e
 ·rename_i hc;cases e;simp only[Rep] at r;obtain⟨a,rfl,h⟩:=r;obtain⟨_,vs,h2,rs⟩:=S.cell _ _ _ h hc;exact⟨a,vs,rfl,h,h2,rs⟩
 ·cases e
theorem Fc{xs:List (Key×W)}(S:aw G F as H ce)(r:Rep F as w v)(e:ka ce w=some (k,xs)):∃a ps,v=.ref a/\as[k]?=some a/\H a=some (.dK ps)/\az F as xs ps:=by
 cases w<;>simp only[ka,reduceCtorEq] at e;split at e
 ·rename_i hc;cases e;simp only[Rep] at r;obtain⟨a,rfl,h⟩:=r;obtain⟨_,ps,h2,rs⟩:=S.cell _ _ _ h hc;exact⟨a,ps,rfl,h,h2,rs⟩
 ·cases e
def jk(o i:Sl->M W):DG:=fun w sl ce=>match o sl ce with
 | some (.ok ow ce1)=>match i sl ce1 with
  | some (.ok (.int j) ce2)=>match ja ce2 ow with
   | some (k,xs)=>match gq xs.length j with
    | some n=>some (sl,ce2.set k (.lst (xs.set n w)))
    | none=>none
   | none=>none
  | _=>none
 | _=>none
theorem pd{o i:Expr}(ho:PE X o (ar G E da))(hi:PE X i (ar G E db))(hA:∀v,assign (.Subscript o i pos) X.env v=(do
   let ov <- holding [v] (eval o X.env)
   let iv <- holding [v,ov] (eval i X.env)
   standAt pos
   holding [v,ov,iv] (setItem ov iv v)
   release [v,ov,iv] []):=by intro _;rfl):mW G X (.Subscript o i pos) (jk da db):=by
 refine⟨_,Dj ho hi Ft hA,fun F as H σ sl ce w v sl' ce' Q S rw' e k=>?_⟩;unfold jk at e;refine⟨F,as,sl,ce,S,?_⟩;cases e1:da sl ce with
 | none=>rw[e1] at e;cases e
 | some r1=>cases r1 with
  | ex x c=>rw[e1] at e;cases e
  | ok ow ce1 =>
   rw[e1] at e;intro ov H1 F1 as1 l1 S1 ro;refine⟨F1,as1,sl,ce1,S1,?_⟩;dsimp only at e;cases e2:db sl ce1 with
   | none=>rw[e2] at e;cases e
   | some r2=>cases r2 with
    | ex x c=>rw[e2] at e;cases e
    | ok iw ce2 =>
     rw[e2] at e;intro iv H2 F2 as2 l2 S2 ri;cases iw<;>simp only[reduceCtorEq] at e;rename_i j;split at e
     ·rename_i kk xs hk;split at e
      ·rename_i n hn;cases e;simp only[Rep] at ri;subst ri;obtain⟨a,vs,rfl,ha,hH,rs⟩:=n8 S2.st (ro.le l2) hk;have rset:=rs.set n ((rw'.le l1).le l2);refine⟨a,vs,j,n,rfl,rfl,hH,by rw[rs.length];exact hn,?_⟩;exact k _ _ _ _ (l1.trans l2) (S2.slots (S2.st.write (o:=.lst (vs.set n v)) (c:=.lst (xs.set n w)) ha ⟨_,ak,rset⟩) .refl)
      ·cases e
     ·cases e
open Classical in
def hX(o i v:Sl->M W):DS:=fun sl ce=>cu (v sl ce) fun w ce1=>cu (o sl ce1) fun ow ce2=>cu (i sl ce2) fun iw ce3=>match hZ iw,ka ce3 ow with
 | some key,some (k,kvs)=>if kvs.length<sizeLine then some (.go .nx sl (ce3.set k (.dct (gQ kvs key w)))) else none
 | _,_=>none
theorem kP{o i value:Expr}(hu:X.A.units+1<cLine)(ho:PE X o (ar G E da))(hi:PE X i (ar G E db))(hv:PE X value (ar G E dc))(hs:swapsWith value (some (.Subscript o i pos')) pos.line X.env=pure false:=by rfl) :
  PS X (.Assign [.Subscript o i pos'] value pos) (dH G E (hX da db dc)):=by
 refine PS.imp (DY hu ho hi hv hs) fun D σ H zz_=>bu zz_ fun F as sl ce S P=>(gU S P).mono fun x H1 zz_=>aZ zz_ fun wx F1 as1 ce1 l1 S1 rx P1=>(gU S1 P1).mono fun y H2 zz_=>aZ zz_ fun wy F2 as2 ce2 l2 S2 ry P2=>(gU S2 P2).mono fun z H3 zz_=>aZ zz_ fun wz F3 as3 ce3 l3 S3 rz P3=>?_;split at P3
 ·rename_i key kk kvs hk hc;split at P3
  ·rename_i hl;obtain⟨a,ps,rfl,ha,hH,rk⟩:=Fc S3.st (ry.le l3) hc;rw[si rz hk];have rput:=rk.put key ((rx.le l2).le l3);refine⟨a,_,rfl,iZ.kz hH (by rw[<- rk.length];exact hl),?_⟩;exact P3 _ _ _ _ .refl (S3.slots (S3.st.write (o:=.dK (fo ps key x)) (c:=.dct (gQ kvs key wx)) ha ⟨_,ak,rput⟩) .refl)
  ·exact(show False from P3).elim
 ·exact(show False from P3).elim
end
inductive Src where
 | lst (xs:List W)|tup (xs:List W)|cell (k:Nat) (xs:List W)|rng (lo:Int) (n:Nat)|dky (xs:List W)
def kW:Key->W
 | .inl i=>.int i
 | .inr x=>.str x
def Src.items:Src->List W
 | .lst xs=>xs
 | .tup xs=>xs
 | .cell _ xs=>xs
 | .rng lo n=>(List.range n).map fun(i:Nat)=>W.int (lo+(i:Int))
 | .dky xs=>xs
def Src.Stays(ce:Ce):Src->Prop
 | .cell k xs=>ce[k]?=some (.lst xs)
 | _=>True
def cR(K:Frag)(F:Hp)(as:List Addr):Src->It->Prop
 | .lst xs,J=>∃a vs,J=lI K a/\Rd F a (.lst vs)/\ag F as xs vs
 | .tup xs,J=>∃a vs,J=uC K a/\Rd F a (.tup vs)/\ag F as xs vs
 | .cell k _,J=>∃a,J=lI K a/\as[k]?=some a
 | .rng lo n,J=>J=ql lo n
 | .dky xs,J=>∃a o ps,J=mX a o ps/\F a=some (.frz o (.dK ps))/\xs=ps.map fun p=>kW p.1
theorem cR.le{K:Frag}{F F':Hp}{as as':List Addr}{s:Src}{J:It}(l:Le F as F' as')(h:cR K F as s J):cR K F' as' s J:=by
 cases s with
 | lst xs=>obtain⟨a,vs,e,h,r⟩:=h;exact⟨a,vs,e,l.rd h,r.le l⟩
 | tup xs=>obtain⟨a,vs,e,h,r⟩:=h;exact⟨a,vs,e,l.rd h,r.le l⟩
 | cell k xs=>obtain⟨a,e,h⟩:=h;exact⟨a,e,l.c _ _ h⟩
 | rng lo n=>exact h
 | dky xs=>obtain⟨a,o,ps,e,h,q⟩:=h;exact⟨a,o,ps,e,l.f _ _ h,q⟩
theorem cR.turn{s:Src}{J:It}(S:aw G F as H ce)(h:cR K F as s J)(hs:s.Stays ce)(i:Nat) :
  (i<s.items.length->J.go i H/\∀x H',J.yld i H x H'->H'=H/\∃w,s.items[i]?=some w/\Rep F as w x)/\(i=s.items.length->J.stop i H):=by
 have lst:∀{a:Addr} {vs:List V} {xs:List W},cL K H a vs->ag F as xs vs->(i<xs.length->(lI K a).go i H/\∀x H',(lI K a).yld i H x H'->H'=H/\∃w,xs[i]?=some w/\Rep F as w x)/\(i=xs.length->(lI K a).stop i H):=by intro a vs xs hq rs;have hl:=rs.length;refine⟨fun hi=>⟨⟨vs,vs[i]'(by omega),hq,by simp⟩,fun x H' y=>?_⟩,fun hi=>⟨vs,hq,by omega⟩⟩;obtain⟨e,y⟩:=y;exact⟨e,rs.get' (y vs hq)⟩
 cases s with
 | lst xs=>obtain⟨a,vs,rfl,h,r⟩:=h;exact lst (.inl (Rd.sub S h)) r
 | cell k xs =>
  obtain⟨a,rfl,h⟩:=h;obtain⟨_,vs,h2,rs⟩:=S.cell _ _ _ h hs;exact lst (.inl (.inl h2)) rs
 | tup xs =>
  obtain⟨a,vs,rfl,h,rs⟩:=h;have hq:eG K H a vs:=.inl (Rd.sub S h);have hl:=rs.length;refine⟨fun hi=>⟨⟨vs,vs[i]'(by show i<_;simp only[Src.items] at hi;omega),hq,by simp⟩,fun x H' y=>?_⟩,fun hi=>⟨vs,hq,by simp only[Src.items] at hi;omega⟩⟩;obtain⟨e,y⟩:=y;exact⟨e,rs.get' (y vs hq)⟩
 | rng lo n =>
  cases h;have hl:(Src.rng lo n).items.length=n:=by simp[Src.items]
  rw[hl];refine⟨fun hi=>⟨hi,fun x H' y=>?_⟩,fun hi=>by rw[hi];exact le_refl _⟩;obtain⟨e,rfl⟩:=y;refine⟨e,.int (lo+i),?_,by simp only[Rep]⟩;simp[Src.items,hi]
 | dky xs =>
  obtain⟨a,o,ps,rfl,h,rfl⟩:=h;have hH:=S.sub _ _ h;have hl:(Src.dky (ps.map fun p=>kW p.1)).items.length=ps.length:=by simp[Src.items]
  rw[hl];refine⟨fun hi=>⟨⟨hH,hi⟩,fun x H' y=>?_⟩,fun hi=>⟨hH,hi.symm⟩⟩;obtain⟨e,p,hp,rfl⟩:=y;refine⟨e,kW p.1,by simp only[Src.items,getElem?_map,hp,map_some],?_⟩;cases p.1<;>simp only[kW,kV,Rep]
abbrev j_(G:Ga)(E:XK)(K:Frag)(d:Sl->M Src):TI:=toT G E (cR K) d
theorem PI.imp{t t':TI}(h:PI X tg e t)(q:∀σ H R,t' σ H R->t σ H R):PI X tg e t':=fun pins s σ H Q I z=>h pins s σ H Q I (q _ _ _ z)
def fM(ce:Ce):W->Option Src
 | .lst xs=>some (.lst xs)
 | .cel k=>match ce[k]? with
  | some (.lst xs)=>some (.cell k xs)
  | _=>none
 | _=>none
def qz:W->Option Src
 | .tup xs=>some (.tup xs)
 | _=>none
def qh(d:Sl->M W):Sl->M Src:=fun sl=>au (d sl) fun w ce=>match w with
 | .cel k=>match ce[k]? with
  | some (.dct kvs)=>some (.ok (.dky (kvs.map fun p=>kW p.1)) (ce.set k (.fzd kvs)))
  | some (.fzd kvs)=>some (.ok (.dky (kvs.map fun p=>kW p.1)) ce)
  | _=>none
 | _=>none
def dG(d:Sl->M W):Sl->M Src:=fun sl=>au (d sl) fun w=>look fun ce=>fM ce w
def g_(d:Sl->M W):Sl->M Src:=fun sl=>au (d sl) fun w=>look fun _=>qz w
open Classical in
def kH:List W->Option Src
 | [.int j]=>@ite _ (-4611686018427387904<=j/\j<4611686018427387904) (Classical.propDecidable _) (some (.rng 0 j.toNat)) none
 | _=>none
def fA(d:Sl->M (List W)):Sl->M Src:=fun sl=>au (d sl) fun ws=>look fun _=>kH ws
variable {p:Pos}
section
variable {a:Expr}
theorem fL(hl:PE X a (ar G E da)):PI X tg a (j_ G E X.K (dG da)):=by
 refine PI.imp (E3 hl) fun σ H R zz_=>bu zz_ fun F as sl ce S P=>(step S P).mono fun x H1 zz_=>aZ zz_ fun wx F1 as1 ce1 l1 S1 rx P1=>?_;obtain⟨src,e,P2⟩:=jw P1;cases wx<;>simp only[fM,reduceCtorEq,Option.some.injEq] at e
 ·subst e;simp only[Rep] at rx;obtain⟨a,vs,rfl,h,rs⟩:=rx;exact⟨a,rfl,⟨vs,.inl (Rd.sub S1.st h)⟩,aG.done (RP:=cR X.K) S1 P2 ⟨a,vs,rfl,h,rs⟩⟩
 ·split at e
  ·rename_i hc;cases e;simp only[Rep] at rx;obtain⟨a,rfl,h⟩:=rx;obtain⟨_,vs,h2,rs⟩:=S1.st.cell _ _ _ h hc;exact⟨a,rfl,⟨vs,.inl (.inl h2)⟩,aG.done (RP:=cR X.K) S1 P2 ⟨a,rfl,h⟩⟩
  ·cases e
theorem az.kW{kvs:List (Key×W)}(r:az F as kvs ps):(kvs.map fun p=>VS.kW p.1)=ps.map fun p=>VS.kW p.1:=by
 induction r with
 | nil=>rfl
 | cons h t ih=>rw[map_cons,map_cons,ih,h.1]
theorem aw.fzd{a:Addr}{kvs:List (Key×W)}(S:aw G F as H ce)(h:as[k]?=some a)(hc:ce[k]?=some (.dct kvs))(hH:H a=some (.dK ps))(r:az F as kvs ps)(o:Obj) :
  aw G (upd F a (.frz o (.dK ps))) as (upd H a (.frz o (.dK ps))) (ce.set k (.fzd kvs))/\Le F as (upd F a (.frz o (.dK ps))) as:=by
 have hk:k<ce.length:=dJ hc;have q1:F a=none:=(S.cell k a _ h hc).1 rfl;have l:Le F as (upd F a (.frz o (.dK ps))) as:=⟨fc q1,fun _ _ h=>h⟩
 refine⟨⟨fun b u e=>?_,S.nd,by rw[length_set];exact S.len,fun j b c h1 h2=>?_⟩,l⟩
 ·by_cases hb:b=a
  ·subst hb;rw[ak] at e ⊢;exact e
  ·rw[bj hb] at e ⊢;exact S.sub _ _ e
 ·by_cases hj:k=j
  ·subst hj;rw[getElem?_set_self hk] at h2;rw[h] at h1;cases h1;cases h2;exact⟨(fun z=>by cases z),o,ps,ak,ak,r.le l⟩
  ·rw[getElem?_set_ne hj] at h2;obtain⟨p1,p2⟩:=S.cell j b c h1 h2;have hb:b≠a:=fun z=>by
    subst z;have hj':j<as.length:=dJ h1;have hk':k<as.length:=dJ h;have e1:as[k]=as[j]:=by rw[getElem?_eq_getElem hk'] at h;rw[getElem?_eq_getElem hj'] at h1;exact(Option.some.inj h).trans (Option.some.inj h1).symm
    exact hj (nJ S.nd hk' hj' e1)
   exact⟨fun z=>by rw[bj hb];exact p1 z,p2.le l (bj hb)⟩
theorem z7(hl:PE X a (ar G E da)):PI X tg a (j_ G E X.K (qh da)):=by
 refine PI.imp (DU hl) fun σ H R zz_=>bu zz_ fun F as sl ce S P=>(step S P).mono fun x H1 zz_=>aZ zz_ fun wx F1 as1 ce1 l1 S1 rx P1=>?_;cases wx<;>first|exact P1.elim|skip
 rename_i k;simp only[Rep] at rx;obtain⟨a,rfl,h⟩:=rx;dsimp only at P1;refine⟨a,rfl,?_⟩;split at P1
 ·rename_i kvs hc;obtain⟨_,ps,hH,r⟩:=S1.st.cell _ _ _ h hc;refine .inl ⟨ps,hH,fun o=>?_⟩;obtain⟨S2,l2⟩:=S1.st.fzd h hc hH r o;exact P1 (mX a o ps) _ _ _ l2 (S1.slots S2 l2) ⟨a,o,ps,rfl,ak,r.kW⟩
 ·rename_i kvs hc;obtain⟨_,o,ps,hF,hH,r⟩:=S1.st.cell _ _ _ h hc;exact .inr ⟨o,ps,hH,aG.done (RP:=cR X.K) S1 P1 ⟨a,o,ps,rfl,hF,r.kW⟩⟩
 ·exact P1.elim
theorem j9(hl:PE X a (ar G E da)):PI X tg a (j_ G E X.K (g_ da)):=by refine PI.imp (DK hl) fun σ H R zz_=>bu zz_ fun F as sl ce S P=>(step S P).mono fun x H1 zz_=>aZ zz_ fun wx F1 as1 ce1 l1 S1 rx P1=>?_;obtain⟨src,e,P2⟩:=jw P1;cases wx<;>simp only[qz,reduceCtorEq,Option.some.injEq] at e;subst e;simp only[Rep] at rx;obtain⟨a,vs,rfl,h,rs⟩:=rx;exact⟨a,rfl,⟨vs,.inl (.inl (S1.st.sub _ _ h))⟩,aG.done (RP:=cR X.K) S1 P2 ⟨a,vs,rfl,.inl h,rs⟩⟩
theorem iH(hg:Gl X "range")(hm:X.mg "range" = none)(ha:PA X [a] (fv G E dr))(hs:starEach [a] X.env=[(false,eval a X.env)]:=by rfl):PI X tg (.Call (.Name "range" p) [a] [] pos) (j_ G E X.K (fA dr)):=by
 refine PI.imp (HB hg hm ha hs) fun σ H R zz_=>bu zz_ fun F as sl ce S P=>(step (RP:=ag) S P).mono fun x H1 zz_=>aZ zz_ fun wx F1 as1 ce1 l1 S1 rx P1=>?_;obtain⟨src,e,P2⟩:=jw P1;unfold kH at e;split at e
 ·rename_i j;split at e
  ·rename_i hj;cases e;simp only[ag,Rep] at rx;obtain⟨v,r,rfl,rfl,rfl⟩:=rx;exact⟨j,rfl,by omega,by omega,aG.done (RP:=cR X.K) S1 P2 rfl⟩
  ·cases e
 ·cases e
end
open Classical in
def gA(s:Src)(g:DG)(body:DS):List W->DS
 | []=>fun sl ce=>if s.Stays ce then some (.go .nx sl ce) else none
 | x::r=>fun sl ce=>if s.Stays ce then (match g x sl ce with
  | some (sl1,ce1)=>match body sl1 ce1 with
   | some (.go .nx sl2 ce2)=>gA s g body r sl2 ce2
   | some (.go .ct sl2 ce2)=>gA s g body r sl2 ce2
   | some (.go .bk sl2 ce2)=>some (.go .nx sl2 ce2)
   | o=>o
  | none=>none) else none
def cf(i:Sl->M Src)(g:DG)(body:DS):DS:=fun sl ce=>cu (i sl ce) fun s ce'=>gA s g body s.items sl ce'
def ik(c:Sl->M Bool)(body:DS):Nat->DS
 | 0=>fun _ _=>none
 | n+1=>fun sl ce=>cu (c sl ce) fun t ce1=>match t with
  | false=>some (.go .nx sl ce1)
  | true=>match body sl ce1 with
   | some (.go .nx sl2 ce2)=>ik c body n sl2 ce2
   | some (.go .ct sl2 ce2)=>ik c body n sl2 ce2
   | some (.go .bk sl2 ce2)=>some (.go .nx sl2 ce2)
   | o=>o
variable {iter:Expr} {di:Sl->M Src}
section
variable {body:List Stmt} {g:DG} {b:DS}
theorem yO{N:VS.St->Hp->Prop}{k:DS}{r:Option O}(P:bh G E D F as (match r with
   | some (.go .nx sl2 ce2)=>k sl2 ce2
   | some (.go .ct sl2 ce2)=>k sl2 ce2
   | some (.go .bk sl2 ce2)=>some (.go .nx sl2 ce2)
   | o=>o))(hN:∀σ H F' as' sl ce,Le F as F' as'->SR G F' as' H σ sl ce->bh G E D F' as' (k sl ce)->N σ H):bh G E { D with nx:=N,ct:=N,bk:=D.nx } F as r:=by
 cases r with
 | none=>exact P
 | some r=>cases r with
  | ex x ce'=>exact P
  | go f sl' ce'=>cases f with
   | nx=>exact fun σ' H' F' as' l S'=>hN σ' H' F' as' sl' ce' l S' (P.le l)
   | ct=>exact fun σ' H' F' as' l S'=>hN σ' H' F' as' sl' ce' l S' (P.le l)
   | bk=>exact fun σ' H' F' as' l S'=>P σ' H' F' as' l S'
   | rt w=>exact fun σ' H' F' as' l S'=>P σ' H' F' as' l S'
theorem d_(hp:PassesOwn (model X.prog X.w) X.A X.env X.xe)(hc:X.calm=true)(hi:PI X tg iter (j_ G E X.K di))(hg:mW G X tg g)(hb:PSs X body (dH G E b))(hs:∀x,foldedSetIterable iter X.env x=pure x:=by intro _;rfl):PS X (.For tg iter body [] pos) (dH G E (cf di g b)):=by
 obtain⟨tgt,hg,qg⟩:=hg;refine PS.imp (DJ hp hc hi hg hb hs) fun D σ H zz_=>bu zz_ fun F as sl ce S P=>(gU (RP:=cR X.K) S P).mono fun J H1 zz_=>aZ zz_ fun s F1 as1 ce1 l1 S1 rJ P1=>?_;refine⟨fun i m σ H=>∃F as sl ce,SR G F as H σ sl ce/\cR X.K F as s J/\m=s.items.length-i/\i<=s.items.length/\bh G E D F as (gA s g b (s.items.drop i) sl ce),⟨s.items.length,F1,as1,sl,ce1,S1,rJ,rfl,zero_le _,P1⟩,?_⟩;rintro i m σ H ⟨F,as,sl,ce,S,rJ,rfl,hi,P⟩
 by_cases hlt:i<s.items.length
 ·rw[drop_eq_getElem_cons hlt] at P;simp only[gA] at P;split at P
  ·rename_i hst;obtain⟨t1,t2⟩:=rJ.turn S.st hst i;obtain⟨go,yl⟩:=t1 hlt;refine .inr ⟨go,_,fun σ' H' h=>h,fun x H' y=>?_⟩;obtain⟨rfl,w,hw,rw'⟩:=yl x H' y;rw[getElem?_eq_getElem hlt] at hw;cases hw;split at P
   ·rename_i sl1 ce1 eg;refine qg F as H' σ sl ce _ x sl1 ce1 _ S rw' eg fun σ' H2 F' as' l S'=>⟨F',as',sl1,ce1,S',?_⟩
    refine yO (P.le l) fun σ3 H3 F3 as3 sl3 ce3 l3 S3 P3=>?_;exact⟨s.items.length-(i+1),by omega,F3,as3,sl3,ce3,S3,rJ.le (l.trans l3),rfl,hlt,P3⟩
   ·exact(show False from P).elim
  ·exact(show False from P).elim
 ·have e:i=s.items.length:=by omega
  subst e;rw[drop_length] at P;simp only[gA] at P;split at P
  ·rename_i hst;exact .inl ⟨(rJ.turn S.st hst _).2 rfl,P.nxt S⟩
  ·exact(show False from P).elim
theorem xX(n:Nat)(hp:PassesOwn (model X.prog X.w) X.A X.env X.xe)(hc:PT X t (bW G E c))(hb:PSs X body (dH G E b)):PS X (.While t body [] pos) (dH G E (ik c b n)):=by
 refine PS.imp (Gq hp hc hb) fun D σ H zz_=>bu zz_ fun F as sl ce S P=>?_;refine⟨fun m σ H=>∃F as sl ce,SR G F as H σ sl ce/\bh G E D F as (ik c b m sl ce),⟨n,F,as,sl,ce,S,P⟩,?_⟩;rintro m σ H ⟨F,as,sl,ce,S,P⟩;cases m with
 | zero=>exact(show False from P).elim
 | succ m =>
  refine(gU (RP:=rB) S P).mono fun x H1 zz_=>aZ zz_ fun wx F1 as1 ce1 l1 S1 rx P1=>?_;have rx:wx=x:=rx;subst rx;cases wx
  ·rw[if_neg Bool.false_ne_true];exact P1.nxt S1
  ·rw[if_pos rfl];refine⟨fun σ' H'=>∃F as sl ce,SR G F as H' σ' sl ce/\bh G E D F as (ik c b m sl ce),fun σ' H' h=>⟨m,lt_succ_self _,h⟩,F1,as1,sl,ce1,S1,?_⟩;exact yO P1 fun σ3 H3 F3 as3 sl3 ce3 l3 S3 P3=>⟨F3,as3,sl3,ce3,S3,P3⟩
end
def c5(js:List Nat)(sl:Sl):Sl:=js.map fun j=>sl.getD j none
open Classical in
def dF(s:Src)(cs:Sl)(c:Sl->M Bool)(e:Sl->M W):List W->List W->M (List W)
 | [],ys=>fun ce=>if s.Stays ce then some (.ok ys ce) else none
 | x::r,ys=>fun ce=>if s.Stays ce/\ys.length<sizeLine then au (c (some x::cs)) (fun t=>match t with
   | true=>au (e (some x::cs)) fun y=>dF s cs c e r (ys++[y])
   | false=>dF s cs c e r ys) ce else none
def cK(mk:List W->M W)(js:List Nat)(i:Sl->M Src)(c:Sl->M Bool)(e:Sl->M W):Sl->M W:=fun sl=>au (i sl) fun s=>au (dF s (c5 js sl) c e s.items []) mk
def cZ:Sl->M Bool:=fun _=>ret true
variable {ifs:List Expr} {Y:Cx} {sl' cs:Sl}
section
variable {elt:Expr} {x:Str} {px:Pos} {scope:Scope} {js:List Nat} {caps:List Str} {e:Sl->M W}
theorem PIfs.imp{t:TT}(h:PIfs Y ifs t)(q:∀σ H Q,t' σ H Q->t σ H Q):PIfs Y ifs t':=fun pins s σ H Q I z=>h pins s σ H Q I (q _ _ _ z)
theorem ju:PIfs Y [] (bW G E cZ):=PIfs.imp Fq fun σ H Q zz_=>bu zz_ fun F as sl ce S P=>aG.done (RP:=rB) S (a:=true) P rfl
theorem sP(h:PT Y t (bW G E c)):PIfs Y [t] (bW G E c):=Fp h
theorem SR.cap{σ:VS.St}(S:SR G F as H σ sl ce)(js:List Nat)(r:Rep F as w v):SR G F as H (some v::gM js σ) (some w::c5 js sl) ce:=by
 refine⟨S.st,by simp[gM,c5],fun i u h=>?_⟩;cases i with
 | zero=>simp at h;subst h;exact⟨v,rfl,r⟩
 | succ i =>
  simp only[c5,getElem?_cons_succ,getElem?_map] at h;cases e:js[i]? with
  | none=>rw[e] at h;cases h
  | some j =>
   rw[e] at h;have hj:sl[j]?=some (some u):=by
    have h':sl.getD j none=some u:=by simpa using h
    rw[getD_eq_getElem?_getD] at h';cases q:sl[j]? with
    | none=>rw[q] at h';cases h'
    | some z=>rw[q] at h';simp at h';rw[h']
   obtain⟨v',h1,h2⟩:=S.slot j u hj;refine⟨v',?_,h2⟩;simp only[gM,getElem?_cons_succ,getElem?_map,e,map_some,getD_eq_getElem?_getD,h1,getD_some]
theorem vq{α β γ δ:Type}{RP:Hp->List Addr->α->β->Prop}{RQ:Hp->List Addr->γ->δ->Prop}{σ σ':VS.St}{d:Sl->M α}{f:α->M γ}{Q:δ->Hp->Prop}(S:SR G F as H σ sl ce)(S':SR G F as H σ' sl' ce)(P:aG G E RQ F as σ sl Q (au (d sl') f ce)) :
  toT G E RP d σ' H fun b H2=>∃a F' as' ce',Le F as F' as'/\SR G F' as' H2 σ sl ce'/\SR G F' as' H2 σ' sl' ce'/\RP F' as' a b/\aG G E RQ F' as' σ sl Q (f a ce'):=by
 refine⟨F,as,sl',ce,S',?_⟩;revert P;unfold au;cases d sl' ce with
 | none=>exact fun P=>P
 | some r=>cases r with
  | ok a ce'=>exact fun P b H' F' as' l S2 r=>⟨a,F',as',ce',l,S.slots S2.st l,S2,r,P.le l⟩
  | ex x ce'=>exact fun P=>P
theorem yN{α β γ:Type}(m:M α)(f:α->M β)(g:β->M γ):au (au m f) g=au m fun a=>au (f a) g:=by
 funext ce;unfold au;cases m ce with
 | none=>rfl
 | some r=>cases r<;>rfl
theorem GQ{α β:Type}{m m':M α}{g:α->M β}(h:m ce=m' ce):au m g ce=au m' g ce:=by simp only[au,h]
theorem pb{s:Src}{e:Sl->M W}{x:W}{r:List W}(h:s.Stays ce/\ys.length<sizeLine):dF s cs c e (x::r) ys ce=au (c (some x::cs)) (fun t=>match t with
   | true=>au (e (some x::cs)) fun y=>dF s cs c e r (ys++[y])
   | false=>dF s cs c e r ys) ce:=by simp only[dF,if_pos h]
theorem CJ{s:Src}{e:Sl->M W}{x:W}{r:List W}(h:¬(s.Stays ce/\ys.length<sizeLine)):dF s cs c e (x::r) ys ce=none:=by simp only[dF,if_neg h]
theorem vC(hm:jD G E mk)(σ:L2.St)(H:Hp)(Q:VK)(h:ar G E (cK mk js di c e) σ H Q):qe js (j_ G E X.K di) (bW G E c) (ar G E e) σ H Q:=by
 obtain⟨F,as,sl,ce,S,P⟩:=h;refine(step (RP:=cR X.K) S P).mono fun J H1 zz_=>aZ zz_ fun s F1 as1 ce1 l1 S1 rJ P1=>?_;refine⟨fun i m ys H=>∃F as ce ws,SR G F as H σ sl ce/\cR X.K F as s J/\m=s.items.length-i/\i<=s.items.length/\ag F as ws ys/\aG G E Rep F as σ sl Q (au (dF s (c5 js sl) c e (s.items.drop i) ws) mk ce),⟨s.items.length,F1,as1,ce1,[],S1,rJ,rfl,zero_le _,.nil,P1⟩,?_⟩;rintro i m ys H ⟨F,as,ce,ws,S,rJ,rfl,hi,rs,P⟩
 by_cases hlt:i<s.items.length
 ·rw[drop_eq_getElem_cons hlt] at P
  by_cases hst:s.Stays ce/\ws.length<sizeLine
  ·obtain⟨go,yl⟩:=(rJ.turn S.st hst.1 i).1 hlt;refine .inr ⟨go,by rw[rs.length];exact hst.2,_,fun ys' H' h=>h,fun x H' y=>?_⟩;obtain⟨rfl,w,hw,rw'⟩:=yl x H' y;rw[getElem?_eq_getElem hlt] at hw;cases hw;have P':=P;rw[GQ (pb hst)] at P';rw[yN] at P';refine(vq (RP:=rB) S (S.cap js rw') P').mono fun b H2 ⟨t,F2,as2,ce2,l2,S2,S2',rt,P2⟩=>?_;have rt:t=b:=rt;subst rt;cases t
   ·rw[if_neg Bool.false_ne_true];exact⟨s.items.length-(i+1),by omega,F2,as2,ce2,ws,S2,rJ.le l2,rfl,hlt,rs.le l2,P2⟩
   ·rw[if_pos rfl];dsimp only at P2;rw[yN] at P2;refine(vq (RP:=Rep) S2 S2' P2).mono fun y H3 ⟨wy,F3,as3,ce3,l3,S3,S3',ry,P3⟩=>?_;exact⟨s.items.length-(i+1),by omega,F3,as3,ce3,ws++[wy],S3,rJ.le (l2.trans l3),rfl,hlt,(rs.le (l2.trans l3)).append (.cons ry .nil),P3⟩
  ·have P':=P;simp only[au,CJ hst] at P';exact(show False from P').elim
 ·have e':i=s.items.length:=by omega
  subst e';rw[drop_length] at P
  by_cases hst:s.Stays ce
  ·have eq:au (dF s (c5 js sl) c e [] ws) mk ce=mk ws ce:=by simp only[au,dF,if_pos hst]
   rw[eq] at P;exact .inl ⟨(rJ.turn S.st hst _).2 rfl,(hm S rs P).2⟩
  ·have eq:au (dF s (c5 js sl) c e [] ws) mk ce=none:=by simp only[au,dF,if_neg hst]
   rw[eq] at P;exact(show False from P).elim
theorem jN(hm:jD G E mk)(B:fJ X.N X.env.scope js (x::caps) scope)(hc:X.calm=true)(hx:scope.names.lookup x=some .local)(hi:PI X (.Name x px) iter (j_ G E X.K di))(ht:∀C fp s₀ H₀,PIfs (dU X (x::caps) scope C fp s₀ H₀) ifs (bW G E c))(he:∀C fp s₀ H₀,PE (dU X (x::caps) scope C fp s₀ H₀) elt (ar G E e))(hs:∀v,foldedSetIterable iter X.env v=pure v:=by intro _;rfl):PE X (.ListComp elt [⟨.Name x px,iter,ifs,0⟩] scope pos) (ar G E (cK mk js di c e)):=PE.imp (AO B hc hx hi ht he hs) (vC hm)
theorem oR{y:Str}{py spos:Pos}(hm:jD G E mk)(B:fJ X.N X.env.scope js (x::caps) scope)(hc:X.calm=true)(hx:scope.names.lookup x=some .local)(hi:PI X (.Name x px) iter (j_ G E X.K di))(ht:∀C fp s₀ H₀,PIfs (dU X (x::caps) scope C fp s₀ H₀) ifs (bW G E c))(he:∀C fp s₀ H₀,PE (dU X (x::caps) scope C fp s₀ H₀) elt (ar G E e))(hN:X.N.Nodup)(hk:X.N[k]?=some y)(hy:X.env.scope.names.lookup y=some .local)(hsw:swapsWith (.ListComp elt [⟨.Name x px,iter,ifs,0⟩] scope pos) (some (.Name y py)) spos.line X.env=pure true)(hs:∀v,foldedSetIterable iter X.env v=pure v:=by intro _;rfl):PS X (.Assign [.Name y py] (.ListComp elt [⟨.Name x px,iter,ifs,0⟩] scope pos) spos) (dH G E (aP k (cK mk js di c e))):=by refine PS.imp (Bs B hc hx hi ht he hN hk hy hsw hs) fun D σ H zz_=>bu zz_ fun F as sl ce S P=>?_;refine vC (X:=X) hm σ H _ ((gU S P).mono fun x H1 zz_=>aZ zz_ fun wx F1 as1 ce1 l1 S1 rx P1=>?_);exact P1 _ H1 F1 as1 .refl (S1.put rx k)
end
mutual
def aV(n:Nat):W->Prop
 | .cel k=>k<n
 | .lst xs=>cI n xs
 | .tup xs=>cI n xs
 | .non=>True
 | .bl _=>True
 | .int _=>True
 | .str _=>True
 | .ty _=>True
def cI(n:Nat):List W->Prop
 | []=>True
 | x::xs=>aV n x/\cI n xs
end
mutual
theorem Rep.bel{F:Hp}{as:List Addr}:∀{w:W} {v:V},Rep F as w v->aV as.length w
 | .non,_,_=>by simp only[aV]
 | .bl _,_,_=>by simp only[aV]
 | .int _,_,_=>by simp only[aV]
 | .str _,_,_=>by simp only[aV]
 | .ty _,_,_=>by simp only[aV]
 | .lst xs,_,r=>by
  simp only[Rep] at r;obtain⟨a,vs,_,_,s⟩:=r;simp only[aV];exact ag.bel s
 | .tup xs,_,r=>by
  simp only[Rep] at r;obtain⟨a,vs,_,_,s⟩:=r;simp only[aV];exact ag.bel s
 | .cel k,_,r=>by
  simp only[Rep] at r;obtain⟨a,_,h⟩:=r;simp only[aV];exact dJ h
theorem ag.bel{F:Hp}{as:List Addr}:∀{ws:List W} {vs:List V},ag F as ws vs->cI as.length ws
 | [],_,_=>by simp only[cI]
 | _::_,_,r=>by
  simp only[ag] at r;obtain⟨v,vs',_,h,t⟩:=r;simp only[cI];exact⟨Rep.bel h,ag.bel t⟩
end
mutual
theorem Rep.cut{F:Hp}{as as':List Addr}{n:Nat}(hl:∀k,k<n->as'[k]?=as[k]?):∀{w:W} {v:V},aV n w->Rep F as w v->Rep F as' w v
 | .non,_,_,r=>by simpa only[Rep] using r
 | .bl _,_,_,r=>by simpa only[Rep] using r
 | .int _,_,_,r=>by simpa only[Rep] using r
 | .str _,_,_,r=>by simpa only[Rep] using r
 | .ty _,_,_,r=>by simpa only[Rep] using r
 | .lst xs,_,b,r=>by
  simp only[Rep] at r ⊢;simp only[aV] at b;obtain⟨a,vs,h1,h2,s⟩:=r;exact⟨a,vs,h1,h2,ag.cutS hl b s⟩
 | .tup xs,_,b,r=>by
  simp only[Rep] at r ⊢;simp only[aV] at b;obtain⟨a,vs,h1,h2,s⟩:=r;exact⟨a,vs,h1,h2,ag.cutS hl b s⟩
 | .cel k,_,b,r=>by
  simp only[Rep] at r ⊢;simp only[aV] at b;obtain⟨a,h1,h⟩:=r;exact⟨a,h1,by rw[hl k b];exact h⟩
theorem ag.cutS{F:Hp}{as as':List Addr}{n:Nat}(hl:∀k,k<n->as'[k]?=as[k]?):∀{ws:List W} {vs:List V},cI n ws->ag F as ws vs->ag F as' ws vs
 | [],_,_,r=>by simpa only[ag] using r
 | _::_,_,b,r=>by
  simp only[ag] at r ⊢;simp only[cI] at b;obtain⟨v,vs',h1,h,t⟩:=r;exact⟨v,vs',h1,Rep.cut hl b.1 h,ag.cutS hl b.2 t⟩
end
def eK(n:Nat):C->Prop
 | .lst xs=>cI n xs
 | .dct kvs=>∀p∈kvs,aV n p.2
 | .ins _ fs=>∀p∈fs,aV n p.2
 | .exn _=>True
 | .exm _ _ _=>True
 | .dead=>True
 | .fzd kvs=>∀p∈kvs,aV n p.2
 | .dtp kvs=>∀p∈kvs,aV n p.2
theorem az.bel{κ:Type}{F:Hp}{as:List Addr}{kvs:List (κ×W)}{ps:List (κ×V)}(r:az F as kvs ps):∀p∈kvs,aV as.length p.2:=by
 induction r with
 | nil=>simp
 | cons h t ih =>
  intro p hp;rcases mem_cons.mp hp with rfl|hp
  ·exact h.2.bel
  ·exact ih p hp
theorem az.cut{κ:Type}{F:Hp}{as as':List Addr}{n:Nat}(hl:∀k,k<n->as'[k]?=as[k]?){kvs:List (κ×W)}{ps:List (κ×V)}(b:∀p∈kvs,aV n p.2)(r:az F as kvs ps):az F as' kvs ps:=by
 induction r with
 | nil=>exact .nil
 | cons h t ih=>exact .cons ⟨h.1,h.2.cut hl (b _ mem_cons_self)⟩ (ih fun p hp=>b p (mem_cons_of_mem _ hp))
section
variable {c:C}
theorem cS.bel(h:cS G F as H a c):eK as.length c:=by
 cases c with
 | lst xs=>obtain⟨vs,_,r⟩:=h;exact r.bel
 | dct xs=>obtain⟨vs,_,r⟩:=h;exact r.bel
 | ins c xs=>obtain⟨dx,vs,_,r⟩:=h;exact r.bel
 | exn c=>trivial
 | exm c f n=>trivial
 | dead=>trivial
 | fzd xs=>obtain⟨o,ps,_,_,r⟩:=h;exact r.bel
 | dtp xs=>obtain⟨vs,_,r⟩:=h;exact r.bel
theorem cS.cut(hl:∀k,k<n->as'[k]?=as[k]?)(b:eK n c)(h:cS G F as H a c):cS G F as' H a c:=by
 cases c with
 | lst xs=>obtain⟨vs,e,r⟩:=h;exact⟨vs,e,r.cutS hl b⟩
 | dct xs=>obtain⟨vs,e,r⟩:=h;exact⟨vs,e,az.cut hl b r⟩
 | ins c xs=>obtain⟨dx,vs,e,r⟩:=h;exact⟨dx,vs,e,az.cut hl b r⟩
 | exn c=>exact h
 | exm c f n=>exact h
 | dead=>exact h
 | fzd xs=>obtain⟨o,ps,e1,e2,r⟩:=h;exact⟨o,ps,e1,e2,az.cut hl b r⟩
 | dtp xs=>obtain⟨vs,e,r⟩:=h;exact⟨vs,e,az.cut hl b r⟩
end
def gC(ce ce':Ce):Prop:=ce.length<=ce'.length/\∀(k:Nat) (c:C),k<ce.length->ce'[k]?=some c->ce[k]?=some c\/eK ce.length c
theorem jt{α:Type}{l:List α}(h:k<n):(l.take n)[k]?=l[k]?:=getElem?_take_of_lt h
theorem aw.cut(S:aw G F as H ce)(S':aw G F' as' H' ce')(l:Le F as F' as')(h:gC ce ce'):aw G F' (as'.take ce.length) H' (ce'.take ce.length)/\Le F as F' (as'.take ce.length):=by
 have hl:∀k,k<ce.length->(as'.take ce.length)[k]?=as'[k]?:=fun k hk=>jt hk;refine⟨⟨S'.sub,S'.nd.sublist (take_sublist _ _),by rw[length_take,length_take,S'.len],fun k a c h1 h2=>?_⟩,l.f,fun k a e=>?_⟩
 ·have hk:k<ce.length:=by have:=dJ h2;rw[length_take] at this;omega
  rw[jt hk] at h1 h2;obtain⟨q1,q2⟩:=S'.cell k a c h1 h2;refine⟨q1,q2.cut hl ?_⟩;rcases h.2 k c hk h2 with h3|h3
  ·obtain⟨a0,e0,_,q0⟩:=S.at h3;rw[<- S.len];exact q0.bel
  ·exact h3
 ·have hk:k<ce.length:=by rw[<- S.len];exact dJ e
  rw[jt hk];exact l.c k a e
open Classical in
def finC(ce ce':Ce)(w:W):Option (R W):=if gC ce ce'/\aV ce.length w then some (.ok w (ce'.take ce.length)) else none
open Classical in
def finO(ce ce':Ce)(w:W):Option (R W):=match w with
 | .cel k=>match ce'[k]? with
  | some c=>if gC ce ce'/\ce.length<=k/\eK ce.length c then some (.ok (.cel ce.length) (ce'.take ce.length++[c])) else none
  | none=>none
 | _=>none
def kG(_ce ce':Ce)(w:W):Option (R W):=some (.ok w ce')
def nu(G:Ga)(fin:Ce->Ce->W->Option (R W)):Prop:=∀(F F':Hp) (as as':List Addr) (H H':Hp) (ce ce':Ce) (w:W) (v:V) (r:R W),aw G F as H ce->aw G F' as' H' ce'->Le F as F' as'->Rep F' as' w v->fin ce ce' w=some r ->
 ∃w2 ce2 as2,r=.ok w2 ce2/\Le F as F' as2/\aw G F' as2 H' ce2/\Rep F' as2 w2 v
theorem qP:nu G kG:=fun F F' as as' H H' ce ce' w v r S S' l rw' e=>by
 cases e;exact⟨w,ce',as',rfl,l,S',rw'⟩
theorem eM:nu G finC:=fun F F' as as' H H' ce ce' w v r S S' l rw' e=>by
 unfold finC at e;split at e
 ·rename_i h;cases e;obtain⟨S2,l2⟩:=S.cut S' l h.1;exact⟨w,_,_,rfl,l2,S2,rw'.cut (fun k hk=>jt hk) h.2⟩
 ·cases e
theorem jj:nu G finO:=fun F F' as as' H H' ce ce' w v r S S' l rw' e=>by
 cases w<;>simp only[finO,reduceCtorEq] at e;rename_i k;split at e
 ·rename_i c hc;split at e
  ·rename_i h;obtain⟨h1,h2,h3⟩:=h;cases e;obtain⟨S2,l2⟩:=S.cut S' l h1;simp only[Rep] at rw';obtain⟨a,rfl,ha⟩:=rw';obtain⟨q1,q2⟩:=S'.cell k a c ha hc;have hlen:(as'.take ce.length).length=ce.length:=by rw[length_take,S'.len];exact min_eq_left h1.1
   have hlen2:(ce'.take ce.length).length=ce.length:=by rw[length_take];exact min_eq_left h1.1
   have l3:Le F' (as'.take ce.length) F' (as'.take ce.length++[a]):=⟨fun _ _ h=>h,fun j b hb=>by rw[getElem?_append_left (dJ hb)];exact hb⟩
   refine⟨_,_,as'.take ce.length++[a],rfl,l2.trans l3,⟨S'.sub,?_,by rw[length_append,length_append,hlen,hlen2];rfl,fun j b c' e1 e2=>?_⟩,?_⟩
   ·rw[nodup_append];refine⟨S2.nd,by simp,fun b hb d hd=>?_⟩;rw[mem_singleton] at hd;subst hd;rintro rfl;obtain⟨j,hj⟩:=getElem?_of_mem hb;have hj1:j<ce.length:=by have:=dJ hj;omega
    rw[jt hj1] at hj;have ha':=dJ ha;have hj':=dJ hj;rw[getElem?_eq_getElem ha'] at ha;rw[getElem?_eq_getElem hj'] at hj;have:=nJ S'.nd ha' hj' ((Option.some.inj ha).trans (Option.some.inj hj).symm);omega
   ·by_cases hj:j<ce.length
    ·rw[getElem?_append_left (by omega)] at e1 e2;obtain⟨p1,p2⟩:=S2.cell j b c' e1 e2;exact⟨p1,p2.le l3 rfl⟩
    ·rw[getElem?_append_right (by omega),hlen] at e1;rw[getElem?_append_right (by omega),hlen2] at e2;have hz:j-ce.length=0:=by
      cases q:j-ce.length with
      | zero=>rfl
      | succ m=>rw[q] at e1;simp at e1
     rw[hz] at e1 e2;simp at e1 e2;subst e1;subst e2;exact⟨q1,(q2.cut (n:=ce.length) (fun i hi=>jt hi) h3).le l3 rfl⟩
   ·simp only[Rep];exact⟨a,rfl,by rw[getElem?_append_right (by omega),hlen];simp⟩
  ·cases e
 ·cases e
open Classical in
def bJ(fin:Ce->Ce->W->Option (R W))(n:Nat)(body:DS):List W->M W:=fun ws ce=>match body (ws.map some++List.replicate (n-ws.length) none) ce with
 | some (.go (.rt w) _ ce')=>fin ce ce' w
 | some (.go .nx _ ce')=>fin ce ce' .non
 | some (.ex x ce')=>if gC ce ce' then some (.ex x (ce'.take ce.length)) else none
 | _=>none
def c_(G:Ga)(E:XK)(F:Hp)(as:List Addr)(Q:VK):Option (R W)->Prop
 | some (.ok w ce')=>∀v H' F' as',Le F as F' as'->aw G F' as' H' ce'->Rep F' as' w v->Q v H'
 | some (.ex x ce')=>∀H' F' as' cv od,Le F as F' as'->aw G F' as' H' ce'->G.xr x cv od F'->E cv od H'
 | none=>False
def gn(G:Ga)(fe:XK->XK)(n:Nat)(d:List W->M W):Sp:=fun vs H Q E=>vs.length=n/\∃F as ws ce,aw G F as H ce/\ag F as ws vs/\c_ G (fe E) F as Q (d ws ce)
theorem Fb(S:aw G F as H ce)(rs:ag F as ws vs)(N:List Str):SR G F as H (L2.start N vs) (ws.map some++List.replicate (N.length-ws.length) none) ce:=by
 have hl:=rs.length;refine⟨S,by unfold L2.start;simp[hl],fun i w h=>?_⟩;have hi:i<ws.length:=by
  by_cases hi:i<ws.length
  ·exact hi
  ·rw[getElem?_append_right (by simpa using hi),getElem?_replicate] at h;split at h<;>cases h
 rw[getElem?_append_left (by simpa using hi),getElem?_map] at h;cases e:ws[i]? with
 | none=>rw[e] at h;cases h
 | some w' =>
  rw[e] at h;simp only[map_some,Option.some.injEq] at h;subst h;obtain⟨v,h1,h2⟩:=rs.get e;refine⟨v,?_,h2⟩;unfold L2.start;rw[getElem?_append_left (by simp;omega),getElem?_map,h1];rfl
theorem Ew{fin:Ce->Ce->W->Option (R W)}{body:DS}(hf:nu G fin)(N:List Str)(S:aw G F as H ce)(rs:ag F as ws vs)(P:c_ G E F as Q (bJ fin N.length body ws ce)) :
  dH G E body { nx:=fun _ H'=>Q .non H',rt:=Q } (L2.start N vs) H:=by
 refine⟨F,as,_,ce,Fb S rs N,?_⟩;revert P;unfold bJ;have key:∀{w:W} {ce':Ce},c_ G E F as Q (fin ce ce' w)->∀v H' F' as',Le F as F' as'->aw G F' as' H' ce'->Rep F' as' w v->Q v H':=by
  intro w ce' P v H' F' as' l S' rw';cases e:fin ce ce' w with
  | none=>rw[e] at P;exact P.elim
  | some r =>
   obtain⟨w2,ce2,as2,rfl,l2,S2,r2⟩:=hf F F' as as' H H' ce ce' w v r S S' l rw' e;rw[e] at P;exact P v H' F' as2 l2 S2 r2
 cases body (ws.map some++List.replicate (N.length-ws.length) none) ce with
 | none=>exact fun P=>P
 | some o=>cases o with
  | ex x ce' =>
   intro P H' F' as' cv od l S' hx;dsimp only at P;split at P
   ·rename_i h;obtain⟨S2,l2⟩:=S.cut S' l h;exact P H' F' _ cv od l2 S2 hx
   ·exact P.elim
  | go f sl' ce'=>cases f with
   | nx=>exact fun P σ' H' F' as' l S'=>key P .non H' F' as' l S'.st (by simp only[Rep])
   | bk=>exact fun P=>P.elim
   | ct=>exact fun P=>P.elim
   | rt w=>exact fun P σ' H' F' as' l S' v r=>key P v H' F' as' l S'.st r
def bA(n:Nat)(f:List W->M W)(args:Sl->M (List W)):Sl->M W:=fun sl=>au (args sl) fun ws=>if ws.length=n then f ws else jQ
variable {CX:i4} {fd:FuncData} {fe:XK->XK}
section
variable {E1:XK} {f:Addr} {ps:List Str} {df:List W->M W} {x:Str}
theorem c_.of{σ:VS.St}{r:Option (R W)}(S:SR G F as H σ sl ce)(P:aG G E Rep F as σ sl Q r):c_ G E F as Q r:=by
 cases r with
 | none=>exact P
 | some r=>cases r with
  | ok w ce'=>exact fun v H' F' as' l S' rv=>P v H' F' as' l (S.slots S' l) rv
  | ex y ce'=>exact P
theorem cg(Fk:ay X.prog X.w X.K X.mg X.base CX k f fd ps (gn G fe n df))(hr:aR k X.A)(hg:Gl X x)(hm:X.mg x=some (.ref f))(hk:keepIn X.K (.ref f)=true)(hb:Binds X.K fd ps [])(hx:gh CX X E1)(ha:PA X (e::es) (fv G E dr))(hfe:fe E1=E:=by rfl)(hdb:(x==("__debug__" : Str))=false:=by decide)(he:starEach (e::es) X.env=(false,eval e X.env)::starEach es X.env:=by rfl)(hpl:(backTo pos (starEach es X.env)).any (·.1)=false:=by rfl) :
  PE X (.Call (.Name x p) (e::es) [] pos) (ar G E (bA n df dr)):=by
 refine PE.imp (EW Fk hr hg hm hk hb .nil hx ha hdb he hpl) fun σ H Q zz_=>bu zz_ fun F as sl ce S P=>(step (RP:=ag) S P).mono fun vs H1 zz_=>aZ zz_ fun ws F1 as1 ce1 l1 S1 rs P1=>?_;split at P1
 ·rename_i hn;rw[append_nil];exact⟨by rw[rs.length];exact hn,F1,as1,ws,ce1,S1.st,rs,by rw[hfe];exact c_.of S1 P1⟩
 ·exact(show False from P1).elim
end
open Classical in
def cY(d:List W->M W):List W->M W:=fun ws ce=>match d ws ce with
 | some (.ok (.cel k) ce')=>match ce'[k]? with
  | some (.lst xs)=>if gC ce ce'/\k=ce.length/\cI ce.length xs then some (.ok (.lst xs) (ce'.take ce.length)) else none
  | _=>none
 | some (.ok w ce')=>some (.ok w ce')
 | r=>r
theorem iM{P:Program}{w:World}{mg:Str->Option Value}{base:Heap}{f:Addr}{ps:List Str}{d:List W->M W}(h:ay P w K mg base CX k f fd ps (gn G fe n d)):ay P w K mg base CX k f fd ps (gn G fe n (cY d)):=by
 refine h.imp fun vs H Q E ⟨hl,F,as,ws,ce,S,rs,Pf⟩=>⟨hl,F,as,ws,ce,S,rs,?_⟩
 revert Pf;unfold cY;cases d ws ce with
 | none=>exact fun P=>P
 | some r=>cases r with
  | ex x ce'=>exact fun P=>P
  | ok w ce' =>
   cases w<;>first|exact fun P=>P|skip
   rename_i j;dsimp only;intro Pf v H' F' as' l S' rv;simp only[Rep] at rv;obtain⟨a,rfl,ha⟩:=rv;split at Pf
   ·rename_i xs hc;split at Pf
    ·rename_i h;obtain⟨h1,h2,h3⟩:=h;obtain⟨q1,vs',hH,rs'⟩:=S'.cell j a _ ha hc;have q1:=q1 rfl;obtain⟨S2,l2⟩:=S.cut S' l h1;have rs2:ag F' (as'.take ce.length) xs vs':=rs'.cutS (fun i hi=>jt hi) h3;have l3:Le F' (as'.take ce.length) (upd F' a (.lst vs')) (as'.take ce.length):=⟨fc q1,fun _ _ h=>h⟩
     refine Pf (.ref a) H' (upd F' a (.lst vs')) (as'.take ce.length) (l2.trans l3) ⟨fun b o e=>?_,S2.nd,S2.len,fun i b c e1 e2=>?_⟩ (by simp only[Rep];exact⟨a,vs',rfl,.inl ak,rs2.le l3⟩)
     ·by_cases hb:b=a
      ·subst hb;rw[ak] at e;cases e;exact hH
      ·rw[bj hb] at e;exact S2.sub _ _ e
     ·obtain⟨p1,p2⟩:=S2.cell i b c e1 e2;have hb:b≠a:=by
       rintro rfl;have hi:i<ce.length:=by have:=dJ e2;rw[length_take] at this;omega
       rw[jt hi] at e1;have a1:=dJ ha;have a2:=dJ e1;rw[getElem?_eq_getElem a1] at ha;rw[getElem?_eq_getElem a2] at e1;have:=nJ S'.nd a1 a2 ((Option.some.inj ha).trans (Option.some.inj e1).symm);omega
      exact⟨fun hn=>by rw[bj hb];exact p1 hn,p2.le l3 rfl⟩
    ·exact Pf.elim
   ·exact Pf.elim
def jM:List W->Option (List Int)
 | []=>some []
 | .int i::r=>(jM r).map (i::·)
 | _=>none
def kO:List W->Option (List Bool)
 | []=>some []
 | .bl i::r=>(kO r).map (i::·)
 | _=>none
def kh:List (Key×W)->Option (List Int)
 | []=>some []
 | (.inl i,_)::r=>(kh r).map (i::·)
 | _=>none
theorem yM:∀ns:List Int,jM (ns.map W.int)=some ns
 | []=>rfl
 | n::r=>by simp only[map_cons,jM,yM r,map_some]
theorem zq:∀ns:List Bool,kO (ns.map W.bl)=some ns
 | []=>rfl
 | n::r=>by simp only[map_cons,kO,zq r,map_some]
theorem sO:∀{ws:List W} {ns:List Int},jM ws=some ns->ws=ns.map W.int
 | [],ns,h=>by simp only[jM,Option.some.injEq] at h;subst h;rfl
 | w::r,ns,h=>by
  cases w<;>simp only[jM,reduceCtorEq,map_eq_some_iff] at h;obtain⟨ms,h1,rfl⟩:=h;rw[sO h1,map_cons]
theorem yL:∀{ws:List W} {ns:List Bool},kO ws=some ns->ws=ns.map W.bl
 | [],ns,h=>by simp only[kO,Option.some.injEq] at h;subst h;rfl
 | w::r,ns,h=>by
  cases w<;>simp only[kO,reduceCtorEq,map_eq_some_iff] at h;obtain⟨ms,h1,rfl⟩:=h;rw[yL h1,map_cons]
theorem sN:∀{kvs:List (Key×W)} {ns:List Int},kh kvs=some ns->kvs.map (·.1)=ns.map Sum.inl
 | [],ns,h=>by simp only[kh,Option.some.injEq] at h;subst h;rfl
 | (k,w)::r,ns,h=>by
  cases k<;>simp only[kh,reduceCtorEq,map_eq_some_iff] at h;obtain⟨ms,h1,rfl⟩:=h;rw[map_cons,sN h1,map_cons]
def fF(ns:List Int):List Int:=ns.mergeSort fun a b=>decide (a<=b)
theorem jr(ns:List Int):(fF ns).Perm ns:=mergeSort_perm ns _
theorem p_(ns:List Int):(fF ns).Pairwise (·<=·):=by
 have:=pairwise_mergeSort (le:=fun a b:Int=>decide (a<=b)) (fun a b c=>by simp;omega) (fun a b=>by simp;omega) ns;exact this.imp fun h=>by simpa using h
theorem qc:∀{a b:List Int},a.Perm b->a.Pairwise (·<=·)->b.Pairwise (·<=·)->a=b
 | [],b,p,_,_=>by rw[nil_perm] at p;exact p.symm
 | x::a,[],p,_,_=>by have:=p.length_eq;simp at this
 | x::a,y::b,p,sa,sb=>by
  rw[pairwise_cons] at sa sb;have h1:x=y:=by
   have hx:x∈y::b:=p.subset mem_cons_self;have hy:y∈x::a:=p.symm.subset mem_cons_self;rcases mem_cons.mp hx with e|hx
   ·exact e
   ·rcases mem_cons.mp hy with e|hy
    ·exact e.symm
    ·have:=sb.1 x hx;have:=sa.1 y hy;omega
  subst h1;rw[qc (List.Perm.cons_inv p) sa.2 sb.2]
theorem we{ms ns:List Int}(p:ms.Perm ns)(s:ms.Pairwise (·<=·)):ms=fF ns:=qc (p.trans (jr ns).symm) s (p_ ns)
def aT(f:List W->M W)(args:Sl->M (List W)):Sl->M W:=fun sl=>au (args sl) f
def Bi(G:Ga)(E:XK)(r:List V->Hp->VK->Prop)(f:List W->M W):Prop:=∀F as H σ sl ce ws vs Q,SR G F as H σ sl ce->ag F as ws vs->aG G E Rep F as σ sl Q (f ws ce)->r vs H Q
open Classical in
def bQ:List W->M W:=fun ws ce=>match ws with
 | [.str x]=>if x.length<=sizeLine then some (.ok (.int x.length) ce) else none
 | [w]=>match dg ce w with
  | some xs=>some (.ok (.int xs.length) ce)
  | none=>match lO ce w with
   | some kvs=>some (.ok (.int kvs.length) ce)
   | none=>none
 | _=>none
open Classical in
def eO(mk:List W->M W):List W->M W:=fun ws ce=>match ws with
 | [w]=>match bP ce w with
  | some xs=>match jM xs with
   | some ns=>if ns.length<64 then mk ((fF ns).map W.int) ce else none
   | none=>none
  | none=>match je ce w with
   | some kvs=>match kh kvs with
    | some ns=>if ns.length<64 then mk ((fF ns).map W.int) ce else none
    | none=>none
   | none=>none
 | _=>none
def gS(mk:List W->M W):List W->M W:=fun ws ce=>match ws with
 | [w]=>match dg ce w with
  | some xs=>mk xs ce
  | none=>match je ce w with
   | some kvs=>match kh kvs with
    | some ns=>mk (ns.map W.int) ce
    | none=>none
   | none=>none
 | _=>none
def fD:List W->M W:=fun ws ce=>match ws with
 | [.tup xs]=>some (.ok (.tup xs) ce)
 | [w]=>match bP ce w with
  | some xs=>qB xs ce
  | none=>none
 | _=>none
def lN:List W->M W:=fun ws ce=>match ws with
 | [w]=>match bP ce w with
  | some xs=>match kO xs with
   | some bs=>some (.ok (.bl (bs.all id)) ce)
   | none=>none
  | none=>none
 | _=>none
def JF:List W->M W:=fun ws ce=>match ws with
 | [.int i,.int j]=>some (.ok (.int (if j<i then j else i)) ce)
 | _=>none
def JE:List W->M W:=fun ws ce=>match ws with
 | [.int i,.int j]=>some (.ok (.int (if j>i then j else i)) ce)
 | _=>none
def jz(ce:Ce):W->Option String
 | .non=>some "NoneType"
 | .bl _=>some "bool"
 | .int _=>some "int"
 | .str _=>some "str"
 | .lst _=>some "list"
 | .tup _=>some "tuple"
 | .cel k=>match ce[k]? with
  | some (.lst _)=>some "list"
  | some (.dct _)=>some "dict"
  | _=>none
 | .ty _=>none
def qO(a b:String):Bool:=a==b||(a == "bool" && b == "int")
def kinds:List String:=["NoneType", "bool", "int", "str", "list", "tuple", "dict"]
theorem GP(K:Frag):∀a∈kinds,∀b∈["int", "bool", "list", "tuple", "str", "dict"],kitOne K (.type a) (.type b)=some (qO a b):=by
 have h:∀a∈kinds,∀b∈["int", "bool", "list", "tuple", "str", "dict"],(fun _:Unit=>kitOne K (.type a) (.type b)) ()=some (qO a b):=by intro a ha b hb;simp only[kinds,mem_cons,not_mem_nil,or_false] at ha hb;rcases ha with rfl|rfl|rfl|rfl|rfl|rfl|rfl<;>rcases hb with rfl|rfl|rfl|rfl|rfl|rfl<;>kernel_rfl
 exact h
def i_:List W->M W:=fun ws ce=>match ws with
 | [w,.ty T]=>match jz ce w with
  | some t=>if (kinds.contains t&&["int", "bool", "list", "tuple", "str", "dict"].contains T)=true then some (.ok (.bl (qO t T)) ce) else none
  | none=>none
 | _=>none
theorem aO.or{f:Value}{r r':List V->Hp->VK->Prop}(h:aO X f r)(h':aO X f r'):aO X f (fun xs H Q=>r xs H Q\/r' xs H Q):=by
 intro pins s σ H xs us Q I rx q;rcases q with q|q
 ·exact h pins s σ H xs us Q I rx q
 ·exact h' pins s σ H xs us Q I rx q
theorem iz(h:ag F as [w] vs):∃v,vs=[v]/\Rep F as w v:=by simp only[ag] at h;obtain⟨v,r,rfl,h1,rfl⟩:=h;exact⟨v,rfl,h1⟩
theorem wR{w':W}(h:ag F as [w,w'] vs):∃v v',vs=[v,v']/\Rep F as w v/\Rep F as w' v':=by simp only[ag] at h;obtain⟨v,r,rfl,h1,v',r',rfl,h2,rfl⟩:=h;exact⟨v,v',rfl,h1,h2⟩
def vp(K:Frag):List V->Hp->VK->Prop:=fun xs H Q=>(∃x n,xs=[x]/\uH K x H n/\Q (.int n) H)\/∃a kvs,xs=[V.ref a]/\H a=some (.dK kvs)/\Q (.int kvs.length) H
theorem f_(hK:X.K=K:=by rfl):aO X (.builtin "len") (vp K):=by subst hK;exact aO.or GJ HE
theorem fZ(K:Frag):Bi G E (vp K) bQ:=by
 intro F as H σ sl ce ws vs Q S rs P;unfold bQ at P;split at P
 ·rename_i x;split at P
  ·rename_i hl;obtain⟨v,rfl,r⟩:=iz rs;simp only[Rep] at r;subst r;exact .inl ⟨_,_,rfl,⟨hl,rfl⟩,P.done S (by simp only[Rep])⟩
  ·exact P.elim
 ·rename_i w _;obtain⟨v,rfl,r⟩:=iz rs;split at P
  ·rename_i xs hx;obtain⟨a,us,rfl,h,rs'⟩:=ph S.st r hx;refine .inl ⟨_,us.length,rfl,?_,P.done S (by simp only[Rep];rw[rs'.length])⟩;rcases h with h|h
   ·exact .inl ⟨us,.inl h,rfl⟩
   ·exact .inr ⟨us,.inl h,rfl⟩
  ·split at P
   ·rename_i kvs hd;obtain⟨n,a,ps,rfl,rfl,ha,hH,rk⟩:=wX S.st r hd;exact .inr ⟨a,ps,rfl,hH,P.done S (by simp only[Rep];rw[rk.length])⟩
   ·exact P.elim
 ·exact P.elim
def uQ(K:Frag):List V->Hp->VK->Prop:=fun xs H Q=>D4 K xs H Q\/∃(a:Addr) (kvs:List (Key×V)) (ns:List Int),xs=[.ref a]/\Rd H a (.dK kvs)/\kvs.map (·.1)=ns.map Sum.inl/\ns.length<64 /\
  ∀ms:List Int,ms.Perm ns->ms.Pairwise (·<=·)->∀l,H l=none->Q (.ref l) (upd H l (.lst (ms.map V.int)))
theorem ma(hc:X.calm=true:=by rfl)(hK:X.K=K:=by rfl):aO X (.builtin "sorted") (uQ K):=by subst hK;exact aO.or HY (Ij hc)
theorem az.keys{kvs:List (Key×W)}(r:az F as kvs ps):ps.map (·.1)=kvs.map (·.1):=by
 induction r with
 | nil=>rfl
 | cons h t ih=>rw[map_cons,map_cons,ih,h.1]
theorem l_(K:Frag)(hm:jD G E mk):Bi G E (uQ K) (eO mk):=by
 intro F as H σ sl ce ws vs Q S rs P;unfold eO at P;split at P
 ·rename_i w;obtain⟨v,rfl,r⟩:=iz rs;split at P
  ·rename_i xs hx;split at P
   ·rename_i ns hi;split at P
    ·rename_i h64;obtain⟨a,us,rfl,h,rs'⟩:=g7 S.st r hx;cases sO hi;cases rs'.of_ints;refine .inl ⟨a,ns,rfl,.inl h,h64,fun ms p s l hl=>?_⟩;rw[we p s];exact(hm S (ag.ints (fF ns)) P).2 l hl
    ·exact P.elim
   ·exact P.elim
  ·split at P
   ·rename_i kvs hd;split at P
    ·rename_i ns hk;split at P
     ·rename_i h64;obtain⟨n,a,ps,rfl,rfl,ha,hH,rk⟩:=yk S.st r hd;refine .inr ⟨a,ps,ns,rfl,hH,by rw[rk.keys];exact sN hk,h64,fun ms p s l hl=>?_⟩;rw[we p s];exact(hm S (ag.ints (fF ns)) P).2 l hl
     ·exact P.elim
    ·exact P.elim
   ·exact P.elim
 ·exact P.elim
def vo(K:Frag):List V->Hp->VK->Prop:=fun xs H Q=>D3 K xs H Q\/∃(a:Addr) (kvs:List (Key×V)) (ns:List Int),xs=[.ref a]/\Rd H a (.dK kvs)/\kvs.map (·.1)=ns.map Sum.inl/\∀l,H l=none->Q (.ref l) (upd H l (.lst (ns.map V.int)))
theorem mE(hc:X.calm=true:=by rfl)(hK:X.K=K:=by rfl):aO X (.type "list") (vo K):=by subst hK;exact aO.or Ik (HI hc)
theorem mD(K:Frag)(hm:jD G E mk):Bi G E (vo K) (gS mk):=by
 intro F as H σ sl ce ws vs Q S rs P;unfold gS at P;split at P
 ·rename_i w;obtain⟨v,rfl,r⟩:=iz rs;split at P
  ·rename_i xs hx;obtain⟨a,us,rfl,h,rs'⟩:=ph S.st r hx;exact .inl ⟨a,us,rfl,h.imp .inl .inl,(hm S rs' P).2⟩
  ·split at P
   ·rename_i kvs hd;split at P
    ·rename_i ns hk;obtain⟨n,a,ps,rfl,rfl,ha,hH,rk⟩:=yk S.st r hd;exact .inr ⟨a,ps,ns,rfl,hH,by rw[rk.keys];exact sN hk,(hm S (ag.ints ns) P).2⟩
    ·exact P.elim
   ·exact P.elim
 ·exact P.elim
theorem mH(K:Frag):Bi G E (vF K) fD:=by
 intro F as H σ sl ce ws vs Q S rs P;unfold fD at P;split at P
 ·rename_i xs;obtain⟨v,rfl,r⟩:=iz rs;have r':=r;simp only[Rep] at r;obtain⟨a,us,rfl,h,rs'⟩:=r;exact⟨a,us,rfl,.inr ⟨.inl (.inl (S.st.sub _ _ h)),P.done S r'⟩⟩
 ·rename_i w _;obtain⟨v,rfl,r⟩:=iz rs;split at P
  ·rename_i xs hx;obtain⟨a,us,rfl,h,rs'⟩:=g7 S.st r hx;exact⟨a,us,rfl,.inl ⟨.inl h,(wW S rs' P).2⟩⟩
  ·exact P.elim
 ·exact P.elim
theorem vn(K:Frag):Bi G E (uD K) lN:=by
 intro F as H σ sl ce ws vs Q S rs P;unfold lN at P;split at P
 ·obtain⟨v,rfl,r⟩:=iz rs;split at P
  ·rename_i xs hx;split at P
   ·rename_i bs hb;obtain⟨a,us,rfl,h,rs'⟩:=g7 S.st r hx;cases yL hb;cases rs'.of_bools;exact⟨a,bs,rfl,.inl h,P.done S (by simp only[Rep])⟩
   ·exact P.elim
  ·exact P.elim
 ·exact P.elim
theorem CI(S:aw G F as H ce)(r:Rep F as w v){t:String}(e:jz ce w=some t)(K:Frag):cQ K H v (.type t):=by
 have lst:∀{a:Addr} {vs:List V},Rd H a (.lst vs)->cQ K H (.ref a) (.type "list"):=fun {a vs} h=>by
  rcases h with h|⟨o,h⟩
  ·exact .lst h
  ·exact .frz h
 cases w with
 | non=>simp only[jz,Option.some.injEq] at e;simp only[Rep] at r;subst e r;exact .non
 | bl b=>simp only[jz,Option.some.injEq] at e;simp only[Rep] at r;subst e r;exact .bl b
 | int b=>simp only[jz,Option.some.injEq] at e;simp only[Rep] at r;subst e r;exact .int b
 | str b=>simp only[jz,Option.some.injEq] at e;simp only[Rep] at r;subst e r;exact .str b
 | ty b=>simp only[jz,reduceCtorEq] at e
 | lst xs =>
  simp only[jz,Option.some.injEq] at e;simp only[Rep] at r;obtain⟨a,vs,rfl,h,_⟩:=r;subst e;exact lst (Rd.sub S h)
 | tup xs =>
  simp only[jz,Option.some.injEq] at e;simp only[Rep] at r;obtain⟨a,vs,rfl,h,_⟩:=r;subst e;exact .tup (S.sub _ _ h)
 | cel k =>
  simp only[Rep] at r;obtain⟨a,rfl,h⟩:=r;simp only[jz] at e;split at e
  ·rename_i hc;cases e;obtain⟨_,vs,h2,rs⟩:=S.cell _ _ _ h hc;exact .lst h2
  ·rename_i hc;cases e;obtain⟨_,vs,h2,rs⟩:=S.cell _ _ _ h hc;exact .dK h2
  ·cases e
section
variable {x:Str} {id T:String} {r:List V->Hp->VK->Prop} {f:List W->M W}
theorem lZ(K:Frag):Bi G E (qE K) i_:=by
 intro F as H σ sl ce ws vs Q S rs P;unfold i_ at P;split at P
 ·rename_i w T;obtain⟨v,v',rfl,r,r'⟩:=wR rs;simp only[Rep] at r';subst r';split at P
  ·rename_i t ht;split at P
   ·rename_i hk;rw[and_eq_true,contains_iff_mem,contains_iff_mem] at hk;exact⟨v,T,_,_,rfl,CI S.st r ht K,GP K t hk.1 T hk.2,P.done S (by simp only[Rep])⟩
   ·exact P.elim
  ·exact P.elim
 ·exact P.elim
theorem cU(hc:aO X (.builtin id) r)(hf:Bi G E r f)(hg:Gl X x)(hm:X.mg x=none)(hv:bootBuiltins x=some (.builtin id))(ha:PA X (e::es) (fv G E dr))(hn:x ≠ "__name__" := by decide)(hdb:(x==("__debug__" : Str))=false:=by decide)(he:starEach (e::es) X.env=(false,eval e X.env)::starEach es X.env:=by rfl)(hpl:(backTo pos (starEach es X.env)).any (·.1)=false:=by rfl):PE X (.Call (.Name x p) (e::es) [] pos) (ar G E (aT f dr)) :=
 PE.imp (yf hc hg hm hv ha hn hdb he hpl) fun σ H Q zz_=>bu zz_ fun F as sl ce S P=>(step (RP:=ag) S P).mono fun vs H1 zz_=>aZ zz_ fun ws F1 as1 ce1 l1 S1 rs P1=>hf F1 as1 H1 σ sl ce1 ws vs Q S1 rs P1
theorem e_(hc:aO X (.type T) r)(hf:Bi G E r f)(hg:Gl X x)(hm:X.mg x=none)(hv:bootBuiltins x=some (.type T))(ha:PA X (e::es) (fv G E dr))(hn:x ≠ "__name__" := by decide)(hdb:(x==("__debug__" : Str))=false:=by decide)(he:starEach (e::es) X.env=(false,eval e X.env)::starEach es X.env:=by rfl)(hpl:(backTo pos (starEach es X.env)).any (·.1)=false:=by rfl):PE X (.Call (.Name x p) (e::es) [] pos) (ar G E (aT f dr)) :=
 PE.imp (Hv hc hg hm hv ha hn hdb he hpl) fun σ H Q zz_=>bu zz_ fun F as sl ce S P=>(step (RP:=ag) S P).mono fun vs H1 zz_=>aZ zz_ fun ws F1 as1 ce1 l1 S1 rs P1=>hf F1 as1 H1 σ sl ce1 ws vs Q S1 rs P1
open Classical in
def Jw(mk:List W->M W):List W->M W:=fun ws ce=>match kH ws with
 | some (.rng lo n)=>if n<=sizeLine then mk ((List.range n).map fun(i:Nat)=>W.int (lo+(i:Int))) ce else none
 | _=>none
def i9(ce:Ce)(w:W):Option Unit:=(bP ce w).map fun _=>()
def cO(f:W->List W->M W)(o:Sl->M W)(args:Sl->M (List W)):Sl->M W:=fun sl=>au (o sl) fun x=>au (look fun ce=>i9 ce x) fun _=>au (args sl) fun ws=>f x ws
def Mt(G:Ga)(E:XK)(r:V->List V->Hp->VK->Prop)(f:W->List W->M W):Prop:=∀F as H σ sl ce w v ws vs Q,SR G F as H σ sl ce->Rep F as w v->ag F as ws vs->aG G E Rep F as σ sl Q (f w ws ce)->r v vs H Q
variable {o:Expr} {name:Str} {apos cpos:Pos} {do':Sl->M W} {rm:V->List V->Hp->VK->Prop} {fm:W->List W->M W}
theorem yK{σ:VS.St}{k:Unit->M W}(P:aG G E Rep F as σ sl Q (au (look fun ce=>i9 ce w) k ce)):∃xs,bP ce w=some xs/\aG G E Rep F as σ sl Q (k () ce):=by
 revert P;simp only[au,look,i9];cases bP ce w with
 | none=>exact fun P=>P.elim
 | some xs=>exact fun P=>⟨xs,rfl,P⟩
theorem fB(slot:Slot "list" name id)(hty:typeOf (.builtin id)=pure (.type "method_descriptor"))(hm:oE X id rm)(hf:Mt G E rm fm)(ho:PE X o (ar G E do'))(ha:PA X (e::es) (fv G E dr))(hbase:attributeBase o name X.env (eval o X.env)=eval o X.env:=by rfl)(hfew:((backTo cpos (starEach (e::es) X.env)).all (fun x=>!x.1)&&(backToKw cpos (keywordEach [] X.env)).all (fun x=>x.1.isSome)
   && decide ((e::es).length+([]:List Keyword).length+(if ([]:List Keyword).isEmpty then 0 else 1)<30))=true:=by rfl)(hline:(apos.endLine==cpos.line)=true:=by rfl)(hs:starEach (e::es) X.env=(false,eval e X.env)::starEach es X.env:=by rfl)(hplain:(backTo cpos (starEach es X.env)).any (·.1)=false:=by rfl) :
  PE X (.Call (.Attribute o name apos) (e::es) [] cpos) (ar G E (cO fm do' dr)):=by
 refine PE.imp (AR PySem.F.plainAttrs_list slot hty hm ho ha hbase hfew hline hs hplain) fun σ H Q zz_=>bu zz_ fun F as sl ce S P=>(step S P).mono fun x H1 zz_=>aZ zz_ fun wx F1 as1 ce1 l1 S1 rx P1=>?_;obtain⟨xs,hx,P2⟩:=yK P1;obtain⟨a,us,rfl,h,_⟩:=g7 S1.st rx hx;refine⟨.inl ⟨rfl,us,.inl h⟩,(step (RP:=ag) S1 P2).mono fun vs H2 zz_=>aZ zz_ fun ws F2 as2 ce2 l2 S2 rs P3=>?_⟩;exact hf F2 as2 H2 σ sl ce2 wx _ ws vs Q S2 (rx.le l2) rs P3
def nk(f:W->List W->M W)(o:Sl->M W):Sl->M W:=fun sl=>au (o sl) fun x=>au (look fun ce=>i9 ce x) fun _=>f x []
theorem CH(slot:Slot "list" name id)(hty:typeOf (.builtin id)=pure (.type "method_descriptor"))(hm:oE X id rm)(hf:Mt G E rm fm)(ho:PE X o (ar G E do'))(hbase:attributeBase o name X.env (eval o X.env)=eval o X.env:=by rfl)(hline:(apos.endLine==cpos.line)=true:=by rfl):PE X (.Call (.Attribute o name apos) [] [] cpos) (ar G E (nk fm do')):=by refine PE.imp (Cm PySem.F.plainAttrs_list slot hty hm ho hbase hline) fun σ H Q zz_=>bu zz_ fun F as sl ce S P=>(step S P).mono fun x H1 zz_=>aZ zz_ fun wx F1 as1 ce1 l1 S1 rx P1=>?_;obtain⟨xs,hx,P2⟩:=yK P1;obtain⟨a,us,rfl,h,_⟩:=g7 S1.st rx hx;exact⟨.inl ⟨rfl,us,.inl h⟩,hf F1 as1 H1 σ sl ce1 wx _ [] [] Q S1 rx ag.nil P2⟩
open Classical in
def cM:W->List W->M W:=fun w ws ce=>match ja ce w,ws with
 | some (k,xs),[y]=>if xs.length<sizeLine then some (.ok .non (ce.set k (.lst (xs++[y])))) else none
 | _,_=>none
def nj:W->List W->M W:=fun w ws ce=>match ja ce w,ws with
 | some (k,xs),[]=>match xs[xs.length-1]? with
  | some y=>some (.ok y (ce.set k (.lst xs.dropLast)))
  | none=>none
 | _,_=>none
open Classical in
def ni:W->List W->M W:=fun w ws ce=>match ja ce w,ws with
 | some (k,xs),[y]=>match bP ce y with
  | some ys=>if xs.length+ys.length<=sizeLine then some (.ok .non (ce.set k (.lst (xs++ys)))) else none
  | none=>none
 | _,_=>none
theorem fY:Mt G E xm cM:=by
 intro F as H σ sl ce w v ws vs Q S rw' rs P;unfold cM at P;split at P
 ·rename_i k xs y hk;split at P
  ·rename_i hl;obtain⟨a,us,rfl,ha,hH,r⟩:=n8 S.st rw' hk;obtain⟨u,rfl,ry⟩:=iz rs;refine⟨a,us,u,rfl,rfl,hH,by rw[r.length];exact hl,?_⟩;exact P .non _ F as .refl (S.slots (S.st.write (o:=.lst (us++[u])) (c:=.lst (xs++[y])) ha ⟨_,ak,r.append (.cons ry .nil)⟩) .refl) (by simp only[Rep])
  ·exact(show False from P).elim
 ·exact(show False from P).elim
theorem Bc:Mt G E uE nj:=by
 intro F as H σ sl ce w v ws vs Q S rw' rs P;unfold nj at P;split at P
 ·rename_i k xs hk;split at P
  ·rename_i y hy;obtain⟨a,us,rfl,ha,hH,r⟩:=n8 S.st rw' hk;simp only[ag] at rs;obtain⟨u,hu,ru⟩:=r.get hy;refine⟨a,us,u,rfl,rs,hH,by rw[r.length];exact hu,?_⟩;exact P u _ F as .refl (S.slots (S.st.write (o:=.lst us.dropLast) (c:=.lst xs.dropLast) ha ⟨_,ak,r.dropLast⟩) .refl) ru
  ·exact(show False from P).elim
 ·exact(show False from P).elim
def vm:V->List V->Hp->VK->Prop:=fun x vs H Q=>∃l b xs zs,x=.ref l/\vs=[.ref b]/\H l=some (.lst xs)/\Rd H b (.lst zs)/\xs.length+zs.length<=sizeLine/\Q .non (upd H l (.lst (xs++zs)))
theorem Eu:oE X "list.extend" vm:=by
 intro pins s σ H x vs v us Q I rx rv h;obtain⟨l,b,xs,zs,rfl,rfl,hH,hB,hz,q⟩:=h;cases rx;obtain⟨u,rfl,ru⟩:=rv.one;cases ru;obtain⟨z,its,n,r,hl,e⟩:=I.lstM hH;obtain⟨z2,its2,n2,r2,hl2,e2⟩:=Inv.lstR I hB;have hsz:its.toArray.size+its2.toArray.size<=sizeLine:=by rw[size_toArray,size_toArray];omega
 have hlong:¬(!its.toArray.isEmpty&&Builtin.List.listTooLong (its.toArray.size+its2.toArray.size))=true:=by rw[ye hsz,Bool.and_false];exact Bool.false_ne_true
 refine call_meets F.slot_list_extend ⟨_,e,rfl⟩ F.entry_list_extend (F.args_list_extend_2 _ _)
  (AutoSeq1.list_extend_list_list_0 l its.toArray n b its2.toArray n2 hlong (by rw[size_toArray];omega) (by omega)) ⟨e,e2,?_⟩
 refine⟨.non,_,I.lset (its':=its++its2) hH e (by simp) (r.append r2) ?_,rfl,q⟩;rw[length_append];omega
theorem Bb:Mt G E vm ni:=by
 intro F as H σ sl ce w v ws vs Q S rw' rs P;unfold ni at P;split at P
 ·rename_i k xs y hk;split at P
  ·rename_i ys hy;split at P
   ·rename_i hl;obtain⟨a,us,rfl,ha,hH,r⟩:=n8 S.st rw' hk;obtain⟨u,rfl,ry⟩:=iz rs;obtain⟨b,zs,rfl,hb,r2⟩:=g7 S.st ry hy;refine⟨a,b,us,zs,rfl,rfl,hH,hb,by rw[r.length,r2.length];exact hl,?_⟩;exact P .non _ F as .refl (S.slots (S.st.write (o:=.lst (us++zs)) (c:=.lst (xs++ys)) ha ⟨_,ak,r.append r2⟩) .refl) (by simp only[Rep])
   ·exact(show False from P).elim
  ·exact(show False from P).elim
 ·exact(show False from P).elim
variable {a:Expr}
open Classical in
def oI(mk:List W->M W)(xs:List W)(y:W):M W:=fun ce=>match y with
 | .int k=>@ite _ (-9223372036854775808<=k/\k<9223372036854775808/\xs.length*k.toNat<=sizeLine) (Classical.propDecidable _) (mk (List.replicate k.toNat xs).flatten ce) none
 | _=>none
open Classical in
def qy(n:Nat):M Unit:=fun ce=>if n<=sizeLine then some (.ok () ce) else none
def fX(mk:List W->M W)(a:Sl->M (List W))(b:Sl->M W):Sl->M W:=fun sl=>au (a sl) fun xs=>au (qy xs.length) fun _=>au (b sl) fun y=>oI mk xs y
theorem mL{ds:Sl->M (List W)}{lpos:Pos}(hm:jD G E mk)(ha:PA X es (fv G E ds))(hb:PE X b (ar G E db)):PE X (.BinOp (.List es lpos) .Mult b pos) (ar G E (fX mk ds db)):=by
 refine PE.imp (qT Cj (rS ha) hb) fun σ H Q zz_=>bu zz_ fun F as sl ce S P=>(step (RP:=ag) S P).mono fun vs H1 zz_=>aZ zz_ fun ws F1 as1 ce1 l1 S1 rs P1=>?_;have q:ws.length<=sizeLine/\aG G E Rep F1 as1 σ sl Q (au (db sl) (fun y=>oI mk ws y) ce1):=by
  revert P1;unfold qy
  by_cases hl:ws.length<=sizeLine
  ·simp only[au,if_pos hl];exact fun P=>⟨hl,P⟩
  ·simp only[au,if_neg hl];exact fun P=>P.elim
 obtain⟨hlen,P1⟩:=q;rw[<- rs.length] at hlen;refine⟨hlen,fun p hp=>?_⟩;obtain⟨S2,l2⟩:=S1.st.freeze (o:=.lst vs) hp;refine(step (S1.slots S2 l2) (P1.le l2)).mono fun y H2 zz_=>aZ zz_ fun wy F2 as2 ce2 l3 S3 ry P2=>?_;unfold oI at P2;cases wy<;>first|exact(show False from P2).elim|skip
 rename_i k;dsimp only at P2;split at P2
 ·rename_i hk;simp only[Rep] at ry;refine⟨p,k,vs,rfl,ry,S3.st.sub _ _ (l3.f _ _ ak),by omega,by omega,by rw[rs.length];exact hk.2.2,?_⟩;exact(hm S3 (((rs.le l2).le l3).rep k.toNat) P2).2
 ·exact(show False from P2).elim
theorem E_{i:Int}(hg:Gl X x)(hm:∃t,X.mg x=some (.int i t))(hd:(x==("__debug__" : Str))=false:=by decide):PE X (.Name x pos) (ar G E (dC (.int i))):=by obtain⟨t,hm⟩:=hm;exact lR (sr (v:=.int i) hg hm ⟨t,rfl⟩ hd) rfl
theorem lY{n:String}(hg:Gl X x)(hm:X.mg x=none)(hv:bootBuiltins x=some (.type n))(hn:x ≠ "__name__" := by decide)(hd:(x==("__debug__" : Str))=false:=by decide):PE X (.Name x pos) (ar G E (dC (.ty n))):=lR (xj (v:=.ty n) hg hm hv rfl hn hd) rfl
end
section
variable {a:Expr}
def fj:W->W->Option W:=i2 fun i j=>.bl (decide (i=j))
def jH:W->W->Option W:=i2 fun i j=>.bl (!decide (i=j))
theorem CG:lH zW fj:=by intro x y w e;cases x<;>cases y<;>simp only[fj,i2,Option.some.injEq,reduceCtorEq] at e;subst e;exact⟨_,_,_,rfl,rfl,rfl,fun H Q hq=>⟨rfl,by simpa using hq⟩⟩
theorem CF:lH zV jH:=by intro x y w e;cases x<;>cases y<;>simp only[jH,i2,Option.some.injEq,reduceCtorEq] at e;subst e;exact⟨_,_,_,rfl,rfl,rfl,fun H Q hq=>⟨rfl,by simpa using hq⟩⟩
theorem jn(ha:PE X a (ar G E da))(hb:PE X b (ar G E db)):PT X (.Compare a [.Eq] [b] pos) (bW G E (dB (aJ fj da db))):=jP A4 ha hb (ip _) (iP (kS CG))
theorem rg(ha:PE X a (ar G E da))(hb:PE X b (ar G E db)):PT X (.Compare a [.NotEq] [b] pos) (bW G E (dB (aJ jH da db))):=jP A3 ha hb (ip _) (iP (kS CF))
def nN(k v:Sl->M W):Sl->M W:=fun sl ce=>match au (k sl) (fun kw=>au (v sl) fun vw=>ret (kw,vw)) (ce++[.dct []]) with
 | some (.ok (kw,vw) ce2)=>match hZ kw,ce2[ce.length]? with
  | some key,some (.dct [])=>some (.ok (.cel ce.length) (ce2.set ce.length (.dct [(key,vw)])))
  | _,_=>none
 | some (.ex x ce2)=>some (.ex x ce2)
 | none=>none
theorem E9{k v:Expr}{dk dv:Sl->M W}(hk:PE X k (ar G E dk))(hv:PE X v (ar G E dv)):PE X (.Dict [some k] [v] pos) (ar G E (nN dk dv)):=by
 refine PE.imp (DW (Fg hk hv DX) rfl rfl (by intro h;cases h) (by simp)) fun σ H Q zz_=>bu zz_ fun F as sl ce S P=>?_;intro p hp;obtain⟨S1,l1⟩:=S.st.alloc (o:=.dK []) (c:=.dct []) hp (fun as' l=>⟨[],ak,.nil⟩);have hlen:as.length=ce.length:=S.st.len;have P':aG G E (fun F as (a:W×W) (b:V×V)=>Rep F as a.1 b.1/\Rep F as a.2 b.2) F (as++[p]) σ sl (fun b H2=>H2 p=some (.dK [])/\∃kvs:List (Key×V),[b]=kvs.map (fun kv=>(kV kv.1,kv.2))/\kvs.length<=15/\Q (.ref p) (upd H2 p (.dK (kT [] kvs))))
   (au (dk sl) (fun kw=>au (dv sl) fun vw=>ret (kw,vw)) (ce++[.dct []])):=by
  unfold nN at P;cases e:au (dk sl) (fun kw=>au (dv sl) fun vw=>ret (kw,vw)) (ce++[.dct []]) with
  | none=>rw[e] at P;exact P.elim
  | some r=>cases r with
   | ex x ce2=>rw[e] at P;exact fun H' F' as' cv od l=>P H' F' as' cv od (l1.trans l)
   | ok a ce2 =>
    obtain⟨kw,vw⟩:=a;rw[e] at P;dsimp only at P;split at P
    ·rename_i key hkey hcell;intro b H' F' as' l S' r;obtain⟨kv,vv⟩:=b;have hp':as'[ce.length]?=some p:=l.c _ _ (by rw[<- hlen];simp);obtain⟨_,ps,h2,rk⟩:=S'.st.cell _ _ _ hp' hcell;cases rk;have rput:az F' as' [(key,vw)] [(key,vv)]:=.cons ⟨rfl,r.2⟩ .nil;refine⟨h2,[(key,vv)],?_,by simp,?_⟩
     ·simp only[map_cons,map_nil];rw[show kv=kV key from si r.1 hkey]
     ·exact P (.ref p) _ F' as' (l1.trans l) (S'.slots (S'.st.write (o:=.dK (kT [] [(key,vv)])) (c:=.dct [(key,vw)]) hp' ⟨_,ak,rput⟩) .refl) (by simp only[Rep];exact⟨p,rfl,hp'⟩)
    ·exact P.elim
 refine(step (S.slots S1 l1) P').mono fun x H1 zz_=>aZ zz_ fun wx F1 as1 ce1 l2 S2 rx P1=>(step S2 P1).mono fun y H2 zz_=>aZ zz_ fun wy F2 as2 ce2 l3 S3 ry P2=>?_;exact aG.done (RP:=fun F as (a:W×W) (b:V×V)=>Rep F as a.1 b.1/\Rep F as a.2 b.2) (a:=(wx,wy)) (b:=(x,y)) S3 P2 ⟨rx.le l3,ry⟩
end
def ot(K:Frag):Bool:=K.all fun p=>match p.2.cls with
 | .type "list" => false
 | _=>true
theorem CD(h:ot K=true){o:Obj}(e:K.lookup a=some o):o.cls≠.type "list" := by
 intro hc;have hm:∀{l:Frag},l.lookup a=some o->(a,o)∈l:=by
  intro l
  induction l with
  | nil=>intro e;cases e
  | cons p r ih =>
   intro e;obtain⟨b,q⟩:=p
   by_cases hb:a=b
   ·subst hb;have:List.lookup a ((a,q)::r)=some q:=by simp[List.lookup]
    rw[this] at e;cases e;exact mem_cons_self
   ·have:List.lookup a ((b,q)::r)=List.lookup a r:=by
     have hb':(a==b)=false:=by simpa using hb
     simp[List.lookup,hb']
    rw[this] at e;exact mem_cons_of_mem _ (ih e)
 have:=all_eq_true.mp h _ (hm e);simp only[hc] at this;cases this
def spLaw(G:Frag->Ga)(d:List W->M W)(K:Frag):Sp:=fun vs H Q E=>ot K=true->gn (G K) (fun _=>E0) 1 d vs H Q E
theorem law_sp{G:Frag->Ga}{d:List W->M W}(main:∀ns:List Int,ns.length<=n->∃ce',d [.lst (ns.map W.int)] []=some (.ok (.bl true) ce'))(K:Frag)(H:Hp)(a:Addr)(ns:List Int)(hl:ns.length<=n)(_hO:nc H)(hS:cL K H a (ns.map V.int)):spLaw G d K [.ref a] H (fun v _=>v=.bl true) fun _ _ _=>False:=by
 intro nl;rcases hS with hS|⟨o,its,m,hk,hc,_⟩
 ·obtain⟨ce',e⟩:=main ns hl;refine⟨rfl,H,[],[.lst (ns.map W.int)],[],⟨fun _ _ h=>h,by simp,rfl,fun k a c h _=>by simp at h⟩,.cons (by simp only[Rep];exact⟨a,_,rfl,hS,ag.ints ns⟩) .nil,?_⟩;rw[e];intro v H' F' as' _ _ r;simpa only[Rep] using r
 ·exact absurd hc (CD nl hk)
section
variable {α β:Type}
theorem gF{m:M α}{f:α->M β}{a:α}(h:m ce=some (.ok a ce')):au m f ce=f a ce':=by simp only[au,h]
theorem wQ{a b:DS}(h:a sl ce=some (.go .nx sl' ce')):aq a b sl ce=b sl' ce':=by simp only[aq,h]
theorem Et{a b:DS}(h:a sl ce=some (.go (.rt w) sl' ce')):aq a b sl ce=some (.go (.rt w) sl' ce'):=by simp only[aq,h]
end
variable {l:Ce}
section
variable {c:C}
theorem oH(ce l:Ce)(j:Nat):(ce++l)[ce.length+j]?=l[j]?:=by rw[getElem?_append_right (le_add_right _ _),add_sub_cancel_left]
theorem vk(ce l:Ce):(ce++l)[ce.length]?=l[0]?:=oH ce l 0
theorem uP(ce l:Ce)(j:Nat)(c:C):(ce++l).set (ce.length+j) c=ce++l.set j c:=by rw[set_append_right _ _ (le_add_right _ _),add_sub_cancel_left]
theorem Ba(ce l:Ce)(c:C):(ce++l).set ce.length c=ce++l.set 0 c:=uP ce l 0 c
theorem cH(ce l:Ce):gC ce (ce++l):=⟨by rw[length_append];omega,fun k c hk h=>.inl (by rwa [getElem?_append_left hk] at h)⟩
theorem sM(ce l:Ce):(ce++l).take ce.length=ce:=take_left
theorem bx(n:Nat):∀ns:List Int,cI n (ns.map W.int)
 | []=>by simp only[map_nil,cI]
 | a::r=>by simp only[map_cons,cI,aV];exact⟨trivial,bx n r⟩
end
theorem E8{c:C}(h:l[j]?=some c)(hb:eK ce.length c):finO ce (ce++l) (.cel (ce.length+j))=some (.ok (.cel ce.length) (ce++[c])):=by
 have e:(ce++l)[ce.length+j]?=some c:=by rw[oH];exact h
 simp only[finO,e];rw[if_pos ⟨cH ce l,le_add_right _ _,hb⟩,sM]
theorem n6(hb:aV ce.length w):finC ce (ce++l) w=some (.ok w ce):=by unfold finC;rw[if_pos ⟨cH ce l,hb⟩,sM]
theorem dR(hb:aV ce.length w):finC ce ce w=some (.ok w ce):=by have:=n6 (l:=[]) hb;rwa [append_nil] at this
theorem jv{d:List W->M W}(h:d ws ce=some (.ok (.cel ce.length) (ce++[.lst xs])))(hb:cI ce.length xs):cY d ws ce=some (.ok (.lst xs) ce):=by
 have e:(ce++[C.lst xs])[ce.length]?=some (.lst xs):=by rw[vk];rfl
 simp only[cY,h,e];rw[if_pos ⟨cH ce _,rfl,hb⟩,sM]
end VS
open PySem PySem.Spec PyProof.Rows L2 VS
variable {n k y j p fu:Nat} {xs ws ys:List W} {v d da db:Sl->M W} {ow iw w':W} {key:Key} {F F' T js l:List Nat} {mk:List W->M W} {di:Sl->M Src} {ce0 ce' c1 c2 c3 c':Ce} {fin:Ce->Ce->W->Option (R W)} {body:DS} {sl':Sl} {Q:O->Prop} {ra:Sl->M (List W)} {ng:Bool} {m:List Int} {X:Cx} {G:Ga} {pos:Pos}
namespace VS
section
variable {α β:Type}
@[simp] theorem oQ(m:M α)(f:α->M β)(ce:Ce):au m f ce=match m ce with|some (.ok a ce')=>f a ce'|some (.ex x ce')=>some (.ex x ce')|none=>none:=rfl
@[simp] theorem A_(m:Option (R α))(k:α->Ce->Option O):cu m k=match m with|some (.ok a ce')=>k a ce'|some (.ex x ce')=>some (.ex x ce')|none=>none:=rfl
@[simp] theorem vj(a:α)(ce:Ce):ret a ce=some (.ok a ce):=rfl
@[simp] theorem wc(f:Ce->Option α)(ce:Ce):look f ce=(f ce).map fun a=>R.ok a ce:=rfl
end
variable (a b c:Sl->M W) (ta tb:Sl->M Bool) (s t:DS) (sl:Sl) (ce:Ce) (i:Nat) (w:W)
@[simp] theorem o4:aa i sl ce=match sl[i]? with|some (some w)=>some (.ok w ce)|_=>none:=rfl
@[simp] theorem JD:dC w sl ce=some (.ok w ce):=rfl
@[simp] theorem Jv(f:W->W->Option W):aJ f a b sl ce=au (a sl) (fun x=>au (b sl) fun y=>look fun _=>f x y) ce:=rfl
@[simp] theorem CC(f:Ce->W->W->Option W):aE f a b sl ce=au (a sl) (fun x=>au (b sl) fun y=>look fun ce=>f ce x y) ce:=rfl
@[simp] theorem Ju(f:W->Option W):dM f a sl ce=au (a sl) (fun x=>look fun _=>f x) ce:=rfl
@[simp] theorem JC:dB a sl ce=au (a sl) (fun w=>look fun _=>match w with|.bl b=>some b|_=>none) ce:=rfl
@[simp] theorem Ka:jf a sl ce=au (a sl) (fun w=>look fun ce=>fU ce w) ce:=rfl
@[simp] theorem Kd:gW ta tb sl ce=au (ta sl) (fun x=>match x with|true=>tb sl|false=>ret false) ce:=rfl
@[simp] theorem J_:jd ta tb sl ce=au (ta sl) (fun x=>match x with|true=>ret true|false=>tb sl) ce:=rfl
@[simp] theorem Kc:gD ta sl ce=au (ta sl) (fun x=>ret (!x)) ce:=rfl
@[simp] theorem J9:aq s t sl ce=match s sl ce with|some (.go .nx sl' ce')=>t sl' ce'|r=>r:=rfl
@[simp] theorem Kb:bH sl ce=some (.go .nx sl ce):=rfl
@[simp] theorem J8:aP i a sl ce=cu (a sl ce) fun w ce'=>some (.go .nx (sl.set i (some w)) ce'):=rfl
@[simp] theorem J7:aY a sl ce=cu (a sl ce) fun w ce'=>some (.go (.rt w) sl ce'):=rfl
@[simp] theorem Bx:cG a sl ce=cu (a sl ce) fun _ ce'=>some (.go .nx sl ce'):=rfl
@[simp] theorem Jt:bw ta s t sl ce=cu (ta sl ce) fun x ce'=>match x with|true=>s sl ce'|false=>t sl ce':=rfl
@[simp] theorem wb:ai sl ce=some (.ok [] ce):=rfl
@[simp] theorem wO(r:Sl->M (List W)):ah a r sl ce=au (a sl) (fun x=>au (r sl) fun xs=>ret (x::xs)) ce:=rfl
@[simp] theorem Bw(f:List W->M W)(r:Sl->M (List W)):aT f r sl ce=au (r sl) f ce:=rfl
@[simp] theorem Kg(n:Nat)(f:List W->M W)(r:Sl->M (List W)):bA n f r sl ce=au (r sl) (fun ws=>if ws.length=n then f ws else jQ) ce:=rfl
@[simp] theorem J6(r:Sl->M (List W)):eo r sl ce=au (r sl) (fun xs=>g9 (.tup xs) xs.length) ce:=rfl
@[simp] theorem J5(r:Sl->M (List W)):c6 r sl ce=au (r sl) (fun xs=>g9 (.lst xs) xs.length) ce:=rfl
@[simp] theorem Kf(r:Sl->M (List W)):dZ r sl ce=au (r sl) (fun xs=>iV (.lst xs) xs.length) ce:=rfl
@[simp] theorem Ke:jO sl ce=iV (.dct []) 0 ce:=rfl
@[simp] theorem Js(h:n<=sizeLine):g9 w n ce=some (.ok w ce):=if_pos h
@[simp] theorem JO(c:C)(h:n<=sizeLine):iV c n ce=some (.ok (.cel ce.length) (ce++[c])):=if_pos h
@[simp] theorem rf(h:xs.length<=sizeLine):aQ xs ce=some (.ok (.lst xs) ce):=if_pos h
@[simp] theorem J0(h:xs.length<=sizeLine):eI xs ce=some (.ok (.cel ce.length) (ce++[.lst xs])):=if_pos h
@[simp] theorem CB(h:xs.length<=sizeLine):qB xs ce=some (.ok (.tup xs) ce):=if_pos h
@[simp] theorem Bv(f:W->List W->M W)(r:Sl->M (List W)):cO f a r sl ce=au (a sl) (fun x=>au (look fun ce=>i9 ce x) fun _=>au (r sl) fun ws=>f x ws) ce:=rfl
@[simp] theorem JZ(f:W->List W->M W):nk f a sl ce=au (a sl) (fun x=>au (look fun ce=>i9 ce x) fun _=>f x []) ce:=rfl
@[simp] theorem JB:gN i w sl ce=some (sl.set i (some w),ce):=rfl
theorem wa{o i:Sl->M W}{sl:Sl}{ce ce1 ce2 ce3:Ce}{w:W}{kvs:List (Key×W)}(h1:v sl ce=some (.ok w ce1))(h2:o sl ce1=some (.ok ow ce2))(h3:i sl ce2=some (.ok iw ce3))(h4:hZ iw=some key)(h5:ka ce3 ow=some (k,kvs))(h6:kvs.length<sizeLine) :
  hX o i v sl ce=some (.go .nx sl (ce3.set k (.dct (gQ kvs key w)))):=by
 simp only[hX,cu,h1,h2,h3,h4,h5,if_pos h6]
theorem oP{w y:W}{ce:Ce}(h:ja ce w=some (k,xs))(hl:xs.length<sizeLine):cM w [y] ce=some (.ok .non (ce.set k (.lst (xs++[y])))):=by simp only[cM,h,if_pos hl]
@[simp] theorem JY(x y:Int):c7 (.int x) (.int y)=some (.int (x+y)):=rfl
@[simp] theorem JX(x y:Int):gB (.int x) (.int y)=some (.int (x-y)):=rfl
@[simp] theorem JN(x y:Int):lF (.int x) (.int y)=some (.bl (decide (x<y))):=rfl
@[simp] theorem JM(x y:Int):j6 (.int x) (.int y)=some (.bl (decide (x<=y))):=rfl
@[simp] theorem JL(x y:Int):iC (.int x) (.int y)=some (.bl (decide (y<x))):=rfl
@[simp] theorem JK(x y:Int):uw (.int x) (.int y)=some (.bl (decide (y<=x))):=rfl
@[simp] theorem JW(x y:Int):fj (.int x) (.int y)=some (.bl (decide (x=y))):=rfl
@[simp] theorem JV(x y:Int):jH (.int x) (.int y)=some (.bl (!decide (x=y))):=rfl
@[simp] theorem JU(x:Int):iE (.int x)=some (.int (-x)):=rfl
theorem nM{x y:Int}(h:fh x y):fk (.int x) (.int y)=some (.int (x*y)):=by simp only[fk,j5,if_pos h]
theorem kX{x y:Int}(h:0<y):bV (.int x) (.int y)=some (.int (x % y)):=by simp only[bV,j5,if_pos h]
theorem CA{x y:Int}(h:0<y/\y<1073741824):lQ (.int x) (.int y)=some (.int (x / y)):=by have h':qu x y:=h;simp only[lQ,j5,if_pos h']
@[simp] theorem JT(xs:List W):dg ce (.tup xs)=some xs:=rfl
@[simp] theorem JS(xs:List W):dg ce (.lst xs)=some xs:=rfl
@[simp] theorem Cz(xs:List W):bP ce (.lst xs)=some xs:=rfl
theorem fC{ce:Ce}(h:ce[k]?=some (.lst xs)):bP ce (.cel k)=some xs:=by simp only[bP,h]
theorem gf{ce:Ce}(h:ce[k]?=some (.lst xs)):dg ce (.cel k)=some xs:=by simp only[dg,bP,h]
theorem v_{ce:Ce}{xs:List (Key×W)}(h:ce[k]?=some (.dct xs)):lO ce (.cel k)=some xs:=by simp only[lO,h]
theorem km{ce:Ce}(h:ce[k]?=some (.lst xs)):ja ce (.cel k)=some (k,xs):=by simp only[ja,h]
theorem kU{ce:Ce}{xs:List (Key×W)}(h:ce[k]?=some (.dct xs)):ka ce (.cel k)=some (k,xs):=by simp only[ka,h]
@[simp] theorem JR(j:Int):hZ (.int j)=some (.inl j):=rfl
theorem E7{α:Type}{xs:List α}:atI xs (j:Int)=xs[j]?:=by
 unfold atI gq
 by_cases h:j<xs.length
 ·rw[if_pos (by omega),if_pos (by omega)];simp
 ·rw[if_pos (by omega),if_neg (by omega),getElem?_eq_none (by omega)];rfl
theorem gz{x y:W}{ce:Ce}(h:dg ce x=some xs)(hy:y=.int j):aB ce x y=xs[j]?:=by subst hy;simp only[aB,h];exact E7
theorem kl(c0:C):(ce++[c0])[ce.length]?=some c0:=by rw[vk];rfl
def nW(n:Nat):W:=.int (n:Int)
def wT(l:List Nat):W:=.tup (l.map nW)
def wB(b:List (List Nat)):W:=.tup (b.map wT)
def kvs(F:List Nat):List (Key×W):=F.map fun(x:Nat)=>((Sum.inl (x:Int):Key),W.bl true)
def cj(F:List Nat):List Int:=F.map fun(x:Nat)=>(x:Int)
theorem Es(F:List Nat)(y:Nat):(gR (kvs F) (.inl (y:Int))).isSome=decide (y∈F):=by
 induction F with
 | nil=>rfl
 | cons x F ih =>
  by_cases h:x=y
  ·subst h;simp[kvs,gR]
  ·have h':¬((x:Int)=(y:Int)):=by omega
   have e:gR (kvs (x::F)) (.inl (y:Int))=gR (kvs F) (.inl (y:Int)):=by simp[kvs,gR,find?_cons,h']
   have hm:(y∈x::F)↔y∈F:=by simp[Ne.symm h]
   rw[e,ih];simp[hm]
theorem se(F:List Nat)(y:Nat)(h:y∉F):gQ (kvs F) (.inl (y:Int)) (.bl true)=kvs (F++[y]):=by
 have e:((kvs F).any fun kv=>decide (kv.1=(.inl (y:Int):Key)))=false:=by rw[eq_false_iff];intro q;obtain⟨p,hp,e⟩:=any_eq_true.mp q;obtain⟨x,hx,rfl⟩:=mem_map.mp hp;have e:=of_decide_eq_true e;have:(x:Int)=y:=Sum.inl.inj e;exact h (by rw[<- ofNat_inj.mp this];exact hx)
 unfold gQ;rw[e];simp[kvs]
theorem kA(F:List Nat):(kvs F).length=F.length:=by simp[kvs]
theorem sL(F:List Nat):kh (kvs F)=some (cj F):=by
 induction F with
 | nil=>rfl
 | cons x F ih=>simp only[kvs,cj,map_cons,kh] at ih ⊢;rw[ih];rfl
theorem mU(F:List Nat):(cj F).length=F.length:=by simp[cj]
theorem q_(F:List Nat):F.map nW=(cj F).map W.int:=by simp[cj,nW]
theorem pJ(F:List Nat):jM (F.map nW)=some (cj F):=by rw[q_,yM]
theorem GO(h:F.Perm F'):fF (cj F)=fF (cj F') :=
 qc ((jr _).trans ((show(cj F).Perm (cj F') from h.map _).trans (jr _).symm)) (p_ _) (p_ _)
theorem Ir(h:F.Nodup)(h':F'.Nodup)(e:∀x,x∈F↔x∈F'):F.Perm F':=by rw[perm_iff_count];intro x;rw[h.count,h'.count];simp[e x]
theorem eA:∀{n:Nat} {F:List Nat},F.Nodup->(∀x∈F,x<n)->F.length<=n
 | 0,F,_,hl=>by
  cases F with
  | nil=>simp
  | cons a r=>exact absurd (hl a mem_cons_self) (not_lt_zero _)
 | n+1,F,h,hl=>by
  by_cases hn:n∈F
  ·have h1:=eA (n:=n) (h.erase n) fun x hx=>by
    have hx':=(List.Nodup.mem_erase_iff h).mp hx;have:=hl x hx'.2;have:=hx'.1;omega
   rw[length_erase_of_mem hn] at h1;have:=length_pos_of_mem hn;omega
  ·have h1:=eA (n:=n) h fun x hx=>by
    have:=hl x hx;have:x≠n:=fun e=>hn (e▸hx);omega
   omega
inductive Reach (b:List (List Nat)) (ok:Nat->Prop) (s:Nat):Nat->Prop where
 | refl:Reach b ok s s
 | step {x y:Nat} (h:Reach b ok s x) (hy:y∈b.getD x []) (o:ok y):Reach b ok s y
structure Comp (b:List (List Nat)) (ok:Nat->Prop) (s:Nat) (F:List Nat):Prop where
 nd:F.Nodup
 st:s∈F
 lt:∀x∈F,x<b.length
 cl:∀x∈F,∀y∈b.getD x [],ok y->y∈F
 re:∀x∈F,Reach b ok s x
theorem Comp.mem{b:List (List Nat)}{ok:Nat->Prop}{s:Nat}(h:Comp b ok s F)(x:Nat):x∈F↔Reach b ok s x:=by
 refine⟨h.re x,fun r=>?_⟩
 induction r with
 | refl=>exact h.st
 | step _ hy o ih=>exact h.cl _ ih _ hy o
def Bd(b:List (List Nat)):Prop:=∀r∈b,∀x∈r,x<b.length
theorem Bd.get{b:List (List Nat)}(h:Bd b){x:Nat}(hy:y∈b.getD x []):y<b.length:=by
 rw[getD_eq_getElem?_getD] at hy;cases e:b[x]? with
 | none=>rw[e] at hy;simp at hy
 | some r=>rw[e] at hy;exact h r (mem_of_getElem? e) y (by simpa using hy)
structure Row (row:List Nat) (ok:Nat->Prop) (F F':List Nat) (r new:List Nat):Prop where
 app:F'=F++new
 nd:F'.Nodup
 mem:∀y∈new,y∈row/\ok y
 done:∃d,row=d++r/\∀y∈d,ok y->y∈F'
theorem ji{ce:Ce}{x:W}(h:dg ce x=some xs):aB ce x (nW j)=xs[j]?:=gz h rfl
theorem Cy(T:List Nat)(y:Nat):(T.map nW).any (fun z=>aL z (nW y))=decide (y∈T):=by
 induction T with
 | nil=>rfl
 | cons x T ih =>
  rw[map_cons,any_cons,ih]
  by_cases h:x=y
  ·subst h;simp[nW,aL]
  ·have h':¬((x:Int)=(y:Int)):=by omega
   simp[nW,aL,h',Ne.symm h]
theorem Cw(T:List Nat):(T.map nW).all (aX 8)=true:=by rw[all_eq_true];intro w hw;obtain⟨x,_,rfl⟩:=mem_map.mp hw;rfl
theorem n5(T:List Int)(n:Nat):(T.map W.int).all (aX n)=true:=by rw[all_eq_true];intro w hw;obtain⟨x,_,rfl⟩:=mem_map.mp hw;cases n<;>rfl
theorem Cv{ce:Ce}{x:W}(h:dg ce x=some (T.map nW))(ng:Bool):kB ng ce (nW y) x=some (.bl (if ng then !decide (y∈T) else decide (y∈T))):=by have c:aX 8 (nW y)=true:=rfl;have e:drf ce (nW y)=nW y:=rfl;simp only[kB,h,e,c,Cw,Bool.and_self,if_true,Cy]
theorem wN(a b:Int):aL (.int a) (.int b)=decide (a=b):=by simp[aL];rfl
theorem tJ:∀(l m:List Int),bB (l.map W.int) (m.map W.int)=decide (l=m)
 | [],[]=>by simp[bB]
 | [],_::_=>by simp[bB]
 | _::_,[]=>by simp[bB]
 | a::l,b::m=>by
  simp only[map_cons,bB,wN,tJ l m]
  by_cases h1:a=b<;>by_cases h2:l=m<;>simp[h1,h2]
theorem E6(l m:List Int):aL (.lst (l.map W.int)) (.lst (m.map W.int))=decide (l=m):=by simp only[aL,tJ]
theorem fy:(36:Nat)<sizeLine:=by decide
theorem v9{s:Src}{cs:Sl}{e:Sl->M W}{ce:Ce}(hst:s.Stays ce)(P:W->W->Prop):∀(l ys:List W),(∀x∈l,∃y,P x y/\e (some x::cs) ce=some (.ok y ce))->ys.length+l.length<=sizeLine ->
  ∃zs,dF s cs cZ e l ys ce=some (.ok (ys++zs) ce)/\PySem.Paired P l zs
 | [],ys,_,_=>⟨[],by simp only[dF,if_pos hst,append_nil],.nil⟩
 | x::r,ys,h,hz=>by
  have hl:ys.length<sizeLine:=by simp only[length_cons] at hz;omega
  obtain⟨y,py,ey⟩:=h x mem_cons_self;obtain⟨zs,ez,pz⟩:=v9 hst P r (ys++[y]) (fun z hz=>h z (mem_cons_of_mem _ hz)) (by simp only[length_append,length_cons,length_nil] at hz ⊢;omega);refine⟨y::zs,?_,.cons py pz⟩;rw[pb ⟨hst,hl⟩];show au (ret true) _ ce=_;rw[gF (m:=ret true) rfl];show au (e (some x::cs)) (fun y=>dF s cs cZ e r (ys++[y])) ce=_;rw[gF ey,ez,append_assoc];rfl
theorem Cu{e:Sl->M W}{sl:Sl}{ce:Ce}{s:Src}(hi:di sl ce0=some (.ok s ce))(hst:s.Stays ce)(P:W->W->Prop)(h:∀x∈s.items,∃y,P x y/\e (some x::c5 js sl) ce=some (.ok y ce))(hz:s.items.length<=sizeLine) :
  ∃zs,cK mk js di cZ e sl ce0=mk zs ce/\PySem.Paired P s.items zs:=by
 obtain⟨zs,e1,p⟩:=v9 hst P s.items [] h (by simpa using hz);refine⟨zs,?_,p⟩;show au (di sl) (fun s=>au (dF s (c5 js sl) cZ e s.items []) mk) ce0=_;rw[gF hi,gF e1,nil_append]
theorem yJ{s:Src}{cs:Sl}(hst:∀ce,s.Stays ce):∀(l ys:List W) (ce:Ce),ys.length+l.length<=sizeLine ->
  dF s cs cZ (dZ ai) l ys ce=some (.ok (ys++(List.range l.length).map fun i=>W.cel (ce.length+i)) (ce++List.replicate l.length (C.lst [])))
 | [],ys,ce,_=>by simp[dF,if_pos (hst ce)]
 | x::r,ys,ce,hz=>by
  have hl:ys.length<sizeLine:=by simp only[length_cons] at hz;omega
  have ih:=yJ (s:=s) (cs:=cs) hst r (ys++[W.cel ce.length]) (ce++[C.lst []]) (by simp only[length_append,length_cons,length_nil] at hz ⊢;omega);rw[pb ⟨hst ce,hl⟩];show au (ret true) _ ce=_;rw[gF (m:=ret true) rfl];have ex:dZ ai (some x::cs) ce=some (.ok (W.cel ce.length) (ce++[C.lst []])):=by simp
  show au (dZ ai (some x::cs)) (fun y=>dF s cs cZ (dZ ai) r (ys++[y])) ce=_;rw[gF ex,ih];have e1:(List.range (r.length+1)).map (fun i=>W.cel (ce.length+i))=W.cel ce.length::(List.range r.length).map fun i=>W.cel ((ce++[C.lst []]).length+i):=by rw[range_succ_eq_map,map_cons,map_map];congr 1;apply map_congr_left;intro i _;simp only[Function.comp,length_append,length_cons,length_nil];congr 1;omega
  have e2:ce++List.replicate (r.length+1) (C.lst [])=ce++[C.lst []]++List.replicate r.length (C.lst []):=by rw[replicate_succ,append_assoc];rfl
  rw[length_cons,e1,e2,append_assoc];rfl
theorem Ct(h:n<=1000):kH [nW n]=some (.rng 0 n):=by
 have h1:(-4611686018427387904:Int)<=(n:Int)/\(n:Int)<4611686018427387904:=by omega
 simp only[kH,nW,if_pos h1,toNat_natCast]
theorem Cs{d:Sl->M (List W)}{sl:Sl}{ce:Ce}(hd:d sl ce=some (.ok [nW n] ce'))(h:n<=1000):fA d sl ce=some (.ok (.rng 0 n) ce'):=by show au (d sl) (fun ws=>look (fun _=>kH ws)) ce=_;rw[gF hd];show(kH [nW n]).map _=_;rw[Ct h];rfl
theorem wM(k:Int)(h:0<n):∃j:Nat,j<n/\k % (n:Int)=j:=by have h1:=emod_nonneg k (b:=(n:Int)) (by omega);have h2:=emod_lt_of_pos k (b:=(n:Int)) (by omega);exact⟨(k % (n:Int)).toNat,by omega,by omega⟩
theorem rP{k:Int}(h:0<n)(e:k % (n:Int)=j):bV (.int k) (.int (n:Int))=some (nW j):=by rw[kX (by omega),e];rfl
theorem v8{ce:Ce}{sl:Sl}{w:W}{r:Option (R W)}(h:body (ws.map some++List.replicate (n-ws.length) none) ce=some (.go (.rt w) sl ce'))(hf:fin ce ce' w=r):bJ fin n body ws ce=r:=by unfold bJ;rw[h];exact hf
theorem E5{s:Src}{g:DG}{sl:Sl}{ce:Ce}(hst:s.Stays ce):gA s g body [] sl ce=some (.go .nx sl ce):=by simp only[gA,if_pos hst]
theorem pF{g:DG}{sl:Sl}{ce:Ce}{src:Src}(hi:di sl ce=some (.ok src ce0)):cf di g body sl ce=gA src g body src.items sl ce0:=by simp only[cf,cu,hi]
theorem xf{i:Nat}{sl:Sl}{ce:Ce}{w:W}(h:d sl ce=some (.ok w ce')):aP i d sl ce=some (.go .nx (sl.set i (some w)) ce'):=by simp only[aP,cu,h]
theorem vB{c:Sl->M Bool}{a b:DS}{sl:Sl}{ce:Ce}(h:c sl ce=some (.ok true ce')):bw c a b sl ce=a sl ce':=by simp only[bw,cu,h]
theorem vA{c:Sl->M Bool}{a b:DS}{sl:Sl}{ce:Ce}(h:c sl ce=some (.ok false ce')):bw c a b sl ce=b sl ce':=by simp only[bw,cu,h]
theorem tI(n:Nat):(Src.rng 0 n).items=(List.range n).map nW:=by simp only[Src.items,Int.zero_add];rfl
theorem aF(n:Nat):∀l:List Nat,cI n (l.map nW)
 | []=>by simp only[map_nil,cI]
 | a::r=>by simp only[map_cons,cI,nW,aV];exact⟨trivial,aF n r⟩
theorem CP(n:Nat)(b:List (List Nat)):aV n (wB b):=by
 simp only[wB,aV]
 induction b with
 | nil=>simp only[map_nil,cI]
 | cons r b ih=>simp only[map_cons,cI,wT,aV];exact⟨aF n r,ih⟩
def b_(r:List Nat):List Nat:=(fF (cj r)).map Int.toNat
theorem n4(r:List Nat):(fF (cj r)).map W.int=(b_ r).map nW:=by unfold b_;rw[map_map];apply map_congr_left;intro x hx;have hx':=(jr (cj r)).subset hx;obtain⟨y,_,rfl⟩:=mem_map.mp hx';show W.int (y:Int)=W.int (((y:Int).toNat:Nat):Int);simp
theorem pU(r:List Nat)(x:Nat):x∈b_ r↔x∈r:=by
 unfold b_;constructor
 ·intro h;obtain⟨z,hz,rfl⟩:=mem_map.mp h;obtain⟨y,hy,rfl⟩:=mem_map.mp ((jr (cj r)).subset hz);simpa using hy
 ·intro h;refine mem_map.mpr ⟨(x:Int),(jr (cj r)).symm.subset (mem_map.mpr ⟨x,h,rfl⟩),by simp⟩
theorem Reach.trans{b:List (List Nat)}{ok:Nat->Prop}{s x:Nat}(h:Reach b ok s x)(h':Reach b ok x y):Reach b ok s y:=by
 induction h' with
 | refl=>exact h
 | step _ hy o ih=>exact .step ih hy o
theorem Reach.okOf{b:List (List Nat)}{ok:Nat->Prop}{s x:Nat}(hs:ok s)(h:Reach b ok s x):ok x:=by
 cases h with
 | refl=>exact hs
 | step _ _ o=>exact o
theorem Reach.symm{b:List (List Nat)}{ok:Nat->Prop}{s x:Nat}(sym:∀i j,j∈b.getD i []->i∈b.getD j [])(hs:ok s)(h:Reach b ok s x):Reach b ok x s:=by
 induction h with
 | refl=>exact .refl
 | step h hy o ih=>exact Reach.trans (.step .refl (sym _ _ hy) (h.okOf hs)) ih
theorem Paired.nth{α β:Type}{P:α->β->Prop}{l:List α}{m:List β}(h:PySem.Paired P l m):l.length=m.length/\∀(i:Nat) (a:α) (b:β),l[i]?=some a->m[i]?=some b->P a b:=by refine⟨length h,fun i a b h1 h2=>?_⟩;obtain⟨b',e,p⟩:=L2.Paired.at2 h i a h1;rw[h2] at e;cases e;exact p
def Run(s:DS)(sl:Sl)(ce:Ce)(Q:O->Prop):Prop:=∃o,s sl ce=some o/\Q o
def Nx(P:Sl->Ce->Prop):O->Prop
 | .go .nx sl ce=>P sl ce
 | .go .ct sl ce=>P sl ce
 | _=>False
def Rt(P:W->Ce->Prop):O->Prop
 | .go (.rt w) _ ce=>P w ce
 | _=>False
def NR(P:Sl->Ce->Prop)(T:W->Ce->Prop):O->Prop
 | .go .nx sl ce=>P sl ce
 | .go .ct sl ce=>P sl ce
 | .go (.rt w) _ ce=>T w ce
 | _=>False
section
variable {s a b:DS} {sl:Sl} {ce:Ce} {Q':O->Prop} {e:Sl->M W} {w x y:W} {i:Nat} {p q:Bool} {ta tb:Sl->M Bool}
theorem Run.mono(h:Run s sl ce Q)(m:∀o,Q o->Q' o):Run s sl ce Q':=by obtain⟨o,e,q⟩:=h;exact⟨o,e,m o q⟩
theorem CO{o:O}(h:s sl ce=some o)(q:Q o):Run s sl ce Q:=⟨o,h,q⟩
theorem iA(q:Q (.go .nx sl ce)):Run bH sl ce Q:=⟨_,rfl,q⟩
theorem xb(h:e sl ce=some (.ok w ce'))(q:Q (.go .nx (sl.set i (some w)) ce')):Run (aP i e) sl ce Q:=⟨_,xf h,q⟩
theorem bL(h:e sl ce=some (.ok w ce'))(q:Q (.go (.rt w) sl ce')):Run (aY e) sl ce Q:=⟨_,by simp only[aY,cu,h],q⟩
theorem mB(h:e sl ce=some (.ok w ce'))(q:Q (.go .nx sl ce')):Run (cG e) sl ce Q:=⟨_,by simp only[cG,cu,h],q⟩
theorem fS(h:ta sl ce=some (.ok p ce'))(ht:p=true->Run a sl ce' Q)(hf:p=false->Run b sl ce' Q):Run (bw ta a b) sl ce Q:=by
 cases p with
 | true=>obtain⟨o,e,q⟩:=ht rfl;exact⟨o,by rw[vB h];exact e,q⟩
 | false=>obtain⟨o,e,q⟩:=hf rfl;exact⟨o,by rw[vA h];exact e,q⟩
theorem ig(h:a sl ce=some (.go .nx sl' ce'))(q:Run b sl' ce' Q):Run (aq a b) sl ce Q:=by obtain⟨o,e,q⟩:=q;exact⟨o,by rw[wQ h];exact e,q⟩
theorem ba(h:e sl ce=some (.ok w ce'))(q:Run b (sl.set i (some w)) ce' Q):Run (aq (aP i e) b) sl ce Q:=ig (xf h) q
theorem kj(h:e sl ce=some (.ok w ce'))(q:Run b sl ce' Q):Run (aq (cG e) b) sl ce Q:=ig (by simp only[cG,cu,h]) q
theorem HV{c:DS}:aq (aq a b) c=aq a (aq b c):=by
 funext sl ce;simp only[aq];cases a sl ce with
 | none=>rfl
 | some o=>cases o with
  | ex x c=>rfl
  | go f sl' ce'=>cases f<;>rfl
theorem gG{c:DS}(h:Run (aq a (aq b c)) sl ce Q):Run (aq (aq a b) c) sl ce Q:=by rw[HV];exact h
theorem du{c:DS}(h:Run c sl ce Q):Run (aq bH c) sl ce Q:=h
theorem iu{c:DS}(h:Run (aY e) sl ce Q):Run (aq (aY e) c) sl ce Q:=by
 obtain⟨o,e',q⟩:=h;refine⟨o,?_,q⟩;simp only[aq];simp only[aY,cu] at e' ⊢;cases h:e sl ce with
 | none=>rw[h] at e';cases e'
 | some r=>rw[h] at e';cases r<;>exact e'
theorem bS{c:DS}(h:ta sl ce=some (.ok p ce'))(ht:p=true->Run (aq a c) sl ce' Q)(hf:p=false->Run (aq b c) sl ce' Q):Run (aq (bw ta a b) c) sl ce Q:=by
 cases p with
 | true=>obtain⟨o,e,q⟩:=ht rfl;exact⟨o,by rw[<- e];simp only[aq,vB h],q⟩
 | false=>obtain⟨o,e,q⟩:=hf rfl;exact⟨o,by rw[<- e];simp only[aq,vA h],q⟩
end
section
variable {α:Type} {en:α->W} {src:Src} {g:DG} {b:DS}
theorem pT(xs:List α)(R:List α->Sl->Ce->Prop)(T:W->Ce->Prop)(step:∀d x r sl ce,d++x::r=xs->R d sl ce->src.Stays ce/\∃sl1,g (en x) sl ce=some (sl1,ce)/\Run body sl1 ce (NR (R (d++[x])) T))(hst:∀sl ce,R xs sl ce->src.Stays ce) :
  ∀(r d:List α) (sl:Sl) (ce:Ce),d++r=xs->R d sl ce->Run (gA src g body (r.map en)) sl ce fun o=>(∃sl' ce',o=.go .nx sl' ce'/\R xs sl' ce')\/∃w sl' ce',o=.go (.rt w) sl' ce'/\T w ce'
 | [],d,sl,ce,e,h=>by
  rw[append_nil] at e;subst e;exact⟨_,E5 (hst _ _ h),.inl ⟨_,_,rfl,h⟩⟩
 | x::r,d,sl,ce,e,h=>by
  obtain⟨hs,sl1,e1,o,e2,q⟩:=step d x r sl ce e h;have go:∀sl2 ce2,R (d++[x]) sl2 ce2->Run (gA src g body (r.map en)) sl2 ce2 fun o=>(∃sl' ce',o=.go .nx sl' ce'/\R xs sl' ce')\/∃w sl' ce',o=.go (.rt w) sl' ce'/\T w ce':=fun sl2 ce2 h2=>pT xs R T step hst r (d++[x]) sl2 ce2 (by rw[append_assoc];exact e) h2;cases o with
  | ex x c=>exact q.elim
  | go f sl2 ce2 =>
   cases f with
   | nx =>
    obtain⟨o,e3,q3⟩:=go sl2 ce2 q;exact⟨o,by simp only[map_cons,gA,if_pos hs,e1,e2];exact e3,q3⟩
   | ct =>
    obtain⟨o,e3,q3⟩:=go sl2 ce2 q;exact⟨o,by simp only[map_cons,gA,if_pos hs,e1,e2];exact e3,q3⟩
   | bk=>exact q.elim
   | rt w=>exact⟨.go (.rt w) sl2 ce2,by simp only[map_cons,gA,if_pos hs,e1,e2],.inr ⟨w,sl2,ce2,rfl,q⟩⟩
theorem sd{sl:Sl}{ce:Ce}{i:Nat}{xs:List α}(hi:di sl ce=some (.ok src ce0))(hx:src.items=xs.map en)(R:List α->Sl->Ce->Prop)(h0:R [] sl ce0)(step:∀d x r sl ce,d++x::r=xs->x∈xs->R d sl ce->src.Stays ce/\Run body (sl.set i (some (en x))) ce (Nx (R (d++[x]))))(hst:∀sl ce,R xs sl ce->src.Stays ce)(fin:∀sl ce,R xs sl ce->Q (.go .nx sl ce)):Run (cf di (gN i) body) sl ce Q:=by
 obtain⟨o,e,q⟩:=pT (g:=gN i) (body:=body) (en:=en) (src:=src) xs R (fun _ _=>False) (fun d x r sl ce e h=>by
  obtain⟨h1,h2⟩:=step d x r sl ce e (by rw[<- e];simp) h;exact⟨h1,_,rfl,h2.mono fun o q=>by
   cases o with
   | ex x c=>exact q.elim
   | go f sl2 ce2=>cases f<;>first|exact q|exact q.elim⟩) hst xs [] sl ce0 rfl h0
 rcases q with ⟨sl',ce',rfl,h⟩|⟨w,sl',ce',rfl,h⟩
 ·exact⟨_,by rw[pF hi,hx];exact e,fin _ _ h⟩
 ·exact h.elim
theorem pE{sl:Sl}{ce:Ce}{i:Nat}{xs:List α}(hi:di sl ce=some (.ok src ce0))(hx:src.items=xs.map en)(R:List α->Sl->Ce->Prop)(h0:R [] sl ce0)(step:∀d x r sl ce,d++x::r=xs->x∈xs->R d sl ce->src.Stays ce/\Run body (sl.set i (some (en x))) ce (Nx (R (d++[x]))))(hst:∀sl ce,R xs sl ce->src.Stays ce)(fin:∀sl ce,R xs sl ce->Run b sl ce Q):Run (aq (cf di (gN i) body) b) sl ce Q:=by
 obtain⟨o,e,q⟩:=sd (Q:=fun o=>∃sl' ce',o=.go .nx sl' ce'/\Run b sl' ce' Q) (body:=body) (i:=i) hi hx R h0 step hst fun sl ce h=>⟨sl,ce,rfl,fin sl ce h⟩
 obtain⟨sl',ce',rfl,h⟩:=q;exact ig e h
theorem GZ{σ:Type}{c:Sl->M Bool}{sl:Sl}{ce:Ce}(R:σ->Sl->Ce->Prop)(m:σ->Nat)(s0:σ)(h0:R s0 sl ce)(hm:m s0<fu)(step:∀s sl ce,R s sl ce->∃p,c sl ce=some (.ok p ce)/\(p=true->Run body sl ce (Nx fun sl2 ce2=>∃s2,m s2<m s/\R s2 sl2 ce2))/\(p=false->Q (.go .nx sl ce))):Run (ik c body fu) sl ce Q:=by
 induction fu generalizing s0 sl ce with
 | zero=>exact absurd hm (not_lt_zero _)
 | succ fu ih =>
  obtain⟨p,e,ht,hf⟩:=step s0 sl ce h0;cases p with
  | false=>exact⟨_,by simp only[ik,cu,e],hf rfl⟩
  | true =>
   obtain⟨o,e2,q⟩:=ht rfl;cases o with
   | ex x c=>exact q.elim
   | go f sl2 ce2 =>
    cases f with
    | nx =>
     obtain⟨s2,hs,r⟩:=q;obtain⟨o,e3,q3⟩:=ih s2 r (by omega);exact⟨o,by simp only[ik,cu,e,e2];exact e3,q3⟩
    | ct =>
     obtain⟨s2,hs,r⟩:=q;obtain⟨o,e3,q3⟩:=ih s2 r (by omega);exact⟨o,by simp only[ik,cu,e,e2];exact e3,q3⟩
    | bk=>exact q.elim
    | rt w=>exact q.elim
theorem Er{a b:DS}{sl:Sl}{ce:Ce}(h:Run a sl ce fun o=>∃sl' ce',o=.go .nx sl' ce'/\Run b sl' ce' Q):Run (aq a b) sl ce Q:=by obtain⟨o,e,sl',ce',rfl,q⟩:=h;exact ig e q
end
section
variable {sl:Sl} {ce:Ce} {a b:Sl->M W} {w x y:W} {i:Nat} {p q:Bool} {ta tb:Sl->M Bool} {src:Src}
theorem ax(h:sl[i]?=some (some w)):aa i sl ce=some (.ok w ce):=by simp only[aa,h]
theorem aU:dC w sl ce=some (.ok w ce):=rfl
theorem fP{f:W->W->Option W}(ha:a sl ce=some (.ok x c1))(hb:b sl c1=some (.ok y c2))(h:f x y=some w):aJ f a b sl ce=some (.ok w c2):=by simp only[aJ,au,look,ha,hb,h,map_some]
theorem bG{f:Ce->W->W->Option W}(ha:a sl ce=some (.ok x c1))(hb:b sl c1=some (.ok y c2))(h:f c2 x y=some w):aE f a b sl ce=some (.ok w c2):=by simp only[aE,au,look,ha,hb,h,map_some]
theorem dY{f:W->Option W}(ha:a sl ce=some (.ok x c1))(h:f x=some w):dM f a sl ce=some (.ok w c1):=by simp only[dM,au,look,ha,h,map_some]
theorem bN(ha:a sl ce=some (.ok (.bl p) c1)):dB a sl ce=some (.ok p c1):=by simp only[dB,au,look,ha,map_some]
theorem rN(ha:a sl ce=some (.ok x c1))(h:fU c1 x=some p):jf a sl ce=some (.ok p c1):=by simp only[jf,au,look,ha,h,map_some]
theorem nY(ha:ta sl ce=some (.ok p c1))(hb:p=true->tb sl c1=some (.ok q c1)):gW ta tb sl ce=some (.ok (p&&q) c1):=by
 cases p with
 | true=>simp only[gW,au,ha,hb rfl,Bool.true_and]
 | false=>simp only[gW,au,ha,Bool.false_and];rfl
theorem mz(ha:ta sl ce=some (.ok p c1))(hb:p=false->tb sl c1=some (.ok q c1)):jd ta tb sl ce=some (.ok (p||q) c1):=by
 cases p with
 | true=>simp only[jd,au,ha,Bool.true_or];rfl
 | false=>simp only[jd,au,ha,hb rfl,Bool.false_or]
theorem k_(ha:ta sl ce=some (.ok p c1)):gD ta sl ce=some (.ok (!p) c1):=by simp only[gD,au,ha];rfl
theorem v7(hc:ta sl ce=some (.ok p c1))(ht:p=true->a sl c1=some (.ok x c1))(hf:p=false->b sl c1=some (.ok y c1)):m_ ta a b sl ce=some (.ok (if p=true then x else y) c1):=by
 cases p with
 | true=>simp only[m_,au,hc,ht rfl,if_true]
 | false=>simp[m_,au,hc,hf rfl]
theorem aM:ai sl ce=some (.ok [] ce):=rfl
theorem aK(ha:a sl ce=some (.ok x c1))(hr:ra sl c1=some (.ok xs c2)):ah a ra sl ce=some (.ok (x::xs) c2):=by simp only[ah,au,ha,hr];rfl
theorem cJ{f:List W->M W}(hr:ra sl ce=some (.ok ws c1))(h:f ws c1=some (.ok w c2)):aT f ra sl ce=some (.ok w c2):=by simp only[aT,au,hr,h]
theorem dj{f:List W->M W}(hr:ra sl ce=some (.ok ws c1))(hl:ws.length=n)(h:f ws c1=some (.ok w c2)):bA n f ra sl ce=some (.ok w c2):=by simp only[bA,au,hr,if_pos hl,h]
theorem jm(hr:ra sl ce=some (.ok ws c1))(hl:ws.length<=sizeLine):eo ra sl ce=some (.ok (.tup ws) c1):=by simp only[eo,au,hr,g9,if_pos hl]
theorem e9(hr:ra sl ce=some (.ok ws c1))(hl:ws.length<=sizeLine):c6 ra sl ce=some (.ok (.lst ws) c1):=by simp only[c6,au,hr,g9,if_pos hl]
theorem iO(hr:ra sl ce=some (.ok ws c1))(hl:ws.length<=sizeLine):dZ ra sl ce=some (.ok (.cel c1.length) (c1++[.lst ws])):=by simp only[dZ,au,hr,iV,if_pos hl]
theorem pD:jO sl ce=some (.ok (.cel ce.length) (ce++[.dct []])):=by simp[jO,iV]
theorem h_{f:W->List W->M W}(ha:a sl ce=some (.ok x c1))(hl:bP c1 x=some ys)(hr:ra sl c1=some (.ok ws c2))(h:f x ws c2=some (.ok w c3)):cO f a ra sl ce=some (.ok w c3):=by simp only[cO,au,ha,look,i9,hl,hr,h,map_some]
theorem CN{f:W->List W->M W}(ha:a sl ce=some (.ok x c1))(hl:bP c1 x=some ys)(h:f x [] c1=some (.ok w c3)):nk f a sl ce=some (.ok w c3):=by simp only[nk,au,ha,look,i9,hl,h,map_some]
theorem lX(ha:a sl ce=some (.ok x c1))(h:fM c1 x=some src):dG a sl ce=some (.ok src c1):=by simp only[dG,au,ha,look,h,map_some]
theorem vz(ha:a sl ce=some (.ok x c1))(h:qz x=some src):g_ a sl ce=some (.ok src c1):=by simp only[g_,au,ha,look,h,map_some]
theorem rM(ha:ra sl ce=some (.ok [nW n] c1))(h:n<=1000):fA ra sl ce=some (.ok (.rng 0 n) c1):=Cs ha h
theorem vt{α:Type}{c:Sl->M Bool}{e:Sl->M W}{en:α->W}{zs:List α}{t:α->Bool}{g:α->W}(hi:di sl ce=some (.ok src c1))(hx:src.items=zs.map en)(hst:src.Stays c1)(hc:∀x∈zs,c (some (en x)::c5 js sl) c1=some (.ok (t x) c1))(he:∀x∈zs,t x=true->e (some (en x)::c5 js sl) c1=some (.ok (g x) c1))(hz:zs.length<=sizeLine)(hm:mk ((zs.filter t).map g) c1=some (.ok w c2)):cK mk js di c e sl ce=some (.ok w c2):=by
 have key:∀(l:List α) (ys:List W),(∀x∈l,x∈zs)->ys.length+l.length<=sizeLine->dF src (c5 js sl) c e (l.map en) ys c1=some (.ok (ys++(l.filter t).map g) c1):=by
  intro l
  induction l with
  | nil=>intro ys _ _;simp only[map_nil,dF,if_pos hst,filter_nil,append_nil]
  | cons x r ih =>
   intro ys hl hz;simp only[length_cons] at hz;rw[map_cons,pb ⟨hst,by omega⟩,gF (hc x (hl x mem_cons_self))];cases ht:t x with
   | true =>
    show au (e (some (en x)::c5 js sl)) (fun y=>dF src (c5 js sl) c e (r.map en) (ys++[y])) c1=_;rw[gF (he x (hl x mem_cons_self) ht),ih _ (fun y hy=>hl y (mem_cons_of_mem _ hy)) (by simp only[length_append,length_cons,length_nil];omega),filter_cons_of_pos ht,map_cons,append_assoc];rfl
   | false =>
    show dF src (c5 js sl) c e (r.map en) ys c1=_;rw[ih _ (fun y hy=>hl y (mem_cons_of_mem _ hy)) (by omega),filter_cons_of_neg (by simp[ht])]
 show au (di sl) (fun s=>au (dF s (c5 js sl) c e s.items []) mk) ce=_;rw[gF hi,hx,gF (key zs [] (fun _ h=>h) (by simpa using hz)),nil_append];exact hm
theorem ir(h:xs.length<=sizeLine):aQ xs ce=some (.ok (.lst xs) ce):=if_pos h
theorem kr(h:xs.length<=sizeLine):eI xs ce=some (.ok (.cel ce.length) (ce++[.lst xs])):=if_pos h
theorem CM{o i:Sl->M W}{kvs:List (Key×W)}(h1:v sl ce=some (.ok w c1))(h2:o sl c1=some (.ok ow c2))(h3:i sl c2=some (.ok iw c3))(h4:hZ iw=some key)(h5:ka c3 ow=some (k,kvs))(h6:kvs.length<sizeLine)(q:Q (.go .nx sl (c3.set k (.dct (gQ kvs key w))))):Run (hX o i v) sl ce Q:=⟨_,wa h1 h2 h3 h4 h5 h6,q⟩
theorem Ep{o i:Sl->M W}{s:DS}{kvs:List (Key×W)}(h1:v sl ce=some (.ok w c1))(h2:o sl c1=some (.ok ow c2))(h3:i sl c2=some (.ok iw c3))(h4:hZ iw=some key)(h5:ka c3 ow=some (k,kvs))(h6:kvs.length<sizeLine)(q:Run s sl (c3.set k (.dct (gQ kvs key w))) Q):Run (aq (hX o i v) s) sl ce Q:=ig (wa h1 h2 h3 h4 h5 h6) q
end
structure Own (b ce:Ce) (l:List (Nat×C)):Prop where
 cut:∃t,ce=b++t
 get:∀p∈l,ce[p.1]?=some p.2
 ge:∀p∈l,b.length<=p.1
 nd:(l.map Prod.fst).Nodup
namespace Own
variable {b ce:Ce} {l:List (Nat×C)} {k1 k2 k3:Nat} {c c' q1 q2 q3:C}
theorem start(b:Ce):Own b b []:=⟨⟨[],by simp⟩,by simp,by simp,by simp⟩
theorem alloc(h:Own b ce l)(c:C):Own b (ce++[c]) ((ce.length,c)::l):=by
 obtain⟨⟨t,e⟩,h2,h3,h4⟩:=h;have lt:∀p∈l,p.1<ce.length:=fun p hp=>by
  have:=h2 p hp;exact(List.getElem?_eq_some_iff.mp this).1
 refine⟨⟨t++[c],by rw[e,append_assoc]⟩,fun p hp=>?_,fun p hp=>?_,?_⟩
 ·rcases mem_cons.mp hp with rfl|hp
  ·exact kl _ _
  ·rw[getElem?_append_left (lt p hp)];exact h2 p hp
 ·rcases mem_cons.mp hp with rfl|hp
  ·simp[e]
  ·exact h3 p hp
 ·simp only[map_cons,nodup_cons];exact⟨fun q=>by obtain⟨p,hp,e⟩:=mem_map.mp q;have:=lt p hp;omega,h4⟩
theorem perm{l':List (Nat×C)}(h:Own b ce l)(p:l.Perm l'):Own b ce l' :=
 ⟨h.cut,fun q hq=>h.get q (p.symm.subset hq),fun q hq=>h.ge q (p.symm.subset hq),(p.map _).nodup h.nd⟩
theorem g0(h:Own b ce ((k,c)::l)):ce[k]?=some c:=h.get _ mem_cons_self
theorem g1(h:Own b ce ((k1,q1)::(k,c)::l)):ce[k]?=some c:=h.get (k,c) (by simp)
theorem g2(h:Own b ce ((k1,q1)::(k2,q2)::(k,c)::l)):ce[k]?=some c:=h.get (k,c) (by simp)
theorem drop(h:Own b ce ((k,c)::l)):Own b ce l:=⟨h.cut,fun p hp=>h.get p (mem_cons_of_mem _ hp),fun p hp=>h.ge p (mem_cons_of_mem _ hp),(nodup_cons.mp h.nd).2⟩
theorem set0(h:Own b ce ((k,c)::l))(c':C):Own b (ce.set k c') ((k,c')::l):=by
 have hk:k<ce.length:=(List.getElem?_eq_some_iff.mp h.g0).1;obtain⟨⟨t,e⟩,h2,h3,h4⟩:=h;have hb:=h3 (k,c) mem_cons_self;have hn:∀p∈l,p.1≠k:=fun p hp q=>(nodup_cons.mp h4).1 (mem_map.mpr ⟨p,hp,q⟩);refine⟨⟨t.set (k-b.length) c',?_⟩,fun p hp=>?_,fun p hp=>?_,h4⟩
 ·rw[e,set_append_right _ _ hb]
 ·rcases mem_cons.mp hp with rfl|hp
  ·simp[hk]
  ·rw[getElem?_set_ne (Ne.symm (hn p hp))];exact h2 p (mem_cons_of_mem _ hp)
 ·rcases mem_cons.mp hp with rfl|hp
  ·exact hb
  ·exact h3 p (mem_cons_of_mem _ hp)
theorem set1(h:Own b ce ((k1,q1)::(k,c)::l))(c':C):Own b (ce.set k c') ((k1,q1)::(k,c')::l):=((h.perm (.swap _ _ _)).set0 c').perm (.swap _ _ _)
theorem set2(h:Own b ce ((k1,q1)::(k2,q2)::(k,c)::l))(c':C):Own b (ce.set k c') ((k1,q1)::(k2,q2)::(k,c')::l) :=
 ((h.perm (.trans (.cons _ (.swap _ _ _)) (.swap _ _ _))).set0 c').perm (.trans (.swap _ _ _) (.cons _ (.swap _ _ _)))
theorem finC(h:Own b ce l){w:W}(hb:aV b.length w):finC b ce w=some (.ok w b):=by obtain⟨t,rfl⟩:=h.cut;exact n6 hb
theorem finO(h:Own b ce ((k,c)::l))(hb:eK b.length c):finO b ce (.cel k)=some (.ok (.cel b.length) (b++[c])):=by have g:=h.g0;have ge:=h.ge _ mem_cons_self;obtain⟨t,rfl⟩:=h.cut;obtain⟨j,hj⟩:=exists_eq_add_of_le ge;have hj':k=b.length+j:=hj;subst hj';exact E8 (by rw[<- oH b t j];exact g) hb
end Own
theorem mm{ce:Ce}{r:Option (R W)}(h:Run body (ws.map some++List.replicate (n-ws.length) none) ce (Rt fun w ce'=>fin ce ce' w=r)):bJ fin n body ws ce=r:=by
 obtain⟨o,e,q⟩:=h;cases o with
 | ex x c=>exact q.elim
 | go f sl c=>cases f with
  | rt w=>exact v8 e q
  | nx=>exact q.elim
  | bk=>exact q.elim
  | ct=>exact q.elim
section
variable {ce:Ce} {b:List (List Nat)} {is:List Int}
abbrev wS(is:List Int):W:=.tup (is.map W.int)
abbrev wL(l:List Nat):W:=.lst (l.map nW)
abbrev sW(ns:List Int):W:=.lst (ns.map W.int)
theorem CL(h:p<b.length):aB ce (wB b) (nW p)=some (wT (b.getD p [])):=by rw[ji (xs:=b.map wT) rfl,getElem?_map,getD_eq_getElem?_getD,getElem?_eq_getElem h];rfl
theorem v5(h:p<l.length):aB ce (wL l) (nW p)=some (nW (l.getD p 0)):=by rw[ji (xs:=l.map nW) rfl,getElem?_map,getD_eq_getElem?_getD,getElem?_eq_getElem h];rfl
theorem ie(h:p<is.length):aB ce (wS is) (nW p)=some (.int (is.getD p 0)):=by rw[ji (xs:=is.map W.int) rfl,getElem?_map,getD_eq_getElem?_getD,getElem?_eq_getElem h];rfl
theorem v3(g:ce[k]?=some (.lst (l.map nW)))(h:p<l.length):aB ce (.cel k) (nW p)=some (nW (l.getD p 0)):=by rw[ji (gf g),getElem?_map,getD_eq_getElem?_getD,getElem?_eq_getElem h];rfl
theorem Eo(g:ce[k]?=some (.lst (l.map nW))):bQ [.cel k] ce=some (.ok (nW l.length) ce):=by simp only[bQ,gf g,length_map];rfl
theorem En:bQ [wL l] ce=some (.ok (nW l.length) ce):=by simp[bQ];rfl
theorem xa:bQ [wB b] ce=some (.ok (nW b.length) ce):=by simp[bQ,wB];rfl
theorem CK(g:ce[k]?=some (.lst (l.map nW))):kB ng ce (nW p) (.cel k)=some (.bl (if ng then !decide (p∈l) else decide (p∈l))):=Cv (gf g) ng
theorem Em(g:ce[k]?=some (.dct (kvs F))):kb ng ce (nW p) (.cel k)=some (.bl (if ng then !decide (p∈F) else decide (p∈F))):=by have ky:hZ (nW p)=some (.inl (p:Int)):=rfl;simp only[kb,ky,v_ g,Es]
theorem ki{y:W}(g:ce[k]?=some (.lst xs))(h:xs.length<sizeLine):cM (.cel k) [y] ce=some (.ok .non (ce.set k (.lst (xs++[y])))):=oP (km g) h
end
def ins(F:List Nat)(y:Nat):List Nat:=if y∈F then F else F++[y]
theorem bt{x:Nat}:x∈ins F y↔x∈F\/x=y:=by
 unfold ins;split
 ·rename_i h;exact⟨.inl,fun q=>q.elim id fun e=>e▸h⟩
 ·simp
theorem my(h:F.Nodup):(ins F y).Nodup:=by
 unfold ins;split
 ·exact h
 ·rename_i hn;rw[nodup_append];exact⟨h,by simp,fun a ha b hb=>by rw[mem_singleton] at hb;subst hb;intro q;subst q;exact hn ha⟩
theorem mK(F:List Nat)(y:Nat):gQ (kvs F) (.inl (y:Int)) (.bl true)=kvs (ins F y):=by
 unfold ins;split
 ·rename_i h;have e:((kvs F).any fun kv=>decide (kv.1=(.inl (y:Int):Key)))=true:=any_eq_true.mpr ⟨(.inl (y:Int),.bl true),mem_map.mpr ⟨y,h,rfl⟩,by simp⟩;unfold gQ;rw[e];simp only[if_true]
  conv=>rhs;rw[<- map_id (kvs F)]
  apply map_congr_left;intro p hp;obtain⟨x,hx,rfl⟩:=mem_map.mp hp;simp only[id];split
  ·rename_i q;simp at q;rw[q]
  ·rfl
 ·rename_i h;exact se F y h
theorem nZ(nd:F.Nodup)(lt:∀x∈F,x<n):b_ F=(List.range n).filter fun x=>decide (x∈F):=by
 have h:fF (cj F)=cj ((List.range n).filter fun x=>decide (x∈F)):=by
  refine qc ((jr _).trans ?_) (p_ _) ?_
  ·refine List.Perm.map _ (Ir nd (List.Pairwise.filter _ nodup_range) fun x=>?_);simp only[mem_filter,mem_range,decide_eq_true_eq];exact⟨fun h=>⟨lt x h,h⟩,fun h=>h.2⟩
  ·unfold cj;rw[pairwise_map];exact(List.Pairwise.filter _ pairwise_lt_range).imp fun h=>by omega
 unfold b_;rw[h];unfold cj;rw[map_map]
 conv=>rhs;rw[<- map_id (List.filter _ _)]
 apply map_congr_left;intro x _;simp
theorem xW{ce:Ce}(g:ce[k]?=some (.dct (kvs F)))(h:F.length<64):eO mk [.cel k] ce=mk ((b_ F).map nW) ce:=by
 have l:bP ce (.cel k)=none:=by simp only[bP,g]
 have g':je ce (.cel k)=some (kvs F):=by simp only[je,g]
 simp only[eO,l,g',sL,mU,if_pos h,n4]
inductive iY (ce:Ce):W->List Nat->Prop where
 | cl {k:Nat} {F:List Nat} (g:ce[k]?=some (.dct (kvs F))):iY ce (.cel k) F
 | fz {k:Nat} {F:List Nat} (g:ce[k]?=some (.fzd (kvs F))):iY ce (.cel k) F
theorem xV{ce:Ce}{w:W}(h:iY ce w F):gS mk [w] ce=mk (F.map nW) ce:=by
 have e:(cj F).map W.int=F.map nW:=by unfold cj;rw[map_map];rfl
 cases h with
 | cl g =>
  rename_i k;have l:dg ce (.cel k)=none:=by simp only[dg,bP,g]
  have g':je ce (.cel k)=some (kvs F):=by simp only[je,g]
  simp only[gS,l,g',sL,e]
 | fz g =>
  rename_i k;have l:dg ce (.cel k)=none:=by simp only[dg,bP,g]
  have g':je ce (.cel k)=some (kvs F):=by simp only[je,g]
  simp only[gS,l,g',sL,e]
theorem FV{ce:Ce}(g:ce[k]?=some (.lst (l.map nW)))(h:l.length<64):eO mk [.cel k] ce=mk ((b_ l).map nW) ce:=by simp only[eO,fC g,pJ,mU,if_pos h,n4]
inductive a_ (ce:Ce):W->List W->Prop where
 | fr (xs:List W):a_ ce (.lst xs) xs
 | cl {k:Nat} {xs:List W} (h:ce[k]?=some (.lst xs)):a_ ce (.cel k) xs
namespace a_
variable {ce:Ce} {w:W}
theorem drf(h:a_ ce w xs):drf ce w=.lst xs:=by
 cases h with
 | fr=>rfl
 | cl h=>simp only[VS.drf,h]
theorem src(h:a_ ce w xs):∃s,fM ce w=some s/\s.items=xs/\s.Stays ce:=by
 cases h with
 | fr=>exact⟨.lst xs,rfl,rfl,trivial⟩
 | cl h=>exact⟨.cell _ xs,by simp only[fM,h],rfl,h⟩
theorem eqI{l:List Int}(h:a_ ce w (l.map W.int))(h':a_ ce w' (m.map W.int))(ng:Bool):bo ng ce w w'=some (.bl (if ng then !decide (l=m) else decide (l=m))):=by have c1:aX 8 (.lst (l.map W.int))=true:=n5 l 7;have c2:aX 8 (.lst (m.map W.int))=true:=n5 m 7;simp only[bo,h.drf,h'.drf,c1,c2,E6,Bool.and_self,if_true]
theorem eqN{m:List Nat}(h:a_ ce w (l.map nW))(h':a_ ce w' (m.map nW))(ng:Bool):bo ng ce w w'=some (.bl (if ng then !decide (l=m) else decide (l=m))):=by
 rw[q_] at h h';rw[h.eqI h' ng];have inj:(cj l=cj m)↔l=m:=by unfold cj;exact⟨fun h=>by simpa using List.map_inj_right (f:=fun(x:Nat)=>(x:Int)) (fun x y h=>by have h:(x:Int)=(y:Int):=h;omega) |>.mp h,fun h=>by rw[h]⟩
 simp only[inj]
end a_
theorem s9{ce:Ce}{w:W}(h:a_ ce w xs)(hz:xs.length<=sizeLine):fD [w] ce=some (.ok (.tup xs) ce):=by
 cases h with
 | fr=>exact if_pos hz
 | cl h=>simp only[fD,fC h];exact if_pos hz
theorem pC{ce:Ce}{w:W}(h:dg ce w=some xs):gS mk [w] ce=mk xs ce:=by simp only[gS,h]
def jh(di:Sl->M Src)(sl:Sl)(ce c1:Ce)(xs:List W):Prop:=∃s,di sl ce=some (.ok s c1)/\s.items=xs/\s.Stays c1
def bp(di:Sl->M Src)(sl:Sl)(ce c1:Ce)(xs:List W):Prop:=∃s,di sl ce=some (.ok s c1)/\s.items=xs/\∀c,s.Stays c
section
variable {sl:Sl} {ce:Ce} {a:Sl->M W} {w:W}
theorem bp.is(h:bp di sl ce c1 xs):jh di sl ce c1 xs:=by obtain⟨s,h1,h2,h3⟩:=h;exact⟨s,h1,h2,h3 _⟩
theorem kg(h:a sl ce=some (.ok (.lst xs) c1)):bp (dG a) sl ce c1 xs:=⟨.lst xs,lX h rfl,rfl,fun _=>trivial⟩
theorem nA(h:a sl ce=some (.ok (.tup xs) c1)):bp (g_ a) sl ce c1 xs:=⟨.tup xs,vz h rfl,rfl,fun _=>trivial⟩
theorem mx(h:a sl ce=some (.ok (wT l) c1)):bp (g_ a) sl ce c1 (l.map nW):=nA h
theorem iL(h:ra sl ce=some (.ok [nW n] c1))(hn:n<=1000):bp (fA ra) sl ce c1 ((List.range n).map nW):=⟨.rng 0 n,rM h hn,tI n,fun _=>trivial⟩
theorem oX(h:a sl ce=some (.ok w c1))(hw:a_ c1 w xs):jh (dG a) sl ce c1 xs:=by obtain⟨s,h1,h2,h3⟩:=hw.src;exact⟨s,lX h h1,h2,h3⟩
variable {α:Type} {en:α->W} {zs:List α} {t:α->Bool} {g:α->W} {c:Sl->M Bool} {e:Sl->M W}
theorem uu(hi:jh di sl ce c1 (zs.map en))(hz:zs.length<=sizeLine)(hc:∀x∈zs,c (some (en x)::c5 js sl) c1=some (.ok (t x) c1))(he:∀x∈zs,t x=true->e (some (en x)::c5 js sl) c1=some (.ok (g x) c1)) :
  cK aQ js di c e sl ce=some (.ok (.lst ((zs.filter t).map g)) c1):=by
 obtain⟨s,h1,h2,h3⟩:=hi;exact vt h1 h2 h3 hc he hz (ir (by rw[length_map];exact le_trans (length_filter_le _ _) hz))
theorem uv(hi:jh di sl ce c1 (zs.map en))(hz:zs.length<=sizeLine)(hc:∀x∈zs,c (some (en x)::c5 js sl) c1=some (.ok (t x) c1))(he:∀x∈zs,t x=true->e (some (en x)::c5 js sl) c1=some (.ok (g x) c1)) :
  cK eI js di c e sl ce=some (.ok (.cel c1.length) (c1++[.lst ((zs.filter t).map g)])):=by
 obtain⟨s,h1,h2,h3⟩:=hi;exact vt h1 h2 h3 hc he hz (kr (by rw[length_map];exact le_trans (length_filter_le _ _) hz))
theorem xU(zs:List α):zs.filter (fun _=>true)=zs:=filter_eq_self.mpr fun _ _=>rfl
theorem m8(hi:jh di sl ce c1 (zs.map en))(hz:zs.length<=sizeLine)(he:∀x∈zs,e (some (en x)::c5 js sl) c1=some (.ok (g x) c1)) :
  cK aQ js di cZ e sl ce=some (.ok (.lst (zs.map g)) c1):=by
 have h:=uu (t:=fun _=>true) (js:=js) hi hz (c:=cZ) (fun _ _=>rfl) (fun x hx _=>he x hx);rwa [xU] at h
theorem qG(hi:jh di sl ce c1 (zs.map en))(hz:zs.length<=sizeLine)(he:∀x∈zs,e (some (en x)::c5 js sl) c1=some (.ok (g x) c1)) :
  cK eI js di cZ e sl ce=some (.ok (.cel c1.length) (c1++[.lst (zs.map g)])):=by
 have h:=uv (t:=fun _=>true) (js:=js) hi hz (c:=cZ) (fun _ _=>rfl) (fun x hx _=>he x hx);rwa [xU] at h
theorem qN{f:α->Int}(hi:jh di sl ce c1 (zs.map en))(hz:zs.length<=sizeLine)(he:∀x∈zs,e (some (en x)::c5 js sl) c1=some (.ok (.int (f x)) c1)):cK aQ js di cZ e sl ce=some (.ok (sW (zs.map f)) c1):=by rw[m8 hi hz he,sW,map_map];rfl
theorem qF(hi:jh di sl ce c1 (zs.map en))(hz:zs.length<=sizeLine)(hc:∀x∈zs,c (some (en x)::c5 js sl) c1=some (.ok (t x) c1)):cK aQ js di c (aa 0) sl ce=some (.ok (.lst ((zs.filter t).map en)) c1) :=
 uu hi hz hc fun _ _ _=>rfl
theorem uO(hi:jh di sl ce c1 (zs.map en))(hz:zs.length<=sizeLine)(hc:∀x∈zs,c (some (en x)::c5 js sl) c1=some (.ok (t x) c1)):cK eI js di c (aa 0) sl ce=some (.ok (.cel c1.length) (c1++[.lst ((zs.filter t).map en)])) :=
 uv hi hz hc fun _ _ _=>rfl
theorem mR{i:Nat}(hi:bp di sl ce c1 (zs.map en))(R:List α->Sl->Ce->Prop)(h0:R [] sl c1)(step:∀d x r sl ce,d++x::r=zs->x∈zs->R d sl ce->Run body (sl.set i (some (en x))) ce (Nx (R (d++[x]))))(fin:∀sl ce,R zs sl ce->Q (.go .nx sl ce)):Run (cf di (gN i) body) sl ce Q:=by obtain⟨s,h1,h2,h3⟩:=hi;exact sd h1 h2 R h0 (fun d x r sl ce e m h=>⟨h3 _,step d x r sl ce e m h⟩) (fun _ _ _=>h3 _) fin
theorem iN{b:DS}{i:Nat}(hi:bp di sl ce c1 (zs.map en))(R:List α->Sl->Ce->Prop)(h0:R [] sl c1)(step:∀d x r sl ce,d++x::r=zs->x∈zs->R d sl ce->Run body (sl.set i (some (en x))) ce (Nx (R (d++[x]))))(fin:∀sl ce,R zs sl ce->Run b sl ce Q):Run (aq (cf di (gN i) body) b) sl ce Q:=by obtain⟨s,h1,h2,h3⟩:=hi;exact pE h1 h2 R h0 (fun d x r sl ce e m h=>⟨h3 _,step d x r sl ce e m h⟩) (fun _ _ _=>h3 _) fin
end
theorem pB(ce:Ce)(x y:Int)(ng:Bool):bo ng ce (.int x) (.int y)=some (.bl (if ng then !decide (x=y) else decide (x=y))):=by have d1:drf ce (.int x)=.int x:=rfl;have d2:drf ce (.int y)=.int y:=rfl;have c:∀i:Int,aX 8 (.int i)=true:=fun _=>rfl;simp only[bo,d1,d2,c,Bool.and_self,if_true,wN]
theorem dD{ce:Ce}{w:W}(sl:Sl)(e:ws.map some++List.replicate (n-ws.length) none=sl)(h:Run body sl ce (Rt fun v ce'=>fin ce ce' v=some (.ok w c'))):bJ fin n body ws ce=some (.ok w c'):=by subst e;exact mm h
section
variable {ce:Ce} {i j:Int} {w:W}
theorem oy:bo false ce (.int i) (.int j)=some (.bl (decide (i=j))):=pB _ _ _ _
theorem uN:bo true ce (.int i) (.int j)=some (.bl (!decide (i=j))):=pB _ _ _ _
theorem As(g:ce[k]?=some (.lst (l.map nW))):kB true ce (nW p) (.cel k)=some (.bl (!decide (p∈l))):=CK g
theorem Bu(g:ce[k]?=some (.dct (kvs l))):kb true ce (nW p) (.cel k)=some (.bl (!decide (p∈l))):=Em g
end
section
variable {x y:W} {i j:Int} {ce:Ce}
theorem k9(hx:x=.int i)(hy:y=.int j):c7 x y=some (.int (i+j)):=by subst hx;subst hy;rfl
theorem pA(hx:x=.int i)(hy:y=.int j):gB x y=some (.int (i-j)):=by subst hx;subst hy;rfl
theorem rL(hx:x=.int i)(hy:y=.int j):lF x y=some (.bl (decide (i<j))):=by subst hx;subst hy;rfl
theorem rK(hx:x=.int i)(hy:y=.int j):iC x y=some (.bl (decide (j<i))):=by subst hx;subst hy;rfl
theorem pw(hx:x=.int i)(hy:y=.int j):fj x y=some (.bl (decide (i=j))):=by subst hx;subst hy;rfl
theorem w_(hx:x=.int i)(hy:y=.int j):jH x y=some (.bl (!decide (i=j))):=by subst hx;subst hy;rfl
theorem nX(hx:x=.int i)(hy:y=.int j)(h:0<j):bV x y=some (.int (i % j)):=by subst hx;subst hy;exact kX h
theorem w9(hx:x=.int i)(hy:y=.int j)(h:0<j/\j<1073741824):lQ x y=some (.int (i / j)):=by subst hx;subst hy;exact CA h
theorem El(hx:x=.int i)(hy:y=.int j)(h:fh i j):fk x y=some (.int (i*j)):=by subst hx;subst hy;exact nM h
theorem BO(hx:x=.int i):hZ x=some (.inl i):=by subst hx;rfl
theorem xT(h:l.length<64):eO mk [wL l] ce=mk ((b_ l).map nW) ce:=by simp only[eO,Cz,pJ,mU,if_pos h,n4]
end
section
variable {ce:Ce} {w:W}
theorem iq{P:W->Ce->Prop}{sl:Sl}(h:P w ce):Rt P (.go (.rt w) sl ce):=h
end
section
variable {ce:Ce} {sl:Sl} {a:Sl->M W} {α:Type} {en:α->W} {zs:List α}
theorem mQ(l:List Nat):(b_ l).length=l.length:=by rw[b_,length_map,(jr _).length_eq,mU]
theorem FT{i:Nat}(hi:a sl ce=some (.ok (.cel k) c1))(g:c1[k]?=some (.lst (zs.map en)))(R:List α->Sl->Ce->Prop)(h0:R [] sl c1)(hst:∀d sl ce,R d sl ce->ce[k]?=some (.lst (zs.map en)))(step:∀d x r sl ce,d++x::r=zs->x∈zs->R d sl ce->Run body (sl.set i (some (en x))) ce (Nx (R (d++[x]))))(fin:∀sl ce,R zs sl ce->Q (.go .nx sl ce)):Run (cf (dG a) (gN i) body) sl ce Q :=
 sd (src:=.cell k (zs.map en)) (lX hi (by simp only[fM,g])) rfl R h0 (fun d x r sl ce e m h=>⟨hst _ _ _ h,step d x r sl ce e m h⟩) (fun _ _ h=>hst _ _ _ h) fin
theorem FR{b:DS}{i:Nat}(hi:a sl ce=some (.ok (.cel k) c1))(g:c1[k]?=some (.lst (zs.map en)))(R:List α->Sl->Ce->Prop)(h0:R [] sl c1)(hst:∀d sl ce,R d sl ce->ce[k]?=some (.lst (zs.map en)))(step:∀d x r sl ce,d++x::r=zs->x∈zs->R d sl ce->Run body (sl.set i (some (en x))) ce (Nx (R (d++[x]))))(fin:∀sl ce,R zs sl ce->Run b sl ce Q):Run (aq (cf (dG a) (gN i) body) b) sl ce Q :=
 pE (src:=.cell k (zs.map en)) (lX hi (by simp only[fM,g])) rfl R h0 (fun d x r sl ce e m h=>⟨hst _ _ _ h,step d x r sl ce e m h⟩) (fun _ _ h=>hst _ _ _ h) fin
theorem yI{σ:Type}{c:Sl->M Bool}{b:DS}(R:σ->Sl->Ce->Prop)(m:σ->Nat)(s0:σ)(h0:R s0 sl ce)(hm:m s0<fu)(step:∀s sl ce,R s sl ce->∃p,c sl ce=some (.ok p ce)/\(p=true->Run body sl ce (Nx fun sl2 ce2=>∃s2,m s2<m s/\R s2 sl2 ce2))/\(p=false->Run b sl ce Q)):Run (aq (ik c body fu) b) sl ce Q :=
 Er (GZ R m s0 h0 hm fun s sl ce h=>by
  obtain⟨p,e,ht,hf⟩:=step s sl ce h;exact⟨p,e,ht,fun q=>⟨sl,ce,rfl,hf q⟩⟩)
end
theorem pv(n:Nat):∀cs:List (List Nat),cI n (cs.map wL)
 | []=>by simp only[map_nil,cI]
 | a::r=>by simp only[map_cons,cI,wL,aV];exact⟨aF n a,pv n r⟩
section
variable {ce:Ce} {b:List (List Nat)}
theorem qM(g:ce[k]?=some (.lst (m.map W.int)))(h:m.length<=sizeLine):fD [.cel k] ce=some (.ok (wS m) ce):=s9 (.cl g) (by rw[length_map];exact h)
theorem u4(h:b.length<=sizeLine):fD [.lst (b.map wT)] ce=some (.ok (wB b) ce):=s9 (.fr _) (by rw[length_map];exact h)
theorem qL(h:m.length<=sizeLine):fD [sW m] ce=some (.ok (wS m) ce):=s9 (.fr _) (by rw[length_map];exact h)
end
section
variable {ce:Ce} {l':List Nat}
end
section
variable {E:XK} {a b:Expr}
def JA(ng:Bool):W->W->Option W
 | .bl c,.bl d=>some (.bl (if ng then c != d else c==d))
 | _,_=>none
end
end VS
variable {b:List (List Nat)} {sl:Sl} {ce:Ce} {i:Nat} {vl:Nat->Int}
namespace VS
section
variable {a b:Sl->M W} {w x y:W} {i:Int} {p q:Bool}
theorem FQ(ha:a sl (ce++[.dct []])=some (.ok x (ce++[.dct []])))(hb:b sl (ce++[.dct []])=some (.ok y (ce++[.dct []])))(hk:hZ x=some key):nN a b sl ce=some (.ok (.cel ce.length) (ce++[.dct [(key,y)]])):=by
 have g:(ce++[C.dct []])[ce.length]?=some (.dct []):=kl _ _;have s:(ce++[C.dct []]).set ce.length (.dct [(key,y)])=ce++[.dct [(key,y)]]:=by rw[Ba];rfl
 simp only[nN,au,ha,hb,ret,hk,g,s]
theorem BN(g:ce[k]?=some (.lst xs))(e:xs=ys++[y]):nj (.cel k) [] ce=some (.ok y (ce.set k (.lst ys))):=by subst e;simp[nj,km g]
theorem Ek(g:ce[k]?=some (.lst xs)):fU ce (.cel k)=some (!xs.isEmpty):=by simp only[fU,g]
theorem Ej(g:ce[k]?=some (.lst xs))(h:bP ce w=some ys)(hz:xs.length+ys.length<=sizeLine):ni (.cel k) [w] ce=some (.ok .non (ce.set k (.lst (xs++ys)))):=by simp only[ni,km g,h,if_pos hz]
theorem k7(ha:a sl ce=some (.ok (.int i) c1)):dP a sl ce=some (.ok (some i) c1):=by simp only[dP,au,ha];rfl
theorem rH{bs:List Bool}:lN [.lst (bs.map W.bl)] ce=some (.ok (.bl (bs.all id)) ce):=by simp only[lN,bP,zq]
variable {α:Type} {en:α->W} {zs:List α} {e:Sl->M W}
theorem u3{f:α->Bool}(hi:jh di sl ce c1 (zs.map en))(hz:zs.length<=sizeLine)(he:∀x∈zs,e (some (en x)::c5 js sl) c1=some (.ok (.bl (f x)) c1)):cK aQ js di cZ e sl ce=some (.ok (.lst ((zs.map f).map W.bl)) c1):=by rw[m8 hi hz he,map_map];rfl
theorem GY{i:Nat}(hi:bp di sl ce c1 (zs.map en))(R:List α->Sl->Ce->Prop)(T:W->Ce->Prop)(h0:R [] sl c1)(step:∀d x r sl ce,d++x::r=zs->x∈zs->R d sl ce->Run body (sl.set i (some (en x))) ce (NR (R (d++[x])) T))(tell:∀w sl ce,T w ce->Q (.go (.rt w) sl ce))(fin:∀sl ce,R zs sl ce->Q (.go .nx sl ce)):Run (cf di (gN i) body) sl ce Q:=by
 obtain⟨s,h1,h2,h3⟩:=hi;obtain⟨o,e,q⟩:=pT (g:=gN i) (body:=body) (en:=en) (src:=s) zs R T (fun d x r sl ce e h=>⟨h3 _,_,rfl,step d x r sl ce e (by rw[<- e];simp) h⟩) (fun _ _ _=>h3 _) zs [] sl c1 rfl h0;rcases q with ⟨sl',ce',rfl,h⟩|⟨w,sl',ce',rfl,h⟩
 ·exact⟨_,by rw[pF h1,h2];exact e,fin _ _ h⟩
 ·exact⟨_,by rw[pF h1,h2];exact e,tell _ _ _ h⟩
theorem FP{a b:DS}(h:Run a sl ce fun o=>(∃sl' ce',o=.go .nx sl' ce'/\Run b sl' ce' Q)\/∃w sl' ce',o=.go (.rt w) sl' ce'/\Q o):Run (aq a b) sl ce Q:=by
 obtain⟨o,e,⟨sl',ce',rfl,q⟩|⟨w,sl',ce',rfl,q⟩⟩:=h
 ·exact ig e q
 ·exact⟨_,Et e,q⟩
theorem yH{b:DS}{i:Nat}(hi:bp di sl ce c1 (zs.map en))(R:List α->Sl->Ce->Prop)(T:W->Ce->Prop)(h0:R [] sl c1)(step:∀d x r sl ce,d++x::r=zs->x∈zs->R d sl ce->Run body (sl.set i (some (en x))) ce (NR (R (d++[x])) T))(tell:∀w sl ce,T w ce->Q (.go (.rt w) sl ce))(fin:∀sl ce,R zs sl ce->Run b sl ce Q):Run (aq (cf di (gN i) body) b) sl ce Q :=
 FP (GY hi R T h0 step (fun w sl ce h=>.inr ⟨w,sl,ce,rfl,tell w sl ce h⟩) fun sl ce h=>.inl ⟨sl,ce,rfl,fin sl ce h⟩)
end
inductive cx:Sl->Nat->Option W->Sl->Prop where
 | zero {x w:Option W} {r:Sl}:cx (x::r) 0 w (w::r)
 | succ {x w:Option W} {r r':Sl} {i:Nat} (h:cx r i w r'):cx (x::r) (i+1) w (x::r')
theorem cx.eq{w:Option W}(h:cx sl i w sl'):sl.set i w=sl':=by
 induction h with
 | zero=>rfl
 | succ _ ih=>rw[set_cons_succ,ih]
theorem zT{b:DS}{w:Option W}(hs:cx sl i w sl')(h:Run b sl' ce Q):Run b (sl.set i w) ce Q:=by rw[hs.eq];exact h
section
variable {s x:Nat}
abbrev cq(vl:Nat->Int)(s y:Nat):Prop:=vl y=vl s
abbrev Sym(b:List (List Nat)):Prop:=∀i j,j∈b.getD i []->i∈b.getD j []
open Classical in
def aH(b:List (List Nat))(vl:Nat->Int)(s:Nat):List Nat:=(List.range b.length).filter fun y=>decide (Reach b (cq vl s) s y)
def dQ(b:List (List Nat))(vl:Nat->Int)(s:Nat):Bool:=(aH b vl s).all fun y=>decide (s<=y)
def iB(b:List (List Nat))(vl:Nat->Int):List (List Nat):=((List.range b.length).filter (dQ b vl)).map (aH b vl)
theorem Reach.lt(hb:Bd b)(hs:s<b.length){ok:Nat->Prop}(h:Reach b ok s x):x<b.length:=by
 cases h with
 | refl=>exact hs
 | step _ hy _=>exact hb.get hy
open Classical in
theorem gZ(hb:Bd b)(hs:s<b.length):x∈aH b vl s↔Reach b (cq vl s) s x:=by unfold aH;rw[mem_filter,mem_range,decide_eq_true_eq];exact⟨fun h=>h.2,fun h=>⟨h.lt hb hs,h⟩⟩
theorem bU(h:x∈aH b vl s):x<b.length:=mem_range.mp (mem_filter.mp h).1
theorem BM:(aH b vl s).Nodup:=List.Pairwise.filter _ nodup_range
theorem Ei:(aH b vl s).length<=b.length:=by have:=length_filter_le (fun y=>@decide (Reach b (cq vl s) s y) (Classical.propDecidable _)) (List.range b.length);rw[length_range] at this;exact this
theorem jT(hb:Bd b)(hs:s<b.length):s∈aH b vl s:=(gZ hb hs).mpr .refl
theorem bT(hb:Bd b)(hs:s<b.length)(h:x∈aH b vl s):vl x=vl s:=Reach.okOf (ok:=cq vl s) rfl ((gZ hb hs).mp h)
open Classical in
theorem Eh(c:Comp b (cq vl s) s F):b_ F=aH b vl s:=by rw[nZ c.nd c.lt];unfold aH;apply filter_congr;intro x _;rw[Bool.eq_iff_iff,decide_eq_true_eq,decide_eq_true_eq];exact c.mem x
theorem vZ(h:vl x=vl s):cq vl x=cq vl s:=by funext y;unfold cq;rw[h]
open Classical in
theorem jS(hb:Bd b)(sym:Sym b)(hs:s<b.length)(h:x∈aH b vl s):aH b vl x=aH b vl s:=by have v:=bT hb hs h;have r:=(gZ hb hs).mp h;unfold aH;apply filter_congr;intro y _;rw[Bool.eq_iff_iff,decide_eq_true_eq,decide_eq_true_eq,vZ v];exact⟨fun q=>r.trans q,fun q=>(Reach.symm (ok:=cq vl s) sym rfl r).trans q⟩
theorem xS(hb:Bd b)(sym:Sym b)(hs:s<b.length)(h:x∈aH b vl s):s∈aH b vl x:=by rw[jS hb sym hs h];exact jT hb hs
theorem tH(hb:Bd b)(sym:Sym b)(hs:s<b.length):∃m,m∈aH b vl s/\dQ b vl m=true/\aH b vl m=aH b vl s:=by
 have key:∀(k:Nat) (s:Nat),s<=k->s<b.length->∃m,m∈aH b vl s/\dQ b vl m=true/\aH b vl m=aH b vl s:=by
  intro k
  induction k with
  | zero =>
   intro s hk hs;refine⟨s,jT hb hs,?_,rfl⟩;unfold dQ;rw[all_eq_true];intro y _;exact decide_eq_true (by omega)
  | succ k ih =>
   intro s hk hs
   by_cases h:dQ b vl s=true
   ·exact⟨s,jT hb hs,h,rfl⟩
   ·unfold dQ at h;rw[all_eq_true] at h;obtain⟨y,hy⟩:=Classical.not_forall.mp h;obtain⟨hy,hn⟩:=Classical.not_imp.mp hy;have hn':¬s<=y:=fun q=>hn (decide_eq_true q);obtain⟨m,h1,h2,h3⟩:=ih y (by omega) (bU hy);have e:=jS hb sym hs hy;exact⟨m,by rw[<- e];exact h1,h2,by rw[h3,e]⟩
 exact key s s (le_refl _) hs
theorem k6(hb:Bd b){c:List Nat}:c∈iB b vl↔∃s,s<b.length/\dQ b vl s=true/\c=aH b vl s:=by
 unfold iB;rw[mem_map];constructor
 ·rintro⟨s,hs,rfl⟩;obtain⟨h1,h2⟩:=mem_filter.mp hs;exact⟨s,mem_range.mp h1,h2,rfl⟩
 ·rintro⟨s,h1,h2,rfl⟩;exact⟨s,mem_filter.mpr ⟨mem_range.mpr h1,h2⟩,rfl⟩
theorem w8:(iB b vl).length<=b.length:=by unfold iB;rw[length_map];have:=length_filter_le (dQ b vl) (List.range b.length);rw[length_range] at this;exact this
theorem mP(hb:Bd b)(hs:s<b.length)(h:dQ b vl s=true):(aH b vl s).getD 0 0=s:=by
 have hmem:=jT (vl:=vl) hb hs;unfold dQ at h;rw[all_eq_true] at h;have fF:(aH b vl s).Pairwise (·<·):=List.Pairwise.filter _ pairwise_lt_range;cases e:aH b vl s with
 | nil=>rw[e] at hmem;simp at hmem
 | cons a r =>
  rw[e] at hmem h fF;have h1:s<=a:=of_decide_eq_true (h a (by simp));rcases mem_cons.mp hmem with h2|h2
  ·simp[h2]
  ·have:=(pairwise_cons.mp fF).1 s h2;omega
end
end VS
variable {f:Addr} {P:Program} {w:World} {as:List Addr} {H:Hp} {K:Frag} {mg:Str->Option Value} {base:Heap} {CX:i4} {fd:FuncData} {ps:List Str} {fe:XK->XK} {w2:W}
namespace VS
mutual
def eJ(n:Nat)(ce:Ce):Nat->W->Option W
 | 0,.cel k=>if k<n then some (.cel k) else none
 | 0,.lst _=>none
 | 0,.tup _=>none
 | d+1,.cel k=>if k<n then some (.cel k) else match ce[k]? with
  | some (.lst xs)=>(fO n ce d xs).map .lst
  | _=>none
 | d+1,.lst xs=>(fO n ce d xs).map .lst
 | d+1,.tup xs=>(fO n ce d xs).map .tup
 | _,w=>some w
def fO(n:Nat)(ce:Ce):Nat->List W->Option (List W)
 | _,[]=>some []
 | d,x::xs=>match eJ n ce d x,fO n ce d xs with
  | some y,some ys=>some (y::ys)
  | _,_=>none
end
section
variable {F F2:Hp} {as2:List Addr}
theorem xR{d}(h:∀{w w2:W} {v:V},eJ n ce d w=some w2->Rep F as w v->Rep F2 as2 w2 v):∀{ws ws2:List W} {vs:List V},fO n ce d ws=some ws2->ag F as ws vs->ag F2 as2 ws2 vs
 | [],ws2,vs,e,r=>by
  simp only[fO,Option.some.injEq] at e;subst e;simp only[ag] at r;subst r;exact .nil
 | x::xs,ws2,vs,e,r=>by
  simp only[fO] at e;simp only[ag] at r;obtain⟨v,r',rfl,q,s⟩:=r;split at e
  ·rename_i y ys e1 e2;cases e;exact .cons (h e1 q) (xR h e2 s)
  ·cases e
theorem xQ(S:aw G F as H ce)(hF:∀a o,F a=some o->F2 a=some o)(hc:∀(k:Nat) (a:Addr) (xs:List W) (vs:List V),n<=k->as[k]?=some a->ce[k]?=some (.lst xs)->H a=some (.lst vs)->F2 a=some (.lst vs))(ha:∀(k:Nat) (a:Addr),k<n->as[k]?=some a->as2[k]?=some a):∀(d:Nat) {w w2:W} {v:V},eJ n ce d w=some w2->Rep F as w v->Rep F2 as2 w2 v:=by
 have rd:∀{a:Addr} {o:HO},Rd F a o->Rd F2 a o:=fun r=>by
  rcases r with r|⟨u,r⟩
  ·exact .inl (hF _ _ r)
  ·exact .inr ⟨u,hF _ _ r⟩
 have low:∀{k:Nat} {v:V},k<n->Rep F as (.cel k) v->Rep F2 as2 (.cel k) v:=fun hk r=>by
  simp only[Rep] at r ⊢;obtain⟨a,rfl,q⟩:=r;exact⟨a,rfl,ha _ _ hk q⟩
 intro d
 induction d with
 | zero =>
  intro w w2 v e r;cases w<;>simp only[eJ,Option.some.injEq,reduceCtorEq] at e
  case cel k =>
   split at e
   ·rename_i hk;cases e;exact low hk r
   ·cases e
  all_goals (subst e;simp only[Rep] at r ⊢;exact r)
 | succ d ih =>
  have ihs:∀{ws ws2:List W} {vs:List V},fO n ce d ws=some ws2->ag F as ws vs->ag F2 as2 ws2 vs:=fun e r=>xR ih e r;intro w w2 v e r;cases w<;>simp only[eJ,Option.some.injEq] at e
  case cel k =>
   split at e
   ·rename_i hk;cases e;exact low hk r
   ·rename_i hk;split at e
    ·rename_i xs hx;obtain⟨ys,e1,rfl⟩:=map_eq_some_iff.mp e;simp only[Rep] at r;obtain⟨a,rfl,q⟩:=r;obtain⟨_,vs,h2,rs⟩:=S.cell _ _ _ q hx;simp only[Rep];exact⟨a,vs,rfl,.inl (hc k a xs vs (by omega) q hx h2),ihs e1 rs⟩
    ·cases e
  case lst xs =>
   obtain⟨ys,e1,rfl⟩:=map_eq_some_iff.mp e;simp only[Rep] at r ⊢;obtain⟨a,vs,rfl,h2,rs⟩:=r;exact⟨a,vs,rfl,rd h2,ihs e1 rs⟩
  case tup xs =>
   obtain⟨ys,e1,rfl⟩:=map_eq_some_iff.mp e;simp only[Rep] at r ⊢;obtain⟨a,vs,rfl,h2,rs⟩:=r;exact⟨a,vs,rfl,hF _ _ h2,ihs e1 rs⟩
  all_goals (subst e;simp only[Rep] at r ⊢;exact r)
end
open Classical in
def lM(d:List W->M W):List W->M W:=fun ws ce=>match d ws ce with
 | some (.ok w ce')=>if gC ce ce' then match eJ ce.length ce' 6 w with
  | some w2=>some (.ok w2 (ce'.take ce.length))
  | none=>none
  else none
 | r=>r
open Classical in
theorem Eg{d:List W->M W}(h:ay P w K mg base CX k f fd ps (gn G fe n d)):ay P w K mg base CX k f fd ps (gn G fe n (lM d)):=by
 refine h.imp fun vs H Q E ⟨hl,F,as,ws,ce,S,rs,Pf⟩=>⟨hl,F,as,ws,ce,S,rs,?_⟩
 revert Pf;unfold lM;cases d ws ce with
 | none=>exact fun P=>P
 | some r=>cases r with
  | ex x ce'=>exact fun P=>P
  | ok w ce' =>
   dsimp only;intro Pf v H' F' as' l S' rv;split at Pf
   ·rename_i h1;split at Pf
    ·rename_i w2 e2;obtain⟨S2,l2⟩:=S.cut S' l h1
     let isC:Addr->Prop:=fun a=>∃(k:Nat) (xs:List W),ce.length<=k/\as'[k]?=some a/\ce'[k]?=some (.lst xs)
     let F2:Hp:=fun a=>if isC a then H' a else F' a
     have sub:∀a o,F' a=some o->F2 a=some o:=fun a o e=>by
      have:¬isC a:=by rintro⟨k,xs,_,e1,e3⟩;have:=(S'.cell k a _ e1 e3).1 rfl;rw[this] at e;cases e
      show(if isC a then H' a else F' a)=_;rw[if_neg this];exact e
     have l3:Le F' (as'.take ce.length) F2 (as'.take ce.length):=⟨sub,fun _ _ h=>h⟩
     refine Pf v H' F2 (as'.take ce.length) (l2.trans l3) ⟨fun b o e=>?_,S2.nd,S2.len,fun i b c e1 e3=>?_⟩ ?_
     ·have e:(if isC b then H' b else F' b)=some o:=e;split at e
      ·exact e
      ·exact S'.sub _ _ e
     ·obtain⟨p1,p2⟩:=S2.cell i b c e1 e3;refine⟨fun hn=>?_,p2.le l3 rfl⟩;show(if isC b then H' b else F' b)=none;rw[if_neg]
      ·exact p1 hn
      ·rintro⟨k,xs,hk,e4,_⟩;have hi:i<ce.length:=by have:=dJ e3;rw[length_take] at this;omega
       rw[jt hi] at e1;have a1:=dJ e4;have a2:=dJ e1;rw[getElem?_eq_getElem a1] at e4;rw[getElem?_eq_getElem a2] at e1;have:=nJ S'.nd a1 a2 ((Option.some.inj e4).trans (Option.some.inj e1).symm);omega
     ·refine xQ S' sub (fun k a xs vs hk e1 e3 e4=>?_) (fun k a hk e1=>by rw[jt hk];exact e1) 6 e2 rv;show(if isC a then H' a else F' a)=_;rw[if_pos ⟨k,xs,hk,e1,e3⟩];exact e4
    ·exact Pf.elim
   ·exact Pf.elim
def m7(ce:Ce)(w:W):Option W:=eJ 0 ce 6 w
theorem xP{F:Hp}{w:W}{v:V}(S:aw G F as H ce)(r:Rep F as w v)(e:m7 ce w=some w2):Rep H as w2 v :=
 xQ S S.sub (fun k a xs vs _ _ _ h=>h) (fun k a hk _=>absurd hk (not_lt_zero _)) 6 e r
def j7(ng:Bool)(ce:Ce)(x y:W):Option W:=match m7 ce x,m7 ce y with
 | some x',some y'=>if (aX 8 x'&&aX 8 y')=true then some (.bl (if ng then !aL x' y' else aL x' y')) else none
 | _,_=>none
theorem Ef(ng:Bool):jC (oM ng) (j7 ng):=by
 intro G F as H ce x y wx wy w S rx ry e Q q;unfold j7 at e;split at e
 ·rename_i x' y' e1 e2;split at e
  ·rename_i hc;rw[and_eq_true] at hc;cases e;exact⟨as,_,_,xP S rx e1,xP S ry e2,hc.1,hc.2,q _ (by simp only[Rep])⟩
  ·cases e
 ·cases e
section
variable {E:XK} {a b:Expr}
theorem BL(hu:X.A.units+8<cLine)(ha:PE X a (ar G E da))(hb:PE X b (ar G E db)):PT X (.Compare a [.Eq] [b] pos) (bW G E (dB (aE (j7 false) da db))):=jP (rD hu) ha hb (ip _) (iP (Ef false))
end
end VS
variable {q:Nat} {c:Ce}
namespace VS
section
variable {e o i:Sl->M W} {w x y:W} {b:DS} {ij:Int}
theorem pq(h:j<n):gq n (j:Int)=some j:=by unfold gq;rw[if_pos (by omega),if_pos (by omega)];simp
theorem uM(he:e sl ce=some (.ok w c1))(ho:o sl c1=some (.ok (.cel k) c2))(hi:i sl c2=some (.ok (.int ij) c3))(g:c3[k]?=some (.lst xs))(hj:gq xs.length ij=some j) :
  gP e (jk o i) sl ce=some (.go .nx sl (c3.set k (.lst (xs.set j w)))):=by
 simp only[gP,cu,he,jk,ho,hi,km g,hj]
theorem xO(he:e sl ce=some (.ok w c1))(ho:o sl c1=some (.ok (.cel k) c2))(hi:i sl c2=some (.ok (.int ij) c3))(g:c3[k]?=some (.lst xs))(hj:gq xs.length ij=some j)(q:Q (.go .nx sl (c3.set k (.lst (xs.set j w))))) :
  Run (gP e (jk o i)) sl ce Q:=⟨_,uM he ho hi g hj,q⟩
theorem xN(he:e sl ce=some (.ok w c1))(ho:o sl c1=some (.ok (.cel k) c2))(hi:i sl c2=some (.ok (.int ij) c3))(g:c3[k]?=some (.lst xs))(hj:gq xs.length ij=some j)(q:Run b sl (c3.set k (.lst (xs.set j w))) Q) :
  Run (aq (gP e (jk o i)) b) sl ce Q:=ig (uM he ho hi g hj) q
abbrev g2(p q:Nat):DG:=gT 2 (jo (gN p) (jo (gN q) nv))
theorem uZ:g2 p q (.tup [x,y]) sl ce=some ((sl.set p (some x)).set q (some y),ce):=rfl
theorem xM(he:e sl ce=some (.ok (.tup [x,y]) c1))(q':Run b ((sl.set p (some x)).set q (some y)) c1 Q):Run (aq (gP e (g2 p q)) b) sl ce Q :=
 ig (sl':=(sl.set p (some x)).set q (some y)) (ce':=c1) (by simp only[gP,cu,he,uZ]) q'
variable {α:Type} {fa fb:α->W} {zs:List α}
theorem FO(hi:bp di sl ce c1 (zs.map fun z=>.tup [fa z,fb z]))(R:List α->Sl->Ce->Prop)(h0:R [] sl c1)(step:∀d x r sl ce,d++x::r=zs->x∈zs->R d sl ce->Run body ((sl.set p (some (fa x))).set q (some (fb x))) ce (Nx (R (d++[x]))))(fin:∀sl ce,R zs sl ce->Run b sl ce Q):Run (aq (cf di (g2 p q) body) b) sl ce Q:=by
 obtain⟨s,h1,h2,h3⟩:=hi;obtain⟨o,e,q'⟩:=pT (g:=g2 p q) (body:=body) (en:=fun z=>W.tup [fa z,fb z]) (src:=s) zs R (fun _ _=>False) (fun d x r sl ce e h=>⟨h3 _,_,uZ,(step d x r sl ce e (by rw[<- e];simp) h).mono fun o q=>by
   cases o with
   | ex x c=>exact q.elim
   | go f sl2 ce2=>cases f<;>first|exact q|exact q.elim⟩) (fun _ _ _=>h3 _) zs [] sl c1 rfl h0
 rcases q' with ⟨sl',ce',rfl,h⟩|⟨w,sl',ce',rfl,h⟩
 ·exact ig (by rw[pF h1,h2];exact e) (fin _ _ h)
 ·exact h.elim
end
structure kE (ce b:Ce):Prop where
 len:b.length=ce.length
 cell:∀(k:Nat) (c:C),b[k]?=some c->ce[k]?=some c\/eK ce.length c
theorem kE.refl(ce:Ce):kE ce ce:=⟨rfl,fun _ _ h=>.inl h⟩
theorem kE.cut{b t:Ce}(h:kE ce b):gC ce (b++t):=⟨by rw[length_append,h.len];omega,fun k c hk e=>h.cell k c (by rwa [getElem?_append_left (by rw[h.len];exact hk)] at e)⟩
theorem kE.take{b t:Ce}(h:kE ce b):(b++t).take ce.length=b:=by rw[<- h.len];exact take_left
namespace Own
variable {b:Ce} {l:List (Nat×C)} {x:C} {w:W}
theorem frzD'{d:List W->M W}(e:d ws ce=some (.ok w c))(h:Own b c l)(g:kE ce b)(ht:eJ ce.length c 6 w=some w2):lM d ws ce=some (.ok w2 b):=by obtain⟨⟨t,rfl⟩,_⟩:=h;simp only[lM,e,ht,g.take];exact if_pos g.cut
end Own
def pW(p:Nat×Nat):W:=.tup [nW p.1,nW p.2]
theorem r_(d:Nat)(k:Nat):eJ n ce d (nW k)=some (nW k):=by cases d<;>simp only[nW,eJ]
theorem sZ(d:Nat):∀l:List (Nat×Nat),fO n ce (d+1) (l.map pW)=some (l.map pW)
 | []=>by simp only[map_nil,fO]
 | a::r=>by simp only[map_cons,fO,pW,eJ,r_,sZ d r,map_some]
def Cls(ce:Ce)(ks:List Nat)(cs:List (List Nat)):Prop:=PySem.Paired (fun k c=>ce[k]?=some (.lst (c.map nW))) ks cs
end VS
variable {e:Expr} {es:List Expr} {name:Str} {apos cpos:Pos} {dr:Sl->M (List W)}
namespace VS
open MeetsSeq (EqGives)
section
variable {E:XK} {o:Expr} {do':Sl->M W} {id:String} {rm:V->List V->Hp->VK->Prop} {fm:W->List W->M W}
end
section
variable {E:XK} {tg a:Expr}
end
end VS
namespace VS
section
variable {a b:Sl->M W} {w x y:W}
theorem vY(ha:a sl ce=some (.ok (.bl true) c1))(hb:b sl c1=some (.ok w c2)):kI a b sl ce=some (.ok w c2):=by simp only[kI,au,ha,hb]
end
theorem uL(ng:Bool)(l m:List Int):bo ng ce (wS l) (wS m)=some (.bl (if ng then !decide (l=m) else decide (l=m))):=by have d:∀l:List Int,drf ce (wS l)=wS l:=fun _=>rfl;have c:∀l:List Int,aX 8 (wS l)=true:=fun l=>n5 l 7;simp only[bo,d,c,Bool.and_self,if_true];simp only[aL,tJ]
end VS
namespace VS
section
variable {E:XK} {a b:Expr}
end
end VS
variable {E:Value->Shared->Prop} {s:Shared} {prog:Program} {A:Around}
namespace VS
open HT
section
variable {E:XK} {a:Expr}
end
end VS
namespace VS
def fx:List W->M W:=fun ws ce=>match ws with
 | [.int i]=>some (.ok (.int i) ce)
 | [.bl k]=>some (.ok (.int (if k then 1 else 0)) ce)
 | _=>none
theorem kL{E:XK}:Bi G E (fun xs H Q=>(∃i,xs=[.int i]/\Q (.int i) H)\/∃k,xs=[.bl k]/\Q (.int (if k then 1 else 0)) H) fx:=by
 intro F as H σ sl ce ws vs Q S rs P;revert P;unfold fx;split
 ·intro P;obtain⟨v,rfl,r⟩:=iz rs;simp only[Rep] at r;subst r;exact .inl ⟨_,rfl,P.done S (by simp only[Rep])⟩
 ·intro P;obtain⟨v,rfl,r⟩:=iz rs;simp only[Rep] at r;subst r;exact .inr ⟨_,rfl,P.done S (by simp only[Rep])⟩
 ·exact fun P=>P.elim
end VS
variable {a S:Addr} {h h':Heap} {N:Addr->Prop} {env:Env} {outer:List Env} {oe:Obj} {vs:Array Value} {a0:Value} {pins:List (Addr×Obj)} {qual cn:Str} {st b0:Stmt} {sp:Sp} {e1 e2:Expr} {np hpos pos':Pos} {suite:List Stmt} {th:Value->TS}
namespace L2
def DQ{α:Type}:Sem α->Prop
 | .pure _=>True
 | .raise _=>True
 | .unsupported _=>True
 | .finish _=>True
 | .rule _ k=>DQ (k ())
 | .at _ k=>DQ (k ())
 | .load _ _ k=>∀o,DQ (k o)
 | .update _ _ f k=>(∀o:Obj,(f o).dict=o.dict/\((f o).isFreed=true->o.isFreed=true))/\DQ (k ())
 | .alloc _ k=>∀a,DQ (k a)
 | .loadIfAlive _ k=>∀o,DQ (k o)
 | .point _ k=>DQ (k ())
 | .fresh k=>∀t,DQ (k t)
 | .ask k=>∀t,DQ (k t)
 | .handled _ k=>∀t,DQ (k t)
 | .stack k=>∀t,DQ (k t)
 | _=>False
theorem DQ.bind{α β:Type}:∀{t:Sem α} {f:α->Sem β},DQ t->(∀a,DQ (f a))->DQ (t >>= f):=by
 intro t f;show DQ t->(∀a,DQ (f a))->DQ (Sem.bind t f);intro ht hf
 induction t with
 | pure a=>exact hf a
 | raise v=>trivial
 | unsupported x=>trivial
 | finish x=>trivial
 | rule s k ih=>exact ih () ht
 | «at» s k ih=>exact ih () ht
 | load a p k ih=>exact fun o=>ih o (ht o)
 | update a p g k ih=>exact⟨ht.1,ih () ht.2⟩
 | alloc o k ih=>exact fun a=>ih a (ht a)
 | loadIfAlive a k ih=>exact fun o=>ih o (ht o)
 | point l k ih=>exact ih () ht
 | fresh k ih=>exact fun o=>ih o (ht o)
 | ask k ih=>exact fun o=>ih o (ht o)
 | handled b k ih=>exact fun o=>ih o (ht o)
 | stack k ih=>exact fun o=>ih o (ht o)
 | _=>exact ht.elim
def jF(e:Addr)(d:Option Addr)(h:Heap):Prop:=∃o,h.get? e=some o/\o.dict=d
theorem qK{e:Addr}{u:Obj}(x:h.get? e=some u):u.isFreed=false:=by
 unfold Heap.get? at x;split at x
 ·cases x
 ·rename_i y z;cases q:u.isFreed with
  | false=>rfl
  | true =>
   exfalso;obtain⟨c,d,dt,sl⟩:=u;unfold Obj.isFreed at q;cases dt<;>simp at q;exact z c d sl x
theorem jF.push{e:Addr}{d:Option Addr}(x:jF e d h)(o:Obj):jF e d (h.push o):=by obtain⟨u,e1,e2⟩:=x;exact⟨u,Heap.get?_push_of_some _ e1,e2⟩
theorem jF.update{e:Addr}{d:Option Addr}(x:jF e d h)(a:Addr)(f:Obj->Obj)(hf:∀o:Obj,(f o).dict=o.dict/\((f o).isFreed=true->o.isFreed=true)):jF e d (h.update a f):=by
 obtain⟨u,e1,e2⟩:=x
 by_cases q:e=a
 ·subst q;refine⟨f u,Heap.get?_update_self f e1 ?_,(hf u).1.trans e2⟩;cases q:(f u).isFreed with
  | false=>rfl
  | true =>
   have:=(hf u).2 q;rw[qK e1] at this;cases this
 ·exact⟨u,(Heap.get?_update_ne _ _ _ _ q).trans e1,e2⟩
theorem Bt{α:Type}{M:Model}{Γ:PySem.Ctx}{e:Addr}{d:Option Addr}(t:Sem α):DQ t->∀(Q:α->Pos->Shared->Prop) (E:Value->Pos->Shared->Prop) (p:Pos) (s:Shared),Sem.wp M Γ t Q E p s->jF e d s.heap->Sem.wp M Γ t (fun a x s'=>Q a x s'/\jF e d s'.heap) E p s:=by
 induction t with
 | pure a=>intro _ Q E p s h x;simp only[Sem.wp] at h ⊢;exact⟨h,x⟩
 | raise v=>intro _ Q E p s h x;simp only[Sem.wp] at h ⊢;exact h
 | unsupported v=>intro _ Q E p s h x;simp only[Sem.wp] at h ⊢
 | finish v=>intro _ Q E p s h x;simp only[Sem.wp] at h ⊢
 | rule tag k ih=>intro dq Q E p s h x;simp only[Sem.wp] at h ⊢;exact ih () dq Q E p s h x
 | «at» p' k ih=>intro dq Q E p s h x;simp only[Sem.wp] at h ⊢;exact ih () dq Q E _ s h x
 | load a pt k ih =>
  intro dq Q E p s h x;simp only[Sem.wp] at h ⊢;obtain⟨o,e1,h⟩:=h;exact⟨o,e1,ih o (dq o) Q E p s h x⟩
 | update a pt f k ih =>
  intro dq Q E p s h x;simp only[Sem.wp] at h ⊢;exact⟨h.1,ih () dq.2 Q E p _ h.2 (x.update a f dq.1)⟩
 | alloc o k ih=>intro dq Q E p s h x;simp only[Sem.wp] at h ⊢;exact ih _ (dq _) Q E p _ h (x.push o)
 | loadIfAlive a k ih=>intro dq Q E p s h x;simp only[Sem.wp] at h ⊢;exact ih _ (dq _) Q E p _ h x
 | point l k ih=>intro dq Q E p s h x;simp only[Sem.wp] at h ⊢;exact ih () dq Q E p _ h x
 | fresh k ih=>intro dq Q E p s h x;simp only[Sem.wp] at h ⊢;exact ih _ (dq _) Q E p _ h x
 | ask k ih=>intro dq Q E p s h x;simp only[Sem.wp] at h ⊢;exact ih _ (dq _) Q E p _ h x
 | handled b k ih=>intro dq Q E p s h x;simp only[Sem.wp] at h ⊢;exact ih _ (dq _) Q E p _ h x
 | stack k ih=>intro dq Q E p s h x;simp only[Sem.wp] at h ⊢;exact ih _ (dq _) Q E p _ h x
 | _=>intro dq;exact dq.elim
theorem vX{α:Type}{M:Model}{t:Sem α}{Q:α->Shared->Prop}{e:Addr}{d:Option Addr}(dq:DQ t)(h:wpAny M A t Q E s)(x:jF e d s.heap):wpAny M A t (fun a s'=>Q a s'/\jF e d s'.heap) E s :=
 fun Γ p hin=>Bt t dq _ _ p s (h Γ p hin) x
theorem HX(v:Value):DQ (fieldsOf v):=by
 unfold fieldsOf;split
 ·exact DQ.bind (fun _=>trivial) fun o=>by
   split
   ·exact trivial
   ·exact trivial
 ·exact trivial
theorem pS(v:Value)(i:Nat):DQ (field v i):=by
 unfold field;exact DQ.bind (HX v) fun o=>by
  split
  ·exact trivial
  ·exact trivial
theorem lE(g:Array Value->Array Value)(o:Obj):(Obj.mapFields g o).dict=o.dict/\((Obj.mapFields g o).isFreed=true->o.isFreed=true):=by obtain⟨c,d,dt,sl⟩:=o;cases dt<;>exact⟨rfl,fun h=>h⟩
theorem IU(a:Addr)(i:Nat)(v:Value):DQ (updateField a i v):=by
 unfold updateField;exact DQ.bind (fun _=>trivial) fun o=>by
  split
  ·split
   ·exact⟨lE _,trivial⟩
   ·exact trivial
  ·exact trivial
theorem tN(v:Value)(i:Nat)(x:Value):DQ (setField v i x):=by
 unfold setField;split
 ·exact IU _ _ _
 ·exact trivial
theorem Ip(e:Value)(f:Option Addr):DQ (setFlight e f):=by
 unfold setFlight;exact DQ.bind (pS _ _) fun tb=>by
  split
  ·exact tN _ _ _
  ·exact trivial
theorem GX(env:Env)(outer:List Env):DQ (behindIsImport env outer):=by
 unfold behindIsImport;split
 ·exact trivial
 ·split
  ·exact trivial
  ·exact DQ.bind (pS _ _) fun _=>trivial
theorem FN:DQ underTheClaimsCaller:=by unfold underTheClaimsCaller;exact DQ.bind (fun _=>trivial) fun _=>trivial
theorem Ee(env:Env)(b:Bool)(l:List Env):DQ (keptBack env b l):=by
 unfold keptBack;split
 ·split
  ·exact trivial
  ·exact DQ.bind FN fun _=>trivial
 ·exact trivial
theorem xK:∀l:List Env,DQ (readyFrames l)
 | []=>trivial
 | env::outer=>by
  rw[readyFrames.eq_2];split
  ·exact DQ.bind (fun _=>trivial) fun o=>by
    split
    ·exact trivial
    ·exact DQ.bind (GX _ _) fun b=>DQ.bind (Ee _ _ _) fun v=>DQ.bind ⟨fun o=>⟨rfl,fun h=>by obtain⟨c,d,dt,sl⟩:=o;cases dt<;>exact h⟩,trivial⟩ fun _=>xK outer
  ·exact trivial
theorem Hq(env:Env):DQ (PySem.frameOf env):=by
 unfold PySem.frameOf;refine DQ.bind ?_ fun l=>DQ.bind ?_ fun o=>?_
 ·unfold frameEnvs;exact DQ.bind (fun _=>trivial) fun _=>trivial
 ·unfold frameObject;split
  ·exact trivial
  ·exact DQ.bind (xK _) fun _=>trivial
 ·split
  ·exact trivial
  ·exact trivial
theorem FL(f:Addr)(b:Bool):DQ (entryPlaceOf f b):=by
 unfold entryPlaceOf;exact DQ.bind (fun _=>trivial) fun l=>by
  split
  ·exact trivial
  ·exact trivial
theorem Ed(t:String)(vs:List Value):DQ (newFields t vs):=by
 have a:DQ (newObjAsIs (.type t) (.fields vs.toArray)):=by unfold newObjAsIs;exact DQ.bind (fun _=>trivial) fun _=>trivial
 unfold newFields newObj;dsimp only;split
 ·exact DQ.bind trivial fun _=>a
 ·exact a
theorem Ec(e:Value)(env:Env):DQ (noteFrame e env):=by
 unfold noteFrame;split
 ·refine DQ.bind (pS _ _) fun hd=>?_;rename_i f _;have jp:∀x:Unit,DQ (do
   let a <- PySem.frameOf env
   let pl <- entryPlaceOf f (hd != Value.none)
   let b <- EntryCells.newEntry hd a Value.none (rawInt ↑f) Value.none pl
   setField e 1 b):=fun _=>DQ.bind (Hq _) fun a=>DQ.bind (FL _ _) fun pl=>DQ.bind (Ed _ _) fun b=>tN _ _ _
  dsimp only;split
  ·refine DQ.bind (pS _ _) fun x=>?_;split
   ·exact trivial
   ·exact DQ.bind (tN _ _ _) fun x=>jp x
  ·exact jp ()
 ·exact trivial
theorem aA.there{o:HO}(x:aA P w H h a o):∃u,h.get? a=some u:=by
 cases o with
 | lst xs=>obtain⟨_,_,_,_,e⟩:=x;exact⟨_,e⟩
 | tup xs=>obtain⟨_,_,_,u,e,_⟩:=x;exact⟨_,e⟩
 | dK kvs=>obtain⟨_,_,_,_,o,_,_,e,_⟩:=x;exact⟨_,e⟩
 | dT kvs=>obtain⟨_,_,_,_,o,_,_,e,_⟩:=x;exact⟨_,e⟩
 | set S n=>obtain⟨o,_,_,_,e,_⟩:=x;exact⟨_,e⟩
 | ins C dx fs=>obtain⟨_,_,_,e,_⟩:=x;exact⟨_,e⟩
 | own y=>exact x
 | xd fs=>obtain⟨_,⟨_,_,_,e,_⟩,_⟩:=x;exact⟨_,e⟩
 | rng lo hi=>obtain⟨_,_,_,e⟩:=x;exact⟨_,e⟩
 | frz ob u=>obtain⟨e,_⟩:=x;exact⟨_,e⟩
 | tbl ps=>exact⟨_,x⟩
 | met f y=>exact⟨_,x⟩
 | ext φ=>exact x.2.1
def Fl(N:Addr->Prop)(a:Addr)(cls:Value)(H:Hp)(h:Heap):Prop :=
 ∃oe vs a0,N a/\H a=none/\h.get? a=some oe/\VS.Tg cls oe/\oe.data=.fields vs/\vs[0]?=some a0 /\
  (vs[1]?=some .none\/∃T oT ts,vs[1]?=some (.ref T)/\N T/\H T=none/\T≠a/\h.get? T=some oT/\oT.data=.fields ts/\ts[3]?=some .none)
theorem Fl.mono{N':Addr->Prop}{cls:Value}(f:Fl N a cls H h)(k:∀b,N b->N' b):Fl N' a cls H h:=by obtain⟨oe,vs,a0,n,h1,h2,h3,h4,h5,h6⟩:=f;refine⟨oe,vs,a0,k _ n,h1,h2,h3,h4,h5,h6.imp id fun⟨T,oT,ts,e1,e2,e⟩=>⟨T,oT,ts,e1,k _ e2,e⟩⟩
theorem FK{M:Model}{B:Heap}{L:Addr}{Q:Unit->Shared->Prop}(hfr:A.frames=some (env::outer))(hl:s.heap.FunFrames B (env::outer))(hf:env.frame=some L)(he:s.heap.get? a=some oe)(hkb:B.StaysIn s.heap)(hen:B.get? a=none)(hd:oe.data=.fields vs)(h0:vs[0]?=some a0)(h1:vs[1]?=some .none\/∃T oT ts,vs[1]?=some (.ref T)/\B.get? T=none/\T≠a/\s.heap.get? T=some oT/\oT.data=.fields ts/\ts[3]?=some .none)(hQ:∀h',Heap.NotedW B (env::outer) a oe.cls a0 (rawInt L) s.heap h'->Q () { s with heap:=h' }):wpAny M A (noteFrame (.ref a) env) Q E s:=by
 rcases h1 with h1|⟨T,oT,ts,h1,hnT,hTe,hT,hdT,h3⟩
 ·unfold noteFrame;simp only[hf];refine wpAny_bind (wpAny_field he hd h1 ?_);rw[if_neg (by decide)];exact wpAny_entryW hfr hl hf he hkb hen hd (Array.getElem?_eq_some_iff.mp h1).1 h0 hQ
 ·exact wpAny_noteFrame_onW hfr hl hf ⟨oe,vs,T,oT,ts,he,⟨rfl,h0⟩,hd,h1,hnT,hTe,hT,hdT,h3⟩ hkb hen hQ
structure iX (stk:List Addr) (N:Addr->Prop) (H:Hp) (a:Addr) (cls:Value) (h h':Heap):Prop where
 keep:∀b o,h.get? b=some o->b∉stk->(H b≠none\/¬N b\/∀vs,o.data≠.fields vs)->h'.get? b=some o
 slot:∀b o,h.get? b=some o->b∈stk->∃sl,h'.get? b=some { o with slots:=sl }
 fl:Fl (fun b=>N b\/h.get? b=none) a cls H h'
theorem flown{M:Model}{A':Around}{σ:St}{cls:Value}{Q:Unit->Shared->Prop}(I:Inv X pins σ H s)(hst:X.stack=X.env::X.outer)(hf:X.env.frame=some X.env.locals)(f:Fl N a cls H s.heap)(hQ:∀h',iX (cW X.stack) N H a cls s.heap h'->Q () { s with heap:=h' }) :
  wpAny M X.A (noteFrame (.ref a) X.env) (fun _ s₂=>wpAny M A' (setFlight (.ref a) none) Q E s₂) E s:=by
 obtain⟨oe,vs,a0,na,ha,he,tg,hd,h0,h1⟩:=f;have hstk:=I.stack;have hfree:=I.stkFree;have hfr:=I.ok.frames;obtain⟨hid,hh1,hh2,hh3,hh4⟩:∃hid:List Addr,(∀b∈cW X.stack,b∈hid)/\a∈hid/\(∀b∈hid,b∈cW X.stack\/(N b/\H b=none/\∃o vs,s.heap.get? b=some o/\o.data=.fields vs)) /\
   (vs[1]?=some .none\/∃T oT ts,vs[1]?=some (.ref T)/\T∈hid/\T≠a/\s.heap.get? T=some oT/\oT.data=.fields ts/\ts[3]?=some .none):=by
  rcases h1 with h1|⟨T,oT,ts,h1,nT,hT,hTa,r⟩
  ·refine⟨cW X.stack++[a],fun b hb=>mem_append_left _ hb,mem_append_right _ (by simp),fun b hb=>?_,.inl h1⟩;rcases mem_append.mp hb with hb|hb
   ·exact .inl hb
   ·rw[mem_singleton] at hb;subst hb;exact .inr ⟨na,ha,_,_,he,hd⟩
  ·obtain⟨hT1,hT2,hT3⟩:=r;refine⟨cW X.stack++[a,T],fun b hb=>mem_append_left _ hb,mem_append_right _ (by simp),fun b hb=>?_,.inr ⟨T,oT,ts,h1,mem_append_right _ (by simp),hTa,hT1,hT2,hT3⟩⟩;rcases mem_append.mp hb with hb|hb
   ·exact .inl hb
   ·rcases mem_cons.mp hb with rfl|hb
    ·exact .inr ⟨na,ha,_,_,he,hd⟩
    ·rw[mem_singleton] at hb;subst hb;exact .inr ⟨nT,hT,_,_,hT1,hT2⟩
 have hin:∀env∈X.env::X.outer,∀b,env.frame=some b->b∈hid:=fun env he b hb=>hh1 b (mem_filterMap.mpr ⟨env,by rw[hst];exact he,hb⟩);have hl:s.heap.FunFrames (hideAll s.heap hid) (X.env::X.outer):=PySem.W.funFrames_hide (by rw[<- hst];exact hstk) hin;have n0:wpAny M X.A (noteFrame (.ref a) X.env) (fun _ s2=>∃h1,s2={ s with heap:=h1 }/\Heap.NotedW (hideAll s.heap hid) (X.env::X.outer) a oe.cls a0 (rawInt X.env.locals) s.heap h1) E s :=
  FK (by rw[hfr,hst]) hl hf he (fun b o q=>of_hideAll _ q) (hideAll_none _ hh2) hd h0 (hh4.imp id fun⟨T,oT,ts,e1,e2,e3,e4⟩=>⟨T,oT,ts,e1,hideAll_none _ e2,e3,e4⟩) fun h1 z=>⟨h1,rfl,z⟩
 refine wpAny_mono (vX (e:=a) (d:=oe.dict) (Ec _ _) n0 ⟨oe,he,rfl⟩) (fun _ s2 ⟨⟨h1,es,z⟩,dz⟩=>?_) fun _ _ z=>z;subst es;obtain⟨z1,z2,z3,z4⟩:=z;have n1:wpAny M A' (setFlight (.ref a) none) (fun _ s3=>∃h2,s3={ s with heap:=h2 }/\(hideAll s.heap hid).FlyingW (X.env::X.outer) a oe.cls a0 h2/\h1.UpToSlots h2) E { s with heap:=h1 } :=
  wpAny_landsW (base:=hideAll s.heap hid) (l:=X.env::X.outer) (cls:=oe.cls) (a0:=a0) ⟨z1,hideAll_none _ hh2,z2,z3⟩ fun h2 y1 y2=>⟨h2,rfl,y1,y2⟩
 refine wpAny_mono (vX (e:=a) (d:=oe.dict) (Ip _ _) n1 dz) (fun _ s3 ⟨⟨h2,es,y1,y2⟩,dz2⟩=>?_) fun _ _ z=>z;subst es;refine hQ h2 ?_;have up:∀b o,s.heap.get? b=some o->(∀vs,o.data≠.fields vs)->∃sl,h2.get? b=some { o with slots:=sl }:=fun b o e n=>by
  obtain⟨s1,e1⟩:=z4 b o e n;obtain⟨s2,e2⟩:=y2 b _ e1 n;exact⟨s2,e2⟩
 have sl:∀b o,s.heap.get? b=some o->b∈cW X.stack->∃sl,h2.get? b=some { o with slots:=sl }:=fun b o e hb=>by
  obtain⟨_,o',e',n⟩:=hstk.mem hb;rw[e] at e';cases e';exact up b o e n
 obtain⟨y1,y3,y4,oe',vs',T',oT',ts',t1,⟨t2,t3⟩,t4,t5,t6,t7,t8,t9,t10⟩:=y1;refine⟨fun b o e hb hc=>?_,sl,oe',vs',a0,.inl na,ha,t1,tg.same t2 (by obtain⟨u,e1,e2⟩:=dz2;rw[t1] at e1;cases e1;exact e2),t4,t3,.inr ⟨T',oT',ts',t5,?_,?_,t7,t8,t9,t10⟩⟩
 ·refine y1 b o (hideAll_get _ e fun hm=>?_);rcases hh3 b hm with q|⟨q1,q2,o',vs',q3,q4⟩
  ·exact hb q
  ·rcases hc with hc|hc|hc
   ·exact hc q2
   ·exact hc q1
   ·rw[e] at q3;cases q3;exact hc _ q4
 all_goals
  cases q:s.heap.get? T' with
  | none =>
   first
    | exact .inr q
    | (cases q2:H T' with
       | none=>rfl
       | some u=>obtain⟨u',e'⟩:=(I.hok T' u q2).there;rw[q] at e';cases e')
  | some o =>
   have hm:T'∈hid:=by apply Classical.byContradiction;intro hm;have:=hideAll_get _ q hm;rw[t6] at this;cases this
   rcases hh3 T' hm with hs|⟨q1,q2,_⟩
   ·exfalso;obtain⟨_,o',e',n⟩:=hstk.mem hs;rw[q] at e';cases e';obtain⟨s2,e2⟩:=up T' o q n;rw[t8] at e2;cases e2;exact n _ t9
   ·first|exact .inl q1|exact q2
def bz(P:Program)(w:World):i4:=fun outer H s E e s'=>∃a cls H',e=.ref a/\s'.os=s.os/\AllBare s'.gens/\Un (cW outer) [] H H' s.heap s'.heap/\bY P w H' s'.heap/\Fl (fun b=>s.heap.get? b=none) a cls H' s'.heap/\E cls none H'
def Nw(X:Cx)(pins:List (Addr×Obj))(b:Addr):Prop:=X.s₀.heap.get? b=none/\∀p∈X.pn++pins,p.1≠b
def eh(X:Cx)(E:XK):Prop:=∀(pins:List (Addr×Obj)) (σ:St) (H:Hp) (s:Shared) (a:Addr) (cls:Value),Inv X pins σ H s->Fl (Nw X pins) a cls H s.heap->E cls none H->X.xe (.ref a) s
theorem lV{σ:St}{b:Addr}(hx:X.ex=[])(I:Inv X pins σ H s)(h:s.heap.get? b=none):Nw X pins b:=by
 refine⟨?_,fun p hp e=>?_⟩
 ·cases q:X.s₀.heap.get? b with
  | none=>rfl
  | some o =>
   obtain⟨o',e⟩:=I.base.there b o q (by rw[hx];simp);rw[h] at e;cases e
 ·obtain⟨e1,_⟩:=I.pin p hp;rw[e,h] at e1;cases e1
theorem eh.passes{E:XK}(h:eh X E)(hx:X.ex=[]):gh (bz X.prog X.w) X E:=fun pins σ H s e s' I z=>by
 obtain⟨a,cls,H',rfl,ho,hg,u,hok,f,q⟩:=z;exact h pins σ H' s' a cls (I.call' ho u hok hg (fun b z=>absurd z (by simp))) (f.mono fun b hb=>lV hx I hb) q
theorem w6:gh (bz X.prog X.w) X E0:=fun _ _ _ _ _ _ _ z=>by
 obtain⟨_,_,_,_,_,_,_,_,_,q⟩:=z;exact q.elim
theorem ae{N:List Str}{scope:Scope}{cd:Value}{E:XK} :
  eh (gO (bz P w) P w K mg base N qual scope f cd A outer s H E) E:=by
 intro pins σ H1 s1 a cls I fl q;show wpAny (model P w) _ (leaving _ _) _ _ s1;unfold leaving;refine wpAny_bind (flown I rfl rfl fl fun h' F=>?_);have hb:=I.base;have hstk:=I.stack;have hlt:∀b o,s.heap.get? b=some o->b≠(gO (bz P w) P w K mg base N qual scope f cd A outer s H E).env.locals:=fun b o e q=>absurd (Heap.lt_size e) (by rw[q];exact not_lt.mpr I.ok.above);have hfs:∀b,b∈cW (gO (bz P w) P w K mg base N qual scope f cd A outer s H E).stack->b=(gO (bz P w) P w K mg base N qual scope f cd A outer s H E).env.locals\/b∈cW outer:=fun b hb=>mem_cons.mp (I.stkSub b hb);have hout:∀b,b∈cW outer->b∈cW (gO (bz P w) P w K mg base N qual scope f cd A outer s H E).stack:=fun b hb=>by
  obtain⟨env,h1,h2⟩:=mem_filterMap.mp hb;exact mem_filterMap.mpr ⟨env,mem_cons_of_mem _ h1,h2⟩
 refine⟨a,cls,H1,rfl,I.os,I.bare,⟨fun b o e n h1 h2=>?_,fun b o e n h1 h2=>?_,fun b o e n h2=>hb.free b o e n h2,fun b o e h2=>?_,hb.tups,hb.frzs,hb.tbls⟩,fun b o e=>?_,F.fl.mono fun b hb'=>?_,q⟩
 ·have e1:=hb.keep b o e n h1 h2;refine F.keep b o e1 (fun hm=>?_) (.inr<|.inl fun hn=>by have z:s.heap.get? b=none:=hn.1;rw[z] at e;cases e);rcases hfs b hm with z|z
  ·exact hlt b o e z
  ·exact h1 z
 ·obtain⟨sl,e1⟩:=hb.slot b o e n h1 h2;obtain⟨s2,e2⟩:=F.slot b _ e1 (hout b h1);exact⟨s2,e2⟩
 ·obtain⟨o',e1⟩:=hb.there b o e h2
  by_cases hm:b∈cW (gO (bz P w) P w K mg base N qual scope f cd A outer s H E).stack
  ·obtain⟨s2,e2⟩:=F.slot b o' e1 hm;exact⟨_,e2⟩
  ·exact⟨o',F.keep b o' e1 hm (.inr<|.inl fun hn=>by have z:s.heap.get? b=none:=hn.1;rw[z] at e;cases e)⟩
 ·refine(I.hok b o e).stay (fun c u hc r=>?_) (fun _ q=>q) fun _ _ q=>q;have hH:H1 c≠none:=by
   rcases hc with rfl|hc
   ·rw[e];simp
   ·rw[hc];simp
  exact F.keep c u r (fun hm=>hH (I.stkFree c hm)) (.inl hH)
 ·rcases hb' with hb'|hb'
  ·exact hb'.1
  ·exact(lV (pins:=pins) rfl I hb').1
theorem bO.okX{x:Str}{N:List Str}(F:bO K x qual st f fd)(S:ao N ps (bb st))(len:∀vs H Q E,sp vs H Q E->vs.length=ps.length)(hbody:∀(cdv:Value) (A:Around) (outer:List Env) (s:Shared) (H:Hp) (vs:List V) (Q:VK) (E:XK),aR k (A.deeper (envOfC qual (bb st) s.heap.objs.size f cdv))->sp vs H Q E ->
   ∃t,PSs (gO (bz P w) P w K mg base N qual (bb st) f cdv A outer s H E) (ku st) t/\t { nx:=fun _ H'=>Q .non H',rt:=Q } (start N vs) H):ay P w K mg base (bz P w) (k+1) f fd ps sp:=by
 obtain⟨oc,od,kV,doc,pm,an,cdv,ct,osl,rfl,lk,hcd⟩:=F.ex;refine AW lk hcd S len fun A outer s H vs Q E hr hsp=>?_;obtain⟨t,h,q⟩:=hbody cdv A outer s H vs Q E hr hsp;exact⟨t,h,q⟩
def iD:List Value:=[.type "ValueError",.type "Exception",.type "BaseException",.type "object"]
def XC(K:Frag)(C:Addr):Prop:=excIn K C iD "ValueError.__new__" = true
theorem XC.obj{C:Addr}(q:XC K C)(X:K.In h):∃bm N nm qn bs hdct sn sub ab col dd k0 k1 k2 k3 k5 mN,
  h.get? C=some (excClassObj nm qn C N bs bm hdct sn sub ab col dd k0 k1 k2 k3 k5 "ValueError.__new__")/\h.Ns N mN/\mN "__init__" = none/\OwnTail h iD bm:=by
 unfold XC excIn at q;split at q
 case h_2=>cases q
 rename_i dd cd sl ho;split at q
 case h_2=>cases q
 rename_i C' bm k0 k1 k2 k3 n k5 hm hs;simp only[and_eq_true,beq_iff_eq,not_eq_true'] at q;obtain⟨⟨⟨⟨⟨rfl,rfl⟩,hdel⟩,ht⟩,hok⟩,hni⟩:=q;obtain⟨nm,bs,mro,ns,qn,hd,sn,sub,ab,col,del⟩:=cd;dsimp only at hm hdel hok hni;subst hm hdel;have hsl:sl=#[k0,k1,k2,k3,some (.builtin "ValueError.__new__"),k5]:=by obtain⟨l⟩:=sl;simp only at hs;rw[hs]
 subst hsl;exact⟨bm,ns,nm,qn,bs,hd,sn,sub,ab,col,dd,k0,k1,k2,k3,k5,_,X _ _ ho,.of_isNs (PySem.W.isNs_of_in X hok),PySem.W.nsMap_none_of_in X hok hni,tail_of_in X ht⟩
def PM(X:Cx)(e:Expr)(t:St->Prop):Prop:=∀(pins:List (Addr×Obj)) (s:Shared) (σ:St) (H:Hp),Inv X pins σ H s->t σ->wpAny (model X.prog X.w) X.A (eval e X.env) (fun u s'=>(∃y tk,u=.str y tk/\y.length<=1000)/\Inv X pins σ H s') X.xe s
def PX(X:Cx)(e:Expr)(t:St->Prop):Prop:=∀(pins:List (Addr×Obj)) (s:Shared) (σ:St) (H:Hp),Inv X pins σ H s->t σ->wpAny (model X.prog X.w) X.A (eval e X.env) (fun u s'=>Inv X pins σ H s') X.xe s
def qj(X:Cx)(es:List Expr)(t:St->Prop):Prop:=∀(out:Str) (pins:List (Addr×Obj)) (s:Shared) (σ:St) (H:Hp),out.length+1000*es.length<=sizeLine->Inv X pins σ H s->t σ->wpAny (model X.prog X.w) X.A (joinParts out (evalEach es X.env)) (fun u s'=>Inv X pins σ H s') X.xe s
theorem nL{x:Str}(hx:x.length<=1000:=by decide):PM X (.Constant (.str x) j pos) (fun _=>True):=fun pins s σ H I _=>Calls.Constant_str ⟨⟨x,_,rfl,hx⟩,I.tok _⟩
theorem BK{e:Expr}{pos:Pos}{n:Int}{σ:St}(hn:n.natAbs<1000)(I:Inv X pins σ H s)(tk:Tok) :
  wpAny (model X.prog X.w) X.A (formatField (.int n tk) Str.empty) (fun u s'=>(∃y tk,u=.str y tk/\y.length<=1000)/\Inv X pins σ H s') X.xe s:=by
 have hl:n.natAbs.log2<100:=by
  by_cases h0:n.natAbs=0
  ·rw[h0];decide
  ·exact(log2_lt h0).mpr (lt_of_lt_of_le hn (by decide))
 refine formatField_int_small (by omega) ⟨⟨_,_,rfl,?_⟩,I.tok _⟩;have e:=int_text_length_le (k:=100) (by decide) hl;show(Str.ofString (toString n)).length<=1000;rw[PySem.ofString_length];omega
theorem rG{x:Str}{p:Pos}(i:Nat)(hN:X.N[i]?=some x:=by rfl)(hv:lG X.env.scope x:=by first|exact Or.inl rfl|exact Or.inr (Or.inl rfl)|exact Or.inr (Or.inr rfl))(hd:(x==("__debug__" : Str))=false:=by decide)(hcd:(x==("__classdict__" : Str))=false:=by decide):PM X (.FormattedValue (.Name x p) (-1) none pos) (fun σ=>∃n:Int,σ[i]?=some (some (.int n))/\n.natAbs<1000):=fun pins s σ H I ⟨n,e,hn⟩=>by
 refine FormattedValue_plain (aN (mq (pos:=p) hN hv hd hcd pins s σ H (fun v H'=>v=.int n/\H'=H) I ⟨.int n,e,rfl,rfl⟩) fun u s1 ⟨v,H1,I1,r,hv,hH⟩=>?_);subst hv;subst hH;obtain⟨tk,rfl⟩:∃tk,u=.int n tk:=r;exact BK (e:=.Name x p) (pos:=pos) hn I1 tk
theorem r9:qj X [] (fun _=>True):=fun out pins s σ H hl I _=>joinParts_nil (I.tok _) (by simpa using hl)
theorem kx{t t':St->Prop}(h1:PM X e t)(h2:qj X es t'):qj X (e::es) (fun σ=>t σ/\t' σ):=fun out pins s σ H hl I q=>by
 show wpAny _ _ (joinParts out (eval e X.env::evalEach es X.env)) _ _ _;refine joinParts_cons (aN (h1 pins s σ H I q.1) fun u s1 ⟨⟨y,tk,hu,hy⟩,I1⟩=>?_);subst hu;have hz:(out++y).length=out.length+y.length:=strLen_append _ _;simp only[length_cons] at hl;exact⟨by omega,h2 (out++y) pins s1 σ H (by omega) I1 q.2⟩
theorem rF{x:Str}:PX X (.Constant (.str x) j pos) (fun _=>True):=fun pins s σ H I _=>Calls.Constant_str (I.tok _)
theorem rZ{t:St->Prop}(h:qj X (e1::e2::es) t)(hl:1000*(es.length+2)<=sizeLine:=by decide):PX X (.JoinedStr (e1::e2::es) pos) t:=fun pins s σ H I q =>
 JoinedStr_many (h Str.empty pins s σ H (by show 0+1000*(es.length+2)<=sizeLine;rw[zero_add];exact hl) I q)
theorem FJ{E:XK}{C:Addr}{x:Str}{t:St->Prop}(hx:eh X E)(hex:X.ex=[])(xc:XC X.K C)(hg:Gl X x)(hm:X.mg x=some (.ref C))(hh:X.A.handled=none)(ha:PX X e t)(he:starEach [e] X.env=[(false,eval e X.env)]:=by rfl)(hd:(x==("__debug__" : Str))=false:=by decide) :
  PS X (.Raise (some (.Call (.Name x np) [e] [] cpos)) none pos) (fun _ σ H=>t σ/\E (.ref C) none H):=by
 intro pins s σ H D I hq;obtain⟨bm,N,nm,qn,bs,hdct,sn,sub,ab,col,dd,k0,k1,k2,k3,k5,mN,hC,hN,hni,T⟩:=xc.obj I.ok.mod.kin;refine wpAny_Raise_call_subU (C:=C) (nm:=nm) (q:=qn) (N:=N) (bs:=bs) (bm:=bm) (hdct:=hdct) (sn:=sn) (sub:=sub) (ab:=ab) (col:=col) (dd:=dd) (k0:=k0) (k1:=k1) (k2:=k2) (k3:=k3) (k5:=k5)
  excBase_ValueError (by decide) excBase_ValueError (mN:=mN) (T.hasType excBase_ValueError.hasBase) hh (by rw[he];rfl) hni (lg I hg hm ⟨rfl,?_⟩ hd)
 rw[he];refine Calls.evalArgs_plain (Calls.spliced_cons (aN (ha pins s σ H I hq.1) fun u s1 I1=>Calls.spliced_nil ?_));refine⟨rfl,(by show 1<=sizeLine;decide),I1.bk _ _ hC,hN.keeps I1.bk,T.keeps I1.bk,fun h' b hm=>?_⟩;obtain⟨tt,e1,e2,e3⟩:=hm.there;refine hx pins σ H { s1 with heap:=h' } b (.ref C) (I1.kept (t':=s1.toks) hm.keeps) ⟨_,_,_,lV hex I1 hm.new,?_,e1,rfl,rfl,rfl,.inl rfl⟩ hq.2;cases q:H b with
 | none=>rfl
 | some o=>obtain⟨u,e⟩:=(I1.hok b o q).there;rw[hm.new] at e;cases e
section
variable {σ:St} {cls:Value}
theorem Inv.flown(I:Inv X pins σ H s)(hex:X.ex=[])(F:iX (cW X.stack) (Nw X pins) H a cls s.heap h'):Inv X pins σ H { s with heap:=h' }:=by
 have neL:∀b o,X.s₀.heap.get? b=some o->b≠X.env.locals:=fun b o e=>ne_of_lt (lt_of_lt_of_le (Heap.lt_size e) I.ok.above);have hs0:∀b o,X.s₀.heap.get? b=some o->¬Nw X pins b:=fun b o e n=>by rw[n.1] at e;cases e
 have stk:∀b,b≠X.env.locals->b∉X.fs->b∉cW X.stack:=fun b h1 h2=>I.stkNe h1 h2;have anyK:∀b o,s.heap.get? b=some o->(¬Nw X pins b\/∀vs,o.data≠.fields vs)->∃sl,h'.get? b=some { o with slots:=sl }:=fun b o e hn=>by
  by_cases hm:b∈cW X.stack
  ·exact F.slot b o e hm
  ·exact⟨o.slots,F.keep b o e hm (.inr hn)⟩
 have cellK:∀x c,X.env.cells.lookup x=some c->∀v,s.heap.IsCell c v->h'.IsCell c v:=fun x c e v ⟨o,ho,hd⟩=>by
  obtain⟨sl,q⟩:=anyK c o ho (.inr fun vs q=>by rw[hd] at q;cases q);exact⟨_,q,hd⟩
 refine⟨I.ok,I.os,I.bare,⟨fun b o e n hb hx=>?_,fun b o e n hb hx=>?_,I.base.free,fun b o e hx=>?_,I.base.tups,I.base.frzs,I.base.tbls⟩,?_,fun x c e=>?_,I.free,I.freeC,fun p hp=>?_,fun b o e=>?_,I.len⟩
 ·exact F.keep b o (I.base.keep b o e n hb hx) (stk b (neL b o e) hb) (.inr (.inl (hs0 b o e)))
 ·obtain⟨sl,e1⟩:=I.base.slot b o e n hb hx;obtain⟨sl',e2⟩:=anyK b _ e1 (.inl (hs0 b o e));exact⟨sl',e2⟩
 ·obtain⟨o',e1⟩:=I.base.there b o e hx;obtain⟨sl',e2⟩:=anyK b _ e1 (.inl (hs0 b o e));exact⟨_,e2⟩
 ·obtain⟨m,hn,hl⟩:=I.loc;obtain⟨oL,es,ep,hoL,hdL,r⟩:=id hn;obtain⟨sl,q⟩:=anyK _ oL hoL (.inr fun vs q=>by rw[hdL] at q;cases q);refine⟨m,⟨_,es,ep,q,hdL,r⟩,fun i x v e1 e2 e3=>?_⟩;obtain⟨u,r,l⟩:=hl i x v e1 e2 e3;refine⟨u,r,?_⟩;rcases l with l|⟨k,c,e,z⟩
  ·exact .inl l
  ·exact .inr ⟨k,c,e,cellK x c e _ z⟩
 ·obtain⟨v,z⟩:=I.cell x c e;exact⟨v,cellK x c e v z⟩
 ·obtain⟨e,n,ne,nf,d⟩:=I.pin p hp;exact⟨F.keep p.1 p.2 e (stk _ ne nf) (.inr (.inl fun hn=>hn.2 p hp rfl)),n,ne,nf,d⟩
 ·refine(I.hok b o e).stay (fun c u hc r=>?_) (fun _ q=>q) fun _ _ q=>q;have hH:H c≠none:=by
   rcases hc with rfl|hc
   ·rw[e];simp
   ·rw[hc];simp
  exact F.keep c u r (fun hm=>hH (I.stkFree c hm)) (.inl hH)
theorem Fl.nw(I:Inv X pins σ H s)(hex:X.ex=[])(F:iX (cW X.stack) (Nw X pins) H a cls s.heap h'):Fl (Nw X pins) a cls H h':=F.fl.mono fun b hb=>hb.elim id fun hb=>lV hex I hb
theorem Jb{M:Model}{Q:Unit->Shared->Prop}(f:Fl N a cls H s.heap)(h:Q () s):wpAny M A (setFlight (.ref a) none) Q E s:=by
 obtain⟨oe,vs,a0,_,_,he,_,hd,h0,h1⟩:=f;unfold setFlight;rcases h1 with h1|⟨T,oT,ts,h1,_,_,_,hT,hdT,h3⟩
 ·refine wpAny_bind (wpAny_field he hd h1 ?_);rw[if_neg (by decide)];exact wpAny_pure h
 ·refine wpAny_bind (wpAny_field he hd h1 ?_);rw[if_pos (show(Value.ref T != Value.none)=true from by simp)];refine wpAny_setField hT hdT (Array.getElem?_eq_some_iff.mp h3).1 ?_;show Q () { s with heap:=s.heap.update T (Obj.mapFields (·.setIfInBounds 3 Value.none)) };rw[Heap.update_setField_same s.heap T oT ts 3 Value.none hT hdT h3];exact h
theorem Inv.trackX(I:Inv X pins σ H s)(hN:∀b,N b->Nw X pins b)(f:Fl N a cls H s.heap):Inv X pins σ (upd H a (.ext (VS.XPhi a cls))) s:=by
 obtain⟨oe,vs,a0,na,ha,he,hc,hd,h0,_⟩:=f;obtain⟨n1,n2⟩:=hN a na;obtain⟨m,hn,hl⟩:=id I.loc;obtain⟨oL,es,ep,hoL,hdL,r⟩:=id hn;have hne:a≠X.env.locals:=by rintro rfl;rw[he] at hoL;cases hoL;rw[hd] at hdL;cases hdL
 have up:∀b,b≠a->∀{o:Option HO},H b=o->upd H a (.ext (VS.XPhi a cls)) b=o:=fun b hb o e=>by rw[bj hb];exact e
 refine⟨I.ok,I.os,I.bare,⟨I.base.keep,I.base.slot,fun b o e n hx=>?_,I.base.there,fun b xs e=>?_,fun b o u e=>?_,fun b ps e=>?_⟩,I.loc,I.cell,?_,fun x c e=>?_,fun p hp=>?_,I.hok.track ha ⟨⟨oe,vs,he,hc,hd,a0,h0⟩,⟨oe,he⟩,fun h1 h2 ⟨o,vs,e1,e2,e3⟩ k=>⟨o,vs,k _ e1,e2,e3⟩⟩,I.len⟩
 ·refine up b ?_ (I.base.free b o e n hx);rintro rfl;rw[n1] at e;cases e
 ·have:=I.base.tups b xs e;exact up b (eN this ha) this
 ·have:=I.base.frzs b o u e;exact up b (eN this ha) this
 ·obtain⟨m,this⟩:=I.base.tbls b ps e;exact⟨m,up b (eN this ha) this⟩
 ·exact up _ (Ne.symm hne) I.free
 ·refine up c ?_ (I.freeC x c e);rintro rfl;obtain⟨v,o,ho,hd'⟩:=I.cell x c e;rw[he] at ho;cases ho;rw[hd] at hd';cases hd'
 ·obtain⟨e,n,r⟩:=I.pin p hp;exact⟨e,up _ (n2 p hp) n,r⟩
theorem p7{M:Model}{n:Str}{Q:Unit->Shared->Prop}(I:Inv X pins σ H s)(hN:X.N.Nodup)(hi:X.N[i]?=some n)(hk:X.env.scope.names.lookup n=some .local)(h:∀s',Inv X pins (σ.set i none) H s'->Q () s'):wpAny M A (do bindName X.env n .none;unbindBehindTheSuite X.env n pos) Q E s:=by
 obtain⟨m,hn,hl⟩:=id I.loc;have hcls:(X.env.scope.kind==.class||(X.env.scope.kind==.module&&X.env.locals != X.env.globals))=false:=by rw[I.ok.kind];rfl
 refine wpAny_nameGoes_keeps hk hn hcls fun h' v hn' hs=>h _ ?_;refine⟨I.ok,I.os,I.bare,⟨fun b o e n hb hx=>?_,fun b o e n hb hx=>?_,I.base.free,fun b o e hx=>?_,I.base.tups,I.base.frzs,I.base.tbls⟩,⟨_,hn',fun j y v' e1 e2 e3=>?_⟩,fun y c e=>?_,I.free,I.freeC,fun p hp=>?_,fun b ob e=>?_,by simpa using I.len⟩
 ·exact(hs.2 b (ne_of_lt (lt_of_lt_of_le (Heap.lt_size e) I.ok.above))).trans (I.base.keep b o e n hb hx)
 ·obtain⟨sl,e1⟩:=I.base.slot b o e n hb hx;exact⟨sl,(hs.2 b (ne_of_lt (lt_of_lt_of_le (Heap.lt_size e) I.ok.above))).trans e1⟩
 ·obtain⟨o',e1⟩:=I.base.there b o e hx;exact⟨o',(hs.2 b (ne_of_lt (lt_of_lt_of_le (Heap.lt_size e) I.ok.above))).trans e1⟩
 ·by_cases hj:j=i
  ·subst hj
   by_cases hjl:j<σ.length
   ·rw[getElem?_set_self hjl] at e2;cases e2
   ·rw[getElem?_eq_none (by simpa using hjl)] at e2;cases e2
  ·rw[getElem?_set_ne (Ne.symm hj)] at e2;obtain⟨u',r',q⟩:=hl j y v' e1 e2 e3;refine⟨u',r',?_⟩;rcases q with ⟨k,e⟩|⟨k,c,e,z⟩
   ·refine .inl ⟨k,?_⟩;have:y≠n:=fun e=>hj (sR hN e1 (e▸hi));simp[this,e]
   ·exact .inr ⟨k,c,e,z.sameBut hs (I.cne y c e)⟩
 ·obtain⟨w',z⟩:=I.cell y c e;exact⟨w',z.sameBut hs (I.cne y c e)⟩
 ·obtain⟨e,n,ne,nf,d⟩:=I.pin p hp;exact⟨(hs.2 p.1 ne).trans e,n,ne,nf,d⟩
 ·refine(I.hok b ob e).stay (fun c w' hc q=>(hs.2 c ?_).trans q) (fun _ q=>q) fun _ _ q=>q;rintro rfl;rcases hc with rfl|hc
  ·rw[I.free] at e;cases e
  ·rw[I.free] at hc;cases hc
end
abbrev Cx.hnd(X:Cx)(a:Addr):Cx:={ X with A:=X.A.mark (some (.ref a)),calm:=false,xe:=fun _ _=>False }
section
variable {σ:St}
theorem Cx.Ok.hnd(ok:X.Ok)(a:Addr):(X.hnd a).Ok :=
 ⟨ok.mod,ok.kind,ok.glob,ok.blt,ok.above,ok.inj,ok.has,ok.cab,fun h=>absurd (show false=true from h) Bool.false_ne_true,ok.frames,ok.stk,ok.exf,ok.bs,ok.bsz,ok.noex,ok.exfs,ok.funs,ok.frf⟩
theorem Inv.hnd(I:Inv X pins σ H s)(a:Addr):Inv (X.hnd a) pins σ H s:=⟨I.ok.hnd a,I.os,I.bare,I.base,I.loc,I.cell,I.free,I.freeC,I.pin,I.hok,I.len⟩
theorem Inv.unhnd(ok:X.Ok)(I:Inv (X.hnd a) pins σ H s):Inv X pins σ H s:=⟨ok,I.os,I.bare,I.base,I.loc,I.cell,I.free,I.freeC,I.pin,I.hok,I.len⟩
theorem SP.unhnd{D:Ends}{f:Flow}{s':Shared}(ok:X.Ok)(h:SP (X.hnd a) pins D f s'):SP X pins D f s':=by
 cases f with
 | next=>obtain⟨σ',H',I,q⟩:=h;exact⟨σ',H',I.unhnd ok,q⟩
 | brk=>obtain⟨σ',H',I,q⟩:=h;exact⟨σ',H',I.unhnd ok,q⟩
 | cont=>obtain⟨σ',H',I,q⟩:=h;exact⟨σ',H',I.unhnd ok,q⟩
 | ret u=>obtain⟨v,σ',H',I,r,q⟩:=h;exact⟨v,σ',H',I.unhnd ok,r,q⟩
end
theorem IT{M:Model}{Q:Bool->Shared->Prop}{C:Addr}{b:Bool}(X:K.In s.heap)(he:s.heap.get? a=some oe)(hcls:oe.cls=.ref C)(xs:XC K S)(hm:mroIn K C (.ref S)=some b)(h:Q b s):wpAny M A (excMatches (.ref a) (.ref S)) Q E s:=by
 obtain⟨bm,N,nm,qn,bs,hdct,sn,sub,ab,col,dd,k0,k1,k2,k3,k5,mN,hC,hN,hni,T⟩:=xs.obj X;have hL:=PySem.W.looks_mroIn (M:=M) X hm;obtain⟨hp,g,d,tk,os⟩:=s;have hcB:(Value.ref S::bm).contains (.type "BaseException")=true:=by rw[contains_cons,T.hasType excBase_ValueError.hasBase,Bool.or_true]
 have f:=tc_notTuple;unfold excMatches
 repeat (first|with_reducible refine hL.at ?_|(with_reducible refine wpAny_loadPart_at he ?_;rw[hcls])|with_reducible refine wpAny_loadPart_at hC ?_|(with_reducible refine wpAny_isSubtype_exc hC ?_;rw[hcB])|wp_step)
 cases b<;>(wp_walk;exact h)
section
def PH(X:Cx)(h:ExceptHandler)(th:Value->TS):Prop:=∀(pins:List (Addr×Obj)) (s:Shared) (σ:St) (H:Hp) (D:Ends) (a:Addr) (cls:Value),Inv X pins σ H s->Fl (Nw X pins) a cls H s.heap->th cls D σ H ->
 wpAny (model X.prog X.w) X.A (handleBy (.ref a) X.env [h]) (SP X pins D) X.xe s
def vW(D:Ends)(i:Nat):Ends:={ nx:=fun σ' H'=>D.nx (σ'.set i none) H',rt:=D.rt,bk:=fun σ' H'=>D.bk (σ'.set i none) H',ct:=fun σ' H'=>D.ct (σ'.set i none) H' }
theorem AH{n:Str}{ts:TS}(hN:X.N.Nodup)(hi:X.N[i]?=some n)(hk:X.env.scope.names.lookup n=some .local)(hg:Gl X cn)(hm:X.mg cn=some (.ref S))(xs:XC X.K S)(hs:∀a,PSs (X.hnd a) (b0::suite) ts)(hd:(cn==("__debug__" : Str))=false:=by decide) :
  PH X (.ExceptHandler (some (.Name cn np)) (some n) (b0::suite) hpos) (fun cls D σ H=>(∃C,VS.tgC cls=some C/\mroIn X.K C (.ref S)=some true)/\∀a,H a=none->ts (vW D i) (σ.set i (some (.ref a))) (upd H a (.ext (VS.XPhi a cls)))):=by
 intro pins s σ H D a cls I fl ⟨⟨C,hC,hmr⟩,hq⟩;refine wpAny_handleBy_cons (codeAny_handlers_test (lg (X:=X.hnd a) (I.hnd a) hg hm ?_ hd)) (by intro q;cases q);obtain⟨oe,vs,a0,_,ha,he,hc,_⟩:=id fl;refine IT I.kIn he (hc.cls hC) xs hmr ?_;refine codeAny_handlers_suite_as (Jb fl (pM (I.trackX (fun _ z=>z) fl) hN hi (.inl hk) (show RelV (.ref a) (.ref a) from rfl) (fun s2 I2=>?_) (.inr hk)));refine wpAny_mono (hs a pins s2 _ _ (vW D i) (I2.hnd a) (hq a ha)) (fun f s3 z=>?_) fun _ _ z=>z.elim;have z':=SP.unhnd I.ok z;cases f with
 | next=>obtain⟨σ',H',I3,q⟩:=z';exact p7 I3 hN hi hk fun s4 I4=>⟨_,H',I4,q⟩
 | brk=>obtain⟨σ',H',I3,q⟩:=z';exact p7 I3 hN hi hk fun s4 I4=>⟨_,H',I4,q⟩
 | cont=>obtain⟨σ',H',I3,q⟩:=z';exact p7 I3 hN hi hk fun s4 I4=>⟨_,H',I4,q⟩
 | ret u=>obtain⟨v,σ',H',I3,r,q⟩:=z';exact p7 I3 hN hi hk fun s4 I4=>⟨v,_,H',I4,r,q⟩
def XP(X:Cx)(pins:List (Addr×Obj))(σ:St)(E:XK)(e:Value)(s':Shared):Prop:=∃a cls H',e=.ref a/\Inv X pins σ H' s'/\Fl (Nw X pins) a cls H' s'.heap/\E cls none H'
def z6(X:Cx)(e:Expr)(t:XK->TE):Prop:=∀(pins:List (Addr×Obj)) (s:Shared) (σ:St) (H:Hp) (Q:VK) (E:XK),Inv X pins σ H s->t E σ H Q->wpAny (model X.prog X.w) X.A (eval e X.env) (EP X pins σ Q) (XP X pins σ E) s
def PB(X:Cx)(b:List Stmt)(t:XK->TS):Prop:=∀(pins:List (Addr×Obj)) (s:Shared) (σ:St) (H:Hp) (D:Ends) (E:XK),Inv X pins σ H s->t E D σ H->wpAny (model X.prog X.w) X.A (execs b X.env) (SP X pins D) (XP X pins σ E) s
theorem BJ{b:List Stmt}{h:ExceptHandler}{t:XK->TS}(hst:X.stack=X.env::X.outer)(hf:X.env.frame=some X.env.locals)(hex:X.ex=[])(hb:PB X b t)(hh:PH X h th) :
  PS X (.Try b [h] [] [] pos) (fun D σ H=>t (fun cls _ H'=>th cls D σ H') D σ H):=by
 intro pins s σ H D I q;refine wpAny_Try_except (wpAny_mono (hb pins s σ H D _ I q) (fun f s1 z=>?_) fun e s1 ⟨a,cls,H',e1,I1,fl,z⟩=>?_)
 ·cases f with
  | next=>exact wpAny_execs_nil z
  | brk=>exact z
  | cont=>exact z
  | ret u=>exact z
 ·subst e1;exact flown I1 hst hf fl fun h' F=>hh pins _ σ H' D a cls (I1.flown hex F) (Fl.nw I1 hex F) z
variable {x:Str} {p:Pos} {t:TA}
variable {te:XK->TE}
theorem BI(hN:X.N.Nodup)(hi:X.N[i]?=some x)(hx:Loc X.env.scope x)(he:z6 X e te)(hs:swapsWith e (some (.Name x pos')) pos.line X.env=pure false:=by rfl)(hf:X.fn x=true\/X.env.scope.names.lookup x=some .local:=by first|exact .inl rfl|exact .inr rfl|assumption):PB X [.Assign [.Name x pos'] e pos] (fun E D σ H=>te E σ H fun v H1=>D.nx (σ.set i (some v)) H1):=by intro pins s σ H D E I h;refine wpAny_execs_cons (wpAny_Assign_Name (wpAny_mono (he pins s σ H _ E I h) (fun v s1 ⟨y,H1,I1,r1,q1⟩=>?_) fun _ _ z=>z) hs);exact pM I1 hN hi hx r1 (fun s2 I2=>wpAny_execs_nil ⟨_,H1,I2,q1⟩) hf
end
end L2
variable {g:Array GenState} {os:OsState}
namespace L2
open PySem.W PySem.Builtin PySem.Builtin.ObjectAttr PySem.Builtin.Getset_descriptor
section
variable {d:Drawn} {t:Nat} {C:Addr} {o:Obj}
theorem BH{tp:Value}{R:Result->Shared->Prop}(X:K.In h)(hx:h.get? a=some o)(hc:o.cls=.ref C)(hm:mroIn K C (.type "object")=some true)(hq:R (.ok (.ret (.ref C))) ⟨h,g,d,t,os⟩) :
  codeAny (model prog w) A (.call (.builtin "getset_descriptor.__get__") ⟨[.builtin "object.__class__",.ref a,tp],[]⟩) R ⟨h,g,d,t,os⟩:=by
 have L0:Looks (model prog w) h (typeOf (.ref a)) (.ref C):=hc▸(Looks.ld hx).andThen .now;have L1:=looks_mroIn (M:=model prog w) X hm;refine codeAny_call_builtin KF.slot_gs.plain KF.entry_gs (KF.slot_gs.check _ _ _ _ _ _ _ _ KF.type_class (KF.args_gs _ _ _) ?_);unfold Builtin.«getset_descriptor.__get__» descrGet;rw[dga_obj];refine wpAny_bind (wpAny_pure ?_);unfold descrGetter descrCheckInstance descrNameAndClass isInstance;simp only[KF.owner_class]
 repeat lk
 refine⟨Code.quiet_builtin _ (by decide +kernel),codeAny_builtin KF.entry_class ?_⟩;unfold Builtin.«object.__class__» shownTypeOf
 repeat lk
 exact hq
theorem FI{tk:Tok}{Q:Fin->Shared->Prop}(X:K.In h)(hx:h.get? a=some o)(hc:o.cls=.ref C)(hcl:findIn K (.ref C) "__class__" = some (some (.builtin "object.__class__")))(hm:mroIn K C (.type "object")=some true)(hq:Q (.done (.ret (.ref C))) ⟨h,g,d,t,os⟩) :
  wpAny (model prog w) A (Builtin.«object.__getattribute__» ⟨[.ref a,.str "__class__" tk],[]⟩) Q E ⟨h,g,d,t,os⟩:=by
 have hT5:(⟨h,g,d,t,os⟩:Shared).TypeIs (.builtin "object.__class__") "getset_descriptor" := PySem.F.typeOf_object_class;have f5:=PySem.F.typeOf_object_class;have f6:=PySem.F.slot_gs_get.lookup;have f7:=PySem.F.slot_gs_set.lookup;have L2:=looks_findIn (M:=model prog w) X hcl
 repeat (any_goals (first|assumption|(with_reducible refine wpAny_loadPart_at hx ?_;rw[hc])|with_reducible refine L2.at ?_|wp_step))
 refine BH X hx hc hm ?_
 repeat (any_goals (first|assumption|wp_step))
theorem xJ{M:Model}{nameV:Value}{Q:Unit->Shared->Prop}(X:K.In h)(hx:h.get? a=some o)(hc:o.cls=.ref C)(hb:mroIn K C (.type "BaseException")=some true)(hq:Q () ⟨h,g,d,t,os⟩) :
  wpAny M A (checkBuiltinCall "BaseException.__getattribute__" ⟨[.ref a,nameV],[]⟩) Q E ⟨h,g,d,t,os⟩:=by
 have hk:builtinKind "BaseException.__getattribute__" = some .slot:=by decide +kernel
 have hsplit:splitId "BaseException.__getattribute__" = some ("BaseException", "__getattribute__"):=by decide +kernel
 have ha:=PySem.F.args_bexc_ga (.ref a) nameV;have L1:=looks_mroIn (M:=M) X hb;simp only[checkBuiltinCall,hk,hsplit];refine wpAny_bind ?_
 ·unfold isInstance
  repeat (first|(with_reducible refine wpAny_loadPart_at hx ?_;rw[hc])|with_reducible refine L1.at ?_|wp_step)
  exact hq
theorem AG{tk:Tok}{Q:Value->Shared->Prop}(X:K.In h)(hx:h.get? a=some o)(hc:o.cls=.ref C)(hga:findIn K (.ref C) "__getattribute__" = some (some (.builtin "BaseException.__getattribute__")))(hgh:findIn K (.ref C) "__getattr__" = some none)(hcl:findIn K (.ref C) "__class__" = some (some (.builtin "object.__class__")))(hm:mroIn K C (.type "object")=some true)(hb:mroIn K C (.type "BaseException")=some true)(hq:Q (.ref C) ⟨h,g,d,t,os⟩) :
  wpAny (model prog w) A (getAttrBy (.ref a) (.str "__class__" tk) false) Q E ⟨h,g,d,t,os⟩:=by
 have f3:=PySem.F.attr_ValueError.ga.bind (.ref a);have hx2:(Value.builtin "BaseException.__getattribute__" == Value.builtin "object.__getattribute__")=false:=by decide +kernel
 have hx1:(onTheHeap (Value.ref C)&&Value.builtin "BaseException.__getattribute__" == Value.builtin "object.__getattribute__")=false:=by rw[hx2];rfl
 have L1:=looks_findIn (M:=model prog w) X hga;have L2:=looks_findIn (M:=model prog w) X hgh
 repeat (any_goals (first|assumption|(with_reducible refine wpAny_loadPart_at hx ?_;rw[hc])|with_reducible refine L1.at ?_|with_reducible refine L2.at ?_|wp_step))
 refine codeAny_call_builtin PySem.F.attr_ValueError.ga.plain entry_bexc_ga (xJ X hx hc hb (FI X hx hc hcl hm ?_))
 repeat (any_goals (first|assumption|wp_step))
theorem Eb{Q:Option Value->Shared->Prop}(X:K.In h)(hx:h.get? a=some o)(hc:o.cls=.ref C)(hga:findIn K (.ref C) "__getattribute__" = some (some (.builtin "BaseException.__getattribute__")))(hgh:findIn K (.ref C) "__getattr__" = some none)(hcl:findIn K (.ref C) "__class__" = some (some (.builtin "object.__class__")))(hm:mroIn K C (.type "object")=some true)(hb:mroIn K C (.type "BaseException")=some true)(hq:Q (some (.ref C)) ⟨h,g,d,t+1,os⟩) :
  wpAny (model prog w) A (getAttr? (.ref a) "__class__") Q E ⟨h,g,d,t,os⟩:=by
 unfold getAttr? getAttrBy?;refine wpAny_bind (wpAny_mkText (wpAny_bind (wpAny_attempt (AG X hx hc hga hgh hcl hm hb (wpAny_pure hq)))))
def kK(K:Frag)(C:Addr):Bool:=findIn K (.ref C) "__getattribute__" == some (some (.builtin "BaseException.__getattribute__"))&&findIn K (.ref C) "__getattr__" == some none &&
 findIn K (.ref C) "__class__" == some (some (.builtin "object.__class__"))&&mroIn K C (.type "object")==some true&&mroIn K C (.type "BaseException")==some true&&(clsIn K C).isSome
theorem w5{C:Addr}(q:kK K C=true):findIn K (.ref C) "__getattribute__" = some (some (.builtin "BaseException.__getattribute__"))/\findIn K (.ref C) "__getattr__" = some none /\
  findIn K (.ref C) "__class__" = some (some (.builtin "object.__class__"))/\mroIn K C (.type "object")=some true/\mroIn K C (.type "BaseException")=some true/\(clsIn K C).isSome=true:=by
 unfold kK at q;simp only[and_eq_true,beq_iff_eq] at q;obtain⟨⟨⟨⟨⟨q2,q3⟩,q4⟩,q5⟩,q6⟩,q7⟩:=q;exact⟨q2,q3,q4,q5,q6,q7⟩
theorem sY{t:Value}(ht:VS.tgC t=some C)(q:kK K C=true):KitX K (.ref a) (.ref C) (VS.XPhi a t):=by
 obtain⟨q2,q3,q4,q5,q6,q7⟩:=w5 q;obtain⟨cdD,hcD⟩:=isSome_iff_exists.mp q7;refine⟨fun M h X p=>?_,fun M h X p=>?_,fun h tp dd its n sl X htp=>?_,fun {prog w A E Q s} X p k=>?_⟩
 ·obtain⟨o,vs,e1,e2,_⟩:=p;exact(e2.cls ht)▸(Looks.ld e1).andThen .now
 ·unfold clsIn at hcD;split at hcD
  ·rename_i c' d' cd' sl' ho;intro A' Q' E' s' k q;unfold isType loadHead;exact wpAny_bind (wpAny_loadPart (k _ _ (X _ _ ho)) (wpAny_pure q))
  ·cases hcD
 ·refine eq_false_iff.mpr fun q=>?_;have e:C=tp:=Value.ref.inj (beq_iff_eq.mp q);subst e;unfold clsIn at hcD;split at hcD
  ·rename_i c' d' cd' sl' ho;have z:=(X _ _ ho).symm.trans htp;cases z
  ·cases hcD
 ·obtain⟨o,vs,e1,e2,_⟩:=p;obtain⟨hh,gg,dd,tt,oss⟩:=s;exact Eb X e1 (e2.cls ht) q2 q3 q4 q5 q6 k
end
end L2
namespace L2
def qq(K:Frag):List V->Hp->VK->Prop:=fun xs H Q=>∃a C t,VS.tgC t=some C/\kK K C=true/\H a=some (.ext (VS.XPhi a t)) /\
 ((∃S b,xs=[.ref a,.ref S]/\kitOne K (.ref C) (.ref S)=some b/\Q (.bl b) H)\/(∃T b,xs=[.ref a,.ty T]/\kitOne K (.ref C) (.type T)=some b/\Q (.bl b) H) \/
   (∃(tp:Addr) (Ss:List Addr) (b:Bool),xs=[.ref a,.ref tp]/\H tp=some (.tup (Ss.map V.ref))/\kitAny K (.ref C) (Ss.map Value.ref)=some b/\Q (.bl b) H))
theorem yG:∀{Ss:List Addr} {us:List Value},Vals (Ss.map V.ref) us->us=Ss.map Value.ref
 | [],us,h=>by cases h;rfl
 | S::r,us,h=>by
  cases h with
  | cons h1 h2 =>
   rw[yG h2];exact congrArg (·::_) h1
theorem FH:aO X (.builtin "isinstance") (qq X.K):=by
 intro pins s σ H xs us Q I r h;obtain⟨a,C,tg,ht,xc,hH,h⟩:=h;have hp:VS.XPhi a tg s.heap:=(I.hok a _ hH).1;have fin:∀b tk,Q (.bl b) H->EP X pins σ Q (.bool b) { s with toks:=tk }:=fun b tk q=>⟨.bl b,H,I.tok tk,rfl,q⟩
 rcases h with ⟨S,b,rfl,e,q⟩|⟨T,b,rfl,e,q⟩|⟨tp,Ss,b,rfl,hT,e,q⟩
 ·obtain⟨u,w',rfl,rx,ry⟩:=nG r;cases rx;cases ry;exact kia_one (sY ht xc) I.kIn hp e (by intro z;cases z) fun tk=>fin b tk q
 ·obtain⟨u,w',rfl,rx,ry⟩:=nG r;cases rx;cases ry;exact kia_one (sY ht xc) I.kIn hp e (by intro z;cases z) fun tk=>fin b tk q
 ·obtain⟨u,w',rfl,rx,ry⟩:=nG r;cases rx;cases ry;obtain⟨_,its,rv,⟨oc,od,odt,osl⟩,e1,e2,⟨n,e3⟩,_⟩:=I.hok tp _ hT;dsimp only at e2 e3;subst e2;subst e3;rw[yG rv] at e1;exact PySem.W.kia_tup (sY ht xc) I.kIn hp e1 e (by intro z;cases z) fun tk=>fin b tk q
end L2
variable {od:Option Addr} {nm:Str} {fl:Bool} {anc cns:List Str} {df:List W->M W} {epos p2:Pos} {hd:cX->DS}
namespace VS
def clOf(K:Frag)(nm:Str):Addr:=match nsIn K mainGlobals nm with
 | some (some (.ref C))=>C
 | _=>0
def om(K:Frag):cX->Value->Option Addr->Hp->Prop:=fun x cv od F=>od=none/\match x.fld with
 | none=>cv=.ref (clOf K x.nm)
 | some (f,w)=>∃(D:Addr) (n:Int),cv=.int (D:Int) (clOf K x.nm)/\w=.int n/\F D=some (.ext (NumP D f n))
abbrev Gy(K:Frag):Ga:=⟨K,clOf K,om K⟩
theorem BG{x:cX}{cv:Value}{F:Hp}(h:om K x cv od F):tgC cv=some (clOf K x.nm):=by
 obtain⟨_,h⟩:=h;split at h
 ·subst h;rfl
 ·obtain⟨D,n,rfl,_⟩:=h;rfl
abbrev iW:=List (Str×Bool×List Str)
def qp(K:Frag)(tb:iW):Bool:=tb.all fun p=>nsIn K mainGlobals p.1==some (some (.ref (clOf K p.1)))&&(!p.2.1||excIn K (clOf K p.1) iD "ValueError.__new__")&&kK K (clOf K p.1)&&kitOne K (.ref (clOf K p.1)) (.type "ValueError")==some true &&
 tb.all fun q=>kitOne K (.ref (clOf K p.1)) (.ref (clOf K q.1))==some (p.2.2.contains q.1)&&mroIn K (clOf K p.1) (.ref (clOf K q.1))==some (p.2.2.contains q.1)
structure XT (K:Frag) (mg:Str->Option Value) (tb:iW):Prop where
 ok:qp K tb=true
 mg:∀p∈tb,mg p.1=some (.ref (clOf K p.1))
variable {tb:iW}
theorem AF(X:K.In h)(G:h.Ns mainGlobals mg)(ok:qp K tb=true):XT K mg tb:=by refine⟨ok,fun p hp=>?_⟩;have:=all_eq_true.mp ok p hp;simp only[and_eq_true,beq_iff_eq] at this;exact mg_of X G this.1.1.1.1
theorem XT.x(T:XT K mg tb)(h:(nm,fl,anc)∈tb):kK K (clOf K nm)=true/\kitOne K (.ref (clOf K nm)) (.type "ValueError")=some true /\
  ∀q∈tb,kitOne K (.ref (clOf K nm)) (.ref (clOf K q.1))=some (anc.contains q.1)/\mroIn K (clOf K nm) (.ref (clOf K q.1))=some (anc.contains q.1):=by
 have:=all_eq_true.mp T.ok _ h;simp only[and_eq_true,beq_iff_eq,all_eq_true] at this;exact⟨this.1.1.2,this.1.2,fun q hq=>this.2 q hq⟩
theorem XT.xc(T:XT K mg tb)(h:(nm,true,anc)∈tb):XC K (clOf K nm):=by have:=all_eq_true.mp T.ok _ h;simp only[Bool.not_true,Bool.false_or,and_eq_true,beq_iff_eq,all_eq_true] at this;exact this.1.1.1.2
def iK(tb:iW)(nm:Str):Option (List Str):=match tb.find? (fun p=>p.1==nm) with
 | some p=>some p.2.2
 | none=>none
theorem pZ(h:iK tb nm=some anc):∃fl,(nm,fl,anc)∈tb:=by
 unfold iK at h;split at h
 ·rename_i p e;cases h;have h1:=mem_of_find?_eq_some e;have h2:=find?_some e;simp only[beq_iff_eq] at h2;obtain⟨a,b,c⟩:=p;dsimp only at h2;subst h2;exact⟨b,h1⟩
 ·cases h
def oG(tb:iW)(nm:Str):Option (List Str):=match tb.find? (fun p=>p.1==nm&&p.2.1) with
 | some p=>some p.2.2
 | none=>none
theorem xI(h:oG tb nm=some anc):(nm,true,anc)∈tb:=by
 unfold oG at h;split at h
 ·rename_i p e;cases h;have h1:=mem_of_find?_eq_some e;have h2:=find?_some e;simp only[and_eq_true,beq_iff_eq] at h2;obtain⟨a,b,c⟩:=p;dsimp only at h2;obtain⟨rfl,rfl⟩:=h2;exact h1
 ·cases h
def noX{α:Type}(m:M α):M α:=fun ce=>match m ce with
 | some (.ok a ce')=>some (.ok a ce')
 | _=>none
section
variable {α β:Type} {E E':XK} {RP:Hp->List Addr->α->β->Prop}
theorem toT.noX{d:Sl->M α}{σ:VS.St}{H:Hp}{Q:β->Hp->Prop}(h:toT G E RP (fun sl=>VS.noX (d sl)) σ H Q):toT G E' RP d σ H Q:=by
 obtain⟨F,as,sl,ce,S,P⟩:=h;refine⟨F,as,sl,ce,S,?_⟩;unfold VS.noX at P;dsimp only at P;split at P
 ·rename_i a ce' e;rw[e];exact P
 ·exact(show False from P).elim
def gy{α:Type}(d:Sl->M α):Sl->M α:=fun sl=>noX (d sl)
theorem vV(h:PE X e (ar G E0 d)):PE X e (ar G E (gy d)):=PE.imp h fun _ _ _ z=>z.noX
end
def mV(sl:Sl)(i:Nat):Bool:=match sl[i]? with
 | some (some (.int n))=>decide (n.natAbs<1000)
 | _=>false
def gE(nm:Str)(l:List Nat):DS:=fun sl ce=>if l.all (mV sl)=true then some (.ex ⟨nm,none⟩ ce) else none
section
variable {E:XK} {x:Str} {t:L2.St->Prop}
theorem og(hx:eh X E)(hK:X.K=K)(T:XT K X.mg tb)(hm:oG tb x=some anc)(hex:X.ex=[])(hg:Gl X x)(hh:X.A.handled=none)(ha:PX X e t)(ht:∀σ:L2.St,(∀i∈l,∃n:Int,σ[i]?=some (some (.int n))/\n.natAbs<1000)->t σ)(he:starEach [e] X.env=[(false,eval e X.env)]:=by rfl)(hd:(x==("__debug__" : Str))=false:=by decide) :
  PS X (.Raise (some (.Call (.Name x np) [e] [] cpos)) none pos) (dH (Gy K) E (gE x l)):=by
 have hmem:=xI hm;have hx':=T.xc hmem;refine PS.imp (FJ (E:=E) (C:=clOf K x) hx hex (by rw[hK];exact hx') hg (T.mg _ hmem) hh ha he hd) fun D σ H zz_=>bu zz_ fun F as sl ce S P=>?_;unfold gE at P;split at P
 ·rename_i h;refine⟨ht σ fun i hi=>?_,P H F as (.ref (clOf K x)) none .refl S.st ⟨rfl,rfl⟩⟩;have:=all_eq_true.mp h i hi;unfold mV at this;split at this
  ·rename_i n e;obtain⟨v,e1,e2⟩:=S.slot i _ e;simp only[Rep] at e2;subst e2;exact⟨n,e1,of_decide_eq_true this⟩
  ·cases this
 ·exact(show False from P).elim
end
def Jz(d:DS):DS:=fun sl ce=>match d sl ce with
 | some (.go f sl' ce')=>some (.go f sl' ce')
 | _=>none
def uX(put:Option Nat)(sl:Sl)(w:W):Sl:=match put with
 | some i=>sl.set i (some w)
 | none=>sl
def uW(put:Option Nat)(σ:VS.St)(v:V):VS.St:=match put with
 | some i=>σ.set i (some v)
 | none=>σ
def jI(c:Sl->M W)(put:Option Nat)(ok:cX->Bool)(hd:cX->DS):DS:=fun sl ce=>match c sl ce with
 | some (.ok w ce')=>some (.go .nx (uX put sl w) ce')
 | some (.ex x ce')=>if ok x=true then hd x sl ce' else none
 | none=>none
def AE(i:Nat):Option O->Option O
 | some (.go f sl ce)=>some (.go f (sl.set i none) ce)
 | _=>none
def eF(x:cX):C:=match x.fld with
 | none=>.exn x.nm
 | some (f,.int n)=>.exm x.nm f n
 | _=>.dead
def uy(i:Nat)(d:DS):cX->DS:=fun x sl ce=>AE i (d (sl.set i (some (.cel ce.length))) (ce++[eF x]))
def kZ(tb:iW)(cn:Str)(x:cX):Bool:=match iK tb x.nm with
 | some anc=>anc.contains cn&&tb.any (fun p=>p.1==cn)
 | none=>false
theorem Ho(T:XT K mg tb){x:cX}(h:kZ tb cn x=true):mroIn K (clOf K x.nm) (.ref (clOf K cn))=some true:=by
 unfold kZ at h;split at h
 ·rename_i anc e;simp only[and_eq_true,any_eq_true,beq_iff_eq] at h;obtain⟨h1,p,hp,rfl⟩:=h;have:=((T.x (pZ e).choose_spec).2.2 p hp).2;rw[h1] at this;exact this
 ·cases h
theorem SR.unset{F:Hp}{σ:VS.St}(S:SR G F as H σ sl ce)(i:Nat):SR G F as H (σ.set i none) (sl.set i none) ce:=by
 refine⟨S.st,by rw[length_set,length_set];exact S.len,fun j u e=>?_⟩
 by_cases hj:i=j
 ·subst hj;have hi:i<sl.length:=by have:=dJ e;rwa [length_set] at this
  rw[getElem?_set_self hi] at e;cases e
 ·rw[getElem?_set_ne hj] at e;obtain⟨v,h1,h2⟩:=S.slot j u e;exact⟨v,by rw[getElem?_set_ne hj];exact h1,h2⟩
section
variable {E:XK} {x:Str} {p:Pos} {h:ExceptHandler} {ok:cX->Bool} {ds:DS}
def zZ(K:Frag)(E:XK)(X:Cx)(h:ExceptHandler)(ok:cX->Bool)(hd:cX->DS):Prop:=∃th:Value->TS,PH X h th/\∀D σ H F as sl ce (x:cX) (cv:Value),SR (Gy K) F as H σ sl ce->om K x cv none F->ok x=true->bh (Gy K) E D F as (hd x sl ce)->th cv D σ H
theorem AD(hK:X.K=K)(T:XT K X.mg tb)(hm:oG tb cn=some anc)(hN:X.N.Nodup)(hi:X.N[i]?=some nm)(hk:X.env.scope.names.lookup nm=some .local)(hg:Gl X cn)(hs:∀a,PSs (X.hnd a) (b0::suite) (dH (Gy K) E0 ds))(hd:(cn==("__debug__" : Str))=false:=by decide):zZ K E X (.ExceptHandler (some (.Name cn np)) (some nm) (b0::suite) hpos) (kZ tb cn) (uy i ds):=by
 have hmem:=xI hm;refine⟨_,AH hN hi hk hg (T.mg _ hmem) (by rw[hK];exact T.xc hmem) hs hd,fun D σ H F as sl ce x cv S xr hx P=>⟨⟨_,BG xr,by rw[hK];exact Ho T hx⟩,fun a ha=>?_⟩⟩;obtain⟨S2,l2⟩:=S.st.alloc (G:=Gy K) (o:=.ext (XPhi a cv)) ha (c:=eF x) (fun as' _=>by
  obtain⟨_,xr⟩:=xr;unfold eF;split at xr
  ·rename_i e;rw[e];subst xr;exact ak
  ·rename_i e;obtain⟨D,n,rfl,rfl,hF⟩:=xr;rw[e];exact⟨D,ak,hF⟩)
 have S3:SR (Gy K) F (as++[a]) (upd H a (.ext (XPhi a cv))) σ sl (ce++[eF x]):=S.slots S2 l2;have hr:Rep F (as++[a]) (.cel ce.length) (.ref a):=by simp only[Rep];exact⟨a,rfl,by rw[<- S.st.len];simp⟩
 refine⟨F,as++[a],_,_,S3.put hr i,?_⟩;unfold uy at P;revert P;cases ds (sl.set i (some (.cel ce.length))) (ce++[eF x]) with
 | none=>exact fun P=>P
 | some o=>cases o with
  | ex y ce'=>exact fun P=>(show False from P).elim
  | go f sl' ce' =>
   intro P σ' H' F' as' l S';have q:=P (σ'.set i none) H' F' as' (l2.trans l) (S'.unset i);cases f with
   | nx=>exact q
   | bk=>exact q
   | ct=>exact q
   | rt w=>exact q
end
def gX(ce:Ce):W->Option Str
 | .cel k=>match ce[k]? with
  | some (.exn nm)=>some nm
  | some (.exm nm _ _)=>some nm
  | _=>none
 | _=>none
def fK(tb:iW)(ce:Ce)(w:W)(cn:Str):Option W:=(gX ce w).bind fun nm=>(iK tb nm).bind fun anc=>if tb.any (fun p=>p.1==cn)=true then some (.bl (anc.contains cn)) else none
def m6(tb:iW)(ce:Ce)(w:W):Option W:=(gX ce w).bind fun nm=>(iK tb nm).bind fun _=>some (.bl true)
def i8(tb:iW)(ce:Ce)(w:W)(cns:List Str):Option W:=(gX ce w).bind fun nm=>(iK tb nm).bind fun anc=>if (cns.all fun cn=>tb.any fun p=>p.1==cn)=true then some (.bl (cns.any anc.contains)) else none
def eZ(f:Ce->W->Option W)(d:Sl->M W):Sl->M W:=fun sl=>au (d sl) fun w=>look fun ce=>f ce w
section
variable {E:XK} {p:Pos} {F:Hp} {w:W} {v:V}
theorem sX{σ:VS.St}(S:SR (Gy K) F as H σ sl ce)(r:Rep F as w v)(h:gX ce w=some nm):∃a t,v=.ref a/\tgC t=some (clOf K nm)/\H a=some (.ext (XPhi a t)):=by
 unfold gX at h;split at h
 ·rename_i k;split at h
  ·rename_i nm' e;cases h;simp only[Rep] at r;obtain⟨a,rfl,ha⟩:=r;obtain⟨_,q⟩:=S.st.cell k a _ ha e;exact⟨a,_,rfl,rfl,q⟩
  ·rename_i nm' f n e;cases h;simp only[Rep] at r;obtain⟨a,rfl,ha⟩:=r;obtain⟨_,D,q,_⟩:=S.st.cell k a _ ha e;exact⟨a,_,rfl,rfl,q⟩
  ·cases h
 ·cases h
theorem rE{f:Ce->W->Option W}{x2:Expr}{t2:TE}(hK:X.K=K)(hx:PE X e (ar (Gy K) E d))(h2:PE X x2 t2)(hg:Gl X "isinstance")(hm:X.mg "isinstance" = none)(hf:∀F as H σ sl ce w w' v (Q:VK),SR (Gy K) F as H σ sl ce->Rep F as w v->f ce w=some w'->(∀H' v',(∀b o,H b=some o->H' b=some o)->SR (Gy K) F as H' σ sl ce->Rep F as w' v'->Q v' H')->t2 σ H fun u H2=>qq K [v,u] H2 Q)(he:starEach [e,x2] X.env=(false,eval e X.env)::starEach [x2] X.env:=by rfl)(he2:starEach [x2] X.env=(false,eval x2 X.env)::starEach [] X.env:=by rfl)(hpl:(backTo pos (starEach [x2] X.env)).any (·.1)=false:=by rfl) :
  PE X (.Call (.Name "isinstance" p) [e,x2] [] pos) (ar (Gy K) E (eZ f d)):=by
 refine PE.imp (yf (r:=qq K) (hK▸FH) hg hm boot_isinstance (nV hx (nV h2 o7 he2) he) (he:=he) (hpl:=hpl)) fun σ H Q zz_=>bu zz_ fun F as sl ce S P=>?_;refine(step S P).mono fun v H1 zz_=>aZ zz_ fun w F1 as1 ce1 l1 S1 r1 P1=>?_;obtain⟨w',e1,P2⟩:=jw P1;exact hf F1 as1 H1 σ sl ce1 w w' v Q S1 r1 e1 fun H' v' _ S' r'=>P2 v' H' F1 as1 .refl S' r'
theorem pk(hK:X.K=K)(T:XT K X.mg tb)(hin:tb.any (fun p=>p.1==cn)=true)(hx:PE X e (ar (Gy K) E d))(hg:Gl X "isinstance")(hm:X.mg "isinstance" = none)(hgc:Gl X cn)(hd:(cn==("__debug__" : Str))=false:=by decide)(he:starEach [e,.Name cn p2] X.env=(false,eval e X.env)::starEach [.Name cn p2] X.env:=by rfl)(he2:starEach [.Name cn p2] X.env=(false,eval (.Name cn p2) X.env)::starEach [] X.env:=by rfl)(hpl:(backTo pos (starEach [.Name cn p2] X.env)).any (·.1)=false:=by rfl) :
  PE X (.Call (.Name "isinstance" p) [e,.Name cn p2] [] pos) (ar (Gy K) E (eZ (fun ce w=>fK tb ce w cn) d)):=by
 obtain⟨q,hq,hqn⟩:=any_eq_true.mp hin;have hqn:=beq_iff_eq.mp hqn;have hmg:X.mg cn=some (.ref (clOf K cn)):=hqn▸T.mg q hq;refine rE hK hx (sr (v:=.ref (clOf K cn)) hgc hmg rfl hd) hg hm (fun F as H σ sl ce w w' v Q S r e1 k=>?_) he he2 hpl;unfold fK at e1;obtain⟨nm,h1,e1⟩:=bind_eq_some_iff.mp e1;obtain⟨anc,h2,e1⟩:=bind_eq_some_iff.mp e1;rw[if_pos hin] at e1;cases e1;obtain⟨a,tg,rfl,ht,ha⟩:=sX S r h1;obtain⟨t1,t2,t3⟩:=T.x (pZ h2).choose_spec;exact⟨a,_,tg,ht,t1,ha,.inl ⟨_,_,rfl,hqn▸(t3 q hq).1,k H _ (fun _ _ z=>z) S (by simp only[Rep])⟩⟩
theorem EB(hK:X.K=K)(T:XT K X.mg tb)(hx:PE X e (ar (Gy K) E d))(hg:Gl X "isinstance")(hm:X.mg "isinstance" = none)(hgc:Gl X "ValueError")(hmv:X.mg "ValueError" = none)(he:starEach [e,.Name "ValueError" p2] X.env=(false,eval e X.env)::starEach [.Name "ValueError" p2] X.env:=by rfl)(he2:starEach [.Name "ValueError" p2] X.env=(false,eval (.Name "ValueError" p2) X.env)::starEach [] X.env:=by rfl)(hpl:(backTo pos (starEach [.Name "ValueError" p2] X.env)).any (·.1)=false:=by rfl) :
  PE X (.Call (.Name "isinstance" p) [e,.Name "ValueError" p2] [] pos) (ar (Gy K) E (eZ (fun ce w=>m6 tb ce w) d)):=by
 refine rE hK hx (xj (v:=.ty "ValueError") hgc hmv (by decide +kernel) rfl) hg hm (fun F as H σ sl ce w w' v Q S r e1 k=>?_) he he2 hpl;unfold m6 at e1;obtain⟨nm,h1,e1⟩:=bind_eq_some_iff.mp e1;obtain⟨anc,h2,e1⟩:=bind_eq_some_iff.mp e1;cases e1;obtain⟨a,tg,rfl,ht,ha⟩:=sX S r h1;obtain⟨t1,t2,t3⟩:=T.x (pZ h2).choose_spec;exact⟨a,_,tg,ht,t1,ha,.inr (.inl ⟨_,_,rfl,t2,k H _ (fun _ _ z=>z) S (by simp only[Rep])⟩)⟩
def qk(X:Cx)(K:Frag)(es:List Expr)(cns:List Str):Prop:=PA X es (fun _ H Q=>Q (cns.map fun c=>V.ref (clOf K c)) H)
theorem w4:qk X K [] []:=o7
theorem lr(hm:X.mg cn=some (.ref (clOf K cn)))(hg:Gl X cn)(h:qk X K es cns)(hs:starEach (.Name cn p::es) X.env=(false,eval (.Name cn p) X.env)::starEach es X.env:=by rfl)(hd:(cn==("__debug__" : Str))=false:=by decide):qk X K (.Name cn p::es) (cn::cns) :=
 PA.imp (nV (sr (v:=.ref (clOf K cn)) hg hm rfl hd) h hs) fun σ H Q z=>z
theorem GW{C:Value}{f:Str->Bool}(h:∀c∈cns,kitOne K C (.ref (clOf K c))=some (f c)):kitAny K C (cns.map fun c=>Value.ref (clOf K c))=some (cns.any f):=by
 induction cns with
 | nil=>rfl
 | cons c r ih =>
  simp only[map_cons,kitAny,h c mem_cons_self,any_cons];cases f c with
  | true=>rfl
  | false=>simpa using ih fun c hc=>h c (mem_cons_of_mem _ hc)
theorem wZ{x1}(hK:X.K=K)(T:XT K X.mg tb)(hin:(cns.all fun cn=>tb.any fun p=>p.1==cn)=true)(hl:cns.length<=sizeLine)(hx:PE X e (ar (Gy K) E d))(hcs:qk X K es cns)(hg:Gl X "isinstance")(hm:X.mg "isinstance" = none)(he:starEach [e,.Tuple es x1 p2] X.env=(false,eval e X.env)::starEach [.Tuple es x1 p2] X.env:=by rfl)(he2:starEach [.Tuple es x1 p2] X.env=(false,eval (.Tuple es x1 p2) X.env)::starEach [] X.env:=by rfl)(hpl:(backTo pos (starEach [.Tuple es x1 p2] X.env)).any (·.1)=false:=by rfl) :
  PE X (.Call (.Name "isinstance" p) [e,.Tuple es x1 p2] [] pos) (ar (Gy K) E (eZ (fun ce w=>i8 tb ce w cns) d)):=by
 refine rE hK hx (vJ hcs) hg hm (fun F as H σ sl ce w w' v Q S r e1 k=>?_) he he2 hpl;unfold i8 at e1;obtain⟨nm,h1,e1⟩:=bind_eq_some_iff.mp e1;obtain⟨anc,h2,e1⟩:=bind_eq_some_iff.mp e1;rw[if_pos hin] at e1;cases e1;obtain⟨a,tg,rfl,ht,ha⟩:=sX S r h1;obtain⟨t1,t2,t3⟩:=T.x (pZ h2).choose_spec;refine⟨by rw[length_map];exact hl,fun tp htp=>?_⟩;have keep:∀b o,H b=some o->upd H tp (.tup (cns.map fun c=>V.ref (clOf K c))) b=some o:=fun b o q=>by rw[bj (eN q htp)];exact q
 obtain⟨S2,l2⟩:aw (Gy K) F as (upd H tp (.tup (cns.map fun c=>V.ref (clOf K c)))) ce/\True:=by refine⟨⟨fun b o q=>keep b o (S.st.sub b o q),S.st.nd,S.st.len,fun j b c q1 q2=>?_⟩,trivial⟩;obtain⟨z1,z2⟩:=S.st.cell j b c q1 q2;obtain⟨o,ho⟩:=z2.tracked;exact⟨z1,z2.le .refl (by rw[ho];exact keep b o ho)⟩
 have hS:SR (Gy K) F as (upd H tp (.tup (cns.map fun c=>V.ref (clOf K c)))) σ sl ce:=⟨S2,S.len,S.slot⟩
 have hka:∀c∈cns,kitOne K (.ref (clOf K nm)) (.ref (clOf K c))=some (anc.contains c):=fun c hc=>by
  obtain⟨q,hq,hqn⟩:=any_eq_true.mp (all_eq_true.mp hin c hc);have hqn:=beq_iff_eq.mp hqn;exact hqn▸(t3 q hq).1
 exact⟨a,_,tg,ht,t1,keep a _ ha,.inr (.inr ⟨tp,cns.map (clOf K),_,rfl,by rw[ak,map_map];rfl,by rw[map_map];exact GW (f:=anc.contains) hka,k _ _ keep hS (by simp only[Rep])⟩)⟩
end
theorem XT.at(T:XT K mg tb)(h:tb.any (fun p=>p.1==cn)=true):mg cn=some (.ref (clOf K cn)):=by obtain⟨q,hq,hqn⟩:=any_eq_true.mp h;exact beq_iff_eq.mp hqn▸T.mg q hq
theorem BF(F:ay P w K mg base (bz P w) k f fd ps sp):ay P w K mg base CX0 k f fd ps (fun vs H Q _=>sp vs H Q E0):=by
 refine⟨fun vs H Q E h=>F.len vs H Q E0 h,fun A outer s H args us vs Q E hr he hb hv hs=>codeAny_mono (F.run A outer s H args us vs Q E0 hr he hb hv hs) fun r s' h=>?_⟩;cases r with
 | error e=>obtain⟨_,_,_,_,_,_,_,_,_,z⟩:=h;exact z
 | ok fl=>cases fl<;>exact h
theorem EA{G:Frag->Ga}{d:List W->M W}(nl:ot K=true)(h:ay P w K mg base (bz P w) k f fd ps (gn (G K) (fun E=>E) 1 d)):ay P w K mg base CX0 k f fd ps (spLaw G d K):=(BF h).imp fun _ _ _ _ q=>q nl
def Xt(T:cX->Ce->Prop):O->Prop
 | .ex x ce=>T x ce
 | _=>False
section
variable {a b:DS} {x:cX}
theorem GV(h:l.all (mV sl)=true)(q:Q (.ex ⟨nm,none⟩ ce)):Run (gE nm l) sl ce Q:=⟨_,by unfold gE;rw[if_pos h],q⟩
theorem rY(h:Run a sl ce (Xt fun x c=>Q (.ex x c))):Run (aq a b) sl ce Q:=by
 obtain⟨o,e,q⟩:=h;cases o with
 | ex x c=>exact⟨_,by simp only[aq,e],q⟩
 | go f sl' c=>exact(show False from q).elim
theorem tD(h:l.all (mV sl)=true)(q:Q (.ex ⟨nm,none⟩ ce)):Run (aq (gE nm l) b) sl ce Q:=rY (GV h q)
variable {f:List W->M W} {e:Sl->M W}
theorem FG(h:ra sl ce=some (.ok ws c1))(hn:ws.length=n)(hf:f ws c1=some (.ex x ce)):bA n f ra sl ce=some (.ex x ce):=by simp only[bA,au,h,hn,if_true,hf]
theorem mw{α:Type}{d:Sl->M α}{v:α}(h:d sl ce=some (.ok v c1)):gy d sl ce=some (.ok v c1):=by simp only[gy,noX,h]
theorem oa(sl:Sl)(e:ws.map some++List.replicate (n-ws.length) none=sl)(h:Run body sl ce (Xt fun y c'=>y=x/\∃t,c'=ce++t)):bJ fin n body ws ce=some (.ex x ce):=by
 subst e;obtain⟨o,e,q⟩:=h;cases o with
 | go f sl' c=>exact(show False from q).elim
 | ex y c =>
  obtain⟨rfl,t,rfl⟩:=q;have hc:gC ce (ce++t):=⟨by simp,fun k c hk e=>.inl (by rw[getElem?_append_left hk] at e;exact e)⟩
  simp only[bJ,e];rw[if_pos hc];simp
theorem FF{c:Sl->M W}{put:Option Nat}{ok:cX->Bool}{w:W}(h:c sl ce=some (.ok w c1))(q:Run b (uX put sl w) c1 Q):Run (aq (jI c put ok hd) b) sl ce Q:=ig (by simp only[jI,h]) q
theorem FE{c:Sl->M W}{put:Option Nat}{ok:cX->Bool}(h:c sl ce=some (.ex x c1))(hok:ok x=true)(e:hd x sl c1=some (.go .nx sl' c2))(q:Run b sl' c2 Q):Run (aq (jI c put ok hd) b) sl ce Q :=
 ig (by simp only[jI,h];rw[if_pos hok];exact e) q
variable {α:Type} {en:α->W} {src:Src} {g:DG} {zs:List α}
end
end VS
namespace L2
end L2
namespace VS
section
variable {E:XK}
end
end VS
namespace L2
def uV:V->List V->Hp->VK->Prop:=fun x vs H Q=>∃(l:Addr) (ns:List Int) (i:Int),x=.ref l/\vs=[.int i]/\H l=some (.lst (ns.map V.int))/\i∈ns/\Q .non (upd H l (.lst ((ns.erase i).map V.int)))
theorem BE:uB X "list.remove" uV:=by
 intro pins s σ H x vs v us Q I rx rv h;obtain⟨l,ns,i,rfl,rfl,hH,hi,q⟩:=h;cases rx;obtain⟨u,rfl,ru⟩:=iJ rv;obtain⟨t,rfl⟩:=ru;obtain⟨z,its,n,r,hl,e⟩:=I.lstM hH;have hI:IntsAre its ns:=zm r;have hlen:=hI.length;have hj:ns.idxOf i<ns.length:=idxOf_lt_length_iff.mpr hi;have hsz:its.toArray.size<=sizeLine:=by rw[size_toArray];omega
 refine call_meets PySem.F.slot_list_remove ⟨_,e,rfl⟩ PySem.F.entry_list_remove (PySem.F.args_list_remove_2 _ _)
  (MeetsSeq.list_remove l its.toArray n (.int i t) (isInt i) (fun y hy=>eq_isInt i t hI y (by simpa using hy)) (ns.idxOf i) (by simpa[hlen] using hj) ?_ ?_ hsz) ⟨e,?_⟩
 ·show isInt i its[ns.idxOf i]=true;rw[isInt_at i hI _ (by omega) hj];simpa using getElem_idxOf hj
 ·intro m hm hlt;show isInt i its[m]=false;rw[isInt_at i hI m (by simpa using hm) (by omega)];exact ne_of_lt_idxOf hlt _
 ·refine⟨.non,_,I.lset (its':=its.eraseIdx (ns.idxOf i)) hH e ?_ ?_ ?_,rfl,q⟩
  ·apply toList_inj.mp;simp[toList_eraseIdxIfInBounds]
  ·rw[erase_eq_eraseIdx_of_idxOf rfl,eraseIdx_eq_take_drop_succ,eraseIdx_eq_take_drop_succ,map_append,map_take,map_drop];exact(r.take _).append (r.drop _)
  ·rw[length_map] at z ⊢;exact le_trans (length_erase_le ..) z
end L2
namespace VS
open Classical in
def mZ:W->List W->M W:=fun w ws ce=>match ja ce w,ws with
 | some (k,xs),[.int i]=>match jM xs with
  | some ns=>if i∈ns then some (.ok .non (ce.set k (.lst ((ns.erase i).map W.int)))) else none
  | none=>none
 | _,_=>none
section
variable {E:XK}
theorem AB:Mt G E uV mZ:=by
 intro F as H σ sl ce w v ws vs Q S rw' rs P;revert P;unfold mZ;split
 ·rename_i k xs i hc;intro P;split at P
  ·rename_i ns hn;split at P
   ·rename_i hi;have hx:=sO hn;subst hx;obtain⟨a,us,rfl,ha,hH,r⟩:=n8 S.st rw' hc;obtain⟨v1,rfl,rv⟩:=iz rs;simp only[Rep] at rv;subst rv;have:=r.of_ints;subst this;refine⟨a,ns,i,rfl,rfl,hH,hi,P .non _ F as .refl (S.slots (S.st.write (o:=.lst ((ns.erase i).map V.int)) (c:=.lst ((ns.erase i).map W.int)) ha ⟨_,ak,ag.ints _⟩) .refl) (by simp only[Rep])⟩
   ·exact(show False from P).elim
  ·exact(show False from P).elim
 ·exact fun P=>(show False from P).elim
theorem yF:∀(l:List Nat) (p:Nat),(cj l).erase (p:Int)=cj (l.erase p)
 | [],_=>rfl
 | a::l,p=>by
  unfold cj;rw[map_cons,erase_cons,erase_cons]
  by_cases h:a=p
  ·subst h;simp
  ·have h':¬((a:Int)=(p:Int)):=by omega
   have h1:((a:Int)==(p:Int))=false:=by simpa using h'
   have h2:(a==p)=false:=by simpa using h
   have ih:=yF l p;unfold cj at ih;rw[h1,h2];simp only[false_eq_true,if_false,map_cons,ih]
theorem BD(g:ce[k]?=some (.lst (l.map nW)))(hp:p∈l):mZ (.cel k) [nW p] ce=some (.ok .non (ce.set k (.lst ((l.erase p).map nW)))):=by have hi:(p:Int)∈cj l:=mem_map.mpr ⟨p,hp,rfl⟩;simp only[mZ,km g,nW,pJ];rw[q_,if_pos hi,yF]
end
end VS
namespace HT
end HT
variable {ts:TO} {te:TE}
namespace L2
section
variable {st:Expr}
end
end L2
namespace VS
section
variable {E:XK} {a:Expr}
end
theorem us1(h:∀a,bindArgs fd { pos:=[a] }=pure (ps.zip [a])):∀us:List Value,us.length=1->bindArgs fd { pos:=us }=pure (ps.zip us)
 | [a],_=>h a
theorem us2(h:∀a b,bindArgs fd { pos:=[a,b] }=pure (ps.zip [a,b])):∀us:List Value,us.length=2->bindArgs fd { pos:=us }=pure (ps.zip us)
 | [a,b],_=>h a b
theorem us3(h:∀a b c,bindArgs fd { pos:=[a,b,c] }=pure (ps.zip [a,b,c])):∀us:List Value,us.length=3->bindArgs fd { pos:=us }=pure (ps.zip us)
 | [a,b,c],_=>h a b c
theorem us4(h:∀a b c d,bindArgs fd { pos:=[a,b,c,d] }=pure (ps.zip [a,b,c,d])):∀us:List Value,us.length=4->bindArgs fd { pos:=us }=pure (ps.zip us)
 | [a,b,c,d],_=>h a b c d
theorem us5(h:∀a b c d e,bindArgs fd { pos:=[a,b,c,d,e] }=pure (ps.zip [a,b,c,d,e])):∀us:List Value,us.length=5->bindArgs fd { pos:=us }=pure (ps.zip us)
 | [a,b,c,d,e],_=>h a b c d e
theorem us6(h:∀a b c d e f,bindArgs fd { pos:=[a,b,c,d,e,f] }=pure (ps.zip [a,b,c,d,e,f])):∀us:List Value,us.length=6->bindArgs fd { pos:=us }=pure (ps.zip us)
 | [a,b,c,d,e,f],_=>h a b c d e f
section
variable {κ:Type} [DecidableEq κ] {F:Hp} {kvs:List (κ×W)} {ps:List (κ×V)}
end
section
variable {F:Hp} {w:W} {v:V}
end
section
variable {E:XK} {a b c:Expr} {dc:Sl->M W}
end
section
variable {a b o i:Sl->M W} {x y w:W}
end
end VS
namespace L2
open PySem.MeetsSeq
open PySem.AutoSeq1 (wpAny_loadPart')
end L2
namespace VS
section
variable {E:XK}
end
end VS
namespace L2
section
variable {st:Expr}
end
end L2
namespace VS
section
variable {E:XK} {a:Expr}
end
end VS
namespace L2
def Jr(xs:Array Nat):Prop:=xs.toList.Pairwise (·<·)
structure Jq (t:SetTable):Prop where
 dum:t.dummies=#[]
 ris:t.plain=true->Jr t.place
end L2
variable {t:SetTable} {ds:List Int} {I:Addr} {ep:Nat} {pos2:Pos}
namespace L2
def iv:Value->Int
 | .int k _=>k
 | _=>0
section
variable {led:Bool}
def Jy(prog:Program)(w:World)(h:Heap)(a:Addr)(ds:List Int)(led:Bool):Prop :=
 ∃o es ep t,h.get? a=some o/\o.ExactSet/\o.data=.set es ep t/\ElemsOf (intKind prog w) es.toList/\es.size<scanBound/\t.fits es.size=true/\Jq t/\t.led=led/\(∀e∈es.toList,∃k tk,e.2=.int k tk)/\(es.toList.map fun e=>iv e.2).Perm ds
end
section
variable {R:Result->Shared->Prop} {fp wr:List Addr} {G:Array GenState->Array GenState->Prop} {P:Nat->Value->Prop} {St:Nat->Shared->Prop}
end
section
variable {o:Obj} {es:Array (Int×Value)}
end
section
variable {T:Addr} {o:Obj} {es:Array (Int×Value)} {sl sl':Nat} {x:Value} {Q:Option Value->Shared->Prop}
end
section
variable {T:Addr} {o:Obj} {es:Array (Int×Value)}
end
section
variable {t:TA} {p:Pos}
end
end L2
namespace VS
section
variable {E:XK} {p:Pos}
end
end VS
namespace L2
open PySem.AutoSeq1 (wpAny_loadPart')
end L2
namespace L2
open PySem.MeetsSeq PySem.MeetsSeq3
open PySem.AutoSeq1 (wpAny_loadPart')
end L2
namespace L2
end L2
namespace VS
section
variable {E:XK}
end
section
variable {E:XK} {a b c:Expr} {dc:Sl->M W}
end
section
variable {E:XK}
end
end VS
namespace L2
end L2
variable {tpos:Pos}
namespace VS
section
variable {E:XK} {tb:iW} {c1 c2:Str} {p1:Pos} {ds:DS}
end
end VS
variable {ta:TE} {us:List Value} {pl:Sem Bool}
namespace L2
section
variable {C:Addr} {x m:Str} {p:Pos} {o:Expr} {t:TA}
theorem Ez{σ:St}{Q:VK}{E:XK}{vs:List V}(F:ay X.prog X.w X.K X.mg X.base (bz X.prog X.w) k f fd ps sp)(hr:aR k X.A)(hex:X.ex=[])(hb:Binds X.K fd ps [])(I:Inv X pins σ H s)(r:Vals vs us)(q:sp vs H Q E):wpAny (model X.prog X.w) X.A (call (.ref f) us) (EP X pins σ Q) (XP X pins σ E) s:=by
 have hl:(us++[]).length=ps.length:=by rw[append_nil,<- r.length];exact F.len _ _ _ _ q
 have hb':=hb s us I.kIn hl;rw[append_nil] at hb';refine wpAny_call (codeAny_mono (F.run X.A X.stack s H ⟨us,[]⟩ us vs Q E hr I.env0 hb' r q) fun r s' hq=>?_);cases r with
 | error e =>
  obtain⟨a,cls,H',rfl,ho,hgn,u,hok,fl,z⟩:=hq;exact⟨a,cls,H',rfl,I.call' ho u hok hgn (fun b z=>absurd z (by simp)),fl.mono fun b hb=>lV hex I hb,z⟩
 | ok fl =>
  cases fl with
  | ret u=>exact I.after hq
  | next=>exact False.elim hq
  | brk=>exact False.elim hq
  | cont=>exact False.elim hq
theorem FD(he:PE X.nox o ta)(c:Cls X.K C)(hm:Meth X.K C m f)(F:ay X.prog X.w X.K X.mg X.base (bz X.prog X.w) k f fd ps sp)(hr:aR k X.A)(hex:X.ex=[])(hb:Binds X.K fd ps [])(ha:PA X.nox (e::es) t)(hst:starEach (e::es) X.env=(false,eval e X.env)::starEach es X.env:=by rfl)(hpl:(backTo pos (starEach es X.env)).any (·.1)=false:=by rfl)(ht:eval (.Call (.Attribute o m apos) (e::es) [] pos) X.env=(do
   let ov <- eval o X.env
   standAt apos.atName
   let (f,first) <- holding [ov] (getMethod ov m pl)
   callWith pos f first (backTo pos (starEach (e::es) X.env)) (backToKw pos (keywordEach [] X.env))):=by rfl) :
  z6 X (.Call (.Attribute o m apos) (e::es) [] pos) (fun E=>fun σ H Q=>ta σ H fun x H1=>∃a dx fs,x=.ref a/\H1 a=some (.ins C dx fs)/\fs.lookup m=none/\t σ H1 fun vs H2=>sp (x::vs) H2 Q E):=by
 intro pins s σ H Q E I h;refine methodCall_KW (pl:=pl) (wpAny_mono (he pins s σ H _ (I.wish _) h) (fun u s1 ⟨x,H1,I1,rx,a,dx,fs,ex,ea,l,q⟩=>?_) fun _ _ z=>z.elim) ht;subst ex;obtain rfl:u=Value.ref a:=rx;have I1:=I1.unwish;refine tO I1 ea c hm l ?_;refine callWith_K (first:=[.ref a]) (h₀:=X.base) I.ok.mod.kin hm.kp (wpAny_mono (ha pos pins s1 σ H1 _ (I1.wish _) q) (fun us s2 ⟨vs,H2,I2,r,q2⟩=>⟨I2.unwish.kIn,?_⟩) fun _ _ z=>z.elim) hst hpl;exact Ez (us:=.ref a::us) (vs:=.ref a::vs) F hr hex hb I2.unwish (.cons rfl r) q2
end
end L2
variable {value:Expr}
namespace VS
def putA(f:Str)(v:W):List (Str×W)->List (Str×W)
 | []=>[(f,v)]
 | (g,x)::r=>if g=f then (g,v)::r else (g,x)::putA f v r
section
variable {F:Hp} {fs:List (Str×W)} {ps:List (Str×V)}
theorem az.look{w:W}{f:Str}(r:az F as fs ps)(e:fs.lookup f=some w):∃v,ps.lookup f=some v/\Rep F as w v:=by
 induction r with
 | nil=>cases e
 | @cons p q l1 l2 h t ih =>
  obtain⟨a,x⟩:=p;obtain⟨b,y⟩:=q;obtain⟨e1,rv⟩:=h;dsimp only at e1 rv;subst e1;rw[lookup_cons] at e ⊢;split at e
  ·rename_i h;cases e;exact⟨y,rfl,rv⟩
  ·rename_i h;exact ih e
theorem az.lookN{f:Str}(r:az F as fs ps)(e:fs.lookup f=none):ps.lookup f=none:=by
 induction r with
 | nil=>rfl
 | @cons p q l1 l2 h t ih =>
  obtain⟨a,x⟩:=p;obtain⟨b,y⟩:=q;obtain⟨e1,rv⟩:=h;dsimp only at e1 rv;subst e1;rw[lookup_cons] at e ⊢;split at e
  ·cases e
  ·exact ih e
theorem az.putA{w:W}{v:V}(r:az F as fs ps)(f:Str)(rv:Rep F as w v):az F as (VS.putA f w fs) (eY f v ps):=by
 induction r with
 | nil=>exact .cons ⟨rfl,rv⟩ .nil
 | @cons p q l1 l2 h t ih =>
  obtain⟨a,x⟩:=p;obtain⟨b,y⟩:=q;obtain⟨e1,rx⟩:=h;dsimp only at e1 rx;subst e1;simp only[VS.putA,eY];split
  ·exact .cons ⟨rfl,rv⟩ t
  ·exact .cons ⟨rfl,rx⟩ ih
end
def jR(ce:Ce)(c:Str):W->Option (Nat×List (Str×W))
 | .cel k=>match ce[k]? with
  | some (.ins c' fs)=>if c'=c then some (k,fs) else none
  | _=>none
 | _=>none
section
variable {E:XK} {F:Hp} {σ:VS.St} {w:W} {v:V} {c:Str} {fs:List (Str×W)}
theorem sV(S:aw G F as H ce)(r:Rep F as w v)(h:jR ce c w=some (k,fs)):∃a dx ps,v=.ref a/\as[k]?=some a/\H a=some (.ins (G.cl c) dx ps)/\az F as fs ps:=by
 unfold jR at h;split at h
 ·rename_i j;split at h
  ·rename_i c' fs' e;split at h
   ·rename_i hc;cases h;subst hc;simp only[Rep] at r;obtain⟨a,rfl,ha⟩:=r;obtain⟨_,dx,ps,h1,h2⟩:=S.cell _ a _ ha e;exact⟨a,dx,ps,rfl,ha,h1,h2⟩
   ·cases h
  ·cases h
 ·cases h
end
def dA(c f:Str)(d:Sl->M W):Sl->M W:=fun sl=>au (d sl) fun x=>look fun ce=>match jR ce c x with
 | some p=>p.2.lookup f
 | none=>none
def iG(c f:Str)(d v:Sl->M W):DS:=fun sl ce=>cu (v sl ce) fun w ce1=>cu (d sl ce1) fun x ce2=>match jR ce2 c x with
 | some (k,fs)=>if fs.length<1000 then some (.go .nx sl (ce2.set k (.ins c (putA f w fs)))) else none
 | none=>none
def dI(c m:Str)(n:Nat)(df:List W->M W)(d:Sl->M W)(dr:Sl->M (List W)):Sl->M W:=fun sl=>au (d sl) fun x=>au (look fun ce=>match jR ce c x with
 | some p=>if p.2.lookup m=none then some () else none
 | none=>none) fun _=>au (dr sl) fun ws=>if ws.length+1=n then df (x::ws) else jQ
def qS(k:Nat):Option (R W)->Option (R W)
 | some (.ok .non ce')=>some (.ok (.cel k) ce')
 | some (.ex x ce')=>some (.ex x ce')
 | _=>none
def oV(c:Str)(n:Nat)(df:List W->M W)(dr:Sl->M (List W)):Sl->M W:=fun sl=>au (dr sl) fun ws ce=>if ws.length+1=n then qS ce.length (df (.cel ce.length::ws) (ce++[.ins c []])) else none
section
variable {E E1:XK} {x c m:Str} {p:Pos} {o:Expr} {dv:Sl->M W}
theorem gb(hc:L2.Cls X.K (G.cl c))(hn:L2.NoAttr X.K (G.cl c) m)(he:PE X e (ar G E d))(hb:attributeBase e m X.env (eval e X.env)=eval e X.env:=by rfl):PE X (.Attribute e m pos) (ar G E (dA c m d)):=by
 refine PE.imp (Cq he hb) fun σ H Q zz_=>bu zz_ fun F as sl ce S P=>(step S P).mono fun x H1 zz_=>aZ zz_ fun wx F1 as1 ce1 l1 S1 rx P1=>?_;obtain⟨w,e1,P2⟩:=jw P1;split at e1
 ·rename_i q hq;obtain⟨j,fs⟩:=q;obtain⟨a,dx,ps,rfl,ha,hH,rk⟩:=sV S1.st rx hq;obtain⟨v,e4,rv⟩:=rk.look e1;exact⟨a,_,dx,ps,v,rfl,hH,hc,hn,e4,P2.done S1 rv⟩
 ·cases e1
theorem mv(hc:L2.Cls X.K (G.cl c))(hn:L2.NoAttr X.K (G.cl c) m)(ho:PE X o (ar G E d))(hv:PE X value (ar G E dv))(hs:swapsWith value (some (.Attribute o m pos')) pos.line X.env=pure false:=by rfl) :
  PS X (.Assign [.Attribute o m pos'] value pos) (dH G E (iG c m d dv)):=by
 refine PS.imp (Cp ho hv hs) fun D σ H zz_=>bu zz_ fun F as sl ce S P=>(gU S P).mono fun y H1 zz_=>aZ zz_ fun wy F1 as1 ce1 l1 S1 ry P1=>(gU S1 P1).mono fun x H2 zz_=>aZ zz_ fun wx F2 as2 ce2 l2 S2 rx P2=>?_;split at P2
 ·rename_i j fs hq;split at P2
  ·rename_i hl;obtain⟨a,dx,ps,rfl,ha,hH,rk⟩:=sV S2.st rx hq;refine⟨a,_,dx,ps,rfl,hH,hc,hn,by rw[<- Paired.length rk];exact hl,?_⟩;exact P2 _ _ _ _ .refl (S2.slots (S2.st.write (o:=.ins (G.cl c) dx (eY m y ps)) (c:=.ins c (putA m wy fs)) ha ⟨_,_,ak,rk.putA m (ry.le l2)⟩) .refl)
  ·exact(show False from P2).elim
 ·exact(show False from P2).elim
theorem sU{F:Hp}{σ:VS.St}{Q:VK}(S:SR G F as H σ sl ce)(P:aG G E Rep F as σ sl Q (dI c m n df d dr sl ce)) :
  ar G E d σ H fun x H1=>∃a dx fs,x=.ref a/\H1 a=some (.ins (G.cl c) dx fs)/\fs.lookup m=none/\fv G E dr σ H1 fun vs H2=>vs.length+1=n/\∃F2 as2 ws ce2,SR G F2 as2 H2 σ sl ce2/\ag F2 as2 ws (x::vs)/\aG G E Rep F2 as2 σ sl Q (df ws ce2):=by
 refine(step S P).mono fun x H1 zz_=>aZ zz_ fun wx F1 as1 ce1 l1 S1 rx P1=>?_;unfold au at P1;unfold look at P1;dsimp only at P1;split at P1
 ·rename_i u ce' e1;cases hq:jR ce1 c wx with
  | none=>rw[hq] at e1;cases e1
  | some q =>
   obtain⟨j,fs⟩:=q;rw[hq] at e1;dsimp only at e1;split at e1
   ·rename_i hl;cases e1;obtain⟨a,dx,ps,rfl,ha,hH,rk⟩:=sV S1.st rx hq;refine⟨a,dx,ps,rfl,hH,rk.lookN hl,?_⟩;refine(step (RP:=ag) S1 P1).mono fun vs H2 zz_=>aZ zz_ fun ws F2 as2 ce2 l2 S2 rs P2=>?_;split at P2
    ·rename_i hn;exact⟨by rw[rs.length];exact hn,F2,as2,wx::ws,ce2,S2,.cons (rx.le l2) rs,P2⟩
    ·exact(show False from P2).elim
   ·cases e1
 ·rename_i e1;cases hq:jR ce1 c wx with
  | none=>rw[hq] at e1;cases e1
  | some q=>rw[hq] at e1;dsimp only at e1;split at e1<;>cases e1
 ·exact P1.elim
theorem nR(hc:L2.Cls X.K (G.cl c))(hm:L2.Meth X.K (G.cl c) m f)(Fk:ay X.prog X.w X.K X.mg X.base CX k f fd ps (gn G fe n df))(hr:aR k X.A)(hb:Binds X.K fd ps [])(hx:gh CX X E1)(he:PE X o (ar G E d))(ha:PA X (e::es) (fv G E dr))(hfe:fe E1=E:=by rfl)(hst:starEach (e::es) X.env=(false,eval e X.env)::starEach es X.env:=by rfl)(hpl:(backTo pos (starEach es X.env)).any (·.1)=false:=by rfl)(ht:eval (.Call (.Attribute o m apos) (e::es) [] pos) X.env=(do
   let ov <- eval o X.env
   standAt apos.atName
   let (f,first) <- holding [ov] (getMethod ov m pl)
   callWith pos f first (backTo pos (starEach (e::es) X.env)) (backToKw pos (keywordEach [] X.env))):=by rfl) :
  PE X (.Call (.Attribute o m apos) (e::es) [] pos) (ar G E (dI c m n df d dr)):=by
 refine PE.imp (EV he hc hm Fk hr hb .nil hx ha hst hpl ht) fun σ H Q zz_=>bu zz_ fun F as sl ce S P=>(sU S P).mono fun x H1 h=>?_;obtain⟨a,dx,fs,e1,e2,e3,h⟩:=h;refine⟨a,dx,fs,e1,e2,e3,h.mono fun vs H2 h=>?_⟩;obtain⟨hn,F2,as2,ws,ce2,S2,rs,P2⟩:=h;rw[append_nil];exact⟨hn,F2,as2,ws,ce2,S2.st,rs,by rw[hfe];exact c_.of S2 P2⟩
theorem lp(hc:L2.Cls X.K (G.cl c))(hm:L2.Meth X.K (G.cl c) m f)(Fk:ay X.prog X.w X.K X.mg X.base CX k f fd ps (gn G fe n df))(hr:aR k X.A)(hb:Binds X.K fd ps [])(hx:gh CX X E1)(he:PE X o (ar G E d))(hfe:fe E1=E:=by rfl)(ht:eval (.Call (.Attribute o m apos) [] [] pos) X.env=(do
   let ov <- eval o X.env
   standAt apos.atName
   let (f,first) <- holding [ov] (getMethod ov m pl)
   callWith pos f first (backTo pos (starEach [] X.env)) (backToKw pos (keywordEach [] X.env))):=by rfl) :
  PE X (.Call (.Attribute o m apos) [] [] pos) (ar G E (dI c m n df d ai)):=by
 refine PE.imp (GG he hc hm Fk hr hb .nil hx ht) fun σ H Q zz_=>bu zz_ fun F as sl ce S P=>(sU S P).mono fun x H1 h=>?_;obtain⟨a,dx,fs,e1,e2,e3,h⟩:=h;refine⟨a,dx,fs,e1,e2,e3,?_⟩;obtain⟨F1,as1,sl1,ce1,S1,P1⟩:=h;obtain⟨hn,F2,as2,ws,ce2,S2,rs,P2⟩:=P1 [] H1 F1 as1 .refl S1 .nil;show gn G fe n df [x] H1 Q E1;exact⟨hn,F2,as2,ws,ce2,S2.st,rs,by rw[hfe];exact c_.of S2 P2⟩
theorem aw.other{F:Hp}{q:Addr}{ho:HO}(S:aw G F as H ce)(hp:H q=none):aw G F as (upd H q ho) ce:=by
 refine⟨fun a u e=>?_,S.nd,S.len,fun k a c' h1 h2=>?_⟩
 ·rw[bj (eN (S.sub _ _ e) hp)];exact S.sub _ _ e
 ·obtain⟨q1,q2⟩:=S.cell k a c' h1 h2;obtain⟨u,hu⟩:=q2.tracked;exact⟨q1,q2.le .refl (bj (eN hu hp))⟩
theorem FC{F:Hp}{σ:VS.St}{Q:VK}{vs:List V}{x dx:Addr}(S:SR G F as H σ sl ce)(rs:ag F as ws vs)(hx:H x=none)(hdx:H dx=none)(hne:dx≠x)(hl:ws.length+1=n)(P:aG G E Rep F as σ sl Q (qS ce.length (df (.cel ce.length::ws) (ce++[.ins c []])))):gn G (fun _=>E) n df (.ref x::vs) (upd (upd H dx (.own x)) x (.ins (G.cl c) dx [])) (fun v H2=>v=.non/\Q (.ref x) H2) E:=by
 have hx':upd H dx (.own x) x=none:=by rw[bj (fun z=>hne z.symm)];exact hx
 obtain⟨S2,l2⟩:=(S.st.other (ho:=.own x) hdx).alloc (o:=.ins (G.cl c) dx []) hx' (c:=.ins c []) (fun as' _=>⟨dx,[],ak,.nil⟩);have hr:Rep F (as++[x]) (.cel ce.length) (.ref x):=by simp only[Rep];exact⟨x,rfl,by rw[<- S.st.len];simp⟩
 refine⟨by rw[length_cons,rs.length];exact hl,F,as++[x],_,_,S2,.cons hr (rs.le l2),?_⟩;revert P;cases df (.cel ce.length::ws) (ce++[.ins c []]) with
 | none=>exact fun P=>P
 | some r=>cases r with
  | ex y ce'=>exact fun P H' F' as' cv od l S' hx=>P H' F' as' cv od (l2.trans l) S' hx
  | ok w ce' =>
   cases w<;>first|exact fun P=>(show False from P).elim|skip
   intro P v H' F' as' l S' rv;simp only[Rep] at rv;exact⟨rv,P (.ref x) H' F' as' (l2.trans l) (S.slots S' (l2.trans l)) (hr.le l)⟩
theorem Ey(M:L2.Mk X.K (G.cl c) f)(Fk:ay X.prog X.w X.K X.mg X.base CX k f fd ps (gn G fe n df))(hr:aR (k+1) X.A)(hg:Gl X c)(hm:X.mg c=some (.ref (G.cl c)))(hb:Binds X.K fd ps [])(hx:gh CX X E1)(ha:PA X (e::es) (fv G E dr))(hfe:fe E1=E:=by rfl)(hdb:(c==("__debug__" : Str))=false:=by decide)(he:starEach (e::es) X.env=(false,eval e X.env)::starEach es X.env:=by rfl)(hpl:(backTo pos (starEach es X.env)).any (·.1)=false:=by rfl) :
  PE X (.Call (.Name c p) (e::es) [] pos) (ar G E (oV c n df dr)):=by
 refine PE.imp (EU M Fk hr hg hm hb .nil hx ha hdb he hpl) fun σ H Q zz_=>bu zz_ fun F as sl ce S P=>(step (RP:=ag) S P).mono fun vs H1 zz_=>aZ zz_ fun ws F1 as1 ce1 l1 S1 rs P1=>?_;intro y dy hy hdy hne;split at P1
 ·rename_i hn;rw[append_nil];have q:=FC S1 rs hy hdy hne hn P1;obtain⟨h1,F2,as2,ws2,ce2,S2,rs2,P2⟩:=q;exact⟨h1,F2,as2,ws2,ce2,S2,rs2,by rw[hfe];exact P2⟩
 ·exact(show False from P1).elim
end
variable {D:Ends}
section
variable {E:XK} {x c m:Str} {p:Pos} {o:Expr} {h:ExceptHandler} {ok:cX->Bool}
theorem FA{σ:VS.St}{put:Option Nat}{F:Hp}{g:Sl->M W}(hh:∀D σ H F as sl ce (x:cX) (cv:Value),SR (Gy K) F as H σ sl ce->om K x cv none F->ok x=true->bh (Gy K) E D F as (hd x sl ce)->th cv D σ H)(S:SR (Gy K) F as H σ sl ce)(P:bh (Gy K) E D F as (jI g put ok hd sl ce)):aG (Gy K) (fun cls _ H'=>th cls D σ H') Rep F as σ sl (fun v H2=>D.nx (uW put σ v) H2) (g sl ce):=by
 unfold jI at P;cases e:g sl ce with
 | none=>rw[e] at P;exact P
 | some r=>cases r with
  | ok w ce' =>
   rw[e] at P;intro b H' F' as' l S' rv;cases put with
   | none=>exact P _ _ _ _ l S'
   | some i=>exact P _ _ _ _ l (S'.put rv i)
  | ex y ce' =>
   rw[e] at P;dsimp only at P;split at P
   ·rename_i hok;intro H' F' as' cv od l S' hx;obtain⟨rfl,hx⟩:=hx;exact hh D σ H' F' as' sl ce' y cv (S.slots S' l) ⟨rfl,hx⟩ hok (P.le l)
   ·exact(show False from P).elim
theorem Fz{σ:VS.St}{put:Option Nat}{F:Hp}(hh:∀D σ H F as sl ce (x:cX) (cv:Value),SR (Gy K) F as H σ sl ce->om K x cv none F->ok x=true->bh (Gy K) E D F as (hd x sl ce)->th cv D σ H)(S:SR (Gy K) F as H σ sl ce)(P:bh (Gy K) E D F as (jI (dI c m n df (gy d) (gy dr)) put ok hd sl ce)) :
  ar (Gy K) E0 d σ H fun x H1=>∃a dx fs,x=.ref a/\H1 a=some (.ins (clOf K c) dx fs)/\fs.lookup m=none/\fv (Gy K) E0 dr σ H1 fun vs H2=>gn (Gy K) (fun E=>E) n df (x::vs) H2 (fun v H2=>D.nx (uW put σ v) H2) (fun cls _ H'=>th cls D σ H'):=by
 refine(sU S (FA hh S P)).noX.mono fun x H1 h=>?_;obtain⟨a,dx,fs,e1,e2,e3,h⟩:=h;refine⟨a,dx,fs,e1,e2,e3,h.noX.mono fun vs H2 h=>?_⟩;obtain⟨hn,F2,as2,ws,ce2,S2,rs,P2⟩:=h;exact⟨hn,F2,as2,ws,ce2,S2.st,rs,c_.of S2 P2⟩
theorem Fx{y:Str}(hst:X.stack=X.env::X.outer)(hf:X.env.frame=some X.env.locals)(hex:X.ex=[])(hN:X.N.Nodup)(hi:X.N[i]?=some y)(hx:Loc X.env.scope y)(hc:L2.Cls X.K (clOf K c))(hm:L2.Meth X.K (clOf K c) m f)(Fk:ay X.prog X.w X.K X.mg X.base (bz X.prog X.w) k f fd ps (gn (Gy K) (fun E=>E) n df))(hr:aR k X.A)(hb:Binds X.K fd ps [])(ho:PE X.nox o (ar (Gy K) E0 d))(ha:PA X.nox (e::es) (fv (Gy K) E0 dr))(hh:zZ K E X h ok hd)(hst2:starEach (e::es) X.env=(false,eval e X.env)::starEach es X.env:=by rfl)(hpl:(backTo cpos (starEach es X.env)).any (·.1)=false:=by rfl)(ht:eval (.Call (.Attribute o m apos) (e::es) [] cpos) X.env=(do
   let ov <- eval o X.env
   standAt apos.atName
   let (f,first) <- holding [ov] (getMethod ov m pl)
   callWith cpos f first (backTo cpos (starEach (e::es) X.env)) (backToKw cpos (keywordEach [] X.env))):=by rfl)(hs:swapsWith (.Call (.Attribute o m apos) (e::es) [] cpos) (some (.Name y pos')) epos.line X.env=pure false:=by rfl)(hfn:X.fn y=true\/X.env.scope.names.lookup y=some .local:=by first|exact .inl rfl|exact .inr rfl|assumption) :
  PS X (.Try [.Assign [.Name y pos'] (.Call (.Attribute o m apos) (e::es) [] cpos) epos] [h] [] [] pos) (dH (Gy K) E (jI (dI c m n df (gy d) (gy dr)) (some i) ok hd)):=by
 obtain⟨th,hh1,hh2⟩:=hh;exact PS.imp (BJ hst hf hex (BI hN hi hx (FD ho hc hm Fk hr hex hb ha hst2 hpl ht) hs hfn) hh1) fun D σ H zz_=>bu zz_ fun F as sl ce S P=>Fz hh2 S P
end
section
variable {a b:DS} {w u:W} {c f m:Str} {fs:List (Str×W)} {x:cX}
theorem gm{p:List (Str×W)}(h:p.length<=j):(putA f w p).length<=j+1:=by
 induction p generalizing j with
 | nil=>simp[putA]
 | cons a r ih =>
  obtain⟨g,y⟩:=a;rw[length_cons] at h;simp only[putA];split
  ·rw[length_cons];omega
  ·rw[length_cons];have:=ih (j:=j-1) (by omega);omega
theorem qR(g:ce[k]?=some (.ins c fs)):jR ce c (.cel k)=some (k,fs):=by simp only[jR,g,if_true]
theorem fR(h:d sl ce=some (.ok (.cel k) c1))(g:c1[k]?=some (.ins c fs))(l:fs.lookup f=some w):dA c f d sl ce=some (.ok w c1):=by simp only[dA,au,h,look,qR g,l,map_some]
theorem vU(hv:v sl ce=some (.ok w c1))(h:d sl c1=some (.ok (.cel k) c2))(g:c2[k]?=some (.ins c fs))(hl:fs.length<1000):iG c f d v sl ce=some (.go .nx sl (c2.set k (.ins c (putA f w fs)))):=by simp only[iG,cu,hv,h,qR g,if_pos hl]
theorem Fw(hv:v sl ce=some (.ok w c1))(h:d sl c1=some (.ok (.cel k) c2))(g:c2[k]?=some (.ins c fs))(hl:fs.length<1000)(q:Q (.go .nx sl (c2.set k (.ins c (putA f w fs))))):Run (iG c f d v) sl ce Q:=⟨_,vU hv h g hl,q⟩
theorem n_(hv:v sl ce=some (.ok w c1))(h:d sl c1=some (.ok (.cel k) c2))(g:c2[k]?=some (.ins c fs))(hl:fs.length<1000)(q:Run b sl (c2.set k (.ins c (putA f w fs))) Q):Run (aq (iG c f d v) b) sl ce Q:=ig (vU hv h g hl) q
theorem BC(h:d sl ce=some (.ok (.cel k) c1))(g:c1[k]?=some (.ins c fs))(l:fs.lookup m=none)(hr:dr sl c1=some (.ok ws c2))(hn:ws.length+1=n):dI c m n df d dr sl ce=df (.cel k::ws) c2:=by simp only[dI,au,h,look,qR g,l,if_true,map_some,hr,hn]
theorem eR{r:Option (R W)}(h:d sl ce=some (.ok (.cel k) c1))(g:c1[k]?=some (.ins c fs))(l:fs.lookup m=none)(hr:dr sl c1=some (.ok ws c2))(hn:ws.length+1=n)(hf:df (.cel k::ws) c2=r):dI c m n df d dr sl ce=r:=(BC h g l hr hn).trans hf
theorem Ex(hr:dr sl ce=some (.ok ws c1))(hn:ws.length+1=n)(hf:df (.cel c1.length::ws) (c1++[.ins c []])=some (.ok .non c2)):oV c n df dr sl ce=some (.ok (.cel c1.length) c2):=by simp only[oV,au,hr,if_pos hn,hf,qS]
theorem qQ{r:R W}(sl:Sl)(e:ws.map some++List.replicate (n-ws.length) none=sl)(h:Run body sl ce fun o=>∃sl' c',o=.go .nx sl' c'/\fin ce c' .non=some r):bJ fin n body ws ce=some r:=by subst e;obtain⟨o,e,sl',c',rfl,hf⟩:=h;simp only[bJ,e,hf]
end
end VS
namespace L2
section
variable {c:Expr} {a b:List Stmt} {tc:TT} {ta tb:XK->TS}
end
end L2
namespace VS
section
variable {E:XK} {x y:Str} {p:Pos} {t:Expr} {h:ExceptHandler} {ok:cX->Bool} {sa sb:List Stmt} {da db d:DS} {c:Sl->M Bool}
end
section
variable {d b:DS} {ok:cX->Bool} {x:cX}
end
end VS
namespace L2
open AutoSeq1 (wpAny_loadPart')
end L2
namespace VS
section
variable {E:XK} {p:Pos}
end
end VS
variable {bm:List Value} {hdct ab:Bool} {sn:List Str} {col:Option Bool} {dd:Option Addr} {newId:String} {SA:Addr}
namespace L2
open PySem.W
section
variable {R:Result->Shared->Prop} {d:Drawn} {t:Nat}
variable {q:Str} {C N:Addr} {bs bmB:List Value} {sub:List Value} {k0 k1 k2 k3 k5:Option Value} {B Bn nid initId inN:String} {bmN:List Value}
abbrev mr(C T:Addr):Obj:={ cls:=.ref C,data:=.fields #[.ref T,.none,.none,.none,.bool false,.none] }
theorem Fv{rest:List Value}{init:Value}(Fn:ExcBaseFacts Bn newId inN bmN)(hBn:bmB.contains (.type Bn)=true)(F:ExcBaseFacts B nid initId bmB)(T:OwnTail h bmB bm)(hC:h.get? C=some (excClassObj nm q C N bs bm hdct sn sub ab col dd k0 k1 k2 k3 k5 newId))(self:Looks (model prog w) h (isSubtype (.ref C) (.ref C)) true)(call:Looks (model prog w) h (specialOf (.ref C) "__call__") (some (.builtin "type.__call__")))(typ:Looks (model prog w) h (isInstance (.ref C) (.type "type")) true)(hi:Looks (model prog w) h (typeLookup (.ref C) "__init__") (some init))(hb:∀self,Looks (model prog w) h (bindSpecial init self) (init,[self]))(hrest:rest.length<=sizeLine)(hq:codeAny (model prog w) (A.under (.builtin "type.__call__" ⟨.ref C::rest,[]⟩)) (.call init ⟨.ref (h.objs.size+1)::rest,[]⟩) (InitBack (h.objs.size+1) R) ⟨(h.push { cls:=.type "tuple",data:=.seq rest.toArray }).push (mr C h.objs.size),g,d,t,os⟩) :
  codeAny (model prog w) A (.call (.ref C) ⟨rest,[]⟩) R ⟨h,g,d,t,os⟩:=by
 refine codeAny_of_tree ?_;show wpAny _ _ (callAny (.ref C) _) _ _ _;refine nd_load hC ?_;show wpAny _ _ (callAny.viaDunder (.ref C) _) _ _ _;unfold callAny.viaDunder;refine wpAny_bind (call.at ?_);dsimp only;rw[tc_bind];refine wpAny_bind (wpAny_pure (wpAny_bind (wpAny_pure ?_)));refine wpAny_pure (a:=Fin.again (.call (.builtin "type.__call__") ⟨.ref C::rest,[]⟩)) (And.intro rfl ?_);refine codeAny_call_builtin_at (Code.quiet_builtin _ (by decide +kernel)) entry_typeCall (check_slot tc_kind tc_split typ (tc_args _ _ _) ?_);unfold Builtin.«type.__call__»;have e4:(Value.ref C::bm).isEmpty=false:=rfl;have hm:Looks (model prog w) h (mroOf (.ref C)) (Value.ref C::bm):=((Looks.ld (part:=none) hC).andThen .now).andThen .now
 repeat (first|simp only[e4,false_eq_true,if_false]|with_reducible refine wpAny_madeBy_exc hC ?_|with_reducible refine wpAny_call ?_|lk)
 refine codeAny_call_builtin_code (Code.quiet_builtin _ Fn.quiet) (wpAny_check_new_subU Fn hBn T hC ?_);refine codeAny_exc_new_subU Fn hBn F T hC ?_ hrest;have k:∀b o,h.get? b=some o->((h.push { cls:=.type "tuple",data:=.seq rest.toArray }).push (mr C h.objs.size)).get? b=some o:=fun b o e=>Heap.get?_push_of_some _ (Heap.get?_push_of_some _ e);have hx:((h.push { cls:=.type "tuple",data:=.seq rest.toArray }).push (mr C h.objs.size)).get? (h.objs.size+1)=some (mr C h.objs.size):=by heap_get
 have t1:Looks (model prog w) ((h.push { cls:=.type "tuple",data:=.seq rest.toArray }).push (mr C h.objs.size)) (typeOf (.ref (h.objs.size+1))) (.ref C):=(Looks.ld hx).andThen .now;have s1:=self.keeps k;have i1:=hi.keeps k;have b1:=(hb (.ref (h.objs.size+1))).keeps k;unfold isInstance callSpecial? specialOf
 repeat (first|with_reducible refine wpAny_call ?_|lk)
 refine codeAny_mono hq fun r s' z=>?_;rcases r with e|(v|_|_|_)<;>first|exact z|exact z.elim|skip
 obtain⟨rfl,z⟩:=z;exact wpAny_pure (wpAny_pure z)
theorem Fu(F:ExcBaseFacts B nid initId bmB)(T:OwnTail h bmB bm){e:Addr}{rest:List Value}{Q:Value->Shared->Prop}(hC:h.get? C=some (excClassObj nm q C N bs bm hdct sn sub ab col dd k0 k1 k2 k3 k5 newId))(he:h.get? e=some oe)(hcls:oe.cls=.ref C)(hd:oe.data=.fields vs)(h0:vs[0]?=some a0)(hrest:rest.length<=sizeLine)(hq:Q .none ⟨(h.push { cls:=.type "tuple",data:=.seq rest.toArray }).update e (Obj.mapFields (·.setIfInBounds 0 (.ref h.objs.size))),g,d,t,os⟩) :
  wpAny (model prog w) A (PySem.call (.builtin initId) (.ref e::rest)) Q E ⟨h,g,d,t,os⟩:=by
 refine wpAny_call (codeAny_call_builtin F.init.plain F.initEntry (wpAny_check_init_subU F T hC he hcls ?_))
 wp_walk
 rw[hd];refine wpAny_pure ?_;rw[h0];refine wpAny_pure ?_;refine wpAny_bind (wpAny_setField (Heap.get?_push_of_some _ he) hd (Array.getElem?_eq_some_iff.mp h0).1 ?_);have fin:∀s',s'=(⟨(h.push { cls:=.type "tuple",data:=.seq rest.toArray }).update e (Obj.mapFields (·.setIfInBounds 0 (.ref h.objs.size))),g,d,t,os⟩:Shared)->Q .none s':=fun s' e=>by rw[e];exact hq
 cases a0 with
 | ref a1=>exact wpAny_letGo (wpAny_pure (fin _ rfl))
 | _=>exact wpAny_pure (wpAny_pure (fin _ rfl))
end
def kJ(K:Frag)(C:Addr):Bool:=match K.lookup C with
 | some ⟨.type "type",_,.cls cd,sl⟩=>(match cd.mro,sl.toList with
  | .ref C'::bm,[_,_,_,_,some (.builtin n),_]=>C'==C&&n == "ValueError.__new__" && !cd.hasDel&&tailIn K iD bm&&nsOkIn K cd.ns
  | _,_=>false)
 | _=>false
theorem pR{C:Addr}(q:kJ K C=true)(X:K.In h):∃bm N nm qn bs hdct sn sub ab col dd k0 k1 k2 k3 k5,
  h.get? C=some (excClassObj nm qn C N bs bm hdct sn sub ab col dd k0 k1 k2 k3 k5 "ValueError.__new__")/\OwnTail h iD bm:=by
 unfold kJ at q;split at q
 case h_2=>cases q
 rename_i dd cd sl ho;split at q
 case h_2=>cases q
 rename_i C' bm k0 k1 k2 k3 n k5 hm hs;simp only[and_eq_true,beq_iff_eq,not_eq_true'] at q;obtain⟨⟨⟨⟨rfl,rfl⟩,hdel⟩,ht⟩,hok⟩:=q;obtain⟨nm,bs,mro,ns,qn,hd,sn,sub,ab,col,del⟩:=cd;dsimp only at hm hdel hok;subst hm hdel;have hsl:sl=#[k0,k1,k2,k3,some (.builtin "ValueError.__new__"),k5]:=by obtain⟨l⟩:=sl;simp only at hs;rw[hs]
 subst hsl;exact⟨bm,ns,nm,qn,bs,hd,sn,sub,ab,col,dd,k0,k1,k2,k3,k5,X _ _ ho,tail_of_in X ht⟩
def cP(a C:Addr)(h:Heap):Prop:=∃t sl,h.get? a=some ⟨.ref C,none,.fields #[.ref t,.none,.none,.none,.bool false,.none],sl⟩
def JJ(a C:Addr)(h:Heap):Prop:=∃D t sl,h.get? a=some ⟨.ref C,some D,.fields #[.ref t,.none,.none,.none,.bool false,.none],sl⟩
theorem cP.ok{C:Addr}(x:cP a C h):aA P w H h a (.ext (cP a C)):=by refine⟨x,?_,fun h1 h2 ⟨t,sl,e1⟩ k=>⟨t,sl,k _ e1⟩⟩;obtain⟨t,sl,e⟩:=x;exact⟨_,e⟩
theorem BB{o:HO}(h:H a=some o):upd H a o=H:=by
 funext b
 by_cases hb:b=a
 ·subst hb;rw[ak,h]
 ·rw[bj hb]
theorem GU{ap:Pos}{C:Addr}{x:Str}{t1:TE}{t2:St->Prop}(hg:Gl X x)(hm:X.mg x=some (.ref SA))(hga:specialIn X.K (.ref SA) "__getattribute__" = some (some (.builtin "type.__getattribute__")))(hr:readsIn X.K SA (.type "type")=true)(hf:findCls X.K (.ref SA) (.type "type") "__init__" = some (.val (.builtin "ValueError.__init__")))(qC:kJ X.K C=true)(h1:PE X e1 t1)(h2:PX X e2 t2)(hd:(x==("__debug__" : Str))=false:=by decide)(ht:eval (.Call (.Attribute (.Name x np) "__init__" ap) [e1,e2] [] pos) X.env=(do
   let ov <- eval (.Name x np) X.env
   standAt ap.atName
   let (f,first) <- holding [ov] (getMethod ov "__init__" pl)
   callWith pos f first (backTo pos (starEach [e1,e2] X.env)) (backToKw pos (keywordEach [] X.env))):=by rfl)(he:starEach [e1,e2] X.env=[(false,eval e1 X.env),(false,eval e2 X.env)]:=by rfl) :
  PE X (.Call (.Attribute (.Name x np) "__init__" ap) [e1,e2] [] pos) (fun σ H Q=>t1 σ H fun v H1=>∃a,v=.ref a/\H1 a=some (.ext (cP a C))/\t2 σ/\Q .non H1):=by
 intro pins s σ H Q I h;refine methodCall_KW (pl:=pl) (lg I hg hm ?_ hd) ht;refine method_cls I.kIn hga (cls_value I.kIn hr hf (by decide +kernel) ?_);have I0:Inv X pins σ H { s with toks:=s.toks+1 }:=I.tok _;show wpAny _ _ (callWith pos (.builtin "ValueError.__init__") [] (backTo pos (starEach [e1,e2] X.env)) []) _ _ _;rw[he];refine Calls.callWith_builtin rfl (Calls.evalArgs_plain (Calls.spliced_cons (aN (h1 pins _ σ H _ I0 h) fun u s1 ⟨v,H1,I1,rv,a,ev,ha,ht2,hq⟩=>?_)));refine Calls.spliced_cons (aN (h2 pins s1 σ H1 I1 ht2) fun u2 s2 I2=>Calls.spliced_nil ?_);subst ev;obtain rfl:u=Value.ref a:=rv;obtain⟨bm,N,nm,qn,bs,hdct,sn,sub,ab,col,dd,k0,k1,k2,k3,k5,hC,T⟩:=pR qC I2.kIn;obtain⟨tt,osl,hx⟩:=(show aA X.prog X.w H1 s2.heap a (.ext (cP a C)) from I2.hok a _ ha).1;obtain⟨hh,g,d,tk,os⟩:=s2;refine Fu (rest:=[u2]) (a0:=.ref tt) excBase_ValueError T hC hx rfl rfl rfl (by show 1<=sizeLine;decide) ?_;have hx':=Heap.get?_push_of_some { cls:=.type "tuple",data:=.seq [u2].toArray } hx;have hs:=Heap.get?_update_self (Obj.mapFields (·.setIfInBounds 0 (.ref hh.objs.size))) hx' rfl;have I3:=I2.write (x:=a) (e:=a) (o:=.ext (cP a C)) (t':=tk) (h':=(hh.push { cls:=.type "tuple",data:=.seq [u2].toArray }).update a (Obj.mapFields (·.setIfInBounds 0 (.ref hh.objs.size)))) (by rw[ha];trivial) (.inl rfl)
  (fun b u hb e=>(Heap.get?_update_other _ _ (Ne.symm hb)).trans (Heap.get?_push_of_some _ e)) ⟨_,hs⟩ (cP.ok ⟨hh.objs.size,osl,hs⟩)
 rw[BB ha] at I3;exact⟨.non,H1,I3,rfl,hq⟩
end L2
variable {cd:ClassData} {tv:TE}
namespace L2
open PySem.W PySem.Builtin PySem.Builtin.ObjectAttr
theorem Di(self:Value):refuseLoop self "__setattr__" iD=pure ():=by kernel_rfl
theorem Dh(T:OwnTail h iD bm)(self:Value):refuseLoop self "__setattr__" bm=pure ():=by
 induction T with
 | base=>exact Di self
 | own _ _ _ _ ih=>rw[refuseLoop_ref];exact ih
section
variable {C:Addr}
end
section
variable {o:Expr} {f:Str} {C:Addr}
end
section
variable {M:Model} {q:Str} {C N:Addr} {bs:List Value} {sub:List Value} {k0 k1 k2 k3 k5:Option Value}
theorem tw{x:Sem Value}{Q:Flow->Shared->Prop}(hbase:bm.contains (.type "BaseException")=true)(hh:A.handled=none)(h:wpAny M A x (fun v s₁=>∃e D t sl,v=.ref e/\s₁.heap.get? C=some (excClassObj nm q C N bs bm hdct sn sub ab col dd k0 k1 k2 k3 k5 newId)/\s₁.heap.get? e=some ⟨.ref C,D,.fields #[.ref t,.none,.none,.none,.bool false,.none],sl⟩/\E (.ref e) s₁) E s) :
  wpAny M A (raiseStmt env (some x) none) Q E s:=by
 have hcB:(Value.ref C::bm).contains (.type "BaseException")=true:=by rw[contains_cons,hbase,Bool.or_true]
 unfold raiseStmt;refine wpAny_bind (wpAny_mono h (fun v s₁ h₁=>?_) fun _ _ x=>x);obtain⟨e,D,t,sl,rfl,hC,he,hE⟩:=h₁;obtain⟨hp,g,d,tk,os⟩:=s₁
 repeat (first|with_reducible refine wpAny_loadPart_at he ?_|with_reducible refine wpAny_loadPart_at hC ?_|(with_reducible refine wpAny_isSubtype_exc hC ?_;rw[hcB])|wp_step)
 exact wpAny_raiseNew_none hh hE
end
section
variable {σ:St} {φ:Heap->Prop}
theorem Inv.untrack(I:Inv X pins σ (upd H a (.ext φ)) s)(ha:H a=none):Inv X pins σ H s:=by
 have dn:∀{b:Addr} {o:HO},(∀ψ,o≠.ext ψ)->upd H a (.ext φ) b=some o->H b=some o:=fun {b o} hn e=>by
  by_cases hb:b=a
  ·subst hb;rw[ak] at e;cases e;exact absurd rfl (hn φ)
  ·rw[bj hb] at e;exact e
 have dz:∀{b:Addr},upd H a (.ext φ) b=none->H b=none:=fun {b} e=>by
  by_cases hb:b=a
  ·subst hb;exact ha
  ·rw[bj hb] at e;exact e
 refine⟨I.ok,I.os,I.bare,⟨I.base.keep,I.base.slot,fun b o e n hx=>dz (I.base.free b o e n hx),I.base.there,fun b xs e=>dn (fun ψ z=>by cases z) (I.base.tups b xs e),fun b o u e=>dn (fun ψ z=>by cases z) (I.base.frzs b o u e),fun b ps e=>?_⟩,I.loc,I.cell,dz I.free,fun x c e=>dz (I.freeC x c e),fun p hp=>?_,fun b o e=>?_,I.len⟩
 ·obtain⟨m,q⟩:=I.base.tbls b ps e;exact⟨m,dn (fun ψ z=>by cases z) q⟩
 ·obtain⟨e,n,r⟩:=I.pin p hp;exact⟨e,dz n,r⟩
 ·have hb:b≠a:=fun z=>by rw[z,ha] at e;cases e
  exact(I.hok b o (by rw[bj hb];exact e)).stay (fun _ _ _ r=>r) (fun c q=>dn (fun ψ z=>by cases z) q) fun c xs q=>dn (fun ψ z=>by cases z) q
end
structure XI (K:Frag) (C f:Addr):Prop where
 exc:kJ K C=true
 init:findIn K (.ref C) "__init__" = some (some (.ref f))
 fn:isFn K (.ref f)=true
 call:specialIn K (.ref C) "__call__" = some (some (.builtin "type.__call__"))
 typ:instIn K (.ref C) (.type "type")=some true
 self:mroIn K C (.ref C)=some true
 kp:keepIn K (.ref C)=true
end L2
namespace L2
open PySem.W
end L2
namespace VS
section
variable {E:XK} {x y:Str} {p:Pos}
end
end VS
namespace L2
open PySem.W
structure XN (K:Frag) (C SA f:Addr) (fld:Str):Prop where
 xi:XI K C f
 hga:specialIn K (.ref SA) "__getattribute__" = some (some (.builtin "type.__getattribute__"))
 hr:readsIn K SA (.type "type")=true
 hf:findCls K (.ref SA) (.type "type") "__init__" = some (.val (.builtin "ValueError.__init__"))
 hsa:findIn K (.ref C) "__setattr__" = some (some (.builtin "object.__setattr__"))
 hd:(clsIn K C).any (·.hasDict)=true
 ht:takerIn K C fld=some none
def ux(K:Frag)(C SA:Addr)(fld:Str):Bool:=kJ K C&&specialIn K (.ref C) "__call__" == some (some (.builtin "type.__call__"))&&instIn K (.ref C) (.type "type")==some true&&mroIn K C (.ref C)==some true&&keepIn K (.ref C) &&
 specialIn K (.ref SA) "__getattribute__" == some (some (.builtin "type.__getattribute__"))&&readsIn K SA (.type "type")&&(match findCls K (.ref SA) (.type "type") "__init__" with|some (.val (.builtin n))=>n == "ValueError.__init__" | _=>false) &&
 findIn K (.ref C) "__setattr__" == some (some (.builtin "object.__setattr__"))&&(clsIn K C).any (·.hasDict)&&takerIn K C fld==some none
theorem AA{C:Addr}{fld:Str}(q:ux K C SA fld=true)(hi:findIn K (.ref C) "__init__" = some (some (.ref f)))(fn:isFn K (.ref f)=true):XN K C SA f fld:=by
 unfold ux at q;simp only[and_eq_true,beq_iff_eq] at q;obtain⟨⟨⟨⟨⟨⟨⟨⟨⟨⟨q1,q2⟩,q3⟩,q4⟩,q5⟩,q6⟩,q7⟩,q8⟩,q9⟩,q10⟩,q11⟩:=q;refine⟨⟨q1,hi,fn,q2,q3,q4,q5⟩,q6,q7,?_,q9,q10,q11⟩;split at q8
 ·rename_i n e;rw[e,beq_iff_eq.mp q8]
 ·cases q8
section
variable {o:Expr} {m:Str} {C:Addr}
end
end L2
namespace VS
section
variable {E:XK} {c m:Str} {o:Expr} {h:ExceptHandler} {ok:cX->Bool}
end
end VS
namespace L2
section
variable {σ:St}
end
end L2
namespace VS
section
variable {E:XK} {elts:List Expr} {x1:Nat} {p fpos:Pos} {l:Expr} {g:DG} {b:DS} {body:List Stmt}
end
end VS
namespace L2
end L2
namespace VS
section
variable {E:XK}
end
def cB(K:Frag)(x q:Str)(st:Stmt)(f:Addr):Prop:=∃fd,bO K x q st f fd
theorem fnk{x:Str}{oc:Value}{an:Option Addr}{osl:Array (Option Value)}{kV doc pm cdv ct:Value}(l:K.lookup f=some ⟨oc,od,.func (fnOf x qual (mI st) (ku st) (bb st) .none kV doc pm an cdv ct),osl⟩)(c:codeIn K cdv qual=true)(k:keepIn K (.ref f)=true):cB K x qual st f:=⟨_,vG l c k⟩
theorem cp{N P:List Str}{sc:Scope}(h1:sc.kind=.function:=by rfl)(h2:sc.isCoroutine=false:=by rfl)(h3:sc.isGenerator=false:=by rfl)(h4:N.Nodup:=by decide +kernel)(h5:N.take P.length=P:=by rfl)(h6:∀x∈P,sc.names.lookup x=some .local\/sc.names.lookup x=some .cell:=by decide +kernel)(h7:∀y∈sc.names,y.2≠.free:=by decide +kernel):ao N P sc:=⟨h1,h2,h3,h4,h5,h6,h7⟩
end VS
namespace L2
open PySem.W PySem.Builtin PySem.Builtin.ObjectAttr
variable {D:Addr}
theorem NumP.ok{f:Str}{n:Int}(x:VS.NumP D f n h):aA P w H h D (.ext (VS.NumP D f n)):=by refine⟨x,?_,fun h1 h2 ⟨m,t,⟨o,es,ep,e1,r⟩,q⟩ k=>⟨m,t,⟨o,es,ep,k _ e1,r⟩,q⟩⟩;obtain⟨m,t,⟨o,es,ep,e1,r⟩,q⟩:=x;exact⟨_,e1⟩
def bI(a C D:Addr)(h:Heap):Prop:=∃t sl,h.get? a=some ⟨.ref C,some D,.fields #[.ref t,.none,.none,.none,.bool false,.none],sl⟩
theorem bI.ok{C:Addr}(x:bI a C D h):aA P w H h a (.ext (bI a C D)):=by refine⟨x,?_,fun h1 h2 ⟨t,sl,e1⟩ k=>⟨t,sl,k _ e1⟩⟩;obtain⟨t,sl,e⟩:=x;exact⟨_,e⟩
section
variable {C:Addr}
theorem Gg{v:Value}{sl:Array (Option Value)}{Q:Unit->Shared->Prop}(X:K.In s.heap)(hx:s.heap.get? a=some ⟨.ref C,none,.fields vs,sl⟩)(hs:findIn K (.ref C) "__setattr__" = some (some (.builtin "object.__setattr__")))(hc:clsIn K C=some cd)(hm:cd.mro=.ref C::bm)(hd:cd.hasDict=true)(T:OwnTail s.heap iD bm)(ht:takerIn K C name=some none)(h:∀h' tk,(∀b u,b≠a->s.heap.get? b=some u->h'.get? b=some u)->h'.get? a=some ⟨.ref C,some s.heap.objs.size,.fields vs,sl⟩->(∃m,h'.Ns s.heap.objs.size m/\m name=some v)->Q () { s with heap:=h',toks:=tk }) :
  wpAny (model prog w) A (setAttr (.ref a) name v) Q E s:=by
 have J:InstAt s.heap a ⟨.ref C,none,.fields vs,sl⟩ C none:=⟨hx,rfl,rfl,trivial⟩
 refine set_plain X J hs ?_;have SF:=PySem.F.store_object;have sub:Looks (model prog w) s.heap (isInstance (.ref a) (.type "object")) true:=J.type.andThen (looks_mroIn X (by unfold mroIn;rw[hc,bind_some,hm,if_neg (by simp),contains_cons,T.hasType (show iD.contains (.type "object")=true by decide)];simp));refine codeAny_call_builtin SF.slot.plain SF.entry (@check_slot (model prog w) _ _ { s with toks:=s.toks+1 } "object.__setattr__" "object" "__setattr__" (.ref a) [.str name s.toks,v] [] _ SF.kind SF.split sub (SF.args (.ref a) (.str name s.toks) v) ?_);obtain⟨attr,ha,hr⟩:=bind_eq_some_iff.mp ht;have hmL:Looks (model prog w) s.heap (mroOf (.ref C)) cd.mro:=(looks_clsIn X hc).andThen .now;have L3:Looks (model prog w) s.heap (storeTaker? attr) none:=by
  cases attr with
  | none=>exact .now
  | some a =>
   obtain⟨b,hb,he⟩:=map_eq_some_iff.mp hr;refine(looks_takesIn X hb).andThen ?_;cases b
   ·exact .now
   ·cases he
 rw[osa_eq,refuse_eq];refine wpAny_bind (wpAny_bind (J.type.here (s:={ s with toks:=s.toks+1 }) (wpAny_bind (hmL.here (s:={ s with toks:=s.toks+1 }) ?_))));rw[hm,refuseLoop_ref,Dh T];refine wpAny_pure (wpAny_bind (J.type.here (s:={ s with toks:=s.toks+1 }) (wpAny_bind ((looks_findIn X ha).here (s:={ s with toks:=s.toks+1 }) (wpAny_bind (L3.here (s:={ s with toks:=s.toks+1 }) ?_))))));refine wpAny_bind (wpAny_pure (wpAny_bind (wpAny_bind (wpAny_loadPart hx (wpAny_bind (here (s:={ s with toks:=s.toks+1 }) (looks_clsIn X hc) ?_))))));rw[hd];have hx₁:(s.heap.push { cls:=.type "dict",data:=.dict #[] }).get? a=some ⟨.ref C,none,.fields vs,sl⟩:=Heap.get?_push_of_some _ hx;have hxs:a≠s.heap.objs.size:=ne_of_lt (Heap.lt_size hx);refine wpAny_bind (wpAny_alloc' ?_);refine wpAny_bind (wpAny_update' hx₁ ?_);refine wpAny_pure ?_;have hgd:((s.heap.push { cls:=.type "dict",data:=.dict #[] }).update a fun o=>{ cls:=o.cls,dict:=some s.heap.objs.size,data:=o.data,slots:=o.slots }).get? s.heap.objs.size=some { cls:=.type "dict",data:=.dict #[] } :=
  (Heap.get?_update_ne _ _ _ _ hxs.symm).trans (Heap.get?_push_at rfl rfl)
 have hnd:((s.heap.push { cls:=.type "dict",data:=.dict #[] }).update a fun o=>{ cls:=o.cls,dict:=some s.heap.objs.size,data:=o.data,slots:=o.slots }).Ns s.heap.objs.size (fun _=>none) :=
  ⟨_,#[],_,hgd,rfl,fun e he=>absurd he (by simp),fun _=>rfl⟩
 show wpAny _ _ (storeInDict s.heap.objs.size (.str name s.toks) name v) _ _ _;unfold storeInDict newKeyGuard;refine wpAny_bind (wpAny_pure (wpAny_bind (wpAny_nsSet1 (Heap.Ns1.of_empty hnd) fun h' hn' hs=>?_)));obtain⟨oD,esD,epD,hoD,hdD,hcD⟩:=hn'.count (Within.cons name v Within.nil);refine wpAny_bind (wpAny_lookBehind hoD (by rw[hdD];exact pastItsLine_dict (le_trans hcD (by rw[length_cons,length_nil,sizeLine_eq];omega))) ?_);refine wpAny_pure (h h' _ (fun b u hb e=>?_) ?_ ?_)
 ·exact(hs.2 b (ne_of_lt (Heap.lt_size e))).trans ((Heap.get?_update_ne _ _ _ _ hb).trans (Heap.get?_push_of_some _ e))
 ·exact(hs.2 a hxs).trans (Heap.get?_update_self _ hx₁ rfl)
 ·obtain⟨o,es,ep,q1,q2,q3,_,q5⟩:=hn';exact⟨_,⟨o,es,ep,q1,q2,q3,q5⟩,by simp⟩
end
section
variable {o:Expr} {f:Str} {C:Addr}
theorem G9(ha:PE X o ta)(hv:PE X value tv)(hs:swapsWith value (some (.Attribute o f pos')) pos.line X.env=pure false)(hsa:findIn X.K (.ref C) "__setattr__" = some (some (.builtin "object.__setattr__")))(qC:kJ X.K C=true)(hd:(clsIn X.K C).any (·.hasDict)=true)(ht:takerIn X.K C f=some none) :
  PS X (.Assign [.Attribute o f pos'] value pos) (fun D σ H=>tv σ H fun y H1=>ta σ H1 fun x H2=>∃a n,y=.int n/\x=.ref a/\H2 a=some (.ext (cP a C))/\∀q,H2 q=none->q≠a->D.nx σ (upd (upd H2 q (.ext (VS.NumP q f n))) a (.ext (bI a C q)))):=by
 intro pins s σ H D I h;refine plainObj_wpAny_Assign_Attribute (aN (hv pins s σ H _ I h) fun u s1 ⟨y,H1,I1,ry,q⟩=>aN (ha pins s1 σ H1 _ I1 q) fun ov s2 ⟨x,H2,I2,rx,a,n,ey,ex,ea,q2⟩=>?_) hs;subst ex;subst ey;obtain rfl:ov=Value.ref a:=rx;obtain⟨tk0,rfl⟩:∃t,u=Value.int n t:=ry;obtain⟨bm,N,nm,qn,bs,hdct,sn,sub,ab,col,dd,k0,k1,k2,k3,k5,hC,T⟩:=pR qC I2.kIn;obtain⟨tt,osl,hx⟩:=(show aA X.prog X.w H2 s2.heap a (.ext (cP a C)) from I2.hok a _ ea).1;obtain⟨cd,hc,hdc⟩:=any_some hd;have hm:cd.mro=.ref C::bm:=by
  unfold clsIn at hc;split at hc
  ·rename_i ho;cases hc;have:=I2.kIn _ _ ho;rw[hC] at this;cases this;rfl
  ·cases hc
 have hlt:a<s2.heap.objs.size:=Heap.lt_size hx;have hn:H2 s2.heap.objs.size=none:=I2.hok.fresh (le_refl _);have hne:s2.heap.objs.size≠a:=Ne.symm (ne_of_lt hlt);refine Gg I2.kIn hx hsa hc hm hdc T ht fun h' tk hk hx' hN=>?_;obtain⟨m,hNs,hmf⟩:=hN;obtain⟨oD,es,ep,e1,r⟩:=id hNs;have IM:Inv X pins σ (upd H2 s2.heap.objs.size (.ext (VS.NumP s2.heap.objs.size f n))) { s2 with heap:=s2.heap.push oD } :=
  I2.laid (t':=s2.toks) (fun b u q=>Heap.get?_push_of_some _ q) (le_refl _) (NumP.ok ⟨m,_,⟨oD,es,ep,Heap.get?_push_size _ (qK e1),r⟩,hmf⟩)
 have ea':upd H2 s2.heap.objs.size (.ext (VS.NumP s2.heap.objs.size f n)) a=some (.ext (cP a C)):=by rw[bj (Ne.symm hne)];exact ea
 have I3:=IM.write (x:=a) (e:=a) (o:=.ext (bI a C s2.heap.objs.size)) (t':=tk) (h':=h') (by rw[ea'];trivial) (.inl rfl) (fun b u hb q=>by
  by_cases z:b=s2.heap.objs.size
  ·subst z;have:(s2.heap.push oD).get? s2.heap.objs.size=some oD:=Heap.get?_push_size _ (qK e1);rw[this] at q;rw[e1];exact q
  ·exact hk b u hb (by rw[<- q];exact(Heap.get?_push_ne _ _ _ z).symm)) ⟨_,hx'⟩ (bI.ok ⟨tt,osl,hx'⟩)
 exact⟨σ,_,I3,q2 _ hn hne⟩
end
def uq(C:Addr)(f:Str):Sp:=fun vs H Q _=>∃a n,vs=[.ref a,.int n]/\n.natAbs<1000/\H a=some (.ext (cP a C))/\∀q,H q=none->q≠a->Q .non (upd (upd H q (.ext (VS.NumP q f n))) a (.ext (bI a C q)))
end L2
namespace L2
open PySem.W
theorem Dg{ap p1 p3 pe pa:Pos}{C:Addr}{x u y f:Str}{t2:St->Prop}(hg:Gl X x)(hm:X.mg x=some (.ref SA))(hga:specialIn X.K (.ref SA) "__getattribute__" = some (some (.builtin "type.__getattribute__")))(hr:readsIn X.K SA (.type "type")=true)(hf:findCls X.K (.ref SA) (.type "type") "__init__" = some (.val (.builtin "ValueError.__init__")))(qC:kJ X.K C=true)(hsa:findIn X.K (.ref C) "__setattr__" = some (some (.builtin "object.__setattr__")))(hd:(clsIn X.K C).any (·.hasDict)=true)(ht:takerIn X.K C f=some none)(h2:PX X e2 t2)(hN0:X.N[0]?=some u:=by rfl)(hN1:X.N[1]?=some y:=by rfl)(hv0:lG X.env.scope u:=by exact Or.inl rfl)(hv1:lG X.env.scope y:=by exact Or.inl rfl)(d0:(u==("__debug__" : Str))=false:=by decide)(d1:(y==("__debug__" : Str))=false:=by decide)(c0:(u==("__classdict__" : Str))=false:=by decide)(c1:(y==("__classdict__" : Str))=false:=by decide)(hdx:(x==("__debug__" : Str))=false:=by decide)(hev:eval (.Call (.Attribute (.Name x np) "__init__" ap) [.Name u p1,e2] [] pos) X.env=(do
   let ov <- eval (.Name x np) X.env
   standAt ap.atName
   let (f,first) <- holding [ov] (getMethod ov "__init__" pl)
   callWith pos f first (backTo pos (starEach [.Name u p1,e2] X.env)) (backToKw pos (keywordEach [] X.env))):=by rfl)(hst:starEach [.Name u p1,e2] X.env=[(false,eval (.Name u p1) X.env),(false,eval e2 X.env)]:=by rfl)(hs0:swapsWith (.Call (.Attribute (.Name x np) "__init__" ap) [.Name u p1,e2] [] pos) none pe.line X.env=pure false:=by rfl)(hs:swapsWith (.Name y p3) (some (.Attribute (.Name u p2) f pos')) pa.line X.env=pure false:=by rfl) :
  PSs X [.Expr (.Call (.Attribute (.Name x np) "__init__" ap) [.Name u p1,e2] [] pos) pe,.Assign [.Attribute (.Name u p2) f pos'] (.Name y p3) pa]
   (fun D σ H=>∃a n,σ[0]?=some (some (.ref a))/\σ[1]?=some (some (.int n))/\H a=some (.ext (cP a C))/\t2 σ/\∀q,H q=none->q≠a->D.nx σ (upd (upd H q (.ext (VS.NumP q f n))) a (.ext (bI a C q)))):=by
 refine VS.PSs.imp (yi (xg (GU (C:=C) hg hm hga hr hf qC (mq (pos:=p1) hN0 hv0 d0 c0) h2 hdx hev hst) hs0) (xh (G9 (C:=C) (mq (pos:=p2) hN0 hv0 d0 c0) (mq (pos:=p3) hN1 hv1 d1 c1) hs hsa qC hd ht))) fun D σ H z=>?_;obtain⟨a,n,e0,e1,eH,q2,q⟩:=z;exact⟨.ref a,e0,a,rfl,eH,q2,.int n,e1,.ref a,e0,a,n,rfl,rfl,eH,q⟩
theorem Df{E:XK}{C:Addr}{σ:St}{vs:List V}{Q:Value->Shared->Prop}{φ:Addr->Heap->Prop}(M:XI X.K C f)(F:ay X.prog X.w X.K X.mg X.base CX k f fd ps sp)(hr:aR (k+1) X.A)(hb:Binds X.K fd ps [])(hpx:gh CX X E)(I:Inv X pins σ H s)(r:Vals vs us)(hl:us.length<=sizeLine){R:Addr->Prop}(hq:sp (.ref (s.heap.objs.size+1)::vs) (upd H (s.heap.objs.size+1) (.ext (cP (s.heap.objs.size+1) C))) (fun v H2=>v=.non/\∃q,H q=none/\q≠s.heap.objs.size+1/\H2=upd (upd H q (.ext (φ q))) (s.heap.objs.size+1) (.ext (bI (s.heap.objs.size+1) C q))/\R q) E)(hR:∀q,R q->H q=none->q≠s.heap.objs.size+1->∀s',Inv X pins σ (upd (upd H q (.ext (φ q))) (s.heap.objs.size+1) (.ext (bI (s.heap.objs.size+1) C q))) s'->Q (.ref (s.heap.objs.size+1)) s') :
  wpAny (model X.prog X.w) X.A (PySem.call (.ref C) us) Q X.xe s:=by
 obtain⟨bm,N,nm,qn,bs,hdct,sn,sub,ab,col,dd,k0,k1,k2,k3,k5,hC,T⟩:=pR M.exc I.kIn;have hn:H (s.heap.objs.size+1)=none:=I.hok.fresh (le_succ _);have I2:Inv X pins σ (upd H (s.heap.objs.size+1) (.ext (cP (s.heap.objs.size+1) C))) { s with heap:=(s.heap.push { cls:=.type "tuple",data:=.seq us.toArray }).push (mr C s.heap.objs.size) } :=
  I.laid (t':=s.toks) (fun b o e=>Heap.get?_push_of_some _ (Heap.get?_push_of_some _ e)) (le_succ _) (cP.ok ⟨s.heap.objs.size,_,by heap_get⟩)
 have r2:Vals (V.ref (s.heap.objs.size+1)::vs) (Value.ref (s.heap.objs.size+1)::us):=.cons rfl r;have hlen:(Value.ref (s.heap.objs.size+1)::us).length=ps.length:=by have e:=r2.length;rw[F.len _ _ _ _ hq] at e;exact e.symm
 obtain⟨hh,g,d,tk,os⟩:=s;refine wpAny_call (Fv (init:=.ref f) excBase_ValueError (by decide) excBase_ValueError T hC (looks_mroIn I.kIn M.self) (looks_specialIn I.kIn M.call) (looks_instIn I.kIn M.typ) (looks_findIn I.kIn M.init) (fun self=>bind_fn I.kIn self (beq_iff_eq.mp M.fn)) hl ?_);refine codeAny_mono (F.run _ X.stack _ _ ⟨Value.ref (hh.objs.size+1)::us,[]⟩ (Value.ref (hh.objs.size+1)::us) _ _ E (hr.make C us []) (I2.env0.make C us []) (by have:=hb _ (Value.ref (hh.objs.size+1)::us) I2.kIn (by simpa using hlen);simpa using this) r2 hq) fun r s' hq'=>?_;cases r with
 | error e=>exact hpx pins σ _ _ e s' I2 hq'
 | ok fl =>
  cases fl with
  | ret u =>
   obtain⟨v,H',I3,rv,ev,q,h1,h2,eH,q3⟩:=I2.after hq';subst ev;rw[eH] at I3;exact⟨rv,hR q q3 h1 h2 s' I3⟩
  | next=>exact False.elim hq'
  | brk=>exact False.elim hq'
  | cont=>exact False.elim hq'
theorem Gf{q:Addr}{o1 o2 o3:HO}(h:q≠a):upd (upd (upd H a o1) q o2) a o3=upd (upd H q o2) a o3:=by
 funext b
 by_cases hb:b=a
 ·subst hb;rw[ak,ak]
 ·rw[bj hb,bj hb]
  by_cases hq:b=q
  ·subst hq;rw[ak,ak]
  ·rw[bj hq,bj hq,bj hb]
theorem G8{E:XK}{C:Addr}{x fl:Str}(hx:eh X E)(hex:X.ex=[])(M:XI X.K C f)(F:ay X.prog X.w X.K X.mg X.base CX k f fd ps (uq C fl))(hr:aR (k+1) X.A)(hb:Binds X.K fd ps [])(hpx:gh CX X E)(hg:Gl X x)(hm:X.mg x=some (.ref C))(hh:X.A.handled=none)(he:PE X e te)(hs:starEach [e] X.env=[(false,eval e X.env)]:=by rfl)(hd:(x==("__debug__" : Str))=false:=by decide) :
  PS X (.Raise (some (.Call (.Name x np) [e] [] cpos)) none pos) (fun _ σ H=>te σ H fun y H1=>∃n,y=.int n/\n.natAbs<1000/\∀q,H1 q=none->E (.int (q:Int) C) none (upd H1 q (.ext (VS.NumP q fl n)))):=by
 intro pins s σ H D I hq;obtain⟨bm,N,nm,qn,bs,hdct,sn,sub,ab,col,dd,k0,k1,k2,k3,k5,hC,T⟩:=pR M.exc I.ok.mod.kin;have ev:wpAny (model X.prog X.w) X.A (eval (.Call (.Name x np) [e] [] cpos) X.env) (fun v s₁=>∃e D t sl,v=.ref e/\s₁.heap.get? C=some (excClassObj nm qn C N bs bm hdct sn sub ab col dd k0 k1 k2 k3 k5 "ValueError.__new__")/\s₁.heap.get? e=some ⟨.ref C,D,.fields #[.ref t,.none,.none,.none,.bool false,.none],sl⟩/\X.xe (.ref e) s₁) X.xe s:=by
  refine wpAny_Call_Name_kw (lg I hg hm ?_ hd);refine callWith_K (h₀:=X.base) I.ok.mod.kin M.kp (aN (nV he o7 (by rw[hs];rfl) cpos pins s σ H (fun vs H1=>match vs with|[y]=>(∃n,y=.int n/\n.natAbs<1000/\∀q,H1 q=none->E (.int (q:Int) C) none (upd H1 q (.ext (VS.NumP q fl n))))|_=>False) I hq) fun us s1 ⟨vs,H1,I1,r,q⟩=>⟨I1.kIn,?_⟩) (by rw[hs];rfl) rfl
  match vs,r,q with
  | [y],r,⟨n,ey,hn,q⟩ =>
   subst ey;have hl1:us.length=1:=r.length.symm;have hC1:=I1.bk _ _ hC;have hnw:Nw X pins (s1.heap.objs.size+1):=lV hex I1 (Heap.get?_none_of_le (le_succ _));have hH1:H1 (s1.heap.objs.size+1)=none:=I1.hok.fresh (le_succ _);refine Df (φ:=fun q=>VS.NumP q fl n) (R:=fun q=>E (.int (q:Int) C) none (upd H1 q (.ext (VS.NumP q fl n)))) M F hr hb hpx I1 r (by rw[nil_append,hl1];decide) ⟨_,n,rfl,hn,ak,fun q' h1 h2=>⟨rfl,q',?_,h2,Gf h2,q q' ?_⟩⟩ fun q' hE h1 h2 s' I3=>?_
   ·rwa [bj h2] at h1
   ·rwa [bj h2] at h1
   ·obtain⟨t,sl,e⟩:=(show aA X.prog X.w _ s'.heap (s1.heap.objs.size+1) (.ext (bI (s1.heap.objs.size+1) C q')) from I3.hok _ _ ak).1;have ha:upd H1 q' (.ext (VS.NumP q' fl n)) (s1.heap.objs.size+1)=none:=by rw[bj (Ne.symm h2)];exact hH1
    exact⟨_,_,_,_,rfl,I3.bk _ _ hC,e,hx pins σ _ s' _ (.int (q':Int) C) (I3.untrack ha) ⟨_,_,_,hnw,ha,e,⟨rfl,by simp⟩,rfl,rfl,.inl rfl⟩ hE⟩
 rw[arm_exec_Raise]
 first
  | refine wpAny_bind (wpAny_standAt (tw (T.hasType (show iD.contains (.type "BaseException")=true by decide)) hh (wpAny_bind (wpAny_mono ev (fun v s₁ h₁=>wpAny_bind (wpAny_standAt (wpAny_pure h₁))) fun _ _ x=>x))))
  | (simp only[evalOpt,Option.map];refine wpAny_bind (wpAny_standAt (tw (T.hasType (show iD.contains (.type "BaseException")=true by decide)) hh (wpAny_bind (wpAny_mono ev (fun v s₁ h₁=>wpAny_bind (wpAny_standAt (wpAny_pure h₁))) fun _ _ x=>x)))))
  | (show wpAny _ _ (do standAt pos;raiseStmt X.env (some (do let v <- eval (.Call (.Name x np) [e] [] cpos) X.env;standAt pos;pure v)) none) _ _ s;refine wpAny_bind (wpAny_standAt (tw (T.hasType (show iD.contains (.type "BaseException")=true by decide)) hh (wpAny_bind (wpAny_mono ev (fun v s₁ h₁=>wpAny_bind (wpAny_standAt (wpAny_pure h₁))) fun _ _ x=>x)))))
end L2
namespace VS
def mJ(x f:Str)(i:Nat):DS:=fun sl ce=>match sl[i]? with
 | some (some (.int n))=>if n.natAbs<1000 then some (.ex ⟨x,some (f,.int n)⟩ ce) else none
 | _=>none
section
variable {E:XK} {x y fl:Str} {p:Pos}
theorem G7(hx:eh X E)(hpx:gh (bz X.prog X.w) X E)(hK:X.K=K)(M:XI X.K (clOf K x) f)(Fi:ay X.prog X.w X.K X.mg X.base (bz X.prog X.w) k f fd ps (uq (clOf K x) fl))(hr:aR (k+1) X.A)(hb:Binds X.K fd ps [])(hm:X.mg x=some (.ref (clOf K x)))(hex:X.ex=[])(hg:Gl X x)(hh:X.A.handled=none)(hN:X.N[i]?=some y)(hv:lG X.env.scope y)(hd2:(y==("__debug__" : Str))=false:=by decide)(hcd:(y==("__classdict__" : Str))=false:=by decide)(he:starEach [.Name y p] X.env=[(false,eval (.Name y p) X.env)]:=by rfl)(hd:(x==("__debug__" : Str))=false:=by decide) :
  PS X (.Raise (some (.Call (.Name x np) [.Name y p] [] cpos)) none pos) (dH (Gy K) E (mJ x fl i)):=by
 refine PS.imp (G8 (E:=E) (C:=clOf K x) hx hex M Fi hr hb hpx hg hm hh (mq (pos:=p) hN hv hd2 hcd) he hd) fun D σ H zz_=>bu zz_ fun F as sl ce S P=>?_;unfold mJ at P;split at P
 ·rename_i n e;split at P
  ·rename_i hn;obtain⟨v,e1,e2⟩:=S.slot i _ e;simp only[Rep] at e2;subst e2;refine⟨.int n,e1,n,rfl,hn,fun q hq=>?_⟩;obtain⟨S',l⟩:=S.st.freeze (o:=.ext (NumP q fl n)) hq;exact P _ _ as (.int (q:Int) (clOf K x)) none l S' ⟨rfl,q,n,rfl,rfl,ak⟩
  ·exact(show False from P).elim
 ·exact(show False from P).elim
end
end VS
namespace L2
open PySem.W PySem.Builtin PySem.Builtin.ObjectAttr PySem.Builtin.Getset_descriptor
section
variable {d:Drawn} {t:Nat} {C D:Addr} {o:Obj}
theorem Ge{tk:Tok}{f:Str}{m:Str->Option Value}{v:Value}{Q:Fin->Shared->Prop}(X:K.In h)(hx:h.get? a=some o)(hc:o.cls=.ref C)(hdt:o.data=.fields vs)(hdc:o.dict=some D)(hcd:clsIn K C=some cd)(hdd:cd.hasDict=true)(hnf:findIn K (.ref C) f=some none)(hN:h.Ns D m)(hm:m f=some v)(hq:Q (.done (.ret v)) ⟨h,g,d,t,os⟩) :
  wpAny (model prog w) A (Builtin.«object.__getattribute__» ⟨[.ref a,.str f tk],[]⟩) Q E ⟨h,g,d,t,os⟩:=by
 have L2:=looks_findIn (M:=model prog w) X hnf;unfold Builtin.«object.__getattribute__»
 repeat (any_goals (first|assumption|(with_reducible refine wpAny_loadPart_at hx ?_;rw[hc])|with_reducible refine L2.at ?_|wp_step))
 rw[hdt];dsimp only;have hI:wpAny (model prog w) A (instanceDict a false) (fun r s'=>r=some D/\s'=⟨h,g,d,t,os⟩) E ⟨h,g,d,t,os⟩:=by
  unfold instanceDict
  repeat (any_goals (first|assumption|(with_reducible refine wpAny_loadPart_at hx ?_;rw[hdc])|wp_step))
  rw[hc];refine wpAny_bind (here (looks_clsIn X hcd) ?_);rw[hdd];exact wpAny_pure ⟨rfl,rfl⟩
 refine wpAny_mono hI (fun r s' ⟨e1,e2⟩=>?_) fun _ _ z=>z;subst e1 e2;unfold inDict;refine wpAny_nsGet hN ?_;rw[hm]
 repeat (any_goals (first|assumption|wp_step))
theorem Az{tk:Tok}{f:Str}{m:Str->Option Value}{n:Int}{tn:Tok}{ex:Bool}{Q:Value->Shared->Prop}(X:K.In h)(hx:h.get? a=some o)(hc:o.cls=.ref C)(hdt:o.data=.fields vs)(hdc:o.dict=some D)(hcd:clsIn K C=some cd)(hdd:cd.hasDict=true)(hnf:findIn K (.ref C) f=some none)(hN:h.Ns D m)(hm:m f=some (.int n tn))(hga:findIn K (.ref C) "__getattribute__" = some (some (.builtin "BaseException.__getattribute__")))(hgh:findIn K (.ref C) "__getattr__" = some none)(hb:mroIn K C (.type "BaseException")=some true)(hq:Q (.int n tn) ⟨h,g,d,t,os⟩) :
  wpAny (model prog w) A (getAttrBy (.ref a) (.str f tk) fl ex) Q E ⟨h,g,d,t,os⟩:=by
 have f3:=PySem.F.attr_ValueError.ga.bind (.ref a);have hx2:(Value.builtin "BaseException.__getattribute__" == Value.builtin "object.__getattribute__")=false:=by decide +kernel
 have hx1:(onTheHeap (Value.ref C)&&Value.builtin "BaseException.__getattribute__" == Value.builtin "object.__getattribute__")=false:=by rw[hx2];rfl
 have L1:=looks_findIn (M:=model prog w) X hga;have L2:=looks_findIn (M:=model prog w) X hgh
 repeat (any_goals (first|assumption|(with_reducible refine wpAny_loadPart_at hx ?_;rw[hc])|with_reducible refine L1.at ?_|with_reducible refine L2.at ?_|wp_step))
 have hex:(ex&&onTheHeap (Value.builtin "BaseException.__getattribute__"))=false:=by cases ex<;>rfl
 rw[hex]
 repeat (any_goals (first|assumption|(with_reducible refine wpAny_loadPart_at hx ?_;rw[hc])|with_reducible refine L1.at ?_|with_reducible refine L2.at ?_|wp_step))
 refine codeAny_call_builtin PySem.F.attr_ValueError.ga.plain entry_bexc_ga (xJ X hx hc hb (Ge X hx hc hdt hdc hcd hdd hnf hN hm ?_))
 repeat (any_goals (first|assumption|wp_step))
end
end L2
namespace L2
open PySem.W
def mY(K:Frag)(C:Addr)(f:Str):Bool:=kK K C&&findIn K (.ref C) f==some none&&(clsIn K C).any (·.hasDict)
section
variable {f:Str}
theorem BA(he:PE X e ta)(hb:attributeBase e f X.env (eval e X.env)=eval e X.env:=by rfl) :
  PE X (.Attribute e f pos) (fun σ H Q=>ta σ H fun x H1=>∃(a D C:Addr) (n:Int),x=.ref a/\H1 a=some (.ext (VS.XPhi a (.int (D:Int) C)))/\H1 D=some (.ext (VS.NumP D f n))/\mY X.K C f=true/\Q (.int n) H1):=by
 intro pins s σ H Q I h;refine xq hb (aN (he pins s σ H _ I h) fun u s1 ⟨x,H1,I1,rx,a,D,C,n,ex,ea,eD,hn,q⟩=>?_);subst ex;obtain rfl:u=Value.ref a:=rx;obtain⟨o,vs,e1,⟨tc,td⟩,e3,_⟩:=(show aA X.prog X.w H1 s1.heap a (.ext (VS.XPhi a (.int (D:Int) C))) from I1.hok a _ ea).1;obtain⟨m,t,hNs,hm⟩:=(show aA X.prog X.w H1 s1.heap D (.ext (VS.NumP D f n)) from I1.hok D _ eD).1;unfold mY at hn;simp only[and_eq_true,beq_iff_eq] at hn;obtain⟨⟨x1,x2⟩,x3⟩:=hn;obtain⟨q2,q3,q4,q5,q6,q7⟩:=w5 x1;obtain⟨cd,hcd,hdd⟩:=any_some x3;have hN':s1.heap.Ns (Int.toNat (D:Int)) m:=by rw[toNat_natCast];exact hNs
 unfold getAttr;obtain⟨hh,g,d,tk,os⟩:=s1;refine wpAny_bind (wpAny_mkText (Az I1.kIn e1 tc e3 td hcd hdd x2 hN' hm q2 q3 q6 ⟨.int n,H1,I1.tok _,⟨_,rfl⟩,q⟩))
end
end L2
namespace VS
def qo(ce:Ce)(cn f:Str):W->Option W
 | .cel k=>match ce[k]? with
  | some (.exm c f' n)=>if c=cn/\f'=f then some (.int n) else none
  | _=>none
 | _=>none
def lL(cn f:Str)(d:Sl->M W):Sl->M W:=fun sl=>au (d sl) fun w=>look fun ce=>qo ce cn f w
section
variable {E:XK} {f:Str}
theorem vR(hK:X.K=K)(hn:mY K (clOf K cn) f=true)(hx:PE X e (ar (Gy K) E d))(hb:attributeBase e f X.env (eval e X.env)=eval e X.env:=by rfl):PE X (.Attribute e f pos) (ar (Gy K) E (lL cn f d)):=by
 refine PE.imp (BA hx hb) fun σ H Q zz_=>bu zz_ fun F as sl ce S P=>(step S P).mono fun v H1 zz_=>aZ zz_ fun w F1 as1 ce1 l1 S1 r1 P1=>?_;obtain⟨w',e1,P2⟩:=jw P1;unfold qo at e1;split at e1
 ·rename_i k;split at e1
  ·rename_i c f' n ek;split at e1
   ·rename_i hcf;obtain⟨rfl,rfl⟩:=hcf;cases e1;simp only[Rep] at r1;obtain⟨a,rfl,ha⟩:=r1;obtain⟨_,D,q,hF⟩:=S1.st.cell k a _ ha ek;exact⟨a,D,_,n,rfl,q,S1.st.sub _ _ hF,by rw[hK];exact hn,aG.done S1 (a:=W.int n) P2 (by simp only[Rep])⟩
   ·cases e1
  ·cases e1
 ·cases e1
theorem Bz{n:Int}(h:d sl ce=some (.ok (.cel k) c1))(g:c1[k]?=some (.exm cn f n)):lL cn f d sl ce=some (.ok (.int n) c1):=by simp only[lL,au,h,look,qo,g,and_self,if_true,map_some]
end
end VS
namespace L2
open PySem.W
section
variable {R:Result->Shared->Prop} {it l:Addr} {items:Array Value} {parts:Nat->List Value}
abbrev fw(xs:List Value)(c:Nat):Obj:={ cls:=.type "list",data:=.seq xs.toArray c }
def ic(parts:Nat->List Value):Nat->Nat->List Value
 | _,0=>[]
 | i,k+1=>parts i++ic parts (i+1) k
theorem G6(hA:A.handled=none)(hSi:S≠it)(hli:l≠it)(hlS:l≠S):∀(k i:Nat) (s:Shared) (T:Addr) (tot:List Value) (c cT:Nat),items.size=i+k->s.heap.IsListIter it l i->s.heap.IsList l items->s.heap.get? S=some (fw [.ref T] c)->s.heap.get? T=some (fw tot cT)->T≠it->T≠S ->
  (∀j,i<=j->j<items.size->∃b cb,items[j]?=some (.ref b)/\b≠it/\b≠S/\s.heap.get? b=some (fw (parts j) cb))->tot.length+(ic parts i k).length<=sizeLine ->
  (∀h' T' c',(∀b o,b≠it->b≠S->s.heap.get? b=some o->h'.get? b=some o)->h'.get? T'=some (fw (tot++ic parts i k) c')->((k=0/\T'=T)\/s.heap.objs.size<=T')->R (.ok (.ret (.ref T'))) { s with heap:=h' }) ->
  codeAny (model prog w) A (.builtin "sum.loop" ⟨[.ref it,.ref S,rawInt 2,rawInt 0],[]⟩) R s:=by
 intro k
 induction k with
 | zero =>
  intro i s T tot c cT hk hI hL hS hT hTi hTS hp hz hR;obtain⟨hh,g,d,tk,os⟩:=s;refine codeAny_builtin entry_sum_loop ?_;unfold Builtin.«sum.loop»;dsimp only[rawInt];have hq:∀A':Around,wpAny (model prog w) A' (seqItems? (.ref S)) (fun r s'=>r=some #[.ref T]/\s'=(⟨hh,g,d,tk,os⟩:Shared)) (fun _ _=>False) ⟨hh,g,d,tk,os⟩:=fun A'=>by
   unfold seqItems?
   repeat (any_goals (first|assumption|with_reducible refine wpAny_loadPart_at hS ?_|wp_step))
   all_goals (first|exact⟨rfl,rfl⟩|skip)
  refine wpAny_bind (wpAny_mono (hq _) (fun r s' ⟨e1,e2⟩=>?_) fun _ _ z=>z.elim);subst e1 e2;dsimp only[getD_some];have hn:items[i]?=none:=by simp;omega
  refine wpAny_bind (wpAny_tryCatch (wpAny_pyNext_list_end (show(A.under _).handled=none from hA) hI hL hn fun h' eb=>?_));refine wpAny_pure ?_;refine hR h' T cT (fun b o h1 h2 e=>eb b o h1 e) ?_ (.inl ⟨rfl,rfl⟩);simp only[ic,append_nil];exact eb T _ hTi hT
 | succ k ih =>
  intro i s T tot c cT hk hI hL hS hT hTi hTS hp hz hR;obtain⟨hh,g,d,tk,os⟩:=s;refine codeAny_builtin entry_sum_loop ?_;unfold Builtin.«sum.loop»;dsimp only[rawInt];have hq:∀A':Around,wpAny (model prog w) A' (seqItems? (.ref S)) (fun r s'=>r=some #[.ref T]/\s'=(⟨hh,g,d,tk,os⟩:Shared)) (fun _ _=>False) ⟨hh,g,d,tk,os⟩:=fun A'=>by
   unfold seqItems?
   repeat (any_goals (first|assumption|with_reducible refine wpAny_loadPart_at hS ?_|wp_step))
   all_goals (first|exact⟨rfl,rfl⟩|skip)
  refine wpAny_bind (wpAny_mono (hq _) (fun r s' ⟨e1,e2⟩=>?_) fun _ _ z=>z.elim);subst e1 e2;dsimp only[getD_some];obtain⟨b,cb,hb,hbi,hbS,eb⟩:=hp i (le_refl _) (by omega);refine wpAny_bind (wpAny_tryCatch (wpAny_pyNext_list_item hI hL hb fun h1 hI1 sb=>?_));have eT1:h1.get? T=some (fw tot cT):=(sb.2 T hTi).trans hT;have eb1:h1.get? b=some (fw (parts i) cb):=(sb.2 b hbi).trans eb;have eS1:h1.get? S=some (fw [.ref T] c):=(sb.2 S hSi).trans hS;have hz':tot.length+(parts i).length+(ic parts (i+1) k).length<=sizeLine:=by simp only[ic,length_append] at hz;omega
  refine wpAny_bind (wpAny_attempt (wpAny_holding (add_list eT1 eb1 ?_ (by rw[size_toArray,size_toArray];omega))));have ea:tot.toArray++(parts i).toArray=(tot++parts i).toArray:=by simp
  rw[ea];have hSlt:S<h1.objs.size:=Heap.lt_size eS1;have hilt:it<h1.objs.size:=by obtain⟨o,q,_⟩:=id hI1;exact Heap.lt_size q
  have eS2:(h1.push (fw (tot++parts i) 0)).get? S=some (fw [.ref T] c):=Heap.get?_push_of_some _ eS1;refine wpAny_bind (wpAny_updateSeq (s:=⟨h1.push (fw (tot++parts i) 0),g,d,tk,os⟩) (f:=fun _=>#[.ref h1.objs.size]) eS2 rfl ?_ (by show 1<=sizeLine;decide) (by show 1<=sizeLine+1;decide));refine wpAny_bind (wpAny_letGo ?_);have eS3:=Heap.get?_update_self (Obj.mapSeq fun _=>#[.ref h1.objs.size]) eS2 rfl;refine wpAny_bind (wpAny_updateSeq (f:=fun _=>#[.ref h1.objs.size]) eS3 rfl ?_ (by show 1<=sizeLine;decide) (by show 1<=sizeLine+1;decide));have eS4:=Heap.get?_update_self (Obj.mapSeq fun _=>#[.ref h1.objs.size]) eS3 rfl;have keep:∀x o,x≠S->(h1.push (fw (tot++parts i) 0)).get? x=some o->(((h1.push (fw (tot++parts i) 0)).update S (Obj.mapSeq fun _=>#[.ref h1.objs.size])).update S (Obj.mapSeq fun _=>#[.ref h1.objs.size])).get? x=some o:=fun x o hx e=>(Heap.get?_update_ne _ _ _ _ hx).trans ((Heap.get?_update_ne _ _ _ _ hx).trans e);refine wpAny_pure (And.intro (Code.quiet_builtin _ (by decide +kernel)) ?_);have hNS:h1.objs.size≠S:=Ne.symm (ne_of_lt hSlt);have hNi:h1.objs.size≠it:=Ne.symm (ne_of_lt hilt);refine ih (i+1) _ h1.objs.size (tot++parts i) _ 0 (by omega) (hI1.at fun o q=>keep it o (Ne.symm hSi) (Heap.get?_push_of_some _ q)) ?_ eS4 (keep _ _ hNS (Heap.get?_push_size _ rfl)) hNi hNS (fun j h2 h3=>?_) (by rw[length_append];omega) fun h' T' c' hk' hT' hor=>?_
  ·obtain⟨o,q1,q2⟩:=hL;exact⟨o,keep l o hlS (Heap.get?_push_of_some _ ((sb.2 l hli).trans q1)),q2⟩
  ·obtain⟨b',cb',q1,q2,q3,q4⟩:=hp j (by omega) h3;exact⟨b',cb',q1,q2,q3,keep b' _ q3 (Heap.get?_push_of_some _ ((sb.2 b' q2).trans q4))⟩
  ·refine hR h' T' c' (fun x o h2 h3 e=>hk' x o h2 h3 (keep x o h3 (Heap.get?_push_of_some _ ((sb.2 x h2).trans e)))) (by simp only[ic];rw[<- append_assoc];exact hT') (.inr ?_);have hs1:h1.objs.size=hh.objs.size:=sb.1;rcases hor with ⟨_,rfl⟩|hor
   ·rw[hs1];exact le_refl _
   ·simp only[Heap.update,Heap.push,size_modify,size_push] at hor;show hh.objs.size<=T';omega
theorem sT:∀{xs ys:List V} {us vs:List Value},Vals xs us->Vals ys vs->Vals (xs++ys) (us++vs)
 | _,_,_,_,.nil,t=>t
 | _,_,_,_,.cons r t,t'=>.cons r (sT t t')
theorem yE:∀(yss:List (List V)) (i:Nat),(∀j ys,yss[j]?=some ys->Vals ys (parts (i+j)))->Vals yss.flatten (ic parts i yss.length)
 | [],_,_=>.nil
 | ys::yss,i,h=>by
  refine sT (h 0 ys rfl) (yE yss (i+1) fun j zs e=>?_);have:=h (j+1) zs (by simpa using e);rwa [show i+(j+1)=i+1+j by omega] at this
theorem IL:isSubtype (.type "list") (.type "bytes")=pure false:=by rw[isSubtype_type];kernel_rfl
theorem Jc:isSubtype (.type "list") (.type "bytearray")=pure false:=by rw[isSubtype_type];kernel_rfl
theorem G5(a b:Value):argsOk "sum" ⟨[a,b],[]⟩:=by unfold argsOk;kernel_rfl
theorem G4{Q:Value->Shared->Prop}{b:Addr}{tot:List Value}{cT:Nat}{items:List Value}{ca:Nat}(hA:A.handled=none)(ha:s.heap.get? a=some (fw items ca))(hb:s.heap.get? b=some (fw tot cT))(hp:∀j,j<items.length->∃c cb,items[j]?=some (.ref c)/\s.heap.get? c=some (fw (parts j) cb))(hz:tot.length+(ic parts 0 items.length).length<=sizeLine)(hn:items≠[])(hQ:∀h' T' c',(∀b o,s.heap.get? b=some o->h'.get? b=some o)->h'.get? T'=some (fw (tot++ic parts 0 items.length) c')->s.heap.objs.size<=T'->Q (.ref T') { s with heap:=h' }) :
  wpAny (model prog w) A (call (.builtin "sum") [.ref a,.ref b]) Q E s:=by
 refine call_function_tree F.kind_sum F.plain_sum F.entry_sum (G5 _ _) ?_;unfold Builtin.«sum»;simp only[length_cons,length_nil];rw[if_neg (by decide)];refine wpAny_bind (wpAny_of_eq (show Builtin.Builtins.bindParams "sum" ["start"] 0 ⟨[.ref b],[]⟩=pure [some (.ref b)] from rfl) ?_);have hl:s.heap.IsList a items.toArray:=⟨_,ha,rfl,ca,rfl⟩
 have hla:=Heap.lt_size ha;have hlb:=Heap.lt_size hb;refine wpAny_bind (wpAny_pyIter_list hl ?_);refine wpAny_bind (wpAny_pure ?_);simp only[forIn_cons,forIn_nil];have tb:({ s with heap:=s.heap.push { cls:=.type "list_iterator",data:=.fields #[.ref a,.int 0 0] } }:Shared).TypeIs (.ref b) "list" := ⟨_,Heap.get?_push_of_some _ hb,rfl⟩
 refine wpAny_bind (wpAny_bind (wpAny_bind (wpAny_isInstance (T := "list") (b:=false) tb sub_list_str ?_)));simp only[false_eq_true,if_false];refine wpAny_pure (wpAny_bind (wpAny_bind (wpAny_isInstance (T := "list") (b:=false) tb IL ?_)));simp only[false_eq_true,if_false];refine wpAny_pure (wpAny_bind (wpAny_bind (wpAny_isInstance (T := "list") (b:=false) tb Jc ?_)));simp only[false_eq_true,if_false];refine wpAny_pure (wpAny_pure ?_);refine wpAny_bind (wpAny_newList ?_ (by show 1<=sizeLine;decide));have hsz:(s.heap.push { cls:=.type "list_iterator",data:=.fields #[.ref a,.int 0 0] }).objs.size=s.heap.objs.size+1:=by simp only[Heap.push,size_push]
 have two:∀x o,s.heap.get? x=some o->((s.heap.push { cls:=.type "list_iterator",data:=.fields #[.ref a,.int 0 0] }).push { cls:=.type "list",data:=.seq [Value.ref b].toArray }).get? x=some o:=fun x o e=>Heap.get?_push_of_some _ (Heap.get?_push_of_some _ e);refine wpAny_pure ⟨plainId_quiet F.plain_sum_loop _,G6 (it:=s.heap.objs.size) (l:=a) (S:=(s.heap.push { cls:=.type "list_iterator",data:=.fields #[.ref a,.int 0 0] }).objs.size) (items:=items.toArray) (parts:=parts) hA (hsz▸ne_of_gt (lt_succ_self _)) (ne_of_lt hla) (hsz▸ne_of_lt (lt_succ_of_lt hla)) items.length 0 _ b tot 0 cT (by simp)
  ⟨_,Heap.get?_push_of_some _ (Heap.get?_push_size _ rfl),rfl,rfl⟩ ⟨_,two _ _ ha,rfl,ca,rfl⟩ (Heap.get?_push_size _ rfl) (two _ _ hb) (ne_of_lt hlb) (hsz▸ne_of_lt (lt_succ_of_lt hlb)) (fun j _ h2=>?_) hz fun h' T' c' kp e hor=>?_⟩
 ·obtain⟨c,cb,q1,q2⟩:=hp j (by simpa using h2);have:=Heap.lt_size q2;exact⟨c,cb,by simpa using q1,ne_of_lt this,hsz▸ne_of_lt (lt_succ_of_lt this),two _ _ q2⟩
 ·refine hQ h' T' c' (fun x o q=>?_) e ?_
  ·have:=Heap.lt_size q;exact kp x o (ne_of_lt this) (hsz▸ne_of_lt (lt_succ_of_lt this)) (two _ _ q)
  ·rcases hor with ⟨h1,_⟩|hor
   ·exact absurd (eq_nil_of_length_eq_zero h1) hn
   ·simp only[Heap.push,size_push] at hor;exact le_trans (le_trans (le_succ _) (le_succ _)) hor
end
def uY:List V->Hp->VK->Prop:=fun xs H Q=>∃(a b:Addr) (ps st:List V) (yss:List (List V)),xs=[.ref a,.ref b]/\Rd H a (.lst ps)/\Rd H b (.lst st)/\ps.length=yss.length/\(∀(j:Nat) (ys:List V),yss[j]?=some ys->∃c,ps[j]?=some (.ref c)/\Rd H c (.lst ys))/\ps≠[] /\
  (st++yss.flatten).length<=sizeLine/\∀l,H l=none->Q (.ref l) (upd H l (.lst (st++yss.flatten)))
theorem xH:∀{xs:List V} {us:List Value},Vals xs us->∀(j:Nat) (c:Addr),xs[j]?=some (.ref c)->us[j]?=some (.ref c)
 | _,_,.cons r _,0,c,e=>by
  simp only[getElem?_cons_zero,Option.some.injEq] at e;subst e;cases r;rfl
 | _,_,.cons _ t,j+1,c,e=>by
  have:=xH t j c (by simpa using e);simpa using this
theorem G0(hc:X.calm=true:=by rfl):aO X (.builtin "sum") uY:=by
 intro pins s σ H xs us Q I r h;obtain⟨a,b,ps,st,yss,rfl,ha,hb,hl,hp,hn,hz,q⟩:=h;obtain⟨u,v,rfl,r1,r2⟩:=nG r;cases r1;cases r2;obtain⟨za,its,na,ra,ea⟩:=ha.ok I.hok;obtain⟨zb,tot,nb,rb,eb⟩:=hb.ok I.hok;have hlen:=ra.length;have key:∀j:Nat,∃p:List Value,∀ys,yss[j]?=some ys->Vals ys p/\∃c cb,its[j]?=some (.ref c)/\s.heap.get? c=some (fw p cb):=fun j=>by
  cases e:yss[j]? with
  | none=>exact⟨[],fun ys h=>nomatch h⟩
  | some ys =>
   obtain⟨c,e1,e2⟩:=hp j ys e;obtain⟨_,p,n,rp,ep⟩:=e2.ok I.hok;exact⟨p,fun ys' h=>by cases h;exact⟨rp,c,n,xH ra j c e1,ep⟩⟩
 obtain⟨parts,hparts⟩:=Classical.skolem.mp key;have hv:Vals yss.flatten (ic parts 0 its.length):=by
  have:=yE (parts:=parts) yss 0 fun j ys e=>by rw[zero_add];exact(hparts j ys e).1
  rwa [show yss.length=its.length by omega] at this
 have hva:=sT rb hv;have hz2:tot.length+(ic parts 0 its.length).length<=sizeLine:=by have:=hva.length;rw[length_append (as:=tot)] at this;omega
 refine G4 (parts:=parts) (I.ok.hd hc) ea eb (fun j hj=>?_) hz2 (fun e=>?_) fun h' T' c' kp e hT=>?_
 ·obtain⟨ys,e⟩:∃ys,yss[j]?=some ys:=⟨yss[j]'(by omega),getElem?_eq_getElem _⟩
  exact(hparts j ys e).2
 ·subst e;exact hn (eq_nil_of_length_eq_zero hlen)
 ·exact⟨.ref T',_,I.laid (t':=s.toks) (a:=T') (o:=.lst (st++yss.flatten)) kp hT ⟨hz,_,c',hva,e⟩,rfl,q _ (I.hok.fresh hT)⟩
end L2
namespace VS
def nE(ce:Ce):List W->Option (List (List W))
 | []=>some []
 | w::ws=>match bP ce w,nE ce ws with
  | some xs,some yss=>some (xs::yss)
  | _,_=>none
def nB:List W->M W:=fun ws ce=>match ws with
 | [p,b]=>match bP ce p,bP ce b with
  | some ps,some st=>match nE ce ps with
   | some yss=>if ps.isEmpty then none else aQ (st++yss.flatten) ce
   | none=>none
  | _,_=>none
 | _=>none
section
variable {E:XK}
theorem xG{F:Hp}{as:List Addr}{H:Hp}{ce:Ce}(S:aw G F as H ce):∀{ps:List W} {vs:List V} {yss:List (List W)},ag F as ps vs->nE ce ps=some yss->∃uss:List (List V),vs.length=uss.length/\(∀(j:Nat) (ys:List V),uss[j]?=some ys->∃c,vs[j]?=some (.ref c)/\Rd H c (.lst ys))/\ag F as yss.flatten uss.flatten
 | [],vs,yss,r,e=>by
  simp only[ag] at r;simp only[nE,Option.some.injEq] at e;subst r e;exact⟨[],rfl,fun j ys h=>by simp at h,ag.nil⟩
 | w::ws,vs,yss,r,e=>by
  simp only[ag] at r;obtain⟨v,vs',rfl,h,t⟩:=r;simp only[nE] at e;split at e
  ·rename_i xs yss' e1 e2;cases e;obtain⟨a,us,rfl,h1,h2⟩:=g7 S h e1;obtain⟨uss,q1,q2,q3⟩:=xG S t e2;refine⟨us::uss,by simp[q1],fun j ys q=>?_,by simpa using h2.append q3⟩;cases j with
   | zero=>simp only[getElem?_cons_zero,Option.some.injEq] at q;subst q;exact⟨a,rfl,h1⟩
   | succ j=>simpa using q2 j ys (by simpa using q)
  ·cases e
theorem By:Bi G E uY nB:=by
 intro F as H σ sl ce ws vs Q S rs P;unfold nB at P;split at P
 ·rename_i p b;obtain⟨v,u,rfl,r1,r2⟩:=wR rs;split at P
  ·rename_i ps st e1 e2;split at P
   ·rename_i yss e3;split at P
    ·exact P.elim
    ·rename_i hne;obtain⟨a,vs1,rfl,h1,q1⟩:=g7 S.st r1 e1;obtain⟨b,vs2,rfl,h2,q2⟩:=g7 S.st r2 e2;obtain⟨uss,t1,t2,t3⟩:=xG S.st q1 e3;obtain⟨z1,z2⟩:=sg S (q2.append t3) P;refine⟨a,b,vs1,vs2,uss,rfl,h1,h2,t1,t2,fun z=>hne ?_,?_,z2⟩
     ·have:=q1.length;rw[z] at this;cases ps with
      | nil=>rfl
      | cons _ _=>simp at this
     ·rw[(q2.append t3).length];exact z1
   ·exact P.elim
  ·exact P.elim
 ·exact P.elim
end
end VS
namespace L2
end L2
namespace VS
section
variable {E:XK}
end
end VS
variable {fa:Addr}
namespace K17
def cw:iW:=[("StoneError",true,["StoneError"]),("NoBoard",true,["NoBoard", "StoneError"]),("NoStand",true,["NoStand", "StoneError"]),("NoLay",true,["NoLay", "StoneError"]),("NoBreath",true,["NoBreath", "StoneError"]),("Again",false,["Again", "StoneError"]),("Over",true,["Over", "StoneError"]),("NoBack",true,["NoBack", "StoneError"]),("TooMuch",true,["TooMuch", "StoneError"]),("NoText",false,["NoText", "StoneError"]),("NoRow",true,["NoRow", "StoneError"]),("NoPoint",true,["NoPoint", "StoneError"])]
def d_x(fu:Nat):List W->M W:=bJ finC 1
 (aY (kI (aT i_ (ah (aa 0) (ah (dC (.ty "int")) ai))) (uR (aT i_ (ah (aa 0) (ah (dC (.ty "bool")) ai))))))
def d_k(fu:Nat):List W->M W:=bJ finC 1
 (aY (aJ gB (dC (.int 3)) (aa 0)))
def zg(fu:Nat):DS :=
 (bw (gW (dB (aE (kb true) (aa 6) (aa 3))) (dB (aE (bo false) (aE aB (aa 1) (aa 6)) (aE aB (aa 1) (aa 2))))) (aq (hX (aa 3) (aa 6) (dC (.bl true)))
 (cG (cO cM (aa 4) (ah (aa 6) ai)))) bH)
def zf(fu:Nat):DS :=
 (aq (aP 5 (nk nj (aa 4)))
 (cf (g_ (aE aB (aa 0) (aa 5))) (gN 6) (zg fu)))
def d_y(fu:Nat):List W->M W:=bJ finO 7
 (aq (aP 3 (nN (aa 2) (dC (.bl true))))
 (aq (aP 4 (dZ (ah (aa 2) ai)))
 (aq (ik (jf (aa 4)) (zf fu) fu)
 (aY (aT (eO eI) (ah (aa 3) ai))))))
def y6(fu:Nat):DS :=
 (hX (aa 2) (aa 6) (dC (.bl true)))
def yZ(fu:Nat):DS :=
 (bw (dB (aE (kb true) (aa 4) (aa 2))) (aq (aP 5 (bA 3 (cY (d_y fu)) (ah (aa 0) (ah (aa 1) (ah (aa 4) ai)))))
 (aq (cG (cO cM (aa 3) (ah (aa 5) ai)))
 (cf (dG (aa 5)) (gN 6) (y6 fu)))) bH)
def d_ba(fu:Nat):List W->M W:=bJ finO 7
 (aq (aP 2 jO)
 (aq (aP 3 (dZ ai))
 (aq (cf (fA (ah (aT bQ (ah (aa 0) ai)) ai)) (gN 4) (yZ fu))
 (aY (aa 3)))))
def d_v(fu:Nat):List W->M W:=bJ finC 2
 (aq (bw (jd (gD (dB (aT i_ (ah (aa 1) (ah (dC (.ty "tuple")) ai))))) (dB (aE (bo true) (aT bQ (ah (aa 1) ai)) (aT bQ (ah (aa 0) ai))))) (aY (dC (.bl false))) bH)
 (aY (aT lN (ah (cK aQ [] (g_ (aa 1)) cZ (gy (kI (bA 1 (d_x fu) (ah (aa 0) ai)) (nO (fun _=>j6) (fun _=>j6) (dC (.int 0)) (aa 0) (dC (.int 2)))))) ai))))
def d_ea(fu:Nat):List W->M W:=bJ finO 3
 (aY (bA 3 (d_y fu) (ah (aa 0) (ah (aa 1) (ah (aa 2) ai)))))
def d_ga(fu:Nat):List W->M W:=bJ finC 2
 (aY (cK aQ [1] (dG (bA 2 (cY (d_ba fu)) (ah (aa 0) (ah (aa 1) ai)))) (dB (aE (bo true) (aE aB (aa 1) (aE aB (aa 0) (dC (.int 0)))) (dC (.int 0)))) (aa 0)))
def zN(fu:Nat):DS :=
 (hX (aa 2) (aa 4) (dC (.bl true)))
def zM(fu:Nat):DS :=
 (cf (g_ (aE aB (aa 0) (aa 3))) (gN 4) (zN fu))
def d_c(fu:Nat):List W->M W:=bJ finO 5
 (aq (aP 2 jO)
 (aq (cf (dG (aa 1)) (gN 3) (zM fu))
 (aY (aT (eO eI) (ah (aa 2) ai)))))
def d_ca(fu:Nat):List W->M W:=bJ finO 3
 (aY (cK eI [1] (dG (bA 2 (cY (d_c fu)) (ah (aa 0) (ah (aa 2) ai)))) (dB (aE (bo false) (aE aB (aa 1) (aa 0)) (dC (.int 0)))) (aa 0)))
def d_w(fu:Nat):List W->M W:=bJ finC 2
 (aY (aT lN (ah (cK aQ [0,1] (dG (bA 2 (d_ga fu) (ah (aa 0) (ah (aa 1) ai)))) cZ (gy (aJ iC (aT bQ (ah (bA 3 (cY (d_ca fu)) (ah (aa 1) (ah (aa 2) (ah (aa 0) ai)))) ai)) (dC (.int 0))))) ai)))
def yD(fu:Nat):DS :=
 (gP (aa 2) (jk (aa 3) (aa 4)))
def d_da(fu:Nat):List W->M W:=bJ finC 5
 (aq (aP 3 (aT (gS eI) (ah (aa 0) ai)))
 (aq (cf (dG (aa 1)) (gN 4) (yD fu))
 (aY (aT fD (ah (aa 3) ai)))))
def zI(fu:Nat):DS :=
 (bw (gW (dB (aE (bo false) (aE aB (aa 1) (aE aB (aa 4) (dC (.int 0)))) (aa 2))) (gD (jf (bA 3 (cY (d_ca fu)) (ah (aa 0) (ah (aa 1) (ah (aa 4) ai))))))) (cG (cO ni (aa 3) (ah (aa 4) ai))) bH)
def d_p(fu:Nat):List W->M W:=bJ finO 5
 (aq (aP 3 (dZ ai))
 (aq (cf (dG (bA 2 (d_ga fu) (ah (aa 0) (ah (aa 1) ai)))) (gN 4) (zI fu))
 (aY (aT (eO eI) (ah (aa 3) ai)))))
def d_fa(fu:Nat):List W->M W:=bJ finC 7
 (aq (bw (dB (aE (bo true) (aE aB (aa 1) (aa 3)) (dC (.int 0)))) (gE "NoLay" [3]) bH)
 (aq (aP 4 (bA 3 (d_da fu) (ah (aa 1) (ah (c6 (ah (aa 3) ai)) (ah (aa 2) ai)))))
 (aq (aP 5 (bA 3 (cY (d_p fu)) (ah (aa 0) (ah (aa 4) (ah (bA 1 (d_k fu) (ah (aa 2) ai)) ai)))))
 (aq (aP 6 (bA 3 (d_da fu) (ah (aa 4) (ah (aa 5) (ah (dC (.int 0)) ai)))))
 (aq (bw (gD (jf (bA 3 (cY (d_ca fu)) (ah (aa 0) (ah (aa 6) (ah (bA 3 (cY (d_ea fu)) (ah (aa 0) (ah (aa 6) (ah (aa 3) ai)))) ai)))))) (gE "NoBreath" [3]) bH)
 (aY (eo (ah (aa 6) (ah (aa 5) ai)))))))))
def zP(fu:Nat):DS :=
 (aq (aP 3 (aJ bV (aJ c7 (aJ c7 (aJ fk (aa 3) (aa 3)) (aJ fk (dC (.int 48271)) (aa 3))) (aa 4)) (dC (.int 2147483647))))
 (cG (cO cM (aa 2) (ah (aa 3) ai))))
def d_j(fu:Nat):List W->M W:=bJ finO 5
 (aq (aP 2 (dZ ai))
 (aq (aP 3 (aJ c7 (aJ bV (aa 0) (dC (.int 2147483647))) (dC (.int 48271))))
 (aq (cf (fA (ah (aJ c7 (aa 1) (dC (.int 1))) ai)) (gN 4) (zP fu))
 (aY (eV eI (aa 2) (dP (dC (.int 1))) ft)))))
def zO(fu:Nat):DS :=
 (aq (cG (cO cM (aE aB (aa 2) (aa 3)) (ah (aa 4) ai)))
 (cG (cO cM (aE aB (aa 2) (aa 4)) (ah (aa 3) ai))))
def d_h(fu:Nat):List W->M W:=bJ finC 5
 (aq (aP 2 (cK aQ [] (fA (ah (aa 0) ai)) cZ (dZ ai)))
 (aq (cf (dG (aa 1)) (gT 2 (jo (gN 3) (jo (gN 4) nv))) (zO fu))
 (aY (aT fD (ah (cK aQ [] (dG (aa 2)) cZ (aT fD (ah (aT (eO aQ) (ah (aa 0) ai)) ai))) ai)))))
def zH(fu:Nat):DS :=
 (bw (dB (aJ lF (aJ bV (aE aB (aa 5) (aJ c7 (aJ fk (aa 6) (aa 2)) (aa 7))) (dC (.int 5))) (aJ bV (aE aB (aa 0) (dC (.int 1))) (dC (.int 4))))) (cG (cO cM (aa 3) (ah (eo (ah (aa 7) (ah (aa 6) ai))) ai))) bH)
def zG(fu:Nat):DS :=
 (cf (fA (ah (aa 6) ai)) (gN 7) (zH fu))
def d_l(fu:Nat):List W->M W:=bJ kG 8
 (aq (bw (dB (aJ fj (aJ bV (aE aB (aa 0) (dC (.int 1))) (dC (.int 4))) (dC (.int 0)))) (aq (aP 1 (aJ c7 (dC (.int 1)) (aJ bV (aE aB (aa 0) (dC (.int 0))) (dC (.int 4)))))
 (aq (aP 2 (aJ fk (aa 1) (aJ c7 (dC (.int 1)) (aJ bV (aE aB (aa 0) (dC (.int 2))) (dC (.int 4))))))
 (aq (bw (dB (aJ fj (aJ bV (aJ lQ (aE aB (aa 0) (dC (.int 2))) (dC (.int 4))) (dC (.int 9))) (dC (.int 0)))) (aq (aP 1 (aJ c7 (dC (.int 3)) (aJ bV (aE aB (aa 0) (dC (.int 0))) (dC (.int 4)))))
 (aP 2 (aJ fk (dC (.int 6)) (aa 1)))) bH)
 (aq (aP 3 (cK eI [1] (fA (ah (aJ gB (aa 2) (aa 1)) ai)) cZ (eo (ah (aa 0) (ah (aJ c7 (aa 0) (aa 1)) ai)))))
 (aq (aP 4 (cK aQ [1] (fA (ah (aJ gB (aa 2) (dC (.int 1))) ai)) (dB (aJ iC (aJ bV (aJ c7 (aa 0) (dC (.int 1))) (aa 1)) (dC (.int 0)))) (aa 0)))
 (aY (eo (ah (aa 2) (ah (fN aQ (aa 3) (cK aQ [] (dG (aa 4)) cZ (eo (ah (aa 0) (ah (aJ c7 (aa 0) (dC (.int 1))) ai))))) ai))))))))) bH)
 (aq (aP 2 (aJ c7 (dC (.int 1)) (aJ bV (aE aB (aa 0) (dC (.int 0))) (aE aB (c6 (ah (dC (.int 0)) (ah (dC (.int 7)) (ah (dC (.int 9)) (ah (dC (.int 5)) ai))))) (aJ bV (aE aB (aa 0) (dC (.int 1))) (dC (.int 4)))))))
 (aq (aP 3 (cK eI [] (fA (ah (aJ gB (aa 2) (dC (.int 1))) ai)) cZ (eo (ah (aa 0) (ah (aJ c7 (aa 0) (dC (.int 1))) ai)))))
 (aq (bw (gW (dB (aJ fj (aJ bV (aE aB (aa 0) (dC (.int 1))) (dC (.int 4))) (dC (.int 1)))) (gW (dB (aJ iC (aa 2) (dC (.int 2)))) (dB (aJ fj (aJ bV (aE aB (aa 0) (dC (.int 2))) (dC (.int 2))) (dC (.int 0)))))) (cG (cO cM (aa 3) (ah (eo (ah (dC (.int 0)) (ah (aJ gB (aa 2) (dC (.int 1))) ai))) ai))) bH)
 (aq (bw (dB (aJ iC (aJ bV (aE aB (aa 0) (dC (.int 1))) (dC (.int 4))) (dC (.int 1)))) (aq (aP 5 (bA 2 (cY (d_j fu)) (ah (aE aB (aa 0) (dC (.int 2))) (ah (aJ fk (aa 2) (aa 2)) ai))))
 (aq (aP 3 (dZ ai))
 (cf (fA (ah (aa 2) ai)) (gN 6) (zG fu)))) bH)
 (aY (eo (ah (aa 2) (ah (aa 3) ai)))))))))
def ze(fu:Nat):DS :=
 (bw (gW (dB (aJ fj (aE aB (aa 1) (aa 5)) (aE aB (aa 1) (aa 2)))) (dB (aE (kB true) (aa 5) (aa 3)))) (cG (cO cM (aa 3) (ah (aa 5) ai))) bH)
def zd(fu:Nat):DS :=
 (aq (cf (g_ (aE aB (aa 0) (aE aB (aa 3) (aa 4)))) (gN 5) (ze fu))
 (aP 4 (aJ c7 (aa 4) (dC (.int 1)))))
def d_z(fu:Nat):List W->M W:=bJ finO 6
 (aq (aP 3 (dZ (ah (aa 2) ai)))
 (aq (aP 4 (dC (.int 0)))
 (aq (ik (dB (aJ lF (aa 4) (aT bQ (ah (aa 3) ai)))) (zd fu) fu)
 (aY (aa 3)))))
def zL(fu:Nat):DS :=
 (bw (dB (aJ fj (aE aB (aa 1) (aa 5)) (dC (.int 0)))) (hX (aa 3) (aa 5) (dC (.bl true))) bH)
def zK(fu:Nat):DS :=
 (cf (g_ (aE aB (aa 0) (aa 4))) (gN 5) (zL fu))
def d_g(fu:Nat):List W->M W:=bJ finO 6
 (aq (aP 3 jO)
 (aq (cf (dG (aa 2)) (gN 4) (zK fu))
 (aY (aT (eO eI) (ah (aT (gS aQ) (ah (aa 3) ai)) ai)))))
def zF(fu:Nat):DS :=
 (gP (dC (.int 0)) (jk (aa 10) (aa 9)))
def zE(fu:Nat):DS :=
 (hX (aa 4) (aa 9) (dC (.bl true)))
def zD(fu:Nat):DS :=
 (hX (aa 5) (aa 9) (dC (.bl true)))
def zC(fu:Nat):DS :=
 (bw (dB (aJ fj (aE aB (aa 1) (aa 6)) (dC (.int 0)))) (hX (aa 5) (aa 6) (dC (.bl true))) (aq (aP 7 (bA 3 (cY (d_z fu)) (ah (aa 0) (ah (aa 1) (ah (aa 6) ai)))))
 (aq (aP 8 (bA 3 (d_g fu) (ah (aa 0) (ah (aa 1) (ah (aa 7) ai)))))
 (aq (cG (cO mZ (aa 8) (ah (aa 3) ai)))
 (bw (dB (aJ fj (aE aB (aa 1) (aa 6)) (aa 2))) (cf (dG (aa 8)) (gN 9) (zD fu)) (bw (dB (aE (bo false) (aa 8) (c6 ai))) (cf (dG (aa 7)) (gN 9) (zE fu)) bH))))))
def d_n(fu:Nat):List W->M W:=bJ finC 11
 (aq (bw (dB (aJ jH (aE aB (aa 1) (aa 3)) (dC (.int 0)))) (aY (dC (.str "lay"))) bH)
 (aq (aP 4 jO)
 (aq (aP 5 jO)
 (aq (cf (g_ (aE aB (aa 0) (aa 3))) (gN 6) (zC fu))
 (aq (bw (gW (dB (aJ fj (aT bQ (ah (aa 5) ai)) (dC (.int 0)))) (dB (aJ fj (aT bQ (ah (aa 4) ai)) (dC (.int 0))))) (aY (dC (.str "breath"))) bH)
 (aq (aP 10 (aT (gS eI) (ah (aa 1) ai)))
 (aq (cf (qh (aa 4)) (gN 9) (zF fu))
 (aq (gP (aa 2) (jk (aa 10) (aa 3)))
 (aY (eo (ah (aT fD (ah (aa 10) ai)) (ah (aT (eO aQ) (ah (aT (gS aQ) (ah (aa 4) ai)) ai)) ai))))))))))))
def zc(fu:Nat):DS :=
 (bw (dB (aE (bo false) (aE aB (aE aB (aa 2) (aa 7)) (dC (.int 0))) (aE aB (aa 6) (dC (.int 0))))) (bw (jd (dB (aE (bo false) (aa 1) (dC (.str "stones")))) (dB (aJ jH (aE aB (aE aB (aa 2) (aa 7)) (dC (.int 1))) (aa 5)))) (aY (aa 7)) bH) bH)
def d_aa(fu:Nat):List W->M W:=bJ finC 8
 (aq (gP (aE aB (aa 2) (dM iE (dC (.int 1)))) (gT 2 (jo (gN 4) (jo (gN 5) nv))))
 (aq (bw (dB (dM lP (aa 3))) (aY (eo (ah (aa 4) (ah (c6 ai) ai)))) bH)
 (aq (aP 6 (bA 4 (d_n fu) (ah (aa 0) (ah (aa 4) (ah (aa 5) (ah (aa 3) ai))))))
 (aq (bw (dB (aT i_ (ah (aa 6) (ah (dC (.ty "str")) ai)))) (aY (aa 6)) bH)
 (aq (cf (fA (ah (aT bQ (ah (aa 2) ai)) ai)) (gN 7) (zc fu))
 (aY (aa 6)))))))
def d_m(fu:Nat):List W->M W:=bJ finC 1
 (aY (aE aB (dA "Game" "past" (aa 0)) (dM iE (dC (.int 1)))))
def d_q(fu:Nat):List W->M W:=bJ finC 1
 (aq (bw (dB (aE (bo false) (eV aQ (dA "Game" "done" (aa 0)) (dP (dM iE (dC (.int 2)))) ft) (c6 (ah (dC .non) (ah (dC .non) ai))))) (aY (dC (.str "passed"))) bH)
 (aq (bw (dB (aJ uw (aT bQ (ah (dA "Game" "done" (aa 0)) ai)) (dC (.int 300)))) (aY (dC (.str "long"))) bH)
 (aY (dC .non))))
def d_e(fu:Nat):List W->M W:=bJ finC 2
 (aY (m_ (dB (aE (bo false) (aJ bV (aa 1) (dC (.int 2))) (dC (.int 0)))) (dA "Game" "first" (aa 0)) (bA 1 (d_k fu) (ah (dA "Game" "first" (aa 0)) ai))))
def d_s(fu:Nat):List W->M W:=bJ finC 1
 (aY (dI "Game" "hand_at" 2 (d_e fu) (aa 0) (ah (aT bQ (ah (dA "Game" "done" (aa 0)) ai)) ai)))
def d_a(fu:Nat):List W->M W:=bJ finC 2
 (aY (oA (aE (bo false) (dA "Game" "barring" (aa 0)) (dC (.str "stones"))) (aE (bo false) (dI "Game" "hand_at" 2 (d_e fu) (aa 0) (ah (aa 1) ai)) (bA 1 (d_k fu) (ah (dI "Game" "hand" 1 (d_s fu) (aa 0) ai) ai)))))
def zJ(fu:Nat):DS :=
 (bw (gW (dB (aE (bo false) (aE aB (dA "Game" "past" (aa 0)) (aa 2)) (aa 1))) (dB (dI "Game" "is_barring" 2 (d_a fu) (aa 0) (ah (aa 2) ai)))) (aY (aa 2)) bH)
def d_f(fu:Nat):List W->M W:=bJ finC 3
 (aq (cf (fA (ah (aT bQ (ah (dA "Game" "past" (aa 0)) ai)) ai)) (gN 2) (zJ fu))
 (aY (dC .non)))
def d_t(fu:Nat):List W->M W:=bJ finC 6
 (aq (bw (dB (dM fQ (dI "Game" "ended" 1 (d_q fu) (aa 0) ai))) (gE "Over" []) bH)
 (aq (aP 2 (dI "Game" "stand" 1 (d_m fu) (aa 0) ai))
 (aq (aP 3 (dC (.int 0)))
 (aq (bw (dB (dM fQ (aa 1))) (aq (aP 4 (bA 4 (d_fa fu) (ah (dA "Game" "joined" (aa 0)) (ah (aa 2) (ah (dI "Game" "hand" 1 (d_s fu) (aa 0) ai) (ah (aa 1) ai))))))
 (aq (aP 2 (aE aB (aa 4) (dC (.int 0))))
 (aq (aP 3 (aT bQ (ah (aE aB (aa 4) (dC (.int 1))) ai)))
 (aq (aP 5 (dI "Game" "came_at" 2 (d_f fu) (aa 0) (ah (aa 2) ai)))
 (bw (dB (dM fQ (aa 5))) (mJ "Again" "number" 5) bH))))) bH)
 (aq (cG (cO cM (dA "Game" "past" (aa 0)) (ah (aa 2) ai)))
 (aq (cG (cO cM (dA "Game" "done" (aa 0)) (ah (aa 1) ai)))
 (cG (cO cM (dA "Game" "takings" (aa 0)) (ah (aa 3) ai)))))))))
def d_r(fu:Nat):List W->M W:=bJ finC 6
 (aq (aP 2 (dC .non))
 (aq (aP 3 (dC (.int 7)))
 (aq (jI (dI "Game" "deed" 2 (d_t fu) (gy (aa 0)) (gy (ah (aa 1) ai))) (some 3) (kZ cw "StoneError") (uy 4 (aP 2 (aa 4))))
 (aq (bw (dB (dM lP (aa 2))) (aY (aE aB (c6 (ah (dC (.str "other")) (ah (dC (.str "done")) ai))) (aT fx (ah (dM lP (aa 3)) ai)))) bH)
 (aq (aP 5 (c6 (ah (fX aQ (ah (dC (.str "over")) ai) (aT fx (ah (eZ (fun ce w=>fK cw ce w "Over") (aa 2)) ai))) (ah (fX aQ (ah (dC (.str "lay")) ai) (aT fx (ah (eZ (fun ce w=>fK cw ce w "NoLay") (aa 2)) ai))) ai))))
 (aq (aP 5 (fN aQ (aa 5) (c6 (ah (fX aQ (ah (dC (.str "breath")) ai) (aT fx (ah (eZ (fun ce w=>fK cw ce w "NoBreath") (aa 2)) ai))) ai))))
 (aq (aP 5 (fN aQ (aa 5) (c6 (ah (fX aQ (ah (dC (.str "again")) ai) (aT fx (ah (eZ (fun ce w=>fK cw ce w "Again") (aa 2)) ai))) ai))))
 (aq (aP 5 (fN aQ (aa 5) (c6 (ah (fX aQ (ah (dC (.str "other")) ai) (aT fx (ah (eZ (fun ce w=>i8 cw ce w ["NoBack", "NoBoard", "NoPoint", "NoRow", "NoStand"]) (aa 2)) ai))) ai))))
 (aq (aP 5 (aT nB (ah (aa 5) (ah (fX aQ (ah (dC (.str "other")) ai) (aT fx (ah (eZ (fun ce w=>i8 cw ce w ["NoText", "TooMuch"]) (aa 2)) ai))) ai))))
 (aq (bw (gW (dB (aE (j7 false) (aa 5) (c6 (ah (dC (.str "again")) ai)))) (gD (dB (aT i_ (ah (lL "Again" "number" (aa 2)) (ah (dC (.ty "bool")) ai)))))) (aY (lL "Again" "number" (aa 2))) bH)
 (aq (bw (jd (dB (aJ jH (aT bQ (ah (aa 5) ai)) (dC (.int 1)))) (gD (dB (eZ (fun ce w=>m6 cw ce w) (aa 2))))) (aY (dC (.str "other"))) bH)
 (aY (aE aB (aa 5) (dC (.int 0)))))))))))))))
def d_d(fu:Nat):List W->M W:=bJ kG 5
 (aq (bw (gD (dB (bA 2 (d_v fu) (ah (aa 1) (ah (aa 3) ai))))) (gE "NoStand" []) bH)
 (aq (bw (gD (dB (bA 2 (d_w fu) (ah (aa 1) (ah (aa 3) ai))))) (gE "NoStand" []) bH)
 (aq (iG "Game" "joined" (aa 0) (aa 1))
 (aq (iG "Game" "barring" (aa 0) (aa 2))
 (aq (iG "Game" "first" (aa 0) (aa 4))
 (aq (iG "Game" "past" (aa 0) (dZ (ah (aa 3) ai)))
 (aq (iG "Game" "done" (aa 0) (dZ ai))
 (iG "Game" "takings" (aa 0) (dZ ai)))))))))
def tX(fu:Nat):DS :=
 (cG (dI "Game" "deed" 2 (d_t fu) (aa 4) (ah (aa 5) ai)))
def d_u(fu:Nat):List W->M W:=bJ kG 6
 (aq (aP 4 (oV "Game" 5 (d_d fu) (ah (aa 0) (ah (aa 1) (ah (aT fD (ah (cK aQ [] (g_ (aa 0)) cZ (dC (.int 0))) ai)) (ah (aa 2) ai))))))
 (aq (cf (dG (aa 3)) (gN 5) (tX fu))
 (aY (aa 4))))
def zS(fu:Nat):DS :=
 (aq (aP 8 (bA 4 (d_aa fu) (ah (aa 0) (ah (aa 1) (ah (aa 3) (ah (aa 7) ai))))))
 (bw (dB (aT i_ (ah (aa 8) (ah (dC (.ty "tuple")) ai)))) (aq (cG (cO cM (aa 6) (ah (aa 7) ai)))
 (bw (dB (aE (bo true) (bA 2 (d_r fu) (ah (bA 4 (d_u fu) (ah (aa 0) (ah (aa 1) (ah (aa 2) (ah (aa 4) ai))))) (ah (aa 7) ai))) (dC (.str "done")))) (aY (dC .non)) bH)) (bw (jd (dB (aE (bo true) (bA 2 (d_r fu) (ah (aa 5) (ah (aa 7) ai))) (aa 8))) (dB (aE (bo true) (dI "Game" "stand" 1 (d_m fu) (aa 5) ai) (aE aB (aE aB (aa 3) (dM iE (dC (.int 1)))) (dC (.int 0)))))) (aY (dC .non)) bH)))
def d_b(fu:Nat):List W->M W:=bJ finO 9
 (aq (aP 6 (dZ ai))
 (aq (cf (fA (ah (aT bQ (ah (aa 0) ai)) ai)) (gN 7) (zS fu))
 (aq (bw (jd (dB (aE (bo false) (aa 4) (c6 ai))) (dB (dM fQ (aE aB (aa 4) (dM iE (dC (.int 1))))))) (cG (cO cM (aa 6) (ah (dC .non) ai))) bH)
 (aY (aa 6)))))
def d_o(fu:Nat):List W->M W:=bJ finC 1
 (aY (aT (gS aQ) (ah (dA "Game" "done" (aa 0)) ai)))
def d_i(fu:Nat):List W->M W:=bJ finC 1
 (aY (aT (gS aQ) (ah (dA "Game" "past" (aa 0)) ai)))
def rQ(fu:Nat):DS :=
 (aq (aP 11 (bA 6 (cY (d_b fu)) (ah (aa 4) (ah (aa 5) (ah (aa 6) (ah (aa 7) (ah (aa 8) (ah (aa 9) ai))))))))
 (aq (bw (dB (dM lP (aa 11))) (aY (dC (.bl false))) bH)
 (bw (dB (aE (bo true) (aa 11) (c6 ai))) (aq (aP 12 (aE aB (aa 11) (aJ bV (aa 10) (aT bQ (ah (aa 11) ai)))))
 (aq (aP 13 (bA 4 (d_aa fu) (ah (aa 4) (ah (aa 5) (ah (aa 7) (ah (aa 12) ai))))))
 (aq (bw (dB (aE (bo true) (bA 2 (d_r fu) (ah (aa 9) (ah (aa 12) ai))) (dC (.str "done")))) (aY (dC (.bl false))) bH)
 (aq (cG (cO cM (aa 7) (ah (eo (ah (aE aB (aa 13) (dC (.int 0))) (ah (aJ gB (dC (.int 3)) (aE aB (aE aB (aa 7) (dM iE (dC (.int 1)))) (dC (.int 1)))) ai))) ai)))
 (cG (cO cM (aa 8) (ah (aa 12) ai))))))) bH)))
def d_law(fu:Nat):List W->M W:=bJ finC 14
 (aq (aP 1 (bA 2 (d_j fu) (ah (aE aB (fN aQ (aa 0) (c6 (ah (dC (.int 0)) ai))) (dC (.int 0))) (ah (dC (.int 50)) ai))))
 (aq (gP (aJ bV (aE aB (aa 1) (dC (.int 0))) (dC (.int 6))) (jk (aa 1) (dC (.int 0))))
 (aq (gP (bA 1 (lM (d_l fu)) (ah (fN aQ (c6 (ah (aE aB (aa 1) (dC (.int 0))) (ah (aJ c7 (dC (.int 1)) (aJ bV (aE aB (aa 1) (dC (.int 1))) (dC (.int 3)))) ai))) (eV aQ (aa 1) (dP (dC (.int 2))) ft)) ai)) (gT 2 (jo (gN 2) (jo (gN 3) nv))))
 (aq (aP 4 (bA 2 (d_h fu) (ah (aa 2) (ah (aa 3) ai))))
 (aq (aP 5 (aE aB (c6 (ah (dC (.str "stones")) (ah (dC (.str "turns")) ai))) (aJ bV (aE aB (aa 1) (dC (.int 3))) (dC (.int 2)))))
 (aq (aP 6 (aJ c7 (dC (.int 1)) (aJ bV (aE aB (aa 1) (dC (.int 5))) (dC (.int 2)))))
 (aq (aP 7 (dZ (ah (eo (ah (aT fD (ah (cK aQ [] (g_ (aa 4)) cZ (dC (.int 0))) ai)) (ah (aa 6) ai))) ai)))
 (aq (aP 8 (dZ ai))
 (aq (aP 9 (bA 4 (d_u fu) (ah (aa 4) (ah (aa 5) (ah (aa 6) (ah (c6 ai) ai))))))
 (aq (cf (dG (eV aQ (fN aQ (eV aQ (aa 0) (dP (dC (.int 1))) (dP (dC (.int 27)))) (eV aQ (aa 1) (dP (dC (.int 8))) ft)) ft (dP (aJ bV (aE aB (aa 1) (dC (.int 4))) (dC (.int 27)))))) (gN 10) (rQ fu))
 (aY (kI (aE (bo false) (dI "Game" "deeds" 1 (d_o fu) (aa 9) ai) (aa 8)) (aE (bo false) (dI "Game" "stands" 1 (d_i fu) (aa 9) ai) (cK aQ [] (dG (aa 7)) cZ (aE aB (aa 0) (dC (.int 0)))))))))))))))))
def top(i:Nat):Stmt:=PySem.Challenge.pw_stonebreath_k17_no_stand_again.main.body.getD i (.Pass ⟨0,0,0,0⟩)
def iF(s:Stmt)(j:Nat):Stmt:=match s with
 | .ClassDef _ _ _ b _ _ _ _ _ _ _=>b.getD j (.Pass ⟨0,0,0,0⟩)
 | _=>.Pass ⟨0,0,0,0⟩
abbrev tS:Stmt:=top 2
abbrev tW:Stmt:=top 3
abbrev tR:Stmt:=top 4
abbrev tq:Stmt:=top 5
abbrev p9:Stmt:=top 20
abbrev rX:Stmt:=top 21
abbrev oZ:Stmt:=top 22
abbrev pY:Stmt:=top 23
abbrev ui:Stmt:=top 24
abbrev p8:Stmt:=top 25
abbrev qY:Stmt:=top 27
abbrev sS:Stmt:=top 28
abbrev tV:Stmt:=top 29
abbrev um:Stmt:=top 34
abbrev oj:Stmt:=top 35
abbrev lu:Stmt:=top 36
abbrev tQ:Stmt:=top 37
abbrev ug:Stmt:=top 38
abbrev tU:Stmt:=top 39
abbrev tP:Stmt:=top 40
abbrev tM:Stmt:=top 42
abbrev qb:Stmt:=top 43
abbrev uc:Stmt:=top 44
abbrev kf:Stmt:=top 45
abbrev uh:Stmt:=iF (top 32) 0
abbrev tL:Stmt:=iF (top 32) 1
abbrev uf:Stmt:=iF (top 32) 2
abbrev ud:Stmt:=iF (top 32) 3
abbrev tT:Stmt:=iF (top 32) 5
abbrev tK:Stmt:=iF (top 32) 6
abbrev ue:Stmt:=iF (top 32) 7
abbrev uk:Stmt:=iF (top 32) 8
abbrev t_:Stmt:=iF (top 32) 9
abbrev tZ:Stmt:=iF (top 32) 12
theorem HW:ao ["thing"] ["thing"] (bb tS):=cp
theorem ID:ao ["hand"] ["hand"] (bb tW):=cp
theorem iS:ao ["board", "marks", "start", "found", "waiting", "point", "beside"] ["board", "marks", "start"] (bb tR):=cp
theorem eU:ao ["board", "marks", "met", "found", "start", "points", "point"] ["board", "marks"] (bb tq):=cp
theorem Ii:ao ["board", "thing"] ["board", "thing"] (bb p9):=cp
theorem Gd:ao ["board", "stand", "point"] ["board", "stand", "point"] (bb rX):=cp
theorem De:ao ["board", "stand"] ["board", "stand"] (bb oZ):=cp
theorem jX:ao ["board", "points", "found", "point", "beside"] ["board", "points"] (bb ui):=cp
theorem Hn:ao ["board", "stand", "row"] ["board", "stand", "row"] (bb pY):=cp
theorem Ih:ao ["board", "stand"] ["board", "stand"] (bb p8):=cp
theorem iU:ao ["stand", "points", "what", "changed", "point"] ["stand", "points", "what"] (bb sS):=cp
theorem lC:ao ["board", "stand", "hand", "found", "row"] ["board", "stand", "hand"] (bb tV):=cp
theorem gH:ao ["board", "stand", "hand", "point", "full", "taken", "behind"] ["board", "stand", "hand", "point"] (bb qY):=cp
theorem iT:ao ["_law_cell", "_law_many", "_law_found", "_law_number", "_law_k"] ["_law_cell", "_law_many"] (bb um):=cp
theorem jV:ao ["_law_many", "_law_lines_here", "_law_joined_here", "_law_one", "_law_other"] ["_law_many", "_law_lines_here"] (bb oj):=cp
theorem dE:ao ["_law_xs", "_law_wide", "_law_many", "_law_lines_here", "_law_beside", "_law_ys", "_law_one", "_law_other"] ["_law_xs"] (bb lu):=cp
theorem iR:ao ["_law_board", "_law_stand", "_law_point", "_law_found", "_law_at", "_law_other"] ["_law_board", "_law_stand", "_law_point"] (bb tQ):=cp
theorem jW:ao ["_law_board", "_law_stand", "_law_row_here", "_law_found", "_law_point", "_law_other"] ["_law_board", "_law_stand", "_law_row_here"] (bb ug):=cp
theorem eQ:ao ["_law_board", "_law_stand", "_law_hand", "_law_point", "_law_taken", "_law_breath", "_law_other", "_law_row_here", "_law_left", "_law_one", "_law_there"] ["_law_board", "_law_stand", "_law_hand", "_law_point"] (bb tU):=cp
theorem fG:ao ["_law_board", "_law_rule", "_law_moments", "_law_what", "_law_stand", "_law_hand", "_law_found", "_law_k"] ["_law_board", "_law_rule", "_law_moments", "_law_what"] (bb tP):=cp
theorem IC:ao ["self"] ["self"] (bb tT):=cp
theorem IB:ao ["self"] ["self"] (bb tZ):=cp
theorem IK:ao ["self", "moment"] ["self", "moment"] (bb ue):=cp
theorem Io:ao ["self"] ["self"] (bb tK):=cp
theorem Je:ao ["self", "moment"] ["self", "moment"] (bb ud):=cp
theorem oq:ao ["self", "behind", "moment"] ["self", "behind"] (bb uf):=cp
theorem gp:ao ["self", "what", "behind", "many", "told", "number"] ["self", "what"] (bb tL):=cp
theorem ee:ao ["_law_game", "_law_what", "_law_caught", "_law_told", "error", "_law_words"] ["_law_game", "_law_what"] (bb tM):=cp
theorem IZ:ao ["self", "board", "rule", "stand", "hand"] ["self", "board", "rule", "stand", "hand"] (bb uh):=cp
theorem lB:ao ["_law_board", "_law_rule", "_law_hand", "_law_deeds", "_law_game", "_law_what"] ["_law_board", "_law_rule", "_law_hand", "_law_deeds"] (bb qb):=cp
theorem jY:ao ["_law_board", "_law_rule", "_law_hand", "_law_moments", "_law_deeds", "_law_game", "_law_good", "_law_point", "_law_due_here"] ["_law_board", "_law_rule", "_law_hand", "_law_moments", "_law_deeds", "_law_game"] (bb uc):=cp
theorem IA:ao ["self"] ["self"] (bb t_):=cp
theorem IS:ao ["self"] ["self"] (bb uk):=cp
theorem bf:ao ["_law_script", "_law_xs", "_law_many", "_law_lines_here", "_law_board", "_law_rule", "_law_hand", "_law_moments", "_law_deeds", "_law_game", "_law_cell", "_law_good", "_law_what", "_law_due_here"] ["_law_script"] (bb kf):=cp
abbrev ub:Stmt:=iF (top 12) 0
theorem Jf:ao ["self", "number"] ["self", "number"] (bb ub):=cp
set_option genInjectivity false in
set_option genInjectivity false in
set_option genSizeOfSpec false in
set_option genInjectivity false in
structure qm where
 f_x:Addr
 d_x:FuncData
 f_k:Addr
 d_k:FuncData
 f_y:Addr
 d_y:FuncData
 f_ba:Addr
 d_ba:FuncData
 f_v:Addr
 d_v:FuncData
 f_ea:Addr
 d_ea:FuncData
 f_ga:Addr
 d_ga:FuncData
 f_ca:Addr
 d_ca:FuncData
 f_c:Addr
 d_c:FuncData
 f_w:Addr
 d_w:FuncData
 f_fa:Addr
 d_fa:FuncData
 f_da:Addr
 d_da:FuncData
 f_p:Addr
 d_p:FuncData
 f_j:Addr
 d_j:FuncData
 f_h:Addr
 d_h:FuncData
 f_l:Addr
 d_l:FuncData
 f_z:Addr
 d_z:FuncData
 f_g:Addr
 d_g:FuncData
 f_n:Addr
 d_n:FuncData
 f_aa:Addr
 d_aa:FuncData
 f_r:Addr
 d_r:FuncData
 f_u:Addr
 d_u:FuncData
 f_b:Addr
 d_b:FuncData
 f_law:Addr
 d_law:FuncData
 f_d:Addr
 d_d:FuncData
 f_t:Addr
 d_t:FuncData
 f_f:Addr
 d_f:FuncData
 f_a:Addr
 d_a:FuncData
 f_m:Addr
 d_m:FuncData
 f_s:Addr
 d_s:FuncData
 f_e:Addr
 d_e:FuncData
 f_i:Addr
 d_i:FuncData
 f_o:Addr
 d_o:FuncData
 f_q:Addr
 d_q:FuncData
 f_Again___init__:Addr
 d_Again___init__:FuncData
structure Txt (K:Frag) (mg:Str->Option Value) (A:qm):Prop where
 g_x:mg "is_whole" = some (.ref A.f_x)
 F_x:bO K "is_whole" "is_whole" tS A.f_x A.d_x
 b_x:Binds K A.d_x ["thing"] []
 g_k:mg "other_hand" = some (.ref A.f_k)
 F_k:bO K "other_hand" "other_hand" tW A.f_k A.d_k
 b_k:Binds K A.d_k ["hand"] []
 g_y:mg "patch_of" = some (.ref A.f_y)
 F_y:bO K "patch_of" "patch_of" tR A.f_y A.d_y
 b_y:Binds K A.d_y ["board", "marks", "start"] []
 g_ba:mg "patches" = some (.ref A.f_ba)
 F_ba:bO K "patches" "patches" tq A.f_ba A.d_ba
 b_ba:Binds K A.d_ba ["board", "marks"] []
 g_v:mg "is_stand" = some (.ref A.f_v)
 F_v:bO K "is_stand" "is_stand" p9 A.f_v A.d_v
 b_v:Binds K A.d_v ["board", "thing"] []
 g_ea:mg "patch" = some (.ref A.f_ea)
 F_ea:bO K "patch" "patch" rX A.f_ea A.d_ea
 b_ea:Binds K A.d_ea ["board", "stand", "point"] []
 g_ga:mg "rows" = some (.ref A.f_ga)
 F_ga:bO K "rows" "rows" oZ A.f_ga A.d_ga
 b_ga:Binds K A.d_ga ["board", "stand"] []
 g_ca:mg "breaths" = some (.ref A.f_ca)
 F_ca:bO K "breaths" "breaths" pY A.f_ca A.d_ca
 b_ca:Binds K A.d_ca ["board", "stand", "row"] []
 g_c:mg "points_beside" = some (.ref A.f_c)
 F_c:bO K "points_beside" "points_beside" ui A.f_c A.d_c
 b_c:Binds K A.d_c ["board", "points"] []
 g_w:mg "is_sound" = some (.ref A.f_w)
 F_w:bO K "is_sound" "is_sound" p8 A.f_w A.d_w
 b_w:Binds K A.d_w ["board", "stand"] []
 g_fa:mg "laid" = some (.ref A.f_fa)
 F_fa:bO K "laid" "laid" qY A.f_fa A.d_fa
 b_fa:Binds K A.d_fa ["board", "stand", "hand", "point"] []
 g_da:mg "filled" = some (.ref A.f_da)
 F_da:bO K "filled" "filled" sS A.f_da A.d_da
 b_da:Binds K A.d_da ["stand", "points", "what"] []
 g_p:mg "breathless" = some (.ref A.f_p)
 F_p:bO K "breathless" "breathless" tV A.f_p A.d_p
 b_p:Binds K A.d_p ["board", "stand", "hand"] []
 g_j:mg "_law_stream" = some (.ref A.f_j)
 F_j:bO K "_law_stream" "_law_stream" um A.f_j A.d_j
 b_j:Binds K A.d_j ["_law_cell", "_law_many"] []
 g_h:mg "_law_joined" = some (.ref A.f_h)
 F_h:bO K "_law_joined" "_law_joined" oj A.f_h A.d_h
 b_h:Binds K A.d_h ["_law_many", "_law_lines_here"] []
 g_l:mg "_law_lines" = some (.ref A.f_l)
 F_l:bO K "_law_lines" "_law_lines" lu A.f_l A.d_l
 b_l:Binds K A.d_l ["_law_xs"] []
 g_z:mg "_law_row" = some (.ref A.f_z)
 F_z:bO K "_law_row" "_law_row" tQ A.f_z A.d_z
 b_z:Binds K A.d_z ["_law_board", "_law_stand", "_law_point"] []
 g_g:mg "_law_breaths" = some (.ref A.f_g)
 F_g:bO K "_law_breaths" "_law_breaths" ug A.f_g A.d_g
 b_g:Binds K A.d_g ["_law_board", "_law_stand", "_law_row_here"] []
 g_n:mg "_law_tried" = some (.ref A.f_n)
 F_n:bO K "_law_tried" "_law_tried" tU A.f_n A.d_n
 b_n:Binds K A.d_n ["_law_board", "_law_stand", "_law_hand", "_law_point"] []
 g_aa:mg "_law_due" = some (.ref A.f_aa)
 F_aa:bO K "_law_due" "_law_due" tP A.f_aa A.d_aa
 b_aa:Binds K A.d_aa ["_law_board", "_law_rule", "_law_moments", "_law_what"] []
 g_r:mg "_law_said" = some (.ref A.f_r)
 F_r:bO K "_law_said" "_law_said" tM A.f_r A.d_r
 b_r:Binds K A.d_r ["_law_game", "_law_what"] []
 g_u:mg "_law_gone" = some (.ref A.f_u)
 F_u:bO K "_law_gone" "_law_gone" qb A.f_u A.d_u
 b_u:Binds K A.d_u ["_law_board", "_law_rule", "_law_hand", "_law_deeds"] []
 g_b:mg "_law_all_right" = some (.ref A.f_b)
 F_b:bO K "_law_all_right" "_law_all_right" uc A.f_b A.d_b
 b_b:Binds K A.d_b ["_law_board", "_law_rule", "_law_hand", "_law_moments", "_law_deeds", "_law_game"] []
 g_law:mg "law" = some (.ref A.f_law)
 F_law:bO K "law" "law" kf A.f_law A.d_law
 b_law:Binds K A.d_law ["_law_script"] []
 mt_d:L2.Meth K (clOf K "Game") "__init__" A.f_d
 F_d:bO K "__init__" "Game.__init__" uh A.f_d A.d_d
 b_d:Binds K A.d_d ["self", "board", "rule", "stand", "hand"] []
 mt_t:L2.Meth K (clOf K "Game") "deed" A.f_t
 F_t:bO K "deed" "Game.deed" tL A.f_t A.d_t
 b_t:Binds K A.d_t ["self", "what"] []
 mt_f:L2.Meth K (clOf K "Game") "came_at" A.f_f
 F_f:bO K "came_at" "Game.came_at" uf A.f_f A.d_f
 b_f:Binds K A.d_f ["self", "behind"] []
 mt_a:L2.Meth K (clOf K "Game") "is_barring" A.f_a
 F_a:bO K "is_barring" "Game.is_barring" ud A.f_a A.d_a
 b_a:Binds K A.d_a ["self", "moment"] []
 mt_m:L2.Meth K (clOf K "Game") "stand" A.f_m
 F_m:bO K "stand" "Game.stand" tT A.f_m A.d_m
 b_m:Binds K A.d_m ["self"] []
 mt_s:L2.Meth K (clOf K "Game") "hand" A.f_s
 F_s:bO K "hand" "Game.hand" tK A.f_s A.d_s
 b_s:Binds K A.d_s ["self"] []
 mt_e:L2.Meth K (clOf K "Game") "hand_at" A.f_e
 F_e:bO K "hand_at" "Game.hand_at" ue A.f_e A.d_e
 b_e:Binds K A.d_e ["self", "moment"] []
 mt_i:L2.Meth K (clOf K "Game") "stands" A.f_i
 F_i:bO K "stands" "Game.stands" uk A.f_i A.d_i
 b_i:Binds K A.d_i ["self"] []
 mt_o:L2.Meth K (clOf K "Game") "deeds" A.f_o
 F_o:bO K "deeds" "Game.deeds" t_ A.f_o A.d_o
 b_o:Binds K A.d_o ["self"] []
 mt_q:L2.Meth K (clOf K "Game") "ended" A.f_q
 F_q:bO K "ended" "Game.ended" tZ A.f_q A.d_q
 b_q:Binds K A.d_q ["self"] []
 xm_Again:mY K (clOf K "Again") "number" = true
 xn_Again:XN K (clOf K "Again") (clOf K "StoneError") A.f_Again___init__ "number"
 F_Again___init__:bO K "__init__" "Again.__init__" ub A.f_Again___init__ A.d_Again___init__
 b_Again___init__:Binds K A.d_Again___init__ ["self", "number"] []
 cls_Game:L2.Cls K (clOf K "Game")
 mk_Game:L2.Mk K (clOf K "Game") A.f_d
 gc_Game:mg "Game" = some (.ref (clOf K "Game"))
 na_Game_barring:L2.NoAttr K (clOf K "Game") "barring"
 na_Game_done:L2.NoAttr K (clOf K "Game") "done"
 na_Game_first:L2.NoAttr K (clOf K "Game") "first"
 na_Game_joined:L2.NoAttr K (clOf K "Game") "joined"
 na_Game_past:L2.NoAttr K (clOf K "Game") "past"
 na_Game_takings:L2.NoAttr K (clOf K "Game") "takings"
 c_MOST_DEEDS:∃t,mg "MOST_DEEDS" = some (.int 300 t)
 n_ValueError:mg "ValueError" = none
 n_all:mg "all" = none
 n_bool:mg "bool" = none
 n_int:mg "int" = none
 n_isinstance:mg "isinstance" = none
 n_len:mg "len" = none
 n_list:mg "list" = none
 n_range:mg "range" = none
 n_sorted:mg "sorted" = none
 n_str:mg "str" = none
 n_sum:mg "sum" = none
 n_tuple:mg "tuple" = none
 xt:XT K mg cw
 nl:ot K=true
section
seal L2.PSs L2.PS L2.PE L2.PT L2.PW L2.PA L2.PI L2.PG L2.PGs L2.PO L2.PIfs
variable {A:qm}
abbrev Gx(K:Frag):Ga:=Gy K
abbrev ck(K:Frag)(n:Nat)(d:List W->M W):Sp:=gn (Gx K) (fun E=>E) n d
theorem cF{x:Str}{N:List Str}{m:Nat}{d:DS}(F:bO K x qual st f fd)(S:ao N ps (bb st))(hf:nu (Gx K) fin)(hb:∀(cdv:Value) (A:Around) (outer:List Env) (s:Shared) (H:Hp) (E:XK),aR k (A.deeper (envOfC qual (bb st) s.heap.objs.size f cdv))->PSs (gO (bz P w) P w K mg base N qual (bb st) f cdv A outer s H E) (ku st) (dH (Gx K) E d))(hn:n=ps.length:=by rfl)(hm:m=N.length:=by rfl):ay P w K mg base (bz P w) (k+1) f fd ps (ck K n (bJ fin m d)):=by subst hm;refine F.okX S (fun vs H Q E h=>h.1.trans hn) fun cdv Ar outer s H vs Q E hr h=>?_;obtain⟨_,F,as,ws,ce,S,rs,Pf⟩:=h;exact⟨_,hb cdv Ar outer s H E hr,Ew hf N S rs Pf⟩
theorem I_(T:Txt K mg A):ay P w K mg base (bz P w) 1 A.f_Again___init__ A.d_Again___init__ ["self", "number"] (uq (clOf K "Again") "number"):=by refine T.F_Again___init__.okX (k:=0) Jf (fun vs H Q E h=>by obtain⟨a,n,rfl,_⟩:=h;rfl) (fun cdv Ar outer s H vs Q E hr h=>?_);obtain⟨a,n,rfl,hn,ha,q⟩:=h;refine⟨_,Dg (x := "StoneError") (SA:=clOf K "StoneError") (C:=clOf K "Again") rfl (T.xt.at rfl) T.xn_Again.hga T.xn_Again.hr T.xn_Again.hf T.xn_Again.xi.exc T.xn_Again.hsa T.xn_Again.hd T.xn_Again.ht (rZ (kx nL (kx (rG 1) r9))),?_⟩;exact⟨a,n,rfl,rfl,ha,⟨trivial,⟨n,rfl,hn⟩,trivial⟩,q⟩
theorem Ig(fu:Nat)(T:Txt K mg A):ay P w K mg base (bz P w) 1 A.f_x A.d_x ["thing"] (ck K 1 (d_x fu)) :=
 cF T.F_x HW eM fun cdv Ar outer s H E hr=>(aI (bE (rj (cU (lJ K) (lZ K) rfl T.n_isinstance boot_isinstance (aj (af 0) (aj (lY rfl T.n_int boot_int) av))) (o9 (Ca (cU (lJ K) (lZ K) rfl T.n_isinstance boot_isinstance (aj (af 0) (aj (lY rfl T.n_bool boot_bool) av))))))))
theorem uj(fu:Nat)(T:Txt K mg A):ay P w K mg base (bz P w) 1 A.f_k A.d_k ["hand"] (ck K 1 (d_k fu)) :=
 cF T.F_k ID eM fun cdv Ar outer s H E hr=>(aI (bE (mj aD (af 0))))
theorem y_(fu:Nat)(T:Txt K mg A):ay P w K mg base (bz P w) 1 A.f_y A.d_y ["board", "marks", "start"] (ck K 3 (d_y fu)) :=
 cF T.F_y iS jj fun cdv Ar outer s H E hr=>(aC (bc (i:=3) iS.nd rfl (Or.inl rfl) (E9 (af 2) iI))
   (aC (bc (i:=4) iS.nd rfl (Or.inl rfl) (g6 (aj (af 2) av)))
   (aC (xX fu PassesOwn.leaving (rT (af 4)) (aC (bc (i:=5) iS.nd rfl (Or.inl rfl) (CH PySem.F.slot_list_pop PySem.F.type_list_pop Ck Bc (af 4)))
   (aI (d_ PassesOwn.leaving rfl (j9 (aW (af 0) (af 5) (fun _ _=>rfl))) (dm (i:=6) iS.nd rfl (Or.inl rfl))
   (aI (bR (PW.pt (kn (yP (hr.cmp 1) (af 6) (af 3) (by with_unfolding_all rfl)) (lb (jg (hr.cmp 8) (aW (af 1) (af 6) (fun _ _=>rfl)) (aW (af 1) (af 2) (fun _ _=>rfl)))))) (aC (kP (hr.cmp 1) (af 3) (af 6) iI)
   (aI (fq (fB PySem.F.slot_list_append PySem.F.type_list_append gj fY (af 4) (aj (af 6) av))))) bX))))))
   (aI (bE (cU (ma rfl rfl) (l_ K jb) rfl T.n_sorted boot_sorted (aj (af 3) av)))))))
theorem Hm(fu:Nat)(T:Txt K mg A):ay P w K mg base (bz P w) 2 A.f_ba A.d_ba ["board", "marks"] (ck K 2 (d_ba fu)) :=
 cF T.F_ba eU jj fun cdv Ar outer s H E hr=>(aC (bc (i:=2) eU.nd rfl (Or.inl rfl) nU)
   (aC (bc (i:=3) eU.nd rfl (Or.inl rfl) (g6 av))
   (aC (d_ PassesOwn.leaving rfl (iH rfl T.n_range (aj (cU (f_ rfl) (fZ K) rfl T.n_len boot_len (aj (af 0) av)) av)) (dm (i:=4) eU.nd rfl (Or.inl rfl))
   (aI (bR (yP (hr.cmp 1) (af 4) (af 2) (by with_unfolding_all rfl)) (aC (bc (i:=5) eU.nd rfl (Or.inl rfl) (cg (iM (y_ fu T)) (hr.mono (by decide)) rfl T.g_y T.F_y.kp T.b_y (ae.passes rfl) (aj (af 0) (aj (af 1) (aj (af 4) av)))))
   (aC (fq (fB PySem.F.slot_list_append PySem.F.type_list_append gj fY (af 3) (aj (af 5) av)))
   (aI (d_ PassesOwn.leaving rfl (fL (af 5)) (dm (i:=6) eU.nd rfl (Or.inl rfl))
   (aI (kP (hr.cmp 1) (af 2) (af 6) iI)))))) bX)))
   (aI (bE (af 3))))))
theorem Ie(fu:Nat)(T:Txt K mg A):ay P w K mg base (bz P w) 2 A.f_v A.d_v ["board", "thing"] (ck K 2 (d_v fu)) :=
 cF T.F_v Ii eM fun cdv Ar outer s H E hr=>(aC (bR (PW.pt (ny (kR (ko (cU (lJ K) (lZ K) rfl T.n_isinstance boot_isinstance (aj (af 1) (aj (lY rfl T.n_tuple boot_tuple) av))))) (nI (kd (hr.cmp 8) (cU (f_ rfl) (fZ K) rfl T.n_len boot_len (aj (af 1) av)) (cU (f_ rfl) (fZ K) rfl T.n_len boot_len (aj (af 0) av)))))) (aI (bE iI)) bX)
   (aI (bE (cU (uT K) (vn K) rfl T.n_all boot_all (aj (jN cE (g8 (N:=["board", "thing"]) (psc:=bb p9) (js:=[]) (N':=["what"]) (by decide +kernel)) rfl rfl (j9 (af 1)) (fun _ _ _ _=>ju) (fun _ _ _ _=>(vV (rj (cg (Ig fu T) (hr.mono (by decide)) rfl T.g_x T.F_x.kp T.b_x w6 (aj (af 0) av)) (o9 (Fd vi vi (kS (f:=j6) (ke fun _ _=>rfl)) (kS (f:=j6) (ke fun _ _=>rfl)) aD (af 0) aD)))))) av)))))
theorem Gb(fu:Nat)(T:Txt K mg A):ay P w K mg base (bz P w) 2 A.f_ea A.d_ea ["board", "stand", "point"] (ck K 3 (d_ea fu)) :=
 cF T.F_ea Gd jj fun cdv Ar outer s H E hr=>(aI (bE (cg (y_ fu T) (hr.mono (by decide)) rfl T.g_y T.F_y.kp T.b_y (ae.passes rfl) (aj (af 0) (aj (af 1) (aj (af 2) av))))))
theorem wG(fu:Nat)(T:Txt K mg A):ay P w K mg base (bz P w) 3 A.f_ga A.d_ga ["board", "stand"] (ck K 2 (d_ga fu)) :=
 cF T.F_ga De eM fun cdv Ar outer s H E hr=>(aI (bE (jN cE (g8 (N:=["board", "stand"]) (psc:=bb oZ) (js:=[1]) (N':=["points", "stand"]) (by decide +kernel)) rfl rfl (fL (cg (iM (Hm fu T)) (hr.mono (by decide)) rfl T.g_ba T.F_ba.kp T.b_ba (ae.passes rfl) (aj (af 0) (aj (af 1) av)))) (fun _ _ _ _=>(sP (kd (hr.cmp 8) (aW (af 1) (aW (af 0) aD (fun _ _=>rfl)) (fun _ _=>rfl)) aD))) (fun _ _ _ _=>(af 0)))))
theorem IY(fu:Nat)(T:Txt K mg A):ay P w K mg base (bz P w) 1 A.f_c A.d_c ["board", "points"] (ck K 2 (d_c fu)) :=
 cF T.F_c jX jj fun cdv Ar outer s H E hr=>(aC (bc (i:=2) jX.nd rfl (Or.inl rfl) nU)
   (aC (d_ PassesOwn.leaving rfl (fL (af 1)) (dm (i:=3) jX.nd rfl (Or.inl rfl))
   (aI (d_ PassesOwn.leaving rfl (j9 (aW (af 0) (af 3) (fun _ _=>rfl))) (dm (i:=4) jX.nd rfl (Or.inl rfl))
   (aI (kP (hr.cmp 1) (af 2) (af 4) iI)))))
   (aI (bE (cU (ma rfl rfl) (l_ K jb) rfl T.n_sorted boot_sorted (aj (af 2) av))))))
theorem tF(fu:Nat)(T:Txt K mg A):ay P w K mg base (bz P w) 2 A.f_ca A.d_ca ["board", "stand", "row"] (ck K 3 (d_ca fu)) :=
 cF T.F_ca Hn jj fun cdv Ar outer s H E hr=>(aI (bE (jN jb (g8 (N:=["board", "stand", "row"]) (psc:=bb pY) (js:=[1]) (N':=["point", "stand"]) (by decide +kernel)) rfl rfl (fL (cg (iM (IY fu T)) (hr.mono (by decide)) rfl T.g_c T.F_c.kp T.b_c (ae.passes rfl) (aj (af 0) (aj (af 2) av)))) (fun _ _ _ _=>(sP (jg (hr.cmp 8) (aW (af 1) (af 0) (fun _ _=>rfl)) aD))) (fun _ _ _ _=>(af 0)))))
theorem Ic(fu:Nat)(T:Txt K mg A):ay P w K mg base (bz P w) 4 A.f_w A.d_w ["board", "stand"] (ck K 2 (d_w fu)) :=
 cF T.F_w Ih eM fun cdv Ar outer s H E hr=>(aI (bE (cU (uT K) (vn K) rfl T.n_all boot_all (aj (jN cE (g8 (N:=["board", "stand"]) (psc:=bb p8) (js:=[0,1]) (N':=["row", "board", "stand"]) (by decide +kernel)) rfl rfl (fL (cg (wG fu T) (hr.mono (by decide)) rfl T.g_ga T.F_ga.kp T.b_ga (ae.passes rfl) (aj (af 0) (aj (af 1) av)))) (fun _ _ _ _=>ju) (fun _ _ _ _=>(vV (Bj (cU (f_ rfl) (fZ K) rfl T.n_len boot_len (aj (cg (iM (tF fu T)) (hr.mono (by decide)) rfl T.g_ca T.F_ca.kp T.b_ca w6 (aj (af 1) (aj (af 2) (aj (af 0) av)))) av)) aD)))) av))))
theorem yV(fu:Nat)(T:Txt K mg A):ay P w K mg base (bz P w) 1 A.f_da A.d_da ["stand", "points", "what"] (ck K 3 (d_da fu)) :=
 cF T.F_da iU eM fun cdv Ar outer s H E hr=>(aC (bc (i:=3) iU.nd rfl (Or.inl rfl) (e_ (mE rfl rfl) (mD K jb) rfl T.n_list boot_list (aj (af 0) av)))
   (aC (d_ PassesOwn.leaving rfl (fL (af 1)) (dm (i:=4) iU.nd rfl (Or.inl rfl))
   (aI (mf (af 2) (pd (E:=E0) (af 3) (af 4)))))
   (aI (bE (e_ (ml K) (mH K) rfl T.n_tuple boot_tuple (aj (af 3) av))))))
theorem Iz(fu:Nat)(T:Txt K mg A):ay P w K mg base (bz P w) 4 A.f_p A.d_p ["board", "stand", "hand"] (ck K 3 (d_p fu)) :=
 cF T.F_p lC jj fun cdv Ar outer s H E hr=>(aC (bc (i:=3) lC.nd rfl (Or.inl rfl) (g6 av))
   (aC (d_ PassesOwn.leaving rfl (fL (cg (wG fu T) (hr.mono (by decide)) rfl T.g_ga T.F_ga.kp T.b_ga (ae.passes rfl) (aj (af 0) (aj (af 1) av)))) (dm (i:=4) lC.nd rfl (Or.inl rfl))
   (aI (bR (PW.pt (kn (jg (hr.cmp 8) (aW (af 1) (aW (af 4) aD (fun _ _=>rfl)) (fun _ _=>rfl)) (af 2)) (lb (kR (rT (cg (iM (tF fu T)) (hr.mono (by decide)) rfl T.g_ca T.F_ca.kp T.b_ca (ae.passes rfl) (aj (af 0) (aj (af 1) (aj (af 4) av))))))))) (aI (fq (fB PySem.F.slot_list_extend PySem.F.type_list_extend Eu Bb (af 3) (aj (af 4) av)))) bX)))
   (aI (bE (cU (ma rfl rfl) (l_ K jb) rfl T.n_sorted boot_sorted (aj (af 3) av))))))
theorem Dd(fu:Nat)(T:Txt K mg A):ay P w K mg base (bz P w) 5 A.f_fa A.d_fa ["board", "stand", "hand", "point"] (ck K 4 (d_fa fu)) :=
 cF T.F_fa gH eM fun cdv Ar outer s H E hr=>(aC (bR (kd (hr.cmp 8) (aW (af 1) (af 3) (fun _ _=>rfl)) aD) (aI (og (l:=[3]) ae rfl T.xt rfl rfl rfl hr.hd (rZ (kx nL (kx (rG 3) (kx nL r9)))) (fun _ h=>⟨trivial,h 3 (by decide),trivial,trivial⟩))) bX)
   (aC (bc (i:=4) gH.nd rfl (Or.inl rfl) (cg (yV fu T) (hr.mono (by decide)) rfl T.g_da T.F_da.kp T.b_da (ae.passes rfl) (aj (af 1) (aj (fE (aj (af 3) av)) (aj (af 2) av)))))
   (aC (bc (i:=5) gH.nd rfl (Or.inl rfl) (cg (iM (Iz fu T)) (hr.mono (by decide)) rfl T.g_p T.F_p.kp T.b_p (ae.passes rfl) (aj (af 0) (aj (af 4) (aj (cg (uj fu T) (hr.mono (by decide)) rfl T.g_k T.F_k.kp T.b_k (ae.passes rfl) (aj (af 2) av)) av)))))
   (aC (bc (i:=6) gH.nd rfl (Or.inl rfl) (cg (yV fu T) (hr.mono (by decide)) rfl T.g_da T.F_da.kp T.b_da (ae.passes rfl) (aj (af 4) (aj (af 5) (aj aD av)))))
   (aC (bR (kR (rT (cg (iM (tF fu T)) (hr.mono (by decide)) rfl T.g_ca T.F_ca.kp T.b_ca (ae.passes rfl) (aj (af 0) (aj (af 6) (aj (cg (iM (Gb fu T)) (hr.mono (by decide)) rfl T.g_ea T.F_ea.kp T.b_ea (ae.passes rfl) (aj (af 0) (aj (af 6) (aj (af 3) av)))) av)))))) (aI (og (l:=[3]) ae rfl T.xt rfl rfl rfl hr.hd (rZ (kx nL (kx (rG 3) (kx nL r9)))) (fun _ h=>⟨trivial,h 3 (by decide),trivial,trivial⟩))) bX)
   (aI (bE (il (aj (af 6) (aj (af 5) av))))))))))
theorem zR(fu:Nat)(T:Txt K mg A):ay P w K mg base (bz P w) 1 A.f_j A.d_j ["_law_cell", "_law_many"] (ck K 2 (d_j fu)) :=
 cF T.F_j iT jj fun cdv Ar outer s H E hr=>(aC (bc (i:=2) iT.nd rfl (Or.inl rfl) (g6 av))
   (aC (bc (i:=3) iT.nd rfl (Or.inl rfl) (fT (eE (af 0) aD) aD))
   (aC (d_ PassesOwn.leaving rfl (iH rfl T.n_range (aj (fT (af 1) aD) av)) (dm (i:=4) iT.nd rfl (Or.inl rfl))
   (aC (bc (i:=3) iT.nd rfl (Or.inl rfl) (eE (fT (fT (mi (af 3) (af 3)) (mi aD (af 3))) (af 4)) aD))
   (aI (fq (fB PySem.F.slot_list_append PySem.F.type_list_append gj fY (af 2) (aj (af 3) av))))))
   (aI (bE (me jb (af 2) (la aD) nS))))))
theorem IQ(fu:Nat)(T:Txt K mg A):ay P w K mg base (bz P w) 1 A.f_h A.d_h ["_law_many", "_law_lines_here"] (ck K 2 (d_h fu)) :=
 cF T.F_h jV eM fun cdv Ar outer s H E hr=>(aC (oR (k:=2) cE (g8 (N:=["_law_many", "_law_lines_here", "_law_joined_here", "_law_one", "_law_other"]) (psc:=bb oj) (js:=[]) (N':=["_law_k"]) (by decide +kernel)) rfl rfl (iH rfl T.n_range (aj (af 0) av)) (fun _ _ _ _=>ju) (fun _ _ _ _=>(g6 av)) jV.nd rfl rfl (by with_unfolding_all rfl))
   (aC (d_ PassesOwn.leaving rfl (fL (af 1)) (rh rfl (mT (dm (i:=3) jV.nd rfl (Or.inl rfl)) (mT (dm (i:=4) jV.nd rfl (Or.inl rfl)) sf)))
   (aC (fq (fB PySem.F.slot_list_append PySem.F.type_list_append gj fY (aW (af 2) (af 3) (fun _ _=>rfl)) (aj (af 4) av)))
   (aI (fq (fB PySem.F.slot_list_append PySem.F.type_list_append gj fY (aW (af 2) (af 4) (fun _ _=>rfl)) (aj (af 3) av))))))
   (aI (bE (e_ (ml K) (mH K) rfl T.n_tuple boot_tuple (aj (jN cE (g8 (N:=["_law_many", "_law_lines_here", "_law_joined_here", "_law_one", "_law_other"]) (psc:=bb oj) (js:=[]) (N':=["_law_some"]) (by decide +kernel)) rfl rfl (fL (af 2)) (fun _ _ _ _=>ju) (fun _ _ _ _=>(e_ (ml K) (mH K) rfl T.n_tuple boot_tuple (aj (cU (ma rfl rfl) (l_ K cE) rfl T.n_sorted boot_sorted (aj (af 0) av)) av)))) av))))))
theorem Iy(fu:Nat)(T:Txt K mg A):ay P w K mg base (bz P w) 2 A.f_l A.d_l ["_law_xs"] (ck K 1 (d_l fu)) :=
 cF T.F_l dE qP fun cdv Ar outer s H E hr=>(aC (bR (jn (eE (aW (af 0) aD (fun _ _=>rfl)) aD) aD) (aC (bc (i:=1) dE.nd rfl (Or.inr rfl) (fT aD (eE (aW (af 0) aD (fun _ _=>rfl)) aD)))
   (aC (bc (i:=2) dE.nd rfl (Or.inl rfl) (mi (af 1) (fT aD (eE (aW (af 0) aD (fun _ _=>rfl)) aD))))
   (aC (bR (jn (eE (Cf (aW (af 0) aD (fun _ _=>rfl)) aD) aD) aD) (aC (bc (i:=1) dE.nd rfl (Or.inr rfl) (fT aD (eE (aW (af 0) aD (fun _ _=>rfl)) aD)))
   (aI (bc (i:=2) dE.nd rfl (Or.inl rfl) (mi aD (af 1))))) bX)
   (aC (oR (k:=3) jb (g8 (N:=["_law_xs", "_law_wide", "_law_many", "_law_lines_here", "_law_beside", "_law_ys", "_law_one", "_law_other"]) (psc:=bb lu) (js:=[1]) (N':=["_law_k", "_law_wide"]) (by decide +kernel)) rfl rfl (iH rfl T.n_range (aj (mj (af 2) (af 1)) av)) (fun _ _ _ _=>ju) (fun _ _ _ _=>(il (aj (af 0) (aj (fT (af 0) (af 1)) av)))) dE.nd rfl rfl (by with_unfolding_all rfl))
   (aC (oR (k:=4) cE (g8 (N:=["_law_xs", "_law_wide", "_law_many", "_law_lines_here", "_law_beside", "_law_ys", "_law_one", "_law_other"]) (psc:=bb lu) (js:=[1]) (N':=["_law_k", "_law_wide"]) (by decide +kernel)) rfl rfl (iH rfl T.n_range (aj (mj (af 2) aD) av)) (fun _ _ _ _=>(sP (qH (eE (fT (af 0) aD) (af 1)) aD))) (fun _ _ _ _=>(af 0)) dE.nd rfl rfl (by with_unfolding_all rfl))
   (aI (bE (il (aj (af 2) (aj (kQ cE (af 3) (jN cE (g8 (N:=["_law_xs", "_law_wide", "_law_many", "_law_lines_here", "_law_beside", "_law_ys", "_law_one", "_law_other"]) (psc:=bb lu) (js:=[]) (N':=["_law_k"]) (by decide +kernel)) rfl rfl (fL (af 4)) (fun _ _ _ _=>ju) (fun _ _ _ _=>(il (aj (af 0) (aj (fT (af 0) aD) av)))))) av)))))))))) bX)
   (aC (bc (i:=2) dE.nd rfl (Or.inl rfl) (fT aD (eE (aW (af 0) aD (fun _ _=>rfl)) (aW (fE (aj aD (aj aD (aj aD (aj aD av))))) (eE (aW (af 0) aD (fun _ _=>rfl)) aD) (fun _ _=>rfl)))))
   (aC (oR (k:=3) jb (g8 (N:=["_law_xs", "_law_wide", "_law_many", "_law_lines_here", "_law_beside", "_law_ys", "_law_one", "_law_other"]) (psc:=bb lu) (js:=[]) (N':=["_law_k"]) (by decide +kernel)) rfl rfl (iH rfl T.n_range (aj (mj (af 2) aD) av)) (fun _ _ _ _=>ju) (fun _ _ _ _=>(il (aj (af 0) (aj (fT (af 0) aD) av)))) dE.nd rfl rfl (by with_unfolding_all rfl))
   (aC (bR (PW.pt (kn (jn (eE (aW (af 0) aD (fun _ _=>rfl)) aD) aD) (kn (qH (af 2) aD) (lb (jn (eE (aW (af 0) aD (fun _ _=>rfl)) aD) aD))))) (aI (fq (fB PySem.F.slot_list_append PySem.F.type_list_append gj fY (af 3) (aj (il (aj aD (aj (mj (af 2) aD) av))) av)))) bX)
   (aC (bR (qH (eE (aW (af 0) aD (fun _ _=>rfl)) aD) aD) (aC (bc (i:=5) dE.nd rfl (Or.inl rfl) (cg (iM (zR fu T)) (hr.mono (by decide)) rfl T.g_j T.F_j.kp T.b_j (ae.passes rfl) (aj (aW (af 0) aD (fun _ _=>rfl)) (aj (mi (af 2) (af 2)) av))))
   (aC (bc (i:=3) dE.nd rfl (Or.inl rfl) (g6 av))
   (aI (d_ PassesOwn.leaving rfl (iH rfl T.n_range (aj (af 2) av)) (dm (i:=6) dE.nd rfl (Or.inl rfl))
   (aI (d_ PassesOwn.leaving rfl (iH rfl T.n_range (aj (af 6) av)) (dm (i:=7) dE.nd rfl (Or.inl rfl))
   (aI (bR (vb (eE (aW (af 5) (fT (mi (af 6) (af 2)) (af 7)) (fun _ _=>rfl)) aD) (eE (aW (af 0) aD (fun _ _=>rfl)) aD)) (aI (fq (fB PySem.F.slot_list_append PySem.F.type_list_append gj fY (af 3) (aj (il (aj (af 7) (aj (af 6) av))) av)))) bX)))))))) bX)
   (aI (bE (il (aj (af 2) (aj (af 3) av))))))))))
theorem Ib(fu:Nat)(T:Txt K mg A):ay P w K mg base (bz P w) 1 A.f_z A.d_z ["_law_board", "_law_stand", "_law_point"] (ck K 3 (d_z fu)) :=
 cF T.F_z iR jj fun cdv Ar outer s H E hr=>(aC (bc (i:=3) iR.nd rfl (Or.inl rfl) (g6 (aj (af 2) av)))
   (aC (bc (i:=4) iR.nd rfl (Or.inl rfl) aD)
   (aC (xX fu PassesOwn.leaving (vb (af 4) (cU (f_ rfl) (fZ K) rfl T.n_len boot_len (aj (af 3) av))) (aC (d_ PassesOwn.leaving rfl (j9 (aW (af 0) (aW (af 3) (af 4) (fun _ _=>rfl)) (fun _ _=>rfl))) (dm (i:=5) iR.nd rfl (Or.inl rfl))
   (aI (bR (PW.pt (kn (jn (aW (af 1) (af 5) (fun _ _=>rfl)) (aW (af 1) (af 2) (fun _ _=>rfl))) (lb (Fe (hr.cmp 9) (af 5) (af 3) (by with_unfolding_all rfl))))) (aI (fq (fB PySem.F.slot_list_append PySem.F.type_list_append gj fY (af 3) (aj (af 5) av)))) bX)))
   (aI (bc (i:=4) iR.nd rfl (Or.inl rfl) (fT (af 4) aD)))))
   (aI (bE (af 3))))))
theorem IJ(fu:Nat)(T:Txt K mg A):ay P w K mg base (bz P w) 1 A.f_g A.d_g ["_law_board", "_law_stand", "_law_row_here"] (ck K 3 (d_g fu)) :=
 cF T.F_g jW jj fun cdv Ar outer s H E hr=>(aC (bc (i:=3) jW.nd rfl (Or.inl rfl) nU)
   (aC (d_ PassesOwn.leaving rfl (fL (af 2)) (dm (i:=4) jW.nd rfl (Or.inl rfl))
   (aI (d_ PassesOwn.leaving rfl (j9 (aW (af 0) (af 4) (fun _ _=>rfl))) (dm (i:=5) jW.nd rfl (Or.inl rfl))
   (aI (bR (jn (aW (af 1) (af 5) (fun _ _=>rfl)) aD) (aI (kP (hr.cmp 1) (af 3) (af 5) iI)) bX)))))
   (aI (bE (cU (ma rfl rfl) (l_ K jb) rfl T.n_sorted boot_sorted (aj (e_ (mE rfl rfl) (mD K cE) rfl T.n_list boot_list (aj (af 3) av)) av))))))
theorem IH(fu:Nat)(T:Txt K mg A):ay P w K mg base (bz P w) 2 A.f_n A.d_n ["_law_board", "_law_stand", "_law_hand", "_law_point"] (ck K 4 (d_n fu)) :=
 cF T.F_n eQ eM fun cdv Ar outer s H E hr=>(aC (bR (rg (aW (af 1) (af 3) (fun _ _=>rfl)) aD) (aI (bE eS)) bX)
   (aC (bc (i:=4) eQ.nd rfl (Or.inl rfl) nU)
   (aC (bc (i:=5) eQ.nd rfl (Or.inl rfl) nU)
   (aC (d_ PassesOwn.leaving rfl (j9 (aW (af 0) (af 3) (fun _ _=>rfl))) (dm (i:=6) eQ.nd rfl (Or.inl rfl))
   (aI (bR (jn (aW (af 1) (af 6) (fun _ _=>rfl)) aD) (aI (kP (hr.cmp 1) (af 5) (af 6) iI)) (aC (bc (i:=7) eQ.nd rfl (Or.inl rfl) (cg (iM (Ib fu T)) (hr.mono (by decide)) rfl T.g_z T.F_z.kp T.b_z (ae.passes rfl) (aj (af 0) (aj (af 1) (aj (af 6) av)))))
   (aC (bc (i:=8) eQ.nd rfl (Or.inl rfl) (cg (IJ fu T) (hr.mono (by decide)) rfl T.g_g T.F_g.kp T.b_g (ae.passes rfl) (aj (af 0) (aj (af 1) (aj (af 7) av)))))
   (aC (fq (fB PySem.F.slot_list_remove PySem.F.type_list_remove BE AB (af 8) (aj (af 3) av)))
   (aI (bR (jn (aW (af 1) (af 6) (fun _ _=>rfl)) (af 2)) (aI (d_ PassesOwn.leaving rfl (fL (af 8)) (dm (i:=9) eQ.nd rfl (Or.inl rfl))
   (aI (kP (hr.cmp 1) (af 5) (af 9) iI)))) (aI (bR (jg (hr.cmp 8) (af 8) (fE av)) (aI (d_ PassesOwn.leaving rfl (fL (af 7)) (dm (i:=9) eQ.nd rfl (Or.inl rfl))
   (aI (kP (hr.cmp 1) (af 4) (af 9) iI)))) bX))))))))))
   (aC (bR (PW.pt (kn (jn (cU (f_ rfl) (fZ K) rfl T.n_len boot_len (aj (af 5) av)) aD) (lb (jn (cU (f_ rfl) (fZ K) rfl T.n_len boot_len (aj (af 4) av)) aD)))) (aI (bE eS)) bX)
   (aC (bc (i:=10) eQ.nd rfl (Or.inl rfl) (e_ (mE rfl rfl) (mD K jb) rfl T.n_list boot_list (aj (af 1) av)))
   (aC (d_ PassesOwn.leaving rfl (z7 (af 4)) (dm (i:=9) eQ.nd rfl (Or.inl rfl))
   (aI (mf aD (pd (E:=E0) (af 10) (af 9)))))
   (aC (mf (af 2) (pd (E:=E0) (af 10) (af 3)))
   (aI (bE (il (aj (e_ (ml K) (mH K) rfl T.n_tuple boot_tuple (aj (af 10) av)) (aj (cU (ma rfl rfl) (l_ K cE) rfl T.n_sorted boot_sorted (aj (e_ (mE rfl rfl) (mD K cE) rfl T.n_list boot_list (aj (af 4) av)) av)) av)))))))))))))
theorem y9(fu:Nat)(T:Txt K mg A):ay P w K mg base (bz P w) 3 A.f_aa A.d_aa ["_law_board", "_law_rule", "_law_moments", "_law_what"] (ck K 4 (d_aa fu)) :=
 cF T.F_aa fG eM fun cdv Ar outer s H E hr=>(aC (mf (aW (af 2) (mh aD) (fun _ _=>rfl)) (rh rfl (mT (dm (i:=4) fG.nd rfl (Or.inl rfl)) (mT (dm (i:=5) fG.nd rfl (Or.inl rfl)) sf))))
   (aC (bR (rn (af 3)) (aI (bE (il (aj (af 4) (aj (fE av) av))))) bX)
   (aC (bc (i:=6) fG.nd rfl (Or.inl rfl) (cg (IH fu T) (hr.mono (by decide)) rfl T.g_n T.F_n.kp T.b_n (ae.passes rfl) (aj (af 0) (aj (af 4) (aj (af 5) (aj (af 3) av))))))
   (aC (bR (ko (cU (lJ K) (lZ K) rfl T.n_isinstance boot_isinstance (aj (af 6) (aj (lY rfl T.n_str boot_str) av)))) (aI (bE (af 6))) bX)
   (aC (d_ PassesOwn.leaving rfl (iH rfl T.n_range (aj (cU (f_ rfl) (fZ K) rfl T.n_len boot_len (aj (af 2) av)) av)) (dm (i:=7) fG.nd rfl (Or.inl rfl))
   (aI (bR (jg (hr.cmp 8) (aW (aW (af 2) (af 7) (fun _ _=>rfl)) aD (fun _ _=>rfl)) (aW (af 6) aD (fun _ _=>rfl))) (aI (bR (PW.pt (ny (jg (hr.cmp 8) (af 1) eS) (nI (rg (aW (aW (af 2) (af 7) (fun _ _=>rfl)) aD (fun _ _=>rfl)) (af 5))))) (aI (bE (af 7))) bX)) bX)))
   (aI (bE (af 6))))))))
theorem zB(fu:Nat)(T:Txt K mg A):ay P w K mg base (bz P w) 1 A.f_m A.d_m ["self"] (ck K 1 (d_m fu)) :=
 cF T.F_m IC eM fun cdv Ar outer s H E hr=>(aI (bE (aW (gb T.cls_Game T.na_Game_past (af 0)) (mh aD) (fun _ _=>rfl))))
theorem IG(fu:Nat)(T:Txt K mg A):ay P w K mg base (bz P w) 1 A.f_q A.d_q ["self"] (ck K 1 (d_q fu)) :=
 cF T.F_q IB eM fun cdv Ar outer s H E hr=>(aC (bR (jg (hr.cmp 8) (me cE (gb T.cls_Game T.na_Game_done (af 0)) (la (mh aD)) nS) (fE (aj kq (aj kq av)))) (aI (bE eS)) bX)
   (aC (bR (Bh (cU (f_ rfl) (fZ K) rfl T.n_len boot_len (aj (gb T.cls_Game T.na_Game_done (af 0)) av)) (E_ rfl T.c_MOST_DEEDS)) (aI (bE eS)) bX)
   (aI (bE kq))))
theorem zQ(fu:Nat)(T:Txt K mg A):ay P w K mg base (bz P w) 2 A.f_e A.d_e ["self", "moment"] (ck K 2 (d_e fu)) :=
 cF T.F_e IK eM fun cdv Ar outer s H E hr=>(aI (bE (B_ (jg (hr.cmp 8) (eE (af 1) aD) aD) (gb T.cls_Game T.na_Game_first (af 0)) (cg (uj fu T) (hr.mono (by decide)) rfl T.g_k T.F_k.kp T.b_k (ae.passes rfl) (aj (gb T.cls_Game T.na_Game_first (af 0)) av)))))
theorem zu(fu:Nat)(T:Txt K mg A):ay P w K mg base (bz P w) 3 A.f_s A.d_s ["self"] (ck K 1 (d_s fu)) :=
 cF T.F_s Io eM fun cdv Ar outer s H E hr=>(aI (bE (nR T.cls_Game T.mt_e (zQ fu T) (hr.mono (by decide)) T.b_e (ae.passes rfl) (af 0) (aj (cU (f_ rfl) (fZ K) rfl T.n_len boot_len (aj (gb T.cls_Game T.na_Game_done (af 0)) av)) av))))
theorem Jd(fu:Nat)(T:Txt K mg A):ay P w K mg base (bz P w) 4 A.f_a A.d_a ["self", "moment"] (ck K 2 (d_a fu)) :=
 cF T.F_a Je eM fun cdv Ar outer s H E hr=>(aI (bE (Bg (oS (hr.cmp 8) (gb T.cls_Game T.na_Game_barring (af 0)) eS) (o9 (oS (hr.cmp 8) (nR T.cls_Game T.mt_e (zQ fu T) (hr.mono (by decide)) T.b_e (ae.passes rfl) (af 0) (aj (af 1) av)) (cg (uj fu T) (hr.mono (by decide)) rfl T.g_k T.F_k.kp T.b_k (ae.passes rfl) (aj (lp T.cls_Game T.mt_s (zu fu T) (hr.mono (by decide)) T.b_s (ae.passes rfl) (af 0)) av)))))))
theorem II(fu:Nat)(T:Txt K mg A):ay P w K mg base (bz P w) 5 A.f_f A.d_f ["self", "behind"] (ck K 2 (d_f fu)) :=
 cF T.F_f oq eM fun cdv Ar outer s H E hr=>(aC (d_ PassesOwn.leaving rfl (iH rfl T.n_range (aj (cU (f_ rfl) (fZ K) rfl T.n_len boot_len (aj (gb T.cls_Game T.na_Game_past (af 0)) av)) av)) (dm (i:=2) oq.nd rfl (Or.inl rfl))
   (aI (bR (PW.pt (kn (jg (hr.cmp 8) (aW (gb T.cls_Game T.na_Game_past (af 0)) (af 2) (fun _ _=>rfl)) (af 1)) (lb (ko (nR T.cls_Game T.mt_a (Jd fu T) (hr.mono (by decide)) T.b_a (ae.passes rfl) (af 0) (aj (af 2) av)))))) (aI (bE (af 2))) bX)))
   (aI (bE kq)))
theorem zt(fu:Nat)(T:Txt K mg A):ay P w K mg base (bz P w) 6 A.f_t A.d_t ["self", "what"] (ck K 2 (d_t fu)) :=
 cF T.F_t gp eM fun cdv Ar outer s H E hr=>(aC (bR (pf (lp T.cls_Game T.mt_q (IG fu T) (hr.mono (by decide)) T.b_q (ae.passes rfl) (af 0))) (aI (og (l:=[]) ae rfl T.xt rfl rfl rfl hr.hd rF (fun _ _=>trivial))) bX)
   (aC (bc (i:=2) gp.nd rfl (Or.inl rfl) (lp T.cls_Game T.mt_m (zB fu T) (hr.mono (by decide)) T.b_m (ae.passes rfl) (af 0)))
   (aC (bc (i:=3) gp.nd rfl (Or.inl rfl) aD)
   (aC (bR (pf (af 1)) (aC (bc (i:=4) gp.nd rfl (Or.inl rfl) (cg (Dd fu T) (hr.mono (by decide)) rfl T.g_fa T.F_fa.kp T.b_fa (ae.passes rfl) (aj (gb T.cls_Game T.na_Game_joined (af 0)) (aj (af 2) (aj (lp T.cls_Game T.mt_s (zu fu T) (hr.mono (by decide)) T.b_s (ae.passes rfl) (af 0)) (aj (af 1) av))))))
   (aC (bc (i:=2) gp.nd rfl (Or.inl rfl) (aW (af 4) aD (fun _ _=>rfl)))
   (aC (bc (i:=3) gp.nd rfl (Or.inl rfl) (cU (f_ rfl) (fZ K) rfl T.n_len boot_len (aj (aW (af 4) aD (fun _ _=>rfl)) av)))
   (aC (bc (i:=5) gp.nd rfl (Or.inl rfl) (nR T.cls_Game T.mt_f (II fu T) (hr.mono (by decide)) T.b_f (ae.passes rfl) (af 0) (aj (af 2) av)))
   (aI (bR (pf (af 5)) (aI (G7 ae (ae.passes rfl) rfl T.xn_Again.xi (I_ T) (hr.mono (by decide)) T.b_Again___init__ (T.xt.at rfl) rfl rfl hr.hd (i:=5) rfl (Or.inl rfl))) bX)))))) bX)
   (aC (fq (fB PySem.F.slot_list_append PySem.F.type_list_append gj fY (gb T.cls_Game T.na_Game_past (af 0)) (aj (af 2) av)))
   (aC (fq (fB PySem.F.slot_list_append PySem.F.type_list_append gj fY (gb T.cls_Game T.na_Game_done (af 0)) (aj (af 1) av)))
   (aI (fq (fB PySem.F.slot_list_append PySem.F.type_list_append gj fY (gb T.cls_Game T.na_Game_takings (af 0)) (aj (af 3) av))))))))))
theorem tY(fu:Nat)(T:Txt K mg A):ay P w K mg base (bz P w) 7 A.f_r A.d_r ["_law_game", "_law_what"] (ck K 2 (d_r fu)) :=
 cF T.F_r ee eM fun cdv Ar outer s H E hr=>(aC (bc (i:=2) ee.nd rfl (Or.inl rfl) kq)
   (aC (bc (i:=3) ee.nd rfl (Or.inl rfl) aD)
   (aC (Fx (i:=3) rfl rfl rfl ee.nd rfl (Or.inl rfl) T.cls_Game T.mt_t (zt fu T) (hr.mono (by decide)) T.b_t (af 0) (aj (af 1) av) (AD (i:=4) rfl T.xt rfl ee.nd rfl rfl rfl (fun _=>(aI (bc (i:=2) ee.nd rfl (Or.inl rfl) (af 4))))))
   (aC (bR (rn (af 2)) (aI (bE (aW (fE (aj eS (aj eS av))) (e_ lj kL rfl T.n_int boot_int (aj (Cd (af 3)) av)) (fun _ _=>rfl)))) bX)
   (aC (bc (i:=5) ee.nd rfl (Or.inl rfl) (fE (aj (mL cE (aj eS av) (e_ lj kL rfl T.n_int boot_int (aj (pk rfl T.xt rfl (af 2) rfl T.n_isinstance rfl) av))) (aj (mL cE (aj eS av) (e_ lj kL rfl T.n_int boot_int (aj (pk rfl T.xt rfl (af 2) rfl T.n_isinstance rfl) av))) av))))
   (aC (bc (i:=5) ee.nd rfl (Or.inl rfl) (kQ cE (af 5) (fE (aj (mL cE (aj eS av) (e_ lj kL rfl T.n_int boot_int (aj (pk rfl T.xt rfl (af 2) rfl T.n_isinstance rfl) av))) av))))
   (aC (bc (i:=5) ee.nd rfl (Or.inl rfl) (kQ cE (af 5) (fE (aj (mL cE (aj eS av) (e_ lj kL rfl T.n_int boot_int (aj (pk rfl T.xt rfl (af 2) rfl T.n_isinstance rfl) av))) av))))
   (aC (bc (i:=5) ee.nd rfl (Or.inl rfl) (kQ cE (af 5) (fE (aj (mL cE (aj eS av) (e_ lj kL rfl T.n_int boot_int (aj (wZ rfl T.xt rfl (by decide) (af 2) (lr (T.xt.at rfl) rfl (lr (T.xt.at rfl) rfl (lr (T.xt.at rfl) rfl (lr (T.xt.at rfl) rfl (lr (T.xt.at rfl) rfl w4))))) rfl T.n_isinstance) av))) av))))
   (aC (bc (i:=5) ee.nd rfl (Or.inl rfl) (cU (G0 rfl) By rfl T.n_sum boot_sum (aj (af 5) (aj (mL cE (aj eS av) (e_ lj kL rfl T.n_int boot_int (aj (wZ rfl T.xt rfl (by decide) (af 2) (lr (T.xt.at rfl) rfl (lr (T.xt.at rfl) rfl w4)) rfl T.n_isinstance) av))) av))))
   (aC (bR (PW.pt (kn (BL (hr.cmp 8) (af 5) (fE (aj eS av))) (lb (kR (ko (cU (lJ K) (lZ K) rfl T.n_isinstance boot_isinstance (aj (vR rfl T.xm_Again (af 2)) (aj (lY rfl T.n_bool boot_bool) av)))))))) (aI (bE (vR rfl T.xm_Again (af 2)))) bX)
   (aC (bR (PW.pt (ny (rg (cU (f_ rfl) (fZ K) rfl T.n_len boot_len (aj (af 5) av)) aD) (nI (kR (ko (EB rfl T.xt (af 2) rfl T.n_isinstance rfl T.n_ValueError)))))) (aI (bE eS)) bX)
   (aI (bE (aW (af 5) aD (fun _ _=>rfl)))))))))))))))
theorem IW(fu:Nat)(T:Txt K mg A):ay P w K mg base (bz P w) 5 A.f_d A.d_d ["self", "board", "rule", "stand", "hand"] (ck K 5 (d_d fu)) :=
 cF T.F_d IZ qP fun cdv Ar outer s H E hr=>(aC (bR (kR (ko (cg (Ie fu T) (hr.mono (by decide)) rfl T.g_v T.F_v.kp T.b_v (ae.passes rfl) (aj (af 1) (aj (af 3) av))))) (aI (og (l:=[]) ae rfl T.xt rfl rfl rfl hr.hd rF (fun _ _=>trivial))) bX)
   (aC (bR (kR (ko (cg (Ic fu T) (hr.mono (by decide)) rfl T.g_w T.F_w.kp T.b_w (ae.passes rfl) (aj (af 1) (aj (af 3) av))))) (aI (og (l:=[]) ae rfl T.xt rfl rfl rfl hr.hd rF (fun _ _=>trivial))) bX)
   (aC (mv T.cls_Game T.na_Game_joined (af 0) (af 1))
   (aC (mv T.cls_Game T.na_Game_barring (af 0) (af 2))
   (aC (mv T.cls_Game T.na_Game_first (af 0) (af 4))
   (aC (mv T.cls_Game T.na_Game_past (af 0) (g6 (aj (af 3) av)))
   (aC (mv T.cls_Game T.na_Game_done (af 0) (g6 av))
   (aI (mv T.cls_Game T.na_Game_takings (af 0) (g6 av))))))))))
theorem zr(fu:Nat)(T:Txt K mg A):ay P w K mg base (bz P w) 7 A.f_u A.d_u ["_law_board", "_law_rule", "_law_hand", "_law_deeds"] (ck K 4 (d_u fu)) :=
 cF T.F_u lB qP fun cdv Ar outer s H E hr=>(aC (bc (i:=4) lB.nd rfl (Or.inl rfl) (Ey T.mk_Game (IW fu T) (hr.mono (by decide)) rfl T.gc_Game T.b_d (ae.passes rfl) (aj (af 0) (aj (af 1) (aj (e_ (ml K) (mH K) rfl T.n_tuple boot_tuple (aj (jN cE (g8 (N:=["_law_board", "_law_rule", "_law_hand", "_law_deeds", "_law_game", "_law_what"]) (psc:=bb qb) (js:=[]) (N':=["_law_point"]) (by decide +kernel)) rfl rfl (j9 (af 0)) (fun _ _ _ _=>ju) (fun _ _ _ _=>aD)) av)) (aj (af 2) av))))))
   (aC (d_ PassesOwn.leaving rfl (fL (af 3)) (dm (i:=5) lB.nd rfl (Or.inl rfl))
   (aI (fq (nR T.cls_Game T.mt_t (zt fu T) (hr.mono (by decide)) T.b_t (ae.passes rfl) (af 4) (aj (af 5) av)))))
   (aI (bE (af 4)))))
theorem I9(fu:Nat)(T:Txt K mg A):ay P w K mg base (bz P w) 8 A.f_b A.d_b ["_law_board", "_law_rule", "_law_hand", "_law_moments", "_law_deeds", "_law_game"] (ck K 6 (d_b fu)) :=
 cF T.F_b jY jj fun cdv Ar outer s H E hr=>(aC (bc (i:=6) jY.nd rfl (Or.inl rfl) (g6 av))
   (aC (d_ PassesOwn.leaving rfl (iH rfl T.n_range (aj (cU (f_ rfl) (fZ K) rfl T.n_len boot_len (aj (af 0) av)) av)) (dm (i:=7) jY.nd rfl (Or.inl rfl))
   (aC (bc (i:=8) jY.nd rfl (Or.inl rfl) (cg (y9 fu T) (hr.mono (by decide)) rfl T.g_aa T.F_aa.kp T.b_aa (ae.passes rfl) (aj (af 0) (aj (af 1) (aj (af 3) (aj (af 7) av))))))
   (aI (bR (ko (cU (lJ K) (lZ K) rfl T.n_isinstance boot_isinstance (aj (af 8) (aj (lY rfl T.n_tuple boot_tuple) av)))) (aC (fq (fB PySem.F.slot_list_append PySem.F.type_list_append gj fY (af 6) (aj (af 7) av)))
   (aI (bR (kd (hr.cmp 8) (cg (tY fu T) (hr.mono (by decide)) rfl T.g_r T.F_r.kp T.b_r (ae.passes rfl) (aj (cg (zr fu T) (hr.mono (by decide)) rfl T.g_u T.F_u.kp T.b_u (ae.passes rfl) (aj (af 0) (aj (af 1) (aj (af 2) (aj (af 4) av))))) (aj (af 7) av))) eS) (aI (bE kq)) bX))) (aI (bR (PW.pt (ny (kd (hr.cmp 8) (cg (tY fu T) (hr.mono (by decide)) rfl T.g_r T.F_r.kp T.b_r (ae.passes rfl) (aj (af 5) (aj (af 7) av))) (af 8)) (nI (kd (hr.cmp 8) (lp T.cls_Game T.mt_m (zB fu T) (hr.mono (by decide)) T.b_m (ae.passes rfl) (af 5)) (aW (aW (af 3) (mh aD) (fun _ _=>rfl)) aD (fun _ _=>rfl)))))) (aI (bE kq)) bX))))))
   (aC (bR (PW.pt (ny (jg (hr.cmp 8) (af 4) (fE av)) (nI (pf (aW (af 4) (mh aD) (fun _ _=>rfl)))))) (aI (fq (fB PySem.F.slot_list_append PySem.F.type_list_append gj fY (af 6) (aj kq av)))) bX)
   (aI (bE (af 6))))))
theorem IF(fu:Nat)(T:Txt K mg A):ay P w K mg base (bz P w) 1 A.f_o A.d_o ["self"] (ck K 1 (d_o fu)) :=
 cF T.F_o IA eM fun cdv Ar outer s H E hr=>(aI (bE (e_ (mE rfl rfl) (mD K cE) rfl T.n_list boot_list (aj (gb T.cls_Game T.na_Game_done (af 0)) av))))
theorem IP(fu:Nat)(T:Txt K mg A):ay P w K mg base (bz P w) 1 A.f_i A.d_i ["self"] (ck K 1 (d_i fu)) :=
 cF T.F_i IS eM fun cdv Ar outer s H E hr=>(aI (bE (e_ (mE rfl rfl) (mD K cE) rfl T.n_list boot_list (aj (gb T.cls_Game T.na_Game_past (af 0)) av))))
theorem BZ(fu:Nat)(T:Txt K mg A):ay P w K mg base (bz P w) 9 A.f_law A.d_law ["_law_script"] (ck K 1 (d_law fu)) :=
 cF T.F_law bf eM fun cdv Ar outer s H E hr=>(aC (bc (i:=1) bf.nd rfl (Or.inl rfl) (cg (zR fu T) (hr.mono (by decide)) rfl T.g_j T.F_j.kp T.b_j (ae.passes rfl) (aj (aW (kQ cE (af 0) (fE (aj aD av))) aD (fun _ _=>rfl)) (aj aD av))))
   (aC (mf (eE (aW (af 1) aD (fun _ _=>rfl)) aD) (pd (E:=E0) (af 1) aD))
   (aC (mf (cg (Eg (Iy fu T)) (hr.mono (by decide)) rfl T.g_l T.F_l.kp T.b_l (ae.passes rfl) (aj (kQ cE (fE (aj (aW (af 1) aD (fun _ _=>rfl)) (aj (fT aD (eE (aW (af 1) aD (fun _ _=>rfl)) aD)) av))) (me cE (af 1) (la aD) nS)) av)) (rh rfl (mT (dm (i:=2) bf.nd rfl (Or.inl rfl)) (mT (dm (i:=3) bf.nd rfl (Or.inl rfl)) sf))))
   (aC (bc (i:=4) bf.nd rfl (Or.inl rfl) (cg (IQ fu T) (hr.mono (by decide)) rfl T.g_h T.F_h.kp T.b_h (ae.passes rfl) (aj (af 2) (aj (af 3) av))))
   (aC (bc (i:=5) bf.nd rfl (Or.inl rfl) (aW (fE (aj eS (aj eS av))) (eE (aW (af 1) aD (fun _ _=>rfl)) aD) (fun _ _=>rfl)))
   (aC (bc (i:=6) bf.nd rfl (Or.inl rfl) (fT aD (eE (aW (af 1) aD (fun _ _=>rfl)) aD)))
   (aC (bc (i:=7) bf.nd rfl (Or.inl rfl) (g6 (aj (il (aj (e_ (ml K) (mH K) rfl T.n_tuple boot_tuple (aj (jN cE (g8 (N:=["_law_script", "_law_xs", "_law_many", "_law_lines_here", "_law_board", "_law_rule", "_law_hand", "_law_moments", "_law_deeds", "_law_game", "_law_cell", "_law_good", "_law_what", "_law_due_here"]) (psc:=bb kf) (js:=[]) (N':=["_law_point"]) (by decide +kernel)) rfl rfl (j9 (af 4)) (fun _ _ _ _=>ju) (fun _ _ _ _=>aD)) av)) (aj (af 6) av))) av)))
   (aC (bc (i:=8) bf.nd rfl (Or.inl rfl) (g6 av))
   (aC (bc (i:=9) bf.nd rfl (Or.inl rfl) (cg (zr fu T) (hr.mono (by decide)) rfl T.g_u T.F_u.kp T.b_u (ae.passes rfl) (aj (af 4) (aj (af 5) (aj (af 6) (aj (fE av) av))))))
   (aC (d_ PassesOwn.leaving rfl (fL (me cE (kQ cE (me cE (af 0) (la aD) (la aD)) (me cE (af 1) (la aD) nS)) nS (la (eE (aW (af 1) aD (fun _ _=>rfl)) aD)))) (dm (i:=10) bf.nd rfl (Or.inl rfl))
   (aC (bc (i:=11) bf.nd rfl (Or.inl rfl) (cg (iM (I9 fu T)) (hr.mono (by decide)) rfl T.g_b T.F_b.kp T.b_b (ae.passes rfl) (aj (af 4) (aj (af 5) (aj (af 6) (aj (af 7) (aj (af 8) (aj (af 9) av))))))))
   (aC (bR (rn (af 11)) (aI (bE iI)) bX)
   (aI (bR (kd (hr.cmp 8) (af 11) (fE av)) (aC (bc (i:=12) bf.nd rfl (Or.inl rfl) (aW (af 11) (eE (af 10) (cU (f_ rfl) (fZ K) rfl T.n_len boot_len (aj (af 11) av))) (fun _ _=>rfl)))
   (aC (bc (i:=13) bf.nd rfl (Or.inl rfl) (cg (y9 fu T) (hr.mono (by decide)) rfl T.g_aa T.F_aa.kp T.b_aa (ae.passes rfl) (aj (af 4) (aj (af 5) (aj (af 7) (aj (af 12) av))))))
   (aC (bR (kd (hr.cmp 8) (cg (tY fu T) (hr.mono (by decide)) rfl T.g_r T.F_r.kp T.b_r (ae.passes rfl) (aj (af 9) (aj (af 12) av))) eS) (aI (bE iI)) bX)
   (aC (fq (fB PySem.F.slot_list_append PySem.F.type_list_append gj fY (af 7) (aj (il (aj (aW (af 13) aD (fun _ _=>rfl)) (aj (mj aD (aW (aW (af 7) (mh aD) (fun _ _=>rfl)) aD (fun _ _=>rfl))) av))) av)))
   (aI (fq (fB PySem.F.slot_list_append PySem.F.type_list_append gj fY (af 8) (aj (af 12) av)))))))) bX)))))
   (aI (bE (rj (oS (hr.cmp 8) (lp T.cls_Game T.mt_o (IF fu T) (hr.mono (by decide)) T.b_o (ae.passes rfl) (af 9)) (af 8)) (o9 (oS (hr.cmp 8) (lp T.cls_Game T.mt_i (IP fu T) (hr.mono (by decide)) T.b_i (ae.passes rfl) (af 9)) (jN cE (g8 (N:=["_law_script", "_law_xs", "_law_many", "_law_lines_here", "_law_board", "_law_rule", "_law_hand", "_law_moments", "_law_deeds", "_law_game", "_law_cell", "_law_good", "_law_what", "_law_due_here"]) (psc:=bb kf) (js:=[]) (N':=["_law_one"]) (by decide +kernel)) rfl rfl (fL (af 7)) (fun _ _ _ _=>ju) (fun _ _ _ _=>(aW (af 0) aD (fun _ _=>rfl)))))))))))))))))))
end
theorem all_mk(X:K.In h)(G:h.Ns mainGlobals mg)(hfa:mg "law" = some (.ref fa)){f0:Addr}{f1:Addr}{f2:Addr}{f3:Addr}{f4:Addr}{f5:Addr}{f6:Addr}{f7:Addr}{f8:Addr}{f9:Addr}{f10:Addr}{f11:Addr}{f12:Addr}{f13:Addr}{f14:Addr}{f15:Addr}{f16:Addr}{f17:Addr}{f18:Addr}{f19:Addr}{f20:Addr}{f21:Addr}{f22:Addr}{f23:Addr}{od23 an23:Option Addr}{sl23:Array (Option Value)}{oc23 kV23 dc23 pm23 cd23 ct23:Value}{f24:Addr}{f25:Addr}{f26:Addr}{f27:Addr}{f28:Addr}{f29:Addr}{f30:Addr}{f31:Addr}{f32:Addr}{f33:Addr}{C_Game:Addr}(ac_Game:nsIn K mainGlobals "Game" = some (some (.ref C_Game)))(pg_Game:plainGet K C_Game Str.empty=true)(hd_Game:hasDictIn K C_Game=true)(po_Game:plainOver K C_Game=true)(sa_Game:findIn K (.ref C_Game) "__setattr__" = some (some (.builtin "object.__setattr__")))(mi_Game:makesIn K C_Game=true)(kc_Game:keepIn K (.ref C_Game)=true)(na_Game_barring:findIn K (.ref C_Game) "barring" = some none)(na_Game_done:findIn K (.ref C_Game) "done" = some none)(na_Game_first:findIn K (.ref C_Game) "first" = some none)(na_Game_joined:findIn K (.ref C_Game) "joined" = some none)(na_Game_past:findIn K (.ref C_Game) "past" = some none)(na_Game_takings:findIn K (.ref C_Game) "takings" = some none)(a0:nsIn K mainGlobals "is_whole" = some (some (.ref f0)))(l0:cB K "is_whole" "is_whole" tS f0)(a1:nsIn K mainGlobals "other_hand" = some (some (.ref f1)))(l1:cB K "other_hand" "other_hand" tW f1)(a2:nsIn K mainGlobals "patch_of" = some (some (.ref f2)))(l2:cB K "patch_of" "patch_of" tR f2)(a3:nsIn K mainGlobals "patches" = some (some (.ref f3)))(l3:cB K "patches" "patches" tq f3)(a4:nsIn K mainGlobals "is_stand" = some (some (.ref f4)))(l4:cB K "is_stand" "is_stand" p9 f4)(a5:nsIn K mainGlobals "patch" = some (some (.ref f5)))(l5:cB K "patch" "patch" rX f5)(a6:nsIn K mainGlobals "rows" = some (some (.ref f6)))(l6:cB K "rows" "rows" oZ f6)(a7:nsIn K mainGlobals "breaths" = some (some (.ref f7)))(l7:cB K "breaths" "breaths" pY f7)(a8:nsIn K mainGlobals "points_beside" = some (some (.ref f8)))(l8:cB K "points_beside" "points_beside" ui f8)(a9:nsIn K mainGlobals "is_sound" = some (some (.ref f9)))(l9:cB K "is_sound" "is_sound" p8 f9)(a10:nsIn K mainGlobals "laid" = some (some (.ref f10)))(l10:cB K "laid" "laid" qY f10)(a11:nsIn K mainGlobals "filled" = some (some (.ref f11)))(l11:cB K "filled" "filled" sS f11)(a12:nsIn K mainGlobals "breathless" = some (some (.ref f12)))(l12:cB K "breathless" "breathless" tV f12)(a13:nsIn K mainGlobals "_law_stream" = some (some (.ref f13)))(l13:cB K "_law_stream" "_law_stream" um f13)(a14:nsIn K mainGlobals "_law_joined" = some (some (.ref f14)))(l14:cB K "_law_joined" "_law_joined" oj f14)(a15:nsIn K mainGlobals "_law_lines" = some (some (.ref f15)))(l15:cB K "_law_lines" "_law_lines" lu f15)(a16:nsIn K mainGlobals "_law_row" = some (some (.ref f16)))(l16:cB K "_law_row" "_law_row" tQ f16)(a17:nsIn K mainGlobals "_law_breaths" = some (some (.ref f17)))(l17:cB K "_law_breaths" "_law_breaths" ug f17)(a18:nsIn K mainGlobals "_law_tried" = some (some (.ref f18)))(l18:cB K "_law_tried" "_law_tried" tU f18)(a19:nsIn K mainGlobals "_law_due" = some (some (.ref f19)))(l19:cB K "_law_due" "_law_due" tP f19)(a20:nsIn K mainGlobals "_law_said" = some (some (.ref f20)))(l20:cB K "_law_said" "_law_said" tM f20)(a21:nsIn K mainGlobals "_law_gone" = some (some (.ref f21)))(l21:cB K "_law_gone" "_law_gone" qb f21)(a22:nsIn K mainGlobals "_law_all_right" = some (some (.ref f22)))(l22:cB K "_law_all_right" "_law_all_right" uc f22)(a23:nsIn K mainGlobals "law" = some (some (.ref f23)))(l23:K.lookup f23=some ⟨oc23,od23,.func (fnOf "law" "law" (mI kf) (ku kf) (bb kf) .none kV23 dc23 pm23 an23 cd23 ct23),sl23⟩)(c23:codeIn K cd23 "law" = true)(k23:keepIn K (.ref f23)=true)(a24:findIn K (.ref C_Game) "__init__" = some (some (.ref f24)))(fn24:isFn K (.ref f24)=true)(l24:cB K "__init__" "Game.__init__" uh f24)(a25:findIn K (.ref C_Game) "deed" = some (some (.ref f25)))(fn25:isFn K (.ref f25)=true)(l25:cB K "deed" "Game.deed" tL f25)(a26:findIn K (.ref C_Game) "came_at" = some (some (.ref f26)))(fn26:isFn K (.ref f26)=true)(l26:cB K "came_at" "Game.came_at" uf f26)(a27:findIn K (.ref C_Game) "is_barring" = some (some (.ref f27)))(fn27:isFn K (.ref f27)=true)(l27:cB K "is_barring" "Game.is_barring" ud f27)(a28:findIn K (.ref C_Game) "stand" = some (some (.ref f28)))(fn28:isFn K (.ref f28)=true)(l28:cB K "stand" "Game.stand" tT f28)(a29:findIn K (.ref C_Game) "hand" = some (some (.ref f29)))(fn29:isFn K (.ref f29)=true)(l29:cB K "hand" "Game.hand" tK f29)(a30:findIn K (.ref C_Game) "hand_at" = some (some (.ref f30)))(fn30:isFn K (.ref f30)=true)(l30:cB K "hand_at" "Game.hand_at" ue f30)(a31:findIn K (.ref C_Game) "stands" = some (some (.ref f31)))(fn31:isFn K (.ref f31)=true)(l31:cB K "stands" "Game.stands" uk f31)(a32:findIn K (.ref C_Game) "deeds" = some (some (.ref f32)))(fn32:isFn K (.ref f32)=true)(l32:cB K "deeds" "Game.deeds" t_ f32)(a33:findIn K (.ref C_Game) "ended" = some (some (.ref f33)))(fn33:isFn K (.ref f33)=true)(l33:cB K "ended" "Game.ended" tZ f33){fX0:Addr}{C_Again:Addr}(ac_Again:nsIn K mainGlobals "Again" = some (some (.ref C_Again)))(ex_Again:ux K (clOf K "Again") (clOf K "StoneError") "number" = true)(ex_mAgain:mY K (clOf K "Again") "number" = true)(aX0:findIn K (.ref C_Again) "__init__" = some (some (.ref fX0)))(fnX0:isFn K (.ref fX0)=true)(lX0:cB K "__init__" "Again.__init__" ub fX0){t0:Tok}(q0:nsIn K mainGlobals "MOST_DEEDS" = some (some (.int 300 t0)))(z_ValueError:nsIn K mainGlobals "ValueError" = some none)(z_all:nsIn K mainGlobals "all" = some none)(z_bool:nsIn K mainGlobals "bool" = some none)(z_int:nsIn K mainGlobals "int" = some none)(z_isinstance:nsIn K mainGlobals "isinstance" = some none)(z_len:nsIn K mainGlobals "len" = some none)(z_list:nsIn K mainGlobals "list" = some none)(z_range:nsIn K mainGlobals "range" = some none)(z_sorted:nsIn K mainGlobals "sorted" = some none)(z_str:nsIn K mainGlobals "str" = some none)(z_sum:nsIn K mainGlobals "sum" = some none)(z_tuple:nsIn K mainGlobals "tuple" = some none)(xt:qp K cw=true)(nl:ot K=true)
  : ∃A:qm,Txt K mg A/\fa=A.f_law/\∀(s:Shared) (v:Value),BindsTo s A.d_law ⟨[v],[]⟩ [("_law_script",v)]:=by
 have e:=hfa.symm.trans (mg_of X G a23);cases e;have ec_Game:C_Game=clOf K "Game" := by unfold VS.clOf;rw[ac_Game]
 subst ec_Game;obtain⟨d0,F0⟩:=l0;have b0:=F0.binds (ps:=["thing"]) fun _ _ _ _ _ _ us hl=>VS.us1 (fun _=>rfl) us hl;obtain⟨d1,F1⟩:=l1;have b1:=F1.binds (ps:=["hand"]) fun _ _ _ _ _ _ us hl=>VS.us1 (fun _=>rfl) us hl;obtain⟨d2,F2⟩:=l2;have b2:=F2.binds (ps:=["board", "marks", "start"]) fun _ _ _ _ _ _ us hl=>VS.us3 (fun _ _ _=>rfl) us hl;obtain⟨d3,F3⟩:=l3;have b3:=F3.binds (ps:=["board", "marks"]) fun _ _ _ _ _ _ us hl=>VS.us2 (fun _ _=>rfl) us hl;obtain⟨d4,F4⟩:=l4;have b4:=F4.binds (ps:=["board", "thing"]) fun _ _ _ _ _ _ us hl=>VS.us2 (fun _ _=>rfl) us hl;obtain⟨d5,F5⟩:=l5;have b5:=F5.binds (ps:=["board", "stand", "point"]) fun _ _ _ _ _ _ us hl=>VS.us3 (fun _ _ _=>rfl) us hl;obtain⟨d6,F6⟩:=l6;have b6:=F6.binds (ps:=["board", "stand"]) fun _ _ _ _ _ _ us hl=>VS.us2 (fun _ _=>rfl) us hl;obtain⟨d7,F7⟩:=l7;have b7:=F7.binds (ps:=["board", "stand", "row"]) fun _ _ _ _ _ _ us hl=>VS.us3 (fun _ _ _=>rfl) us hl;obtain⟨d8,F8⟩:=l8;have b8:=F8.binds (ps:=["board", "points"]) fun _ _ _ _ _ _ us hl=>VS.us2 (fun _ _=>rfl) us hl;obtain⟨d9,F9⟩:=l9;have b9:=F9.binds (ps:=["board", "stand"]) fun _ _ _ _ _ _ us hl=>VS.us2 (fun _ _=>rfl) us hl;obtain⟨d10,F10⟩:=l10;have b10:=F10.binds (ps:=["board", "stand", "hand", "point"]) fun _ _ _ _ _ _ us hl=>VS.us4 (fun _ _ _ _=>rfl) us hl;obtain⟨d11,F11⟩:=l11;have b11:=F11.binds (ps:=["stand", "points", "what"]) fun _ _ _ _ _ _ us hl=>VS.us3 (fun _ _ _=>rfl) us hl;obtain⟨d12,F12⟩:=l12;have b12:=F12.binds (ps:=["board", "stand", "hand"]) fun _ _ _ _ _ _ us hl=>VS.us3 (fun _ _ _=>rfl) us hl;obtain⟨d13,F13⟩:=l13;have b13:=F13.binds (ps:=["_law_cell", "_law_many"]) fun _ _ _ _ _ _ us hl=>VS.us2 (fun _ _=>rfl) us hl;obtain⟨d14,F14⟩:=l14;have b14:=F14.binds (ps:=["_law_many", "_law_lines_here"]) fun _ _ _ _ _ _ us hl=>VS.us2 (fun _ _=>rfl) us hl;obtain⟨d15,F15⟩:=l15;have b15:=F15.binds (ps:=["_law_xs"]) fun _ _ _ _ _ _ us hl=>VS.us1 (fun _=>rfl) us hl;obtain⟨d16,F16⟩:=l16;have b16:=F16.binds (ps:=["_law_board", "_law_stand", "_law_point"]) fun _ _ _ _ _ _ us hl=>VS.us3 (fun _ _ _=>rfl) us hl;obtain⟨d17,F17⟩:=l17;have b17:=F17.binds (ps:=["_law_board", "_law_stand", "_law_row_here"]) fun _ _ _ _ _ _ us hl=>VS.us3 (fun _ _ _=>rfl) us hl;obtain⟨d18,F18⟩:=l18;have b18:=F18.binds (ps:=["_law_board", "_law_stand", "_law_hand", "_law_point"]) fun _ _ _ _ _ _ us hl=>VS.us4 (fun _ _ _ _=>rfl) us hl;obtain⟨d19,F19⟩:=l19;have b19:=F19.binds (ps:=["_law_board", "_law_rule", "_law_moments", "_law_what"]) fun _ _ _ _ _ _ us hl=>VS.us4 (fun _ _ _ _=>rfl) us hl;obtain⟨d20,F20⟩:=l20;have b20:=F20.binds (ps:=["_law_game", "_law_what"]) fun _ _ _ _ _ _ us hl=>VS.us2 (fun _ _=>rfl) us hl;obtain⟨d21,F21⟩:=l21;have b21:=F21.binds (ps:=["_law_board", "_law_rule", "_law_hand", "_law_deeds"]) fun _ _ _ _ _ _ us hl=>VS.us4 (fun _ _ _ _=>rfl) us hl;obtain⟨d22,F22⟩:=l22;have b22:=F22.binds (ps:=["_law_board", "_law_rule", "_law_hand", "_law_moments", "_law_deeds", "_law_game"]) fun _ _ _ _ _ _ us hl=>VS.us6 (fun _ _ _ _ _ _=>rfl) us hl;have F23:=vG (st:=kf) l23 c23 k23;have b23:=F23.binds (ps:=["_law_script"]) fun _ _ _ _ _ _ us hl=>VS.us1 (fun _=>rfl) us hl;obtain⟨d24,F24⟩:=l24;have b24:=F24.binds (ps:=["self", "board", "rule", "stand", "hand"]) fun _ _ _ _ _ _ us hl=>VS.us5 (fun _ _ _ _ _=>rfl) us hl;obtain⟨d25,F25⟩:=l25;have b25:=F25.binds (ps:=["self", "what"]) fun _ _ _ _ _ _ us hl=>VS.us2 (fun _ _=>rfl) us hl;obtain⟨d26,F26⟩:=l26;have b26:=F26.binds (ps:=["self", "behind"]) fun _ _ _ _ _ _ us hl=>VS.us2 (fun _ _=>rfl) us hl;obtain⟨d27,F27⟩:=l27;have b27:=F27.binds (ps:=["self", "moment"]) fun _ _ _ _ _ _ us hl=>VS.us2 (fun _ _=>rfl) us hl;obtain⟨d28,F28⟩:=l28;have b28:=F28.binds (ps:=["self"]) fun _ _ _ _ _ _ us hl=>VS.us1 (fun _=>rfl) us hl;obtain⟨d29,F29⟩:=l29;have b29:=F29.binds (ps:=["self"]) fun _ _ _ _ _ _ us hl=>VS.us1 (fun _=>rfl) us hl;obtain⟨d30,F30⟩:=l30;have b30:=F30.binds (ps:=["self", "moment"]) fun _ _ _ _ _ _ us hl=>VS.us2 (fun _ _=>rfl) us hl;obtain⟨d31,F31⟩:=l31;have b31:=F31.binds (ps:=["self"]) fun _ _ _ _ _ _ us hl=>VS.us1 (fun _=>rfl) us hl;obtain⟨d32,F32⟩:=l32;have b32:=F32.binds (ps:=["self"]) fun _ _ _ _ _ _ us hl=>VS.us1 (fun _=>rfl) us hl;obtain⟨d33,F33⟩:=l33;have b33:=F33.binds (ps:=["self"]) fun _ _ _ _ _ _ us hl=>VS.us1 (fun _=>rfl) us hl;have ec_Again:C_Again=clOf K "Again" := by unfold VS.clOf;rw[ac_Again]
 subst ec_Again;obtain⟨dX0,FX0⟩:=lX0;have bX0:=FX0.binds (ps:=["self", "number"]) fun _ _ _ _ _ _ us hl=>VS.us2 (fun _ _=>rfl) us hl;refine⟨⟨_,_,_,_,_,_,_,_,_,_,_,_,_,_,_,_,_,_,_,_,_,_,_,_,_,_,_,_,_,_,_,_,_,_,_,_,_,_,_,_,_,_,_,_,_,_,_,_,_,_,_,_,_,_,_,_,_,_,_,_,_,_,_,_,_,_,_,_,_,_⟩,⟨mg_of X G a0,F0,b0,mg_of X G a1,F1,b1,mg_of X G a2,F2,b2,mg_of X G a3,F3,b3,mg_of X G a4,F4,b4,mg_of X G a5,F5,b5,mg_of X G a6,F6,b6,mg_of X G a7,F7,b7,mg_of X G a8,F8,b8,mg_of X G a9,F9,b9,mg_of X G a10,F10,b10,mg_of X G a11,F11,b11,mg_of X G a12,F12,b12,mg_of X G a13,F13,b13,mg_of X G a14,F14,b14,mg_of X G a15,F15,b15,mg_of X G a16,F16,b16,mg_of X G a17,F17,b17,mg_of X G a18,F18,b18,mg_of X G a19,F19,b19,mg_of X G a20,F20,b20,mg_of X G a21,F21,b21,mg_of X G a22,F22,b22,mg_of X G a23,F23,b23,⟨a24,fn24,F24.kp⟩,F24,b24,⟨a25,fn25,F25.kp⟩,F25,b25,⟨a26,fn26,F26.kp⟩,F26,b26,⟨a27,fn27,F27.kp⟩,F27,b27,⟨a28,fn28,F28.kp⟩,F28,b28,⟨a29,fn29,F29.kp⟩,F29,b29,⟨a30,fn30,F30.kp⟩,F30,b30,⟨a31,fn31,F31.kp⟩,F31,b31,⟨a32,fn32,F32.kp⟩,F32,b32,⟨a33,fn33,F33.kp⟩,F33,b33,ex_mAgain,AA ex_Again aX0 fnX0,FX0,bX0,⟨pg_Game,hd_Game,po_Game,sa_Game⟩,⟨mi_Game,a24,fn24,kc_Game⟩,mg_of X G ac_Game,na_Game_barring,na_Game_done,na_Game_first,na_Game_joined,na_Game_past,na_Game_takings,⟨_,mg_of X G q0⟩,mg_none_of X G z_ValueError,mg_none_of X G z_all,mg_none_of X G z_bool,mg_none_of X G z_int,mg_none_of X G z_isinstance,mg_none_of X G z_len,mg_none_of X G z_list,mg_none_of X G z_range,mg_none_of X G z_sorted,mg_none_of X G z_str,mg_none_of X G z_sum,mg_none_of X G z_tuple,AF X G xt,nl⟩,rfl,fun s v=>.of_eq rfl⟩
end K17
variable {o:Int} {r row pts:List Nat} {ls:List (Nat×Nat)} {ns is':List Int} {w1 mo:W} {x5:Option W} {k':Nat} {s':Bool}
namespace K17
def FU:Nat:=1000
theorem aS{w:Option W}{b:DS}(q:Run b sl' ce Q)(h:cx sl i w sl':=by repeat (first|exact cx.zero|apply cx.succ)):Run b (sl.set i w) ce Q:=zT h q
local macro_rules|`(tactic| trivial)=>`(tactic| repeat' (first
 | with_reducible (refine zT (by repeat (first|exact cx.zero|apply cx.succ)) ?_)
 | with_reducible (refine id (α:=_=some (R.ok _ _)) ?_;assumption)
 | (with_reducible apply ax);rfl
 |with_reducible first|exact aU|apply bG|apply mw|apply fP|apply bN|apply dj|apply aK|exact aM|apply cJ|apply nY|apply mz|apply k_|exact ev_yes|apply vz|apply lX|apply rM|exact oy|exact eqE0|exact eqE1|exact eqEN0|exact eqEN1|exact uN|exact inS0|exact inS1|exact inSL0|exact inSL1|exact inL0|exact inL1
 | with_reducible (apply inC0;assumption)
 | with_reducible (apply As;assumption)
 | with_reducible (apply dinC0;assumption)
 | with_reducible (apply Bu;assumption)
 | ((with_reducible apply qN);trivial;done)
 |with_reducible first|apply qF|apply uO|apply m8|apply uu|apply qG|apply uv|apply iL|apply kg|apply mx|apply nA|apply oX|apply bp.is
 | with_reducible (refine id (α:=a_ _ _ _) ?_;first|assumption|exact .fr _|exact .cl (by assumption))
 |with_reducible first|apply h_|apply CN|apply iO|apply e9|apply jm|apply FQ|exact lf_isB0|exact lf_isB1|exact eqB0|exact eqB1|exact isiB|exact rH
 | with_reducible (apply Ek;assumption)
 |with_reducible first|exact pD|apply dY|apply rN|apply v7|apply CM|apply xb|apply bL|apply mB|apply iA|apply fS|apply ba|apply kj|apply Ep|apply bS|apply gG|apply du|apply iu
 | with_reducible (refine id (α:=_=_) ?_;assumption)
 | (refine id (α:=(_:Nat)<_) ?_;first|assumption|omega)
 | (refine id (α:=(_:Nat)<=_) ?_;first|assumption|omega|decide|(simp only[length_cons,length_nil];decide))
 | with_reducible (apply CL;first|assumption|omega)
 | with_reducible (apply ie;first|assumption|omega)
 | with_reducible (apply v5;first|assumption|omega)
 | with_reducible (apply v3;assumption;first|assumption|omega)
 | with_reducible (apply fC;assumption)
 | with_reducible (apply ki;assumption;first|assumption|omega)
 | with_reducible (apply lf_sortCF;assumption;first|assumption|omega)
 | with_reducible (apply tupCN;assumption;first|assumption|omega)
 | with_reducible (apply tupCB;assumption;first|assumption|omega)
 | with_reducible (apply qM;assumption;first|assumption|omega)
 | with_reducible (apply tupLN;first|assumption|omega)
 | with_reducible (apply u4;first|assumption|omega)
 | with_reducible (apply qL;first|assumption|omega)
 | ((with_reducible apply El);rfl;rfl;first|assumption|exact mul_small (.inr (by omega))|exact mul_small (.inl (by omega)))
 | with_reducible (apply lf_listL;first|assumption|omega)
 | with_reducible (apply lf_sortS;first|assumption|omega)
 |with_reducible exact eqLL0
 |with_reducible exact eqLL1
 | with_reducible (apply eqLC1;assumption)
 | with_reducible (apply eqSC1;assumption)
 |with_reducible first|exact xa|exact lf_lenS|exact En
 | with_reducible (apply Eo;assumption)
 | intro _
 | ((with_reducible apply k9)<;>rfl)
 | ((with_reducible apply pA)<;>rfl)
 | ((with_reducible apply rL)<;>rfl)
 | ((with_reducible apply lf_fLe)<;>rfl)
 | ((with_reducible apply rK)<;>rfl)
 | ((with_reducible apply lf_fGe)<;>rfl)
 | ((with_reducible apply pw)<;>rfl)
 | ((with_reducible apply w_)<;>rfl)
 | ((with_reducible apply lf_fNeg);rfl)
 | ((with_reducible apply BO);rfl)
 |with_reducible first|exact isiN|exact isiNB|exact isiI|exact isiIB
 | ((with_reducible apply lf_min)<;>rfl)
 | ((with_reducible apply lf_max)<;>rfl)
 | ((with_reducible apply nX);rfl;rfl;omega)
 | ((with_reducible apply w9);rfl;rfl;omega)
 | (refine id (α:=(_:Nat)=_) ?_;rfl)
 | with_reducible rfl))
def rC(r:List Nat):C:=.lst (r.map nW)
def jx(rows:List (List Nat))(p q:Nat):List (List Nat):=rows.set p (rows.getD p []++[q])
def m9(rows:List (List Nat))(p q:Nat):List (List Nat):=jx (jx rows p q) q p
theorem sG(rows:List (List Nat))(p q:Nat):(jx rows p q).length=rows.length:=by simp[jx]
theorem xF(rows:List (List Nat))(p q:Nat):(m9 rows p q).length=rows.length:=by simp[m9,sG]
theorem pI{rows:List (List Nat)}(hp:p<rows.length)(q i:Nat):(jx rows p q).getD i []=if i=p then rows.getD p []++[q] else rows.getD i []:=by
 unfold jx;simp only[getD_eq_getElem?_getD]
 by_cases h:i=p
 ·subst h;simp[hp]
 ·rw[getElem?_set_ne (Ne.symm h)];simp[h]
structure Rows (n:Nat) (rows:List (List Nat)):Prop where
 len:rows.length=n
 bd:∀i j,j∈rows.getD i []->j<n
 sym:∀i j,j∈rows.getD i []->i∈rows.getD j []
section
variable {mS:Nat} {rows:List (List Nat)} {gs:Ce}
abbrev i7(ce:Ce)(n:Nat):W:=.lst ((List.range n).map fun i=>W.cel (ce.length+i))
abbrev bC(ce:Ce)(rows:List (List Nat))(gs:Ce):Ce:=ce++(rows.map rC++gs)
theorem vQ(hp:p<rows.length):(bC ce rows gs)[ce.length+p]?=some (rC (rows.getD p [])):=by rw[oH,getElem?_append_left (by simpa using hp),getElem?_map,getD_eq_getElem?_getD];simp[hp]
theorem BY(hp:p<rows.length):(bC ce rows gs).set (ce.length+p) (.lst ((rows.getD p []).map nW++[nW q]))=bC ce (jx rows p q) gs:=by
 rw[uP,set_append_left _ _ (by simpa using hp)];show _=ce++((rows.set p (rows.getD p []++[q])).map rC++gs);rw[map_set];have e:C.lst ((rows.getD p []).map nW++[nW q])=rC (rows.getD p []++[q]):=by simp only[rC,map_append,map_cons,map_nil]
 rw[e]
theorem BX(c:Ce)(hp:p<n):aB c (i7 ce n) (nW p)=some (W.cel (ce.length+p)):=by rw[ji (xs:=(List.range n).map fun i=>W.cel (ce.length+i)) rfl,getElem?_map];simp[hp]
theorem zX{a b:Nat}(h4:sl[mS]?=some (some (i7 ce n)))(ha:sl[a]?=some (some (nW p)))(hb:sl[b]?=some (some (nW q)))(hr:rows.length=n)(hp:p<n)(hz:(rows.getD p []).length<sizeLine) :
  cG (cO cM (aE aB (aa mS) (aa a)) (ah (aa b) ai)) sl (bC ce rows gs)=some (.go .nx sl (bC ce (jx rows p q) gs)):=by
 have hp':p<rows.length:=by omega
 have g:=vQ (ce:=ce) (gs:=gs) hp';have e1:aE aB (aa mS) (aa a) sl (bC ce rows gs)=some (.ok (W.cel (ce.length+p)) (bC ce rows gs)):=by simp only[CC,oQ,o4,h4,ha,wc,BX _ hp,map_some]
 have e2:ah (aa b) ai sl (bC ce rows gs)=some (.ok [nW q] (bC ce rows gs)):=by simp only[wO,oQ,o4,hb,wb,vj]
 have lq:i9 (bC ce rows gs) (W.cel (ce.length+p))=some ():=by unfold i9;rw[fC (xs:=(rows.getD p []).map nW) g];rfl
 have ap:cM (W.cel (ce.length+p)) [nW q] (bC ce rows gs)=some (.ok .non (bC ce (jx rows p q) gs)):=by rw[oP (km (xs:=(rows.getD p []).map nW) g) (by rw[length_map];exact hz),BY hp']
 generalize bC ce rows gs=c1 at *;generalize bC ce (jx rows p q) gs=c2 at *;simp only[Bx,Bv,oQ,A_,wc,e1,e2,lq,ap,map_some]
theorem Jp{a b:Nat}(h4:sl[mS]?=some (some (i7 ce n)))(ha:sl[a]?=some (some (nW p)))(hb:sl[b]?=some (some (nW q)))(hr:rows.length=n)(hp:p<n)(hq:q<n)(hz:∀i,(rows.getD i []).length<1000) :
  aq (cG (cO cM (aE aB (aa mS) (aa a)) (ah (aa b) ai))) (cG (cO cM (aE aB (aa mS) (aa b)) (ah (aa a) ai))) sl (bC ce rows gs)=some (.go .nx sl (bC ce (m9 rows p q) gs)):=by
 have z:(1001:Nat)<sizeLine:=by decide
 rw[wQ (zX h4 ha hb hr hp (by have:=hz p;omega))];refine zX h4 hb ha (by rw[sG];exact hr) hq ?_;rw[pI (by omega)];split
 ·have:=hz p;rw[length_append,length_singleton];omega
 ·have:=hz q;omega
theorem Hl(hp:p<rows.length)(h:(rows.getD p []).length<=60)(cs:Sl):aT fD (ah (aT (eO aQ) (ah (aa 0) ai)) ai) (some (W.cel (ce.length+p))::cs) (bC ce rows gs)=some (.ok (wT (b_ (rows.getD p []))) (bC ce rows gs)):=by
 have g:=vQ (ce:=ce) (gs:=gs) hp;have hz:(61:Nat)<sizeLine:=by decide
 have l1:(fF (cj (rows.getD p []))).length=(rows.getD p []).length:=by rw[(jr _).length_eq,mU]
 have so:eO aQ [W.cel (ce.length+p)] (bC ce rows gs)=some (.ok (.lst ((b_ (rows.getD p [])).map nW)) (bC ce rows gs)):=by simp only[eO,fC (xs:=(rows.getD p []).map nW) g,pJ,mU];rw[if_pos (by omega),rf _ (by rw[length_map,l1];omega),n4]
 have tu:fD [.lst ((b_ (rows.getD p [])).map nW)] (bC ce rows gs)=some (.ok (wT (b_ (rows.getD p []))) (bC ce rows gs)):=by
  have e:((b_ (rows.getD p [])).map nW).length=(rows.getD p []).length:=by rw[<- n4,length_map,l1]
  show qB _ _=_;rw[CB _ (by rw[e];omega)];rfl
 generalize bC ce rows gs=c1 at *;simp only[Bw,oQ,wO,o4,getElem?_cons_zero,wb,vj,so,tu]
theorem Iq(hr:rows.length=n)(h36:n<=36)(h:∀i,(rows.getD i []).length<=60)(h4:sl[mS]?=some (some (i7 ce n))) :
  cK aQ [] (dG (aa mS)) cZ (aT fD (ah (aT (eO aQ) (ah (aa 0) ai)) ai)) sl (bC ce rows gs)=some (.ok (.lst (((List.range n).map fun i=>b_ (rows.getD i [])).map wT)) (bC ce rows gs)):=by
 have hz:=fy;have hi:dG (aa mS) sl (bC ce rows gs)=some (.ok (.lst ((List.range n).map fun i=>W.cel (ce.length+i))) (bC ce rows gs)):=by show au (aa mS sl) (fun w=>look fun ce=>fM ce w) (bC ce rows gs)=_;rw[gF (a:=i7 ce n) (ce':=bC ce rows gs) (by simp only[o4,h4])];rfl
 obtain⟨zs,e,pz⟩:=Cu (mk:=aQ) (js:=[]) (s:=.lst ((List.range n).map fun i=>W.cel (ce.length+i))) (e:=aT fD (ah (aT (eO aQ) (ah (aa 0) ai)) ai)) hi trivial (fun x y=>∃i,i<n/\x=W.cel (ce.length+i)/\y=wT (b_ (rows.getD i []))) (fun x hx=>by
  simp only[Src.items,mem_map,mem_range] at hx;obtain⟨i,hi,rfl⟩:=hx;exact⟨_,⟨i,hi,rfl,rfl⟩,Hl (by omega) (h i) _⟩) (by simp only[Src.items,length_map,length_range];omega)
 rw[e];obtain⟨hl,hn⟩:=VS.Paired.nth pz;simp only[Src.items,length_map,length_range] at hl;have ez:zs=((List.range n).map fun i=>b_ (rows.getD i [])).map wT:=by
  apply ext_getElem?;intro i
  by_cases hi:i<n
  ·have h1:((List.range n).map fun i=>W.cel (ce.length+i))[i]?=some (W.cel (ce.length+i)):=by simp[hi]
   have h2:zs[i]?=some (zs[i]'(by omega)):=getElem?_eq_getElem _;obtain⟨j,_,q1,q2⟩:=hn i _ _ h1 h2;have hij:i=j:=by injection q1 with q1;omega
   subst hij;rw[h2,q2];simp[hi]
  ·rw[getElem?_eq_none (by omega),getElem?_eq_none (by simp;omega)]
 rw[rf _ (by rw[<- hl];omega),ez]
theorem F_(hi:di sl ce=some (.ok (.rng 0 n) ce))(h36:n<=36):cK aQ [] di cZ (dZ ai) sl ce=some (.ok (i7 ce n) (bC ce (List.replicate n []) [])):=by have hz:=fy;show au (di sl) (fun s=>au (dF s (c5 [] sl) cZ (dZ ai) s.items []) aQ) ce=_;have al:=yJ (s:=.rng 0 n) (cs:=c5 [] sl) (fun _=>trivial) (Src.rng 0 n).items [] ce (by rw[tI];simp;omega);rw[gF hi,gF al,tI,rf _ (by simp;omega)];simp[bC,rC,i7]
end
theorem nr{P:W->Ce->Prop}(sl:Sl)(e:ws.map some++List.replicate (n-ws.length) none=sl)(h:Run body sl ce (Rt fun v ce'=>∃w c',fin ce ce' v=some (.ok w c')/\P w c')):∃w c',bJ fin n body ws ce=some (.ok w c')/\P w c':=by
 subst e;obtain⟨o,e,q⟩:=h;cases o with
 | ex x c=>exact q.elim
 | go f sl c=>cases f with
  | rt w =>
   obtain⟨w',c',h1,h2⟩:=q;exact⟨w',c',v8 e h1,h2⟩
  | nx=>exact q.elim
  | bk=>exact q.elim
  | ct=>exact q.elim
theorem sF{d:List Nat}(e:d++p::r=List.range n):d=List.range p:=by
 have hl:d.length<n:=by have:=congrArg List.length e;simp at this;omega
 have h1:(List.range n)[d.length]?=some p:=by rw[<- e];simp
 rw[getElem?_range hl] at h1;cases h1;have h2:(List.range n).take d.length=d:=by rw[<- e];simp
 rw[<- h2,take_range,min_eq_left (le_of_lt hl)];simp
structure LsOk (n:Nat) (ls:List (Nat×Nat)):Prop where
 nd:ls.Nodup
 lt:∀p∈ls,p.1<p.2/\p.2<n
theorem kY{a b:Sl->M W}{x y:W}(ha:a sl ce=some (.ok x c1))(hb:b sl c1=some (.ok y c2))(hx:bP c2 x=some xs)(hy:bP c2 y=some ys)(hz:xs.length+ys.length<=sizeLine) :
  fN aQ a b sl ce=some (.ok (.lst (xs++ys)) c2):=by
 simp only[fN,au,ha,hb,qA,hx,hy,if_pos hz];exact ir (by rw[length_append];exact hz)
theorem bM{α β:Type}{f:α->β}{l:List α}(h:l.Nodup)(inj:∀x y,f x=f y->x=y):(l.map f).Nodup:=List.Pairwise.map f (fun a b hab e=>hab (inj a b e)) h
def dN(ls:List (Nat×Nat))(i:Nat):List Nat:=ls.filterMap fun p=>if p.1=i then some p.2 else if p.2=i then some p.1 else none
theorem pH(h:LsOk n ls):j∈dN ls i↔(i,j)∈ls\/(j,i)∈ls:=by
 unfold dN;rw[mem_filterMap];constructor
 ·rintro⟨⟨a,b⟩,hp,e⟩;simp only at e;split at e
  ·cases e;rename_i h1;subst h1;exact .inl hp
  ·split at e
   ·cases e;simp_all
   ·cases e
 ·rintro(hp|hp)
  ·exact⟨(i,j),hp,by simp⟩
  ·have:=(h.lt _ hp).1;simp only at this;refine⟨(j,i),hp,?_⟩;simp only;rw[if_neg (by omega)];simp
theorem qX(h:LsOk n ls)(i:Nat):(dN ls i).Nodup:=by
 unfold dN;refine List.Pairwise.filterMap _ ?_ (List.Pairwise.and_mem.mp h.nd);rintro⟨a,b⟩ ⟨c,d⟩ ⟨h1,h2,hne⟩ x hx y hy e;subst e;have l1:=(h.lt _ h1).1;have l2:=(h.lt _ h2).1;simp only at hx hy l1 l2;apply hne;split at hx<;>split at hy
 ·cases hx;cases hy;simp_all
 ·split at hy
  ·cases hx;cases hy;simp_all;omega
  ·cases hy
 ·split at hx
  ·cases hx;cases hy;simp_all;omega
  ·cases hx
 ·split at hx
  ·split at hy
   ·cases hx;cases hy;simp_all
   ·cases hy
  ·cases hx
theorem nQ(h:LsOk n ls)(hj:j∈dN ls i):j<n/\i<n:=by
 rcases(pH h).mp hj with hp|hp<;>(have:=h.lt _ hp;simp only at this;omega)
def fV(n:Nat)(ls:List (Nat×Nat)):List (List Nat):=(List.range n).map fun i=>b_ (dN ls i)
theorem pQ(n:Nat)(ls:List (Nat×Nat))(i:Nat):(fV n ls).getD i []=if i<n then b_ (dN ls i) else []:=by
 unfold fV;rw[getD_eq_getElem?_getD,getElem?_map]
 by_cases h:i<n
 ·simp[h]
 ·rw[getElem?_eq_none (by simp;omega)];simp[h]
structure jG (b:List (List Nat)):Prop where
 bd:Bd b
 sym:Sym b
 h36:b.length<=36
 pos:0<b.length
 row:∀i,(b.getD i []).length<=36
 fF:∀i,b_ (b.getD i [])=b.getD i []
theorem Hk{m:List Nat}(h:l.Perm m):b_ l=b_ m:=by unfold b_;rw[GO h]
theorem Gp(l:List Nat):(b_ l).Perm l:=by
 have h:(b_ l).Perm ((cj l).map Int.toNat):=(jr (cj l)).map _;have e:(cj l).map Int.toNat=l:=by
  unfold cj;rw[map_map]
  conv=>rhs;rw[<- map_id l]
  apply map_congr_left;intro x _;simp
 rwa [e] at h
theorem Gn(l:List Nat):b_ (b_ l)=b_ l:=Hk (Gp l)
theorem Dc(h:LsOk n ls)(h0:0<n)(h36:n<=36):jG (fV n ls):=by
 have hl:(fV n ls).length=n:=by simp[fV]
 refine⟨fun r hr x hx=>?_,fun i j hj=>?_,by omega,by omega,fun i=>?_,fun i=>?_⟩
 ·obtain⟨i,hi,rfl⟩:=mem_map.mp hr;rw[hl];exact(nQ h ((pU _ _).mp hx)).1
 ·rw[pQ] at hj ⊢;split at hj
  ·have hj:=(pU _ _).mp hj;rw[if_pos (nQ h hj).1];exact(pU _ _).mpr ((pH h).mpr ((pH h).mp hj).symm)
  ·simp at hj
 ·rw[pQ];split
  ·rw[mQ];exact le_trans (eA (qX h i) fun x hx=>(nQ h hx).1) h36
  ·simp
 ·rw[pQ];split
  ·exact Gn _
  ·exact length_eq_zero_iff.mp (mQ [])
theorem C_(d:List (Nat×Nat))(p q i:Nat)(hpq:p≠q):dN (d++[(p,q)]) i=dN d i++((if i=p then [q] else [])++(if i=q then [p] else [])):=by
 unfold dN;rw[filterMap_append];congr 1
 by_cases h1:i=p
 ·subst h1;have:¬i=q:=hpq;simp[this]
 ·by_cases h2:i=q
  ·subst h2;simp[h1,hpq]
  ·have h1':¬p=i:=fun e=>h1 e.symm;have h2':¬q=i:=fun e=>h2 e.symm;simp[h1,h2,h1',h2']
theorem FZ(n:Nat)(d:List (Nat×Nat))(hp:p<n)(hq:q<n)(hpq:p≠q):m9 ((List.range n).map (dN d)) p q=(List.range n).map (dN (d++[(p,q)])):=by
 have gd:∀(e:List (Nat×Nat)) (i:Nat),i<n->((List.range n).map (dN e)).getD i []=dN e i:=fun e i hi=>by simp[getD_eq_getElem?_getD,hi]
 apply ext_getElem?;intro i
 by_cases hi:i<n
 ·have e1:∀(l:List (List Nat)),l.length=n->l[i]?=some (l.getD i []):=fun l hl=>by
   rw[getD_eq_getElem?_getD,getElem?_eq_getElem (by omega)];rfl
  rw[e1 _ (by rw[xF];simp),e1 _ (by simp),gd _ i hi,C_ d p q i hpq];unfold m9;rw[pI (by rw[sG];simpa using hq),pI (by simpa using hp),pI (by simpa using hp),gd _ _ hp,gd _ _ hq,gd _ _ hi];congr 1
  by_cases h1:i=q
  ·subst h1;rw[if_pos rfl,if_neg (Ne.symm hpq),if_pos rfl,if_neg (Ne.symm hpq)];simp
  ·rw[if_neg h1,if_neg h1]
   by_cases h2:i=p
   ·subst h2;simp
   ·simp[h2]
 ·rw[getElem?_eq_none (by rw[xF];simp;omega),getElem?_eq_none (by simp;omega)]
theorem BW{a:Sl->M W}{x:W}{i:Int}(ha:a sl ce=some (.ok x c1))(hx:bP c1 x=some xs)(ei:i=(n:Int))(h:n<=xs.length)(hz:xs.length<=sizeLine):eV aQ a (dP (dC (.int i))) ft sl ce=some (.ok (.lst (xs.drop n)) c1):=by
 subst ei;have e1:HT.sIx xs.length 0 (some (n:Int))=n:=by rw[HT.sIx_nat];omega
 have e2:HT.sIx xs.length xs.length none=xs.length:=rfl;have hb':dP (dC (.int (n:Int))) sl c1=some (.ok (some (n:Int)) c1):=k7 aU;simp only[eV,au,ha,ft,VS.ret,hb',oo,hx,jc,e1,e2];rw[take_of_length_le (by rw[length_drop];omega)];refine ir ?_;rw[length_drop];omega
theorem pG{a:Sl->M W}{x:W}{dl dh:Sl->M (Option Int)}{lo hi:Option Int}(ha:a sl ce=some (.ok x c1))(hl:dl sl c1=some (.ok lo c2))(hh:dh sl c2=some (.ok hi c3))(hx:bP c3 x=some xs)(hz:xs.length<=sizeLine):eV aQ a dl dh sl ce=some (.ok (.lst (jc xs lo hi)) c3):=by simp only[eV,au,ha,hl,hh,oo,hx];refine ir ?_;unfold jc;rw[length_take,length_drop];omega
theorem tj(xs:List Int)(lo hi:Option Int):∃ys:List Int,jc (xs.map W.int) lo hi=ys.map W.int/\ys.length<=xs.length/\∀y∈ys,y∈xs:=by unfold jc;rw[<- map_drop,<- map_take];exact⟨_,rfl,by rw[length_take,length_drop];omega,fun y hy=>mem_of_mem_drop (mem_of_mem_take hy)⟩
theorem yY(fu:Nat)(c:Int){m:Nat}(hm:m<=999):∃xs:List Int,d_j fu [.int c,nW m] ce=some (.ok (.cel ce.length) (ce++[.lst (xs.map W.int)]))/\xs.length=m/\∀x∈xs,0<=x/\x<2147483647:=by
 have hz:1100<sizeLine:=by decide
 suffices hs:∃w c',d_j fu [.int c,nW m] ce=some (.ok w c')/\∃xs:List Int,w=.cel ce.length/\c'=ce++[.lst (xs.map W.int)]/\xs.length=m/\∀x∈xs,0<=x/\x<2147483647 by
  obtain⟨w,c',e,xs,rfl,rfl,h⟩:=hs;exact⟨xs,e,h⟩
 have f1:c7 (nW m) (.int 1)=some (nW (m+1)):=k9 (i:=m) (j:=1) rfl rfl;have m1000:m+1<=1000:=by omega
 unfold d_j;refine nr [some (.int c),some (nW m),none,none,none] rfl ?_;refine ba (iO aM (zero_le _)) ?_;refine aS ?_;have O0:=(Own.start ce).alloc (C.lst []);generalize hk:ce.length=k2 at O0 ⊢;generalize ce++[C.lst []]=c0 at O0 ⊢;refine ba (w:=.int (c % 2147483647+48271)) (ce':=c0) (by trivial) ?_;refine aS ?_;refine iN (zs:=List.range (m+1)) (en:=nW) (iL (by trivial) m1000)
  (fun d sl c'=>∃xs:List Int,∃u:Int,∃x4,sl=[some (.int c),some (nW m),some (.cel k2),some (.int u),x4]/\Own ce c' [(k2,C.lst (xs.map W.int))]/\0<=u/\u<4294967296/\xs.length=d.length/\∀x∈xs,0<=x/\x<2147483647)
  ⟨[],_,_,rfl,O0,by omega,by omega,rfl,by simp⟩ ?_ ?_
 ·rintro d j r sl c' e hj ⟨xs,u,x4,rfl,O,u0,u1,hl,hx⟩;have hj:=mem_range.mp hj;have hdl:d.length<=1000:=by have:=congrArg List.length e;simp at this;omega
  have g2:=O.g0;have hm2:(xs.map W.int).length<sizeLine:=by rw[length_map];omega
  have mu:fh u u:=.inl (by omega);have mu2:fh 48271 u:=.inl (by omega);unfold zP;trivial;refine⟨xs++[(u*u+48271*u+(j:Int)) % 2147483647],_,_,rfl,by rw[map_append];exact O.set0 _,by omega,by omega,by simp[hl],fun x hx'=>?_⟩;rcases mem_append.mp hx' with h|h
  ·exact hx x h
  ·rw[mem_singleton] at h;subst h;omega
 ·rintro sl c' ⟨xs,u,x4,rfl,O,u0,u1,hl,hx⟩;rw[length_range] at hl;have hsl:eV eI (aa 2) (dP (dC (.int 1))) ft [some (.int c),some (nW m),some (.cel k2),some (.int u),x4] c'=some (.ok (.cel c'.length) (c'++[.lst ((xs.drop 1).map W.int)])):=by
   have e1:HT.sIx (xs.map W.int).length 0 (some ((1:Nat):Int))=1:=by rw[HT.sIx_nat];rw[length_map];omega
   have e2:HT.sIx (xs.map W.int).length (xs.map W.int).length none=(xs.map W.int).length:=rfl;have hb':dP (dC (.int ((1:Nat):Int))) [some (.int c),some (nW m),some (.cel k2),some (.int u),x4] c'=some (.ok (some ((1:Nat):Int)) c'):=k7 aU;have hv:aa 2 [some (.int c),some (nW m),some (.cel k2),some (.int u),x4] c'=some (.ok (.cel k2) c'):=ax rfl;show eV eI (aa 2) (dP (dC (.int ((1:Nat):Int)))) ft [some (.int c),some (nW m),some (.cel k2),some (.int u),x4] c'=_;simp only[eV,au,hv,ft,VS.ret,hb',oo,fC O.g0,jc,e1,e2];rw[take_of_length_le (by rw[length_drop];omega),map_drop];exact kr (by rw[length_drop,length_map];omega)
  refine bL hsl ?_;subst hk;have O2:=O.alloc (C.lst ((xs.drop 1).map W.int));exact⟨_,_,O2.finO (by simp only[eK];exact bx _ _),xs.drop 1,rfl,rfl,by rw[length_drop];omega,fun x hx'=>hx x (mem_of_mem_drop hx')⟩
theorem Gk(fu:Nat)(c:Int){m:Nat}(hm:m<=999):∃xs:List Int,cY (d_j fu) [.int c,nW m] ce=some (.ok (sW xs) ce)/\xs.length=m/\∀x∈xs,0<=x/\x<2147483647:=by obtain⟨xs,e,h⟩:=yY (ce:=ce) fu c hm;exact⟨xs,jv e (bx _ _),h⟩
theorem Gj(fu:Nat)(n0:0<n)(h36:n<=36)(L:LsOk n ls):d_h fu [nW n,.lst (ls.map pW)] ce=some (.ok (wB (fV n ls)) ce):=by
 have hz:=fy;unfold d_h;refine dD [some (nW n),some (.lst (ls.map pW)),none,none,none] rfl ?_;refine ba (F_ (ce:=ce) (n:=n) (rM (by trivial) (by omega)) (by omega)) ?_;refine aS ?_;refine FO (zs:=ls) (fa:=fun p=>nW p.1) (fb:=fun p=>nW p.2) (c1:=bC ce (List.replicate n []) []) (kg (by trivial))
  (fun d sl c=>∃x3 x4,sl=[some (nW n),some (.lst (ls.map pW)),some (i7 ce n),x3,x4]/\c=bC ce ((List.range n).map (dN d)) [])
  ⟨_,_,rfl,by
   congr 2;apply ext_getElem?;intro i
   by_cases hi:i<n
   ·simp[hi,dN]
   ·rw[getElem?_eq_none (by simp;omega),getElem?_eq_none (by simp;omega)]⟩ ?_ ?_
 ·rintro d ⟨p,q⟩ r sl c e hp ⟨x3,x4,rfl,rfl⟩;have lt:=L.lt _ hp;simp only at lt;have Ld:LsOk n d:=by rw[<- e] at L;exact⟨(nodup_append.mp L.nd).1,fun x hx=>L.lt x (mem_append_left _ hx)⟩
  have hz2:∀i,(((List.range n).map (dN d)).getD i []).length<1000:=fun i=>by
   by_cases hi:i<n
   ·have:((List.range n).map (dN d)).getD i []=dN d i:=by simp[getD_eq_getElem?_getD,hi]
    rw[this];have:=eA (qX Ld i) fun x hx=>(nQ Ld hx).1;omega
   ·rw[getD_eq_getElem?_getD,getElem?_eq_none (by simp;omega)];simp
  unfold zO;refine CO (Jp (ce:=ce) (n:=n) (mS:=2) (rows:=(List.range n).map (dN d)) (gs:=[]) (sl:=[some (nW n),some (.lst (ls.map pW)),some (i7 ce n),some (nW p),some (nW q)]) (a:=3) (b:=4) (p:=p) (q:=q) rfl rfl rfl (by simp) (by omega) (by omega) hz2) ?_;exact⟨_,_,rfl,by rw[FZ n d (by omega) (by omega) (by omega)]⟩
 ·rintro sl c ⟨x3,x4,rfl,rfl⟩;have hb60:∀i,(((List.range n).map (dN ls)).getD i []).length<=60:=fun i=>by
   by_cases hi:i<n
   ·have:((List.range n).map (dN ls)).getD i []=dN ls i:=by simp[getD_eq_getElem?_getD,hi]
    rw[this];have:=eA (qX L i) fun x hx=>(nQ L hx).1;omega
   ·rw[getD_eq_getElem?_getD,getElem?_eq_none (by simp;omega)];simp
  have er:=Iq (ce:=ce) (gs:=[]) (mS:=2) (rows:=(List.range n).map (dN ls)) (n:=n) (by simp) (by omega) hb60 (sl:=[some (nW n),some (.lst (ls.map pW)),some (i7 ce n),x3,x4]) rfl;have eb:((List.range n).map fun i=>b_ (((List.range n).map (dN ls)).getD i []))=fV n ls:=by unfold fV;apply map_congr_left;intro i hi;have hi:=mem_range.mp hi;simp[getD_eq_getElem?_getD,hi]
  rw[eb] at er;have hlb:(fV n ls).length<=sizeLine:=by simp[fV];omega
  refine bL (cJ (aK er aM) (u4 hlb)) ?_;have Oe:Own ce (bC ce ((List.range n).map (dN ls)) []) []:=⟨⟨_,rfl⟩,by simp,by simp,by simp⟩
  exact Oe.finC (CP _ _)
theorem nP(h:p<ns.length)(c:Ce){i:Int}(ei:i=(p:Int)):aB c (sW ns) (.int i)=some (.int (ns.getD p 0)):=by subst ei;show aB c (.lst (ns.map W.int)) (nW p)=_;rw[ji (xs:=ns.map W.int) rfl,getElem?_map,getD_eq_getElem?_getD,getElem?_eq_getElem h];rfl
theorem sE(h:p<ns.length):ns.getD p 0∈ns:=by rw[getD_eq_getElem?_getD,getElem?_eq_getElem h];exact getElem_mem h
theorem FY(fu:Nat){xs:List Int}(hx3:3<=xs.length)(hx:∀x∈xs,0<=x/\x<2147483647) :
  ∃many ls,lM (d_l fu) [sW xs] ce=some (.ok (.tup [nW many,.lst (ls.map pW)]) ce)/\0<many/\many<=36/\LsOk many ls:=by
 have hz:2000<sizeLine:=by decide
 have z2:2<=sizeLine:=by decide
 have z4:4<=sizeLine:=by decide
 suffices h:∃w c,d_l fu [sW xs] ce=some (.ok w c)/\∃many ls l,Own ce c l/\eJ ce.length c 6 w=some (.tup [nW many,.lst (ls.map pW)])/\0<many/\many<=36/\LsOk many ls by
  obtain⟨w,c,e,many,ls,l,O,ht,r⟩:=h;exact⟨many,ls,Own.frzD' e O (kE.refl ce) ht,r⟩
 have i0:=fun c=>nP (ns:=xs) (p:=0) (by omega) c (i:=0) rfl;have i1:=fun c=>nP (ns:=xs) (p:=1) (by omega) c (i:=1) rfl;have i2:=fun c=>nP (ns:=xs) (p:=2) (by omega) c (i:=2) rfl;have b0:=hx _ (sE (ns:=xs) (p:=0) (by omega));have b1:=hx _ (sE (ns:=xs) (p:=1) (by omega));have b2:=hx _ (sE (ns:=xs) (p:=2) (by omega));generalize xs.getD 0 0=a0 at i0 b0;generalize xs.getD 1 0=a1 at i1 b1;generalize xs.getD 2 0=a2 at i2 b2;have i0c:=i0 ce;have i1c:=i1 ce;have j5:=i2 ce;unfold d_l;refine nr [some (sW xs),none,none,none,none,none,none,none] rfl ?_;refine bS (p:=decide (a1 % 4=0)) (ce':=ce) (by trivial) (fun q=>?_) (fun q=>?_)
 ·-- a grid
  obtain⟨wd0,hwd0⟩:∃wd:Nat,1+a0 % 4=wd:=⟨(1+a0 % 4).toNat,by omega⟩
  obtain⟨n0,hn0⟩:∃n:Nat,(wd0:Int)*(1+a2 % 4)=n:=⟨wd0*(1+a2 % 4).toNat,by rw[natCast_mul];congr 1;omega⟩
  have mu0:fh (wd0:Int) (1+a2 % 4):=.inl (by omega);have f0:c7 (.int 1) (.int (a0 % 4))=some (nW wd0):=by rw[k9 rfl rfl,hwd0];rfl
  have f1:fk (nW wd0) (.int (1+a2 % 4))=some (nW n0):=by show fk (.int wd0) (.int (1+a2 % 4))=some (.int n0);rw[nM mu0,hn0]
  refine gG ?_;refine ba (w:=nW wd0) (ce':=ce) (by trivial) ?_;refine aS ?_;refine gG ?_;refine ba (w:=nW n0) (ce':=ce) (by trivial) ?_;refine aS ?_;refine gG ?_;have last:∀(wd hg n:Nat),0<wd->0<hg->wd*hg=n->n<=36->∀(tail:DS),Run (aq (aq (aP 3 (cK eI [1] (fA (ah (aJ gB (aa 2) (aa 1)) ai)) cZ (eo (ah (aa 0) (ah (aJ c7 (aa 0) (aa 1)) ai)))))
    (aq (aP 4 (cK aQ [1] (fA (ah (aJ gB (aa 2) (dC (.int 1))) ai)) (dB (aJ iC (aJ bV (aJ c7 (aa 0) (dC (.int 1))) (aa 1)) (dC (.int 0)))) (aa 0)))
    (aY (eo (ah (aa 2) (ah (fN aQ (aa 3) (cK aQ [] (dG (aa 4)) cZ (eo (ah (aa 0) (ah (aJ c7 (aa 0) (dC (.int 1))) ai))))) ai)))))) tail)
    [some (sW xs),some (nW wd),some (nW n),none,none,none,none,none] ce
    (Rt fun v ce'=>∃w c',kG ce ce' v=some (.ok w c')/\∃many ls l,Own ce c' l/\eJ ce.length c' 6 w=some (.tup [nW many,.lst (ls.map pW)])/\0<many/\many<=36/\LsOk many ls):=by
   intro wd hg n w1 h1 hn n36 tail;have n0:0<n:=by rw[<- hn];exact mul_pos w1 h1
   have wn:wd<=n:=by rw[<- hn];exact le_mul_of_pos_right wd h1
   have sb:gB (nW n) (nW wd)=some (nW (n-wd)):=by
    refine(pA (x:=nW n) (y:=nW wd) (i:=n) (j:=wd) rfl rfl).trans ?_;have:((n:Int)-(wd:Int))=((n-wd:Nat):Int):=by omega
    rw[this];rfl
   have sb1:gB (nW n) (.int 1)=some (nW (n-1)):=by
    refine(pA (x:=nW n) (y:=.int 1) (i:=n) (j:=1) rfl rfl).trans ?_;have:((n:Int)-1)=((n-1:Nat):Int):=by omega
    rw[this];rfl
   have md:∀p:Nat,bV (.int ((p:Int)+1)) (nW wd)=some (.int (((p:Int)+1) % (wd:Int))):=fun p=>nX (i:=(p:Int)+1) (j:=wd) rfl rfl (by omega);have nz:(List.range (n-wd)).length<=sizeLine:=by rw[length_range];omega
   have nz2:(List.range (n-1)).length<=sizeLine:=by rw[length_range];omega
   have r1:n-wd<=1000:=by omega
   have r2:n-1<=1000:=by omega
   refine gG ?_;refine ba (qG (zs:=List.range (n-wd)) (en:=nW) (g:=fun p=>pW (p,p+wd)) (iL (by trivial) r1).is nz (fun p hp=>?_)) ?_
   ·have e:pW (p,p+wd)=.tup [nW p,.int ((p:Int)+wd)]:=by simp[pW,nW]
    rw[e];trivial
   refine aS ?_;have O1:=(Own.start ce).alloc (C.lst ((List.range (n-wd)).map fun p=>pW (p,p+wd)));generalize ce.length=k3 at O1 ⊢;generalize hc1:ce++[C.lst ((List.range (n-wd)).map fun p=>pW (p,p+wd))]=c1 at O1 ⊢;have g3:=fC O1.g0
   let t:Nat->Bool:=fun p=>decide ((0:Int)<((p:Int)+1) % (wd:Int))
   refine gG ?_;refine ba (w:=wL ((List.range (n-1)).filter t)) (ce':=c1) (qF (zs:=List.range (n-1)) (en:=nW) (t:=t) (iL (by trivial) r2).is nz2 (fun p hp=>?_)) ?_
   ·have:=md p;trivial
   refine aS ?_;have hl1:((List.range (n-1)).filter t).length<=36:=by have:=length_filter_le t (List.range (n-1));rw[length_range] at this;omega
   refine iu ?_;refine bL (jm (ws:=[nW n,.lst (((List.range (n-wd)).map fun p=>pW (p,p+wd))++((List.range (n-1)).filter t).map fun p=>pW (p,p+1))]) (c1:=c1) (aK (by trivial) (aK (kY (by trivial) (m8 (zs:=(List.range (n-1)).filter t) (en:=nW) (g:=fun p=>pW (p,p+1)) (oX (by trivial) (.fr _)) (by omega) (fun p hp=>?_)) g3 rfl ?_) aM)) z2) ?_
   ·have e:pW (p,p+1)=.tup [nW p,.int ((p:Int)+1)]:=by simp[pW,nW]
    rw[e];trivial
   ·rw[length_map,length_map,length_range];omega
   ·refine⟨_,_,rfl,n,((List.range (n-wd)).map fun p=>(p,p+wd))++(((List.range (n-1)).filter t).map fun p=>(p,p+1)),_,O1,?_,n0,n36,?_⟩
    ·have e:((List.range (n-wd)).map fun p=>pW (p,p+wd))++(((List.range (n-1)).filter t).map fun p=>pW (p,p+1))=(((List.range (n-wd)).map fun p=>(p,p+wd))++(((List.range (n-1)).filter t).map fun p=>(p,p+1))).map pW:=by rw[map_append,map_map,map_map];rfl
     rw[e];simp only[eJ,fO,r_,sZ,map_some]
    ·constructor
     ·rw[nodup_append];refine⟨bM nodup_range (fun x y h=>by simpa using congrArg Prod.fst h),bM (List.Pairwise.filter _ nodup_range) (fun x y h=>by simpa using congrArg Prod.fst h),?_⟩;intro a ha c hc e;subst e;obtain⟨x,hx,e⟩:=mem_map.mp ha;obtain⟨y,hy,rfl⟩:=mem_map.mp hc;have hy':=of_decide_eq_true (mem_filter.mp hy).2;injection e with e1 e2;subst e1;have:wd=1:=by omega
      subst this;omega
     ·intro p hp;rcases mem_append.mp hp with hp|hp
      ·obtain⟨x,hx,rfl⟩:=mem_map.mp hp;have hx:=mem_range.mp hx;exact⟨by show x<x+wd;omega,by show x+wd<n;omega⟩
      ·obtain⟨x,hx,rfl⟩:=mem_map.mp hp;have hx:=mem_range.mp (mem_filter.mp hx).1;exact⟨by show x<x+1;omega,by show x+1<n;omega⟩
  have dv:lQ (.int a2) (.int 4)=some (.int (a2 / 4)):=w9 (i:=a2) (j:=4) rfl rfl (by omega);refine bS (p:=decide (a2 / 4 % 9=0)) (ce':=ce) (by trivial) (fun _=>?_) (fun _=>?_)
  ·obtain⟨wd,hwd⟩:∃wd:Nat,3+a0 % 4=wd:=⟨(3+a0 % 4).toNat,by omega⟩
   have f2:c7 (.int 3) (.int (a0 % 4))=some (nW wd):=by rw[k9 rfl rfl,hwd];rfl
   have f3:fk (.int 6) (nW wd)=some (nW (wd*6)):=by show fk (.int 6) (.int wd)=some (.int ((wd*6:Nat):Int));rw[nM (.inl (by omega))];congr 2;omega
   refine gG ?_;refine ba (w:=nW wd) (ce':=ce) (by trivial) ?_;refine aS ?_;refine ba (w:=nW (wd*6)) (ce':=ce) (by trivial) ?_;refine aS ?_;exact last wd 6 _ (by omega) (by omega) rfl (by omega) _
  ·refine du ?_;obtain⟨hg,hhg⟩:∃hg:Nat,1+a2 % 4=hg:=⟨(1+a2 % 4).toNat,by omega⟩
   have en:wd0*hg=n0:=by rw[hhg,<- natCast_mul] at hn0;exact Int.ofNat.inj hn0
   have:n0<=36:=by rw[<- en];exact le_trans (mul_le_mul (by omega:wd0<=4) (by omega:hg<=4)) (by omega)
   exact last wd0 hg _ (by omega) (by omega) en this _
 ·-- a row,a ring,drawn lines
  refine du ?_;have q':=of_decide_eq_false q;obtain⟨way,hway⟩:∃way:Nat,a1 % 4=way:=⟨(a1 % 4).toNat,by omega⟩
  have hway4:way<4:=by omega
  have m0:bV (.int a1) (.int 4)=some (nW way):=by rw[nX (i:=a1) (j:=4) rfl rfl (by omega),hway];rfl
  obtain⟨md,hmd,hmd1,hmd2⟩:∃md:Nat,aB ce (.lst [.int 0,.int 7,.int 9,.int 5]) (nW way)=some (nW md)/\0<md/\md<=9:=by
   have:way=1\/way=2\/way=3:=by omega
   rcases this with rfl|rfl|rfl
   ·exact⟨7,rfl,by omega,by omega⟩
   ·exact⟨9,rfl,by omega,by omega⟩
   ·exact⟨5,rfl,by omega,by omega⟩
  obtain⟨r,hr,er⟩:=wM a0 (n:=md) hmd1;have m1:bV (.int a0) (nW md)=some (nW r):=rP hmd1 er;obtain⟨n,hn⟩:∃n:Nat,1+r=n:=⟨_,rfl⟩
  have f1:c7 (.int 1) (nW r)=some (nW n):=by
   refine(k9 (x:=.int 1) (y:=nW r) (i:=1) (j:=r) rfl rfl).trans ?_;have:(1:Int)+(r:Int)=((n:Nat):Int):=by omega
   rw[this];rfl
  have n9:0<n/\n<=9:=by omega
  refine ba (w:=nW n) (ce':=ce) (fP (by trivial) (fP (by trivial) (bG (x:=.lst [.int 0,.int 7,.int 9,.int 5]) (y:=nW way) (e9 (ws:=[.int 0,.int 7,.int 9,.int 5]) (by trivial) z4) (by trivial) hmd) m1) f1) ?_;refine aS ?_;have sb1:gB (nW n) (.int 1)=some (nW (n-1)):=by
   refine(pA (x:=nW n) (y:=.int 1) (i:=n) (j:=1) rfl rfl).trans ?_;have:((n:Int)-1)=((n-1:Nat):Int):=by omega
   rw[this];rfl
  have nz2:(List.range (n-1)).length<=sizeLine:=by rw[length_range];omega
  have r2:n-1<=1000:=by omega
  refine ba (qG (zs:=List.range (n-1)) (en:=nW) (g:=fun p=>pW (p,p+1)) (iL (by trivial) r2).is nz2 (fun p hp=>?_)) ?_
  ·have e:pW (p,p+1)=.tup [nW p,.int ((p:Int)+1)]:=by simp[pW,nW]
   rw[e];trivial
  refine aS ?_;have el:(List.range (n-1)).map (fun p=>pW (p,p+1))=((List.range (n-1)).map fun p=>(p,p+1)).map pW:=by rw[map_map];rfl
  rw[el];have L0:LsOk n ((List.range (n-1)).map fun p=>(p,p+1)):=⟨bM nodup_range (fun x y h=>by simpa using congrArg Prod.fst h),fun p hp=>by
   obtain⟨x,hx,rfl⟩:=mem_map.mp hp;have hx:=mem_range.mp hx;exact⟨by show x<x+1;omega,by show x+1<n;omega⟩⟩
  have ll0:((List.range (n-1)).map fun p=>(p,p+1)).length<=36:=by rw[length_map,length_range];omega
  have hno:2<n->(0,n-1)∉(List.range (n-1)).map fun p=>(p,p+1):=fun h2 hm=>by
   obtain⟨x,_,e⟩:=mem_map.mp hm;injection e with e1 e2;omega
  generalize (List.range (n-1)).map (fun p=>(p,p+1))=ls0 at L0 ll0 hno ⊢;have O1:=(Own.start ce).alloc (C.lst (ls0.map pW));generalize hk3:ce.length=k3 at O1 ⊢;generalize ce++[C.lst (ls0.map pW)]=c1 at O1 ⊢;have fin:∀(ls:List (Nat×Nat)) (c:Ce) (l:List (Nat×C)) (k:Nat) (x5 x6 x7:Option W),LsOk n ls->Own ce c ((k,C.lst (ls.map pW))::l)->Run (aY (eo (ah (aa 2) (ah (aa 3) ai)))) [some (sW xs),none,some (nW n),some (.cel k),none,x5,x6,x7] c
    (Rt fun v ce'=>∃w c',kG ce ce' v=some (.ok w c')/\∃many ls l,Own ce c' l/\eJ k3 c' 6 w=some (.tup [nW many,.lst (ls.map pW)])/\0<many/\many<=36/\LsOk many ls):=by
   intro ls c l k x5 x6 x7 L O;refine bL (jm (ws:=[nW n,.cel k]) (c1:=c) (by trivial) z2) ?_;refine⟨_,_,rfl,n,ls,_,O,?_,n9.1,by omega,L⟩;have hk:¬k<k3:=by have:=O.ge _ mem_cons_self;rw[<- hk3];omega
   have g:=O.g0;simp only[eJ,fO,r_,if_neg hk,g,sZ,map_some]
  have i1c1:=i1 c1;have i2c1:=i2 c1;have m2:bV (.int a2) (.int 2)=some (.int (a2 % 2)):=nX (i:=a2) (j:=2) rfl rfl (by omega);have gt2:iC (nW n) (.int 2)=some (.bl (decide (2<(n:Int)))):=rK (i:=n) (j:=2) rfl rfl;have hm3:(ls0.map pW).length<sizeLine:=by rw[length_map];omega
  have way1:fj (nW way) (.int 1)=some (.bl (decide ((way:Int)=1))):=pw (i:=way) (j:=1) rfl rfl;have wgt:∀c:Ce,dB (aJ iC (aJ bV (aE aB (aa 0) (dC (.int 1))) (dC (.int 4))) (dC (.int 1))) [some (sW xs),none,some (nW n),some (.cel k3),none,none,none,none] c=some (.ok (decide (1<(way:Int))) c):=fun c=>by
   have i1':=i1 c;have w2:iC (nW way) (.int 1)=some (.bl (decide (1<(way:Int)))):=rK (i:=way) (j:=1) rfl rfl;trivial
  refine bS (p:=decide ((way:Int)=1)&&(decide (2<(n:Int))&&decide (a2 % 2=0))) (ce':=c1) (by trivial) (fun q2=>?_) (fun q2=>?_)
  ·simp only[and_eq_true,decide_eq_true_eq] at q2;have hn2:2<n:=by omega
   refine kj (w:=.non) (ce':=c1.set k3 (C.lst (ls0.map pW++[pW (0,n-1)]))) (h_ (ws:=[pW (0,n-1)]) (by trivial) (fC O1.g0) (aK (jm (ws:=[.int 0,nW (n-1)]) (by trivial) z2) aM) (by rw[oP (km O1.g0) hm3])) ?_;have O2:=O1.set0 (C.lst (ls0.map pW++[pW (0,n-1)]));have e2:ls0.map pW++[pW (0,n-1)]=(ls0++[(0,n-1)]).map pW:=by simp
   rw[e2] at O2 ⊢;generalize c1.set k3 (C.lst ((ls0++[(0,n-1)]).map pW))=c2 at O2 ⊢;refine bS (p:=decide (1<(way:Int))) (ce':=c2) (wgt c2) (fun q3=>absurd (of_decide_eq_true q3) (by omega)) (fun _=>?_);refine du ?_;refine fin _ c2 _ k3 _ _ _ ⟨?_,fun p hp=>?_⟩ O2
   ·rw[nodup_append];exact⟨L0.nd,by simp,fun a ha b hb=>by rw[mem_singleton] at hb;subst hb;intro e;subst e;exact hno hn2 ha⟩
   ·rcases mem_append.mp hp with hp|hp
    ·exact L0.lt p hp
    ·rw[mem_singleton] at hp;subst hp;exact⟨by show 0<n-1;omega,by show n-1<n;omega⟩
  ·refine du ?_;refine bS (p:=decide (1<(way:Int))) (ce':=c1) (wgt c1) (fun q3=>?_) (fun _=>?_)
   ·obtain⟨nn,hnn⟩:∃nn:Nat,n*n=nn:=⟨_,rfl⟩
    have nn81:nn<=81:=by rw[<- hnn];exact mul_le_mul n9.2 n9.2
    have fm:fk (nW n) (nW n)=some (nW nn):=by show fk (.int n) (.int n)=some (.int (nn:Int));rw[nM (.inl (by omega)),<- hnn,natCast_mul]
    obtain⟨ys,e5,hyl,hy⟩:=Gk (ce:=c1) fu a2 (m:=nn) (by omega);refine gG ?_;refine ba (w:=sW ys) (ce':=c1) (dj (ws:=[.int a2,nW nn]) (by trivial) rfl e5) ?_;refine aS ?_;refine gG ?_;refine ba (iO aM (zero_le _)) ?_;refine aS ?_;have O2:=(O1.alloc (C.lst [])).perm (.swap _ _ _) |>.drop;have O2:=O1.drop.alloc (C.lst []);generalize c1.length=k4 at O2 ⊢;generalize c1++[C.lst []]=c2 at O2 ⊢;have n1000:n<=1000:=by omega
    refine iN (zs:=List.range n) (en:=nW) (iL (by trivial) n1000)
     (fun d sl c=>∃ls x6 x7,sl=[some (sW xs),none,some (nW n),some (.cel k4),none,some (sW ys),x6,x7]/\Own ce c [(k4,C.lst (ls.map pW))]/\ls.Nodup/\ls.length<=40*d.length/\∀p∈ls,p.1<p.2/\p.2<d.length)
     ⟨[],_,_,rfl,O2,by simp,by simp,by simp⟩ ?_ ?_
    ·rintro d p r' sl c e hp ⟨ls,x6,x7,rfl,O,nd,hl,lt⟩;have hp':p<n:=mem_range.mp hp;have hd:=sF e;have hdl:d.length=p:=by rw[hd,length_range]
     have p1000:p<=1000:=by omega
     unfold zG;refine mR (zs:=List.range p) (en:=nW) (iL (by trivial) p1000)
      (fun d' sl c=>∃ls x7,sl=[some (sW xs),none,some (nW n),some (.cel k4),none,some (sW ys),some (nW p),x7]/\Own ce c [(k4,C.lst (ls.map pW))]/\ls.Nodup/\ls.length<=40*p+d'.length/\∀q∈ls,q.1<q.2/\(q.2<p\/(q.2=p/\q.1<d'.length)))
      ⟨ls,x7,rfl,O,nd,by simpa[hdl] using hl,fun q hq=>⟨(lt q hq).1,.inl (by have:=(lt q hq).2;omega)⟩⟩ ?_ ?_
     ·rintro d' q r'' sl c e' hq ⟨ls,x7,rfl,O,nd,hl,lt⟩;have hq':q<p:=mem_range.mp hq;have hd':=sF e';have hdl':d'.length=q:=by rw[hd',length_range]
      have g5:=O.g0;have hm:(ls.map pW).length<sizeLine:=by rw[length_map];omega
      obtain⟨ix,hix⟩:∃ix:Nat,p*n+q=ix:=⟨_,rfl⟩
      have hixl:ix<ys.length:=by rw[hyl,<- hnn,<- hix];have:(p+1)*n<=n*n:=mul_le_mul_right n hp';rw[add_mul] at this;omega
      have fm2:fk (nW p) (nW n)=some (nW (p*n)):=by show fk (.int p) (.int n)=some (.int ((p*n:Nat):Int));rw[nM (.inl (by omega)),natCast_mul]
      have fa:c7 (nW (p*n)) (nW q)=some (nW ix):=by
       refine(k9 (x:=nW (p*n)) (y:=nW q) (i:=((p*n:Nat):Int)) (j:=q) rfl rfl).trans ?_;have:((p*n:Nat):Int)+(q:Int)=((ix:Nat):Int):=by omega
       rw[this];rfl
      have iy:aB c (sW ys) (nW ix)=some (.int (ys.getD ix 0)):=nP hixl c (i:=(ix:Int)) rfl;have i1':=i1 c;unfold zH;refine aS ?_;have lw:lF (.int (ys.getD ix 0 % 5)) (nW way)=some (.bl (decide (ys.getD ix 0 % 5<(way:Int)))):=rL (i:=ys.getD ix 0 % 5) (j:=way) rfl rfl;have m5:bV (.int (ys.getD ix 0)) (.int 5)=some (.int (ys.getD ix 0 % 5)):=nX (i:=ys.getD ix 0) (j:=5) rfl rfl (by omega);refine fS (p:=decide (ys.getD ix 0 % 5<(way:Int))) (ce':=c) (by trivial) (fun _=>?_) (fun _=>?_)
      ·refine mB (w:=.non) (ce':=c.set k4 (C.lst (ls.map pW++[pW (q,p)]))) (h_ (ws:=[pW (q,p)]) (by trivial) (fC O.g0) (aK (jm (ws:=[nW q,nW p]) (by trivial) z2) aM) (by rw[oP (km O.g0) hm])) ?_;refine⟨ls++[(q,p)],_,rfl,?_,?_,?_,fun x hx=>?_⟩
       ·rw[map_append];exact O.set0 _
       ·rw[nodup_append];refine⟨nd,by simp,fun a ha b hb=>?_⟩;rw[mem_singleton] at hb;subst hb;intro e;subst e;have:=(lt _ ha).2;simp only at this;omega
       ·simp only[length_append,length_cons,length_nil];omega
       ·rcases mem_append.mp hx with hx|hx
        ·refine⟨(lt x hx).1,?_⟩;rcases(lt x hx).2 with h|h
         ·exact .inl h
         ·exact .inr ⟨h.1,by rw[length_append,length_cons,length_nil];omega⟩
        ·rw[mem_singleton] at hx;subst hx;exact⟨hq',.inr ⟨rfl,by show q<_;rw[length_append,length_cons,length_nil];omega⟩⟩
      ·refine iA ?_;refine⟨ls,_,rfl,O,nd,by simp only[length_append,length_cons,length_nil];omega,fun x hx=>⟨(lt x hx).1,?_⟩⟩;rcases(lt x hx).2 with h|h
       ·exact .inl h
       ·exact .inr ⟨h.1,by rw[length_append,length_cons,length_nil];omega⟩
     ·rintro sl c ⟨ls,x7,rfl,O,nd,hl,lt⟩;rw[length_range] at hl;refine⟨ls,_,_,rfl,O,nd,by simp only[length_append,length_cons,length_nil];omega,fun x hx=>⟨(lt x hx).1,?_⟩⟩;simp only[length_append,length_cons,length_nil];rcases(lt x hx).2 with h|h
      ·omega
      ·omega
    ·rintro sl c ⟨ls,x6,x7,rfl,O,nd,hl,lt⟩;exact fin ls c [] k4 _ _ _ ⟨nd,fun p hp=>by have:=lt p hp;rw[length_range] at this;exact this⟩ O
   ·refine du ?_;exact fin ls0 c1 [] k3 _ _ _ L0 O1
section
variable {mk:W} {s:Nat}
def Mk(b:List (List Nat))(mk:W)(vl:Nat->Int):Prop:=∀(ce:Ce) (x y:Nat),x<b.length->y<b.length->∃wx wy,aB ce mk (nW x)=some wx/\aB ce mk (nW y)=some wy/\bo false ce wx wy=some (.bl (decide (vl x=vl y)))
theorem uU{is:List Int}(h:is.length=b.length):Mk b (wS is) (fun x=>is.getD x 0):=fun ce x y hx hy=>⟨_,_,ie (by omega),ie (by omega),oy⟩
theorem y8(fu:Nat)(hfu:200<=fu)(hm:Mk b mk vl)(hb:Bd b)(h36:b.length<=36)(hs:s<b.length) :
  d_y fu [wB b,mk,nW s] ce=some (.ok (.cel ce.length) (ce++[.lst ((aH b vl s).map nW)])):=by
 have hz:=fy;unfold d_y;refine dD [some (wB b),some mk,some (nW s),none,none,none,none] rfl ?_;trivial;have O0:=((Own.start ce).alloc (C.dct (kvs [s]))).alloc (C.lst ([s].map nW));refine(?_:Run _ _ ((ce++[C.dct (kvs [s])])++[C.lst ([s].map nW)]) _);generalize h4:(ce++[C.dct (kvs [s])]).length=k4 at O0;have h4':∀x:Key×W,(ce++[C.dct [x]]).length=k4:=fun x=>by rw[<- h4];simp
 rw[h4'];generalize h3:ce.length=k3 at O0 ⊢;generalize (ce++[C.dct (kvs [s])])++[C.lst ([s].map nW)]=c0 at O0 ⊢;refine yI (σ:=List Nat×List Nat) (fun st sl c=>∃x5 x6,sl=[some (wB b),some mk,some (nW s),some (.cel k3),some (.cel k4),x5,x6]/\Own ce c [(k4,C.lst (st.2.map nW)),(k3,C.dct (kvs st.1))]/\st.1.Nodup/\s∈st.1/\(∀x∈st.1,x<b.length)/\(∀x∈st.2,x∈st.1)/\st.2.length<=st.1.length/\(∀x∈st.1,Reach b (cq vl s) s x)/\∀x∈st.1,x∉st.2->∀y∈b.getD x [],cq vl s y->y∈st.1)
  (fun st=>st.2.length+2*(36-st.1.length)) ([s],[s]) ⟨_,_,rfl,O0,by simp,by simp,by simpa using hs,by simp,by simp,by simpa using Reach.refl,by simp⟩ (by show [s].length+2*(36-[s].length)<fu;simp;omega) ?_
 rintro⟨F,Wt⟩ sl c ⟨x5,x6,rfl,O,nd,hsF,lt,sub,hW,re,cl⟩;have g4:=O.g0;have g3:=O.g1;dsimp only at g4 g3 O nd hsF lt sub hW re cl;have hF36:F.length<=36:=le_trans (eA nd lt) h36;refine⟨!(Wt.map nW).isEmpty,by trivial,fun q=>?_,fun q=>?_⟩
 ·rcases eq_nil_or_concat Wt with rfl|⟨W0,p,hWt⟩
  ·simp at q
  ·rw[concat_eq_append] at hWt;subst hWt;have hpF:p∈F:=sub p (by simp);have hp:=lt p hpF;have pp:=BN (ys:=W0.map nW) (y:=nW p) g4 (by simp);have O1:=O.set0 (C.lst (W0.map nW));generalize c.set k4 (C.lst (W0.map nW))=c1 at O1 pp;unfold zf;trivial;refine mR (zs:=b.getD p []) (en:=nW) (mx (by trivial)) (fun d sl c=>∃new x6,sl=[some (wB b),some mk,some (nW s),some (.cel k3),some (.cel k4),some (nW p),x6]/\Own ce c [(k4,C.lst ((W0++new).map nW)),(k3,C.dct (kvs (F++new)))]/\(F++new).Nodup/\(∀x∈new,x∈b.getD p []/\cq vl s x)/\∀x∈d,cq vl s x->x∈F++new)
    ⟨[],x6,rfl,by simpa using O1,by simpa using nd,by simp,by simp⟩ ?_ ?_
   ·rintro d y r sl c e hy ⟨new,x6,rfl,O,nd2,hnew,hd⟩;have g4:=O.g0;have g3:=O.g1;have gd:=kU g3;have hy':=hb.get hy;obtain⟨wx,wy,i1,i2,q1⟩:=hm c y s hy' hs;have lt2:∀x∈F++new,x<b.length:=fun x hx=>by
     rcases mem_append.mp hx with hx|hx
     ·exact lt x hx
     ·exact hb.get (hnew x hx).1
    have hl2:=eA nd2 lt2;have hk:(kvs (F++new)).length<sizeLine:=by rw[kA];omega
    have hw:((W0++new).map nW).length<sizeLine:=by rw[length_map,length_append];rw[length_append] at hl2;simp only[length_append,length_cons,length_nil] at hW;omega
    unfold zg;refine fS (p:=!decide (y∈F++new)&&decide (vl y=vl s)) (ce':=c) (by trivial) (fun q=>?_) (fun q=>?_)
    ·simp only[and_eq_true,not_eq_true',decide_eq_false_iff_not,decide_eq_true_eq] at q;have O2:=O.set1 (C.dct (gQ (kvs (F++new)) (.inl (y:Int)) (.bl true)));rw[se _ _ q.1] at O2;have g4:=O2.g0;have e1:C.dct (kvs (F++new++[y]))=C.dct (gQ (kvs (F++new)) (.inl (y:Int)) (.bl true)):=by rw[se _ _ q.1]
     rw[e1] at g4;trivial;refine⟨new++[y],_,rfl,?_,?_,fun x hx=>?_,fun x hx o=>?_⟩
     ·have e2:(W0++(new++[y])).map nW=(W0++new).map nW++[nW y]:=by simp
      rw[<- e1,e2,<- append_assoc];exact O2.set0 _
     ·rw[<- append_assoc,nodup_append];exact⟨nd2,by simp,fun a ha c hc=>by rw[mem_singleton] at hc;subst hc;intro e;subst e;exact q.1 ha⟩
     ·rcases mem_append.mp hx with hx|hx
      ·exact hnew x hx
      ·rw[mem_singleton] at hx;subst hx;exact⟨hy,q.2⟩
     ·rw[<- append_assoc];rcases mem_append.mp hx with hx|hx
      ·exact mem_append_left _ (hd x hx o)
      ·rw[mem_singleton] at hx;subst hx;simp
    ·trivial;refine⟨new,_,rfl,O,nd2,hnew,fun x hx o=>?_⟩;rcases mem_append.mp hx with hx|hx
     ·exact hd x hx o
     ·rw[mem_singleton] at hx;subst hx;have o':vl x=vl s:=o;simp only[o',decide_true,Bool.and_true,not_eq_false',decide_eq_true_eq] at q;exact q
   ·rintro sl c ⟨new,x6,rfl,O,nd2,hnew,hd⟩;have lt2:∀x∈F++new,x<b.length:=fun x hx=>by
     rcases mem_append.mp hx with hx|hx
     ·exact lt x hx
     ·exact hb.get (hnew x hx).1
    have hl2:=eA nd2 lt2;simp only[length_append] at hl2;simp only[length_append,length_cons,length_nil] at hW;refine⟨(F++new,W0++new),?_,_,_,rfl,O,nd2,mem_append_left _ hsF,lt2,fun x hx=>?_,?_,fun x hx=>?_,fun x hx hn y hy o=>?_⟩
    ·show(W0++new).length+2*(36-(F++new).length)<(W0++[p]).length+2*(36-F.length);simp only[length_append,length_cons,length_nil];omega
    ·rcases mem_append.mp hx with hx|hx
     ·exact mem_append_left _ (sub x (by simp[hx]))
     ·exact mem_append_right _ hx
    ·show(W0++new).length<=(F++new).length;simp only[length_append];omega
    ·rcases mem_append.mp hx with hx|hx
     ·exact re x hx
     ·exact(re p hpF).step (hnew x hx).1 (hnew x hx).2
    ·rcases mem_append.mp hx with hx|hx
     ·by_cases hxp:x=p
      ·subst hxp;exact hd y hy o
      ·exact mem_append_left _ (cl x hx (fun q=>by rcases mem_append.mp q with q|q;exact hn (mem_append_left _ q);exact hxp (by simpa using q)) y hy o)
     ·exact absurd (mem_append_right _ hx) hn
 ·have hW0:Wt=[]:=by simpa using q
  subst hW0;have comp:Comp b (cq vl s) s F:=⟨nd,hsF,lt,fun x hx y hy o=>cl x hx (by simp) y hy o,re⟩
  trivial
  ·rw[xW g3 (by omega),kr (by rw[length_map,mQ];omega)]
  ·rw[Eh comp];subst h3;exact(O.alloc _).finO (by simp only[eK];exact aF _ _)
theorem BV(fu:Nat)(hfu:200<=fu)(hm:Mk b mk vl)(hb:Bd b)(h36:b.length<=36)(hs:s<b.length):cY (d_y fu) [wB b,mk,nW s] ce=some (.ok (wL (aH b vl s)) ce) :=
 jv (y8 fu hfu hm hb h36 hs) (aF _ _)
end
section
variable {mk:W} {s:Nat}
theorem Hj(fu:Nat)(hfu:200<=fu)(hm:Mk b mk vl)(hb:Bd b)(sym:Sym b)(h36:b.length<=36) :
  d_ba fu [wB b,mk] ce=some (.ok (.cel ce.length) (ce++[.lst ((iB b vl).map wL)])):=by
 have hz:=fy;unfold d_ba;refine dD [some (wB b),some mk,none,none,none,none,none] rfl ?_;trivial;have O0:=((Own.start ce).alloc (C.dct (kvs []))).alloc (C.lst []);refine(?_:Run _ _ ((ce++[C.dct (kvs [])])++[C.lst []]) _);generalize h3:(ce++[C.dct []]).length=k3;have h3':(ce++[C.dct (kvs [])]).length=k3:=h3;rw[h3'] at O0;generalize h2:ce.length=k2 at O0 ⊢;generalize (ce++[C.dct (kvs [])])++[C.lst []]=c0 at O0 ⊢;have hl':b.length<=1000:=by omega
 refine iN (zs:=List.range b.length) (en:=nW) (iL (by trivial) hl')
  (fun d sl c=>∃S x4 x5 x6,sl=[some (wB b),some mk,some (.cel k2),some (.cel k3),x4,x5,x6]/\Own ce c [(k3,C.lst (((d.filter (dQ b vl)).map (aH b vl)).map wL)),(k2,C.dct (kvs S))]/\S.Nodup/\(∀x∈S,x<b.length)/\∀x,x∈S↔∃y∈d,x∈aH b vl y)
  ⟨[],_,_,_,rfl,O0,by simp,by simp,by simp⟩ ?_ ?_
 ·rintro d p r sl c e hp ⟨S,x4,x5,x6,rfl,O,nd,lt,mem⟩;have hp':p<b.length:=mem_range.mp hp;have hd:=sF e;have g3:=O.g0;have g2:=O.g1;have key:p∈S↔¬dQ b vl p=true:=by
   rw[mem];constructor
   ·rintro⟨y,hy,hpy⟩ hl;rw[hd] at hy;have hy':=mem_range.mp hy;unfold dQ at hl;rw[all_eq_true] at hl;have:=of_decide_eq_true (hl y (xS hb sym (by omega) hpy));omega
   ·intro hl;unfold dQ at hl;rw[all_eq_true] at hl;obtain⟨y,hy⟩:=Classical.not_forall.mp hl;obtain⟨hy,hn⟩:=Classical.not_imp.mp hy;have hn':¬p<=y:=fun q=>hn (decide_eq_true q);exact⟨y,by rw[hd];exact mem_range.mpr (by omega),xS hb sym hp' hy⟩
  unfold yZ;have hdl:d.length<b.length:=by have:=congrArg List.length e;simp at this;omega
  have hm3:(((d.filter (dQ b vl)).map (aH b vl)).map wL).length<sizeLine:=by simp only[length_map];have:=length_filter_le (dQ b vl) d;omega
  have e1:=fun c=>BV (ce:=c) fu hfu hm hb h36 hp';have e1c:=e1 c;trivial
  ·rename_i q;have q':p∉S:=by simpa using q
   have hl:dQ b vl p=true:=Classical.byContradiction fun h=>q' (key.mpr h);have O1:=O.set0 (C.lst (((d.filter (dQ b vl)).map (aH b vl)).map wL++[wL (aH b vl p)]));generalize c.set k3 (C.lst (((d.filter (dQ b vl)).map (aH b vl)).map wL++[wL (aH b vl p)]))=c1 at O1 ⊢;have ef:((d++[p]).filter (dQ b vl)).map (aH b vl)=(d.filter (dQ b vl)).map (aH b vl)++[aH b vl p]:=by rw[filter_append,filter_cons_of_pos hl];simp
   refine mR (zs:=aH b vl p) (en:=nW) (kg (by trivial)) (fun d' sl c=>∃S' x6,sl=[some (wB b),some mk,some (.cel k2),some (.cel k3),some (nW p),some (wL (aH b vl p)),x6]/\Own ce c [(k3,C.lst ((((d++[p]).filter (dQ b vl)).map (aH b vl)).map wL)),(k2,C.dct (kvs S'))]/\S'.Nodup/\(∀x∈S',x<b.length)/\∀x,x∈S'↔x∈S\/x∈d')
    ⟨S,x6,rfl,by rw[ef,map_append];exact O1,nd,lt,by simp⟩ ?_ ?_
   ·rintro d' y r' sl c e' hy ⟨S',x6,rfl,O,nd',lt',mem'⟩;have gd:=kU O.g1;have hS:=eA nd' lt';have hk:(kvs S').length<sizeLine:=by rw[kA];omega
    unfold y6;trivial;refine⟨ins S' y,_,rfl,by rw[mK];exact O.set1 _,my nd',fun x hx=>?_,fun x=>?_⟩
    ·rcases bt.mp hx with hx|rfl
     ·exact lt' x hx
     ·exact bU hy
    ·rw[bt,mem',mem_append,mem_singleton,or_assoc]
   ·rintro sl c ⟨S',x6,rfl,O,nd',lt',mem'⟩;refine⟨S',_,_,_,rfl,O,nd',lt',fun x=>?_⟩;rw[mem',mem];constructor
    ·rintro(⟨y,hy,h⟩|h)
     ·exact⟨y,mem_append_left _ hy,h⟩
     ·exact⟨p,by simp,h⟩
    ·rintro⟨y,hy,h⟩;rcases mem_append.mp hy with hy|hy
     ·exact .inl ⟨y,hy,h⟩
     ·rw[mem_singleton] at hy;subst hy;exact .inr h
  ·rename_i q;have q':p∈S:=by simpa using q
   have hl:¬dQ b vl p=true:=key.mp q';refine⟨S,_,_,_,rfl,?_,nd,lt,fun x=>?_⟩
   ·rw[filter_append,filter_cons_of_neg hl,filter_nil,append_nil];exact O
   ·rw[mem];constructor
    ·rintro⟨y,hy,h⟩;exact⟨y,mem_append_left _ hy,h⟩
    ·rintro⟨y,hy,h⟩;rcases mem_append.mp hy with hy|hy
     ·exact⟨y,hy,h⟩
     ·rw[mem_singleton] at hy;subst hy;obtain⟨z,hz,hyz⟩:=(mem y).mp q';have hz':z<b.length:=by rw[hd] at hz;have:=mem_range.mp hz;omega
      exact⟨z,hz,by rw[<- jS hb sym hz' hyz];exact h⟩
 ·rintro sl c ⟨S,x4,x5,x6,rfl,O,nd,lt,mem⟩;trivial;subst h2;exact O.finO (by simp only[eK];exact pv _ _)
theorem BU(fu:Nat)(hfu:200<=fu)(hm:Mk b mk vl)(hb:Bd b)(sym:Sym b)(h36:b.length<=36):cY (d_ba fu) [wB b,mk] ce=some (.ok (.lst ((iB b vl).map wL)) ce) :=
 jv (Hj fu hfu hm hb sym h36) (pv _ _)
end
def gY(b:List (List Nat))(row:List Nat):List Nat:=(List.range b.length).filter fun y=>row.any fun p=>decide (y∈b.getD p [])
section
variable {b0:Ce}
theorem IV(fu:Nat)(hb:Bd b)(h36:b.length<=36)(hw:a_ ce w1 (row.map nW))(hr:∀p∈row,p<b.length) :
  d_c fu [wB b,w1] ce=some (.ok (.cel ce.length) (ce++[.lst ((gY b row).map nW)])):=by
 unfold d_c;have hz:=fy;refine mm ?_;simp only[map_cons,map_nil,cons_append,nil_append,length_cons,length_nil,List.replicate,Nat.reduceAdd,Nat.reduceSub];trivial;have O0:=(Own.start ce).alloc (C.dct []);obtain⟨s,hs,hsi,_⟩:=hw.src;have hst:∀{c1:Ce} {l:List (Nat×C)},Own ce c1 l->s.Stays c1:=by
  intro c1 l h;obtain⟨t,rfl⟩:=h.cut;cases hw with
  | fr=>simp only[fM] at hs;cases hs;exact True.intro
  | cl g =>
   simp only[fM,g] at hs;cases hs;show(ce++t)[_]?=_;rw[getElem?_append_left (List.getElem?_eq_some_iff.mp g).1];exact g
 have hs':∀{c1:Ce} {l:List (Nat×C)},Own ce c1 l->fM c1 w1=some s:=by
  intro c1 l h;obtain⟨t,rfl⟩:=h.cut;cases hw with
  | fr=>exact hs
  | cl g =>
   simp only[fM,g] at hs ⊢;rw[getElem?_append_left (List.getElem?_eq_some_iff.mp g).1,g];exact hs
 refine pE (xs:=row) (en:=nW) (src:=s) (ce0:=ce++[C.dct []]) (by trivial;exact hs' O0) hsi
  (fun d sl c=>∃F x3 x4,sl=[some (wB b),some w1,some (.cel ce.length),x3,x4]/\Own ce c [(ce.length,C.dct (kvs F))]/\F.Nodup/\(∀x∈F,x<b.length)/\∀x,x∈F↔∃p∈d,x∈b.getD p [])
  ⟨[],none,none,rfl,O0,by simp,by simp,by simp⟩ ?_ (fun sl c h=>by obtain⟨_,_,_,_,O,_⟩:=h;exact hst O) ?_
 ·rintro d p r sl c e hp ⟨F,x3,x4,rfl,O,nd,lt,mem⟩;refine⟨hst O,?_⟩;have hp':=hr p hp;unfold zM;refine mR (zs:=b.getD p []) (en:=nW) (mx (by trivial))
   (fun d' sl c=>∃F x4,sl=[some (wB b),some w1,some (.cel ce.length),some (nW p),x4]/\Own ce c [(ce.length,C.dct (kvs F))]/\F.Nodup/\(∀x∈F,x<b.length)/\∀x,x∈F↔(∃p∈d,x∈b.getD p [])\/x∈d')
   ⟨F,x4,rfl,O,nd,lt,by simpa using mem⟩ ?_ ?_
  ·rintro d' y r' sl c e' hy ⟨F,x4,rfl,O,nd,lt,mem⟩;unfold zN;have g:=kU O.g0;have hl:(kvs F).length<sizeLine:=by rw[kA];have:=eA nd lt;omega
   trivial;refine⟨ins F y,some (nW y),rfl,?_,my nd,fun x hx=>?_,fun x=>?_⟩
   ·rw[mK];exact O.set0 _
   ·rcases bt.mp hx with hx|rfl
    ·exact lt x hx
    ·exact hb.get hy
   ·rw[bt,mem,mem_append,mem_singleton,or_assoc]
  ·rintro sl c ⟨F,x4,rfl,O,nd,lt,mem⟩;refine⟨F,some (nW p),x4,rfl,O,nd,lt,fun x=>?_⟩;rw[mem];constructor
   ·rintro(⟨q,hq,h⟩|h)
    ·exact⟨q,mem_append_left _ hq,h⟩
    ·exact⟨p,by simp,h⟩
   ·rintro⟨q,hq,h⟩;rcases mem_append.mp hq with hq|hq
    ·exact .inl ⟨q,hq,h⟩
    ·rw[mem_singleton] at hq;subst hq;exact .inr h
 ·rintro sl c ⟨F,x3,x4,rfl,O,nd,lt,mem⟩;have hl:=eA nd lt;have es:b_ F=gY b row:=by rw[nZ nd lt];unfold gY;apply filter_congr;intro x _;rw[Bool.eq_iff_iff];simp[mem]
  trivial
  ·rw[xW O.g0 (by omega),kr (by rw[es,length_map];unfold gY;have:=length_filter_le (fun y=>row.any fun p=>decide (y∈b.getD p [])) (List.range b.length);rw[length_range] at this;omega)]
  ·rw[es];exact((O.alloc _).finO (by simp only[eK];exact aF _ _))
end
def bg(b:List (List Nat))(is:List Int)(row:List Nat):List Nat:=(gY b row).filter fun p=>decide (is.getD p 0=0)
section
variable {is:List Int}
theorem Hi(h:y∈gY b row):y<b.length:=mem_range.mp (mem_filter.mp h).1
theorem Ia:(gY b row).length<=b.length:=by have:=length_filter_le (fun y=>row.any fun p=>decide (y∈b.getD p [])) (List.range b.length);rw[length_range] at this;exact this
theorem BS(fu:Nat)(hb:Bd b)(h36:b.length<=36)(hw:a_ ce w1 (row.map nW))(hr:∀p∈row,p<b.length):cY (d_c fu) [wB b,w1] ce=some (.ok (wL (gY b row)) ce) :=
 jv (IV fu hb h36 hw hr) (aF _ _)
theorem yX(fu:Nat)(hb:Bd b)(h36:b.length<=36)(hl:is.length=b.length)(hw:a_ ce w1 (row.map nW))(hr:∀p∈row,p<b.length) :
  d_ca fu [wB b,wS is,w1] ce=some (.ok (.cel ce.length) (ce++[.lst ((bg b is row).map nW)])):=by
 unfold d_ca;have hz:=fy;have e1:=BS fu hb h36 hw hr;have h2:=Ia (b:=b) (row:=row);refine dD [some (wB b),some (wS is),some w1] rfl ?_;refine bL (uO (zs:=gY b row) (en:=nW) (t:=fun p=>decide (is.getD p 0=0)) (by trivial) (by omega) (fun p hp=>?_)) ?_
 ·have:=Hi hp;have hp':p<is.length:=by omega
  trivial
 ·exact(((Own.start ce).alloc _).finO (by simp only[eK];exact aF _ _))
end
open Classical in
def vT(T:List Nat):Nat->Int:=fun x=>if x∈T then 0 else 1
theorem va{x:Nat}(h:x∈T):vT T x=0:=if_pos h
theorem nq{s:Nat}(hs:s∈T):cq (vT T) s y↔y∈T:=by
 unfold cq;rw[va hs];constructor
 ·intro h
  by_cases hy:y∈T
  ·exact hy
  ·unfold vT at h;rw[if_neg hy] at h;omega
 ·exact va
def ff(is H:List Int):List Nat:=(List.range is.length).filter fun p=>decide (is.getD p 0∈H)
def jB(b:List (List Nat))(T:List Nat):List (List Nat):=(T.filter (dQ b (vT T))).map (aH b (vT T))
theorem ll(is:List Int)(p q:Nat)(v:Int):(is.set p v).getD q 0=if p=q/\p<is.length then v else is.getD q 0:=by
 simp only[getD_eq_getElem?_getD,getElem?_set]
 by_cases h:p=q
 ·subst h
  by_cases h2:p<is.length
  ·simp[h2]
  ·simp[h2]
 ·simp[h]
abbrev vS(is:List Int):Nat->Int:=fun x=>is.getD x 0
abbrev vH(is:List Int)(h:Int):Nat->Int:=fun x=>if is.getD x 0=h then 1 else 0
theorem lh{ok ok':Nat->Prop}{s:Nat}(h:∀x y,Reach b ok s x->Reach b ok' s x->y∈b.getD x []->ok y->ok' y){x:Nat}(r:Reach b ok s x):Reach b ok' s x:=by
 induction r with
 | refl=>exact .refl
 | step r hy o ih=>exact ih.step hy (h _ _ r ih hy o)
open Classical in
theorem wF{vl':Nat->Int}{s:Nat}(e:∀y,Reach b (cq vl s) s y↔Reach b (cq vl' s) s y):aH b vl s=aH b vl' s:=by unfold aH;apply filter_congr;intro y _;rw[Bool.eq_iff_iff,decide_eq_true_eq,decide_eq_true_eq];exact e y
theorem FX(hb:Bd b)(sym:Sym b){s t:Nat}(hs:s<b.length)(ht:t<b.length)(h1:q∈aH b vl s)(h2:q∈aH b vl t):aH b vl s=aH b vl t:=by rw[<- jS hb sym hs h1,<- jS hb sym ht h2]
def i6(b:List (List Nat))(is:List Int)(h:Int):Prop:=∀s,s<b.length->is.getD s 0=h->∃x y,Reach b (cq (vS is) s) s x/\y∈b.getD x []/\is.getD y 0=0
theorem gk{is:List Int}(hb:Bd b):y∈bg b is r↔(∃x∈r,y∈b.getD x [])/\is.getD y 0=0:=by
 unfold bg gY;rw[mem_filter,mem_filter,mem_range,any_eq_true,decide_eq_true_eq];constructor
 ·rintro⟨⟨_,x,hx,q⟩,h0⟩;exact⟨⟨x,hx,of_decide_eq_true q⟩,h0⟩
 ·rintro⟨⟨x,hx,q⟩,h0⟩;exact⟨⟨hb.get q,x,hx,decide_eq_true q⟩,h0⟩
theorem wD{is:List Int}(hb:Bd b):bg b is r=[]↔∀x∈r,∀y∈b.getD x [],is.getD y 0≠0:=by
 rw[eq_nil_iff_forall_not_mem];constructor
 ·intro h x hx y hy h0;exact h y ((gk hb).mpr ⟨⟨x,hx,hy⟩,h0⟩)
 ·intro h y hy;obtain⟨⟨x,hx,hy⟩,h0⟩:=(gk hb).mp hy;exact h x hx y hy h0
structure kD (b:List (List Nat)) (is:List Int) (h:Int) (d:List (List Nat)) (is':List Int) (D:List (List Nat)):Prop where
 len:is'.length=is.length
 sub:∀r∈D,r∈d
 zp:∀r∈D,∀q∈r,is'.getD q 0=0
 was:∀q,is'.getD q 0=is.getD q 0\/(is'.getD q 0=0/\∃r∈D,q∈r)
 fre:∀r∈d,r∈D\/∃x∈r,∃y∈b.getD x [],is'.getD y 0=0
 no:∀r∈D,∀x∈r,∀y∈b.getD x [],is.getD y 0≠0
theorem bK{is:List Int}{h:Int}:p∈ff is [h]↔p<is.length/\is.getD p 0=h:=by unfold ff;rw[mem_filter,mem_range,decide_eq_true_eq,mem_singleton]
theorem qW(hb:Bd b)(sym:Sym b)(hT:∀x∈T,x<b.length){s:Nat}(hs:s∈T):aH b (vT T) s∈jB b T:=by obtain⟨m,h1,h2,h3⟩:=tH (vl:=vT T) hb sym (hT s hs);have hm:m∈T:=(nq hs).mp (bT hb (hT s hs) h1);exact mem_map.mpr ⟨m,mem_filter.mpr ⟨hm,h2⟩,h3⟩
theorem qV{c:List Nat}(h:c∈jB b T):∃s∈T,c=aH b (vT T) s:=by obtain⟨s,hs,rfl⟩:=mem_map.mp h;exact⟨s,(mem_filter.mp hs).1,rfl⟩
theorem sD{is:List Int}(hb:Bd b)(hl:is.length=b.length){s:Nat}(hs:s<b.length):aH b (vT (ff is [is.getD s 0])) s=aH b (vS is) s:=by
 have hT:s∈ff is [is.getD s 0]:=bK.mpr ⟨by omega,rfl⟩;refine wF fun y=>⟨fun r=>lh (fun x y _ _ _ o=>?_) r,fun r=>lh (fun x y _ _ hy o=>?_) r⟩
 ·exact(bK.mp ((nq hT).mp o)).2
 ·exact(nq hT).mpr (bK.mpr ⟨by rw[hl];exact hb.get hy,o⟩)
section
variable {is:List Int} {h:Int} {D:List (List Nat)}
theorem kD.hand{d:List (List Nat)}(S:kD b is h d is' D)(hb:Bd b)(hl:is.length=b.length)(hd:∀r∈d,r∈jB b (ff is [h]))(hr:r∈D)(hq:q∈r):is.getD q 0=h/\r=aH b (vS is) q\/¬Sym b:=by
 by_cases sym:Sym b
 ·left;obtain⟨s,hs,rfl⟩:=qV (hd r (S.sub r hr));have hs':=bK.mp hs;have hsb:s<b.length:=by omega
  have e:=hs'.2;subst e;rw[sD hb hl hsb] at hq ⊢;exact⟨bT hb hsb hq,(jS hb sym hsb hq).symm⟩
 ·exact .inr sym
theorem kD.hand'{d:List (List Nat)}(S:kD b is h d is' D)(hb:Bd b)(sym:Sym b)(hl:is.length=b.length)(hd:∀r∈d,r∈jB b (ff is [h]))(hr:r∈D)(hq:q∈r):is.getD q 0=h/\r=aH b (vS is) q:=(S.hand hb hl hd hr hq).resolve_right (fun n=>n sym)
theorem kD.snd(S:kD b is h (jB b (ff is [h])) is' D)(hb:Bd b)(sym:Sym b)(hl:is.length=b.length)(h0:h≠0):i6 b is' h:=by
 intro s hs e;have es:is.getD s 0=h:=by
  rcases S.was s with q|q
  ·rw[<- q];exact e
  ·exact absurd (e.symm.trans q.1) h0
 have hr:aH b (vS is) s∈jB b (ff is [h]):=by have:=qW (T:=ff is [is.getD s 0]) hb sym (fun x hx=>by have:=(bK.mp hx).1;omega) (bK.mpr ⟨by omega,rfl⟩:s∈_);rwa [sD hb hl hs,es] at this
 have nD:aH b (vS is) s∉D:=fun hD=>h0 (by rw[<- e];exact S.zp _ hD s (jT hb hs));rcases S.fre _ hr with q|⟨x,hx,y,hy,hy0⟩
 ·exact absurd q nD
 ·refine⟨x,y,?_,hy,hy0⟩;refine lh (fun u z ru _ hz oz=>?_) ((gZ hb hs).mp hx);have hzr:z∈aH b (vS is) s:=(gZ hb hs).mpr (ru.step hz oz);show is'.getD z 0=is'.getD s 0;rw[e];rcases S.was z with q|⟨_,r,hrD,hzr2⟩
  ·rw[q];exact oz.trans es
  ·obtain⟨_,er⟩:=S.hand' hb sym hl (fun r hr=>hr) hrD hzr2;rw[er,jS hb sym hs hzr] at hrD;exact absurd hrD nD
structure Ki (b:List (List Nat)) (is:List Int) (h:Int) (R C:List (List Nat)):Prop where
 row:∀r∈R,∃s,s<b.length/\is.getD s 0=h/\r=aH b (vS is) s
 cl:∀c∈C,∃s,s<b.length/\is.getD s 0≠h/\c=aH b (vH is h) s
 firm:∀r∈R,∃c1∈C,∃c2∈C,c1≠c2/\(∀p∈c1,is.getD p 0=0->p∈bg b is r)/\∀p∈c2,is.getD p 0=0->p∈bg b is r
 wall:∀c∈C,∀x∈c,∀y∈b.getD x [],is.getD y 0=h->∃r∈R,y∈r
structure bq (b:List (List Nat)) (is:List Int) (h o:Int) (p:Nat) (is':List Int) (D:List (List Nat)):Prop where
 hl:is.length=b.length
 hp:p<b.length
 p0:is.getD p 0=0
 sw:kD b (is.set p o) h (jB b (ff (is.set p o) [h])) is' D
 br:∃x y,Reach b (cq (vS is') p) p x/\y∈b.getD x []/\is'.getD y 0=0
structure eX (h o:Int):Prop where
 h0:h≠0
 o0:o≠0
 ho:o≠h
theorem bq.set1(L:bq b is h o p is' D)(q:Nat):(is.set p o).getD q 0=if q=p then o else is.getD q 0:=by
 rw[ll]
 by_cases e:q=p
 ·subst e;rw[if_pos ⟨rfl,by rw[L.hl];exact L.hp⟩,if_pos rfl]
 ·rw[if_neg (fun x=>e x.1.symm),if_neg e]
theorem bq.val(L:bq b is h o p is' D)(hb:Bd b)(sym:Sym b)(H:eX h o)(q:Nat):is'.getD q 0=(if q=p then o else is.getD q 0)\/(is'.getD q 0=0/\is.getD q 0=h/\q≠p/\∃r∈D,q∈r):=by
 rcases L.sw.was q with e|⟨e,r,hr,hq⟩
 ·left;rw[e,L.set1]
 ·obtain⟨e1,_⟩:=L.sw.hand' hb sym (by rw[length_set];exact L.hl) (fun r hr=>hr) hr hq;rw[L.set1] at e1
  by_cases hqp:q=p
  ·rw[if_pos hqp] at e1;exact absurd e1 H.ho
  ·rw[if_neg hqp] at e1;exact .inr ⟨e,e1,hqp,r,hr,hq⟩
theorem bq.isO(L:bq b is h o p is' D)(hb:Bd b)(sym:Sym b)(H:eX h o)(e:is.getD q 0=o):is'.getD q 0=o:=by
 rcases L.val hb sym H q with v|v
 ·rw[v];split
  ·rfl
  ·exact e
 ·exact absurd (e.symm.trans v.2.1) H.ho
theorem bq.isP(L:bq b is h o p is' D)(hb:Bd b)(sym:Sym b)(H:eX h o):is'.getD p 0=o:=by
 rcases L.val hb sym H p with v|v
 ·rw[v,if_pos rfl]
 ·exact absurd rfl v.2.2.1
theorem bq.is0(L:bq b is h o p is' D)(hb:Bd b)(sym:Sym b)(H:eX h o)(e:is.getD q 0=0)(hq:q≠p):is'.getD q 0=0:=by
 rcases L.val hb sym H q with v|v
 ·rw[v,if_neg hq];exact e
 ·exact v.1
theorem bq.snd(L:bq b is h o p is' D)(hb:Bd b)(sym:Sym b)(H:eX h o)(N:i6 b is o):i6 b is' o:=by
 intro s hs e;have eP:=L.isP hb sym H
 by_cases hsp:Reach b (cq (vS is') s) s p
 ·obtain⟨x,y,r,hy,h0⟩:=L.br;refine⟨x,y,hsp.trans ?_,hy,h0⟩;have:cq (vS is') s=cq (vS is') p:=vZ (vl:=vS is') (x:=s) (s:=p) (e.trans eP.symm);rw[this];exact r
 ·have hne:s≠p:=fun q=>hsp (by subst q;exact .refl);have es:is.getD s 0=o:=by
   rcases L.val hb sym H s with v|v
   ·rw[if_neg hne] at v;exact v.symm.trans e
   ·exact absurd (e.symm.trans v.1) H.o0
  obtain⟨x,y,r,hy,h0⟩:=N s hs es;have r':Reach b (cq (vS is') s) s x:=lh (fun u z _ _ _ oz=>by
   show is'.getD z 0=is'.getD s 0;rw[e];exact L.isO hb sym H (oz.trans es)) r
  refine⟨x,y,r',hy,L.is0 hb sym H h0 fun q=>hsp ?_⟩;subst q;exact r'.step hy (eP.trans e.symm)
end
theorem IE{t:Nat->Bool}{x:Nat}:x∈(List.range n).filter t↔x<n/\t x=true:=by rw[mem_filter,mem_range]
def lD(b:List (List Nat))(is:List Int)(o:Int)(p:Nat):List (List Nat):=(jB b (ff (is.set p o) [3-o])).filter fun r=>decide (bg b (is.set p o) r=[])
def lT(b:List (List Nat))(is:List Int)(o:Int)(p:Nat):List Nat:=(List.range b.length).filter fun q=>(lD b is o p).any fun r=>decide (q∈r)
def lS(b:List (List Nat))(is:List Int)(o:Int)(p:Nat):List Int:=(List.range is.length).map fun q=>if q=p then o else if q∈lT b is o p then 0 else is.getD q 0
structure cA (b:List (List Nat)) (is:List Int) (o:Int) (p:Nat):Prop where
 bd:Bd b
 sym:Sym b
 nl:∀i,i∉b.getD i []
 hl:is.length=b.length
 hp:p<b.length
 p0:is.getD p 0=0
 H:eX (3-o) o
 v:∀q,q<b.length->is.getD q 0=0\/is.getD q 0=3-o\/is.getD q 0=o
 nh:i6 b is (3-o)
 no:i6 b is o
section
variable {is:List Int}
theorem kN:(lS b is o p).length=is.length:=by simp[lS]
theorem cA.s1(A:cA b is o p)(q:Nat):(is.set p o).getD q 0=if q=p then o else is.getD q 0:=by
 rw[ll]
 by_cases e:q=p
 ·subst e;rw[if_pos ⟨rfl,by rw[A.hl];exact A.hp⟩,if_pos rfl]
 ·rw[if_neg (fun x=>e x.1.symm),if_neg e]
theorem cA.l1(A:cA b is o p):(is.set p o).length=b.length:=by rw[length_set];exact A.hl
theorem cA.get(A:cA b is o p)(hq:q<b.length):(lS b is o p).getD q 0=if q=p then o else if q∈lT b is o p then 0 else is.getD q 0:=by unfold lS;rw[getD_eq_getElem?_getD,getElem?_map,getElem?_range (by rw[A.hl];exact hq)];rfl
theorem cA.far(A:cA b is o p)(hq:¬q<b.length):(lS b is o p).getD q 0=0/\is.getD q 0=0:=by
 have h1:=A.hl;constructor
 ·rw[getD_eq_getElem?_getD,getElem?_eq_none (by rw[kN];omega)];rfl
 ·rw[getD_eq_getElem?_getD,getElem?_eq_none (by omega)];rfl
theorem cA.dead(A:cA b is o p):r∈lD b is o p↔∃s,s<b.length/\is.getD s 0=3-o/\r=aH b (vS is) s/\∀x∈r,∀y∈b.getD x [],is.getD y 0=0->y=p:=by
 have hT:∀{s},s∈ff (is.set p o) [3-o]↔s<b.length/\is.getD s 0=3-o:=fun {s}=>by
  rw[bK,A.l1,A.s1];constructor
  ·rintro⟨h1,h2⟩
   by_cases e:s=p
   ·rw[if_pos e] at h2;exact absurd h2 A.H.ho
   ·rw[if_neg e] at h2;exact⟨h1,h2⟩
  ·rintro⟨h1,h2⟩;have e:s≠p:=fun e=>by subst e;exact A.H.h0 (h2.symm.trans A.p0)
   exact⟨h1,by rw[if_neg e];exact h2⟩
 have hc:∀{s},s<b.length->is.getD s 0=3-o->aH b (vT (ff (is.set p o) [3-o])) s=aH b (vS is) s:=fun {s} hs es=>by
  have hsT:=hT.mpr ⟨hs,es⟩;refine wF fun y=>⟨fun r=>lh (fun u z _ _ hz oz=>?_) r,fun r=>lh (fun u z _ _ hz oz=>?_) r⟩
  ·exact(hT.mp ((nq hsT).mp oz)).2.trans es.symm
  ·exact(nq hsT).mpr (hT.mpr ⟨A.bd.get hz,Eq.trans oz es⟩)
 have hb1:∀{r:List Nat},bg b (is.set p o) r=[]↔∀x∈r,∀y∈b.getD x [],is.getD y 0=0->y=p:=fun {r}=>by
  rw[wD A.bd];constructor
  ·intro h x hx y hy y0;apply Classical.byContradiction;intro hne;exact h x hx y hy (by rw[A.s1,if_neg hne];exact y0)
  ·intro h x hx y hy;rw[A.s1]
   by_cases e:y=p
   ·rw[if_pos e];exact A.H.o0
   ·rw[if_neg e];exact fun y0=>e (h x hx y hy y0)
 unfold lD;rw[mem_filter,decide_eq_true_eq,hb1];constructor
 ·rintro⟨h1,h2⟩;obtain⟨s,hs,rfl⟩:=qV h1;obtain⟨q1,q2⟩:=hT.mp hs;rw[hc q1 q2] at h2 ⊢;exact⟨s,q1,q2,rfl,h2⟩
 ·rintro⟨s,q1,q2,rfl,h2⟩;refine⟨?_,h2⟩;have:=qW (T:=ff (is.set p o) [3-o]) A.bd A.sym (fun x hx=>(hT.mp hx).1) (hT.mpr ⟨q1,q2⟩);rwa [hc q1 q2] at this
theorem cA.tk(A:cA b is o p):q∈lT b is o p↔∃r∈lD b is o p,q∈r:=by
 unfold lT;rw[IE,any_eq_true];constructor
 ·rintro⟨_,r,hr,hq⟩;exact⟨r,hr,of_decide_eq_true hq⟩
 ·rintro⟨r,hr,hq⟩;obtain⟨s,hs,_,rfl,_⟩:=A.dead.mp hr;exact⟨bU hq,_,hr,decide_eq_true hq⟩
theorem cA.tkh(A:cA b is o p)(h:q∈lT b is o p):q<b.length/\is.getD q 0=3-o/\q≠p:=by obtain⟨r,hr,hq⟩:=A.tk.mp h;obtain⟨s,hs,es,rfl,_⟩:=A.dead.mp hr;have e:is.getD q 0=3-o:=(bT A.bd hs hq).trans es;exact⟨bU hq,e,fun e'=>by subst e';exact A.H.h0 (e.symm.trans A.p0)⟩
theorem cA.near(A:cA b is o p):q∈lT b is o p↔∃y∈b.getD p [],is.getD y 0=3-o/\(bg b is (aH b (vS is) y)).erase p=[]/\q∈aH b (vS is) y:=by
 have nd:∀r,(bg b is r).Nodup:=fun r=>List.Pairwise.filter _ (List.Pairwise.filter _ nodup_range);have er:∀y,y<b.length->((bg b is (aH b (vS is) y)).erase p=[]↔∀x∈aH b (vS is) y,∀z∈b.getD x [],is.getD z 0=0->z=p):=fun y hy=>by
  rw[eq_nil_iff_forall_not_mem];constructor
  ·intro h x hx z hz z0;apply Classical.byContradiction;intro hne;exact h z (((nd _).mem_erase_iff).mpr ⟨hne,(gk A.bd).mpr ⟨⟨x,hx,hz⟩,z0⟩⟩)
  ·intro h z hz;obtain⟨h1,h2⟩:=((nd _).mem_erase_iff).mp hz;obtain⟨⟨x,hx,hz⟩,z0⟩:=(gk A.bd).mp h2;exact h1 (h x hx z hz z0)
 rw[A.tk];constructor
 ·rintro⟨r,hr,hq⟩;obtain⟨s,hs,es,rfl,hd⟩:=A.dead.mp hr;obtain⟨u,w,ru,hw,w0⟩:=A.nh s hs es;have hu:u∈aH b (vS is) s:=(gZ A.bd hs).mpr ru;have e:=hd u hu w hw w0;subst e;have hub:=bU hu;refine⟨u,A.sym _ _ hw,(bT A.bd hs hu).trans es,?_,?_⟩
  ·rw[er u hub,jS A.bd A.sym hs hu];exact hd
  ·rw[jS A.bd A.sym hs hu];exact hq
 ·rintro⟨y,hy,ey,h1,hq⟩;have hyb:=A.bd.get hy;exact⟨_,A.dead.mpr ⟨y,hyb,ey,rfl,(er y hyb).mp h1⟩,hq⟩
theorem cA.swp(A:cA b is o p):kD b (is.set p o) (3-o) (jB b (ff (is.set p o) [3-o])) (lS b is o p) (lD b is o p):=by
 have low:∀y,(is.set p o).getD y 0=0->(lS b is o p).getD y 0=0:=fun y h0=>by
  by_cases hy:y<b.length
  ·rw[A.s1] at h0;rw[A.get hy]
   by_cases e:y=p
   ·rw[if_pos e] at h0;exact absurd h0 A.H.o0
   ·rw[if_neg e] at h0 ⊢;split
    ·rfl
    ·exact h0
  ·exact(A.far hy).1
 refine⟨by rw[kN,length_set],fun r hr=>(mem_filter.mp hr).1,fun r hr q hq=>?_,fun q=>?_,fun r hr=>?_,fun r hr=>?_⟩
 ·have ht:=A.tk.mpr ⟨r,hr,hq⟩;obtain⟨h1,_,h3⟩:=A.tkh ht;rw[A.get h1,if_neg h3,if_pos ht]
 ·by_cases hq:q<b.length
  ·rw[A.get hq,A.s1]
   by_cases e:q=p
   ·rw[if_pos e,if_pos e];exact .inl rfl
   ·rw[if_neg e,if_neg e]
    by_cases ht:q∈lT b is o p
    ·rw[if_pos ht];exact .inr ⟨rfl,A.tk.mp ht⟩
    ·rw[if_neg ht];exact .inl rfl
  ·left;rw[(A.far hq).1,A.s1,if_neg (fun e=>hq (by rw[e];exact A.hp)),(A.far hq).2]
 ·by_cases e:bg b (is.set p o) r=[]
  ·exact .inl (mem_filter.mpr ⟨hr,decide_eq_true e⟩)
  ·obtain⟨y,hy⟩:=exists_mem_of_ne_nil _ e;obtain⟨⟨x,hx,hy⟩,h0⟩:=(gk A.bd).mp hy;exact .inr ⟨x,hx,y,hy,low y h0⟩
 ·exact(wD A.bd).mp (of_decide_eq_true (mem_filter.mp hr).2)
def fI(b:List (List Nat))(is:List Int)(o:Int)(p:Nat):Prop:=bg b (lS b is o p) (aH b (vS (lS b is o p)) p)≠[]
theorem cA.laid(A:cA b is o p)(h:fI b is o p):bq b is (3-o) o p (lS b is o p) (lD b is o p):=by refine⟨A.hl,A.hp,A.p0,A.swp,?_⟩;obtain⟨y,hy⟩:=exists_mem_of_ne_nil _ h;obtain⟨⟨x,hx,hy⟩,h0⟩:=(gk A.bd).mp hy;exact⟨x,y,(gZ A.bd A.hp).mp hx,hy,h0⟩
theorem cA.atP(A:cA b is o p):(lS b is o p).getD p 0=o:=by rw[A.get A.hp,if_pos rfl]
theorem cA.brth(A:cA b is o p):fI b is o p↔((∃y∈b.getD p [],is.getD y 0=0)\/∃y∈b.getD p [],is.getD y 0=o/\(bg b is (aH b (vS is) y)).erase p≠[])\/lT b is o p≠[]:=by
 have nd:∀r,(bg b is r).Nodup:=fun r=>List.Pairwise.filter _ (List.Pairwise.filter _ nodup_range);have free:∀y,y<b.length->is.getD y 0=0->y≠p->(lS b is o p).getD y 0=0:=fun y hy y0 hne=>by
  rw[A.get hy,if_neg hne];split
  ·rfl
  ·exact y0
 have own:∀y,y<b.length->is.getD y 0=o->(lS b is o p).getD y 0=o:=fun y hy e=>by
  rw[A.get hy];split
  ·rfl
  ·rw[if_neg (fun h=>A.H.ho (e.symm.trans (A.tkh h).2.1))];exact e
 have selfP:=jT (vl:=vS (lS b is o p)) A.bd A.hp;constructor
 ·intro h
  by_cases ht:lT b is o p=[]
  ·left;obtain⟨w,hw⟩:=exists_mem_of_ne_nil _ h;obtain⟨⟨u,hu,hv⟩,w0⟩:=(gk A.bd).mp hw;have hwb:=A.bd.get hv;have e1:∀q,q<b.length->(lS b is o p).getD q 0=if q=p then o else is.getD q 0:=fun q hq=>by rw[A.get hq,ht];simp
   rw[e1 w hwb] at w0;have hwp:w≠p:=fun e=>by rw[if_pos e] at w0;exact A.H.o0 w0
   rw[if_neg hwp] at w0;have key:∀u,Reach b (cq (vS (lS b is o p)) p) p u->u=p\/∃y∈b.getD p [],is.getD y 0=o/\Reach b (cq (vS is) y) y u:=by
    intro u r
    induction r with
    | refl=>exact .inl rfl
    | @step x z r hz oz ih =>
     by_cases ezp:z=p
     ·exact .inl ezp
     ·right;have hzb:=A.bd.get hz;have oz':(lS b is o p).getD z 0=o:=Eq.trans oz A.atP;rw[e1 z hzb,if_neg ezp] at oz';rcases ih with rfl|⟨y,hy,ey,ry⟩
      ·exact⟨z,hz,oz',.refl⟩
      ·exact⟨y,hy,ey,ry.step hz (oz'.trans ey.symm)⟩
   rcases key u ((gZ A.bd A.hp).mp hu) with rfl|⟨y,hy,ey,ry⟩
   ·exact .inl ⟨w,hv,w0⟩
   ·refine .inr ⟨y,hy,ey,fun e=>?_⟩;have:w∈(bg b is (aH b (vS is) y)).erase p:=((nd _).mem_erase_iff).mpr ⟨hwp,(gk A.bd).mpr ⟨⟨u,(gZ A.bd (A.bd.get hy)).mpr ry,hv⟩,w0⟩⟩;rw[e] at this;simp at this
  ·exact .inr ht
 ·rintro((⟨y,hy,y0⟩|⟨y,hy,ey,hne⟩)|ht)
  ·have hyb:=A.bd.get hy;have hyp:y≠p:=fun e=>A.nl p (by rw[e] at hy;exact hy);exact ne_nil_of_mem ((gk A.bd).mpr ⟨⟨p,selfP,hy⟩,free y hyb y0 hyp⟩)
  ·obtain⟨w,hw⟩:=exists_mem_of_ne_nil _ hne;obtain⟨hwp,hw⟩:=((nd _).mem_erase_iff).mp hw;obtain⟨⟨u,hu,hw⟩,w0⟩:=(gk A.bd).mp hw;have hyb:=A.bd.get hy;have r1:Reach b (cq (vS (lS b is o p)) p) p y:=Reach.refl.step hy ((own y hyb ey).trans A.atP.symm);have r2:Reach b (cq (vS (lS b is o p)) p) y u:=lh (fun x z _ _ hz oz=>(own z (A.bd.get hz) (Eq.trans oz ey)).trans A.atP.symm) ((gZ A.bd hyb).mp hu);exact ne_nil_of_mem ((gk A.bd).mpr ⟨⟨u,(gZ A.bd A.hp).mpr (r1.trans r2),hw⟩,free w (A.bd.get hw) w0 hwp⟩)
  ·obtain⟨q,hq⟩:=exists_mem_of_ne_nil _ ht;obtain⟨y,hy,ey,h1,_⟩:=A.near.mp hq;have hyb:=A.bd.get hy;have ty:y∈lT b is o p:=A.near.mpr ⟨y,hy,ey,h1,jT A.bd hyb⟩;refine ne_nil_of_mem ((gk A.bd).mpr ⟨⟨p,selfP,hy⟩,?_⟩);rw[A.get hyb,if_neg (A.tkh ty).2.2,if_pos ty]
theorem cA.snd(A:cA b is o p)(h:fI b is o p):i6 b (lS b is o p) o/\i6 b (lS b is o p) (3-o) :=
 ⟨(A.laid h).snd A.bd A.sym A.H A.no,A.swp.snd A.bd A.sym A.l1 A.H.h0⟩
theorem cA.vals(A:cA b is o p):∀q,q<b.length->(lS b is o p).getD q 0=0\/(lS b is o p).getD q 0=3-o\/(lS b is o p).getD q 0=o:=fun q hq=>by
 rw[A.get hq];split
 ·exact .inr (.inr rfl)
 ·split
  ·exact .inl rfl
  ·exact A.v q hq
end
theorem Gi{is:List Int}{r':List Nat}(h:∀x,x∈r↔x∈r'):bg b is r=bg b is r':=by unfold bg gY;congr 1;apply filter_congr;intro y _;rw[Bool.eq_iff_iff,any_eq_true,any_eq_true];exact⟨fun⟨x,hx,q⟩=>⟨x,(h x).mp hx,q⟩,fun⟨x,hx,q⟩=>⟨x,(h x).mpr hx,q⟩⟩
theorem wC(g:ce[k]?=some (.dct (kvs F))):bQ [.cel k] ce=some (.ok (nW F.length) ce):=by
 have l:dg ce (.cel k)=none:=by simp only[dg,bP,g]
 simp only[bQ,l,v_ g,kA];rfl
section
variable {is:List Int}
theorem C9(fu:Nat)(hfu:200<=fu)(B:jG b)(hl:is.length=b.length){s:Nat}(hs:s<b.length):∃F,d_z fu [wB b,wS is,nW s] ce=some (.ok (.cel ce.length) (ce++[.lst (F.map nW)]))/\Comp b (cq (vS is) s) s F:=by
 have hz:=fy;have h36:=B.h36;have hb:=B.bd
 suffices h:∃w c,d_z fu [wB b,wS is,nW s] ce=some (.ok w c)/\∃F,w=.cel ce.length/\c=ce++[.lst (F.map nW)]/\Comp b (cq (vS is) s) s F by
  obtain⟨w,c,e,F,rfl,rfl,q⟩:=h;exact⟨F,e,q⟩
 unfold d_z;refine nr [some (wB b),some (wS is),some (nW s),none,none,none] rfl ?_;refine ba (iO (ws:=[nW s]) (by trivial) (by show 1<=sizeLine;omega)) ?_;refine aS ?_;have O0:=(Own.start ce).alloc (C.lst ([s].map nW));refine(?_:Run _ _ (ce++[C.lst ([s].map nW)]) _);generalize hk:ce.length=k3 at O0 ⊢;generalize ce++[C.lst ([s].map nW)]=c0 at O0 ⊢;refine ba (w:=nW 0) (ce':=c0) aU ?_;refine aS ?_;refine yI (σ:=List Nat×Nat) (fun st sl c=>∃x5,sl=[some (wB b),some (wS is),some (nW s),some (.cel k3),some (nW st.2),x5]/\Own ce c [(k3,C.lst (st.1.map nW))]/\st.1.Nodup/\s∈st.1/\(∀x∈st.1,x<b.length)/\st.2<=st.1.length/\(∀x∈st.1,Reach b (cq (vS is) s) s x)/\∀x∈st.1.take st.2,∀y∈b.getD x [],cq (vS is) s y->y∈st.1)
  (fun st=>36-st.2) ([s],0) ⟨_,rfl,O0,by simp,by simp,by simpa using hs,by simp,by simpa using Reach.refl,by simp⟩ (by show 36-0<fu;omega) ?_
 rintro⟨F,at'⟩ sl c ⟨x5,rfl,O,nd,hsF,lt,hat,re,cl⟩;dsimp only at O nd hsF lt hat re cl;have g3:=O.g0;have hF36:F.length<=36:=le_trans (eA nd lt) h36;have cmp:lF (nW at') (nW F.length)=some (.bl (decide ((at':Int)<(F.length:Int)))):=rL (i:=at') (j:=F.length) rfl rfl;refine⟨decide ((at':Int)<(F.length:Int)),by trivial,fun q=>?_,fun q=>?_⟩
 ·have hlt:at'<F.length:=by have:=of_decide_eq_true q;omega
  have hpF:F.getD at' 0∈F:=by rw[getD_eq_getElem?_getD,getElem?_eq_getElem hlt];exact getElem_mem hlt
  have ix:=v3 (p:=at') g3 hlt;have etk:F.take (at'+1)=F.take at'++[F.getD at' 0]:=by rw[take_add_one,getElem?_eq_getElem hlt,getD_eq_getElem?_getD,getElem?_eq_getElem hlt];rfl
  generalize F.getD at' 0=p at hpF ix etk;have hp:=lt p hpF;unfold zd;refine iN (zs:=b.getD p []) (en:=nW) (c1:=c) (mx (by trivial))
   (fun d sl c=>∃new x5,sl=[some (wB b),some (wS is),some (nW s),some (.cel k3),some (nW at'),x5]/\Own ce c [(k3,C.lst ((F++new).map nW))]/\(F++new).Nodup/\(∀x∈new,x∈b.getD p []/\cq (vS is) s x)/\∀x∈d,cq (vS is) s x->x∈F++new)
   ⟨[],x5,rfl,by simpa using O,by simpa using nd,by simp,by simp⟩ ?_ ?_
  ·rintro d y r sl c e hy ⟨new,x5,rfl,O,nd2,hnew,hd⟩;have g3:=O.g0;have hy':=hb.get hy;have lt2:∀x∈F++new,x<b.length:=fun x hx=>by
    rcases mem_append.mp hx with hx|hx
    ·exact lt x hx
    ·exact hb.get (hnew x hx).1
   have hl2:=eA nd2 lt2;have hw:((F++new).map nW).length<sizeLine:=by rw[length_map];omega
   have j1:=ie (ce:=c) (is:=is) (p:=y) (by omega);have j2:=ie (ce:=c) (is:=is) (p:=s) (by omega);unfold ze;refine aS ?_;refine fS (p:=decide (is.getD y 0=is.getD s 0)&&!decide (y∈F++new)) (ce':=c) (by trivial) (fun q=>?_) (fun q=>?_)
   ·simp only[and_eq_true,not_eq_true',decide_eq_false_iff_not,decide_eq_true_eq] at q;trivial;refine⟨new++[y],_,rfl,?_,?_,fun x hx=>?_,fun x hx o=>?_⟩
    ·have e2:(F++(new++[y])).map nW=(F++new).map nW++[nW y]:=by simp
     rw[e2];exact O.set0 _
    ·rw[<- append_assoc,nodup_append];exact⟨nd2,by simp,fun a ha c hc=>by rw[mem_singleton] at hc;subst hc;intro e;subst e;exact q.2 ha⟩
    ·rcases mem_append.mp hx with hx|hx
     ·exact hnew x hx
     ·rw[mem_singleton] at hx;subst hx;exact⟨hy,q.1⟩
    ·rw[<- append_assoc];rcases mem_append.mp hx with hx|hx
     ·exact mem_append_left _ (hd x hx o)
     ·rw[mem_singleton] at hx;subst hx;simp
   ·refine iA ?_;refine⟨new,_,rfl,O,nd2,hnew,fun x hx o=>?_⟩;rcases mem_append.mp hx with hx|hx
    ·exact hd x hx o
    ·rw[mem_singleton] at hx;subst hx;have o':is.getD x 0=is.getD s 0:=o;rw[decide_eq_true o',Bool.true_and,not_eq_false',decide_eq_true_eq] at q;exact q
  ·rintro sl c ⟨new,x5,rfl,O,nd2,hnew,hd⟩;have lt2:∀x∈F++new,x<b.length:=fun x hx=>by
    rcases mem_append.mp hx with hx|hx
    ·exact lt x hx
    ·exact hb.get (hnew x hx).1
   have fa:c7 (nW at') (.int 1)=some (nW (at'+1)):=k9 (i:=at') (j:=1) rfl rfl;refine xb (w:=nW (at'+1)) (ce':=c) (by trivial) ?_;refine⟨(F++new,at'+1),(by show 36-(at'+1)<36-at';omega),x5,rfl,O,nd2,mem_append_left _ hsF,lt2,by show at'+1<=(F++new).length;rw[length_append];omega,fun x hx=>?_,fun x hx y hy o=>?_⟩
   ·rcases mem_append.mp hx with hx|hx
    ·exact re x hx
    ·exact(re p hpF).step (hnew x hx).1 (hnew x hx).2
   ·rw[take_append_of_le_length (by omega),etk] at hx;rcases mem_append.mp hx with hx|hx
    ·exact mem_append_left _ (cl x hx y hy o)
    ·rw[mem_singleton] at hx;subst hx;exact hd y hy o
 ·have q':=of_decide_eq_false q;have eat:at'=F.length:=by omega
  subst eat;rw[take_length] at cl;refine bL (w:=.cel k3) (ce':=c) (by trivial) ?_;subst hk;exact⟨_,_,O.finO (by simp only[eK];exact aF _ _),F,rfl,rfl,⟨nd,hsF,lt,cl,re⟩⟩
theorem FW(fu:Nat)(hfu:200<=fu)(B:jG b)(hl:is.length=b.length){s:Nat}(hs:s<b.length):∃F,cY (d_z fu) [wB b,wS is,nW s] ce=some (.ok (wL F) ce)/\Comp b (cq (vS is) s) s F:=by obtain⟨F,e,h⟩:=C9 (ce:=ce) fu hfu B hl hs;exact⟨F,jv e (aF _ _),h⟩
theorem BR(fu:Nat)(B:jG b)(hl:is.length=b.length)(hr:∀p∈row,p<b.length):d_g fu [wB b,wS is,wL row] ce=some (.ok (.cel ce.length) (ce++[.lst ((bg b is row).map nW)])):=by
 have hz:=fy;have h36:=B.h36;have hb:=B.bd;unfold d_g;refine dD [some (wB b),some (wS is),some (wL row),none,none,none] rfl ?_;refine ba pD ?_;refine aS ?_;have O0:=(Own.start ce).alloc (C.dct (kvs []));refine(?_:Run _ _ (ce++[C.dct (kvs [])]) _);generalize hk:ce.length=k3 at O0 ⊢;generalize ce++[C.dct (kvs [])]=c0 at O0 ⊢;refine iN (zs:=row) (en:=nW) (kg (by trivial))
  (fun d sl c=>∃F x4 x5,sl=[some (wB b),some (wS is),some (wL row),some (.cel k3),x4,x5]/\Own ce c [(k3,C.dct (kvs F))]/\F.Nodup/\(∀x∈F,x<b.length)/\∀x,x∈F↔(∃p∈d,x∈b.getD p [])/\is.getD x 0=0)
  ⟨[],none,none,rfl,O0,by simp,by simp,by simp⟩ ?_ ?_
 ·rintro d p r sl c e hp ⟨F,x4,x5,rfl,O,nd,lt,mem⟩;have hp':=hr p hp;unfold zK;refine aS ?_;refine mR (zs:=b.getD p []) (en:=nW) (mx (by trivial))
   (fun d' sl c=>∃F x5,sl=[some (wB b),some (wS is),some (wL row),some (.cel k3),some (nW p),x5]/\Own ce c [(k3,C.dct (kvs F))]/\F.Nodup/\(∀x∈F,x<b.length)/\∀x,x∈F↔((∃p∈d,x∈b.getD p [])\/x∈d')/\is.getD x 0=0)
   ⟨F,x5,rfl,O,nd,lt,by simpa using mem⟩ ?_ ?_
  ·rintro d' y r' sl c e' hy ⟨F,x5,rfl,O,nd,lt,mem⟩;have g:=kU O.g0;have hl':(kvs F).length<sizeLine:=by rw[kA];have:=eA nd lt;omega
   have hy':=hb.get hy;have j1:=ie (ce:=c) (is:=is) (p:=y) (by omega);unfold zL;refine aS ?_;refine fS (p:=decide (is.getD y 0=0)) (ce':=c) (by trivial) (fun q=>?_) (fun q=>?_)
   ·have q':=of_decide_eq_true q;trivial;refine⟨ins F y,some (nW y),rfl,?_,my nd,fun x hx=>?_,fun x=>?_⟩
    ·rw[mK];exact O.set0 _
    ·rcases bt.mp hx with hx|rfl
     ·exact lt x hx
     ·exact hy'
    ·rw[bt,mem,mem_append,mem_singleton];constructor
     ·rintro(⟨h1,h2⟩|rfl)
      ·exact⟨h1.imp id .inl,h2⟩
      ·exact⟨.inr (.inr rfl),q'⟩
     ·rintro⟨h1|h1|rfl,h2⟩
      ·exact .inl ⟨.inl h1,h2⟩
      ·exact .inl ⟨.inr h1,h2⟩
      ·exact .inr rfl
   ·have q':=of_decide_eq_false q;refine iA ?_;refine⟨F,some (nW y),rfl,O,nd,lt,fun x=>?_⟩;rw[mem,mem_append,mem_singleton];constructor
    ·rintro⟨h1,h2⟩;exact⟨h1.imp id .inl,h2⟩
    ·rintro⟨h1|h1|rfl,h2⟩
     ·exact⟨.inl h1,h2⟩
     ·exact⟨.inr h1,h2⟩
     ·exact absurd h2 q'
  ·rintro sl c ⟨F,x5,rfl,O,nd,lt,mem⟩;refine⟨F,some (nW p),x5,rfl,O,nd,lt,fun x=>?_⟩;rw[mem];refine and_congr_left fun _=>?_;constructor
   ·rintro(⟨q,hq,h⟩|h)
    ·exact⟨q,mem_append_left _ hq,h⟩
    ·exact⟨p,by simp,h⟩
   ·rintro⟨q,hq,h⟩;rcases mem_append.mp hq with hq|hq
    ·exact .inl ⟨q,hq,h⟩
    ·rw[mem_singleton] at hq;subst hq;exact .inr h
 ·rintro sl c ⟨F,x4,x5,rfl,O,nd,lt,mem⟩;have hl':=eA nd lt;have es:b_ F=bg b is row:=by rw[nZ nd lt];unfold bg gY;rw[filter_filter];apply filter_congr;intro x _;rw[Bool.eq_iff_iff];simp only[decide_eq_true_eq,mem,and_eq_true,any_eq_true];exact and_comm
  refine bL (w:=.cel c.length) (ce':=c++[.lst ((bg b is row).map nW)]) (cJ (aK (cJ (aK (by trivial) aM) ((xV (.cl O.g0)).trans (ir (by rw[length_map];omega)))) aM) ?_) ?_
  ·show eO eI [wL F] c=_;rw[xT (by omega),es];exact kr (by rw[length_map,<- es,mQ];omega)
  ·subst hk;exact(O.alloc _).finO (by simp only[eK];exact aF _ _)
end
structure bD (b:List (List Nat)) (is:List Int):Prop where
 hl:is.length=b.length
 v:∀q,q<b.length->0<=is.getD q 0/\is.getD q 0<=2
 s1:i6 b is 1
 s2:i6 b is 2
structure bZ (b:List (List Nat)):Prop where
 B:jG b
 nl:∀i,i∉b.getD i []
section
variable {is:List Int}
theorem bD.ly(S:bD b is)(N:bZ b)(ho:o=1\/o=2)(hp:p<b.length)(p0:is.getD p 0=0):cA b is o p:=by
 refine⟨N.B.bd,N.B.sym,N.nl,S.hl,hp,p0,⟨by omega,by omega,by omega⟩,fun q hq=>by have:=S.v q hq;omega,?_,?_⟩
 ·rcases ho with rfl|rfl
  ·exact S.s2
  ·exact S.s1
 ·rcases ho with rfl|rfl
  ·exact S.s1
  ·exact S.s2
theorem cA.std(A:cA b is o p)(ho:o=1\/o=2)(h:fI b is o p):bD b (lS b is o p):=by
 obtain⟨n1,n2⟩:=A.snd h;refine⟨by rw[kN];exact A.hl,fun q hq=>by have:=A.vals q hq;omega,?_,?_⟩
 ·rcases ho with rfl|rfl
  ·exact n1
  ·exact n2
 ·rcases ho with rfl|rfl
  ·exact n2
  ·exact n1
theorem qU(h:∀x∈F,x<n)(hy:y<n):∀x∈ins F y,x<n:=fun x hx=>by
 rcases bt.mp hx with hx|rfl
 ·exact h x hx
 ·exact hy
open Classical in
def gK(b:List (List Nat))(is:List Int)(o:Int)(p:Nat):W:=if is.getD p 0=0 then (if fI b is o p then .tup [wS (lS b is o p),wL (lT b is o p)] else .str "breath") else .str "lay"
theorem tf{l:List Int}(hl:l.length=m.length)(h:∀q,q<l.length->l.getD q 0=m.getD q 0):l=m:=by apply ext_getElem hl;intro i h1 h2;have:=h i h1;rw[getD_eq_getElem?_getD,getD_eq_getElem?_getD,getElem?_eq_getElem h1,getElem?_eq_getElem h2] at this;exact this
theorem Ay{a:Sl->M W}(h:a sl ce=some (.ok (.cel k) c1))(g:c1[k]?=some (.dct (kvs F))):bp (qh a) sl ce (c1.set k (.fzd (kvs F))) (F.map nW):=by refine⟨.dky ((kvs F).map fun p=>kW p.1),by simp only[qh,au,h,g],?_,fun _=>trivial⟩;simp only[Src.items,kvs,map_map];rfl
theorem EM(fu:Nat)(hfu:200<=fu)(N:bZ b)(S:bD b is)(ho:o=1\/o=2)(hp:p<b.length):d_n fu [wB b,wS is,.int o,nW p] ce=some (.ok (gK b is o p) ce):=by
 have hz:=fy;have B:=N.B;have h36:=B.h36;have hb:=B.bd;have hl:=S.hl;have jp:=fun c=>ie (ce:=c) (is:=is) (p:=p) (by omega);have jpc:=jp ce;unfold d_n;refine dD [some (wB b),some (wS is),some (.int o),some (nW p),none,none,none,none,none,none,none] rfl ?_;refine bS (p:=!decide (is.getD p 0=0)) (ce':=ce) (by trivial) (fun q=>?_) (fun q=>?_)
 ·have q':¬is.getD p 0=0:=by simpa using q
  refine iu (bL (w:=.str "lay") (ce':=ce) aU ?_);refine iq ?_;unfold gK;rw[if_neg q'];exact dR (by simp only[aV])
 have p0:is.getD p 0=0:=by simpa using q
 have A:=S.ly N ho hp p0;refine du ?_;refine ba pD ?_;refine aS ?_;refine(?_:Run _ _ (ce++[C.dct (kvs [])]) _);have O0:=(Own.start ce).alloc (C.dct (kvs []));generalize hk4:ce.length=k4 at O0 ⊢;generalize ce++[C.dct (kvs [])]=c0 at O0 ⊢;refine ba pD ?_;refine aS ?_;refine(?_:Run _ _ (c0++[C.dct (kvs [])]) _);have O1:=O0.alloc (C.dct (kvs []));generalize c0.length=k5 at O1 ⊢;generalize c0++[C.dct (kvs [])]=c1 at O1 ⊢;refine iN (zs:=b.getD p []) (en:=nW) (mx (by trivial))
  (fun d sl c=>∃F4 F5 x6 x7 x8 x9,sl=[some (wB b),some (wS is),some (.int o),some (nW p),some (.cel k4),some (.cel k5),x6,x7,x8,x9,none]/\Own ce c [(k5,C.dct (kvs F5)),(k4,C.dct (kvs F4))]/\F4.Nodup/\F5.Nodup/\(∀x∈F4,x<b.length)/\(∀x∈F5,x<b.length)
   /\ (∀x,x∈F4↔∃y∈d,is.getD y 0=3-o/\(bg b is (aH b (vS is) y)).erase p=[]/\x∈aH b (vS is) y)
   /\ ∀x,x∈F5↔(x∈d/\is.getD x 0=0)\/∃y∈d,is.getD y 0=o/\x∈(bg b is (aH b (vS is) y)).erase p)
  ⟨[],[],_,_,_,_,rfl,O1,by simp,by simp,by simp,by simp,by simp,by simp⟩ ?_ ?_
 ·rintro d y r sl c e hy ⟨F4,F5,x6,x7,x8,x9,rfl,O,nd4,nd5,lt4,lt5,m4,m5⟩;have hyb:=hb.get hy;have vy:=S.v y hyb;have jy:=fun c=>ie (ce:=c) (is:=is) (p:=y) (by omega);have jyc:=jy c;have g5:=O.g0;have gd5:=kU O.g0;have hs5:(kvs F5).length<sizeLine:=by rw[kA];have:=eA nd5 lt5;omega
  unfold zC;refine aS ?_;refine fS (p:=decide (is.getD y 0=0)) (ce':=c) (by trivial) (fun q=>?_) (fun q=>?_)
  ·have y0:=of_decide_eq_true q;trivial;refine⟨F4,ins F5 y,_,_,_,_,rfl,by rw[mK];exact O.set0 _,nd4,my nd5,lt4,qU lt5 hyb,fun x=>?_,fun x=>?_⟩
   ·rw[m4];constructor
    ·rintro⟨z,hz,h⟩;exact⟨z,mem_append_left _ hz,h⟩
    ·rintro⟨z,hz,h⟩;rcases mem_append.mp hz with hz|hz
     ·exact⟨z,hz,h⟩
     ·rw[mem_singleton] at hz;subst hz;exact absurd (h.1.symm.trans y0) (by omega)
   ·rw[bt,m5];constructor
    ·rintro((⟨h1,h2⟩|⟨z,hz,h⟩)|rfl)
     ·exact .inl ⟨mem_append_left _ h1,h2⟩
     ·exact .inr ⟨z,mem_append_left _ hz,h⟩
     ·exact .inl ⟨by simp,y0⟩
    ·rintro(⟨h1,h2⟩|⟨z,hz,h⟩)
     ·rcases mem_append.mp h1 with h1|h1
      ·exact .inl (.inl ⟨h1,h2⟩)
      ·rw[mem_singleton] at h1;exact .inr h1
     ·rcases mem_append.mp hz with hz|hz
      ·exact .inl (.inr ⟨z,hz,h⟩)
      ·rw[mem_singleton] at hz;subst hz;exact absurd (h.1.symm.trans y0) (by omega)
  ·have y0:=of_decide_eq_false q;obtain⟨Fy,e7,cm⟩:=FW (ce:=c) fu hfu B hl hyb;have mF:∀x,x∈Fy↔x∈aH b (vS is) y:=fun x=>(cm.mem x).trans (gZ hb hyb).symm;have eB:bg b is Fy=bg b is (aH b (vS is) y):=Gi mF;have e8:=BR (ce:=c) (is:=is) fu B hl cm.lt;rw[eB] at e8;have hpb:p∈bg b is (aH b (vS is) y):=(gk hb).mpr ⟨⟨y,jT hb hyb,A.sym _ _ hy⟩,p0⟩;have hlen:(bg b is (aH b (vS is) y)).length<=36:=by
    have h1:(bg b is (aH b (vS is) y)).Nodup:=List.Pairwise.filter _ (List.Pairwise.filter _ nodup_range);have h2:∀x∈bg b is (aH b (vS is) y),x<b.length:=fun x hx=>by
     obtain⟨⟨u,_,h⟩,_⟩:=(gk hb).mp hx;exact hb.get h
    exact le_trans (eA h1 h2) h36
   have hbl:∀x∈(bg b is (aH b (vS is) y)).erase p,x<b.length:=fun x hx=>by
    obtain⟨⟨u,_,h⟩,_⟩:=(gk hb).mp (mem_of_mem_erase hx);exact hb.get h
   refine ba (w:=wL Fy) (ce':=c) (by trivial) ?_;refine aS ?_;refine ba (w:=.cel c.length) (ce':=c++[.lst ((bg b is (aH b (vS is) y)).map nW)]) (by trivial) ?_;refine aS ?_;have O2:=O.alloc (C.lst ((bg b is (aH b (vS is) y)).map nW));generalize c.length=k8 at O2 ⊢;generalize c++[C.lst ((bg b is (aH b (vS is) y)).map nW)]=c2 at O2 ⊢;refine kj (w:=.non) (ce':=c2.set k8 (.lst (((bg b is (aH b (vS is) y)).erase p).map nW))) (h_ (ws:=[nW p]) (by trivial) (fC O2.g0) (by trivial) (BD O2.g0 hpb)) ?_;have O3:=O2.set0 (C.lst (((bg b is (aH b (vS is) y)).erase p).map nW));generalize c2.set k8 (C.lst (((bg b is (aH b (vS is) y)).erase p).map nW))=c3 at O3 ⊢;have jy3:=jy c3;refine fS (p:=decide (is.getD y 0=o)) (ce':=c3) (by trivial) (fun q2=>?_) (fun q2=>?_)
   ·have yo:=of_decide_eq_true q2;refine FT (zs:=(bg b is (aH b (vS is) y)).erase p) (en:=nW) (k:=k8) (by trivial) O3.g0
     (fun d' sl c=>∃F5' x9,sl=[some (wB b),some (wS is),some (.int o),some (nW p),some (.cel k4),some (.cel k5),some (nW y),some (wL Fy),some (.cel k8),x9,none]/\Own ce c [(k8,C.lst (((bg b is (aH b (vS is) y)).erase p).map nW)),(k5,C.dct (kvs F5')),(k4,C.dct (kvs F4))]/\F5'.Nodup/\(∀x∈F5',x<b.length)/\∀x,x∈F5'↔x∈F5\/x∈d')
     ⟨F5,_,rfl,O3,nd5,lt5,by simp⟩ (fun d sl c h=>by obtain⟨_,_,_,O,_⟩:=h;exact O.g0) ?_ ?_
    ·rintro d' u r' sl c e' hu ⟨F5',x9,rfl,O,nd',lt',mem'⟩;have gd:=kU O.g1;have hs:(kvs F5').length<sizeLine:=by rw[kA];have:=eA nd' lt';omega
     unfold zD;trivial;refine⟨ins F5' u,_,rfl,by rw[mK];exact O.set1 _,my nd',qU lt' (hbl u hu),fun x=>?_⟩;rw[bt,mem',mem_append,mem_singleton,or_assoc]
    ·rintro sl c ⟨F5',x9,rfl,O,nd',lt',mem'⟩;refine⟨F4,F5',_,_,_,_,rfl,O.drop,nd4,nd',lt4,lt',fun x=>?_,fun x=>?_⟩
     ·rw[m4];constructor
      ·rintro⟨z,hz,h⟩;exact⟨z,mem_append_left _ hz,h⟩
      ·rintro⟨z,hz,h⟩;rcases mem_append.mp hz with hz|hz
       ·exact⟨z,hz,h⟩
       ·rw[mem_singleton] at hz;subst hz;exact absurd (h.1.symm.trans yo) (by omega)
     ·rw[mem',m5];constructor
      ·rintro((⟨h1,h2⟩|⟨z,hz,h⟩)|h)
       ·exact .inl ⟨mem_append_left _ h1,h2⟩
       ·exact .inr ⟨z,mem_append_left _ hz,h⟩
       ·exact .inr ⟨y,by simp,yo,h⟩
      ·rintro(⟨h1,h2⟩|⟨z,hz,h⟩)
       ·rcases mem_append.mp h1 with h1|h1
        ·exact .inl (.inl ⟨h1,h2⟩)
        ·rw[mem_singleton] at h1;subst h1;exact absurd h2 y0
       ·rcases mem_append.mp hz with hz|hz
        ·exact .inl (.inr ⟨z,hz,h⟩)
        ·rw[mem_singleton] at hz;subst hz;exact .inr h.2
   ·have yo:=of_decide_eq_false q2;have yh:is.getD y 0=3-o:=by omega
    have m5':∀x,((x∈d++[y]/\is.getD x 0=0)\/∃z∈d++[y],is.getD z 0=o/\x∈(bg b is (aH b (vS is) z)).erase p)↔x∈F5:=fun x=>by
     rw[m5];constructor
     ·rintro(⟨h1,h2⟩|⟨z,hz,h⟩)
      ·rcases mem_append.mp h1 with h1|h1
       ·exact .inl ⟨h1,h2⟩
       ·rw[mem_singleton] at h1;subst h1;exact absurd h2 y0
      ·rcases mem_append.mp hz with hz|hz
       ·exact .inr ⟨z,hz,h⟩
       ·rw[mem_singleton] at hz;subst hz;exact absurd h.1 yo
     ·rintro(⟨h1,h2⟩|⟨z,hz,h⟩)
      ·exact .inl ⟨mem_append_left _ h1,h2⟩
      ·exact .inr ⟨z,mem_append_left _ hz,h⟩
    have eqn:bo false c3 (.cel k8) (.lst [])=some (.bl (decide ((bg b is (aH b (vS is) y)).erase p=[]))):=(a_.cl O3.g0).eqN (m:=[]) (.fr _) false;refine fS (p:=decide ((bg b is (aH b (vS is) y)).erase p=[])) (ce':=c3) (by trivial) (fun q3=>?_) (fun q3=>?_)
    ·have e3:=of_decide_eq_true q3;refine mR (zs:=Fy) (en:=nW) (kg (by trivial))
      (fun d' sl c=>∃F4' x9,sl=[some (wB b),some (wS is),some (.int o),some (nW p),some (.cel k4),some (.cel k5),some (nW y),some (wL Fy),some (.cel k8),x9,none]/\Own ce c [(k8,C.lst (((bg b is (aH b (vS is) y)).erase p).map nW)),(k5,C.dct (kvs F5)),(k4,C.dct (kvs F4'))]/\F4'.Nodup/\(∀x∈F4',x<b.length)/\∀x,x∈F4'↔x∈F4\/x∈d')
      ⟨F4,_,rfl,O3,nd4,lt4,by simp⟩ ?_ ?_
     ·rintro d' u r' sl c e' hu ⟨F4',x9,rfl,O,nd',lt',mem'⟩;have gd:=kU O.g2;have hs:(kvs F4').length<sizeLine:=by rw[kA];have:=eA nd' lt';omega
      unfold zE;trivial;refine⟨ins F4' u,_,rfl,by rw[mK];exact O.set2 _,my nd',qU lt' (cm.lt u hu),fun x=>?_⟩;rw[bt,mem',mem_append,mem_singleton,or_assoc]
     ·rintro sl c ⟨F4',x9,rfl,O,nd',lt',mem'⟩;refine⟨F4',F5,_,_,_,_,rfl,O.drop,nd',nd5,lt',lt5,fun x=>?_,fun x=>(m5' x).symm⟩;rw[mem',m4,mF];constructor
      ·rintro(⟨z,hz,h⟩|h)
       ·exact⟨z,mem_append_left _ hz,h⟩
       ·exact⟨y,by simp,yh,e3,h⟩
      ·rintro⟨z,hz,h⟩;rcases mem_append.mp hz with hz|hz
       ·exact .inl ⟨z,hz,h⟩
       ·rw[mem_singleton] at hz;subst hz;exact .inr h.2.2
    ·have e3:=of_decide_eq_false q3;refine iA ?_;refine⟨F4,F5,_,_,_,_,rfl,O3.drop,nd4,nd5,lt4,lt5,fun x=>?_,fun x=>(m5' x).symm⟩;rw[m4];constructor
     ·rintro⟨z,hz,h⟩;exact⟨z,mem_append_left _ hz,h⟩
     ·rintro⟨z,hz,h⟩;rcases mem_append.mp hz with hz|hz
      ·exact⟨z,hz,h⟩
      ·rw[mem_singleton] at hz;subst hz;exact absurd h.2.1 e3
 ·rintro sl c ⟨F4,F5,x6,x7,x8,x9,rfl,O,nd4,nd5,lt4,lt5,m4,m5⟩;have eT:∀x,x∈F4↔x∈lT b is o p:=fun x=>(m4 x).trans A.near.symm;have l5:=wC O.g0;have l4:=wC O.g1;have eFr:fI b is o p↔¬(F5.length=0/\F4.length=0):=by
   rw[A.brth];constructor
   ·rintro((⟨y,hy,y0⟩|⟨y,hy,ey,hne⟩)|h) ⟨h5,h4⟩
    ·have:y∈F5:=(m5 y).mpr (.inl ⟨hy,y0⟩);rw[length_eq_zero_iff.mp h5] at this;simp at this
    ·obtain⟨x,hx⟩:=exists_mem_of_ne_nil _ hne;have:x∈F5:=(m5 x).mpr (.inr ⟨y,hy,ey,hx⟩);rw[length_eq_zero_iff.mp h5] at this;simp at this
    ·obtain⟨x,hx⟩:=exists_mem_of_ne_nil _ h;have:=(eT x).mpr hx;rw[length_eq_zero_iff.mp h4] at this;simp at this
   ·intro h
    by_cases h4:F4=[]
    ·have h5:F5≠[]:=fun e=>h ⟨by rw[e];rfl,by rw[h4];rfl⟩;obtain⟨x,hx⟩:=exists_mem_of_ne_nil _ h5;left;rcases(m5 x).mp hx with ⟨h1,h2⟩|⟨y,hy,ey,hx⟩
     ·exact .inl ⟨x,h1,h2⟩
     ·exact .inr ⟨y,hy,ey,ne_nil_of_mem hx⟩
    ·obtain⟨x,hx⟩:=exists_mem_of_ne_nil _ h4;exact .inr (ne_nil_of_mem ((eT x).mp hx))
  have q5:fj (nW F5.length) (.int 0)=some (.bl (decide ((F5.length:Int)=0))):=pw (i:=F5.length) (j:=0) rfl rfl;have q4:fj (nW F4.length) (.int 0)=some (.bl (decide ((F4.length:Int)=0))):=pw (i:=F4.length) (j:=0) rfl rfl;refine bS (p:=decide ((F5.length:Int)=0)&&decide ((F4.length:Int)=0)) (ce':=c) (by trivial) (fun q=>?_) (fun q=>?_)
  ·simp only[and_eq_true,decide_eq_true_eq] at q;refine iu (bL (w:=.str "breath") (ce':=c) aU ?_);refine iq ?_;unfold gK;rw[if_pos p0,if_neg (fun h=>eFr.mp h (by omega))];subst hk4;exact O.finC (by simp only[aV])
  ·have fr:fI b is o p:=eFr.mpr fun h=>by
    rw[decide_eq_true (by omega),decide_eq_true (by omega)] at q;cases q
   refine du ?_;have hlz:is.length<=sizeLine:=by omega
   refine ba (w:=.cel c.length) (ce':=c++[.lst (is.map W.int)]) (cJ (aK (by trivial) aM) (by rw[pC (xs:=is.map W.int) rfl,kr (by rw[length_map];exact hlz)])) ?_;refine aS ?_;have O2:=O.alloc (C.lst (is.map W.int));generalize c.length=k10 at O2 ⊢;generalize c++[C.lst (is.map W.int)]=c2 at O2 ⊢;have O3:=O2.set2 (C.fzd (kvs F4));refine iN (zs:=F4) (en:=nW) (c1:=c2.set k4 (.fzd (kvs F4))) (Ay (by trivial) O2.g2)
    (fun d sl c=>∃is' x9,sl=[some (wB b),some (wS is),some (.int o),some (nW p),some (.cel k4),some (.cel k5),x6,x7,x8,x9,some (.cel k10)]/\Own ce c [(k10,C.lst (is'.map W.int)),(k5,C.dct (kvs F5)),(k4,C.fzd (kvs F4))]/\is'.length=b.length/\(∀q∈d,is'.getD q 0=0)/\∀q,q∉d->is'.getD q 0=is.getD q 0)
    ⟨is,_,rfl,O3,hl,by simp,fun _ _=>rfl⟩ ?_ ?_
   ·rintro d u r sl c e hu ⟨is',x9,rfl,O,l',z1,z2⟩;have hul:u<is'.length:=by rw[l'];exact lt4 u hu
    unfold zF;refine aS ?_;refine xO (w:=.int 0) (k:=k10) (ij:=u) (j:=u) (by trivial) (by trivial) (by trivial) O.g0 (pq (by rw[length_map];exact hul)) ?_;refine⟨is'.set u 0,_,rfl,by rw[map_set];exact O.set0 _,by rw[length_set];exact l',fun q hq=>?_,fun q hq=>?_⟩
    ·rw[ll];split
     ·rfl
     ·rename_i hn;rcases mem_append.mp hq with hq|hq
      ·exact z1 q hq
      ·rw[mem_singleton] at hq;exact absurd ⟨hq.symm,hul⟩ hn
    ·rw[ll,if_neg (fun x=>hq (by rw[<- x.1];simp))];exact z2 q fun x=>hq (mem_append_left _ x)
   ·rintro sl c ⟨is',x9,rfl,O,l',z1,z2⟩;have hpl:p<is'.length:=by omega
    refine xN (w:=.int o) (k:=k10) (ij:=p) (j:=p) (by trivial) (by trivial) (by trivial) O.g0 (pq (by rw[length_map];exact hpl)) ?_;have es:(is'.map W.int).set p (.int o)=(is'.set p o).map W.int:=by rw[map_set]
    have eL:is'.set p o=lS b is o p:=by
     refine tf (by rw[length_set,kN,l',hl]) fun q hq=>?_;rw[length_set,l'] at hq;rw[A.get hq,ll]
     by_cases e:q=p
     ·subst e;rw[if_pos ⟨rfl,hpl⟩,if_pos rfl]
     ·rw[if_neg (fun x=>e x.1.symm),if_neg e]
      by_cases ht:q∈lT b is o p
      ·rw[if_pos ht];exact z1 q ((eT q).mpr ht)
      ·rw[if_neg ht];exact z2 q fun h=>ht ((eT q).mp h)
    rw[es,eL];have O4:=O.set0 (C.lst ((lS b is o p).map W.int));generalize c.set k10 (C.lst ((lS b is o p).map W.int))=c4 at O4 ⊢;have lz:(lS b is o p).length<=sizeLine:=by rw[kN];omega
    have h4l:=eA nd4 lt4;have e4:b_ F4=lT b is o p:=by rw[nZ nd4 lt4];unfold lT;apply filter_congr;intro x hx;rw[Bool.eq_iff_iff,decide_eq_true_eq,eT,any_eq_true,A.tk];exact⟨fun⟨r,h1,h2⟩=>⟨r,h1,decide_eq_true h2⟩,fun⟨r,h1,h2⟩=>⟨r,h1,of_decide_eq_true h2⟩⟩
    have eW:gK b is o p=.tup [wS (lS b is o p),wL (lT b is o p)]:=by unfold gK;rw[if_pos p0,if_pos fr]
    have z22:2<=sizeLine:=by decide
    refine bL (w:=gK b is o p) (ce':=c4) ?_ ?_
    ·rw[eW];refine jm (ws:=[wS (lS b is o p),wL (lT b is o p)]) (aK (cJ (aK (by trivial) aM) (qM O4.g0 lz)) (aK (cJ (aK (cJ (aK (by trivial) aM) ((xV (.fz O4.g2)).trans (ir (by rw[length_map];omega)))) aM) ?_) aM)) z22;show eO aQ [wL F4] c4=_;rw[xT (by omega),e4];exact ir (by rw[length_map,<- e4,mQ];omega)
    ·rw[eW];subst hk4;exact O4.finC (by simp only[aV,cI];exact⟨bx _ _,aF _ _,trivial⟩)
end
section
variable {is:List Int}
theorem oF(b:List (List Nat)):bD b (b.map fun _=>0):=by
 have z:∀q,(b.map fun _=>(0:Int)).getD q 0=0:=fun q=>by
  rw[getD_eq_getElem?_getD,getElem?_map];cases b[q]?<;>rfl
 exact⟨by simp,fun q _=>by rw[z];omega,fun s _ e=>by rw[z] at e;omega,fun s _ e=>by rw[z] at e;omega⟩
theorem s_(fu:Nat)(h:Int):d_k fu [.int h] ce=some (.ok (.int (3-h)) ce):=by unfold d_k;refine dD [some (.int h)] rfl ?_;refine bL (w:=.int (3-h)) (ce':=ce) (by trivial) (dR (by simp only[aV]))
theorem Hh(fu:Nat){v:Int}(hw:a_ ce w1 (pts.map nW))(hl:is.length<=36)(hp:∀q∈pts,q<is.length):∃is',d_da fu [wS is,w1,.int v] ce=some (.ok (wS is') ce)/\is'.length=is.length/\(∀q∈pts,is'.getD q 0=v)/\∀q,q∉pts->is'.getD q 0=is.getD q 0:=by
 have hz:=fy
 suffices hs:∃w c',d_da fu [wS is,w1,.int v] ce=some (.ok w c')/\∃is',w=wS is'/\c'=ce/\is'.length=is.length/\(∀q∈pts,is'.getD q 0=v)/\∀q,q∉pts->is'.getD q 0=is.getD q 0 by
  obtain⟨w,c',e,is',rfl,rfl,h⟩:=hs;exact⟨is',e,h⟩
 obtain⟨s,hs,hsi,_⟩:=hw.src;have hst:∀{c1:Ce} {l:List (Nat×C)},Own ce c1 l->s.Stays c1:=by
  intro c1 l h;obtain⟨t,rfl⟩:=h.cut;cases hw with
  | fr=>simp only[fM] at hs;cases hs;exact True.intro
  | cl g =>
   simp only[fM,g] at hs;cases hs;show(ce++t)[_]?=_;rw[getElem?_append_left (List.getElem?_eq_some_iff.mp g).1];exact g
 have hs':∀{c1:Ce} {l:List (Nat×C)},Own ce c1 l->fM c1 w1=some s:=by
  intro c1 l h;obtain⟨t,rfl⟩:=h.cut;cases hw with
  | fr=>exact hs
  | cl g =>
   simp only[fM,g] at hs ⊢;rw[getElem?_append_left (List.getElem?_eq_some_iff.mp g).1,g];exact hs
 unfold d_da;refine nr [some (wS is),some w1,some (.int v),none,none] rfl ?_;refine ba (w:=.cel ce.length) (ce':=ce++[.lst (is.map W.int)]) (cJ (aK (by trivial) aM) (by rw[pC (xs:=is.map W.int) rfl,kr (by rw[length_map];omega)])) ?_;refine aS ?_;have O0:=(Own.start ce).alloc (C.lst (is.map W.int));generalize hk:ce.length=k3 at O0 ⊢;generalize ce++[C.lst (is.map W.int)]=c0 at O0 ⊢;refine pE (xs:=pts) (en:=nW) (src:=s) (ce0:=c0) (lX (ax rfl) (hs' O0)) hsi
  (fun d sl c=>∃is' x4,sl=[some (wS is),some w1,some (.int v),some (.cel k3),x4]/\Own ce c [(k3,C.lst (is'.map W.int))]/\is'.length=is.length/\(∀q∈d,is'.getD q 0=v)/\∀q,q∉d->is'.getD q 0=is.getD q 0)
  ⟨is,_,rfl,O0,rfl,by simp,fun _ _=>rfl⟩ ?_ (fun sl c h=>by obtain⟨_,_,_,O,_⟩:=h;exact hst O) ?_
 ·rintro d u r sl c e hu ⟨is',x4,rfl,O,l',z1,z2⟩;refine⟨hst O,?_⟩;have hul:u<is'.length:=by rw[l'];exact hp u hu
  unfold yD;refine aS ?_;refine xO (w:=.int v) (k:=k3) (ij:=u) (j:=u) (by trivial) (by trivial) (by trivial) O.g0 (pq (by rw[length_map];exact hul)) ?_;refine⟨is'.set u v,_,rfl,by rw[map_set];exact O.set0 _,by rw[length_set];exact l',fun q hq=>?_,fun q hq=>?_⟩
  ·rw[ll];split
   ·rfl
   ·rename_i hn;rcases mem_append.mp hq with hq|hq
    ·exact z1 q hq
    ·rw[mem_singleton] at hq;exact absurd ⟨hq.symm,hul⟩ hn
  ·rw[ll,if_neg (fun x=>hq (by rw[<- x.1];simp))];exact z2 q fun x=>hq (mem_append_left _ x)
 ·rintro sl c ⟨is',x4,rfl,O,l',z1,z2⟩;refine bL (w:=wS is') (ce':=c) (cJ (aK (by trivial) aM) (qM O.g0 (by omega))) ?_;subst hk;exact⟨_,_,O.finC (by simp only[aV];exact bx _ _),is',rfl,rfl,l',z1,z2⟩
theorem yU(fu:Nat){v:Int}(hl:is.length<=36)(hp:∀q∈pts,q<is.length):∃is',d_da fu [wS is,wL pts,.int v] ce=some (.ok (wS is') ce)/\is'.length=is.length/\(∀q∈pts,is'.getD q 0=v)/\∀q,q∉pts->is'.getD q 0=is.getD q 0:=Hh fu (.fr _) hl hp
theorem BQ(hb:Bd b):(iB b vl).Nodup:=by unfold iB;refine List.Pairwise.map _ ?_ (List.Pairwise.and_mem.mp (List.Pairwise.filter _ nodup_range));rintro s t ⟨hs,ht,hne⟩ e;obtain⟨s1,s2⟩:=mem_filter.mp hs;obtain⟨t1,t2⟩:=mem_filter.mp ht;have a:=mP (vl:=vl) hb (mem_range.mp s1) s2;rw[e,mP hb (mem_range.mp t1) t2] at a;exact hne a.symm
theorem sC(hb:Bd b){c:List Nat}(h:c∈iB b vl):0<c.length/\c.length<=b.length/\∀p∈c,p<b.length:=by obtain⟨s,hs,_,rfl⟩:=(k6 hb).mp h;exact⟨length_pos_of_mem (jT hb hs),Ei,fun p hp=>bU hp⟩
theorem wA{c:List Nat}(h0:0<c.length)(h:∀p∈c,p<n):c.getD 0 0<n:=by rw[getD_eq_getElem?_getD,getElem?_eq_getElem h0];exact h _ (getElem_mem h0)
theorem vP{c:List Nat}(h0:0<c.length):aB ce (wL c) (.int 0)=some (nW (c.getD 0 0)):=v5 (p:=0) h0
def fW(b:List (List Nat))(is:List Int):List (List Nat):=(iB b (vS is)).filter fun c=>!decide (is.getD (c.getD 0 0) 0=0)
theorem wu(fu:Nat)(hfu:200<=fu)(B:jG b)(hl:is.length=b.length):d_ga fu [wB b,wS is] ce=some (.ok (.lst ((fW b is).map wL)) ce):=by
 have hz:=fy;have h36:=B.h36;have e1:=BU (ce:=ce) fu hfu (uU hl) B.bd B.sym h36;have hzl:(iB b (vS is)).length<=sizeLine:=by have:=w8 (b:=b) (vl:=vS is);omega
 unfold d_ga;refine dD [some (wB b),some (wS is)] rfl ?_;refine bL (qF (zs:=iB b (vS is)) (en:=wL) (t:=fun c=>!decide (is.getD (c.getD 0 0) 0=0)) (oX (dj (ws:=[wB b,wS is]) (by trivial) rfl e1) (.fr _)) hzl (fun c hc=>?_)) ?_
 ·obtain⟨p0,_,p2⟩:=sC B.bd hc;have hh:c.getD 0 0<is.length:=by rw[hl];exact wA p0 p2
  have i1:=vP (ce:=ce) p0;have i2:=ie (ce:=ce) hh;trivial
 ·exact dR (by simp only[aV];exact pv _ _)
theorem u_(fu:Nat)(B:jG b)(hl:is.length=b.length)(hr:∀p∈r,p<b.length):cY (d_ca fu) [wB b,wS is,wL r] ce=some (.ok (wL (bg b is r)) ce):=jv (yX fu B.bd B.h36 hl (.fr _) hr) (aF _ _)
theorem wt:fU ce (wL l)=some (!decide (l=[])):=by show some (!(l.map nW).isEmpty)=_;cases l<;>simp
theorem Im(fu:Nat)(hfu:200<=fu)(B:jG b)(hl:is.length=b.length){h:Int}(h0:h≠0):d_p fu [wB b,wS is,.int h] ce=some (.ok (.cel ce.length) (ce++[.lst (((List.range b.length).filter fun q=>(fW b is).any fun r=>decide (is.getD (r.getD 0 0) 0=h)&&(decide (bg b is r=[])&&decide (q∈r))).map nW)])):=by
 have hz:=fy;have h36:=B.h36;have e1:=wu (ce:=ce++[C.lst []]) fu hfu B hl;have rok:∀r∈fW b is,0<r.length/\r.length<=b.length/\∀p∈r,p<b.length:=fun r hr=>sC B.bd (mem_filter.mp hr).1;have rnd:(fW b is).Nodup:=List.Pairwise.filter _ (BQ B.bd);have rnd1:∀r∈fW b is,r.Nodup:=fun r hr=>by
  obtain⟨s,hs,_,rfl⟩:=(k6 B.bd).mp (mem_filter.mp hr).1;exact BM
 have rmeet:∀r∈fW b is,∀r'∈fW b is,∀q,q∈r->q∈r'->r=r':=fun r hr r' hr' q h1 h2=>by
  obtain⟨s,hs,_,rfl⟩:=(k6 B.bd).mp (mem_filter.mp hr).1;obtain⟨t,ht,_,rfl⟩:=(k6 B.bd).mp (mem_filter.mp hr').1;exact FX B.bd B.sym hs ht h1 h2
 unfold d_p;refine dD [some (wB b),some (wS is),some (.int h),none,none] rfl ?_;refine ba (iO aM (zero_le _)) ?_;refine aS ?_;have O0:=(Own.start ce).alloc (C.lst (([]:List Nat).map nW));refine(?_:Run _ _ (ce++[C.lst []]) _);generalize hk:ce.length=k3 at O0 ⊢;generalize hc0:ce++[C.lst []]=c0 at e1 ⊢;have O0:Own ce c0 [(k3,C.lst (([]:List Nat).map nW))]:=by rw[<- hc0];exact O0
 generalize fW b is=R at *;refine iN (zs:=R) (en:=wL) (c1:=c0) (kg (by trivial))
  (fun d sl c=>∃F x4,sl=[some (wB b),some (wS is),some (.int h),some (.cel k3),x4]/\Own ce c [(k3,C.lst (F.map nW))]/\F.Nodup/\(∀x∈F,x<b.length)/\∀x,x∈F↔∃r∈d,is.getD (r.getD 0 0) 0=h/\bg b is r=[]/\x∈r)
  ⟨[],_,rfl,O0,by simp,by simp,by simp⟩ ?_ ?_
 ·rintro d r rest sl c e hr ⟨F,x4,rfl,O,nd,lt,mem⟩;obtain⟨r0,r1,r2⟩:=rok r hr;have hh:r.getD 0 0<is.length:=by rw[hl];exact wA r0 r2
  have i1:=vP (ce:=c) r0;have i2:=ie (ce:=c) hh;have e2:=u_ (ce:=c) fu B hl r2;have t2:=wt (ce:=c) (l:=bg b is r);have hdr:∀r'∈d,r'≠r:=fun r' hr' e'=>by
   subst e';rw[<- e] at rnd;exact(nodup_append.mp rnd).2.2 r' hr' r' (by simp) rfl
  have hdR:∀r'∈d,r'∈R:=fun r' hr'=>by rw[<- e];exact mem_append_left _ hr'
  unfold zI;refine aS ?_;refine fS (p:=decide (is.getD (r.getD 0 0) 0=h)&&!(!decide (bg b is r=[]))) (ce':=c) (nY (by trivial) (fun _=>k_ (rN (dj (ws:=[wB b,wS is,wL r]) (by trivial) rfl e2) t2))) (fun q=>?_) (fun q=>?_)
  ·simp only[not_not,and_eq_true,decide_eq_true_eq] at q;have nd2:(F++r).Nodup:=by
    rw[nodup_append];refine⟨nd,?_,fun a ha b' hb' e'=>?_⟩
    ·exact rnd1 r hr
    ·subst e';obtain⟨r',hr',_,_,h3⟩:=(mem a).mp ha;exact hdr r' hr' (rmeet r' (hdR r' hr') r hr a h3 hb')
   have lt2:∀x∈F++r,x<b.length:=fun x hx=>by
    rcases mem_append.mp hx with hx|hx
    ·exact lt x hx
    ·exact r2 x hx
   have hl2:=eA nd2 lt2;rw[length_append] at hl2;refine mB (w:=.non) (ce':=c.set k3 (.lst (F.map nW++r.map nW))) (h_ (ws:=[wL r]) (by trivial) (fC O.g0) (by trivial) (Ej O.g0 (ys:=r.map nW) rfl (by rw[length_map,length_map];omega))) ?_;refine⟨F++r,_,rfl,by rw[map_append];exact O.set0 _,nd2,lt2,fun x=>?_⟩;rw[mem_append,mem];constructor
   ·rintro(⟨r',hr',h⟩|hx)
    ·exact⟨r',mem_append_left _ hr',h⟩
    ·exact⟨r,by simp,q.1,q.2,hx⟩
   ·rintro⟨r',hr',h⟩;rcases mem_append.mp hr' with hr'|hr'
    ·exact .inl ⟨r',hr',h⟩
    ·rw[mem_singleton] at hr';subst hr';exact .inr h.2.2
  ·refine iA ?_;refine⟨F,_,rfl,O,nd,lt,fun x=>?_⟩;rw[mem];constructor
   ·rintro⟨r',hr',h⟩;exact⟨r',mem_append_left _ hr',h⟩
   ·rintro⟨r',hr',h⟩;rcases mem_append.mp hr' with hr'|hr'
    ·exact⟨r',hr',h⟩
    ·rw[mem_singleton] at hr';subst hr';rw[decide_eq_true h.1,decide_eq_true h.2.1] at q;cases q
 ·rintro sl c ⟨F,x4,rfl,O,nd,lt,mem⟩;have hl':=eA nd lt;have es:b_ F=(List.range b.length).filter fun q=>R.any fun r=>decide (is.getD (r.getD 0 0) 0=h)&&(decide (bg b is r=[])&&decide (q∈r)):=by rw[nZ nd lt];apply filter_congr;intro x _;rw[Bool.eq_iff_iff,any_eq_true,decide_eq_true_eq,mem];simp only[and_eq_true,decide_eq_true_eq]
  rw[<- es];refine bL (cJ (aK (by trivial) aM) ((FV (mk:=eI) O.g0 (by omega)).trans (kr (by rw[length_map,mQ];omega)))) ?_;subst hk;exact(O.alloc _).finO (by simp only[eK];exact aF _ _)
end
variable {x4:Option W}
section
variable {is:List Int}
theorem EL(fu:Nat)(hfu:200<=fu)(B:jG b)(hl:is.length=b.length)(hp:p<b.length):cY (d_ea fu) [wB b,wS is,nW p] ce=some (.ok (wL (aH b (vS is) p)) ce):=by refine jv ?_ (aF _ _);have e1:=y8 (ce:=ce) fu hfu (uU hl) B.bd B.h36 hp;unfold d_ea;refine dD [some (wB b),some (wS is),some (nW p)] rfl ?_;refine bL (dj (ws:=[wB b,wS is,nW p]) (by trivial) rfl e1) ?_;exact((Own.start ce).alloc _).finO (by simp only[eK];exact aF _ _)
theorem cA.rows(A:cA b is o p):(r∈fW b (is.set p o)/\(is.set p o).getD (r.getD 0 0) 0=3-o)↔r∈jB b (ff (is.set p o) [3-o]):=by
 have hT:∀{s},s∈ff (is.set p o) [3-o]↔s<b.length/\(is.set p o).getD s 0=3-o:=fun {s}=>by rw[bK,A.l1]
 have hc:∀{s},s<b.length->(is.set p o).getD s 0=3-o->aH b (vT (ff (is.set p o) [3-o])) s=aH b (vS (is.set p o)) s:=fun {s} hs es=>by
  have:=sD (is:=is.set p o) A.bd A.l1 hs;rwa [es] at this
 unfold fW;rw[mem_filter,k6 A.bd];constructor
 ·rintro⟨⟨⟨s,hs,hm,rfl⟩,_⟩,q⟩;rw[mP A.bd hs hm] at q;have:=qW (T:=ff (is.set p o) [3-o]) A.bd A.sym (fun x hx=>(hT.mp hx).1) (hT.mpr ⟨hs,q⟩);rwa [hc hs q] at this
 ·intro h;obtain⟨s,hs,rfl⟩:=qV h;obtain⟨q1,q2⟩:=hT.mp hs;rw[hc q1 q2];obtain⟨m,h1,h2,h3⟩:=tH (vl:=vS (is.set p o)) A.bd A.sym q1;have hm:=bU h1;have em:(is.set p o).getD m 0=3-o:=(bT A.bd q1 h1).trans q2;rw[<- h3,mP A.bd hm h2,em];have h0:=A.H.h0;exact⟨⟨⟨m,hm,h2,rfl⟩,by simp[h0]⟩,rfl⟩
theorem cA.blist(A:cA b is o p):((List.range b.length).filter fun q=>(fW b (is.set p o)).any fun r=>decide ((is.set p o).getD (r.getD 0 0) 0=3-o)&&(decide (bg b (is.set p o) r=[])&&decide (q∈r)))=lT b is o p:=by
 unfold lT;apply filter_congr;intro q _;rw[Bool.eq_iff_iff,any_eq_true,any_eq_true];simp only[and_eq_true,decide_eq_true_eq];constructor
 ·rintro⟨r,h1,h2,h3,h4⟩;exact⟨r,mem_filter.mpr ⟨A.rows.mp ⟨h1,h2⟩,decide_eq_true h3⟩,h4⟩
 ·rintro⟨r,h1,h4⟩;obtain⟨h1,h3⟩:=mem_filter.mp h1;obtain⟨h1,h2⟩:=A.rows.mpr h1;exact⟨r,h1,h2,of_decide_eq_true h3,h4⟩
theorem u9(h:sl[i]?=some (some (nW p)))(hp:p<1000):[i].all (mV sl)=true:=by simp only[all_cons,all_nil,Bool.and_true,mV,h,nW];exact decide_eq_true (by simpa using hp)
theorem xE(fu:Nat)(hfu:200<=fu)(N:bZ b)(S:bD b is)(ho:o=1\/o=2)(hp:p<b.length)(p0:is.getD p 0=0)(h:Run (aq (bw (gD (jf (bA 3 (cY (d_ca fu)) (ah (aa 0) (ah (aa 6) (ah (bA 3 (cY (d_ea fu)) (ah (aa 0) (ah (aa 6) (ah (aa 3) ai)))) ai)))))) (gE "NoBreath" [3]) bH) (aY (eo (ah (aa 6) (ah (aa 5) ai)))))
   [some (wB b),some (wS is),some (.int o),some (nW p),some (wS (is.set p o)),some (wL (lT b is o p)),some (wS (lS b is o p))] ce Q) :
  Run (aq (bw (dB (aE (bo true) (aE aB (aa 1) (aa 3)) (dC (.int 0)))) (gE "NoLay" [3]) bH)
   (aq (aP 4 (bA 3 (d_da fu) (ah (aa 1) (ah (c6 (ah (aa 3) ai)) (ah (aa 2) ai)))))
   (aq (aP 5 (bA 3 (cY (d_p fu)) (ah (aa 0) (ah (aa 4) (ah (bA 1 (d_k fu) (ah (aa 2) ai)) ai)))))
   (aq (aP 6 (bA 3 (d_da fu) (ah (aa 4) (ah (aa 5) (ah (dC (.int 0)) ai)))))
   (aq (bw (gD (jf (bA 3 (cY (d_ca fu)) (ah (aa 0) (ah (aa 6) (ah (bA 3 (cY (d_ea fu)) (ah (aa 0) (ah (aa 6) (ah (aa 3) ai)))) ai)))))) (gE "NoBreath" [3]) bH)
   (aY (eo (ah (aa 6) (ah (aa 5) ai)))))))))
   [some (wB b),some (wS is),some (.int o),some (nW p),none,none,none] ce Q:=by
 have hz:=fy;have A:=S.ly N ho hp p0;have B:=N.B;have h36:=B.h36;have hl:=S.hl;have jp:=ie (ce:=ce) (is:=is) (p:=p) (by omega);refine bS (p:=!decide (is.getD p 0=0)) (ce':=ce) (by trivial) (fun q=>by rw[decide_eq_true p0] at q;cases q) (fun _=>?_);refine du ?_;obtain⟨is1,e1,l1,a1,b1⟩:=yU (ce:=ce) (is:=is) fu (pts:=[p]) (v:=o) (by omega) (fun q hq=>by rw[mem_singleton] at hq;subst hq;omega);have ei1:is1=is.set p o:=tf (by rw[l1,length_set]) fun q _=>by
  rw[A.s1]
  by_cases e:q=p
  ·rw[if_pos e,e];exact a1 p (by simp)
  ·rw[if_neg e];exact b1 q (by simpa using e)
 subst ei1;have z1:1<=sizeLine:=by decide
 refine ba (w:=wS (is.set p o)) (ce':=ce) (dj (ws:=[wS is,wL [p],.int o]) (aK (by trivial) (aK (e9 (ws:=[nW p]) (by trivial) z1) (by trivial))) rfl e1) ?_;refine aS ?_;have e2:=Im (ce:=ce) (is:=is.set p o) fu hfu B A.l1 (h:=3-o) A.H.h0;rw[A.blist] at e2;have e2f:=jv e2 (aF _ _);have e3:=s_ (ce:=ce) fu o;refine ba (w:=wL (lT b is o p)) (ce':=ce) (dj (ws:=[wB b,wS (is.set p o),.int (3-o)]) (by trivial) rfl e2f) ?_;refine aS ?_;obtain⟨is2,e4,l2,a2,b2⟩:=yU (ce:=ce) (is:=is.set p o) fu (pts:=lT b is o p) (v:=0) (by rw[A.l1];omega) (fun q hq=>by rw[A.l1];exact(A.tkh hq).1);have ei2:is2=lS b is o p:=tf (by rw[l2,length_set,kN]) fun q hq=>by
  rw[l2,A.l1] at hq;rw[A.get hq]
  by_cases e:q=p
  ·rw[if_pos e,b2 q (fun h=>(A.tkh h).2.2 e),A.s1,if_pos e]
  ·rw[if_neg e]
   by_cases ht:q∈lT b is o p
   ·rw[if_pos ht];exact a2 q ht
   ·rw[if_neg ht,b2 q ht,A.s1,if_neg e]
 subst ei2;refine ba (w:=wS (lS b is o p)) (ce':=ce) (dj (ws:=[wS (is.set p o),wL (lT b is o p),.int 0]) (by trivial) rfl e4) ?_;refine aS ?_;exact h
theorem wq(fu:Nat)(hfu:200<=fu)(N:bZ b)(S:bD b is)(hp:p<b.length){x1 x2:Option W} :
  gD (jf (bA 3 (cY (d_ca fu)) (ah (aa 0) (ah (aa 6) (ah (bA 3 (cY (d_ea fu)) (ah (aa 0) (ah (aa 6) (ah (aa 3) ai)))) ai))))) [some (wB b),x1,x2,some (nW p),x4,x5,some (wS (lS b is o p))] ce=some (.ok (!(!decide (bg b (lS b is o p) (aH b (vS (lS b is o p)) p)=[]))) ce):=by
 have hl:(lS b is o p).length=b.length:=by rw[kN];exact S.hl
 have e1:=EL (ce:=ce) fu hfu N.B hl hp;have e2:=u_ (ce:=ce) (is:=lS b is o p) fu N.B hl (r:=aH b (vS (lS b is o p)) p) (fun x hx=>bU hx);exact k_ (rN (dj (ws:=[wB b,wS (lS b is o p),wL (aH b (vS (lS b is o p)) p)]) (aK (by trivial) (aK (by trivial) (aK (dj (ws:=[wB b,wS (lS b is o p),nW p]) (by trivial) rfl e1) aM))) rfl e2) wt)
theorem wo(fu:Nat)(S:bD b is)(h36:b.length<=36)(hp:p<b.length)(p0:¬is.getD p 0=0):d_fa fu [wB b,wS is,.int o,nW p] ce=some (.ex ⟨"NoLay",none⟩ ce):=by have hl:=S.hl;have jp:=ie (ce:=ce) (is:=is) (p:=p) (by omega);unfold d_fa;refine oa [some (wB b),some (wS is),some (.int o),some (nW p),none,none,none] rfl ?_;refine bS (p:=!decide (is.getD p 0=0)) (ce':=ce) (by trivial) (fun _=>tD (u9 (p:=p) rfl (by omega)) ⟨rfl,[],by simp⟩) (fun q=>by rw[decide_eq_false p0] at q;cases q)
theorem wm(fu:Nat)(hfu:200<=fu)(N:bZ b)(S:bD b is)(ho:o=1\/o=2)(hp:p<b.length)(p0:is.getD p 0=0)(nf:¬fI b is o p):d_fa fu [wB b,wS is,.int o,nW p] ce=some (.ex ⟨"NoBreath",none⟩ ce):=by have h36:=N.B.h36;have nf':bg b (lS b is o p) (aH b (vS (lS b is o p)) p)=[]:=Classical.byContradiction nf;have eb:=wq (ce:=ce) (o:=o) fu hfu N S hp (x1:=some (wS is)) (x2:=some (.int o)) (x4:=some (wS (is.set p o))) (x5:=some (wL (lT b is o p)));rw[decide_eq_true nf'] at eb;unfold d_fa;refine oa [some (wB b),some (wS is),some (.int o),some (nW p),none,none,none] rfl ?_;refine xE fu hfu N S ho hp p0 ?_;exact bS (p:=!(!true)) (ce':=ce) eb (fun _=>tD (u9 (p:=p) rfl (by omega)) ⟨rfl,[],by simp⟩) (fun q=>by cases q)
end
section
variable {is:List Int}
theorem wk(fu:Nat)(hfu:200<=fu)(N:bZ b)(S:bD b is)(ho:o=1\/o=2)(hp:p<b.length)(p0:is.getD p 0=0)(fr:fI b is o p):d_fa fu [wB b,wS is,.int o,nW p] ce=some (.ok (.tup [wS (lS b is o p),wL (lT b is o p)]) ce):=by
 have z2:2<=sizeLine:=by decide
 have eb:=wq (ce:=ce) (o:=o) fu hfu N S hp (x1:=some (wS is)) (x2:=some (.int o)) (x4:=some (wS (is.set p o))) (x5:=some (wL (lT b is o p)));rw[decide_eq_false fr] at eb;unfold d_fa;refine dD [some (wB b),some (wS is),some (.int o),some (nW p),none,none,none] rfl ?_;refine xE fu hfu N S ho hp p0 ?_;refine bS (p:=!(!false)) (ce':=ce) eb (fun q=>by cases q) (fun _=>?_);refine du ?_;refine bL (jm (ws:=[wS (lS b is o p),wL (lT b is o p)]) (by trivial) z2) ?_;exact dR (by simp only[aV,cI];exact⟨bx _ _,aF _ _,trivial⟩)
end
theorem C8(L:LsOk n ls)(i:Nat):i∉(fV n ls).getD i []:=by
 rw[pQ];split
 ·intro h;rcases(pH L).mp ((pU _ _).mp h) with h|h<;>(have:=(L.lt _ h).1;simp only at this;omega)
 ·simp
inductive Pl:W->Prop
 | non:Pl .non
 | bl (b:Bool):Pl (.bl b)
 | int (i:Int):Pl (.int i)
 | str (x:PySem.Str):Pl (.str x)
 | lst (xs:List W):Pl (.lst xs)
 | tup (xs:List W):Pl (.tup xs)
def lx:W->Bool
 | .int i=>decide (0<=i)&&decide (i<=2)
 | _=>false
def qf:W->Bool
 | .int _=>true
 | _=>false
section
variable {a b c:Sl->M W}
theorem EK{i j k:Int}(ha:a sl ce=some (.ok (.int i) ce))(hb:b sl ce=some (.ok (.int j) ce))(hc:c sl ce=some (.ok (.int k) ce)):nO (fun _=>j6) (fun _=>j6) a b c sl ce=some (.ok (.bl (decide (i<=j)&&decide (j<=k))) ce):=by
 have h1:j6 (.int i) (.int j)=some (.bl (decide (i<=j))):=rfl;have h2:j6 (.int j) (.int k)=some (.bl (decide (j<=k))):=rfl;simp only[nO,au,ha,hb,look,h1,map_some];cases decide (i<=j) with
 | true=>simp only[au,look,hc,h2,map_some,Bool.true_and]
 | false=>simp only[VS.ret,Bool.false_and]
theorem EJ(fu:Nat){w:W}(h:Pl w):d_x fu [w] ce=some (.ok (.bl (qf w)) ce):=by
 unfold d_x;refine dD [some w] rfl ?_;refine bL (w:=.bl (qf w)) (ce':=ce) ?_ (dR (by simp only[aV]));cases h<;>first|rfl|(rename_i b;cases b<;>rfl)
theorem wj:bQ [.tup xs] ce=some (.ok (nW xs.length) ce):=by simp[bQ];rfl
theorem EI(fu:Nat){bs:List W}(hx:∀w∈xs,Pl w)(hl:xs.length<=100):d_v fu [.tup bs,.tup xs] ce=some (.ok (.bl (decide (xs.length=bs.length)&&xs.all lx)) ce):=by
 have z:(100:Nat)<sizeLine:=by decide
 have i0:i_ [.tup xs,.ty "tuple"] ce=some (.ok (.bl true) ce):=rfl;have l1:=wj (ce:=ce) (xs:=xs);have l2:=wj (ce:=ce) (xs:=bs);have en:bo true ce (nW xs.length) (nW bs.length)=some (.bl (!decide (xs.length=bs.length))):=by have:=uN (ce:=ce) (i:=(xs.length:Int)) (j:=(bs.length:Int));rw[show decide ((xs.length:Int)=(bs.length:Int))=decide (xs.length=bs.length) by rw[Bool.eq_iff_iff,decide_eq_true_eq,decide_eq_true_eq];omega] at this;exact this
 unfold d_v;refine dD [some (.tup bs),some (.tup xs)] rfl ?_;refine bS (p:=!true||!decide (xs.length=bs.length)) (ce':=ce) (by trivial) (fun q=>?_) (fun q=>?_)
 ·have q':¬xs.length=bs.length:=by simpa using q
  refine iu ?_;trivial;rw[decide_eq_false q'];exact iq (dR (by simp only[aV]))
 ·have q':xs.length=bs.length:=by simpa using q
  refine du ?_;refine bL (cJ (aK (u3 (zs:=xs) (en:=id) (f:=lx) (by rw[map_id];exact(nA (by trivial)).is) (by omega) (fun w hw=>?_)) aM) rH) ?_
  ·have ew:=EJ (ce:=ce) fu (hx w hw);have hc:bA 1 (d_x fu) (ah (aa 0) ai) (some (id w)::c5 [] [some (.tup bs),some (.tup xs)]) ce=some (.ok (.bl (qf w)) ce):=dj (ws:=[w]) (by trivial) rfl ew;cases hx w hw with
   | int i =>
    exact mw (vY hc (EK aU (ax rfl) aU))
   | _=>simp only[gy,noX,kI,au,hc,qf,VS.ret,lx]
  ·rw[decide_eq_true q',Bool.true_and];refine iq ?_;have e:(xs.map lx).all id=xs.all lx:=by rw[all_map];rfl
   rw[e];exact dR (by simp only[aV])
end
def u7(b:List (List Nat))(is:List Int):Prop:=∀p,p<b.length->is.getD p 0≠0->∃q∈aH b (vS is) p,∃y∈b.getD q [],is.getD y 0=0
section
variable {is:List Int}
open Classical in
theorem H_(fu:Nat)(hfu:200<=fu)(B:jG b)(hl:is.length=b.length):d_w fu [wB b,wS is] ce=some (.ok (.bl (decide (u7 b is))) ce):=by
 have hz:=fy;have hb:=B.bd;have sym:=B.sym;have h36:=B.h36;have e1:=wu (ce:=ce) fu hfu B hl;have hrl:(fW b is).length<=b.length:=le_trans (length_filter_le _ _) w8;unfold d_w;refine dD [some (wB b),some (wS is)] rfl ?_;refine bL (cJ (aK (u3 (zs:=fW b is) (en:=wL) (f:=fun c=>decide ((0:Int)<((bg b is c).length:Int))) (by trivial) (by omega) (fun c hc=>?_)) aM) rH) ?_
 ·have hc':=(mem_filter.mp hc).1;obtain⟨h0,_,h2⟩:=sC hb hc';have e2:=jv (yX (ce:=ce) fu hb h36 hl (a_.fr _) h2) (aF _ _);trivial
 ·refine(?_:finC ce ce (W.bl _)=_);rw[dR (by simp only[aV])];have:((fW b is).map fun c=>decide ((0:Int)<((bg b is c).length:Int))).all id=decide (u7 b is):=by
   rw[Bool.eq_iff_iff,decide_eq_true_eq,all_eq_true];simp only[mem_map,forall_exists_index,and_imp,forall_apply_eq_imp_iff₂,id,decide_eq_true_eq];have br:∀c:List Nat,(0:Int)<((bg b is c).length:Int)↔∃q∈c,∃y∈b.getD q [],is.getD y 0=0:=by
    intro c;have:(0:Int)<((bg b is c).length:Int)↔0<(bg b is c).length:=by omega
    rw[this,length_pos_iff_exists_mem];unfold bg gY;simp only[mem_filter,mem_range,any_eq_true,decide_eq_true_eq];constructor
    ·rintro⟨y,⟨_,q,hq,hy⟩,h⟩;exact⟨q,hq,y,hy,h⟩
    ·rintro⟨q,hq,y,hy,h⟩;exact⟨y,⟨hb.get hy,q,hq,hy⟩,h⟩
   simp only[br];constructor
   ·intro h p hp hv;obtain⟨m,h1,h2,h3⟩:=tH (vl:=vS is) hb sym hp;have hm:=bU h1;have hmem:aH b (vS is) m∈fW b is:=by refine mem_filter.mpr ⟨(k6 hb).mpr ⟨m,hm,h2,rfl⟩,?_⟩;rw[mP hb hm h2];have:=bT hb hp h1;simp only[vS] at this;simp[-getD_eq_getElem?_getD,this,hv]
    have:=h _ hmem;rwa [h3] at this
   ·intro h c hc;obtain⟨hc1,hc2⟩:=mem_filter.mp hc;obtain⟨m,hm,h2,rfl⟩:=(k6 hb).mp hc1;rw[mP hb hm h2] at hc2;exact h m hm (by simpa[-getD_eq_getElem?_getD] using hc2)
  rw[this]
end
theorem C7(l:List Int):∀x∈l.map W.int,Pl x:=fun x hx=>by
 obtain⟨i,_,rfl⟩:=mem_map.mp hx;exact .int i
section
variable {is:List Int}
theorem BP(fu:Nat){is:List Int}(hl:is.length=b.length)(h36:b.length<=36)(v:∀q,q<b.length->0<=is.getD q 0/\is.getD q 0<=2)(c:Ce):d_v fu [wB b,wS is] c=some (.ok (.bl true) c):=by
 have e:=EI (ce:=c) fu (bs:=b.map wT) (xs:=is.map W.int) (C7 is) (by rw[length_map];omega);have ha:(is.map W.int).all lx=true:=by rw[all_eq_true];intro w hw;obtain⟨i,hi,rfl⟩:=mem_map.mp hw;obtain⟨j,hj,e⟩:=getElem_of_mem hi;have:=v j (by omega);rw[getD_eq_getElem?_getD,getElem?_eq_getElem hj,e] at this;simp only[getD_some] at this;simp[lx,this]
 rw[length_map,length_map,ha,decide_eq_true hl] at e;exact e
open Classical in
theorem C6(fu:Nat)(hfu:200<=fu)(N:bZ b)(S:bD b is)(c:Ce):d_w fu [wB b,wS is] c=some (.ok (.bl true) c):=by
 rw[H_ fu hfu N.B S.hl,decide_eq_true];intro p hp hv;have v:=S.v p hp;have k:∀h:Int,i6 b is h->is.getD p 0=h->∃q∈aH b (vS is) p,∃y∈b.getD q [],is.getD y 0=0:=fun h H e=>by
  obtain⟨x,y,r,hy,e0⟩:=H p hp e;exact⟨x,(gZ N.B.bd hp).mpr r,y,hy,e0⟩
 have:is.getD p 0=1\/is.getD p 0=2:=by omega
 rcases this with h|h
 ·exact k 1 S.s1 h
 ·exact k 2 S.s2 h
end
structure Gm where
 past:List (List Int)
 done:List (Option Nat)
 tk:List Nat
def oW:Option Nat->W
 | none=>.non
 | some p=>nW p
def rl(s:Bool):PySem.Str:=if s then "stones" else "turns"
def ou(b:List (List Nat))(s:Bool)(h:Int)(k:Nat):List (PySem.Str×W):=[("joined",wB b),("barring",.str (rl s)),("first",.int h),("past",.cel (k+1)),("done",.cel (k+2)),("takings",.cel (k+3))]
structure GC (c:Ce) (k:Nat) (b:List (List Nat)) (s:Bool) (h:Int) (g:Gm):Prop where
 i:c[k]?=some (.ins "Game" (ou b s h k))
 p:c[k+1]?=some (.lst (g.past.map wS))
 d:c[k+2]?=some (.lst (g.done.map oW))
 t:c[k+3]?=some (.lst (g.tk.map nW))
def cD(c:Ce)(k:Nat)(g:Gm):Ce:=((c.set (k+1) (.lst (g.past.map wS))).set (k+2) (.lst (g.done.map oW))).set (k+3) (.lst (g.tk.map nW))
theorem ib{o:C}(h:c[k]?=some o):k<c.length:=(List.getElem?_eq_some_iff.mp h).1
variable {g':Gm}
section
variable {l:Ce} {s:Bool} {h:Int} {g:Gm}
theorem sJ:(cD c k g).length=c.length:=by simp[cD]
theorem sA(h1:j≠k+1)(h2:j≠k+2)(h3:j≠k+3):(cD c k g)[j]?=c[j]?:=by unfold cD;rw[getElem?_set_ne (Ne.symm h3),getElem?_set_ne (Ne.symm h2),getElem?_set_ne (Ne.symm h1)]
theorem GC.put(G:GC c k b s h g)(g':Gm):GC (cD c k g') k b s h g':=by
 have l1:=ib G.p;have l2:=ib G.d;have l3:=ib G.t;refine⟨(sA (by omega) (by omega) (by omega)).trans G.i,?_,?_,?_⟩
 ·unfold cD;rw[getElem?_set_ne (by omega),getElem?_set_ne (by omega),getElem?_set_self l1]
 ·unfold cD;rw[getElem?_set_ne (by omega),getElem?_set_self (by simp;exact l2)]
 ·unfold cD;rw[getElem?_set_self (by simp;exact l3)]
theorem GC.app(G:GC c k b s h g)(l:Ce):GC (c++l) k b s h g :=
 ⟨by rw[getElem?_append_left (ib G.i)];exact G.i,by rw[getElem?_append_left (ib G.p)];exact G.p,by rw[getElem?_append_left (ib G.d)];exact G.d,by rw[getElem?_append_left (ib G.t)];exact G.t⟩
theorem sI(n:Nat):∀l:List (List Int),cI n (l.map wS)
 | []=>by simp only[map_nil,cI]
 | a::r=>by simp only[map_cons,cI,aV];exact⟨bx _ _,sI n r⟩
theorem mO(n:Nat):∀l:List (Option Nat),cI n (l.map oW)
 | []=>by simp only[map_nil,cI]
 | none::r=>by simp only[map_cons,cI,oW,aV];exact⟨trivial,mO n r⟩
 | some a::r=>by simp only[map_cons,cI,oW,nW,aV];exact⟨trivial,mO n r⟩
theorem sy{x:C}(h:gC c c')(hx:eK c.length x):gC c (c'.set k x):=by
 refine⟨by rw[length_set];exact h.1,fun j y hj e=>?_⟩
 by_cases hk:k=j
 ·subst hk;have hl:k<c'.length:=by have:=h.1;omega
  rw[getElem?_set_self hl] at e;cases e;exact .inr hx
 ·rw[getElem?_set_ne hk] at e;exact h.2 j y hj e
theorem EH(c:Ce)(k:Nat)(g:Gm):gC c (cD c k g) :=
 sy (sy (sy (by have:=cH c [];rwa [append_nil] at this) (by simp only[eK];exact sI _ _)) (by simp only[eK];exact mO _ _)) (by simp only[eK];exact aF _ _)
theorem j8(h:gC c c')(l:Ce):gC c (c'++l):=by refine⟨by rw[length_append];have:=h.1;omega,fun j y hj e=>h.2 j y hj ?_⟩;rwa [getElem?_append_left (by have:=h.1;omega)] at e
theorem xD{w:W}(l:Ce)(hb:aV c.length w):finC c (cD c k g++l) w=some (.ok w (cD c k g)):=by unfold finC;rw[if_pos ⟨j8 (EH c k g) l,hb⟩,take_append_of_le_length (by rw[sJ];exact le_refl _),take_of_length_le (by rw[sJ];exact le_refl _)]
def cur(g:Gm):List Int:=g.past.getD (g.past.length-1) []
def hnd(h:Int)(m:Nat):Int:=if m % 2=0 then h else 3-h
def passed(g:Gm):Bool:=decide (g.done.drop (g.done.length-2)=[none,none])
def ended(g:Gm):Bool:=passed g||decide (300<=g.done.length)
def hU(g:Gm):W:=if passed g=true then .str "passed" else if 300<=g.done.length then .str "long" else .non
def bar(s:Bool)(h:Int)(n m:Nat):Bool:=s||decide (hnd h m=3-hnd h n)
def dW(s:Bool)(h:Int)(g:Gm)(is:List Int):Option Nat:=(List.range g.past.length).find? fun m=>decide (g.past.getD m []=is)&&bar s h g.done.length m
def push(g:Gm)(is:List Int)(w:Option Nat)(n:Nat):Gm:=⟨g.past++[is],g.done++[w],g.tk++[n]⟩
structure dO (b:List (List Nat)) (g:Gm):Prop where
 n1:g.past.length=g.done.length+1
 nt:g.tk.length=g.done.length
 st:∀i,i<g.past.length->bD b (g.past.getD i [])
 lim:g.done.length<=300
theorem jL{h:Int}(h12:h=1\/h=2)(m:Nat):hnd h m=1\/hnd h m=2:=by unfold hnd;split<;>omega
theorem Ax{h:Int}(m:Nat):hnd h (m+1)=3-hnd h m:=by
 unfold hnd
 by_cases q:m % 2=0
 ·rw[if_pos q,if_neg (by omega)]
 ·rw[if_neg q,if_pos (by omega)];omega
theorem sx{x:W}(hs:dg ce x=some xs)(h0:0<xs.length):aB ce x (.int (-1))=xs[xs.length-1]?:=by
 simp only[aB,hs,L2.atI];have:gq xs.length (-1)=some (xs.length-1):=by
  unfold gq;simp only[show ¬(0:Int)<=-1 by omega,if_false];split
  ·congr 1;omega
  ·omega
 rw[this];rfl
theorem EG(G:GC c k b s h g){m:Nat}(hm:m<g.past.length):aB c (.cel (k+1)) (nW m)=some (wS (g.past.getD m [])):=by rw[ji (gf G.p),getElem?_map,getD_eq_getElem?_getD,getElem?_eq_getElem hm];rfl
theorem Gh(G:GC c k b s h g):bQ [.cel (k+1)] c=some (.ok (nW g.past.length) c):=by simp only[bQ,gf G.p,length_map];rfl
theorem yT(G:GC c k b s h g):bQ [.cel (k+2)] c=some (.ok (nW g.done.length) c):=by simp only[bQ,gf G.d,length_map];rfl
theorem pX(fu:Nat)(G:GC c k b s h g)(O:dO b g):d_m fu [.cel k] c=some (.ok (wS (cur g)) c):=by
 have hn:=O.n1;have e:aB c (.cel (k+1)) (.int (-1))=some (wS (cur g)):=by rw[sx (gf G.p) (by rw[length_map];omega),length_map,getElem?_map,cur,getD_eq_getElem?_getD,getElem?_eq_getElem (by omega)];rfl
 unfold d_m;refine dD [some (.cel k)] rfl ?_;exact bL (w:=wS (cur g)) (ce':=c) (bG (fR (ax rfl) G.i rfl) (dY aU rfl) e) (dR (by simp only[aV];exact bx _ _))
theorem Aw{l:List (Option Nat)}(hl:l.length<=2):bo false c (.lst (l.map oW)) (.lst [.non,.non])=some (.bl (decide (l=[none,none]))):=by
 match l,hl with
 | [],_=>rfl
 | [none],_=>rfl
 | [some x],_=>rfl
 | [none,none],_=>rfl
 | [none,some y],_=>rfl
 | [some x,none],_=>rfl
 | [some x,some y],_=>rfl
theorem pV(fu:Nat)(G:GC c k b s h g)(O:dO b g):d_q fu [.cel k] c=some (.ok (hU g) c):=by
 have hz:(1000:Nat)<sizeLine:=by decide
 have lim:=O.lim;have s1:eV aQ (dA "Game" "done" (aa 0)) (dP (dM iE (dC (.int 2)))) ft [some (.cel k)] c=some (.ok (.lst ((g.done.drop (g.done.length-2)).map oW)) c):=by
  have:=pG (sl:=[some (.cel k)]) (ce:=c) (a:=dA "Game" "done" (aa 0)) (x:=.cel (k+2)) (xs:=g.done.map oW) (dl:=dP (dM iE (dC (.int 2)))) (lo:=some (-2)) (dh:=ft) (hi:=none) (fR (ax rfl) G.i rfl) (k7 (dY aU rfl)) rfl (by simp only[bP,G.d]) (by rw[length_map];omega);rw[this];have e:HT.sIx (g.done.map oW).length 0 (some (-2))=g.done.length-2:=by simp only[HT.sIx,length_map];rw[if_pos (by omega)];omega
  unfold jc;rw[e,show HT.sIx (g.done.map oW).length (g.done.map oW).length none=g.done.length from by simp[HT.sIx],take_of_length_le (by simp),map_drop]
 have e1:=Aw (c:=c) (l:=g.done.drop (g.done.length-2)) (by rw[length_drop];omega);unfold d_q;refine dD [some (.cel k)] rfl ?_;refine bS (p:=passed g) (ce':=c) (bN (bG s1 (e9 (ws:=[.non,.non]) (by trivial) (by decide)) e1)) (fun q=>?_) (fun q=>du ?_)
 ·refine iu (bL (w:=.str "passed") (ce':=c) aU ?_);rw[show hU g=.str "passed" from if_pos q];exact dR (by simp only[aV])
 refine bS (p:=decide ((g.done.length:Int)≥300)) (ce':=c) (bN (fP (x:=nW g.done.length) (cJ (ws:=[.cel (k+2)]) (aK (fR (ax rfl) G.i rfl) aM) (yT G)) aU rfl)) (fun q2=>?_) (fun q2=>du ?_)
 ·refine iu (bL (w:=.str "long") (ce':=c) aU ?_);have:300<=g.done.length:=by have:=of_decide_eq_true q2;omega
  rw[show hU g=.str "long" by unfold hU;rw[if_neg (by rw[q];simp),if_pos this]];exact dR (by simp only[aV])
 ·refine bL (w:=.non) (ce':=c) aU ?_;have:¬300<=g.done.length:=by have:=of_decide_eq_false q2;omega
  rw[show hU g=.non by unfold hU;rw[if_neg (by rw[q];simp),if_neg this]];exact dR (by simp only[aV])
theorem pP(g:Gm):fH (hU g)=!ended g:=by
 unfold hU ended;cases passed g with
 | true=>rfl
 | false =>
  by_cases q:300<=g.done.length
  ·rw[if_neg (by simp),if_pos q,decide_eq_true q];rfl
  ·rw[if_neg (by simp),if_neg q,decide_eq_false q];rfl
theorem y7(fu:Nat)(G:GC c k b s h g)(m:Nat):d_e fu [.cel k,nW m] c=some (.ok (.int (hnd h m)) c):=by
 have e1:bV (nW m) (.int 2)=some (nW (m % 2)):=rP (k:=(m:Int)) (n:=2) (by omega) (by omega);have e2:=pB c (((m % 2:Nat)):Int) 0 false;have e3:=s_ (ce:=c) fu h;unfold d_e;refine dD [some (.cel k),some (nW m)] rfl ?_;refine bL (v7 (p:=decide ((((m % 2:Nat)):Int)=0)) (c1:=c) (x:=.int h) (y:=.int (3-h)) (bN (bG (fP (ax rfl) aU e1) aU e2)) (fun _=>fR (ax rfl) G.i rfl) (fun _=>dj (ws:=[.int h]) (aK (fR (ax rfl) G.i rfl) aM) rfl e3)) ?_;have:(if decide ((((m % 2:Nat)):Int)=0)=true then W.int h else .int (3-h))=.int (hnd h m):=by
  unfold hnd
  by_cases q:m % 2=0
  ·rw[if_pos q,if_pos (decide_eq_true (by omega))]
  ·rw[if_neg q,if_neg (by rw[decide_eq_false (by omega)];simp)]
 rw[this];exact dR (by simp only[aV])
theorem sH(fu:Nat)(G:GC c k b s h g):d_s fu [.cel k] c=some (.ok (.int (hnd h g.done.length)) c):=by have e:=y7 fu G g.done.length;unfold d_s;refine dD [some (.cel k)] rfl ?_;exact bL (eR (ws:=[nW g.done.length]) (ax rfl) G.i rfl (aK (cJ (ws:=[.cel (k+2)]) (aK (fR (ax rfl) G.i rfl) aM) (yT G)) aM) rfl e) (dR (by simp only[aV]))
theorem Av{a:Sl->M W}{p q:Bool}(ha:a sl ce=some (.ok (.bl p) c1))(hb:p=false->d sl c1=some (.ok (.bl q) c1)):oA a d sl ce=some (.ok (.bl (p||q)) c1):=by
 cases p with
 | true=>simp only[oA,au,ha,VS.ret,Bool.true_or]
 | false=>simp only[oA,au,ha,hb rfl,Bool.false_or]
theorem C5(fu:Nat)(G:GC c k b s h g)(m:Nat):d_a fu [.cel k,nW m] c=some (.ok (.bl (bar s h g.done.length m)) c):=by
 have e1:=y7 fu G m;have e2:=sH fu G;have e3:=s_ (ce:=c) fu (hnd h g.done.length);have e4:=pB c (hnd h m) (3-hnd h g.done.length) false;have e5:bo false c (.str (rl s)) (.str "stones")=some (.bl s):=by cases s<;>rfl
 unfold d_a;refine dD [some (.cel k),some (nW m)] rfl ?_;exact bL (w:=.bl (bar s h g.done.length m)) (Av (bG (fR (ax rfl) G.i rfl) aU e5) (fun _=>bG (eR (ws:=[nW m]) (ax rfl) G.i rfl (aK (ax rfl) aM) rfl e1) (dj (ws:=[.int (hnd h g.done.length)]) (aK (eR (ws:=[]) (ax rfl) G.i rfl aM rfl e2) aM) rfl e3) e4)) (dR (by simp only[aV]))
theorem C4(fu:Nat)(G:GC c k b s h g)(O:dO b g)(is:List Int):d_f fu [.cel k,wS is] c=some (.ok (oW (dW s h g is)) c):=by
 have hz:(1000:Nat)<sizeLine:=by decide
 have lim:=O.lim;have n1:=O.n1;unfold d_f;refine dD [some (.cel k),some (wS is),none] rfl ?_;refine yH (zs:=List.range g.past.length) (en:=nW) (c1:=c) (iL (n:=g.past.length) (aK (cJ (ws:=[.cel (k+1)]) (aK (fR (ax rfl) G.i rfl) aM) (Gh G)) aM) (by omega))
  (fun d sl c'=>∃x2,sl=[some (.cel k),some (wS is),x2]/\c'=c/\∀m∈d,(decide (g.past.getD m []=is)&&bar s h g.done.length m)=false) (fun w c'=>c'=c/\w=oW (dW s h g is)) ⟨_,rfl,rfl,by simp⟩ ?_ ?_ ?_
 ·rintro d m r sl c' e hm ⟨x2,rfl,rfl,hd⟩;have hm':=mem_range.mp hm;have i1:=EG G hm';have q1:=uL (ce:=c') false (g.past.getD m []) is;have q2:=C5 fu G m;unfold zJ;refine aS ?_;refine fS (p:=decide (g.past.getD m []=is)&&bar s h g.done.length m) (ce':=c') (nY (bN (bG (bG (fR (ax rfl) G.i rfl) (ax rfl) i1) (ax rfl) q1)) (fun _=>bN (eR (ws:=[nW m]) (ax rfl) G.i rfl (aK (ax rfl) aM) rfl q2))) (fun q=>?_) (fun q=>?_)
  ·refine bL (w:=nW m) (ce':=c') (ax rfl) ⟨rfl,?_⟩;have:dW s h g is=some m:=by unfold dW;rw[find?_eq_some_iff_append];exact⟨q,d,r,e.symm,fun a ha=>by rw[hd a ha];rfl⟩
   rw[this];rfl
  ·refine iA ⟨_,rfl,rfl,fun x hx=>?_⟩;rcases mem_append.mp hx with hx|hx
   ·exact hd x hx
   ·rw[mem_singleton.mp hx];exact q
 ·rintro w sl c' ⟨rfl,rfl⟩;refine iq (dR ?_);cases dW s h g is<;>simp only[oW,nW,aV]
 ·rintro sl c' ⟨x2,rfl,rfl,hd⟩;refine bL (w:=.non) (ce':=c') aU ?_;have:dW s h g is=none:=by
   unfold dW;rw[find?_eq_none];exact fun m hm=>by rw[hd m hm];simp
  rw[this];exact dR (by simp only[aV])
end
section
variable {l:Ce} {s:Bool} {h:Int} {g:Gm}
def bF(b:List (List Nat))(s:Bool)(h:Int)(g:Gm)(w:Option Nat)(g':Gm):Prop:=ended g=false/\match w with
 | none=>g'=push g (cur g) none 0
 | some p=>p<b.length/\(cur g).getD p 0=0/\fI b (cur g) (hnd h g.done.length) p/\dW s h g (lS b (cur g) (hnd h g.done.length) p)=none/\g'=push g (lS b (cur g) (hnd h g.done.length) p) (some p) (lT b (cur g) (hnd h g.done.length) p).length
theorem dO.cur(O:dO b g):bD b (cur g):=O.st _ (by have:=O.n1;omega)
theorem xC(O:dO b g)(he:ended g=false){is:List Int}(S:bD b is)(w:Option Nat)(n:Nat):dO b (push g is w n):=by
 have n1:=O.n1;have nt:=O.nt;have:¬300<=g.done.length:=by unfold ended at he;rw[or_eq_false_iff] at he;exact of_decide_eq_false he.2
 refine⟨by simp[push,n1],by simp[push,nt],fun i hi=>?_,by simp[push];omega⟩;simp only[push,length_append,length_cons,length_nil] at hi
 by_cases q:i<g.past.length
 ·have:=O.st i q;simp only[push,getD_eq_getElem?_getD,getElem?_append_left q] at this ⊢;exact this
 ·have:i=g.past.length:=by omega
  subst this;simp only[push,getD_eq_getElem?_getD,getElem?_append_right (le_refl _),sub_self,getElem?_cons_zero,getD_some];exact S
theorem bF.ok{w}(D:bF b s h g w g')(O:dO b g)(N:bZ b)(h12:h=1\/h=2):dO b g':=by
 obtain⟨he,D⟩:=D;cases w with
 | none=>subst D;exact xC O he O.cur _ _
 | some p =>
  obtain⟨hp,p0,fr,_,rfl⟩:=D;exact xC O he ((O.cur.ly N (jL h12 _) hp p0).std (jL h12 _) fr) _ _
theorem yS(fu:Nat)(G:GC c k b s h g)(O:dO b g)(w:W)(he:ended g=true):d_t fu [.cel k,w] c=some (.ex ⟨"Over",none⟩ c):=by
 have e1:=pV fu G O;have hn:fQ (hU g)=some (.bl true):=by simp only[fQ,pP,he];rfl
 unfold d_t;refine oa [some (.cel k),some w,none,none,none,none] rfl ?_;exact bS (p:=true) (ce':=c) (bN (dY (eR (ws:=[]) (ax rfl) G.i rfl aM rfl e1) hn)) (fun _=>tD rfl ⟨rfl,[],by simp⟩) (fun q=>by cases q)
theorem yd(G:GC c k b s h g)(O:dO b g){is:List Int}{w:Option Nat}{Q:VS.O->Prop}(q:Q (.go .nx [some (.cel k),some (oW w),some (wS is),some (nW n),x4,x5] (cD c k (push g is w n)))) :
  Run (aq (cG (cO cM (dA "Game" "past" (aa 0)) (ah (aa 2) ai))) (aq (cG (cO cM (dA "Game" "done" (aa 0)) (ah (aa 1) ai))) (cG (cO cM (dA "Game" "takings" (aa 0)) (ah (aa 3) ai)))))
   [some (.cel k),some (oW w),some (wS is),some (nW n),x4,x5] c Q:=by
 have hz:(1000:Nat)<sizeLine:=by decide
 have lim:=O.lim;have n1:=O.n1;have nt:=O.nt;have l1:=ib G.p;have l2:=ib G.d;have l3:=ib G.t;have a1:=ki (y:=wS is) G.p (by rw[length_map];omega);have G1i:(c.set (k+1) (.lst (g.past.map wS++[wS is])))[k]?=some (.ins "Game" (ou b s h k)):=by rw[getElem?_set_ne (by omega)];exact G.i
 have G1d:(c.set (k+1) (.lst (g.past.map wS++[wS is])))[k+2]?=some (.lst (g.done.map oW)):=by rw[getElem?_set_ne (by omega)];exact G.d
 have a2:=ki (y:=oW w) G1d (by rw[length_map];omega);have G2i:((c.set (k+1) (.lst (g.past.map wS++[wS is]))).set (k+2) (.lst (g.done.map oW++[oW w])))[k]?=some (.ins "Game" (ou b s h k)):=by rw[getElem?_set_ne (by omega)];exact G1i
 have G2t:((c.set (k+1) (.lst (g.past.map wS++[wS is]))).set (k+2) (.lst (g.done.map oW++[oW w])))[k+3]?=some (.lst (g.tk.map nW)):=by rw[getElem?_set_ne (by omega),getElem?_set_ne (by omega)];exact G.t
 have a3:=ki (y:=nW n) G2t (by rw[length_map];omega);refine kj (h_ (ws:=[wS is]) (fR (ax rfl) G.i rfl) (by simp only[bP,G.p];rfl) (aK (ax rfl) aM) a1) ?_;refine kj (h_ (ws:=[oW w]) (fR (ax rfl) G1i rfl) (by simp only[bP,G1d];rfl) (aK (ax rfl) aM) a2) ?_;refine mB (h_ (ws:=[nW n]) (fR (ax rfl) G2i rfl) (by simp only[bP,G2t];rfl) (aK (ax rfl) aM) a3) ?_;have:cD c k (push g is w n)=((c.set (k+1) (.lst (g.past.map wS++[wS is]))).set (k+2) (.lst (g.done.map oW++[oW w]))).set (k+3) (.lst (g.tk.map nW++[nW n])):=by simp only[cD,push,map_append,map_cons,map_nil]
 rw[<- this];exact q
theorem yc{is:List Int}{w:Option Nat}:∃sl' c',VS.O.go .nx sl (cD c k (push g is w n))=.go .nx sl' c'/\finC c c' .non=some (.ok .non (cD c k (push g is w n))) :=
 ⟨_,_,rfl,by have:=xD (c:=c) (k:=k) (g:=push g is w n) (w:=.non) [] (by simp only[aV]);rwa [append_nil] at this⟩
theorem yR(fu:Nat)(G:GC c k b s h g)(O:dO b g)(he:ended g=false):d_t fu [.cel k,.non] c=some (.ok .non (cD c k (push g (cur g) none 0))):=by
 have e1:=pV fu G O;have e2:=pX fu G O;have hn:fQ (hU g)=some (.bl false):=by simp only[fQ,pP,he];rfl
 unfold d_t;refine qQ [some (.cel k),some .non,none,none,none,none] rfl ?_;refine bS (p:=false) (ce':=c) (bN (dY (eR (ws:=[]) (ax rfl) G.i rfl aM rfl e1) hn)) (fun q=>by cases q) (fun _=>du ?_);refine ba (w:=wS (cur g)) (ce':=c) (eR (ws:=[]) (ax rfl) G.i rfl aM rfl e2) ?_;refine aS ?_;refine ba (w:=nW 0) (ce':=c) aU ?_;refine aS ?_;refine bS (p:=false) (ce':=c) (bN (dY (ax rfl) rfl)) (fun q=>by cases q) (fun _=>du ?_);exact yd (w:=none) G O yc
theorem EF{e:Sl->M W}{x:cX}{a:DS}{Q:VS.O->Prop}(h:e sl ce=some (.ex x c1))(q:Q (.ex x c1)):Run (aq (aP i e) a) sl ce Q:=rY ⟨.ex x c1,by simp only[aP,cu,h],q⟩
theorem pO(fu:Nat)(G:GC c k b s h g)(O:dO b g)(he:ended g=false){nm:PySem.Str}(hl:d_fa fu [wB b,wS (cur g),.int (hnd h g.done.length),nW p] c=some (.ex ⟨nm,none⟩ c)):d_t fu [.cel k,nW p] c=some (.ex ⟨nm,none⟩ c):=by
 have e1:=pV fu G O;have e2:=pX fu G O;have e3:=sH fu G;have hn:fQ (hU g)=some (.bl false):=by simp only[fQ,pP,he];rfl
 unfold d_t;refine oa [some (.cel k),some (nW p),none,none,none,none] rfl ?_;refine bS (p:=false) (ce':=c) (bN (dY (eR (ws:=[]) (ax rfl) G.i rfl aM rfl e1) hn)) (fun q=>by cases q) (fun _=>du ?_);refine ba (w:=wS (cur g)) (ce':=c) (eR (ws:=[]) (ax rfl) G.i rfl aM rfl e2) ?_;refine aS ?_;refine ba (w:=nW 0) (ce':=c) aU ?_;refine aS ?_;refine bS (p:=true) (ce':=c) (bN (dY (ax rfl) rfl)) (fun _=>?_) (fun q=>by cases q);refine gG (EF (FG (ws:=[wB b,wS (cur g),.int (hnd h g.done.length),nW p]) (c1:=c) (aK (fR (ax rfl) G.i rfl) (aK (ax rfl) (aK (eR (ws:=[]) (ax rfl) G.i rfl aM rfl e3) (aK (ax rfl) aM)))) rfl hl) ⟨rfl,[],by simp⟩)
theorem Hg{n:Int}{x f:PySem.Str}{Q:VS.O->Prop}(h:sl[i]?=some (some (.int n)))(hn:n.natAbs<1000)(q:Q (.ex ⟨x,some (f,.int n)⟩ ce)):Run (mJ x f i) sl ce Q:=⟨_,by unfold mJ;rw[h];dsimp only;rw[if_pos hn],q⟩
theorem wg(fu:Nat)(G:GC c k b s h g)(O:dO b g)(he:ended g=false){is:List Int}{t:List Nat}(hl:d_fa fu [wB b,wS (cur g),.int (hnd h g.done.length),nW p] c=some (.ok (.tup [wS is,wL t]) c)){Q:VS.O->Prop}(q1:∀m:Nat,dW s h g is=some m->Q (.ex ⟨"Again",some ("number",.int m)⟩ c))(q2:dW s h g is=none->∀sl,Q (.go .nx sl (cD c k (push g is (some p) t.length)))) :
  Run (aq (bw (dB (dM fQ (dI "Game" "ended" 1 (d_q fu) (aa 0) ai))) (gE "Over" []) bH)
 (aq (aP 2 (dI "Game" "stand" 1 (d_m fu) (aa 0) ai))
 (aq (aP 3 (dC (.int 0)))
 (aq (bw (dB (dM fQ (aa 1))) (aq (aP 4 (bA 4 (d_fa fu) (ah (dA "Game" "joined" (aa 0)) (ah (aa 2) (ah (dI "Game" "hand" 1 (d_s fu) (aa 0) ai) (ah (aa 1) ai))))))
 (aq (aP 2 (aE aB (aa 4) (dC (.int 0))))
 (aq (aP 3 (aT bQ (ah (aE aB (aa 4) (dC (.int 1))) ai)))
 (aq (aP 5 (dI "Game" "came_at" 2 (d_f fu) (aa 0) (ah (aa 2) ai)))
 (bw (dB (dM fQ (aa 5))) (mJ "Again" "number" 5) bH))))) bH)
 (aq (cG (cO cM (dA "Game" "past" (aa 0)) (ah (aa 2) ai)))
 (aq (cG (cO cM (dA "Game" "done" (aa 0)) (ah (aa 1) ai)))
 (cG (cO cM (dA "Game" "takings" (aa 0)) (ah (aa 3) ai))))))))) [some (.cel k),some (nW p),none,none,none,none] c Q:=by
 have lim:=O.lim;have n1:=O.n1;have e1:=pV fu G O;have e2:=pX fu G O;have e3:=sH fu G;have e4:=C4 fu G O is;have hn:fQ (hU g)=some (.bl false):=by simp only[fQ,pP,he];rfl
 refine bS (p:=false) (ce':=c) (bN (dY (eR (ws:=[]) (ax rfl) G.i rfl aM rfl e1) hn)) (fun q=>by cases q) (fun _=>du ?_);refine ba (w:=wS (cur g)) (ce':=c) (eR (ws:=[]) (ax rfl) G.i rfl aM rfl e2) ?_;refine aS ?_;refine ba (w:=nW 0) (ce':=c) aU ?_;refine aS ?_;refine bS (p:=true) (ce':=c) (bN (dY (ax rfl) rfl)) (fun _=>?_) (fun q=>by cases q);refine gG ?_;refine ba (w:=.tup [wS is,wL t]) (ce':=c) (dj (ws:=[wB b,wS (cur g),.int (hnd h g.done.length),nW p]) (aK (fR (ax rfl) G.i rfl) (aK (ax rfl) (aK (eR (ws:=[]) (ax rfl) G.i rfl aM rfl e3) (aK (ax rfl) aM)))) rfl hl) ?_;refine aS ?_;have j0:aB c (.tup [wS is,wL t]) (.int 0)=some (wS is):=gz (xs:=[wS is,wL t]) (j:=0) rfl rfl;have j1:aB c (.tup [wS is,wL t]) (.int 1)=some (wL t):=gz (xs:=[wS is,wL t]) (j:=1) rfl rfl;have jl:bQ [wL t] c=some (.ok (nW t.length) c):=by simp[bQ,dg,bP];rfl
 refine gG (ba (w:=wS is) (ce':=c) (bG (ax rfl) aU j0) ?_);refine aS ?_;refine gG (ba (w:=nW t.length) (ce':=c) (cJ (ws:=[wL t]) (aK (bG (ax rfl) aU j1) aM) jl) ?_);refine aS ?_;refine gG (ba (w:=oW (dW s h g is)) (ce':=c) (eR (ws:=[wS is]) (ax rfl) G.i rfl (aK (ax rfl) aM) rfl e4) ?_);refine aS ?_;cases hc:dW s h g is with
 | none =>
  refine bS (p:=false) (ce':=c) (bN (dY (ax rfl) rfl)) (fun q=>by cases q) (fun _=>du ?_);exact yd (w:=some p) G O (q2 hc _)
 | some m =>
  have hm:m<g.past.length:=mem_range.mp (mem_of_find?_eq_some hc);refine bS (p:=true) (ce':=c) (bN (dY (ax rfl) rfl)) (fun _=>?_) (fun q=>by cases q);exact rY (Hg (n:=m) rfl (by omega) (q1 m hc))
theorem yW(fu:Nat)(hfu:200<=fu)(N:bZ b)(G:GC c k b s h g)(O:dO b g)(h12:h=1\/h=2)(he:ended g=false){m:Nat}(hp:p<b.length)(p0:(cur g).getD p 0=0)(fr:fI b (cur g) (hnd h g.done.length) p)(hm:dW s h g (lS b (cur g) (hnd h g.done.length) p)=some m):d_t fu [.cel k,nW p] c=some (.ex ⟨"Again",some ("number",.int m)⟩ c):=by have hl:=wk (ce:=c) fu hfu N O.cur (jL h12 g.done.length) hp p0 fr;unfold d_t;refine oa [some (.cel k),some (nW p),none,none,none,none] rfl ?_;exact wg fu G O he hl (fun m' q=>by rw[hm] at q;cases q;exact⟨rfl,[],by simp⟩) (fun q=>by rw[hm] at q;cases q)
theorem yb(fu:Nat)(hfu:200<=fu)(N:bZ b)(G:GC c k b s h g)(O:dO b g)(h12:h=1\/h=2)(he:ended g=false)(hp:p<b.length)(p0:(cur g).getD p 0=0)(fr:fI b (cur g) (hnd h g.done.length) p)(hm:dW s h g (lS b (cur g) (hnd h g.done.length) p)=none):d_t fu [.cel k,nW p] c=some (.ok .non (cD c k (push g (lS b (cur g) (hnd h g.done.length) p) (some p) (lT b (cur g) (hnd h g.done.length) p).length))):=by have hl:=wk (ce:=c) fu hfu N O.cur (jL h12 g.done.length) hp p0 fr;unfold d_t;refine qQ [some (.cel k),some (nW p),none,none,none,none] rfl ?_;exact wg fu G O he hl (fun m q=>by rw[hm] at q;cases q) (fun _ sl=>yc)
theorem C0(fu:Nat)(hfu:200<=fu)(N:bZ b)(G:GC c k b s h g)(O:dO b g)(h12:h=1\/h=2){w:Option Nat}(hw:∀p,w=some p->p<b.length) :
  (∃g',bF b s h g w g'/\d_t fu [.cel k,oW w] c=some (.ok .non (cD c k g')))\/((∀g',¬bF b s h g w g')/\∃x,d_t fu [.cel k,oW w] c=some (.ex x c)):=by
 cases he:ended g with
 | true=>exact .inr ⟨fun g' D=>(by rw[D.1] at he;cases he),_,yS fu G O _ he⟩
 | false =>
  cases w with
  | none=>exact .inl ⟨_,⟨he,rfl⟩,yR fu G O he⟩
  | some p =>
   have hp:=hw p rfl
   by_cases p0:(cur g).getD p 0=0
   ·by_cases fr:fI b (cur g) (hnd h g.done.length) p
    ·cases hm:dW s h g (lS b (cur g) (hnd h g.done.length) p) with
     | none=>exact .inl ⟨_,⟨he,hp,p0,fr,hm,rfl⟩,yb fu hfu N G O h12 he hp p0 fr hm⟩
     | some m=>exact .inr ⟨fun g' D=>(by rw[D.2.2.2.2.1] at hm;cases hm),_,yW fu hfu N G O h12 he hp p0 fr hm⟩
    ·exact .inr ⟨fun g' D=>fr D.2.2.2.1,_,pO fu G O he (wm fu hfu N O.cur (jL h12 _) hp p0 fr)⟩
   ·exact .inr ⟨fun g' D=>p0 D.2.2.1,_,pO fu G O he (wo fu O.cur N.B.h36 hp p0)⟩
end
section
variable {l:Ce} {s:Bool} {h:Int} {g:Gm}
theorem mG(c:Ce)(x y:C)(l:Ce):(c++x::l).set c.length y=c++y::l:=by simp
theorem sv(c:Ce)(x:C)(l:Ce):(c++x::l)[c.length]?=some x:=by simp
def gr(is:List Int):Gm:=⟨[is],[],[]⟩
theorem Aq{is:List Int}(S:bD b is):dO b (gr is):=⟨rfl,rfl,fun i hi=>by
 have:i=0:=by simp[gr] at hi;exact hi
 subst this;exact S,zero_le _⟩
def ox(b:List (List Nat))(s:Bool)(h:Int)(k:Nat)(is:List Int):Ce:=[.ins "Game" (ou b s h k),.lst [wS is],.lst [],.lst []]
theorem CZ(fu:Nat){is:List Int}(hn:∀c,d_v fu [wB b,wS is] c=some (.ok (.bl true) c))(hs:∀c,d_w fu [wB b,wS is] c=some (.ok (.bl true) c)) :
  d_d fu [.cel c.length,wB b,.str (rl s),wS is,.int h] (c++[C.ins "Game" []])=some (.ok .non (c++ox b s h c.length is)):=by
 have z1:1<=sizeLine:=by decide
 unfold d_d;refine qQ [some (.cel c.length),some (wB b),some (.str (rl s)),some (wS is),some (.int h)] rfl ?_;refine bS (p:=!true) (ce':=c++[C.ins "Game" []]) (k_ (bN (dj (ws:=[wB b,wS is]) (by trivial) rfl (hn _)))) (fun q=>by cases q) (fun _=>du ?_);refine bS (p:=!true) (ce':=c++[C.ins "Game" []]) (k_ (bN (dj (ws:=[wB b,wS is]) (by trivial) rfl (hs _)))) (fun q=>by cases q) (fun _=>du ?_);refine n_ (w:=wB b) (k:=c.length) (ax rfl) (ax rfl) (kl _ _) (lt_of_le_of_lt (le_refl 0) (by decide)) ?_;rw[mG];refine n_ (w:=.str (rl s)) (k:=c.length) (ax rfl) (ax rfl) (kl _ _) (lt_of_le_of_lt (gm (le_refl 0)) (by decide)) ?_;rw[mG];refine n_ (w:=.int h) (k:=c.length) (ax rfl) (ax rfl) (kl _ _) (lt_of_le_of_lt (gm (gm (le_refl 0))) (by decide)) ?_;rw[mG];refine n_ (k:=c.length) (iO (ws:=[wS is]) (by trivial) z1) (ax rfl) (by rw[append_assoc];exact sv _ _ _) (lt_of_le_of_lt (gm (gm (gm (le_refl 0)))) (by decide)) ?_;rw[append_assoc,cons_append,nil_append,mG,length_append,length_cons,length_nil];refine n_ (k:=c.length) (iO aM (zero_le _)) (ax rfl) (by rw[append_assoc];exact sv _ _ _) (lt_of_le_of_lt (gm (gm (gm (gm (le_refl 0))))) (by decide)) ?_;rw[append_assoc,cons_append,cons_append,nil_append,mG,length_append,length_cons,length_cons,length_nil];refine Fw (k:=c.length) (iO aM (zero_le _)) (ax rfl) (by rw[append_assoc];exact sv _ _ _) (lt_of_le_of_lt (gm (gm (gm (gm (gm (le_refl 0)))))) (by decide)) ?_;rw[append_assoc,cons_append,cons_append,cons_append,nil_append,mG,length_append,length_cons,length_cons,length_cons,length_nil];exact⟨_,_,rfl,rfl⟩
end
theorem Hf{α:Type}{l m:List α}{d:α}(h:i<l.length):(l++m).getD i d=l.getD i d:=by simp only[getD_eq_getElem?_getD,getElem?_append_left h]
theorem tE{α:Type}{l:List α}{x d:α}(h:i=l.length):(l++[x]).getD i d=x:=by subst h;simp only[getD_eq_getElem?_getD,getElem?_append_right (le_refl _),sub_self,getElem?_cons_zero,getD_some]
section
variable {l:Ce} {s:Bool} {h:Int} {g:Gm} {w:Option Nat}
theorem CY{m:Nat}{ds:List (Option Nat)}(hm:m<ds.length):aB c (.lst (ds.map oW)) (nW m)=some (oW (ds.getD m none)):=by rw[ji (xs:=ds.map oW) rfl,getElem?_map,getD_eq_getElem?_getD,getElem?_eq_getElem hm];rfl
end
section
variable {l:Ce} {s:Bool} {h:Int} {g:Gm} {w:Option Nat} {is:List Int}
def j4(h:Int)(g:Gm)(m:Nat):W:=.tup [wS (g.past.getD m []),.int (hnd h m)]
def fi(h:Int)(g:Gm):List W:=(List.range g.past.length).map (j4 h g)
theorem pN:(fi h g).length=g.past.length:=by simp[fi]
theorem GB:fi h (push g is w n)=fi h g++[.tup [wS is,.int (hnd h g.past.length)]]:=by
 unfold fi;rw[show(push g is w n).past.length=g.past.length+1 by simp[push],range_succ,map_append];congr 1
 ·apply map_congr_left;intro m hm;have hm:=mem_range.mp hm;simp only[j4,push];rw[Hf hm]
 ·simp only[map_cons,map_nil,j4,push];rw[tE rfl]
theorem EE(hm:dg c mo=some (fi h g)){m:Nat}(h1:m<g.past.length):aB c mo (nW m)=some (j4 h g m):=by rw[ji hm,fi,getElem?_map,getElem?_range h1];rfl
theorem tm(hm:dg c mo=some (fi h g))(O:dO b g):aB c mo (.int (-1))=some (.tup [wS (cur g),.int (hnd h g.done.length)]):=by have n1:=O.n1;rw[sx hm (by rw[pN];omega),pN,fi,getElem?_map,getElem?_range (by omega)];show some (j4 h g (g.past.length-1))=_;unfold j4 cur;rw[show g.past.length-1=g.done.length by omega]
open Classical in
def dw(b:List (List Nat))(s:Bool)(h:Int)(g:Gm):Option Nat->W
 | none=>.tup [wS (cur g),.lst []]
 | some p=>if (cur g).getD p 0=0 then (if fI b (cur g) (hnd h g.done.length) p then (match dW s h g (lS b (cur g) (hnd h g.done.length) p) with
  | some m=>nW m
  | none=>.tup [wS (lS b (cur g) (hnd h g.done.length) p),wL (lT b (cur g) (hnd h g.done.length) p)]) else .str "breath") else .str "lay"
theorem vO(h12:h=1\/h=2)(m n:Nat):(s||!decide (hnd h m=hnd h n))=bar s h n m:=by unfold bar;have h1:=jL h12 m;have h2:=jL h12 n;congr 1;rw[<- decide_not];exact decide_eq_decide.mpr (by omega)
theorem CW{x:W}(hx:dg c x=some xs):bQ [x] c=some (.ok (nW xs.length) c):=by
 cases x<;>first|(simp only[bQ,hx];rfl)|(simp only[dg,bP,reduceCtorEq] at hx)
theorem vN(fu:Nat)(hfu:200<=fu)(N:bZ b)(O:dO b g)(h12:h=1\/h=2)(hm:dg c mo=some (fi h g))(hw:∀p,w=some p->p<b.length):d_aa fu [wB b,.str (rl s),mo,oW w] c=some (.ok (dw b s h g w) c):=by
 have hz:(1000:Nat)<sizeLine:=by decide
 have n1:=O.n1;have lim:=O.lim;have hl:=tm hm O;have z2:2<=sizeLine:=by decide
 unfold d_aa;refine dD [some (wB b),some (.str (rl s)),some mo,some (oW w),none,none,none,none] rfl ?_;refine xM (x:=wS (cur g)) (y:=.int (hnd h g.done.length)) (c1:=c) (bG (ax rfl) (dY aU rfl) hl) ?_;refine(?_:Run _ [some (wB b),some (.str (rl s)),some mo,some (oW w),some (wS (cur g)),some (.int (hnd h g.done.length)),none,none] c _);cases w with
 | none =>
  refine bS (p:=true) (ce':=c) (bN (dY (ax rfl) rfl)) (fun _=>?_) (fun q=>by cases q);refine iu (bL (w:=.tup [wS (cur g),.lst []]) (ce':=c) (jm (ws:=[wS (cur g),.lst []]) (aK (ax rfl) (aK (e9 aM (zero_le _)) aM)) z2) (dR ?_));simp only[aV,cI];exact⟨bx _ _,trivial,trivial⟩
 | some p =>
  have hp:=hw p rfl;refine bS (p:=false) (ce':=c) (bN (dY (ax rfl) rfl)) (fun q=>by cases q) (fun _=>du ?_);have et:=EM (ce:=c) fu hfu N O.cur (jL h12 g.done.length) hp;refine ba (w:=gK b (cur g) (hnd h g.done.length) p) (ce':=c) (dj (ws:=[wB b,wS (cur g),.int (hnd h g.done.length),nW p]) (by trivial) rfl et) ?_;refine aS ?_
  by_cases p0:(cur g).getD p 0=0
  ·by_cases fr:fI b (cur g) (hnd h g.done.length) p
   ·have eT:gK b (cur g) (hnd h g.done.length) p=.tup [wS (lS b (cur g) (hnd h g.done.length) p),wL (lT b (cur g) (hnd h g.done.length) p)]:=by unfold gK;rw[if_pos p0,if_pos fr]
    have eD:dw b s h g (some p)=match dW s h g (lS b (cur g) (hnd h g.done.length) p) with
     | some m=>nW m
     | none=>.tup [wS (lS b (cur g) (hnd h g.done.length) p),wL (lT b (cur g) (hnd h g.done.length) p)]:=by
     unfold dw;dsimp only;rw[if_pos p0,if_pos fr]
    rw[eT,eD];generalize lS b (cur g) (hnd h g.done.length) p=is1;generalize lT b (cur g) (hnd h g.done.length) p=t1;refine bS (p:=false) (ce':=c) (bN (cJ (ws:=[.tup [wS is1,wL t1],.ty "str"]) (by trivial) rfl)) (fun q=>by cases q) (fun _=>du ?_);have el:bQ [mo] c=some (.ok (nW g.past.length) c):=by rw[CW hm,pN]
    refine yH (zs:=List.range g.past.length) (en:=nW) (c1:=c) (iL (n:=g.past.length) (aK (cJ (ws:=[mo]) (by trivial) el) aM) (by omega))
     (fun d sl c'=>∃x7,sl=[some (wB b),some (.str (rl s)),some mo,some (nW p),some (wS (cur g)),some (.int (hnd h g.done.length)),some (.tup [wS is1,wL t1]),x7]/\c'=c/\∀m∈d,(decide (g.past.getD m []=is1)&&bar s h g.done.length m)=false)
     (fun w c'=>c'=c/\∃m,dW s h g is1=some m/\w=nW m) ⟨_,rfl,rfl,by simp⟩ ?_ ?_ ?_
    ·rintro d m r sl c' e hm' ⟨x7,rfl,rfl,hd⟩;have hm':=mem_range.mp hm';have i1:=EE hm hm';have j0:aB c' (j4 h g m) (.int 0)=some (wS (g.past.getD m [])):=gz (xs:=[wS (g.past.getD m []),.int (hnd h m)]) (j:=0) rfl rfl;have j1:aB c' (j4 h g m) (.int 1)=some (.int (hnd h m)):=gz (xs:=[wS (g.past.getD m []),.int (hnd h m)]) (j:=1) rfl rfl;have j2:aB c' (.tup [wS is1,wL t1]) (.int 0)=some (wS is1):=gz (xs:=[wS is1,wL t1]) (j:=0) rfl rfl;have q1:=uL (ce:=c') false (g.past.getD m []) is1;have q2:bo false c' (.str (rl s)) (.str "stones")=some (.bl s):=by cases s<;>rfl
     have e3:jH (.int (hnd h m)) (.int (hnd h g.done.length))=some (.bl (!decide (hnd h m=hnd h g.done.length))):=w_ rfl rfl;unfold zc;refine aS ?_;refine fS (p:=decide (g.past.getD m []=is1)) (ce':=c') (bN (bG (bG (bG (ax rfl) (ax rfl) i1) aU j0) (bG (ax rfl) aU j2) q1)) (fun z1=>?_) (fun z1=>iA ?_)
     ·refine fS (p:=s||!decide (hnd h m=hnd h g.done.length)) (ce':=c') (mz (bN (bG (ax rfl) aU q2)) (fun _=>bN (fP (bG (bG (ax rfl) (ax rfl) i1) aU j1) (ax rfl) e3))) (fun z2=>?_) (fun z2=>iA ?_)
      ·rw[vO h12] at z2;refine bL (w:=nW m) (ce':=c') (ax rfl) ⟨rfl,m,?_,rfl⟩;unfold dW;rw[<- e,find?_append,find?_eq_none.mpr (fun x hx=>by rw[hd x hx];simp)];rw[none_or,find?_cons,show(decide (g.past.getD m []=is1)&&bar s h g.done.length m)=true by rw[z1,z2];rfl]
      ·rw[vO h12] at z2;refine⟨_,rfl,rfl,fun x hx=>?_⟩;rcases mem_append.mp hx with hx|hx
       ·exact hd x hx
       ·rw[mem_singleton] at hx;subst hx;rw[z1,z2];rfl
     ·refine⟨_,rfl,rfl,fun x hx=>?_⟩;rcases mem_append.mp hx with hx|hx
      ·exact hd x hx
      ·rw[mem_singleton] at hx;subst hx;rw[z1];rfl
    ·rintro w sl c' ⟨rfl,m,hm2,rfl⟩;rw[hm2];exact iq (dR (by simp only[nW,aV]))
    ·rintro sl c' ⟨x7,rfl,rfl,hd⟩;have:dW s h g is1=none:=by
      unfold dW;rw[find?_eq_none];exact fun m hm=>by rw[hd m hm];simp
     rw[this];refine bL (w:=.tup [wS is1,wL t1]) (ce':=c') (ax rfl) (dR ?_);simp only[aV,cI];exact⟨bx _ _,aF _ _,trivial⟩
   ·have eT:gK b (cur g) (hnd h g.done.length) p=.str "breath" := by
     unfold gK;rw[if_pos p0,if_neg fr]
    have eD:dw b s h g (some p)=.str "breath" := by
     unfold dw;dsimp only;rw[if_pos p0,if_neg fr]
    rw[eT,eD];refine bS (p:=true) (ce':=c) (bN (cJ (ws:=[.str "breath",.ty "str"]) (by trivial) rfl)) (fun _=>?_) (fun q=>by cases q);exact iu (bL (w:=.str "breath") (ce':=c) (ax rfl) (dR (by simp only[aV])))
  ·have eT:gK b (cur g) (hnd h g.done.length) p=.str "lay" := by
    unfold gK;rw[if_neg p0]
   have eD:dw b s h g (some p)=.str "lay" := by
    unfold dw;dsimp only;rw[if_neg p0]
   rw[eT,eD];refine bS (p:=true) (ce':=c) (bN (cJ (ws:=[.str "lay",.ty "str"]) (by trivial) rfl)) (fun _=>?_) (fun q=>by cases q);exact iu (bL (w:=.str "lay") (ce':=c) (ax rfl) (dR (by simp only[aV])))
end
section
variable {l:Ce} {s:Bool} {h:Int} {g:Gm} {w:Option Nat} {is:List Int}
theorem kM{f:Ce->W->Option W}{w:W}(h:d sl c=some (.ok w c1))(hf:f c1 w=some w'):eZ f d sl c=some (.ok w' c1):=by simp only[eZ,au,h,look,hf,map_some]
def rp(x:PySem.Str)(p:Bool):W:=.lst (if p then [.str x] else [])
theorem lU{x:PySem.Str}{b:Sl->M W}{p:Bool}(hb:b sl c=some (.ok (.bl p) c)):fX aQ (ah (dC (.str x)) ai) (aT fx (ah b ai)) sl c=some (.ok (rp x p) c):=by
 have z1:1<=sizeLine:=by decide
 have e1:ah (dC (.str x)) ai sl c=some (.ok [.str x] c):=aK aU aM;have e2:aT fx (ah b ai) sl c=some (.ok (.int (if p then 1 else 0)) c):=cJ (ws:=[.bl p]) (aK hb aM) rfl;simp only[fX,au,e1,qy,length_cons,length_nil,if_pos z1,e2,oI];cases p with
 | true =>
  rw[if_pos ⟨by decide,by decide,by decide⟩];exact ir z1
 | false =>
  rw[if_pos ⟨by decide,by decide,by decide⟩];exact ir (zero_le _)
def jU(o l b a:Bool):List W:=(if o then [.str "over"] else [])++((if l then [.str "lay"] else [])++((if b then [.str "breath"] else [])++(if a then [.str "again"] else [])))
theorem He{e:W}{o l b a:Bool}{x0 x1 x3:Option W}{Q:VS.O->Prop}{rest:DS}(r1:fK cw c2 e "Over" = some (.bl o))(r2:fK cw c2 e "NoLay" = some (.bl l))(r3:fK cw c2 e "NoBreath" = some (.bl b))(r4:fK cw c2 e "Again" = some (.bl a))(r5:i8 cw c2 e ["NoBack", "NoBoard", "NoPoint", "NoRow", "NoStand"]=some (.bl false))(r6:i8 cw c2 e ["NoText", "TooMuch"]=some (.bl false))(q:Run rest [x0,x1,some e,x3,none,some (.lst (jU o l b a))] c2 Q) :
  Run (aq (aP 5 (c6 (ah (fX aQ (ah (dC (.str "over")) ai) (aT fx (ah (eZ (fun ce w=>fK cw ce w "Over") (aa 2)) ai))) (ah (fX aQ (ah (dC (.str "lay")) ai) (aT fx (ah (eZ (fun ce w=>fK cw ce w "NoLay") (aa 2)) ai))) ai))))
 (aq (aP 5 (fN aQ (aa 5) (c6 (ah (fX aQ (ah (dC (.str "breath")) ai) (aT fx (ah (eZ (fun ce w=>fK cw ce w "NoBreath") (aa 2)) ai))) ai))))
 (aq (aP 5 (fN aQ (aa 5) (c6 (ah (fX aQ (ah (dC (.str "again")) ai) (aT fx (ah (eZ (fun ce w=>fK cw ce w "Again") (aa 2)) ai))) ai))))
 (aq (aP 5 (fN aQ (aa 5) (c6 (ah (fX aQ (ah (dC (.str "other")) ai) (aT fx (ah (eZ (fun ce w=>i8 cw ce w ["NoBack", "NoBoard", "NoPoint", "NoRow", "NoStand"]) (aa 2)) ai))) ai))))
 (aq (aP 5 (aT nB (ah (aa 5) (ah (fX aQ (ah (dC (.str "other")) ai) (aT fx (ah (eZ (fun ce w=>i8 cw ce w ["NoText", "TooMuch"]) (aa 2)) ai))) ai))))
   rest))))) [x0,x1,some e,x3,none,x5] c2 Q:=by
 have z1:1<=sizeLine:=by decide
 have z2:2<=sizeLine:=by decide
 have z3:3<=sizeLine:=by decide
 have z4:4<=sizeLine:=by decide
 have z5:5<=sizeLine:=by decide
 refine ba (w:=.lst [rp "over" o,rp "lay" l]) (ce':=c2) (e9 (aK (lU (kM (ax rfl) r1)) (aK (lU (kM (ax rfl) r2)) aM)) z2) ?_;refine aS ?_;refine ba (w:=.lst [rp "over" o,rp "lay" l,rp "breath" b]) (ce':=c2) (kY (xs:=[rp "over" o,rp "lay" l]) (ys:=[rp "breath" b]) (ax rfl) (e9 (aK (lU (kM (ax rfl) r3)) aM) z1) rfl rfl z3) ?_;refine aS ?_;refine ba (w:=.lst [rp "over" o,rp "lay" l,rp "breath" b,rp "again" a]) (ce':=c2) (kY (xs:=[rp "over" o,rp "lay" l,rp "breath" b]) (ys:=[rp "again" a]) (ax rfl) (e9 (aK (lU (kM (ax rfl) r4)) aM) z1) rfl rfl z4) ?_;refine aS ?_;refine ba (w:=.lst [rp "over" o,rp "lay" l,rp "breath" b,rp "again" a,rp "other" false]) (ce':=c2) (kY (xs:=[rp "over" o,rp "lay" l,rp "breath" b,rp "again" a]) (ys:=[rp "other" false]) (ax rfl) (e9 (aK (lU (kM (ax rfl) r5)) aM) z1) rfl rfl z5) ?_;refine aS ?_;have es:nB [.lst [rp "over" o,rp "lay" l,rp "breath" b,rp "again" a,rp "other" false],rp "other" false] c2=some (.ok (.lst (jU o l b a)) c2):=by
  have e:([]:List W)++[(if o then [W.str "over"] else []),(if l then [W.str "lay"] else []),(if b then [W.str "breath"] else []),(if a then [W.str "again"] else []),[]].flatten=jU o l b a:=by simp[jU]
  have hz:(jU o l b a).length<=sizeLine:=by
   cases o<;>cases l<;>cases b<;>cases a<;>first|exact zero_le _|exact z1|exact z2|exact z3|exact z4
  show aQ (([]:List W)++[(if o then [W.str "over"] else []),(if l then [W.str "lay"] else []),(if b then [W.str "breath"] else []),(if a then [W.str "again"] else []),[]].flatten) c2=_;rw[e];exact ir hz
 refine ba (w:=.lst (jU o l b a)) (ce':=c2) (cJ (aK (ax rfl) (aK (lU (kM (ax rfl) r6)) aM)) es) ?_;refine aS ?_;exact q
end
theorem ya:∀(d:Nat) (w:W),aX d w=true->eJ n ce d w=some w:=by
 intro d
 induction d with
 | zero =>
  intro w h;cases w with
  | cel _=>simp[aX] at h
  | lst _=>simp[aX] at h
  | tup _=>simp[aX] at h
  | _=>simp only[eJ]
 | succ d ih =>
  have ths:∀xs:List W,xs.all (aX d)=true->fO n ce d xs=some xs:=by
   intro xs
   induction xs with
   | nil=>intro _;simp only[fO]
   | cons a r ih2 =>
    intro h;rw[all_cons,and_eq_true] at h;simp only[fO,ih a h.1,ih2 h.2]
  intro w h;cases w with
  | cel _=>simp[aX] at h
  | lst xs=>simp only[aX] at h;simp only[eJ,ths xs h,map_some]
  | tup xs=>simp only[aX] at h;simp only[eJ,ths xs h,map_some]
  | _=>simp only[eJ]
theorem GA(n:Nat)(ps:List (List Int)):aX (n+2) (.lst (ps.map wS))=true:=by simp only[aX,all_eq_true];intro x hx;obtain⟨is,_,rfl⟩:=mem_map.mp hx;exact n5 is n
theorem yQ(n:Nat)(ds:List (Option Nat)):aX (n+1) (.lst (ds.map oW))=true:=by
 simp only[aX,all_eq_true];intro x hx;obtain⟨o,_,rfl⟩:=mem_map.mp hx;cases o<;>(cases n<;>rfl)
theorem o6(x y:PySem.Str):j7 false c (.lst [.str x]) (.lst [.str y])=some (.bl (aL (.lst [.str x]) (.lst [.str y]))):=by have h1:m7 c (.lst [.str x])=some (.lst [.str x]):=ya 6 _ rfl;have h2:m7 c (.lst [.str y])=some (.lst [.str y]):=ya 6 _ rfl;simp only[j7,h1,h2];rfl
section
variable {l:Ce} {s:Bool} {h:Int} {g:Gm} {w:Option Nat} {is:List Int}
theorem o5{e:W}{nm cn:PySem.Str}{anc:List PySem.Str}{p:Bool}(hx:gX c2 e=some nm)(ha:iK cw nm=some anc)(ht:(cw.any fun p=>p.1==cn)=true)(hp:anc.contains cn=p):fK cw c2 e cn=some (.bl p):=by unfold fK;rw[hx,bind_some,ha,bind_some,if_pos ht,hp]
theorem wK{e:W}{nm:PySem.Str}{cns:List PySem.Str}{anc:List PySem.Str}{p:Bool}(hx:gX c2 e=some nm)(ha:iK cw nm=some anc)(ht:(cns.all fun cn=>cw.any fun p=>p.1==cn)=true)(hp:cns.any anc.contains=p):i8 cw c2 e cns=some (.bl p):=by unfold i8;rw[hx,bind_some,ha,bind_some,if_pos ht,hp]
theorem CV{e:W}{nm:PySem.Str}{anc:List PySem.Str}(hx:gX c2 e=some nm)(ha:iK cw nm=some anc):m6 cw c2 e=some (.bl true):=by unfold m6;rw[hx,bind_some,ha,bind_some]
theorem x_(fu:Nat)(G:GC c k b s h g){x:cX}{nm:PySem.Str}{o l b' a:Bool}{v:W}(hd:d_t fu [.cel k,oW w] c=some (.ex x c))(hu:kZ cw "StoneError" x=true)(hx:gX (c++[eF x]) (.cel c.length)=some nm)(ha:iK cw nm=some [nm, "StoneError"])(p1:([nm, "StoneError"]:List PySem.Str).contains "Over" = o)(p2:([nm, "StoneError"]:List PySem.Str).contains "NoLay" = l)(p3:([nm, "StoneError"]:List PySem.Str).contains "NoBreath" = b')(p4:([nm, "StoneError"]:List PySem.Str).contains "Again" = a)(p5:(["NoBack", "NoBoard", "NoPoint", "NoRow", "NoStand"]:List PySem.Str).any ([nm, "StoneError"]:List PySem.Str).contains=false)(p6:(["NoText", "TooMuch"]:List PySem.Str).any ([nm, "StoneError"]:List PySem.Str).contains=false)(hv:aV c.length v)(q:(a=false/\jU o l b' a=[v]/\j7 false (c++[eF x]) (.lst [v]) (.lst [.str "again"])=some (.bl false))\/(a=true/\jU o l b' a=[.str "again"]/\∃m:Nat,eF x=.exm "Again" "number" m/\v=nW m)) :
  d_r fu [.cel k,oW w] c=some (.ok v c):=by
 have z1:1<=sizeLine:=by decide
 have hc:∀y4 y5,dI "Game" "deed" 2 (d_t fu) (gy (aa 0)) (gy (ah (aa 1) ai)) [some (.cel k),some (oW w),some .non,some (.int 7),y4,y5] c=some (.ex x c):=fun y4 y5=>eR (ws:=[oW w]) (mw (ax rfl)) G.i rfl (mw (aK (ax rfl) aM)) rfl hd;unfold d_r;refine dD [some (.cel k),some (oW w),none,none,none,none] rfl ?_;refine ba (w:=.non) (ce':=c) aU ?_;refine aS ?_;refine ba (w:=.int 7) (ce':=c) aU ?_;refine aS ?_;refine FE (sl':=[some (.cel k),some (oW w),some (.cel c.length),some (.int 7),none,none]) (c2:=c++[eF x]) (hc _ _) hu rfl ?_;refine bS (p:=false) (ce':=c++[eF x]) (bN (dY (ax rfl) rfl)) (fun q=>by cases q) (fun _=>du ?_);refine He (o:=o) (l:=l) (b:=b') (a:=a) (o5 hx ha (by decide +kernel) p1) (o5 hx ha (by decide +kernel) p2) (o5 hx ha (by decide +kernel) p3) (o5 hx ha (by decide +kernel) p4) (wK hx ha (by decide +kernel) p5) (wK hx ha (by decide +kernel) p6) ?_;have hV:=CV hx ha;rcases q with ⟨ea,ew,eq⟩|⟨ea,ew,m,ex,ev⟩
 ·rw[ew];have el:bQ [.lst [v]] (c++[eF x])=some (.ok (nW 1) (c++[eF x])):=rfl;have e0:aB (c++[eF x]) (.lst [v]) (.int 0)=some v:=gz (xs:=[v]) (j:=0) rfl rfl;refine bS (p:=false&&false) (ce':=c++[eF x]) (nY (bN (bG (ax rfl) (e9 (aK aU aM) z1) eq)) (fun z=>by cases z)) (fun q=>by cases q) (fun _=>du ?_);refine bS (p:=false||!true) (ce':=c++[eF x]) (mz (bN (fP (x:=nW 1) (cJ (ws:=[.lst [v]]) (aK (ax rfl) aM) el) aU rfl)) (fun _=>k_ (bN (kM (ax rfl) hV)))) (fun q=>by cases q) (fun _=>du ?_);exact bL (w:=v) (ce':=c++[eF x]) (bG (ax rfl) aU e0) (iq (n6 hv))
 ·rw[ew];have hg:(c++[eF x])[c.length]?=some (.exm "Again" "number" m):=by rw[kl,ex]
  have e1:lL "Again" "number" (aa 2) [some (.cel k),some (oW w),some (.cel c.length),some (.int 7),none,some (.lst [.str "again"])] (c++[eF x])=some (.ok (.int m) (c++[eF x])):=Bz (ax rfl) hg;have eq:j7 false (c++[eF x]) (.lst [.str "again"]) (.lst [.str "again"])=some (.bl true):=(o6 _ _).trans (congrArg (fun t=>some (W.bl t)) (by decide +kernel));refine bS (p:=true&&!false) (ce':=c++[eF x]) (nY (bN (bG (ax rfl) (e9 (aK aU aM) z1) eq)) (fun _=>k_ (bN (cJ (ws:=[.int m,.ty "bool"]) (aK e1 (aK aU aM)) rfl)))) (fun _=>?_) (fun q=>by cases q);subst ev;exact iu (bL (w:=.int m) (ce':=c++[eF x]) e1 (iq (n6 hv)))
def kF(b:List (List Nat))(s:Bool)(h:Int)(g:Gm)(w:Option Nat):W:=if ended g=true then .str "over" else dw b s h g w
theorem su(fu:Nat)(hfu:200<=fu)(N:bZ b)(G:GC c k b s h g)(O:dO b g)(h12:h=1\/h=2)(hw:∀p,w=some p->p<b.length) :
  (∃g',bF b s h g w g'/\d_r fu [.cel k,oW w] c=some (.ok (.str "done") (cD c k g')))\/((∀g',¬bF b s h g w g')/\d_r fu [.cel k,oW w] c=some (.ok (kF b s h g w) c)):=by
 have z2:2<=sizeLine:=by decide
 have hdone:∀{g'},d_t fu [.cel k,oW w] c=some (.ok .non (cD c k g'))->d_r fu [.cel k,oW w] c=some (.ok (.str "done") (cD c k g')):=fun {g'} hd=>by
  unfold d_r;refine dD [some (.cel k),some (oW w),none,none,none,none] rfl ?_;refine ba (w:=.non) (ce':=c) aU ?_;refine aS ?_;refine ba (w:=.int 7) (ce':=c) aU ?_;refine aS ?_;refine FF (w:=.non) (c1:=cD c k g') (eR (ws:=[oW w]) (mw (ax rfl)) G.i rfl (mw (aK (ax rfl) aM)) rfl hd) ?_;refine(?_:Run _ [some (.cel k),some (oW w),some .non,some .non,none,none] (cD c k g') _);refine bS (p:=true) (ce':=cD c k g') (bN (dY (ax rfl) rfl)) (fun _=>?_) (fun q=>by cases q);have e0:aB (cD c k g') (.lst [.str "other",.str "done"]) (.int 1)=some (.str "done"):=gz (xs:=[.str "other",.str "done"]) (j:=1) rfl rfl;refine iu (bL (w:=.str "done") (ce':=cD c k g') (bG (e9 (ws:=[.str "other",.str "done"]) (by trivial) z2) (cJ (ws:=[.bl true]) (aK (dY (ax rfl) rfl) aM) rfl) e0) (iq ?_));have:=xD (c:=c) (k:=k) (g:=g') (w:=.str "done") [] (by simp only[aV]);rwa [append_nil] at this
 have bad:∀{nm word:PySem.Str} {o l b':Bool},d_t fu [.cel k,oW w] c=some (.ex ⟨nm,none⟩ c)->kZ cw "StoneError" ⟨nm,none⟩=true->iK cw nm=some [nm, "StoneError"] ->
   ([nm, "StoneError"]:List PySem.Str).contains "Over" = o->([nm, "StoneError"]:List PySem.Str).contains "NoLay" = l->([nm, "StoneError"]:List PySem.Str).contains "NoBreath" = b'->([nm, "StoneError"]:List PySem.Str).contains "Again" = false ->
   (["NoBack", "NoBoard", "NoPoint", "NoRow", "NoStand"]:List PySem.Str).any ([nm, "StoneError"]:List PySem.Str).contains=false->(["NoText", "TooMuch"]:List PySem.Str).any ([nm, "StoneError"]:List PySem.Str).contains=false ->
   jU o l b' false=[.str word]->j7 false (c++[C.exn nm]) (.lst [.str word]) (.lst [.str "again"])=some (.bl false)->d_r fu [.cel k,oW w] c=some (.ok (.str word) c):=fun hd hu ha p1 p2 p3 p4 p5 p6 ew eq=>by
  refine x_ fu G hd hu (by show gX (c++[C.exn _]) (.cel c.length)=_;simp only[gX,kl]) ha p1 p2 p3 p4 p5 p6 (by simp only[aV]) (.inl ⟨rfl,ew,eq⟩)
 cases he:ended g with
 | true =>
  refine .inr ⟨fun g' D=>(by rw[D.1] at he;cases he),?_⟩;rw[show kF b s h g w=.str "over" by unfold kF;rw[if_pos he]];exact bad (o:=true) (l:=false) (b':=false) (yS fu G O _ he) (by decide +kernel) (by decide +kernel) (by decide +kernel) (by decide +kernel) (by decide +kernel) (by decide +kernel) (by decide +kernel) (by decide +kernel) rfl ((o6 _ _).trans (congrArg (fun t=>some (W.bl t)) (by decide +kernel)))
 | false =>
  have er:kF b s h g w=dw b s h g w:=by unfold kF;rw[if_neg (by rw[he];simp)]
  cases w with
  | none=>exact .inl ⟨_,⟨he,rfl⟩,hdone (yR fu G O he)⟩
  | some p =>
   have hp:=hw p rfl
   by_cases p0:(cur g).getD p 0=0
   ·by_cases fr:fI b (cur g) (hnd h g.done.length) p
    ·cases hm:dW s h g (lS b (cur g) (hnd h g.done.length) p) with
     | none=>exact .inl ⟨_,⟨he,hp,p0,fr,hm,rfl⟩,hdone (yb fu hfu N G O h12 he hp p0 fr hm)⟩
     | some m =>
      refine .inr ⟨fun g' D=>(by rw[D.2.2.2.2.1] at hm;cases hm),?_⟩;rw[er,show dw b s h g (some p)=nW m by unfold dw;dsimp only;rw[if_pos p0,if_pos fr,hm]];have hd:=yW fu hfu N G O h12 he hp p0 fr hm;exact x_ (nm := "Again") (o:=false) (l:=false) (b':=false) (a:=true) fu G hd (by show kZ cw "StoneError" ⟨"Again",none⟩=true;decide +kernel) (by show gX (c++[C.exm _ _ _]) (.cel c.length)=_;simp only[gX,kl]) (by decide +kernel) (by decide +kernel) (by decide +kernel) (by decide +kernel) (by decide +kernel) (by decide +kernel) (by decide +kernel) (by simp only[nW,aV]) (.inr ⟨rfl,rfl,m,rfl,rfl⟩)
    ·refine .inr ⟨fun g' D=>fr D.2.2.2.1,?_⟩;rw[er,show dw b s h g (some p)=.str "breath" by unfold dw;dsimp only;rw[if_pos p0,if_neg fr]];exact bad (o:=false) (l:=false) (b':=true) (pO fu G O he (wm fu hfu N O.cur (jL h12 _) hp p0 fr)) (by decide +kernel) (by decide +kernel) (by decide +kernel) (by decide +kernel) (by decide +kernel) (by decide +kernel) (by decide +kernel) (by decide +kernel) rfl ((o6 _ _).trans (congrArg (fun t=>some (W.bl t)) (by decide +kernel)))
   ·refine .inr ⟨fun g' D=>p0 D.2.2.1,?_⟩;rw[er,show dw b s h g (some p)=.str "lay" by unfold dw;dsimp only;rw[if_neg p0]];exact bad (o:=false) (l:=true) (b':=false) (pO fu G O he (wo fu O.cur N.B.h36 hp p0)) (by decide +kernel) (by decide +kernel) (by decide +kernel) (by decide +kernel) (by decide +kernel) (by decide +kernel) (by decide +kernel) (by decide +kernel) rfl ((o6 _ _).trans (congrArg (fun t=>some (W.bl t)) (by decide +kernel)))
theorem xZ(D:bF b s h g w g'):∃t:List Nat,dw b s h g w=.tup [wS (cur g'),wL t]/\∃is,g'=push g is w t.length:=by
 obtain⟨he,D⟩:=D;have hc:∀(is:List Int) (w:Option Nat) (n:Nat),cur (push g is w n)=is:=fun is w n=>by
  unfold cur push;rw[length_append,length_cons,length_nil,show g.past.length+(0+1)-1=g.past.length by omega,tE rfl]
 cases w with
 | none =>
  subst D;exact⟨[],by rw[hc];rfl,_,rfl⟩
 | some p =>
  obtain⟨hp,p0,fr,hm,rfl⟩:=D;refine⟨lT b (cur g) (hnd h g.done.length) p,?_,_,rfl⟩;rw[hc];unfold dw;dsimp only;rw[if_pos p0,if_pos fr,hm]
theorem wJ(D:∀g',¬bF b s h g w g')(he:ended g=false)(hw:∀p,w=some p->p<b.length):(∃x,dw b s h g w=.str x)\/∃m,dw b s h g w=nW m:=by
 cases w with
 | none=>exact absurd ⟨he,rfl⟩ (D _)
 | some p =>
  unfold dw;dsimp only
  by_cases p0:(cur g).getD p 0=0
  ·by_cases fr:fI b (cur g) (hnd h g.done.length) p
   ·rw[if_pos p0,if_pos fr];cases hm:dW s h g (lS b (cur g) (hnd h g.done.length) p) with
    | none=>exact absurd ⟨he,hw p rfl,p0,fr,hm,rfl⟩ (D _)
    | some m=>exact .inr ⟨m,rfl⟩
   ·rw[if_pos p0,if_neg fr];exact .inl ⟨_,rfl⟩
  ·rw[if_neg p0];exact .inl ⟨_,rfl⟩
end
section
variable {l:Ce} {s:Bool} {h:Int} {g:Gm}
theorem Hd(fu:Nat)(G:GC c k b s h g)(O:dO b g):d_i fu [.cel k] c=some (.ok (.lst (g.past.map wS)) c):=by
 have hz:(1000:Nat)<sizeLine:=by decide
 have lim:=O.lim;have n1:=O.n1;unfold d_i;refine dD [some (.cel k)] rfl ?_;exact bL (w:=.lst (g.past.map wS)) (ce':=c) (cJ (ws:=[.cel (k+1)]) (aK (fR (ax rfl) G.i rfl) aM) (by rw[pC (gf G.p)];exact ir (by rw[length_map];omega))) (dR (by simp only[aV];exact sI _ _))
theorem Gz(fu:Nat)(G:GC c k b s h g)(O:dO b g):d_o fu [.cel k] c=some (.ok (.lst (g.done.map oW)) c):=by
 have hz:(1000:Nat)<sizeLine:=by decide
 have lim:=O.lim;unfold d_o;refine dD [some (.cel k)] rfl ?_;exact bL (w:=.lst (g.done.map oW)) (ce':=c) (cJ (ws:=[.cel (k+2)]) (aK (fR (ax rfl) G.i rfl) aM) (by rw[pC (gf G.d)];exact ir (by rw[length_map];omega))) (dR (by simp only[aV];exact mO _ _))
end
section
variable {l:Ce} {s:Bool} {h:Int} {g g1 g2:Gm} {w:Option Nat} {is0:List Int}
theorem bF.done(D:bF b s h g w g'):g'.done=g.done++[w]:=by
 cases w with
 | none=>rw[D.2];rfl
 | some p=>rw[D.2.2.2.2.2];rfl
theorem bF.uniq(D1:bF b s h g w g1)(D2:bF b s' h g w g2):g1=g2:=by
 cases w with
 | none=>exact D1.2.trans D2.2.symm
 | some p=>exact D1.2.2.2.2.2.trans D2.2.2.2.2.2.symm
theorem bF.lt(D:bF b s h g w g'):∀p,w=some p->p<b.length:=fun p e=>by subst e;exact D.2.1
def gu(b:List (List Nat))(s:Bool)(h:Int)(k:Nat)(g:Gm):Ce:=[.ins "Game" (ou b s h k),.lst (g.past.map wS),.lst (g.done.map oW),.lst (g.tk.map nW)]
theorem fg(c l:Ce)(j:Nat):(c++l)[c.length+j]?=l[j]?:=by rw[getElem?_append_right (by omega)];congr 1;omega
theorem qZ:GC (c++gu b s h c.length g) c.length b s h g:=⟨fg c _ 0,fg c _ 1,fg c _ 2,fg c _ 3⟩
theorem xY(g':Gm):cD (c++gu b s h c.length g) c.length g'=c++gu b s h c.length g':=by unfold cD gu;rw[set_append_right _ _ (by omega),set_append_right _ _ (by omega),set_append_right _ _ (by omega),show c.length+1-c.length=1 by omega,show c.length+2-c.length=2 by omega,show c.length+3-c.length=3 by omega];rfl
inductive Cn (b:List (List Nat)) (s:Bool) (h:Int) (is0:List Int):Gm->Prop
 | zero:Cn b s h is0 (gr is0)
 | step {g g':Gm} {w:Option Nat} (C:Cn b s h is0 g) (D:bF b s h g w g'):Cn b s h is0 g'
theorem Cn.ok(N:bZ b)(S:bD b is0)(h12:h=1\/h=2)(C:Cn b s h is0 g):dO b g:=by
 induction C with
 | zero=>exact Aq S
 | step C D ih=>exact D.ok ih N h12
theorem Cn.uniq(C1:Cn b s h is0 g1):∀{g2},Cn b s h is0 g2->g1.done=g2.done->g1=g2:=by
 induction C1 with
 | zero =>
  intro g2 C2 e;cases C2 with
  | zero=>rfl
  | step C D=>rw[D.done] at e;simp[gr] at e
 | step C D ih =>
  intro g2 C2 e;cases C2 with
  | zero=>rw[D.done] at e;simp[gr] at e
  | step C2 D2 =>
   rw[D.done,D2.done] at e;obtain⟨e1,e2⟩:=append_inj' e rfl;have:=ih C2 e1;subst this;injection e2 with e2;subst e2;exact D.uniq D2
theorem Cn.pref(C:Cn b s h is0 g):∀{d w r},g.done=d++w::r->∃g1 g2,Cn b s h is0 g1/\g1.done=d/\bF b s h g1 w g2:=by
 induction C with
 | zero=>intro d w r e;simp[gr] at e
 | @step g g' w0 C D ih =>
  intro d w r e;rw[D.done] at e;rcases eq_nil_or_concat r with rfl|⟨r',x,rfl⟩
  ·obtain⟨e1,e2⟩:=append_inj' e rfl;injection e2 with e2;subst e2;exact⟨g,g',C,e1,D⟩
  ·rw[concat_eq_append,<- cons_append,<- append_assoc] at e;obtain⟨e1,e2⟩:=append_inj' e rfl;exact ih e1
def cC(b:List (List Nat)):List Int:=b.map fun _=>0
theorem wI(fu:Nat)(hfu:200<=fu)(N:bZ b)(h12:h=1\/h=2)(Z:Cn b s h (cC b) g){ds:W}(hs:ds=.lst (g.done.map oW)\/∃j,ds=.cel j/\c[j]?=some (.lst (g.done.map oW))) :
  d_u fu [wB b,.str (rl s),.int h,ds] c=some (.ok (.cel c.length) (c++gu b s h c.length g)):=by
 have hz:=fy;have B:=N.B;have h36:=B.h36;have S:=oF b;have hbz:b.length<=sizeLine:=by omega
 have gi:d_d fu [.cel c.length,wB b,.str (rl s),wS (cC b),.int h] (c++[C.ins "Game" []])=some (.ok .non (c++ox b s h c.length (cC b))):=CZ fu (fun c=>BP fu S.hl B.h36 S.v c) (fun c=>C6 fu hfu N S c);have body:∀(d:List (Option Nat)) (w:Option Nat) (r:List (Option Nat)) (sl:Sl) (c':Ce),d++w::r=g.done->w∈g.done->(∃x5 g1,sl=[some (wB b),some (.str (rl s)),some (.int h),some ds,some (.cel c.length),x5]/\Cn b s h (cC b) g1/\g1.done=d/\c'=c++gu b s h c.length g1) ->
   Run (tX fu) (sl.set 5 (some (oW w))) c' (Nx fun sl c'=>∃x5 g1,sl=[some (wB b),some (.str (rl s)),some (.int h),some ds,some (.cel c.length),x5]/\Cn b s h (cC b) g1/\g1.done=d++[w]/\c'=c++gu b s h c.length g1):=by
  rintro d w r sl c' e _ ⟨x5,g1,rfl,C1,hd1,rfl⟩;obtain⟨g3,g4,C3,e3,D⟩:=Z.pref e.symm;obtain rfl:=C1.uniq C3 (hd1.trans e3.symm);have O1:=C1.ok N S h12;have G:=qZ (c:=c) (b:=b) (s:=s) (h:=h) (g:=g1);unfold tX;refine aS ?_;rcases C0 fu hfu N G O1 h12 D.lt with ⟨g5,D2,f5⟩|⟨D2,_⟩
  ·rw[xY] at f5;refine mB (eR (ws:=[oW w]) (ax rfl) G.i rfl (aK (ax rfl) aM) rfl f5) ?_;exact⟨_,g5,rfl,C1.step D2,by rw[D2.done,hd1],rfl⟩
  ·exact absurd D (D2 g4)
 have fin:∀(sl:Sl) (c':Ce),(∃x5 g1,sl=[some (wB b),some (.str (rl s)),some (.int h),some ds,some (.cel c.length),x5]/\Cn b s h (cC b) g1/\g1.done=g.done/\c'=c++gu b s h c.length g1)->Run (aY (aa 4)) sl c' (Rt fun w c'=>kG c c' w=some (.ok (.cel c.length) (c++gu b s h c.length g))):=by rintro sl c' ⟨x5,g1,rfl,C1,hd1,rfl⟩;obtain rfl:=C1.uniq Z hd1;exact bL (w:=.cel c.length) (ax rfl) (iq rfl)
 unfold d_u;refine dD [some (wB b),some (.str (rl s)),some (.int h),some ds,none,none] rfl ?_;refine ba (w:=.cel c.length) (ce':=c++ox b s h c.length (cC b)) (Ex (ws:=[wB b,.str (rl s),wS (cC b),.int h]) (c1:=c) (aK (ax rfl) (aK (ax rfl) (aK (cJ (aK (qN (zs:=b) (en:=wT) (f:=fun _=>0) (nA (ax rfl)).is hbz (fun x hx=>aU)) aM) (qL (by rw[length_map];exact hbz))) (aK (ax rfl) aM)))) rfl gi) ?_;refine aS ?_;rcases hs with rfl|⟨j,rfl,hj⟩
 ·exact iN (zs:=g.done) (en:=oW) (c1:=c++ox b s h c.length (cC b)) (kg (xs:=g.done.map oW) (ax rfl)) (fun d sl c'=>∃x5 g1,sl=[some (wB b),some (.str (rl s)),some (.int h),some (.lst (g.done.map oW)),some (.cel c.length),x5]/\Cn b s h (cC b) g1/\g1.done=d/\c'=c++gu b s h c.length g1) ⟨_,gr (cC b),rfl,.zero,rfl,rfl⟩ body fin
 ·exact FR (zs:=g.done) (en:=oW) (c1:=c++ox b s h c.length (cC b)) (k:=j) (ax rfl) (by rw[getElem?_append_left (ib hj)];exact hj) (fun d sl c'=>∃x5 g1,sl=[some (wB b),some (.str (rl s)),some (.int h),some (.cel j),some (.cel c.length),x5]/\Cn b s h (cC b) g1/\g1.done=d/\c'=c++gu b s h c.length g1) ⟨_,gr (cC b),rfl,.zero,rfl,rfl⟩
   (fun d sl c' ⟨x5,g1,_,_,_,e⟩=>by subst e;rw[getElem?_append_left (ib hj)];exact hj) body fin
end
section
variable {l:Ce} {s:Bool} {h:Int} {g:Gm} {w:Option Nat} {is:List Int}
theorem mM{x y v:W}(hx:drf c x=v)(hy:drf c y=v)(hc:aX 8 v=true)(ng:Bool):bo ng c x y=some (.bl (!ng)):=by unfold bo;rw[hx,hy,hc,yn 8 hc];cases ng<;>rfl
theorem wH{x:W}{l:List (Option Nat)}(hx:drf c x=.lst (l.map oW))(ng:Bool):bo ng c x (.lst [])=some (.bl (if ng then !decide (l=[]) else decide (l=[]))):=by
 have h1:aX 8 (.lst (l.map oW))=true:=yQ 7 l;have h2:aX 8 (W.lst [])=true:=rfl;unfold bo;rw[hx,show drf c (.lst [])=.lst [] from rfl,h1,h2];cases l with
 | nil=>cases ng<;>rfl
 | cons a r=>cases ng<;>rfl
theorem CU(fu:Nat)(O:dO b g){a:Sl->M W}(ha:a sl c=some (.ok mo c))(hm:a_ c mo (fi h g)):cK aQ [] (dG a) cZ (aE aB (aa 0) (dC (.int 0))) sl c=some (.ok (.lst (g.past.map wS)) c):=by
 have hz:(1000:Nat)<sizeLine:=by decide
 have n1:=O.n1;have lim:=O.lim;have:=m8 (js:=[]) (zs:=List.range g.past.length) (en:=j4 h g) (g:=fun m=>wS (g.past.getD m [])) (e:=aE aB (aa 0) (dC (.int 0))) (oX ha hm) (by rw[length_range];omega) (fun m _=>bG (ax rfl) aU (gz (xs:=[wS (g.past.getD m []),.int (hnd h m)]) (j:=0) rfl rfl));rw[this];congr 3;apply ext_getElem?;intro i
 by_cases hi:i<g.past.length
 ·rw[getElem?_map,getElem?_map,getElem?_range hi,getElem?_eq_getElem hi];simp only[map_some,getD_eq_getElem?_getD,getElem?_eq_getElem hi,getD_some]
 ·rw[getElem?_eq_none (by simp;omega),getElem?_eq_none (by simp;omega)]
structure St (c:Ce) (b:List (List Nat)) (s:Bool) (h:Int) (g:Gm):Prop where
 mo:c[1]?=some (.lst (fi h g))
 ds:c[2]?=some (.lst (g.done.map oW))
 gc:GC c 3 b s h g
 len:c.length=7
open Classical in
def opQ(b:List (List Nat))(s:Bool)(h:Int)(g:Gm)(p:Nat):Bool:=decide (∃g',bF b s h g (some p) g')
open Classical in
theorem u6(z:opQ b s h g p=true):∃g',bF b s h g (some p) g':=of_decide_eq_true z
open Classical in
theorem Au(z:opQ b s h g p=false):¬∃g',bF b s h g (some p) g':=of_decide_eq_false z
open Classical in
theorem CT(he:ended g=false)(hp:p<b.length):i_ [dw b s h g (some p),.ty "tuple"] c=some (.ok (.bl (opQ b s h g p)) c):=by
 by_cases D:∃g',bF b s h g (some p) g'
 ·obtain⟨g',D'⟩:=D;obtain⟨t,ed,_⟩:=xZ D';rw[ed,show opQ b s h g p=true from decide_eq_true ⟨g',D'⟩];rfl
 ·rw[show opQ b s h g p=false from decide_eq_false D];rcases wJ (fun g' D'=>D ⟨g',D'⟩) he (fun q hq=>by cases hq;exact hp) with ⟨x,e⟩|⟨m,e⟩<;>rw[e]<;>rfl
def jK(g:Gm):Bool:=decide (g.done.getLast?=some none)
def dX(b:List (List Nat))(s:Bool)(h:Int)(g:Gm):List (Option Nat):=((List.range b.length).filter (opQ b s h g)).map some++(if jK g=true then [] else [none])
theorem Gw(he:ended g=false)(hw:w∈dX b s h g):∃g',bF b s h g w g':=by
 rcases mem_append.mp hw with q|q
 ·obtain⟨p,hp,rfl⟩:=mem_map.mp q;exact u6 (mem_filter.mp hp).2
 ·split at q
  ·cases q
  ·rw[mem_singleton.mp q];exact⟨_,he,rfl⟩
theorem ED(hl:g.done.length<200)(he:ended g=false)(hw:w∈dX b s h g)(D:bF b s h g w g'):ended g'=false:=by
 have ed:=D.done;unfold ended passed;rw[ed];have h1:¬300<=(g.done++[w]).length:=by rw[length_append];simp only[length_cons,length_nil];omega
 rw[decide_eq_false h1,Bool.or_false,decide_eq_false_iff_not];intro e;rcases eq_nil_or_concat g.done with q|⟨l,x,q⟩
 ·rw[q] at e;cases w<;>simp at e
 ·rw[q,concat_eq_append] at e;have e2:(l++[x]++[w]).drop ((l++[x]++[w]).length-2)=[x,w]:=by rw[append_assoc,drop_append_of_le_length (by simp),drop_of_length_le (by simp)];rfl
  rw[e2] at e;injection e with e3 e4;injection e4 with e4;subst e3 e4;have hn:jK g=true:=by unfold jK;rw[q,concat_eq_append];simp
  rcases mem_append.mp hw with z|z
  ·obtain⟨p,_,e⟩:=mem_map.mp z;cases e
  ·rw[if_pos hn] at z;cases z
theorem EC(fu:Nat)(hfu:200<=fu)(N:bZ b)(h12:h=1\/h=2)(T:St c b s h g)(Z:Cn b s h (cC b) g)(he:ended g=false) :
  d_b fu [wB b,.str (rl s),.int h,.cel 1,.cel 2,.cel 3] c=some (.ok (.cel c.length) (c++[.lst ((dX b s h g).map oW)])):=by
 have hz:(1000:Nat)<sizeLine:=by decide
 have h36:=N.B.h36;have l7:=T.len;have O:=Z.ok N (oF b) h12;have lim:=O.lim;have m1:∀l:Ce,(c++l)[1]?=some (.lst (fi h g)):=fun l=>by rw[getElem?_append_left (by omega)];exact T.mo
 have m2:∀l:Ce,(c++l)[2]?=some (.lst (g.done.map oW)):=fun l=>by rw[getElem?_append_left (by omega)];exact T.ds
 have at7:∀(x:C) (l:Ce),(c++x::l)[7]?=some x:=fun x l=>by rw[getElem?_append_right (by omega),l7];rfl
 have set7:∀(x y:C) (l:Ce),(c++x::l).set 7 y=c++y::l:=fun x y l=>by rw[set_append_right _ _ (by omega),l7];rfl
 unfold d_b;refine dD [some (wB b),some (.str (rl s)),some (.int h),some (.cel 1),some (.cel 2),some (.cel 3),none,none,none] rfl ?_;refine ba (w:=.cel 7) (ce':=c++[.lst []]) (by
  have:=iO (sl:=[some (wB b),some (.str (rl s)),some (.int h),some (.cel 1),some (.cel 2),some (.cel 3),none,none,none]) (ce:=c) aM (zero_le _);rw[this,l7]) ?_
 refine aS ?_;refine iN (zs:=List.range b.length) (en:=nW) (c1:=c++[.lst []]) (iL (n:=b.length) (aK (cJ (ws:=[wB b]) (by trivial) xa) aM) (by omega))
  (fun d sl c'=>∃x7 x8 l,sl=[some (wB b),some (.str (rl s)),some (.int h),some (.cel 1),some (.cel 2),some (.cel 3),some (.cel 7),x7,x8]/\c'=c++.lst ((d.filter (opQ b s h g)).map nW)::l)
  ⟨_,_,[],rfl,rfl⟩ ?_ ?_
 ·rintro d p r sl c' e hm ⟨x7,x8,l,rfl,rfl⟩;have hp:p<b.length:=mem_range.mp hm;have dl:d.length<=36:=by have:=congrArg List.length e;rw[length_range,length_append] at this;omega
  have fl:=length_filter_le (opQ b s h g) d;have hw:∀q,some p=some q->q<b.length:=fun q hq=>by cases hq;exact hp
  unfold zS;refine aS ?_;have f1:=vN (c:=c++.lst ((d.filter (opQ b s h g)).map nW)::l) (s:=s) (w:=some p) fu hfu N O h12 (mo:=.cel 1) (gf (m1 _)) hw;refine ba (w:=dw b s h g (some p)) (ce':=c++.lst ((d.filter (opQ b s h g)).map nW)::l) (dj (ws:=[wB b,.str (rl s),.cel 1,nW p]) (by trivial) rfl f1) ?_;refine aS ?_;refine fS (p:=opQ b s h g p) (ce':=c++.lst ((d.filter (opQ b s h g)).map nW)::l) (bN (cJ (ws:=[dw b s h g (some p),.ty "tuple"]) (by trivial) (CT he hp))) (fun z=>?_) (fun z=>?_)
  ·have a1:=ki (y:=nW p) (at7 (.lst ((d.filter (opQ b s h g)).map nW)) l) (by rw[length_map];omega);rw[set7] at a1;refine kj (h_ (ws:=[nW p]) (ax rfl) (fC (at7 _ _)) (aK (ax rfl) aM) a1) ?_;have ef:(d.filter (opQ b s h g)).map nW++[nW p]=((d++[p]).filter (opQ b s h g)).map nW:=by rw[filter_append,filter_cons,if_pos z,map_append];rfl
   rw[ef];have f2:=wI (c:=c++.lst (((d++[p]).filter (opQ b s h g)).map nW)::l) (ds:=.cel 2) fu hfu N h12 Z (.inr ⟨2,rfl,m2 _⟩);have G2:=qZ (c:=c++.lst (((d++[p]).filter (opQ b s h g)).map nW)::l) (b:=b) (s:=s) (h:=h) (g:=g);obtain⟨g1,D1⟩:=u6 z;rcases su fu hfu N G2 O h12 hw with ⟨g2,D2,f3⟩|⟨D2,_⟩
   ·rw[xY] at f3;have q1:∀cc:Ce,bo true cc (.str "done") (.str "done")=some (.bl (!true)):=fun cc=>mM (v:=.str "done") rfl rfl rfl true;refine fS (p:=!true) (bN (bG (dj (ws:=[.cel (c++.lst (((d++[p]).filter (opQ b s h g)).map nW)::l).length,nW p]) (aK (dj (ws:=[wB b,.str (rl s),.int h,.cel 2]) (by trivial) rfl f2) (aK (ax rfl) aM)) rfl f3) aU (q1 _))) (fun z=>by cases z) (fun _=>iA ?_);exact⟨_,_,_,rfl,by rw[append_assoc];rfl⟩
   ·exact absurd D1 (D2 g1)
  ·have nd:∀g',¬bF b s h g (some p) g':=fun g' D=>Au z ⟨g',D⟩;have G3:=T.gc.app (.lst ((d.filter (opQ b s h g)).map nW)::l);have er:kF b s h g (some p)=dw b s h g (some p):=by unfold kF;rw[if_neg (by rw[he];simp)]
   rcases su fu hfu N G3 O h12 hw with ⟨g2,D2,_⟩|⟨_,f3⟩
   ·exact absurd D2 (nd g2)
   ·rw[er] at f3;have m3:=m1 (.lst ((d.filter (opQ b s h g)).map nW)::l);have ef:d.filter (opQ b s h g)=(d++[p]).filter (opQ b s h g):=by rw[filter_append,filter_cons,if_neg (by rw[z];simp),filter_nil,append_nil]
    have eq:bo true (c++.lst ((d.filter (opQ b s h g)).map nW)::l) (dw b s h g (some p)) (dw b s h g (some p))=some (.bl (!true)):=by rcases wJ nd he hw with ⟨x,e⟩|⟨m,e⟩<;>rw[e]<;>exact mM rfl rfl rfl true
    have eg:∃l',c++.lst ((d.filter (opQ b s h g)).map nW)::l=c++.lst (((d++[p]).filter (opQ b s h g)).map nW)::l':=⟨l,by rw[ef]⟩
    generalize c++.lst ((d.filter (opQ b s h g)).map nW)::l=c3 at f3 m3 eq G3 eg;have j1:aB c3 (.cel 1) (.int (-1))=some (.tup [wS (cur g),.int (hnd h g.done.length)]):=tm (gf m3) O;have j0:aB c3 (.tup [wS (cur g),.int (hnd h g.done.length)]) (.int 0)=some (wS (cur g)):=gz (xs:=[wS (cur g),.int (hnd h g.done.length)]) (j:=0) rfl rfl;have q2:bo true c3 (wS (cur g)) (wS (cur g))=some (.bl (!true)):=mM (v:=wS (cur g)) rfl rfl (n5 _ 7) true;generalize dw b s h g (some p)=v at f3 eq;refine fS (p:=!true||!true) (ce':=c3) (mz (bN (bG (dj (ws:=[.cel 3,nW p]) (by trivial) rfl f3) (ax rfl) eq)) (fun _=>bN (bG (eR (ws:=[]) (ax rfl) G3.i rfl aM rfl (pX fu G3 O)) (bG (bG (ax rfl) (dY aU rfl) j1) aU j0) q2))) (fun z=>by cases z) (fun _=>iA ?_);obtain⟨l',el⟩:=eg;exact⟨_,_,l',rfl,el⟩
 ·rintro sl c' ⟨x7,x8,l,rfl,rfl⟩;have fl:=length_filter_le (opQ b s h g) (List.range b.length);rw[length_range] at fl;have eg:∀t,(((List.range b.length).filter (opQ b s h g)).map some++t).map oW=((List.range b.length).filter (opQ b s h g)).map nW++t.map oW:=fun t=>by rw[map_append,map_map];rfl
  have q1:bo false (c++.lst (((List.range b.length).filter (opQ b s h g)).map nW)::l) (.cel 2) (.lst [])=some (.bl (decide (g.done=[]))):=wH (by simp only[drf,m2]) false;have fin:∀(x:List (Option Nat)) (l:Ce),finO c (c++.lst (x.map oW)::l) (.cel 7)=some (.ok (.cel c.length) (c++[.lst (x.map oW)])):=fun x l=>by
   have O1:Own c (c++.lst (x.map oW)::l) [(7,.lst (x.map oW))]:=⟨⟨_,rfl⟩,fun p hp=>by rw[mem_singleton.mp hp];exact at7 _ _,fun p hp=>by rw[mem_singleton.mp hp];show c.length<=7;omega,by simp⟩
   exact O1.finO (by simp only[eK];exact mO _ _)
  have app:jK g=false->Run (aq (cG (cO cM (aa 6) (ah (dC .non) ai))) (aY (aa 6))) [some (wB b),some (.str (rl s)),some (.int h),some (.cel 1),some (.cel 2),some (.cel 3),some (.cel 7),x7,x8] (c++.lst (((List.range b.length).filter (opQ b s h g)).map nW)::l) (Rt fun w c'=>finO c c' w=some (.ok (.cel c.length) (c++[.lst ((dX b s h g).map oW)]))):=fun hl=>by
   have a1:=ki (y:=.non) (at7 (.lst (((List.range b.length).filter (opQ b s h g)).map nW)) l) (by rw[length_map];omega);rw[set7] at a1;refine kj (h_ (ws:=[.non]) (ax rfl) (fC (at7 _ _)) (aK aU aM) a1) ?_;have e1:((List.range b.length).filter (opQ b s h g)).map nW++[.non]=(dX b s h g).map oW:=by unfold dX;rw[if_neg (by rw[hl];simp),eg];rfl
   rw[e1];exact bL (w:=.cel 7) (ax rfl) (iq (fin _ _))
  have skp:jK g=true->Run (aY (aa 6)) [some (wB b),some (.str (rl s)),some (.int h),some (.cel 1),some (.cel 2),some (.cel 3),some (.cel 7),x7,x8] (c++.lst (((List.range b.length).filter (opQ b s h g)).map nW)::l) (Rt fun w c'=>finO c c' w=some (.ok (.cel c.length) (c++[.lst ((dX b s h g).map oW)]))):=fun hl=>by
   have e1:((List.range b.length).filter (opQ b s h g)).map nW=(dX b s h g).map oW:=by unfold dX;rw[if_pos hl,eg,map_nil,append_nil]
   rw[e1];exact bL (w:=.cel 7) (ax rfl) (iq (fin _ _))
  have m2':=m2 (.lst (((List.range b.length).filter (opQ b s h g)).map nW)::l);rcases eq_nil_or_concat g.done with q|⟨l1,x,q⟩
  ·have hl:jK g=false:=by unfold jK;rw[q];rfl
   rw[decide_eq_true q] at q1;exact bS (p:=true||true) (ce':=c++.lst (((List.range b.length).filter (opQ b s h g)).map nW)::l) (mz (bN (bG (ax rfl) (e9 aM (zero_le _)) q1)) (fun z=>by cases z)) (fun _=>app hl) (fun z=>by cases z)
  ·rw[concat_eq_append] at q;rw[decide_eq_false (by rw[q];simp)] at q1;have j1:aB (c++.lst (((List.range b.length).filter (opQ b s h g)).map nW)::l) (.cel 2) (.int (-1))=some (oW x):=by rw[sx (gf m2') (by rw[q];simp),q];simp
   refine bS (p:=false||!fH (oW x)) (ce':=c++.lst (((List.range b.length).filter (opQ b s h g)).map nW)::l) (mz (bN (bG (ax rfl) (e9 aM (zero_le _)) q1)) (fun _=>bN (dY (bG (ax rfl) (dY aU rfl) j1) rfl))) (fun z=>app ?_) (fun z=>du (skp ?_))
   ·cases x with
    | none=>cases z
    | some m=>unfold jK;rw[q];simp
   ·cases x with
    | none=>unfold jK;rw[q];simp
    | some m=>cases z
end
theorem u5{ys:List Int}{i:Int}(hc:c[0]?=some (.lst (ys.map W.int)))(hp:p<ys.length)(ei:i=(p:Int)):aB c (.cel 0) (.int i)=some (.int (ys.getD p 0)):=by subst ei;have:=ji (j:=p) (gf hc);rw[getElem?_map,getElem?_eq_getElem hp] at this;rw[getD_eq_getElem?_getD,getElem?_eq_getElem hp];exact this
theorem Gv{xs:List Int}{v i j e:Int}{d3:Sl->M W}(h0:sl[0]?=some (some (sW ns)))(h1:sl[1]?=some (some (.cel 0)))(hc:ce[0]?=some (.lst (xs.map W.int)))(hn:ns.length<=63)(hx:xs.length<=1000)(h3:d3 sl ce=some (.ok (.int v) ce)) :
  ∃cs:List Int,eV aQ (fN aQ (eV aQ (aa 0) (dP (dC (.int i))) (dP (dC (.int j)))) (eV aQ (aa 1) (dP (dC (.int e))) ft)) ft (dP d3) sl ce=some (.ok (sW cs) ce)/\cs.length<=ns.length+xs.length:=by
 have hz:3000<sizeLine:=by decide
 obtain⟨a,e1,l1,_⟩:=tj ns (some i) (some j);obtain⟨b,e2,l2,_⟩:=tj xs (some e) none;have v0:aa 0 sl ce=some (.ok (sW ns) ce):=ax h0;have v1:aa 1 sl ce=some (.ok (.cel 0) ce):=ax h1;have s1:eV aQ (aa 0) (dP (dC (.int i))) (dP (dC (.int j))) sl ce=some (.ok (sW a) ce):=by have:=pG (sl:=sl) (ce:=ce) (a:=aa 0) (xs:=ns.map W.int) v0 (k7 (aU (w:=.int i))) (k7 (aU (w:=.int j))) rfl (by rw[length_map];omega);rw[e1] at this;exact this
 have s2:eV aQ (aa 1) (dP (dC (.int e))) ft sl ce=some (.ok (sW b) ce):=by have:=pG (sl:=sl) (ce:=ce) (a:=aa 1) (xs:=xs.map W.int) (dh:=ft) (hi:=none) v1 (k7 (aU (w:=.int e))) rfl (fC hc) (by rw[length_map];omega);rw[e2] at this;exact this
 have s3:=kY s1 s2 (xs:=a.map W.int) (ys:=b.map W.int) rfl rfl (by rw[length_map,length_map];omega);rw[<- map_append] at s3;obtain⟨cs,e3,l3,_⟩:=tj (a++b) none (some v);refine⟨cs,?_,by rw[length_append] at l3;omega⟩;have:=pG (dl:=ft) (lo:=none) s3 rfl (k7 h3) (xs:=(a++b).map W.int) rfl (by rw[length_map,length_append];omega);rw[e3] at this;exact this
theorem CS{R R':Sl->Ce->Prop}(h:∀sl c,R sl c->R' sl c){o:VS.O}(q:Nx R o):Nx R' o:=by
 unfold Nx at q ⊢;split at q
 ·exact h _ _ q
 ·exact h _ _ q
 ·exact q.elim
theorem CQ(hfu:200<=FU){st:Bool}{hd:Int}(N:bZ b)(h12:hd=1\/hd=2){g:Gm}(T:St c b st hd g)(Z:Cn b st hd (cC b) g)(he:ended g=false)(hl:g.done.length<200){t:Int}{y11 y12 y13:Option W} :
  Run (rQ FU) [some (sW ns),some (.cel 0),some (nW n),some (.lst (ls.map pW)),some (wB b),some (.str (rl st)),some (.int hd),some (.cel 1),some (.cel 2),some (.cel 3),some (.int t),y11,y12,y13] c
    (Nx fun sl c=>∃y10 y11 y12 y13 g',sl=[some (sW ns),some (.cel 0),some (nW n),some (.lst (ls.map pW)),some (wB b),some (.str (rl st)),some (.int hd),some (.cel 1),some (.cel 2),some (.cel 3),y10,y11,y12,y13]/\St c b st hd g'/\Cn b st hd (cC b) g'/\ended g'=false/\g'.done.length<=g.done.length+1):=by
 have z2:2<=sizeLine:=by decide
 have hz:3000<sizeLine:=by decide
 have O:=Z.ok N (oF b) h12;have n1:=O.n1;have lim:=O.lim;have f1:=jv (EC FU hfu N h12 T Z he) (mO _ _);unfold rQ;refine ba (w:=.lst ((dX b st hd g).map oW)) (ce':=c) (dj (ws:=[wB b,.str (rl st),.int hd,.cel 1,.cel 2,.cel 3]) (by trivial) rfl f1) ?_;refine aS ?_;refine bS (p:=false) (ce':=c) (bN (dY (ax rfl) rfl)) (fun z=>by cases z) (fun _=>du ?_);have q0:bo true c (.lst ((dX b st hd g).map oW)) (.lst [])=some (.bl (!decide (dX b st hd g=[]))):=wH rfl true;refine fS (p:=!decide (dX b st hd g=[])) (ce':=c) (bN (bG (ax rfl) (e9 aM (zero_le _)) q0)) (fun z=>?_) (fun _=>iA ⟨_,_,_,_,g,rfl,T,Z,he,by omega⟩);have ne:dX b st hd g≠[]:=by simpa using z
 have pos:0<(dX b st hd g).length:=length_pos_iff.mpr ne;obtain⟨j,hj,ej⟩:=wM t pos;have e2:bV (.int t) (nW (dX b st hd g).length)=some (nW j):=rP pos ej;have el:bQ [.lst ((dX b st hd g).map oW)] c=some (.ok (nW (dX b st hd g).length) c):=by simp[bQ,dg,bP];rfl
 have j3:=CY (c:=c) (ds:=dX b st hd g) hj;have hmem:(dX b st hd g).getD j none∈dX b st hd g:=by rw[getD_eq_getElem?_getD,getElem?_eq_getElem hj];exact getElem_mem hj
 obtain⟨g',D⟩:=Gw he hmem;have he':=ED hl he hmem D;generalize (dX b st hd g).getD j none=w at j3 D;refine ba (w:=oW w) (ce':=c) (bG (ax rfl) (fP (x:=.int t) (ax rfl) (cJ (ws:=[.lst ((dX b st hd g).map oW)]) (aK (ax rfl) aM) el) e2) j3) ?_;refine aS ?_;have f5:=vN (s:=st) (w:=w) FU hfu N O h12 (gf T.mo) D.lt;obtain⟨tk,ed,is1,eg⟩:=xZ D;rw[ed] at f5;have ec:cur g'=is1:=by rw[eg];unfold cur push;rw[length_append,length_cons,length_nil,show g.past.length+(0+1)-1=g.past.length by omega,tE rfl]
 rw[ec] at f5;refine ba (w:=.tup [wS is1,wL tk]) (ce':=c) (dj (ws:=[wB b,.str (rl st),.cel 1,oW w]) (by trivial) rfl f5) ?_;refine aS ?_;rcases su FU hfu N T.gc O h12 D.lt with ⟨g2,D2,f6⟩|⟨D2,_⟩
 ·obtain rfl:=D.uniq D2;have l7:(cD c 3 g').length=7:=by rw[sJ,T.len]
  have G1:=T.gc.put g';have m1:(cD c 3 g')[1]?=some (.lst (fi hd g)):=(sA (by omega) (by omega) (by omega)).trans T.mo;have d1:(cD c 3 g')[2]?=some (.lst (g.done.map oW)):=(sA (by omega) (by omega) (by omega)).trans T.ds;generalize cD c 3 g'=c1 at l7 G1 m1 d1 f6;have q1:bo true c1 (.str "done") (.str "done")=some (.bl (!true)):=mM (v:=.str "done") rfl rfl rfl true;refine bS (p:=!true) (ce':=c1) (bN (bG (dj (ws:=[.cel 3,oW w]) (by trivial) rfl f6) aU q1)) (fun z=>by cases z) (fun _=>du ?_);have em:fi hd g'=fi hd g++[.tup [wS is1,.int (3-hnd hd g.done.length)]]:=by rw[eg,GB,n1,Ax]
  have edn:g'.done.map oW=g.done.map oW++[oW w]:=by rw[D.done];simp
  have j1:aB c1 (.cel 1) (.int (-1))=some (.tup [wS (cur g),.int (hnd hd g.done.length)]):=tm (gf m1) O;have j2:aB c1 (.tup [wS (cur g),.int (hnd hd g.done.length)]) (.int 1)=some (.int (hnd hd g.done.length)):=gz (xs:=[wS (cur g),.int (hnd hd g.done.length)]) (j:=1) rfl rfl;have j0:aB c1 (.tup [wS is1,wL tk]) (.int 0)=some (wS is1):=gz (xs:=[wS is1,wL tk]) (j:=0) rfl rfl;have a1:=ki (y:=.tup [wS is1,.int (3-hnd hd g.done.length)]) m1 (by rw[pN];omega);rw[<- em] at a1;refine kj (h_ (ws:=[.tup [wS is1,.int (3-hnd hd g.done.length)]]) (ax rfl) (fC m1) (aK (jm (aK (bG (ax rfl) aU j0) (aK (fP (x:=.int 3) aU (bG (bG (ax rfl) (dY aU rfl) j1) aU j2) rfl) aM)) z2) aM) a1) ?_;have d2:(c1.set 1 (.lst (fi hd g')))[2]?=some (.lst (g.done.map oW)):=by rw[getElem?_set_ne (by omega)];exact d1
  have a2:=ki (y:=oW w) d2 (by rw[length_map];omega);rw[<- edn] at a2;refine mB (h_ (ws:=[oW w]) (ax rfl) (fC d2) (aK (ax rfl) aM) a2) ?_;refine⟨_,_,_,_,g',rfl,?_,Z.step D,he',by rw[D.done];simp⟩;have ne:∀{j:Nat},j≠1->j≠2->((c1.set 1 (.lst (fi hd g'))).set 2 (.lst (g'.done.map oW)))[j]?=c1[j]?:=fun h4 h5=>by
   rw[getElem?_set_ne (Ne.symm h5),getElem?_set_ne (Ne.symm h4)]
  refine⟨?_,?_,⟨(ne (by omega) (by omega)).trans G1.i,(ne (by omega) (by omega)).trans G1.p,(ne (by omega) (by omega)).trans G1.d,(ne (by omega) (by omega)).trans G1.t⟩,by simp[l7]⟩
  ·rw[getElem?_set_ne (by omega),getElem?_set_self (by omega)]
  ·rw[getElem?_set_self (by rw[length_set];omega)]
 ·exact absurd D (D2 g')
theorem main(ns:List Int)(_h:ns.length<=63):∃ce',d_law FU [.lst (ns.map W.int)] []=some (.ok (.bl true) ce'):=by
 have hz:=fy;have hfu:200<=FU:=by decide
 have z1:1<=sizeLine:=by decide
 have z2:2<=sizeLine:=by decide
 have hz3:3000<sizeLine:=by decide
 suffices hs:∃w c,d_law FU [.lst (ns.map W.int)] []=some (.ok w c)/\w=.bl true by
  obtain⟨w,c,e,rfl⟩:=hs;exact⟨c,e⟩
 obtain⟨xs,e1,xl,hxs⟩:=yY (ce:=[]) FU ((ns++[0]).getD 0 0) (m:=50) (by omega);have e1':d_j FU [.int ((ns++[0]).getD 0 0),.int 50] []=some (.ok (.cel 0) [.lst (xs.map W.int)]):=e1;unfold d_law;refine nr [some (sW ns),none,none,none,none,none,none,none,none,none,none,none,none,none] rfl ?_;have ec:fN aQ (aa 0) (c6 (ah (dC (.int 0)) ai)) [some (sW ns),none,none,none,none,none,none,none,none,none,none,none,none,none] []=some (.ok (sW (ns++[0])) []):=by have:=kY (sl:=[some (sW ns),none,none,none,none,none,none,none,none,none,none,none,none,none]) (ce:=[]) (a:=aa 0) (b:=c6 (ah (dC (.int 0)) ai)) (ax rfl) (e9 (ws:=[.int 0]) (by trivial) z1) (xs:=ns.map W.int) (ys:=[.int 0]) rfl rfl (by rw[length_map];show ns.length+1<=_;omega);rw[this];show _=some (R.ok (W.lst ((ns++[0]).map W.int)) []);rw[map_append];rfl
 have i0:=nP (ns:=ns++[0]) (p:=0) (by simp) [] (i:=0) rfl;refine ba (w:=.cel 0) (ce':=[.lst (xs.map W.int)]) (dj (ws:=[.int ((ns++[0]).getD 0 0),.int 50]) (aK (bG ec aU i0) (by trivial)) rfl e1') ?_;refine aS ?_;have k0:aB [.lst (xs.map W.int)] (.cel 0) (.int 0)=some (.int (xs.getD 0 0)):=u5 rfl (by omega) rfl;refine xN (w:=.int (xs.getD 0 0 % 6)) (k:=0) (ij:=0) (j:=0) (c1:=[.lst (xs.map W.int)]) (c2:=[.lst (xs.map W.int)]) (c3:=[.lst (xs.map W.int)]) (xs:=xs.map W.int) (fP (x:=.int (xs.getD 0 0)) (bG (ax rfl) aU k0) aU (kX (by omega))) (ax rfl) aU rfl (pq (j:=0) (by rw[length_map];omega)) ?_;have ey:∃ys:List Int,ys.length=50/\(∀y∈ys,0<=y/\y<2147483647)/\([C.lst (xs.map W.int)]:Ce).set 0 (.lst ((xs.map W.int).set 0 (.int (xs.getD 0 0 % 6))))=[.lst (ys.map W.int)]:=by
  refine⟨xs.set 0 (xs.getD 0 0 % 6),by rw[length_set];exact xl,fun y hy=>?_,by rw[map_set];rfl⟩;rcases mem_or_eq_of_mem_set hy with q|q
  ·exact hxs y q
  ·omega
 obtain⟨ys,yl,hys,ey⟩:=ey;rw[ey];have ix:∀{c:Ce} {p:Nat} {i:Int},c[0]?=some (.lst (ys.map W.int))->p<50->i=(p:Int)->aB c (.cel 0) (.int i)=some (.int (ys.getD p 0)):=fun hc hp ei=>u5 hc (by omega) ei;have hy0:∀p,p<50->0<=ys.getD p 0/\ys.getD p 0<2147483647:=fun p hp=>hys _ (by rw[getD_eq_getElem?_getD,getElem?_eq_getElem (by omega)];exact getElem_mem _);obtain⟨n,ls,e2,n0,n36,L⟩:=FY (ce:=[.lst (ys.map W.int)]) FU (xs:=[ys.getD 0 0,1+ys.getD 1 0 % 3]++ys.drop 2) (by rw[length_append,length_drop];simp only[length_cons,length_nil];omega) (fun x hx=>by
  rcases mem_append.mp hx with q|q
  ·have a:=hy0 0 (by omega);simp only[mem_cons,not_mem_nil,or_false] at q;rcases q with rfl|rfl
   ·exact a
   ·omega
  ·exact hys x (mem_of_mem_drop q))
 have e3:=Gj (ce:=[.lst (ys.map W.int)]) FU n0 n36 L;have B:=Dc L n0 n36;have N:bZ (fV n ls):=⟨B,C8 L⟩
 have bl:(fV n ls).length=n:=by simp[fV]
 generalize fV n ls=b at e3 B N bl;have es:=BW (sl:=[some (sW ns),some (.cel 0),none,none,none,none,none,none,none,none,none,none,none,none]) (ce:=[.lst (ys.map W.int)]) (n:=2) (i:=2) (xs:=ys.map W.int) (ax (i:=1) rfl) (fC rfl) rfl (by rw[length_map];omega) (by rw[length_map];omega);have ea:=kY (a:=c6 (ah (aE aB (aa 1) (dC (.int 0))) (ah (aJ c7 (dC (.int 1)) (aJ bV (aE aB (aa 1) (dC (.int 1))) (dC (.int 3)))) ai))) (sl:=[some (sW ns),some (.cel 0),none,none,none,none,none,none,none,none,none,none,none,none]) (ce:=[.lst (ys.map W.int)]) (e9 (ws:=[.int (ys.getD 0 0),.int (1+ys.getD 1 0 % 3)]) (aK (bG (ax rfl) aU (ix rfl (by omega) rfl)) (aK (fP (x:=.int 1) aU (fP (bG (ax rfl) aU (ix rfl (p:=1) (by omega) rfl)) aU (kX (by omega))) rfl) aM)) z2) es (xs:=[.int (ys.getD 0 0),.int (1+ys.getD 1 0 % 3)]) (ys:=(ys.map W.int).drop 2) rfl rfl (by rw[length_drop,length_map];simp only[length_cons,length_nil];omega);rw[show([.int (ys.getD 0 0),.int (1+ys.getD 1 0 % 3)]:List W)++(ys.map W.int).drop 2=([ys.getD 0 0,1+ys.getD 1 0 % 3]++ys.drop 2).map W.int by rw[map_append,map_drop];rfl] at ea;refine xM (x:=nW n) (y:=.lst (ls.map pW)) (c1:=[.lst (ys.map W.int)]) (dj (ws:=[sW ([ys.getD 0 0,1+ys.getD 1 0 % 3]++ys.drop 2)]) (aK ea aM) rfl e2) ?_;refine(?_:Run _ [some (sW ns),some (.cel 0),some (nW n),some (.lst (ls.map pW)),none,none,none,none,none,none,none,none,none,none] [.lst (ys.map W.int)] _);refine ba (w:=wB b) (ce':=[.lst (ys.map W.int)]) (dj (ws:=[nW n,.lst (ls.map pW)]) (by trivial) rfl e3) ?_;refine aS ?_;have i3:aB [.lst (ys.map W.int)] (.cel 0) (.int 3)=some (.int (ys.getD 3 0)):=ix rfl (by omega) rfl;have i5:aB [.lst (ys.map W.int)] (.cel 0) (.int 5)=some (.int (ys.getD 5 0)):=ix rfl (by omega) rfl;obtain⟨st,hst⟩:∃st:Bool,aB [.lst (ys.map W.int)] (.lst [.str "stones",.str "turns"]) (.int (ys.getD 3 0 % 2))=some (.str (rl st)):=by
  have:ys.getD 3 0 % 2=0\/ys.getD 3 0 % 2=1:=by omega
  rcases this with h|h
  ·rw[h];exact⟨true,gz (xs:=[.str "stones",.str "turns"]) (j:=0) rfl rfl⟩
  ·rw[h];exact⟨false,gz (xs:=[.str "stones",.str "turns"]) (j:=1) rfl rfl⟩
 refine ba (w:=.str (rl st)) (ce':=[.lst (ys.map W.int)]) (bG (e9 (ws:=[.str "stones",.str "turns"]) (by trivial) z2) (fP (bG (ax rfl) aU i3) aU (kX (by omega))) hst) ?_;refine aS ?_;have h12:1+ys.getD 5 0 % 2=1\/1+ys.getD 5 0 % 2=2:=by omega
 refine ba (w:=.int (1+ys.getD 5 0 % 2)) (ce':=[.lst (ys.map W.int)]) (fP (x:=.int 1) aU (fP (bG (ax rfl) aU i5) aU (kX (by omega))) rfl) ?_;refine aS ?_;generalize 1+ys.getD 5 0 % 2=hd at h12;have h36:=N.B.h36;have hbz:b.length<=sizeLine:=by omega
 refine ba (w:=.cel 1) (ce':=[.lst (ys.map W.int),.lst [.tup [wS (cC b),.int hd]]]) (iO (ws:=[.tup [wS (cC b),.int hd]]) (aK (jm (aK (cJ (aK (qN (zs:=b) (en:=wT) (f:=fun _=>0) (nA (ax rfl)).is hbz (fun x hx=>aU)) aM) (qL (by rw[length_map];exact hbz))) (aK (ax rfl) aM)) z2) aM) z1) ?_;refine aS ?_;refine ba (w:=.cel 2) (ce':=[.lst (ys.map W.int),.lst [.tup [wS (cC b),.int hd]],.lst []]) (iO aM (zero_le _)) ?_;refine aS ?_;have f0:=wI (c:=[.lst (ys.map W.int),.lst [.tup [wS (cC b),.int hd]],.lst []]) (s:=st) (g:=gr (cC b)) (ds:=.lst []) FU hfu N h12 .zero (.inl rfl);have T0:St ([C.lst (ys.map W.int),.lst [.tup [wS (cC b),.int hd]],.lst []]++gu b st hd 3 (gr (cC b))) b st hd (gr (cC b)):=⟨rfl,rfl,qZ (c:=[C.lst (ys.map W.int),.lst [.tup [wS (cC b),.int hd]],.lst []]),rfl⟩
 have c00:([C.lst (ys.map W.int),.lst [.tup [wS (cC b),.int hd]],.lst []]++gu b st hd 3 (gr (cC b)))[0]?=some (.lst (ys.map W.int)):=rfl;refine ba (w:=.cel 3) (ce':=[C.lst (ys.map W.int),.lst [.tup [wS (cC b),.int hd]],.lst []]++gu b st hd 3 (gr (cC b))) (dj (ws:=[wB b,.str (rl st),.int hd,.lst []]) (aK (ax rfl) (aK (ax rfl) (aK (ax rfl) (aK (e9 aM (zero_le _)) aM)))) rfl f0) ?_;refine aS ?_;generalize [C.lst (ys.map W.int),.lst [.tup [wS (cC b),.int hd]],.lst []]++gu b st hd 3 (gr (cC b))=c0 at T0 c00;obtain⟨ds,e6,hdl⟩:=Gv (ce:=c0) (ns:=ns) (xs:=ys) (v:=ys.getD 4 0 % 27) (i:=1) (j:=27) (e:=8) (sl:=[some (sW ns),some (.cel 0),some (nW n),some (.lst (ls.map pW)),some (wB b),some (.str (rl st)),some (.int hd),some (.cel 1),some (.cel 2),some (.cel 3),none,none,none,none]) (d3:=aJ bV (aE aB (aa 1) (dC (.int 4))) (dC (.int 27))) rfl rfl c00 (by omega) (by omega) (fP (bG (ax rfl) aU (ix c00 (p:=4) (by omega) rfl)) aU (kX (by omega)));refine iN (zs:=ds) (en:=W.int) (c1:=c0) (kg (xs:=ds.map W.int) e6)
  (fun d sl c=>∃y10 y11 y12 y13 g,sl=[some (sW ns),some (.cel 0),some (nW n),some (.lst (ls.map pW)),some (wB b),some (.str (rl st)),some (.int hd),some (.cel 1),some (.cel 2),some (.cel 3),y10,y11,y12,y13]/\St c b st hd g/\Cn b st hd (cC b) g/\ended g=false/\g.done.length<=d.length)
  ⟨_,_,_,_,gr (cC b),rfl,T0,.zero,rfl,le_refl _⟩ ?_ ?_
 ·rintro d t r sl c e _ ⟨y10,y11,y12,y13,g,rfl,T,Z,he,hl⟩;have dl:d.length<=ds.length:=by rw[<- e,length_append];omega
  refine aS ?_;refine(CQ hfu N h12 T Z he (by omega)).mono fun o q=>CS (fun sl c z=>?_) q;obtain⟨y10,y11,y12,y13,g',h1,h2,h3,h4,h5⟩:=z;exact⟨y10,y11,y12,y13,g',h1,h2,h3,h4,by rw[length_append];simp only[length_cons,length_nil];omega⟩
 ·rintro sl c ⟨y10,y11,y12,y13,g,rfl,T,Z,he,hl⟩;have O:=Z.ok N (oF b) h12;have q1:bo false c (.lst (g.done.map oW)) (.cel 2)=some (.bl (!false)):=mM (v:=.lst (g.done.map oW)) rfl (by simp only[drf,T.ds]) (yQ 7 _) false;have q2:bo false c (.lst (g.past.map wS)) (.lst (g.past.map wS))=some (.bl (!false)):=mM (v:=.lst (g.past.map wS)) rfl rfl (GA 6 _) false;refine bL (w:=.bl true) (ce':=c) (vY (bG (eR (ws:=[]) (ax rfl) T.gc.i rfl aM rfl (Gz FU T.gc O)) (ax rfl) q1) (bG (eR (ws:=[]) (ax rfl) T.gc.i rfl aM rfl (Hd FU T.gc O)) (CU (h:=hd) (mo:=.cel 1) FU O (ax rfl) (.cl T.mo)) q2)) ?_;exact⟨_,_,n6 (ce:=[]) (l:=c) (by simp only[aV]),rfl⟩
end K17
namespace K17
theorem fin_mk{l:PySem.W.OpenLaw}(z:∃A:qm,Txt K mg A/\fa=A.f_law/\∀(s:Shared) (v:Value),BindsTo s A.d_law ⟨[v],[]⟩ [("_law_script",v)]) :
  ∃fd:FuncData,(∀(s:Shared) (u:Value),BindsTo s fd ⟨[u],[]⟩ [("_law_script",u)])/\∀base:Heap,K.In base->base.Ns mainGlobals mg->ay l.prog w K mg base CX0 9 fa fd ["_law_script"] (spLaw Gx (d_law FU) K):=by
 obtain⟨A,T,e,b⟩:=z;subst e;exact⟨A.d_law,b,fun base _ _=>EA T.nl (BZ FU T)⟩
end K17
open PySem.W
namespace PySem.W.Fast
theorem tw7969315596490641885:True:=⟨⟩
theorem tw110954560726959230:True:=⟨⟩
theorem tw16297815581113012025:True:=⟨⟩
theorem tw2551151321626630411:True:=⟨⟩
theorem tw997418350299137451:True:=⟨⟩
theorem tw13546895793836421446:True:=⟨⟩
theorem tw1817694922322345524:True:=⟨⟩
theorem tw2847976270835209320:True:=⟨⟩
theorem tw10751682580221514554:True:=⟨⟩
theorem tw4598899436455191131:True:=⟨⟩
theorem tw1150912521392655241:True:=⟨⟩
theorem tw16893546126061763213:True:=⟨⟩
theorem tw3958084172659354190:True:=⟨⟩
theorem tw7146136880573303824:True:=⟨⟩
theorem tw12187884001770139166:True:=⟨⟩
theorem tw11492676979320020309:True:=⟨⟩
theorem tw1026803818253668564:True:=⟨⟩
theorem tw5257756798619004637:True:=⟨⟩
theorem tw6417260602141284507:True:=⟨⟩
theorem tw13857870189747044732:True:=⟨⟩
theorem tw15655854739518736519:True:=⟨⟩
theorem tw8602317403519883880:True:=⟨⟩
theorem tw4003410042601470641:True:=⟨⟩
theorem tw2931762948720123890:True:=⟨⟩
theorem tw9372184973786637894:True:=⟨⟩
theorem tw1958958371030482047:True:=⟨⟩
theorem tw15867951315940220421:True:=⟨⟩
theorem tw15628575945873069299:True:=⟨⟩
theorem tw7381943118795824004:True:=⟨⟩
theorem tw970535048384163217:True:=⟨⟩
theorem tw10570484917214994871:True:=⟨⟩
theorem tw3978084936576304174:True:=⟨⟩
theorem tw10609104019305609134:True:=⟨⟩
theorem tw13217880117375308711:True:=⟨⟩
theorem tw18177006135788875176:True:=⟨⟩
theorem tw14923813135212462968:True:=⟨⟩
theorem tw13819363946487196274:True:=⟨⟩
theorem tw5349080492179362705:True:=⟨⟩
theorem tw13354983811146411949:True:=⟨⟩
theorem tw7530616828372769677:True:=⟨⟩
theorem tw9711142089819549672:True:=⟨⟩
theorem tw14248602506651494345:True:=⟨⟩
theorem tw5739505081388047511:True:=⟨⟩
theorem tw12144280717900502349:True:=⟨⟩
theorem tw13117244196961470072:True:=⟨⟩
theorem tw15403902788771067969:True:=⟨⟩
theorem tw18155746410145555687:True:=⟨⟩
theorem tw11540048520484075087:True:=⟨⟩
theorem tw8615177885633305910:True:=⟨⟩
theorem tw12926525183610586110:True:=⟨⟩
theorem tw3010648403334565781:True:=⟨⟩
theorem tw11645701242894390982:True:=⟨⟩
theorem tw2494312050919319644:True:=⟨⟩
theorem tw662803709347406716:True:=⟨⟩
theorem tw11042490767363630427:True:=⟨⟩
theorem tw4204599462879023167:True:=⟨⟩
theorem tw2021836566976634936:True:=⟨⟩
theorem tw2272201652732873005:True:=⟨⟩
theorem tw15958410623948048351:True:=⟨⟩
theorem tw9711806000545494213:True:=⟨⟩
end PySem.W.Fast
theorem PySem.W.Fast.te17522959486812873745 : True := trivial
theorem PySem.W.Fast.tw7724146880921093444 : True := trivial
theorem PySem.W.Fast.tw9014467000442826982 : True := trivial
theorem PySem.W.Fast.tw18072307004417220102 : True := trivial
theorem PySem.W.Fast.tw15523811636602326120 : True := trivial
theorem PySem.W.Fast.tw12923078648902370378 : True := trivial
theorem PySem.W.Fast.tw18391055844809381547 : True := trivial
theorem PySem.W.Fast.tw8402438800266181483 : True := trivial
theorem PySem.W.Fast.tw7833724344696985165 : True := trivial
theorem PySem.W.Fast.tw1939104494950292654 : True := trivial
theorem PySem.W.Fast.tw13314439540380017454 : True := trivial
theorem PySem.W.Fast.tw16736803599938572947 : True := trivial
theorem PySem.W.Fast.tw630829616669005683 : True := trivial
theorem PySem.W.Fast.tw11501431490776407221 : True := trivial
theorem PySem.W.Fast.tw6699590003834676981 : True := trivial
theorem PySem.W.Fast.tw5968836799528984471 : True := trivial
theorem PySem.W.Fast.tw15279961770311485595 : True := trivial
theorem PySem.W.Fast.tw13389196650178293533 : True := trivial
theorem PySem.W.Fast.tw641104105786316415 : True := trivial
set_option maxRecDepth 100000 in
theorem PySem.Challenge.cw_stonebreath_k17_no_stand_again_holds : PySem.Challenge.rw_stonebreath_k17_no_stand_again.Holds := by
 w_on;o_law;k_head;(case hw=>w_witness2)
 k_fill
 refine L2.walk_ofK (l:=PySem.Challenge.rw_stonebreath_k17_no_stand_again) (n:=63) (k:=9) (x := "_law_script") (CX:=L2.CX0) (sp:=VS.spLaw K17.Gx (K17.d_law K17.FU)) rfl (by decide) rfl ⟨rfl,by decide,by decide⟩ (fun w h Y=>PySem.W.kIn_of Y) ?F (VS.law_sp K17.main) (fun _ _ _ _ z=>z)
 case F =>
  intro w mg fa h KX G hmg
  refine' K17.fin_mk (K17.all_mk KX G hmg ?ac_Game ?pg_Game ?hd_Game ?po_Game ?sa_Game ?mi_Game ?kc_Game ?na_Game_barring ?na_Game_done ?na_Game_first ?na_Game_joined ?na_Game_past ?na_Game_takings ?a0 ?l0 ?a1 ?l1 ?a2 ?l2 ?a3 ?l3 ?a4 ?l4 ?a5 ?l5 ?a6 ?l6 ?a7 ?l7 ?a8 ?l8 ?a9 ?l9 ?a10 ?l10 ?a11 ?l11 ?a12 ?l12 ?a13 ?l13 ?a14 ?l14 ?a15 ?l15 ?a16 ?l16 ?a17 ?l17 ?a18 ?l18 ?a19 ?l19 ?a20 ?l20 ?a21 ?l21 ?a22 ?l22 ?a23 ?l23 ?c23 ?k23 ?a24 ?fn24 ?l24 ?a25 ?fn25 ?l25 ?a26 ?fn26 ?l26 ?a27 ?fn27 ?l27 ?a28 ?fn28 ?l28 ?a29 ?fn29 ?l29 ?a30 ?fn30 ?l30 ?a31 ?fn31 ?l31 ?a32 ?fn32 ?l32 ?a33 ?fn33 ?l33 ?ac_Again ?ex_Again ?ex_mAgain ?aX0 ?fnX0 ?lX0 ?q0 ?z_ValueError ?z_all ?z_bool ?z_int ?z_isinstance ?z_len ?z_list ?z_range ?z_sorted ?z_str ?z_sum ?z_tuple ?xt ?nl)
  (case ac_Game=>k_is);(case pg_Game=>k_is);(case hd_Game=>k_is);(case po_Game=>k_is);(case sa_Game=>k_is);(case mi_Game=>k_is);(case kc_Game=>k_is);(case na_Game_barring=>k_is);(case na_Game_done=>k_is);(case na_Game_first=>k_is);(case na_Game_joined=>k_is);(case na_Game_past=>k_is);(case na_Game_takings=>k_is);(case a0=>k_is);(case l0=>exact VS.fnk (by k_is) (by k_is) (by k_is));(case a1=>k_is);(case l1=>exact VS.fnk (by k_is) (by k_is) (by k_is));(case a2=>k_is);(case l2=>exact VS.fnk (by k_is) (by k_is) (by k_is));(case a3=>k_is);(case l3=>exact VS.fnk (by k_is) (by k_is) (by k_is));(case a4=>k_is);(case l4=>exact VS.fnk (by k_is) (by k_is) (by k_is));(case a5=>k_is);(case l5=>exact VS.fnk (by k_is) (by k_is) (by k_is));(case a6=>k_is);(case l6=>exact VS.fnk (by k_is) (by k_is) (by k_is));(case a7=>k_is);(case l7=>exact VS.fnk (by k_is) (by k_is) (by k_is));(case a8=>k_is);(case l8=>exact VS.fnk (by k_is) (by k_is) (by k_is));(case a9=>k_is);(case l9=>exact VS.fnk (by k_is) (by k_is) (by k_is));(case a10=>k_is);(case l10=>exact VS.fnk (by k_is) (by k_is) (by k_is));(case a11=>k_is);(case l11=>exact VS.fnk (by k_is) (by k_is) (by k_is));(case a12=>k_is);(case l12=>exact VS.fnk (by k_is) (by k_is) (by k_is));(case a13=>k_is);(case l13=>exact VS.fnk (by k_is) (by k_is) (by k_is));(case a14=>k_is);(case l14=>exact VS.fnk (by k_is) (by k_is) (by k_is));(case a15=>k_is);(case l15=>exact VS.fnk (by k_is) (by k_is) (by k_is));(case a16=>k_is);(case l16=>exact VS.fnk (by k_is) (by k_is) (by k_is));(case a17=>k_is);(case l17=>exact VS.fnk (by k_is) (by k_is) (by k_is));(case a18=>k_is);(case l18=>exact VS.fnk (by k_is) (by k_is) (by k_is));(case a19=>k_is);(case l19=>exact VS.fnk (by k_is) (by k_is) (by k_is));(case a20=>k_is);(case l20=>exact VS.fnk (by k_is) (by k_is) (by k_is));(case a21=>k_is);(case l21=>exact VS.fnk (by k_is) (by k_is) (by k_is));(case a22=>k_is);(case l22=>exact VS.fnk (by k_is) (by k_is) (by k_is));(case a23=>k_is);(case l23=>k_is);(case c23=>k_is);(case k23=>k_is);(case a24=>k_is);(case fn24=>k_is);(case l24=>exact VS.fnk (by k_is) (by k_is) (by k_is));(case a25=>k_is);(case fn25=>k_is);(case l25=>exact VS.fnk (by k_is) (by k_is) (by k_is));(case a26=>k_is);(case fn26=>k_is);(case l26=>exact VS.fnk (by k_is) (by k_is) (by k_is));(case a27=>k_is);(case fn27=>k_is);(case l27=>exact VS.fnk (by k_is) (by k_is) (by k_is));(case a28=>k_is);(case fn28=>k_is);(case l28=>exact VS.fnk (by k_is) (by k_is) (by k_is));(case a29=>k_is);(case fn29=>k_is);(case l29=>exact VS.fnk (by k_is) (by k_is) (by k_is));(case a30=>k_is);(case fn30=>k_is);(case l30=>exact VS.fnk (by k_is) (by k_is) (by k_is));(case a31=>k_is);(case fn31=>k_is);(case l31=>exact VS.fnk (by k_is) (by k_is) (by k_is));(case a32=>k_is);(case fn32=>k_is);(case l32=>exact VS.fnk (by k_is) (by k_is) (by k_is));(case a33=>k_is);(case fn33=>k_is);(case l33=>exact VS.fnk (by k_is) (by k_is) (by k_is));(case ac_Again=>k_is);(case ex_Again=>kernel_rfl);(case ex_mAgain=>kernel_rfl);(case aX0=>k_is);(case fnX0=>k_is);(case lX0=>exact VS.fnk (by k_is) (by k_is) (by k_is));(case q0=>k_is);(case z_ValueError=>k_is);(case z_all=>k_is);(case z_bool=>k_is);(case z_int=>k_is);(case z_isinstance=>k_is);(case z_len=>k_is);(case z_list=>k_is);(case z_range=>k_is);(case z_sorted=>k_is);(case z_str=>k_is);(case z_sum=>k_is);(case z_tuple=>k_is);(case xt=>kernel_rfl);(case nl=>kernel_rfl)
