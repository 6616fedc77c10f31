import PyProof.Rows.All
import Wide.All
import OpenK.AllK
import Wide.FinOn
import Lean
import PyProof.EqAt
import PyProof.EqKinds
import PyProof.TupleCall
import PyProof.NeKinds
import KE.KDictSum
import KE.KListLetter
import KE.KIsAll
import KE.KTryMore
import PySem.Challenge.RW_stonebreath_k20_open_deeds
set_option Elab.async false
set_option linter.all false
set_option maxHeartbeats 0
set_option maxRecDepth 100000
local macro_rules|`(tactic|omega)=>`(tactic|first
 |assumption
 |with_reducible exact Nat.le_of_lt (by assumption)
 |with_reducible exact Nat.le_trans (by assumption) (by assumption)
 |with_reducible exact Nat.lt_of_le_of_lt (by assumption) (by assumption)
 |with_reducible exact Nat.lt_of_lt_of_le (by assumption) (by assumption)
 |with_reducible exact Nat.lt_of_le_of_lt (by assumption) (by decide)
 |with_reducible exact Nat.le_trans (by assumption) (by decide)
 |lia)
open PyProof.Rows (boot_isinstance boot_int boot_bool boot_sorted boot_tuple boot_all boot_str boot_sum)
open PySem.F (excBase_ValueError entry_bexc_ga entry_sum_loop slot_list_pop type_list_pop)
open PySem.Paired (length)
open PySem (sizeLine boot_len)
open PySem.P (add_list)
open PySem.W.Looks (here)
open PySem.EqMixed (eq_bool_str eq_int_str eq_str_bool eq_str_int ne_bool_str ne_int_str ne_str_bool ne_str_int)
open PySem.EqNone (eq_none_int eq_none_str eq_int_none eq_str_none ne_none_int ne_none_str ne_int_none ne_str_none)
open PySem.W (instObj methodObj hideAll hideAll_get of_hideAll hideAll_none Frag lookIn plainGet hasDictIn findIn handedIn plainGet_of isFn plainOver takerIn set_plain any_some looks_clsIn makesIn typeIn emptyDict bind_fn keepIn mroIn kitOne kia_one kitx_list kitx_dict callWith_K methodCall_KW cellsFrom_some fnOf codeIn kdl_dict excIn tail_of_in kitAny nsIn mg_of mg_none_of)
open List (length_map mem_append map_cons length_append length_cons mem_singleton getD_eq_getElem?_getD getElem?_eq_getElem size_toArray mem_range mem_filter mem_append_left getElem?_set_ne mem_map getElem?_map length_nil getElem?_append_left all_eq_true length_range append_assoc mem_cons_of_mem length_set append_nil mem_cons_self mem_cons mem_append_right map_nil getElem?_append_right map_append any_eq_true map_map length_filter_le getElem?_eq_none getElem?_set_self lookup_cons nodup_append length_take filter_congr find?_cons nodup_range nil_append exists_mem_of_ne_nil replicate_succ map_congr_left cons_append nodup_cons mem_of_getElem? length_drop filter_append any_cons mem_filterMap flatten_cons filter_nil ext_getElem? set_append_right ne_nil_of_mem getElem_mem getElem?_range getElem?_cons_zero all_cons map_set map_id map_drop length_eq_zero_iff getElem?_of_mem filter_cons_of_neg contains_cons take_of_length_le of_mem_zip mem_of_find?_eq_some length_singleton forIn_cons find?_eq_none filter_cons_of_pos filterMap_cons eq_nil_or_concat take_zero take_sublist take_left take_append_of_le_length range_succ_eq_map pairwise_lt_range pairwise_cons mem_of_mem_drop map_take length_pos_of_mem getElem?_take_of_lt getElem?_set getElem?_replicate getElem?_cons_succ forIn_nil find?_some filter_filter filter_cons erase_cons eraseIdx_eq_take_drop_succ eq_nil_of_length_eq_zero eq_nil_iff_forall_not_mem drop_length drop_eq_getElem_cons dropLast_eq_take contains_iff_mem concat_eq_append all_map take_range take_length take_add_one set_cons_succ set_append_left range_succ range_eq_range' range'_succ perm_iff_count pairwise_mergeSort pairwise_map pairwise_iff_getElem not_mem_nil nil_perm mergeSort_perm mem_of_mem_take mem_of_mem_erase mem_iff_getElem length_replicate length_pos_iff_exists_mem length_erase_of_mem length_erase_le length_dropLast idxOf_lt_length_iff getElem_of_mem getElem_inj getElem_idxOf getElem?_zip_eq_some foldl_cons find?_eq_some_iff_append find?_append filter_eq_self filterMap_append ext_getElem erase_eq_eraseIdx_of_idxOf eraseIdx_cons_succ eraseIdxIfInBounds_toArray drop_left any_eq_false all_nil)
open Nat (le_refl ne_of_lt lt_of_lt_of_le le_trans zero_le lt_irrefl le_succ lt_of_le_of_lt lt_succ_self lt_succ_of_lt ne_of_gt le_of_lt sub_self not_lt_zero min_eq_left le_add_right zero_add mul_le_mul le_of_eq add_sub_cancel_left succ_mul not_lt mul_pos mul_le_mul_right mul_comm min_self lt_trichotomy lt_trans log2_lt le_of_not_lt le_mul_of_pos_right exists_eq_add_of_le add_mul add_comm)
open Option (map_some getD_some map_eq_some_iff bind_some bind_eq_some_iff isSome_map isSome_iff_exists getD_none none_or isSome_some)
open Bool (and_eq_true false_eq_true not_eq_true' or_eq_true not_eq_false' eq_false_iff or_eq_false_iff not_not)
open Array (length_toList toArray_toList size_push getElem?_toList toList_inj toList_eraseIdxIfInBounds size_modify mem_toList_iff find?_toList any_eq_true')
open Int (toNat_natCast natCast_mul sub_zero mul_one ofNat_inj fmod_eq_emod_of_nonneg fdiv_eq_ediv_of_nonneg emod_nonneg emod_lt_of_pos)
noncomputable section
namespace L2
open PySem PySem.Spec PyProof.Rows
abbrev Key:=Sum Int Str
def mG:Key->Value->Bool
 | .inl k,v=>Value.isInt k v
 | .inr x,v=>Value.isStrOf x v
def Bf(w:World):Key->Int
 | .inl k=>hashInt k
 | .inr x=>hashStr w x
theorem jn:∀{k:Key} {v:Value},mG k v=true->(∃i t,k=Sum.inl i/\v=Value.int i t)\/(∃x t,k=Sum.inr x/\v=Value.str x t)
 | .inl i,v,h=>by
  obtain⟨t,e⟩:=Value.isInt_shape (k:=i) (v:=v) h;exact .inl ⟨i,t,rfl,e⟩
 | .inr x,v,h=>by
  obtain⟨t,e⟩:=Value.isStrOf_shape (x:=x) (v:=v) h;exact .inr ⟨x,t,rfl,e⟩
theorem HY(i:Int)(t:Tok):mG (.inl i) (.int i t)=true:=by simp[mG,Value.isInt]
theorem HX(x:Str)(t:Tok):mG (.inr x) (.str x t)=true:=by simp[mG,Value.isStrOf]
theorem DE(a b:Int):decide ((Sum.inl a:Key)=Sum.inl b)=(a==b):=by
 by_cases e:a=b
 ·subst e;simp
 ·have h:¬(Sum.inl a:Key)=Sum.inl b:=fun q=>e (Sum.inl.inj q);rw[decide_eq_false h];exact(beq_eq_false_iff_ne.mpr e).symm
theorem DD(a b:Str):decide ((Sum.inr a:Key)=Sum.inr b)=decide (a=b):=by
 by_cases e:a=b
 ·subst e;simp
 ·have h:¬(Sum.inr a:Key)=Sum.inr b:=fun q=>e (Sum.inr.inj q);rw[decide_eq_false h,decide_eq_false e]
theorem DC(a:Int)(b:Str):decide ((Sum.inl a:Key)=Sum.inr b)=false:=decide_eq_false (fun q=>nomatch q)
theorem DB(a:Str)(b:Int):decide ((Sum.inr a:Key)=Sum.inl b)=false:=decide_eq_false (fun q=>nomatch q)
def eF(prog:Program)(w:World):PySem.KeyKind prog w Key where
 is:=mG
 hash:=Bf w
 inj:=fun v a b ha hb=>by
  rcases jn ha with ⟨i,t,rfl,rfl⟩|⟨x,t,rfl,rfl⟩
  ·rcases jn hb with ⟨j,u,rfl,e⟩|⟨y,u,rfl,e⟩
   ·injection e with e1 _;rw[e1]
   ·exact nomatch e
  ·rcases jn hb with ⟨j,u,rfl,e⟩|⟨y,u,rfl,e⟩
   ·exact nomatch e
   ·injection e with e1 _;rw[e1]
 byValue:=fun k v h=>by
  rcases jn h with ⟨i,t,rfl,rfl⟩|⟨x,t,rfl,rfl⟩<;>rfl
 pyHash:=fun hv h=>by
  rcases jn hv with ⟨i,t,rfl,rfl⟩|⟨x,t,rfl,rfl⟩
  ·exact wpAny_pyHash_int h
  ·exact wpAny_pyHash_str h
 eqBool:=fun hu hv h=>by
  rcases jn hu with ⟨i,t,rfl,rfl⟩|⟨x,t,rfl,rfl⟩
  ·rcases jn hv with ⟨j,u,rfl,rfl⟩|⟨y,u,rfl,rfl⟩
   ·rw[DE] at h;exact wpAny_eqBool_int h
   ·rw[DC] at h;exact SeqAt.EqAt.int_str i t y u _ _ _ _ h
  ·rcases jn hv with ⟨j,u,rfl,rfl⟩|⟨y,u,rfl,rfl⟩
   ·rw[DB] at h;exact SeqAt.EqAt.str_int x t j u _ _ _ _ h
   ·rw[DD] at h;exact wpAny_eqBool_str h
 «strs»:=fun k x t v h=>by
  rcases jn h with ⟨i,u,rfl,e⟩|⟨y,u,rfl,e⟩
  ·exact nomatch e
  ·injection e with e1 _;subst e1;cases v<;>rfl
theorem Jq(prog:Program)(w:World)(i:Int)(t:Tok):(eF prog w).is (.inl i) (.int i t)=true:=HY i t
theorem Jp(prog:Program)(w:World)(x:Str)(t:Tok):(eF prog w).is (.inr x) (.str x t)=true:=HX x t
inductive V where
 | non|bl (b:Bool)|int (i:Int)|str (x:Str)|byt (b:Array UInt8)|flt (b:UInt64)|ref (a:Addr)|ty (n:String)
 deriving DecidableEq
def RelV:V->Value->Prop
 | .non,u=>u=Value.none
 | .bl b,u=>u=Value.bool b
 | .int i,u=>∃t,u=Value.int i t
 | .str x,u=>∃t,u=Value.str x t
 | .byt b,u=>∃t,u=Value.bytes b t
 | .flt b,u=>∃t,u=Value.float b t
 | .ref a,u=>u=Value.ref a
 | .ty n,u=>u=Value.type n
abbrev Vals:List V->List Value->Prop:=Paired RelV
theorem Vals.length{xs:List V}{us:List Value}(r:Vals xs us):xs.length=us.length:=Paired.length r
theorem Vals.get:∀{xs:List V} {us:List Value} {i:Nat} {x:V},Vals xs us->xs[i]?=some x->∃u,us[i]?=some u/\RelV x u
 | _,_,_,_,.nil,e=>by simp at e
 | _,_,0,_,.cons r _,e=>by simp at e;subst e;exact⟨_,rfl,r⟩
 | _,_,i+1,x,.cons _ t,e=>by
  obtain⟨u,h1,h2⟩:=Vals.get (i:=i) (x:=x) t (by simpa using e);exact⟨u,by simpa using h1,h2⟩
theorem Vals.set{x:V}{u:Value}(r:RelV x u):∀{xs:List V} {us:List Value} (i:Nat),Vals xs us->Vals (xs.set i x) (us.set i u)
 | _,_,_,.nil=>.nil
 | _,_,0,.cons _ t=>.cons r t
 | _,_,i+1,.cons q t=>.cons q (Vals.set r i t)
theorem Vals.append:∀{xs ys:List V} {us ws:List Value},Vals xs us->Vals ys ws->Vals (xs++ys) (us++ws)
 | _,_,_,_,.nil,s=>s
 | _,_,_,_,.cons r t,s=>.cons r (Vals.append t s)
theorem Vals.take:∀{xs:List V} {us:List Value} (n:Nat),Vals xs us->Vals (xs.take n) (us.take n)
 | _,_,0,_=>.nil
 | _,_,_+1,.nil=>.nil
 | _,_,n+1,.cons r t=>.cons r (Vals.take n t)
theorem Vals.drop:∀{xs:List V} {us:List Value} (n:Nat),Vals xs us->Vals (xs.drop n) (us.drop n)
 | _,_,0,r=>r
 | _,_,_+1,.nil=>.nil
 | _,_,n+1,.cons _ t=>Vals.drop n t
def dI:Option V->Option Value->Prop
 | some v,some u=>RelV v u
 | none,none=>True
 | _,_=>False
def KV{κ:Type}:List (κ×V)->List (κ×Value)->Prop:=Paired fun(p:κ×V) (q:κ×Value)=>p.1=q.1/\RelV p.2 q.2
def kV:Key->V
 | .inl i=>.int i
 | .inr x=>.str x
inductive HO where
  | lst (xs:List V)
  | tup (xs:List V)
  | dK (kvs:List (Key×V))|dT (kvs:List (List Key×V))
  | set (S:Int->Bool) (n:Nat)
  | ins (C dx:Addr) (fs:List (Str×V))
  | own (x:Addr)
  | xd (fs:List (Str×V))
  | met (f x:Addr)
  | rng (lo hi:Int)
  | frz (o:Obj) (u:HO)
  | tbl (ps:Array Value)
  | ext (φ:Heap->Prop)
abbrev Hp:=Addr->Option HO
def upd(H:Hp)(a:Addr)(o:HO):Hp:=fun b=>if b=a then some o else H b
variable {H:Hp} {a:Addr} {o:HO}
theorem ak:upd H a o a=some o:=by unfold upd;rw[if_pos rfl]
variable {b:Addr}
theorem bt(h:b≠a):upd H a o b=H b:=by unfold upd;rw[if_neg h]
theorem CD{u:HO}(h:H a=some o)(h':H b=some u)(d:o≠u):a≠b:=by intro e;subst e;rw[h] at h';exact d (Option.some.inj h')
theorem eU(h:H a=some o)(h':H b=none):a≠b:=by intro e;subst e;rw[h] at h';cases h'
def gP(h:Heap)(a:Addr)(items:Array Value):Prop:=∃o,h.get? a=some o/\o.cls=.type "tuple" /\ (∃n,o.data=.seq items n)/\o.dict=none
variable {h:Heap}
theorem gP.isTup{items:Array Value}(t:gP h a items):PyProof.Rows.IsTup h a items:=by obtain⟨o,e,c,⟨n,d⟩,_⟩:=t;exact⟨o,e,c,n,d⟩
theorem gP.new(h:Heap)(items:Array Value):gP (h.push { cls:=.type "tuple",data:=.seq items }) h.objs.size items:=⟨_,Heap.get?_push_size _ rfl,rfl,⟨_,rfl⟩,rfl⟩
section
variable (P:Program) (w:World)
def aE(H:Hp)(h:Heap)(a:Addr):HO->Prop
 | .lst xs=>xs.length<=sizeLine/\∃(its:List Value) (n:Nat),Vals xs its/\h.get? a=some { cls:=.type "list",data:=.seq its.toArray n }
 | .tup xs=>xs.length<=sizeLine/\∃its:List Value,Vals xs its/\gP h a its.toArray
 | .dK kvs=>kvs.length<=sizeLine/\(a==sysModules)=false/\∃vs,KV kvs vs/\h.DictOf (eF P w) a vs
 | .dT kvs=>kvs.length<=sizeLine/\(a==sysModules)=false/\∃xs:List (List Key×Addr×Value),
   Paired (fun(p:List Key×V) (q:List Key×Addr×Value)=>p.1=q.1/\H q.2.1=some (.tup (p.1.map kV))/\RelV p.2 q.2.2) kvs xs /\
   ∃o es ep,h.get? a=some o/\o.ExactDict/\o.data=.dict es ep/\es.toList=xs.map (entryOfKey (tupleKind (eF P w)))/\(xs.map (·.1)).Nodup
 | .set S n=>h.SetOf (intKind P w) a S n
 | .ins C dx fs=>H dx=some (.own a)/\fs.length<=1000/\dx≠a/\h.get? a=some (instObj C dx) /\
   ∃mA,h.Ns1 dx mA/\(∀f,dI (fs.lookup f) (mA f))/\PySem.Within mA (fs.map (·.1))
 | .own _=>∃o,h.get? a=some o
 | .xd fs=>∃mA,h.Ns1 a mA/\∀f,dI (fs.lookup f) (mA f)
 | .rng lo hi=>∃t u v,h.get? a=some { cls:=.type "range",data:=.fields #[.int lo t,.int hi u,.int 1 v] }
 | .frz o u=>h.get? a=some o/\aE H h a u
 | .tbl ps=>h.get? a=some { cls:=.none,data:=.fields ps }
 | .met f x=>h.get? a=some (methodObj (.ref f) (.ref x))
 | .ext φ=>φ h/\(∃o,h.get? a=some o)/\∀h1 h2:Heap,φ h1->(∀o,h1.get? a=some o->h2.get? a=some o)->φ h2
def cF(H:Hp)(h:Heap):Prop:=∀a o,H a=some o->aE P w H h a o
end
variable {P:Program} {w:World} {H':Hp} {h':Heap}
theorem aE.lt(x:aE P w H h a o):a<h.objs.size:=by
 cases o with
 | lst xs=>obtain⟨_,_,_,_,e⟩:=x;exact Heap.lt_size e
 | tup xs=>obtain⟨_,_,_,p⟩:=x;exact(gP.isTup p).lt
 | dK kvs=>obtain⟨_,_,_,_,o,_,_,e,_⟩:=x;exact Heap.lt_size e
 | dT kvs=>obtain⟨_,_,_,_,o,_,_,e,_⟩:=x;exact Heap.lt_size e
 | set S n=>obtain⟨o,_,_,_,e,_⟩:=x;exact Heap.lt_size e
 | ins C dx fs=>obtain⟨_,_,_,e,_⟩:=x;exact Heap.lt_size e
 | own y=>obtain⟨_,e⟩:=x;exact Heap.lt_size e
 | xd fs=>obtain⟨_,⟨_,_,_,e,_⟩,_⟩:=x;exact Heap.lt_size e
 | rng lo hi=>obtain⟨_,_,_,e⟩:=x;exact Heap.lt_size e
 | frz ob u=>obtain⟨e,_⟩:=x;exact Heap.lt_size e
 | tbl ps=>exact Heap.lt_size (show h.get? a=some _ from x)
 | met f y=>exact Heap.lt_size (show h.get? a=some _ from x)
 | ext φ=>obtain⟨_,⟨_,e⟩,_⟩:=x;exact Heap.lt_size e
theorem Paired.mapP{α β:Type}{F G:α->β->Prop}:∀{l₁:List α} {l₂:List β},Paired F l₁ l₂->(∀a b,F a b->G a b)->Paired G l₁ l₂
 | _,_,.nil,_=>.nil
 | _,_,.cons r t,f=>.cons (f _ _ r) (Paired.mapP t f)
theorem aE.stay(x:aE P w H h a o)(k:∀b u,(b=a\/H b=some (.own a))->h.get? b=some u->h'.get? b=some u)(ho:∀b,H b=some (.own a)->H' b=some (.own a))(ht:∀b xs,H b=some (.tup xs)->H' b=some (.tup xs)):aE P w H' h' a o:=by
 induction o with
 | lst xs=>obtain⟨z,its,n,r,e⟩:=x;exact⟨z,its,n,r,k _ _ (.inl rfl) e⟩
 | tup xs=>obtain⟨z,its,r,ob,e,c⟩:=x;exact⟨z,its,r,ob,k _ _ (.inl rfl) e,c⟩
 | dK kvs=>obtain⟨z,y,vs,r,ob,es,ep,e,c⟩:=x;exact⟨z,y,vs,r,ob,es,ep,k _ _ (.inl rfl) e,c⟩
 | dT kvs =>
  obtain⟨z,y,xs,r,ob,es,ep,e,c⟩:=x;exact⟨z,y,xs,Paired.mapP r fun p q z=>⟨z.1,ht _ _ z.2.1,z.2.2⟩,ob,es,ep,k _ _ (.inl rfl) e,c⟩
 | set S n=>obtain⟨ob,es,ep,t,e,c⟩:=x;exact⟨ob,es,ep,t,k _ _ (.inl rfl) e,c⟩
 | ins C dx fs =>
  obtain⟨d,z,ne,e,mA,⟨od,es,ep,e2,c⟩,r⟩:=x;exact⟨ho _ d,z,ne,k _ _ (.inl rfl) e,mA,⟨od,es,ep,k _ _ (.inr d) e2,c⟩,r⟩
 | own y=>obtain⟨ob,e⟩:=x;exact⟨ob,k _ _ (.inl rfl) e⟩
 | xd fs=>obtain⟨mA,⟨od,es,ep,e,c⟩,r⟩:=x;exact⟨mA,⟨od,es,ep,k _ _ (.inl rfl) e,c⟩,r⟩
 | rng lo hi=>obtain⟨t,u,v,e⟩:=x;exact⟨t,u,v,k _ _ (.inl rfl) e⟩
 | frz ob u ih=>obtain⟨e,q⟩:=x;exact⟨k _ _ (.inl rfl) e,ih q⟩
 | tbl ps =>
  have e:h.get? a=some { cls:=.none,data:=.fields ps }:=x;show h'.get? a=some { cls:=.none,data:=.fields ps };exact k a _ (.inl rfl) e
 | met f y =>
  have e:h.get? a=some (methodObj (.ref f) (.ref y)):=x;show h'.get? a=some (methodObj (.ref f) (.ref y));exact k a _ (.inl rfl) e
 | ext φ=>obtain⟨p,⟨o,e⟩,st⟩:=x;exact⟨st _ _ p fun o q=>k _ _ (.inl rfl) q,⟨o,k _ _ (.inl rfl) e⟩,st⟩
theorem cF.lt(x:cF P w H h)(e:H a=some o):a<h.objs.size:=(x a o e).lt
theorem cF.fresh(x:cF P w H h)(e:h.objs.size<=a):H a=none:=by
 cases q:H a with
 | none=>rfl
 | some u=>exact absurd (lt_of_lt_of_le (x.lt q) e) (lt_irrefl _)
theorem cF.kept(x:cF P w H h)(k:∀b u,h.get? b=some u->h'.get? b=some u):cF P w H h':=fun a o e =>
 (x a o e).stay (fun b u _ q=>k b u q) (fun _ q=>q) fun _ _ q=>q
theorem cF.laid(x:cF P w H h)(k:∀b u,h.get? b=some u->h'.get? b=some u)(hp:h.objs.size<=a)(new:aE P w (upd H a o) h' a o):cF P w (upd H a o) h':=fun b u e=>by
 have hn:=x.fresh hp
 by_cases hb:b=a
 ·subst hb;rw[ak] at e;cases e;exact new
 ·rw[bt hb] at e;exact(x b u e).stay (fun c v _ q=>k c v q) (fun c q=>by rw[bt (eU q hn)];exact q) fun c xs q=>by rw[bt (eU q hn)];exact q
def Rd(H:Hp)(a:Addr)(u:HO):Prop:=H a=some u\/∃o,H a=some (.frz o u)
theorem Rd.ok{u:HO}(r:Rd H a u)(x:cF P w H h):aE P w H h a u:=by
 rcases r with r|⟨o,r⟩
 ·exact x a u r
 ·obtain⟨_,q⟩:=x a _ r;exact q
def pd:Option HO->Prop
 | some (.lst _)=>True
 | some (.dK _)=>True
 | some (.dT _)=>True
 | some (.set _ _)=>True
 | some (.ins _ _ _)=>True
 | some (.ext _)=>True
 | _=>False
section
variable {x e:Addr} {o':HO}
theorem cF.write(ok:cF P w H h)(mu:pd (H x))(he:e=x\/H e=some (.own x))(k:∀b u,b≠e->h.get? b=some u->h'.get? b=some u)(heo:∃u,h'.get? e=some u)(new:aE P w (upd H x o') h' x o'):cF P w (upd H x o') h':=fun b u q=>by
 have nown:∀c y,H c=some (.own y)->c≠x:=fun c y r z=>by subst z;rw[r] at mu;exact mu
 have ntup:∀c xs,H c=some (.tup xs)->c≠x:=fun c xs r z=>by subst z;rw[r] at mu;exact mu
 by_cases hb:b=x
 ·subst hb;rw[ak] at q;cases q;exact new
 ·rw[bt hb] at q
  by_cases hbe:b=e
  ·have q':H b=some (.own x):=by
    rcases he with z|z
    ·exact absurd (hbe.trans z) hb
    ·rw[hbe];exact z
   rw[q] at q';cases q';obtain⟨v,hv⟩:=heo;exact⟨v,by rw[hbe];exact hv⟩
  ·refine(ok b u q).stay (fun c v hc r=>k c v ?_ r) (fun c r=>by rw[bt (nown c b r)];exact r) fun c xs r=>by rw[bt (ntup c xs r)];exact r
   rcases hc with rfl|hc
   ·exact hbe
   ·rintro rfl;rcases he with z|z
    ·exact nown c b hc z
    ·rw[hc] at z;cases z;exact hb rfl
end
structure Un (fs ex:List Addr) (H H':Hp) (h h':Heap):Prop where
 keep:∀b o,h.get? b=some o->H b=none->b∉fs->b∉ex->h'.get? b=some o
 slot:∀b o,h.get? b=some o->H b=none->b∈fs->b∉ex->∃sl,h'.get? b=some { o with slots:=sl }
 free:∀b o,h.get? b=some o->H b=none->b∉ex->H' b=none
 there:∀b o,h.get? b=some o->b∉ex->∃o',h'.get? b=some o'
 tups:∀b xs,H b=some (.tup xs)->H' b=some (.tup xs)
 frzs:∀b o u,H b=some (.frz o u)->H' b=some (.frz o u)
 tbls:∀b ps,H b=some (.tbl ps)->∃more,H' b=some (.tbl (ps++more))
section
variable {fs fs' ex ex':List Addr} {H1 H2:Hp} {h1 h2:Heap} {x e:Addr}
theorem Un.any(u:Un fs ex H H1 h h1){ob:Obj}(q:h.get? b=some ob)(n:H b=none)(hx:b∉ex):∃sl,h1.get? b=some { ob with slots:=sl }:=by
 by_cases hb:b∈fs
 ·exact u.slot b ob q n hb hx
 ·exact⟨ob.slots,u.keep b ob q n hb hx⟩
theorem Un.kept(k:∀b u,h.get? b=some u->h'.get? b=some u):Un fs ex H H h h' :=
 ⟨fun b ob q _ _ _=>k b ob q,fun b ob q _ _ _=>⟨ob.slots,k b ob q⟩,fun _ _ _ n _=>n,fun b ob q _=>⟨ob,k b ob q⟩,fun _ _ q=>q,fun _ _ _ q=>q,fun _ ps q=>⟨#[],by rw[q];simp⟩⟩
theorem Un.refl:Un fs ex H H h h:=Un.kept fun _ _ q=>q
theorem Un.laid(k:∀b u,h.get? b=some u->h'.get? b=some u)(hp:h.objs.size<=a)(hn:H a=none):Un fs ex H (upd H a o) h h' where
 keep:=fun b u q _ _ _=>k b u q
 slot:=fun b u q _ _ _=>⟨u.slots,k b u q⟩
 free:=fun b u q n _=>by rw[bt (ne_of_lt (lt_of_lt_of_le (Heap.lt_size q) hp))];exact n
 there:=fun b u q _=>⟨u,k b u q⟩
 tups:=fun b xs q=>by rw[bt (eU q hn)];exact q
 frzs:=fun b u xs q=>by rw[bt (eU q hn)];exact q
 tbls:=fun b ps q=>⟨#[],by rw[bt (eU q hn),q];simp⟩
theorem Un.write(mu:pd (H x))(he:e=x\/H e=some (.own x))(k:∀b u,b≠e->h.get? b=some u->h'.get? b=some u)(heo:∃u,h'.get? e=some u):Un fs ex H (upd H x o) h h':=by
 have hx:∀b,H b=none->b≠x:=fun b n z=>by subst z;rw[n] at mu;exact mu
 have hb:∀b,H b=none->b≠e:=fun b n z=>by
  subst z;rcases he with r|r
  ·exact hx b n r
  ·rw[n] at r;cases r
 have hm:∀b u,H b=some u->¬pd (some u)->b≠x:=fun b u q nm z=>by subst z;rw[q] at mu;exact nm mu
 refine⟨fun b u q n _ _=>k b u (hb b n) q,fun b u q n _ _=>⟨u.slots,k b u (hb b n) q⟩,fun b u q n _=>by rw[bt (hx b n)];exact n,fun b u q _=>?_,
  fun b xs q=>by rw[bt (hm b _ q fun z=>z)];exact q,fun b u xs q=>by rw[bt (hm b _ q fun z=>z)];exact q,fun b ps q=>⟨#[],by rw[bt (hm b _ q fun z=>z),q];simp⟩⟩
 by_cases hbe:b=e
 ·subst hbe;exact heo
 ·exact⟨u,k b u hbe q⟩
end
def qH(h:Heap)(H:Hp):List Addr:=(List.range h.objs.size).filter fun a=>(H a).isSome
def kb(h:Heap)(H:Hp):Heap:=hideAll h (qH h H)
theorem HW(h:Heap)(H:Hp):(kb h H).objs.size=h.objs.size:=PySem.W.hideAll_size _ _
theorem Hl{o:Obj}(e:h.get? b=some o)(n:H b=none):(kb h H).get? b=some o :=
 hideAll_get _ e fun hm=>by
  have q:(H b).isSome=true:=(mem_filter.mp hm).2;rw[n] at q;simp at q
theorem Fv{o:Obj}(e:(kb h H).get? b=some o):h.get? b=some o/\H b=none:=by
 have e':h.get? b=some o:=of_hideAll (qH h H) e;refine⟨e',?_⟩;cases q:H b with
 | none=>rfl
 | some x =>
  have hm:b∈qH h H:=mem_filter.mpr ⟨mem_range.mpr (Heap.lt_size e'),by simp[q]⟩;have z:(kb h H).get? b=none:=hideAll_none (qH h H) hm;rw[z] at e;cases e
def Fu(g h:Heap)(L:Addr):List (Addr×Obj):=(List.range h.objs.size).filterMap fun a=>if a=L\/(g.get? a).isSome=true then none else (h.get? a).map fun o=>(a,o)
def rest(g h:Heap)(L d:Addr):List (Addr×Obj):=(Fu g h L).filter fun p=>decide (p.1≠d)
structure Mod (K:Frag) (mg:Str->Option Value) (base:Heap):Prop where
 kin:K.In base
 glob:base.Ns mainGlobals mg
 blt:∃mb,base.Ns builtinsNs mb/\∀x:Str,x ≠ "__name__" -> mb x=bootBuiltins x
 nolimit:base.NoLimit
structure Cx where
 prog:Program
 w:World
 K:Frag
 mg:Str->Option Value
 base:Heap
 A:Around
 N:List Str
 s₀:Shared
 H₀:Hp
 env:Env
 outer:List Env
 stack:List Env
 ex:List Addr
 fn:Str->Bool
 calm:Bool
 pn:List (Addr×Obj)
 xe:Value->Shared->Prop
def dw(l:List Env):List Addr:=l.filterMap (·.frame)
abbrev Cx.fs(X:Cx):List Addr:=dw X.outer
def mm(sc:Scope)(x:Str):Prop:=sc.names.lookup x=some .local\/sc.names.lookup x=some .cell\/sc.names.lookup x=some .free
def Loc(sc:Scope)(x:Str):Prop:=sc.names.lookup x=some .local\/sc.names.lookup x=some .cell
def Be(env:Env)(h:Heap)(m:Str->Option Value)(x:Str)(u:Value):Prop :=
 (env.kindOf x=some .local/\m x=some u)\/((env.kindOf x=some .cell\/env.kindOf x=some .free)/\∃c,env.cells.lookup x=some c/\h.IsCell c (some u))
structure Cx.Ok (X:Cx):Prop where
 mod:Mod X.K X.mg X.base
 kind:X.env.scope.kind=.function
 glob:X.env.globals=mainGlobals
 blt:X.env.builtins=builtinsNs
 above:X.s₀.heap.objs.size<=X.env.locals
 inj:∀x y c,X.env.cells.lookup x=some c->X.env.cells.lookup y=some c->x=y
 has:∀x,(X.env.kindOf x=some .cell\/X.env.kindOf x=some .free)->∃c,X.env.cells.lookup x=some c
 cab:∀x c,X.fn x=true->X.env.cells.lookup x=some c->X.s₀.heap.objs.size<=c
 hd:X.calm=true->X.A.handled=none
 frames:X.A.frames=some X.stack
 stk:X.stack=X.outer\/(X.stack=X.env::X.outer/\X.env.frame=some X.env.locals)
 exf:∀b∈X.ex,b≠X.env.locals/\∀x c,X.env.cells.lookup x=some c->c≠b
 bs:∀b o,X.base.get? b=some o->X.s₀.heap.get? b=some o/\X.H₀ b=none
 bsz:X.base.objs.size<=X.s₀.heap.objs.size
 noex:∀b o,X.base.get? b=some o->b∉X.ex
 exfs:∀b∈X.ex,b∉X.fs
 funs:X.s₀.heap.FunFrames X.base X.outer
 frf:∀b∈X.fs,X.H₀ b=none
structure Inv (X:Cx) (pins:List (Addr×Obj)) (σ:List (Option V)) (H:Hp) (s:Shared):Prop where
 ok:X.Ok
 os:s.os=X.s₀.os
 bare:AllBare s.gens
 base:Un X.fs X.ex X.H₀ H X.s₀.heap s.heap
 loc:∃m,s.heap.Ns X.env.locals m/\∀(i:Nat) (x:Str) (v:V),X.N[i]?=some x->σ[i]?=some (some v)->mm X.env.scope x->∃u,RelV v u/\Be X.env s.heap m x u
 cell:∀x c,X.env.cells.lookup x=some c->∃v,s.heap.IsCell c v
 free:H X.env.locals=none
 freeC:∀x c,X.env.cells.lookup x=some c->H c=none
 pin:∀p∈X.pn++pins,s.heap.get? p.1=some p.2/\H p.1=none/\p.1≠X.env.locals/\p.1∉X.fs/\∀v,p.2.data≠.cell v
 hok:cF X.prog X.w H s.heap
 len:σ.length=X.N.length
variable {u:Value} {X:Cx} {pins:List (Addr×Obj)} {s s':Shared} {t' i:Nat} {ch:List Addr} {it:Addr} {N:List Str} {A:Around} {E:Value->Shared->Prop} {v:V}
section
variable {σ:List (Option V)}
theorem Cx.Ok.nofr(ok:X.Ok){o:Obj}(e:X.base.get? b=some o):b∉X.fs:=fun hb=>by
 have:=(ok.funs.mem hb).1;rw[e] at this;cases this
theorem Inv.bs(I:Inv X pins σ H s):∀b o,X.base.get? b=some o->s.heap.get? b=some o/\H b=none:=fun b o e =>
 ⟨I.base.keep b o (I.ok.bs b o e).1 (I.ok.bs b o e).2 (I.ok.nofr e) (I.ok.noex b o e),I.base.free b o (I.ok.bs b o e).1 (I.ok.bs b o e).2 (I.ok.noex b o e)⟩
theorem Inv.bk(I:Inv X pins σ H s):∀b o,X.base.get? b=some o->s.heap.get? b=some o:=fun b o e=>(I.bs b o e).1
theorem Inv.mod(I:Inv X pins σ H s):Mod X.K X.mg X.base:=I.ok.mod
theorem Inv.kIn(I:Inv X pins σ H s):X.K.In s.heap:=I.ok.mod.kin.keeps I.bk
theorem Inv.lt(I:Inv X pins σ H s):X.env.locals<s.heap.objs.size:=let ⟨_,hn,_⟩:=I.loc;hn.lt
theorem Inv.sz(I:Inv X pins σ H s):X.s₀.heap.objs.size<=s.heap.objs.size:=le_trans I.ok.above (le_of_lt I.lt)
theorem Inv.nofs(I:Inv X pins σ H s)(h:s.heap.objs.size<=a):a∉X.fs:=fun hb=>by
 obtain⟨_,o,ho,_⟩:=I.ok.funs.mem hb;exact absurd (lt_of_lt_of_le (Heap.lt_size ho) (le_trans I.sz h)) (lt_irrefl _)
theorem Inv.cne(I:Inv X pins σ H s):∀x c,X.env.cells.lookup x=some c->c≠X.env.locals:=fun x c e z=>by
 obtain⟨v,o,ho,hd⟩:=I.cell x c e;obtain⟨m,⟨o',es,ep,ho',hd',_⟩,_⟩:=I.loc;rw[z,ho'] at ho;cases ho;rw[hd'] at hd;cases hd
theorem Inv.funs(I:Inv X pins σ H s):s.heap.FunFrames X.base X.outer:=by
 have all:∀(l:List Env),(∀b∈dw l,b∈X.fs)->X.s₀.heap.FunFrames X.base l->s.heap.FunFrames X.base l:=by
  intro l
  induction l with
  | nil=>intro _ _;trivial
  | cons env r ih =>
   intro hs hl;obtain⟨hk,⟨L,o,hf,hn,ho,hd⟩,hr⟩:=hl;have hL:L∈X.fs:=hs L (by unfold dw;rw[filterMap_cons,hf];exact mem_cons_self);obtain⟨sl,e⟩:=I.base.slot L o ho (I.ok.frf L hL) hL fun z=>I.ok.exfs L z hL;exact⟨hk,⟨L,_,hf,hn,e,hd⟩,ih (fun b hb=>hs b (by unfold dw;rw[filterMap_cons,hf];exact mem_cons_of_mem _ hb)) hr⟩
 exact all X.outer (fun _ hb=>hb) I.ok.funs
theorem Inv.stack(I:Inv X pins σ H s):s.heap.FunFrames X.base X.stack:=by
 rcases I.ok.stk with e|⟨e,hf⟩
 ·rw[e];exact I.funs
 ·rw[e];obtain⟨m,hn,_⟩:=I.loc;refine .cons (by rw[I.ok.kind];decide) hf hn ?_ I.funs;exact Heap.get?_none_of_le (le_trans I.ok.bsz I.ok.above)
theorem Inv.stkSub(I:Inv X pins σ H s):∀b∈dw X.stack,b∈X.env.locals::X.fs:=fun b hb=>by
 rcases I.ok.stk with e|⟨e,hf⟩
 ·rw[e] at hb;exact mem_cons_of_mem _ hb
 ·rw[e] at hb;unfold dw at hb;rw[filterMap_cons,hf] at hb;exact hb
theorem Inv.stkFree(I:Inv X pins σ H s):∀b∈dw X.stack,H b=none:=fun b hb=>by
 rcases mem_cons.mp (I.stkSub b hb) with e|hb
 ·rw[e];exact I.free
 ·obtain⟨_,o,ho,_⟩:=I.ok.funs.mem hb;exact I.base.free b o ho (I.ok.frf b hb) fun z=>I.ok.exfs b z hb
theorem Inv.step{g':Array GenState}{t':Nat}{d':Drawn}{ch:List Addr}(I:Inv X pins σ H s)(hch:∀b∈ch,(b∈X.ex\/X.s₀.heap.objs.size<=b)/\b≠X.env.locals/\(∀x c,X.env.cells.lookup x=some c->c≠b)/\∀p∈X.pn++pins,p.1≠b)(keep:∀b o,b≠X.env.locals->b∉X.fs->b∉ch->s.heap.get? b=some o->H b=none->h'.get? b=some o)(slot:∀b o,b≠X.env.locals->b∈X.fs->b∉ch->s.heap.get? b=some o->H b=none->∃sl,h'.get? b=some { o with slots:=sl })(free:∀b o,b∉ch->s.heap.get? b=some o->H b=none->H' b=none)(there:∀b o,b∉ch->s.heap.get? b=some o->∃o',h'.get? b=some o')(tups:∀b xs,H b=some (.tup xs)->H' b=some (.tup xs))(frzs:∀b o u,H b=some (.frz o u)->H' b=some (.frz o u))(tbls:∀b ps,H b=some (.tbl ps)->∃more,H' b=some (.tbl (ps++more)))(ns:∀m,s.heap.Ns X.env.locals m->h'.Ns X.env.locals m)(hok:cF X.prog X.w H' h')(hg:AllBare g') :
  Inv X pins σ H' { s with heap:=h',gens:=g',drawn:=d',toks:=t' }:=by
 have neL:∀b o,X.s₀.heap.get? b=some o->b≠X.env.locals:=fun b o e=>ne_of_lt (lt_of_lt_of_le (Heap.lt_size e) I.ok.above);have neC:∀b o,X.s₀.heap.get? b=some o->b∉X.ex->b∉ch:=fun b o e hx hb=>by
  rcases(hch b hb).1 with z|z
  ·exact hx z
  ·exact absurd (lt_of_lt_of_le (Heap.lt_size e) z) (lt_irrefl _)
 have cellK:∀x c,X.env.cells.lookup x=some c->∀v,s.heap.IsCell c v->h'.IsCell c v:=fun x c e v ⟨o,ho,hd⟩=>by
  have nch:c∉ch:=fun z=>(hch c z).2.2.1 x c e rfl
  by_cases hc:c∈X.fs
  ·obtain⟨sl,q⟩:=slot c o (I.cne x c e) hc nch ho (I.freeC x c e);exact⟨_,q,hd⟩
  ·exact⟨o,keep c o (I.cne x c e) hc nch ho (I.freeC x c e),hd⟩
 refine⟨I.ok,I.os,hg,⟨fun b o e n hb hx=>?_,fun b o e n hb hx=>?_,fun b o e n hx=>?_,fun b o e hx=>?_,fun b xs e=>tups b xs (I.base.tups b xs e),fun b o xs e=>frzs b o xs (I.base.frzs b o xs e),fun b ps e=>?_⟩,?_,fun x c e=>?_,?_,fun x c e=>?_,fun p hp=>?_,hok,I.len⟩
 ·exact keep b o (neL b o e) hb (neC b o e hx) (I.base.keep b o e n hb hx) (I.base.free b o e n hx)
 ·obtain⟨sl,e1⟩:=I.base.slot b o e n hb hx;obtain⟨sl',e2⟩:=slot b _ (neL b o e) hb (neC b o e hx) e1 (I.base.free b o e n hx);exact⟨sl',e2⟩
 ·obtain⟨o',e1⟩:=I.base.there b o e hx;exact free b o' (neC b o e hx) e1 (I.base.free b o e n hx)
 ·obtain⟨o',e1⟩:=I.base.there b o e hx;exact there b o' (neC b o e hx) e1
 ·obtain⟨m1,e1⟩:=I.base.tbls b ps e;obtain⟨m2,e2⟩:=tbls b _ e1;exact⟨m1++m2,by rw[e2,Array.append_assoc]⟩
 ·obtain⟨m,hn,hl⟩:=I.loc;refine⟨m,ns m hn,fun i x v e1 e2 e3=>?_⟩;obtain⟨u,r,l⟩:=hl i x v e1 e2 e3;refine⟨u,r,?_⟩;rcases l with l|⟨k,c,e,z⟩
  ·exact .inl l
  ·exact .inr ⟨k,c,e,cellK x c e _ z⟩
 ·obtain⟨v,z⟩:=I.cell x c e;exact⟨v,cellK x c e v z⟩
 ·obtain⟨m,⟨o,_,_,ho,_⟩,_⟩:=I.loc;exact free _ o (fun z=>(hch _ z).2.1 rfl) ho I.free
 ·obtain⟨v,o,ho,hd⟩:=I.cell x c e;exact free c o (fun z=>(hch c z).2.2.1 x c e rfl) ho (I.freeC x c e)
 ·obtain⟨e,n,ne,nf,d⟩:=I.pin p hp;have nch:p.1∉ch:=fun z=>(hch p.1 z).2.2.2 p hp rfl;exact⟨keep p.1 p.2 ne nf nch e n,free p.1 p.2 nch e n,ne,nf,d⟩
theorem Inv.un(I:Inv X pins σ H s)(u:Un X.fs [] H H' s.heap h')(hok:cF X.prog X.w H' h'):Inv X pins σ H' { s with heap:=h',toks:=t' }:=by
 obtain⟨m,⟨o,es,ep,ho,r⟩,_⟩:=id I.loc;obtain⟨sl,hL⟩:=u.any ho I.free (by simp);exact I.step (g':=s.gens) (d':=s.drawn) (ch:=[]) (fun _ z=>nomatch z) (fun b o _ hb _ e n=>u.keep b o e n hb (by simp)) (fun b o _ hb _ e n=>u.slot b o e n hb (by simp)) (fun b o _ e n=>u.free b o e n (by simp)) (fun b o _ e=>u.there b o e (by simp)) u.tups u.frzs u.tbls (fun m' hm=>by
  obtain⟨o',es',ep',ho',r'⟩:=hm;rw[ho] at ho';cases ho';exact⟨_,es',ep',hL,r'⟩) hok I.bare
theorem Inv.call{g':Array GenState}{d':Drawn}(I:Inv X pins σ H s)(u:Un (dw X.stack) ch H H' s.heap h')(hok:cF X.prog X.w H' h')(hg:AllBare g')(hch:∀b∈ch,(b∈X.ex\/X.s₀.heap.objs.size<=b)/\b≠X.env.locals/\(∀x c,X.env.cells.lookup x=some c->c≠b)/\∀p∈X.pn++pins,p.1≠b) :
  Inv X pins σ H' { s with heap:=h',gens:=g',drawn:=d',toks:=t' }:=by
 obtain⟨m,⟨o,es,ep,ho,r⟩,_⟩:=id I.loc;obtain⟨sl,hL⟩:=u.any ho I.free fun z=>(hch _ z).2.1 rfl;exact I.step (ch:=ch) hch (fun b o hL hb hc e n=>u.keep b o e n (fun z=>(mem_cons.mp (I.stkSub b z)).elim hL hb) hc) (fun b o _ _ hc e n=>u.any e n hc) (fun b o hc e n=>u.free b o e n hc) (fun b o hc e=>u.there b o e hc) u.tups u.frzs u.tbls (fun m' hm=>by
  obtain⟨o',es',ep',ho',r'⟩:=hm;rw[ho] at ho';cases ho';exact⟨_,es',ep',hL,r'⟩) hok hg
theorem Inv.turned(I:Inv X pins σ H s)(k:∀b o,b≠it->s.heap.get? b=some o->h'.get? b=some o)(hn:H it=none)(hL:it≠X.env.locals)(h1:it∈X.ex\/X.s₀.heap.objs.size<=it)(h2:∀x c,X.env.cells.lookup x=some c->c≠it)(h3:∀p∈X.pn++pins,p.1≠it):Inv X pins σ H { s with heap:=h',toks:=t' }:=by
 have nit:∀b u,H b=some u->b≠it:=fun b u e z=>by rw[z,hn] at e;cases e
 refine I.step (g':=s.gens) (d':=s.drawn) (ch:=[it]) (fun b hb=>?_) (fun b o _ _ hc e _=>k b o (fun z=>hc (by simp[z])) e) (fun b o _ _ hc e _=>⟨o.slots,k b o (fun z=>hc (by simp[z])) e⟩) (fun _ _ _ _ n=>n)
  (fun b o hc e=>⟨o,k b o (fun z=>hc (by simp[z])) e⟩) (fun _ _ e=>e) (fun _ _ _ e=>e) (fun b ps e=>⟨#[],by rw[e];simp⟩) (fun m hm=>?_) (fun b u e=>?_) I.bare
 ·have e:b=it:=by simpa using hb
  subst e;exact⟨h1,hL,h2,h3⟩
 ·obtain⟨o,es,ep,ho,r⟩:=hm;exact⟨o,es,ep,k _ o (Ne.symm hL) ho,r⟩
 ·refine(I.hok b u e).stay (fun c v hc q=>k c v ?_ q) (fun _ q=>q) fun _ _ q=>q;rcases hc with z|z
  ·rw[z];exact nit b u e
  ·exact nit c _ z
theorem Inv.tok(I:Inv X pins σ H s)(t:Nat):Inv X pins σ H { s with toks:=t }:=I.un (h':=s.heap) (t':=t) Un.refl I.hok
theorem Inv.kept{t':Nat}(I:Inv X pins σ H s)(k:∀b u,s.heap.get? b=some u->h'.get? b=some u):Inv X pins σ H { s with heap:=h',toks:=t' }:=I.un (Un.kept k) (I.hok.kept k)
theorem Inv.laid{a:Addr}{o:HO}{t':Nat}(I:Inv X pins σ H s)(k:∀b u,s.heap.get? b=some u->h'.get? b=some u)(hp:s.heap.objs.size<=a)(new:aE X.prog X.w (upd H a o) h' a o) :
  Inv X pins σ (upd H a o) { s with heap:=h',toks:=t' }:=I.un (Un.laid k hp (I.hok.fresh hp)) (I.hok.laid k hp new)
theorem Inv.write{x e:Addr}{o:HO}{t':Nat}(I:Inv X pins σ H s)(mu:pd (H x))(he:e=x\/H e=some (.own x))(k:∀b u,b≠e->s.heap.get? b=some u->h'.get? b=some u)(heo:∃u,h'.get? e=some u)(new:aE X.prog X.w (upd H x o) h' x o):Inv X pins σ (upd H x o) { s with heap:=h',toks:=t' }:=I.un (Un.write mu he k heo) (I.hok.write mu he k heo new)
theorem Inv.weak{σ':List (Option V)}(I:Inv X pins σ H s)(hl:σ'.length=σ.length)(w:∀(i:Nat) v,σ'[i]?=some (some v)->σ[i]?=some (some v)):Inv X pins σ' H s :=
 ⟨I.ok,I.os,I.bare,I.base,let ⟨m,hn,hl'⟩:=I.loc;⟨m,hn,fun i x v e1 e2 e3=>hl' i x v e1 (w i v e2) e3⟩,I.cell,I.free,I.freeC,I.pin,I.hok,hl.trans I.len⟩
theorem Inv.pins_of{pins':List (Addr×Obj)}(I:Inv X pins σ H s)(h:∀p∈pins',s.heap.get? p.1=some p.2/\H p.1=none/\p.1≠X.env.locals/\p.1∉X.fs/\∀v,p.2.data≠.cell v):Inv X pins' σ H s :=
 ⟨I.ok,I.os,I.bare,I.base,I.loc,I.cell,I.free,I.freeC,fun p hp=>(mem_append.mp hp).elim (fun z=>I.pin p (mem_append_left _ z)) (h p),I.hok,I.len⟩
theorem tZ(hN:N.Nodup){j:Nat}{x:Str}(a:N[i]?=some x)(b:N[j]?=some x):i=j:=by obtain⟨h1,e1⟩:=List.getElem?_eq_some_iff.mp a;obtain⟨h2,e2⟩:=List.getElem?_eq_some_iff.mp b;exact(getElem_inj hN).mp (e1.trans e2.symm)
theorem HV{M:Model}{x:Str}{Q:Unit->Shared->Prop}(I:Inv X pins σ H s)(hN:X.N.Nodup)(hi:X.N[i]?=some x)(hx:Loc X.env.scope x)(r:RelV v u)(h:∀s',Inv X pins (σ.set i (some v)) H s'->(∃a,Heap.SameBut a s.heap s'.heap/\(a=X.env.locals\/X.env.cells.lookup x=some a))->Q () s')(hf:X.fn x=true\/X.env.scope.names.lookup x=some .local:=by first|exact .inl rfl|exact .inr rfl|assumption):wpAny M A (storeName X.env x u) Q E s:=by
 obtain⟨m,hn,hl⟩:=id I.loc;have hcls:(X.env.scope.kind==.class||(X.env.scope.kind==.module&&X.env.locals != X.env.globals))=false:=by rw[I.ok.kind];rfl
 have hiσ:i<σ.length:=by rw[I.len];exact(List.getElem?_eq_some_iff.mp hi).1
 have cne:=I.cne;have tracked:∀{a:Addr} {h':Heap},(∃o,s.heap.get? a=some o/\H a=none)->Heap.SameBut a s.heap h'->cF X.prog X.w H h':=fun {a h'} ha hs b ob e=>by
  obtain⟨_,_,hfree⟩:=ha;refine(I.hok b ob e).stay (fun c w' hc q=>(hs.2 c ?_).trans q) (fun _ q=>q) fun _ _ q=>q;rintro rfl;rcases hc with rfl|hc
  ·rw[hfree] at e;cases e
  ·rw[hfree] at hc;cases hc
 rcases hx with hk|hk
 ·refine wpAny_storeName_local hk hn (fun h' hn' hs=>?_) hcls;obtain⟨oL,_,_,hoL,_⟩:=id hn;refine h _ ⟨I.ok,I.os,I.bare,⟨fun b o e n hb hx=>?_,fun b o e n hb hx=>?_,I.base.free,fun b o e hx=>?_,I.base.tups,I.base.frzs,I.base.tbls⟩,⟨_,hn',fun j y v' e1 e2 e3=>?_⟩,fun y c e=>?_,I.free,I.freeC,fun p hp=>?_,tracked ⟨oL,hoL,I.free⟩ hs,by simpa using I.len⟩ ⟨_,hs,.inl rfl⟩
  ·exact(hs.2 b (ne_of_lt (lt_of_lt_of_le (Heap.lt_size e) I.ok.above))).trans (I.base.keep b o e n hb hx)
  ·obtain⟨sl,e1⟩:=I.base.slot b o e n hb hx;exact⟨sl,(hs.2 b (ne_of_lt (lt_of_lt_of_le (Heap.lt_size e) I.ok.above))).trans e1⟩
  ·obtain⟨o',e1⟩:=I.base.there b o e hx;exact⟨o',(hs.2 b (ne_of_lt (lt_of_lt_of_le (Heap.lt_size e) I.ok.above))).trans e1⟩
  ·by_cases hj:j=i
   ·subst hj;rw[hi] at e1;cases e1;rw[getElem?_set_self hiσ] at e2;cases e2;exact⟨u,r,.inl ⟨hk,by simp⟩⟩
   ·rw[getElem?_set_ne (Ne.symm hj)] at e2;obtain⟨u',r',q⟩:=hl j y v' e1 e2 e3;refine⟨u',r',?_⟩;rcases q with ⟨k,e⟩|⟨k,c,e,z⟩
    ·refine .inl ⟨k,?_⟩;have:y≠x:=fun e=>hj (tZ hN e1 (e▸hi));simp[this,e]
    ·exact .inr ⟨k,c,e,z.sameBut hs (cne y c e)⟩
  ·obtain⟨w',z⟩:=I.cell y c e;exact⟨w',z.sameBut hs (cne y c e)⟩
  ·obtain⟨e,n,ne,nf,d⟩:=I.pin p hp;exact⟨(hs.2 p.1 ne).trans e,n,ne,nf,d⟩
 ·have hfn:X.fn x=true:=by
   rcases hf with z|z
   ·exact z
   ·rw[z] at hk;cases hk
  obtain⟨c,hc⟩:=I.ok.has x (.inl hk);obtain⟨w',z⟩:=I.cell x c hc;refine wpAny_storeName_cell I.ok.kind hk hc z (fun h' hc' hs=>?_);obtain⟨oc,hoc,hocd⟩:=id z;refine h { s with heap:=h' } ⟨I.ok,I.os,I.bare,⟨fun b o e n hb hx=>?_,fun b o e n hb hx=>?_,I.base.free,fun b o e hx=>?_,I.base.tups,I.base.frzs,I.base.tbls⟩,⟨m,hn.sameBut hs (Ne.symm (cne x c hc)),fun j y v' e1 e2 e3=>?_⟩,fun y c' e=>?_,I.free,I.freeC,fun p hp=>?_,tracked ⟨oc,hoc,I.freeC x c hc⟩ hs,by simpa using I.len⟩ ⟨c,hs,.inr hc⟩
  ·exact(hs.2 b (ne_of_lt (lt_of_lt_of_le (Heap.lt_size e) (I.ok.cab x c hfn hc)))).trans (I.base.keep b o e n hb hx)
  ·obtain⟨sl,e1⟩:=I.base.slot b o e n hb hx;exact⟨sl,(hs.2 b (ne_of_lt (lt_of_lt_of_le (Heap.lt_size e) (I.ok.cab x c hfn hc)))).trans e1⟩
  ·obtain⟨o',e1⟩:=I.base.there b o e hx;exact⟨o',(hs.2 b (ne_of_lt (lt_of_lt_of_le (Heap.lt_size e) (I.ok.cab x c hfn hc)))).trans e1⟩
  ·by_cases hj:j=i
   ·subst hj;rw[hi] at e1;cases e1;rw[getElem?_set_self hiσ] at e2;cases e2;exact⟨u,r,.inr ⟨.inl hk,c,hc,hc'⟩⟩
   ·rw[getElem?_set_ne (Ne.symm hj)] at e2;obtain⟨u',r',q⟩:=hl j y v' e1 e2 e3;refine⟨u',r',?_⟩;rcases q with q|⟨k,c',e,z'⟩
    ·exact .inl q
    ·refine .inr ⟨k,c',e,z'.sameBut hs ?_⟩;rintro rfl;exact hj (tZ hN e1 (I.ok.inj _ _ _ e hc▸hi))
  ·by_cases hcc:c'=c
   ·subst hcc;exact⟨_,hc'⟩
   ·obtain⟨w2,z2⟩:=I.cell y c' e;exact⟨w2,z2.sameBut hs hcc⟩
  ·obtain⟨e,n,ne,nf,d⟩:=I.pin p hp;refine⟨(hs.2 p.1 ?_).trans e,n,ne,nf,d⟩;intro q;rw[q,hoc] at e;have q':oc=p.2:=Option.some.inj e;exact d w' (by rw[<- q'];exact hocd)
theorem qx{M:Model}{x:Str}{Q:Unit->Shared->Prop}(I:Inv X pins σ H s)(hN:X.N.Nodup)(hi:X.N[i]?=some x)(hx:Loc X.env.scope x)(r:RelV v u)(h:∀s',Inv X pins (σ.set i (some v)) H s'->Q () s')(hf:X.fn x=true\/X.env.scope.names.lookup x=some .local:=by first|exact .inl rfl|exact .inr rfl|assumption):wpAny M A (storeName X.env x u) Q E s :=
 HV I hN hi hx r (fun s' I' _=>h s' I') hf
theorem Inv.call'(I:Inv X pins σ H s)(ho:s'.os=s.os)(u:Un (dw X.stack) ch H H' s.heap s'.heap)(hok:cF X.prog X.w H' s'.heap)(hg:AllBare s'.gens)(hch:∀b∈ch,(b∈X.ex\/X.s₀.heap.objs.size<=b)/\b≠X.env.locals/\(∀x c,X.env.cells.lookup x=some c->c≠b)/\∀p∈X.pn++pins,p.1≠b):Inv X pins σ H' s':=by obtain⟨h',g',d',t',o'⟩:=s';have e:o'=s.os:=ho;subst e;exact I.call (g':=g') (t':=t') (d':=d') u hok hg hch
end
abbrev XK:=Value->Option Addr->Hp->Prop
abbrev St:=List (Option V)
abbrev VK:=V->Hp->Prop
abbrev TE:=St->Hp->VK->Prop
abbrev TT:=St->Hp->(Bool->Hp->Prop)->Prop
abbrev TA:=St->Hp->(List V->Hp->Prop)->Prop
structure Ends where
 nx:St->Hp->Prop
 rt:VK
 bk:St->Hp->Prop:=fun _ _=>False
 ct:St->Hp->Prop:=fun _ _=>False
abbrev TS:=Ends->St->Hp->Prop
def EP(X:Cx)(pins:List (Addr×Obj))(σ:St)(Q:VK)(u:Value)(s':Shared):Prop:=∃v H',Inv X pins σ H' s'/\RelV v u/\Q v H'
def TP(X:Cx)(pins:List (Addr×Obj))(σ:St)(Q:Bool->Hp->Prop)(b:Bool)(s':Shared):Prop:=∃H',Inv X pins σ H' s'/\Q b H'
def AP(X:Cx)(pins:List (Addr×Obj))(σ:St)(Q:List V->Hp->Prop)(us:List Value)(s':Shared):Prop:=∃vs H',Inv X pins σ H' s'/\Vals vs us/\Q vs H'
def SP(X:Cx)(pins:List (Addr×Obj))(D:Ends)(f:Flow)(s':Shared):Prop :=
 match f with
 | .next=>∃σ' H',Inv X pins σ' H' s'/\D.nx σ' H'
 | .brk=>∃σ' H',Inv X pins σ' H' s'/\D.bk σ' H'
 | .cont=>∃σ' H',Inv X pins σ' H' s'/\D.ct σ' H'
 | .ret u=>∃v σ' H',Inv X pins σ' H' s'/\RelV v u/\D.rt v H'
def PE(X:Cx)(e:Expr)(t:TE):Prop :=
 ∀(pins:List (Addr×Obj)) (s:Shared) (σ:St) (H:Hp) (Q:VK),Inv X pins σ H s->t σ H Q->wpAny (model X.prog X.w) X.A (eval e X.env) (EP X pins σ Q) X.xe s
def PT(X:Cx)(e:Expr)(t:TT):Prop :=
 ∀(pins:List (Addr×Obj)) (s:Shared) (σ:St) (H:Hp) (Q:Bool->Hp->Prop),Inv X pins σ H s->t σ H Q->wpAny (model X.prog X.w) X.A (isTrue e X.env (eval e X.env)) (TP X pins σ Q) X.xe s
def PW(X:Cx)(e:Expr)(t:TT):Prop :=
 ∀(whole:Sem Value) (pins:List (Addr×Obj)) (s:Shared) (σ:St) (H:Hp) (Q:Bool->Hp->Prop),Inv X pins σ H s->t σ H Q->wpAny (model X.prog X.w) X.A (isTrue e X.env whole) (TP X pins σ Q) X.xe s
variable {e:Expr}
theorem PW.pt{t:TT}(h:PW X e t):PT X e t:=h _
def PA(X:Cx)(es:List Expr)(t:TA):Prop :=
 ∀(pos:Pos) (pins:List (Addr×Obj)) (s:Shared) (σ:St) (H:Hp) (Q:List V->Hp->Prop),Inv X pins σ H s->t σ H Q->wpAny (model X.prog X.w) X.A (spliced (backTo pos (starEach es X.env))) (AP X pins σ Q) X.xe s
def PS(X:Cx)(st:Stmt)(t:TS):Prop :=
 ∀(pins:List (Addr×Obj)) (s:Shared) (σ:St) (H:Hp) (D:Ends),Inv X pins σ H s->t D σ H->wpAny (model X.prog X.w) X.A (exec st X.env) (SP X pins D) X.xe s
def PSs(X:Cx)(st:List Stmt)(t:TS):Prop :=
 ∀(pins:List (Addr×Obj)) (s:Shared) (σ:St) (H:Hp) (D:Ends),Inv X pins σ H s->t D σ H->wpAny (model X.prog X.w) X.A (execs st X.env) (SP X pins D) X.xe s
theorem aO{α:Type}{t:Sem α}{Q Q':α->Shared->Prop}{M:Model}(h:wpAny M A t Q E s)(hQ:∀a s,Q a s->Q' a s):wpAny M A t Q' E s:=wpAny_mono h hQ fun _ _ x=>x
variable {Q:Value->Shared->Prop} {pos:Pos} {ta tb:TE} {op:CmpOp} {c:Expr}
section
def Bc(i:Nat):TE:=fun σ H Q=>∃v,σ[i]?=some (some v)/\Q v H
def tC(v:V):TE:=fun _ H Q=>Q v H
theorem m6{x:Str}(hN:X.N[i]?=some x)(hv:mm X.env.scope x)(hd:(x==("__debug__" : Str))=false:=by decide)(hcd:(x==("__classdict__" : Str))=false:=by decide):PE X (.Name x pos) (Bc i):=by
 intro pins s σ H Q I h;obtain⟨v,e,h⟩:=h;obtain⟨m,hn,hl⟩:=I.loc;obtain⟨u,r,l⟩:=hl i x v hN e hv;have fin:EP X pins σ Q u s:=⟨v,H,I,r,h⟩
 rcases l with ⟨hk,hm⟩|⟨hk,c,hc,hcell⟩
 ·exact wpAny_Name (wpAny_loadName_local I.ok.kind hk hn hm fin) hd
 ·rcases hk with hk|hk
  ·exact wpAny_Name (wpAny_loadName_cell I.ok.kind hk hc hcell fin) hd
  ·exact wpAny_Name (wpAny_loadName_free I.ok.kind hk hc hcell fin hcd) hd
theorem DA{i j pos}:PE X (.Constant (.int i) j pos) (tC (.int i)):=fun _ _ _ H _ I h=>wpAny_Constant_int ⟨.int i,H,I.tok _,⟨_,rfl⟩,h⟩
theorem CC{b j pos}:PE X (.Constant (.bool b) j pos) (tC (.bl b)):=fun _ _ _ H _ I h=>Constant_bool ⟨.bl b,H,I,rfl,h⟩
theorem Dz{j pos}:PE X (.Constant .none j pos) (tC .non):=fun _ _ _ H _ I h=>Constant_none ⟨.non,H,I,rfl,h⟩
theorem Dy{x j pos}:PE X (.Constant (.str x) j pos) (tC (.str x)):=fun _ _ _ H _ I h=>Calls.Constant_str ⟨.str x,H,I.tok _,⟨_,rfl⟩,h⟩
def Gl(X:Cx)(x:Str):Prop:=X.env.kindOf x=some .globalImplicit
theorem jY{σ:St}{x:Str}(I:Inv X pins σ H s)(hg:Gl X x)(hm:X.mg x=some u)(h:Q u s)(hd:(x==("__debug__" : Str))=false:=by decide):wpAny (model X.prog X.w) X.A (eval (.Name x pos) X.env) Q E s :=
 Calls.Name_function_global I.ok.kind hg (Calls.loadGlobal_global (by rw[I.ok.glob];exact I.mod.glob.keeps I.bk) hm h) hd
theorem oB{σ:St}{x:Str}(I:Inv X pins σ H s)(hg:Gl X x)(hm:X.mg x=none)(hv:bootBuiltins x=some u)(h:Q u s)(hn:x ≠ "__name__" := by decide)(hd:(x==("__debug__" : Str))=false:=by decide):wpAny (model X.prog X.w) X.A (eval (.Name x pos) X.env) Q E s:=by obtain⟨mb,h1,h2⟩:=I.mod.blt;exact Calls.Name_function_global I.ok.kind hg (Calls.loadGlobal_builtin (by rw[I.ok.glob];exact I.mod.glob.keeps I.bk) hm (by rw[I.ok.blt];exact h1.keeps I.bk) ((h2 x hn).trans hv) h) hd
theorem tm{x:Str}(hg:Gl X x)(hm:X.mg x=some u)(r:RelV v u)(hd:(x==("__debug__" : Str))=false:=by decide):PE X (.Name x pos) (tC v) :=
 fun _ _ _ H _ I h=>jY I hg hm ⟨v,H,I,r,h⟩ hd
theorem ya{x:Str}(hg:Gl X x)(hm:X.mg x=none)(hv:bootBuiltins x=some u)(r:RelV v u)(hn:x ≠ "__name__" := by decide)(hd:(x==("__debug__" : Str))=false:=by decide):PE X (.Name x pos) (tC v) :=
 fun _ _ _ H _ I h=>oB I hg hm hv ⟨v,H,I,r,h⟩ hn hd
variable {a b:Expr}
def PC(X:Cx)(op:CmpOp)(a b:Expr)(t:TE):Prop :=
 ∀(pins:List (Addr×Obj)) (s:Shared) (σ:St) (H:Hp) (Q:VK),Inv X pins σ H s->t σ H Q ->
  wpAny (model X.prog X.w) X.A (eval a X.env) (fun v s₁=>wpAny (model X.prog X.w) X.A (eval b X.env) (fun u s₂=>wpAny (model X.prog X.w) X.A (compareOp op v u) (EP X pins σ Q) X.xe s₂) X.xe s₁) X.xe s
theorem y6(b:Expr)(h:op≠.In)(h2:op≠.NotIn):behindInMarks op b=false:=by
 have e1:(op==CmpOp.In)=false:=by cases op<;>first|rfl|exact absurd rfl h
 have e2:(op==CmpOp.NotIn)=false:=by cases op<;>first|rfl|exact absurd rfl h2
 cases b<;>simp[behindInMarks,e1,e2]
def Bb(ta:TE):TE:=fun σ H Q=>ta σ H fun x H1=>Q (.bl (decide (x=.non))) H1
def CB(ta:TE):TE:=fun σ H Q=>ta σ H fun x H1=>Q (.bl (!decide (x=.non))) H1
theorem RelV.none_iff{x:V}{v:Value}(r:RelV x v):(v==Value.none)=decide (x=.non):=by
 cases x with
 | non=>cases r;rfl
 | bl _=>cases r;rfl
 | int _=>obtain⟨t,rfl⟩:=r;rfl
 | str _=>obtain⟨t,rfl⟩:=r;rfl
 | byt _=>obtain⟨t,rfl⟩:=r;rfl
 | flt _=>obtain⟨t,rfl⟩:=r;rfl
 | ref _=>cases r;rfl
 | ty _=>cases r;rfl
theorem xj{j pos'}(ha:PE X a ta):PC X .Is a (.Constant .none j pos') (Bb ta):=by intro pins s σ H Q I h;refine aO (ha pins s σ H _ I h) fun v s1 ⟨x,H1,I1,r1,q1⟩=>?_;exact Constant_none (is_none_gen ⟨.bl _,H1,I1,by rw[r1.none_iff];rfl,q1⟩)
theorem Ft{j pos'}(ha:PE X a ta):PC X .IsNot a (.Constant .none j pos') (CB ta):=by intro pins s σ H Q I h;refine aO (ha pins s σ H _ I h) fun v s1 ⟨x,H1,I1,r1,q1⟩=>?_;exact Constant_none (isnot_none_gen ⟨.bl _,H1,I1,by rw[r1.none_iff];rfl,q1⟩)
def tB(t:TE):TT:=fun σ H Q=>t σ H fun x H1=>∃c,x=.bl c/\Q c H1
theorem Dx{t:TE}(h:PC X op a b t)(h1:behindInMarks op b=false:=by first|exact y6 _ (by decide) (by decide)|rfl):PE X (.Compare a [op] [b] pos) t:=fun pins s σ H Q I hw=>wpAny_Compare1 (h pins s σ H Q I hw) h1
theorem Dw{t:TE}(h:PC X op a b t)(h1:behindInMarks op b=false:=by first|exact y6 _ (by decide) (by decide)|rfl):PT X (.Compare a [op] [b] pos) (tB t):=by intro pins s σ H Q I hw;refine wpAny_isTrue_Compare1 (aO (h pins s σ H _ I hw) fun v s1 h1=>aO h1 fun u s2 h2=>aO h2 fun c s3 ⟨x,H1,I1,r1,q1⟩=>?_) h1;obtain⟨d,rfl,q⟩:=q1;cases r1;exact wpAny_truthy_bool ⟨H1,I1,q⟩
theorem Dv{t:TE}(h:PE X e t)(he:∀whole,isTrue e X.env whole=(do let v <- whole;standAt e.pos;holding [v] (truthy v)):=by intro _;rfl):PT X e (tB t):=by intro pins s σ H Q I hw;refine isTrue_plain (aO (h pins s σ H _ I hw) fun v s1 ⟨x,H1,I1,r1,q1⟩=>?_) (he _);obtain⟨d,rfl,q⟩:=q1;cases r1;exact wpAny_truthy_bool ⟨H1,I1,q⟩
variable {tA tB':TT} {rest:List Expr}
def Ba(t u:TT):TT:=fun σ H Q=>t σ H fun c H1=>if c=true then u σ H1 Q else Q false H1
def J_(t u:TT):TT:=fun σ H Q=>t σ H fun c H1=>if c=true then Q true H1 else u σ H1 Q
def A_(t:TT):TT:=fun σ H Q=>t σ H fun c H1=>Q (!c) H1
theorem Fs(ha:PT X a tA):PW X (.BoolOp .And [a] pos) tA:=by
 intro wh pins s σ H Q I h;refine isTrue_and (aO (ha pins s σ H Q I h) fun c s1 e=>?_);cases c with
 | true=>exact isTrue_and_nil e
 | false=>exact e
theorem Du(ha:PT X a tA):PW X (.BoolOp .Or [a] pos) tA:=by
 intro wh pins s σ H Q I h;refine isTrue_or (aO (ha pins s σ H Q I h) fun c s1 e=>?_);cases c with
 | false=>exact isTrue_or_nil e
 | true=>exact e
theorem Eb(ha:PT X a tA)(hb:PW X (.BoolOp .And (b::rest) pos) tB'):PW X (.BoolOp .And (a::b::rest) pos) (Ba tA tB'):=by
 intro wh pins s σ H Q I h;refine isTrue_and (aO (ha pins s σ H _ I h) fun c s1 ⟨H1,I1,q1⟩=>?_);cases c with
 | true=>exact hb wh pins s1 σ H1 Q I1 q1
 | false=>exact⟨H1,I1,q1⟩
theorem CA(ha:PT X a tA)(hb:PW X (.BoolOp .Or (b::rest) pos) tB'):PW X (.BoolOp .Or (a::b::rest) pos) (J_ tA tB'):=by
 intro wh pins s σ H Q I h;refine isTrue_or (aO (ha pins s σ H _ I h) fun c s1 ⟨H1,I1,q1⟩=>?_);cases c with
 | true=>exact⟨H1,I1,q1⟩
 | false=>exact hb wh pins s1 σ H1 Q I1 q1
theorem Ea(ha:PT X a tA):PT X (.UnaryOp .Not a pos) (A_ tA):=by intro pins s σ H Q I h;exact isTrue_not (ha pins s σ H (fun c H1=>Q (!c) H1) I h)
def Cz(ta tb:TE):TE:=fun σ H Q=>ta σ H fun x H1=>∃c,x=.bl c/\if c=true then tb σ H1 Q else Q (.bl false) H1
def A9(ta tb:TE):TE:=fun σ H Q=>ta σ H fun x H1=>∃c,x=.bl c/\if c=true then Q (.bl true) H1 else tb σ H1 Q
def Cy(ta:TE):TE:=fun σ H Q=>ta σ H fun x H1=>∃c,x=.bl c/\Q (.bl (!c)) H1
theorem D_{op}{t:TE}(h:PE X a t):PE X (.BoolOp op [a] pos) t:=fun pins s σ H Q I hw=>BoolOp_one (h pins s σ H Q I hw)
theorem D9(ha:PE X a ta)(hb:PE X (.BoolOp .And (b::rest) pos) tb):PE X (.BoolOp .And (a::b::rest) pos) (Cz ta tb):=by
 intro pins s σ H Q I h;refine BoolOp_and (aO (ha pins s σ H _ I h) fun v s1 ⟨x,H1,I1,r1,q1⟩=>?_);obtain⟨c,rfl,q1⟩:=q1;cases r1;refine wpAny_truthy_bool ?_;cases c with
 | true=>exact hb pins s1 σ H1 Q I1 q1
 | false=>exact⟨.bl false,H1,I1,rfl,q1⟩
theorem Cw(ha:PE X a ta)(hb:PE X (.BoolOp .Or (b::rest) pos) tb):PE X (.BoolOp .Or (a::b::rest) pos) (A9 ta tb):=by
 intro pins s σ H Q I h;refine BoolOp_or (aO (ha pins s σ H _ I h) fun v s1 ⟨x,H1,I1,r1,q1⟩=>?_);obtain⟨c,rfl,q1⟩:=q1;cases r1;refine wpAny_truthy_bool ?_;cases c with
 | false=>exact hb pins s1 σ H1 Q I1 q1
 | true=>exact⟨.bl true,H1,I1,rfl,q1⟩
theorem D8(ha:PE X a ta):PE X (.UnaryOp .Not a pos) (Cy ta):=by intro pins s σ H Q I h;refine UnaryOp_ (aO (ha pins s σ H _ I h) fun v s1 ⟨x,H1,I1,r1,q1⟩=>?_);obtain⟨c,rfl,q1⟩:=q1;cases r1;exact not_of (wpAny_truthy_bool ⟨.bl (!c),H1,I1,rfl,q1⟩)
def Ka(t:TT)(ta tb:TE):TE:=fun σ H Q=>t σ H fun c H1=>if c=true then ta σ H1 Q else tb σ H1 Q
theorem Hk(hc:PT X c tA)(ha:PE X a ta)(hb:PE X b tb):PE X (.IfExp c a b pos) (Ka tA ta tb):=by
 intro pins s σ H Q I h;refine wpAny_IfExp (aO (hc pins s σ H _ I h) fun d s1 ⟨H1,I1,q1⟩=>?_);cases d with
 | true=>exact ha pins s1 σ H1 Q I1 q1
 | false=>exact hb pins s1 σ H1 Q I1 q1
end
def cY(K:Frag)(H:Hp)(a:Addr)(xs:List V):Prop :=
 Rd H a (.lst xs) \/
  ∃(o:Obj) (its:Array Value) (n:Nat),K.lookup a=some o/\o.cls=.type "list" /\ o.dict=none/\o.data=.seq its n/\its.size<=sizeLine/\Vals xs its.toList
def eY(K:Frag)(H:Hp)(a:Addr)(xs:List V):Prop :=
 Rd H a (.tup xs) \/
  ∃(o:Obj) (its:Array Value) (n:Nat),K.lookup a=some o/\o.cls=.type "tuple" /\ o.data=.seq its n/\its.size<=sizeLine/\Vals xs its.toList
def A8:Value->Option V
 | .none=>some .non
 | .bool b=>some (.bl b)
 | .int i _=>some (.int i)
 | .str x _=>some (.str x)
 | .bytes b _=>some (.byt b)
 | .float b _=>some (.flt b)
 | .ref a=>some (.ref a)
 | .type n=>some (.ty n)
 | _=>none
theorem RelV.abs{x:V}(r:RelV x u):A8 u=some x:=by
 cases x with
 | non=>cases r;rfl
 | bl _=>cases r;rfl
 | int _=>obtain⟨t,rfl⟩:=r;rfl
 | str _=>obtain⟨t,rfl⟩:=r;rfl
 | byt _=>obtain⟨t,rfl⟩:=r;rfl
 | flt _=>obtain⟨t,rfl⟩:=r;rfl
 | ref _=>cases r;rfl
 | ty _=>cases r;rfl
theorem RelV.inj{x y:V}{u:Value}(r:RelV x u)(q:RelV y u):x=y:=Option.some.inj (r.abs.symm.trans q.abs)
theorem Vals.inj:∀{xs ys:List V} {us:List Value},Vals xs us->Vals ys us->xs=ys
 | _,_,_,.nil,.nil=>rfl
 | _,_,_,.cons r t,.cons r' t'=>by rw[r.inj r',Vals.inj t t']
variable {xs:List V}
section
variable {σ:St} {ys:List V}
theorem Inv.list(I:Inv X pins σ H s)(h:cY X.K H a xs):∃its:List Value,Vals xs its/\PlainL s.heap a its.toArray/\xs.length<=sizeLine:=by
 rcases h with h|⟨o,its,n,hk,hc,hd,hs,hz,r⟩
 ·obtain⟨z,its,n,r,e⟩:=h.ok I.hok;exact⟨its,r,⟨_,n,e,rfl,rfl,rfl⟩,z⟩
 ·refine⟨its.toList,r,⟨o,n,I.kIn a o hk,hc,hd,by simpa using hs⟩,?_⟩;have e:=r.length;simp only[length_toList] at e;omega
theorem Inv.tuple(I:Inv X pins σ H s)(h:eY X.K H a xs):∃its:List Value,Vals xs its/\IsTup s.heap a its.toArray/\xs.length<=sizeLine:=by
 rcases h with h|⟨o,its,n,hk,hc,hs,hz,r⟩
 ·obtain⟨z,its,r,p⟩:=h.ok I.hok;exact⟨its,r,p.isTup,z⟩
 ·refine⟨its.toList,r,⟨o,I.kIn a o hk,hc,n,by simpa using hs⟩,?_⟩;have e:=r.length;simp only[length_toList] at e;omega
theorem Inv.list_inj(I:Inv X pins σ H s)(h:cY X.K H a xs)(h':cY X.K H a ys):xs=ys:=by
 obtain⟨its,r,⟨o,n,e,_,_,d⟩,_⟩:=I.list h;obtain⟨its',r',⟨o',n',e',_,_,d'⟩,_⟩:=I.list h';rw[e] at e';cases e';rw[d] at d';injection d' with d1 _;have:its=its':=by simpa using congrArg Array.toList d1
 subst this;exact r.inj r'
theorem Inv.tuple_inj(I:Inv X pins σ H s)(h:eY X.K H a xs)(h':eY X.K H a ys):xs=ys:=by
 obtain⟨its,r,⟨o,e,_,n,d⟩,_⟩:=I.tuple h;obtain⟨its',r',⟨o',e',_,n',d'⟩,_⟩:=I.tuple h';rw[e] at e';cases e';rw[d] at d';injection d' with d1 _;have:its=its':=by simpa using congrArg Array.toList d1
 subst this;exact r.inj r'
end
abbrev Cx.wish(X:Cx)(E:Value->Shared->Prop):Cx:={ X with xe:=E }
abbrev Cx.nox(X:Cx):Cx:=X.wish fun _ _=>False
theorem Cx.Ok.wish(ok:X.Ok)(E:Value->Shared->Prop):(X.wish E).Ok :=
 ⟨ok.mod,ok.kind,ok.glob,ok.blt,ok.above,ok.inj,ok.has,ok.cab,ok.hd,ok.frames,ok.stk,ok.exf,ok.bs,ok.bsz,ok.noex,ok.exfs,ok.funs,ok.frf⟩
theorem Cx.Ok.unwish(ok:(X.wish E).Ok):X.Ok :=
 ⟨ok.mod,ok.kind,ok.glob,ok.blt,ok.above,ok.inj,ok.has,ok.cab,ok.hd,ok.frames,ok.stk,ok.exf,ok.bs,ok.bsz,ok.noex,ok.exfs,ok.funs,ok.frf⟩
section
variable {σ:St}
theorem Inv.wish(I:Inv X pins σ H s)(E:Value->Shared->Prop):Inv (X.wish E) pins σ H s:=⟨I.ok.wish E,I.os,I.bare,I.base,I.loc,I.cell,I.free,I.freeC,I.pin,I.hok,I.len⟩
theorem Inv.unwish(I:Inv (X.wish E) pins σ H s):Inv X pins σ H s:=⟨I.ok.unwish,I.os,I.bare,I.base,I.loc,I.cell,I.free,I.freeC,I.pin,I.hok,I.len⟩
end
variable {te:TE} {tc:TT}
section
variable {st:Stmt} {rest:List Stmt} {t u:TS}
def Cv:TS:=fun D σ H=>D.nx σ H
def A7(t u:TS):TS:=fun D σ H=>t { D with nx:=u D } σ H
theorem Fq:PSs X [] Cv:=fun _ _ σ H _ I h=>wpAny_execs_nil ⟨σ,H,I,h⟩
theorem yZ(h1:PS X st t)(h2:PSs X rest u):PSs X (st::rest) (A7 t u):=by
 intro pins s σ H D I h;refine wpAny_execs_cons (aO (h1 pins s σ H { D with nx:=u D } I h) fun f s1 q=>?_);cases f with
 | next =>
  obtain⟨σ',H',I',q⟩:=q;exact h2 pins s1 σ' H' D I' q
 | ret v=>exact q
 | brk=>exact q
 | cont=>exact q
theorem x_(h1:PS X st t):PSs X [st] t:=by
 intro pins s σ H D I h;refine wpAny_execs_cons (aO (h1 pins s σ H D I h) fun f s1 q=>?_);cases f with
 | next=>exact wpAny_execs_nil q
 | ret v=>exact q
 | brk=>exact q
 | cont=>exact q
def Cu:TS:=fun D σ H=>D.ct σ H
theorem Jo:PS X (.Continue pos) Cu:=fun _ _ σ H _ I h=>wpAny_Continue ⟨σ,H,I,h⟩
theorem Inv.quiet{σ:St}(I:Inv X pins σ H s):interactive X.env=false:=by simp[interactive,I.ok.kind]
def Ct(te:TE):TS:=fun D σ H=>te σ H fun _ H1=>D.nx σ H1
theorem xZ(he:PE X e te)(hs:swapsWith e none pos.line X.env=pure false:=by rfl):PS X (.Expr e pos) (Ct te):=by intro pins s σ H D I h;exact wpAny_Expr_any (aO (he pins s σ H _ I h) fun v s1 ⟨x,H1,I1,r1,q1⟩=>⟨σ,H1,I1,q1⟩) I.quiet hs
def A6(te:TE):TS:=fun D σ H=>te σ H D.rt
theorem D7(he:PE X e te):PS X (.Return (some e) pos) (A6 te):=by intro pins s σ H D I h;exact wpAny_Return_some (aO (he pins s σ H _ I h) fun v s1 ⟨x,H1,I1,r1,q1⟩=>⟨x,σ,H1,I1,r1,q1⟩)
def A5(c:TT)(t u:TS):TS:=fun D σ H=>c σ H fun b H1=>if b=true then t D σ H1 else u D σ H1
theorem Cs{a b:List Stmt}(hc:PT X c tc)(ha:PSs X a t)(hb:PSs X b u):PS X (.If c a b pos) (A5 tc t u):=by
 intro pins s σ H D I h;refine wpAny_If (aO (hc pins s σ H _ I h) fun d s1 ⟨H1,I1,q1⟩=>?_);cases d with
 | true=>exact ha pins s1 σ H1 D I1 q1
 | false=>exact hb pins s1 σ H1 D I1 q1
end
abbrev TG:=V->St->Hp->(St->Hp->Prop)->Prop
abbrev lp:=List V->St->Hp->(St->Hp->Prop)->Prop
def PG(X:Cx)(target:Expr)(t:TG):Prop :=
 ∀(pins:List (Addr×Obj)) (s:Shared) (σ:St) (H:Hp) (v:V) (u:Value) (Q:St->Hp->Prop),Inv X pins σ H s->RelV v u->t v σ H Q ->
  wpAny (model X.prog X.w) X.A (assign target X.env u) (fun _ s'=>∃σ' H',Inv X pins σ' H' s'/\Q σ' H') X.xe s
def PGs(X:Cx)(ts:List Expr)(t:lp):Prop :=
 ∀(pins:List (Addr×Obj)) (s:Shared) (σ:St) (H:Hp) (vs:List V) (us:List Value) (Q:St->Hp->Prop),Inv X pins σ H s->Vals vs us->t vs σ H Q ->
  wpAny (model X.prog X.w) X.A (assignInOrder ((assignEach ts X.env).map (·.2)) us) (fun _ s'=>∃σ' H',Inv X pins σ' H' s'/\Q σ' H') X.xe s
abbrev rH:=V->V->V->Hp->(Hp->Prop)->Prop
def vI(X:Cx)(t:rH):Prop :=
 ∀(pins:List (Addr×Obj)) (s:Shared) (σ:St) (H:Hp) (o i v:V) (ov iv u:Value) (Q:Hp->Prop),Inv X pins σ H s->RelV o ov->RelV i iv->RelV v u->t o i v H Q ->
  wpAny (model X.prog X.w) X.A (setItem ov iv u) (fun _ s'=>∃H',Inv X pins σ H' s'/\Q H') X.xe s
variable {es:List Expr} {k n:Nat} {tg:Expr} {pos':Pos}
def h_(i:Nat):TG:=fun v σ H Q=>Q (σ.set i (some v)) H
theorem tj{x:Str}(hN:X.N.Nodup)(hi:X.N[i]?=some x)(hx:Loc X.env.scope x)(hf:X.fn x=true\/X.env.scope.names.lookup x=some .local:=by first|exact .inl rfl|exact .inr rfl|assumption):PG X (.Name x pos) (h_ i):=by intro pins s σ H v u Q I r h;exact wpAny_assign_Name (qx I hN hi hx r (fun s' I'=>⟨_,H,I',h⟩) hf)
def A4:lp:=fun vs σ H Q=>vs=[]/\Q σ H
def Cr(t:TG)(u:lp):lp:=fun vs σ H Q=>∃v r,vs=v::r/\t v σ H fun σ' H'=>u r σ' H' Q
theorem Fp:PGs X [] A4:=by intro pins s σ H vs us Q I r h;obtain⟨e,h⟩:=h;subst e;cases r;exact assignInOrder_nil ⟨σ,H,I,h⟩
theorem Hj{t:TG}{u:lp}(h1:PG X e t)(h2:PGs X es u)(hs:(assignEach (e::es) X.env).map (·.2)=assign e X.env::(assignEach es X.env).map (·.2):=by rfl):PGs X (e::es) (Cr t u):=by
 intro pins s σ H vs us Q I r h;obtain⟨v,vr,e1,h⟩:=h;subst e1;cases r with
 | cons r rr =>
  rw[hs];refine assignInOrder_cons (aO (h1 pins s σ H _ _ _ I r h) fun _ s1 ⟨σ1,H1,I1,q1⟩=>?_);exact h2 pins s1 σ1 H1 _ _ Q I1 rr q1
def A3(K:Frag)(n:Nat)(t:lp):TG:=fun v σ H Q=>∃a xs,v=.ref a/\eY K H a xs/\xs.length=n/\t xs σ H Q
theorem D6{t:lp}(hc:X.calm=true)(h:PGs X es t)(hn:(assignEach es X.env).length=n:=by rfl)(hst:(assignEach es X.env).findIdx? (·.1)=none:=by rfl):PG X (.Tuple es k pos) (A3 X.K n t):=by intro pins s σ H v u Q I r hw;obtain⟨a,xs,e1,hq,hl,hw⟩:=hw;subst e1;cases r;obtain⟨its,rv,ht,hz⟩:=I.tuple hq;refine assign_Tuple_tuple (I.ok.hd hc) ht (by simp[hn,<- hl,rv.length]) hst fun h' hx=>?_;have I1:Inv X pins σ H { s with heap:=h' }:=I.kept (t':=s.toks) fun b o e=>hx b o (ne_of_lt (Heap.lt_size e)) e;exact h pins _ σ H xs _ Q I1 (by simpa using rv) hw
def A2(to ti:TE)(t:rH):TG:=fun v σ H Q=>to σ H fun o H1=>ti σ H1 fun i H2=>t o i v H2 fun H3=>Q σ H3
theorem D5{o i:Expr}{to ti:TE}{t:rH}(ho:PE X o to)(hi:PE X i ti)(hs:vI X t)(ha:∀v,assign (.Subscript o i pos) X.env v=(do
   let ov <- holding [v] (eval o X.env)
   let iv <- holding [v,ov] (eval i X.env)
   standAt pos
   holding [v,ov,iv] (setItem ov iv v)
   release [v,ov,iv] []):=by intro _;rfl):PG X (.Subscript o i pos) (A2 to ti t):=by
 intro pins s σ H v u Q I r h;rw[ha];refine wpAny_bind (wpAny_holding (aO (ho pins s σ H _ I h) fun ov s1 ⟨x,H1,I1,r1,q1⟩=>?_));refine wpAny_bind (wpAny_holding (aO (hi pins s1 σ H1 _ I1 q1) fun iv s2 ⟨y,H2,I2,r2,q2⟩=>?_));refine wpAny_bind (wpAny_standAt (wpAny_bind (wpAny_holding (aO (hs pins s2 σ H2 x y v ov iv u _ I2 r1 r2 r q2) fun _ s3 ⟨H3,I3,q3⟩=>?_))));exact wpAny_release ⟨σ,H3,I3,q3⟩
def rG(te:TE)(g:TG):TS:=fun D σ H=>te σ H fun x H1=>g x σ H1 D.nx
theorem D4{g:TG}(he:PE X e te)(hg:PG X tg g)(hs:swapsWithSole [tg] e pos.line X.env=pure false:=by rfl)(hw:swappedStores [tg] e X.env=pure none:=by rfl)(h1:(assignEach [tg] X.env).map (·.2)=[assign tg X.env]:=by rfl):PS X (.Assign [tg] e pos) (rG te g):=by intro pins s σ H D I h;refine wpAny_Assign_stores (aO (he pins s σ H _ I h) fun v s1 ⟨x,H1,I1,r1,q1⟩=>?_) hs hw;rw[h1];exact aO (hg pins s1 σ H1 x v _ I1 r1 q1) fun _ s2 q=>q
theorem D3{x:Str}(hN:X.N.Nodup)(hi:X.N[i]?=some x)(hx:Loc X.env.scope x)(he:PE X e te)(hs:swapsWith e (some (.Name x pos')) pos.line X.env=pure false:=by rfl)(hf:X.fn x=true\/X.env.scope.names.lookup x=some .local:=by first|exact .inl rfl|exact .inr rfl|assumption) :
  PS X (.Assign [.Name x pos'] e pos) (rG te (h_ i)):=by
 intro pins s σ H D I h;refine wpAny_Assign_Name (aO (he pins s σ H _ I h) fun v s1 ⟨y,H1,I1,r1,q1⟩=>?_) hs;exact qx I1 hN hi hx r1 (fun s2 I2=>⟨_,H1,I2,q1⟩) hf
variable {body:List Stmt}
def D0(c:TT)(tb:TS):TS:=fun D σ H=>∃W:Nat->St->Hp->Prop,(∃m,W m σ H)/\∀m σ H,W m σ H ->
 c σ H fun b H1=>if b=true then ∃N:St->Hp->Prop,(∀σ' H',N σ' H'->∃m',m'<m/\W m' σ' H')/\tb { D with nx:=N,ct:=N,bk:=D.nx } σ H1 else D.nx σ H1
theorem Hi{tb:TS}(hp:PassesOwn (model X.prog X.w) X.A X.env X.xe)(hc:PT X c tc)(hb:PSs X body tb):PS X (.While c body [] pos) (D0 tc tb):=by
 intro pins s σ H D I h;obtain⟨W,⟨m0,w0⟩,turn⟩:=h;refine wpAny_While (codeAny_whileLoop (fun n s'=>∃σ' H',Inv X pins σ' H' s'/\W n σ' H') ?_ m0 ⟨σ,H,I,w0⟩);rintro n s1 ⟨σ1,H1,I1,w1⟩;refine wpAny_passesOwn hp (aO (hc pins s1 σ1 H1 _ I1 (turn n σ1 H1 w1)) fun b s2 ⟨H2,I2,q2⟩=>?_);cases b with
 | true =>
  obtain⟨N,hN,q2⟩:=q2;rw[if_pos rfl];refine wpAny_passesOwn hp (aO (hb pins s2 σ1 H2 _ I2 q2) fun f s3 q3=>?_);cases f with
  | next =>
   obtain⟨σ3,H3,I3,n3⟩:=q3;obtain⟨m',hm,w3⟩:=hN σ3 H3 n3;exact⟨m',hm,σ3,H3,I3,w3⟩
  | cont =>
   obtain⟨σ3,H3,I3,n3⟩:=q3;obtain⟨m',hm,w3⟩:=hN σ3 H3 n3;exact⟨m',hm,σ3,H3,I3,w3⟩
  | brk=>exact q3
  | ret v=>exact q3
 | false =>
  rw[if_neg Bool.false_ne_true];exact wpAny_execs_nil ⟨σ1,H2,I2,q2⟩
structure It where
 go:Nat->Hp->Prop
 yld:Nat->Hp->V->Hp->Prop
 stop:Nat->Hp->Prop
def kU(X:Cx)(pins:List (Addr×Obj))(H:Hp)(b:Addr):Prop :=
 H b=none/\b≠X.env.locals/\b∉X.fs/\(b∈X.ex\/X.s₀.heap.objs.size<=b)/\(∀x c,X.env.cells.lookup x=some c->c≠b)/\∀p∈X.pn++pins,p.1≠b
theorem Inv.fpOk{σ:St}(I:Inv X pins σ H s)(hb:s.heap.objs.size<=b)(hn:H' b=none):kU X pins H' b:=by
 refine⟨hn,ne_of_gt (lt_of_lt_of_le I.lt hb),I.nofs hb,.inr (le_trans I.sz hb),fun x c e z=>?_,fun p hp z=>?_⟩
 ·obtain⟨v,q⟩:=I.cell x c e;exact absurd (lt_of_lt_of_le q.lt (by rw[z];exact hb)) (lt_irrefl _)
 ·exact absurd (lt_of_lt_of_le (Heap.lt_size (I.pin p hp).1) (by rw[z];exact hb)) (lt_irrefl _)
structure Turn (P:Program) (w:World) (K:Frag) (tg:Expr) (J:It) (fp:List Addr) (it:Addr) (tn:Nat->Heap->Prop):Prop where
 mem:it∈fp
 obj:∀i h,tn i h->∀b∈fp,∃o,h.get? b=some o/\∀v,o.data≠.cell v
 keep:∀i h h',tn i h->(∀b∈fp,∀o,h.get? b=some o->h'.get? b=some o)->tn i h'
 item:∀(X:Cx),X.prog=P->X.w=w->X.K=K->X.calm=true->∀(i:Nat) (pins:List (Addr×Obj)) (s:Shared) (σ:St) (H:Hp) (E:Value->Shared->Prop),Inv X pins σ H s->(∀b∈fp,kU X pins H b)->tn i s.heap->J.go i H ->
  wpAny (model P w) X.A (pyNext (.ref it)) (fun r s1=>∃u,r=some u /\
   wpAny (model P w) X.A (letOwnedTupleGo tg (.ref it) u) (fun _ s2=>∃x H',Inv X pins σ H' s2/\RelV x u/\J.yld i H x H'/\tn (i+1) s2.heap/\∀b∈fp,H' b=none) E s1) E s
 done:∀(X:Cx),X.prog=P->X.w=w->X.K=K->X.calm=true->∀(i:Nat) (pins:List (Addr×Obj)) (s:Shared) (σ:St) (H:Hp) (E:Value->Shared->Prop),Inv X pins σ H s->(∀b∈fp,kU X pins H b)->tn i s.heap->J.stop i H ->
  wpAny (model P w) X.A (pyNext (.ref it)) (fun r s1=>r=none/\Inv X pins σ H s1) E s
 self:∀(A:Around) (i:Nat) (s:Shared) (Q:Value->Shared->Prop) (E:Value->Shared->Prop),tn i s.heap->Q (.ref it) s->wpAny (model P w) A (pyIter (.ref it)) Q E s
abbrev TI:=St->Hp->(It->Hp->Prop)->Prop
def AV(X:Cx)(pins:List (Addr×Obj))(σ:St)(tg:Expr)(R:It->Hp->Prop)(itv:Value)(s2:Shared):Prop :=
 ∃(it:Addr) (fp:List Addr) (tn:Nat->Heap->Prop) (J:It) (H':Hp),itv=.ref it/\Inv X pins σ H' s2/\Turn X.prog X.w X.K tg J fp it tn/\tn 0 s2.heap/\(∀b∈fp,kU X pins H' b)/\R J H'
def PI(X:Cx)(tg iter:Expr)(wi:TI):Prop :=
 ∀(pins:List (Addr×Obj)) (s:Shared) (σ:St) (H:Hp) (R:It->Hp->Prop),Inv X pins σ H s->wi σ H R ->
  wpAny (model X.prog X.w) X.A (eval iter X.env) (fun v s1=>wpAny (model X.prog X.w) X.A (pyIter v) (AV X pins σ tg R) X.xe s1) X.xe s
theorem pH{M:Model}{o:Obj}{n:String}{vs:Array Value}{Q:Unit->Shared->Prop}(ho:s.heap.get? it=some o)(hc:o.cls=.type n)(hd:o.data=.fields vs)(hn:["enumerate", "zip", "dict_itemiterator", "dict_reverseitemiterator", "odict_iterator", "itertools.zip_longest", "itertools.pairwise"].contains n=false)(hQ:Q () s):wpAny M A (letOwnedTupleGo tg (.ref it) u) Q E s:=by
 unfold letOwnedTupleGo;cases tg<;>first
  | exact wpAny_pure hQ
  | (cases u<;>first
    | exact wpAny_pure hQ
    | (refine wpAny_bind (wpAny_load ho ?_)
       rw[hc,hd];show wpAny M A (if (["enumerate", "zip", "dict_itemiterator", "dict_reverseitemiterator", "odict_iterator", "itertools.zip_longest", "itertools.pairwise"].contains n&&vs[0]?==some (rawInt _))=true then _ else _) Q E s;rw[if_neg (by intro h;rw[hn,Bool.false_and] at h;cases h)];exact wpAny_pure hQ))
def mq(K:Frag)(a:Addr):It :=
 ⟨fun i H=>∃xs x,cY K H a xs/\xs[i]?=some x,fun i H x H'=>H'=H/\∀xs,cY K H a xs->xs[i]?=some x,fun i H=>∃xs,cY K H a xs/\xs.length<=i⟩
def ve(K:Frag)(a:Addr):It :=
 ⟨fun i H=>∃xs x,eY K H a xs/\xs[i]?=some x,fun i H x H'=>H'=H/\∀xs,eY K H a xs->xs[i]?=some x,fun i H=>∃xs,eY K H a xs/\xs.length<=i⟩
def qS(lo:Int)(n:Nat):It:=⟨fun i _=>i<n,fun i H x H'=>H'=H/\x=.int (lo+i),fun i _=>n<=i⟩
variable {K:Frag}
theorem HU(a it:Addr):Turn P w K tg (mq K a) [it] it (fun i h=>h.IsListIter it a i) where
 mem:=by simp
 obj:=fun i h st b hb=>by
  have e:b=it:=by simpa using hb
  subst e;obtain⟨o,e,c,d⟩:=st;exact⟨o,e,fun v z=>by rw[d] at z;cases z⟩
 keep:=fun i h h' st k=>st.at fun o e=>k it (by simp) o e
 item:=by intro X hP hw hK hc i pins s σ H E I hf st hg;subst hP hw hK;obtain⟨xs,x,hq,hx⟩:=hg;obtain⟨its,rv,p,hz⟩:=I.list hq;obtain⟨u,hu,ru⟩:=rv.get hx;obtain⟨f0,f1,f2,f3,f4,f5⟩:=hf it (by simp);refine wpAny_pyNext_list_item st p.isList (x:=u) (by simpa using hu) fun h' st' sb=>?_;have I1:Inv X pins σ H { s with heap:=h' }:=I.turned (t':=s.toks) (fun b o hb e=>(sb.2 b hb).trans e) f0 f1 f3 f4 f5;obtain⟨o,e,c,d⟩:=id st';exact⟨u,rfl,pH (s:={ s with heap:=h' }) e c d (by decide) ⟨x,H,I1,ru,⟨rfl,fun ys hy=>by rw[I.list_inj hy hq];exact hx⟩,st',fun b hb=>(hf b hb).1⟩⟩
 done:=by
  intro X hP hw hK hc i pins s σ H E I hf st hg;subst hP hw hK;obtain⟨xs,hq,hx⟩:=hg;obtain⟨its,rv,p,hz⟩:=I.list hq;obtain⟨f0,f1,f2,f3,f4,f5⟩:=hf it (by simp);have hl:=rv.length;exact wpAny_pyNext_list_end (I.ok.hd hc) st p.isList (by simp;omega) fun h' eb=>⟨rfl,I.turned (t':=s.toks) (fun b o hb e=>eb b o hb e) f0 f1 f3 f4 f5⟩
 self:=fun _ _ _ _ _ st h=>wpAny_pyIter_listiter st h
theorem II(a it:Addr):Turn P w K tg (ve K a) [it] it (fun i h=>h.IsTupleIter it a i) where
 mem:=by simp
 obj:=fun i h st b hb=>by
  have e:b=it:=by simpa using hb
  subst e;obtain⟨o,e,c,d⟩:=st;exact⟨o,e,fun v z=>by rw[d] at z;cases z⟩
 keep:=fun i h h' st k=>st.at fun o e=>k it (by simp) o e
 item:=by intro X hP hw hK hc i pins s σ H E I hf st hg;subst hP hw hK;obtain⟨xs,x,hq,hx⟩:=hg;obtain⟨its,rv,p,hz⟩:=I.tuple hq;obtain⟨u,hu,ru⟩:=rv.get hx;obtain⟨f0,f1,f2,f3,f4,f5⟩:=hf it (by simp);refine wpAny_pyNext_tuple_item st (show s.heap.IsTuple a its.toArray from p) (x:=u) (by simpa using hu) fun h' st' sb=>?_;have I1:Inv X pins σ H { s with heap:=h' }:=I.turned (t':=s.toks) (fun b o hb e=>(sb.2 b hb).trans e) f0 f1 f3 f4 f5;obtain⟨o,e,c,d⟩:=id st';exact⟨u,rfl,pH (s:={ s with heap:=h' }) e c d (by decide) ⟨x,H,I1,ru,⟨rfl,fun ys hy=>by rw[I.tuple_inj hy hq];exact hx⟩,st',fun b hb=>(hf b hb).1⟩⟩
 done:=by
  intro X hP hw hK hc i pins s σ H E I hf st hg;subst hP hw hK;obtain⟨xs,hq,hx⟩:=hg;obtain⟨its,rv,p,hz⟩:=I.tuple hq;obtain⟨f0,f1,f2,f3,f4,f5⟩:=hf it (by simp);have hl:=rv.length;exact wpAny_pyNext_tuple_end (I.ok.hd hc) st (show s.heap.IsTuple a its.toArray from p) (by simp;omega) fun h' eb=>⟨rfl,I.turned (t':=s.toks) (fun b o hb e=>eb b o hb e) f0 f1 f3 f4 f5⟩
 self:=fun _ _ _ _ _ st h=>wpAny_pyIter_tupleiter st h
theorem IH(it:Addr)(lo:Int)(n:Nat):Turn P w K tg (qS lo n) [it] it (fun i h=>IsRangeIter h it (lo+(i:Nat)*1) ((n:Int)-(i:Nat)) 1) where
 mem:=by simp
 obj:=fun i h st b hb=>by
  have e:b=it:=by simpa using hb
  subst e;exact⟨_,st,fun v z=>by
   have z':Data.fields _=Data.cell v:=z;cases z'⟩
 keep:=fun i h h' st k=>k it (by simp) _ st
 item:=by intro X hP hw hK hc i pins s σ H E I hf st hg;subst hP hw hK;obtain⟨f0,f1,f2,f3,f4,f5⟩:=hf it (by simp);have W:=Walks.range (prog:=X.prog) (w:=X.w) (I.ok.hd hc) it lo 1 n;refine W.item i s _ _ hg st fun v h' tk hv st' kk=>?_;obtain⟨t,rfl⟩:=hv;have I1:Inv X pins σ H { s with heap:=h',toks:=tk }:=I.turned (fun b o hb e=>kk b o (by simpa using hb) e) f0 f1 f3 f4 f5;refine⟨_,rfl,pH (s:={ s with heap:=h',toks:=tk }) (n := "range_iterator") st' rfl rfl (by decide) ⟨.int (lo+i),H,I1,⟨t,?_⟩,⟨rfl,rfl⟩,st',fun b hb=>(hf b hb).1⟩⟩;rw[mul_one]
 done:=by
  intro X hP hw hK hc i pins s σ H E I hf st hg;subst hP hw hK;obtain⟨f0,f1,f2,f3,f4,f5⟩:=hf it (by simp);exact wpAny_pyNext_range_end (I.ok.hd hc) st (by have:n<=i:=hg;omega) fun h' eb=>⟨rfl,I.turned (t':=s.toks) (fun b o hb e=>eb b o hb e) f0 f1 f3 f4 f5⟩
 self:=fun _ _ _ _ _ st h=>wpAny_pyIter_rangeiter st h
variable {l:Expr} {tl:TE} {p:Pos} {fp:List Addr}
def Cq(K:Frag)(tl:TE):TI:=fun σ H R=>tl σ H fun x H1=>∃a,x=.ref a/\(∃xs,cY K H1 a xs)/\R (mq K a) H1
def A1(K:Frag)(tl:TE):TI:=fun σ H R=>tl σ H fun x H1=>∃a,x=.ref a/\(∃xs,eY K H1 a xs)/\R (ve K a) H1
theorem Fo(hl:PE X l tl):PI X tg l (Cq X.K tl):=by
 intro pins s σ H R I h;refine aO (hl pins s σ H _ I h) fun v s1 ⟨x,H1,I1,r1,q1⟩=>?_;obtain⟨a,e,⟨xs,hq⟩,q⟩:=q1;subst e;cases r1;obtain⟨its,rv,p,hz⟩:=I1.list hq;refine wpAny_pyIter_list p.isList ?_;refine⟨s1.heap.objs.size,[s1.heap.objs.size],_,_,H1,rfl,I1.kept (t':=s1.toks) fun b o e=>Heap.get?_push_of_some _ e,HU a _,⟨_,Heap.get?_push_size _ rfl,rfl,rfl⟩,fun b hb=>?_,q⟩;have e:b=s1.heap.objs.size:=by simpa using hb
 subst e;exact I1.fpOk (le_refl _) (I1.hok.fresh (le_refl _))
theorem DZ(hl:PE X l tl):PI X tg l (A1 X.K tl):=by
 intro pins s σ H R I h;refine aO (hl pins s σ H _ I h) fun v s1 ⟨x,H1,I1,r1,q1⟩=>?_;obtain⟨a,e,⟨xs,hq⟩,q⟩:=q1;subst e;cases r1;obtain⟨its,rv,p,hz⟩:=I1.tuple hq;refine wpAny_pyIter_tuple (show s1.heap.IsTuple a its.toArray from p) ?_;refine⟨s1.heap.objs.size,[s1.heap.objs.size],_,_,H1,rfl,I1.kept (t':=s1.toks) fun b o e=>Heap.get?_push_of_some _ e,II a _,⟨_,Heap.get?_push_size _ rfl,rfl,rfl⟩,fun b hb=>?_,q⟩;have e:b=s1.heap.objs.size:=by simpa using hb
 subst e;exact I1.fpOk (le_refl _) (I1.hok.fresh (le_refl _))
theorem Hh{σ:St}{R:It->Hp->Prop}{lo hi:Int}{t u v:Tok}{tk:Nat}(I:Inv X pins σ H s)(h1:-(2 ^ 62)<=lo)(h2:lo<2 ^ 62)(h3:-(2 ^ 62)<=hi)(h4:hi<2 ^ 62)(q:R (qS lo (hi-lo).toNat) H):wpAny (model X.prog X.w) X.A (pyIter (.ref s.heap.objs.size)) (AV X pins σ tg R) E { s with heap:=s.heap.push { cls:=.type "range",data:=.fields #[.int lo t,.int hi u,.int 1 v] },toks:=tk }:=by
 refine wpAny_pyIter_range (IsRange.new ..) (small_one h1 h2 h3 h4) ?_;have I1:Inv X pins σ H { s with heap:=s.heap.push { cls:=.type "range",data:=.fields #[.int lo t,.int hi u,.int 1 v] },toks:=tk }:=I.kept fun b o e=>Heap.get?_push_of_some _ e;refine⟨(s.heap.push { cls:=.type "range",data:=.fields #[.int lo t,.int hi u,.int 1 v] }).objs.size,[(s.heap.push { cls:=.type "range",data:=.fields #[.int lo t,.int hi u,.int 1 v] }).objs.size],_,_,H,rfl,
  I1.kept (t':=tk) fun b o e=>Heap.get?_push_of_some _ e,IH _ lo (hi-lo).toNat,?_,fun b hb=>?_,q⟩
 ·have e1:lo+((0:Nat):Int)*1=lo:=by simp
  have e2:(((hi-lo).toNat:Nat):Int)-((0:Nat):Int)=Builtin.Range.rangeSize lo hi 1:=by rw[rangeSize_one];split<;>omega
  show IsRangeIter _ _ (lo+((0:Nat):Int)*1) ((((hi-lo).toNat:Nat):Int)-((0:Nat):Int)) 1;rw[e1,e2];exact Heap.get?_push_size _ rfl
 ·have e:b=(s.heap.push { cls:=.type "range",data:=.fields #[.int lo t,.int hi u,.int 1 v] }).objs.size:=by simpa using hb
  subst e;exact I1.fpOk (le_refl _) (I1.hok.fresh (le_refl _))
def Cp(ta:TA):TI:=fun σ H R=>ta σ H fun vs H1=>∃j:Int,vs=[.int j]/\-(2 ^ 62)<=j/\j<2 ^ 62/\R (qS 0 j.toNat) H1
theorem HS{a:Expr}{ta:TA}(hg:Gl X "range")(hm:X.mg "range" = none)(ha:PA X [a] ta)(hs:starEach [a] X.env=[(false,eval a X.env)]:=by rfl):PI X tg (.Call (.Name "range" p) [a] [] pos) (Cp ta):=by
 intro pins s σ H R I h;refine Call_ (oB I hg hm boot_range (PyProof.Rows.callWith_type1 (aO (ha pos pins s σ H _ I h) fun us s1 ⟨vs,H1,I1,r1,q1⟩=>?_) hs rfl));obtain⟨j,e,q1,q2,q⟩:=q1;subst e;cases r1 with
 | cons r rr =>
  cases rr;obtain⟨t,rfl⟩:=r;exact call_range_1 (Hh I1 (by omega) (by omega) q1 q2 (by simpa using q))
def A0(wi:TI)(g:TG)(tb:TS):TS:=fun D σ H=>wi σ H fun J H1=>∃W:Nat->Nat->St->Hp->Prop,(∃m,W 0 m σ H1)/\∀i m σ H,W i m σ H ->
 (J.stop i H/\D.nx σ H)\/(J.go i H/\∃N:St->Hp->Prop,(∀σ' H',N σ' H'->∃m',m'<m/\W (i+1) m' σ' H')/\∀x H',J.yld i H x H'->g x σ H' fun σ2 H2=>tb { D with nx:=N,ct:=N,bk:=D.nx } σ2 H2)
def m3(fp:List Addr)(h:Heap):List (Addr×Obj):=fp.filterMap fun b=>(h.get? b).map fun o=>(b,o)
theorem qB{o:Obj}(hb:b∈fp)(e:h.get? b=some o):(b,o)∈m3 fp h:=mem_filterMap.mpr ⟨b,hb,by rw[e];rfl⟩
theorem HR{p:Addr×Obj}(hp:p∈m3 fp h):p.1∈fp/\h.get? p.1=some p.2:=by
 obtain⟨b,hb,e⟩:=mem_filterMap.mp hp;cases q:h.get? b with
 | none=>rw[q] at e;cases e
 | some o =>
  rw[q] at e;have e':(b,o)=p:=Option.some.inj e;subst e';exact⟨hb,q⟩
theorem Inv.pinned{σ:St}(I:Inv X pins σ H s)(hf:∀b∈fp,kU X pins H b)(ho:∀b∈fp,∃o,s.heap.get? b=some o/\∀v,o.data≠.cell v):Inv X (pins++m3 fp s.heap) σ H s :=
 I.pins_of fun p hp=>(mem_append.mp hp).elim (fun z=>I.pin p (mem_append_right _ z)) fun z=>by
  obtain⟨hb,e⟩:=HR z;obtain⟨f0,f1,f2,_⟩:=hf p.1 hb;obtain⟨o,e',d⟩:=ho p.1 hb;rw[e] at e';cases e';exact⟨e,f0,f1,f2,d⟩
theorem Inv.unpinned{pl:List (Addr×Obj)}{σ:St}(I:Inv X (pins++pl) σ H s):Inv X pins σ H s:=I.pins_of fun p hp=>I.pin p (mem_append_right _ (mem_append_left _ hp))
theorem DY{iter:Expr}{wi:TI}{g:TG}{tb:TS}(hp:PassesOwn (model X.prog X.w) X.A X.env X.xe)(hc:X.calm=true)(hi:PI X tg iter wi)(hg:PG X tg g)(hb:PSs X body tb)(hs:∀x,foldedSetIterable iter X.env x=pure x:=by intro _;rfl):PS X (.For tg iter body [] pos) (A0 wi g tb):=by
 intro pins s σ H D I h;refine wpAny_For (aO (hi pins s σ H _ I h) fun v s1 h1=>aO h1 fun itv s2 h2=>?_) hs;obtain⟨it,fp,tn,J,H2,e,I2,T,st2,f2,W,⟨m0,w0⟩,turn⟩:=h2;subst e;have stat:∀{H':Hp},(∀b∈fp,H' b=none)->∀b∈fp,kU X pins H' b:=fun hn b hb=>⟨hn b hb,(f2 b hb).2⟩
 refine codeAny_forLoop_any (fun n s'=>∃i σ' H',Inv X pins σ' H' s'/\tn i s'.heap/\(∀b∈fp,H' b=none)/\W i n σ' H') ?_ m0 ⟨0,σ,H2,I2,st2,fun b hb=>(f2 b hb).1,w0⟩;rintro n s3 ⟨i,σ3,H3,I3,st3,fr3,w3⟩;rcases turn i n σ3 H3 w3 with ⟨stop,qn⟩|⟨go,N,hN,step⟩
 ·refine wpAny_passesOwn hp (aO (T.done X rfl rfl rfl hc i pins s3 σ3 H3 X.xe I3 (stat fr3) st3 stop) fun r s4 ⟨hr,I4⟩=>?_);subst hr;exact wpAny_execs_nil ⟨σ3,H3,I4,qn⟩
 ·refine wpAny_passesOwn hp (aO (T.item X rfl rfl rfl hc i pins s3 σ3 H3 X.xe I3 (stat fr3) st3 go) fun r s4 ⟨u,hr,h4⟩=>?_);subst hr;refine wpAny_passesOwn hp (aO h4 fun _ s5 ⟨x,H5,I5,r5,y5,st5,fr5⟩=>?_);have I5':=I5.pinned (stat fr5) (T.obj _ _ st5);refine wpAny_passesOwn hp (aO (hg _ s5 σ3 H5 x u _ I5' r5 (step x H5 y5)) fun _ s6 ⟨σ6,H6,I6,q6⟩=>?_);refine wpAny_passesOwn hp (aO (hb _ s6 σ6 H6 _ I6 q6) fun f s7 q7=>?_);have again:∀{σ7:St} {H7:Hp},Inv X (pins++m3 fp s5.heap) σ7 H7 s7->N σ7 H7->∃m,m<n/\∃i σ' H',Inv X pins σ' H' s7/\tn i s7.heap/\(∀b∈fp,H' b=none)/\W i m σ' H':=fun {σ7 H7} I7 n7=>by
   obtain⟨m',hm,w7⟩:=hN σ7 H7 n7;refine⟨m',hm,i+1,σ7,H7,I7.unpinned,T.keep _ _ _ st5 fun b hb o e=>(I7.pin (b,o) (mem_append_right _ (mem_append_right _ (qB hb e)))).1,fun b hb=>?_,w7⟩;obtain⟨o,e,d⟩:=T.obj _ _ st5 b hb;exact(I7.pin (b,o) (mem_append_right _ (mem_append_right _ (qB hb e)))).2.1
  cases f with
  | next=>obtain⟨σ7,H7,I7,n7⟩:=q7;exact again I7 n7
  | cont=>obtain⟨σ7,H7,I7,n7⟩:=q7;exact again I7 n7
  | brk=>obtain⟨σ7,H7,I7,q7⟩:=q7;exact⟨σ7,H7,I7.unpinned,q7⟩
  | ret v=>obtain⟨x7,σ7,H7,I7,r7,q7⟩:=q7;exact⟨x7,σ7,H7,I7.unpinned,r7,q7⟩
abbrev R2:=V->V->Hp->VK->Prop
def dM(X:Cx)(f:Value->Value->Sem Value)(r:R2):Prop :=
 ∀(pins:List (Addr×Obj)) (s:Shared) (σ:St) (H:Hp) (x y:V) (v u:Value) (Q:VK),Inv X pins σ H s->RelV x v->RelV y u->r x y H Q ->
  wpAny (model X.prog X.w) X.A (f v u) (EP X pins σ Q) X.xe s
def va(X:Cx)(f:Value->Sem Value)(r:V->Hp->VK->Prop):Prop :=
 ∀(pins:List (Addr×Obj)) (s:Shared) (σ:St) (H:Hp) (x:V) (v:Value) (Q:VK),Inv X pins σ H s->RelV x v->r x H Q ->
  wpAny (model X.prog X.w) X.A (f v) (EP X pins σ Q) X.xe s
def aP(X:Cx)(f:Value)(r:List V->Hp->VK->Prop):Prop :=
 ∀(pins:List (Addr×Obj)) (s:Shared) (σ:St) (H:Hp) (xs:List V) (us:List Value) (Q:VK),Inv X pins σ H s->Vals xs us->r xs H Q ->
  wpAny (model X.prog X.w) X.A (call f us) (EP X pins σ Q) X.xe s
def Bq(X:Cx)(r:V->Hp->(Bool->Hp->Prop)->Prop):Prop :=
 ∀(pins:List (Addr×Obj)) (s:Shared) (σ:St) (H:Hp) (x:V) (v:Value) (Q:Bool->Hp->Prop),Inv X pins σ H s->RelV x v->r x H Q ->
  wpAny (model X.prog X.w) X.A (truthy v) (TP X pins σ Q) X.xe s
def mf(r:R2)(ta tb:TE):TE:=fun σ H Q=>ta σ H fun x H1=>tb σ H1 fun y H2=>r x y H2 Q
def J8(r:V->Hp->VK->Prop)(ta:TE):TE:=fun σ H Q=>ta σ H fun x H1=>r x H1 Q
def rI(C:Int->Int->Prop)(g:Int->Int->V):R2:=fun x y H Q=>∃i j,x=.int i/\y=.int j/\C i j/\Q (g i j) H
def kI(g:Int->Int->V):R2:=fun x y H Q=>∃i j,x=.int i/\y=.int j/\Q (g i j) H
def rU(g:Int->V):V->Hp->VK->Prop:=fun x H Q=>∃i,x=.int i/\Q (g i) H
variable {f:Value->Value->Sem Value}
section
variable {a b:Expr} {tc:TE}
theorem rF(ha:PE X a ta)(hb:PE X b tb){σ:St}{R:V->V->Hp->Prop}(I:Inv X pins σ H s)(h:ta σ H fun x H1=>tb σ H1 fun y H2=>R x y H2)(hf:∀v u s2 x y H2,Inv X pins σ H2 s2->RelV x v->RelV y u->R x y H2->wpAny (model X.prog X.w) X.A (f v u) Q X.xe s2) :
  wpAny (model X.prog X.w) X.A (eval a X.env) (fun v s₁=>wpAny (model X.prog X.w) X.A (eval b X.env) (fun u s₂=>wpAny (model X.prog X.w) X.A (f v u) Q X.xe s₂) X.xe s₁) X.xe s:=by
 refine aO (ha pins s σ H _ I h) fun v s1 ⟨x,H1,I1,r1,q1⟩=>?_;refine aO (hb pins s1 σ H1 _ I1 q1) fun u s2 ⟨y,H2,I2,r2,q2⟩=>?_;exact hf v u s2 x y H2 I2 r1 r2 q2
theorem rT{op:Operator}{r:R2}(ho:dM X (binaryOp op) r)(ha:PE X a ta)(hb:PE X b tb):PE X (.BinOp a op b pos) (mf r ta tb):=by intro pins s σ H Q I h;exact wpAny_BinOp (rF ha hb I h fun v u s2 x y H2 I2 rx ry q=>ho pins s2 σ H2 x y v u Q I2 rx ry q)
theorem Co{op:UnaryOp}{r:V->Hp->VK->Prop}(ho:va X (unaryOp op) r)(ha:PE X a ta):PE X (.UnaryOp op a pos) (J8 r ta):=by intro pins s σ H Q I h;exact UnaryOp_ (aO (ha pins s σ H _ I h) fun v s1 ⟨x,H1,I1,r1,q1⟩=>ho pins s1 σ H1 x v Q I1 r1 q1)
theorem u6{C:Int->Int->Prop}{g:Int->Int->Int}(rule:∀(i j:Int) (t u:Tok) (s:Shared) (Q:Value->Shared->Prop) (E:Value->Shared->Prop),C i j->Q (.int (g i j) s.toks) { s with toks:=s.toks+1 }->wpAny (model X.prog X.w) X.A (f (.int i t) (.int j u)) Q E s) :
  dM X f (rI C fun i j=>.int (g i j)):=by
 intro pins s σ H x y v u Q I rx ry h;obtain⟨i,j,rfl,rfl,hc,q⟩:=h;obtain⟨t,rfl⟩:=rx;obtain⟨t',rfl⟩:=ry;exact rule i j t t' s _ _ hc ⟨.int (g i j),H,I.tok _,⟨_,rfl⟩,q⟩
theorem vG{g:Int->Int->Int}(rule:∀(i j:Int) (t u:Tok) (s:Shared) (Q:Value->Shared->Prop) (E:Value->Shared->Prop),Q (.int (g i j) s.toks) { s with toks:=s.toks+1 }->wpAny (model X.prog X.w) X.A (f (.int i t) (.int j u)) Q E s) :
  dM X f (kI fun i j=>.int (g i j)):=by
 intro pins s σ H x y v u Q I rx ry h;obtain⟨i,j,rfl,rfl,q⟩:=h;obtain⟨t,rfl⟩:=rx;obtain⟨t',rfl⟩:=ry;exact rule i j t t' s _ _ ⟨.int (g i j),H,I.tok _,⟨_,rfl⟩,q⟩
theorem pj{g:Int->Int->Bool}(rule:∀(i j:Int) (t u:Tok) (s:Shared) (Q:Value->Shared->Prop) (E:Value->Shared->Prop),Q (.bool (g i j)) s->wpAny (model X.prog X.w) X.A (f (.int i t) (.int j u)) Q E s) :
  dM X f (kI fun i j=>.bl (g i j)):=by
 intro pins s σ H x y v u Q I rx ry h;obtain⟨i,j,rfl,rfl,q⟩:=h;obtain⟨t,rfl⟩:=rx;obtain⟨t',rfl⟩:=ry;exact rule i j t t' s _ _ ⟨.bl (g i j),H,I,rfl,q⟩
def rE(i j:Int):Prop:=0<j/\j<1073741824
def fq(i j:Int):Prop:=(-(2 ^ 64)<i/\i<2 ^ 64)\/(-(2 ^ 64)<j/\j<2 ^ 64)
theorem fq.ok{i j:Int}(h:fq i j):IntMulOk i j:=by
 rcases h with ⟨h1,h2⟩|⟨h1,h2⟩
 ·exact .of_left (intBits_le_64 h1 h2)
 ·exact .of_right (intBits_le_64 h1 h2)
theorem DX:dM X (binaryOp .Add) (kI fun i j=>.int (i+j)):=vG fun _ _ _ _ _ _ _ q=>add_int q
theorem DW:dM X (binaryOp .Sub) (kI fun i j=>.int (i-j)):=vG fun _ _ _ _ _ _ _ q=>sub_int q
theorem DV:dM X (binaryOp .Mult) (rI fq fun i j=>.int (i*j)):=u6 fun _ _ _ _ _ _ _ hc q=>mul_int q hc.ok
theorem Fm:dM X (binaryOp .FloorDiv) (rI rE fun i j=>.int (i / j)):=u6 fun i j _ _ _ _ _ hc q=>by
 have h1:(0:Int)<j:=hc.1;have h2:j<1073741824:=hc.2;exact floordiv_int (by omega) (by rw[fdiv_eq_ediv_of_nonneg i (by omega)];exact q) (.inl (PyProof.noPylong_small (by omega)))
theorem DU:dM X (binaryOp .Mod) (rI (fun _ j=>0<j) fun i j=>.int (i % j)):=u6 fun i j _ _ _ _ _ hc q=>by
 have h1:(0:Int)<j:=hc;exact mod_int' (by omega) (by rw[fmod_eq_emod_of_nonneg i (by omega)];exact q)
theorem J7{f:Value->Sem Value}{g:Int->Int}(rule:∀(i:Int) (t:Tok) (s:Shared) (Q:Value->Shared->Prop) (E:Value->Shared->Prop),Q (.int (g i) s.toks) { s with toks:=s.toks+1 }->wpAny (model X.prog X.w) X.A (f (.int i t)) Q E s) :
  va X f (rU fun i=>.int (g i)):=by
 intro pins s σ H x v Q I rx h;obtain⟨i,rfl,q⟩:=h;obtain⟨t,rfl⟩:=rx;exact rule i t s _ _ ⟨.int (g i),H,I.tok _,⟨_,rfl⟩,q⟩
theorem DT:va X (unaryOp .USub) (rU fun i=>.int (-i)):=J7 fun _ _ _ _ _ q=>neg_int q
end
def vF:V->V->Bool
 | .non,.non=>true|.non,.int _=>true|.int _,.non=>true|.non,.bl _=>true|.bl _,.non=>true|.non,.str _=>true|.str _,.non=>true
 | .int _,.int _=>true|.bl _,.bl _=>true|.str _,.str _=>true|.byt _,.byt _=>true
 | .int _,.str _=>true|.str _,.int _=>true|.bl _,.str _=>true|.str _,.bl _=>true
 | _,_=>false
def AS:R2:=fun x y H Q=>vF x y=true/\Q (.bl (decide (x=y))) H
def AR:R2:=fun x y H Q=>vF x y=true/\Q (.bl (!decide (x=y))) H
theorem xY{i j:Int}:decide (V.int i=V.int j)=(i==j):=by rw[Bool.eq_iff_iff];simp
theorem xh{i j:Bool}:decide (V.bl i=V.bl j)=(i==j):=by rw[Bool.eq_iff_iff];simp
theorem xX{i j:Str}:decide (V.str i=V.str j)=(i==j):=by rw[Bool.eq_iff_iff];simp
theorem xW{i j:Array UInt8}:decide (V.byt i=V.byt j)=(i.toList==j.toList):=by rw[Bool.eq_iff_iff];cases i;cases j;simp
variable {us:List Value} {y:V}
section
variable {a b:Expr} {tc:TE}
theorem du{σ:St}{Q:VK}{k k':Bool}(I:Inv X pins σ H s)(q:Q (.bl k) H)(e:k=k'):EP X pins σ Q (.bool k') s:=by subst e;exact⟨.bl k,H,I,rfl,q⟩
theorem Cn:dM X (compareOp .Eq) AS:=by
 intro pins s σ H x y v u Q I rx ry h;obtain⟨hs,q⟩:=h;cases x with
 | non =>
  cases rx;cases y with
  | non=>cases ry;exact PySem.EqNone.eq_none_none (du I q (by simp))
  | bl j=>cases ry;exact PySem.EqNone.eq_none_bool (du I q (by simp))
  | int j=>obtain⟨t',rfl⟩:=ry;exact eq_none_int (du I q (by simp))
  | str j=>obtain⟨t',rfl⟩:=ry;exact eq_none_str (du I q (by simp))
  | _=>exact absurd (show false=true from hs) Bool.false_ne_true
 | bl i =>
  cases rx;cases y with
  | non=>cases ry;exact PySem.EqNone.eq_bool_none (du I q (by simp))
  | bl j=>cases ry;exact eq_bool (du I q xh)
  | str j=>obtain⟨t',rfl⟩:=ry;exact eq_bool_str (du I q (by simp))
  | _=>exact absurd (show false=true from hs) Bool.false_ne_true
 | int i =>
  obtain⟨t,rfl⟩:=rx;cases y with
  | non=>cases ry;exact eq_int_none (du I q (by simp))
  | int j=>obtain⟨t',rfl⟩:=ry;exact eq_int (du I q xY)
  | str j=>obtain⟨t',rfl⟩:=ry;exact eq_int_str (du I q (by simp))
  | _=>exact absurd (show false=true from hs) Bool.false_ne_true
 | str i =>
  obtain⟨t,rfl⟩:=rx;cases y with
  | non=>cases ry;exact eq_str_none (du I q (by simp))
  | bl j=>cases ry;exact eq_str_bool (du I q (by simp))
  | int j=>obtain⟨t',rfl⟩:=ry;exact eq_str_int (du I q (by simp))
  | str j=>obtain⟨t',rfl⟩:=ry;exact eq_str (du I q xX)
  | _=>exact absurd (show false=true from hs) Bool.false_ne_true
 | byt i =>
  obtain⟨t,rfl⟩:=rx;cases y with
  | byt j=>obtain⟨t',rfl⟩:=ry;exact PySem.W.eq_bytes (du I q xW)
  | _=>exact absurd (show false=true from hs) Bool.false_ne_true
 | _=>cases y<;>exact absurd (show false=true from hs) Bool.false_ne_true
theorem CO:dM X (compareOp .NotEq) AR:=by
 intro pins s σ H x y v u Q I rx ry h;obtain⟨hs,q⟩:=h;cases x with
 | non =>
  cases rx;cases y with
  | non=>cases ry;exact PySem.EqNone.ne_none_none (du I q (by simp))
  | bl j=>cases ry;exact PySem.EqNone.ne_none_bool (du I q (by simp))
  | int j=>obtain⟨t',rfl⟩:=ry;exact ne_none_int (du I q (by simp))
  | str j=>obtain⟨t',rfl⟩:=ry;exact ne_none_str (du I q (by simp))
  | _=>exact absurd (show false=true from hs) Bool.false_ne_true
 | bl i =>
  cases rx;cases y with
  | non=>cases ry;exact PySem.EqNone.ne_bool_none (du I q (by simp))
  | bl j=>cases ry;exact ne_bool (du I q (congrArg not xh))
  | str j=>obtain⟨t',rfl⟩:=ry;exact ne_bool_str (du I q (by simp))
  | _=>exact absurd (show false=true from hs) Bool.false_ne_true
 | int i =>
  obtain⟨t,rfl⟩:=rx;cases y with
  | non=>cases ry;exact ne_int_none (du I q (by simp))
  | int j=>obtain⟨t',rfl⟩:=ry;exact ne_int (du I q (congrArg not xY))
  | str j=>obtain⟨t',rfl⟩:=ry;exact ne_int_str (du I q (by simp))
  | _=>exact absurd (show false=true from hs) Bool.false_ne_true
 | str i =>
  obtain⟨t,rfl⟩:=rx;cases y with
  | non=>cases ry;exact ne_str_none (du I q (by simp))
  | bl j=>cases ry;exact ne_str_bool (du I q (by simp))
  | int j=>obtain⟨t',rfl⟩:=ry;exact ne_str_int (du I q (by simp))
  | str j=>obtain⟨t',rfl⟩:=ry;exact ne_str (du I q (congrArg not xX))
  | _=>exact absurd (show false=true from hs) Bool.false_ne_true
 | byt i =>
  obtain⟨t,rfl⟩:=rx;cases y with
  | byt j=>obtain⟨t',rfl⟩:=ry;exact PySem.W.ne_bytes (du I q (congrArg not xW))
  | _=>exact absurd (show false=true from hs) Bool.false_ne_true
 | _=>cases y<;>exact absurd (show false=true from hs) Bool.false_ne_true
theorem CN:dM X (compareOp .Lt) (kI fun i j=>.bl (decide (i<j))):=pj fun _ _ _ _ _ _ _ q=>lt_int q
theorem wg:dM X (compareOp .LtE) (kI fun i j=>.bl (decide (i<=j))):=pj fun _ _ _ _ _ _ _ q=>le_int q
theorem we:dM X (compareOp .Gt) (kI fun i j=>.bl (decide (j<i))):=pj fun _ _ _ _ _ _ _ q=>gt_int q
theorem CM:dM X (compareOp .GtE) (kI fun i j=>.bl (decide (j<=i))):=pj fun _ _ _ _ _ _ _ q=>ge_int q
theorem iY(b:Expr)(h:op≠.In:=by decide)(h2:op≠.NotIn:=by decide):behindInMarks op b=false:=by
 have e1:(op==CmpOp.In)=false:=by cases op<;>first|rfl|exact absurd rfl h
 have e2:(op==CmpOp.NotIn)=false:=by cases op<;>first|rfl|exact absurd rfl h2
 cases b<;>simp[behindInMarks,e1,e2]
theorem xV{r:R2}(ho:dM X (compareOp op) r)(ha:PE X a ta)(hb:PE X b tb)(hm:behindInMarks op b=false):PE X (.Compare a [op] [b] pos) (mf r ta tb):=by intro pins s σ H Q I h;exact wpAny_Compare1 (rF ha hb I h fun v u s2 x y H2 I2 rx ry q=>ho pins s2 σ H2 x y v u Q I2 rx ry q) hm
def CL(t:TE):TT:=fun σ H Q=>t σ H fun x H'=>∃k,x=.bl k/\Q k H'
theorem Fj{r:R2}(ho:dM X (compareOp op) r)(ha:PE X a ta)(hb:PE X b tb)(hm:behindInMarks op b=false):PT X (.Compare a [op] [b] pos) (CL (mf r ta tb)):=by
 intro pins s σ H Q I h;refine wpAny_isTrue_Compare1 (aO (ha pins s σ H _ I h) fun v s1 ⟨x,H1,I1,r1,q1⟩=>aO (hb pins s1 σ H1 _ I1 q1) fun u s2 ⟨y,H2,I2,r2,q2⟩ =>
  aO (ho pins s2 σ H2 x y v u _ I2 r1 r2 q2) fun c s3 ⟨z,H3,I3,r3,k,e,q3⟩=>?_) hm
 subst e;cases r3;exact wpAny_truthy_bool ⟨H3,I3,q3⟩
def xg(r r':R2)(ta tb tc:TE):TE:=fun σ H Q=>ta σ H fun x H1=>tb σ H1 fun y H2=>r x y H2 fun z H3=>∃k,z=.bl k /\
 (if k=true then tc σ H3 fun w' H4=>r' y w' H4 Q else Q (.bl false) H3)
theorem Hg{op':CmpOp}{r r':R2}(ho:dM X (compareOp op) r)(ho':dM X (compareOp op') r')(ha:PE X a ta)(hb:PE X b tb)(hc:PE X c tc)(hm:lastMarks [op,op'] [b,c]=false:=by with_unfolding_all rfl):PE X (.Compare a [op,op'] [b,c] pos) (xg r r' ta tb tc):=by
 intro pins s σ H Q I h;refine Compare_chain (aO (ha pins s σ H _ I h) fun v s1 ⟨x,H1,I1,r1,q1⟩=>chain_link (aO (hb pins s1 σ H1 _ I1 q1) fun u s2 ⟨y,H2,I2,r2,q2⟩ =>
  aO (ho pins s2 σ H2 x y v u _ I2 r1 r2 q2) fun d s3 ⟨z,H3,I3,r3,k,e,q3⟩=>?_)) hm
 subst e;cases r3;refine wpAny_truthy_bool ?_;cases k with
 | false=>exact ite_ff ⟨.bl false,H3,I3,rfl,q3⟩
 | true=>exact ite_tt (chain_last (aO (hc pins s3 σ H3 _ I3 q3) fun w' s4 ⟨z',H4,I4,r4,q4⟩=>ho' pins s4 σ H4 y z' u w' Q I4 r2 r4 q4))
def ph(K:Frag)(x:V)(H:Hp)(k:Bool):Prop :=
 match x with
 | .non=>k=false
 | .bl b=>k=b
 | .int i=>k=(i != 0)
 | .str y=>y.length<=sizeLine/\k=((y.length:Int) != 0)
 | .byt y=>y.size<=sizeLine/\k=((y.size:Int) != 0)
 | .ref p=>(∃xs,cY K H p xs/\k=!xs.isEmpty)\/(∃xs,eY K H p xs/\k=!xs.isEmpty)\/∃kvs,H p=some (.dK kvs)/\k=!kvs.isEmpty
 | _=>False
theorem IG{κ:Type}{kvs:List (κ×V)}{vs:List (κ×Value)}(r:KV kvs vs):(!vs.isEmpty)=!kvs.isEmpty:=by cases r<;>rfl
theorem zV{its:List Value}(r:Vals xs its):(!its.toArray.isEmpty)=!xs.isEmpty:=by cases r<;>simp
theorem oA:(sizeLine:Nat)<2 ^ 63:=by rw[sizeLine_eq];decide
theorem DR:Bq X (fun x H Q=>∃k,ph X.K x H k/\Q k H):=by
 intro pins s σ H x v Q I rx h;obtain⟨k,e,q⟩:=h;have hl:=oA;have hs:sizeLine=16777216:=sizeLine_eq;cases x with
 | non =>
  cases rx;have e':k=false:=e;subst e';exact truthy_none ⟨H,I,q⟩
 | bl b =>
  cases rx;have e':k=b:=e;subst e';exact wpAny_truthy_bool ⟨H,I,q⟩
 | int i =>
  obtain⟨t,rfl⟩:=rx;have e':k=(i != 0):=e;subst e';exact PySem.P.truthy_int ⟨H,I,q⟩
 | str y =>
  obtain⟨t,rfl⟩:=rx;obtain⟨hy,e'⟩:y.length<=sizeLine/\k=((y.length:Int) != 0):=e;subst e';exact PySem.P.truthy_str (by omega) ⟨H,I.tok _,q⟩
 | byt y =>
  obtain⟨t,rfl⟩:=rx;obtain⟨hy,e'⟩:y.size<=sizeLine/\k=((y.size:Int) != 0):=e;subst e';exact PySem.W.truthy_bytes (by omega) ⟨H,I.tok _,q⟩
 | ref p =>
  cases rx;have e':(∃xs,cY X.K H p xs/\k=!xs.isEmpty)\/(∃xs,eY X.K H p xs/\k=!xs.isEmpty)\/∃kvs,H p=some (.dK kvs)/\k=!kvs.isEmpty:=e;rcases e' with ⟨xs,hx,e'⟩|⟨xs,hx,e'⟩|⟨kvs,hx,e'⟩
  ·subst e';obtain⟨its,r,pl,hz⟩:=I.list hx;have hlen:=r.length;exact wpAny_truthy_list pl.isList (by simp only[size_toArray];omega) ⟨H,I.tok _,by rw[zV r];exact q⟩
  ·subst e';obtain⟨its,r,pl,hz⟩:=I.tuple hx;have hlen:=r.length;exact truthy_tuple pl (by simp only[size_toArray];omega) ⟨H,I.tok _,by rw[zV r];exact q⟩
  ·subst e';obtain⟨hz,hS,vs,r,m⟩:kvs.length<=sizeLine/\(p==sysModules)=false/\∃vs,KV kvs vs/\s.heap.DictOf (eF X.prog X.w) p vs:=I.hok p _ hx;have hlen:kvs.length=vs.length:=Paired.length r;exact wpAny_truthy_dict hS m (by omega) ⟨H,I.tok _,by rw[IG r];exact q⟩
 | _=>exact(show False from e).elim
theorem Hf(ha:PE X a ta)(he:∀whole,isTrue a X.env whole=(do let v <- whole;standAt a.pos;holding [v] (truthy v))) :
  PT X a (fun σ H Q=>ta σ H fun x H'=>∃k,ph X.K x H' k/\Q k H'):=by
 intro pins s σ H Q I h;exact isTrue_plain (aO (ha pins s σ H _ I h) fun v s1 ⟨x,H1,I1,r1,q1⟩=>DR pins s1 σ H1 x v Q I1 r1 q1) (he _)
theorem iR{x:V}(r:Vals [x] us):∃u,us=[u]/\RelV x u:=by
 cases r with
 | cons r1 r2=>cases r2;exact⟨_,rfl,r1⟩
theorem og{x:V}(r:Vals [x,y] us):∃u w',us=[u,w']/\RelV x u/\RelV y w':=by
 cases r with
 | cons r1 r2 =>
  cases r2 with
  | cons r3 r4=>cases r4;exact⟨_,_,rfl,r1,r3⟩
theorem l_:aP X (.type "int") (fun xs H Q=>(∃i,xs=[.int i]/\Q (.int i) H)\/∃k,xs=[.bl k]/\Q (.int (if k then 1 else 0)) H):=by
 intro pins s σ H xs us Q I r h;rcases h with ⟨i,rfl,q⟩|⟨k,rfl,q⟩
 ·obtain⟨u,rfl,t,rfl⟩:=iR r;exact call_int_int ⟨.int i,H,I,⟨_,rfl⟩,q⟩
 ·obtain⟨u,rfl,r1⟩:=iR r;cases r1;exact call_int_bool ⟨.int (if k then 1 else 0),H,I.tok _,⟨_,rfl⟩,q⟩
def vE(K:Frag)(x:V)(H:Hp)(n:Nat):Prop :=
 match x with
 | .str y=>y.length<=sizeLine/\n=y.length
 | .byt y=>y.size<=sizeLine/\n=y.size
 | .ref p=>(∃xs,cY K H p xs/\n=xs.length)\/∃xs,eY K H p xs/\n=xs.length
 | _=>False
theorem He:aP X (.builtin "len") (fun xs H Q=>∃x n,xs=[x]/\vE X.K x H n/\Q (.int n) H):=by
 intro pins s σ H xs us Q I r h;obtain⟨x,n,rfl,e,q⟩:=h;obtain⟨u,rfl,rx⟩:=iR r;have hl:=oA;have hs:sizeLine=16777216:=sizeLine_eq;cases x with
 | str y =>
  obtain⟨t,rfl⟩:=rx;obtain⟨hy,e'⟩:y.length<=sizeLine/\n=y.length:=e;subst e';exact len_str (by omega) ⟨.int _,H,I.tok _,⟨_,rfl⟩,q⟩
 | byt y =>
  obtain⟨t,rfl⟩:=rx;obtain⟨hy,e'⟩:y.size<=sizeLine/\n=y.size:=e;subst e';exact PySem.W.len_bytes (by omega) ⟨.int _,H,I.tok _,⟨_,rfl⟩,q⟩
 | ref p =>
  cases rx;have e':(∃xs,cY X.K H p xs/\n=xs.length)\/∃xs,eY X.K H p xs/\n=xs.length:=e;rcases e' with ⟨xs,hx,e'⟩|⟨xs,hx,e'⟩
  ·subst e';obtain⟨its,r',pl,hz⟩:=I.list hx;have hlen:=r'.length;exact Calls.call_len_list pl.isList (by simp only[size_toArray];omega) ⟨.int xs.length,H,I.tok _,⟨_,by simp only[size_toArray];rw[hlen]⟩,q⟩
  ·subst e';obtain⟨its,r',pl,hz⟩:=I.tuple hx;have hlen:=r'.length;exact len_tuple pl (by simp only[size_toArray];omega) ⟨.int xs.length,H,I.tok _,⟨_,by simp only[size_toArray];rw[hlen]⟩,q⟩
 | _=>exact(show False from e).elim
end
structure gQ (h:Heap) (x dx C:Addr) (mA:Str->Option Value):Prop where
 obj:h.get? x=some (instObj C dx)
 ns:h.Ns1 dx mA
 ne:dx≠x
variable {dx:Addr} {mA:Str->Option Value}
theorem HQ(n:h.Ns1 dx mA):∃od,h.get? dx=some od/\∀name,lookIn name od=some (mA name):=by
 obtain⟨o,es,ep,ho,hd,hk,_,hm⟩:=n;refine⟨o,ho,fun name=>?_⟩;have e:=hm name;unfold nsFind findBy at e;rw[<- find?_toList] at e;unfold lookIn;rw[hd];dsimp only;split
 ·rename_i y q;rw[q] at e;exact congrArg some e
 ·rename_i q;rw[q] at e;have a:es.toList.any (·.refKey)=false:=by rw[any_eq_false];intro y hy;obtain⟨z,t,hkey⟩:=hk y (mem_toList_iff.mp hy);simp[DictEntry.refKey,hkey]
  have a':¬es.toList.any (·.refKey)=true:=by rw[a];exact Bool.false_ne_true
  rw[if_neg a'];exact congrArg some e
theorem gQ.look{x C:Addr}(I:gQ h x dx C mA):∃od,PySem.W.InstAt h x (instObj C dx) C (some od)/\∀name,lookIn name od=some (mA name) :=
 let ⟨od,ho,hl⟩:=HQ I.ns
 ⟨od,⟨I.obj,rfl,rfl,ho⟩,hl⟩
variable {pl:Sem Bool} {prog:Program} {name:Str} {kw:List (Str×Value)}
section
variable {x C f:Addr} {v:Value}
theorem Fh{expr:Bool}(X:K.In s.heap)(I:gQ s.heap x dx C mA)(hg:plainGet K C name=true)(hh:hasDictIn K C=true)(ha:findIn K (.ref C) name=some none)(hv:mA name=some v)(hv':handedIn v=true)(h:Q v { s with toks:=s.toks+1 }) :
  wpAny (model prog w) A (getAttr (.ref x) name expr) Q E s:=by
 obtain⟨od,J,hl⟩:=I.look;exact PySem.W.get_value X J (plainGet_of hg).1 (PySem.W.findObj_own hh ha rfl (by rw[hl,hv])) hv' h
theorem Hd{Q:Value×List Value->Shared->Prop}(X:K.In s.heap)(I:gQ s.heap x dx C mA)(hg:plainGet K C name=true)(hf:findIn K (.ref C) name=some (some (.ref f)))(ht:isFn K (.ref f)=true)(hv:mA name=none)(h:Q (.ref f,[.ref x]) s) :
  wpAny (model prog w) A (getMethod (.ref x) name pl) Q E s:=by
 obtain⟨od,J,hl⟩:=I.look;exact PySem.W.method_fn X J (plainGet_of hg).1 (plainGet_of hg).2 hf (beq_iff_eq.mp ht) (by show(lookIn name od).map (·.isSome)=some false;rw[hl,hv];rfl) h
theorem Fg{ns:List Str}{Q:Unit->Shared->Prop}(X:K.In s.heap)(I:gQ s.heap x dx C mA)(hs:findIn K (.ref C) "__setattr__" = some (some (.builtin "object.__setattr__")))(hp:plainOver K C=true)(ht:takerIn K C name=some none)(hh:hasDictIn K C=true)(hw:PySem.Within mA ns)(hsz:ns.length<=sizeLine)(h:∀h',gQ h' x dx C (fun y=>if y=name then some v else mA y)->Heap.SameBut dx s.heap h'->Q () { s with heap:=h',toks:=s.toks+2 }) :
  wpAny (model prog w) A (setAttr (.ref x) name v) Q E s:=by
 obtain⟨od,J,hl⟩:=I.look;refine set_plain X J hs (PySem.W.osa_open (s:={ s with toks:=s.toks+1 }) (r:=none) X J hp ht fun b=>?_);obtain⟨cd,hc,hd'⟩:=any_some hh;have hx:s.heap.get? x=some ⟨.ref C,some dx,.plain,#[]⟩:=I.obj;refine wpAny_bind (wpAny_pure (wpAny_bind (wpAny_bind (wpAny_loadPart hx (wpAny_bind (here (s:={ s with toks:=s.toks+1 }) (looks_clsIn X hc) ?_))))));rw[hd'];refine wpAny_pure (a:=some dx) (wpAny_bind (wpAny_pure (wpAny_bind ?_)));refine wpAny_nsSet1 (s:={ s with toks:=s.toks+1 }) I.ns fun h' hn2 hs2=>?_;obtain⟨oD,esD,epD,hoD,hdD,hcD⟩:=hn2.count (PySem.Within.cons name v hw);refine wpAny_bind (wpAny_lookBehind hoD (by rw[hdD];exact pastItsLine_dict (le_trans hcD (by rw[length_cons];omega))) ?_);exact wpAny_pure (h _ ⟨(hs2.2 _ (Ne.symm I.ne)).trans I.obj,hn2,I.ne⟩ hs2)
theorem Hc{R:Result->Shared->Prop}{vs:List Value}(X:K.In s.heap)(hm:makesIn K C=true)(hi:findIn K (.ref C) "__init__" = some (some (.ref f)))(hf:typeIn K (.ref f)=some (.type "function"))(h:codeAny (model prog w) (A.under (.builtin "type.__call__" ⟨.ref C::vs,kw⟩)) (.call (.ref f) ⟨.ref (s.heap.objs.size+1)::vs,kw⟩) (PySem.W.InitBack (s.heap.objs.size+1) R)
   { s with heap:=(s.heap.push emptyDict).push (instObj C s.heap.objs.size) }) :
  codeAny (model prog w) A (.call (.ref C) ⟨vs,kw⟩) R s:=by
 obtain⟨hh,g,d,t,os⟩:=s;exact PySem.W.make_core (PySem.W.makes_of X hm) (PySem.W.looks_findIn X hi) (fun self=>bind_fn X self hf) (.inl rfl) h
end
def fH(f:Str)(v:V):List (Str×V)->List (Str×V)
 | []=>[(f,v)]
 | (g,x)::r=>if g=f then (g,v)::r else (g,x)::fH f v r
theorem z_(f g:Str)(v:V):∀fs:List (Str×V),(fH f v fs).lookup g=if g=f then some v else fs.lookup g
 | []=>by
  show List.lookup g [(f,v)]=_
  by_cases h:g=f
  ·have hb:(g==f)=true:=beq_iff_eq.mpr h;simp only[List.lookup,hb,if_pos h]
  ·have hb:(g==f)=false:=beq_eq_false_iff_ne.mpr h;simp only[List.lookup,hb,if_neg h]
 | (k,x)::r=>by
  have ih:=z_ f g v r;rw[show fH f v ((k,x)::r)=(if k=f then (k,v)::r else (k,x)::fH f v r) from rfl]
  by_cases hk:k=f
  ·rw[if_pos hk]
   by_cases h:g=k
   ·have hb:(g==k)=true:=beq_iff_eq.mpr h;simp only[List.lookup,hb,if_pos (h.trans hk)]
   ·have hb:(g==k)=false:=beq_eq_false_iff_ne.mpr h;simp only[List.lookup,hb,if_neg (fun e:g=f=>h (e.trans hk.symm))]
  ·rw[if_neg hk]
   by_cases h:g=k
   ·have hb:(g==k)=true:=beq_iff_eq.mpr h;simp only[List.lookup,hb,if_neg (fun e:g=f=>hk (h.symm.trans e))]
   ·have hb:(g==k)=false:=beq_eq_false_iff_ne.mpr h;simp only[List.lookup,hb];exact ih
theorem uf(f:Str)(v:V):∀fs:List (Str×V),f∈(fH f v fs).map (·.1)/\∀g,g∈fs.map (·.1)->g∈(fH f v fs).map (·.1)
 | []=>⟨by simp[fH],fun g h=>by simp at h⟩
 | (k,x)::r=>by
  obtain⟨i1,i2⟩:=uf f v r;rw[show fH f v ((k,x)::r)=(if k=f then (k,v)::r else (k,x)::fH f v r) from rfl]
  by_cases hk:k=f
  ·rw[if_pos hk];subst hk;exact⟨by simp,fun g h=>by simpa using h⟩
  ·rw[if_neg hk];refine⟨?_,fun g h=>?_⟩
   ·rw[map_cons];exact mem_cons_of_mem _ i1
   ·rw[map_cons] at h ⊢;rcases mem_cons.mp h with e|e
    ·exact mem_cons.mpr (.inl e)
    ·exact mem_cons_of_mem _ (i2 g e)
theorem z9(f:Str)(v:V):∀fs:List (Str×V),(fH f v fs).length<=fs.length+1
 | []=>by simp[fH]
 | (k,x)::r=>by
  have ih:=z9 f v r;rw[show fH f v ((k,x)::r)=(if k=f then (k,v)::r else (k,x)::fH f v r) from rfl]
  by_cases hk:k=f
  ·rw[if_pos hk,length_cons,length_cons];omega
  ·rw[if_neg hk,length_cons,length_cons];omega
theorem dI.some_of{o:Option Value}(r:dI (some v) o):∃u,o=some u/\RelV v u:=by
 cases o with
 | none=>exact(show False from r).elim
 | some u=>exact⟨u,rfl,r⟩
theorem dI.none_of{o:Option Value}(r:dI none o):o=none:=by
 cases o with
 | none=>rfl
 | some u=>exact(show False from r).elim
theorem HP(r:RelV v u):handedIn u=true:=by
 cases v with
 | non=>cases (show u=Value.none from r);rfl
 | bl b=>cases (show u=Value.bool b from r);rfl
 | int i=>obtain⟨t,e⟩:=(show ∃t,u=Value.int i t from r);cases e;rfl
 | str x=>obtain⟨t,e⟩:=(show ∃t,u=Value.str x t from r);cases e;rfl
 | byt b=>obtain⟨t,e⟩:=(show ∃t,u=Value.bytes b t from r);cases e;rfl
 | flt b=>obtain⟨t,e⟩:=(show ∃t,u=Value.float b t from r);cases e;rfl
 | ref a=>cases (show u=Value.ref a from r);rfl
 | ty n=>cases (show u=Value.type n from r);rfl
section
variable {C:Addr} {fs fs':List (Str×V)}
theorem qe(hok:cF P w H h)(e:H a=some (.ins C dx fs)):∃mA,gQ h a dx C mA/\(∀f,dI (fs.lookup f) (mA f))/\PySem.Within mA (fs.map (·.1))/\fs.length<=1000/\H dx=some (.own a):=by
 obtain⟨d,z,ne,ob,mA,n,r,q⟩:=(show aE P w H h a (.ins C dx fs) from hok a _ e)
 exact⟨mA,⟨ob,n,ne⟩,r,q,z,d⟩
end
structure Cls (K:Frag) (C:Addr):Prop where
 pg:plainGet K C Str.empty=true
 hd:hasDictIn K C=true
 po:plainOver K C=true
 sa:findIn K (.ref C) "__setattr__" = some (some (.builtin "object.__setattr__"))
theorem Cls.get{C:Addr}(c:Cls K C)(f:Str):plainGet K C f=true:=c.pg
def NoAttr(K:Frag)(C:Addr)(f:Str):Prop:=findIn K (.ref C) f=some none
theorem NoAttr.taker{C:Addr}{f:Str}(n:NoAttr K C f):takerIn K C f=some none:=by unfold takerIn;rw[show findIn K (.ref C) f=some none from n];rfl
structure Meth (K:Frag) (C:Addr) (m:Str) (f:Addr):Prop where
 at_:findIn K (.ref C) m=some (some (.ref f))
 fn:isFn K (.ref f)=true
 kp:keepIn K (.ref f)=true
variable {m:Str}
section
variable {σ:St} {C:Addr} {fs:List (Str×V)} {f:Str}
theorem IF{b:Bool}(I:Inv X pins σ H s)(e:H a=some (.ins C dx fs))(c:Cls X.K C)(n:NoAttr X.K C f)(l:fs.lookup f=some v)(h:∀u s',Inv X pins σ H s'->RelV v u->Q u s'):wpAny (model X.prog X.w) A (getAttr (.ref a) f b) Q E s:=by obtain⟨mA,O,r,_,_,_⟩:=qe I.hok e;obtain⟨u,hu,ru⟩:=dI.some_of (v:=v) (o:=mA f) (by rw[<- l];exact r f);exact Fh I.kIn O (c.get f) c.hd n hu (HP ru) (h u _ (I.tok _) ru)
theorem uo{g:Addr}{Q:Value×List Value->Shared->Prop}(I:Inv X pins σ H s)(e:H a=some (.ins C dx fs))(c:Cls X.K C)(k:Meth X.K C m g)(l:fs.lookup m=none)(h:Q (.ref g,[.ref a]) s):wpAny (model X.prog X.w) A (getMethod (.ref a) m pl) Q E s:=by obtain⟨mA,O,r,_,_,_⟩:=qe I.hok e;have hn:mA m=none:=dI.none_of (by rw[<- l];exact r m);exact Hd I.kIn O (c.get m) k.at_ k.fn hn h
theorem IE{Q:Unit->Shared->Prop}(I:Inv X pins σ H s)(e:H a=some (.ins C dx fs))(c:Cls X.K C)(n:NoAttr X.K C f)(hl:fs.length<1000)(ry:RelV y u)(h:∀s',Inv X pins σ (upd H a (.ins C dx (fH f y fs))) s'->Q () s'):wpAny (model X.prog X.w) A (setAttr (.ref a) f u) Q E s:=by
 obtain⟨mA,O,r,wi,_,ho⟩:=qe I.hok e;have hz:(fs.map (·.1)).length<=sizeLine:=by rw[length_map,sizeLine_eq];omega
 refine Fg I.kIn O c.sa c.po n.taker c.hd wi hz fun h' O' sb=>h _ ?_;have hd:∃o,h'.get? dx=some o:=let ⟨o,_,_,e',_⟩:=O'.ns;⟨o,e'⟩
 refine I.write (x:=a) (e:=dx) (by rw[e];exact True.intro) (.inr ho) (fun b q hb z=>(sb.2 b hb).trans z) hd ?_;refine⟨by rw[bt O.ne];exact ho,?_,O.ne,O'.obj,_,O'.ns,fun g=>?_,fun g hg=>?_⟩
 ·have:=z9 f y fs;omega
 ·show dI ((fH f y fs).lookup g) (if g=f then some u else mA g);rw[z_]
  by_cases q:g=f
  ·rw[if_pos q,if_pos q];exact ry
  ·rw[if_neg q,if_neg q];exact r g
 ·by_cases q:g=f
  ·rw[q];exact(uf f y fs).1
  ·refine(uf f y fs).2 g (wi g fun z=>hg ?_);show(if g=f then some u else mA g)=none;rw[if_neg q];exact z
theorem Inv.made(I:Inv X pins σ H s):Inv X pins σ (upd (upd H s.heap.objs.size (.own (s.heap.objs.size+1))) (s.heap.objs.size+1) (.ins C s.heap.objs.size []))
  { s with heap:=(s.heap.push emptyDict).push (instObj C s.heap.objs.size) }:=by
 have e1:(s.heap.push emptyDict).get? s.heap.objs.size=some emptyDict:=Heap.get?_push_size s.heap rfl;have e2:((s.heap.push emptyDict).push (instObj C s.heap.objs.size)).get? (s.heap.objs.size+1)=some (instObj C s.heap.objs.size):=by have:=Heap.get?_push_size (s.heap.push emptyDict) (o:=instObj C s.heap.objs.size) rfl;rwa [Heap.size_push] at this
 have e3:(s.heap.push emptyDict).Ns s.heap.objs.size (fun _=>none):=⟨emptyDict,#[],_,e1,rfl,(fun e he=>absurd he (by simp)),fun _=>rfl⟩
 have I1:=I.laid (a:=s.heap.objs.size) (o:=.own (s.heap.objs.size+1)) (h':=s.heap.push emptyDict) (t':=s.toks) (fun b u q=>Heap.get?_push_of_some _ q) (le_refl _) ⟨_,e1⟩;refine I1.laid (a:=s.heap.objs.size+1) (o:=.ins C s.heap.objs.size []) (t':=s.toks) (fun b u q=>Heap.get?_push_of_some _ q) (le_of_eq (Heap.size_push _ _)) ?_;have ne:s.heap.objs.size≠s.heap.objs.size+1:=ne_of_lt (lt_succ_self _);refine⟨by rw[bt ne,ak],zero_le _,ne,e2,fun _=>none,(Heap.Ns1.of_empty e3).at fun o q=>Heap.get?_push_of_some _ q,fun _=>True.intro,fun y hy=>absurd rfl hy⟩
theorem xU{env:Env}{f:Str}(hb:attributeBase e f env (eval e env)=eval e env)(h:wpAny (model prog w) A (eval e env) (fun o s₁=>wpAny (model prog w) A (getAttr o f true) Q E s₁) E s):wpAny (model prog w) A (eval (.Attribute e f pos) env) Q E s :=
 Attribute_any_ h (by rw[arm_eval_Attribute,hb])
end
def Bp(K:Frag)(ta:TE)(f:Str):TE:=fun σ H Q=>ta σ H fun x H1=>∃a C dx fs v,x=.ref a/\H1 a=some (.ins C dx fs)/\Cls K C/\NoAttr K C f/\fs.lookup f=some v/\Q v H1
def Bo(K:Frag)(ta tv:TE)(f:Str):TS:=fun D σ H=>tv σ H fun y H1=>ta σ H1 fun x H2=>∃a C dx fs,x=.ref a/\H2 a=some (.ins C dx fs)/\Cls K C/\NoAttr K C f/\fs.length<1000 /\
 D.nx σ (upd H2 a (.ins C dx (fH f y fs)))
section
variable {o value:Expr} {f:Str} {tpos:Pos} {tv:TE}
theorem DP(he:PE X e ta)(hb:attributeBase e f X.env (eval e X.env)=eval e X.env):PE X (.Attribute e f pos) (Bp X.K ta f):=by
 intro pins s σ H Q I h;refine xU hb (aO (he pins s σ H _ I h) fun u s1 ⟨x,H1,I1,rx,a,C,dx,fs,v,ex,ea,c,n,l,q⟩=>?_);subst ex;obtain rfl:u=Value.ref a:=rx;exact IF I1 ea c n l fun u' s2 I2 ru=>⟨v,H1,I2,ru,q⟩
theorem DO(ha:PE X o ta)(hv:PE X value tv)(hs:swapsWith value (some (.Attribute o f pos')) pos.line X.env=pure false):PS X (.Assign [.Attribute o f pos'] value pos) (Bo X.K ta tv f):=by
 intro pins s σ H D I h;refine plainObj_wpAny_Assign_Attribute (aO (hv pins s σ H _ I h) fun u s1 ⟨y,H1,I1,ry,q⟩=>aO (ha pins s1 σ H1 _ I1 q) fun ov s2 ⟨x,H2,I2,rx,a,C,dx,fs,ex,ea,c,n,l,q2⟩=>?_) hs;subst ex;obtain rfl:ov=Value.ref a:=rx;exact IE I2 ea c n l ry fun s3 I3=>⟨σ,_,I3,q2⟩
end
section
variable {σ:St} {c:Value} {b:Bool}
inductive c9 (K:Frag) (H:Hp):V->Value->Prop where
 | non:c9 K H .non (.type "NoneType")
 | bl (x:Bool):c9 K H (.bl x) (.type "bool")
 | int (i:Int):c9 K H (.int i) (.type "int")
 | str (x:Str):c9 K H (.str x) (.type "str")
 | flt (x:UInt64):c9 K H (.flt x) (.type "float")
 | lst {a:Addr} {xs:List V} (e:H a=some (.lst xs)):c9 K H (.ref a) (.type "list")
 | frz {a:Addr} {o:Obj} {xs:List V} (e:H a=some (.frz o (.lst xs))):c9 K H (.ref a) (.type "list")
 | tup {a:Addr} {xs:List V} (e:H a=some (.tup xs)):c9 K H (.ref a) (.type "tuple")
 | dK {a:Addr} {kvs:List (Key×V)} (e:H a=some (.dK kvs)):c9 K H (.ref a) (.type "dict")
 | dT {a:Addr} {kvs:List (List Key×V)} (e:H a=some (.dT kvs)):c9 K H (.ref a) (.type "dict")
 | ins {a C dx:Addr} {fs:List (Str×V)} (e:H a=some (.ins C dx fs)) (cl:Cls K C) (ha:findIn K (.ref C) "__class__" = some (some (.builtin "object.__class__")))
   (hn:PySem.W.specialIn K (.builtin "object.__class__") "__get__" = some (some (.builtin "getset_descriptor.__get__"))) (htk:PySem.W.takesIn K (.builtin "object.__class__")=some true)
   (hm:mroIn K C (.type "object")=some true):c9 K H (.ref a) (.ref C)
theorem Il{x:V}{t:Value}(I:Inv X pins σ H s)(rx:RelV x u)(ty:c9 X.K H x t)(e:kitOne X.K t c=some b)(h:∀tk,Q (.bool b) { s with toks:=tk }) :
  wpAny (model X.prog X.w) A (call (.builtin "isinstance") [u,c]) Q E s:=by
 cases ty with
 | non=>cases (show u=Value.none from rx);exact kia_one PySem.W.kitx_none I.kIn True.intro e (fun z=>nomatch z) h
 | bl y=>cases (show u=Value.bool y from rx);exact kia_one PySem.W.kitx_bool I.kIn True.intro e (fun z=>nomatch z) h
 | int i=>obtain⟨t,q⟩:=(show ∃t,u=Value.int i t from rx);cases q;exact kia_one PySem.W.kitx_int I.kIn True.intro e (fun z=>nomatch z) h
 | str y=>obtain⟨t,q⟩:=(show ∃t,u=Value.str y t from rx);cases q;exact kia_one PySem.W.kitx_str I.kIn True.intro e (fun z=>nomatch z) h
 | flt y=>obtain⟨t,q⟩:=(show ∃t,u=Value.float y t from rx);cases q;exact kia_one PySem.W.kitx_float I.kIn True.intro e (fun z=>nomatch z) h
 | @lst a xs ea =>
  cases (show u=Value.ref a from rx);obtain⟨_,_,n,_,h1⟩:=(show aE X.prog X.w H s.heap a (.lst xs) from I.hok a _ ea)
  exact kia_one kitx_list I.kIn ⟨_,h1,rfl⟩ e (fun z=>nomatch z) h
 | @frz a ob xs ea =>
  cases (show u=Value.ref a from rx);obtain⟨_,_,_,n,_,h1⟩:=(show aE X.prog X.w H s.heap a (.frz ob (.lst xs)) from I.hok a _ ea)
  exact kia_one kitx_list I.kIn ⟨_,h1,rfl⟩ e (fun z=>nomatch z) h
 | @tup a xs ea =>
  cases (show u=Value.ref a from rx);obtain⟨_,_,_,p⟩:=(show aE X.prog X.w H s.heap a (.tup xs) from I.hok a _ ea)
  obtain⟨o,h1,h2,_⟩:=p;exact kia_one PySem.W.kitx_tuple I.kIn ⟨o,h1,h2⟩ e (fun z=>nomatch z) h
 | @dK a kvs ea =>
  cases (show u=Value.ref a from rx);obtain⟨_,_,vs,_,p⟩:=(show aE X.prog X.w H s.heap a (.dK kvs) from I.hok a _ ea)
  obtain⟨o,es,ep,h1,h2,_⟩:=p;exact kia_one kitx_dict I.kIn ⟨o,h1,h2.1⟩ e (fun z=>nomatch z) h
 | @dT a kvs ea =>
  cases (show u=Value.ref a from rx);obtain⟨_,_,xs,_,o,es,ep,h1,h2,_⟩:=(show aE X.prog X.w H s.heap a (.dT kvs) from I.hok a _ ea)
  exact kia_one kitx_dict I.kIn ⟨o,h1,h2.1⟩ e (fun z=>nomatch z) h
 | @ins a C dx fs ea cl ha hn htk hm =>
  cases (show u=Value.ref a from rx);obtain⟨mA,O,_⟩:=qe I.hok ea;obtain⟨od,J,_⟩:=O.look;exact kia_one (PySem.W.kitx_own (cl.get _) cl.hd ha hn htk hm) I.kIn J e (fun z=>nomatch z) h
end
structure aT (k:Nat) (A:Around):Prop where
 hd:A.handled=none
 dp:A.depth+3*k+5<recursionLimit
 un:A.units+16*k+200<cLine
theorem aT.mono{j:Nat}(r:aT k A)(h:j<=k):aT j A:=⟨r.hd,by have:=r.dp;omega,by have:=r.un;omega⟩
theorem aT.deeper(r:aT (k+1) A)(env:Env):aT k (A.deeper env) :=
 ⟨r.hd,by have:=r.dp;show A.depth+1+3*k+5<_;omega,by have:=r.un;show A.units+3+16*k+200<_;omega⟩
theorem ID{C:Addr}:(A.under (.builtin "type.__call__" ⟨.ref C::us,kw⟩)).depth=A.depth+1:=by
 first|rfl|simp[Around.under,Code.weight,Code.isCreation,Code.isGuard,Code.isCaller,Code.frames,Code.isFrame,guardIds]
theorem IC{C:Addr}:(A.under (.builtin "type.__call__" ⟨.ref C::us,kw⟩)).units=A.units+1:=by
 first|rfl|simp[Around.under,Code.cUnits,Code.frames,Code.isFrame]
theorem aT.make(r:aT (k+1) A)(C:Addr)(us:List Value)(kw:List (Str×Value)):aT k (A.under (.builtin "type.__call__" ⟨.ref C::us,kw⟩)) :=
 ⟨r.hd,by have:=r.dp;rw[ID];omega,by have:=r.un;rw[IC];omega⟩
theorem aT.depth(r:aT k A):A.depth<recursionLimit:=by have:=r.dp;omega
theorem aT.units(r:aT k A):A.units+64<cLine:=by have:=r.un;omega
def vp:TA:=fun _ H Q=>Q [] H
def CK(ta:TE)(tr:TA):TA:=fun σ H Q=>ta σ H fun x H1=>tr σ H1 fun xs H2=>Q (x::xs) H2
variable {t:TA}
theorem oy:PA X [] vp:=fun _ _ _ _ H Q I h=>Calls.spliced_nil ⟨[],H,I,.nil,h⟩
theorem nj(ha:PE X e te)(hr:PA X es t)(hs:starEach (e::es) X.env=(false,eval e X.env)::starEach es X.env:=by rfl):PA X (e::es) (CK te t):=by
 intro pos pins s σ H Q I h;rw[hs];show wpAny _ _ (spliced ((false,eval e X.env)::backTo pos (starEach es X.env))) _ _ s;refine Calls.spliced_cons (aO (ha pins s σ H _ I h) fun u s1 ⟨x,H1,I1,r1,q1⟩=>?_);exact aO (hr pos pins s1 σ H1 _ I1 q1) fun us s2 ⟨xs,H2,I2,r2,q2⟩=>⟨x::xs,H2,I2,.cons r1 r2,q2⟩
def Bm(t:TA):TE:=fun σ H Q=>t σ H fun xs H1=>xs.length<=sizeLine/\∀p,H1 p=none->Q (.ref p) (upd H1 p (.tup xs))
def Bl(t:TA):TE:=fun σ H Q=>t σ H fun xs H1=>xs.length<=sizeLine/\∀p,H1 p=none->Q (.ref p) (upd H1 p (.lst xs))
theorem xf{x1}(h:PA X es t):PE X (.Tuple es x1 pos) (Bm t):=by intro pins s σ H Q I hq;refine wpAny_Tuple_spliced (aO (h pos pins s σ H _ I hq) fun us s1 ⟨xs,H1,I1,r,z,q⟩=>⟨by rw[<- r.length];exact z,?_⟩);have hf:H1 s1.heap.objs.size=none:=I1.hok.fresh (le_refl _);refine⟨.ref s1.heap.objs.size,upd H1 s1.heap.objs.size (.tup xs),I1.laid (t':=s1.toks) (fun b u e=>Heap.get?_push_of_some _ e) (le_refl _) ?_,rfl,q _ hf⟩;exact⟨z,us,r,⟨_,Heap.get?_push_size _ rfl,rfl,⟨_,rfl⟩,rfl⟩⟩
theorem sA(h:PA X es t):PE X (.List es pos) (Bl t):=by intro pins s σ H Q I hq;refine wpAny_List_spliced (aO (h pos pins s σ H _ I hq) fun us s1 ⟨xs,H1,I1,r,z,q⟩=>⟨by rw[<- r.length];exact z,?_⟩);have hf:H1 s1.heap.objs.size=none:=I1.hok.fresh (le_refl _);refine⟨.ref s1.heap.objs.size,upd H1 s1.heap.objs.size (.lst xs),I1.laid (t':=s1.toks) (fun b u e=>Heap.get?_push_of_some _ e) (le_refl _) ?_,rfl,q _ hf⟩;exact⟨z,us,0,r,Heap.get?_push_size _ rfl⟩
abbrev Sp:=List V->Hp->VK->XK->Prop
abbrev jC:=List Env->Hp->Shared->XK->Value->Shared->Prop
structure gR (P:Program) (w:World) (K:Frag) (mg:Str->Option Value) (base:Heap) (A:Around) (outer:List Env) (s:Shared) (H:Hp):Prop where
 frames:A.frames=some outer
 mod:Mod K mg base
 bs:∀b o,base.get? b=some o->s.heap.get? b=some o/\H b=none
 bsz:base.objs.size<=s.heap.objs.size
 funs:s.heap.FunFrames base outer
 frf:∀b∈dw outer,H b=none
 hok:cF P w H s.heap
 bare:AllBare s.gens
def CE(outer:List Env)(P:Program)(w:World)(H:Hp)(s:Shared)(Q:VK)(u:Value)(s':Shared):Prop :=
 ∃v H',s'.os=s.os/\AllBare s'.gens/\Un (dw outer) [] H H' s.heap s'.heap/\cF P w H' s'.heap/\RelV v u/\Q v H'
def CR(CX:jC)(outer:List Env)(P:Program)(w:World)(H:Hp)(s:Shared)(Q:VK)(E:XK)(r:Result)(s':Shared):Prop :=
 match r with
 | .ok (.ret u)=>CE outer P w H s Q u s'
 | .ok _=>False
 | .error e=>CX outer H s E e s'
structure ay (P:Program) (w:World) (K:Frag) (mg:Str->Option Value) (base:Heap) (CX:jC) (k:Nat) (f:Addr) (fd:FuncData) (ps:List Str) (sp:Sp):Prop where
 len:∀vs H Q E,sp vs H Q E->vs.length=ps.length
 run:∀(A:Around) (outer:List Env) (s:Shared) (H:Hp) (args:Args) (us:List Value) (vs:List V) (Q:VK) (E:XK),aT k A->gR P w K mg base A outer s H->BindsTo s fd args (ps.zip us)->Vals vs us->sp vs H Q E ->
  codeAny (model P w) A (.call (.ref f) args) (CR CX outer P w H s Q E) s
variable {mg:Str->Option Value} {base:Heap} {CX:jC} {fd:FuncData} {ps:List Str} {sp:Sp}
theorem ay.imp{f:Addr}{sp':Sp}(F:ay P w K mg base CX k f fd ps sp)(h:∀vs H Q E,sp' vs H Q E->sp vs H Q E):ay P w K mg base CX k f fd ps sp' :=
 ⟨fun vs H Q E q=>F.len vs H Q E (h _ _ _ _ q),fun A outer s H args us vs Q E hr he hb hv hs=>F.run A outer s H args us vs Q E hr he hb hv (h _ _ _ _ hs)⟩
variable {outer:List Env}
theorem gR.make(e:gR P w K mg base A outer s H)(C:Addr)(us:List Value)(kw:List (Str×Value)) :
  gR P w K mg base (A.under (.builtin "type.__call__" ⟨.ref C::us,kw⟩)) outer s H:=⟨by first|exact e.frames|(simpa[Around.under,Code.envs,Code.isFrame,pushEnvs] using e.frames),e.mod,e.bs,e.bsz,e.funs,e.frf,e.hok,e.bare⟩
section
variable {σ:St}
theorem Inv.env0(I:Inv X pins σ H s):gR X.prog X.w X.K X.mg X.base X.A X.stack s H :=
 ⟨I.ok.frames,I.ok.mod,I.bs,le_trans I.ok.bsz I.sz,I.stack,I.stkFree,I.hok,I.bare⟩
theorem Inv.after{Q:VK}(I:Inv X pins σ H s)(h:CE X.stack X.prog X.w H s Q u s'):EP X pins σ Q u s':=by obtain⟨v,H',os,bare,un,hok,r,q⟩:=h;obtain⟨hh,g,d,t,os'⟩:=s';obtain rfl:os'=s.os:=os;exact⟨v,H',I.call (h':=hh) (g':=g) (d':=d) (t':=t) (ch:=[]) un hok bare (fun b z=>absurd z (by simp)),r,q⟩
end
def CJ(sp:Sp)(dvs:List V)(E:XK)(t:TA):TE:=fun σ H Q=>t σ H fun vs H1=>sp (vs++dvs) H1 Q E
def wc(C:Addr)(m:Str)(sp:Sp)(dvs:List V)(E:XK)(ta:TE)(t:TA):TE:=fun σ H Q=>ta σ H fun x H1=>∃a dx fs,x=.ref a/\H1 a=some (.ins C dx fs)/\fs.lookup m=none /\
 t σ H1 fun vs H2=>sp (x::(vs++dvs)) H2 Q E
def CI(C:Addr)(sp:Sp)(dvs:List V)(E:XK)(t:TA):TE:=fun σ H Q=>t σ H fun vs H1=>∀x dx,H1 x=none->H1 dx=none->dx≠x ->
 sp (.ref x::(vs++dvs)) (upd (upd H1 dx (.own x)) x (.ins C dx [])) (fun v H2=>v=.non/\Q (.ref x) H2) E
def Binds(K:Frag)(fd:FuncData)(ps:List Str)(ds:List Value):Prop :=
 ∀(s:Shared) (us:List Value),K.In s.heap->(us++ds).length=ps.length->BindsTo s fd ⟨us,[]⟩ (ps.zip (us++ds))
theorem Binds.all(h:∀us:List Value,us.length=ps.length->bindArgs fd ⟨us,[]⟩=pure (ps.zip us)):Binds K fd ps []:=fun s us _ hl=>by
 rw[append_nil] at hl ⊢;exact .of_eq (h us hl)
def gM(CX:jC)(X:Cx)(E:XK):Prop:=∀(pins:List (Addr×Obj)) (σ:St) (H:Hp) (s:Shared) (e:Value) (s':Shared),Inv X pins σ H s->CX X.stack H s E e s'->X.xe e s'
variable {vs:List V} {apos:Pos}
section
variable {f C:Addr} {dvs:List V} {ds:List Value} {E:XK} {x:Str} {o:Expr}
theorem mZ{σ:St}{Q:VK}(F:ay X.prog X.w X.K X.mg X.base CX k f fd ps sp)(hr:aT k X.A)(hb:Binds X.K fd ps ds)(hd:Vals dvs ds)(hx:gM CX X E)(I:Inv X pins σ H s)(r:Vals vs us)(h:sp (vs++dvs) H Q E):wpAny (model X.prog X.w) X.A (call (.ref f) us) (EP X pins σ Q) X.xe s:=by
 have r2:Vals (vs++dvs) (us++ds):=r.append hd;have hl:(us++ds).length=ps.length:=by rw[<- r2.length];exact F.len _ _ _ _ h
 refine wpAny_call (codeAny_mono (F.run X.A X.stack s H ⟨us,[]⟩ (us++ds) (vs++dvs) Q E hr I.env0 (hb s us I.kIn hl) r2 h) fun r s' hq=>?_);cases r with
 | error e=>exact hx pins σ H s e s' I hq
 | ok fl =>
  cases fl with
  | ret u=>exact I.after hq
  | next=>exact False.elim hq
  | brk=>exact False.elim hq
  | cont=>exact False.elim hq
theorem Ff(F:ay X.prog X.w X.K X.mg X.base CX k f fd ps sp)(hr:aT k X.A)(hg:Gl X x)(hm:X.mg x=some (.ref f))(hk:keepIn X.K (.ref f)=true)(hb:Binds X.K fd ps ds)(hd:Vals dvs ds)(hx:gM CX X E)(ha:PA X (e::es) t)(hdb:(x==("__debug__" : Str))=false:=by decide)(he:starEach (e::es) X.env=(false,eval e X.env)::starEach es X.env:=by rfl)(hpl:(backTo pos (starEach es X.env)).any (·.1)=false:=by rfl) :
  PE X (.Call (.Name x p) (e::es) [] pos) (CJ sp dvs E t):=by
 intro pins s σ H Q I h;refine wpAny_Call_Name_kw (jY I hg hm ?_ hdb);refine callWith_K (h₀:=X.base) I.ok.mod.kin hk (aO (ha pos pins s σ H _ I h) fun us s1 ⟨vs,H1,I1,r,q⟩=>⟨I1.kIn,?_⟩) he hpl;exact mZ F hr hb hd hx I1 r q
theorem Fe(he:PE X o ta)(c:Cls X.K C)(hm:Meth X.K C m f)(F:ay X.prog X.w X.K X.mg X.base CX k f fd ps sp)(hr:aT k X.A)(hb:Binds X.K fd ps ds)(hd:Vals dvs ds)(hx:gM CX X E)(ha:PA X (e::es) t)(hst:starEach (e::es) X.env=(false,eval e X.env)::starEach es X.env:=by rfl)(hpl:(backTo pos (starEach es X.env)).any (·.1)=false:=by rfl)(ht:eval (.Call (.Attribute o m apos) (e::es) [] pos) X.env=(do
   let ov <- eval o X.env
   standAt apos.atName
   let (f,first) <- holding [ov] (getMethod ov m pl)
   callWith pos f first (backTo pos (starEach (e::es) X.env)) (backToKw pos (keywordEach [] X.env))):=by rfl) :
  PE X (.Call (.Attribute o m apos) (e::es) [] pos) (wc C m sp dvs E ta t):=by
 intro pins s σ H Q I h;refine methodCall_KW (pl:=pl) (aO (he pins s σ H _ I h) fun u s1 ⟨x,H1,I1,rx,a,dx,fs,ex,ea,l,q⟩=>?_) ht;subst ex;obtain rfl:u=Value.ref a:=rx;refine uo I1 ea c hm l ?_;refine callWith_K (first:=[.ref a]) (h₀:=X.base) I.ok.mod.kin hm.kp (aO (ha pos pins s1 σ H1 _ I1 q) fun us s2 ⟨vs,H2,I2,r,q2⟩=>⟨I2.kIn,?_⟩) hst hpl;exact mZ (us:=.ref a::us) (vs:=.ref a::vs) F hr hb hd hx I2 (.cons rfl r) q2
theorem Hb(he:PE X o ta)(c:Cls X.K C)(hm:Meth X.K C m f)(F:ay X.prog X.w X.K X.mg X.base CX k f fd ps sp)(hr:aT k X.A)(hb:Binds X.K fd ps ds)(hd:Vals dvs ds)(hx:gM CX X E)(ht:eval (.Call (.Attribute o m apos) [] [] pos) X.env=(do
   let ov <- eval o X.env
   standAt apos.atName
   let (f,first) <- holding [ov] (getMethod ov m pl)
   callWith pos f first (backTo pos (starEach [] X.env)) (backToKw pos (keywordEach [] X.env))):=by rfl) :
  PE X (.Call (.Attribute o m apos) [] [] pos) (wc C m sp dvs E ta vp):=by
 intro pins s σ H Q I h;refine methodCall_KW (pl:=pl) (aO (he pins s σ H _ I h) fun u s1 ⟨x,H1,I1,rx,a,dx,fs,ex,ea,l,q⟩=>?_) ht;subst ex;obtain rfl:u=Value.ref a:=rx;refine uo I1 ea c hm l ?_;exact PySem.W.callWith_K0 (first:=[.ref a]) I1.kIn hm.kp (mZ (us:=[.ref a]) (vs:=[.ref a]) F hr hb hd hx I1 (.cons rfl .nil) q)
structure Mk (K:Frag) (C f:Addr):Prop where
 makes:makesIn K C=true
 init:findIn K (.ref C) "__init__" = some (some (.ref f))
 fn:isFn K (.ref f)=true
 kp:keepIn K (.ref C)=true
theorem Ha{σ:St}{Q:VK}(M:Mk X.K C f)(F:ay X.prog X.w X.K X.mg X.base CX k f fd ps sp)(hr:aT (k+1) X.A)(hb:Binds X.K fd ps ds)(hd:Vals dvs ds)(hx:gM CX X E)(I:Inv X pins σ H s)(r:Vals vs us)(h:∀x dx,H x=none->H dx=none->dx≠x->sp (.ref x::(vs++dvs)) (upd (upd H dx (.own x)) x (.ins C dx [])) (fun v H2=>v=.non/\Q (.ref x) H2) E) :
  wpAny (model X.prog X.w) X.A (call (.ref C) us) (EP X pins σ Q) X.xe s:=by
 have hq:=h (s.heap.objs.size+1) s.heap.objs.size (I.hok.fresh (le_succ _)) (I.hok.fresh (le_refl _)) (ne_of_lt (lt_succ_self _));have I2:=Inv.made (C:=C) I;have r2:Vals (V.ref (s.heap.objs.size+1)::(vs++dvs)) (Value.ref (s.heap.objs.size+1)::(us++ds)):=.cons rfl (r.append hd);have hl:(Value.ref (s.heap.objs.size+1)::us++ds).length=ps.length:=by have e:=r2.length;rw[F.len _ _ _ _ hq] at e;exact e.symm
 refine wpAny_call (Hc (f:=f) I.kIn M.makes M.init (beq_iff_eq.mp M.fn) (codeAny_mono (F.run _ X.stack _ _ ⟨Value.ref (s.heap.objs.size+1)::us,[]⟩ (Value.ref (s.heap.objs.size+1)::(us++ds)) _ _ E (hr.make C us [])
  (I2.env0.make C us []) (hb _ (Value.ref (s.heap.objs.size+1)::us) I2.kIn hl) r2 hq) fun r s' hq'=>?_))
 cases r with
 | error e=>exact hx pins σ _ _ e s' I2 hq'
 | ok fl =>
  cases fl with
  | ret u =>
   obtain⟨v,H',I3,rv,ev,q3⟩:=I2.after hq';subst ev;exact⟨rv,⟨V.ref (s.heap.objs.size+1),H',I3,rfl,q3⟩⟩
  | next=>exact False.elim hq'
  | brk=>exact False.elim hq'
  | cont=>exact False.elim hq'
theorem Fd(M:Mk X.K C f)(F:ay X.prog X.w X.K X.mg X.base CX k f fd ps sp)(hr:aT (k+1) X.A)(hg:Gl X x)(hm:X.mg x=some (.ref C))(hb:Binds X.K fd ps ds)(hd:Vals dvs ds)(hx:gM CX X E)(ha:PA X (e::es) t)(hdb:(x==("__debug__" : Str))=false:=by decide)(he:starEach (e::es) X.env=(false,eval e X.env)::starEach es X.env:=by rfl)(hpl:(backTo pos (starEach es X.env)).any (·.1)=false:=by rfl) :
  PE X (.Call (.Name x p) (e::es) [] pos) (CI C sp dvs E t):=by
 intro pins s σ H Q I h;refine wpAny_Call_Name_kw (jY I hg hm ?_ hdb);refine callWith_K (h₀:=X.base) I.ok.mod.kin M.kp (aO (ha pos pins s σ H _ I h) fun us s1 ⟨vs,H1,I1,r,q⟩=>⟨I1.kIn,?_⟩) he hpl;exact Ha M F hr hb hd hx I1 r q
end
section
variable {f C:Addr} {ks:List Str} {E:XK} {x:Str} {kpos:Pos} {o:Expr} {kws:List Keyword} {tk:TA} {nm:Option Str}
variable {g:List Value->List Value->List Value} {gV:List V->List V->List V}
end
structure ao (N P:List Str) (sc:Scope):Prop where
 kind:sc.kind=.function
 co:sc.isCoroutine=false
 gen:sc.isGenerator=false
 nd:N.Nodup
 pre:N.take P.length=P
 par:∀x∈P,sc.names.lookup x=some .local\/sc.names.lookup x=some .cell
 nofree:∀y∈sc.names,y.2≠.free
theorem zJ{kindOf:Str->Option NameKind}{x:Str}:∀{binds:List (Str×Value)} {m:Str->Option Value},(∀v,(x,v)∉binds)->bindL kindOf binds m x=m x
 | [],_,_=>rfl
 | (n,v)::r,m,h=>by
  unfold bindL;rw[zJ fun w hw=>h w (mem_cons_of_mem _ hw)];split
  ·have:x≠n:=by rintro rfl;exact h v mem_cons_self
   simp[this]
  ·rfl
theorem zI{kindOf:Str->Option NameKind}{x:Str}:∀{binds:List (Str×Value)} {m:Str->Option Value},(∀v,(x,v)∉binds)->bindC kindOf binds m x=m x
 | [],_,_=>rfl
 | (n,v)::r,m,h=>by
  unfold bindC;rw[zI fun w hw=>h w (mem_cons_of_mem _ hw)];split
  ·rfl
  ·have:x≠n:=by rintro rfl;exact h v mem_cons_self
   simp[this]
theorem zH{kindOf:Str->Option NameKind}{x:Str}{v:Value}:∀{P:List Str} {vs:List Value} {i:Nat} {m:Str->Option Value},P.Nodup->P[i]?=some x->vs[i]?=some v->kindOf x=some .local ->
  bindL kindOf (P.zip vs) m x=some v
 | [],_,_,_,_,h,_,_=>by simp at h
 | _::_,[],_,_,_,_,h,_=>by simp at h
 | p::P,w::vs,0,m,nd,h1,h2,hk=>by
  simp at h1 h2;subst h1;subst h2;show bindL kindOf ((p,w)::P.zip vs) m p=_;unfold bindL;rw[zJ fun v hv=>(nodup_cons.mp nd).1 (of_mem_zip hv).1,if_pos hk];simp
 | p::P,w::vs,i+1,m,nd,h1,h2,hk=>by
  show bindL kindOf ((p,w)::P.zip vs) m x=_;unfold bindL;exact zH (i:=i) (nodup_cons.mp nd).2 (by simpa using h1) (by simpa using h2) hk
theorem zG{kindOf:Str->Option NameKind}{x:Str}{v:Value}:∀{P:List Str} {vs:List Value} {i:Nat} {m:Str->Option Value},P.Nodup->P[i]?=some x->vs[i]?=some v->kindOf x≠some .local ->
  bindC kindOf (P.zip vs) m x=some v
 | [],_,_,_,_,h,_,_=>by simp at h
 | _::_,[],_,_,_,_,h,_=>by simp at h
 | p::P,w::vs,0,m,nd,h1,h2,hk=>by
  simp at h1 h2;subst h1;subst h2;show bindC kindOf ((p,w)::P.zip vs) m p=_;unfold bindC;rw[zI fun v hv=>(nodup_cons.mp nd).1 (of_mem_zip hv).1,if_neg hk];simp
 | p::P,w::vs,i+1,m,nd,h1,h2,hk=>by
  show bindC kindOf ((p,w)::P.zip vs) m x=_;unfold bindC;exact zG (i:=i) (nodup_cons.mp nd).2 (by simpa using h1) (by simpa using h2) hk
def start(N:List Str)(vs:List V):St:=vs.map some++List.replicate (N.length-vs.length) none
def il(CX:jC)(P:Program)(w:World)(K:Frag)(mg:Str->Option Value)(base:Heap)(N:List Str)(qual:Str)(scope:Scope)(f:Addr)(cd:Value)(A:Around)(outer:List Env)(s:Shared)(H:Hp)(E:XK):Cx where
 prog:=P
 w:=w
 K:=K
 mg:=mg
 base:=base
 A:=A.deeper (envOfC qual scope s.heap.objs.size f cd)
 N:=N
 s₀:=s
 H₀:=H
 env:=envOfC qual scope s.heap.objs.size f cd
 outer:=outer
 stack:=envOfC qual scope s.heap.objs.size f cd::outer
 ex:=[]
 calm:=true
 fn:=fun _=>true
 pn:=[]
 xe:=fun e s'=>wpAny (model P w) (A.deeper (envOfC qual scope s.heap.objs.size f cd)) (leaving (envOfC qual scope s.heap.objs.size f cd) e) (fun _ s''=>CX outer H s E e s'') (fun e' s''=>CX outer H s E e' s'') s'
theorem yY{sc:Scope}{x:Str}(h:sc.names.lookup x=some .cell):∃c,(cellsFrom n sc.names []).lookup x=some c:=by have q:=cellsFrom_some sc.names n [] (.inl h);exact isSome_iff_exists.mp q
variable {qual:Str} {scope:Scope}
theorem Ik{f:Addr}{cd:Value}{s1:Shared}{E:XK}(S:ao N ps scope)(hd:A.handled=none)(e0:gR P w K mg base A outer s H)(hl:vs.length=ps.length)(r:Vals vs us)(x:InCallC s s.heap.objs.size (bindL (envOfC qual scope s.heap.objs.size f cd).kindOf (ps.zip us) fun _=>none) (cellsFrom (s.heap.objs.size+1) scope.names []) (bindC (envOfC qual scope s.heap.objs.size f cd).kindOf (ps.zip us) fun _=>none) s1) :
  Inv (il CX P w K mg base N qual scope f cd A outer s H E) [] (start N vs) H s1:=by
 have hpl:ps.length<=N.length:=by have:=congrArg List.length S.pre;rw[length_take] at this;omega
 obtain⟨h1,tk,rfl,hk⟩:=x.done;have noA:∀b:Addr,b∉(il CX P w K mg base N qual scope f cd A outer s H E).ex:=fun b z=>absurd (show b∈([]:List Addr) from z) (by simp);refine⟨⟨e0.mod,S.kind,rfl,rfl,le_refl _,fun y z c h1 h2=>?_,fun y hy=>?_,fun y c _ h=>?_,fun _=>hd,Around.frames_deeper e0.frames,.inr ⟨rfl,rfl⟩,fun b z=>absurd z (noA b),e0.bs,e0.bsz,fun b _ _=>noA b,fun b z=>absurd z (noA b),e0.funs,e0.frf⟩,
  rfl,e0.bare,Un.kept hk,⟨_,x.toInCall.ns,fun i y v h1 h2 h3=>?_⟩,fun y c h=>⟨_,x.cell y c h⟩,e0.hok.fresh (le_refl _),fun y c h=>?_,fun p hp=>absurd (show p∈([]:List (Addr×Obj)) from hp) (by simp),e0.hok.kept hk,?_⟩
 ·exact name_of_addr x.apart (PySem.mem_of_lookup h1) (PySem.mem_of_lookup h2)
 ·have hy:scope.names.lookup y=some .cell\/scope.names.lookup y=some .free:=hy;rcases hy with hy|hy
  ·exact yY hy
  ·exact absurd rfl (S.nofree _ (PySem.mem_of_lookup hy))
 ·exact le_of_lt (x.above y c (PySem.mem_of_lookup h))
 ·have hi:i<vs.length:=by
   unfold start at h2
   by_cases hi:i<vs.length
   ·exact hi
   ·rw[getElem?_append_right (by simpa using hi)] at h2;rw[getElem?_replicate] at h2;split at h2<;>cases h2
  have ha:vs[i]?=some v:=by
   unfold start at h2;rw[getElem?_append_left (by simpa using hi),getElem?_map] at h2;cases e:vs[i]? with
   | none=>rw[e] at h2;cases h2
   | some a=>rw[e] at h2;cases h2;rfl
  obtain⟨u,hu,rv⟩:=r.get ha;have hp:ps[i]?=some y:=by rw[<- S.pre,getElem?_take_of_lt (by omega)];exact h1
  have ndP:ps.Nodup:=by rw[<- S.pre];exact S.nd.sublist (take_sublist _ _)
  refine⟨u,rv,?_⟩;rcases S.par y (mem_of_getElem? hp) with k|k
  ·exact .inl ⟨k,zH ndP hp hu k⟩
  ·obtain⟨c,e⟩:=yY (n:=s.heap.objs.size+1) k;refine .inr ⟨.inl k,c,e,?_⟩;have q:=x.cell y c e;rw[zG ndP hp hu (by show scope.names.lookup y≠_;rw[k];decide)] at q;exact q
 ·exact e0.hok.fresh (le_of_lt (x.above y c (PySem.mem_of_lookup h)))
 ·unfold start;show _=N.length;rw[length_append,length_map,length_replicate];omega
theorem CH{f:Addr}{params:Arguments}{dV kV doc pm cdv ct oc:Value}{an od:Option Addr}{osl:Array (Option Value)}(lk:K.lookup f=some ⟨oc,od,.func (fnOf name qual params body scope dV kV doc pm an cdv ct),osl⟩)(hcd:codeIn K cdv qual=true)(S:ao N ps scope)(len:∀vs H Q E,sp vs H Q E->vs.length=ps.length)(hbody:∀(A:Around) (outer:List Env) (s:Shared) (H:Hp) (vs:List V) (Q:VK) (E:XK),aT k (A.deeper (envOfC qual scope s.heap.objs.size f cdv))->sp vs H Q E ->
   ∃t,PSs (il CX P w K mg base N qual scope f cdv A outer s H E) body t/\t { nx:=fun _ H'=>Q .non H',rt:=Q } (start N vs) H) :
  ay P w K mg base CX (k+1) f (fnOf name qual params body scope dV kV doc pm an cdv ct) ps sp:=by
 refine⟨len,fun A outer s H args us vs Q E hr e0 hb r hsp=>?_⟩;have hl:=len _ _ _ _ hsp;have KX:K.In s.heap:=e0.mod.kin.keeps fun b o e=>(e0.bs b o e).1;have lim:s.heap.NoLimit:=e0.mod.nolimit.keeps fun b o e=>(e0.bs b o e).1;have hkind:∀y∈ps.zip us,scope.names.lookup y.1=some .local\/(scope.names.lookup y.1=some .cell/\((cellsFrom (s.heap.objs.size+1) scope.names []).lookup y.1).isSome=true):=fun⟨n,v⟩ hy=>by
  rcases S.par n (of_mem_zip hy).1 with q|q
  ·exact .inl q
  ·exact .inr ⟨q,cellsFrom_some _ _ _ (.inl q)⟩
 refine codeAny_call_function hr.depth (KX _ _ lk) rfl S.co S.gen rfl (PySem.W.codeRec_of KX hcd) (hb _ _ _ _ ?_);refine wpAny_newFunctionEnv_cells S.kind hkind fun env he s1 x=>?_;subst he;refine⟨lim.keeps x.toInCall.keep,codeAny_func ?_⟩;obtain⟨t,ht,hq⟩:=hbody A outer s H vs Q E (hr.deeper _) hsp;have I:Inv (il CX P w K mg base N qual scope f cdv A outer s H E) [] (start N vs) H s1:=Ik S hr.hd e0 hl r x;refine wpAny_mono (ht [] s1 (start N vs) H _ I hq) (fun fl s' hs=>?_) fun e s' hs=>hs;have fin:∀{σ':St} {H':Hp} {v:V} {u:Value},Inv (il CX P w K mg base N qual scope f cdv A outer s H E) [] σ' H' s'->RelV v u->Q v H'->CE outer P w H s Q u s' :=
  fun {σ' H' v u} J rv q=>⟨v,H',J.os,J.bare,J.base,J.hok,rv,q⟩
 cases fl with
 | ret u =>
  obtain⟨v,σ',H',J,rv,q⟩:=hs;exact fin J rv q
 | next =>
  obtain⟨σ',H',J,q⟩:=hs;exact fin (v:=V.non) (u:=Value.none) J rfl q
 | brk =>
  obtain⟨_,_,_,q⟩:=hs;exact False.elim q
 | cont =>
  obtain⟨_,_,_,q⟩:=hs;exact False.elim q
section
variable {x:Str} {id T:String} {r:List V->Hp->VK->Prop}
def AQ(r:List V->Hp->VK->Prop)(t:TA):TE:=fun σ H Q=>t σ H fun vs H1=>r vs H1 Q
theorem yX(hc:aP X (.builtin id) r)(hg:Gl X x)(hm:X.mg x=none)(hv:bootBuiltins x=some (.builtin id))(ha:PA X (e::es) t)(hn:x ≠ "__name__" := by decide)(hdb:(x==("__debug__" : Str))=false:=by decide)(he:starEach (e::es) X.env=(false,eval e X.env)::starEach es X.env:=by rfl)(hpl:(backTo pos (starEach es X.env)).any (·.1)=false:=by rfl):PE X (.Call (.Name x p) (e::es) [] pos) (AQ r t):=by intro pins s σ H Q I h;refine wpAny_Call_Name_kw (oB I hg hm hv ?_ hn hdb);exact PyProof.Rows.callWith_builtin1 (aO (ha pos pins s σ H _ I h) fun us s1 ⟨vs,H1,I1,r1,q1⟩=>hc pins s1 σ H1 vs us Q I1 r1 q1) he hpl
theorem zF(hc:aP X (.type T) r)(hg:Gl X x)(hm:X.mg x=none)(hv:bootBuiltins x=some (.type T))(ha:PA X (e::es) t)(hn:x ≠ "__name__" := by decide)(hdb:(x==("__debug__" : Str))=false:=by decide)(he:starEach (e::es) X.env=(false,eval e X.env)::starEach es X.env:=by rfl)(hpl:(backTo pos (starEach es X.env)).any (·.1)=false:=by rfl):PE X (.Call (.Name x p) (e::es) [] pos) (AQ r t):=by intro pins s σ H Q I h;refine wpAny_Call_Name_kw (oB I hg hm hv ?_ hn hdb);exact PyProof.Rows.callWith_type1 (aO (ha pos pins s σ H _ I h) fun us s1 ⟨vs,H1,I1,r1,q1⟩=>hc pins s1 σ H1 vs us Q I1 r1 q1) he hpl
end
end L2
namespace HT
open PySem PyProof.Rows
section
open PySem.SeqAt
open PySem.AutoSeq1 (wpAny_loadPart')
open PySem.MeetsSeq PySem.MeetsSeq2 PySem.MeetsSeq3
end
section
variable {prog:Program} {w:World} {A:Around} {E:Value->Shared->Prop} {s:Shared}
def sIx(n d:Nat):Option Int->Nat
 | none=>d
 | some v=>if v<0 then (v+(n:Int)).toNat else min v.toNat n
theorem sIx_nat(n d k:Nat):sIx n d (some (k:Int))=min k n:=by show(if (k:Int)<0 then ((k:Int)+(n:Int)).toNat else min (k:Int).toNat n)=min k n;rw[if_neg (by omega),toNat_natCast]
end
end HT
namespace L2
open PySem PySem.Spec PyProof.Rows
abbrev TO:=St->Hp->(Option Int->Hp->Prop)->Prop
def PO(X:Cx)(e:Option Expr)(t:TO):Prop :=
 ∀(pins:List (Addr×Obj)) (s:Shared) (σ:St) (H:Hp) (Q:Option Int->Hp->Prop),Inv X pins σ H s->t σ H Q ->
  wpAny (model X.prog X.w) X.A (evalPart e X.env) (fun u s'=>∃o H',Inv X pins σ H' s'/\IsPart u o/\Q o H') X.xe s
def Fc:TO:=fun _ H Q=>Q none H
def CG(t:TE):TO:=fun σ H Q=>t σ H fun x H1=>∃i,x=.int i/\Q (some i) H1
theorem zU{ns:List Int}:∀{us:List Value},Vals (ns.map V.int) us->IntsAre us ns:=by
 induction ns with
 | nil=>intro us r;rw[map_nil] at r;cases r;exact .nil
 | cons n ns ih =>
  intro us r;rw[map_cons] at r;cases r with
  | cons r1 r2 =>
   obtain⟨t,e⟩:=r1;subst e;exact .cons n t (ih r2)
variable {X:Cx} {e:Expr} {pos:Pos}
section
variable {te:TE} {lo hi:Option Expr} {tl th:TO} {p2:Pos}
theorem Fb:PO X none Fc:=by intro pins s σ H Q I h;rw[evalPart_none];exact wpAny_pure ⟨none,H,I,.none,h⟩
theorem FH(h:PE X e te):PO X (some e) (CG te):=by intro pins s σ H Q I hw;rw[evalPart_some];refine aO (h pins s σ H _ I hw) fun u s1 ⟨x,H1,I1,r1,q1⟩=>?_;obtain⟨i,rfl,q⟩:=q1;obtain⟨t,rfl⟩:=r1;exact⟨some i,H1,I1,.int i t,q⟩
def vb(X:Cx)(r:V->Option Int->Option Int->Hp->VK->Prop):Prop :=
 ∀(pins:List (Addr×Obj)) (s:Shared) (σ:St) (H:Hp) (x:V) (v vl vu:Value) (lo hi:Option Int) (sl:Addr) (Q:VK),Inv X pins σ H s->RelV x v->s.heap.IsSliceOf sl vl vu .none->IsPart vl lo->IsPart vu hi->r x lo hi H Q ->
  ∃T id,typeLookup (.type T) "__getitem__" = pure (some (.builtin id))/\s.TypeIs v T/\wpAny (model X.prog X.w) X.A (getItem v (.ref sl)) (EP X pins σ Q) X.xe s
def J9(r:V->Option Int->Option Int->Hp->VK->Prop)(te:TE)(tl th:TO):TE:=fun σ H Q=>te σ H fun x H1=>tl σ H1 fun l H2=>th σ H2 fun u H3=>r x l u H3 Q
theorem G_{r:V->Option Int->Option Int->Hp->VK->Prop}(hr:vb X r)(he:PE X e te)(hl:PO X lo tl)(hu:PO X hi th):PE X (.Subscript e (.Slice lo hi none p2) pos) (J9 r te tl th):=by intro pins s σ H Q I h;refine Subscript_ (aO (he pins s σ H _ I h) fun v s1 ⟨x,H1,I1,r1,q1⟩=>?_);refine wpAny_Slice (aO (hl pins s1 σ H1 _ I1 q1) fun vl s2 ⟨l,H2,I2,pl,q2⟩=>aO (hu pins s2 σ H2 _ I2 q2) fun vu s3 ⟨u,H3,I3,pu,q3⟩=>?_);rw[evalPart_none];refine wpAny_pure ?_;have I4:Inv X pins σ H3 { s3 with heap:=s3.heap.push { cls:=.type "slice",data:=.fields #[vl,vu,.none] } }:=I3.kept (t':=s3.toks) fun b ob q=>Heap.get?_push_of_some _ q;obtain⟨T,id,hT,ht,hg⟩:=hr pins { s3 with heap:=s3.heap.push { cls:=.type "slice",data:=.fields #[vl,vu,.none] } } σ H3 x v vl vu l u s3.heap.objs.size Q I4 r1 (Heap.IsSliceOf.new ..) pl pu q3;show wpAny (model X.prog X.w) X.A (subscriptTail e (.Slice lo hi none p2) v (.ref s3.heap.objs.size)) (EP X pins σ Q) X.xe { s3 with heap:=s3.heap.push { cls:=.type "slice",data:=.fields #[vl,vu,.none] } };exact tail_any (ops:=[.ref s3.heap.objs.size,v]) ht hT hg (by with_unfolding_all rfl)
def mD(xs:List V)(lo hi:Option Int):List V:=(xs.drop (HT.sIx xs.length 0 lo)).take (HT.sIx xs.length xs.length hi-HT.sIx xs.length 0 lo)
theorem Jn(xs:List V)(lo hi:Option Int):(mD xs lo hi).length<=xs.length:=by unfold mD;rw[length_take,length_drop];omega
end
def gm(n:Nat)(i:Int):Option Nat:=if 0<=i then (if i<n then some i.toNat else none) else if -(n:Int)<=i then some (i+n).toNat else none
def atI{α:Type}(xs:List α)(i:Int):Option α:=(gm xs.length i).bind fun j=>xs[j]?
variable {n:Nat} {i:Int}
theorem yi{j:Nat}(h:gm n i=some j):seqIndex? i n=some j/\j<n/\-(n:Int)<=i/\i<n:=by
 unfold gm at h
 by_cases h0:0<=i
 ·rw[if_pos h0] at h
  by_cases h1:i<n
  ·rw[if_pos h1] at h;have e:i.toNat=j:=Option.some.inj h;exact⟨by rw[seqIndex_of h0 h1,e],by omega,by omega,h1⟩
  ·rw[if_neg h1] at h;cases h
 ·rw[if_neg h0] at h
  by_cases h1:-(n:Int)<=i
  ·rw[if_pos h1] at h;have e:(i+n).toNat=j:=Option.some.inj h;exact⟨by rw[seqIndex_neg (by omega) h1,e],by omega,h1,by omega⟩
  ·rw[if_neg h1] at h;cases h
theorem yg{α:Type}{xs:List α}{v:α}(h:atI xs i=some v):∃j,seqIndex? i xs.length=some j/\xs[j]?=some v/\j<xs.length/\-(xs.length:Int)<=i/\i<xs.length:=by
 unfold atI at h;cases e:gm xs.length i with
 | none=>rw[e] at h;cases h
 | some j =>
  rw[e] at h;obtain⟨h1,h2,h3,h4⟩:=yi e;exact⟨j,h1,h,h2,h3,h4⟩
def yf(b:Expr):Prop:=∀o i,subscripted b false o i=operate [o,i] (getItem o i)
def j9(X:Cx)(r:R2):Prop :=
 ∀(value slice:Expr) (pins:List (Addr×Obj)) (s:Shared) (σ:St) (H:Hp) (x y:V) (v u:Value) (Q:VK),Inv X pins σ H s->RelV x v->RelV y u->r x y H Q ->
  subscripted slice false v u=operate [v,u] (getItem v u)->wpAny (model X.prog X.w) X.A (subscriptTail value slice v u) (EP X pins σ Q) X.xe s
def pf(X:Cx)(id:String)(r:V->List V->Hp->VK->Prop):Prop :=
 ∀(pins:List (Addr×Obj)) (s:Shared) (σ:St) (H:Hp) (x:V) (xs:List V) (v:Value) (us:List Value) (Q:VK),Inv X pins σ H s->RelV x v->Vals xs us->r x xs H Q ->
  wpAny (model X.prog X.w) X.A (call (.builtin id) (v::us)) (EP X pins σ Q) X.xe s
variable {pins:List (Addr×Obj)} {H:Hp} {s:Shared} {xs:List V} {its its':List Value} {T:String}
section
variable {a b:Expr} {ta tb:TE}
theorem j9.or{r r':R2}(h:j9 X r)(h':j9 X r'):j9 X (fun x y H Q=>r x y H Q\/r' x y H Q):=by
 intro value slice pins s σ H x y v u Q I rx ry q hs;rcases q with q|q
 ·exact h value slice pins s σ H x y v u Q I rx ry q hs
 ·exact h' value slice pins s σ H x y v u Q I rx ry q hs
theorem CF{r:R2}(hr:j9 X r)(ha:PE X a ta)(hb:PE X b tb)(hs:yf b):PE X (.Subscript a b pos) (mf r ta tb):=by intro pins s σ H Q I h;exact Subscript_ (rF ha hb I h fun v u s2 x y H2 I2 rx ry q=>hr a b pins s2 σ H2 x y v u Q I2 rx ry q (hs _ _))
def rf(K:Frag):R2:=fun x y H Q=>∃p xs i v,x=.ref p/\y=.int i/\cY K H p xs/\atI xs i=some v/\Q v H
def q_(K:Frag):R2:=fun x y H Q=>∃p xs i v,x=.ref p/\y=.int i/\eY K H p xs/\atI xs i=some v/\Q v H
theorem FG:j9 X (rf X.K):=by
 intro value slice pins s σ H x y v u Q I rx ry h hs;obtain⟨p,xs,i,z,rfl,rfl,hq,he,q⟩:=h;cases rx;obtain⟨t,rfl⟩:=ry;obtain⟨its,r,pl,hz⟩:=I.list hq;obtain⟨j,h1,h2,h3,h4,h5⟩:=yg he;obtain⟨w,ew,rw'⟩:=r.get h2;have hl:=r.length;have hn:=oA;have fin:EP X pins σ Q w s:=⟨z,H,I,rw',q⟩
 by_cases h0:0<=i
 ·have hj:i.toNat=j:=by rw[seqIndex_of h0 h5] at h1;exact Option.some.inj h1
  exact item_listR pl.isList h0 (by omega) (by rw[hj];simpa using ew) fin hs
 ·have hj:(i+(its.toArray.size:Int)).toNat=j:=by rw[seqIndex_neg (by omega) h4] at h1;rw[size_toArray,<- hl];exact Option.some.inj h1
  exact subscriptTail_builtinR (x:=w) pl.isList.typeIs slot_list_getitem.lookup
   (wpAny_getItem_list_neg (Q:=fun r s'=>r=w/\EP X pins σ Q r s') pl.isList (by omega) (by rw[size_toArray]<;>omega) (by omega) (by rw[hj];simpa using ew) ⟨rfl,fin⟩) hs
theorem DN:j9 X (q_ X.K):=by
 intro value slice pins s σ H x y v u Q I rx ry h hs;obtain⟨p,xs,i,z,rfl,rfl,hq,he,q⟩:=h;cases rx;obtain⟨t,rfl⟩:=ry;obtain⟨its,r,pl,hz⟩:=I.tuple hq;obtain⟨j,h1,h2,h3,h4,h5⟩:=yg he;obtain⟨w,ew,rw'⟩:=r.get h2;have hl:=r.length;have hn:=oA;have fin:EP X pins σ Q w s:=⟨z,H,I,rw',q⟩
 exact subscriptTail_builtinR (x:=w) pl.typeIs slot_tuple_getitem.lookup
  (getItem_tuple (j:=j) (Q:=fun r s'=>r=w/\EP X pins σ Q r s') pl (by omega) (by omega) (by rw[size_toArray,<- hl];exact h1) (by simpa using ew) ⟨rfl,fin⟩) hs
theorem IB(its:List Value)(n j:Nat)(u:Value):Obj.mapSeq (·.setIfInBounds j u) { cls:=.type "list",data:=.seq its.toArray n }={ cls:=.type "list",data:=.seq (its.set j u).toArray n }:=by simp[Obj.mapSeq]
theorem Inv.lst{pins:List (Addr×Obj)}{σ:St}{H:Hp}{s:Shared}{p:Addr}{xs:List V}(I:Inv X pins σ H s)(h:H p=some (.lst xs)) :
  ∃(its:List Value) (n:Nat),Vals xs its/\s.heap.get? p=some { cls:=.type "list",data:=.seq its.toArray n }/\xs.length<=sizeLine:=by
 obtain⟨z,its,n,r,e⟩:=I.hok p _ h;exact⟨its,n,r,e,z⟩
theorem Inv.lstUpd{σ:St}{p:Addr}{ys:List V}{n':Nat}{f:Obj->Obj}(I:Inv X pins σ H s)(h:H p=some (.lst xs))(ho:s.heap.get? p=some { cls:=.type "list",data:=.seq its.toArray n })(hf:f { cls:=.type "list",data:=.seq its.toArray n }={ cls:=.type "list",data:=.seq its'.toArray n' })(r:Vals ys its')(hz:ys.length<=sizeLine)(t:Nat) :
  Inv X pins σ (upd H p (.lst ys)) { s with heap:=s.heap.update p f,toks:=t }:=by
 have e:(s.heap.update p f).get? p=some { cls:=.type "list",data:=.seq its'.toArray n' }:=by rw[Heap.get?_update_self f ho (by rw[hf]<;>rfl),hf]
 refine I.write (x:=p) (e:=p) (by rw[h];trivial) (.inl rfl) (fun b u hb q=>(Heap.get?_update_other _ _ (Ne.symm hb)).trans q) ⟨_,e⟩ ?_;exact⟨hz,its',n',r,e⟩
def BI:V->V->V->Hp->(Hp->Prop)->Prop:=fun o i v H Q=>∃p xs k j,o=.ref p/\i=.int k/\H p=some (.lst xs)/\gm xs.length k=some j/\Q (upd H p (.lst (xs.set j v)))
theorem G9:vI X BI:=by
 intro pins s σ H o i v ov iv u Q I ro ri rv h;obtain⟨p,xs,k,j,rfl,rfl,hp,hj,q⟩:=h;cases ro;obtain⟨t,rfl⟩:=ri;obtain⟨its,n,r,ho,hz⟩:=I.lst hp;obtain⟨h1,h2,h3,h4⟩:=yi hj;have hl:=r.length;have hn:=oA;have I':Inv X pins σ (upd H p (.lst (xs.set j v))) { s with heap:=s.heap.update p (Obj.mapSeq (·.setIfInBounds j u)) } :=
  I.lstUpd hp ho (IB its n j u) (r.set rv j) (by rw[length_set];exact hz) s.toks
 by_cases h0:0<=k
 ·have hk:k.toNat=j:=by rw[seqIndex_of h0 h4] at h1;exact Option.some.inj h1
  exact PySem.W.ki_setAt ho h0 (by omega) (by rw[size_toArray,<- hl];exact h4) (by rw[hk];exact⟨_,I',q⟩)
 ·have hk:(k+(its.toArray.size:Int)).toNat=j:=by rw[seqIndex_neg (by omega) h3] at h1;rw[size_toArray,<- hl];exact Option.some.inj h1
  exact PySem.W.ki_setBack ho (by omega) (by rw[size_toArray,<- hl];exact h3) (by omega) (by rw[hk];exact⟨_,I',q⟩)
theorem JB(lo hi:Option Int)(n:Nat):(sliceBounds lo hi none n).1=((HT.sIx n 0 lo:Nat):Int)/\(sliceBounds lo hi none n).2.1=((HT.sIx n n hi:Nat):Int)/\(sliceBounds lo hi none n).2.2=1:=by
 refine⟨?_,?_,rfl⟩
 ·cases lo with
  | none=>simp[sliceBounds,HT.sIx]
  | some i =>
   simp only[sliceBounds,HT.sIx,getD_none,show(1:Int)>0 by decide,if_true]
   by_cases h:i<0
   ·simp only[h,if_true]<;>omega
   ·simp only[h,if_false]<;>omega
 ·cases hi with
  | none=>simp[sliceBounds,HT.sIx]
  | some i =>
   simp only[sliceBounds,HT.sIx,getD_none,show(1:Int)>0 by decide,if_true]
   by_cases h:i<0
   ·simp only[h,if_true]<;>omega
   ·simp only[h,if_false]<;>omega
theorem JH(its:List Value)(lo hi:Option Int):slicePick its.toArray lo hi none=((its.drop (HT.sIx its.length 0 lo)).take (HT.sIx its.length its.length hi-HT.sIx its.length 0 lo)).toArray:=by obtain⟨h1,h2,h3⟩:=JB lo hi its.toArray.size;unfold slicePick;rw[h1,h2,h3];simp only[sliceRange_one,pick_run,size_toArray]<;>rfl
def vo(K:Frag):V->Option Int->Option Int->Hp->VK->Prop:=fun x lo hi H Q=>∃a xs,x=.ref a/\cY K H a xs/\∀p,H p=none->Q (.ref p) (upd H p (.lst (mD xs lo hi)))
theorem FF:vb X (vo X.K):=by intro pins s σ H x v vl vu lo hi sl Q I rx hs pl pu h;obtain⟨a,xs,rfl,hx,q⟩:=h;cases rx;obtain⟨its,r,ht,hz⟩:=I.list hx;have hlen:=r.length;refine⟨"list",_,slot_list_getitem.lookup,ht.isList.typeIs,?_⟩;refine wpAny_getItem_list_slice ht.isList hs pl pu .none (by simp) ?_ (by rw[size_toArray]<;>omega);rw[JH,<- hlen];refine⟨.ref s.heap.objs.size,_,I.laid (t':=s.toks) (o:=.lst (mD xs lo hi)) (fun b ob q=>Heap.get?_push_of_some _ q) (le_refl _) ?_,rfl,q _ (I.hok.fresh (le_refl _))⟩;exact⟨le_trans (Jn xs lo hi) hz,_,0,(r.drop (HT.sIx xs.length 0 lo)).take (HT.sIx xs.length xs.length hi-HT.sIx xs.length 0 lo),Heap.get?_push_size _ rfl⟩
theorem JA:aP X (.type "list") (fun xs H Q=>∃p ys,xs=[.ref p]/\(cY X.K H p ys\/eY X.K H p ys)/\∀l,H l=none->Q (.ref l) (upd H l (.lst ys))):=by
 intro pins s σ H xs us Q I r h;obtain⟨p,ys,rfl,hq,q⟩:=h;obtain⟨u,rfl,rx⟩:=iR r;cases rx;have fin:∀(its:List Value),Vals ys its->ys.length<=sizeLine->∀(h':Heap) (c':Nat),(∀b o',s.heap.get? b=some o'->h'.get? b=some o') ->
   h'.get? s.heap.objs.size=some { cls:=.type "list",dict:=none,data:=.seq its.toArray c',slots:=#[] }->EP X pins σ Q (.ref s.heap.objs.size) { s with heap:=h' }:=fun its r' hz h' c' kp e =>
  ⟨.ref s.heap.objs.size,_,I.laid (t':=s.toks) kp (le_refl _) (show aE X.prog X.w _ h' _ (.lst ys) from⟨hz,its,c',r',e⟩),rfl,q _ (I.hok.fresh (le_refl _))⟩
 rcases hq with hq|hq
 ·obtain⟨its,r',pl,hz⟩:=I.list hq;have hlen:=r'.length;obtain⟨o,ho,hc,n,hd⟩:=pl.isList;exact call_list_seq p (.inl rfl) ho hc hd (fun h' c' kp e=>fin its r' hz h' c' kp e) (by simp only[size_toArray]<;>omega)
 ·obtain⟨its,r',pl,hz⟩:=I.tuple hq;have hlen:=r'.length;obtain⟨o,ho,hc,n,hd⟩:=pl;exact call_list_seq p (.inr rfl) ho hc hd (fun h' c' kp e=>fin its r' hz h' c' kp e) (by simp only[size_toArray]<;>omega)
theorem JG:aP X (.type "tuple") (fun xs H Q=>∃p ys,xs=[.ref p]/\((cY X.K H p ys/\∀l,H l=none->Q (.ref l) (upd H l (.tup ys)))\/(eY X.K H p ys/\Q (.ref p) H))):=by
 intro pins s σ H xs us Q I r h;obtain⟨p,ys,rfl,h⟩:=h;obtain⟨u,rfl,rx⟩:=iR r;cases rx;rcases h with ⟨hq,q⟩|⟨hq,q⟩
 ·obtain⟨its,r',pl,hz⟩:=I.list hq;have hlen:=r'.length;refine call_tuple_list pl.isList (fun h' kp=>?_) (by simp only[size_toArray]<;>omega);have I1:Inv X pins σ H { s with heap:=h' }:=I.kept (t':=s.toks) kp;have I2:Inv X pins σ (upd H h'.objs.size (.tup ys)) { s with heap:=h'.push { cls:=.type "tuple",data:=.seq its.toArray } } :=
   I1.laid (t':=s.toks) (fun b o e=>Heap.get?_push_of_some _ e) (le_refl _) (show aE X.prog X.w _ _ _ (.tup ys) from⟨hz,its,r',gP.new _ _⟩)
  exact⟨.ref h'.objs.size,_,I2,rfl,q _ (I1.hok.fresh (le_refl _))⟩
 ·obtain⟨its,r',pl,hz⟩:=I.tuple hq;exact call_tuple_same pl ⟨.ref p,H,I,rfl,q⟩
def u4(K:Frag)(T:String)(x:V)(H:Hp):Prop:=match x with
 | .str _=>T = "str"
 | .int _=>T = "int"
 | .ref p=>(T = "list" /\ ∃xs,cY K H p xs)\/(T = "tuple" /\ ∃o,K.lookup p=some o/\o.cls=.type "tuple" /\ o.dict=none) \/
   (T = "dict" /\ ((∃kvs,H p=some (.dK kvs))\/∃kvs,H p=some (.dT kvs)))\/(T = "set" /\ ∃S n,H p=some (.set S n))
 | _=>False
theorem xb{σ:St}{x:V}{v:Value}(I:Inv X pins σ H s)(r:RelV x v)(ty:u4 X.K T x H) :
  s.TypeIs v T/\∀a,v=.ref a->∃ob,s.heap.get? a=some ob/\ob.dict=none:=by
 cases x with
 | str z =>
  obtain⟨t,rfl⟩:=r;cases (show T = "str" from ty);exact⟨typeIs_str s z t,fun _ e=>nomatch e⟩
 | int i =>
  obtain⟨t,rfl⟩:=r;cases (show T = "int" from ty);exact⟨typeIs_int s i t,fun _ e=>nomatch e⟩
 | ref p =>
  cases r;rcases ty with ⟨rfl,xs,hq⟩|⟨rfl,o,hk,hc,hd⟩|⟨rfl,hk⟩|⟨rfl,S,n,hk⟩
  ·obtain⟨its,_,pl,_⟩:=I.list hq;refine⟨pl.isList.typeIs,fun a e=>?_⟩;cases e;obtain⟨o,n,e,c,hd,_⟩:=pl;exact⟨o,e,hd⟩
  ·refine⟨⟨o,I.kIn p o hk,hc⟩,fun a e=>?_⟩;cases e;exact⟨o,I.kIn _ o hk,hd⟩
  ·have z:∃o,s.heap.get? p=some o/\o.ExactDict:=by
    rcases hk with ⟨kvs,hk⟩|⟨kvs,hk⟩
    ·obtain⟨_,_,_,_,o,_,_,e,ex,_⟩:=I.hok p _ hk;exact⟨o,e,ex⟩
    ·obtain⟨_,_,_,_,o,_,_,e,ex,_⟩:=I.hok p _ hk;exact⟨o,e,ex⟩
   obtain⟨o,e,ex⟩:=z;refine⟨⟨o,e,ex.1⟩,fun a e2=>?_⟩;cases e2;exact⟨o,e,ex.2.1⟩
  ·obtain⟨o,_,_,_,e,ex,_⟩:=I.hok p _ hk;refine⟨⟨o,e,ex.1⟩,fun a e2=>?_⟩;cases e2;exact⟨o,e,ex.2.1⟩
 | _=>exact False.elim ty
def Bk(K:Frag)(T:String)(r:V->List V->Hp->VK->Prop)(to:TE):TE:=fun σ H Q=>to σ H fun x H1=>u4 K T x H1/\r x [] H1 Q
def Kb(K:Frag)(T:String)(r:V->List V->Hp->VK->Prop)(to:TE)(t:TA):TE:=fun σ H Q=>to σ H fun x H1=>u4 K T x H1/\t σ H1 fun xs H2=>r x xs H2 Q
variable {o:Expr} {es:List Expr} {to:TE} {t:TA} {name:Str} {apos cpos:Pos} {id:String} {r:V->List V->Hp->VK->Prop}
theorem DM(pa:PlainAttrs T)(slot:Slot T name id)(hty:typeOf (.builtin id)=pure (.type "method_descriptor"))(hm:pf X id r)(ho:PE X o to)(hbase:attributeBase o name X.env (eval o X.env)=eval o X.env:=by rfl)(hline:(apos.endLine==cpos.line)=true:=by rfl):PE X (.Call (.Attribute o name apos) [] [] cpos) (Bk X.K T r to):=by intro pins s σ H Q I h;refine wpAny_Call_method0_late hbase hline (aO (ho pins s σ H _ I h) fun v s1 ⟨x,H1,I1,r1,ty,q1⟩=>?_);obtain⟨h1,h2⟩:=xb I1 r1 ty;exact⟨T,id,pa,slot,hty,h1,h2,Calls.callWith_builtin rfl (PySem.evalArgs_none (hm pins s1 σ H1 x [] v [] Q I1 r1 .nil q1))⟩
theorem BH(pa:PlainAttrs T)(slot:Slot T name id)(hty:typeOf (.builtin id)=pure (.type "method_descriptor"))(hm:pf X id r)(ho:PE X o to)(ha:PA X (e::es) t)(hbase:attributeBase o name X.env (eval o X.env)=eval o X.env:=by rfl)(hfew:((backTo cpos (starEach (e::es) X.env)).all (fun x=>!x.1)&&(backToKw cpos (keywordEach [] X.env)).all (fun x=>x.1.isSome)
   && decide ((e::es).length+([]:List Keyword).length+(if ([]:List Keyword).isEmpty then 0 else 1)<30))=true:=by rfl)(hline:(apos.endLine==cpos.line)=true:=by rfl)(hs:starEach (e::es) X.env=(false,eval e X.env)::starEach es X.env:=by rfl)(hplain:(backTo cpos (starEach es X.env)).any (·.1)=false:=by rfl) :
  PE X (.Call (.Attribute o name apos) (e::es) [] cpos) (Kb X.K T r to t):=by
 intro pins s σ H Q I h;refine wpAny_Call_method_late hbase hfew hline rfl (aO (ho pins s σ H _ I h) fun v s1 ⟨x,H1,I1,r1,ty,q1⟩=>?_);obtain⟨h1,h2⟩:=xb I1 r1 ty;refine⟨T,id,pa,slot,hty,h1,h2,?_⟩;have hA:=ha cpos pins s1 σ H1 _ I1 q1;rw[hs] at hA ⊢;refine Calls.callWith_builtin (by show(false||(backTo cpos (starEach es X.env)).any (·.1))=false;rw[hplain]<;>rfl) (Calls.evalArgs_plain ?_);exact aO hA fun us s2 ⟨vs,H2,I2,r2,q2⟩=>hm pins s2 σ H2 x vs v us Q I2 r1 r2 q2
end
def vd(X:Cx)(id:String)(r:V->List V->Hp->VK->Prop):Prop :=
 ∀(pins:List (Addr×Obj)) (s:Shared) (σ:St) (H:Hp) (x:V) (xs:List V) (v:Value) (us:List Value) (Q:VK),Inv X pins σ H s->RelV x v->Vals xs us->r x xs H Q ->
  wpAny (model X.prog X.w) X.A (call (.builtin id) (v::us)) (EP X pins σ Q) X.xe s
theorem Vals.one:∀{x:V} {us:List Value},Vals [x] us->∃u,us=[u]/\RelV x u
 | _,_,.cons r .nil=>⟨_,rfl,r⟩
theorem Vals.zero:∀{us:List Value},Vals [] us->us=[]
 | _,.nil=>rfl
theorem Vals.dropLast{us:List Value}(h:Vals xs us):Vals xs.dropLast us.dropLast:=by
 induction h with
 | nil=>exact .nil
 | cons r t ih =>
  cases t with
  | nil=>exact .nil
  | cons q t'=>exact .cons r ih
theorem Vals.rep{xs:List V}{us:List Value}(h:Vals xs us):∀k:Nat,Vals (List.replicate k xs).flatten (List.replicate k us).flatten
 | 0=>.nil
 | k+1=>by
  rw[replicate_succ,replicate_succ,flatten_cons,flatten_cons];exact Vals.append h (Vals.rep h k)
theorem IA{α:Type}(l:List α):l.eraseIdx (l.length-1)=l.dropLast:=by
 induction l with
 | nil=>rfl
 | cons a r ih =>
  cases r with
  | nil=>rfl
  | cons b r =>
   have e:(a::b::r).length-1=((b::r).length-1)+1:=by have h1:(a::b::r).length=r.length+2:=rfl;have h2:(b::r).length=r.length+1:=rfl;omega
   rw[e,eraseIdx_cons_succ,ih]
   all_goals rfl
theorem zE(its:List Value):∀(k:Nat) (acc:List Value),
  List.foldl (fun x1 x2=>x1++x2) acc.toArray (List.replicate k its.toArray)=(acc++(List.replicate k its).flatten).toArray
 | 0,acc=>by simp
 | k+1,acc=>by
  have e:acc.toArray++its.toArray=(acc++its).toArray:=by simp
  have e2:(acc++its)++(List.replicate k its).flatten=acc++(List.replicate (k+1) its).flatten:=by rw[replicate_succ,flatten_cons,append_assoc]
  rw[<- e2,<- zE its k (acc++its),<- e,replicate_succ,foldl_cons]
variable {t':Nat}
section
variable {σ:St} {l b:Addr} {ys zs:List V}
theorem Inv.lset{f:Array Value->Array Value}(I:Inv X pins σ H s)(hH:H l=some (.lst xs))(e:s.heap.get? l=some { cls:=.type "list",data:=.seq its.toArray n })(hf:f its.toArray=its'.toArray)(hv:Vals ys its')(hz:ys.length<=sizeLine) :
  Inv X pins σ (upd H l (.lst ys)) { s with heap:=s.heap.update l (Obj.mapSeq f),toks:=t' }:=by
 have q:=PySem.IsL.update e f;rw[hf] at q;refine I.write (x:=l) (e:=l) (by rw[hH];exact trivial) (.inl rfl) (fun b' u hb hu=>(Heap.get?_update_other s.heap (Obj.mapSeq f) (Ne.symm hb)).trans hu) ⟨_,q⟩ ?_;exact⟨hz,its',_,hv,q⟩
theorem Inv.lnew(I:Inv X pins σ H s)(hv:Vals ys its)(hz:ys.length<=sizeLine) :
  Inv X pins σ (upd H s.heap.objs.size (.lst ys)) { s with heap:=s.heap.push { cls:=.type "list",data:=.seq its.toArray },toks:=t' } :=
 I.laid (fun _ _ q=>Heap.get?_push_of_some _ q) (le_refl _) ⟨hz,its,0,hv,Heap.get?_push_size _ rfl⟩
theorem Inv.fresh(I:Inv X pins σ H s):H s.heap.objs.size=none:=I.hok.fresh (le_refl _)
theorem Inv.lstM(I:Inv X pins σ H s)(hH:H l=some (.lst xs)):xs.length<=sizeLine/\∃(its:List Value) (n:Nat),Vals xs its/\xs.length=its.length/\s.heap.get? l=some { cls:=.type "list",data:=.seq its.toArray n }:=by obtain⟨z,its,n,r,e⟩:=I.hok l _ hH;exact⟨z,its,n,r,r.length,e⟩
theorem yW(h:n<=sizeLine):Builtin.List.listTooLong n=false:=by unfold Builtin.List.listTooLong;exact decide_eq_false (by omega)
end
def ye:V->List V->Hp->VK->Prop:=fun x vs H Q=>∃l xs y,x=.ref l/\vs=[y]/\H l=some (.lst xs)/\xs.length<sizeLine/\Q .non (upd H l (.lst (xs++[y])))
theorem fW:vd X "list.append" ye:=by intro pins s σ H x vs v us Q I rx rv h;obtain⟨l,xs,y,rfl,rfl,hH,hz,q⟩:=h;cases rx;obtain⟨u,rfl,ru⟩:=rv.one;obtain⟨z,its,n,r,hl,e⟩:=I.lstM hH;refine call_meets F.slot_list_append ⟨_,e,rfl⟩ F.entry_list_append (F.args_list_append_2 _ _) (PySem.list_append l its.toArray n u (by rw[size_toArray];omega)) ⟨e,?_⟩;refine⟨.non,_,I.lset (its':=its++[u]) hH e (by simp) (r.append (.cons ru .nil)) ?_,rfl,q⟩;rw[length_append,length_singleton];omega
def vn:V->List V->Hp->VK->Prop:=fun x vs H Q=>∃l xs y,x=.ref l/\vs=[]/\H l=some (.lst xs)/\xs[xs.length-1]?=some y/\Q y (upd H l (.lst xs.dropLast))
theorem pV:vd X "list.pop" vn:=by
 intro pins s σ H x vs v us Q I rx rv h;obtain⟨l,xs,y,rfl,rfl,hH,hy,q⟩:=h;cases rx;have hus:=rv.zero;subst hus;obtain⟨z,its,n,r,hl,e⟩:=I.lstM hH;obtain⟨u,hu,ru⟩:=r.get hy;have hy':its.toArray[its.toArray.size-1]?=some u:=by show its.toArray[its.length-1]?=some u;rw[<- getElem?_toList,<- hl];exact hu
 refine call_meets F.slot_list_pop ⟨_,e,rfl⟩ F.entry_list_pop (F.args_list_pop_1 _) (MeetsSeq.list_pop_last l its.toArray n u hy' (by rw[size_toArray];omega)) ⟨e,?_⟩;refine⟨y,_,I.lset (its':=its.dropLast) hH e ?_ r.dropLast ?_,ru,q⟩
 ·show its.toArray.eraseIdxIfInBounds (its.toArray.size-1)=its.dropLast.toArray;rw[size_toArray,eraseIdxIfInBounds_toArray,IA]
 ·rw[length_dropLast];omega
def Bj:R2:=fun x y H Q=>∃l k xs,x=.ref l/\y=.int k/\H l=some (.lst xs)/\-(2 ^ 63)<=k/\k<2 ^ 63/\xs.length*k.toNat<=sizeLine /\
 ∀p,H p=none->Q (.ref p) (upd H p (.lst (List.replicate k.toNat xs).flatten))
theorem FE{α:Type}(xs:List α)(k:Nat):(List.replicate k xs).flatten.length=k*xs.length:=by
 induction k with
 | zero=>simp
 | succ k ih=>rw[replicate_succ,flatten_cons,length_append,ih,succ_mul,add_comm]
theorem Eg:dM X (binaryOp .Mult) Bj:=by
 intro pins s σ H x y v u Q I rx ry h;obtain⟨l,k,xs,rfl,rfl,hH,h1,h2,hz,q⟩:=h;cases rx;obtain⟨t,rfl⟩:=ry;obtain⟨z,its,n,r,hl,e⟩:=I.lstM hH;have hlen:its.toArray.size*k.toNat<=sizeLine:=by rw[size_toArray,<- hl];exact hz
 have hcap:¬its.toArray.size*k.toNat>(2 ^ 63-1) / 8:=by
  have:(sizeLine:Nat)<=(2 ^ 63-1) / 8:=by decide
  omega
 have hfit:¬(!Builtin.List.listFitsIndex k)=true:=by rw[fitsIndex_both h1 h2];exact Bool.false_ne_true
 have hlong:¬Builtin.List.listTooLong (its.toArray.size*k.toNat)=true:=by rw[yW hlen];exact Bool.false_ne_true
 have hnew:List.foldl (fun x1 x2=>x1++x2) #[] (List.replicate (if its.toArray.isEmpty=true then 0 else k.toNat) its.toArray)=(List.replicate k.toNat its).flatten.toArray:=by
  have f0:∀m:Nat,List.foldl (fun x1 x2=>x1++x2) #[] (List.replicate m its.toArray)=(List.replicate m its).flatten.toArray:=fun m=>by
   have:=zE its m [];rw[nil_append] at this;exact this
  rw[f0];cases its with
  | nil=>simp
  | cons a r'=>rw[if_neg (by simp)]
 refine wpAny_binaryOp_repeat_ref (T := "list") (U := "int") (by decide) ⟨_,e,rfl⟩ (fun s'=>typeIs_int s' k t) noFill_list_mul F.fills_int_mul F.slot_int_rmul repeat_list F.slot_int_index.lookup
  (call_meets F.slot_int_rmul (typeIs_int s k t) F.entry_int_rmul (F.args_int_rmul_2 _ _) (int___rmul___int_list k t l its.toArray n)
   ⟨e,rfl,⟨_,e,rfl⟩,call_meets F.slot_list_mul ⟨_,e,rfl⟩ F.entry_list_mul (F.args_list_mul_2 _ _) (AutoListH.list___mul___list_int_3 l its.toArray n k t hfit hcap hlong) ⟨e,?_⟩⟩)
 rw[hnew];exact⟨.ref _,_,I.lnew (t':=s.toks) (r.rep k.toNat) (by rw[FE,mul_comm];exact hz),rfl,q _ I.fresh⟩
section
variable {prog:Program} {w:World} {A:Around} {E:Value->Shared->Prop}
end
end L2
namespace Att
open PySem PySem.W PySem.Calls PyProof.Rows
variable {P:Params} {h:Heap}
theorem JJ:∀(ns:List Int) (vs:List Value),WellAll P h vs (ns.map WData.int)->IntsAre vs ns:=by
 intro ns
 induction ns with
 | nil =>
  intro vs w;rw[map_nil] at w;cases w;exact .nil
 | cons n ns ih =>
  intro vs w;rw[map_cons] at w;cases w with
  | cons a b =>
   cases a;exact .cons _ _ (ih _ b)
variable {l:OpenLaw} {n:Nat}
theorem Ij(hn:l.most=some n){args:List WData}{vals:List Value}(hpre:l.row.toRowW.claim.pre args=true)(hwl:WellAll P h vals args) :
  ∃a vs ns,vals=[Value.ref a]/\args=[WData.list (ns.map WData.int)]/\h.get? a=some { cls:=.type "list",data:=.seq vs.toArray }/\IntsAre vs ns/\ns.length<=n:=by
 have hsh:WShape.hasAll [] args [.list .int]=true:=(pre_splitW hpre).1;have hc:l.pre.holds [] { args:=args }=true:=(pre_splitW hpre).2;obtain⟨d,r,rfl,h1,h2⟩:=hasAllW_cons hsh;obtain rfl:=hasAllW_nil h2;obtain⟨xs,rfl,h3⟩:=hasW_list h1;obtain⟨ns,rfl⟩:=items_int h3;have hlen:ns.length<=n:=by
  unfold OpenLaw.pre at hc;have h4:(WTm.not (.lt (.lit (.int (n:Int))) (.len (.arg 0)))).holds [] { args:=[.list (ns.map .int)] }=true:=by have h4:=(holds_andW hc).1;rw[hn] at h4;exact h4
  have h5:=condW_of h4 (w_not (w_lt w_lit (w_len_list (w_arg rfl))));rw[length_map] at h5;refine le_of_not_lt fun q=>?_;have q':(n:Int)<((ns.length:Nat):Int):=by omega
  first
   | (rw[decide_eq_true q'] at h5;exact absurd h5 (by decide))
   | (simp at h5;omega)
 cases hwl with
 | cons w1 w2 =>
  cases w2;cases w1 with
  | list ho hall=>exact⟨_,_,ns,rfl,rfl,ho,JJ ns _ hall,hlen⟩
theorem Ii(l:OpenLaw)(args:List WData):l.row.toRowW.claim.post args (.bool true) args=true :=
 postW_of (r:=l.row.toRowW) (X:=(true==true))
  (show WShape.has [] (.bool true) .bool=true by first|rfl|decide|simp[WShape.has,WShape.arms,WShape.armsAll])
  (show(WTm.eq .res (.lit (.bool true))).value [] { args:=args,res:=some (.bool true),after:=args }=some (.bool (true==true)) from w_eq_bool (w_res rfl) w_lit) rfl
theorem attach_call{q:Program}{loose:List Str}{XP:(Str->Option Value)->Heap->Prop}{YP:World->Heap->Prop}{d:DefRec}(hn:l.most=some n)(hdf:d.params.defaults=[])(call:∀(w:World) (s₀ s₁:Shared) (mg mb:Str->Option Value) (fa:Addr) (o:Obj) (pm cd doc:Value) (a:Addr) (vs:List Value) (ns:List Int),
   Ground q loose [] XP w s₀ mg mb s₁.heap->YP w s₁.heap ->
   s₁.heap.get? fa=some o->o.data=.func (docDef d.name d.params d.body d.scope pm cd doc)->s₁.heap.CodeRec cd d.name->mg d.name=some (.ref fa) ->
   s₁.heap.get? a=some { cls:=.type "list",data:=.seq vs.toArray }->IntsAre vs ns->ns.length<=n->s₁.gens=#[] ->
   codeAny (model l.prog w) callerA (.call (.ref fa) ⟨[.ref a],[]⟩) (fun r s'=>r=.ok (.ret (.bool true))/\OldK s₁.heap s'.heap/\s'.os=s₁.os/\AllBare s'.gens) s₁) :
  WalkO q loose XP YP l.row.toRowW d [] (fun f vs=>PySem.call f vs):=by
 intro w s₀ s₁ mg mb G Y fa o pm cd doc dV kV ho hd hcd hD hmg hg args vals as hpre hlay hrd hwl hlo;obtain rfl:dV=.none:=Dflts.none hD hdf;obtain rfl:kV=.none:=Dflts.noKw hD;obtain⟨a,vs,ns,rfl,rfl,hobj,hints,hlen⟩:=Ij hn hpre hwl;refine enter_call (codeAny_mono (call w s₀ s₁ mg mb fa o pm cd doc a vs ns G Y ho (fd_plain hd) hcd hmg hobj hints hlen hg) fun r s' hq=>?_);obtain⟨rfl,h2,h3,h4⟩:=hq;exact⟨.inl ⟨.bool true,.bool true,[],rfl,fun _=>rfl,.bool true,Ii l _,fun _=>⟨List.Pairwise.nil,fun _ hm=>(nomatch hm)⟩⟩,h2,h3,h4⟩
section
variable {prog:Program} {w:World} {A:Around} {E:Value->Shared->Prop} {s:Shared} {K:Frag}
def K0(h:Heap)(L d:Addr):List (Addr×Obj):=(List.range h.objs.size).filterMap fun a=>if a=L\/a=d then none else (h.get? a).map fun o=>(a,o)
end
end Att
namespace L2
open PySem PySem.Spec PyProof.Rows
theorem o4:∀{vs:List Value} {ns:List Int},IntsAre vs ns->Vals (ns.map V.int) vs
 | _,_,.nil=>.nil
 | _,_,.cons n t h=>.cons ⟨t,rfl⟩ (o4 h)
def nX(H:Hp):Prop:=∀b,H b=none\/∃o xs,H b=some (.frz o (.lst xs))
variable {P:Program} {w:World} {mg:Str->Option Value} {CX:jC} {a:Addr} {fd:FuncData} {ns:List Int}
theorem G8{K:Frag}{mb:Str->Option Value}{k:Nat}{fa:Addr}{x:Str}{sp:Sp}{s₁:Shared}{vs:List Value}(KX:K.In s₁.heap)(hns:s₁.heap.Ns mainGlobals mg)(hb:s₁.heap.Ns builtinsNs mb)(hbb:∀x:Str,x ≠ "__name__" -> mb x=bootBuiltins x)(hlim:s₁.heap.NoLimit)(hg:s₁.gens=#[])(ha:s₁.heap.get? a=some { cls:=.type "list",data:=.seq vs.toArray })(hi:IntsAre vs ns)(hl:ns.length<=sizeLine)(hr:aT k callerA)(F:∀base:Heap,K.In base->base.Ns mainGlobals mg->ay P w K mg base CX k fa fd [x] sp)(hbind:∀(s:Shared) (u:Value),BindsTo s fd ⟨[u],[]⟩ [(x,u)])(hsp:∀H:Hp,nX H->cY K H a (ns.map V.int)->sp [.ref a] H (fun v _=>v=.bl true) fun _ _ _=>False)(hCX:∀H e s',CX [] H s₁ (fun _ _ _=>False) e s'->False) :
  codeAny (model P w) callerA (.call (.ref fa) ⟨[.ref a],[]⟩) (fun r s'=>r=.ok (.ret (.bool true))/\OldK s₁.heap s'.heap/\s'.os=s₁.os/\AllBare s'.gens) s₁:=by
 have rv:=o4 hi;have lenV:=hi.length;have core:∀H:Hp,nX H->cY K H a (ns.map V.int)->cF P w H s₁.heap->(∀b,H b≠none->b=a)->(H a≠none->K.lookup a=none) ->
   codeAny (model P w) callerA (.call (.ref fa) ⟨[.ref a],[]⟩) (fun r s'=>r=.ok (.ret (.bool true))/\OldK s₁.heap s'.heap/\s'.os=s₁.os/\AllBare s'.gens) s₁:=by
  intro H hO hS hok hA hK;have base_of:∀{b:Addr} {o:Obj},s₁.heap.get? b=some o->H b=none->(kb s₁.heap H).get? b=some o:=fun e n=>Hl e n;have noA:∀{b:Addr} {o:Obj} {es:Array DictEntry} {ep:Nat},s₁.heap.get? b=some o->o.data=.dict es ep->H b=none:=fun {b o es ep} e d=>by
   cases q:H b with
   | none=>rfl
   | some u =>
    have e':b=a:=hA b (by rw[q];simp);subst e';rw[ha] at e;cases e;have d':Data.seq vs.toArray _=Data.dict es ep:=d;cases d'
  have nsK:∀{b:Addr} {m:Str->Option Value},s₁.heap.Ns b m->(kb s₁.heap H).Ns b m:=fun {b m} ⟨o,es,ep,e,d,r⟩=>⟨o,es,ep,base_of e (noA e d),d,r⟩
  have hKb:K.In (kb s₁.heap H):=fun b o e=>base_of (KX b o e) (by
   cases q:H b with
   | none=>rfl
   | some u =>
    have e':b=a:=hA b (by rw[q];simp);subst e';rw[hK (by rw[q];simp)] at e;cases e)
  have hM:Mod K mg (kb s₁.heap H):=⟨hKb,nsK hns,⟨mb,nsK hb,hbb⟩,let ⟨mc,h1,h2⟩:=hlim;⟨mc,nsK h1,h2⟩⟩
  have e0:gR P w K mg (kb s₁.heap H) callerA [] s₁ H:=⟨rfl,hM,fun b o e=>Fv e,le_of_eq (HW _ _),trivial,fun b hb=>absurd (show b∈([]:List Addr) from hb) (by simp),hok,.of_eq hg⟩
  refine codeAny_mono ((F _ hKb (nsK hns)).run callerA [] s₁ H ⟨[.ref a],[]⟩ [.ref a] [.ref a] _ _ hr e0 (hbind s₁ (.ref a)) (.cons rfl .nil) (hsp H hO hS)) fun r s' h=>?_;cases r with
  | error e=>exact(hCX H e s' h).elim
  | ok fl =>
   cases fl with
   | next=>exact False.elim h
   | brk=>exact False.elim h
   | cont=>exact False.elim h
   | ret u =>
    obtain⟨v,H',os,bare,un,hok',r',q⟩:=h;have q':v=.bl true:=q;subst q';obtain rfl:u=Value.bool true:=r';refine⟨rfl,OldK.of_keep fun b o e=>?_,os,bare⟩;cases q:H b with
    | none=>exact un.keep b o e q (by intro z;exact absurd (show b∈([]:List Addr) from z) (by simp)) (by simp)
    | some u =>
     rcases hO b with z|⟨ob,xs,z⟩
     ·rw[q] at z;cases z
     ·have z2:=un.frzs b ob _ z;obtain⟨e1,_⟩:=hok b _ z;obtain⟨e2,_⟩:=hok' b _ z2;rw[e] at e1;cases e1;exact e2
 cases hk:K.lookup a with
 | some o =>
  have e:=KX a o hk;rw[ha] at e;cases e;refine core (fun _=>none) (fun _=>.inl rfl) (.inr ⟨_,vs.toArray,_,hk,rfl,rfl,rfl,by rw[size_toArray,lenV];exact hl,by simpa using rv⟩) (fun b u z=>by have z':(none:Option HO)=some u:=z;cases z') (fun b z=>absurd rfl z) fun z=>absurd rfl z
 | none =>
  refine core (fun b=>if b=a then some (.frz { cls:=.type "list",data:=.seq vs.toArray } (.lst (ns.map V.int))) else none) (fun b=>?_) (.inl (.inr ⟨{ cls:=.type "list",data:=.seq vs.toArray },if_pos rfl⟩)) (fun b u z=>?_) (fun b z=>?_) fun _=>hk
  ·by_cases hb:b=a
   ·exact .inr ⟨_,_,if_pos hb⟩
   ·exact .inl (if_neg hb)
  ·by_cases hb:b=a
   ·have z':=(if_pos hb).symm.trans z;cases z';subst hb;exact⟨ha,by rw[length_map];exact hl,vs,_,rv,ha⟩
   ·have z':=(if_neg hb).symm.trans z;cases z'
  ·by_cases hb:b=a
   ·exact hb
   ·exact absurd (if_neg hb) z
variable {K:Params->Frag} {l:PySem.W.OpenLaw} {n:Nat} {q:Program} {loose:List Str} {YP:World->Heap->Prop} {d:DefRec}
theorem FD{k:Nat}{XP:(Str->Option Value)->Heap->Prop}{CX:World->jC}{sp:World->Sp}{x:Str}(hn:l.most=some n)(hn2:n<=sizeLine)(hdf:d.params.defaults=[])(hr:aT k callerA)(hY:∀(w:World) (h:Heap),YP w h->(K w.params).In h)(F:∀(w:World) (mg:Str->Option Value) (fa:Addr) (h:Heap),(K w.params).In h->h.Ns mainGlobals mg->mg d.name=some (.ref fa) ->
   ∃fd:FuncData,(∀(s:Shared) (u:Value),BindsTo s fd ⟨[u],[]⟩ [(x,u)]) /\
    ∀base:Heap,(K w.params).In base->base.Ns mainGlobals mg->ay l.prog w (K w.params) mg base (CX w) k fa fd [x] (sp w))(hsp:∀(w:World) (H:Hp) (a:Addr) (ns:List Int),ns.length<=n->nX H->cY (K w.params) H a (ns.map V.int)->sp w [.ref a] H (fun v _=>v=.bl true) fun _ _ _=>False)(hCX:∀(w:World) (H:Hp) (s:Shared) (e:Value) (s':Shared),CX w [] H s (fun _ _ _=>False) e s'->False) :
  PySem.W.WalkO q loose XP YP l.row.toRowW d [] (fun f vs=>PySem.call f vs):=by
 refine Att.attach_call hn hdf fun w s₀ s₁ mg mb fa o pm cd doc a vs ns G Y ho hd hcd hmg hobj hints hlen hg=>?_;have KX:=hY w _ Y;obtain⟨fd,hb,hF⟩:=F w mg fa _ KX G.T.g hmg;exact G8 KX G.T.g G.T.b G.T.builtins G.T.nolimit hg hobj hints (le_trans hlen hn2) hr hF hb (fun H hO hS=>hsp w H a ns hlen hO hS) fun H e s'=>hCX w H s₁ e s'
theorem walk_ofK{k:Nat}{XP:(Str->Option Value)->Heap->Prop}{sp:Frag->Sp}{x:Str}(hn:l.most=some n)(hn2:n<=sizeLine)(hdf:d.params.defaults=[])(hr:aT k callerA)(hY:∀(w:World) (h:Heap),YP w h->(K w.params).In h)(F:∀(w:World) (mg:Str->Option Value) (fa:Addr) (h:Heap),(K w.params).In h->h.Ns mainGlobals mg->mg d.name=some (.ref fa) ->
   ∃fd:FuncData,(∀(s:Shared) (u:Value),BindsTo s fd ⟨[u],[]⟩ [(x,u)]) /\
    ∀base:Heap,(K w.params).In base->base.Ns mainGlobals mg->ay l.prog w (K w.params) mg base CX k fa fd [x] (sp (K w.params)))(hsp:∀(K:Frag) (H:Hp) (a:Addr) (ns:List Int),ns.length<=n->nX H->cY K H a (ns.map V.int)->sp K [.ref a] H (fun v _=>v=.bl true) fun _ _ _=>False)(hCX:∀(H:Hp) (s:Shared) (e:Value) (s':Shared),CX [] H s (fun _ _ _=>False) e s'->False) :
  PySem.W.WalkO q loose XP YP l.row.toRowW d [] (fun f vs=>PySem.call f vs) :=
 FD (K:=K) (CX:=fun _=>CX) (sp:=fun w=>sp (K w.params)) hn hn2 hdf hr hY F (fun w H a ns h1 h2 h3=>hsp (K w.params) H a ns h1 h2 h3) fun _ H s e s'=>hCX H s e s'
def ni(s:Stmt):Arguments:=match s with
 | .FunctionDef _ a _ _ _ _ _ _ _ _=>a
 | _=>{ posonlyargs:=[],args:=[],vararg:=none,kwonlyargs:=[],kw_defaults:=[],kwarg:=none,defaults:=[] }
def lg(s:Stmt):List Stmt:=match s with
 | .FunctionDef _ _ b _ _ _ _ _ _ _=>b
 | _=>[]
def ba(s:Stmt):Scope:=match s with
 | .FunctionDef _ _ _ _ _ _ sc _ _ _=>sc
 | _=>{ kind:=.function,names:=[],isGenerator:=false,isCoroutine:=false }
abbrev CX0:jC:=fun _ _ _ _ _ _=>False
abbrev E0:XK:=fun _ _ _=>False
structure bQ (K:Frag) (x qual:Str) (st:Stmt) (f:Addr) (fd:FuncData):Prop where
 ex:∃(oc:Value) (od:Option Addr) (kV doc pm:Value) (an:Option Addr) (cdv ct:Value) (osl:Array (Option Value)),
  fd=fnOf x qual (ni st) (lg st) (ba st) .none kV doc pm an cdv ct/\K.lookup f=some ⟨oc,od,.func fd,osl⟩/\codeIn K cdv qual=true
 kp:keepIn K (.ref f)=true
variable {qual:Str} {st:Stmt} {f:Addr}
section
variable {K:Frag} {base:Heap}
theorem bQ.binds{x:Str}{ps:List Str}(F:bQ K x qual st f fd)(h:∀(kV doc pm:Value) (an:Option Addr) (cdv ct:Value) (us:List Value),us.length=ps.length->bindArgs (fnOf x qual (ni st) (lg st) (ba st) .none kV doc pm an cdv ct) ⟨us,[]⟩=pure (ps.zip us)):Binds K fd ps []:=by obtain⟨oc,od,kV,doc,pm,an,cdv,ct,osl,rfl,lk,hcd⟩:=F.ex;exact .all (h kV doc pm an cdv ct)
theorem xa{x:Str}{oc:Value}{od an:Option Addr}{osl:Array (Option Value)}{kV doc pm cdv ct:Value}(l:K.lookup f=some ⟨oc,od,.func (fnOf x qual (ni st) (lg st) (ba st) .none kV doc pm an cdv ct),osl⟩)(c:codeIn K cdv qual=true)(k:keepIn K (.ref f)=true):bQ K x qual st f (fnOf x qual (ni st) (lg st) (ba st) .none kV doc pm an cdv ct):=⟨⟨oc,od,kV,doc,pm,an,cdv,ct,osl,rfl,l,c⟩,k⟩
end
variable {X:Cx}
def Ks(H H':Hp):Prop:=∀b o,H b=some o->H' b=some o
def ik(js:List Nat)(σ:St):St:=js.map fun j=>σ.getD j none
structure gn (N:List Str) (psc:Scope) (js:List Nat) (N':List Str) (scope:Scope):Prop where
 cell:∀y∈scope.names,y.2≠.cell
 kind:scope.kind=.function
 names:∀y∈scope.names,y.2=.local->scope.names.lookup y.1=some .local
 frees:∀y∈scope.names,y.2=.free->psc.names.lookup y.1=some .cell\/psc.names.lookup y.1=some .free
 nd:N'.Nodup
 len:N'.length=js.length+1
 cap:∀p∈js.zip (N'.drop 1),N[p.1]?=some p.2/\scope.names.lookup p.2=some .free
def jT(env:Env)(cs:List (Str×Addr))(y:Str×NameKind):List (Str×Addr):=if y.2==.free then (y.1,(env.cells.lookup y.1).getD 0)::cs else cs
def clOf(scope:Scope)(env:Env):List (Str×Addr):=scope.names.foldl (jT env) []
theorem z8{α β:Type}(f:α->β->Sem (ForInStep β))(g:β->α->β):∀(l:List α) (b:β),(∀x∈l,∀c,f x c=pure (.yield (g c x)))->forIn l b f=pure (l.foldl g b)
 | [],_,_=>rfl
 | x::l,b,h=>by
  rw[forIn_cons,h x mem_cons_self,pure_bind];exact z8 f g l (g b x) fun y hy=>h y (mem_cons_of_mem _ hy)
variable {scope:Scope} {env:Env}
theorem Iz(h:∀y∈scope.names,y.2=.free->∃c,env.cells.lookup y.1=some c):closureFor scope env=pure (clOf scope env):=by
 simp only[closureFor,clOf];rw[z8 _ (jT env) scope.names [] (fun y hy c=>by
  obtain⟨n,k⟩:=y
  by_cases hk:k=.free
  ·subst hk;obtain⟨a,ha⟩:=h _ hy rfl;have ha':env.cells.lookup n=some a:=ha;simp[cellOf,ha',jT]
  ·have hb:(k==NameKind.free)=false:=by simpa using hk
   simp[hb,jT])]
 rfl
theorem zT{env:Env}{P:Str×Addr->Prop}:∀(l:List (Str×NameKind)) (acc:List (Str×Addr)),(∀p∈acc,P p)->(∀y∈l,y.2=.free->P (y.1,(env.cells.lookup y.1).getD 0))->∀p∈l.foldl (jT env) acc,P p
 | [],_,ha,_=>ha
 | y::l,acc,ha,hl=>by
  refine zT l _ (fun p hp=>?_) fun z hz=>hl z (mem_cons_of_mem _ hz);unfold jT at hp
  by_cases hk:y.2=.free
  ·rw[if_pos (by simp[hk])] at hp;rcases mem_cons.mp hp with e|hp
   ·rw[e];exact hl y mem_cons_self hk
   ·exact ha p hp
  ·rw[if_neg (by simp[hk])] at hp;exact ha p hp
theorem zS{env:Env}:∀(l:List (Str×NameKind)) (acc:List (Str×Addr)),∀p∈acc,p∈l.foldl (jT env) acc
 | [],_,_,hp=>hp
 | y::l,acc,p,hp=>by
  refine zS l _ p ?_;unfold jT;split
  ·exact mem_cons_of_mem _ hp
  ·exact hp
theorem zR{env:Env}{y:Str}:∀(l:List (Str×NameKind)) (acc:List (Str×Addr)),(y,NameKind.free)∈l->∃c,(y,c)∈l.foldl (jT env) acc
 | z::l,acc,h=>by
  rcases mem_cons.mp h with e|h
  ·subst e;exact⟨(env.cells.lookup y).getD 0,zS l _ _ (by simp[jT])⟩
  ·exact zR l _ h
theorem AE{β:Type}{y:Str}{c:β}:∀{l:List (Str×β)},(y,c)∈l->∃c',l.lookup y=some c'
 | (n,d)::l,h=>by
  rw[lookup_cons];cases e:y==n with
  | true=>exact⟨d,rfl⟩
  | false =>
   rcases mem_cons.mp h with q|q
   ·have q1:y=n:=congrArg Prod.fst q;rw[q1] at e;simp at e
   ·exact AE q
theorem zD(h:∀y∈scope.names,y.2=.free->∃c,env.cells.lookup y.1=some c){y:Str}{c:Addr}(e:(clOf scope env).lookup y=some c):env.cells.lookup y=some c:=by refine zT (P:=fun p=>env.cells.lookup p.1=some p.2) scope.names [] (fun _ hp=>nomatch hp) (fun z hz hf=>?_) (y,c) (PySem.mem_of_lookup e);obtain⟨a,ha⟩:=h z hz hf;simp[ha]
theorem yV{y:Str}(h:(y,NameKind.free)∈scope.names):∃c,(clOf scope env).lookup y=some c:=by obtain⟨c,hc⟩:=zR (env:=env) scope.names [] h;exact AE hc
theorem c6{env:Env}{y:Str}{k':NameKind}:∀{names:List (Str×NameKind)},(names.map fun(n,k)=>if (k==NameKind.free&&env.scope.kind==.function&&env.kindOf n==some .cell) then (n,NameKind.cell) else (n,k)).lookup y=some k' ->
  ∃k,(y,k)∈names/\(k'=k\/(k=.free/\k'=.cell))
 | [],h=>by simp at h
 | (n,k)::r,h=>by
  have ih:=@c6 env y k' r;have h:List.lookup y ((if (k==NameKind.free&&env.scope.kind==.function&&env.kindOf n==some .cell)=true then (n,NameKind.cell) else (n,k))::_)=some k':=h;cases e:y==n with
  | true =>
   have e':y=n:=by simpa using e
   by_cases hc:(k==NameKind.free&&env.scope.kind==.function&&env.kindOf n==some .cell)=true
   ·rw[if_pos hc] at h;simp only[lookup_cons,e] at h;cases h;have hk:k=.free:=by simp only[and_eq_true] at hc;simpa using hc.1.1
    subst hk;exact⟨.free,by rw[e'];exact mem_cons_self,.inr ⟨rfl,rfl⟩⟩
   ·rw[if_neg hc] at h;simp only[lookup_cons,e] at h;have hk:=Option.some.inj h;exact⟨k,by rw[e'];exact mem_cons_self,.inl hk.symm⟩
  | false =>
   have h':List.lookup y (r.map fun(n,k)=>if (k==NameKind.free&&env.scope.kind==.function&&env.kindOf n==some .cell) then (n,NameKind.cell) else (n,k))=some k':=by
    by_cases hc:(k==NameKind.free&&env.scope.kind==.function&&env.kindOf n==some .cell)=true
    ·rw[if_pos hc] at h;simp only[lookup_cons,e] at h;exact h
    ·rw[if_neg hc] at h;simp only[lookup_cons,e] at h;exact h
   obtain⟨k0,h1,h2⟩:=ih h';exact⟨k0,mem_cons_of_mem _ h1,h2⟩
theorem dH{env:Env}{y:Str}:∀{names:List (Str×NameKind)},names.lookup y=some .free ->
  (names.map fun(n,k)=>if (k==NameKind.free&&env.scope.kind==.function&&env.kindOf n==some .cell) then (n,NameKind.cell) else (n,k)).lookup y=some .cell \/
  (names.map fun(n,k)=>if (k==NameKind.free&&env.scope.kind==.function&&env.kindOf n==some .cell) then (n,NameKind.cell) else (n,k)).lookup y=some .free
 | [],h=>by simp at h
 | (n,k)::r,h=>by
  have ih:=@dH env y r;show List.lookup y ((if (k==NameKind.free&&env.scope.kind==.function&&env.kindOf n==some .cell)=true then (n,NameKind.cell) else (n,k))::_)=_\/List.lookup y ((if (k==NameKind.free&&env.scope.kind==.function&&env.kindOf n==some .cell)=true then (n,NameKind.cell) else (n,k))::_)=_;cases e:y==n with
  | true =>
   simp only[lookup_cons,e] at h;cases h
   by_cases hc:(NameKind.free==NameKind.free&&env.scope.kind==.function&&env.kindOf n==some .cell)=true
   ·rw[if_pos hc];exact .inl (by simp[lookup_cons,e])
   ·rw[if_neg hc];exact .inr (by simp[lookup_cons,e])
  | false =>
   simp only[lookup_cons,e] at h
   by_cases hc:(k==NameKind.free&&env.scope.kind==.function&&env.kindOf n==some .cell)=true
   ·rw[if_pos hc];simp only[lookup_cons,e];exact ih h
   ·rw[if_neg hc];simp only[lookup_cons,e];exact ih h
def eI(X:Cx)(N':List Str)(scope:Scope)(C:Addr)(fp:List Addr)(s₀:Shared)(H₀:Hp):Cx :=
 { X with N:=N',s₀:=s₀,H₀:=H₀,env:=compEnvC scope (clOf scope X.env) C X.env,outer:=X.stack,stack:=X.stack,ex:=fp,fn:=fun _=>false,pn:=[],xe:=fun _ _=>False }
variable {H:Hp} {h:Heap}
theorem cF.track{o:HO}(x:cF P w H h)(hn:H a=none)(new:aE P w (upd H a o) h a o):cF P w (upd H a o) h:=fun b u e=>by
 by_cases hb:b=a
 ·subst hb;rw[ak] at e;cases e;exact new
 ·rw[bt hb] at e;exact(x b u e).stay (fun c v _ q=>q) (fun c q=>by rw[bt (eU q hn)];exact q) fun c xs q=>by rw[bt (eU q hn)];exact q
variable {pins:List (Addr×Obj)} {s:Shared} {b:Addr} {js:List Nat} {caps:List Str}
section
variable {σ:St}
theorem Inv.stkNe(I:Inv X pins σ H s)(h1:b≠X.env.locals)(h2:b∉X.fs):b∉dw X.stack:=fun hb=>(mem_cons.mp (I.stkSub b hb)).elim h1 h2
theorem Inv.frees(I:Inv X pins σ H s){js:List Nat}{N':List Str}{scope:Scope}(B:gn X.N X.env.scope js N' scope):∀y∈scope.names,y.2=.free->∃c,X.env.cells.lookup y.1=some c :=
 fun y hy hf=>I.ok.has y.1 (B.frees y hy hf)
theorem Ih{x:Str}{C:Addr}{fp:List Addr}{h₁:Heap}{tk:Nat}{m:Str->Option Value}(B:gn X.N X.env.scope js (x::caps) scope)(I:Inv X pins σ H s)(f2:∀b∈fp,kU X pins H b)(ho:∀b∈fp,∃o,s.heap.get? b=some o)(hC:s.heap.objs.size<=C)(old:∀b o,s.heap.get? b=some o->h₁.get? b=some o)(ns:h₁.Ns C m) :
  Inv (eI X (x::caps) scope C fp s H) [] (none::ik js σ) H { s with heap:=h₁,toks:=tk }:=by
 have fr:=I.frees B;have clo:∀y c,(clOf scope X.env).lookup y=some c->X.env.cells.lookup y=some c:=fun y c e=>zD fr e;have lt:∀b∈fp,b<s.heap.objs.size:=fun b hb=>let ⟨o,e⟩:=ho b hb;Heap.lt_size e
 refine⟨⟨I.ok.mod,B.kind,I.ok.glob,I.ok.blt,hC,fun a b c h1 h2=>I.ok.inj a b c (clo _ _ h1) (clo _ _ h2),fun y hy=>?_,fun y c h _=>absurd (show false=true from h) Bool.false_ne_true,I.ok.hd,I.ok.frames,.inl rfl,
   fun b hb=>⟨ne_of_lt (lt_of_lt_of_le (lt b hb) hC),fun y c h=>(f2 b hb).2.2.2.2.1 y c (clo y c h)⟩,I.bs,le_trans I.ok.bsz I.sz,fun b o e hb=>?_,fun b hb=>I.stkNe (f2 b hb).2.1 (f2 b hb).2.2.1,I.stack,I.stkFree⟩,
  rfl,I.bare,Un.kept old,⟨m,ns,fun i y v e1 e2 e3=>?_⟩,fun y c h=>?_,I.hok.fresh hC,fun y c h=>I.freeC y c (clo y c h),fun p hp=>absurd (show p∈([]:List (Addr×Obj)) from hp) (by simp),I.hok.kept old,?_⟩
 ·have hy':(relabel scope X.env).names.lookup y=some .cell\/(relabel scope X.env).names.lookup y=some .free:=hy;have hm:(y,NameKind.free)∈scope.names:=by
   rcases hy' with z|z
   ·obtain⟨k,h1,h2⟩:=c6 z;rcases h2 with h2|⟨h2,_⟩
    ·exact absurd h2.symm (B.cell _ h1)
    ·rw[h2] at h1;exact h1
   ·obtain⟨k,h1,h2⟩:=c6 z;rcases h2 with h2|⟨_,h2⟩
    ·rw[<- h2] at h1;exact h1
    ·cases h2
  exact yV hm
 ·rcases(f2 b hb).2.2.2.1 with z|z
  ·exact I.ok.noex b o e z
  ·exact absurd (lt_of_lt_of_le (Heap.lt_size e) (le_trans I.ok.bsz z)) (lt_irrefl _)
 ·cases i with
  | zero =>
   have q:some (none:Option V)=some (some v):=e2;cases q
  | succ k =>
   have e1':caps[k]?=some y:=e1;have e2':(js.map fun j=>σ.getD j none)[k]?=some (some v):=e2;rw[getElem?_map] at e2';cases hj:js[k]? with
   | none=>rw[hj] at e2';cases e2'
   | some j =>
    rw[hj] at e2';have hv:σ.getD j none=some v:=Option.some.inj e2';have hσ:σ[j]?=some (some v):=by
     rw[getD_eq_getElem?_getD] at hv;cases q:σ[j]? with
     | none=>rw[q] at hv;cases hv
     | some z=>rw[q] at hv;exact congrArg some hv
    have hz:(j,y)∈js.zip caps:=mem_of_getElem? (getElem?_zip_eq_some.mpr ⟨hj,e1'⟩);obtain⟨hN,hf⟩:=B.cap (j,y) hz;have hk:=B.frees (y,.free) (PySem.mem_of_lookup hf) rfl;obtain⟨m',_,hl⟩:=I.loc;obtain⟨u,r,l⟩:=hl j y v hN hσ (.inr hk);rcases l with ⟨k1,_⟩|⟨k1,c,hcl,o,hco,hcd⟩
    ·have k1':X.env.scope.names.lookup y=some .local:=k1;have hk':X.env.scope.names.lookup y=some .cell\/X.env.scope.names.lookup y=some .free:=hk;rw[k1'] at hk';rcases hk' with z|z<;>cases z
    ·obtain⟨c',hc'⟩:=yV (env:=X.env) (PySem.mem_of_lookup hf);have:=clo _ _ hc';rw[hcl] at this;cases this;exact⟨u,r,.inr ⟨dH hf,c,hc',o,old c o hco,hcd⟩⟩
 ·obtain⟨v,o,h1,h2⟩:=I.cell y c (clo y c h);exact⟨v,o,old c o h1,h2⟩
 ·show(none::ik js σ).length=(x::caps).length;rw[B.len];simp[ik]
end
def PIfs(Y:Cx)(ifs:List Expr)(tt:TT):Prop :=
 ∀(pins:List (Addr×Obj)) (s:Shared) (σ:St) (H:Hp) (Q:Bool->Hp->Prop),Inv Y pins σ H s->tt σ H Q ->
  wpAny (model Y.prog Y.w) Y.A (forIn ifs true fun c r=>if r=true then do let ok <- isTrue c Y.env (eval c Y.env);pure (ForInStep.yield ok) else pure (ForInStep.yield r)) (TP Y pins σ Q) Y.xe s
def BG:TT:=fun _ H Q=>Q true H
variable {Y:Cx}
theorem G7:PIfs Y [] BG:=fun _ _ _ H _ I h=>wpAny_tests_nil ⟨H,I,h⟩
theorem G6{c:Expr}{tc:TT}(h:PT Y c tc):PIfs Y [c] tc:=fun pins s σ H Q I hw=>wpAny_tests_one (h pins s σ H Q I hw)
def Bh(J:It)(cs:St)(tt:TT)(te:TE)(Q:VK)(H1:Hp):Prop:=∃W:Nat->Nat->List V->Hp->Prop,(∃m,W 0 m [] H1)/\∀i m ys H2,W i m ys H2 ->
 (J.stop i H2/\∀p,H2 p=none->Q (.ref p) (upd H2 p (.lst ys))) \/
 (J.go i H2/\ys.length<sizeLine/\∃N:List V->Hp->Prop,(∀ys' H',N ys' H'->∃m',m'<m/\W (i+1) m' ys' H') /\
  ∀x H',J.yld i H2 x H'->tt (some x::cs) H' fun b H4=>if b=true then te (some x::cs) H4 fun y H5=>N (ys++[y]) H5 else N ys H4)
def qI(js:List Nat)(wi:TI)(tt:TT)(te:TE):TE:=fun σ H Q=>wi σ H fun J H1=>Bh J (ik js σ) tt te Q H1
variable {A:Around} {E:Value->Shared->Prop}
theorem G5{α:Type}{M:Model}{Φ:Unit->Shared->Prop}{E':Value->Shared->Prop}{t:Sem α}{Ψ:α->Shared->Prop}(h:wpAny M A (pure ()) Φ E s)(k:Φ () s->wpAny M A t Ψ E' s):wpAny M A t Ψ E' s :=
 fun Γ p hΓ=>k (h Γ p hΓ) Γ p hΓ
variable {pos p:Pos} {tt:TT} {te:TE}
section
variable {elt iter:Expr} {x:Str} {px:Pos} {ifs:List Expr} {wi:TI}
theorem yd{use:Option (Value->Sem Unit)}{Qf:Value->Shared->Prop}{σ:St}{Q:VK}(B:gn X.N X.env.scope js (x::caps) scope)(hc:X.calm=true)(hx:scope.names.lookup x=some .local)(hi:PI X (.Name x px) iter wi)(ht:∀C fp s₀ H₀,PIfs (eI X (x::caps) scope C fp s₀ H₀) ifs tt)(he:∀C fp s₀ H₀,PE (eI X (x::caps) scope C fp s₀ H₀) elt te)(hs:∀v,foldedSetIterable iter X.env v=pure v)(I:Inv X pins σ H s)(hw:qI js wi tt te σ H Q)(fin:∀(C D:Addr) (oC:Obj) (ys:List V) (H':Hp) (s1:Shared),Inv X (pins++[(C,oC)]) σ (upd H' D (.lst ys)) s1->Q (.ref D) (upd H' D (.lst ys)) ->
   (∀σ' H'' s',Inv X (pins++[(C,oC)]) σ' H'' s'->(∃m,s'.heap.Ns C m)/\∀h',Heap.SameBut C s'.heap h'->Inv X pins σ' H'' { s' with heap:=h' }) ->
   compPost (model X.prog X.w) X.A X.xe use Qf (.ref D) C (.ok .next) s1) :
  wpAny (model X.prog X.w) X.A (comprehension (.ListComp elt [⟨.Name x px,iter,ifs,0⟩] scope pos) scope X.env p (newList []) false (eval iter X.env) use) Qf X.xe s:=by
 have fr:=I.frees B;refine wpAny_comprehension_free (use:=use) rfl hs (Iz fr) B.kind B.names (aO (hi pins s σ H _ I hw) fun v s1 h1=>aO h1 fun itv s2 h2=>?_);obtain⟨it,fp,tn,J,H2,e,I2,T,st2,f2,W,⟨m0,w0⟩,turn⟩:=h2;subst e;refine wpAny_newObj_type (wpAny_newFunctionEnv B.cell (by intro y hy;simp at hy) (fun h₁ hns₁ hsb₁=>?_) B.kind);dsimp only at hns₁ hsb₁ ⊢;generalize hG:s2.heap.push { cls:=.type "list",dict:=none,data:=.seq ([]:List Value).toArray }=G at hns₁ hsb₁ ⊢;have hC:G.objs.size=s2.heap.objs.size+1:=by rw[<- hG,Heap.size_push]
 have hDC:s2.heap.objs.size≠G.objs.size:=by rw[hC];exact ne_of_lt (lt_succ_self _)
 have hCle:s2.heap.objs.size<=G.objs.size:=by rw[hC];exact le_succ _
 have old:∀b o,s2.heap.get? b=some o->h₁.get? b=some o:=fun b o e =>
  hsb₁.extBut b o (ne_of_lt (lt_of_lt_of_le (Heap.lt_size e) hCle)) (Heap.get?_push_of_some _ (hG▸Heap.get?_push_of_some _ e))
 have hacc:h₁.get? s2.heap.objs.size=some (LCg.lst []):=hsb₁.extBut _ _ hDC (Heap.get?_push_of_some _ (hG▸Heap.get?_push_size _ rfl));have fpo:∀b∈fp,∃o,s2.heap.get? b=some o:=fun b hb=>let ⟨o,e,_⟩:=T.obj 0 _ st2 b hb;⟨o,e⟩
 have fpl:∀b∈fp,b<s2.heap.objs.size:=fun b hb=>let ⟨o,e⟩:=fpo b hb;Heap.lt_size e
 have clo:∀y c,(clOf scope X.env).lookup y=some c->X.env.cells.lookup y=some c:=fun y c e=>zD fr e;have cls2:∀y c,X.env.cells.lookup y=some c->c<s2.heap.objs.size:=fun y c e=>let ⟨v,o,h1,_⟩:=I2.cell y c e;Heap.lt_size h1
 have st1:tn 0 h₁:=T.keep 0 _ _ st2 fun b _ o e=>old b o e;have D_fs:s2.heap.objs.size∉dw X.stack:=I2.stkNe (ne_of_gt I2.lt) (I2.nofs (le_refl _));have C_fs:G.objs.size∉X.fs:=I2.nofs hCle;have C_L:G.objs.size≠X.env.locals:=ne_of_gt (lt_of_lt_of_le I2.lt hCle);have fpY:∀{pl:List (Addr×Obj)} {H':Hp},(∀b∈fp,H' b=none)->(∀p∈pl,s2.heap.objs.size<=p.1)->∀b∈fp,kU (eI X (x::caps) scope G.objs.size fp s2 H2) pl H' b:=fun {pl H'} hn hp b hb =>
  ⟨hn b hb,ne_of_lt (lt_of_lt_of_le (fpl b hb) hCle),I2.stkNe (f2 b hb).2.1 (f2 b hb).2.2.1,.inl hb,fun y c h=>(f2 b hb).2.2.2.2.1 y c (clo y c h),fun p hp' z =>
   absurd (lt_of_lt_of_le (fpl b hb) (by rw[<- z];exact hp p (by simpa[eI] using hp'))) (lt_irrefl _)⟩
 have rel:∀{oC:Obj} {mC:Str->Option Value},LCg.NsObj oC mC->∀σ' H'' s',Inv X (pins++[(G.objs.size,oC)]) σ' H'' s'->(∃m,s'.heap.Ns G.objs.size m)/\∀h',Heap.SameBut G.objs.size s'.heap h'->Inv X pins σ' H'' { s' with heap:=h' }:=by
  intro oC mC hns σ' H'' s' I';obtain⟨e1,e2,e3,e4,e5⟩:=I'.pin (G.objs.size,oC) (mem_append_right _ (mem_append_right _ (by simp)));refine⟨⟨mC,hns.ns e1⟩,fun h' hs'=>?_⟩;exact(I'.unpinned).turned (t':=s'.toks) (it:=G.objs.size) (fun b o hb e=>(hs'.2 b hb).trans e) e2 e3 (.inr (le_trans I2.sz hCle)) (fun y c h z=>absurd (lt_of_lt_of_le (cls2 y c h) (by rw[z];exact hCle)) (lt_irrefl _))
   (fun q hq z=>absurd (lt_of_lt_of_le (Heap.lt_size (I2.pin q hq).1) (by rw[z];exact hCle)) (lt_irrefl _))
 have I1:Inv (eI X (x::caps) scope G.objs.size fp s2 H2) [] (none::ik js σ) H2 { s2 with heap:=h₁,toks:=s2.toks+([]:List (Str×Value)).length }:=Ih B I2 f2 fpo hCle old hns₁;have hxl:(eI X (x::caps) scope G.objs.size fp s2 H2).env.scope.names.lookup x=some .local:=lookup_relabel_local hx;have pinD:∀{us:List Value} {σ3:St} {H3:Hp} {s3:Shared},Inv (eI X (x::caps) scope G.objs.size fp s2 H2) [] σ3 H3 s3->s3.heap.get? s2.heap.objs.size=some (LCg.lst us)->H3 s2.heap.objs.size=none ->
   Inv (eI X (x::caps) scope G.objs.size fp s2 H2) [(s2.heap.objs.size,LCg.lst us)] σ3 H3 s3:=fun {us σ3 H3 s3} I3 hD nD=>I3.pins_of fun p hp=>by
  have e:p=(s2.heap.objs.size,LCg.lst us):=by simpa using hp
  subst e;exact⟨hD,nD,hDC,D_fs,fun v z=>by
   have z':Data.seq _ _=Data.cell v:=z;cases z'⟩
 have back:∀{us us':List Value} {ts:Option V} {H8:Hp} {s5 s8:Shared} {h9:Heap} {i:Nat},Inv (eI X (x::caps) scope G.objs.size fp s2 H2) ([(s2.heap.objs.size,LCg.lst us)]++m3 fp s5.heap) (ts::ik js σ) H8 s8->tn (i+1) s5.heap ->
   (∀b,b≠s2.heap.objs.size->h9.get? b=s8.heap.get? b)->h9.get? s2.heap.objs.size=some (LCg.lst us') ->
   Inv (eI X (x::caps) scope G.objs.size fp s2 H2) [] (none::ik js σ) H8 { s8 with heap:=h9 }/\tn (i+1) h9/\(∀b∈fp,H8 b=none)/\H8 s2.heap.objs.size=none:=by
  intro us us' ts H8 s5 s8 h9 i I8 st5 hk hD9;have pn:∀q∈[(s2.heap.objs.size,LCg.lst us)]++m3 fp s5.heap,s8.heap.get? q.1=some q.2/\H8 q.1=none:=fun q hq=>let z:=I8.pin q (mem_append_right _ hq);⟨z.1,z.2.1⟩
  have nD:H8 s2.heap.objs.size=none:=(pn (s2.heap.objs.size,LCg.lst us) (by simp)).2;have Iw:Inv (eI X (x::caps) scope G.objs.size fp s2 H2) [] (none::ik js σ) H8 s8:=(I8.pins_of (pins':=[]) fun q hq=>nomatch hq).weak rfl fun j v e=>by
   cases j with
   | zero =>
    have q:some (none:Option V)=some (some v):=e;cases q
   | succ j=>exact e
  refine⟨Iw.turned (t':=s8.toks) (it:=s2.heap.objs.size) (fun b o hb e=>(hk b hb).trans e) nD hDC (.inr (le_refl _)) (fun y c h z=>absurd (cls2 y c (clo y c h)) (by rw[z];exact lt_irrefl _)) (fun q hq=>absurd (show q∈([]:List (Addr×Obj)) from hq) (by simp)),
   T.keep _ _ _ st5 fun b hb o e=>?_,fun b hb=>?_,nD⟩
  ·rw[hk b (ne_of_lt (fpl b hb))];exact(pn (b,o) (mem_append_right _ (qB hb e))).1
  ·obtain⟨o,e,_⟩:=T.obj _ _ st5 b hb;exact(pn (b,o) (mem_append_right _ (qB hb e))).2
 have loop:codeAny (model X.prog X.w) X.A (.compLoop (.ListComp elt [⟨.Name x px,iter,ifs,0⟩] scope pos) 0 (.ref it) (.ref s2.heap.objs.size) (compEnvC scope (clOf scope X.env) G.objs.size X.env))
   (compPost (model X.prog X.w) X.A X.xe use Qf (.ref s2.heap.objs.size) G.objs.size) { s2 with heap:=h₁,toks:=s2.toks+([]:List (Str×Value)).length }:=by
  refine codeAny_compLoop_tests (fun n s'=>∃(i:Nat) (ys:List V) (us:List Value) (H':Hp),Inv (eI X (x::caps) scope G.objs.size fp s2 H2) [] (none::ik js σ) H' s'/\tn i s'.heap/\(∀b∈fp,H' b=none) /\
   s'.heap.get? s2.heap.objs.size=some (LCg.lst us)/\Vals ys us/\H' s2.heap.objs.size=none/\ys.length<=sizeLine/\W i n ys H') ?_ m0 ⟨0,[],[],H2,I1,st1,fun b hb=>(f2 b hb).1,hacc,.nil,I2.hok.fresh (le_refl _),zero_le _,w0⟩
  rintro n s3 ⟨i,ys,us,H3,I3,st3,fr3,hD,rv,nD,hz,w3⟩;have I3':=pinD I3 hD nD;have hpl:∀p∈[(s2.heap.objs.size,LCg.lst us)],s2.heap.objs.size<=p.1:=fun p hp=>by
   have e:p=(s2.heap.objs.size,LCg.lst us):=by simpa using hp
   subst e;exact le_refl _
  rcases turn i n ys H3 w3 with ⟨stop,q⟩|⟨go,hlt,N,hN,step⟩
  ·refine wpAny_mono (T.done (eI X (x::caps) scope G.objs.size fp s2 H2) rfl rfl rfl hc i _ s3 _ H3 (fun _ _=>False) I3' (fpY fr3 hpl) st3 stop) (fun r s4 hr=>?_) fun _ _ z=>z.elim;obtain⟨hr,I4⟩:=hr;subst hr;have hD4:s4.heap.get? s2.heap.objs.size=some (LCg.lst us):=(I4.pin (s2.heap.objs.size,LCg.lst us) (mem_append_right _ (by simp))).1;have un:Un (dw X.stack) fp H2 (upd H3 s2.heap.objs.size (.lst ys)) s2.heap s4.heap :=
    ⟨fun b o e n hb hx=>I4.base.keep b o e n hb hx,fun b o e n hb hx=>I4.base.slot b o e n hb hx,fun b o e n hx=>by rw[bt (ne_of_lt (Heap.lt_size e))];exact I4.base.free b o e n hx,fun b o e hx=>I4.base.there b o e hx,
     fun b zs e=>by have q:=I4.base.tups b zs e;rw[bt (eU q nD)];exact q,fun b o u e=>by have q:=I4.base.frzs b o u e;rw[bt (eU q nD)];exact q,
     fun b ps e=>by obtain⟨more,q⟩:=I4.base.tbls b ps e;exact⟨more,by rw[bt (eU q nD)];exact q⟩⟩
   have hok4:cF X.prog X.w (upd H3 s2.heap.objs.size (.lst ys)) s4.heap:=cF.track I4.hok nD ⟨hz,us,us.length,rv,hD4⟩;have IX:Inv X pins σ (upd H3 s2.heap.objs.size (.lst ys)) s4:=I2.call' (ch:=fp) I4.os un hok4 I4.bare fun b hb=>⟨(f2 b hb).2.2.2.1,(f2 b hb).2.1,(f2 b hb).2.2.2.2.1,(f2 b hb).2.2.2.2.2⟩
   obtain⟨mC,hnC,_⟩:=I4.loc;obtain⟨oC,eC,nsC⟩:=LCg.ns_obj hnC;have nC:(upd H3 s2.heap.objs.size (.lst ys)) G.objs.size=none:=by rw[bt (Ne.symm hDC)];exact I4.free
   have dC:∀v,oC.data≠.cell v:=fun v z=>by
    obtain⟨es,ep,d,_⟩:=nsC;rw[d] at z;cases z
   have IX':Inv X (pins++[(G.objs.size,oC)]) σ (upd H3 s2.heap.objs.size (.lst ys)) s4:=IX.pins_of fun q hq=>by
    rcases mem_append.mp hq with z|z
    ·exact IX.pin q (mem_append_right _ z)
    ·have e:q=(G.objs.size,oC):=by simpa using z
     subst e;exact⟨eC,nC,C_L,C_fs,dC⟩
   exact fin G.objs.size s2.heap.objs.size oC ys H3 s4 IX' (q _ nD) (rel nsC)
  ·refine wpAny_mono (T.item (eI X (x::caps) scope G.objs.size fp s2 H2) rfl rfl rfl hc i _ s3 _ H3 (fun _ _=>False) I3' (fpY fr3 hpl) st3 go) (fun r s4 hr=>?_) fun _ _ z=>z.elim;obtain⟨u,hr,h4⟩:=hr;subst hr;show wpAny _ _ (assign _ _ u) _ _ s4;refine G5 h4 fun h5=>?_;obtain⟨xv,H5,I5,r5,y5,st5,fr5⟩:=h5;have I5':=I5.pinned (fpY fr5 hpl) (T.obj _ _ st5);refine wpAny_mono (tj (X:=eI X (x::caps) scope G.objs.size fp s2 H2) (i:=0) (x:=x) B.nd rfl (Or.inl hxl) (.inr hxl) _ s4 _ H5 xv u (fun σ' H'=>σ'=some xv::ik js σ/\H'=H5) I5' r5 ⟨rfl,rfl⟩) (fun _ s6 h6=>?_) fun _ _ z=>False.elim z;obtain⟨σ6,H6,I6,e6,e6'⟩:=h6;subst e6 e6';refine wpAny_mono (ht _ _ _ _ _ s6 _ _ _ I6 (step xv _ y5)) (fun b s7 h7=>?_) fun _ _ z=>False.elim z;obtain⟨H7,I7,q7⟩:=h7;cases b with
   | false =>
    rw[if_neg Bool.false_ne_true] at q7;show if false=true then _ else _
    rw[if_neg Bool.false_ne_true];have hD7:s7.heap.get? s2.heap.objs.size=some (LCg.lst us):=(I7.pin (s2.heap.objs.size,LCg.lst us) (mem_append_right _ (mem_append_left _ (by simp)))).1;obtain⟨J1,J2,J3,J4⟩:=back I7 st5 (fun _ _=>rfl) hD7;obtain⟨m',hm,w'⟩:=hN _ _ q7;exact⟨m',hm,i+1,ys,us,H7,J1,J2,J3,hD7,rv,J4,hz,w'⟩
   | true =>
    rw[if_pos rfl] at q7;show if true=true then _ else _
    rw[if_pos rfl];refine wpAny_mono (he _ _ _ _ _ s7 _ _ _ I7 q7) (fun yu s8 h8=>?_) fun _ _ z=>False.elim z;obtain⟨yv,H8,I8,r8,q8⟩:=h8;have hD8:s8.heap.get? s2.heap.objs.size=some (LCg.lst us):=(I8.pin (s2.heap.objs.size,LCg.lst us) (mem_append_right _ (mem_append_left _ (by simp)))).1;have hlu:us.length=ys.length:=rv.length.symm;refine append_at hD8 (fun h9 hs9 hD9=>?_) (by rw[size_toArray,hlu];exact hz);have hD9':h9.get? s2.heap.objs.size=some (LCg.lst (us++[yu])):=hD9.trans (congrArg some (LCg.lst_snoc us yu));obtain⟨J1,J2,J3,J4⟩:=back I8 st5 hs9.2 hD9';obtain⟨m',hm,w'⟩:=hN _ _ q8;exact⟨m',hm,i+1,ys++[yv],us++[yu],H8,J1,J2,J3,hD9',rv.append (.cons r8 .nil),J4,by rw[length_append,length_singleton];exact hlt,w'⟩
 exact codeAny_compStart_list loop (T.self X.A 0 _ _ _ st1 loop)
theorem BF(B:gn X.N X.env.scope js (x::caps) scope)(hc:X.calm=true)(hx:scope.names.lookup x=some .local)(hi:PI X (.Name x px) iter wi)(ht:∀C fp s₀ H₀,PIfs (eI X (x::caps) scope C fp s₀ H₀) ifs tt)(he:∀C fp s₀ H₀,PE (eI X (x::caps) scope C fp s₀ H₀) elt te)(hs:∀v,foldedSetIterable iter X.env v=pure v:=by intro _;rfl):PE X (.ListComp elt [⟨.Name x px,iter,ifs,0⟩] scope pos) (qI js wi tt te):=by intro pins s σ H Q I hw;rw[eval_ListComp];refine yd (use:=none) (Q:=Q) B hc hx hi ht he hs I hw fun C D oC ys H' s1 IX q rel=>?_;obtain⟨⟨m,hn⟩,rl⟩:=rel _ _ _ IX;exact⟨m,hn,fun h' hs'=>⟨.ref D,_,rl h' hs',rfl,q⟩⟩
theorem BE{y:Str}{py spos:Pos}{k:Nat}(B:gn X.N X.env.scope js (x::caps) scope)(hc:X.calm=true)(hx:scope.names.lookup x=some .local)(hi:PI X (.Name x px) iter wi)(ht:∀C fp s₀ H₀,PIfs (eI X (x::caps) scope C fp s₀ H₀) ifs tt)(he:∀C fp s₀ H₀,PE (eI X (x::caps) scope C fp s₀ H₀) elt te)(hN:X.N.Nodup)(hk:X.N[k]?=some y)(hy:X.env.scope.names.lookup y=some .local)(hsw:swapsWith (.ListComp elt [⟨.Name x px,iter,ifs,0⟩] scope pos) (some (.Name y py)) spos.line X.env=pure true)(hs:∀v,foldedSetIterable iter X.env v=pure v:=by intro _;rfl):PS X (.Assign [.Name y py] (.ListComp elt [⟨.Name x px,iter,ifs,0⟩] scope pos) spos) (rG (qI js wi tt te) (h_ k)):=by intro pins s σ H D I hw;rw[exec_Assign_Name_used _ _ _ _ hsw];refine wpAny_bind (wpAny_standAt (wpAny_bind ?_));show wpAny _ _ (do let _ <- comprehension (.ListComp elt [⟨.Name x px,iter,ifs,0⟩] scope pos) scope X.env _ (newList []) false (eval iter X.env) (some (assign (.Name y py) X.env))) _ _ s;refine wpAny_bind (aO (yd (use:=some (assign (.Name y py) X.env)) (Qf:=fun _ s'=>SP X pins D .next s') (Q:=fun v H1=>D.nx (σ.set k (some v)) H1) B hc hx hi ht he hs I hw fun C a oC ys H' s1 IX q rel=>?_) fun _ s' hq=>wpAny_pure (wpAny_pure hq));show wpAny _ _ (assign (.Name y py) X.env (.ref a)) _ _ s1;refine aO (tj (i:=k) hN hk (Or.inl hy) (.inr hy) _ s1 σ _ (.ref a) (.ref a) (fun σ' H'=>D.nx σ' H') IX rfl q) fun _ s' h=>?_;obtain⟨σ',H'',I',q'⟩:=h;obtain⟨⟨m,hn⟩,rl⟩:=rel _ _ _ I';exact⟨m,hn,fun h' hs'=>⟨σ',H'',rl h' hs',q'⟩⟩
end
def qZ(K:Frag):List V->Hp->VK->Prop:=fun xs H Q=>∃x T t b,xs=[x,.ty T]/\c9 K H x t/\kitOne K t (.type T)=some b/\Q (.bl b) H
theorem G4:aP X (.builtin "isinstance") (qZ X.K):=by
 intro pins s σ H xs us Q I r h;obtain⟨x,T,t,b,rfl,ty,e,q⟩:=h;obtain⟨u,w',rfl,rx,ry⟩:=og r;cases ry;exact Il I rx ty e fun tk=>⟨.bl b,H,I.tok tk,rfl,q⟩
theorem G3(hc:X.calm=true):aP X (.builtin "all") (fun xs H Q=>∃(a:Addr) (bs:List Bool),xs=[.ref a]/\cY X.K H a (bs.map V.bl)/\Q (.bl (bs.all id)) H):=by
 intro pins s σ H xs us Q I r h;obtain⟨a,bs,rfl,hq,q⟩:=h;obtain⟨u,rfl,rx⟩:=iR r;cases rx;obtain⟨its,rv,pl,hz⟩:=I.list hq;have hlt:a<s.heap.objs.size:=by obtain⟨o,n,e,_⟩:=pl;exact Heap.lt_size e
 have hlen:bs.length=its.length:=by have:=rv.length;simpa using this
 have hh:X.A.in1.handled=none:=I.ok.hd hc;refine call_all_walk (wpAny_pyIter_list pl.isList ?_);have tr:TruthOf X.prog X.w X.A.in1 (fun i v=>its.toArray[i]?=some v) (fun i=>bs.getD i true):=by
  intro i v s' Q' E' hv hQ;have hv':its[i]?=some v:=by simpa using hv
  have hi:i<its.length:=(List.getElem?_eq_some_iff.mp hv').1;have hb:bs[i]?=some bs[i]:=by simp[hlen,hi]
  obtain⟨u,hu,ru⟩:=rv.get (i:=i) (x:=V.bl (bs[i]'(by omega))) (by rw[getElem?_map,hb];rfl);rw[hv'] at hu;cases hu;cases (show v=Value.bool (bs[i]'(by omega)) from ru);have e:bs.getD i true=bs[i]'(by omega):=by rw[getD_eq_getElem?_getD,hb];rfl
  have hQ':Q' (bs.getD i true) s':=hQ;rw[e] at hQ';exact wpAny_truthy_bool hQ'
 refine⟨s.heap.objs.size,_,_,its.toArray.size,_,_,fun i=>bs.getD i true,rfl,Walks.list hh s.heap.objs.size a (ne_of_lt hlt) its.toArray,⟨⟨_,Heap.get?_push_size _ rfl,rfl,rfl⟩,pl.isList.push _⟩,tr,fun h' tk hk=>?_⟩;have I1:Inv X pins σ H { s with heap:=h',toks:=tk }:=I.kept fun b o e=>hk b o (by simpa using ne_of_lt (Heap.lt_size e)) (Heap.get?_push_of_some _ e);refine⟨.bl _,H,I1,rfl,?_⟩;have e:(List.range its.toArray.size).all (fun i=>bs.getD i true)=bs.all id:=by
  rw[size_toArray,<- hlen];rw[Bool.eq_iff_iff,all_eq_true,all_eq_true];constructor
  ·intro z b hb;obtain⟨i,hi,rfl⟩:=mem_iff_getElem.mp hb;have:=z i (mem_range.mpr hi);rw[getD_eq_getElem?_getD] at this;simpa[hi] using this
  ·intro z i hi;have hi':=mem_range.mp hi;have:=z (bs[i]) (getElem_mem hi');rw[getD_eq_getElem?_getD];simpa[hi'] using this
 rw[e];exact q
theorem Jm:aP X (.builtin "sorted") (fun xs H Q=>∃(a:Addr) (ns:List Int),xs=[.ref a]/\cY X.K H a (ns.map V.int)/\ns.length<64/\∀ms:List Int,ms.Perm ns->ms.Pairwise (·<=·)->∀l,H l=none->Q (.ref l) (upd H l (.lst (ms.map V.int)))):=by
 intro pins s σ H xs us Q I r h;obtain⟨a,ns,rfl,hq,h64,q⟩:=h;obtain⟨u,rfl,rx⟩:=iR r;cases rx;obtain⟨its,rv,pl,hz⟩:=I.list hq;have hlen:ns.length=its.length:=by have:=rv.length;simpa using this
 refine sorted_ints pl.isList (zU rv) (by omega) fun out ms hI hp hs=>?_;obtain⟨e,he⟩:=sortedAll_at s.heap its out;have rv':Vals (ms.map V.int) out.toList:=o4 hI;have hl':ms.length=ns.length:=hp.length_eq;refine⟨.ref (s.heap.objs.size+1),_,I.laid (t':=s.toks) (a:=s.heap.objs.size+1) (o:=.lst (ms.map V.int)) (fun b o e=>sortedAll_old e) (le_succ _) ?_,rfl,q ms hp hs _ (I.hok.fresh (le_succ _))⟩;refine⟨by rw[length_map,hl',hlen];have:=rv.length;omega,out.toList,e,rv',?_⟩;rw[toArray_toList];exact he
abbrev Rep(α:Type):=Frag->Hp->V->α->Prop
def Kr:Rep Int:=fun _ _ v i=>v=.int i
def Kq{α:Type}(R:Rep α):Rep (List α):=fun K H v l=>∃p vs,v=.ref p/\cY K H p vs/\Paired (R K H) vs l
def La{α β:Type}(R:Rep α)(S:Rep β):Rep (α×β):=fun K H v l=>∃p x y,v=.ref p/\eY K H p [x,y]/\R K H x l.1/\S K H y l.2
theorem Paired.at2{α β:Type}{F:α->β->Prop}:∀{l₁:List α} {l₂:List β},Paired F l₁ l₂->∀(i:Nat) (a:α),l₁[i]?=some a->∃b,l₂[i]?=some b/\F a b
 | _,_,.nil,_,_,h=>by simp at h
 | _,_,.cons r t,0,a,h=>by simp at h;subst h;exact⟨_,rfl,r⟩
 | _,_,.cons r t,i+1,a,h=>by
  obtain⟨b,h1,h2⟩:=Paired.at2 t i a (by simpa using h);exact⟨b,by simpa using h1,h2⟩
section
variable {α β:Type} [DecidableEq α] [DecidableEq β] {R:Rep α} {S:Rep β} {σ:St}
end
section
variable {α β:Type} [DecidableEq α] [DecidableEq β] {R:Rep α} {S:Rep β}
end
section
variable {α:Type} [DecidableEq α] {R:Rep α}
end
section
variable {α β:Type} [DecidableEq α] [DecidableEq β] {R:Rep α} {S:Rep β}
end
variable {e:Expr}
section
variable {rest:List Stmt} {t u:TS}
end
def wo(N:List Str)(psc:Scope)(js:List Nat)(N':List Str)(scope:Scope):Bool :=
 scope.names.all (fun y=>decide (y.2≠.cell))&&decide (scope.kind=.function)&&scope.names.all (fun y=>decide (y.2=.local->scope.names.lookup y.1=some .local)) &&
 scope.names.all (fun y=>decide (y.2=.free->psc.names.lookup y.1=some .cell\/psc.names.lookup y.1=some .free))&&decide N'.Nodup&&decide (N'.length=js.length+1) &&
 (js.zip (N'.drop 1)).all (fun p=>decide (N[p.1]?=some p.2/\scope.names.lookup p.2=some .free))
theorem g9{N:List Str}{psc:Scope}{N':List Str}(h:wo N psc js N' scope=true):gn N psc js N' scope:=by unfold wo at h;simp only[and_eq_true,all_eq_true,decide_eq_true_eq] at h;obtain⟨⟨⟨⟨⟨⟨h1,h2⟩,h3⟩,h4⟩,h5⟩,h6⟩,h7⟩:=h;exact⟨h1,h2,h3,h4,h5,h6,h7⟩
theorem aT.cmp{k:Nat}(r:aT k A)(n:Nat)(h:n<=64:=by decide):A.units+n<cLine:=by have:=r.units;omega
theorem Paired.app{α β:Type}{F:α->β->Prop}:∀{l₁ m₁:List α} {l₂ m₂:List β},Paired F l₁ l₂->Paired F m₁ m₂->Paired F (l₁++m₁) (l₂++m₂)
 | _,_,_,_,.nil,s=>s
 | _,_,_,_,.cons r t,s=>.cons r (Paired.app t s)
def pr(H:Hp)(v:V)(l:Int×Int):Prop:=∃q,v=.ref q/\H q=some (.tup [.int l.1,.int l.2])
def Lc(H:Hp)(p:Addr)(L:List (Int×Int)):Prop:=∃vs,H p=some (.lst vs)/\Paired (pr H) vs L
def BD(H:Hp)(v:V)(r:List Int):Prop:=∃q,v=.ref q/\H q=some (.tup (r.map V.int))
def KZ(H:Hp)(v:V)(rows:List (List Int)):Prop:=∃q vs,v=.ref q/\H q=some (.tup vs)/\Paired (BD H) vs rows
variable {tg:Expr} {tl:TE}
section
variable (K:Frag)
theorem Ke(hK:X.K=K:=by rfl):j9 X (rf K):=hK▸FG
theorem Kd(hK:X.K=K:=by rfl):j9 X (q_ K):=hK▸DN
theorem jJ(hK:X.K=K:=by rfl):aP X (.builtin "isinstance") (qZ K):=hK▸G4
def vm(K:Frag):List V->Hp->VK->Prop:=fun xs H Q=>∃(a:Addr) (bs:List Bool),xs=[.ref a]/\cY K H a (bs.map V.bl)/\Q (.bl (bs.all id)) H
theorem vk(hc:X.calm=true:=by rfl)(hK:X.K=K:=by rfl):aP X (.builtin "all") (vm K):=hK▸G3 hc
def FC(K:Frag):List V->Hp->VK->Prop:=fun xs H Q=>∃(a:Addr) (ns:List Int),xs=[.ref a]/\cY K H a (ns.map V.int)/\ns.length<64/\∀ms:List Int,ms.Perm ns->ms.Pairwise (·<=·)->∀l,H l=none->Q (.ref l) (upd H l (.lst (ms.map V.int)))
def FA(K:Frag):List V->Hp->VK->Prop:=fun xs H Q=>∃p ys,xs=[.ref p]/\(cY K H p ys\/eY K H p ys)/\∀l,H l=none->Q (.ref l) (upd H l (.lst ys))
def wX(K:Frag):List V->Hp->VK->Prop:=fun xs H Q=>∃p ys,xs=[.ref p]/\((cY K H p ys/\∀l,H l=none->Q (.ref l) (upd H l (.tup ys)))\/(eY K H p ys/\Q (.ref p) H))
theorem ox(hK:X.K=K:=by rfl):aP X (.type "tuple") (wX K):=hK▸JG
theorem slL(hK:X.K=K:=by rfl):vb X (vo K):=hK▸FF
variable {l a:Expr} {ta:TE}
def Bg(K:Frag)(ta:TE):TT:=fun σ H Q=>ta σ H fun x H'=>∃k,ph K x H' k/\Q k H'
theorem BC(ha:PE X a ta)(he:∀whole,isTrue a X.env whole=(do let v <- whole;standAt a.pos;holding [v] (truthy v)))(hK:X.K=K:=by rfl):PT X a (Bg K ta):=hK▸Hf ha he
variable {α:Type} [DecidableEq α] {R:Rep α}
end
variable {y:V} {o:Option V} {u:Value}
section
variable {κ:Type} [DecidableEq κ]
def ig(kvs:List (κ×V))(k:κ):Option V:=(kvs.find? fun kv=>decide (kv.1=k)).map (·.2)
def fS(kvs:List (κ×V))(k:κ)(v:V):List (κ×V) :=
 if (kvs.any fun kv=>decide (kv.1=k))=true then kvs.map (fun kv=>if kv.1=k then (kv.1,v) else kv) else kvs++[(k,v)]
def K4(kvs:List (κ×V))(k:κ):List (κ×V):=kvs.filter fun kv=>decide (kv.1≠k)
theorem qw{p:κ×V}{r:List (κ×V)}{k:κ}(e:p.1=k):ig (p::r) k=some p.2:=by simp[ig,find?_cons,e]
theorem qv{p:κ×V}{r:List (κ×V)}{k:κ}(e:¬p.1=k):ig (p::r) k=ig r k:=by simp[ig,find?_cons,e]
theorem yU(k:κ):∀kvs:List (κ×V),(kvs.any fun kv=>decide (kv.1=k))=(ig kvs k).isSome
 | []=>rfl
 | p::r=>by
  rw[any_cons]
  by_cases e:p.1=k
  ·simp only[qw e,decide_eq_true e,Bool.true_or,isSome_some]
  ·rw[qv e,decide_eq_false e,Bool.false_or];exact yU k r
theorem uH(kvs:List (κ×V))(k:κ)(v:V):(fS kvs k v).length<=kvs.length+1:=by
 unfold fS;split
 ·rw[length_map];omega
 ·rw[length_append,length_cons,length_nil];omega
theorem dI.isSome_eq{u:Option Value}(r:dI o u):o.isSome=u.isSome:=by
 cases o with
 | none=>cases u with
  | none=>rfl
  | some _=>exact(show False from r).elim
 | some _=>cases u with
  | none=>exact(show False from r).elim
  | some _=>rfl
theorem KV.val{kvs:List (κ×V)}{vs:List (κ×Value)}(r:KV kvs vs)(k:κ):dI (ig kvs k) (valueAt vs k):=by
 unfold KV at r
 induction r with
 | nil=>exact True.intro
 | @cons p q ps qs h t ih =>
  obtain⟨h1,h2⟩:=h
  by_cases e:p.1=k
  ·have e':q.1=k:=h1.symm.trans e;have b:valueAt (q::qs) k=some q.2:=by simp[valueAt,find?_cons,e']
   rw[qw e,b];exact h2
  ·have e':¬q.1=k:=fun z=>e (h1.trans z);have b:valueAt (q::qs) k=valueAt qs k:=by simp[valueAt,find?_cons,e']
   rw[qv e,b];exact ih
theorem KV.any{kvs:List (κ×V)}{vs:List (κ×Value)}(r:KV kvs vs)(k:κ):(kvs.any fun kv=>decide (kv.1=k))=vs.any fun kv=>decide (kv.1=k):=by
 unfold KV at r
 induction r with
 | nil=>rfl
 | cons h t ih=>rw[any_cons,any_cons,ih,h.1]
theorem KV.repl{kvs:List (κ×V)}{vs:List (κ×Value)}(r:KV kvs vs)(k:κ)(ry:RelV y u) :
  KV (kvs.map fun kv=>if kv.1=k then (kv.1,y) else kv) (vs.map fun kv=>if kv.1=k then (kv.1,u) else kv):=by
 unfold KV at r ⊢
 induction r with
 | nil=>exact .nil
 | @cons p q ps qs h t ih =>
  rw[map_cons,map_cons];refine .cons ?_ ih;obtain⟨h1,h2⟩:=h
  by_cases e:p.1=k
  ·rw[if_pos e,if_pos (h1.symm.trans e)];exact⟨h1,ry⟩
  ·rw[if_neg e,if_neg (fun z=>e (h1.trans z))];exact⟨h1,h2⟩
theorem KV.put{kvs:List (κ×V)}{vs:List (κ×Value)}(r:KV kvs vs)(k:κ)(ry:RelV y u):KV (fS kvs k y) (stored vs k u):=by
 unfold fS stored;rw[r.any k]
 by_cases e:(vs.any fun kv=>decide (kv.1=k))=true
 ·rw[if_pos e,if_pos e];exact r.repl k ry
 ·rw[if_neg e,if_neg e];exact Paired.snoc r ⟨rfl,ry⟩
theorem KV.keys{kvs:List (κ×V)}{vs:List (κ×Value)}(r:KV kvs vs):kvs.map (·.1)=vs.map (·.1):=by
 unfold KV at r
 induction r with
 | nil=>rfl
 | cons h t ih=>rw[map_cons,map_cons,ih,h.1]
theorem KV.length{kvs:List (κ×V)}{vs:List (κ×Value)}(r:KV kvs vs):kvs.length=vs.length:=Paired.length r
end
variable {k:Key}
theorem hZ(r:RelV (kV k) u):(eF P w).is k u=true:=by
 cases k with
 | inl i=>obtain⟨t,e⟩:=(show ∃t,u=Value.int i t from r);subst e;exact Jq P w i t
 | inr x=>obtain⟨t,e⟩:=(show ∃t,u=Value.str x t from r);subst e;exact Jp P w x t
theorem zM{P:Program}{w:World}:∀{ks:List Key} {us:List Value},Vals (ks.map kV) us->ItemsAre (eF P w) ks us
 | [],_,r=>by rw[map_nil] at r;cases r;exact .nil
 | k::ks,_,r=>by
  rw[map_cons] at r;cases r with
  | cons h t=>exact .cons (hZ h) (zM t)
abbrev KT(H:Hp):List (List Key×V)->List (List Key×Addr×Value)->Prop:=Paired fun p q=>p.1=q.1/\H q.2.1=some (.tup (p.1.map kV))/\RelV p.2 q.2.2
variable {xs:List (List Key×Addr×Value)}
theorem KT.val{kvs:List (List Key×V)}(r:KT H kvs xs)(k:List Key):dI (ig kvs k) ((atKey xs k).map (·.2)):=by
 induction r with
 | nil=>exact True.intro
 | @cons p q ps qs h t ih =>
  obtain⟨h1,_,h2⟩:=h
  by_cases e:p.1=k
  ·have e':q.1=k:=h1.symm.trans e;have b:atKey (q::qs) k=some q.2:=by simp[atKey,find?_cons,e']
   rw[qw e,b];exact h2
  ·have e':¬q.1=k:=fun z=>e (h1.trans z);have b:atKey (q::qs) k=atKey qs k:=by simp[atKey,find?_cons,e']
   rw[qv e,b];exact ih
theorem KT.repl{kvs:List (List Key×V)}(r:KT H kvs xs)(k:List Key)(ry:RelV y u) :
  KT H (kvs.map fun kv=>if kv.1=k then (kv.1,y) else kv) (xs.map (putAt k u)):=by
 induction r with
 | nil=>exact .nil
 | @cons p q ps qs h t ih =>
  rw[map_cons,map_cons];refine .cons ?_ ih;obtain⟨h1,h2,h3⟩:=h;unfold putAt
  by_cases e:p.1=k
  ·rw[if_pos e,if_pos (h1.symm.trans e)];exact⟨h1,h2,ry⟩
  ·rw[if_neg e,if_neg (fun z=>e (h1.trans z))];exact⟨h1,h2,h3⟩
theorem KT.put{kvs:List (List Key×V)}(r:KT H kvs xs)(k:List Key)(hb:H b=some (.tup (k.map kV)))(ry:RelV y u) :
  KT H (fS kvs k y) (storedH xs k b u):=by
 have e:(kvs.any fun kv=>decide (kv.1=k))=(atKey xs k).isSome:=by rw[yU,(r.val k).isSome_eq,isSome_map]
 unfold fS storedH;rw[e]
 by_cases q:(atKey xs k).isSome=true
 ·rw[if_pos q,if_pos q];exact r.repl k ry
 ·rw[if_neg q,if_neg q];exact Paired.snoc r ⟨rfl,hb,ry⟩
variable {H':Hp}
theorem KT.keeps{kvs:List (List Key×V)}(r:KT H kvs xs)(ht:∀b ys,H b=some (.tup ys)->H' b=some (.tup ys)):KT H' kvs xs :=
 Paired.mapP r fun _ _ z=>⟨z.1,ht _ _ z.2.1,z.2.2⟩
theorem wm{u:HO}(ok:cF P w H h)(e:Rd H a u):aE P w H h a u:=e.ok ok
theorem oj{kvs:List (Key×V)}(ok:cF P w H h)(e:Rd H a (.dK kvs)):kvs.length<=sizeLine/\(a==sysModules)=false/\∃vs,KV kvs vs/\h.DictOf (eF P w) a vs :=
 show aE P w H h a (.dK kvs) from wm ok e
theorem wk{kvs:List (Key×V)}(ok:cF P w H h)(e:H a=some (.dK kvs)):kvs.length<=sizeLine/\(a==sysModules)=false/\∃vs,KV kvs vs/\h.DictOf (eF P w) a vs:=oj ok (.inl e)
theorem sy{ks:List Key}(ok:cF P w H h)(e:H a=some (.tup (ks.map kV))):(tupleKind (eF P w)).is h ks a:=by
 obtain⟨_,its,r,o,h1,h2,⟨n,h3⟩,_⟩:=(show aE P w H h a (.tup (ks.map kV)) from ok a _ e)
 exact⟨o,its.toArray,n,h1,h2,h3,by simpa using zM r⟩
theorem wj{kvs:List (List Key×V)}(ok:cF P w H h)(e:Rd H a (.dT kvs)):kvs.length<=sizeLine/\(a==sysModules)=false /\
  ∃xs,KT H kvs xs/\h.DictOfH (tupleKind (eF P w)) a xs:=by
 obtain⟨z,y,xs,r,o,es,ep,h1,h2,h3,h4,h5⟩:=(show aE P w H h a (.dT kvs) from wm ok e)
 refine⟨z,y,xs,r,o,es,ep,h1,h2,h3,h4,fun x hx=>?_,h5⟩;have all:∀{l:List (List Key×V)} {m:List (List Key×Addr×Value)},KT H l m->∀x∈m,(tupleKind (eF P w)).is h x.1 x.2.1:=by
  intro l m q
  induction q with
  | nil=>intro x hx;exact nomatch hx
  | @cons p q ps qs hq t ih =>
   intro x hx;rcases mem_cons.mp hx with e|hx
   ·subst e;exact sy ok (by rw[<- hq.1];exact hq.2.1)
   ·exact ih x hx
 exact all r x hx
theorem BB{kvs:List (List Key×V)}(ok:cF P w H h)(e:H a=some (.dT kvs)):kvs.length<=sizeLine/\(a==sysModules)=false /\
  ∃xs,KT H kvs xs/\h.DictOfH (tupleKind (eF P w)) a xs:=wj ok (.inl e)
def iL(H:Hp)(a:Addr)(y:V)(r:Option V):Prop :=
 (∃kvs k,Rd H a (.dK kvs)/\y=kV k/\r=ig kvs k)\/∃kvs k b,Rd H a (.dT kvs)/\y=.ref b/\H b=some (.tup (k.map kV))/\r=ig kvs k
def jB(H:Hp)(a:Addr)(y v:V)(H':Hp):Prop :=
 (∃kvs k,H a=some (.dK kvs)/\y=kV k/\kvs.length<sizeLine/\H'=upd H a (.dK (fS kvs k v))) \/
 ∃kvs k b,H a=some (.dT kvs)/\y=.ref b/\H b=some (.tup (k.map kV))/\kvs.length<sizeLine/\H'=upd H a (.dT (fS kvs k v))
theorem iL.kz{kvs:List (Key×V)}(e:H a=some (.dK kvs)):iL H a (kV k) (ig kvs k):=.inl ⟨kvs,k,.inl e,rfl,rfl⟩
variable {v:V}
theorem jB.kz{kvs:List (Key×V)}(e:H a=some (.dK kvs))(hl:kvs.length<sizeLine):jB H a (kV k) v (upd H a (.dK (fS kvs k v))):=.inl ⟨kvs,k,e,rfl,hl,rfl⟩
variable {vs:List (Key×Value)} {Q:Value->Shared->Prop} {r:Value} {h':Heap}
section
variable {σ:St}
theorem Inv.big(I:Inv X pins σ H s):sysModules<s.heap.objs.size:=by have h:mainGlobals<s.heap.objs.size:=(I.mod.glob.keeps I.bk).lt;exact lt_trans (by decide) h
theorem Fz(hu:A.units+1<cLine)(I:Inv X pins σ H s)(g:iL H a y o)(ry:RelV y u)(h:∀s',Inv X pins σ H s'->Q (.bool (!o.isSome)) s') :
  wpAny (model X.prog X.w) A (compareOp .NotIn u (.ref a)) Q E s:=by
 rcases g with ⟨kvs,k,e,ey,l⟩|⟨kvs,k,b,e,ey,eb,l⟩
 ·subst ey;obtain⟨z,hd,vs,rel,dd⟩:=oj I.hok e;refine wpAny_notIn_of (hZ ry) hd dd.mapOf ?_;rw[<- (rel.val k).isSome_eq,<- l];exact h _ (I.tok _)
 ·subst ey;cases (show u=Value.ref b from ry);obtain⟨z,hd,xs,rel,dd⟩:=wj I.hok e;refine wpAny_notIn_heap (tupleKind_room_in1 hu) (sy I.hok eb) hd dd ?_;have q:=(rel.val k).isSome_eq;rw[isSome_map] at q;rw[<- q,<- l];exact h _ (I.tok _)
theorem tf{t':Nat}{ob:HO}(I:Inv X pins σ H s)(mu:pd (H a))(hs:Heap.SameBut a s.heap h')(he:∃q,h'.get? a=some q)(new:aE X.prog X.w (upd H a ob) h' a ob) :
  Inv X pins σ (upd H a ob) { s with heap:=h',toks:=t' } :=
 I.write (x:=a) (e:=a) mu (.inl rfl) (fun b q hb z=>(hs.2 b hb).trans z) he new
theorem wW{kvs:List (Key×V)}(z:kvs.length<=sizeLine)(hd:(a==sysModules)=false)(rel:KV kvs vs)(dd:h'.DictOf (eF P w) a vs) :
  aE P w H' h' a (.dK kvs):=⟨z,hd,vs,rel,dd⟩
theorem Ig{Q:Unit->Shared->Prop}(hu:A.units+1<cLine)(I:Inv X pins σ H s)(g:jB H a y v H')(ry:RelV y u)(rv:RelV v r)(h:∀s',Inv X pins σ H' s'->Q () s') :
  wpAny (model X.prog X.w) A (setItem (.ref a) u r) Q E s:=by
 rcases g with ⟨kvs,k,e,ey,l,eH⟩|⟨kvs,k,b,e,ey,eb,l,eH⟩
 ·subst ey eH;obtain⟨z,hd,vs,rel,dd⟩:=wk I.hok e;have hz:vs.length<=sizeLine:=by rw[<- rel.length];exact z
  have hl:(fS kvs k v).length<=sizeLine:=by have:=uH kvs k v;omega
  refine wpAny_setItem_pairs (hsz:=hz) (hZ ry) dd fun h' dd' hs=>h _ ?_;have he:∃q,h'.get? a=some q:=let ⟨q,_,_,hq,_⟩:=dd';⟨q,hq⟩
  exact tf I (by rw[e];exact True.intro) hs he (wW hl hd (rel.put k rv) dd')
 ·subst ey eH;cases (show u=Value.ref b from ry);obtain⟨z,hd,xs,rel,dd⟩:=BB I.hok e;have hz:xs.length<=sizeLine:=by rw[<- Paired.length rel];exact z
  have hl:(fS kvs k v).length<=sizeLine:=by have:=uH kvs k v;omega
  refine wpAny_setItem_heap (hsz:=hz) (tupleKind_room_in1 hu) (sy I.hok eb) dd fun h' dd' hs=>h _ ?_;obtain⟨q,es,ep,hq,h2,h3,h4,_,h5⟩:=dd';refine tf I (by rw[e];exact True.intro) hs ⟨q,hq⟩ ⟨hl,hd,_,(rel.put k eb rv).keeps fun c ys ec=>?_,q,es,ep,hq,h2,h3,h4,h5⟩;rw[bt (CD ec e (fun z=>nomatch z))];exact ec
end
section
variable {σ:St} {kvs:List (Key×V)}
theorem BA(I:Inv X pins σ H s)(e:Rd H a (.dK kvs))(h:∀t s',Inv X pins σ H s'->Q (.int kvs.length t) s'):wpAny (model X.prog X.w) A (call (.builtin "len") [.ref a]) Q E s:=by obtain⟨z,hd,vs,rel,dd⟩:=oj I.hok e;refine call_len_dict hd dd (by rw[<- rel.length];rw[sizeLine_eq] at z;omega) ?_;rw[<- rel.length];exact h _ _ (I.tok _)
end
def Fx(ty td:TE):TE:=fun σ H Q=>ty σ H fun y H1=>td σ H1 fun x H2=>∃a o,x=.ref a/\iL H2 a y o/\Q (.bl (!o.isSome)) H2
def Bz(td ty tv:TE):TS:=fun D σ H=>tv σ H fun v H1=>td σ H1 fun x H2=>ty σ H2 fun y H3=>∃a H4,x=.ref a/\jB H3 a y v H4/\D.nx σ H4
section
variable {o i value:Expr} {pos' tpos:Pos} {td ty tv:TE}
theorem Ie(hu:X.A.units+1<cLine)(hi:PE X i ty)(ho:PE X o td):PC X .NotIn i o (Fx ty td):=by
 intro pins s σ H Q I h;refine aO (hi pins s σ H _ I h) fun iv s1 ⟨y,H1,I1,ry,q1⟩=>aO (ho pins s1 σ H1 _ I1 q1) fun u s2 ⟨x,H2,I2,rx,a,ov,ex,g,q2⟩=>?_;subst ex;obtain rfl:u=Value.ref a:=rx;exact Fz hu I2 g ry fun s3 I3=>⟨.bl (!ov.isSome),H2,I3,rfl,q2⟩
theorem Fw(hu:X.A.units+1<cLine)(ho:PE X o td)(hi:PE X i ty)(hv:PE X value tv)(hs:swapsWith value (some (.Subscript o i pos')) pos.line X.env=pure false) :
  PS X (.Assign [.Subscript o i pos'] value pos) (Bz td ty tv):=by
 intro pins s σ H D I h;refine wpAny_Assign_Subscript (aO (hv pins s σ H _ I h) fun r s1 ⟨v,H1,I1,rv,q1⟩=>aO (ho pins s1 σ H1 _ I1 q1) fun u s2 ⟨x,H2,I2,rx,q2⟩=>aO (hi pins s2 σ H2 _ I2 q2) fun iv s3 ⟨y,H3,I3,ry,a,H4,ex,g,q3⟩=>?_) hs;subst ex;obtain rfl:u=Value.ref a:=rx;exact Ig hu I3 g ry rv fun s4 I4=>⟨σ,H4,I4,q3⟩
end
theorem yT(h:Heap)(hb:sysModules<h.objs.size):aE P w H (h.push { cls:=.type "dict",data:=.dict #[] }) h.objs.size (.dK []) :=
 ⟨zero_le _,beq_eq_false_iff_ne.mpr (Ne.symm (ne_of_lt hb)),[],.nil,Heap.DictOf.new h⟩
def Ef:TE:=fun _ H Q=>∀p,H p=none->Q (.ref p) (upd H p (.dK []))
theorem G2:PE X (.Dict [] [] pos) Ef:=fun pins s σ H Q I h =>
 wpAny_Dict_empty ⟨.ref s.heap.objs.size,_,I.laid (a:=s.heap.objs.size) (o:=.dK []) (t':=s.toks) (fun _ _ q=>Heap.get?_push_of_some _ q) (le_refl _) (yT s.heap I.big),rfl,h _ (I.hok.fresh (le_refl _))⟩
def sx:List (TE×TE)->St->Hp->(List (V×V)->Hp->Prop)->Prop
 | [],_,H,Q=>Q [] H
 | (tk,tv)::r,σ,H,Q=>tk σ H fun x H1=>tv σ H1 fun y H2=>sx r σ H2 fun ps H3=>Q ((x,y)::ps) H3
abbrev VV:List (V×V)->List (Value×Value)->Prop:=Paired fun p q=>RelV p.1 q.1/\RelV p.2 q.2
def qO(X:Cx)(pos:Pos)(keys:List (Option Expr))(values:List Expr)(trs:List (TE×TE)):Prop :=
 ∀(pins:List (Addr×Obj)) (s:Shared) (σ:St) (H:Hp) (Q:List (V×V)->Hp->Prop),Inv X pins σ H s->sx trs σ H Q ->
  wpAny (model X.prog X.w) X.A (evalPairs (pairTrees keys values X.env pos)) (fun vs s'=>∃ps H',Inv X pins σ H' s'/\VV ps vs/\Q ps H') X.xe s
theorem EC:qO X pos [] [] []:=fun pins s σ H Q I h=>pairTrees_nil_walk ⟨[],H,I,.nil,h⟩
variable {trs:List (TE×TE)}
theorem G0{k v:Expr}{ks:List (Option Expr)}{vs:List Expr}{tk tv:TE}(hk:PE X k tk)(hv:PE X v tv)(hr:qO X pos ks vs trs) :
  qO X pos (some k::ks) (v::vs) ((tk,tv)::trs):=fun pins s σ H Q I h =>
 pairTrees_cons_walk (aO (hk pins s σ H _ I h) fun u s1 ⟨x,H1,I1,rx,q1⟩=>aO (hv pins s1 σ H1 _ I1 q1) fun w2 s2 ⟨y,H2,I2,ry,q2⟩ =>
  aO (hr pins s2 σ H2 _ I2 q2) fun ws s3 ⟨ps,H3,I3,rel,q3⟩=>⟨(x,y)::ps,H3,I3,.cons ⟨rx,ry⟩ rel,q3⟩)
def lM(kvs more:List (Key×V)):List (Key×V):=more.foldl (fun acc kv=>fS acc kv.1 kv.2) kvs
theorem KV.merge:∀{more:List (Key×V)} {rs:List (Key×Value)} {kvs:List (Key×V)} {vs:List (Key×Value)},KV more rs->KV kvs vs->KV (lM kvs more) (merged vs rs):=by
 intro more rs kvs vs r;unfold KV at r
 induction r generalizing kvs vs with
 | nil=>intro q;exact q
 | @cons p q ps qs h t ih =>
  intro r0;have e:KV (fS kvs p.1 p.2) (stored vs q.1 q.2):=by have:=r0.put p.1 h.2;rw[<- h.1];exact this
  exact ih e
theorem AD:∀(more kvs:List (Key×V)),(lM kvs more).length<=kvs.length+more.length
 | [],kvs=>by show kvs.length<=kvs.length+0;omega
 | p::r,kvs=>by
  have h1:=AD r (fS kvs p.1 p.2);have h2:=uH kvs p.1 p.2;show(lM (fS kvs p.1 p.2) r).length<=_;rw[length_cons];omega
theorem zQ{P:Program}{w:World}:∀{kvs:List (Key×V)} {ws:List (Value×Value)},VV (kvs.map fun kv=>(kV kv.1,kv.2)) ws->∃rs,Carries (eF P w) ws rs/\KV kvs rs
 | [],_,r=>by rw[map_nil] at r;cases r;exact⟨[],True.intro,.nil⟩
 | p::kvs,_,r=>by
  rw[map_cons] at r;cases r with
  | @cons a b as bs h t =>
   obtain⟨rs,c,q⟩:=zQ (P:=P) (w:=w) t;obtain⟨b1,b2⟩:=b;exact⟨(p.1,b2)::rs,⟨hZ h.1,rfl,c⟩,.cons ⟨rfl,h.2⟩ q⟩
def By(trs:List (TE×TE)):TE:=fun σ H Q=>∀p,H p=none->sx trs σ (upd H p (.dK [])) fun ps H2=>H2 p=some (.dK [])/\∃kvs:List (Key×V),ps=kvs.map (fun kv=>(kV kv.1,kv.2))/\kvs.length<=15/\Q (.ref p) (upd H2 p (.dK (lM [] kvs)))
theorem EB{keys:List (Option Expr)}{values:List Expr}(h:qO X pos keys values trs)(hall:keys.all (·.isSome)=true)(hl:keys.length=values.length)(h0:keys≠[])(h15:keys.length<=15):PE X (.Dict keys values pos) (By trs):=by
 intro pins s σ H Q I q;have hn:=I.hok.fresh (le_refl s.heap.objs.size);have I1:=I.laid (a:=s.heap.objs.size) (o:=.dK []) (h':=s.heap.push { cls:=.type "dict",data:=.dict #[] }) (t':=s.toks) (fun _ _ q=>Heap.get?_push_of_some _ q) (le_refl _) (yT s.heap I.big);refine wpAny_Dict_walk (knd:=eF X.prog X.w) hall hl h0 h15 (aO (h pins _ σ _ _ I1 (q _ hn)) fun ws s2 ⟨ps,H2,I2,rel,e,kvs,ep,lk,q2⟩=>?_);subst ep;obtain⟨rs,c,rk⟩:=zQ (P:=X.prog) (w:=X.w) rel;obtain⟨z,hd,vs0,r0,dd⟩:=wk I2.hok e;cases r0;refine⟨rs,c,dd,fun h' dd' hs=>⟨.ref s.heap.objs.size,_,?_,rfl,q2⟩⟩;have hz:(lM [] kvs).length<=sizeLine:=by have h1:=AD kvs [];rw[length_nil] at h1;rw[sizeLine_eq];omega
 have he:∃q,h'.get? s.heap.objs.size=some q:=let ⟨q,_,_,hq,_⟩:=dd';⟨q,hq⟩
 exact tf I2 (by rw[e];exact True.intro) hs he (wW hz hd (rk.merge .nil) dd')
section
variable {σ:St} {d:V}
end
section
variable {o f:Expr} {apos cpos:Pos} {td ty tx:TE}
end
section
variable {σ:St} {kvs:List (Key×V)}
end
section
variable {σ:St}
end
theorem Ic:aP X (.builtin "len") (fun xs H Q=>∃a kvs,xs=[V.ref a]/\H a=some (.dK kvs)/\Q (.int kvs.length) H):=by
 intro pins s σ H xs us Q I r h;obtain⟨a,kvs,rfl,ha,q⟩:=h;obtain⟨u,rfl,ru⟩:=iR r;cases ru;exact BA I (.inl ha) fun t s' I'=>⟨.int kvs.length,H,I',⟨t,rfl⟩,q⟩
section
variable {κ:Type} [DecidableEq κ]
end
theorem zP{kvs:List (Key×V)}(rel:KV kvs vs)(hk:kvs.map (·.1)=ns.map Sum.inl){acc:Array Value}(h:ItemsOf (fun i v=>∃k x,vs[i]?=some (k,x)/\(eF P w).is k v=true) acc vs.length):IntsAre acc.toList ns:=by
 have hl:acc.toList.length=ns.length:=by rw[length_toList,h.1,<- length_map (f:=fun x:Key×Value=>x.1),<- KV.keys rel,hk,length_map]
 have at':∀(i:Nat) (v:Value),acc.toList[i]?=some v->∃t,v=Value.int (ns.getD i 0) t:=by
  intro i v hv;obtain⟨k,x,h1,h2⟩:=h.2 i v (by rw[<- getElem?_toList];exact hv);have e:(ns.map Sum.inl:List Key)[i]?=some k:=by rw[<- hk,KV.keys rel,getElem?_map,h1];rfl
  rw[getElem?_map] at e;cases q:ns[i]? with
  | none=>rw[q] at e;cases e
  | some n =>
   rw[q] at e;simp only[map_some,Option.some.injEq] at e;subst e;rcases jn (k:=Sum.inl n) (v:=v) h2 with ⟨j,t,e1,e2⟩|⟨j,t,e1,e2⟩
   ·cases e1;exact⟨t,by rw[e2,getD_eq_getElem?_getD,q];rfl⟩
   ·cases e1
 clear h;revert hl at';generalize acc.toList=us;clear hk
 induction ns generalizing us with
 | nil=>intro hl _;cases us with|nil=>exact .nil|cons a r=>simp at hl
 | cons n ns ih =>
  intro hl h;cases us with
  | nil=>simp at hl
  | cons a r =>
   obtain⟨t,rfl⟩:=h 0 a rfl;exact .cons n t (ih r (by simpa using hl) fun i v hv=>h (i+1) v hv)
theorem JF(hc:X.calm=true):aP X (.builtin "sorted") (fun xs H Q=>∃(a:Addr) (kvs:List (Key×V)) (ns:List Int),xs=[.ref a]/\Rd H a (.dK kvs)/\kvs.map (·.1)=ns.map Sum.inl/\ns.length<64 /\
  ∀ms:List Int,ms.Perm ns->ms.Pairwise (·<=·)->∀l,H l=none->Q (.ref l) (upd H l (.lst (ms.map V.int)))):=by
 intro pins s σ H xs us Q I r h;obtain⟨a,kvs,ns,rfl,hd,hk,h64,q⟩:=h;obtain⟨u,rfl,rx⟩:=iR r;cases rx;obtain⟨hz,hS,vs,rel,dd⟩:=oj I.hok hd;obtain⟨ep,hat⟩:=dd.dictAt;have hh:X.A.in1.handled=none:=I.ok.hd hc;have hlen:vs.length=ns.length:=by rw[<- KV.length rel,<- length_map (f:=fun x:Key×V=>x.1),hk,length_map]
 refine Calls.call_function_entry kind_sorted plain_sorted entry_sorted (args_sorted1 _) ?_;unfold Builtin.«sorted»;refine wpAny_bind (m:=checkCount "sorted" 1 1 _) (wpAny_pure ?_);refine wpAny_bind (PySem.W.kdu_collect (A:=X.A.in1) (kdl_dict (knd:=eF X.prog X.w) (kvs:=vs) (ep:=ep) hS) hh hat (by rw[<- KV.length rel];exact hz) fun h' tk acc hkp hacc=>?_);have hI:=zP rel hk hacc;have hal:acc.toList.length=ns.length:=by rw[length_toList,hacc.1,hlen]
 refine wpAny_bind (wpAny_newList ?_ (by rw[hal,<- hlen,<- KV.length rel];exact hz));have hoL:(h'.push (seqObj "list" acc.toList.toArray 0)).get? h'.objs.size=some (seqObj "list" acc.toList.toArray 0):=Heap.get?_push_size _ rfl;refine wpAny_bind (wpAny_holding (wpAny_call_entry slot_list_sort ⟨_,hoL,rfl⟩ entry_list_sort (list_sort_tree hoL hI (by omega) fun out ns' a1 a2 a3=>⟨_,rfl,?_⟩) (args_list_sort _)));refine wpAny_pure ⟨_,rfl,?_⟩;obtain⟨e,he⟩:=sortedHeap_at (out:=out) hoL;have I1:Inv X pins σ H { s with heap:=h',toks:=tk }:=I.kept hkp;have rv':Vals (ns'.map V.int) out.toList:=o4 a1;refine⟨.ref h'.objs.size,_,I1.laid (t':=tk) (a:=h'.objs.size) (o:=.lst (ns'.map V.int)) (fun b o hb=>?_) (le_refl _) ?_,rfl,q ns' a2 a3 _ I1.fresh⟩
 ·have hb:h'.get? b=some o:=hb;have hlt:=Heap.lt_size hb;show(sortedHeap (h'.push (seqObj "list" acc.toList.toArray 0)) h'.objs.size acc.toList out).get? b=some o;rw[sortedHeap_old (ne_of_lt hlt) (by rw[size_push'];exact lt_succ_of_lt hlt)];exact Heap.get?_push_of_some _ hb
 ·refine⟨by rw[length_map,a2.length_eq,<- hlen,<- KV.length rel];exact hz,out.toList,e,rv',?_⟩;rw[toArray_toList];exact he
theorem Iy(hc:X.calm=true):aP X (.type "list") (fun xs H Q=>∃(a:Addr) (kvs:List (Key×V)) (ns:List Int),xs=[.ref a]/\Rd H a (.dK kvs)/\kvs.map (·.1)=ns.map Sum.inl/\∀l,H l=none->Q (.ref l) (upd H l (.lst (ns.map V.int)))):=by
 intro pins s σ H xs us Q I r h;obtain⟨a,kvs,ns,rfl,hd,hk,q⟩:=h;obtain⟨u,rfl,rx⟩:=iR r;cases rx;obtain⟨hz,hS,vs,rel,dd⟩:=oj I.hok hd;obtain⟨ep,hat⟩:=dd.dictAt;have hlen:vs.length=ns.length:=by rw[<- KV.length rel,<- length_map (f:=fun x:Key×V=>x.1),hk,length_map]
 refine PySem.W.kdl_call (kdl_dict (knd:=eF X.prog X.w) (kvs:=vs) (ep:=ep) hS) (I.ok.hd hc) hat (by rw[<- KV.length rel];exact hz) fun h' tk acc c hkp hD hacc=>?_;have hI:=zP rel hk hacc;refine⟨.ref s.heap.objs.size,_,I.laid (t':=tk) (a:=s.heap.objs.size) (o:=.lst (ns.map V.int)) hkp (le_refl _) ?_,rfl,q _ I.fresh⟩;refine⟨by rw[length_map,<- hlen,<- KV.length rel];exact hz,acc.toList,c,o4 hI,?_⟩;rw[toArray_toList];exact hD
theorem Ib{a:Expr}{ta:TA}(hg:Gl X "range")(hm:X.mg "range" = none)(ha:PA X [a] ta)(hs:starEach [a] X.env=[(false,eval a X.env)]:=by rfl) :
  PE X (.Call (.Name "range" p) [a] [] pos) (fun σ H Q=>ta σ H fun vs H1=>∃j:Int,vs=[.int j]/\∀p,H1 p=none->Q (.ref p) (upd H1 p (.rng 0 j))):=by
 intro pins s σ H Q I h;refine Call_ (oB I hg hm boot_range (PyProof.Rows.callWith_type1 (aO (ha pos pins s σ H _ I h) fun us s1 ⟨vs,H1,I1,r1,q1⟩=>?_) hs rfl));obtain⟨j,e,q⟩:=q1;subst e;cases r1 with
 | cons r rr =>
  cases rr;obtain⟨t,rfl⟩:=r;refine call_range_1 ⟨.ref s1.heap.objs.size,_,I1.laid (t':=s1.toks+1+1) (a:=s1.heap.objs.size) (o:=.rng 0 j) (fun b o e=>Heap.get?_push_of_some _ e) (le_refl _) ?_,rfl,q _ I1.fresh⟩;exact⟨_,_,_,Heap.get?_push_size _ rfl⟩
theorem JE(hc:X.calm=true):aP X (.type "list") (fun xs H Q=>∃(p:Addr) (lo hi:Int),xs=[.ref p]/\H p=some (.rng lo hi)/\-(2 ^ 62)<=lo/\lo<2 ^ 62/\-(2 ^ 62)<=hi/\hi<2 ^ 62/\(hi-lo).toNat<=sizeLine /\
  ∀l,H l=none->Q (.ref l) (upd H l (.lst ((List.range (hi-lo).toNat).map fun(i:Nat)=>V.int (lo+(i:Int)))))):=by
 intro pins s σ H xs us Q I r h;obtain⟨p,lo,hi,rfl,hp,h1,h2,h3,h4,hz,q⟩:=h;obtain⟨u,rfl,rx⟩:=iR r;cases rx;obtain⟨t,u,v,hr⟩:=I.hok p _ hp;have hn:Builtin.Range.rangeSize lo hi 1=(((hi-lo).toNat:Nat):Int):=by rw[rangeSize_one];split<;>omega
 refine PySem.call_list_range (I.ok.hd hc) hr (small_one h1 h2 h3 h4) hn (by rw[sizeLine_eq] at hz;exact hz) fun h' tk acc c hkp hD hacc=>?_;refine⟨.ref s.heap.objs.size,_,I.laid (t':=tk) (a:=s.heap.objs.size) (o:=.lst ((List.range (hi-lo).toNat).map fun(i:Nat)=>V.int (lo+(i:Int)))) hkp (le_refl _) ?_,rfl,q _ I.fresh⟩;refine⟨by rw[length_map,length_range];exact hz,acc.toList,c,?_,by rw[toArray_toList];exact hD⟩;have hl:acc.toList.length=(hi-lo).toNat:=by rw[length_toList];exact hacc.1
 have hv:∀(i:Nat) (v:Value),acc.toList[i]?=some v->∃t,v=Value.int (lo+(i:Int)) t:=fun i v e=>by
  obtain⟨t,e'⟩:=hacc.2 i v (by rw[<- getElem?_toList];exact e);exact⟨t,by rw[e',mul_one]⟩
 clear hn hz hacc hD;revert hl hv;generalize acc.toList=us;generalize (hi-lo).toNat=n;intro hl hv;have:∀(us:List Value) (k:Nat),(∀(i:Nat) (v:Value),us[i]?=some v->∃t,v=Value.int (lo+((k+i:Nat):Int)) t)->Vals ((List.range' k us.length).map fun(i:Nat)=>V.int (lo+(i:Int))) us:=by
  intro us
  induction us with
  | nil=>intro k _;exact .nil
  | cons a r ih =>
   intro k h;obtain⟨t,rfl⟩:=h 0 a rfl;rw[length_cons,range'_succ,map_cons];refine .cons ⟨t,by simp⟩ (ih (k+1) fun i v e=>?_);obtain⟨t',e'⟩:=h (i+1) v e;exact⟨t',by rw[e'];congr 2;omega⟩
 have q':=this us 0 fun i v e=>by simpa using hv i v e
 rw[<- range_eq_range',hl] at q';exact q'
variable {ps:List (Key×V)} {es:Array DictEntry} {ep:Nat}
def nL(a:Addr)(o:Obj)(ps:List (Key×V)):It where
 go:=fun i H=>H a=some (.frz o (.dK ps))/\i<ps.length
 yld:=fun i H x H'=>H'=H/\∃p,ps[i]?=some p/\x=kV p.1
 stop:=fun i H=>H a=some (.frz o (.dK ps))/\ps.length=i
theorem EA(h:(eF P w).is k u=true):RelV (kV k) u:=by
 rcases jn (k:=k) (v:=u) h with ⟨i,t,rfl,rfl⟩|⟨x,t,rfl,rfl⟩
 ·exact⟨t,rfl⟩
 ·exact⟨t,rfl⟩
theorem wV{o:Obj}(ok:cF P w H h)(e:H a=some (.frz o (.dK ps)))(hd:o.data=.dict es ep) :
  ∃vs,KV ps vs/\h.DictAt (eF P w) a vs ep:=by
 obtain⟨h1,_,_,vs,r,o',es',ep',ho,hx,hd',hr⟩:=(show aE P w H h a (.frz o (.dK ps)) from ok a _ e)
 rw[h1] at ho;cases ho;rw[hd] at hd';cases hd';exact⟨vs,r,o,es,h1,hx,hd,hr⟩
theorem Ia{K:Frag}(a it:Addr){o:Obj}(hd:o.data=.dict es ep):Turn P w K tg (nL a o ps) [it] it (fun i h=>h.IsKeyIter it a i ps.length ep) where
 mem:=by simp
 obj:=fun i h st b hb=>by
  have e:b=it:=by simpa using hb
  subst e;obtain⟨o,e,c,d⟩:=st;exact⟨o,e,fun v z=>by rw[d] at z;cases z⟩
 keep:=fun i h h' st k=>st.at fun o e=>k it (by simp) o e
 item:=by
  intro X hP hw hK hc i pins s σ H E I hf st hg;subst hP hw hK;obtain⟨he,hi⟩:=hg;obtain⟨vs,r,hat⟩:=wV I.hok he hd;have hl:=KV.length r;obtain⟨f0,f1,f2,f3,f4,f5⟩:=hf it (by simp);have hx:vs[i]?=some (vs[i]'(by omega)):=getElem?_eq_getElem _;have hp:ps[i]?=some (ps[i]'(by omega)):=getElem?_eq_getElem _;have hk:(vs[i]'(by omega)).1=(ps[i]'(by omega)).1:=by have e1:=congrArg (fun l:List Key=>l[i]?) (KV.keys r);simp only[getElem?_map,hx,hp,map_some,Option.some.injEq] at e1;exact e1.symm
  refine wpAny_pyNext_dict_item (knd:=eF X.prog X.w) (hl▸st) hat (k:=(vs[i]'(by omega)).1) (v:=(vs[i]'(by omega)).2) (by rw[hx]) fun key h' hkey st' sb=>?_;have I1:Inv X pins σ H { s with heap:=h' }:=I.turned (t':=s.toks) (fun b o hb e=>(sb.2 b hb).trans e) f0 f1 f3 f4 f5;obtain⟨oi,e,c,d⟩:=id st';exact⟨key,rfl,pH (s:={ s with heap:=h' }) e c d (by decide) ⟨kV (ps[i]'(by omega)).1,H,I1,hk▸EA hkey,⟨rfl,_,hp,rfl⟩,hl▸st',fun b hb=>(hf b hb).1⟩⟩
 done:=by
  intro X hP hw hK hc i pins s σ H E I hf st hg;subst hP hw hK;obtain⟨he,hi⟩:=hg;obtain⟨vs,r,hat⟩:=wV I.hok he hd;have hl:=KV.length r;obtain⟨f0,f1,f2,f3,f4,f5⟩:=hf it (by simp);exact wpAny_pyNext_dict_end (knd:=eF X.prog X.w) (I.ok.hd hc) (hl▸st) hat (getElem?_eq_none (by omega)) fun h' eb=>⟨rfl,I.turned (t':=s.toks) (fun b o hb e=>eb b o hb e) f0 f1 f3 f4 f5⟩
 self:=fun _ _ _ _ _ st h=>wpAny_pyIter_keyiter st h
def Bx(tl:TE):TI:=fun σ H R=>tl σ H fun v H1=>∃a,v=.ref a/\((∃ps,H1 a=some (.dK ps)/\∀o,R (nL a o ps) (upd H1 a (.frz o (.dK ps))))\/∃o ps,H1 a=some (.frz o (.dK ps))/\R (nL a o ps) H1)
theorem Ez{l:Expr}(hl:PE X l tl):PI X tg l (Bx tl):=by
 intro pins s σ H R I h;refine aO (hl pins s σ H _ I h) fun v s1 ⟨x,H1,I1,r1,q1⟩=>?_;obtain⟨a,e,q⟩:=q1;subst e;cases r1;obtain⟨o,ps,H2,I2,he,q⟩:∃o ps H2,Inv X pins σ H2 s1/\H2 a=some (.frz o (.dK ps))/\R (nL a o ps) H2:=by
  rcases q with ⟨ps,he,q⟩|⟨o,ps,he,q⟩
  ·have ok:=(show aE X.prog X.w H1 s1.heap a (.dK ps) from I1.hok a _ he)
   obtain⟨_,_,vs,r,o,es,ep,ho,hr⟩:=id ok;refine⟨o,ps,_,I1.write (t':=s1.toks) (h':=s1.heap) (x:=a) (e:=a) (o:=.frz o (.dK ps)) (by rw[he];trivial) (.inl rfl) (fun b u _ z=>z) ⟨o,ho⟩ ?_,ak,q o⟩;exact⟨ho,ok⟩
  ·exact⟨o,ps,H1,I1,he,q⟩
 obtain⟨h1,_,hS,vs,r,o',es,ep,ho,hx,hd,hr⟩:=(show aE X.prog X.w H2 s1.heap a (.frz o (.dK ps)) from I2.hok a _ he)
 rw[h1] at ho;cases ho;have hat:s1.heap.DictAt (eF X.prog X.w) a vs ep:=⟨o,es,h1,hx,hd,hr⟩
 refine wpAny_pyIter_dict hS hat ?_;refine⟨s1.heap.objs.size,[s1.heap.objs.size],_,_,H2,rfl,I2.kept (t':=s1.toks) fun b o e=>Heap.get?_push_of_some _ e,Ia a _ hd,⟨_,Heap.get?_push_size _ rfl,rfl,by rw[KV.length r];rfl⟩,fun b hb=>?_,q⟩;have e:b=s1.heap.objs.size:=by simpa using hb
 subst e;exact I2.fpOk (le_refl _) (I2.hok.fresh (le_refl _))
section
variable {prog:Program}
end
end L2
namespace VS
open PySem PySem.Spec PyProof.Rows L2
abbrev St:=L2.St
variable {k:Nat}
theorem dZ{α:Type}{l:List α}{a:α}(h:l[k]?=some a):k<l.length:=(List.getElem?_eq_some_iff.mp h).1
variable {i j:Nat}
theorem oG{α:Type}{l:List α}(h:l.Nodup)(hi:i<l.length)(hj:j<l.length)(e:l[i]=l[j]):i=j:=by
 have p:=pairwise_iff_getElem.mp h;rcases lt_trichotomy i j with q|q|q
 ·exact absurd e (p i j hi hj q)
 ·exact q
 ·exact absurd e.symm (p j i hj hi q)
inductive W where
 | non|bl (b:Bool)|int (i:Int)|str (x:Str)|ty (n:String)|lst (xs:List W)|tup (xs:List W)|cel (k:Nat)
inductive C where
 | lst (xs:List W)|dct (kvs:List (Key×W))|ins (c:Str) (fs:List (Str×W))|exn (c:Str)|exm (c f:Str) (n:Int)|dead|fzd (kvs:List (Key×W))|dtp (kvs:List (List Key×W))
def C.nf:C->Bool
 | .fzd _=>false
 | _=>true
def Kc:HO->Bool
 | .frz _ _=>false
 | _=>true
abbrev Ce:=List C
abbrev Sl:=List (Option W)
structure cV where
 nm:Str
 fld:Option (Str×W)
inductive R (α:Type) where
 | ok (a:α) (ce:Ce)|ex (x:cV) (ce:Ce)
abbrev M(α:Type):=Ce->Option (R α)
structure Ga where
 K:Frag
 cl:Str->Addr
 xr:cV->Value->Option Addr->Hp->Prop
mutual
def Rep(F:Hp)(as:List Addr):W->V->Prop
 | .non,v=>v=.non
 | .bl b,v=>v=.bl b
 | .int i,v=>v=.int i
 | .str x,v=>v=.str x
 | .ty n,v=>v=.ty n
 | .lst xs,v=>∃a vs,v=.ref a/\Rd F a (.lst vs)/\ah F as xs vs
 | .tup xs,v=>∃a vs,v=.ref a/\F a=some (.tup vs)/\ah F as xs vs
 | .cel k,v=>∃a,v=.ref a/\as[k]?=some a
def ah(F:Hp)(as:List Addr):List W->List V->Prop
 | [],vs=>vs=[]
 | x::xs,vs=>∃v r,vs=v::r/\Rep F as x v/\ah F as xs r
end
structure Le (F:Hp) (as:List Addr) (F':Hp) (as':List Addr):Prop where
 f:∀a o,F a=some o->F' a=some o
 c:∀(k:Nat) (a:Addr),as[k]?=some a->as'[k]?=some a
variable {F:Hp} {as:List Addr}
theorem Le.refl:Le F as F as:=⟨fun _ _ h=>h,fun _ _ h=>h⟩
theorem Le.trans{F1 F2:Hp}{as1 as2:List Addr}(h:Le F as F1 as1)(h':Le F1 as1 F2 as2):Le F as F2 as2:=⟨fun a o e=>h'.f a o (h.f a o e),fun k a e=>h'.c k a (h.c k a e)⟩
variable {F':Hp} {as':List Addr} {a:Addr} {o:HO}
theorem Le.rd(h:Le F as F' as')(r:Rd F a o):Rd F' a o:=by
 rcases r with r|⟨u,r⟩
 ·exact .inl (h.f _ _ r)
 ·exact .inr ⟨u,h.f _ _ r⟩
mutual
theorem Rep.le{F F':Hp}{as as':List Addr}(h:Le F as F' as'):∀{w:W} {v:V},Rep F as w v->Rep F' as' w v
 | .non,_,r=>by simpa only[Rep] using r
 | .bl _,_,r=>by simpa only[Rep] using r
 | .int _,_,r=>by simpa only[Rep] using r
 | .str _,_,r=>by simpa only[Rep] using r
 | .ty _,_,r=>by simpa only[Rep] using r
 | .lst xs,_,r=>by
  simp only[Rep] at r ⊢;obtain⟨a,vs,e,q,s⟩:=r;exact⟨a,vs,e,h.rd q,ah.le h s⟩
 | .tup xs,_,r=>by
  simp only[Rep] at r ⊢;obtain⟨a,vs,e,q,s⟩:=r;exact⟨a,vs,e,h.f _ _ q,ah.le h s⟩
 | .cel k,_,r=>by
  simp only[Rep] at r ⊢;obtain⟨a,e,q⟩:=r;exact⟨a,e,h.c _ _ q⟩
theorem ah.le{F F':Hp}{as as':List Addr}(h:Le F as F' as'):∀{ws:List W} {vs:List V},ah F as ws vs->ah F' as' ws vs
 | [],_,r=>by simpa only[ah] using r
 | _::_,_,r=>by
  simp only[ah] at r ⊢;obtain⟨v,r',e,q,s⟩:=r;exact⟨v,r',e,Rep.le h q,ah.le h s⟩
end
variable {ws:List W} {vs:List V} {v:V}
theorem ah.nil:ah F as [] []:=by simp only[ah]
theorem ah.cons{w:W}{v:V}{ws:List W}{vs:List V}(h:Rep F as w v)(t:ah F as ws vs):ah F as (w::ws) (v::vs):=by simp only[ah];exact⟨v,vs,rfl,h,t⟩
theorem ah.length:∀{ws:List W} {vs:List V},ah F as ws vs->vs.length=ws.length
 | [],_,r=>by simp only[ah] at r;subst r;rfl
 | _::_,_,r=>by
  simp only[ah] at r;obtain⟨v,r',rfl,_,s⟩:=r;simp only[length_cons,ah.length s]
theorem ah.get:∀{ws:List W} {vs:List V} {i:Nat} {w:W},ah F as ws vs->ws[i]?=some w->∃v,vs[i]?=some v/\Rep F as w v
 | [],_,_,_,_,e=>by simp at e
 | _::_,_,0,_,r,e=>by
  simp only[ah] at r;obtain⟨v,r',rfl,q,s⟩:=r;simp at e;subst e;exact⟨v,rfl,q⟩
 | _::_,_,i+1,w,r,e=>by
  simp only[ah] at r;obtain⟨v,r',rfl,q,s⟩:=r;obtain⟨u,h1,h2⟩:=ah.get (i:=i) (w:=w) s (by simpa using e);exact⟨u,by simpa using h1,h2⟩
theorem ah.get'(r:ah F as ws vs)(e:vs[i]?=some v):∃w,ws[i]?=some w/\Rep F as w v:=by have hl:=r.length;have hi:i<vs.length:=dZ e;have e1:ws[i]?=some ws[i]:=getElem?_eq_getElem (by omega);obtain⟨u,h1,h2⟩:=r.get e1;rw[e] at h1;cases h1;exact⟨_,e1,h2⟩
theorem ah.append:∀{ws zs:List W} {vs us:List V},ah F as ws vs->ah F as zs us->ah F as (ws++zs) (vs++us)
 | [],_,_,_,r,s=>by simp only[ah] at r;subst r;exact s
 | _::_,_,_,_,r,s=>by
  simp only[ah] at r;obtain⟨v,r',rfl,q,t⟩:=r;exact .cons q (ah.append t s)
theorem ah.set:∀{ws:List W} {vs:List V} {w:W} {v:V} (i:Nat),ah F as ws vs->Rep F as w v->ah F as (ws.set i w) (vs.set i v)
 | [],_,_,_,_,r,_=>by simp only[ah] at r;subst r;exact .nil
 | _::_,_,_,_,0,r,h=>by
  simp only[ah] at r;obtain⟨v,r',rfl,q,t⟩:=r;exact .cons h t
 | _::_,_,_,_,i+1,r,h=>by
  simp only[ah] at r;obtain⟨v,r',rfl,q,t⟩:=r;exact .cons q (ah.set i t h)
theorem ah.take:∀{ws:List W} {vs:List V} (n:Nat),ah F as ws vs->ah F as (ws.take n) (vs.take n)
 | _,_,0,_=>by rw[take_zero,take_zero];exact .nil
 | [],_,_+1,r=>by simp only[ah] at r;subst r;exact .nil
 | _::_,_,n+1,r=>by
  simp only[ah] at r;obtain⟨v,r',rfl,q,t⟩:=r;exact .cons q (ah.take n t)
theorem ah.drop:∀{ws:List W} {vs:List V} (n:Nat),ah F as ws vs->ah F as (ws.drop n) (vs.drop n)
 | _,_,0,r=>r
 | [],_,_+1,r=>by simp only[ah] at r;subst r;exact .nil
 | _::_,_,n+1,r=>by
  simp only[ah] at r;obtain⟨v,r',rfl,q,t⟩:=r;exact ah.drop n t
theorem ah.dropLast(r:ah F as ws vs):ah F as ws.dropLast vs.dropLast:=by rw[dropLast_eq_take,dropLast_eq_take,r.length];exact r.take _
theorem ah.rep{ws:List W}{vs:List V}(r:ah F as ws vs):∀n,ah F as (List.replicate n ws).flatten (List.replicate n vs).flatten
 | 0=>.nil
 | n+1=>by rw[replicate_succ,replicate_succ,flatten_cons,flatten_cons];exact r.append (r.rep n)
theorem ah.ints:∀(ns:List Int),ah F as (ns.map W.int) (ns.map V.int)
 | []=>.nil
 | n::r=>.cons (by simp only[Rep]) (ah.ints r)
theorem ah.of_ints:∀{ns:List Int} {vs:List V},ah F as (ns.map W.int) vs->vs=ns.map V.int
 | [],_,r=>by simpa only[map_nil,ah] using r
 | n::ns,_,r=>by
  simp only[map_cons,ah,Rep] at r;obtain⟨v,r',rfl,rfl,t⟩:=r;rw[ah.of_ints t,map_cons]
theorem ah.of_bools:∀{bs:List Bool} {vs:List V},ah F as (bs.map W.bl) vs->vs=bs.map V.bl
 | [],_,r=>by simpa only[map_nil,ah] using r
 | n::ns,_,r=>by
  simp only[map_cons,ah,Rep] at r;obtain⟨v,r',rfl,rfl,t⟩:=r;rw[ah.of_bools t,map_cons]
theorem bB{α β γ δ:Type}{p q:α->β->γ->δ->Prop}{g:Prop}(h:∃a b c d,p a b c d/\q a b c d)(k:∀a b c d,p a b c d->q a b c d->g):g:=by obtain⟨a,b,c,d,h1,h2⟩:=h;exact k a b c d h1 h2
theorem bf{α β γ δ:Type}{p q r s:α->β->γ->δ->Prop}{g:Prop}(h:∃a b c d,p a b c d/\q a b c d/\r a b c d/\s a b c d)(k:∀a b c d,p a b c d->q a b c d->r a b c d->s a b c d->g):g:=by obtain⟨a,b,c,d,h1,h2,h3,h4⟩:=h;exact k a b c d h1 h2 h3 h4
def aA{κ:Type}(F:Hp)(as:List Addr)(kvs:List (κ×W))(ps:List (κ×V)):Prop:=Paired (fun(p:κ×W) (q:κ×V)=>p.1=q.1/\Rep F as p.2 q.2) kvs ps
theorem aA.le{κ:Type}{F F':Hp}{as as':List Addr}(h:Le F as F' as'){kvs:List (κ×W)}{ps:List (κ×V)}(r:aA F as kvs ps):aA F' as' kvs ps:=Paired.mapP r fun _ _ z=>⟨z.1,z.2.le h⟩
def tgC:Value->Option Addr
 | .ref C=>some C
 | .int _ C=>some C
 | _=>none
def Tg(t:Value)(o:Obj):Prop:=match t with
 | .int i C=>o.cls=.ref C/\o.dict=some i.toNat
 | v=>o.cls=v
theorem Tg.cls{t:Value}{o:Obj}{C:Addr}(h:Tg t o)(e:tgC t=some C):o.cls=.ref C:=by
 cases t<;>simp only[tgC,Option.some.injEq,reduceCtorEq] at e
 ·subst e;exact h.1
 ·subst e;exact h
theorem Tg.same{t:Value}{o o':Obj}(h:Tg t o)(e1:o'.cls=o.cls)(e2:o'.dict=o.dict):Tg t o':=by
 unfold Tg at h ⊢;split at h
 ·exact⟨e1.trans h.1,e2.trans h.2⟩
 ·exact e1.trans h
def XPhi(a:Addr)(cls:Value)(h:Heap):Prop:=∃o vs,h.get? a=some o/\Tg cls o/\o.data=.fields vs/\∃a0,vs[0]?=some a0
def NumP(D:Addr)(f:Str)(n:Int)(h:Heap):Prop:=∃m t,h.Ns D m/\m f=some (.int n t)
def de(G:Ga)(F:Hp)(as:List Addr)(H:Hp)(a:Addr):C->Prop
 | .lst xs=>∃vs,H a=some (.lst vs)/\ah F as xs vs
 | .dct kvs=>∃ps,H a=some (.dK ps)/\aA F as kvs ps
 | .ins c fs=>∃dx ps,H a=some (.ins (G.cl c) dx ps)/\aA F as fs ps
 | .exn c=>H a=some (.ext (XPhi a (.ref (G.cl c))))
 | .exm c f n=>∃D:Addr,H a=some (.ext (XPhi a (.int (D:Int) (G.cl c))))/\F D=some (.ext (NumP D f n))
 | .dead=>∃o,H a=some o
 | .fzd kvs=>∃o ps,F a=some (.frz o (.dK ps))/\H a=some (.frz o (.dK ps))/\aA F as kvs ps
 | .dtp kvs=>∃ps,H a=some (.dT ps)/\aA F as kvs ps
structure ax (G:Ga) (F:Hp) (as:List Addr) (H:Hp) (ce:Ce):Prop where
 sub:∀a o,F a=some o->H a=some o
 nd:as.Nodup
 len:as.length=ce.length
 cell:∀(k:Nat) (a:Addr) (c:C),as[k]?=some a->ce[k]?=some c->(c.nf=true->F a=none)/\de G F as H a c
structure SR (G:Ga) (F:Hp) (as:List Addr) (H:Hp) (σ:VS.St) (sl:Sl) (ce:Ce):Prop where
 st:ax G F as H ce
 len:σ.length=sl.length
 slot:∀(i:Nat) (w:W),sl[i]?=some (some w)->∃v,σ[i]?=some (some v)/\Rep F as w v
variable {G:Ga} {H H':Hp} {sl:Sl} {ce ce':Ce} {w:W}
section
variable {σ:VS.St} {p:Addr}
theorem de.tracked{c:C}(h:de G F as H a c):∃o,H a=some o:=by
 cases c with
 | lst xs=>obtain⟨vs,e,_⟩:=h;exact⟨_,e⟩
 | dct xs=>obtain⟨vs,e,_⟩:=h;exact⟨_,e⟩
 | ins c xs=>obtain⟨dx,vs,e,_⟩:=h;exact⟨_,e⟩
 | exn c=>exact⟨_,h⟩
 | exm c f n=>obtain⟨D,e,_⟩:=h;exact⟨_,e⟩
 | dead=>exact h
 | fzd xs=>obtain⟨o,ps,_,e,_⟩:=h;exact⟨_,e⟩
 | dtp xs=>obtain⟨vs,e,_⟩:=h;exact⟨_,e⟩
theorem de.le{c:C}(l:Le F as F' as')(hH:H' a=H a)(h:de G F as H a c):de G F' as' H' a c:=by
 cases c with
 | lst xs=>obtain⟨vs,e,r⟩:=h;exact⟨vs,hH.trans e,r.le l⟩
 | dct xs=>obtain⟨vs,e,r⟩:=h;exact⟨vs,hH.trans e,r.le l⟩
 | ins c xs=>obtain⟨dx,vs,e,r⟩:=h;exact⟨dx,vs,hH.trans e,r.le l⟩
 | exn c=>exact hH.trans h
 | exm c f n=>obtain⟨D,e,r⟩:=h;exact⟨D,hH.trans e,l.f _ _ r⟩
 | dead=>obtain⟨o,e⟩:=h;exact⟨o,hH.trans e⟩
 | fzd xs=>obtain⟨o,ps,e1,e2,r⟩:=h;exact⟨o,ps,l.f _ _ e1,hH.trans e2,r.le l⟩
 | dtp xs=>obtain⟨vs,e,r⟩:=h;exact⟨vs,hH.trans e,r.le l⟩
theorem ax.at(S:ax G F as H ce){c:C}(h:ce[k]?=some c):∃a,as[k]?=some a/\(c.nf=true->F a=none)/\de G F as H a c:=by have hk:k<ce.length:=dZ h;have e:as[k]?=some (as[k]'(by rw[S.len];exact hk)):=getElem?_eq_getElem _;exact⟨_,e,S.cell _ _ _ e h⟩
theorem ax.tracked(S:ax G F as H ce)(h:as[k]?=some a):∃o,H a=some o:=by have hk:k<as.length:=dZ h;have e:ce[k]?=some (ce[k]'(by rw[<- S.len];exact hk)):=getElem?_eq_getElem _;exact(S.cell _ _ _ h e).2.tracked
theorem SR.slots(S:SR G F as H σ sl ce)(S':ax G F' as' H' ce')(l:Le F as F' as'):SR G F' as' H' σ sl ce' :=
 ⟨S',S.len,fun i w e=>let ⟨v,h1,h2⟩:=S.slot i w e;⟨v,h1,h2.le l⟩⟩
theorem SR.var(S:SR G F as H σ sl ce)(h:sl[i]?=some (some w)):∃v,σ[i]?=some (some v)/\Rep F as w v:=S.slot i w h
theorem SR.put(S:SR G F as H σ sl ce)(r:Rep F as w v)(i:Nat):SR G F as H (σ.set i (some v)) (sl.set i (some w)) ce:=by
 refine⟨S.st,by rw[length_set,length_set];exact S.len,fun j u e=>?_⟩
 by_cases hj:i=j
 ·subst hj;have hi:i<sl.length:=by have:=dZ e;rwa [length_set] at this
  rw[getElem?_set_self hi] at e;cases e;exact⟨v,by rw[getElem?_set_self (by rw[S.len];exact hi)],r⟩
 ·rw[getElem?_set_ne hj] at e;obtain⟨v',h1,h2⟩:=S.slot j u e;exact⟨v',by rw[getElem?_set_ne hj];exact h1,h2⟩
theorem fM(hF:F p=none):∀a u,F a=some u->upd F p o a=some u:=fun a u e=>by
 rw[bt (eU e hF)];exact e
theorem ax.freeze(S:ax G F as H ce)(hp:H p=none):ax G (upd F p o) as (upd H p o) ce/\Le F as (upd F p o) as:=by
 have hF:F p=none:=by
  cases e:F p with
  | none=>rfl
  | some u=>rw[S.sub _ _ e] at hp;cases hp
 have l:Le F as (upd F p o) as:=⟨fM hF,fun _ _ h=>h⟩
 refine⟨⟨fun a u e=>?_,S.nd,S.len,fun k a c h1 h2=>?_⟩,l⟩
 ·by_cases ha:a=p
  ·subst ha;rw[ak] at e ⊢;exact e
  ·rw[bt ha] at e ⊢;exact S.sub _ _ e
 ·obtain⟨q1,q2⟩:=S.cell k a c h1 h2;obtain⟨u,hu⟩:=q2.tracked;have ha:a≠p:=eU hu hp;exact⟨fun hn=>by rw[bt ha];exact q1 hn,q2.le l (bt ha)⟩
theorem ax.alloc(S:ax G F as H ce)(hp:H p=none){c:C}(hc:∀as',Le F as F as'->de G F as' (upd H p o) p c):ax G F (as++[p]) (upd H p o) (ce++[c])/\Le F as F (as++[p]):=by
 have hF:F p=none:=by
  cases e:F p with
  | none=>rfl
  | some u=>rw[S.sub _ _ e] at hp;cases hp
 have l:Le F as F (as++[p]):=⟨fun _ _ h=>h,fun k a h=>by
  have hk:k<as.length:=dZ h;rw[getElem?_append_left hk];exact h⟩
 refine⟨⟨fun a u e=>?_,?_,by rw[length_append,length_append,S.len];rfl,fun k a c' h1 h2=>?_⟩,l⟩
 ·rw[bt (eU (S.sub _ _ e) hp)];exact S.sub _ _ e
 ·rw[nodup_append];refine⟨S.nd,by simp,fun a ha b hb=>?_⟩;obtain⟨k,hk⟩:=getElem?_of_mem ha;obtain⟨u,hu⟩:=S.tracked hk;rw[mem_singleton] at hb;subst hb;exact eU hu hp
 ·by_cases hk:k<ce.length
  ·rw[getElem?_append_left (by rw[S.len];exact hk)] at h1;rw[getElem?_append_left hk] at h2;obtain⟨q1,q2⟩:=S.cell k a c' h1 h2;obtain⟨u,hu⟩:=q2.tracked;exact⟨q1,q2.le l (bt (eU hu hp))⟩
  ·rw[getElem?_append_right (by rw[S.len];omega)] at h1;rw[getElem?_append_right (by omega)] at h2;have e:k-as.length=0:=by
    cases q:k-as.length with
    | zero=>rfl
    | succ n=>rw[q] at h1;simp at h1
   rw[e] at h1;rw[<- S.len,e] at h2;simp at h1 h2;subst h1;subst h2;exact⟨fun _=>hF,hc _ l⟩
theorem ax.write(S:ax G F as H ce)(h1:as[k]?=some a){c:C}(hc:de G F as (upd H a o) a c)(hm:∃o',H a=some o'/\Kc o'=true:=by exact⟨_,by assumption,rfl⟩):ax G F as (upd H a o) (ce.set k c):=by
 have hk:k<ce.length:=by rw[<- S.len];exact dZ h1
 have e:ce[k]?=some ce[k]:=getElem?_eq_getElem hk;obtain⟨q1,q2⟩:=S.cell k a _ h1 e;have q1:F a=none:=by
  cases ek:ce[k] with
  | fzd xs =>
   rw[ek] at q2;obtain⟨o1,ps,_,e2,_⟩:=q2;obtain⟨o',e3,hn⟩:=hm;rw[e2] at e3;cases e3;cases hn
  | _=>exact q1 (by rw[ek];rfl)
 refine⟨fun b u e'=>?_,S.nd,by rw[length_set];exact S.len,fun j b c' h1' h2'=>?_⟩
 ·rw[bt (fun z=>by subst z;rw[q1] at e';cases e')];exact S.sub _ _ e'
 ·by_cases hj:k=j
  ·subst hj;rw[getElem?_set_self hk] at h2';rw[h1] at h1';cases h1';cases h2';exact⟨fun _=>q1,hc⟩
  ·rw[getElem?_set_ne hj] at h2';obtain⟨p1,p2⟩:=S.cell j b c' h1' h2';have hb:b≠a:=fun z=>by
    subst z;have hj':j<as.length:=dZ h1';have hk':k<as.length:=by rw[S.len];exact hk
    have e1:as[k]=as[j]:=by rw[getElem?_eq_getElem hk'] at h1;rw[getElem?_eq_getElem hj'] at h1';exact(Option.some.inj h1).trans (Option.some.inj h1').symm
    exact hj (oG S.nd hk' hj' e1)
   exact⟨p1,p2.le .refl (bt hb)⟩
end
def aw{α β:Type}(m:M α)(f:α->M β):M β:=fun ce=>match m ce with
 | some (.ok a ce')=>f a ce'
 | some (.ex x ce')=>some (.ex x ce')
 | none=>none
def ret{α:Type}(a:α):M α:=fun ce=>some (.ok a ce)
def look{α:Type}(f:Ce->Option α):M α:=fun ce=>(f ce).map fun a=>R.ok a ce
def kn{α:Type}:M α:=fun _=>none
def aJ{α β:Type}(G:Ga)(E:XK)(RP:Hp->List Addr->α->β->Prop)(F:Hp)(as:List Addr)(σ:VS.St)(sl:Sl)(Q:β->Hp->Prop):Option (R α)->Prop
 | some (.ok a ce')=>∀b H' F' as',Le F as F' as'->SR G F' as' H' σ sl ce'->RP F' as' a b->Q b H'
 | some (.ex x ce')=>∀H' F' as' cv od,Le F as F' as'->ax G F' as' H' ce'->G.xr x cv od F'->E cv od H'
 | none=>False
def toT{α β:Type}(G:Ga)(E:XK)(RP:Hp->List Addr->α->β->Prop)(d:Sl->M α):VS.St->Hp->(β->Hp->Prop)->Prop :=
 fun σ H Q=>∃F as sl ce,SR G F as H σ sl ce/\aJ G E RP F as σ sl Q (d sl ce)
def rB:Hp->List Addr->Bool->Bool->Prop:=fun _ _ a b=>a=b
abbrev av(G:Ga)(E:XK)(d:Sl->M W):TE:=toT G E Rep d
abbrev cg(G:Ga)(E:XK)(d:Sl->M Bool):TT:=toT G E rB d
abbrev fw(G:Ga)(E:XK)(d:Sl->M (List W)):TA:=toT G E ah d
variable {E:XK}
section
variable {α β γ δ:Type} {RP:Hp->List Addr->α->β->Prop} {RQ:Hp->List Addr->γ->δ->Prop} {σ:VS.St}
theorem aJ.le{Q:β->Hp->Prop}{r:Option (R α)}(l:Le F as F' as')(P:aJ G E RP F as σ sl Q r):aJ G E RP F' as' σ sl Q r:=by
 cases r with
 | none=>exact P
 | some r=>cases r with
  | ok a ce'=>exact fun b H' F2 as2 l2=>P b H' F2 as2 (l.trans l2)
  | ex x ce'=>exact fun H' F2 as2 cv od l2=>P H' F2 as2 cv od (l.trans l2)
theorem toT.mono{d:Sl->M α}{Q Q':β->Hp->Prop}(h:toT G E RP d σ H Q)(q:∀b H1,Q b H1->Q' b H1):toT G E RP d σ H Q':=by
 obtain⟨F,as,sl,ce,S,P⟩:=h;refine⟨F,as,sl,ce,S,?_⟩;revert P;cases d sl ce with
 | none=>exact fun P=>P
 | some r=>cases r with
  | ok a ce'=>exact fun P b H' F' as' l S' r=>q _ _ (P b H' F' as' l S' r)
  | ex x ce'=>exact fun P=>P
theorem step{d:Sl->M α}{f:α->M γ}{Q:δ->Hp->Prop}(S:SR G F as H σ sl ce)(P:aJ G E RQ F as σ sl Q (aw (d sl) f ce)) :
  toT G E RP d σ H fun b H2=>∃a F' as' ce',Le F as F' as'/\SR G F' as' H2 σ sl ce'/\RP F' as' a b/\aJ G E RQ F' as' σ sl Q (f a ce'):=by
 refine⟨F,as,sl,ce,S,?_⟩;revert P;unfold aw;cases d sl ce with
 | none=>exact fun P=>P
 | some r=>cases r with
  | ok a ce'=>exact fun P b H' F' as' l S' r=>⟨a,F',as',ce',l,S',r,P.le l⟩
  | ex x ce'=>exact fun P=>P
theorem jV{f:Ce->Option α}{Q:β->Hp->Prop}(P:aJ G E RP F as σ sl Q (look f ce)):∃a,f ce=some a/\aJ G E RP F as σ sl Q (some (.ok a ce)):=by
 revert P;unfold look;cases f ce with
 | none=>exact fun P=>P.elim
 | some a=>exact fun P=>⟨a,rfl,P⟩
theorem aJ.done{a:α}{b:β}{Q:β->Hp->Prop}(S:SR G F as H σ sl ce)(P:aJ G E RP F as σ sl Q (some (.ok a ce)))(r:RP F as a b):Q b H:=P b H F as .refl S r
end
variable {X:Cx} {e:Expr}
theorem PE.imp{t t':TE}(h:PE X e t)(q:∀σ H Q,t' σ H Q->t σ H Q):PE X e t':=fun pins s σ H Q I z=>h pins s σ H Q I (q _ _ _ z)
variable {t':TT}
theorem PT.imp{t:TT}(h:PT X e t)(q:∀σ H Q,t' σ H Q->t σ H Q):PT X e t':=fun pins s σ H Q I z=>h pins s σ H Q I (q _ _ _ z)
theorem PW.imp{t:TT}(h:PW X e t)(q:∀σ H Q,t' σ H Q->t σ H Q):PW X e t':=fun wh pins s σ H Q I z=>h wh pins s σ H Q I (q _ _ _ z)
theorem PA.imp{e:List Expr}{t t':TA}(h:PA X e t)(q:∀σ H Q,t' σ H Q->t σ H Q):PA X e t':=fun pos pins s σ H Q I z=>h pos pins s σ H Q I (q _ _ _ z)
theorem PS.imp{e:Stmt}{t t':TS}(h:PS X e t)(q:∀D σ H,t' D σ H->t D σ H):PS X e t':=fun pins s σ H Q I z=>h pins s σ H Q I (q _ _ _ z)
theorem PSs.imp{e:List Stmt}{t t':TS}(h:PSs X e t)(q:∀D σ H,t' D σ H->t D σ H):PSs X e t':=fun pins s σ H Q I z=>h pins s σ H Q I (q _ _ _ z)
def aa(i:Nat):Sl->M W:=fun sl ce=>match sl[i]? with
 | some (some w)=>some (.ok w ce)
 | _=>none
def dC(w:W):Sl->M W:=fun _=>ret w
def aH(f:W->W->Option W)(a b:Sl->M W):Sl->M W:=fun sl=>aw (a sl) fun x=>aw (b sl) fun y=>look fun _=>f x y
def c7(f:W->Option W)(a:Sl->M W):Sl->M W:=fun sl=>aw (a sl) fun x=>look fun _=>f x
def j4:W->Option V
 | .non=>some .non
 | .bl b=>some (.bl b)
 | .int i=>some (.int i)
 | .str x=>some (.str x)
 | .ty n=>some (.ty n)
 | _=>none
theorem Rep.sc{u:V}(r:Rep F as w v)(e:j4 w=some u):v=u:=by
 cases w<;>simp only[j4,Option.some.injEq,reduceCtorEq] at e<;>simp only[Rep] at r<;>(subst e;exact r)
theorem Rep.of_sc{u:V}(e:j4 w=some u):Rep F as w u:=by cases w<;>simp only[j4,Option.some.injEq,reduceCtorEq] at e<;>simp only[Rep]<;>exact e.symm
def mn(r:R2)(f:W->W->Option W):Prop:=∀x y w,f x y=some w->∃vx vy vw,j4 x=some vx/\j4 y=some vy/\j4 w=some vw/\∀H Q,Q vw H->r vx vy H Q
def i2(g:Int->Int->W):W->W->Option W
 | .int i,.int j=>some (g i j)
 | _,_=>none
open Classical in
def kK(c:Int->Int->Prop)(g:Int->Int->W):W->W->Option W
 | .int i,.int j=>if c i j then some (g i j) else none
 | _,_=>none
variable {g:Int->Int->W} {b:Expr} {da db dc d:Sl->M W} {pos:Pos} {f:W->W->Option W} {Q:VK} {op:CmpOp} {h:Int->Int->V}
section
variable {a c:Expr}
theorem af(i:Nat){x:Str}(hN:X.N[i]?=some x:=by rfl)(hv:mm X.env.scope x:=by first|exact Or.inl rfl|exact Or.inr (Or.inl rfl)|exact Or.inr (Or.inr rfl))(hd:(x==("__debug__" : Str))=false:=by decide)(hcd:(x==("__classdict__" : Str))=false:=by decide):PE X (.Name x pos) (av G E (aa i)):=by
 refine PE.imp (m6 hN hv hd hcd) fun σ H Q h=>?_;obtain⟨F,as,sl,ce,S,P⟩:=h;revert P;unfold aa;split
 ·rename_i w e;intro P;obtain⟨v,h1,h2⟩:=S.var e;exact⟨v,h1,P.done S h2⟩
 ·exact fun P=>P.elim
theorem mB(h:PE X e (tC v))(hs:j4 w=some v):PE X e (av G E (dC w)):=by refine PE.imp h fun σ H Q h=>?_;obtain⟨F,as,sl,ce,S,P⟩:=h;exact P.done S (Rep.of_sc hs)
theorem aB{i j pos}:PE X (.Constant (.int i) j pos) (av G E (dC (.int i))):=mB DA rfl
theorem f_{i j pos}:PE X (.Constant (.bool i) j pos) (av G E (dC (.bl i))):=mB CC rfl
theorem kr{j pos}:PE X (.Constant .none j pos) (av G E (dC .non)):=mB Dz rfl
theorem fh{x j pos}:PE X (.Constant (.str x) j pos) (av G E (dC (.str x))):=mB Dy rfl
theorem pU{r:R2}{f:W->W->M W}{σ:VS.St}(h:av G E (fun sl=>aw (da sl) fun x=>aw (db sl) fun y=>f x y) σ H Q)(k:∀F as sl ce H2 x y wx wy,SR G F as H2 σ sl ce->Rep F as wx x->Rep F as wy y->aJ G E Rep F as σ sl Q (f wx wy ce)->r x y H2 Q):mf r (av G E da) (av G E db) σ H Q:=by obtain⟨F,as,sl,ce,S,P⟩:=h;refine(step S P).mono fun x H1 zz_=>bf zz_ fun wx F1 as1 ce1 l1 S1 rx P1=>(step S1 P1).mono fun y H2 zz_=>bf zz_ fun wy F2 as2 ce2 l2 S2 ry P2=>?_;exact k F2 as2 sl ce2 H2 x y wx wy S2 (rx.le l2) ry P2
theorem oh{op:Operator}{r:R2}(ho:dM X (binaryOp op) r)(hf:mn r f)(ha:PE X a (av G E da))(hb:PE X b (av G E db)):PE X (.BinOp a op b pos) (av G E (aH f da db)):=by
 refine PE.imp (rT ho ha hb) fun σ H Q h=>pU h fun F as sl ce H2 x y wx wy S rx ry P=>?_;revert P;unfold look;cases e:f wx wy with
 | none=>exact fun P=>P.elim
 | some w =>
  intro P;obtain⟨vx,vy,vw,e1,e2,e3,k⟩:=hf _ _ _ e;rw[rx.sc e1,ry.sc e2];exact k _ _ (P.done S (Rep.of_sc e3))
theorem Ee{r:R2}(ho:dM X (compareOp op) r)(hf:mn r f)(ha:PE X a (av G E da))(hb:PE X b (av G E db))(hm:behindInMarks op b=false):PE X (.Compare a [op] [b] pos) (av G E (aH f da db)):=by
 refine PE.imp (xV ho ha hb hm) fun σ H Q h=>pU h fun F as sl ce H2 x y wx wy S rx ry P=>?_;revert P;unfold look;cases e:f wx wy with
 | none=>exact fun P=>P.elim
 | some w =>
  intro P;obtain⟨vx,vy,vw,e1,e2,e3,k⟩:=hf _ _ _ e;rw[rx.sc e1,ry.sc e2];exact k _ _ (P.done S (Rep.of_sc e3))
theorem k6(q:∀i j,j4 (g i j)=some (h i j)):mn (kI h) (i2 g):=by intro x y w e;cases x<;>cases y<;>simp only[i2,Option.some.injEq,reduceCtorEq] at e;subst e;exact⟨_,_,_,rfl,rfl,q _ _,fun H Q hq=>⟨_,_,rfl,rfl,hq⟩⟩
theorem sv{c:Int->Int->Prop}(q:∀i j,j4 (g i j)=some (h i j)):mn (rI c h) (kK c g):=by
 intro x y w e;cases x<;>cases y<;>simp only[kK,reduceCtorEq] at e;split at e
 ·rename_i hc;cases e;exact⟨_,_,_,rfl,rfl,q _ _,fun H Q hq=>⟨_,_,rfl,rfl,hc,hq⟩⟩
 ·cases e
def cI:W->W->Option W:=i2 fun i j=>.int (i+j)
def gU:W->W->Option W:=i2 fun i j=>.int (i-j)
def fG:W->W->Option W:=kK fq fun i j=>.int (i*j)
def bW:W->W->Option W:=kK (fun _ j=>0<j) fun i j=>.int (i % j)
def mz:W->W->Option W:=kK rE fun i j=>.int (i / j)
def ml:W->W->Option W:=i2 fun i j=>.bl (decide (i<j))
def kL:W->W->Option W:=i2 fun i j=>.bl (decide (i<=j))
def gw:W->W->Option W:=i2 fun i j=>.bl (decide (j<i))
def u7:W->W->Option W:=i2 fun i j=>.bl (decide (j<=i))
theorem fA(ha:PE X a (av G E da))(hb:PE X b (av G E db)):PE X (.BinOp a .Add b pos) (av G E (aH cI da db)):=oh DX (k6 fun _ _=>rfl) ha hb
theorem mY(ha:PE X a (av G E da))(hb:PE X b (av G E db)):PE X (.BinOp a .Sub b pos) (av G E (aH gU da db)):=oh DW (k6 fun _ _=>rfl) ha hb
theorem lL(ha:PE X a (av G E da))(hb:PE X b (av G E db)):PE X (.BinOp a .Mult b pos) (av G E (aH fG da db)):=oh DV (sv fun _ _=>rfl) ha hb
theorem eA(ha:PE X a (av G E da))(hb:PE X b (av G E db)):PE X (.BinOp a .Mod b pos) (av G E (aH bW da db)):=oh DU (sv fun _ _=>rfl) ha hb
theorem Ed(ha:PE X a (av G E da))(hb:PE X b (av G E db)):PE X (.BinOp a .FloorDiv b pos) (av G E (aH mz da db)):=oh Fm (sv fun _ _=>rfl) ha hb
theorem Bw(ha:PE X a (av G E da))(hb:PE X b (av G E db)):PE X (.Compare a [.Gt] [b] pos) (av G E (aH gw da db)):=Ee we (k6 fun _ _=>rfl) ha hb (iY _)
def jb:W->Option W
 | .int i=>some (.int (-i))
 | _=>none
theorem mX(ha:PE X a (av G E da)):PE X (.UnaryOp .USub a pos) (av G E (c7 jb da)):=by
 refine PE.imp (Co DT ha) fun σ H Q zz_=>bB zz_ fun F as sl ce S P=>(step S P).mono fun x H1 zz_=>bf zz_ fun wx F1 as1 ce1 l1 S1 rx P1=>?_;revert P1;unfold look jb;cases wx<;>first|exact fun P=>P.elim|skip
 simp only[Rep] at rx;subst rx;exact fun P=>⟨_,rfl,P.done S1 (by simp only[Rep])⟩
def bZ:W->Bool
 | .non=>true
 | _=>false
def ja:W->Option W:=fun w=>some (.bl (bZ w))
def fL:W->Option W:=fun w=>some (.bl (!bZ w))
theorem Rep.isN(r:Rep F as w v):decide (v=.non)=bZ w:=by
 cases w<;>simp only[Rep] at r<;>first|(subst r;rfl)|(obtain⟨_,_,rfl,_⟩:=r;rfl)|(obtain⟨_,rfl,_⟩:=r;rfl)
theorem Ec{j pos'}(ha:PE X a (av G E da)):PE X (.Compare a [.Is] [.Constant .none j pos'] pos) (av G E (c7 ja da)):=by refine PE.imp (Dx (xj ha)) fun σ H Q zz_=>bB zz_ fun F as sl ce S P=>(step S P).mono fun x H1 zz_=>bf zz_ fun wx F1 as1 ce1 l1 S1 rx P1=>?_;exact aJ.done S1 (a:=W.bl _) P1 (by simp only[Rep];rw[rx.isN])
def gB(ce:Ce):W->Option Bool
 | .non=>some false
 | .bl b=>some b
 | .int i=>some (i != 0)
 | .str x=>if x.length<=sizeLine then some ((x.length:Int) != 0) else none
 | .lst xs=>some (!xs.isEmpty)
 | .tup xs=>some (!xs.isEmpty)
 | .cel k=>match ce[k]? with
  | some (.lst xs)=>some (!xs.isEmpty)
  | some (.dct xs)=>some (!xs.isEmpty)
  | _=>none
 | _=>none
theorem ah.empty(r:ah F as ws vs):vs.isEmpty=ws.isEmpty:=by have:=r.length;cases ws<;>cases vs<;>simp_all
theorem Rd.sub{G:Ga}{F:Hp}{as:List Addr}{H:Hp}{ce:Ce}(S:ax G F as H ce){a:Addr}{o:HO}(r:Rd F a o):Rd H a o:=by
 rcases r with r|⟨u,r⟩
 ·exact .inl (S.sub _ _ r)
 ·exact .inr ⟨u,S.sub _ _ r⟩
theorem Ey{k:Bool}(S:ax G F as H ce)(r:Rep F as w v)(e:gB ce w=some k)(K:Frag):ph K v H k:=by
 cases w with
 | non=>simp only[Rep] at r;simp only[gB,Option.some.injEq] at e;subst r;exact e.symm
 | bl b=>simp only[Rep] at r;simp only[gB,Option.some.injEq] at e;subst r;exact e.symm
 | int i=>simp only[Rep] at r;simp only[gB,Option.some.injEq] at e;subst r;exact e.symm
 | str x =>
  simp only[Rep] at r;subst r;simp only[gB] at e;split at e
  ·rename_i h;exact⟨h,(Option.some.inj e).symm⟩
  ·cases e
 | ty n=>simp only[gB,reduceCtorEq] at e
 | lst xs =>
  simp only[Rep] at r;obtain⟨a,vs,rfl,h,rs⟩:=r;simp only[gB,Option.some.injEq] at e;exact .inl ⟨vs,.inl (Rd.sub S h),by rw[<- e,rs.empty]⟩
 | tup xs =>
  simp only[Rep] at r;obtain⟨a,vs,rfl,h,rs⟩:=r;simp only[gB,Option.some.injEq] at e;exact .inr (.inl ⟨vs,.inl (.inl (S.sub _ _ h)),by rw[<- e,rs.empty]⟩)
 | cel n =>
  simp only[Rep] at r;obtain⟨a,rfl,h⟩:=r;simp only[gB] at e;split at e
  ·rename_i xs hc;obtain⟨_,vs,h2,rs⟩:=S.cell _ _ _ h hc;exact .inl ⟨vs,.inl (.inl h2),by rw[<- Option.some.inj e,rs.empty]⟩
  ·rename_i xs hc;obtain⟨_,vs,h2,rs⟩:=S.cell _ _ _ h hc;refine .inr (.inr ⟨vs,h2,?_⟩);rw[<- Option.some.inj e];cases rs<;>rfl
  ·cases e
def i_(d:Sl->M W):Sl->M Bool:=fun sl=>aw (d sl) fun w=>look fun ce=>gB ce w
theorem pT(ha:PE X a (av G E da))(he:∀whole,isTrue a X.env whole=(do let v <- whole;standAt a.pos;holding [v] (truthy v)):=by intro _;rfl):PT X a (cg G E (i_ da)):=by refine PT.imp (BC (K:=X.K) ha he) fun σ H Q zz_=>bB zz_ fun F as sl ce S P=>(step S P).mono fun x H1 zz_=>bf zz_ fun wx F1 as1 ce1 l1 S1 rx P1=>?_;obtain⟨k,e,P⟩:=jV P1;exact⟨k,Ey S1.st rx e _,aJ.done (RP:=rB) S1 P rfl⟩
def dB(d:Sl->M W):Sl->M Bool:=fun sl=>aw (d sl) fun w=>look fun _=>match w with|.bl b=>some b|_=>none
theorem rP{t:TE}{σ:VS.St}{Q:Bool->Hp->Prop}(h:cg G E (dB d) σ H Q):tB (av G E d) σ H Q:=by
 obtain⟨F,as,sl,ce,S,P⟩:=h;refine(step S P).mono fun x H1 zz_=>bf zz_ fun wx F1 as1 ce1 l1 S1 rx P1=>?_;revert P1;unfold look;cases wx<;>first|exact fun P=>P.elim|skip
 simp only[Rep] at rx;subst rx;exact fun P=>⟨_,rfl,P.done S1 rfl⟩
theorem g8(h:PE X e (av G E d))(he:∀whole,isTrue e X.env whole=(do let v <- whole;standAt e.pos;holding [v] (truthy v)):=by intro _;rfl):PT X e (cg G E (dB d)) :=
 PT.imp (Dv h he) fun σ H Q q=>rP (t:=av G E d) q
theorem km{r:R2}(ho:dM X (compareOp op) r)(ha:PE X a (av G E da))(hb:PE X b (av G E db))(hm:behindInMarks op b=false)(q:∀σ H Q,av G E d σ H Q->mf r (av G E da) (av G E db) σ H Q):PT X (.Compare a [op] [b] pos) (cg G E (dB d)):=by refine PT.imp (Fj ho ha hb hm) fun σ H Q h=>?_;exact q σ H _ (rP (t:=av G E d) h)
theorem rN(h:∃t,PC X op a b t/\∀σ H Q,av G E d σ H Q->t σ H Q)(h1:behindInMarks op b=false):PT X (.Compare a [op] [b] pos) (cg G E (dB d)):=by obtain⟨t,h,q⟩:=h;exact PT.imp (Dw h h1) fun σ H Q z=>q _ _ _ (rP (t:=av G E d) z)
end
mutual
def aN:W->W->Bool
 | .non,y=>match y with|.non=>true|_=>false
 | .bl a,y=>match y with|.bl b=>a==b|.int b=>(if a then 1 else 0)==b|_=>false
 | .int a,y=>match y with|.int b=>a==b|.bl b=>a==(if b then 1 else 0)|_=>false
 | .str a,y=>match y with|.str b=>a==b|_=>false
 | .lst xs,y=>match y with|.lst ys=>bI xs ys|_=>false
 | .tup xs,y=>match y with|.tup ys=>bI xs ys|_=>false
 | .ty _,_=>false
 | .cel _,_=>false
def bI:List W->List W->Bool
 | [],ys=>match ys with|[]=>true|_=>false
 | x::xs,ys=>match ys with|y::ys=>aN x y&&bI xs ys|[]=>false
end
def bh:Nat->W->Bool
 | _,.non=>true
 | _,.bl _=>true
 | _,.int _=>true
 | _,.str _=>true
 | _,.ty _=>false
 | _,.cel _=>false
 | 0,.lst _=>false
 | 0,.tup _=>false
 | n+1,.lst xs=>xs.all (bh n)
 | n+1,.tup xs=>xs.all (bh n)
variable {us:List V}
theorem Iv(h:Rd F a (.lst vs))(h':Rd F a (.lst us)):vs=us:=by
 rcases h with h|⟨o,h⟩<;>rcases h' with h'|⟨o',h'⟩<;>(first|(rw[h] at h';cases h';rfl)|(rw[h] at h';cases h'))
theorem Iu(h:Rd F a (.tup vs))(h':Rd F a (.tup us)):vs=us:=by
 rcases h with h|⟨o,h⟩<;>rcases h' with h'|⟨o',h'⟩<;>(first|(rw[h] at h';cases h';rfl)|(rw[h] at h';cases h'))
theorem yS(h:Rd F a (.lst vs))(h':Rd F a (.tup us)):False:=by
 rcases h with h|⟨o,h⟩<;>rcases h' with h'|⟨o',h'⟩<;>(rw[h] at h';cases h')
theorem yc:∀(n:Nat) {w w':W} {v:V},bh n w=true->bh n w'=true->Rep F as w v->Rep F as w' v->w=w':=by
 intro n
 induction n with
 | zero =>
  intro w w' v c c' r r';cases w<;>cases w'<;>simp only[bh,reduceCtorEq] at c c'<;>simp only[Rep] at r r'<;>(subst r;cases r')<;>rfl
 | succ n ih =>
  have its:∀{ws ws':List W} {vs:List V},ws.all (bh n)=true->ws'.all (bh n)=true->ah F as ws vs->ah F as ws' vs->ws=ws':=by
   intro ws
   induction ws with
   | nil =>
    intro ws' vs _ _ r r';simp only[ah] at r;subst r;cases ws' with
    | nil=>rfl
    | cons y ys=>simp only[ah] at r';obtain⟨v,r,e,_⟩:=r';cases e
   | cons x xs ihx =>
    intro ws' vs c c' r r';simp only[ah] at r;obtain⟨v,vs',rfl,h1,h2⟩:=r;cases ws' with
    | nil=>simp only[ah] at r';cases r'
    | cons y ys =>
     simp only[ah] at r';obtain⟨v',r',e,h3,h4⟩:=r';cases e;simp only[all_cons,and_eq_true] at c c';rw[ih c.1 c'.1 h1 h3,ihx c.2 c'.2 h2 h4]
  intro w w' v c c' r r';cases w<;>cases w'<;>simp only[bh,reduceCtorEq] at c c'<;>simp only[Rep] at r r'<;>first
   | (subst r;cases r';rfl)
   | (subst r;cases r';done)
   | (subst r;obtain⟨_,_,e,_⟩:=r';cases e)
   | (subst r';obtain⟨_,_,e,_⟩:=r;cases e)
   | (obtain⟨a,vs,rfl,q,s⟩:=r
      obtain⟨b,us,e,q',s'⟩:=r';cases e
      first
       | exact(yS q (.inl q')).elim
       | exact(yS q' (.inl q)).elim
       | (cases Iv q q';rw[its c c' s s'])
       | (cases Iu (.inl q) (.inl q');rw[its c c' s s']))
theorem yR:∀(n:Nat) {w:W},bh n w=true->aN w w=true:=by
 intro n
 induction n with
 | zero=>intro w c;cases w<;>simp_all[bh,aN]
 | succ n ih =>
  have its:∀{ws:List W},ws.all (bh n)=true->bI ws ws=true:=by
   intro ws
   induction ws with
   | nil=>intro _;simp[bI]
   | cons x xs ihx =>
    intro c;simp only[all_cons,and_eq_true] at c;simp only[bI,ih c.1,ihx c.2,Bool.and_self]
  intro w c;cases w<;>simp only[bh,reduceCtorEq] at c<;>first|(simp only[aN];exact its c)|simp[aN]
theorem tY:∀(xs ys:List W),xs.length=ys.length->bI xs ys=(List.range xs.length).all fun j=>match xs[j]?,ys[j]? with|some a,some b=>aN a b|_,_=>false
 | [],[],_=>by simp[bI]
 | x::xs,y::ys,h=>by
  have e:xs.length=ys.length:=by simpa using h
  simp only[bI];rw[tY xs ys e,length_cons,range_succ_eq_map,all_cons,all_map];rfl
 | [],_::_,h=>by simp at h
 | _::_,[],h=>by simp at h
theorem yQ:∀{xs ys:List W},bI xs ys=true->xs.length=ys.length
 | [],[],_=>rfl
 | x::xs,y::ys,h=>by
  simp only[bI,and_eq_true] at h;simp only[length_cons,yQ h.2]
 | [],_::_,h=>by simp[bI] at h
 | _::_,[],h=>by simp[bI] at h
variable {xs ys:List W}
theorem yb(h:xs.length≠ys.length):bI xs ys=false:=by
 cases e:bI xs ys with
 | false=>rfl
 | true=>exact absurd (yQ e) h
variable {pins:List (Addr×Obj)} {s:Shared} {A:Around} {zs:List W} {n:Nat}
section
variable {σ:VS.St}
theorem yn{ps qs:List Value}(it:∀{w z:W} {v u:V} {p q:Value},w∈ws->z∈zs->Rep F as w v->Rep F as z u->L2.RelV v p->L2.RelV u q->SeqAt.EqAt A s p q (aN w z))(h1:ah F as ws vs)(h2:ah F as zs us)(r1:Vals vs ps)(r2:Vals us qs) :
  ∀j (k1:j<ps.toArray.size) (k2:j<qs.toArray.size),SeqAt.EqAt A s ps.toArray[j] qs.toArray[j] (match ws[j]?,zs[j]? with|some a,some b=>aN a b|_,_=>false):=by
 intro j k1 k2;have k1':j<ps.length:=by simpa using k1
 have k2':j<qs.length:=by simpa using k2
 have l1:=r1.length;have l2:=r2.length;have e1:vs[j]?=some (vs[j]'(by omega)):=by simp
 have e2:us[j]?=some (us[j]'(by omega)):=by simp
 obtain⟨u,hu1,ru⟩:=r1.get e1;obtain⟨z,hz1,rz⟩:=r2.get e2;obtain⟨a,ha,ra⟩:=h1.get' e1;obtain⟨b,hb,rb⟩:=h2.get' e2;have eu:ps.toArray[j]=u:=by
  have:ps[j]?=some ps[j]:=by simp
  rw[hu1] at this;simpa using (Option.some.inj this).symm
 have ez:qs.toArray[j]=z:=by
  have:qs[j]?=some qs[j]:=by simp
  rw[hz1] at this;simpa using (Option.some.inj this).symm
 rw[eu,ez,ha,hb];exact it (mem_of_getElem? ha) (mem_of_getElem? hb) ra rb ru rz
theorem Hs{b:Addr}(I:Inv X pins σ H s)(hu:A.units<cLine)(ha:cY X.K H a vs)(hb:cY X.K H b us)(h1:ah F as ws vs)(h2:ah F as zs us)(it:∀{w z:W} {v u:V} {p q:Value},w∈ws->z∈zs->Rep F as w v->Rep F as z u->L2.RelV v p->L2.RelV u q->SeqAt.EqAt A.in1 s p q (aN w z)) :
  SeqAt.RcAt A s (.ref a) (.ref b) (bI ws zs)/\SeqAt.RcNeAt A s (.ref a) (.ref b) (!bI ws zs):=by
 obtain⟨ps,r1,p1,z1⟩:=I.list ha;obtain⟨qs,r2,p2,z2⟩:=I.list hb;have l1:=r1.length;have l2:=r2.length;have l3:=h1.length;have l4:=h2.length
 by_cases hl:ws.length=zs.length
 ·have hsz:ps.toArray.size=qs.toArray.size:=by rw[size_toArray,size_toArray];omega
  have ia:=yn (A:=A.in1) it h1 h2 r1 r2;have a1:=SeqAt.RcAt.lists p1.isList p2.isList hsz hu ia;have a2:=SeqAt.RcNeAt.lists p1.isList p2.isList hsz hu ia;rw[size_toArray,show ps.length=ws.length by omega,<- tY ws zs hl] at a1 a2;exact⟨a1,a2⟩
 ·have hne:(ps.toArray.size != qs.toArray.size)=true:=by rw[size_toArray,size_toArray];simp;omega
  rw[yb hl];exact⟨SeqAt.RcAt.lists_lengths p1.isList p2.isList hne hu,SeqAt.RcNeAt.lists_lengths p1.isList p2.isList hne hu⟩
theorem Ex{b:Addr}(I:Inv X pins σ H s)(hu:A.units<cLine)(ha:eY X.K H a vs)(hb:eY X.K H b us)(h1:ah F as ws vs)(h2:ah F as zs us)(it:∀{w z:W} {v u:V} {p q:Value},w∈ws->z∈zs->Rep F as w v->Rep F as z u->L2.RelV v p->L2.RelV u q->SeqAt.EqAt A.in1 s p q (aN w z)) :
  SeqAt.RcAt A s (.ref a) (.ref b) (bI ws zs)/\SeqAt.RcNeAt A s (.ref a) (.ref b) (!bI ws zs):=by
 obtain⟨ps,r1,p1,z1⟩:=I.tuple ha;obtain⟨qs,r2,p2,z2⟩:=I.tuple hb;have l1:=r1.length;have l2:=r2.length;have l3:=h1.length;have l4:=h2.length;have ia:=yn (A:=A.in1) it h1 h2 r1 r2;have e:((List.range (min ps.toArray.size qs.toArray.size)).all (fun j=>match ws[j]?,zs[j]? with|some a,some b=>aN a b|_,_=>false)&&ps.toArray.size==qs.toArray.size)=bI ws zs:=by
  rw[size_toArray,size_toArray]
  by_cases hl:ws.length=zs.length
  ·have h1:ps.length=ws.length:=by omega
   have h2:qs.length=ws.length:=by omega
   rw[h1,h2,min_self,tY ws zs hl];simp
  ·have e1:(ps.length==qs.length)=false:=by simp;omega
   rw[e1,Bool.and_false,yb hl]
 have a1:=SeqAt.RcAt.tuples p1 p2 hu ia;have a2:=SeqAt.RcNeAt.tuples p1 p2 hu ia;rw[e] at a1 a2;exact⟨a1,a2⟩
inductive Sh (F:Hp) (as:List Addr):W->V->Value->Prop where
 | non:Sh F as .non .non .none
 | bl (b:Bool):Sh F as (.bl b) (.bl b) (.bool b)
 | int (i:Int) (t:Tok):Sh F as (.int i) (.int i) (.int i t)
 | str (x:Str) (t:Tok):Sh F as (.str x) (.str x) (.str x t)
 | lst {xs:List W} {a:Addr} {vs:List V} (h:Rd F a (.lst vs)) (r:ah F as xs vs):Sh F as (.lst xs) (.ref a) (.ref a)
 | tup {xs:List W} {a:Addr} {vs:List V} (h:Rd F a (.tup vs)) (r:ah F as xs vs):Sh F as (.tup xs) (.ref a) (.ref a)
theorem pJ{p:Value}(c:bh n w=true)(r:Rep F as w v)(rv:L2.RelV v p):Sh F as w v p:=by
 cases w with
 | non=>simp only[Rep] at r;subst r;cases rv;exact .non
 | bl b=>simp only[Rep] at r;subst r;cases rv;exact .bl b
 | int i=>simp only[Rep] at r;subst r;obtain⟨t,rfl⟩:=rv;exact .int i t
 | str i=>simp only[Rep] at r;subst r;obtain⟨t,rfl⟩:=rv;exact .str i t
 | ty i=>cases n<;>simp only[bh,reduceCtorEq] at c
 | cel i=>cases n<;>simp only[bh,reduceCtorEq] at c
 | lst xs=>simp only[Rep] at r;obtain⟨a,vs,rfl,h,q⟩:=r;cases rv;exact .lst h q
 | tup xs=>simp only[Rep] at r;obtain⟨a,vs,rfl,h,q⟩:=r;cases rv;exact .tup (.inl h) q
theorem qY(hs:∀a o,F a=some o->H a=some o)(I:Inv X pins σ H s):∀(n:Nat) {A:Around} {w z:W} {v u:V} {p q:Value},A.units+n<cLine->bh n w=true->bh n z=true->Rep F as w v->Rep F as z u->L2.RelV v p->L2.RelV u q ->
  SeqAt.RcAt A s p q (aN w z)/\SeqAt.RcNeAt A s p q (!aN w z)/\SeqAt.EqAt A s p q (aN w z):=by
 have sub:∀{a:Addr} {o:HO},Rd F a o->Rd H a o:=fun {a o} r=>by
  rcases r with r|⟨u,r⟩
  ·exact .inl (hs _ _ r)
  ·exact .inr ⟨u,hs _ _ r⟩
 have isL:∀{a:Addr} {vs:List V},Rd F a (.lst vs)->∃its,s.heap.IsList a its:=fun {a vs} h=>by
  obtain⟨its,_,p,_⟩:=I.list (.inl (sub h));exact⟨_,p.isList⟩
 have isT:∀{a:Addr} {vs:List V},Rd F a (.tup vs)->∃its,s.heap.IsTuple a its:=fun {a vs} h=>by
  obtain⟨its,_,p,_⟩:=I.tuple (.inl (sub h));exact⟨_,p⟩
 intro n
 induction n with
 | zero =>
  intro A w z v u p q hu c c' r r' rv ru;have sh:=pJ c r rv;have sh':=pJ c' r' ru;cases sh with
  | non =>
   cases sh' with
   | non =>
    simp only[aN];exact⟨SeqAt.RcAt.none_none ,SeqAt.RcNeAt.none_none ,SeqAt.EqAt.same _⟩
   | bl b2 =>
    simp only[aN];exact⟨SeqAt.RcAt.none_bool _,SeqAt.RcNeAt.none_bool _,SeqAt.EqAt.none_bool _⟩
   | int i2 t2 =>
    simp only[aN];exact⟨SeqAt.RcAt.none_int _ _,SeqAt.RcNeAt.none_int _ _,SeqAt.EqAt.none_int _ _⟩
   | str x2 t2 =>
    simp only[aN];exact⟨SeqAt.RcAt.none_str _ _,SeqAt.RcNeAt.none_str _ _,SeqAt.EqAt.none_str _ _⟩
   | lst q2 s2 =>
    simp only[bh,reduceCtorEq] at c'
   | tup q2 s2 =>
    simp only[bh,reduceCtorEq] at c'
  | bl b =>
   cases sh' with
   | non =>
    simp only[aN];exact⟨SeqAt.RcAt.bool_none _,SeqAt.RcNeAt.bool_none _,SeqAt.EqAt.bool_none _⟩
   | bl b2 =>
    simp only[aN];exact⟨SeqAt.RcAt.bool_bool _ _,SeqAt.RcNeAt.bool_bool _ _,SeqAt.EqAt.bool_bool _ _⟩
   | int i2 t2 =>
    simp only[aN];exact⟨SeqAt.RcAt.bool_int _ _ _,SeqAt.RcNeAt.bool_int _ _ _,SeqAt.EqAt.bool_int _ _ _⟩
   | str x2 t2 =>
    simp only[aN];exact⟨SeqAt.RcAt.bool_str _ _ _,SeqAt.RcNeAt.bool_str _ _ _,SeqAt.EqAt.bool_str _ _ _⟩
   | lst q2 s2 =>
    simp only[bh,reduceCtorEq] at c'
   | tup q2 s2 =>
    simp only[bh,reduceCtorEq] at c'
  | int i t =>
   cases sh' with
   | non =>
    simp only[aN];exact⟨SeqAt.RcAt.int_none _ _,SeqAt.RcNeAt.int_none _ _,SeqAt.EqAt.int_none _ _⟩
   | bl b2 =>
    simp only[aN];exact⟨SeqAt.RcAt.int_bool _ _ _,SeqAt.RcNeAt.int_bool _ _ _,SeqAt.EqAt.int_bool _ _ _⟩
   | int i2 t2 =>
    simp only[aN];exact⟨SeqAt.RcAt.int_int _ _ _ _,SeqAt.RcNeAt.int_int _ _ _ _,SeqAt.EqAt.int_int _ _ _ _⟩
   | str x2 t2 =>
    simp only[aN];exact⟨SeqAt.RcAt.int_str _ _ _ _,SeqAt.RcNeAt.int_str _ _ _ _,SeqAt.EqAt.int_str _ _ _ _⟩
   | lst q2 s2 =>
    simp only[bh,reduceCtorEq] at c'
   | tup q2 s2 =>
    simp only[bh,reduceCtorEq] at c'
  | str x t =>
   cases sh' with
   | non =>
    simp only[aN];exact⟨SeqAt.RcAt.str_none _ _,SeqAt.RcNeAt.str_none _ _,SeqAt.EqAt.str_none _ _⟩
   | bl b2 =>
    simp only[aN];exact⟨SeqAt.RcAt.str_bool _ _ _,SeqAt.RcNeAt.str_bool _ _ _,SeqAt.EqAt.str_bool _ _ _⟩
   | int i2 t2 =>
    simp only[aN];exact⟨SeqAt.RcAt.str_int _ _ _ _,SeqAt.RcNeAt.str_int _ _ _ _,SeqAt.EqAt.str_int _ _ _ _⟩
   | str x2 t2 =>
    simp only[aN];exact⟨SeqAt.RcAt.str_str _ _ _ _,SeqAt.RcNeAt.str_str _ _ _ _,SeqAt.EqAt.str_str _ _ _ _⟩
   | lst q2 s2 =>
    simp only[bh,reduceCtorEq] at c'
   | tup q2 s2 =>
    simp only[bh,reduceCtorEq] at c'
  | lst q1 s1 =>
   simp only[bh,reduceCtorEq] at c
  | tup q1 s1 =>
   simp only[bh,reduceCtorEq] at c
 | succ n ih =>
  intro A w z v u p q hu c c' r r' rv ru;have hu0:A.units<cLine:=by omega
  have hu1:A.in1.units+n<cLine:=by show A.units+1+n<cLine;omega
  have ref:∀{a b:Addr},v=.ref a->u=.ref b->(SeqAt.RcAt A s (.ref a) (.ref b) (aN w z)/\SeqAt.RcNeAt A s (.ref a) (.ref b) (!aN w z))->SeqAt.RcAt A s (.ref a) (.ref b) (aN w z)/\SeqAt.RcNeAt A s (.ref a) (.ref b) (!aN w z)/\SeqAt.EqAt A s (.ref a) (.ref b) (aN w z):=by
   intro a b e1 e2 ⟨h1,h2⟩;subst e1 e2;refine⟨h1,h2,?_⟩
   by_cases e:a=b
   ·subst e;rw[yc (n+1) c c' r r',yR (n+1) c'];exact SeqAt.EqAt.same _
   ·exact SeqAt.EqAt.of_refs e h1
  have sh:=pJ c r rv;have sh':=pJ c' r' ru;cases sh with
  | non =>
   cases sh' with
   | non =>
    simp only[aN];exact⟨SeqAt.RcAt.none_none ,SeqAt.RcNeAt.none_none ,SeqAt.EqAt.same _⟩
   | bl b2 =>
    simp only[aN];exact⟨SeqAt.RcAt.none_bool _,SeqAt.RcNeAt.none_bool _,SeqAt.EqAt.none_bool _⟩
   | int i2 t2 =>
    simp only[aN];exact⟨SeqAt.RcAt.none_int _ _,SeqAt.RcNeAt.none_int _ _,SeqAt.EqAt.none_int _ _⟩
   | str x2 t2 =>
    simp only[aN];exact⟨SeqAt.RcAt.none_str _ _,SeqAt.RcNeAt.none_str _ _,SeqAt.EqAt.none_str _ _⟩
   | lst q2 s2 =>
    obtain⟨_,p1⟩:=isL q2;simp only[aN];exact⟨SeqAt.RcAt.none_list p1 hu0,SeqAt.RcNeAt.none_list p1 hu0,SeqAt.EqAt.none_list p1 hu0⟩
   | tup q2 s2 =>
    obtain⟨_,p1⟩:=isT q2;simp only[aN];exact⟨SeqAt.RcAt.none_tuple p1 hu0,SeqAt.RcNeAt.none_tuple p1 hu0,SeqAt.EqAt.none_tuple p1 hu0⟩
  | bl b =>
   cases sh' with
   | non =>
    simp only[aN];exact⟨SeqAt.RcAt.bool_none _,SeqAt.RcNeAt.bool_none _,SeqAt.EqAt.bool_none _⟩
   | bl b2 =>
    simp only[aN];exact⟨SeqAt.RcAt.bool_bool _ _,SeqAt.RcNeAt.bool_bool _ _,SeqAt.EqAt.bool_bool _ _⟩
   | int i2 t2 =>
    simp only[aN];exact⟨SeqAt.RcAt.bool_int _ _ _,SeqAt.RcNeAt.bool_int _ _ _,SeqAt.EqAt.bool_int _ _ _⟩
   | str x2 t2 =>
    simp only[aN];exact⟨SeqAt.RcAt.bool_str _ _ _,SeqAt.RcNeAt.bool_str _ _ _,SeqAt.EqAt.bool_str _ _ _⟩
   | lst q2 s2 =>
    obtain⟨_,p1⟩:=isL q2;simp only[aN];exact⟨SeqAt.RcAt.bool_list _ p1 hu0,SeqAt.RcNeAt.bool_list _ p1 hu0,SeqAt.EqAt.bool_list _ p1 hu0⟩
   | tup q2 s2 =>
    obtain⟨_,p1⟩:=isT q2;simp only[aN];exact⟨SeqAt.RcAt.bool_tuple _ p1 hu0,SeqAt.RcNeAt.bool_tuple _ p1 hu0,SeqAt.EqAt.bool_tuple _ p1 hu0⟩
  | int i t =>
   cases sh' with
   | non =>
    simp only[aN];exact⟨SeqAt.RcAt.int_none _ _,SeqAt.RcNeAt.int_none _ _,SeqAt.EqAt.int_none _ _⟩
   | bl b2 =>
    simp only[aN];exact⟨SeqAt.RcAt.int_bool _ _ _,SeqAt.RcNeAt.int_bool _ _ _,SeqAt.EqAt.int_bool _ _ _⟩
   | int i2 t2 =>
    simp only[aN];exact⟨SeqAt.RcAt.int_int _ _ _ _,SeqAt.RcNeAt.int_int _ _ _ _,SeqAt.EqAt.int_int _ _ _ _⟩
   | str x2 t2 =>
    simp only[aN];exact⟨SeqAt.RcAt.int_str _ _ _ _,SeqAt.RcNeAt.int_str _ _ _ _,SeqAt.EqAt.int_str _ _ _ _⟩
   | lst q2 s2 =>
    obtain⟨_,p1⟩:=isL q2;simp only[aN];exact⟨SeqAt.RcAt.int_list _ _ p1 hu0,SeqAt.RcNeAt.int_list _ _ p1 hu0,SeqAt.EqAt.int_list _ _ p1 hu0⟩
   | tup q2 s2 =>
    obtain⟨_,p1⟩:=isT q2;simp only[aN];exact⟨SeqAt.RcAt.int_tuple _ _ p1 hu0,SeqAt.RcNeAt.int_tuple _ _ p1 hu0,SeqAt.EqAt.int_tuple _ _ p1 hu0⟩
  | str x t =>
   cases sh' with
   | non =>
    simp only[aN];exact⟨SeqAt.RcAt.str_none _ _,SeqAt.RcNeAt.str_none _ _,SeqAt.EqAt.str_none _ _⟩
   | bl b2 =>
    simp only[aN];exact⟨SeqAt.RcAt.str_bool _ _ _,SeqAt.RcNeAt.str_bool _ _ _,SeqAt.EqAt.str_bool _ _ _⟩
   | int i2 t2 =>
    simp only[aN];exact⟨SeqAt.RcAt.str_int _ _ _ _,SeqAt.RcNeAt.str_int _ _ _ _,SeqAt.EqAt.str_int _ _ _ _⟩
   | str x2 t2 =>
    simp only[aN];exact⟨SeqAt.RcAt.str_str _ _ _ _,SeqAt.RcNeAt.str_str _ _ _ _,SeqAt.EqAt.str_str _ _ _ _⟩
   | lst q2 s2 =>
    obtain⟨_,p1⟩:=isL q2;simp only[aN];exact⟨SeqAt.RcAt.str_list _ _ p1 hu0,SeqAt.RcNeAt.str_list _ _ p1 hu0,SeqAt.EqAt.str_list _ _ p1 hu0⟩
   | tup q2 s2 =>
    obtain⟨_,p1⟩:=isT q2;simp only[aN];exact⟨SeqAt.RcAt.str_tuple _ _ p1 hu0,SeqAt.RcNeAt.str_tuple _ _ p1 hu0,SeqAt.EqAt.str_tuple _ _ p1 hu0⟩
  | lst q1 s1 =>
   cases sh' with
   | non =>
    obtain⟨_,p1⟩:=isL q1;simp only[aN];exact⟨SeqAt.RcAt.list_none p1 hu0,SeqAt.RcNeAt.list_none p1 hu0,SeqAt.EqAt.list_none p1 hu0⟩
   | bl b2 =>
    obtain⟨_,p1⟩:=isL q1;simp only[aN];exact⟨SeqAt.RcAt.list_bool _ p1 hu0,SeqAt.RcNeAt.list_bool _ p1 hu0,SeqAt.EqAt.list_bool _ p1 hu0⟩
   | int i2 t2 =>
    obtain⟨_,p1⟩:=isL q1;simp only[aN];exact⟨SeqAt.RcAt.list_int _ _ p1 hu0,SeqAt.RcNeAt.list_int _ _ p1 hu0,SeqAt.EqAt.list_int _ _ p1 hu0⟩
   | str x2 t2 =>
    obtain⟨_,p1⟩:=isL q1;simp only[aN];exact⟨SeqAt.RcAt.list_str _ _ p1 hu0,SeqAt.RcNeAt.list_str _ _ p1 hu0,SeqAt.EqAt.list_str _ _ p1 hu0⟩
   | lst q2 s2 =>
    refine ref rfl rfl ?_;simp only[aN];simp only[bh] at c c';exact Hs I hu0 (.inl (sub q1)) (.inl (sub q2)) s1 s2 fun {w z v u p q} m m' r r' rv ru=>(ih hu1 (all_eq_true.mp c _ m) (all_eq_true.mp c' _ m') r r' rv ru).2.2
   | tup q2 s2 =>
    refine ref rfl rfl ?_;simp only[aN];obtain⟨_,p1⟩:=isL q1;obtain⟨_,p2⟩:=isT q2;exact⟨SeqAt.RcAt.list_tuple p1 p2 hu0,SeqAt.RcNeAt.list_tuple p1 p2 hu0⟩
  | tup q1 s1 =>
   cases sh' with
   | non =>
    obtain⟨_,p1⟩:=isT q1;simp only[aN];exact⟨SeqAt.RcAt.tuple_none p1 hu0,SeqAt.RcNeAt.tuple_none p1 hu0,SeqAt.EqAt.tuple_none p1 hu0⟩
   | bl b2 =>
    obtain⟨_,p1⟩:=isT q1;simp only[aN];exact⟨SeqAt.RcAt.tuple_bool _ p1 hu0,SeqAt.RcNeAt.tuple_bool _ p1 hu0,SeqAt.EqAt.tuple_bool _ p1 hu0⟩
   | int i2 t2 =>
    obtain⟨_,p1⟩:=isT q1;simp only[aN];exact⟨SeqAt.RcAt.tuple_int _ _ p1 hu0,SeqAt.RcNeAt.tuple_int _ _ p1 hu0,SeqAt.EqAt.tuple_int _ _ p1 hu0⟩
   | str x2 t2 =>
    obtain⟨_,p1⟩:=isT q1;simp only[aN];exact⟨SeqAt.RcAt.tuple_str _ _ p1 hu0,SeqAt.RcNeAt.tuple_str _ _ p1 hu0,SeqAt.EqAt.tuple_str _ _ p1 hu0⟩
   | lst q2 s2 =>
    refine ref rfl rfl ?_;simp only[aN];obtain⟨_,p1⟩:=isT q1;obtain⟨_,p2⟩:=isL q2;exact⟨SeqAt.RcAt.tuple_list p1 p2 hu0,SeqAt.RcNeAt.tuple_list p1 p2 hu0⟩
   | tup q2 s2 =>
    refine ref rfl rfl ?_;simp only[aN];simp only[bh] at c c';exact Ex I hu0 (.inl (sub q1)) (.inl (sub q2)) s1 s2 fun {w z v u p q} m m' r r' rv ru=>(ih hu1 (all_eq_true.mp c _ m) (all_eq_true.mp c' _ m') r r' rv ru).2.2
end
def drf(ce:Ce):W->W
 | .cel k=>match ce[k]? with
  | some (.lst xs)=>.lst xs
  | _=>.cel k
 | w=>w
def bU(ce:Ce):W->Option (List W)
 | .lst xs=>some xs
 | .cel k=>match ce[k]? with
  | some (.lst xs)=>some xs
  | _=>none
 | _=>none
def dj(ce:Ce):W->Option (List W)
 | .tup xs=>some xs
 | w=>bU ce w
def my(ce:Ce):W->Option (List (Key×W))
 | .cel k=>match ce[k]? with
  | some (.dct xs)=>some xs
  | _=>none
 | _=>none
def jI(ce:Ce):W->Option (List (Key×W))
 | .cel k=>match ce[k]? with
  | some (.dct xs)=>some xs
  | some (.fzd xs)=>some xs
  | _=>none
 | _=>none
def iO:W->Option Key
 | .int i=>some (.inl i)
 | .str x=>some (.inr x)
 | _=>none
theorem ax.toH(S:ax G F as H ce):Le F as H as:=⟨S.sub,fun _ _ h=>h⟩
theorem s_(S:ax G F as H ce)(r:Rep F as w v):Rep H as (drf ce w) v:=by
 cases w with
 | cel k =>
  simp only[drf];split
  ·rename_i xs hc;simp only[Rep] at r ⊢;obtain⟨a,rfl,h⟩:=r;obtain⟨_,vs,h2,rs⟩:=S.cell _ _ _ h hc;exact⟨a,vs,rfl,.inl h2,rs.le S.toH⟩
  ·exact r.le S.toH
 | _=>exact r.le S.toH
theorem iG(S:ax G F as H ce)(r:Rep F as w v)(e:bU ce w=some xs):∃a vs,v=.ref a/\Rd H a (.lst vs)/\ah F as xs vs:=by
 cases w<;>simp only[bU,reduceCtorEq,Option.some.injEq] at e
 ·subst e;simp only[Rep] at r;obtain⟨a,vs,rfl,h,q⟩:=r;exact⟨a,vs,rfl,Rd.sub S h,q⟩
 ·split at e
  ·rename_i xs' hc;cases e;simp only[Rep] at r;obtain⟨a,rfl,h⟩:=r;obtain⟨_,vs,h2,rs⟩:=S.cell _ _ _ h hc;exact⟨a,vs,rfl,.inl h2,rs⟩
  ·cases e
theorem qd(S:ax G F as H ce)(r:Rep F as w v)(e:dj ce w=some xs):∃a vs,v=.ref a/\(Rd H a (.lst vs)\/Rd H a (.tup vs))/\ah F as xs vs:=by
 cases w with
 | tup ys =>
  simp only[dj,Option.some.injEq] at e;subst e;simp only[Rep] at r;obtain⟨a,vs,rfl,h,q⟩:=r;exact⟨a,vs,rfl,.inr (.inl (S.sub _ _ h)),q⟩
 | _ =>
  obtain⟨a,vs,h1,h2,h3⟩:=iG S r e;exact⟨a,vs,h1,.inl h2,h3⟩
theorem ym{xs:List (Key×W)}(S:ax G F as H ce)(r:Rep F as w v)(e:my ce w=some xs):∃k a ps,w=.cel k/\v=.ref a/\as[k]?=some a/\H a=some (.dK ps)/\aA F as xs ps:=by
 cases w<;>simp only[my,reduceCtorEq] at e;split at e
 ·rename_i k xs' hc;cases e;simp only[Rep] at r;obtain⟨a,rfl,h⟩:=r;obtain⟨_,ps,h2,rs⟩:=S.cell _ _ _ h hc;exact⟨_,a,ps,rfl,rfl,h,h2,rs⟩
 ·cases e
theorem yP{xs:List (Key×W)}(S:ax G F as H ce)(r:Rep F as w v)(e:jI ce w=some xs):∃k a ps,w=.cel k/\v=.ref a/\as[k]?=some a/\Rd H a (.dK ps)/\aA F as xs ps:=by
 cases w<;>simp only[jI,reduceCtorEq] at e;split at e
 ·rename_i k xs' hc;cases e;simp only[Rep] at r;obtain⟨a,rfl,h⟩:=r;obtain⟨_,ps,h2,rs⟩:=S.cell _ _ _ h hc;exact⟨_,a,ps,rfl,rfl,h,.inl h2,rs⟩
 ·rename_i k xs' hc;cases e;simp only[Rep] at r;obtain⟨a,rfl,h⟩:=r;obtain⟨_,o,ps,_,h2,rs⟩:=S.cell _ _ _ h hc;exact⟨_,a,ps,rfl,rfl,h,.inr ⟨o,h2⟩,rs⟩
 ·cases e
theorem s9{k:Key}(r:Rep F as w v)(e:iO w=some k):v=kV k:=by cases w<;>simp only[iO,reduceCtorEq,Option.some.injEq] at e<;>subst e<;>simp only[Rep] at r<;>exact r
def pB(ng:Bool):R2:=fun x y H Q=>∃as w z,Rep H as w x/\Rep H as z y/\bh 8 w=true/\bh 8 z=true/\Q (.bl (if ng then !aN w z else aN w z)) H
def vj(K:Frag)(ng:Bool):R2:=fun x y H Q=>∃as w ys a vs,Rep H as w x/\y=.ref a/\(cY K H a vs\/eY K H a vs)/\ah H as ys vs/\bh 8 w=true/\ys.all (bh 8)=true/\Q (.bl (if ng then !ys.any (aN · w) else ys.any (aN · w))) H
variable {K:Frag}
theorem sE(hu:X.A.units+8<cLine):dM X (compareOp .Eq) (pB false):=by intro pins s σ H x y v u Q I rx ry ⟨as,w,z,r1,r2,c1,c2,q⟩;exact(qY (fun _ _ h=>h) I 8 hu c1 c2 r1 r2 rx ry).1 X.prog X.w X.xe _ ⟨.bl _,H,I,rfl,q⟩
theorem C4(hu:X.A.units+8<cLine):dM X (compareOp .NotEq) (pB true):=by intro pins s σ H x y v u Q I rx ry ⟨as,w,z,r1,r2,c1,c2,q⟩;exact(qY (fun _ _ h=>h) I 8 hu c1 c2 r1 r2 rx ry).2.1 X.prog X.w X.xe _ ⟨.bl _,H,I,rfl,q⟩
open Classical in
theorem z7{σ:VS.St}{x:V}{u:Value}{ps:List Value}(I:Inv X pins σ H s)(hu:A.units+8<cLine)(rw':Rep H as w x)(c:bh 8 w=true)(cs:ys.all (bh 8)=true)(ru:L2.RelV x u)(rs:ah H as ys vs)(rp:Vals vs ps):∃e:Value->Bool,(∀y,y∈ps.toArray->SeqAt.EqAt A s y u (e y))/\ps.toArray.any e=ys.any (aN · w):=by
 have hl:=rs.length;have hl2:=rp.length;have key:∀{j:Nat} {p:Value},ps[j]?=some p->∃y v,ys[j]?=some y/\Rep H as y v/\L2.RelV v p/\bh 8 y=true:=fun {j p} hp=>by
  have hj:=dZ hp;have e1:vs[j]?=some (vs[j]'(by omega)):=by simp
  obtain⟨q,hq,rq⟩:=rp.get e1;rw[hp] at hq;cases hq;obtain⟨y,hy,ry⟩:=rs.get' e1;exact⟨y,_,hy,ry,rq,all_eq_true.mp cs _ (mem_of_getElem? hy)⟩
 have uniq:∀{j j':Nat} {p:Value} {y y':W},ps[j]?=some p->ps[j']?=some p->ys[j]?=some y->ys[j']?=some y'->y=y':=fun {j j' p y y'} h1 h2 h3 h4=>by
  obtain⟨z,v,hz,rz,rv,cz⟩:=key h1;obtain⟨z',v',hz',rz',rv',cz'⟩:=key h2;rw[h3] at hz;cases hz;rw[h4] at hz';cases hz';cases rv.inj rv';exact yc 8 cz cz' rz rz'
 refine⟨fun p=>decide (∃(j:Nat) (y:W),ps[j]?=some p/\ys[j]?=some y/\aN y w=true),fun p hp=>?_,?_⟩
 ·have hp':p∈ps:=by simpa using hp
  obtain⟨j,hj⟩:=getElem?_of_mem hp';obtain⟨y,v,hy,ry,rv,cy⟩:=key hj;have q:=(qY (fun _ _ h=>h) I 8 hu cy c ry rw' rv ru).2.2;have e:decide (∃(j:Nat) (y:W),ps[j]?=some p/\ys[j]?=some y/\aN y w=true)=aN y w:=by
   rw[Bool.eq_iff_iff,decide_eq_true_iff];constructor
   ·rintro⟨j',y',h1,h2,h3⟩;rw[uniq hj h1 hy h2];exact h3
   ·intro h;exact⟨j,y,hj,hy,h⟩
  show SeqAt.EqAt A s p u (decide (∃(j:Nat) (y:W),ps[j]?=some p/\ys[j]?=some y/\aN y w=true));rw[e];exact q
 ·rw[Bool.eq_iff_iff,any_eq_true',any_eq_true];constructor
  ·rintro⟨p,_,hp⟩;obtain⟨j,y,h1,h2,h3⟩:=of_decide_eq_true hp;exact⟨y,mem_of_getElem? h2,h3⟩
  ·rintro⟨y,hy,h⟩;obtain⟨j,hj⟩:=getElem?_of_mem hy;have hlt:=dZ hj;have e1:ps[j]?=some (ps[j]'(by omega)):=by simp
   refine⟨ps[j]'(by omega),by simp,decide_eq_true ⟨j,y,e1,hj,h⟩⟩
theorem Io(hu:X.A.units+9<cLine)(hK:X.K=K:=by rfl):dM X (compareOp .NotIn) (vj K true):=by
 subst hK;intro pins s σ H x y v u Q I rx ry ⟨as,w,ys,a,vs,r1,ey,sq,rs,c1,c2,q⟩;subst ey;cases ry;rcases sq with sq|sq
 ·obtain⟨ps,rp,pl,_⟩:=I.list sq;obtain⟨e,he,ea⟩:=z7 (A:=X.A.in1) I (by show X.A.units+1+8<cLine;omega) r1 c1 c2 rx rs rp;exact SeqAt.notIn_listAt e pl.isList he ⟨.bl _,H,I,rfl,by rw[ea];exact q⟩
 ·obtain⟨ps,rp,pl,_⟩:=I.tuple sq;obtain⟨e,he,ea⟩:=z7 (A:=X.A.in1) I (by show X.A.units+1+8<cLine;omega) r1 c1 c2 rx rs rp;exact SeqAt.notIn_tupleAt e pl he ⟨.bl _,H,I,rfl,by rw[ea];exact q⟩
def bD(ng:Bool)(ce:Ce)(x y:W):Option W:=if (bh 8 (drf ce x)&&bh 8 (drf ce y))=true then some (.bl (if ng then !aN (drf ce x) (drf ce y) else aN (drf ce x) (drf ce y))) else none
def ll(ng:Bool)(ce:Ce)(x y:W):Option W:=match dj ce y with
 | some ys=>if (bh 8 (drf ce x)&&ys.all (bh 8))=true then some (.bl (if ng then !ys.any (aN · (drf ce x)) else ys.any (aN · (drf ce x)))) else none
 | none=>none
def aD(f:Ce->W->W->Option W)(a b:Sl->M W):Sl->M W:=fun sl=>aw (a sl) fun x=>aw (b sl) fun y=>look fun ce=>f ce x y
section
variable {a c:Expr}
def j8(r:R2)(f:Ce->W->W->Option W):Prop:=∀(G:Ga) F as H ce x y wx wy w,ax G F as H ce->Rep F as wx x->Rep F as wy y->f ce wx wy=some w->∀Q:VK,(∀v,Rep F as w v->Q v H)->r x y H Q
theorem jm{r:R2}{f:Ce->W->W->Option W}(hf:j8 r f)(σ:L2.St)(H:Hp)(Q:VK)(h:av G E (aD f da db) σ H Q):mf r (av G E da) (av G E db) σ H Q:=by refine pU h fun F as sl ce H2 x y wx wy S rx ry P=>?_;obtain⟨w,e,P⟩:=jV P;exact hf G F as H2 ce x y wx wy w S.st rx ry e Q fun v r=>P.done S r
theorem sD(ng:Bool):j8 (pB ng) (bD ng):=by
 intro G F as H ce x y wx wy w S rx ry e Q q;unfold bD at e;split at e
 ·rename_i hc;rw[and_eq_true] at hc;cases e;exact⟨as,_,_,s_ S rx,s_ S ry,hc.1,hc.2,q _ (by simp only[Rep])⟩
 ·cases e
theorem C3(K:Frag)(ng:Bool):j8 (vj K ng) (ll ng):=by
 intro G F as H ce x y wx wy w S rx ry e Q q;unfold ll at e;split at e
 ·rename_i ys hy;split at e
  ·rename_i hc;rw[and_eq_true] at hc;cases e;obtain⟨a,vs,rfl,h,rs⟩:=qd S ry hy;exact⟨as,_,ys,a,vs,s_ S rx,rfl,h.imp .inl .inl,rs.le S.toH,hc.1,hc.2,q _ (by simp only[Rep])⟩
  ·cases e
 ·cases e
theorem rM(hu:X.A.units+8<cLine)(ha:PE X a (av G E da))(hb:PE X b (av G E db)):PE X (.Compare a [.Eq] [b] pos) (av G E (aD (bD false) da db)):=PE.imp (xV (sE hu) ha hb (iY _)) (jm (sD false))
theorem kl(hu:X.A.units+8<cLine)(ha:PE X a (av G E da))(hb:PE X b (av G E db)):PT X (.Compare a [.Eq] [b] pos) (cg G E (dB (aD (bD false) da db))):=km (sE hu) ha hb (iY _) (jm (sD false))
theorem kj(hu:X.A.units+8<cLine)(ha:PE X a (av G E da))(hb:PE X b (av G E db)):PT X (.Compare a [.NotEq] [b] pos) (cg G E (dB (aD (bD true) da db))):=km (C4 hu) ha hb (iY _) (jm (sD true))
theorem Hr(hu:X.A.units+9<cLine)(ha:PE X a (av G E da))(hb:PE X b (av G E db))(hm:behindInMarks .NotIn b=false):PT X (.Compare a [.NotIn] [b] pos) (cg G E (dB (aD (ll true) da db))):=km (Io hu rfl) ha hb hm (jm (C3 _ true))
theorem lK{r:R2}(hf:mn r f):j8 r (fun _=>f):=by intro G F as H ce x y wx wy w S rx ry e Q q;obtain⟨vx,vy,vw,e1,e2,e3,k⟩:=hf _ _ _ e;rw[rx.sc e1,ry.sc e2];exact k _ _ (q _ (Rep.of_sc e3))
theorem vY(ha:PE X a (av G E da))(hb:PE X b (av G E db)):PT X (.Compare a [.Lt] [b] pos) (cg G E (dB (aH ml da db))):=km CN ha hb (iY _) (jm (lK (k6 fun _ _=>rfl)))
theorem om(ha:PE X a (av G E da))(hb:PE X b (av G E db)):PT X (.Compare a [.Gt] [b] pos) (cg G E (dB (aH gw da db))):=km we ha hb (iY _) (jm (lK (k6 fun _ _=>rfl)))
theorem Bv(ha:PE X a (av G E da))(hb:PE X b (av G E db)):PT X (.Compare a [.GtE] [b] pos) (cg G E (dB (aH u7 da db))):=km CM ha hb (iY _) (jm (lK (k6 fun _ _=>rfl)))
theorem mW{j pos'}(ha:PE X a (av G E da)):PT X (.Compare a [.Is] [.Constant .none j pos'] pos) (cg G E (dB (c7 ja da))) :=
 rN ⟨_,xj ha,fun σ H Q zz_=>bB zz_ fun F as sl ce S P=>(step S P).mono fun x H1 zz_=>bf zz_ fun wx F1 as1 ce1 l1 S1 rx P1=>aJ.done S1 (a:=W.bl _) P1 (by simp only[Rep];rw[rx.isN])⟩ (iY _)
theorem oN{j pos'}(ha:PE X a (av G E da)):PT X (.Compare a [.IsNot] [.Constant .none j pos'] pos) (cg G E (dB (c7 fL da))) :=
 rN ⟨_,Ft ha,fun σ H Q zz_=>bB zz_ fun F as sl ce S P=>(step S P).mono fun x H1 zz_=>bf zz_ fun wx F1 as1 ce1 l1 S1 rx P1=>aJ.done S1 (a:=W.bl _) P1 (by simp only[Rep];rw[rx.isN])⟩ (iY _)
def mx(a b:Sl->M W):Sl->M W:=fun sl=>aw (a sl) fun x=>match x with
 | .bl true=>b sl
 | .bl false=>ret (.bl false)
 | _=>kn
def pb(a b:Sl->M W):Sl->M W:=fun sl=>aw (a sl) fun x=>match x with
 | .bl true=>ret (.bl true)
 | .bl false=>b sl
 | _=>kn
def vi(a:Sl->M W):Sl->M W:=fun sl=>aw (a sl) fun x=>match x with
 | .bl b=>ret (.bl (!b))
 | _=>kn
def gF(a b:Sl->M Bool):Sl->M Bool:=fun sl=>aw (a sl) fun x=>match x with
 | true=>b sl
 | false=>ret false
def ie(a b:Sl->M Bool):Sl->M Bool:=fun sl=>aw (a sl) fun x=>match x with
 | true=>ret true
 | false=>b sl
def fK(a:Sl->M Bool):Sl->M Bool:=fun sl=>aw (a sl) fun x=>ret (!x)
def nQ(c:Sl->M Bool)(a b:Sl->M W):Sl->M W:=fun sl=>aw (c sl) fun x=>match x with
 | true=>a sl
 | false=>b sl
variable {rest:List Expr} {ta tb:Sl->M Bool}
theorem sC{op}(h:PE X a (av G E da)):PE X (.BoolOp op [a] pos) (av G E da):=D_ h
theorem wU(ha:PE X a (av G E da))(hb:PE X (.BoolOp .And (b::rest) pos) (av G E db)):PE X (.BoolOp .And (a::b::rest) pos) (av G E (mx da db)):=by
 refine PE.imp (D9 ha hb) fun σ H Q zz_=>bB zz_ fun F as sl ce S P=>(step S P).mono fun x H1 zz_=>bf zz_ fun wx F1 as1 ce1 l1 S1 rx P1=>?_;cases wx<;>first|exact(show False from P1).elim|skip
 rename_i k;simp only[Rep] at rx;subst rx;cases k
 ·exact⟨false,rfl,by rw[if_neg Bool.false_ne_true];exact aJ.done S1 (a:=W.bl false) P1 (by simp only[Rep])⟩
 ·exact⟨true,rfl,by rw[if_pos rfl];exact⟨F1,as1,sl,ce1,S1,P1⟩⟩
theorem Bu(ha:PE X a (av G E da))(hb:PE X (.BoolOp .Or (b::rest) pos) (av G E db)):PE X (.BoolOp .Or (a::b::rest) pos) (av G E (pb da db)):=by
 refine PE.imp (Cw ha hb) fun σ H Q zz_=>bB zz_ fun F as sl ce S P=>(step S P).mono fun x H1 zz_=>bf zz_ fun wx F1 as1 ce1 l1 S1 rx P1=>?_;cases wx<;>first|exact(show False from P1).elim|skip
 rename_i k;simp only[Rep] at rx;subst rx;cases k
 ·exact⟨false,rfl,by rw[if_neg Bool.false_ne_true];exact⟨F1,as1,sl,ce1,S1,P1⟩⟩
 ·exact⟨true,rfl,by rw[if_pos rfl];exact aJ.done S1 (a:=W.bl true) P1 (by simp only[Rep])⟩
theorem C2(ha:PE X a (av G E da)):PE X (.UnaryOp .Not a pos) (av G E (vi da)):=by
 refine PE.imp (D8 ha) fun σ H Q zz_=>bB zz_ fun F as sl ce S P=>(step S P).mono fun x H1 zz_=>bf zz_ fun wx F1 as1 ce1 l1 S1 rx P1=>?_;cases wx<;>first|exact(show False from P1).elim|skip
 rename_i k;simp only[Rep] at rx;subst rx;exact⟨k,rfl,aJ.done S1 (a:=W.bl (!k)) P1 (by simp only[Rep])⟩
theorem lb(ha:PT X a (cg G E ta)):PW X (.BoolOp .And [a] pos) (cg G E ta):=Fs ha
theorem mV(ha:PT X a (cg G E ta)):PW X (.BoolOp .Or [a] pos) (cg G E ta):=Du ha
theorem jS(ha:PT X a (cg G E ta))(hb:PW X (.BoolOp .And (b::rest) pos) (cg G E tb)):PW X (.BoolOp .And (a::b::rest) pos) (cg G E (gF ta tb)):=by
 refine PW.imp (Eb ha hb) fun σ H Q zz_=>bB zz_ fun F as sl ce S P=>(step (RP:=rB) S P).mono fun x H1 zz_=>bf zz_ fun wx F1 as1 ce1 l1 S1 rx P1=>?_;have rx:wx=x:=rx;subst rx;cases wx
 ·rw[if_neg Bool.false_ne_true];exact aJ.done (RP:=rB) S1 (a:=false) P1 rfl
 ·rw[if_pos rfl];exact⟨F1,as1,sl,ce1,S1,P1⟩
theorem mK(ha:PT X a (cg G E ta))(hb:PW X (.BoolOp .Or (b::rest) pos) (cg G E tb)):PW X (.BoolOp .Or (a::b::rest) pos) (cg G E (ie ta tb)):=by
 refine PW.imp (CA ha hb) fun σ H Q zz_=>bB zz_ fun F as sl ce S P=>(step (RP:=rB) S P).mono fun x H1 zz_=>bf zz_ fun wx F1 as1 ce1 l1 S1 rx P1=>?_;have rx:wx=x:=rx;subst rx;cases wx
 ·rw[if_neg Bool.false_ne_true];exact⟨F1,as1,sl,ce1,S1,P1⟩
 ·rw[if_pos rfl];exact aJ.done (RP:=rB) S1 (a:=true) P1 rfl
theorem jh(ha:PT X a (cg G E ta)):PT X (.UnaryOp .Not a pos) (cg G E (fK ta)):=by refine PT.imp (Ea ha) fun σ H Q zz_=>bB zz_ fun F as sl ce S P=>(step (RP:=rB) S P).mono fun x H1 zz_=>bf zz_ fun wx F1 as1 ce1 l1 S1 rx P1=>?_;have rx:wx=x:=rx;subst rx;exact aJ.done (RP:=rB) S1 (a:=!wx) P1 rfl
theorem C1{c:Expr}(hc:PT X c (cg G E ta))(ha:PE X a (av G E da))(hb:PE X b (av G E db)):PE X (.IfExp c a b pos) (av G E (nQ ta da db)):=by
 refine PE.imp (Hk hc ha hb) fun σ H Q zz_=>bB zz_ fun F as sl ce S P=>(step (RP:=rB) S P).mono fun x H1 zz_=>bf zz_ fun wx F1 as1 ce1 l1 S1 rx P1=>?_;have rx:wx=x:=rx;subst rx;cases wx
 ·rw[if_neg Bool.false_ne_true];exact⟨F1,as1,sl,ce1,S1,P1⟩
 ·rw[if_pos rfl];exact⟨F1,as1,sl,ce1,S1,P1⟩
def oF(f g:Ce->W->W->Option W)(a b c:Sl->M W):Sl->M W:=fun sl=>aw (a sl) fun x=>aw (b sl) fun y=>aw (look fun ce=>f ce x y) fun t=>match t with
 | .bl true=>aw (c sl) fun z=>look fun ce=>g ce y z
 | .bl false=>ret (.bl false)
 | _=>kn
theorem Im{r r':R2}{f g:Ce->W->W->Option W}(hf:j8 r f)(hg:j8 r' g)(σ:L2.St)(H:Hp)(Q:VK)(h:av G E (oF f g da db dc) σ H Q):xg r r' (av G E da) (av G E db) (av G E dc) σ H Q:=by
 obtain⟨F,as,sl,ce,S,P⟩:=h;refine(step S P).mono fun x H1 zz_=>bf zz_ fun wx F1 as1 ce1 l1 S1 rx P1=>(step S1 P1).mono fun y H2 zz_=>bf zz_ fun wy F2 as2 ce2 l2 S2 ry P2=>?_;have e:∃w,f ce2 wx wy=some w/\aJ G E Rep F2 as2 σ sl Q ((match w with|.bl true=>aw (dc sl) fun z=>look fun ce=>g ce wy z|.bl false=>ret (.bl false)|_=>kn:M W) ce2):=by
  revert P2;simp only[aw,look];cases f ce2 wx wy with
  | none=>exact fun P=>P.elim
  | some w=>exact fun P=>⟨w,rfl,P⟩
 obtain⟨w,e,P3⟩:=e;refine hf G F2 as2 H2 ce2 x y wx wy w S2.st (rx.le l2) ry e _ fun v rv=>?_;cases w<;>first|exact(show False from P3).elim|skip
 rename_i k;simp only[Rep] at rv;subst rv;refine⟨k,rfl,?_⟩;cases k
 ·rw[if_neg Bool.false_ne_true];exact aJ.done S2 (a:=W.bl false) P3 (by simp only[Rep])
 ·rw[if_pos rfl];refine(step S2 P3).mono fun z H3 zz_=>bf zz_ fun wz F3 as3 ce3 l3 S3 rz P4=>?_;obtain⟨w',e',P4⟩:=jV P4;exact hg G F3 as3 H3 ce3 y z wy wz w' S3.st (ry.le l3) rz e' Q fun v r=>P4.done S3 r
theorem Hq{op':CmpOp}{r r':R2}{f g:Ce->W->W->Option W}(ho:dM X (compareOp op) r)(ho':dM X (compareOp op') r')(hf:j8 r f)(hg:j8 r' g)(ha:PE X a (av G E da))(hb:PE X b (av G E db))(hc:PE X c (av G E dc))(hm:lastMarks [op,op'] [b,c]=false:=by with_unfolding_all rfl):PE X (.Compare a [op,op'] [b,c] pos) (av G E (oF f g da db dc)):=PE.imp (Hg ho ho' ha hb hc hm) (Im hf hg)
end
def ai:Sl->M (List W):=fun _=>ret []
def ag(a:Sl->M W)(r:Sl->M (List W)):Sl->M (List W):=fun sl=>aw (a sl) fun x=>aw (r sl) fun xs=>ret (x::xs)
open Classical in
def iK(w:W)(n:Nat):M W:=fun ce=>if n<=sizeLine then some (.ok w ce) else none
open Classical in
def jv(c:C)(n:Nat):M W:=fun ce=>if n<=sizeLine then some (.ok (.cel ce.length) (ce++[c])) else none
def eK(r:Sl->M (List W)):Sl->M W:=fun sl=>aw (r sl) fun xs=>iK (.tup xs) xs.length
def dO(r:Sl->M (List W)):Sl->M W:=fun sl=>aw (r sl) fun xs=>iK (.lst xs) xs.length
def dX(r:Sl->M (List W)):Sl->M W:=fun sl=>aw (r sl) fun xs=>jv (.lst xs) xs.length
variable {es:List Expr} {dr:Sl->M (List W)}
section
variable {σ:VS.St}
theorem ar:PA X [] (fw G E ai):=PA.imp oy fun σ H Q zz_=>bB zz_ fun F as sl ce S P=>aJ.done (RP:=ah) S (a:=[]) P ah.nil
theorem aj(ha:PE X e (av G E da))(hr:PA X es (fw G E dr))(hs:starEach (e::es) X.env=(false,eval e X.env)::starEach es X.env:=by rfl):PA X (e::es) (fw G E (ag da dr)):=by refine PA.imp (nj ha hr hs) fun σ H Q zz_=>bB zz_ fun F as sl ce S P=>(step S P).mono fun x H1 zz_=>bf zz_ fun wx F1 as1 ce1 l1 S1 rx P1=>(step (RP:=ah) S1 P1).mono fun y H2 zz_=>bf zz_ fun wy F2 as2 ce2 l2 S2 ry P2=>?_;exact aJ.done (RP:=ah) S2 (a:=wx::wy) P2 (.cons (rx.le l2) ry)
theorem sZ(S:SR G F as H σ sl ce)(rs:ah F as xs vs)(P:aJ G E Rep F as σ sl Q (iK (.lst xs) n ce)):n<=sizeLine/\∀p,H p=none->Q (.ref p) (upd H p (.lst vs)):=by
 revert P;unfold iK;split
 ·rename_i h;intro P;refine⟨h,fun p hp=>?_⟩;obtain⟨S',l⟩:=S.st.freeze (o:=.lst vs) hp;exact P _ _ _ _ l (S.slots S' l) (by simp only[Rep];exact⟨p,vs,rfl,.inl ak,rs.le l⟩)
 ·exact fun P=>P.elim
theorem yk(S:SR G F as H σ sl ce)(rs:ah F as xs vs)(P:aJ G E Rep F as σ sl Q (iK (.tup xs) n ce)):n<=sizeLine/\∀p,H p=none->Q (.ref p) (upd H p (.tup vs)):=by
 revert P;unfold iK;split
 ·rename_i h;intro P;refine⟨h,fun p hp=>?_⟩;obtain⟨S',l⟩:=S.st.freeze (o:=.tup vs) hp;exact P _ _ _ _ l (S.slots S' l) (by simp only[Rep];exact⟨p,vs,rfl,ak,rs.le l⟩)
 ·exact fun P=>P.elim
theorem yj{c:C}(S:SR G F as H σ sl ce)(hc:∀p as',Le F as F as'->de G F as' (upd H p o) p c)(P:aJ G E Rep F as σ sl Q (jv c n ce)):n<=sizeLine/\∀p,H p=none->Q (.ref p) (upd H p o):=by
 revert P;unfold jv;split
 ·rename_i h;intro P;refine⟨h,fun p hp=>?_⟩;obtain⟨S',l⟩:=S.st.alloc (c:=c) hp (hc p);exact P _ _ _ _ l (S.slots S' l) (by simp only[Rep];exact⟨p,rfl,by rw[<- S.st.len];simp⟩)
 ·exact fun P=>P.elim
theorem xK(S:SR G F as H σ sl ce)(rs:ah F as xs vs)(P:aJ G E Rep F as σ sl Q (jv (.lst xs) n ce)):n<=sizeLine/\∀p,H p=none->Q (.ref p) (upd H p (.lst vs)) :=
 yj (c:=.lst xs) S (fun p as' l=>⟨vs,ak,rs.le l⟩) P
theorem iA{x1}(h:PA X es (fw G E dr)):PE X (.Tuple es x1 pos) (av G E (eK dr)):=by refine PE.imp (xf h) fun σ H Q zz_=>bB zz_ fun F as sl ce S P=>(step (RP:=ah) S P).mono fun x H1 zz_=>bf zz_ fun wx F1 as1 ce1 l1 S1 rx P1=>?_;have:=yk S1 rx P1;rwa [<- ah.length rx] at this
theorem gL(h:PA X es (fw G E dr)):PE X (.List es pos) (av G E (dO dr)):=by refine PE.imp (sA h) fun σ H Q zz_=>bB zz_ fun F as sl ce S P=>(step (RP:=ah) S P).mono fun x H1 zz_=>bf zz_ fun wx F1 as1 ce1 l1 S1 rx P1=>?_;have:=sZ S1 rx P1;rwa [<- ah.length rx] at this
theorem gr(h:PA X es (fw G E dr)):PE X (.List es pos) (av G E (dX dr)):=by refine PE.imp (sA h) fun σ H Q zz_=>bB zz_ fun F as sl ce S P=>(step (RP:=ah) S P).mono fun x H1 zz_=>bf zz_ fun wx F1 as1 ce1 l1 S1 rx P1=>?_;have:=xK S1 rx P1;rwa [<- ah.length rx] at this
def ki:Sl->M W:=fun _=>jv (.dct []) 0
theorem oM:PE X (.Dict [] [] pos) (av G E ki):=by refine PE.imp G2 fun σ H Q zz_=>bB zz_ fun F as sl ce S P=>?_;exact(yj (c:=.dct []) (o:=.dK []) S (fun p as' l=>⟨[],ak,.nil⟩) P).2
end
def ic(kvs:List (Key×W))(k:Key):Option W:=(kvs.find? fun kv=>decide (kv.1=k)).map (·.2)
def ib(kvs:List (Key×W))(k:Key)(v:W):List (Key×W) :=
 if (kvs.any fun kv=>decide (kv.1=k))=true then kvs.map (fun kv=>if kv.1=k then (kv.1,v) else kv) else kvs++[(k,v)]
variable {ps:List (Key×V)}
section
variable {kvs:List (Key×W)}
theorem aA.val(r:aA F as kvs ps)(k:Key):(ic kvs k=none/\ig ps k=none)\/∃w v,ic kvs k=some w/\ig ps k=some v/\Rep F as w v:=by
 induction r with
 | nil=>exact .inl ⟨rfl,rfl⟩
 | @cons p q l1 l2 h t ih =>
  obtain⟨e,rv⟩:=h
  by_cases hk:p.1=k
  ·refine .inr ⟨p.2,q.2,?_,qw (by rw[<- e];exact hk),rv⟩;simp[ic,find?_cons,hk]
  ·have e1:ic (p::l1) k=ic l1 k:=by simp only[ic,find?_cons,hk,decide_false]
   rw[e1,qv (by rw[<- e];exact hk)];exact ih
theorem aA.any(r:aA F as kvs ps)(k:Key):(kvs.any fun kv=>decide (kv.1=k))=(ps.any fun kv=>decide (kv.1=k)):=by
 induction r with
 | nil=>rfl
 | cons h t ih=>rw[any_cons,any_cons,ih,h.1]
theorem aA.mapPut(k:Key)(rv:Rep F as w v)(r:aA F as kvs ps):aA F as (kvs.map fun kv=>if kv.1=k then (kv.1,w) else kv) (ps.map fun kv=>if kv.1=k then (kv.1,v) else kv):=by
 induction r with
 | nil=>exact .nil
 | @cons p q l1 l2 h t ih =>
  rw[map_cons,map_cons];refine .cons ?_ ih
  by_cases hk:p.1=k
  ·rw[if_pos hk,if_pos (by rw[<- h.1];exact hk)];exact⟨h.1,rv⟩
  ·rw[if_neg hk,if_neg (by rw[<- h.1];exact hk)];exact h
theorem aA.put(r:aA F as kvs ps)(k:Key)(rv:Rep F as w v):aA F as (ib kvs k w) (fS ps k v):=by
 unfold ib fS;rw[r.any k];split
 ·exact r.mapPut k rv
 ·exact Paired.app r (.cons ⟨rfl,rv⟩ .nil)
theorem aA.length(r:aA F as kvs ps):kvs.length=ps.length:=Paired.length r
end
def kS(ng:Bool)(ce:Ce)(x y:W):Option W:=match iO x,my ce y with
 | some k,some kvs=>some (.bl (if ng then !(ic kvs k).isSome else (ic kvs k).isSome))
 | _,_=>none
variable {mk:List W->M W} {p2:Pos}
section
variable {a c:Expr}
theorem Ew(ng:Bool)(σ:L2.St)(H:Hp)(Q:VK)(h:av G E (aD (kS ng) da db) σ H Q) :
  av G E da σ H fun y H1=>av G E db σ H1 fun x H2=>∃a o,x=.ref a/\iL H2 a y o/\Q (.bl (if ng then !o.isSome else o.isSome)) H2:=by
 obtain⟨F,as,sl,ce,S,P⟩:=h;refine(step S P).mono fun x H1 zz_=>bf zz_ fun wx F1 as1 ce1 l1 S1 rx P1=>(step S1 P1).mono fun y H2 zz_=>bf zz_ fun wy F2 as2 ce2 l2 S2 ry P2=>?_;obtain⟨w,e,P3⟩:=jV P2;unfold kS at e;split at e
 ·rename_i k kvs hk hd;cases e;obtain⟨n,a,ps,rfl,rfl,ha,hH,rk⟩:=ym S2.st ry hd;rw[s9 rx hk];refine⟨a,_,rfl,iL.kz hH,?_⟩;rcases rk.val k with ⟨e1,e2⟩|⟨w,v,e1,e2,_⟩
  ·rw[e1] at P3;rw[e2];exact P3.done S2 (by simp only[Rep];cases ng<;>rfl)
  ·rw[e1] at P3;rw[e2];exact P3.done S2 (by simp only[Rep];cases ng<;>rfl)
 ·cases e
theorem zL(hu:X.A.units+1<cLine)(ha:PE X a (av G E da))(hb:PE X b (av G E db))(h1:behindInMarks .NotIn b=false):PT X (.Compare a [.NotIn] [b] pos) (cg G E (dB (aD (kS true) da db))):=rN ⟨_,Ie hu ha hb,Ew true⟩ h1
def aC(ce:Ce)(x y:W):Option W:=match dj ce x,y with
 | some xs,.int i=>atI xs i
 | _,_=>none
theorem ah.atI{F:Hp}{as:List Addr}{ws:List W}{vs:List V}{i:Int}{w:W}(r:ah F as ws vs)(h:L2.atI ws i=some w):∃v,L2.atI vs i=some v/\Rep F as w v:=by
 unfold L2.atI at h ⊢;rw[r.length];cases e:gm ws.length i with
 | none=>rw[e] at h;cases h
 | some j=>rw[e] at h;exact r.get h
theorem C0(K:Frag):j8 (fun x y H Q=>rf K x y H Q\/q_ K x y H Q) aC:=by
 intro G F as H ce x y wx wy w S rx ry e Q q;unfold aC at e;split at e
 ·rename_i xs i hs;obtain⟨a,vs,rfl,h,rs⟩:=qd S rx hs;obtain⟨v,hv,rv⟩:=rs.atI e;simp only[Rep] at ry;subst ry;rcases h with h|h
  ·exact .inl ⟨a,vs,i,v,rfl,rfl,.inl h,hv,q _ rv⟩
  ·exact .inr ⟨a,vs,i,v,rfl,rfl,.inl h,hv,q _ rv⟩
 ·cases e
theorem aX(ha:PE X a (av G E da))(hb:PE X b (av G E db))(hs:yf b):PE X (.Subscript a b pos) (av G E (aD aC da db)):=PE.imp (CF (j9.or (Ke X.K rfl) (Kd X.K rfl)) ha hb hs) (jm (C0 _))
def iF:Sl->M (Option Int):=fun _=>ret none
def dW(d:Sl->M W):Sl->M (Option Int):=fun sl=>aw (d sl) fun w=>match w with
 | .int i=>ret (some i)
 | _=>kn
def rO:Hp->List Addr->Option Int->Option Int->Prop:=fun _ _ a b=>a=b
abbrev pA(G:Ga)(E:XK)(d:Sl->M (Option Int)):TO:=toT G E rO d
theorem PO.imp{e:Option Expr}{t t':TO}(h:PO X e t)(q:∀σ H Q,t' σ H Q->t σ H Q):PO X e t':=fun pins s σ H Q I z=>h pins s σ H Q I (q _ _ _ z)
theorem oK:PO X none (pA G E iF):=PO.imp Fb fun σ H Q zz_=>bB zz_ fun F as sl ce S P=>aJ.done (RP:=rO) S (a:=none) P rfl
theorem jk(h:PE X a (av G E da)):PO X (some a) (pA G E (dW da)):=by
 refine PO.imp (FH h) fun σ H Q zz_=>bB zz_ fun F as sl ce S P=>(step S P).mono fun x H1 zz_=>bf zz_ fun wx F1 as1 ce1 l1 S1 rx P1=>?_;cases wx<;>first|exact(show False from P1).elim|skip
 simp only[Rep] at rx;exact⟨_,rx,aJ.done (RP:=rO) S1 (a:=some _) P1 rfl⟩
def kd(xs:List W)(lo hi:Option Int):List W:=(xs.drop (HT.sIx xs.length 0 lo)).take (HT.sIx xs.length xs.length hi-HT.sIx xs.length 0 lo)
theorem ah.cut(r:ah F as ws vs)(lo hi:Option Int):ah F as (kd ws lo hi) (mD vs lo hi):=by unfold kd mD;rw[r.length];exact(r.drop _).take _
def qJ(mk:List W->M W)(x:W)(lo hi:Option Int):M W:=fun ce=>match bU ce x with
 | some xs=>mk (kd xs lo hi) ce
 | none=>none
def aQ(xs:List W):M W:=iK (.lst xs) xs.length
def fF(xs:List W):M W:=jv (.lst xs) xs.length
def qX(xs:List W):M W:=iK (.tup xs) xs.length
def fO(mk:List W->M W)(d:Sl->M W)(l h:Sl->M (Option Int)):Sl->M W:=fun sl=>aw (d sl) fun x=>aw (l sl) fun lo=>aw (h sl) fun hi=>qJ mk x lo hi
def jx(G:Ga)(E:XK)(mk:List W->M W):Prop:=∀{F:Hp} {as:List Addr} {H:Hp} {σ:VS.St} {sl:Sl} {ce:Ce} {Q:VK} {xs:List W} {vs:List V},SR G F as H σ sl ce->ah F as xs vs->aJ G E Rep F as σ sl Q (mk xs ce)->xs.length<=sizeLine/\∀p,H p=none->Q (.ref p) (upd H p (.lst vs))
theorem bY:jx G E aQ:=fun S rs P=>sZ S rs P
theorem jH:jx G E fF:=fun S rs P=>xK S rs P
theorem kZ{lo hi:Option Expr}{dl dh:Sl->M (Option Int)}(hm:jx G E mk)(he:PE X a (av G E da))(hl:PO X lo (pA G E dl))(hu:PO X hi (pA G E dh)):PE X (.Subscript a (.Slice lo hi none p2) pos) (av G E (fO mk da dl dh)):=by
 refine PE.imp (G_ (L2.slL X.K) he hl hu) fun σ H Q zz_=>bB zz_ fun F as sl ce S P=>(step S P).mono fun x H1 zz_=>bf zz_ fun wx F1 as1 ce1 l1 S1 rx P1=>(step (RP:=rO) S1 P1).mono fun y H2 zz_=>bf zz_ fun wy F2 as2 ce2 l2 S2 ry P2=>(step (RP:=rO) S2 P2).mono fun z H3 zz_=>bf zz_ fun wz F3 as3 ce3 l3 S3 rz P3=>?_;have ry:wy=y:=ry;have rz:wz=z:=rz;subst ry rz;unfold qJ at P3;cases e:bU ce3 wx with
 | none=>rw[e] at P3;exact(show False from P3).elim
 | some xs =>
  rw[e] at P3;obtain⟨p,vs,rfl,h,rs⟩:=iG S3.st ((rx.le l2).le l3) e;exact⟨p,vs,rfl,.inl h,(hm S3 (rs.cut wy wz) P3).2⟩
open Classical in
def qW(mk:List W->M W)(x y:W):M W:=fun ce=>match bU ce x,bU ce y with
 | some xs,some ys=>if xs.length+ys.length<=sizeLine then mk (xs++ys) ce else none
 | _,_=>none
def fR(mk:List W->M W)(a b:Sl->M W):Sl->M W:=fun sl=>aw (a sl) fun x=>aw (b sl) fun y=>qW mk x y
def Bt:R2:=fun x y H Q=>∃l b xs zs,x=.ref l/\y=.ref b/\Rd H l (.lst xs)/\Rd H b (.lst zs)/\xs.length+zs.length<=sizeLine/\∀p,H p=none->Q (.ref p) (upd H p (.lst (xs++zs)))
theorem Inv.lstR{σ:VS.St}{l:Addr}{xs:List V}(I:Inv X pins σ H s)(hH:Rd H l (.lst xs)):xs.length<=sizeLine/\∃(its:List Value) (n:Nat),Vals xs its/\xs.length=its.length/\s.heap.get? l=some { cls:=.type "list",data:=.seq its.toArray n }:=by obtain⟨z,its,n,r,e⟩:=hH.ok I.hok;exact⟨z,its,n,r,r.length,e⟩
theorem Eu:dM X (binaryOp .Add) Bt:=by
 intro pins s σ H x y v u Q I rx ry h;obtain⟨l,b,xs,zs,rfl,rfl,hH,hB,hz,q⟩:=h;cases rx;cases ry;obtain⟨z,its,n,r,hl,e⟩:=Inv.lstR I hH;obtain⟨z2,its2,n2,r2,hl2,e2⟩:=Inv.lstR I hB;refine add_list e e2 ?_ (by rw[size_toArray,size_toArray];omega);have ea:its.toArray++its2.toArray=(its++its2).toArray:=by simp
 rw[ea];exact⟨.ref _,_,I.lnew (t':=s.toks) (r.append r2) (by rw[length_append];omega),rfl,q _ I.fresh⟩
theorem kq(hm:jx G E mk)(ha:PE X a (av G E da))(hb:PE X b (av G E db)):PE X (.BinOp a .Add b pos) (av G E (fR mk da db)):=by
 refine PE.imp (rT Eu ha hb) fun σ H Q h=>pU h fun F as sl ce H2 x y wx wy S rx ry P=>?_;unfold qW at P;split at P
 ·rename_i xs ys h1 h2;split at P
  ·rename_i hl;obtain⟨p,vs,rfl,q1,r1⟩:=iG S.st rx h1;obtain⟨p',us,rfl,q2,r2⟩:=iG S.st ry h2;exact⟨p,p',vs,us,rfl,rfl,q1,q2,by rw[r1.length,r2.length];exact hl,(hm S (r1.append r2) P).2⟩
  ·exact(show False from P).elim
 ·exact(show False from P).elim
end
inductive Fl where
 | nx|bk|ct|rt (w:W)
inductive O where
 | go (f:Fl) (sl:Sl) (ce:Ce)|ex (x:cV) (ce:Ce)
abbrev DS:=Sl->Ce->Option O
def Bs(D:Ends)(F:Hp)(as:List Addr)(σ:VS.St)(H:Hp):Fl->Prop
 | .nx=>D.nx σ H
 | .bk=>D.bk σ H
 | .ct=>D.ct σ H
 | .rt w=>∀v,Rep F as w v->D.rt v H
def aY(G:Ga)(E:XK)(D:Ends)(F:Hp)(as:List Addr):Option O->Prop
 | some (.go f sl' ce')=>∀σ' H' F' as',Le F as F' as'->SR G F' as' H' σ' sl' ce'->Bs D F' as' σ' H' f
 | some (.ex x ce')=>∀H' F' as' cv od,Le F as F' as'->ax G F' as' H' ce'->G.xr x cv od F'->E cv od H'
 | none=>False
def dF(G:Ga)(E:XK)(d:DS):TS:=fun D σ H=>∃F as sl ce,SR G F as H σ sl ce/\aY G E D F as (d sl ce)
def cL{α:Type}(m:Option (R α))(k:α->Ce->Option O):Option O:=match m with
 | some (.ok a ce')=>k a ce'
 | some (.ex x ce')=>some (.ex x ce')
 | none=>none
variable {D:Ends}
section
variable {α β:Type} {RP:Hp->List Addr->α->β->Prop} {σ:VS.St} {D':Ends}
theorem aY.le{r:Option O}(l:Le F as F' as')(P:aY G E D F as r):aY G E D F' as' r:=by
 cases r with
 | none=>exact P
 | some r=>cases r with
  | go f sl' ce'=>exact fun σ' H' F2 as2 l2=>P σ' H' F2 as2 (l.trans l2)
  | ex x ce'=>exact fun H' F2 as2 cv od l2=>P H' F2 as2 cv od (l.trans l2)
theorem ir{d:Sl->M α}{k:α->Ce->Option O}(S:SR G F as H σ sl ce)(P:aY G E D F as (cL (d sl ce) k)) :
  toT G E RP d σ H fun b H2=>∃a F' as' ce',Le F as F' as'/\SR G F' as' H2 σ sl ce'/\RP F' as' a b/\aY G E D F' as' (k a ce'):=by
 refine⟨F,as,sl,ce,S,?_⟩;revert P;unfold cL;cases d sl ce with
 | none=>exact fun P=>P
 | some r=>cases r with
  | ok a ce'=>exact fun P b H' F' as' l S' r=>⟨a,F',as',ce',l,S',r,P.le l⟩
  | ex x ce'=>exact fun P=>P
theorem aY.nxt(S:SR G F as H σ sl ce)(P:aY G E D F as (some (.go .nx sl ce))):D.nx σ H:=P σ H F as .refl S
end
def bu:DS:=fun sl ce=>some (.go .nx sl ce)
def vh:DS:=fun sl ce=>some (.go .ct sl ce)
def aq(a b:DS):DS:=fun sl ce=>match a sl ce with
 | some (.go .nx sl' ce')=>b sl' ce'
 | r=>r
def b_(d:Sl->M W):DS:=fun sl ce=>cL (d sl ce) fun _ ce'=>some (.go .nx sl ce')
def aW(d:Sl->M W):DS:=fun sl ce=>cL (d sl ce) fun w ce'=>some (.go (.rt w) sl ce')
def bb(c:Sl->M Bool)(a b:DS):DS:=fun sl ce=>cL (c sl ce) fun t ce'=>match t with
 | true=>a sl ce'
 | false=>b sl ce'
abbrev DG:=W->Sl->Ce->Option (Sl×Ce)
def gN(i:Nat):DG:=fun w sl ce=>some (sl.set i (some w),ce)
def iN(d:Sl->M W)(g:DG):DS:=fun sl ce=>cL (d sl ce) fun w ce'=>match g w sl ce' with
 | some (sl',ce'')=>some (.go .nx sl' ce'')
 | none=>none
def aM(i:Nat)(d:Sl->M W):DS:=fun sl ce=>cL (d sl ce) fun w ce'=>some (.go .nx (sl.set i (some w)) ce')
def nK(G:Ga)(X:Cx)(tg:Expr)(g:DG):Prop:=∃t:TG,PG X tg t/\∀F as H σ sl ce w v sl' ce' (Q:VS.St->Hp->Prop),SR G F as H σ sl ce->Rep F as w v->g w sl ce=some (sl',ce') ->
 (∀σ' H' F' as',Le F as F' as'->SR G F' as' H' σ' sl' ce'->Q σ' H')->t v σ H Q
def pw(G:Ga)(X:Cx)(tgs:List Expr)(g:List W->Sl->Ce->Option (Sl×Ce)):Prop:=∃t:lp,PGs X tgs t/\∀F as H σ sl ce ws vs sl' ce' (Q:VS.St->Hp->Prop),SR G F as H σ sl ce->ah F as ws vs->g ws sl ce=some (sl',ce') ->
 (∀σ' H' F' as',Le F as F' as'->SR G F' as' H' σ' sl' ce'->Q σ' H')->t vs σ H Q
def n6:List W->Sl->Ce->Option (Sl×Ce):=fun ws sl ce=>match ws with
 | []=>some (sl,ce)
 | _=>none
def jR(g:DG)(r:List W->Sl->Ce->Option (Sl×Ce)):List W->Sl->Ce->Option (Sl×Ce):=fun ws sl ce=>match ws with
 | w::ws=>match g w sl ce with
  | some (sl',ce')=>r ws sl' ce'
  | none=>none
 | []=>none
def gT(n:Nat)(r:List W->Sl->Ce->Option (Sl×Ce)):DG:=fun w sl ce=>match w with
 | .tup ws=>if ws.length=n then r ws sl ce else none
 | _=>none
variable {t tg:Expr} {c:Sl->M Bool} {r:List W->Sl->Ce->Option (Sl×Ce)} {pos':Pos}
section
variable {st:Stmt} {rest:List Stmt} {a b:DS} {g:DG}
theorem bR:PSs X [] (dF G E bu):=PSs.imp Fq fun D σ H zz_=>bB zz_ fun F as sl ce S P=>P.nxt S
theorem Jl:PS X (.Continue pos) (dF G E vh):=PS.imp Jo fun D σ H zz_=>bB zz_ fun F as sl ce S P=>P σ H F as .refl S
theorem aF(h:PS X st (dF G E a)):PSs X [st] (dF G E a):=x_ h
theorem az(h1:PS X st (dF G E a))(h2:PSs X rest (dF G E b)):PSs X (st::rest) (dF G E (aq a b)):=by
 refine PSs.imp (yZ h1 h2) fun D σ H zz_=>bB zz_ fun F as sl ce S P=>⟨F,as,sl,ce,S,?_⟩
 revert P;unfold aq;cases a sl ce with
 | none=>exact fun P=>P.elim
 | some r=>cases r with
  | ex x ce'=>exact fun P=>P
  | go f sl' ce'=>cases f with
   | nx=>exact fun P σ' H' F' as' l S'=>⟨F',as',sl',ce',S',P.le l⟩
   | bk=>exact fun P=>P
   | ct=>exact fun P=>P
   | rt w=>exact fun P=>P
theorem ee(he:PE X e (av G E d))(hs:swapsWith e none pos.line X.env=pure false:=by rfl):PS X (.Expr e pos) (dF G E (b_ d)) :=
 PS.imp (xZ he hs) fun D σ H zz_=>bB zz_ fun F as sl ce S P=>(ir S P).mono fun x H1 zz_=>bf zz_ fun wx F1 as1 ce1 l1 S1 rx P1=>P1.nxt S1
theorem bq(he:PE X e (av G E d)):PS X (.Return (some e) pos) (dF G E (aW d)) :=
 PS.imp (D7 he) fun D σ H zz_=>bB zz_ fun F as sl ce S P=>(ir S P).mono fun x H1 zz_=>bf zz_ fun wx F1 as1 ce1 l1 S1 rx P1=>P1 σ H1 F1 as1 .refl S1 x rx
theorem bM{sa sb:List Stmt}(hc:PT X t (cg G E c))(ha:PSs X sa (dF G E a))(hb:PSs X sb (dF G E b)):PS X (.If t sa sb pos) (dF G E (bb c a b)):=by
 refine PS.imp (Cs hc ha hb) fun D σ H zz_=>bB zz_ fun F as sl ce S P=>(ir (RP:=rB) S P).mono fun x H1 zz_=>bf zz_ fun wx F1 as1 ce1 l1 S1 rx P1=>?_;have rx:wx=x:=rx;subst rx;cases wx
 ·rw[if_neg Bool.false_ne_true];exact⟨F1,as1,sl,ce1,S1,P1⟩
 ·rw[if_pos rfl];exact⟨F1,as1,sl,ce1,S1,P1⟩
theorem a_{x:Str}(hN:X.N.Nodup)(hi:X.N[i]?=some x)(hx:Loc X.env.scope x)(he:PE X e (av G E d))(hs:swapsWith e (some (.Name x pos')) pos.line X.env=pure false:=by rfl)(hf:X.fn x=true\/X.env.scope.names.lookup x=some .local:=by first|exact .inl rfl|exact .inr rfl|assumption):PS X (.Assign [.Name x pos'] e pos) (dF G E (aM i d)) :=
 PS.imp (D3 hN hi hx he hs hf) fun D σ H zz_=>bB zz_ fun F as sl ce S P=>(ir S P).mono fun x H1 zz_=>bf zz_ fun wx F1 as1 ce1 l1 S1 rx P1=>P1 _ H1 F1 as1 .refl (S1.put rx i)
theorem c5{x:Str}(hN:X.N.Nodup)(hi:X.N[i]?=some x)(hx:Loc X.env.scope x)(hf:X.fn x=true\/X.env.scope.names.lookup x=some .local:=by first|exact .inl rfl|exact .inr rfl|assumption):nK G X (.Name x pos) (gN i) :=
 ⟨h_ i,tj hN hi hx hf,fun F as H σ sl ce w v sl' ce' Q S r e k=>by
  cases e;exact k _ _ _ _ .refl (S.put r i)⟩
theorem sY:pw G X [] n6:=⟨_,Fp,fun F as H σ sl ce ws vs sl' ce' Q S r e k=>by
 cases ws with
 | nil=>cases e;simp only[ah] at r;exact⟨r,k _ _ _ _ .refl S⟩
 | cons w ws=>cases e⟩
theorem nE(h1:nK G X e g)(h2:pw G X es r)(hs:(assignEach (e::es) X.env).map (·.2)=assign e X.env::(assignEach es X.env).map (·.2):=by rfl):pw G X (e::es) (jR g r):=by
 obtain⟨t,h1,q1⟩:=h1;obtain⟨u,h2,q2⟩:=h2;refine⟨_,Hj h1 h2 hs,fun F as H σ sl ce ws vs sl' ce' Q S rs e k=>?_⟩;cases ws with
 | nil=>cases e
 | cons w ws =>
  simp only[ah] at rs;obtain⟨v,vs',rfl,rv,rs⟩:=rs;simp only[jR] at e;split at e
  ·rename_i sl1 ce1 eg;refine⟨v,vs',rfl,q1 F as H σ sl ce w v sl1 ce1 _ S rv eg fun σ' H' F' as' l S'=>?_⟩;exact q2 F' as' H' σ' sl1 ce1 ws vs' sl' ce' Q S' (rs.le l) e fun σ2 H2 F2 as2 l2 S2=>k _ _ _ _ (l.trans l2) S2
  ·cases e
theorem se(hc:X.calm=true)(h:pw G X es r)(hn:(assignEach es X.env).length=n:=by rfl)(hst:(assignEach es X.env).findIdx? (·.1)=none:=by rfl):nK G X (.Tuple es k pos) (gT n r):=by
 obtain⟨t,h,q⟩:=h;refine⟨_,D6 hc h hn hst,fun F as H σ sl ce w v sl' ce' Q S rw' e k=>?_⟩;cases w<;>simp only[gT,reduceCtorEq] at e;split at e
 ·rename_i ws hl;simp only[Rep] at rw';obtain⟨a,vs,rfl,ha,rs⟩:=rw';exact⟨a,vs,rfl,.inl (.inl (S.st.sub _ _ ha)),by rw[rs.length];exact hl,q F as H σ sl ce _ vs sl' ce' Q S rs e k⟩
 ·cases e
theorem oE(he:PE X e (av G E d))(hg:nK G X tg g)(hs:swapsWithSole [tg] e pos.line X.env=pure false:=by rfl)(hw:swappedStores [tg] e X.env=pure none:=by rfl)(h1:(assignEach [tg] X.env).map (·.2)=[assign tg X.env]:=by rfl):PS X (.Assign [tg] e pos) (dF G E (iN d g)):=by
 obtain⟨t,hg,q⟩:=hg;refine PS.imp (D4 he hg hs hw h1) fun D σ H zz_=>bB zz_ fun F as sl ce S P=>(ir S P).mono fun x H1 zz_=>bf zz_ fun wx F1 as1 ce1 l1 S1 rx P1=>?_;split at P1
 ·rename_i sl' ce'' eg;exact q F1 as1 H1 σ sl ce1 wx x sl' ce'' _ S1 rx eg fun σ' H' F' as' l S'=>P1 σ' H' F' as' l S'
 ·exact(show False from P1).elim
def jG(ce:Ce):W->Option (Nat×List W)
 | .cel k=>match ce[k]? with
  | some (.lst xs)=>some (k,xs)
  | _=>none
 | _=>none
def kR(ce:Ce):W->Option (Nat×List (Key×W))
 | .cel k=>match ce[k]? with
  | some (.dct xs)=>some (k,xs)
  | _=>none
 | _=>none
theorem oS(S:ax G F as H ce)(r:Rep F as w v)(e:jG ce w=some (k,xs)):∃a vs,v=.ref a/\as[k]?=some a/\H a=some (.lst vs)/\ah F as xs vs:=by
 cases w<;>simp only[jG,reduceCtorEq] at e;split at e
 ·rename_i hc;cases e;simp only[Rep] at r;obtain⟨a,rfl,h⟩:=r;obtain⟨_,vs,h2,rs⟩:=S.cell _ _ _ h hc;exact⟨a,vs,rfl,h,h2,rs⟩
 ·cases e
theorem Ho{xs:List (Key×W)}(S:ax G F as H ce)(r:Rep F as w v)(e:kR ce w=some (k,xs)):∃a ps,v=.ref a/\as[k]?=some a/\H a=some (.dK ps)/\aA F as xs ps:=by
 cases w<;>simp only[kR,reduceCtorEq] at e;split at e
 ·rename_i hc;cases e;simp only[Rep] at r;obtain⟨a,rfl,h⟩:=r;obtain⟨_,ps,h2,rs⟩:=S.cell _ _ _ h hc;exact⟨a,ps,rfl,h,h2,rs⟩
 ·cases e
def kh(o i:Sl->M W):DG:=fun w sl ce=>match o sl ce with
 | some (.ok ow ce1)=>match i sl ce1 with
  | some (.ok (.int j) ce2)=>match jG ce2 ow with
   | some (k,xs)=>match gm xs.length j with
    | some n=>some (sl,ce2.set k (.lst (xs.set n w)))
    | none=>none
   | none=>none
  | _=>none
 | _=>none
theorem sX{o i:Expr}(ho:PE X o (av G E da))(hi:PE X i (av G E db))(hA:∀v,assign (.Subscript o i pos) X.env v=(do
   let ov <- holding [v] (eval o X.env)
   let iv <- holding [v,ov] (eval i X.env)
   standAt pos
   holding [v,ov,iv] (setItem ov iv v)
   release [v,ov,iv] []):=by intro _;rfl):nK G X (.Subscript o i pos) (kh da db):=by
 refine⟨_,D5 ho hi G9 hA,fun F as H σ sl ce w v sl' ce' Q S rw' e k=>?_⟩;unfold kh at e;refine⟨F,as,sl,ce,S,?_⟩;cases e1:da sl ce with
 | none=>rw[e1] at e;cases e
 | some r1=>cases r1 with
  | ex x c=>rw[e1] at e;cases e
  | ok ow ce1 =>
   rw[e1] at e;intro ov H1 F1 as1 l1 S1 ro;refine⟨F1,as1,sl,ce1,S1,?_⟩;dsimp only at e;cases e2:db sl ce1 with
   | none=>rw[e2] at e;cases e
   | some r2=>cases r2 with
    | ex x c=>rw[e2] at e;cases e
    | ok iw ce2 =>
     rw[e2] at e;intro iv H2 F2 as2 l2 S2 ri;cases iw<;>simp only[reduceCtorEq] at e;rename_i j;split at e
     ·rename_i kk xs hk;split at e
      ·rename_i n hn;cases e;simp only[Rep] at ri;subst ri;obtain⟨a,vs,rfl,ha,hH,rs⟩:=oS S2.st (ro.le l2) hk;have rset:=rs.set n ((rw'.le l1).le l2);refine⟨a,vs,j,n,rfl,rfl,hH,by rw[rs.length];exact hn,?_⟩;exact k _ _ _ _ (l1.trans l2) (S2.slots (S2.st.write (o:=.lst (vs.set n v)) (c:=.lst (xs.set n w)) ha ⟨_,ak,rset⟩) .refl)
      ·cases e
     ·cases e
open Classical in
def iM(o i v:Sl->M W):DS:=fun sl ce=>cL (v sl ce) fun w ce1=>cL (o sl ce1) fun ow ce2=>cL (i sl ce2) fun iw ce3=>match iO iw,kR ce3 ow with
 | some key,some (k,kvs)=>if kvs.length<sizeLine then some (.go .nx sl (ce3.set k (.dct (ib kvs key w)))) else none
 | _,_=>none
theorem lJ{o i value:Expr}(hu:X.A.units+1<cLine)(ho:PE X o (av G E da))(hi:PE X i (av G E db))(hv:PE X value (av G E dc))(hs:swapsWith value (some (.Subscript o i pos')) pos.line X.env=pure false:=by rfl) :
  PS X (.Assign [.Subscript o i pos'] value pos) (dF G E (iM da db dc)):=by
 refine PS.imp (Fw hu ho hi hv hs) fun D σ H zz_=>bB zz_ fun F as sl ce S P=>(ir S P).mono fun x H1 zz_=>bf zz_ fun wx F1 as1 ce1 l1 S1 rx P1=>(ir S1 P1).mono fun y H2 zz_=>bf zz_ fun wy F2 as2 ce2 l2 S2 ry P2=>(ir S2 P2).mono fun z H3 zz_=>bf zz_ fun wz F3 as3 ce3 l3 S3 rz P3=>?_;split at P3
 ·rename_i key kk kvs hk hc;split at P3
  ·rename_i hl;obtain⟨a,ps,rfl,ha,hH,rk⟩:=Ho S3.st (ry.le l3) hc;rw[s9 rz hk];have rput:=rk.put key ((rx.le l2).le l3);refine⟨a,_,rfl,jB.kz hH (by rw[<- rk.length];exact hl),?_⟩;exact P3 _ _ _ _ .refl (S3.slots (S3.st.write (o:=.dK (fS ps key x)) (c:=.dct (ib kvs key wx)) ha ⟨_,ak,rput⟩) .refl)
  ·exact(show False from P3).elim
 ·exact(show False from P3).elim
end
inductive Src where
 | lst (xs:List W)|tup (xs:List W)|cell (k:Nat) (xs:List W)|rng (lo:Int) (n:Nat)|dky (xs:List W)
def kW:Key->W
 | .inl i=>.int i
 | .inr x=>.str x
def Src.items:Src->List W
 | .lst xs=>xs
 | .tup xs=>xs
 | .cell _ xs=>xs
 | .rng lo n=>(List.range n).map fun(i:Nat)=>W.int (lo+(i:Int))
 | .dky xs=>xs
def Src.Stays(ce:Ce):Src->Prop
 | .cell k xs=>ce[k]?=some (.lst xs)
 | _=>True
def c_(K:Frag)(F:Hp)(as:List Addr):Src->It->Prop
 | .lst xs,J=>∃a vs,J=mq K a/\Rd F a (.lst vs)/\ah F as xs vs
 | .tup xs,J=>∃a vs,J=ve K a/\Rd F a (.tup vs)/\ah F as xs vs
 | .cell k _,J=>∃a,J=mq K a/\as[k]?=some a
 | .rng lo n,J=>J=qS lo n
 | .dky xs,J=>∃a o ps,J=nL a o ps/\F a=some (.frz o (.dK ps))/\xs=ps.map fun p=>kW p.1
theorem c_.le{K:Frag}{F F':Hp}{as as':List Addr}{s:Src}{J:It}(l:Le F as F' as')(h:c_ K F as s J):c_ K F' as' s J:=by
 cases s with
 | lst xs=>obtain⟨a,vs,e,h,r⟩:=h;exact⟨a,vs,e,l.rd h,r.le l⟩
 | tup xs=>obtain⟨a,vs,e,h,r⟩:=h;exact⟨a,vs,e,l.rd h,r.le l⟩
 | cell k xs=>obtain⟨a,e,h⟩:=h;exact⟨a,e,l.c _ _ h⟩
 | rng lo n=>exact h
 | dky xs=>obtain⟨a,o,ps,e,h,q⟩:=h;exact⟨a,o,ps,e,l.f _ _ h,q⟩
theorem c_.turn{s:Src}{J:It}(S:ax G F as H ce)(h:c_ K F as s J)(hs:s.Stays ce)(i:Nat) :
  (i<s.items.length->J.go i H/\∀x H',J.yld i H x H'->H'=H/\∃w,s.items[i]?=some w/\Rep F as w x)/\(i=s.items.length->J.stop i H):=by
 have lst:∀{a:Addr} {vs:List V} {xs:List W},cY K H a vs->ah F as xs vs->(i<xs.length->(mq K a).go i H/\∀x H',(mq K a).yld i H x H'->H'=H/\∃w,xs[i]?=some w/\Rep F as w x)/\(i=xs.length->(mq K a).stop i H):=by intro a vs xs hq rs;have hl:=rs.length;refine⟨fun hi=>⟨⟨vs,vs[i]'(by omega),hq,by simp⟩,fun x H' y=>?_⟩,fun hi=>⟨vs,hq,by omega⟩⟩;obtain⟨e,y⟩:=y;exact⟨e,rs.get' (y vs hq)⟩
 cases s with
 | lst xs=>obtain⟨a,vs,rfl,h,r⟩:=h;exact lst (.inl (Rd.sub S h)) r
 | cell k xs =>
  obtain⟨a,rfl,h⟩:=h;obtain⟨_,vs,h2,rs⟩:=S.cell _ _ _ h hs;exact lst (.inl (.inl h2)) rs
 | tup xs =>
  obtain⟨a,vs,rfl,h,rs⟩:=h;have hq:eY K H a vs:=.inl (Rd.sub S h);have hl:=rs.length;refine⟨fun hi=>⟨⟨vs,vs[i]'(by show i<_;simp only[Src.items] at hi;omega),hq,by simp⟩,fun x H' y=>?_⟩,fun hi=>⟨vs,hq,by simp only[Src.items] at hi;omega⟩⟩;obtain⟨e,y⟩:=y;exact⟨e,rs.get' (y vs hq)⟩
 | rng lo n =>
  cases h;have hl:(Src.rng lo n).items.length=n:=by simp[Src.items]
  rw[hl];refine⟨fun hi=>⟨hi,fun x H' y=>?_⟩,fun hi=>by rw[hi];exact le_refl _⟩;obtain⟨e,rfl⟩:=y;refine⟨e,.int (lo+i),?_,by simp only[Rep]⟩;simp[Src.items,hi]
 | dky xs =>
  obtain⟨a,o,ps,rfl,h,rfl⟩:=h;have hH:=S.sub _ _ h;have hl:(Src.dky (ps.map fun p=>kW p.1)).items.length=ps.length:=by simp[Src.items]
  rw[hl];refine⟨fun hi=>⟨⟨hH,hi⟩,fun x H' y=>?_⟩,fun hi=>⟨hH,hi.symm⟩⟩;obtain⟨e,p,hp,rfl⟩:=y;refine⟨e,kW p.1,by simp only[Src.items,getElem?_map,hp,map_some],?_⟩;cases p.1<;>simp only[kW,kV,Rep]
abbrev kQ(G:Ga)(E:XK)(K:Frag)(d:Sl->M Src):TI:=toT G E (c_ K) d
theorem PI.imp{t t':TI}(h:PI X tg e t)(q:∀σ H R,t' σ H R->t σ H R):PI X tg e t':=fun pins s σ H Q I z=>h pins s σ H Q I (q _ _ _ z)
def gA(ce:Ce):W->Option Src
 | .lst xs=>some (.lst xs)
 | .cel k=>match ce[k]? with
  | some (.lst xs)=>some (.cell k xs)
  | _=>none
 | _=>none
def qV:W->Option Src
 | .tup xs=>some (.tup xs)
 | _=>none
def qN(d:Sl->M W):Sl->M Src:=fun sl=>aw (d sl) fun w ce=>match w with
 | .cel k=>match ce[k]? with
  | some (.dct kvs)=>some (.ok (.dky (kvs.map fun p=>kW p.1)) (ce.set k (.fzd kvs)))
  | some (.fzd kvs)=>some (.ok (.dky (kvs.map fun p=>kW p.1)) ce)
  | _=>none
 | _=>none
def cS(d:Sl->M W):Sl->M Src:=fun sl=>aw (d sl) fun w=>look fun ce=>gA ce w
def i8(d:Sl->M W):Sl->M Src:=fun sl=>aw (d sl) fun w=>look fun _=>qV w
open Classical in
def jF:List W->Option Src
 | [.int j]=>@ite _ (-4611686018427387904<=j/\j<4611686018427387904) (Classical.propDecidable _) (some (.rng 0 j.toNat)) none
 | _=>none
def fQ(d:Sl->M (List W)):Sl->M Src:=fun sl=>aw (d sl) fun ws=>look fun _=>jF ws
variable {p:Pos}
section
variable {a:Expr}
theorem fv(hl:PE X a (av G E da)):PI X tg a (kQ G E X.K (cS da)):=by
 refine PI.imp (Fo hl) fun σ H R zz_=>bB zz_ fun F as sl ce S P=>(step S P).mono fun x H1 zz_=>bf zz_ fun wx F1 as1 ce1 l1 S1 rx P1=>?_;obtain⟨src,e,P2⟩:=jV P1;cases wx<;>simp only[gA,reduceCtorEq,Option.some.injEq] at e
 ·subst e;simp only[Rep] at rx;obtain⟨a,vs,rfl,h,rs⟩:=rx;exact⟨a,rfl,⟨vs,.inl (Rd.sub S1.st h)⟩,aJ.done (RP:=c_ X.K) S1 P2 ⟨a,vs,rfl,h,rs⟩⟩
 ·split at e
  ·rename_i hc;cases e;simp only[Rep] at rx;obtain⟨a,rfl,h⟩:=rx;obtain⟨_,vs,h2,rs⟩:=S1.st.cell _ _ _ h hc;exact⟨a,rfl,⟨vs,.inl (.inl h2)⟩,aJ.done (RP:=c_ X.K) S1 P2 ⟨a,rfl,h⟩⟩
  ·cases e
theorem aA.kW{kvs:List (Key×W)}(r:aA F as kvs ps):(kvs.map fun p=>VS.kW p.1)=ps.map fun p=>VS.kW p.1:=by
 induction r with
 | nil=>rfl
 | cons h t ih=>rw[map_cons,map_cons,ih,h.1]
theorem ax.fzd{a:Addr}{kvs:List (Key×W)}(S:ax G F as H ce)(h:as[k]?=some a)(hc:ce[k]?=some (.dct kvs))(hH:H a=some (.dK ps))(r:aA F as kvs ps)(o:Obj) :
  ax G (upd F a (.frz o (.dK ps))) as (upd H a (.frz o (.dK ps))) (ce.set k (.fzd kvs))/\Le F as (upd F a (.frz o (.dK ps))) as:=by
 have hk:k<ce.length:=dZ hc;have q1:F a=none:=(S.cell k a _ h hc).1 rfl;have l:Le F as (upd F a (.frz o (.dK ps))) as:=⟨fM q1,fun _ _ h=>h⟩
 refine⟨⟨fun b u e=>?_,S.nd,by rw[length_set];exact S.len,fun j b c h1 h2=>?_⟩,l⟩
 ·by_cases hb:b=a
  ·subst hb;rw[ak] at e ⊢;exact e
  ·rw[bt hb] at e ⊢;exact S.sub _ _ e
 ·by_cases hj:k=j
  ·subst hj;rw[getElem?_set_self hk] at h2;rw[h] at h1;cases h1;cases h2;exact⟨(fun z=>by cases z),o,ps,ak,ak,r.le l⟩
  ·rw[getElem?_set_ne hj] at h2;obtain⟨p1,p2⟩:=S.cell j b c h1 h2;have hb:b≠a:=fun z=>by
    subst z;have hj':j<as.length:=dZ h1;have hk':k<as.length:=dZ h;have e1:as[k]=as[j]:=by rw[getElem?_eq_getElem hk'] at h;rw[getElem?_eq_getElem hj'] at h1;exact(Option.some.inj h).trans (Option.some.inj h1).symm
    exact hj (oG S.nd hk' hj' e1)
   exact⟨fun z=>by rw[bt hb];exact p1 z,p2.le l (bt hb)⟩
theorem AZ(hl:PE X a (av G E da)):PI X tg a (kQ G E X.K (qN da)):=by
 refine PI.imp (Ez hl) fun σ H R zz_=>bB zz_ fun F as sl ce S P=>(step S P).mono fun x H1 zz_=>bf zz_ fun wx F1 as1 ce1 l1 S1 rx P1=>?_;cases wx<;>first|exact P1.elim|skip
 rename_i k;simp only[Rep] at rx;obtain⟨a,rfl,h⟩:=rx;dsimp only at P1;refine⟨a,rfl,?_⟩;split at P1
 ·rename_i kvs hc;obtain⟨_,ps,hH,r⟩:=S1.st.cell _ _ _ h hc;refine .inl ⟨ps,hH,fun o=>?_⟩;obtain⟨S2,l2⟩:=S1.st.fzd h hc hH r o;exact P1 (nL a o ps) _ _ _ l2 (S1.slots S2 l2) ⟨a,o,ps,rfl,ak,r.kW⟩
 ·rename_i kvs hc;obtain⟨_,o,ps,hF,hH,r⟩:=S1.st.cell _ _ _ h hc;exact .inr ⟨o,ps,hH,aJ.done (RP:=c_ X.K) S1 P1 ⟨a,o,ps,rfl,hF,r.kW⟩⟩
 ·exact P1.elim
theorem lA(hl:PE X a (av G E da)):PI X tg a (kQ G E X.K (i8 da)):=by refine PI.imp (DZ hl) fun σ H R zz_=>bB zz_ fun F as sl ce S P=>(step S P).mono fun x H1 zz_=>bf zz_ fun wx F1 as1 ce1 l1 S1 rx P1=>?_;obtain⟨src,e,P2⟩:=jV P1;cases wx<;>simp only[qV,reduceCtorEq,Option.some.injEq] at e;subst e;simp only[Rep] at rx;obtain⟨a,vs,rfl,h,rs⟩:=rx;exact⟨a,rfl,⟨vs,.inl (.inl (S1.st.sub _ _ h))⟩,aJ.done (RP:=c_ X.K) S1 P2 ⟨a,vs,rfl,.inl h,rs⟩⟩
theorem iQ(hg:Gl X "range")(hm:X.mg "range" = none)(ha:PA X [a] (fw G E dr))(hs:starEach [a] X.env=[(false,eval a X.env)]:=by rfl):PI X tg (.Call (.Name "range" p) [a] [] pos) (kQ G E X.K (fQ dr)):=by
 refine PI.imp (HS hg hm ha hs) fun σ H R zz_=>bB zz_ fun F as sl ce S P=>(step (RP:=ah) S P).mono fun x H1 zz_=>bf zz_ fun wx F1 as1 ce1 l1 S1 rx P1=>?_;obtain⟨src,e,P2⟩:=jV P1;unfold jF at e;split at e
 ·rename_i j;split at e
  ·rename_i hj;cases e;simp only[ah,Rep] at rx;obtain⟨v,r,rfl,rfl,rfl⟩:=rx;exact⟨j,rfl,by omega,by omega,aJ.done (RP:=c_ X.K) S1 P2 rfl⟩
  ·cases e
 ·cases e
end
open Classical in
def gS(s:Src)(g:DG)(body:DS):List W->DS
 | []=>fun sl ce=>if s.Stays ce then some (.go .nx sl ce) else none
 | x::r=>fun sl ce=>if s.Stays ce then (match g x sl ce with
  | some (sl1,ce1)=>match body sl1 ce1 with
   | some (.go .nx sl2 ce2)=>gS s g body r sl2 ce2
   | some (.go .ct sl2 ce2)=>gS s g body r sl2 ce2
   | some (.go .bk sl2 ce2)=>some (.go .nx sl2 ce2)
   | o=>o
  | none=>none) else none
def cD(i:Sl->M Src)(g:DG)(body:DS):DS:=fun sl ce=>cL (i sl ce) fun s ce'=>gS s g body s.items sl ce'
def iX(c:Sl->M Bool)(body:DS):Nat->DS
 | 0=>fun _ _=>none
 | n+1=>fun sl ce=>cL (c sl ce) fun t ce1=>match t with
  | false=>some (.go .nx sl ce1)
  | true=>match body sl ce1 with
   | some (.go .nx sl2 ce2)=>iX c body n sl2 ce2
   | some (.go .ct sl2 ce2)=>iX c body n sl2 ce2
   | some (.go .bk sl2 ce2)=>some (.go .nx sl2 ce2)
   | o=>o
variable {iter:Expr} {di:Sl->M Src}
section
variable {body:List Stmt} {g:DG} {b:DS}
theorem zK{N:VS.St->Hp->Prop}{k:DS}{r:Option O}(P:aY G E D F as (match r with
   | some (.go .nx sl2 ce2)=>k sl2 ce2
   | some (.go .ct sl2 ce2)=>k sl2 ce2
   | some (.go .bk sl2 ce2)=>some (.go .nx sl2 ce2)
   | o=>o))(hN:∀σ H F' as' sl ce,Le F as F' as'->SR G F' as' H σ sl ce->aY G E D F' as' (k sl ce)->N σ H):aY G E { D with nx:=N,ct:=N,bk:=D.nx } F as r:=by
 cases r with
 | none=>exact P
 | some r=>cases r with
  | ex x ce'=>exact P
  | go f sl' ce'=>cases f with
   | nx=>exact fun σ' H' F' as' l S'=>hN σ' H' F' as' sl' ce' l S' (P.le l)
   | ct=>exact fun σ' H' F' as' l S'=>hN σ' H' F' as' sl' ce' l S' (P.le l)
   | bk=>exact fun σ' H' F' as' l S'=>P σ' H' F' as' l S'
   | rt w=>exact fun σ' H' F' as' l S'=>P σ' H' F' as' l S'
theorem dY(hp:PassesOwn (model X.prog X.w) X.A X.env X.xe)(hc:X.calm=true)(hi:PI X tg iter (kQ G E X.K di))(hg:nK G X tg g)(hb:PSs X body (dF G E b))(hs:∀x,foldedSetIterable iter X.env x=pure x:=by intro _;rfl):PS X (.For tg iter body [] pos) (dF G E (cD di g b)):=by
 obtain⟨tgt,hg,qg⟩:=hg;refine PS.imp (DY hp hc hi hg hb hs) fun D σ H zz_=>bB zz_ fun F as sl ce S P=>(ir (RP:=c_ X.K) S P).mono fun J H1 zz_=>bf zz_ fun s F1 as1 ce1 l1 S1 rJ P1=>?_;refine⟨fun i m σ H=>∃F as sl ce,SR G F as H σ sl ce/\c_ X.K F as s J/\m=s.items.length-i/\i<=s.items.length/\aY G E D F as (gS s g b (s.items.drop i) sl ce),⟨s.items.length,F1,as1,sl,ce1,S1,rJ,rfl,zero_le _,P1⟩,?_⟩;rintro i m σ H ⟨F,as,sl,ce,S,rJ,rfl,hi,P⟩
 by_cases hlt:i<s.items.length
 ·rw[drop_eq_getElem_cons hlt] at P;simp only[gS] at P;split at P
  ·rename_i hst;obtain⟨t1,t2⟩:=rJ.turn S.st hst i;obtain⟨go,yl⟩:=t1 hlt;refine .inr ⟨go,_,fun σ' H' h=>h,fun x H' y=>?_⟩;obtain⟨rfl,w,hw,rw'⟩:=yl x H' y;rw[getElem?_eq_getElem hlt] at hw;cases hw;split at P
   ·rename_i sl1 ce1 eg;refine qg F as H' σ sl ce _ x sl1 ce1 _ S rw' eg fun σ' H2 F' as' l S'=>⟨F',as',sl1,ce1,S',?_⟩
    refine zK (P.le l) fun σ3 H3 F3 as3 sl3 ce3 l3 S3 P3=>?_;exact⟨s.items.length-(i+1),by omega,F3,as3,sl3,ce3,S3,rJ.le (l.trans l3),rfl,hlt,P3⟩
   ·exact(show False from P).elim
  ·exact(show False from P).elim
 ·have e:i=s.items.length:=by omega
  subst e;rw[drop_length] at P;simp only[gS] at P;split at P
  ·rename_i hst;exact .inl ⟨(rJ.turn S.st hst _).2 rfl,P.nxt S⟩
  ·exact(show False from P).elim
theorem yO(n:Nat)(hp:PassesOwn (model X.prog X.w) X.A X.env X.xe)(hc:PT X t (cg G E c))(hb:PSs X body (dF G E b)):PS X (.While t body [] pos) (dF G E (iX c b n)):=by
 refine PS.imp (Hi hp hc hb) fun D σ H zz_=>bB zz_ fun F as sl ce S P=>?_;refine⟨fun m σ H=>∃F as sl ce,SR G F as H σ sl ce/\aY G E D F as (iX c b m sl ce),⟨n,F,as,sl,ce,S,P⟩,?_⟩;rintro m σ H ⟨F,as,sl,ce,S,P⟩;cases m with
 | zero=>exact(show False from P).elim
 | succ m =>
  refine(ir (RP:=rB) S P).mono fun x H1 zz_=>bf zz_ fun wx F1 as1 ce1 l1 S1 rx P1=>?_;have rx:wx=x:=rx;subst rx;cases wx
  ·rw[if_neg Bool.false_ne_true];exact P1.nxt S1
  ·rw[if_pos rfl];refine⟨fun σ' H'=>∃F as sl ce,SR G F as H' σ' sl ce/\aY G E D F as (iX c b m sl ce),fun σ' H' h=>⟨m,lt_succ_self _,h⟩,F1,as1,sl,ce1,S1,?_⟩;exact zK P1 fun σ3 H3 F3 as3 sl3 ce3 l3 S3 P3=>⟨F3,as3,sl3,ce3,S3,P3⟩
end
def dE(js:List Nat)(sl:Sl):Sl:=js.map fun j=>sl.getD j none
open Classical in
def dU(s:Src)(cs:Sl)(c:Sl->M Bool)(e:Sl->M W):List W->List W->M (List W)
 | [],ys=>fun ce=>if s.Stays ce then some (.ok ys ce) else none
 | x::r,ys=>fun ce=>if s.Stays ce/\ys.length<sizeLine then aw (c (some x::cs)) (fun t=>match t with
   | true=>aw (e (some x::cs)) fun y=>dU s cs c e r (ys++[y])
   | false=>dU s cs c e r ys) ce else none
def cM(mk:List W->M W)(js:List Nat)(i:Sl->M Src)(c:Sl->M Bool)(e:Sl->M W):Sl->M W:=fun sl=>aw (i sl) fun s=>aw (dU s (dE js sl) c e s.items []) mk
def dD:Sl->M Bool:=fun _=>ret true
variable {ifs:List Expr} {Y:Cx} {sl' cs:Sl}
section
variable {elt:Expr} {x:Str} {px:Pos} {scope:Scope} {js:List Nat} {caps:List Str} {e:Sl->M W}
theorem PIfs.imp{t:TT}(h:PIfs Y ifs t)(q:∀σ H Q,t' σ H Q->t σ H Q):PIfs Y ifs t':=fun pins s σ H Q I z=>h pins s σ H Q I (q _ _ _ z)
theorem kC:PIfs Y [] (cg G E dD):=PIfs.imp G7 fun σ H Q zz_=>bB zz_ fun F as sl ce S P=>aJ.done (RP:=rB) S (a:=true) P rfl
theorem oR(h:PT Y t (cg G E c)):PIfs Y [t] (cg G E c):=G6 h
theorem SR.cap{σ:VS.St}(S:SR G F as H σ sl ce)(js:List Nat)(r:Rep F as w v):SR G F as H (some v::ik js σ) (some w::dE js sl) ce:=by
 refine⟨S.st,by simp[ik,dE],fun i u h=>?_⟩;cases i with
 | zero=>simp at h;subst h;exact⟨v,rfl,r⟩
 | succ i =>
  simp only[dE,getElem?_cons_succ,getElem?_map] at h;cases e:js[i]? with
  | none=>rw[e] at h;cases h
  | some j =>
   rw[e] at h;have hj:sl[j]?=some (some u):=by
    have h':sl.getD j none=some u:=by simpa using h
    rw[getD_eq_getElem?_getD] at h';cases q:sl[j]? with
    | none=>rw[q] at h';cases h'
    | some z=>rw[q] at h';simp at h';rw[h']
   obtain⟨v',h1,h2⟩:=S.slot j u hj;refine⟨v',?_,h2⟩;simp only[ik,getElem?_cons_succ,getElem?_map,e,map_some,getD_eq_getElem?_getD,h1,getD_some]
theorem vX{α β γ δ:Type}{RP:Hp->List Addr->α->β->Prop}{RQ:Hp->List Addr->γ->δ->Prop}{σ σ':VS.St}{d:Sl->M α}{f:α->M γ}{Q:δ->Hp->Prop}(S:SR G F as H σ sl ce)(S':SR G F as H σ' sl' ce)(P:aJ G E RQ F as σ sl Q (aw (d sl') f ce)) :
  toT G E RP d σ' H fun b H2=>∃a F' as' ce',Le F as F' as'/\SR G F' as' H2 σ sl ce'/\SR G F' as' H2 σ' sl' ce'/\RP F' as' a b/\aJ G E RQ F' as' σ sl Q (f a ce'):=by
 refine⟨F,as,sl',ce,S',?_⟩;revert P;unfold aw;cases d sl' ce with
 | none=>exact fun P=>P
 | some r=>cases r with
  | ok a ce'=>exact fun P b H' F' as' l S2 r=>⟨a,F',as',ce',l,S.slots S2.st l,S2,r,P.le l⟩
  | ex x ce'=>exact fun P=>P
theorem zv{α β γ:Type}(m:M α)(f:α->M β)(g:β->M γ):aw (aw m f) g=aw m fun a=>aw (f a) g:=by
 funext ce;unfold aw;cases m ce with
 | none=>rfl
 | some r=>cases r<;>rfl
theorem Hw{α β:Type}{m m':M α}{g:α->M β}(h:m ce=m' ce):aw m g ce=aw m' g ce:=by simp only[aw,h]
theorem qc{s:Src}{e:Sl->M W}{x:W}{r:List W}(h:s.Stays ce/\ys.length<sizeLine):dU s cs c e (x::r) ys ce=aw (c (some x::cs)) (fun t=>match t with
   | true=>aw (e (some x::cs)) fun y=>dU s cs c e r (ys++[y])
   | false=>dU s cs c e r ys) ce:=by simp only[dU,if_pos h]
theorem CZ{s:Src}{e:Sl->M W}{x:W}{r:List W}(h:¬(s.Stays ce/\ys.length<sizeLine)):dU s cs c e (x::r) ys ce=none:=by simp only[dU,if_neg h]
theorem wR(hm:jx G E mk)(σ:L2.St)(H:Hp)(Q:VK)(h:av G E (cM mk js di c e) σ H Q):qI js (kQ G E X.K di) (cg G E c) (av G E e) σ H Q:=by
 obtain⟨F,as,sl,ce,S,P⟩:=h;refine(step (RP:=c_ X.K) S P).mono fun J H1 zz_=>bf zz_ fun s F1 as1 ce1 l1 S1 rJ P1=>?_;refine⟨fun i m ys H=>∃F as ce ws,SR G F as H σ sl ce/\c_ X.K F as s J/\m=s.items.length-i/\i<=s.items.length/\ah F as ws ys/\aJ G E Rep F as σ sl Q (aw (dU s (dE js sl) c e (s.items.drop i) ws) mk ce),⟨s.items.length,F1,as1,ce1,[],S1,rJ,rfl,zero_le _,.nil,P1⟩,?_⟩;rintro i m ys H ⟨F,as,ce,ws,S,rJ,rfl,hi,rs,P⟩
 by_cases hlt:i<s.items.length
 ·rw[drop_eq_getElem_cons hlt] at P
  by_cases hst:s.Stays ce/\ws.length<sizeLine
  ·obtain⟨go,yl⟩:=(rJ.turn S.st hst.1 i).1 hlt;refine .inr ⟨go,by rw[rs.length];exact hst.2,_,fun ys' H' h=>h,fun x H' y=>?_⟩;obtain⟨rfl,w,hw,rw'⟩:=yl x H' y;rw[getElem?_eq_getElem hlt] at hw;cases hw;have P':=P;rw[Hw (qc hst)] at P';rw[zv] at P';refine(vX (RP:=rB) S (S.cap js rw') P').mono fun b H2 ⟨t,F2,as2,ce2,l2,S2,S2',rt,P2⟩=>?_;have rt:t=b:=rt;subst rt;cases t
   ·rw[if_neg Bool.false_ne_true];exact⟨s.items.length-(i+1),by omega,F2,as2,ce2,ws,S2,rJ.le l2,rfl,hlt,rs.le l2,P2⟩
   ·rw[if_pos rfl];dsimp only at P2;rw[zv] at P2;refine(vX (RP:=Rep) S2 S2' P2).mono fun y H3 ⟨wy,F3,as3,ce3,l3,S3,S3',ry,P3⟩=>?_;exact⟨s.items.length-(i+1),by omega,F3,as3,ce3,ws++[wy],S3,rJ.le (l2.trans l3),rfl,hlt,(rs.le (l2.trans l3)).append (.cons ry .nil),P3⟩
  ·have P':=P;simp only[aw,CZ hst] at P';exact(show False from P').elim
 ·have e':i=s.items.length:=by omega
  subst e';rw[drop_length] at P
  by_cases hst:s.Stays ce
  ·have eq:aw (dU s (dE js sl) c e [] ws) mk ce=mk ws ce:=by simp only[aw,dU,if_pos hst]
   rw[eq] at P;exact .inl ⟨(rJ.turn S.st hst _).2 rfl,(hm S rs P).2⟩
  ·have eq:aw (dU s (dE js sl) c e [] ws) mk ce=none:=by simp only[aw,dU,if_neg hst]
   rw[eq] at P;exact(show False from P).elim
theorem kg(hm:jx G E mk)(B:gn X.N X.env.scope js (x::caps) scope)(hc:X.calm=true)(hx:scope.names.lookup x=some .local)(hi:PI X (.Name x px) iter (kQ G E X.K di))(ht:∀C fp s₀ H₀,PIfs (eI X (x::caps) scope C fp s₀ H₀) ifs (cg G E c))(he:∀C fp s₀ H₀,PE (eI X (x::caps) scope C fp s₀ H₀) elt (av G E e))(hs:∀v,foldedSetIterable iter X.env v=pure v:=by intro _;rfl):PE X (.ListComp elt [⟨.Name x px,iter,ifs,0⟩] scope pos) (av G E (cM mk js di c e)):=PE.imp (BF B hc hx hi ht he hs) (wR hm)
theorem n5{y:Str}{py spos:Pos}(hm:jx G E mk)(B:gn X.N X.env.scope js (x::caps) scope)(hc:X.calm=true)(hx:scope.names.lookup x=some .local)(hi:PI X (.Name x px) iter (kQ G E X.K di))(ht:∀C fp s₀ H₀,PIfs (eI X (x::caps) scope C fp s₀ H₀) ifs (cg G E c))(he:∀C fp s₀ H₀,PE (eI X (x::caps) scope C fp s₀ H₀) elt (av G E e))(hN:X.N.Nodup)(hk:X.N[k]?=some y)(hy:X.env.scope.names.lookup y=some .local)(hsw:swapsWith (.ListComp elt [⟨.Name x px,iter,ifs,0⟩] scope pos) (some (.Name y py)) spos.line X.env=pure true)(hs:∀v,foldedSetIterable iter X.env v=pure v:=by intro _;rfl):PS X (.Assign [.Name y py] (.ListComp elt [⟨.Name x px,iter,ifs,0⟩] scope pos) spos) (dF G E (aM k (cM mk js di c e))):=by refine PS.imp (BE B hc hx hi ht he hN hk hy hsw hs) fun D σ H zz_=>bB zz_ fun F as sl ce S P=>?_;refine wR (X:=X) hm σ H _ ((ir S P).mono fun x H1 zz_=>bf zz_ fun wx F1 as1 ce1 l1 S1 rx P1=>?_);exact P1 _ H1 F1 as1 .refl (S1.put rx k)
end
mutual
def aU(n:Nat):W->Prop
 | .cel k=>k<n
 | .lst xs=>cB n xs
 | .tup xs=>cB n xs
 | .non=>True
 | .bl _=>True
 | .int _=>True
 | .str _=>True
 | .ty _=>True
def cB(n:Nat):List W->Prop
 | []=>True
 | x::xs=>aU n x/\cB n xs
end
mutual
theorem Rep.bel{F:Hp}{as:List Addr}:∀{w:W} {v:V},Rep F as w v->aU as.length w
 | .non,_,_=>by simp only[aU]
 | .bl _,_,_=>by simp only[aU]
 | .int _,_,_=>by simp only[aU]
 | .str _,_,_=>by simp only[aU]
 | .ty _,_,_=>by simp only[aU]
 | .lst xs,_,r=>by
  simp only[Rep] at r;obtain⟨a,vs,_,_,s⟩:=r;simp only[aU];exact ah.bel s
 | .tup xs,_,r=>by
  simp only[Rep] at r;obtain⟨a,vs,_,_,s⟩:=r;simp only[aU];exact ah.bel s
 | .cel k,_,r=>by
  simp only[Rep] at r;obtain⟨a,_,h⟩:=r;simp only[aU];exact dZ h
theorem ah.bel{F:Hp}{as:List Addr}:∀{ws:List W} {vs:List V},ah F as ws vs->cB as.length ws
 | [],_,_=>by simp only[cB]
 | _::_,_,r=>by
  simp only[ah] at r;obtain⟨v,vs',_,h,t⟩:=r;simp only[cB];exact⟨Rep.bel h,ah.bel t⟩
end
mutual
theorem Rep.cut{F:Hp}{as as':List Addr}{n:Nat}(hl:∀k,k<n->as'[k]?=as[k]?):∀{w:W} {v:V},aU n w->Rep F as w v->Rep F as' w v
 | .non,_,_,r=>by simpa only[Rep] using r
 | .bl _,_,_,r=>by simpa only[Rep] using r
 | .int _,_,_,r=>by simpa only[Rep] using r
 | .str _,_,_,r=>by simpa only[Rep] using r
 | .ty _,_,_,r=>by simpa only[Rep] using r
 | .lst xs,_,b,r=>by
  simp only[Rep] at r ⊢;simp only[aU] at b;obtain⟨a,vs,h1,h2,s⟩:=r;exact⟨a,vs,h1,h2,ah.cutS hl b s⟩
 | .tup xs,_,b,r=>by
  simp only[Rep] at r ⊢;simp only[aU] at b;obtain⟨a,vs,h1,h2,s⟩:=r;exact⟨a,vs,h1,h2,ah.cutS hl b s⟩
 | .cel k,_,b,r=>by
  simp only[Rep] at r ⊢;simp only[aU] at b;obtain⟨a,h1,h⟩:=r;exact⟨a,h1,by rw[hl k b];exact h⟩
theorem ah.cutS{F:Hp}{as as':List Addr}{n:Nat}(hl:∀k,k<n->as'[k]?=as[k]?):∀{ws:List W} {vs:List V},cB n ws->ah F as ws vs->ah F as' ws vs
 | [],_,_,r=>by simpa only[ah] using r
 | _::_,_,b,r=>by
  simp only[ah] at r ⊢;simp only[cB] at b;obtain⟨v,vs',h1,h,t⟩:=r;exact⟨v,vs',h1,Rep.cut hl b.1 h,ah.cutS hl b.2 t⟩
end
def eR(n:Nat):C->Prop
 | .lst xs=>cB n xs
 | .dct kvs=>∀p∈kvs,aU n p.2
 | .ins _ fs=>∀p∈fs,aU n p.2
 | .exn _=>True
 | .exm _ _ _=>True
 | .dead=>True
 | .fzd kvs=>∀p∈kvs,aU n p.2
 | .dtp kvs=>∀p∈kvs,aU n p.2
theorem aA.bel{κ:Type}{F:Hp}{as:List Addr}{kvs:List (κ×W)}{ps:List (κ×V)}(r:aA F as kvs ps):∀p∈kvs,aU as.length p.2:=by
 induction r with
 | nil=>simp
 | cons h t ih =>
  intro p hp;rcases mem_cons.mp hp with rfl|hp
  ·exact h.2.bel
  ·exact ih p hp
theorem aA.cut{κ:Type}{F:Hp}{as as':List Addr}{n:Nat}(hl:∀k,k<n->as'[k]?=as[k]?){kvs:List (κ×W)}{ps:List (κ×V)}(b:∀p∈kvs,aU n p.2)(r:aA F as kvs ps):aA F as' kvs ps:=by
 induction r with
 | nil=>exact .nil
 | cons h t ih=>exact .cons ⟨h.1,h.2.cut hl (b _ mem_cons_self)⟩ (ih fun p hp=>b p (mem_cons_of_mem _ hp))
section
variable {c:C}
theorem de.bel(h:de G F as H a c):eR as.length c:=by
 cases c with
 | lst xs=>obtain⟨vs,_,r⟩:=h;exact r.bel
 | dct xs=>obtain⟨vs,_,r⟩:=h;exact r.bel
 | ins c xs=>obtain⟨dx,vs,_,r⟩:=h;exact r.bel
 | exn c=>trivial
 | exm c f n=>trivial
 | dead=>trivial
 | fzd xs=>obtain⟨o,ps,_,_,r⟩:=h;exact r.bel
 | dtp xs=>obtain⟨vs,_,r⟩:=h;exact r.bel
theorem de.cut(hl:∀k,k<n->as'[k]?=as[k]?)(b:eR n c)(h:de G F as H a c):de G F as' H a c:=by
 cases c with
 | lst xs=>obtain⟨vs,e,r⟩:=h;exact⟨vs,e,r.cutS hl b⟩
 | dct xs=>obtain⟨vs,e,r⟩:=h;exact⟨vs,e,aA.cut hl b r⟩
 | ins c xs=>obtain⟨dx,vs,e,r⟩:=h;exact⟨dx,vs,e,aA.cut hl b r⟩
 | exn c=>exact h
 | exm c f n=>exact h
 | dead=>exact h
 | fzd xs=>obtain⟨o,ps,e1,e2,r⟩:=h;exact⟨o,ps,e1,e2,aA.cut hl b r⟩
 | dtp xs=>obtain⟨vs,e,r⟩:=h;exact⟨vs,e,aA.cut hl b r⟩
end
def gX(ce ce':Ce):Prop:=ce.length<=ce'.length/\∀(k:Nat) (c:C),k<ce.length->ce'[k]?=some c->ce[k]?=some c\/eR ce.length c
theorem jX{α:Type}{l:List α}(h:k<n):(l.take n)[k]?=l[k]?:=getElem?_take_of_lt h
theorem ax.cut(S:ax G F as H ce)(S':ax G F' as' H' ce')(l:Le F as F' as')(h:gX ce ce'):ax G F' (as'.take ce.length) H' (ce'.take ce.length)/\Le F as F' (as'.take ce.length):=by
 have hl:∀k,k<ce.length->(as'.take ce.length)[k]?=as'[k]?:=fun k hk=>jX hk;refine⟨⟨S'.sub,S'.nd.sublist (take_sublist _ _),by rw[length_take,length_take,S'.len],fun k a c h1 h2=>?_⟩,l.f,fun k a e=>?_⟩
 ·have hk:k<ce.length:=by have:=dZ h2;rw[length_take] at this;omega
  rw[jX hk] at h1 h2;obtain⟨q1,q2⟩:=S'.cell k a c h1 h2;refine⟨q1,q2.cut hl ?_⟩;rcases h.2 k c hk h2 with h3|h3
  ·obtain⟨a0,e0,_,q0⟩:=S.at h3;rw[<- S.len];exact q0.bel
  ·exact h3
 ·have hk:k<ce.length:=by rw[<- S.len];exact dZ e
  rw[jX hk];exact l.c k a e
open Classical in
def finC(ce ce':Ce)(w:W):Option (R W):=if gX ce ce'/\aU ce.length w then some (.ok w (ce'.take ce.length)) else none
open Classical in
def finO(ce ce':Ce)(w:W):Option (R W):=match w with
 | .cel k=>match ce'[k]? with
  | some c=>if gX ce ce'/\ce.length<=k/\eR ce.length c then some (.ok (.cel ce.length) (ce'.take ce.length++[c])) else none
  | none=>none
 | _=>none
def nP(_ce ce':Ce)(w:W):Option (R W):=some (.ok w ce')
def n4(G:Ga)(fin:Ce->Ce->W->Option (R W)):Prop:=∀(F F':Hp) (as as':List Addr) (H H':Hp) (ce ce':Ce) (w:W) (v:V) (r:R W),ax G F as H ce->ax G F' as' H' ce'->Le F as F' as'->Rep F' as' w v->fin ce ce' w=some r ->
 ∃w2 ce2 as2,r=.ok w2 ce2/\Le F as F' as2/\ax G F' as2 H' ce2/\Rep F' as2 w2 v
theorem vW:n4 G nP:=fun F F' as as' H H' ce ce' w v r S S' l rw' e=>by
 cases e;exact⟨w,ce',as',rfl,l,S',rw'⟩
theorem dR:n4 G finC:=fun F F' as as' H H' ce ce' w v r S S' l rw' e=>by
 unfold finC at e;split at e
 ·rename_i h;cases e;obtain⟨S2,l2⟩:=S.cut S' l h.1;exact⟨w,_,_,rfl,l2,S2,rw'.cut (fun k hk=>jX hk) h.2⟩
 ·cases e
theorem jN:n4 G finO:=fun F F' as as' H H' ce ce' w v r S S' l rw' e=>by
 cases w<;>simp only[finO,reduceCtorEq] at e;rename_i k;split at e
 ·rename_i c hc;split at e
  ·rename_i h;obtain⟨h1,h2,h3⟩:=h;cases e;obtain⟨S2,l2⟩:=S.cut S' l h1;simp only[Rep] at rw';obtain⟨a,rfl,ha⟩:=rw';obtain⟨q1,q2⟩:=S'.cell k a c ha hc;have hlen:(as'.take ce.length).length=ce.length:=by rw[length_take,S'.len];exact min_eq_left h1.1
   have hlen2:(ce'.take ce.length).length=ce.length:=by rw[length_take];exact min_eq_left h1.1
   have l3:Le F' (as'.take ce.length) F' (as'.take ce.length++[a]):=⟨fun _ _ h=>h,fun j b hb=>by rw[getElem?_append_left (dZ hb)];exact hb⟩
   refine⟨_,_,as'.take ce.length++[a],rfl,l2.trans l3,⟨S'.sub,?_,by rw[length_append,length_append,hlen,hlen2];rfl,fun j b c' e1 e2=>?_⟩,?_⟩
   ·rw[nodup_append];refine⟨S2.nd,by simp,fun b hb d hd=>?_⟩;rw[mem_singleton] at hd;subst hd;rintro rfl;obtain⟨j,hj⟩:=getElem?_of_mem hb;have hj1:j<ce.length:=by have:=dZ hj;omega
    rw[jX hj1] at hj;have ha':=dZ ha;have hj':=dZ hj;rw[getElem?_eq_getElem ha'] at ha;rw[getElem?_eq_getElem hj'] at hj;have:=oG S'.nd ha' hj' ((Option.some.inj ha).trans (Option.some.inj hj).symm);omega
   ·by_cases hj:j<ce.length
    ·rw[getElem?_append_left (by omega)] at e1 e2;obtain⟨p1,p2⟩:=S2.cell j b c' e1 e2;exact⟨p1,p2.le l3 rfl⟩
    ·rw[getElem?_append_right (by omega),hlen] at e1;rw[getElem?_append_right (by omega),hlen2] at e2;have hz:j-ce.length=0:=by
      cases q:j-ce.length with
      | zero=>rfl
      | succ m=>rw[q] at e1;simp at e1
     rw[hz] at e1 e2;simp at e1 e2;subst e1;subst e2;exact⟨q1,(q2.cut (n:=ce.length) (fun i hi=>jX hi) h3).le l3 rfl⟩
   ·simp only[Rep];exact⟨a,rfl,by rw[getElem?_append_right (by omega),hlen];simp⟩
  ·cases e
 ·cases e
open Classical in
def bJ(fin:Ce->Ce->W->Option (R W))(n:Nat)(body:DS):List W->M W:=fun ws ce=>match body (ws.map some++List.replicate (n-ws.length) none) ce with
 | some (.go (.rt w) _ ce')=>fin ce ce' w
 | some (.go .nx _ ce')=>fin ce ce' .non
 | some (.ex x ce')=>if gX ce ce' then some (.ex x (ce'.take ce.length)) else none
 | _=>none
def dJ(G:Ga)(E:XK)(F:Hp)(as:List Addr)(Q:VK):Option (R W)->Prop
 | some (.ok w ce')=>∀v H' F' as',Le F as F' as'->ax G F' as' H' ce'->Rep F' as' w v->Q v H'
 | some (.ex x ce')=>∀H' F' as' cv od,Le F as F' as'->ax G F' as' H' ce'->G.xr x cv od F'->E cv od H'
 | none=>False
def gf(G:Ga)(fe:XK->XK)(n:Nat)(d:List W->M W):Sp:=fun vs H Q E=>vs.length=n/\∃F as ws ce,ax G F as H ce/\ah F as ws vs/\dJ G (fe E) F as Q (d ws ce)
theorem Hn(S:ax G F as H ce)(rs:ah F as ws vs)(N:List Str):SR G F as H (L2.start N vs) (ws.map some++List.replicate (N.length-ws.length) none) ce:=by
 have hl:=rs.length;refine⟨S,by unfold L2.start;simp[hl],fun i w h=>?_⟩;have hi:i<ws.length:=by
  by_cases hi:i<ws.length
  ·exact hi
  ·rw[getElem?_append_right (by simpa using hi),getElem?_replicate] at h;split at h<;>cases h
 rw[getElem?_append_left (by simpa using hi),getElem?_map] at h;cases e:ws[i]? with
 | none=>rw[e] at h;cases h
 | some w' =>
  rw[e] at h;simp only[map_some,Option.some.injEq] at h;subst h;obtain⟨v,h1,h2⟩:=rs.get e;refine⟨v,?_,h2⟩;unfold L2.start;rw[getElem?_append_left (by simp;omega),getElem?_map,h1];rfl
theorem Et{fin:Ce->Ce->W->Option (R W)}{body:DS}(hf:n4 G fin)(N:List Str)(S:ax G F as H ce)(rs:ah F as ws vs)(P:dJ G E F as Q (bJ fin N.length body ws ce)) :
  dF G E body { nx:=fun _ H'=>Q .non H',rt:=Q } (L2.start N vs) H:=by
 refine⟨F,as,_,ce,Hn S rs N,?_⟩;revert P;unfold bJ;have key:∀{w:W} {ce':Ce},dJ G E F as Q (fin ce ce' w)->∀v H' F' as',Le F as F' as'->ax G F' as' H' ce'->Rep F' as' w v->Q v H':=by
  intro w ce' P v H' F' as' l S' rw';cases e:fin ce ce' w with
  | none=>rw[e] at P;exact P.elim
  | some r =>
   obtain⟨w2,ce2,as2,rfl,l2,S2,r2⟩:=hf F F' as as' H H' ce ce' w v r S S' l rw' e;rw[e] at P;exact P v H' F' as2 l2 S2 r2
 cases body (ws.map some++List.replicate (N.length-ws.length) none) ce with
 | none=>exact fun P=>P
 | some o=>cases o with
  | ex x ce' =>
   intro P H' F' as' cv od l S' hx;dsimp only at P;split at P
   ·rename_i h;obtain⟨S2,l2⟩:=S.cut S' l h;exact P H' F' _ cv od l2 S2 hx
   ·exact P.elim
  | go f sl' ce'=>cases f with
   | nx=>exact fun P σ' H' F' as' l S'=>key P .non H' F' as' l S'.st (by simp only[Rep])
   | bk=>exact fun P=>P.elim
   | ct=>exact fun P=>P.elim
   | rt w=>exact fun P σ' H' F' as' l S' v r=>key P v H' F' as' l S'.st r
def bc(n:Nat)(f:List W->M W)(args:Sl->M (List W)):Sl->M W:=fun sl=>aw (args sl) fun ws=>if ws.length=n then f ws else kn
variable {CX:jC} {fd:FuncData} {fe:XK->XK}
section
variable {E1:XK} {f:Addr} {ps:List Str} {df:List W->M W} {x:Str}
theorem dJ.of{σ:VS.St}{r:Option (R W)}(S:SR G F as H σ sl ce)(P:aJ G E Rep F as σ sl Q r):dJ G E F as Q r:=by
 cases r with
 | none=>exact P
 | some r=>cases r with
  | ok w ce'=>exact fun v H' F' as' l S' rv=>P v H' F' as' l (S.slots S' l) rv
  | ex y ce'=>exact P
theorem cj(Fk:ay X.prog X.w X.K X.mg X.base CX k f fd ps (gf G fe n df))(hr:aT k X.A)(hg:Gl X x)(hm:X.mg x=some (.ref f))(hk:keepIn X.K (.ref f)=true)(hb:Binds X.K fd ps [])(hx:gM CX X E1)(ha:PA X (e::es) (fw G E dr))(hfe:fe E1=E:=by rfl)(hdb:(x==("__debug__" : Str))=false:=by decide)(he:starEach (e::es) X.env=(false,eval e X.env)::starEach es X.env:=by rfl)(hpl:(backTo pos (starEach es X.env)).any (·.1)=false:=by rfl) :
  PE X (.Call (.Name x p) (e::es) [] pos) (av G E (bc n df dr)):=by
 refine PE.imp (Ff Fk hr hg hm hk hb .nil hx ha hdb he hpl) fun σ H Q zz_=>bB zz_ fun F as sl ce S P=>(step (RP:=ah) S P).mono fun vs H1 zz_=>bf zz_ fun ws F1 as1 ce1 l1 S1 rs P1=>?_;split at P1
 ·rename_i hn;rw[append_nil];exact⟨by rw[rs.length];exact hn,F1,as1,ws,ce1,S1.st,rs,by rw[hfe];exact dJ.of S1 P1⟩
 ·exact(show False from P1).elim
end
open Classical in
def cX(d:List W->M W):List W->M W:=fun ws ce=>match d ws ce with
 | some (.ok (.cel k) ce')=>match ce'[k]? with
  | some (.lst xs)=>if gX ce ce'/\k=ce.length/\cB ce.length xs then some (.ok (.lst xs) (ce'.take ce.length)) else none
  | _=>none
 | some (.ok w ce')=>some (.ok w ce')
 | r=>r
theorem iW{P:Program}{w:World}{mg:Str->Option Value}{base:Heap}{f:Addr}{ps:List Str}{d:List W->M W}(h:ay P w K mg base CX k f fd ps (gf G fe n d)):ay P w K mg base CX k f fd ps (gf G fe n (cX d)):=by
 refine h.imp fun vs H Q E ⟨hl,F,as,ws,ce,S,rs,Pf⟩=>⟨hl,F,as,ws,ce,S,rs,?_⟩
 revert Pf;unfold cX;cases d ws ce with
 | none=>exact fun P=>P
 | some r=>cases r with
  | ex x ce'=>exact fun P=>P
  | ok w ce' =>
   cases w<;>first|exact fun P=>P|skip
   rename_i j;dsimp only;intro Pf v H' F' as' l S' rv;simp only[Rep] at rv;obtain⟨a,rfl,ha⟩:=rv;split at Pf
   ·rename_i xs hc;split at Pf
    ·rename_i h;obtain⟨h1,h2,h3⟩:=h;obtain⟨q1,vs',hH,rs'⟩:=S'.cell j a _ ha hc;have q1:=q1 rfl;obtain⟨S2,l2⟩:=S.cut S' l h1;have rs2:ah F' (as'.take ce.length) xs vs':=rs'.cutS (fun i hi=>jX hi) h3;have l3:Le F' (as'.take ce.length) (upd F' a (.lst vs')) (as'.take ce.length):=⟨fM q1,fun _ _ h=>h⟩
     refine Pf (.ref a) H' (upd F' a (.lst vs')) (as'.take ce.length) (l2.trans l3) ⟨fun b o e=>?_,S2.nd,S2.len,fun i b c e1 e2=>?_⟩ (by simp only[Rep];exact⟨a,vs',rfl,.inl ak,rs2.le l3⟩)
     ·by_cases hb:b=a
      ·subst hb;rw[ak] at e;cases e;exact hH
      ·rw[bt hb] at e;exact S2.sub _ _ e
     ·obtain⟨p1,p2⟩:=S2.cell i b c e1 e2;have hb:b≠a:=by
       rintro rfl;have hi:i<ce.length:=by have:=dZ e2;rw[length_take] at this;omega
       rw[jX hi] at e1;have a1:=dZ ha;have a2:=dZ e1;rw[getElem?_eq_getElem a1] at ha;rw[getElem?_eq_getElem a2] at e1;have:=oG S'.nd a1 a2 ((Option.some.inj ha).trans (Option.some.inj e1).symm);omega
      exact⟨fun hn=>by rw[bt hb];exact p1 hn,p2.le l3 rfl⟩
    ·exact Pf.elim
   ·exact Pf.elim
def kf:List W->Option (List Int)
 | []=>some []
 | .int i::r=>(kf r).map (i::·)
 | _=>none
def lI:List W->Option (List Bool)
 | []=>some []
 | .bl i::r=>(lI r).map (i::·)
 | _=>none
def kY:List (Key×W)->Option (List Int)
 | []=>some []
 | (.inl i,_)::r=>(kY r).map (i::·)
 | _=>none
theorem zu:∀ns:List Int,kf (ns.map W.int)=some ns
 | []=>rfl
 | n::r=>by simp only[map_cons,kf,zu r,map_some]
theorem zO:∀ns:List Bool,lI (ns.map W.bl)=some ns
 | []=>rfl
 | n::r=>by simp only[map_cons,lI,zO r,map_some]
theorem tX:∀{ws:List W} {ns:List Int},kf ws=some ns->ws=ns.map W.int
 | [],ns,h=>by simp only[kf,Option.some.injEq] at h;subst h;rfl
 | w::r,ns,h=>by
  cases w<;>simp only[kf,reduceCtorEq,map_eq_some_iff] at h;obtain⟨ms,h1,rfl⟩:=h;rw[tX h1,map_cons]
theorem zt:∀{ws:List W} {ns:List Bool},lI ws=some ns->ws=ns.map W.bl
 | [],ns,h=>by simp only[lI,Option.some.injEq] at h;subst h;rfl
 | w::r,ns,h=>by
  cases w<;>simp only[lI,reduceCtorEq,map_eq_some_iff] at h;obtain⟨ms,h1,rfl⟩:=h;rw[zt h1,map_cons]
theorem tW:∀{kvs:List (Key×W)} {ns:List Int},kY kvs=some ns->kvs.map (·.1)=ns.map Sum.inl
 | [],ns,h=>by simp only[kY,Option.some.injEq] at h;subst h;rfl
 | (k,w)::r,ns,h=>by
  cases k<;>simp only[kY,reduceCtorEq,map_eq_some_iff] at h;obtain⟨ms,h1,rfl⟩:=h;rw[map_cons,tW h1,map_cons]
def gb(ns:List Int):List Int:=ns.mergeSort fun a b=>decide (a<=b)
theorem jW(ns:List Int):(gb ns).Perm ns:=mergeSort_perm ns _
theorem qA(ns:List Int):(gb ns).Pairwise (·<=·):=by
 have:=pairwise_mergeSort (le:=fun a b:Int=>decide (a<=b)) (fun a b c=>by simp;omega) (fun a b=>by simp;omega) ns;exact this.imp fun h=>by simpa using h
theorem qE:∀{a b:List Int},a.Perm b->a.Pairwise (·<=·)->b.Pairwise (·<=·)->a=b
 | [],b,p,_,_=>by rw[nil_perm] at p;exact p.symm
 | x::a,[],p,_,_=>by have:=p.length_eq;simp at this
 | x::a,y::b,p,sa,sb=>by
  rw[pairwise_cons] at sa sb;have h1:x=y:=by
   have hx:x∈y::b:=p.subset mem_cons_self;have hy:y∈x::a:=p.symm.subset mem_cons_self;rcases mem_cons.mp hx with e|hx
   ·exact e
   ·rcases mem_cons.mp hy with e|hy
    ·exact e.symm
    ·have:=sb.1 x hx;have:=sa.1 y hy;omega
  subst h1;rw[qE (List.Perm.cons_inv p) sa.2 sb.2]
theorem wQ{ms ns:List Int}(p:ms.Perm ns)(s:ms.Pairwise (·<=·)):ms=gb ns:=qE (p.trans (jW ns).symm) s (qA ns)
def aR(f:List W->M W)(args:Sl->M (List W)):Sl->M W:=fun sl=>aw (args sl) f
def Bi(G:Ga)(E:XK)(r:List V->Hp->VK->Prop)(f:List W->M W):Prop:=∀F as H σ sl ce ws vs Q,SR G F as H σ sl ce->ah F as ws vs->aJ G E Rep F as σ sl Q (f ws ce)->r vs H Q
open Classical in
def bK:List W->M W:=fun ws ce=>match ws with
 | [.str x]=>if x.length<=sizeLine then some (.ok (.int x.length) ce) else none
 | [w]=>match dj ce w with
  | some xs=>some (.ok (.int xs.length) ce)
  | none=>match my ce w with
   | some kvs=>some (.ok (.int kvs.length) ce)
   | none=>none
 | _=>none
open Classical in
def fi(mk:List W->M W):List W->M W:=fun ws ce=>match ws with
 | [w]=>match bU ce w with
  | some xs=>match kf xs with
   | some ns=>if ns.length<64 then mk ((gb ns).map W.int) ce else none
   | none=>none
  | none=>match jI ce w with
   | some kvs=>match kY kvs with
    | some ns=>if ns.length<64 then mk ((gb ns).map W.int) ce else none
    | none=>none
   | none=>none
 | _=>none
def iq(mk:List W->M W):List W->M W:=fun ws ce=>match ws with
 | [w]=>match dj ce w with
  | some xs=>mk xs ce
  | none=>match jI ce w with
   | some kvs=>match kY kvs with
    | some ns=>mk (ns.map W.int) ce
    | none=>none
   | none=>none
 | _=>none
def gv:List W->M W:=fun ws ce=>match ws with
 | [.tup xs]=>some (.ok (.tup xs) ce)
 | [w]=>match bU ce w with
  | some xs=>qX xs ce
  | none=>none
 | _=>none
def mw:List W->M W:=fun ws ce=>match ws with
 | [w]=>match bU ce w with
  | some xs=>match lI xs with
   | some bs=>some (.ok (.bl (bs.all id)) ce)
   | none=>none
  | none=>none
 | _=>none
def Kp:List W->M W:=fun ws ce=>match ws with
 | [.int i,.int j]=>some (.ok (.int (if j<i then j else i)) ce)
 | _=>none
def Ko:List W->M W:=fun ws ce=>match ws with
 | [.int i,.int j]=>some (.ok (.int (if j>i then j else i)) ce)
 | _=>none
def jo(ce:Ce):W->Option String
 | .non=>some "NoneType"
 | .bl _=>some "bool"
 | .int _=>some "int"
 | .str _=>some "str"
 | .lst _=>some "list"
 | .tup _=>some "tuple"
 | .cel k=>match ce[k]? with
  | some (.lst _)=>some "list"
  | some (.dct _)=>some "dict"
  | _=>none
 | .ty _=>none
def rL(a b:String):Bool:=a==b||(a == "bool" && b == "int")
def kinds:List String:=["NoneType", "bool", "int", "str", "list", "tuple", "dict"]
theorem Hv(K:Frag):∀a∈kinds,∀b∈["int", "bool", "list", "tuple", "str", "dict"],kitOne K (.type a) (.type b)=some (rL a b):=by
 have h:∀a∈kinds,∀b∈["int", "bool", "list", "tuple", "str", "dict"],(fun _:Unit=>kitOne K (.type a) (.type b)) ()=some (rL a b):=by intro a ha b hb;simp only[kinds,mem_cons,not_mem_nil,or_false] at ha hb;rcases ha with rfl|rfl|rfl|rfl|rfl|rfl|rfl<;>rcases hb with rfl|rfl|rfl|rfl|rfl|rfl<;>kernel_rfl
 exact h
def eQ:List W->M W:=fun ws ce=>match ws with
 | [w,.ty T]=>match jo ce w with
  | some t=>if (kinds.contains t&&["int", "bool", "list", "tuple", "str", "dict"].contains T)=true then some (.ok (.bl (rL t T)) ce) else none
  | none=>none
 | _=>none
theorem aP.or{f:Value}{r r':List V->Hp->VK->Prop}(h:aP X f r)(h':aP X f r'):aP X f (fun xs H Q=>r xs H Q\/r' xs H Q):=by
 intro pins s σ H xs us Q I rx q;rcases q with q|q
 ·exact h pins s σ H xs us Q I rx q
 ·exact h' pins s σ H xs us Q I rx q
theorem iE(h:ah F as [w] vs):∃v,vs=[v]/\Rep F as w v:=by simp only[ah] at h;obtain⟨v,r,rfl,h1,rfl⟩:=h;exact⟨v,rfl,h1⟩
theorem xJ{w':W}(h:ah F as [w,w'] vs):∃v v',vs=[v,v']/\Rep F as w v/\Rep F as w' v':=by simp only[ah] at h;obtain⟨v,r,rfl,h1,v',r',rfl,h2,rfl⟩:=h;exact⟨v,v',rfl,h1,h2⟩
def vV(K:Frag):List V->Hp->VK->Prop:=fun xs H Q=>(∃x n,xs=[x]/\vE K x H n/\Q (.int n) H)\/∃a kvs,xs=[V.ref a]/\H a=some (.dK kvs)/\Q (.int kvs.length) H
theorem ff(hK:X.K=K:=by rfl):aP X (.builtin "len") (vV K):=by subst hK;exact aP.or He Ic
theorem e_(K:Frag):Bi G E (vV K) bK:=by
 intro F as H σ sl ce ws vs Q S rs P;unfold bK at P;split at P
 ·rename_i x;split at P
  ·rename_i hl;obtain⟨v,rfl,r⟩:=iE rs;simp only[Rep] at r;subst r;exact .inl ⟨_,_,rfl,⟨hl,rfl⟩,P.done S (by simp only[Rep])⟩
  ·exact P.elim
 ·rename_i w _;obtain⟨v,rfl,r⟩:=iE rs;split at P
  ·rename_i xs hx;obtain⟨a,us,rfl,h,rs'⟩:=qd S.st r hx;refine .inl ⟨_,us.length,rfl,?_,P.done S (by simp only[Rep];rw[rs'.length])⟩;rcases h with h|h
   ·exact .inl ⟨us,.inl h,rfl⟩
   ·exact .inr ⟨us,.inl h,rfl⟩
  ·split at P
   ·rename_i kvs hd;obtain⟨n,a,ps,rfl,rfl,ha,hH,rk⟩:=ym S.st r hd;exact .inr ⟨a,ps,rfl,hH,P.done S (by simp only[Rep];rw[rk.length])⟩
   ·exact P.elim
 ·exact P.elim
def vg(K:Frag):List V->Hp->VK->Prop:=fun xs H Q=>FC K xs H Q\/∃(a:Addr) (kvs:List (Key×V)) (ns:List Int),xs=[.ref a]/\Rd H a (.dK kvs)/\kvs.map (·.1)=ns.map Sum.inl/\ns.length<64 /\
  ∀ms:List Int,ms.Perm ns->ms.Pairwise (·<=·)->∀l,H l=none->Q (.ref l) (upd H l (.lst (ms.map V.int)))
theorem mJ(hc:X.calm=true:=by rfl)(hK:X.K=K:=by rfl):aP X (.builtin "sorted") (vg K):=by subst hK;exact aP.or Jm (JF hc)
theorem aA.keys{kvs:List (Key×W)}(r:aA F as kvs ps):ps.map (·.1)=kvs.map (·.1):=by
 induction r with
 | nil=>rfl
 | cons h t ih=>rw[map_cons,map_cons,ih,h.1]
theorem mI(K:Frag)(hm:jx G E mk):Bi G E (vg K) (fi mk):=by
 intro F as H σ sl ce ws vs Q S rs P;unfold fi at P;split at P
 ·rename_i w;obtain⟨v,rfl,r⟩:=iE rs;split at P
  ·rename_i xs hx;split at P
   ·rename_i ns hi;split at P
    ·rename_i h64;obtain⟨a,us,rfl,h,rs'⟩:=iG S.st r hx;cases tX hi;cases rs'.of_ints;refine .inl ⟨a,ns,rfl,.inl h,h64,fun ms p s l hl=>?_⟩;rw[wQ p s];exact(hm S (ah.ints (gb ns)) P).2 l hl
    ·exact P.elim
   ·exact P.elim
  ·split at P
   ·rename_i kvs hd;split at P
    ·rename_i ns hk;split at P
     ·rename_i h64;obtain⟨n,a,ps,rfl,rfl,ha,hH,rk⟩:=yP S.st r hd;refine .inr ⟨a,ps,ns,rfl,hH,by rw[rk.keys];exact tW hk,h64,fun ms p s l hl=>?_⟩;rw[wQ p s];exact(hm S (ah.ints (gb ns)) P).2 l hl
     ·exact P.elim
    ·exact P.elim
   ·exact P.elim
 ·exact P.elim
def vU(K:Frag):List V->Hp->VK->Prop:=fun xs H Q=>FA K xs H Q\/∃(a:Addr) (kvs:List (Key×V)) (ns:List Int),xs=[.ref a]/\Rd H a (.dK kvs)/\kvs.map (·.1)=ns.map Sum.inl/\∀l,H l=none->Q (.ref l) (upd H l (.lst (ns.map V.int)))
theorem mU(hc:X.calm=true:=by rfl)(hK:X.K=K:=by rfl):aP X (.type "list") (vU K):=by subst hK;exact aP.or JA (Iy hc)
theorem mT(K:Frag)(hm:jx G E mk):Bi G E (vU K) (iq mk):=by
 intro F as H σ sl ce ws vs Q S rs P;unfold iq at P;split at P
 ·rename_i w;obtain⟨v,rfl,r⟩:=iE rs;split at P
  ·rename_i xs hx;obtain⟨a,us,rfl,h,rs'⟩:=qd S.st r hx;exact .inl ⟨a,us,rfl,h.imp .inl .inl,(hm S rs' P).2⟩
  ·split at P
   ·rename_i kvs hd;split at P
    ·rename_i ns hk;obtain⟨n,a,ps,rfl,rfl,ha,hH,rk⟩:=yP S.st r hd;exact .inr ⟨a,ps,ns,rfl,hH,by rw[rk.keys];exact tW hk,(hm S (ah.ints ns) P).2⟩
    ·exact P.elim
   ·exact P.elim
 ·exact P.elim
theorem oJ(K:Frag):Bi G E (wX K) gv:=by
 intro F as H σ sl ce ws vs Q S rs P;unfold gv at P;split at P
 ·rename_i xs;obtain⟨v,rfl,r⟩:=iE rs;have r':=r;simp only[Rep] at r;obtain⟨a,us,rfl,h,rs'⟩:=r;exact⟨a,us,rfl,.inr ⟨.inl (.inl (S.st.sub _ _ h)),P.done S r'⟩⟩
 ·rename_i w _;obtain⟨v,rfl,r⟩:=iE rs;split at P
  ·rename_i xs hx;obtain⟨a,us,rfl,h,rs'⟩:=iG S.st r hx;exact⟨a,us,rfl,.inl ⟨.inl h,(yk S rs' P).2⟩⟩
  ·exact P.elim
 ·exact P.elim
theorem vR(K:Frag):Bi G E (vm K) mw:=by
 intro F as H σ sl ce ws vs Q S rs P;unfold mw at P;split at P
 ·obtain⟨v,rfl,r⟩:=iE rs;split at P
  ·rename_i xs hx;split at P
   ·rename_i bs hb;obtain⟨a,us,rfl,h,rs'⟩:=iG S.st r hx;cases zt hb;cases rs'.of_bools;exact⟨a,bs,rfl,.inl h,P.done S (by simp only[Rep])⟩
   ·exact P.elim
  ·exact P.elim
 ·exact P.elim
theorem CY(S:ax G F as H ce)(r:Rep F as w v){t:String}(e:jo ce w=some t)(K:Frag):c9 K H v (.type t):=by
 have lst:∀{a:Addr} {vs:List V},Rd H a (.lst vs)->c9 K H (.ref a) (.type "list"):=fun {a vs} h=>by
  rcases h with h|⟨o,h⟩
  ·exact .lst h
  ·exact .frz h
 cases w with
 | non=>simp only[jo,Option.some.injEq] at e;simp only[Rep] at r;subst e r;exact .non
 | bl b=>simp only[jo,Option.some.injEq] at e;simp only[Rep] at r;subst e r;exact .bl b
 | int b=>simp only[jo,Option.some.injEq] at e;simp only[Rep] at r;subst e r;exact .int b
 | str b=>simp only[jo,Option.some.injEq] at e;simp only[Rep] at r;subst e r;exact .str b
 | ty b=>simp only[jo,reduceCtorEq] at e
 | lst xs =>
  simp only[jo,Option.some.injEq] at e;simp only[Rep] at r;obtain⟨a,vs,rfl,h,_⟩:=r;subst e;exact lst (Rd.sub S h)
 | tup xs =>
  simp only[jo,Option.some.injEq] at e;simp only[Rep] at r;obtain⟨a,vs,rfl,h,_⟩:=r;subst e;exact .tup (S.sub _ _ h)
 | cel k =>
  simp only[Rep] at r;obtain⟨a,rfl,h⟩:=r;simp only[jo] at e;split at e
  ·rename_i hc;cases e;obtain⟨_,vs,h2,rs⟩:=S.cell _ _ _ h hc;exact .lst h2
  ·rename_i hc;cases e;obtain⟨_,vs,h2,rs⟩:=S.cell _ _ _ h hc;exact .dK h2
  ·cases e
section
variable {x:Str} {id T:String} {r:List V->Hp->VK->Prop} {f:List W->M W}
theorem jM(K:Frag):Bi G E (qZ K) eQ:=by
 intro F as H σ sl ce ws vs Q S rs P;unfold eQ at P;split at P
 ·rename_i w T;obtain⟨v,v',rfl,r,r'⟩:=xJ rs;simp only[Rep] at r';subst r';split at P
  ·rename_i t ht;split at P
   ·rename_i hk;rw[and_eq_true,contains_iff_mem,contains_iff_mem] at hk;exact⟨v,T,_,_,rfl,CY S.st r ht K,Hv K t hk.1 T hk.2,P.done S (by simp only[Rep])⟩
   ·exact P.elim
  ·exact P.elim
 ·exact P.elim
theorem ck(hc:aP X (.builtin id) r)(hf:Bi G E r f)(hg:Gl X x)(hm:X.mg x=none)(hv:bootBuiltins x=some (.builtin id))(ha:PA X (e::es) (fw G E dr))(hn:x ≠ "__name__" := by decide)(hdb:(x==("__debug__" : Str))=false:=by decide)(he:starEach (e::es) X.env=(false,eval e X.env)::starEach es X.env:=by rfl)(hpl:(backTo pos (starEach es X.env)).any (·.1)=false:=by rfl):PE X (.Call (.Name x p) (e::es) [] pos) (av G E (aR f dr)) :=
 PE.imp (yX hc hg hm hv ha hn hdb he hpl) fun σ H Q zz_=>bB zz_ fun F as sl ce S P=>(step (RP:=ah) S P).mono fun vs H1 zz_=>bf zz_ fun ws F1 as1 ce1 l1 S1 rs P1=>hf F1 as1 H1 σ sl ce1 ws vs Q S1 rs P1
theorem fV(hc:aP X (.type T) r)(hf:Bi G E r f)(hg:Gl X x)(hm:X.mg x=none)(hv:bootBuiltins x=some (.type T))(ha:PA X (e::es) (fw G E dr))(hn:x ≠ "__name__" := by decide)(hdb:(x==("__debug__" : Str))=false:=by decide)(he:starEach (e::es) X.env=(false,eval e X.env)::starEach es X.env:=by rfl)(hpl:(backTo pos (starEach es X.env)).any (·.1)=false:=by rfl):PE X (.Call (.Name x p) (e::es) [] pos) (av G E (aR f dr)) :=
 PE.imp (zF hc hg hm hv ha hn hdb he hpl) fun σ H Q zz_=>bB zz_ fun F as sl ce S P=>(step (RP:=ah) S P).mono fun vs H1 zz_=>bf zz_ fun ws F1 as1 ce1 l1 S1 rs P1=>hf F1 as1 H1 σ sl ce1 ws vs Q S1 rs P1
open Classical in
def kX(mk:List W->M W):List W->M W:=fun ws ce=>match jF ws with
 | some (.rng lo n)=>if n<=sizeLine then mk ((List.range n).map fun(i:Nat)=>W.int (lo+(i:Int))) ce else none
 | _=>none
theorem ah.rng{F:Hp}{as:List Addr}(lo:Int):∀(l:List Nat),ah F as (l.map fun(i:Nat)=>W.int (lo+(i:Int))) (l.map fun(i:Nat)=>V.int (lo+(i:Int)))
 | []=>.nil
 | a::r=>.cons (by simp only[Rep]) (ah.rng lo r)
theorem xI{a:Expr}{pos2:Pos}(hmk:jx G E mk)(hc:X.calm=true)(hgl:Gl X "list")(hml:X.mg "list" = none)(hg:Gl X "range")(hm:X.mg "range" = none)(ha:PA X [a] (fw G E dr))(hs:starEach [a] X.env=[(false,eval a X.env)]:=by rfl)(he:starEach [.Call (.Name "range" p2) [a] [] pos2] X.env=[(false,eval (.Call (.Name "range" p2) [a] [] pos2) X.env)]:=by rfl) :
  PE X (.Call (.Name "list" p) [.Call (.Name "range" p2) [a] [] pos2] [] pos) (av G E (aR (kX mk) dr)):=by
 refine PE.imp (zF (JE hc) hgl hml boot_list (nj (Ib hg hm ha hs) oy (by rw[he];rfl)) (by decide) (by decide) (by rw[he];rfl) rfl) fun σ H Q zz_=>bB zz_ fun F as sl ce S P=>(step (RP:=ah) S P).mono fun vs H1 zz_=>bf zz_ fun ws F1 as1 ce1 l1 S1 rs P1=>?_;unfold kX at P1;split at P1
 ·rename_i lo n hr;unfold jF at hr;split at hr
  ·rename_i j;split at hr
   ·rename_i hj;cases hr;split at P1
    ·rename_i hz;obtain⟨v,rfl,r1⟩:=iE rs;simp only[Rep] at r1;subst r1;refine⟨j,rfl,fun q hq=>?_⟩;refine⟨q,0,j,rfl,ak,by omega,by omega,by omega,by omega,by rw[sub_zero];exact hz,fun l hl=>?_⟩;rw[sub_zero];obtain⟨S2,l2⟩:=S1.st.freeze (o:=.rng 0 j) hq;exact(hmk (S1.slots S2 l2) (ah.rng 0 _) (P1.le l2)).2 l hl
    ·exact(show False from P1).elim
   ·cases hr
  ·cases hr
 ·exact(show False from P1).elim
def jE(ce:Ce)(w:W):Option Unit:=(bU ce w).map fun _=>()
def cR(f:W->List W->M W)(o:Sl->M W)(args:Sl->M (List W)):Sl->M W:=fun sl=>aw (o sl) fun x=>aw (look fun ce=>jE ce x) fun _=>aw (args sl) fun ws=>f x ws
def Mt(G:Ga)(E:XK)(r:V->List V->Hp->VK->Prop)(f:W->List W->M W):Prop:=∀F as H σ sl ce w v ws vs Q,SR G F as H σ sl ce->Rep F as w v->ah F as ws vs->aJ G E Rep F as σ sl Q (f w ws ce)->r v vs H Q
variable {o:Expr} {name:Str} {apos cpos:Pos} {do':Sl->M W} {rm:V->List V->Hp->VK->Prop} {fm:W->List W->M W}
theorem zr{σ:VS.St}{k:Unit->M W}(P:aJ G E Rep F as σ sl Q (aw (look fun ce=>jE ce w) k ce)):∃xs,bU ce w=some xs/\aJ G E Rep F as σ sl Q (k () ce):=by
 revert P;simp only[aw,look,jE];cases bU ce w with
 | none=>exact fun P=>P.elim
 | some xs=>exact fun P=>⟨xs,rfl,P⟩
theorem fx(slot:Slot "list" name id)(hty:typeOf (.builtin id)=pure (.type "method_descriptor"))(hm:pf X id rm)(hf:Mt G E rm fm)(ho:PE X o (av G E do'))(ha:PA X (e::es) (fw G E dr))(hbase:attributeBase o name X.env (eval o X.env)=eval o X.env:=by rfl)(hfew:((backTo cpos (starEach (e::es) X.env)).all (fun x=>!x.1)&&(backToKw cpos (keywordEach [] X.env)).all (fun x=>x.1.isSome)
   && decide ((e::es).length+([]:List Keyword).length+(if ([]:List Keyword).isEmpty then 0 else 1)<30))=true:=by rfl)(hline:(apos.endLine==cpos.line)=true:=by rfl)(hs:starEach (e::es) X.env=(false,eval e X.env)::starEach es X.env:=by rfl)(hplain:(backTo cpos (starEach es X.env)).any (·.1)=false:=by rfl) :
  PE X (.Call (.Attribute o name apos) (e::es) [] cpos) (av G E (cR fm do' dr)):=by
 refine PE.imp (BH PySem.F.plainAttrs_list slot hty hm ho ha hbase hfew hline hs hplain) fun σ H Q zz_=>bB zz_ fun F as sl ce S P=>(step S P).mono fun x H1 zz_=>bf zz_ fun wx F1 as1 ce1 l1 S1 rx P1=>?_;obtain⟨xs,hx,P2⟩:=zr P1;obtain⟨a,us,rfl,h,_⟩:=iG S1.st rx hx;refine⟨.inl ⟨rfl,us,.inl h⟩,(step (RP:=ah) S1 P2).mono fun vs H2 zz_=>bf zz_ fun ws F2 as2 ce2 l2 S2 rs P3=>?_⟩;exact hf F2 as2 H2 σ sl ce2 wx _ ws vs Q S2 (rx.le l2) rs P3
def kP(f:W->List W->M W)(o:Sl->M W):Sl->M W:=fun sl=>aw (o sl) fun x=>aw (look fun ce=>jE ce x) fun _=>f x []
theorem pS(slot:Slot "list" name id)(hty:typeOf (.builtin id)=pure (.type "method_descriptor"))(hm:pf X id rm)(hf:Mt G E rm fm)(ho:PE X o (av G E do'))(hbase:attributeBase o name X.env (eval o X.env)=eval o X.env:=by rfl)(hline:(apos.endLine==cpos.line)=true:=by rfl):PE X (.Call (.Attribute o name apos) [] [] cpos) (av G E (kP fm do')):=by refine PE.imp (DM PySem.F.plainAttrs_list slot hty hm ho hbase hline) fun σ H Q zz_=>bB zz_ fun F as sl ce S P=>(step S P).mono fun x H1 zz_=>bf zz_ fun wx F1 as1 ce1 l1 S1 rx P1=>?_;obtain⟨xs,hx,P2⟩:=zr P1;obtain⟨a,us,rfl,h,_⟩:=iG S1.st rx hx;exact⟨.inl ⟨rfl,us,.inl h⟩,hf F1 as1 H1 σ sl ce1 wx _ [] [] Q S1 rx ah.nil P2⟩
open Classical in
def cP:W->List W->M W:=fun w ws ce=>match jG ce w,ws with
 | some (k,xs),[y]=>if xs.length<sizeLine then some (.ok .non (ce.set k (.lst (xs++[y])))) else none
 | _,_=>none
def kO:W->List W->M W:=fun w ws ce=>match jG ce w,ws with
 | some (k,xs),[]=>match xs[xs.length-1]? with
  | some y=>some (.ok y (ce.set k (.lst xs.dropLast)))
  | none=>none
 | _,_=>none
open Classical in
def nO:W->List W->M W:=fun w ws ce=>match jG ce w,ws with
 | some (k,xs),[y]=>match bU ce y with
  | some ys=>if xs.length+ys.length<=sizeLine then some (.ok .non (ce.set k (.lst (xs++ys)))) else none
  | none=>none
 | _,_=>none
theorem fT:Mt G E ye cP:=by
 intro F as H σ sl ce w v ws vs Q S rw' rs P;unfold cP at P;split at P
 ·rename_i k xs y hk;split at P
  ·rename_i hl;obtain⟨a,us,rfl,ha,hH,r⟩:=oS S.st rw' hk;obtain⟨u,rfl,ry⟩:=iE rs;refine⟨a,us,u,rfl,rfl,hH,by rw[r.length];exact hl,?_⟩;exact P .non _ F as .refl (S.slots (S.st.write (o:=.lst (us++[u])) (c:=.lst (xs++[y])) ha ⟨_,ak,r.append (.cons ry .nil)⟩) .refl) (by simp only[Rep])
  ·exact(show False from P).elim
 ·exact(show False from P).elim
theorem pI:Mt G E vn kO:=by
 intro F as H σ sl ce w v ws vs Q S rw' rs P;unfold kO at P;split at P
 ·rename_i k xs hk;split at P
  ·rename_i y hy;obtain⟨a,us,rfl,ha,hH,r⟩:=oS S.st rw' hk;simp only[ah] at rs;obtain⟨u,hu,ru⟩:=r.get hy;refine⟨a,us,u,rfl,rs,hH,by rw[r.length];exact hu,?_⟩;exact P u _ F as .refl (S.slots (S.st.write (o:=.lst us.dropLast) (c:=.lst xs.dropLast) ha ⟨_,ak,r.dropLast⟩) .refl) ru
  ·exact(show False from P).elim
 ·exact(show False from P).elim
def vQ:V->List V->Hp->VK->Prop:=fun x vs H Q=>∃l b xs zs,x=.ref l/\vs=[.ref b]/\H l=some (.lst xs)/\Rd H b (.lst zs)/\xs.length+zs.length<=sizeLine/\Q .non (upd H l (.lst (xs++zs)))
theorem Es:pf X "list.extend" vQ:=by
 intro pins s σ H x vs v us Q I rx rv h;obtain⟨l,b,xs,zs,rfl,rfl,hH,hB,hz,q⟩:=h;cases rx;obtain⟨u,rfl,ru⟩:=rv.one;cases ru;obtain⟨z,its,n,r,hl,e⟩:=I.lstM hH;obtain⟨z2,its2,n2,r2,hl2,e2⟩:=Inv.lstR I hB;have hsz:its.toArray.size+its2.toArray.size<=sizeLine:=by rw[size_toArray,size_toArray];omega
 have hlong:¬(!its.toArray.isEmpty&&Builtin.List.listTooLong (its.toArray.size+its2.toArray.size))=true:=by rw[yW hsz,Bool.and_false];exact Bool.false_ne_true
 refine call_meets F.slot_list_extend ⟨_,e,rfl⟩ F.entry_list_extend (F.args_list_extend_2 _ _)
  (AutoSeq1.list_extend_list_list_0 l its.toArray n b its2.toArray n2 hlong (by rw[size_toArray];omega) (by omega)) ⟨e,e2,?_⟩
 refine⟨.non,_,I.lset (its':=its++its2) hH e (by simp) (r.append r2) ?_,rfl,q⟩;rw[length_append];omega
theorem Br:Mt G E vQ nO:=by
 intro F as H σ sl ce w v ws vs Q S rw' rs P;unfold nO at P;split at P
 ·rename_i k xs y hk;split at P
  ·rename_i ys hy;split at P
   ·rename_i hl;obtain⟨a,us,rfl,ha,hH,r⟩:=oS S.st rw' hk;obtain⟨u,rfl,ry⟩:=iE rs;obtain⟨b,zs,rfl,hb,r2⟩:=iG S.st ry hy;refine⟨a,b,us,zs,rfl,rfl,hH,hb,by rw[r.length,r2.length];exact hl,?_⟩;exact P .non _ F as .refl (S.slots (S.st.write (o:=.lst (us++zs)) (c:=.lst (xs++ys)) ha ⟨_,ak,r.append r2⟩) .refl) (by simp only[Rep])
   ·exact(show False from P).elim
  ·exact(show False from P).elim
 ·exact(show False from P).elim
variable {a:Expr}
open Classical in
def pv(mk:List W->M W)(xs:List W)(y:W):M W:=fun ce=>match y with
 | .int k=>@ite _ (-9223372036854775808<=k/\k<9223372036854775808/\xs.length*k.toNat<=sizeLine) (Classical.propDecidable _) (mk (List.replicate k.toNat xs).flatten ce) none
 | _=>none
open Classical in
def qU(n:Nat):M Unit:=fun ce=>if n<=sizeLine then some (.ok () ce) else none
def gE(mk:List W->M W)(a:Sl->M (List W))(b:Sl->M W):Sl->M W:=fun sl=>aw (a sl) fun xs=>aw (qU xs.length) fun _=>aw (b sl) fun y=>pv mk xs y
theorem nc{ds:Sl->M (List W)}{lpos:Pos}(hm:jx G E mk)(ha:PA X es (fw G E ds))(hb:PE X b (av G E db)):PE X (.BinOp (.List es lpos) .Mult b pos) (av G E (gE mk ds db)):=by
 refine PE.imp (rT Eg (sA ha) hb) fun σ H Q zz_=>bB zz_ fun F as sl ce S P=>(step (RP:=ah) S P).mono fun vs H1 zz_=>bf zz_ fun ws F1 as1 ce1 l1 S1 rs P1=>?_;have q:ws.length<=sizeLine/\aJ G E Rep F1 as1 σ sl Q (aw (db sl) (fun y=>pv mk ws y) ce1):=by
  revert P1;unfold qU
  by_cases hl:ws.length<=sizeLine
  ·simp only[aw,if_pos hl];exact fun P=>⟨hl,P⟩
  ·simp only[aw,if_neg hl];exact fun P=>P.elim
 obtain⟨hlen,P1⟩:=q;rw[<- rs.length] at hlen;refine⟨hlen,fun p hp=>?_⟩;obtain⟨S2,l2⟩:=S1.st.freeze (o:=.lst vs) hp;refine(step (S1.slots S2 l2) (P1.le l2)).mono fun y H2 zz_=>bf zz_ fun wy F2 as2 ce2 l3 S3 ry P2=>?_;unfold pv at P2;cases wy<;>first|exact(show False from P2).elim|skip
 rename_i k;dsimp only at P2;split at P2
 ·rename_i hk;simp only[Rep] at ry;refine⟨p,k,vs,rfl,ry,S3.st.sub _ _ (l3.f _ _ ak),by omega,by omega,by rw[rs.length];exact hk.2.2,?_⟩;exact(hm S3 (((rs.le l2).le l3).rep k.toNat) P2).2
 ·exact(show False from P2).elim
theorem Hm{i:Int}(hg:Gl X x)(hm:∃t,X.mg x=some (.int i t))(hd:(x==("__debug__" : Str))=false:=by decide):PE X (.Name x pos) (av G E (dC (.int i))):=by obtain⟨t,hm⟩:=hm;exact mB (tm (v:=.int i) hg hm ⟨t,rfl⟩ hd) rfl
theorem jQ{n:String}(hg:Gl X x)(hm:X.mg x=none)(hv:bootBuiltins x=some (.type n))(hn:x ≠ "__name__" := by decide)(hd:(x==("__debug__" : Str))=false:=by decide):PE X (.Name x pos) (av G E (dC (.ty n))):=mB (ya (v:=.ty n) hg hm hv rfl hn hd) rfl
end
section
variable {a:Expr}
def ft:W->W->Option W:=i2 fun i j=>.bl (decide (i=j))
def kc:W->W->Option W:=i2 fun i j=>.bl (!decide (i=j))
theorem CW:mn AS ft:=by intro x y w e;cases x<;>cases y<;>simp only[ft,i2,Option.some.injEq,reduceCtorEq] at e;subst e;exact⟨_,_,_,rfl,rfl,rfl,fun H Q hq=>⟨rfl,by simpa using hq⟩⟩
theorem CV:mn AR kc:=by intro x y w e;cases x<;>cases y<;>simp only[kc,i2,Option.some.injEq,reduceCtorEq] at e;subst e;exact⟨_,_,_,rfl,rfl,rfl,fun H Q hq=>⟨rfl,by simpa using hq⟩⟩
theorem jg(ha:PE X a (av G E da))(hb:PE X b (av G E db)):PT X (.Compare a [.Eq] [b] pos) (cg G E (dB (aH ft da db))):=km Cn ha hb (iY _) (jm (lK CW))
theorem sd(ha:PE X a (av G E da))(hb:PE X b (av G E db)):PT X (.Compare a [.NotEq] [b] pos) (cg G E (dB (aH kc da db))):=km CO ha hb (iY _) (jm (lK CV))
def ot(k v:Sl->M W):Sl->M W:=fun sl ce=>match aw (k sl) (fun kw=>aw (v sl) fun vw=>ret (kw,vw)) (ce++[.dct []]) with
 | some (.ok (kw,vw) ce2)=>match iO kw,ce2[ce.length]? with
  | some key,some (.dct [])=>some (.ok (.cel ce.length) (ce2.set ce.length (.dct [(key,vw)])))
  | _,_=>none
 | some (.ex x ce2)=>some (.ex x ce2)
 | none=>none
theorem Gh{k v:Expr}{dk dv:Sl->M W}(hk:PE X k (av G E dk))(hv:PE X v (av G E dv)):PE X (.Dict [some k] [v] pos) (av G E (ot dk dv)):=by
 refine PE.imp (EB (G0 hk hv EC) rfl rfl (by intro h;cases h) (by simp)) fun σ H Q zz_=>bB zz_ fun F as sl ce S P=>?_;intro p hp;obtain⟨S1,l1⟩:=S.st.alloc (o:=.dK []) (c:=.dct []) hp (fun as' l=>⟨[],ak,.nil⟩);have hlen:as.length=ce.length:=S.st.len;have P':aJ G E (fun F as (a:W×W) (b:V×V)=>Rep F as a.1 b.1/\Rep F as a.2 b.2) F (as++[p]) σ sl (fun b H2=>H2 p=some (.dK [])/\∃kvs:List (Key×V),[b]=kvs.map (fun kv=>(kV kv.1,kv.2))/\kvs.length<=15/\Q (.ref p) (upd H2 p (.dK (lM [] kvs))))
   (aw (dk sl) (fun kw=>aw (dv sl) fun vw=>ret (kw,vw)) (ce++[.dct []])):=by
  unfold ot at P;cases e:aw (dk sl) (fun kw=>aw (dv sl) fun vw=>ret (kw,vw)) (ce++[.dct []]) with
  | none=>rw[e] at P;exact P.elim
  | some r=>cases r with
   | ex x ce2=>rw[e] at P;exact fun H' F' as' cv od l=>P H' F' as' cv od (l1.trans l)
   | ok a ce2 =>
    obtain⟨kw,vw⟩:=a;rw[e] at P;dsimp only at P;split at P
    ·rename_i key hkey hcell;intro b H' F' as' l S' r;obtain⟨kv,vv⟩:=b;have hp':as'[ce.length]?=some p:=l.c _ _ (by rw[<- hlen];simp);obtain⟨_,ps,h2,rk⟩:=S'.st.cell _ _ _ hp' hcell;cases rk;have rput:aA F' as' [(key,vw)] [(key,vv)]:=.cons ⟨rfl,r.2⟩ .nil;refine⟨h2,[(key,vv)],?_,by simp,?_⟩
     ·simp only[map_cons,map_nil];rw[show kv=kV key from s9 r.1 hkey]
     ·exact P (.ref p) _ F' as' (l1.trans l) (S'.slots (S'.st.write (o:=.dK (lM [] [(key,vv)])) (c:=.dct [(key,vw)]) hp' ⟨_,ak,rput⟩) .refl) (by simp only[Rep];exact⟨p,rfl,hp'⟩)
    ·exact P.elim
 refine(step (S.slots S1 l1) P').mono fun x H1 zz_=>bf zz_ fun wx F1 as1 ce1 l2 S2 rx P1=>(step S2 P1).mono fun y H2 zz_=>bf zz_ fun wy F2 as2 ce2 l3 S3 ry P2=>?_;exact aJ.done (RP:=fun F as (a:W×W) (b:V×V)=>Rep F as a.1 b.1/\Rep F as a.2 b.2) (a:=(wx,wy)) (b:=(x,y)) S3 P2 ⟨rx.le l3,ry⟩
end
def o9(K:Frag):Bool:=K.all fun p=>match p.2.cls with
 | .type "list" => false
 | _=>true
theorem CU(h:o9 K=true){o:Obj}(e:K.lookup a=some o):o.cls≠.type "list" := by
 intro hc;have hm:∀{l:Frag},l.lookup a=some o->(a,o)∈l:=by
  intro l
  induction l with
  | nil=>intro e;cases e
  | cons p r ih =>
   intro e;obtain⟨b,q⟩:=p
   by_cases hb:a=b
   ·subst hb;have:List.lookup a ((a,q)::r)=some q:=by simp[List.lookup]
    rw[this] at e;cases e;exact mem_cons_self
   ·have:List.lookup a ((b,q)::r)=List.lookup a r:=by
     have hb':(a==b)=false:=by simpa using hb
     simp[List.lookup,hb']
    rw[this] at e;exact mem_cons_of_mem _ (ih e)
 have:=all_eq_true.mp h _ (hm e);simp only[hc] at this;cases this
def spLaw(G:Frag->Ga)(d:List W->M W)(K:Frag):Sp:=fun vs H Q E=>o9 K=true->gf (G K) (fun _=>E0) 1 d vs H Q E
theorem law_sp{G:Frag->Ga}{d:List W->M W}(main:∀ns:List Int,ns.length<=n->∃ce',d [.lst (ns.map W.int)] []=some (.ok (.bl true) ce'))(K:Frag)(H:Hp)(a:Addr)(ns:List Int)(hl:ns.length<=n)(_hO:nX H)(hS:cY K H a (ns.map V.int)):spLaw G d K [.ref a] H (fun v _=>v=.bl true) fun _ _ _=>False:=by
 intro nl;rcases hS with hS|⟨o,its,m,hk,hc,_⟩
 ·obtain⟨ce',e⟩:=main ns hl;refine⟨rfl,H,[],[.lst (ns.map W.int)],[],⟨fun _ _ h=>h,by simp,rfl,fun k a c h _=>by simp at h⟩,.cons (by simp only[Rep];exact⟨a,_,rfl,hS,ah.ints ns⟩) .nil,?_⟩;rw[e];intro v H' F' as' _ _ r;simpa only[Rep] using r
 ·exact absurd hc (CU nl hk)
section
variable {α β:Type}
theorem g7{m:M α}{f:α->M β}{a:α}(h:m ce=some (.ok a ce')):aw m f ce=f a ce':=by simp only[aw,h]
theorem xH{a b:DS}(h:a sl ce=some (.go .nx sl' ce')):aq a b sl ce=b sl' ce':=by simp only[aq,h]
theorem Er{a b:DS}(h:a sl ce=some (.go (.rt w) sl' ce')):aq a b sl ce=some (.go (.rt w) sl' ce'):=by simp only[aq,h]
end
variable {l:Ce}
section
variable {c:C}
theorem pq(ce l:Ce)(j:Nat):(ce++l)[ce.length+j]?=l[j]?:=by rw[getElem?_append_right (le_add_right _ _),add_sub_cancel_left]
theorem vP(ce l:Ce):(ce++l)[ce.length]?=l[0]?:=pq ce l 0
theorem vf(ce l:Ce)(j:Nat)(c:C):(ce++l).set (ce.length+j) c=ce++l.set j c:=by rw[set_append_right _ _ (le_add_right _ _),add_sub_cancel_left]
theorem BY(ce l:Ce)(c:C):(ce++l).set ce.length c=ce++l.set 0 c:=vf ce l 0 c
theorem cU(ce l:Ce):gX ce (ce++l):=⟨by rw[length_append];omega,fun k c hk h=>.inl (by rwa [getElem?_append_left hk] at h)⟩
theorem ub(ce l:Ce):(ce++l).take ce.length=ce:=take_left
theorem bz(n:Nat):∀ns:List Int,cB n (ns.map W.int)
 | []=>by simp only[map_nil,cB]
 | a::r=>by simp only[map_cons,cB,aU];exact⟨trivial,bz n r⟩
end
theorem Gg{c:C}(h:l[j]?=some c)(hb:eR ce.length c):finO ce (ce++l) (.cel (ce.length+j))=some (.ok (.cel ce.length) (ce++[c])):=by
 have e:(ce++l)[ce.length+j]?=some c:=by rw[pq];exact h
 simp only[finO,e];rw[if_pos ⟨cU ce l,le_add_right _ _,hb⟩,ub]
theorem nB(hb:aU ce.length w):finC ce (ce++l) w=some (.ok w ce):=by unfold finC;rw[if_pos ⟨cU ce l,hb⟩,ub]
theorem dG(hb:aU ce.length w):finC ce ce w=some (.ok w ce):=by have:=nB (l:=[]) hb;rwa [append_nil] at this
theorem jU{d:List W->M W}(h:d ws ce=some (.ok (.cel ce.length) (ce++[.lst xs])))(hb:cB ce.length xs):cX d ws ce=some (.ok (.lst xs) ce):=by
 have e:(ce++[C.lst xs])[ce.length]?=some (.lst xs):=by rw[vP];rfl
 simp only[cX,h,e];rw[if_pos ⟨cU ce _,rfl,hb⟩,ub]
end VS
open PySem PySem.Spec PyProof.Rows L2 VS
variable {n k y j p fu:Nat} {xs ws ys:List W} {v d da db:Sl->M W} {ow iw w':W} {key:Key} {F F' T js l:List Nat} {mk:List W->M W} {di:Sl->M Src} {ce0 ce' c1 c2 c3 c':Ce} {fin:Ce->Ce->W->Option (R W)} {body:DS} {sl':Sl} {Q:O->Prop} {ra:Sl->M (List W)} {ng:Bool} {m:List Int} {X:Cx} {G:Ga} {pos:Pos}
namespace VS
section
variable {α β:Type}
@[simp] theorem pF(m:M α)(f:α->M β)(ce:Ce):aw m f ce=match m ce with|some (.ok a ce')=>f a ce'|some (.ex x ce')=>some (.ex x ce')|none=>none:=rfl
@[simp] theorem BX(m:Option (R α))(k:α->Ce->Option O):cL m k=match m with|some (.ok a ce')=>k a ce'|some (.ex x ce')=>some (.ex x ce')|none=>none:=rfl
@[simp] theorem vO(a:α)(ce:Ce):ret a ce=some (.ok a ce):=rfl
@[simp] theorem wO(f:Ce->Option α)(ce:Ce):look f ce=(f ce).map fun a=>R.ok a ce:=rfl
end
variable (a b c:Sl->M W) (ta tb:Sl->M Bool) (s t:DS) (sl:Sl) (ce:Ce) (i:Nat) (w:W)
@[simp] theorem pR:aa i sl ce=match sl[i]? with|some (some w)=>some (.ok w ce)|_=>none:=rfl
@[simp] theorem Kn:dC w sl ce=some (.ok w ce):=rfl
@[simp] theorem KD(f:W->W->Option W):aH f a b sl ce=aw (a sl) (fun x=>aw (b sl) fun y=>look fun _=>f x y) ce:=rfl
@[simp] theorem CT(f:Ce->W->W->Option W):aD f a b sl ce=aw (a sl) (fun x=>aw (b sl) fun y=>look fun ce=>f ce x y) ce:=rfl
@[simp] theorem KC(f:W->Option W):c7 f a sl ce=aw (a sl) (fun x=>look fun _=>f x) ce:=rfl
@[simp] theorem Km:dB a sl ce=aw (a sl) (fun w=>look fun _=>match w with|.bl b=>some b|_=>none) ce:=rfl
@[simp] theorem KY:i_ a sl ce=aw (a sl) (fun w=>look fun ce=>gB ce w) ce:=rfl
@[simp] theorem K_:gF ta tb sl ce=aw (ta sl) (fun x=>match x with|true=>tb sl|false=>ret false) ce:=rfl
@[simp] theorem KW:ie ta tb sl ce=aw (ta sl) (fun x=>match x with|true=>ret true|false=>tb sl) ce:=rfl
@[simp] theorem K9:fK ta sl ce=aw (ta sl) (fun x=>ret (!x)) ce:=rfl
@[simp] theorem KU:aq s t sl ce=match s sl ce with|some (.go .nx sl' ce')=>t sl' ce'|r=>r:=rfl
@[simp] theorem K8:bu sl ce=some (.go .nx sl ce):=rfl
@[simp] theorem KS:aM i a sl ce=cL (a sl ce) fun w ce'=>some (.go .nx (sl.set i (some w)) ce'):=rfl
@[simp] theorem KR:aW a sl ce=cL (a sl ce) fun w ce'=>some (.go (.rt w) sl ce'):=rfl
@[simp] theorem BW:b_ a sl ce=cL (a sl ce) fun _ ce'=>some (.go .nx sl ce'):=rfl
@[simp] theorem KA:bb ta s t sl ce=cL (ta sl ce) fun x ce'=>match x with|true=>s sl ce'|false=>t sl ce':=rfl
@[simp] theorem wN:ai sl ce=some (.ok [] ce):=rfl
@[simp] theorem xG(r:Sl->M (List W)):ag a r sl ce=aw (a sl) (fun x=>aw (r sl) fun xs=>ret (x::xs)) ce:=rfl
@[simp] theorem BV(f:List W->M W)(r:Sl->M (List W)):aR f r sl ce=aw (r sl) f ce:=rfl
@[simp] theorem K7(n:Nat)(f:List W->M W)(r:Sl->M (List W)):bc n f r sl ce=aw (r sl) (fun ws=>if ws.length=n then f ws else kn) ce:=rfl
@[simp] theorem KQ(r:Sl->M (List W)):eK r sl ce=aw (r sl) (fun xs=>iK (.tup xs) xs.length) ce:=rfl
@[simp] theorem KP(r:Sl->M (List W)):dO r sl ce=aw (r sl) (fun xs=>iK (.lst xs) xs.length) ce:=rfl
@[simp] theorem K6(r:Sl->M (List W)):dX r sl ce=aw (r sl) (fun xs=>jv (.lst xs) xs.length) ce:=rfl
@[simp] theorem K5:ki sl ce=jv (.dct []) 0 ce:=rfl
@[simp] theorem Kz(h:n<=sizeLine):iK w n ce=some (.ok w ce):=if_pos h
@[simp] theorem Ky(c:C)(h:n<=sizeLine):jv c n ce=some (.ok (.cel ce.length) (ce++[c])):=if_pos h
@[simp] theorem r_(h:xs.length<=sizeLine):aQ xs ce=some (.ok (.lst xs) ce):=if_pos h
@[simp] theorem KO(h:xs.length<=sizeLine):fF xs ce=some (.ok (.cel ce.length) (ce++[.lst xs])):=if_pos h
@[simp] theorem CS(h:xs.length<=sizeLine):qX xs ce=some (.ok (.tup xs) ce):=if_pos h
@[simp] theorem BU(f:W->List W->M W)(r:Sl->M (List W)):cR f a r sl ce=aw (a sl) (fun x=>aw (look fun ce=>jE ce x) fun _=>aw (r sl) fun ws=>f x ws) ce:=rfl
@[simp] theorem KN(f:W->List W->M W):kP f a sl ce=aw (a sl) (fun x=>aw (look fun ce=>jE ce x) fun _=>f x []) ce:=rfl
@[simp] theorem Kl:gN i w sl ce=some (sl.set i (some w),ce):=rfl
theorem wM{o i:Sl->M W}{sl:Sl}{ce ce1 ce2 ce3:Ce}{w:W}{kvs:List (Key×W)}(h1:v sl ce=some (.ok w ce1))(h2:o sl ce1=some (.ok ow ce2))(h3:i sl ce2=some (.ok iw ce3))(h4:iO iw=some key)(h5:kR ce3 ow=some (k,kvs))(h6:kvs.length<sizeLine) :
  iM o i v sl ce=some (.go .nx sl (ce3.set k (.dct (ib kvs key w)))):=by
 simp only[iM,cL,h1,h2,h3,h4,h5,if_pos h6]
theorem pE{w y:W}{ce:Ce}(h:jG ce w=some (k,xs))(hl:xs.length<sizeLine):cP w [y] ce=some (.ok .non (ce.set k (.lst (xs++[y])))):=by simp only[cP,h,if_pos hl]
@[simp] theorem KL(x y:Int):cI (.int x) (.int y)=some (.int (x+y)):=rfl
@[simp] theorem KJ(x y:Int):gU (.int x) (.int y)=some (.int (x-y)):=rfl
@[simp] theorem Kx(x y:Int):ml (.int x) (.int y)=some (.bl (decide (x<y))):=rfl
@[simp] theorem Kw(x y:Int):kL (.int x) (.int y)=some (.bl (decide (x<=y))):=rfl
@[simp] theorem Kv(x y:Int):gw (.int x) (.int y)=some (.bl (decide (y<x))):=rfl
@[simp] theorem Ku(x y:Int):u7 (.int x) (.int y)=some (.bl (decide (y<=x))):=rfl
@[simp] theorem KI(x y:Int):ft (.int x) (.int y)=some (.bl (decide (x=y))):=rfl
@[simp] theorem KH(x y:Int):kc (.int x) (.int y)=some (.bl (!decide (x=y))):=rfl
@[simp] theorem KG(x:Int):jb (.int x)=some (.int (-x)):=rfl
theorem oq{x y:Int}(h:fq x y):fG (.int x) (.int y)=some (.int (x*y)):=by simp only[fG,kK,if_pos h]
theorem mR{x y:Int}(h:0<y):bW (.int x) (.int y)=some (.int (x % y)):=by simp only[bW,kK,if_pos h]
theorem CQ{x y:Int}(h:0<y/\y<1073741824):mz (.int x) (.int y)=some (.int (x / y)):=by have h':rE x y:=h;simp only[mz,kK,if_pos h']
@[simp] theorem K3(xs:List W):dj ce (.tup xs)=some xs:=rfl
@[simp] theorem K2(xs:List W):dj ce (.lst xs)=some xs:=rfl
@[simp] theorem CP(xs:List W):bU ce (.lst xs)=some xs:=rfl
theorem fU{ce:Ce}(h:ce[k]?=some (.lst xs)):bU ce (.cel k)=some xs:=by simp only[bU,h]
theorem gK{ce:Ce}(h:ce[k]?=some (.lst xs)):dj ce (.cel k)=some xs:=by simp only[dj,bU,h]
theorem wK{ce:Ce}{xs:List (Key×W)}(h:ce[k]?=some (.dct xs)):my ce (.cel k)=some xs:=by simp only[my,h]
theorem k_{ce:Ce}(h:ce[k]?=some (.lst xs)):jG ce (.cel k)=some (k,xs):=by simp only[jG,h]
theorem lH{ce:Ce}{xs:List (Key×W)}(h:ce[k]?=some (.dct xs)):kR ce (.cel k)=some (k,xs):=by simp only[kR,h]
@[simp] theorem K1(j:Int):iO (.int j)=some (.inl j):=rfl
theorem Gf{α:Type}{xs:List α}:atI xs (j:Int)=xs[j]?:=by
 unfold atI gm
 by_cases h:j<xs.length
 ·rw[if_pos (by omega),if_pos (by omega)];simp
 ·rw[if_pos (by omega),if_neg (by omega),getElem?_eq_none (by omega)];rfl
theorem fJ{x y:W}{ce:Ce}(h:dj ce x=some xs)(hy:y=.int j):aC ce x y=xs[j]?:=by subst hy;simp only[aC,h];exact Gf
theorem k9(c0:C):(ce++[c0])[ce.length]?=some c0:=by rw[vP];rfl
def nW(n:Nat):W:=.int (n:Int)
def wT(l:List Nat):W:=.tup (l.map nW)
def wB(b:List (List Nat)):W:=.tup (b.map wT)
def kvs(F:List Nat):List (Key×W):=F.map fun(x:Nat)=>((Sum.inl (x:Int):Key),W.bl true)
def cJ(F:List Nat):List Int:=F.map fun(x:Nat)=>(x:Int)
theorem Ep(F:List Nat)(y:Nat):(ic (kvs F) (.inl (y:Int))).isSome=decide (y∈F):=by
 induction F with
 | nil=>rfl
 | cons x F ih =>
  by_cases h:x=y
  ·subst h;simp[kvs,ic]
  ·have h':¬((x:Int)=(y:Int)):=by omega
   have e:ic (kvs (x::F)) (.inl (y:Int))=ic (kvs F) (.inl (y:Int)):=by simp[kvs,ic,find?_cons,h']
   have hm:(y∈x::F)↔y∈F:=by simp[Ne.symm h]
   rw[e,ih];simp[hm]
theorem sV(F:List Nat)(y:Nat)(h:y∉F):ib (kvs F) (.inl (y:Int)) (.bl true)=kvs (F++[y]):=by
 have e:((kvs F).any fun kv=>decide (kv.1=(.inl (y:Int):Key)))=false:=by rw[eq_false_iff];intro q;obtain⟨p,hp,e⟩:=any_eq_true.mp q;obtain⟨x,hx,rfl⟩:=mem_map.mp hp;have e:=of_decide_eq_true e;have:(x:Int)=y:=Sum.inl.inj e;exact h (by rw[<- ofNat_inj.mp this];exact hx)
 unfold ib;rw[e];simp[kvs]
theorem lh(F:List Nat):(kvs F).length=F.length:=by simp[kvs]
theorem ua(F:List Nat):kY (kvs F)=some (cJ F):=by
 induction F with
 | nil=>rfl
 | cons x F ih=>simp only[kvs,cJ,map_cons,kY] at ih ⊢;rw[ih];rfl
theorem nF(F:List Nat):(cJ F).length=F.length:=by simp[cJ]
theorem r9(F:List Nat):F.map nW=(cJ F).map W.int:=by simp[cJ,nW]
theorem qu(F:List Nat):kf (F.map nW)=some (cJ F):=by rw[r9,zu]
theorem Hu(h:F.Perm F'):gb (cJ F)=gb (cJ F') :=
 qE ((jW _).trans ((show(cJ F).Perm (cJ F') from h.map _).trans (jW _).symm)) (qA _) (qA _)
theorem JI(h:F.Nodup)(h':F'.Nodup)(e:∀x,x∈F↔x∈F'):F.Perm F':=by rw[perm_iff_count];intro x;rw[h.count,h'.count];simp[e x]
theorem eS:∀{n:Nat} {F:List Nat},F.Nodup->(∀x∈F,x<n)->F.length<=n
 | 0,F,_,hl=>by
  cases F with
  | nil=>simp
  | cons a r=>exact absurd (hl a mem_cons_self) (not_lt_zero _)
 | n+1,F,h,hl=>by
  by_cases hn:n∈F
  ·have h1:=eS (n:=n) (h.erase n) fun x hx=>by
    have hx':=(List.Nodup.mem_erase_iff h).mp hx;have:=hl x hx'.2;have:=hx'.1;omega
   rw[length_erase_of_mem hn] at h1;have:=length_pos_of_mem hn;omega
  ·have h1:=eS (n:=n) h fun x hx=>by
    have:=hl x hx;have:x≠n:=fun e=>hn (e▸hx);omega
   omega
inductive Reach (b:List (List Nat)) (ok:Nat->Prop) (s:Nat):Nat->Prop where
 | refl:Reach b ok s s
 | step {x y:Nat} (h:Reach b ok s x) (hy:y∈b.getD x []) (o:ok y):Reach b ok s y
structure Comp (b:List (List Nat)) (ok:Nat->Prop) (s:Nat) (F:List Nat):Prop where
 nd:F.Nodup
 st:s∈F
 lt:∀x∈F,x<b.length
 cl:∀x∈F,∀y∈b.getD x [],ok y->y∈F
 re:∀x∈F,Reach b ok s x
theorem Comp.mem{b:List (List Nat)}{ok:Nat->Prop}{s:Nat}(h:Comp b ok s F)(x:Nat):x∈F↔Reach b ok s x:=by
 refine⟨h.re x,fun r=>?_⟩
 induction r with
 | refl=>exact h.st
 | step _ hy o ih=>exact h.cl _ ih _ hy o
def Bd(b:List (List Nat)):Prop:=∀r∈b,∀x∈r,x<b.length
theorem Bd.get{b:List (List Nat)}(h:Bd b){x:Nat}(hy:y∈b.getD x []):y<b.length:=by
 rw[getD_eq_getElem?_getD] at hy;cases e:b[x]? with
 | none=>rw[e] at hy;simp at hy
 | some r=>rw[e] at hy;exact h r (mem_of_getElem? e) y (by simpa using hy)
structure Row (row:List Nat) (ok:Nat->Prop) (F F':List Nat) (r new:List Nat):Prop where
 app:F'=F++new
 nd:F'.Nodup
 mem:∀y∈new,y∈row/\ok y
 done:∃d,row=d++r/\∀y∈d,ok y->y∈F'
theorem ko{ce:Ce}{x:W}(h:dj ce x=some xs):aC ce x (nW j)=xs[j]?:=fJ h rfl
theorem Dk(T:List Nat)(y:Nat):(T.map nW).any (fun z=>aN z (nW y))=decide (y∈T):=by
 induction T with
 | nil=>rfl
 | cons x T ih =>
  rw[map_cons,any_cons,ih]
  by_cases h:x=y
  ·subst h;simp[nW,aN]
  ·have h':¬((x:Int)=(y:Int)):=by omega
   simp[nW,aN,h',Ne.symm h]
theorem Dj(T:List Nat):(T.map nW).all (bh 8)=true:=by rw[all_eq_true];intro w hw;obtain⟨x,_,rfl⟩:=mem_map.mp hw;rfl
theorem oZ(T:List Int)(n:Nat):(T.map W.int).all (bh n)=true:=by rw[all_eq_true];intro w hw;obtain⟨x,_,rfl⟩:=mem_map.mp hw;cases n<;>rfl
theorem Di{ce:Ce}{x:W}(h:dj ce x=some (T.map nW))(ng:Bool):ll ng ce (nW y) x=some (.bl (if ng then !decide (y∈T) else decide (y∈T))):=by have c:bh 8 (nW y)=true:=rfl;have e:drf ce (nW y)=nW y:=rfl;simp only[ll,h,e,c,Dj,Bool.and_self,if_true,Dk]
theorem xF(a b:Int):aN (.int a) (.int b)=decide (a=b):=by simp[aN];rfl
theorem ue:∀(l m:List Int),bI (l.map W.int) (m.map W.int)=decide (l=m)
 | [],[]=>by simp[bI]
 | [],_::_=>by simp[bI]
 | _::_,[]=>by simp[bI]
 | a::l,b::m=>by
  simp only[map_cons,bI,xF,ue l m]
  by_cases h1:a=b<;>by_cases h2:l=m<;>simp[h1,h2]
theorem Ge(l m:List Int):aN (.lst (l.map W.int)) (.lst (m.map W.int))=decide (l=m):=by simp only[aN,ue]
theorem fI:(36:Nat)<sizeLine:=by decide
theorem wJ{s:Src}{cs:Sl}{e:Sl->M W}{ce:Ce}(hst:s.Stays ce)(P:W->W->Prop):∀(l ys:List W),(∀x∈l,∃y,P x y/\e (some x::cs) ce=some (.ok y ce))->ys.length+l.length<=sizeLine ->
  ∃zs,dU s cs dD e l ys ce=some (.ok (ys++zs) ce)/\PySem.Paired P l zs
 | [],ys,_,_=>⟨[],by simp only[dU,if_pos hst,append_nil],.nil⟩
 | x::r,ys,h,hz=>by
  have hl:ys.length<sizeLine:=by simp only[length_cons] at hz;omega
  obtain⟨y,py,ey⟩:=h x mem_cons_self;obtain⟨zs,ez,pz⟩:=wJ hst P r (ys++[y]) (fun z hz=>h z (mem_cons_of_mem _ hz)) (by simp only[length_append,length_cons,length_nil] at hz ⊢;omega);refine⟨y::zs,?_,.cons py pz⟩;rw[qc ⟨hst,hl⟩];show aw (ret true) _ ce=_;rw[g7 (m:=ret true) rfl];show aw (e (some x::cs)) (fun y=>dU s cs dD e r (ys++[y])) ce=_;rw[g7 ey,ez,append_assoc];rfl
theorem Dh{e:Sl->M W}{sl:Sl}{ce:Ce}{s:Src}(hi:di sl ce0=some (.ok s ce))(hst:s.Stays ce)(P:W->W->Prop)(h:∀x∈s.items,∃y,P x y/\e (some x::dE js sl) ce=some (.ok y ce))(hz:s.items.length<=sizeLine) :
  ∃zs,cM mk js di dD e sl ce0=mk zs ce/\PySem.Paired P s.items zs:=by
 obtain⟨zs,e1,p⟩:=wJ hst P s.items [] h (by simpa using hz);refine⟨zs,?_,p⟩;show aw (di sl) (fun s=>aw (dU s (dE js sl) dD e s.items []) mk) ce0=_;rw[g7 hi,g7 e1,nil_append]
theorem zq{s:Src}{cs:Sl}(hst:∀ce,s.Stays ce):∀(l ys:List W) (ce:Ce),ys.length+l.length<=sizeLine ->
  dU s cs dD (dX ai) l ys ce=some (.ok (ys++(List.range l.length).map fun i=>W.cel (ce.length+i)) (ce++List.replicate l.length (C.lst [])))
 | [],ys,ce,_=>by simp[dU,if_pos (hst ce)]
 | x::r,ys,ce,hz=>by
  have hl:ys.length<sizeLine:=by simp only[length_cons] at hz;omega
  have ih:=zq (s:=s) (cs:=cs) hst r (ys++[W.cel ce.length]) (ce++[C.lst []]) (by simp only[length_append,length_cons,length_nil] at hz ⊢;omega);rw[qc ⟨hst ce,hl⟩];show aw (ret true) _ ce=_;rw[g7 (m:=ret true) rfl];have ex:dX ai (some x::cs) ce=some (.ok (W.cel ce.length) (ce++[C.lst []])):=by simp
  show aw (dX ai (some x::cs)) (fun y=>dU s cs dD (dX ai) r (ys++[y])) ce=_;rw[g7 ex,ih];have e1:(List.range (r.length+1)).map (fun i=>W.cel (ce.length+i))=W.cel ce.length::(List.range r.length).map fun i=>W.cel ((ce++[C.lst []]).length+i):=by rw[range_succ_eq_map,map_cons,map_map];congr 1;apply map_congr_left;intro i _;simp only[Function.comp,length_append,length_cons,length_nil];congr 1;omega
  have e2:ce++List.replicate (r.length+1) (C.lst [])=ce++[C.lst []]++List.replicate r.length (C.lst []):=by rw[replicate_succ,append_assoc];rfl
  rw[length_cons,e1,e2,append_assoc];rfl
theorem Dg(h:n<=1000):jF [nW n]=some (.rng 0 n):=by
 have h1:(-4611686018427387904:Int)<=(n:Int)/\(n:Int)<4611686018427387904:=by omega
 simp only[jF,nW,if_pos h1,toNat_natCast]
theorem Df{d:Sl->M (List W)}{sl:Sl}{ce:Ce}(hd:d sl ce=some (.ok [nW n] ce'))(h:n<=1000):fQ d sl ce=some (.ok (.rng 0 n) ce'):=by show aw (d sl) (fun ws=>look (fun _=>jF ws)) ce=_;rw[g7 hd];show(jF [nW n]).map _=_;rw[Dg h];rfl
theorem tH(k:Int)(h:0<n):∃j:Nat,j<n/\k % (n:Int)=j:=by have h1:=emod_nonneg k (b:=(n:Int)) (by omega);have h2:=emod_lt_of_pos k (b:=(n:Int)) (by omega);exact⟨(k % (n:Int)).toNat,by omega,by omega⟩
theorem pQ{k:Int}(h:0<n)(e:k % (n:Int)=j):bW (.int k) (.int (n:Int))=some (nW j):=by rw[mR (by omega),e];rfl
theorem wI{ce:Ce}{sl:Sl}{w:W}{r:Option (R W)}(h:body (ws.map some++List.replicate (n-ws.length) none) ce=some (.go (.rt w) sl ce'))(hf:fin ce ce' w=r):bJ fin n body ws ce=r:=by unfold bJ;rw[h];exact hf
theorem Gd{s:Src}{g:DG}{sl:Sl}{ce:Ce}(hst:s.Stays ce):gS s g body [] sl ce=some (.go .nx sl ce):=by simp only[gS,if_pos hst]
theorem qi{g:DG}{sl:Sl}{ce:Ce}{src:Src}(hi:di sl ce=some (.ok src ce0)):cD di g body sl ce=gS src g body src.items sl ce0:=by simp only[cD,cL,hi]
theorem xE{i:Nat}{sl:Sl}{ce:Ce}{w:W}(h:d sl ce=some (.ok w ce')):aM i d sl ce=some (.go .nx (sl.set i (some w)) ce'):=by simp only[aM,cL,h]
theorem wb{c:Sl->M Bool}{a b:DS}{sl:Sl}{ce:Ce}(h:c sl ce=some (.ok true ce')):bb c a b sl ce=a sl ce':=by simp only[bb,cL,h]
theorem wa{c:Sl->M Bool}{a b:DS}{sl:Sl}{ce:Ce}(h:c sl ce=some (.ok false ce')):bb c a b sl ce=b sl ce':=by simp only[bb,cL,h]
theorem ud(n:Nat):(Src.rng 0 n).items=(List.range n).map nW:=by simp only[Src.items,Int.zero_add];rfl
theorem aG(n:Nat):∀l:List Nat,cB n (l.map nW)
 | []=>by simp only[map_nil,cB]
 | a::r=>by simp only[map_cons,cB,nW,aU];exact⟨trivial,aG n r⟩
theorem De(n:Nat)(b:List (List Nat)):aU n (wB b):=by
 simp only[wB,aU]
 induction b with
 | nil=>simp only[map_nil,cB]
 | cons r b ih=>simp only[map_cons,cB,wT,aU];exact⟨aG n r,ih⟩
def cG(r:List Nat):List Nat:=(gb (cJ r)).map Int.toNat
theorem oY(r:List Nat):(gb (cJ r)).map W.int=(cG r).map nW:=by unfold cG;rw[map_map];apply map_congr_left;intro x hx;have hx':=(jW (cJ r)).subset hx;obtain⟨y,_,rfl⟩:=mem_map.mp hx';show W.int (y:Int)=W.int (((y:Int).toNat:Nat):Int);simp
theorem qt(r:List Nat)(x:Nat):x∈cG r↔x∈r:=by
 unfold cG;constructor
 ·intro h;obtain⟨z,hz,rfl⟩:=mem_map.mp h;obtain⟨y,hy,rfl⟩:=mem_map.mp ((jW (cJ r)).subset hz);simpa using hy
 ·intro h;refine mem_map.mpr ⟨(x:Int),(jW (cJ r)).symm.subset (mem_map.mpr ⟨x,h,rfl⟩),by simp⟩
theorem Reach.trans{b:List (List Nat)}{ok:Nat->Prop}{s x:Nat}(h:Reach b ok s x)(h':Reach b ok x y):Reach b ok s y:=by
 induction h' with
 | refl=>exact h
 | step _ hy o ih=>exact .step ih hy o
theorem Reach.okOf{b:List (List Nat)}{ok:Nat->Prop}{s x:Nat}(hs:ok s)(h:Reach b ok s x):ok x:=by
 cases h with
 | refl=>exact hs
 | step _ _ o=>exact o
theorem Reach.symm{b:List (List Nat)}{ok:Nat->Prop}{s x:Nat}(sym:∀i j,j∈b.getD i []->i∈b.getD j [])(hs:ok s)(h:Reach b ok s x):Reach b ok x s:=by
 induction h with
 | refl=>exact .refl
 | step h hy o ih=>exact Reach.trans (.step .refl (sym _ _ hy) (h.okOf hs)) ih
theorem Paired.nth{α β:Type}{P:α->β->Prop}{l:List α}{m:List β}(h:PySem.Paired P l m):l.length=m.length/\∀(i:Nat) (a:α) (b:β),l[i]?=some a->m[i]?=some b->P a b:=by refine⟨length h,fun i a b h1 h2=>?_⟩;obtain⟨b',e,p⟩:=L2.Paired.at2 h i a h1;rw[h2] at e;cases e;exact p
def Run(s:DS)(sl:Sl)(ce:Ce)(Q:O->Prop):Prop:=∃o,s sl ce=some o/\Q o
def Nx(P:Sl->Ce->Prop):O->Prop
 | .go .nx sl ce=>P sl ce
 | .go .ct sl ce=>P sl ce
 | _=>False
def Rt(P:W->Ce->Prop):O->Prop
 | .go (.rt w) _ ce=>P w ce
 | _=>False
def NR(P:Sl->Ce->Prop)(T:W->Ce->Prop):O->Prop
 | .go .nx sl ce=>P sl ce
 | .go .ct sl ce=>P sl ce
 | .go (.rt w) _ ce=>T w ce
 | _=>False
section
variable {s a b:DS} {sl:Sl} {ce:Ce} {Q':O->Prop} {e:Sl->M W} {w x y:W} {i:Nat} {p q:Bool} {ta tb:Sl->M Bool}
theorem Run.mono(h:Run s sl ce Q)(m:∀o,Q o->Q' o):Run s sl ce Q':=by obtain⟨o,e,q⟩:=h;exact⟨o,e,m o q⟩
theorem Dd{o:O}(h:s sl ce=some o)(q:Q o):Run s sl ce Q:=⟨o,h,q⟩
theorem hJ(q:Q (.go .nx sl ce)):Run bu sl ce Q:=⟨_,rfl,q⟩
theorem tG(h:e sl ce=some (.ok w ce'))(q:Q (.go .nx (sl.set i (some w)) ce')):Run (aM i e) sl ce Q:=⟨_,xE h,q⟩
theorem bL(h:e sl ce=some (.ok w ce'))(q:Q (.go (.rt w) sl ce')):Run (aW e) sl ce Q:=⟨_,by simp only[aW,cL,h],q⟩
theorem kx(h:e sl ce=some (.ok w ce'))(q:Q (.go .nx sl ce')):Run (b_ e) sl ce Q:=⟨_,by simp only[b_,cL,h],q⟩
theorem fy(h:ta sl ce=some (.ok p ce'))(ht:p=true->Run a sl ce' Q)(hf:p=false->Run b sl ce' Q):Run (bb ta a b) sl ce Q:=by
 cases p with
 | true=>obtain⟨o,e,q⟩:=ht rfl;exact⟨o,by rw[wb h];exact e,q⟩
 | false=>obtain⟨o,e,q⟩:=hf rfl;exact⟨o,by rw[wa h];exact e,q⟩
theorem iV(h:a sl ce=some (.go .nx sl' ce'))(q:Run b sl' ce' Q):Run (aq a b) sl ce Q:=by obtain⟨o,e,q⟩:=q;exact⟨o,by rw[xH h];exact e,q⟩
theorem aZ(h:e sl ce=some (.ok w ce'))(q:Run b (sl.set i (some w)) ce' Q):Run (aq (aM i e) b) sl ce Q:=iV (xE h) q
theorem iU(h:e sl ce=some (.ok w ce'))(q:Run b sl ce' Q):Run (aq (b_ e) b) sl ce Q:=iV (by simp only[b_,cL,h]) q
theorem Ir{c:DS}:aq (aq a b) c=aq a (aq b c):=by
 funext sl ce;simp only[aq];cases a sl ce with
 | none=>rfl
 | some o=>cases o with
  | ex x c=>rfl
  | go f sl' ce'=>cases f<;>rfl
theorem gZ{c:DS}(h:Run (aq a (aq b c)) sl ce Q):Run (aq (aq a b) c) sl ce Q:=by rw[Ir];exact h
theorem cH{c:DS}(h:Run c sl ce Q):Run (aq bu c) sl ce Q:=h
theorem gI{c:DS}(h:Run (aW e) sl ce Q):Run (aq (aW e) c) sl ce Q:=by
 obtain⟨o,e',q⟩:=h;refine⟨o,?_,q⟩;simp only[aq];simp only[aW,cL] at e' ⊢;cases h:e sl ce with
 | none=>rw[h] at e';cases e'
 | some r=>rw[h] at e';cases r<;>exact e'
theorem bO{c:DS}(h:ta sl ce=some (.ok p ce'))(ht:p=true->Run (aq a c) sl ce' Q)(hf:p=false->Run (aq b c) sl ce' Q):Run (aq (bb ta a b) c) sl ce Q:=by
 cases p with
 | true=>obtain⟨o,e,q⟩:=ht rfl;exact⟨o,by rw[<- e];simp only[aq,wb h],q⟩
 | false=>obtain⟨o,e,q⟩:=hf rfl;exact⟨o,by rw[<- e];simp only[aq,wa h],q⟩
end
section
variable {α:Type} {en:α->W} {src:Src} {g:DG} {b:DS}
theorem qr(xs:List α)(R:List α->Sl->Ce->Prop)(T:W->Ce->Prop)(step:∀d x r sl ce,d++x::r=xs->R d sl ce->src.Stays ce/\∃sl1,g (en x) sl ce=some (sl1,ce)/\Run body sl1 ce (NR (R (d++[x])) T))(hst:∀sl ce,R xs sl ce->src.Stays ce) :
  ∀(r d:List α) (sl:Sl) (ce:Ce),d++r=xs->R d sl ce->Run (gS src g body (r.map en)) sl ce fun o=>(∃sl' ce',o=.go .nx sl' ce'/\R xs sl' ce')\/∃w sl' ce',o=.go (.rt w) sl' ce'/\T w ce'
 | [],d,sl,ce,e,h=>by
  rw[append_nil] at e;subst e;exact⟨_,Gd (hst _ _ h),.inl ⟨_,_,rfl,h⟩⟩
 | x::r,d,sl,ce,e,h=>by
  obtain⟨hs,sl1,e1,o,e2,q⟩:=step d x r sl ce e h;have go:∀sl2 ce2,R (d++[x]) sl2 ce2->Run (gS src g body (r.map en)) sl2 ce2 fun o=>(∃sl' ce',o=.go .nx sl' ce'/\R xs sl' ce')\/∃w sl' ce',o=.go (.rt w) sl' ce'/\T w ce':=fun sl2 ce2 h2=>qr xs R T step hst r (d++[x]) sl2 ce2 (by rw[append_assoc];exact e) h2;cases o with
  | ex x c=>exact q.elim
  | go f sl2 ce2 =>
   cases f with
   | nx =>
    obtain⟨o,e3,q3⟩:=go sl2 ce2 q;exact⟨o,by simp only[map_cons,gS,if_pos hs,e1,e2];exact e3,q3⟩
   | ct =>
    obtain⟨o,e3,q3⟩:=go sl2 ce2 q;exact⟨o,by simp only[map_cons,gS,if_pos hs,e1,e2];exact e3,q3⟩
   | bk=>exact q.elim
   | rt w=>exact⟨.go (.rt w) sl2 ce2,by simp only[map_cons,gS,if_pos hs,e1,e2],.inr ⟨w,sl2,ce2,rfl,q⟩⟩
theorem tF{sl:Sl}{ce:Ce}{i:Nat}{xs:List α}(hi:di sl ce=some (.ok src ce0))(hx:src.items=xs.map en)(R:List α->Sl->Ce->Prop)(h0:R [] sl ce0)(step:∀d x r sl ce,d++x::r=xs->x∈xs->R d sl ce->src.Stays ce/\Run body (sl.set i (some (en x))) ce (Nx (R (d++[x]))))(hst:∀sl ce,R xs sl ce->src.Stays ce)(fin:∀sl ce,R xs sl ce->Q (.go .nx sl ce)):Run (cD di (gN i) body) sl ce Q:=by
 obtain⟨o,e,q⟩:=qr (g:=gN i) (body:=body) (en:=en) (src:=src) xs R (fun _ _=>False) (fun d x r sl ce e h=>by
  obtain⟨h1,h2⟩:=step d x r sl ce e (by rw[<- e];simp) h;exact⟨h1,_,rfl,h2.mono fun o q=>by
   cases o with
   | ex x c=>exact q.elim
   | go f sl2 ce2=>cases f<;>first|exact q|exact q.elim⟩) hst xs [] sl ce0 rfl h0
 rcases q with ⟨sl',ce',rfl,h⟩|⟨w,sl',ce',rfl,h⟩
 ·exact⟨_,by rw[qi hi,hx];exact e,fin _ _ h⟩
 ·exact h.elim
theorem tE{sl:Sl}{ce:Ce}{i:Nat}{xs:List α}(hi:di sl ce=some (.ok src ce0))(hx:src.items=xs.map en)(R:List α->Sl->Ce->Prop)(h0:R [] sl ce0)(step:∀d x r sl ce,d++x::r=xs->x∈xs->R d sl ce->src.Stays ce/\Run body (sl.set i (some (en x))) ce (Nx (R (d++[x]))))(hst:∀sl ce,R xs sl ce->src.Stays ce)(fin:∀sl ce,R xs sl ce->Run b sl ce Q):Run (aq (cD di (gN i) body) b) sl ce Q:=by
 obtain⟨o,e,q⟩:=tF (Q:=fun o=>∃sl' ce',o=.go .nx sl' ce'/\Run b sl' ce' Q) (body:=body) (i:=i) hi hx R h0 step hst fun sl ce h=>⟨sl,ce,rfl,fin sl ce h⟩
 obtain⟨sl',ce',rfl,h⟩:=q;exact iV e h
theorem Ht{σ:Type}{c:Sl->M Bool}{sl:Sl}{ce:Ce}(R:σ->Sl->Ce->Prop)(m:σ->Nat)(s0:σ)(h0:R s0 sl ce)(hm:m s0<fu)(step:∀s sl ce,R s sl ce->∃p,c sl ce=some (.ok p ce)/\(p=true->Run body sl ce (Nx fun sl2 ce2=>∃s2,m s2<m s/\R s2 sl2 ce2))/\(p=false->Q (.go .nx sl ce))):Run (iX c body fu) sl ce Q:=by
 induction fu generalizing s0 sl ce with
 | zero=>exact absurd hm (not_lt_zero _)
 | succ fu ih =>
  obtain⟨p,e,ht,hf⟩:=step s0 sl ce h0;cases p with
  | false=>exact⟨_,by simp only[iX,cL,e],hf rfl⟩
  | true =>
   obtain⟨o,e2,q⟩:=ht rfl;cases o with
   | ex x c=>exact q.elim
   | go f sl2 ce2 =>
    cases f with
    | nx =>
     obtain⟨s2,hs,r⟩:=q;obtain⟨o,e3,q3⟩:=ih s2 r (by omega);exact⟨o,by simp only[iX,cL,e,e2];exact e3,q3⟩
    | ct =>
     obtain⟨s2,hs,r⟩:=q;obtain⟨o,e3,q3⟩:=ih s2 r (by omega);exact⟨o,by simp only[iX,cL,e,e2];exact e3,q3⟩
    | bk=>exact q.elim
    | rt w=>exact q.elim
theorem Eo{a b:DS}{sl:Sl}{ce:Ce}(h:Run a sl ce fun o=>∃sl' ce',o=.go .nx sl' ce'/\Run b sl' ce' Q):Run (aq a b) sl ce Q:=by obtain⟨o,e,sl',ce',rfl,q⟩:=h;exact iV e q
end
section
variable {sl:Sl} {ce:Ce} {a b:Sl->M W} {w x y:W} {i:Nat} {p q:Bool} {ta tb:Sl->M Bool} {src:Src}
theorem au(h:sl[i]?=some (some w)):aa i sl ce=some (.ok w ce):=by simp only[aa,h]
theorem aV:dC w sl ce=some (.ok w ce):=rfl
theorem fZ{f:W->W->Option W}(ha:a sl ce=some (.ok x c1))(hb:b sl c1=some (.ok y c2))(h:f x y=some w):aH f a b sl ce=some (.ok w c2):=by simp only[aH,aw,look,ha,hb,h,map_some]
theorem bN{f:Ce->W->W->Option W}(ha:a sl ce=some (.ok x c1))(hb:b sl c1=some (.ok y c2))(h:f c2 x y=some w):aD f a b sl ce=some (.ok w c2):=by simp only[aD,aw,look,ha,hb,h,map_some]
theorem dQ{f:W->Option W}(ha:a sl ce=some (.ok x c1))(h:f x=some w):c7 f a sl ce=some (.ok w c1):=by simp only[c7,aw,look,ha,h,map_some]
theorem bA(ha:a sl ce=some (.ok (.bl p) c1)):dB a sl ce=some (.ok p c1):=by simp only[dB,aw,look,ha,map_some]
theorem pP(ha:a sl ce=some (.ok x c1))(h:gB c1 x=some p):i_ a sl ce=some (.ok p c1):=by simp only[i_,aw,look,ha,h,map_some]
theorem lR(ha:ta sl ce=some (.ok p c1))(hb:p=true->tb sl c1=some (.ok q c1)):gF ta tb sl ce=some (.ok (p&&q) c1):=by
 cases p with
 | true=>simp only[gF,aw,ha,hb rfl,Bool.true_and]
 | false=>simp only[gF,aw,ha,Bool.false_and];rfl
theorem mQ(ha:ta sl ce=some (.ok p c1))(hb:p=false->tb sl c1=some (.ok q c1)):ie ta tb sl ce=some (.ok (p||q) c1):=by
 cases p with
 | true=>simp only[ie,aw,ha,Bool.true_or];rfl
 | false=>simp only[ie,aw,ha,hb rfl,Bool.false_or]
theorem jj(ha:ta sl ce=some (.ok p c1)):fK ta sl ce=some (.ok (!p) c1):=by simp only[fK,aw,ha];rfl
theorem wH(hc:ta sl ce=some (.ok p c1))(ht:p=true->a sl c1=some (.ok x c1))(hf:p=false->b sl c1=some (.ok y c1)):nQ ta a b sl ce=some (.ok (if p=true then x else y) c1):=by
 cases p with
 | true=>simp only[nQ,aw,hc,ht rfl,if_true]
 | false=>simp[nQ,aw,hc,hf rfl]
theorem aK:ai sl ce=some (.ok [] ce):=rfl
theorem aI(ha:a sl ce=some (.ok x c1))(hr:ra sl c1=some (.ok xs c2)):ag a ra sl ce=some (.ok (x::xs) c2):=by simp only[ag,aw,ha,hr];rfl
theorem bS{f:List W->M W}(hr:ra sl ce=some (.ok ws c1))(h:f ws c1=some (.ok w c2)):aR f ra sl ce=some (.ok w c2):=by simp only[aR,aw,hr,h]
theorem cQ{f:List W->M W}(hr:ra sl ce=some (.ok ws c1))(hl:ws.length=n)(h:f ws c1=some (.ok w c2)):bc n f ra sl ce=some (.ok w c2):=by simp only[bc,aw,hr,if_pos hl,h]
theorem jf(hr:ra sl ce=some (.ok ws c1))(hl:ws.length<=sizeLine):eK ra sl ce=some (.ok (.tup ws) c1):=by simp only[eK,aw,hr,iK,if_pos hl]
theorem gu(hr:ra sl ce=some (.ok ws c1))(hl:ws.length<=sizeLine):dO ra sl ce=some (.ok (.lst ws) c1):=by simp only[dO,aw,hr,iK,if_pos hl]
theorem gY(hr:ra sl ce=some (.ok ws c1))(hl:ws.length<=sizeLine):dX ra sl ce=some (.ok (.cel c1.length) (c1++[.lst ws])):=by simp only[dX,aw,hr,jv,if_pos hl]
theorem qh:ki sl ce=some (.ok (.cel ce.length) (ce++[.dct []])):=by simp[ki,jv]
theorem gD{f:W->List W->M W}(ha:a sl ce=some (.ok x c1))(hl:bU c1 x=some ys)(hr:ra sl c1=some (.ok ws c2))(h:f x ws c2=some (.ok w c3)):cR f a ra sl ce=some (.ok w c3):=by simp only[cR,aw,ha,look,jE,hl,hr,h,map_some]
theorem pO{f:W->List W->M W}(ha:a sl ce=some (.ok x c1))(hl:bU c1 x=some ys)(h:f x [] c1=some (.ok w c3)):kP f a sl ce=some (.ok w c3):=by simp only[kP,aw,ha,look,jE,hl,h,map_some]
theorem nZ(ha:a sl ce=some (.ok x c1))(h:gA c1 x=some src):cS a sl ce=some (.ok src c1):=by simp only[cS,aw,ha,look,h,map_some]
theorem v_(ha:a sl ce=some (.ok x c1))(h:qV x=some src):i8 a sl ce=some (.ok src c1):=by simp only[i8,aw,ha,look,h,map_some]
theorem rZ(ha:ra sl ce=some (.ok [nW n] c1))(h:n<=1000):fQ ra sl ce=some (.ok (.rng 0 n) c1):=Df ha h
theorem v9{α:Type}{c:Sl->M Bool}{e:Sl->M W}{en:α->W}{zs:List α}{t:α->Bool}{g:α->W}(hi:di sl ce=some (.ok src c1))(hx:src.items=zs.map en)(hst:src.Stays c1)(hc:∀x∈zs,c (some (en x)::dE js sl) c1=some (.ok (t x) c1))(he:∀x∈zs,t x=true->e (some (en x)::dE js sl) c1=some (.ok (g x) c1))(hz:zs.length<=sizeLine)(hm:mk ((zs.filter t).map g) c1=some (.ok w c2)):cM mk js di c e sl ce=some (.ok w c2):=by
 have key:∀(l:List α) (ys:List W),(∀x∈l,x∈zs)->ys.length+l.length<=sizeLine->dU src (dE js sl) c e (l.map en) ys c1=some (.ok (ys++(l.filter t).map g) c1):=by
  intro l
  induction l with
  | nil=>intro ys _ _;simp only[map_nil,dU,if_pos hst,filter_nil,append_nil]
  | cons x r ih =>
   intro ys hl hz;simp only[length_cons] at hz;rw[map_cons,qc ⟨hst,by omega⟩,g7 (hc x (hl x mem_cons_self))];cases ht:t x with
   | true =>
    show aw (e (some (en x)::dE js sl)) (fun y=>dU src (dE js sl) c e (r.map en) (ys++[y])) c1=_;rw[g7 (he x (hl x mem_cons_self) ht),ih _ (fun y hy=>hl y (mem_cons_of_mem _ hy)) (by simp only[length_append,length_cons,length_nil];omega),filter_cons_of_pos ht,map_cons,append_assoc];rfl
   | false =>
    show dU src (dE js sl) c e (r.map en) ys c1=_;rw[ih _ (fun y hy=>hl y (mem_cons_of_mem _ hy)) (by omega),filter_cons_of_neg (by simp[ht])]
 show aw (di sl) (fun s=>aw (dU s (dE js sl) c e s.items []) mk) ce=_;rw[g7 hi,hx,g7 (key zs [] (fun _ h=>h) (by simpa using hz)),nil_append];exact hm
theorem iD(h:xs.length<=sizeLine):aQ xs ce=some (.ok (.lst xs) ce):=if_pos h
theorem lQ(h:xs.length<=sizeLine):fF xs ce=some (.ok (.cel ce.length) (ce++[.lst xs])):=if_pos h
theorem Dc{o i:Sl->M W}{kvs:List (Key×W)}(h1:v sl ce=some (.ok w c1))(h2:o sl c1=some (.ok ow c2))(h3:i sl c2=some (.ok iw c3))(h4:iO iw=some key)(h5:kR c3 ow=some (k,kvs))(h6:kvs.length<sizeLine)(q:Q (.go .nx sl (c3.set k (.dct (ib kvs key w))))):Run (iM o i v) sl ce Q:=⟨_,wM h1 h2 h3 h4 h5 h6,q⟩
theorem En{o i:Sl->M W}{s:DS}{kvs:List (Key×W)}(h1:v sl ce=some (.ok w c1))(h2:o sl c1=some (.ok ow c2))(h3:i sl c2=some (.ok iw c3))(h4:iO iw=some key)(h5:kR c3 ow=some (k,kvs))(h6:kvs.length<sizeLine)(q:Run s sl (c3.set k (.dct (ib kvs key w))) Q):Run (aq (iM o i v) s) sl ce Q:=iV (wM h1 h2 h3 h4 h5 h6) q
end
structure Own (b ce:Ce) (l:List (Nat×C)):Prop where
 cut:∃t,ce=b++t
 get:∀p∈l,ce[p.1]?=some p.2
 ge:∀p∈l,b.length<=p.1
 nd:(l.map Prod.fst).Nodup
namespace Own
variable {b ce:Ce} {l:List (Nat×C)} {k1 k2 k3:Nat} {c c' q1 q2 q3:C}
theorem start(b:Ce):Own b b []:=⟨⟨[],by simp⟩,by simp,by simp,by simp⟩
theorem alloc(h:Own b ce l)(c:C):Own b (ce++[c]) ((ce.length,c)::l):=by
 obtain⟨⟨t,e⟩,h2,h3,h4⟩:=h;have lt:∀p∈l,p.1<ce.length:=fun p hp=>by
  have:=h2 p hp;exact(List.getElem?_eq_some_iff.mp this).1
 refine⟨⟨t++[c],by rw[e,append_assoc]⟩,fun p hp=>?_,fun p hp=>?_,?_⟩
 ·rcases mem_cons.mp hp with rfl|hp
  ·exact k9 _ _
  ·rw[getElem?_append_left (lt p hp)];exact h2 p hp
 ·rcases mem_cons.mp hp with rfl|hp
  ·simp[e]
  ·exact h3 p hp
 ·simp only[map_cons,nodup_cons];exact⟨fun q=>by obtain⟨p,hp,e⟩:=mem_map.mp q;have:=lt p hp;omega,h4⟩
theorem perm{l':List (Nat×C)}(h:Own b ce l)(p:l.Perm l'):Own b ce l' :=
 ⟨h.cut,fun q hq=>h.get q (p.symm.subset hq),fun q hq=>h.ge q (p.symm.subset hq),(p.map _).nodup h.nd⟩
theorem g0(h:Own b ce ((k,c)::l)):ce[k]?=some c:=h.get _ mem_cons_self
theorem g1(h:Own b ce ((k1,q1)::(k,c)::l)):ce[k]?=some c:=h.get (k,c) (by simp)
theorem g2(h:Own b ce ((k1,q1)::(k2,q2)::(k,c)::l)):ce[k]?=some c:=h.get (k,c) (by simp)
theorem drop(h:Own b ce ((k,c)::l)):Own b ce l:=⟨h.cut,fun p hp=>h.get p (mem_cons_of_mem _ hp),fun p hp=>h.ge p (mem_cons_of_mem _ hp),(nodup_cons.mp h.nd).2⟩
theorem set0(h:Own b ce ((k,c)::l))(c':C):Own b (ce.set k c') ((k,c')::l):=by
 have hk:k<ce.length:=(List.getElem?_eq_some_iff.mp h.g0).1;obtain⟨⟨t,e⟩,h2,h3,h4⟩:=h;have hb:=h3 (k,c) mem_cons_self;have hn:∀p∈l,p.1≠k:=fun p hp q=>(nodup_cons.mp h4).1 (mem_map.mpr ⟨p,hp,q⟩);refine⟨⟨t.set (k-b.length) c',?_⟩,fun p hp=>?_,fun p hp=>?_,h4⟩
 ·rw[e,set_append_right _ _ hb]
 ·rcases mem_cons.mp hp with rfl|hp
  ·simp[hk]
  ·rw[getElem?_set_ne (Ne.symm (hn p hp))];exact h2 p (mem_cons_of_mem _ hp)
 ·rcases mem_cons.mp hp with rfl|hp
  ·exact hb
  ·exact h3 p (mem_cons_of_mem _ hp)
theorem set1(h:Own b ce ((k1,q1)::(k,c)::l))(c':C):Own b (ce.set k c') ((k1,q1)::(k,c')::l):=((h.perm (.swap _ _ _)).set0 c').perm (.swap _ _ _)
theorem set2(h:Own b ce ((k1,q1)::(k2,q2)::(k,c)::l))(c':C):Own b (ce.set k c') ((k1,q1)::(k2,q2)::(k,c')::l) :=
 ((h.perm (.trans (.cons _ (.swap _ _ _)) (.swap _ _ _))).set0 c').perm (.trans (.swap _ _ _) (.cons _ (.swap _ _ _)))
theorem finC(h:Own b ce l){w:W}(hb:aU b.length w):finC b ce w=some (.ok w b):=by obtain⟨t,rfl⟩:=h.cut;exact nB hb
theorem finO(h:Own b ce ((k,c)::l))(hb:eR b.length c):finO b ce (.cel k)=some (.ok (.cel b.length) (b++[c])):=by have g:=h.g0;have ge:=h.ge _ mem_cons_self;obtain⟨t,rfl⟩:=h.cut;obtain⟨j,hj⟩:=exists_eq_add_of_le ge;have hj':k=b.length+j:=hj;subst hj';exact Gg (by rw[<- pq b t j];exact g) hb
end Own
theorem mZ{ce:Ce}{r:Option (R W)}(h:Run body (ws.map some++List.replicate (n-ws.length) none) ce (Rt fun w ce'=>fin ce ce' w=r)):bJ fin n body ws ce=r:=by
 obtain⟨o,e,q⟩:=h;cases o with
 | ex x c=>exact q.elim
 | go f sl c=>cases f with
  | rt w=>exact wI e q
  | nx=>exact q.elim
  | bk=>exact q.elim
  | ct=>exact q.elim
section
variable {ce:Ce} {b:List (List Nat)} {is:List Int}
abbrev wS(is:List Int):W:=.tup (is.map W.int)
abbrev wL(l:List Nat):W:=.lst (l.map nW)
abbrev sW(ns:List Int):W:=.lst (ns.map W.int)
theorem C_(h:p<b.length):aC ce (wB b) (nW p)=some (wT (b.getD p [])):=by rw[ko (xs:=b.map wT) rfl,getElem?_map,getD_eq_getElem?_getD,getElem?_eq_getElem h];rfl
theorem wG(h:p<l.length):aC ce (wL l) (nW p)=some (nW (l.getD p 0)):=by rw[ko (xs:=l.map nW) rfl,getElem?_map,getD_eq_getElem?_getD,getElem?_eq_getElem h];rfl
theorem iT(h:p<is.length):aC ce (wS is) (nW p)=some (.int (is.getD p 0)):=by rw[ko (xs:=is.map W.int) rfl,getElem?_map,getD_eq_getElem?_getD,getElem?_eq_getElem h];rfl
theorem wF(g:ce[k]?=some (.lst (l.map nW)))(h:p<l.length):aC ce (.cel k) (nW p)=some (nW (l.getD p 0)):=by rw[ko (gK g),getElem?_map,getD_eq_getElem?_getD,getElem?_eq_getElem h];rfl
theorem Em(g:ce[k]?=some (.lst (l.map nW))):bK [.cel k] ce=some (.ok (nW l.length) ce):=by simp only[bK,gK g,length_map];rfl
theorem El:bK [wL l] ce=some (.ok (nW l.length) ce):=by simp[bK];rfl
theorem qf:bK [wB b] ce=some (.ok (nW b.length) ce):=by simp[bK,wB];rfl
theorem C9(g:ce[k]?=some (.lst (l.map nW))):ll ng ce (nW p) (.cel k)=some (.bl (if ng then !decide (p∈l) else decide (p∈l))):=Di (gK g) ng
theorem Ek(g:ce[k]?=some (.dct (kvs F))):kS ng ce (nW p) (.cel k)=some (.bl (if ng then !decide (p∈F) else decide (p∈F))):=by have ky:iO (nW p)=some (.inl (p:Int)):=rfl;simp only[kS,ky,wK g,Ep]
theorem je{y:W}(g:ce[k]?=some (.lst xs))(h:xs.length<sizeLine):cP (.cel k) [y] ce=some (.ok .non (ce.set k (.lst (xs++[y])))):=pE (k_ g) h
end
def ins(F:List Nat)(y:Nat):List Nat:=if y∈F then F else F++[y]
theorem bG{x:Nat}:x∈ins F y↔x∈F\/x=y:=by
 unfold ins;split
 ·rename_i h;exact⟨.inl,fun q=>q.elim id fun e=>e▸h⟩
 ·simp
theorem mP(h:F.Nodup):(ins F y).Nodup:=by
 unfold ins;split
 ·exact h
 ·rename_i hn;rw[nodup_append];exact⟨h,by simp,fun a ha b hb=>by rw[mem_singleton] at hb;subst hb;intro q;subst q;exact hn ha⟩
theorem m_(F:List Nat)(y:Nat):ib (kvs F) (.inl (y:Int)) (.bl true)=kvs (ins F y):=by
 unfold ins;split
 ·rename_i h;have e:((kvs F).any fun kv=>decide (kv.1=(.inl (y:Int):Key)))=true:=any_eq_true.mpr ⟨(.inl (y:Int),.bl true),mem_map.mpr ⟨y,h,rfl⟩,by simp⟩;unfold ib;rw[e];simp only[if_true]
  conv=>rhs;rw[<- map_id (kvs F)]
  apply map_congr_left;intro p hp;obtain⟨x,hx,rfl⟩:=mem_map.mp hp;simp only[id];split
  ·rename_i q;simp at q;rw[q]
  ·rfl
 ·rename_i h;exact sV F y h
theorem oX(nd:F.Nodup)(lt:∀x∈F,x<n):cG F=(List.range n).filter fun x=>decide (x∈F):=by
 have h:gb (cJ F)=cJ ((List.range n).filter fun x=>decide (x∈F)):=by
  refine qE ((jW _).trans ?_) (qA _) ?_
  ·refine List.Perm.map _ (JI nd (List.Pairwise.filter _ nodup_range) fun x=>?_);simp only[mem_filter,mem_range,decide_eq_true_eq];exact⟨fun h=>⟨lt x h,h⟩,fun h=>h.2⟩
  ·unfold cJ;rw[pairwise_map];exact(List.Pairwise.filter _ pairwise_lt_range).imp fun h=>by omega
 unfold cG;rw[h];unfold cJ;rw[map_map]
 conv=>rhs;rw[<- map_id (List.filter _ _)]
 apply map_congr_left;intro x _;simp
theorem yN{ce:Ce}(g:ce[k]?=some (.dct (kvs F)))(h:F.length<64):fi mk [.cel k] ce=mk ((cG F).map nW) ce:=by
 have l:bU ce (.cel k)=none:=by simp only[bU,g]
 have g':jI ce (.cel k)=some (kvs F):=by simp only[jI,g]
 simp only[fi,l,g',ua,nF,if_pos h,oY]
inductive jA (ce:Ce):W->List Nat->Prop where
 | cl {k:Nat} {F:List Nat} (g:ce[k]?=some (.dct (kvs F))):jA ce (.cel k) F
 | fz {k:Nat} {F:List Nat} (g:ce[k]?=some (.fzd (kvs F))):jA ce (.cel k) F
theorem zg{ce:Ce}{w:W}(h:jA ce w F):iq mk [w] ce=mk (F.map nW) ce:=by
 have e:(cJ F).map W.int=F.map nW:=by unfold cJ;rw[map_map];rfl
 cases h with
 | cl g =>
  rename_i k;have l:dj ce (.cel k)=none:=by simp only[dj,bU,g]
  have g':jI ce (.cel k)=some (kvs F):=by simp only[jI,g]
  simp only[iq,l,g',ua,e]
 | fz g =>
  rename_i k;have l:dj ce (.cel k)=none:=by simp only[dj,bU,g]
  have g':jI ce (.cel k)=some (kvs F):=by simp only[jI,g]
  simp only[iq,l,g',ua,e]
theorem Gb{ce:Ce}(g:ce[k]?=some (.lst (l.map nW)))(h:l.length<64):fi mk [.cel k] ce=mk ((cG l).map nW) ce:=by simp only[fi,fU g,qu,nF,if_pos h,oY]
inductive bo (ce:Ce):W->List W->Prop where
 | fr (xs:List W):bo ce (.lst xs) xs
 | cl {k:Nat} {xs:List W} (h:ce[k]?=some (.lst xs)):bo ce (.cel k) xs
namespace bo
variable {ce:Ce} {w:W}
theorem drf(h:bo ce w xs):drf ce w=.lst xs:=by
 cases h with
 | fr=>rfl
 | cl h=>simp only[VS.drf,h]
theorem src(h:bo ce w xs):∃s,gA ce w=some s/\s.items=xs/\s.Stays ce:=by
 cases h with
 | fr=>exact⟨.lst xs,rfl,rfl,trivial⟩
 | cl h=>exact⟨.cell _ xs,by simp only[gA,h],rfl,h⟩
theorem eqI{l:List Int}(h:bo ce w (l.map W.int))(h':bo ce w' (m.map W.int))(ng:Bool):bD ng ce w w'=some (.bl (if ng then !decide (l=m) else decide (l=m))):=by have c1:bh 8 (.lst (l.map W.int))=true:=oZ l 7;have c2:bh 8 (.lst (m.map W.int))=true:=oZ m 7;simp only[bD,h.drf,h'.drf,c1,c2,Ge,Bool.and_self,if_true]
theorem eqN{m:List Nat}(h:bo ce w (l.map nW))(h':bo ce w' (m.map nW))(ng:Bool):bD ng ce w w'=some (.bl (if ng then !decide (l=m) else decide (l=m))):=by
 rw[r9] at h h';rw[h.eqI h' ng];have inj:(cJ l=cJ m)↔l=m:=by unfold cJ;exact⟨fun h=>by simpa using List.map_inj_right (f:=fun(x:Nat)=>(x:Int)) (fun x y h=>by have h:(x:Int)=(y:Int):=h;omega) |>.mp h,fun h=>by rw[h]⟩
 simp only[inj]
end bo
theorem t_{ce:Ce}{w:W}(h:bo ce w xs)(hz:xs.length<=sizeLine):gv [w] ce=some (.ok (.tup xs) ce):=by
 cases h with
 | fr=>exact if_pos hz
 | cl h=>simp only[gv,fU h];exact if_pos hz
theorem qb{ce:Ce}{w:W}(h:dj ce w=some xs):iq mk [w] ce=mk xs ce:=by simp only[iq,h]
def jP(di:Sl->M Src)(sl:Sl)(ce c1:Ce)(xs:List W):Prop:=∃s,di sl ce=some (.ok s c1)/\s.items=xs/\s.Stays c1
def bE(di:Sl->M Src)(sl:Sl)(ce c1:Ce)(xs:List W):Prop:=∃s,di sl ce=some (.ok s c1)/\s.items=xs/\∀c,s.Stays c
section
variable {sl:Sl} {ce:Ce} {a:Sl->M W} {w:W}
theorem bE.is(h:bE di sl ce c1 xs):jP di sl ce c1 xs:=by obtain⟨s,h1,h2,h3⟩:=h;exact⟨s,h1,h2,h3 _⟩
theorem jc(h:a sl ce=some (.ok (.lst xs) c1)):bE (cS a) sl ce c1 xs:=⟨.lst xs,nZ h rfl,rfl,fun _=>trivial⟩
theorem pD(h:a sl ce=some (.ok (.tup xs) c1)):bE (i8 a) sl ce c1 xs:=⟨.tup xs,v_ h rfl,rfl,fun _=>trivial⟩
theorem mO(h:a sl ce=some (.ok (wT l) c1)):bE (i8 a) sl ce c1 (l.map nW):=pD h
theorem iP(h:ra sl ce=some (.ok [nW n] c1))(hn:n<=1000):bE (fQ ra) sl ce c1 ((List.range n).map nW):=⟨.rng 0 n,rZ h hn,ud n,fun _=>trivial⟩
theorem nY(h:a sl ce=some (.ok w c1))(hw:bo c1 w xs):jP (cS a) sl ce c1 xs:=by obtain⟨s,h1,h2,h3⟩:=hw.src;exact⟨s,nZ h h1,h2,h3⟩
variable {α:Type} {en:α->W} {zs:List α} {t:α->Bool} {g:α->W} {c:Sl->M Bool} {e:Sl->M W}
theorem qK(hi:jP di sl ce c1 (zs.map en))(hz:zs.length<=sizeLine)(hc:∀x∈zs,c (some (en x)::dE js sl) c1=some (.ok (t x) c1))(he:∀x∈zs,t x=true->e (some (en x)::dE js sl) c1=some (.ok (g x) c1)) :
  cM aQ js di c e sl ce=some (.ok (.lst ((zs.filter t).map g)) c1):=by
 obtain⟨s,h1,h2,h3⟩:=hi;exact v9 h1 h2 h3 hc he hz (iD (by rw[length_map];exact le_trans (length_filter_le _ _) hz))
theorem qL(hi:jP di sl ce c1 (zs.map en))(hz:zs.length<=sizeLine)(hc:∀x∈zs,c (some (en x)::dE js sl) c1=some (.ok (t x) c1))(he:∀x∈zs,t x=true->e (some (en x)::dE js sl) c1=some (.ok (g x) c1)) :
  cM fF js di c e sl ce=some (.ok (.cel c1.length) (c1++[.lst ((zs.filter t).map g)])):=by
 obtain⟨s,h1,h2,h3⟩:=hi;exact v9 h1 h2 h3 hc he hz (lQ (by rw[length_map];exact le_trans (length_filter_le _ _) hz))
theorem zf(zs:List α):zs.filter (fun _=>true)=zs:=filter_eq_self.mpr fun _ _=>rfl
theorem nS(hi:jP di sl ce c1 (zs.map en))(hz:zs.length<=sizeLine)(he:∀x∈zs,e (some (en x)::dE js sl) c1=some (.ok (g x) c1)) :
  cM aQ js di dD e sl ce=some (.ok (.lst (zs.map g)) c1):=by
 have h:=qK (t:=fun _=>true) (js:=js) hi hz (c:=dD) (fun _ _=>rfl) (fun x hx _=>he x hx);rwa [zf] at h
theorem rA(hi:jP di sl ce c1 (zs.map en))(hz:zs.length<=sizeLine)(he:∀x∈zs,e (some (en x)::dE js sl) c1=some (.ok (g x) c1)) :
  cM fF js di dD e sl ce=some (.ok (.cel c1.length) (c1++[.lst (zs.map g)])):=by
 have h:=qL (t:=fun _=>true) (js:=js) hi hz (c:=dD) (fun _ _=>rfl) (fun x hx _=>he x hx);rwa [zf] at h
theorem v8{f:α->Int}(hi:jP di sl ce c1 (zs.map en))(hz:zs.length<=sizeLine)(he:∀x∈zs,e (some (en x)::dE js sl) c1=some (.ok (.int (f x)) c1)):cM aQ js di dD e sl ce=some (.ok (sW (zs.map f)) c1):=by rw[nS hi hz he,sW,map_map];rfl
theorem rn(hi:jP di sl ce c1 (zs.map en))(hz:zs.length<=sizeLine)(hc:∀x∈zs,c (some (en x)::dE js sl) c1=some (.ok (t x) c1)):cM aQ js di c (aa 0) sl ce=some (.ok (.lst ((zs.filter t).map en)) c1) :=
 qK hi hz hc fun _ _ _=>rfl
theorem vD(hi:jP di sl ce c1 (zs.map en))(hz:zs.length<=sizeLine)(hc:∀x∈zs,c (some (en x)::dE js sl) c1=some (.ok (t x) c1)):cM fF js di c (aa 0) sl ce=some (.ok (.cel c1.length) (c1++[.lst ((zs.filter t).map en)])) :=
 qL hi hz hc fun _ _ _=>rfl
theorem lV{i:Nat}(hi:bE di sl ce c1 (zs.map en))(R:List α->Sl->Ce->Prop)(h0:R [] sl c1)(step:∀d x r sl ce,d++x::r=zs->x∈zs->R d sl ce->Run body (sl.set i (some (en x))) ce (Nx (R (d++[x]))))(fin:∀sl ce,R zs sl ce->Q (.go .nx sl ce)):Run (cD di (gN i) body) sl ce Q:=by obtain⟨s,h1,h2,h3⟩:=hi;exact tF h1 h2 R h0 (fun d x r sl ce e m h=>⟨h3 _,step d x r sl ce e m h⟩) (fun _ _ _=>h3 _) fin
theorem iI{b:DS}{i:Nat}(hi:bE di sl ce c1 (zs.map en))(R:List α->Sl->Ce->Prop)(h0:R [] sl c1)(step:∀d x r sl ce,d++x::r=zs->x∈zs->R d sl ce->Run body (sl.set i (some (en x))) ce (Nx (R (d++[x]))))(fin:∀sl ce,R zs sl ce->Run b sl ce Q):Run (aq (cD di (gN i) body) b) sl ce Q:=by obtain⟨s,h1,h2,h3⟩:=hi;exact tE h1 h2 R h0 (fun d x r sl ce e m h=>⟨h3 _,step d x r sl ce e m h⟩) (fun _ _ _=>h3 _) fin
end
theorem qa(ce:Ce)(x y:Int)(ng:Bool):bD ng ce (.int x) (.int y)=some (.bl (if ng then !decide (x=y) else decide (x=y))):=by have d1:drf ce (.int x)=.int x:=rfl;have d2:drf ce (.int y)=.int y:=rfl;have c:∀i:Int,bh 8 (.int i)=true:=fun _=>rfl;simp only[bD,d1,d2,c,Bool.and_self,if_true,xF]
theorem dm{ce:Ce}{w:W}(sl:Sl)(e:ws.map some++List.replicate (n-ws.length) none=sl)(h:Run body sl ce (Rt fun v ce'=>fin ce ce' v=some (.ok w c'))):bJ fin n body ws ce=some (.ok w c'):=by subst e;exact mZ h
section
variable {ce:Ce} {i j:Int} {w:W}
theorem o_:bD false ce (.int i) (.int j)=some (.bl (decide (i=j))):=qa _ _ _ _
theorem vC:bD true ce (.int i) (.int j)=some (.bl (!decide (i=j))):=qa _ _ _ _
theorem AY(g:ce[k]?=some (.lst (l.map nW))):ll true ce (nW p) (.cel k)=some (.bl (!decide (p∈l))):=C9 g
theorem BS(g:ce[k]?=some (.dct (kvs l))):kS true ce (nW p) (.cel k)=some (.bl (!decide (p∈l))):=Ek g
end
section
variable {x y:W} {i j:Int} {ce:Ce}
theorem kA(hx:x=.int i)(hy:y=.int j):cI x y=some (.int (i+j)):=by subst hx;subst hy;rfl
theorem p_(hx:x=.int i)(hy:y=.int j):gU x y=some (.int (i-j)):=by subst hx;subst hy;rfl
theorem rY(hx:x=.int i)(hy:y=.int j):ml x y=some (.bl (decide (i<j))):=by subst hx;subst hy;rfl
theorem rX(hx:x=.int i)(hy:y=.int j):gw x y=some (.bl (decide (j<i))):=by subst hx;subst hy;rfl
theorem oI(hx:x=.int i)(hy:y=.int j):ft x y=some (.bl (decide (i=j))):=by subst hx;subst hy;rfl
theorem xD(hx:x=.int i)(hy:y=.int j):kc x y=some (.bl (!decide (i=j))):=by subst hx;subst hy;rfl
theorem oH(hx:x=.int i)(hy:y=.int j)(h:0<j):bW x y=some (.int (i % j)):=by subst hx;subst hy;exact mR h
theorem xC(hx:x=.int i)(hy:y=.int j)(h:0<j/\j<1073741824):mz x y=some (.int (i / j)):=by subst hx;subst hy;exact CQ h
theorem Ej(hx:x=.int i)(hy:y=.int j)(h:fq i j):fG x y=some (.int (i*j)):=by subst hx;subst hy;exact oq h
theorem C8(hx:x=.int i):iO x=some (.inl i):=by subst hx;rfl
theorem ze(h:l.length<64):fi mk [wL l] ce=mk ((cG l).map nW) ce:=by simp only[fi,CP,qu,nF,if_pos h,oY]
end
section
variable {ce:Ce} {w:W}
theorem ji{P:W->Ce->Prop}{sl:Sl}(h:P w ce):Rt P (.go (.rt w) sl ce):=h
end
section
variable {ce:Ce} {sl:Sl} {a:Sl->M W} {α:Type} {en:α->W} {zs:List α}
theorem nA(l:List Nat):(cG l).length=l.length:=by rw[cG,length_map,(jW _).length_eq,nF]
theorem F_{i:Nat}(hi:a sl ce=some (.ok (.cel k) c1))(g:c1[k]?=some (.lst (zs.map en)))(R:List α->Sl->Ce->Prop)(h0:R [] sl c1)(hst:∀d sl ce,R d sl ce->ce[k]?=some (.lst (zs.map en)))(step:∀d x r sl ce,d++x::r=zs->x∈zs->R d sl ce->Run body (sl.set i (some (en x))) ce (Nx (R (d++[x]))))(fin:∀sl ce,R zs sl ce->Q (.go .nx sl ce)):Run (cD (cS a) (gN i) body) sl ce Q :=
 tF (src:=.cell k (zs.map en)) (nZ hi (by simp only[gA,g])) rfl R h0 (fun d x r sl ce e m h=>⟨hst _ _ _ h,step d x r sl ce e m h⟩) (fun _ _ h=>hst _ _ _ h) fin
theorem zo{σ:Type}{c:Sl->M Bool}{b:DS}(R:σ->Sl->Ce->Prop)(m:σ->Nat)(s0:σ)(h0:R s0 sl ce)(hm:m s0<fu)(step:∀s sl ce,R s sl ce->∃p,c sl ce=some (.ok p ce)/\(p=true->Run body sl ce (Nx fun sl2 ce2=>∃s2,m s2<m s/\R s2 sl2 ce2))/\(p=false->Run b sl ce Q)):Run (aq (iX c body fu) b) sl ce Q :=
 Eo (Ht R m s0 h0 hm fun s sl ce h=>by
  obtain⟨p,e,ht,hf⟩:=step s sl ce h;exact⟨p,e,ht,fun q=>⟨sl,ce,rfl,hf q⟩⟩)
end
theorem p9(n:Nat):∀cs:List (List Nat),cB n (cs.map wL)
 | []=>by simp only[map_nil,cB]
 | a::r=>by simp only[map_cons,cB,wL,aU];exact⟨aG n a,p9 n r⟩
section
variable {ce:Ce} {b:List (List Nat)}
theorem rK(g:ce[k]?=some (.lst (m.map W.int)))(h:m.length<=sizeLine):gv [.cel k] ce=some (.ok (wS m) ce):=t_ (.cl g) (by rw[length_map];exact h)
theorem v7(h:b.length<=sizeLine):gv [.lst (b.map wT)] ce=some (.ok (wB b) ce):=t_ (.fr _) (by rw[length_map];exact h)
theorem v5(h:m.length<=sizeLine):gv [sW m] ce=some (.ok (wS m) ce):=t_ (.fr _) (by rw[length_map];exact h)
end
section
variable {ce:Ce} {l':List Nat}
end
section
variable {E:XK} {a b:Expr}
def Kk(ng:Bool):W->W->Option W
 | .bl c,.bl d=>some (.bl (if ng then c != d else c==d))
 | _,_=>none
end
end VS
variable {b:List (List Nat)} {sl:Sl} {ce:Ce} {i:Nat} {vl:Nat->Int}
namespace VS
section
variable {a b:Sl->M W} {w x y:W} {i:Int} {p q:Bool}
theorem FZ(ha:a sl (ce++[.dct []])=some (.ok x (ce++[.dct []])))(hb:b sl (ce++[.dct []])=some (.ok y (ce++[.dct []])))(hk:iO x=some key):ot a b sl ce=some (.ok (.cel ce.length) (ce++[.dct [(key,y)]])):=by
 have g:(ce++[C.dct []])[ce.length]?=some (.dct []):=k9 _ _;have s:(ce++[C.dct []]).set ce.length (.dct [(key,y)])=ce++[.dct [(key,y)]]:=by rw[BY];rfl
 simp only[ot,aw,ha,hb,ret,hk,g,s]
theorem pX(g:ce[k]?=some (.lst xs))(e:xs=ys++[y]):kO (.cel k) [] ce=some (.ok y (ce.set k (.lst ys))):=by subst e;simp[kO,k_ g]
theorem xB(g:ce[k]?=some (.lst xs)):gB ce (.cel k)=some (!xs.isEmpty):=by simp only[gB,g]
theorem Ei(g:ce[k]?=some (.lst xs))(h:bU ce w=some ys)(hz:xs.length+ys.length<=sizeLine):nO (.cel k) [w] ce=some (.ok .non (ce.set k (.lst (xs++ys)))):=by simp only[nO,k_ g,h,if_pos hz]
theorem m9(ha:a sl ce=some (.ok (.int i) c1)):dW a sl ce=some (.ok (some i) c1):=by simp only[dW,aw,ha];rfl
theorem sk{bs:List Bool}:mw [.lst (bs.map W.bl)] ce=some (.ok (.bl (bs.all id)) ce):=by simp only[mw,bU,zO]
variable {α:Type} {en:α->W} {zs:List α} {e:Sl->M W}
theorem v3{f:α->Bool}(hi:jP di sl ce c1 (zs.map en))(hz:zs.length<=sizeLine)(he:∀x∈zs,e (some (en x)::dE js sl) c1=some (.ok (.bl (f x)) c1)):cM aQ js di dD e sl ce=some (.ok (.lst ((zs.map f).map W.bl)) c1):=by rw[nS hi hz he,map_map];rfl
theorem HJ{i:Nat}(hi:bE di sl ce c1 (zs.map en))(R:List α->Sl->Ce->Prop)(T:W->Ce->Prop)(h0:R [] sl c1)(step:∀d x r sl ce,d++x::r=zs->x∈zs->R d sl ce->Run body (sl.set i (some (en x))) ce (NR (R (d++[x])) T))(tell:∀w sl ce,T w ce->Q (.go (.rt w) sl ce))(fin:∀sl ce,R zs sl ce->Q (.go .nx sl ce)):Run (cD di (gN i) body) sl ce Q:=by
 obtain⟨s,h1,h2,h3⟩:=hi;obtain⟨o,e,q⟩:=qr (g:=gN i) (body:=body) (en:=en) (src:=s) zs R T (fun d x r sl ce e h=>⟨h3 _,_,rfl,step d x r sl ce e (by rw[<- e];simp) h⟩) (fun _ _ _=>h3 _) zs [] sl c1 rfl h0;rcases q with ⟨sl',ce',rfl,h⟩|⟨w,sl',ce',rfl,h⟩
 ·exact⟨_,by rw[qi h1,h2];exact e,fin _ _ h⟩
 ·exact⟨_,by rw[qi h1,h2];exact e,tell _ _ _ h⟩
theorem FY{a b:DS}(h:Run a sl ce fun o=>(∃sl' ce',o=.go .nx sl' ce'/\Run b sl' ce' Q)\/∃w sl' ce',o=.go (.rt w) sl' ce'/\Q o):Run (aq a b) sl ce Q:=by
 obtain⟨o,e,⟨sl',ce',rfl,q⟩|⟨w,sl',ce',rfl,q⟩⟩:=h
 ·exact iV e q
 ·exact⟨_,Er e,q⟩
theorem zm{b:DS}{i:Nat}(hi:bE di sl ce c1 (zs.map en))(R:List α->Sl->Ce->Prop)(T:W->Ce->Prop)(h0:R [] sl c1)(step:∀d x r sl ce,d++x::r=zs->x∈zs->R d sl ce->Run body (sl.set i (some (en x))) ce (NR (R (d++[x])) T))(tell:∀w sl ce,T w ce->Q (.go (.rt w) sl ce))(fin:∀sl ce,R zs sl ce->Run b sl ce Q):Run (aq (cD di (gN i) body) b) sl ce Q :=
 FY (HJ hi R T h0 step (fun w sl ce h=>.inr ⟨w,sl,ce,rfl,tell w sl ce h⟩) fun sl ce h=>.inl ⟨sl,ce,rfl,fin sl ce h⟩)
end
inductive cN:Sl->Nat->Option W->Sl->Prop where
 | zero {x w:Option W} {r:Sl}:cN (x::r) 0 w (w::r)
 | succ {x w:Option W} {r r':Sl} {i:Nat} (h:cN r i w r'):cN (x::r) (i+1) w (x::r')
theorem cN.eq{w:Option W}(h:cN sl i w sl'):sl.set i w=sl':=by
 induction h with
 | zero=>rfl
 | succ _ ih=>rw[set_cons_succ,ih]
theorem AO{b:DS}{w:Option W}(hs:cN sl i w sl')(h:Run b sl' ce Q):Run b (sl.set i w) ce Q:=by rw[hs.eq];exact h
section
variable {s x:Nat}
abbrev cK(vl:Nat->Int)(s y:Nat):Prop:=vl y=vl s
abbrev Sym(b:List (List Nat)):Prop:=∀i j,j∈b.getD i []->i∈b.getD j []
open Classical in
def aL(b:List (List Nat))(vl:Nat->Int)(s:Nat):List Nat:=(List.range b.length).filter fun y=>decide (Reach b (cK vl s) s y)
def eE(b:List (List Nat))(vl:Nat->Int)(s:Nat):Bool:=(aL b vl s).all fun y=>decide (s<=y)
def iZ(b:List (List Nat))(vl:Nat->Int):List (List Nat):=((List.range b.length).filter (eE b vl)).map (aL b vl)
theorem Reach.lt(hb:Bd b)(hs:s<b.length){ok:Nat->Prop}(h:Reach b ok s x):x<b.length:=by
 cases h with
 | refl=>exact hs
 | step _ hy _=>exact hb.get hy
open Classical in
theorem iC(hb:Bd b)(hs:s<b.length):x∈aL b vl s↔Reach b (cK vl s) s x:=by unfold aL;rw[mem_filter,mem_range,decide_eq_true_eq];exact⟨fun h=>h.2,fun h=>⟨h.lt hb hs,h⟩⟩
theorem cA(h:x∈aL b vl s):x<b.length:=mem_range.mp (mem_filter.mp h).1
theorem C7:(aL b vl s).Nodup:=List.Pairwise.filter _ nodup_range
theorem Eh:(aL b vl s).length<=b.length:=by have:=length_filter_le (fun y=>@decide (Reach b (cK vl s) s y) (Classical.propDecidable _)) (List.range b.length);rw[length_range] at this;exact this
theorem kB(hb:Bd b)(hs:s<b.length):s∈aL b vl s:=(iC hb hs).mpr .refl
theorem cx(hb:Bd b)(hs:s<b.length)(h:x∈aL b vl s):vl x=vl s:=Reach.okOf (ok:=cK vl s) rfl ((iC hb hs).mp h)
open Classical in
theorem EY(c:Comp b (cK vl s) s F):cG F=aL b vl s:=by rw[oX c.nd c.lt];unfold aL;apply filter_congr;intro x _;rw[Bool.eq_iff_iff,decide_eq_true_eq,decide_eq_true_eq];exact c.mem x
theorem wD(h:vl x=vl s):cK vl x=cK vl s:=by funext y;unfold cK;rw[h]
open Classical in
theorem ku(hb:Bd b)(sym:Sym b)(hs:s<b.length)(h:x∈aL b vl s):aL b vl x=aL b vl s:=by have v:=cx hb hs h;have r:=(iC hb hs).mp h;unfold aL;apply filter_congr;intro y _;rw[Bool.eq_iff_iff,decide_eq_true_eq,decide_eq_true_eq,wD v];exact⟨fun q=>r.trans q,fun q=>(Reach.symm (ok:=cK vl s) sym rfl r).trans q⟩
theorem zd(hb:Bd b)(sym:Sym b)(hs:s<b.length)(h:x∈aL b vl s):s∈aL b vl x:=by rw[ku hb sym hs h];exact kB hb hs
theorem uc(hb:Bd b)(sym:Sym b)(hs:s<b.length):∃m,m∈aL b vl s/\eE b vl m=true/\aL b vl m=aL b vl s:=by
 have key:∀(k:Nat) (s:Nat),s<=k->s<b.length->∃m,m∈aL b vl s/\eE b vl m=true/\aL b vl m=aL b vl s:=by
  intro k
  induction k with
  | zero =>
   intro s hk hs;refine⟨s,kB hb hs,?_,rfl⟩;unfold eE;rw[all_eq_true];intro y _;exact decide_eq_true (by omega)
  | succ k ih =>
   intro s hk hs
   by_cases h:eE b vl s=true
   ·exact⟨s,kB hb hs,h,rfl⟩
   ·unfold eE at h;rw[all_eq_true] at h;obtain⟨y,hy⟩:=Classical.not_forall.mp h;obtain⟨hy,hn⟩:=Classical.not_imp.mp hy;have hn':¬s<=y:=fun q=>hn (decide_eq_true q);obtain⟨m,h1,h2,h3⟩:=ih y (by omega) (cA hy);have e:=ku hb sym hs hy;exact⟨m,by rw[<- e];exact h1,h2,by rw[h3,e]⟩
 exact key s s (le_refl _) hs
theorem lP(hb:Bd b){c:List Nat}:c∈iZ b vl↔∃s,s<b.length/\eE b vl s=true/\c=aL b vl s:=by
 unfold iZ;rw[mem_map];constructor
 ·rintro⟨s,hs,rfl⟩;obtain⟨h1,h2⟩:=mem_filter.mp hs;exact⟨s,mem_range.mp h1,h2,rfl⟩
 ·rintro⟨s,h1,h2,rfl⟩;exact⟨s,mem_filter.mpr ⟨mem_range.mpr h1,h2⟩,rfl⟩
theorem xR:(iZ b vl).length<=b.length:=by unfold iZ;rw[length_map];have:=length_filter_le (eE b vl) (List.range b.length);rw[length_range] at this;exact this
theorem ny(hb:Bd b)(hs:s<b.length)(h:eE b vl s=true):(aL b vl s).getD 0 0=s:=by
 have hmem:=kB (vl:=vl) hb hs;unfold eE at h;rw[all_eq_true] at h;have gb:(aL b vl s).Pairwise (·<·):=List.Pairwise.filter _ pairwise_lt_range;cases e:aL b vl s with
 | nil=>rw[e] at hmem;simp at hmem
 | cons a r =>
  rw[e] at hmem h gb;have h1:s<=a:=of_decide_eq_true (h a (by simp));rcases mem_cons.mp hmem with h2|h2
  ·simp[h2]
  ·have:=(pairwise_cons.mp gb).1 s h2;omega
end
end VS
variable {f:Addr} {P:Program} {w:World} {as:List Addr} {H:Hp} {K:Frag} {mg:Str->Option Value} {base:Heap} {CX:jC} {fd:FuncData} {ps:List Str} {fe:XK->XK} {w2:W}
namespace VS
mutual
def eZ(n:Nat)(ce:Ce):Nat->W->Option W
 | 0,.cel k=>if k<n then some (.cel k) else none
 | 0,.lst _=>none
 | 0,.tup _=>none
 | d+1,.cel k=>if k<n then some (.cel k) else match ce[k]? with
  | some (.lst xs)=>(gq n ce d xs).map .lst
  | _=>none
 | d+1,.lst xs=>(gq n ce d xs).map .lst
 | d+1,.tup xs=>(gq n ce d xs).map .tup
 | _,w=>some w
def gq(n:Nat)(ce:Ce):Nat->List W->Option (List W)
 | _,[]=>some []
 | d,x::xs=>match eZ n ce d x,gq n ce d xs with
  | some y,some ys=>some (y::ys)
  | _,_=>none
end
section
variable {F F2:Hp} {as2:List Addr}
theorem zc{d}(h:∀{w w2:W} {v:V},eZ n ce d w=some w2->Rep F as w v->Rep F2 as2 w2 v):∀{ws ws2:List W} {vs:List V},gq n ce d ws=some ws2->ah F as ws vs->ah F2 as2 ws2 vs
 | [],ws2,vs,e,r=>by
  simp only[gq,Option.some.injEq] at e;subst e;simp only[ah] at r;subst r;exact .nil
 | x::xs,ws2,vs,e,r=>by
  simp only[gq] at e;simp only[ah] at r;obtain⟨v,r',rfl,q,s⟩:=r;split at e
  ·rename_i y ys e1 e2;cases e;exact .cons (h e1 q) (zc h e2 s)
  ·cases e
theorem y_(S:ax G F as H ce)(hF:∀a o,F a=some o->F2 a=some o)(hc:∀(k:Nat) (a:Addr) (xs:List W) (vs:List V),n<=k->as[k]?=some a->ce[k]?=some (.lst xs)->H a=some (.lst vs)->F2 a=some (.lst vs))(ha:∀(k:Nat) (a:Addr),k<n->as[k]?=some a->as2[k]?=some a):∀(d:Nat) {w w2:W} {v:V},eZ n ce d w=some w2->Rep F as w v->Rep F2 as2 w2 v:=by
 have rd:∀{a:Addr} {o:HO},Rd F a o->Rd F2 a o:=fun r=>by
  rcases r with r|⟨u,r⟩
  ·exact .inl (hF _ _ r)
  ·exact .inr ⟨u,hF _ _ r⟩
 have low:∀{k:Nat} {v:V},k<n->Rep F as (.cel k) v->Rep F2 as2 (.cel k) v:=fun hk r=>by
  simp only[Rep] at r ⊢;obtain⟨a,rfl,q⟩:=r;exact⟨a,rfl,ha _ _ hk q⟩
 intro d
 induction d with
 | zero =>
  intro w w2 v e r;cases w<;>simp only[eZ,Option.some.injEq,reduceCtorEq] at e
  case cel k =>
   split at e
   ·rename_i hk;cases e;exact low hk r
   ·cases e
  all_goals (subst e;simp only[Rep] at r ⊢;exact r)
 | succ d ih =>
  have ihs:∀{ws ws2:List W} {vs:List V},gq n ce d ws=some ws2->ah F as ws vs->ah F2 as2 ws2 vs:=fun e r=>zc ih e r;intro w w2 v e r;cases w<;>simp only[eZ,Option.some.injEq] at e
  case cel k =>
   split at e
   ·rename_i hk;cases e;exact low hk r
   ·rename_i hk;split at e
    ·rename_i xs hx;obtain⟨ys,e1,rfl⟩:=map_eq_some_iff.mp e;simp only[Rep] at r;obtain⟨a,rfl,q⟩:=r;obtain⟨_,vs,h2,rs⟩:=S.cell _ _ _ q hx;simp only[Rep];exact⟨a,vs,rfl,.inl (hc k a xs vs (by omega) q hx h2),ihs e1 rs⟩
    ·cases e
  case lst xs =>
   obtain⟨ys,e1,rfl⟩:=map_eq_some_iff.mp e;simp only[Rep] at r ⊢;obtain⟨a,vs,rfl,h2,rs⟩:=r;exact⟨a,vs,rfl,rd h2,ihs e1 rs⟩
  case tup xs =>
   obtain⟨ys,e1,rfl⟩:=map_eq_some_iff.mp e;simp only[Rep] at r ⊢;obtain⟨a,vs,rfl,h2,rs⟩:=r;exact⟨a,vs,rfl,hF _ _ h2,ihs e1 rs⟩
  all_goals (subst e;simp only[Rep] at r ⊢;exact r)
end
open Classical in
def mv(d:List W->M W):List W->M W:=fun ws ce=>match d ws ce with
 | some (.ok w ce')=>if gX ce ce' then match eZ ce.length ce' 6 w with
  | some w2=>some (.ok w2 (ce'.take ce.length))
  | none=>none
  else none
 | r=>r
open Classical in
theorem EX{d:List W->M W}(h:ay P w K mg base CX k f fd ps (gf G fe n d)):ay P w K mg base CX k f fd ps (gf G fe n (mv d)):=by
 refine h.imp fun vs H Q E ⟨hl,F,as,ws,ce,S,rs,Pf⟩=>⟨hl,F,as,ws,ce,S,rs,?_⟩
 revert Pf;unfold mv;cases d ws ce with
 | none=>exact fun P=>P
 | some r=>cases r with
  | ex x ce'=>exact fun P=>P
  | ok w ce' =>
   dsimp only;intro Pf v H' F' as' l S' rv;split at Pf
   ·rename_i h1;split at Pf
    ·rename_i w2 e2;obtain⟨S2,l2⟩:=S.cut S' l h1
     let isC:Addr->Prop:=fun a=>∃(k:Nat) (xs:List W),ce.length<=k/\as'[k]?=some a/\ce'[k]?=some (.lst xs)
     let F2:Hp:=fun a=>if isC a then H' a else F' a
     have sub:∀a o,F' a=some o->F2 a=some o:=fun a o e=>by
      have:¬isC a:=by rintro⟨k,xs,_,e1,e3⟩;have:=(S'.cell k a _ e1 e3).1 rfl;rw[this] at e;cases e
      show(if isC a then H' a else F' a)=_;rw[if_neg this];exact e
     have l3:Le F' (as'.take ce.length) F2 (as'.take ce.length):=⟨sub,fun _ _ h=>h⟩
     refine Pf v H' F2 (as'.take ce.length) (l2.trans l3) ⟨fun b o e=>?_,S2.nd,S2.len,fun i b c e1 e3=>?_⟩ ?_
     ·have e:(if isC b then H' b else F' b)=some o:=e;split at e
      ·exact e
      ·exact S'.sub _ _ e
     ·obtain⟨p1,p2⟩:=S2.cell i b c e1 e3;refine⟨fun hn=>?_,p2.le l3 rfl⟩;show(if isC b then H' b else F' b)=none;rw[if_neg]
      ·exact p1 hn
      ·rintro⟨k,xs,hk,e4,_⟩;have hi:i<ce.length:=by have:=dZ e3;rw[length_take] at this;omega
       rw[jX hi] at e1;have a1:=dZ e4;have a2:=dZ e1;rw[getElem?_eq_getElem a1] at e4;rw[getElem?_eq_getElem a2] at e1;have:=oG S'.nd a1 a2 ((Option.some.inj e4).trans (Option.some.inj e1).symm);omega
     ·refine y_ S' sub (fun k a xs vs hk e1 e3 e4=>?_) (fun k a hk e1=>by rw[jX hk];exact e1) 6 e2 rv;show(if isC a then H' a else F' a)=_;rw[if_pos ⟨k,xs,hk,e1,e3⟩];exact e4
    ·exact Pf.elim
   ·exact Pf.elim
def nR(ce:Ce)(w:W):Option W:=eZ 0 ce 6 w
theorem y9{F:Hp}{w:W}{v:V}(S:ax G F as H ce)(r:Rep F as w v)(e:nR ce w=some w2):Rep H as w2 v :=
 y_ S S.sub (fun k a xs vs _ _ _ h=>h) (fun k a hk _=>absurd hk (not_lt_zero _)) 6 e r
def kM(ng:Bool)(ce:Ce)(x y:W):Option W:=match nR ce x,nR ce y with
 | some x',some y'=>if (bh 8 x'&&bh 8 y')=true then some (.bl (if ng then !aN x' y' else aN x' y')) else none
 | _,_=>none
theorem EW(ng:Bool):j8 (pB ng) (kM ng):=by
 intro G F as H ce x y wx wy w S rx ry e Q q;unfold kM at e;split at e
 ·rename_i x' y' e1 e2;split at e
  ·rename_i hc;rw[and_eq_true] at hc;cases e;exact⟨as,_,_,y9 S rx e1,y9 S ry e2,hc.1,hc.2,q _ (by simp only[Rep])⟩
  ·cases e
 ·cases e
section
variable {E:XK} {a b:Expr}
theorem C6(hu:X.A.units+8<cLine)(ha:PE X a (av G E da))(hb:PE X b (av G E db)):PT X (.Compare a [.Eq] [b] pos) (cg G E (dB (aD (kM false) da db))):=km (sE hu) ha hb (iY _) (jm (EW false))
end
end VS
variable {q:Nat} {c:Ce}
namespace VS
section
variable {e o i:Sl->M W} {w x y:W} {b:DS} {ij:Int}
theorem tD(h:j<n):gm n (j:Int)=some j:=by unfold gm;rw[if_pos (by omega),if_pos (by omega)];simp
theorem vB(he:e sl ce=some (.ok w c1))(ho:o sl c1=some (.ok (.cel k) c2))(hi:i sl c2=some (.ok (.int ij) c3))(g:c3[k]?=some (.lst xs))(hj:gm xs.length ij=some j) :
  iN e (kh o i) sl ce=some (.go .nx sl (c3.set k (.lst (xs.set j w)))):=by
 simp only[iN,cL,he,kh,ho,hi,k_ g,hj]
theorem y8(he:e sl ce=some (.ok w c1))(ho:o sl c1=some (.ok (.cel k) c2))(hi:i sl c2=some (.ok (.int ij) c3))(g:c3[k]?=some (.lst xs))(hj:gm xs.length ij=some j)(q:Q (.go .nx sl (c3.set k (.lst (xs.set j w))))) :
  Run (iN e (kh o i)) sl ce Q:=⟨_,vB he ho hi g hj,q⟩
theorem FX(he:e sl ce=some (.ok w c1))(ho:o sl c1=some (.ok (.cel k) c2))(hi:i sl c2=some (.ok (.int ij) c3))(g:c3[k]?=some (.lst xs))(hj:gm xs.length ij=some j)(q:Run b sl (c3.set k (.lst (xs.set j w))) Q) :
  Run (aq (iN e (kh o i)) b) sl ce Q:=iV (vB he ho hi g hj) q
abbrev g2(p q:Nat):DG:=gT 2 (jR (gN p) (jR (gN q) n6))
theorem vZ:g2 p q (.tup [x,y]) sl ce=some ((sl.set p (some x)).set q (some y),ce):=rfl
theorem y7(he:e sl ce=some (.ok (.tup [x,y]) c1))(q':Run b ((sl.set p (some x)).set q (some y)) c1 Q):Run (aq (iN e (g2 p q)) b) sl ce Q :=
 iV (sl':=(sl.set p (some x)).set q (some y)) (ce':=c1) (by simp only[iN,cL,he,vZ]) q'
variable {α:Type} {fa fb:α->W} {zs:List α}
theorem FW(hi:bE di sl ce c1 (zs.map fun z=>.tup [fa z,fb z]))(R:List α->Sl->Ce->Prop)(h0:R [] sl c1)(step:∀d x r sl ce,d++x::r=zs->x∈zs->R d sl ce->Run body ((sl.set p (some (fa x))).set q (some (fb x))) ce (Nx (R (d++[x]))))(fin:∀sl ce,R zs sl ce->Run b sl ce Q):Run (aq (cD di (g2 p q) body) b) sl ce Q:=by
 obtain⟨s,h1,h2,h3⟩:=hi;obtain⟨o,e,q'⟩:=qr (g:=g2 p q) (body:=body) (en:=fun z=>W.tup [fa z,fb z]) (src:=s) zs R (fun _ _=>False) (fun d x r sl ce e h=>⟨h3 _,_,vZ,(step d x r sl ce e (by rw[<- e];simp) h).mono fun o q=>by
   cases o with
   | ex x c=>exact q.elim
   | go f sl2 ce2=>cases f<;>first|exact q|exact q.elim⟩) (fun _ _ _=>h3 _) zs [] sl c1 rfl h0
 rcases q' with ⟨sl',ce',rfl,h⟩|⟨w,sl',ce',rfl,h⟩
 ·exact iV (by rw[qi h1,h2];exact e) (fin _ _ h)
 ·exact h.elim
end
structure lu (ce b:Ce):Prop where
 len:b.length=ce.length
 cell:∀(k:Nat) (c:C),b[k]?=some c->ce[k]?=some c\/eR ce.length c
theorem lu.refl(ce:Ce):lu ce ce:=⟨rfl,fun _ _ h=>.inl h⟩
theorem lu.cut{b t:Ce}(h:lu ce b):gX ce (b++t):=⟨by rw[length_append,h.len];omega,fun k c hk e=>h.cell k c (by rwa [getElem?_append_left (by rw[h.len];exact hk)] at e)⟩
theorem lu.take{b t:Ce}(h:lu ce b):(b++t).take ce.length=b:=by rw[<- h.len];exact take_left
namespace Own
variable {b:Ce} {l:List (Nat×C)} {x:C} {w:W}
theorem frzD'{d:List W->M W}(e:d ws ce=some (.ok w c))(h:Own b c l)(g:lu ce b)(ht:eZ ce.length c 6 w=some w2):mv d ws ce=some (.ok w2 b):=by obtain⟨⟨t,rfl⟩,_⟩:=h;simp only[mv,e,ht,g.take];exact if_pos g.cut
end Own
def pW(p:Nat×Nat):W:=.tup [nW p.1,nW p.2]
theorem tw(d:Nat)(k:Nat):eZ n ce d (nW k)=some (nW k):=by cases d<;>simp only[nW,eZ]
theorem tP(d:Nat):∀l:List (Nat×Nat),gq n ce (d+1) (l.map pW)=some (l.map pW)
 | []=>by simp only[map_nil,gq]
 | a::r=>by simp only[map_cons,gq,pW,eZ,tw,tP d r,map_some]
def Cls(ce:Ce)(ks:List Nat)(cs:List (List Nat)):Prop:=PySem.Paired (fun k c=>ce[k]?=some (.lst (c.map nW))) ks cs
end VS
variable {e:Expr} {es:List Expr} {name:Str} {apos cpos:Pos} {dr:Sl->M (List W)}
namespace VS
open MeetsSeq (EqGives)
section
variable {E:XK} {o:Expr} {do':Sl->M W} {id:String} {rm:V->List V->Hp->VK->Prop} {fm:W->List W->M W}
end
section
variable {E:XK} {tg a:Expr}
end
end VS
namespace VS
section
variable {a b:Sl->M W} {w x y:W}
theorem C5(ha:a sl ce=some (.ok (.bl true) c1))(hb:b sl c1=some (.ok w c2)):mx a b sl ce=some (.ok w c2):=by simp only[mx,aw,ha,hb]
end
theorem vA(ng:Bool)(l m:List Int):bD ng ce (wS l) (wS m)=some (.bl (if ng then !decide (l=m) else decide (l=m))):=by have d:∀l:List Int,drf ce (wS l)=wS l:=fun _=>rfl;have c:∀l:List Int,bh 8 (wS l)=true:=fun l=>oZ l 7;simp only[bD,d,c,Bool.and_self,if_true];simp only[aN,ue]
end VS
namespace VS
section
variable {E:XK} {a b:Expr}
end
end VS
variable {E:Value->Shared->Prop} {s:Shared} {prog:Program} {A:Around}
namespace VS
open HT
section
variable {E:XK} {a:Expr}
end
end VS
namespace VS
def fY:List W->M W:=fun ws ce=>match ws with
 | [.int i]=>some (.ok (.int i) ce)
 | [.bl k]=>some (.ok (.int (if k then 1 else 0)) ce)
 | _=>none
theorem lG{E:XK}:Bi G E (fun xs H Q=>(∃i,xs=[.int i]/\Q (.int i) H)\/∃k,xs=[.bl k]/\Q (.int (if k then 1 else 0)) H) fY:=by
 intro F as H σ sl ce ws vs Q S rs P;revert P;unfold fY;split
 ·intro P;obtain⟨v,rfl,r⟩:=iE rs;simp only[Rep] at r;subst r;exact .inl ⟨_,rfl,P.done S (by simp only[Rep])⟩
 ·intro P;obtain⟨v,rfl,r⟩:=iE rs;simp only[Rep] at r;subst r;exact .inr ⟨_,rfl,P.done S (by simp only[Rep])⟩
 ·exact fun P=>P.elim
end VS
variable {a S:Addr} {h h':Heap} {N:Addr->Prop} {env:Env} {outer:List Env} {oe:Obj} {vs:Array Value} {a0:Value} {pins:List (Addr×Obj)} {qual cn:Str} {st b0:Stmt} {sp:Sp} {e1 e2:Expr} {np hpos pos':Pos} {suite:List Stmt} {th:Value->TS}
namespace L2
def DQ{α:Type}:Sem α->Prop
 | .pure _=>True
 | .raise _=>True
 | .unsupported _=>True
 | .finish _=>True
 | .rule _ k=>DQ (k ())
 | .at _ k=>DQ (k ())
 | .load _ _ k=>∀o,DQ (k o)
 | .update _ _ f k=>(∀o:Obj,(f o).dict=o.dict/\((f o).isFreed=true->o.isFreed=true))/\DQ (k ())
 | .alloc _ k=>∀a,DQ (k a)
 | .loadIfAlive _ k=>∀o,DQ (k o)
 | .point _ k=>DQ (k ())
 | .fresh k=>∀t,DQ (k t)
 | .ask k=>∀t,DQ (k t)
 | .handled _ k=>∀t,DQ (k t)
 | .stack k=>∀t,DQ (k t)
 | _=>False
theorem DQ.bind{α β:Type}:∀{t:Sem α} {f:α->Sem β},DQ t->(∀a,DQ (f a))->DQ (t >>= f):=by
 intro t f;show DQ t->(∀a,DQ (f a))->DQ (Sem.bind t f);intro ht hf
 induction t with
 | pure a=>exact hf a
 | raise v=>trivial
 | unsupported x=>trivial
 | finish x=>trivial
 | rule s k ih=>exact ih () ht
 | «at» s k ih=>exact ih () ht
 | load a p k ih=>exact fun o=>ih o (ht o)
 | update a p g k ih=>exact⟨ht.1,ih () ht.2⟩
 | alloc o k ih=>exact fun a=>ih a (ht a)
 | loadIfAlive a k ih=>exact fun o=>ih o (ht o)
 | point l k ih=>exact ih () ht
 | fresh k ih=>exact fun o=>ih o (ht o)
 | ask k ih=>exact fun o=>ih o (ht o)
 | handled b k ih=>exact fun o=>ih o (ht o)
 | stack k ih=>exact fun o=>ih o (ht o)
 | _=>exact ht.elim
def j_(e:Addr)(d:Option Addr)(h:Heap):Prop:=∃o,h.get? e=some o/\o.dict=d
theorem rS{e:Addr}{u:Obj}(x:h.get? e=some u):u.isFreed=false:=by
 unfold Heap.get? at x;split at x
 ·cases x
 ·rename_i y z;cases q:u.isFreed with
  | false=>rfl
  | true =>
   exfalso;obtain⟨c,d,dt,sl⟩:=u;unfold Obj.isFreed at q;cases dt<;>simp at q;exact z c d sl x
theorem j_.push{e:Addr}{d:Option Addr}(x:j_ e d h)(o:Obj):j_ e d (h.push o):=by obtain⟨u,e1,e2⟩:=x;exact⟨u,Heap.get?_push_of_some _ e1,e2⟩
theorem j_.update{e:Addr}{d:Option Addr}(x:j_ e d h)(a:Addr)(f:Obj->Obj)(hf:∀o:Obj,(f o).dict=o.dict/\((f o).isFreed=true->o.isFreed=true)):j_ e d (h.update a f):=by
 obtain⟨u,e1,e2⟩:=x
 by_cases q:e=a
 ·subst q;refine⟨f u,Heap.get?_update_self f e1 ?_,(hf u).1.trans e2⟩;cases q:(f u).isFreed with
  | false=>rfl
  | true =>
   have:=(hf u).2 q;rw[rS e1] at this;cases this
 ·exact⟨u,(Heap.get?_update_ne _ _ _ _ q).trans e1,e2⟩
theorem BR{α:Type}{M:Model}{Γ:PySem.Ctx}{e:Addr}{d:Option Addr}(t:Sem α):DQ t->∀(Q:α->Pos->Shared->Prop) (E:Value->Pos->Shared->Prop) (p:Pos) (s:Shared),Sem.wp M Γ t Q E p s->j_ e d s.heap->Sem.wp M Γ t (fun a x s'=>Q a x s'/\j_ e d s'.heap) E p s:=by
 induction t with
 | pure a=>intro _ Q E p s h x;simp only[Sem.wp] at h ⊢;exact⟨h,x⟩
 | raise v=>intro _ Q E p s h x;simp only[Sem.wp] at h ⊢;exact h
 | unsupported v=>intro _ Q E p s h x;simp only[Sem.wp] at h ⊢
 | finish v=>intro _ Q E p s h x;simp only[Sem.wp] at h ⊢
 | rule tag k ih=>intro dq Q E p s h x;simp only[Sem.wp] at h ⊢;exact ih () dq Q E p s h x
 | «at» p' k ih=>intro dq Q E p s h x;simp only[Sem.wp] at h ⊢;exact ih () dq Q E _ s h x
 | load a pt k ih =>
  intro dq Q E p s h x;simp only[Sem.wp] at h ⊢;obtain⟨o,e1,h⟩:=h;exact⟨o,e1,ih o (dq o) Q E p s h x⟩
 | update a pt f k ih =>
  intro dq Q E p s h x;simp only[Sem.wp] at h ⊢;exact⟨h.1,ih () dq.2 Q E p _ h.2 (x.update a f dq.1)⟩
 | alloc o k ih=>intro dq Q E p s h x;simp only[Sem.wp] at h ⊢;exact ih _ (dq _) Q E p _ h (x.push o)
 | loadIfAlive a k ih=>intro dq Q E p s h x;simp only[Sem.wp] at h ⊢;exact ih _ (dq _) Q E p _ h x
 | point l k ih=>intro dq Q E p s h x;simp only[Sem.wp] at h ⊢;exact ih () dq Q E p _ h x
 | fresh k ih=>intro dq Q E p s h x;simp only[Sem.wp] at h ⊢;exact ih _ (dq _) Q E p _ h x
 | ask k ih=>intro dq Q E p s h x;simp only[Sem.wp] at h ⊢;exact ih _ (dq _) Q E p _ h x
 | handled b k ih=>intro dq Q E p s h x;simp only[Sem.wp] at h ⊢;exact ih _ (dq _) Q E p _ h x
 | stack k ih=>intro dq Q E p s h x;simp only[Sem.wp] at h ⊢;exact ih _ (dq _) Q E p _ h x
 | _=>intro dq;exact dq.elim
theorem wC{α:Type}{M:Model}{t:Sem α}{Q:α->Shared->Prop}{e:Addr}{d:Option Addr}(dq:DQ t)(h:wpAny M A t Q E s)(x:j_ e d s.heap):wpAny M A t (fun a s'=>Q a s'/\j_ e d s'.heap) E s :=
 fun Γ p hin=>BR t dq _ _ p s (h Γ p hin) x
theorem Jr(v:Value):DQ (fieldsOf v):=by
 unfold fieldsOf;split
 ·exact DQ.bind (fun _=>trivial) fun o=>by
   split
   ·exact trivial
   ·exact trivial
 ·exact trivial
theorem qq(v:Value)(i:Nat):DQ (field v i):=by
 unfold field;exact DQ.bind (Jr v) fun o=>by
  split
  ·exact trivial
  ·exact trivial
theorem mj(g:Array Value->Array Value)(o:Obj):(Obj.mapFields g o).dict=o.dict/\((Obj.mapFields g o).isFreed=true->o.isFreed=true):=by obtain⟨c,d,dt,sl⟩:=o;cases dt<;>exact⟨rfl,fun h=>h⟩
theorem JS(a:Addr)(i:Nat)(v:Value):DQ (updateField a i v):=by
 unfold updateField;exact DQ.bind (fun _=>trivial) fun o=>by
  split
  ·split
   ·exact⟨mj _,trivial⟩
   ·exact trivial
  ·exact trivial
theorem uG(v:Value)(i:Nat)(x:Value):DQ (setField v i x):=by
 unfold setField;split
 ·exact JS _ _ _
 ·exact trivial
theorem Jk(e:Value)(f:Option Addr):DQ (setFlight e f):=by
 unfold setFlight;exact DQ.bind (qq _ _) fun tb=>by
  split
  ·exact uG _ _ _
  ·exact trivial
theorem HI(env:Env)(outer:List Env):DQ (behindIsImport env outer):=by
 unfold behindIsImport;split
 ·exact trivial
 ·split
  ·exact trivial
  ·exact DQ.bind (qq _ _) fun _=>trivial
theorem FV:DQ underTheClaimsCaller:=by unfold underTheClaimsCaller;exact DQ.bind (fun _=>trivial) fun _=>trivial
theorem EV(env:Env)(b:Bool)(l:List Env):DQ (keptBack env b l):=by
 unfold keptBack;split
 ·split
  ·exact trivial
  ·exact DQ.bind FV fun _=>trivial
 ·exact trivial
theorem yM:∀l:List Env,DQ (readyFrames l)
 | []=>trivial
 | env::outer=>by
  rw[readyFrames.eq_2];split
  ·exact DQ.bind (fun _=>trivial) fun o=>by
    split
    ·exact trivial
    ·exact DQ.bind (HI _ _) fun b=>DQ.bind (EV _ _ _) fun v=>DQ.bind ⟨fun o=>⟨rfl,fun h=>by obtain⟨c,d,dt,sl⟩:=o;cases dt<;>exact h⟩,trivial⟩ fun _=>yM outer
  ·exact trivial
theorem Iq(env:Env):DQ (PySem.frameOf env):=by
 unfold PySem.frameOf;refine DQ.bind ?_ fun l=>DQ.bind ?_ fun o=>?_
 ·unfold frameEnvs;exact DQ.bind (fun _=>trivial) fun _=>trivial
 ·unfold frameObject;split
  ·exact trivial
  ·exact DQ.bind (yM _) fun _=>trivial
 ·split
  ·exact trivial
  ·exact trivial
theorem FT(f:Addr)(b:Bool):DQ (entryPlaceOf f b):=by
 unfold entryPlaceOf;exact DQ.bind (fun _=>trivial) fun l=>by
  split
  ·exact trivial
  ·exact trivial
theorem EU(t:String)(vs:List Value):DQ (newFields t vs):=by
 have a:DQ (newObjAsIs (.type t) (.fields vs.toArray)):=by unfold newObjAsIs;exact DQ.bind (fun _=>trivial) fun _=>trivial
 unfold newFields newObj;dsimp only;split
 ·exact DQ.bind trivial fun _=>a
 ·exact a
theorem ET(e:Value)(env:Env):DQ (noteFrame e env):=by
 unfold noteFrame;split
 ·refine DQ.bind (qq _ _) fun hd=>?_;rename_i f _;have jp:∀x:Unit,DQ (do
   let a <- PySem.frameOf env
   let pl <- entryPlaceOf f (hd != Value.none)
   let b <- EntryCells.newEntry hd a Value.none (rawInt ↑f) Value.none pl
   setField e 1 b):=fun _=>DQ.bind (Iq _) fun a=>DQ.bind (FT _ _) fun pl=>DQ.bind (EU _ _) fun b=>uG _ _ _
  dsimp only;split
  ·refine DQ.bind (qq _ _) fun x=>?_;split
   ·exact trivial
   ·exact DQ.bind (uG _ _ _) fun x=>jp x
  ·exact jp ()
 ·exact trivial
theorem aE.there{o:HO}(x:aE P w H h a o):∃u,h.get? a=some u:=by
 cases o with
 | lst xs=>obtain⟨_,_,_,_,e⟩:=x;exact⟨_,e⟩
 | tup xs=>obtain⟨_,_,_,u,e,_⟩:=x;exact⟨_,e⟩
 | dK kvs=>obtain⟨_,_,_,_,o,_,_,e,_⟩:=x;exact⟨_,e⟩
 | dT kvs=>obtain⟨_,_,_,_,o,_,_,e,_⟩:=x;exact⟨_,e⟩
 | set S n=>obtain⟨o,_,_,_,e,_⟩:=x;exact⟨_,e⟩
 | ins C dx fs=>obtain⟨_,_,_,e,_⟩:=x;exact⟨_,e⟩
 | own y=>exact x
 | xd fs=>obtain⟨_,⟨_,_,_,e,_⟩,_⟩:=x;exact⟨_,e⟩
 | rng lo hi=>obtain⟨_,_,_,e⟩:=x;exact⟨_,e⟩
 | frz ob u=>obtain⟨e,_⟩:=x;exact⟨_,e⟩
 | tbl ps=>exact⟨_,x⟩
 | met f y=>exact⟨_,x⟩
 | ext φ=>exact x.2.1
def Fl(N:Addr->Prop)(a:Addr)(cls:Value)(H:Hp)(h:Heap):Prop :=
 ∃oe vs a0,N a/\H a=none/\h.get? a=some oe/\VS.Tg cls oe/\oe.data=.fields vs/\vs[0]?=some a0 /\
  (vs[1]?=some .none\/∃T oT ts,vs[1]?=some (.ref T)/\N T/\H T=none/\T≠a/\h.get? T=some oT/\oT.data=.fields ts/\ts[3]?=some .none)
theorem Fl.mono{N':Addr->Prop}{cls:Value}(f:Fl N a cls H h)(k:∀b,N b->N' b):Fl N' a cls H h:=by obtain⟨oe,vs,a0,n,h1,h2,h3,h4,h5,h6⟩:=f;refine⟨oe,vs,a0,k _ n,h1,h2,h3,h4,h5,h6.imp id fun⟨T,oT,ts,e1,e2,e⟩=>⟨T,oT,ts,e1,k _ e2,e⟩⟩
theorem FR{M:Model}{B:Heap}{L:Addr}{Q:Unit->Shared->Prop}(hfr:A.frames=some (env::outer))(hl:s.heap.FunFrames B (env::outer))(hf:env.frame=some L)(he:s.heap.get? a=some oe)(hkb:B.StaysIn s.heap)(hen:B.get? a=none)(hd:oe.data=.fields vs)(h0:vs[0]?=some a0)(h1:vs[1]?=some .none\/∃T oT ts,vs[1]?=some (.ref T)/\B.get? T=none/\T≠a/\s.heap.get? T=some oT/\oT.data=.fields ts/\ts[3]?=some .none)(hQ:∀h',Heap.NotedW B (env::outer) a oe.cls a0 (rawInt L) s.heap h'->Q () { s with heap:=h' }):wpAny M A (noteFrame (.ref a) env) Q E s:=by
 rcases h1 with h1|⟨T,oT,ts,h1,hnT,hTe,hT,hdT,h3⟩
 ·unfold noteFrame;simp only[hf];refine wpAny_bind (wpAny_field he hd h1 ?_);rw[if_neg (by decide)];exact wpAny_entryW hfr hl hf he hkb hen hd (Array.getElem?_eq_some_iff.mp h1).1 h0 hQ
 ·exact wpAny_noteFrame_onW hfr hl hf ⟨oe,vs,T,oT,ts,he,⟨rfl,h0⟩,hd,h1,hnT,hTe,hT,hdT,h3⟩ hkb hen hQ
structure jz (stk:List Addr) (N:Addr->Prop) (H:Hp) (a:Addr) (cls:Value) (h h':Heap):Prop where
 keep:∀b o,h.get? b=some o->b∉stk->(H b≠none\/¬N b\/∀vs,o.data≠.fields vs)->h'.get? b=some o
 slot:∀b o,h.get? b=some o->b∈stk->∃sl,h'.get? b=some { o with slots:=sl }
 fl:Fl (fun b=>N b\/h.get? b=none) a cls H h'
theorem flown{M:Model}{A':Around}{σ:St}{cls:Value}{Q:Unit->Shared->Prop}(I:Inv X pins σ H s)(hst:X.stack=X.env::X.outer)(hf:X.env.frame=some X.env.locals)(f:Fl N a cls H s.heap)(hQ:∀h',jz (dw X.stack) N H a cls s.heap h'->Q () { s with heap:=h' }) :
  wpAny M X.A (noteFrame (.ref a) X.env) (fun _ s₂=>wpAny M A' (setFlight (.ref a) none) Q E s₂) E s:=by
 obtain⟨oe,vs,a0,na,ha,he,tg,hd,h0,h1⟩:=f;have hstk:=I.stack;have hfree:=I.stkFree;have hfr:=I.ok.frames;obtain⟨hid,hh1,hh2,hh3,hh4⟩:∃hid:List Addr,(∀b∈dw X.stack,b∈hid)/\a∈hid/\(∀b∈hid,b∈dw X.stack\/(N b/\H b=none/\∃o vs,s.heap.get? b=some o/\o.data=.fields vs)) /\
   (vs[1]?=some .none\/∃T oT ts,vs[1]?=some (.ref T)/\T∈hid/\T≠a/\s.heap.get? T=some oT/\oT.data=.fields ts/\ts[3]?=some .none):=by
  rcases h1 with h1|⟨T,oT,ts,h1,nT,hT,hTa,r⟩
  ·refine⟨dw X.stack++[a],fun b hb=>mem_append_left _ hb,mem_append_right _ (by simp),fun b hb=>?_,.inl h1⟩;rcases mem_append.mp hb with hb|hb
   ·exact .inl hb
   ·rw[mem_singleton] at hb;subst hb;exact .inr ⟨na,ha,_,_,he,hd⟩
  ·obtain⟨hT1,hT2,hT3⟩:=r;refine⟨dw X.stack++[a,T],fun b hb=>mem_append_left _ hb,mem_append_right _ (by simp),fun b hb=>?_,.inr ⟨T,oT,ts,h1,mem_append_right _ (by simp),hTa,hT1,hT2,hT3⟩⟩;rcases mem_append.mp hb with hb|hb
   ·exact .inl hb
   ·rcases mem_cons.mp hb with rfl|hb
    ·exact .inr ⟨na,ha,_,_,he,hd⟩
    ·rw[mem_singleton] at hb;subst hb;exact .inr ⟨nT,hT,_,_,hT1,hT2⟩
 have hin:∀env∈X.env::X.outer,∀b,env.frame=some b->b∈hid:=fun env he b hb=>hh1 b (mem_filterMap.mpr ⟨env,by rw[hst];exact he,hb⟩);have hl:s.heap.FunFrames (hideAll s.heap hid) (X.env::X.outer):=PySem.W.funFrames_hide (by rw[<- hst];exact hstk) hin;have n0:wpAny M X.A (noteFrame (.ref a) X.env) (fun _ s2=>∃h1,s2={ s with heap:=h1 }/\Heap.NotedW (hideAll s.heap hid) (X.env::X.outer) a oe.cls a0 (rawInt X.env.locals) s.heap h1) E s :=
  FR (by rw[hfr,hst]) hl hf he (fun b o q=>of_hideAll _ q) (hideAll_none _ hh2) hd h0 (hh4.imp id fun⟨T,oT,ts,e1,e2,e3,e4⟩=>⟨T,oT,ts,e1,hideAll_none _ e2,e3,e4⟩) fun h1 z=>⟨h1,rfl,z⟩
 refine wpAny_mono (wC (e:=a) (d:=oe.dict) (ET _ _) n0 ⟨oe,he,rfl⟩) (fun _ s2 ⟨⟨h1,es,z⟩,dz⟩=>?_) fun _ _ z=>z;subst es;obtain⟨z1,z2,z3,z4⟩:=z;have n1:wpAny M A' (setFlight (.ref a) none) (fun _ s3=>∃h2,s3={ s with heap:=h2 }/\(hideAll s.heap hid).FlyingW (X.env::X.outer) a oe.cls a0 h2/\h1.UpToSlots h2) E { s with heap:=h1 } :=
  wpAny_landsW (base:=hideAll s.heap hid) (l:=X.env::X.outer) (cls:=oe.cls) (a0:=a0) ⟨z1,hideAll_none _ hh2,z2,z3⟩ fun h2 y1 y2=>⟨h2,rfl,y1,y2⟩
 refine wpAny_mono (wC (e:=a) (d:=oe.dict) (Jk _ _) n1 dz) (fun _ s3 ⟨⟨h2,es,y1,y2⟩,dz2⟩=>?_) fun _ _ z=>z;subst es;refine hQ h2 ?_;have up:∀b o,s.heap.get? b=some o->(∀vs,o.data≠.fields vs)->∃sl,h2.get? b=some { o with slots:=sl }:=fun b o e n=>by
  obtain⟨s1,e1⟩:=z4 b o e n;obtain⟨s2,e2⟩:=y2 b _ e1 n;exact⟨s2,e2⟩
 have sl:∀b o,s.heap.get? b=some o->b∈dw X.stack->∃sl,h2.get? b=some { o with slots:=sl }:=fun b o e hb=>by
  obtain⟨_,o',e',n⟩:=hstk.mem hb;rw[e] at e';cases e';exact up b o e n
 obtain⟨y1,y3,y4,oe',vs',T',oT',ts',t1,⟨t2,t3⟩,t4,t5,t6,t7,t8,t9,t10⟩:=y1;refine⟨fun b o e hb hc=>?_,sl,oe',vs',a0,.inl na,ha,t1,tg.same t2 (by obtain⟨u,e1,e2⟩:=dz2;rw[t1] at e1;cases e1;exact e2),t4,t3,.inr ⟨T',oT',ts',t5,?_,?_,t7,t8,t9,t10⟩⟩
 ·refine y1 b o (hideAll_get _ e fun hm=>?_);rcases hh3 b hm with q|⟨q1,q2,o',vs',q3,q4⟩
  ·exact hb q
  ·rcases hc with hc|hc|hc
   ·exact hc q2
   ·exact hc q1
   ·rw[e] at q3;cases q3;exact hc _ q4
 all_goals
  cases q:s.heap.get? T' with
  | none =>
   first
    | exact .inr q
    | (cases q2:H T' with
       | none=>rfl
       | some u=>obtain⟨u',e'⟩:=(I.hok T' u q2).there;rw[q] at e';cases e')
  | some o =>
   have hm:T'∈hid:=by apply Classical.byContradiction;intro hm;have:=hideAll_get _ q hm;rw[t6] at this;cases this
   rcases hh3 T' hm with hs|⟨q1,q2,_⟩
   ·exfalso;obtain⟨_,o',e',n⟩:=hstk.mem hs;rw[q] at e';cases e';obtain⟨s2,e2⟩:=up T' o q n;rw[t8] at e2;cases e2;exact n _ t9
   ·first|exact .inl q1|exact q2
def bp(P:Program)(w:World):jC:=fun outer H s E e s'=>∃a cls H',e=.ref a/\s'.os=s.os/\AllBare s'.gens/\Un (dw outer) [] H H' s.heap s'.heap/\cF P w H' s'.heap/\Fl (fun b=>s.heap.get? b=none) a cls H' s'.heap/\E cls none H'
def Nw(X:Cx)(pins:List (Addr×Obj))(b:Addr):Prop:=X.s₀.heap.get? b=none/\∀p∈X.pn++pins,p.1≠b
def eO(X:Cx)(E:XK):Prop:=∀(pins:List (Addr×Obj)) (σ:St) (H:Hp) (s:Shared) (a:Addr) (cls:Value),Inv X pins σ H s->Fl (Nw X pins) a cls H s.heap->E cls none H->X.xe (.ref a) s
theorem lF{σ:St}{b:Addr}(hx:X.ex=[])(I:Inv X pins σ H s)(h:s.heap.get? b=none):Nw X pins b:=by
 refine⟨?_,fun p hp e=>?_⟩
 ·cases q:X.s₀.heap.get? b with
  | none=>rfl
  | some o =>
   obtain⟨o',e⟩:=I.base.there b o q (by rw[hx];simp);rw[h] at e;cases e
 ·obtain⟨e1,_⟩:=I.pin p hp;rw[e,h] at e1;cases e1
theorem eO.passes{E:XK}(h:eO X E)(hx:X.ex=[]):gM (bp X.prog X.w) X E:=fun pins σ H s e s' I z=>by
 obtain⟨a,cls,H',rfl,ho,hg,u,hok,f,q⟩:=z;exact h pins σ H' s' a cls (I.call' ho u hok hg (fun b z=>absurd z (by simp))) (f.mono fun b hb=>lF hx I hb) q
theorem tq:gM (bp X.prog X.w) X E0:=fun _ _ _ _ _ _ _ z=>by
 obtain⟨_,_,_,_,_,_,_,_,_,q⟩:=z;exact q.elim
theorem ae{N:List Str}{scope:Scope}{cd:Value}{E:XK} :
  eO (il (bp P w) P w K mg base N qual scope f cd A outer s H E) E:=by
 intro pins σ H1 s1 a cls I fl q;show wpAny (model P w) _ (leaving _ _) _ _ s1;unfold leaving;refine wpAny_bind (flown I rfl rfl fl fun h' F=>?_);have hb:=I.base;have hstk:=I.stack;have hlt:∀b o,s.heap.get? b=some o->b≠(il (bp P w) P w K mg base N qual scope f cd A outer s H E).env.locals:=fun b o e q=>absurd (Heap.lt_size e) (by rw[q];exact not_lt.mpr I.ok.above);have hfs:∀b,b∈dw (il (bp P w) P w K mg base N qual scope f cd A outer s H E).stack->b=(il (bp P w) P w K mg base N qual scope f cd A outer s H E).env.locals\/b∈dw outer:=fun b hb=>mem_cons.mp (I.stkSub b hb);have hout:∀b,b∈dw outer->b∈dw (il (bp P w) P w K mg base N qual scope f cd A outer s H E).stack:=fun b hb=>by
  obtain⟨env,h1,h2⟩:=mem_filterMap.mp hb;exact mem_filterMap.mpr ⟨env,mem_cons_of_mem _ h1,h2⟩
 refine⟨a,cls,H1,rfl,I.os,I.bare,⟨fun b o e n h1 h2=>?_,fun b o e n h1 h2=>?_,fun b o e n h2=>hb.free b o e n h2,fun b o e h2=>?_,hb.tups,hb.frzs,hb.tbls⟩,fun b o e=>?_,F.fl.mono fun b hb'=>?_,q⟩
 ·have e1:=hb.keep b o e n h1 h2;refine F.keep b o e1 (fun hm=>?_) (.inr<|.inl fun hn=>by have z:s.heap.get? b=none:=hn.1;rw[z] at e;cases e);rcases hfs b hm with z|z
  ·exact hlt b o e z
  ·exact h1 z
 ·obtain⟨sl,e1⟩:=hb.slot b o e n h1 h2;obtain⟨s2,e2⟩:=F.slot b _ e1 (hout b h1);exact⟨s2,e2⟩
 ·obtain⟨o',e1⟩:=hb.there b o e h2
  by_cases hm:b∈dw (il (bp P w) P w K mg base N qual scope f cd A outer s H E).stack
  ·obtain⟨s2,e2⟩:=F.slot b o' e1 hm;exact⟨_,e2⟩
  ·exact⟨o',F.keep b o' e1 hm (.inr<|.inl fun hn=>by have z:s.heap.get? b=none:=hn.1;rw[z] at e;cases e)⟩
 ·refine(I.hok b o e).stay (fun c u hc r=>?_) (fun _ q=>q) fun _ _ q=>q;have hH:H1 c≠none:=by
   rcases hc with rfl|hc
   ·rw[e];simp
   ·rw[hc];simp
  exact F.keep c u r (fun hm=>hH (I.stkFree c hm)) (.inl hH)
 ·rcases hb' with hb'|hb'
  ·exact hb'.1
  ·exact(lF (pins:=pins) rfl I hb').1
theorem bQ.okX{x:Str}{N:List Str}(F:bQ K x qual st f fd)(S:ao N ps (ba st))(len:∀vs H Q E,sp vs H Q E->vs.length=ps.length)(hbody:∀(cdv:Value) (A:Around) (outer:List Env) (s:Shared) (H:Hp) (vs:List V) (Q:VK) (E:XK),aT k (A.deeper (envOfC qual (ba st) s.heap.objs.size f cdv))->sp vs H Q E ->
   ∃t,PSs (il (bp P w) P w K mg base N qual (ba st) f cdv A outer s H E) (lg st) t/\t { nx:=fun _ H'=>Q .non H',rt:=Q } (start N vs) H):ay P w K mg base (bp P w) (k+1) f fd ps sp:=by
 obtain⟨oc,od,kV,doc,pm,an,cdv,ct,osl,rfl,lk,hcd⟩:=F.ex;refine CH lk hcd S len fun A outer s H vs Q E hr hsp=>?_;obtain⟨t,h,q⟩:=hbody cdv A outer s H vs Q E hr hsp;exact⟨t,h,q⟩
def i9:List Value:=[.type "ValueError",.type "Exception",.type "BaseException",.type "object"]
def XC(K:Frag)(C:Addr):Prop:=excIn K C i9 "ValueError.__new__" = true
theorem XC.obj{C:Addr}(q:XC K C)(X:K.In h):∃bm N nm qn bs hdct sn sub ab col dd k0 k1 k2 k3 k5 mN,
  h.get? C=some (excClassObj nm qn C N bs bm hdct sn sub ab col dd k0 k1 k2 k3 k5 "ValueError.__new__")/\h.Ns N mN/\mN "__init__" = none/\OwnTail h i9 bm:=by
 unfold XC excIn at q;split at q
 case h_2=>cases q
 rename_i dd cd sl ho;split at q
 case h_2=>cases q
 rename_i C' bm k0 k1 k2 k3 n k5 hm hs;simp only[and_eq_true,beq_iff_eq,not_eq_true'] at q;obtain⟨⟨⟨⟨⟨rfl,rfl⟩,hdel⟩,ht⟩,hok⟩,hni⟩:=q;obtain⟨nm,bs,mro,ns,qn,hd,sn,sub,ab,col,del⟩:=cd;dsimp only at hm hdel hok hni;subst hm hdel;have hsl:sl=#[k0,k1,k2,k3,some (.builtin "ValueError.__new__"),k5]:=by obtain⟨l⟩:=sl;simp only at hs;rw[hs]
 subst hsl;exact⟨bm,ns,nm,qn,bs,hd,sn,sub,ab,col,dd,k0,k1,k2,k3,k5,_,X _ _ ho,.of_isNs (PySem.W.isNs_of_in X hok),PySem.W.nsMap_none_of_in X hok hni,tail_of_in X ht⟩
def PM(X:Cx)(e:Expr)(t:St->Prop):Prop:=∀(pins:List (Addr×Obj)) (s:Shared) (σ:St) (H:Hp),Inv X pins σ H s->t σ->wpAny (model X.prog X.w) X.A (eval e X.env) (fun u s'=>(∃y tk,u=.str y tk/\y.length<=1000)/\Inv X pins σ H s') X.xe s
def PX(X:Cx)(e:Expr)(t:St->Prop):Prop:=∀(pins:List (Addr×Obj)) (s:Shared) (σ:St) (H:Hp),Inv X pins σ H s->t σ->wpAny (model X.prog X.w) X.A (eval e X.env) (fun u s'=>Inv X pins σ H s') X.xe s
def qP(X:Cx)(es:List Expr)(t:St->Prop):Prop:=∀(out:Str) (pins:List (Addr×Obj)) (s:Shared) (σ:St) (H:Hp),out.length+1000*es.length<=sizeLine->Inv X pins σ H s->t σ->wpAny (model X.prog X.w) X.A (joinParts out (evalEach es X.env)) (fun u s'=>Inv X pins σ H s') X.xe s
theorem oo{x:Str}(hx:x.length<=1000:=by decide):PM X (.Constant (.str x) j pos) (fun _=>True):=fun pins s σ H I _=>Calls.Constant_str ⟨⟨x,_,rfl,hx⟩,I.tok _⟩
theorem Dt{e:Expr}{pos:Pos}{n:Int}{σ:St}(hn:n.natAbs<1000)(I:Inv X pins σ H s)(tk:Tok) :
  wpAny (model X.prog X.w) X.A (formatField (.int n tk) Str.empty) (fun u s'=>(∃y tk,u=.str y tk/\y.length<=1000)/\Inv X pins σ H s') X.xe s:=by
 have hl:n.natAbs.log2<100:=by
  by_cases h0:n.natAbs=0
  ·rw[h0];decide
  ·exact(log2_lt h0).mpr (lt_of_lt_of_le hn (by decide))
 refine formatField_int_small (by omega) ⟨⟨_,_,rfl,?_⟩,I.tok _⟩;have e:=int_text_length_le (k:=100) (by decide) hl;show(Str.ofString (toString n)).length<=1000;rw[PySem.ofString_length];omega
theorem sj{x:Str}{p:Pos}(i:Nat)(hN:X.N[i]?=some x:=by rfl)(hv:mm X.env.scope x:=by first|exact Or.inl rfl|exact Or.inr (Or.inl rfl)|exact Or.inr (Or.inr rfl))(hd:(x==("__debug__" : Str))=false:=by decide)(hcd:(x==("__classdict__" : Str))=false:=by decide):PM X (.FormattedValue (.Name x p) (-1) none pos) (fun σ=>∃n:Int,σ[i]?=some (some (.int n))/\n.natAbs<1000):=fun pins s σ H I ⟨n,e,hn⟩=>by
 refine FormattedValue_plain (aO (m6 (pos:=p) hN hv hd hcd pins s σ H (fun v H'=>v=.int n/\H'=H) I ⟨.int n,e,rfl,rfl⟩) fun u s1 ⟨v,H1,I1,r,hv,hH⟩=>?_);subst hv;subst hH;obtain⟨tk,rfl⟩:∃tk,u=.int n tk:=r;exact Dt (e:=.Name x p) (pos:=pos) hn I1 tk
theorem sS:qP X [] (fun _=>True):=fun out pins s σ H hl I _=>joinParts_nil (I.tok _) (by simpa using hl)
theorem lj{t t':St->Prop}(h1:PM X e t)(h2:qP X es t'):qP X (e::es) (fun σ=>t σ/\t' σ):=fun out pins s σ H hl I q=>by
 show wpAny _ _ (joinParts out (eval e X.env::evalEach es X.env)) _ _ _;refine joinParts_cons (aO (h1 pins s σ H I q.1) fun u s1 ⟨⟨y,tk,hu,hy⟩,I1⟩=>?_);subst hu;have hz:(out++y).length=out.length+y.length:=strLen_append _ _;simp only[length_cons] at hl;exact⟨by omega,h2 (out++y) pins s1 σ H (by omega) I1 q.2⟩
theorem pN{x:Str}:PX X (.Constant (.str x) j pos) (fun _=>True):=fun pins s σ H I _=>Calls.Constant_str (I.tok _)
theorem sR{t:St->Prop}(h:qP X (e1::e2::es) t)(hl:1000*(es.length+2)<=sizeLine:=by decide):PX X (.JoinedStr (e1::e2::es) pos) t:=fun pins s σ H I q =>
 JoinedStr_many (h Str.empty pins s σ H (by show 0+1000*(es.length+2)<=sizeLine;rw[zero_add];exact hl) I q)
theorem FQ{E:XK}{C:Addr}{x:Str}{t:St->Prop}(hx:eO X E)(hex:X.ex=[])(xc:XC X.K C)(hg:Gl X x)(hm:X.mg x=some (.ref C))(hh:X.A.handled=none)(ha:PX X e t)(he:starEach [e] X.env=[(false,eval e X.env)]:=by rfl)(hd:(x==("__debug__" : Str))=false:=by decide) :
  PS X (.Raise (some (.Call (.Name x np) [e] [] cpos)) none pos) (fun _ σ H=>t σ/\E (.ref C) none H):=by
 intro pins s σ H D I hq;obtain⟨bm,N,nm,qn,bs,hdct,sn,sub,ab,col,dd,k0,k1,k2,k3,k5,mN,hC,hN,hni,T⟩:=xc.obj I.ok.mod.kin;refine wpAny_Raise_call_subU (C:=C) (nm:=nm) (q:=qn) (N:=N) (bs:=bs) (bm:=bm) (hdct:=hdct) (sn:=sn) (sub:=sub) (ab:=ab) (col:=col) (dd:=dd) (k0:=k0) (k1:=k1) (k2:=k2) (k3:=k3) (k5:=k5)
  excBase_ValueError (by decide) excBase_ValueError (mN:=mN) (T.hasType excBase_ValueError.hasBase) hh (by rw[he];rfl) hni (jY I hg hm ⟨rfl,?_⟩ hd)
 rw[he];refine Calls.evalArgs_plain (Calls.spliced_cons (aO (ha pins s σ H I hq.1) fun u s1 I1=>Calls.spliced_nil ?_));refine⟨rfl,(by show 1<=sizeLine;decide),I1.bk _ _ hC,hN.keeps I1.bk,T.keeps I1.bk,fun h' b hm=>?_⟩;obtain⟨tt,e1,e2,e3⟩:=hm.there;refine hx pins σ H { s1 with heap:=h' } b (.ref C) (I1.kept (t':=s1.toks) hm.keeps) ⟨_,_,_,lF hex I1 hm.new,?_,e1,rfl,rfl,rfl,.inl rfl⟩ hq.2;cases q:H b with
 | none=>rfl
 | some o=>obtain⟨u,e⟩:=(I1.hok b o q).there;rw[hm.new] at e;cases e
section
variable {σ:St} {cls:Value}
theorem Inv.flown(I:Inv X pins σ H s)(hex:X.ex=[])(F:jz (dw X.stack) (Nw X pins) H a cls s.heap h'):Inv X pins σ H { s with heap:=h' }:=by
 have neL:∀b o,X.s₀.heap.get? b=some o->b≠X.env.locals:=fun b o e=>ne_of_lt (lt_of_lt_of_le (Heap.lt_size e) I.ok.above);have hs0:∀b o,X.s₀.heap.get? b=some o->¬Nw X pins b:=fun b o e n=>by rw[n.1] at e;cases e
 have stk:∀b,b≠X.env.locals->b∉X.fs->b∉dw X.stack:=fun b h1 h2=>I.stkNe h1 h2;have anyK:∀b o,s.heap.get? b=some o->(¬Nw X pins b\/∀vs,o.data≠.fields vs)->∃sl,h'.get? b=some { o with slots:=sl }:=fun b o e hn=>by
  by_cases hm:b∈dw X.stack
  ·exact F.slot b o e hm
  ·exact⟨o.slots,F.keep b o e hm (.inr hn)⟩
 have cellK:∀x c,X.env.cells.lookup x=some c->∀v,s.heap.IsCell c v->h'.IsCell c v:=fun x c e v ⟨o,ho,hd⟩=>by
  obtain⟨sl,q⟩:=anyK c o ho (.inr fun vs q=>by rw[hd] at q;cases q);exact⟨_,q,hd⟩
 refine⟨I.ok,I.os,I.bare,⟨fun b o e n hb hx=>?_,fun b o e n hb hx=>?_,I.base.free,fun b o e hx=>?_,I.base.tups,I.base.frzs,I.base.tbls⟩,?_,fun x c e=>?_,I.free,I.freeC,fun p hp=>?_,fun b o e=>?_,I.len⟩
 ·exact F.keep b o (I.base.keep b o e n hb hx) (stk b (neL b o e) hb) (.inr (.inl (hs0 b o e)))
 ·obtain⟨sl,e1⟩:=I.base.slot b o e n hb hx;obtain⟨sl',e2⟩:=anyK b _ e1 (.inl (hs0 b o e));exact⟨sl',e2⟩
 ·obtain⟨o',e1⟩:=I.base.there b o e hx;obtain⟨sl',e2⟩:=anyK b _ e1 (.inl (hs0 b o e));exact⟨_,e2⟩
 ·obtain⟨m,hn,hl⟩:=I.loc;obtain⟨oL,es,ep,hoL,hdL,r⟩:=id hn;obtain⟨sl,q⟩:=anyK _ oL hoL (.inr fun vs q=>by rw[hdL] at q;cases q);refine⟨m,⟨_,es,ep,q,hdL,r⟩,fun i x v e1 e2 e3=>?_⟩;obtain⟨u,r,l⟩:=hl i x v e1 e2 e3;refine⟨u,r,?_⟩;rcases l with l|⟨k,c,e,z⟩
  ·exact .inl l
  ·exact .inr ⟨k,c,e,cellK x c e _ z⟩
 ·obtain⟨v,z⟩:=I.cell x c e;exact⟨v,cellK x c e v z⟩
 ·obtain⟨e,n,ne,nf,d⟩:=I.pin p hp;exact⟨F.keep p.1 p.2 e (stk _ ne nf) (.inr (.inl fun hn=>hn.2 p hp rfl)),n,ne,nf,d⟩
 ·refine(I.hok b o e).stay (fun c u hc r=>?_) (fun _ q=>q) fun _ _ q=>q;have hH:H c≠none:=by
   rcases hc with rfl|hc
   ·rw[e];simp
   ·rw[hc];simp
  exact F.keep c u r (fun hm=>hH (I.stkFree c hm)) (.inl hH)
theorem Fl.nw(I:Inv X pins σ H s)(hex:X.ex=[])(F:jz (dw X.stack) (Nw X pins) H a cls s.heap h'):Fl (Nw X pins) a cls H h':=F.fl.mono fun b hb=>hb.elim id fun hb=>lF hex I hb
theorem AL{M:Model}{Q:Unit->Shared->Prop}(f:Fl N a cls H s.heap)(h:Q () s):wpAny M A (setFlight (.ref a) none) Q E s:=by
 obtain⟨oe,vs,a0,_,_,he,_,hd,h0,h1⟩:=f;unfold setFlight;rcases h1 with h1|⟨T,oT,ts,h1,_,_,_,hT,hdT,h3⟩
 ·refine wpAny_bind (wpAny_field he hd h1 ?_);rw[if_neg (by decide)];exact wpAny_pure h
 ·refine wpAny_bind (wpAny_field he hd h1 ?_);rw[if_pos (show(Value.ref T != Value.none)=true from by simp)];refine wpAny_setField hT hdT (Array.getElem?_eq_some_iff.mp h3).1 ?_;show Q () { s with heap:=s.heap.update T (Obj.mapFields (·.setIfInBounds 3 Value.none)) };rw[Heap.update_setField_same s.heap T oT ts 3 Value.none hT hdT h3];exact h
theorem Inv.trackX(I:Inv X pins σ H s)(hN:∀b,N b->Nw X pins b)(f:Fl N a cls H s.heap):Inv X pins σ (upd H a (.ext (VS.XPhi a cls))) s:=by
 obtain⟨oe,vs,a0,na,ha,he,hc,hd,h0,_⟩:=f;obtain⟨n1,n2⟩:=hN a na;obtain⟨m,hn,hl⟩:=id I.loc;obtain⟨oL,es,ep,hoL,hdL,r⟩:=id hn;have hne:a≠X.env.locals:=by rintro rfl;rw[he] at hoL;cases hoL;rw[hd] at hdL;cases hdL
 have up:∀b,b≠a->∀{o:Option HO},H b=o->upd H a (.ext (VS.XPhi a cls)) b=o:=fun b hb o e=>by rw[bt hb];exact e
 refine⟨I.ok,I.os,I.bare,⟨I.base.keep,I.base.slot,fun b o e n hx=>?_,I.base.there,fun b xs e=>?_,fun b o u e=>?_,fun b ps e=>?_⟩,I.loc,I.cell,?_,fun x c e=>?_,fun p hp=>?_,I.hok.track ha ⟨⟨oe,vs,he,hc,hd,a0,h0⟩,⟨oe,he⟩,fun h1 h2 ⟨o,vs,e1,e2,e3⟩ k=>⟨o,vs,k _ e1,e2,e3⟩⟩,I.len⟩
 ·refine up b ?_ (I.base.free b o e n hx);rintro rfl;rw[n1] at e;cases e
 ·have:=I.base.tups b xs e;exact up b (eU this ha) this
 ·have:=I.base.frzs b o u e;exact up b (eU this ha) this
 ·obtain⟨m,this⟩:=I.base.tbls b ps e;exact⟨m,up b (eU this ha) this⟩
 ·exact up _ (Ne.symm hne) I.free
 ·refine up c ?_ (I.freeC x c e);rintro rfl;obtain⟨v,o,ho,hd'⟩:=I.cell x c e;rw[he] at ho;cases ho;rw[hd] at hd';cases hd'
 ·obtain⟨e,n,r⟩:=I.pin p hp;exact⟨e,up _ (n2 p hp) n,r⟩
theorem qD{M:Model}{n:Str}{Q:Unit->Shared->Prop}(I:Inv X pins σ H s)(hN:X.N.Nodup)(hi:X.N[i]?=some n)(hk:X.env.scope.names.lookup n=some .local)(h:∀s',Inv X pins (σ.set i none) H s'->Q () s'):wpAny M A (do bindName X.env n .none;unbindBehindTheSuite X.env n pos) Q E s:=by
 obtain⟨m,hn,hl⟩:=id I.loc;have hcls:(X.env.scope.kind==.class||(X.env.scope.kind==.module&&X.env.locals != X.env.globals))=false:=by rw[I.ok.kind];rfl
 refine wpAny_nameGoes_keeps hk hn hcls fun h' v hn' hs=>h _ ?_;refine⟨I.ok,I.os,I.bare,⟨fun b o e n hb hx=>?_,fun b o e n hb hx=>?_,I.base.free,fun b o e hx=>?_,I.base.tups,I.base.frzs,I.base.tbls⟩,⟨_,hn',fun j y v' e1 e2 e3=>?_⟩,fun y c e=>?_,I.free,I.freeC,fun p hp=>?_,fun b ob e=>?_,by simpa using I.len⟩
 ·exact(hs.2 b (ne_of_lt (lt_of_lt_of_le (Heap.lt_size e) I.ok.above))).trans (I.base.keep b o e n hb hx)
 ·obtain⟨sl,e1⟩:=I.base.slot b o e n hb hx;exact⟨sl,(hs.2 b (ne_of_lt (lt_of_lt_of_le (Heap.lt_size e) I.ok.above))).trans e1⟩
 ·obtain⟨o',e1⟩:=I.base.there b o e hx;exact⟨o',(hs.2 b (ne_of_lt (lt_of_lt_of_le (Heap.lt_size e) I.ok.above))).trans e1⟩
 ·by_cases hj:j=i
  ·subst hj
   by_cases hjl:j<σ.length
   ·rw[getElem?_set_self hjl] at e2;cases e2
   ·rw[getElem?_eq_none (by simpa using hjl)] at e2;cases e2
  ·rw[getElem?_set_ne (Ne.symm hj)] at e2;obtain⟨u',r',q⟩:=hl j y v' e1 e2 e3;refine⟨u',r',?_⟩;rcases q with ⟨k,e⟩|⟨k,c,e,z⟩
   ·refine .inl ⟨k,?_⟩;have:y≠n:=fun e=>hj (tZ hN e1 (e▸hi));simp[this,e]
   ·exact .inr ⟨k,c,e,z.sameBut hs (I.cne y c e)⟩
 ·obtain⟨w',z⟩:=I.cell y c e;exact⟨w',z.sameBut hs (I.cne y c e)⟩
 ·obtain⟨e,n,ne,nf,d⟩:=I.pin p hp;exact⟨(hs.2 p.1 ne).trans e,n,ne,nf,d⟩
 ·refine(I.hok b ob e).stay (fun c w' hc q=>(hs.2 c ?_).trans q) (fun _ q=>q) fun _ _ q=>q;rintro rfl;rcases hc with rfl|hc
  ·rw[I.free] at e;cases e
  ·rw[I.free] at hc;cases hc
end
abbrev Cx.hnd(X:Cx)(a:Addr):Cx:={ X with A:=X.A.mark (some (.ref a)),calm:=false,xe:=fun _ _=>False }
section
variable {σ:St}
theorem Cx.Ok.hnd(ok:X.Ok)(a:Addr):(X.hnd a).Ok :=
 ⟨ok.mod,ok.kind,ok.glob,ok.blt,ok.above,ok.inj,ok.has,ok.cab,fun h=>absurd (show false=true from h) Bool.false_ne_true,ok.frames,ok.stk,ok.exf,ok.bs,ok.bsz,ok.noex,ok.exfs,ok.funs,ok.frf⟩
theorem Inv.hnd(I:Inv X pins σ H s)(a:Addr):Inv (X.hnd a) pins σ H s:=⟨I.ok.hnd a,I.os,I.bare,I.base,I.loc,I.cell,I.free,I.freeC,I.pin,I.hok,I.len⟩
theorem Inv.unhnd(ok:X.Ok)(I:Inv (X.hnd a) pins σ H s):Inv X pins σ H s:=⟨ok,I.os,I.bare,I.base,I.loc,I.cell,I.free,I.freeC,I.pin,I.hok,I.len⟩
theorem SP.unhnd{D:Ends}{f:Flow}{s':Shared}(ok:X.Ok)(h:SP (X.hnd a) pins D f s'):SP X pins D f s':=by
 cases f with
 | next=>obtain⟨σ',H',I,q⟩:=h;exact⟨σ',H',I.unhnd ok,q⟩
 | brk=>obtain⟨σ',H',I,q⟩:=h;exact⟨σ',H',I.unhnd ok,q⟩
 | cont=>obtain⟨σ',H',I,q⟩:=h;exact⟨σ',H',I.unhnd ok,q⟩
 | ret u=>obtain⟨v,σ',H',I,r,q⟩:=h;exact⟨v,σ',H',I.unhnd ok,r,q⟩
end
theorem JR{M:Model}{Q:Bool->Shared->Prop}{C:Addr}{b:Bool}(X:K.In s.heap)(he:s.heap.get? a=some oe)(hcls:oe.cls=.ref C)(xs:XC K S)(hm:mroIn K C (.ref S)=some b)(h:Q b s):wpAny M A (excMatches (.ref a) (.ref S)) Q E s:=by
 obtain⟨bm,N,nm,qn,bs,hdct,sn,sub,ab,col,dd,k0,k1,k2,k3,k5,mN,hC,hN,hni,T⟩:=xs.obj X;have hL:=PySem.W.looks_mroIn (M:=M) X hm;obtain⟨hp,g,d,tk,os⟩:=s;have hcB:(Value.ref S::bm).contains (.type "BaseException")=true:=by rw[contains_cons,T.hasType excBase_ValueError.hasBase,Bool.or_true]
 have f:=tc_notTuple;unfold excMatches
 repeat (first|with_reducible refine hL.at ?_|(with_reducible refine wpAny_loadPart_at he ?_;rw[hcls])|with_reducible refine wpAny_loadPart_at hC ?_|(with_reducible refine wpAny_isSubtype_exc hC ?_;rw[hcB])|wp_step)
 cases b<;>(wp_walk;exact h)
section
def PH(X:Cx)(h:ExceptHandler)(th:Value->TS):Prop:=∀(pins:List (Addr×Obj)) (s:Shared) (σ:St) (H:Hp) (D:Ends) (a:Addr) (cls:Value),Inv X pins σ H s->Fl (Nw X pins) a cls H s.heap->th cls D σ H ->
 wpAny (model X.prog X.w) X.A (handleBy (.ref a) X.env [h]) (SP X pins D) X.xe s
def wA(D:Ends)(i:Nat):Ends:={ nx:=fun σ' H'=>D.nx (σ'.set i none) H',rt:=D.rt,bk:=fun σ' H'=>D.bk (σ'.set i none) H',ct:=fun σ' H'=>D.ct (σ'.set i none) H' }
theorem BQ{n:Str}{ts:TS}(hN:X.N.Nodup)(hi:X.N[i]?=some n)(hk:X.env.scope.names.lookup n=some .local)(hg:Gl X cn)(hm:X.mg cn=some (.ref S))(xs:XC X.K S)(hs:∀a,PSs (X.hnd a) (b0::suite) ts)(hd:(cn==("__debug__" : Str))=false:=by decide) :
  PH X (.ExceptHandler (some (.Name cn np)) (some n) (b0::suite) hpos) (fun cls D σ H=>(∃C,VS.tgC cls=some C/\mroIn X.K C (.ref S)=some true)/\∀a,H a=none->ts (wA D i) (σ.set i (some (.ref a))) (upd H a (.ext (VS.XPhi a cls)))):=by
 intro pins s σ H D a cls I fl ⟨⟨C,hC,hmr⟩,hq⟩;refine wpAny_handleBy_cons (codeAny_handlers_test (jY (X:=X.hnd a) (I.hnd a) hg hm ?_ hd)) (by intro q;cases q);obtain⟨oe,vs,a0,_,ha,he,hc,_⟩:=id fl;refine JR I.kIn he (hc.cls hC) xs hmr ?_;refine codeAny_handlers_suite_as (AL fl (qx (I.trackX (fun _ z=>z) fl) hN hi (.inl hk) (show RelV (.ref a) (.ref a) from rfl) (fun s2 I2=>?_) (.inr hk)));refine wpAny_mono (hs a pins s2 _ _ (wA D i) (I2.hnd a) (hq a ha)) (fun f s3 z=>?_) fun _ _ z=>z.elim;have z':=SP.unhnd I.ok z;cases f with
 | next=>obtain⟨σ',H',I3,q⟩:=z';exact qD I3 hN hi hk fun s4 I4=>⟨_,H',I4,q⟩
 | brk=>obtain⟨σ',H',I3,q⟩:=z';exact qD I3 hN hi hk fun s4 I4=>⟨_,H',I4,q⟩
 | cont=>obtain⟨σ',H',I3,q⟩:=z';exact qD I3 hN hi hk fun s4 I4=>⟨_,H',I4,q⟩
 | ret u=>obtain⟨v,σ',H',I3,r,q⟩:=z';exact qD I3 hN hi hk fun s4 I4=>⟨v,_,H',I4,r,q⟩
def XP(X:Cx)(pins:List (Addr×Obj))(σ:St)(E:XK)(e:Value)(s':Shared):Prop:=∃a cls H',e=.ref a/\Inv X pins σ H' s'/\Fl (Nw X pins) a cls H' s'.heap/\E cls none H'
def vc(X:Cx)(e:Expr)(t:XK->TE):Prop:=∀(pins:List (Addr×Obj)) (s:Shared) (σ:St) (H:Hp) (Q:VK) (E:XK),Inv X pins σ H s->t E σ H Q->wpAny (model X.prog X.w) X.A (eval e X.env) (EP X pins σ Q) (XP X pins σ E) s
def PB(X:Cx)(b:List Stmt)(t:XK->TS):Prop:=∀(pins:List (Addr×Obj)) (s:Shared) (σ:St) (H:Hp) (D:Ends) (E:XK),Inv X pins σ H s->t E D σ H->wpAny (model X.prog X.w) X.A (execs b X.env) (SP X pins D) (XP X pins σ E) s
theorem wu{b:List Stmt}{h:ExceptHandler}{t:XK->TS}(hst:X.stack=X.env::X.outer)(hf:X.env.frame=some X.env.locals)(hex:X.ex=[])(hb:PB X b t)(hh:PH X h th) :
  PS X (.Try b [h] [] [] pos) (fun D σ H=>t (fun cls _ H'=>th cls D σ H') D σ H):=by
 intro pins s σ H D I q;refine wpAny_Try_except (wpAny_mono (hb pins s σ H D _ I q) (fun f s1 z=>?_) fun e s1 ⟨a,cls,H',e1,I1,fl,z⟩=>?_)
 ·cases f with
  | next=>exact wpAny_execs_nil z
  | brk=>exact z
  | cont=>exact z
  | ret u=>exact z
 ·subst e1;exact flown I1 hst hf fl fun h' F=>hh pins _ σ H' D a cls (I1.flown hex F) (Fl.nw I1 hex F) z
variable {x:Str} {p:Pos} {t:TA}
theorem FP(F:ay X.prog X.w X.K X.mg X.base (bp X.prog X.w) k f fd ps sp)(hr:aT k X.A)(hex:X.ex=[])(hg:Gl X x)(hm:X.mg x=some (.ref f))(hk:keepIn X.K (.ref f)=true)(hb:Binds X.K fd ps [])(ha:PA X.nox (e::es) t)(hdb:(x==("__debug__" : Str))=false:=by decide)(he:starEach (e::es) X.env=(false,eval e X.env)::starEach es X.env:=by rfl)(hpl:(backTo pos (starEach es X.env)).any (·.1)=false:=by rfl) :
  vc X (.Call (.Name x p) (e::es) [] pos) (fun E σ H Q=>t σ H fun vs H1=>sp vs H1 Q E):=by
 intro pins s σ H Q E I h;refine wpAny_Call_Name_kw (jY I hg hm ?_ hdb);refine callWith_K (h₀:=X.base) I.ok.mod.kin hk (wpAny_mono (ha pos pins s σ H _ (I.wish _) h) (fun us s1 ⟨vs,H1,I1,r,q⟩=>⟨I1.unwish.kIn,?_⟩) fun _ _ z=>z.elim) he hpl;have I1:=I1.unwish;have hl:(us++[]).length=ps.length:=by rw[append_nil,<- r.length];exact F.len _ _ _ _ q
 have hb':=hb s1 us I1.kIn hl;rw[append_nil] at hb';refine wpAny_call (codeAny_mono (F.run X.A X.stack s1 H1 ⟨us,[]⟩ us vs Q E hr I1.env0 hb' r q) fun r s' hq=>?_);cases r with
 | error e =>
  obtain⟨a,cls,H',rfl,ho,hgn,u,hok,fl,z⟩:=hq;exact⟨a,cls,H',rfl,I1.call' ho u hok hgn (fun b z=>absurd z (by simp)),fl.mono fun b hb=>lF hex I1 hb,z⟩
 | ok fl =>
  cases fl with
  | ret u=>exact I1.after hq
  | next=>exact False.elim hq
  | brk=>exact False.elim hq
  | cont=>exact False.elim hq
variable {te:XK->TE}
theorem wt(hN:X.N.Nodup)(hi:X.N[i]?=some x)(hx:Loc X.env.scope x)(he:vc X e te)(hs:swapsWith e (some (.Name x pos')) pos.line X.env=pure false:=by rfl)(hf:X.fn x=true\/X.env.scope.names.lookup x=some .local:=by first|exact .inl rfl|exact .inr rfl|assumption):PB X [.Assign [.Name x pos'] e pos] (fun E D σ H=>te E σ H fun v H1=>D.nx (σ.set i (some v)) H1):=by intro pins s σ H D E I h;refine wpAny_execs_cons (wpAny_Assign_Name (wpAny_mono (he pins s σ H _ E I h) (fun v s1 ⟨y,H1,I1,r1,q1⟩=>?_) fun _ _ z=>z) hs);exact qx I1 hN hi hx r1 (fun s2 I2=>wpAny_execs_nil ⟨_,H1,I2,q1⟩) hf
end
end L2
variable {g:Array GenState} {os:OsState}
namespace L2
open PySem.W PySem.Builtin PySem.Builtin.ObjectAttr PySem.Builtin.Getset_descriptor
section
variable {d:Drawn} {t:Nat} {C:Addr} {o:Obj}
theorem Ds{tp:Value}{R:Result->Shared->Prop}(X:K.In h)(hx:h.get? a=some o)(hc:o.cls=.ref C)(hm:mroIn K C (.type "object")=some true)(hq:R (.ok (.ret (.ref C))) ⟨h,g,d,t,os⟩) :
  codeAny (model prog w) A (.call (.builtin "getset_descriptor.__get__") ⟨[.builtin "object.__class__",.ref a,tp],[]⟩) R ⟨h,g,d,t,os⟩:=by
 have L0:Looks (model prog w) h (typeOf (.ref a)) (.ref C):=hc▸(Looks.ld hx).andThen .now;have L1:=looks_mroIn (M:=model prog w) X hm;refine codeAny_call_builtin KF.slot_gs.plain KF.entry_gs (KF.slot_gs.check _ _ _ _ _ _ _ _ KF.type_class (KF.args_gs _ _ _) ?_);unfold Builtin.«getset_descriptor.__get__» descrGet;rw[dga_obj];refine wpAny_bind (wpAny_pure ?_);unfold descrGetter descrCheckInstance descrNameAndClass isInstance;simp only[KF.owner_class]
 repeat lk
 refine⟨Code.quiet_builtin _ (by decide +kernel),codeAny_builtin KF.entry_class ?_⟩;unfold Builtin.«object.__class__» shownTypeOf
 repeat lk
 exact hq
theorem FO{tk:Tok}{Q:Fin->Shared->Prop}(X:K.In h)(hx:h.get? a=some o)(hc:o.cls=.ref C)(hcl:findIn K (.ref C) "__class__" = some (some (.builtin "object.__class__")))(hm:mroIn K C (.type "object")=some true)(hq:Q (.done (.ret (.ref C))) ⟨h,g,d,t,os⟩) :
  wpAny (model prog w) A (Builtin.«object.__getattribute__» ⟨[.ref a,.str "__class__" tk],[]⟩) Q E ⟨h,g,d,t,os⟩:=by
 have hT5:(⟨h,g,d,t,os⟩:Shared).TypeIs (.builtin "object.__class__") "getset_descriptor" := PySem.F.typeOf_object_class;have f5:=PySem.F.typeOf_object_class;have f6:=PySem.F.slot_gs_get.lookup;have f7:=PySem.F.slot_gs_set.lookup;have L2:=looks_findIn (M:=model prog w) X hcl
 repeat (any_goals (first|assumption|(with_reducible refine wpAny_loadPart_at hx ?_;rw[hc])|with_reducible refine L2.at ?_|wp_step))
 refine Ds X hx hc hm ?_
 repeat (any_goals (first|assumption|wp_step))
theorem yL{M:Model}{nameV:Value}{Q:Unit->Shared->Prop}(X:K.In h)(hx:h.get? a=some o)(hc:o.cls=.ref C)(hb:mroIn K C (.type "BaseException")=some true)(hq:Q () ⟨h,g,d,t,os⟩) :
  wpAny M A (checkBuiltinCall "BaseException.__getattribute__" ⟨[.ref a,nameV],[]⟩) Q E ⟨h,g,d,t,os⟩:=by
 have hk:builtinKind "BaseException.__getattribute__" = some .slot:=by decide +kernel
 have hsplit:splitId "BaseException.__getattribute__" = some ("BaseException", "__getattribute__"):=by decide +kernel
 have ha:=PySem.F.args_bexc_ga (.ref a) nameV;have L1:=looks_mroIn (M:=M) X hb;simp only[checkBuiltinCall,hk,hsplit];refine wpAny_bind ?_
 ·unfold isInstance
  repeat (first|(with_reducible refine wpAny_loadPart_at hx ?_;rw[hc])|with_reducible refine L1.at ?_|wp_step)
  exact hq
theorem BP{tk:Tok}{Q:Value->Shared->Prop}(X:K.In h)(hx:h.get? a=some o)(hc:o.cls=.ref C)(hga:findIn K (.ref C) "__getattribute__" = some (some (.builtin "BaseException.__getattribute__")))(hgh:findIn K (.ref C) "__getattr__" = some none)(hcl:findIn K (.ref C) "__class__" = some (some (.builtin "object.__class__")))(hm:mroIn K C (.type "object")=some true)(hb:mroIn K C (.type "BaseException")=some true)(hq:Q (.ref C) ⟨h,g,d,t,os⟩) :
  wpAny (model prog w) A (getAttrBy (.ref a) (.str "__class__" tk) false) Q E ⟨h,g,d,t,os⟩:=by
 have f3:=PySem.F.attr_ValueError.ga.bind (.ref a);have hx2:(Value.builtin "BaseException.__getattribute__" == Value.builtin "object.__getattribute__")=false:=by decide +kernel
 have hx1:(onTheHeap (Value.ref C)&&Value.builtin "BaseException.__getattribute__" == Value.builtin "object.__getattribute__")=false:=by rw[hx2];rfl
 have L1:=looks_findIn (M:=model prog w) X hga;have L2:=looks_findIn (M:=model prog w) X hgh
 repeat (any_goals (first|assumption|(with_reducible refine wpAny_loadPart_at hx ?_;rw[hc])|with_reducible refine L1.at ?_|with_reducible refine L2.at ?_|wp_step))
 refine codeAny_call_builtin PySem.F.attr_ValueError.ga.plain entry_bexc_ga (yL X hx hc hb (FO X hx hc hcl hm ?_))
 repeat (any_goals (first|assumption|wp_step))
theorem ES{Q:Option Value->Shared->Prop}(X:K.In h)(hx:h.get? a=some o)(hc:o.cls=.ref C)(hga:findIn K (.ref C) "__getattribute__" = some (some (.builtin "BaseException.__getattribute__")))(hgh:findIn K (.ref C) "__getattr__" = some none)(hcl:findIn K (.ref C) "__class__" = some (some (.builtin "object.__class__")))(hm:mroIn K C (.type "object")=some true)(hb:mroIn K C (.type "BaseException")=some true)(hq:Q (some (.ref C)) ⟨h,g,d,t+1,os⟩) :
  wpAny (model prog w) A (getAttr? (.ref a) "__class__") Q E ⟨h,g,d,t,os⟩:=by
 unfold getAttr? getAttrBy?;refine wpAny_bind (wpAny_mkText (wpAny_bind (wpAny_attempt (BP X hx hc hga hgh hcl hm hb (wpAny_pure hq)))))
def lE(K:Frag)(C:Addr):Bool:=findIn K (.ref C) "__getattribute__" == some (some (.builtin "BaseException.__getattribute__"))&&findIn K (.ref C) "__getattr__" == some none &&
 findIn K (.ref C) "__class__" == some (some (.builtin "object.__class__"))&&mroIn K C (.type "object")==some true&&mroIn K C (.type "BaseException")==some true&&(clsIn K C).isSome
theorem xQ{C:Addr}(q:lE K C=true):findIn K (.ref C) "__getattribute__" = some (some (.builtin "BaseException.__getattribute__"))/\findIn K (.ref C) "__getattr__" = some none /\
  findIn K (.ref C) "__class__" = some (some (.builtin "object.__class__"))/\mroIn K C (.type "object")=some true/\mroIn K C (.type "BaseException")=some true/\(clsIn K C).isSome=true:=by
 unfold lE at q;simp only[and_eq_true,beq_iff_eq] at q;obtain⟨⟨⟨⟨⟨q2,q3⟩,q4⟩,q5⟩,q6⟩,q7⟩:=q;exact⟨q2,q3,q4,q5,q6,q7⟩
theorem tO{t:Value}(ht:VS.tgC t=some C)(q:lE K C=true):KitX K (.ref a) (.ref C) (VS.XPhi a t):=by
 obtain⟨q2,q3,q4,q5,q6,q7⟩:=xQ q;obtain⟨cdD,hcD⟩:=isSome_iff_exists.mp q7;refine⟨fun M h X p=>?_,fun M h X p=>?_,fun h tp dd its n sl X htp=>?_,fun {prog w A E Q s} X p k=>?_⟩
 ·obtain⟨o,vs,e1,e2,_⟩:=p;exact(e2.cls ht)▸(Looks.ld e1).andThen .now
 ·unfold clsIn at hcD;split at hcD
  ·rename_i c' d' cd' sl' ho;intro A' Q' E' s' k q;unfold isType loadHead;exact wpAny_bind (wpAny_loadPart (k _ _ (X _ _ ho)) (wpAny_pure q))
  ·cases hcD
 ·refine eq_false_iff.mpr fun q=>?_;have e:C=tp:=Value.ref.inj (beq_iff_eq.mp q);subst e;unfold clsIn at hcD;split at hcD
  ·rename_i c' d' cd' sl' ho;have z:=(X _ _ ho).symm.trans htp;cases z
  ·cases hcD
 ·obtain⟨o,vs,e1,e2,_⟩:=p;obtain⟨hh,gg,dd,tt,oss⟩:=s;exact ES X e1 (e2.cls ht) q2 q3 q4 q5 q6 k
end
end L2
namespace L2
def rj(K:Frag):List V->Hp->VK->Prop:=fun xs H Q=>∃a C t,VS.tgC t=some C/\lE K C=true/\H a=some (.ext (VS.XPhi a t)) /\
 ((∃S b,xs=[.ref a,.ref S]/\kitOne K (.ref C) (.ref S)=some b/\Q (.bl b) H)\/(∃T b,xs=[.ref a,.ty T]/\kitOne K (.ref C) (.type T)=some b/\Q (.bl b) H) \/
   (∃(tp:Addr) (Ss:List Addr) (b:Bool),xs=[.ref a,.ref tp]/\H tp=some (.tup (Ss.map V.ref))/\kitAny K (.ref C) (Ss.map Value.ref)=some b/\Q (.bl b) H))
theorem zl:∀{Ss:List Addr} {us:List Value},Vals (Ss.map V.ref) us->us=Ss.map Value.ref
 | [],us,h=>by cases h;rfl
 | S::r,us,h=>by
  cases h with
  | cons h1 h2 =>
   rw[zl h2];exact congrArg (·::_) h1
theorem FN:aP X (.builtin "isinstance") (rj X.K):=by
 intro pins s σ H xs us Q I r h;obtain⟨a,C,tg,ht,xc,hH,h⟩:=h;have hp:VS.XPhi a tg s.heap:=(I.hok a _ hH).1;have fin:∀b tk,Q (.bl b) H->EP X pins σ Q (.bool b) { s with toks:=tk }:=fun b tk q=>⟨.bl b,H,I.tok tk,rfl,q⟩
 rcases h with ⟨S,b,rfl,e,q⟩|⟨T,b,rfl,e,q⟩|⟨tp,Ss,b,rfl,hT,e,q⟩
 ·obtain⟨u,w',rfl,rx,ry⟩:=og r;cases rx;cases ry;exact kia_one (tO ht xc) I.kIn hp e (by intro z;cases z) fun tk=>fin b tk q
 ·obtain⟨u,w',rfl,rx,ry⟩:=og r;cases rx;cases ry;exact kia_one (tO ht xc) I.kIn hp e (by intro z;cases z) fun tk=>fin b tk q
 ·obtain⟨u,w',rfl,rx,ry⟩:=og r;cases rx;cases ry;obtain⟨_,its,rv,⟨oc,od,odt,osl⟩,e1,e2,⟨n,e3⟩,_⟩:=I.hok tp _ hT;dsimp only at e2 e3;subst e2;subst e3;rw[zl rv] at e1;exact PySem.W.kia_tup (tO ht xc) I.kIn hp e1 e (by intro z;cases z) fun tk=>fin b tk q
end L2
variable {od:Option Addr} {nm:Str} {fl:Bool} {anc cns:List Str} {E':XK} {df:List W->M W} {epos p2:Pos} {hd:cV->DS} {D:Ends}
namespace VS
def clOf(K:Frag)(nm:Str):Addr:=match nsIn K mainGlobals nm with
 | some (some (.ref C))=>C
 | _=>0
def nG(K:Frag):cV->Value->Option Addr->Hp->Prop:=fun x cv od F=>od=none/\match x.fld with
 | none=>cv=.ref (clOf K x.nm)
 | some (f,w)=>∃(D:Addr) (n:Int),cv=.int (D:Int) (clOf K x.nm)/\w=.int n/\F D=some (.ext (NumP D f n))
abbrev Gy(K:Frag):Ga:=⟨K,clOf K,nG K⟩
theorem wq{x:cV}{cv:Value}{F:Hp}(h:nG K x cv od F):tgC cv=some (clOf K x.nm):=by
 obtain⟨_,h⟩:=h;split at h
 ·subst h;rfl
 ·obtain⟨D,n,rfl,_⟩:=h;rfl
abbrev jw:=List (Str×Bool×List Str)
def rh(K:Frag)(tb:jw):Bool:=tb.all fun p=>nsIn K mainGlobals p.1==some (some (.ref (clOf K p.1)))&&(!p.2.1||excIn K (clOf K p.1) i9 "ValueError.__new__")&&lE K (clOf K p.1)&&kitOne K (.ref (clOf K p.1)) (.type "ValueError")==some true &&
 tb.all fun q=>kitOne K (.ref (clOf K p.1)) (.ref (clOf K q.1))==some (p.2.2.contains q.1)&&mroIn K (clOf K p.1) (.ref (clOf K q.1))==some (p.2.2.contains q.1)
structure XT (K:Frag) (mg:Str->Option Value) (tb:jw):Prop where
 ok:rh K tb=true
 mg:∀p∈tb,mg p.1=some (.ref (clOf K p.1))
variable {tb:jw}
theorem BO(X:K.In h)(G:h.Ns mainGlobals mg)(ok:rh K tb=true):XT K mg tb:=by refine⟨ok,fun p hp=>?_⟩;have:=all_eq_true.mp ok p hp;simp only[and_eq_true,beq_iff_eq] at this;exact mg_of X G this.1.1.1.1
theorem XT.x(T:XT K mg tb)(h:(nm,fl,anc)∈tb):lE K (clOf K nm)=true/\kitOne K (.ref (clOf K nm)) (.type "ValueError")=some true /\
  ∀q∈tb,kitOne K (.ref (clOf K nm)) (.ref (clOf K q.1))=some (anc.contains q.1)/\mroIn K (clOf K nm) (.ref (clOf K q.1))=some (anc.contains q.1):=by
 have:=all_eq_true.mp T.ok _ h;simp only[and_eq_true,beq_iff_eq,all_eq_true] at this;exact⟨this.1.1.2,this.1.2,fun q hq=>this.2 q hq⟩
theorem XT.xc(T:XT K mg tb)(h:(nm,true,anc)∈tb):XC K (clOf K nm):=by have:=all_eq_true.mp T.ok _ h;simp only[Bool.not_true,Bool.false_or,and_eq_true,beq_iff_eq,all_eq_true] at this;exact this.1.1.1.2
def gW(tb:jw)(nm:Str):Option (List Str):=match tb.find? (fun p=>p.1==nm) with
 | some p=>some p.2.2
 | none=>none
theorem o5(h:gW tb nm=some anc):∃fl,(nm,fl,anc)∈tb:=by
 unfold gW at h;split at h
 ·rename_i p e;cases h;have h1:=mem_of_find?_eq_some e;have h2:=find?_some e;simp only[beq_iff_eq] at h2;obtain⟨a,b,c⟩:=p;dsimp only at h2;subst h2;exact⟨b,h1⟩
 ·cases h
def lC(tb:jw)(nm:Str):Option (List Str):=match tb.find? (fun p=>p.1==nm&&p.2.1) with
 | some p=>some p.2.2
 | none=>none
theorem oV(h:lC tb nm=some anc):(nm,true,anc)∈tb:=by
 unfold lC at h;split at h
 ·rename_i p e;cases h;have h1:=mem_of_find?_eq_some e;have h2:=find?_some e;simp only[and_eq_true,beq_iff_eq] at h2;obtain⟨a,b,c⟩:=p;dsimp only at h2;obtain⟨rfl,rfl⟩:=h2;exact h1
 ·cases h
def noX{α:Type}(m:M α):M α:=fun ce=>match m ce with
 | some (.ok a ce')=>some (.ok a ce')
 | _=>none
section
variable {α β:Type} {E:XK} {RP:Hp->List Addr->α->β->Prop}
theorem toT.noX{d:Sl->M α}{σ:VS.St}{H:Hp}{Q:β->Hp->Prop}(h:toT G E RP (fun sl=>VS.noX (d sl)) σ H Q):toT G E' RP d σ H Q:=by
 obtain⟨F,as,sl,ce,S,P⟩:=h;refine⟨F,as,sl,ce,S,?_⟩;unfold VS.noX at P;dsimp only at P;split at P
 ·rename_i a ce' e;rw[e];exact P
 ·exact(show False from P).elim
def eJ{α:Type}(d:Sl->M α):Sl->M α:=fun sl=>noX (d sl)
theorem w_(h:PE X e (av G E0 d)):PE X e (av G E (eJ d)):=PE.imp h fun _ _ _ z=>z.noX
theorem Dr{d:Sl->M Bool}(h:PT X e (cg G E0 d)):PT X e (cg G E (eJ d)):=PT.imp h fun _ _ _ z=>z.noX
end
def nH(sl:Sl)(i:Nat):Bool:=match sl[i]? with
 | some (some (.int n))=>decide (n.natAbs<1000)
 | _=>false
def gJ(nm:Str)(l:List Nat):DS:=fun sl ce=>if l.all (nH sl)=true then some (.ex ⟨nm,none⟩ ce) else none
section
variable {E:XK} {x:Str} {t:L2.St->Prop}
theorem nv(hx:eO X E)(hK:X.K=K)(T:XT K X.mg tb)(hm:lC tb x=some anc)(hex:X.ex=[])(hg:Gl X x)(hh:X.A.handled=none)(ha:PX X e t)(ht:∀σ:L2.St,(∀i∈l,∃n:Int,σ[i]?=some (some (.int n))/\n.natAbs<1000)->t σ)(he:starEach [e] X.env=[(false,eval e X.env)]:=by rfl)(hd:(x==("__debug__" : Str))=false:=by decide) :
  PS X (.Raise (some (.Call (.Name x np) [e] [] cpos)) none pos) (dF (Gy K) E (gJ x l)):=by
 have hmem:=oV hm;have hx':=T.xc hmem;refine PS.imp (FQ (E:=E) (C:=clOf K x) hx hex (by rw[hK];exact hx') hg (T.mg _ hmem) hh ha he hd) fun D σ H zz_=>bB zz_ fun F as sl ce S P=>?_;unfold gJ at P;split at P
 ·rename_i h;refine⟨ht σ fun i hi=>?_,P H F as (.ref (clOf K x)) none .refl S.st ⟨rfl,rfl⟩⟩;have:=all_eq_true.mp h i hi;unfold nH at this;split at this
  ·rename_i n e;obtain⟨v,e1,e2⟩:=S.slot i _ e;simp only[Rep] at e2;subst e2;exact⟨n,e1,of_decide_eq_true this⟩
  ·cases this
 ·exact(show False from P).elim
end
def pk(d:DS):DS:=fun sl ce=>match d sl ce with
 | some (.go f sl' ce')=>some (.go f sl' ce')
 | _=>none
def vz(put:Option Nat)(sl:Sl)(w:W):Sl:=match put with
 | some i=>sl.set i (some w)
 | none=>sl
def rg(put:Option Nat)(σ:VS.St)(v:V):VS.St:=match put with
 | some i=>σ.set i (some v)
 | none=>σ
def gz(c:Sl->M W)(put:Option Nat)(ok:cV->Bool)(hd:cV->DS):DS:=fun sl ce=>match c sl ce with
 | some (.ok w ce')=>some (.go .nx (vz put sl w) ce')
 | some (.ex x ce')=>if ok x=true then hd x sl ce' else none
 | none=>none
def BN(i:Nat):Option O->Option O
 | some (.go f sl ce)=>some (.go f (sl.set i none) ce)
 | _=>none
def eX(x:cV):C:=match x.fld with
 | none=>.exn x.nm
 | some (f,.int n)=>.exm x.nm f n
 | _=>.dead
def u_(i:Nat)(d:DS):cV->DS:=fun x sl ce=>BN i (d (sl.set i (some (.cel ce.length))) (ce++[eX x]))
def iB(tb:jw)(cn:Str)(x:cV):Bool:=match gW tb x.nm with
 | some anc=>anc.contains cn&&tb.any (fun p=>p.1==cn)
 | none=>false
theorem Ip(T:XT K mg tb){x:cV}(h:iB tb cn x=true):mroIn K (clOf K x.nm) (.ref (clOf K cn))=some true:=by
 unfold iB at h;split at h
 ·rename_i anc e;simp only[and_eq_true,any_eq_true,beq_iff_eq] at h;obtain⟨h1,p,hp,rfl⟩:=h;have:=((T.x (o5 e).choose_spec).2.2 p hp).2;rw[h1] at this;exact this
 ·cases h
theorem SR.unset{F:Hp}{σ:VS.St}(S:SR G F as H σ sl ce)(i:Nat):SR G F as H (σ.set i none) (sl.set i none) ce:=by
 refine⟨S.st,by rw[length_set,length_set];exact S.len,fun j u e=>?_⟩
 by_cases hj:i=j
 ·subst hj;have hi:i<sl.length:=by have:=dZ e;rwa [length_set] at this
  rw[getElem?_set_self hi] at e;cases e
 ·rw[getElem?_set_ne hj] at e;obtain⟨v,h1,h2⟩:=S.slot j u e;exact⟨v,by rw[getElem?_set_ne hj];exact h1,h2⟩
section
variable {E:XK} {x:Str} {p:Pos} {h:ExceptHandler} {ok:cV->Bool} {ds:DS}
def qQ(K:Frag)(E:XK)(X:Cx)(h:ExceptHandler)(ok:cV->Bool)(hd:cV->DS):Prop:=∃th:Value->TS,PH X h th/\∀D σ H F as sl ce (x:cV) (cv:Value),SR (Gy K) F as H σ sl ce->nG K x cv none F->ok x=true->aY (Gy K) E D F as (hd x sl ce)->th cv D σ H
theorem HH{F:Hp}(P:aY G E D F as (pk ds sl ce)):aY G E' D F as (ds sl ce):=by
 unfold pk at P;split at P
 ·rename_i e;rw[e];exact P
 ·exact(show False from P).elim
theorem BM(hK:X.K=K)(T:XT K X.mg tb)(hm:lC tb cn=some anc)(hN:X.N.Nodup)(hi:X.N[i]?=some nm)(hk:X.env.scope.names.lookup nm=some .local)(hg:Gl X cn)(hs:∀a,PSs (X.hnd a) (b0::suite) (dF (Gy K) E0 ds))(hd:(cn==("__debug__" : Str))=false:=by decide):qQ K E X (.ExceptHandler (some (.Name cn np)) (some nm) (b0::suite) hpos) (iB tb cn) (u_ i ds):=by
 have hmem:=oV hm;refine⟨_,BQ hN hi hk hg (T.mg _ hmem) (by rw[hK];exact T.xc hmem) hs hd,fun D σ H F as sl ce x cv S xr hx P=>⟨⟨_,wq xr,by rw[hK];exact Ip T hx⟩,fun a ha=>?_⟩⟩;obtain⟨S2,l2⟩:=S.st.alloc (G:=Gy K) (o:=.ext (XPhi a cv)) ha (c:=eX x) (fun as' _=>by
  obtain⟨_,xr⟩:=xr;unfold eX;split at xr
  ·rename_i e;rw[e];subst xr;exact ak
  ·rename_i e;obtain⟨D,n,rfl,rfl,hF⟩:=xr;rw[e];exact⟨D,ak,hF⟩)
 have S3:SR (Gy K) F (as++[a]) (upd H a (.ext (XPhi a cv))) σ sl (ce++[eX x]):=S.slots S2 l2;have hr:Rep F (as++[a]) (.cel ce.length) (.ref a):=by simp only[Rep];exact⟨a,rfl,by rw[<- S.st.len];simp⟩
 refine⟨F,as++[a],_,_,S3.put hr i,?_⟩;unfold u_ at P;revert P;cases ds (sl.set i (some (.cel ce.length))) (ce++[eX x]) with
 | none=>exact fun P=>P
 | some o=>cases o with
  | ex y ce'=>exact fun P=>(show False from P).elim
  | go f sl' ce' =>
   intro P σ' H' F' as' l S';have q:=P (σ'.set i none) H' F' as' (l2.trans l) (S'.unset i);cases f with
   | nx=>exact q
   | bk=>exact q
   | ct=>exact q
   | rt w=>exact q
theorem ER{G:Ga}{σ:VS.St}{put:Option Nat}{F:Hp}(hh:∀D σ H F as sl ce (x:cV) (cv:Value),SR (Gy K) F as H σ sl ce->nG K x cv none F->ok x=true->aY (Gy K) E D F as (hd x sl ce)->th cv D σ H)(S:SR (Gy K) F as H σ sl ce)(P:aY (Gy K) E D F as (gz (bc n df (eJ dr)) put ok hd sl ce)) :
  fw (Gy K) E0 dr σ H fun vs H1=>gf (Gy K) (fun E=>E) n df vs H1 (fun v H2=>D.nx (rg put σ v) H2) (fun cls _ H'=>th cls D σ H'):=by
 refine⟨F,as,sl,ce,S,?_⟩;unfold gz bc eJ noX aw at P;dsimp only at P;cases e:dr sl ce with
 | none=>rw[e] at P;exact(show False from P).elim
 | some r=>cases r with
  | ex y ce'=>rw[e] at P;exact(show False from P).elim
  | ok ws ce1 =>
   rw[e] at P;dsimp only at P;intro vs H1 F1 as1 l1 S1 rs;split at P
   ·rename_i w ce2 e2;split at e2
    ·rename_i hl;refine⟨by rw[rs.length];exact hl,F1,as1,ws,ce1,S1.st,rs,?_⟩;rw[e2];intro v H2 F2 as2 l2 S2 rv;have S3:=S1.slots S2 l2;cases put with
     | none=>exact P σ H2 F2 as2 (l1.trans l2) S3
     | some i=>exact P _ H2 F2 as2 (l1.trans l2) (S3.put rv i)
    ·cases e2
   ·rename_i x ce2 e2;split at e2
    ·rename_i hl;refine⟨by rw[rs.length];exact hl,F1,as1,ws,ce1,S1.st,rs,?_⟩;rw[e2];split at P
     ·rename_i hok;intro H2 F2 as2 cv od l2 S2 hx;obtain⟨rfl,hx⟩:=hx;exact hh D σ H2 F2 as2 sl ce2 x cv (S1.slots S2 l2) ⟨rfl,hx⟩ hok (P.le (l1.trans l2))
     ·exact(show False from P).elim
    ·cases e2
   ·exact(show False from P).elim
theorem EO{y:Str}(hst:X.stack=X.env::X.outer)(hf:X.env.frame=some X.env.locals)(hex:X.ex=[])(hN:X.N.Nodup)(hi:X.N[i]?=some y)(hx:Loc X.env.scope y)(Fk:ay X.prog X.w X.K X.mg X.base (bp X.prog X.w) k f fd ps (gf (Gy K) (fun E=>E) n df))(hr:aT k X.A)(hg:Gl X x)(hm:X.mg x=some (.ref f))(hk:keepIn X.K (.ref f)=true)(hb:Binds X.K fd ps [])(ha:PA X.nox (e::es) (fw (Gy K) E0 dr))(hh:qQ K E X h ok hd)(hdb:(x==("__debug__" : Str))=false:=by decide)(he:starEach (e::es) X.env=(false,eval e X.env)::starEach es X.env:=by rfl)(hpl:(backTo cpos (starEach es X.env)).any (·.1)=false:=by rfl)(hs:swapsWith (.Call (.Name x p) (e::es) [] cpos) (some (.Name y pos')) epos.line X.env=pure false:=by rfl)(hfn:X.fn y=true\/X.env.scope.names.lookup y=some .local:=by first|exact .inl rfl|exact .inr rfl|assumption) :
  PS X (.Try [.Assign [.Name y pos'] (.Call (.Name x p) (e::es) [] cpos) epos] [h] [] [] pos) (dF (Gy K) E (gz (bc n df (eJ dr)) (some i) ok hd)):=by
 obtain⟨th,hh1,hh2⟩:=hh;exact PS.imp (wu hst hf hex (wt hN hi hx (FP Fk hr hex hg hm hk hb ha hdb he hpl) hs hfn) hh1) fun D σ H zz_=>bB zz_ fun F as sl ce S P=>ER (G:=Gy K) hh2 S P
end
def ip(ce:Ce):W->Option Str
 | .cel k=>match ce[k]? with
  | some (.exn nm)=>some nm
  | some (.exm nm _ _)=>some nm
  | _=>none
 | _=>none
def gp(tb:jw)(ce:Ce)(w:W)(cn:Str):Option W:=(ip ce w).bind fun nm=>(gW tb nm).bind fun anc=>if tb.any (fun p=>p.1==cn)=true then some (.bl (anc.contains cn)) else none
def nV(tb:jw)(ce:Ce)(w:W):Option W:=(ip ce w).bind fun nm=>(gW tb nm).bind fun _=>some (.bl true)
def jD(tb:jw)(ce:Ce)(w:W)(cns:List Str):Option W:=(ip ce w).bind fun nm=>(gW tb nm).bind fun anc=>if (cns.all fun cn=>tb.any fun p=>p.1==cn)=true then some (.bl (cns.any anc.contains)) else none
def fD(f:Ce->W->Option W)(d:Sl->M W):Sl->M W:=fun sl=>aw (d sl) fun w=>look fun ce=>f ce w
section
variable {E:XK} {p:Pos} {F:Hp} {w:W} {v:V}
theorem tN{σ:VS.St}(S:SR (Gy K) F as H σ sl ce)(r:Rep F as w v)(h:ip ce w=some nm):∃a t,v=.ref a/\tgC t=some (clOf K nm)/\H a=some (.ext (XPhi a t)):=by
 unfold ip at h;split at h
 ·rename_i k;split at h
  ·rename_i nm' e;cases h;simp only[Rep] at r;obtain⟨a,rfl,ha⟩:=r;obtain⟨_,q⟩:=S.st.cell k a _ ha e;exact⟨a,_,rfl,rfl,q⟩
  ·rename_i nm' f n e;cases h;simp only[Rep] at r;obtain⟨a,rfl,ha⟩:=r;obtain⟨_,D,q,_⟩:=S.st.cell k a _ ha e;exact⟨a,_,rfl,rfl,q⟩
  ·cases h
 ·cases h
theorem si{f:Ce->W->Option W}{x2:Expr}{t2:TE}(hK:X.K=K)(hx:PE X e (av (Gy K) E d))(h2:PE X x2 t2)(hg:Gl X "isinstance")(hm:X.mg "isinstance" = none)(hf:∀F as H σ sl ce w w' v (Q:VK),SR (Gy K) F as H σ sl ce->Rep F as w v->f ce w=some w'->(∀H' v',(∀b o,H b=some o->H' b=some o)->SR (Gy K) F as H' σ sl ce->Rep F as w' v'->Q v' H')->t2 σ H fun u H2=>rj K [v,u] H2 Q)(he:starEach [e,x2] X.env=(false,eval e X.env)::starEach [x2] X.env:=by rfl)(he2:starEach [x2] X.env=(false,eval x2 X.env)::starEach [] X.env:=by rfl)(hpl:(backTo pos (starEach [x2] X.env)).any (·.1)=false:=by rfl) :
  PE X (.Call (.Name "isinstance" p) [e,x2] [] pos) (av (Gy K) E (fD f d)):=by
 refine PE.imp (yX (r:=rj K) (hK▸FN) hg hm boot_isinstance (nj hx (nj h2 oy he2) he) (he:=he) (hpl:=hpl)) fun σ H Q zz_=>bB zz_ fun F as sl ce S P=>?_;refine(step S P).mono fun v H1 zz_=>bf zz_ fun w F1 as1 ce1 l1 S1 r1 P1=>?_;obtain⟨w',e1,P2⟩:=jV P1;exact hf F1 as1 H1 σ sl ce1 w w' v Q S1 r1 e1 fun H' v' _ S' r'=>P2 v' H' F1 as1 .refl S' r'
theorem p8(hK:X.K=K)(T:XT K X.mg tb)(hin:tb.any (fun p=>p.1==cn)=true)(hx:PE X e (av (Gy K) E d))(hg:Gl X "isinstance")(hm:X.mg "isinstance" = none)(hgc:Gl X cn)(hd:(cn==("__debug__" : Str))=false:=by decide)(he:starEach [e,.Name cn p2] X.env=(false,eval e X.env)::starEach [.Name cn p2] X.env:=by rfl)(he2:starEach [.Name cn p2] X.env=(false,eval (.Name cn p2) X.env)::starEach [] X.env:=by rfl)(hpl:(backTo pos (starEach [.Name cn p2] X.env)).any (·.1)=false:=by rfl) :
  PE X (.Call (.Name "isinstance" p) [e,.Name cn p2] [] pos) (av (Gy K) E (fD (fun ce w=>gp tb ce w cn) d)):=by
 obtain⟨q,hq,hqn⟩:=any_eq_true.mp hin;have hqn:=beq_iff_eq.mp hqn;have hmg:X.mg cn=some (.ref (clOf K cn)):=hqn▸T.mg q hq;refine si hK hx (tm (v:=.ref (clOf K cn)) hgc hmg rfl hd) hg hm (fun F as H σ sl ce w w' v Q S r e1 k=>?_) he he2 hpl;unfold gp at e1;obtain⟨nm,h1,e1⟩:=bind_eq_some_iff.mp e1;obtain⟨anc,h2,e1⟩:=bind_eq_some_iff.mp e1;rw[if_pos hin] at e1;cases e1;obtain⟨a,tg,rfl,ht,ha⟩:=tN S r h1;obtain⟨t1,t2,t3⟩:=T.x (o5 h2).choose_spec;exact⟨a,_,tg,ht,t1,ha,.inl ⟨_,_,rfl,hqn▸(t3 q hq).1,k H _ (fun _ _ z=>z) S (by simp only[Rep])⟩⟩
theorem EN(hK:X.K=K)(T:XT K X.mg tb)(hx:PE X e (av (Gy K) E d))(hg:Gl X "isinstance")(hm:X.mg "isinstance" = none)(hgc:Gl X "ValueError")(hmv:X.mg "ValueError" = none)(he:starEach [e,.Name "ValueError" p2] X.env=(false,eval e X.env)::starEach [.Name "ValueError" p2] X.env:=by rfl)(he2:starEach [.Name "ValueError" p2] X.env=(false,eval (.Name "ValueError" p2) X.env)::starEach [] X.env:=by rfl)(hpl:(backTo pos (starEach [.Name "ValueError" p2] X.env)).any (·.1)=false:=by rfl) :
  PE X (.Call (.Name "isinstance" p) [e,.Name "ValueError" p2] [] pos) (av (Gy K) E (fD (fun ce w=>nV tb ce w) d)):=by
 refine si hK hx (ya (v:=.ty "ValueError") hgc hmv (by decide +kernel) rfl) hg hm (fun F as H σ sl ce w w' v Q S r e1 k=>?_) he he2 hpl;unfold nV at e1;obtain⟨nm,h1,e1⟩:=bind_eq_some_iff.mp e1;obtain⟨anc,h2,e1⟩:=bind_eq_some_iff.mp e1;cases e1;obtain⟨a,tg,rfl,ht,ha⟩:=tN S r h1;obtain⟨t1,t2,t3⟩:=T.x (o5 h2).choose_spec;exact⟨a,_,tg,ht,t1,ha,.inr (.inl ⟨_,_,rfl,t2,k H _ (fun _ _ z=>z) S (by simp only[Rep])⟩)⟩
def qR(X:Cx)(K:Frag)(es:List Expr)(cns:List Str):Prop:=PA X es (fun _ H Q=>Q (cns.map fun c=>V.ref (clOf K c)) H)
theorem xP:qR X K [] []:=oy
theorem lU(hm:X.mg cn=some (.ref (clOf K cn)))(hg:Gl X cn)(h:qR X K es cns)(hs:starEach (.Name cn p::es) X.env=(false,eval (.Name cn p) X.env)::starEach es X.env:=by rfl)(hd:(cn==("__debug__" : Str))=false:=by decide):qR X K (.Name cn p::es) (cn::cns) :=
 PA.imp (nj (tm (v:=.ref (clOf K cn)) hg hm rfl hd) h hs) fun σ H Q z=>z
theorem HG{C:Value}{f:Str->Bool}(h:∀c∈cns,kitOne K C (.ref (clOf K c))=some (f c)):kitAny K C (cns.map fun c=>Value.ref (clOf K c))=some (cns.any f):=by
 induction cns with
 | nil=>rfl
 | cons c r ih =>
  simp only[map_cons,kitAny,h c mem_cons_self,any_cons];cases f c with
  | true=>rfl
  | false=>simpa using ih fun c hc=>h c (mem_cons_of_mem _ hc)
theorem xO{x1}(hK:X.K=K)(T:XT K X.mg tb)(hin:(cns.all fun cn=>tb.any fun p=>p.1==cn)=true)(hl:cns.length<=sizeLine)(hx:PE X e (av (Gy K) E d))(hcs:qR X K es cns)(hg:Gl X "isinstance")(hm:X.mg "isinstance" = none)(he:starEach [e,.Tuple es x1 p2] X.env=(false,eval e X.env)::starEach [.Tuple es x1 p2] X.env:=by rfl)(he2:starEach [.Tuple es x1 p2] X.env=(false,eval (.Tuple es x1 p2) X.env)::starEach [] X.env:=by rfl)(hpl:(backTo pos (starEach [.Tuple es x1 p2] X.env)).any (·.1)=false:=by rfl) :
  PE X (.Call (.Name "isinstance" p) [e,.Tuple es x1 p2] [] pos) (av (Gy K) E (fD (fun ce w=>jD tb ce w cns) d)):=by
 refine si hK hx (xf hcs) hg hm (fun F as H σ sl ce w w' v Q S r e1 k=>?_) he he2 hpl;unfold jD at e1;obtain⟨nm,h1,e1⟩:=bind_eq_some_iff.mp e1;obtain⟨anc,h2,e1⟩:=bind_eq_some_iff.mp e1;rw[if_pos hin] at e1;cases e1;obtain⟨a,tg,rfl,ht,ha⟩:=tN S r h1;obtain⟨t1,t2,t3⟩:=T.x (o5 h2).choose_spec;refine⟨by rw[length_map];exact hl,fun tp htp=>?_⟩;have keep:∀b o,H b=some o->upd H tp (.tup (cns.map fun c=>V.ref (clOf K c))) b=some o:=fun b o q=>by rw[bt (eU q htp)];exact q
 obtain⟨S2,l2⟩:ax (Gy K) F as (upd H tp (.tup (cns.map fun c=>V.ref (clOf K c)))) ce/\True:=by refine⟨⟨fun b o q=>keep b o (S.st.sub b o q),S.st.nd,S.st.len,fun j b c q1 q2=>?_⟩,trivial⟩;obtain⟨z1,z2⟩:=S.st.cell j b c q1 q2;obtain⟨o,ho⟩:=z2.tracked;exact⟨z1,z2.le .refl (by rw[ho];exact keep b o ho)⟩
 have hS:SR (Gy K) F as (upd H tp (.tup (cns.map fun c=>V.ref (clOf K c)))) σ sl ce:=⟨S2,S.len,S.slot⟩
 have hka:∀c∈cns,kitOne K (.ref (clOf K nm)) (.ref (clOf K c))=some (anc.contains c):=fun c hc=>by
  obtain⟨q,hq,hqn⟩:=any_eq_true.mp (all_eq_true.mp hin c hc);have hqn:=beq_iff_eq.mp hqn;exact hqn▸(t3 q hq).1
 exact⟨a,_,tg,ht,t1,keep a _ ha,.inr (.inr ⟨tp,cns.map (clOf K),_,rfl,by rw[ak,map_map];rfl,by rw[map_map];exact HG (f:=anc.contains) hka,k _ _ keep hS (by simp only[Rep])⟩)⟩
end
theorem XT.at(T:XT K mg tb)(h:tb.any (fun p=>p.1==cn)=true):mg cn=some (.ref (clOf K cn)):=by obtain⟨q,hq,hqn⟩:=any_eq_true.mp h;exact beq_iff_eq.mp hqn▸T.mg q hq
theorem Dq(F:ay P w K mg base (bp P w) k f fd ps sp):ay P w K mg base CX0 k f fd ps (fun vs H Q _=>sp vs H Q E0):=by
 refine⟨fun vs H Q E h=>F.len vs H Q E0 h,fun A outer s H args us vs Q E hr he hb hv hs=>codeAny_mono (F.run A outer s H args us vs Q E0 hr he hb hv hs) fun r s' h=>?_⟩;cases r with
 | error e=>obtain⟨_,_,_,_,_,_,_,_,_,z⟩:=h;exact z
 | ok fl=>cases fl<;>exact h
theorem EM{G:Frag->Ga}{d:List W->M W}(nl:o9 K=true)(h:ay P w K mg base (bp P w) k f fd ps (gf (G K) (fun E=>E) 1 d)):ay P w K mg base CX0 k f fd ps (spLaw G d K):=(Dq h).imp fun _ _ _ _ q=>q nl
def Xt(T:cV->Ce->Prop):O->Prop
 | .ex x ce=>T x ce
 | _=>False
section
variable {a b:DS} {x:cV}
theorem HF(h:l.all (nH sl)=true)(q:Q (.ex ⟨nm,none⟩ ce)):Run (gJ nm l) sl ce Q:=⟨_,by unfold gJ;rw[if_pos h],q⟩
theorem sQ(h:Run a sl ce (Xt fun x c=>Q (.ex x c))):Run (aq a b) sl ce Q:=by
 obtain⟨o,e,q⟩:=h;cases o with
 | ex x c=>exact⟨_,by simp only[aq,e],q⟩
 | go f sl' c=>exact(show False from q).elim
theorem um(h:l.all (nH sl)=true)(q:Q (.ex ⟨nm,none⟩ ce)):Run (aq (gJ nm l) b) sl ce Q:=sQ (HF h q)
variable {f:List W->M W} {e:Sl->M W}
theorem FL(h:ra sl ce=some (.ok ws c1))(hn:ws.length=n)(hf:f ws c1=some (.ex x ce)):bc n f ra sl ce=some (.ex x ce):=by simp only[bc,aw,h,hn,if_true,hf]
theorem k7{α:Type}{d:Sl->M α}{v:α}(h:d sl ce=some (.ok v c1)):eJ d sl ce=some (.ok v c1):=by simp only[eJ,noX,h]
theorem oU(sl:Sl)(e:ws.map some++List.replicate (n-ws.length) none=sl)(h:Run body sl ce (Xt fun y c'=>y=x/\∃t,c'=ce++t)):bJ fin n body ws ce=some (.ex x ce):=by
 subst e;obtain⟨o,e,q⟩:=h;cases o with
 | go f sl' c=>exact(show False from q).elim
 | ex y c =>
  obtain⟨rfl,t,rfl⟩:=q;have hc:gX ce (ce++t):=⟨by simp,fun k c hk e=>.inl (by rw[getElem?_append_left hk] at e;exact e)⟩
  simp only[bJ,e];rw[if_pos hc];simp
theorem yK{c:Sl->M W}{put:Option Nat}{ok:cV->Bool}{w:W}(h:c sl ce=some (.ok w c1))(q:Run b (vz put sl w) c1 Q):Run (aq (gz c put ok hd) b) sl ce Q:=iV (by simp only[gz,h]) q
theorem FK{c:Sl->M W}{put:Option Nat}{ok:cV->Bool}(h:c sl ce=some (.ex x c1))(hok:ok x=true)(e:hd x sl c1=some (.go .nx sl' c2))(q:Run b sl' c2 Q):Run (aq (gz c put ok hd) b) sl ce Q :=
 iV (by simp only[gz,h];rw[if_pos hok];exact e) q
variable {α:Type} {en:α->W} {src:Src} {g:DG} {zs:List α}
end
end VS
namespace L2
end L2
namespace VS
section
variable {E:XK}
end
end VS
namespace L2
def vt:V->List V->Hp->VK->Prop:=fun x vs H Q=>∃(l:Addr) (ns:List Int) (i:Int),x=.ref l/\vs=[.int i]/\H l=some (.lst (ns.map V.int))/\i∈ns/\Q .non (upd H l (.lst ((ns.erase i).map V.int)))
theorem Dp:vd X "list.remove" vt:=by
 intro pins s σ H x vs v us Q I rx rv h;obtain⟨l,ns,i,rfl,rfl,hH,hi,q⟩:=h;cases rx;obtain⟨u,rfl,ru⟩:=iR rv;obtain⟨t,rfl⟩:=ru;obtain⟨z,its,n,r,hl,e⟩:=I.lstM hH;have hI:IntsAre its ns:=zU r;have hlen:=hI.length;have hj:ns.idxOf i<ns.length:=idxOf_lt_length_iff.mpr hi;have hsz:its.toArray.size<=sizeLine:=by rw[size_toArray];omega
 refine call_meets PySem.F.slot_list_remove ⟨_,e,rfl⟩ PySem.F.entry_list_remove (PySem.F.args_list_remove_2 _ _)
  (MeetsSeq.list_remove l its.toArray n (.int i t) (isInt i) (fun y hy=>eq_isInt i t hI y (by simpa using hy)) (ns.idxOf i) (by simpa[hlen] using hj) ?_ ?_ hsz) ⟨e,?_⟩
 ·show isInt i its[ns.idxOf i]=true;rw[isInt_at i hI _ (by omega) hj];simpa using getElem_idxOf hj
 ·intro m hm hlt;show isInt i its[m]=false;rw[isInt_at i hI m (by simpa using hm) (by omega)];exact ne_of_lt_idxOf hlt _
 ·refine⟨.non,_,I.lset (its':=its.eraseIdx (ns.idxOf i)) hH e ?_ ?_ ?_,rfl,q⟩
  ·apply toList_inj.mp;simp[toList_eraseIdxIfInBounds]
  ·rw[erase_eq_eraseIdx_of_idxOf rfl,eraseIdx_eq_take_drop_succ,eraseIdx_eq_take_drop_succ,map_append,map_take,map_drop];exact(r.take _).append (r.drop _)
  ·rw[length_map] at z ⊢;exact le_trans (length_erase_le ..) z
end L2
namespace VS
open Classical in
def nU:W->List W->M W:=fun w ws ce=>match jG ce w,ws with
 | some (k,xs),[.int i]=>match kf xs with
  | some ns=>if i∈ns then some (.ok .non (ce.set k (.lst ((ns.erase i).map W.int)))) else none
  | none=>none
 | _,_=>none
section
variable {E:XK}
theorem BL:Mt G E vt nU:=by
 intro F as H σ sl ce w v ws vs Q S rw' rs P;revert P;unfold nU;split
 ·rename_i k xs i hc;intro P;split at P
  ·rename_i ns hn;split at P
   ·rename_i hi;have hx:=tX hn;subst hx;obtain⟨a,us,rfl,ha,hH,r⟩:=oS S.st rw' hc;obtain⟨v1,rfl,rv⟩:=iE rs;simp only[Rep] at rv;subst rv;have:=r.of_ints;subst this;refine⟨a,ns,i,rfl,rfl,hH,hi,P .non _ F as .refl (S.slots (S.st.write (o:=.lst ((ns.erase i).map V.int)) (c:=.lst ((ns.erase i).map W.int)) ha ⟨_,ak,ah.ints _⟩) .refl) (by simp only[Rep])⟩
   ·exact(show False from P).elim
  ·exact(show False from P).elim
 ·exact fun P=>(show False from P).elim
theorem zk:∀(l:List Nat) (p:Nat),(cJ l).erase (p:Int)=cJ (l.erase p)
 | [],_=>rfl
 | a::l,p=>by
  unfold cJ;rw[map_cons,erase_cons,erase_cons]
  by_cases h:a=p
  ·subst h;simp
  ·have h':¬((a:Int)=(p:Int)):=by omega
   have h1:((a:Int)==(p:Int))=false:=by simpa using h'
   have h2:(a==p)=false:=by simpa using h
   have ih:=zk l p;unfold cJ at ih;rw[h1,h2];simp only[false_eq_true,if_false,map_cons,ih]
theorem Dn(g:ce[k]?=some (.lst (l.map nW)))(hp:p∈l):nU (.cel k) [nW p] ce=some (.ok .non (ce.set k (.lst ((l.erase p).map nW)))):=by have hi:(p:Int)∈cJ l:=mem_map.mpr ⟨p,hp,rfl⟩;simp only[nU,k_ g,nW,qu];rw[r9,if_pos hi,zk]
end
end VS
namespace HT
end HT
variable {ts:TO} {te:TE}
namespace L2
section
variable {st:Expr}
end
end L2
namespace VS
section
variable {E:XK} {a:Expr}
end
theorem us1(h:∀a,bindArgs fd { pos:=[a] }=pure (ps.zip [a])):∀us:List Value,us.length=1->bindArgs fd { pos:=us }=pure (ps.zip us)
 | [a],_=>h a
theorem us2(h:∀a b,bindArgs fd { pos:=[a,b] }=pure (ps.zip [a,b])):∀us:List Value,us.length=2->bindArgs fd { pos:=us }=pure (ps.zip us)
 | [a,b],_=>h a b
theorem us3(h:∀a b c,bindArgs fd { pos:=[a,b,c] }=pure (ps.zip [a,b,c])):∀us:List Value,us.length=3->bindArgs fd { pos:=us }=pure (ps.zip us)
 | [a,b,c],_=>h a b c
theorem us4(h:∀a b c d,bindArgs fd { pos:=[a,b,c,d] }=pure (ps.zip [a,b,c,d])):∀us:List Value,us.length=4->bindArgs fd { pos:=us }=pure (ps.zip us)
 | [a,b,c,d],_=>h a b c d
theorem us5(h:∀a b c d e,bindArgs fd { pos:=[a,b,c,d,e] }=pure (ps.zip [a,b,c,d,e])):∀us:List Value,us.length=5->bindArgs fd { pos:=us }=pure (ps.zip us)
 | [a,b,c,d,e],_=>h a b c d e
section
variable {κ:Type} [DecidableEq κ] {F:Hp} {kvs:List (κ×W)} {ps:List (κ×V)}
end
section
variable {F:Hp} {w:W} {v:V}
end
section
variable {E:XK} {a b c:Expr} {dc:Sl->M W}
end
section
variable {a b o i:Sl->M W} {x y w:W}
end
end VS
namespace L2
open PySem.MeetsSeq
open PySem.AutoSeq1 (wpAny_loadPart')
end L2
namespace VS
section
variable {E:XK}
end
end VS
namespace L2
section
variable {st:Expr}
end
end L2
namespace VS
section
variable {E:XK} {a:Expr}
end
end VS
namespace L2
def Ki(xs:Array Nat):Prop:=xs.toList.Pairwise (·<·)
structure Kh (t:SetTable):Prop where
 dum:t.dummies=#[]
 ris:t.plain=true->Ki t.place
end L2
variable {t:SetTable} {ds:List Int} {I:Addr} {ep:Nat} {pos2:Pos}
namespace L2
def iv:Value->Int
 | .int k _=>k
 | _=>0
section
variable {led:Bool}
def Kj(prog:Program)(w:World)(h:Heap)(a:Addr)(ds:List Int)(led:Bool):Prop :=
 ∃o es ep t,h.get? a=some o/\o.ExactSet/\o.data=.set es ep t/\ElemsOf (intKind prog w) es.toList/\es.size<scanBound/\t.fits es.size=true/\Kh t/\t.led=led/\(∀e∈es.toList,∃k tk,e.2=.int k tk)/\(es.toList.map fun e=>iv e.2).Perm ds
end
section
variable {R:Result->Shared->Prop} {fp wr:List Addr} {G:Array GenState->Array GenState->Prop} {P:Nat->Value->Prop} {St:Nat->Shared->Prop}
end
section
variable {o:Obj} {es:Array (Int×Value)}
end
section
variable {T:Addr} {o:Obj} {es:Array (Int×Value)} {sl sl':Nat} {x:Value} {Q:Option Value->Shared->Prop}
end
section
variable {T:Addr} {o:Obj} {es:Array (Int×Value)}
end
section
variable {t:TA} {p:Pos}
end
end L2
namespace VS
section
variable {E:XK} {p:Pos}
end
end VS
namespace L2
open PySem.AutoSeq1 (wpAny_loadPart')
end L2
namespace L2
open PySem.MeetsSeq PySem.MeetsSeq3
open PySem.AutoSeq1 (wpAny_loadPart')
end L2
namespace L2
end L2
namespace VS
section
variable {E:XK}
end
section
variable {E:XK} {a b c:Expr} {dc:Sl->M W}
end
section
variable {E:XK}
end
end VS
variable {p1 tpos:Pos}
namespace L2
theorem Ax{M:Model}(X:K.In h)(xs:XC K S):PySem.W.Looks M h (isExcClass (.ref S)) true:=by
 obtain⟨bm,N,nm,qn,bs,hdct,sn,sub,ab,col,dd,k0,k1,k2,k3,k5,mN,hC,hN,hni,T⟩:=xs.obj X;have hcB:(Value.ref S::bm).contains (.type "BaseException")=true:=by rw[contains_cons,T.hasType excBase_ValueError.hasBase,Bool.or_true]
 intro A Q E s k q;obtain⟨hh,g,d,tk,os⟩:=s;have k:∀b o,h.get? b=some o->hh.get? b=some o:=k;have hC:=k _ _ hC;have f:=tc_notTuple;unfold isExcClass
 repeat (first|with_reducible refine wpAny_loadPart_at hC ?_|(with_reducible refine wpAny_isSubtype_exc hC ?_;rw[hcB])|wp_step)
 exact q
open PySem.W in
theorem JQ{M:Model}{Q:Bool->Shared->Prop}{C S1 S2 tp:Addr}{b1 b2:Bool}(X:K.In s.heap)(he:s.heap.get? a=some oe)(hcls:oe.cls=.ref C)(x1:XC K S1)(x2:XC K S2)(hp:s.heap.get? tp=some { cls:=.type "tuple",data:=.seq [Value.ref S1,.ref S2].toArray })(m1:mroIn K C (.ref S1)=some b1)(m2:mroIn K C (.ref S2)=some b2)(h:Q (b1||b2) s):wpAny M A (excMatches (.ref a) (.ref tp)) Q E s:=by
 have e1:=Ax (M:=M) X x1;have e2:=Ax (M:=M) X x2;have S1':=PySem.W.looks_mroIn (M:=M) X m1;have S2':=PySem.W.looks_mroIn (M:=M) X m2;have LT0:Looks M s.heap (isInstance (.ref tp) (.type "tuple")) true:=((Looks.ld hp).andThen .now).andThen (Looks.of_pure isSubtype_tuple_tuple);have LT:Looks M s.heap (typeOf (.ref a)) (.ref C):=by rw[<- hcls];exact(Looks.ld he).andThen .now
 obtain⟨hh,g,d,tk,os⟩:=s;unfold excMatches;refine wpAny_bind (LT0.at ?_);dsimp only;rw[if_pos rfl]
 first
  | refine wpAny_bind (wpAny_seqItems hp rfl ?_)
  | refine wpAny_bind (wpAny_bind (wpAny_seqItems hp rfl (wpAny_pure ?_)))
 dsimp only[getD_some,Option.getD];cases b1<;>cases b2<;>((repeat (first|simp only[forIn_cons,forIn_nil,Bool.not_true,false_eq_true,if_false,if_true]|lk));exact h)
theorem Fl.push{cls:Value}{o:Obj}{x:HO}(f:Fl N a cls H h):Fl N a cls (upd H h.objs.size x) (h.push o):=by obtain⟨oe,vs,a0,n,h1,h2,h3,h4,h5,h6⟩:=f;refine⟨oe,vs,a0,n,by rw[bt (ne_of_lt (Heap.lt_size h2))];exact h1,Heap.get?_push_of_some _ h2,h3,h4,h5,h6.imp id ?_⟩;rintro⟨T,oT,ts,e1,e2,e3,e4,e5,e6⟩;exact⟨T,oT,ts,e1,e2,by rw[bt (ne_of_lt (Heap.lt_size e5))];exact e3,e4,Heap.get?_push_of_some _ e5,e6⟩
theorem Dm{S1 S2:Addr}{c1 c2:Str}{x1}{ts:TS}(g1:Gl X c1)(m1:X.mg c1=some (.ref S1))(s1:XC X.K S1)(g2:Gl X c2)(m2:X.mg c2=some (.ref S2))(s2:XC X.K S2)(hs:∀a,PSs (X.hnd a) (b0::suite) ts)(d1:(c1==("__debug__" : Str))=false:=by decide)(d2:(c2==("__debug__" : Str))=false:=by decide)(st1:starEach [.Name c1 p1,.Name c2 p2] X.env=(false,eval (.Name c1 p1) X.env)::starEach [.Name c2 p2] X.env:=by rfl)(st2:starEach [.Name c2 p2] X.env=(false,eval (.Name c2 p2) X.env)::starEach [] X.env:=by rfl) :
  PH X (.ExceptHandler (some (.Tuple [.Name c1 p1,.Name c2 p2] x1 tpos)) none (b0::suite) hpos) (fun cls D σ H=>(∃C q1 q2,VS.tgC cls=some C/\mroIn X.K C (.ref S1)=some q1/\mroIn X.K C (.ref S2)=some q2/\(q1||q2)=true)/\∀t,H t=none->ts D σ (upd H t (.tup [V.ref S1,V.ref S2]))):=by
 intro pins s σ H D a cls I fl ⟨⟨C,q1,q2,hC,r1,r2,hq12⟩,hq⟩;refine wpAny_handleBy_cons (codeAny_handlers_test (wpAny_Tuple_spliced ?_)) (by intro q;cases q);show wpAny _ _ (spliced (backTo tpos (starEach [.Name c1 p1,.Name c2 p2] (X.hnd a).env))) _ _ s;have st1:starEach [.Name c1 p1,.Name c2 p2] (X.hnd a).env=(false,eval (.Name c1 p1) (X.hnd a).env)::starEach [.Name c2 p2] (X.hnd a).env:=st1;have st2:starEach [.Name c2 p2] (X.hnd a).env=(false,eval (.Name c2 p2) (X.hnd a).env)::starEach [] (X.hnd a).env:=st2;rw[st1];refine Calls.spliced_cons (jY (X:=X.hnd a) (I.hnd a) g1 m1 ?_ d1);rw[st2];refine Calls.spliced_cons (jY (X:=X.hnd a) (I.hnd a) g2 m2 ?_ d2);refine Calls.spliced_nil ⟨(show 2<=sizeLine by decide),?_⟩;obtain⟨oe,vs,a0,_,_,he,hc,_⟩:=id fl;have I':Inv X pins σ (upd H s.heap.objs.size (.tup [V.ref S1,V.ref S2])) { s with heap:=s.heap.push { cls:=.type "tuple",data:=.seq [Value.ref S1,.ref S2].toArray } } :=
  I.laid (t':=s.toks) (fun b u e=>Heap.get?_push_of_some _ e) (le_refl _) ⟨(show 2<=sizeLine by decide),[.ref S1,.ref S2],.cons rfl (.cons rfl .nil),⟨_,Heap.get?_push_size _ rfl,rfl,⟨_,rfl⟩,rfl⟩⟩
 refine JQ I'.kIn (Heap.get?_push_of_some _ he) (hc.cls hC) s1 s2 (Heap.get?_push_size _ rfl) r1 r2 ?_;rw[hq12];have hf:H s.heap.objs.size=none:=I.hok.fresh (le_refl _);exact codeAny_handlers_suite (AL (fl.push (x:=.tup [V.ref S1,V.ref S2])) (wpAny_mono (hs a pins _ σ _ D (I'.hnd a) (hq _ hf)) (fun f s2 z=>z.unhnd I.ok) fun _ _ z=>z.elim))
end L2
variable {tb:jw}
namespace VS
section
variable {E:XK} {c1 c2:Str} {ds:DS}
theorem zN(T:XT K mg tb){x:cV}(h:gW tb x.nm=some anc){an:List Str}(hc:lC tb cn=some an):mroIn K (clOf K x.nm) (.ref (clOf K cn))=some (anc.contains cn) :=
 ((T.x (o5 h).choose_spec).2.2 _ (oV hc)).2
theorem Dl{a1 a2:List Str}{x1}(hK:X.K=K)(T:XT K X.mg tb)(h1:lC tb c1=some a1)(h2:lC tb c2=some a2)(g1:Gl X c1)(g2:Gl X c2)(hs:∀a,PSs (X.hnd a) (b0::suite) (dF (Gy K) E0 ds))(d1:(c1==("__debug__" : Str))=false:=by decide)(d2:(c2==("__debug__" : Str))=false:=by decide)(st1:starEach [.Name c1 p1,.Name c2 p2] X.env=(false,eval (.Name c1 p1) X.env)::starEach [.Name c2 p2] X.env:=by rfl)(st2:starEach [.Name c2 p2] X.env=(false,eval (.Name c2 p2) X.env)::starEach [] X.env:=by rfl) :
  qQ K E X (.ExceptHandler (some (.Tuple [.Name c1 p1,.Name c2 p2] x1 tpos)) none (b0::suite) hpos) (fun x=>iB tb c1 x||iB tb c2 x) (fun _=>pk ds):=by
 have e1:=oV h1;have e2:=oV h2;refine⟨_,Dm g1 (T.mg _ e1) (by rw[hK];exact T.xc e1) g2 (T.mg _ e2) (by rw[hK];exact T.xc e2) hs d1 d2 st1 st2,fun D σ H F as sl ce x cv S xr hx P=>?_⟩;obtain⟨anc,ha⟩:∃anc,gW tb x.nm=some anc:=by
  cases q:gW tb x.nm with
  | some anc=>exact⟨anc,rfl⟩
  | none=>simp only[iB,q] at hx;cases hx
 refine⟨⟨_,anc.contains c1,anc.contains c2,wq xr,by rw[hK];exact zN T ha h1,by rw[hK];exact zN T ha h2,by simp only[iB,ha,or_eq_true,and_eq_true] at hx;rw[or_eq_true];exact hx.imp And.left And.left⟩,fun t ht=>?_⟩;have keep:∀b o,H b=some o->upd H t (.tup [V.ref (clOf K c1),V.ref (clOf K c2)]) b=some o:=fun b o q=>by rw[bt (eU q ht)];exact q
 have S2:ax (Gy K) F as (upd H t (.tup [V.ref (clOf K c1),V.ref (clOf K c2)])) ce:=by refine⟨fun b o q=>keep b o (S.st.sub b o q),S.st.nd,S.st.len,fun j b c q1 q2=>?_⟩;obtain⟨z1,z2⟩:=S.st.cell j b c q1 q2;obtain⟨o,ho⟩:=z2.tracked;exact⟨z1,z2.le .refl (by rw[ho];exact keep b o ho)⟩
 exact⟨F,as,sl,ce,⟨S2,S.len,S.slot⟩,HH P⟩
end
end VS
variable {ta:TE} {us:List Value} {pl:Sem Bool}
namespace L2
section
variable {C:Addr} {x m:Str} {p:Pos} {o:Expr} {t:TA}
theorem EL{σ:St}{Q:VK}{E:XK}{vs:List V}(F:ay X.prog X.w X.K X.mg X.base (bp X.prog X.w) k f fd ps sp)(hr:aT k X.A)(hex:X.ex=[])(hb:Binds X.K fd ps [])(I:Inv X pins σ H s)(r:Vals vs us)(q:sp vs H Q E):wpAny (model X.prog X.w) X.A (call (.ref f) us) (EP X pins σ Q) (XP X pins σ E) s:=by
 have hl:(us++[]).length=ps.length:=by rw[append_nil,<- r.length];exact F.len _ _ _ _ q
 have hb':=hb s us I.kIn hl;rw[append_nil] at hb';refine wpAny_call (codeAny_mono (F.run X.A X.stack s H ⟨us,[]⟩ us vs Q E hr I.env0 hb' r q) fun r s' hq=>?_);cases r with
 | error e =>
  obtain⟨a,cls,H',rfl,ho,hgn,u,hok,fl,z⟩:=hq;exact⟨a,cls,H',rfl,I.call' ho u hok hgn (fun b z=>absurd z (by simp)),fl.mono fun b hb=>lF hex I hb,z⟩
 | ok fl =>
  cases fl with
  | ret u=>exact I.after hq
  | next=>exact False.elim hq
  | brk=>exact False.elim hq
  | cont=>exact False.elim hq
theorem FJ(he:PE X.nox o ta)(c:Cls X.K C)(hm:Meth X.K C m f)(F:ay X.prog X.w X.K X.mg X.base (bp X.prog X.w) k f fd ps sp)(hr:aT k X.A)(hex:X.ex=[])(hb:Binds X.K fd ps [])(ha:PA X.nox (e::es) t)(hst:starEach (e::es) X.env=(false,eval e X.env)::starEach es X.env:=by rfl)(hpl:(backTo pos (starEach es X.env)).any (·.1)=false:=by rfl)(ht:eval (.Call (.Attribute o m apos) (e::es) [] pos) X.env=(do
   let ov <- eval o X.env
   standAt apos.atName
   let (f,first) <- holding [ov] (getMethod ov m pl)
   callWith pos f first (backTo pos (starEach (e::es) X.env)) (backToKw pos (keywordEach [] X.env))):=by rfl) :
  vc X (.Call (.Attribute o m apos) (e::es) [] pos) (fun E=>fun σ H Q=>ta σ H fun x H1=>∃a dx fs,x=.ref a/\H1 a=some (.ins C dx fs)/\fs.lookup m=none/\t σ H1 fun vs H2=>sp (x::vs) H2 Q E):=by
 intro pins s σ H Q E I h;refine methodCall_KW (pl:=pl) (wpAny_mono (he pins s σ H _ (I.wish _) h) (fun u s1 ⟨x,H1,I1,rx,a,dx,fs,ex,ea,l,q⟩=>?_) fun _ _ z=>z.elim) ht;subst ex;obtain rfl:u=Value.ref a:=rx;have I1:=I1.unwish;refine uo I1 ea c hm l ?_;refine callWith_K (first:=[.ref a]) (h₀:=X.base) I.ok.mod.kin hm.kp (wpAny_mono (ha pos pins s1 σ H1 _ (I1.wish _) q) (fun us s2 ⟨vs,H2,I2,r,q2⟩=>⟨I2.unwish.kIn,?_⟩) fun _ _ z=>z.elim) hst hpl;exact EL (us:=.ref a::us) (vs:=.ref a::vs) F hr hex hb I2.unwish (.cons rfl r) q2
end
end L2
variable {value:Expr}
namespace VS
def putA(f:Str)(v:W):List (Str×W)->List (Str×W)
 | []=>[(f,v)]
 | (g,x)::r=>if g=f then (g,v)::r else (g,x)::putA f v r
section
variable {F:Hp} {fs:List (Str×W)} {ps:List (Str×V)}
theorem aA.look{w:W}{f:Str}(r:aA F as fs ps)(e:fs.lookup f=some w):∃v,ps.lookup f=some v/\Rep F as w v:=by
 induction r with
 | nil=>cases e
 | @cons p q l1 l2 h t ih =>
  obtain⟨a,x⟩:=p;obtain⟨b,y⟩:=q;obtain⟨e1,rv⟩:=h;dsimp only at e1 rv;subst e1;rw[lookup_cons] at e ⊢;split at e
  ·rename_i h;cases e;exact⟨y,rfl,rv⟩
  ·rename_i h;exact ih e
theorem aA.lookN{f:Str}(r:aA F as fs ps)(e:fs.lookup f=none):ps.lookup f=none:=by
 induction r with
 | nil=>rfl
 | @cons p q l1 l2 h t ih =>
  obtain⟨a,x⟩:=p;obtain⟨b,y⟩:=q;obtain⟨e1,rv⟩:=h;dsimp only at e1 rv;subst e1;rw[lookup_cons] at e ⊢;split at e
  ·cases e
  ·exact ih e
theorem aA.putA{w:W}{v:V}(r:aA F as fs ps)(f:Str)(rv:Rep F as w v):aA F as (VS.putA f w fs) (fH f v ps):=by
 induction r with
 | nil=>exact .cons ⟨rfl,rv⟩ .nil
 | @cons p q l1 l2 h t ih =>
  obtain⟨a,x⟩:=p;obtain⟨b,y⟩:=q;obtain⟨e1,rx⟩:=h;dsimp only at e1 rx;subst e1;simp only[VS.putA,fH];split
  ·exact .cons ⟨rfl,rv⟩ t
  ·exact .cons ⟨rfl,rx⟩ ih
end
def ke(ce:Ce)(c:Str):W->Option (Nat×List (Str×W))
 | .cel k=>match ce[k]? with
  | some (.ins c' fs)=>if c'=c then some (k,fs) else none
  | _=>none
 | _=>none
section
variable {E:XK} {F:Hp} {σ:VS.St} {w:W} {v:V} {c:Str} {fs:List (Str×W)}
theorem tM(S:ax G F as H ce)(r:Rep F as w v)(h:ke ce c w=some (k,fs)):∃a dx ps,v=.ref a/\as[k]?=some a/\H a=some (.ins (G.cl c) dx ps)/\aA F as fs ps:=by
 unfold ke at h;split at h
 ·rename_i j;split at h
  ·rename_i c' fs' e;split at h
   ·rename_i hc;cases h;subst hc;simp only[Rep] at r;obtain⟨a,rfl,ha⟩:=r;obtain⟨_,dx,ps,h1,h2⟩:=S.cell _ a _ ha e;exact⟨a,dx,ps,rfl,ha,h1,h2⟩
   ·cases h
  ·cases h
 ·cases h
end
def cW(c f:Str)(d:Sl->M W):Sl->M W:=fun sl=>aw (d sl) fun x=>look fun ce=>match ke ce c x with
 | some p=>p.2.lookup f
 | none=>none
def jd(c f:Str)(d v:Sl->M W):DS:=fun sl ce=>cL (v sl ce) fun w ce1=>cL (d sl ce1) fun x ce2=>match ke ce2 c x with
 | some (k,fs)=>if fs.length<1000 then some (.go .nx sl (ce2.set k (.ins c (putA f w fs)))) else none
 | none=>none
def cC(c m:Str)(n:Nat)(df:List W->M W)(d:Sl->M W)(dr:Sl->M (List W)):Sl->M W:=fun sl=>aw (d sl) fun x=>aw (look fun ce=>match ke ce c x with
 | some p=>if p.2.lookup m=none then some () else none
 | none=>none) fun _=>aw (dr sl) fun ws=>if ws.length+1=n then df (x::ws) else kn
def rR(k:Nat):Option (R W)->Option (R W)
 | some (.ok .non ce')=>some (.ok (.cel k) ce')
 | some (.ex x ce')=>some (.ex x ce')
 | _=>none
def pC(c:Str)(n:Nat)(df:List W->M W)(dr:Sl->M (List W)):Sl->M W:=fun sl=>aw (dr sl) fun ws ce=>if ws.length+1=n then rR ce.length (df (.cel ce.length::ws) (ce++[.ins c []])) else none
section
variable {E E1:XK} {x c m:Str} {p:Pos} {o:Expr} {dv:Sl->M W}
theorem fg(hc:L2.Cls X.K (G.cl c))(hn:L2.NoAttr X.K (G.cl c) m)(he:PE X e (av G E d))(hb:attributeBase e m X.env (eval e X.env)=eval e X.env:=by rfl):PE X (.Attribute e m pos) (av G E (cW c m d)):=by
 refine PE.imp (DP he hb) fun σ H Q zz_=>bB zz_ fun F as sl ce S P=>(step S P).mono fun x H1 zz_=>bf zz_ fun wx F1 as1 ce1 l1 S1 rx P1=>?_;obtain⟨w,e1,P2⟩:=jV P1;split at e1
 ·rename_i q hq;obtain⟨j,fs⟩:=q;obtain⟨a,dx,ps,rfl,ha,hH,rk⟩:=tM S1.st rx hq;obtain⟨v,e4,rv⟩:=rk.look e1;exact⟨a,_,dx,ps,v,rfl,hH,hc,hn,e4,P2.done S1 rv⟩
 ·cases e1
theorem mM(hc:L2.Cls X.K (G.cl c))(hn:L2.NoAttr X.K (G.cl c) m)(ho:PE X o (av G E d))(hv:PE X value (av G E dv))(hs:swapsWith value (some (.Attribute o m pos')) pos.line X.env=pure false:=by rfl) :
  PS X (.Assign [.Attribute o m pos'] value pos) (dF G E (jd c m d dv)):=by
 refine PS.imp (DO ho hv hs) fun D σ H zz_=>bB zz_ fun F as sl ce S P=>(ir S P).mono fun y H1 zz_=>bf zz_ fun wy F1 as1 ce1 l1 S1 ry P1=>(ir S1 P1).mono fun x H2 zz_=>bf zz_ fun wx F2 as2 ce2 l2 S2 rx P2=>?_;split at P2
 ·rename_i j fs hq;split at P2
  ·rename_i hl;obtain⟨a,dx,ps,rfl,ha,hH,rk⟩:=tM S2.st rx hq;refine⟨a,_,dx,ps,rfl,hH,hc,hn,by rw[<- Paired.length rk];exact hl,?_⟩;exact P2 _ _ _ _ .refl (S2.slots (S2.st.write (o:=.ins (G.cl c) dx (fH m y ps)) (c:=.ins c (putA m wy fs)) ha ⟨_,_,ak,rk.putA m (ry.le l2)⟩) .refl)
  ·exact(show False from P2).elim
 ·exact(show False from P2).elim
theorem tL{F:Hp}{σ:VS.St}{Q:VK}(S:SR G F as H σ sl ce)(P:aJ G E Rep F as σ sl Q (cC c m n df d dr sl ce)) :
  av G E d σ H fun x H1=>∃a dx fs,x=.ref a/\H1 a=some (.ins (G.cl c) dx fs)/\fs.lookup m=none/\fw G E dr σ H1 fun vs H2=>vs.length+1=n/\∃F2 as2 ws ce2,SR G F2 as2 H2 σ sl ce2/\ah F2 as2 ws (x::vs)/\aJ G E Rep F2 as2 σ sl Q (df ws ce2):=by
 refine(step S P).mono fun x H1 zz_=>bf zz_ fun wx F1 as1 ce1 l1 S1 rx P1=>?_;unfold aw at P1;unfold look at P1;dsimp only at P1;split at P1
 ·rename_i u ce' e1;cases hq:ke ce1 c wx with
  | none=>rw[hq] at e1;cases e1
  | some q =>
   obtain⟨j,fs⟩:=q;rw[hq] at e1;dsimp only at e1;split at e1
   ·rename_i hl;cases e1;obtain⟨a,dx,ps,rfl,ha,hH,rk⟩:=tM S1.st rx hq;refine⟨a,dx,ps,rfl,hH,rk.lookN hl,?_⟩;refine(step (RP:=ah) S1 P1).mono fun vs H2 zz_=>bf zz_ fun ws F2 as2 ce2 l2 S2 rs P2=>?_;split at P2
    ·rename_i hn;exact⟨by rw[rs.length];exact hn,F2,as2,wx::ws,ce2,S2,.cons (rx.le l2) rs,P2⟩
    ·exact(show False from P2).elim
   ·cases e1
 ·rename_i e1;cases hq:ke ce1 c wx with
  | none=>rw[hq] at e1;cases e1
  | some q=>rw[hq] at e1;dsimp only at e1;split at e1<;>cases e1
 ·exact P1.elim
theorem nr(hc:L2.Cls X.K (G.cl c))(hm:L2.Meth X.K (G.cl c) m f)(Fk:ay X.prog X.w X.K X.mg X.base CX k f fd ps (gf G fe n df))(hr:aT k X.A)(hb:Binds X.K fd ps [])(hx:gM CX X E1)(he:PE X o (av G E d))(ha:PA X (e::es) (fw G E dr))(hfe:fe E1=E:=by rfl)(hst:starEach (e::es) X.env=(false,eval e X.env)::starEach es X.env:=by rfl)(hpl:(backTo pos (starEach es X.env)).any (·.1)=false:=by rfl)(ht:eval (.Call (.Attribute o m apos) (e::es) [] pos) X.env=(do
   let ov <- eval o X.env
   standAt apos.atName
   let (f,first) <- holding [ov] (getMethod ov m pl)
   callWith pos f first (backTo pos (starEach (e::es) X.env)) (backToKw pos (keywordEach [] X.env))):=by rfl) :
  PE X (.Call (.Attribute o m apos) (e::es) [] pos) (av G E (cC c m n df d dr)):=by
 refine PE.imp (Fe he hc hm Fk hr hb .nil hx ha hst hpl ht) fun σ H Q zz_=>bB zz_ fun F as sl ce S P=>(tL S P).mono fun x H1 h=>?_;obtain⟨a,dx,fs,e1,e2,e3,h⟩:=h;refine⟨a,dx,fs,e1,e2,e3,h.mono fun vs H2 h=>?_⟩;obtain⟨hn,F2,as2,ws,ce2,S2,rs,P2⟩:=h;rw[append_nil];exact⟨hn,F2,as2,ws,ce2,S2.st,rs,by rw[hfe];exact dJ.of S2 P2⟩
theorem g_(hc:L2.Cls X.K (G.cl c))(hm:L2.Meth X.K (G.cl c) m f)(Fk:ay X.prog X.w X.K X.mg X.base CX k f fd ps (gf G fe n df))(hr:aT k X.A)(hb:Binds X.K fd ps [])(hx:gM CX X E1)(he:PE X o (av G E d))(hfe:fe E1=E:=by rfl)(ht:eval (.Call (.Attribute o m apos) [] [] pos) X.env=(do
   let ov <- eval o X.env
   standAt apos.atName
   let (f,first) <- holding [ov] (getMethod ov m pl)
   callWith pos f first (backTo pos (starEach [] X.env)) (backToKw pos (keywordEach [] X.env))):=by rfl) :
  PE X (.Call (.Attribute o m apos) [] [] pos) (av G E (cC c m n df d ai)):=by
 refine PE.imp (Hb he hc hm Fk hr hb .nil hx ht) fun σ H Q zz_=>bB zz_ fun F as sl ce S P=>(tL S P).mono fun x H1 h=>?_;obtain⟨a,dx,fs,e1,e2,e3,h⟩:=h;refine⟨a,dx,fs,e1,e2,e3,?_⟩;obtain⟨F1,as1,sl1,ce1,S1,P1⟩:=h;obtain⟨hn,F2,as2,ws,ce2,S2,rs,P2⟩:=P1 [] H1 F1 as1 .refl S1 .nil;show gf G fe n df [x] H1 Q E1;exact⟨hn,F2,as2,ws,ce2,S2.st,rs,by rw[hfe];exact dJ.of S2 P2⟩
theorem ax.other{F:Hp}{q:Addr}{ho:HO}(S:ax G F as H ce)(hp:H q=none):ax G F as (upd H q ho) ce:=by
 refine⟨fun a u e=>?_,S.nd,S.len,fun k a c' h1 h2=>?_⟩
 ·rw[bt (eU (S.sub _ _ e) hp)];exact S.sub _ _ e
 ·obtain⟨q1,q2⟩:=S.cell k a c' h1 h2;obtain⟨u,hu⟩:=q2.tracked;exact⟨q1,q2.le .refl (bt (eU hu hp))⟩
theorem FI{F:Hp}{σ:VS.St}{Q:VK}{vs:List V}{x dx:Addr}(S:SR G F as H σ sl ce)(rs:ah F as ws vs)(hx:H x=none)(hdx:H dx=none)(hne:dx≠x)(hl:ws.length+1=n)(P:aJ G E Rep F as σ sl Q (rR ce.length (df (.cel ce.length::ws) (ce++[.ins c []])))):gf G (fun _=>E) n df (.ref x::vs) (upd (upd H dx (.own x)) x (.ins (G.cl c) dx [])) (fun v H2=>v=.non/\Q (.ref x) H2) E:=by
 have hx':upd H dx (.own x) x=none:=by rw[bt (fun z=>hne z.symm)];exact hx
 obtain⟨S2,l2⟩:=(S.st.other (ho:=.own x) hdx).alloc (o:=.ins (G.cl c) dx []) hx' (c:=.ins c []) (fun as' _=>⟨dx,[],ak,.nil⟩);have hr:Rep F (as++[x]) (.cel ce.length) (.ref x):=by simp only[Rep];exact⟨x,rfl,by rw[<- S.st.len];simp⟩
 refine⟨by rw[length_cons,rs.length];exact hl,F,as++[x],_,_,S2,.cons hr (rs.le l2),?_⟩;revert P;cases df (.cel ce.length::ws) (ce++[.ins c []]) with
 | none=>exact fun P=>P
 | some r=>cases r with
  | ex y ce'=>exact fun P H' F' as' cv od l S' hx=>P H' F' as' cv od (l2.trans l) S' hx
  | ok w ce' =>
   cases w<;>first|exact fun P=>(show False from P).elim|skip
   intro P v H' F' as' l S' rv;simp only[Rep] at rv;exact⟨rv,P (.ref x) H' F' as' (l2.trans l) (S.slots S' (l2.trans l)) (hr.le l)⟩
theorem EK(M:L2.Mk X.K (G.cl c) f)(Fk:ay X.prog X.w X.K X.mg X.base CX k f fd ps (gf G fe n df))(hr:aT (k+1) X.A)(hg:Gl X c)(hm:X.mg c=some (.ref (G.cl c)))(hb:Binds X.K fd ps [])(hx:gM CX X E1)(ha:PA X (e::es) (fw G E dr))(hfe:fe E1=E:=by rfl)(hdb:(c==("__debug__" : Str))=false:=by decide)(he:starEach (e::es) X.env=(false,eval e X.env)::starEach es X.env:=by rfl)(hpl:(backTo pos (starEach es X.env)).any (·.1)=false:=by rfl) :
  PE X (.Call (.Name c p) (e::es) [] pos) (av G E (pC c n df dr)):=by
 refine PE.imp (Fd M Fk hr hg hm hb .nil hx ha hdb he hpl) fun σ H Q zz_=>bB zz_ fun F as sl ce S P=>(step (RP:=ah) S P).mono fun vs H1 zz_=>bf zz_ fun ws F1 as1 ce1 l1 S1 rs P1=>?_;intro y dy hy hdy hne;split at P1
 ·rename_i hn;rw[append_nil];have q:=FI S1 rs hy hdy hne hn P1;obtain⟨h1,F2,as2,ws2,ce2,S2,rs2,P2⟩:=q;exact⟨h1,F2,as2,ws2,ce2,S2,rs2,by rw[hfe];exact P2⟩
 ·exact(show False from P1).elim
end
section
variable {E:XK} {x c m:Str} {p:Pos} {o:Expr} {h:ExceptHandler} {ok:cV->Bool}
theorem GP{σ:VS.St}{put:Option Nat}{F:Hp}{g:Sl->M W}(hh:∀D σ H F as sl ce (x:cV) (cv:Value),SR (Gy K) F as H σ sl ce->nG K x cv none F->ok x=true->aY (Gy K) E D F as (hd x sl ce)->th cv D σ H)(S:SR (Gy K) F as H σ sl ce)(P:aY (Gy K) E D F as (gz g put ok hd sl ce)):aJ (Gy K) (fun cls _ H'=>th cls D σ H') Rep F as σ sl (fun v H2=>D.nx (rg put σ v) H2) (g sl ce):=by
 unfold gz at P;cases e:g sl ce with
 | none=>rw[e] at P;exact P
 | some r=>cases r with
  | ok w ce' =>
   rw[e] at P;intro b H' F' as' l S' rv;cases put with
   | none=>exact P _ _ _ _ l S'
   | some i=>exact P _ _ _ _ l (S'.put rv i)
  | ex y ce' =>
   rw[e] at P;dsimp only at P;split at P
   ·rename_i hok;intro H' F' as' cv od l S' hx;obtain⟨rfl,hx⟩:=hx;exact hh D σ H' F' as' sl ce' y cv (S.slots S' l) ⟨rfl,hx⟩ hok (P.le l)
   ·exact(show False from P).elim
theorem GO{σ:VS.St}{put:Option Nat}{F:Hp}(hh:∀D σ H F as sl ce (x:cV) (cv:Value),SR (Gy K) F as H σ sl ce->nG K x cv none F->ok x=true->aY (Gy K) E D F as (hd x sl ce)->th cv D σ H)(S:SR (Gy K) F as H σ sl ce)(P:aY (Gy K) E D F as (gz (cC c m n df (eJ d) (eJ dr)) put ok hd sl ce)) :
  av (Gy K) E0 d σ H fun x H1=>∃a dx fs,x=.ref a/\H1 a=some (.ins (clOf K c) dx fs)/\fs.lookup m=none/\fw (Gy K) E0 dr σ H1 fun vs H2=>gf (Gy K) (fun E=>E) n df (x::vs) H2 (fun v H2=>D.nx (rg put σ v) H2) (fun cls _ H'=>th cls D σ H'):=by
 refine(tL S (GP hh S P)).noX.mono fun x H1 h=>?_;obtain⟨a,dx,fs,e1,e2,e3,h⟩:=h;refine⟨a,dx,fs,e1,e2,e3,h.noX.mono fun vs H2 h=>?_⟩;obtain⟨hn,F2,as2,ws,ce2,S2,rs,P2⟩:=h;exact⟨hn,F2,as2,ws,ce2,S2.st,rs,dJ.of S2 P2⟩
theorem GN{y:Str}(hst:X.stack=X.env::X.outer)(hf:X.env.frame=some X.env.locals)(hex:X.ex=[])(hN:X.N.Nodup)(hi:X.N[i]?=some y)(hx:Loc X.env.scope y)(hc:L2.Cls X.K (clOf K c))(hm:L2.Meth X.K (clOf K c) m f)(Fk:ay X.prog X.w X.K X.mg X.base (bp X.prog X.w) k f fd ps (gf (Gy K) (fun E=>E) n df))(hr:aT k X.A)(hb:Binds X.K fd ps [])(ho:PE X.nox o (av (Gy K) E0 d))(ha:PA X.nox (e::es) (fw (Gy K) E0 dr))(hh:qQ K E X h ok hd)(hst2:starEach (e::es) X.env=(false,eval e X.env)::starEach es X.env:=by rfl)(hpl:(backTo cpos (starEach es X.env)).any (·.1)=false:=by rfl)(ht:eval (.Call (.Attribute o m apos) (e::es) [] cpos) X.env=(do
   let ov <- eval o X.env
   standAt apos.atName
   let (f,first) <- holding [ov] (getMethod ov m pl)
   callWith cpos f first (backTo cpos (starEach (e::es) X.env)) (backToKw cpos (keywordEach [] X.env))):=by rfl)(hs:swapsWith (.Call (.Attribute o m apos) (e::es) [] cpos) (some (.Name y pos')) epos.line X.env=pure false:=by rfl)(hfn:X.fn y=true\/X.env.scope.names.lookup y=some .local:=by first|exact .inl rfl|exact .inr rfl|assumption) :
  PS X (.Try [.Assign [.Name y pos'] (.Call (.Attribute o m apos) (e::es) [] cpos) epos] [h] [] [] pos) (dF (Gy K) E (gz (cC c m n df (eJ d) (eJ dr)) (some i) ok hd)):=by
 obtain⟨th,hh1,hh2⟩:=hh;exact PS.imp (wu hst hf hex (wt hN hi hx (FJ ho hc hm Fk hr hex hb ha hst2 hpl ht) hs hfn) hh1) fun D σ H zz_=>bB zz_ fun F as sl ce S P=>GO hh2 S P
end
section
variable {a b:DS} {w u:W} {c f m:Str} {fs:List (Str×W)} {x:cV}
theorem gH{p:List (Str×W)}(h:p.length<=j):(putA f w p).length<=j+1:=by
 induction p generalizing j with
 | nil=>simp[putA]
 | cons a r ih =>
  obtain⟨g,y⟩:=a;rw[length_cons] at h;simp only[putA];split
  ·rw[length_cons];omega
  ·rw[length_cons];have:=ih (j:=j-1) (by omega);omega
theorem rQ(g:ce[k]?=some (.ins c fs)):ke ce c (.cel k)=some (k,fs):=by simp only[ke,g,if_true]
theorem eV(h:d sl ce=some (.ok (.cel k) c1))(g:c1[k]?=some (.ins c fs))(l:fs.lookup f=some w):cW c f d sl ce=some (.ok w c1):=by simp only[cW,aw,h,look,rQ g,l,map_some]
theorem w9(hv:v sl ce=some (.ok w c1))(h:d sl c1=some (.ok (.cel k) c2))(g:c2[k]?=some (.ins c fs))(hl:fs.length<1000):jd c f d v sl ce=some (.go .nx sl (c2.set k (.ins c (putA f w fs)))):=by simp only[jd,cL,hv,h,rQ g,if_pos hl]
theorem GL(hv:v sl ce=some (.ok w c1))(h:d sl c1=some (.ok (.cel k) c2))(g:c2[k]?=some (.ins c fs))(hl:fs.length<1000)(q:Q (.go .nx sl (c2.set k (.ins c (putA f w fs))))):Run (jd c f d v) sl ce Q:=⟨_,w9 hv h g hl,q⟩
theorem oO(hv:v sl ce=some (.ok w c1))(h:d sl c1=some (.ok (.cel k) c2))(g:c2[k]?=some (.ins c fs))(hl:fs.length<1000)(q:Run b sl (c2.set k (.ins c (putA f w fs))) Q):Run (aq (jd c f d v) b) sl ce Q:=iV (w9 hv h g hl) q
theorem Cm(h:d sl ce=some (.ok (.cel k) c1))(g:c1[k]?=some (.ins c fs))(l:fs.lookup m=none)(hr:dr sl c1=some (.ok ws c2))(hn:ws.length+1=n):cC c m n df d dr sl ce=df (.cel k::ws) c2:=by simp only[cC,aw,h,look,rQ g,l,if_true,map_some,hr,hn]
theorem dP{r:Option (R W)}(h:d sl ce=some (.ok (.cel k) c1))(g:c1[k]?=some (.ins c fs))(l:fs.lookup m=none)(hr:dr sl c1=some (.ok ws c2))(hn:ws.length+1=n)(hf:df (.cel k::ws) c2=r):cC c m n df d dr sl ce=r:=(Cm h g l hr hn).trans hf
theorem EJ(hr:dr sl ce=some (.ok ws c1))(hn:ws.length+1=n)(hf:df (.cel c1.length::ws) (c1++[.ins c []])=some (.ok .non c2)):pC c n df dr sl ce=some (.ok (.cel c1.length) c2):=by simp only[pC,aw,hr,if_pos hn,hf,rR]
theorem pG{r:R W}(sl:Sl)(e:ws.map some++List.replicate (n-ws.length) none=sl)(h:Run body sl ce fun o=>∃sl' c',o=.go .nx sl' c'/\fin ce c' .non=some r):bJ fin n body ws ce=some r:=by subst e;obtain⟨o,e,sl',c',rfl,hf⟩:=h;simp only[bJ,e,hf]
end
end VS
namespace L2
section
variable {c:Expr} {a b:List Stmt} {tc:TT} {ta tb:XK->TS}
end
end L2
namespace VS
section
variable {E:XK} {x y:Str} {p:Pos} {t:Expr} {h:ExceptHandler} {ok:cV->Bool} {sa sb:List Stmt} {da db d:DS} {c:Sl->M Bool}
end
section
variable {d b:DS} {ok:cV->Bool} {x:cV}
end
end VS
namespace L2
open AutoSeq1 (wpAny_loadPart')
end L2
namespace VS
section
variable {E:XK} {p:Pos}
end
end VS
variable {bm:List Value} {hdct ab:Bool} {sn:List Str} {col:Option Bool} {dd:Option Addr} {newId:String} {SA:Addr}
namespace L2
open PySem.W
section
variable {R:Result->Shared->Prop} {d:Drawn} {t:Nat}
variable {q:Str} {C N:Addr} {bs bmB:List Value} {sub:List Value} {k0 k1 k2 k3 k5:Option Value} {B Bn nid initId inN:String} {bmN:List Value}
abbrev m8(C T:Addr):Obj:={ cls:=.ref C,data:=.fields #[.ref T,.none,.none,.none,.bool false,.none] }
theorem GK{rest:List Value}{init:Value}(Fn:ExcBaseFacts Bn newId inN bmN)(hBn:bmB.contains (.type Bn)=true)(F:ExcBaseFacts B nid initId bmB)(T:OwnTail h bmB bm)(hC:h.get? C=some (excClassObj nm q C N bs bm hdct sn sub ab col dd k0 k1 k2 k3 k5 newId))(self:Looks (model prog w) h (isSubtype (.ref C) (.ref C)) true)(call:Looks (model prog w) h (specialOf (.ref C) "__call__") (some (.builtin "type.__call__")))(typ:Looks (model prog w) h (isInstance (.ref C) (.type "type")) true)(hi:Looks (model prog w) h (typeLookup (.ref C) "__init__") (some init))(hb:∀self,Looks (model prog w) h (bindSpecial init self) (init,[self]))(hrest:rest.length<=sizeLine)(hq:codeAny (model prog w) (A.under (.builtin "type.__call__" ⟨.ref C::rest,[]⟩)) (.call init ⟨.ref (h.objs.size+1)::rest,[]⟩) (InitBack (h.objs.size+1) R) ⟨(h.push { cls:=.type "tuple",data:=.seq rest.toArray }).push (m8 C h.objs.size),g,d,t,os⟩) :
  codeAny (model prog w) A (.call (.ref C) ⟨rest,[]⟩) R ⟨h,g,d,t,os⟩:=by
 refine codeAny_of_tree ?_;show wpAny _ _ (callAny (.ref C) _) _ _ _;refine nd_load hC ?_;show wpAny _ _ (callAny.viaDunder (.ref C) _) _ _ _;unfold callAny.viaDunder;refine wpAny_bind (call.at ?_);dsimp only;rw[tc_bind];refine wpAny_bind (wpAny_pure (wpAny_bind (wpAny_pure ?_)));refine wpAny_pure (a:=Fin.again (.call (.builtin "type.__call__") ⟨.ref C::rest,[]⟩)) (And.intro rfl ?_);refine codeAny_call_builtin_at (Code.quiet_builtin _ (by decide +kernel)) entry_typeCall (check_slot tc_kind tc_split typ (tc_args _ _ _) ?_);unfold Builtin.«type.__call__»;have e4:(Value.ref C::bm).isEmpty=false:=rfl;have hm:Looks (model prog w) h (mroOf (.ref C)) (Value.ref C::bm):=((Looks.ld (part:=none) hC).andThen .now).andThen .now
 repeat (first|simp only[e4,false_eq_true,if_false]|with_reducible refine wpAny_madeBy_exc hC ?_|with_reducible refine wpAny_call ?_|lk)
 refine codeAny_call_builtin_code (Code.quiet_builtin _ Fn.quiet) (wpAny_check_new_subU Fn hBn T hC ?_);refine codeAny_exc_new_subU Fn hBn F T hC ?_ hrest;have k:∀b o,h.get? b=some o->((h.push { cls:=.type "tuple",data:=.seq rest.toArray }).push (m8 C h.objs.size)).get? b=some o:=fun b o e=>Heap.get?_push_of_some _ (Heap.get?_push_of_some _ e);have hx:((h.push { cls:=.type "tuple",data:=.seq rest.toArray }).push (m8 C h.objs.size)).get? (h.objs.size+1)=some (m8 C h.objs.size):=by heap_get
 have t1:Looks (model prog w) ((h.push { cls:=.type "tuple",data:=.seq rest.toArray }).push (m8 C h.objs.size)) (typeOf (.ref (h.objs.size+1))) (.ref C):=(Looks.ld hx).andThen .now;have s1:=self.keeps k;have i1:=hi.keeps k;have b1:=(hb (.ref (h.objs.size+1))).keeps k;unfold isInstance callSpecial? specialOf
 repeat (first|with_reducible refine wpAny_call ?_|lk)
 refine codeAny_mono hq fun r s' z=>?_;rcases r with e|(v|_|_|_)<;>first|exact z|exact z.elim|skip
 obtain⟨rfl,z⟩:=z;exact wpAny_pure (wpAny_pure z)
theorem GJ(F:ExcBaseFacts B nid initId bmB)(T:OwnTail h bmB bm){e:Addr}{rest:List Value}{Q:Value->Shared->Prop}(hC:h.get? C=some (excClassObj nm q C N bs bm hdct sn sub ab col dd k0 k1 k2 k3 k5 newId))(he:h.get? e=some oe)(hcls:oe.cls=.ref C)(hd:oe.data=.fields vs)(h0:vs[0]?=some a0)(hrest:rest.length<=sizeLine)(hq:Q .none ⟨(h.push { cls:=.type "tuple",data:=.seq rest.toArray }).update e (Obj.mapFields (·.setIfInBounds 0 (.ref h.objs.size))),g,d,t,os⟩) :
  wpAny (model prog w) A (PySem.call (.builtin initId) (.ref e::rest)) Q E ⟨h,g,d,t,os⟩:=by
 refine wpAny_call (codeAny_call_builtin F.init.plain F.initEntry (wpAny_check_init_subU F T hC he hcls ?_))
 wp_walk
 rw[hd];refine wpAny_pure ?_;rw[h0];refine wpAny_pure ?_;refine wpAny_bind (wpAny_setField (Heap.get?_push_of_some _ he) hd (Array.getElem?_eq_some_iff.mp h0).1 ?_);have fin:∀s',s'=(⟨(h.push { cls:=.type "tuple",data:=.seq rest.toArray }).update e (Obj.mapFields (·.setIfInBounds 0 (.ref h.objs.size))),g,d,t,os⟩:Shared)->Q .none s':=fun s' e=>by rw[e];exact hq
 cases a0 with
 | ref a1=>exact wpAny_letGo (wpAny_pure (fin _ rfl))
 | _=>exact wpAny_pure (wpAny_pure (fin _ rfl))
end
def lB(K:Frag)(C:Addr):Bool:=match K.lookup C with
 | some ⟨.type "type",_,.cls cd,sl⟩=>(match cd.mro,sl.toList with
  | .ref C'::bm,[_,_,_,_,some (.builtin n),_]=>C'==C&&n == "ValueError.__new__" && !cd.hasDel&&tailIn K i9 bm&&nsOkIn K cd.ns
  | _,_=>false)
 | _=>false
theorem qp{C:Addr}(q:lB K C=true)(X:K.In h):∃bm N nm qn bs hdct sn sub ab col dd k0 k1 k2 k3 k5,
  h.get? C=some (excClassObj nm qn C N bs bm hdct sn sub ab col dd k0 k1 k2 k3 k5 "ValueError.__new__")/\OwnTail h i9 bm:=by
 unfold lB at q;split at q
 case h_2=>cases q
 rename_i dd cd sl ho;split at q
 case h_2=>cases q
 rename_i C' bm k0 k1 k2 k3 n k5 hm hs;simp only[and_eq_true,beq_iff_eq,not_eq_true'] at q;obtain⟨⟨⟨⟨rfl,rfl⟩,hdel⟩,ht⟩,hok⟩:=q;obtain⟨nm,bs,mro,ns,qn,hd,sn,sub,ab,col,del⟩:=cd;dsimp only at hm hdel hok;subst hm hdel;have hsl:sl=#[k0,k1,k2,k3,some (.builtin "ValueError.__new__"),k5]:=by obtain⟨l⟩:=sl;simp only at hs;rw[hs]
 subst hsl;exact⟨bm,ns,nm,qn,bs,hd,sn,sub,ab,col,dd,k0,k1,k2,k3,k5,X _ _ ho,tail_of_in X ht⟩
def c8(a C:Addr)(h:Heap):Prop:=∃t sl,h.get? a=some ⟨.ref C,none,.fields #[.ref t,.none,.none,.none,.bool false,.none],sl⟩
def Kt(a C:Addr)(h:Heap):Prop:=∃D t sl,h.get? a=some ⟨.ref C,some D,.fields #[.ref t,.none,.none,.none,.bool false,.none],sl⟩
theorem c8.ok{C:Addr}(x:c8 a C h):aE P w H h a (.ext (c8 a C)):=by refine⟨x,?_,fun h1 h2 ⟨t,sl,e1⟩ k=>⟨t,sl,k _ e1⟩⟩;obtain⟨t,sl,e⟩:=x;exact⟨_,e⟩
theorem Ck{o:HO}(h:H a=some o):upd H a o=H:=by
 funext b
 by_cases hb:b=a
 ·subst hb;rw[ak,h]
 ·rw[bt hb]
theorem HE{ap:Pos}{C:Addr}{x:Str}{t1:TE}{t2:St->Prop}(hg:Gl X x)(hm:X.mg x=some (.ref SA))(hga:specialIn X.K (.ref SA) "__getattribute__" = some (some (.builtin "type.__getattribute__")))(hr:readsIn X.K SA (.type "type")=true)(hf:findCls X.K (.ref SA) (.type "type") "__init__" = some (.val (.builtin "ValueError.__init__")))(qC:lB X.K C=true)(h1:PE X e1 t1)(h2:PX X e2 t2)(hd:(x==("__debug__" : Str))=false:=by decide)(ht:eval (.Call (.Attribute (.Name x np) "__init__" ap) [e1,e2] [] pos) X.env=(do
   let ov <- eval (.Name x np) X.env
   standAt ap.atName
   let (f,first) <- holding [ov] (getMethod ov "__init__" pl)
   callWith pos f first (backTo pos (starEach [e1,e2] X.env)) (backToKw pos (keywordEach [] X.env))):=by rfl)(he:starEach [e1,e2] X.env=[(false,eval e1 X.env),(false,eval e2 X.env)]:=by rfl) :
  PE X (.Call (.Attribute (.Name x np) "__init__" ap) [e1,e2] [] pos) (fun σ H Q=>t1 σ H fun v H1=>∃a,v=.ref a/\H1 a=some (.ext (c8 a C))/\t2 σ/\Q .non H1):=by
 intro pins s σ H Q I h;refine methodCall_KW (pl:=pl) (jY I hg hm ?_ hd) ht;refine method_cls I.kIn hga (cls_value I.kIn hr hf (by decide +kernel) ?_);have I0:Inv X pins σ H { s with toks:=s.toks+1 }:=I.tok _;show wpAny _ _ (callWith pos (.builtin "ValueError.__init__") [] (backTo pos (starEach [e1,e2] X.env)) []) _ _ _;rw[he];refine Calls.callWith_builtin rfl (Calls.evalArgs_plain (Calls.spliced_cons (aO (h1 pins _ σ H _ I0 h) fun u s1 ⟨v,H1,I1,rv,a,ev,ha,ht2,hq⟩=>?_)));refine Calls.spliced_cons (aO (h2 pins s1 σ H1 I1 ht2) fun u2 s2 I2=>Calls.spliced_nil ?_);subst ev;obtain rfl:u=Value.ref a:=rv;obtain⟨bm,N,nm,qn,bs,hdct,sn,sub,ab,col,dd,k0,k1,k2,k3,k5,hC,T⟩:=qp qC I2.kIn;obtain⟨tt,osl,hx⟩:=(show aE X.prog X.w H1 s2.heap a (.ext (c8 a C)) from I2.hok a _ ha).1;obtain⟨hh,g,d,tk,os⟩:=s2;refine GJ (rest:=[u2]) (a0:=.ref tt) excBase_ValueError T hC hx rfl rfl rfl (by show 1<=sizeLine;decide) ?_;have hx':=Heap.get?_push_of_some { cls:=.type "tuple",data:=.seq [u2].toArray } hx;have hs:=Heap.get?_update_self (Obj.mapFields (·.setIfInBounds 0 (.ref hh.objs.size))) hx' rfl;have I3:=I2.write (x:=a) (e:=a) (o:=.ext (c8 a C)) (t':=tk) (h':=(hh.push { cls:=.type "tuple",data:=.seq [u2].toArray }).update a (Obj.mapFields (·.setIfInBounds 0 (.ref hh.objs.size)))) (by rw[ha];trivial) (.inl rfl)
  (fun b u hb e=>(Heap.get?_update_other _ _ (Ne.symm hb)).trans (Heap.get?_push_of_some _ e)) ⟨_,hs⟩ (c8.ok ⟨hh.objs.size,osl,hs⟩)
 rw[Ck ha] at I3;exact⟨.non,H1,I3,rfl,hq⟩
end L2
variable {cd:ClassData} {tv:TE}
namespace L2
open PySem.W PySem.Builtin PySem.Builtin.ObjectAttr
theorem EI(self:Value):refuseLoop self "__setattr__" i9=pure ():=by kernel_rfl
theorem EH(T:OwnTail h i9 bm)(self:Value):refuseLoop self "__setattr__" bm=pure ():=by
 induction T with
 | base=>exact EI self
 | own _ _ _ _ ih=>rw[refuseLoop_ref];exact ih
section
variable {C:Addr}
end
section
variable {o:Expr} {f:Str} {C:Addr}
end
section
variable {M:Model} {q:Str} {C N:Addr} {bs:List Value} {sub:List Value} {k0 k1 k2 k3 k5:Option Value}
theorem uk{x:Sem Value}{Q:Flow->Shared->Prop}(hbase:bm.contains (.type "BaseException")=true)(hh:A.handled=none)(h:wpAny M A x (fun v s₁=>∃e D t sl,v=.ref e/\s₁.heap.get? C=some (excClassObj nm q C N bs bm hdct sn sub ab col dd k0 k1 k2 k3 k5 newId)/\s₁.heap.get? e=some ⟨.ref C,D,.fields #[.ref t,.none,.none,.none,.bool false,.none],sl⟩/\E (.ref e) s₁) E s) :
  wpAny M A (raiseStmt env (some x) none) Q E s:=by
 have hcB:(Value.ref C::bm).contains (.type "BaseException")=true:=by rw[contains_cons,hbase,Bool.or_true]
 unfold raiseStmt;refine wpAny_bind (wpAny_mono h (fun v s₁ h₁=>?_) fun _ _ x=>x);obtain⟨e,D,t,sl,rfl,hC,he,hE⟩:=h₁;obtain⟨hp,g,d,tk,os⟩:=s₁
 repeat (first|with_reducible refine wpAny_loadPart_at he ?_|with_reducible refine wpAny_loadPart_at hC ?_|(with_reducible refine wpAny_isSubtype_exc hC ?_;rw[hcB])|wp_step)
 exact wpAny_raiseNew_none hh hE
end
section
variable {σ:St} {φ:Heap->Prop}
theorem Inv.untrack(I:Inv X pins σ (upd H a (.ext φ)) s)(ha:H a=none):Inv X pins σ H s:=by
 have dn:∀{b:Addr} {o:HO},(∀ψ,o≠.ext ψ)->upd H a (.ext φ) b=some o->H b=some o:=fun {b o} hn e=>by
  by_cases hb:b=a
  ·subst hb;rw[ak] at e;cases e;exact absurd rfl (hn φ)
  ·rw[bt hb] at e;exact e
 have dz:∀{b:Addr},upd H a (.ext φ) b=none->H b=none:=fun {b} e=>by
  by_cases hb:b=a
  ·subst hb;exact ha
  ·rw[bt hb] at e;exact e
 refine⟨I.ok,I.os,I.bare,⟨I.base.keep,I.base.slot,fun b o e n hx=>dz (I.base.free b o e n hx),I.base.there,fun b xs e=>dn (fun ψ z=>by cases z) (I.base.tups b xs e),fun b o u e=>dn (fun ψ z=>by cases z) (I.base.frzs b o u e),fun b ps e=>?_⟩,I.loc,I.cell,dz I.free,fun x c e=>dz (I.freeC x c e),fun p hp=>?_,fun b o e=>?_,I.len⟩
 ·obtain⟨m,q⟩:=I.base.tbls b ps e;exact⟨m,dn (fun ψ z=>by cases z) q⟩
 ·obtain⟨e,n,r⟩:=I.pin p hp;exact⟨e,dz n,r⟩
 ·have hb:b≠a:=fun z=>by rw[z,ha] at e;cases e
  exact(I.hok b o (by rw[bt hb];exact e)).stay (fun _ _ _ r=>r) (fun c q=>dn (fun ψ z=>by cases z) q) fun c xs q=>dn (fun ψ z=>by cases z) q
end
structure XI (K:Frag) (C f:Addr):Prop where
 exc:lB K C=true
 init:findIn K (.ref C) "__init__" = some (some (.ref f))
 fn:isFn K (.ref f)=true
 call:specialIn K (.ref C) "__call__" = some (some (.builtin "type.__call__"))
 typ:instIn K (.ref C) (.type "type")=some true
 self:mroIn K C (.ref C)=some true
 kp:keepIn K (.ref C)=true
end L2
namespace L2
open PySem.W
end L2
namespace VS
section
variable {E:XK} {x y:Str} {p:Pos}
end
end VS
namespace L2
open PySem.W
structure XN (K:Frag) (C SA f:Addr) (fld:Str):Prop where
 xi:XI K C f
 hga:specialIn K (.ref SA) "__getattribute__" = some (some (.builtin "type.__getattribute__"))
 hr:readsIn K SA (.type "type")=true
 hf:findCls K (.ref SA) (.type "type") "__init__" = some (.val (.builtin "ValueError.__init__"))
 hsa:findIn K (.ref C) "__setattr__" = some (some (.builtin "object.__setattr__"))
 hd:(clsIn K C).any (·.hasDict)=true
 ht:takerIn K C fld=some none
def u9(K:Frag)(C SA:Addr)(fld:Str):Bool:=lB K C&&specialIn K (.ref C) "__call__" == some (some (.builtin "type.__call__"))&&instIn K (.ref C) (.type "type")==some true&&mroIn K C (.ref C)==some true&&keepIn K (.ref C) &&
 specialIn K (.ref SA) "__getattribute__" == some (some (.builtin "type.__getattribute__"))&&readsIn K SA (.type "type")&&(match findCls K (.ref SA) (.type "type") "__init__" with|some (.val (.builtin n))=>n == "ValueError.__init__" | _=>false) &&
 findIn K (.ref C) "__setattr__" == some (some (.builtin "object.__setattr__"))&&(clsIn K C).any (·.hasDict)&&takerIn K C fld==some none
theorem BK{C:Addr}{fld:Str}(q:u9 K C SA fld=true)(hi:findIn K (.ref C) "__init__" = some (some (.ref f)))(fn:isFn K (.ref f)=true):XN K C SA f fld:=by
 unfold u9 at q;simp only[and_eq_true,beq_iff_eq] at q;obtain⟨⟨⟨⟨⟨⟨⟨⟨⟨⟨q1,q2⟩,q3⟩,q4⟩,q5⟩,q6⟩,q7⟩,q8⟩,q9⟩,q10⟩,q11⟩:=q;refine⟨⟨q1,hi,fn,q2,q3,q4,q5⟩,q6,q7,?_,q9,q10,q11⟩;split at q8
 ·rename_i n e;rw[e,beq_iff_eq.mp q8]
 ·cases q8
section
variable {o:Expr} {m:Str} {C:Addr}
end
end L2
namespace VS
section
variable {E:XK} {c m:Str} {o:Expr} {h:ExceptHandler} {ok:cV->Bool}
end
end VS
namespace L2
section
variable {σ:St}
end
end L2
namespace VS
section
variable {E:XK} {elts:List Expr} {x1:Nat} {p fpos:Pos} {l:Expr} {g:DG} {b:DS} {body:List Stmt}
end
end VS
namespace L2
end L2
namespace VS
section
variable {E:XK}
end
def cu(K:Frag)(x q:Str)(st:Stmt)(f:Addr):Prop:=∃fd,bQ K x q st f fd
theorem fnk{x:Str}{oc:Value}{an:Option Addr}{osl:Array (Option Value)}{kV doc pm cdv ct:Value}(l:K.lookup f=some ⟨oc,od,.func (fnOf x qual (ni st) (lg st) (ba st) .none kV doc pm an cdv ct),osl⟩)(c:codeIn K cdv qual=true)(k:keepIn K (.ref f)=true):cu K x qual st f:=⟨_,xa l c k⟩
theorem cq{N P:List Str}{sc:Scope}(h1:sc.kind=.function:=by rfl)(h2:sc.isCoroutine=false:=by rfl)(h3:sc.isGenerator=false:=by rfl)(h4:N.Nodup:=by decide +kernel)(h5:N.take P.length=P:=by rfl)(h6:∀x∈P,sc.names.lookup x=some .local\/sc.names.lookup x=some .cell:=by decide +kernel)(h7:∀y∈sc.names,y.2≠.free:=by decide +kernel):ao N P sc:=⟨h1,h2,h3,h4,h5,h6,h7⟩
end VS
namespace L2
open PySem.W PySem.Builtin PySem.Builtin.ObjectAttr
theorem NumP.ok{D:Addr}{f:Str}{n:Int}(x:VS.NumP D f n h):aE P w H h D (.ext (VS.NumP D f n)):=by refine⟨x,?_,fun h1 h2 ⟨m,t,⟨o,es,ep,e1,r⟩,q⟩ k=>⟨m,t,⟨o,es,ep,k _ e1,r⟩,q⟩⟩;obtain⟨m,t,⟨o,es,ep,e1,r⟩,q⟩:=x;exact⟨_,e1⟩
def bP(a C D:Addr)(h:Heap):Prop:=∃t sl,h.get? a=some ⟨.ref C,some D,.fields #[.ref t,.none,.none,.none,.bool false,.none],sl⟩
theorem bP.ok{C D:Addr}(x:bP a C D h):aE P w H h a (.ext (bP a C D)):=by refine⟨x,?_,fun h1 h2 ⟨t,sl,e1⟩ k=>⟨t,sl,k _ e1⟩⟩;obtain⟨t,sl,e⟩:=x;exact⟨_,e⟩
section
variable {C:Addr}
theorem GI{v:Value}{sl:Array (Option Value)}{Q:Unit->Shared->Prop}(X:K.In s.heap)(hx:s.heap.get? a=some ⟨.ref C,none,.fields vs,sl⟩)(hs:findIn K (.ref C) "__setattr__" = some (some (.builtin "object.__setattr__")))(hc:clsIn K C=some cd)(hm:cd.mro=.ref C::bm)(hd:cd.hasDict=true)(T:OwnTail s.heap i9 bm)(ht:takerIn K C name=some none)(h:∀h' tk,(∀b u,b≠a->s.heap.get? b=some u->h'.get? b=some u)->h'.get? a=some ⟨.ref C,some s.heap.objs.size,.fields vs,sl⟩->(∃m,h'.Ns s.heap.objs.size m/\m name=some v)->Q () { s with heap:=h',toks:=tk }) :
  wpAny (model prog w) A (setAttr (.ref a) name v) Q E s:=by
 have J:InstAt s.heap a ⟨.ref C,none,.fields vs,sl⟩ C none:=⟨hx,rfl,rfl,trivial⟩
 refine set_plain X J hs ?_;have SF:=PySem.F.store_object;have sub:Looks (model prog w) s.heap (isInstance (.ref a) (.type "object")) true:=J.type.andThen (looks_mroIn X (by unfold mroIn;rw[hc,bind_some,hm,if_neg (by simp),contains_cons,T.hasType (show i9.contains (.type "object")=true by decide)];simp));refine codeAny_call_builtin SF.slot.plain SF.entry (@check_slot (model prog w) _ _ { s with toks:=s.toks+1 } "object.__setattr__" "object" "__setattr__" (.ref a) [.str name s.toks,v] [] _ SF.kind SF.split sub (SF.args (.ref a) (.str name s.toks) v) ?_);obtain⟨attr,ha,hr⟩:=bind_eq_some_iff.mp ht;have hmL:Looks (model prog w) s.heap (mroOf (.ref C)) cd.mro:=(looks_clsIn X hc).andThen .now;have L3:Looks (model prog w) s.heap (storeTaker? attr) none:=by
  cases attr with
  | none=>exact .now
  | some a =>
   obtain⟨b,hb,he⟩:=map_eq_some_iff.mp hr;refine(looks_takesIn X hb).andThen ?_;cases b
   ·exact .now
   ·cases he
 rw[osa_eq,refuse_eq];refine wpAny_bind (wpAny_bind (J.type.here (s:={ s with toks:=s.toks+1 }) (wpAny_bind (hmL.here (s:={ s with toks:=s.toks+1 }) ?_))));rw[hm,refuseLoop_ref,EH T];refine wpAny_pure (wpAny_bind (J.type.here (s:={ s with toks:=s.toks+1 }) (wpAny_bind ((looks_findIn X ha).here (s:={ s with toks:=s.toks+1 }) (wpAny_bind (L3.here (s:={ s with toks:=s.toks+1 }) ?_))))));refine wpAny_bind (wpAny_pure (wpAny_bind (wpAny_bind (wpAny_loadPart hx (wpAny_bind (here (s:={ s with toks:=s.toks+1 }) (looks_clsIn X hc) ?_))))));rw[hd];have hx₁:(s.heap.push { cls:=.type "dict",data:=.dict #[] }).get? a=some ⟨.ref C,none,.fields vs,sl⟩:=Heap.get?_push_of_some _ hx;have hxs:a≠s.heap.objs.size:=ne_of_lt (Heap.lt_size hx);refine wpAny_bind (wpAny_alloc' ?_);refine wpAny_bind (wpAny_update' hx₁ ?_);refine wpAny_pure ?_;have hgd:((s.heap.push { cls:=.type "dict",data:=.dict #[] }).update a fun o=>{ cls:=o.cls,dict:=some s.heap.objs.size,data:=o.data,slots:=o.slots }).get? s.heap.objs.size=some { cls:=.type "dict",data:=.dict #[] } :=
  (Heap.get?_update_ne _ _ _ _ hxs.symm).trans (Heap.get?_push_at rfl rfl)
 have hnd:((s.heap.push { cls:=.type "dict",data:=.dict #[] }).update a fun o=>{ cls:=o.cls,dict:=some s.heap.objs.size,data:=o.data,slots:=o.slots }).Ns s.heap.objs.size (fun _=>none) :=
  ⟨_,#[],_,hgd,rfl,fun e he=>absurd he (by simp),fun _=>rfl⟩
 show wpAny _ _ (storeInDict s.heap.objs.size (.str name s.toks) name v) _ _ _;unfold storeInDict newKeyGuard;refine wpAny_bind (wpAny_pure (wpAny_bind (wpAny_nsSet1 (Heap.Ns1.of_empty hnd) fun h' hn' hs=>?_)));obtain⟨oD,esD,epD,hoD,hdD,hcD⟩:=hn'.count (Within.cons name v Within.nil);refine wpAny_bind (wpAny_lookBehind hoD (by rw[hdD];exact pastItsLine_dict (le_trans hcD (by rw[length_cons,length_nil,sizeLine_eq];omega))) ?_);refine wpAny_pure (h h' _ (fun b u hb e=>?_) ?_ ?_)
 ·exact(hs.2 b (ne_of_lt (Heap.lt_size e))).trans ((Heap.get?_update_ne _ _ _ _ hb).trans (Heap.get?_push_of_some _ e))
 ·exact(hs.2 a hxs).trans (Heap.get?_update_self _ hx₁ rfl)
 ·obtain⟨o,es,ep,q1,q2,q3,_,q5⟩:=hn';exact⟨_,⟨o,es,ep,q1,q2,q3,q5⟩,by simp⟩
end
section
variable {o:Expr} {f:Str} {C:Addr}
theorem HD(ha:PE X o ta)(hv:PE X value tv)(hs:swapsWith value (some (.Attribute o f pos')) pos.line X.env=pure false)(hsa:findIn X.K (.ref C) "__setattr__" = some (some (.builtin "object.__setattr__")))(qC:lB X.K C=true)(hd:(clsIn X.K C).any (·.hasDict)=true)(ht:takerIn X.K C f=some none) :
  PS X (.Assign [.Attribute o f pos'] value pos) (fun D σ H=>tv σ H fun y H1=>ta σ H1 fun x H2=>∃a n,y=.int n/\x=.ref a/\H2 a=some (.ext (c8 a C))/\∀q,H2 q=none->q≠a->D.nx σ (upd (upd H2 q (.ext (VS.NumP q f n))) a (.ext (bP a C q)))):=by
 intro pins s σ H D I h;refine plainObj_wpAny_Assign_Attribute (aO (hv pins s σ H _ I h) fun u s1 ⟨y,H1,I1,ry,q⟩=>aO (ha pins s1 σ H1 _ I1 q) fun ov s2 ⟨x,H2,I2,rx,a,n,ey,ex,ea,q2⟩=>?_) hs;subst ex;subst ey;obtain rfl:ov=Value.ref a:=rx;obtain⟨tk0,rfl⟩:∃t,u=Value.int n t:=ry;obtain⟨bm,N,nm,qn,bs,hdct,sn,sub,ab,col,dd,k0,k1,k2,k3,k5,hC,T⟩:=qp qC I2.kIn;obtain⟨tt,osl,hx⟩:=(show aE X.prog X.w H2 s2.heap a (.ext (c8 a C)) from I2.hok a _ ea).1;obtain⟨cd,hc,hdc⟩:=any_some hd;have hm:cd.mro=.ref C::bm:=by
  unfold clsIn at hc;split at hc
  ·rename_i ho;cases hc;have:=I2.kIn _ _ ho;rw[hC] at this;cases this;rfl
  ·cases hc
 have hlt:a<s2.heap.objs.size:=Heap.lt_size hx;have hn:H2 s2.heap.objs.size=none:=I2.hok.fresh (le_refl _);have hne:s2.heap.objs.size≠a:=Ne.symm (ne_of_lt hlt);refine GI I2.kIn hx hsa hc hm hdc T ht fun h' tk hk hx' hN=>?_;obtain⟨m,hNs,hmf⟩:=hN;obtain⟨oD,es,ep,e1,r⟩:=id hNs;have IM:Inv X pins σ (upd H2 s2.heap.objs.size (.ext (VS.NumP s2.heap.objs.size f n))) { s2 with heap:=s2.heap.push oD } :=
  I2.laid (t':=s2.toks) (fun b u q=>Heap.get?_push_of_some _ q) (le_refl _) (NumP.ok ⟨m,_,⟨oD,es,ep,Heap.get?_push_size _ (rS e1),r⟩,hmf⟩)
 have ea':upd H2 s2.heap.objs.size (.ext (VS.NumP s2.heap.objs.size f n)) a=some (.ext (c8 a C)):=by rw[bt (Ne.symm hne)];exact ea
 have I3:=IM.write (x:=a) (e:=a) (o:=.ext (bP a C s2.heap.objs.size)) (t':=tk) (h':=h') (by rw[ea'];trivial) (.inl rfl) (fun b u hb q=>by
  by_cases z:b=s2.heap.objs.size
  ·subst z;have:(s2.heap.push oD).get? s2.heap.objs.size=some oD:=Heap.get?_push_size _ (rS e1);rw[this] at q;rw[e1];exact q
  ·exact hk b u hb (by rw[<- q];exact(Heap.get?_push_ne _ _ _ z).symm)) ⟨_,hx'⟩ (bP.ok ⟨tt,osl,hx'⟩)
 exact⟨σ,_,I3,q2 _ hn hne⟩
end
def u5(C:Addr)(f:Str):Sp:=fun vs H Q _=>∃a n,vs=[.ref a,.int n]/\n.natAbs<1000/\H a=some (.ext (c8 a C))/\∀q,H q=none->q≠a->Q .non (upd (upd H q (.ext (VS.NumP q f n))) a (.ext (bP a C q)))
end L2
namespace L2
open PySem.W
theorem EG{ap p3 pe pa:Pos}{C:Addr}{x u y f:Str}{t2:St->Prop}(hg:Gl X x)(hm:X.mg x=some (.ref SA))(hga:specialIn X.K (.ref SA) "__getattribute__" = some (some (.builtin "type.__getattribute__")))(hr:readsIn X.K SA (.type "type")=true)(hf:findCls X.K (.ref SA) (.type "type") "__init__" = some (.val (.builtin "ValueError.__init__")))(qC:lB X.K C=true)(hsa:findIn X.K (.ref C) "__setattr__" = some (some (.builtin "object.__setattr__")))(hd:(clsIn X.K C).any (·.hasDict)=true)(ht:takerIn X.K C f=some none)(h2:PX X e2 t2)(hN0:X.N[0]?=some u:=by rfl)(hN1:X.N[1]?=some y:=by rfl)(hv0:mm X.env.scope u:=by exact Or.inl rfl)(hv1:mm X.env.scope y:=by exact Or.inl rfl)(d0:(u==("__debug__" : Str))=false:=by decide)(d1:(y==("__debug__" : Str))=false:=by decide)(c0:(u==("__classdict__" : Str))=false:=by decide)(c1:(y==("__classdict__" : Str))=false:=by decide)(hdx:(x==("__debug__" : Str))=false:=by decide)(hev:eval (.Call (.Attribute (.Name x np) "__init__" ap) [.Name u p1,e2] [] pos) X.env=(do
   let ov <- eval (.Name x np) X.env
   standAt ap.atName
   let (f,first) <- holding [ov] (getMethod ov "__init__" pl)
   callWith pos f first (backTo pos (starEach [.Name u p1,e2] X.env)) (backToKw pos (keywordEach [] X.env))):=by rfl)(hst:starEach [.Name u p1,e2] X.env=[(false,eval (.Name u p1) X.env),(false,eval e2 X.env)]:=by rfl)(hs0:swapsWith (.Call (.Attribute (.Name x np) "__init__" ap) [.Name u p1,e2] [] pos) none pe.line X.env=pure false:=by rfl)(hs:swapsWith (.Name y p3) (some (.Attribute (.Name u p2) f pos')) pa.line X.env=pure false:=by rfl) :
  PSs X [.Expr (.Call (.Attribute (.Name x np) "__init__" ap) [.Name u p1,e2] [] pos) pe,.Assign [.Attribute (.Name u p2) f pos'] (.Name y p3) pa]
   (fun D σ H=>∃a n,σ[0]?=some (some (.ref a))/\σ[1]?=some (some (.int n))/\H a=some (.ext (c8 a C))/\t2 σ/\∀q,H q=none->q≠a->D.nx σ (upd (upd H q (.ext (VS.NumP q f n))) a (.ext (bP a C q)))):=by
 refine VS.PSs.imp (yZ (xZ (HE (C:=C) hg hm hga hr hf qC (m6 (pos:=p1) hN0 hv0 d0 c0) h2 hdx hev hst) hs0) (x_ (HD (C:=C) (m6 (pos:=p2) hN0 hv0 d0 c0) (m6 (pos:=p3) hN1 hv1 d1 c1) hs hsa qC hd ht))) fun D σ H z=>?_;obtain⟨a,n,e0,e1,eH,q2,q⟩:=z;exact⟨.ref a,e0,a,rfl,eH,q2,.int n,e1,.ref a,e0,a,n,rfl,rfl,eH,q⟩
theorem EF{E:XK}{C:Addr}{σ:St}{vs:List V}{Q:Value->Shared->Prop}{φ:Addr->Heap->Prop}(M:XI X.K C f)(F:ay X.prog X.w X.K X.mg X.base CX k f fd ps sp)(hr:aT (k+1) X.A)(hb:Binds X.K fd ps [])(hpx:gM CX X E)(I:Inv X pins σ H s)(r:Vals vs us)(hl:us.length<=sizeLine){R:Addr->Prop}(hq:sp (.ref (s.heap.objs.size+1)::vs) (upd H (s.heap.objs.size+1) (.ext (c8 (s.heap.objs.size+1) C))) (fun v H2=>v=.non/\∃q,H q=none/\q≠s.heap.objs.size+1/\H2=upd (upd H q (.ext (φ q))) (s.heap.objs.size+1) (.ext (bP (s.heap.objs.size+1) C q))/\R q) E)(hR:∀q,R q->H q=none->q≠s.heap.objs.size+1->∀s',Inv X pins σ (upd (upd H q (.ext (φ q))) (s.heap.objs.size+1) (.ext (bP (s.heap.objs.size+1) C q))) s'->Q (.ref (s.heap.objs.size+1)) s') :
  wpAny (model X.prog X.w) X.A (PySem.call (.ref C) us) Q X.xe s:=by
 obtain⟨bm,N,nm,qn,bs,hdct,sn,sub,ab,col,dd,k0,k1,k2,k3,k5,hC,T⟩:=qp M.exc I.kIn;have hn:H (s.heap.objs.size+1)=none:=I.hok.fresh (le_succ _);have I2:Inv X pins σ (upd H (s.heap.objs.size+1) (.ext (c8 (s.heap.objs.size+1) C))) { s with heap:=(s.heap.push { cls:=.type "tuple",data:=.seq us.toArray }).push (m8 C s.heap.objs.size) } :=
  I.laid (t':=s.toks) (fun b o e=>Heap.get?_push_of_some _ (Heap.get?_push_of_some _ e)) (le_succ _) (c8.ok ⟨s.heap.objs.size,_,by heap_get⟩)
 have r2:Vals (V.ref (s.heap.objs.size+1)::vs) (Value.ref (s.heap.objs.size+1)::us):=.cons rfl r;have hlen:(Value.ref (s.heap.objs.size+1)::us).length=ps.length:=by have e:=r2.length;rw[F.len _ _ _ _ hq] at e;exact e.symm
 obtain⟨hh,g,d,tk,os⟩:=s;refine wpAny_call (GK (init:=.ref f) excBase_ValueError (by decide) excBase_ValueError T hC (looks_mroIn I.kIn M.self) (looks_specialIn I.kIn M.call) (looks_instIn I.kIn M.typ) (looks_findIn I.kIn M.init) (fun self=>bind_fn I.kIn self (beq_iff_eq.mp M.fn)) hl ?_);refine codeAny_mono (F.run _ X.stack _ _ ⟨Value.ref (hh.objs.size+1)::us,[]⟩ (Value.ref (hh.objs.size+1)::us) _ _ E (hr.make C us []) (I2.env0.make C us []) (by have:=hb _ (Value.ref (hh.objs.size+1)::us) I2.kIn (by simpa using hlen);simpa using this) r2 hq) fun r s' hq'=>?_;cases r with
 | error e=>exact hpx pins σ _ _ e s' I2 hq'
 | ok fl =>
  cases fl with
  | ret u =>
   obtain⟨v,H',I3,rv,ev,q,h1,h2,eH,q3⟩:=I2.after hq';subst ev;rw[eH] at I3;exact⟨rv,hR q q3 h1 h2 s' I3⟩
  | next=>exact False.elim hq'
  | brk=>exact False.elim hq'
  | cont=>exact False.elim hq'
theorem GH{q:Addr}{o1 o2 o3:HO}(h:q≠a):upd (upd (upd H a o1) q o2) a o3=upd (upd H q o2) a o3:=by
 funext b
 by_cases hb:b=a
 ·subst hb;rw[ak,ak]
 ·rw[bt hb,bt hb]
  by_cases hq:b=q
  ·subst hq;rw[ak,ak]
  ·rw[bt hq,bt hq,bt hb]
theorem HC{E:XK}{C:Addr}{x fl:Str}(hx:eO X E)(hex:X.ex=[])(M:XI X.K C f)(F:ay X.prog X.w X.K X.mg X.base CX k f fd ps (u5 C fl))(hr:aT (k+1) X.A)(hb:Binds X.K fd ps [])(hpx:gM CX X E)(hg:Gl X x)(hm:X.mg x=some (.ref C))(hh:X.A.handled=none)(he:PE X e te)(hs:starEach [e] X.env=[(false,eval e X.env)]:=by rfl)(hd:(x==("__debug__" : Str))=false:=by decide) :
  PS X (.Raise (some (.Call (.Name x np) [e] [] cpos)) none pos) (fun _ σ H=>te σ H fun y H1=>∃n,y=.int n/\n.natAbs<1000/\∀q,H1 q=none->E (.int (q:Int) C) none (upd H1 q (.ext (VS.NumP q fl n)))):=by
 intro pins s σ H D I hq;obtain⟨bm,N,nm,qn,bs,hdct,sn,sub,ab,col,dd,k0,k1,k2,k3,k5,hC,T⟩:=qp M.exc I.ok.mod.kin;have ev:wpAny (model X.prog X.w) X.A (eval (.Call (.Name x np) [e] [] cpos) X.env) (fun v s₁=>∃e D t sl,v=.ref e/\s₁.heap.get? C=some (excClassObj nm qn C N bs bm hdct sn sub ab col dd k0 k1 k2 k3 k5 "ValueError.__new__")/\s₁.heap.get? e=some ⟨.ref C,D,.fields #[.ref t,.none,.none,.none,.bool false,.none],sl⟩/\X.xe (.ref e) s₁) X.xe s:=by
  refine wpAny_Call_Name_kw (jY I hg hm ?_ hd);refine callWith_K (h₀:=X.base) I.ok.mod.kin M.kp (aO (nj he oy (by rw[hs];rfl) cpos pins s σ H (fun vs H1=>match vs with|[y]=>(∃n,y=.int n/\n.natAbs<1000/\∀q,H1 q=none->E (.int (q:Int) C) none (upd H1 q (.ext (VS.NumP q fl n))))|_=>False) I hq) fun us s1 ⟨vs,H1,I1,r,q⟩=>⟨I1.kIn,?_⟩) (by rw[hs];rfl) rfl
  match vs,r,q with
  | [y],r,⟨n,ey,hn,q⟩ =>
   subst ey;have hl1:us.length=1:=r.length.symm;have hC1:=I1.bk _ _ hC;have hnw:Nw X pins (s1.heap.objs.size+1):=lF hex I1 (Heap.get?_none_of_le (le_succ _));have hH1:H1 (s1.heap.objs.size+1)=none:=I1.hok.fresh (le_succ _);refine EF (φ:=fun q=>VS.NumP q fl n) (R:=fun q=>E (.int (q:Int) C) none (upd H1 q (.ext (VS.NumP q fl n)))) M F hr hb hpx I1 r (by rw[nil_append,hl1];decide) ⟨_,n,rfl,hn,ak,fun q' h1 h2=>⟨rfl,q',?_,h2,GH h2,q q' ?_⟩⟩ fun q' hE h1 h2 s' I3=>?_
   ·rwa [bt h2] at h1
   ·rwa [bt h2] at h1
   ·obtain⟨t,sl,e⟩:=(show aE X.prog X.w _ s'.heap (s1.heap.objs.size+1) (.ext (bP (s1.heap.objs.size+1) C q')) from I3.hok _ _ ak).1;have ha:upd H1 q' (.ext (VS.NumP q' fl n)) (s1.heap.objs.size+1)=none:=by rw[bt (Ne.symm h2)];exact hH1
    exact⟨_,_,_,_,rfl,I3.bk _ _ hC,e,hx pins σ _ s' _ (.int (q':Int) C) (I3.untrack ha) ⟨_,_,_,hnw,ha,e,⟨rfl,by simp⟩,rfl,rfl,.inl rfl⟩ hE⟩
 rw[arm_exec_Raise]
 first
  | refine wpAny_bind (wpAny_standAt (uk (T.hasType (show i9.contains (.type "BaseException")=true by decide)) hh (wpAny_bind (wpAny_mono ev (fun v s₁ h₁=>wpAny_bind (wpAny_standAt (wpAny_pure h₁))) fun _ _ x=>x))))
  | (simp only[evalOpt,Option.map];refine wpAny_bind (wpAny_standAt (uk (T.hasType (show i9.contains (.type "BaseException")=true by decide)) hh (wpAny_bind (wpAny_mono ev (fun v s₁ h₁=>wpAny_bind (wpAny_standAt (wpAny_pure h₁))) fun _ _ x=>x)))))
  | (show wpAny _ _ (do standAt pos;raiseStmt X.env (some (do let v <- eval (.Call (.Name x np) [e] [] cpos) X.env;standAt pos;pure v)) none) _ _ s;refine wpAny_bind (wpAny_standAt (uk (T.hasType (show i9.contains (.type "BaseException")=true by decide)) hh (wpAny_bind (wpAny_mono ev (fun v s₁ h₁=>wpAny_bind (wpAny_standAt (wpAny_pure h₁))) fun _ _ x=>x)))))
end L2
namespace VS
def nq(x f:Str)(i:Nat):DS:=fun sl ce=>match sl[i]? with
 | some (some (.int n))=>if n.natAbs<1000 then some (.ex ⟨x,some (f,.int n)⟩ ce) else none
 | _=>none
section
variable {E:XK} {x y fl:Str} {p:Pos}
theorem HB(hx:eO X E)(hpx:gM (bp X.prog X.w) X E)(hK:X.K=K)(M:XI X.K (clOf K x) f)(Fi:ay X.prog X.w X.K X.mg X.base (bp X.prog X.w) k f fd ps (u5 (clOf K x) fl))(hr:aT (k+1) X.A)(hb:Binds X.K fd ps [])(hm:X.mg x=some (.ref (clOf K x)))(hex:X.ex=[])(hg:Gl X x)(hh:X.A.handled=none)(hN:X.N[i]?=some y)(hv:mm X.env.scope y)(hd2:(y==("__debug__" : Str))=false:=by decide)(hcd:(y==("__classdict__" : Str))=false:=by decide)(he:starEach [.Name y p] X.env=[(false,eval (.Name y p) X.env)]:=by rfl)(hd:(x==("__debug__" : Str))=false:=by decide) :
  PS X (.Raise (some (.Call (.Name x np) [.Name y p] [] cpos)) none pos) (dF (Gy K) E (nq x fl i)):=by
 refine PS.imp (HC (E:=E) (C:=clOf K x) hx hex M Fi hr hb hpx hg hm hh (m6 (pos:=p) hN hv hd2 hcd) he hd) fun D σ H zz_=>bB zz_ fun F as sl ce S P=>?_;unfold nq at P;split at P
 ·rename_i n e;split at P
  ·rename_i hn;obtain⟨v,e1,e2⟩:=S.slot i _ e;simp only[Rep] at e2;subst e2;refine⟨.int n,e1,n,rfl,hn,fun q hq=>?_⟩;obtain⟨S',l⟩:=S.st.freeze (o:=.ext (NumP q fl n)) hq;exact P _ _ as (.int (q:Int) (clOf K x)) none l S' ⟨rfl,q,n,rfl,rfl,ak⟩
  ·exact(show False from P).elim
 ·exact(show False from P).elim
end
end VS
namespace L2
open PySem.W PySem.Builtin PySem.Builtin.ObjectAttr PySem.Builtin.Getset_descriptor
section
variable {d:Drawn} {t:Nat} {C D:Addr} {o:Obj}
theorem GG{tk:Tok}{f:Str}{m:Str->Option Value}{v:Value}{Q:Fin->Shared->Prop}(X:K.In h)(hx:h.get? a=some o)(hc:o.cls=.ref C)(hdt:o.data=.fields vs)(hdc:o.dict=some D)(hcd:clsIn K C=some cd)(hdd:cd.hasDict=true)(hnf:findIn K (.ref C) f=some none)(hN:h.Ns D m)(hm:m f=some v)(hq:Q (.done (.ret v)) ⟨h,g,d,t,os⟩) :
  wpAny (model prog w) A (Builtin.«object.__getattribute__» ⟨[.ref a,.str f tk],[]⟩) Q E ⟨h,g,d,t,os⟩:=by
 have L2:=looks_findIn (M:=model prog w) X hnf;unfold Builtin.«object.__getattribute__»
 repeat (any_goals (first|assumption|(with_reducible refine wpAny_loadPart_at hx ?_;rw[hc])|with_reducible refine L2.at ?_|wp_step))
 rw[hdt];dsimp only;have hI:wpAny (model prog w) A (instanceDict a false) (fun r s'=>r=some D/\s'=⟨h,g,d,t,os⟩) E ⟨h,g,d,t,os⟩:=by
  unfold instanceDict
  repeat (any_goals (first|assumption|(with_reducible refine wpAny_loadPart_at hx ?_;rw[hdc])|wp_step))
  rw[hc];refine wpAny_bind (here (looks_clsIn X hcd) ?_);rw[hdd];exact wpAny_pure ⟨rfl,rfl⟩
 refine wpAny_mono hI (fun r s' ⟨e1,e2⟩=>?_) fun _ _ z=>z;subst e1 e2;unfold inDict;refine wpAny_nsGet hN ?_;rw[hm]
 repeat (any_goals (first|assumption|wp_step))
theorem BJ{tk:Tok}{f:Str}{m:Str->Option Value}{n:Int}{tn:Tok}{ex:Bool}{Q:Value->Shared->Prop}(X:K.In h)(hx:h.get? a=some o)(hc:o.cls=.ref C)(hdt:o.data=.fields vs)(hdc:o.dict=some D)(hcd:clsIn K C=some cd)(hdd:cd.hasDict=true)(hnf:findIn K (.ref C) f=some none)(hN:h.Ns D m)(hm:m f=some (.int n tn))(hga:findIn K (.ref C) "__getattribute__" = some (some (.builtin "BaseException.__getattribute__")))(hgh:findIn K (.ref C) "__getattr__" = some none)(hb:mroIn K C (.type "BaseException")=some true)(hq:Q (.int n tn) ⟨h,g,d,t,os⟩) :
  wpAny (model prog w) A (getAttrBy (.ref a) (.str f tk) fl ex) Q E ⟨h,g,d,t,os⟩:=by
 have f3:=PySem.F.attr_ValueError.ga.bind (.ref a);have hx2:(Value.builtin "BaseException.__getattribute__" == Value.builtin "object.__getattribute__")=false:=by decide +kernel
 have hx1:(onTheHeap (Value.ref C)&&Value.builtin "BaseException.__getattribute__" == Value.builtin "object.__getattribute__")=false:=by rw[hx2];rfl
 have L1:=looks_findIn (M:=model prog w) X hga;have L2:=looks_findIn (M:=model prog w) X hgh
 repeat (any_goals (first|assumption|(with_reducible refine wpAny_loadPart_at hx ?_;rw[hc])|with_reducible refine L1.at ?_|with_reducible refine L2.at ?_|wp_step))
 have hex:(ex&&onTheHeap (Value.builtin "BaseException.__getattribute__"))=false:=by cases ex<;>rfl
 rw[hex]
 repeat (any_goals (first|assumption|(with_reducible refine wpAny_loadPart_at hx ?_;rw[hc])|with_reducible refine L1.at ?_|with_reducible refine L2.at ?_|wp_step))
 refine codeAny_call_builtin PySem.F.attr_ValueError.ga.plain entry_bexc_ga (yL X hx hc hb (GG X hx hc hdt hdc hcd hdd hnf hN hm ?_))
 repeat (any_goals (first|assumption|wp_step))
end
end L2
namespace L2
open PySem.W
def nN(K:Frag)(C:Addr)(f:Str):Bool:=lE K C&&findIn K (.ref C) f==some none&&(clsIn K C).any (·.hasDict)
section
variable {f:Str}
theorem Cj(he:PE X e ta)(hb:attributeBase e f X.env (eval e X.env)=eval e X.env:=by rfl) :
  PE X (.Attribute e f pos) (fun σ H Q=>ta σ H fun x H1=>∃(a D C:Addr) (n:Int),x=.ref a/\H1 a=some (.ext (VS.XPhi a (.int (D:Int) C)))/\H1 D=some (.ext (VS.NumP D f n))/\nN X.K C f=true/\Q (.int n) H1):=by
 intro pins s σ H Q I h;refine xU hb (aO (he pins s σ H _ I h) fun u s1 ⟨x,H1,I1,rx,a,D,C,n,ex,ea,eD,hn,q⟩=>?_);subst ex;obtain rfl:u=Value.ref a:=rx;obtain⟨o,vs,e1,⟨tc,td⟩,e3,_⟩:=(show aE X.prog X.w H1 s1.heap a (.ext (VS.XPhi a (.int (D:Int) C))) from I1.hok a _ ea).1;obtain⟨m,t,hNs,hm⟩:=(show aE X.prog X.w H1 s1.heap D (.ext (VS.NumP D f n)) from I1.hok D _ eD).1;unfold nN at hn;simp only[and_eq_true,beq_iff_eq] at hn;obtain⟨⟨x1,x2⟩,x3⟩:=hn;obtain⟨q2,q3,q4,q5,q6,q7⟩:=xQ x1;obtain⟨cd,hcd,hdd⟩:=any_some x3;have hN':s1.heap.Ns (Int.toNat (D:Int)) m:=by rw[toNat_natCast];exact hNs
 unfold getAttr;obtain⟨hh,g,d,tk,os⟩:=s1;refine wpAny_bind (wpAny_mkText (BJ I1.kIn e1 tc e3 td hcd hdd x2 hN' hm q2 q3 q6 ⟨.int n,H1,I1.tok _,⟨_,rfl⟩,q⟩))
end
end L2
namespace VS
def rD(ce:Ce)(cn f:Str):W->Option W
 | .cel k=>match ce[k]? with
  | some (.exm c f' n)=>if c=cn/\f'=f then some (.int n) else none
  | _=>none
 | _=>none
def mr(cn f:Str)(d:Sl->M W):Sl->M W:=fun sl=>aw (d sl) fun w=>look fun ce=>rD ce cn f w
section
variable {E:XK} {f:Str}
theorem w8(hK:X.K=K)(hn:nN K (clOf K cn) f=true)(hx:PE X e (av (Gy K) E d))(hb:attributeBase e f X.env (eval e X.env)=eval e X.env:=by rfl):PE X (.Attribute e f pos) (av (Gy K) E (mr cn f d)):=by
 refine PE.imp (Cj hx hb) fun σ H Q zz_=>bB zz_ fun F as sl ce S P=>(step S P).mono fun v H1 zz_=>bf zz_ fun w F1 as1 ce1 l1 S1 r1 P1=>?_;obtain⟨w',e1,P2⟩:=jV P1;unfold rD at e1;split at e1
 ·rename_i k;split at e1
  ·rename_i c f' n ek;split at e1
   ·rename_i hcf;obtain⟨rfl,rfl⟩:=hcf;cases e1;simp only[Rep] at r1;obtain⟨a,rfl,ha⟩:=r1;obtain⟨_,D,q,hF⟩:=S1.st.cell k a _ ha ek;exact⟨a,D,_,n,rfl,q,S1.st.sub _ _ hF,by rw[hK];exact hn,aJ.done S1 (a:=W.int n) P2 (by simp only[Rep])⟩
   ·cases e1
  ·cases e1
 ·cases e1
theorem Ci{n:Int}(h:d sl ce=some (.ok (.cel k) c1))(g:c1[k]?=some (.exm cn f n)):mr cn f d sl ce=some (.ok (.int n) c1):=by simp only[mr,aw,h,look,rD,g,and_self,if_true,map_some]
end
end VS
namespace L2
open PySem.W
section
variable {R:Result->Shared->Prop} {it l:Addr} {items:Array Value} {parts:Nat->List Value}
abbrev fX(xs:List Value)(c:Nat):Obj:={ cls:=.type "list",data:=.seq xs.toArray c }
def iS(parts:Nat->List Value):Nat->Nat->List Value
 | _,0=>[]
 | i,k+1=>parts i++iS parts (i+1) k
theorem HA(hA:A.handled=none)(hSi:S≠it)(hli:l≠it)(hlS:l≠S):∀(k i:Nat) (s:Shared) (T:Addr) (tot:List Value) (c cT:Nat),items.size=i+k->s.heap.IsListIter it l i->s.heap.IsList l items->s.heap.get? S=some (fX [.ref T] c)->s.heap.get? T=some (fX tot cT)->T≠it->T≠S ->
  (∀j,i<=j->j<items.size->∃b cb,items[j]?=some (.ref b)/\b≠it/\b≠S/\s.heap.get? b=some (fX (parts j) cb))->tot.length+(iS parts i k).length<=sizeLine ->
  (∀h' T' c',(∀b o,b≠it->b≠S->s.heap.get? b=some o->h'.get? b=some o)->h'.get? T'=some (fX (tot++iS parts i k) c')->((k=0/\T'=T)\/s.heap.objs.size<=T')->R (.ok (.ret (.ref T'))) { s with heap:=h' }) ->
  codeAny (model prog w) A (.builtin "sum.loop" ⟨[.ref it,.ref S,rawInt 2,rawInt 0],[]⟩) R s:=by
 intro k
 induction k with
 | zero =>
  intro i s T tot c cT hk hI hL hS hT hTi hTS hp hz hR;obtain⟨hh,g,d,tk,os⟩:=s;refine codeAny_builtin entry_sum_loop ?_;unfold Builtin.«sum.loop»;dsimp only[rawInt];have hq:∀A':Around,wpAny (model prog w) A' (seqItems? (.ref S)) (fun r s'=>r=some #[.ref T]/\s'=(⟨hh,g,d,tk,os⟩:Shared)) (fun _ _=>False) ⟨hh,g,d,tk,os⟩:=fun A'=>by
   unfold seqItems?
   repeat (any_goals (first|assumption|with_reducible refine wpAny_loadPart_at hS ?_|wp_step))
   all_goals (first|exact⟨rfl,rfl⟩|skip)
  refine wpAny_bind (wpAny_mono (hq _) (fun r s' ⟨e1,e2⟩=>?_) fun _ _ z=>z.elim);subst e1 e2;dsimp only[getD_some];have hn:items[i]?=none:=by simp;omega
  refine wpAny_bind (wpAny_tryCatch (wpAny_pyNext_list_end (show(A.under _).handled=none from hA) hI hL hn fun h' eb=>?_));refine wpAny_pure ?_;refine hR h' T cT (fun b o h1 h2 e=>eb b o h1 e) ?_ (.inl ⟨rfl,rfl⟩);simp only[iS,append_nil];exact eb T _ hTi hT
 | succ k ih =>
  intro i s T tot c cT hk hI hL hS hT hTi hTS hp hz hR;obtain⟨hh,g,d,tk,os⟩:=s;refine codeAny_builtin entry_sum_loop ?_;unfold Builtin.«sum.loop»;dsimp only[rawInt];have hq:∀A':Around,wpAny (model prog w) A' (seqItems? (.ref S)) (fun r s'=>r=some #[.ref T]/\s'=(⟨hh,g,d,tk,os⟩:Shared)) (fun _ _=>False) ⟨hh,g,d,tk,os⟩:=fun A'=>by
   unfold seqItems?
   repeat (any_goals (first|assumption|with_reducible refine wpAny_loadPart_at hS ?_|wp_step))
   all_goals (first|exact⟨rfl,rfl⟩|skip)
  refine wpAny_bind (wpAny_mono (hq _) (fun r s' ⟨e1,e2⟩=>?_) fun _ _ z=>z.elim);subst e1 e2;dsimp only[getD_some];obtain⟨b,cb,hb,hbi,hbS,eb⟩:=hp i (le_refl _) (by omega);refine wpAny_bind (wpAny_tryCatch (wpAny_pyNext_list_item hI hL hb fun h1 hI1 sb=>?_));have eT1:h1.get? T=some (fX tot cT):=(sb.2 T hTi).trans hT;have eb1:h1.get? b=some (fX (parts i) cb):=(sb.2 b hbi).trans eb;have eS1:h1.get? S=some (fX [.ref T] c):=(sb.2 S hSi).trans hS;have hz':tot.length+(parts i).length+(iS parts (i+1) k).length<=sizeLine:=by simp only[iS,length_append] at hz;omega
  refine wpAny_bind (wpAny_attempt (wpAny_holding (add_list eT1 eb1 ?_ (by rw[size_toArray,size_toArray];omega))));have ea:tot.toArray++(parts i).toArray=(tot++parts i).toArray:=by simp
  rw[ea];have hSlt:S<h1.objs.size:=Heap.lt_size eS1;have hilt:it<h1.objs.size:=by obtain⟨o,q,_⟩:=id hI1;exact Heap.lt_size q
  have eS2:(h1.push (fX (tot++parts i) 0)).get? S=some (fX [.ref T] c):=Heap.get?_push_of_some _ eS1;refine wpAny_bind (wpAny_updateSeq (s:=⟨h1.push (fX (tot++parts i) 0),g,d,tk,os⟩) (f:=fun _=>#[.ref h1.objs.size]) eS2 rfl ?_ (by show 1<=sizeLine;decide) (by show 1<=sizeLine+1;decide));refine wpAny_bind (wpAny_letGo ?_);have eS3:=Heap.get?_update_self (Obj.mapSeq fun _=>#[.ref h1.objs.size]) eS2 rfl;refine wpAny_bind (wpAny_updateSeq (f:=fun _=>#[.ref h1.objs.size]) eS3 rfl ?_ (by show 1<=sizeLine;decide) (by show 1<=sizeLine+1;decide));have eS4:=Heap.get?_update_self (Obj.mapSeq fun _=>#[.ref h1.objs.size]) eS3 rfl;have keep:∀x o,x≠S->(h1.push (fX (tot++parts i) 0)).get? x=some o->(((h1.push (fX (tot++parts i) 0)).update S (Obj.mapSeq fun _=>#[.ref h1.objs.size])).update S (Obj.mapSeq fun _=>#[.ref h1.objs.size])).get? x=some o:=fun x o hx e=>(Heap.get?_update_ne _ _ _ _ hx).trans ((Heap.get?_update_ne _ _ _ _ hx).trans e);refine wpAny_pure (And.intro (Code.quiet_builtin _ (by decide +kernel)) ?_);have hNS:h1.objs.size≠S:=Ne.symm (ne_of_lt hSlt);have hNi:h1.objs.size≠it:=Ne.symm (ne_of_lt hilt);refine ih (i+1) _ h1.objs.size (tot++parts i) _ 0 (by omega) (hI1.at fun o q=>keep it o (Ne.symm hSi) (Heap.get?_push_of_some _ q)) ?_ eS4 (keep _ _ hNS (Heap.get?_push_size _ rfl)) hNi hNS (fun j h2 h3=>?_) (by rw[length_append];omega) fun h' T' c' hk' hT' hor=>?_
  ·obtain⟨o,q1,q2⟩:=hL;exact⟨o,keep l o hlS (Heap.get?_push_of_some _ ((sb.2 l hli).trans q1)),q2⟩
  ·obtain⟨b',cb',q1,q2,q3,q4⟩:=hp j (by omega) h3;exact⟨b',cb',q1,q2,q3,keep b' _ q3 (Heap.get?_push_of_some _ ((sb.2 b' q2).trans q4))⟩
  ·refine hR h' T' c' (fun x o h2 h3 e=>hk' x o h2 h3 (keep x o h3 (Heap.get?_push_of_some _ ((sb.2 x h2).trans e)))) (by simp only[iS];rw[<- append_assoc];exact hT') (.inr ?_);have hs1:h1.objs.size=hh.objs.size:=sb.1;rcases hor with ⟨_,rfl⟩|hor
   ·rw[hs1];exact le_refl _
   ·simp only[Heap.update,Heap.push,size_modify,size_push] at hor;show hh.objs.size<=T';omega
theorem tK:∀{xs ys:List V} {us vs:List Value},Vals xs us->Vals ys vs->Vals (xs++ys) (us++vs)
 | _,_,_,_,.nil,t=>t
 | _,_,_,_,.cons r t,t'=>.cons r (tK t t')
theorem zj:∀(yss:List (List V)) (i:Nat),(∀j ys,yss[j]?=some ys->Vals ys (parts (i+j)))->Vals yss.flatten (iS parts i yss.length)
 | [],_,_=>.nil
 | ys::yss,i,h=>by
  refine tK (h 0 ys rfl) (zj yss (i+1) fun j zs e=>?_);have:=h (j+1) zs (by simpa using e);rwa [show i+(j+1)=i+1+j by omega] at this
theorem JM:isSubtype (.type "list") (.type "bytes")=pure false:=by rw[isSubtype_type];kernel_rfl
theorem J6:isSubtype (.type "list") (.type "bytearray")=pure false:=by rw[isSubtype_type];kernel_rfl
theorem Hz(a b:Value):argsOk "sum" ⟨[a,b],[]⟩:=by unfold argsOk;kernel_rfl
theorem Hy{Q:Value->Shared->Prop}{b:Addr}{tot:List Value}{cT:Nat}{items:List Value}{ca:Nat}(hA:A.handled=none)(ha:s.heap.get? a=some (fX items ca))(hb:s.heap.get? b=some (fX tot cT))(hp:∀j,j<items.length->∃c cb,items[j]?=some (.ref c)/\s.heap.get? c=some (fX (parts j) cb))(hz:tot.length+(iS parts 0 items.length).length<=sizeLine)(hn:items≠[])(hQ:∀h' T' c',(∀b o,s.heap.get? b=some o->h'.get? b=some o)->h'.get? T'=some (fX (tot++iS parts 0 items.length) c')->s.heap.objs.size<=T'->Q (.ref T') { s with heap:=h' }) :
  wpAny (model prog w) A (call (.builtin "sum") [.ref a,.ref b]) Q E s:=by
 refine call_function_tree F.kind_sum F.plain_sum F.entry_sum (Hz _ _) ?_;unfold Builtin.«sum»;simp only[length_cons,length_nil];rw[if_neg (by decide)];refine wpAny_bind (wpAny_of_eq (show Builtin.Builtins.bindParams "sum" ["start"] 0 ⟨[.ref b],[]⟩=pure [some (.ref b)] from rfl) ?_);have hl:s.heap.IsList a items.toArray:=⟨_,ha,rfl,ca,rfl⟩
 have hla:=Heap.lt_size ha;have hlb:=Heap.lt_size hb;refine wpAny_bind (wpAny_pyIter_list hl ?_);refine wpAny_bind (wpAny_pure ?_);simp only[forIn_cons,forIn_nil];have tb:({ s with heap:=s.heap.push { cls:=.type "list_iterator",data:=.fields #[.ref a,.int 0 0] } }:Shared).TypeIs (.ref b) "list" := ⟨_,Heap.get?_push_of_some _ hb,rfl⟩
 refine wpAny_bind (wpAny_bind (wpAny_bind (wpAny_isInstance (T := "list") (b:=false) tb sub_list_str ?_)));simp only[false_eq_true,if_false];refine wpAny_pure (wpAny_bind (wpAny_bind (wpAny_isInstance (T := "list") (b:=false) tb JM ?_)));simp only[false_eq_true,if_false];refine wpAny_pure (wpAny_bind (wpAny_bind (wpAny_isInstance (T := "list") (b:=false) tb J6 ?_)));simp only[false_eq_true,if_false];refine wpAny_pure (wpAny_pure ?_);refine wpAny_bind (wpAny_newList ?_ (by show 1<=sizeLine;decide));have hsz:(s.heap.push { cls:=.type "list_iterator",data:=.fields #[.ref a,.int 0 0] }).objs.size=s.heap.objs.size+1:=by simp only[Heap.push,size_push]
 have two:∀x o,s.heap.get? x=some o->((s.heap.push { cls:=.type "list_iterator",data:=.fields #[.ref a,.int 0 0] }).push { cls:=.type "list",data:=.seq [Value.ref b].toArray }).get? x=some o:=fun x o e=>Heap.get?_push_of_some _ (Heap.get?_push_of_some _ e);refine wpAny_pure ⟨plainId_quiet F.plain_sum_loop _,HA (it:=s.heap.objs.size) (l:=a) (S:=(s.heap.push { cls:=.type "list_iterator",data:=.fields #[.ref a,.int 0 0] }).objs.size) (items:=items.toArray) (parts:=parts) hA (hsz▸ne_of_gt (lt_succ_self _)) (ne_of_lt hla) (hsz▸ne_of_lt (lt_succ_of_lt hla)) items.length 0 _ b tot 0 cT (by simp)
  ⟨_,Heap.get?_push_of_some _ (Heap.get?_push_size _ rfl),rfl,rfl⟩ ⟨_,two _ _ ha,rfl,ca,rfl⟩ (Heap.get?_push_size _ rfl) (two _ _ hb) (ne_of_lt hlb) (hsz▸ne_of_lt (lt_succ_of_lt hlb)) (fun j _ h2=>?_) hz fun h' T' c' kp e hor=>?_⟩
 ·obtain⟨c,cb,q1,q2⟩:=hp j (by simpa using h2);have:=Heap.lt_size q2;exact⟨c,cb,by simpa using q1,ne_of_lt this,hsz▸ne_of_lt (lt_succ_of_lt this),two _ _ q2⟩
 ·refine hQ h' T' c' (fun x o q=>?_) e ?_
  ·have:=Heap.lt_size q;exact kp x o (ne_of_lt this) (hsz▸ne_of_lt (lt_succ_of_lt this)) (two _ _ q)
  ·rcases hor with ⟨h1,_⟩|hor
   ·exact absurd (eq_nil_of_length_eq_zero h1) hn
   ·simp only[Heap.push,size_push] at hor;exact le_trans (le_trans (le_succ _) (le_succ _)) hor
end
def vN:List V->Hp->VK->Prop:=fun xs H Q=>∃(a b:Addr) (ps st:List V) (yss:List (List V)),xs=[.ref a,.ref b]/\Rd H a (.lst ps)/\Rd H b (.lst st)/\ps.length=yss.length/\(∀(j:Nat) (ys:List V),yss[j]?=some ys->∃c,ps[j]?=some (.ref c)/\Rd H c (.lst ys))/\ps≠[] /\
  (st++yss.flatten).length<=sizeLine/\∀l,H l=none->Q (.ref l) (upd H l (.lst (st++yss.flatten)))
theorem yJ:∀{xs:List V} {us:List Value},Vals xs us->∀(j:Nat) (c:Addr),xs[j]?=some (.ref c)->us[j]?=some (.ref c)
 | _,_,.cons r _,0,c,e=>by
  simp only[getElem?_cons_zero,Option.some.injEq] at e;subst e;cases r;rfl
 | _,_,.cons _ t,j+1,c,e=>by
  have:=yJ t j c (by simpa using e);simpa using this
theorem Hx(hc:X.calm=true:=by rfl):aP X (.builtin "sum") vN:=by
 intro pins s σ H xs us Q I r h;obtain⟨a,b,ps,st,yss,rfl,ha,hb,hl,hp,hn,hz,q⟩:=h;obtain⟨u,v,rfl,r1,r2⟩:=og r;cases r1;cases r2;obtain⟨za,its,na,ra,ea⟩:=ha.ok I.hok;obtain⟨zb,tot,nb,rb,eb⟩:=hb.ok I.hok;have hlen:=ra.length;have key:∀j:Nat,∃p:List Value,∀ys,yss[j]?=some ys->Vals ys p/\∃c cb,its[j]?=some (.ref c)/\s.heap.get? c=some (fX p cb):=fun j=>by
  cases e:yss[j]? with
  | none=>exact⟨[],fun ys h=>nomatch h⟩
  | some ys =>
   obtain⟨c,e1,e2⟩:=hp j ys e;obtain⟨_,p,n,rp,ep⟩:=e2.ok I.hok;exact⟨p,fun ys' h=>by cases h;exact⟨rp,c,n,yJ ra j c e1,ep⟩⟩
 obtain⟨parts,hparts⟩:=Classical.skolem.mp key;have hv:Vals yss.flatten (iS parts 0 its.length):=by
  have:=zj (parts:=parts) yss 0 fun j ys e=>by rw[zero_add];exact(hparts j ys e).1
  rwa [show yss.length=its.length by omega] at this
 have hva:=tK rb hv;have hz2:tot.length+(iS parts 0 its.length).length<=sizeLine:=by have:=hva.length;rw[length_append (as:=tot)] at this;omega
 refine Hy (parts:=parts) (I.ok.hd hc) ea eb (fun j hj=>?_) hz2 (fun e=>?_) fun h' T' c' kp e hT=>?_
 ·obtain⟨ys,e⟩:∃ys,yss[j]?=some ys:=⟨yss[j]'(by omega),getElem?_eq_getElem _⟩
  exact(hparts j ys e).2
 ·subst e;exact hn (eq_nil_of_length_eq_zero hlen)
 ·exact⟨.ref T',_,I.laid (t':=s.toks) (a:=T') (o:=.lst (st++yss.flatten)) kp hT ⟨hz,_,c',hva,e⟩,rfl,q _ (I.hok.fresh hT)⟩
end L2
namespace VS
def n_(ce:Ce):List W->Option (List (List W))
 | []=>some []
 | w::ws=>match bU ce w,n_ ce ws with
  | some xs,some yss=>some (xs::yss)
  | _,_=>none
def n8:List W->M W:=fun ws ce=>match ws with
 | [p,b]=>match bU ce p,bU ce b with
  | some ps,some st=>match n_ ce ps with
   | some yss=>if ps.isEmpty then none else aQ (st++yss.flatten) ce
   | none=>none
  | _,_=>none
 | _=>none
section
variable {E:XK}
theorem yI{F:Hp}{as:List Addr}{H:Hp}{ce:Ce}(S:ax G F as H ce):∀{ps:List W} {vs:List V} {yss:List (List W)},ah F as ps vs->n_ ce ps=some yss->∃uss:List (List V),vs.length=uss.length/\(∀(j:Nat) (ys:List V),uss[j]?=some ys->∃c,vs[j]?=some (.ref c)/\Rd H c (.lst ys))/\ah F as yss.flatten uss.flatten
 | [],vs,yss,r,e=>by
  simp only[ah] at r;simp only[n_,Option.some.injEq] at e;subst r e;exact⟨[],rfl,fun j ys h=>by simp at h,ah.nil⟩
 | w::ws,vs,yss,r,e=>by
  simp only[ah] at r;obtain⟨v,vs',rfl,h,t⟩:=r;simp only[n_] at e;split at e
  ·rename_i xs yss' e1 e2;cases e;obtain⟨a,us,rfl,h1,h2⟩:=iG S h e1;obtain⟨uss,q1,q2,q3⟩:=yI S t e2;refine⟨us::uss,by simp[q1],fun j ys q=>?_,by simpa using h2.append q3⟩;cases j with
   | zero=>simp only[getElem?_cons_zero,Option.some.injEq] at q;subst q;exact⟨a,rfl,h1⟩
   | succ j=>simpa using q2 j ys (by simpa using q)
  ·cases e
theorem Cg:Bi G E vN n8:=by
 intro F as H σ sl ce ws vs Q S rs P;unfold n8 at P;split at P
 ·rename_i p b;obtain⟨v,u,rfl,r1,r2⟩:=xJ rs;split at P
  ·rename_i ps st e1 e2;split at P
   ·rename_i yss e3;split at P
    ·exact P.elim
    ·rename_i hne;obtain⟨a,vs1,rfl,h1,q1⟩:=iG S.st r1 e1;obtain⟨b,vs2,rfl,h2,q2⟩:=iG S.st r2 e2;obtain⟨uss,t1,t2,t3⟩:=yI S.st q1 e3;obtain⟨z1,z2⟩:=sZ S (q2.append t3) P;refine⟨a,b,vs1,vs2,uss,rfl,h1,h2,t1,t2,fun z=>hne ?_,?_,z2⟩
     ·have:=q1.length;rw[z] at this;cases ps with
      | nil=>rfl
      | cons _ _=>simp at this
     ·rw[(q2.append t3).length];exact z1
   ·exact P.elim
  ·exact P.elim
 ·exact P.elim
end
end VS
namespace L2
end L2
namespace VS
section
variable {E:XK}
end
end VS
variable {fa:Addr}
namespace K20
def cE:jw:=[("StoneError",true,["StoneError"]),("NoBoard",true,["NoBoard", "StoneError"]),("NoStand",true,["NoStand", "StoneError"]),("NoLay",true,["NoLay", "StoneError"]),("NoBreath",true,["NoBreath", "StoneError"]),("Again",false,["Again", "StoneError"]),("Over",true,["Over", "StoneError"]),("NoBack",true,["NoBack", "StoneError"]),("TooMuch",true,["TooMuch", "StoneError"]),("NoText",false,["NoText", "StoneError"]),("NoRow",true,["NoRow", "StoneError"]),("NoPoint",true,["NoPoint", "StoneError"])]
def d_ba(fu:Nat):List W->M W:=bJ finC 1
 (aW (mx (aR eQ (ag (aa 0) (ag (dC (.ty "int")) ai))) (vi (aR eQ (ag (aa 0) (ag (dC (.ty "bool")) ai))))))
def d_p(fu:Nat):List W->M W:=bJ finC 1
 (aW (aH gU (dC (.int 3)) (aa 0)))
def Ai(fu:Nat):DS :=
 (bb (gF (dB (aD (kS true) (aa 6) (aa 3))) (dB (aD (bD false) (aD aC (aa 1) (aa 6)) (aD aC (aa 1) (aa 2))))) (aq (iM (aa 3) (aa 6) (dC (.bl true)))
 (b_ (cR cP (aa 4) (ag (aa 6) ai)))) bu)
def Ah(fu:Nat):DS :=
 (aq (aM 5 (kP kO (aa 4)))
 (cD (i8 (aD aC (aa 0) (aa 5))) (gN 6) (Ai fu)))
def d_da(fu:Nat):List W->M W:=bJ finO 7
 (aq (aM 3 (ot (aa 2) (dC (.bl true))))
 (aq (aM 4 (dX (ag (aa 2) ai)))
 (aq (iX (i_ (aa 4)) (Ah fu) fu)
 (aW (aR (fi fF) (ag (aa 3) ai))))))
def z6(fu:Nat):DS :=
 (iM (aa 2) (aa 6) (dC (.bl true)))
def zZ(fu:Nat):DS :=
 (bb (dB (aD (kS true) (aa 4) (aa 2))) (aq (aM 5 (bc 3 (cX (d_da fu)) (ag (aa 0) (ag (aa 1) (ag (aa 4) ai)))))
 (aq (b_ (cR cP (aa 3) (ag (aa 5) ai)))
 (cD (cS (aa 5)) (gN 6) (z6 fu)))) bu)
def d_ga(fu:Nat):List W->M W:=bJ finO 7
 (aq (aM 2 ki)
 (aq (aM 3 (dX ai))
 (aq (cD (fQ (ag (aR bK (ag (aa 0) ai)) ai)) (gN 4) (zZ fu))
 (aW (aa 3)))))
def d_aa(fu:Nat):List W->M W:=bJ finC 2
 (aq (bb (ie (fK (dB (aR eQ (ag (aa 1) (ag (dC (.ty "tuple")) ai))))) (dB (aD (bD true) (aR bK (ag (aa 1) ai)) (aR bK (ag (aa 0) ai))))) (aW (dC (.bl false))) bu)
 (aW (aR mw (ag (cM aQ [] (i8 (aa 1)) dD (eJ (mx (bc 1 (d_ba fu) (ag (aa 0) ai)) (oF (fun _=>kL) (fun _=>kL) (dC (.int 0)) (aa 0) (dC (.int 2)))))) ai))))
def d_ja(fu:Nat):List W->M W:=bJ finO 3
 (aW (bc 3 (d_da fu) (ag (aa 0) (ag (aa 1) (ag (aa 2) ai)))))
def d_ka(fu:Nat):List W->M W:=bJ finC 2
 (aW (cM aQ [1] (cS (bc 2 (cX (d_ga fu)) (ag (aa 0) (ag (aa 1) ai)))) (dB (aD (bD true) (aD aC (aa 1) (aD aC (aa 0) (dC (.int 0)))) (dC (.int 0)))) (aa 0)))
def AH(fu:Nat):DS :=
 (iM (aa 2) (aa 4) (dC (.bl true)))
def AG(fu:Nat):DS :=
 (cD (i8 (aD aC (aa 0) (aa 3))) (gN 4) (AH fu))
def d_e(fu:Nat):List W->M W:=bJ finO 5
 (aq (aM 2 ki)
 (aq (cD (cS (aa 1)) (gN 3) (AG fu))
 (aW (aR (fi fF) (ag (aa 2) ai)))))
def d_fa(fu:Nat):List W->M W:=bJ finO 3
 (aW (cM fF [1] (cS (bc 2 (cX (d_e fu)) (ag (aa 0) (ag (aa 2) ai)))) (dB (aD (bD false) (aD aC (aa 1) (aa 0)) (dC (.int 0)))) (aa 0)))
def d_ca(fu:Nat):List W->M W:=bJ finC 2
 (aW (aR mw (ag (cM aQ [0,1] (cS (bc 2 (d_ka fu) (ag (aa 0) (ag (aa 1) ai)))) dD (eJ (aH gw (aR bK (ag (bc 3 (cX (d_fa fu)) (ag (aa 1) (ag (aa 2) (ag (aa 0) ai)))) ai)) (dC (.int 0))))) ai)))
def zi(fu:Nat):DS :=
 (iN (aa 2) (kh (aa 3) (aa 4)))
def d_ia(fu:Nat):List W->M W:=bJ finC 5
 (aq (aM 3 (aR (iq fF) (ag (aa 0) ai)))
 (aq (cD (cS (aa 1)) (gN 4) (zi fu))
 (aW (aR gv (ag (aa 3) ai)))))
def Av(fu:Nat):DS :=
 (bb (gF (dB (aD (bD false) (aD aC (aa 1) (aD aC (aa 4) (dC (.int 0)))) (aa 2))) (fK (i_ (bc 3 (cX (d_fa fu)) (ag (aa 0) (ag (aa 1) (ag (aa 4) ai))))))) (b_ (cR nO (aa 3) (ag (aa 4) ai))) bu)
def d_t(fu:Nat):List W->M W:=bJ finO 5
 (aq (aM 3 (dX ai))
 (aq (cD (cS (bc 2 (d_ka fu) (ag (aa 0) (ag (aa 1) ai)))) (gN 4) (Av fu))
 (aW (aR (fi fF) (ag (aa 3) ai)))))
def d_la(fu:Nat):List W->M W:=bJ finC 7
 (aq (bb (dB (aD (bD true) (aD aC (aa 1) (aa 3)) (dC (.int 0)))) (gJ "NoLay" [3]) bu)
 (aq (aM 4 (bc 3 (d_ia fu) (ag (aa 1) (ag (dO (ag (aa 3) ai)) (ag (aa 2) ai)))))
 (aq (aM 5 (bc 3 (cX (d_t fu)) (ag (aa 0) (ag (aa 4) (ag (bc 1 (d_p fu) (ag (aa 2) ai)) ai)))))
 (aq (aM 6 (bc 3 (d_ia fu) (ag (aa 4) (ag (aa 5) (ag (dC (.int 0)) ai)))))
 (aq (bb (fK (i_ (bc 3 (cX (d_fa fu)) (ag (aa 0) (ag (aa 6) (ag (bc 3 (cX (d_ja fu)) (ag (aa 0) (ag (aa 6) (ag (aa 3) ai)))) ai)))))) (gJ "NoBreath" [3]) bu)
 (aW (eK (ag (aa 6) (ag (aa 5) ai)))))))))
def zY(fu:Nat):DS :=
 (aq (gz (bc 4 (d_la fu) (eJ (ag (aa 0) (ag (aa 1) (ag (aa 2) (ag (aa 5) ai)))))) (some 6) (fun x=>iB cE "NoLay" x||iB cE "NoBreath" x) (fun _=>pk vh))
 (b_ (cR cP (aa 4) (ag (eK (ag (aa 5) (ag (aD aC (aa 6) (dC (.int 0))) (ag (aD aC (aa 6) (dC (.int 1))) ai)))) ai))))
def d_ha(fu:Nat):List W->M W:=bJ finO 7
 (aq (aM 4 (dX ai))
 (aq (cD (cS (aa 3)) (gN 5) (zY fu))
 (aW (aa 4))))
def Az(fu:Nat):DS :=
 (aq (aM 3 (aH bW (aH cI (aH cI (aH fG (aa 3) (aa 3)) (aH fG (dC (.int 48271)) (aa 3))) (aa 4)) (dC (.int 2147483647))))
 (b_ (cR cP (aa 2) (ag (aa 3) ai))))
def d_k(fu:Nat):List W->M W:=bJ finC 5
 (aq (aM 2 (dX ai))
 (aq (aM 3 (aH cI (aH bW (aa 0) (dC (.int 2147483647))) (dC (.int 48271))))
 (aq (cD (fQ (ag (aH cI (aa 1) (dC (.int 1))) ai)) (gN 4) (Az fu))
 (aW (fO aQ (aa 2) (dW (dC (.int 1))) iF)))))
def Ay(fu:Nat):DS :=
 (aq (b_ (cR cP (aD aC (aa 2) (aa 3)) (ag (aa 4) ai)))
 (b_ (cR cP (aD aC (aa 2) (aa 4)) (ag (aa 3) ai))))
def d_l(fu:Nat):List W->M W:=bJ finC 5
 (aq (aM 2 (cM aQ [] (fQ (ag (aa 0) ai)) dD (dX ai)))
 (aq (cD (cS (aa 1)) (gT 2 (jR (gN 3) (jR (gN 4) n6))) (Ay fu))
 (aW (aR gv (ag (cM aQ [] (cS (aa 2)) dD (aR gv (ag (aR (fi aQ) (ag (aa 0) ai)) ai))) ai)))))
def Au(fu:Nat):DS :=
 (bb (dB (aH ml (aH bW (aD aC (aa 5) (aH cI (aH fG (aa 6) (aa 2)) (aa 7))) (dC (.int 5))) (aH bW (aD aC (aa 0) (dC (.int 1))) (dC (.int 4))))) (b_ (cR cP (aa 3) (ag (eK (ag (aa 7) (ag (aa 6) ai))) ai))) bu)
def As(fu:Nat):DS :=
 (cD (fQ (ag (aa 6) ai)) (gN 7) (Au fu))
def d_o(fu:Nat):List W->M W:=bJ nP 8
 (aq (bb (dB (aH ft (aH bW (aD aC (aa 0) (dC (.int 1))) (dC (.int 4))) (dC (.int 0)))) (aq (aM 1 (aH cI (dC (.int 1)) (aH bW (aD aC (aa 0) (dC (.int 0))) (dC (.int 4)))))
 (aq (aM 2 (aH fG (aa 1) (aH cI (dC (.int 1)) (aH bW (aD aC (aa 0) (dC (.int 2))) (dC (.int 4))))))
 (aq (bb (dB (aH ft (aH bW (aH mz (aD aC (aa 0) (dC (.int 2))) (dC (.int 4))) (dC (.int 9))) (dC (.int 0)))) (aq (aM 1 (aH cI (dC (.int 3)) (aH bW (aD aC (aa 0) (dC (.int 0))) (dC (.int 4)))))
 (aM 2 (aH fG (dC (.int 6)) (aa 1)))) bu)
 (aq (aM 3 (cM fF [1] (fQ (ag (aH gU (aa 2) (aa 1)) ai)) dD (eK (ag (aa 0) (ag (aH cI (aa 0) (aa 1)) ai)))))
 (aq (aM 4 (cM aQ [1] (fQ (ag (aH gU (aa 2) (dC (.int 1))) ai)) (dB (aH gw (aH bW (aH cI (aa 0) (dC (.int 1))) (aa 1)) (dC (.int 0)))) (aa 0)))
 (aW (eK (ag (aa 2) (ag (fR aQ (aa 3) (cM aQ [] (cS (aa 4)) dD (eK (ag (aa 0) (ag (aH cI (aa 0) (dC (.int 1))) ai))))) ai))))))))) bu)
 (aq (aM 2 (aH cI (dC (.int 1)) (aH bW (aD aC (aa 0) (dC (.int 0))) (aD aC (dO (ag (dC (.int 0)) (ag (dC (.int 7)) (ag (dC (.int 9)) (ag (dC (.int 5)) ai))))) (aH bW (aD aC (aa 0) (dC (.int 1))) (dC (.int 4)))))))
 (aq (aM 3 (cM fF [] (fQ (ag (aH gU (aa 2) (dC (.int 1))) ai)) dD (eK (ag (aa 0) (ag (aH cI (aa 0) (dC (.int 1))) ai)))))
 (aq (bb (gF (dB (aH ft (aH bW (aD aC (aa 0) (dC (.int 1))) (dC (.int 4))) (dC (.int 1)))) (gF (dB (aH gw (aa 2) (dC (.int 2)))) (dB (aH ft (aH bW (aD aC (aa 0) (dC (.int 2))) (dC (.int 2))) (dC (.int 0)))))) (b_ (cR cP (aa 3) (ag (eK (ag (dC (.int 0)) (ag (aH gU (aa 2) (dC (.int 1))) ai))) ai))) bu)
 (aq (bb (dB (aH gw (aH bW (aD aC (aa 0) (dC (.int 1))) (dC (.int 4))) (dC (.int 1)))) (aq (aM 5 (bc 2 (d_k fu) (ag (aD aC (aa 0) (dC (.int 2))) (ag (aH fG (aa 2) (aa 2)) ai))))
 (aq (aM 3 (dX ai))
 (cD (fQ (ag (aa 2) ai)) (gN 6) (As fu)))) bu)
 (aW (eK (ag (aa 2) (ag (aa 3) ai)))))))))
def Ag(fu:Nat):DS :=
 (bb (gF (dB (aH ft (aD aC (aa 1) (aa 5)) (aD aC (aa 1) (aa 2)))) (dB (aD (ll true) (aa 5) (aa 3)))) (b_ (cR cP (aa 3) (ag (aa 5) ai))) bu)
def Af(fu:Nat):DS :=
 (aq (cD (i8 (aD aC (aa 0) (aD aC (aa 3) (aa 4)))) (gN 5) (Ag fu))
 (aM 4 (aH cI (aa 4) (dC (.int 1)))))
def d_ea(fu:Nat):List W->M W:=bJ finO 6
 (aq (aM 3 (dX (ag (aa 2) ai)))
 (aq (aM 4 (dC (.int 0)))
 (aq (iX (dB (aH ml (aa 4) (aR bK (ag (aa 3) ai)))) (Af fu) fu)
 (aW (aa 3)))))
def AK(fu:Nat):DS :=
 (bb (dB (aH ft (aD aC (aa 1) (aa 5)) (dC (.int 0)))) (iM (aa 3) (aa 5) (dC (.bl true))) bu)
def AJ(fu:Nat):DS :=
 (cD (i8 (aD aC (aa 0) (aa 4))) (gN 5) (AK fu))
def d_h(fu:Nat):List W->M W:=bJ finO 6
 (aq (aM 3 ki)
 (aq (cD (cS (aa 2)) (gN 4) (AJ fu))
 (aW (aR (fi fF) (ag (aR (iq aQ) (ag (aa 3) ai)) ai)))))
def Aq(fu:Nat):DS :=
 (iN (dC (.int 0)) (kh (aa 10) (aa 9)))
def Ap(fu:Nat):DS :=
 (iM (aa 4) (aa 9) (dC (.bl true)))
def Ao(fu:Nat):DS :=
 (iM (aa 5) (aa 9) (dC (.bl true)))
def An(fu:Nat):DS :=
 (bb (dB (aH ft (aD aC (aa 1) (aa 6)) (dC (.int 0)))) (iM (aa 5) (aa 6) (dC (.bl true))) (aq (aM 7 (bc 3 (cX (d_ea fu)) (ag (aa 0) (ag (aa 1) (ag (aa 6) ai)))))
 (aq (aM 8 (bc 3 (d_h fu) (ag (aa 0) (ag (aa 1) (ag (aa 7) ai)))))
 (aq (b_ (cR nU (aa 8) (ag (aa 3) ai)))
 (bb (dB (aH ft (aD aC (aa 1) (aa 6)) (aa 2))) (cD (cS (aa 8)) (gN 9) (Ao fu)) (bb (dB (aD (bD false) (aa 8) (dO ai))) (cD (cS (aa 7)) (gN 9) (Ap fu)) bu))))))
def d_m(fu:Nat):List W->M W:=bJ finC 11
 (aq (bb (dB (aH kc (aD aC (aa 1) (aa 3)) (dC (.int 0)))) (aW (dC (.str "lay"))) bu)
 (aq (aM 4 ki)
 (aq (aM 5 ki)
 (aq (cD (i8 (aD aC (aa 0) (aa 3))) (gN 6) (An fu))
 (aq (bb (gF (dB (aH ft (aR bK (ag (aa 5) ai)) (dC (.int 0)))) (dB (aH ft (aR bK (ag (aa 4) ai)) (dC (.int 0))))) (aW (dC (.str "breath"))) bu)
 (aq (aM 10 (aR (iq fF) (ag (aa 1) ai)))
 (aq (cD (qN (aa 4)) (gN 9) (Aq fu))
 (aq (iN (aa 2) (kh (aa 10) (aa 3)))
 (aW (eK (ag (aR gv (ag (aa 10) ai)) (ag (aR (fi aQ) (ag (aR (iq aQ) (ag (aa 4) ai)) ai)) ai))))))))))))
def Am(fu:Nat):DS :=
 (aq (aM 6 (aH bW (aH cI (aD aC (aa 4) (dC (.int 0))) (aH fG (dC (.int 7)) (aa 5))) (aR bK (ag (aa 0) ai))))
 (aq (aM 7 (bc 4 (d_m fu) (ag (aa 0) (ag (aa 2) (ag (aH cI (dC (.int 1)) (aH bW (aH cI (aD aC (aa 4) (dC (.int 1))) (aa 5)) (dC (.int 2)))) (ag (aa 6) ai))))))
 (bb (dB (aR eQ (ag (aa 7) (ag (dC (.ty "tuple")) ai)))) (aM 2 (aD aC (aa 7) (dC (.int 0)))) bu)))
def Al(fu:Nat):DS :=
 (aq (aM 4 (bc 2 (d_k fu) (ag (aa 3) (ag (dC (.int 3)) ai))))
 (cD (fQ (ag (aH cI (dC (.int 1)) (aH bW (aD aC (aa 4) (dC (.int 2))) (dC (.int 3)))) ai)) (gN 5) (Am fu)))
def d_q(fu:Nat):List W->M W:=bJ finC 8
 (aq (aM 2 (aR gv (ag (cM aQ [] (i8 (aa 0)) dD (dC (.int 0))) ai)))
 (aq (cD (cS (aa 1)) (gN 3) (Al fu))
 (aW (aa 2))))
def Ae(fu:Nat):DS :=
 (bb (dB (aD (bD false) (aD aC (aD aC (aa 2) (aa 7)) (dC (.int 0))) (aD aC (aa 6) (dC (.int 0))))) (bb (ie (dB (aD (bD false) (aa 1) (dC (.str "stones")))) (dB (aH kc (aD aC (aD aC (aa 2) (aa 7)) (dC (.int 1))) (aa 5)))) (aW (aa 7)) bu) bu)
def d_y(fu:Nat):List W->M W:=bJ finC 8
 (aq (iN (aD aC (aa 2) (c7 jb (dC (.int 1)))) (gT 2 (jR (gN 4) (jR (gN 5) n6))))
 (aq (bb (dB (c7 ja (aa 3))) (aW (eK (ag (aa 4) (ag (dO ai) ai)))) bu)
 (aq (aM 6 (bc 4 (d_m fu) (ag (aa 0) (ag (aa 4) (ag (aa 5) (ag (aa 3) ai))))))
 (aq (bb (dB (aR eQ (ag (aa 6) (ag (dC (.ty "str")) ai)))) (aW (aa 6)) bu)
 (aq (cD (fQ (ag (aR bK (ag (aa 2) ai)) ai)) (gN 7) (Ae fu))
 (aW (aa 6)))))))
def d_z(fu:Nat):List W->M W:=bJ finC 1
 (aq (bb (gF (dB (aH gw (aR bK (ag (aa 0) ai)) (dC (.int 1)))) (gF (dB (c7 ja (aD aC (aa 0) (c7 jb (dC (.int 1)))))) (dB (c7 ja (aD aC (aa 0) (c7 jb (dC (.int 2)))))))) (aW (dC (.str "passed"))) bu)
 (aq (bb (dB (aH ft (aR bK (ag (aa 0) ai)) (dC (.int 300)))) (aW (dC (.str "long"))) bu)
 (aW (dC .non))))
def d_s(fu:Nat):List W->M W:=bJ finC 1
 (aW (aD aC (cW "Game" "past" (aa 0)) (c7 jb (dC (.int 1)))))
def d_r(fu:Nat):List W->M W:=bJ finC 1
 (aq (bb (dB (aD (bD false) (fO aQ (cW "Game" "done" (aa 0)) (dW (c7 jb (dC (.int 2)))) iF) (dO (ag (dC .non) (ag (dC .non) ai))))) (aW (dC (.str "passed"))) bu)
 (aq (bb (dB (aH u7 (aR bK (ag (cW "Game" "done" (aa 0)) ai)) (dC (.int 300)))) (aW (dC (.str "long"))) bu)
 (aW (dC .non))))
def d_i(fu:Nat):List W->M W:=bJ finC 2
 (aW (nQ (dB (aD (bD false) (aH bW (aa 1) (dC (.int 2))) (dC (.int 0)))) (cW "Game" "first" (aa 0)) (bc 1 (d_p fu) (ag (cW "Game" "first" (aa 0)) ai))))
def d_w(fu:Nat):List W->M W:=bJ finC 1
 (aW (cC "Game" "hand_at" 2 (d_i fu) (aa 0) (ag (aR bK (ag (cW "Game" "done" (aa 0)) ai)) ai)))
def d_a(fu:Nat):List W->M W:=bJ finC 2
 (aW (pb (aD (bD false) (cW "Game" "barring" (aa 0)) (dC (.str "stones"))) (aD (bD false) (cC "Game" "hand_at" 2 (d_i fu) (aa 0) (ag (aa 1) ai)) (bc 1 (d_p fu) (ag (cC "Game" "hand" 1 (d_w fu) (aa 0) ai) ai)))))
def AI(fu:Nat):DS :=
 (bb (gF (dB (aD (bD false) (aD aC (cW "Game" "past" (aa 0)) (aa 2)) (aa 1))) (dB (cC "Game" "is_barring" 2 (d_a fu) (aa 0) (ag (aa 2) ai)))) (aW (aa 2)) bu)
def d_g(fu:Nat):List W->M W:=bJ finC 3
 (aq (cD (fQ (ag (aR bK (ag (cW "Game" "past" (aa 0)) ai)) ai)) (gN 2) (AI fu))
 (aW (dC .non)))
def d_v(fu:Nat):List W->M W:=bJ finC 6
 (aq (bb (dB (c7 fL (cC "Game" "ended" 1 (d_r fu) (aa 0) ai))) (gJ "Over" []) bu)
 (aq (aM 2 (cC "Game" "stand" 1 (d_s fu) (aa 0) ai))
 (aq (aM 3 (dC (.int 0)))
 (aq (bb (dB (c7 fL (aa 1))) (aq (aM 4 (bc 4 (d_la fu) (ag (cW "Game" "joined" (aa 0)) (ag (aa 2) (ag (cC "Game" "hand" 1 (d_w fu) (aa 0) ai) (ag (aa 1) ai))))))
 (aq (aM 2 (aD aC (aa 4) (dC (.int 0))))
 (aq (aM 3 (aR bK (ag (aD aC (aa 4) (dC (.int 1))) ai)))
 (aq (aM 5 (cC "Game" "came_at" 2 (d_g fu) (aa 0) (ag (aa 2) ai)))
 (bb (dB (c7 fL (aa 5))) (nq "Again" "number" 5) bu))))) bu)
 (aq (b_ (cR cP (cW "Game" "past" (aa 0)) (ag (aa 2) ai)))
 (aq (b_ (cR cP (cW "Game" "done" (aa 0)) (ag (aa 1) ai)))
 (b_ (cR cP (cW "Game" "takings" (aa 0)) (ag (aa 3) ai)))))))))
def d_x(fu:Nat):List W->M W:=bJ finC 6
 (aq (aM 2 (dC .non))
 (aq (aM 3 (dC (.int 7)))
 (aq (gz (cC "Game" "deed" 2 (d_v fu) (eJ (aa 0)) (eJ (ag (aa 1) ai))) (some 3) (iB cE "StoneError") (u_ 4 (aM 2 (aa 4))))
 (aq (bb (dB (c7 ja (aa 2))) (aW (aD aC (dO (ag (dC (.str "other")) (ag (dC (.str "done")) ai))) (aR fY (ag (c7 ja (aa 3)) ai)))) bu)
 (aq (aM 5 (dO (ag (gE aQ (ag (dC (.str "over")) ai) (aR fY (ag (fD (fun ce w=>gp cE ce w "Over") (aa 2)) ai))) (ag (gE aQ (ag (dC (.str "lay")) ai) (aR fY (ag (fD (fun ce w=>gp cE ce w "NoLay") (aa 2)) ai))) ai))))
 (aq (aM 5 (fR aQ (aa 5) (dO (ag (gE aQ (ag (dC (.str "breath")) ai) (aR fY (ag (fD (fun ce w=>gp cE ce w "NoBreath") (aa 2)) ai))) ai))))
 (aq (aM 5 (fR aQ (aa 5) (dO (ag (gE aQ (ag (dC (.str "again")) ai) (aR fY (ag (fD (fun ce w=>gp cE ce w "Again") (aa 2)) ai))) ai))))
 (aq (aM 5 (fR aQ (aa 5) (dO (ag (gE aQ (ag (dC (.str "other")) ai) (aR fY (ag (fD (fun ce w=>jD cE ce w ["NoBack", "NoBoard", "NoPoint", "NoRow", "NoStand"]) (aa 2)) ai))) ai))))
 (aq (aM 5 (aR n8 (ag (aa 5) (ag (gE aQ (ag (dC (.str "other")) ai) (aR fY (ag (fD (fun ce w=>jD cE ce w ["NoText", "TooMuch"]) (aa 2)) ai))) ai))))
 (aq (bb (gF (dB (aD (kM false) (aa 5) (dO (ag (dC (.str "again")) ai)))) (fK (dB (aR eQ (ag (mr "Again" "number" (aa 2)) (ag (dC (.ty "bool")) ai)))))) (aW (mr "Again" "number" (aa 2))) bu)
 (aq (bb (ie (dB (aH kc (aR bK (ag (aa 5) ai)) (dC (.int 1)))) (fK (dB (fD (fun ce w=>nV cE ce w) (aa 2))))) (aW (dC (.str "other"))) bu)
 (aW (aD aC (aa 5) (dC (.int 0)))))))))))))))
def d_b(fu:Nat):List W->M W:=bJ finO 3
 (aq (bb (dB (c7 fL (cC "Game" "ended" 1 (d_r fu) (aa 0) ai))) (aW (dX ai)) bu)
 (aq (aM 1 (bc 4 (cX (d_ha fu)) (ag (cW "Game" "joined" (aa 0)) (ag (cC "Game" "stand" 1 (d_s fu) (aa 0) ai) (ag (cC "Game" "hand" 1 (d_w fu) (aa 0) ai) (ag (aR (kX aQ) (ag (aR bK (ag (cW "Game" "joined" (aa 0)) ai)) ai)) ai))))))
 (aq (aM 2 (cM fF [0] (cS (aa 1)) (eJ (dB (c7 ja (cC "Game" "came_at" 2 (d_g fu) (aa 1) (ag (aD aC (aa 0) (dC (.int 1))) ai))))) (aD aC (aa 0) (dC (.int 0)))))
 (aq (b_ (cR cP (aa 2) (ag (dC .non) ai)))
 (aW (aa 2))))))
def d_j(fu:Nat):List W->M W:=bJ finC 1
 (aW (aR (iq aQ) (ag (cW "Game" "past" (aa 0)) ai)))
def d_n(fu:Nat):List W->M W:=bJ finC 1
 (aW (aR (iq aQ) (ag (cW "Game" "done" (aa 0)) ai)))
def AN(fu:Nat):DS :=
 (bb (dB (aR eQ (ag (bc 4 (d_y fu) (ag (aa 1) (ag (aa 2) (ag (aa 3) (ag (aa 7) ai))))) (ag (dC (.ty "tuple")) ai)))) (b_ (cR cP (aa 6) (ag (aa 7) ai))) bu)
def d_c(fu:Nat):List W->M W:=bJ finC 8
 (aq (aM 5 (cC "Game" "open_deeds" 1 (d_b fu) (aa 0) ai))
 (aq (aM 6 (dX ai))
 (aq (cD (fQ (ag (aR bK (ag (aa 1) ai)) ai)) (gN 7) (AN fu))
 (aq (b_ (cR cP (aa 6) (ag (dC .non) ai)))
 (aq (bb (dB (c7 fL (bc 1 (d_z fu) (ag (aa 4) ai)))) (aM 6 (dX ai)) bu)
 (aq (bb (ie (fK (dB (aR eQ (ag (aa 5) (ag (dC (.ty "list")) ai))))) (dB (aD (bD true) (aa 5) (aa 6)))) (aW (dC (.bl false))) bu)
 (aq (bb (dB (aH gw (aR bK (ag (cM aQ [] (cS (aa 5)) (dB (aR eQ (ag (aa 0) (ag (dC (.ty "bool")) ai)))) (aa 0)) ai)) (dC (.int 0)))) (aW (dC (.bl false))) bu)
 (aq (b_ (cR cP (aa 5) (ag (dC (.int 0)) ai)))
 (aq (bb (ie (dB (aD (bD true) (cC "Game" "open_deeds" 1 (cX (d_b fu)) (aa 0) ai) (aa 6))) (dB (aD (bD true) (cC "Game" "deeds" 1 (d_n fu) (aa 0) ai) (aa 4)))) (aW (dC (.bl false))) bu)
 (aW (aD (bD false) (cC "Game" "stands" 1 (d_j fu) (aa 0) ai) (cM aQ [] (cS (aa 3)) dD (aD aC (aa 0) (dC (.int 0)))))))))))))))
def d_u(fu:Nat):List W->M W:=bJ finC 1
 (aq (bb (fK (i_ (cW "Game" "done" (aa 0)))) (gJ "NoBack" []) bu)
 (aq (b_ (kP kO (cW "Game" "past" (aa 0))))
 (aq (b_ (kP kO (cW "Game" "done" (aa 0))))
 (b_ (kP kO (cW "Game" "takings" (aa 0)))))))
def AF(fu:Nat):DS :=
 (aq (aM 5 (bc 4 (d_y fu) (ag (aa 1) (ag (aa 2) (ag (aa 3) (ag (aa 4) ai))))))
 (aq (aM 6 (bc 2 (d_x fu) (ag (aa 0) (ag (aa 4) ai))))
 (bb (dB (aR eQ (ag (aa 5) (ag (dC (.ty "tuple")) ai)))) (aq (bb (ie (dB (aD (bD true) (aa 6) (dC (.str "done")))) (dB (aD (bD true) (cC "Game" "stand" 1 (d_s fu) (aa 0) ai) (aD aC (aa 5) (dC (.int 0)))))) (aW (dC (.bl false))) bu)
 (b_ (cC "Game" "back" 1 (d_u fu) (aa 0) ai))) (bb (dB (aD (bD true) (aa 6) (aa 5))) (aW (dC (.bl false))) bu))))
def d_d(fu:Nat):List W->M W:=bJ finC 7
 (aq (cD (cS (fR aQ (aR (kX aQ) (ag (aR bK (ag (aa 1) ai)) ai)) (dO (ag (dC .non) ai)))) (gN 4) (AF fu))
 (aW (dC (.bl true))))
def d_f(fu:Nat):List W->M W:=bJ nP 5
 (aq (bb (fK (dB (bc 2 (d_aa fu) (ag (aa 1) (ag (aa 3) ai))))) (gJ "NoStand" []) bu)
 (aq (bb (fK (dB (bc 2 (d_ca fu) (ag (aa 1) (ag (aa 3) ai))))) (gJ "NoStand" []) bu)
 (aq (jd "Game" "joined" (aa 0) (aa 1))
 (aq (jd "Game" "barring" (aa 0) (aa 2))
 (aq (jd "Game" "first" (aa 0) (aa 4))
 (aq (jd "Game" "past" (aa 0) (dX (ag (aa 3) ai)))
 (aq (jd "Game" "done" (aa 0) (dX ai))
 (jd "Game" "takings" (aa 0) (dX ai)))))))))
def sg(fu:Nat):DS :=
 (aq (bb (fK (dB (bc 5 (d_c fu) (ag (aa 7) (ag (aa 4) (ag (aa 6) (ag (aa 8) (ag (aa 9) ai)))))))) (aW (dC (.bl false))) bu)
 (bb (dB (c7 ja (bc 1 (d_z fu) (ag (aa 9) ai)))) (aq (bb (fK (dB (bc 4 (d_d fu) (ag (aa 7) (ag (aa 4) (ag (aa 6) (ag (aa 8) ai))))))) (aW (dC (.bl false))) bu)
 (aq (aM 11 (cC "Game" "open_deeds" 1 (cX (d_b fu)) (aa 7) ai))
 (aq (aM 12 (aD aC (aa 11) (aH bW (aa 10) (aR bK (ag (aa 11) ai)))))
 (aq (aM 13 (bc 4 (d_y fu) (ag (aa 4) (ag (aa 6) (ag (aa 8) (ag (aa 12) ai))))))
 (aq (b_ (cC "Game" "deed" 2 (d_v fu) (aa 7) (ag (aa 12) ai)))
 (aq (b_ (cR cP (aa 8) (ag (eK (ag (aD aC (aa 13) (dC (.int 0))) (ag (aH gU (dC (.int 3)) (aD aC (aD aC (aa 8) (c7 jb (dC (.int 1)))) (dC (.int 1)))) ai))) ai)))
 (b_ (cR cP (aa 9) (ag (aa 12) ai))))))))) bu))
def d_law(fu:Nat):List W->M W:=bJ finC 14
 (aq (aM 1 (bc 2 (d_k fu) (ag (aD aC (fR aQ (aa 0) (dO (ag (dC (.int 0)) ai))) (dC (.int 0))) (ag (dC (.int 40)) ai))))
 (aq (iN (bc 1 (mv (d_o fu)) (ag (aa 1) ai)) (gT 2 (jR (gN 2) (jR (gN 3) n6))))
 (aq (aM 4 (bc 2 (d_l fu) (ag (aa 2) (ag (aa 3) ai))))
 (aq (aM 5 (bc 2 (d_q fu) (ag (aa 4) (ag (fO aQ (fR aQ (fO aQ (aa 0) (dW (dC (.int 9))) (dW (dC (.int 33)))) (fO aQ (aa 1) (dW (dC (.int 16))) iF)) iF (dW (aH bW (aD aC (aa 1) (dC (.int 6))) (dC (.int 24))))) ai))))
 (aq (aM 6 (aD aC (dO (ag (dC (.str "stones")) (ag (dC (.str "turns")) ai))) (aH bW (aD aC (aa 1) (dC (.int 3))) (dC (.int 2)))))
 (aq (aM 7 (pC "Game" 5 (d_f fu) (ag (aa 4) (ag (aa 6) (ag (aa 5) (ag (aH cI (dC (.int 1)) (aH bW (aD aC (aa 1) (dC (.int 5))) (dC (.int 2)))) ai))))))
 (aq (aM 8 (dX (ag (eK (ag (aa 5) (ag (aH cI (dC (.int 1)) (aH bW (aD aC (aa 1) (dC (.int 5))) (dC (.int 2)))) ai))) ai)))
 (aq (aM 9 (dX ai))
 (aq (cD (cS (fR aQ (fO aQ (fR aQ (fO aQ (aa 0) (dW (dC (.int 1))) (dW (dC (.int 9)))) (fO aQ (aa 1) (dW (dC (.int 8))) (dW (dC (.int 16))))) iF (dW (aH bW (aD aC (aa 1) (dC (.int 4))) (dC (.int 9))))) (dO (ag (aD aC (aa 1) (dC (.int 7))) ai)))) (gN 10) (sg fu))
 (aW (bc 5 (d_c fu) (ag (aa 7) (ag (aa 4) (ag (aa 6) (ag (aa 8) (ag (aa 9) ai))))))))))))))))
def top(i:Nat):Stmt:=PySem.Challenge.pw_stonebreath_k20_open_deeds.main.body.getD i (.Pass ⟨0,0,0,0⟩)
def iu(s:Stmt)(j:Nat):Stmt:=match s with
 | .ClassDef _ _ _ b _ _ _ _ _ _ _=>b.getD j (.Pass ⟨0,0,0,0⟩)
 | _=>.Pass ⟨0,0,0,0⟩
abbrev uy:Stmt:=top 2
abbrev uU:Stmt:=top 3
abbrev ux:Stmt:=top 4
abbrev uj:Stmt:=top 5
abbrev qz:Stmt:=top 20
abbrev sP:Stmt:=top 21
abbrev pM:Stmt:=top 22
abbrev ql:Stmt:=top 23
abbrev uY:Stmt:=top 24
abbrev qy:Stmt:=top 25
abbrev sf:Stmt:=top 27
abbrev ui:Stmt:=top 28
abbrev tJ:Stmt:=top 29
abbrev uT:Stmt:=top 30
abbrev uL:Stmt:=top 35
abbrev o6:Stmt:=top 36
abbrev ma:Stmt:=top 37
abbrev uw:Stmt:=top 38
abbrev uP:Stmt:=top 39
abbrev uS:Stmt:=top 40
abbrev qF:Stmt:=top 41
abbrev uv:Stmt:=top 42
abbrev uu:Stmt:=top 43
abbrev uF:Stmt:=top 44
abbrev o7:Stmt:=top 45
abbrev u3:Stmt:=top 46
abbrev mH:Stmt:=top 47
abbrev uX:Stmt:=iu (top 33) 0
abbrev uE:Stmt:=iu (top 33) 1
abbrev uO:Stmt:=iu (top 33) 2
abbrev uV:Stmt:=iu (top 33) 3
abbrev uD:Stmt:=iu (top 33) 4
abbrev uR:Stmt:=iu (top 33) 5
abbrev uC:Stmt:=iu (top 33) 6
abbrev uN:Stmt:=iu (top 33) 7
abbrev uK:Stmt:=iu (top 33) 8
abbrev uQ:Stmt:=iu (top 33) 9
abbrev qG:Stmt:=iu (top 33) 10
abbrev uA:Stmt:=iu (top 33) 12
theorem Je:ao ["thing"] ["thing"] (ba uy):=cq
theorem Jz:ao ["hand"] ["hand"] (ba uU):=cq
theorem gk:ao ["board", "marks", "start", "found", "waiting", "point", "beside"] ["board", "marks", "start"] (ba ux):=cq
theorem fB:ao ["board", "marks", "met", "found", "start", "points", "point"] ["board", "marks"] (ba uj):=cq
theorem Jd:ao ["board", "thing"] ["board", "thing"] (ba qz):=cq
theorem GF:ao ["board", "stand", "point"] ["board", "stand", "point"] (ba sP):=cq
theorem EE:ao ["board", "stand"] ["board", "stand"] (ba pM):=cq
theorem kG:ao ["board", "points", "found", "point", "beside"] ["board", "points"] (ba uY):=cq
theorem IV:ao ["board", "stand", "row"] ["board", "stand", "row"] (ba ql):=cq
theorem Jc:ao ["board", "stand"] ["board", "stand"] (ba qy):=cq
theorem jt:ao ["stand", "points", "what", "changed", "point"] ["stand", "points", "what"] (ba tJ):=cq
theorem mh:ao ["board", "stand", "hand", "found", "row"] ["board", "stand", "hand"] (ba uT):=cq
theorem hU:ao ["board", "stand", "hand", "point", "full", "taken", "behind"] ["board", "stand", "hand", "point"] (ba sf):=cq
theorem hX:ao ["board", "stand", "hand", "points", "found", "point", "told"] ["board", "stand", "hand", "points"] (ba ui):=cq
theorem jr:ao ["_law_cell", "_law_many", "_law_found", "_law_number", "_law_k"] ["_law_cell", "_law_many"] (ba uL):=cq
theorem kE:ao ["_law_many", "_law_lines_here", "_law_joined_here", "_law_one", "_law_other"] ["_law_many", "_law_lines_here"] (ba o6):=cq
theorem dS:ao ["_law_xs", "_law_wide", "_law_many", "_law_lines_here", "_law_beside", "_law_ys", "_law_one", "_law_other"] ["_law_xs"] (ba ma):=cq
theorem gj:ao ["_law_board", "_law_stand", "_law_point", "_law_found", "_law_at", "_law_other"] ["_law_board", "_law_stand", "_law_point"] (ba uw):=cq
theorem kF:ao ["_law_board", "_law_stand", "_law_row_here", "_law_found", "_law_point", "_law_other"] ["_law_board", "_law_stand", "_law_row_here"] (ba uP):=cq
theorem fj:ao ["_law_board", "_law_stand", "_law_hand", "_law_point", "_law_taken", "_law_breath", "_law_other", "_law_row_here", "_law_left", "_law_one", "_law_there"] ["_law_board", "_law_stand", "_law_hand", "_law_point"] (ba uS):=cq
theorem gh:ao ["_law_board", "_law_cells", "_law_stand", "_law_cell", "_law_xs", "_law_k", "_law_point", "_law_found"] ["_law_board", "_law_cells"] (ba qF):=cq
theorem jq:ao ["_law_board", "_law_rule", "_law_moments", "_law_what", "_law_stand", "_law_hand", "_law_found", "_law_k"] ["_law_board", "_law_rule", "_law_moments", "_law_what"] (ba uv):=cq
theorem Jb:ao ["_law_deeds"] ["_law_deeds"] (ba uu):=cq
theorem Jy:ao ["self"] ["self"] (ba uR):=cq
theorem Jx:ao ["self"] ["self"] (ba uA):=cq
theorem JL:ao ["self", "moment"] ["self", "moment"] (ba uN):=cq
theorem Jj:ao ["self"] ["self"] (ba uC):=cq
theorem JU:ao ["self", "moment"] ["self", "moment"] (ba uV):=cq
theorem o8:ao ["self", "behind", "moment"] ["self", "behind"] (ba uO):=cq
theorem gO:ao ["self", "what", "behind", "many", "told", "number"] ["self", "what"] (ba uE):=cq
theorem eN:ao ["_law_game", "_law_what", "_law_caught", "_law_told", "error", "_law_words"] ["_law_game", "_law_what"] (ba uF):=cq
theorem mi:ao ["self", "lays", "found"] ["self"] (ba qG):=cq
theorem JP:ao ["self"] ["self"] (ba uK):=cq
theorem Jw:ao ["self"] ["self"] (ba uQ):=cq
theorem ju:ao ["_law_game", "_law_board", "_law_rule", "_law_moments", "_law_deeds", "_law_found", "_law_due_here", "_law_point"] ["_law_game", "_law_board", "_law_rule", "_law_moments", "_law_deeds"] (ba o7):=cq
theorem Ji:ao ["self"] ["self"] (ba uD):=cq
theorem kH:ao ["_law_game", "_law_board", "_law_rule", "_law_moments", "_law_what", "_law_due_here", "_law_found"] ["_law_game", "_law_board", "_law_rule", "_law_moments"] (ba u3):=cq
theorem JY:ao ["self", "board", "rule", "stand", "hand"] ["self", "board", "rule", "stand", "hand"] (ba uX):=cq
theorem bw:ao ["_law_script", "_law_xs", "_law_many", "_law_lines_here", "_law_board", "_law_stand", "_law_rule", "_law_game", "_law_moments", "_law_deeds", "_law_cell", "_law_some", "_law_what", "_law_due_here"] ["_law_script"] (ba mH):=cq
abbrev uZ:Stmt:=iu (top 12) 0
theorem J5:ao ["self", "number"] ["self", "number"] (ba uZ):=cq
set_option genInjectivity false in
set_option genInjectivity false in
set_option genSizeOfSpec false in
set_option genInjectivity false in
structure qT where
 f_ba:Addr
 d_ba:FuncData
 f_p:Addr
 d_p:FuncData
 f_da:Addr
 d_da:FuncData
 f_ga:Addr
 d_ga:FuncData
 f_aa:Addr
 d_aa:FuncData
 f_ja:Addr
 d_ja:FuncData
 f_ka:Addr
 d_ka:FuncData
 f_fa:Addr
 d_fa:FuncData
 f_e:Addr
 d_e:FuncData
 f_ca:Addr
 d_ca:FuncData
 f_la:Addr
 d_la:FuncData
 f_ha:Addr
 d_ha:FuncData
 f_ia:Addr
 d_ia:FuncData
 f_t:Addr
 d_t:FuncData
 f_k:Addr
 d_k:FuncData
 f_l:Addr
 d_l:FuncData
 f_o:Addr
 d_o:FuncData
 f_ea:Addr
 d_ea:FuncData
 f_h:Addr
 d_h:FuncData
 f_m:Addr
 d_m:FuncData
 f_q:Addr
 d_q:FuncData
 f_y:Addr
 d_y:FuncData
 f_z:Addr
 d_z:FuncData
 f_x:Addr
 d_x:FuncData
 f_c:Addr
 d_c:FuncData
 f_d:Addr
 d_d:FuncData
 f_law:Addr
 d_law:FuncData
 f_f:Addr
 d_f:FuncData
 f_v:Addr
 d_v:FuncData
 f_g:Addr
 d_g:FuncData
 f_a:Addr
 d_a:FuncData
 f_u:Addr
 d_u:FuncData
 f_s:Addr
 d_s:FuncData
 f_w:Addr
 d_w:FuncData
 f_i:Addr
 d_i:FuncData
 f_j:Addr
 d_j:FuncData
 f_n:Addr
 d_n:FuncData
 f_b:Addr
 d_b:FuncData
 f_r:Addr
 d_r:FuncData
 f_Again___init__:Addr
 d_Again___init__:FuncData
structure Txt (K:Frag) (mg:Str->Option Value) (A:qT):Prop where
 g_ba:mg "is_whole" = some (.ref A.f_ba)
 F_ba:bQ K "is_whole" "is_whole" uy A.f_ba A.d_ba
 b_ba:Binds K A.d_ba ["thing"] []
 g_p:mg "other_hand" = some (.ref A.f_p)
 F_p:bQ K "other_hand" "other_hand" uU A.f_p A.d_p
 b_p:Binds K A.d_p ["hand"] []
 g_da:mg "patch_of" = some (.ref A.f_da)
 F_da:bQ K "patch_of" "patch_of" ux A.f_da A.d_da
 b_da:Binds K A.d_da ["board", "marks", "start"] []
 g_ga:mg "patches" = some (.ref A.f_ga)
 F_ga:bQ K "patches" "patches" uj A.f_ga A.d_ga
 b_ga:Binds K A.d_ga ["board", "marks"] []
 g_aa:mg "is_stand" = some (.ref A.f_aa)
 F_aa:bQ K "is_stand" "is_stand" qz A.f_aa A.d_aa
 b_aa:Binds K A.d_aa ["board", "thing"] []
 g_ja:mg "patch" = some (.ref A.f_ja)
 F_ja:bQ K "patch" "patch" sP A.f_ja A.d_ja
 b_ja:Binds K A.d_ja ["board", "stand", "point"] []
 g_ka:mg "rows" = some (.ref A.f_ka)
 F_ka:bQ K "rows" "rows" pM A.f_ka A.d_ka
 b_ka:Binds K A.d_ka ["board", "stand"] []
 g_fa:mg "breaths" = some (.ref A.f_fa)
 F_fa:bQ K "breaths" "breaths" ql A.f_fa A.d_fa
 b_fa:Binds K A.d_fa ["board", "stand", "row"] []
 g_e:mg "points_beside" = some (.ref A.f_e)
 F_e:bQ K "points_beside" "points_beside" uY A.f_e A.d_e
 b_e:Binds K A.d_e ["board", "points"] []
 g_ca:mg "is_sound" = some (.ref A.f_ca)
 F_ca:bQ K "is_sound" "is_sound" qy A.f_ca A.d_ca
 b_ca:Binds K A.d_ca ["board", "stand"] []
 g_la:mg "laid" = some (.ref A.f_la)
 F_la:bQ K "laid" "laid" sf A.f_la A.d_la
 b_la:Binds K A.d_la ["board", "stand", "hand", "point"] []
 g_ha:mg "lays_on" = some (.ref A.f_ha)
 F_ha:bQ K "lays_on" "lays_on" ui A.f_ha A.d_ha
 b_ha:Binds K A.d_ha ["board", "stand", "hand", "points"] []
 g_ia:mg "filled" = some (.ref A.f_ia)
 F_ia:bQ K "filled" "filled" tJ A.f_ia A.d_ia
 b_ia:Binds K A.d_ia ["stand", "points", "what"] []
 g_t:mg "breathless" = some (.ref A.f_t)
 F_t:bQ K "breathless" "breathless" uT A.f_t A.d_t
 b_t:Binds K A.d_t ["board", "stand", "hand"] []
 g_k:mg "_law_stream" = some (.ref A.f_k)
 F_k:bQ K "_law_stream" "_law_stream" uL A.f_k A.d_k
 b_k:Binds K A.d_k ["_law_cell", "_law_many"] []
 g_l:mg "_law_joined" = some (.ref A.f_l)
 F_l:bQ K "_law_joined" "_law_joined" o6 A.f_l A.d_l
 b_l:Binds K A.d_l ["_law_many", "_law_lines_here"] []
 g_o:mg "_law_lines" = some (.ref A.f_o)
 F_o:bQ K "_law_lines" "_law_lines" ma A.f_o A.d_o
 b_o:Binds K A.d_o ["_law_xs"] []
 g_ea:mg "_law_row" = some (.ref A.f_ea)
 F_ea:bQ K "_law_row" "_law_row" uw A.f_ea A.d_ea
 b_ea:Binds K A.d_ea ["_law_board", "_law_stand", "_law_point"] []
 g_h:mg "_law_breaths" = some (.ref A.f_h)
 F_h:bQ K "_law_breaths" "_law_breaths" uP A.f_h A.d_h
 b_h:Binds K A.d_h ["_law_board", "_law_stand", "_law_row_here"] []
 g_m:mg "_law_tried" = some (.ref A.f_m)
 F_m:bQ K "_law_tried" "_law_tried" uS A.f_m A.d_m
 b_m:Binds K A.d_m ["_law_board", "_law_stand", "_law_hand", "_law_point"] []
 g_q:mg "_law_sound" = some (.ref A.f_q)
 F_q:bQ K "_law_sound" "_law_sound" qF A.f_q A.d_q
 b_q:Binds K A.d_q ["_law_board", "_law_cells"] []
 g_y:mg "_law_due" = some (.ref A.f_y)
 F_y:bQ K "_law_due" "_law_due" uv A.f_y A.d_y
 b_y:Binds K A.d_y ["_law_board", "_law_rule", "_law_moments", "_law_what"] []
 g_z:mg "_law_end" = some (.ref A.f_z)
 F_z:bQ K "_law_end" "_law_end" uu A.f_z A.d_z
 b_z:Binds K A.d_z ["_law_deeds"] []
 g_x:mg "_law_said" = some (.ref A.f_x)
 F_x:bQ K "_law_said" "_law_said" uF A.f_x A.d_x
 b_x:Binds K A.d_x ["_law_game", "_law_what"] []
 g_c:mg "_law_open_right" = some (.ref A.f_c)
 F_c:bQ K "_law_open_right" "_law_open_right" o7 A.f_c A.d_c
 b_c:Binds K A.d_c ["_law_game", "_law_board", "_law_rule", "_law_moments", "_law_deeds"] []
 g_d:mg "_law_all_tried" = some (.ref A.f_d)
 F_d:bQ K "_law_all_tried" "_law_all_tried" u3 A.f_d A.d_d
 b_d:Binds K A.d_d ["_law_game", "_law_board", "_law_rule", "_law_moments"] []
 g_law:mg "law" = some (.ref A.f_law)
 F_law:bQ K "law" "law" mH A.f_law A.d_law
 b_law:Binds K A.d_law ["_law_script"] []
 mt_f:L2.Meth K (clOf K "Game") "__init__" A.f_f
 F_f:bQ K "__init__" "Game.__init__" uX A.f_f A.d_f
 b_f:Binds K A.d_f ["self", "board", "rule", "stand", "hand"] []
 mt_v:L2.Meth K (clOf K "Game") "deed" A.f_v
 F_v:bQ K "deed" "Game.deed" uE A.f_v A.d_v
 b_v:Binds K A.d_v ["self", "what"] []
 mt_g:L2.Meth K (clOf K "Game") "came_at" A.f_g
 F_g:bQ K "came_at" "Game.came_at" uO A.f_g A.d_g
 b_g:Binds K A.d_g ["self", "behind"] []
 mt_a:L2.Meth K (clOf K "Game") "is_barring" A.f_a
 F_a:bQ K "is_barring" "Game.is_barring" uV A.f_a A.d_a
 b_a:Binds K A.d_a ["self", "moment"] []
 mt_u:L2.Meth K (clOf K "Game") "back" A.f_u
 F_u:bQ K "back" "Game.back" uD A.f_u A.d_u
 b_u:Binds K A.d_u ["self"] []
 mt_s:L2.Meth K (clOf K "Game") "stand" A.f_s
 F_s:bQ K "stand" "Game.stand" uR A.f_s A.d_s
 b_s:Binds K A.d_s ["self"] []
 mt_w:L2.Meth K (clOf K "Game") "hand" A.f_w
 F_w:bQ K "hand" "Game.hand" uC A.f_w A.d_w
 b_w:Binds K A.d_w ["self"] []
 mt_i:L2.Meth K (clOf K "Game") "hand_at" A.f_i
 F_i:bQ K "hand_at" "Game.hand_at" uN A.f_i A.d_i
 b_i:Binds K A.d_i ["self", "moment"] []
 mt_j:L2.Meth K (clOf K "Game") "stands" A.f_j
 F_j:bQ K "stands" "Game.stands" uK A.f_j A.d_j
 b_j:Binds K A.d_j ["self"] []
 mt_n:L2.Meth K (clOf K "Game") "deeds" A.f_n
 F_n:bQ K "deeds" "Game.deeds" uQ A.f_n A.d_n
 b_n:Binds K A.d_n ["self"] []
 mt_b:L2.Meth K (clOf K "Game") "open_deeds" A.f_b
 F_b:bQ K "open_deeds" "Game.open_deeds" qG A.f_b A.d_b
 b_b:Binds K A.d_b ["self"] []
 mt_r:L2.Meth K (clOf K "Game") "ended" A.f_r
 F_r:bQ K "ended" "Game.ended" uA A.f_r A.d_r
 b_r:Binds K A.d_r ["self"] []
 xm_Again:nN K (clOf K "Again") "number" = true
 xn_Again:XN K (clOf K "Again") (clOf K "StoneError") A.f_Again___init__ "number"
 F_Again___init__:bQ K "__init__" "Again.__init__" uZ A.f_Again___init__ A.d_Again___init__
 b_Again___init__:Binds K A.d_Again___init__ ["self", "number"] []
 cls_Game:L2.Cls K (clOf K "Game")
 mk_Game:L2.Mk K (clOf K "Game") A.f_f
 gc_Game:mg "Game" = some (.ref (clOf K "Game"))
 na_Game_barring:L2.NoAttr K (clOf K "Game") "barring"
 na_Game_done:L2.NoAttr K (clOf K "Game") "done"
 na_Game_first:L2.NoAttr K (clOf K "Game") "first"
 na_Game_joined:L2.NoAttr K (clOf K "Game") "joined"
 na_Game_past:L2.NoAttr K (clOf K "Game") "past"
 na_Game_takings:L2.NoAttr K (clOf K "Game") "takings"
 c_MOST_DEEDS:∃t,mg "MOST_DEEDS" = some (.int 300 t)
 n_ValueError:mg "ValueError" = none
 n_all:mg "all" = none
 n_bool:mg "bool" = none
 n_int:mg "int" = none
 n_isinstance:mg "isinstance" = none
 n_len:mg "len" = none
 n_list:mg "list" = none
 n_range:mg "range" = none
 n_sorted:mg "sorted" = none
 n_str:mg "str" = none
 n_sum:mg "sum" = none
 n_tuple:mg "tuple" = none
 xt:XT K mg cE
 nl:o9 K=true
section
seal L2.PSs L2.PS L2.PE L2.PT L2.PW L2.PA L2.PI L2.PG L2.PGs L2.PO L2.PIfs
variable {A:qT}
abbrev Gx(K:Frag):Ga:=Gy K
abbrev cp(K:Frag)(n:Nat)(d:List W->M W):Sp:=gf (Gx K) (fun E=>E) n d
theorem cw{x:Str}{N:List Str}{m:Nat}{d:DS}(F:bQ K x qual st f fd)(S:ao N ps (ba st))(hf:n4 (Gx K) fin)(hb:∀(cdv:Value) (A:Around) (outer:List Env) (s:Shared) (H:Hp) (E:XK),aT k (A.deeper (envOfC qual (ba st) s.heap.objs.size f cdv))->PSs (il (bp P w) P w K mg base N qual (ba st) f cdv A outer s H E) (lg st) (dF (Gx K) E d))(hn:n=ps.length:=by rfl)(hm:m=N.length:=by rfl):ay P w K mg base (bp P w) (k+1) f fd ps (cp K n (bJ fin m d)):=by subst hm;refine F.okX S (fun vs H Q E h=>h.1.trans hn) fun cdv Ar outer s H vs Q E hr h=>?_;obtain⟨_,F,as,ws,ce,S,rs,Pf⟩:=h;exact⟨_,hb cdv Ar outer s H E hr,Et hf N S rs Pf⟩
theorem J0(T:Txt K mg A):ay P w K mg base (bp P w) 1 A.f_Again___init__ A.d_Again___init__ ["self", "number"] (u5 (clOf K "Again") "number"):=by refine T.F_Again___init__.okX (k:=0) J5 (fun vs H Q E h=>by obtain⟨a,n,rfl,_⟩:=h;rfl) (fun cdv Ar outer s H vs Q E hr h=>?_);obtain⟨a,n,rfl,hn,ha,q⟩:=h;refine⟨_,EG (x := "StoneError") (SA:=clOf K "StoneError") (C:=clOf K "Again") rfl (T.xt.at rfl) T.xn_Again.hga T.xn_Again.hr T.xn_Again.hf T.xn_Again.xi.exc T.xn_Again.hsa T.xn_Again.hd T.xn_Again.ht (sR (lj oo (lj (sj 1) sS))),?_⟩;exact⟨a,n,rfl,rfl,ha,⟨trivial,⟨n,rfl,hn⟩,trivial⟩,q⟩
theorem Ja(fu:Nat)(T:Txt K mg A):ay P w K mg base (bp P w) 1 A.f_ba A.d_ba ["thing"] (cp K 1 (d_ba fu)) :=
 cw T.F_ba Je dR fun cdv Ar outer s H E hr=>(aF (bq (wU (ck (jJ K) (jM K) rfl T.n_isinstance boot_isinstance (aj (af 0) (aj (jQ rfl T.n_int boot_int) ar))) (sC (C2 (ck (jJ K) (jM K) rfl T.n_isinstance boot_isinstance (aj (af 0) (aj (jQ rfl T.n_bool boot_bool) ar))))))))
theorem uJ(fu:Nat)(T:Txt K mg A):ay P w K mg base (bp P w) 1 A.f_p A.d_p ["hand"] (cp K 1 (d_p fu)) :=
 cw T.F_p Jz dR fun cdv Ar outer s H E hr=>(aF (bq (mY aB (af 0))))
theorem Ad(fu:Nat)(T:Txt K mg A):ay P w K mg base (bp P w) 1 A.f_da A.d_da ["board", "marks", "start"] (cp K 3 (d_da fu)) :=
 cw T.F_da gk jN fun cdv Ar outer s H E hr=>(az (a_ (i:=3) gk.nd rfl (Or.inl rfl) (Gh (af 2) f_))
   (az (a_ (i:=4) gk.nd rfl (Or.inl rfl) (gr (aj (af 2) ar)))
   (az (yO fu PassesOwn.leaving (pT (af 4)) (az (a_ (i:=5) gk.nd rfl (Or.inl rfl) (pS slot_list_pop type_list_pop pV pI (af 4)))
   (aF (dY PassesOwn.leaving rfl (lA (aX (af 0) (af 5) (fun _ _=>rfl))) (c5 (i:=6) gk.nd rfl (Or.inl rfl))
   (aF (bM (PW.pt (jS (zL (hr.cmp 1) (af 6) (af 3) (by with_unfolding_all rfl)) (lb (kl (hr.cmp 8) (aX (af 1) (af 6) (fun _ _=>rfl)) (aX (af 1) (af 2) (fun _ _=>rfl)))))) (az (lJ (hr.cmp 1) (af 3) (af 6) f_)
   (aF (ee (fx PySem.F.slot_list_append PySem.F.type_list_append fW fT (af 4) (aj (af 6) ar))))) bR))))))
   (aF (bq (ck (mJ rfl rfl) (mI K jH) rfl T.n_sorted boot_sorted (aj (af 3) ar)))))))
theorem IU(fu:Nat)(T:Txt K mg A):ay P w K mg base (bp P w) 2 A.f_ga A.d_ga ["board", "marks"] (cp K 2 (d_ga fu)) :=
 cw T.F_ga fB jN fun cdv Ar outer s H E hr=>(az (a_ (i:=2) fB.nd rfl (Or.inl rfl) oM)
   (az (a_ (i:=3) fB.nd rfl (Or.inl rfl) (gr ar))
   (az (dY PassesOwn.leaving rfl (iQ rfl T.n_range (aj (ck (ff rfl) (e_ K) rfl T.n_len boot_len (aj (af 0) ar)) ar)) (c5 (i:=4) fB.nd rfl (Or.inl rfl))
   (aF (bM (zL (hr.cmp 1) (af 4) (af 2) (by with_unfolding_all rfl)) (az (a_ (i:=5) fB.nd rfl (Or.inl rfl) (cj (iW (Ad fu T)) (hr.mono (by decide)) rfl T.g_da T.F_da.kp T.b_da (ae.passes rfl) (aj (af 0) (aj (af 1) (aj (af 4) ar)))))
   (az (ee (fx PySem.F.slot_list_append PySem.F.type_list_append fW fT (af 3) (aj (af 5) ar)))
   (aF (dY PassesOwn.leaving rfl (fv (af 5)) (c5 (i:=6) fB.nd rfl (Or.inl rfl))
   (aF (lJ (hr.cmp 1) (af 2) (af 6) f_)))))) bR)))
   (aF (bq (af 3))))))
theorem I_(fu:Nat)(T:Txt K mg A):ay P w K mg base (bp P w) 2 A.f_aa A.d_aa ["board", "thing"] (cp K 2 (d_aa fu)) :=
 cw T.F_aa Jd dR fun cdv Ar outer s H E hr=>(az (bM (PW.pt (mK (jh (g8 (ck (jJ K) (jM K) rfl T.n_isinstance boot_isinstance (aj (af 1) (aj (jQ rfl T.n_tuple boot_tuple) ar))))) (mV (kj (hr.cmp 8) (ck (ff rfl) (e_ K) rfl T.n_len boot_len (aj (af 1) ar)) (ck (ff rfl) (e_ K) rfl T.n_len boot_len (aj (af 0) ar)))))) (aF (bq f_)) bR)
   (aF (bq (ck (vk K) (vR K) rfl T.n_all boot_all (aj (kg bY (g9 (N:=["board", "thing"]) (psc:=ba qz) (js:=[]) (N':=["what"]) (by decide +kernel)) rfl rfl (lA (af 1)) (fun _ _ _ _=>kC) (fun _ _ _ _=>(w_ (wU (cj (Ja fu T) (hr.mono (by decide)) rfl T.g_ba T.F_ba.kp T.b_ba tq (aj (af 0) ar)) (sC (Hq wg wg (lK (f:=kL) (k6 fun _ _=>rfl)) (lK (f:=kL) (k6 fun _ _=>rfl)) aB (af 0) aB)))))) ar)))))
theorem GD(fu:Nat)(T:Txt K mg A):ay P w K mg base (bp P w) 2 A.f_ja A.d_ja ["board", "stand", "point"] (cp K 3 (d_ja fu)) :=
 cw T.F_ja GF jN fun cdv Ar outer s H E hr=>(aF (bq (cj (Ad fu T) (hr.mono (by decide)) rfl T.g_da T.F_da.kp T.b_da (ae.passes rfl) (aj (af 0) (aj (af 1) (aj (af 2) ar))))))
theorem xN(fu:Nat)(T:Txt K mg A):ay P w K mg base (bp P w) 3 A.f_ka A.d_ka ["board", "stand"] (cp K 2 (d_ka fu)) :=
 cw T.F_ka EE dR fun cdv Ar outer s H E hr=>(aF (bq (kg bY (g9 (N:=["board", "stand"]) (psc:=ba pM) (js:=[1]) (N':=["points", "stand"]) (by decide +kernel)) rfl rfl (fv (cj (iW (IU fu T)) (hr.mono (by decide)) rfl T.g_ga T.F_ga.kp T.b_ga (ae.passes rfl) (aj (af 0) (aj (af 1) ar)))) (fun _ _ _ _=>(oR (kj (hr.cmp 8) (aX (af 1) (aX (af 0) aB (fun _ _=>rfl)) (fun _ _=>rfl)) aB))) (fun _ _ _ _=>(af 0)))))
theorem JX(fu:Nat)(T:Txt K mg A):ay P w K mg base (bp P w) 1 A.f_e A.d_e ["board", "points"] (cp K 2 (d_e fu)) :=
 cw T.F_e kG jN fun cdv Ar outer s H E hr=>(az (a_ (i:=2) kG.nd rfl (Or.inl rfl) oM)
   (az (dY PassesOwn.leaving rfl (fv (af 1)) (c5 (i:=3) kG.nd rfl (Or.inl rfl))
   (aF (dY PassesOwn.leaving rfl (lA (aX (af 0) (af 3) (fun _ _=>rfl))) (c5 (i:=4) kG.nd rfl (Or.inl rfl))
   (aF (lJ (hr.cmp 1) (af 2) (af 4) f_)))))
   (aF (bq (ck (mJ rfl rfl) (mI K jH) rfl T.n_sorted boot_sorted (aj (af 2) ar))))))
theorem ur(fu:Nat)(T:Txt K mg A):ay P w K mg base (bp P w) 2 A.f_fa A.d_fa ["board", "stand", "row"] (cp K 3 (d_fa fu)) :=
 cw T.F_fa IV jN fun cdv Ar outer s H E hr=>(aF (bq (kg jH (g9 (N:=["board", "stand", "row"]) (psc:=ba ql) (js:=[1]) (N':=["point", "stand"]) (by decide +kernel)) rfl rfl (fv (cj (iW (JX fu T)) (hr.mono (by decide)) rfl T.g_e T.F_e.kp T.b_e (ae.passes rfl) (aj (af 0) (aj (af 2) ar)))) (fun _ _ _ _=>(oR (kl (hr.cmp 8) (aX (af 1) (af 0) (fun _ _=>rfl)) aB))) (fun _ _ _ _=>(af 0)))))
theorem I9(fu:Nat)(T:Txt K mg A):ay P w K mg base (bp P w) 4 A.f_ca A.d_ca ["board", "stand"] (cp K 2 (d_ca fu)) :=
 cw T.F_ca Jc dR fun cdv Ar outer s H E hr=>(aF (bq (ck (vk K) (vR K) rfl T.n_all boot_all (aj (kg bY (g9 (N:=["board", "stand"]) (psc:=ba qy) (js:=[0,1]) (N':=["row", "board", "stand"]) (by decide +kernel)) rfl rfl (fv (cj (xN fu T) (hr.mono (by decide)) rfl T.g_ka T.F_ka.kp T.b_ka (ae.passes rfl) (aj (af 0) (aj (af 1) ar)))) (fun _ _ _ _=>kC) (fun _ _ _ _=>(w_ (Bw (ck (ff rfl) (e_ K) rfl T.n_len boot_len (aj (cj (iW (ur fu T)) (hr.mono (by decide)) rfl T.g_fa T.F_fa.kp T.b_fa tq (aj (af 1) (aj (af 2) (aj (af 0) ar)))) ar)) aB)))) ar))))
theorem zh(fu:Nat)(T:Txt K mg A):ay P w K mg base (bp P w) 1 A.f_ia A.d_ia ["stand", "points", "what"] (cp K 3 (d_ia fu)) :=
 cw T.F_ia jt dR fun cdv Ar outer s H E hr=>(az (a_ (i:=3) jt.nd rfl (Or.inl rfl) (fV (mU rfl rfl) (mT K jH) rfl T.n_list PyProof.Rows.boot_list (aj (af 0) ar)))
   (az (dY PassesOwn.leaving rfl (fv (af 1)) (c5 (i:=4) jt.nd rfl (Or.inl rfl))
   (aF (oE (af 2) (sX (E:=E0) (af 3) (af 4)))))
   (aF (bq (fV (ox K) (oJ K) rfl T.n_tuple boot_tuple (aj (af 3) ar))))))
theorem Jv(fu:Nat)(T:Txt K mg A):ay P w K mg base (bp P w) 4 A.f_t A.d_t ["board", "stand", "hand"] (cp K 3 (d_t fu)) :=
 cw T.F_t mh jN fun cdv Ar outer s H E hr=>(az (a_ (i:=3) mh.nd rfl (Or.inl rfl) (gr ar))
   (az (dY PassesOwn.leaving rfl (fv (cj (xN fu T) (hr.mono (by decide)) rfl T.g_ka T.F_ka.kp T.b_ka (ae.passes rfl) (aj (af 0) (aj (af 1) ar)))) (c5 (i:=4) mh.nd rfl (Or.inl rfl))
   (aF (bM (PW.pt (jS (kl (hr.cmp 8) (aX (af 1) (aX (af 4) aB (fun _ _=>rfl)) (fun _ _=>rfl)) (af 2)) (lb (jh (pT (cj (iW (ur fu T)) (hr.mono (by decide)) rfl T.g_fa T.F_fa.kp T.b_fa (ae.passes rfl) (aj (af 0) (aj (af 1) (aj (af 4) ar))))))))) (aF (ee (fx PySem.F.slot_list_extend PySem.F.type_list_extend Es Br (af 3) (aj (af 4) ar)))) bR)))
   (aF (bq (ck (mJ rfl rfl) (mI K jH) rfl T.n_sorted boot_sorted (aj (af 3) ar))))))
theorem xM(fu:Nat)(T:Txt K mg A):ay P w K mg base (bp P w) 5 A.f_la A.d_la ["board", "stand", "hand", "point"] (cp K 4 (d_la fu)) :=
 cw T.F_la hU dR fun cdv Ar outer s H E hr=>(az (bM (kj (hr.cmp 8) (aX (af 1) (af 3) (fun _ _=>rfl)) aB) (aF (nv (l:=[3]) ae rfl T.xt rfl rfl rfl hr.hd (sR (lj oo (lj (sj 3) (lj oo sS)))) (fun _ h=>⟨trivial,h 3 (by decide),trivial,trivial⟩))) bR)
   (az (a_ (i:=4) hU.nd rfl (Or.inl rfl) (cj (zh fu T) (hr.mono (by decide)) rfl T.g_ia T.F_ia.kp T.b_ia (ae.passes rfl) (aj (af 1) (aj (gL (aj (af 3) ar)) (aj (af 2) ar)))))
   (az (a_ (i:=5) hU.nd rfl (Or.inl rfl) (cj (iW (Jv fu T)) (hr.mono (by decide)) rfl T.g_t T.F_t.kp T.b_t (ae.passes rfl) (aj (af 0) (aj (af 4) (aj (cj (uJ fu T) (hr.mono (by decide)) rfl T.g_p T.F_p.kp T.b_p (ae.passes rfl) (aj (af 2) ar)) ar)))))
   (az (a_ (i:=6) hU.nd rfl (Or.inl rfl) (cj (zh fu T) (hr.mono (by decide)) rfl T.g_ia T.F_ia.kp T.b_ia (ae.passes rfl) (aj (af 4) (aj (af 5) (aj aB ar)))))
   (az (bM (jh (pT (cj (iW (ur fu T)) (hr.mono (by decide)) rfl T.g_fa T.F_fa.kp T.b_fa (ae.passes rfl) (aj (af 0) (aj (af 6) (aj (cj (iW (GD fu T)) (hr.mono (by decide)) rfl T.g_ja T.F_ja.kp T.b_ja (ae.passes rfl) (aj (af 0) (aj (af 6) (aj (af 3) ar)))) ar)))))) (aF (nv (l:=[3]) ae rfl T.xt rfl rfl rfl hr.hd (sR (lj oo (lj (sj 3) (lj oo sS)))) (fun _ h=>⟨trivial,h 3 (by decide),trivial,trivial⟩))) bR)
   (aF (bq (iA (aj (af 6) (aj (af 5) ar))))))))))
theorem IT(fu:Nat)(T:Txt K mg A):ay P w K mg base (bp P w) 6 A.f_ha A.d_ha ["board", "stand", "hand", "points"] (cp K 4 (d_ha fu)) :=
 cw T.F_ha hX jN fun cdv Ar outer s H E hr=>(az (a_ (i:=4) hX.nd rfl (Or.inl rfl) (gr ar))
   (az (dY PassesOwn.leaving rfl (fv (af 3)) (c5 (i:=5) hX.nd rfl (Or.inl rfl))
   (az (EO (i:=6) rfl rfl rfl hX.nd rfl (Or.inl rfl) (xM fu T) (hr.mono (by decide)) rfl T.g_la T.F_la.kp T.b_la (aj (af 0) (aj (af 1) (aj (af 2) (aj (af 5) ar)))) (Dl rfl T.xt rfl rfl rfl rfl (fun _=>(aF Jl))))
   (aF (ee (fx PySem.F.slot_list_append PySem.F.type_list_append fW fT (af 4) (aj (iA (aj (af 5) (aj (aX (af 6) aB (fun _ _=>rfl)) (aj (aX (af 6) aB (fun _ _=>rfl)) ar)))) ar))))))
   (aF (bq (af 4)))))
theorem uM(fu:Nat)(T:Txt K mg A):ay P w K mg base (bp P w) 1 A.f_k A.d_k ["_law_cell", "_law_many"] (cp K 2 (d_k fu)) :=
 cw T.F_k jr dR fun cdv Ar outer s H E hr=>(az (a_ (i:=2) jr.nd rfl (Or.inl rfl) (gr ar))
   (az (a_ (i:=3) jr.nd rfl (Or.inl rfl) (fA (eA (af 0) aB) aB))
   (az (dY PassesOwn.leaving rfl (iQ rfl T.n_range (aj (fA (af 1) aB) ar)) (c5 (i:=4) jr.nd rfl (Or.inl rfl))
   (az (a_ (i:=3) jr.nd rfl (Or.inl rfl) (eA (fA (fA (lL (af 3) (af 3)) (lL aB (af 3))) (af 4)) aB))
   (aF (ee (fx PySem.F.slot_list_append PySem.F.type_list_append fW fT (af 2) (aj (af 3) ar))))))
   (aF (bq (kZ bY (af 2) (jk aB) oK))))))
theorem JO(fu:Nat)(T:Txt K mg A):ay P w K mg base (bp P w) 1 A.f_l A.d_l ["_law_many", "_law_lines_here"] (cp K 2 (d_l fu)) :=
 cw T.F_l kE dR fun cdv Ar outer s H E hr=>(az (n5 (k:=2) bY (g9 (N:=["_law_many", "_law_lines_here", "_law_joined_here", "_law_one", "_law_other"]) (psc:=ba o6) (js:=[]) (N':=["_law_k"]) (by decide +kernel)) rfl rfl (iQ rfl T.n_range (aj (af 0) ar)) (fun _ _ _ _=>kC) (fun _ _ _ _=>(gr ar)) kE.nd rfl rfl (by with_unfolding_all rfl))
   (az (dY PassesOwn.leaving rfl (fv (af 1)) (se rfl (nE (c5 (i:=3) kE.nd rfl (Or.inl rfl)) (nE (c5 (i:=4) kE.nd rfl (Or.inl rfl)) sY)))
   (az (ee (fx PySem.F.slot_list_append PySem.F.type_list_append fW fT (aX (af 2) (af 3) (fun _ _=>rfl)) (aj (af 4) ar)))
   (aF (ee (fx PySem.F.slot_list_append PySem.F.type_list_append fW fT (aX (af 2) (af 4) (fun _ _=>rfl)) (aj (af 3) ar))))))
   (aF (bq (fV (ox K) (oJ K) rfl T.n_tuple boot_tuple (aj (kg bY (g9 (N:=["_law_many", "_law_lines_here", "_law_joined_here", "_law_one", "_law_other"]) (psc:=ba o6) (js:=[]) (N':=["_law_some"]) (by decide +kernel)) rfl rfl (fv (af 2)) (fun _ _ _ _=>kC) (fun _ _ _ _=>(fV (ox K) (oJ K) rfl T.n_tuple boot_tuple (aj (ck (mJ rfl rfl) (mI K bY) rfl T.n_sorted boot_sorted (aj (af 0) ar)) ar)))) ar))))))
theorem Ju(fu:Nat)(T:Txt K mg A):ay P w K mg base (bp P w) 2 A.f_o A.d_o ["_law_xs"] (cp K 1 (d_o fu)) :=
 cw T.F_o dS vW fun cdv Ar outer s H E hr=>(az (bM (jg (eA (aX (af 0) aB (fun _ _=>rfl)) aB) aB) (az (a_ (i:=1) dS.nd rfl (Or.inr rfl) (fA aB (eA (aX (af 0) aB (fun _ _=>rfl)) aB)))
   (az (a_ (i:=2) dS.nd rfl (Or.inl rfl) (lL (af 1) (fA aB (eA (aX (af 0) aB (fun _ _=>rfl)) aB))))
   (az (bM (jg (eA (Ed (aX (af 0) aB (fun _ _=>rfl)) aB) aB) aB) (az (a_ (i:=1) dS.nd rfl (Or.inr rfl) (fA aB (eA (aX (af 0) aB (fun _ _=>rfl)) aB)))
   (aF (a_ (i:=2) dS.nd rfl (Or.inl rfl) (lL aB (af 1))))) bR)
   (az (n5 (k:=3) jH (g9 (N:=["_law_xs", "_law_wide", "_law_many", "_law_lines_here", "_law_beside", "_law_ys", "_law_one", "_law_other"]) (psc:=ba ma) (js:=[1]) (N':=["_law_k", "_law_wide"]) (by decide +kernel)) rfl rfl (iQ rfl T.n_range (aj (mY (af 2) (af 1)) ar)) (fun _ _ _ _=>kC) (fun _ _ _ _=>(iA (aj (af 0) (aj (fA (af 0) (af 1)) ar)))) dS.nd rfl rfl (by with_unfolding_all rfl))
   (az (n5 (k:=4) bY (g9 (N:=["_law_xs", "_law_wide", "_law_many", "_law_lines_here", "_law_beside", "_law_ys", "_law_one", "_law_other"]) (psc:=ba ma) (js:=[1]) (N':=["_law_k", "_law_wide"]) (by decide +kernel)) rfl rfl (iQ rfl T.n_range (aj (mY (af 2) aB) ar)) (fun _ _ _ _=>(oR (om (eA (fA (af 0) aB) (af 1)) aB))) (fun _ _ _ _=>(af 0)) dS.nd rfl rfl (by with_unfolding_all rfl))
   (aF (bq (iA (aj (af 2) (aj (kq bY (af 3) (kg bY (g9 (N:=["_law_xs", "_law_wide", "_law_many", "_law_lines_here", "_law_beside", "_law_ys", "_law_one", "_law_other"]) (psc:=ba ma) (js:=[]) (N':=["_law_k"]) (by decide +kernel)) rfl rfl (fv (af 4)) (fun _ _ _ _=>kC) (fun _ _ _ _=>(iA (aj (af 0) (aj (fA (af 0) aB) ar)))))) ar)))))))))) bR)
   (az (a_ (i:=2) dS.nd rfl (Or.inl rfl) (fA aB (eA (aX (af 0) aB (fun _ _=>rfl)) (aX (gL (aj aB (aj aB (aj aB (aj aB ar))))) (eA (aX (af 0) aB (fun _ _=>rfl)) aB) (fun _ _=>rfl)))))
   (az (n5 (k:=3) jH (g9 (N:=["_law_xs", "_law_wide", "_law_many", "_law_lines_here", "_law_beside", "_law_ys", "_law_one", "_law_other"]) (psc:=ba ma) (js:=[]) (N':=["_law_k"]) (by decide +kernel)) rfl rfl (iQ rfl T.n_range (aj (mY (af 2) aB) ar)) (fun _ _ _ _=>kC) (fun _ _ _ _=>(iA (aj (af 0) (aj (fA (af 0) aB) ar)))) dS.nd rfl rfl (by with_unfolding_all rfl))
   (az (bM (PW.pt (jS (jg (eA (aX (af 0) aB (fun _ _=>rfl)) aB) aB) (jS (om (af 2) aB) (lb (jg (eA (aX (af 0) aB (fun _ _=>rfl)) aB) aB))))) (aF (ee (fx PySem.F.slot_list_append PySem.F.type_list_append fW fT (af 3) (aj (iA (aj aB (aj (mY (af 2) aB) ar))) ar)))) bR)
   (az (bM (om (eA (aX (af 0) aB (fun _ _=>rfl)) aB) aB) (az (a_ (i:=5) dS.nd rfl (Or.inl rfl) (cj (uM fu T) (hr.mono (by decide)) rfl T.g_k T.F_k.kp T.b_k (ae.passes rfl) (aj (aX (af 0) aB (fun _ _=>rfl)) (aj (lL (af 2) (af 2)) ar))))
   (az (a_ (i:=3) dS.nd rfl (Or.inl rfl) (gr ar))
   (aF (dY PassesOwn.leaving rfl (iQ rfl T.n_range (aj (af 2) ar)) (c5 (i:=6) dS.nd rfl (Or.inl rfl))
   (aF (dY PassesOwn.leaving rfl (iQ rfl T.n_range (aj (af 6) ar)) (c5 (i:=7) dS.nd rfl (Or.inl rfl))
   (aF (bM (vY (eA (aX (af 5) (fA (lL (af 6) (af 2)) (af 7)) (fun _ _=>rfl)) aB) (eA (aX (af 0) aB (fun _ _=>rfl)) aB)) (aF (ee (fx PySem.F.slot_list_append PySem.F.type_list_append fW fT (af 3) (aj (iA (aj (af 7) (aj (af 6) ar))) ar)))) bR)))))))) bR)
   (aF (bq (iA (aj (af 2) (aj (af 3) ar))))))))))
theorem IZ(fu:Nat)(T:Txt K mg A):ay P w K mg base (bp P w) 1 A.f_ea A.d_ea ["_law_board", "_law_stand", "_law_point"] (cp K 3 (d_ea fu)) :=
 cw T.F_ea gj jN fun cdv Ar outer s H E hr=>(az (a_ (i:=3) gj.nd rfl (Or.inl rfl) (gr (aj (af 2) ar)))
   (az (a_ (i:=4) gj.nd rfl (Or.inl rfl) aB)
   (az (yO fu PassesOwn.leaving (vY (af 4) (ck (ff rfl) (e_ K) rfl T.n_len boot_len (aj (af 3) ar))) (az (dY PassesOwn.leaving rfl (lA (aX (af 0) (aX (af 3) (af 4) (fun _ _=>rfl)) (fun _ _=>rfl))) (c5 (i:=5) gj.nd rfl (Or.inl rfl))
   (aF (bM (PW.pt (jS (jg (aX (af 1) (af 5) (fun _ _=>rfl)) (aX (af 1) (af 2) (fun _ _=>rfl))) (lb (Hr (hr.cmp 9) (af 5) (af 3) (by with_unfolding_all rfl))))) (aF (ee (fx PySem.F.slot_list_append PySem.F.type_list_append fW fT (af 3) (aj (af 5) ar)))) bR)))
   (aF (a_ (i:=4) gj.nd rfl (Or.inl rfl) (fA (af 4) aB)))))
   (aF (bq (af 3))))))
theorem JK(fu:Nat)(T:Txt K mg A):ay P w K mg base (bp P w) 1 A.f_h A.d_h ["_law_board", "_law_stand", "_law_row_here"] (cp K 3 (d_h fu)) :=
 cw T.F_h kF jN fun cdv Ar outer s H E hr=>(az (a_ (i:=3) kF.nd rfl (Or.inl rfl) oM)
   (az (dY PassesOwn.leaving rfl (fv (af 2)) (c5 (i:=4) kF.nd rfl (Or.inl rfl))
   (aF (dY PassesOwn.leaving rfl (lA (aX (af 0) (af 4) (fun _ _=>rfl))) (c5 (i:=5) kF.nd rfl (Or.inl rfl))
   (aF (bM (jg (aX (af 1) (af 5) (fun _ _=>rfl)) aB) (aF (lJ (hr.cmp 1) (af 3) (af 5) f_)) bR)))))
   (aF (bq (ck (mJ rfl rfl) (mI K jH) rfl T.n_sorted boot_sorted (aj (fV (mU rfl rfl) (mT K bY) rfl T.n_list PyProof.Rows.boot_list (aj (af 3) ar)) ar))))))
theorem Ak(fu:Nat)(T:Txt K mg A):ay P w K mg base (bp P w) 2 A.f_m A.d_m ["_law_board", "_law_stand", "_law_hand", "_law_point"] (cp K 4 (d_m fu)) :=
 cw T.F_m fj dR fun cdv Ar outer s H E hr=>(az (bM (sd (aX (af 1) (af 3) (fun _ _=>rfl)) aB) (aF (bq fh)) bR)
   (az (a_ (i:=4) fj.nd rfl (Or.inl rfl) oM)
   (az (a_ (i:=5) fj.nd rfl (Or.inl rfl) oM)
   (az (dY PassesOwn.leaving rfl (lA (aX (af 0) (af 3) (fun _ _=>rfl))) (c5 (i:=6) fj.nd rfl (Or.inl rfl))
   (aF (bM (jg (aX (af 1) (af 6) (fun _ _=>rfl)) aB) (aF (lJ (hr.cmp 1) (af 5) (af 6) f_)) (az (a_ (i:=7) fj.nd rfl (Or.inl rfl) (cj (iW (IZ fu T)) (hr.mono (by decide)) rfl T.g_ea T.F_ea.kp T.b_ea (ae.passes rfl) (aj (af 0) (aj (af 1) (aj (af 6) ar)))))
   (az (a_ (i:=8) fj.nd rfl (Or.inl rfl) (cj (JK fu T) (hr.mono (by decide)) rfl T.g_h T.F_h.kp T.b_h (ae.passes rfl) (aj (af 0) (aj (af 1) (aj (af 7) ar)))))
   (az (ee (fx PySem.F.slot_list_remove PySem.F.type_list_remove Dp BL (af 8) (aj (af 3) ar)))
   (aF (bM (jg (aX (af 1) (af 6) (fun _ _=>rfl)) (af 2)) (aF (dY PassesOwn.leaving rfl (fv (af 8)) (c5 (i:=9) fj.nd rfl (Or.inl rfl))
   (aF (lJ (hr.cmp 1) (af 5) (af 9) f_)))) (aF (bM (kl (hr.cmp 8) (af 8) (gL ar)) (aF (dY PassesOwn.leaving rfl (fv (af 7)) (c5 (i:=9) fj.nd rfl (Or.inl rfl))
   (aF (lJ (hr.cmp 1) (af 4) (af 9) f_)))) bR))))))))))
   (az (bM (PW.pt (jS (jg (ck (ff rfl) (e_ K) rfl T.n_len boot_len (aj (af 5) ar)) aB) (lb (jg (ck (ff rfl) (e_ K) rfl T.n_len boot_len (aj (af 4) ar)) aB)))) (aF (bq fh)) bR)
   (az (a_ (i:=10) fj.nd rfl (Or.inl rfl) (fV (mU rfl rfl) (mT K jH) rfl T.n_list PyProof.Rows.boot_list (aj (af 1) ar)))
   (az (dY PassesOwn.leaving rfl (AZ (af 4)) (c5 (i:=9) fj.nd rfl (Or.inl rfl))
   (aF (oE aB (sX (E:=E0) (af 10) (af 9)))))
   (az (oE (af 2) (sX (E:=E0) (af 10) (af 3)))
   (aF (bq (iA (aj (fV (ox K) (oJ K) rfl T.n_tuple boot_tuple (aj (af 10) ar)) (aj (ck (mJ rfl rfl) (mI K bY) rfl T.n_sorted boot_sorted (aj (fV (mU rfl rfl) (mT K bY) rfl T.n_list PyProof.Rows.boot_list (aj (af 4) ar)) ar)) ar)))))))))))))
theorem Jt(fu:Nat)(T:Txt K mg A):ay P w K mg base (bp P w) 3 A.f_q A.d_q ["_law_board", "_law_cells"] (cp K 2 (d_q fu)) :=
 cw T.F_q gh dR fun cdv Ar outer s H E hr=>(az (a_ (i:=2) gh.nd rfl (Or.inl rfl) (fV (ox K) (oJ K) rfl T.n_tuple boot_tuple (aj (kg bY (g9 (N:=["_law_board", "_law_cells", "_law_stand", "_law_cell", "_law_xs", "_law_k", "_law_point", "_law_found"]) (psc:=ba qF) (js:=[]) (N':=["_law_point"]) (by decide +kernel)) rfl rfl (lA (af 0)) (fun _ _ _ _=>kC) (fun _ _ _ _=>aB)) ar)))
   (az (dY PassesOwn.leaving rfl (fv (af 1)) (c5 (i:=3) gh.nd rfl (Or.inl rfl))
   (az (a_ (i:=4) gh.nd rfl (Or.inl rfl) (cj (uM fu T) (hr.mono (by decide)) rfl T.g_k T.F_k.kp T.b_k (ae.passes rfl) (aj (af 3) (aj aB ar))))
   (aF (dY PassesOwn.leaving rfl (iQ rfl T.n_range (aj (fA aB (eA (aX (af 4) aB (fun _ _=>rfl)) aB)) ar)) (c5 (i:=5) gh.nd rfl (Or.inl rfl))
   (az (a_ (i:=6) gh.nd rfl (Or.inl rfl) (eA (fA (aX (af 4) aB (fun _ _=>rfl)) (lL aB (af 5))) (ck (ff rfl) (e_ K) rfl T.n_len boot_len (aj (af 0) ar))))
   (az (a_ (i:=7) gh.nd rfl (Or.inl rfl) (cj (Ak fu T) (hr.mono (by decide)) rfl T.g_m T.F_m.kp T.b_m (ae.passes rfl) (aj (af 0) (aj (af 2) (aj (fA aB (eA (fA (aX (af 4) aB (fun _ _=>rfl)) (af 5)) aB)) (aj (af 6) ar))))))
   (aF (bM (g8 (ck (jJ K) (jM K) rfl T.n_isinstance boot_isinstance (aj (af 7) (aj (jQ rfl T.n_tuple boot_tuple) ar)))) (aF (a_ (i:=2) gh.nd rfl (Or.inl rfl) (aX (af 7) aB (fun _ _=>rfl)))) bR))))))))
   (aF (bq (af 2)))))
theorem uB(fu:Nat)(T:Txt K mg A):ay P w K mg base (bp P w) 3 A.f_y A.d_y ["_law_board", "_law_rule", "_law_moments", "_law_what"] (cp K 4 (d_y fu)) :=
 cw T.F_y jq dR fun cdv Ar outer s H E hr=>(az (oE (aX (af 2) (mX aB) (fun _ _=>rfl)) (se rfl (nE (c5 (i:=4) jq.nd rfl (Or.inl rfl)) (nE (c5 (i:=5) jq.nd rfl (Or.inl rfl)) sY))))
   (az (bM (mW (af 3)) (aF (bq (iA (aj (af 4) (aj (gL ar) ar))))) bR)
   (az (a_ (i:=6) jq.nd rfl (Or.inl rfl) (cj (Ak fu T) (hr.mono (by decide)) rfl T.g_m T.F_m.kp T.b_m (ae.passes rfl) (aj (af 0) (aj (af 4) (aj (af 5) (aj (af 3) ar))))))
   (az (bM (g8 (ck (jJ K) (jM K) rfl T.n_isinstance boot_isinstance (aj (af 6) (aj (jQ rfl T.n_str boot_str) ar)))) (aF (bq (af 6))) bR)
   (az (dY PassesOwn.leaving rfl (iQ rfl T.n_range (aj (ck (ff rfl) (e_ K) rfl T.n_len boot_len (aj (af 2) ar)) ar)) (c5 (i:=7) jq.nd rfl (Or.inl rfl))
   (aF (bM (kl (hr.cmp 8) (aX (aX (af 2) (af 7) (fun _ _=>rfl)) aB (fun _ _=>rfl)) (aX (af 6) aB (fun _ _=>rfl))) (aF (bM (PW.pt (mK (kl (hr.cmp 8) (af 1) fh) (mV (sd (aX (aX (af 2) (af 7) (fun _ _=>rfl)) aB (fun _ _=>rfl)) (af 5))))) (aF (bq (af 7))) bR)) bR)))
   (aF (bq (af 6))))))))
theorem Ac(fu:Nat)(T:Txt K mg A):ay P w K mg base (bp P w) 1 A.f_z A.d_z ["_law_deeds"] (cp K 1 (d_z fu)) :=
 cw T.F_z Jb dR fun cdv Ar outer s H E hr=>(az (bM (PW.pt (jS (om (ck (ff rfl) (e_ K) rfl T.n_len boot_len (aj (af 0) ar)) aB) (jS (mW (aX (af 0) (mX aB) (fun _ _=>rfl))) (lb (mW (aX (af 0) (mX aB) (fun _ _=>rfl))))))) (aF (bq fh)) bR)
   (az (bM (jg (ck (ff rfl) (e_ K) rfl T.n_len boot_len (aj (af 0) ar)) aB) (aF (bq fh)) bR)
   (aF (bq kr))))
theorem uI(fu:Nat)(T:Txt K mg A):ay P w K mg base (bp P w) 1 A.f_s A.d_s ["self"] (cp K 1 (d_s fu)) :=
 cw T.F_s Jy dR fun cdv Ar outer s H E hr=>(aF (bq (aX (fg T.cls_Game T.na_Game_past (af 0)) (mX aB) (fun _ _=>rfl))))
theorem Aj(fu:Nat)(T:Txt K mg A):ay P w K mg base (bp P w) 1 A.f_r A.d_r ["self"] (cp K 1 (d_r fu)) :=
 cw T.F_r Jx dR fun cdv Ar outer s H E hr=>(az (bM (kl (hr.cmp 8) (kZ bY (fg T.cls_Game T.na_Game_done (af 0)) (jk (mX aB)) oK) (gL (aj kr (aj kr ar)))) (aF (bq fh)) bR)
   (az (bM (Bv (ck (ff rfl) (e_ K) rfl T.n_len boot_len (aj (fg T.cls_Game T.na_Game_done (af 0)) ar)) (Hm rfl T.c_MOST_DEEDS)) (aF (bq fh)) bR)
   (aF (bq kr))))
theorem AB(fu:Nat)(T:Txt K mg A):ay P w K mg base (bp P w) 2 A.f_i A.d_i ["self", "moment"] (cp K 2 (d_i fu)) :=
 cw T.F_i JL dR fun cdv Ar outer s H E hr=>(aF (bq (C1 (kl (hr.cmp 8) (eA (af 1) aB) aB) (fg T.cls_Game T.na_Game_first (af 0)) (cj (uJ fu T) (hr.mono (by decide)) rfl T.g_p T.F_p.kp T.b_p (ae.passes rfl) (aj (fg T.cls_Game T.na_Game_first (af 0)) ar)))))
theorem uz(fu:Nat)(T:Txt K mg A):ay P w K mg base (bp P w) 3 A.f_w A.d_w ["self"] (cp K 1 (d_w fu)) :=
 cw T.F_w Jj dR fun cdv Ar outer s H E hr=>(aF (bq (nr T.cls_Game T.mt_i (AB fu T) (hr.mono (by decide)) T.b_i (ae.passes rfl) (af 0) (aj (ck (ff rfl) (e_ K) rfl T.n_len boot_len (aj (fg T.cls_Game T.na_Game_done (af 0)) ar)) ar))))
theorem JT(fu:Nat)(T:Txt K mg A):ay P w K mg base (bp P w) 4 A.f_a A.d_a ["self", "moment"] (cp K 2 (d_a fu)) :=
 cw T.F_a JU dR fun cdv Ar outer s H E hr=>(aF (bq (Bu (rM (hr.cmp 8) (fg T.cls_Game T.na_Game_barring (af 0)) fh) (sC (rM (hr.cmp 8) (nr T.cls_Game T.mt_i (AB fu T) (hr.mono (by decide)) T.b_i (ae.passes rfl) (af 0) (aj (af 1) ar)) (cj (uJ fu T) (hr.mono (by decide)) rfl T.g_p T.F_p.kp T.b_p (ae.passes rfl) (aj (g_ T.cls_Game T.mt_w (uz fu T) (hr.mono (by decide)) T.b_w (ae.passes rfl) (af 0)) ar)))))))
theorem AA(fu:Nat)(T:Txt K mg A):ay P w K mg base (bp P w) 5 A.f_g A.d_g ["self", "behind"] (cp K 2 (d_g fu)) :=
 cw T.F_g o8 dR fun cdv Ar outer s H E hr=>(az (dY PassesOwn.leaving rfl (iQ rfl T.n_range (aj (ck (ff rfl) (e_ K) rfl T.n_len boot_len (aj (fg T.cls_Game T.na_Game_past (af 0)) ar)) ar)) (c5 (i:=2) o8.nd rfl (Or.inl rfl))
   (aF (bM (PW.pt (jS (kl (hr.cmp 8) (aX (fg T.cls_Game T.na_Game_past (af 0)) (af 2) (fun _ _=>rfl)) (af 1)) (lb (g8 (nr T.cls_Game T.mt_a (JT fu T) (hr.mono (by decide)) T.b_a (ae.passes rfl) (af 0) (aj (af 2) ar)))))) (aF (bq (af 2))) bR)))
   (aF (bq kr)))
theorem Aw(fu:Nat)(T:Txt K mg A):ay P w K mg base (bp P w) 6 A.f_v A.d_v ["self", "what"] (cp K 2 (d_v fu)) :=
 cw T.F_v gO dR fun cdv Ar outer s H E hr=>(az (bM (oN (g_ T.cls_Game T.mt_r (Aj fu T) (hr.mono (by decide)) T.b_r (ae.passes rfl) (af 0))) (aF (nv (l:=[]) ae rfl T.xt rfl rfl rfl hr.hd pN (fun _ _=>trivial))) bR)
   (az (a_ (i:=2) gO.nd rfl (Or.inl rfl) (g_ T.cls_Game T.mt_s (uI fu T) (hr.mono (by decide)) T.b_s (ae.passes rfl) (af 0)))
   (az (a_ (i:=3) gO.nd rfl (Or.inl rfl) aB)
   (az (bM (oN (af 1)) (az (a_ (i:=4) gO.nd rfl (Or.inl rfl) (cj (xM fu T) (hr.mono (by decide)) rfl T.g_la T.F_la.kp T.b_la (ae.passes rfl) (aj (fg T.cls_Game T.na_Game_joined (af 0)) (aj (af 2) (aj (g_ T.cls_Game T.mt_w (uz fu T) (hr.mono (by decide)) T.b_w (ae.passes rfl) (af 0)) (aj (af 1) ar))))))
   (az (a_ (i:=2) gO.nd rfl (Or.inl rfl) (aX (af 4) aB (fun _ _=>rfl)))
   (az (a_ (i:=3) gO.nd rfl (Or.inl rfl) (ck (ff rfl) (e_ K) rfl T.n_len boot_len (aj (aX (af 4) aB (fun _ _=>rfl)) ar)))
   (az (a_ (i:=5) gO.nd rfl (Or.inl rfl) (nr T.cls_Game T.mt_g (AA fu T) (hr.mono (by decide)) T.b_g (ae.passes rfl) (af 0) (aj (af 2) ar)))
   (aF (bM (oN (af 5)) (aF (HB ae (ae.passes rfl) rfl T.xn_Again.xi (J0 T) (hr.mono (by decide)) T.b_Again___init__ (T.xt.at rfl) rfl rfl hr.hd (i:=5) rfl (Or.inl rfl))) bR)))))) bR)
   (az (ee (fx PySem.F.slot_list_append PySem.F.type_list_append fW fT (fg T.cls_Game T.na_Game_past (af 0)) (aj (af 2) ar)))
   (az (ee (fx PySem.F.slot_list_append PySem.F.type_list_append fW fT (fg T.cls_Game T.na_Game_done (af 0)) (aj (af 1) ar)))
   (aF (ee (fx PySem.F.slot_list_append PySem.F.type_list_append fW fT (fg T.cls_Game T.na_Game_takings (af 0)) (aj (af 3) ar))))))))))
theorem Jh(fu:Nat)(T:Txt K mg A):ay P w K mg base (bp P w) 7 A.f_x A.d_x ["_law_game", "_law_what"] (cp K 2 (d_x fu)) :=
 cw T.F_x eN dR fun cdv Ar outer s H E hr=>(az (a_ (i:=2) eN.nd rfl (Or.inl rfl) kr)
   (az (a_ (i:=3) eN.nd rfl (Or.inl rfl) aB)
   (az (GN (i:=3) rfl rfl rfl eN.nd rfl (Or.inl rfl) T.cls_Game T.mt_v (Aw fu T) (hr.mono (by decide)) T.b_v (af 0) (aj (af 1) ar) (BM (i:=4) rfl T.xt rfl eN.nd rfl rfl rfl (fun _=>(aF (a_ (i:=2) eN.nd rfl (Or.inl rfl) (af 4))))))
   (az (bM (mW (af 2)) (aF (bq (aX (gL (aj fh (aj fh ar))) (fV l_ lG rfl T.n_int boot_int (aj (Ec (af 3)) ar)) (fun _ _=>rfl)))) bR)
   (az (a_ (i:=5) eN.nd rfl (Or.inl rfl) (gL (aj (nc bY (aj fh ar) (fV l_ lG rfl T.n_int boot_int (aj (p8 rfl T.xt rfl (af 2) rfl T.n_isinstance rfl) ar))) (aj (nc bY (aj fh ar) (fV l_ lG rfl T.n_int boot_int (aj (p8 rfl T.xt rfl (af 2) rfl T.n_isinstance rfl) ar))) ar))))
   (az (a_ (i:=5) eN.nd rfl (Or.inl rfl) (kq bY (af 5) (gL (aj (nc bY (aj fh ar) (fV l_ lG rfl T.n_int boot_int (aj (p8 rfl T.xt rfl (af 2) rfl T.n_isinstance rfl) ar))) ar))))
   (az (a_ (i:=5) eN.nd rfl (Or.inl rfl) (kq bY (af 5) (gL (aj (nc bY (aj fh ar) (fV l_ lG rfl T.n_int boot_int (aj (p8 rfl T.xt rfl (af 2) rfl T.n_isinstance rfl) ar))) ar))))
   (az (a_ (i:=5) eN.nd rfl (Or.inl rfl) (kq bY (af 5) (gL (aj (nc bY (aj fh ar) (fV l_ lG rfl T.n_int boot_int (aj (xO rfl T.xt rfl (by decide) (af 2) (lU (T.xt.at rfl) rfl (lU (T.xt.at rfl) rfl (lU (T.xt.at rfl) rfl (lU (T.xt.at rfl) rfl (lU (T.xt.at rfl) rfl xP))))) rfl T.n_isinstance) ar))) ar))))
   (az (a_ (i:=5) eN.nd rfl (Or.inl rfl) (ck (Hx rfl) Cg rfl T.n_sum boot_sum (aj (af 5) (aj (nc bY (aj fh ar) (fV l_ lG rfl T.n_int boot_int (aj (xO rfl T.xt rfl (by decide) (af 2) (lU (T.xt.at rfl) rfl (lU (T.xt.at rfl) rfl xP)) rfl T.n_isinstance) ar))) ar))))
   (az (bM (PW.pt (jS (C6 (hr.cmp 8) (af 5) (gL (aj fh ar))) (lb (jh (g8 (ck (jJ K) (jM K) rfl T.n_isinstance boot_isinstance (aj (w8 rfl T.xm_Again (af 2)) (aj (jQ rfl T.n_bool boot_bool) ar)))))))) (aF (bq (w8 rfl T.xm_Again (af 2)))) bR)
   (az (bM (PW.pt (mK (sd (ck (ff rfl) (e_ K) rfl T.n_len boot_len (aj (af 5) ar)) aB) (mV (jh (g8 (EN rfl T.xt (af 2) rfl T.n_isinstance rfl T.n_ValueError)))))) (aF (bq fh)) bR)
   (aF (bq (aX (af 5) aB (fun _ _=>rfl)))))))))))))))
theorem uW(fu:Nat)(T:Txt K mg A):ay P w K mg base (bp P w) 7 A.f_b A.d_b ["self"] (cp K 1 (d_b fu)) :=
 cw T.F_b mi jN fun cdv Ar outer s H E hr=>(az (bM (oN (g_ T.cls_Game T.mt_r (Aj fu T) (hr.mono (by decide)) T.b_r (ae.passes rfl) (af 0))) (aF (bq (gr ar))) bR)
   (az (a_ (i:=1) mi.nd rfl (Or.inl rfl) (cj (iW (IT fu T)) (hr.mono (by decide)) rfl T.g_ha T.F_ha.kp T.b_ha (ae.passes rfl) (aj (fg T.cls_Game T.na_Game_joined (af 0)) (aj (g_ T.cls_Game T.mt_s (uI fu T) (hr.mono (by decide)) T.b_s (ae.passes rfl) (af 0)) (aj (g_ T.cls_Game T.mt_w (uz fu T) (hr.mono (by decide)) T.b_w (ae.passes rfl) (af 0)) (aj (xI bY rfl rfl T.n_list rfl T.n_range (aj (ck (ff rfl) (e_ K) rfl T.n_len boot_len (aj (fg T.cls_Game T.na_Game_joined (af 0)) ar)) ar)) ar))))))
   (az (n5 (k:=2) jH (g9 (N:=["self", "lays", "found"]) (psc:=ba qG) (js:=[0]) (N':=["lay", "self"]) (by decide +kernel)) rfl rfl (fv (af 1)) (fun _ _ _ _=>(oR (Dr (mW (nr T.cls_Game T.mt_g (AA fu T) (hr.mono (by decide)) T.b_g tq (af 1) (aj (aX (af 0) aB (fun _ _=>rfl)) ar)))))) (fun _ _ _ _=>(aX (af 0) aB (fun _ _=>rfl))) mi.nd rfl rfl (by with_unfolding_all rfl))
   (az (ee (fx PySem.F.slot_list_append PySem.F.type_list_append fW fT (af 2) (aj kr ar)))
   (aF (bq (af 2)))))))
theorem JN(fu:Nat)(T:Txt K mg A):ay P w K mg base (bp P w) 1 A.f_j A.d_j ["self"] (cp K 1 (d_j fu)) :=
 cw T.F_j JP dR fun cdv Ar outer s H E hr=>(aF (bq (fV (mU rfl rfl) (mT K bY) rfl T.n_list PyProof.Rows.boot_list (aj (fg T.cls_Game T.na_Game_past (af 0)) ar))))
theorem Js(fu:Nat)(T:Txt K mg A):ay P w K mg base (bp P w) 1 A.f_n A.d_n ["self"] (cp K 1 (d_n fu)) :=
 cw T.F_n Jw dR fun cdv Ar outer s H E hr=>(aF (bq (fV (mU rfl rfl) (mT K bY) rfl T.n_list PyProof.Rows.boot_list (aj (fg T.cls_Game T.na_Game_done (af 0)) ar))))
theorem AM(fu:Nat)(T:Txt K mg A):ay P w K mg base (bp P w) 8 A.f_c A.d_c ["_law_game", "_law_board", "_law_rule", "_law_moments", "_law_deeds"] (cp K 5 (d_c fu)) :=
 cw T.F_c ju dR fun cdv Ar outer s H E hr=>(az (a_ (i:=5) ju.nd rfl (Or.inl rfl) (g_ T.cls_Game T.mt_b (uW fu T) (hr.mono (by decide)) T.b_b (ae.passes rfl) (af 0)))
   (az (a_ (i:=6) ju.nd rfl (Or.inl rfl) (gr ar))
   (az (dY PassesOwn.leaving rfl (iQ rfl T.n_range (aj (ck (ff rfl) (e_ K) rfl T.n_len boot_len (aj (af 1) ar)) ar)) (c5 (i:=7) ju.nd rfl (Or.inl rfl))
   (aF (bM (g8 (ck (jJ K) (jM K) rfl T.n_isinstance boot_isinstance (aj (cj (uB fu T) (hr.mono (by decide)) rfl T.g_y T.F_y.kp T.b_y (ae.passes rfl) (aj (af 1) (aj (af 2) (aj (af 3) (aj (af 7) ar))))) (aj (jQ rfl T.n_tuple boot_tuple) ar)))) (aF (ee (fx PySem.F.slot_list_append PySem.F.type_list_append fW fT (af 6) (aj (af 7) ar)))) bR)))
   (az (ee (fx PySem.F.slot_list_append PySem.F.type_list_append fW fT (af 6) (aj kr ar)))
   (az (bM (oN (cj (Ac fu T) (hr.mono (by decide)) rfl T.g_z T.F_z.kp T.b_z (ae.passes rfl) (aj (af 4) ar))) (aF (a_ (i:=6) ju.nd rfl (Or.inl rfl) (gr ar))) bR)
   (az (bM (PW.pt (mK (jh (g8 (ck (jJ K) (jM K) rfl T.n_isinstance boot_isinstance (aj (af 5) (aj (jQ rfl T.n_list PyProof.Rows.boot_list) ar))))) (mV (kj (hr.cmp 8) (af 5) (af 6))))) (aF (bq f_)) bR)
   (az (bM (om (ck (ff rfl) (e_ K) rfl T.n_len boot_len (aj (kg bY (g9 (N:=["_law_game", "_law_board", "_law_rule", "_law_moments", "_law_deeds", "_law_found", "_law_due_here", "_law_point"]) (psc:=ba o7) (js:=[]) (N':=["_law_one"]) (by decide +kernel)) rfl rfl (fv (af 5)) (fun _ _ _ _=>(oR (g8 (ck (jJ K) (jM K) rfl T.n_isinstance boot_isinstance (aj (af 0) (aj (jQ rfl T.n_bool boot_bool) ar)))))) (fun _ _ _ _=>(af 0))) ar)) aB) (aF (bq f_)) bR)
   (az (ee (fx PySem.F.slot_list_append PySem.F.type_list_append fW fT (af 5) (aj aB ar)))
   (az (bM (PW.pt (mK (kj (hr.cmp 8) (g_ T.cls_Game T.mt_b (iW (uW fu T)) (hr.mono (by decide)) T.b_b (ae.passes rfl) (af 0)) (af 6)) (mV (kj (hr.cmp 8) (g_ T.cls_Game T.mt_n (Js fu T) (hr.mono (by decide)) T.b_n (ae.passes rfl) (af 0)) (af 4))))) (aF (bq f_)) bR)
   (aF (bq (rM (hr.cmp 8) (g_ T.cls_Game T.mt_j (JN fu T) (hr.mono (by decide)) T.b_j (ae.passes rfl) (af 0)) (kg bY (g9 (N:=["_law_game", "_law_board", "_law_rule", "_law_moments", "_law_deeds", "_law_found", "_law_due_here", "_law_point"]) (psc:=ba o7) (js:=[]) (N':=["_law_one"]) (by decide +kernel)) rfl rfl (fv (af 3)) (fun _ _ _ _=>kC) (fun _ _ _ _=>(aX (af 0) aB (fun _ _=>rfl))))))))))))))))
theorem Jg(fu:Nat)(T:Txt K mg A):ay P w K mg base (bp P w) 1 A.f_u A.d_u ["self"] (cp K 1 (d_u fu)) :=
 cw T.F_u Ji dR fun cdv Ar outer s H E hr=>(az (bM (jh (pT (fg T.cls_Game T.na_Game_done (af 0)))) (aF (nv (l:=[]) ae rfl T.xt rfl rfl rfl hr.hd pN (fun _ _=>trivial))) bR)
   (az (ee (pS slot_list_pop type_list_pop pV pI (fg T.cls_Game T.na_Game_past (af 0))))
   (az (ee (pS slot_list_pop type_list_pop pV pI (fg T.cls_Game T.na_Game_done (af 0))))
   (aF (ee (pS slot_list_pop type_list_pop pV pI (fg T.cls_Game T.na_Game_takings (af 0))))))))
theorem JZ(fu:Nat)(T:Txt K mg A):ay P w K mg base (bp P w) 8 A.f_d A.d_d ["_law_game", "_law_board", "_law_rule", "_law_moments"] (cp K 4 (d_d fu)) :=
 cw T.F_d kH dR fun cdv Ar outer s H E hr=>(az (dY PassesOwn.leaving rfl (fv (kq bY (xI bY rfl rfl T.n_list rfl T.n_range (aj (ck (ff rfl) (e_ K) rfl T.n_len boot_len (aj (af 1) ar)) ar)) (gL (aj kr ar)))) (c5 (i:=4) kH.nd rfl (Or.inl rfl))
   (az (a_ (i:=5) kH.nd rfl (Or.inl rfl) (cj (uB fu T) (hr.mono (by decide)) rfl T.g_y T.F_y.kp T.b_y (ae.passes rfl) (aj (af 1) (aj (af 2) (aj (af 3) (aj (af 4) ar))))))
   (az (a_ (i:=6) kH.nd rfl (Or.inl rfl) (cj (Jh fu T) (hr.mono (by decide)) rfl T.g_x T.F_x.kp T.b_x (ae.passes rfl) (aj (af 0) (aj (af 4) ar))))
   (aF (bM (g8 (ck (jJ K) (jM K) rfl T.n_isinstance boot_isinstance (aj (af 5) (aj (jQ rfl T.n_tuple boot_tuple) ar)))) (az (bM (PW.pt (mK (kj (hr.cmp 8) (af 6) fh) (mV (kj (hr.cmp 8) (g_ T.cls_Game T.mt_s (uI fu T) (hr.mono (by decide)) T.b_s (ae.passes rfl) (af 0)) (aX (af 5) aB (fun _ _=>rfl)))))) (aF (bq f_)) bR)
   (aF (ee (g_ T.cls_Game T.mt_u (Jg fu T) (hr.mono (by decide)) T.b_u (ae.passes rfl) (af 0))))) (aF (bM (kj (hr.cmp 8) (af 6) (af 5)) (aF (bq f_)) bR)))))))
   (aF (bq f_)))
theorem JW(fu:Nat)(T:Txt K mg A):ay P w K mg base (bp P w) 5 A.f_f A.d_f ["self", "board", "rule", "stand", "hand"] (cp K 5 (d_f fu)) :=
 cw T.F_f JY vW fun cdv Ar outer s H E hr=>(az (bM (jh (g8 (cj (I_ fu T) (hr.mono (by decide)) rfl T.g_aa T.F_aa.kp T.b_aa (ae.passes rfl) (aj (af 1) (aj (af 3) ar))))) (aF (nv (l:=[]) ae rfl T.xt rfl rfl rfl hr.hd pN (fun _ _=>trivial))) bR)
   (az (bM (jh (g8 (cj (I9 fu T) (hr.mono (by decide)) rfl T.g_ca T.F_ca.kp T.b_ca (ae.passes rfl) (aj (af 1) (aj (af 3) ar))))) (aF (nv (l:=[]) ae rfl T.xt rfl rfl rfl hr.hd pN (fun _ _=>trivial))) bR)
   (az (mM T.cls_Game T.na_Game_joined (af 0) (af 1))
   (az (mM T.cls_Game T.na_Game_barring (af 0) (af 2))
   (az (mM T.cls_Game T.na_Game_first (af 0) (af 4))
   (az (mM T.cls_Game T.na_Game_past (af 0) (gr (aj (af 3) ar)))
   (az (mM T.cls_Game T.na_Game_done (af 0) (gr ar))
   (aF (mM T.cls_Game T.na_Game_takings (af 0) (gr ar))))))))))
theorem Cf(fu:Nat)(T:Txt K mg A):ay P w K mg base (bp P w) 9 A.f_law A.d_law ["_law_script"] (cp K 1 (d_law fu)) :=
 cw T.F_law bw dR fun cdv Ar outer s H E hr=>(az (a_ (i:=1) bw.nd rfl (Or.inl rfl) (cj (uM fu T) (hr.mono (by decide)) rfl T.g_k T.F_k.kp T.b_k (ae.passes rfl) (aj (aX (kq bY (af 0) (gL (aj aB ar))) aB (fun _ _=>rfl)) (aj aB ar))))
   (az (oE (cj (EX (Ju fu T)) (hr.mono (by decide)) rfl T.g_o T.F_o.kp T.b_o (ae.passes rfl) (aj (af 1) ar)) (se rfl (nE (c5 (i:=2) bw.nd rfl (Or.inl rfl)) (nE (c5 (i:=3) bw.nd rfl (Or.inl rfl)) sY))))
   (az (a_ (i:=4) bw.nd rfl (Or.inl rfl) (cj (JO fu T) (hr.mono (by decide)) rfl T.g_l T.F_l.kp T.b_l (ae.passes rfl) (aj (af 2) (aj (af 3) ar))))
   (az (a_ (i:=5) bw.nd rfl (Or.inl rfl) (cj (Jt fu T) (hr.mono (by decide)) rfl T.g_q T.F_q.kp T.b_q (ae.passes rfl) (aj (af 4) (aj (kZ bY (kq bY (kZ bY (af 0) (jk aB) (jk aB)) (kZ bY (af 1) (jk aB) oK)) oK (jk (eA (aX (af 1) aB (fun _ _=>rfl)) aB))) ar))))
   (az (a_ (i:=6) bw.nd rfl (Or.inl rfl) (aX (gL (aj fh (aj fh ar))) (eA (aX (af 1) aB (fun _ _=>rfl)) aB) (fun _ _=>rfl)))
   (az (a_ (i:=7) bw.nd rfl (Or.inl rfl) (EK T.mk_Game (JW fu T) (hr.mono (by decide)) rfl T.gc_Game T.b_f (ae.passes rfl) (aj (af 4) (aj (af 6) (aj (af 5) (aj (fA aB (eA (aX (af 1) aB (fun _ _=>rfl)) aB)) ar))))))
   (az (a_ (i:=8) bw.nd rfl (Or.inl rfl) (gr (aj (iA (aj (af 5) (aj (fA aB (eA (aX (af 1) aB (fun _ _=>rfl)) aB)) ar))) ar)))
   (az (a_ (i:=9) bw.nd rfl (Or.inl rfl) (gr ar))
   (az (dY PassesOwn.leaving rfl (fv (kq bY (kZ bY (kq bY (kZ bY (af 0) (jk aB) (jk aB)) (kZ bY (af 1) (jk aB) (jk aB))) oK (jk (eA (aX (af 1) aB (fun _ _=>rfl)) aB))) (gL (aj (aX (af 1) aB (fun _ _=>rfl)) ar)))) (c5 (i:=10) bw.nd rfl (Or.inl rfl))
   (az (bM (jh (g8 (cj (AM fu T) (hr.mono (by decide)) rfl T.g_c T.F_c.kp T.b_c (ae.passes rfl) (aj (af 7) (aj (af 4) (aj (af 6) (aj (af 8) (aj (af 9) ar)))))))) (aF (bq f_)) bR)
   (aF (bM (mW (cj (Ac fu T) (hr.mono (by decide)) rfl T.g_z T.F_z.kp T.b_z (ae.passes rfl) (aj (af 9) ar))) (az (bM (jh (g8 (cj (JZ fu T) (hr.mono (by decide)) rfl T.g_d T.F_d.kp T.b_d (ae.passes rfl) (aj (af 7) (aj (af 4) (aj (af 6) (aj (af 8) ar))))))) (aF (bq f_)) bR)
   (az (a_ (i:=11) bw.nd rfl (Or.inl rfl) (g_ T.cls_Game T.mt_b (iW (uW fu T)) (hr.mono (by decide)) T.b_b (ae.passes rfl) (af 7)))
   (az (a_ (i:=12) bw.nd rfl (Or.inl rfl) (aX (af 11) (eA (af 10) (ck (ff rfl) (e_ K) rfl T.n_len boot_len (aj (af 11) ar))) (fun _ _=>rfl)))
   (az (a_ (i:=13) bw.nd rfl (Or.inl rfl) (cj (uB fu T) (hr.mono (by decide)) rfl T.g_y T.F_y.kp T.b_y (ae.passes rfl) (aj (af 4) (aj (af 6) (aj (af 8) (aj (af 12) ar))))))
   (az (ee (nr T.cls_Game T.mt_v (Aw fu T) (hr.mono (by decide)) T.b_v (ae.passes rfl) (af 7) (aj (af 12) ar)))
   (az (ee (fx PySem.F.slot_list_append PySem.F.type_list_append fW fT (af 8) (aj (iA (aj (aX (af 13) aB (fun _ _=>rfl)) (aj (mY aB (aX (aX (af 8) (mX aB) (fun _ _=>rfl)) aB (fun _ _=>rfl))) ar))) ar)))
   (aF (ee (fx PySem.F.slot_list_append PySem.F.type_list_append fW fT (af 9) (aj (af 12) ar)))))))))) bR))))
   (aF (bq (cj (AM fu T) (hr.mono (by decide)) rfl T.g_c T.F_c.kp T.b_c (ae.passes rfl) (aj (af 7) (aj (af 4) (aj (af 6) (aj (af 8) (aj (af 9) ar)))))))))))))))))
end
theorem all_mk(X:K.In h)(G:h.Ns mainGlobals mg)(hfa:mg "law" = some (.ref fa)){f0:Addr}{f1:Addr}{f2:Addr}{f3:Addr}{f4:Addr}{f5:Addr}{f6:Addr}{f7:Addr}{f8:Addr}{f9:Addr}{f10:Addr}{f11:Addr}{f12:Addr}{f13:Addr}{f14:Addr}{f15:Addr}{f16:Addr}{f17:Addr}{f18:Addr}{f19:Addr}{f20:Addr}{f21:Addr}{f22:Addr}{f23:Addr}{f24:Addr}{f25:Addr}{f26:Addr}{od26 an26:Option Addr}{sl26:Array (Option Value)}{oc26 kV26 dc26 pm26 cd26 ct26:Value}{f27:Addr}{f28:Addr}{f29:Addr}{f30:Addr}{f31:Addr}{f32:Addr}{f33:Addr}{f34:Addr}{f35:Addr}{f36:Addr}{f37:Addr}{f38:Addr}{C_Game:Addr}(ac_Game:nsIn K mainGlobals "Game" = some (some (.ref C_Game)))(pg_Game:plainGet K C_Game Str.empty=true)(hd_Game:hasDictIn K C_Game=true)(po_Game:plainOver K C_Game=true)(sa_Game:findIn K (.ref C_Game) "__setattr__" = some (some (.builtin "object.__setattr__")))(mi_Game:makesIn K C_Game=true)(kc_Game:keepIn K (.ref C_Game)=true)(na_Game_barring:findIn K (.ref C_Game) "barring" = some none)(na_Game_done:findIn K (.ref C_Game) "done" = some none)(na_Game_first:findIn K (.ref C_Game) "first" = some none)(na_Game_joined:findIn K (.ref C_Game) "joined" = some none)(na_Game_past:findIn K (.ref C_Game) "past" = some none)(na_Game_takings:findIn K (.ref C_Game) "takings" = some none)(a0:nsIn K mainGlobals "is_whole" = some (some (.ref f0)))(l0:cu K "is_whole" "is_whole" uy f0)(a1:nsIn K mainGlobals "other_hand" = some (some (.ref f1)))(l1:cu K "other_hand" "other_hand" uU f1)(a2:nsIn K mainGlobals "patch_of" = some (some (.ref f2)))(l2:cu K "patch_of" "patch_of" ux f2)(a3:nsIn K mainGlobals "patches" = some (some (.ref f3)))(l3:cu K "patches" "patches" uj f3)(a4:nsIn K mainGlobals "is_stand" = some (some (.ref f4)))(l4:cu K "is_stand" "is_stand" qz f4)(a5:nsIn K mainGlobals "patch" = some (some (.ref f5)))(l5:cu K "patch" "patch" sP f5)(a6:nsIn K mainGlobals "rows" = some (some (.ref f6)))(l6:cu K "rows" "rows" pM f6)(a7:nsIn K mainGlobals "breaths" = some (some (.ref f7)))(l7:cu K "breaths" "breaths" ql f7)(a8:nsIn K mainGlobals "points_beside" = some (some (.ref f8)))(l8:cu K "points_beside" "points_beside" uY f8)(a9:nsIn K mainGlobals "is_sound" = some (some (.ref f9)))(l9:cu K "is_sound" "is_sound" qy f9)(a10:nsIn K mainGlobals "laid" = some (some (.ref f10)))(l10:cu K "laid" "laid" sf f10)(a11:nsIn K mainGlobals "lays_on" = some (some (.ref f11)))(l11:cu K "lays_on" "lays_on" ui f11)(a12:nsIn K mainGlobals "filled" = some (some (.ref f12)))(l12:cu K "filled" "filled" tJ f12)(a13:nsIn K mainGlobals "breathless" = some (some (.ref f13)))(l13:cu K "breathless" "breathless" uT f13)(a14:nsIn K mainGlobals "_law_stream" = some (some (.ref f14)))(l14:cu K "_law_stream" "_law_stream" uL f14)(a15:nsIn K mainGlobals "_law_joined" = some (some (.ref f15)))(l15:cu K "_law_joined" "_law_joined" o6 f15)(a16:nsIn K mainGlobals "_law_lines" = some (some (.ref f16)))(l16:cu K "_law_lines" "_law_lines" ma f16)(a17:nsIn K mainGlobals "_law_row" = some (some (.ref f17)))(l17:cu K "_law_row" "_law_row" uw f17)(a18:nsIn K mainGlobals "_law_breaths" = some (some (.ref f18)))(l18:cu K "_law_breaths" "_law_breaths" uP f18)(a19:nsIn K mainGlobals "_law_tried" = some (some (.ref f19)))(l19:cu K "_law_tried" "_law_tried" uS f19)(a20:nsIn K mainGlobals "_law_sound" = some (some (.ref f20)))(l20:cu K "_law_sound" "_law_sound" qF f20)(a21:nsIn K mainGlobals "_law_due" = some (some (.ref f21)))(l21:cu K "_law_due" "_law_due" uv f21)(a22:nsIn K mainGlobals "_law_end" = some (some (.ref f22)))(l22:cu K "_law_end" "_law_end" uu f22)(a23:nsIn K mainGlobals "_law_said" = some (some (.ref f23)))(l23:cu K "_law_said" "_law_said" uF f23)(a24:nsIn K mainGlobals "_law_open_right" = some (some (.ref f24)))(l24:cu K "_law_open_right" "_law_open_right" o7 f24)(a25:nsIn K mainGlobals "_law_all_tried" = some (some (.ref f25)))(l25:cu K "_law_all_tried" "_law_all_tried" u3 f25)(a26:nsIn K mainGlobals "law" = some (some (.ref f26)))(l26:K.lookup f26=some ⟨oc26,od26,.func (fnOf "law" "law" (ni mH) (lg mH) (ba mH) .none kV26 dc26 pm26 an26 cd26 ct26),sl26⟩)(c26:codeIn K cd26 "law" = true)(k26:keepIn K (.ref f26)=true)(a27:findIn K (.ref C_Game) "__init__" = some (some (.ref f27)))(fn27:isFn K (.ref f27)=true)(l27:cu K "__init__" "Game.__init__" uX f27)(a28:findIn K (.ref C_Game) "deed" = some (some (.ref f28)))(fn28:isFn K (.ref f28)=true)(l28:cu K "deed" "Game.deed" uE f28)(a29:findIn K (.ref C_Game) "came_at" = some (some (.ref f29)))(fn29:isFn K (.ref f29)=true)(l29:cu K "came_at" "Game.came_at" uO f29)(a30:findIn K (.ref C_Game) "is_barring" = some (some (.ref f30)))(fn30:isFn K (.ref f30)=true)(l30:cu K "is_barring" "Game.is_barring" uV f30)(a31:findIn K (.ref C_Game) "back" = some (some (.ref f31)))(fn31:isFn K (.ref f31)=true)(l31:cu K "back" "Game.back" uD f31)(a32:findIn K (.ref C_Game) "stand" = some (some (.ref f32)))(fn32:isFn K (.ref f32)=true)(l32:cu K "stand" "Game.stand" uR f32)(a33:findIn K (.ref C_Game) "hand" = some (some (.ref f33)))(fn33:isFn K (.ref f33)=true)(l33:cu K "hand" "Game.hand" uC f33)(a34:findIn K (.ref C_Game) "hand_at" = some (some (.ref f34)))(fn34:isFn K (.ref f34)=true)(l34:cu K "hand_at" "Game.hand_at" uN f34)(a35:findIn K (.ref C_Game) "stands" = some (some (.ref f35)))(fn35:isFn K (.ref f35)=true)(l35:cu K "stands" "Game.stands" uK f35)(a36:findIn K (.ref C_Game) "deeds" = some (some (.ref f36)))(fn36:isFn K (.ref f36)=true)(l36:cu K "deeds" "Game.deeds" uQ f36)(a37:findIn K (.ref C_Game) "open_deeds" = some (some (.ref f37)))(fn37:isFn K (.ref f37)=true)(l37:cu K "open_deeds" "Game.open_deeds" qG f37)(a38:findIn K (.ref C_Game) "ended" = some (some (.ref f38)))(fn38:isFn K (.ref f38)=true)(l38:cu K "ended" "Game.ended" uA f38){fX0:Addr}{C_Again:Addr}(ac_Again:nsIn K mainGlobals "Again" = some (some (.ref C_Again)))(ex_Again:u9 K (clOf K "Again") (clOf K "StoneError") "number" = true)(ex_mAgain:nN K (clOf K "Again") "number" = true)(aX0:findIn K (.ref C_Again) "__init__" = some (some (.ref fX0)))(fnX0:isFn K (.ref fX0)=true)(lX0:cu K "__init__" "Again.__init__" uZ fX0){t0:Tok}(q0:nsIn K mainGlobals "MOST_DEEDS" = some (some (.int 300 t0)))(z_ValueError:nsIn K mainGlobals "ValueError" = some none)(z_all:nsIn K mainGlobals "all" = some none)(z_bool:nsIn K mainGlobals "bool" = some none)(z_int:nsIn K mainGlobals "int" = some none)(z_isinstance:nsIn K mainGlobals "isinstance" = some none)(z_len:nsIn K mainGlobals "len" = some none)(z_list:nsIn K mainGlobals "list" = some none)(z_range:nsIn K mainGlobals "range" = some none)(z_sorted:nsIn K mainGlobals "sorted" = some none)(z_str:nsIn K mainGlobals "str" = some none)(z_sum:nsIn K mainGlobals "sum" = some none)(z_tuple:nsIn K mainGlobals "tuple" = some none)(xt:rh K cE=true)(nl:o9 K=true)
  : ∃A:qT,Txt K mg A/\fa=A.f_law/\∀(s:Shared) (v:Value),BindsTo s A.d_law ⟨[v],[]⟩ [("_law_script",v)]:=by
 have e:=hfa.symm.trans (mg_of X G a26);cases e;have ec_Game:C_Game=clOf K "Game" := by unfold VS.clOf;rw[ac_Game]
 subst ec_Game;obtain⟨d0,F0⟩:=l0;have b0:=F0.binds (ps:=["thing"]) fun _ _ _ _ _ _ us hl=>VS.us1 (fun _=>rfl) us hl;obtain⟨d1,F1⟩:=l1;have b1:=F1.binds (ps:=["hand"]) fun _ _ _ _ _ _ us hl=>VS.us1 (fun _=>rfl) us hl;obtain⟨d2,F2⟩:=l2;have b2:=F2.binds (ps:=["board", "marks", "start"]) fun _ _ _ _ _ _ us hl=>VS.us3 (fun _ _ _=>rfl) us hl;obtain⟨d3,F3⟩:=l3;have b3:=F3.binds (ps:=["board", "marks"]) fun _ _ _ _ _ _ us hl=>VS.us2 (fun _ _=>rfl) us hl;obtain⟨d4,F4⟩:=l4;have b4:=F4.binds (ps:=["board", "thing"]) fun _ _ _ _ _ _ us hl=>VS.us2 (fun _ _=>rfl) us hl;obtain⟨d5,F5⟩:=l5;have b5:=F5.binds (ps:=["board", "stand", "point"]) fun _ _ _ _ _ _ us hl=>VS.us3 (fun _ _ _=>rfl) us hl;obtain⟨d6,F6⟩:=l6;have b6:=F6.binds (ps:=["board", "stand"]) fun _ _ _ _ _ _ us hl=>VS.us2 (fun _ _=>rfl) us hl;obtain⟨d7,F7⟩:=l7;have b7:=F7.binds (ps:=["board", "stand", "row"]) fun _ _ _ _ _ _ us hl=>VS.us3 (fun _ _ _=>rfl) us hl;obtain⟨d8,F8⟩:=l8;have b8:=F8.binds (ps:=["board", "points"]) fun _ _ _ _ _ _ us hl=>VS.us2 (fun _ _=>rfl) us hl;obtain⟨d9,F9⟩:=l9;have b9:=F9.binds (ps:=["board", "stand"]) fun _ _ _ _ _ _ us hl=>VS.us2 (fun _ _=>rfl) us hl;obtain⟨d10,F10⟩:=l10;have b10:=F10.binds (ps:=["board", "stand", "hand", "point"]) fun _ _ _ _ _ _ us hl=>VS.us4 (fun _ _ _ _=>rfl) us hl;obtain⟨d11,F11⟩:=l11;have b11:=F11.binds (ps:=["board", "stand", "hand", "points"]) fun _ _ _ _ _ _ us hl=>VS.us4 (fun _ _ _ _=>rfl) us hl;obtain⟨d12,F12⟩:=l12;have b12:=F12.binds (ps:=["stand", "points", "what"]) fun _ _ _ _ _ _ us hl=>VS.us3 (fun _ _ _=>rfl) us hl;obtain⟨d13,F13⟩:=l13;have b13:=F13.binds (ps:=["board", "stand", "hand"]) fun _ _ _ _ _ _ us hl=>VS.us3 (fun _ _ _=>rfl) us hl;obtain⟨d14,F14⟩:=l14;have b14:=F14.binds (ps:=["_law_cell", "_law_many"]) fun _ _ _ _ _ _ us hl=>VS.us2 (fun _ _=>rfl) us hl;obtain⟨d15,F15⟩:=l15;have b15:=F15.binds (ps:=["_law_many", "_law_lines_here"]) fun _ _ _ _ _ _ us hl=>VS.us2 (fun _ _=>rfl) us hl;obtain⟨d16,F16⟩:=l16;have b16:=F16.binds (ps:=["_law_xs"]) fun _ _ _ _ _ _ us hl=>VS.us1 (fun _=>rfl) us hl;obtain⟨d17,F17⟩:=l17;have b17:=F17.binds (ps:=["_law_board", "_law_stand", "_law_point"]) fun _ _ _ _ _ _ us hl=>VS.us3 (fun _ _ _=>rfl) us hl;obtain⟨d18,F18⟩:=l18;have b18:=F18.binds (ps:=["_law_board", "_law_stand", "_law_row_here"]) fun _ _ _ _ _ _ us hl=>VS.us3 (fun _ _ _=>rfl) us hl;obtain⟨d19,F19⟩:=l19;have b19:=F19.binds (ps:=["_law_board", "_law_stand", "_law_hand", "_law_point"]) fun _ _ _ _ _ _ us hl=>VS.us4 (fun _ _ _ _=>rfl) us hl;obtain⟨d20,F20⟩:=l20;have b20:=F20.binds (ps:=["_law_board", "_law_cells"]) fun _ _ _ _ _ _ us hl=>VS.us2 (fun _ _=>rfl) us hl;obtain⟨d21,F21⟩:=l21;have b21:=F21.binds (ps:=["_law_board", "_law_rule", "_law_moments", "_law_what"]) fun _ _ _ _ _ _ us hl=>VS.us4 (fun _ _ _ _=>rfl) us hl;obtain⟨d22,F22⟩:=l22;have b22:=F22.binds (ps:=["_law_deeds"]) fun _ _ _ _ _ _ us hl=>VS.us1 (fun _=>rfl) us hl;obtain⟨d23,F23⟩:=l23;have b23:=F23.binds (ps:=["_law_game", "_law_what"]) fun _ _ _ _ _ _ us hl=>VS.us2 (fun _ _=>rfl) us hl;obtain⟨d24,F24⟩:=l24;have b24:=F24.binds (ps:=["_law_game", "_law_board", "_law_rule", "_law_moments", "_law_deeds"]) fun _ _ _ _ _ _ us hl=>VS.us5 (fun _ _ _ _ _=>rfl) us hl;obtain⟨d25,F25⟩:=l25;have b25:=F25.binds (ps:=["_law_game", "_law_board", "_law_rule", "_law_moments"]) fun _ _ _ _ _ _ us hl=>VS.us4 (fun _ _ _ _=>rfl) us hl;have F26:=xa (st:=mH) l26 c26 k26;have b26:=F26.binds (ps:=["_law_script"]) fun _ _ _ _ _ _ us hl=>VS.us1 (fun _=>rfl) us hl;obtain⟨d27,F27⟩:=l27;have b27:=F27.binds (ps:=["self", "board", "rule", "stand", "hand"]) fun _ _ _ _ _ _ us hl=>VS.us5 (fun _ _ _ _ _=>rfl) us hl;obtain⟨d28,F28⟩:=l28;have b28:=F28.binds (ps:=["self", "what"]) fun _ _ _ _ _ _ us hl=>VS.us2 (fun _ _=>rfl) us hl;obtain⟨d29,F29⟩:=l29;have b29:=F29.binds (ps:=["self", "behind"]) fun _ _ _ _ _ _ us hl=>VS.us2 (fun _ _=>rfl) us hl;obtain⟨d30,F30⟩:=l30;have b30:=F30.binds (ps:=["self", "moment"]) fun _ _ _ _ _ _ us hl=>VS.us2 (fun _ _=>rfl) us hl;obtain⟨d31,F31⟩:=l31;have b31:=F31.binds (ps:=["self"]) fun _ _ _ _ _ _ us hl=>VS.us1 (fun _=>rfl) us hl;obtain⟨d32,F32⟩:=l32;have b32:=F32.binds (ps:=["self"]) fun _ _ _ _ _ _ us hl=>VS.us1 (fun _=>rfl) us hl;obtain⟨d33,F33⟩:=l33;have b33:=F33.binds (ps:=["self"]) fun _ _ _ _ _ _ us hl=>VS.us1 (fun _=>rfl) us hl;obtain⟨d34,F34⟩:=l34;have b34:=F34.binds (ps:=["self", "moment"]) fun _ _ _ _ _ _ us hl=>VS.us2 (fun _ _=>rfl) us hl;obtain⟨d35,F35⟩:=l35;have b35:=F35.binds (ps:=["self"]) fun _ _ _ _ _ _ us hl=>VS.us1 (fun _=>rfl) us hl;obtain⟨d36,F36⟩:=l36;have b36:=F36.binds (ps:=["self"]) fun _ _ _ _ _ _ us hl=>VS.us1 (fun _=>rfl) us hl;obtain⟨d37,F37⟩:=l37;have b37:=F37.binds (ps:=["self"]) fun _ _ _ _ _ _ us hl=>VS.us1 (fun _=>rfl) us hl;obtain⟨d38,F38⟩:=l38;have b38:=F38.binds (ps:=["self"]) fun _ _ _ _ _ _ us hl=>VS.us1 (fun _=>rfl) us hl;have ec_Again:C_Again=clOf K "Again" := by unfold VS.clOf;rw[ac_Again]
 subst ec_Again;obtain⟨dX0,FX0⟩:=lX0;have bX0:=FX0.binds (ps:=["self", "number"]) fun _ _ _ _ _ _ us hl=>VS.us2 (fun _ _=>rfl) us hl;refine⟨⟨_,_,_,_,_,_,_,_,_,_,_,_,_,_,_,_,_,_,_,_,_,_,_,_,_,_,_,_,_,_,_,_,_,_,_,_,_,_,_,_,_,_,_,_,_,_,_,_,_,_,_,_,_,_,_,_,_,_,_,_,_,_,_,_,_,_,_,_,_,_,_,_,_,_,_,_,_,_,_,_⟩,⟨mg_of X G a0,F0,b0,mg_of X G a1,F1,b1,mg_of X G a2,F2,b2,mg_of X G a3,F3,b3,mg_of X G a4,F4,b4,mg_of X G a5,F5,b5,mg_of X G a6,F6,b6,mg_of X G a7,F7,b7,mg_of X G a8,F8,b8,mg_of X G a9,F9,b9,mg_of X G a10,F10,b10,mg_of X G a11,F11,b11,mg_of X G a12,F12,b12,mg_of X G a13,F13,b13,mg_of X G a14,F14,b14,mg_of X G a15,F15,b15,mg_of X G a16,F16,b16,mg_of X G a17,F17,b17,mg_of X G a18,F18,b18,mg_of X G a19,F19,b19,mg_of X G a20,F20,b20,mg_of X G a21,F21,b21,mg_of X G a22,F22,b22,mg_of X G a23,F23,b23,mg_of X G a24,F24,b24,mg_of X G a25,F25,b25,mg_of X G a26,F26,b26,⟨a27,fn27,F27.kp⟩,F27,b27,⟨a28,fn28,F28.kp⟩,F28,b28,⟨a29,fn29,F29.kp⟩,F29,b29,⟨a30,fn30,F30.kp⟩,F30,b30,⟨a31,fn31,F31.kp⟩,F31,b31,⟨a32,fn32,F32.kp⟩,F32,b32,⟨a33,fn33,F33.kp⟩,F33,b33,⟨a34,fn34,F34.kp⟩,F34,b34,⟨a35,fn35,F35.kp⟩,F35,b35,⟨a36,fn36,F36.kp⟩,F36,b36,⟨a37,fn37,F37.kp⟩,F37,b37,⟨a38,fn38,F38.kp⟩,F38,b38,ex_mAgain,BK ex_Again aX0 fnX0,FX0,bX0,⟨pg_Game,hd_Game,po_Game,sa_Game⟩,⟨mi_Game,a27,fn27,kc_Game⟩,mg_of X G ac_Game,na_Game_barring,na_Game_done,na_Game_first,na_Game_joined,na_Game_past,na_Game_takings,⟨_,mg_of X G q0⟩,mg_none_of X G z_ValueError,mg_none_of X G z_all,mg_none_of X G z_bool,mg_none_of X G z_int,mg_none_of X G z_isinstance,mg_none_of X G z_len,mg_none_of X G z_list,mg_none_of X G z_range,mg_none_of X G z_sorted,mg_none_of X G z_str,mg_none_of X G z_sum,mg_none_of X G z_tuple,BO X G xt,nl⟩,rfl,fun s v=>.of_eq rfl⟩
end K20
variable {o:Int} {r row pts:List Nat} {ls:List (Nat×Nat)} {dh:Sl->M (Option Int)} {hi:Option Int} {ns is':List Int} {w1 mo:W} {x5:Option W} {k':Nat} {s':Bool}
namespace K20
def FU:Nat:=1000
theorem aS{w:Option W}{b:DS}(q:Run b sl' ce Q)(h:cN sl i w sl':=by repeat (first|exact cN.zero|apply cN.succ)):Run b (sl.set i w) ce Q:=AO h q
local macro_rules|`(tactic| trivial)=>`(tactic| repeat' (first
 | with_reducible (refine AO (by repeat (first|exact cN.zero|apply cN.succ)) ?_)
 | with_reducible (refine id (α:=_=some (R.ok _ _)) ?_;assumption)
 | (with_reducible apply au);rfl
 |with_reducible first|exact aV|apply bN|apply k7|apply fZ|apply bA|apply cQ|apply aI|exact aK|apply bS|apply lR|apply mQ|apply jj|exact ev_yes|apply v_|apply nZ|apply rZ|exact o_|exact eqE0|exact eqE1|exact eqEN0|exact eqEN1|exact vC|exact inS0|exact inS1|exact inSL0|exact inSL1|exact inL0|exact inL1
 | with_reducible (apply inC0;assumption)
 | with_reducible (apply AY;assumption)
 | with_reducible (apply dinC0;assumption)
 | with_reducible (apply BS;assumption)
 | ((with_reducible apply v8);trivial;done)
 |with_reducible first|apply rn|apply vD|apply nS|apply qK|apply rA|apply qL|apply iP|apply jc|apply mO|apply pD|apply nY|apply bE.is
 | with_reducible (refine id (α:=bo _ _ _) ?_;first|assumption|exact .fr _|exact .cl (by assumption))
 |with_reducible first|apply gD|apply pO|apply gY|apply gu|apply jf|apply FZ|exact lf_isB0|exact lf_isB1|exact eqB0|exact eqB1|exact isiB|exact sk
 | with_reducible (apply xB;assumption)
 |with_reducible first|exact qh|apply dQ|apply pP|apply wH|apply Dc|apply tG|apply bL|apply kx|apply hJ|apply fy|apply aZ|apply iU|apply En|apply bO|apply gZ|apply cH|apply gI
 | with_reducible (refine id (α:=_=_) ?_;assumption)
 | (refine id (α:=(_:Nat)<_) ?_;first|assumption|omega)
 | (refine id (α:=(_:Nat)<=_) ?_;first|assumption|omega|decide|(simp only[length_cons,length_nil];decide))
 | with_reducible (apply C_;first|assumption|omega)
 | with_reducible (apply iT;first|assumption|omega)
 | with_reducible (apply wG;first|assumption|omega)
 | with_reducible (apply wF;assumption;first|assumption|omega)
 | with_reducible (apply fU;assumption)
 | with_reducible (apply je;assumption;first|assumption|omega)
 | with_reducible (apply lf_sortCF;assumption;first|assumption|omega)
 | with_reducible (apply tupCN;assumption;first|assumption|omega)
 | with_reducible (apply tupCB;assumption;first|assumption|omega)
 | with_reducible (apply rK;assumption;first|assumption|omega)
 | with_reducible (apply tupLN;first|assumption|omega)
 | with_reducible (apply v7;first|assumption|omega)
 | with_reducible (apply v5;first|assumption|omega)
 | ((with_reducible apply Ej);rfl;rfl;first|assumption|exact mul_small (.inr (by omega))|exact mul_small (.inl (by omega)))
 | with_reducible (apply lf_listL;first|assumption|omega)
 | with_reducible (apply lf_sortS;first|assumption|omega)
 |with_reducible exact eqLL0
 |with_reducible exact eqLL1
 | with_reducible (apply eqLC1;assumption)
 | with_reducible (apply eqSC1;assumption)
 |with_reducible first|exact qf|exact lf_lenS|exact El
 | with_reducible (apply Em;assumption)
 | intro _
 | ((with_reducible apply kA)<;>rfl)
 | ((with_reducible apply p_)<;>rfl)
 | ((with_reducible apply rY)<;>rfl)
 | ((with_reducible apply lf_fLe)<;>rfl)
 | ((with_reducible apply rX)<;>rfl)
 | ((with_reducible apply lf_fGe)<;>rfl)
 | ((with_reducible apply oI)<;>rfl)
 | ((with_reducible apply xD)<;>rfl)
 | ((with_reducible apply lf_fNeg);rfl)
 | ((with_reducible apply C8);rfl)
 |with_reducible first|exact isiN|exact isiNB|exact isiI|exact isiIB
 | ((with_reducible apply lf_min)<;>rfl)
 | ((with_reducible apply lf_max)<;>rfl)
 | ((with_reducible apply oH);rfl;rfl;omega)
 | ((with_reducible apply xC);rfl;rfl;omega)
 | (refine id (α:=(_:Nat)=_) ?_;rfl)
 | with_reducible rfl))
def rC(r:List Nat):C:=.lst (r.map nW)
def jZ(rows:List (List Nat))(p q:Nat):List (List Nat):=rows.set p (rows.getD p []++[q])
def nM(rows:List (List Nat))(p q:Nat):List (List Nat):=jZ (jZ rows p q) q p
theorem sO(rows:List (List Nat))(p q:Nat):(jZ rows p q).length=rows.length:=by simp[jZ]
theorem yH(rows:List (List Nat))(p q:Nat):(nM rows p q).length=rows.length:=by simp[nM,sO]
theorem p7{rows:List (List Nat)}(hp:p<rows.length)(q i:Nat):(jZ rows p q).getD i []=if i=p then rows.getD p []++[q] else rows.getD i []:=by
 unfold jZ;simp only[getD_eq_getElem?_getD]
 by_cases h:i=p
 ·subst h;simp[hp]
 ·rw[getElem?_set_ne (Ne.symm h)];simp[h]
structure Rows (n:Nat) (rows:List (List Nat)):Prop where
 len:rows.length=n
 bd:∀i j,j∈rows.getD i []->j<n
 sym:∀i j,j∈rows.getD i []->i∈rows.getD j []
section
variable {mS:Nat} {rows:List (List Nat)} {gs:Ce}
abbrev jL(ce:Ce)(n:Nat):W:=.lst ((List.range n).map fun i=>W.cel (ce.length+i))
abbrev bC(ce:Ce)(rows:List (List Nat))(gs:Ce):Ce:=ce++(rows.map rC++gs)
theorem w6(hp:p<rows.length):(bC ce rows gs)[ce.length+p]?=some (rC (rows.getD p [])):=by rw[pq,getElem?_append_left (by simpa using hp),getElem?_map,getD_eq_getElem?_getD];simp[hp]
theorem Cd(hp:p<rows.length):(bC ce rows gs).set (ce.length+p) (.lst ((rows.getD p []).map nW++[nW q]))=bC ce (jZ rows p q) gs:=by
 rw[vf,set_append_left _ _ (by simpa using hp)];show _=ce++((rows.set p (rows.getD p []++[q])).map rC++gs);rw[map_set];have e:C.lst ((rows.getD p []).map nW++[nW q])=rC (rows.getD p []++[q]):=by simp only[rC,map_append,map_cons,map_nil]
 rw[e]
theorem Cc(c:Ce)(hp:p<n):aC c (jL ce n) (nW p)=some (W.cel (ce.length+p)):=by rw[ko (xs:=(List.range n).map fun i=>W.cel (ce.length+i)) rfl,getElem?_map];simp[hp]
theorem AU{a b:Nat}(h4:sl[mS]?=some (some (jL ce n)))(ha:sl[a]?=some (some (nW p)))(hb:sl[b]?=some (some (nW q)))(hr:rows.length=n)(hp:p<n)(hz:(rows.getD p []).length<sizeLine) :
  b_ (cR cP (aD aC (aa mS) (aa a)) (ag (aa b) ai)) sl (bC ce rows gs)=some (.go .nx sl (bC ce (jZ rows p q) gs)):=by
 have hp':p<rows.length:=by omega
 have g:=w6 (ce:=ce) (gs:=gs) hp';have e1:aD aC (aa mS) (aa a) sl (bC ce rows gs)=some (.ok (W.cel (ce.length+p)) (bC ce rows gs)):=by simp only[CT,pF,pR,h4,ha,wO,Cc _ hp,map_some]
 have e2:ag (aa b) ai sl (bC ce rows gs)=some (.ok [nW q] (bC ce rows gs)):=by simp only[xG,pF,pR,hb,wN,vO]
 have lq:jE (bC ce rows gs) (W.cel (ce.length+p))=some ():=by unfold jE;rw[fU (xs:=(rows.getD p []).map nW) g];rfl
 have ap:cP (W.cel (ce.length+p)) [nW q] (bC ce rows gs)=some (.ok .non (bC ce (jZ rows p q) gs)):=by rw[pE (k_ (xs:=(rows.getD p []).map nW) g) (by rw[length_map];exact hz),Cd hp']
 generalize bC ce rows gs=c1 at *;generalize bC ce (jZ rows p q) gs=c2 at *;simp only[BW,BU,pF,BX,wO,e1,e2,lq,ap,map_some]
theorem Kg{a b:Nat}(h4:sl[mS]?=some (some (jL ce n)))(ha:sl[a]?=some (some (nW p)))(hb:sl[b]?=some (some (nW q)))(hr:rows.length=n)(hp:p<n)(hq:q<n)(hz:∀i,(rows.getD i []).length<1000) :
  aq (b_ (cR cP (aD aC (aa mS) (aa a)) (ag (aa b) ai))) (b_ (cR cP (aD aC (aa mS) (aa b)) (ag (aa a) ai))) sl (bC ce rows gs)=some (.go .nx sl (bC ce (nM rows p q) gs)):=by
 have z:(1001:Nat)<sizeLine:=by decide
 rw[xH (AU h4 ha hb hr hp (by have:=hz p;omega))];refine AU h4 hb ha (by rw[sO];exact hr) hq ?_;rw[p7 (by omega)];split
 ·have:=hz p;rw[length_append,length_singleton];omega
 ·have:=hz q;omega
theorem IS(hp:p<rows.length)(h:(rows.getD p []).length<=60)(cs:Sl):aR gv (ag (aR (fi aQ) (ag (aa 0) ai)) ai) (some (W.cel (ce.length+p))::cs) (bC ce rows gs)=some (.ok (wT (cG (rows.getD p []))) (bC ce rows gs)):=by
 have g:=w6 (ce:=ce) (gs:=gs) hp;have hz:(61:Nat)<sizeLine:=by decide
 have l1:(gb (cJ (rows.getD p []))).length=(rows.getD p []).length:=by rw[(jW _).length_eq,nF]
 have so:fi aQ [W.cel (ce.length+p)] (bC ce rows gs)=some (.ok (.lst ((cG (rows.getD p [])).map nW)) (bC ce rows gs)):=by simp only[fi,fU (xs:=(rows.getD p []).map nW) g,qu,nF];rw[if_pos (by omega),r_ _ (by rw[length_map,l1];omega),oY]
 have tu:gv [.lst ((cG (rows.getD p [])).map nW)] (bC ce rows gs)=some (.ok (wT (cG (rows.getD p []))) (bC ce rows gs)):=by
  have e:((cG (rows.getD p [])).map nW).length=(rows.getD p []).length:=by rw[<- oY,length_map,l1]
  show qX _ _=_;rw[CS _ (by rw[e];omega)];rfl
 generalize bC ce rows gs=c1 at *;simp only[BV,pF,xG,pR,getElem?_cons_zero,wN,vO,so,tu]
theorem Jf(hr:rows.length=n)(h36:n<=36)(h:∀i,(rows.getD i []).length<=60)(h4:sl[mS]?=some (some (jL ce n))) :
  cM aQ [] (cS (aa mS)) dD (aR gv (ag (aR (fi aQ) (ag (aa 0) ai)) ai)) sl (bC ce rows gs)=some (.ok (.lst (((List.range n).map fun i=>cG (rows.getD i [])).map wT)) (bC ce rows gs)):=by
 have hz:=fI;have hi:cS (aa mS) sl (bC ce rows gs)=some (.ok (.lst ((List.range n).map fun i=>W.cel (ce.length+i))) (bC ce rows gs)):=by show aw (aa mS sl) (fun w=>look fun ce=>gA ce w) (bC ce rows gs)=_;rw[g7 (a:=jL ce n) (ce':=bC ce rows gs) (by simp only[pR,h4])];rfl
 obtain⟨zs,e,pz⟩:=Dh (mk:=aQ) (js:=[]) (s:=.lst ((List.range n).map fun i=>W.cel (ce.length+i))) (e:=aR gv (ag (aR (fi aQ) (ag (aa 0) ai)) ai)) hi trivial (fun x y=>∃i,i<n/\x=W.cel (ce.length+i)/\y=wT (cG (rows.getD i []))) (fun x hx=>by
  simp only[Src.items,mem_map,mem_range] at hx;obtain⟨i,hi,rfl⟩:=hx;exact⟨_,⟨i,hi,rfl,rfl⟩,IS (by omega) (h i) _⟩) (by simp only[Src.items,length_map,length_range];omega)
 rw[e];obtain⟨hl,hn⟩:=VS.Paired.nth pz;simp only[Src.items,length_map,length_range] at hl;have ez:zs=((List.range n).map fun i=>cG (rows.getD i [])).map wT:=by
  apply ext_getElem?;intro i
  by_cases hi:i<n
  ·have h1:((List.range n).map fun i=>W.cel (ce.length+i))[i]?=some (W.cel (ce.length+i)):=by simp[hi]
   have h2:zs[i]?=some (zs[i]'(by omega)):=getElem?_eq_getElem _;obtain⟨j,_,q1,q2⟩:=hn i _ _ h1 h2;have hij:i=j:=by injection q1 with q1;omega
   subst hij;rw[h2,q2];simp[hi]
  ·rw[getElem?_eq_none (by omega),getElem?_eq_none (by simp;omega)]
 rw[r_ _ (by rw[<- hl];omega),ez]
theorem GB(hi:di sl ce=some (.ok (.rng 0 n) ce))(h36:n<=36):cM aQ [] di dD (dX ai) sl ce=some (.ok (jL ce n) (bC ce (List.replicate n []) [])):=by have hz:=fI;show aw (di sl) (fun s=>aw (dU s (dE [] sl) dD (dX ai) s.items []) aQ) ce=_;have al:=zq (s:=.rng 0 n) (cs:=dE [] sl) (fun _=>trivial) (Src.rng 0 n).items [] ce (by rw[ud];simp;omega);rw[g7 hi,g7 al,ud,r_ _ (by simp;omega)];simp[bC,rC,jL]
end
theorem mL{P:W->Ce->Prop}(sl:Sl)(e:ws.map some++List.replicate (n-ws.length) none=sl)(h:Run body sl ce (Rt fun v ce'=>∃w c',fin ce ce' v=some (.ok w c')/\P w c')):∃w c',bJ fin n body ws ce=some (.ok w c')/\P w c':=by
 subst e;obtain⟨o,e,q⟩:=h;cases o with
 | ex x c=>exact q.elim
 | go f sl c=>cases f with
  | rt w =>
   obtain⟨w',c',h1,h2⟩:=q;exact⟨w',c',wI e h1,h2⟩
  | nx=>exact q.elim
  | bk=>exact q.elim
  | ct=>exact q.elim
theorem sN{d:List Nat}(e:d++p::r=List.range n):d=List.range p:=by
 have hl:d.length<n:=by have:=congrArg List.length e;simp at this;omega
 have h1:(List.range n)[d.length]?=some p:=by rw[<- e];simp
 rw[getElem?_range hl] at h1;cases h1;have h2:(List.range n).take d.length=d:=by rw[<- e];simp
 rw[<- h2,take_range,min_eq_left (le_of_lt hl)];simp
structure LsOk (n:Nat) (ls:List (Nat×Nat)):Prop where
 nd:ls.Nodup
 lt:∀p∈ls,p.1<p.2/\p.2<n
theorem la{a b:Sl->M W}{x y:W}(ha:a sl ce=some (.ok x c1))(hb:b sl c1=some (.ok y c2))(hx:bU c2 x=some xs)(hy:bU c2 y=some ys)(hz:xs.length+ys.length<=sizeLine) :
  fR aQ a b sl ce=some (.ok (.lst (xs++ys)) c2):=by
 simp only[fR,aw,ha,hb,qW,hx,hy,if_pos hz];exact iD (by rw[length_append];exact hz)
theorem bX{α β:Type}{f:α->β}{l:List α}(h:l.Nodup)(inj:∀x y,f x=f y->x=y):(l.map f).Nodup:=List.Pairwise.map f (fun a b hab e=>hab (inj a b e)) h
def d_(ls:List (Nat×Nat))(i:Nat):List Nat:=ls.filterMap fun p=>if p.1=i then some p.2 else if p.2=i then some p.1 else none
theorem pZ(h:LsOk n ls):j∈d_ ls i↔(i,j)∈ls\/(j,i)∈ls:=by
 unfold d_;rw[mem_filterMap];constructor
 ·rintro⟨⟨a,b⟩,hp,e⟩;simp only at e;split at e
  ·cases e;rename_i h1;subst h1;exact .inl hp
  ·split at e
   ·cases e;simp_all
   ·cases e
 ·rintro(hp|hp)
  ·exact⟨(i,j),hp,by simp⟩
  ·have:=(h.lt _ hp).1;simp only at this;refine⟨(j,i),hp,?_⟩;simp only;rw[if_neg (by omega)];simp
theorem su(h:LsOk n ls)(i:Nat):(d_ ls i).Nodup:=by
 unfold d_;refine List.Pairwise.filterMap _ ?_ (List.Pairwise.and_mem.mp h.nd);rintro⟨a,b⟩ ⟨c,d⟩ ⟨h1,h2,hne⟩ x hx y hy e;subst e;have l1:=(h.lt _ h1).1;have l2:=(h.lt _ h2).1;simp only at hx hy l1 l2;apply hne;split at hx<;>split at hy
 ·cases hx;cases hy;simp_all
 ·split at hy
  ·cases hx;cases hy;simp_all;omega
  ·cases hy
 ·split at hx
  ·cases hx;cases hy;simp_all;omega
  ·cases hx
 ·split at hx
  ·split at hy
   ·cases hx;cases hy;simp_all
   ·cases hy
  ·cases hx
theorem ou(h:LsOk n ls)(hj:j∈d_ ls i):j<n/\i<n:=by
 rcases(pZ h).mp hj with hp|hp<;>(have:=h.lt _ hp;simp only at this;omega)
def gy(n:Nat)(ls:List (Nat×Nat)):List (List Nat):=(List.range n).map fun i=>cG (d_ ls i)
theorem qo(n:Nat)(ls:List (Nat×Nat))(i:Nat):(gy n ls).getD i []=if i<n then cG (d_ ls i) else []:=by
 unfold gy;rw[getD_eq_getElem?_getD,getElem?_map]
 by_cases h:i<n
 ·simp[h]
 ·rw[getElem?_eq_none (by simp;omega)];simp[h]
structure ka (b:List (List Nat)):Prop where
 bd:Bd b
 sym:Sym b
 h36:b.length<=36
 pos:0<b.length
 row:∀i,(b.getD i []).length<=36
 gb:∀i,cG (b.getD i [])=b.getD i []
theorem IQ{m:List Nat}(h:l.Perm m):cG l=cG m:=by unfold cG;rw[Hu h]
theorem HN(l:List Nat):(cG l).Perm l:=by
 have h:(cG l).Perm ((cJ l).map Int.toNat):=(jW (cJ l)).map _;have e:(cJ l).map Int.toNat=l:=by
  unfold cJ;rw[map_map]
  conv=>rhs;rw[<- map_id l]
  apply map_congr_left;intro x _;simp
 rwa [e] at h
theorem HM(l:List Nat):cG (cG l)=cG l:=IQ (HN l)
theorem ED(h:LsOk n ls)(h0:0<n)(h36:n<=36):ka (gy n ls):=by
 have hl:(gy n ls).length=n:=by simp[gy]
 refine⟨fun r hr x hx=>?_,fun i j hj=>?_,by omega,by omega,fun i=>?_,fun i=>?_⟩
 ·obtain⟨i,hi,rfl⟩:=mem_map.mp hr;rw[hl];exact(ou h ((qt _ _).mp hx)).1
 ·rw[qo] at hj ⊢;split at hj
  ·have hj:=(qt _ _).mp hj;rw[if_pos (ou h hj).1];exact(qt _ _).mpr ((pZ h).mpr ((pZ h).mp hj).symm)
  ·simp at hj
 ·rw[qo];split
  ·rw[nA];exact le_trans (eS (su h i) fun x hx=>(ou h hx).1) h36
  ·simp
 ·rw[qo];split
  ·exact HM _
  ·exact length_eq_zero_iff.mp (nA [])
theorem E_(d:List (Nat×Nat))(p q i:Nat)(hpq:p≠q):d_ (d++[(p,q)]) i=d_ d i++((if i=p then [q] else [])++(if i=q then [p] else [])):=by
 unfold d_;rw[filterMap_append];congr 1
 by_cases h1:i=p
 ·subst h1;have:¬i=q:=hpq;simp[this]
 ·by_cases h2:i=q
  ·subst h2;simp[h1,hpq]
  ·have h1':¬p=i:=fun e=>h1 e.symm;have h2':¬q=i:=fun e=>h2 e.symm;simp[h1,h2,h1',h2']
theorem GA(n:Nat)(d:List (Nat×Nat))(hp:p<n)(hq:q<n)(hpq:p≠q):nM ((List.range n).map (d_ d)) p q=(List.range n).map (d_ (d++[(p,q)])):=by
 have gd:∀(e:List (Nat×Nat)) (i:Nat),i<n->((List.range n).map (d_ e)).getD i []=d_ e i:=fun e i hi=>by simp[getD_eq_getElem?_getD,hi]
 apply ext_getElem?;intro i
 by_cases hi:i<n
 ·have e1:∀(l:List (List Nat)),l.length=n->l[i]?=some (l.getD i []):=fun l hl=>by
   rw[getD_eq_getElem?_getD,getElem?_eq_getElem (by omega)];rfl
  rw[e1 _ (by rw[yH];simp),e1 _ (by simp),gd _ i hi,E_ d p q i hpq];unfold nM;rw[p7 (by rw[sO];simpa using hq),p7 (by simpa using hp),p7 (by simpa using hp),gd _ _ hp,gd _ _ hq,gd _ _ hi];congr 1
  by_cases h1:i=q
  ·subst h1;rw[if_pos rfl,if_neg (Ne.symm hpq),if_pos rfl,if_neg (Ne.symm hpq)];simp
  ·rw[if_neg h1,if_neg h1]
   by_cases h2:i=p
   ·subst h2;simp
   ·simp[h2]
 ·rw[getElem?_eq_none (by rw[yH];simp;omega),getElem?_eq_none (by simp;omega)]
theorem Cb{a:Sl->M W}{x:W}{i:Int}(ha:a sl ce=some (.ok x c1))(hx:bU c1 x=some xs)(ei:i=(n:Int))(h:n<=xs.length)(hz:xs.length<=sizeLine):fO aQ a (dW (dC (.int i))) iF sl ce=some (.ok (.lst (xs.drop n)) c1):=by
 subst ei;have e1:HT.sIx xs.length 0 (some (n:Int))=n:=by rw[HT.sIx_nat];omega
 have e2:HT.sIx xs.length xs.length none=xs.length:=rfl;have hb':dW (dC (.int (n:Int))) sl c1=some (.ok (some (n:Int)) c1):=m9 aV;simp only[fO,aw,ha,iF,VS.ret,hb',qJ,hx,kd,e1,e2];rw[take_of_length_le (by rw[length_drop];omega)];refine iD ?_;rw[length_drop];omega
theorem pY{a:Sl->M W}{x:W}{dl:Sl->M (Option Int)}{lo:Option Int}(ha:a sl ce=some (.ok x c1))(hl:dl sl c1=some (.ok lo c2))(hh:dh sl c2=some (.ok hi c3))(hx:bU c3 x=some xs)(hz:xs.length<=sizeLine):fO aQ a dl dh sl ce=some (.ok (.lst (kd xs lo hi)) c3):=by simp only[fO,aw,ha,hl,hh,qJ,hx];refine iD ?_;unfold kd;rw[length_take,length_drop];omega
theorem tI(xs:List Int)(lo hi:Option Int):∃ys:List Int,kd (xs.map W.int) lo hi=ys.map W.int/\ys.length<=xs.length/\∀y∈ys,y∈xs:=by unfold kd;rw[<- map_drop,<- map_take];exact⟨_,rfl,by rw[length_take,length_drop];omega,fun y hy=>mem_of_mem_drop (mem_of_mem_take hy)⟩
theorem uh(fu:Nat)(c:Int){m:Nat}(hm:m<=999):∃xs:List Int,d_k fu [.int c,nW m] ce=some (.ok (sW xs) ce)/\xs.length=m/\∀x∈xs,0<=x/\x<2147483647:=by
 have hz:1100<sizeLine:=by decide
 suffices hs:∃w c',d_k fu [.int c,nW m] ce=some (.ok w c')/\∃xs:List Int,w=sW xs/\c'=ce/\xs.length=m/\∀x∈xs,0<=x/\x<2147483647 by
  obtain⟨w,c',e,xs,rfl,rfl,h⟩:=hs;exact⟨xs,e,h⟩
 have f1:cI (nW m) (.int 1)=some (nW (m+1)):=kA (i:=m) (j:=1) rfl rfl;have m1000:m+1<=1000:=by omega
 unfold d_k;refine mL [some (.int c),some (nW m),none,none,none] rfl ?_;refine aZ (gY aK (zero_le _)) ?_;refine aS ?_;have O0:=(Own.start ce).alloc (C.lst []);generalize hk:ce.length=k2 at O0 ⊢;generalize ce++[C.lst []]=c0 at O0 ⊢;refine aZ (w:=.int (c % 2147483647+48271)) (ce':=c0) (by trivial) ?_;refine aS ?_;refine iI (zs:=List.range (m+1)) (en:=nW) (iP (by trivial) m1000)
  (fun d sl c'=>∃xs:List Int,∃u:Int,∃x4,sl=[some (.int c),some (nW m),some (.cel k2),some (.int u),x4]/\Own ce c' [(k2,C.lst (xs.map W.int))]/\0<=u/\u<4294967296/\xs.length=d.length/\∀x∈xs,0<=x/\x<2147483647)
  ⟨[],_,_,rfl,O0,by omega,by omega,rfl,by simp⟩ ?_ ?_
 ·rintro d j r sl c' e hj ⟨xs,u,x4,rfl,O,u0,u1,hl,hx⟩;have hj:=mem_range.mp hj;have hdl:d.length<=1000:=by have:=congrArg List.length e;simp at this;omega
  have g2:=O.g0;have hm2:(xs.map W.int).length<sizeLine:=by rw[length_map];omega
  have mu:fq u u:=.inl (by omega);have mu2:fq 48271 u:=.inl (by omega);unfold Az;trivial;refine⟨xs++[(u*u+48271*u+(j:Int)) % 2147483647],_,_,rfl,by rw[map_append];exact O.set0 _,by omega,by omega,by simp[hl],fun x hx'=>?_⟩;rcases mem_append.mp hx' with h|h
  ·exact hx x h
  ·rw[mem_singleton] at h;subst h;omega
 ·rintro sl c' ⟨xs,u,x4,rfl,O,u0,u1,hl,hx⟩;rw[length_range] at hl;refine bL (Cb (xs:=xs.map W.int) (n:=1) (au rfl) (fU O.g0) rfl (by rw[length_map];omega) (by rw[length_map];omega)) ?_;rw[<- map_drop];subst hk;refine⟨_,_,O.finC (by simp only[aU];exact bz _ _),xs.drop 1,rfl,rfl,by rw[length_drop];omega,fun x hx'=>hx x (mem_of_mem_drop hx')⟩
theorem HL(fu:Nat)(n0:0<n)(h36:n<=36)(L:LsOk n ls):d_l fu [nW n,.lst (ls.map pW)] ce=some (.ok (wB (gy n ls)) ce):=by
 have hz:=fI;unfold d_l;refine dm [some (nW n),some (.lst (ls.map pW)),none,none,none] rfl ?_;refine aZ (GB (ce:=ce) (n:=n) (rZ (by trivial) (by omega)) (by omega)) ?_;refine aS ?_;refine FW (zs:=ls) (fa:=fun p=>nW p.1) (fb:=fun p=>nW p.2) (c1:=bC ce (List.replicate n []) []) (jc (by trivial))
  (fun d sl c=>∃x3 x4,sl=[some (nW n),some (.lst (ls.map pW)),some (jL ce n),x3,x4]/\c=bC ce ((List.range n).map (d_ d)) [])
  ⟨_,_,rfl,by
   congr 2;apply ext_getElem?;intro i
   by_cases hi:i<n
   ·simp[hi,d_]
   ·rw[getElem?_eq_none (by simp;omega),getElem?_eq_none (by simp;omega)]⟩ ?_ ?_
 ·rintro d ⟨p,q⟩ r sl c e hp ⟨x3,x4,rfl,rfl⟩;have lt:=L.lt _ hp;simp only at lt;have Ld:LsOk n d:=by rw[<- e] at L;exact⟨(nodup_append.mp L.nd).1,fun x hx=>L.lt x (mem_append_left _ hx)⟩
  have hz2:∀i,(((List.range n).map (d_ d)).getD i []).length<1000:=fun i=>by
   by_cases hi:i<n
   ·have:((List.range n).map (d_ d)).getD i []=d_ d i:=by simp[getD_eq_getElem?_getD,hi]
    rw[this];have:=eS (su Ld i) fun x hx=>(ou Ld hx).1;omega
   ·rw[getD_eq_getElem?_getD,getElem?_eq_none (by simp;omega)];simp
  unfold Ay;refine Dd (Kg (ce:=ce) (n:=n) (mS:=2) (rows:=(List.range n).map (d_ d)) (gs:=[]) (sl:=[some (nW n),some (.lst (ls.map pW)),some (jL ce n),some (nW p),some (nW q)]) (a:=3) (b:=4) (p:=p) (q:=q) rfl rfl rfl (by simp) (by omega) (by omega) hz2) ?_;exact⟨_,_,rfl,by rw[GA n d (by omega) (by omega) (by omega)]⟩
 ·rintro sl c ⟨x3,x4,rfl,rfl⟩;have hb60:∀i,(((List.range n).map (d_ ls)).getD i []).length<=60:=fun i=>by
   by_cases hi:i<n
   ·have:((List.range n).map (d_ ls)).getD i []=d_ ls i:=by simp[getD_eq_getElem?_getD,hi]
    rw[this];have:=eS (su L i) fun x hx=>(ou L hx).1;omega
   ·rw[getD_eq_getElem?_getD,getElem?_eq_none (by simp;omega)];simp
  have er:=Jf (ce:=ce) (gs:=[]) (mS:=2) (rows:=(List.range n).map (d_ ls)) (n:=n) (by simp) (by omega) hb60 (sl:=[some (nW n),some (.lst (ls.map pW)),some (jL ce n),x3,x4]) rfl;have eb:((List.range n).map fun i=>cG (((List.range n).map (d_ ls)).getD i []))=gy n ls:=by unfold gy;apply map_congr_left;intro i hi;have hi:=mem_range.mp hi;simp[getD_eq_getElem?_getD,hi]
  rw[eb] at er;have hlb:(gy n ls).length<=sizeLine:=by simp[gy];omega
  refine bL (bS (aI er aK) (v7 hlb)) ?_;have Oe:Own ce (bC ce ((List.range n).map (d_ ls)) []) []:=⟨⟨_,rfl⟩,by simp,by simp,by simp⟩
  exact Oe.finC (De _ _)
theorem iz(h:p<ns.length)(c:Ce){i:Int}(ei:i=(p:Int)):aC c (sW ns) (.int i)=some (.int (ns.getD p 0)):=by subst ei;show aC c (.lst (ns.map W.int)) (nW p)=_;rw[ko (xs:=ns.map W.int) rfl,getElem?_map,getD_eq_getElem?_getD,getElem?_eq_getElem h];rfl
theorem sM(h:p<ns.length):ns.getD p 0∈ns:=by rw[getD_eq_getElem?_getD,getElem?_eq_getElem h];exact getElem_mem h
theorem Gz(fu:Nat){xs:List Int}(hx3:3<=xs.length)(hx:∀x∈xs,0<=x/\x<2147483647) :
  ∃many ls,mv (d_o fu) [sW xs] ce=some (.ok (.tup [nW many,.lst (ls.map pW)]) ce)/\0<many/\many<=36/\LsOk many ls:=by
 have hz:2000<sizeLine:=by decide
 have z2:2<=sizeLine:=by decide
 have z4:4<=sizeLine:=by decide
 suffices h:∃w c,d_o fu [sW xs] ce=some (.ok w c)/\∃many ls l,Own ce c l/\eZ ce.length c 6 w=some (.tup [nW many,.lst (ls.map pW)])/\0<many/\many<=36/\LsOk many ls by
  obtain⟨w,c,e,many,ls,l,O,ht,r⟩:=h;exact⟨many,ls,Own.frzD' e O (lu.refl ce) ht,r⟩
 have i0:=fun c=>iz (ns:=xs) (p:=0) (by omega) c (i:=0) rfl;have i1:=fun c=>iz (ns:=xs) (p:=1) (by omega) c (i:=1) rfl;have i2:=fun c=>iz (ns:=xs) (p:=2) (by omega) c (i:=2) rfl;have b0:=hx _ (sM (ns:=xs) (p:=0) (by omega));have b1:=hx _ (sM (ns:=xs) (p:=1) (by omega));have b2:=hx _ (sM (ns:=xs) (p:=2) (by omega));generalize xs.getD 0 0=a0 at i0 b0;generalize xs.getD 1 0=a1 at i1 b1;generalize xs.getD 2 0=a2 at i2 b2;have i0c:=i0 ce;have i1c:=i1 ce;have kK:=i2 ce;unfold d_o;refine mL [some (sW xs),none,none,none,none,none,none,none] rfl ?_;refine bO (p:=decide (a1 % 4=0)) (ce':=ce) (by trivial) (fun q=>?_) (fun q=>?_)
 ·-- a grid
  obtain⟨wd0,hwd0⟩:∃wd:Nat,1+a0 % 4=wd:=⟨(1+a0 % 4).toNat,by omega⟩
  obtain⟨n0,hn0⟩:∃n:Nat,(wd0:Int)*(1+a2 % 4)=n:=⟨wd0*(1+a2 % 4).toNat,by rw[natCast_mul];congr 1;omega⟩
  have mu0:fq (wd0:Int) (1+a2 % 4):=.inl (by omega);have f0:cI (.int 1) (.int (a0 % 4))=some (nW wd0):=by rw[kA rfl rfl,hwd0];rfl
  have f1:fG (nW wd0) (.int (1+a2 % 4))=some (nW n0):=by show fG (.int wd0) (.int (1+a2 % 4))=some (.int n0);rw[oq mu0,hn0]
  refine gZ ?_;refine aZ (w:=nW wd0) (ce':=ce) (by trivial) ?_;refine aS ?_;refine gZ ?_;refine aZ (w:=nW n0) (ce':=ce) (by trivial) ?_;refine aS ?_;refine gZ ?_;have last:∀(wd hg n:Nat),0<wd->0<hg->wd*hg=n->n<=36->∀(tail:DS),Run (aq (aq (aM 3 (cM fF [1] (fQ (ag (aH gU (aa 2) (aa 1)) ai)) dD (eK (ag (aa 0) (ag (aH cI (aa 0) (aa 1)) ai)))))
    (aq (aM 4 (cM aQ [1] (fQ (ag (aH gU (aa 2) (dC (.int 1))) ai)) (dB (aH gw (aH bW (aH cI (aa 0) (dC (.int 1))) (aa 1)) (dC (.int 0)))) (aa 0)))
    (aW (eK (ag (aa 2) (ag (fR aQ (aa 3) (cM aQ [] (cS (aa 4)) dD (eK (ag (aa 0) (ag (aH cI (aa 0) (dC (.int 1))) ai))))) ai)))))) tail)
    [some (sW xs),some (nW wd),some (nW n),none,none,none,none,none] ce
    (Rt fun v ce'=>∃w c',nP ce ce' v=some (.ok w c')/\∃many ls l,Own ce c' l/\eZ ce.length c' 6 w=some (.tup [nW many,.lst (ls.map pW)])/\0<many/\many<=36/\LsOk many ls):=by
   intro wd hg n w1 h1 hn n36 tail;have n0:0<n:=by rw[<- hn];exact mul_pos w1 h1
   have wn:wd<=n:=by rw[<- hn];exact le_mul_of_pos_right wd h1
   have sb:gU (nW n) (nW wd)=some (nW (n-wd)):=by
    refine(p_ (x:=nW n) (y:=nW wd) (i:=n) (j:=wd) rfl rfl).trans ?_;have:((n:Int)-(wd:Int))=((n-wd:Nat):Int):=by omega
    rw[this];rfl
   have sb1:gU (nW n) (.int 1)=some (nW (n-1)):=by
    refine(p_ (x:=nW n) (y:=.int 1) (i:=n) (j:=1) rfl rfl).trans ?_;have:((n:Int)-1)=((n-1:Nat):Int):=by omega
    rw[this];rfl
   have md:∀p:Nat,bW (.int ((p:Int)+1)) (nW wd)=some (.int (((p:Int)+1) % (wd:Int))):=fun p=>oH (i:=(p:Int)+1) (j:=wd) rfl rfl (by omega);have nz:(List.range (n-wd)).length<=sizeLine:=by rw[length_range];omega
   have nz2:(List.range (n-1)).length<=sizeLine:=by rw[length_range];omega
   have r1:n-wd<=1000:=by omega
   have r2:n-1<=1000:=by omega
   refine gZ ?_;refine aZ (rA (zs:=List.range (n-wd)) (en:=nW) (g:=fun p=>pW (p,p+wd)) (iP (by trivial) r1).is nz (fun p hp=>?_)) ?_
   ·have e:pW (p,p+wd)=.tup [nW p,.int ((p:Int)+wd)]:=by simp[pW,nW]
    rw[e];trivial
   refine aS ?_;have O1:=(Own.start ce).alloc (C.lst ((List.range (n-wd)).map fun p=>pW (p,p+wd)));generalize ce.length=k3 at O1 ⊢;generalize hc1:ce++[C.lst ((List.range (n-wd)).map fun p=>pW (p,p+wd))]=c1 at O1 ⊢;have g3:=fU O1.g0
   let t:Nat->Bool:=fun p=>decide ((0:Int)<((p:Int)+1) % (wd:Int))
   refine gZ ?_;refine aZ (w:=wL ((List.range (n-1)).filter t)) (ce':=c1) (rn (zs:=List.range (n-1)) (en:=nW) (t:=t) (iP (by trivial) r2).is nz2 (fun p hp=>?_)) ?_
   ·have:=md p;trivial
   refine aS ?_;have hl1:((List.range (n-1)).filter t).length<=36:=by have:=length_filter_le t (List.range (n-1));rw[length_range] at this;omega
   refine gI ?_;refine bL (jf (ws:=[nW n,.lst (((List.range (n-wd)).map fun p=>pW (p,p+wd))++((List.range (n-1)).filter t).map fun p=>pW (p,p+1))]) (c1:=c1) (aI (by trivial) (aI (la (by trivial) (nS (zs:=(List.range (n-1)).filter t) (en:=nW) (g:=fun p=>pW (p,p+1)) (nY (by trivial) (.fr _)) (by omega) (fun p hp=>?_)) g3 rfl ?_) aK)) z2) ?_
   ·have e:pW (p,p+1)=.tup [nW p,.int ((p:Int)+1)]:=by simp[pW,nW]
    rw[e];trivial
   ·rw[length_map,length_map,length_range];omega
   ·refine⟨_,_,rfl,n,((List.range (n-wd)).map fun p=>(p,p+wd))++(((List.range (n-1)).filter t).map fun p=>(p,p+1)),_,O1,?_,n0,n36,?_⟩
    ·have e:((List.range (n-wd)).map fun p=>pW (p,p+wd))++(((List.range (n-1)).filter t).map fun p=>pW (p,p+1))=(((List.range (n-wd)).map fun p=>(p,p+wd))++(((List.range (n-1)).filter t).map fun p=>(p,p+1))).map pW:=by rw[map_append,map_map,map_map];rfl
     rw[e];simp only[eZ,gq,tw,tP,map_some]
    ·constructor
     ·rw[nodup_append];refine⟨bX nodup_range (fun x y h=>by simpa using congrArg Prod.fst h),bX (List.Pairwise.filter _ nodup_range) (fun x y h=>by simpa using congrArg Prod.fst h),?_⟩;intro a ha c hc e;subst e;obtain⟨x,hx,e⟩:=mem_map.mp ha;obtain⟨y,hy,rfl⟩:=mem_map.mp hc;have hy':=of_decide_eq_true (mem_filter.mp hy).2;injection e with e1 e2;subst e1;have:wd=1:=by omega
      subst this;omega
     ·intro p hp;rcases mem_append.mp hp with hp|hp
      ·obtain⟨x,hx,rfl⟩:=mem_map.mp hp;have hx:=mem_range.mp hx;exact⟨by show x<x+wd;omega,by show x+wd<n;omega⟩
      ·obtain⟨x,hx,rfl⟩:=mem_map.mp hp;have hx:=mem_range.mp (mem_filter.mp hx).1;exact⟨by show x<x+1;omega,by show x+1<n;omega⟩
  have dv:mz (.int a2) (.int 4)=some (.int (a2 / 4)):=xC (i:=a2) (j:=4) rfl rfl (by omega);refine bO (p:=decide (a2 / 4 % 9=0)) (ce':=ce) (by trivial) (fun _=>?_) (fun _=>?_)
  ·obtain⟨wd,hwd⟩:∃wd:Nat,3+a0 % 4=wd:=⟨(3+a0 % 4).toNat,by omega⟩
   have f2:cI (.int 3) (.int (a0 % 4))=some (nW wd):=by rw[kA rfl rfl,hwd];rfl
   have f3:fG (.int 6) (nW wd)=some (nW (wd*6)):=by show fG (.int 6) (.int wd)=some (.int ((wd*6:Nat):Int));rw[oq (.inl (by omega))];congr 2;omega
   refine gZ ?_;refine aZ (w:=nW wd) (ce':=ce) (by trivial) ?_;refine aS ?_;refine aZ (w:=nW (wd*6)) (ce':=ce) (by trivial) ?_;refine aS ?_;exact last wd 6 _ (by omega) (by omega) rfl (by omega) _
  ·refine cH ?_;obtain⟨hg,hhg⟩:∃hg:Nat,1+a2 % 4=hg:=⟨(1+a2 % 4).toNat,by omega⟩
   have en:wd0*hg=n0:=by rw[hhg,<- natCast_mul] at hn0;exact Int.ofNat.inj hn0
   have:n0<=36:=by rw[<- en];exact le_trans (mul_le_mul (by omega:wd0<=4) (by omega:hg<=4)) (by omega)
   exact last wd0 hg _ (by omega) (by omega) en this _
 ·-- a row,a ring,drawn lines
  refine cH ?_;have q':=of_decide_eq_false q;obtain⟨way,hway⟩:∃way:Nat,a1 % 4=way:=⟨(a1 % 4).toNat,by omega⟩
  have hway4:way<4:=by omega
  have m0:bW (.int a1) (.int 4)=some (nW way):=by rw[oH (i:=a1) (j:=4) rfl rfl (by omega),hway];rfl
  obtain⟨md,hmd,hmd1,hmd2⟩:∃md:Nat,aC ce (.lst [.int 0,.int 7,.int 9,.int 5]) (nW way)=some (nW md)/\0<md/\md<=9:=by
   have:way=1\/way=2\/way=3:=by omega
   rcases this with rfl|rfl|rfl
   ·exact⟨7,rfl,by omega,by omega⟩
   ·exact⟨9,rfl,by omega,by omega⟩
   ·exact⟨5,rfl,by omega,by omega⟩
  obtain⟨r,hr,er⟩:=tH a0 (n:=md) hmd1;have m1:bW (.int a0) (nW md)=some (nW r):=pQ hmd1 er;obtain⟨n,hn⟩:∃n:Nat,1+r=n:=⟨_,rfl⟩
  have f1:cI (.int 1) (nW r)=some (nW n):=by
   refine(kA (x:=.int 1) (y:=nW r) (i:=1) (j:=r) rfl rfl).trans ?_;have:(1:Int)+(r:Int)=((n:Nat):Int):=by omega
   rw[this];rfl
  have n9:0<n/\n<=9:=by omega
  refine aZ (w:=nW n) (ce':=ce) (fZ (by trivial) (fZ (by trivial) (bN (x:=.lst [.int 0,.int 7,.int 9,.int 5]) (y:=nW way) (gu (ws:=[.int 0,.int 7,.int 9,.int 5]) (by trivial) z4) (by trivial) hmd) m1) f1) ?_;refine aS ?_;have sb1:gU (nW n) (.int 1)=some (nW (n-1)):=by
   refine(p_ (x:=nW n) (y:=.int 1) (i:=n) (j:=1) rfl rfl).trans ?_;have:((n:Int)-1)=((n-1:Nat):Int):=by omega
   rw[this];rfl
  have nz2:(List.range (n-1)).length<=sizeLine:=by rw[length_range];omega
  have r2:n-1<=1000:=by omega
  refine aZ (rA (zs:=List.range (n-1)) (en:=nW) (g:=fun p=>pW (p,p+1)) (iP (by trivial) r2).is nz2 (fun p hp=>?_)) ?_
  ·have e:pW (p,p+1)=.tup [nW p,.int ((p:Int)+1)]:=by simp[pW,nW]
   rw[e];trivial
  refine aS ?_;have el:(List.range (n-1)).map (fun p=>pW (p,p+1))=((List.range (n-1)).map fun p=>(p,p+1)).map pW:=by rw[map_map];rfl
  rw[el];have L0:LsOk n ((List.range (n-1)).map fun p=>(p,p+1)):=⟨bX nodup_range (fun x y h=>by simpa using congrArg Prod.fst h),fun p hp=>by
   obtain⟨x,hx,rfl⟩:=mem_map.mp hp;have hx:=mem_range.mp hx;exact⟨by show x<x+1;omega,by show x+1<n;omega⟩⟩
  have ll0:((List.range (n-1)).map fun p=>(p,p+1)).length<=36:=by rw[length_map,length_range];omega
  have hno:2<n->(0,n-1)∉(List.range (n-1)).map fun p=>(p,p+1):=fun h2 hm=>by
   obtain⟨x,_,e⟩:=mem_map.mp hm;injection e with e1 e2;omega
  generalize (List.range (n-1)).map (fun p=>(p,p+1))=ls0 at L0 ll0 hno ⊢;have O1:=(Own.start ce).alloc (C.lst (ls0.map pW));generalize hk3:ce.length=k3 at O1 ⊢;generalize ce++[C.lst (ls0.map pW)]=c1 at O1 ⊢;have fin:∀(ls:List (Nat×Nat)) (c:Ce) (l:List (Nat×C)) (k:Nat) (x5 x6 x7:Option W),LsOk n ls->Own ce c ((k,C.lst (ls.map pW))::l)->Run (aW (eK (ag (aa 2) (ag (aa 3) ai)))) [some (sW xs),none,some (nW n),some (.cel k),none,x5,x6,x7] c
    (Rt fun v ce'=>∃w c',nP ce ce' v=some (.ok w c')/\∃many ls l,Own ce c' l/\eZ k3 c' 6 w=some (.tup [nW many,.lst (ls.map pW)])/\0<many/\many<=36/\LsOk many ls):=by
   intro ls c l k x5 x6 x7 L O;refine bL (jf (ws:=[nW n,.cel k]) (c1:=c) (by trivial) z2) ?_;refine⟨_,_,rfl,n,ls,_,O,?_,n9.1,by omega,L⟩;have hk:¬k<k3:=by have:=O.ge _ mem_cons_self;rw[<- hk3];omega
   have g:=O.g0;simp only[eZ,gq,tw,if_neg hk,g,tP,map_some]
  have i1c1:=i1 c1;have i2c1:=i2 c1;have m2:bW (.int a2) (.int 2)=some (.int (a2 % 2)):=oH (i:=a2) (j:=2) rfl rfl (by omega);have gt2:gw (nW n) (.int 2)=some (.bl (decide (2<(n:Int)))):=rX (i:=n) (j:=2) rfl rfl;have hm3:(ls0.map pW).length<sizeLine:=by rw[length_map];omega
  have way1:ft (nW way) (.int 1)=some (.bl (decide ((way:Int)=1))):=oI (i:=way) (j:=1) rfl rfl;have wgt:∀c:Ce,dB (aH gw (aH bW (aD aC (aa 0) (dC (.int 1))) (dC (.int 4))) (dC (.int 1))) [some (sW xs),none,some (nW n),some (.cel k3),none,none,none,none] c=some (.ok (decide (1<(way:Int))) c):=fun c=>by
   have i1':=i1 c;have w2:gw (nW way) (.int 1)=some (.bl (decide (1<(way:Int)))):=rX (i:=way) (j:=1) rfl rfl;trivial
  refine bO (p:=decide ((way:Int)=1)&&(decide (2<(n:Int))&&decide (a2 % 2=0))) (ce':=c1) (by trivial) (fun q2=>?_) (fun q2=>?_)
  ·simp only[and_eq_true,decide_eq_true_eq] at q2;have hn2:2<n:=by omega
   refine iU (w:=.non) (ce':=c1.set k3 (C.lst (ls0.map pW++[pW (0,n-1)]))) (gD (ws:=[pW (0,n-1)]) (by trivial) (fU O1.g0) (aI (jf (ws:=[.int 0,nW (n-1)]) (by trivial) z2) aK) (by rw[pE (k_ O1.g0) hm3])) ?_;have O2:=O1.set0 (C.lst (ls0.map pW++[pW (0,n-1)]));have e2:ls0.map pW++[pW (0,n-1)]=(ls0++[(0,n-1)]).map pW:=by simp
   rw[e2] at O2 ⊢;generalize c1.set k3 (C.lst ((ls0++[(0,n-1)]).map pW))=c2 at O2 ⊢;refine bO (p:=decide (1<(way:Int))) (ce':=c2) (wgt c2) (fun q3=>absurd (of_decide_eq_true q3) (by omega)) (fun _=>?_);refine cH ?_;refine fin _ c2 _ k3 _ _ _ ⟨?_,fun p hp=>?_⟩ O2
   ·rw[nodup_append];exact⟨L0.nd,by simp,fun a ha b hb=>by rw[mem_singleton] at hb;subst hb;intro e;subst e;exact hno hn2 ha⟩
   ·rcases mem_append.mp hp with hp|hp
    ·exact L0.lt p hp
    ·rw[mem_singleton] at hp;subst hp;exact⟨by show 0<n-1;omega,by show n-1<n;omega⟩
  ·refine cH ?_;refine bO (p:=decide (1<(way:Int))) (ce':=c1) (wgt c1) (fun q3=>?_) (fun _=>?_)
   ·obtain⟨nn,hnn⟩:∃nn:Nat,n*n=nn:=⟨_,rfl⟩
    have nn81:nn<=81:=by rw[<- hnn];exact mul_le_mul n9.2 n9.2
    have fm:fG (nW n) (nW n)=some (nW nn):=by show fG (.int n) (.int n)=some (.int (nn:Int));rw[oq (.inl (by omega)),<- hnn,natCast_mul]
    obtain⟨ys,e5,hyl,hy⟩:=uh (ce:=c1) fu a2 (m:=nn) (by omega);refine gZ ?_;refine aZ (w:=sW ys) (ce':=c1) (cQ (ws:=[.int a2,nW nn]) (by trivial) rfl e5) ?_;refine aS ?_;refine gZ ?_;refine aZ (gY aK (zero_le _)) ?_;refine aS ?_;have O2:=(O1.alloc (C.lst [])).perm (.swap _ _ _) |>.drop;have O2:=O1.drop.alloc (C.lst []);generalize c1.length=k4 at O2 ⊢;generalize c1++[C.lst []]=c2 at O2 ⊢;have n1000:n<=1000:=by omega
    refine iI (zs:=List.range n) (en:=nW) (iP (by trivial) n1000)
     (fun d sl c=>∃ls x6 x7,sl=[some (sW xs),none,some (nW n),some (.cel k4),none,some (sW ys),x6,x7]/\Own ce c [(k4,C.lst (ls.map pW))]/\ls.Nodup/\ls.length<=40*d.length/\∀p∈ls,p.1<p.2/\p.2<d.length)
     ⟨[],_,_,rfl,O2,by simp,by simp,by simp⟩ ?_ ?_
    ·rintro d p r' sl c e hp ⟨ls,x6,x7,rfl,O,nd,hl,lt⟩;have hp':p<n:=mem_range.mp hp;have hd:=sN e;have hdl:d.length=p:=by rw[hd,length_range]
     have p1000:p<=1000:=by omega
     unfold As;refine lV (zs:=List.range p) (en:=nW) (iP (by trivial) p1000)
      (fun d' sl c=>∃ls x7,sl=[some (sW xs),none,some (nW n),some (.cel k4),none,some (sW ys),some (nW p),x7]/\Own ce c [(k4,C.lst (ls.map pW))]/\ls.Nodup/\ls.length<=40*p+d'.length/\∀q∈ls,q.1<q.2/\(q.2<p\/(q.2=p/\q.1<d'.length)))
      ⟨ls,x7,rfl,O,nd,by simpa[hdl] using hl,fun q hq=>⟨(lt q hq).1,.inl (by have:=(lt q hq).2;omega)⟩⟩ ?_ ?_
     ·rintro d' q r'' sl c e' hq ⟨ls,x7,rfl,O,nd,hl,lt⟩;have hq':q<p:=mem_range.mp hq;have hd':=sN e';have hdl':d'.length=q:=by rw[hd',length_range]
      have g5:=O.g0;have hm:(ls.map pW).length<sizeLine:=by rw[length_map];omega
      obtain⟨ix,hix⟩:∃ix:Nat,p*n+q=ix:=⟨_,rfl⟩
      have hixl:ix<ys.length:=by rw[hyl,<- hnn,<- hix];have:(p+1)*n<=n*n:=mul_le_mul_right n hp';rw[add_mul] at this;omega
      have fm2:fG (nW p) (nW n)=some (nW (p*n)):=by show fG (.int p) (.int n)=some (.int ((p*n:Nat):Int));rw[oq (.inl (by omega)),natCast_mul]
      have fa:cI (nW (p*n)) (nW q)=some (nW ix):=by
       refine(kA (x:=nW (p*n)) (y:=nW q) (i:=((p*n:Nat):Int)) (j:=q) rfl rfl).trans ?_;have:((p*n:Nat):Int)+(q:Int)=((ix:Nat):Int):=by omega
       rw[this];rfl
      have iy:aC c (sW ys) (nW ix)=some (.int (ys.getD ix 0)):=iz hixl c (i:=(ix:Int)) rfl;have i1':=i1 c;unfold Au;refine aS ?_;have lw:ml (.int (ys.getD ix 0 % 5)) (nW way)=some (.bl (decide (ys.getD ix 0 % 5<(way:Int)))):=rY (i:=ys.getD ix 0 % 5) (j:=way) rfl rfl;have m5:bW (.int (ys.getD ix 0)) (.int 5)=some (.int (ys.getD ix 0 % 5)):=oH (i:=ys.getD ix 0) (j:=5) rfl rfl (by omega);refine fy (p:=decide (ys.getD ix 0 % 5<(way:Int))) (ce':=c) (by trivial) (fun _=>?_) (fun _=>?_)
      ·refine kx (w:=.non) (ce':=c.set k4 (C.lst (ls.map pW++[pW (q,p)]))) (gD (ws:=[pW (q,p)]) (by trivial) (fU O.g0) (aI (jf (ws:=[nW q,nW p]) (by trivial) z2) aK) (by rw[pE (k_ O.g0) hm])) ?_;refine⟨ls++[(q,p)],_,rfl,?_,?_,?_,fun x hx=>?_⟩
       ·rw[map_append];exact O.set0 _
       ·rw[nodup_append];refine⟨nd,by simp,fun a ha b hb=>?_⟩;rw[mem_singleton] at hb;subst hb;intro e;subst e;have:=(lt _ ha).2;simp only at this;omega
       ·simp only[length_append,length_cons,length_nil];omega
       ·rcases mem_append.mp hx with hx|hx
        ·refine⟨(lt x hx).1,?_⟩;rcases(lt x hx).2 with h|h
         ·exact .inl h
         ·exact .inr ⟨h.1,by rw[length_append,length_cons,length_nil];omega⟩
        ·rw[mem_singleton] at hx;subst hx;exact⟨hq',.inr ⟨rfl,by show q<_;rw[length_append,length_cons,length_nil];omega⟩⟩
      ·refine hJ ?_;refine⟨ls,_,rfl,O,nd,by simp only[length_append,length_cons,length_nil];omega,fun x hx=>⟨(lt x hx).1,?_⟩⟩;rcases(lt x hx).2 with h|h
       ·exact .inl h
       ·exact .inr ⟨h.1,by rw[length_append,length_cons,length_nil];omega⟩
     ·rintro sl c ⟨ls,x7,rfl,O,nd,hl,lt⟩;rw[length_range] at hl;refine⟨ls,_,_,rfl,O,nd,by simp only[length_append,length_cons,length_nil];omega,fun x hx=>⟨(lt x hx).1,?_⟩⟩;simp only[length_append,length_cons,length_nil];rcases(lt x hx).2 with h|h
      ·omega
      ·omega
    ·rintro sl c ⟨ls,x6,x7,rfl,O,nd,hl,lt⟩;exact fin ls c [] k4 _ _ _ ⟨nd,fun p hp=>by have:=lt p hp;rw[length_range] at this;exact this⟩ O
   ·refine cH ?_;exact fin ls0 c1 [] k3 _ _ _ L0 O1
section
variable {mk:W} {s:Nat}
def Mk(b:List (List Nat))(mk:W)(vl:Nat->Int):Prop:=∀(ce:Ce) (x y:Nat),x<b.length->y<b.length->∃wx wy,aC ce mk (nW x)=some wx/\aC ce mk (nW y)=some wy/\bD false ce wx wy=some (.bl (decide (vl x=vl y)))
theorem vq{is:List Int}(h:is.length=b.length):Mk b (wS is) (fun x=>is.getD x 0):=fun ce x y hx hy=>⟨_,_,iT (by omega),iT (by omega),o_⟩
theorem Ab(fu:Nat)(hfu:200<=fu)(hm:Mk b mk vl)(hb:Bd b)(h36:b.length<=36)(hs:s<b.length) :
  d_da fu [wB b,mk,nW s] ce=some (.ok (.cel ce.length) (ce++[.lst ((aL b vl s).map nW)])):=by
 have hz:=fI;unfold d_da;refine dm [some (wB b),some mk,some (nW s),none,none,none,none] rfl ?_;trivial;have O0:=((Own.start ce).alloc (C.dct (kvs [s]))).alloc (C.lst ([s].map nW));refine(?_:Run _ _ ((ce++[C.dct (kvs [s])])++[C.lst ([s].map nW)]) _);generalize h4:(ce++[C.dct (kvs [s])]).length=k4 at O0;have h4':∀x:Key×W,(ce++[C.dct [x]]).length=k4:=fun x=>by rw[<- h4];simp
 rw[h4'];generalize h3:ce.length=k3 at O0 ⊢;generalize (ce++[C.dct (kvs [s])])++[C.lst ([s].map nW)]=c0 at O0 ⊢;refine zo (σ:=List Nat×List Nat) (fun st sl c=>∃x5 x6,sl=[some (wB b),some mk,some (nW s),some (.cel k3),some (.cel k4),x5,x6]/\Own ce c [(k4,C.lst (st.2.map nW)),(k3,C.dct (kvs st.1))]/\st.1.Nodup/\s∈st.1/\(∀x∈st.1,x<b.length)/\(∀x∈st.2,x∈st.1)/\st.2.length<=st.1.length/\(∀x∈st.1,Reach b (cK vl s) s x)/\∀x∈st.1,x∉st.2->∀y∈b.getD x [],cK vl s y->y∈st.1)
  (fun st=>st.2.length+2*(36-st.1.length)) ([s],[s]) ⟨_,_,rfl,O0,by simp,by simp,by simpa using hs,by simp,by simp,by simpa using Reach.refl,by simp⟩ (by show [s].length+2*(36-[s].length)<fu;simp;omega) ?_
 rintro⟨F,Wt⟩ sl c ⟨x5,x6,rfl,O,nd,hsF,lt,sub,hW,re,cl⟩;have g4:=O.g0;have g3:=O.g1;dsimp only at g4 g3 O nd hsF lt sub hW re cl;have hF36:F.length<=36:=le_trans (eS nd lt) h36;refine⟨!(Wt.map nW).isEmpty,by trivial,fun q=>?_,fun q=>?_⟩
 ·rcases eq_nil_or_concat Wt with rfl|⟨W0,p,hWt⟩
  ·simp at q
  ·rw[concat_eq_append] at hWt;subst hWt;have hpF:p∈F:=sub p (by simp);have hp:=lt p hpF;have pp:=pX (ys:=W0.map nW) (y:=nW p) g4 (by simp);have O1:=O.set0 (C.lst (W0.map nW));generalize c.set k4 (C.lst (W0.map nW))=c1 at O1 pp;unfold Ah;trivial;refine lV (zs:=b.getD p []) (en:=nW) (mO (by trivial)) (fun d sl c=>∃new x6,sl=[some (wB b),some mk,some (nW s),some (.cel k3),some (.cel k4),some (nW p),x6]/\Own ce c [(k4,C.lst ((W0++new).map nW)),(k3,C.dct (kvs (F++new)))]/\(F++new).Nodup/\(∀x∈new,x∈b.getD p []/\cK vl s x)/\∀x∈d,cK vl s x->x∈F++new)
    ⟨[],x6,rfl,by simpa using O1,by simpa using nd,by simp,by simp⟩ ?_ ?_
   ·rintro d y r sl c e hy ⟨new,x6,rfl,O,nd2,hnew,hd⟩;have g4:=O.g0;have g3:=O.g1;have gd:=lH g3;have hy':=hb.get hy;obtain⟨wx,wy,i1,i2,q1⟩:=hm c y s hy' hs;have lt2:∀x∈F++new,x<b.length:=fun x hx=>by
     rcases mem_append.mp hx with hx|hx
     ·exact lt x hx
     ·exact hb.get (hnew x hx).1
    have hl2:=eS nd2 lt2;have hk:(kvs (F++new)).length<sizeLine:=by rw[lh];omega
    have hw:((W0++new).map nW).length<sizeLine:=by rw[length_map,length_append];rw[length_append] at hl2;simp only[length_append,length_cons,length_nil] at hW;omega
    unfold Ai;refine fy (p:=!decide (y∈F++new)&&decide (vl y=vl s)) (ce':=c) (by trivial) (fun q=>?_) (fun q=>?_)
    ·simp only[and_eq_true,not_eq_true',decide_eq_false_iff_not,decide_eq_true_eq] at q;have O2:=O.set1 (C.dct (ib (kvs (F++new)) (.inl (y:Int)) (.bl true)));rw[sV _ _ q.1] at O2;have g4:=O2.g0;have e1:C.dct (kvs (F++new++[y]))=C.dct (ib (kvs (F++new)) (.inl (y:Int)) (.bl true)):=by rw[sV _ _ q.1]
     rw[e1] at g4;trivial;refine⟨new++[y],_,rfl,?_,?_,fun x hx=>?_,fun x hx o=>?_⟩
     ·have e2:(W0++(new++[y])).map nW=(W0++new).map nW++[nW y]:=by simp
      rw[<- e1,e2,<- append_assoc];exact O2.set0 _
     ·rw[<- append_assoc,nodup_append];exact⟨nd2,by simp,fun a ha c hc=>by rw[mem_singleton] at hc;subst hc;intro e;subst e;exact q.1 ha⟩
     ·rcases mem_append.mp hx with hx|hx
      ·exact hnew x hx
      ·rw[mem_singleton] at hx;subst hx;exact⟨hy,q.2⟩
     ·rw[<- append_assoc];rcases mem_append.mp hx with hx|hx
      ·exact mem_append_left _ (hd x hx o)
      ·rw[mem_singleton] at hx;subst hx;simp
    ·trivial;refine⟨new,_,rfl,O,nd2,hnew,fun x hx o=>?_⟩;rcases mem_append.mp hx with hx|hx
     ·exact hd x hx o
     ·rw[mem_singleton] at hx;subst hx;have o':vl x=vl s:=o;simp only[o',decide_true,Bool.and_true,not_eq_false',decide_eq_true_eq] at q;exact q
   ·rintro sl c ⟨new,x6,rfl,O,nd2,hnew,hd⟩;have lt2:∀x∈F++new,x<b.length:=fun x hx=>by
     rcases mem_append.mp hx with hx|hx
     ·exact lt x hx
     ·exact hb.get (hnew x hx).1
    have hl2:=eS nd2 lt2;simp only[length_append] at hl2;simp only[length_append,length_cons,length_nil] at hW;refine⟨(F++new,W0++new),?_,_,_,rfl,O,nd2,mem_append_left _ hsF,lt2,fun x hx=>?_,?_,fun x hx=>?_,fun x hx hn y hy o=>?_⟩
    ·show(W0++new).length+2*(36-(F++new).length)<(W0++[p]).length+2*(36-F.length);simp only[length_append,length_cons,length_nil];omega
    ·rcases mem_append.mp hx with hx|hx
     ·exact mem_append_left _ (sub x (by simp[hx]))
     ·exact mem_append_right _ hx
    ·show(W0++new).length<=(F++new).length;simp only[length_append];omega
    ·rcases mem_append.mp hx with hx|hx
     ·exact re x hx
     ·exact(re p hpF).step (hnew x hx).1 (hnew x hx).2
    ·rcases mem_append.mp hx with hx|hx
     ·by_cases hxp:x=p
      ·subst hxp;exact hd y hy o
      ·exact mem_append_left _ (cl x hx (fun q=>by rcases mem_append.mp q with q|q;exact hn (mem_append_left _ q);exact hxp (by simpa using q)) y hy o)
     ·exact absurd (mem_append_right _ hx) hn
 ·have hW0:Wt=[]:=by simpa using q
  subst hW0;have comp:Comp b (cK vl s) s F:=⟨nd,hsF,lt,fun x hx y hy o=>cl x hx (by simp) y hy o,re⟩
  trivial
  ·rw[yN g3 (by omega),lQ (by rw[length_map,nA];omega)]
  ·rw[EY comp];subst h3;exact(O.alloc _).finO (by simp only[eR];exact aG _ _)
theorem Ca(fu:Nat)(hfu:200<=fu)(hm:Mk b mk vl)(hb:Bd b)(h36:b.length<=36)(hs:s<b.length):cX (d_da fu) [wB b,mk,nW s] ce=some (.ok (wL (aL b vl s)) ce) :=
 jU (Ab fu hfu hm hb h36 hs) (aG _ _)
end
section
variable {mk:W} {s:Nat}
theorem IP(fu:Nat)(hfu:200<=fu)(hm:Mk b mk vl)(hb:Bd b)(sym:Sym b)(h36:b.length<=36) :
  d_ga fu [wB b,mk] ce=some (.ok (.cel ce.length) (ce++[.lst ((iZ b vl).map wL)])):=by
 have hz:=fI;unfold d_ga;refine dm [some (wB b),some mk,none,none,none,none,none] rfl ?_;trivial;have O0:=((Own.start ce).alloc (C.dct (kvs []))).alloc (C.lst []);refine(?_:Run _ _ ((ce++[C.dct (kvs [])])++[C.lst []]) _);generalize h3:(ce++[C.dct []]).length=k3;have h3':(ce++[C.dct (kvs [])]).length=k3:=h3;rw[h3'] at O0;generalize h2:ce.length=k2 at O0 ⊢;generalize (ce++[C.dct (kvs [])])++[C.lst []]=c0 at O0 ⊢;have hl':b.length<=1000:=by omega
 refine iI (zs:=List.range b.length) (en:=nW) (iP (by trivial) hl')
  (fun d sl c=>∃S x4 x5 x6,sl=[some (wB b),some mk,some (.cel k2),some (.cel k3),x4,x5,x6]/\Own ce c [(k3,C.lst (((d.filter (eE b vl)).map (aL b vl)).map wL)),(k2,C.dct (kvs S))]/\S.Nodup/\(∀x∈S,x<b.length)/\∀x,x∈S↔∃y∈d,x∈aL b vl y)
  ⟨[],_,_,_,rfl,O0,by simp,by simp,by simp⟩ ?_ ?_
 ·rintro d p r sl c e hp ⟨S,x4,x5,x6,rfl,O,nd,lt,mem⟩;have hp':p<b.length:=mem_range.mp hp;have hd:=sN e;have g3:=O.g0;have g2:=O.g1;have key:p∈S↔¬eE b vl p=true:=by
   rw[mem];constructor
   ·rintro⟨y,hy,hpy⟩ hl;rw[hd] at hy;have hy':=mem_range.mp hy;unfold eE at hl;rw[all_eq_true] at hl;have:=of_decide_eq_true (hl y (zd hb sym (by omega) hpy));omega
   ·intro hl;unfold eE at hl;rw[all_eq_true] at hl;obtain⟨y,hy⟩:=Classical.not_forall.mp hl;obtain⟨hy,hn⟩:=Classical.not_imp.mp hy;have hn':¬p<=y:=fun q=>hn (decide_eq_true q);exact⟨y,by rw[hd];exact mem_range.mpr (by omega),zd hb sym hp' hy⟩
  unfold zZ;have hdl:d.length<b.length:=by have:=congrArg List.length e;simp at this;omega
  have hm3:(((d.filter (eE b vl)).map (aL b vl)).map wL).length<sizeLine:=by simp only[length_map];have:=length_filter_le (eE b vl) d;omega
  have e1:=fun c=>Ca (ce:=c) fu hfu hm hb h36 hp';have e1c:=e1 c;trivial
  ·rename_i q;have q':p∉S:=by simpa using q
   have hl:eE b vl p=true:=Classical.byContradiction fun h=>q' (key.mpr h);have O1:=O.set0 (C.lst (((d.filter (eE b vl)).map (aL b vl)).map wL++[wL (aL b vl p)]));generalize c.set k3 (C.lst (((d.filter (eE b vl)).map (aL b vl)).map wL++[wL (aL b vl p)]))=c1 at O1 ⊢;have ef:((d++[p]).filter (eE b vl)).map (aL b vl)=(d.filter (eE b vl)).map (aL b vl)++[aL b vl p]:=by rw[filter_append,filter_cons_of_pos hl];simp
   refine lV (zs:=aL b vl p) (en:=nW) (jc (by trivial)) (fun d' sl c=>∃S' x6,sl=[some (wB b),some mk,some (.cel k2),some (.cel k3),some (nW p),some (wL (aL b vl p)),x6]/\Own ce c [(k3,C.lst ((((d++[p]).filter (eE b vl)).map (aL b vl)).map wL)),(k2,C.dct (kvs S'))]/\S'.Nodup/\(∀x∈S',x<b.length)/\∀x,x∈S'↔x∈S\/x∈d')
    ⟨S,x6,rfl,by rw[ef,map_append];exact O1,nd,lt,by simp⟩ ?_ ?_
   ·rintro d' y r' sl c e' hy ⟨S',x6,rfl,O,nd',lt',mem'⟩;have gd:=lH O.g1;have hS:=eS nd' lt';have hk:(kvs S').length<sizeLine:=by rw[lh];omega
    unfold z6;trivial;refine⟨ins S' y,_,rfl,by rw[m_];exact O.set1 _,mP nd',fun x hx=>?_,fun x=>?_⟩
    ·rcases bG.mp hx with hx|rfl
     ·exact lt' x hx
     ·exact cA hy
    ·rw[bG,mem',mem_append,mem_singleton,or_assoc]
   ·rintro sl c ⟨S',x6,rfl,O,nd',lt',mem'⟩;refine⟨S',_,_,_,rfl,O,nd',lt',fun x=>?_⟩;rw[mem',mem];constructor
    ·rintro(⟨y,hy,h⟩|h)
     ·exact⟨y,mem_append_left _ hy,h⟩
     ·exact⟨p,by simp,h⟩
    ·rintro⟨y,hy,h⟩;rcases mem_append.mp hy with hy|hy
     ·exact .inl ⟨y,hy,h⟩
     ·rw[mem_singleton] at hy;subst hy;exact .inr h
  ·rename_i q;have q':p∈S:=by simpa using q
   have hl:¬eE b vl p=true:=key.mp q';refine⟨S,_,_,_,rfl,?_,nd,lt,fun x=>?_⟩
   ·rw[filter_append,filter_cons_of_neg hl,filter_nil,append_nil];exact O
   ·rw[mem];constructor
    ·rintro⟨y,hy,h⟩;exact⟨y,mem_append_left _ hy,h⟩
    ·rintro⟨y,hy,h⟩;rcases mem_append.mp hy with hy|hy
     ·exact⟨y,hy,h⟩
     ·rw[mem_singleton] at hy;subst hy;obtain⟨z,hz,hyz⟩:=(mem y).mp q';have hz':z<b.length:=by rw[hd] at hz;have:=mem_range.mp hz;omega
      exact⟨z,hz,by rw[<- ku hb sym hz' hyz];exact h⟩
 ·rintro sl c ⟨S,x4,x5,x6,rfl,O,nd,lt,mem⟩;trivial;subst h2;exact O.finO (by simp only[eR];exact p9 _ _)
theorem B_(fu:Nat)(hfu:200<=fu)(hm:Mk b mk vl)(hb:Bd b)(sym:Sym b)(h36:b.length<=36):cX (d_ga fu) [wB b,mk] ce=some (.ok (.lst ((iZ b vl).map wL)) ce) :=
 jU (IP fu hfu hm hb sym h36) (p9 _ _)
end
def iH(b:List (List Nat))(row:List Nat):List Nat:=(List.range b.length).filter fun y=>row.any fun p=>decide (y∈b.getD p [])
section
variable {b0:Ce}
theorem JV(fu:Nat)(hb:Bd b)(h36:b.length<=36)(hw:bo ce w1 (row.map nW))(hr:∀p∈row,p<b.length) :
  d_e fu [wB b,w1] ce=some (.ok (.cel ce.length) (ce++[.lst ((iH b row).map nW)])):=by
 unfold d_e;have hz:=fI;refine mZ ?_;simp only[map_cons,map_nil,cons_append,nil_append,length_cons,length_nil,List.replicate,Nat.reduceAdd,Nat.reduceSub];trivial;have O0:=(Own.start ce).alloc (C.dct []);obtain⟨s,hs,hsi,_⟩:=hw.src;have hst:∀{c1:Ce} {l:List (Nat×C)},Own ce c1 l->s.Stays c1:=by
  intro c1 l h;obtain⟨t,rfl⟩:=h.cut;cases hw with
  | fr=>simp only[gA] at hs;cases hs;exact True.intro
  | cl g =>
   simp only[gA,g] at hs;cases hs;show(ce++t)[_]?=_;rw[getElem?_append_left (List.getElem?_eq_some_iff.mp g).1];exact g
 have hs':∀{c1:Ce} {l:List (Nat×C)},Own ce c1 l->gA c1 w1=some s:=by
  intro c1 l h;obtain⟨t,rfl⟩:=h.cut;cases hw with
  | fr=>exact hs
  | cl g =>
   simp only[gA,g] at hs ⊢;rw[getElem?_append_left (List.getElem?_eq_some_iff.mp g).1,g];exact hs
 refine tE (xs:=row) (en:=nW) (src:=s) (ce0:=ce++[C.dct []]) (by trivial;exact hs' O0) hsi
  (fun d sl c=>∃F x3 x4,sl=[some (wB b),some w1,some (.cel ce.length),x3,x4]/\Own ce c [(ce.length,C.dct (kvs F))]/\F.Nodup/\(∀x∈F,x<b.length)/\∀x,x∈F↔∃p∈d,x∈b.getD p [])
  ⟨[],none,none,rfl,O0,by simp,by simp,by simp⟩ ?_ (fun sl c h=>by obtain⟨_,_,_,_,O,_⟩:=h;exact hst O) ?_
 ·rintro d p r sl c e hp ⟨F,x3,x4,rfl,O,nd,lt,mem⟩;refine⟨hst O,?_⟩;have hp':=hr p hp;unfold AG;refine lV (zs:=b.getD p []) (en:=nW) (mO (by trivial))
   (fun d' sl c=>∃F x4,sl=[some (wB b),some w1,some (.cel ce.length),some (nW p),x4]/\Own ce c [(ce.length,C.dct (kvs F))]/\F.Nodup/\(∀x∈F,x<b.length)/\∀x,x∈F↔(∃p∈d,x∈b.getD p [])\/x∈d')
   ⟨F,x4,rfl,O,nd,lt,by simpa using mem⟩ ?_ ?_
  ·rintro d' y r' sl c e' hy ⟨F,x4,rfl,O,nd,lt,mem⟩;unfold AH;have g:=lH O.g0;have hl:(kvs F).length<sizeLine:=by rw[lh];have:=eS nd lt;omega
   trivial;refine⟨ins F y,some (nW y),rfl,?_,mP nd,fun x hx=>?_,fun x=>?_⟩
   ·rw[m_];exact O.set0 _
   ·rcases bG.mp hx with hx|rfl
    ·exact lt x hx
    ·exact hb.get hy
   ·rw[bG,mem,mem_append,mem_singleton,or_assoc]
  ·rintro sl c ⟨F,x4,rfl,O,nd,lt,mem⟩;refine⟨F,some (nW p),x4,rfl,O,nd,lt,fun x=>?_⟩;rw[mem];constructor
   ·rintro(⟨q,hq,h⟩|h)
    ·exact⟨q,mem_append_left _ hq,h⟩
    ·exact⟨p,by simp,h⟩
   ·rintro⟨q,hq,h⟩;rcases mem_append.mp hq with hq|hq
    ·exact .inl ⟨q,hq,h⟩
    ·rw[mem_singleton] at hq;subst hq;exact .inr h
 ·rintro sl c ⟨F,x3,x4,rfl,O,nd,lt,mem⟩;have hl:=eS nd lt;have es:cG F=iH b row:=by rw[oX nd lt];unfold iH;apply filter_congr;intro x _;rw[Bool.eq_iff_iff];simp[mem]
  trivial
  ·rw[yN O.g0 (by omega),lQ (by rw[es,length_map];unfold iH;have:=length_filter_le (fun y=>row.any fun p=>decide (y∈b.getD p [])) (List.range b.length);rw[length_range] at this;omega)]
  ·rw[es];exact((O.alloc _).finO (by simp only[eR];exact aG _ _))
end
def bx(b:List (List Nat))(is:List Int)(row:List Nat):List Nat:=(iH b row).filter fun p=>decide (is.getD p 0=0)
section
variable {is:List Int}
theorem IL(h:y∈iH b row):y<b.length:=mem_range.mp (mem_filter.mp h).1
theorem IY:(iH b row).length<=b.length:=by have:=length_filter_le (fun y=>row.any fun p=>decide (y∈b.getD p [])) (List.range b.length);rw[length_range] at this;exact this
theorem B9(fu:Nat)(hb:Bd b)(h36:b.length<=36)(hw:bo ce w1 (row.map nW))(hr:∀p∈row,p<b.length):cX (d_e fu) [wB b,w1] ce=some (.ok (wL (iH b row)) ce) :=
 jU (JV fu hb h36 hw hr) (aG _ _)
theorem zX(fu:Nat)(hb:Bd b)(h36:b.length<=36)(hl:is.length=b.length)(hw:bo ce w1 (row.map nW))(hr:∀p∈row,p<b.length) :
  d_fa fu [wB b,wS is,w1] ce=some (.ok (.cel ce.length) (ce++[.lst ((bx b is row).map nW)])):=by
 unfold d_fa;have hz:=fI;have e1:=B9 fu hb h36 hw hr;have h2:=IY (b:=b) (row:=row);refine dm [some (wB b),some (wS is),some w1] rfl ?_;refine bL (vD (zs:=iH b row) (en:=nW) (t:=fun p=>decide (is.getD p 0=0)) (by trivial) (by omega) (fun p hp=>?_)) ?_
 ·have:=IL hp;have hp':p<is.length:=by omega
  trivial
 ·exact(((Own.start ce).alloc _).finO (by simp only[eR];exact aG _ _))
end
open Classical in
def vT(T:List Nat):Nat->Int:=fun x=>if x∈T then 0 else 1
theorem vM{x:Nat}(h:x∈T):vT T x=0:=if_pos h
theorem oa{s:Nat}(hs:s∈T):cK (vT T) s y↔y∈T:=by
 unfold cK;rw[vM hs];constructor
 ·intro h
  by_cases hy:y∈T
  ·exact hy
  ·unfold vT at h;rw[if_neg hy] at h;omega
 ·exact vM
def fN(is H:List Int):List Nat:=(List.range is.length).filter fun p=>decide (is.getD p 0∈H)
def j6(b:List (List Nat))(T:List Nat):List (List Nat):=(T.filter (eE b (vT T))).map (aL b (vT T))
theorem lY(is:List Int)(p q:Nat)(v:Int):(is.set p v).getD q 0=if p=q/\p<is.length then v else is.getD q 0:=by
 simp only[getD_eq_getElem?_getD,getElem?_set]
 by_cases h:p=q
 ·subst h
  by_cases h2:p<is.length
  ·simp[h2]
  ·simp[h2]
 ·simp[h]
abbrev vS(is:List Int):Nat->Int:=fun x=>is.getD x 0
abbrev vH(is:List Int)(h:Int):Nat->Int:=fun x=>if is.getD x 0=h then 1 else 0
theorem lZ{ok ok':Nat->Prop}{s:Nat}(h:∀x y,Reach b ok s x->Reach b ok' s x->y∈b.getD x []->ok y->ok' y){x:Nat}(r:Reach b ok s x):Reach b ok' s x:=by
 induction r with
 | refl=>exact .refl
 | step r hy o ih=>exact ih.step hy (h _ _ r ih hy o)
open Classical in
theorem xT{vl':Nat->Int}{s:Nat}(e:∀y,Reach b (cK vl s) s y↔Reach b (cK vl' s) s y):aL b vl s=aL b vl' s:=by unfold aL;apply filter_congr;intro y _;rw[Bool.eq_iff_iff,decide_eq_true_eq,decide_eq_true_eq];exact e y
theorem Gw(hb:Bd b)(sym:Sym b){s t:Nat}(hs:s<b.length)(ht:t<b.length)(h1:q∈aL b vl s)(h2:q∈aL b vl t):aL b vl s=aL b vl t:=by rw[<- ku hb sym hs h1,<- ku hb sym ht h2]
def jK(b:List (List Nat))(is:List Int)(h:Int):Prop:=∀s,s<b.length->is.getD s 0=h->∃x y,Reach b (cK (vS is) s) s x/\y∈b.getD x []/\is.getD y 0=0
theorem gG{is:List Int}(hb:Bd b):y∈bx b is r↔(∃x∈r,y∈b.getD x [])/\is.getD y 0=0:=by
 unfold bx iH;rw[mem_filter,mem_filter,mem_range,any_eq_true,decide_eq_true_eq];constructor
 ·rintro⟨⟨_,x,hx,q⟩,h0⟩;exact⟨⟨x,hx,of_decide_eq_true q⟩,h0⟩
 ·rintro⟨⟨x,hx,q⟩,h0⟩;exact⟨⟨hb.get q,x,hx,decide_eq_true q⟩,h0⟩
theorem xS{is:List Int}(hb:Bd b):bx b is r=[]↔∀x∈r,∀y∈b.getD x [],is.getD y 0≠0:=by
 rw[eq_nil_iff_forall_not_mem];constructor
 ·intro h x hx y hy h0;exact h y ((gG hb).mpr ⟨⟨x,hx,hy⟩,h0⟩)
 ·intro h y hy;obtain⟨⟨x,hx,hy⟩,h0⟩:=(gG hb).mp hy;exact h x hx y hy h0
structure lr (b:List (List Nat)) (is:List Int) (h:Int) (d:List (List Nat)) (is':List Int) (D:List (List Nat)):Prop where
 len:is'.length=is.length
 sub:∀r∈D,r∈d
 zp:∀r∈D,∀q∈r,is'.getD q 0=0
 was:∀q,is'.getD q 0=is.getD q 0\/(is'.getD q 0=0/\∃r∈D,q∈r)
 fre:∀r∈d,r∈D\/∃x∈r,∃y∈b.getD x [],is'.getD y 0=0
 no:∀r∈D,∀x∈r,∀y∈b.getD x [],is.getD y 0≠0
theorem bV{is:List Int}{h:Int}:p∈fN is [h]↔p<is.length/\is.getD p 0=h:=by unfold fN;rw[mem_filter,mem_range,decide_eq_true_eq,mem_singleton]
theorem sr(hb:Bd b)(sym:Sym b)(hT:∀x∈T,x<b.length){s:Nat}(hs:s∈T):aL b (vT T) s∈j6 b T:=by obtain⟨m,h1,h2,h3⟩:=uc (vl:=vT T) hb sym (hT s hs);have hm:m∈T:=(oa hs).mp (cx hb (hT s hs) h1);exact mem_map.mpr ⟨m,mem_filter.mpr ⟨hm,h2⟩,h3⟩
theorem sm{c:List Nat}(h:c∈j6 b T):∃s∈T,c=aL b (vT T) s:=by obtain⟨s,hs,rfl⟩:=mem_map.mp h;exact⟨s,(mem_filter.mp hs).1,rfl⟩
theorem sL{is:List Int}(hb:Bd b)(hl:is.length=b.length){s:Nat}(hs:s<b.length):aL b (vT (fN is [is.getD s 0])) s=aL b (vS is) s:=by
 have hT:s∈fN is [is.getD s 0]:=bV.mpr ⟨by omega,rfl⟩;refine xT fun y=>⟨fun r=>lZ (fun x y _ _ _ o=>?_) r,fun r=>lZ (fun x y _ _ hy o=>?_) r⟩
 ·exact(bV.mp ((oa hT).mp o)).2
 ·exact(oa hT).mpr (bV.mpr ⟨by rw[hl];exact hb.get hy,o⟩)
section
variable {is:List Int} {h:Int} {D:List (List Nat)}
theorem lr.hand{d:List (List Nat)}(S:lr b is h d is' D)(hb:Bd b)(hl:is.length=b.length)(hd:∀r∈d,r∈j6 b (fN is [h]))(hr:r∈D)(hq:q∈r):is.getD q 0=h/\r=aL b (vS is) q\/¬Sym b:=by
 by_cases sym:Sym b
 ·left;obtain⟨s,hs,rfl⟩:=sm (hd r (S.sub r hr));have hs':=bV.mp hs;have hsb:s<b.length:=by omega
  have e:=hs'.2;subst e;rw[sL hb hl hsb] at hq ⊢;exact⟨cx hb hsb hq,(ku hb sym hsb hq).symm⟩
 ·exact .inr sym
theorem lr.hand'{d:List (List Nat)}(S:lr b is h d is' D)(hb:Bd b)(sym:Sym b)(hl:is.length=b.length)(hd:∀r∈d,r∈j6 b (fN is [h]))(hr:r∈D)(hq:q∈r):is.getD q 0=h/\r=aL b (vS is) q:=(S.hand hb hl hd hr hq).resolve_right (fun n=>n sym)
theorem lr.snd(S:lr b is h (j6 b (fN is [h])) is' D)(hb:Bd b)(sym:Sym b)(hl:is.length=b.length)(h0:h≠0):jK b is' h:=by
 intro s hs e;have es:is.getD s 0=h:=by
  rcases S.was s with q|q
  ·rw[<- q];exact e
  ·exact absurd (e.symm.trans q.1) h0
 have hr:aL b (vS is) s∈j6 b (fN is [h]):=by have:=sr (T:=fN is [is.getD s 0]) hb sym (fun x hx=>by have:=(bV.mp hx).1;omega) (bV.mpr ⟨by omega,rfl⟩:s∈_);rwa [sL hb hl hs,es] at this
 have nD:aL b (vS is) s∉D:=fun hD=>h0 (by rw[<- e];exact S.zp _ hD s (kB hb hs));rcases S.fre _ hr with q|⟨x,hx,y,hy,hy0⟩
 ·exact absurd q nD
 ·refine⟨x,y,?_,hy,hy0⟩;refine lZ (fun u z ru _ hz oz=>?_) ((iC hb hs).mp hx);have hzr:z∈aL b (vS is) s:=(iC hb hs).mpr (ru.step hz oz);show is'.getD z 0=is'.getD s 0;rw[e];rcases S.was z with q|⟨_,r,hrD,hzr2⟩
  ·rw[q];exact oz.trans es
  ·obtain⟨_,er⟩:=S.hand' hb sym hl (fun r hr=>hr) hrD hzr2;rw[er,ku hb sym hs hzr] at hrD;exact absurd hrD nD
structure Lb (b:List (List Nat)) (is:List Int) (h:Int) (R C:List (List Nat)):Prop where
 row:∀r∈R,∃s,s<b.length/\is.getD s 0=h/\r=aL b (vS is) s
 cl:∀c∈C,∃s,s<b.length/\is.getD s 0≠h/\c=aL b (vH is h) s
 firm:∀r∈R,∃c1∈C,∃c2∈C,c1≠c2/\(∀p∈c1,is.getD p 0=0->p∈bx b is r)/\∀p∈c2,is.getD p 0=0->p∈bx b is r
 wall:∀c∈C,∀x∈c,∀y∈b.getD x [],is.getD y 0=h->∃r∈R,y∈r
structure bF (b:List (List Nat)) (is:List Int) (h o:Int) (p:Nat) (is':List Int) (D:List (List Nat)):Prop where
 hl:is.length=b.length
 hp:p<b.length
 p0:is.getD p 0=0
 sw:lr b (is.set p o) h (j6 b (fN (is.set p o) [h])) is' D
 br:∃x y,Reach b (cK (vS is') p) p x/\y∈b.getD x []/\is'.getD y 0=0
structure fC (h o:Int):Prop where
 h0:h≠0
 o0:o≠0
 ho:o≠h
theorem bF.set1(L:bF b is h o p is' D)(q:Nat):(is.set p o).getD q 0=if q=p then o else is.getD q 0:=by
 rw[lY]
 by_cases e:q=p
 ·subst e;rw[if_pos ⟨rfl,by rw[L.hl];exact L.hp⟩,if_pos rfl]
 ·rw[if_neg (fun x=>e x.1.symm),if_neg e]
theorem bF.val(L:bF b is h o p is' D)(hb:Bd b)(sym:Sym b)(H:fC h o)(q:Nat):is'.getD q 0=(if q=p then o else is.getD q 0)\/(is'.getD q 0=0/\is.getD q 0=h/\q≠p/\∃r∈D,q∈r):=by
 rcases L.sw.was q with e|⟨e,r,hr,hq⟩
 ·left;rw[e,L.set1]
 ·obtain⟨e1,_⟩:=L.sw.hand' hb sym (by rw[length_set];exact L.hl) (fun r hr=>hr) hr hq;rw[L.set1] at e1
  by_cases hqp:q=p
  ·rw[if_pos hqp] at e1;exact absurd e1 H.ho
  ·rw[if_neg hqp] at e1;exact .inr ⟨e,e1,hqp,r,hr,hq⟩
theorem bF.isO(L:bF b is h o p is' D)(hb:Bd b)(sym:Sym b)(H:fC h o)(e:is.getD q 0=o):is'.getD q 0=o:=by
 rcases L.val hb sym H q with v|v
 ·rw[v];split
  ·rfl
  ·exact e
 ·exact absurd (e.symm.trans v.2.1) H.ho
theorem bF.isP(L:bF b is h o p is' D)(hb:Bd b)(sym:Sym b)(H:fC h o):is'.getD p 0=o:=by
 rcases L.val hb sym H p with v|v
 ·rw[v,if_pos rfl]
 ·exact absurd rfl v.2.2.1
theorem bF.is0(L:bF b is h o p is' D)(hb:Bd b)(sym:Sym b)(H:fC h o)(e:is.getD q 0=0)(hq:q≠p):is'.getD q 0=0:=by
 rcases L.val hb sym H q with v|v
 ·rw[v,if_neg hq];exact e
 ·exact v.1
theorem bF.snd(L:bF b is h o p is' D)(hb:Bd b)(sym:Sym b)(H:fC h o)(N:jK b is o):jK b is' o:=by
 intro s hs e;have eP:=L.isP hb sym H
 by_cases hsp:Reach b (cK (vS is') s) s p
 ·obtain⟨x,y,r,hy,h0⟩:=L.br;refine⟨x,y,hsp.trans ?_,hy,h0⟩;have:cK (vS is') s=cK (vS is') p:=wD (vl:=vS is') (x:=s) (s:=p) (e.trans eP.symm);rw[this];exact r
 ·have hne:s≠p:=fun q=>hsp (by subst q;exact .refl);have es:is.getD s 0=o:=by
   rcases L.val hb sym H s with v|v
   ·rw[if_neg hne] at v;exact v.symm.trans e
   ·exact absurd (e.symm.trans v.1) H.o0
  obtain⟨x,y,r,hy,h0⟩:=N s hs es;have r':Reach b (cK (vS is') s) s x:=lZ (fun u z _ _ _ oz=>by
   show is'.getD z 0=is'.getD s 0;rw[e];exact L.isO hb sym H (oz.trans es)) r
  refine⟨x,y,r',hy,L.is0 hb sym H h0 fun q=>hsp ?_⟩;subst q;exact r'.step hy (eP.trans e.symm)
end
theorem JD{t:Nat->Bool}{x:Nat}:x∈(List.range n).filter t↔x<n/\t x=true:=by rw[mem_filter,mem_range]
def lD(b:List (List Nat))(is:List Int)(o:Int)(p:Nat):List (List Nat):=(j6 b (fN (is.set p o) [3-o])).filter fun r=>decide (bx b (is.set p o) r=[])
def lT(b:List (List Nat))(is:List Int)(o:Int)(p:Nat):List Nat:=(List.range b.length).filter fun q=>(lD b is o p).any fun r=>decide (q∈r)
def lS(b:List (List Nat))(is:List Int)(o:Int)(p:Nat):List Int:=(List.range is.length).map fun q=>if q=p then o else if q∈lT b is o p then 0 else is.getD q 0
structure cO (b:List (List Nat)) (is:List Int) (o:Int) (p:Nat):Prop where
 bd:Bd b
 sym:Sym b
 nl:∀i,i∉b.getD i []
 hl:is.length=b.length
 hp:p<b.length
 p0:is.getD p 0=0
 H:fC (3-o) o
 v:∀q,q<b.length->is.getD q 0=0\/is.getD q 0=3-o\/is.getD q 0=o
 nh:jK b is (3-o)
 no:jK b is o
section
variable {is:List Int}
theorem lO:(lS b is o p).length=is.length:=by simp[lS]
theorem cO.s1(A:cO b is o p)(q:Nat):(is.set p o).getD q 0=if q=p then o else is.getD q 0:=by
 rw[lY]
 by_cases e:q=p
 ·subst e;rw[if_pos ⟨rfl,by rw[A.hl];exact A.hp⟩,if_pos rfl]
 ·rw[if_neg (fun x=>e x.1.symm),if_neg e]
theorem cO.l1(A:cO b is o p):(is.set p o).length=b.length:=by rw[length_set];exact A.hl
theorem cO.get(A:cO b is o p)(hq:q<b.length):(lS b is o p).getD q 0=if q=p then o else if q∈lT b is o p then 0 else is.getD q 0:=by unfold lS;rw[getD_eq_getElem?_getD,getElem?_map,getElem?_range (by rw[A.hl];exact hq)];rfl
theorem cO.far(A:cO b is o p)(hq:¬q<b.length):(lS b is o p).getD q 0=0/\is.getD q 0=0:=by
 have h1:=A.hl;constructor
 ·rw[getD_eq_getElem?_getD,getElem?_eq_none (by rw[lO];omega)];rfl
 ·rw[getD_eq_getElem?_getD,getElem?_eq_none (by omega)];rfl
theorem cO.dead(A:cO b is o p):r∈lD b is o p↔∃s,s<b.length/\is.getD s 0=3-o/\r=aL b (vS is) s/\∀x∈r,∀y∈b.getD x [],is.getD y 0=0->y=p:=by
 have hT:∀{s},s∈fN (is.set p o) [3-o]↔s<b.length/\is.getD s 0=3-o:=fun {s}=>by
  rw[bV,A.l1,A.s1];constructor
  ·rintro⟨h1,h2⟩
   by_cases e:s=p
   ·rw[if_pos e] at h2;exact absurd h2 A.H.ho
   ·rw[if_neg e] at h2;exact⟨h1,h2⟩
  ·rintro⟨h1,h2⟩;have e:s≠p:=fun e=>by subst e;exact A.H.h0 (h2.symm.trans A.p0)
   exact⟨h1,by rw[if_neg e];exact h2⟩
 have hc:∀{s},s<b.length->is.getD s 0=3-o->aL b (vT (fN (is.set p o) [3-o])) s=aL b (vS is) s:=fun {s} hs es=>by
  have hsT:=hT.mpr ⟨hs,es⟩;refine xT fun y=>⟨fun r=>lZ (fun u z _ _ hz oz=>?_) r,fun r=>lZ (fun u z _ _ hz oz=>?_) r⟩
  ·exact(hT.mp ((oa hsT).mp oz)).2.trans es.symm
  ·exact(oa hsT).mpr (hT.mpr ⟨A.bd.get hz,Eq.trans oz es⟩)
 have hb1:∀{r:List Nat},bx b (is.set p o) r=[]↔∀x∈r,∀y∈b.getD x [],is.getD y 0=0->y=p:=fun {r}=>by
  rw[xS A.bd];constructor
  ·intro h x hx y hy y0;apply Classical.byContradiction;intro hne;exact h x hx y hy (by rw[A.s1,if_neg hne];exact y0)
  ·intro h x hx y hy;rw[A.s1]
   by_cases e:y=p
   ·rw[if_pos e];exact A.H.o0
   ·rw[if_neg e];exact fun y0=>e (h x hx y hy y0)
 unfold lD;rw[mem_filter,decide_eq_true_eq,hb1];constructor
 ·rintro⟨h1,h2⟩;obtain⟨s,hs,rfl⟩:=sm h1;obtain⟨q1,q2⟩:=hT.mp hs;rw[hc q1 q2] at h2 ⊢;exact⟨s,q1,q2,rfl,h2⟩
 ·rintro⟨s,q1,q2,rfl,h2⟩;refine⟨?_,h2⟩;have:=sr (T:=fN (is.set p o) [3-o]) A.bd A.sym (fun x hx=>(hT.mp hx).1) (hT.mpr ⟨q1,q2⟩);rwa [hc q1 q2] at this
theorem cO.tk(A:cO b is o p):q∈lT b is o p↔∃r∈lD b is o p,q∈r:=by
 unfold lT;rw[JD,any_eq_true];constructor
 ·rintro⟨_,r,hr,hq⟩;exact⟨r,hr,of_decide_eq_true hq⟩
 ·rintro⟨r,hr,hq⟩;obtain⟨s,hs,_,rfl,_⟩:=A.dead.mp hr;exact⟨cA hq,_,hr,decide_eq_true hq⟩
theorem cO.tkh(A:cO b is o p)(h:q∈lT b is o p):q<b.length/\is.getD q 0=3-o/\q≠p:=by obtain⟨r,hr,hq⟩:=A.tk.mp h;obtain⟨s,hs,es,rfl,_⟩:=A.dead.mp hr;have e:is.getD q 0=3-o:=(cx A.bd hs hq).trans es;exact⟨cA hq,e,fun e'=>by subst e';exact A.H.h0 (e.symm.trans A.p0)⟩
theorem cO.near(A:cO b is o p):q∈lT b is o p↔∃y∈b.getD p [],is.getD y 0=3-o/\(bx b is (aL b (vS is) y)).erase p=[]/\q∈aL b (vS is) y:=by
 have nd:∀r,(bx b is r).Nodup:=fun r=>List.Pairwise.filter _ (List.Pairwise.filter _ nodup_range);have er:∀y,y<b.length->((bx b is (aL b (vS is) y)).erase p=[]↔∀x∈aL b (vS is) y,∀z∈b.getD x [],is.getD z 0=0->z=p):=fun y hy=>by
  rw[eq_nil_iff_forall_not_mem];constructor
  ·intro h x hx z hz z0;apply Classical.byContradiction;intro hne;exact h z (((nd _).mem_erase_iff).mpr ⟨hne,(gG A.bd).mpr ⟨⟨x,hx,hz⟩,z0⟩⟩)
  ·intro h z hz;obtain⟨h1,h2⟩:=((nd _).mem_erase_iff).mp hz;obtain⟨⟨x,hx,hz⟩,z0⟩:=(gG A.bd).mp h2;exact h1 (h x hx z hz z0)
 rw[A.tk];constructor
 ·rintro⟨r,hr,hq⟩;obtain⟨s,hs,es,rfl,hd⟩:=A.dead.mp hr;obtain⟨u,w,ru,hw,w0⟩:=A.nh s hs es;have hu:u∈aL b (vS is) s:=(iC A.bd hs).mpr ru;have e:=hd u hu w hw w0;subst e;have hub:=cA hu;refine⟨u,A.sym _ _ hw,(cx A.bd hs hu).trans es,?_,?_⟩
  ·rw[er u hub,ku A.bd A.sym hs hu];exact hd
  ·rw[ku A.bd A.sym hs hu];exact hq
 ·rintro⟨y,hy,ey,h1,hq⟩;have hyb:=A.bd.get hy;exact⟨_,A.dead.mpr ⟨y,hyb,ey,rfl,(er y hyb).mp h1⟩,hq⟩
theorem cO.swp(A:cO b is o p):lr b (is.set p o) (3-o) (j6 b (fN (is.set p o) [3-o])) (lS b is o p) (lD b is o p):=by
 have low:∀y,(is.set p o).getD y 0=0->(lS b is o p).getD y 0=0:=fun y h0=>by
  by_cases hy:y<b.length
  ·rw[A.s1] at h0;rw[A.get hy]
   by_cases e:y=p
   ·rw[if_pos e] at h0;exact absurd h0 A.H.o0
   ·rw[if_neg e] at h0 ⊢;split
    ·rfl
    ·exact h0
  ·exact(A.far hy).1
 refine⟨by rw[lO,length_set],fun r hr=>(mem_filter.mp hr).1,fun r hr q hq=>?_,fun q=>?_,fun r hr=>?_,fun r hr=>?_⟩
 ·have ht:=A.tk.mpr ⟨r,hr,hq⟩;obtain⟨h1,_,h3⟩:=A.tkh ht;rw[A.get h1,if_neg h3,if_pos ht]
 ·by_cases hq:q<b.length
  ·rw[A.get hq,A.s1]
   by_cases e:q=p
   ·rw[if_pos e,if_pos e];exact .inl rfl
   ·rw[if_neg e,if_neg e]
    by_cases ht:q∈lT b is o p
    ·rw[if_pos ht];exact .inr ⟨rfl,A.tk.mp ht⟩
    ·rw[if_neg ht];exact .inl rfl
  ·left;rw[(A.far hq).1,A.s1,if_neg (fun e=>hq (by rw[e];exact A.hp)),(A.far hq).2]
 ·by_cases e:bx b (is.set p o) r=[]
  ·exact .inl (mem_filter.mpr ⟨hr,decide_eq_true e⟩)
  ·obtain⟨y,hy⟩:=exists_mem_of_ne_nil _ e;obtain⟨⟨x,hx,hy⟩,h0⟩:=(gG A.bd).mp hy;exact .inr ⟨x,hx,y,hy,low y h0⟩
 ·exact(xS A.bd).mp (of_decide_eq_true (mem_filter.mp hr).2)
def fk(b:List (List Nat))(is:List Int)(o:Int)(p:Nat):Prop:=bx b (lS b is o p) (aL b (vS (lS b is o p)) p)≠[]
theorem cO.laid(A:cO b is o p)(h:fk b is o p):bF b is (3-o) o p (lS b is o p) (lD b is o p):=by refine⟨A.hl,A.hp,A.p0,A.swp,?_⟩;obtain⟨y,hy⟩:=exists_mem_of_ne_nil _ h;obtain⟨⟨x,hx,hy⟩,h0⟩:=(gG A.bd).mp hy;exact⟨x,y,(iC A.bd A.hp).mp hx,hy,h0⟩
theorem cO.atP(A:cO b is o p):(lS b is o p).getD p 0=o:=by rw[A.get A.hp,if_pos rfl]
theorem cO.brth(A:cO b is o p):fk b is o p↔((∃y∈b.getD p [],is.getD y 0=0)\/∃y∈b.getD p [],is.getD y 0=o/\(bx b is (aL b (vS is) y)).erase p≠[])\/lT b is o p≠[]:=by
 have nd:∀r,(bx b is r).Nodup:=fun r=>List.Pairwise.filter _ (List.Pairwise.filter _ nodup_range);have free:∀y,y<b.length->is.getD y 0=0->y≠p->(lS b is o p).getD y 0=0:=fun y hy y0 hne=>by
  rw[A.get hy,if_neg hne];split
  ·rfl
  ·exact y0
 have own:∀y,y<b.length->is.getD y 0=o->(lS b is o p).getD y 0=o:=fun y hy e=>by
  rw[A.get hy];split
  ·rfl
  ·rw[if_neg (fun h=>A.H.ho (e.symm.trans (A.tkh h).2.1))];exact e
 have selfP:=kB (vl:=vS (lS b is o p)) A.bd A.hp;constructor
 ·intro h
  by_cases ht:lT b is o p=[]
  ·left;obtain⟨w,hw⟩:=exists_mem_of_ne_nil _ h;obtain⟨⟨u,hu,hv⟩,w0⟩:=(gG A.bd).mp hw;have hwb:=A.bd.get hv;have e1:∀q,q<b.length->(lS b is o p).getD q 0=if q=p then o else is.getD q 0:=fun q hq=>by rw[A.get hq,ht];simp
   rw[e1 w hwb] at w0;have hwp:w≠p:=fun e=>by rw[if_pos e] at w0;exact A.H.o0 w0
   rw[if_neg hwp] at w0;have key:∀u,Reach b (cK (vS (lS b is o p)) p) p u->u=p\/∃y∈b.getD p [],is.getD y 0=o/\Reach b (cK (vS is) y) y u:=by
    intro u r
    induction r with
    | refl=>exact .inl rfl
    | @step x z r hz oz ih =>
     by_cases ezp:z=p
     ·exact .inl ezp
     ·right;have hzb:=A.bd.get hz;have oz':(lS b is o p).getD z 0=o:=Eq.trans oz A.atP;rw[e1 z hzb,if_neg ezp] at oz';rcases ih with rfl|⟨y,hy,ey,ry⟩
      ·exact⟨z,hz,oz',.refl⟩
      ·exact⟨y,hy,ey,ry.step hz (oz'.trans ey.symm)⟩
   rcases key u ((iC A.bd A.hp).mp hu) with rfl|⟨y,hy,ey,ry⟩
   ·exact .inl ⟨w,hv,w0⟩
   ·refine .inr ⟨y,hy,ey,fun e=>?_⟩;have:w∈(bx b is (aL b (vS is) y)).erase p:=((nd _).mem_erase_iff).mpr ⟨hwp,(gG A.bd).mpr ⟨⟨u,(iC A.bd (A.bd.get hy)).mpr ry,hv⟩,w0⟩⟩;rw[e] at this;simp at this
  ·exact .inr ht
 ·rintro((⟨y,hy,y0⟩|⟨y,hy,ey,hne⟩)|ht)
  ·have hyb:=A.bd.get hy;have hyp:y≠p:=fun e=>A.nl p (by rw[e] at hy;exact hy);exact ne_nil_of_mem ((gG A.bd).mpr ⟨⟨p,selfP,hy⟩,free y hyb y0 hyp⟩)
  ·obtain⟨w,hw⟩:=exists_mem_of_ne_nil _ hne;obtain⟨hwp,hw⟩:=((nd _).mem_erase_iff).mp hw;obtain⟨⟨u,hu,hw⟩,w0⟩:=(gG A.bd).mp hw;have hyb:=A.bd.get hy;have r1:Reach b (cK (vS (lS b is o p)) p) p y:=Reach.refl.step hy ((own y hyb ey).trans A.atP.symm);have r2:Reach b (cK (vS (lS b is o p)) p) y u:=lZ (fun x z _ _ hz oz=>(own z (A.bd.get hz) (Eq.trans oz ey)).trans A.atP.symm) ((iC A.bd hyb).mp hu);exact ne_nil_of_mem ((gG A.bd).mpr ⟨⟨u,(iC A.bd A.hp).mpr (r1.trans r2),hw⟩,free w (A.bd.get hw) w0 hwp⟩)
  ·obtain⟨q,hq⟩:=exists_mem_of_ne_nil _ ht;obtain⟨y,hy,ey,h1,_⟩:=A.near.mp hq;have hyb:=A.bd.get hy;have ty:y∈lT b is o p:=A.near.mpr ⟨y,hy,ey,h1,kB A.bd hyb⟩;refine ne_nil_of_mem ((gG A.bd).mpr ⟨⟨p,selfP,hy⟩,?_⟩);rw[A.get hyb,if_neg (A.tkh ty).2.2,if_pos ty]
theorem cO.snd(A:cO b is o p)(h:fk b is o p):jK b (lS b is o p) o/\jK b (lS b is o p) (3-o) :=
 ⟨(A.laid h).snd A.bd A.sym A.H A.no,A.swp.snd A.bd A.sym A.l1 A.H.h0⟩
theorem cO.vals(A:cO b is o p):∀q,q<b.length->(lS b is o p).getD q 0=0\/(lS b is o p).getD q 0=3-o\/(lS b is o p).getD q 0=o:=fun q hq=>by
 rw[A.get hq];split
 ·exact .inr (.inr rfl)
 ·split
  ·exact .inl rfl
  ·exact A.v q hq
end
theorem HK{is:List Int}{r':List Nat}(h:∀x,x∈r↔x∈r'):bx b is r=bx b is r':=by unfold bx iH;congr 1;apply filter_congr;intro y _;rw[Bool.eq_iff_iff,any_eq_true,any_eq_true];exact⟨fun⟨x,hx,q⟩=>⟨x,(h x).mp hx,q⟩,fun⟨x,hx,q⟩=>⟨x,(h x).mpr hx,q⟩⟩
theorem xA(g:ce[k]?=some (.dct (kvs F))):bK [.cel k] ce=some (.ok (nW F.length) ce):=by
 have l:dj ce (.cel k)=none:=by simp only[dj,bU,g]
 simp only[bK,l,wK g,lh];rfl
section
variable {is:List Int}
theorem E9(fu:Nat)(hfu:200<=fu)(B:ka b)(hl:is.length=b.length){s:Nat}(hs:s<b.length):∃F,d_ea fu [wB b,wS is,nW s] ce=some (.ok (.cel ce.length) (ce++[.lst (F.map nW)]))/\Comp b (cK (vS is) s) s F:=by
 have hz:=fI;have h36:=B.h36;have hb:=B.bd
 suffices h:∃w c,d_ea fu [wB b,wS is,nW s] ce=some (.ok w c)/\∃F,w=.cel ce.length/\c=ce++[.lst (F.map nW)]/\Comp b (cK (vS is) s) s F by
  obtain⟨w,c,e,F,rfl,rfl,q⟩:=h;exact⟨F,e,q⟩
 unfold d_ea;refine mL [some (wB b),some (wS is),some (nW s),none,none,none] rfl ?_;refine aZ (gY (ws:=[nW s]) (by trivial) (by show 1<=sizeLine;omega)) ?_;refine aS ?_;have O0:=(Own.start ce).alloc (C.lst ([s].map nW));refine(?_:Run _ _ (ce++[C.lst ([s].map nW)]) _);generalize hk:ce.length=k3 at O0 ⊢;generalize ce++[C.lst ([s].map nW)]=c0 at O0 ⊢;refine aZ (w:=nW 0) (ce':=c0) aV ?_;refine aS ?_;refine zo (σ:=List Nat×Nat) (fun st sl c=>∃x5,sl=[some (wB b),some (wS is),some (nW s),some (.cel k3),some (nW st.2),x5]/\Own ce c [(k3,C.lst (st.1.map nW))]/\st.1.Nodup/\s∈st.1/\(∀x∈st.1,x<b.length)/\st.2<=st.1.length/\(∀x∈st.1,Reach b (cK (vS is) s) s x)/\∀x∈st.1.take st.2,∀y∈b.getD x [],cK (vS is) s y->y∈st.1)
  (fun st=>36-st.2) ([s],0) ⟨_,rfl,O0,by simp,by simp,by simpa using hs,by simp,by simpa using Reach.refl,by simp⟩ (by show 36-0<fu;omega) ?_
 rintro⟨F,at'⟩ sl c ⟨x5,rfl,O,nd,hsF,lt,hat,re,cl⟩;dsimp only at O nd hsF lt hat re cl;have g3:=O.g0;have hF36:F.length<=36:=le_trans (eS nd lt) h36;have cmp:ml (nW at') (nW F.length)=some (.bl (decide ((at':Int)<(F.length:Int)))):=rY (i:=at') (j:=F.length) rfl rfl;refine⟨decide ((at':Int)<(F.length:Int)),by trivial,fun q=>?_,fun q=>?_⟩
 ·have hlt:at'<F.length:=by have:=of_decide_eq_true q;omega
  have hpF:F.getD at' 0∈F:=by rw[getD_eq_getElem?_getD,getElem?_eq_getElem hlt];exact getElem_mem hlt
  have ix:=wF (p:=at') g3 hlt;have etk:F.take (at'+1)=F.take at'++[F.getD at' 0]:=by rw[take_add_one,getElem?_eq_getElem hlt,getD_eq_getElem?_getD,getElem?_eq_getElem hlt];rfl
  generalize F.getD at' 0=p at hpF ix etk;have hp:=lt p hpF;unfold Af;refine iI (zs:=b.getD p []) (en:=nW) (c1:=c) (mO (by trivial))
   (fun d sl c=>∃new x5,sl=[some (wB b),some (wS is),some (nW s),some (.cel k3),some (nW at'),x5]/\Own ce c [(k3,C.lst ((F++new).map nW))]/\(F++new).Nodup/\(∀x∈new,x∈b.getD p []/\cK (vS is) s x)/\∀x∈d,cK (vS is) s x->x∈F++new)
   ⟨[],x5,rfl,by simpa using O,by simpa using nd,by simp,by simp⟩ ?_ ?_
  ·rintro d y r sl c e hy ⟨new,x5,rfl,O,nd2,hnew,hd⟩;have g3:=O.g0;have hy':=hb.get hy;have lt2:∀x∈F++new,x<b.length:=fun x hx=>by
    rcases mem_append.mp hx with hx|hx
    ·exact lt x hx
    ·exact hb.get (hnew x hx).1
   have hl2:=eS nd2 lt2;have hw:((F++new).map nW).length<sizeLine:=by rw[length_map];omega
   have j1:=iT (ce:=c) (is:=is) (p:=y) (by omega);have j2:=iT (ce:=c) (is:=is) (p:=s) (by omega);unfold Ag;refine aS ?_;refine fy (p:=decide (is.getD y 0=is.getD s 0)&&!decide (y∈F++new)) (ce':=c) (by trivial) (fun q=>?_) (fun q=>?_)
   ·simp only[and_eq_true,not_eq_true',decide_eq_false_iff_not,decide_eq_true_eq] at q;trivial;refine⟨new++[y],_,rfl,?_,?_,fun x hx=>?_,fun x hx o=>?_⟩
    ·have e2:(F++(new++[y])).map nW=(F++new).map nW++[nW y]:=by simp
     rw[e2];exact O.set0 _
    ·rw[<- append_assoc,nodup_append];exact⟨nd2,by simp,fun a ha c hc=>by rw[mem_singleton] at hc;subst hc;intro e;subst e;exact q.2 ha⟩
    ·rcases mem_append.mp hx with hx|hx
     ·exact hnew x hx
     ·rw[mem_singleton] at hx;subst hx;exact⟨hy,q.1⟩
    ·rw[<- append_assoc];rcases mem_append.mp hx with hx|hx
     ·exact mem_append_left _ (hd x hx o)
     ·rw[mem_singleton] at hx;subst hx;simp
   ·refine hJ ?_;refine⟨new,_,rfl,O,nd2,hnew,fun x hx o=>?_⟩;rcases mem_append.mp hx with hx|hx
    ·exact hd x hx o
    ·rw[mem_singleton] at hx;subst hx;have o':is.getD x 0=is.getD s 0:=o;rw[decide_eq_true o',Bool.true_and,not_eq_false',decide_eq_true_eq] at q;exact q
  ·rintro sl c ⟨new,x5,rfl,O,nd2,hnew,hd⟩;have lt2:∀x∈F++new,x<b.length:=fun x hx=>by
    rcases mem_append.mp hx with hx|hx
    ·exact lt x hx
    ·exact hb.get (hnew x hx).1
   have fa:cI (nW at') (.int 1)=some (nW (at'+1)):=kA (i:=at') (j:=1) rfl rfl;refine tG (w:=nW (at'+1)) (ce':=c) (by trivial) ?_;refine⟨(F++new,at'+1),(by show 36-(at'+1)<36-at';omega),x5,rfl,O,nd2,mem_append_left _ hsF,lt2,by show at'+1<=(F++new).length;rw[length_append];omega,fun x hx=>?_,fun x hx y hy o=>?_⟩
   ·rcases mem_append.mp hx with hx|hx
    ·exact re x hx
    ·exact(re p hpF).step (hnew x hx).1 (hnew x hx).2
   ·rw[take_append_of_le_length (by omega),etk] at hx;rcases mem_append.mp hx with hx|hx
    ·exact mem_append_left _ (cl x hx y hy o)
    ·rw[mem_singleton] at hx;subst hx;exact hd y hy o
 ·have q':=of_decide_eq_false q;have eat:at'=F.length:=by omega
  subst eat;rw[take_length] at cl;refine bL (w:=.cel k3) (ce':=c) (by trivial) ?_;subst hk;exact⟨_,_,O.finO (by simp only[eR];exact aG _ _),F,rfl,rfl,⟨nd,hsF,lt,cl,re⟩⟩
theorem Gv(fu:Nat)(hfu:200<=fu)(B:ka b)(hl:is.length=b.length){s:Nat}(hs:s<b.length):∃F,cX (d_ea fu) [wB b,wS is,nW s] ce=some (.ok (wL F) ce)/\Comp b (cK (vS is) s) s F:=by obtain⟨F,e,h⟩:=E9 (ce:=ce) fu hfu B hl hs;exact⟨F,jU e (aG _ _),h⟩
theorem B8(fu:Nat)(B:ka b)(hl:is.length=b.length)(hr:∀p∈row,p<b.length):d_h fu [wB b,wS is,wL row] ce=some (.ok (.cel ce.length) (ce++[.lst ((bx b is row).map nW)])):=by
 have hz:=fI;have h36:=B.h36;have hb:=B.bd;unfold d_h;refine dm [some (wB b),some (wS is),some (wL row),none,none,none] rfl ?_;refine aZ qh ?_;refine aS ?_;have O0:=(Own.start ce).alloc (C.dct (kvs []));refine(?_:Run _ _ (ce++[C.dct (kvs [])]) _);generalize hk:ce.length=k3 at O0 ⊢;generalize ce++[C.dct (kvs [])]=c0 at O0 ⊢;refine iI (zs:=row) (en:=nW) (jc (by trivial))
  (fun d sl c=>∃F x4 x5,sl=[some (wB b),some (wS is),some (wL row),some (.cel k3),x4,x5]/\Own ce c [(k3,C.dct (kvs F))]/\F.Nodup/\(∀x∈F,x<b.length)/\∀x,x∈F↔(∃p∈d,x∈b.getD p [])/\is.getD x 0=0)
  ⟨[],none,none,rfl,O0,by simp,by simp,by simp⟩ ?_ ?_
 ·rintro d p r sl c e hp ⟨F,x4,x5,rfl,O,nd,lt,mem⟩;have hp':=hr p hp;unfold AJ;refine aS ?_;refine lV (zs:=b.getD p []) (en:=nW) (mO (by trivial))
   (fun d' sl c=>∃F x5,sl=[some (wB b),some (wS is),some (wL row),some (.cel k3),some (nW p),x5]/\Own ce c [(k3,C.dct (kvs F))]/\F.Nodup/\(∀x∈F,x<b.length)/\∀x,x∈F↔((∃p∈d,x∈b.getD p [])\/x∈d')/\is.getD x 0=0)
   ⟨F,x5,rfl,O,nd,lt,by simpa using mem⟩ ?_ ?_
  ·rintro d' y r' sl c e' hy ⟨F,x5,rfl,O,nd,lt,mem⟩;have g:=lH O.g0;have hl':(kvs F).length<sizeLine:=by rw[lh];have:=eS nd lt;omega
   have hy':=hb.get hy;have j1:=iT (ce:=c) (is:=is) (p:=y) (by omega);unfold AK;refine aS ?_;refine fy (p:=decide (is.getD y 0=0)) (ce':=c) (by trivial) (fun q=>?_) (fun q=>?_)
   ·have q':=of_decide_eq_true q;trivial;refine⟨ins F y,some (nW y),rfl,?_,mP nd,fun x hx=>?_,fun x=>?_⟩
    ·rw[m_];exact O.set0 _
    ·rcases bG.mp hx with hx|rfl
     ·exact lt x hx
     ·exact hy'
    ·rw[bG,mem,mem_append,mem_singleton];constructor
     ·rintro(⟨h1,h2⟩|rfl)
      ·exact⟨h1.imp id .inl,h2⟩
      ·exact⟨.inr (.inr rfl),q'⟩
     ·rintro⟨h1|h1|rfl,h2⟩
      ·exact .inl ⟨.inl h1,h2⟩
      ·exact .inl ⟨.inr h1,h2⟩
      ·exact .inr rfl
   ·have q':=of_decide_eq_false q;refine hJ ?_;refine⟨F,some (nW y),rfl,O,nd,lt,fun x=>?_⟩;rw[mem,mem_append,mem_singleton];constructor
    ·rintro⟨h1,h2⟩;exact⟨h1.imp id .inl,h2⟩
    ·rintro⟨h1|h1|rfl,h2⟩
     ·exact⟨.inl h1,h2⟩
     ·exact⟨.inr h1,h2⟩
     ·exact absurd h2 q'
  ·rintro sl c ⟨F,x5,rfl,O,nd,lt,mem⟩;refine⟨F,some (nW p),x5,rfl,O,nd,lt,fun x=>?_⟩;rw[mem];refine and_congr_left fun _=>?_;constructor
   ·rintro(⟨q,hq,h⟩|h)
    ·exact⟨q,mem_append_left _ hq,h⟩
    ·exact⟨p,by simp,h⟩
   ·rintro⟨q,hq,h⟩;rcases mem_append.mp hq with hq|hq
    ·exact .inl ⟨q,hq,h⟩
    ·rw[mem_singleton] at hq;subst hq;exact .inr h
 ·rintro sl c ⟨F,x4,x5,rfl,O,nd,lt,mem⟩;have hl':=eS nd lt;have es:cG F=bx b is row:=by rw[oX nd lt];unfold bx iH;rw[filter_filter];apply filter_congr;intro x _;rw[Bool.eq_iff_iff];simp only[decide_eq_true_eq,mem,and_eq_true,any_eq_true];exact and_comm
  refine bL (w:=.cel c.length) (ce':=c++[.lst ((bx b is row).map nW)]) (bS (aI (bS (aI (by trivial) aK) ((zg (.cl O.g0)).trans (iD (by rw[length_map];omega)))) aK) ?_) ?_
  ·show fi fF [wL F] c=_;rw[ze (by omega),es];exact lQ (by rw[length_map,<- es,nA];omega)
  ·subst hk;exact(O.alloc _).finO (by simp only[eR];exact aG _ _)
end
structure bj (b:List (List Nat)) (is:List Int):Prop where
 hl:is.length=b.length
 v:∀q,q<b.length->0<=is.getD q 0/\is.getD q 0<=2
 s1:jK b is 1
 s2:jK b is 2
structure bT (b:List (List Nat)):Prop where
 B:ka b
 nl:∀i,i∉b.getD i []
section
variable {is:List Int}
theorem bj.ly(S:bj b is)(N:bT b)(ho:o=1\/o=2)(hp:p<b.length)(p0:is.getD p 0=0):cO b is o p:=by
 refine⟨N.B.bd,N.B.sym,N.nl,S.hl,hp,p0,⟨by omega,by omega,by omega⟩,fun q hq=>by have:=S.v q hq;omega,?_,?_⟩
 ·rcases ho with rfl|rfl
  ·exact S.s2
  ·exact S.s1
 ·rcases ho with rfl|rfl
  ·exact S.s1
  ·exact S.s2
theorem cO.std(A:cO b is o p)(ho:o=1\/o=2)(h:fk b is o p):bj b (lS b is o p):=by
 obtain⟨n1,n2⟩:=A.snd h;refine⟨by rw[lO];exact A.hl,fun q hq=>by have:=A.vals q hq;omega,?_,?_⟩
 ·rcases ho with rfl|rfl
  ·exact n1
  ·exact n2
 ·rcases ho with rfl|rfl
  ·exact n2
  ·exact n1
theorem rW(h:∀x∈F,x<n)(hy:y<n):∀x∈ins F y,x<n:=fun x hx=>by
 rcases bG.mp hx with hx|rfl
 ·exact h x hx
 ·exact hy
open Classical in
def gx(b:List (List Nat))(is:List Int)(o:Int)(p:Nat):W:=if is.getD p 0=0 then (if fk b is o p then .tup [wS (lS b is o p),wL (lT b is o p)] else .str "breath") else .str "lay"
theorem tV{l:List Int}(hl:l.length=m.length)(h:∀q,q<l.length->l.getD q 0=m.getD q 0):l=m:=by apply ext_getElem hl;intro i h1 h2;have:=h i h1;rw[getD_eq_getElem?_getD,getD_eq_getElem?_getD,getElem?_eq_getElem h1,getElem?_eq_getElem h2] at this;exact this
theorem B3{a:Sl->M W}(h:a sl ce=some (.ok (.cel k) c1))(g:c1[k]?=some (.dct (kvs F))):bE (qN a) sl ce (c1.set k (.fzd (kvs F))) (F.map nW):=by refine⟨.dky ((kvs F).map fun p=>kW p.1),by simp only[qN,aw,h,g],?_,fun _=>trivial⟩;simp only[Src.items,kvs,map_map];rfl
theorem yG(fu:Nat)(hfu:200<=fu)(N:bT b)(S:bj b is)(ho:o=1\/o=2)(hp:p<b.length):d_m fu [wB b,wS is,.int o,nW p] ce=some (.ok (gx b is o p) ce):=by
 have hz:=fI;have B:=N.B;have h36:=B.h36;have hb:=B.bd;have hl:=S.hl;have jp:=fun c=>iT (ce:=c) (is:=is) (p:=p) (by omega);have jpc:=jp ce;unfold d_m;refine dm [some (wB b),some (wS is),some (.int o),some (nW p),none,none,none,none,none,none,none] rfl ?_;refine bO (p:=!decide (is.getD p 0=0)) (ce':=ce) (by trivial) (fun q=>?_) (fun q=>?_)
 ·have q':¬is.getD p 0=0:=by simpa using q
  refine gI (bL (w:=.str "lay") (ce':=ce) aV ?_);refine ji ?_;unfold gx;rw[if_neg q'];exact dG (by simp only[aU])
 have p0:is.getD p 0=0:=by simpa using q
 have A:=S.ly N ho hp p0;refine cH ?_;refine aZ qh ?_;refine aS ?_;refine(?_:Run _ _ (ce++[C.dct (kvs [])]) _);have O0:=(Own.start ce).alloc (C.dct (kvs []));generalize hk4:ce.length=k4 at O0 ⊢;generalize ce++[C.dct (kvs [])]=c0 at O0 ⊢;refine aZ qh ?_;refine aS ?_;refine(?_:Run _ _ (c0++[C.dct (kvs [])]) _);have O1:=O0.alloc (C.dct (kvs []));generalize c0.length=k5 at O1 ⊢;generalize c0++[C.dct (kvs [])]=c1 at O1 ⊢;refine iI (zs:=b.getD p []) (en:=nW) (mO (by trivial))
  (fun d sl c=>∃F4 F5 x6 x7 x8 x9,sl=[some (wB b),some (wS is),some (.int o),some (nW p),some (.cel k4),some (.cel k5),x6,x7,x8,x9,none]/\Own ce c [(k5,C.dct (kvs F5)),(k4,C.dct (kvs F4))]/\F4.Nodup/\F5.Nodup/\(∀x∈F4,x<b.length)/\(∀x∈F5,x<b.length)
   /\ (∀x,x∈F4↔∃y∈d,is.getD y 0=3-o/\(bx b is (aL b (vS is) y)).erase p=[]/\x∈aL b (vS is) y)
   /\ ∀x,x∈F5↔(x∈d/\is.getD x 0=0)\/∃y∈d,is.getD y 0=o/\x∈(bx b is (aL b (vS is) y)).erase p)
  ⟨[],[],_,_,_,_,rfl,O1,by simp,by simp,by simp,by simp,by simp,by simp⟩ ?_ ?_
 ·rintro d y r sl c e hy ⟨F4,F5,x6,x7,x8,x9,rfl,O,nd4,nd5,lt4,lt5,m4,m5⟩;have hyb:=hb.get hy;have vy:=S.v y hyb;have jy:=fun c=>iT (ce:=c) (is:=is) (p:=y) (by omega);have jyc:=jy c;have g5:=O.g0;have gd5:=lH O.g0;have hs5:(kvs F5).length<sizeLine:=by rw[lh];have:=eS nd5 lt5;omega
  unfold An;refine aS ?_;refine fy (p:=decide (is.getD y 0=0)) (ce':=c) (by trivial) (fun q=>?_) (fun q=>?_)
  ·have y0:=of_decide_eq_true q;trivial;refine⟨F4,ins F5 y,_,_,_,_,rfl,by rw[m_];exact O.set0 _,nd4,mP nd5,lt4,rW lt5 hyb,fun x=>?_,fun x=>?_⟩
   ·rw[m4];constructor
    ·rintro⟨z,hz,h⟩;exact⟨z,mem_append_left _ hz,h⟩
    ·rintro⟨z,hz,h⟩;rcases mem_append.mp hz with hz|hz
     ·exact⟨z,hz,h⟩
     ·rw[mem_singleton] at hz;subst hz;exact absurd (h.1.symm.trans y0) (by omega)
   ·rw[bG,m5];constructor
    ·rintro((⟨h1,h2⟩|⟨z,hz,h⟩)|rfl)
     ·exact .inl ⟨mem_append_left _ h1,h2⟩
     ·exact .inr ⟨z,mem_append_left _ hz,h⟩
     ·exact .inl ⟨by simp,y0⟩
    ·rintro(⟨h1,h2⟩|⟨z,hz,h⟩)
     ·rcases mem_append.mp h1 with h1|h1
      ·exact .inl (.inl ⟨h1,h2⟩)
      ·rw[mem_singleton] at h1;exact .inr h1
     ·rcases mem_append.mp hz with hz|hz
      ·exact .inl (.inr ⟨z,hz,h⟩)
      ·rw[mem_singleton] at hz;subst hz;exact absurd (h.1.symm.trans y0) (by omega)
  ·have y0:=of_decide_eq_false q;obtain⟨Fy,e7,cm⟩:=Gv (ce:=c) fu hfu B hl hyb;have mF:∀x,x∈Fy↔x∈aL b (vS is) y:=fun x=>(cm.mem x).trans (iC hb hyb).symm;have eB:bx b is Fy=bx b is (aL b (vS is) y):=HK mF;have e8:=B8 (ce:=c) (is:=is) fu B hl cm.lt;rw[eB] at e8;have hpb:p∈bx b is (aL b (vS is) y):=(gG hb).mpr ⟨⟨y,kB hb hyb,A.sym _ _ hy⟩,p0⟩;have hlen:(bx b is (aL b (vS is) y)).length<=36:=by
    have h1:(bx b is (aL b (vS is) y)).Nodup:=List.Pairwise.filter _ (List.Pairwise.filter _ nodup_range);have h2:∀x∈bx b is (aL b (vS is) y),x<b.length:=fun x hx=>by
     obtain⟨⟨u,_,h⟩,_⟩:=(gG hb).mp hx;exact hb.get h
    exact le_trans (eS h1 h2) h36
   have hbl:∀x∈(bx b is (aL b (vS is) y)).erase p,x<b.length:=fun x hx=>by
    obtain⟨⟨u,_,h⟩,_⟩:=(gG hb).mp (mem_of_mem_erase hx);exact hb.get h
   refine aZ (w:=wL Fy) (ce':=c) (by trivial) ?_;refine aS ?_;refine aZ (w:=.cel c.length) (ce':=c++[.lst ((bx b is (aL b (vS is) y)).map nW)]) (by trivial) ?_;refine aS ?_;have O2:=O.alloc (C.lst ((bx b is (aL b (vS is) y)).map nW));generalize c.length=k8 at O2 ⊢;generalize c++[C.lst ((bx b is (aL b (vS is) y)).map nW)]=c2 at O2 ⊢;refine iU (w:=.non) (ce':=c2.set k8 (.lst (((bx b is (aL b (vS is) y)).erase p).map nW))) (gD (ws:=[nW p]) (by trivial) (fU O2.g0) (by trivial) (Dn O2.g0 hpb)) ?_;have O3:=O2.set0 (C.lst (((bx b is (aL b (vS is) y)).erase p).map nW));generalize c2.set k8 (C.lst (((bx b is (aL b (vS is) y)).erase p).map nW))=c3 at O3 ⊢;have jy3:=jy c3;refine fy (p:=decide (is.getD y 0=o)) (ce':=c3) (by trivial) (fun q2=>?_) (fun q2=>?_)
   ·have yo:=of_decide_eq_true q2;refine F_ (zs:=(bx b is (aL b (vS is) y)).erase p) (en:=nW) (k:=k8) (by trivial) O3.g0
     (fun d' sl c=>∃F5' x9,sl=[some (wB b),some (wS is),some (.int o),some (nW p),some (.cel k4),some (.cel k5),some (nW y),some (wL Fy),some (.cel k8),x9,none]/\Own ce c [(k8,C.lst (((bx b is (aL b (vS is) y)).erase p).map nW)),(k5,C.dct (kvs F5')),(k4,C.dct (kvs F4))]/\F5'.Nodup/\(∀x∈F5',x<b.length)/\∀x,x∈F5'↔x∈F5\/x∈d')
     ⟨F5,_,rfl,O3,nd5,lt5,by simp⟩ (fun d sl c h=>by obtain⟨_,_,_,O,_⟩:=h;exact O.g0) ?_ ?_
    ·rintro d' u r' sl c e' hu ⟨F5',x9,rfl,O,nd',lt',mem'⟩;have gd:=lH O.g1;have hs:(kvs F5').length<sizeLine:=by rw[lh];have:=eS nd' lt';omega
     unfold Ao;trivial;refine⟨ins F5' u,_,rfl,by rw[m_];exact O.set1 _,mP nd',rW lt' (hbl u hu),fun x=>?_⟩;rw[bG,mem',mem_append,mem_singleton,or_assoc]
    ·rintro sl c ⟨F5',x9,rfl,O,nd',lt',mem'⟩;refine⟨F4,F5',_,_,_,_,rfl,O.drop,nd4,nd',lt4,lt',fun x=>?_,fun x=>?_⟩
     ·rw[m4];constructor
      ·rintro⟨z,hz,h⟩;exact⟨z,mem_append_left _ hz,h⟩
      ·rintro⟨z,hz,h⟩;rcases mem_append.mp hz with hz|hz
       ·exact⟨z,hz,h⟩
       ·rw[mem_singleton] at hz;subst hz;exact absurd (h.1.symm.trans yo) (by omega)
     ·rw[mem',m5];constructor
      ·rintro((⟨h1,h2⟩|⟨z,hz,h⟩)|h)
       ·exact .inl ⟨mem_append_left _ h1,h2⟩
       ·exact .inr ⟨z,mem_append_left _ hz,h⟩
       ·exact .inr ⟨y,by simp,yo,h⟩
      ·rintro(⟨h1,h2⟩|⟨z,hz,h⟩)
       ·rcases mem_append.mp h1 with h1|h1
        ·exact .inl (.inl ⟨h1,h2⟩)
        ·rw[mem_singleton] at h1;subst h1;exact absurd h2 y0
       ·rcases mem_append.mp hz with hz|hz
        ·exact .inl (.inr ⟨z,hz,h⟩)
        ·rw[mem_singleton] at hz;subst hz;exact .inr h.2
   ·have yo:=of_decide_eq_false q2;have yh:is.getD y 0=3-o:=by omega
    have m5':∀x,((x∈d++[y]/\is.getD x 0=0)\/∃z∈d++[y],is.getD z 0=o/\x∈(bx b is (aL b (vS is) z)).erase p)↔x∈F5:=fun x=>by
     rw[m5];constructor
     ·rintro(⟨h1,h2⟩|⟨z,hz,h⟩)
      ·rcases mem_append.mp h1 with h1|h1
       ·exact .inl ⟨h1,h2⟩
       ·rw[mem_singleton] at h1;subst h1;exact absurd h2 y0
      ·rcases mem_append.mp hz with hz|hz
       ·exact .inr ⟨z,hz,h⟩
       ·rw[mem_singleton] at hz;subst hz;exact absurd h.1 yo
     ·rintro(⟨h1,h2⟩|⟨z,hz,h⟩)
      ·exact .inl ⟨mem_append_left _ h1,h2⟩
      ·exact .inr ⟨z,mem_append_left _ hz,h⟩
    have eqn:bD false c3 (.cel k8) (.lst [])=some (.bl (decide ((bx b is (aL b (vS is) y)).erase p=[]))):=(bo.cl O3.g0).eqN (m:=[]) (.fr _) false;refine fy (p:=decide ((bx b is (aL b (vS is) y)).erase p=[])) (ce':=c3) (by trivial) (fun q3=>?_) (fun q3=>?_)
    ·have e3:=of_decide_eq_true q3;refine lV (zs:=Fy) (en:=nW) (jc (by trivial))
      (fun d' sl c=>∃F4' x9,sl=[some (wB b),some (wS is),some (.int o),some (nW p),some (.cel k4),some (.cel k5),some (nW y),some (wL Fy),some (.cel k8),x9,none]/\Own ce c [(k8,C.lst (((bx b is (aL b (vS is) y)).erase p).map nW)),(k5,C.dct (kvs F5)),(k4,C.dct (kvs F4'))]/\F4'.Nodup/\(∀x∈F4',x<b.length)/\∀x,x∈F4'↔x∈F4\/x∈d')
      ⟨F4,_,rfl,O3,nd4,lt4,by simp⟩ ?_ ?_
     ·rintro d' u r' sl c e' hu ⟨F4',x9,rfl,O,nd',lt',mem'⟩;have gd:=lH O.g2;have hs:(kvs F4').length<sizeLine:=by rw[lh];have:=eS nd' lt';omega
      unfold Ap;trivial;refine⟨ins F4' u,_,rfl,by rw[m_];exact O.set2 _,mP nd',rW lt' (cm.lt u hu),fun x=>?_⟩;rw[bG,mem',mem_append,mem_singleton,or_assoc]
     ·rintro sl c ⟨F4',x9,rfl,O,nd',lt',mem'⟩;refine⟨F4',F5,_,_,_,_,rfl,O.drop,nd',nd5,lt',lt5,fun x=>?_,fun x=>(m5' x).symm⟩;rw[mem',m4,mF];constructor
      ·rintro(⟨z,hz,h⟩|h)
       ·exact⟨z,mem_append_left _ hz,h⟩
       ·exact⟨y,by simp,yh,e3,h⟩
      ·rintro⟨z,hz,h⟩;rcases mem_append.mp hz with hz|hz
       ·exact .inl ⟨z,hz,h⟩
       ·rw[mem_singleton] at hz;subst hz;exact .inr h.2.2
    ·have e3:=of_decide_eq_false q3;refine hJ ?_;refine⟨F4,F5,_,_,_,_,rfl,O3.drop,nd4,nd5,lt4,lt5,fun x=>?_,fun x=>(m5' x).symm⟩;rw[m4];constructor
     ·rintro⟨z,hz,h⟩;exact⟨z,mem_append_left _ hz,h⟩
     ·rintro⟨z,hz,h⟩;rcases mem_append.mp hz with hz|hz
      ·exact⟨z,hz,h⟩
      ·rw[mem_singleton] at hz;subst hz;exact absurd h.2.1 e3
 ·rintro sl c ⟨F4,F5,x6,x7,x8,x9,rfl,O,nd4,nd5,lt4,lt5,m4,m5⟩;have eT:∀x,x∈F4↔x∈lT b is o p:=fun x=>(m4 x).trans A.near.symm;have l5:=xA O.g0;have l4:=xA O.g1;have eFr:fk b is o p↔¬(F5.length=0/\F4.length=0):=by
   rw[A.brth];constructor
   ·rintro((⟨y,hy,y0⟩|⟨y,hy,ey,hne⟩)|h) ⟨h5,h4⟩
    ·have:y∈F5:=(m5 y).mpr (.inl ⟨hy,y0⟩);rw[length_eq_zero_iff.mp h5] at this;simp at this
    ·obtain⟨x,hx⟩:=exists_mem_of_ne_nil _ hne;have:x∈F5:=(m5 x).mpr (.inr ⟨y,hy,ey,hx⟩);rw[length_eq_zero_iff.mp h5] at this;simp at this
    ·obtain⟨x,hx⟩:=exists_mem_of_ne_nil _ h;have:=(eT x).mpr hx;rw[length_eq_zero_iff.mp h4] at this;simp at this
   ·intro h
    by_cases h4:F4=[]
    ·have h5:F5≠[]:=fun e=>h ⟨by rw[e];rfl,by rw[h4];rfl⟩;obtain⟨x,hx⟩:=exists_mem_of_ne_nil _ h5;left;rcases(m5 x).mp hx with ⟨h1,h2⟩|⟨y,hy,ey,hx⟩
     ·exact .inl ⟨x,h1,h2⟩
     ·exact .inr ⟨y,hy,ey,ne_nil_of_mem hx⟩
    ·obtain⟨x,hx⟩:=exists_mem_of_ne_nil _ h4;exact .inr (ne_nil_of_mem ((eT x).mp hx))
  have q5:ft (nW F5.length) (.int 0)=some (.bl (decide ((F5.length:Int)=0))):=oI (i:=F5.length) (j:=0) rfl rfl;have q4:ft (nW F4.length) (.int 0)=some (.bl (decide ((F4.length:Int)=0))):=oI (i:=F4.length) (j:=0) rfl rfl;refine bO (p:=decide ((F5.length:Int)=0)&&decide ((F4.length:Int)=0)) (ce':=c) (by trivial) (fun q=>?_) (fun q=>?_)
  ·simp only[and_eq_true,decide_eq_true_eq] at q;refine gI (bL (w:=.str "breath") (ce':=c) aV ?_);refine ji ?_;unfold gx;rw[if_pos p0,if_neg (fun h=>eFr.mp h (by omega))];subst hk4;exact O.finC (by simp only[aU])
  ·have fr:fk b is o p:=eFr.mpr fun h=>by
    rw[decide_eq_true (by omega),decide_eq_true (by omega)] at q;cases q
   refine cH ?_;have hlz:is.length<=sizeLine:=by omega
   refine aZ (w:=.cel c.length) (ce':=c++[.lst (is.map W.int)]) (bS (aI (by trivial) aK) (by rw[qb (xs:=is.map W.int) rfl,lQ (by rw[length_map];exact hlz)])) ?_;refine aS ?_;have O2:=O.alloc (C.lst (is.map W.int));generalize c.length=k10 at O2 ⊢;generalize c++[C.lst (is.map W.int)]=c2 at O2 ⊢;have O3:=O2.set2 (C.fzd (kvs F4));refine iI (zs:=F4) (en:=nW) (c1:=c2.set k4 (.fzd (kvs F4))) (B3 (by trivial) O2.g2)
    (fun d sl c=>∃is' x9,sl=[some (wB b),some (wS is),some (.int o),some (nW p),some (.cel k4),some (.cel k5),x6,x7,x8,x9,some (.cel k10)]/\Own ce c [(k10,C.lst (is'.map W.int)),(k5,C.dct (kvs F5)),(k4,C.fzd (kvs F4))]/\is'.length=b.length/\(∀q∈d,is'.getD q 0=0)/\∀q,q∉d->is'.getD q 0=is.getD q 0)
    ⟨is,_,rfl,O3,hl,by simp,fun _ _=>rfl⟩ ?_ ?_
   ·rintro d u r sl c e hu ⟨is',x9,rfl,O,l',z1,z2⟩;have hul:u<is'.length:=by rw[l'];exact lt4 u hu
    unfold Aq;refine aS ?_;refine y8 (w:=.int 0) (k:=k10) (ij:=u) (j:=u) (by trivial) (by trivial) (by trivial) O.g0 (tD (by rw[length_map];exact hul)) ?_;refine⟨is'.set u 0,_,rfl,by rw[map_set];exact O.set0 _,by rw[length_set];exact l',fun q hq=>?_,fun q hq=>?_⟩
    ·rw[lY];split
     ·rfl
     ·rename_i hn;rcases mem_append.mp hq with hq|hq
      ·exact z1 q hq
      ·rw[mem_singleton] at hq;exact absurd ⟨hq.symm,hul⟩ hn
    ·rw[lY,if_neg (fun x=>hq (by rw[<- x.1];simp))];exact z2 q fun x=>hq (mem_append_left _ x)
   ·rintro sl c ⟨is',x9,rfl,O,l',z1,z2⟩;have hpl:p<is'.length:=by omega
    refine FX (w:=.int o) (k:=k10) (ij:=p) (j:=p) (by trivial) (by trivial) (by trivial) O.g0 (tD (by rw[length_map];exact hpl)) ?_;have es:(is'.map W.int).set p (.int o)=(is'.set p o).map W.int:=by rw[map_set]
    have eL:is'.set p o=lS b is o p:=by
     refine tV (by rw[length_set,lO,l',hl]) fun q hq=>?_;rw[length_set,l'] at hq;rw[A.get hq,lY]
     by_cases e:q=p
     ·subst e;rw[if_pos ⟨rfl,hpl⟩,if_pos rfl]
     ·rw[if_neg (fun x=>e x.1.symm),if_neg e]
      by_cases ht:q∈lT b is o p
      ·rw[if_pos ht];exact z1 q ((eT q).mpr ht)
      ·rw[if_neg ht];exact z2 q fun h=>ht ((eT q).mp h)
    rw[es,eL];have O4:=O.set0 (C.lst ((lS b is o p).map W.int));generalize c.set k10 (C.lst ((lS b is o p).map W.int))=c4 at O4 ⊢;have lz:(lS b is o p).length<=sizeLine:=by rw[lO];omega
    have h4l:=eS nd4 lt4;have e4:cG F4=lT b is o p:=by rw[oX nd4 lt4];unfold lT;apply filter_congr;intro x hx;rw[Bool.eq_iff_iff,decide_eq_true_eq,eT,any_eq_true,A.tk];exact⟨fun⟨r,h1,h2⟩=>⟨r,h1,decide_eq_true h2⟩,fun⟨r,h1,h2⟩=>⟨r,h1,of_decide_eq_true h2⟩⟩
    have eW:gx b is o p=.tup [wS (lS b is o p),wL (lT b is o p)]:=by unfold gx;rw[if_pos p0,if_pos fr]
    have z22:2<=sizeLine:=by decide
    refine bL (w:=gx b is o p) (ce':=c4) ?_ ?_
    ·rw[eW];refine jf (ws:=[wS (lS b is o p),wL (lT b is o p)]) (aI (bS (aI (by trivial) aK) (rK O4.g0 lz)) (aI (bS (aI (bS (aI (by trivial) aK) ((zg (.fz O4.g2)).trans (iD (by rw[length_map];omega)))) aK) ?_) aK)) z22;show fi aQ [wL F4] c4=_;rw[ze (by omega),e4];exact iD (by rw[length_map,<- e4,nA];omega)
    ·rw[eW];subst hk4;exact O4.finC (by simp only[aU,cB];exact⟨bz _ _,aG _ _,trivial⟩)
end
section
variable {is:List Int}
theorem AX(b:List (List Nat)):bj b (b.map fun _=>0):=by
 have z:∀q,(b.map fun _=>(0:Int)).getD q 0=0:=fun q=>by
  rw[getD_eq_getElem?_getD,getElem?_map];cases b[q]?<;>rfl
 exact⟨by simp,fun q _=>by rw[z];omega,fun s _ e=>by rw[z] at e;omega,fun s _ e=>by rw[z] at e;omega⟩
theorem yF{x:PySem.Str}:eQ [.str x,.ty "tuple"] ce=some (.ok (.bl false) ce):=rfl
theorem Gu:eQ [.tup xs,.ty "tuple"] ce=some (.ok (.bl true) ce):=rfl
theorem Gs(fu:Nat)(hfu:200<=fu)(N:bT b)(cs:List Int):∃is,d_q fu [wB b,sW cs] ce=some (.ok (wS is) ce)/\bj b is:=by
 have hz:=fI;have B:=N.B;have h36:=B.h36;have pos:=B.pos
 suffices hs:∃w c',d_q fu [wB b,sW cs] ce=some (.ok w c')/\∃is,w=wS is/\c'=ce/\bj b is by
  obtain⟨w,c',e,is,rfl,rfl,h⟩:=hs;exact⟨is,e,h⟩
 have hbz:b.length<=sizeLine:=by omega
 unfold d_q;refine mL [some (wB b),some (sW cs),none,none,none,none,none,none] rfl ?_;refine aZ (w:=wS (b.map fun _=>0)) (ce':=ce) (bS (aI (v8 (zs:=b) (en:=wT) (f:=fun _=>0) (pD (by trivial)).is hbz (fun x hx=>aV)) aK) (v5 (by rw[length_map];exact hbz))) ?_;refine aS ?_;refine iI (zs:=cs) (en:=W.int) (jc (xs:=cs.map W.int) (by trivial))
  (fun d sl c=>∃is x3 x4 x5 x6 x7,sl=[some (wB b),some (sW cs),some (wS is),x3,x4,x5,x6,x7]/\c=ce/\bj b is)
  ⟨_,_,_,_,_,_,rfl,rfl,AX b⟩ ?_ ?_
 ·rintro d x r sl c e hx ⟨is,x3,x4,x5,x6,x7,rfl,rfl,S⟩;obtain⟨xs,e1,xl,hxs⟩:=uh (ce:=c) fu x (m:=3) (by omega);have i0:=iz (ns:=xs) (p:=0) (by omega) c (i:=0) rfl;have i1:=iz (ns:=xs) (p:=1) (by omega) c (i:=1) rfl;have i2:=iz (ns:=xs) (p:=2) (by omega) c (i:=2) rfl;generalize xs.getD 0 0=a0 at i0;generalize xs.getD 1 0=a1 at i1;generalize xs.getD 2 0=a2 at i2;have e1':d_k fu [.int x,.int 3] c=some (.ok (sW xs) c):=e1;unfold Al;refine aS ?_;refine aZ (w:=sW xs) (ce':=c) (cQ (ws:=[.int x,.int 3]) (by trivial) rfl e1') ?_;refine aS ?_;obtain⟨n,hn⟩:∃n:Nat,1+a2 % 3=n:=⟨(1+a2 % 3).toNat,by omega⟩
  have fa:cI (.int 1) (.int (a2 % 3))=some (nW n):=by rw[kA rfl rfl,hn];rfl
  have n1000:n<=1000:=by omega
  refine lV (zs:=List.range n) (en:=nW) (iP (by trivial) n1000)
   (fun d' sl c'=>∃is x5 x6 x7,sl=[some (wB b),some (sW cs),some (wS is),some (.int x),some (sW xs),x5,x6,x7]/\c'=c/\bj b is)
   ⟨is,_,_,_,rfl,rfl,S⟩ ?_ ?_
  ·rintro d' k r' sl c' e' hk ⟨is,x5,x6,x7,rfl,rfl,S⟩;have hk:=mem_range.mp hk;obtain⟨p,hp,ep⟩:=tH (a0+7*(k:Int)) (n:=b.length) pos;have e2:bW (.int (a0+7*(k:Int))) (nW b.length)=some (nW p):=pQ pos ep;have m7:fq 7 (k:Int):=.inl (by omega);obtain⟨o,ho⟩:∃o:Int,1+(a1+(k:Int)) % 2=o:=⟨_,rfl⟩
   have ho12:o=1\/o=2:=by omega
   have fo:cI (.int 1) (.int ((a1+(k:Int)) % 2))=some (.int o):=by rw[kA rfl rfl,ho]
   have e3:=yG (ce:=c') fu hfu N S ho12 hp;unfold Am;refine aS ?_;refine aZ (w:=nW p) (ce':=c') (by trivial) ?_;refine aS ?_;refine aZ (w:=gx b is o p) (ce':=c') (cQ (ws:=[wB b,wS is,.int o,nW p]) (by trivial) rfl e3) ?_;refine aS ?_;unfold gx;split
   ·rename_i p0;split
    ·rename_i fr;refine fy (p:=true) (ce':=c') (bA (bS (ws:=[.tup [wS (lS b is o p),wL (lT b is o p)],.ty "tuple"]) (by trivial) Gu)) (fun _=>?_) (fun q=>by cases q);have i3:aC c' (.tup [wS (lS b is o p),wL (lT b is o p)]) (.int 0)=some (wS (lS b is o p)):=fJ (xs:=[wS (lS b is o p),wL (lT b is o p)]) (j:=0) rfl rfl;refine tG (w:=wS (lS b is o p)) (ce':=c') (by trivial) ?_;exact⟨lS b is o p,_,_,_,rfl,rfl,(S.ly N ho12 hp p0).std ho12 fr⟩
    ·refine fy (p:=false) (ce':=c') (bA (bS (ws:=[.str "breath",.ty "tuple"]) (by trivial) yF)) (fun q=>by cases q) (fun _=>?_);refine hJ ?_;exact⟨is,_,_,_,rfl,rfl,S⟩
   ·refine fy (p:=false) (ce':=c') (bA (bS (ws:=[.str "lay",.ty "tuple"]) (by trivial) yF)) (fun q=>by cases q) (fun _=>?_);refine hJ ?_;exact⟨is,_,_,_,rfl,rfl,S⟩
  ·rintro sl c' ⟨is,x5,x6,x7,rfl,rfl,S⟩;exact⟨is,_,_,_,_,_,rfl,rfl,S⟩
 ·rintro sl c ⟨is,x3,x4,x5,x6,x7,rfl,rfl,S⟩;refine bL (w:=wS is) (ce':=c) (by trivial) ?_;exact⟨_,_,dG (by simp only[aU];exact bz _ _),is,rfl,rfl,S⟩
theorem tU(fu:Nat)(h:Int):d_p fu [.int h] ce=some (.ok (.int (3-h)) ce):=by unfold d_p;refine dm [some (.int h)] rfl ?_;refine bL (w:=.int (3-h)) (ce':=ce) (by trivial) (dG (by simp only[aU]))
theorem IK(fu:Nat){v:Int}(hw:bo ce w1 (pts.map nW))(hl:is.length<=36)(hp:∀q∈pts,q<is.length):∃is',d_ia fu [wS is,w1,.int v] ce=some (.ok (wS is') ce)/\is'.length=is.length/\(∀q∈pts,is'.getD q 0=v)/\∀q,q∉pts->is'.getD q 0=is.getD q 0:=by
 have hz:=fI
 suffices hs:∃w c',d_ia fu [wS is,w1,.int v] ce=some (.ok w c')/\∃is',w=wS is'/\c'=ce/\is'.length=is.length/\(∀q∈pts,is'.getD q 0=v)/\∀q,q∉pts->is'.getD q 0=is.getD q 0 by
  obtain⟨w,c',e,is',rfl,rfl,h⟩:=hs;exact⟨is',e,h⟩
 obtain⟨s,hs,hsi,_⟩:=hw.src;have hst:∀{c1:Ce} {l:List (Nat×C)},Own ce c1 l->s.Stays c1:=by
  intro c1 l h;obtain⟨t,rfl⟩:=h.cut;cases hw with
  | fr=>simp only[gA] at hs;cases hs;exact True.intro
  | cl g =>
   simp only[gA,g] at hs;cases hs;show(ce++t)[_]?=_;rw[getElem?_append_left (List.getElem?_eq_some_iff.mp g).1];exact g
 have hs':∀{c1:Ce} {l:List (Nat×C)},Own ce c1 l->gA c1 w1=some s:=by
  intro c1 l h;obtain⟨t,rfl⟩:=h.cut;cases hw with
  | fr=>exact hs
  | cl g =>
   simp only[gA,g] at hs ⊢;rw[getElem?_append_left (List.getElem?_eq_some_iff.mp g).1,g];exact hs
 unfold d_ia;refine mL [some (wS is),some w1,some (.int v),none,none] rfl ?_;refine aZ (w:=.cel ce.length) (ce':=ce++[.lst (is.map W.int)]) (bS (aI (by trivial) aK) (by rw[qb (xs:=is.map W.int) rfl,lQ (by rw[length_map];omega)])) ?_;refine aS ?_;have O0:=(Own.start ce).alloc (C.lst (is.map W.int));generalize hk:ce.length=k3 at O0 ⊢;generalize ce++[C.lst (is.map W.int)]=c0 at O0 ⊢;refine tE (xs:=pts) (en:=nW) (src:=s) (ce0:=c0) (nZ (au rfl) (hs' O0)) hsi
  (fun d sl c=>∃is' x4,sl=[some (wS is),some w1,some (.int v),some (.cel k3),x4]/\Own ce c [(k3,C.lst (is'.map W.int))]/\is'.length=is.length/\(∀q∈d,is'.getD q 0=v)/\∀q,q∉d->is'.getD q 0=is.getD q 0)
  ⟨is,_,rfl,O0,rfl,by simp,fun _ _=>rfl⟩ ?_ (fun sl c h=>by obtain⟨_,_,_,O,_⟩:=h;exact hst O) ?_
 ·rintro d u r sl c e hu ⟨is',x4,rfl,O,l',z1,z2⟩;refine⟨hst O,?_⟩;have hul:u<is'.length:=by rw[l'];exact hp u hu
  unfold zi;refine aS ?_;refine y8 (w:=.int v) (k:=k3) (ij:=u) (j:=u) (by trivial) (by trivial) (by trivial) O.g0 (tD (by rw[length_map];exact hul)) ?_;refine⟨is'.set u v,_,rfl,by rw[map_set];exact O.set0 _,by rw[length_set];exact l',fun q hq=>?_,fun q hq=>?_⟩
  ·rw[lY];split
   ·rfl
   ·rename_i hn;rcases mem_append.mp hq with hq|hq
    ·exact z1 q hq
    ·rw[mem_singleton] at hq;exact absurd ⟨hq.symm,hul⟩ hn
  ·rw[lY,if_neg (fun x=>hq (by rw[<- x.1];simp))];exact z2 q fun x=>hq (mem_append_left _ x)
 ·rintro sl c ⟨is',x4,rfl,O,l',z1,z2⟩;refine bL (w:=wS is') (ce':=c) (bS (aI (by trivial) aK) (rK O.g0 (by omega))) ?_;subst hk;exact⟨_,_,O.finC (by simp only[aU];exact bz _ _),is',rfl,rfl,l',z1,z2⟩
theorem zC(fu:Nat){v:Int}(hl:is.length<=36)(hp:∀q∈pts,q<is.length):∃is',d_ia fu [wS is,wL pts,.int v] ce=some (.ok (wS is') ce)/\is'.length=is.length/\(∀q∈pts,is'.getD q 0=v)/\∀q,q∉pts->is'.getD q 0=is.getD q 0:=IK fu (.fr _) hl hp
theorem B7(hb:Bd b):(iZ b vl).Nodup:=by unfold iZ;refine List.Pairwise.map _ ?_ (List.Pairwise.and_mem.mp (List.Pairwise.filter _ nodup_range));rintro s t ⟨hs,ht,hne⟩ e;obtain⟨s1,s2⟩:=mem_filter.mp hs;obtain⟨t1,t2⟩:=mem_filter.mp ht;have a:=ny (vl:=vl) hb (mem_range.mp s1) s2;rw[e,ny hb (mem_range.mp t1) t2] at a;exact hne a.symm
theorem sJ(hb:Bd b){c:List Nat}(h:c∈iZ b vl):0<c.length/\c.length<=b.length/\∀p∈c,p<b.length:=by obtain⟨s,hs,_,rfl⟩:=(lP hb).mp h;exact⟨length_pos_of_mem (kB hb hs),Eh,fun p hp=>cA hp⟩
theorem xy{c:List Nat}(h0:0<c.length)(h:∀p∈c,p<n):c.getD 0 0<n:=by rw[getD_eq_getElem?_getD,getElem?_eq_getElem h0];exact h _ (getElem_mem h0)
theorem w5{c:List Nat}(h0:0<c.length):aC ce (wL c) (.int 0)=some (nW (c.getD 0 0)):=wG (p:=0) h0
def gC(b:List (List Nat))(is:List Int):List (List Nat):=(iZ b (vS is)).filter fun c=>!decide (is.getD (c.getD 0 0) 0=0)
theorem xx(fu:Nat)(hfu:200<=fu)(B:ka b)(hl:is.length=b.length):d_ka fu [wB b,wS is] ce=some (.ok (.lst ((gC b is).map wL)) ce):=by
 have hz:=fI;have h36:=B.h36;have e1:=B_ (ce:=ce) fu hfu (vq hl) B.bd B.sym h36;have hzl:(iZ b (vS is)).length<=sizeLine:=by have:=xR (b:=b) (vl:=vS is);omega
 unfold d_ka;refine dm [some (wB b),some (wS is)] rfl ?_;refine bL (rn (zs:=iZ b (vS is)) (en:=wL) (t:=fun c=>!decide (is.getD (c.getD 0 0) 0=0)) (nY (cQ (ws:=[wB b,wS is]) (by trivial) rfl e1) (.fr _)) hzl (fun c hc=>?_)) ?_
 ·obtain⟨p0,_,p2⟩:=sJ B.bd hc;have hh:c.getD 0 0<is.length:=by rw[hl];exact xy p0 p2
  have i1:=w5 (ce:=ce) p0;have i2:=iT (ce:=ce) hh;trivial
 ·exact dG (by simp only[aU];exact p9 _ _)
theorem vL(fu:Nat)(B:ka b)(hl:is.length=b.length)(hr:∀p∈r,p<b.length):cX (d_fa fu) [wB b,wS is,wL r] ce=some (.ok (wL (bx b is r)) ce):=jU (zX fu B.bd B.h36 hl (.fr _) hr) (aG _ _)
theorem xw:gB ce (wL l)=some (!decide (l=[])):=by show some (!(l.map nW).isEmpty)=_;cases l<;>simp
theorem JC(fu:Nat)(hfu:200<=fu)(B:ka b)(hl:is.length=b.length){h:Int}(h0:h≠0):d_t fu [wB b,wS is,.int h] ce=some (.ok (.cel ce.length) (ce++[.lst (((List.range b.length).filter fun q=>(gC b is).any fun r=>decide (is.getD (r.getD 0 0) 0=h)&&(decide (bx b is r=[])&&decide (q∈r))).map nW)])):=by
 have hz:=fI;have h36:=B.h36;have e1:=xx (ce:=ce++[C.lst []]) fu hfu B hl;have rok:∀r∈gC b is,0<r.length/\r.length<=b.length/\∀p∈r,p<b.length:=fun r hr=>sJ B.bd (mem_filter.mp hr).1;have rnd:(gC b is).Nodup:=List.Pairwise.filter _ (B7 B.bd);have rnd1:∀r∈gC b is,r.Nodup:=fun r hr=>by
  obtain⟨s,hs,_,rfl⟩:=(lP B.bd).mp (mem_filter.mp hr).1;exact C7
 have rmeet:∀r∈gC b is,∀r'∈gC b is,∀q,q∈r->q∈r'->r=r':=fun r hr r' hr' q h1 h2=>by
  obtain⟨s,hs,_,rfl⟩:=(lP B.bd).mp (mem_filter.mp hr).1;obtain⟨t,ht,_,rfl⟩:=(lP B.bd).mp (mem_filter.mp hr').1;exact Gw B.bd B.sym hs ht h1 h2
 unfold d_t;refine dm [some (wB b),some (wS is),some (.int h),none,none] rfl ?_;refine aZ (gY aK (zero_le _)) ?_;refine aS ?_;have O0:=(Own.start ce).alloc (C.lst (([]:List Nat).map nW));refine(?_:Run _ _ (ce++[C.lst []]) _);generalize hk:ce.length=k3 at O0 ⊢;generalize hc0:ce++[C.lst []]=c0 at e1 ⊢;have O0:Own ce c0 [(k3,C.lst (([]:List Nat).map nW))]:=by rw[<- hc0];exact O0
 generalize gC b is=R at *;refine iI (zs:=R) (en:=wL) (c1:=c0) (jc (by trivial))
  (fun d sl c=>∃F x4,sl=[some (wB b),some (wS is),some (.int h),some (.cel k3),x4]/\Own ce c [(k3,C.lst (F.map nW))]/\F.Nodup/\(∀x∈F,x<b.length)/\∀x,x∈F↔∃r∈d,is.getD (r.getD 0 0) 0=h/\bx b is r=[]/\x∈r)
  ⟨[],_,rfl,O0,by simp,by simp,by simp⟩ ?_ ?_
 ·rintro d r rest sl c e hr ⟨F,x4,rfl,O,nd,lt,mem⟩;obtain⟨r0,r1,r2⟩:=rok r hr;have hh:r.getD 0 0<is.length:=by rw[hl];exact xy r0 r2
  have i1:=w5 (ce:=c) r0;have i2:=iT (ce:=c) hh;have e2:=vL (ce:=c) fu B hl r2;have t2:=xw (ce:=c) (l:=bx b is r);have hdr:∀r'∈d,r'≠r:=fun r' hr' e'=>by
   subst e';rw[<- e] at rnd;exact(nodup_append.mp rnd).2.2 r' hr' r' (by simp) rfl
  have hdR:∀r'∈d,r'∈R:=fun r' hr'=>by rw[<- e];exact mem_append_left _ hr'
  unfold Av;refine aS ?_;refine fy (p:=decide (is.getD (r.getD 0 0) 0=h)&&!(!decide (bx b is r=[]))) (ce':=c) (lR (by trivial) (fun _=>jj (pP (cQ (ws:=[wB b,wS is,wL r]) (by trivial) rfl e2) t2))) (fun q=>?_) (fun q=>?_)
  ·simp only[not_not,and_eq_true,decide_eq_true_eq] at q;have nd2:(F++r).Nodup:=by
    rw[nodup_append];refine⟨nd,?_,fun a ha b' hb' e'=>?_⟩
    ·exact rnd1 r hr
    ·subst e';obtain⟨r',hr',_,_,h3⟩:=(mem a).mp ha;exact hdr r' hr' (rmeet r' (hdR r' hr') r hr a h3 hb')
   have lt2:∀x∈F++r,x<b.length:=fun x hx=>by
    rcases mem_append.mp hx with hx|hx
    ·exact lt x hx
    ·exact r2 x hx
   have hl2:=eS nd2 lt2;rw[length_append] at hl2;refine kx (w:=.non) (ce':=c.set k3 (.lst (F.map nW++r.map nW))) (gD (ws:=[wL r]) (by trivial) (fU O.g0) (by trivial) (Ei O.g0 (ys:=r.map nW) rfl (by rw[length_map,length_map];omega))) ?_;refine⟨F++r,_,rfl,by rw[map_append];exact O.set0 _,nd2,lt2,fun x=>?_⟩;rw[mem_append,mem];constructor
   ·rintro(⟨r',hr',h⟩|hx)
    ·exact⟨r',mem_append_left _ hr',h⟩
    ·exact⟨r,by simp,q.1,q.2,hx⟩
   ·rintro⟨r',hr',h⟩;rcases mem_append.mp hr' with hr'|hr'
    ·exact .inl ⟨r',hr',h⟩
    ·rw[mem_singleton] at hr';subst hr';exact .inr h.2.2
  ·refine hJ ?_;refine⟨F,_,rfl,O,nd,lt,fun x=>?_⟩;rw[mem];constructor
   ·rintro⟨r',hr',h⟩;exact⟨r',mem_append_left _ hr',h⟩
   ·rintro⟨r',hr',h⟩;rcases mem_append.mp hr' with hr'|hr'
    ·exact⟨r',hr',h⟩
    ·rw[mem_singleton] at hr';subst hr';rw[decide_eq_true h.1,decide_eq_true h.2.1] at q;cases q
 ·rintro sl c ⟨F,x4,rfl,O,nd,lt,mem⟩;have hl':=eS nd lt;have es:cG F=(List.range b.length).filter fun q=>R.any fun r=>decide (is.getD (r.getD 0 0) 0=h)&&(decide (bx b is r=[])&&decide (q∈r)):=by rw[oX nd lt];apply filter_congr;intro x _;rw[Bool.eq_iff_iff,any_eq_true,decide_eq_true_eq,mem];simp only[and_eq_true,decide_eq_true_eq]
  rw[<- es];refine bL (bS (aI (by trivial) aK) ((Gb (mk:=fF) O.g0 (by omega)).trans (lQ (by rw[length_map,nA];omega)))) ?_;subst hk;exact(O.alloc _).finO (by simp only[eR];exact aG _ _)
end
variable {x4:Option W}
section
variable {is:List Int}
theorem Gr(fu:Nat)(hfu:200<=fu)(B:ka b)(hl:is.length=b.length)(hp:p<b.length):cX (d_ja fu) [wB b,wS is,nW p] ce=some (.ok (wL (aL b (vS is) p)) ce):=by refine jU ?_ (aG _ _);have e1:=Ab (ce:=ce) fu hfu (vq hl) B.bd B.h36 hp;unfold d_ja;refine dm [some (wB b),some (wS is),some (nW p)] rfl ?_;refine bL (cQ (ws:=[wB b,wS is,nW p]) (by trivial) rfl e1) ?_;exact((Own.start ce).alloc _).finO (by simp only[eR];exact aG _ _)
theorem cO.rows(A:cO b is o p):(r∈gC b (is.set p o)/\(is.set p o).getD (r.getD 0 0) 0=3-o)↔r∈j6 b (fN (is.set p o) [3-o]):=by
 have hT:∀{s},s∈fN (is.set p o) [3-o]↔s<b.length/\(is.set p o).getD s 0=3-o:=fun {s}=>by rw[bV,A.l1]
 have hc:∀{s},s<b.length->(is.set p o).getD s 0=3-o->aL b (vT (fN (is.set p o) [3-o])) s=aL b (vS (is.set p o)) s:=fun {s} hs es=>by
  have:=sL (is:=is.set p o) A.bd A.l1 hs;rwa [es] at this
 unfold gC;rw[mem_filter,lP A.bd];constructor
 ·rintro⟨⟨⟨s,hs,hm,rfl⟩,_⟩,q⟩;rw[ny A.bd hs hm] at q;have:=sr (T:=fN (is.set p o) [3-o]) A.bd A.sym (fun x hx=>(hT.mp hx).1) (hT.mpr ⟨hs,q⟩);rwa [hc hs q] at this
 ·intro h;obtain⟨s,hs,rfl⟩:=sm h;obtain⟨q1,q2⟩:=hT.mp hs;rw[hc q1 q2];obtain⟨m,h1,h2,h3⟩:=uc (vl:=vS (is.set p o)) A.bd A.sym q1;have hm:=cA h1;have em:(is.set p o).getD m 0=3-o:=(cx A.bd q1 h1).trans q2;rw[<- h3,ny A.bd hm h2,em];have h0:=A.H.h0;exact⟨⟨⟨m,hm,h2,rfl⟩,by simp[h0]⟩,rfl⟩
theorem cO.blist(A:cO b is o p):((List.range b.length).filter fun q=>(gC b (is.set p o)).any fun r=>decide ((is.set p o).getD (r.getD 0 0) 0=3-o)&&(decide (bx b (is.set p o) r=[])&&decide (q∈r)))=lT b is o p:=by
 unfold lT;apply filter_congr;intro q _;rw[Bool.eq_iff_iff,any_eq_true,any_eq_true];simp only[and_eq_true,decide_eq_true_eq];constructor
 ·rintro⟨r,h1,h2,h3,h4⟩;exact⟨r,mem_filter.mpr ⟨A.rows.mp ⟨h1,h2⟩,decide_eq_true h3⟩,h4⟩
 ·rintro⟨r,h1,h4⟩;obtain⟨h1,h3⟩:=mem_filter.mp h1;obtain⟨h1,h2⟩:=A.rows.mpr h1;exact⟨r,h1,h2,of_decide_eq_true h3,h4⟩
theorem vK(h:sl[i]?=some (some (nW p)))(hp:p<1000):[i].all (nH sl)=true:=by simp only[all_cons,all_nil,Bool.and_true,nH,h,nW];exact decide_eq_true (by simpa using hp)
theorem yE(fu:Nat)(hfu:200<=fu)(N:bT b)(S:bj b is)(ho:o=1\/o=2)(hp:p<b.length)(p0:is.getD p 0=0)(h:Run (aq (bb (fK (i_ (bc 3 (cX (d_fa fu)) (ag (aa 0) (ag (aa 6) (ag (bc 3 (cX (d_ja fu)) (ag (aa 0) (ag (aa 6) (ag (aa 3) ai)))) ai)))))) (gJ "NoBreath" [3]) bu) (aW (eK (ag (aa 6) (ag (aa 5) ai)))))
   [some (wB b),some (wS is),some (.int o),some (nW p),some (wS (is.set p o)),some (wL (lT b is o p)),some (wS (lS b is o p))] ce Q) :
  Run (aq (bb (dB (aD (bD true) (aD aC (aa 1) (aa 3)) (dC (.int 0)))) (gJ "NoLay" [3]) bu)
   (aq (aM 4 (bc 3 (d_ia fu) (ag (aa 1) (ag (dO (ag (aa 3) ai)) (ag (aa 2) ai)))))
   (aq (aM 5 (bc 3 (cX (d_t fu)) (ag (aa 0) (ag (aa 4) (ag (bc 1 (d_p fu) (ag (aa 2) ai)) ai)))))
   (aq (aM 6 (bc 3 (d_ia fu) (ag (aa 4) (ag (aa 5) (ag (dC (.int 0)) ai)))))
   (aq (bb (fK (i_ (bc 3 (cX (d_fa fu)) (ag (aa 0) (ag (aa 6) (ag (bc 3 (cX (d_ja fu)) (ag (aa 0) (ag (aa 6) (ag (aa 3) ai)))) ai)))))) (gJ "NoBreath" [3]) bu)
   (aW (eK (ag (aa 6) (ag (aa 5) ai)))))))))
   [some (wB b),some (wS is),some (.int o),some (nW p),none,none,none] ce Q:=by
 have hz:=fI;have A:=S.ly N ho hp p0;have B:=N.B;have h36:=B.h36;have hl:=S.hl;have jp:=iT (ce:=ce) (is:=is) (p:=p) (by omega);refine bO (p:=!decide (is.getD p 0=0)) (ce':=ce) (by trivial) (fun q=>by rw[decide_eq_true p0] at q;cases q) (fun _=>?_);refine cH ?_;obtain⟨is1,e1,l1,a1,b1⟩:=zC (ce:=ce) (is:=is) fu (pts:=[p]) (v:=o) (by omega) (fun q hq=>by rw[mem_singleton] at hq;subst hq;omega);have ei1:is1=is.set p o:=tV (by rw[l1,length_set]) fun q _=>by
  rw[A.s1]
  by_cases e:q=p
  ·rw[if_pos e,e];exact a1 p (by simp)
  ·rw[if_neg e];exact b1 q (by simpa using e)
 subst ei1;have z1:1<=sizeLine:=by decide
 refine aZ (w:=wS (is.set p o)) (ce':=ce) (cQ (ws:=[wS is,wL [p],.int o]) (aI (by trivial) (aI (gu (ws:=[nW p]) (by trivial) z1) (by trivial))) rfl e1) ?_;refine aS ?_;have e2:=JC (ce:=ce) (is:=is.set p o) fu hfu B A.l1 (h:=3-o) A.H.h0;rw[A.blist] at e2;have e2f:=jU e2 (aG _ _);have e3:=tU (ce:=ce) fu o;refine aZ (w:=wL (lT b is o p)) (ce':=ce) (cQ (ws:=[wB b,wS (is.set p o),.int (3-o)]) (by trivial) rfl e2f) ?_;refine aS ?_;obtain⟨is2,e4,l2,a2,b2⟩:=zC (ce:=ce) (is:=is.set p o) fu (pts:=lT b is o p) (v:=0) (by rw[A.l1];omega) (fun q hq=>by rw[A.l1];exact(A.tkh hq).1);have ei2:is2=lS b is o p:=tV (by rw[l2,length_set,lO]) fun q hq=>by
  rw[l2,A.l1] at hq;rw[A.get hq]
  by_cases e:q=p
  ·rw[if_pos e,b2 q (fun h=>(A.tkh h).2.2 e),A.s1,if_pos e]
  ·rw[if_neg e]
   by_cases ht:q∈lT b is o p
   ·rw[if_pos ht];exact a2 q ht
   ·rw[if_neg ht,b2 q ht,A.s1,if_neg e]
 subst ei2;refine aZ (w:=wS (lS b is o p)) (ce':=ce) (cQ (ws:=[wS (is.set p o),wL (lT b is o p),.int 0]) (by trivial) rfl e4) ?_;refine aS ?_;exact h
theorem xu(fu:Nat)(hfu:200<=fu)(N:bT b)(S:bj b is)(hp:p<b.length){x1 x2:Option W} :
  fK (i_ (bc 3 (cX (d_fa fu)) (ag (aa 0) (ag (aa 6) (ag (bc 3 (cX (d_ja fu)) (ag (aa 0) (ag (aa 6) (ag (aa 3) ai)))) ai))))) [some (wB b),x1,x2,some (nW p),x4,x5,some (wS (lS b is o p))] ce=some (.ok (!(!decide (bx b (lS b is o p) (aL b (vS (lS b is o p)) p)=[]))) ce):=by
 have hl:(lS b is o p).length=b.length:=by rw[lO];exact S.hl
 have e1:=Gr (ce:=ce) fu hfu N.B hl hp;have e2:=vL (ce:=ce) (is:=lS b is o p) fu N.B hl (r:=aL b (vS (lS b is o p)) p) (fun x hx=>cA hx);exact jj (pP (cQ (ws:=[wB b,wS (lS b is o p),wL (aL b (vS (lS b is o p)) p)]) (aI (by trivial) (aI (by trivial) (aI (cQ (ws:=[wB b,wS (lS b is o p),nW p]) (by trivial) rfl e1) aK))) rfl e2) xw)
theorem sI(fu:Nat)(S:bj b is)(h36:b.length<=36)(hp:p<b.length)(p0:¬is.getD p 0=0):d_la fu [wB b,wS is,.int o,nW p] ce=some (.ex ⟨"NoLay",none⟩ ce):=by have hl:=S.hl;have jp:=iT (ce:=ce) (is:=is) (p:=p) (by omega);unfold d_la;refine oU [some (wB b),some (wS is),some (.int o),some (nW p),none,none,none] rfl ?_;refine bO (p:=!decide (is.getD p 0=0)) (ce':=ce) (by trivial) (fun _=>um (vK (p:=p) rfl (by omega)) ⟨rfl,[],by simp⟩) (fun q=>by rw[decide_eq_false p0] at q;cases q)
theorem sH(fu:Nat)(hfu:200<=fu)(N:bT b)(S:bj b is)(ho:o=1\/o=2)(hp:p<b.length)(p0:is.getD p 0=0)(nf:¬fk b is o p):d_la fu [wB b,wS is,.int o,nW p] ce=some (.ex ⟨"NoBreath",none⟩ ce):=by have h36:=N.B.h36;have nf':bx b (lS b is o p) (aL b (vS (lS b is o p)) p)=[]:=Classical.byContradiction nf;have eb:=xu (ce:=ce) (o:=o) fu hfu N S hp (x1:=some (wS is)) (x2:=some (.int o)) (x4:=some (wS (is.set p o))) (x5:=some (wL (lT b is o p)));rw[decide_eq_true nf'] at eb;unfold d_la;refine oU [some (wB b),some (wS is),some (.int o),some (nW p),none,none,none] rfl ?_;refine yE fu hfu N S ho hp p0 ?_;exact bO (p:=!(!true)) (ce':=ce) eb (fun _=>um (vK (p:=p) rfl (by omega)) ⟨rfl,[],by simp⟩) (fun q=>by cases q)
end
section
variable {is:List Int}
theorem sG(fu:Nat)(hfu:200<=fu)(N:bT b)(S:bj b is)(ho:o=1\/o=2)(hp:p<b.length)(p0:is.getD p 0=0)(fr:fk b is o p):d_la fu [wB b,wS is,.int o,nW p] ce=some (.ok (.tup [wS (lS b is o p),wL (lT b is o p)]) ce):=by
 have z2:2<=sizeLine:=by decide
 have eb:=xu (ce:=ce) (o:=o) fu hfu N S hp (x1:=some (wS is)) (x2:=some (.int o)) (x4:=some (wS (is.set p o))) (x5:=some (wL (lT b is o p)));rw[decide_eq_false fr] at eb;unfold d_la;refine dm [some (wB b),some (wS is),some (.int o),some (nW p),none,none,none] rfl ?_;refine yE fu hfu N S ho hp p0 ?_;refine bO (p:=!(!false)) (ce':=ce) eb (fun q=>by cases q) (fun _=>?_);refine cH ?_;refine bL (jf (ws:=[wS (lS b is o p),wL (lT b is o p)]) (by trivial) z2) ?_;exact dG (by simp only[aU,cB];exact⟨bz _ _,aG _ _,trivial⟩)
end
theorem E8(L:LsOk n ls)(i:Nat):i∉(gy n ls).getD i []:=by
 rw[qo];split
 ·intro h;rcases(pZ L).mp ((qt _ _).mp h) with h|h<;>(have:=(L.lt _ h).1;simp only at this;omega)
 ·simp
inductive Pl:W->Prop
 | non:Pl .non
 | bl (b:Bool):Pl (.bl b)
 | int (i:Int):Pl (.int i)
 | str (x:PySem.Str):Pl (.str x)
 | lst (xs:List W):Pl (.lst xs)
 | tup (xs:List W):Pl (.tup xs)
def me:W->Bool
 | .int i=>decide (0<=i)&&decide (i<=2)
 | _=>false
def qM:W->Bool
 | .int _=>true
 | _=>false
section
variable {a b c:Sl->M W}
theorem Gq{i j k:Int}(ha:a sl ce=some (.ok (.int i) ce))(hb:b sl ce=some (.ok (.int j) ce))(hc:c sl ce=some (.ok (.int k) ce)):oF (fun _=>kL) (fun _=>kL) a b c sl ce=some (.ok (.bl (decide (i<=j)&&decide (j<=k))) ce):=by
 have h1:kL (.int i) (.int j)=some (.bl (decide (i<=j))):=rfl;have h2:kL (.int j) (.int k)=some (.bl (decide (j<=k))):=rfl;simp only[oF,aw,ha,hb,look,h1,map_some];cases decide (i<=j) with
 | true=>simp only[aw,look,hc,h2,map_some,Bool.true_and]
 | false=>simp only[VS.ret,Bool.false_and]
theorem Gp(fu:Nat){w:W}(h:Pl w):d_ba fu [w] ce=some (.ok (.bl (qM w)) ce):=by
 unfold d_ba;refine dm [some w] rfl ?_;refine bL (w:=.bl (qM w)) (ce':=ce) ?_ (dG (by simp only[aU]));cases h<;>first|rfl|(rename_i b;cases b<;>rfl)
theorem xq:bK [.tup xs] ce=some (.ok (nW xs.length) ce):=by simp[bK];rfl
theorem Gn(fu:Nat){bs:List W}(hx:∀w∈xs,Pl w)(hl:xs.length<=100):d_aa fu [.tup bs,.tup xs] ce=some (.ok (.bl (decide (xs.length=bs.length)&&xs.all me)) ce):=by
 have z:(100:Nat)<sizeLine:=by decide
 have i0:eQ [.tup xs,.ty "tuple"] ce=some (.ok (.bl true) ce):=rfl;have l1:=xq (ce:=ce) (xs:=xs);have l2:=xq (ce:=ce) (xs:=bs);have en:bD true ce (nW xs.length) (nW bs.length)=some (.bl (!decide (xs.length=bs.length))):=by have:=vC (ce:=ce) (i:=(xs.length:Int)) (j:=(bs.length:Int));rw[show decide ((xs.length:Int)=(bs.length:Int))=decide (xs.length=bs.length) by rw[Bool.eq_iff_iff,decide_eq_true_eq,decide_eq_true_eq];omega] at this;exact this
 unfold d_aa;refine dm [some (.tup bs),some (.tup xs)] rfl ?_;refine bO (p:=!true||!decide (xs.length=bs.length)) (ce':=ce) (by trivial) (fun q=>?_) (fun q=>?_)
 ·have q':¬xs.length=bs.length:=by simpa using q
  refine gI ?_;trivial;rw[decide_eq_false q'];exact ji (dG (by simp only[aU]))
 ·have q':xs.length=bs.length:=by simpa using q
  refine cH ?_;refine bL (bS (aI (v3 (zs:=xs) (en:=id) (f:=me) (by rw[map_id];exact(pD (by trivial)).is) (by omega) (fun w hw=>?_)) aK) sk) ?_
  ·have ew:=Gp (ce:=ce) fu (hx w hw);have hc:bc 1 (d_ba fu) (ag (aa 0) ai) (some (id w)::dE [] [some (.tup bs),some (.tup xs)]) ce=some (.ok (.bl (qM w)) ce):=cQ (ws:=[w]) (by trivial) rfl ew;cases hx w hw with
   | int i =>
    exact k7 (C5 hc (Gq aV (au rfl) aV))
   | _=>simp only[eJ,noX,mx,aw,hc,qM,VS.ret,me]
  ·rw[decide_eq_true q',Bool.true_and];refine ji ?_;have e:(xs.map me).all id=xs.all me:=by rw[all_map];rfl
   rw[e];exact dG (by simp only[aU])
end
def vJ(b:List (List Nat))(is:List Int):Prop:=∀p,p<b.length->is.getD p 0≠0->∃q∈aL b (vS is) p,∃y∈b.getD q [],is.getD y 0=0
section
variable {is:List Int}
open Classical in
theorem IW(fu:Nat)(hfu:200<=fu)(B:ka b)(hl:is.length=b.length):d_ca fu [wB b,wS is] ce=some (.ok (.bl (decide (vJ b is))) ce):=by
 have hz:=fI;have hb:=B.bd;have sym:=B.sym;have h36:=B.h36;have e1:=xx (ce:=ce) fu hfu B hl;have hrl:(gC b is).length<=b.length:=le_trans (length_filter_le _ _) xR;unfold d_ca;refine dm [some (wB b),some (wS is)] rfl ?_;refine bL (bS (aI (v3 (zs:=gC b is) (en:=wL) (f:=fun c=>decide ((0:Int)<((bx b is c).length:Int))) (by trivial) (by omega) (fun c hc=>?_)) aK) sk) ?_
 ·have hc':=(mem_filter.mp hc).1;obtain⟨h0,_,h2⟩:=sJ hb hc';have e2:=jU (zX (ce:=ce) fu hb h36 hl (bo.fr _) h2) (aG _ _);trivial
 ·refine(?_:finC ce ce (W.bl _)=_);rw[dG (by simp only[aU])];have:((gC b is).map fun c=>decide ((0:Int)<((bx b is c).length:Int))).all id=decide (vJ b is):=by
   rw[Bool.eq_iff_iff,decide_eq_true_eq,all_eq_true];simp only[mem_map,forall_exists_index,and_imp,forall_apply_eq_imp_iff₂,id,decide_eq_true_eq];have br:∀c:List Nat,(0:Int)<((bx b is c).length:Int)↔∃q∈c,∃y∈b.getD q [],is.getD y 0=0:=by
    intro c;have:(0:Int)<((bx b is c).length:Int)↔0<(bx b is c).length:=by omega
    rw[this,length_pos_iff_exists_mem];unfold bx iH;simp only[mem_filter,mem_range,any_eq_true,decide_eq_true_eq];constructor
    ·rintro⟨y,⟨_,q,hq,hy⟩,h⟩;exact⟨q,hq,y,hy,h⟩
    ·rintro⟨q,hq,y,hy,h⟩;exact⟨y,⟨hb.get hy,q,hq,hy⟩,h⟩
   simp only[br];constructor
   ·intro h p hp hv;obtain⟨m,h1,h2,h3⟩:=uc (vl:=vS is) hb sym hp;have hm:=cA h1;have hmem:aL b (vS is) m∈gC b is:=by refine mem_filter.mpr ⟨(lP hb).mpr ⟨m,hm,h2,rfl⟩,?_⟩;rw[ny hb hm h2];have:=cx hb hp h1;simp only[vS] at this;simp[-getD_eq_getElem?_getD,this,hv]
    have:=h _ hmem;rwa [h3] at this
   ·intro h c hc;obtain⟨hc1,hc2⟩:=mem_filter.mp hc;obtain⟨m,hm,h2,rfl⟩:=(lP hb).mp hc1;rw[ny hb hm h2] at hc2;exact h m hm (by simpa[-getD_eq_getElem?_getD] using hc2)
  rw[this]
end
theorem E7(l:List Int):∀x∈l.map W.int,Pl x:=fun x hx=>by
 obtain⟨i,_,rfl⟩:=mem_map.mp hx;exact .int i
section
variable {is:List Int}
theorem B6(fu:Nat){is:List Int}(hl:is.length=b.length)(h36:b.length<=36)(v:∀q,q<b.length->0<=is.getD q 0/\is.getD q 0<=2)(c:Ce):d_aa fu [wB b,wS is] c=some (.ok (.bl true) c):=by
 have e:=Gn (ce:=c) fu (bs:=b.map wT) (xs:=is.map W.int) (E7 is) (by rw[length_map];omega);have ha:(is.map W.int).all me=true:=by rw[all_eq_true];intro w hw;obtain⟨i,hi,rfl⟩:=mem_map.mp hw;obtain⟨j,hj,e⟩:=getElem_of_mem hi;have:=v j (by omega);rw[getD_eq_getElem?_getD,getElem?_eq_getElem hj,e] at this;simp only[getD_some] at this;simp[me,this]
 rw[length_map,length_map,ha,decide_eq_true hl] at e;exact e
open Classical in
theorem E6(fu:Nat)(hfu:200<=fu)(N:bT b)(S:bj b is)(c:Ce):d_ca fu [wB b,wS is] c=some (.ok (.bl true) c):=by
 rw[IW fu hfu N.B S.hl,decide_eq_true];intro p hp hv;have v:=S.v p hp;have k:∀h:Int,jK b is h->is.getD p 0=h->∃q∈aL b (vS is) p,∃y∈b.getD q [],is.getD y 0=0:=fun h H e=>by
  obtain⟨x,y,r,hy,e0⟩:=H p hp e;exact⟨x,(iC N.B.bd hp).mpr r,y,hy,e0⟩
 have:is.getD p 0=1\/is.getD p 0=2:=by omega
 rcases this with h|h
 ·exact k 1 S.s1 h
 ·exact k 2 S.s2 h
end
structure Gm where
 past:List (List Int)
 done:List (Option Nat)
 tk:List Nat
def oW:Option Nat->W
 | none=>.non
 | some p=>nW p
def rl(s:Bool):PySem.Str:=if s then "stones" else "turns"
def nI(b:List (List Nat))(s:Bool)(h:Int)(k:Nat):List (PySem.Str×W):=[("joined",wB b),("barring",.str (rl s)),("first",.int h),("past",.cel (k+1)),("done",.cel (k+2)),("takings",.cel (k+3))]
structure GC (c:Ce) (k:Nat) (b:List (List Nat)) (s:Bool) (h:Int) (g:Gm):Prop where
 i:c[k]?=some (.ins "Game" (nI b s h k))
 p:c[k+1]?=some (.lst (g.past.map wS))
 d:c[k+2]?=some (.lst (g.done.map oW))
 t:c[k+3]?=some (.lst (g.tk.map nW))
def cf(c:Ce)(k:Nat)(g:Gm):Ce:=((c.set (k+1) (.lst (g.past.map wS))).set (k+2) (.lst (g.done.map oW))).set (k+3) (.lst (g.tk.map nW))
theorem g6{o:C}(h:c[k]?=some o):k<c.length:=(List.getElem?_eq_some_iff.mp h).1
variable {g':Gm}
section
variable {l:Ce} {s:Bool} {h:Int} {g:Gm}
theorem tT:(cf c k g).length=c.length:=by simp[cf]
theorem sF(h1:j≠k+1)(h2:j≠k+2)(h3:j≠k+3):(cf c k g)[j]?=c[j]?:=by unfold cf;rw[getElem?_set_ne (Ne.symm h3),getElem?_set_ne (Ne.symm h2),getElem?_set_ne (Ne.symm h1)]
theorem GC.put(G:GC c k b s h g)(g':Gm):GC (cf c k g') k b s h g':=by
 have l1:=g6 G.p;have l2:=g6 G.d;have l3:=g6 G.t;refine⟨(sF (by omega) (by omega) (by omega)).trans G.i,?_,?_,?_⟩
 ·unfold cf;rw[getElem?_set_ne (by omega),getElem?_set_ne (by omega),getElem?_set_self l1]
 ·unfold cf;rw[getElem?_set_ne (by omega),getElem?_set_self (by simp;exact l2)]
 ·unfold cf;rw[getElem?_set_self (by simp;exact l3)]
theorem GC.app(G:GC c k b s h g)(l:Ce):GC (c++l) k b s h g :=
 ⟨by rw[getElem?_append_left (g6 G.i)];exact G.i,by rw[getElem?_append_left (g6 G.p)];exact G.p,by rw[getElem?_append_left (g6 G.d)];exact G.d,by rw[getElem?_append_left (g6 G.t)];exact G.t⟩
theorem tS(n:Nat):∀l:List (List Int),cB n (l.map wS)
 | []=>by simp only[map_nil,cB]
 | a::r=>by simp only[map_cons,cB,aU];exact⟨bz _ _,tS n r⟩
theorem nu(n:Nat):∀l:List (Option Nat),cB n (l.map oW)
 | []=>by simp only[map_nil,cB]
 | none::r=>by simp only[map_cons,cB,oW,aU];exact⟨trivial,nu n r⟩
 | some a::r=>by simp only[map_cons,cB,oW,nW,aU];exact⟨trivial,nu n r⟩
theorem sU{x:C}(h:gX c c')(hx:eR c.length x):gX c (c'.set k x):=by
 refine⟨by rw[length_set];exact h.1,fun j y hj e=>?_⟩
 by_cases hk:k=j
 ·subst hk;have hl:k<c'.length:=by have:=h.1;omega
  rw[getElem?_set_self hl] at e;cases e;exact .inr hx
 ·rw[getElem?_set_ne hk] at e;exact h.2 j y hj e
theorem Gk(c:Ce)(k:Nat)(g:Gm):gX c (cf c k g) :=
 sU (sU (sU (by have:=cU c [];rwa [append_nil] at this) (by simp only[eR];exact tS _ _)) (by simp only[eR];exact nu _ _)) (by simp only[eR];exact aG _ _)
theorem kN(h:gX c c')(l:Ce):gX c (c'++l):=by refine⟨by rw[length_append];have:=h.1;omega,fun j y hj e=>h.2 j y hj ?_⟩;rwa [getElem?_append_left (by have:=h.1;omega)] at e
theorem tR{w:W}(l:Ce)(hb:aU c.length w):finC c (cf c k g++l) w=some (.ok w (cf c k g)):=by unfold finC;rw[if_pos ⟨kN (Gk c k g) l,hb⟩,take_append_of_le_length (by rw[tT];exact le_refl _),take_of_length_le (by rw[tT];exact le_refl _)]
theorem GZ(G:GC c k b s h g):cf c k g=c:=by
 have st:∀(c:Ce) (j:Nat) (x:C),c[j]?=some x->c.set j x=c:=fun c j x e=>by
  apply ext_getElem?;intro i
  by_cases hi:j=i
  ·subst hi;rw[getElem?_set_self (g6 e),e]
  ·rw[getElem?_set_ne hi]
 unfold cf;rw[st _ _ _ G.p,st _ _ _ G.d,st _ _ _ G.t]
theorem Gj(g1 g2:Gm):cf (cf c k g1) k g2=cf c k g2:=by
 apply ext_getElem?;intro i;unfold cf;simp only[getElem?_set,length_set]
 repeat' split
 all_goals first|rfl|(exfalso;omega)
def cur(g:Gm):List Int:=g.past.getD (g.past.length-1) []
def hnd(h:Int)(m:Nat):Int:=if m % 2=0 then h else 3-h
def passed(g:Gm):Bool:=decide (g.done.drop (g.done.length-2)=[none,none])
def ended(g:Gm):Bool:=passed g||decide (300<=g.done.length)
def fP(g:Gm):W:=if passed g=true then .str "passed" else if 300<=g.done.length then .str "long" else .non
def bar(s:Bool)(h:Int)(n m:Nat):Bool:=s||decide (hnd h m=3-hnd h n)
def dg(s:Bool)(h:Int)(g:Gm)(is:List Int):Option Nat:=(List.range g.past.length).find? fun m=>decide (g.past.getD m []=is)&&bar s h g.done.length m
def push(g:Gm)(is:List Int)(w:Option Nat)(n:Nat):Gm:=⟨g.past++[is],g.done++[w],g.tk++[n]⟩
structure cZ (b:List (List Nat)) (g:Gm):Prop where
 n1:g.past.length=g.done.length+1
 nt:g.tk.length=g.done.length
 st:∀i,i<g.past.length->bj b (g.past.getD i [])
 lim:g.done.length<=300
theorem jO{h:Int}(h12:h=1\/h=2)(m:Nat):hnd h m=1\/hnd h m=2:=by unfold hnd;split<;>omega
theorem B2{h:Int}(m:Nat):hnd h (m+1)=3-hnd h m:=by
 unfold hnd
 by_cases q:m % 2=0
 ·rw[if_pos q,if_neg (by omega)]
 ·rw[if_neg q,if_pos (by omega)];omega
theorem sT{x:W}(hs:dj ce x=some xs)(h0:0<xs.length):aC ce x (.int (-1))=xs[xs.length-1]?:=by
 simp only[aC,hs,L2.atI];have:gm xs.length (-1)=some (xs.length-1):=by
  unfold gm;simp only[show ¬(0:Int)<=-1 by omega,if_false];split
  ·congr 1;omega
  ·omega
 rw[this];rfl
theorem Gi(G:GC c k b s h g){m:Nat}(hm:m<g.past.length):aC c (.cel (k+1)) (nW m)=some (wS (g.past.getD m [])):=by rw[ko (gK G.p),getElem?_map,getD_eq_getElem?_getD,getElem?_eq_getElem hm];rfl
theorem GY(G:GC c k b s h g):bK [.cel (k+1)] c=some (.ok (nW g.past.length) c):=by simp only[bK,gK G.p,length_map];rfl
theorem zB(G:GC c k b s h g):bK [.cel (k+2)] c=some (.ok (nW g.done.length) c):=by simp only[bK,gK G.d,length_map];rfl
theorem oQ(fu:Nat)(G:GC c k b s h g)(O:cZ b g):d_s fu [.cel k] c=some (.ok (wS (cur g)) c):=by
 have hn:=O.n1;have e:aC c (.cel (k+1)) (.int (-1))=some (wS (cur g)):=by rw[sT (gK G.p) (by rw[length_map];omega),length_map,getElem?_map,cur,getD_eq_getElem?_getD,getElem?_eq_getElem (by omega)];rfl
 unfold d_s;refine dm [some (.cel k)] rfl ?_;exact bL (w:=wS (cur g)) (ce':=c) (bN (eV (au rfl) G.i rfl) (dQ aV rfl) e) (dG (by simp only[aU];exact bz _ _))
theorem B1{l:List (Option Nat)}(hl:l.length<=2):bD false c (.lst (l.map oW)) (.lst [.non,.non])=some (.bl (decide (l=[none,none]))):=by
 match l,hl with
 | [],_=>rfl
 | [none],_=>rfl
 | [some x],_=>rfl
 | [none,none],_=>rfl
 | [none,some y],_=>rfl
 | [some x,none],_=>rfl
 | [some x,some y],_=>rfl
theorem oP(fu:Nat)(G:GC c k b s h g)(O:cZ b g):d_r fu [.cel k] c=some (.ok (fP g) c):=by
 have hz:(1000:Nat)<sizeLine:=by decide
 have lim:=O.lim;have s1:fO aQ (cW "Game" "done" (aa 0)) (dW (c7 jb (dC (.int 2)))) iF [some (.cel k)] c=some (.ok (.lst ((g.done.drop (g.done.length-2)).map oW)) c):=by
  have:=pY (sl:=[some (.cel k)]) (ce:=c) (a:=cW "Game" "done" (aa 0)) (x:=.cel (k+2)) (xs:=g.done.map oW) (dl:=dW (c7 jb (dC (.int 2)))) (lo:=some (-2)) (dh:=iF) (hi:=none) (eV (au rfl) G.i rfl) (m9 (dQ aV rfl)) rfl (by simp only[bU,G.d]) (by rw[length_map];omega);rw[this];have e:HT.sIx (g.done.map oW).length 0 (some (-2))=g.done.length-2:=by simp only[HT.sIx,length_map];rw[if_pos (by omega)];omega
  unfold kd;rw[e,show HT.sIx (g.done.map oW).length (g.done.map oW).length none=g.done.length from by simp[HT.sIx],take_of_length_le (by simp),map_drop]
 have e1:=B1 (c:=c) (l:=g.done.drop (g.done.length-2)) (by rw[length_drop];omega);unfold d_r;refine dm [some (.cel k)] rfl ?_;refine bO (p:=passed g) (ce':=c) (bA (bN s1 (gu (ws:=[.non,.non]) (by trivial) (by decide)) e1)) (fun q=>?_) (fun q=>cH ?_)
 ·refine gI (bL (w:=.str "passed") (ce':=c) aV ?_);rw[show fP g=.str "passed" from if_pos q];exact dG (by simp only[aU])
 refine bO (p:=decide ((g.done.length:Int)≥300)) (ce':=c) (bA (fZ (x:=nW g.done.length) (bS (ws:=[.cel (k+2)]) (aI (eV (au rfl) G.i rfl) aK) (zB G)) aV rfl)) (fun q2=>?_) (fun q2=>cH ?_)
 ·refine gI (bL (w:=.str "long") (ce':=c) aV ?_);have:300<=g.done.length:=by have:=of_decide_eq_true q2;omega
  rw[show fP g=.str "long" by unfold fP;rw[if_neg (by rw[q];simp),if_pos this]];exact dG (by simp only[aU])
 ·refine bL (w:=.non) (ce':=c) aV ?_;have:¬300<=g.done.length:=by have:=of_decide_eq_false q2;omega
  rw[show fP g=.non by unfold fP;rw[if_neg (by rw[q];simp),if_neg this]];exact dG (by simp only[aU])
theorem lX(g:Gm):bZ (fP g)=!ended g:=by
 unfold fP ended;cases passed g with
 | true=>rfl
 | false =>
  by_cases q:300<=g.done.length
  ·rw[if_neg (by simp),if_pos q,decide_eq_true q];rfl
  ·rw[if_neg (by simp),if_neg q,decide_eq_false q];rfl
theorem Aa(fu:Nat)(G:GC c k b s h g)(m:Nat):d_i fu [.cel k,nW m] c=some (.ok (.int (hnd h m)) c):=by
 have e1:bW (nW m) (.int 2)=some (nW (m % 2)):=pQ (k:=(m:Int)) (n:=2) (by omega) (by omega);have e2:=qa c (((m % 2:Nat)):Int) 0 false;have e3:=tU (ce:=c) fu h;unfold d_i;refine dm [some (.cel k),some (nW m)] rfl ?_;refine bL (wH (p:=decide ((((m % 2:Nat)):Int)=0)) (c1:=c) (x:=.int h) (y:=.int (3-h)) (bA (bN (fZ (au rfl) aV e1) aV e2)) (fun _=>eV (au rfl) G.i rfl) (fun _=>cQ (ws:=[.int h]) (aI (eV (au rfl) G.i rfl) aK) rfl e3)) ?_;have:(if decide ((((m % 2:Nat)):Int)=0)=true then W.int h else .int (3-h))=.int (hnd h m):=by
  unfold hnd
  by_cases q:m % 2=0
  ·rw[if_pos q,if_pos (decide_eq_true (by omega))]
  ·rw[if_neg q,if_neg (by rw[decide_eq_false (by omega)];simp)]
 rw[this];exact dG (by simp only[aU])
theorem qm(fu:Nat)(G:GC c k b s h g):d_w fu [.cel k] c=some (.ok (.int (hnd h g.done.length)) c):=by have e:=Aa fu G g.done.length;unfold d_w;refine dm [some (.cel k)] rfl ?_;exact bL (dP (ws:=[nW g.done.length]) (au rfl) G.i rfl (aI (bS (ws:=[.cel (k+2)]) (aI (eV (au rfl) G.i rfl) aK) (zB G)) aK) rfl e) (dG (by simp only[aU]))
theorem B0{a:Sl->M W}{p q:Bool}(ha:a sl ce=some (.ok (.bl p) c1))(hb:p=false->d sl c1=some (.ok (.bl q) c1)):pb a d sl ce=some (.ok (.bl (p||q)) c1):=by
 cases p with
 | true=>simp only[pb,aw,ha,VS.ret,Bool.true_or]
 | false=>simp only[pb,aw,ha,hb rfl,Bool.false_or]
theorem E5(fu:Nat)(G:GC c k b s h g)(m:Nat):d_a fu [.cel k,nW m] c=some (.ok (.bl (bar s h g.done.length m)) c):=by
 have e1:=Aa fu G m;have e2:=qm fu G;have e3:=tU (ce:=c) fu (hnd h g.done.length);have e4:=qa c (hnd h m) (3-hnd h g.done.length) false;have e5:bD false c (.str (rl s)) (.str "stones")=some (.bl s):=by cases s<;>rfl
 unfold d_a;refine dm [some (.cel k),some (nW m)] rfl ?_;exact bL (w:=.bl (bar s h g.done.length m)) (B0 (bN (eV (au rfl) G.i rfl) aV e5) (fun _=>bN (dP (ws:=[nW m]) (au rfl) G.i rfl (aI (au rfl) aK) rfl e1) (cQ (ws:=[.int (hnd h g.done.length)]) (aI (dP (ws:=[]) (au rfl) G.i rfl aK rfl e2) aK) rfl e3) e4)) (dG (by simp only[aU]))
theorem xp(fu:Nat)(G:GC c k b s h g)(O:cZ b g)(is:List Int):d_g fu [.cel k,wS is] c=some (.ok (oW (dg s h g is)) c):=by
 have hz:(1000:Nat)<sizeLine:=by decide
 have lim:=O.lim;have n1:=O.n1;unfold d_g;refine dm [some (.cel k),some (wS is),none] rfl ?_;refine zm (zs:=List.range g.past.length) (en:=nW) (c1:=c) (iP (n:=g.past.length) (aI (bS (ws:=[.cel (k+1)]) (aI (eV (au rfl) G.i rfl) aK) (GY G)) aK) (by omega))
  (fun d sl c'=>∃x2,sl=[some (.cel k),some (wS is),x2]/\c'=c/\∀m∈d,(decide (g.past.getD m []=is)&&bar s h g.done.length m)=false) (fun w c'=>c'=c/\w=oW (dg s h g is)) ⟨_,rfl,rfl,by simp⟩ ?_ ?_ ?_
 ·rintro d m r sl c' e hm ⟨x2,rfl,rfl,hd⟩;have hm':=mem_range.mp hm;have i1:=Gi G hm';have q1:=vA (ce:=c') false (g.past.getD m []) is;have q2:=E5 fu G m;unfold AI;refine aS ?_;refine fy (p:=decide (g.past.getD m []=is)&&bar s h g.done.length m) (ce':=c') (lR (bA (bN (bN (eV (au rfl) G.i rfl) (au rfl) i1) (au rfl) q1)) (fun _=>bA (dP (ws:=[nW m]) (au rfl) G.i rfl (aI (au rfl) aK) rfl q2))) (fun q=>?_) (fun q=>?_)
  ·refine bL (w:=nW m) (ce':=c') (au rfl) ⟨rfl,?_⟩;have:dg s h g is=some m:=by unfold dg;rw[find?_eq_some_iff_append];exact⟨q,d,r,e.symm,fun a ha=>by rw[hd a ha];rfl⟩
   rw[this];rfl
  ·refine hJ ⟨_,rfl,rfl,fun x hx=>?_⟩;rcases mem_append.mp hx with hx|hx
   ·exact hd x hx
   ·rw[mem_singleton.mp hx];exact q
 ·rintro w sl c' ⟨rfl,rfl⟩;refine ji (dG ?_);cases dg s h g is<;>simp only[oW,nW,aU]
 ·rintro sl c' ⟨x2,rfl,rfl,hd⟩;refine bL (w:=.non) (ce':=c') aV ?_;have:dg s h g is=none:=by
   unfold dg;rw[find?_eq_none];exact fun m hm=>by rw[hd m hm];simp
  rw[this];exact dG (by simp only[aU])
end
section
variable {l:Ce} {s:Bool} {h:Int} {g:Gm}
def dN(b:List (List Nat))(s:Bool)(h:Int)(g:Gm)(w:Option Nat)(g':Gm):Prop:=ended g=false/\match w with
 | none=>g'=push g (cur g) none 0
 | some p=>p<b.length/\(cur g).getD p 0=0/\fk b (cur g) (hnd h g.done.length) p/\dg s h g (lS b (cur g) (hnd h g.done.length) p)=none/\g'=push g (lS b (cur g) (hnd h g.done.length) p) (some p) (lT b (cur g) (hnd h g.done.length) p).length
theorem cZ.cur(O:cZ b g):bj b (cur g):=O.st _ (by have:=O.n1;omega)
theorem yD(O:cZ b g)(he:ended g=false){is:List Int}(S:bj b is)(w:Option Nat)(n:Nat):cZ b (push g is w n):=by
 have n1:=O.n1;have nt:=O.nt;have:¬300<=g.done.length:=by unfold ended at he;rw[or_eq_false_iff] at he;exact of_decide_eq_false he.2
 refine⟨by simp[push,n1],by simp[push,nt],fun i hi=>?_,by simp[push];omega⟩;simp only[push,length_append,length_cons,length_nil] at hi
 by_cases q:i<g.past.length
 ·have:=O.st i q;simp only[push,getD_eq_getElem?_getD,getElem?_append_left q] at this ⊢;exact this
 ·have:i=g.past.length:=by omega
  subst this;simp only[push,getD_eq_getElem?_getD,getElem?_append_right (le_refl _),sub_self,getElem?_cons_zero,getD_some];exact S
theorem dN.ok{w}(D:dN b s h g w g')(O:cZ b g)(N:bT b)(h12:h=1\/h=2):cZ b g':=by
 obtain⟨he,D⟩:=D;cases w with
 | none=>subst D;exact yD O he O.cur _ _
 | some p =>
  obtain⟨hp,p0,fr,_,rfl⟩:=D;exact yD O he ((O.cur.ly N (jO h12 _) hp p0).std (jO h12 _) fr) _ _
theorem zA(fu:Nat)(G:GC c k b s h g)(O:cZ b g)(w:W)(he:ended g=true):d_v fu [.cel k,w] c=some (.ex ⟨"Over",none⟩ c):=by
 have e1:=oP fu G O;have hn:fL (fP g)=some (.bl true):=by simp only[fL,lX,he];rfl
 unfold d_v;refine oU [some (.cel k),some w,none,none,none,none] rfl ?_;exact bO (p:=true) (ce':=c) (bA (dQ (dP (ws:=[]) (au rfl) G.i rfl aK rfl e1) hn)) (fun _=>um rfl ⟨rfl,[],by simp⟩) (fun q=>by cases q)
theorem yC(G:GC c k b s h g)(O:cZ b g){is:List Int}{w:Option Nat}{Q:VS.O->Prop}(q:Q (.go .nx [some (.cel k),some (oW w),some (wS is),some (nW n),x4,x5] (cf c k (push g is w n)))) :
  Run (aq (b_ (cR cP (cW "Game" "past" (aa 0)) (ag (aa 2) ai))) (aq (b_ (cR cP (cW "Game" "done" (aa 0)) (ag (aa 1) ai))) (b_ (cR cP (cW "Game" "takings" (aa 0)) (ag (aa 3) ai)))))
   [some (.cel k),some (oW w),some (wS is),some (nW n),x4,x5] c Q:=by
 have hz:(1000:Nat)<sizeLine:=by decide
 have lim:=O.lim;have n1:=O.n1;have nt:=O.nt;have l1:=g6 G.p;have l2:=g6 G.d;have l3:=g6 G.t;have a1:=je (y:=wS is) G.p (by rw[length_map];omega);have G1i:(c.set (k+1) (.lst (g.past.map wS++[wS is])))[k]?=some (.ins "Game" (nI b s h k)):=by rw[getElem?_set_ne (by omega)];exact G.i
 have G1d:(c.set (k+1) (.lst (g.past.map wS++[wS is])))[k+2]?=some (.lst (g.done.map oW)):=by rw[getElem?_set_ne (by omega)];exact G.d
 have a2:=je (y:=oW w) G1d (by rw[length_map];omega);have G2i:((c.set (k+1) (.lst (g.past.map wS++[wS is]))).set (k+2) (.lst (g.done.map oW++[oW w])))[k]?=some (.ins "Game" (nI b s h k)):=by rw[getElem?_set_ne (by omega)];exact G1i
 have G2t:((c.set (k+1) (.lst (g.past.map wS++[wS is]))).set (k+2) (.lst (g.done.map oW++[oW w])))[k+3]?=some (.lst (g.tk.map nW)):=by rw[getElem?_set_ne (by omega),getElem?_set_ne (by omega)];exact G.t
 have a3:=je (y:=nW n) G2t (by rw[length_map];omega);refine iU (gD (ws:=[wS is]) (eV (au rfl) G.i rfl) (by simp only[bU,G.p];rfl) (aI (au rfl) aK) a1) ?_;refine iU (gD (ws:=[oW w]) (eV (au rfl) G1i rfl) (by simp only[bU,G1d];rfl) (aI (au rfl) aK) a2) ?_;refine kx (gD (ws:=[nW n]) (eV (au rfl) G2i rfl) (by simp only[bU,G2t];rfl) (aI (au rfl) aK) a3) ?_;have:cf c k (push g is w n)=((c.set (k+1) (.lst (g.past.map wS++[wS is]))).set (k+2) (.lst (g.done.map oW++[oW w]))).set (k+3) (.lst (g.tk.map nW++[nW n])):=by simp only[cf,push,map_append,map_cons,map_nil]
 rw[<- this];exact q
theorem yB{is:List Int}{w:Option Nat}:∃sl' c',VS.O.go .nx sl (cf c k (push g is w n))=.go .nx sl' c'/\finC c c' .non=some (.ok .non (cf c k (push g is w n))) :=
 ⟨_,_,rfl,by have:=tR (c:=c) (k:=k) (g:=push g is w n) (w:=.non) [] (by simp only[aU]);rwa [append_nil] at this⟩
theorem zz(fu:Nat)(G:GC c k b s h g)(O:cZ b g)(he:ended g=false):d_v fu [.cel k,.non] c=some (.ok .non (cf c k (push g (cur g) none 0))):=by
 have e1:=oP fu G O;have e2:=oQ fu G O;have hn:fL (fP g)=some (.bl false):=by simp only[fL,lX,he];rfl
 unfold d_v;refine pG [some (.cel k),some .non,none,none,none,none] rfl ?_;refine bO (p:=false) (ce':=c) (bA (dQ (dP (ws:=[]) (au rfl) G.i rfl aK rfl e1) hn)) (fun q=>by cases q) (fun _=>cH ?_);refine aZ (w:=wS (cur g)) (ce':=c) (dP (ws:=[]) (au rfl) G.i rfl aK rfl e2) ?_;refine aS ?_;refine aZ (w:=nW 0) (ce':=c) aV ?_;refine aS ?_;refine bO (p:=false) (ce':=c) (bA (dQ (au rfl) rfl)) (fun q=>by cases q) (fun _=>cH ?_);exact yC (w:=none) G O yB
theorem GS{e:Sl->M W}{x:cV}{a:DS}{Q:VS.O->Prop}(h:e sl ce=some (.ex x c1))(q:Q (.ex x c1)):Run (aq (aM i e) a) sl ce Q:=sQ ⟨.ex x c1,by simp only[aM,cL,h],q⟩
theorem qk(fu:Nat)(G:GC c k b s h g)(O:cZ b g)(he:ended g=false){nm:PySem.Str}(hl:d_la fu [wB b,wS (cur g),.int (hnd h g.done.length),nW p] c=some (.ex ⟨nm,none⟩ c)):d_v fu [.cel k,nW p] c=some (.ex ⟨nm,none⟩ c):=by
 have e1:=oP fu G O;have e2:=oQ fu G O;have e3:=qm fu G;have hn:fL (fP g)=some (.bl false):=by simp only[fL,lX,he];rfl
 unfold d_v;refine oU [some (.cel k),some (nW p),none,none,none,none] rfl ?_;refine bO (p:=false) (ce':=c) (bA (dQ (dP (ws:=[]) (au rfl) G.i rfl aK rfl e1) hn)) (fun q=>by cases q) (fun _=>cH ?_);refine aZ (w:=wS (cur g)) (ce':=c) (dP (ws:=[]) (au rfl) G.i rfl aK rfl e2) ?_;refine aS ?_;refine aZ (w:=nW 0) (ce':=c) aV ?_;refine aS ?_;refine bO (p:=true) (ce':=c) (bA (dQ (au rfl) rfl)) (fun _=>?_) (fun q=>by cases q);refine gZ (GS (FL (ws:=[wB b,wS (cur g),.int (hnd h g.done.length),nW p]) (c1:=c) (aI (eV (au rfl) G.i rfl) (aI (au rfl) (aI (dP (ws:=[]) (au rfl) G.i rfl aK rfl e3) (aI (au rfl) aK)))) rfl hl) ⟨rfl,[],by simp⟩)
theorem IJ{n:Int}{x f:PySem.Str}{Q:VS.O->Prop}(h:sl[i]?=some (some (.int n)))(hn:n.natAbs<1000)(q:Q (.ex ⟨x,some (f,.int n)⟩ ce)):Run (nq x f i) sl ce Q:=⟨_,by unfold nq;rw[h];dsimp only;rw[if_pos hn],q⟩
theorem xo(fu:Nat)(G:GC c k b s h g)(O:cZ b g)(he:ended g=false){is:List Int}{t:List Nat}(hl:d_la fu [wB b,wS (cur g),.int (hnd h g.done.length),nW p] c=some (.ok (.tup [wS is,wL t]) c)){Q:VS.O->Prop}(q1:∀m:Nat,dg s h g is=some m->Q (.ex ⟨"Again",some ("number",.int m)⟩ c))(q2:dg s h g is=none->∀sl,Q (.go .nx sl (cf c k (push g is (some p) t.length)))) :
  Run (aq (bb (dB (c7 fL (cC "Game" "ended" 1 (d_r fu) (aa 0) ai))) (gJ "Over" []) bu)
 (aq (aM 2 (cC "Game" "stand" 1 (d_s fu) (aa 0) ai))
 (aq (aM 3 (dC (.int 0)))
 (aq (bb (dB (c7 fL (aa 1))) (aq (aM 4 (bc 4 (d_la fu) (ag (cW "Game" "joined" (aa 0)) (ag (aa 2) (ag (cC "Game" "hand" 1 (d_w fu) (aa 0) ai) (ag (aa 1) ai))))))
 (aq (aM 2 (aD aC (aa 4) (dC (.int 0))))
 (aq (aM 3 (aR bK (ag (aD aC (aa 4) (dC (.int 1))) ai)))
 (aq (aM 5 (cC "Game" "came_at" 2 (d_g fu) (aa 0) (ag (aa 2) ai)))
 (bb (dB (c7 fL (aa 5))) (nq "Again" "number" 5) bu))))) bu)
 (aq (b_ (cR cP (cW "Game" "past" (aa 0)) (ag (aa 2) ai)))
 (aq (b_ (cR cP (cW "Game" "done" (aa 0)) (ag (aa 1) ai)))
 (b_ (cR cP (cW "Game" "takings" (aa 0)) (ag (aa 3) ai))))))))) [some (.cel k),some (nW p),none,none,none,none] c Q:=by
 have lim:=O.lim;have n1:=O.n1;have e1:=oP fu G O;have e2:=oQ fu G O;have e3:=qm fu G;have e4:=xp fu G O is;have hn:fL (fP g)=some (.bl false):=by simp only[fL,lX,he];rfl
 refine bO (p:=false) (ce':=c) (bA (dQ (dP (ws:=[]) (au rfl) G.i rfl aK rfl e1) hn)) (fun q=>by cases q) (fun _=>cH ?_);refine aZ (w:=wS (cur g)) (ce':=c) (dP (ws:=[]) (au rfl) G.i rfl aK rfl e2) ?_;refine aS ?_;refine aZ (w:=nW 0) (ce':=c) aV ?_;refine aS ?_;refine bO (p:=true) (ce':=c) (bA (dQ (au rfl) rfl)) (fun _=>?_) (fun q=>by cases q);refine gZ ?_;refine aZ (w:=.tup [wS is,wL t]) (ce':=c) (cQ (ws:=[wB b,wS (cur g),.int (hnd h g.done.length),nW p]) (aI (eV (au rfl) G.i rfl) (aI (au rfl) (aI (dP (ws:=[]) (au rfl) G.i rfl aK rfl e3) (aI (au rfl) aK)))) rfl hl) ?_;refine aS ?_;have j0:aC c (.tup [wS is,wL t]) (.int 0)=some (wS is):=fJ (xs:=[wS is,wL t]) (j:=0) rfl rfl;have j1:aC c (.tup [wS is,wL t]) (.int 1)=some (wL t):=fJ (xs:=[wS is,wL t]) (j:=1) rfl rfl;have jl:bK [wL t] c=some (.ok (nW t.length) c):=by simp[bK,dj,bU];rfl
 refine gZ (aZ (w:=wS is) (ce':=c) (bN (au rfl) aV j0) ?_);refine aS ?_;refine gZ (aZ (w:=nW t.length) (ce':=c) (bS (ws:=[wL t]) (aI (bN (au rfl) aV j1) aK) jl) ?_);refine aS ?_;refine gZ (aZ (w:=oW (dg s h g is)) (ce':=c) (dP (ws:=[wS is]) (au rfl) G.i rfl (aI (au rfl) aK) rfl e4) ?_);refine aS ?_;cases hc:dg s h g is with
 | none =>
  refine bO (p:=false) (ce':=c) (bA (dQ (au rfl) rfl)) (fun q=>by cases q) (fun _=>cH ?_);exact yC (w:=some p) G O (q2 hc _)
 | some m =>
  have hm:m<g.past.length:=mem_range.mp (mem_of_find?_eq_some hc);refine bO (p:=true) (ce':=c) (bA (dQ (au rfl) rfl)) (fun _=>?_) (fun q=>by cases q);exact sQ (IJ (n:=m) rfl (by omega) (q1 m hc))
theorem zW(fu:Nat)(hfu:200<=fu)(N:bT b)(G:GC c k b s h g)(O:cZ b g)(h12:h=1\/h=2)(he:ended g=false){m:Nat}(hp:p<b.length)(p0:(cur g).getD p 0=0)(fr:fk b (cur g) (hnd h g.done.length) p)(hm:dg s h g (lS b (cur g) (hnd h g.done.length) p)=some m):d_v fu [.cel k,nW p] c=some (.ex ⟨"Again",some ("number",.int m)⟩ c):=by have hl:=sG (ce:=c) fu hfu N O.cur (jO h12 g.done.length) hp p0 fr;unfold d_v;refine oU [some (.cel k),some (nW p),none,none,none,none] rfl ?_;exact xo fu G O he hl (fun m' q=>by rw[hm] at q;cases q;exact⟨rfl,[],by simp⟩) (fun q=>by rw[hm] at q;cases q)
theorem yA(fu:Nat)(hfu:200<=fu)(N:bT b)(G:GC c k b s h g)(O:cZ b g)(h12:h=1\/h=2)(he:ended g=false)(hp:p<b.length)(p0:(cur g).getD p 0=0)(fr:fk b (cur g) (hnd h g.done.length) p)(hm:dg s h g (lS b (cur g) (hnd h g.done.length) p)=none):d_v fu [.cel k,nW p] c=some (.ok .non (cf c k (push g (lS b (cur g) (hnd h g.done.length) p) (some p) (lT b (cur g) (hnd h g.done.length) p).length))):=by have hl:=sG (ce:=c) fu hfu N O.cur (jO h12 g.done.length) hp p0 fr;unfold d_v;refine pG [some (.cel k),some (nW p),none,none,none,none] rfl ?_;exact xo fu G O he hl (fun m q=>by rw[hm] at q;cases q) (fun _ sl=>yB)
theorem E4(fu:Nat)(hfu:200<=fu)(N:bT b)(G:GC c k b s h g)(O:cZ b g)(h12:h=1\/h=2){w:Option Nat}(hw:∀p,w=some p->p<b.length) :
  (∃g',dN b s h g w g'/\d_v fu [.cel k,oW w] c=some (.ok .non (cf c k g')))\/((∀g',¬dN b s h g w g')/\∃x,d_v fu [.cel k,oW w] c=some (.ex x c)):=by
 cases he:ended g with
 | true=>exact .inr ⟨fun g' D=>(by rw[D.1] at he;cases he),_,zA fu G O _ he⟩
 | false =>
  cases w with
  | none=>exact .inl ⟨_,⟨he,rfl⟩,zz fu G O he⟩
  | some p =>
   have hp:=hw p rfl
   by_cases p0:(cur g).getD p 0=0
   ·by_cases fr:fk b (cur g) (hnd h g.done.length) p
    ·cases hm:dg s h g (lS b (cur g) (hnd h g.done.length) p) with
     | none=>exact .inl ⟨_,⟨he,hp,p0,fr,hm,rfl⟩,yA fu hfu N G O h12 he hp p0 fr hm⟩
     | some m=>exact .inr ⟨fun g' D=>(by rw[D.2.2.2.2.1] at hm;cases hm),_,zW fu hfu N G O h12 he hp p0 fr hm⟩
    ·exact .inr ⟨fun g' D=>fr D.2.2.2.1,_,qk fu G O he (sH fu hfu N O.cur (jO h12 _) hp p0 fr)⟩
   ·exact .inr ⟨fun g' D=>p0 D.2.2.1,_,qk fu G O he (sI fu O.cur N.B.h36 hp p0)⟩
end
section
variable {l:Ce} {s:Bool} {h:Int} {g:Gm}
theorem nk(c:Ce)(x y:C)(l:Ce):(c++x::l).set c.length y=c++y::l:=by simp
theorem eG(c:Ce)(x:C)(l:Ce):(c++x::l)[c.length]?=some x:=by simp
def nJ(is:List Int):Gm:=⟨[is],[],[]⟩
theorem AW{is:List Int}(S:bj b is):cZ b (nJ is):=⟨rfl,rfl,fun i hi=>by
 have:i=0:=by simp[nJ] at hi;exact hi
 subst this;exact S,zero_le _⟩
def j7(b:List (List Nat))(s:Bool)(h:Int)(k:Nat)(is:List Int):Ce:=[.ins "Game" (nI b s h k),.lst [wS is],.lst [],.lst []]
theorem Kf(c:Ce)(is:List Int):GC (c++j7 b s h c.length is) c.length b s h (nJ is):=by
 unfold j7;refine⟨eG _ _ _,?_,?_,?_⟩
 ·rw[getElem?_append_right (by omega),show c.length+1-c.length=1 by omega];rfl
 ·rw[getElem?_append_right (by omega),show c.length+2-c.length=2 by omega];rfl
 ·rw[getElem?_append_right (by omega),show c.length+3-c.length=3 by omega];rfl
theorem E3(fu:Nat){is:List Int}(hn:∀c,d_aa fu [wB b,wS is] c=some (.ok (.bl true) c))(hs:∀c,d_ca fu [wB b,wS is] c=some (.ok (.bl true) c)) :
  d_f fu [.cel c.length,wB b,.str (rl s),wS is,.int h] (c++[C.ins "Game" []])=some (.ok .non (c++j7 b s h c.length is)):=by
 have z1:1<=sizeLine:=by decide
 unfold d_f;refine pG [some (.cel c.length),some (wB b),some (.str (rl s)),some (wS is),some (.int h)] rfl ?_;refine bO (p:=!true) (ce':=c++[C.ins "Game" []]) (jj (bA (cQ (ws:=[wB b,wS is]) (by trivial) rfl (hn _)))) (fun q=>by cases q) (fun _=>cH ?_);refine bO (p:=!true) (ce':=c++[C.ins "Game" []]) (jj (bA (cQ (ws:=[wB b,wS is]) (by trivial) rfl (hs _)))) (fun q=>by cases q) (fun _=>cH ?_);refine oO (w:=wB b) (k:=c.length) (au rfl) (au rfl) (k9 _ _) (lt_of_le_of_lt (le_refl 0) (by decide)) ?_;rw[nk];refine oO (w:=.str (rl s)) (k:=c.length) (au rfl) (au rfl) (k9 _ _) (lt_of_le_of_lt (gH (le_refl 0)) (by decide)) ?_;rw[nk];refine oO (w:=.int h) (k:=c.length) (au rfl) (au rfl) (k9 _ _) (lt_of_le_of_lt (gH (gH (le_refl 0))) (by decide)) ?_;rw[nk];refine oO (k:=c.length) (gY (ws:=[wS is]) (by trivial) z1) (au rfl) (by rw[append_assoc];exact eG _ _ _) (lt_of_le_of_lt (gH (gH (gH (le_refl 0)))) (by decide)) ?_;rw[append_assoc,cons_append,nil_append,nk,length_append,length_cons,length_nil];refine oO (k:=c.length) (gY aK (zero_le _)) (au rfl) (by rw[append_assoc];exact eG _ _ _) (lt_of_le_of_lt (gH (gH (gH (gH (le_refl 0))))) (by decide)) ?_;rw[append_assoc,cons_append,cons_append,nil_append,nk,length_append,length_cons,length_cons,length_nil];refine GL (k:=c.length) (gY aK (zero_le _)) (au rfl) (by rw[append_assoc];exact eG _ _ _) (lt_of_le_of_lt (gH (gH (gH (gH (gH (le_refl 0)))))) (by decide)) ?_;rw[append_assoc,cons_append,cons_append,cons_append,nil_append,nk,length_append,length_cons,length_cons,length_cons,length_nil];exact⟨_,_,rfl,rfl⟩
end
theorem H_{α:Type}{l m:List α}{d:α}(h:i<l.length):(l++m).getD i d=l.getD i d:=by simp only[getD_eq_getElem?_getD,getElem?_append_left h]
theorem uq{α:Type}{l:List α}{x d:α}(h:i=l.length):(l++[x]).getD i d=x:=by subst h;simp only[getD_eq_getElem?_getD,getElem?_append_right (le_refl _),sub_self,getElem?_cons_zero,getD_some]
section
variable {l:Ce} {s:Bool} {h:Int} {g:Gm} {w:Option Nat}
theorem E2{m:Nat}{ds:List (Option Nat)}(hm:m<ds.length):aC c (.lst (ds.map oW)) (nW m)=some (oW (ds.getD m none)):=by rw[ko (xs:=ds.map oW) rfl,getElem?_map,getD_eq_getElem?_getD,getElem?_eq_getElem hm];rfl
end
section
variable {l:Ce} {s:Bool} {h:Int} {g:Gm} {w:Option Nat} {is:List Int}
theorem BZ{x:W}(hs:dj ce x=some xs){d:Nat}(h0:d<xs.length):aC ce x (.int (-((d:Int)+1)))=xs[xs.length-(d+1)]?:=by
 simp only[aC,hs,L2.atI];have:gm xs.length (-((d:Int)+1))=some (xs.length-(d+1)):=by
  unfold gm;simp only[show ¬(0:Int)<=-((d:Int)+1) by omega,if_false];split
  ·congr 1;omega
  ·omega
 rw[this];rfl
def kJ(h:Int)(g:Gm)(m:Nat):W:=.tup [wS (g.past.getD m []),.int (hnd h m)]
def fE(h:Int)(g:Gm):List W:=(List.range g.past.length).map (kJ h g)
theorem qj:(fE h g).length=g.past.length:=by simp[fE]
theorem GX:fE h (push g is w n)=fE h g++[.tup [wS is,.int (hnd h g.past.length)]]:=by
 unfold fE;rw[show(push g is w n).past.length=g.past.length+1 by simp[push],range_succ,map_append];congr 1
 ·apply map_congr_left;intro m hm;have hm:=mem_range.mp hm;simp only[kJ,push];rw[H_ hm]
 ·simp only[map_cons,map_nil,kJ,push];rw[uq rfl]
theorem GR(hm:dj c mo=some (fE h g)){m:Nat}(h1:m<g.past.length):aC c mo (nW m)=some (kJ h g m):=by rw[ko hm,fE,getElem?_map,getElem?_range h1];rfl
theorem zy(hm:dj c mo=some (fE h g))(O:cZ b g):aC c mo (.int (-1))=some (.tup [wS (cur g),.int (hnd h g.done.length)]):=by have n1:=O.n1;rw[sT hm (by rw[qj];omega),qj,fE,getElem?_map,getElem?_range (by omega)];show some (kJ h g (g.past.length-1))=_;unfold kJ cur;rw[show g.past.length-1=g.done.length by omega]
open Classical in
def dA(b:List (List Nat))(s:Bool)(h:Int)(g:Gm):Option Nat->W
 | none=>.tup [wS (cur g),.lst []]
 | some p=>if (cur g).getD p 0=0 then (if fk b (cur g) (hnd h g.done.length) p then (match dg s h g (lS b (cur g) (hnd h g.done.length) p) with
  | some m=>nW m
  | none=>.tup [wS (lS b (cur g) (hnd h g.done.length) p),wL (lT b (cur g) (hnd h g.done.length) p)]) else .str "breath") else .str "lay"
theorem w4(h12:h=1\/h=2)(m n:Nat):(s||!decide (hnd h m=hnd h n))=bar s h n m:=by unfold bar;have h1:=jO h12 m;have h2:=jO h12 n;congr 1;rw[<- decide_not];exact decide_eq_decide.mpr (by omega)
theorem xn{x:W}(hx:dj c x=some xs):bK [x] c=some (.ok (nW xs.length) c):=by
 cases x<;>first|(simp only[bK,hx];rfl)|(simp only[dj,bU,reduceCtorEq] at hx)
theorem rV(fu:Nat)(hfu:200<=fu)(N:bT b)(O:cZ b g)(h12:h=1\/h=2)(hm:dj c mo=some (fE h g))(hw:∀p,w=some p->p<b.length):d_y fu [wB b,.str (rl s),mo,oW w] c=some (.ok (dA b s h g w) c):=by
 have hz:(1000:Nat)<sizeLine:=by decide
 have n1:=O.n1;have lim:=O.lim;have hl:=zy hm O;have z2:2<=sizeLine:=by decide
 unfold d_y;refine dm [some (wB b),some (.str (rl s)),some mo,some (oW w),none,none,none,none] rfl ?_;refine y7 (x:=wS (cur g)) (y:=.int (hnd h g.done.length)) (c1:=c) (bN (au rfl) (dQ aV rfl) hl) ?_;refine(?_:Run _ [some (wB b),some (.str (rl s)),some mo,some (oW w),some (wS (cur g)),some (.int (hnd h g.done.length)),none,none] c _);cases w with
 | none =>
  refine bO (p:=true) (ce':=c) (bA (dQ (au rfl) rfl)) (fun _=>?_) (fun q=>by cases q);refine gI (bL (w:=.tup [wS (cur g),.lst []]) (ce':=c) (jf (ws:=[wS (cur g),.lst []]) (aI (au rfl) (aI (gu aK (zero_le _)) aK)) z2) (dG ?_));simp only[aU,cB];exact⟨bz _ _,trivial,trivial⟩
 | some p =>
  have hp:=hw p rfl;refine bO (p:=false) (ce':=c) (bA (dQ (au rfl) rfl)) (fun q=>by cases q) (fun _=>cH ?_);have et:=yG (ce:=c) fu hfu N O.cur (jO h12 g.done.length) hp;refine aZ (w:=gx b (cur g) (hnd h g.done.length) p) (ce':=c) (cQ (ws:=[wB b,wS (cur g),.int (hnd h g.done.length),nW p]) (by trivial) rfl et) ?_;refine aS ?_
  by_cases p0:(cur g).getD p 0=0
  ·by_cases fr:fk b (cur g) (hnd h g.done.length) p
   ·have eT:gx b (cur g) (hnd h g.done.length) p=.tup [wS (lS b (cur g) (hnd h g.done.length) p),wL (lT b (cur g) (hnd h g.done.length) p)]:=by unfold gx;rw[if_pos p0,if_pos fr]
    have eD:dA b s h g (some p)=match dg s h g (lS b (cur g) (hnd h g.done.length) p) with
     | some m=>nW m
     | none=>.tup [wS (lS b (cur g) (hnd h g.done.length) p),wL (lT b (cur g) (hnd h g.done.length) p)]:=by
     unfold dA;dsimp only;rw[if_pos p0,if_pos fr]
    rw[eT,eD];generalize lS b (cur g) (hnd h g.done.length) p=is1;generalize lT b (cur g) (hnd h g.done.length) p=t1;refine bO (p:=false) (ce':=c) (bA (bS (ws:=[.tup [wS is1,wL t1],.ty "str"]) (by trivial) rfl)) (fun q=>by cases q) (fun _=>cH ?_);have el:bK [mo] c=some (.ok (nW g.past.length) c):=by rw[xn hm,qj]
    refine zm (zs:=List.range g.past.length) (en:=nW) (c1:=c) (iP (n:=g.past.length) (aI (bS (ws:=[mo]) (by trivial) el) aK) (by omega))
     (fun d sl c'=>∃x7,sl=[some (wB b),some (.str (rl s)),some mo,some (nW p),some (wS (cur g)),some (.int (hnd h g.done.length)),some (.tup [wS is1,wL t1]),x7]/\c'=c/\∀m∈d,(decide (g.past.getD m []=is1)&&bar s h g.done.length m)=false)
     (fun w c'=>c'=c/\∃m,dg s h g is1=some m/\w=nW m) ⟨_,rfl,rfl,by simp⟩ ?_ ?_ ?_
    ·rintro d m r sl c' e hm' ⟨x7,rfl,rfl,hd⟩;have hm':=mem_range.mp hm';have i1:=GR hm hm';have j0:aC c' (kJ h g m) (.int 0)=some (wS (g.past.getD m [])):=fJ (xs:=[wS (g.past.getD m []),.int (hnd h m)]) (j:=0) rfl rfl;have j1:aC c' (kJ h g m) (.int 1)=some (.int (hnd h m)):=fJ (xs:=[wS (g.past.getD m []),.int (hnd h m)]) (j:=1) rfl rfl;have j2:aC c' (.tup [wS is1,wL t1]) (.int 0)=some (wS is1):=fJ (xs:=[wS is1,wL t1]) (j:=0) rfl rfl;have q1:=vA (ce:=c') false (g.past.getD m []) is1;have q2:bD false c' (.str (rl s)) (.str "stones")=some (.bl s):=by cases s<;>rfl
     have e3:kc (.int (hnd h m)) (.int (hnd h g.done.length))=some (.bl (!decide (hnd h m=hnd h g.done.length))):=xD rfl rfl;unfold Ae;refine aS ?_;refine fy (p:=decide (g.past.getD m []=is1)) (ce':=c') (bA (bN (bN (bN (au rfl) (au rfl) i1) aV j0) (bN (au rfl) aV j2) q1)) (fun z1=>?_) (fun z1=>hJ ?_)
     ·refine fy (p:=s||!decide (hnd h m=hnd h g.done.length)) (ce':=c') (mQ (bA (bN (au rfl) aV q2)) (fun _=>bA (fZ (bN (bN (au rfl) (au rfl) i1) aV j1) (au rfl) e3))) (fun z2=>?_) (fun z2=>hJ ?_)
      ·rw[w4 h12] at z2;refine bL (w:=nW m) (ce':=c') (au rfl) ⟨rfl,m,?_,rfl⟩;unfold dg;rw[<- e,find?_append,find?_eq_none.mpr (fun x hx=>by rw[hd x hx];simp)];rw[none_or,find?_cons,show(decide (g.past.getD m []=is1)&&bar s h g.done.length m)=true by rw[z1,z2];rfl]
      ·rw[w4 h12] at z2;refine⟨_,rfl,rfl,fun x hx=>?_⟩;rcases mem_append.mp hx with hx|hx
       ·exact hd x hx
       ·rw[mem_singleton] at hx;subst hx;rw[z1,z2];rfl
     ·refine⟨_,rfl,rfl,fun x hx=>?_⟩;rcases mem_append.mp hx with hx|hx
      ·exact hd x hx
      ·rw[mem_singleton] at hx;subst hx;rw[z1];rfl
    ·rintro w sl c' ⟨rfl,m,hm2,rfl⟩;rw[hm2];exact ji (dG (by simp only[nW,aU]))
    ·rintro sl c' ⟨x7,rfl,rfl,hd⟩;have:dg s h g is1=none:=by
      unfold dg;rw[find?_eq_none];exact fun m hm=>by rw[hd m hm];simp
     rw[this];refine bL (w:=.tup [wS is1,wL t1]) (ce':=c') (au rfl) (dG ?_);simp only[aU,cB];exact⟨bz _ _,aG _ _,trivial⟩
   ·have eT:gx b (cur g) (hnd h g.done.length) p=.str "breath" := by
     unfold gx;rw[if_pos p0,if_neg fr]
    have eD:dA b s h g (some p)=.str "breath" := by
     unfold dA;dsimp only;rw[if_pos p0,if_neg fr]
    rw[eT,eD];refine bO (p:=true) (ce':=c) (bA (bS (ws:=[.str "breath",.ty "str"]) (by trivial) rfl)) (fun _=>?_) (fun q=>by cases q);exact gI (bL (w:=.str "breath") (ce':=c) (au rfl) (dG (by simp only[aU])))
  ·have eT:gx b (cur g) (hnd h g.done.length) p=.str "lay" := by
    unfold gx;rw[if_neg p0]
   have eD:dA b s h g (some p)=.str "lay" := by
    unfold dA;dsimp only;rw[if_neg p0]
   rw[eT,eD];refine bO (p:=true) (ce':=c) (bA (bS (ws:=[.str "lay",.ty "str"]) (by trivial) rfl)) (fun _=>?_) (fun q=>by cases q);exact gI (bL (w:=.str "lay") (ce':=c) (au rfl) (dG (by simp only[aU])))
end
section
variable {l:Ce} {s:Bool} {h:Int} {g:Gm} {w:Option Nat} {is:List Int}
theorem EZ(l:List (Option Nat)):(decide (1<l.length)&&(bZ (oW (l.getD (l.length-1) (some 0)))&&bZ (oW (l.getD (l.length-2) (some 0)))))=decide (l.drop (l.length-2)=[none,none]):=by
 rcases eq_nil_or_concat l with rfl|⟨l1,y,rfl⟩
 ·rfl
 rcases eq_nil_or_concat l1 with rfl|⟨l2,x,rfl⟩
 ·cases y<;>rfl
 simp only[concat_eq_append,append_assoc,cons_append,nil_append];have hl:(l2++[x,y]).length=l2.length+2:=by simp
 rw[hl,show l2.length+2-1=l2.length+1 by omega,show l2.length+2-2=l2.length by omega,drop_left,decide_eq_true (by omega:1<l2.length+2)];simp only[getD_eq_getElem?_getD];rw[getElem?_append_right (by omega),getElem?_append_right (by omega),sub_self,show l2.length+1-l2.length=1 by omega];cases x<;>cases y<;>simp[oW,nW,bZ]
theorem wZ(fu:Nat)(lim:g.done.length<=300){ds:W}(hs:dj c ds=some (g.done.map oW)):d_z fu [ds] c=some (.ok (fP g) c):=by
 have el:bK [ds] c=some (.ok (nW g.done.length) c):=by rw[xn hs,length_map]
 have e0:gw (nW g.done.length) (.int 1)=some (.bl (decide ((g.done.length:Int)>1))):=rfl;have ed:decide ((g.done.length:Int)>1)=decide (1<g.done.length):=decide_eq_decide.mpr (by omega);have e3:ft (nW g.done.length) (.int 300)=some (.bl (decide ((g.done.length:Int)=300))):=oI rfl rfl;have em:∀j,1<g.done.length->j<g.done.length->(g.done.map oW)[j]?=some (oW (g.done.getD j (some 0))):=fun j _ hj=>by
  rw[getElem?_map,getD_eq_getElem?_getD,getElem?_eq_getElem hj];rfl
 unfold d_z;refine dm [some ds] rfl ?_;refine bO (p:=passed g) (ce':=c) ?_ (fun q=>?_) (fun q=>cH ?_)
 ·have:passed g=(decide ((g.done.length:Int)>1)&&(bZ (oW (g.done.getD (g.done.length-1) (some 0)))&&bZ (oW (g.done.getD (g.done.length-2) (some 0))))):=by rw[ed,EZ];rfl
  rw[this];refine lR (bA (fZ (bS (ws:=[ds]) (by trivial) el) aV e0)) fun z=>?_;have hl:1<g.done.length:=by have:=of_decide_eq_true z;omega
  have i1:aC c ds (.int (-1))=some (oW (g.done.getD (g.done.length-1) (some 0))):=by rw[sT hs (by rw[length_map];omega),length_map,em _ hl (by omega)]
  have i2:aC c ds (.int (-2))=some (oW (g.done.getD (g.done.length-2) (some 0))):=by have:=BZ (d:=1) hs (by rw[length_map];omega);rw[length_map,em _ hl (by omega)] at this;exact this
  exact lR (bA (dQ (bN (au rfl) (dQ aV rfl) i1) rfl)) fun _=>bA (dQ (bN (au rfl) (dQ aV rfl) i2) rfl)
 ·refine gI (bL (w:=.str "passed") (ce':=c) aV ?_);rw[show fP g=.str "passed" from if_pos q];exact dG (by simp only[aU])
 refine bO (p:=decide ((g.done.length:Int)=300)) (ce':=c) (bA (fZ (bS (ws:=[ds]) (by trivial) el) aV e3)) (fun q2=>?_) (fun q2=>cH ?_)
 ·refine gI (bL (w:=.str "long") (ce':=c) aV ?_);have:300<=g.done.length:=by have:=of_decide_eq_true q2;omega
  rw[show fP g=.str "long" by unfold fP;rw[if_neg (by rw[q];simp),if_pos this]];exact dG (by simp only[aU])
 ·refine bL (w:=.non) (ce':=c) aV ?_;have:¬300<=g.done.length:=by have:=of_decide_eq_false q2;omega
  rw[show fP g=.non by unfold fP;rw[if_neg (by rw[q];simp),if_neg this]];exact dG (by simp only[aU])
theorem lN{f:Ce->W->Option W}{w:W}(h:d sl c=some (.ok w c1))(hf:f c1 w=some w'):fD f d sl c=some (.ok w' c1):=by simp only[fD,aw,h,look,hf,map_some]
def rp(x:PySem.Str)(p:Bool):W:=.lst (if p then [.str x] else [])
theorem mE{x:PySem.Str}{b:Sl->M W}{p:Bool}(hb:b sl c=some (.ok (.bl p) c)):gE aQ (ag (dC (.str x)) ai) (aR fY (ag b ai)) sl c=some (.ok (rp x p) c):=by
 have z1:1<=sizeLine:=by decide
 have e1:ag (dC (.str x)) ai sl c=some (.ok [.str x] c):=aI aV aK;have e2:aR fY (ag b ai) sl c=some (.ok (.int (if p then 1 else 0)) c):=bS (ws:=[.bl p]) (aI hb aK) rfl;simp only[gE,aw,e1,qU,length_cons,length_nil,if_pos z1,e2,pv];cases p with
 | true =>
  rw[if_pos ⟨by decide,by decide,by decide⟩];exact iD z1
 | false =>
  rw[if_pos ⟨by decide,by decide,by decide⟩];exact iD (zero_le _)
def kD(o l b a:Bool):List W:=(if o then [.str "over"] else [])++((if l then [.str "lay"] else [])++((if b then [.str "breath"] else [])++(if a then [.str "again"] else [])))
theorem H9{e:W}{o l b a:Bool}{x0 x1 x3:Option W}{Q:VS.O->Prop}{rest:DS}(r1:gp cE c2 e "Over" = some (.bl o))(r2:gp cE c2 e "NoLay" = some (.bl l))(r3:gp cE c2 e "NoBreath" = some (.bl b))(r4:gp cE c2 e "Again" = some (.bl a))(r5:jD cE c2 e ["NoBack", "NoBoard", "NoPoint", "NoRow", "NoStand"]=some (.bl false))(r6:jD cE c2 e ["NoText", "TooMuch"]=some (.bl false))(q:Run rest [x0,x1,some e,x3,none,some (.lst (kD o l b a))] c2 Q) :
  Run (aq (aM 5 (dO (ag (gE aQ (ag (dC (.str "over")) ai) (aR fY (ag (fD (fun ce w=>gp cE ce w "Over") (aa 2)) ai))) (ag (gE aQ (ag (dC (.str "lay")) ai) (aR fY (ag (fD (fun ce w=>gp cE ce w "NoLay") (aa 2)) ai))) ai))))
 (aq (aM 5 (fR aQ (aa 5) (dO (ag (gE aQ (ag (dC (.str "breath")) ai) (aR fY (ag (fD (fun ce w=>gp cE ce w "NoBreath") (aa 2)) ai))) ai))))
 (aq (aM 5 (fR aQ (aa 5) (dO (ag (gE aQ (ag (dC (.str "again")) ai) (aR fY (ag (fD (fun ce w=>gp cE ce w "Again") (aa 2)) ai))) ai))))
 (aq (aM 5 (fR aQ (aa 5) (dO (ag (gE aQ (ag (dC (.str "other")) ai) (aR fY (ag (fD (fun ce w=>jD cE ce w ["NoBack", "NoBoard", "NoPoint", "NoRow", "NoStand"]) (aa 2)) ai))) ai))))
 (aq (aM 5 (aR n8 (ag (aa 5) (ag (gE aQ (ag (dC (.str "other")) ai) (aR fY (ag (fD (fun ce w=>jD cE ce w ["NoText", "TooMuch"]) (aa 2)) ai))) ai))))
   rest))))) [x0,x1,some e,x3,none,x5] c2 Q:=by
 have z1:1<=sizeLine:=by decide
 have z2:2<=sizeLine:=by decide
 have z3:3<=sizeLine:=by decide
 have z4:4<=sizeLine:=by decide
 have z5:5<=sizeLine:=by decide
 refine aZ (w:=.lst [rp "over" o,rp "lay" l]) (ce':=c2) (gu (aI (mE (lN (au rfl) r1)) (aI (mE (lN (au rfl) r2)) aK)) z2) ?_;refine aS ?_;refine aZ (w:=.lst [rp "over" o,rp "lay" l,rp "breath" b]) (ce':=c2) (la (xs:=[rp "over" o,rp "lay" l]) (ys:=[rp "breath" b]) (au rfl) (gu (aI (mE (lN (au rfl) r3)) aK) z1) rfl rfl z3) ?_;refine aS ?_;refine aZ (w:=.lst [rp "over" o,rp "lay" l,rp "breath" b,rp "again" a]) (ce':=c2) (la (xs:=[rp "over" o,rp "lay" l,rp "breath" b]) (ys:=[rp "again" a]) (au rfl) (gu (aI (mE (lN (au rfl) r4)) aK) z1) rfl rfl z4) ?_;refine aS ?_;refine aZ (w:=.lst [rp "over" o,rp "lay" l,rp "breath" b,rp "again" a,rp "other" false]) (ce':=c2) (la (xs:=[rp "over" o,rp "lay" l,rp "breath" b,rp "again" a]) (ys:=[rp "other" false]) (au rfl) (gu (aI (mE (lN (au rfl) r5)) aK) z1) rfl rfl z5) ?_;refine aS ?_;have es:n8 [.lst [rp "over" o,rp "lay" l,rp "breath" b,rp "again" a,rp "other" false],rp "other" false] c2=some (.ok (.lst (kD o l b a)) c2):=by
  have e:([]:List W)++[(if o then [W.str "over"] else []),(if l then [W.str "lay"] else []),(if b then [W.str "breath"] else []),(if a then [W.str "again"] else []),[]].flatten=kD o l b a:=by simp[kD]
  have hz:(kD o l b a).length<=sizeLine:=by
   cases o<;>cases l<;>cases b<;>cases a<;>first|exact zero_le _|exact z1|exact z2|exact z3|exact z4
  show aQ (([]:List W)++[(if o then [W.str "over"] else []),(if l then [W.str "lay"] else []),(if b then [W.str "breath"] else []),(if a then [W.str "again"] else []),[]].flatten) c2=_;rw[e];exact iD hz
 refine aZ (w:=.lst (kD o l b a)) (ce':=c2) (bS (aI (au rfl) (aI (mE (lN (au rfl) r6)) aK)) es) ?_;refine aS ?_;exact q
end
theorem yz:∀(d:Nat) (w:W),bh d w=true->eZ n ce d w=some w:=by
 intro d
 induction d with
 | zero =>
  intro w h;cases w with
  | cel _=>simp[bh] at h
  | lst _=>simp[bh] at h
  | tup _=>simp[bh] at h
  | _=>simp only[eZ]
 | succ d ih =>
  have ths:∀xs:List W,xs.all (bh d)=true->gq n ce d xs=some xs:=by
   intro xs
   induction xs with
   | nil=>intro _;simp only[gq]
   | cons a r ih2 =>
    intro h;rw[all_cons,and_eq_true] at h;simp only[gq,ih a h.1,ih2 h.2]
  intro w h;cases w with
  | cel _=>simp[bh] at h
  | lst xs=>simp only[bh] at h;simp only[eZ,ths xs h,map_some]
  | tup xs=>simp only[bh] at h;simp only[eZ,ths xs h,map_some]
  | _=>simp only[eZ]
theorem GW(n:Nat)(ps:List (List Int)):bh (n+2) (.lst (ps.map wS))=true:=by simp only[bh,all_eq_true];intro x hx;obtain⟨is,_,rfl⟩:=mem_map.mp hx;exact oZ is n
theorem ug(n:Nat)(ds:List (Option Nat)):bh (n+1) (.lst (ds.map oW))=true:=by
 simp only[bh,all_eq_true];intro x hx;obtain⟨o,_,rfl⟩:=mem_map.mp hx;cases o<;>(cases n<;>rfl)
theorem pL(x y:PySem.Str):kM false c (.lst [.str x]) (.lst [.str y])=some (.bl (aN (.lst [.str x]) (.lst [.str y]))):=by have h1:nR c (.lst [.str x])=some (.lst [.str x]):=yz 6 _ rfl;have h2:nR c (.lst [.str y])=some (.lst [.str y]):=yz 6 _ rfl;simp only[kM,h1,h2];rfl
section
variable {l:Ce} {s:Bool} {h:Int} {g:Gm} {w:Option Nat} {is:List Int}
theorem pK{e:W}{nm cn:PySem.Str}{anc:List PySem.Str}{p:Bool}(hx:ip c2 e=some nm)(ha:gW cE nm=some anc)(ht:(cE.any fun p=>p.1==cn)=true)(hp:anc.contains cn=p):gp cE c2 e cn=some (.bl p):=by unfold gp;rw[hx,bind_some,ha,bind_some,if_pos ht,hp]
theorem xm{e:W}{nm:PySem.Str}{cns:List PySem.Str}{anc:List PySem.Str}{p:Bool}(hx:ip c2 e=some nm)(ha:gW cE nm=some anc)(ht:(cns.all fun cn=>cE.any fun p=>p.1==cn)=true)(hp:cns.any anc.contains=p):jD cE c2 e cns=some (.bl p):=by unfold jD;rw[hx,bind_some,ha,bind_some,if_pos ht,hp]
theorem DL{e:W}{nm:PySem.Str}{anc:List PySem.Str}(hx:ip c2 e=some nm)(ha:gW cE nm=some anc):nV cE c2 e=some (.bl true):=by unfold nV;rw[hx,bind_some,ha,bind_some]
theorem yy(fu:Nat)(G:GC c k b s h g){x:cV}{nm:PySem.Str}{o l b' a:Bool}{v:W}(hd:d_v fu [.cel k,oW w] c=some (.ex x c))(hu:iB cE "StoneError" x=true)(hx:ip (c++[eX x]) (.cel c.length)=some nm)(ha:gW cE nm=some [nm, "StoneError"])(p1:([nm, "StoneError"]:List PySem.Str).contains "Over" = o)(p2:([nm, "StoneError"]:List PySem.Str).contains "NoLay" = l)(p3:([nm, "StoneError"]:List PySem.Str).contains "NoBreath" = b')(p4:([nm, "StoneError"]:List PySem.Str).contains "Again" = a)(p5:(["NoBack", "NoBoard", "NoPoint", "NoRow", "NoStand"]:List PySem.Str).any ([nm, "StoneError"]:List PySem.Str).contains=false)(p6:(["NoText", "TooMuch"]:List PySem.Str).any ([nm, "StoneError"]:List PySem.Str).contains=false)(hv:aU c.length v)(q:(a=false/\kD o l b' a=[v]/\kM false (c++[eX x]) (.lst [v]) (.lst [.str "again"])=some (.bl false))\/(a=true/\kD o l b' a=[.str "again"]/\∃m:Nat,eX x=.exm "Again" "number" m/\v=nW m)) :
  d_x fu [.cel k,oW w] c=some (.ok v c):=by
 have z1:1<=sizeLine:=by decide
 have hc:∀y4 y5,cC "Game" "deed" 2 (d_v fu) (eJ (aa 0)) (eJ (ag (aa 1) ai)) [some (.cel k),some (oW w),some .non,some (.int 7),y4,y5] c=some (.ex x c):=fun y4 y5=>dP (ws:=[oW w]) (k7 (au rfl)) G.i rfl (k7 (aI (au rfl) aK)) rfl hd;unfold d_x;refine dm [some (.cel k),some (oW w),none,none,none,none] rfl ?_;refine aZ (w:=.non) (ce':=c) aV ?_;refine aS ?_;refine aZ (w:=.int 7) (ce':=c) aV ?_;refine aS ?_;refine FK (sl':=[some (.cel k),some (oW w),some (.cel c.length),some (.int 7),none,none]) (c2:=c++[eX x]) (hc _ _) hu rfl ?_;refine bO (p:=false) (ce':=c++[eX x]) (bA (dQ (au rfl) rfl)) (fun q=>by cases q) (fun _=>cH ?_);refine H9 (o:=o) (l:=l) (b:=b') (a:=a) (pK hx ha (by decide +kernel) p1) (pK hx ha (by decide +kernel) p2) (pK hx ha (by decide +kernel) p3) (pK hx ha (by decide +kernel) p4) (xm hx ha (by decide +kernel) p5) (xm hx ha (by decide +kernel) p6) ?_;have hV:=DL hx ha;rcases q with ⟨ea,ew,eq⟩|⟨ea,ew,m,ex,ev⟩
 ·rw[ew];have el:bK [.lst [v]] (c++[eX x])=some (.ok (nW 1) (c++[eX x])):=rfl;have e0:aC (c++[eX x]) (.lst [v]) (.int 0)=some v:=fJ (xs:=[v]) (j:=0) rfl rfl;refine bO (p:=false&&false) (ce':=c++[eX x]) (lR (bA (bN (au rfl) (gu (aI aV aK) z1) eq)) (fun z=>by cases z)) (fun q=>by cases q) (fun _=>cH ?_);refine bO (p:=false||!true) (ce':=c++[eX x]) (mQ (bA (fZ (x:=nW 1) (bS (ws:=[.lst [v]]) (aI (au rfl) aK) el) aV rfl)) (fun _=>jj (bA (lN (au rfl) hV)))) (fun q=>by cases q) (fun _=>cH ?_);exact bL (w:=v) (ce':=c++[eX x]) (bN (au rfl) aV e0) (ji (nB hv))
 ·rw[ew];have hg:(c++[eX x])[c.length]?=some (.exm "Again" "number" m):=by rw[k9,ex]
  have e1:mr "Again" "number" (aa 2) [some (.cel k),some (oW w),some (.cel c.length),some (.int 7),none,some (.lst [.str "again"])] (c++[eX x])=some (.ok (.int m) (c++[eX x])):=Ci (au rfl) hg;have eq:kM false (c++[eX x]) (.lst [.str "again"]) (.lst [.str "again"])=some (.bl true):=(pL _ _).trans (congrArg (fun t=>some (W.bl t)) (by decide +kernel));refine bO (p:=true&&!false) (ce':=c++[eX x]) (lR (bA (bN (au rfl) (gu (aI aV aK) z1) eq)) (fun _=>jj (bA (bS (ws:=[.int m,.ty "bool"]) (aI e1 (aI aV aK)) rfl)))) (fun _=>?_) (fun q=>by cases q);subst ev;exact gI (bL (w:=.int m) (ce':=c++[eX x]) e1 (ji (nB hv)))
def lx(b:List (List Nat))(s:Bool)(h:Int)(g:Gm)(w:Option Nat):W:=if ended g=true then .str "over" else dA b s h g w
theorem DK(fu:Nat)(hfu:200<=fu)(N:bT b)(G:GC c k b s h g)(O:cZ b g)(h12:h=1\/h=2)(hw:∀p,w=some p->p<b.length) :
  (∃g',dN b s h g w g'/\d_x fu [.cel k,oW w] c=some (.ok (.str "done") (cf c k g')))\/((∀g',¬dN b s h g w g')/\d_x fu [.cel k,oW w] c=some (.ok (lx b s h g w) c)):=by
 have z2:2<=sizeLine:=by decide
 have hdone:∀{g'},d_v fu [.cel k,oW w] c=some (.ok .non (cf c k g'))->d_x fu [.cel k,oW w] c=some (.ok (.str "done") (cf c k g')):=fun {g'} hd=>by
  unfold d_x;refine dm [some (.cel k),some (oW w),none,none,none,none] rfl ?_;refine aZ (w:=.non) (ce':=c) aV ?_;refine aS ?_;refine aZ (w:=.int 7) (ce':=c) aV ?_;refine aS ?_;refine yK (w:=.non) (c1:=cf c k g') (dP (ws:=[oW w]) (k7 (au rfl)) G.i rfl (k7 (aI (au rfl) aK)) rfl hd) ?_;refine(?_:Run _ [some (.cel k),some (oW w),some .non,some .non,none,none] (cf c k g') _);refine bO (p:=true) (ce':=cf c k g') (bA (dQ (au rfl) rfl)) (fun _=>?_) (fun q=>by cases q);have e0:aC (cf c k g') (.lst [.str "other",.str "done"]) (.int 1)=some (.str "done"):=fJ (xs:=[.str "other",.str "done"]) (j:=1) rfl rfl;refine gI (bL (w:=.str "done") (ce':=cf c k g') (bN (gu (ws:=[.str "other",.str "done"]) (by trivial) z2) (bS (ws:=[.bl true]) (aI (dQ (au rfl) rfl) aK) rfl) e0) (ji ?_));have:=tR (c:=c) (k:=k) (g:=g') (w:=.str "done") [] (by simp only[aU]);rwa [append_nil] at this
 have bad:∀{nm word:PySem.Str} {o l b':Bool},d_v fu [.cel k,oW w] c=some (.ex ⟨nm,none⟩ c)->iB cE "StoneError" ⟨nm,none⟩=true->gW cE nm=some [nm, "StoneError"] ->
   ([nm, "StoneError"]:List PySem.Str).contains "Over" = o->([nm, "StoneError"]:List PySem.Str).contains "NoLay" = l->([nm, "StoneError"]:List PySem.Str).contains "NoBreath" = b'->([nm, "StoneError"]:List PySem.Str).contains "Again" = false ->
   (["NoBack", "NoBoard", "NoPoint", "NoRow", "NoStand"]:List PySem.Str).any ([nm, "StoneError"]:List PySem.Str).contains=false->(["NoText", "TooMuch"]:List PySem.Str).any ([nm, "StoneError"]:List PySem.Str).contains=false ->
   kD o l b' false=[.str word]->kM false (c++[C.exn nm]) (.lst [.str word]) (.lst [.str "again"])=some (.bl false)->d_x fu [.cel k,oW w] c=some (.ok (.str word) c):=fun hd hu ha p1 p2 p3 p4 p5 p6 ew eq=>by
  refine yy fu G hd hu (by show ip (c++[C.exn _]) (.cel c.length)=_;simp only[ip,k9]) ha p1 p2 p3 p4 p5 p6 (by simp only[aU]) (.inl ⟨rfl,ew,eq⟩)
 cases he:ended g with
 | true =>
  refine .inr ⟨fun g' D=>(by rw[D.1] at he;cases he),?_⟩;rw[show lx b s h g w=.str "over" by unfold lx;rw[if_pos he]];exact bad (o:=true) (l:=false) (b':=false) (zA fu G O _ he) (by decide +kernel) (by decide +kernel) (by decide +kernel) (by decide +kernel) (by decide +kernel) (by decide +kernel) (by decide +kernel) (by decide +kernel) rfl ((pL _ _).trans (congrArg (fun t=>some (W.bl t)) (by decide +kernel)))
 | false =>
  have er:lx b s h g w=dA b s h g w:=by unfold lx;rw[if_neg (by rw[he];simp)]
  cases w with
  | none=>exact .inl ⟨_,⟨he,rfl⟩,hdone (zz fu G O he)⟩
  | some p =>
   have hp:=hw p rfl
   by_cases p0:(cur g).getD p 0=0
   ·by_cases fr:fk b (cur g) (hnd h g.done.length) p
    ·cases hm:dg s h g (lS b (cur g) (hnd h g.done.length) p) with
     | none=>exact .inl ⟨_,⟨he,hp,p0,fr,hm,rfl⟩,hdone (yA fu hfu N G O h12 he hp p0 fr hm)⟩
     | some m =>
      refine .inr ⟨fun g' D=>(by rw[D.2.2.2.2.1] at hm;cases hm),?_⟩;rw[er,show dA b s h g (some p)=nW m by unfold dA;dsimp only;rw[if_pos p0,if_pos fr,hm]];have hd:=zW fu hfu N G O h12 he hp p0 fr hm;exact yy (nm := "Again") (o:=false) (l:=false) (b':=false) (a:=true) fu G hd (by show iB cE "StoneError" ⟨"Again",none⟩=true;decide +kernel) (by show ip (c++[C.exm _ _ _]) (.cel c.length)=_;simp only[ip,k9]) (by decide +kernel) (by decide +kernel) (by decide +kernel) (by decide +kernel) (by decide +kernel) (by decide +kernel) (by decide +kernel) (by simp only[nW,aU]) (.inr ⟨rfl,rfl,m,rfl,rfl⟩)
    ·refine .inr ⟨fun g' D=>fr D.2.2.2.1,?_⟩;rw[er,show dA b s h g (some p)=.str "breath" by unfold dA;dsimp only;rw[if_pos p0,if_neg fr]];exact bad (o:=false) (l:=false) (b':=true) (qk fu G O he (sH fu hfu N O.cur (jO h12 _) hp p0 fr)) (by decide +kernel) (by decide +kernel) (by decide +kernel) (by decide +kernel) (by decide +kernel) (by decide +kernel) (by decide +kernel) (by decide +kernel) rfl ((pL _ _).trans (congrArg (fun t=>some (W.bl t)) (by decide +kernel)))
   ·refine .inr ⟨fun g' D=>p0 D.2.2.1,?_⟩;rw[er,show dA b s h g (some p)=.str "lay" by unfold dA;dsimp only;rw[if_neg p0]];exact bad (o:=false) (l:=true) (b':=false) (qk fu G O he (sI fu O.cur N.B.h36 hp p0)) (by decide +kernel) (by decide +kernel) (by decide +kernel) (by decide +kernel) (by decide +kernel) (by decide +kernel) (by decide +kernel) (by decide +kernel) rfl ((pL _ _).trans (congrArg (fun t=>some (W.bl t)) (by decide +kernel)))
theorem yx(D:dN b s h g w g'):∃t:List Nat,dA b s h g w=.tup [wS (cur g'),wL t]/\∃is,g'=push g is w t.length:=by
 obtain⟨he,D⟩:=D;have hc:∀(is:List Int) (w:Option Nat) (n:Nat),cur (push g is w n)=is:=fun is w n=>by
  unfold cur push;rw[length_append,length_cons,length_nil,show g.past.length+(0+1)-1=g.past.length by omega,uq rfl]
 cases w with
 | none =>
  subst D;exact⟨[],by rw[hc];rfl,_,rfl⟩
 | some p =>
  obtain⟨hp,p0,fr,hm,rfl⟩:=D;refine⟨lT b (cur g) (hnd h g.done.length) p,?_,_,rfl⟩;rw[hc];unfold dA;dsimp only;rw[if_pos p0,if_pos fr,hm]
theorem DJ(D:∀g',¬dN b s h g w g')(he:ended g=false)(hw:∀p,w=some p->p<b.length):(∃x,dA b s h g w=.str x)\/∃m,dA b s h g w=nW m:=by
 cases w with
 | none=>exact absurd ⟨he,rfl⟩ (D _)
 | some p =>
  unfold dA;dsimp only
  by_cases p0:(cur g).getD p 0=0
  ·by_cases fr:fk b (cur g) (hnd h g.done.length) p
   ·rw[if_pos p0,if_pos fr];cases hm:dg s h g (lS b (cur g) (hnd h g.done.length) p) with
    | none=>exact absurd ⟨he,hw p rfl,p0,fr,hm,rfl⟩ (D _)
    | some m=>exact .inr ⟨m,rfl⟩
   ·rw[if_pos p0,if_neg fr];exact .inl ⟨_,rfl⟩
  ·rw[if_neg p0];exact .inl ⟨_,rfl⟩
end
theorem yw{c:Sl->M W}{put:Option Nat}{ok:cV->Bool}{b:DS}{x:cV}(h:c sl ce=some (.ex x c1))(hok:ok x=true)(e:hd x sl c1=some (.go .ct sl' c2))(q:Q (.go .ct sl' c2)):Run (aq (gz c put ok hd) b) sl ce Q :=
 ⟨_,by simp only[aq,gz,h,hok,if_true,e],q⟩
section
variable {is:List Int}
def kT(b:List (List Nat))(is:List Int)(o:Int)(p:Nat):W:=.tup [nW p,wS (lS b is o p),wL (lT b is o p)]
open Classical in
def eM(b:List (List Nat))(is:List Int)(o:Int)(p:Nat):Bool:=decide (is.getD p 0=0/\fk b is o p)
open Classical in
theorem bH:eM b is o p=true↔is.getD p 0=0/\fk b is o p:=by unfold eM;exact decide_eq_true_iff
theorem yt(n:Nat)(p:Nat):aU n (kT b is o p):=by simp only[aU,cB,kT,nW];exact⟨trivial,bz _ _,aG _ _,trivial⟩
theorem tQ{α:Type}{f:α->W}(n:Nat)(h:∀x,aU n (f x)):∀l:List α,cB n (l.map f)
 | []=>by simp only[map_nil,cB]
 | x::l=>by simp only[map_cons,cB];exact⟨h x,tQ n h l⟩
theorem H0(fu:Nat)(hfu:200<=fu)(N:bT b)(S:bj b is)(ho:o=1\/o=2)(hlt:∀p∈pts,p<b.length)(hlen:pts.length<=100) :
  cX (d_ha fu) [wB b,wS is,.int o,wL pts] ce=some (.ok (.lst ((pts.filter (eM b is o)).map (kT b is o))) ce):=by
 have hz:=fI;have z200:200<sizeLine:=by decide
 have z3:3<=sizeLine:=by decide
 have h36:=N.B.h36;refine jU ?_ (tQ _ (yt _) _);unfold d_ha;refine dm [some (wB b),some (wS is),some (.int o),some (wL pts),none,none,none] rfl ?_;refine aZ (gY aK (zero_le _)) ?_;refine aS ?_;have O0:=(Own.start ce).alloc (C.lst []);refine iI (zs:=pts) (en:=nW) (c1:=ce++[.lst []]) (jc (au rfl))
  (fun d sl c=>∃x5 x6,sl=[some (wB b),some (wS is),some (.int o),some (wL pts),some (.cel ce.length),x5,x6]/\Own ce c [(ce.length,C.lst ((d.filter (eM b is o)).map (kT b is o)))])
  ⟨_,_,rfl,O0⟩ ?_ ?_
 ·rintro d x r sl c e hx ⟨x5,x6,rfl,O⟩;have hxb:=hlt x hx;have hdl:d.length<100:=by have:=congrArg List.length e;simp only[length_append,length_cons] at this;omega
  have go:bc 4 (d_la fu) (eJ (ag (aa 0) (ag (aa 1) (ag (aa 2) (ag (aa 5) ai))))) [some (wB b),some (wS is),some (.int o),some (wL pts),some (.cel ce.length),some (nW x),x6] c=d_la fu [wB b,wS is,.int o,nW x] c:=by have:eJ (ag (aa 0) (ag (aa 1) (ag (aa 2) (ag (aa 5) ai)))) [some (wB b),some (wS is),some (.int o),some (wL pts),some (.cel ce.length),some (nW x),x6] c=some (.ok [wB b,wS is,.int o,nW x] c):=k7 (aI (au rfl) (aI (au rfl) (aI (au rfl) (aI (au rfl) aK))));simp only[bc,aw,this];rfl
  unfold zY;refine aS ?_
  by_cases p0:is.getD x 0=0
  ·by_cases hf:fk b is o x
   ·have ec:eM b is o x=true:=bH.mpr ⟨p0,hf⟩;refine yK (go.trans (sG (ce:=c) fu hfu N S ho hxb p0 hf)) ?_;have ea:=je (y:=kT b is o x) O.g0 (by rw[length_map];exact lt_of_le_of_lt (length_filter_le _ _) (by omega));refine kx (w:=.non) (gD (au rfl) (fU O.g0) (aI (jf (ws:=[nW x,wS (lS b is o x),wL (lT b is o x)]) (aI (au rfl) (aI (bN (au rfl) aV (fJ (xs:=[wS (lS b is o x),wL (lT b is o x)]) (j:=0) rfl rfl)) (aI (bN (au rfl) aV (fJ (xs:=[wS (lS b is o x),wL (lT b is o x)]) (j:=1) rfl rfl)) aK))) z3) aK) ea) ?_;refine⟨_,_,rfl,?_⟩;rw[filter_append,filter_cons_of_pos ec,filter_nil,map_append];exact O.set0 _
   ·have ec:¬eM b is o x=true:=by intro q;exact hf (bH.mp q).2
    refine yw (go.trans (sH (ce:=c) fu hfu N S ho hxb p0 hf)) (by decide +kernel) rfl ?_;refine⟨_,_,rfl,?_⟩;rw[filter_append,filter_cons_of_neg ec,filter_nil,append_nil];exact O
  ·have ec:¬eM b is o x=true:=by intro q;exact p0 (bH.mp q).1
   refine yw (go.trans (sI (ce:=c) fu S h36 hxb p0)) (by decide +kernel) rfl ?_;refine⟨_,_,rfl,?_⟩;rw[filter_append,filter_cons_of_neg ec,filter_nil,append_nil];exact O
 ·rintro sl c ⟨x5,x6,rfl,O⟩;exact bL (w:=.cel ce.length) (ce':=c) (au rfl) (O.finO (by simp only[eR];exact tQ _ (yt _) _))
end
theorem xk(h:n<=1000):kX aQ [nW n] c=some (.ok (wL (List.range n)) c):=by
 have z:2000<sizeLine:=by decide
 have r1:jF [nW n]=some (.rng 0 n):=by simp only[jF,nW];rw[if_pos ⟨by omega,by omega⟩,toNat_natCast]
 simp only[kX,r1];rw[if_pos (by omega)];have e:(List.range n).map (fun(i:Nat)=>W.int (0+(i:Int)))=(List.range n).map nW:=by apply map_congr_left;intro i _;simp[nW]
 rw[e,iD (by rw[length_map,length_range];omega)]
section
variable {l:Ce} {s:Bool} {h:Int} {g:Gm} {w:Option Nat} {is:List Int}
theorem GQ(fu:Nat)(G:GC c k b s h (push g is w n)):d_u fu [.cel k] c=some (.ok .non (cf c k g)):=by
 have l1:=g6 G.p;have l2:=g6 G.d;have l3:=g6 G.t;have e1:(push g is w n).past.map wS=g.past.map wS++[wS is]:=by simp[push]
 have e2:(push g is w n).done.map oW=g.done.map oW++[oW w]:=by simp[push]
 have e3:(push g is w n).tk.map nW=g.tk.map nW++[nW n]:=by simp[push]
 have a1:=pX G.p e1;have G1i:(c.set (k+1) (.lst (g.past.map wS)))[k]?=some (.ins "Game" (nI b s h k)):=by rw[getElem?_set_ne (by omega)];exact G.i
 have G1d:(c.set (k+1) (.lst (g.past.map wS)))[k+2]?=some (.lst ((push g is w n).done.map oW)):=by rw[getElem?_set_ne (by omega)];exact G.d
 have a2:=pX G1d e2;have G2i:((c.set (k+1) (.lst (g.past.map wS))).set (k+2) (.lst (g.done.map oW)))[k]?=some (.ins "Game" (nI b s h k)):=by rw[getElem?_set_ne (by omega)];exact G1i
 have G2t:((c.set (k+1) (.lst (g.past.map wS))).set (k+2) (.lst (g.done.map oW)))[k+3]?=some (.lst ((push g is w n).tk.map nW)):=by rw[getElem?_set_ne (by omega),getElem?_set_ne (by omega)];exact G.t
 have a3:=pX G2t e3;have tr:=xB G.d;rw[e2,show((g.done.map oW++[oW w]).isEmpty)=false by simp] at tr;unfold d_u;refine pG [some (.cel k)] rfl ?_;refine bO (p:=!true) (ce':=c) (jj (pP (eV (au rfl) G.i rfl) tr)) (fun q=>by cases q) (fun _=>cH ?_);refine iU (pO (eV (au rfl) G.i rfl) (by simp only[bU,G.p];rfl) a1) ?_;refine iU (pO (eV (au rfl) G1i rfl) (by simp only[bU,G1d];rfl) a2) ?_;refine kx (pO (eV (au rfl) G2i rfl) (by simp only[bU,G2t];rfl) a3) ?_;exact⟨_,_,rfl,by have:=tR (c:=c) (k:=k) (g:=g) (w:=.non) [] (by simp only[aU]);rwa [append_nil] at this⟩
end
section
variable {l:Ce} {s:Bool} {h:Int} {g:Gm}
theorem HZ(fu:Nat)(G:GC c k b s h g)(O:cZ b g):d_j fu [.cel k] c=some (.ok (.lst (g.past.map wS)) c):=by
 have hz:(1000:Nat)<sizeLine:=by decide
 have lim:=O.lim;have n1:=O.n1;unfold d_j;refine dm [some (.cel k)] rfl ?_;exact bL (w:=.lst (g.past.map wS)) (ce':=c) (bS (ws:=[.cel (k+1)]) (aI (eV (au rfl) G.i rfl) aK) (by rw[qb (gK G.p)];exact iD (by rw[length_map];omega))) (dG (by simp only[aU];exact tS _ _))
theorem GV(fu:Nat)(G:GC c k b s h g)(O:cZ b g):d_n fu [.cel k] c=some (.ok (.lst (g.done.map oW)) c):=by
 have hz:(1000:Nat)<sizeLine:=by decide
 have lim:=O.lim;unfold d_n;refine dm [some (.cel k)] rfl ?_;exact bL (w:=.lst (g.done.map oW)) (ce':=c) (bS (ws:=[.cel (k+2)]) (aI (eV (au rfl) G.i rfl) aK) (by rw[qb (gK G.d)];exact iD (by rw[length_map];omega))) (dG (by simp only[aU];exact nu _ _))
end
section
variable {l:Ce} {s:Bool} {h:Int} {g:Gm} {w:Option Nat} {is:List Int}
open Classical in
def e9(b:List (List Nat))(s:Bool)(h:Int)(g:Gm):List Nat:=((List.range b.length).filter (eM b (cur g) (hnd h g.done.length))).filter fun p=>decide (dg s h g (lS b (cur g) (hnd h g.done.length) p)=none)
def bg(b:List (List Nat))(s:Bool)(h:Int)(g:Gm):List (Option Nat):=if ended g=true then [] else (e9 b s h g).map some++[none]
theorem iJ:w∈bg b s h g↔∃g',dN b s h g w g':=by
 unfold bg;cases he:ended g with
 | true =>
  rw[if_pos rfl];constructor
  ·intro q;cases q
  ·rintro⟨g',D⟩;rw[D.1] at he;cases he
 | false =>
  rw[if_neg (by simp),mem_append,mem_map,mem_singleton];cases w with
  | none=>exact⟨fun _=>⟨_,he,rfl⟩,fun _=>.inr rfl⟩
  | some p =>
   constructor
   ·rintro(⟨q,hq,e⟩|q)
    ·cases e;obtain⟨h1,h2⟩:=mem_filter.mp hq;obtain⟨h1,h3⟩:=mem_filter.mp h1;obtain⟨h3,h4⟩:=bH.mp h3;exact⟨_,he,mem_range.mp h1,h3,h4,by simpa using h2,rfl⟩
    ·cases q
   ·rintro⟨g',_,hp,p0,fr,hc,_⟩;exact .inl ⟨p,mem_filter.mpr ⟨mem_filter.mpr ⟨mem_range.mpr hp,bH.mpr ⟨p0,fr⟩⟩,decide_eq_true hc⟩,rfl⟩
theorem GU(h36:b.length<=36):(bg b s h g).length<=40:=by
 unfold bg;split
 ·exact zero_le _
 ·rw[length_append,length_map];have h1:=length_filter_le (eM b (cur g) (hnd h g.done.length)) (List.range b.length);have h2:(e9 b s h g).length<=((List.range b.length).filter (eM b (cur g) (hnd h g.done.length))).length:=length_filter_le _ _;rw[length_range] at h1;simp only[length_cons,length_nil];omega
theorem zx(fu:Nat)(hfu:200<=fu)(N:bT b)(G:GC c k b s h g)(O:cZ b g)(h12:h=1\/h=2):d_b fu [.cel k] c=some (.ok (.cel c.length) (c++[.lst ((bg b s h g).map oW)])):=by
 have hz:=fI;have z200:200<sizeLine:=by decide
 have h36:=N.B.h36;have e1:=oP fu G O;have e2:=oQ fu G O;have e3:=qm fu G;have e4:=H0 (ce:=c) fu hfu N O.cur (jO h12 g.done.length) (pts:=List.range b.length) (fun p hp=>mem_range.mp hp) (by rw[length_range];omega);have er:kX aQ [nW b.length] c=some (.ok (wL (List.range b.length)) c):=xk (by omega);unfold d_b;refine dm [some (.cel k),none,none] rfl ?_;refine bO (p:=!(!ended g)) (ce':=c) (bA (dQ (dP (ws:=[]) (au rfl) G.i rfl aK rfl e1) (by simp only[fL,lX]))) (fun q=>?_) (fun q=>cH ?_)
 ·have he:ended g=true:=by simpa using q
  refine gI (bL (gY aK (zero_le _)) ?_);have:bg b s h g=[]:=by unfold bg;rw[if_pos he]
  rw[this];exact((Own.start c).alloc (C.lst [])).finO (by simp only[eR,cB])
 ·have he:ended g=false:=by simpa using q
  refine aZ (w:=.lst (((List.range b.length).filter (eM b (cur g) (hnd h g.done.length))).map (kT b (cur g) (hnd h g.done.length)))) (ce':=c) (cQ (ws:=[wB b,wS (cur g),.int (hnd h g.done.length),wL (List.range b.length)]) (aI (eV (au rfl) G.i rfl) (aI (dP (ws:=[]) (au rfl) G.i rfl aK rfl e2) (aI (dP (ws:=[]) (au rfl) G.i rfl aK rfl e3) (aI (bS (ws:=[nW b.length]) (aI (bS (ws:=[wB b]) (aI (eV (au rfl) G.i rfl) aK) qf) aK) er) aK)))) rfl e4) ?_;refine aS ?_;have hfl:((List.range b.length).filter (eM b (cur g) (hnd h g.done.length))).length<=36:=by have h1:=length_filter_le (eM b (cur g) (hnd h g.done.length)) (List.range b.length);rw[length_range] at h1;omega
  have lc:=qL (zs:=(List.range b.length).filter (eM b (cur g) (hnd h g.done.length))) (en:=kT b (cur g) (hnd h g.done.length)) (t:=fun p=>bZ (oW (dg s h g (lS b (cur g) (hnd h g.done.length) p)))) (g:=nW) (js:=[0]) (di:=cS (aa 1)) (sl:=[some (.cel k),some (.lst (((List.range b.length).filter (eM b (cur g) (hnd h g.done.length))).map (kT b (cur g) (hnd h g.done.length)))),none]) (ce:=c) (c1:=c)
   (c:=eJ (dB (c7 ja (cC "Game" "came_at" 2 (d_g fu) (aa 1) (ag (aD aC (aa 0) (dC (.int 1))) ai))))) (e:=aD aC (aa 0) (dC (.int 0))) (jc (au rfl)).is (by omega)
   (fun p _=>k7 (bA (dQ (dP (ws:=[wS (lS b (cur g) (hnd h g.done.length) p)]) (au rfl) G.i rfl (aI (bN (au rfl) aV (fJ (xs:=[nW p,wS (lS b (cur g) (hnd h g.done.length) p),wL (lT b (cur g) (hnd h g.done.length) p)]) (j:=1) rfl rfl)) aK) rfl (xp fu G O _)) rfl)))
   (fun p _ _=>bN (au rfl) aV (fJ (xs:=[nW p,wS (lS b (cur g) (hnd h g.done.length) p),wL (lT b (cur g) (hnd h g.done.length) p)]) (j:=0) rfl rfl))
  have ef:((List.range b.length).filter (eM b (cur g) (hnd h g.done.length))).filter (fun p=>bZ (oW (dg s h g (lS b (cur g) (hnd h g.done.length) p))))=e9 b s h g:=by
   unfold e9;apply filter_congr;intro p _;cases dg s h g (lS b (cur g) (hnd h g.done.length) p) with
   | none=>simp[oW,bZ]
   | some m=>simp[oW,nW,bZ]
  rw[ef] at lc;refine aZ lc ?_;refine aS ?_;have O0:=(Own.start c).alloc (C.lst ((e9 b s h g).map nW));have hop:(e9 b s h g).length<=36:=le_trans (length_filter_le _ _) hfl;have ea:=je (y:=.non) O0.g0 (by rw[length_map];omega);refine iU (gD (ws:=[.non]) (au rfl) (fU O0.g0) (aI aV aK) ea) ?_;have O1:=O0.set0 (C.lst ((e9 b s h g).map nW++[.non]));have eo:(bg b s h g).map oW=(e9 b s h g).map nW++[.non]:=by unfold bg;rw[if_neg (by rw[he];simp),map_append,map_map];rfl
  rw[eo];refine bL (w:=.cel c.length) (au rfl) (O1.finO ?_);rw[<- eo];simp only[eR];exact nu _ _
theorem yr(fu:Nat)(hfu:200<=fu)(N:bT b)(G:GC c k b s h g)(O:cZ b g)(h12:h=1\/h=2):cX (d_b fu) [.cel k] c=some (.ok (.lst ((bg b s h g).map oW)) c):=jU (zx fu hfu N G O h12) (nu _ _)
end
section
variable {l:Ce} {s:Bool} {h:Int} {g g1 g2:Gm} {w:Option Nat} {is0:List Int}
theorem dN.uniq(D1:dN b s h g w g1)(D2:dN b s' h g w g2):g1=g2:=by
 cases w with
 | none=>exact D1.2.trans D2.2.symm
 | some p=>exact D1.2.2.2.2.2.trans D2.2.2.2.2.2.symm
theorem dN.lt(D:dN b s h g w g'):∀p,w=some p->p<b.length:=fun p e=>by subst e;exact D.2.1
end
section
variable {l:Ce} {s:Bool} {h:Int} {g:Gm} {w:Option Nat} {is:List Int}
theorem lW{x y v:W}(hx:drf c x=v)(hy:drf c y=v)(hc:bh 8 v=true)(ng:Bool):bD ng c x y=some (.bl (!ng)):=by unfold bD;rw[hx,hy,hc,yR 8 hc];cases ng<;>rfl
theorem DI(fu:Nat)(O:cZ b g){a:Sl->M W}(ha:a sl c=some (.ok mo c))(hm:bo c mo (fE h g)):cM aQ [] (cS a) dD (aD aC (aa 0) (dC (.int 0))) sl c=some (.ok (.lst (g.past.map wS)) c):=by
 have hz:(1000:Nat)<sizeLine:=by decide
 have n1:=O.n1;have lim:=O.lim;have:=nS (js:=[]) (zs:=List.range g.past.length) (en:=kJ h g) (g:=fun m=>wS (g.past.getD m [])) (e:=aD aC (aa 0) (dC (.int 0))) (nY ha hm) (by rw[length_range];omega) (fun m _=>bN (au rfl) aV (fJ (xs:=[wS (g.past.getD m []),.int (hnd h m)]) (j:=0) rfl rfl));rw[this];congr 3;apply ext_getElem?;intro i
 by_cases hi:i<g.past.length
 ·rw[getElem?_map,getElem?_map,getElem?_range hi,getElem?_eq_getElem hi];simp only[map_some,getD_eq_getElem?_getD,getElem?_eq_getElem hi,getD_some]
 ·rw[getElem?_eq_none (by simp;omega),getElem?_eq_none (by simp;omega)]
structure St (c:Ce) (b:List (List Nat)) (s:Bool) (h:Int) (g:Gm):Prop where
 gc:GC c 0 b s h g
 mo:c[4]?=some (.lst (fE h g))
 ds:c[5]?=some (.lst (g.done.map oW))
 len:c.length=6
open Classical in
theorem DH(p:Nat):eQ [dA b s h g (some p),.ty "tuple"] c=some (.ok (.bl (eM b (cur g) (hnd h g.done.length) p&&decide (dg s h g (lS b (cur g) (hnd h g.done.length) p)=none))) c):=by
 unfold dA;dsimp only
 by_cases p0:(cur g).getD p 0=0
 ·by_cases fr:fk b (cur g) (hnd h g.done.length) p
  ·have hc:eM b (cur g) (hnd h g.done.length) p=true:=bH.mpr ⟨p0,fr⟩;rw[if_pos p0,if_pos fr,hc];cases dg s h g (lS b (cur g) (hnd h g.done.length) p) with
   | none=>simp only[decide_true,Bool.and_true];rfl
   | some m=>simp only[reduceCtorEq,decide_false,Bool.and_false];rfl
  ·have hc:eM b (cur g) (hnd h g.done.length) p=false:=by
    cases hq:eM b (cur g) (hnd h g.done.length) p with
    | true=>exact absurd (bH.mp hq).2 fr
    | false=>rfl
   rw[if_pos p0,if_neg fr,hc];rfl
 ·have hc:eM b (cur g) (hnd h g.done.length) p=false:=by
   cases hq:eM b (cur g) (hnd h g.done.length) p with
   | true=>exact absurd (bH.mp hq).1 p0
   | false=>rfl
  rw[if_neg p0,hc];rfl
theorem B5{cc:Ce}(e:cc[k]?=some (.lst xs)):eQ [.cel k,.ty "list"] cc=some (.ok (.bl true) cc):=by simp only[eQ,jo,e];rw[if_pos (by decide)];rfl
theorem zw(fu:Nat)(hfu:200<=fu)(N:bT b)(h12:h=1\/h=2)(T:St c b s h g)(O:cZ b g){l:Ce}{x7:Option W}(hj:6<j)(e6:(c++.lst ((bg b s h g).map oW)::l)[j]?=some (.lst ((bg b s h g).map oW))) :
  Run (aq (bb (ie (fK (dB (aR eQ (ag (aa 5) (ag (dC (.ty "list")) ai))))) (dB (aD (bD true) (aa 5) (aa 6)))) (aW (dC (.bl false))) bu)
 (aq (bb (dB (aH gw (aR bK (ag (cM aQ [] (cS (aa 5)) (dB (aR eQ (ag (aa 0) (ag (dC (.ty "bool")) ai)))) (aa 0)) ai)) (dC (.int 0)))) (aW (dC (.bl false))) bu)
 (aq (b_ (cR cP (aa 5) (ag (dC (.int 0)) ai)))
 (aq (bb (ie (dB (aD (bD true) (cC "Game" "open_deeds" 1 (cX (d_b fu)) (aa 0) ai) (aa 6))) (dB (aD (bD true) (cC "Game" "deeds" 1 (d_n fu) (aa 0) ai) (aa 4)))) (aW (dC (.bl false))) bu)
 (aW (aD (bD false) (cC "Game" "stands" 1 (d_j fu) (aa 0) ai) (cM aQ [] (cS (aa 3)) dD (aD aC (aa 0) (dC (.int 0))))))))))
   [some (.cel 0),some (wB b),some (.str (rl s)),some (.cel 4),some (.cel 5),some (.cel 6),some (.cel j),x7] (c++.lst ((bg b s h g).map oW)::l) (Rt fun w c'=>finC c c' w=some (.ok (.bl true) c)):=by
 have hz:(1000:Nat)<sizeLine:=by decide
 have lo:=GU (s:=s) (h:=h) (g:=g) N.B.h36;have l6:=T.len;have at6:(c++.lst ((bg b s h g).map oW)::l)[6]?=some (.lst ((bg b s h g).map oW)):=by rw[getElem?_append_right (by omega),l6];rfl
 have q1:bD true (c++.lst ((bg b s h g).map oW)::l) (.cel 6) (.cel j)=some (.bl (!true)):=lW (v:=.lst ((bg b s h g).map oW)) (by simp only[drf,at6]) (by simp only[drf,e6]) (ug 7 _) true;refine bO (p:=!true||!true) (ce':=c++.lst ((bg b s h g).map oW)::l) (mQ (jj (bA (bS (ws:=[.cel 6,.ty "list"]) (by trivial) (B5 at6)))) (fun _=>bA (bN (au rfl) (au rfl) q1))) (fun z=>by cases z) (fun _=>cH ?_);have lc:=qK (js:=[]) (zs:=bg b s h g) (en:=oW) (t:=fun _=>false) (g:=oW) (di:=cS (aa 5)) (c:=dB (aR eQ (ag (aa 0) (ag (dC (.ty "bool")) ai)))) (e:=aa 0) (sl:=[some (.cel 0),some (wB b),some (.str (rl s)),some (.cel 4),some (.cel 5),some (.cel 6),some (.cel j),x7]) (nY (au rfl) (.cl at6)) (by omega) (fun w _=>bA (bS (ws:=[oW w,.ty "bool"]) (by trivial) (by cases w<;>rfl))) (fun _ _ z=>by cases z);rw[show(bg b s h g).filter (fun _=>false)=[] by simp] at lc;refine bO (p:=false) (ce':=c++.lst ((bg b s h g).map oW)::l) (bA (fZ (x:=nW 0) (bS (ws:=[.lst []]) (aI lc aK) rfl) aV rfl)) (fun z=>by cases z) (fun _=>cH ?_);have a1:=je (y:=.int 0) at6 (by rw[length_map];omega);have s1:(c++.lst ((bg b s h g).map oW)::l).set 6 (.lst ((bg b s h g).map oW++[.int 0]))=c++.lst ((bg b s h g).map oW++[.int 0])::l:=by rw[set_append_right _ _ (by omega),l6];rfl
 have e7:(c++.lst ((bg b s h g).map oW++[.int 0])::l)[j]?=some (.lst ((bg b s h g).map oW)):=by rw[<- s1,getElem?_set_ne (by omega)];exact e6
 rw[s1] at a1;refine iU (gD (ws:=[.int 0]) (au rfl) (fU at6) (aI aV aK) a1) ?_;have T3:=T.gc.app (.lst ((bg b s h g).map oW++[.int 0])::l);have m4:(c++.lst ((bg b s h g).map oW++[.int 0])::l)[4]?=some (.lst (fE h g)):=by rw[getElem?_append_left (by omega)];exact T.mo
 have m5:(c++.lst ((bg b s h g).map oW++[.int 0])::l)[5]?=some (.lst (g.done.map oW)):=by rw[getElem?_append_left (by omega)];exact T.ds
 have fc:finC c (c++.lst ((bg b s h g).map oW++[.int 0])::l) (.bl true)=some (.ok (.bl true) c):=nB (by simp only[aU]);generalize c++.lst ((bg b s h g).map oW++[.int 0])::l=c3 at T3 m4 m5 e7 fc;have q2:bD true c3 (.lst ((bg b s h g).map oW)) (.cel j)=some (.bl (!true)):=lW (v:=.lst ((bg b s h g).map oW)) rfl (by simp only[drf,e7]) (ug 7 _) true;have q3:bD true c3 (.lst (g.done.map oW)) (.cel 5)=some (.bl (!true)):=lW (v:=.lst (g.done.map oW)) rfl (by simp only[drf,m5]) (ug 7 _) true;have q4:bD false c3 (.lst (g.past.map wS)) (.lst (g.past.map wS))=some (.bl (!false)):=lW (v:=.lst (g.past.map wS)) rfl rfl (GW 6 _) false;refine bO (p:=!true||!true) (ce':=c3) (mQ (bA (bN (dP (ws:=[]) (au rfl) T3.i rfl aK rfl (yr fu hfu N T3 O h12)) (au rfl) q2)) (fun _=>bA (bN (dP (ws:=[]) (au rfl) T3.i rfl aK rfl (GV fu T3 O)) (au rfl) q3))) (fun z=>by cases z) (fun _=>cH ?_);exact bL (w:=.bl true) (ce':=c3) (bN (dP (ws:=[]) (au rfl) T3.i rfl aK rfl (HZ fu T3 O)) (DI (h:=h) (mo:=.cel 4) fu O (au rfl) (.cl m4)) q4) (ji fc)
open Classical in
def j5(b:List (List Nat))(s:Bool)(h:Int)(g:Gm)(p:Nat):Bool:=eM b (cur g) (hnd h g.done.length) p&&decide (dg s h g (lS b (cur g) (hnd h g.done.length) p)=none)
theorem yq:e9 b s h g=(List.range b.length).filter (j5 b s h g):=by unfold e9 j5;rw[filter_filter];apply filter_congr;intro p _;rw[Bool.and_comm]
theorem wY(fu:Nat)(hfu:200<=fu)(N:bT b)(h12:h=1\/h=2)(T:St c b s h g)(O:cZ b g):d_c fu [.cel 0,wB b,.str (rl s),.cel 4,.cel 5] c=some (.ok (.bl true) c):=by
 have hz:(1000:Nat)<sizeLine:=by decide
 have h36:=N.B.h36;have l6:=T.len;have lim:=O.lim;have e1:=zx fu hfu N T.gc O h12;rw[l6] at e1;unfold d_c;refine dm [some (.cel 0),some (wB b),some (.str (rl s)),some (.cel 4),some (.cel 5),none,none,none] rfl ?_;refine aZ (w:=.cel 6) (ce':=c++[.lst ((bg b s h g).map oW)]) (dP (ws:=[]) (au rfl) T.gc.i rfl aK rfl e1) ?_;refine aS ?_;refine aZ (w:=.cel 7) (ce':=c++[.lst ((bg b s h g).map oW),.lst []]) (by
  have:=gY (sl:=[some (.cel 0),some (wB b),some (.str (rl s)),some (.cel 4),some (.cel 5),some (.cel 6),none,none]) (ce:=c++[.lst ((bg b s h g).map oW)]) aK (zero_le _);rw[this,length_append,l6,append_assoc];rfl) ?_
 refine aS ?_;refine iI (zs:=List.range b.length) (en:=nW) (c1:=c++[.lst ((bg b s h g).map oW),.lst []]) (iP (n:=b.length) (aI (bS (ws:=[wB b]) (by trivial) qf) aK) (by omega))
  (fun d sl c'=>∃x7,sl=[some (.cel 0),some (wB b),some (.str (rl s)),some (.cel 4),some (.cel 5),some (.cel 6),some (.cel 7),x7]/\c'=c++[.lst ((bg b s h g).map oW),.lst ((d.filter (j5 b s h g)).map nW)])
  ⟨_,rfl,rfl⟩ ?_ ?_
 ·rintro d p r sl c' e hm ⟨x7,rfl,rfl⟩;have hp:p<b.length:=mem_range.mp hm;have dl:d.length<=36:=by have:=congrArg List.length e;rw[length_range,length_append] at this;omega
  have fl:=length_filter_le (j5 b s h g) d;unfold AN;refine aS ?_;have m4:∀l:Ce,(c++l)[4]?=some (.lst (fE h g)):=fun l=>by rw[getElem?_append_left (by omega)];exact T.mo
  have f1:=rV (c:=c++[.lst ((bg b s h g).map oW),.lst ((d.filter (j5 b s h g)).map nW)]) (s:=s) (w:=some p) fu hfu N O h12 (mo:=.cel 4) (gK (m4 _)) (fun q hq=>by cases hq;exact hp);refine fy (p:=j5 b s h g p) (ce':=c++[.lst ((bg b s h g).map oW),.lst ((d.filter (j5 b s h g)).map nW)]) (bA (bS (ws:=[dA b s h g (some p),.ty "tuple"]) (aI (cQ (ws:=[wB b,.str (rl s),.cel 4,nW p]) (by trivial) rfl f1) (by trivial)) (DH p))) (fun z=>?_) (fun z=>hJ ?_)
  ·have at7:(c++[C.lst ((bg b s h g).map oW),.lst ((d.filter (j5 b s h g)).map nW)])[7]?=some (.lst ((d.filter (j5 b s h g)).map nW)):=by rw[getElem?_append_right (by omega),l6];rfl
   have a1:=je (y:=nW p) at7 (by rw[length_map];omega);rw[set_append_right _ _ (by omega),l6] at a1;refine kx (gD (ws:=[nW p]) (au rfl) (fU at7) (aI (au rfl) aK) a1) ?_;refine⟨_,rfl,?_⟩;rw[filter_append,filter_cons,if_pos z,map_append];rfl
  ·refine⟨_,rfl,?_⟩;rw[filter_append,filter_cons,if_neg (by rw[z];simp),filter_nil,append_nil]
 ·rintro sl c' ⟨x7,rfl,rfl⟩;rw[<- yq];have at7:(c++[C.lst ((bg b s h g).map oW),.lst ((e9 b s h g).map nW)])[7]?=some (.lst ((e9 b s h g).map nW)):=by rw[getElem?_append_right (by omega),l6];rfl
  have ol:(e9 b s h g).length<=36:=by rw[yq];have:=length_filter_le (j5 b s h g) (List.range b.length);rw[length_range] at this;omega
  have a1:=je (y:=.non) at7 (by rw[length_map];omega);rw[set_append_right _ _ (by omega),l6] at a1;refine iU (gD (ws:=[.non]) (au rfl) (fU at7) (aI aV aK) a1) ?_;refine(?_:Run _ _ (c++[C.lst ((bg b s h g).map oW),.lst ((e9 b s h g).map nW++[.non])]) _);have m5:∀l:Ce,(c++l)[5]?=some (.lst (g.done.map oW)):=fun l=>by rw[getElem?_append_left (by omega)];exact T.ds
  have f2:=wZ (c:=c++[C.lst ((bg b s h g).map oW),.lst ((e9 b s h g).map nW++[.non])]) fu lim (ds:=.cel 5) (gK (m5 _));refine bO (p:=!(!ended g)) (ce':=c++[C.lst ((bg b s h g).map oW),.lst ((e9 b s h g).map nW++[.non])]) (bA (dQ (cQ (ws:=[.cel 5]) (by trivial) rfl f2) (by simp only[fL,lX]))) (fun z=>?_) (fun z=>cH ?_)
  ·have he:ended g=true:=by simpa using z
   have eo:bg b s h g=[]:=by unfold bg;rw[if_pos he]
   refine aZ (w:=.cel 8) (ce':=c++.lst ((bg b s h g).map oW)::[.lst ((e9 b s h g).map nW++[.non]),.lst []]) (by
    have:=gY (sl:=[some (.cel 0),some (wB b),some (.str (rl s)),some (.cel 4),some (.cel 5),some (.cel 6),some (.cel 7),x7]) (ce:=c++[C.lst ((bg b s h g).map oW),.lst ((e9 b s h g).map nW++[.non])]) aK (zero_le _);rw[this,length_append,l6,append_assoc];rfl) ?_
   refine aS ?_;exact zw (j:=8) (x7:=x7) (l:=[.lst ((e9 b s h g).map nW++[.non]),.lst []]) fu hfu N h12 T O (by omega) (by rw[getElem?_append_right (by omega),l6,eo];rfl)
  ·have he:ended g=false:=by simpa using z
   have eo:(bg b s h g).map oW=(e9 b s h g).map nW++[.non]:=by unfold bg;rw[if_neg (by rw[he];simp),map_append,map_map];rfl
   exact zw (j:=7) (x7:=x7) (l:=[.lst ((e9 b s h g).map nW++[.non])]) fu hfu N h12 T O (by omega) (by rw[getElem?_append_right (by omega),l6,eo];rfl)
theorem B4(fu:Nat)(hfu:200<=fu)(N:bT b)(h12:h=1\/h=2)(T:St c b s h g)(O:cZ b g)(he:ended g=false):d_d fu [.cel 0,wB b,.str (rl s),.cel 4] c=some (.ok (.bl true) c):=by
 have hz:(1000:Nat)<sizeLine:=by decide
 have z1:1<=sizeLine:=by decide
 have h36:=N.B.h36;unfold d_d;refine dm [some (.cel 0),some (wB b),some (.str (rl s)),some (.cel 4),none,none,none] rfl ?_;have ec:=la (sl:=[some (.cel 0),some (wB b),some (.str (rl s)),some (.cel 4),none,none,none]) (ce:=c) (a:=aR (kX aQ) (ag (aR bK (ag (aa 1) ai)) ai)) (b:=dO (ag (dC .non) ai)) (bS (ws:=[nW b.length]) (aI (bS (ws:=[wB b]) (by trivial) qf) aK) (xk (by omega))) (gu (ws:=[.non]) (by trivial) z1) (xs:=(List.range b.length).map nW) (ys:=[.non]) rfl rfl (by rw[length_map,length_range];show b.length+1<=_;omega);rw[show(List.range b.length).map nW++[W.non]=((List.range b.length).map some++[none]).map oW by rw[map_append,map_map];rfl] at ec;refine iI (zs:=(List.range b.length).map some++[none]) (en:=oW) (c1:=c) (jc ec)
  (fun d sl c'=>∃x4 x5 x6,sl=[some (.cel 0),some (wB b),some (.str (rl s)),some (.cel 4),x4,x5,x6]/\c'=c) ⟨_,_,_,rfl,rfl⟩ ?_ ?_
 ·rintro d w r sl c' e hm ⟨x4,x5,x6,rfl,rfl⟩;have hw:∀p,w=some p->p<b.length:=fun p hp=>by
   subst hp;rcases mem_append.mp hm with q|q
   ·obtain⟨m,hm,em⟩:=mem_map.mp q;cases em;exact mem_range.mp hm
   ·simp at q
  unfold AF;refine aS ?_;have f1:=rV (s:=s) (w:=w) fu hfu N O h12 (mo:=.cel 4) (gK T.mo) hw;refine aZ (w:=dA b s h g w) (ce':=c') (cQ (ws:=[wB b,.str (rl s),.cel 4,oW w]) (by trivial) rfl f1) ?_;refine aS ?_;rcases DK fu hfu N T.gc O h12 hw with ⟨g',D,e3⟩|⟨D,e3⟩
  ·obtain⟨t,ed,is1,eg⟩:=yx D;have G':=T.gc.put g';have O':=D.ok O N h12;have es:=GZ T.gc;have ep:=Gj (c:=c') (k:=0) g' g;rw[es] at ep;generalize cf c' 0 g'=c2 at G' e3 ep;refine aZ (w:=.str "done") (ce':=c2) (cQ (ws:=[.cel 0,oW w]) (by trivial) rfl e3) ?_;refine aS ?_;rw[ed];refine fy (p:=true) (ce':=c2) (bA (bS (ws:=[.tup [wS (cur g'),wL t],.ty "tuple"]) (by trivial) rfl)) (fun _=>?_) (fun z=>by cases z);have q1:bD true c2 (.str "done") (.str "done")=some (.bl (!true)):=lW (v:=.str "done") rfl rfl rfl true;have q2:bD true c2 (wS (cur g')) (wS (cur g'))=some (.bl (!true)):=lW (v:=wS (cur g')) rfl rfl (oZ _ 7) true;have j0:aC c2 (.tup [wS (cur g'),wL t]) (.int 0)=some (wS (cur g')):=fJ (xs:=[wS (cur g'),wL t]) (j:=0) rfl rfl;refine bO (p:=!true||!true) (ce':=c2) (mQ (bA (bN (au rfl) aV q1)) (fun _=>bA (bN (dP (ws:=[]) (au rfl) G'.i rfl aK rfl (oQ fu G' O')) (bN (au rfl) aV j0) q2))) (fun z=>by cases z) (fun _=>cH ?_);have fb:d_u fu [.cel 0] c2=some (.ok .non c'):=by have:=GQ (c:=c2) (k:=0) (g:=g) (is:=is1) (w:=w) (n:=t.length) fu (by rw[<- eg];exact G');rwa [ep] at this
   refine kx (dP (ws:=[]) (au rfl) G'.i rfl aK rfl fb) ?_;exact⟨_,_,_,rfl,rfl⟩
  ·have er:lx b s h g w=dA b s h g w:=by unfold lx;rw[if_neg (by rw[he];simp)]
   rw[er] at e3;have hd:=DJ D he hw;have nt:eQ [dA b s h g w,.ty "tuple"] c'=some (.ok (.bl false) c'):=by rcases hd with ⟨x,e⟩|⟨m,e⟩<;>rw[e]<;>rfl
   have eq:bD true c' (dA b s h g w) (dA b s h g w)=some (.bl (!true)):=by rcases hd with ⟨x,e⟩|⟨m,e⟩<;>rw[e]<;>exact lW rfl rfl rfl true
   generalize dA b s h g w=v at e3 nt eq;refine aZ (w:=v) (ce':=c') (cQ (ws:=[.cel 0,oW w]) (by trivial) rfl e3) ?_;refine aS ?_;refine fy (p:=false) (ce':=c') (bA (bS (ws:=[v,.ty "tuple"]) (by trivial) nt)) (fun z=>by cases z) (fun _=>?_);refine fy (p:=!true) (ce':=c') (bA (bN (au rfl) (au rfl) eq)) (fun z=>by cases z) (fun _=>hJ ?_);exact⟨_,_,_,rfl,rfl⟩
 ·rintro sl c' ⟨x4,x5,x6,rfl,rfl⟩;exact bL (w:=.bl true) (ce':=c') aV (ji (dG (by simp only[aU])))
end
theorem yp{xs:List Int}{v i j e:Int}{d3:Sl->M W}(h0:sl[0]?=some (some (sW ns)))(h1:sl[1]?=some (some (sW xs)))(hn:ns.length<=63)(hx:xs.length<=1000)(hh:dh sl ce=some (.ok hi ce))(h3:d3 sl ce=some (.ok (.int v) ce)) :
  ∃cs:List Int,fO aQ (fR aQ (fO aQ (aa 0) (dW (dC (.int i))) (dW (dC (.int j)))) (fO aQ (aa 1) (dW (dC (.int e))) dh)) iF (dW d3) sl ce=some (.ok (sW cs) ce)/\cs.length<=ns.length+xs.length:=by
 have hz:3000<sizeLine:=by decide
 obtain⟨a,e1,l1,_⟩:=tI ns (some i) (some j);obtain⟨b,e2,l2,_⟩:=tI xs (some e) hi;have v0:aa 0 sl ce=some (.ok (sW ns) ce):=au h0;have v1:aa 1 sl ce=some (.ok (sW xs) ce):=au h1;have s1:fO aQ (aa 0) (dW (dC (.int i))) (dW (dC (.int j))) sl ce=some (.ok (sW a) ce):=by have:=pY (sl:=sl) (ce:=ce) (a:=aa 0) (xs:=ns.map W.int) v0 (m9 (aV (w:=.int i))) (m9 (aV (w:=.int j))) rfl (by rw[length_map];omega);rw[e1] at this;exact this
 have s2:fO aQ (aa 1) (dW (dC (.int e))) dh sl ce=some (.ok (sW b) ce):=by have:=pY (sl:=sl) (ce:=ce) (a:=aa 1) (xs:=xs.map W.int) (dh:=dh) (hi:=hi) v1 (m9 (aV (w:=.int e))) hh rfl (by rw[length_map];omega);rw[e2] at this;exact this
 have s3:=la s1 s2 (xs:=a.map W.int) (ys:=b.map W.int) rfl rfl (by rw[length_map,length_map];omega);rw[<- map_append] at s3;obtain⟨cs,e3,l3,_⟩:=tI (a++b) none (some v);refine⟨cs,?_,by rw[length_append] at l3;omega⟩;have:=pY (dl:=iF) (lo:=none) s3 rfl (m9 h3) (xs:=(a++b).map W.int) rfl (by rw[length_map,length_append];omega);rw[e3] at this;exact this
theorem DF(hfu:200<=FU){st:Bool}{hd:Int}{xs:List Int}{is:List Int}(N:bT b)(h12:hd=1\/hd=2){g:Gm}(T:St c b st hd g)(O:cZ b g){t:Int}{y11 y12 y13:Option W} :
  Run (sg FU) [some (sW ns),some (sW xs),some (nW n),some (.lst (ls.map pW)),some (wB b),some (wS is),some (.str (rl st)),some (.cel 0),some (.cel 4),some (.cel 5),some (.int t),y11,y12,y13] c
    (Nx fun sl c=>∃y10 y11 y12 y13 g,sl=[some (sW ns),some (sW xs),some (nW n),some (.lst (ls.map pW)),some (wB b),some (wS is),some (.str (rl st)),some (.cel 0),some (.cel 4),some (.cel 5),y10,y11,y12,y13]/\St c b st hd g/\cZ b g):=by
 have z2:2<=sizeLine:=by decide
 have hz:3000<sizeLine:=by decide
 have n1:=O.n1;have lim:=O.lim;have f1:=wY FU hfu N h12 T O;unfold sg;refine bO (p:=!true) (ce':=c) (jj (bA (cQ (ws:=[.cel 0,wB b,.str (rl st),.cel 4,.cel 5]) (by trivial) rfl f1))) (fun z=>by cases z) (fun _=>cH ?_);have f2:=wZ FU lim (gK T.ds);refine fy (p:=!ended g) (ce':=c) (bA (dQ (cQ (ws:=[.cel 5]) (by trivial) rfl f2) (by simp only[ja,lX]))) (fun z=>?_) (fun _=>hJ ⟨_,_,_,_,g,rfl,T,O⟩);have he:ended g=false:=by simpa using z
 have f3:=B4 FU hfu N h12 T O he;refine bO (p:=!true) (ce':=c) (jj (bA (cQ (ws:=[.cel 0,wB b,.str (rl st),.cel 4]) (by trivial) rfl f3))) (fun z=>by cases z) (fun _=>cH ?_);have f4:=yr FU hfu N T.gc O h12;refine aZ (w:=.lst ((bg b st hd g).map oW)) (ce':=c) (dP (ws:=[]) (au rfl) T.gc.i rfl aK rfl f4) ?_;refine aS ?_;have pos:0<(bg b st hd g).length:=by unfold bg;rw[if_neg (by rw[he];simp)];simp
 obtain⟨j,hj,ej⟩:=tH t pos;have e2:bW (.int t) (nW (bg b st hd g).length)=some (nW j):=pQ pos ej;have el:bK [.lst ((bg b st hd g).map oW)] c=some (.ok (nW (bg b st hd g).length) c):=by simp[bK,dj,bU];rfl
 have j3:=E2 (c:=c) (ds:=bg b st hd g) hj;have hmem:(bg b st hd g).getD j none∈bg b st hd g:=by rw[getD_eq_getElem?_getD,getElem?_eq_getElem hj];exact getElem_mem hj
 obtain⟨g',D⟩:=iJ.mp hmem;generalize (bg b st hd g).getD j none=w at j3 D;refine aZ (w:=oW w) (ce':=c) (bN (au rfl) (fZ (x:=.int t) (au rfl) (bS (ws:=[.lst ((bg b st hd g).map oW)]) (aI (au rfl) aK) el) e2) j3) ?_;refine aS ?_;have f5:=rV (s:=st) (w:=w) FU hfu N O h12 (gK T.mo) D.lt;obtain⟨tk,ed,is1,eg⟩:=yx D;rw[ed] at f5;have ec:cur g'=is1:=by rw[eg];unfold cur push;rw[length_append,length_cons,length_nil,show g.past.length+(0+1)-1=g.past.length by omega,uq rfl]
 rw[ec] at f5;refine aZ (w:=.tup [wS is1,wL tk]) (ce':=c) (cQ (ws:=[wB b,.str (rl st),.cel 4,oW w]) (by trivial) rfl f5) ?_;refine aS ?_;rcases E4 FU hfu N T.gc O h12 D.lt with ⟨g2,D2,f6⟩|⟨D2,_⟩
 ·obtain rfl:=D.uniq D2;have O':=D.ok O N h12;have l6:(cf c 0 g').length=6:=by rw[tT,T.len]
  have G1:=T.gc.put g';have m1:(cf c 0 g')[4]?=some (.lst (fE hd g)):=(sF (by omega) (by omega) (by omega)).trans T.mo;have d1:(cf c 0 g')[5]?=some (.lst (g.done.map oW)):=(sF (by omega) (by omega) (by omega)).trans T.ds;refine iU (dP (ws:=[oW w]) (au rfl) T.gc.i rfl (aI (au rfl) aK) rfl f6) ?_;generalize cf c 0 g'=c1 at l6 G1 m1 d1;have em:fE hd g'=fE hd g++[.tup [wS is1,.int (3-hnd hd g.done.length)]]:=by rw[eg,GX,n1,B2]
  have edn:g'.done.map oW=g.done.map oW++[oW w]:=by rw[eg];simp[push]
  have j1:aC c1 (.cel 4) (.int (-1))=some (.tup [wS (cur g),.int (hnd hd g.done.length)]):=zy (gK m1) O;have j2:aC c1 (.tup [wS (cur g),.int (hnd hd g.done.length)]) (.int 1)=some (.int (hnd hd g.done.length)):=fJ (xs:=[wS (cur g),.int (hnd hd g.done.length)]) (j:=1) rfl rfl;have j0:aC c1 (.tup [wS is1,wL tk]) (.int 0)=some (wS is1):=fJ (xs:=[wS is1,wL tk]) (j:=0) rfl rfl;have a1:=je (y:=.tup [wS is1,.int (3-hnd hd g.done.length)]) m1 (by rw[qj];omega);rw[<- em] at a1;refine iU (gD (ws:=[.tup [wS is1,.int (3-hnd hd g.done.length)]]) (au rfl) (fU m1) (aI (jf (aI (bN (au rfl) aV j0) (aI (fZ (x:=.int 3) aV (bN (bN (au rfl) (dQ aV rfl) j1) aV j2) rfl) aK)) z2) aK) a1) ?_;have d2:(c1.set 4 (.lst (fE hd g')))[5]?=some (.lst (g.done.map oW)):=by rw[getElem?_set_ne (by omega)];exact d1
  have a2:=je (y:=oW w) d2 (by rw[length_map];omega);rw[<- edn] at a2;refine kx (gD (ws:=[oW w]) (au rfl) (fU d2) (aI (au rfl) aK) a2) ?_;refine⟨_,_,_,_,g',rfl,?_,O'⟩;have ne:∀{j:Nat},j≠4->j≠5->((c1.set 4 (.lst (fE hd g'))).set 5 (.lst (g'.done.map oW)))[j]?=c1[j]?:=fun h4 h5=>by
   rw[getElem?_set_ne (Ne.symm h5),getElem?_set_ne (Ne.symm h4)]
  refine⟨⟨(ne (by omega) (by omega)).trans G1.i,(ne (by omega) (by omega)).trans G1.p,(ne (by omega) (by omega)).trans G1.d,(ne (by omega) (by omega)).trans G1.t⟩,?_,?_,by simp[l6]⟩
  ·rw[getElem?_set_ne (by omega),getElem?_set_self (by omega)]
  ·rw[getElem?_set_self (by rw[length_set];omega)]
 ·exact absurd D (D2 g')
theorem main(ns:List Int)(_h:ns.length<=63):∃ce',d_law FU [.lst (ns.map W.int)] []=some (.ok (.bl true) ce'):=by
 have hz:=fI;have hfu:200<=FU:=by decide
 have z1:1<=sizeLine:=by decide
 have z2:2<=sizeLine:=by decide
 have hz3:3000<sizeLine:=by decide
 suffices hs:∃w c,d_law FU [.lst (ns.map W.int)] []=some (.ok w c)/\w=.bl true by
  obtain⟨w,c,e,rfl⟩:=hs;exact⟨c,e⟩
 obtain⟨xs,e1,xl,hxs⟩:=uh (ce:=[]) FU ((ns++[0]).getD 0 0) (m:=40) (by omega);have e1':d_k FU [.int ((ns++[0]).getD 0 0),.int 40] []=some (.ok (sW xs) []):=e1;obtain⟨n,ls,e2,n0,n36,L⟩:=Gz (ce:=[]) FU (xs:=xs) (by omega) hxs;have e3:=HL (ce:=[]) FU n0 n36 L;have B:=ED L n0 n36;have N:bT (gy n ls):=⟨B,E8 L⟩
 have bl:(gy n ls).length=n:=by simp[gy]
 generalize gy n ls=b at e3 B N bl;unfold d_law;refine mL [some (sW ns),none,none,none,none,none,none,none,none,none,none,none,none,none] rfl ?_;have ec:fR aQ (aa 0) (dO (ag (dC (.int 0)) ai)) [some (sW ns),none,none,none,none,none,none,none,none,none,none,none,none,none] []=some (.ok (sW (ns++[0])) []):=by have:=la (sl:=[some (sW ns),none,none,none,none,none,none,none,none,none,none,none,none,none]) (ce:=[]) (a:=aa 0) (b:=dO (ag (dC (.int 0)) ai)) (au rfl) (gu (ws:=[.int 0]) (by trivial) z1) (xs:=ns.map W.int) (ys:=[.int 0]) rfl rfl (by rw[length_map];show ns.length+1<=_;omega);rw[this];show _=some (R.ok (W.lst ((ns++[0]).map W.int)) []);rw[map_append];rfl
 have i0:=iz (ns:=ns++[0]) (p:=0) (by simp) [] (i:=0) rfl;refine aZ (w:=sW xs) (ce':=[]) (cQ (ws:=[.int ((ns++[0]).getD 0 0),.int 40]) (aI (bN ec aV i0) (by trivial)) rfl e1') ?_;refine aS ?_;refine y7 (x:=nW n) (y:=.lst (ls.map pW)) (c1:=[]) (cQ (ws:=[sW xs]) (by trivial) rfl e2) ?_;refine(?_:Run _ [some (sW ns),some (sW xs),some (nW n),some (.lst (ls.map pW)),none,none,none,none,none,none,none,none,none,none] [] _);refine aZ (w:=wB b) (ce':=[]) (cQ (ws:=[nW n,.lst (ls.map pW)]) (by trivial) rfl e3) ?_;refine aS ?_;have i3:=iz (ns:=xs) (p:=3) (by omega) [] (i:=3) rfl;have i5:∀c:Ce,aC c (sW xs) (.int 5)=some (.int (xs.getD 5 0)):=fun c=>iz (ns:=xs) (p:=5) (by omega) c (i:=5) rfl;have i6:=iz (ns:=xs) (p:=6) (by omega) [] (i:=6) rfl;have i4:∀c:Ce,aC c (sW xs) (.int 4)=some (.int (xs.getD 4 0)):=fun c=>iz (ns:=xs) (p:=4) (by omega) c (i:=4) rfl;have i7:∀c:Ce,aC c (sW xs) (.int 7)=some (.int (xs.getD 7 0)):=fun c=>iz (ns:=xs) (p:=7) (by omega) c (i:=7) rfl;obtain⟨cs,e4,_⟩:=yp (ce:=[]) (ns:=ns) (xs:=xs) (v:=xs.getD 6 0 % 24) (i:=9) (j:=33) (e:=16) (sl:=[some (sW ns),some (sW xs),some (nW n),some (.lst (ls.map pW)),some (wB b),none,none,none,none,none,none,none,none,none]) (d3:=aH bW (aD aC (aa 1) (dC (.int 6))) (dC (.int 24))) (dh:=iF) (hi:=none) rfl rfl (by omega) (by omega) rfl
  (fZ (bN (au rfl) aV i6) aV (mR (by omega)))
 obtain⟨is,e5,S⟩:=Gs (ce:=[]) FU hfu N cs;refine aZ (w:=wS is) (ce':=[]) (cQ (ws:=[wB b,sW cs]) (aI (by trivial) (aI e4 aK)) rfl e5) ?_;refine aS ?_;obtain⟨st,hst⟩:∃st:Bool,aC [] (.lst [.str "stones",.str "turns"]) (.int (xs.getD 3 0 % 2))=some (.str (rl st)):=by
  have:xs.getD 3 0 % 2=0\/xs.getD 3 0 % 2=1:=by omega
  rcases this with h|h
  ·rw[h];exact⟨true,fJ (xs:=[.str "stones",.str "turns"]) (j:=0) rfl rfl⟩
  ·rw[h];exact⟨false,fJ (xs:=[.str "stones",.str "turns"]) (j:=1) rfl rfl⟩
 refine aZ (w:=.str (rl st)) (ce':=[]) (bN (gu (ws:=[.str "stones",.str "turns"]) (by trivial) z2) (fZ (bN (au rfl) aV i3) aV (mR (by omega))) hst) ?_;refine aS ?_;have h12:1+xs.getD 5 0 % 2=1\/1+xs.getD 5 0 % 2=2:=by omega
 have eh:∀(sl:Sl) (c:Ce),sl[1]?=some (some (sW xs))->aH cI (dC (.int 1)) (aH bW (aD aC (aa 1) (dC (.int 5))) (dC (.int 2))) sl c=some (.ok (.int (1+xs.getD 5 0 % 2)) c):=fun sl c h=>fZ (x:=.int 1) aV (fZ (bN (au h) aV (i5 c)) aV (mR (by omega))) rfl;generalize 1+xs.getD 5 0 % 2=hd at h12 eh;have gi:∀(s:Bool) (h:Int) (c:Ce),d_f FU [.cel c.length,wB b,.str (rl s),wS is,.int h] (c++[C.ins "Game" []])=some (.ok .non (c++j7 b s h c.length is)):=fun s h c=>E3 FU (fun c=>B6 FU S.hl B.h36 S.v c) (fun c=>E6 FU hfu N S c);refine aZ (w:=.cel 0) (ce':=j7 b st hd 0 is) (EJ (ws:=[wB b,.str (rl st),wS is,.int hd]) (c1:=[]) (aI (au rfl) (aI (au rfl) (aI (au rfl) (aI (eh _ _ rfl) aK)))) rfl (gi st _ [])) ?_;refine aS ?_;have G1:GC (j7 b st hd 0 is) 0 b st hd (nJ is):=Kf [] is;refine aZ (w:=.cel 4) (ce':=j7 b st hd 0 is++[.lst [.tup [wS is,.int hd]]]) (gY (ws:=[.tup [wS is,.int hd]]) (aI (jf (aI (au rfl) (aI (eh _ _ rfl) aK)) z2) aK) z1) ?_;refine aS ?_;refine aZ (w:=.cel 5) (ce':=(j7 b st hd 0 is++[.lst [.tup [wS is,.int hd]]])++[.lst []]) (gY aK (zero_le _)) ?_;refine aS ?_;have T0:St ((j7 b st hd 0 is++[.lst [.tup [wS is,.int hd]]])++[.lst []]) b st hd (nJ is):=⟨(G1.app _).app _,rfl,rfl,rfl⟩
 generalize (j7 b st hd 0 is++[.lst [.tup [wS is,.int hd]]])++[.lst []]=c0 at T0;obtain⟨ds,e6,hdl⟩:=yp (ce:=c0) (ns:=ns) (xs:=xs) (v:=xs.getD 4 0 % 9) (i:=1) (j:=9) (e:=8) (sl:=[some (sW ns),some (sW xs),some (nW n),some (.lst (ls.map pW)),some (wB b),some (wS is),some (.str (rl st)),some (.cel 0),some (.cel 4),some (.cel 5),none,none,none,none]) (d3:=aH bW (aD aC (aa 1) (dC (.int 4))) (dC (.int 9))) (dh:=dW (dC (.int 16))) (hi:=some 16) rfl rfl (by omega) (by omega) rfl (fZ (bN (au rfl) aV (i4 _)) aV (mR (by omega)));have e7:=la (b:=dO (ag (aD aC (aa 1) (dC (.int 7))) ai)) e6 (gu (ws:=[.int (xs.getD 7 0)]) (aI (bN (au rfl) aV (i7 _)) aK) z1) (xs:=ds.map W.int) (ys:=[.int (xs.getD 7 0)]) rfl rfl (by rw[length_map];show ds.length+1<=_;omega);rw[show ds.map W.int++[W.int (xs.getD 7 0)]=(ds++[xs.getD 7 0]).map W.int by rw[map_append];rfl] at e7;refine iI (zs:=ds++[xs.getD 7 0]) (en:=W.int) (c1:=c0) (jc (xs:=(ds++[xs.getD 7 0]).map W.int) e7)
  (fun d sl c=>∃y10 y11 y12 y13 g,sl=[some (sW ns),some (sW xs),some (nW n),some (.lst (ls.map pW)),some (wB b),some (wS is),some (.str (rl st)),some (.cel 0),some (.cel 4),some (.cel 5),y10,y11,y12,y13]/\St c b st hd g/\cZ b g)
  ⟨_,_,_,_,nJ is,rfl,T0,AW S⟩ ?_ ?_
 ·rintro d t r sl c _ _ ⟨y10,y11,y12,y13,g,rfl,T,O⟩;refine aS ?_;exact DF hfu N h12 T O
 ·rintro sl c ⟨y10,y11,y12,y13,g,rfl,T,O⟩;refine bL (w:=.bl true) (ce':=c) (cQ (ws:=[.cel 0,wB b,.str (rl st),.cel 4,.cel 5]) (by trivial) rfl (wY FU hfu N h12 T O)) ?_;exact⟨_,_,nB (ce:=[]) (l:=c) (by simp only[aU]),rfl⟩
end K20
namespace K20
theorem fin_mk{l:PySem.W.OpenLaw}(z:∃A:qT,Txt K mg A/\fa=A.f_law/\∀(s:Shared) (v:Value),BindsTo s A.d_law ⟨[v],[]⟩ [("_law_script",v)]) :
  ∃fd:FuncData,(∀(s:Shared) (u:Value),BindsTo s fd ⟨[u],[]⟩ [("_law_script",u)])/\∀base:Heap,K.In base->base.Ns mainGlobals mg->ay l.prog w K mg base CX0 9 fa fd ["_law_script"] (spLaw Gx (d_law FU) K):=by
 obtain⟨A,T,e,b⟩:=z;subst e;exact⟨A.d_law,b,fun base _ _=>EM T.nl (Cf FU T)⟩
end K20
open PySem.W
namespace PySem.W.Fast
theorem tw5069934718967096319:True:=⟨⟩
theorem tw8188321430428060518:True:=⟨⟩
theorem tw12758989761102394736:True:=⟨⟩
theorem tw1453847140653594952:True:=⟨⟩
theorem tw5457295024972238939:True:=⟨⟩
theorem tw17567465530991517159:True:=⟨⟩
theorem tw386257825615318873:True:=⟨⟩
theorem tw6326361964263062757:True:=⟨⟩
theorem tw16240906402567188503:True:=⟨⟩
theorem tw8483124697794146070:True:=⟨⟩
theorem tw1463846759996674652:True:=⟨⟩
theorem tw13259454729934099404:True:=⟨⟩
theorem tw2335778782286602374:True:=⟨⟩
theorem tw6874702431943676336:True:=⟨⟩
theorem tw6013424800355959636:True:=⟨⟩
theorem tw12644628335632364446:True:=⟨⟩
theorem tw885376342141606629:True:=⟨⟩
theorem tw9184482410903598386:True:=⟨⟩
theorem tw8079975234806502907:True:=⟨⟩
theorem tw17878965375324607548:True:=⟨⟩
theorem tw1527951699621893000:True:=⟨⟩
theorem tw9607101117833727030:True:=⟨⟩
theorem tw11061763605634819175:True:=⟨⟩
theorem tw14381207938743609365:True:=⟨⟩
theorem tw4483175531617973187:True:=⟨⟩
theorem tw7733912821682307590:True:=⟨⟩
theorem tw2556601404307714820:True:=⟨⟩
theorem tw8897589076861608989:True:=⟨⟩
theorem tw4433502669672459148:True:=⟨⟩
theorem tw10303578813680930488:True:=⟨⟩
theorem tw1679617988285049011:True:=⟨⟩
theorem tw7568940319855145102:True:=⟨⟩
theorem tw5047375769513846207:True:=⟨⟩
theorem tw1700074705313778944:True:=⟨⟩
theorem tw10781783944911856979:True:=⟨⟩
theorem tw3619937406456842999:True:=⟨⟩
theorem tw10533025834148264579:True:=⟨⟩
theorem tw6581658642862808945:True:=⟨⟩
theorem tw4903038675650073890:True:=⟨⟩
theorem tw5030829683805404633:True:=⟨⟩
theorem tw6067841172597923546:True:=⟨⟩
theorem tw4942773916744898026:True:=⟨⟩
theorem tw7346378035367874344:True:=⟨⟩
theorem tw15661632405405699716:True:=⟨⟩
theorem tw7528064563702787575:True:=⟨⟩
theorem tw9201854312245915414:True:=⟨⟩
theorem tw11801557026925653990:True:=⟨⟩
theorem tw16046424200612103938:True:=⟨⟩
theorem tw2029411977195674097:True:=⟨⟩
theorem tw2348046478621995544:True:=⟨⟩
theorem tw5124315196050333398:True:=⟨⟩
theorem tw13240071454100235153:True:=⟨⟩
theorem tw9180244744334992770:True:=⟨⟩
theorem tw12085357435842011618:True:=⟨⟩
theorem tw15998768916008439527:True:=⟨⟩
theorem tw11054843687644457689:True:=⟨⟩
theorem tw6579449274198409441:True:=⟨⟩
theorem tw9609703879224694618:True:=⟨⟩
theorem tw3580484821827078630:True:=⟨⟩
theorem tw2192723564847769595:True:=⟨⟩
theorem tw3469775156738140752:True:=⟨⟩
theorem tw1567394130150714889:True:=⟨⟩
theorem tw12126549309294304048:True:=⟨⟩
theorem tw5617599528709420126:True:=⟨⟩
theorem tw10815491311308386857:True:=⟨⟩
theorem tw7244080079032254257:True:=⟨⟩
theorem tw8877135553428138038:True:=⟨⟩
theorem tw14517197298253248089:True:=⟨⟩
theorem tw10134173912652306530:True:=⟨⟩
theorem tw6235901386759386182:True:=⟨⟩
theorem tw5452513106221434344:True:=⟨⟩
theorem tw11285461769367160518:True:=⟨⟩
theorem tw17543375586036106178:True:=⟨⟩
theorem tw1610546218062065348:True:=⟨⟩
theorem tw1128158286842263419:True:=⟨⟩
theorem tw17962448782375422043:True:=⟨⟩
theorem tw3292253173869828025:True:=⟨⟩
theorem tw16161221168255392803:True:=⟨⟩
theorem tw9907093863578933239:True:=⟨⟩
theorem tw5548184443001470560:True:=⟨⟩
theorem tw16940054505866670734:True:=⟨⟩
theorem tw3489687805338014637:True:=⟨⟩
theorem tw5435166049707778725:True:=⟨⟩
theorem tw1607425179226259992:True:=⟨⟩
theorem tw1471150837784913028:True:=⟨⟩
theorem tw3284397299761158663:True:=⟨⟩
theorem tw9576102869850439687:True:=⟨⟩
theorem tw10281563245494281653:True:=⟨⟩
theorem tw2605126937374017602:True:=⟨⟩
theorem tw15513882718015432461:True:=⟨⟩
end PySem.W.Fast
theorem PySem.W.Fast.te622762633696242534 : True := trivial
theorem PySem.W.Fast.tw7591270671462002954 : True := trivial
theorem PySem.W.Fast.tw6526365037383329536 : True := trivial
theorem PySem.W.Fast.tw12718513154987430690 : True := trivial
theorem PySem.W.Fast.tw3997247884076494754 : True := trivial
theorem PySem.W.Fast.tw1480128165599532647 : True := trivial
theorem PySem.W.Fast.tw11107887039989064650 : True := trivial
theorem PySem.W.Fast.tw17761934427119062188 : True := trivial
theorem PySem.W.Fast.tw5448856251881804236 : True := trivial
theorem PySem.W.Fast.tw18004988375403842540 : True := trivial
theorem PySem.W.Fast.tw7100636886409255569 : True := trivial
theorem PySem.W.Fast.tw4193271227820644017 : True := trivial
theorem PySem.W.Fast.tw17690995466281670836 : True := trivial
theorem PySem.W.Fast.tw108388902047810452 : True := trivial
theorem PySem.W.Fast.tw12033069858395419253 : True := trivial
theorem PySem.W.Fast.tw3146765727379624791 : True := trivial
theorem PySem.W.Fast.tw13325323687107708249 : True := trivial
theorem PySem.W.Fast.tw11765265635732129497 : True := trivial
theorem PySem.W.Fast.tw10231005885983002617 : True := trivial
theorem PySem.W.Fast.tw9392243414265541660 : True := trivial
set_option maxRecDepth 100000 in
theorem PySem.Challenge.cw_stonebreath_k20_open_deeds_holds : PySem.Challenge.rw_stonebreath_k20_open_deeds.Holds := by
 w_on;o_law;k_head;(case hw=>w_witness2)
 k_fill
 refine L2.walk_ofK (l:=PySem.Challenge.rw_stonebreath_k20_open_deeds) (n:=63) (k:=9) (x := "_law_script") (CX:=L2.CX0) (sp:=VS.spLaw K20.Gx (K20.d_law K20.FU)) rfl (by decide) rfl ⟨rfl,by decide,by decide⟩ (fun w h Y=>PySem.W.kIn_of Y) ?F (VS.law_sp K20.main) (fun _ _ _ _ z=>z)
 case F =>
  intro w mg fa h KX G hmg
  refine' K20.fin_mk (K20.all_mk KX G hmg ?ac_Game ?pg_Game ?hd_Game ?po_Game ?sa_Game ?mi_Game ?kc_Game ?na_Game_barring ?na_Game_done ?na_Game_first ?na_Game_joined ?na_Game_past ?na_Game_takings ?a0 ?l0 ?a1 ?l1 ?a2 ?l2 ?a3 ?l3 ?a4 ?l4 ?a5 ?l5 ?a6 ?l6 ?a7 ?l7 ?a8 ?l8 ?a9 ?l9 ?a10 ?l10 ?a11 ?l11 ?a12 ?l12 ?a13 ?l13 ?a14 ?l14 ?a15 ?l15 ?a16 ?l16 ?a17 ?l17 ?a18 ?l18 ?a19 ?l19 ?a20 ?l20 ?a21 ?l21 ?a22 ?l22 ?a23 ?l23 ?a24 ?l24 ?a25 ?l25 ?a26 ?l26 ?c26 ?k26 ?a27 ?fn27 ?l27 ?a28 ?fn28 ?l28 ?a29 ?fn29 ?l29 ?a30 ?fn30 ?l30 ?a31 ?fn31 ?l31 ?a32 ?fn32 ?l32 ?a33 ?fn33 ?l33 ?a34 ?fn34 ?l34 ?a35 ?fn35 ?l35 ?a36 ?fn36 ?l36 ?a37 ?fn37 ?l37 ?a38 ?fn38 ?l38 ?ac_Again ?ex_Again ?ex_mAgain ?aX0 ?fnX0 ?lX0 ?q0 ?z_ValueError ?z_all ?z_bool ?z_int ?z_isinstance ?z_len ?z_list ?z_range ?z_sorted ?z_str ?z_sum ?z_tuple ?xt ?nl)
  (case ac_Game=>k_is);(case pg_Game=>k_is);(case hd_Game=>k_is);(case po_Game=>k_is);(case sa_Game=>k_is);(case mi_Game=>k_is);(case kc_Game=>k_is);(case na_Game_barring=>k_is);(case na_Game_done=>k_is);(case na_Game_first=>k_is);(case na_Game_joined=>k_is);(case na_Game_past=>k_is);(case na_Game_takings=>k_is);(case a0=>k_is);(case l0=>exact VS.fnk (by k_is) (by k_is) (by k_is));(case a1=>k_is);(case l1=>exact VS.fnk (by k_is) (by k_is) (by k_is));(case a2=>k_is);(case l2=>exact VS.fnk (by k_is) (by k_is) (by k_is));(case a3=>k_is);(case l3=>exact VS.fnk (by k_is) (by k_is) (by k_is));(case a4=>k_is);(case l4=>exact VS.fnk (by k_is) (by k_is) (by k_is));(case a5=>k_is);(case l5=>exact VS.fnk (by k_is) (by k_is) (by k_is));(case a6=>k_is);(case l6=>exact VS.fnk (by k_is) (by k_is) (by k_is));(case a7=>k_is);(case l7=>exact VS.fnk (by k_is) (by k_is) (by k_is));(case a8=>k_is);(case l8=>exact VS.fnk (by k_is) (by k_is) (by k_is));(case a9=>k_is);(case l9=>exact VS.fnk (by k_is) (by k_is) (by k_is));(case a10=>k_is);(case l10=>exact VS.fnk (by k_is) (by k_is) (by k_is));(case a11=>k_is);(case l11=>exact VS.fnk (by k_is) (by k_is) (by k_is));(case a12=>k_is);(case l12=>exact VS.fnk (by k_is) (by k_is) (by k_is));(case a13=>k_is);(case l13=>exact VS.fnk (by k_is) (by k_is) (by k_is));(case a14=>k_is);(case l14=>exact VS.fnk (by k_is) (by k_is) (by k_is));(case a15=>k_is);(case l15=>exact VS.fnk (by k_is) (by k_is) (by k_is));(case a16=>k_is);(case l16=>exact VS.fnk (by k_is) (by k_is) (by k_is));(case a17=>k_is);(case l17=>exact VS.fnk (by k_is) (by k_is) (by k_is));(case a18=>k_is);(case l18=>exact VS.fnk (by k_is) (by k_is) (by k_is));(case a19=>k_is);(case l19=>exact VS.fnk (by k_is) (by k_is) (by k_is));(case a20=>k_is);(case l20=>exact VS.fnk (by k_is) (by k_is) (by k_is));(case a21=>k_is);(case l21=>exact VS.fnk (by k_is) (by k_is) (by k_is));(case a22=>k_is);(case l22=>exact VS.fnk (by k_is) (by k_is) (by k_is));(case a23=>k_is);(case l23=>exact VS.fnk (by k_is) (by k_is) (by k_is));(case a24=>k_is);(case l24=>exact VS.fnk (by k_is) (by k_is) (by k_is));(case a25=>k_is);(case l25=>exact VS.fnk (by k_is) (by k_is) (by k_is));(case a26=>k_is);(case l26=>k_is);(case c26=>k_is);(case k26=>k_is);(case a27=>k_is);(case fn27=>k_is);(case l27=>exact VS.fnk (by k_is) (by k_is) (by k_is));(case a28=>k_is);(case fn28=>k_is);(case l28=>exact VS.fnk (by k_is) (by k_is) (by k_is));(case a29=>k_is);(case fn29=>k_is);(case l29=>exact VS.fnk (by k_is) (by k_is) (by k_is));(case a30=>k_is);(case fn30=>k_is);(case l30=>exact VS.fnk (by k_is) (by k_is) (by k_is));(case a31=>k_is);(case fn31=>k_is);(case l31=>exact VS.fnk (by k_is) (by k_is) (by k_is));(case a32=>k_is);(case fn32=>k_is);(case l32=>exact VS.fnk (by k_is) (by k_is) (by k_is));(case a33=>k_is);(case fn33=>k_is);(case l33=>exact VS.fnk (by k_is) (by k_is) (by k_is));(case a34=>k_is);(case fn34=>k_is);(case l34=>exact VS.fnk (by k_is) (by k_is) (by k_is));(case a35=>k_is);(case fn35=>k_is);(case l35=>exact VS.fnk (by k_is) (by k_is) (by k_is));(case a36=>k_is);(case fn36=>k_is);(case l36=>exact VS.fnk (by k_is) (by k_is) (by k_is));(case a37=>k_is);(case fn37=>k_is);(case l37=>exact VS.fnk (by k_is) (by k_is) (by k_is));(case a38=>k_is);(case fn38=>k_is);(case l38=>exact VS.fnk (by k_is) (by k_is) (by k_is));(case ac_Again=>k_is);(case ex_Again=>kernel_rfl);(case ex_mAgain=>kernel_rfl);(case aX0=>k_is);(case fnX0=>k_is);(case lX0=>exact VS.fnk (by k_is) (by k_is) (by k_is));(case q0=>k_is);(case z_ValueError=>k_is);(case z_all=>k_is);(case z_bool=>k_is);(case z_int=>k_is);(case z_isinstance=>k_is);(case z_len=>k_is);(case z_list=>k_is);(case z_range=>k_is);(case z_sorted=>k_is);(case z_str=>k_is);(case z_sum=>k_is);(case z_tuple=>k_is);(case xt=>kernel_rfl);(case nl=>kernel_rfl)
