import PyProof.Rows.All
import Wide.All
import OpenK.AllK
import Wide.FinOn
import Lean
import PyProof.EqAt
import PyProof.EqKinds
import PyProof.TupleCall
import PyProof.NeKinds
import KE.KDictSum
import KE.KListLetter
import KE.KIsAll
import KE.KTryMore
import PySem.Challenge.RW_stonebreath_k38_whole_chases_walked
set_option Elab.async false
set_option linter.all false
set_option maxHeartbeats 0
set_option maxRecDepth 100000
open PyProof.Rows (boot_sorted boot_tuple boot_isinstance boot_int boot_bool boot_dict)
open PySem.Paired (length)
open PySem (sizeLine boot_len)
open PySem.W.Looks (here)
open PySem.EqMixed (eq_bool_str eq_int_str eq_str_bool eq_str_int ne_bool_str ne_int_str ne_str_bool ne_str_int)
open PySem.EqNone (eq_none_int eq_none_str eq_int_none eq_str_none ne_none_int ne_none_str ne_int_none ne_str_none)
open PySem.W (instObj methodObj hideAll hideAll_get of_hideAll hideAll_none Frag lookIn plainGet hasDictIn findIn handedIn plainGet_of isFn plainOver takerIn makesIn typeIn emptyDict keepIn mroIn kitOne kia_one kitx_list kitx_dict callWith_K cellsFrom_some fnOf codeIn kdl_dict excIn nsIn mg_of looks_mroIn mg_none_of)
open PySem.F (slot_NoneType_hash slot_tuple_add entry_tuple_add args_tuple_add_2 excBase_ValueError slot_dict_init slot_list_getattribute slot_list_lt slot_list_extend type_list_extend)
open List (length_append length_map length_cons map_cons mem_append length_nil getElem?_eq_getElem mem_singleton mem_map size_toArray mem_filter getD_eq_getElem?_getD mem_range mem_cons_self mem_cons getElem?_append_left mem_cons_of_mem mem_append_left getElem?_map all_eq_true map_nil map_append append_nil mem_append_right length_set append_assoc map_map length_range flatten_cons length_take lookup_cons length_filter_le find?_cons any_eq_true nil_append getElem?_eq_none filter_congr getElem?_set_ne replicate_succ nodup_append filter_nil mem_of_getElem? getElem?_append_right filter_append nodup_cons map_congr_left getElem?_set_self getElem?_of_mem eq_nil_iff_forall_not_mem mem_filterMap any_cons pairwise_map pairwise_cons mem_flatten getElem?_cons_zero getElem?_cons_succ flatten_append pairwise_lt_range nodup_range map_set length_drop getElem_mem flatten_nil filter_filter filter_cons_of_neg filter_cons drop_length drop_eq_getElem_cons all_cons take_of_length_le set_set set_append_right of_mem_zip map_id length_singleton length_replicate length_eq_zero_iff getElem?_take_of_lt filter_cons_of_pos filterMap_cons ext_getElem? any_eq_false take_zero take_sublist take_left take_add_one set_append_left range_succ_eq_map pairwise_append mem_of_mem_take mem_of_find?_eq_some mapM_toArray length_pos_of_mem length_erase getElem?_zip_eq_some getElem?_replicate getElem?_range forIn_nil forIn_cons find?_some ext_getElem exists_mem_of_ne_nil dropLast_eq_take contains_iff_mem cons_append all_map zip_cons_cons take_range take_length take_append_of_le_length set_getElem_self set_cons_succ set_comm range_eq_range' range'_succ perm_iff_count pairwise_singleton pairwise_mergeSort pairwise_iff_getElem not_mem_nil nil_perm mergeSort_perm mem_replicate map_replicate mapM_nil mapM_cons length_pos_iff length_erase_of_mem length_dropLast getElem_inj getElem?_set getElem?_inj foldl_cons find?_eq_none filter_eq_self filterMap_map filterMap_append eraseIdx_cons_succ eraseIdxIfInBounds_toArray eq_nil_or_concat drop_zero drop_left contains_cons concat_eq_append all_toArray all_nil)
open Nat (le_refl ne_of_lt le_trans zero_le lt_of_lt_of_le lt_irrefl lt_of_le_of_lt le_of_lt lt_trans le_succ lt_succ_self zero_add ne_of_gt mul_le_mul_right succ_mul not_lt_zero min_eq_left lt_succ_of_lt le_add_right sub_zero mul_comm le_succ_of_le le_of_eq add_sub_cancel_left add_mul not_lt min_self min_le_right lt_trichotomy log2_lt le_of_not_lt exists_eq_add_of_le add_zero add_comm)
open Option (map_some map_eq_some_iff getD_some bind_some isSome_map bind_eq_some_iff map_eq_none_iff isSome_some isSome_iff_exists isNone_none)
open Bool (and_eq_true or_eq_true not_eq_true' false_eq_true not_eq_false' eq_false_iff or_eq_false_iff not_not)
open Array (length_toList toArray_toList getElem?_toList size_map toList_map toList_inj mem_toList_iff find?_toList any_eq_true')
open Int (toNat_natCast mul_one ofNat_inj fmod_eq_emod_of_nonneg fdiv_eq_ediv_of_nonneg emod_nonneg emod_lt_of_pos ediv_one)
noncomputable section
namespace L2
open PySem PySem.Spec PyProof.Rows
variable {prog:Program} {w:World} {A:Around} {E:Value->Shared->Prop} {s:Shared}
theorem Jj{Q:Int->Shared->Prop}(h:Q 0xFCA86420 { s with toks:=s.toks+1 }):wpAny (model prog w) A (pyHash .none) Q E s:=by
 have hT:s.TypeIs .none "NoneType" := rfl;unfold pyHash;have hv:[Value.none].any Value.onHeap=false:=rfl;refine wpAny_bind ?_;rw[cRoomFor,if_neg (by rw[hv];exact Bool.false_ne_true)];refine wpAny_pure ?_;refine wpAny_bind (wpAny_specialOf hT slot_NoneType_hash.lookup ?_);show wpAny _ _ (if (some (Value.builtin "NoneType.__hash__")==some Value.none)=true then _ else _) Q E s;rw[if_neg (by rw[beq_builtin_none];exact Bool.false_ne_true)];refine wpAny_bind (wpAny_specialOf hT slot_NoneType_hash.lookup ?_);show wpAny _ _ (callSpecialIfBoundUnlessNone? .none "__hash__" _ >>= _) Q E s;refine wpAny_bind (wpAny_callSpecialIfBoundUnlessNone?_slot hT slot_NoneType_hash
  (wpAny_call_entry slot_NoneType_hash hT PySem.F.entry_NoneType_hash
   (show wpAny _ _ (do ret (<- mkInt 0xFCA86420)) _ _ s from wpAny_ret_mkInt ?_) (PySem.F.args_NoneType_hash_1 _)))
 show wpAny _ _ (if (decide (-(2:Int) ^ 63<=0xFCA86420)&&decide ((0xFCA86420:Int)<2 ^ 63))=true then _ else _) Q E _;rw[if_pos (by decide)];exact wpAny_pure h
theorem Jd{Q:Bool->Shared->Prop}(h:Q true s):wpAny (model prog w) A (eqBool .none .none) Q E s:=by
 unfold eqBool
 try with_reducible refine wpAny_holding ?_
 show wpAny _ _ (if (Value.none==Value.none)=true then _ else _) Q E s;rw[if_pos (show(Value.none==Value.none)=true by decide)];exact wpAny_bind (wpAny_rule (wpAny_pure h))
abbrev Key:=Sum Int (Option Str)
def mE:Key->Value->Bool
 | .inl k,v=>Value.isInt k v
 | .inr (some x),v=>Value.isStrOf x v
 | .inr none,.none=>true
 | .inr none,_=>false
def BU(w:World):Key->Int
 | .inl k=>hashInt k
 | .inr (some x)=>hashStr w x
 | .inr none=>0xFCA86420
theorem k6{k:Key}{v:Value}(h:mE k v=true):(∃i t,k=Sum.inl i/\v=Value.int i t)\/(∃x t,k=Sum.inr (some x)/\v=Value.str x t)\/(k=Sum.inr none/\v=.none):=by
 rcases k with i|x|_
 ·obtain⟨t,e⟩:=Value.isInt_shape (k:=i) (v:=v) h;exact .inl ⟨i,t,rfl,e⟩
 ·cases v<;>first|exact .inr (.inr ⟨rfl,rfl⟩)|cases h
 ·rename_i x;obtain⟨t,e⟩:=Value.isStrOf_shape (x:=x) (v:=v) h;exact .inr (.inl ⟨x,t,rfl,e⟩)
theorem Jc(i:Int)(t:Tok):mE (.inl i) (.int i t)=true:=by simp[mE,Value.isInt]
theorem Jb(x:Str)(t:Tok):mE (.inr (some x)) (.str x t)=true:=by simp[mE,Value.isStrOf]
def dG(prog:Program)(w:World):PySem.KeyKind prog w Key where
 is:=mE
 hash:=BU w
 inj:=fun v a b ha hb=>by
  rcases k6 ha with ⟨i,t,rfl,rfl⟩|⟨x,t,rfl,rfl⟩|⟨rfl,rfl⟩<;>rcases k6 hb with ⟨j,u,rfl,e⟩|⟨y,u,rfl,e⟩|⟨rfl,e⟩<;>cases e<;>rfl
 byValue:=fun k v h=>by
  rcases k6 h with ⟨i,t,rfl,rfl⟩|⟨x,t,rfl,rfl⟩|⟨rfl,rfl⟩<;>rfl
 pyHash:=fun hv h=>by
  rcases k6 hv with ⟨i,t,rfl,rfl⟩|⟨x,t,rfl,rfl⟩|⟨rfl,rfl⟩
  ·exact wpAny_pyHash_int h
  ·exact wpAny_pyHash_str h
  ·exact Jj h
 eqBool:=fun hu hv h=>by
  rcases k6 hu with ⟨i,t,rfl,rfl⟩|⟨x,t,rfl,rfl⟩|⟨rfl,rfl⟩<;>rcases k6 hv with ⟨j,u,rfl,rfl⟩|⟨y,u,rfl,rfl⟩|⟨rfl,rfl⟩
  ·exact wpAny_eqBool_int (by rw[show(i==j)=decide ((Sum.inl i:Key)=Sum.inl j) by by_cases e:i=j<;>simp[e]];exact h)
  ·exact SeqAt.EqAt.int_str i t y u _ _ _ _ (by simpa using h)
  ·exact SeqAt.EqAt.int_none i t _ _ _ _ (by simpa using h)
  ·exact SeqAt.EqAt.str_int x t j u _ _ _ _ (by simpa using h)
  ·exact wpAny_eqBool_str (by rw[show decide (x=y)=decide ((Sum.inr (some x):Key)=Sum.inr (some y)) by by_cases e:x=y<;>simp[e]];exact h)
  ·exact SeqAt.EqAt.str_none x t _ _ _ _ (by simpa using h)
  ·exact SeqAt.EqAt.none_int j u _ _ _ _ (by simpa using h)
  ·exact SeqAt.EqAt.none_str y u _ _ _ _ (by simpa using h)
  ·exact Jd (by simpa using h)
 «strs»:=fun k x t v h=>by
  rcases k6 h with ⟨i,u,rfl,e⟩|⟨y,u,rfl,e⟩|⟨rfl,e⟩
  ·exact nomatch e
  ·injection e with e1 _;subst e1;cases v<;>rfl
  ·exact nomatch e
theorem Ji(prog:Program)(w:World)(i:Int)(t:Tok):(dG prog w).is (.inl i) (.int i t)=true:=Jc i t
theorem Jh(prog:Program)(w:World)(x:Str)(t:Tok):(dG prog w).is (.inr (some x)) (.str x t)=true:=Jb x t
inductive V where
 | non|bl (b:Bool)|int (i:Int)|str (x:Str)|byt (b:Array UInt8)|flt (b:UInt64)|ref (a:Addr)|ty (n:String)
 deriving DecidableEq
def RelV:V->Value->Prop
 | .non,u=>u=Value.none
 | .bl b,u=>u=Value.bool b
 | .int i,u=>∃t,u=Value.int i t
 | .str x,u=>∃t,u=Value.str x t
 | .byt b,u=>∃t,u=Value.bytes b t
 | .flt b,u=>∃t,u=Value.float b t
 | .ref a,u=>u=Value.ref a
 | .ty n,u=>u=Value.type n
abbrev Vals:List V->List Value->Prop:=Paired RelV
theorem Vals.length{xs:List V}{us:List Value}(r:Vals xs us):xs.length=us.length:=Paired.length r
theorem Vals.get:∀{xs:List V} {us:List Value} {i:Nat} {x:V},Vals xs us->xs[i]?=some x->∃u,us[i]?=some u/\RelV x u
 | _,_,_,_,.nil,e=>by simp at e
 | _,_,0,_,.cons r _,e=>by simp at e;subst e;exact⟨_,rfl,r⟩
 | _,_,i+1,x,.cons _ t,e=>by
  obtain⟨u,h1,h2⟩:=Vals.get (i:=i) (x:=x) t (by simpa using e);exact⟨u,by simpa using h1,h2⟩
theorem Vals.set{x:V}{u:Value}(r:RelV x u):∀{xs:List V} {us:List Value} (i:Nat),Vals xs us->Vals (xs.set i x) (us.set i u)
 | _,_,_,.nil=>.nil
 | _,_,0,.cons _ t=>.cons r t
 | _,_,i+1,.cons q t=>.cons q (Vals.set r i t)
theorem Vals.append:∀{xs ys:List V} {us ws:List Value},Vals xs us->Vals ys ws->Vals (xs++ys) (us++ws)
 | _,_,_,_,.nil,s=>s
 | _,_,_,_,.cons r t,s=>.cons r (Vals.append t s)
theorem Vals.take:∀{xs:List V} {us:List Value} (n:Nat),Vals xs us->Vals (xs.take n) (us.take n)
 | _,_,0,_=>.nil
 | _,_,_+1,.nil=>.nil
 | _,_,n+1,.cons r t=>.cons r (Vals.take n t)
theorem Vals.drop:∀{xs:List V} {us:List Value} (n:Nat),Vals xs us->Vals (xs.drop n) (us.drop n)
 | _,_,0,r=>r
 | _,_,_+1,.nil=>.nil
 | _,_,n+1,.cons _ t=>Vals.drop n t
def cT:Option V->Option Value->Prop
 | some v,some u=>RelV v u
 | none,none=>True
 | _,_=>False
def KV{κ:Type}:List (κ×V)->List (κ×Value)->Prop:=Paired fun(p:κ×V) (q:κ×Value)=>p.1=q.1/\RelV p.2 q.2
def kV:Key->V
 | .inl i=>.int i
 | .inr (some x)=>.str x
 | .inr none=>.non
inductive HO where
  | lst (xs:List V)
  | tup (xs:List V)
  | dK (kvs:List (Key×V))|dT (kvs:List (List Key×V))
  | set (S:Int->Bool) (n:Nat)
  | ins (C dx:Addr) (fs:List (Str×V))
  | own (x:Addr)
  | xd (fs:List (Str×V))
  | met (f x:Addr)
  | rng (lo hi:Int)
  | frz (o:Obj) (u:HO)
  | tbl (ps:Array Value)
  | ext (φ:Heap->Prop)
abbrev Hp:=Addr->Option HO
def upd(H:Hp)(a:Addr)(o:HO):Hp:=fun b=>if b=a then some o else H b
variable {H:Hp} {a:Addr} {o:HO}
theorem eB:upd H a o a=some o:=by unfold upd;rw[if_pos rfl]
variable {b:Addr}
theorem cj(h:b≠a):upd H a o b=H b:=by unfold upd;rw[if_neg h]
theorem C7{u:HO}(h:H a=some o)(h':H b=some u)(d:o≠u):a≠b:=by intro e;subst e;rw[h] at h';exact d (Option.some.inj h')
theorem fO(h:H a=some o)(h':H b=none):a≠b:=by intro e;subst e;rw[h] at h';cases h'
def fI(h:Heap)(a:Addr)(items:Array Value):Prop:=∃o,h.get? a=some o/\o.cls=.type "tuple" /\ (∃n,o.data=.seq items n)/\o.dict=none
variable {h:Heap}
theorem fI.isTup{items:Array Value}(t:fI h a items):PyProof.Rows.IsTup h a items:=by obtain⟨o,e,c,⟨n,d⟩,_⟩:=t;exact⟨o,e,c,n,d⟩
theorem fI.new(h:Heap)(items:Array Value):fI (h.push { cls:=.type "tuple",data:=.seq items }) h.objs.size items:=⟨_,Heap.get?_push_size _ rfl,rfl,⟨_,rfl⟩,rfl⟩
section
variable (P:Program) (w:World)
def aQ(H:Hp)(h:Heap)(a:Addr):HO->Prop
 | .lst xs=>xs.length<=sizeLine/\∃(its:List Value) (n:Nat),Vals xs its/\h.get? a=some { cls:=.type "list",data:=.seq its.toArray n }
 | .tup xs=>xs.length<=sizeLine/\∃its:List Value,Vals xs its/\fI h a its.toArray
 | .dK kvs=>kvs.length<=sizeLine/\(a==sysModules)=false/\∃vs,KV kvs vs/\h.DictOf (dG P w) a vs
 | .dT kvs=>kvs.length<=sizeLine/\(a==sysModules)=false/\∃xs:List (List Key×Addr×Value),
   Paired (fun(p:List Key×V) (q:List Key×Addr×Value)=>p.1=q.1/\H q.2.1=some (.tup (p.1.map kV))/\RelV p.2 q.2.2) kvs xs /\
   ∃o es ep,h.get? a=some o/\o.ExactDict/\o.data=.dict es ep/\es.toList=xs.map (entryOfKey (tupleKind (dG P w)))/\(xs.map (·.1)).Nodup
 | .set S n=>h.SetOf (intKind P w) a S n
 | .ins C dx fs=>H dx=some (.own a)/\fs.length<=1000/\dx≠a/\h.get? a=some (instObj C dx) /\
   ∃mA,h.Ns1 dx mA/\(∀f,cT (fs.lookup f) (mA f))/\PySem.Within mA (fs.map (·.1))
 | .own _=>∃o,h.get? a=some o
 | .xd fs=>∃mA,h.Ns1 a mA/\∀f,cT (fs.lookup f) (mA f)
 | .rng lo hi=>∃t u v,h.get? a=some { cls:=.type "range",data:=.fields #[.int lo t,.int hi u,.int 1 v] }
 | .frz o u=>h.get? a=some o/\aQ H h a u
 | .tbl ps=>h.get? a=some { cls:=.none,data:=.fields ps }
 | .met f x=>h.get? a=some (methodObj (.ref f) (.ref x))
 | .ext φ=>φ h/\(∃o,h.get? a=some o)/\∀h1 h2:Heap,φ h1->(∀o,h1.get? a=some o->h2.get? a=some o)->φ h2
def cB(H:Hp)(h:Heap):Prop:=∀a o,H a=some o->aQ P w H h a o
end
variable {P:Program} {H':Hp} {h':Heap}
theorem aQ.lt(x:aQ P w H h a o):a<h.objs.size:=by
 cases o with
 | lst xs=>obtain⟨_,_,_,_,e⟩:=x;exact Heap.lt_size e
 | tup xs=>obtain⟨_,_,_,p⟩:=x;exact(fI.isTup p).lt
 | dK kvs=>obtain⟨_,_,_,_,o,_,_,e,_⟩:=x;exact Heap.lt_size e
 | dT kvs=>obtain⟨_,_,_,_,o,_,_,e,_⟩:=x;exact Heap.lt_size e
 | set S n=>obtain⟨o,_,_,_,e,_⟩:=x;exact Heap.lt_size e
 | ins C dx fs=>obtain⟨_,_,_,e,_⟩:=x;exact Heap.lt_size e
 | own y=>obtain⟨_,e⟩:=x;exact Heap.lt_size e
 | xd fs=>obtain⟨_,⟨_,_,_,e,_⟩,_⟩:=x;exact Heap.lt_size e
 | rng lo hi=>obtain⟨_,_,_,e⟩:=x;exact Heap.lt_size e
 | frz ob u=>obtain⟨e,_⟩:=x;exact Heap.lt_size e
 | tbl ps=>exact Heap.lt_size (show h.get? a=some _ from x)
 | met f y=>exact Heap.lt_size (show h.get? a=some _ from x)
 | ext φ=>obtain⟨_,⟨_,e⟩,_⟩:=x;exact Heap.lt_size e
theorem Paired.mapP{α β:Type}{F G:α->β->Prop}:∀{l₁:List α} {l₂:List β},Paired F l₁ l₂->(∀a b,F a b->G a b)->Paired G l₁ l₂
 | _,_,.nil,_=>.nil
 | _,_,.cons r t,f=>.cons (f _ _ r) (Paired.mapP t f)
theorem aQ.stay(x:aQ P w H h a o)(k:∀b u,(b=a\/H b=some (.own a))->h.get? b=some u->h'.get? b=some u)(ho:∀b,H b=some (.own a)->H' b=some (.own a))(ht:∀b xs,H b=some (.tup xs)->H' b=some (.tup xs)):aQ P w H' h' a o:=by
 induction o with
 | lst xs=>obtain⟨z,its,n,r,e⟩:=x;exact⟨z,its,n,r,k _ _ (.inl rfl) e⟩
 | tup xs=>obtain⟨z,its,r,ob,e,c⟩:=x;exact⟨z,its,r,ob,k _ _ (.inl rfl) e,c⟩
 | dK kvs=>obtain⟨z,y,vs,r,ob,es,ep,e,c⟩:=x;exact⟨z,y,vs,r,ob,es,ep,k _ _ (.inl rfl) e,c⟩
 | dT kvs =>
  obtain⟨z,y,xs,r,ob,es,ep,e,c⟩:=x;exact⟨z,y,xs,Paired.mapP r fun p q z=>⟨z.1,ht _ _ z.2.1,z.2.2⟩,ob,es,ep,k _ _ (.inl rfl) e,c⟩
 | set S n=>obtain⟨ob,es,ep,t,e,c⟩:=x;exact⟨ob,es,ep,t,k _ _ (.inl rfl) e,c⟩
 | ins C dx fs =>
  obtain⟨d,z,ne,e,mA,⟨od,es,ep,e2,c⟩,r⟩:=x;exact⟨ho _ d,z,ne,k _ _ (.inl rfl) e,mA,⟨od,es,ep,k _ _ (.inr d) e2,c⟩,r⟩
 | own y=>obtain⟨ob,e⟩:=x;exact⟨ob,k _ _ (.inl rfl) e⟩
 | xd fs=>obtain⟨mA,⟨od,es,ep,e,c⟩,r⟩:=x;exact⟨mA,⟨od,es,ep,k _ _ (.inl rfl) e,c⟩,r⟩
 | rng lo hi=>obtain⟨t,u,v,e⟩:=x;exact⟨t,u,v,k _ _ (.inl rfl) e⟩
 | frz ob u ih=>obtain⟨e,q⟩:=x;exact⟨k _ _ (.inl rfl) e,ih q⟩
 | tbl ps =>
  have e:h.get? a=some { cls:=.none,data:=.fields ps }:=x;show h'.get? a=some { cls:=.none,data:=.fields ps };exact k a _ (.inl rfl) e
 | met f y =>
  have e:h.get? a=some (methodObj (.ref f) (.ref y)):=x;show h'.get? a=some (methodObj (.ref f) (.ref y));exact k a _ (.inl rfl) e
 | ext φ=>obtain⟨p,⟨o,e⟩,st⟩:=x;exact⟨st _ _ p fun o q=>k _ _ (.inl rfl) q,⟨o,k _ _ (.inl rfl) e⟩,st⟩
theorem cB.lt(x:cB P w H h)(e:H a=some o):a<h.objs.size:=(x a o e).lt
theorem cB.fresh(x:cB P w H h)(e:h.objs.size<=a):H a=none:=by
 cases q:H a with
 | none=>rfl
 | some u=>exact absurd (lt_of_lt_of_le (x.lt q) e) (lt_irrefl _)
theorem cB.kept(x:cB P w H h)(k:∀b u,h.get? b=some u->h'.get? b=some u):cB P w H h':=fun a o e =>
 (x a o e).stay (fun b u _ q=>k b u q) (fun _ q=>q) fun _ _ q=>q
theorem cB.laid(x:cB P w H h)(k:∀b u,h.get? b=some u->h'.get? b=some u)(hp:h.objs.size<=a)(new:aQ P w (upd H a o) h' a o):cB P w (upd H a o) h':=fun b u e=>by
 have hn:=x.fresh hp
 by_cases hb:b=a
 ·subst hb;rw[eB] at e;cases e;exact new
 ·rw[cj hb] at e;exact(x b u e).stay (fun c v _ q=>k c v q) (fun c q=>by rw[cj (fO q hn)];exact q) fun c xs q=>by rw[cj (fO q hn)];exact q
def Rd(H:Hp)(a:Addr)(u:HO):Prop:=H a=some u\/∃o,H a=some (.frz o u)
theorem Rd.ok{u:HO}(r:Rd H a u)(x:cB P w H h):aQ P w H h a u:=by
 rcases r with r|⟨o,r⟩
 ·exact x a u r
 ·obtain⟨_,q⟩:=x a _ r;exact q
def oZ:Option HO->Prop
 | some (.lst _)=>True
 | some (.dK _)=>True
 | some (.dT _)=>True
 | some (.set _ _)=>True
 | some (.ins _ _ _)=>True
 | some (.ext _)=>True
 | _=>False
section
variable {x e:Addr} {o':HO}
theorem cB.write(ok:cB P w H h)(mu:oZ (H x))(he:e=x\/H e=some (.own x))(k:∀b u,b≠e->h.get? b=some u->h'.get? b=some u)(heo:∃u,h'.get? e=some u)(new:aQ P w (upd H x o') h' x o'):cB P w (upd H x o') h':=fun b u q=>by
 have nown:∀c y,H c=some (.own y)->c≠x:=fun c y r z=>by subst z;rw[r] at mu;exact mu
 have ntup:∀c xs,H c=some (.tup xs)->c≠x:=fun c xs r z=>by subst z;rw[r] at mu;exact mu
 by_cases hb:b=x
 ·subst hb;rw[eB] at q;cases q;exact new
 ·rw[cj hb] at q
  by_cases hbe:b=e
  ·have q':H b=some (.own x):=by
    rcases he with z|z
    ·exact absurd (hbe.trans z) hb
    ·rw[hbe];exact z
   rw[q] at q';cases q';obtain⟨v,hv⟩:=heo;exact⟨v,by rw[hbe];exact hv⟩
  ·refine(ok b u q).stay (fun c v hc r=>k c v ?_ r) (fun c r=>by rw[cj (nown c b r)];exact r) fun c xs r=>by rw[cj (ntup c xs r)];exact r
   rcases hc with rfl|hc
   ·exact hbe
   ·rintro rfl;rcases he with z|z
    ·exact nown c b hc z
    ·rw[hc] at z;cases z;exact hb rfl
end
structure Un (fs ex:List Addr) (H H':Hp) (h h':Heap):Prop where
 keep:∀b o,h.get? b=some o->H b=none->b∉fs->b∉ex->h'.get? b=some o
 slot:∀b o,h.get? b=some o->H b=none->b∈fs->b∉ex->∃sl,h'.get? b=some { o with slots:=sl }
 free:∀b o,h.get? b=some o->H b=none->b∉ex->H' b=none
 there:∀b o,h.get? b=some o->b∉ex->∃o',h'.get? b=some o'
 tups:∀b xs,H b=some (.tup xs)->H' b=some (.tup xs)
 frzs:∀b o u,H b=some (.frz o u)->H' b=some (.frz o u)
 tbls:∀b ps,H b=some (.tbl ps)->∃more,H' b=some (.tbl (ps++more))
section
variable {fs fs' ex ex':List Addr} {H1 H2:Hp} {h1 h2:Heap} {x e:Addr}
theorem Un.any(u:Un fs ex H H1 h h1){ob:Obj}(q:h.get? b=some ob)(n:H b=none)(hx:b∉ex):∃sl,h1.get? b=some { ob with slots:=sl }:=by
 by_cases hb:b∈fs
 ·exact u.slot b ob q n hb hx
 ·exact⟨ob.slots,u.keep b ob q n hb hx⟩
theorem Un.kept(k:∀b u,h.get? b=some u->h'.get? b=some u):Un fs ex H H h h' :=
 ⟨fun b ob q _ _ _=>k b ob q,fun b ob q _ _ _=>⟨ob.slots,k b ob q⟩,fun _ _ _ n _=>n,fun b ob q _=>⟨ob,k b ob q⟩,fun _ _ q=>q,fun _ _ _ q=>q,fun _ ps q=>⟨#[],by rw[q];simp⟩⟩
theorem Un.refl:Un fs ex H H h h:=Un.kept fun _ _ q=>q
theorem Un.laid(k:∀b u,h.get? b=some u->h'.get? b=some u)(hp:h.objs.size<=a)(hn:H a=none):Un fs ex H (upd H a o) h h' where
 keep:=fun b u q _ _ _=>k b u q
 slot:=fun b u q _ _ _=>⟨u.slots,k b u q⟩
 free:=fun b u q n _=>by rw[cj (ne_of_lt (lt_of_lt_of_le (Heap.lt_size q) hp))];exact n
 there:=fun b u q _=>⟨u,k b u q⟩
 tups:=fun b xs q=>by rw[cj (fO q hn)];exact q
 frzs:=fun b u xs q=>by rw[cj (fO q hn)];exact q
 tbls:=fun b ps q=>⟨#[],by rw[cj (fO q hn),q];simp⟩
theorem Un.write(mu:oZ (H x))(he:e=x\/H e=some (.own x))(k:∀b u,b≠e->h.get? b=some u->h'.get? b=some u)(heo:∃u,h'.get? e=some u):Un fs ex H (upd H x o) h h':=by
 have hx:∀b,H b=none->b≠x:=fun b n z=>by subst z;rw[n] at mu;exact mu
 have hb:∀b,H b=none->b≠e:=fun b n z=>by
  subst z;rcases he with r|r
  ·exact hx b n r
  ·rw[n] at r;cases r
 have hm:∀b u,H b=some u->¬oZ (some u)->b≠x:=fun b u q nm z=>by subst z;rw[q] at mu;exact nm mu
 refine⟨fun b u q n _ _=>k b u (hb b n) q,fun b u q n _ _=>⟨u.slots,k b u (hb b n) q⟩,fun b u q n _=>by rw[cj (hx b n)];exact n,fun b u q _=>?_,
  fun b xs q=>by rw[cj (hm b _ q fun z=>z)];exact q,fun b u xs q=>by rw[cj (hm b _ q fun z=>z)];exact q,fun b ps q=>⟨#[],by rw[cj (hm b _ q fun z=>z),q];simp⟩⟩
 by_cases hbe:b=e
 ·subst hbe;exact heo
 ·exact⟨u,k b u hbe q⟩
end
def qP(h:Heap)(H:Hp):List Addr:=(List.range h.objs.size).filter fun a=>(H a).isSome
def jY(h:Heap)(H:Hp):Heap:=hideAll h (qP h H)
theorem Ja(h:Heap)(H:Hp):(jY h H).objs.size=h.objs.size:=PySem.W.hideAll_size _ _
theorem Hb{o:Obj}(e:h.get? b=some o)(n:H b=none):(jY h H).get? b=some o :=
 hideAll_get _ e fun hm=>by
  have q:(H b).isSome=true:=(mem_filter.mp hm).2;rw[n] at q;simp at q
theorem F_{o:Obj}(e:(jY h H).get? b=some o):h.get? b=some o/\H b=none:=by
 have e':h.get? b=some o:=of_hideAll (qP h H) e;refine⟨e',?_⟩;cases q:H b with
 | none=>rfl
 | some x =>
  have hm:b∈qP h H:=mem_filter.mpr ⟨mem_range.mpr (Heap.lt_size e'),by simp[q]⟩;have z:(jY h H).get? b=none:=hideAll_none (qP h H) hm;rw[z] at e;cases e
def FZ(g h:Heap)(L:Addr):List (Addr×Obj):=(List.range h.objs.size).filterMap fun a=>if a=L\/(g.get? a).isSome=true then none else (h.get? a).map fun o=>(a,o)
def cX(g h:Heap)(L d:Addr):List (Addr×Obj):=(FZ g h L).filter fun p=>decide (p.1≠d)
structure Mod (K:Frag) (mg:Str->Option Value) (base:Heap):Prop where
 kin:K.In base
 glob:base.Ns mainGlobals mg
 blt:∃mb,base.Ns builtinsNs mb/\∀x:Str,x ≠ "__name__" -> mb x=bootBuiltins x
 nolimit:base.NoLimit
structure Cx where
 prog:Program
 w:World
 K:Frag
 mg:Str->Option Value
 base:Heap
 A:Around
 N:List Str
 s₀:Shared
 H₀:Hp
 env:Env
 outer:List Env
 stack:List Env
 ex:List Addr
 fn:Str->Bool
 calm:Bool
 pn:List (Addr×Obj)
 xe:Value->Shared->Prop
def dj(l:List Env):List Addr:=l.filterMap (·.frame)
abbrev Cx.fs(X:Cx):List Addr:=dj X.outer
def qU(sc:Scope)(x:Str):Prop:=sc.names.lookup x=some .local\/sc.names.lookup x=some .cell\/sc.names.lookup x=some .free
def Loc(sc:Scope)(x:Str):Prop:=sc.names.lookup x=some .local\/sc.names.lookup x=some .cell
def BS(env:Env)(h:Heap)(m:Str->Option Value)(x:Str)(u:Value):Prop :=
 (env.kindOf x=some .local/\m x=some u)\/((env.kindOf x=some .cell\/env.kindOf x=some .free)/\∃c,env.cells.lookup x=some c/\h.IsCell c (some u))
structure Cx.Ok (X:Cx):Prop where
 mod:Mod X.K X.mg X.base
 kind:X.env.scope.kind=.function
 glob:X.env.globals=mainGlobals
 blt:X.env.builtins=builtinsNs
 above:X.s₀.heap.objs.size<=X.env.locals
 inj:∀x y c,X.env.cells.lookup x=some c->X.env.cells.lookup y=some c->x=y
 has:∀x,(X.env.kindOf x=some .cell\/X.env.kindOf x=some .free)->∃c,X.env.cells.lookup x=some c
 cab:∀x c,X.fn x=true->X.env.cells.lookup x=some c->X.s₀.heap.objs.size<=c
 hd:X.calm=true->X.A.handled=none
 frames:X.A.frames=some X.stack
 stk:X.stack=X.outer\/(X.stack=X.env::X.outer/\X.env.frame=some X.env.locals)
 exf:∀b∈X.ex,b≠X.env.locals/\∀x c,X.env.cells.lookup x=some c->c≠b
 bs:∀b o,X.base.get? b=some o->X.s₀.heap.get? b=some o/\X.H₀ b=none
 bsz:X.base.objs.size<=X.s₀.heap.objs.size
 noex:∀b o,X.base.get? b=some o->b∉X.ex
 exfs:∀b∈X.ex,b∉X.fs
 funs:X.s₀.heap.FunFrames X.base X.outer
 frf:∀b∈X.fs,X.H₀ b=none
structure Inv (X:Cx) (pins:List (Addr×Obj)) (σ:List (Option V)) (H:Hp) (s:Shared):Prop where
 ok:X.Ok
 os:s.os=X.s₀.os
 bare:AllBare s.gens
 base:Un X.fs X.ex X.H₀ H X.s₀.heap s.heap
 loc:∃m,s.heap.Ns X.env.locals m/\∀(i:Nat) (x:Str) (v:V),X.N[i]?=some x->σ[i]?=some (some v)->qU X.env.scope x->∃u,RelV v u/\BS X.env s.heap m x u
 cell:∀x c,X.env.cells.lookup x=some c->∃v,s.heap.IsCell c v
 free:H X.env.locals=none
 freeC:∀x c,X.env.cells.lookup x=some c->H c=none
 pin:∀p∈X.pn++pins,s.heap.get? p.1=some p.2/\H p.1=none/\p.1≠X.env.locals/\p.1∉X.fs/\∀v,p.2.data≠.cell v
 hok:cB X.prog X.w H s.heap
 len:σ.length=X.N.length
variable {v:V} {u:Value} {X:Cx} {pins:List (Addr×Obj)} {g':Array GenState} {t' i:Nat} {d':Drawn} {ch:List Addr} {it:Addr} {N:List Str} {s':Shared}
section
variable {σ:List (Option V)}
theorem Cx.Ok.nofr(ok:X.Ok){o:Obj}(e:X.base.get? b=some o):b∉X.fs:=fun hb=>by
 have:=(ok.funs.mem hb).1;rw[e] at this;cases this
theorem Inv.bs(I:Inv X pins σ H s):∀b o,X.base.get? b=some o->s.heap.get? b=some o/\H b=none:=fun b o e =>
 ⟨I.base.keep b o (I.ok.bs b o e).1 (I.ok.bs b o e).2 (I.ok.nofr e) (I.ok.noex b o e),I.base.free b o (I.ok.bs b o e).1 (I.ok.bs b o e).2 (I.ok.noex b o e)⟩
theorem Inv.bk(I:Inv X pins σ H s):∀b o,X.base.get? b=some o->s.heap.get? b=some o:=fun b o e=>(I.bs b o e).1
theorem Inv.mod(I:Inv X pins σ H s):Mod X.K X.mg X.base:=I.ok.mod
theorem Inv.kIn(I:Inv X pins σ H s):X.K.In s.heap:=I.ok.mod.kin.keeps I.bk
theorem Inv.lt(I:Inv X pins σ H s):X.env.locals<s.heap.objs.size:=let ⟨_,hn,_⟩:=I.loc;hn.lt
theorem Inv.sz(I:Inv X pins σ H s):X.s₀.heap.objs.size<=s.heap.objs.size:=le_trans I.ok.above (le_of_lt I.lt)
theorem Inv.nofs(I:Inv X pins σ H s)(h:s.heap.objs.size<=a):a∉X.fs:=fun hb=>by
 obtain⟨_,o,ho,_⟩:=I.ok.funs.mem hb;exact absurd (lt_of_lt_of_le (Heap.lt_size ho) (le_trans I.sz h)) (lt_irrefl _)
theorem Inv.cne(I:Inv X pins σ H s):∀x c,X.env.cells.lookup x=some c->c≠X.env.locals:=fun x c e z=>by
 obtain⟨v,o,ho,hd⟩:=I.cell x c e;obtain⟨m,⟨o',es,ep,ho',hd',_⟩,_⟩:=I.loc;rw[z,ho'] at ho;cases ho;rw[hd'] at hd;cases hd
theorem Inv.funs(I:Inv X pins σ H s):s.heap.FunFrames X.base X.outer:=by
 have all:∀(l:List Env),(∀b∈dj l,b∈X.fs)->X.s₀.heap.FunFrames X.base l->s.heap.FunFrames X.base l:=by
  intro l
  induction l with
  | nil=>intro _ _;trivial
  | cons env r ih =>
   intro hs hl;obtain⟨hk,⟨L,o,hf,hn,ho,hd⟩,hr⟩:=hl;have hL:L∈X.fs:=hs L (by unfold dj;rw[filterMap_cons,hf];exact mem_cons_self);obtain⟨sl,e⟩:=I.base.slot L o ho (I.ok.frf L hL) hL fun z=>I.ok.exfs L z hL;exact⟨hk,⟨L,_,hf,hn,e,hd⟩,ih (fun b hb=>hs b (by unfold dj;rw[filterMap_cons,hf];exact mem_cons_of_mem _ hb)) hr⟩
 exact all X.outer (fun _ hb=>hb) I.ok.funs
theorem Inv.stack(I:Inv X pins σ H s):s.heap.FunFrames X.base X.stack:=by
 rcases I.ok.stk with e|⟨e,hf⟩
 ·rw[e];exact I.funs
 ·rw[e];obtain⟨m,hn,_⟩:=I.loc;refine .cons (by rw[I.ok.kind];decide) hf hn ?_ I.funs;exact Heap.get?_none_of_le (le_trans I.ok.bsz I.ok.above)
theorem Inv.stkSub(I:Inv X pins σ H s):∀b∈dj X.stack,b∈X.env.locals::X.fs:=fun b hb=>by
 rcases I.ok.stk with e|⟨e,hf⟩
 ·rw[e] at hb;exact mem_cons_of_mem _ hb
 ·rw[e] at hb;unfold dj at hb;rw[filterMap_cons,hf] at hb;exact hb
theorem Inv.stkFree(I:Inv X pins σ H s):∀b∈dj X.stack,H b=none:=fun b hb=>by
 rcases mem_cons.mp (I.stkSub b hb) with e|hb
 ·rw[e];exact I.free
 ·obtain⟨_,o,ho,_⟩:=I.ok.funs.mem hb;exact I.base.free b o ho (I.ok.frf b hb) fun z=>I.ok.exfs b z hb
theorem Inv.step(I:Inv X pins σ H s)(hch:∀b∈ch,(b∈X.ex\/X.s₀.heap.objs.size<=b)/\b≠X.env.locals/\(∀x c,X.env.cells.lookup x=some c->c≠b)/\∀p∈X.pn++pins,p.1≠b)(keep:∀b o,b≠X.env.locals->b∉X.fs->b∉ch->s.heap.get? b=some o->H b=none->h'.get? b=some o)(slot:∀b o,b≠X.env.locals->b∈X.fs->b∉ch->s.heap.get? b=some o->H b=none->∃sl,h'.get? b=some { o with slots:=sl })(free:∀b o,b∉ch->s.heap.get? b=some o->H b=none->H' b=none)(there:∀b o,b∉ch->s.heap.get? b=some o->∃o',h'.get? b=some o')(tups:∀b xs,H b=some (.tup xs)->H' b=some (.tup xs))(frzs:∀b o u,H b=some (.frz o u)->H' b=some (.frz o u))(tbls:∀b ps,H b=some (.tbl ps)->∃more,H' b=some (.tbl (ps++more)))(ns:∀m,s.heap.Ns X.env.locals m->h'.Ns X.env.locals m)(hok:cB X.prog X.w H' h')(hg:AllBare g') :
  Inv X pins σ H' { s with heap:=h',gens:=g',drawn:=d',toks:=t' }:=by
 have neL:∀b o,X.s₀.heap.get? b=some o->b≠X.env.locals:=fun b o e=>ne_of_lt (lt_of_lt_of_le (Heap.lt_size e) I.ok.above);have neC:∀b o,X.s₀.heap.get? b=some o->b∉X.ex->b∉ch:=fun b o e hx hb=>by
  rcases(hch b hb).1 with z|z
  ·exact hx z
  ·exact absurd (lt_of_lt_of_le (Heap.lt_size e) z) (lt_irrefl _)
 have cellK:∀x c,X.env.cells.lookup x=some c->∀v,s.heap.IsCell c v->h'.IsCell c v:=fun x c e v ⟨o,ho,hd⟩=>by
  have nch:c∉ch:=fun z=>(hch c z).2.2.1 x c e rfl
  by_cases hc:c∈X.fs
  ·obtain⟨sl,q⟩:=slot c o (I.cne x c e) hc nch ho (I.freeC x c e);exact⟨_,q,hd⟩
  ·exact⟨o,keep c o (I.cne x c e) hc nch ho (I.freeC x c e),hd⟩
 refine⟨I.ok,I.os,hg,⟨fun b o e n hb hx=>?_,fun b o e n hb hx=>?_,fun b o e n hx=>?_,fun b o e hx=>?_,fun b xs e=>tups b xs (I.base.tups b xs e),fun b o xs e=>frzs b o xs (I.base.frzs b o xs e),fun b ps e=>?_⟩,?_,fun x c e=>?_,?_,fun x c e=>?_,fun p hp=>?_,hok,I.len⟩
 ·exact keep b o (neL b o e) hb (neC b o e hx) (I.base.keep b o e n hb hx) (I.base.free b o e n hx)
 ·obtain⟨sl,e1⟩:=I.base.slot b o e n hb hx;obtain⟨sl',e2⟩:=slot b _ (neL b o e) hb (neC b o e hx) e1 (I.base.free b o e n hx);exact⟨sl',e2⟩
 ·obtain⟨o',e1⟩:=I.base.there b o e hx;exact free b o' (neC b o e hx) e1 (I.base.free b o e n hx)
 ·obtain⟨o',e1⟩:=I.base.there b o e hx;exact there b o' (neC b o e hx) e1
 ·obtain⟨m1,e1⟩:=I.base.tbls b ps e;obtain⟨m2,e2⟩:=tbls b _ e1;exact⟨m1++m2,by rw[e2,Array.append_assoc]⟩
 ·obtain⟨m,hn,hl⟩:=I.loc;refine⟨m,ns m hn,fun i x v e1 e2 e3=>?_⟩;obtain⟨u,r,l⟩:=hl i x v e1 e2 e3;refine⟨u,r,?_⟩;rcases l with l|⟨k,c,e,z⟩
  ·exact .inl l
  ·exact .inr ⟨k,c,e,cellK x c e _ z⟩
 ·obtain⟨v,z⟩:=I.cell x c e;exact⟨v,cellK x c e v z⟩
 ·obtain⟨m,⟨o,_,_,ho,_⟩,_⟩:=I.loc;exact free _ o (fun z=>(hch _ z).2.1 rfl) ho I.free
 ·obtain⟨v,o,ho,hd⟩:=I.cell x c e;exact free c o (fun z=>(hch c z).2.2.1 x c e rfl) ho (I.freeC x c e)
 ·obtain⟨e,n,ne,nf,d⟩:=I.pin p hp;have nch:p.1∉ch:=fun z=>(hch p.1 z).2.2.2 p hp rfl;exact⟨keep p.1 p.2 ne nf nch e n,free p.1 p.2 nch e n,ne,nf,d⟩
theorem Inv.un(I:Inv X pins σ H s)(u:Un X.fs [] H H' s.heap h')(hok:cB X.prog X.w H' h'):Inv X pins σ H' { s with heap:=h',toks:=t' }:=by
 obtain⟨m,⟨o,es,ep,ho,r⟩,_⟩:=id I.loc;obtain⟨sl,hL⟩:=u.any ho I.free (by simp);exact I.step (g':=s.gens) (d':=s.drawn) (ch:=[]) (fun _ z=>nomatch z) (fun b o _ hb _ e n=>u.keep b o e n hb (by simp)) (fun b o _ hb _ e n=>u.slot b o e n hb (by simp)) (fun b o _ e n=>u.free b o e n (by simp)) (fun b o _ e=>u.there b o e (by simp)) u.tups u.frzs u.tbls (fun m' hm=>by
  obtain⟨o',es',ep',ho',r'⟩:=hm;rw[ho] at ho';cases ho';exact⟨_,es',ep',hL,r'⟩) hok I.bare
theorem Inv.call(I:Inv X pins σ H s)(u:Un (dj X.stack) ch H H' s.heap h')(hok:cB X.prog X.w H' h')(hg:AllBare g')(hch:∀b∈ch,(b∈X.ex\/X.s₀.heap.objs.size<=b)/\b≠X.env.locals/\(∀x c,X.env.cells.lookup x=some c->c≠b)/\∀p∈X.pn++pins,p.1≠b) :
  Inv X pins σ H' { s with heap:=h',gens:=g',drawn:=d',toks:=t' }:=by
 obtain⟨m,⟨o,es,ep,ho,r⟩,_⟩:=id I.loc;obtain⟨sl,hL⟩:=u.any ho I.free fun z=>(hch _ z).2.1 rfl;exact I.step (ch:=ch) hch (fun b o hL hb hc e n=>u.keep b o e n (fun z=>(mem_cons.mp (I.stkSub b z)).elim hL hb) hc) (fun b o _ _ hc e n=>u.any e n hc) (fun b o hc e n=>u.free b o e n hc) (fun b o hc e=>u.there b o e hc) u.tups u.frzs u.tbls (fun m' hm=>by
  obtain⟨o',es',ep',ho',r'⟩:=hm;rw[ho] at ho';cases ho';exact⟨_,es',ep',hL,r'⟩) hok hg
theorem Inv.turned(I:Inv X pins σ H s)(k:∀b o,b≠it->s.heap.get? b=some o->h'.get? b=some o)(hn:H it=none)(hL:it≠X.env.locals)(h1:it∈X.ex\/X.s₀.heap.objs.size<=it)(h2:∀x c,X.env.cells.lookup x=some c->c≠it)(h3:∀p∈X.pn++pins,p.1≠it):Inv X pins σ H { s with heap:=h',toks:=t' }:=by
 have nit:∀b u,H b=some u->b≠it:=fun b u e z=>by rw[z,hn] at e;cases e
 refine I.step (g':=s.gens) (d':=s.drawn) (ch:=[it]) (fun b hb=>?_) (fun b o _ _ hc e _=>k b o (fun z=>hc (by simp[z])) e) (fun b o _ _ hc e _=>⟨o.slots,k b o (fun z=>hc (by simp[z])) e⟩) (fun _ _ _ _ n=>n)
  (fun b o hc e=>⟨o,k b o (fun z=>hc (by simp[z])) e⟩) (fun _ _ e=>e) (fun _ _ _ e=>e) (fun b ps e=>⟨#[],by rw[e];simp⟩) (fun m hm=>?_) (fun b u e=>?_) I.bare
 ·have e:b=it:=by simpa using hb
  subst e;exact⟨h1,hL,h2,h3⟩
 ·obtain⟨o,es,ep,ho,r⟩:=hm;exact⟨o,es,ep,k _ o (Ne.symm hL) ho,r⟩
 ·refine(I.hok b u e).stay (fun c v hc q=>k c v ?_ q) (fun _ q=>q) fun _ _ q=>q;rcases hc with z|z
  ·rw[z];exact nit b u e
  ·exact nit c _ z
theorem Inv.tok(I:Inv X pins σ H s)(t:Nat):Inv X pins σ H { s with toks:=t }:=I.un (h':=s.heap) (t':=t) Un.refl I.hok
theorem Inv.kept{t':Nat}(I:Inv X pins σ H s)(k:∀b u,s.heap.get? b=some u->h'.get? b=some u):Inv X pins σ H { s with heap:=h',toks:=t' }:=I.un (Un.kept k) (I.hok.kept k)
theorem Inv.laid{a:Addr}{o:HO}{t':Nat}(I:Inv X pins σ H s)(k:∀b u,s.heap.get? b=some u->h'.get? b=some u)(hp:s.heap.objs.size<=a)(new:aQ X.prog X.w (upd H a o) h' a o) :
  Inv X pins σ (upd H a o) { s with heap:=h',toks:=t' }:=I.un (Un.laid k hp (I.hok.fresh hp)) (I.hok.laid k hp new)
theorem Inv.write{x e:Addr}{o:HO}{t':Nat}(I:Inv X pins σ H s)(mu:oZ (H x))(he:e=x\/H e=some (.own x))(k:∀b u,b≠e->s.heap.get? b=some u->h'.get? b=some u)(heo:∃u,h'.get? e=some u)(new:aQ X.prog X.w (upd H x o) h' x o):Inv X pins σ (upd H x o) { s with heap:=h',toks:=t' }:=I.un (Un.write mu he k heo) (I.hok.write mu he k heo new)
theorem Inv.weak{σ':List (Option V)}(I:Inv X pins σ H s)(hl:σ'.length=σ.length)(w:∀(i:Nat) v,σ'[i]?=some (some v)->σ[i]?=some (some v)):Inv X pins σ' H s :=
 ⟨I.ok,I.os,I.bare,I.base,let ⟨m,hn,hl'⟩:=I.loc;⟨m,hn,fun i x v e1 e2 e3=>hl' i x v e1 (w i v e2) e3⟩,I.cell,I.free,I.freeC,I.pin,I.hok,hl.trans I.len⟩
theorem Inv.pins_of{pins':List (Addr×Obj)}(I:Inv X pins σ H s)(h:∀p∈pins',s.heap.get? p.1=some p.2/\H p.1=none/\p.1≠X.env.locals/\p.1∉X.fs/\∀v,p.2.data≠.cell v):Inv X pins' σ H s :=
 ⟨I.ok,I.os,I.bare,I.base,I.loc,I.cell,I.free,I.freeC,fun p hp=>(mem_append.mp hp).elim (fun z=>I.pin p (mem_append_left _ z)) (h p),I.hok,I.len⟩
theorem zd(hN:N.Nodup){j:Nat}{x:Str}(a:N[i]?=some x)(b:N[j]?=some x):i=j:=by obtain⟨h1,e1⟩:=List.getElem?_eq_some_iff.mp a;obtain⟨h2,e2⟩:=List.getElem?_eq_some_iff.mp b;exact(getElem_inj hN).mp (e1.trans e2.symm)
theorem I_{M:Model}{x:Str}{Q:Unit->Shared->Prop}(I:Inv X pins σ H s)(hN:X.N.Nodup)(hi:X.N[i]?=some x)(hx:Loc X.env.scope x)(r:RelV v u)(h:∀s',Inv X pins (σ.set i (some v)) H s'->(∃a,Heap.SameBut a s.heap s'.heap/\(a=X.env.locals\/X.env.cells.lookup x=some a))->Q () s')(hf:X.fn x=true\/X.env.scope.names.lookup x=some .local:=by first|exact .inl rfl|exact .inr rfl|assumption):wpAny M A (storeName X.env x u) Q E s:=by
 obtain⟨m,hn,hl⟩:=id I.loc;have hcls:(X.env.scope.kind==.class||(X.env.scope.kind==.module&&X.env.locals != X.env.globals))=false:=by rw[I.ok.kind];rfl
 have hiσ:i<σ.length:=by rw[I.len];exact(List.getElem?_eq_some_iff.mp hi).1
 have cne:=I.cne;have tracked:∀{a:Addr} {h':Heap},(∃o,s.heap.get? a=some o/\H a=none)->Heap.SameBut a s.heap h'->cB X.prog X.w H h':=fun {a h'} ha hs b ob e=>by
  obtain⟨_,_,hfree⟩:=ha;refine(I.hok b ob e).stay (fun c w' hc q=>(hs.2 c ?_).trans q) (fun _ q=>q) fun _ _ q=>q;rintro rfl;rcases hc with rfl|hc
  ·rw[hfree] at e;cases e
  ·rw[hfree] at hc;cases hc
 rcases hx with hk|hk
 ·refine wpAny_storeName_local hk hn (fun h' hn' hs=>?_) hcls;obtain⟨oL,_,_,hoL,_⟩:=id hn;refine h _ ⟨I.ok,I.os,I.bare,⟨fun b o e n hb hx=>?_,fun b o e n hb hx=>?_,I.base.free,fun b o e hx=>?_,I.base.tups,I.base.frzs,I.base.tbls⟩,⟨_,hn',fun j y v' e1 e2 e3=>?_⟩,fun y c e=>?_,I.free,I.freeC,fun p hp=>?_,tracked ⟨oL,hoL,I.free⟩ hs,by simpa using I.len⟩ ⟨_,hs,.inl rfl⟩
  ·exact(hs.2 b (ne_of_lt (lt_of_lt_of_le (Heap.lt_size e) I.ok.above))).trans (I.base.keep b o e n hb hx)
  ·obtain⟨sl,e1⟩:=I.base.slot b o e n hb hx;exact⟨sl,(hs.2 b (ne_of_lt (lt_of_lt_of_le (Heap.lt_size e) I.ok.above))).trans e1⟩
  ·obtain⟨o',e1⟩:=I.base.there b o e hx;exact⟨o',(hs.2 b (ne_of_lt (lt_of_lt_of_le (Heap.lt_size e) I.ok.above))).trans e1⟩
  ·by_cases hj:j=i
   ·subst hj;rw[hi] at e1;cases e1;rw[getElem?_set_self hiσ] at e2;cases e2;exact⟨u,r,.inl ⟨hk,by simp⟩⟩
   ·rw[getElem?_set_ne (Ne.symm hj)] at e2;obtain⟨u',r',q⟩:=hl j y v' e1 e2 e3;refine⟨u',r',?_⟩;rcases q with ⟨k,e⟩|⟨k,c,e,z⟩
    ·refine .inl ⟨k,?_⟩;have:y≠x:=fun e=>hj (zd hN e1 (e▸hi));simp[this,e]
    ·exact .inr ⟨k,c,e,z.sameBut hs (cne y c e)⟩
  ·obtain⟨w',z⟩:=I.cell y c e;exact⟨w',z.sameBut hs (cne y c e)⟩
  ·obtain⟨e,n,ne,nf,d⟩:=I.pin p hp;exact⟨(hs.2 p.1 ne).trans e,n,ne,nf,d⟩
 ·have hfn:X.fn x=true:=by
   rcases hf with z|z
   ·exact z
   ·rw[z] at hk;cases hk
  obtain⟨c,hc⟩:=I.ok.has x (.inl hk);obtain⟨w',z⟩:=I.cell x c hc;refine wpAny_storeName_cell I.ok.kind hk hc z (fun h' hc' hs=>?_);obtain⟨oc,hoc,hocd⟩:=id z;refine h { s with heap:=h' } ⟨I.ok,I.os,I.bare,⟨fun b o e n hb hx=>?_,fun b o e n hb hx=>?_,I.base.free,fun b o e hx=>?_,I.base.tups,I.base.frzs,I.base.tbls⟩,⟨m,hn.sameBut hs (Ne.symm (cne x c hc)),fun j y v' e1 e2 e3=>?_⟩,fun y c' e=>?_,I.free,I.freeC,fun p hp=>?_,tracked ⟨oc,hoc,I.freeC x c hc⟩ hs,by simpa using I.len⟩ ⟨c,hs,.inr hc⟩
  ·exact(hs.2 b (ne_of_lt (lt_of_lt_of_le (Heap.lt_size e) (I.ok.cab x c hfn hc)))).trans (I.base.keep b o e n hb hx)
  ·obtain⟨sl,e1⟩:=I.base.slot b o e n hb hx;exact⟨sl,(hs.2 b (ne_of_lt (lt_of_lt_of_le (Heap.lt_size e) (I.ok.cab x c hfn hc)))).trans e1⟩
  ·obtain⟨o',e1⟩:=I.base.there b o e hx;exact⟨o',(hs.2 b (ne_of_lt (lt_of_lt_of_le (Heap.lt_size e) (I.ok.cab x c hfn hc)))).trans e1⟩
  ·by_cases hj:j=i
   ·subst hj;rw[hi] at e1;cases e1;rw[getElem?_set_self hiσ] at e2;cases e2;exact⟨u,r,.inr ⟨.inl hk,c,hc,hc'⟩⟩
   ·rw[getElem?_set_ne (Ne.symm hj)] at e2;obtain⟨u',r',q⟩:=hl j y v' e1 e2 e3;refine⟨u',r',?_⟩;rcases q with q|⟨k,c',e,z'⟩
    ·exact .inl q
    ·refine .inr ⟨k,c',e,z'.sameBut hs ?_⟩;rintro rfl;exact hj (zd hN e1 (I.ok.inj _ _ _ e hc▸hi))
  ·by_cases hcc:c'=c
   ·subst hcc;exact⟨_,hc'⟩
   ·obtain⟨w2,z2⟩:=I.cell y c' e;exact⟨w2,z2.sameBut hs hcc⟩
  ·obtain⟨e,n,ne,nf,d⟩:=I.pin p hp;refine⟨(hs.2 p.1 ?_).trans e,n,ne,nf,d⟩;intro q;rw[q,hoc] at e;have q':oc=p.2:=Option.some.inj e;exact d w' (by rw[<- q'];exact hocd)
theorem tS{M:Model}{x:Str}{Q:Unit->Shared->Prop}(I:Inv X pins σ H s)(hN:X.N.Nodup)(hi:X.N[i]?=some x)(hx:Loc X.env.scope x)(r:RelV v u)(h:∀s',Inv X pins (σ.set i (some v)) H s'->Q () s')(hf:X.fn x=true\/X.env.scope.names.lookup x=some .local:=by first|exact .inl rfl|exact .inr rfl|assumption):wpAny M A (storeName X.env x u) Q E s :=
 I_ I hN hi hx r (fun s' I' _=>h s' I') hf
theorem Inv.call'(I:Inv X pins σ H s)(ho:s'.os=s.os)(u:Un (dj X.stack) ch H H' s.heap s'.heap)(hok:cB X.prog X.w H' s'.heap)(hg:AllBare s'.gens)(hch:∀b∈ch,(b∈X.ex\/X.s₀.heap.objs.size<=b)/\b≠X.env.locals/\(∀x c,X.env.cells.lookup x=some c->c≠b)/\∀p∈X.pn++pins,p.1≠b):Inv X pins σ H' s':=by obtain⟨h',g',d',t',o'⟩:=s';have e:o'=s.os:=ho;subst e;exact I.call (g':=g') (t':=t') (d':=d') u hok hg hch
end
abbrev XK:=Value->Option Addr->Hp->Prop
abbrev St:=List (Option V)
abbrev VK:=V->Hp->Prop
abbrev TE:=St->Hp->VK->Prop
abbrev TT:=St->Hp->(Bool->Hp->Prop)->Prop
abbrev TA:=St->Hp->(List V->Hp->Prop)->Prop
structure Ends where
 nx:St->Hp->Prop
 rt:VK
 bk:St->Hp->Prop:=fun _ _=>False
 ct:St->Hp->Prop:=fun _ _=>False
abbrev TS:=Ends->St->Hp->Prop
def EP(X:Cx)(pins:List (Addr×Obj))(σ:St)(Q:VK)(u:Value)(s':Shared):Prop:=∃v H',Inv X pins σ H' s'/\RelV v u/\Q v H'
def TP(X:Cx)(pins:List (Addr×Obj))(σ:St)(Q:Bool->Hp->Prop)(b:Bool)(s':Shared):Prop:=∃H',Inv X pins σ H' s'/\Q b H'
def AP(X:Cx)(pins:List (Addr×Obj))(σ:St)(Q:List V->Hp->Prop)(us:List Value)(s':Shared):Prop:=∃vs H',Inv X pins σ H' s'/\Vals vs us/\Q vs H'
def SP(X:Cx)(pins:List (Addr×Obj))(D:Ends)(f:Flow)(s':Shared):Prop :=
 match f with
 | .next=>∃σ' H',Inv X pins σ' H' s'/\D.nx σ' H'
 | .brk=>∃σ' H',Inv X pins σ' H' s'/\D.bk σ' H'
 | .cont=>∃σ' H',Inv X pins σ' H' s'/\D.ct σ' H'
 | .ret u=>∃v σ' H',Inv X pins σ' H' s'/\RelV v u/\D.rt v H'
def PE(X:Cx)(e:Expr)(t:TE):Prop :=
 ∀(pins:List (Addr×Obj)) (s:Shared) (σ:St) (H:Hp) (Q:VK),Inv X pins σ H s->t σ H Q->wpAny (model X.prog X.w) X.A (eval e X.env) (EP X pins σ Q) X.xe s
def PT(X:Cx)(e:Expr)(t:TT):Prop :=
 ∀(pins:List (Addr×Obj)) (s:Shared) (σ:St) (H:Hp) (Q:Bool->Hp->Prop),Inv X pins σ H s->t σ H Q->wpAny (model X.prog X.w) X.A (isTrue e X.env (eval e X.env)) (TP X pins σ Q) X.xe s
def PW(X:Cx)(e:Expr)(t:TT):Prop :=
 ∀(whole:Sem Value) (pins:List (Addr×Obj)) (s:Shared) (σ:St) (H:Hp) (Q:Bool->Hp->Prop),Inv X pins σ H s->t σ H Q->wpAny (model X.prog X.w) X.A (isTrue e X.env whole) (TP X pins σ Q) X.xe s
variable {e:Expr}
theorem PW.pt{t:TT}(h:PW X e t):PT X e t:=h _
def PA(X:Cx)(es:List Expr)(t:TA):Prop :=
 ∀(pos:Pos) (pins:List (Addr×Obj)) (s:Shared) (σ:St) (H:Hp) (Q:List V->Hp->Prop),Inv X pins σ H s->t σ H Q->wpAny (model X.prog X.w) X.A (spliced (backTo pos (starEach es X.env))) (AP X pins σ Q) X.xe s
def PS(X:Cx)(st:Stmt)(t:TS):Prop :=
 ∀(pins:List (Addr×Obj)) (s:Shared) (σ:St) (H:Hp) (D:Ends),Inv X pins σ H s->t D σ H->wpAny (model X.prog X.w) X.A (exec st X.env) (SP X pins D) X.xe s
def PSs(X:Cx)(st:List Stmt)(t:TS):Prop :=
 ∀(pins:List (Addr×Obj)) (s:Shared) (σ:St) (H:Hp) (D:Ends),Inv X pins σ H s->t D σ H->wpAny (model X.prog X.w) X.A (execs st X.env) (SP X pins D) X.xe s
theorem aW{α:Type}{t:Sem α}{Q Q':α->Shared->Prop}{M:Model}(h:wpAny M A t Q E s)(hQ:∀a s,Q a s->Q' a s):wpAny M A t Q' E s:=wpAny_mono h hQ fun _ _ x=>x
variable {Q:Value->Shared->Prop} {pos:Pos} {ta tb:TE} {op:CmpOp}
section
def BR(i:Nat):TE:=fun σ H Q=>∃v,σ[i]?=some (some v)/\Q v H
def tC(v:V):TE:=fun _ H Q=>Q v H
theorem xp{x:Str}(hN:X.N[i]?=some x)(hv:qU X.env.scope x)(hd:(x==("__debug__" : Str))=false:=by decide)(hcd:(x==("__classdict__" : Str))=false:=by decide):PE X (.Name x pos) (BR i):=by
 intro pins s σ H Q I h;obtain⟨v,e,h⟩:=h;obtain⟨m,hn,hl⟩:=I.loc;obtain⟨u,r,l⟩:=hl i x v hN e hv;have fin:EP X pins σ Q u s:=⟨v,H,I,r,h⟩
 rcases l with ⟨hk,hm⟩|⟨hk,c,hc,hcell⟩
 ·exact wpAny_Name (wpAny_loadName_local I.ok.kind hk hn hm fin) hd
 ·rcases hk with hk|hk
  ·exact wpAny_Name (wpAny_loadName_cell I.ok.kind hk hc hcell fin) hd
  ·exact wpAny_Name (wpAny_loadName_free I.ok.kind hk hc hcell fin hcd) hd
theorem Ea{i j pos}:PE X (.Constant (.int i) j pos) (tC (.int i)):=fun _ _ _ H _ I h=>wpAny_Constant_int ⟨.int i,H,I.tok _,⟨_,rfl⟩,h⟩
theorem Dp{b j pos}:PE X (.Constant (.bool b) j pos) (tC (.bl b)):=fun _ _ _ H _ I h=>Constant_bool ⟨.bl b,H,I,rfl,h⟩
theorem D_{j pos}:PE X (.Constant .none j pos) (tC .non):=fun _ _ _ H _ I h=>Constant_none ⟨.non,H,I,rfl,h⟩
theorem D9{x j pos}:PE X (.Constant (.str x) j pos) (tC (.str x)):=fun _ _ _ H _ I h=>Calls.Constant_str ⟨.str x,H,I.tok _,⟨_,rfl⟩,h⟩
def Gl(X:Cx)(x:Str):Prop:=X.env.kindOf x=some .globalImplicit
theorem kZ{σ:St}{x:Str}(I:Inv X pins σ H s)(hg:Gl X x)(hm:X.mg x=some u)(h:Q u s)(hd:(x==("__debug__" : Str))=false:=by decide):wpAny (model X.prog X.w) X.A (eval (.Name x pos) X.env) Q E s :=
 Calls.Name_function_global I.ok.kind hg (Calls.loadGlobal_global (by rw[I.ok.glob];exact I.mod.glob.keeps I.bk) hm h) hd
theorem og{σ:St}{x:Str}(I:Inv X pins σ H s)(hg:Gl X x)(hm:X.mg x=none)(hv:bootBuiltins x=some u)(h:Q u s)(hn:x ≠ "__name__" := by decide)(hd:(x==("__debug__" : Str))=false:=by decide):wpAny (model X.prog X.w) X.A (eval (.Name x pos) X.env) Q E s:=by obtain⟨mb,h1,h2⟩:=I.mod.blt;exact Calls.Name_function_global I.ok.kind hg (Calls.loadGlobal_builtin (by rw[I.ok.glob];exact I.mod.glob.keeps I.bk) hm (by rw[I.ok.blt];exact h1.keeps I.bk) ((h2 x hn).trans hv) h) hd
theorem FY{x:Str}(hg:Gl X x)(hm:X.mg x=some u)(r:RelV v u)(hd:(x==("__debug__" : Str))=false:=by decide):PE X (.Name x pos) (tC v) :=
 fun _ _ _ H _ I h=>kZ I hg hm ⟨v,H,I,r,h⟩ hd
theorem FX{x:Str}(hg:Gl X x)(hm:X.mg x=none)(hv:bootBuiltins x=some u)(r:RelV v u)(hn:x ≠ "__name__" := by decide)(hd:(x==("__debug__" : Str))=false:=by decide):PE X (.Name x pos) (tC v) :=
 fun _ _ _ H _ I h=>og I hg hm hv ⟨v,H,I,r,h⟩ hn hd
variable {a b:Expr}
def PC(X:Cx)(op:CmpOp)(a b:Expr)(t:TE):Prop :=
 ∀(pins:List (Addr×Obj)) (s:Shared) (σ:St) (H:Hp) (Q:VK),Inv X pins σ H s->t σ H Q ->
  wpAny (model X.prog X.w) X.A (eval a X.env) (fun v s₁=>wpAny (model X.prog X.w) X.A (eval b X.env) (fun u s₂=>wpAny (model X.prog X.w) X.A (compareOp op v u) (EP X pins σ Q) X.xe s₂) X.xe s₁) X.xe s
def BQ(ta:TE):TE:=fun σ H Q=>ta σ H fun x H1=>Q (.bl (decide (x=.non))) H1
def Dn(ta:TE):TE:=fun σ H Q=>ta σ H fun x H1=>Q (.bl (!decide (x=.non))) H1
theorem RelV.none_iff{x:V}{v:Value}(r:RelV x v):(v==Value.none)=decide (x=.non):=by
 cases x with
 | non=>cases r;rfl
 | bl _=>cases r;rfl
 | int _=>obtain⟨t,rfl⟩:=r;rfl
 | str _=>obtain⟨t,rfl⟩:=r;rfl
 | byt _=>obtain⟨t,rfl⟩:=r;rfl
 | flt _=>obtain⟨t,rfl⟩:=r;rfl
 | ref _=>cases r;rfl
 | ty _=>cases r;rfl
theorem D8{j pos'}(ha:PE X a ta):PC X .Is a (.Constant .none j pos') (BQ ta):=by intro pins s σ H Q I h;refine aW (ha pins s σ H _ I h) fun v s1 ⟨x,H1,I1,r1,q1⟩=>?_;exact Constant_none (is_none_gen ⟨.bl _,H1,I1,by rw[r1.none_iff];rfl,q1⟩)
theorem FW{j pos'}(ha:PE X a ta):PC X .IsNot a (.Constant .none j pos') (Dn ta):=by intro pins s σ H Q I h;refine aW (ha pins s σ H _ I h) fun v s1 ⟨x,H1,I1,r1,q1⟩=>?_;exact Constant_none (isnot_none_gen ⟨.bl _,H1,I1,by rw[r1.none_iff];rfl,q1⟩)
def tB(t:TE):TT:=fun σ H Q=>t σ H fun x H1=>∃c,x=.bl c/\Q c H1
theorem D7{t:TE}(h:PC X op a b t)(h1:behindInMarks op b=false:=by first|exact nobehind _ (by decide) (by decide)|rfl):PT X (.Compare a [op] [b] pos) (tB t):=by intro pins s σ H Q I hw;refine wpAny_isTrue_Compare1 (aW (h pins s σ H _ I hw) fun v s1 h1=>aW h1 fun u s2 h2=>aW h2 fun c s3 ⟨x,H1,I1,r1,q1⟩=>?_) h1;obtain⟨d,rfl,q⟩:=q1;cases r1;exact wpAny_truthy_bool ⟨H1,I1,q⟩
theorem D6{t:TE}(h:PE X e t)(he:∀whole,isTrue e X.env whole=(do let v <- whole;standAt e.pos;holding [v] (truthy v)):=by intro _;rfl):PT X e (tB t):=by intro pins s σ H Q I hw;refine isTrue_plain (aW (h pins s σ H _ I hw) fun v s1 ⟨x,H1,I1,r1,q1⟩=>?_) (he _);obtain⟨d,rfl,q⟩:=q1;cases r1;exact wpAny_truthy_bool ⟨H1,I1,q⟩
variable {tA tB':TT} {cX:List Expr}
def BP(t u:TT):TT:=fun σ H Q=>t σ H fun c H1=>if c=true then u σ H1 Q else Q false H1
def Ke(t u:TT):TT:=fun σ H Q=>t σ H fun c H1=>if c=true then Q true H1 else u σ H1 Q
def B4(t:TT):TT:=fun σ H Q=>t σ H fun c H1=>Q (!c) H1
theorem FV(ha:PT X a tA):PW X (.BoolOp .And [a] pos) tA:=by
 intro wh pins s σ H Q I h;refine isTrue_and (aW (ha pins s σ H Q I h) fun c s1 e=>?_);cases c with
 | true=>exact isTrue_and_nil e
 | false=>exact e
theorem D5(ha:PT X a tA):PW X (.BoolOp .Or [a] pos) tA:=by
 intro wh pins s σ H Q I h;refine isTrue_or (aW (ha pins s σ H Q I h) fun c s1 e=>?_);cases c with
 | false=>exact isTrue_or_nil e
 | true=>exact e
theorem D4(ha:PT X a tA)(hb:PW X (.BoolOp .And (b::cX) pos) tB'):PW X (.BoolOp .And (a::b::cX) pos) (BP tA tB'):=by
 intro wh pins s σ H Q I h;refine isTrue_and (aW (ha pins s σ H _ I h) fun c s1 ⟨H1,I1,q1⟩=>?_);cases c with
 | true=>exact hb wh pins s1 σ H1 Q I1 q1
 | false=>exact⟨H1,I1,q1⟩
theorem Dm(ha:PT X a tA)(hb:PW X (.BoolOp .Or (b::cX) pos) tB'):PW X (.BoolOp .Or (a::b::cX) pos) (Ke tA tB'):=by
 intro wh pins s σ H Q I h;refine isTrue_or (aW (ha pins s σ H _ I h) fun c s1 ⟨H1,I1,q1⟩=>?_);cases c with
 | true=>exact⟨H1,I1,q1⟩
 | false=>exact hb wh pins s1 σ H1 Q I1 q1
theorem D3(ha:PT X a tA):PT X (.UnaryOp .Not a pos) (B4 tA):=by intro pins s σ H Q I h;exact isTrue_not (ha pins s σ H (fun c H1=>Q (!c) H1) I h)
def Dl(ta tb:TE):TE:=fun σ H Q=>ta σ H fun x H1=>∃c,x=.bl c/\if c=true then tb σ H1 Q else Q (.bl false) H1
def B3(ta tb:TE):TE:=fun σ H Q=>ta σ H fun x H1=>∃c,x=.bl c/\if c=true then Q (.bl true) H1 else tb σ H1 Q
def Dk(ta:TE):TE:=fun σ H Q=>ta σ H fun x H1=>∃c,x=.bl c/\Q (.bl (!c)) H1
theorem EJ{op}{t:TE}(h:PE X a t):PE X (.BoolOp op [a] pos) t:=fun pins s σ H Q I hw=>BoolOp_one (h pins s σ H Q I hw)
theorem EI(ha:PE X a ta)(hb:PE X (.BoolOp .And (b::cX) pos) tb):PE X (.BoolOp .And (a::b::cX) pos) (Dl ta tb):=by
 intro pins s σ H Q I h;refine BoolOp_and (aW (ha pins s σ H _ I h) fun v s1 ⟨x,H1,I1,r1,q1⟩=>?_);obtain⟨c,rfl,q1⟩:=q1;cases r1;refine wpAny_truthy_bool ?_;cases c with
 | true=>exact hb pins s1 σ H1 Q I1 q1
 | false=>exact⟨.bl false,H1,I1,rfl,q1⟩
theorem Dj(ha:PE X a ta)(hb:PE X (.BoolOp .Or (b::cX) pos) tb):PE X (.BoolOp .Or (a::b::cX) pos) (B3 ta tb):=by
 intro pins s σ H Q I h;refine BoolOp_or (aW (ha pins s σ H _ I h) fun v s1 ⟨x,H1,I1,r1,q1⟩=>?_);obtain⟨c,rfl,q1⟩:=q1;cases r1;refine wpAny_truthy_bool ?_;cases c with
 | false=>exact hb pins s1 σ H1 Q I1 q1
 | true=>exact⟨.bl true,H1,I1,rfl,q1⟩
theorem EH(ha:PE X a ta):PE X (.UnaryOp .Not a pos) (Dk ta):=by intro pins s σ H Q I h;refine UnaryOp_ (aW (ha pins s σ H _ I h) fun v s1 ⟨x,H1,I1,r1,q1⟩=>?_);obtain⟨c,rfl,q1⟩:=q1;cases r1;exact not_of (wpAny_truthy_bool ⟨.bl (!c),H1,I1,rfl,q1⟩)
end
def cO(K:Frag)(H:Hp)(a:Addr)(xs:List V):Prop :=
 Rd H a (.lst xs) \/
  ∃(o:Obj) (its:Array Value) (n:Nat),K.lookup a=some o/\o.cls=.type "list" /\ o.dict=none/\o.data=.seq its n/\its.size<=sizeLine/\Vals xs its.toList
def dX(K:Frag)(H:Hp)(a:Addr)(xs:List V):Prop :=
 Rd H a (.tup xs) \/
  ∃(o:Obj) (its:Array Value) (n:Nat),K.lookup a=some o/\o.cls=.type "tuple" /\ o.data=.seq its n/\its.size<=sizeLine/\Vals xs its.toList
def B2:Value->Option V
 | .none=>some .non
 | .bool b=>some (.bl b)
 | .int i _=>some (.int i)
 | .str x _=>some (.str x)
 | .bytes b _=>some (.byt b)
 | .float b _=>some (.flt b)
 | .ref a=>some (.ref a)
 | .type n=>some (.ty n)
 | _=>none
theorem RelV.abs{x:V}(r:RelV x u):B2 u=some x:=by
 cases x with
 | non=>cases r;rfl
 | bl _=>cases r;rfl
 | int _=>obtain⟨t,rfl⟩:=r;rfl
 | str _=>obtain⟨t,rfl⟩:=r;rfl
 | byt _=>obtain⟨t,rfl⟩:=r;rfl
 | flt _=>obtain⟨t,rfl⟩:=r;rfl
 | ref _=>cases r;rfl
 | ty _=>cases r;rfl
theorem RelV.inj{x y:V}{u:Value}(r:RelV x u)(q:RelV y u):x=y:=Option.some.inj (r.abs.symm.trans q.abs)
theorem Vals.inj:∀{xs ys:List V} {us:List Value},Vals xs us->Vals ys us->xs=ys
 | _,_,_,.nil,.nil=>rfl
 | _,_,_,.cons r t,.cons r' t'=>by rw[r.inj r',Vals.inj t t']
variable {xs:List V}
section
variable {σ:St} {ys:List V}
theorem Inv.list(I:Inv X pins σ H s)(h:cO X.K H a xs):∃its:List Value,Vals xs its/\PlainL s.heap a its.toArray/\xs.length<=sizeLine:=by
 rcases h with h|⟨o,its,n,hk,hc,hd,hs,hz,r⟩
 ·obtain⟨z,its,n,r,e⟩:=h.ok I.hok;exact⟨its,r,⟨_,n,e,rfl,rfl,rfl⟩,z⟩
 ·refine⟨its.toList,r,⟨o,n,I.kIn a o hk,hc,hd,by simpa using hs⟩,?_⟩;have e:=r.length;simp only[length_toList] at e;omega
theorem Inv.tuple(I:Inv X pins σ H s)(h:dX X.K H a xs):∃its:List Value,Vals xs its/\IsTup s.heap a its.toArray/\xs.length<=sizeLine:=by
 rcases h with h|⟨o,its,n,hk,hc,hs,hz,r⟩
 ·obtain⟨z,its,r,p⟩:=h.ok I.hok;exact⟨its,r,p.isTup,z⟩
 ·refine⟨its.toList,r,⟨o,I.kIn a o hk,hc,n,by simpa using hs⟩,?_⟩;have e:=r.length;simp only[length_toList] at e;omega
theorem Inv.list_inj(I:Inv X pins σ H s)(h:cO X.K H a xs)(h':cO X.K H a ys):xs=ys:=by
 obtain⟨its,r,⟨o,n,e,_,_,d⟩,_⟩:=I.list h;obtain⟨its',r',⟨o',n',e',_,_,d'⟩,_⟩:=I.list h';rw[e] at e';cases e';rw[d] at d';injection d' with d1 _;have:its=its':=by simpa using congrArg Array.toList d1
 subst this;exact r.inj r'
theorem Inv.tuple_inj(I:Inv X pins σ H s)(h:dX X.K H a xs)(h':dX X.K H a ys):xs=ys:=by
 obtain⟨its,r,⟨o,e,_,n,d⟩,_⟩:=I.tuple h;obtain⟨its',r',⟨o',e',_,n',d'⟩,_⟩:=I.tuple h';rw[e] at e';cases e';rw[d] at d';injection d' with d1 _;have:its=its':=by simpa using congrArg Array.toList d1
 subst this;exact r.inj r'
end
abbrev Cx.wish(X:Cx)(E:Value->Shared->Prop):Cx:={ X with xe:=E }
abbrev Cx.nox(X:Cx):Cx:=X.wish fun _ _=>False
theorem Cx.Ok.wish(ok:X.Ok)(E:Value->Shared->Prop):(X.wish E).Ok :=
 ⟨ok.mod,ok.kind,ok.glob,ok.blt,ok.above,ok.inj,ok.has,ok.cab,ok.hd,ok.frames,ok.stk,ok.exf,ok.bs,ok.bsz,ok.noex,ok.exfs,ok.funs,ok.frf⟩
theorem Cx.Ok.unwish(ok:(X.wish E).Ok):X.Ok :=
 ⟨ok.mod,ok.kind,ok.glob,ok.blt,ok.above,ok.inj,ok.has,ok.cab,ok.hd,ok.frames,ok.stk,ok.exf,ok.bs,ok.bsz,ok.noex,ok.exfs,ok.funs,ok.frf⟩
section
variable {σ:St}
theorem Inv.wish(I:Inv X pins σ H s)(E:Value->Shared->Prop):Inv (X.wish E) pins σ H s:=⟨I.ok.wish E,I.os,I.bare,I.base,I.loc,I.cell,I.free,I.freeC,I.pin,I.hok,I.len⟩
theorem Inv.unwish(I:Inv (X.wish E) pins σ H s):Inv X pins σ H s:=⟨I.ok.unwish,I.os,I.bare,I.base,I.loc,I.cell,I.free,I.freeC,I.pin,I.hok,I.len⟩
end
variable {te:TE} {c:Expr} {tc:TT}
section
variable {st:Stmt} {cX:List Stmt} {t u:TS}
def Di:TS:=fun D σ H=>D.nx σ H
def B1(t u:TS):TS:=fun D σ H=>t { D with nx:=u D } σ H
theorem FT:PSs X [] Di:=fun _ _ σ H _ I h=>wpAny_execs_nil ⟨σ,H,I,h⟩
theorem Ha(h1:PS X st t)(h2:PSs X cX u):PSs X (st::cX) (B1 t u):=by
 intro pins s σ H D I h;refine wpAny_execs_cons (aW (h1 pins s σ H { D with nx:=u D } I h) fun f s1 q=>?_);cases f with
 | next =>
  obtain⟨σ',H',I',q⟩:=q;exact h2 pins s1 σ' H' D I' q
 | ret v=>exact q
 | brk=>exact q
 | cont=>exact q
theorem FR(h1:PS X st t):PSs X [st] t:=by
 intro pins s σ H D I h;refine wpAny_execs_cons (aW (h1 pins s σ H D I h) fun f s1 q=>?_);cases f with
 | next=>exact wpAny_execs_nil q
 | ret v=>exact q
 | brk=>exact q
 | cont=>exact q
def Dh:TS:=fun D σ H=>D.ct σ H
theorem Jg:PS X (.Continue pos) Dh:=fun _ _ σ H _ I h=>wpAny_Continue ⟨σ,H,I,h⟩
theorem Inv.quiet{σ:St}(I:Inv X pins σ H s):interactive X.env=false:=by simp[interactive,I.ok.kind]
def Dg(te:TE):TS:=fun D σ H=>te σ H fun _ H1=>D.nx σ H1
theorem FQ(he:PE X e te)(hs:swapsWith e none pos.line X.env=pure false:=by rfl):PS X (.Expr e pos) (Dg te):=by intro pins s σ H D I h;exact wpAny_Expr_any (aW (he pins s σ H _ I h) fun v s1 ⟨x,H1,I1,r1,q1⟩=>⟨σ,H1,I1,q1⟩) I.quiet hs
def B0(te:TE):TS:=fun D σ H=>te σ H D.rt
theorem EG(he:PE X e te):PS X (.Return (some e) pos) (B0 te):=by intro pins s σ H D I h;exact wpAny_Return_some (aW (he pins s σ H _ I h) fun v s1 ⟨x,H1,I1,r1,q1⟩=>⟨x,σ,H1,I1,r1,q1⟩)
def BZ(c:TT)(t u:TS):TS:=fun D σ H=>c σ H fun b H1=>if b=true then t D σ H1 else u D σ H1
theorem Df{a b:List Stmt}(hc:PT X c tc)(ha:PSs X a t)(hb:PSs X b u):PS X (.If c a b pos) (BZ tc t u):=by
 intro pins s σ H D I h;refine wpAny_If (aW (hc pins s σ H _ I h) fun d s1 ⟨H1,I1,q1⟩=>?_);cases d with
 | true=>exact ha pins s1 σ H1 D I1 q1
 | false=>exact hb pins s1 σ H1 D I1 q1
end
abbrev TG:=V->St->Hp->(St->Hp->Prop)->Prop
abbrev lh:=List V->St->Hp->(St->Hp->Prop)->Prop
def PG(X:Cx)(target:Expr)(t:TG):Prop :=
 ∀(pins:List (Addr×Obj)) (s:Shared) (σ:St) (H:Hp) (v:V) (u:Value) (Q:St->Hp->Prop),Inv X pins σ H s->RelV v u->t v σ H Q ->
  wpAny (model X.prog X.w) X.A (assign target X.env u) (fun _ s'=>∃σ' H',Inv X pins σ' H' s'/\Q σ' H') X.xe s
def PGs(X:Cx)(ts:List Expr)(t:lh):Prop :=
 ∀(pins:List (Addr×Obj)) (s:Shared) (σ:St) (H:Hp) (vs:List V) (us:List Value) (Q:St->Hp->Prop),Inv X pins σ H s->Vals vs us->t vs σ H Q ->
  wpAny (model X.prog X.w) X.A (assignInOrder ((assignEach ts X.env).map (·.2)) us) (fun _ s'=>∃σ' H',Inv X pins σ' H' s'/\Q σ' H') X.xe s
abbrev rh:=V->V->V->Hp->(Hp->Prop)->Prop
def vf(X:Cx)(t:rh):Prop :=
 ∀(pins:List (Addr×Obj)) (s:Shared) (σ:St) (H:Hp) (o i v:V) (ov iv u:Value) (Q:Hp->Prop),Inv X pins σ H s->RelV o ov->RelV i iv->RelV v u->t o i v H Q ->
  wpAny (model X.prog X.w) X.A (setItem ov iv u) (fun _ s'=>∃H',Inv X pins σ H' s'/\Q H') X.xe s
variable {k n:Nat} {es:List Expr} {tg:Expr} {pos':Pos}
def ig(i:Nat):TG:=fun v σ H Q=>Q (σ.set i (some v)) H
theorem sR{x:Str}(hN:X.N.Nodup)(hi:X.N[i]?=some x)(hx:Loc X.env.scope x)(hf:X.fn x=true\/X.env.scope.names.lookup x=some .local:=by first|exact .inl rfl|exact .inr rfl|assumption):PG X (.Name x pos) (ig i):=by intro pins s σ H v u Q I r h;exact wpAny_assign_Name (tS I hN hi hx r (fun s' I'=>⟨_,H,I',h⟩) hf)
def BY:lh:=fun vs σ H Q=>vs=[]/\Q σ H
def Cq(t:TG)(u:lh):lh:=fun vs σ H Q=>∃v r,vs=v::r/\t v σ H fun σ' H'=>u r σ' H' Q
theorem FP:PGs X [] BY:=by intro pins s σ H vs us Q I r h;obtain⟨e,h⟩:=h;subst e;cases r;exact assignInOrder_nil ⟨σ,H,I,h⟩
theorem G_{t:TG}{u:lh}(h1:PG X e t)(h2:PGs X es u)(hs:(assignEach (e::es) X.env).map (·.2)=assign e X.env::(assignEach es X.env).map (·.2):=by rfl):PGs X (e::es) (Cq t u):=by
 intro pins s σ H vs us Q I r h;obtain⟨v,vr,e1,h⟩:=h;subst e1;cases r with
 | cons r rr =>
  rw[hs];refine assignInOrder_cons (aW (h1 pins s σ H _ _ _ I r h) fun _ s1 ⟨σ1,H1,I1,q1⟩=>?_);exact h2 pins s1 σ1 H1 _ _ Q I1 rr q1
def BX(K:Frag)(n:Nat)(t:lh):TG:=fun v σ H Q=>∃a xs,v=.ref a/\dX K H a xs/\xs.length=n/\t xs σ H Q
theorem EF{t:lh}(hc:X.calm=true)(h:PGs X es t)(hn:(assignEach es X.env).length=n:=by rfl)(hst:(assignEach es X.env).findIdx? (·.1)=none:=by rfl):PG X (.Tuple es k pos) (BX X.K n t):=by intro pins s σ H v u Q I r hw;obtain⟨a,xs,e1,hq,hl,hw⟩:=hw;subst e1;cases r;obtain⟨its,rv,ht,hz⟩:=I.tuple hq;refine assign_Tuple_tuple (I.ok.hd hc) ht (by simp[hn,<- hl,rv.length]) hst fun h' hx=>?_;have I1:Inv X pins σ H { s with heap:=h' }:=I.kept (t':=s.toks) fun b o e=>hx b o (ne_of_lt (Heap.lt_size e)) e;exact h pins _ σ H xs _ Q I1 (by simpa using rv) hw
def BW(to ti:TE)(t:rh):TG:=fun v σ H Q=>to σ H fun o H1=>ti σ H1 fun i H2=>t o i v H2 fun H3=>Q σ H3
theorem EE{o i:Expr}{to ti:TE}{t:rh}(ho:PE X o to)(hi:PE X i ti)(hs:vf X t)(ha:∀v,assign (.Subscript o i pos) X.env v=(do
   let ov <- holding [v] (eval o X.env)
   let iv <- holding [v,ov] (eval i X.env)
   standAt pos
   holding [v,ov,iv] (setItem ov iv v)
   release [v,ov,iv] []):=by intro _;rfl):PG X (.Subscript o i pos) (BW to ti t):=by
 intro pins s σ H v u Q I r h;rw[ha];refine wpAny_bind (wpAny_holding (aW (ho pins s σ H _ I h) fun ov s1 ⟨x,H1,I1,r1,q1⟩=>?_));refine wpAny_bind (wpAny_holding (aW (hi pins s1 σ H1 _ I1 q1) fun iv s2 ⟨y,H2,I2,r2,q2⟩=>?_));refine wpAny_bind (wpAny_standAt (wpAny_bind (wpAny_holding (aW (hs pins s2 σ H2 x y v ov iv u _ I2 r1 r2 r q2) fun _ s3 ⟨H3,I3,q3⟩=>?_))));exact wpAny_release ⟨σ,H3,I3,q3⟩
def rg(te:TE)(g:TG):TS:=fun D σ H=>te σ H fun x H1=>g x σ H1 D.nx
theorem ED{g:TG}(he:PE X e te)(hg:PG X tg g)(hs:swapsWithSole [tg] e pos.line X.env=pure false:=by rfl)(hw:swappedStores [tg] e X.env=pure none:=by rfl)(h1:(assignEach [tg] X.env).map (·.2)=[assign tg X.env]:=by rfl):PS X (.Assign [tg] e pos) (rg te g):=by intro pins s σ H D I h;refine wpAny_Assign_stores (aW (he pins s σ H _ I h) fun v s1 ⟨x,H1,I1,r1,q1⟩=>?_) hs hw;rw[h1];exact aW (hg pins s1 σ H1 x v _ I1 r1 q1) fun _ s2 q=>q
theorem EC{x:Str}(hN:X.N.Nodup)(hi:X.N[i]?=some x)(hx:Loc X.env.scope x)(he:PE X e te)(hs:swapsWith e (some (.Name x pos')) pos.line X.env=pure false:=by rfl)(hf:X.fn x=true\/X.env.scope.names.lookup x=some .local:=by first|exact .inl rfl|exact .inr rfl|assumption) :
  PS X (.Assign [.Name x pos'] e pos) (rg te (ig i)):=by
 intro pins s σ H D I h;refine wpAny_Assign_Name (aW (he pins s σ H _ I h) fun v s1 ⟨y,H1,I1,r1,q1⟩=>?_) hs;exact tS I1 hN hi hx r1 (fun s2 I2=>⟨_,H1,I2,q1⟩) hf
variable {body:List Stmt}
def EB(c:TT)(tb:TS):TS:=fun D σ H=>∃W:Nat->St->Hp->Prop,(∃m,W m σ H)/\∀m σ H,W m σ H ->
 c σ H fun b H1=>if b=true then ∃N:St->Hp->Prop,(∀σ' H',N σ' H'->∃m',m'<m/\W m' σ' H')/\tb { D with nx:=N,ct:=N,bk:=D.nx } σ H1 else D.nx σ H1
theorem G9{tb:TS}(hp:PassesOwn (model X.prog X.w) X.A X.env X.xe)(hc:PT X c tc)(hb:PSs X body tb):PS X (.While c body [] pos) (EB tc tb):=by
 intro pins s σ H D I h;obtain⟨W,⟨m0,w0⟩,turn⟩:=h;refine wpAny_While (codeAny_whileLoop (fun n s'=>∃σ' H',Inv X pins σ' H' s'/\W n σ' H') ?_ m0 ⟨σ,H,I,w0⟩);rintro n s1 ⟨σ1,H1,I1,w1⟩;refine wpAny_passesOwn hp (aW (hc pins s1 σ1 H1 _ I1 (turn n σ1 H1 w1)) fun b s2 ⟨H2,I2,q2⟩=>?_);cases b with
 | true =>
  obtain⟨N,hN,q2⟩:=q2;rw[if_pos rfl];refine wpAny_passesOwn hp (aW (hb pins s2 σ1 H2 _ I2 q2) fun f s3 q3=>?_);cases f with
  | next =>
   obtain⟨σ3,H3,I3,n3⟩:=q3;obtain⟨m',hm,w3⟩:=hN σ3 H3 n3;exact⟨m',hm,σ3,H3,I3,w3⟩
  | cont =>
   obtain⟨σ3,H3,I3,n3⟩:=q3;obtain⟨m',hm,w3⟩:=hN σ3 H3 n3;exact⟨m',hm,σ3,H3,I3,w3⟩
  | brk=>exact q3
  | ret v=>exact q3
 | false =>
  rw[if_neg Bool.false_ne_true];exact wpAny_execs_nil ⟨σ1,H2,I2,q2⟩
structure It where
 go:Nat->Hp->Prop
 yld:Nat->Hp->V->Hp->Prop
 stop:Nat->Hp->Prop
def kE(X:Cx)(pins:List (Addr×Obj))(H:Hp)(b:Addr):Prop :=
 H b=none/\b≠X.env.locals/\b∉X.fs/\(b∈X.ex\/X.s₀.heap.objs.size<=b)/\(∀x c,X.env.cells.lookup x=some c->c≠b)/\∀p∈X.pn++pins,p.1≠b
theorem Inv.fpOk{σ:St}(I:Inv X pins σ H s)(hb:s.heap.objs.size<=b)(hn:H' b=none):kE X pins H' b:=by
 refine⟨hn,ne_of_gt (lt_of_lt_of_le I.lt hb),I.nofs hb,.inr (le_trans I.sz hb),fun x c e z=>?_,fun p hp z=>?_⟩
 ·obtain⟨v,q⟩:=I.cell x c e;exact absurd (lt_of_lt_of_le q.lt (by rw[z];exact hb)) (lt_irrefl _)
 ·exact absurd (lt_of_lt_of_le (Heap.lt_size (I.pin p hp).1) (by rw[z];exact hb)) (lt_irrefl _)
structure Turn (P:Program) (w:World) (K:Frag) (tg:Expr) (J:It) (fp:List Addr) (it:Addr) (tn:Nat->Heap->Prop):Prop where
 mem:it∈fp
 obj:∀i h,tn i h->∀b∈fp,∃o,h.get? b=some o/\∀v,o.data≠.cell v
 keep:∀i h h',tn i h->(∀b∈fp,∀o,h.get? b=some o->h'.get? b=some o)->tn i h'
 item:∀(X:Cx),X.prog=P->X.w=w->X.K=K->X.calm=true->∀(i:Nat) (pins:List (Addr×Obj)) (s:Shared) (σ:St) (H:Hp) (E:Value->Shared->Prop),Inv X pins σ H s->(∀b∈fp,kE X pins H b)->tn i s.heap->J.go i H ->
  wpAny (model P w) X.A (pyNext (.ref it)) (fun r s1=>∃u,r=some u /\
   wpAny (model P w) X.A (letOwnedTupleGo tg (.ref it) u) (fun _ s2=>∃x H',Inv X pins σ H' s2/\RelV x u/\J.yld i H x H'/\tn (i+1) s2.heap/\∀b∈fp,H' b=none) E s1) E s
 done:∀(X:Cx),X.prog=P->X.w=w->X.K=K->X.calm=true->∀(i:Nat) (pins:List (Addr×Obj)) (s:Shared) (σ:St) (H:Hp) (E:Value->Shared->Prop),Inv X pins σ H s->(∀b∈fp,kE X pins H b)->tn i s.heap->J.stop i H ->
  wpAny (model P w) X.A (pyNext (.ref it)) (fun r s1=>r=none/\Inv X pins σ H s1) E s
 self:∀(A:Around) (i:Nat) (s:Shared) (Q:Value->Shared->Prop) (E:Value->Shared->Prop),tn i s.heap->Q (.ref it) s->wpAny (model P w) A (pyIter (.ref it)) Q E s
abbrev TI:=St->Hp->(It->Hp->Prop)->Prop
def Bu(X:Cx)(pins:List (Addr×Obj))(σ:St)(tg:Expr)(R:It->Hp->Prop)(itv:Value)(s2:Shared):Prop :=
 ∃(it:Addr) (fp:List Addr) (tn:Nat->Heap->Prop) (J:It) (H':Hp),itv=.ref it/\Inv X pins σ H' s2/\Turn X.prog X.w X.K tg J fp it tn/\tn 0 s2.heap/\(∀b∈fp,kE X pins H' b)/\R J H'
def PI(X:Cx)(tg iter:Expr)(wi:TI):Prop :=
 ∀(pins:List (Addr×Obj)) (s:Shared) (σ:St) (H:Hp) (R:It->Hp->Prop),Inv X pins σ H s->wi σ H R ->
  wpAny (model X.prog X.w) X.A (eval iter X.env) (fun v s1=>wpAny (model X.prog X.w) X.A (pyIter v) (Bu X pins σ tg R) X.xe s1) X.xe s
theorem r6{M:Model}{o:Obj}{n:String}{vs:Array Value}{Q:Unit->Shared->Prop}(ho:s.heap.get? it=some o)(hc:o.cls=.type n)(hd:o.data=.fields vs)(hn:["enumerate", "zip", "dict_itemiterator", "dict_reverseitemiterator", "odict_iterator", "itertools.zip_longest", "itertools.pairwise"].contains n=false)(hQ:Q () s):wpAny M A (letOwnedTupleGo tg (.ref it) u) Q E s:=by
 unfold letOwnedTupleGo;cases tg<;>first
  | exact wpAny_pure hQ
  | (cases u<;>first
    | exact wpAny_pure hQ
    | (refine wpAny_bind (wpAny_load ho ?_)
       rw[hc,hd];show wpAny M A (if (["enumerate", "zip", "dict_itemiterator", "dict_reverseitemiterator", "odict_iterator", "itertools.zip_longest", "itertools.pairwise"].contains n&&vs[0]?==some (rawInt _))=true then _ else _) Q E s;rw[if_neg (by intro h;rw[hn,Bool.false_and] at h;cases h)];exact wpAny_pure hQ))
def ml(K:Frag)(a:Addr):It :=
 ⟨fun i H=>∃xs x,cO K H a xs/\xs[i]?=some x,fun i H x H'=>H'=H/\∀xs,cO K H a xs->xs[i]?=some x,fun i H=>∃xs,cO K H a xs/\xs.length<=i⟩
def u3(K:Frag)(a:Addr):It :=
 ⟨fun i H=>∃xs x,dX K H a xs/\xs[i]?=some x,fun i H x H'=>H'=H/\∀xs,dX K H a xs->xs[i]?=some x,fun i H=>∃xs,dX K H a xs/\xs.length<=i⟩
def qX(lo:Int)(n:Nat):It:=⟨fun i _=>i<n,fun i H x H'=>H'=H/\x=.int (lo+i),fun i _=>n<=i⟩
variable {K:Frag}
theorem I9(a it:Addr):Turn P w K tg (ml K a) [it] it (fun i h=>h.IsListIter it a i) where
 mem:=by simp
 obj:=fun i h st b hb=>by
  have e:b=it:=by simpa using hb
  subst e;obtain⟨o,e,c,d⟩:=st;exact⟨o,e,fun v z=>by rw[d] at z;cases z⟩
 keep:=fun i h h' st k=>st.at fun o e=>k it (by simp) o e
 item:=by intro X hP hw hK hc i pins s σ H E I hf st hg;subst hP hw hK;obtain⟨xs,x,hq,hx⟩:=hg;obtain⟨its,rv,p,hz⟩:=I.list hq;obtain⟨u,hu,ru⟩:=rv.get hx;obtain⟨f0,f1,f2,f3,f4,f5⟩:=hf it (by simp);refine wpAny_pyNext_list_item st p.isList (x:=u) (by simpa using hu) fun h' st' sb=>?_;have I1:Inv X pins σ H { s with heap:=h' }:=I.turned (t':=s.toks) (fun b o hb e=>(sb.2 b hb).trans e) f0 f1 f3 f4 f5;obtain⟨o,e,c,d⟩:=id st';exact⟨u,rfl,r6 (s:={ s with heap:=h' }) e c d (by decide) ⟨x,H,I1,ru,⟨rfl,fun ys hy=>by rw[I.list_inj hy hq];exact hx⟩,st',fun b hb=>(hf b hb).1⟩⟩
 done:=by
  intro X hP hw hK hc i pins s σ H E I hf st hg;subst hP hw hK;obtain⟨xs,hq,hx⟩:=hg;obtain⟨its,rv,p,hz⟩:=I.list hq;obtain⟨f0,f1,f2,f3,f4,f5⟩:=hf it (by simp);have hl:=rv.length;exact wpAny_pyNext_list_end (I.ok.hd hc) st p.isList (by simp;omega) fun h' eb=>⟨rfl,I.turned (t':=s.toks) (fun b o hb e=>eb b o hb e) f0 f1 f3 f4 f5⟩
 self:=fun _ _ _ _ _ st h=>wpAny_pyIter_listiter st h
theorem IH(a it:Addr):Turn P w K tg (u3 K a) [it] it (fun i h=>h.IsTupleIter it a i) where
 mem:=by simp
 obj:=fun i h st b hb=>by
  have e:b=it:=by simpa using hb
  subst e;obtain⟨o,e,c,d⟩:=st;exact⟨o,e,fun v z=>by rw[d] at z;cases z⟩
 keep:=fun i h h' st k=>st.at fun o e=>k it (by simp) o e
 item:=by intro X hP hw hK hc i pins s σ H E I hf st hg;subst hP hw hK;obtain⟨xs,x,hq,hx⟩:=hg;obtain⟨its,rv,p,hz⟩:=I.tuple hq;obtain⟨u,hu,ru⟩:=rv.get hx;obtain⟨f0,f1,f2,f3,f4,f5⟩:=hf it (by simp);refine wpAny_pyNext_tuple_item st (show s.heap.IsTuple a its.toArray from p) (x:=u) (by simpa using hu) fun h' st' sb=>?_;have I1:Inv X pins σ H { s with heap:=h' }:=I.turned (t':=s.toks) (fun b o hb e=>(sb.2 b hb).trans e) f0 f1 f3 f4 f5;obtain⟨o,e,c,d⟩:=id st';exact⟨u,rfl,r6 (s:={ s with heap:=h' }) e c d (by decide) ⟨x,H,I1,ru,⟨rfl,fun ys hy=>by rw[I.tuple_inj hy hq];exact hx⟩,st',fun b hb=>(hf b hb).1⟩⟩
 done:=by
  intro X hP hw hK hc i pins s σ H E I hf st hg;subst hP hw hK;obtain⟨xs,hq,hx⟩:=hg;obtain⟨its,rv,p,hz⟩:=I.tuple hq;obtain⟨f0,f1,f2,f3,f4,f5⟩:=hf it (by simp);have hl:=rv.length;exact wpAny_pyNext_tuple_end (I.ok.hd hc) st (show s.heap.IsTuple a its.toArray from p) (by simp;omega) fun h' eb=>⟨rfl,I.turned (t':=s.toks) (fun b o hb e=>eb b o hb e) f0 f1 f3 f4 f5⟩
 self:=fun _ _ _ _ _ st h=>wpAny_pyIter_tupleiter st h
theorem IG(it:Addr)(lo:Int)(n:Nat):Turn P w K tg (qX lo n) [it] it (fun i h=>IsRangeIter h it (lo+(i:Nat)*1) ((n:Int)-(i:Nat)) 1) where
 mem:=by simp
 obj:=fun i h st b hb=>by
  have e:b=it:=by simpa using hb
  subst e;exact⟨_,st,fun v z=>by
   have z':Data.fields _=Data.cell v:=z;cases z'⟩
 keep:=fun i h h' st k=>k it (by simp) _ st
 item:=by intro X hP hw hK hc i pins s σ H E I hf st hg;subst hP hw hK;obtain⟨f0,f1,f2,f3,f4,f5⟩:=hf it (by simp);have W:=Walks.range (prog:=X.prog) (w:=X.w) (I.ok.hd hc) it lo 1 n;refine W.item i s _ _ hg st fun v h' tk hv st' kk=>?_;obtain⟨t,rfl⟩:=hv;have I1:Inv X pins σ H { s with heap:=h',toks:=tk }:=I.turned (fun b o hb e=>kk b o (by simpa using hb) e) f0 f1 f3 f4 f5;refine⟨_,rfl,r6 (s:={ s with heap:=h',toks:=tk }) (n := "range_iterator") st' rfl rfl (by decide) ⟨.int (lo+i),H,I1,⟨t,?_⟩,⟨rfl,rfl⟩,st',fun b hb=>(hf b hb).1⟩⟩;rw[mul_one]
 done:=by
  intro X hP hw hK hc i pins s σ H E I hf st hg;subst hP hw hK;obtain⟨f0,f1,f2,f3,f4,f5⟩:=hf it (by simp);exact wpAny_pyNext_range_end (I.ok.hd hc) st (by have:n<=i:=hg;omega) fun h' eb=>⟨rfl,I.turned (t':=s.toks) (fun b o hb e=>eb b o hb e) f0 f1 f3 f4 f5⟩
 self:=fun _ _ _ _ _ st h=>wpAny_pyIter_rangeiter st h
variable {l:Expr} {tl:TE} {p:Pos} {fp:List Addr}
def Cp(K:Frag)(tl:TE):TI:=fun σ H R=>tl σ H fun x H1=>∃a,x=.ref a/\(∃xs,cO K H1 a xs)/\R (ml K a) H1
def BV(K:Frag)(tl:TE):TI:=fun σ H R=>tl σ H fun x H1=>∃a,x=.ref a/\(∃xs,dX K H1 a xs)/\R (u3 K a) H1
theorem FO(hl:PE X l tl):PI X tg l (Cp X.K tl):=by
 intro pins s σ H R I h;refine aW (hl pins s σ H _ I h) fun v s1 ⟨x,H1,I1,r1,q1⟩=>?_;obtain⟨a,e,⟨xs,hq⟩,q⟩:=q1;subst e;cases r1;obtain⟨its,rv,p,hz⟩:=I1.list hq;refine wpAny_pyIter_list p.isList ?_;refine⟨s1.heap.objs.size,[s1.heap.objs.size],_,_,H1,rfl,I1.kept (t':=s1.toks) fun b o e=>Heap.get?_push_of_some _ e,I9 a _,⟨_,Heap.get?_push_size _ rfl,rfl,rfl⟩,fun b hb=>?_,q⟩;have e:b=s1.heap.objs.size:=by simpa using hb
 subst e;exact I1.fpOk (le_refl _) (I1.hok.fresh (le_refl _))
theorem EA(hl:PE X l tl):PI X tg l (BV X.K tl):=by
 intro pins s σ H R I h;refine aW (hl pins s σ H _ I h) fun v s1 ⟨x,H1,I1,r1,q1⟩=>?_;obtain⟨a,e,⟨xs,hq⟩,q⟩:=q1;subst e;cases r1;obtain⟨its,rv,p,hz⟩:=I1.tuple hq;refine wpAny_pyIter_tuple (show s1.heap.IsTuple a its.toArray from p) ?_;refine⟨s1.heap.objs.size,[s1.heap.objs.size],_,_,H1,rfl,I1.kept (t':=s1.toks) fun b o e=>Heap.get?_push_of_some _ e,IH a _,⟨_,Heap.get?_push_size _ rfl,rfl,rfl⟩,fun b hb=>?_,q⟩;have e:b=s1.heap.objs.size:=by simpa using hb
 subst e;exact I1.fpOk (le_refl _) (I1.hok.fresh (le_refl _))
theorem G8{σ:St}{R:It->Hp->Prop}{lo hi:Int}{t u v:Tok}{tk:Nat}(I:Inv X pins σ H s)(h1:-(2 ^ 62)<=lo)(h2:lo<2 ^ 62)(h3:-(2 ^ 62)<=hi)(h4:hi<2 ^ 62)(q:R (qX lo (hi-lo).toNat) H):wpAny (model X.prog X.w) X.A (pyIter (.ref s.heap.objs.size)) (Bu X pins σ tg R) E { s with heap:=s.heap.push { cls:=.type "range",data:=.fields #[.int lo t,.int hi u,.int 1 v] },toks:=tk }:=by
 refine wpAny_pyIter_range (IsRange.new ..) (small_one h1 h2 h3 h4) ?_;have I1:Inv X pins σ H { s with heap:=s.heap.push { cls:=.type "range",data:=.fields #[.int lo t,.int hi u,.int 1 v] },toks:=tk }:=I.kept fun b o e=>Heap.get?_push_of_some _ e;refine⟨(s.heap.push { cls:=.type "range",data:=.fields #[.int lo t,.int hi u,.int 1 v] }).objs.size,[(s.heap.push { cls:=.type "range",data:=.fields #[.int lo t,.int hi u,.int 1 v] }).objs.size],_,_,H,rfl,
  I1.kept (t':=tk) fun b o e=>Heap.get?_push_of_some _ e,IG _ lo (hi-lo).toNat,?_,fun b hb=>?_,q⟩
 ·have e1:lo+((0:Nat):Int)*1=lo:=by simp
  have e2:(((hi-lo).toNat:Nat):Int)-((0:Nat):Int)=Builtin.Range.rangeSize lo hi 1:=by rw[rangeSize_one];split<;>omega
  show IsRangeIter _ _ (lo+((0:Nat):Int)*1) ((((hi-lo).toNat:Nat):Int)-((0:Nat):Int)) 1;rw[e1,e2];exact Heap.get?_push_size _ rfl
 ·have e:b=(s.heap.push { cls:=.type "range",data:=.fields #[.int lo t,.int hi u,.int 1 v] }).objs.size:=by simpa using hb
  subst e;exact I1.fpOk (le_refl _) (I1.hok.fresh (le_refl _))
def Co(ta:TA):TI:=fun σ H R=>ta σ H fun vs H1=>∃j:Int,vs=[.int j]/\-(2 ^ 62)<=j/\j<2 ^ 62/\R (qX 0 j.toNat) H1
theorem I0{a:Expr}{ta:TA}(hg:Gl X "range")(hm:X.mg "range" = none)(ha:PA X [a] ta)(hs:starEach [a] X.env=[(false,eval a X.env)]:=by rfl):PI X tg (.Call (.Name "range" p) [a] [] pos) (Co ta):=by
 intro pins s σ H R I h;refine Call_ (og I hg hm boot_range (PyProof.Rows.callWith_type1 (aW (ha pos pins s σ H _ I h) fun us s1 ⟨vs,H1,I1,r1,q1⟩=>?_) hs rfl));obtain⟨j,e,q1,q2,q⟩:=q1;subst e;cases r1 with
 | cons r rr =>
  cases rr;obtain⟨t,rfl⟩:=r;exact call_range_1 (G8 I1 (by omega) (by omega) q1 q2 (by simpa using q))
def BL(wi:TI)(g:TG)(tb:TS):TS:=fun D σ H=>wi σ H fun J H1=>∃W:Nat->Nat->St->Hp->Prop,(∃m,W 0 m σ H1)/\∀i m σ H,W i m σ H ->
 (J.stop i H/\D.nx σ H)\/(J.go i H/\∃N:St->Hp->Prop,(∀σ' H',N σ' H'->∃m',m'<m/\W (i+1) m' σ' H')/\∀x H',J.yld i H x H'->g x σ H' fun σ2 H2=>tb { D with nx:=N,ct:=N,bk:=D.nx } σ2 H2)
def m6(fp:List Addr)(h:Heap):List (Addr×Obj):=fp.filterMap fun b=>(h.get? b).map fun o=>(b,o)
theorem qF{o:Obj}(hb:b∈fp)(e:h.get? b=some o):(b,o)∈m6 fp h:=mem_filterMap.mpr ⟨b,hb,by rw[e];rfl⟩
theorem IZ{p:Addr×Obj}(hp:p∈m6 fp h):p.1∈fp/\h.get? p.1=some p.2:=by
 obtain⟨b,hb,e⟩:=mem_filterMap.mp hp;cases q:h.get? b with
 | none=>rw[q] at e;cases e
 | some o =>
  rw[q] at e;have e':(b,o)=p:=Option.some.inj e;subst e';exact⟨hb,q⟩
theorem Inv.pinned{σ:St}(I:Inv X pins σ H s)(hf:∀b∈fp,kE X pins H b)(ho:∀b∈fp,∃o,s.heap.get? b=some o/\∀v,o.data≠.cell v):Inv X (pins++m6 fp s.heap) σ H s :=
 I.pins_of fun p hp=>(mem_append.mp hp).elim (fun z=>I.pin p (mem_append_right _ z)) fun z=>by
  obtain⟨hb,e⟩:=IZ z;obtain⟨f0,f1,f2,_⟩:=hf p.1 hb;obtain⟨o,e',d⟩:=ho p.1 hb;rw[e] at e';cases e';exact⟨e,f0,f1,f2,d⟩
theorem Inv.unpinned{pl:List (Addr×Obj)}{σ:St}(I:Inv X (pins++pl) σ H s):Inv X pins σ H s:=I.pins_of fun p hp=>I.pin p (mem_append_right _ (mem_append_left _ hp))
theorem Ez{iter:Expr}{wi:TI}{g:TG}{tb:TS}(hp:PassesOwn (model X.prog X.w) X.A X.env X.xe)(hc:X.calm=true)(hi:PI X tg iter wi)(hg:PG X tg g)(hb:PSs X body tb)(hs:∀x,foldedSetIterable iter X.env x=pure x:=by intro _;rfl):PS X (.For tg iter body [] pos) (BL wi g tb):=by
 intro pins s σ H D I h;refine wpAny_For (aW (hi pins s σ H _ I h) fun v s1 h1=>aW h1 fun itv s2 h2=>?_) hs;obtain⟨it,fp,tn,J,H2,e,I2,T,st2,f2,W,⟨m0,w0⟩,turn⟩:=h2;subst e;have stat:∀{H':Hp},(∀b∈fp,H' b=none)->∀b∈fp,kE X pins H' b:=fun hn b hb=>⟨hn b hb,(f2 b hb).2⟩
 refine codeAny_forLoop_any (fun n s'=>∃i σ' H',Inv X pins σ' H' s'/\tn i s'.heap/\(∀b∈fp,H' b=none)/\W i n σ' H') ?_ m0 ⟨0,σ,H2,I2,st2,fun b hb=>(f2 b hb).1,w0⟩;rintro n s3 ⟨i,σ3,H3,I3,st3,fr3,w3⟩;rcases turn i n σ3 H3 w3 with ⟨stop,qn⟩|⟨go,N,hN,step⟩
 ·refine wpAny_passesOwn hp (aW (T.done X rfl rfl rfl hc i pins s3 σ3 H3 X.xe I3 (stat fr3) st3 stop) fun r s4 ⟨hr,I4⟩=>?_);subst hr;exact wpAny_execs_nil ⟨σ3,H3,I4,qn⟩
 ·refine wpAny_passesOwn hp (aW (T.item X rfl rfl rfl hc i pins s3 σ3 H3 X.xe I3 (stat fr3) st3 go) fun r s4 ⟨u,hr,h4⟩=>?_);subst hr;refine wpAny_passesOwn hp (aW h4 fun _ s5 ⟨x,H5,I5,r5,y5,st5,fr5⟩=>?_);have I5':=I5.pinned (stat fr5) (T.obj _ _ st5);refine wpAny_passesOwn hp (aW (hg _ s5 σ3 H5 x u _ I5' r5 (step x H5 y5)) fun _ s6 ⟨σ6,H6,I6,q6⟩=>?_);refine wpAny_passesOwn hp (aW (hb _ s6 σ6 H6 _ I6 q6) fun f s7 q7=>?_);have again:∀{σ7:St} {H7:Hp},Inv X (pins++m6 fp s5.heap) σ7 H7 s7->N σ7 H7->∃m,m<n/\∃i σ' H',Inv X pins σ' H' s7/\tn i s7.heap/\(∀b∈fp,H' b=none)/\W i m σ' H':=fun {σ7 H7} I7 n7=>by
   obtain⟨m',hm,w7⟩:=hN σ7 H7 n7;refine⟨m',hm,i+1,σ7,H7,I7.unpinned,T.keep _ _ _ st5 fun b hb o e=>(I7.pin (b,o) (mem_append_right _ (mem_append_right _ (qF hb e)))).1,fun b hb=>?_,w7⟩;obtain⟨o,e,d⟩:=T.obj _ _ st5 b hb;exact(I7.pin (b,o) (mem_append_right _ (mem_append_right _ (qF hb e)))).2.1
  cases f with
  | next=>obtain⟨σ7,H7,I7,n7⟩:=q7;exact again I7 n7
  | cont=>obtain⟨σ7,H7,I7,n7⟩:=q7;exact again I7 n7
  | brk=>obtain⟨σ7,H7,I7,q7⟩:=q7;exact⟨σ7,H7,I7.unpinned,q7⟩
  | ret v=>obtain⟨x7,σ7,H7,I7,r7,q7⟩:=q7;exact⟨x7,σ7,H7,I7.unpinned,r7,q7⟩
abbrev R2:=V->V->Hp->VK->Prop
def dN(X:Cx)(f:Value->Value->Sem Value)(r:R2):Prop :=
 ∀(pins:List (Addr×Obj)) (s:Shared) (σ:St) (H:Hp) (x y:V) (v u:Value) (Q:VK),Inv X pins σ H s->RelV x v->RelV y u->r x y H Q ->
  wpAny (model X.prog X.w) X.A (f v u) (EP X pins σ Q) X.xe s
def u0(X:Cx)(f:Value->Sem Value)(r:V->Hp->VK->Prop):Prop :=
 ∀(pins:List (Addr×Obj)) (s:Shared) (σ:St) (H:Hp) (x:V) (v:Value) (Q:VK),Inv X pins σ H s->RelV x v->r x H Q ->
  wpAny (model X.prog X.w) X.A (f v) (EP X pins σ Q) X.xe s
def aT(X:Cx)(f:Value)(r:List V->Hp->VK->Prop):Prop :=
 ∀(pins:List (Addr×Obj)) (s:Shared) (σ:St) (H:Hp) (xs:List V) (us:List Value) (Q:VK),Inv X pins σ H s->Vals xs us->r xs H Q ->
  wpAny (model X.prog X.w) X.A (call f us) (EP X pins σ Q) X.xe s
def BK(X:Cx)(r:V->Hp->(Bool->Hp->Prop)->Prop):Prop :=
 ∀(pins:List (Addr×Obj)) (s:Shared) (σ:St) (H:Hp) (x:V) (v:Value) (Q:Bool->Hp->Prop),Inv X pins σ H s->RelV x v->r x H Q ->
  wpAny (model X.prog X.w) X.A (truthy v) (TP X pins σ Q) X.xe s
def l_(r:R2)(ta tb:TE):TE:=fun σ H Q=>ta σ H fun x H1=>tb σ H1 fun y H2=>r x y H2 Q
def Kc(r:V->Hp->VK->Prop)(ta:TE):TE:=fun σ H Q=>ta σ H fun x H1=>r x H1 Q
def rI(C:Int->Int->Prop)(g:Int->Int->V):R2:=fun x y H Q=>∃i j,x=.int i/\y=.int j/\C i j/\Q (g i j) H
def kq(g:Int->Int->V):R2:=fun x y H Q=>∃i j,x=.int i/\y=.int j/\Q (g i j) H
def rU(g:Int->V):V->Hp->VK->Prop:=fun x H Q=>∃i,x=.int i/\Q (g i) H
variable {f:Value->Value->Sem Value}
section
variable {a b:Expr} {tc:TE}
theorem rf(ha:PE X a ta)(hb:PE X b tb){σ:St}{R:V->V->Hp->Prop}(I:Inv X pins σ H s)(h:ta σ H fun x H1=>tb σ H1 fun y H2=>R x y H2)(hf:∀v u s2 x y H2,Inv X pins σ H2 s2->RelV x v->RelV y u->R x y H2->wpAny (model X.prog X.w) X.A (f v u) Q X.xe s2) :
  wpAny (model X.prog X.w) X.A (eval a X.env) (fun v s₁=>wpAny (model X.prog X.w) X.A (eval b X.env) (fun u s₂=>wpAny (model X.prog X.w) X.A (f v u) Q X.xe s₂) X.xe s₁) X.xe s:=by
 refine aW (ha pins s σ H _ I h) fun v s1 ⟨x,H1,I1,r1,q1⟩=>?_;refine aW (hb pins s1 σ H1 _ I1 q1) fun u s2 ⟨y,H2,I2,r2,q2⟩=>?_;exact hf v u s2 x y H2 I2 r1 r2 q2
theorem pw{op:Operator}{r:R2}(ho:dN X (binaryOp op) r)(ha:PE X a ta)(hb:PE X b tb):PE X (.BinOp a op b pos) (l_ r ta tb):=by intro pins s σ H Q I h;exact wpAny_BinOp (rf ha hb I h fun v u s2 x y H2 I2 rx ry q=>ho pins s2 σ H2 x y v u Q I2 rx ry q)
theorem Cn{op:UnaryOp}{r:V->Hp->VK->Prop}(ho:u0 X (unaryOp op) r)(ha:PE X a ta):PE X (.UnaryOp op a pos) (Kc r ta):=by intro pins s σ H Q I h;exact UnaryOp_ (aW (ha pins s σ H _ I h) fun v s1 ⟨x,H1,I1,r1,q1⟩=>ho pins s1 σ H1 x v Q I1 r1 q1)
theorem uV{C:Int->Int->Prop}{g:Int->Int->Int}(rule:∀(i j:Int) (t u:Tok) (s:Shared) (Q:Value->Shared->Prop) (E:Value->Shared->Prop),C i j->Q (.int (g i j) s.toks) { s with toks:=s.toks+1 }->wpAny (model X.prog X.w) X.A (f (.int i t) (.int j u)) Q E s) :
  dN X f (rI C fun i j=>.int (g i j)):=by
 intro pins s σ H x y v u Q I rx ry h;obtain⟨i,j,rfl,rfl,hc,q⟩:=h;obtain⟨t,rfl⟩:=rx;obtain⟨t',rfl⟩:=ry;exact rule i j t t' s _ _ hc ⟨.int (g i j),H,I.tok _,⟨_,rfl⟩,q⟩
theorem ve{g:Int->Int->Int}(rule:∀(i j:Int) (t u:Tok) (s:Shared) (Q:Value->Shared->Prop) (E:Value->Shared->Prop),Q (.int (g i j) s.toks) { s with toks:=s.toks+1 }->wpAny (model X.prog X.w) X.A (f (.int i t) (.int j u)) Q E s) :
  dN X f (kq fun i j=>.int (g i j)):=by
 intro pins s σ H x y v u Q I rx ry h;obtain⟨i,j,rfl,rfl,q⟩:=h;obtain⟨t,rfl⟩:=rx;obtain⟨t',rfl⟩:=ry;exact rule i j t t' s _ _ ⟨.int (g i j),H,I.tok _,⟨_,rfl⟩,q⟩
theorem pq{g:Int->Int->Bool}(rule:∀(i j:Int) (t u:Tok) (s:Shared) (Q:Value->Shared->Prop) (E:Value->Shared->Prop),Q (.bool (g i j)) s->wpAny (model X.prog X.w) X.A (f (.int i t) (.int j u)) Q E s) :
  dN X f (kq fun i j=>.bl (g i j)):=by
 intro pins s σ H x y v u Q I rx ry h;obtain⟨i,j,rfl,rfl,q⟩:=h;obtain⟨t,rfl⟩:=rx;obtain⟨t',rfl⟩:=ry;exact rule i j t t' s _ _ ⟨.bl (g i j),H,I,rfl,q⟩
def q_(i j:Int):Prop:=0<j/\j<1073741824
def cU(i j:Int):Prop:=(-(2 ^ 64)<i/\i<2 ^ 64)\/(-(2 ^ 64)<j/\j<2 ^ 64)
theorem cU.ok{i j:Int}(h:cU i j):IntMulOk i j:=by
 rcases h with ⟨h1,h2⟩|⟨h1,h2⟩
 ·exact .of_left (intBits_le_64 h1 h2)
 ·exact .of_right (intBits_le_64 h1 h2)
theorem Ey:dN X (binaryOp .Add) (kq fun i j=>.int (i+j)):=ve fun _ _ _ _ _ _ _ q=>add_int q
theorem Ex:dN X (binaryOp .Sub) (kq fun i j=>.int (i-j)):=ve fun _ _ _ _ _ _ _ q=>sub_int q
theorem Ew:dN X (binaryOp .Mult) (rI cU fun i j=>.int (i*j)):=uV fun _ _ _ _ _ _ _ hc q=>mul_int q hc.ok
theorem FN:dN X (binaryOp .FloorDiv) (rI q_ fun i j=>.int (i / j)):=uV fun i j _ _ _ _ _ hc q=>by
 have h1:(0:Int)<j:=hc.1;have h2:j<1073741824:=hc.2;exact floordiv_int (by omega) (by rw[fdiv_eq_ediv_of_nonneg i (by omega)];exact q) (.inl (PyProof.noPylong_small (by omega)))
theorem Eu:dN X (binaryOp .Mod) (rI (fun _ j=>0<j) fun i j=>.int (i % j)):=uV fun i j _ _ _ _ _ hc q=>by
 have h1:(0:Int)<j:=hc;exact mod_int' (by omega) (by rw[fmod_eq_emod_of_nonneg i (by omega)];exact q)
theorem Kb{f:Value->Sem Value}{g:Int->Int}(rule:∀(i:Int) (t:Tok) (s:Shared) (Q:Value->Shared->Prop) (E:Value->Shared->Prop),Q (.int (g i) s.toks) { s with toks:=s.toks+1 }->wpAny (model X.prog X.w) X.A (f (.int i t)) Q E s) :
  u0 X f (rU fun i=>.int (g i)):=by
 intro pins s σ H x v Q I rx h;obtain⟨i,rfl,q⟩:=h;obtain⟨t,rfl⟩:=rx;exact rule i t s _ _ ⟨.int (g i),H,I.tok _,⟨_,rfl⟩,q⟩
theorem Et:u0 X (unaryOp .USub) (rU fun i=>.int (-i)):=Kb fun _ _ _ _ _ q=>neg_int q
end
def vd:V->V->Bool
 | .non,.non=>true|.non,.int _=>true|.int _,.non=>true|.non,.bl _=>true|.bl _,.non=>true|.non,.str _=>true|.str _,.non=>true
 | .int _,.int _=>true|.bl _,.bl _=>true|.str _,.str _=>true|.byt _,.byt _=>true
 | .int _,.str _=>true|.str _,.int _=>true|.bl _,.str _=>true|.str _,.bl _=>true
 | _,_=>false
def Bs:R2:=fun x y H Q=>vd x y=true/\Q (.bl (decide (x=y))) H
def Br:R2:=fun x y H Q=>vd x y=true/\Q (.bl (!decide (x=y))) H
theorem yR{i j:Int}:decide (V.int i=V.int j)=(i==j):=by rw[Bool.eq_iff_iff];simp
theorem xo{i j:Bool}:decide (V.bl i=V.bl j)=(i==j):=by rw[Bool.eq_iff_iff];simp
theorem yB{i j:Str}:decide (V.str i=V.str j)=(i==j):=by rw[Bool.eq_iff_iff];simp
theorem yA{i j:Array UInt8}:decide (V.byt i=V.byt j)=(i.toList==j.toList):=by rw[Bool.eq_iff_iff];cases i;cases j;simp
variable {us:List Value} {y:V}
section
variable {a b:Expr} {tc:TE}
theorem dg{σ:St}{Q:VK}{k k':Bool}(I:Inv X pins σ H s)(q:Q (.bl k) H)(e:k=k'):EP X pins σ Q (.bool k') s:=by subst e;exact⟨.bl k,H,I,rfl,q⟩
theorem wt:dN X (compareOp .Eq) Bs:=by
 intro pins s σ H x y v u Q I rx ry h;obtain⟨hs,q⟩:=h;cases x with
 | non =>
  cases rx;cases y with
  | non=>cases ry;exact PySem.EqNone.eq_none_none (dg I q (by simp))
  | bl j=>cases ry;exact PySem.EqNone.eq_none_bool (dg I q (by simp))
  | int j=>obtain⟨t',rfl⟩:=ry;exact eq_none_int (dg I q (by simp))
  | str j=>obtain⟨t',rfl⟩:=ry;exact eq_none_str (dg I q (by simp))
  | _=>exact absurd (show false=true from hs) Bool.false_ne_true
 | bl i =>
  cases rx;cases y with
  | non=>cases ry;exact PySem.EqNone.eq_bool_none (dg I q (by simp))
  | bl j=>cases ry;exact eq_bool (dg I q xo)
  | str j=>obtain⟨t',rfl⟩:=ry;exact eq_bool_str (dg I q (by simp))
  | _=>exact absurd (show false=true from hs) Bool.false_ne_true
 | int i =>
  obtain⟨t,rfl⟩:=rx;cases y with
  | non=>cases ry;exact eq_int_none (dg I q (by simp))
  | int j=>obtain⟨t',rfl⟩:=ry;exact eq_int (dg I q yR)
  | str j=>obtain⟨t',rfl⟩:=ry;exact eq_int_str (dg I q (by simp))
  | _=>exact absurd (show false=true from hs) Bool.false_ne_true
 | str i =>
  obtain⟨t,rfl⟩:=rx;cases y with
  | non=>cases ry;exact eq_str_none (dg I q (by simp))
  | bl j=>cases ry;exact eq_str_bool (dg I q (by simp))
  | int j=>obtain⟨t',rfl⟩:=ry;exact eq_str_int (dg I q (by simp))
  | str j=>obtain⟨t',rfl⟩:=ry;exact eq_str (dg I q yB)
  | _=>exact absurd (show false=true from hs) Bool.false_ne_true
 | byt i =>
  obtain⟨t,rfl⟩:=rx;cases y with
  | byt j=>obtain⟨t',rfl⟩:=ry;exact PySem.W.eq_bytes (dg I q yA)
  | _=>exact absurd (show false=true from hs) Bool.false_ne_true
 | _=>cases y<;>exact absurd (show false=true from hs) Bool.false_ne_true
theorem Cm:dN X (compareOp .NotEq) Br:=by
 intro pins s σ H x y v u Q I rx ry h;obtain⟨hs,q⟩:=h;cases x with
 | non =>
  cases rx;cases y with
  | non=>cases ry;exact PySem.EqNone.ne_none_none (dg I q (by simp))
  | bl j=>cases ry;exact PySem.EqNone.ne_none_bool (dg I q (by simp))
  | int j=>obtain⟨t',rfl⟩:=ry;exact ne_none_int (dg I q (by simp))
  | str j=>obtain⟨t',rfl⟩:=ry;exact ne_none_str (dg I q (by simp))
  | _=>exact absurd (show false=true from hs) Bool.false_ne_true
 | bl i =>
  cases rx;cases y with
  | non=>cases ry;exact PySem.EqNone.ne_bool_none (dg I q (by simp))
  | bl j=>cases ry;exact ne_bool (dg I q (congrArg not xo))
  | str j=>obtain⟨t',rfl⟩:=ry;exact ne_bool_str (dg I q (by simp))
  | _=>exact absurd (show false=true from hs) Bool.false_ne_true
 | int i =>
  obtain⟨t,rfl⟩:=rx;cases y with
  | non=>cases ry;exact ne_int_none (dg I q (by simp))
  | int j=>obtain⟨t',rfl⟩:=ry;exact ne_int (dg I q (congrArg not yR))
  | str j=>obtain⟨t',rfl⟩:=ry;exact ne_int_str (dg I q (by simp))
  | _=>exact absurd (show false=true from hs) Bool.false_ne_true
 | str i =>
  obtain⟨t,rfl⟩:=rx;cases y with
  | non=>cases ry;exact ne_str_none (dg I q (by simp))
  | bl j=>cases ry;exact ne_str_bool (dg I q (by simp))
  | int j=>obtain⟨t',rfl⟩:=ry;exact ne_str_int (dg I q (by simp))
  | str j=>obtain⟨t',rfl⟩:=ry;exact ne_str (dg I q (congrArg not yB))
  | _=>exact absurd (show false=true from hs) Bool.false_ne_true
 | byt i =>
  obtain⟨t,rfl⟩:=rx;cases y with
  | byt j=>obtain⟨t',rfl⟩:=ry;exact PySem.W.ne_bytes (dg I q (congrArg not yA))
  | _=>exact absurd (show false=true from hs) Bool.false_ne_true
 | _=>cases y<;>exact absurd (show false=true from hs) Bool.false_ne_true
theorem wq:dN X (compareOp .Lt) (kq fun i j=>.bl (decide (i<j))):=pq fun _ _ _ _ _ _ _ q=>lt_int q
theorem Ck:dN X (compareOp .LtE) (kq fun i j=>.bl (decide (i<=j))):=pq fun _ _ _ _ _ _ _ q=>le_int q
theorem wo:dN X (compareOp .Gt) (kq fun i j=>.bl (decide (j<i))):=pq fun _ _ _ _ _ _ _ q=>gt_int q
theorem Cj:dN X (compareOp .GtE) (kq fun i j=>.bl (decide (j<=i))):=pq fun _ _ _ _ _ _ _ q=>ge_int q
theorem gC(b:Expr)(h:op≠.In:=by decide)(h2:op≠.NotIn:=by decide):behindInMarks op b=false:=by
 have e1:(op==CmpOp.In)=false:=by cases op<;>first|rfl|exact absurd rfl h
 have e2:(op==CmpOp.NotIn)=false:=by cases op<;>first|rfl|exact absurd rfl h2
 cases b<;>simp[behindInMarks,e1,e2]
theorem sQ{r:R2}(ho:dN X (compareOp op) r)(ha:PE X a ta)(hb:PE X b tb)(hm:behindInMarks op b=false):PE X (.Compare a [op] [b] pos) (l_ r ta tb):=by intro pins s σ H Q I h;exact wpAny_Compare1 (rf ha hb I h fun v u s2 x y H2 I2 rx ry q=>ho pins s2 σ H2 x y v u Q I2 rx ry q) hm
def Ci(t:TE):TT:=fun σ H Q=>t σ H fun x H'=>∃k,x=.bl k/\Q k H'
theorem FL{r:R2}(ho:dN X (compareOp op) r)(ha:PE X a ta)(hb:PE X b tb)(hm:behindInMarks op b=false):PT X (.Compare a [op] [b] pos) (Ci (l_ r ta tb)):=by
 intro pins s σ H Q I h;refine wpAny_isTrue_Compare1 (aW (ha pins s σ H _ I h) fun v s1 ⟨x,H1,I1,r1,q1⟩=>aW (hb pins s1 σ H1 _ I1 q1) fun u s2 ⟨y,H2,I2,r2,q2⟩ =>
  aW (ho pins s2 σ H2 x y v u _ I2 r1 r2 q2) fun c s3 ⟨z,H3,I3,r3,k,e,q3⟩=>?_) hm
 subst e;cases r3;exact wpAny_truthy_bool ⟨H3,I3,q3⟩
def ph(K:Frag)(x:V)(H:Hp)(k:Bool):Prop :=
 match x with
 | .non=>k=false
 | .bl b=>k=b
 | .int i=>k=(i != 0)
 | .str y=>y.length<=sizeLine/\k=((y.length:Int) != 0)
 | .byt y=>y.size<=sizeLine/\k=((y.size:Int) != 0)
 | .ref p=>(∃xs,cO K H p xs/\k=!xs.isEmpty)\/(∃xs,dX K H p xs/\k=!xs.isEmpty)\/∃kvs,H p=some (.dK kvs)/\k=!kvs.isEmpty
 | _=>False
theorem IF{κ:Type}{kvs:List (κ×V)}{vs:List (κ×Value)}(r:KV kvs vs):(!vs.isEmpty)=!kvs.isEmpty:=by cases r<;>rfl
theorem AG{its:List Value}(r:Vals xs its):(!its.toArray.isEmpty)=!xs.isEmpty:=by cases r<;>simp
theorem oa:(sizeLine:Nat)<2 ^ 63:=by rw[sizeLine_eq];decide
theorem Es:BK X (fun x H Q=>∃k,ph X.K x H k/\Q k H):=by
 intro pins s σ H x v Q I rx h;obtain⟨k,e,q⟩:=h;have hl:=oa;have hs:sizeLine=16777216:=sizeLine_eq;cases x with
 | non =>
  cases rx;have e':k=false:=e;subst e';exact truthy_none ⟨H,I,q⟩
 | bl b =>
  cases rx;have e':k=b:=e;subst e';exact wpAny_truthy_bool ⟨H,I,q⟩
 | int i =>
  obtain⟨t,rfl⟩:=rx;have e':k=(i != 0):=e;subst e';exact PySem.P.truthy_int ⟨H,I,q⟩
 | str y =>
  obtain⟨t,rfl⟩:=rx;obtain⟨hy,e'⟩:y.length<=sizeLine/\k=((y.length:Int) != 0):=e;subst e';exact PySem.P.truthy_str (by omega) ⟨H,I.tok _,q⟩
 | byt y =>
  obtain⟨t,rfl⟩:=rx;obtain⟨hy,e'⟩:y.size<=sizeLine/\k=((y.size:Int) != 0):=e;subst e';exact PySem.W.truthy_bytes (by omega) ⟨H,I.tok _,q⟩
 | ref p =>
  cases rx;have e':(∃xs,cO X.K H p xs/\k=!xs.isEmpty)\/(∃xs,dX X.K H p xs/\k=!xs.isEmpty)\/∃kvs,H p=some (.dK kvs)/\k=!kvs.isEmpty:=e;rcases e' with ⟨xs,hx,e'⟩|⟨xs,hx,e'⟩|⟨kvs,hx,e'⟩
  ·subst e';obtain⟨its,r,pl,hz⟩:=I.list hx;have hlen:=r.length;exact wpAny_truthy_list pl.isList (by simp only[size_toArray];omega) ⟨H,I.tok _,by rw[AG r];exact q⟩
  ·subst e';obtain⟨its,r,pl,hz⟩:=I.tuple hx;have hlen:=r.length;exact truthy_tuple pl (by simp only[size_toArray];omega) ⟨H,I.tok _,by rw[AG r];exact q⟩
  ·subst e';obtain⟨hz,hS,vs,r,m⟩:kvs.length<=sizeLine/\(p==sysModules)=false/\∃vs,KV kvs vs/\s.heap.DictOf (dG X.prog X.w) p vs:=I.hok p _ hx;have hlen:kvs.length=vs.length:=Paired.length r;exact wpAny_truthy_dict hS m (by omega) ⟨H,I.tok _,by rw[IF r];exact q⟩
 | _=>exact(show False from e).elim
theorem G7(ha:PE X a ta)(he:∀whole,isTrue a X.env whole=(do let v <- whole;standAt a.pos;holding [v] (truthy v))) :
  PT X a (fun σ H Q=>ta σ H fun x H'=>∃k,ph X.K x H' k/\Q k H'):=by
 intro pins s σ H Q I h;exact isTrue_plain (aW (ha pins s σ H _ I h) fun v s1 ⟨x,H1,I1,r1,q1⟩=>Es pins s1 σ H1 x v Q I1 r1 q1) (he _)
theorem iE{x:V}(r:Vals [x] us):∃u,us=[u]/\RelV x u:=by
 cases r with
 | cons r1 r2=>cases r2;exact⟨_,rfl,r1⟩
theorem Cg{x:V}(r:Vals [x,y] us):∃u w',us=[u,w']/\RelV x u/\RelV y w':=by
 cases r with
 | cons r1 r2 =>
  cases r2 with
  | cons r3 r4=>cases r4;exact⟨_,_,rfl,r1,r3⟩
theorem zY:aT X (.type "int") (fun xs H Q=>(∃i,xs=[.int i]/\Q (.int i) H)\/∃k,xs=[.bl k]/\Q (.int (if k then 1 else 0)) H):=by
 intro pins s σ H xs us Q I r h;rcases h with ⟨i,rfl,q⟩|⟨k,rfl,q⟩
 ·obtain⟨u,rfl,t,rfl⟩:=iE r;exact call_int_int ⟨.int i,H,I,⟨_,rfl⟩,q⟩
 ·obtain⟨u,rfl,r1⟩:=iE r;cases r1;exact call_int_bool ⟨.int (if k then 1 else 0),H,I.tok _,⟨_,rfl⟩,q⟩
def vc(K:Frag)(x:V)(H:Hp)(n:Nat):Prop :=
 match x with
 | .str y=>y.length<=sizeLine/\n=y.length
 | .byt y=>y.size<=sizeLine/\n=y.size
 | .ref p=>(∃xs,cO K H p xs/\n=xs.length)\/∃xs,dX K H p xs/\n=xs.length
 | _=>False
theorem G6:aT X (.builtin "len") (fun xs H Q=>∃x n,xs=[x]/\vc X.K x H n/\Q (.int n) H):=by
 intro pins s σ H xs us Q I r h;obtain⟨x,n,rfl,e,q⟩:=h;obtain⟨u,rfl,rx⟩:=iE r;have hl:=oa;have hs:sizeLine=16777216:=sizeLine_eq;cases x with
 | str y =>
  obtain⟨t,rfl⟩:=rx;obtain⟨hy,e'⟩:y.length<=sizeLine/\n=y.length:=e;subst e';exact len_str (by omega) ⟨.int _,H,I.tok _,⟨_,rfl⟩,q⟩
 | byt y =>
  obtain⟨t,rfl⟩:=rx;obtain⟨hy,e'⟩:y.size<=sizeLine/\n=y.size:=e;subst e';exact PySem.W.len_bytes (by omega) ⟨.int _,H,I.tok _,⟨_,rfl⟩,q⟩
 | ref p =>
  cases rx;have e':(∃xs,cO X.K H p xs/\n=xs.length)\/∃xs,dX X.K H p xs/\n=xs.length:=e;rcases e' with ⟨xs,hx,e'⟩|⟨xs,hx,e'⟩
  ·subst e';obtain⟨its,r',pl,hz⟩:=I.list hx;have hlen:=r'.length;exact Calls.call_len_list pl.isList (by simp only[size_toArray];omega) ⟨.int xs.length,H,I.tok _,⟨_,by simp only[size_toArray];rw[hlen]⟩,q⟩
  ·subst e';obtain⟨its,r',pl,hz⟩:=I.tuple hx;have hlen:=r'.length;exact len_tuple pl (by simp only[size_toArray];omega) ⟨.int xs.length,H,I.tok _,⟨_,by simp only[size_toArray];rw[hlen]⟩,q⟩
 | _=>exact(show False from e).elim
end
structure gM (h:Heap) (x dx C:Addr) (mA:Str->Option Value):Prop where
 obj:h.get? x=some (instObj C dx)
 ns:h.Ns1 dx mA
 ne:dx≠x
variable {dx:Addr} {mA:Str->Option Value}
theorem Ie(n:h.Ns1 dx mA):∃od,h.get? dx=some od/\∀name,lookIn name od=some (mA name):=by
 obtain⟨o,es,ep,ho,hd,hk,_,hm⟩:=n;refine⟨o,ho,fun name=>?_⟩;have e:=hm name;unfold nsFind findBy at e;rw[<- find?_toList] at e;unfold lookIn;rw[hd];dsimp only;split
 ·rename_i y q;rw[q] at e;exact congrArg some e
 ·rename_i q;rw[q] at e;have a:es.toList.any (·.refKey)=false:=by rw[any_eq_false];intro y hy;obtain⟨z,t,hkey⟩:=hk y (mem_toList_iff.mp hy);simp[DictEntry.refKey,hkey]
  have a':¬es.toList.any (·.refKey)=true:=by rw[a];exact Bool.false_ne_true
  rw[if_neg a'];exact congrArg some e
theorem gM.look{x C:Addr}(I:gM h x dx C mA):∃od,PySem.W.InstAt h x (instObj C dx) C (some od)/\∀name,lookIn name od=some (mA name) :=
 let ⟨od,ho,hl⟩:=Ie I.ns
 ⟨od,⟨I.obj,rfl,rfl,ho⟩,hl⟩
variable {pl:Sem Bool} {name:Str} {kw:List (Str×Value)}
section
variable {x C f:Addr} {v:Value}
theorem FK{expr:Bool}(X:K.In s.heap)(I:gM s.heap x dx C mA)(hg:plainGet K C name=true)(hh:hasDictIn K C=true)(ha:findIn K (.ref C) name=some none)(hv:mA name=some v)(hv':handedIn v=true)(h:Q v { s with toks:=s.toks+1 }) :
  wpAny (model prog w) A (getAttr (.ref x) name expr) Q E s:=by
 obtain⟨od,J,hl⟩:=I.look;exact PySem.W.get_value X J (plainGet_of hg).1 (PySem.W.findObj_own hh ha rfl (by rw[hl,hv])) hv' h
theorem G5{Q:Value×List Value->Shared->Prop}(X:K.In s.heap)(I:gM s.heap x dx C mA)(hg:plainGet K C name=true)(hf:findIn K (.ref C) name=some (some (.ref f)))(ht:isFn K (.ref f)=true)(hv:mA name=none)(h:Q (.ref f,[.ref x]) s) :
  wpAny (model prog w) A (getMethod (.ref x) name pl) Q E s:=by
 obtain⟨od,J,hl⟩:=I.look;exact PySem.W.method_fn X J (plainGet_of hg).1 (plainGet_of hg).2 hf (beq_iff_eq.mp ht) (by show(lookIn name od).map (·.isSome)=some false;rw[hl,hv];rfl) h
theorem FJ{ns:List Str}{Q:Unit->Shared->Prop}(X:K.In s.heap)(I:gM s.heap x dx C mA)(hs:findIn K (.ref C) "__setattr__" = some (some (.builtin "object.__setattr__")))(hp:plainOver K C=true)(ht:takerIn K C name=some none)(hh:hasDictIn K C=true)(hw:PySem.Within mA ns)(hsz:ns.length<=sizeLine)(h:∀h',gM h' x dx C (fun y=>if y=name then some v else mA y)->Heap.SameBut dx s.heap h'->Q () { s with heap:=h',toks:=s.toks+2 }) :
  wpAny (model prog w) A (setAttr (.ref x) name v) Q E s:=by
 obtain⟨od,J,hl⟩:=I.look;refine PySem.W.set_plain X J hs (PySem.W.osa_open (s:={ s with toks:=s.toks+1 }) (r:=none) X J hp ht fun b=>?_);obtain⟨cd,hc,hd'⟩:=PySem.W.any_some hh;have hx:s.heap.get? x=some ⟨.ref C,some dx,.plain,#[]⟩:=I.obj;refine wpAny_bind (wpAny_pure (wpAny_bind (wpAny_bind (wpAny_loadPart hx (wpAny_bind (here (s:={ s with toks:=s.toks+1 }) (PySem.W.looks_clsIn X hc) ?_))))));rw[hd'];refine wpAny_pure (a:=some dx) (wpAny_bind (wpAny_pure (wpAny_bind ?_)));refine wpAny_nsSet1 (s:={ s with toks:=s.toks+1 }) I.ns fun h' hn2 hs2=>?_;obtain⟨oD,esD,epD,hoD,hdD,hcD⟩:=hn2.count (PySem.Within.cons name v hw);refine wpAny_bind (wpAny_lookBehind hoD (by rw[hdD];exact pastItsLine_dict (le_trans hcD (by rw[length_cons];omega))) ?_);exact wpAny_pure (h _ ⟨(hs2.2 _ (Ne.symm I.ne)).trans I.obj,hn2,I.ne⟩ hs2)
theorem G4{R:Result->Shared->Prop}{vs:List Value}(X:K.In s.heap)(hm:makesIn K C=true)(hi:findIn K (.ref C) "__init__" = some (some (.ref f)))(hf:typeIn K (.ref f)=some (.type "function"))(h:codeAny (model prog w) (A.under (.builtin "type.__call__" ⟨.ref C::vs,kw⟩)) (.call (.ref f) ⟨.ref (s.heap.objs.size+1)::vs,kw⟩) (PySem.W.InitBack (s.heap.objs.size+1) R)
   { s with heap:=(s.heap.push emptyDict).push (instObj C s.heap.objs.size) }) :
  codeAny (model prog w) A (.call (.ref C) ⟨vs,kw⟩) R s:=by
 obtain⟨hh,g,d,t,os⟩:=s;exact PySem.W.make_core (PySem.W.makes_of X hm) (PySem.W.looks_findIn X hi) (fun self=>PySem.W.bind_fn X self hf) (.inl rfl) h
end
def fA(f:Str)(v:V):List (Str×V)->List (Str×V)
 | []=>[(f,v)]
 | (g,x)::r=>if g=f then (g,v)::r else (g,x)::fA f v r
theorem AS(f g:Str)(v:V):∀fs:List (Str×V),(fA f v fs).lookup g=if g=f then some v else fs.lookup g
 | []=>by
  show List.lookup g [(f,v)]=_
  by_cases h:g=f
  ·have hb:(g==f)=true:=beq_iff_eq.mpr h;simp only[List.lookup,hb,if_pos h]
  ·have hb:(g==f)=false:=beq_eq_false_iff_ne.mpr h;simp only[List.lookup,hb,if_neg h]
 | (k,x)::r=>by
  have ih:=AS f g v r;rw[show fA f v ((k,x)::r)=(if k=f then (k,v)::r else (k,x)::fA f v r) from rfl]
  by_cases hk:k=f
  ·rw[if_pos hk]
   by_cases h:g=k
   ·have hb:(g==k)=true:=beq_iff_eq.mpr h;simp only[List.lookup,hb,if_pos (h.trans hk)]
   ·have hb:(g==k)=false:=beq_eq_false_iff_ne.mpr h;simp only[List.lookup,hb,if_neg (fun e:g=f=>h (e.trans hk.symm))]
  ·rw[if_neg hk]
   by_cases h:g=k
   ·have hb:(g==k)=true:=beq_iff_eq.mpr h;simp only[List.lookup,hb,if_neg (fun e:g=f=>hk (h.symm.trans e))]
   ·have hb:(g==k)=false:=beq_eq_false_iff_ne.mpr h;simp only[List.lookup,hb];exact ih
theorem uu(f:Str)(v:V):∀fs:List (Str×V),f∈(fA f v fs).map (·.1)/\∀g,g∈fs.map (·.1)->g∈(fA f v fs).map (·.1)
 | []=>⟨by simp[fA],fun g h=>by simp at h⟩
 | (k,x)::r=>by
  obtain⟨i1,i2⟩:=uu f v r;rw[show fA f v ((k,x)::r)=(if k=f then (k,v)::r else (k,x)::fA f v r) from rfl]
  by_cases hk:k=f
  ·rw[if_pos hk];subst hk;exact⟨by simp,fun g h=>by simpa using h⟩
  ·rw[if_neg hk];refine⟨?_,fun g h=>?_⟩
   ·rw[map_cons];exact mem_cons_of_mem _ i1
   ·rw[map_cons] at h ⊢;rcases mem_cons.mp h with e|e
    ·exact mem_cons.mpr (.inl e)
    ·exact mem_cons_of_mem _ (i2 g e)
theorem AR(f:Str)(v:V):∀fs:List (Str×V),(fA f v fs).length<=fs.length+1
 | []=>by simp[fA]
 | (k,x)::r=>by
  have ih:=AR f v r;rw[show fA f v ((k,x)::r)=(if k=f then (k,v)::r else (k,x)::fA f v r) from rfl]
  by_cases hk:k=f
  ·rw[if_pos hk,length_cons,length_cons];omega
  ·rw[if_neg hk,length_cons,length_cons];omega
theorem cT.some_of{o:Option Value}(r:cT (some v) o):∃u,o=some u/\RelV v u:=by
 cases o with
 | none=>exact(show False from r).elim
 | some u=>exact⟨u,rfl,r⟩
theorem cT.none_of{o:Option Value}(r:cT none o):o=none:=by
 cases o with
 | none=>rfl
 | some u=>exact(show False from r).elim
theorem Ic(r:RelV v u):handedIn u=true:=by
 cases v with
 | non=>cases (show u=Value.none from r);rfl
 | bl b=>cases (show u=Value.bool b from r);rfl
 | int i=>obtain⟨t,e⟩:=(show ∃t,u=Value.int i t from r);cases e;rfl
 | str x=>obtain⟨t,e⟩:=(show ∃t,u=Value.str x t from r);cases e;rfl
 | byt b=>obtain⟨t,e⟩:=(show ∃t,u=Value.bytes b t from r);cases e;rfl
 | flt b=>obtain⟨t,e⟩:=(show ∃t,u=Value.float b t from r);cases e;rfl
 | ref a=>cases (show u=Value.ref a from r);rfl
 | ty n=>cases (show u=Value.type n from r);rfl
section
variable {C:Addr} {fs fs':List (Str×V)}
theorem p3(hok:cB P w H h)(e:H a=some (.ins C dx fs)):∃mA,gM h a dx C mA/\(∀f,cT (fs.lookup f) (mA f))/\PySem.Within mA (fs.map (·.1))/\fs.length<=1000/\H dx=some (.own a):=by
 obtain⟨d,z,ne,ob,mA,n,r,q⟩:=(show aQ P w H h a (.ins C dx fs) from hok a _ e)
 exact⟨mA,⟨ob,n,ne⟩,r,q,z,d⟩
end
structure Cls (K:Frag) (C:Addr):Prop where
 pg:plainGet K C Str.empty=true
 hd:hasDictIn K C=true
 po:plainOver K C=true
 sa:findIn K (.ref C) "__setattr__" = some (some (.builtin "object.__setattr__"))
theorem Cls.get{C:Addr}(c:Cls K C)(f:Str):plainGet K C f=true:=c.pg
def NoAttr(K:Frag)(C:Addr)(f:Str):Prop:=findIn K (.ref C) f=some none
theorem NoAttr.taker{C:Addr}{f:Str}(n:NoAttr K C f):takerIn K C f=some none:=by unfold takerIn;rw[show findIn K (.ref C) f=some none from n];rfl
structure Meth (K:Frag) (C:Addr) (m:Str) (f:Addr):Prop where
 at_:findIn K (.ref C) m=some (some (.ref f))
 fn:isFn K (.ref f)=true
 kp:keepIn K (.ref f)=true
variable {m:Str}
section
variable {σ:St} {C:Addr} {fs:List (Str×V)} {f:Str}
theorem IE{b:Bool}(I:Inv X pins σ H s)(e:H a=some (.ins C dx fs))(c:Cls X.K C)(n:NoAttr X.K C f)(l:fs.lookup f=some v)(h:∀u s',Inv X pins σ H s'->RelV v u->Q u s'):wpAny (model X.prog X.w) A (getAttr (.ref a) f b) Q E s:=by obtain⟨mA,O,r,_,_,_⟩:=p3 I.hok e;obtain⟨u,hu,ru⟩:=cT.some_of (v:=v) (o:=mA f) (by rw[<- l];exact r f);exact FK I.kIn O (c.get f) c.hd n hu (Ic ru) (h u _ (I.tok _) ru)
theorem ID{g:Addr}{Q:Value×List Value->Shared->Prop}(I:Inv X pins σ H s)(e:H a=some (.ins C dx fs))(c:Cls X.K C)(k:Meth X.K C m g)(l:fs.lookup m=none)(h:Q (.ref g,[.ref a]) s):wpAny (model X.prog X.w) A (getMethod (.ref a) m pl) Q E s:=by obtain⟨mA,O,r,_,_,_⟩:=p3 I.hok e;have hn:mA m=none:=cT.none_of (by rw[<- l];exact r m);exact G5 I.kIn O (c.get m) k.at_ k.fn hn h
theorem IC{Q:Unit->Shared->Prop}(I:Inv X pins σ H s)(e:H a=some (.ins C dx fs))(c:Cls X.K C)(n:NoAttr X.K C f)(hl:fs.length<1000)(ry:RelV y u)(h:∀s',Inv X pins σ (upd H a (.ins C dx (fA f y fs))) s'->Q () s'):wpAny (model X.prog X.w) A (setAttr (.ref a) f u) Q E s:=by
 obtain⟨mA,O,r,wi,_,ho⟩:=p3 I.hok e;have hz:(fs.map (·.1)).length<=sizeLine:=by rw[length_map,sizeLine_eq];omega
 refine FJ I.kIn O c.sa c.po n.taker c.hd wi hz fun h' O' sb=>h _ ?_;have hd:∃o,h'.get? dx=some o:=let ⟨o,_,_,e',_⟩:=O'.ns;⟨o,e'⟩
 refine I.write (x:=a) (e:=dx) (by rw[e];exact True.intro) (.inr ho) (fun b q hb z=>(sb.2 b hb).trans z) hd ?_;refine⟨by rw[cj O.ne];exact ho,?_,O.ne,O'.obj,_,O'.ns,fun g=>?_,fun g hg=>?_⟩
 ·have:=AR f y fs;omega
 ·show cT ((fA f y fs).lookup g) (if g=f then some u else mA g);rw[AS]
  by_cases q:g=f
  ·rw[if_pos q,if_pos q];exact ry
  ·rw[if_neg q,if_neg q];exact r g
 ·by_cases q:g=f
  ·rw[q];exact(uu f y fs).1
  ·refine(uu f y fs).2 g (wi g fun z=>hg ?_);show(if g=f then some u else mA g)=none;rw[if_neg q];exact z
theorem Inv.made(I:Inv X pins σ H s):Inv X pins σ (upd (upd H s.heap.objs.size (.own (s.heap.objs.size+1))) (s.heap.objs.size+1) (.ins C s.heap.objs.size []))
  { s with heap:=(s.heap.push emptyDict).push (instObj C s.heap.objs.size) }:=by
 have e1:(s.heap.push emptyDict).get? s.heap.objs.size=some emptyDict:=Heap.get?_push_size s.heap rfl;have e2:((s.heap.push emptyDict).push (instObj C s.heap.objs.size)).get? (s.heap.objs.size+1)=some (instObj C s.heap.objs.size):=by have:=Heap.get?_push_size (s.heap.push emptyDict) (o:=instObj C s.heap.objs.size) rfl;rwa [Heap.size_push] at this
 have e3:(s.heap.push emptyDict).Ns s.heap.objs.size (fun _=>none):=⟨emptyDict,#[],_,e1,rfl,(fun e he=>absurd he (by simp)),fun _=>rfl⟩
 have I1:=I.laid (a:=s.heap.objs.size) (o:=.own (s.heap.objs.size+1)) (h':=s.heap.push emptyDict) (t':=s.toks) (fun b u q=>Heap.get?_push_of_some _ q) (le_refl _) ⟨_,e1⟩;refine I1.laid (a:=s.heap.objs.size+1) (o:=.ins C s.heap.objs.size []) (t':=s.toks) (fun b u q=>Heap.get?_push_of_some _ q) (le_of_eq (Heap.size_push _ _)) ?_;have ne:s.heap.objs.size≠s.heap.objs.size+1:=ne_of_lt (lt_succ_self _);refine⟨by rw[cj ne,eB],zero_le _,ne,e2,fun _=>none,(Heap.Ns1.of_empty e3).at fun o q=>Heap.get?_push_of_some _ q,fun _=>True.intro,fun y hy=>absurd rfl hy⟩
theorem FI{env:Env}{f:Str}(hb:attributeBase e f env (eval e env)=eval e env)(h:wpAny (model prog w) A (eval e env) (fun o s₁=>wpAny (model prog w) A (getAttr o f true) Q E s₁) E s):wpAny (model prog w) A (eval (.Attribute e f pos) env) Q E s :=
 Attribute_any_ h (by rw[arm_eval_Attribute,hb])
end
def BJ(K:Frag)(ta:TE)(f:Str):TE:=fun σ H Q=>ta σ H fun x H1=>∃a C dx fs v,x=.ref a/\H1 a=some (.ins C dx fs)/\Cls K C/\NoAttr K C f/\fs.lookup f=some v/\Q v H1
def BI(K:Frag)(ta tv:TE)(f:Str):TS:=fun D σ H=>tv σ H fun y H1=>ta σ H1 fun x H2=>∃a C dx fs,x=.ref a/\H2 a=some (.ins C dx fs)/\Cls K C/\NoAttr K C f/\fs.length<1000 /\
 D.nx σ (upd H2 a (.ins C dx (fA f y fs)))
section
variable {o value:Expr} {f:Str} {tpos:Pos} {tv:TE}
theorem Er(he:PE X e ta)(hb:attributeBase e f X.env (eval e X.env)=eval e X.env):PE X (.Attribute e f pos) (BJ X.K ta f):=by
 intro pins s σ H Q I h;refine FI hb (aW (he pins s σ H _ I h) fun u s1 ⟨x,H1,I1,rx,a,C,dx,fs,v,ex,ea,c,n,l,q⟩=>?_);subst ex;obtain rfl:u=Value.ref a:=rx;exact IE I1 ea c n l fun u' s2 I2 ru=>⟨v,H1,I2,ru,q⟩
theorem Ep(ha:PE X o ta)(hv:PE X value tv)(hs:swapsWith value (some (.Attribute o f pos')) pos.line X.env=pure false):PS X (.Assign [.Attribute o f pos'] value pos) (BI X.K ta tv f):=by
 intro pins s σ H D I h;refine plainObj_wpAny_Assign_Attribute (aW (hv pins s σ H _ I h) fun u s1 ⟨y,H1,I1,ry,q⟩=>aW (ha pins s1 σ H1 _ I1 q) fun ov s2 ⟨x,H2,I2,rx,a,C,dx,fs,ex,ea,c,n,l,q2⟩=>?_) hs;subst ex;obtain rfl:ov=Value.ref a:=rx;exact IC I2 ea c n l ry fun s3 I3=>⟨σ,_,I3,q2⟩
end
section
variable {σ:St} {c:Value} {b:Bool}
inductive c8 (K:Frag) (H:Hp):V->Value->Prop where
 | non:c8 K H .non (.type "NoneType")
 | bl (x:Bool):c8 K H (.bl x) (.type "bool")
 | int (i:Int):c8 K H (.int i) (.type "int")
 | str (x:Str):c8 K H (.str x) (.type "str")
 | flt (x:UInt64):c8 K H (.flt x) (.type "float")
 | lst {a:Addr} {xs:List V} (e:H a=some (.lst xs)):c8 K H (.ref a) (.type "list")
 | frz {a:Addr} {o:Obj} {xs:List V} (e:H a=some (.frz o (.lst xs))):c8 K H (.ref a) (.type "list")
 | tup {a:Addr} {xs:List V} (e:H a=some (.tup xs)):c8 K H (.ref a) (.type "tuple")
 | dK {a:Addr} {kvs:List (Key×V)} (e:H a=some (.dK kvs)):c8 K H (.ref a) (.type "dict")
 | dT {a:Addr} {kvs:List (List Key×V)} (e:H a=some (.dT kvs)):c8 K H (.ref a) (.type "dict")
 | ins {a C dx:Addr} {fs:List (Str×V)} (e:H a=some (.ins C dx fs)) (cl:Cls K C) (ha:findIn K (.ref C) "__class__" = some (some (.builtin "object.__class__")))
   (hn:PySem.W.specialIn K (.builtin "object.__class__") "__get__" = some (some (.builtin "getset_descriptor.__get__"))) (htk:PySem.W.takesIn K (.builtin "object.__class__")=some true)
   (hm:mroIn K C (.type "object")=some true):c8 K H (.ref a) (.ref C)
theorem Ib{x:V}{t:Value}(I:Inv X pins σ H s)(rx:RelV x u)(ty:c8 X.K H x t)(e:kitOne X.K t c=some b)(h:∀tk,Q (.bool b) { s with toks:=tk }) :
  wpAny (model X.prog X.w) A (call (.builtin "isinstance") [u,c]) Q E s:=by
 cases ty with
 | non=>cases (show u=Value.none from rx);exact kia_one PySem.W.kitx_none I.kIn True.intro e (fun z=>nomatch z) h
 | bl y=>cases (show u=Value.bool y from rx);exact kia_one PySem.W.kitx_bool I.kIn True.intro e (fun z=>nomatch z) h
 | int i=>obtain⟨t,q⟩:=(show ∃t,u=Value.int i t from rx);cases q;exact kia_one PySem.W.kitx_int I.kIn True.intro e (fun z=>nomatch z) h
 | str y=>obtain⟨t,q⟩:=(show ∃t,u=Value.str y t from rx);cases q;exact kia_one PySem.W.kitx_str I.kIn True.intro e (fun z=>nomatch z) h
 | flt y=>obtain⟨t,q⟩:=(show ∃t,u=Value.float y t from rx);cases q;exact kia_one PySem.W.kitx_float I.kIn True.intro e (fun z=>nomatch z) h
 | @lst a xs ea =>
  cases (show u=Value.ref a from rx);obtain⟨_,_,n,_,h1⟩:=(show aQ X.prog X.w H s.heap a (.lst xs) from I.hok a _ ea)
  exact kia_one kitx_list I.kIn ⟨_,h1,rfl⟩ e (fun z=>nomatch z) h
 | @frz a ob xs ea =>
  cases (show u=Value.ref a from rx);obtain⟨_,_,_,n,_,h1⟩:=(show aQ X.prog X.w H s.heap a (.frz ob (.lst xs)) from I.hok a _ ea)
  exact kia_one kitx_list I.kIn ⟨_,h1,rfl⟩ e (fun z=>nomatch z) h
 | @tup a xs ea =>
  cases (show u=Value.ref a from rx);obtain⟨_,_,_,p⟩:=(show aQ X.prog X.w H s.heap a (.tup xs) from I.hok a _ ea)
  obtain⟨o,h1,h2,_⟩:=p;exact kia_one PySem.W.kitx_tuple I.kIn ⟨o,h1,h2⟩ e (fun z=>nomatch z) h
 | @dK a kvs ea =>
  cases (show u=Value.ref a from rx);obtain⟨_,_,vs,_,p⟩:=(show aQ X.prog X.w H s.heap a (.dK kvs) from I.hok a _ ea)
  obtain⟨o,es,ep,h1,h2,_⟩:=p;exact kia_one kitx_dict I.kIn ⟨o,h1,h2.1⟩ e (fun z=>nomatch z) h
 | @dT a kvs ea =>
  cases (show u=Value.ref a from rx);obtain⟨_,_,xs,_,o,es,ep,h1,h2,_⟩:=(show aQ X.prog X.w H s.heap a (.dT kvs) from I.hok a _ ea)
  exact kia_one kitx_dict I.kIn ⟨o,h1,h2.1⟩ e (fun z=>nomatch z) h
 | @ins a C dx fs ea cl ha hn htk hm =>
  cases (show u=Value.ref a from rx);obtain⟨mA,O,_⟩:=p3 I.hok ea;obtain⟨od,J,_⟩:=O.look;exact kia_one (PySem.W.kitx_own (cl.get _) cl.hd ha hn htk hm) I.kIn J e (fun z=>nomatch z) h
end
structure bo (k:Nat) (A:Around):Prop where
 hd:A.handled=none
 dp:A.depth+3*k+5<recursionLimit
 un:A.units+16*k+200<cLine
theorem bo.mono{j:Nat}(r:bo k A)(h:j<=k):bo j A:=⟨r.hd,by have:=r.dp;omega,by have:=r.un;omega⟩
theorem bo.deeper(r:bo (k+1) A)(env:Env):bo k (A.deeper env) :=
 ⟨r.hd,by have:=r.dp;show A.depth+1+3*k+5<_;omega,by have:=r.un;show A.units+3+16*k+200<_;omega⟩
theorem IB{C:Addr}:(A.under (.builtin "type.__call__" ⟨.ref C::us,kw⟩)).depth=A.depth+1:=by
 first|rfl|simp[Around.under,Code.weight,Code.isCreation,Code.isGuard,Code.isCaller,Code.frames,Code.isFrame,guardIds]
theorem Iz{C:Addr}:(A.under (.builtin "type.__call__" ⟨.ref C::us,kw⟩)).units=A.units+1:=by
 first|rfl|simp[Around.under,Code.cUnits,Code.frames,Code.isFrame]
theorem bo.make(r:bo (k+1) A)(C:Addr)(us:List Value)(kw:List (Str×Value)):bo k (A.under (.builtin "type.__call__" ⟨.ref C::us,kw⟩)) :=
 ⟨r.hd,by have:=r.dp;rw[IB];omega,by have:=r.un;rw[Iz];omega⟩
theorem bo.depth(r:bo k A):A.depth<recursionLimit:=by have:=r.dp;omega
theorem bo.units(r:bo k A):A.units+64<cLine:=by have:=r.un;omega
def BH:TA:=fun _ H Q=>Q [] H
def Cf(ta:TE)(tr:TA):TA:=fun σ H Q=>ta σ H fun x H1=>tr σ H1 fun xs H2=>Q (x::xs) H2
section
variable {t:TA}
theorem xn:PA X [] BH:=fun _ _ _ _ H Q I h=>Calls.spliced_nil ⟨[],H,I,.nil,h⟩
theorem yz(ha:PE X e te)(hr:PA X es t)(hs:starEach (e::es) X.env=(false,eval e X.env)::starEach es X.env:=by rfl):PA X (e::es) (Cf te t):=by
 intro pos pins s σ H Q I h;rw[hs];show wpAny _ _ (spliced ((false,eval e X.env)::backTo pos (starEach es X.env))) _ _ s;refine Calls.spliced_cons (aW (ha pins s σ H _ I h) fun u s1 ⟨x,H1,I1,r1,q1⟩=>?_);exact aW (hr pos pins s1 σ H1 _ I1 q1) fun us s2 ⟨xs,H2,I2,r2,q2⟩=>⟨x::xs,H2,I2,.cons r1 r2,q2⟩
def BG(t:TA):TE:=fun σ H Q=>t σ H fun xs H1=>xs.length<=sizeLine/\∀p,H1 p=none->Q (.ref p) (upd H1 p (.tup xs))
def BF(t:TA):TE:=fun σ H Q=>t σ H fun xs H1=>xs.length<=sizeLine/\∀p,H1 p=none->Q (.ref p) (upd H1 p (.lst xs))
theorem Eo{x1}(h:PA X es t):PE X (.Tuple es x1 pos) (BG t):=by intro pins s σ H Q I hq;refine wpAny_Tuple_spliced (aW (h pos pins s σ H _ I hq) fun us s1 ⟨xs,H1,I1,r,z,q⟩=>⟨by rw[<- r.length];exact z,?_⟩);have hf:H1 s1.heap.objs.size=none:=I1.hok.fresh (le_refl _);refine⟨.ref s1.heap.objs.size,upd H1 s1.heap.objs.size (.tup xs),I1.laid (t':=s1.toks) (fun b u e=>Heap.get?_push_of_some _ e) (le_refl _) ?_,rfl,q _ hf⟩;exact⟨z,us,r,⟨_,Heap.get?_push_size _ rfl,rfl,⟨_,rfl⟩,rfl⟩⟩
theorem sy(h:PA X es t):PE X (.List es pos) (BF t):=by intro pins s σ H Q I hq;refine wpAny_List_spliced (aW (h pos pins s σ H _ I hq) fun us s1 ⟨xs,H1,I1,r,z,q⟩=>⟨by rw[<- r.length];exact z,?_⟩);have hf:H1 s1.heap.objs.size=none:=I1.hok.fresh (le_refl _);refine⟨.ref s1.heap.objs.size,upd H1 s1.heap.objs.size (.lst xs),I1.laid (t':=s1.toks) (fun b u e=>Heap.get?_push_of_some _ e) (le_refl _) ?_,rfl,q _ hf⟩;exact⟨z,us,0,r,Heap.get?_push_size _ rfl⟩
end
abbrev Sp:=List V->Hp->VK->XK->Prop
abbrev jw:=List Env->Hp->Shared->XK->Value->Shared->Prop
structure gP (P:Program) (w:World) (K:Frag) (mg:Str->Option Value) (base:Heap) (A:Around) (outer:List Env) (s:Shared) (H:Hp):Prop where
 frames:A.frames=some outer
 mod:Mod K mg base
 bs:∀b o,base.get? b=some o->s.heap.get? b=some o/\H b=none
 bsz:base.objs.size<=s.heap.objs.size
 funs:s.heap.FunFrames base outer
 frf:∀b∈dj outer,H b=none
 hok:cB P w H s.heap
 bare:AllBare s.gens
def CE(outer:List Env)(P:Program)(w:World)(H:Hp)(s:Shared)(Q:VK)(u:Value)(s':Shared):Prop :=
 ∃v H',s'.os=s.os/\AllBare s'.gens/\Un (dj outer) [] H H' s.heap s'.heap/\cB P w H' s'.heap/\RelV v u/\Q v H'
def CR(CX:jw)(outer:List Env)(P:Program)(w:World)(H:Hp)(s:Shared)(Q:VK)(E:XK)(r:Result)(s':Shared):Prop :=
 match r with
 | .ok (.ret u)=>CE outer P w H s Q u s'
 | .ok _=>False
 | .error e=>CX outer H s E e s'
structure au (P:Program) (w:World) (K:Frag) (mg:Str->Option Value) (base:Heap) (CX:jw) (k:Nat) (f:Addr) (fd:FuncData) (ps:List Str) (sp:Sp):Prop where
 len:∀vs H Q E,sp vs H Q E->vs.length=ps.length
 run:∀(A:Around) (outer:List Env) (s:Shared) (H:Hp) (args:Args) (us:List Value) (vs:List V) (Q:VK) (E:XK),bo k A->gP P w K mg base A outer s H->BindsTo s fd args (ps.zip us)->Vals vs us->sp vs H Q E ->
  codeAny (model P w) A (.call (.ref f) args) (CR CX outer P w H s Q E) s
variable {mg:Str->Option Value} {base:Heap} {CX:jw} {fd:FuncData} {ps:List Str} {sp:Sp}
theorem au.imp{f:Addr}{sp':Sp}(F:au P w K mg base CX k f fd ps sp)(h:∀vs H Q E,sp' vs H Q E->sp vs H Q E):au P w K mg base CX k f fd ps sp' :=
 ⟨fun vs H Q E q=>F.len vs H Q E (h _ _ _ _ q),fun A outer s H args us vs Q E hr he hb hv hs=>F.run A outer s H args us vs Q E hr he hb hv (h _ _ _ _ hs)⟩
variable {outer:List Env}
theorem gP.make(e:gP P w K mg base A outer s H)(C:Addr)(us:List Value)(kw:List (Str×Value)) :
  gP P w K mg base (A.under (.builtin "type.__call__" ⟨.ref C::us,kw⟩)) outer s H:=⟨by first|exact e.frames|(simpa[Around.under,Code.envs,Code.isFrame,pushEnvs] using e.frames),e.mod,e.bs,e.bsz,e.funs,e.frf,e.hok,e.bare⟩
section
variable {σ:St}
theorem Inv.env0(I:Inv X pins σ H s):gP X.prog X.w X.K X.mg X.base X.A X.stack s H :=
 ⟨I.ok.frames,I.ok.mod,I.bs,le_trans I.ok.bsz I.sz,I.stack,I.stkFree,I.hok,I.bare⟩
theorem Inv.after{Q:VK}(I:Inv X pins σ H s)(h:CE X.stack X.prog X.w H s Q u s'):EP X pins σ Q u s':=by obtain⟨v,H',os,bare,un,hok,r,q⟩:=h;obtain⟨hh,g,d,t,os'⟩:=s';obtain rfl:os'=s.os:=os;exact⟨v,H',I.call (h':=hh) (g':=g) (d':=d) (t':=t) (ch:=[]) un hok bare (fun b z=>absurd z (by simp)),r,q⟩
end
def Cd(sp:Sp)(dvs:List V)(E:XK)(t:TA):TE:=fun σ H Q=>t σ H fun vs H1=>sp (vs++dvs) H1 Q E
def Cc(C:Addr)(m:Str)(sp:Sp)(dvs:List V)(E:XK)(ta:TE)(t:TA):TE:=fun σ H Q=>ta σ H fun x H1=>∃a dx fs,x=.ref a/\H1 a=some (.ins C dx fs)/\fs.lookup m=none /\
 t σ H1 fun vs H2=>sp (x::(vs++dvs)) H2 Q E
def Cb(C:Addr)(sp:Sp)(dvs:List V)(E:XK)(t:TA):TE:=fun σ H Q=>t σ H fun vs H1=>∀x dx,H1 x=none->H1 dx=none->dx≠x ->
 sp (.ref x::(vs++dvs)) (upd (upd H1 dx (.own x)) x (.ins C dx [])) (fun v H2=>v=.non/\Q (.ref x) H2) E
def Binds(K:Frag)(fd:FuncData)(ps:List Str)(ds:List Value):Prop :=
 ∀(s:Shared) (us:List Value),K.In s.heap->(us++ds).length=ps.length->BindsTo s fd ⟨us,[]⟩ (ps.zip (us++ds))
theorem Binds.all(h:∀us:List Value,us.length=ps.length->bindArgs fd ⟨us,[]⟩=pure (ps.zip us)):Binds K fd ps []:=fun s us _ hl=>by
 rw[append_nil] at hl ⊢;exact .of_eq (h us hl)
def jM(CX:jw)(X:Cx)(E:XK):Prop:=∀(pins:List (Addr×Obj)) (σ:St) (H:Hp) (s:Shared) (e:Value) (s':Shared),Inv X pins σ H s->CX X.stack H s E e s'->X.xe e s'
variable {vs:List V} {apos:Pos}
section
variable {f C:Addr} {dvs:List V} {ds:List Value} {E:XK} {x:Str} {o:Expr} {t:TA}
theorem n_{σ:St}{Q:VK}(F:au X.prog X.w X.K X.mg X.base CX k f fd ps sp)(hr:bo k X.A)(hb:Binds X.K fd ps ds)(hd:Vals dvs ds)(hx:jM CX X E)(I:Inv X pins σ H s)(r:Vals vs us)(h:sp (vs++dvs) H Q E):wpAny (model X.prog X.w) X.A (call (.ref f) us) (EP X pins σ Q) X.xe s:=by
 have r2:Vals (vs++dvs) (us++ds):=r.append hd;have hl:(us++ds).length=ps.length:=by rw[<- r2.length];exact F.len _ _ _ _ h
 refine wpAny_call (codeAny_mono (F.run X.A X.stack s H ⟨us,[]⟩ (us++ds) (vs++dvs) Q E hr I.env0 (hb s us I.kIn hl) r2 h) fun r s' hq=>?_);cases r with
 | error e=>exact hx pins σ H s e s' I hq
 | ok fl =>
  cases fl with
  | ret u=>exact I.after hq
  | next=>exact False.elim hq
  | brk=>exact False.elim hq
  | cont=>exact False.elim hq
theorem FH(F:au X.prog X.w X.K X.mg X.base CX k f fd ps sp)(hr:bo k X.A)(hg:Gl X x)(hm:X.mg x=some (.ref f))(hk:keepIn X.K (.ref f)=true)(hb:Binds X.K fd ps ds)(hd:Vals dvs ds)(hx:jM CX X E)(ha:PA X (e::es) t)(hdb:(x==("__debug__" : Str))=false:=by decide)(he:starEach (e::es) X.env=(false,eval e X.env)::starEach es X.env:=by rfl)(hpl:(backTo pos (starEach es X.env)).any (·.1)=false:=by rfl) :
  PE X (.Call (.Name x p) (e::es) [] pos) (Cd sp dvs E t):=by
 intro pins s σ H Q I h;refine wpAny_Call_Name_kw (kZ I hg hm ?_ hdb);refine callWith_K (h₀:=X.base) I.ok.mod.kin hk (aW (ha pos pins s σ H _ I h) fun us s1 ⟨vs,H1,I1,r,q⟩=>⟨I1.kIn,?_⟩) he hpl;exact n_ F hr hb hd hx I1 r q
theorem FG(he:PE X o ta)(c:Cls X.K C)(hm:Meth X.K C m f)(F:au X.prog X.w X.K X.mg X.base CX k f fd ps sp)(hr:bo k X.A)(hb:Binds X.K fd ps ds)(hd:Vals dvs ds)(hx:jM CX X E)(ha:PA X (e::es) t)(hst:starEach (e::es) X.env=(false,eval e X.env)::starEach es X.env:=by rfl)(hpl:(backTo pos (starEach es X.env)).any (·.1)=false:=by rfl)(ht:eval (.Call (.Attribute o m apos) (e::es) [] pos) X.env=(do
   let ov <- eval o X.env
   standAt apos.atName
   let (f,first) <- holding [ov] (getMethod ov m pl)
   callWith pos f first (backTo pos (starEach (e::es) X.env)) (backToKw pos (keywordEach [] X.env))):=by rfl) :
  PE X (.Call (.Attribute o m apos) (e::es) [] pos) (Cc C m sp dvs E ta t):=by
 intro pins s σ H Q I h;refine PySem.W.methodCall_KW (pl:=pl) (aW (he pins s σ H _ I h) fun u s1 ⟨x,H1,I1,rx,a,dx,fs,ex,ea,l,q⟩=>?_) ht;subst ex;obtain rfl:u=Value.ref a:=rx;refine ID I1 ea c hm l ?_;refine callWith_K (first:=[.ref a]) (h₀:=X.base) I.ok.mod.kin hm.kp (aW (ha pos pins s1 σ H1 _ I1 q) fun us s2 ⟨vs,H2,I2,r,q2⟩=>⟨I2.kIn,?_⟩) hst hpl;exact n_ (us:=.ref a::us) (vs:=.ref a::vs) F hr hb hd hx I2 (.cons rfl r) q2
structure Mk (K:Frag) (C f:Addr):Prop where
 makes:makesIn K C=true
 init:findIn K (.ref C) "__init__" = some (some (.ref f))
 fn:isFn K (.ref f)=true
 kp:keepIn K (.ref C)=true
theorem G3{σ:St}{Q:VK}(M:Mk X.K C f)(F:au X.prog X.w X.K X.mg X.base CX k f fd ps sp)(hr:bo (k+1) X.A)(hb:Binds X.K fd ps ds)(hd:Vals dvs ds)(hx:jM CX X E)(I:Inv X pins σ H s)(r:Vals vs us)(h:∀x dx,H x=none->H dx=none->dx≠x->sp (.ref x::(vs++dvs)) (upd (upd H dx (.own x)) x (.ins C dx [])) (fun v H2=>v=.non/\Q (.ref x) H2) E) :
  wpAny (model X.prog X.w) X.A (call (.ref C) us) (EP X pins σ Q) X.xe s:=by
 have hq:=h (s.heap.objs.size+1) s.heap.objs.size (I.hok.fresh (le_succ _)) (I.hok.fresh (le_refl _)) (ne_of_lt (lt_succ_self _));have I2:=Inv.made (C:=C) I;have r2:Vals (V.ref (s.heap.objs.size+1)::(vs++dvs)) (Value.ref (s.heap.objs.size+1)::(us++ds)):=.cons rfl (r.append hd);have hl:(Value.ref (s.heap.objs.size+1)::us++ds).length=ps.length:=by have e:=r2.length;rw[F.len _ _ _ _ hq] at e;exact e.symm
 refine wpAny_call (G4 (f:=f) I.kIn M.makes M.init (beq_iff_eq.mp M.fn) (codeAny_mono (F.run _ X.stack _ _ ⟨Value.ref (s.heap.objs.size+1)::us,[]⟩ (Value.ref (s.heap.objs.size+1)::(us++ds)) _ _ E (hr.make C us [])
  (I2.env0.make C us []) (hb _ (Value.ref (s.heap.objs.size+1)::us) I2.kIn hl) r2 hq) fun r s' hq'=>?_))
 cases r with
 | error e=>exact hx pins σ _ _ e s' I2 hq'
 | ok fl =>
  cases fl with
  | ret u =>
   obtain⟨v,H',I3,rv,ev,q3⟩:=I2.after hq';subst ev;exact⟨rv,⟨V.ref (s.heap.objs.size+1),H',I3,rfl,q3⟩⟩
  | next=>exact False.elim hq'
  | brk=>exact False.elim hq'
  | cont=>exact False.elim hq'
theorem FF(M:Mk X.K C f)(F:au X.prog X.w X.K X.mg X.base CX k f fd ps sp)(hr:bo (k+1) X.A)(hg:Gl X x)(hm:X.mg x=some (.ref C))(hb:Binds X.K fd ps ds)(hd:Vals dvs ds)(hx:jM CX X E)(ha:PA X (e::es) t)(hdb:(x==("__debug__" : Str))=false:=by decide)(he:starEach (e::es) X.env=(false,eval e X.env)::starEach es X.env:=by rfl)(hpl:(backTo pos (starEach es X.env)).any (·.1)=false:=by rfl) :
  PE X (.Call (.Name x p) (e::es) [] pos) (Cb C sp dvs E t):=by
 intro pins s σ H Q I h;refine wpAny_Call_Name_kw (kZ I hg hm ?_ hdb);refine callWith_K (h₀:=X.base) I.ok.mod.kin M.kp (aW (ha pos pins s σ H _ I h) fun us s1 ⟨vs,H1,I1,r,q⟩=>⟨I1.kIn,?_⟩) he hpl;exact G3 M F hr hb hd hx I1 r q
end
section
variable {f C:Addr} {ks:List Str} {E:XK} {x:Str} {kpos:Pos} {o:Expr} {kws:List Keyword} {t tk:TA} {nm:Option Str}
variable {g:List Value->List Value->List Value} {gV:List V->List V->List V}
end
structure aq (N P:List Str) (sc:Scope):Prop where
 kind:sc.kind=.function
 co:sc.isCoroutine=false
 gen:sc.isGenerator=false
 nd:N.Nodup
 pre:N.take P.length=P
 par:∀x∈P,sc.names.lookup x=some .local\/sc.names.lookup x=some .cell
 nofree:∀y∈sc.names,y.2≠.free
theorem zX{kindOf:Str->Option NameKind}{x:Str}:∀{binds:List (Str×Value)} {m:Str->Option Value},(∀v,(x,v)∉binds)->bindL kindOf binds m x=m x
 | [],_,_=>rfl
 | (n,v)::r,m,h=>by
  unfold bindL;rw[zX fun w hw=>h w (mem_cons_of_mem _ hw)];split
  ·have:x≠n:=by rintro rfl;exact h v mem_cons_self
   simp[this]
  ·rfl
theorem zW{kindOf:Str->Option NameKind}{x:Str}:∀{binds:List (Str×Value)} {m:Str->Option Value},(∀v,(x,v)∉binds)->bindC kindOf binds m x=m x
 | [],_,_=>rfl
 | (n,v)::r,m,h=>by
  unfold bindC;rw[zW fun w hw=>h w (mem_cons_of_mem _ hw)];split
  ·rfl
  ·have:x≠n:=by rintro rfl;exact h v mem_cons_self
   simp[this]
theorem zV{kindOf:Str->Option NameKind}{x:Str}{v:Value}:∀{P:List Str} {vs:List Value} {i:Nat} {m:Str->Option Value},P.Nodup->P[i]?=some x->vs[i]?=some v->kindOf x=some .local ->
  bindL kindOf (P.zip vs) m x=some v
 | [],_,_,_,_,h,_,_=>by simp at h
 | _::_,[],_,_,_,_,h,_=>by simp at h
 | p::P,w::vs,0,m,nd,h1,h2,hk=>by
  simp at h1 h2;subst h1;subst h2;show bindL kindOf ((p,w)::P.zip vs) m p=_;unfold bindL;rw[zX fun v hv=>(nodup_cons.mp nd).1 (of_mem_zip hv).1,if_pos hk];simp
 | p::P,w::vs,i+1,m,nd,h1,h2,hk=>by
  show bindL kindOf ((p,w)::P.zip vs) m x=_;unfold bindL;exact zV (i:=i) (nodup_cons.mp nd).2 (by simpa using h1) (by simpa using h2) hk
theorem zU{kindOf:Str->Option NameKind}{x:Str}{v:Value}:∀{P:List Str} {vs:List Value} {i:Nat} {m:Str->Option Value},P.Nodup->P[i]?=some x->vs[i]?=some v->kindOf x≠some .local ->
  bindC kindOf (P.zip vs) m x=some v
 | [],_,_,_,_,h,_,_=>by simp at h
 | _::_,[],_,_,_,_,h,_=>by simp at h
 | p::P,w::vs,0,m,nd,h1,h2,hk=>by
  simp at h1 h2;subst h1;subst h2;show bindC kindOf ((p,w)::P.zip vs) m p=_;unfold bindC;rw[zW fun v hv=>(nodup_cons.mp nd).1 (of_mem_zip hv).1,if_neg hk];simp
 | p::P,w::vs,i+1,m,nd,h1,h2,hk=>by
  show bindC kindOf ((p,w)::P.zip vs) m x=_;unfold bindC;exact zU (i:=i) (nodup_cons.mp nd).2 (by simpa using h1) (by simpa using h2) hk
def start(N:List Str)(vs:List V):St:=vs.map some++List.replicate (N.length-vs.length) none
def iu(CX:jw)(P:Program)(w:World)(K:Frag)(mg:Str->Option Value)(base:Heap)(N:List Str)(qual:Str)(scope:Scope)(f:Addr)(cd:Value)(A:Around)(outer:List Env)(s:Shared)(H:Hp)(E:XK):Cx where
 prog:=P
 w:=w
 K:=K
 mg:=mg
 base:=base
 A:=A.deeper (envOfC qual scope s.heap.objs.size f cd)
 N:=N
 s₀:=s
 H₀:=H
 env:=envOfC qual scope s.heap.objs.size f cd
 outer:=outer
 stack:=envOfC qual scope s.heap.objs.size f cd::outer
 ex:=[]
 calm:=true
 fn:=fun _=>true
 pn:=[]
 xe:=fun e s'=>wpAny (model P w) (A.deeper (envOfC qual scope s.heap.objs.size f cd)) (leaving (envOfC qual scope s.heap.objs.size f cd) e) (fun _ s''=>CX outer H s E e s'') (fun e' s''=>CX outer H s E e' s'') s'
theorem zc{sc:Scope}{x:Str}(h:sc.names.lookup x=some .cell):∃c,(cellsFrom n sc.names []).lookup x=some c:=by have q:=cellsFrom_some sc.names n [] (.inl h);exact isSome_iff_exists.mp q
variable {qual:Str} {scope:Scope}
theorem Ia{f:Addr}{cd:Value}{s1:Shared}{E:XK}(S:aq N ps scope)(hd:A.handled=none)(e0:gP P w K mg base A outer s H)(hl:vs.length=ps.length)(r:Vals vs us)(x:InCallC s s.heap.objs.size (bindL (envOfC qual scope s.heap.objs.size f cd).kindOf (ps.zip us) fun _=>none) (cellsFrom (s.heap.objs.size+1) scope.names []) (bindC (envOfC qual scope s.heap.objs.size f cd).kindOf (ps.zip us) fun _=>none) s1) :
  Inv (iu CX P w K mg base N qual scope f cd A outer s H E) [] (start N vs) H s1:=by
 have hpl:ps.length<=N.length:=by have:=congrArg List.length S.pre;rw[length_take] at this;omega
 obtain⟨h1,tk,rfl,hk⟩:=x.done;have noA:∀b:Addr,b∉(iu CX P w K mg base N qual scope f cd A outer s H E).ex:=fun b z=>absurd (show b∈([]:List Addr) from z) (by simp);refine⟨⟨e0.mod,S.kind,rfl,rfl,le_refl _,fun y z c h1 h2=>?_,fun y hy=>?_,fun y c _ h=>?_,fun _=>hd,Around.frames_deeper e0.frames,.inr ⟨rfl,rfl⟩,fun b z=>absurd z (noA b),e0.bs,e0.bsz,fun b _ _=>noA b,fun b z=>absurd z (noA b),e0.funs,e0.frf⟩,
  rfl,e0.bare,Un.kept hk,⟨_,x.toInCall.ns,fun i y v h1 h2 h3=>?_⟩,fun y c h=>⟨_,x.cell y c h⟩,e0.hok.fresh (le_refl _),fun y c h=>?_,fun p hp=>absurd (show p∈([]:List (Addr×Obj)) from hp) (by simp),e0.hok.kept hk,?_⟩
 ·exact name_of_addr x.apart (PySem.mem_of_lookup h1) (PySem.mem_of_lookup h2)
 ·have hy:scope.names.lookup y=some .cell\/scope.names.lookup y=some .free:=hy;rcases hy with hy|hy
  ·exact zc hy
  ·exact absurd rfl (S.nofree _ (PySem.mem_of_lookup hy))
 ·exact le_of_lt (x.above y c (PySem.mem_of_lookup h))
 ·have hi:i<vs.length:=by
   unfold start at h2
   by_cases hi:i<vs.length
   ·exact hi
   ·rw[getElem?_append_right (by simpa using hi)] at h2;rw[getElem?_replicate] at h2;split at h2<;>cases h2
  have ha:vs[i]?=some v:=by
   unfold start at h2;rw[getElem?_append_left (by simpa using hi),getElem?_map] at h2;cases e:vs[i]? with
   | none=>rw[e] at h2;cases h2
   | some a=>rw[e] at h2;cases h2;rfl
  obtain⟨u,hu,rv⟩:=r.get ha;have hp:ps[i]?=some y:=by rw[<- S.pre,getElem?_take_of_lt (by omega)];exact h1
  have ndP:ps.Nodup:=by rw[<- S.pre];exact S.nd.sublist (take_sublist _ _)
  refine⟨u,rv,?_⟩;rcases S.par y (mem_of_getElem? hp) with k|k
  ·exact .inl ⟨k,zV ndP hp hu k⟩
  ·obtain⟨c,e⟩:=zc (n:=s.heap.objs.size+1) k;refine .inr ⟨.inl k,c,e,?_⟩;have q:=x.cell y c e;rw[zU ndP hp hu (by show scope.names.lookup y≠_;rw[k];decide)] at q;exact q
 ·exact e0.hok.fresh (le_of_lt (x.above y c (PySem.mem_of_lookup h)))
 ·unfold start;show _=N.length;rw[length_append,length_map,length_replicate];omega
theorem Ca{f:Addr}{params:Arguments}{dV kV doc pm cdv ct oc:Value}{an od:Option Addr}{osl:Array (Option Value)}(lk:K.lookup f=some ⟨oc,od,.func (fnOf name qual params body scope dV kV doc pm an cdv ct),osl⟩)(hcd:codeIn K cdv qual=true)(S:aq N ps scope)(len:∀vs H Q E,sp vs H Q E->vs.length=ps.length)(hbody:∀(A:Around) (outer:List Env) (s:Shared) (H:Hp) (vs:List V) (Q:VK) (E:XK),bo k (A.deeper (envOfC qual scope s.heap.objs.size f cdv))->sp vs H Q E ->
   ∃t,PSs (iu CX P w K mg base N qual scope f cdv A outer s H E) body t/\t { nx:=fun _ H'=>Q .non H',rt:=Q } (start N vs) H) :
  au P w K mg base CX (k+1) f (fnOf name qual params body scope dV kV doc pm an cdv ct) ps sp:=by
 refine⟨len,fun A outer s H args us vs Q E hr e0 hb r hsp=>?_⟩;have hl:=len _ _ _ _ hsp;have KX:K.In s.heap:=e0.mod.kin.keeps fun b o e=>(e0.bs b o e).1;have lim:s.heap.NoLimit:=e0.mod.nolimit.keeps fun b o e=>(e0.bs b o e).1;have hkind:∀y∈ps.zip us,scope.names.lookup y.1=some .local\/(scope.names.lookup y.1=some .cell/\((cellsFrom (s.heap.objs.size+1) scope.names []).lookup y.1).isSome=true):=fun⟨n,v⟩ hy=>by
  rcases S.par n (of_mem_zip hy).1 with q|q
  ·exact .inl q
  ·exact .inr ⟨q,cellsFrom_some _ _ _ (.inl q)⟩
 refine codeAny_call_function hr.depth (KX _ _ lk) rfl S.co S.gen rfl (PySem.W.codeRec_of KX hcd) (hb _ _ _ _ ?_);refine wpAny_newFunctionEnv_cells S.kind hkind fun env he s1 x=>?_;subst he;refine⟨lim.keeps x.toInCall.keep,codeAny_func ?_⟩;obtain⟨t,ht,hq⟩:=hbody A outer s H vs Q E (hr.deeper _) hsp;have I:Inv (iu CX P w K mg base N qual scope f cdv A outer s H E) [] (start N vs) H s1:=Ia S hr.hd e0 hl r x;refine wpAny_mono (ht [] s1 (start N vs) H _ I hq) (fun fl s' hs=>?_) fun e s' hs=>hs;have fin:∀{σ':St} {H':Hp} {v:V} {u:Value},Inv (iu CX P w K mg base N qual scope f cdv A outer s H E) [] σ' H' s'->RelV v u->Q v H'->CE outer P w H s Q u s' :=
  fun {σ' H' v u} J rv q=>⟨v,H',J.os,J.bare,J.base,J.hok,rv,q⟩
 cases fl with
 | ret u =>
  obtain⟨v,σ',H',J,rv,q⟩:=hs;exact fin J rv q
 | next =>
  obtain⟨σ',H',J,q⟩:=hs;exact fin (v:=V.non) (u:=Value.none) J rfl q
 | brk =>
  obtain⟨_,_,_,q⟩:=hs;exact False.elim q
 | cont =>
  obtain⟨_,_,_,q⟩:=hs;exact False.elim q
section
variable {x:Str} {t:TA} {id T:String} {r:List V->Hp->VK->Prop}
def Bq(r:List V->Hp->VK->Prop)(t:TA):TE:=fun σ H Q=>t σ H fun vs H1=>r vs H1 Q
theorem Hu(hc:aT X (.builtin id) r)(hg:Gl X x)(hm:X.mg x=none)(hv:bootBuiltins x=some (.builtin id))(ha:PA X (e::es) t)(hn:x ≠ "__name__" := by decide)(hdb:(x==("__debug__" : Str))=false:=by decide)(he:starEach (e::es) X.env=(false,eval e X.env)::starEach es X.env:=by rfl)(hpl:(backTo pos (starEach es X.env)).any (·.1)=false:=by rfl):PE X (.Call (.Name x p) (e::es) [] pos) (Bq r t):=by intro pins s σ H Q I h;refine wpAny_Call_Name_kw (og I hg hm hv ?_ hn hdb);exact PyProof.Rows.callWith_builtin1 (aW (ha pos pins s σ H _ I h) fun us s1 ⟨vs,H1,I1,r1,q1⟩=>hc pins s1 σ H1 vs us Q I1 r1 q1) he hpl
theorem zT(hc:aT X (.type T) r)(hg:Gl X x)(hm:X.mg x=none)(hv:bootBuiltins x=some (.type T))(ha:PA X (e::es) t)(hn:x ≠ "__name__" := by decide)(hdb:(x==("__debug__" : Str))=false:=by decide)(he:starEach (e::es) X.env=(false,eval e X.env)::starEach es X.env:=by rfl)(hpl:(backTo pos (starEach es X.env)).any (·.1)=false:=by rfl):PE X (.Call (.Name x p) (e::es) [] pos) (Bq r t):=by intro pins s σ H Q I h;refine wpAny_Call_Name_kw (og I hg hm hv ?_ hn hdb);exact PyProof.Rows.callWith_type1 (aW (ha pos pins s σ H _ I h) fun us s1 ⟨vs,H1,I1,r1,q1⟩=>hc pins s1 σ H1 vs us Q I1 r1 q1) he hpl
end
end L2
namespace HT
open PySem PyProof.Rows
section
open PySem.SeqAt
open PySem.AutoSeq1 (wpAny_loadPart')
open PySem.MeetsSeq PySem.MeetsSeq2 PySem.MeetsSeq3
end
variable {Q:Value->Shared->Prop} {sl:Addr} {vl vu:Value} {lo hi:Option Int}
section
variable {prog:Program} {w:World} {A:Around} {E:Value->Shared->Prop} {s:Shared}
theorem cat_tup{t b:Addr}{vs ws:List Value}(ht:IsTup s.heap t vs.toArray)(hb:IsTup s.heap b ws.toArray)(hv:vs≠[])(h1:ws=[]->Q (.ref t) s)(h2:ws≠[]->Q (.ref s.heap.objs.size) { s with heap:=s.heap.push { cls:=.type "tuple",data:=.seq (vs++ws).toArray } })(hsz:vs.length+ws.length<=sizeLine):wpAny (model prog w) A (binaryOp .Add (.ref t) (.ref b)) Q E s:=by
 obtain⟨⟨cls,dd,data,sl⟩,ho,hc,n,hd⟩:=id ht;obtain⟨⟨cls2,dd2,data2,sl2⟩,ho2,hc2,n2,hd2⟩:=id hb;simp only at hc hd hc2 hd2;subst hc hd hc2 hd2;have e:vs.toArray++ws.toArray=(vs++ws).toArray:=by simp
 by_cases hw:ws=[]
 ·exact concat_meets ⟨_,ho,rfl⟩ ⟨_,ho2,rfl⟩ noFill_tuple_add seq_tuple_add slot_tuple_add entry_tuple_add (args_tuple_add_2 _ _)
   (tuple_addW1 t b vs.toArray ws.toArray n n2 dd dd2 sl sl2 (by simpa using hv) (by simp[hw])) ⟨ho,ho2,h1 hw⟩
 ·refine concat_meets ⟨_,ho,rfl⟩ ⟨_,ho2,rfl⟩ noFill_tuple_add seq_tuple_add slot_tuple_add entry_tuple_add (args_tuple_add_2 _ _)
   (tuple_addW2 t b vs.toArray ws.toArray n n2 dd dd2 sl sl2 (by simpa using hv) (by simpa using hw) (by rw[size_toArray,size_toArray];exact hsz)) ⟨ho,ho2,?_⟩
  rw[e];exact h2 hw
def sIx(n d:Nat):Option Int->Nat
 | none=>d
 | some v=>if v<0 then (v+(n:Int)).toNat else min v.toNat n
theorem En(n d:Nat)(hd:d<=n)(o:Option Int):sIx n d o<=n:=by
 cases o with
 | none=>exact hd
 | some v =>
  show(if v<0 then (v+(n:Int)).toNat else min v.toNat n)<=n
  by_cases hv:v<0
  ·rw[if_pos hv];omega
  ·rw[if_neg hv];exact min_le_right _ _
theorem yy(v:Int)(n d:Nat):(if v<0 then max (v+(n:Int)) 0 else min v (n:Int))=((sIx n d (some v):Nat):Int):=by
 show(if v<0 then max (v+(n:Int)) 0 else min v (n:Int))=(((if v<0 then (v+(n:Int)).toNat else min v.toNat n):Nat):Int)
 by_cases hv:v<0
 ·simp only[if_pos hv];omega
 ·simp only[if_neg hv];omega
theorem Iy(lo hi:Option Int)(n:Nat):Builtin.Slice.sliceAdjust lo hi 1 (n:Int)=(((sIx n 0 lo:Nat):Int),((sIx n n hi:Nat):Int)):=by
 have h1:¬((1:Int)<0):=by omega
 unfold Builtin.Slice.sliceAdjust;simp only[h1,if_false];refine Prod.ext ?_ ?_
 ·cases lo with
  | none=>rfl
  | some v=>exact yy v n 0
 ·cases hi with
  | none=>rfl
  | some v=>exact yy v n n
theorem Iv(i j:Nat):Builtin.Slice.slicePlaces (i:Int) (j:Int) 1=j-i:=by
 unfold Builtin.Slice.slicePlaces;have h1:(1:Int)>0:=by omega
 simp only[h1,if_true,ediv_one];split<;>omega
theorem AF{v:Value}{o:Option Int}{Q:Option Int->Shared->Prop}(p:IsPart v o)(h:Q o s):wpAny (model prog w) A (Builtin.Slice.slicePartIndex v) Q E s:=by
 cases p with
 | none=>exact slicePart_none h
 | int i t=>exact slicePart_int h
theorem J6{n:Nat}{Q:Int×Int×Nat->Shared->Prop}(hs:s.heap.IsSliceOf sl vl vu .none)(pl:IsPart vl lo)(pu:IsPart vu hi)(h:Q (((sIx n 0 lo:Nat):Int),1,sIx n n hi-sIx n 0 lo) s):wpAny (model prog w) A (Builtin.Slice.sliceApplied (.ref sl) (pure (n:Int))) Q E s:=by obtain⟨os,hos,hcs,hds⟩:=id hs;unfold Builtin.Slice.sliceApplied Builtin.Slice.sliceFields;refine wpAny_bind (wpAny_bind (wpAny_field hos hds (x:=vl) rfl (wpAny_bind (wpAny_field hos hds (x:=vu) rfl (wpAny_bind (wpAny_field hos hds (x:=.none) rfl (wpAny_pure ?_)))))));refine wpAny_bind (slicePart_none ?_);show wpAny _ _ (if ((1:Int)==0)=true then _ else _) _ _ s;rw[if_neg (by decide)];refine wpAny_bind (AF pl (wpAny_bind (AF pu (wpAny_bind (wpAny_pure ?_)))));show wpAny _ _ (match Builtin.Slice.sliceAdjust lo hi 1 (n:Int) with|(lo,hi)=>pure (lo,(1:Int),Builtin.Slice.slicePlaces lo hi 1)) _ _ s;rw[Iy lo hi n];show wpAny _ _ (pure (((sIx n 0 lo:Nat):Int),(1:Int),Builtin.Slice.slicePlaces ((sIx n 0 lo:Nat):Int) ((sIx n n hi:Nat):Int) 1)) _ _ s;rw[Iv];exact wpAny_pure h
theorem Ht(xs:Array Value)(i k:Nat):((List.range k).filterMap fun(m:Nat)=>xs[((i:Int)+(m:Int)*1).toNat]?).toArray=((xs.toList.drop i).take k).toArray:=by
 have e:(fun(m:Nat)=>xs[((i:Int)+(m:Int)*1).toNat]?)=fun m=>xs[i+m]?:=by
  funext m;have:((i:Int)+(m:Int)*1).toNat=i+m:=by omega
  rw[this]
 rw[e];have:=pick_run xs i k;rw[filterMap_map] at this;have e2:((fun x=>xs[x]?)∘fun x=>i+x)=fun m=>xs[i+m]?:=rfl;rw[e2] at this;rw[this]
theorem getItem_tuple_cut{t:Addr}{items:Array Value}(ht:IsTup s.heap t items)(hs:s.heap.IsSliceOf sl vl vu .none)(pl:IsPart vl lo)(pu:IsPart vu hi)(hw:¬(sIx items.size 0 lo=0/\sIx items.size items.size hi=items.size))(h:Q (.ref s.heap.objs.size) { s with heap:=s.heap.push { cls:=.type "tuple",data:=.seq ((items.toList.drop (sIx items.size 0 lo)).take (sIx items.size items.size hi-sIx items.size 0 lo)).toArray } })(hsz:items.size<=sizeLine):wpAny (model prog w) A (getItem (.ref t) (.ref sl)) Q E s:=by
 have htake:sizeOk (.seq ((items.toList.drop (sIx items.size 0 lo)).take (sIx items.size items.size hi-sIx items.size 0 lo)).toArray):=by show((items.toList.drop (sIx items.size 0 lo)).take (sIx items.size items.size hi-sIx items.size 0 lo)).toArray.size<=sizeLine;rw[size_toArray,length_take,length_drop,length_toList];omega
 have hj:sIx items.size items.size hi<=items.size:=En _ _ (le_refl _) hi;obtain⟨os,hos,hcs,hds⟩:=id hs;have hTs:s.TypeIs (.ref sl) "slice" := ⟨os,hos,hcs⟩
 unfold getItem
 try with_reducible refine wpAny_holding ?_
 first|refine wpAny_bind (wpAny_pure ?_)|skip
 refine wpAny_bind (wpAny_sequenceKey ht.typeIs (by decide) ?_);refine wpAny_bind (wpAny_callSpecial?_slot (name:=Str.ofString "__getitem__") ht.typeIs PyProof.Rows.slot_tuple_getitem
  (wpAny_call_entry PyProof.Rows.slot_tuple_getitem ht.typeIs entry_tuple_getitem ?_ (args_tuple_getitem _ _)))
 show wpAny _ _ (Builtin.Tuple.tupleItemsOf (.ref t) >>= _) _ _ s;refine wpAny_bind (tupleItemsOf_ ht ?_);refine wpAny_bind (wpAny_typeOf hTs ?_);rw[if_pos (by decide)];refine wpAny_bind (J6 hs pl pu ?_);have hno:¬((((sIx items.size 0 lo:Nat):Int)==0&&(1:Int)==1&&(sIx items.size items.size hi-sIx items.size 0 lo)==items.size)=true):=by intro q;rw[and_eq_true,and_eq_true] at q;have q1:((sIx items.size 0 lo:Nat):Int)=0:=eq_of_beq q.1.1;have q2:sIx items.size items.size hi-sIx items.size 0 lo=items.size:=eq_of_beq q.2;exact hw ⟨by omega,by omega⟩
 show wpAny _ _ (if (((sIx items.size 0 lo:Nat):Int)==0&&(1:Int)==1&&(sIx items.size items.size hi-sIx items.size 0 lo)==items.size)=true then _ else _) _ _ s;rw[if_neg hno,Ht]
 first
  | exact wpAny_bind (m:=Builtin.Tuple.tupleExact _) (wpAny_newObj_type (wpAny_pure ⟨_,rfl,wpAny_pure h⟩) htake)
  | exact wpAny_bind (m:=Builtin.Tuple.tupleExact _) (wpAny_newObj_type (wpAny_bind (wpAny_pure (wpAny_pure ⟨_,rfl,wpAny_pure h⟩))) htake)
  | exact wpAny_bind (wpAny_bind (m:=Builtin.Tuple.tupleExact _) (wpAny_newObj_type (wpAny_pure (wpAny_pure ⟨_,rfl,wpAny_pure h⟩)) htake))
  | exact wpAny_bind (wpAny_bind (m:=Builtin.Tuple.tupleExact _) (wpAny_newObj_type (wpAny_pure ⟨_,rfl,wpAny_pure h⟩) htake))
end
end HT
namespace L2
open PySem PySem.Spec PyProof.Rows
abbrev TO:=St->Hp->(Option Int->Hp->Prop)->Prop
def PO(X:Cx)(e:Option Expr)(t:TO):Prop :=
 ∀(pins:List (Addr×Obj)) (s:Shared) (σ:St) (H:Hp) (Q:Option Int->Hp->Prop),Inv X pins σ H s->t σ H Q ->
  wpAny (model X.prog X.w) X.A (evalPart e X.env) (fun u s'=>∃o H',Inv X pins σ H' s'/\IsPart u o/\Q o H') X.xe s
def FE:TO:=fun _ H Q=>Q none H
def B_(t:TE):TO:=fun σ H Q=>t σ H fun x H1=>∃i,x=.int i/\Q (some i) H1
theorem Iu{ns:List Int}:∀{us:List Value},Vals (ns.map V.int) us->IntsAre us ns:=by
 induction ns with
 | nil=>intro us r;rw[map_nil] at r;cases r;exact .nil
 | cons n ns ih =>
  intro us r;rw[map_cons] at r;cases r with
  | cons r1 r2 =>
   obtain⟨t,e⟩:=r1;subst e;exact .cons n t (ih r2)
variable {X:Cx} {e:Expr} {pos:Pos} {xs:List V} {us:List Value}
section
variable {te:TE} {lo hi:Option Expr} {tl th:TO} {p2:Pos}
theorem FD:PO X none FE:=by intro pins s σ H Q I h;rw[evalPart_none];exact wpAny_pure ⟨none,H,I,.none,h⟩
theorem FC(h:PE X e te):PO X (some e) (B_ te):=by intro pins s σ H Q I hw;rw[evalPart_some];refine aW (h pins s σ H _ I hw) fun u s1 ⟨x,H1,I1,r1,q1⟩=>?_;obtain⟨i,rfl,q⟩:=q1;obtain⟨t,rfl⟩:=r1;exact⟨some i,H1,I1,.int i t,q⟩
def u1(X:Cx)(r:V->Option Int->Option Int->Hp->VK->Prop):Prop :=
 ∀(pins:List (Addr×Obj)) (s:Shared) (σ:St) (H:Hp) (x:V) (v vl vu:Value) (lo hi:Option Int) (sl:Addr) (Q:VK),Inv X pins σ H s->RelV x v->s.heap.IsSliceOf sl vl vu .none->IsPart vl lo->IsPart vu hi->r x lo hi H Q ->
  ∃T id,typeLookup (.type T) "__getitem__" = pure (some (.builtin id))/\s.TypeIs v T/\wpAny (model X.prog X.w) X.A (getItem v (.ref sl)) (EP X pins σ Q) X.xe s
def Kd(r:V->Option Int->Option Int->Hp->VK->Prop)(te:TE)(tl th:TO):TE:=fun σ H Q=>te σ H fun x H1=>tl σ H1 fun l H2=>th σ H2 fun u H3=>r x l u H3 Q
theorem Hs{r:V->Option Int->Option Int->Hp->VK->Prop}(hr:u1 X r)(he:PE X e te)(hl:PO X lo tl)(hu:PO X hi th):PE X (.Subscript e (.Slice lo hi none p2) pos) (Kd r te tl th):=by intro pins s σ H Q I h;refine Subscript_ (aW (he pins s σ H _ I h) fun v s1 ⟨x,H1,I1,r1,q1⟩=>?_);refine wpAny_Slice (aW (hl pins s1 σ H1 _ I1 q1) fun vl s2 ⟨l,H2,I2,pl,q2⟩=>aW (hu pins s2 σ H2 _ I2 q2) fun vu s3 ⟨u,H3,I3,pu,q3⟩=>?_);rw[evalPart_none];refine wpAny_pure ?_;have I4:Inv X pins σ H3 { s3 with heap:=s3.heap.push { cls:=.type "slice",data:=.fields #[vl,vu,.none] } }:=I3.kept (t':=s3.toks) fun b ob q=>Heap.get?_push_of_some _ q;obtain⟨T,id,hT,ht,hg⟩:=hr pins { s3 with heap:=s3.heap.push { cls:=.type "slice",data:=.fields #[vl,vu,.none] } } σ H3 x v vl vu l u s3.heap.objs.size Q I4 r1 (Heap.IsSliceOf.new ..) pl pu q3;show wpAny (model X.prog X.w) X.A (subscriptTail e (.Slice lo hi none p2) v (.ref s3.heap.objs.size)) (EP X pins σ Q) X.xe { s3 with heap:=s3.heap.push { cls:=.type "slice",data:=.fields #[vl,vu,.none] } };exact tail_any (ops:=[.ref s3.heap.objs.size,v]) ht hT hg (by with_unfolding_all rfl)
def lE(xs:List V)(lo hi:Option Int):List V:=(xs.drop (HT.sIx xs.length 0 lo)).take (HT.sIx xs.length xs.length hi-HT.sIx xs.length 0 lo)
theorem Jf(xs:List V)(lo hi:Option Int):(lE xs lo hi).length<=xs.length:=by unfold lE;rw[length_take,length_drop];omega
def vb(K:Frag):V->Option Int->Option Int->Hp->VK->Prop:=fun x lo hi H Q=>∃a xs,x=.ref a/\dX K H a xs /\
 ¬(HT.sIx xs.length 0 lo=0/\HT.sIx xs.length xs.length hi=xs.length)/\∀p,H p=none->Q (.ref p) (upd H p (.tup (lE xs lo hi)))
theorem Em:u1 X (vb X.K):=by
 intro pins s σ H x v vl vu lo hi sl Q I rx hs pl pu h;obtain⟨a,xs,rfl,hx,hw,q⟩:=h;cases rx;obtain⟨its,r,ht,hz⟩:=I.tuple hx;have hlen:its.toArray.size=xs.length:=by rw[size_toArray];exact r.length.symm
 refine⟨"tuple",_,PyProof.Rows.slot_tuple_getitem.lookup,ht.typeIs,?_⟩;refine HT.getItem_tuple_cut ht hs pl pu (by rw[hlen];exact hw) ?_ (by rw[hlen];exact hz);rw[hlen];refine⟨.ref s.heap.objs.size,_,I.laid (t':=s.toks) (o:=.tup (lE xs lo hi)) (fun b ob q=>Heap.get?_push_of_some _ q) (le_refl _) ?_,rfl,q _ (I.hok.fresh (le_refl _))⟩;exact⟨le_trans (Jf xs lo hi) hz,_,(r.drop (HT.sIx xs.length 0 lo)).take (HT.sIx xs.length xs.length hi-HT.sIx xs.length 0 lo),fI.new _ _⟩
def B9(K:Frag):R2:=fun x y H Q=>∃a b xs ys,x=.ref a/\y=.ref b/\dX K H a xs/\dX K H b ys/\xs≠[]/\xs.length+ys.length<=sizeLine /\
 (ys=[]->Q (.ref a) H)/\(ys≠[]->∀p,H p=none->Q (.ref p) (upd H p (.tup (xs++ys))))
theorem Vals.nil_iff(r:Vals xs us):us=[]↔xs=[]:=by
 cases r with
 | nil=>simp
 | cons _ _=>simp
theorem Gk:dN X (binaryOp .Add) (B9 X.K):=by intro pins s σ H x y v u Q I rx ry h;obtain⟨a,b,xs,ys,rfl,rfl,ha,hb,hx,hz,q1,q2⟩:=h;cases rx;cases ry;obtain⟨its,r1,p1,_⟩:=I.tuple ha;obtain⟨its2,r2,p2,_⟩:=I.tuple hb;refine HT.cat_tup p1 p2 (fun z=>hx (r1.nil_iff.mp z)) (fun z=>⟨.ref a,H,I,rfl,q1 (r2.nil_iff.mp z)⟩) (fun z=>?_) (by rw[<- r1.length,<- r2.length];exact hz);refine⟨.ref s.heap.objs.size,_,I.laid (t':=s.toks) (o:=.tup (xs++ys)) (fun b ob q=>Heap.get?_push_of_some _ q) (le_refl _) ?_,rfl,q2 (fun w=>z (r2.nil_iff.mpr w)) _ (I.hok.fresh (le_refl _))⟩;exact⟨by rw[length_append];exact hz,_,r1.append r2,fI.new _ _⟩
end
def ixN(n:Nat)(i:Int):Option Nat:=if 0<=i then (if i<n then some i.toNat else none) else if -(n:Int)<=i then some (i+n).toNat else none
def atI{α:Type}(xs:List α)(i:Int):Option α:=(ixN xs.length i).bind fun j=>xs[j]?
variable {n:Nat} {i:Int}
theorem yx{j:Nat}(h:ixN n i=some j):seqIndex? i n=some j/\j<n/\-(n:Int)<=i/\i<n:=by
 unfold ixN at h
 by_cases h0:0<=i
 ·rw[if_pos h0] at h
  by_cases h1:i<n
  ·rw[if_pos h1] at h;have e:i.toNat=j:=Option.some.inj h;exact⟨by rw[seqIndex_of h0 h1,e],by omega,by omega,h1⟩
  ·rw[if_neg h1] at h;cases h
 ·rw[if_neg h0] at h
  by_cases h1:-(n:Int)<=i
  ·rw[if_pos h1] at h;have e:(i+n).toNat=j:=Option.some.inj h;exact⟨by rw[seqIndex_neg (by omega) h1,e],by omega,h1,by omega⟩
  ·rw[if_neg h1] at h;cases h
theorem yw{α:Type}{xs:List α}{v:α}(h:atI xs i=some v):∃j,seqIndex? i xs.length=some j/\xs[j]?=some v/\j<xs.length/\-(xs.length:Int)<=i/\i<xs.length:=by
 unfold atI at h;cases e:ixN xs.length i with
 | none=>rw[e] at h;cases h
 | some j =>
  rw[e] at h;obtain⟨h1,h2,h3,h4⟩:=yx e;exact⟨j,h1,h,h2,h3,h4⟩
def yt(b:Expr):Prop:=∀o i,subscripted b false o i=operate [o,i] (getItem o i)
def jU(X:Cx)(r:R2):Prop :=
 ∀(value slice:Expr) (pins:List (Addr×Obj)) (s:Shared) (σ:St) (H:Hp) (x y:V) (v u:Value) (Q:VK),Inv X pins σ H s->RelV x v->RelV y u->r x y H Q ->
  subscripted slice false v u=operate [v,u] (getItem v u)->wpAny (model X.prog X.w) X.A (subscriptTail value slice v u) (EP X pins σ Q) X.xe s
def o2(X:Cx)(id:String)(r:V->List V->Hp->VK->Prop):Prop :=
 ∀(pins:List (Addr×Obj)) (s:Shared) (σ:St) (H:Hp) (x:V) (xs:List V) (v:Value) (us:List Value) (Q:VK),Inv X pins σ H s->RelV x v->Vals xs us->r x xs H Q ->
  wpAny (model X.prog X.w) X.A (call (.builtin id) (v::us)) (EP X pins σ Q) X.xe s
variable {pins:List (Addr×Obj)} {H:Hp} {s:Shared} {its its':List Value} {T:String}
section
variable {a b:Expr} {ta tb:TE}
theorem jU.or{r r':R2}(h:jU X r)(h':jU X r'):jU X (fun x y H Q=>r x y H Q\/r' x y H Q):=by
 intro value slice pins s σ H x y v u Q I rx ry q hs;rcases q with q|q
 ·exact h value slice pins s σ H x y v u Q I rx ry q hs
 ·exact h' value slice pins s σ H x y v u Q I rx ry q hs
theorem B8{r:R2}(hr:jU X r)(ha:PE X a ta)(hb:PE X b tb)(hs:yt b):PE X (.Subscript a b pos) (l_ r ta tb):=by intro pins s σ H Q I h;exact Subscript_ (rf ha hb I h fun v u s2 x y H2 I2 rx ry q=>hr a b pins s2 σ H2 x y v u Q I2 rx ry q (hs _ _))
def q9(K:Frag):R2:=fun x y H Q=>∃p xs i v,x=.ref p/\y=.int i/\cO K H p xs/\atI xs i=some v/\Q v H
def q5(K:Frag):R2:=fun x y H Q=>∃p xs i v,x=.ref p/\y=.int i/\dX K H p xs/\atI xs i=some v/\Q v H
theorem Gj:jU X (q9 X.K):=by
 intro value slice pins s σ H x y v u Q I rx ry h hs;obtain⟨p,xs,i,z,rfl,rfl,hq,he,q⟩:=h;cases rx;obtain⟨t,rfl⟩:=ry;obtain⟨its,r,pl,hz⟩:=I.list hq;obtain⟨j,h1,h2,h3,h4,h5⟩:=yw he;obtain⟨w,ew,rw'⟩:=r.get h2;have hl:=r.length;have hn:=oa;have fin:EP X pins σ Q w s:=⟨z,H,I,rw',q⟩
 by_cases h0:0<=i
 ·have hj:i.toNat=j:=by rw[seqIndex_of h0 h5] at h1;exact Option.some.inj h1
  exact item_listR pl.isList h0 (by omega) (by rw[hj];simpa using ew) fin hs
 ·have hj:(i+(its.toArray.size:Int)).toNat=j:=by rw[seqIndex_neg (by omega) h4] at h1;rw[size_toArray,<- hl];exact Option.some.inj h1
  exact subscriptTail_builtinR (x:=w) pl.isList.typeIs slot_list_getitem.lookup
   (wpAny_getItem_list_neg (Q:=fun r s'=>r=w/\EP X pins σ Q r s') pl.isList (by omega) (by rw[size_toArray]<;>omega) (by omega) (by rw[hj];simpa using ew) ⟨rfl,fin⟩) hs
theorem El:jU X (q5 X.K):=by
 intro value slice pins s σ H x y v u Q I rx ry h hs;obtain⟨p,xs,i,z,rfl,rfl,hq,he,q⟩:=h;cases rx;obtain⟨t,rfl⟩:=ry;obtain⟨its,r,pl,hz⟩:=I.tuple hq;obtain⟨j,h1,h2,h3,h4,h5⟩:=yw he;obtain⟨w,ew,rw'⟩:=r.get h2;have hl:=r.length;have hn:=oa;have fin:EP X pins σ Q w s:=⟨z,H,I,rw',q⟩
 exact subscriptTail_builtinR (x:=w) pl.typeIs slot_tuple_getitem.lookup
  (getItem_tuple (j:=j) (Q:=fun r s'=>r=w/\EP X pins σ Q r s') pl (by omega) (by omega) (by rw[size_toArray,<- hl];exact h1) (by simpa using ew) ⟨rfl,fin⟩) hs
theorem Ir(its:List Value)(n j:Nat)(u:Value):Obj.mapSeq (·.setIfInBounds j u) { cls:=.type "list",data:=.seq its.toArray n }={ cls:=.type "list",data:=.seq (its.set j u).toArray n }:=by simp[Obj.mapSeq]
theorem Inv.lst{pins:List (Addr×Obj)}{σ:St}{H:Hp}{s:Shared}{p:Addr}{xs:List V}(I:Inv X pins σ H s)(h:H p=some (.lst xs)) :
  ∃(its:List Value) (n:Nat),Vals xs its/\s.heap.get? p=some { cls:=.type "list",data:=.seq its.toArray n }/\xs.length<=sizeLine:=by
 obtain⟨z,its,n,r,e⟩:=I.hok p _ h;exact⟨its,n,r,e,z⟩
theorem Inv.lstUpd{σ:St}{p:Addr}{ys:List V}{n':Nat}{f:Obj->Obj}(I:Inv X pins σ H s)(h:H p=some (.lst xs))(ho:s.heap.get? p=some { cls:=.type "list",data:=.seq its.toArray n })(hf:f { cls:=.type "list",data:=.seq its.toArray n }={ cls:=.type "list",data:=.seq its'.toArray n' })(r:Vals ys its')(hz:ys.length<=sizeLine)(t:Nat) :
  Inv X pins σ (upd H p (.lst ys)) { s with heap:=s.heap.update p f,toks:=t }:=by
 have e:(s.heap.update p f).get? p=some { cls:=.type "list",data:=.seq its'.toArray n' }:=by rw[Heap.get?_update_self f ho (by rw[hf]<;>rfl),hf]
 refine I.write (x:=p) (e:=p) (by rw[h];trivial) (.inl rfl) (fun b u hb q=>(Heap.get?_update_other _ _ (Ne.symm hb)).trans q) ⟨_,e⟩ ?_;exact⟨hz,its',n',r,e⟩
def B7:V->V->V->Hp->(Hp->Prop)->Prop:=fun o i v H Q=>∃p xs k j,o=.ref p/\i=.int k/\H p=some (.lst xs)/\ixN xs.length k=some j/\Q (upd H p (.lst (xs.set j v)))
theorem Hr:vf X B7:=by
 intro pins s σ H o i v ov iv u Q I ro ri rv h;obtain⟨p,xs,k,j,rfl,rfl,hp,hj,q⟩:=h;cases ro;obtain⟨t,rfl⟩:=ri;obtain⟨its,n,r,ho,hz⟩:=I.lst hp;obtain⟨h1,h2,h3,h4⟩:=yx hj;have hl:=r.length;have hn:=oa;have I':Inv X pins σ (upd H p (.lst (xs.set j v))) { s with heap:=s.heap.update p (Obj.mapSeq (·.setIfInBounds j u)) } :=
  I.lstUpd hp ho (Ir its n j u) (r.set rv j) (by rw[length_set];exact hz) s.toks
 by_cases h0:0<=k
 ·have hk:k.toNat=j:=by rw[seqIndex_of h0 h4] at h1;exact Option.some.inj h1
  exact PySem.W.ki_setAt ho h0 (by omega) (by rw[size_toArray,<- hl];exact h4) (by rw[hk];exact⟨_,I',q⟩)
 ·have hk:(k+(its.toArray.size:Int)).toNat=j:=by rw[seqIndex_neg (by omega) h3] at h1;rw[size_toArray,<- hl];exact Option.some.inj h1
  exact PySem.W.ki_setBack ho (by omega) (by rw[size_toArray,<- hl];exact h3) (by omega) (by rw[hk];exact⟨_,I',q⟩)
def KU(K:Frag):V->Option Int->Option Int->Hp->VK->Prop:=fun x lo hi H Q=>∃a xs,x=.ref a/\cO K H a xs/\∀p,H p=none->Q (.ref p) (upd H p (.lst (lE xs lo hi)))
theorem Js:aT X (.type "list") (fun xs H Q=>∃p ys,xs=[.ref p]/\(cO X.K H p ys\/dX X.K H p ys)/\∀l,H l=none->Q (.ref l) (upd H l (.lst ys))):=by
 intro pins s σ H xs us Q I r h;obtain⟨p,ys,rfl,hq,q⟩:=h;obtain⟨u,rfl,rx⟩:=iE r;cases rx;have fin:∀(its:List Value),Vals ys its->ys.length<=sizeLine->∀(h':Heap) (c':Nat),(∀b o',s.heap.get? b=some o'->h'.get? b=some o') ->
   h'.get? s.heap.objs.size=some { cls:=.type "list",dict:=none,data:=.seq its.toArray c',slots:=#[] }->EP X pins σ Q (.ref s.heap.objs.size) { s with heap:=h' }:=fun its r' hz h' c' kp e =>
  ⟨.ref s.heap.objs.size,_,I.laid (t':=s.toks) kp (le_refl _) (show aQ X.prog X.w _ h' _ (.lst ys) from⟨hz,its,c',r',e⟩),rfl,q _ (I.hok.fresh (le_refl _))⟩
 rcases hq with hq|hq
 ·obtain⟨its,r',pl,hz⟩:=I.list hq;have hlen:=r'.length;obtain⟨o,ho,hc,n,hd⟩:=pl.isList;exact call_list_seq p (.inl rfl) ho hc hd (fun h' c' kp e=>fin its r' hz h' c' kp e) (by simp only[size_toArray]<;>omega)
 ·obtain⟨its,r',pl,hz⟩:=I.tuple hq;have hlen:=r'.length;obtain⟨o,ho,hc,n,hd⟩:=pl;exact call_list_seq p (.inr rfl) ho hc hd (fun h' c' kp e=>fin its r' hz h' c' kp e) (by simp only[size_toArray]<;>omega)
theorem Jz:aT X (.type "tuple") (fun xs H Q=>∃p ys,xs=[.ref p]/\((cO X.K H p ys/\∀l,H l=none->Q (.ref l) (upd H l (.tup ys)))\/(dX X.K H p ys/\Q (.ref p) H))):=by
 intro pins s σ H xs us Q I r h;obtain⟨p,ys,rfl,h⟩:=h;obtain⟨u,rfl,rx⟩:=iE r;cases rx;rcases h with ⟨hq,q⟩|⟨hq,q⟩
 ·obtain⟨its,r',pl,hz⟩:=I.list hq;have hlen:=r'.length;refine call_tuple_list pl.isList (fun h' kp=>?_) (by simp only[size_toArray]<;>omega);have I1:Inv X pins σ H { s with heap:=h' }:=I.kept (t':=s.toks) kp;have I2:Inv X pins σ (upd H h'.objs.size (.tup ys)) { s with heap:=h'.push { cls:=.type "tuple",data:=.seq its.toArray } } :=
   I1.laid (t':=s.toks) (fun b o e=>Heap.get?_push_of_some _ e) (le_refl _) (show aQ X.prog X.w _ _ _ (.tup ys) from⟨hz,its,r',fI.new _ _⟩)
  exact⟨.ref h'.objs.size,_,I2,rfl,q _ (I1.hok.fresh (le_refl _))⟩
 ·obtain⟨its,r',pl,hz⟩:=I.tuple hq;exact call_tuple_same pl ⟨.ref p,H,I,rfl,q⟩
def uU(K:Frag)(T:String)(x:V)(H:Hp):Prop:=match x with
 | .str _=>T = "str"
 | .int _=>T = "int"
 | .ref p=>(T = "list" /\ ∃xs,cO K H p xs)\/(T = "tuple" /\ ∃o,K.lookup p=some o/\o.cls=.type "tuple" /\ o.dict=none) \/
   (T = "dict" /\ ((∃kvs,H p=some (.dK kvs))\/∃kvs,H p=some (.dT kvs)))\/(T = "set" /\ ∃S n,H p=some (.set S n))
 | _=>False
theorem xm{σ:St}{x:V}{v:Value}(I:Inv X pins σ H s)(r:RelV x v)(ty:uU X.K T x H) :
  s.TypeIs v T/\∀a,v=.ref a->∃ob,s.heap.get? a=some ob/\ob.dict=none:=by
 cases x with
 | str z =>
  obtain⟨t,rfl⟩:=r;cases (show T = "str" from ty);exact⟨typeIs_str s z t,fun _ e=>nomatch e⟩
 | int i =>
  obtain⟨t,rfl⟩:=r;cases (show T = "int" from ty);exact⟨typeIs_int s i t,fun _ e=>nomatch e⟩
 | ref p =>
  cases r;rcases ty with ⟨rfl,xs,hq⟩|⟨rfl,o,hk,hc,hd⟩|⟨rfl,hk⟩|⟨rfl,S,n,hk⟩
  ·obtain⟨its,_,pl,_⟩:=I.list hq;refine⟨pl.isList.typeIs,fun a e=>?_⟩;cases e;obtain⟨o,n,e,c,hd,_⟩:=pl;exact⟨o,e,hd⟩
  ·refine⟨⟨o,I.kIn p o hk,hc⟩,fun a e=>?_⟩;cases e;exact⟨o,I.kIn _ o hk,hd⟩
  ·have z:∃o,s.heap.get? p=some o/\o.ExactDict:=by
    rcases hk with ⟨kvs,hk⟩|⟨kvs,hk⟩
    ·obtain⟨_,_,_,_,o,_,_,e,ex,_⟩:=I.hok p _ hk;exact⟨o,e,ex⟩
    ·obtain⟨_,_,_,_,o,_,_,e,ex,_⟩:=I.hok p _ hk;exact⟨o,e,ex⟩
   obtain⟨o,e,ex⟩:=z;refine⟨⟨o,e,ex.1⟩,fun a e2=>?_⟩;cases e2;exact⟨o,e,ex.2.1⟩
  ·obtain⟨o,_,_,_,e,ex,_⟩:=I.hok p _ hk;refine⟨⟨o,e,ex.1⟩,fun a e2=>?_⟩;cases e2;exact⟨o,e,ex.2.1⟩
 | _=>exact False.elim ty
def BE(K:Frag)(T:String)(r:V->List V->Hp->VK->Prop)(to:TE):TE:=fun σ H Q=>to σ H fun x H1=>uU K T x H1/\r x [] H1 Q
def Kf(K:Frag)(T:String)(r:V->List V->Hp->VK->Prop)(to:TE)(t:TA):TE:=fun σ H Q=>to σ H fun x H1=>uU K T x H1/\t σ H1 fun xs H2=>r x xs H2 Q
variable {o:Expr} {es:List Expr} {to:TE} {t:TA} {name:Str} {apos cpos:Pos} {id:String} {r:V->List V->Hp->VK->Prop}
theorem EN(pa:PlainAttrs T)(slot:Slot T name id)(hty:typeOf (.builtin id)=pure (.type "method_descriptor"))(hm:o2 X id r)(ho:PE X o to)(hbase:attributeBase o name X.env (eval o X.env)=eval o X.env:=by rfl)(hline:(apos.endLine==cpos.line)=true:=by rfl):PE X (.Call (.Attribute o name apos) [] [] cpos) (BE X.K T r to):=by intro pins s σ H Q I h;refine wpAny_Call_method0_late hbase hline (aW (ho pins s σ H _ I h) fun v s1 ⟨x,H1,I1,r1,ty,q1⟩=>?_);obtain⟨h1,h2⟩:=xm I1 r1 ty;exact⟨T,id,pa,slot,hty,h1,h2,Calls.callWith_builtin rfl (PySem.evalArgs_none (hm pins s1 σ H1 x [] v [] Q I1 r1 .nil q1))⟩
theorem B6(pa:PlainAttrs T)(slot:Slot T name id)(hty:typeOf (.builtin id)=pure (.type "method_descriptor"))(hm:o2 X id r)(ho:PE X o to)(ha:PA X (e::es) t)(hbase:attributeBase o name X.env (eval o X.env)=eval o X.env:=by rfl)(hfew:((backTo cpos (starEach (e::es) X.env)).all (fun x=>!x.1)&&(backToKw cpos (keywordEach [] X.env)).all (fun x=>x.1.isSome)
   && decide ((e::es).length+([]:List Keyword).length+(if ([]:List Keyword).isEmpty then 0 else 1)<30))=true:=by rfl)(hline:(apos.endLine==cpos.line)=true:=by rfl)(hs:starEach (e::es) X.env=(false,eval e X.env)::starEach es X.env:=by rfl)(hplain:(backTo cpos (starEach es X.env)).any (·.1)=false:=by rfl) :
  PE X (.Call (.Attribute o name apos) (e::es) [] cpos) (Kf X.K T r to t):=by
 intro pins s σ H Q I h;refine wpAny_Call_method_late hbase hfew hline rfl (aW (ho pins s σ H _ I h) fun v s1 ⟨x,H1,I1,r1,ty,q1⟩=>?_);obtain⟨h1,h2⟩:=xm I1 r1 ty;refine⟨T,id,pa,slot,hty,h1,h2,?_⟩;have hA:=ha cpos pins s1 σ H1 _ I1 q1;rw[hs] at hA ⊢;refine Calls.callWith_builtin (by show(false||(backTo cpos (starEach es X.env)).any (·.1))=false;rw[hplain]<;>rfl) (Calls.evalArgs_plain ?_);exact aW hA fun us s2 ⟨vs,H2,I2,r2,q2⟩=>hm pins s2 σ H2 x vs v us Q I2 r1 r2 q2
end
def u2(X:Cx)(id:String)(r:V->List V->Hp->VK->Prop):Prop :=
 ∀(pins:List (Addr×Obj)) (s:Shared) (σ:St) (H:Hp) (x:V) (xs:List V) (v:Value) (us:List Value) (Q:VK),Inv X pins σ H s->RelV x v->Vals xs us->r x xs H Q ->
  wpAny (model X.prog X.w) X.A (call (.builtin id) (v::us)) (EP X pins σ Q) X.xe s
theorem Vals.one:∀{x:V} {us:List Value},Vals [x] us->∃u,us=[u]/\RelV x u
 | _,_,.cons r .nil=>⟨_,rfl,r⟩
theorem Vals.zero:∀{us:List Value},Vals [] us->us=[]
 | _,.nil=>rfl
theorem Vals.dropLast(h:Vals xs us):Vals xs.dropLast us.dropLast:=by
 induction h with
 | nil=>exact .nil
 | cons r t ih =>
  cases t with
  | nil=>exact .nil
  | cons q t'=>exact .cons r ih
theorem Vals.rep{xs:List V}{us:List Value}(h:Vals xs us):∀k:Nat,Vals (List.replicate k xs).flatten (List.replicate k us).flatten
 | 0=>.nil
 | k+1=>by
  rw[replicate_succ,replicate_succ,flatten_cons,flatten_cons];exact Vals.append h (Vals.rep h k)
theorem Iq{α:Type}(l:List α):l.eraseIdx (l.length-1)=l.dropLast:=by
 induction l with
 | nil=>rfl
 | cons a r ih =>
  cases r with
  | nil=>rfl
  | cons b r =>
   have e:(a::b::r).length-1=((b::r).length-1)+1:=by have h1:(a::b::r).length=r.length+2:=rfl;have h2:(b::r).length=r.length+1:=rfl;omega
   rw[e,eraseIdx_cons_succ,ih]
   all_goals rfl
theorem zS(its:List Value):∀(k:Nat) (acc:List Value),
  List.foldl (fun x1 x2=>x1++x2) acc.toArray (List.replicate k its.toArray)=(acc++(List.replicate k its).flatten).toArray
 | 0,acc=>by simp
 | k+1,acc=>by
  have e:acc.toArray++its.toArray=(acc++its).toArray:=by simp
  have e2:(acc++its)++(List.replicate k its).flatten=acc++(List.replicate (k+1) its).flatten:=by rw[replicate_succ,flatten_cons,append_assoc]
  rw[<- e2,<- zS its k (acc++its),<- e,replicate_succ,foldl_cons]
variable {t':Nat}
section
variable {σ:St} {l b:Addr} {ys zs:List V}
theorem Inv.lset{f:Array Value->Array Value}(I:Inv X pins σ H s)(hH:H l=some (.lst xs))(e:s.heap.get? l=some { cls:=.type "list",data:=.seq its.toArray n })(hf:f its.toArray=its'.toArray)(hv:Vals ys its')(hz:ys.length<=sizeLine) :
  Inv X pins σ (upd H l (.lst ys)) { s with heap:=s.heap.update l (Obj.mapSeq f),toks:=t' }:=by
 have q:=PySem.IsL.update e f;rw[hf] at q;refine I.write (x:=l) (e:=l) (by rw[hH];exact trivial) (.inl rfl) (fun b' u hb hu=>(Heap.get?_update_other s.heap (Obj.mapSeq f) (Ne.symm hb)).trans hu) ⟨_,q⟩ ?_;exact⟨hz,its',_,hv,q⟩
theorem Inv.lnew(I:Inv X pins σ H s)(hv:Vals ys its)(hz:ys.length<=sizeLine) :
  Inv X pins σ (upd H s.heap.objs.size (.lst ys)) { s with heap:=s.heap.push { cls:=.type "list",data:=.seq its.toArray },toks:=t' } :=
 I.laid (fun _ _ q=>Heap.get?_push_of_some _ q) (le_refl _) ⟨hz,its,0,hv,Heap.get?_push_size _ rfl⟩
theorem Inv.fresh(I:Inv X pins σ H s):H s.heap.objs.size=none:=I.hok.fresh (le_refl _)
theorem Inv.lstM(I:Inv X pins σ H s)(hH:H l=some (.lst xs)):xs.length<=sizeLine/\∃(its:List Value) (n:Nat),Vals xs its/\xs.length=its.length/\s.heap.get? l=some { cls:=.type "list",data:=.seq its.toArray n }:=by obtain⟨z,its,n,r,e⟩:=I.hok l _ hH;exact⟨z,its,n,r,r.length,e⟩
theorem zb(h:n<=sizeLine):Builtin.List.listTooLong n=false:=by unfold Builtin.List.listTooLong;exact decide_eq_false (by omega)
end
def yr:V->List V->Hp->VK->Prop:=fun x vs H Q=>∃l xs y,x=.ref l/\vs=[y]/\H l=some (.lst xs)/\xs.length<sizeLine/\Q .non (upd H l (.lst (xs++[y])))
theorem g7:u2 X "list.append" yr:=by intro pins s σ H x vs v us Q I rx rv h;obtain⟨l,xs,y,rfl,rfl,hH,hz,q⟩:=h;cases rx;obtain⟨u,rfl,ru⟩:=rv.one;obtain⟨z,its,n,r,hl,e⟩:=I.lstM hH;refine call_meets F.slot_list_append ⟨_,e,rfl⟩ F.entry_list_append (F.args_list_append_2 _ _) (PySem.list_append l its.toArray n u (by rw[size_toArray];omega)) ⟨e,?_⟩;refine⟨.non,_,I.lset (its':=its++[u]) hH e (by simp) (r.append (.cons ru .nil)) ?_,rfl,q⟩;rw[length_append,length_singleton];omega
def va:V->List V->Hp->VK->Prop:=fun x vs H Q=>∃l xs y,x=.ref l/\vs=[]/\H l=some (.lst xs)/\xs[xs.length-1]?=some y/\Q y (upd H l (.lst xs.dropLast))
theorem EM:u2 X "list.pop" va:=by
 intro pins s σ H x vs v us Q I rx rv h;obtain⟨l,xs,y,rfl,rfl,hH,hy,q⟩:=h;cases rx;have hus:=rv.zero;subst hus;obtain⟨z,its,n,r,hl,e⟩:=I.lstM hH;obtain⟨u,hu,ru⟩:=r.get hy;have hy':its.toArray[its.toArray.size-1]?=some u:=by show its.toArray[its.length-1]?=some u;rw[<- getElem?_toList,<- hl];exact hu
 refine call_meets F.slot_list_pop ⟨_,e,rfl⟩ F.entry_list_pop (F.args_list_pop_1 _) (MeetsSeq.list_pop_last l its.toArray n u hy' (by rw[size_toArray];omega)) ⟨e,?_⟩;refine⟨y,_,I.lset (its':=its.dropLast) hH e ?_ r.dropLast ?_,ru,q⟩
 ·show its.toArray.eraseIdxIfInBounds (its.toArray.size-1)=its.dropLast.toArray;rw[size_toArray,eraseIdxIfInBounds_toArray,Iq]
 ·rw[length_dropLast];omega
def xl:V->List V->Hp->VK->Prop:=fun x vs H Q=>∃l xs,x=.ref l/\vs=[]/\H l=some (.lst xs)/\Q .non (upd H l (.lst []))
theorem Hq:u2 X "list.clear" xl:=by intro pins s σ H x vs v us Q I rx rv h;obtain⟨l,xs,rfl,rfl,hH,q⟩:=h;cases rx;have hus:=rv.zero;subst hus;obtain⟨z,its,n,r,hl,e⟩:=I.lstM hH;refine call_meets F.slot_list_clear ⟨_,e,rfl⟩ F.entry_list_clear (F.args_list_clear_1 _) (AutoSeq1.list_clear_list_0 l its.toArray n (by rw[size_toArray];omega)) ⟨e,?_⟩;exact⟨.non,_,I.lset (its':=[]) (ys:=[]) hH e rfl .nil (zero_le _),rfl,q⟩
def BD:R2:=fun x y H Q=>∃l k xs,x=.ref l/\y=.int k/\H l=some (.lst xs)/\-(2 ^ 63)<=k/\k<2 ^ 63/\xs.length*k.toNat<=sizeLine /\
 ∀p,H p=none->Q (.ref p) (upd H p (.lst (List.replicate k.toNat xs).flatten))
theorem len_rep{α:Type}(xs:List α)(k:Nat):(List.replicate k xs).flatten.length=k*xs.length:=by
 induction k with
 | zero=>simp
 | succ k ih=>rw[replicate_succ,flatten_cons,length_append,ih,succ_mul,add_comm]
theorem EL:dN X (binaryOp .Mult) BD:=by
 intro pins s σ H x y v u Q I rx ry h;obtain⟨l,k,xs,rfl,rfl,hH,h1,h2,hz,q⟩:=h;cases rx;obtain⟨t,rfl⟩:=ry;obtain⟨z,its,n,r,hl,e⟩:=I.lstM hH;have hlen:its.toArray.size*k.toNat<=sizeLine:=by rw[size_toArray,<- hl];exact hz
 have hcap:¬its.toArray.size*k.toNat>(2 ^ 63-1) / 8:=by
  have:(sizeLine:Nat)<=(2 ^ 63-1) / 8:=by decide
  omega
 have hfit:¬(!Builtin.List.listFitsIndex k)=true:=by rw[fitsIndex_both h1 h2];exact Bool.false_ne_true
 have hlong:¬Builtin.List.listTooLong (its.toArray.size*k.toNat)=true:=by rw[zb hlen];exact Bool.false_ne_true
 have hnew:List.foldl (fun x1 x2=>x1++x2) #[] (List.replicate (if its.toArray.isEmpty=true then 0 else k.toNat) its.toArray)=(List.replicate k.toNat its).flatten.toArray:=by
  have f0:∀m:Nat,List.foldl (fun x1 x2=>x1++x2) #[] (List.replicate m its.toArray)=(List.replicate m its).flatten.toArray:=fun m=>by
   have:=zS its m [];rw[nil_append] at this;exact this
  rw[f0];cases its with
  | nil=>simp
  | cons a r'=>rw[if_neg (by simp)]
 refine wpAny_binaryOp_repeat_ref (T := "list") (U := "int") (by decide) ⟨_,e,rfl⟩ (fun s'=>typeIs_int s' k t) noFill_list_mul F.fills_int_mul F.slot_int_rmul repeat_list F.slot_int_index.lookup
  (call_meets F.slot_int_rmul (typeIs_int s k t) F.entry_int_rmul (F.args_int_rmul_2 _ _) (int___rmul___int_list k t l its.toArray n)
   ⟨e,rfl,⟨_,e,rfl⟩,call_meets F.slot_list_mul ⟨_,e,rfl⟩ F.entry_list_mul (F.args_list_mul_2 _ _) (AutoListH.list___mul___list_int_3 l its.toArray n k t hfit hcap hlong) ⟨e,?_⟩⟩)
 rw[hnew];exact⟨.ref _,_,I.lnew (t':=s.toks) (r.rep k.toNat) (by rw[len_rep,mul_comm];exact hz),rfl,q _ I.fresh⟩
section
variable {prog:Program} {w:World} {A:Around} {E:Value->Shared->Prop}
end
end L2
namespace u4
open PySem PySem.W PySem.Calls PyProof.Rows
variable {P:Params} {h:Heap}
theorem J7:∀(ns:List Int) (vs:List Value),WellAll P h vs (ns.map WData.int)->IntsAre vs ns:=by
 intro ns
 induction ns with
 | nil =>
  intro vs w;rw[map_nil] at w;cases w;exact .nil
 | cons n ns ih =>
  intro vs w;rw[map_cons] at w;cases w with
  | cons a b =>
   cases a;exact .cons _ _ (ih _ b)
variable {l:OpenLaw} {n:Nat}
theorem H_(hn:l.most=some n){args:List WData}{vals:List Value}(hpre:l.row.toRowW.claim.pre args=true)(hwl:WellAll P h vals args) :
  ∃a vs ns,vals=[Value.ref a]/\args=[WData.list (ns.map WData.int)]/\h.get? a=some { cls:=.type "list",data:=.seq vs.toArray }/\IntsAre vs ns/\ns.length<=n:=by
 have hsh:WShape.hasAll [] args [.list .int]=true:=(pre_splitW hpre).1;have hc:l.pre.holds [] { args:=args }=true:=(pre_splitW hpre).2;obtain⟨d,r,rfl,h1,h2⟩:=hasAllW_cons hsh;obtain rfl:=hasAllW_nil h2;obtain⟨xs,rfl,h3⟩:=hasW_list h1;obtain⟨ns,rfl⟩:=items_int h3;have hlen:ns.length<=n:=by
  unfold OpenLaw.pre at hc;have h4:(WTm.not (.lt (.lit (.int (n:Int))) (.len (.arg 0)))).holds [] { args:=[.list (ns.map .int)] }=true:=by have h4:=(holds_andW hc).1;rw[hn] at h4;exact h4
  have h5:=condW_of h4 (w_not (w_lt w_lit (w_len_list (w_arg rfl))));rw[length_map] at h5;refine le_of_not_lt fun q=>?_;have q':(n:Int)<((ns.length:Nat):Int):=by omega
  first
   | (rw[decide_eq_true q'] at h5;exact absurd h5 (by decide))
   | (simp at h5;omega)
 cases hwl with
 | cons w1 w2 =>
  cases w2;cases w1 with
  | list ho hall=>exact⟨_,_,ns,rfl,rfl,ho,J7 ns _ hall,hlen⟩
theorem H9(l:OpenLaw)(args:List WData):l.row.toRowW.claim.post args (.bool true) args=true :=
 postW_of (r:=l.row.toRowW) (X:=(true==true))
  (show WShape.has [] (.bool true) .bool=true by first|rfl|decide|simp[WShape.has,WShape.arms,WShape.armsAll])
  (show(WTm.eq .res (.lit (.bool true))).value [] { args:=args,res:=some (.bool true),after:=args }=some (.bool (true==true)) from w_eq_bool (w_res rfl) w_lit) rfl
theorem attach_call{q:Program}{loose:List Str}{XP:(Str->Option Value)->Heap->Prop}{YP:World->Heap->Prop}{d:DefRec}(hn:l.most=some n)(hdf:d.params.defaults=[])(call:∀(w:World) (s₀ s₁:Shared) (mg mb:Str->Option Value) (fa:Addr) (o:Obj) (pm cd doc:Value) (a:Addr) (vs:List Value) (ns:List Int),
   Ground q loose [] XP w s₀ mg mb s₁.heap->YP w s₁.heap ->
   s₁.heap.get? fa=some o->o.data=.func (docDef d.name d.params d.body d.scope pm cd doc)->s₁.heap.CodeRec cd d.name->mg d.name=some (.ref fa) ->
   s₁.heap.get? a=some { cls:=.type "list",data:=.seq vs.toArray }->IntsAre vs ns->ns.length<=n->s₁.gens=#[] ->
   codeAny (model l.prog w) callerA (.call (.ref fa) ⟨[.ref a],[]⟩) (fun r s'=>r=.ok (.ret (.bool true))/\OldK s₁.heap s'.heap/\s'.os=s₁.os/\AllBare s'.gens) s₁) :
  WalkO q loose XP YP l.row.toRowW d [] (fun f vs=>PySem.call f vs):=by
 intro w s₀ s₁ mg mb G Y fa o pm cd doc dV kV ho hd hcd hD hmg hg args vals as hpre hlay hrd hwl hlo;obtain rfl:dV=.none:=Dflts.none hD hdf;obtain rfl:kV=.none:=Dflts.noKw hD;obtain⟨a,vs,ns,rfl,rfl,hobj,hints,hlen⟩:=H_ hn hpre hwl;refine enter_call (codeAny_mono (call w s₀ s₁ mg mb fa o pm cd doc a vs ns G Y ho (fd_plain hd) hcd hmg hobj hints hlen hg) fun r s' hq=>?_);obtain⟨rfl,h2,h3,h4⟩:=hq;exact⟨.inl ⟨.bool true,.bool true,[],rfl,fun _=>rfl,.bool true,H9 l _,fun _=>⟨List.Pairwise.nil,fun _ hm=>(nomatch hm)⟩⟩,h2,h3,h4⟩
section
variable {prog:Program} {w:World} {A:Around} {E:Value->Shared->Prop} {s:Shared} {K:Frag}
def La(h:Heap)(L d:Addr):List (Addr×Obj):=(List.range h.objs.size).filterMap fun a=>if a=L\/a=d then none else (h.get? a).map fun o=>(a,o)
end
end u4
namespace L2
open PySem PySem.Spec PyProof.Rows
theorem oO:∀{vs:List Value} {ns:List Int},IntsAre vs ns->Vals (ns.map V.int) vs
 | _,_,.nil=>.nil
 | _,_,.cons n t h=>.cons ⟨t,rfl⟩ (oO h)
def nP(H:Hp):Prop:=∀b,H b=none\/∃o xs,H b=some (.frz o (.lst xs))
variable {P:Program} {w:World} {mg:Str->Option Value} {CX:jw} {k:Nat} {a:Addr} {fd:FuncData} {ns:List Int}
theorem Ho{K:Frag}{mb:Str->Option Value}{fa:Addr}{x:Str}{sp:Sp}{s₁:Shared}{vs:List Value}(KX:K.In s₁.heap)(hns:s₁.heap.Ns mainGlobals mg)(hb:s₁.heap.Ns builtinsNs mb)(hbb:∀x:Str,x ≠ "__name__" -> mb x=bootBuiltins x)(hlim:s₁.heap.NoLimit)(hg:s₁.gens=#[])(ha:s₁.heap.get? a=some { cls:=.type "list",data:=.seq vs.toArray })(hi:IntsAre vs ns)(hl:ns.length<=sizeLine)(hr:bo k callerA)(F:∀base:Heap,K.In base->base.Ns mainGlobals mg->au P w K mg base CX k fa fd [x] sp)(hbind:∀(s:Shared) (u:Value),BindsTo s fd ⟨[u],[]⟩ [(x,u)])(hsp:∀H:Hp,nP H->cO K H a (ns.map V.int)->sp [.ref a] H (fun v _=>v=.bl true) fun _ _ _=>False)(hCX:∀H e s',CX [] H s₁ (fun _ _ _=>False) e s'->False) :
  codeAny (model P w) callerA (.call (.ref fa) ⟨[.ref a],[]⟩) (fun r s'=>r=.ok (.ret (.bool true))/\OldK s₁.heap s'.heap/\s'.os=s₁.os/\AllBare s'.gens) s₁:=by
 have rv:=oO hi;have lenV:=hi.length;have core:∀H:Hp,nP H->cO K H a (ns.map V.int)->cB P w H s₁.heap->(∀b,H b≠none->b=a)->(H a≠none->K.lookup a=none) ->
   codeAny (model P w) callerA (.call (.ref fa) ⟨[.ref a],[]⟩) (fun r s'=>r=.ok (.ret (.bool true))/\OldK s₁.heap s'.heap/\s'.os=s₁.os/\AllBare s'.gens) s₁:=by
  intro H hO hS hok hA hK;have base_of:∀{b:Addr} {o:Obj},s₁.heap.get? b=some o->H b=none->(jY s₁.heap H).get? b=some o:=fun e n=>Hb e n;have noA:∀{b:Addr} {o:Obj} {es:Array DictEntry} {ep:Nat},s₁.heap.get? b=some o->o.data=.dict es ep->H b=none:=fun {b o es ep} e d=>by
   cases q:H b with
   | none=>rfl
   | some u =>
    have e':b=a:=hA b (by rw[q];simp);subst e';rw[ha] at e;cases e;have d':Data.seq vs.toArray _=Data.dict es ep:=d;cases d'
  have nsK:∀{b:Addr} {m:Str->Option Value},s₁.heap.Ns b m->(jY s₁.heap H).Ns b m:=fun {b m} ⟨o,es,ep,e,d,r⟩=>⟨o,es,ep,base_of e (noA e d),d,r⟩
  have hKb:K.In (jY s₁.heap H):=fun b o e=>base_of (KX b o e) (by
   cases q:H b with
   | none=>rfl
   | some u =>
    have e':b=a:=hA b (by rw[q];simp);subst e';rw[hK (by rw[q];simp)] at e;cases e)
  have hM:Mod K mg (jY s₁.heap H):=⟨hKb,nsK hns,⟨mb,nsK hb,hbb⟩,let ⟨mc,h1,h2⟩:=hlim;⟨mc,nsK h1,h2⟩⟩
  have e0:gP P w K mg (jY s₁.heap H) callerA [] s₁ H:=⟨rfl,hM,fun b o e=>F_ e,le_of_eq (Ja _ _),trivial,fun b hb=>absurd (show b∈([]:List Addr) from hb) (by simp),hok,.of_eq hg⟩
  refine codeAny_mono ((F _ hKb (nsK hns)).run callerA [] s₁ H ⟨[.ref a],[]⟩ [.ref a] [.ref a] _ _ hr e0 (hbind s₁ (.ref a)) (.cons rfl .nil) (hsp H hO hS)) fun r s' h=>?_;cases r with
  | error e=>exact(hCX H e s' h).elim
  | ok fl =>
   cases fl with
   | next=>exact False.elim h
   | brk=>exact False.elim h
   | cont=>exact False.elim h
   | ret u =>
    obtain⟨v,H',os,bare,un,hok',r',q⟩:=h;have q':v=.bl true:=q;subst q';obtain rfl:u=Value.bool true:=r';refine⟨rfl,OldK.of_keep fun b o e=>?_,os,bare⟩;cases q:H b with
    | none=>exact un.keep b o e q (by intro z;exact absurd (show b∈([]:List Addr) from z) (by simp)) (by simp)
    | some u =>
     rcases hO b with z|⟨ob,xs,z⟩
     ·rw[q] at z;cases z
     ·have z2:=un.frzs b ob _ z;obtain⟨e1,_⟩:=hok b _ z;obtain⟨e2,_⟩:=hok' b _ z2;rw[e] at e1;cases e1;exact e2
 cases hk:K.lookup a with
 | some o =>
  have e:=KX a o hk;rw[ha] at e;cases e;refine core (fun _=>none) (fun _=>.inl rfl) (.inr ⟨_,vs.toArray,_,hk,rfl,rfl,rfl,by rw[size_toArray,lenV];exact hl,by simpa using rv⟩) (fun b u z=>by have z':(none:Option HO)=some u:=z;cases z') (fun b z=>absurd rfl z) fun z=>absurd rfl z
 | none =>
  refine core (fun b=>if b=a then some (.frz { cls:=.type "list",data:=.seq vs.toArray } (.lst (ns.map V.int))) else none) (fun b=>?_) (.inl (.inr ⟨{ cls:=.type "list",data:=.seq vs.toArray },if_pos rfl⟩)) (fun b u z=>?_) (fun b z=>?_) fun _=>hk
  ·by_cases hb:b=a
   ·exact .inr ⟨_,_,if_pos hb⟩
   ·exact .inl (if_neg hb)
  ·by_cases hb:b=a
   ·have z':=(if_pos hb).symm.trans z;cases z';subst hb;exact⟨ha,by rw[length_map];exact hl,vs,_,rv,ha⟩
   ·have z':=(if_neg hb).symm.trans z;cases z'
  ·by_cases hb:b=a
   ·exact hb
   ·exact absurd (if_neg hb) z
variable {K:Params->Frag} {l:PySem.W.OpenLaw} {n:Nat} {q:Program} {loose:List Str} {YP:World->Heap->Prop} {d:DefRec}
theorem Gi{XP:(Str->Option Value)->Heap->Prop}{CX:World->jw}{sp:World->Sp}{x:Str}(hn:l.most=some n)(hn2:n<=sizeLine)(hdf:d.params.defaults=[])(hr:bo k callerA)(hY:∀(w:World) (h:Heap),YP w h->(K w.params).In h)(F:∀(w:World) (mg:Str->Option Value) (fa:Addr) (h:Heap),(K w.params).In h->h.Ns mainGlobals mg->mg d.name=some (.ref fa) ->
   ∃fd:FuncData,(∀(s:Shared) (u:Value),BindsTo s fd ⟨[u],[]⟩ [(x,u)]) /\
    ∀base:Heap,(K w.params).In base->base.Ns mainGlobals mg->au l.prog w (K w.params) mg base (CX w) k fa fd [x] (sp w))(hsp:∀(w:World) (H:Hp) (a:Addr) (ns:List Int),ns.length<=n->nP H->cO (K w.params) H a (ns.map V.int)->sp w [.ref a] H (fun v _=>v=.bl true) fun _ _ _=>False)(hCX:∀(w:World) (H:Hp) (s:Shared) (e:Value) (s':Shared),CX w [] H s (fun _ _ _=>False) e s'->False) :
  PySem.W.WalkO q loose XP YP l.row.toRowW d [] (fun f vs=>PySem.call f vs):=by
 refine u4.attach_call hn hdf fun w s₀ s₁ mg mb fa o pm cd doc a vs ns G Y ho hd hcd hmg hobj hints hlen hg=>?_;have KX:=hY w _ Y;obtain⟨fd,hb,hF⟩:=F w mg fa _ KX G.T.g hmg;exact Ho KX G.T.g G.T.b G.T.builtins G.T.nolimit hg hobj hints (le_trans hlen hn2) hr hF hb (fun H hO hS=>hsp w H a ns hlen hO hS) fun H e s'=>hCX w H s₁ e s'
theorem walk_ofK{XP:(Str->Option Value)->Heap->Prop}{sp:Frag->Sp}{x:Str}(hn:l.most=some n)(hn2:n<=sizeLine)(hdf:d.params.defaults=[])(hr:bo k callerA)(hY:∀(w:World) (h:Heap),YP w h->(K w.params).In h)(F:∀(w:World) (mg:Str->Option Value) (fa:Addr) (h:Heap),(K w.params).In h->h.Ns mainGlobals mg->mg d.name=some (.ref fa) ->
   ∃fd:FuncData,(∀(s:Shared) (u:Value),BindsTo s fd ⟨[u],[]⟩ [(x,u)]) /\
    ∀base:Heap,(K w.params).In base->base.Ns mainGlobals mg->au l.prog w (K w.params) mg base CX k fa fd [x] (sp (K w.params)))(hsp:∀(K:Frag) (H:Hp) (a:Addr) (ns:List Int),ns.length<=n->nP H->cO K H a (ns.map V.int)->sp K [.ref a] H (fun v _=>v=.bl true) fun _ _ _=>False)(hCX:∀(H:Hp) (s:Shared) (e:Value) (s':Shared),CX [] H s (fun _ _ _=>False) e s'->False) :
  PySem.W.WalkO q loose XP YP l.row.toRowW d [] (fun f vs=>PySem.call f vs) :=
 Gi (K:=K) (CX:=fun _=>CX) (sp:=fun w=>sp (K w.params)) hn hn2 hdf hr hY F (fun w H a ns h1 h2 h3=>hsp (K w.params) H a ns h1 h2 h3) fun _ H s e s'=>hCX H s e s'
def nq(s:Stmt):Arguments:=match s with
 | .FunctionDef _ a _ _ _ _ _ _ _ _=>a
 | _=>{ posonlyargs:=[],args:=[],vararg:=none,kwonlyargs:=[],kw_defaults:=[],kwarg:=none,defaults:=[] }
def kY(s:Stmt):List Stmt:=match s with
 | .FunctionDef _ _ b _ _ _ _ _ _ _=>b
 | _=>[]
def bw(s:Stmt):Scope:=match s with
 | .FunctionDef _ _ _ _ _ _ sc _ _ _=>sc
 | _=>{ kind:=.function,names:=[],isGenerator:=false,isCoroutine:=false }
abbrev CX0:jw:=fun _ _ _ _ _ _=>False
abbrev E0:XK:=fun _ _ _=>False
structure bV (K:Frag) (x qual:Str) (st:Stmt) (f:Addr) (fd:FuncData):Prop where
 ex:∃(oc:Value) (od:Option Addr) (kV doc pm:Value) (an:Option Addr) (cdv ct:Value) (osl:Array (Option Value)),
  fd=fnOf x qual (nq st) (kY st) (bw st) .none kV doc pm an cdv ct/\K.lookup f=some ⟨oc,od,.func fd,osl⟩/\codeIn K cdv qual=true
 kp:keepIn K (.ref f)=true
variable {qual:Str} {st:Stmt} {f:Addr}
section
variable {K:Frag} {base:Heap}
theorem bV.binds{x:Str}{ps:List Str}(F:bV K x qual st f fd)(h:∀(kV doc pm:Value) (an:Option Addr) (cdv ct:Value) (us:List Value),us.length=ps.length->bindArgs (fnOf x qual (nq st) (kY st) (bw st) .none kV doc pm an cdv ct) ⟨us,[]⟩=pure (ps.zip us)):Binds K fd ps []:=by obtain⟨oc,od,kV,doc,pm,an,cdv,ct,osl,rfl,lk,hcd⟩:=F.ex;exact .all (h kV doc pm an cdv ct)
theorem xk{x:Str}{oc:Value}{od an:Option Addr}{osl:Array (Option Value)}{kV doc pm cdv ct:Value}(l:K.lookup f=some ⟨oc,od,.func (fnOf x qual (nq st) (kY st) (bw st) .none kV doc pm an cdv ct),osl⟩)(c:codeIn K cdv qual=true)(k:keepIn K (.ref f)=true):bV K x qual st f (fnOf x qual (nq st) (kY st) (bw st) .none kV doc pm an cdv ct):=⟨⟨oc,od,kV,doc,pm,an,cdv,ct,osl,rfl,l,c⟩,k⟩
end
variable {X:Cx}
def KS(H H':Hp):Prop:=∀b o,H b=some o->H' b=some o
def ir(js:List Nat)(σ:St):St:=js.map fun j=>σ.getD j none
structure gh (N:List Str) (psc:Scope) (js:List Nat) (N':List Str) (scope:Scope):Prop where
 cell:∀y∈scope.names,y.2≠.cell
 kind:scope.kind=.function
 names:∀y∈scope.names,y.2=.local->scope.names.lookup y.1=some .local
 frees:∀y∈scope.names,y.2=.free->psc.names.lookup y.1=some .cell\/psc.names.lookup y.1=some .free
 nd:N'.Nodup
 len:N'.length=js.length+1
 cap:∀p∈js.zip (N'.drop 1),N[p.1]?=some p.2/\scope.names.lookup p.2=some .free
def jL(env:Env)(cs:List (Str×Addr))(y:Str×NameKind):List (Str×Addr):=if y.2==.free then (y.1,(env.cells.lookup y.1).getD 0)::cs else cs
def clOf(scope:Scope)(env:Env):List (Str×Addr):=scope.names.foldl (jL env) []
theorem AQ{α β:Type}(f:α->β->Sem (ForInStep β))(g:β->α->β):∀(l:List α) (b:β),(∀x∈l,∀c,f x c=pure (.yield (g c x)))->forIn l b f=pure (l.foldl g b)
 | [],_,_=>rfl
 | x::l,b,h=>by
  rw[forIn_cons,h x mem_cons_self,pure_bind];exact AQ f g l (g b x) fun y hy=>h y (mem_cons_of_mem _ hy)
variable {scope:Scope} {env:Env}
theorem Ip(h:∀y∈scope.names,y.2=.free->∃c,env.cells.lookup y.1=some c):closureFor scope env=pure (clOf scope env):=by
 simp only[closureFor,clOf];rw[AQ _ (jL env) scope.names [] (fun y hy c=>by
  obtain⟨n,k⟩:=y
  by_cases hk:k=.free
  ·subst hk;obtain⟨a,ha⟩:=h _ hy rfl;have ha':env.cells.lookup n=some a:=ha;simp[cellOf,ha',jL]
  ·have hb:(k==NameKind.free)=false:=by simpa using hk
   simp[hb,jL])]
 rfl
theorem AE{env:Env}{P:Str×Addr->Prop}:∀(l:List (Str×NameKind)) (acc:List (Str×Addr)),(∀p∈acc,P p)->(∀y∈l,y.2=.free->P (y.1,(env.cells.lookup y.1).getD 0))->∀p∈l.foldl (jL env) acc,P p
 | [],_,ha,_=>ha
 | y::l,acc,ha,hl=>by
  refine AE l _ (fun p hp=>?_) fun z hz=>hl z (mem_cons_of_mem _ hz);unfold jL at hp
  by_cases hk:y.2=.free
  ·rw[if_pos (by simp[hk])] at hp;rcases mem_cons.mp hp with e|hp
   ·rw[e];exact hl y mem_cons_self hk
   ·exact ha p hp
  ·rw[if_neg (by simp[hk])] at hp;exact ha p hp
theorem AD{env:Env}:∀(l:List (Str×NameKind)) (acc:List (Str×Addr)),∀p∈acc,p∈l.foldl (jL env) acc
 | [],_,_,hp=>hp
 | y::l,acc,p,hp=>by
  refine AD l _ p ?_;unfold jL;split
  ·exact mem_cons_of_mem _ hp
  ·exact hp
theorem AB{env:Env}{y:Str}:∀(l:List (Str×NameKind)) (acc:List (Str×Addr)),(y,NameKind.free)∈l->∃c,(y,c)∈l.foldl (jL env) acc
 | z::l,acc,h=>by
  rcases mem_cons.mp h with e|h
  ·subst e;exact⟨(env.cells.lookup y).getD 0,AD l _ _ (by simp[jL])⟩
  ·exact AB l _ h
theorem A5{β:Type}{y:Str}{c:β}:∀{l:List (Str×β)},(y,c)∈l->∃c',l.lookup y=some c'
 | (n,d)::l,h=>by
  rw[lookup_cons];cases e:y==n with
  | true=>exact⟨d,rfl⟩
  | false =>
   rcases mem_cons.mp h with q|q
   ·have q1:y=n:=congrArg Prod.fst q;rw[q1] at e;simp at e
   ·exact A5 q
theorem zR(h:∀y∈scope.names,y.2=.free->∃c,env.cells.lookup y.1=some c){y:Str}{c:Addr}(e:(clOf scope env).lookup y=some c):env.cells.lookup y=some c:=by refine AE (P:=fun p=>env.cells.lookup p.1=some p.2) scope.names [] (fun _ hp=>nomatch hp) (fun z hz hf=>?_) (y,c) (PySem.mem_of_lookup e);obtain⟨a,ha⟩:=h z hz hf;simp[ha]
theorem za{y:Str}(h:(y,NameKind.free)∈scope.names):∃c,(clOf scope env).lookup y=some c:=by obtain⟨c,hc⟩:=AB (env:=env) scope.names [] h;exact A5 hc
theorem cY{env:Env}{y:Str}{k':NameKind}:∀{names:List (Str×NameKind)},(names.map fun(n,k)=>if (k==NameKind.free&&env.scope.kind==.function&&env.kindOf n==some .cell) then (n,NameKind.cell) else (n,k)).lookup y=some k' ->
  ∃k,(y,k)∈names/\(k'=k\/(k=.free/\k'=.cell))
 | [],h=>by simp at h
 | (n,k)::r,h=>by
  have ih:=@cY env y k' r;have h:List.lookup y ((if (k==NameKind.free&&env.scope.kind==.function&&env.kindOf n==some .cell)=true then (n,NameKind.cell) else (n,k))::_)=some k':=h;cases e:y==n with
  | true =>
   have e':y=n:=by simpa using e
   by_cases hc:(k==NameKind.free&&env.scope.kind==.function&&env.kindOf n==some .cell)=true
   ·rw[if_pos hc] at h;simp only[lookup_cons,e] at h;cases h;have hk:k=.free:=by simp only[and_eq_true] at hc;simpa using hc.1.1
    subst hk;exact⟨.free,by rw[e'];exact mem_cons_self,.inr ⟨rfl,rfl⟩⟩
   ·rw[if_neg hc] at h;simp only[lookup_cons,e] at h;have hk:=Option.some.inj h;exact⟨k,by rw[e'];exact mem_cons_self,.inl hk.symm⟩
  | false =>
   have h':List.lookup y (r.map fun(n,k)=>if (k==NameKind.free&&env.scope.kind==.function&&env.kindOf n==some .cell) then (n,NameKind.cell) else (n,k))=some k':=by
    by_cases hc:(k==NameKind.free&&env.scope.kind==.function&&env.kindOf n==some .cell)=true
    ·rw[if_pos hc] at h;simp only[lookup_cons,e] at h;exact h
    ·rw[if_neg hc] at h;simp only[lookup_cons,e] at h;exact h
   obtain⟨k0,h1,h2⟩:=ih h';exact⟨k0,mem_cons_of_mem _ h1,h2⟩
theorem dw{env:Env}{y:Str}:∀{names:List (Str×NameKind)},names.lookup y=some .free ->
  (names.map fun(n,k)=>if (k==NameKind.free&&env.scope.kind==.function&&env.kindOf n==some .cell) then (n,NameKind.cell) else (n,k)).lookup y=some .cell \/
  (names.map fun(n,k)=>if (k==NameKind.free&&env.scope.kind==.function&&env.kindOf n==some .cell) then (n,NameKind.cell) else (n,k)).lookup y=some .free
 | [],h=>by simp at h
 | (n,k)::r,h=>by
  have ih:=@dw env y r;show List.lookup y ((if (k==NameKind.free&&env.scope.kind==.function&&env.kindOf n==some .cell)=true then (n,NameKind.cell) else (n,k))::_)=_\/List.lookup y ((if (k==NameKind.free&&env.scope.kind==.function&&env.kindOf n==some .cell)=true then (n,NameKind.cell) else (n,k))::_)=_;cases e:y==n with
  | true =>
   simp only[lookup_cons,e] at h;cases h
   by_cases hc:(NameKind.free==NameKind.free&&env.scope.kind==.function&&env.kindOf n==some .cell)=true
   ·rw[if_pos hc];exact .inl (by simp[lookup_cons,e])
   ·rw[if_neg hc];exact .inr (by simp[lookup_cons,e])
  | false =>
   simp only[lookup_cons,e] at h
   by_cases hc:(k==NameKind.free&&env.scope.kind==.function&&env.kindOf n==some .cell)=true
   ·rw[if_pos hc];simp only[lookup_cons,e];exact ih h
   ·rw[if_neg hc];simp only[lookup_cons,e];exact ih h
def eR(X:Cx)(N':List Str)(scope:Scope)(C:Addr)(fp:List Addr)(s₀:Shared)(H₀:Hp):Cx :=
 { X with N:=N',s₀:=s₀,H₀:=H₀,env:=compEnvC scope (clOf scope X.env) C X.env,outer:=X.stack,stack:=X.stack,ex:=fp,fn:=fun _=>false,pn:=[],xe:=fun _ _=>False }
variable {H:Hp} {h:Heap}
theorem cB.track{o:HO}(x:cB P w H h)(hn:H a=none)(new:aQ P w (upd H a o) h a o):cB P w (upd H a o) h:=fun b u e=>by
 by_cases hb:b=a
 ·subst hb;rw[eB] at e;cases e;exact new
 ·rw[cj hb] at e;exact(x b u e).stay (fun c v _ q=>q) (fun c q=>by rw[cj (fO q hn)];exact q) fun c xs q=>by rw[cj (fO q hn)];exact q
variable {pins:List (Addr×Obj)} {s:Shared} {b:Addr} {js:List Nat} {caps:List Str}
section
variable {σ:St}
theorem Inv.stkNe(I:Inv X pins σ H s)(h1:b≠X.env.locals)(h2:b∉X.fs):b∉dj X.stack:=fun hb=>(mem_cons.mp (I.stkSub b hb)).elim h1 h2
theorem Inv.frees(I:Inv X pins σ H s){js:List Nat}{N':List Str}{scope:Scope}(B:gh X.N X.env.scope js N' scope):∀y∈scope.names,y.2=.free->∃c,X.env.cells.lookup y.1=some c :=
 fun y hy hf=>I.ok.has y.1 (B.frees y hy hf)
theorem H0{x:Str}{C:Addr}{fp:List Addr}{h₁:Heap}{tk:Nat}{m:Str->Option Value}(B:gh X.N X.env.scope js (x::caps) scope)(I:Inv X pins σ H s)(f2:∀b∈fp,kE X pins H b)(ho:∀b∈fp,∃o,s.heap.get? b=some o)(hC:s.heap.objs.size<=C)(old:∀b o,s.heap.get? b=some o->h₁.get? b=some o)(ns:h₁.Ns C m) :
  Inv (eR X (x::caps) scope C fp s H) [] (none::ir js σ) H { s with heap:=h₁,toks:=tk }:=by
 have fr:=I.frees B;have clo:∀y c,(clOf scope X.env).lookup y=some c->X.env.cells.lookup y=some c:=fun y c e=>zR fr e;have lt:∀b∈fp,b<s.heap.objs.size:=fun b hb=>let ⟨o,e⟩:=ho b hb;Heap.lt_size e
 refine⟨⟨I.ok.mod,B.kind,I.ok.glob,I.ok.blt,hC,fun a b c h1 h2=>I.ok.inj a b c (clo _ _ h1) (clo _ _ h2),fun y hy=>?_,fun y c h _=>absurd (show false=true from h) Bool.false_ne_true,I.ok.hd,I.ok.frames,.inl rfl,
   fun b hb=>⟨ne_of_lt (lt_of_lt_of_le (lt b hb) hC),fun y c h=>(f2 b hb).2.2.2.2.1 y c (clo y c h)⟩,I.bs,le_trans I.ok.bsz I.sz,fun b o e hb=>?_,fun b hb=>I.stkNe (f2 b hb).2.1 (f2 b hb).2.2.1,I.stack,I.stkFree⟩,
  rfl,I.bare,Un.kept old,⟨m,ns,fun i y v e1 e2 e3=>?_⟩,fun y c h=>?_,I.hok.fresh hC,fun y c h=>I.freeC y c (clo y c h),fun p hp=>absurd (show p∈([]:List (Addr×Obj)) from hp) (by simp),I.hok.kept old,?_⟩
 ·have hy':(relabel scope X.env).names.lookup y=some .cell\/(relabel scope X.env).names.lookup y=some .free:=hy;have hm:(y,NameKind.free)∈scope.names:=by
   rcases hy' with z|z
   ·obtain⟨k,h1,h2⟩:=cY z;rcases h2 with h2|⟨h2,_⟩
    ·exact absurd h2.symm (B.cell _ h1)
    ·rw[h2] at h1;exact h1
   ·obtain⟨k,h1,h2⟩:=cY z;rcases h2 with h2|⟨_,h2⟩
    ·rw[<- h2] at h1;exact h1
    ·cases h2
  exact za hm
 ·rcases(f2 b hb).2.2.2.1 with z|z
  ·exact I.ok.noex b o e z
  ·exact absurd (lt_of_lt_of_le (Heap.lt_size e) (le_trans I.ok.bsz z)) (lt_irrefl _)
 ·cases i with
  | zero =>
   have q:some (none:Option V)=some (some v):=e2;cases q
  | succ k =>
   have e1':caps[k]?=some y:=e1;have e2':(js.map fun j=>σ.getD j none)[k]?=some (some v):=e2;rw[getElem?_map] at e2';cases hj:js[k]? with
   | none=>rw[hj] at e2';cases e2'
   | some j =>
    rw[hj] at e2';have hv:σ.getD j none=some v:=Option.some.inj e2';have hσ:σ[j]?=some (some v):=by
     rw[getD_eq_getElem?_getD] at hv;cases q:σ[j]? with
     | none=>rw[q] at hv;cases hv
     | some z=>rw[q] at hv;exact congrArg some hv
    have hz:(j,y)∈js.zip caps:=mem_of_getElem? (getElem?_zip_eq_some.mpr ⟨hj,e1'⟩);obtain⟨hN,hf⟩:=B.cap (j,y) hz;have hk:=B.frees (y,.free) (PySem.mem_of_lookup hf) rfl;obtain⟨m',_,hl⟩:=I.loc;obtain⟨u,r,l⟩:=hl j y v hN hσ (.inr hk);rcases l with ⟨k1,_⟩|⟨k1,c,hcl,o,hco,hcd⟩
    ·have k1':X.env.scope.names.lookup y=some .local:=k1;have hk':X.env.scope.names.lookup y=some .cell\/X.env.scope.names.lookup y=some .free:=hk;rw[k1'] at hk';rcases hk' with z|z<;>cases z
    ·obtain⟨c',hc'⟩:=za (env:=X.env) (PySem.mem_of_lookup hf);have:=clo _ _ hc';rw[hcl] at this;cases this;exact⟨u,r,.inr ⟨dw hf,c,hc',o,old c o hco,hcd⟩⟩
 ·obtain⟨v,o,h1,h2⟩:=I.cell y c (clo y c h);exact⟨v,o,old c o h1,h2⟩
 ·show(none::ir js σ).length=(x::caps).length;rw[B.len];simp[ir]
end
def PIfs(Y:Cx)(ifs:List Expr)(tt:TT):Prop :=
 ∀(pins:List (Addr×Obj)) (s:Shared) (σ:St) (H:Hp) (Q:Bool->Hp->Prop),Inv Y pins σ H s->tt σ H Q ->
  wpAny (model Y.prog Y.w) Y.A (forIn ifs true fun c r=>if r=true then do let ok <- isTrue c Y.env (eval c Y.env);pure (ForInStep.yield ok) else pure (ForInStep.yield r)) (TP Y pins σ Q) Y.xe s
def B5:TT:=fun _ H Q=>Q true H
variable {Y:Cx}
theorem Hn:PIfs Y [] B5:=fun _ _ _ H _ I h=>wpAny_tests_nil ⟨H,I,h⟩
theorem Hm{c:Expr}{tc:TT}(h:PT Y c tc):PIfs Y [c] tc:=fun pins s σ H Q I hw=>wpAny_tests_one (h pins s σ H Q I hw)
def BC(J:It)(cs:St)(tt:TT)(te:TE)(Q:VK)(H1:Hp):Prop:=∃W:Nat->Nat->List V->Hp->Prop,(∃m,W 0 m [] H1)/\∀i m ys H2,W i m ys H2 ->
 (J.stop i H2/\∀p,H2 p=none->Q (.ref p) (upd H2 p (.lst ys))) \/
 (J.go i H2/\ys.length<sizeLine/\∃N:List V->Hp->Prop,(∀ys' H',N ys' H'->∃m',m'<m/\W (i+1) m' ys' H') /\
  ∀x H',J.yld i H2 x H'->tt (some x::cs) H' fun b H4=>if b=true then te (some x::cs) H4 fun y H5=>N (ys++[y]) H5 else N ys H4)
def qQ(js:List Nat)(wi:TI)(tt:TT)(te:TE):TE:=fun σ H Q=>wi σ H fun J H1=>BC J (ir js σ) tt te Q H1
variable {A:Around} {E:Value->Shared->Prop}
theorem Hl{α:Type}{M:Model}{Φ:Unit->Shared->Prop}{E':Value->Shared->Prop}{t:Sem α}{Ψ:α->Shared->Prop}(h:wpAny M A (pure ()) Φ E s)(k:Φ () s->wpAny M A t Ψ E' s):wpAny M A t Ψ E' s :=
 fun Γ p hΓ=>k (h Γ p hΓ) Γ p hΓ
variable {pos p:Pos} {tt:TT} {te:TE}
section
variable {elt iter:Expr} {x:Str} {px:Pos} {ifs:List Expr} {wi:TI}
theorem yq{use:Option (Value->Sem Unit)}{Qf:Value->Shared->Prop}{σ:St}{Q:VK}(B:gh X.N X.env.scope js (x::caps) scope)(hc:X.calm=true)(hx:scope.names.lookup x=some .local)(hi:PI X (.Name x px) iter wi)(ht:∀C fp s₀ H₀,PIfs (eR X (x::caps) scope C fp s₀ H₀) ifs tt)(he:∀C fp s₀ H₀,PE (eR X (x::caps) scope C fp s₀ H₀) elt te)(hs:∀v,foldedSetIterable iter X.env v=pure v)(I:Inv X pins σ H s)(hw:qQ js wi tt te σ H Q)(fin:∀(C D:Addr) (oC:Obj) (ys:List V) (H':Hp) (s1:Shared),Inv X (pins++[(C,oC)]) σ (upd H' D (.lst ys)) s1->Q (.ref D) (upd H' D (.lst ys)) ->
   (∀σ' H'' s',Inv X (pins++[(C,oC)]) σ' H'' s'->(∃m,s'.heap.Ns C m)/\∀h',Heap.SameBut C s'.heap h'->Inv X pins σ' H'' { s' with heap:=h' }) ->
   compPost (model X.prog X.w) X.A X.xe use Qf (.ref D) C (.ok .next) s1) :
  wpAny (model X.prog X.w) X.A (comprehension (.ListComp elt [⟨.Name x px,iter,ifs,0⟩] scope pos) scope X.env p (newList []) false (eval iter X.env) use) Qf X.xe s:=by
 have fr:=I.frees B;refine wpAny_comprehension_free (use:=use) rfl hs (Ip fr) B.kind B.names (aW (hi pins s σ H _ I hw) fun v s1 h1=>aW h1 fun itv s2 h2=>?_);obtain⟨it,fp,tn,J,H2,e,I2,T,st2,f2,W,⟨m0,w0⟩,turn⟩:=h2;subst e;refine wpAny_newObj_type (wpAny_newFunctionEnv B.cell (by intro y hy;simp at hy) (fun h₁ hns₁ hsb₁=>?_) B.kind);dsimp only at hns₁ hsb₁ ⊢;generalize hG:s2.heap.push { cls:=.type "list",dict:=none,data:=.seq ([]:List Value).toArray }=G at hns₁ hsb₁ ⊢;have hC:G.objs.size=s2.heap.objs.size+1:=by rw[<- hG,Heap.size_push]
 have hDC:s2.heap.objs.size≠G.objs.size:=by rw[hC];exact ne_of_lt (lt_succ_self _)
 have hCle:s2.heap.objs.size<=G.objs.size:=by rw[hC];exact le_succ _
 have old:∀b o,s2.heap.get? b=some o->h₁.get? b=some o:=fun b o e =>
  hsb₁.extBut b o (ne_of_lt (lt_of_lt_of_le (Heap.lt_size e) hCle)) (Heap.get?_push_of_some _ (hG▸Heap.get?_push_of_some _ e))
 have hacc:h₁.get? s2.heap.objs.size=some (LCg.lst []):=hsb₁.extBut _ _ hDC (Heap.get?_push_of_some _ (hG▸Heap.get?_push_size _ rfl));have fpo:∀b∈fp,∃o,s2.heap.get? b=some o:=fun b hb=>let ⟨o,e,_⟩:=T.obj 0 _ st2 b hb;⟨o,e⟩
 have fpl:∀b∈fp,b<s2.heap.objs.size:=fun b hb=>let ⟨o,e⟩:=fpo b hb;Heap.lt_size e
 have clo:∀y c,(clOf scope X.env).lookup y=some c->X.env.cells.lookup y=some c:=fun y c e=>zR fr e;have cls2:∀y c,X.env.cells.lookup y=some c->c<s2.heap.objs.size:=fun y c e=>let ⟨v,o,h1,_⟩:=I2.cell y c e;Heap.lt_size h1
 have st1:tn 0 h₁:=T.keep 0 _ _ st2 fun b _ o e=>old b o e;have D_fs:s2.heap.objs.size∉dj X.stack:=I2.stkNe (ne_of_gt I2.lt) (I2.nofs (le_refl _));have C_fs:G.objs.size∉X.fs:=I2.nofs hCle;have C_L:G.objs.size≠X.env.locals:=ne_of_gt (lt_of_lt_of_le I2.lt hCle);have fpY:∀{pl:List (Addr×Obj)} {H':Hp},(∀b∈fp,H' b=none)->(∀p∈pl,s2.heap.objs.size<=p.1)->∀b∈fp,kE (eR X (x::caps) scope G.objs.size fp s2 H2) pl H' b:=fun {pl H'} hn hp b hb =>
  ⟨hn b hb,ne_of_lt (lt_of_lt_of_le (fpl b hb) hCle),I2.stkNe (f2 b hb).2.1 (f2 b hb).2.2.1,.inl hb,fun y c h=>(f2 b hb).2.2.2.2.1 y c (clo y c h),fun p hp' z =>
   absurd (lt_of_lt_of_le (fpl b hb) (by rw[<- z];exact hp p (by simpa[eR] using hp'))) (lt_irrefl _)⟩
 have rel:∀{oC:Obj} {mC:Str->Option Value},LCg.NsObj oC mC->∀σ' H'' s',Inv X (pins++[(G.objs.size,oC)]) σ' H'' s'->(∃m,s'.heap.Ns G.objs.size m)/\∀h',Heap.SameBut G.objs.size s'.heap h'->Inv X pins σ' H'' { s' with heap:=h' }:=by
  intro oC mC hns σ' H'' s' I';obtain⟨e1,e2,e3,e4,e5⟩:=I'.pin (G.objs.size,oC) (mem_append_right _ (mem_append_right _ (by simp)));refine⟨⟨mC,hns.ns e1⟩,fun h' hs'=>?_⟩;exact(I'.unpinned).turned (t':=s'.toks) (it:=G.objs.size) (fun b o hb e=>(hs'.2 b hb).trans e) e2 e3 (.inr (le_trans I2.sz hCle)) (fun y c h z=>absurd (lt_of_lt_of_le (cls2 y c h) (by rw[z];exact hCle)) (lt_irrefl _))
   (fun q hq z=>absurd (lt_of_lt_of_le (Heap.lt_size (I2.pin q hq).1) (by rw[z];exact hCle)) (lt_irrefl _))
 have I1:Inv (eR X (x::caps) scope G.objs.size fp s2 H2) [] (none::ir js σ) H2 { s2 with heap:=h₁,toks:=s2.toks+([]:List (Str×Value)).length }:=H0 B I2 f2 fpo hCle old hns₁;have hxl:(eR X (x::caps) scope G.objs.size fp s2 H2).env.scope.names.lookup x=some .local:=lookup_relabel_local hx;have pinD:∀{us:List Value} {σ3:St} {H3:Hp} {s3:Shared},Inv (eR X (x::caps) scope G.objs.size fp s2 H2) [] σ3 H3 s3->s3.heap.get? s2.heap.objs.size=some (LCg.lst us)->H3 s2.heap.objs.size=none ->
   Inv (eR X (x::caps) scope G.objs.size fp s2 H2) [(s2.heap.objs.size,LCg.lst us)] σ3 H3 s3:=fun {us σ3 H3 s3} I3 hD nD=>I3.pins_of fun p hp=>by
  have e:p=(s2.heap.objs.size,LCg.lst us):=by simpa using hp
  subst e;exact⟨hD,nD,hDC,D_fs,fun v z=>by
   have z':Data.seq _ _=Data.cell v:=z;cases z'⟩
 have back:∀{us us':List Value} {ts:Option V} {H8:Hp} {s5 s8:Shared} {h9:Heap} {i:Nat},Inv (eR X (x::caps) scope G.objs.size fp s2 H2) ([(s2.heap.objs.size,LCg.lst us)]++m6 fp s5.heap) (ts::ir js σ) H8 s8->tn (i+1) s5.heap ->
   (∀b,b≠s2.heap.objs.size->h9.get? b=s8.heap.get? b)->h9.get? s2.heap.objs.size=some (LCg.lst us') ->
   Inv (eR X (x::caps) scope G.objs.size fp s2 H2) [] (none::ir js σ) H8 { s8 with heap:=h9 }/\tn (i+1) h9/\(∀b∈fp,H8 b=none)/\H8 s2.heap.objs.size=none:=by
  intro us us' ts H8 s5 s8 h9 i I8 st5 hk hD9;have pn:∀q∈[(s2.heap.objs.size,LCg.lst us)]++m6 fp s5.heap,s8.heap.get? q.1=some q.2/\H8 q.1=none:=fun q hq=>let z:=I8.pin q (mem_append_right _ hq);⟨z.1,z.2.1⟩
  have nD:H8 s2.heap.objs.size=none:=(pn (s2.heap.objs.size,LCg.lst us) (by simp)).2;have Iw:Inv (eR X (x::caps) scope G.objs.size fp s2 H2) [] (none::ir js σ) H8 s8:=(I8.pins_of (pins':=[]) fun q hq=>nomatch hq).weak rfl fun j v e=>by
   cases j with
   | zero =>
    have q:some (none:Option V)=some (some v):=e;cases q
   | succ j=>exact e
  refine⟨Iw.turned (t':=s8.toks) (it:=s2.heap.objs.size) (fun b o hb e=>(hk b hb).trans e) nD hDC (.inr (le_refl _)) (fun y c h z=>absurd (cls2 y c (clo y c h)) (by rw[z];exact lt_irrefl _)) (fun q hq=>absurd (show q∈([]:List (Addr×Obj)) from hq) (by simp)),
   T.keep _ _ _ st5 fun b hb o e=>?_,fun b hb=>?_,nD⟩
  ·rw[hk b (ne_of_lt (fpl b hb))];exact(pn (b,o) (mem_append_right _ (qF hb e))).1
  ·obtain⟨o,e,_⟩:=T.obj _ _ st5 b hb;exact(pn (b,o) (mem_append_right _ (qF hb e))).2
 have loop:codeAny (model X.prog X.w) X.A (.compLoop (.ListComp elt [⟨.Name x px,iter,ifs,0⟩] scope pos) 0 (.ref it) (.ref s2.heap.objs.size) (compEnvC scope (clOf scope X.env) G.objs.size X.env))
   (compPost (model X.prog X.w) X.A X.xe use Qf (.ref s2.heap.objs.size) G.objs.size) { s2 with heap:=h₁,toks:=s2.toks+([]:List (Str×Value)).length }:=by
  refine codeAny_compLoop_tests (fun n s'=>∃(i:Nat) (ys:List V) (us:List Value) (H':Hp),Inv (eR X (x::caps) scope G.objs.size fp s2 H2) [] (none::ir js σ) H' s'/\tn i s'.heap/\(∀b∈fp,H' b=none) /\
   s'.heap.get? s2.heap.objs.size=some (LCg.lst us)/\Vals ys us/\H' s2.heap.objs.size=none/\ys.length<=sizeLine/\W i n ys H') ?_ m0 ⟨0,[],[],H2,I1,st1,fun b hb=>(f2 b hb).1,hacc,.nil,I2.hok.fresh (le_refl _),zero_le _,w0⟩
  rintro n s3 ⟨i,ys,us,H3,I3,st3,fr3,hD,rv,nD,hz,w3⟩;have I3':=pinD I3 hD nD;have hpl:∀p∈[(s2.heap.objs.size,LCg.lst us)],s2.heap.objs.size<=p.1:=fun p hp=>by
   have e:p=(s2.heap.objs.size,LCg.lst us):=by simpa using hp
   subst e;exact le_refl _
  rcases turn i n ys H3 w3 with ⟨stop,q⟩|⟨go,hlt,N,hN,step⟩
  ·refine wpAny_mono (T.done (eR X (x::caps) scope G.objs.size fp s2 H2) rfl rfl rfl hc i _ s3 _ H3 (fun _ _=>False) I3' (fpY fr3 hpl) st3 stop) (fun r s4 hr=>?_) fun _ _ z=>z.elim;obtain⟨hr,I4⟩:=hr;subst hr;have hD4:s4.heap.get? s2.heap.objs.size=some (LCg.lst us):=(I4.pin (s2.heap.objs.size,LCg.lst us) (mem_append_right _ (by simp))).1;have un:Un (dj X.stack) fp H2 (upd H3 s2.heap.objs.size (.lst ys)) s2.heap s4.heap :=
    ⟨fun b o e n hb hx=>I4.base.keep b o e n hb hx,fun b o e n hb hx=>I4.base.slot b o e n hb hx,fun b o e n hx=>by rw[cj (ne_of_lt (Heap.lt_size e))];exact I4.base.free b o e n hx,fun b o e hx=>I4.base.there b o e hx,
     fun b zs e=>by have q:=I4.base.tups b zs e;rw[cj (fO q nD)];exact q,fun b o u e=>by have q:=I4.base.frzs b o u e;rw[cj (fO q nD)];exact q,
     fun b ps e=>by obtain⟨more,q⟩:=I4.base.tbls b ps e;exact⟨more,by rw[cj (fO q nD)];exact q⟩⟩
   have hok4:cB X.prog X.w (upd H3 s2.heap.objs.size (.lst ys)) s4.heap:=cB.track I4.hok nD ⟨hz,us,us.length,rv,hD4⟩;have IX:Inv X pins σ (upd H3 s2.heap.objs.size (.lst ys)) s4:=I2.call' (ch:=fp) I4.os un hok4 I4.bare fun b hb=>⟨(f2 b hb).2.2.2.1,(f2 b hb).2.1,(f2 b hb).2.2.2.2.1,(f2 b hb).2.2.2.2.2⟩
   obtain⟨mC,hnC,_⟩:=I4.loc;obtain⟨oC,eC,nsC⟩:=LCg.ns_obj hnC;have nC:(upd H3 s2.heap.objs.size (.lst ys)) G.objs.size=none:=by rw[cj (Ne.symm hDC)];exact I4.free
   have dC:∀v,oC.data≠.cell v:=fun v z=>by
    obtain⟨es,ep,d,_⟩:=nsC;rw[d] at z;cases z
   have IX':Inv X (pins++[(G.objs.size,oC)]) σ (upd H3 s2.heap.objs.size (.lst ys)) s4:=IX.pins_of fun q hq=>by
    rcases mem_append.mp hq with z|z
    ·exact IX.pin q (mem_append_right _ z)
    ·have e:q=(G.objs.size,oC):=by simpa using z
     subst e;exact⟨eC,nC,C_L,C_fs,dC⟩
   exact fin G.objs.size s2.heap.objs.size oC ys H3 s4 IX' (q _ nD) (rel nsC)
  ·refine wpAny_mono (T.item (eR X (x::caps) scope G.objs.size fp s2 H2) rfl rfl rfl hc i _ s3 _ H3 (fun _ _=>False) I3' (fpY fr3 hpl) st3 go) (fun r s4 hr=>?_) fun _ _ z=>z.elim;obtain⟨u,hr,h4⟩:=hr;subst hr;show wpAny _ _ (assign _ _ u) _ _ s4;refine Hl h4 fun h5=>?_;obtain⟨xv,H5,I5,r5,y5,st5,fr5⟩:=h5;have I5':=I5.pinned (fpY fr5 hpl) (T.obj _ _ st5);refine wpAny_mono (sR (X:=eR X (x::caps) scope G.objs.size fp s2 H2) (i:=0) (x:=x) B.nd rfl (Or.inl hxl) (.inr hxl) _ s4 _ H5 xv u (fun σ' H'=>σ'=some xv::ir js σ/\H'=H5) I5' r5 ⟨rfl,rfl⟩) (fun _ s6 h6=>?_) fun _ _ z=>False.elim z;obtain⟨σ6,H6,I6,e6,e6'⟩:=h6;subst e6 e6';refine wpAny_mono (ht _ _ _ _ _ s6 _ _ _ I6 (step xv _ y5)) (fun b s7 h7=>?_) fun _ _ z=>False.elim z;obtain⟨H7,I7,q7⟩:=h7;cases b with
   | false =>
    rw[if_neg Bool.false_ne_true] at q7;show if false=true then _ else _
    rw[if_neg Bool.false_ne_true];have hD7:s7.heap.get? s2.heap.objs.size=some (LCg.lst us):=(I7.pin (s2.heap.objs.size,LCg.lst us) (mem_append_right _ (mem_append_left _ (by simp)))).1;obtain⟨J1,J2,J3,J4⟩:=back I7 st5 (fun _ _=>rfl) hD7;obtain⟨m',hm,w'⟩:=hN _ _ q7;exact⟨m',hm,i+1,ys,us,H7,J1,J2,J3,hD7,rv,J4,hz,w'⟩
   | true =>
    rw[if_pos rfl] at q7;show if true=true then _ else _
    rw[if_pos rfl];refine wpAny_mono (he _ _ _ _ _ s7 _ _ _ I7 q7) (fun yu s8 h8=>?_) fun _ _ z=>False.elim z;obtain⟨yv,H8,I8,r8,q8⟩:=h8;have hD8:s8.heap.get? s2.heap.objs.size=some (LCg.lst us):=(I8.pin (s2.heap.objs.size,LCg.lst us) (mem_append_right _ (mem_append_left _ (by simp)))).1;have hlu:us.length=ys.length:=rv.length.symm;refine append_at hD8 (fun h9 hs9 hD9=>?_) (by rw[size_toArray,hlu];exact hz);have hD9':h9.get? s2.heap.objs.size=some (LCg.lst (us++[yu])):=hD9.trans (congrArg some (LCg.lst_snoc us yu));obtain⟨J1,J2,J3,J4⟩:=back I8 st5 hs9.2 hD9';obtain⟨m',hm,w'⟩:=hN _ _ q8;exact⟨m',hm,i+1,ys++[yv],us++[yu],H8,J1,J2,J3,hD9',rv.append (.cons r8 .nil),J4,by rw[length_append,length_singleton];exact hlt,w'⟩
 exact codeAny_compStart_list loop (T.self X.A 0 _ _ _ st1 loop)
theorem CJ(B:gh X.N X.env.scope js (x::caps) scope)(hc:X.calm=true)(hx:scope.names.lookup x=some .local)(hi:PI X (.Name x px) iter wi)(ht:∀C fp s₀ H₀,PIfs (eR X (x::caps) scope C fp s₀ H₀) ifs tt)(he:∀C fp s₀ H₀,PE (eR X (x::caps) scope C fp s₀ H₀) elt te)(hs:∀v,foldedSetIterable iter X.env v=pure v:=by intro _;rfl):PE X (.ListComp elt [⟨.Name x px,iter,ifs,0⟩] scope pos) (qQ js wi tt te):=by intro pins s σ H Q I hw;rw[eval_ListComp];refine yq (use:=none) (Q:=Q) B hc hx hi ht he hs I hw fun C D oC ys H' s1 IX q rel=>?_;obtain⟨⟨m,hn⟩,rl⟩:=rel _ _ _ IX;exact⟨m,hn,fun h' hs'=>⟨.ref D,_,rl h' hs',rfl,q⟩⟩
theorem CI{y:Str}{py spos:Pos}(B:gh X.N X.env.scope js (x::caps) scope)(hc:X.calm=true)(hx:scope.names.lookup x=some .local)(hi:PI X (.Name x px) iter wi)(ht:∀C fp s₀ H₀,PIfs (eR X (x::caps) scope C fp s₀ H₀) ifs tt)(he:∀C fp s₀ H₀,PE (eR X (x::caps) scope C fp s₀ H₀) elt te)(hN:X.N.Nodup)(hk:X.N[k]?=some y)(hy:X.env.scope.names.lookup y=some .local)(hsw:swapsWith (.ListComp elt [⟨.Name x px,iter,ifs,0⟩] scope pos) (some (.Name y py)) spos.line X.env=pure true)(hs:∀v,foldedSetIterable iter X.env v=pure v:=by intro _;rfl):PS X (.Assign [.Name y py] (.ListComp elt [⟨.Name x px,iter,ifs,0⟩] scope pos) spos) (rg (qQ js wi tt te) (ig k)):=by intro pins s σ H D I hw;rw[exec_Assign_Name_used _ _ _ _ hsw];refine wpAny_bind (wpAny_standAt (wpAny_bind ?_));show wpAny _ _ (do let _ <- comprehension (.ListComp elt [⟨.Name x px,iter,ifs,0⟩] scope pos) scope X.env _ (newList []) false (eval iter X.env) (some (assign (.Name y py) X.env))) _ _ s;refine wpAny_bind (aW (yq (use:=some (assign (.Name y py) X.env)) (Qf:=fun _ s'=>SP X pins D .next s') (Q:=fun v H1=>D.nx (σ.set k (some v)) H1) B hc hx hi ht he hs I hw fun C a oC ys H' s1 IX q rel=>?_) fun _ s' hq=>wpAny_pure (wpAny_pure hq));show wpAny _ _ (assign (.Name y py) X.env (.ref a)) _ _ s1;refine aW (sR (i:=k) hN hk (Or.inl hy) (.inr hy) _ s1 σ _ (.ref a) (.ref a) (fun σ' H'=>D.nx σ' H') IX rfl q) fun _ s' h=>?_;obtain⟨σ',H'',I',q'⟩:=h;obtain⟨⟨m,hn⟩,rl⟩:=rel _ _ _ I';exact⟨m,hn,fun h' hs'=>⟨σ',H'',rl h' hs',q'⟩⟩
end
def rG(K:Frag):List V->Hp->VK->Prop:=fun xs H Q=>∃x T t b,xs=[x,.ty T]/\c8 K H x t/\kitOne K t (.type T)=some b/\Q (.bl b) H
theorem Hk:aT X (.builtin "isinstance") (rG X.K):=by
 intro pins s σ H xs us Q I r h;obtain⟨x,T,t,b,rfl,ty,e,q⟩:=h;obtain⟨u,w',rfl,rx,ry⟩:=Cg r;cases ry;exact Ib I rx ty e fun tk=>⟨.bl b,H,I.tok tk,rfl,q⟩
theorem Je:aT X (.builtin "sorted") (fun xs H Q=>∃(a:Addr) (ns:List Int),xs=[.ref a]/\cO X.K H a (ns.map V.int)/\ns.length<64/\∀ms:List Int,ms.Perm ns->ms.Pairwise (·<=·)->∀l,H l=none->Q (.ref l) (upd H l (.lst (ms.map V.int)))):=by
 intro pins s σ H xs us Q I r h;obtain⟨a,ns,rfl,hq,h64,q⟩:=h;obtain⟨u,rfl,rx⟩:=iE r;cases rx;obtain⟨its,rv,pl,hz⟩:=I.list hq;have hlen:ns.length=its.length:=by have:=rv.length;simpa using this
 refine sorted_ints pl.isList (Iu rv) (by omega) fun out ms hI hp hs=>?_;obtain⟨e,he⟩:=sortedAll_at s.heap its out;have rv':Vals (ms.map V.int) out.toList:=oO hI;have hl':ms.length=ns.length:=hp.length_eq;refine⟨.ref (s.heap.objs.size+1),_,I.laid (t':=s.toks) (a:=s.heap.objs.size+1) (o:=.lst (ms.map V.int)) (fun b o e=>sortedAll_old e) (le_succ _) ?_,rfl,q ms hp hs _ (I.hok.fresh (le_succ _))⟩;refine⟨by rw[length_map,hl',hlen];have:=rv.length;omega,out.toList,e,rv',?_⟩;rw[toArray_toList];exact he
abbrev Rep(α:Type):=Frag->Hp->V->α->Prop
def KR:Rep Int:=fun _ _ v i=>v=.int i
def KQ{α:Type}(R:Rep α):Rep (List α):=fun K H v l=>∃p vs,v=.ref p/\cO K H p vs/\Paired (R K H) vs l
def Lu{α β:Type}(R:Rep α)(S:Rep β):Rep (α×β):=fun K H v l=>∃p x y,v=.ref p/\dX K H p [x,y]/\R K H x l.1/\S K H y l.2
theorem Paired.at2{α β:Type}{F:α->β->Prop}:∀{l₁:List α} {l₂:List β},Paired F l₁ l₂->∀(i:Nat) (a:α),l₁[i]?=some a->∃b,l₂[i]?=some b/\F a b
 | _,_,.nil,_,_,h=>by simp at h
 | _,_,.cons r t,0,a,h=>by simp at h;subst h;exact⟨_,rfl,r⟩
 | _,_,.cons r t,i+1,a,h=>by
  obtain⟨b,h1,h2⟩:=Paired.at2 t i a (by simpa using h);exact⟨b,by simpa using h1,h2⟩
section
variable {α β:Type} [DecidableEq α] [DecidableEq β] {R:Rep α} {S:Rep β} {σ:St}
end
section
variable {α β:Type} [DecidableEq α] [DecidableEq β] {R:Rep α} {S:Rep β}
end
section
variable {α:Type} [DecidableEq α] {R:Rep α}
end
section
variable {α β:Type} [DecidableEq α] [DecidableEq β] {R:Rep α} {S:Rep β}
end
variable {e:Expr}
section
variable {cX:List Stmt} {t u:TS}
end
def wD(N:List Str)(psc:Scope)(js:List Nat)(N':List Str)(scope:Scope):Bool :=
 scope.names.all (fun y=>decide (y.2≠.cell))&&decide (scope.kind=.function)&&scope.names.all (fun y=>decide (y.2=.local->scope.names.lookup y.1=some .local)) &&
 scope.names.all (fun y=>decide (y.2=.free->psc.names.lookup y.1=some .cell\/psc.names.lookup y.1=some .free))&&decide N'.Nodup&&decide (N'.length=js.length+1) &&
 (js.zip (N'.drop 1)).all (fun p=>decide (N[p.1]?=some p.2/\scope.names.lookup p.2=some .free))
theorem kc{N:List Str}{psc:Scope}{N':List Str}(h:wD N psc js N' scope=true):gh N psc js N' scope:=by unfold wD at h;simp only[and_eq_true,all_eq_true,decide_eq_true_eq] at h;obtain⟨⟨⟨⟨⟨⟨h1,h2⟩,h3⟩,h4⟩,h5⟩,h6⟩,h7⟩:=h;exact⟨h1,h2,h3,h4,h5,h6,h7⟩
theorem bo.cmp(r:bo k A)(n:Nat)(h:n<=64:=by decide):A.units+n<cLine:=by have:=r.units;omega
theorem Paired.app{α β:Type}{F:α->β->Prop}:∀{l₁ m₁:List α} {l₂ m₂:List β},Paired F l₁ l₂->Paired F m₁ m₂->Paired F (l₁++m₁) (l₂++m₂)
 | _,_,_,_,.nil,s=>s
 | _,_,_,_,.cons r t,s=>.cons r (Paired.app t s)
def pr(H:Hp)(v:V)(l:Int×Int):Prop:=∃q,v=.ref q/\H q=some (.tup [.int l.1,.int l.2])
def Lw(H:Hp)(p:Addr)(L:List (Int×Int)):Prop:=∃vs,H p=some (.lst vs)/\Paired (pr H) vs L
def CH(H:Hp)(v:V)(r:List Int):Prop:=∃q,v=.ref q/\H q=some (.tup (r.map V.int))
def K_(H:Hp)(v:V)(rows:List (List Int)):Prop:=∃q vs,v=.ref q/\H q=some (.tup vs)/\Paired (CH H) vs rows
variable {tg:Expr}
section
variable (K:Frag)
theorem Kj(hK:X.K=K:=by rfl):jU X (q9 K):=hK▸Gj
theorem Ki(hK:X.K=K:=by rfl):jU X (q5 K):=hK▸El
theorem mx(hK:X.K=K:=by rfl):aT X (.builtin "isinstance") (rG K):=hK▸Hk
def Gh(K:Frag):List V->Hp->VK->Prop:=fun xs H Q=>∃(a:Addr) (ns:List Int),xs=[.ref a]/\cO K H a (ns.map V.int)/\ns.length<64/\∀ms:List Int,ms.Perm ns->ms.Pairwise (·<=·)->∀l,H l=none->Q (.ref l) (upd H l (.lst (ms.map V.int)))
def Gg(K:Frag):List V->Hp->VK->Prop:=fun xs H Q=>∃p ys,xs=[.ref p]/\(cO K H p ys\/dX K H p ys)/\∀l,H l=none->Q (.ref l) (upd H l (.lst ys))
def xj(K:Frag):List V->Hp->VK->Prop:=fun xs H Q=>∃p ys,xs=[.ref p]/\((cO K H p ys/\∀l,H l=none->Q (.ref l) (upd H l (.tup ys)))\/(dX K H p ys/\Q (.ref p) H))
theorem n9(hK:X.K=K:=by rfl):aT X (.type "tuple") (xj K):=hK▸Jz
theorem slT(hK:X.K=K:=by rfl):u1 X (vb K):=hK▸Em
variable {l a:Expr} {tl ta:TE}
def BB(K:Frag)(ta:TE):TT:=fun σ H Q=>ta σ H fun x H'=>∃k,ph K x H' k/\Q k H'
theorem CG(ha:PE X a ta)(he:∀whole,isTrue a X.env whole=(do let v <- whole;standAt a.pos;holding [v] (truthy v)))(hK:X.K=K:=by rfl):PT X a (BB K ta):=hK▸G7 ha he
variable {α:Type} [DecidableEq α] {R:Rep α}
end
variable {y:V} {o:Option V} {u:Value}
section
variable {κ:Type} [DecidableEq κ]
def gn(kvs:List (κ×V))(k:κ):Option V:=(kvs.find? fun kv=>decide (kv.1=k)).map (·.2)
def fM(kvs:List (κ×V))(k:κ)(v:V):List (κ×V) :=
 if (kvs.any fun kv=>decide (kv.1=k))=true then kvs.map (fun kv=>if kv.1=k then (kv.1,v) else kv) else kvs++[(k,v)]
def Ky(kvs:List (κ×V))(k:κ):List (κ×V):=kvs.filter fun kv=>decide (kv.1≠k)
theorem oN{p:κ×V}{r:List (κ×V)}{k:κ}(e:p.1=k):gn (p::r) k=some p.2:=by simp[gn,find?_cons,e]
theorem oM{p:κ×V}{r:List (κ×V)}{k:κ}(e:¬p.1=k):gn (p::r) k=gn r k:=by simp[gn,find?_cons,e]
theorem y_(k:κ):∀kvs:List (κ×V),(kvs.any fun kv=>decide (kv.1=k))=(gn kvs k).isSome
 | []=>rfl
 | p::r=>by
  rw[any_cons]
  by_cases e:p.1=k
  ·simp only[oN e,decide_eq_true e,Bool.true_or,isSome_some]
  ·rw[oM e,decide_eq_false e,Bool.false_or];exact y_ k r
theorem uB(kvs:List (κ×V))(k:κ)(v:V):(fM kvs k v).length<=kvs.length+1:=by
 unfold fM;split
 ·rw[length_map];omega
 ·rw[length_append,length_cons,length_nil];omega
theorem cT.isSome_eq{u:Option Value}(r:cT o u):o.isSome=u.isSome:=by
 cases o with
 | none=>cases u with
  | none=>rfl
  | some _=>exact(show False from r).elim
 | some _=>cases u with
  | none=>exact(show False from r).elim
  | some _=>rfl
theorem KV.val{kvs:List (κ×V)}{vs:List (κ×Value)}(r:KV kvs vs)(k:κ):cT (gn kvs k) (valueAt vs k):=by
 unfold KV at r
 induction r with
 | nil=>exact True.intro
 | @cons p q ps qs h t ih =>
  obtain⟨h1,h2⟩:=h
  by_cases e:p.1=k
  ·have e':q.1=k:=h1.symm.trans e;have b:valueAt (q::qs) k=some q.2:=by simp[valueAt,find?_cons,e']
   rw[oN e,b];exact h2
  ·have e':¬q.1=k:=fun z=>e (h1.trans z);have b:valueAt (q::qs) k=valueAt qs k:=by simp[valueAt,find?_cons,e']
   rw[oM e,b];exact ih
theorem KV.any{kvs:List (κ×V)}{vs:List (κ×Value)}(r:KV kvs vs)(k:κ):(kvs.any fun kv=>decide (kv.1=k))=vs.any fun kv=>decide (kv.1=k):=by
 unfold KV at r
 induction r with
 | nil=>rfl
 | cons h t ih=>rw[any_cons,any_cons,ih,h.1]
theorem KV.repl{kvs:List (κ×V)}{vs:List (κ×Value)}(r:KV kvs vs)(k:κ)(ry:RelV y u) :
  KV (kvs.map fun kv=>if kv.1=k then (kv.1,y) else kv) (vs.map fun kv=>if kv.1=k then (kv.1,u) else kv):=by
 unfold KV at r ⊢
 induction r with
 | nil=>exact .nil
 | @cons p q ps qs h t ih =>
  rw[map_cons,map_cons];refine .cons ?_ ih;obtain⟨h1,h2⟩:=h
  by_cases e:p.1=k
  ·rw[if_pos e,if_pos (h1.symm.trans e)];exact⟨h1,ry⟩
  ·rw[if_neg e,if_neg (fun z=>e (h1.trans z))];exact⟨h1,h2⟩
theorem KV.put{kvs:List (κ×V)}{vs:List (κ×Value)}(r:KV kvs vs)(k:κ)(ry:RelV y u):KV (fM kvs k y) (stored vs k u):=by
 unfold fM stored;rw[r.any k]
 by_cases e:(vs.any fun kv=>decide (kv.1=k))=true
 ·rw[if_pos e,if_pos e];exact r.repl k ry
 ·rw[if_neg e,if_neg e];exact Paired.snoc r ⟨rfl,ry⟩
theorem KV.keys{kvs:List (κ×V)}{vs:List (κ×Value)}(r:KV kvs vs):kvs.map (·.1)=vs.map (·.1):=by
 unfold KV at r
 induction r with
 | nil=>rfl
 | cons h t ih=>rw[map_cons,map_cons,ih,h.1]
theorem KV.length{kvs:List (κ×V)}{vs:List (κ×Value)}(r:KV kvs vs):kvs.length=vs.length:=Paired.length r
end
theorem fx{k:Key}(r:RelV (kV k) u):(dG P w).is k u=true:=by
 rcases k with i|_|x
 ·obtain⟨t,rfl⟩:=r;exact Ji P w i t
 ·cases (show u=Value.none from r);rfl
 ·obtain⟨t,rfl⟩:=r;exact Jh P w x t
theorem zQ{P:Program}{w:World}:∀{ks:List Key} {us:List Value},Vals (ks.map kV) us->ItemsAre (dG P w) ks us
 | [],_,r=>by rw[map_nil] at r;cases r;exact .nil
 | k::ks,_,r=>by
  rw[map_cons] at r;cases r with
  | cons h t=>exact .cons (fx h) (zQ t)
abbrev KT(H:Hp):List (List Key×V)->List (List Key×Addr×Value)->Prop:=Paired fun p q=>p.1=q.1/\H q.2.1=some (.tup (p.1.map kV))/\RelV p.2 q.2.2
variable {xs:List (List Key×Addr×Value)}
theorem KT.val{kvs:List (List Key×V)}(r:KT H kvs xs)(k:List Key):cT (gn kvs k) ((atKey xs k).map (·.2)):=by
 induction r with
 | nil=>exact True.intro
 | @cons p q ps qs h t ih =>
  obtain⟨h1,_,h2⟩:=h
  by_cases e:p.1=k
  ·have e':q.1=k:=h1.symm.trans e;have b:atKey (q::qs) k=some q.2:=by simp[atKey,find?_cons,e']
   rw[oN e,b];exact h2
  ·have e':¬q.1=k:=fun z=>e (h1.trans z);have b:atKey (q::qs) k=atKey qs k:=by simp[atKey,find?_cons,e']
   rw[oM e,b];exact ih
theorem KT.repl{kvs:List (List Key×V)}(r:KT H kvs xs)(k:List Key)(ry:RelV y u) :
  KT H (kvs.map fun kv=>if kv.1=k then (kv.1,y) else kv) (xs.map (putAt k u)):=by
 induction r with
 | nil=>exact .nil
 | @cons p q ps qs h t ih =>
  rw[map_cons,map_cons];refine .cons ?_ ih;obtain⟨h1,h2,h3⟩:=h;unfold putAt
  by_cases e:p.1=k
  ·rw[if_pos e,if_pos (h1.symm.trans e)];exact⟨h1,h2,ry⟩
  ·rw[if_neg e,if_neg (fun z=>e (h1.trans z))];exact⟨h1,h2,h3⟩
theorem KT.put{kvs:List (List Key×V)}(r:KT H kvs xs)(k:List Key)(hb:H b=some (.tup (k.map kV)))(ry:RelV y u) :
  KT H (fM kvs k y) (storedH xs k b u):=by
 have e:(kvs.any fun kv=>decide (kv.1=k))=(atKey xs k).isSome:=by rw[y_,(r.val k).isSome_eq,isSome_map]
 unfold fM storedH;rw[e]
 by_cases q:(atKey xs k).isSome=true
 ·rw[if_pos q,if_pos q];exact r.repl k ry
 ·rw[if_neg q,if_neg q];exact Paired.snoc r ⟨rfl,hb,ry⟩
variable {H':Hp}
theorem KT.keeps{kvs:List (List Key×V)}(r:KT H kvs xs)(ht:∀b ys,H b=some (.tup ys)->H' b=some (.tup ys)):KT H' kvs xs :=
 Paired.mapP r fun _ _ z=>⟨z.1,ht _ _ z.2.1,z.2.2⟩
theorem wC{u:HO}(ok:cB P w H h)(e:Rd H a u):aQ P w H h a u:=e.ok ok
theorem lH{kvs:List (Key×V)}(ok:cB P w H h)(e:Rd H a (.dK kvs)):kvs.length<=sizeLine/\(a==sysModules)=false/\∃vs,KV kvs vs/\h.DictOf (dG P w) a vs :=
 show aQ P w H h a (.dK kvs) from wC ok e
theorem wA{kvs:List (Key×V)}(ok:cB P w H h)(e:H a=some (.dK kvs)):kvs.length<=sizeLine/\(a==sysModules)=false/\∃vs,KV kvs vs/\h.DictOf (dG P w) a vs:=lH ok (.inl e)
theorem eV{ks:List Key}(ok:cB P w H h)(e:H a=some (.tup (ks.map kV))):(tupleKind (dG P w)).is h ks a:=by
 obtain⟨_,its,r,o,h1,h2,⟨n,h3⟩,_⟩:=(show aQ P w H h a (.tup (ks.map kV)) from ok a _ e)
 exact⟨o,its.toArray,n,h1,h2,h3,by simpa using zQ r⟩
theorem pF{kvs:List (List Key×V)}(ok:cB P w H h)(e:Rd H a (.dT kvs)):kvs.length<=sizeLine/\(a==sysModules)=false /\
  ∃xs,KT H kvs xs/\h.DictOfH (tupleKind (dG P w)) a xs:=by
 obtain⟨z,y,xs,r,o,es,ep,h1,h2,h3,h4,h5⟩:=(show aQ P w H h a (.dT kvs) from wC ok e)
 refine⟨z,y,xs,r,o,es,ep,h1,h2,h3,h4,fun x hx=>?_,h5⟩;have all:∀{l:List (List Key×V)} {m:List (List Key×Addr×Value)},KT H l m->∀x∈m,(tupleKind (dG P w)).is h x.1 x.2.1:=by
  intro l m q
  induction q with
  | nil=>intro x hx;exact nomatch hx
  | @cons p q ps qs hq t ih =>
   intro x hx;rcases mem_cons.mp hx with e|hx
   ·subst e;exact eV ok (by rw[<- hq.1];exact hq.2.1)
   ·exact ih x hx
 exact all r x hx
theorem wu{kvs:List (List Key×V)}(ok:cB P w H h)(e:H a=some (.dT kvs)):kvs.length<=sizeLine/\(a==sysModules)=false /\
  ∃xs,KT H kvs xs/\h.DictOfH (tupleKind (dG P w)) a xs:=pF ok (.inl e)
def c9(H:Hp)(a:Addr)(y:V)(r:Option V):Prop :=
 (∃kvs k,Rd H a (.dK kvs)/\y=kV k/\r=gn kvs k)\/∃kvs k b,Rd H a (.dT kvs)/\y=.ref b/\H b=some (.tup (k.map kV))/\r=gn kvs k
def jv(H:Hp)(a:Addr)(y v:V)(H':Hp):Prop :=
 (∃kvs k,H a=some (.dK kvs)/\y=kV k/\kvs.length<sizeLine/\H'=upd H a (.dK (fM kvs k v))) \/
 ∃kvs k b,H a=some (.dT kvs)/\y=.ref b/\H b=some (.tup (k.map kV))/\kvs.length<sizeLine/\H'=upd H a (.dT (fM kvs k v))
theorem c9.kz{kvs:List (Key×V)}{k:Key}(e:H a=some (.dK kvs)):c9 H a (kV k) (gn kvs k):=.inl ⟨kvs,k,.inl e,rfl,rfl⟩
theorem c9.t{kvs:List (List Key×V)}{k:List Key}(e:H a=some (.dT kvs))(eb:H b=some (.tup (k.map kV))):c9 H a (.ref b) (gn kvs k):=.inr ⟨kvs,k,b,.inl e,rfl,eb,rfl⟩
variable {v:V}
theorem jv.kz{kvs:List (Key×V)}{k:Key}(e:H a=some (.dK kvs))(hl:kvs.length<sizeLine):jv H a (kV k) v (upd H a (.dK (fM kvs k v))):=.inl ⟨kvs,k,e,rfl,hl,rfl⟩
variable {vs:List (Key×Value)} {Q:Value->Shared->Prop} {r:Value} {h':Heap}
section
variable {σ:St}
theorem Inv.big(I:Inv X pins σ H s):sysModules<s.heap.objs.size:=by have h:mainGlobals<s.heap.objs.size:=(I.mod.glob.keeps I.bk).lt;exact lt_trans (by decide) h
theorem HZ(hu:A.units+1<cLine)(I:Inv X pins σ H s)(g:c9 H a y (some v))(ry:RelV y u)(h:∀w' s',Inv X pins σ H s'->RelV v w'->Q w' s') :
  wpAny (model X.prog X.w) A (getItem (.ref a) u) Q E s:=by
 rcases g with ⟨kvs,k,e,ey,l⟩|⟨kvs,k,b,e,ey,eb,l⟩
 ·subst ey;obtain⟨z,hd,vs,rel,dd⟩:=lH I.hok e;obtain⟨w',hw,rw'⟩:=cT.some_of (v:=v) (o:=valueAt vs k) (by rw[l];exact rel.val k);exact wpAny_getItem_of (fx ry) dd.mapOf hw (h w' _ (I.tok _) rw')
 ·subst ey;cases (show u=Value.ref b from ry);obtain⟨z,hd,xs,rel,dd⟩:=pF I.hok e;obtain⟨w',hw,rw'⟩:=cT.some_of (v:=v) (o:=(atKey xs k).map (·.2)) (by rw[l];exact rel.val k);obtain⟨p,hp,hp2⟩:=map_eq_some_iff.mp hw;refine wpAny_getItem_heap (tupleKind_room_in1 hu) (eV I.hok eb) dd hp ?_;rw[hp2];exact h w' _ (I.tok _) rw'
theorem Gf(hu:A.units+1<cLine)(I:Inv X pins σ H s)(g:c9 H a y o)(ry:RelV y u)(h:∀s',Inv X pins σ H s'->Q (.bool (!o.isSome)) s') :
  wpAny (model X.prog X.w) A (compareOp .NotIn u (.ref a)) Q E s:=by
 rcases g with ⟨kvs,k,e,ey,l⟩|⟨kvs,k,b,e,ey,eb,l⟩
 ·subst ey;obtain⟨z,hd,vs,rel,dd⟩:=lH I.hok e;refine wpAny_notIn_of (fx ry) hd dd.mapOf ?_;rw[<- (rel.val k).isSome_eq,<- l];exact h _ (I.tok _)
 ·subst ey;cases (show u=Value.ref b from ry);obtain⟨z,hd,xs,rel,dd⟩:=pF I.hok e;refine wpAny_notIn_heap (tupleKind_room_in1 hu) (eV I.hok eb) hd dd ?_;have q:=(rel.val k).isSome_eq;rw[isSome_map] at q;rw[<- q,<- l];exact h _ (I.tok _)
theorem sP{t':Nat}{ob:HO}(I:Inv X pins σ H s)(mu:oZ (H a))(hs:Heap.SameBut a s.heap h')(he:∃q,h'.get? a=some q)(new:aQ X.prog X.w (upd H a ob) h' a ob) :
  Inv X pins σ (upd H a ob) { s with heap:=h',toks:=t' } :=
 I.write (x:=a) (e:=a) mu (.inl rfl) (fun b q hb z=>(hs.2 b hb).trans z) he new
theorem xi{kvs:List (Key×V)}(z:kvs.length<=sizeLine)(hd:(a==sysModules)=false)(rel:KV kvs vs)(dd:h'.DictOf (dG P w) a vs) :
  aQ P w H' h' a (.dK kvs):=⟨z,hd,vs,rel,dd⟩
theorem HY{Q:Unit->Shared->Prop}(hu:A.units+1<cLine)(I:Inv X pins σ H s)(g:jv H a y v H')(ry:RelV y u)(rv:RelV v r)(h:∀s',Inv X pins σ H' s'->Q () s') :
  wpAny (model X.prog X.w) A (setItem (.ref a) u r) Q E s:=by
 rcases g with ⟨kvs,k,e,ey,l,eH⟩|⟨kvs,k,b,e,ey,eb,l,eH⟩
 ·subst ey eH;obtain⟨z,hd,vs,rel,dd⟩:=wA I.hok e;have hz:vs.length<=sizeLine:=by rw[<- rel.length];exact z
  have hl:(fM kvs k v).length<=sizeLine:=by have:=uB kvs k v;omega
  refine wpAny_setItem_pairs (hsz:=hz) (fx ry) dd fun h' dd' hs=>h _ ?_;have he:∃q,h'.get? a=some q:=let ⟨q,_,_,hq,_⟩:=dd';⟨q,hq⟩
  exact sP I (by rw[e];exact True.intro) hs he (xi hl hd (rel.put k rv) dd')
 ·subst ey eH;cases (show u=Value.ref b from ry);obtain⟨z,hd,xs,rel,dd⟩:=wu I.hok e;have hz:xs.length<=sizeLine:=by rw[<- Paired.length rel];exact z
  have hl:(fM kvs k v).length<=sizeLine:=by have:=uB kvs k v;omega
  refine wpAny_setItem_heap (hsz:=hz) (tupleKind_room_in1 hu) (eV I.hok eb) dd fun h' dd' hs=>h _ ?_;obtain⟨q,es,ep,hq,h2,h3,h4,_,h5⟩:=dd';refine sP I (by rw[e];exact True.intro) hs ⟨q,hq⟩ ⟨hl,hd,_,(rel.put k eb rv).keeps fun c ys ec=>?_,q,es,ep,hq,h2,h3,h4,h5⟩;rw[cj (C7 ec e (fun z=>nomatch z))];exact ec
end
section
variable {σ:St} {kvs:List (Key×V)} {k:Key}
theorem CF(I:Inv X pins σ H s)(e:Rd H a (.dK kvs))(h:∀t s',Inv X pins σ H s'->Q (.int kvs.length t) s'):wpAny (model X.prog X.w) A (call (.builtin "len") [.ref a]) Q E s:=by obtain⟨z,hd,vs,rel,dd⟩:=lH I.hok e;refine call_len_dict hd dd (by rw[<- rel.length];rw[sizeLine_eq] at z;omega) ?_;rw[<- rel.length];exact h _ _ (I.tok _)
end
def pf(i:Expr):Prop:=∀ov iv,subscripted i false ov iv=operate [ov,iv] (getItem ov iv)
variable {prog:Program} {value:Expr}
theorem Ge{slice:Expr}{T id:String}(hl:typeLookup (.type T) "__getitem__" = pure (some (.builtin id)))(hs:pf slice)(h:wpAny (model prog w) A (eval value env) (fun o s₁=>wpAny (model prog w) A (eval slice env) (fun i s₂=>s₂.TypeIs o T/\wpAny (model prog w) A (getItem o i) Q E s₂) E s₁) E s) :
  wpAny (model prog w) A (eval (.Subscript value slice pos) env) Q E s:=by
 refine Subscript_ (wpAny_mono h (fun o s₁ h₁=>wpAny_mono h₁ (fun i s₂ h₂=>?_) fun _ _ x=>x) fun _ _ x=>x);obtain⟨hT,h₂⟩:=h₂;unfold subscriptTail;refine wpAny_bind ?_;rw[getitemInPython_of_ne hT.not_modules];refine wpAny_bind (wpAny_specialOf hT hl ?_);have fin:wpAny (model prog w) A (subscripted slice false o i) (fun r s₃=>wpAny (model prog w) A (letTemporaryGo value o r >>= fun _=>pure r) Q E s₃) E s₂:=by rw[hs o i];exact wpAny_operating (wpAny_mono h₂ (fun r s₃ h₃=>wpAny_bind (wpAny_letTemporaryGo (wpAny_pure h₃))) fun _ _ x=>x)
 first
  | exact wpAny_pure (wpAny_bind fin)
  | exact wpAny_bind (wpAny_pure (wpAny_bind fin))
  | exact wpAny_bind fin
theorem gf{σ:St}(I:Inv X pins σ H s)(g:c9 H a y o):s.TypeIs (.ref a) "dict" := by
 rcases g with ⟨kvs,k,e,_,_⟩|⟨kvs,k,b,e,_,_,_⟩
 ·obtain⟨_,_,vs,_,dd⟩:=lH I.hok e;exact dd.typeIs
 ·obtain⟨_,_,xs,_,dd⟩:=pF I.hok e;exact dd.typeIs
def CD(td ty:TE):TE:=fun σ H Q=>td σ H fun x H1=>ty σ H1 fun y H2=>∃a v,x=.ref a/\c9 H2 a y (some v)/\Q v H2
def Gd(ty td:TE):TE:=fun σ H Q=>ty σ H fun y H1=>td σ H1 fun x H2=>∃a o,x=.ref a/\c9 H2 a y o/\Q (.bl (!o.isSome)) H2
def CC(td ty tv:TE):TS:=fun D σ H=>tv σ H fun v H1=>td σ H1 fun x H2=>ty σ H2 fun y H3=>∃a H4,x=.ref a/\jv H3 a y v H4/\D.nx σ H4
variable {pos':Pos} {td tv:TE}
section
variable {o i:Expr} {tpos:Pos} {ty:TE}
theorem yp(hu:X.A.units+1<cLine)(ho:PE X o td)(hi:PE X i ty)(hs:pf i):PE X (.Subscript o i pos) (CD td ty):=by intro pins s σ H Q I h;refine Ge PySem.F.slot_dict_getitem.lookup hs (aW (ho pins s σ H _ I h) fun u s1 ⟨x,H1,I1,rx,q1⟩=>aW (hi pins s1 σ H1 _ I1 q1) fun iv s2 ⟨y,H2,I2,ry,a,v,ex,g,q2⟩=>?_);subst ex;obtain rfl:u=Value.ref a:=rx;exact⟨gf I2 g,HZ hu I2 g ry fun w' s3 I3 rw'=>⟨v,H2,I3,rw',q2⟩⟩
theorem zP(hu:X.A.units+1<cLine)(hi:PE X i ty)(ho:PE X o td):PC X .NotIn i o (Gd ty td):=by
 intro pins s σ H Q I h;refine aW (hi pins s σ H _ I h) fun iv s1 ⟨y,H1,I1,ry,q1⟩=>aW (ho pins s1 σ H1 _ I1 q1) fun u s2 ⟨x,H2,I2,rx,a,ov,ex,g,q2⟩=>?_;subst ex;obtain rfl:u=Value.ref a:=rx;exact Gf hu I2 g ry fun s3 I3=>⟨.bl (!ov.isSome),H2,I3,rfl,q2⟩
theorem Gb(hu:X.A.units+1<cLine)(ho:PE X o td)(hi:PE X i ty)(hv:PE X value tv)(hs:swapsWith value (some (.Subscript o i pos')) pos.line X.env=pure false) :
  PS X (.Assign [.Subscript o i pos'] value pos) (CC td ty tv):=by
 intro pins s σ H D I h;refine wpAny_Assign_Subscript (aW (hv pins s σ H _ I h) fun r s1 ⟨v,H1,I1,rv,q1⟩=>aW (ho pins s1 σ H1 _ I1 q1) fun u s2 ⟨x,H2,I2,rx,q2⟩=>aW (hi pins s2 σ H2 _ I2 q2) fun iv s3 ⟨y,H3,I3,ry,a,H4,ex,g,q3⟩=>?_) hs;subst ex;obtain rfl:u=Value.ref a:=rx;exact HY hu I3 g ry rv fun s4 I4=>⟨σ,H4,I4,q3⟩
end
theorem y9(h:Heap)(hb:sysModules<h.objs.size):aQ P w H (h.push { cls:=.type "dict",data:=.dict #[] }) h.objs.size (.dK []) :=
 ⟨zero_le _,beq_eq_false_iff_ne.mpr (Ne.symm (ne_of_lt hb)),[],.nil,Heap.DictOf.new h⟩
def EK:TE:=fun _ H Q=>∀p,H p=none->Q (.ref p) (upd H p (.dK []))
theorem Hj:PE X (.Dict [] [] pos) EK:=fun pins s σ H Q I h =>
 wpAny_Dict_empty ⟨.ref s.heap.objs.size,_,I.laid (a:=s.heap.objs.size) (o:=.dK []) (t':=s.toks) (fun _ _ q=>Heap.get?_push_of_some _ q) (le_refl _) (y9 s.heap I.big),rfl,h _ (I.hok.fresh (le_refl _))⟩
def sx:List (TE×TE)->St->Hp->(List (V×V)->Hp->Prop)->Prop
 | [],_,H,Q=>Q [] H
 | (tk,tv)::r,σ,H,Q=>tk σ H fun x H1=>tv σ H1 fun y H2=>sx r σ H2 fun ps H3=>Q ((x,y)::ps) H3
abbrev VV:List (V×V)->List (Value×Value)->Prop:=Paired fun p q=>RelV p.1 q.1/\RelV p.2 q.2
def qV(X:Cx)(pos:Pos)(keys:List (Option Expr))(values:List Expr)(trs:List (TE×TE)):Prop :=
 ∀(pins:List (Addr×Obj)) (s:Shared) (σ:St) (H:Hp) (Q:List (V×V)->Hp->Prop),Inv X pins σ H s->sx trs σ H Q ->
  wpAny (model X.prog X.w) X.A (evalPairs (pairTrees keys values X.env pos)) (fun vs s'=>∃ps H',Inv X pins σ H' s'/\VV ps vs/\Q ps H') X.xe s
theorem E7:qV X pos [] [] []:=fun pins s σ H Q I h=>pairTrees_nil_walk ⟨[],H,I,.nil,h⟩
variable {trs:List (TE×TE)}
theorem Hi{k v:Expr}{ks:List (Option Expr)}{vs:List Expr}{tk:TE}(hk:PE X k tk)(hv:PE X v tv)(hr:qV X pos ks vs trs) :
  qV X pos (some k::ks) (v::vs) ((tk,tv)::trs):=fun pins s σ H Q I h =>
 pairTrees_cons_walk (aW (hk pins s σ H _ I h) fun u s1 ⟨x,H1,I1,rx,q1⟩=>aW (hv pins s1 σ H1 _ I1 q1) fun w2 s2 ⟨y,H2,I2,ry,q2⟩ =>
  aW (hr pins s2 σ H2 _ I2 q2) fun ws s3 ⟨ps,H3,I3,rel,q3⟩=>⟨(x,y)::ps,H3,I3,.cons ⟨rx,ry⟩ rel,q3⟩)
def lR(kvs more:List (Key×V)):List (Key×V):=more.foldl (fun acc kv=>fM acc kv.1 kv.2) kvs
theorem KV.merge:∀{more:List (Key×V)} {rs:List (Key×Value)} {kvs:List (Key×V)} {vs:List (Key×Value)},KV more rs->KV kvs vs->KV (lR kvs more) (merged vs rs):=by
 intro more rs kvs vs r;unfold KV at r
 induction r generalizing kvs vs with
 | nil=>intro q;exact q
 | @cons p q ps qs h t ih =>
  intro r0;have e:KV (fM kvs p.1 p.2) (stored vs q.1 q.2):=by have:=r0.put p.1 h.2;rw[<- h.1];exact this
  exact ih e
theorem A4:∀(more kvs:List (Key×V)),(lR kvs more).length<=kvs.length+more.length
 | [],kvs=>by show kvs.length<=kvs.length+0;omega
 | p::r,kvs=>by
  have h1:=A4 r (fM kvs p.1 p.2);have h2:=uB kvs p.1 p.2;show(lR (fM kvs p.1 p.2) r).length<=_;rw[length_cons];omega
theorem AA{P:Program}{w:World}:∀{kvs:List (Key×V)} {ws:List (Value×Value)},VV (kvs.map fun kv=>(kV kv.1,kv.2)) ws->∃rs,Carries (dG P w) ws rs/\KV kvs rs
 | [],_,r=>by rw[map_nil] at r;cases r;exact⟨[],True.intro,.nil⟩
 | p::kvs,_,r=>by
  rw[map_cons] at r;cases r with
  | @cons a b as bs h t =>
   obtain⟨rs,c,q⟩:=AA (P:=P) (w:=w) t;obtain⟨b1,b2⟩:=b;exact⟨(p.1,b2)::rs,⟨fx h.1,rfl,c⟩,.cons ⟨rfl,h.2⟩ q⟩
def CB(trs:List (TE×TE)):TE:=fun σ H Q=>∀p,H p=none->sx trs σ (upd H p (.dK [])) fun ps H2=>H2 p=some (.dK [])/\∃kvs:List (Key×V),ps=kvs.map (fun kv=>(kV kv.1,kv.2))/\kvs.length<=15/\Q (.ref p) (upd H2 p (.dK (lR [] kvs)))
theorem E6{keys:List (Option Expr)}{values:List Expr}(h:qV X pos keys values trs)(hall:keys.all (·.isSome)=true)(hl:keys.length=values.length)(h0:keys≠[])(h15:keys.length<=15):PE X (.Dict keys values pos) (CB trs):=by
 intro pins s σ H Q I q;have hn:=I.hok.fresh (le_refl s.heap.objs.size);have I1:=I.laid (a:=s.heap.objs.size) (o:=.dK []) (h':=s.heap.push { cls:=.type "dict",data:=.dict #[] }) (t':=s.toks) (fun _ _ q=>Heap.get?_push_of_some _ q) (le_refl _) (y9 s.heap I.big);refine wpAny_Dict_walk (knd:=dG X.prog X.w) hall hl h0 h15 (aW (h pins _ σ _ _ I1 (q _ hn)) fun ws s2 ⟨ps,H2,I2,rel,e,kvs,ep,lk,q2⟩=>?_);subst ep;obtain⟨rs,c,rk⟩:=AA (P:=X.prog) (w:=X.w) rel;obtain⟨z,hd,vs0,r0,dd⟩:=wA I2.hok e;cases r0;refine⟨rs,c,dd,fun h' dd' hs=>⟨.ref s.heap.objs.size,_,?_,rfl,q2⟩⟩;have hz:(lR [] kvs).length<=sizeLine:=by have h1:=A4 kvs [];rw[length_nil] at h1;rw[sizeLine_eq];omega
 have he:∃q,h'.get? s.heap.objs.size=some q:=let ⟨q,_,_,hq,_⟩:=dd';⟨q,hq⟩
 exact sP I2 (by rw[e];exact True.intro) hs he (xi hz hd (rk.merge .nil) dd')
section
variable {σ:St} {d:V}
end
section
variable {o f:Expr} {apos cpos:Pos} {ty tx:TE}
end
section
variable {σ:St} {kvs:List (Key×V)}
end
section
variable {σ:St}
end
theorem HX:aT X (.builtin "len") (fun xs H Q=>∃a kvs,xs=[V.ref a]/\H a=some (.dK kvs)/\Q (.int kvs.length) H):=by
 intro pins s σ H xs us Q I r h;obtain⟨a,kvs,rfl,ha,q⟩:=h;obtain⟨u,rfl,ru⟩:=iE r;cases ru;exact CF I (.inl ha) fun t s' I'=>⟨.int kvs.length,H,I',⟨t,rfl⟩,q⟩
section
variable {κ:Type} [DecidableEq κ]
end
section
variable {K:Type} [DecidableEq K] (knd:KeyKind prog w K)
def Ls(h:Heap)(p:List K×K)(a:Addr):Prop:=∃o b v n,h.get? a=some o/\o.cls=.type "tuple" /\ o.data=.seq #[.ref b,v] n/\IsTupleKey knd h p.1 b/\knd.is p.2 v=true
variable {knd}
end
def Kg(p:List Int×Int):Int:=reduceHash (Builtin.Tuple.tupleHashOf [reduceHash (Builtin.Tuple.tupleHashOf (p.1.map hashInt)),hashInt p.2])
def BA(a:Addr)(xs:List ((List Int×Int)×Addr))(h:Heap):Prop:=xs.length<=sizeLine/\(a==sysModules)=false/\∃o es ep,h.get? a=some o/\o.ExactDict/\o.data=.dict es ep/\es.toList=xs.map (fun x=>(⟨Kg x.1,.ref x.2,.bool true⟩:DictEntry))/\(xs.map (·.1)).Nodup
def KN(H:Hp)(xs:List ((List Int×Int)×Addr)):Prop:=∀x∈xs,∃b,H x.2=some (.tup [.ref b,.int x.1.2])/\H b=some (.tup (x.1.1.map V.int))
section
variable {xs:List ((List Int×Int)×Addr)}
def KP(xs:List ((List Int×Int)×Addr))(p:List Int×Int)(a:Addr):List ((List Int×Int)×Addr):=if p∈xs.map (·.1) then xs else xs++[(p,a)]
theorem KN.keeps(kn:KN H xs)(ht:∀b ys,H b=some (.tup ys)->H' b=some (.tup ys)):KN H' xs:=fun x hx=>by
 obtain⟨b,e,eb⟩:=kn x hx;exact⟨b,ht _ _ e,ht _ _ eb⟩
end
section
variable {i o:Expr} {ty:TE}
end
theorem Az{kvs:List (Key×V)}(rel:KV kvs vs)(hk:kvs.map (·.1)=ns.map Sum.inl){acc:Array Value}(h:ItemsOf (fun i v=>∃k x,vs[i]?=some (k,x)/\(dG P w).is k v=true) acc vs.length):IntsAre acc.toList ns:=by
 have hl:acc.toList.length=ns.length:=by rw[length_toList,h.1,<- length_map (f:=fun x:Key×Value=>x.1),<- KV.keys rel,hk,length_map]
 have at':∀(i:Nat) (v:Value),acc.toList[i]?=some v->∃t,v=Value.int (ns.getD i 0) t:=by
  intro i v hv;obtain⟨k,x,h1,h2⟩:=h.2 i v (by rw[<- getElem?_toList];exact hv);have e:(ns.map Sum.inl:List Key)[i]?=some k:=by rw[<- hk,KV.keys rel,getElem?_map,h1];rfl
  rw[getElem?_map] at e;cases q:ns[i]? with
  | none=>rw[q] at e;cases e
  | some n =>
   rw[q] at e;simp only[map_some,Option.some.injEq] at e;subst e;rcases k6 (k:=Sum.inl n) (v:=v) h2 with ⟨j,t,e1,e2⟩|⟨j,t,e1,e2⟩|⟨e1,e2⟩
   ·cases e1;exact⟨t,by rw[e2,getD_eq_getElem?_getD,q];rfl⟩
   ·cases e1
   ·cases e1
 clear h;revert hl at';generalize acc.toList=us;clear hk
 induction ns generalizing us with
 | nil=>intro hl _;cases us with|nil=>exact .nil|cons a r=>simp at hl
 | cons n ns ih =>
  intro hl h;cases us with
  | nil=>simp at hl
  | cons a r =>
   obtain⟨t,rfl⟩:=h 0 a rfl;exact .cons n t (ih r (by simpa using hl) fun i v hv=>h (i+1) v hv)
theorem Jx(hc:X.calm=true):aT X (.builtin "sorted") (fun xs H Q=>∃(a:Addr) (kvs:List (Key×V)) (ns:List Int),xs=[.ref a]/\Rd H a (.dK kvs)/\kvs.map (·.1)=ns.map Sum.inl/\ns.length<64 /\
  ∀ms:List Int,ms.Perm ns->ms.Pairwise (·<=·)->∀l,H l=none->Q (.ref l) (upd H l (.lst (ms.map V.int)))):=by
 intro pins s σ H xs us Q I r h;obtain⟨a,kvs,ns,rfl,hd,hk,h64,q⟩:=h;obtain⟨u,rfl,rx⟩:=iE r;cases rx;obtain⟨hz,hS,vs,rel,dd⟩:=lH I.hok hd;obtain⟨ep,hat⟩:=dd.dictAt;have hh:X.A.in1.handled=none:=I.ok.hd hc;have hlen:vs.length=ns.length:=by rw[<- KV.length rel,<- length_map (f:=fun x:Key×V=>x.1),hk,length_map]
 refine Calls.call_function_entry kind_sorted plain_sorted entry_sorted (args_sorted1 _) ?_;unfold Builtin.«sorted»;refine wpAny_bind (m:=checkCount "sorted" 1 1 _) (wpAny_pure ?_);refine wpAny_bind (PySem.W.kdu_collect (A:=X.A.in1) (kdl_dict (knd:=dG X.prog X.w) (kvs:=vs) (ep:=ep) hS) hh hat (by rw[<- KV.length rel];exact hz) fun h' tk acc hkp hacc=>?_);have hI:=Az rel hk hacc;have hal:acc.toList.length=ns.length:=by rw[length_toList,hacc.1,hlen]
 refine wpAny_bind (wpAny_newList ?_ (by rw[hal,<- hlen,<- KV.length rel];exact hz));have hoL:(h'.push (seqObj "list" acc.toList.toArray 0)).get? h'.objs.size=some (seqObj "list" acc.toList.toArray 0):=Heap.get?_push_size _ rfl;refine wpAny_bind (wpAny_holding (wpAny_call_entry slot_list_sort ⟨_,hoL,rfl⟩ entry_list_sort (list_sort_tree hoL hI (by omega) fun out ns' a1 a2 a3=>⟨_,rfl,?_⟩) (args_list_sort _)));refine wpAny_pure ⟨_,rfl,?_⟩;obtain⟨e,he⟩:=sortedHeap_at (out:=out) hoL;have I1:Inv X pins σ H { s with heap:=h',toks:=tk }:=I.kept hkp;have rv':Vals (ns'.map V.int) out.toList:=oO a1;refine⟨.ref h'.objs.size,_,I1.laid (t':=tk) (a:=h'.objs.size) (o:=.lst (ns'.map V.int)) (fun b o hb=>?_) (le_refl _) ?_,rfl,q ns' a2 a3 _ I1.fresh⟩
 ·have hb:h'.get? b=some o:=hb;have hlt:=Heap.lt_size hb;show(sortedHeap (h'.push (seqObj "list" acc.toList.toArray 0)) h'.objs.size acc.toList out).get? b=some o;rw[sortedHeap_old (ne_of_lt hlt) (by rw[size_push'];exact lt_succ_of_lt hlt)];exact Heap.get?_push_of_some _ hb
 ·refine⟨by rw[length_map,a2.length_eq,<- hlen,<- KV.length rel];exact hz,out.toList,e,rv',?_⟩;rw[toArray_toList];exact he
theorem Io(hc:X.calm=true):aT X (.type "list") (fun xs H Q=>∃(a:Addr) (kvs:List (Key×V)) (ns:List Int),xs=[.ref a]/\Rd H a (.dK kvs)/\kvs.map (·.1)=ns.map Sum.inl/\∀l,H l=none->Q (.ref l) (upd H l (.lst (ns.map V.int)))):=by
 intro pins s σ H xs us Q I r h;obtain⟨a,kvs,ns,rfl,hd,hk,q⟩:=h;obtain⟨u,rfl,rx⟩:=iE r;cases rx;obtain⟨hz,hS,vs,rel,dd⟩:=lH I.hok hd;obtain⟨ep,hat⟩:=dd.dictAt;have hlen:vs.length=ns.length:=by rw[<- KV.length rel,<- length_map (f:=fun x:Key×V=>x.1),hk,length_map]
 refine PySem.W.kdl_call (kdl_dict (knd:=dG X.prog X.w) (kvs:=vs) (ep:=ep) hS) (I.ok.hd hc) hat (by rw[<- KV.length rel];exact hz) fun h' tk acc c hkp hD hacc=>?_;have hI:=Az rel hk hacc;refine⟨.ref s.heap.objs.size,_,I.laid (t':=tk) (a:=s.heap.objs.size) (o:=.lst (ns.map V.int)) hkp (le_refl _) ?_,rfl,q _ I.fresh⟩;refine⟨by rw[length_map,<- hlen,<- KV.length rel];exact hz,acc.toList,c,oO hI,?_⟩;rw[toArray_toList];exact hD
theorem HW{a:Expr}{ta:TA}(hg:Gl X "range")(hm:X.mg "range" = none)(ha:PA X [a] ta)(hs:starEach [a] X.env=[(false,eval a X.env)]:=by rfl) :
  PE X (.Call (.Name "range" p) [a] [] pos) (fun σ H Q=>ta σ H fun vs H1=>∃j:Int,vs=[.int j]/\∀p,H1 p=none->Q (.ref p) (upd H1 p (.rng 0 j))):=by
 intro pins s σ H Q I h;refine Call_ (og I hg hm boot_range (PyProof.Rows.callWith_type1 (aW (ha pos pins s σ H _ I h) fun us s1 ⟨vs,H1,I1,r1,q1⟩=>?_) hs rfl));obtain⟨j,e,q⟩:=q1;subst e;cases r1 with
 | cons r rr =>
  cases rr;obtain⟨t,rfl⟩:=r;refine call_range_1 ⟨.ref s1.heap.objs.size,_,I1.laid (t':=s1.toks+1+1) (a:=s1.heap.objs.size) (o:=.rng 0 j) (fun b o e=>Heap.get?_push_of_some _ e) (le_refl _) ?_,rfl,q _ I1.fresh⟩;exact⟨_,_,_,Heap.get?_push_size _ rfl⟩
theorem Jw(hc:X.calm=true):aT X (.type "list") (fun xs H Q=>∃(p:Addr) (lo hi:Int),xs=[.ref p]/\H p=some (.rng lo hi)/\-(2 ^ 62)<=lo/\lo<2 ^ 62/\-(2 ^ 62)<=hi/\hi<2 ^ 62/\(hi-lo).toNat<=sizeLine /\
  ∀l,H l=none->Q (.ref l) (upd H l (.lst ((List.range (hi-lo).toNat).map fun(i:Nat)=>V.int (lo+(i:Int)))))):=by
 intro pins s σ H xs us Q I r h;obtain⟨p,lo,hi,rfl,hp,h1,h2,h3,h4,hz,q⟩:=h;obtain⟨u,rfl,rx⟩:=iE r;cases rx;obtain⟨t,u,v,hr⟩:=I.hok p _ hp;have hn:Builtin.Range.rangeSize lo hi 1=(((hi-lo).toNat:Nat):Int):=by rw[rangeSize_one];split<;>omega
 refine PySem.call_list_range (I.ok.hd hc) hr (small_one h1 h2 h3 h4) hn (by rw[sizeLine_eq] at hz;exact hz) fun h' tk acc c hkp hD hacc=>?_;refine⟨.ref s.heap.objs.size,_,I.laid (t':=tk) (a:=s.heap.objs.size) (o:=.lst ((List.range (hi-lo).toNat).map fun(i:Nat)=>V.int (lo+(i:Int)))) hkp (le_refl _) ?_,rfl,q _ I.fresh⟩;refine⟨by rw[length_map,length_range];exact hz,acc.toList,c,?_,by rw[toArray_toList];exact hD⟩;have hl:acc.toList.length=(hi-lo).toNat:=by rw[length_toList];exact hacc.1
 have hv:∀(i:Nat) (v:Value),acc.toList[i]?=some v->∃t,v=Value.int (lo+(i:Int)) t:=fun i v e=>by
  obtain⟨t,e'⟩:=hacc.2 i v (by rw[<- getElem?_toList];exact e);exact⟨t,by rw[e',mul_one]⟩
 clear hn hz hacc hD;revert hl hv;generalize acc.toList=us;generalize (hi-lo).toNat=n;intro hl hv;have:∀(us:List Value) (k:Nat),(∀(i:Nat) (v:Value),us[i]?=some v->∃t,v=Value.int (lo+((k+i:Nat):Int)) t)->Vals ((List.range' k us.length).map fun(i:Nat)=>V.int (lo+(i:Int))) us:=by
  intro us
  induction us with
  | nil=>intro k _;exact .nil
  | cons a r ih =>
   intro k h;obtain⟨t,rfl⟩:=h 0 a rfl;rw[length_cons,range'_succ,map_cons];refine .cons ⟨t,by simp⟩ (ih (k+1) fun i v e=>?_);obtain⟨t',e'⟩:=h (i+1) v e;exact⟨t',by rw[e'];congr 2;omega⟩
 have q':=this us 0 fun i v e=>by simpa using hv i v e
 rw[<- range_eq_range',hl] at q';exact q'
def Kn(a:Addr)(o:Obj)(ps:List (Key×V)):It where
 go:=fun i H=>H a=some (.frz o (.dK ps))/\i<ps.length
 yld:=fun i H x H'=>H'=H/\∃p,ps[i]?=some p/\x=kV p.1
 stop:=fun i H=>H a=some (.frz o (.dK ps))/\ps.length=i
end L2
namespace VS
open PySem PySem.Spec PyProof.Rows L2
abbrev St:=L2.St
variable {k:Nat}
theorem e9{α:Type}{l:List α}{a:α}(h:l[k]?=some a):k<l.length:=(List.getElem?_eq_some_iff.mp h).1
variable {i j:Nat}
theorem pM{α:Type}{l:List α}(h:l.Nodup)(hi:i<l.length)(hj:j<l.length)(e:l[i]=l[j]):i=j:=by
 have p:=pairwise_iff_getElem.mp h;rcases lt_trichotomy i j with q|q|q
 ·exact absurd e (p i j hi hj q)
 ·exact q
 ·exact absurd e.symm (p j i hj hi q)
inductive W where
 | non|bl (b:Bool)|int (i:Int)|str (x:Str)|ty (n:String)|lst (xs:List W)|tup (xs:List W)|cel (k:Nat)
inductive C where
 | lst (xs:List W)|dct (kvs:List (Key×W))|ins (c:Str) (fs:List (Str×W))|exn (c:Str)|exm (c f:Str) (n:Int)|dead|fzd (kvs:List (Key×W))|dtp (kvs:List (List Key×W))|ndt (ks:List (List Int×Int))
def C.nf:C->Bool
 | .fzd _=>false
 | _=>true
def Kh:HO->Bool
 | .frz _ _=>false
 | _=>true
abbrev Ce:=List C
abbrev Sl:=List (Option W)
structure d_ where
 nm:Str
 fld:Option (Str×W)
inductive R (α:Type) where
 | ok (a:α) (ce:Ce)|ex (x:d_) (ce:Ce)
abbrev M(α:Type):=Ce->Option (R α)
structure Ga where
 K:Frag
 cl:Str->Addr
 xr:d_->Value->Option Addr->Hp->Prop
mutual
def Rep(F:Hp)(as:List Addr):W->V->Prop
 | .non,v=>v=.non
 | .bl b,v=>v=.bl b
 | .int i,v=>v=.int i
 | .str x,v=>v=.str x
 | .ty n,v=>v=.ty n
 | .lst xs,v=>∃a vs,v=.ref a/\Rd F a (.lst vs)/\aj F as xs vs
 | .tup xs,v=>∃a vs,v=.ref a/\F a=some (.tup vs)/\aj F as xs vs
 | .cel k,v=>∃a,v=.ref a/\as[k]?=some a
def aj(F:Hp)(as:List Addr):List W->List V->Prop
 | [],vs=>vs=[]
 | x::xs,vs=>∃v r,vs=v::r/\Rep F as x v/\aj F as xs r
end
structure Le (F:Hp) (as:List Addr) (F':Hp) (as':List Addr):Prop where
 f:∀a o,F a=some o->F' a=some o
 c:∀(k:Nat) (a:Addr),as[k]?=some a->as'[k]?=some a
variable {F:Hp} {as:List Addr}
theorem Le.refl:Le F as F as:=⟨fun _ _ h=>h,fun _ _ h=>h⟩
theorem Le.trans{F1 F2:Hp}{as1 as2:List Addr}(h:Le F as F1 as1)(h':Le F1 as1 F2 as2):Le F as F2 as2:=⟨fun a o e=>h'.f a o (h.f a o e),fun k a e=>h'.c k a (h.c k a e)⟩
variable {F':Hp} {as':List Addr} {a:Addr} {o:HO}
theorem Le.rd(h:Le F as F' as')(r:Rd F a o):Rd F' a o:=by
 rcases r with r|⟨u,r⟩
 ·exact .inl (h.f _ _ r)
 ·exact .inr ⟨u,h.f _ _ r⟩
mutual
theorem Rep.le{F F':Hp}{as as':List Addr}(h:Le F as F' as'):∀{w:W} {v:V},Rep F as w v->Rep F' as' w v
 | .non,_,r=>by simpa only[Rep] using r
 | .bl _,_,r=>by simpa only[Rep] using r
 | .int _,_,r=>by simpa only[Rep] using r
 | .str _,_,r=>by simpa only[Rep] using r
 | .ty _,_,r=>by simpa only[Rep] using r
 | .lst xs,_,r=>by
  simp only[Rep] at r ⊢;obtain⟨a,vs,e,q,s⟩:=r;exact⟨a,vs,e,h.rd q,aj.le h s⟩
 | .tup xs,_,r=>by
  simp only[Rep] at r ⊢;obtain⟨a,vs,e,q,s⟩:=r;exact⟨a,vs,e,h.f _ _ q,aj.le h s⟩
 | .cel k,_,r=>by
  simp only[Rep] at r ⊢;obtain⟨a,e,q⟩:=r;exact⟨a,e,h.c _ _ q⟩
theorem aj.le{F F':Hp}{as as':List Addr}(h:Le F as F' as'):∀{ws:List W} {vs:List V},aj F as ws vs->aj F' as' ws vs
 | [],_,r=>by simpa only[aj] using r
 | _::_,_,r=>by
  simp only[aj] at r ⊢;obtain⟨v,r',e,q,s⟩:=r;exact⟨v,r',e,Rep.le h q,aj.le h s⟩
end
variable {ws:List W} {vs:List V} {v:V}
theorem aj.nil:aj F as [] []:=by simp only[aj]
theorem aj.cons{w:W}{v:V}{ws:List W}{vs:List V}(h:Rep F as w v)(t:aj F as ws vs):aj F as (w::ws) (v::vs):=by simp only[aj];exact⟨v,vs,rfl,h,t⟩
theorem aj.length:∀{ws:List W} {vs:List V},aj F as ws vs->vs.length=ws.length
 | [],_,r=>by simp only[aj] at r;subst r;rfl
 | _::_,_,r=>by
  simp only[aj] at r;obtain⟨v,r',rfl,_,s⟩:=r;simp only[length_cons,aj.length s]
theorem aj.get:∀{ws:List W} {vs:List V} {i:Nat} {w:W},aj F as ws vs->ws[i]?=some w->∃v,vs[i]?=some v/\Rep F as w v
 | [],_,_,_,_,e=>by simp at e
 | _::_,_,0,_,r,e=>by
  simp only[aj] at r;obtain⟨v,r',rfl,q,s⟩:=r;simp at e;subst e;exact⟨v,rfl,q⟩
 | _::_,_,i+1,w,r,e=>by
  simp only[aj] at r;obtain⟨v,r',rfl,q,s⟩:=r;obtain⟨u,h1,h2⟩:=aj.get (i:=i) (w:=w) s (by simpa using e);exact⟨u,by simpa using h1,h2⟩
theorem aj.get'(r:aj F as ws vs)(e:vs[i]?=some v):∃w,ws[i]?=some w/\Rep F as w v:=by have hl:=r.length;have hi:i<vs.length:=e9 e;have e1:ws[i]?=some ws[i]:=getElem?_eq_getElem (by omega);obtain⟨u,h1,h2⟩:=r.get e1;rw[e] at h1;cases h1;exact⟨_,e1,h2⟩
theorem aj.append:∀{ws zs:List W} {vs us:List V},aj F as ws vs->aj F as zs us->aj F as (ws++zs) (vs++us)
 | [],_,_,_,r,s=>by simp only[aj] at r;subst r;exact s
 | _::_,_,_,_,r,s=>by
  simp only[aj] at r;obtain⟨v,r',rfl,q,t⟩:=r;exact .cons q (aj.append t s)
theorem aj.set:∀{ws:List W} {vs:List V} {w:W} {v:V} (i:Nat),aj F as ws vs->Rep F as w v->aj F as (ws.set i w) (vs.set i v)
 | [],_,_,_,_,r,_=>by simp only[aj] at r;subst r;exact .nil
 | _::_,_,_,_,0,r,h=>by
  simp only[aj] at r;obtain⟨v,r',rfl,q,t⟩:=r;exact .cons h t
 | _::_,_,_,_,i+1,r,h=>by
  simp only[aj] at r;obtain⟨v,r',rfl,q,t⟩:=r;exact .cons q (aj.set i t h)
theorem aj.take:∀{ws:List W} {vs:List V} (n:Nat),aj F as ws vs->aj F as (ws.take n) (vs.take n)
 | _,_,0,_=>by rw[take_zero,take_zero];exact .nil
 | [],_,_+1,r=>by simp only[aj] at r;subst r;exact .nil
 | _::_,_,n+1,r=>by
  simp only[aj] at r;obtain⟨v,r',rfl,q,t⟩:=r;exact .cons q (aj.take n t)
theorem aj.drop:∀{ws:List W} {vs:List V} (n:Nat),aj F as ws vs->aj F as (ws.drop n) (vs.drop n)
 | _,_,0,r=>r
 | [],_,_+1,r=>by simp only[aj] at r;subst r;exact .nil
 | _::_,_,n+1,r=>by
  simp only[aj] at r;obtain⟨v,r',rfl,q,t⟩:=r;exact aj.drop n t
theorem aj.dropLast(r:aj F as ws vs):aj F as ws.dropLast vs.dropLast:=by rw[dropLast_eq_take,dropLast_eq_take,r.length];exact r.take _
theorem aj.rep{ws:List W}{vs:List V}(r:aj F as ws vs):∀n,aj F as (List.replicate n ws).flatten (List.replicate n vs).flatten
 | 0=>.nil
 | n+1=>by rw[replicate_succ,replicate_succ,flatten_cons,flatten_cons];exact r.append (r.rep n)
theorem aj.ints:∀(ns:List Int),aj F as (ns.map W.int) (ns.map V.int)
 | []=>.nil
 | n::r=>.cons (by simp only[Rep]) (aj.ints r)
theorem aj.of_ints:∀{ns:List Int} {vs:List V},aj F as (ns.map W.int) vs->vs=ns.map V.int
 | [],_,r=>by simpa only[map_nil,aj] using r
 | n::ns,_,r=>by
  simp only[map_cons,aj,Rep] at r;obtain⟨v,r',rfl,rfl,t⟩:=r;rw[aj.of_ints t,map_cons]
theorem bN{α β γ δ:Type}{p q:α->β->γ->δ->Prop}{g:Prop}(h:∃a b c d,p a b c d/\q a b c d)(k:∀a b c d,p a b c d->q a b c d->g):g:=by obtain⟨a,b,c,d,h1,h2⟩:=h;exact k a b c d h1 h2
theorem bu{α β γ δ:Type}{p q r s:α->β->γ->δ->Prop}{g:Prop}(h:∃a b c d,p a b c d/\q a b c d/\r a b c d/\s a b c d)(k:∀a b c d,p a b c d->q a b c d->r a b c d->s a b c d->g):g:=by obtain⟨a,b,c,d,h1,h2,h3,h4⟩:=h;exact k a b c d h1 h2 h3 h4
def aD{κ:Type}(F:Hp)(as:List Addr)(kvs:List (κ×W))(ps:List (κ×V)):Prop:=Paired (fun(p:κ×W) (q:κ×V)=>p.1=q.1/\Rep F as p.2 q.2) kvs ps
theorem aD.le{κ:Type}{F F':Hp}{as as':List Addr}(h:Le F as F' as'){kvs:List (κ×W)}{ps:List (κ×V)}(r:aD F as kvs ps):aD F' as' kvs ps:=Paired.mapP r fun _ _ z=>⟨z.1,z.2.le h⟩
def tgC:Value->Option Addr
 | .ref C=>some C
 | .int _ C=>some C
 | _=>none
def Tg(t:Value)(o:Obj):Prop:=match t with
 | .int i C=>o.cls=.ref C/\o.dict=some i.toNat
 | v=>o.cls=v
theorem Tg.cls{t:Value}{o:Obj}{C:Addr}(h:Tg t o)(e:tgC t=some C):o.cls=.ref C:=by
 cases t<;>simp only[tgC,Option.some.injEq,reduceCtorEq] at e
 ·subst e;exact h.1
 ·subst e;exact h
theorem Tg.same{t:Value}{o o':Obj}(h:Tg t o)(e1:o'.cls=o.cls)(e2:o'.dict=o.dict):Tg t o':=by
 unfold Tg at h ⊢;split at h
 ·exact⟨e1.trans h.1,e2.trans h.2⟩
 ·exact e1.trans h
def u_(a:Addr)(cls:Value)(h:Heap):Prop:=∃o vs,h.get? a=some o/\Tg cls o/\o.data=.fields vs/\∃a0,vs[0]?=some a0
def u9(D:Addr)(f:Str)(n:Int)(h:Heap):Prop:=∃m t,h.Ns D m/\m f=some (.int n t)
def c_(G:Ga)(F:Hp)(as:List Addr)(H:Hp)(a:Addr):C->Prop
 | .lst xs=>∃vs,H a=some (.lst vs)/\aj F as xs vs
 | .dct kvs=>∃ps,H a=some (.dK ps)/\aD F as kvs ps
 | .ins c fs=>∃dx ps,H a=some (.ins (G.cl c) dx ps)/\aD F as fs ps
 | .exn c=>H a=some (.ext (u_ a (.ref (G.cl c))))
 | .exm c f n=>∃D:Addr,H a=some (.ext (u_ a (.int (D:Int) (G.cl c))))/\F D=some (.ext (u9 D f n))
 | .dead=>∃o,H a=some o
 | .fzd kvs=>∃o ps,F a=some (.frz o (.dK ps))/\H a=some (.frz o (.dK ps))/\aD F as kvs ps
 | .dtp kvs=>∃ps,H a=some (.dT ps)/\aD F as kvs ps
 | .ndt ks=>∃xs:List ((List Int×Int)×Addr),H a=some (.ext (BA a xs))/\xs.map (·.1)=ks/\KN F xs
structure aB (G:Ga) (F:Hp) (as:List Addr) (H:Hp) (ce:Ce):Prop where
 sub:∀a o,F a=some o->H a=some o
 nd:as.Nodup
 len:as.length=ce.length
 cell:∀(k:Nat) (a:Addr) (c:C),as[k]?=some a->ce[k]?=some c->(c.nf=true->F a=none)/\c_ G F as H a c
structure SR (G:Ga) (F:Hp) (as:List Addr) (H:Hp) (σ:VS.St) (sl:Sl) (ce:Ce):Prop where
 st:aB G F as H ce
 len:σ.length=sl.length
 slot:∀(i:Nat) (w:W),sl[i]?=some (some w)->∃v,σ[i]?=some (some v)/\Rep F as w v
variable {G:Ga} {H H':Hp} {sl:Sl} {ce ce':Ce} {w:W}
section
variable {σ:VS.St} {p:Addr}
theorem c_.tracked{c:C}(h:c_ G F as H a c):∃o,H a=some o:=by
 cases c with
 | lst xs=>obtain⟨vs,e,_⟩:=h;exact⟨_,e⟩
 | dct xs=>obtain⟨vs,e,_⟩:=h;exact⟨_,e⟩
 | ins c xs=>obtain⟨dx,vs,e,_⟩:=h;exact⟨_,e⟩
 | exn c=>exact⟨_,h⟩
 | exm c f n=>obtain⟨D,e,_⟩:=h;exact⟨_,e⟩
 | dead=>exact h
 | fzd xs=>obtain⟨o,ps,_,e,_⟩:=h;exact⟨_,e⟩
 | dtp xs=>obtain⟨vs,e,_⟩:=h;exact⟨_,e⟩
 | ndt ks=>obtain⟨vs,e,_⟩:=h;exact⟨_,e⟩
theorem c_.le{c:C}(l:Le F as F' as')(hH:H' a=H a)(h:c_ G F as H a c):c_ G F' as' H' a c:=by
 cases c with
 | lst xs=>obtain⟨vs,e,r⟩:=h;exact⟨vs,hH.trans e,r.le l⟩
 | dct xs=>obtain⟨vs,e,r⟩:=h;exact⟨vs,hH.trans e,r.le l⟩
 | ins c xs=>obtain⟨dx,vs,e,r⟩:=h;exact⟨dx,vs,hH.trans e,r.le l⟩
 | exn c=>exact hH.trans h
 | exm c f n=>obtain⟨D,e,r⟩:=h;exact⟨D,hH.trans e,l.f _ _ r⟩
 | dead=>obtain⟨o,e⟩:=h;exact⟨o,hH.trans e⟩
 | fzd xs=>obtain⟨o,ps,e1,e2,r⟩:=h;exact⟨o,ps,l.f _ _ e1,hH.trans e2,r.le l⟩
 | dtp xs=>obtain⟨vs,e,r⟩:=h;exact⟨vs,hH.trans e,r.le l⟩
 | ndt ks=>obtain⟨vs,e,k,r⟩:=h;exact⟨vs,hH.trans e,k,r.keeps fun b ys q=>l.f _ _ q⟩
theorem aB.at(S:aB G F as H ce){c:C}(h:ce[k]?=some c):∃a,as[k]?=some a/\(c.nf=true->F a=none)/\c_ G F as H a c:=by have hk:k<ce.length:=e9 h;have e:as[k]?=some (as[k]'(by rw[S.len];exact hk)):=getElem?_eq_getElem _;exact⟨_,e,S.cell _ _ _ e h⟩
theorem aB.tracked(S:aB G F as H ce)(h:as[k]?=some a):∃o,H a=some o:=by have hk:k<as.length:=e9 h;have e:ce[k]?=some (ce[k]'(by rw[<- S.len];exact hk)):=getElem?_eq_getElem _;exact(S.cell _ _ _ h e).2.tracked
theorem SR.slots(S:SR G F as H σ sl ce)(S':aB G F' as' H' ce')(l:Le F as F' as'):SR G F' as' H' σ sl ce' :=
 ⟨S',S.len,fun i w e=>let ⟨v,h1,h2⟩:=S.slot i w e;⟨v,h1,h2.le l⟩⟩
theorem SR.var(S:SR G F as H σ sl ce)(h:sl[i]?=some (some w)):∃v,σ[i]?=some (some v)/\Rep F as w v:=S.slot i w h
theorem SR.put(S:SR G F as H σ sl ce)(r:Rep F as w v)(i:Nat):SR G F as H (σ.set i (some v)) (sl.set i (some w)) ce:=by
 refine⟨S.st,by rw[length_set,length_set];exact S.len,fun j u e=>?_⟩
 by_cases hj:i=j
 ·subst hj;have hi:i<sl.length:=by have:=e9 e;rwa [length_set] at this
  rw[getElem?_set_self hi] at e;cases e;exact⟨v,by rw[getElem?_set_self (by rw[S.len];exact hi)],r⟩
 ·rw[getElem?_set_ne hj] at e;obtain⟨v',h1,h2⟩:=S.slot j u e;exact⟨v',by rw[getElem?_set_ne hj];exact h1,h2⟩
theorem hV(hF:F p=none):∀a u,F a=some u->upd F p o a=some u:=fun a u e=>by
 rw[cj (fO e hF)];exact e
theorem aB.freeze(S:aB G F as H ce)(hp:H p=none):aB G (upd F p o) as (upd H p o) ce/\Le F as (upd F p o) as:=by
 have hF:F p=none:=by
  cases e:F p with
  | none=>rfl
  | some u=>rw[S.sub _ _ e] at hp;cases hp
 have l:Le F as (upd F p o) as:=⟨hV hF,fun _ _ h=>h⟩
 refine⟨⟨fun a u e=>?_,S.nd,S.len,fun k a c h1 h2=>?_⟩,l⟩
 ·by_cases ha:a=p
  ·subst ha;rw[eB] at e ⊢;exact e
  ·rw[cj ha] at e ⊢;exact S.sub _ _ e
 ·obtain⟨q1,q2⟩:=S.cell k a c h1 h2;obtain⟨u,hu⟩:=q2.tracked;have ha:a≠p:=fO hu hp;exact⟨fun hn=>by rw[cj ha];exact q1 hn,q2.le l (cj ha)⟩
theorem aB.alloc(S:aB G F as H ce)(hp:H p=none){c:C}(hc:∀as',Le F as F as'->c_ G F as' (upd H p o) p c):aB G F (as++[p]) (upd H p o) (ce++[c])/\Le F as F (as++[p]):=by
 have hF:F p=none:=by
  cases e:F p with
  | none=>rfl
  | some u=>rw[S.sub _ _ e] at hp;cases hp
 have l:Le F as F (as++[p]):=⟨fun _ _ h=>h,fun k a h=>by
  have hk:k<as.length:=e9 h;rw[getElem?_append_left hk];exact h⟩
 refine⟨⟨fun a u e=>?_,?_,by rw[length_append,length_append,S.len];rfl,fun k a c' h1 h2=>?_⟩,l⟩
 ·rw[cj (fO (S.sub _ _ e) hp)];exact S.sub _ _ e
 ·rw[nodup_append];refine⟨S.nd,by simp,fun a ha b hb=>?_⟩;obtain⟨k,hk⟩:=getElem?_of_mem ha;obtain⟨u,hu⟩:=S.tracked hk;rw[mem_singleton] at hb;subst hb;exact fO hu hp
 ·by_cases hk:k<ce.length
  ·rw[getElem?_append_left (by rw[S.len];exact hk)] at h1;rw[getElem?_append_left hk] at h2;obtain⟨q1,q2⟩:=S.cell k a c' h1 h2;obtain⟨u,hu⟩:=q2.tracked;exact⟨q1,q2.le l (cj (fO hu hp))⟩
  ·rw[getElem?_append_right (by rw[S.len];omega)] at h1;rw[getElem?_append_right (by omega)] at h2;have e:k-as.length=0:=by
    cases q:k-as.length with
    | zero=>rfl
    | succ n=>rw[q] at h1;simp at h1
   rw[e] at h1;rw[<- S.len,e] at h2;simp at h1 h2;subst h1;subst h2;exact⟨fun _=>hF,hc _ l⟩
theorem aB.write(S:aB G F as H ce)(h1:as[k]?=some a){c:C}(hc:c_ G F as (upd H a o) a c)(hm:∃o',H a=some o'/\Kh o'=true:=by exact⟨_,by assumption,rfl⟩):aB G F as (upd H a o) (ce.set k c):=by
 have hk:k<ce.length:=by rw[<- S.len];exact e9 h1
 have e:ce[k]?=some ce[k]:=getElem?_eq_getElem hk;obtain⟨q1,q2⟩:=S.cell k a _ h1 e;have q1:F a=none:=by
  cases ek:ce[k] with
  | fzd xs =>
   rw[ek] at q2;obtain⟨o1,ps,_,e2,_⟩:=q2;obtain⟨o',e3,hn⟩:=hm;rw[e2] at e3;cases e3;cases hn
  | _=>exact q1 (by rw[ek];rfl)
 refine⟨fun b u e'=>?_,S.nd,by rw[length_set];exact S.len,fun j b c' h1' h2'=>?_⟩
 ·rw[cj (fun z=>by subst z;rw[q1] at e';cases e')];exact S.sub _ _ e'
 ·by_cases hj:k=j
  ·subst hj;rw[getElem?_set_self hk] at h2';rw[h1] at h1';cases h1';cases h2';exact⟨fun _=>q1,hc⟩
  ·rw[getElem?_set_ne hj] at h2';obtain⟨p1,p2⟩:=S.cell j b c' h1' h2';have hb:b≠a:=fun z=>by
    subst z;have hj':j<as.length:=e9 h1';have hk':k<as.length:=by rw[S.len];exact hk
    have e1:as[k]=as[j]:=by rw[getElem?_eq_getElem hk'] at h1;rw[getElem?_eq_getElem hj'] at h1';exact(Option.some.inj h1).trans (Option.some.inj h1').symm
    exact hj (pM S.nd hk' hj' e1)
   exact⟨p1,p2.le .refl (cj hb)⟩
end
def az{α β:Type}(m:M α)(f:α->M β):M β:=fun ce=>match m ce with
 | some (.ok a ce')=>f a ce'
 | some (.ex x ce')=>some (.ex x ce')
 | none=>none
def ret{α:Type}(a:α):M α:=fun ce=>some (.ok a ce)
def look{α:Type}(f:Ce->Option α):M α:=fun ce=>(f ce).map fun a=>R.ok a ce
def lK{α:Type}:M α:=fun _=>none
def aO{α β:Type}(G:Ga)(E:XK)(RP:Hp->List Addr->α->β->Prop)(F:Hp)(as:List Addr)(σ:VS.St)(sl:Sl)(Q:β->Hp->Prop):Option (R α)->Prop
 | some (.ok a ce')=>∀b H' F' as',Le F as F' as'->SR G F' as' H' σ sl ce'->RP F' as' a b->Q b H'
 | some (.ex x ce')=>∀H' F' as' cv od,Le F as F' as'->aB G F' as' H' ce'->G.xr x cv od F'->E cv od H'
 | none=>False
def toT{α β:Type}(G:Ga)(E:XK)(RP:Hp->List Addr->α->β->Prop)(d:Sl->M α):VS.St->Hp->(β->Hp->Prop)->Prop :=
 fun σ H Q=>∃F as sl ce,SR G F as H σ sl ce/\aO G E RP F as σ sl Q (d sl ce)
def rB:Hp->List Addr->Bool->Bool->Prop:=fun _ _ a b=>a=b
abbrev ax(G:Ga)(E:XK)(d:Sl->M W):TE:=toT G E Rep d
abbrev cq(G:Ga)(E:XK)(d:Sl->M Bool):TT:=toT G E rB d
abbrev fL(G:Ga)(E:XK)(d:Sl->M (List W)):TA:=toT G E aj d
variable {E:XK}
section
variable {α β γ δ:Type} {RP:Hp->List Addr->α->β->Prop} {RQ:Hp->List Addr->γ->δ->Prop} {σ:VS.St}
theorem aO.le{Q:β->Hp->Prop}{r:Option (R α)}(l:Le F as F' as')(P:aO G E RP F as σ sl Q r):aO G E RP F' as' σ sl Q r:=by
 cases r with
 | none=>exact P
 | some r=>cases r with
  | ok a ce'=>exact fun b H' F2 as2 l2=>P b H' F2 as2 (l.trans l2)
  | ex x ce'=>exact fun H' F2 as2 cv od l2=>P H' F2 as2 cv od (l.trans l2)
theorem toT.mono{d:Sl->M α}{Q Q':β->Hp->Prop}(h:toT G E RP d σ H Q)(q:∀b H1,Q b H1->Q' b H1):toT G E RP d σ H Q':=by
 obtain⟨F,as,sl,ce,S,P⟩:=h;refine⟨F,as,sl,ce,S,?_⟩;revert P;cases d sl ce with
 | none=>exact fun P=>P
 | some r=>cases r with
  | ok a ce'=>exact fun P b H' F' as' l S' r=>q _ _ (P b H' F' as' l S' r)
  | ex x ce'=>exact fun P=>P
theorem step{d:Sl->M α}{f:α->M γ}{Q:δ->Hp->Prop}(S:SR G F as H σ sl ce)(P:aO G E RQ F as σ sl Q (az (d sl) f ce)) :
  toT G E RP d σ H fun b H2=>∃a F' as' ce',Le F as F' as'/\SR G F' as' H2 σ sl ce'/\RP F' as' a b/\aO G E RQ F' as' σ sl Q (f a ce'):=by
 refine⟨F,as,sl,ce,S,?_⟩;revert P;unfold az;cases d sl ce with
 | none=>exact fun P=>P
 | some r=>cases r with
  | ok a ce'=>exact fun P b H' F' as' l S' r=>⟨a,F',as',ce',l,S',r,P.le l⟩
  | ex x ce'=>exact fun P=>P
theorem jP{f:Ce->Option α}{Q:β->Hp->Prop}(P:aO G E RP F as σ sl Q (look f ce)):∃a,f ce=some a/\aO G E RP F as σ sl Q (some (.ok a ce)):=by
 revert P;unfold look;cases f ce with
 | none=>exact fun P=>P.elim
 | some a=>exact fun P=>⟨a,rfl,P⟩
theorem aO.done{a:α}{b:β}{Q:β->Hp->Prop}(S:SR G F as H σ sl ce)(P:aO G E RP F as σ sl Q (some (.ok a ce)))(r:RP F as a b):Q b H:=P b H F as .refl S r
end
variable {X:Cx} {e:Expr}
theorem PE.imp{t t':TE}(h:PE X e t)(q:∀σ H Q,t' σ H Q->t σ H Q):PE X e t':=fun pins s σ H Q I z=>h pins s σ H Q I (q _ _ _ z)
variable {t':TT}
theorem PT.imp{t:TT}(h:PT X e t)(q:∀σ H Q,t' σ H Q->t σ H Q):PT X e t':=fun pins s σ H Q I z=>h pins s σ H Q I (q _ _ _ z)
theorem PW.imp{t:TT}(h:PW X e t)(q:∀σ H Q,t' σ H Q->t σ H Q):PW X e t':=fun wh pins s σ H Q I z=>h wh pins s σ H Q I (q _ _ _ z)
theorem PA.imp{e:List Expr}{t t':TA}(h:PA X e t)(q:∀σ H Q,t' σ H Q->t σ H Q):PA X e t':=fun pos pins s σ H Q I z=>h pos pins s σ H Q I (q _ _ _ z)
theorem PS.imp{e:Stmt}{t t':TS}(h:PS X e t)(q:∀D σ H,t' D σ H->t D σ H):PS X e t':=fun pins s σ H Q I z=>h pins s σ H Q I (q _ _ _ z)
theorem PSs.imp{e:List Stmt}{t t':TS}(h:PSs X e t)(q:∀D σ H,t' D σ H->t D σ H):PSs X e t':=fun pins s σ H Q I z=>h pins s σ H Q I (q _ _ _ z)
def ae(i:Nat):Sl->M W:=fun sl ce=>match sl[i]? with
 | some (some w)=>some (.ok w ce)
 | _=>none
def dC(w:W):Sl->M W:=fun _=>ret w
def aF(f:W->W->Option W)(a b:Sl->M W):Sl->M W:=fun sl=>az (a sl) fun x=>az (b sl) fun y=>look fun _=>f x y
def eQ(f:W->Option W)(a:Sl->M W):Sl->M W:=fun sl=>az (a sl) fun x=>look fun _=>f x
def jR:W->Option V
 | .non=>some .non
 | .bl b=>some (.bl b)
 | .int i=>some (.int i)
 | .str x=>some (.str x)
 | .ty n=>some (.ty n)
 | _=>none
theorem Rep.sc{u:V}(r:Rep F as w v)(e:jR w=some u):v=u:=by
 cases w<;>simp only[jR,Option.some.injEq,reduceCtorEq] at e<;>simp only[Rep] at r<;>(subst e;exact r)
theorem Rep.of_sc{u:V}(e:jR w=some u):Rep F as w u:=by cases w<;>simp only[jR,Option.some.injEq,reduceCtorEq] at e<;>simp only[Rep]<;>exact e.symm
def mj(r:R2)(f:W->W->Option W):Prop:=∀x y w,f x y=some w->∃vx vy vw,jR x=some vx/\jR y=some vy/\jR w=some vw/\∀H Q,Q vw H->r vx vy H Q
def i2(g:Int->Int->W):W->W->Option W
 | .int i,.int j=>some (g i j)
 | _,_=>none
open Classical in
def lb(c:Int->Int->Prop)(g:Int->Int->W):W->W->Option W
 | .int i,.int j=>if c i j then some (g i j) else none
 | _,_=>none
variable {g:Int->Int->W} {b:Expr} {da db dc d:Sl->M W} {pos:Pos} {f:W->W->Option W} {Q:VK} {op:CmpOp} {h:Int->Int->V}
section
variable {a c:Expr}
theorem ag(i:Nat){x:Str}(hN:X.N[i]?=some x:=by rfl)(hv:qU X.env.scope x:=by first|exact Or.inl rfl|exact Or.inr (Or.inl rfl)|exact Or.inr (Or.inr rfl))(hd:(x==("__debug__" : Str))=false:=by decide)(hcd:(x==("__classdict__" : Str))=false:=by decide):PE X (.Name x pos) (ax G E (ae i)):=by
 refine PE.imp (xp hN hv hd hcd) fun σ H Q h=>?_;obtain⟨F,as,sl,ce,S,P⟩:=h;revert P;unfold ae;split
 ·rename_i w e;intro P;obtain⟨v,h1,h2⟩:=S.var e;exact⟨v,h1,P.done S h2⟩
 ·exact fun P=>P.elim
theorem mw(h:PE X e (tC v))(hs:jR w=some v):PE X e (ax G E (dC w)):=by refine PE.imp h fun σ H Q h=>?_;obtain⟨F,as,sl,ce,S,P⟩:=h;exact P.done S (Rep.of_sc hs)
theorem aA{i j pos}:PE X (.Constant (.int i) j pos) (ax G E (dC (.int i))):=mw Ea rfl
theorem fg{i j pos}:PE X (.Constant (.bool i) j pos) (ax G E (dC (.bl i))):=mw Dp rfl
theorem mZ{j pos}:PE X (.Constant .none j pos) (ax G E (dC .non)):=mw D_ rfl
theorem jj{x j pos}:PE X (.Constant (.str x) j pos) (ax G E (dC (.str x))):=mw D9 rfl
theorem oq{r:R2}{f:W->W->M W}{σ:VS.St}(h:ax G E (fun sl=>az (da sl) fun x=>az (db sl) fun y=>f x y) σ H Q)(k:∀F as sl ce H2 x y wx wy,SR G F as H2 σ sl ce->Rep F as wx x->Rep F as wy y->aO G E Rep F as σ sl Q (f wx wy ce)->r x y H2 Q):l_ r (ax G E da) (ax G E db) σ H Q:=by obtain⟨F,as,sl,ce,S,P⟩:=h;refine(step S P).mono fun x H1 zz_=>bu zz_ fun wx F1 as1 ce1 l1 S1 rx P1=>(step S1 P1).mono fun y H2 zz_=>bu zz_ fun wy F2 as2 ce2 l2 S2 ry P2=>?_;exact k F2 as2 sl ce2 H2 x y wx wy S2 (rx.le l2) ry P2
theorem nX{op:Operator}{r:R2}(ho:dN X (binaryOp op) r)(hf:mj r f)(ha:PE X a (ax G E da))(hb:PE X b (ax G E db)):PE X (.BinOp a op b pos) (ax G E (aF f da db)):=by
 refine PE.imp (pw ho ha hb) fun σ H Q h=>oq h fun F as sl ce H2 x y wx wy S rx ry P=>?_;revert P;unfold look;cases e:f wx wy with
 | none=>exact fun P=>P.elim
 | some w =>
  intro P;obtain⟨vx,vy,vw,e1,e2,e3,k⟩:=hf _ _ _ e;rw[rx.sc e1,ry.sc e2];exact k _ _ (P.done S (Rep.of_sc e3))
theorem pL{r:R2}(ho:dN X (compareOp op) r)(hf:mj r f)(ha:PE X a (ax G E da))(hb:PE X b (ax G E db))(hm:behindInMarks op b=false):PE X (.Compare a [op] [b] pos) (ax G E (aF f da db)):=by
 refine PE.imp (sQ ho ha hb hm) fun σ H Q h=>oq h fun F as sl ce H2 x y wx wy S rx ry P=>?_;revert P;unfold look;cases e:f wx wy with
 | none=>exact fun P=>P.elim
 | some w =>
  intro P;obtain⟨vx,vy,vw,e1,e2,e3,k⟩:=hf _ _ _ e;rw[rx.sc e1,ry.sc e2];exact k _ _ (P.done S (Rep.of_sc e3))
theorem kO(q:∀i j,jR (g i j)=some (h i j)):mj (kq h) (i2 g):=by intro x y w e;cases x<;>cases y<;>simp only[i2,Option.some.injEq,reduceCtorEq] at e;subst e;exact⟨_,_,_,rfl,rfl,q _ _,fun H Q hq=>⟨_,_,rfl,rfl,hq⟩⟩
theorem sv{c:Int->Int->Prop}(q:∀i j,jR (g i j)=some (h i j)):mj (rI c h) (lb c g):=by
 intro x y w e;cases x<;>cases y<;>simp only[lb,reduceCtorEq] at e;split at e
 ·rename_i hc;cases e;exact⟨_,_,_,rfl,rfl,q _ _,fun H Q hq=>⟨_,_,rfl,rfl,hc,hq⟩⟩
 ·cases e
def cu:W->W->Option W:=i2 fun i j=>.int (i+j)
def fT:W->W->Option W:=i2 fun i j=>.int (i-j)
def ee:W->W->Option W:=lb cU fun i j=>.int (i*j)
def dY:W->W->Option W:=lb (fun _ j=>0<j) fun i j=>.int (i % j)
def mv:W->W->Option W:=lb q_ fun i j=>.int (i / j)
def iN:W->W->Option W:=i2 fun i j=>.bl (decide (i<j))
def uY:W->W->Option W:=i2 fun i j=>.bl (decide (i<=j))
def iO:W->W->Option W:=i2 fun i j=>.bl (decide (j<i))
def qS:W->W->Option W:=i2 fun i j=>.bl (decide (j<=i))
theorem gv(ha:PE X a (ax G E da))(hb:PE X b (ax G E db)):PE X (.BinOp a .Add b pos) (ax G E (aF cu da db)):=nX Ey (kO fun _ _=>rfl) ha hb
theorem jK(ha:PE X a (ax G E da))(hb:PE X b (ax G E db)):PE X (.BinOp a .Sub b pos) (ax G E (aF fT da db)):=nX Ex (kO fun _ _=>rfl) ha hb
theorem iG(ha:PE X a (ax G E da))(hb:PE X b (ax G E db)):PE X (.BinOp a .Mult b pos) (ax G E (aF ee da db)):=nX Ew (sv fun _ _=>rfl) ha hb
theorem g6(ha:PE X a (ax G E da))(hb:PE X b (ax G E db)):PE X (.BinOp a .Mod b pos) (ax G E (aF dY da db)):=nX Eu (sv fun _ _=>rfl) ha hb
theorem DB(ha:PE X a (ax G E da))(hb:PE X b (ax G E db)):PE X (.BinOp a .FloorDiv b pos) (ax G E (aF mv da db)):=nX FN (sv fun _ _=>rfl) ha hb
theorem v7(ha:PE X a (ax G E da))(hb:PE X b (ax G E db)):PE X (.Compare a [.Lt] [b] pos) (ax G E (aF iN da db)):=pL wq (kO fun _ _=>rfl) ha hb (gC _)
theorem v5(ha:PE X a (ax G E da))(hb:PE X b (ax G E db)):PE X (.Compare a [.Gt] [b] pos) (ax G E (aF iO da db)):=pL wo (kO fun _ _=>rfl) ha hb (gC _)
theorem CA(ha:PE X a (ax G E da))(hb:PE X b (ax G E db)):PE X (.Compare a [.GtE] [b] pos) (ax G E (aF qS da db)):=pL Cj (kO fun _ _=>rfl) ha hb (gC _)
def gz:W->Option W
 | .int i=>some (.int (-i))
 | _=>none
theorem jJ(ha:PE X a (ax G E da)):PE X (.UnaryOp .USub a pos) (ax G E (eQ gz da)):=by
 refine PE.imp (Cn Et ha) fun σ H Q zz_=>bN zz_ fun F as sl ce S P=>(step S P).mono fun x H1 zz_=>bu zz_ fun wx F1 as1 ce1 l1 S1 rx P1=>?_;revert P1;unfold look gz;cases wx<;>first|exact fun P=>P.elim|skip
 simp only[Rep] at rx;subst rx;exact fun P=>⟨_,rfl,P.done S1 (by simp only[Rep])⟩
def jr:W->Bool
 | .non=>true
 | _=>false
def rF:W->Option W:=fun w=>some (.bl (jr w))
def nV:W->Option W:=fun w=>some (.bl (!jr w))
theorem Rep.isN(r:Rep F as w v):decide (v=.non)=jr w:=by
 cases w<;>simp only[Rep] at r<;>first|(subst r;rfl)|(obtain⟨_,_,rfl,_⟩:=r;rfl)|(obtain⟨_,rfl,_⟩:=r;rfl)
def gy(ce:Ce):W->Option Bool
 | .non=>some false
 | .bl b=>some b
 | .int i=>some (i != 0)
 | .str x=>if x.length<=sizeLine then some ((x.length:Int) != 0) else none
 | .lst xs=>some (!xs.isEmpty)
 | .tup xs=>some (!xs.isEmpty)
 | .cel k=>match ce[k]? with
  | some (.lst xs)=>some (!xs.isEmpty)
  | some (.dct xs)=>some (!xs.isEmpty)
  | _=>none
 | _=>none
theorem aj.empty(r:aj F as ws vs):vs.isEmpty=ws.isEmpty:=by have:=r.length;cases ws<;>cases vs<;>simp_all
theorem Rd.sub{G:Ga}{F:Hp}{as:List Addr}{H:Hp}{ce:Ce}(S:aB G F as H ce){a:Addr}{o:HO}(r:Rd F a o):Rd H a o:=by
 rcases r with r|⟨u,r⟩
 ·exact .inl (S.sub _ _ r)
 ·exact .inr ⟨u,S.sub _ _ r⟩
theorem E5{k:Bool}(S:aB G F as H ce)(r:Rep F as w v)(e:gy ce w=some k)(K:Frag):ph K v H k:=by
 cases w with
 | non=>simp only[Rep] at r;simp only[gy,Option.some.injEq] at e;subst r;exact e.symm
 | bl b=>simp only[Rep] at r;simp only[gy,Option.some.injEq] at e;subst r;exact e.symm
 | int i=>simp only[Rep] at r;simp only[gy,Option.some.injEq] at e;subst r;exact e.symm
 | str x =>
  simp only[Rep] at r;subst r;simp only[gy] at e;split at e
  ·rename_i h;exact⟨h,(Option.some.inj e).symm⟩
  ·cases e
 | ty n=>simp only[gy,reduceCtorEq] at e
 | lst xs =>
  simp only[Rep] at r;obtain⟨a,vs,rfl,h,rs⟩:=r;simp only[gy,Option.some.injEq] at e;exact .inl ⟨vs,.inl (Rd.sub S h),by rw[<- e,rs.empty]⟩
 | tup xs =>
  simp only[Rep] at r;obtain⟨a,vs,rfl,h,rs⟩:=r;simp only[gy,Option.some.injEq] at e;exact .inr (.inl ⟨vs,.inl (.inl (S.sub _ _ h)),by rw[<- e,rs.empty]⟩)
 | cel n =>
  simp only[Rep] at r;obtain⟨a,rfl,h⟩:=r;simp only[gy] at e;split at e
  ·rename_i xs hc;obtain⟨_,vs,h2,rs⟩:=S.cell _ _ _ h hc;exact .inl ⟨vs,.inl (.inl h2),by rw[<- Option.some.inj e,rs.empty]⟩
  ·rename_i xs hc;obtain⟨_,vs,h2,rs⟩:=S.cell _ _ _ h hc;refine .inr (.inr ⟨vs,h2,?_⟩);rw[<- Option.some.inj e];cases rs<;>rfl
  ·cases e
def jD(d:Sl->M W):Sl->M Bool:=fun sl=>az (d sl) fun w=>look fun ce=>gy ce w
theorem sI(ha:PE X a (ax G E da))(he:∀whole,isTrue a X.env whole=(do let v <- whole;standAt a.pos;holding [v] (truthy v)):=by intro _;rfl):PT X a (cq G E (jD da)):=by refine PT.imp (CG (K:=X.K) ha he) fun σ H Q zz_=>bN zz_ fun F as sl ce S P=>(step S P).mono fun x H1 zz_=>bu zz_ fun wx F1 as1 ce1 l1 S1 rx P1=>?_;obtain⟨k,e,P⟩:=jP P1;exact⟨k,E5 S1.st rx e _,aO.done (RP:=rB) S1 P rfl⟩
def dB(d:Sl->M W):Sl->M Bool:=fun sl=>az (d sl) fun w=>look fun _=>match w with|.bl b=>some b|_=>none
theorem rR{t:TE}{σ:VS.St}{Q:Bool->Hp->Prop}(h:cq G E (dB d) σ H Q):tB (ax G E d) σ H Q:=by
 obtain⟨F,as,sl,ce,S,P⟩:=h;refine(step S P).mono fun x H1 zz_=>bu zz_ fun wx F1 as1 ce1 l1 S1 rx P1=>?_;revert P1;unfold look;cases wx<;>first|exact fun P=>P.elim|skip
 simp only[Rep] at rx;subst rx;exact fun P=>⟨_,rfl,P.done S1 rfl⟩
theorem iF(h:PE X e (ax G E d))(he:∀whole,isTrue e X.env whole=(do let v <- whole;standAt e.pos;holding [v] (truthy v)):=by intro _;rfl):PT X e (cq G E (dB d)) :=
 PT.imp (D6 h he) fun σ H Q q=>rR (t:=ax G E d) q
theorem j3{r:R2}(ho:dN X (compareOp op) r)(ha:PE X a (ax G E da))(hb:PE X b (ax G E db))(hm:behindInMarks op b=false)(q:∀σ H Q,ax G E d σ H Q->l_ r (ax G E da) (ax G E db) σ H Q):PT X (.Compare a [op] [b] pos) (cq G E (dB d)):=by refine PT.imp (FL ho ha hb hm) fun σ H Q h=>?_;exact q σ H _ (rR (t:=ax G E d) h)
theorem pE(h:∃t,PC X op a b t/\∀σ H Q,ax G E d σ H Q->t σ H Q)(h1:behindInMarks op b=false):PT X (.Compare a [op] [b] pos) (cq G E (dB d)):=by obtain⟨t,h,q⟩:=h;exact PT.imp (D7 h h1) fun σ H Q z=>q _ _ _ (rR (t:=ax G E d) z)
end
mutual
def aN:W->W->Bool
 | .non,y=>match y with|.non=>true|_=>false
 | .bl a,y=>match y with|.bl b=>a==b|.int b=>(if a then 1 else 0)==b|_=>false
 | .int a,y=>match y with|.int b=>a==b|.bl b=>a==(if b then 1 else 0)|_=>false
 | .str a,y=>match y with|.str b=>a==b|_=>false
 | .lst xs,y=>match y with|.lst ys=>bM xs ys|_=>false
 | .tup xs,y=>match y with|.tup ys=>bM xs ys|_=>false
 | .ty _,_=>false
 | .cel _,_=>false
def bM:List W->List W->Bool
 | [],ys=>match ys with|[]=>true|_=>false
 | x::xs,ys=>match ys with|y::ys=>aN x y&&bM xs ys|[]=>false
end
def bG:Nat->W->Bool
 | _,.non=>true
 | _,.bl _=>true
 | _,.int _=>true
 | _,.str _=>true
 | _,.ty _=>false
 | _,.cel _=>false
 | 0,.lst _=>false
 | 0,.tup _=>false
 | n+1,.lst xs=>xs.all (bG n)
 | n+1,.tup xs=>xs.all (bG n)
variable {us:List V}
theorem Im(h:Rd F a (.lst vs))(h':Rd F a (.lst us)):vs=us:=by
 rcases h with h|⟨o,h⟩<;>rcases h' with h'|⟨o',h'⟩<;>(first|(rw[h] at h';cases h';rfl)|(rw[h] at h';cases h'))
theorem Il(h:Rd F a (.tup vs))(h':Rd F a (.tup us)):vs=us:=by
 rcases h with h|⟨o,h⟩<;>rcases h' with h'|⟨o',h'⟩<;>(first|(rw[h] at h';cases h';rfl)|(rw[h] at h';cases h'))
theorem y8(h:Rd F a (.lst vs))(h':Rd F a (.tup us)):False:=by
 rcases h with h|⟨o,h⟩<;>rcases h' with h'|⟨o',h'⟩<;>(rw[h] at h';cases h')
theorem yM:∀(n:Nat) {w w':W} {v:V},bG n w=true->bG n w'=true->Rep F as w v->Rep F as w' v->w=w':=by
 intro n
 induction n with
 | zero =>
  intro w w' v c c' r r';cases w<;>cases w'<;>simp only[bG,reduceCtorEq] at c c'<;>simp only[Rep] at r r'<;>(subst r;cases r')<;>rfl
 | succ n ih =>
  have its:∀{ws ws':List W} {vs:List V},ws.all (bG n)=true->ws'.all (bG n)=true->aj F as ws vs->aj F as ws' vs->ws=ws':=by
   intro ws
   induction ws with
   | nil =>
    intro ws' vs _ _ r r';simp only[aj] at r;subst r;cases ws' with
    | nil=>rfl
    | cons y ys=>simp only[aj] at r';obtain⟨v,r,e,_⟩:=r';cases e
   | cons x xs ihx =>
    intro ws' vs c c' r r';simp only[aj] at r;obtain⟨v,vs',rfl,h1,h2⟩:=r;cases ws' with
    | nil=>simp only[aj] at r';cases r'
    | cons y ys =>
     simp only[aj] at r';obtain⟨v',r',e,h3,h4⟩:=r';cases e;simp only[all_cons,and_eq_true] at c c';rw[ih c.1 c'.1 h1 h3,ihx c.2 c'.2 h2 h4]
  intro w w' v c c' r r';cases w<;>cases w'<;>simp only[bG,reduceCtorEq] at c c'<;>simp only[Rep] at r r'<;>first
   | (subst r;cases r';rfl)
   | (subst r;cases r';done)
   | (subst r;obtain⟨_,_,e,_⟩:=r';cases e)
   | (subst r';obtain⟨_,_,e,_⟩:=r;cases e)
   | (obtain⟨a,vs,rfl,q,s⟩:=r
      obtain⟨b,us,e,q',s'⟩:=r';cases e
      first
       | exact(y8 q (.inl q')).elim
       | exact(y8 q' (.inl q)).elim
       | (cases Im q q';rw[its c c' s s'])
       | (cases Il (.inl q) (.inl q');rw[its c c' s s']))
theorem y7:∀(n:Nat) {w:W},bG n w=true->aN w w=true:=by
 intro n
 induction n with
 | zero=>intro w c;cases w<;>simp_all[bG,aN]
 | succ n ih =>
  have its:∀{ws:List W},ws.all (bG n)=true->bM ws ws=true:=by
   intro ws
   induction ws with
   | nil=>intro _;simp[bM]
   | cons x xs ihx =>
    intro c;simp only[all_cons,and_eq_true] at c;simp only[bM,ih c.1,ihx c.2,Bool.and_self]
  intro w c;cases w<;>simp only[bG,reduceCtorEq] at c<;>first|(simp only[aN];exact its c)|simp[aN]
theorem tR:∀(xs ys:List W),xs.length=ys.length->bM xs ys=(List.range xs.length).all fun j=>match xs[j]?,ys[j]? with|some a,some b=>aN a b|_,_=>false
 | [],[],_=>by simp[bM]
 | x::xs,y::ys,h=>by
  have e:xs.length=ys.length:=by simpa using h
  simp only[bM];rw[tR xs ys e,length_cons,range_succ_eq_map,all_cons,all_map];rfl
 | [],_::_,h=>by simp at h
 | _::_,[],h=>by simp at h
theorem y6:∀{xs ys:List W},bM xs ys=true->xs.length=ys.length
 | [],[],_=>rfl
 | x::xs,y::ys,h=>by
  simp only[bM,and_eq_true] at h;simp only[length_cons,y6 h.2]
 | [],_::_,h=>by simp[bM] at h
 | _::_,[],h=>by simp[bM] at h
variable {xs ys:List W}
theorem yL(h:xs.length≠ys.length):bM xs ys=false:=by
 cases e:bM xs ys with
 | false=>rfl
 | true=>exact absurd (y6 e) h
variable {pins:List (Addr×Obj)} {s:Shared} {A:Around} {zs:List W} {n:Nat}
section
variable {σ:VS.St}
theorem yK{ps qs:List Value}(it:∀{w z:W} {v u:V} {p q:Value},w∈ws->z∈zs->Rep F as w v->Rep F as z u->L2.RelV v p->L2.RelV u q->SeqAt.EqAt A s p q (aN w z))(h1:aj F as ws vs)(h2:aj F as zs us)(r1:Vals vs ps)(r2:Vals us qs) :
  ∀j (k1:j<ps.toArray.size) (k2:j<qs.toArray.size),SeqAt.EqAt A s ps.toArray[j] qs.toArray[j] (match ws[j]?,zs[j]? with|some a,some b=>aN a b|_,_=>false):=by
 intro j k1 k2;have k1':j<ps.length:=by simpa using k1
 have k2':j<qs.length:=by simpa using k2
 have l1:=r1.length;have l2:=r2.length;have e1:vs[j]?=some (vs[j]'(by omega)):=by simp
 have e2:us[j]?=some (us[j]'(by omega)):=by simp
 obtain⟨u,mi,ru⟩:=r1.get e1;obtain⟨z,hz1,rz⟩:=r2.get e2;obtain⟨a,ha,ra⟩:=h1.get' e1;obtain⟨b,hb,rb⟩:=h2.get' e2;have eu:ps.toArray[j]=u:=by
  have:ps[j]?=some ps[j]:=by simp
  rw[mi] at this;simpa using (Option.some.inj this).symm
 have ez:qs.toArray[j]=z:=by
  have:qs[j]?=some qs[j]:=by simp
  rw[hz1] at this;simpa using (Option.some.inj this).symm
 rw[eu,ez,ha,hb];exact it (mem_of_getElem? ha) (mem_of_getElem? hb) ra rb ru rz
theorem Hh{b:Addr}(I:Inv X pins σ H s)(hu:A.units<cLine)(ha:cO X.K H a vs)(hb:cO X.K H b us)(h1:aj F as ws vs)(h2:aj F as zs us)(it:∀{w z:W} {v u:V} {p q:Value},w∈ws->z∈zs->Rep F as w v->Rep F as z u->L2.RelV v p->L2.RelV u q->SeqAt.EqAt A.in1 s p q (aN w z)) :
  SeqAt.RcAt A s (.ref a) (.ref b) (bM ws zs)/\SeqAt.RcNeAt A s (.ref a) (.ref b) (!bM ws zs):=by
 obtain⟨ps,r1,p1,z1⟩:=I.list ha;obtain⟨qs,r2,p2,z2⟩:=I.list hb;have l1:=r1.length;have l2:=r2.length;have l3:=h1.length;have l4:=h2.length
 by_cases hl:ws.length=zs.length
 ·have hsz:ps.toArray.size=qs.toArray.size:=by rw[size_toArray,size_toArray];omega
  have ia:=yK (A:=A.in1) it h1 h2 r1 r2;have a1:=SeqAt.RcAt.lists p1.isList p2.isList hsz hu ia;have a2:=SeqAt.RcNeAt.lists p1.isList p2.isList hsz hu ia;rw[size_toArray,show ps.length=ws.length by omega,<- tR ws zs hl] at a1 a2;exact⟨a1,a2⟩
 ·have hne:(ps.toArray.size != qs.toArray.size)=true:=by rw[size_toArray,size_toArray];simp;omega
  rw[yL hl];exact⟨SeqAt.RcAt.lists_lengths p1.isList p2.isList hne hu,SeqAt.RcNeAt.lists_lengths p1.isList p2.isList hne hu⟩
theorem E4{b:Addr}(I:Inv X pins σ H s)(hu:A.units<cLine)(ha:dX X.K H a vs)(hb:dX X.K H b us)(h1:aj F as ws vs)(h2:aj F as zs us)(it:∀{w z:W} {v u:V} {p q:Value},w∈ws->z∈zs->Rep F as w v->Rep F as z u->L2.RelV v p->L2.RelV u q->SeqAt.EqAt A.in1 s p q (aN w z)) :
  SeqAt.RcAt A s (.ref a) (.ref b) (bM ws zs)/\SeqAt.RcNeAt A s (.ref a) (.ref b) (!bM ws zs):=by
 obtain⟨ps,r1,p1,z1⟩:=I.tuple ha;obtain⟨qs,r2,p2,z2⟩:=I.tuple hb;have l1:=r1.length;have l2:=r2.length;have l3:=h1.length;have l4:=h2.length;have ia:=yK (A:=A.in1) it h1 h2 r1 r2;have e:((List.range (min ps.toArray.size qs.toArray.size)).all (fun j=>match ws[j]?,zs[j]? with|some a,some b=>aN a b|_,_=>false)&&ps.toArray.size==qs.toArray.size)=bM ws zs:=by
  rw[size_toArray,size_toArray]
  by_cases hl:ws.length=zs.length
  ·have h1:ps.length=ws.length:=by omega
   have h2:qs.length=ws.length:=by omega
   rw[h1,h2,min_self,tR ws zs hl];simp
  ·have e1:(ps.length==qs.length)=false:=by simp;omega
   rw[e1,Bool.and_false,yL hl]
 have a1:=SeqAt.RcAt.tuples p1 p2 hu ia;have a2:=SeqAt.RcNeAt.tuples p1 p2 hu ia;rw[e] at a1 a2;exact⟨a1,a2⟩
inductive Sh (F:Hp) (as:List Addr):W->V->Value->Prop where
 | non:Sh F as .non .non .none
 | bl (b:Bool):Sh F as (.bl b) (.bl b) (.bool b)
 | int (i:Int) (t:Tok):Sh F as (.int i) (.int i) (.int i t)
 | str (x:Str) (t:Tok):Sh F as (.str x) (.str x) (.str x t)
 | lst {xs:List W} {a:Addr} {vs:List V} (h:Rd F a (.lst vs)) (r:aj F as xs vs):Sh F as (.lst xs) (.ref a) (.ref a)
 | tup {xs:List W} {a:Addr} {vs:List V} (h:Rd F a (.tup vs)) (r:aj F as xs vs):Sh F as (.tup xs) (.ref a) (.ref a)
theorem pD{p:Value}(c:bG n w=true)(r:Rep F as w v)(rv:L2.RelV v p):Sh F as w v p:=by
 cases w with
 | non=>simp only[Rep] at r;subst r;cases rv;exact .non
 | bl b=>simp only[Rep] at r;subst r;cases rv;exact .bl b
 | int i=>simp only[Rep] at r;subst r;obtain⟨t,rfl⟩:=rv;exact .int i t
 | str i=>simp only[Rep] at r;subst r;obtain⟨t,rfl⟩:=rv;exact .str i t
 | ty i=>cases n<;>simp only[bG,reduceCtorEq] at c
 | cel i=>cases n<;>simp only[bG,reduceCtorEq] at c
 | lst xs=>simp only[Rep] at r;obtain⟨a,vs,rfl,h,q⟩:=r;cases rv;exact .lst h q
 | tup xs=>simp only[Rep] at r;obtain⟨a,vs,rfl,h,q⟩:=r;cases rv;exact .tup (.inl h) q
theorem rE(hs:∀a o,F a=some o->H a=some o)(I:Inv X pins σ H s):∀(n:Nat) {A:Around} {w z:W} {v u:V} {p q:Value},A.units+n<cLine->bG n w=true->bG n z=true->Rep F as w v->Rep F as z u->L2.RelV v p->L2.RelV u q ->
  SeqAt.RcAt A s p q (aN w z)/\SeqAt.RcNeAt A s p q (!aN w z)/\SeqAt.EqAt A s p q (aN w z):=by
 have sub:∀{a:Addr} {o:HO},Rd F a o->Rd H a o:=fun {a o} r=>by
  rcases r with r|⟨u,r⟩
  ·exact .inl (hs _ _ r)
  ·exact .inr ⟨u,hs _ _ r⟩
 have isL:∀{a:Addr} {vs:List V},Rd F a (.lst vs)->∃its,s.heap.IsList a its:=fun {a vs} h=>by
  obtain⟨its,_,p,_⟩:=I.list (.inl (sub h));exact⟨_,p.isList⟩
 have isT:∀{a:Addr} {vs:List V},Rd F a (.tup vs)->∃its,s.heap.IsTuple a its:=fun {a vs} h=>by
  obtain⟨its,_,p,_⟩:=I.tuple (.inl (sub h));exact⟨_,p⟩
 intro n
 induction n with
 | zero =>
  intro A w z v u p q hu c c' r r' rv ru;have sh:=pD c r rv;have sh':=pD c' r' ru;cases sh with
  | non =>
   cases sh' with
   | non =>
    simp only[aN];exact⟨SeqAt.RcAt.none_none ,SeqAt.RcNeAt.none_none ,SeqAt.EqAt.same _⟩
   | bl b2 =>
    simp only[aN];exact⟨SeqAt.RcAt.none_bool _,SeqAt.RcNeAt.none_bool _,SeqAt.EqAt.none_bool _⟩
   | int i2 t2 =>
    simp only[aN];exact⟨SeqAt.RcAt.none_int _ _,SeqAt.RcNeAt.none_int _ _,SeqAt.EqAt.none_int _ _⟩
   | str x2 t2 =>
    simp only[aN];exact⟨SeqAt.RcAt.none_str _ _,SeqAt.RcNeAt.none_str _ _,SeqAt.EqAt.none_str _ _⟩
   | lst q2 s2 =>
    simp only[bG,reduceCtorEq] at c'
   | tup q2 s2 =>
    simp only[bG,reduceCtorEq] at c'
  | bl b =>
   cases sh' with
   | non =>
    simp only[aN];exact⟨SeqAt.RcAt.bool_none _,SeqAt.RcNeAt.bool_none _,SeqAt.EqAt.bool_none _⟩
   | bl b2 =>
    simp only[aN];exact⟨SeqAt.RcAt.bool_bool _ _,SeqAt.RcNeAt.bool_bool _ _,SeqAt.EqAt.bool_bool _ _⟩
   | int i2 t2 =>
    simp only[aN];exact⟨SeqAt.RcAt.bool_int _ _ _,SeqAt.RcNeAt.bool_int _ _ _,SeqAt.EqAt.bool_int _ _ _⟩
   | str x2 t2 =>
    simp only[aN];exact⟨SeqAt.RcAt.bool_str _ _ _,SeqAt.RcNeAt.bool_str _ _ _,SeqAt.EqAt.bool_str _ _ _⟩
   | lst q2 s2 =>
    simp only[bG,reduceCtorEq] at c'
   | tup q2 s2 =>
    simp only[bG,reduceCtorEq] at c'
  | int i t =>
   cases sh' with
   | non =>
    simp only[aN];exact⟨SeqAt.RcAt.int_none _ _,SeqAt.RcNeAt.int_none _ _,SeqAt.EqAt.int_none _ _⟩
   | bl b2 =>
    simp only[aN];exact⟨SeqAt.RcAt.int_bool _ _ _,SeqAt.RcNeAt.int_bool _ _ _,SeqAt.EqAt.int_bool _ _ _⟩
   | int i2 t2 =>
    simp only[aN];exact⟨SeqAt.RcAt.int_int _ _ _ _,SeqAt.RcNeAt.int_int _ _ _ _,SeqAt.EqAt.int_int _ _ _ _⟩
   | str x2 t2 =>
    simp only[aN];exact⟨SeqAt.RcAt.int_str _ _ _ _,SeqAt.RcNeAt.int_str _ _ _ _,SeqAt.EqAt.int_str _ _ _ _⟩
   | lst q2 s2 =>
    simp only[bG,reduceCtorEq] at c'
   | tup q2 s2 =>
    simp only[bG,reduceCtorEq] at c'
  | str x t =>
   cases sh' with
   | non =>
    simp only[aN];exact⟨SeqAt.RcAt.str_none _ _,SeqAt.RcNeAt.str_none _ _,SeqAt.EqAt.str_none _ _⟩
   | bl b2 =>
    simp only[aN];exact⟨SeqAt.RcAt.str_bool _ _ _,SeqAt.RcNeAt.str_bool _ _ _,SeqAt.EqAt.str_bool _ _ _⟩
   | int i2 t2 =>
    simp only[aN];exact⟨SeqAt.RcAt.str_int _ _ _ _,SeqAt.RcNeAt.str_int _ _ _ _,SeqAt.EqAt.str_int _ _ _ _⟩
   | str x2 t2 =>
    simp only[aN];exact⟨SeqAt.RcAt.str_str _ _ _ _,SeqAt.RcNeAt.str_str _ _ _ _,SeqAt.EqAt.str_str _ _ _ _⟩
   | lst q2 s2 =>
    simp only[bG,reduceCtorEq] at c'
   | tup q2 s2 =>
    simp only[bG,reduceCtorEq] at c'
  | lst q1 s1 =>
   simp only[bG,reduceCtorEq] at c
  | tup q1 s1 =>
   simp only[bG,reduceCtorEq] at c
 | succ n ih =>
  intro A w z v u p q hu c c' r r' rv ru;have bx:A.units<cLine:=by omega
  have mi:A.in1.units+n<cLine:=by show A.units+1+n<cLine;omega
  have ref:∀{a b:Addr},v=.ref a->u=.ref b->(SeqAt.RcAt A s (.ref a) (.ref b) (aN w z)/\SeqAt.RcNeAt A s (.ref a) (.ref b) (!aN w z))->SeqAt.RcAt A s (.ref a) (.ref b) (aN w z)/\SeqAt.RcNeAt A s (.ref a) (.ref b) (!aN w z)/\SeqAt.EqAt A s (.ref a) (.ref b) (aN w z):=by
   intro a b e1 e2 ⟨h1,h2⟩;subst e1 e2;refine⟨h1,h2,?_⟩
   by_cases e:a=b
   ·subst e;rw[yM (n+1) c c' r r',y7 (n+1) c'];exact SeqAt.EqAt.same _
   ·exact SeqAt.EqAt.of_refs e h1
  have sh:=pD c r rv;have sh':=pD c' r' ru;cases sh with
  | non =>
   cases sh' with
   | non =>
    simp only[aN];exact⟨SeqAt.RcAt.none_none ,SeqAt.RcNeAt.none_none ,SeqAt.EqAt.same _⟩
   | bl b2 =>
    simp only[aN];exact⟨SeqAt.RcAt.none_bool _,SeqAt.RcNeAt.none_bool _,SeqAt.EqAt.none_bool _⟩
   | int i2 t2 =>
    simp only[aN];exact⟨SeqAt.RcAt.none_int _ _,SeqAt.RcNeAt.none_int _ _,SeqAt.EqAt.none_int _ _⟩
   | str x2 t2 =>
    simp only[aN];exact⟨SeqAt.RcAt.none_str _ _,SeqAt.RcNeAt.none_str _ _,SeqAt.EqAt.none_str _ _⟩
   | lst q2 s2 =>
    obtain⟨_,p1⟩:=isL q2;simp only[aN];exact⟨SeqAt.RcAt.none_list p1 bx,SeqAt.RcNeAt.none_list p1 bx,SeqAt.EqAt.none_list p1 bx⟩
   | tup q2 s2 =>
    obtain⟨_,p1⟩:=isT q2;simp only[aN];exact⟨SeqAt.RcAt.none_tuple p1 bx,SeqAt.RcNeAt.none_tuple p1 bx,SeqAt.EqAt.none_tuple p1 bx⟩
  | bl b =>
   cases sh' with
   | non =>
    simp only[aN];exact⟨SeqAt.RcAt.bool_none _,SeqAt.RcNeAt.bool_none _,SeqAt.EqAt.bool_none _⟩
   | bl b2 =>
    simp only[aN];exact⟨SeqAt.RcAt.bool_bool _ _,SeqAt.RcNeAt.bool_bool _ _,SeqAt.EqAt.bool_bool _ _⟩
   | int i2 t2 =>
    simp only[aN];exact⟨SeqAt.RcAt.bool_int _ _ _,SeqAt.RcNeAt.bool_int _ _ _,SeqAt.EqAt.bool_int _ _ _⟩
   | str x2 t2 =>
    simp only[aN];exact⟨SeqAt.RcAt.bool_str _ _ _,SeqAt.RcNeAt.bool_str _ _ _,SeqAt.EqAt.bool_str _ _ _⟩
   | lst q2 s2 =>
    obtain⟨_,p1⟩:=isL q2;simp only[aN];exact⟨SeqAt.RcAt.bool_list _ p1 bx,SeqAt.RcNeAt.bool_list _ p1 bx,SeqAt.EqAt.bool_list _ p1 bx⟩
   | tup q2 s2 =>
    obtain⟨_,p1⟩:=isT q2;simp only[aN];exact⟨SeqAt.RcAt.bool_tuple _ p1 bx,SeqAt.RcNeAt.bool_tuple _ p1 bx,SeqAt.EqAt.bool_tuple _ p1 bx⟩
  | int i t =>
   cases sh' with
   | non =>
    simp only[aN];exact⟨SeqAt.RcAt.int_none _ _,SeqAt.RcNeAt.int_none _ _,SeqAt.EqAt.int_none _ _⟩
   | bl b2 =>
    simp only[aN];exact⟨SeqAt.RcAt.int_bool _ _ _,SeqAt.RcNeAt.int_bool _ _ _,SeqAt.EqAt.int_bool _ _ _⟩
   | int i2 t2 =>
    simp only[aN];exact⟨SeqAt.RcAt.int_int _ _ _ _,SeqAt.RcNeAt.int_int _ _ _ _,SeqAt.EqAt.int_int _ _ _ _⟩
   | str x2 t2 =>
    simp only[aN];exact⟨SeqAt.RcAt.int_str _ _ _ _,SeqAt.RcNeAt.int_str _ _ _ _,SeqAt.EqAt.int_str _ _ _ _⟩
   | lst q2 s2 =>
    obtain⟨_,p1⟩:=isL q2;simp only[aN];exact⟨SeqAt.RcAt.int_list _ _ p1 bx,SeqAt.RcNeAt.int_list _ _ p1 bx,SeqAt.EqAt.int_list _ _ p1 bx⟩
   | tup q2 s2 =>
    obtain⟨_,p1⟩:=isT q2;simp only[aN];exact⟨SeqAt.RcAt.int_tuple _ _ p1 bx,SeqAt.RcNeAt.int_tuple _ _ p1 bx,SeqAt.EqAt.int_tuple _ _ p1 bx⟩
  | str x t =>
   cases sh' with
   | non =>
    simp only[aN];exact⟨SeqAt.RcAt.str_none _ _,SeqAt.RcNeAt.str_none _ _,SeqAt.EqAt.str_none _ _⟩
   | bl b2 =>
    simp only[aN];exact⟨SeqAt.RcAt.str_bool _ _ _,SeqAt.RcNeAt.str_bool _ _ _,SeqAt.EqAt.str_bool _ _ _⟩
   | int i2 t2 =>
    simp only[aN];exact⟨SeqAt.RcAt.str_int _ _ _ _,SeqAt.RcNeAt.str_int _ _ _ _,SeqAt.EqAt.str_int _ _ _ _⟩
   | str x2 t2 =>
    simp only[aN];exact⟨SeqAt.RcAt.str_str _ _ _ _,SeqAt.RcNeAt.str_str _ _ _ _,SeqAt.EqAt.str_str _ _ _ _⟩
   | lst q2 s2 =>
    obtain⟨_,p1⟩:=isL q2;simp only[aN];exact⟨SeqAt.RcAt.str_list _ _ p1 bx,SeqAt.RcNeAt.str_list _ _ p1 bx,SeqAt.EqAt.str_list _ _ p1 bx⟩
   | tup q2 s2 =>
    obtain⟨_,p1⟩:=isT q2;simp only[aN];exact⟨SeqAt.RcAt.str_tuple _ _ p1 bx,SeqAt.RcNeAt.str_tuple _ _ p1 bx,SeqAt.EqAt.str_tuple _ _ p1 bx⟩
  | lst q1 s1 =>
   cases sh' with
   | non =>
    obtain⟨_,p1⟩:=isL q1;simp only[aN];exact⟨SeqAt.RcAt.list_none p1 bx,SeqAt.RcNeAt.list_none p1 bx,SeqAt.EqAt.list_none p1 bx⟩
   | bl b2 =>
    obtain⟨_,p1⟩:=isL q1;simp only[aN];exact⟨SeqAt.RcAt.list_bool _ p1 bx,SeqAt.RcNeAt.list_bool _ p1 bx,SeqAt.EqAt.list_bool _ p1 bx⟩
   | int i2 t2 =>
    obtain⟨_,p1⟩:=isL q1;simp only[aN];exact⟨SeqAt.RcAt.list_int _ _ p1 bx,SeqAt.RcNeAt.list_int _ _ p1 bx,SeqAt.EqAt.list_int _ _ p1 bx⟩
   | str x2 t2 =>
    obtain⟨_,p1⟩:=isL q1;simp only[aN];exact⟨SeqAt.RcAt.list_str _ _ p1 bx,SeqAt.RcNeAt.list_str _ _ p1 bx,SeqAt.EqAt.list_str _ _ p1 bx⟩
   | lst q2 s2 =>
    refine ref rfl rfl ?_;simp only[aN];simp only[bG] at c c';exact Hh I bx (.inl (sub q1)) (.inl (sub q2)) s1 s2 fun {w z v u p q} m m' r r' rv ru=>(ih mi (all_eq_true.mp c _ m) (all_eq_true.mp c' _ m') r r' rv ru).2.2
   | tup q2 s2 =>
    refine ref rfl rfl ?_;simp only[aN];obtain⟨_,p1⟩:=isL q1;obtain⟨_,p2⟩:=isT q2;exact⟨SeqAt.RcAt.list_tuple p1 p2 bx,SeqAt.RcNeAt.list_tuple p1 p2 bx⟩
  | tup q1 s1 =>
   cases sh' with
   | non =>
    obtain⟨_,p1⟩:=isT q1;simp only[aN];exact⟨SeqAt.RcAt.tuple_none p1 bx,SeqAt.RcNeAt.tuple_none p1 bx,SeqAt.EqAt.tuple_none p1 bx⟩
   | bl b2 =>
    obtain⟨_,p1⟩:=isT q1;simp only[aN];exact⟨SeqAt.RcAt.tuple_bool _ p1 bx,SeqAt.RcNeAt.tuple_bool _ p1 bx,SeqAt.EqAt.tuple_bool _ p1 bx⟩
   | int i2 t2 =>
    obtain⟨_,p1⟩:=isT q1;simp only[aN];exact⟨SeqAt.RcAt.tuple_int _ _ p1 bx,SeqAt.RcNeAt.tuple_int _ _ p1 bx,SeqAt.EqAt.tuple_int _ _ p1 bx⟩
   | str x2 t2 =>
    obtain⟨_,p1⟩:=isT q1;simp only[aN];exact⟨SeqAt.RcAt.tuple_str _ _ p1 bx,SeqAt.RcNeAt.tuple_str _ _ p1 bx,SeqAt.EqAt.tuple_str _ _ p1 bx⟩
   | lst q2 s2 =>
    refine ref rfl rfl ?_;simp only[aN];obtain⟨_,p1⟩:=isT q1;obtain⟨_,p2⟩:=isL q2;exact⟨SeqAt.RcAt.tuple_list p1 p2 bx,SeqAt.RcNeAt.tuple_list p1 p2 bx⟩
   | tup q2 s2 =>
    refine ref rfl rfl ?_;simp only[aN];simp only[bG] at c c';exact E4 I bx (.inl (sub q1)) (.inl (sub q2)) s1 s2 fun {w z v u p q} m m' r r' rv ru=>(ih mi (all_eq_true.mp c _ m) (all_eq_true.mp c' _ m') r r' rv ru).2.2
end
def drf(ce:Ce):W->W
 | .cel k=>match ce[k]? with
  | some (.lst xs)=>.lst xs
  | _=>.cel k
 | w=>w
def cH(ce:Ce):W->Option (List W)
 | .lst xs=>some xs
 | .cel k=>match ce[k]? with
  | some (.lst xs)=>some xs
  | _=>none
 | _=>none
def fz(ce:Ce):W->Option (List W)
 | .tup xs=>some xs
 | w=>cH ce w
def lx(ce:Ce):W->Option (List (Key×W))
 | .cel k=>match ce[k]? with
  | some (.dct xs)=>some xs
  | _=>none
 | _=>none
def mq(ce:Ce):W->Option (List (Key×W))
 | .cel k=>match ce[k]? with
  | some (.dct xs)=>some xs
  | some (.fzd xs)=>some xs
  | _=>none
 | _=>none
def fK:W->Option Key
 | .int i=>some (.inl i)
 | .str x=>some (.inr (some x))
 | .non=>some (.inr none)
 | _=>none
theorem aB.toH(S:aB G F as H ce):Le F as H as:=⟨S.sub,fun _ _ h=>h⟩
theorem tF(S:aB G F as H ce)(r:Rep F as w v):Rep H as (drf ce w) v:=by
 cases w with
 | cel k =>
  simp only[drf];split
  ·rename_i xs hc;simp only[Rep] at r ⊢;obtain⟨a,rfl,h⟩:=r;obtain⟨_,vs,h2,rs⟩:=S.cell _ _ _ h hc;exact⟨a,vs,rfl,.inl h2,rs.le S.toH⟩
  ·exact r.le S.toH
 | _=>exact r.le S.toH
theorem i5(S:aB G F as H ce)(r:Rep F as w v)(e:cH ce w=some xs):∃a vs,v=.ref a/\Rd H a (.lst vs)/\aj F as xs vs:=by
 cases w<;>simp only[cH,reduceCtorEq,Option.some.injEq] at e
 ·subst e;simp only[Rep] at r;obtain⟨a,vs,rfl,h,q⟩:=r;exact⟨a,vs,rfl,Rd.sub S h,q⟩
 ·split at e
  ·rename_i xs' hc;cases e;simp only[Rep] at r;obtain⟨a,rfl,h⟩:=r;obtain⟨_,vs,h2,rs⟩:=S.cell _ _ _ h hc;exact⟨a,vs,rfl,.inl h2,rs⟩
  ·cases e
theorem pZ(S:aB G F as H ce)(r:Rep F as w v)(e:fz ce w=some xs):∃a vs,v=.ref a/\(Rd H a (.lst vs)\/Rd H a (.tup vs))/\aj F as xs vs:=by
 cases w with
 | tup ys =>
  simp only[fz,Option.some.injEq] at e;subst e;simp only[Rep] at r;obtain⟨a,vs,rfl,h,q⟩:=r;exact⟨a,vs,rfl,.inr (.inl (S.sub _ _ h)),q⟩
 | _ =>
  obtain⟨a,vs,h1,h2,h3⟩:=i5 S r e;exact⟨a,vs,h1,.inl h2,h3⟩
theorem tE{xs:List (Key×W)}(S:aB G F as H ce)(r:Rep F as w v)(e:lx ce w=some xs):∃k a ps,w=.cel k/\v=.ref a/\as[k]?=some a/\H a=some (.dK ps)/\aD F as xs ps:=by
 cases w<;>simp only[lx,reduceCtorEq] at e;split at e
 ·rename_i k xs' hc;cases e;simp only[Rep] at r;obtain⟨a,rfl,h⟩:=r;obtain⟨_,ps,h2,rs⟩:=S.cell _ _ _ h hc;exact⟨_,a,ps,rfl,rfl,h,h2,rs⟩
 ·cases e
theorem yZ{xs:List (Key×W)}(S:aB G F as H ce)(r:Rep F as w v)(e:mq ce w=some xs):∃k a ps,w=.cel k/\v=.ref a/\as[k]?=some a/\Rd H a (.dK ps)/\aD F as xs ps:=by
 cases w<;>simp only[mq,reduceCtorEq] at e;split at e
 ·rename_i k xs' hc;cases e;simp only[Rep] at r;obtain⟨a,rfl,h⟩:=r;obtain⟨_,ps,h2,rs⟩:=S.cell _ _ _ h hc;exact⟨_,a,ps,rfl,rfl,h,.inl h2,rs⟩
 ·rename_i k xs' hc;cases e;simp only[Rep] at r;obtain⟨a,rfl,h⟩:=r;obtain⟨_,o,ps,_,h2,rs⟩:=S.cell _ _ _ h hc;exact⟨_,a,ps,rfl,rfl,h,.inr ⟨o,h2⟩,rs⟩
 ·cases e
theorem nk{k:Key}(r:Rep F as w v)(e:fK w=some k):v=kV k:=by cases w<;>simp only[fK,reduceCtorEq,Option.some.injEq] at e<;>subst e<;>simp only[Rep] at r<;>exact r
def pe(ng:Bool):R2:=fun x y H Q=>∃as w z,Rep H as w x/\Rep H as z y/\bG 8 w=true/\bG 8 z=true/\Q (.bl (if ng then !aN w z else aN w z)) H
def rD(K:Frag)(ng:Bool):R2:=fun x y H Q=>∃as w ys a vs,Rep H as w x/\y=.ref a/\(cO K H a vs\/dX K H a vs)/\aj H as ys vs/\bG 8 w=true/\ys.all (bG 8)=true/\Q (.bl (if ng then !ys.any (aN · w) else ys.any (aN · w))) H
variable {K:Frag}
theorem sH(hu:X.A.units+8<cLine):dN X (compareOp .Eq) (pe false):=by intro pins s σ H x y v u Q I rx ry ⟨as,w,z,r1,r2,c1,c2,q⟩;exact(rE (fun _ _ h=>h) I 8 hu c1 c2 r1 r2 rx ry).1 X.prog X.w X.xe _ ⟨.bl _,H,I,rfl,q⟩
theorem DA(hu:X.A.units+8<cLine):dN X (compareOp .NotEq) (pe true):=by intro pins s σ H x y v u Q I rx ry ⟨as,w,z,r1,r2,c1,c2,q⟩;exact(rE (fun _ _ h=>h) I 8 hu c1 c2 r1 r2 rx ry).2.1 X.prog X.w X.xe _ ⟨.bl _,H,I,rfl,q⟩
open Classical in
theorem qC{σ:VS.St}{x:V}{u:Value}{ps:List Value}(I:Inv X pins σ H s)(hu:A.units+8<cLine)(rw':Rep H as w x)(c:bG 8 w=true)(cs:ys.all (bG 8)=true)(ru:L2.RelV x u)(rs:aj H as ys vs)(rp:Vals vs ps):∃e:Value->Bool,(∀y,y∈ps.toArray->SeqAt.EqAt A s y u (e y))/\ps.toArray.any e=ys.any (aN · w):=by
 have hl:=rs.length;have hl2:=rp.length;have key:∀{j:Nat} {p:Value},ps[j]?=some p->∃y v,ys[j]?=some y/\Rep H as y v/\L2.RelV v p/\bG 8 y=true:=fun {j p} hp=>by
  have hj:=e9 hp;have e1:vs[j]?=some (vs[j]'(by omega)):=by simp
  obtain⟨q,hq,rq⟩:=rp.get e1;rw[hp] at hq;cases hq;obtain⟨y,hy,ry⟩:=rs.get' e1;exact⟨y,_,hy,ry,rq,all_eq_true.mp cs _ (mem_of_getElem? hy)⟩
 have uniq:∀{j j':Nat} {p:Value} {y y':W},ps[j]?=some p->ps[j']?=some p->ys[j]?=some y->ys[j']?=some y'->y=y':=fun {j j' p y y'} h1 h2 h3 h4=>by
  obtain⟨z,v,hz,rz,rv,cz⟩:=key h1;obtain⟨z',v',hz',rz',rv',cz'⟩:=key h2;rw[h3] at hz;cases hz;rw[h4] at hz';cases hz';cases rv.inj rv';exact yM 8 cz cz' rz rz'
 refine⟨fun p=>decide (∃(j:Nat) (y:W),ps[j]?=some p/\ys[j]?=some y/\aN y w=true),fun p hp=>?_,?_⟩
 ·have hp':p∈ps:=by simpa using hp
  obtain⟨j,hj⟩:=getElem?_of_mem hp';obtain⟨y,v,hy,ry,rv,cy⟩:=key hj;have q:=(rE (fun _ _ h=>h) I 8 hu cy c ry rw' rv ru).2.2;have e:decide (∃(j:Nat) (y:W),ps[j]?=some p/\ys[j]?=some y/\aN y w=true)=aN y w:=by
   rw[Bool.eq_iff_iff,decide_eq_true_iff];constructor
   ·rintro⟨j',y',h1,h2,h3⟩;rw[uniq hj h1 hy h2];exact h3
   ·intro h;exact⟨j,y,hj,hy,h⟩
  show SeqAt.EqAt A s p u (decide (∃(j:Nat) (y:W),ps[j]?=some p/\ys[j]?=some y/\aN y w=true));rw[e];exact q
 ·rw[Bool.eq_iff_iff,any_eq_true',any_eq_true];constructor
  ·rintro⟨p,_,hp⟩;obtain⟨j,y,h1,h2,h3⟩:=of_decide_eq_true hp;exact⟨y,mem_of_getElem? h2,h3⟩
  ·rintro⟨y,hy,h⟩;obtain⟨j,hj⟩:=getElem?_of_mem hy;have hlt:=e9 hj;have e1:ps[j]?=some (ps[j]'(by omega)):=by simp
   refine⟨ps[j]'(by omega),by simp,decide_eq_true ⟨j,y,e1,hj,h⟩⟩
theorem Dz(hu:X.A.units+9<cLine)(hK:X.K=K:=by rfl):dN X (compareOp .In) (rD K false):=by
 subst hK;intro pins s σ H x y v u Q I rx ry ⟨as,w,ys,a,vs,r1,ey,sq,rs,c1,c2,q⟩;subst ey;cases ry;rcases sq with sq|sq
 ·obtain⟨ps,rp,pl,_⟩:=I.list sq;obtain⟨e,he,ea⟩:=qC (A:=X.A.in1) I (by show X.A.units+1+8<cLine;omega) r1 c1 c2 rx rs rp;exact SeqAt.in_listAt e pl.isList he ⟨.bl _,H,I,rfl,by rw[ea];exact q⟩
 ·obtain⟨ps,rp,pl,_⟩:=I.tuple sq;obtain⟨e,he,ea⟩:=qC (A:=X.A.in1) I (by show X.A.units+1+8<cLine;omega) r1 c1 c2 rx rs rp;exact SeqAt.in_tupleAt e pl he ⟨.bl _,H,I,rfl,by rw[ea];exact q⟩
theorem Ij(hu:X.A.units+9<cLine)(hK:X.K=K:=by rfl):dN X (compareOp .NotIn) (rD K true):=by
 subst hK;intro pins s σ H x y v u Q I rx ry ⟨as,w,ys,a,vs,r1,ey,sq,rs,c1,c2,q⟩;subst ey;cases ry;rcases sq with sq|sq
 ·obtain⟨ps,rp,pl,_⟩:=I.list sq;obtain⟨e,he,ea⟩:=qC (A:=X.A.in1) I (by show X.A.units+1+8<cLine;omega) r1 c1 c2 rx rs rp;exact SeqAt.notIn_listAt e pl.isList he ⟨.bl _,H,I,rfl,by rw[ea];exact q⟩
 ·obtain⟨ps,rp,pl,_⟩:=I.tuple sq;obtain⟨e,he,ea⟩:=qC (A:=X.A.in1) I (by show X.A.units+1+8<cLine;omega) r1 c1 c2 rx rs rp;exact SeqAt.notIn_tupleAt e pl he ⟨.bl _,H,I,rfl,by rw[ea];exact q⟩
def c6(ng:Bool)(ce:Ce)(x y:W):Option W:=if (bG 8 (drf ce x)&&bG 8 (drf ce y))=true then some (.bl (if ng then !aN (drf ce x) (drf ce y) else aN (drf ce x) (drf ce y))) else none
def gc(ng:Bool)(ce:Ce)(x y:W):Option W:=match fz ce y with
 | some ys=>if (bG 8 (drf ce x)&&ys.all (bG 8))=true then some (.bl (if ng then !ys.any (aN · (drf ce x)) else ys.any (aN · (drf ce x)))) else none
 | none=>none
def aC(f:Ce->W->W->Option W)(a b:Sl->M W):Sl->M W:=fun sl=>az (a sl) fun x=>az (b sl) fun y=>look fun ce=>f ce x y
section
variable {a c:Expr}
def nI(r:R2)(f:Ce->W->W->Option W):Prop:=∀(G:Ga) F as H ce x y wx wy w,aB G F as H ce->Rep F as wx x->Rep F as wy y->f ce wx wy=some w->∀Q:VK,(∀v,Rep F as w v->Q v H)->r x y H Q
theorem i4{r:R2}{f:Ce->W->W->Option W}(hf:nI r f)(σ:L2.St)(H:Hp)(Q:VK)(h:ax G E (aC f da db) σ H Q):l_ r (ax G E da) (ax G E db) σ H Q:=by refine oq h fun F as sl ce H2 x y wx wy S rx ry P=>?_;obtain⟨w,e,P⟩:=jP P;exact hf G F as H2 ce x y wx wy w S.st rx ry e Q fun v r=>P.done S r
theorem sG(ng:Bool):nI (pe ng) (c6 ng):=by
 intro G F as H ce x y wx wy w S rx ry e Q q;unfold c6 at e;split at e
 ·rename_i hc;rw[and_eq_true] at hc;cases e;exact⟨as,_,_,tF S rx,tF S ry,hc.1,hc.2,q _ (by simp only[Rep])⟩
 ·cases e
theorem xh(K:Frag)(ng:Bool):nI (rD K ng) (gc ng):=by
 intro G F as H ce x y wx wy w S rx ry e Q q;unfold gc at e;split at e
 ·rename_i ys hy;split at e
  ·rename_i hc;rw[and_eq_true] at hc;cases e;obtain⟨a,vs,rfl,h,rs⟩:=pZ S ry hy;exact⟨as,_,ys,a,vs,tF S rx,rfl,h.imp .inl .inl,rs.le S.toH,hc.1,hc.2,q _ (by simp only[Rep])⟩
  ·cases e
 ·cases e
theorem Cz(hu:X.A.units+8<cLine)(ha:PE X a (ax G E da))(hb:PE X b (ax G E db)):PE X (.Compare a [.Eq] [b] pos) (ax G E (aC (c6 false) da db)):=PE.imp (sQ (sH hu) ha hb (gC _)) (i4 (sG false))
theorem jd(hu:X.A.units+8<cLine)(ha:PE X a (ax G E da))(hb:PE X b (ax G E db)):PT X (.Compare a [.Eq] [b] pos) (cq G E (dB (aC (c6 false) da db))):=j3 (sH hu) ha hb (gC _) (i4 (sG false))
theorem v3(hu:X.A.units+8<cLine)(ha:PE X a (ax G E da))(hb:PE X b (ax G E db)):PT X (.Compare a [.NotEq] [b] pos) (cq G E (dB (aC (c6 true) da db))):=j3 (DA hu) ha hb (gC _) (i4 (sG true))
theorem Cy(hu:X.A.units+9<cLine)(ha:PE X a (ax G E da))(hb:PE X b (ax G E db))(hm:behindInMarks .In b=false):PT X (.Compare a [.In] [b] pos) (cq G E (dB (aC (gc false) da db))):=j3 (Dz hu rfl) ha hb hm (i4 (xh _ false))
theorem tQ(hu:X.A.units+9<cLine)(ha:PE X a (ax G E da))(hb:PE X b (ax G E db))(hm:behindInMarks .NotIn b=false):PT X (.Compare a [.NotIn] [b] pos) (cq G E (dB (aC (gc true) da db))):=j3 (Ij hu rfl) ha hb hm (i4 (xh _ true))
theorem oo{r:R2}(hf:mj r f):nI r (fun _=>f):=by intro G F as H ce x y wx wy w S rx ry e Q q;obtain⟨vx,vy,vw,e1,e2,e3,k⟩:=hf _ _ _ e;rw[rx.sc e1,ry.sc e2];exact k _ _ (q _ (Rep.of_sc e3))
theorem rQ(ha:PE X a (ax G E da))(hb:PE X b (ax G E db)):PT X (.Compare a [.Lt] [b] pos) (cq G E (dB (aF iN da db))):=j3 wq ha hb (gC _) (i4 (oo (kO fun _ _=>rfl)))
theorem Cw(ha:PE X a (ax G E da))(hb:PE X b (ax G E db)):PT X (.Compare a [.LtE] [b] pos) (cq G E (dB (aF uY da db))):=j3 Ck ha hb (gC _) (i4 (oo (kO fun _ _=>rfl)))
theorem rP(ha:PE X a (ax G E da))(hb:PE X b (ax G E db)):PT X (.Compare a [.Gt] [b] pos) (cq G E (dB (aF iO da db))):=j3 wo ha hb (gC _) (i4 (oo (kO fun _ _=>rfl)))
theorem xg{j pos'}(ha:PE X a (ax G E da)):PT X (.Compare a [.Is] [.Constant .none j pos'] pos) (cq G E (dB (eQ rF da))) :=
 pE ⟨_,D8 ha,fun σ H Q zz_=>bN zz_ fun F as sl ce S P=>(step S P).mono fun x H1 zz_=>bu zz_ fun wx F1 as1 ce1 l1 S1 rx P1=>aO.done S1 (a:=W.bl _) P1 (by simp only[Rep];rw[rx.isN])⟩ (gC _)
theorem qb{j pos'}(ha:PE X a (ax G E da)):PT X (.Compare a [.IsNot] [.Constant .none j pos'] pos) (cq G E (dB (eQ nV da))) :=
 pE ⟨_,FW ha,fun σ H Q zz_=>bN zz_ fun F as sl ce S P=>(step S P).mono fun x H1 zz_=>bu zz_ fun wx F1 as1 ce1 l1 S1 rx P1=>aO.done S1 (a:=W.bl _) P1 (by simp only[Rep];rw[rx.isN])⟩ (gC _)
def iq(a b:Sl->M W):Sl->M W:=fun sl=>az (a sl) fun x=>match x with
 | .bl true=>b sl
 | .bl false=>ret (.bl false)
 | _=>lK
def gK(a b:Sl->M W):Sl->M W:=fun sl=>az (a sl) fun x=>match x with
 | .bl true=>ret (.bl true)
 | .bl false=>b sl
 | _=>lK
def nN(a:Sl->M W):Sl->M W:=fun sl=>az (a sl) fun x=>match x with
 | .bl b=>ret (.bl (!b))
 | _=>lK
def gX(a b:Sl->M Bool):Sl->M Bool:=fun sl=>az (a sl) fun x=>match x with
 | true=>b sl
 | false=>ret false
def gS(a b:Sl->M Bool):Sl->M Bool:=fun sl=>az (a sl) fun x=>match x with
 | true=>ret true
 | false=>b sl
def fN(a:Sl->M Bool):Sl->M Bool:=fun sl=>az (a sl) fun x=>ret (!x)
def KO(c:Sl->M Bool)(a b:Sl->M W):Sl->M W:=fun sl=>az (c sl) fun x=>match x with
 | true=>a sl
 | false=>b sl
variable {cX:List Expr} {ta tb:Sl->M Bool}
theorem kb{op}(h:PE X a (ax G E da)):PE X (.BoolOp op [a] pos) (ax G E da):=EJ h
theorem om(ha:PE X a (ax G E da))(hb:PE X (.BoolOp .And (b::cX) pos) (ax G E db)):PE X (.BoolOp .And (a::b::cX) pos) (ax G E (iq da db)):=by
 refine PE.imp (EI ha hb) fun σ H Q zz_=>bN zz_ fun F as sl ce S P=>(step S P).mono fun x H1 zz_=>bu zz_ fun wx F1 as1 ce1 l1 S1 rx P1=>?_;cases wx<;>first|exact(show False from P1).elim|skip
 rename_i k;simp only[Rep] at rx;subst rx;cases k
 ·exact⟨false,rfl,by rw[if_neg Bool.false_ne_true];exact aO.done S1 (a:=W.bl false) P1 (by simp only[Rep])⟩
 ·exact⟨true,rfl,by rw[if_pos rfl];exact⟨F1,as1,sl,ce1,S1,P1⟩⟩
theorem pC(ha:PE X a (ax G E da))(hb:PE X (.BoolOp .Or (b::cX) pos) (ax G E db)):PE X (.BoolOp .Or (a::b::cX) pos) (ax G E (gK da db)):=by
 refine PE.imp (Dj ha hb) fun σ H Q zz_=>bN zz_ fun F as sl ce S P=>(step S P).mono fun x H1 zz_=>bu zz_ fun wx F1 as1 ce1 l1 S1 rx P1=>?_;cases wx<;>first|exact(show False from P1).elim|skip
 rename_i k;simp only[Rep] at rx;subst rx;cases k
 ·exact⟨false,rfl,by rw[if_neg Bool.false_ne_true];exact⟨F1,as1,sl,ce1,S1,P1⟩⟩
 ·exact⟨true,rfl,by rw[if_pos rfl];exact aO.done S1 (a:=W.bl true) P1 (by simp only[Rep])⟩
theorem Dy(ha:PE X a (ax G E da)):PE X (.UnaryOp .Not a pos) (ax G E (nN da)):=by
 refine PE.imp (EH ha) fun σ H Q zz_=>bN zz_ fun F as sl ce S P=>(step S P).mono fun x H1 zz_=>bu zz_ fun wx F1 as1 ce1 l1 S1 rx P1=>?_;cases wx<;>first|exact(show False from P1).elim|skip
 rename_i k;simp only[Rep] at rx;subst rx;exact⟨k,rfl,aO.done S1 (a:=W.bl (!k)) P1 (by simp only[Rep])⟩
theorem lV(ha:PT X a (cq G E ta)):PW X (.BoolOp .And [a] pos) (cq G E ta):=FV ha
theorem lQ(ha:PT X a (cq G E ta)):PW X (.BoolOp .Or [a] pos) (cq G E ta):=D5 ha
theorem lP(ha:PT X a (cq G E ta))(hb:PW X (.BoolOp .And (b::cX) pos) (cq G E tb)):PW X (.BoolOp .And (a::b::cX) pos) (cq G E (gX ta tb)):=by
 refine PW.imp (D4 ha hb) fun σ H Q zz_=>bN zz_ fun F as sl ce S P=>(step (RP:=rB) S P).mono fun x H1 zz_=>bu zz_ fun wx F1 as1 ce1 l1 S1 rx P1=>?_;have rx:wx=x:=rx;subst rx;cases wx
 ·rw[if_neg Bool.false_ne_true];exact aO.done (RP:=rB) S1 (a:=false) P1 rfl
 ·rw[if_pos rfl];exact⟨F1,as1,sl,ce1,S1,P1⟩
theorem j8(ha:PT X a (cq G E ta))(hb:PW X (.BoolOp .Or (b::cX) pos) (cq G E tb)):PW X (.BoolOp .Or (a::b::cX) pos) (cq G E (gS ta tb)):=by
 refine PW.imp (Dm ha hb) fun σ H Q zz_=>bN zz_ fun F as sl ce S P=>(step (RP:=rB) S P).mono fun x H1 zz_=>bu zz_ fun wx F1 as1 ce1 l1 S1 rx P1=>?_;have rx:wx=x:=rx;subst rx;cases wx
 ·rw[if_neg Bool.false_ne_true];exact⟨F1,as1,sl,ce1,S1,P1⟩
 ·rw[if_pos rfl];exact aO.done (RP:=rB) S1 (a:=true) P1 rfl
theorem ji(ha:PT X a (cq G E ta)):PT X (.UnaryOp .Not a pos) (cq G E (fN ta)):=by refine PT.imp (D3 ha) fun σ H Q zz_=>bN zz_ fun F as sl ce S P=>(step (RP:=rB) S P).mono fun x H1 zz_=>bu zz_ fun wx F1 as1 ce1 l1 S1 rx P1=>?_;have rx:wx=x:=rx;subst rx;exact aO.done (RP:=rB) S1 (a:=!wx) P1 rfl
end
def ak:Sl->M (List W):=fun _=>ret []
def af(a:Sl->M W)(r:Sl->M (List W)):Sl->M (List W):=fun sl=>az (a sl) fun x=>az (r sl) fun xs=>ret (x::xs)
open Classical in
def gH(w:W)(n:Nat):M W:=fun ce=>if n<=sizeLine then some (.ok w ce) else none
open Classical in
def i8(c:C)(n:Nat):M W:=fun ce=>if n<=sizeLine then some (.ok (.cel ce.length) (ce++[c])) else none
def bK(r:Sl->M (List W)):Sl->M W:=fun sl=>az (r sl) fun xs=>gH (.tup xs) xs.length
def eJ(r:Sl->M (List W)):Sl->M W:=fun sl=>az (r sl) fun xs=>gH (.lst xs) xs.length
def dF(r:Sl->M (List W)):Sl->M W:=fun sl=>az (r sl) fun xs=>i8 (.lst xs) xs.length
variable {es:List Expr} {dr:Sl->M (List W)}
section
variable {σ:VS.St}
theorem ar:PA X [] (fL G E ak):=PA.imp xn fun σ H Q zz_=>bN zz_ fun F as sl ce S P=>aO.done (RP:=aj) S (a:=[]) P aj.nil
theorem ai(ha:PE X e (ax G E da))(hr:PA X es (fL G E dr))(hs:starEach (e::es) X.env=(false,eval e X.env)::starEach es X.env:=by rfl):PA X (e::es) (fL G E (af da dr)):=by refine PA.imp (yz ha hr hs) fun σ H Q zz_=>bN zz_ fun F as sl ce S P=>(step S P).mono fun x H1 zz_=>bu zz_ fun wx F1 as1 ce1 l1 S1 rx P1=>(step (RP:=aj) S1 P1).mono fun y H2 zz_=>bu zz_ fun wy F2 as2 ce2 l2 S2 ry P2=>?_;exact aO.done (RP:=aj) S2 (a:=wx::wy) P2 (.cons (rx.le l2) ry)
theorem yJ(S:SR G F as H σ sl ce)(rs:aj F as xs vs)(P:aO G E Rep F as σ sl Q (gH (.lst xs) n ce)):n<=sizeLine/\∀p,H p=none->Q (.ref p) (upd H p (.lst vs)):=by
 revert P;unfold gH;split
 ·rename_i h;intro P;refine⟨h,fun p hp=>?_⟩;obtain⟨S',l⟩:=S.st.freeze (o:=.lst vs) hp;exact P _ _ _ _ l (S.slots S' l) (by simp only[Rep];exact⟨p,vs,rfl,.inl eB,rs.le l⟩)
 ·exact fun P=>P.elim
theorem qa(S:SR G F as H σ sl ce)(rs:aj F as xs vs)(P:aO G E Rep F as σ sl Q (gH (.tup xs) n ce)):n<=sizeLine/\∀p,H p=none->Q (.ref p) (upd H p (.tup vs)):=by
 revert P;unfold gH;split
 ·rename_i h;intro P;refine⟨h,fun p hp=>?_⟩;obtain⟨S',l⟩:=S.st.freeze (o:=.tup vs) hp;exact P _ _ _ _ l (S.slots S' l) (by simp only[Rep];exact⟨p,vs,rfl,eB,rs.le l⟩)
 ·exact fun P=>P.elim
theorem p_{c:C}(S:SR G F as H σ sl ce)(hc:∀p as',Le F as F as'->c_ G F as' (upd H p o) p c)(P:aO G E Rep F as σ sl Q (i8 c n ce)):n<=sizeLine/\∀p,H p=none->Q (.ref p) (upd H p o):=by
 revert P;unfold i8;split
 ·rename_i h;intro P;refine⟨h,fun p hp=>?_⟩;obtain⟨S',l⟩:=S.st.alloc (c:=c) hp (hc p);exact P _ _ _ _ l (S.slots S' l) (by simp only[Rep];exact⟨p,rfl,by rw[<- S.st.len];simp⟩)
 ·exact fun P=>P.elim
theorem yI(S:SR G F as H σ sl ce)(rs:aj F as xs vs)(P:aO G E Rep F as σ sl Q (i8 (.lst xs) n ce)):n<=sizeLine/\∀p,H p=none->Q (.ref p) (upd H p (.lst vs)) :=
 p_ (c:=.lst xs) S (fun p as' l=>⟨vs,eB,rs.le l⟩) P
theorem cw{x1}(h:PA X es (fL G E dr)):PE X (.Tuple es x1 pos) (ax G E (bK dr)):=by refine PE.imp (Eo h) fun σ H Q zz_=>bN zz_ fun F as sl ce S P=>(step (RP:=aj) S P).mono fun x H1 zz_=>bu zz_ fun wx F1 as1 ce1 l1 S1 rx P1=>?_;have:=qa S1 rx P1;rwa [<- aj.length rx] at this
theorem fW(h:PA X es (fL G E dr)):PE X (.List es pos) (ax G E (eJ dr)):=by refine PE.imp (sy h) fun σ H Q zz_=>bN zz_ fun F as sl ce S P=>(step (RP:=aj) S P).mono fun x H1 zz_=>bu zz_ fun wx F1 as1 ce1 l1 S1 rx P1=>?_;have:=yJ S1 rx P1;rwa [<- aj.length rx] at this
theorem gq(h:PA X es (fL G E dr)):PE X (.List es pos) (ax G E (dF dr)):=by refine PE.imp (sy h) fun σ H Q zz_=>bN zz_ fun F as sl ce S P=>(step (RP:=aj) S P).mono fun x H1 zz_=>bu zz_ fun wx F1 as1 ce1 l1 S1 rx P1=>?_;have:=yI S1 rx P1;rwa [<- aj.length rx] at this
def mD:Sl->M W:=fun _=>i8 (.dct []) 0
theorem yH:PE X (.Dict [] [] pos) (ax G E mD):=by refine PE.imp Hj fun σ H Q zz_=>bN zz_ fun F as sl ce S P=>?_;exact(p_ (c:=.dct []) (o:=.dK []) S (fun p as' l=>⟨[],eB,.nil⟩) P).2
end
def gm(kvs:List (Key×W))(k:Key):Option W:=(kvs.find? fun kv=>decide (kv.1=k)).map (·.2)
def ip(kvs:List (Key×W))(k:Key)(v:W):List (Key×W) :=
 if (kvs.any fun kv=>decide (kv.1=k))=true then kvs.map (fun kv=>if kv.1=k then (kv.1,v) else kv) else kvs++[(k,v)]
variable {ps:List (Key×V)}
section
variable {kvs:List (Key×W)}
theorem aD.val(r:aD F as kvs ps)(k:Key):(gm kvs k=none/\gn ps k=none)\/∃w v,gm kvs k=some w/\gn ps k=some v/\Rep F as w v:=by
 induction r with
 | nil=>exact .inl ⟨rfl,rfl⟩
 | @cons p q l1 l2 h t ih =>
  obtain⟨e,rv⟩:=h
  by_cases hk:p.1=k
  ·refine .inr ⟨p.2,q.2,?_,oN (by rw[<- e];exact hk),rv⟩;simp[gm,find?_cons,hk]
  ·have e1:gm (p::l1) k=gm l1 k:=by simp only[gm,find?_cons,hk,decide_false]
   rw[e1,oM (by rw[<- e];exact hk)];exact ih
theorem aD.any(r:aD F as kvs ps)(k:Key):(kvs.any fun kv=>decide (kv.1=k))=(ps.any fun kv=>decide (kv.1=k)):=by
 induction r with
 | nil=>rfl
 | cons h t ih=>rw[any_cons,any_cons,ih,h.1]
theorem aD.mapPut(k:Key)(rv:Rep F as w v)(r:aD F as kvs ps):aD F as (kvs.map fun kv=>if kv.1=k then (kv.1,w) else kv) (ps.map fun kv=>if kv.1=k then (kv.1,v) else kv):=by
 induction r with
 | nil=>exact .nil
 | @cons p q l1 l2 h t ih =>
  rw[map_cons,map_cons];refine .cons ?_ ih
  by_cases hk:p.1=k
  ·rw[if_pos hk,if_pos (by rw[<- h.1];exact hk)];exact⟨h.1,rv⟩
  ·rw[if_neg hk,if_neg (by rw[<- h.1];exact hk)];exact h
theorem aD.put(r:aD F as kvs ps)(k:Key)(rv:Rep F as w v):aD F as (ip kvs k w) (fM ps k v):=by
 unfold ip fM;rw[r.any k];split
 ·exact r.mapPut k rv
 ·exact Paired.app r (.cons ⟨rfl,rv⟩ .nil)
theorem aD.length(r:aD F as kvs ps):kvs.length=ps.length:=Paired.length r
end
def iR(ng:Bool)(ce:Ce)(x y:W):Option W:=match fK x,lx ce y with
 | some k,some kvs=>some (.bl (if ng then !(gm kvs k).isSome else (gm kvs k).isSome))
 | _,_=>none
def mB(ce:Ce)(x y:W):Option W:=match fK y,lx ce x with
 | some k,some kvs=>gm kvs k
 | _,_=>none
variable {p2:Pos} {mk:List W->M W}
section
variable {a c:Expr}
theorem E3(ng:Bool)(σ:L2.St)(H:Hp)(Q:VK)(h:ax G E (aC (iR ng) da db) σ H Q) :
  ax G E da σ H fun y H1=>ax G E db σ H1 fun x H2=>∃a o,x=.ref a/\c9 H2 a y o/\Q (.bl (if ng then !o.isSome else o.isSome)) H2:=by
 obtain⟨F,as,sl,ce,S,P⟩:=h;refine(step S P).mono fun x H1 zz_=>bu zz_ fun wx F1 as1 ce1 l1 S1 rx P1=>(step S1 P1).mono fun y H2 zz_=>bu zz_ fun wy F2 as2 ce2 l2 S2 ry P2=>?_;obtain⟨w,e,P3⟩:=jP P2;unfold iR at e;split at e
 ·rename_i k kvs hk hd;cases e;obtain⟨n,a,ps,rfl,rfl,ha,hH,rk⟩:=tE S2.st ry hd;rw[nk rx hk];refine⟨a,_,rfl,c9.kz hH,?_⟩;rcases rk.val k with ⟨e1,e2⟩|⟨w,v,e1,e2,_⟩
  ·rw[e1] at P3;rw[e2];exact P3.done S2 (by simp only[Rep];cases ng<;>rfl)
  ·rw[e1] at P3;rw[e2];exact P3.done S2 (by simp only[Rep];cases ng<;>rfl)
 ·cases e
theorem qx(hu:X.A.units+1<cLine)(ha:PE X a (ax G E da))(hb:PE X b (ax G E db))(h1:behindInMarks .NotIn b=false):PT X (.Compare a [.NotIn] [b] pos) (cq G E (dB (aC (iR true) da db))):=pE ⟨_,zP hu ha hb,E3 true⟩ h1
theorem yG(hu:X.A.units+1<cLine)(ha:PE X a (ax G E da))(hb:PE X b (ax G E db))(hs:pf b):PE X (.Subscript a b pos) (ax G E (aC mB da db)):=by
 refine PE.imp (yp hu ha hb hs) fun σ H Q zz_=>bN zz_ fun F as sl ce S P=>(step S P).mono fun x H1 zz_=>bu zz_ fun wx F1 as1 ce1 l1 S1 rx P1=>(step S1 P1).mono fun y H2 zz_=>bu zz_ fun wy F2 as2 ce2 l2 S2 ry P2=>?_;obtain⟨w,e,P3⟩:=jP P2;unfold mB at e;split at e
 ·rename_i k kvs hk hd;obtain⟨n,a,ps,rfl,rfl,ha,hH,rk⟩:=tE S2.st (rx.le l2) hd;rw[nk ry hk];rcases rk.val k with ⟨e1,e2⟩|⟨w',v,e1,e2,rv⟩
  ·rw[e1] at e;cases e
  ·rw[e1] at e;cases e;exact⟨a,v,rfl,by rw[<- e2];exact c9.kz hH,P3.done S2 rv⟩
 ·cases e
def aE(ce:Ce)(x y:W):Option W:=match fz ce x,y with
 | some xs,.int i=>atI xs i
 | _,_=>none
theorem aj.atI{F:Hp}{as:List Addr}{ws:List W}{vs:List V}{i:Int}{w:W}(r:aj F as ws vs)(h:L2.atI ws i=some w):∃v,L2.atI vs i=some v/\Rep F as w v:=by
 unfold L2.atI at h ⊢;rw[r.length];cases e:ixN ws.length i with
 | none=>rw[e] at h;cases h
 | some j=>rw[e] at h;exact r.get h
theorem Dx(K:Frag):nI (fun x y H Q=>q9 K x y H Q\/q5 K x y H Q) aE:=by
 intro G F as H ce x y wx wy w S rx ry e Q q;unfold aE at e;split at e
 ·rename_i xs i hs;obtain⟨a,vs,rfl,h,rs⟩:=pZ S rx hs;obtain⟨v,hv,rv⟩:=rs.atI e;simp only[Rep] at ry;subst ry;rcases h with h|h
  ·exact .inl ⟨a,vs,i,v,rfl,rfl,.inl h,hv,q _ rv⟩
  ·exact .inr ⟨a,vs,i,v,rfl,rfl,.inl h,hv,q _ rv⟩
 ·cases e
theorem aV(ha:PE X a (ax G E da))(hb:PE X b (ax G E db))(hs:yt b):PE X (.Subscript a b pos) (ax G E (aC aE da db)):=PE.imp (B8 (jU.or (Kj X.K rfl) (Ki X.K rfl)) ha hb hs) (i4 (Dx _))
def kX:Sl->M (Option Int):=fun _=>ret none
def kM(d:Sl->M W):Sl->M (Option Int):=fun sl=>az (d sl) fun w=>match w with
 | .int i=>ret (some i)
 | _=>lK
def rO:Hp->List Addr->Option Int->Option Int->Prop:=fun _ _ a b=>a=b
abbrev pd(G:Ga)(E:XK)(d:Sl->M (Option Int)):TO:=toT G E rO d
theorem PO.imp{e:Option Expr}{t t':TO}(h:PO X e t)(q:∀σ H Q,t' σ H Q->t σ H Q):PO X e t':=fun pins s σ H Q I z=>h pins s σ H Q I (q _ _ _ z)
theorem tD:PO X none (pd G E kX):=PO.imp FD fun σ H Q zz_=>bN zz_ fun F as sl ce S P=>aO.done (RP:=rO) S (a:=none) P rfl
theorem tw(h:PE X a (ax G E da)):PO X (some a) (pd G E (kM da)):=by
 refine PO.imp (FC h) fun σ H Q zz_=>bN zz_ fun F as sl ce S P=>(step S P).mono fun x H1 zz_=>bu zz_ fun wx F1 as1 ce1 l1 S1 rx P1=>?_;cases wx<;>first|exact(show False from P1).elim|skip
 simp only[Rep] at rx;exact⟨_,rx,aO.done (RP:=rO) S1 (a:=some _) P1 rfl⟩
def nM(xs:List W)(lo hi:Option Int):List W:=(xs.drop (HT.sIx xs.length 0 lo)).take (HT.sIx xs.length xs.length hi-HT.sIx xs.length 0 lo)
theorem aj.cut(r:aj F as ws vs)(lo hi:Option Int):aj F as (nM ws lo hi) (lE vs lo hi):=by unfold nM lE;rw[r.length];exact(r.drop _).take _
def bW(xs:List W):M W:=gH (.lst xs) xs.length
def fS(xs:List W):M W:=i8 (.lst xs) xs.length
def nL(xs:List W):M W:=gH (.tup xs) xs.length
def jt(G:Ga)(E:XK)(mk:List W->M W):Prop:=∀{F:Hp} {as:List Addr} {H:Hp} {σ:VS.St} {sl:Sl} {ce:Ce} {Q:VK} {xs:List W} {vs:List V},SR G F as H σ sl ce->aj F as xs vs->aO G E Rep F as σ sl Q (mk xs ce)->xs.length<=sizeLine/\∀p,H p=none->Q (.ref p) (upd H p (.lst vs))
theorem fB:jt G E bW:=fun S rs P=>yJ S rs P
theorem j0:jt G E fS:=fun S rs P=>yI S rs P
def slT(x:W)(lo hi:Option Int):M W:=fun ce=>match x with
 | .tup xs=>if HT.sIx xs.length 0 lo=0/\HT.sIx xs.length xs.length hi=xs.length then none else nL (nM xs lo hi) ce
 | _=>none
def kD(d:Sl->M W)(l h:Sl->M (Option Int)):Sl->M W:=fun sl=>az (d sl) fun x=>az (l sl) fun lo=>az (h sl) fun hi=>slT x lo hi
theorem sF{lo hi:Option Expr}{dl dh:Sl->M (Option Int)}(he:PE X a (ax G E da))(hl:PO X lo (pd G E dl))(hu:PO X hi (pd G E dh)):PE X (.Subscript a (.Slice lo hi none p2) pos) (ax G E (kD da dl dh)):=by
 refine PE.imp (Hs (L2.slT X.K) he hl hu) fun σ H Q zz_=>bN zz_ fun F as sl ce S P=>(step S P).mono fun x H1 zz_=>bu zz_ fun wx F1 as1 ce1 l1 S1 rx P1=>(step (RP:=rO) S1 P1).mono fun y H2 zz_=>bu zz_ fun wy F2 as2 ce2 l2 S2 ry P2=>(step (RP:=rO) S2 P2).mono fun z H3 zz_=>bu zz_ fun wz F3 as3 ce3 l3 S3 rz P3=>?_;have ry:wy=y:=ry;have rz:wz=z:=rz;subst ry rz;unfold slT at P3;cases wx<;>first|exact(show False from P3).elim|skip
 have rx:=(rx.le l2).le l3;simp only[Rep] at rx;obtain⟨p,vs,rfl,h,rs⟩:=rx;dsimp only at P3;split at P3
 ·exact(show False from P3).elim
 ·rename_i hc;exact⟨p,vs,rfl,.inl (.inl (S3.st.sub _ _ h)),by rw[rs.length];exact hc,(qa S3 (rs.cut wy wz) P3).2⟩
open Classical in
def o_(mk:List W->M W)(x y:W):M W:=fun ce=>match cH ce x,cH ce y with
 | some xs,some ys=>if xs.length+ys.length<=sizeLine then mk (xs++ys) ce else none
 | _,_=>none
def fR(mk:List W->M W)(a b:Sl->M W):Sl->M W:=fun sl=>az (a sl) fun x=>az (b sl) fun y=>o_ mk x y
def Cv:R2:=fun x y H Q=>∃l b xs zs,x=.ref l/\y=.ref b/\Rd H l (.lst xs)/\Rd H b (.lst zs)/\xs.length+zs.length<=sizeLine/\∀p,H p=none->Q (.ref p) (upd H p (.lst (xs++zs)))
theorem Inv.lstR{σ:VS.St}{l:Addr}{xs:List V}(I:Inv X pins σ H s)(hH:Rd H l (.lst xs)):xs.length<=sizeLine/\∃(its:List Value) (n:Nat),Vals xs its/\xs.length=its.length/\s.heap.get? l=some { cls:=.type "list",data:=.seq its.toArray n }:=by obtain⟨z,its,n,r,e⟩:=hH.ok I.hok;exact⟨z,its,n,r,r.length,e⟩
theorem E2:dN X (binaryOp .Add) Cv:=by
 intro pins s σ H x y v u Q I rx ry h;obtain⟨l,b,xs,zs,rfl,rfl,hH,hB,hz,q⟩:=h;cases rx;cases ry;obtain⟨z,its,n,r,hl,e⟩:=Inv.lstR I hH;obtain⟨z2,its2,n2,r2,hl2,e2⟩:=Inv.lstR I hB;refine PySem.P.add_list e e2 ?_ (by rw[size_toArray,size_toArray];omega);have ea:its.toArray++its2.toArray=(its++its2).toArray:=by simp
 rw[ea];exact⟨.ref _,_,I.lnew (t':=s.toks) (r.append r2) (by rw[length_append];omega),rfl,q _ I.fresh⟩
theorem ka(hm:jt G E mk)(ha:PE X a (ax G E da))(hb:PE X b (ax G E db)):PE X (.BinOp a .Add b pos) (ax G E (fR mk da db)):=by
 refine PE.imp (pw E2 ha hb) fun σ H Q h=>oq h fun F as sl ce H2 x y wx wy S rx ry P=>?_;unfold o_ at P;split at P
 ·rename_i xs ys h1 h2;split at P
  ·rename_i hl;obtain⟨p,vs,rfl,q1,r1⟩:=i5 S.st rx h1;obtain⟨p',us,rfl,q2,r2⟩:=i5 S.st ry h2;exact⟨p,p',vs,us,rfl,rfl,q1,q2,by rw[r1.length,r2.length];exact hl,(hm S (r1.append r2) P).2⟩
  ·exact(show False from P).elim
 ·exact(show False from P).elim
end
inductive Fl where
 | nx|bk|ct|rt (w:W)
inductive O where
 | go (f:Fl) (sl:Sl) (ce:Ce)|ex (x:d_) (ce:Ce)
abbrev DS:=Sl->Ce->Option O
def Cu(D:Ends)(F:Hp)(as:List Addr)(σ:VS.St)(H:Hp):Fl->Prop
 | .nx=>D.nx σ H
 | .bk=>D.bk σ H
 | .ct=>D.ct σ H
 | .rt w=>∀v,Rep F as w v->D.rt v H
def bB(G:Ga)(E:XK)(D:Ends)(F:Hp)(as:List Addr):Option O->Prop
 | some (.go f sl' ce')=>∀σ' H' F' as',Le F as F' as'->SR G F' as' H' σ' sl' ce'->Cu D F' as' σ' H' f
 | some (.ex x ce')=>∀H' F' as' cv od,Le F as F' as'->aB G F' as' H' ce'->G.xr x cv od F'->E cv od H'
 | none=>False
def bq(G:Ga)(E:XK)(d:DS):TS:=fun D σ H=>∃F as sl ce,SR G F as H σ sl ce/\bB G E D F as (d sl ce)
def cL{α:Type}(m:Option (R α))(k:α->Ce->Option O):Option O:=match m with
 | some (.ok a ce')=>k a ce'
 | some (.ex x ce')=>some (.ex x ce')
 | none=>none
variable {D:Ends}
section
variable {α β:Type} {RP:Hp->List Addr->α->β->Prop} {σ:VS.St} {D':Ends}
theorem bB.le{r:Option O}(l:Le F as F' as')(P:bB G E D F as r):bB G E D F' as' r:=by
 cases r with
 | none=>exact P
 | some r=>cases r with
  | go f sl' ce'=>exact fun σ' H' F2 as2 l2=>P σ' H' F2 as2 (l.trans l2)
  | ex x ce'=>exact fun H' F2 as2 cv od l2=>P H' F2 as2 cv od (l.trans l2)
theorem iD{d:Sl->M α}{k:α->Ce->Option O}(S:SR G F as H σ sl ce)(P:bB G E D F as (cL (d sl ce) k)) :
  toT G E RP d σ H fun b H2=>∃a F' as' ce',Le F as F' as'/\SR G F' as' H2 σ sl ce'/\RP F' as' a b/\bB G E D F' as' (k a ce'):=by
 refine⟨F,as,sl,ce,S,?_⟩;revert P;unfold cL;cases d sl ce with
 | none=>exact fun P=>P
 | some r=>cases r with
  | ok a ce'=>exact fun P b H' F' as' l S' r=>⟨a,F',as',ce',l,S',r,P.le l⟩
  | ex x ce'=>exact fun P=>P
theorem bB.nxt(S:SR G F as H σ sl ce)(P:bB G E D F as (some (.go .nx sl ce))):D.nx σ H:=P σ H F as .refl S
end
def bI:DS:=fun sl ce=>some (.go .nx sl ce)
def u7:DS:=fun sl ce=>some (.go .ct sl ce)
def ay(a b:DS):DS:=fun sl ce=>match a sl ce with
 | some (.go .nx sl' ce')=>b sl' ce'
 | r=>r
def c7(d:Sl->M W):DS:=fun sl ce=>cL (d sl ce) fun _ ce'=>some (.go .nx sl ce')
def a_(d:Sl->M W):DS:=fun sl ce=>cL (d sl ce) fun w ce'=>some (.go (.rt w) sl ce')
def bz(c:Sl->M Bool)(a b:DS):DS:=fun sl ce=>cL (c sl ce) fun t ce'=>match t with
 | true=>a sl ce'
 | false=>b sl ce'
abbrev DG:=W->Sl->Ce->Option (Sl×Ce)
def gN(i:Nat):DG:=fun w sl ce=>some (sl.set i (some w),ce)
def gj(d:Sl->M W)(g:DG):DS:=fun sl ce=>cL (d sl ce) fun w ce'=>match g w sl ce' with
 | some (sl',ce'')=>some (.go .nx sl' ce'')
 | none=>none
def bf(i:Nat)(d:Sl->M W):DS:=fun sl ce=>cL (d sl ce) fun w ce'=>some (.go .nx (sl.set i (some w)) ce')
def nH(G:Ga)(X:Cx)(tg:Expr)(g:DG):Prop:=∃t:TG,PG X tg t/\∀F as H σ sl ce w v sl' ce' (Q:VS.St->Hp->Prop),SR G F as H σ sl ce->Rep F as w v->g w sl ce=some (sl',ce') ->
 (∀σ' H' F' as',Le F as F' as'->SR G F' as' H' σ' sl' ce'->Q σ' H')->t v σ H Q
def o9(G:Ga)(X:Cx)(tgs:List Expr)(g:List W->Sl->Ce->Option (Sl×Ce)):Prop:=∃t:lh,PGs X tgs t/\∀F as H σ sl ce ws vs sl' ce' (Q:VS.St->Hp->Prop),SR G F as H σ sl ce->aj F as ws vs->g ws sl ce=some (sl',ce') ->
 (∀σ' H' F' as',Le F as F' as'->SR G F' as' H' σ' sl' ce'->Q σ' H')->t vs σ H Q
def jc:List W->Sl->Ce->Option (Sl×Ce):=fun ws sl ce=>match ws with
 | []=>some (sl,ce)
 | _=>none
def eE(g:DG)(r:List W->Sl->Ce->Option (Sl×Ce)):List W->Sl->Ce->Option (Sl×Ce):=fun ws sl ce=>match ws with
 | w::ws=>match g w sl ce with
  | some (sl',ce')=>r ws sl' ce'
  | none=>none
 | []=>none
def gT(n:Nat)(r:List W->Sl->Ce->Option (Sl×Ce)):DG:=fun w sl ce=>match w with
 | .tup ws=>if ws.length=n then r ws sl ce else none
 | _=>none
variable {c:Sl->M Bool} {r:List W->Sl->Ce->Option (Sl×Ce)} {tg:Expr} {pos':Pos}
section
variable {st:Stmt} {cX:List Stmt} {a b:DS} {g:DG}
theorem cp:PSs X [] (bq G E bI):=PSs.imp FT fun D σ H zz_=>bN zz_ fun F as sl ce S P=>P.nxt S
theorem Jp:PS X (.Continue pos) (bq G E u7):=PS.imp Jg fun D σ H zz_=>bN zz_ fun F as sl ce S P=>P σ H F as .refl S
theorem aH(h:PS X st (bq G E a)):PSs X [st] (bq G E a):=FR h
theorem aG(h1:PS X st (bq G E a))(h2:PSs X cX (bq G E b)):PSs X (st::cX) (bq G E (ay a b)):=by
 refine PSs.imp (Ha h1 h2) fun D σ H zz_=>bN zz_ fun F as sl ce S P=>⟨F,as,sl,ce,S,?_⟩
 revert P;unfold ay;cases a sl ce with
 | none=>exact fun P=>P.elim
 | some r=>cases r with
  | ex x ce'=>exact fun P=>P
  | go f sl' ce'=>cases f with
   | nx=>exact fun P σ' H' F' as' l S'=>⟨F',as',sl',ce',S',P.le l⟩
   | bk=>exact fun P=>P
   | ct=>exact fun P=>P
   | rt w=>exact fun P=>P
theorem fP(he:PE X e (ax G E d))(hs:swapsWith e none pos.line X.env=pure false:=by rfl):PS X (.Expr e pos) (bq G E (c7 d)) :=
 PS.imp (FQ he hs) fun D σ H zz_=>bN zz_ fun F as sl ce S P=>(iD S P).mono fun x H1 zz_=>bu zz_ fun wx F1 as1 ce1 l1 S1 rx P1=>P1.nxt S1
theorem bt(he:PE X e (ax G E d)):PS X (.Return (some e) pos) (bq G E (a_ d)) :=
 PS.imp (EG he) fun D σ H zz_=>bN zz_ fun F as sl ce S P=>(iD S P).mono fun x H1 zz_=>bu zz_ fun wx F1 as1 ce1 l1 S1 rx P1=>P1 σ H1 F1 as1 .refl S1 x rx
theorem b_{t:Expr}{sa sb:List Stmt}(hc:PT X t (cq G E c))(ha:PSs X sa (bq G E a))(hb:PSs X sb (bq G E b)):PS X (.If t sa sb pos) (bq G E (bz c a b)):=by
 refine PS.imp (Df hc ha hb) fun D σ H zz_=>bN zz_ fun F as sl ce S P=>(iD (RP:=rB) S P).mono fun x H1 zz_=>bu zz_ fun wx F1 as1 ce1 l1 S1 rx P1=>?_;have rx:wx=x:=rx;subst rx;cases wx
 ·rw[if_neg Bool.false_ne_true];exact⟨F1,as1,sl,ce1,S1,P1⟩
 ·rw[if_pos rfl];exact⟨F1,as1,sl,ce1,S1,P1⟩
theorem bD{x:Str}(hN:X.N.Nodup)(hi:X.N[i]?=some x)(hx:Loc X.env.scope x)(he:PE X e (ax G E d))(hs:swapsWith e (some (.Name x pos')) pos.line X.env=pure false:=by rfl)(hf:X.fn x=true\/X.env.scope.names.lookup x=some .local:=by first|exact .inl rfl|exact .inr rfl|assumption):PS X (.Assign [.Name x pos'] e pos) (bq G E (bf i d)) :=
 PS.imp (EC hN hi hx he hs hf) fun D σ H zz_=>bN zz_ fun F as sl ce S P=>(iD S P).mono fun x H1 zz_=>bu zz_ fun wx F1 as1 ce1 l1 S1 rx P1=>P1 _ H1 F1 as1 .refl (S1.put rx i)
theorem cE{x:Str}(hN:X.N.Nodup)(hi:X.N[i]?=some x)(hx:Loc X.env.scope x)(hf:X.fn x=true\/X.env.scope.names.lookup x=some .local:=by first|exact .inl rfl|exact .inr rfl|assumption):nH G X (.Name x pos) (gN i) :=
 ⟨ig i,sR hN hi hx hf,fun F as H σ sl ce w v sl' ce' Q S r e k=>by
  cases e;exact k _ _ _ _ .refl (S.put r i)⟩
theorem nj:o9 G X [] jc:=⟨_,FP,fun F as H σ sl ce ws vs sl' ce' Q S r e k=>by
 cases ws with
 | nil=>cases e;simp only[aj] at r;exact⟨r,k _ _ _ _ .refl S⟩
 | cons w ws=>cases e⟩
theorem iJ(h1:nH G X e g)(h2:o9 G X es r)(hs:(assignEach (e::es) X.env).map (·.2)=assign e X.env::(assignEach es X.env).map (·.2):=by rfl):o9 G X (e::es) (eE g r):=by
 obtain⟨t,h1,q1⟩:=h1;obtain⟨u,h2,q2⟩:=h2;refine⟨_,G_ h1 h2 hs,fun F as H σ sl ce ws vs sl' ce' Q S rs e k=>?_⟩;cases ws with
 | nil=>cases e
 | cons w ws =>
  simp only[aj] at rs;obtain⟨v,vs',rfl,rv,rs⟩:=rs;simp only[eE] at e;split at e
  ·rename_i sl1 ce1 eg;refine⟨v,vs',rfl,q1 F as H σ sl ce w v sl1 ce1 _ S rv eg fun σ' H' F' as' l S'=>?_⟩;exact q2 F' as' H' σ' sl1 ce1 ws vs' sl' ce' Q S' (rs.le l) e fun σ2 H2 F2 as2 l2 S2=>k _ _ _ _ (l.trans l2) S2
  ·cases e
theorem mY(hc:X.calm=true)(h:o9 G X es r)(hn:(assignEach es X.env).length=n:=by rfl)(hst:(assignEach es X.env).findIdx? (·.1)=none:=by rfl):nH G X (.Tuple es k pos) (gT n r):=by
 obtain⟨t,h,q⟩:=h;refine⟨_,EF hc h hn hst,fun F as H σ sl ce w v sl' ce' Q S rw' e k=>?_⟩;cases w<;>simp only[gT,reduceCtorEq] at e;split at e
 ·rename_i ws hl;simp only[Rep] at rw';obtain⟨a,vs,rfl,ha,rs⟩:=rw';exact⟨a,vs,rfl,.inl (.inl (S.st.sub _ _ ha)),by rw[rs.length];exact hl,q F as H σ sl ce _ vs sl' ce' Q S rs e k⟩
 ·cases e
theorem lO(he:PE X e (ax G E d))(hg:nH G X tg g)(hs:swapsWithSole [tg] e pos.line X.env=pure false:=by rfl)(hw:swappedStores [tg] e X.env=pure none:=by rfl)(h1:(assignEach [tg] X.env).map (·.2)=[assign tg X.env]:=by rfl):PS X (.Assign [tg] e pos) (bq G E (gj d g)):=by
 obtain⟨t,hg,q⟩:=hg;refine PS.imp (ED he hg hs hw h1) fun D σ H zz_=>bN zz_ fun F as sl ce S P=>(iD S P).mono fun x H1 zz_=>bu zz_ fun wx F1 as1 ce1 l1 S1 rx P1=>?_;split at P1
 ·rename_i sl' ce'' eg;exact q F1 as1 H1 σ sl ce1 wx x sl' ce'' _ S1 rx eg fun σ' H' F' as' l S'=>P1 σ' H' F' as' l S'
 ·exact(show False from P1).elim
def jC(ce:Ce):W->Option (Nat×List W)
 | .cel k=>match ce[k]? with
  | some (.lst xs)=>some (k,xs)
  | _=>none
 | _=>none
def kC(ce:Ce):W->Option (Nat×List (Key×W))
 | .cel k=>match ce[k]? with
  | some (.dct xs)=>some (k,xs)
  | _=>none
 | _=>none
theorem oK(S:aB G F as H ce)(r:Rep F as w v)(e:jC ce w=some (k,xs)):∃a vs,v=.ref a/\as[k]?=some a/\H a=some (.lst vs)/\aj F as xs vs:=by
 cases w<;>simp only[jC,reduceCtorEq] at e;split at e
 ·rename_i hc;cases e;simp only[Rep] at r;obtain⟨a,rfl,h⟩:=r;obtain⟨_,vs,h2,rs⟩:=S.cell _ _ _ h hc;exact⟨a,vs,rfl,h,h2,rs⟩
 ·cases e
theorem Hg{xs:List (Key×W)}(S:aB G F as H ce)(r:Rep F as w v)(e:kC ce w=some (k,xs)):∃a ps,v=.ref a/\as[k]?=some a/\H a=some (.dK ps)/\aD F as xs ps:=by
 cases w<;>simp only[kC,reduceCtorEq] at e;split at e
 ·rename_i hc;cases e;simp only[Rep] at r;obtain⟨a,rfl,h⟩:=r;obtain⟨_,ps,h2,rs⟩:=S.cell _ _ _ h hc;exact⟨a,ps,rfl,h,h2,rs⟩
 ·cases e
def j7(o i:Sl->M W):DG:=fun w sl ce=>match o sl ce with
 | some (.ok ow ce1)=>match i sl ce1 with
  | some (.ok (.int j) ce2)=>match jC ce2 ow with
   | some (k,xs)=>match ixN xs.length j with
    | some n=>some (sl,ce2.set k (.lst (xs.set n w)))
    | none=>none
   | none=>none
  | _=>none
 | _=>none
theorem tq{o i:Expr}(ho:PE X o (ax G E da))(hi:PE X i (ax G E db))(hA:∀v,assign (.Subscript o i pos) X.env v=(do
   let ov <- holding [v] (eval o X.env)
   let iv <- holding [v,ov] (eval i X.env)
   standAt pos
   holding [v,ov,iv] (setItem ov iv v)
   release [v,ov,iv] []):=by intro _;rfl):nH G X (.Subscript o i pos) (j7 da db):=by
 refine⟨_,EE ho hi Hr hA,fun F as H σ sl ce w v sl' ce' Q S rw' e k=>?_⟩;unfold j7 at e;refine⟨F,as,sl,ce,S,?_⟩;cases e1:da sl ce with
 | none=>rw[e1] at e;cases e
 | some r1=>cases r1 with
  | ex x c=>rw[e1] at e;cases e
  | ok ow ce1 =>
   rw[e1] at e;intro ov H1 F1 as1 l1 S1 ro;refine⟨F1,as1,sl,ce1,S1,?_⟩;dsimp only at e;cases e2:db sl ce1 with
   | none=>rw[e2] at e;cases e
   | some r2=>cases r2 with
    | ex x c=>rw[e2] at e;cases e
    | ok iw ce2 =>
     rw[e2] at e;intro iv H2 F2 as2 l2 S2 ri;cases iw<;>simp only[reduceCtorEq] at e;rename_i j;split at e
     ·rename_i kk xs hk;split at e
      ·rename_i n hn;cases e;simp only[Rep] at ri;subst ri;obtain⟨a,vs,rfl,ha,hH,rs⟩:=oK S2.st (ro.le l2) hk;have rset:=rs.set n ((rw'.le l1).le l2);refine⟨a,vs,j,n,rfl,rfl,hH,by rw[rs.length];exact hn,?_⟩;exact k _ _ _ _ (l1.trans l2) (S2.slots (S2.st.write (o:=.lst (vs.set n v)) (c:=.lst (xs.set n w)) ha ⟨_,eB,rset⟩) .refl)
      ·cases e
     ·cases e
open Classical in
def kG(o i v:Sl->M W):DS:=fun sl ce=>cL (v sl ce) fun w ce1=>cL (o sl ce1) fun ow ce2=>cL (i sl ce2) fun iw ce3=>match fK iw,kC ce3 ow with
 | some key,some (k,kvs)=>if kvs.length<sizeLine then some (.go .nx sl (ce3.set k (.dct (ip kvs key w)))) else none
 | _,_=>none
theorem sE{o i value:Expr}(hu:X.A.units+1<cLine)(ho:PE X o (ax G E da))(hi:PE X i (ax G E db))(hv:PE X value (ax G E dc))(hs:swapsWith value (some (.Subscript o i pos')) pos.line X.env=pure false:=by rfl) :
  PS X (.Assign [.Subscript o i pos'] value pos) (bq G E (kG da db dc)):=by
 refine PS.imp (Gb hu ho hi hv hs) fun D σ H zz_=>bN zz_ fun F as sl ce S P=>(iD S P).mono fun x H1 zz_=>bu zz_ fun wx F1 as1 ce1 l1 S1 rx P1=>(iD S1 P1).mono fun y H2 zz_=>bu zz_ fun wy F2 as2 ce2 l2 S2 ry P2=>(iD S2 P2).mono fun z H3 zz_=>bu zz_ fun wz F3 as3 ce3 l3 S3 rz P3=>?_;split at P3
 ·rename_i key kk kvs hk hc;split at P3
  ·rename_i hl;obtain⟨a,ps,rfl,ha,hH,rk⟩:=Hg S3.st (ry.le l3) hc;rw[nk rz hk];have rput:=rk.put key ((rx.le l2).le l3);refine⟨a,_,rfl,jv.kz hH (by rw[<- rk.length];exact hl),?_⟩;exact P3 _ _ _ _ .refl (S3.slots (S3.st.write (o:=.dK (fM ps key x)) (c:=.dct (ip kvs key wx)) ha ⟨_,eB,rput⟩) .refl)
  ·exact(show False from P3).elim
 ·exact(show False from P3).elim
end
inductive Src where
 | lst (xs:List W)|tup (xs:List W)|cell (k:Nat) (xs:List W)|rng (lo:Int) (n:Nat)|dky (xs:List W)
def kW:Key->W
 | .inl i=>.int i
 | .inr (some x)=>.str x
 | .inr none=>.non
def Src.items:Src->List W
 | .lst xs=>xs
 | .tup xs=>xs
 | .cell _ xs=>xs
 | .rng lo n=>(List.range n).map fun(i:Nat)=>W.int (lo+(i:Int))
 | .dky xs=>xs
def Src.Stays(ce:Ce):Src->Prop
 | .cell k xs=>ce[k]?=some (.lst xs)
 | _=>True
def dD(K:Frag)(F:Hp)(as:List Addr):Src->It->Prop
 | .lst xs,J=>∃a vs,J=ml K a/\Rd F a (.lst vs)/\aj F as xs vs
 | .tup xs,J=>∃a vs,J=u3 K a/\Rd F a (.tup vs)/\aj F as xs vs
 | .cell k _,J=>∃a,J=ml K a/\as[k]?=some a
 | .rng lo n,J=>J=qX lo n
 | .dky xs,J=>∃a o ps,J=Kn a o ps/\F a=some (.frz o (.dK ps))/\xs=ps.map fun p=>kW p.1
theorem dD.le{K:Frag}{F F':Hp}{as as':List Addr}{s:Src}{J:It}(l:Le F as F' as')(h:dD K F as s J):dD K F' as' s J:=by
 cases s with
 | lst xs=>obtain⟨a,vs,e,h,r⟩:=h;exact⟨a,vs,e,l.rd h,r.le l⟩
 | tup xs=>obtain⟨a,vs,e,h,r⟩:=h;exact⟨a,vs,e,l.rd h,r.le l⟩
 | cell k xs=>obtain⟨a,e,h⟩:=h;exact⟨a,e,l.c _ _ h⟩
 | rng lo n=>exact h
 | dky xs=>obtain⟨a,o,ps,e,h,q⟩:=h;exact⟨a,o,ps,e,l.f _ _ h,q⟩
theorem dD.turn{s:Src}{J:It}(S:aB G F as H ce)(h:dD K F as s J)(hs:s.Stays ce)(i:Nat) :
  (i<s.items.length->J.go i H/\∀x H',J.yld i H x H'->H'=H/\∃w,s.items[i]?=some w/\Rep F as w x)/\(i=s.items.length->J.stop i H):=by
 have lst:∀{a:Addr} {vs:List V} {xs:List W},cO K H a vs->aj F as xs vs->(i<xs.length->(ml K a).go i H/\∀x H',(ml K a).yld i H x H'->H'=H/\∃w,xs[i]?=some w/\Rep F as w x)/\(i=xs.length->(ml K a).stop i H):=by intro a vs xs hq rs;have hl:=rs.length;refine⟨fun hi=>⟨⟨vs,vs[i]'(by omega),hq,by simp⟩,fun x H' y=>?_⟩,fun hi=>⟨vs,hq,by omega⟩⟩;obtain⟨e,y⟩:=y;exact⟨e,rs.get' (y vs hq)⟩
 cases s with
 | lst xs=>obtain⟨a,vs,rfl,h,r⟩:=h;exact lst (.inl (Rd.sub S h)) r
 | cell k xs =>
  obtain⟨a,rfl,h⟩:=h;obtain⟨_,vs,h2,rs⟩:=S.cell _ _ _ h hs;exact lst (.inl (.inl h2)) rs
 | tup xs =>
  obtain⟨a,vs,rfl,h,rs⟩:=h;have hq:dX K H a vs:=.inl (Rd.sub S h);have hl:=rs.length;refine⟨fun hi=>⟨⟨vs,vs[i]'(by show i<_;simp only[Src.items] at hi;omega),hq,by simp⟩,fun x H' y=>?_⟩,fun hi=>⟨vs,hq,by simp only[Src.items] at hi;omega⟩⟩;obtain⟨e,y⟩:=y;exact⟨e,rs.get' (y vs hq)⟩
 | rng lo n =>
  cases h;have hl:(Src.rng lo n).items.length=n:=by simp[Src.items]
  rw[hl];refine⟨fun hi=>⟨hi,fun x H' y=>?_⟩,fun hi=>by rw[hi];exact le_refl _⟩;obtain⟨e,rfl⟩:=y;refine⟨e,.int (lo+i),?_,by simp only[Rep]⟩;simp[Src.items,hi]
 | dky xs =>
  obtain⟨a,o,ps,rfl,h,rfl⟩:=h;have hH:=S.sub _ _ h;have hl:(Src.dky (ps.map fun p=>kW p.1)).items.length=ps.length:=by simp[Src.items]
  rw[hl];refine⟨fun hi=>⟨⟨hH,hi⟩,fun x H' y=>?_⟩,fun hi=>⟨hH,hi.symm⟩⟩;obtain⟨e,p,hp,rfl⟩:=y;refine⟨e,kW p.1,by simp only[Src.items,getElem?_map,hp,map_some],?_⟩;rcases p.1 with i|_|x<;>simp only[kW,kV,Rep]
abbrev lu(G:Ga)(E:XK)(K:Frag)(d:Sl->M Src):TI:=toT G E (dD K) d
theorem PI.imp{t t':TI}(h:PI X tg e t)(q:∀σ H R,t' σ H R->t σ H R):PI X tg e t':=fun pins s σ H Q I z=>h pins s σ H Q I (q _ _ _ z)
def gR(ce:Ce):W->Option Src
 | .lst xs=>some (.lst xs)
 | .cel k=>match ce[k]? with
  | some (.lst xs)=>some (.cell k xs)
  | _=>none
 | _=>none
def rA:W->Option Src
 | .tup xs=>some (.tup xs)
 | _=>none
def dA(d:Sl->M W):Sl->M Src:=fun sl=>az (d sl) fun w=>look fun ce=>gR ce w
def iP(d:Sl->M W):Sl->M Src:=fun sl=>az (d sl) fun w=>look fun _=>rA w
open Classical in
def jB:List W->Option Src
 | [.int j]=>@ite _ (-4611686018427387904<=j/\j<4611686018427387904) (Classical.propDecidable _) (some (.rng 0 j.toNat)) none
 | _=>none
def iQ(d:Sl->M (List W)):Sl->M Src:=fun sl=>az (d sl) fun ws=>look fun _=>jB ws
variable {p:Pos}
section
variable {a:Expr}
theorem fq(hl:PE X a (ax G E da)):PI X tg a (lu G E X.K (dA da)):=by
 refine PI.imp (FO hl) fun σ H R zz_=>bN zz_ fun F as sl ce S P=>(step S P).mono fun x H1 zz_=>bu zz_ fun wx F1 as1 ce1 l1 S1 rx P1=>?_;obtain⟨src,e,P2⟩:=jP P1;cases wx<;>simp only[gR,reduceCtorEq,Option.some.injEq] at e
 ·subst e;simp only[Rep] at rx;obtain⟨a,vs,rfl,h,rs⟩:=rx;exact⟨a,rfl,⟨vs,.inl (Rd.sub S1.st h)⟩,aO.done (RP:=dD X.K) S1 P2 ⟨a,vs,rfl,h,rs⟩⟩
 ·split at e
  ·rename_i hc;cases e;simp only[Rep] at rx;obtain⟨a,rfl,h⟩:=rx;obtain⟨_,vs,h2,rs⟩:=S1.st.cell _ _ _ h hc;exact⟨a,rfl,⟨vs,.inl (.inl h2)⟩,aO.done (RP:=dD X.K) S1 P2 ⟨a,rfl,h⟩⟩
  ·cases e
theorem kF(hl:PE X a (ax G E da)):PI X tg a (lu G E X.K (iP da)):=by refine PI.imp (EA hl) fun σ H R zz_=>bN zz_ fun F as sl ce S P=>(step S P).mono fun x H1 zz_=>bu zz_ fun wx F1 as1 ce1 l1 S1 rx P1=>?_;obtain⟨src,e,P2⟩:=jP P1;cases wx<;>simp only[rA,reduceCtorEq,Option.some.injEq] at e;subst e;simp only[Rep] at rx;obtain⟨a,vs,rfl,h,rs⟩:=rx;exact⟨a,rfl,⟨vs,.inl (.inl (S1.st.sub _ _ h))⟩,aO.done (RP:=dD X.K) S1 P2 ⟨a,vs,rfl,.inl h,rs⟩⟩
theorem kL(hg:Gl X "range")(hm:X.mg "range" = none)(ha:PA X [a] (fL G E dr))(hs:starEach [a] X.env=[(false,eval a X.env)]:=by rfl):PI X tg (.Call (.Name "range" p) [a] [] pos) (lu G E X.K (iQ dr)):=by
 refine PI.imp (I0 hg hm ha hs) fun σ H R zz_=>bN zz_ fun F as sl ce S P=>(step (RP:=aj) S P).mono fun x H1 zz_=>bu zz_ fun wx F1 as1 ce1 l1 S1 rx P1=>?_;obtain⟨src,e,P2⟩:=jP P1;unfold jB at e;split at e
 ·rename_i j;split at e
  ·rename_i hj;cases e;simp only[aj,Rep] at rx;obtain⟨v,r,rfl,rfl,rfl⟩:=rx;exact⟨j,rfl,by omega,by omega,aO.done (RP:=dD X.K) S1 P2 rfl⟩
  ·cases e
 ·cases e
end
open Classical in
def gQ(s:Src)(g:DG)(body:DS):List W->DS
 | []=>fun sl ce=>if s.Stays ce then some (.go .nx sl ce) else none
 | x::r=>fun sl ce=>if s.Stays ce then (match g x sl ce with
  | some (sl1,ce1)=>match body sl1 ce1 with
   | some (.go .nx sl2 ce2)=>gQ s g body r sl2 ce2
   | some (.go .ct sl2 ce2)=>gQ s g body r sl2 ce2
   | some (.go .bk sl2 ce2)=>some (.go .nx sl2 ce2)
   | o=>o
  | none=>none) else none
def cD(i:Sl->M Src)(g:DG)(body:DS):DS:=fun sl ce=>cL (i sl ce) fun s ce'=>gQ s g body s.items sl ce'
def iW(c:Sl->M Bool)(body:DS):Nat->DS
 | 0=>fun _ _=>none
 | n+1=>fun sl ce=>cL (c sl ce) fun t ce1=>match t with
  | false=>some (.go .nx sl ce1)
  | true=>match body sl ce1 with
   | some (.go .nx sl2 ce2)=>iW c body n sl2 ce2
   | some (.go .ct sl2 ce2)=>iW c body n sl2 ce2
   | some (.go .bk sl2 ce2)=>some (.go .nx sl2 ce2)
   | o=>o
variable {iter:Expr} {di:Sl->M Src}
section
variable {t:Expr} {body:List Stmt} {g:DG} {b:DS}
theorem Ab{N:VS.St->Hp->Prop}{k:DS}{r:Option O}(P:bB G E D F as (match r with
   | some (.go .nx sl2 ce2)=>k sl2 ce2
   | some (.go .ct sl2 ce2)=>k sl2 ce2
   | some (.go .bk sl2 ce2)=>some (.go .nx sl2 ce2)
   | o=>o))(hN:∀σ H F' as' sl ce,Le F as F' as'->SR G F' as' H σ sl ce->bB G E D F' as' (k sl ce)->N σ H):bB G E { D with nx:=N,ct:=N,bk:=D.nx } F as r:=by
 cases r with
 | none=>exact P
 | some r=>cases r with
  | ex x ce'=>exact P
  | go f sl' ce'=>cases f with
   | nx=>exact fun σ' H' F' as' l S'=>hN σ' H' F' as' sl' ce' l S' (P.le l)
   | ct=>exact fun σ' H' F' as' l S'=>hN σ' H' F' as' sl' ce' l S' (P.le l)
   | bk=>exact fun σ' H' F' as' l S'=>P σ' H' F' as' l S'
   | rt w=>exact fun σ' H' F' as' l S'=>P σ' H' F' as' l S'
theorem dQ(hp:PassesOwn (model X.prog X.w) X.A X.env X.xe)(hc:X.calm=true)(hi:PI X tg iter (lu G E X.K di))(hg:nH G X tg g)(hb:PSs X body (bq G E b))(hs:∀x,foldedSetIterable iter X.env x=pure x:=by intro _;rfl):PS X (.For tg iter body [] pos) (bq G E (cD di g b)):=by
 obtain⟨tgt,hg,qg⟩:=hg;refine PS.imp (Ez hp hc hi hg hb hs) fun D σ H zz_=>bN zz_ fun F as sl ce S P=>(iD (RP:=dD X.K) S P).mono fun J H1 zz_=>bu zz_ fun s F1 as1 ce1 l1 S1 rJ P1=>?_;refine⟨fun i m σ H=>∃F as sl ce,SR G F as H σ sl ce/\dD X.K F as s J/\m=s.items.length-i/\i<=s.items.length/\bB G E D F as (gQ s g b (s.items.drop i) sl ce),⟨s.items.length,F1,as1,sl,ce1,S1,rJ,rfl,zero_le _,P1⟩,?_⟩;rintro i m σ H ⟨F,as,sl,ce,S,rJ,rfl,hi,P⟩
 by_cases hlt:i<s.items.length
 ·rw[drop_eq_getElem_cons hlt] at P;simp only[gQ] at P;split at P
  ·rename_i hst;obtain⟨t1,t2⟩:=rJ.turn S.st hst i;obtain⟨go,yl⟩:=t1 hlt;refine .inr ⟨go,_,fun σ' H' h=>h,fun x H' y=>?_⟩;obtain⟨rfl,w,hw,rw'⟩:=yl x H' y;rw[getElem?_eq_getElem hlt] at hw;cases hw;split at P
   ·rename_i sl1 ce1 eg;refine qg F as H' σ sl ce _ x sl1 ce1 _ S rw' eg fun σ' H2 F' as' l S'=>⟨F',as',sl1,ce1,S',?_⟩
    refine Ab (P.le l) fun σ3 H3 F3 as3 sl3 ce3 l3 S3 P3=>?_;exact⟨s.items.length-(i+1),by omega,F3,as3,sl3,ce3,S3,rJ.le (l.trans l3),rfl,hlt,P3⟩
   ·exact(show False from P).elim
  ·exact(show False from P).elim
 ·have e:i=s.items.length:=by omega
  subst e;rw[drop_length] at P;simp only[gQ] at P;split at P
  ·rename_i hst;exact .inl ⟨(rJ.turn S.st hst _).2 rfl,P.nxt S⟩
  ·exact(show False from P).elim
theorem yY(n:Nat)(hp:PassesOwn (model X.prog X.w) X.A X.env X.xe)(hc:PT X t (cq G E c))(hb:PSs X body (bq G E b)):PS X (.While t body [] pos) (bq G E (iW c b n)):=by
 refine PS.imp (G9 hp hc hb) fun D σ H zz_=>bN zz_ fun F as sl ce S P=>?_;refine⟨fun m σ H=>∃F as sl ce,SR G F as H σ sl ce/\bB G E D F as (iW c b m sl ce),⟨n,F,as,sl,ce,S,P⟩,?_⟩;rintro m σ H ⟨F,as,sl,ce,S,P⟩;cases m with
 | zero=>exact(show False from P).elim
 | succ m =>
  refine(iD (RP:=rB) S P).mono fun x H1 zz_=>bu zz_ fun wx F1 as1 ce1 l1 S1 rx P1=>?_;have rx:wx=x:=rx;subst rx;cases wx
  ·rw[if_neg Bool.false_ne_true];exact P1.nxt S1
  ·rw[if_pos rfl];refine⟨fun σ' H'=>∃F as sl ce,SR G F as H' σ' sl ce/\bB G E D F as (iW c b m sl ce),fun σ' H' h=>⟨m,lt_succ_self _,h⟩,F1,as1,sl,ce1,S1,?_⟩;exact Ab P1 fun σ3 H3 F3 as3 sl3 ce3 l3 S3 P3=>⟨F3,as3,sl3,ce3,S3,P3⟩
end
def dP(js:List Nat)(sl:Sl):Sl:=js.map fun j=>sl.getD j none
open Classical in
def dS(s:Src)(cs:Sl)(c:Sl->M Bool)(e:Sl->M W):List W->List W->M (List W)
 | [],ys=>fun ce=>if s.Stays ce then some (.ok ys ce) else none
 | x::r,ys=>fun ce=>if s.Stays ce/\ys.length<sizeLine then az (c (some x::cs)) (fun t=>match t with
   | true=>az (e (some x::cs)) fun y=>dS s cs c e r (ys++[y])
   | false=>dS s cs c e r ys) ce else none
def eX(mk:List W->M W)(js:List Nat)(i:Sl->M Src)(c:Sl->M Bool)(e:Sl->M W):Sl->M W:=fun sl=>az (i sl) fun s=>az (dS s (dP js sl) c e s.items []) mk
def fo:Sl->M Bool:=fun _=>ret true
variable {ifs:List Expr} {Y:Cx} {sl' cs:Sl}
section
variable {elt:Expr} {x:Str} {px:Pos} {scope:Scope} {js:List Nat} {caps:List Str} {e:Sl->M W}
theorem PIfs.imp{t:TT}(h:PIfs Y ifs t)(q:∀σ H Q,t' σ H Q->t σ H Q):PIfs Y ifs t':=fun pins s σ H Q I z=>h pins s σ H Q I (q _ _ _ z)
theorem oJ:PIfs Y [] (cq G E fo):=PIfs.imp Hn fun σ H Q zz_=>bN zz_ fun F as sl ce S P=>aO.done (RP:=rB) S (a:=true) P rfl
theorem qq{t:Expr}(h:PT Y t (cq G E c)):PIfs Y [t] (cq G E c):=Hm h
theorem SR.cap{σ:VS.St}(S:SR G F as H σ sl ce)(js:List Nat)(r:Rep F as w v):SR G F as H (some v::ir js σ) (some w::dP js sl) ce:=by
 refine⟨S.st,by simp[ir,dP],fun i u h=>?_⟩;cases i with
 | zero=>simp at h;subst h;exact⟨v,rfl,r⟩
 | succ i =>
  simp only[dP,getElem?_cons_succ,getElem?_map] at h;cases e:js[i]? with
  | none=>rw[e] at h;cases h
  | some j =>
   rw[e] at h;have hj:sl[j]?=some (some u):=by
    have h':sl.getD j none=some u:=by simpa using h
    rw[getD_eq_getElem?_getD] at h';cases q:sl[j]? with
    | none=>rw[q] at h';cases h'
    | some z=>rw[q] at h';simp at h';rw[h']
   obtain⟨v',h1,h2⟩:=S.slot j u hj;refine⟨v',?_,h2⟩;simp only[ir,getElem?_cons_succ,getElem?_map,e,map_some,getD_eq_getElem?_getD,h1,getD_some]
theorem vZ{α β γ δ:Type}{RP:Hp->List Addr->α->β->Prop}{RQ:Hp->List Addr->γ->δ->Prop}{σ σ':VS.St}{d:Sl->M α}{f:α->M γ}{Q:δ->Hp->Prop}(S:SR G F as H σ sl ce)(S':SR G F as H σ' sl' ce)(P:aO G E RQ F as σ sl Q (az (d sl') f ce)) :
  toT G E RP d σ' H fun b H2=>∃a F' as' ce',Le F as F' as'/\SR G F' as' H2 σ sl ce'/\SR G F' as' H2 σ' sl' ce'/\RP F' as' a b/\aO G E RQ F' as' σ sl Q (f a ce'):=by
 refine⟨F,as,sl',ce,S',?_⟩;revert P;unfold az;cases d sl' ce with
 | none=>exact fun P=>P
 | some r=>cases r with
  | ok a ce'=>exact fun P b H' F' as' l S2 r=>⟨a,F',as',ce',l,S.slots S2.st l,S2,r,P.le l⟩
  | ex x ce'=>exact fun P=>P
theorem Aa{α β γ:Type}(m:M α)(f:α->M β)(g:β->M γ):az (az m f) g=az m fun a=>az (f a) g:=by
 funext ce;unfold az;cases m ce with
 | none=>rfl
 | some r=>cases r<;>rfl
theorem Ii{α β:Type}{m m':M α}{g:α->M β}(h:m ce=m' ce):az m g ce=az m' g ce:=by simp only[az,h]
theorem p9{s:Src}{e:Sl->M W}{x:W}{r:List W}(h:s.Stays ce/\ys.length<sizeLine):dS s cs c e (x::r) ys ce=az (c (some x::cs)) (fun t=>match t with
   | true=>az (e (some x::cs)) fun y=>dS s cs c e r (ys++[y])
   | false=>dS s cs c e r ys) ce:=by simp only[dS,if_pos h]
theorem Dw{s:Src}{e:Sl->M W}{x:W}{r:List W}(h:¬(s.Stays ce/\ys.length<sizeLine)):dS s cs c e (x::r) ys ce=none:=by simp only[dS,if_neg h]
theorem xC(hm:jt G E mk)(σ:L2.St)(H:Hp)(Q:VK)(h:ax G E (eX mk js di c e) σ H Q):qQ js (lu G E X.K di) (cq G E c) (ax G E e) σ H Q:=by
 obtain⟨F,as,sl,ce,S,P⟩:=h;refine(step (RP:=dD X.K) S P).mono fun J H1 zz_=>bu zz_ fun s F1 as1 ce1 l1 S1 rJ P1=>?_;refine⟨fun i m ys H=>∃F as ce ws,SR G F as H σ sl ce/\dD X.K F as s J/\m=s.items.length-i/\i<=s.items.length/\aj F as ws ys/\aO G E Rep F as σ sl Q (az (dS s (dP js sl) c e (s.items.drop i) ws) mk ce),⟨s.items.length,F1,as1,ce1,[],S1,rJ,rfl,zero_le _,.nil,P1⟩,?_⟩;rintro i m ys H ⟨F,as,ce,ws,S,rJ,rfl,hi,rs,P⟩
 by_cases hlt:i<s.items.length
 ·rw[drop_eq_getElem_cons hlt] at P
  by_cases hst:s.Stays ce/\ws.length<sizeLine
  ·obtain⟨go,yl⟩:=(rJ.turn S.st hst.1 i).1 hlt;refine .inr ⟨go,by rw[rs.length];exact hst.2,_,fun ys' H' h=>h,fun x H' y=>?_⟩;obtain⟨rfl,w,hw,rw'⟩:=yl x H' y;rw[getElem?_eq_getElem hlt] at hw;cases hw;have P':=P;rw[Ii (p9 hst)] at P';rw[Aa] at P';refine(vZ (RP:=rB) S (S.cap js rw') P').mono fun b H2 ⟨t,F2,as2,ce2,l2,S2,S2',rt,P2⟩=>?_;have rt:t=b:=rt;subst rt;cases t
   ·rw[if_neg Bool.false_ne_true];exact⟨s.items.length-(i+1),by omega,F2,as2,ce2,ws,S2,rJ.le l2,rfl,hlt,rs.le l2,P2⟩
   ·rw[if_pos rfl];dsimp only at P2;rw[Aa] at P2;refine(vZ (RP:=Rep) S2 S2' P2).mono fun y H3 ⟨wy,F3,as3,ce3,l3,S3,S3',ry,P3⟩=>?_;exact⟨s.items.length-(i+1),by omega,F3,as3,ce3,ws++[wy],S3,rJ.le (l2.trans l3),rfl,hlt,(rs.le (l2.trans l3)).append (.cons ry .nil),P3⟩
  ·have P':=P;simp only[az,Dw hst] at P';exact(show False from P').elim
 ·have e':i=s.items.length:=by omega
  subst e';rw[drop_length] at P
  by_cases hst:s.Stays ce
  ·have eq:az (dS s (dP js sl) c e [] ws) mk ce=mk ws ce:=by simp only[az,dS,if_pos hst]
   rw[eq] at P;exact .inl ⟨(rJ.turn S.st hst _).2 rfl,(hm S rs P).2⟩
  ·have eq:az (dS s (dP js sl) c e [] ws) mk ce=none:=by simp only[az,dS,if_neg hst]
   rw[eq] at P;exact(show False from P).elim
theorem mz(hm:jt G E mk)(B:gh X.N X.env.scope js (x::caps) scope)(hc:X.calm=true)(hx:scope.names.lookup x=some .local)(hi:PI X (.Name x px) iter (lu G E X.K di))(ht:∀C fp s₀ H₀,PIfs (eR X (x::caps) scope C fp s₀ H₀) ifs (cq G E c))(he:∀C fp s₀ H₀,PE (eR X (x::caps) scope C fp s₀ H₀) elt (ax G E e))(hs:∀v,foldedSetIterable iter X.env v=pure v:=by intro _;rfl):PE X (.ListComp elt [⟨.Name x px,iter,ifs,0⟩] scope pos) (ax G E (eX mk js di c e)):=PE.imp (CJ B hc hx hi ht he hs) (xC hm)
theorem rN{y:Str}{py spos:Pos}(hm:jt G E mk)(B:gh X.N X.env.scope js (x::caps) scope)(hc:X.calm=true)(hx:scope.names.lookup x=some .local)(hi:PI X (.Name x px) iter (lu G E X.K di))(ht:∀C fp s₀ H₀,PIfs (eR X (x::caps) scope C fp s₀ H₀) ifs (cq G E c))(he:∀C fp s₀ H₀,PE (eR X (x::caps) scope C fp s₀ H₀) elt (ax G E e))(hN:X.N.Nodup)(hk:X.N[k]?=some y)(hy:X.env.scope.names.lookup y=some .local)(hsw:swapsWith (.ListComp elt [⟨.Name x px,iter,ifs,0⟩] scope pos) (some (.Name y py)) spos.line X.env=pure true)(hs:∀v,foldedSetIterable iter X.env v=pure v:=by intro _;rfl):PS X (.Assign [.Name y py] (.ListComp elt [⟨.Name x px,iter,ifs,0⟩] scope pos) spos) (bq G E (bf k (eX mk js di c e))):=by refine PS.imp (CI B hc hx hi ht he hN hk hy hsw hs) fun D σ H zz_=>bN zz_ fun F as sl ce S P=>?_;refine xC (X:=X) hm σ H _ ((iD S P).mono fun x H1 zz_=>bu zz_ fun wx F1 as1 ce1 l1 S1 rx P1=>?_);exact P1 _ H1 F1 as1 .refl (S1.put rx k)
end
mutual
def bc(n:Nat):W->Prop
 | .cel k=>k<n
 | .lst xs=>du n xs
 | .tup xs=>du n xs
 | .non=>True
 | .bl _=>True
 | .int _=>True
 | .str _=>True
 | .ty _=>True
def du(n:Nat):List W->Prop
 | []=>True
 | x::xs=>bc n x/\du n xs
end
mutual
theorem Rep.bel{F:Hp}{as:List Addr}:∀{w:W} {v:V},Rep F as w v->bc as.length w
 | .non,_,_=>by simp only[bc]
 | .bl _,_,_=>by simp only[bc]
 | .int _,_,_=>by simp only[bc]
 | .str _,_,_=>by simp only[bc]
 | .ty _,_,_=>by simp only[bc]
 | .lst xs,_,r=>by
  simp only[Rep] at r;obtain⟨a,vs,_,_,s⟩:=r;simp only[bc];exact aj.bel s
 | .tup xs,_,r=>by
  simp only[Rep] at r;obtain⟨a,vs,_,_,s⟩:=r;simp only[bc];exact aj.bel s
 | .cel k,_,r=>by
  simp only[Rep] at r;obtain⟨a,_,h⟩:=r;simp only[bc];exact e9 h
theorem aj.bel{F:Hp}{as:List Addr}:∀{ws:List W} {vs:List V},aj F as ws vs->du as.length ws
 | [],_,_=>by simp only[du]
 | _::_,_,r=>by
  simp only[aj] at r;obtain⟨v,vs',_,h,t⟩:=r;simp only[du];exact⟨Rep.bel h,aj.bel t⟩
end
mutual
theorem Rep.cut{F:Hp}{as as':List Addr}{n:Nat}(hl:∀k,k<n->as'[k]?=as[k]?):∀{w:W} {v:V},bc n w->Rep F as w v->Rep F as' w v
 | .non,_,_,r=>by simpa only[Rep] using r
 | .bl _,_,_,r=>by simpa only[Rep] using r
 | .int _,_,_,r=>by simpa only[Rep] using r
 | .str _,_,_,r=>by simpa only[Rep] using r
 | .ty _,_,_,r=>by simpa only[Rep] using r
 | .lst xs,_,b,r=>by
  simp only[Rep] at r ⊢;simp only[bc] at b;obtain⟨a,vs,h1,h2,s⟩:=r;exact⟨a,vs,h1,h2,aj.cutS hl b s⟩
 | .tup xs,_,b,r=>by
  simp only[Rep] at r ⊢;simp only[bc] at b;obtain⟨a,vs,h1,h2,s⟩:=r;exact⟨a,vs,h1,h2,aj.cutS hl b s⟩
 | .cel k,_,b,r=>by
  simp only[Rep] at r ⊢;simp only[bc] at b;obtain⟨a,h1,h⟩:=r;exact⟨a,h1,by rw[hl k b];exact h⟩
theorem aj.cutS{F:Hp}{as as':List Addr}{n:Nat}(hl:∀k,k<n->as'[k]?=as[k]?):∀{ws:List W} {vs:List V},du n ws->aj F as ws vs->aj F as' ws vs
 | [],_,_,r=>by simpa only[aj] using r
 | _::_,_,b,r=>by
  simp only[aj] at r ⊢;simp only[du] at b;obtain⟨v,vs',h1,h,t⟩:=r;exact⟨v,vs',h1,Rep.cut hl b.1 h,aj.cutS hl b.2 t⟩
end
def e7(n:Nat):C->Prop
 | .lst xs=>du n xs
 | .dct kvs=>∀p∈kvs,bc n p.2
 | .ins _ fs=>∀p∈fs,bc n p.2
 | .exn _=>True
 | .exm _ _ _=>True
 | .dead=>True
 | .fzd kvs=>∀p∈kvs,bc n p.2
 | .dtp kvs=>∀p∈kvs,bc n p.2
 | .ndt _=>True
theorem aD.bel{κ:Type}{F:Hp}{as:List Addr}{kvs:List (κ×W)}{ps:List (κ×V)}(r:aD F as kvs ps):∀p∈kvs,bc as.length p.2:=by
 induction r with
 | nil=>simp
 | cons h t ih =>
  intro p hp;rcases mem_cons.mp hp with rfl|hp
  ·exact h.2.bel
  ·exact ih p hp
theorem aD.cut{κ:Type}{F:Hp}{as as':List Addr}{n:Nat}(hl:∀k,k<n->as'[k]?=as[k]?){kvs:List (κ×W)}{ps:List (κ×V)}(b:∀p∈kvs,bc n p.2)(r:aD F as kvs ps):aD F as' kvs ps:=by
 induction r with
 | nil=>exact .nil
 | cons h t ih=>exact .cons ⟨h.1,h.2.cut hl (b _ mem_cons_self)⟩ (ih fun p hp=>b p (mem_cons_of_mem _ hp))
section
variable {c:C}
theorem c_.bel(h:c_ G F as H a c):e7 as.length c:=by
 cases c with
 | lst xs=>obtain⟨vs,_,r⟩:=h;exact r.bel
 | dct xs=>obtain⟨vs,_,r⟩:=h;exact r.bel
 | ins c xs=>obtain⟨dx,vs,_,r⟩:=h;exact r.bel
 | exn c=>trivial
 | exm c f n=>trivial
 | dead=>trivial
 | fzd xs=>obtain⟨o,ps,_,_,r⟩:=h;exact r.bel
 | dtp xs=>obtain⟨vs,_,r⟩:=h;exact r.bel
 | ndt ks=>trivial
theorem c_.cut(hl:∀k,k<n->as'[k]?=as[k]?)(b:e7 n c)(h:c_ G F as H a c):c_ G F as' H a c:=by
 cases c with
 | lst xs=>obtain⟨vs,e,r⟩:=h;exact⟨vs,e,r.cutS hl b⟩
 | dct xs=>obtain⟨vs,e,r⟩:=h;exact⟨vs,e,aD.cut hl b r⟩
 | ins c xs=>obtain⟨dx,vs,e,r⟩:=h;exact⟨dx,vs,e,aD.cut hl b r⟩
 | exn c=>exact h
 | exm c f n=>exact h
 | dead=>exact h
 | fzd xs=>obtain⟨o,ps,e1,e2,r⟩:=h;exact⟨o,ps,e1,e2,aD.cut hl b r⟩
 | dtp xs=>obtain⟨vs,e,r⟩:=h;exact⟨vs,e,aD.cut hl b r⟩
 | ndt ks=>exact h
end
def j6(ce ce':Ce):Prop:=ce.length<=ce'.length/\∀(k:Nat) (c:C),k<ce.length->ce'[k]?=some c->ce[k]?=some c\/e7 ce.length c
theorem jO{α:Type}{l:List α}(h:k<n):(l.take n)[k]?=l[k]?:=getElem?_take_of_lt h
theorem aB.cut(S:aB G F as H ce)(S':aB G F' as' H' ce')(l:Le F as F' as')(h:j6 ce ce'):aB G F' (as'.take ce.length) H' (ce'.take ce.length)/\Le F as F' (as'.take ce.length):=by
 have hl:∀k,k<ce.length->(as'.take ce.length)[k]?=as'[k]?:=fun k hk=>jO hk;refine⟨⟨S'.sub,S'.nd.sublist (take_sublist _ _),by rw[length_take,length_take,S'.len],fun k a c h1 h2=>?_⟩,l.f,fun k a e=>?_⟩
 ·have hk:k<ce.length:=by have:=e9 h2;rw[length_take] at this;omega
  rw[jO hk] at h1 h2;obtain⟨q1,q2⟩:=S'.cell k a c h1 h2;refine⟨q1,q2.cut hl ?_⟩;rcases h.2 k c hk h2 with h3|h3
  ·obtain⟨a0,e0,_,q0⟩:=S.at h3;rw[<- S.len];exact q0.bel
  ·exact h3
 ·have hk:k<ce.length:=by rw[<- S.len];exact e9 e
  rw[jO hk];exact l.c k a e
open Classical in
def finC(ce ce':Ce)(w:W):Option (R W):=if j6 ce ce'/\bc ce.length w then some (.ok w (ce'.take ce.length)) else none
open Classical in
def finO(ce ce':Ce)(w:W):Option (R W):=match w with
 | .cel k=>match ce'[k]? with
  | some c=>if j6 ce ce'/\ce.length<=k/\e7 ce.length c then some (.ok (.cel ce.length) (ce'.take ce.length++[c])) else none
  | none=>none
 | _=>none
def lr(_ce ce':Ce)(w:W):Option (R W):=some (.ok w ce')
def n5(G:Ga)(fin:Ce->Ce->W->Option (R W)):Prop:=∀(F F':Hp) (as as':List Addr) (H H':Hp) (ce ce':Ce) (w:W) (v:V) (r:R W),aB G F as H ce->aB G F' as' H' ce'->Le F as F' as'->Rep F' as' w v->fin ce ce' w=some r ->
 ∃w2 ce2 as2,r=.ok w2 ce2/\Le F as F' as2/\aB G F' as2 H' ce2/\Rep F' as2 w2 v
theorem pB:n5 G lr:=fun F F' as as' H H' ce ce' w v r S S' l rw' e=>by
 cases e;exact⟨w,ce',as',rfl,l,S',rw'⟩
theorem eT:n5 G finC:=fun F F' as as' H H' ce ce' w v r S S' l rw' e=>by
 unfold finC at e;split at e
 ·rename_i h;cases e;obtain⟨S2,l2⟩:=S.cut S' l h.1;exact⟨w,_,_,rfl,l2,S2,rw'.cut (fun k hk=>jO hk) h.2⟩
 ·cases e
theorem iU:n5 G finO:=fun F F' as as' H H' ce ce' w v r S S' l rw' e=>by
 cases w<;>simp only[finO,reduceCtorEq] at e;rename_i k;split at e
 ·rename_i c hc;split at e
  ·rename_i h;obtain⟨h1,h2,h3⟩:=h;cases e;obtain⟨S2,l2⟩:=S.cut S' l h1;simp only[Rep] at rw';obtain⟨a,rfl,ha⟩:=rw';obtain⟨q1,q2⟩:=S'.cell k a c ha hc;have hlen:(as'.take ce.length).length=ce.length:=by rw[length_take,S'.len];exact min_eq_left h1.1
   have hlen2:(ce'.take ce.length).length=ce.length:=by rw[length_take];exact min_eq_left h1.1
   have l3:Le F' (as'.take ce.length) F' (as'.take ce.length++[a]):=⟨fun _ _ h=>h,fun j b hb=>by rw[getElem?_append_left (e9 hb)];exact hb⟩
   refine⟨_,_,as'.take ce.length++[a],rfl,l2.trans l3,⟨S'.sub,?_,by rw[length_append,length_append,hlen,hlen2];rfl,fun j b c' e1 e2=>?_⟩,?_⟩
   ·rw[nodup_append];refine⟨S2.nd,by simp,fun b hb d hd=>?_⟩;rw[mem_singleton] at hd;subst hd;rintro rfl;obtain⟨j,hj⟩:=getElem?_of_mem hb;have hj1:j<ce.length:=by have:=e9 hj;omega
    rw[jO hj1] at hj;have ha':=e9 ha;have hj':=e9 hj;rw[getElem?_eq_getElem ha'] at ha;rw[getElem?_eq_getElem hj'] at hj;have:=pM S'.nd ha' hj' ((Option.some.inj ha).trans (Option.some.inj hj).symm);omega
   ·by_cases hj:j<ce.length
    ·rw[getElem?_append_left (by omega)] at e1 e2;obtain⟨p1,p2⟩:=S2.cell j b c' e1 e2;exact⟨p1,p2.le l3 rfl⟩
    ·rw[getElem?_append_right (by omega),hlen] at e1;rw[getElem?_append_right (by omega),hlen2] at e2;have hz:j-ce.length=0:=by
      cases q:j-ce.length with
      | zero=>rfl
      | succ m=>rw[q] at e1;simp at e1
     rw[hz] at e1 e2;simp at e1 e2;subst e1;subst e2;exact⟨q1,(q2.cut (n:=ce.length) (fun i hi=>jO hi) h3).le l3 rfl⟩
   ·simp only[Rep];exact⟨a,rfl,by rw[getElem?_append_right (by omega),hlen];simp⟩
  ·cases e
 ·cases e
open Classical in
def bO(fin:Ce->Ce->W->Option (R W))(n:Nat)(body:DS):List W->M W:=fun ws ce=>match body (ws.map some++List.replicate (n-ws.length) none) ce with
 | some (.go (.rt w) _ ce')=>fin ce ce' w
 | some (.go .nx _ ce')=>fin ce ce' .non
 | some (.ex x ce')=>if j6 ce ce' then some (.ex x (ce'.take ce.length)) else none
 | _=>none
def eY(G:Ga)(E:XK)(F:Hp)(as:List Addr)(Q:VK):Option (R W)->Prop
 | some (.ok w ce')=>∀v H' F' as',Le F as F' as'->aB G F' as' H' ce'->Rep F' as' w v->Q v H'
 | some (.ex x ce')=>∀H' F' as' cv od,Le F as F' as'->aB G F' as' H' ce'->G.xr x cv od F'->E cv od H'
 | none=>False
def hZ(G:Ga)(fe:XK->XK)(n:Nat)(d:List W->M W):Sp:=fun vs H Q E=>vs.length=n/\∃F as ws ce,aB G F as H ce/\aj F as ws vs/\eY G (fe E) F as Q (d ws ce)
theorem Hf(S:aB G F as H ce)(rs:aj F as ws vs)(N:List Str):SR G F as H (L2.start N vs) (ws.map some++List.replicate (N.length-ws.length) none) ce:=by
 have hl:=rs.length;refine⟨S,by unfold L2.start;simp[hl],fun i w h=>?_⟩;have hi:i<ws.length:=by
  by_cases hi:i<ws.length
  ·exact hi
  ·rw[getElem?_append_right (by simpa using hi),getElem?_replicate] at h;split at h<;>cases h
 rw[getElem?_append_left (by simpa using hi),getElem?_map] at h;cases e:ws[i]? with
 | none=>rw[e] at h;cases h
 | some w' =>
  rw[e] at h;simp only[map_some,Option.some.injEq] at h;subst h;obtain⟨v,h1,h2⟩:=rs.get e;refine⟨v,?_,h2⟩;unfold L2.start;rw[getElem?_append_left (by simp;omega),getElem?_map,h1];rfl
theorem ni{fin:Ce->Ce->W->Option (R W)}{body:DS}(hf:n5 G fin)(N:List Str)(S:aB G F as H ce)(rs:aj F as ws vs)(P:eY G E F as Q (bO fin N.length body ws ce)) :
  bq G E body { nx:=fun _ H'=>Q .non H',rt:=Q } (L2.start N vs) H:=by
 refine⟨F,as,_,ce,Hf S rs N,?_⟩;revert P;unfold bO;have key:∀{w:W} {ce':Ce},eY G E F as Q (fin ce ce' w)->∀v H' F' as',Le F as F' as'->aB G F' as' H' ce'->Rep F' as' w v->Q v H':=by
  intro w ce' P v H' F' as' l S' rw';cases e:fin ce ce' w with
  | none=>rw[e] at P;exact P.elim
  | some r =>
   obtain⟨w2,ce2,as2,rfl,l2,S2,r2⟩:=hf F F' as as' H H' ce ce' w v r S S' l rw' e;rw[e] at P;exact P v H' F' as2 l2 S2 r2
 cases body (ws.map some++List.replicate (N.length-ws.length) none) ce with
 | none=>exact fun P=>P
 | some o=>cases o with
  | ex x ce' =>
   intro P H' F' as' cv od l S' hx;dsimp only at P;split at P
   ·rename_i h;obtain⟨S2,l2⟩:=S.cut S' l h;exact P H' F' _ cv od l2 S2 hx
   ·exact P.elim
  | go f sl' ce'=>cases f with
   | nx=>exact fun P σ' H' F' as' l S'=>key P .non H' F' as' l S'.st (by simp only[Rep])
   | bk=>exact fun P=>P.elim
   | ct=>exact fun P=>P.elim
   | rt w=>exact fun P σ' H' F' as' l S' v r=>key P v H' F' as' l S'.st r
def aP(n:Nat)(f:List W->M W)(args:Sl->M (List W)):Sl->M W:=fun sl=>az (args sl) fun ws=>if ws.length=n then f ws else lK
variable {CX:jw} {fd:FuncData} {fe:XK->XK}
section
variable {E1:XK} {f:Addr} {ps:List Str} {df:List W->M W} {x:Str}
theorem eY.of{σ:VS.St}{r:Option (R W)}(S:SR G F as H σ sl ce)(P:aO G E Rep F as σ sl Q r):eY G E F as Q r:=by
 cases r with
 | none=>exact P
 | some r=>cases r with
  | ok w ce'=>exact fun v H' F' as' l S' rv=>P v H' F' as' l (S.slots S' l) rv
  | ex y ce'=>exact P
theorem bh(Fk:au X.prog X.w X.K X.mg X.base CX k f fd ps (hZ G fe n df))(hr:bo k X.A)(hg:Gl X x)(hm:X.mg x=some (.ref f))(hk:keepIn X.K (.ref f)=true)(hb:Binds X.K fd ps [])(hx:jM CX X E1)(ha:PA X (e::es) (fL G E dr))(hfe:fe E1=E:=by rfl)(hdb:(x==("__debug__" : Str))=false:=by decide)(he:starEach (e::es) X.env=(false,eval e X.env)::starEach es X.env:=by rfl)(hpl:(backTo pos (starEach es X.env)).any (·.1)=false:=by rfl) :
  PE X (.Call (.Name x p) (e::es) [] pos) (ax G E (aP n df dr)):=by
 refine PE.imp (FH Fk hr hg hm hk hb .nil hx ha hdb he hpl) fun σ H Q zz_=>bN zz_ fun F as sl ce S P=>(step (RP:=aj) S P).mono fun vs H1 zz_=>bu zz_ fun ws F1 as1 ce1 l1 S1 rs P1=>?_;split at P1
 ·rename_i hn;rw[append_nil];exact⟨by rw[rs.length];exact hn,F1,as1,ws,ce1,S1.st,rs,by rw[hfe];exact eY.of S1 P1⟩
 ·exact(show False from P1).elim
end
open Classical in
def bR(d:List W->M W):List W->M W:=fun ws ce=>match d ws ce with
 | some (.ok (.cel k) ce')=>match ce'[k]? with
  | some (.lst xs)=>if j6 ce ce'/\k=ce.length/\du ce.length xs then some (.ok (.lst xs) (ce'.take ce.length)) else none
  | _=>none
 | some (.ok w ce')=>some (.ok w ce')
 | r=>r
theorem eM{P:Program}{w:World}{mg:Str->Option Value}{base:Heap}{f:Addr}{ps:List Str}{d:List W->M W}(h:au P w K mg base CX k f fd ps (hZ G fe n d)):au P w K mg base CX k f fd ps (hZ G fe n (bR d)):=by
 refine h.imp fun vs H Q E ⟨hl,F,as,ws,ce,S,rs,Pf⟩=>⟨hl,F,as,ws,ce,S,rs,?_⟩
 revert Pf;unfold bR;cases d ws ce with
 | none=>exact fun P=>P
 | some r=>cases r with
  | ex x ce'=>exact fun P=>P
  | ok w ce' =>
   cases w<;>first|exact fun P=>P|skip
   rename_i j;dsimp only;intro Pf v H' F' as' l S' rv;simp only[Rep] at rv;obtain⟨a,rfl,ha⟩:=rv;split at Pf
   ·rename_i xs hc;split at Pf
    ·rename_i h;obtain⟨h1,h2,h3⟩:=h;obtain⟨q1,vs',hH,rs'⟩:=S'.cell j a _ ha hc;have q1:=q1 rfl;obtain⟨S2,l2⟩:=S.cut S' l h1;have rs2:aj F' (as'.take ce.length) xs vs':=rs'.cutS (fun i hi=>jO hi) h3;have l3:Le F' (as'.take ce.length) (upd F' a (.lst vs')) (as'.take ce.length):=⟨hV q1,fun _ _ h=>h⟩
     refine Pf (.ref a) H' (upd F' a (.lst vs')) (as'.take ce.length) (l2.trans l3) ⟨fun b o e=>?_,S2.nd,S2.len,fun i b c e1 e2=>?_⟩ (by simp only[Rep];exact⟨a,vs',rfl,.inl eB,rs2.le l3⟩)
     ·by_cases hb:b=a
      ·subst hb;rw[eB] at e;cases e;exact hH
      ·rw[cj hb] at e;exact S2.sub _ _ e
     ·obtain⟨p1,p2⟩:=S2.cell i b c e1 e2;have hb:b≠a:=by
       rintro rfl;have hi:i<ce.length:=by have:=e9 e2;rw[length_take] at this;omega
       rw[jO hi] at e1;have a1:=e9 ha;have a2:=e9 e1;rw[getElem?_eq_getElem a1] at ha;rw[getElem?_eq_getElem a2] at e1;have:=pM S'.nd a1 a2 ((Option.some.inj ha).trans (Option.some.inj e1).symm);omega
      exact⟨fun hn=>by rw[cj hb];exact p1 hn,p2.le l3 rfl⟩
    ·exact Pf.elim
   ·exact Pf.elim
def jb:List W->Option (List Int)
 | []=>some []
 | .int i::r=>(jb r).map (i::·)
 | _=>none
def xB:List W->Option (List Bool)
 | []=>some []
 | .bl i::r=>(xB r).map (i::·)
 | _=>none
def kK:List (Key×W)->Option (List Int)
 | []=>some []
 | (.inl i,_)::r=>(kK r).map (i::·)
 | _=>none
theorem z_:∀ns:List Int,jb (ns.map W.int)=some ns
 | []=>rfl
 | n::r=>by simp only[map_cons,jb,z_ r,map_some]
theorem uc:∀{ws:List W} {ns:List Int},jb ws=some ns->ws=ns.map W.int
 | [],ns,h=>by simp only[jb,Option.some.injEq] at h;subst h;rfl
 | w::r,ns,h=>by
  cases w<;>simp only[jb,reduceCtorEq,map_eq_some_iff] at h;obtain⟨ms,h1,rfl⟩:=h;rw[uc h1,map_cons]
theorem ub:∀{kvs:List (Key×W)} {ns:List Int},kK kvs=some ns->kvs.map (·.1)=ns.map Sum.inl
 | [],ns,h=>by simp only[kK,Option.some.injEq] at h;subst h;rfl
 | (k,w)::r,ns,h=>by
  cases k<;>simp only[kK,reduceCtorEq,map_eq_some_iff] at h;obtain⟨ms,h1,rfl⟩:=h;rw[map_cons,ub h1,map_cons]
def f_(ns:List Int):List Int:=ns.mergeSort fun a b=>decide (a<=b)
theorem jN(ns:List Int):(f_ ns).Perm ns:=mergeSort_perm ns _
theorem qE(ns:List Int):(f_ ns).Pairwise (·<=·):=by
 have:=pairwise_mergeSort (le:=fun a b:Int=>decide (a<=b)) (fun a b c=>by simp;omega) (fun a b=>by simp;omega) ns;exact this.imp fun h=>by simpa using h
theorem qB:∀{a b:List Int},a.Perm b->a.Pairwise (·<=·)->b.Pairwise (·<=·)->a=b
 | [],b,p,_,_=>by rw[nil_perm] at p;exact p.symm
 | x::a,[],p,_,_=>by have:=p.length_eq;simp at this
 | x::a,y::b,p,sa,sb=>by
  rw[pairwise_cons] at sa sb;have h1:x=y:=by
   have hx:x∈y::b:=p.subset mem_cons_self;have hy:y∈x::a:=p.symm.subset mem_cons_self;rcases mem_cons.mp hx with e|hx
   ·exact e
   ·rcases mem_cons.mp hy with e|hy
    ·exact e.symm
    ·have:=sb.1 x hx;have:=sa.1 y hy;omega
  subst h1;rw[qB (List.Perm.cons_inv p) sa.2 sb.2]
theorem xA{ms ns:List Int}(p:ms.Perm ns)(s:ms.Pairwise (·<=·)):ms=f_ ns:=qB (p.trans (jN ns).symm) s (qE ns)
def bg(f:List W->M W)(args:Sl->M (List W)):Sl->M W:=fun sl=>az (args sl) f
def Bi(G:Ga)(E:XK)(r:List V->Hp->VK->Prop)(f:List W->M W):Prop:=∀F as H σ sl ce ws vs Q,SR G F as H σ sl ce->aj F as ws vs->aO G E Rep F as σ sl Q (f ws ce)->r vs H Q
open Classical in
def cg:List W->M W:=fun ws ce=>match ws with
 | [.str x]=>if x.length<=sizeLine then some (.ok (.int x.length) ce) else none
 | [w]=>match fz ce w with
  | some xs=>some (.ok (.int xs.length) ce)
  | none=>match lx ce w with
   | some kvs=>some (.ok (.int kvs.length) ce)
   | none=>none
 | _=>none
open Classical in
def fE(mk:List W->M W):List W->M W:=fun ws ce=>match ws with
 | [w]=>match cH ce w with
  | some xs=>match jb xs with
   | some ns=>if ns.length<64 then mk ((f_ ns).map W.int) ce else none
   | none=>none
  | none=>match mq ce w with
   | some kvs=>match kK kvs with
    | some ns=>if ns.length<64 then mk ((f_ ns).map W.int) ce else none
    | none=>none
   | none=>none
 | _=>none
def my(mk:List W->M W):List W->M W:=fun ws ce=>match ws with
 | [w]=>match fz ce w with
  | some xs=>mk xs ce
  | none=>match mq ce w with
   | some kvs=>match kK kvs with
    | some ns=>mk (ns.map W.int) ce
    | none=>none
   | none=>none
 | _=>none
def gu:List W->M W:=fun ws ce=>match ws with
 | [.tup xs]=>some (.ok (.tup xs) ce)
 | [w]=>match cH ce w with
  | some xs=>nL xs ce
  | none=>none
 | _=>none
def KL:List W->M W:=fun ws ce=>match ws with
 | [w]=>match cH ce w with
  | some xs=>match xB xs with
   | some bs=>some (.ok (.bl (bs.all id)) ce)
   | none=>none
  | none=>none
 | _=>none
def KJ:List W->M W:=fun ws ce=>match ws with
 | [.int i,.int j]=>some (.ok (.int (if j<i then j else i)) ce)
 | _=>none
def KI:List W->M W:=fun ws ce=>match ws with
 | [.int i,.int j]=>some (.ok (.int (if j>i then j else i)) ce)
 | _=>none
def i6(ce:Ce):W->Option String
 | .non=>some "NoneType"
 | .bl _=>some "bool"
 | .int _=>some "int"
 | .str _=>some "str"
 | .lst _=>some "list"
 | .tup _=>some "tuple"
 | .cel k=>match ce[k]? with
  | some (.lst _)=>some "list"
  | some (.dct _)=>some "dict"
  | _=>none
 | .ty _=>none
def rM(a b:String):Bool:=a==b||(a == "bool" && b == "int")
def kinds:List String:=["NoneType", "bool", "int", "str", "list", "tuple", "dict"]
theorem Ih(K:Frag):∀a∈kinds,∀b∈["int", "bool", "list", "tuple", "str", "dict"],kitOne K (.type a) (.type b)=some (rM a b):=by
 have h:∀a∈kinds,∀b∈["int", "bool", "list", "tuple", "str", "dict"],(fun _:Unit=>kitOne K (.type a) (.type b)) ()=some (rM a b):=by intro a ha b hb;simp only[kinds,mem_cons,not_mem_nil,or_false] at ha hb;rcases ha with rfl|rfl|rfl|rfl|rfl|rfl|rfl<;>rcases hb with rfl|rfl|rfl|rfl|rfl|rfl<;>kernel_rfl
 exact h
def iz:List W->M W:=fun ws ce=>match ws with
 | [w,.ty T]=>match i6 ce w with
  | some t=>if (kinds.contains t&&["int", "bool", "list", "tuple", "str", "dict"].contains T)=true then some (.ok (.bl (rM t T)) ce) else none
  | none=>none
 | _=>none
theorem aT.or{f:Value}{r r':List V->Hp->VK->Prop}(h:aT X f r)(h':aT X f r'):aT X f (fun xs H Q=>r xs H Q\/r' xs H Q):=by
 intro pins s σ H xs us Q I rx q;rcases q with q|q
 ·exact h pins s σ H xs us Q I rx q
 ·exact h' pins s σ H xs us Q I rx q
theorem gB(h:aj F as [w] vs):∃v,vs=[v]/\Rep F as w v:=by simp only[aj] at h;obtain⟨v,r,rfl,h1,rfl⟩:=h;exact⟨v,rfl,h1⟩
theorem EZ{w':W}(h:aj F as [w,w'] vs):∃v v',vs=[v,v']/\Rep F as w v/\Rep F as w' v':=by simp only[aj] at h;obtain⟨v,r,rfl,h1,v',r',rfl,h2,rfl⟩:=h;exact⟨v,v',rfl,h1,h2⟩
def vY(K:Frag):List V->Hp->VK->Prop:=fun xs H Q=>(∃x n,xs=[x]/\vc K x H n/\Q (.int n) H)\/∃a kvs,xs=[V.ref a]/\H a=some (.dK kvs)/\Q (.int kvs.length) H
theorem fv(hK:X.K=K:=by rfl):aT X (.builtin "len") (vY K):=by subst hK;exact aT.or G6 HX
theorem ft(K:Frag):Bi G E (vY K) cg:=by
 intro F as H σ sl ce ws vs Q S rs P;unfold cg at P;split at P
 ·rename_i x;split at P
  ·rename_i hl;obtain⟨v,rfl,r⟩:=gB rs;simp only[Rep] at r;subst r;exact .inl ⟨_,_,rfl,⟨hl,rfl⟩,P.done S (by simp only[Rep])⟩
  ·exact P.elim
 ·rename_i w _;obtain⟨v,rfl,r⟩:=gB rs;split at P
  ·rename_i xs hx;obtain⟨a,us,rfl,h,rs'⟩:=pZ S.st r hx;refine .inl ⟨_,us.length,rfl,?_,P.done S (by simp only[Rep];rw[rs'.length])⟩;rcases h with h|h
   ·exact .inl ⟨us,.inl h,rfl⟩
   ·exact .inr ⟨us,.inl h,rfl⟩
  ·split at P
   ·rename_i kvs hd;obtain⟨n,a,ps,rfl,rfl,ha,hH,rk⟩:=tE S.st r hd;exact .inr ⟨a,ps,rfl,hH,P.done S (by simp only[Rep];rw[rk.length])⟩
   ·exact P.elim
 ·exact P.elim
def u6(K:Frag):List V->Hp->VK->Prop:=fun xs H Q=>Gh K xs H Q\/∃(a:Addr) (kvs:List (Key×V)) (ns:List Int),xs=[.ref a]/\Rd H a (.dK kvs)/\kvs.map (·.1)=ns.map Sum.inl/\ns.length<64 /\
  ∀ms:List Int,ms.Perm ns->ms.Pairwise (·<=·)->∀l,H l=none->Q (.ref l) (upd H l (.lst (ms.map V.int)))
theorem nZ(hc:X.calm=true:=by rfl)(hK:X.K=K:=by rfl):aT X (.builtin "sorted") (u6 K):=by subst hK;exact aT.or Je (Jx hc)
theorem aD.keys{kvs:List (Key×W)}(r:aD F as kvs ps):ps.map (·.1)=kvs.map (·.1):=by
 induction r with
 | nil=>rfl
 | cons h t ih=>rw[map_cons,map_cons,ih,h.1]
theorem nY(K:Frag)(hm:jt G E mk):Bi G E (u6 K) (fE mk):=by
 intro F as H σ sl ce ws vs Q S rs P;unfold fE at P;split at P
 ·rename_i w;obtain⟨v,rfl,r⟩:=gB rs;split at P
  ·rename_i xs hx;split at P
   ·rename_i ns hi;split at P
    ·rename_i h64;obtain⟨a,us,rfl,h,rs'⟩:=i5 S.st r hx;cases uc hi;cases rs'.of_ints;refine .inl ⟨a,ns,rfl,.inl h,h64,fun ms p s l hl=>?_⟩;rw[xA p s];exact(hm S (aj.ints (f_ ns)) P).2 l hl
    ·exact P.elim
   ·exact P.elim
  ·split at P
   ·rename_i kvs hd;split at P
    ·rename_i ns hk;split at P
     ·rename_i h64;obtain⟨n,a,ps,rfl,rfl,ha,hH,rk⟩:=yZ S.st r hd;refine .inr ⟨a,ps,ns,rfl,hH,by rw[rk.keys];exact ub hk,h64,fun ms p s l hl=>?_⟩;rw[xA p s];exact(hm S (aj.ints (f_ ns)) P).2 l hl
     ·exact P.elim
    ·exact P.elim
   ·exact P.elim
 ·exact P.elim
def vX(K:Frag):List V->Hp->VK->Prop:=fun xs H Q=>Gg K xs H Q\/∃(a:Addr) (kvs:List (Key×V)) (ns:List Int),xs=[.ref a]/\Rd H a (.dK kvs)/\kvs.map (·.1)=ns.map Sum.inl/\∀l,H l=none->Q (.ref l) (upd H l (.lst (ns.map V.int)))
theorem xy(hc:X.calm=true:=by rfl)(hK:X.K=K:=by rfl):aT X (.type "list") (vX K):=by subst hK;exact aT.or Js (Io hc)
theorem xx(K:Frag)(hm:jt G E mk):Bi G E (vX K) (my mk):=by
 intro F as H σ sl ce ws vs Q S rs P;unfold my at P;split at P
 ·rename_i w;obtain⟨v,rfl,r⟩:=gB rs;split at P
  ·rename_i xs hx;obtain⟨a,us,rfl,h,rs'⟩:=pZ S.st r hx;exact .inl ⟨a,us,rfl,h.imp .inl .inl,(hm S rs' P).2⟩
  ·split at P
   ·rename_i kvs hd;split at P
    ·rename_i ns hk;obtain⟨n,a,ps,rfl,rfl,ha,hH,rk⟩:=yZ S.st r hd;exact .inr ⟨a,ps,ns,rfl,hH,by rw[rk.keys];exact ub hk,(hm S (aj.ints ns) P).2⟩
    ·exact P.elim
   ·exact P.elim
 ·exact P.elim
theorem oB(K:Frag):Bi G E (xj K) gu:=by
 intro F as H σ sl ce ws vs Q S rs P;unfold gu at P;split at P
 ·rename_i xs;obtain⟨v,rfl,r⟩:=gB rs;have r':=r;simp only[Rep] at r;obtain⟨a,us,rfl,h,rs'⟩:=r;exact⟨a,us,rfl,.inr ⟨.inl (.inl (S.st.sub _ _ h)),P.done S r'⟩⟩
 ·rename_i w _;obtain⟨v,rfl,r⟩:=gB rs;split at P
  ·rename_i xs hx;obtain⟨a,us,rfl,h,rs'⟩:=i5 S.st r hx;exact⟨a,us,rfl,.inl ⟨.inl h,(qa S rs' P).2⟩⟩
  ·exact P.elim
 ·exact P.elim
theorem Dv(S:aB G F as H ce)(r:Rep F as w v){t:String}(e:i6 ce w=some t)(K:Frag):c8 K H v (.type t):=by
 have lst:∀{a:Addr} {vs:List V},Rd H a (.lst vs)->c8 K H (.ref a) (.type "list"):=fun {a vs} h=>by
  rcases h with h|⟨o,h⟩
  ·exact .lst h
  ·exact .frz h
 cases w with
 | non=>simp only[i6,Option.some.injEq] at e;simp only[Rep] at r;subst e r;exact .non
 | bl b=>simp only[i6,Option.some.injEq] at e;simp only[Rep] at r;subst e r;exact .bl b
 | int b=>simp only[i6,Option.some.injEq] at e;simp only[Rep] at r;subst e r;exact .int b
 | str b=>simp only[i6,Option.some.injEq] at e;simp only[Rep] at r;subst e r;exact .str b
 | ty b=>simp only[i6,reduceCtorEq] at e
 | lst xs =>
  simp only[i6,Option.some.injEq] at e;simp only[Rep] at r;obtain⟨a,vs,rfl,h,_⟩:=r;subst e;exact lst (Rd.sub S h)
 | tup xs =>
  simp only[i6,Option.some.injEq] at e;simp only[Rep] at r;obtain⟨a,vs,rfl,h,_⟩:=r;subst e;exact .tup (S.sub _ _ h)
 | cel k =>
  simp only[Rep] at r;obtain⟨a,rfl,h⟩:=r;simp only[i6] at e;split at e
  ·rename_i hc;cases e;obtain⟨_,vs,h2,rs⟩:=S.cell _ _ _ h hc;exact .lst h2
  ·rename_i hc;cases e;obtain⟨_,vs,h2,rs⟩:=S.cell _ _ _ h hc;exact .dK h2
  ·cases e
section
variable {x:Str} {id T:String} {r:List V->Hp->VK->Prop} {f:List W->M W}
theorem mQ(K:Frag):Bi G E (rG K) iz:=by
 intro F as H σ sl ce ws vs Q S rs P;unfold iz at P;split at P
 ·rename_i w T;obtain⟨v,v',rfl,r,r'⟩:=EZ rs;simp only[Rep] at r';subst r';split at P
  ·rename_i t ht;split at P
   ·rename_i hk;rw[and_eq_true,contains_iff_mem,contains_iff_mem] at hk;exact⟨v,T,_,_,rfl,Dv S.st r ht K,Ih K t hk.1 T hk.2,P.done S (by simp only[Rep])⟩
   ·exact P.elim
  ·exact P.elim
 ·exact P.elim
theorem cR(hc:aT X (.builtin id) r)(hf:Bi G E r f)(hg:Gl X x)(hm:X.mg x=none)(hv:bootBuiltins x=some (.builtin id))(ha:PA X (e::es) (fL G E dr))(hn:x ≠ "__name__" := by decide)(hdb:(x==("__debug__" : Str))=false:=by decide)(he:starEach (e::es) X.env=(false,eval e X.env)::starEach es X.env:=by rfl)(hpl:(backTo pos (starEach es X.env)).any (·.1)=false:=by rfl):PE X (.Call (.Name x p) (e::es) [] pos) (ax G E (bg f dr)) :=
 PE.imp (Hu hc hg hm hv ha hn hdb he hpl) fun σ H Q zz_=>bN zz_ fun F as sl ce S P=>(step (RP:=aj) S P).mono fun vs H1 zz_=>bu zz_ fun ws F1 as1 ce1 l1 S1 rs P1=>hf F1 as1 H1 σ sl ce1 ws vs Q S1 rs P1
theorem iK(hc:aT X (.type T) r)(hf:Bi G E r f)(hg:Gl X x)(hm:X.mg x=none)(hv:bootBuiltins x=some (.type T))(ha:PA X (e::es) (fL G E dr))(hn:x ≠ "__name__" := by decide)(hdb:(x==("__debug__" : Str))=false:=by decide)(he:starEach (e::es) X.env=(false,eval e X.env)::starEach es X.env:=by rfl)(hpl:(backTo pos (starEach es X.env)).any (·.1)=false:=by rfl):PE X (.Call (.Name x p) (e::es) [] pos) (ax G E (bg f dr)) :=
 PE.imp (zT hc hg hm hv ha hn hdb he hpl) fun σ H Q zz_=>bN zz_ fun F as sl ce S P=>(step (RP:=aj) S P).mono fun vs H1 zz_=>bu zz_ fun ws F1 as1 ce1 l1 S1 rs P1=>hf F1 as1 H1 σ sl ce1 ws vs Q S1 rs P1
open Classical in
def mP(mk:List W->M W):List W->M W:=fun ws ce=>match jB ws with
 | some (.rng lo n)=>if n<=sizeLine then mk ((List.range n).map fun(i:Nat)=>W.int (lo+(i:Int))) ce else none
 | _=>none
theorem aj.rng{F:Hp}{as:List Addr}(lo:Int):∀(l:List Nat),aj F as (l.map fun(i:Nat)=>W.int (lo+(i:Int))) (l.map fun(i:Nat)=>V.int (lo+(i:Int)))
 | []=>.nil
 | a::r=>.cons (by simp only[Rep]) (aj.rng lo r)
theorem EY{a:Expr}{pos2:Pos}(hmk:jt G E mk)(hc:X.calm=true)(hgl:Gl X "list")(hml:X.mg "list" = none)(hg:Gl X "range")(hm:X.mg "range" = none)(ha:PA X [a] (fL G E dr))(hs:starEach [a] X.env=[(false,eval a X.env)]:=by rfl)(he:starEach [.Call (.Name "range" p2) [a] [] pos2] X.env=[(false,eval (.Call (.Name "range" p2) [a] [] pos2) X.env)]:=by rfl) :
  PE X (.Call (.Name "list" p) [.Call (.Name "range" p2) [a] [] pos2] [] pos) (ax G E (bg (mP mk) dr)):=by
 refine PE.imp (zT (Jw hc) hgl hml boot_list (yz (HW hg hm ha hs) xn (by rw[he];rfl)) (by decide) (by decide) (by rw[he];rfl) rfl) fun σ H Q zz_=>bN zz_ fun F as sl ce S P=>(step (RP:=aj) S P).mono fun vs H1 zz_=>bu zz_ fun ws F1 as1 ce1 l1 S1 rs P1=>?_;unfold mP at P1;split at P1
 ·rename_i lo n hr;unfold jB at hr;split at hr
  ·rename_i j;split at hr
   ·rename_i hj;cases hr;split at P1
    ·rename_i hz;obtain⟨v,rfl,r1⟩:=gB rs;simp only[Rep] at r1;subst r1;refine⟨j,rfl,fun q hq=>?_⟩;refine⟨q,0,j,rfl,eB,by omega,by omega,by omega,by omega,by rw[Int.sub_zero];exact hz,fun l hl=>?_⟩;rw[Int.sub_zero];obtain⟨S2,l2⟩:=S1.st.freeze (o:=.rng 0 j) hq;exact(hmk (S1.slots S2 l2) (aj.rng 0 _) (P1.le l2)).2 l hl
    ·exact(show False from P1).elim
   ·cases hr
  ·cases hr
 ·exact(show False from P1).elim
def jA(ce:Ce)(w:W):Option Unit:=(cH ce w).map fun _=>()
def dM(f:W->List W->M W)(o:Sl->M W)(args:Sl->M (List W)):Sl->M W:=fun sl=>az (o sl) fun x=>az (look fun ce=>jA ce x) fun _=>az (args sl) fun ws=>f x ws
def Mt(G:Ga)(E:XK)(r:V->List V->Hp->VK->Prop)(f:W->List W->M W):Prop:=∀F as H σ sl ce w v ws vs Q,SR G F as H σ sl ce->Rep F as w v->aj F as ws vs->aO G E Rep F as σ sl Q (f w ws ce)->r v vs H Q
variable {o:Expr} {name:Str} {apos cpos:Pos} {do':Sl->M W} {rm:V->List V->Hp->VK->Prop} {fm:W->List W->M W}
theorem z9{σ:VS.St}{k:Unit->M W}(P:aO G E Rep F as σ sl Q (az (look fun ce=>jA ce w) k ce)):∃xs,cH ce w=some xs/\aO G E Rep F as σ sl Q (k () ce):=by
 revert P;simp only[az,look,jA];cases cH ce w with
 | none=>exact fun P=>P.elim
 | some xs=>exact fun P=>⟨xs,rfl,P⟩
theorem fU(slot:Slot "list" name id)(hty:typeOf (.builtin id)=pure (.type "method_descriptor"))(hm:o2 X id rm)(hf:Mt G E rm fm)(ho:PE X o (ax G E do'))(ha:PA X (e::es) (fL G E dr))(hbase:attributeBase o name X.env (eval o X.env)=eval o X.env:=by rfl)(hfew:((backTo cpos (starEach (e::es) X.env)).all (fun x=>!x.1)&&(backToKw cpos (keywordEach [] X.env)).all (fun x=>x.1.isSome)
   && decide ((e::es).length+([]:List Keyword).length+(if ([]:List Keyword).isEmpty then 0 else 1)<30))=true:=by rfl)(hline:(apos.endLine==cpos.line)=true:=by rfl)(hs:starEach (e::es) X.env=(false,eval e X.env)::starEach es X.env:=by rfl)(hplain:(backTo cpos (starEach es X.env)).any (·.1)=false:=by rfl) :
  PE X (.Call (.Attribute o name apos) (e::es) [] cpos) (ax G E (dM fm do' dr)):=by
 refine PE.imp (B6 PySem.F.plainAttrs_list slot hty hm ho ha hbase hfew hline hs hplain) fun σ H Q zz_=>bN zz_ fun F as sl ce S P=>(step S P).mono fun x H1 zz_=>bu zz_ fun wx F1 as1 ce1 l1 S1 rx P1=>?_;obtain⟨xs,hx,P2⟩:=z9 P1;obtain⟨a,us,rfl,h,_⟩:=i5 S1.st rx hx;refine⟨.inl ⟨rfl,us,.inl h⟩,(step (RP:=aj) S1 P2).mono fun vs H2 zz_=>bu zz_ fun ws F2 as2 ce2 l2 S2 rs P3=>?_⟩;exact hf F2 as2 H2 σ sl ce2 wx _ ws vs Q S2 (rx.le l2) rs P3
def mn(f:W->List W->M W)(o:Sl->M W):Sl->M W:=fun sl=>az (o sl) fun x=>az (look fun ce=>jA ce x) fun _=>f x []
theorem xw(slot:Slot "list" name id)(hty:typeOf (.builtin id)=pure (.type "method_descriptor"))(hm:o2 X id rm)(hf:Mt G E rm fm)(ho:PE X o (ax G E do'))(hbase:attributeBase o name X.env (eval o X.env)=eval o X.env:=by rfl)(hline:(apos.endLine==cpos.line)=true:=by rfl):PE X (.Call (.Attribute o name apos) [] [] cpos) (ax G E (mn fm do')):=by refine PE.imp (EN PySem.F.plainAttrs_list slot hty hm ho hbase hline) fun σ H Q zz_=>bN zz_ fun F as sl ce S P=>(step S P).mono fun x H1 zz_=>bu zz_ fun wx F1 as1 ce1 l1 S1 rx P1=>?_;obtain⟨xs,hx,P2⟩:=z9 P1;obtain⟨a,us,rfl,h,_⟩:=i5 S1.st rx hx;exact⟨.inl ⟨rfl,us,.inl h⟩,hf F1 as1 H1 σ sl ce1 wx _ [] [] Q S1 rx aj.nil P2⟩
open Classical in
def dO:W->List W->M W:=fun w ws ce=>match jC ce w,ws with
 | some (k,xs),[y]=>if xs.length<sizeLine then some (.ok .non (ce.set k (.lst (xs++[y])))) else none
 | _,_=>none
def nK:W->List W->M W:=fun w ws ce=>match jC ce w,ws with
 | some (k,xs),[]=>match xs[xs.length-1]? with
  | some y=>some (.ok y (ce.set k (.lst xs.dropLast)))
  | none=>none
 | _,_=>none
def oj:W->List W->M W:=fun w ws ce=>match jC ce w,ws with
 | some (k,_),[]=>some (.ok .non (ce.set k (.lst [])))
 | _,_=>none
open Classical in
def lp:W->List W->M W:=fun w ws ce=>match jC ce w,ws with
 | some (k,xs),[y]=>match cH ce y with
  | some ys=>if xs.length+ys.length<=sizeLine then some (.ok .non (ce.set k (.lst (xs++ys)))) else none
  | none=>none
 | _,_=>none
theorem gW:Mt G E yr dO:=by
 intro F as H σ sl ce w v ws vs Q S rw' rs P;unfold dO at P;split at P
 ·rename_i k xs y hk;split at P
  ·rename_i hl;obtain⟨a,us,rfl,ha,hH,r⟩:=oK S.st rw' hk;obtain⟨u,rfl,ry⟩:=gB rs;refine⟨a,us,u,rfl,rfl,hH,by rw[r.length];exact hl,?_⟩;exact P .non _ F as .refl (S.slots (S.st.write (o:=.lst (us++[u])) (c:=.lst (xs++[y])) ha ⟨_,eB,r.append (.cons ry .nil)⟩) .refl) (by simp only[Rep])
  ·exact(show False from P).elim
 ·exact(show False from P).elim
theorem Ct:Mt G E va nK:=by
 intro F as H σ sl ce w v ws vs Q S rw' rs P;unfold nK at P;split at P
 ·rename_i k xs hk;split at P
  ·rename_i y hy;obtain⟨a,us,rfl,ha,hH,r⟩:=oK S.st rw' hk;simp only[aj] at rs;obtain⟨u,hu,ru⟩:=r.get hy;refine⟨a,us,u,rfl,rs,hH,by rw[r.length];exact hu,?_⟩;exact P u _ F as .refl (S.slots (S.st.write (o:=.lst us.dropLast) (c:=.lst xs.dropLast) ha ⟨_,eB,r.dropLast⟩) .refl) ru
  ·exact(show False from P).elim
 ·exact(show False from P).elim
theorem EX:Mt G E xl oj:=by
 intro F as H σ sl ce w v ws vs Q S rw' rs P;unfold oj at P;split at P
 ·rename_i k xs hk;obtain⟨a,us,rfl,ha,hH,r⟩:=oK S.st rw' hk;simp only[aj] at rs;refine⟨a,us,rfl,rs,hH,?_⟩;exact P .non _ F as .refl (S.slots (S.st.write (o:=.lst []) (c:=.lst []) ha ⟨_,eB,.nil⟩) .refl) (by simp only[Rep])
 ·exact(show False from P).elim
def vW:V->List V->Hp->VK->Prop:=fun x vs H Q=>∃l b xs zs,x=.ref l/\vs=[.ref b]/\H l=some (.lst xs)/\Rd H b (.lst zs)/\xs.length+zs.length<=sizeLine/\Q .non (upd H l (.lst (xs++zs)))
theorem tm:o2 X "list.extend" vW:=by
 intro pins s σ H x vs v us Q I rx rv h;obtain⟨l,b,xs,zs,rfl,rfl,hH,hB,hz,q⟩:=h;cases rx;obtain⟨u,rfl,ru⟩:=rv.one;cases ru;obtain⟨z,its,n,r,hl,e⟩:=I.lstM hH;obtain⟨z2,its2,n2,r2,hl2,e2⟩:=Inv.lstR I hB;have hsz:its.toArray.size+its2.toArray.size<=sizeLine:=by rw[size_toArray,size_toArray];omega
 have hlong:¬(!its.toArray.isEmpty&&Builtin.List.listTooLong (its.toArray.size+its2.toArray.size))=true:=by rw[zb hsz,Bool.and_false];exact Bool.false_ne_true
 refine call_meets F.slot_list_extend ⟨_,e,rfl⟩ F.entry_list_extend (F.args_list_extend_2 _ _)
  (AutoSeq1.list_extend_list_list_0 l its.toArray n b its2.toArray n2 hlong (by rw[size_toArray];omega) (by omega)) ⟨e,e2,?_⟩
 refine⟨.non,_,I.lset (its':=its++its2) hH e (by simp) (r.append r2) ?_,rfl,q⟩;rw[length_append];omega
theorem rL:Mt G E vW lp:=by
 intro F as H σ sl ce w v ws vs Q S rw' rs P;unfold lp at P;split at P
 ·rename_i k xs y hk;split at P
  ·rename_i ys hy;split at P
   ·rename_i hl;obtain⟨a,us,rfl,ha,hH,r⟩:=oK S.st rw' hk;obtain⟨u,rfl,ry⟩:=gB rs;obtain⟨b,zs,rfl,hb,r2⟩:=i5 S.st ry hy;refine⟨a,b,us,zs,rfl,rfl,hH,hb,by rw[r.length,r2.length];exact hl,?_⟩;exact P .non _ F as .refl (S.slots (S.st.write (o:=.lst (us++zs)) (c:=.lst (xs++ys)) ha ⟨_,eB,r.append r2⟩) .refl) (by simp only[Rep])
   ·exact(show False from P).elim
  ·exact(show False from P).elim
 ·exact(show False from P).elim
variable {a:Expr}
open Classical in
def o8(mk:List W->M W)(xs:List W)(y:W):M W:=fun ce=>match y with
 | .int k=>@ite _ (-9223372036854775808<=k/\k<9223372036854775808/\xs.length*k.toNat<=sizeLine) (Classical.propDecidable _) (mk (List.replicate k.toNat xs).flatten ce) none
 | _=>none
open Classical in
def rn(n:Nat):M Unit:=fun ce=>if n<=sizeLine then some (.ok () ce) else none
def mO(mk:List W->M W)(a:Sl->M (List W))(b:Sl->M W):Sl->M W:=fun sl=>az (a sl) fun xs=>az (rn xs.length) fun _=>az (b sl) fun y=>o8 mk xs y
theorem EW{ds:Sl->M (List W)}{lpos:Pos}(hm:jt G E mk)(ha:PA X es (fL G E ds))(hb:PE X b (ax G E db)):PE X (.BinOp (.List es lpos) .Mult b pos) (ax G E (mO mk ds db)):=by
 refine PE.imp (pw EL (sy ha) hb) fun σ H Q zz_=>bN zz_ fun F as sl ce S P=>(step (RP:=aj) S P).mono fun vs H1 zz_=>bu zz_ fun ws F1 as1 ce1 l1 S1 rs P1=>?_;have q:ws.length<=sizeLine/\aO G E Rep F1 as1 σ sl Q (az (db sl) (fun y=>o8 mk ws y) ce1):=by
  revert P1;unfold rn
  by_cases hl:ws.length<=sizeLine
  ·simp only[az,if_pos hl];exact fun P=>⟨hl,P⟩
  ·simp only[az,if_neg hl];exact fun P=>P.elim
 obtain⟨hlen,P1⟩:=q;rw[<- rs.length] at hlen;refine⟨hlen,fun p hp=>?_⟩;obtain⟨S2,l2⟩:=S1.st.freeze (o:=.lst vs) hp;refine(step (S1.slots S2 l2) (P1.le l2)).mono fun y H2 zz_=>bu zz_ fun wy F2 as2 ce2 l3 S3 ry P2=>?_;unfold o8 at P2;cases wy<;>first|exact(show False from P2).elim|skip
 rename_i k;dsimp only at P2;split at P2
 ·rename_i hk;simp only[Rep] at ry;refine⟨p,k,vs,rfl,ry,S3.st.sub _ _ (l3.f _ _ eB),by omega,by omega,by rw[rs.length];exact hk.2.2,?_⟩;exact(hm S3 (((rs.le l2).le l3).rep k.toNat) P2).2
 ·exact(show False from P2).elim
theorem He{i:Int}(hg:Gl X x)(hm:∃t,X.mg x=some (.int i t))(hd:(x==("__debug__" : Str))=false:=by decide):PE X (.Name x pos) (ax G E (dC (.int i))):=by obtain⟨t,hm⟩:=hm;exact mw (FY (v:=.int i) hg hm ⟨t,rfl⟩ hd) rfl
theorem mM{n:String}(hg:Gl X x)(hm:X.mg x=none)(hv:bootBuiltins x=some (.type n))(hn:x ≠ "__name__" := by decide)(hd:(x==("__debug__" : Str))=false:=by decide):PE X (.Name x pos) (ax G E (dC (.ty n))):=mw (FX (v:=.ty n) hg hm hv rfl hn hd) rfl
end
section
variable {a:Expr}
def dn:W->W->Option W:=i2 fun i j=>.bl (decide (i=j))
def jZ:W->W->Option W:=i2 fun i j=>.bl (!decide (i=j))
theorem xu:mj Bs dn:=by intro x y w e;cases x<;>cases y<;>simp only[dn,i2,Option.some.injEq,reduceCtorEq] at e;subst e;exact⟨_,_,_,rfl,rfl,rfl,fun H Q hq=>⟨rfl,by simpa using hq⟩⟩
theorem Du:mj Br jZ:=by intro x y w e;cases x<;>cases y<;>simp only[jZ,i2,Option.some.injEq,reduceCtorEq] at e;subst e;exact⟨_,_,_,rfl,rfl,rfl,fun H Q hq=>⟨rfl,by simpa using hq⟩⟩
theorem mX(ha:PE X a (ax G E da))(hb:PE X b (ax G E db)):PE X (.Compare a [.Eq] [b] pos) (ax G E (aF dn da db)):=pL wt xu ha hb (gC _)
theorem j_(ha:PE X a (ax G E da))(hb:PE X b (ax G E db)):PT X (.Compare a [.Eq] [b] pos) (cq G E (dB (aF dn da db))):=j3 wt ha hb (gC _) (i4 (oo xu))
theorem pK(ha:PE X a (ax G E da))(hb:PE X b (ax G E db)):PT X (.Compare a [.NotEq] [b] pos) (cq G E (dB (aF jZ da db))):=j3 Cm ha hb (gC _) (i4 (oo Du))
def oi(k v:Sl->M W):Sl->M W:=fun sl ce=>match az (k sl) (fun kw=>az (v sl) fun vw=>ret (kw,vw)) (ce++[.dct []]) with
 | some (.ok (kw,vw) ce2)=>match fK kw,ce2[ce.length]? with
  | some key,some (.dct [])=>some (.ok (.cel ce.length) (ce2.set ce.length (.dct [(key,vw)])))
  | _,_=>none
 | some (.ex x ce2)=>some (.ex x ce2)
 | none=>none
theorem Hd{k v:Expr}{dk dv:Sl->M W}(hk:PE X k (ax G E dk))(hv:PE X v (ax G E dv)):PE X (.Dict [some k] [v] pos) (ax G E (oi dk dv)):=by
 refine PE.imp (E6 (Hi hk hv E7) rfl rfl (by intro h;cases h) (by simp)) fun σ H Q zz_=>bN zz_ fun F as sl ce S P=>?_;intro p hp;obtain⟨S1,l1⟩:=S.st.alloc (o:=.dK []) (c:=.dct []) hp (fun as' l=>⟨[],eB,.nil⟩);have hlen:as.length=ce.length:=S.st.len;have P':aO G E (fun F as (a:W×W) (b:V×V)=>Rep F as a.1 b.1/\Rep F as a.2 b.2) F (as++[p]) σ sl (fun b H2=>H2 p=some (.dK [])/\∃kvs:List (Key×V),[b]=kvs.map (fun kv=>(kV kv.1,kv.2))/\kvs.length<=15/\Q (.ref p) (upd H2 p (.dK (lR [] kvs))))
   (az (dk sl) (fun kw=>az (dv sl) fun vw=>ret (kw,vw)) (ce++[.dct []])):=by
  unfold oi at P;cases e:az (dk sl) (fun kw=>az (dv sl) fun vw=>ret (kw,vw)) (ce++[.dct []]) with
  | none=>rw[e] at P;exact P.elim
  | some r=>cases r with
   | ex x ce2=>rw[e] at P;exact fun H' F' as' cv od l=>P H' F' as' cv od (l1.trans l)
   | ok a ce2 =>
    obtain⟨kw,vw⟩:=a;rw[e] at P;dsimp only at P;split at P
    ·rename_i key hkey hcell;intro b H' F' as' l S' r;obtain⟨kv,vv⟩:=b;have hp':as'[ce.length]?=some p:=l.c _ _ (by rw[<- hlen];simp);obtain⟨_,ps,h2,rk⟩:=S'.st.cell _ _ _ hp' hcell;cases rk;have rput:aD F' as' [(key,vw)] [(key,vv)]:=.cons ⟨rfl,r.2⟩ .nil;refine⟨h2,[(key,vv)],?_,by simp,?_⟩
     ·simp only[map_cons,map_nil];rw[show kv=kV key from nk r.1 hkey]
     ·exact P (.ref p) _ F' as' (l1.trans l) (S'.slots (S'.st.write (o:=.dK (lR [] [(key,vv)])) (c:=.dct [(key,vw)]) hp' ⟨_,eB,rput⟩) .refl) (by simp only[Rep];exact⟨p,rfl,hp'⟩)
    ·exact P.elim
 refine(step (S.slots S1 l1) P').mono fun x H1 zz_=>bu zz_ fun wx F1 as1 ce1 l2 S2 rx P1=>(step S2 P1).mono fun y H2 zz_=>bu zz_ fun wy F2 as2 ce2 l3 S3 ry P2=>?_;exact aO.done (RP:=fun F as (a:W×W) (b:V×V)=>Rep F as a.1 b.1/\Rep F as a.2 b.2) (a:=(wx,wy)) (b:=(x,y)) S3 P2 ⟨rx.le l3,ry⟩
end
def oY(K:Frag):Bool:=K.all fun p=>match p.2.cls with
 | .type "list" => false
 | _=>true
theorem Dt(h:oY K=true){o:Obj}(e:K.lookup a=some o):o.cls≠.type "list" := by
 intro hc;have hm:∀{l:Frag},l.lookup a=some o->(a,o)∈l:=by
  intro l
  induction l with
  | nil=>intro e;cases e
  | cons p r ih =>
   intro e;obtain⟨b,q⟩:=p
   by_cases hb:a=b
   ·subst hb;have:List.lookup a ((a,q)::r)=some q:=by simp[List.lookup]
    rw[this] at e;cases e;exact mem_cons_self
   ·have:List.lookup a ((b,q)::r)=List.lookup a r:=by
     have hb':(a==b)=false:=by simpa using hb
     simp[List.lookup,hb']
    rw[this] at e;exact mem_cons_of_mem _ (ih e)
 have:=all_eq_true.mp h _ (hm e);simp only[hc] at this;cases this
def spLaw(G:Frag->Ga)(d:List W->M W)(K:Frag):Sp:=fun vs H Q E=>oY K=true->hZ (G K) (fun _=>E0) 1 d vs H Q E
theorem law_sp{G:Frag->Ga}{d:List W->M W}(main:∀ns:List Int,ns.length<=n->∃ce',d [.lst (ns.map W.int)] []=some (.ok (.bl true) ce'))(K:Frag)(H:Hp)(a:Addr)(ns:List Int)(hl:ns.length<=n)(_hO:nP H)(hS:cO K H a (ns.map V.int)):spLaw G d K [.ref a] H (fun v _=>v=.bl true) fun _ _ _=>False:=by
 intro nl;rcases hS with hS|⟨o,its,m,hk,hc,_⟩
 ·obtain⟨ce',e⟩:=main ns hl;refine⟨rfl,H,[],[.lst (ns.map W.int)],[],⟨fun _ _ h=>h,by simp,rfl,fun k a c h _=>by simp at h⟩,.cons (by simp only[Rep];exact⟨a,_,rfl,hS,aj.ints ns⟩) .nil,?_⟩;rw[e];intro v H' F' as' _ _ r;simpa only[Rep] using r
 ·exact absurd hc (Dt nl hk)
section
variable {α β:Type}
theorem g5{m:M α}{f:α->M β}{a:α}(h:m ce=some (.ok a ce')):az m f ce=f a ce':=by simp only[az,h]
theorem yF{a b:DS}(h:a sl ce=some (.go .nx sl' ce')):ay a b sl ce=b sl' ce':=by simp only[ay,h]
theorem EV{a b:DS}(h:a sl ce=some (.go (.rt w) sl' ce')):ay a b sl ce=some (.go (.rt w) sl' ce'):=by simp only[ay,h]
end
variable {l:Ce}
section
variable {c:C}
theorem o7(ce l:Ce)(j:Nat):(ce++l)[ce.length+j]?=l[j]?:=by rw[getElem?_append_right (le_add_right _ _),add_sub_cancel_left]
theorem vV(ce l:Ce):(ce++l)[ce.length]?=l[0]?:=o7 ce l 0
theorem u5(ce l:Ce)(j:Nat)(c:C):(ce++l).set (ce.length+j) c=ce++l.set j c:=by rw[set_append_right _ _ (le_add_right _ _),add_sub_cancel_left]
theorem Cs(ce l:Ce)(c:C):(ce++l).set ce.length c=ce++l.set 0 c:=u5 ce l 0 c
theorem dU(ce l:Ce):j6 ce (ce++l):=⟨by rw[length_append];omega,fun k c hk h=>.inl (by rwa [getElem?_append_left hk] at h)⟩
theorem ua(ce l:Ce):(ce++l).take ce.length=ce:=take_left
theorem bA(n:Nat):∀ns:List Int,du n (ns.map W.int)
 | []=>by simp only[map_nil,du]
 | a::r=>by simp only[map_cons,du,bc];exact⟨trivial,bA n r⟩
end
theorem Hc{c:C}(h:l[j]?=some c)(hb:e7 ce.length c):finO ce (ce++l) (.cel (ce.length+j))=some (.ok (.cel ce.length) (ce++[c])):=by
 have e:(ce++l)[ce.length+j]?=some c:=by rw[o7];exact h
 simp only[finO,e];rw[if_pos ⟨dU ce l,le_add_right _ _,hb⟩,ua]
theorem qp(hb:bc ce.length w):finC ce (ce++l) w=some (.ok w ce):=by unfold finC;rw[if_pos ⟨dU ce l,hb⟩,ua]
theorem fD(hb:bc ce.length w):finC ce ce w=some (.ok w ce):=by have:=qp (l:=[]) hb;rwa [append_nil] at this
theorem iI{d:List W->M W}(h:d ws ce=some (.ok (.cel ce.length) (ce++[.lst xs])))(hb:du ce.length xs):bR d ws ce=some (.ok (.lst xs) ce):=by
 have e:(ce++[C.lst xs])[ce.length]?=some (.lst xs):=by rw[vV];rfl
 simp only[bR,h,e];rw[if_pos ⟨dU ce _,rfl,hb⟩,ua]
end VS
open PySem PySem.Spec PyProof.Rows L2 VS
variable {n k y j p fu:Nat} {xs ws ys:List W} {ow iw w':W} {key:Key} {F' T js l:List Nat} {mk:List W->M W} {di:Sl->M Src} {ce0 ce' c1 c2 c3:Ce} {d da db:Sl->M W} {fin:Ce->Ce->W->Option (R W)} {body:DS} {sl':Sl} {Q:O->Prop} {ra:Sl->M (List W)} {ng:Bool} {m:List Int} {X:Cx} {G:Ga} {pos:Pos}
namespace VS
section
variable {α β:Type}
@[simp] theorem pA(m:M α)(f:α->M β)(ce:Ce):az m f ce=match m ce with|some (.ok a ce')=>f a ce'|some (.ex x ce')=>some (.ex x ce')|none=>none:=rfl
@[simp] theorem Cr(m:Option (R α))(k:α->Ce->Option O):cL m k=match m with|some (.ok a ce')=>k a ce'|some (.ex x ce')=>some (.ex x ce')|none=>none:=rfl
@[simp] theorem vU(a:α)(ce:Ce):ret a ce=some (.ok a ce):=rfl
@[simp] theorem xq(f:Ce->Option α)(ce:Ce):look f ce=(f ce).map fun a=>R.ok a ce:=rfl
end
variable (a b c:Sl->M W) (ta tb:Sl->M Bool) (s t:DS) (sl:Sl) (ce:Ce) (i:Nat) (w:W)
@[simp] theorem pJ:ae i sl ce=match sl[i]? with|some (some w)=>some (.ok w ce)|_=>none:=rfl
@[simp] theorem KH:dC w sl ce=some (.ok w ce):=rfl
@[simp] theorem Kx(f:W->W->Option W):aF f a b sl ce=az (a sl) (fun x=>az (b sl) fun y=>look fun _=>f x y) ce:=rfl
@[simp] theorem Ds(f:Ce->W->W->Option W):aC f a b sl ce=az (a sl) (fun x=>az (b sl) fun y=>look fun ce=>f ce x y) ce:=rfl
@[simp] theorem Kw(f:W->Option W):eQ f a sl ce=az (a sl) (fun x=>look fun _=>f x) ce:=rfl
@[simp] theorem KG:dB a sl ce=az (a sl) (fun w=>look fun _=>match w with|.bl b=>some b|_=>none) ce:=rfl
@[simp] theorem K8:jD a sl ce=az (a sl) (fun w=>look fun ce=>gy ce w) ce:=rfl
@[simp] theorem Lo:gX ta tb sl ce=az (ta sl) (fun x=>match x with|true=>tb sl|false=>ret false) ce:=rfl
@[simp] theorem K7:gS ta tb sl ce=az (ta sl) (fun x=>match x with|true=>ret true|false=>tb sl) ce:=rfl
@[simp] theorem Ln:fN ta sl ce=az (ta sl) (fun x=>ret (!x)) ce:=rfl
@[simp] theorem K6:ay s t sl ce=match s sl ce with|some (.go .nx sl' ce')=>t sl' ce'|r=>r:=rfl
@[simp] theorem Lm:bI sl ce=some (.go .nx sl ce):=rfl
@[simp] theorem K5:bf i a sl ce=cL (a sl ce) fun w ce'=>some (.go .nx (sl.set i (some w)) ce'):=rfl
@[simp] theorem K4:a_ a sl ce=cL (a sl ce) fun w ce'=>some (.go (.rt w) sl ce'):=rfl
@[simp] theorem CP:c7 a sl ce=cL (a sl ce) fun _ ce'=>some (.go .nx sl ce'):=rfl
@[simp] theorem Kv:bz ta s t sl ce=cL (ta sl ce) fun x ce'=>match x with|true=>s sl ce'|false=>t sl ce':=rfl
@[simp] theorem w_:ak sl ce=some (.ok [] ce):=rfl
@[simp] theorem yE(r:Sl->M (List W)):af a r sl ce=az (a sl) (fun x=>az (r sl) fun xs=>ret (x::xs)) ce:=rfl
@[simp] theorem CO(f:List W->M W)(r:Sl->M (List W)):bg f r sl ce=az (r sl) f ce:=rfl
@[simp] theorem Lr(n:Nat)(f:List W->M W)(r:Sl->M (List W)):aP n f r sl ce=az (r sl) (fun ws=>if ws.length=n then f ws else lK) ce:=rfl
@[simp] theorem K0(r:Sl->M (List W)):bK r sl ce=az (r sl) (fun xs=>gH (.tup xs) xs.length) ce:=rfl
@[simp] theorem KZ(r:Sl->M (List W)):eJ r sl ce=az (r sl) (fun xs=>gH (.lst xs) xs.length) ce:=rfl
@[simp] theorem Lq(r:Sl->M (List W)):dF r sl ce=az (r sl) (fun xs=>i8 (.lst xs) xs.length) ce:=rfl
@[simp] theorem Lp:mD sl ce=i8 (.dct []) 0 ce:=rfl
@[simp] theorem Ku(h:n<=sizeLine):gH w n ce=some (.ok w ce):=if_pos h
@[simp] theorem Kt(c:C)(h:n<=sizeLine):i8 c n ce=some (.ok (.cel ce.length) (ce++[c])):=if_pos h
@[simp] theorem sD(h:xs.length<=sizeLine):bW xs ce=some (.ok (.lst xs) ce):=if_pos h
@[simp] theorem KY(h:xs.length<=sizeLine):fS xs ce=some (.ok (.cel ce.length) (ce++[.lst xs])):=if_pos h
@[simp] theorem Dr(h:xs.length<=sizeLine):nL xs ce=some (.ok (.tup xs) ce):=if_pos h
@[simp] theorem CN(f:W->List W->M W)(r:Sl->M (List W)):dM f a r sl ce=az (a sl) (fun x=>az (look fun ce=>jA ce x) fun _=>az (r sl) fun ws=>f x ws) ce:=rfl
@[simp] theorem KW(f:W->List W->M W):mn f a sl ce=az (a sl) (fun x=>az (look fun ce=>jA ce x) fun _=>f x []) ce:=rfl
@[simp] theorem KD:gN i w sl ce=some (sl.set i (some w),ce):=rfl
theorem w9{o i v:Sl->M W}{sl:Sl}{ce ce1 ce2 ce3:Ce}{w:W}{kvs:List (Key×W)}(h1:v sl ce=some (.ok w ce1))(h2:o sl ce1=some (.ok ow ce2))(h3:i sl ce2=some (.ok iw ce3))(h4:fK iw=some key)(h5:kC ce3 ow=some (k,kvs))(h6:kvs.length<sizeLine) :
  kG o i v sl ce=some (.go .nx sl (ce3.set k (.dct (ip kvs key w)))):=by
 simp only[kG,cL,h1,h2,h3,h4,h5,if_pos h6]
theorem vR{w y:W}{ce:Ce}(h:jC ce w=some (k,xs))(hl:xs.length<sizeLine):dO w [y] ce=some (.ok .non (ce.set k (.lst (xs++[y])))):=by simp only[dO,h,if_pos hl]
@[simp] theorem Ll(x y:Int):cu (.int x) (.int y)=some (.int (x+y)):=rfl
@[simp] theorem Lk(x y:Int):fT (.int x) (.int y)=some (.int (x-y)):=rfl
@[simp] theorem Ks(x y:Int):iN (.int x) (.int y)=some (.bl (decide (x<y))):=rfl
@[simp] theorem Kr(x y:Int):uY (.int x) (.int y)=some (.bl (decide (x<=y))):=rfl
@[simp] theorem Kq(x y:Int):iO (.int x) (.int y)=some (.bl (decide (y<x))):=rfl
@[simp] theorem Kp(x y:Int):qS (.int x) (.int y)=some (.bl (decide (y<=x))):=rfl
@[simp] theorem Lj(x y:Int):dn (.int x) (.int y)=some (.bl (decide (x=y))):=rfl
@[simp] theorem Li(x y:Int):jZ (.int x) (.int y)=some (.bl (!decide (x=y))):=rfl
@[simp] theorem Lh(x:Int):gz (.int x)=some (.int (-x)):=rfl
theorem Dq{x y:Int}(h:cU x y):ee (.int x) (.int y)=some (.int (x*y)):=by simp only[ee,lb,if_pos h]
theorem w8{x y:Int}(h:0<y):dY (.int x) (.int y)=some (.int (x % y)):=by simp only[dY,lb,if_pos h]
theorem DV{x y:Int}(h:0<y/\y<1073741824):mv (.int x) (.int y)=some (.int (x / y)):=by have h':q_ x y:=h;simp only[mv,lb,if_pos h']
@[simp] theorem Lf(xs:List W):fz ce (.tup xs)=some xs:=rfl
@[simp] theorem Ld(xs:List W):fz ce (.lst xs)=some xs:=rfl
@[simp] theorem DU(xs:List W):cH ce (.lst xs)=some xs:=rfl
theorem ff{ce:Ce}(h:ce[k]?=some (.lst xs)):cH ce (.cel k)=some xs:=by simp only[cH,h]
theorem oh{ce:Ce}(h:ce[k]?=some (.lst xs)):fz ce (.cel k)=some xs:=by simp only[fz,cH,h]
theorem sC{ce:Ce}{xs:List (Key×W)}(h:ce[k]?=some (.dct xs)):lx ce (.cel k)=some xs:=by simp only[lx,h]
theorem mW{ce:Ce}(h:ce[k]?=some (.lst xs)):jC ce (.cel k)=some (k,xs):=by simp only[jC,h]
theorem sA{ce:Ce}{xs:List (Key×W)}(h:ce[k]?=some (.dct xs)):kC ce (.cel k)=some (k,xs):=by simp only[kC,h]
@[simp] theorem Lc(j:Int):fK (.int j)=some (.inl j):=rfl
theorem HC{α:Type}{xs:List α}:atI xs (j:Int)=xs[j]?:=by
 unfold atI ixN
 by_cases h:j<xs.length
 ·rw[if_pos (by omega),if_pos (by omega)];simp
 ·rw[if_pos (by omega),if_neg (by omega),getElem?_eq_none (by omega)];rfl
theorem eS{x y:W}{ce:Ce}(h:fz ce x=some xs)(hy:y=.int j):aE ce x y=xs[j]?:=by subst hy;simp only[aE,h];exact HC
theorem gr(c0:C):(ce++[c0])[ce.length]?=some c0:=by rw[vV];rfl
def nW(n:Nat):W:=.int (n:Int)
def wT(l:List Nat):W:=.tup (l.map nW)
def wB(b:List (List Nat)):W:=.tup (b.map wT)
def kvs(F:List Nat):List (Key×W):=F.map fun(x:Nat)=>((Sum.inl (x:Int):Key),W.bl true)
def dI(F:List Nat):List Int:=F.map fun(x:Nat)=>(x:Int)
theorem EU(F:List Nat)(y:Nat):(gm (kvs F) (.inl (y:Int))).isSome=decide (y∈F):=by
 induction F with
 | nil=>rfl
 | cons x F ih =>
  by_cases h:x=y
  ·subst h;simp[kvs,gm]
  ·have h':¬((x:Int)=(y:Int)):=by omega
   have e:gm (kvs (x::F)) (.inl (y:Int))=gm (kvs F) (.inl (y:Int)):=by simp[kvs,gm,find?_cons,h']
   have hm:(y∈x::F)↔y∈F:=by simp[Ne.symm h]
   rw[e,ih];simp[hm]
theorem tj(F:List Nat)(y:Nat)(h:y∉F):ip (kvs F) (.inl (y:Int)) (.bl true)=kvs (F++[y]):=by
 have e:((kvs F).any fun kv=>decide (kv.1=(.inl (y:Int):Key)))=false:=by rw[eq_false_iff];intro q;obtain⟨p,hp,e⟩:=any_eq_true.mp q;obtain⟨x,hx,rfl⟩:=mem_map.mp hp;have e:=of_decide_eq_true e;have:(x:Int)=y:=Sum.inl.inj e;exact h (by rw[<- ofNat_inj.mp this];exact hx)
 unfold ip;rw[e];simp[kvs]
theorem ur(F:List Nat):(kvs F).length=F.length:=by simp[kvs]
theorem HB(F:List Nat):kK (kvs F)=some (dI F):=by
 induction F with
 | nil=>rfl
 | cons x F ih=>simp only[kvs,dI,map_cons,kK] at ih ⊢;rw[ih];rfl
theorem nA(F:List Nat):(dI F).length=F.length:=by simp[dI]
theorem w6(F:List Nat):F.map nW=(dI F).map W.int:=by simp[dI,nW]
theorem t_(F:List Nat):jb (F.map nW)=some (dI F):=by rw[w6,z_]
theorem Ig{F:List Nat}(h:F.Perm F'):f_ (dI F)=f_ (dI F') :=
 qB ((jN _).trans ((show(dI F).Perm (dI F') from h.map _).trans (jN _).symm)) (qE _) (qE _)
theorem A3{F:List Nat}(h:F.Nodup)(h':F'.Nodup)(e:∀x,x∈F↔x∈F'):F.Perm F':=by rw[perm_iff_count];intro x;rw[h.count,h'.count];simp[e x]
theorem fY:∀{n:Nat} {F:List Nat},F.Nodup->(∀x∈F,x<n)->F.length<=n
 | 0,F,_,hl=>by
  cases F with
  | nil=>simp
  | cons a r=>exact absurd (hl a mem_cons_self) (not_lt_zero _)
 | n+1,F,h,hl=>by
  by_cases hn:n∈F
  ·have h1:=fY (n:=n) (h.erase n) fun x hx=>by
    have hx':=(List.Nodup.mem_erase_iff h).mp hx;have:=hl x hx'.2;have:=hx'.1;omega
   rw[length_erase_of_mem hn] at h1;have:=length_pos_of_mem hn;omega
  ·have h1:=fY (n:=n) h fun x hx=>by
    have:=hl x hx;have:x≠n:=fun e=>hn (e▸hx);omega
   omega
inductive Reach (b:List (List Nat)) (ok:Nat->Prop) (s:Nat):Nat->Prop where
 | refl:Reach b ok s s
 | step {x y:Nat} (h:Reach b ok s x) (hy:y∈b.getD x []) (o:ok y):Reach b ok s y
structure Comp (b:List (List Nat)) (ok:Nat->Prop) (s:Nat) (F:List Nat):Prop where
 nd:F.Nodup
 st:s∈F
 lt:∀x∈F,x<b.length
 cl:∀x∈F,∀y∈b.getD x [],ok y->y∈F
 re:∀x∈F,Reach b ok s x
theorem Comp.mem{b:List (List Nat)}{ok:Nat->Prop}{s:Nat}{F:List Nat}(h:Comp b ok s F)(x:Nat):x∈F↔Reach b ok s x:=by
 refine⟨h.re x,fun r=>?_⟩
 induction r with
 | refl=>exact h.st
 | step _ hy o ih=>exact h.cl _ ih _ hy o
def Bd(b:List (List Nat)):Prop:=∀r∈b,∀x∈r,x<b.length
theorem Bd.get{b:List (List Nat)}(h:Bd b){x:Nat}(hy:y∈b.getD x []):y<b.length:=by
 rw[getD_eq_getElem?_getD] at hy;cases e:b[x]? with
 | none=>rw[e] at hy;simp at hy
 | some r=>rw[e] at hy;exact h r (mem_of_getElem? e) y (by simpa using hy)
structure Row (row:List Nat) (ok:Nat->Prop) (F F':List Nat) (r new:List Nat):Prop where
 app:F'=F++new
 nd:F'.Nodup
 mem:∀y∈new,y∈row/\ok y
 done:∃d,row=d++r/\∀y∈d,ok y->y∈F'
theorem kJ{ce:Ce}{x:W}(h:fz ce x=some xs):aE ce x (nW j)=xs[j]?:=eS h rfl
theorem DT(T:List Nat)(y:Nat):(T.map nW).any (fun z=>aN z (nW y))=decide (y∈T):=by
 induction T with
 | nil=>rfl
 | cons x T ih =>
  rw[map_cons,any_cons,ih]
  by_cases h:x=y
  ·subst h;simp[nW,aN]
  ·have h':¬((x:Int)=(y:Int)):=by omega
   simp[nW,aN,h',Ne.symm h]
theorem DR(T:List Nat):(T.map nW).all (bG 8)=true:=by rw[all_eq_true];intro w hw;obtain⟨x,_,rfl⟩:=mem_map.mp hw;rfl
theorem nz(T:List Int)(n:Nat):(T.map W.int).all (bG n)=true:=by rw[all_eq_true];intro w hw;obtain⟨x,_,rfl⟩:=mem_map.mp hw;cases n<;>rfl
theorem DP{ce:Ce}{x:W}(h:fz ce x=some (T.map nW))(ng:Bool):gc ng ce (nW y) x=some (.bl (if ng then !decide (y∈T) else decide (y∈T))):=by have c:bG 8 (nW y)=true:=rfl;have e:drf ce (nW y)=nW y:=rfl;simp only[gc,h,e,c,DR,Bool.and_self,if_true,DT]
theorem yD(a b:Int):aN (.int a) (.int b)=decide (a=b):=by simp[aN];rfl
theorem ug:∀(l m:List Int),bM (l.map W.int) (m.map W.int)=decide (l=m)
 | [],[]=>by simp[bM]
 | [],_::_=>by simp[bM]
 | _::_,[]=>by simp[bM]
 | a::l,b::m=>by
  simp only[map_cons,bM,yD,ug l m]
  by_cases h1:a=b<;>by_cases h2:l=m<;>simp[h1,h2]
theorem HA(l m:List Int):aN (.lst (l.map W.int)) (.lst (m.map W.int))=decide (l=m):=by simp only[aN,ug]
theorem fJ:(36:Nat)<sizeLine:=by decide
theorem w5{s:Src}{cs:Sl}{e:Sl->M W}{ce:Ce}(hst:s.Stays ce)(P:W->W->Prop):∀(l ys:List W),(∀x∈l,∃y,P x y/\e (some x::cs) ce=some (.ok y ce))->ys.length+l.length<=sizeLine ->
  ∃zs,dS s cs fo e l ys ce=some (.ok (ys++zs) ce)/\PySem.Paired P l zs
 | [],ys,_,_=>⟨[],by simp only[dS,if_pos hst,append_nil],.nil⟩
 | x::r,ys,h,hz=>by
  have hl:ys.length<sizeLine:=by simp only[length_cons] at hz;omega
  obtain⟨y,py,ey⟩:=h x mem_cons_self;obtain⟨zs,ez,pz⟩:=w5 hst P r (ys++[y]) (fun z hz=>h z (mem_cons_of_mem _ hz)) (by simp only[length_append,length_cons,length_nil] at hz ⊢;omega);refine⟨y::zs,?_,.cons py pz⟩;rw[p9 ⟨hst,hl⟩];show az (ret true) _ ce=_;rw[g5 (m:=ret true) rfl];show az (e (some x::cs)) (fun y=>dS s cs fo e r (ys++[y])) ce=_;rw[g5 ey,ez,append_assoc];rfl
theorem DO{e:Sl->M W}{sl:Sl}{ce:Ce}{s:Src}(hi:di sl ce0=some (.ok s ce))(hst:s.Stays ce)(P:W->W->Prop)(h:∀x∈s.items,∃y,P x y/\e (some x::dP js sl) ce=some (.ok y ce))(hz:s.items.length<=sizeLine) :
  ∃zs,eX mk js di fo e sl ce0=mk zs ce/\PySem.Paired P s.items zs:=by
 obtain⟨zs,e1,p⟩:=w5 hst P s.items [] h (by simpa using hz);refine⟨zs,?_,p⟩;show az (di sl) (fun s=>az (dS s (dP js sl) fo e s.items []) mk) ce0=_;rw[g5 hi,g5 e1,nil_append]
theorem z8{s:Src}{cs:Sl}(hst:∀ce,s.Stays ce):∀(l ys:List W) (ce:Ce),ys.length+l.length<=sizeLine ->
  dS s cs fo (dF ak) l ys ce=some (.ok (ys++(List.range l.length).map fun i=>W.cel (ce.length+i)) (ce++List.replicate l.length (C.lst [])))
 | [],ys,ce,_=>by simp[dS,if_pos (hst ce)]
 | x::r,ys,ce,hz=>by
  have hl:ys.length<sizeLine:=by simp only[length_cons] at hz;omega
  have ih:=z8 (s:=s) (cs:=cs) hst r (ys++[W.cel ce.length]) (ce++[C.lst []]) (by simp only[length_append,length_cons,length_nil] at hz ⊢;omega);rw[p9 ⟨hst ce,hl⟩];show az (ret true) _ ce=_;rw[g5 (m:=ret true) rfl];have ex:dF ak (some x::cs) ce=some (.ok (W.cel ce.length) (ce++[C.lst []])):=by simp
  show az (dF ak (some x::cs)) (fun y=>dS s cs fo (dF ak) r (ys++[y])) ce=_;rw[g5 ex,ih];have e1:(List.range (r.length+1)).map (fun i=>W.cel (ce.length+i))=W.cel ce.length::(List.range r.length).map fun i=>W.cel ((ce++[C.lst []]).length+i):=by rw[range_succ_eq_map,map_cons,map_map];congr 1;apply map_congr_left;intro i _;simp only[Function.comp,length_append,length_cons,length_nil];congr 1;omega
  have e2:ce++List.replicate (r.length+1) (C.lst [])=ce++[C.lst []]++List.replicate r.length (C.lst []):=by rw[replicate_succ,append_assoc];rfl
  rw[length_cons,e1,e2,append_assoc];rfl
theorem DN(h:n<=1000):jB [nW n]=some (.rng 0 n):=by
 have h1:(-4611686018427387904:Int)<=(n:Int)/\(n:Int)<4611686018427387904:=by omega
 simp only[jB,nW,if_pos h1,toNat_natCast]
theorem DM{d:Sl->M (List W)}{sl:Sl}{ce:Ce}(hd:d sl ce=some (.ok [nW n] ce'))(h:n<=1000):iQ d sl ce=some (.ok (.rng 0 n) ce'):=by show az (d sl) (fun ws=>look (fun _=>jB ws)) ce=_;rw[g5 hd];show(jB [nW n]).map _=_;rw[DN h];rfl
theorem yC(k:Int)(h:0<n):∃j:Nat,j<n/\k % (n:Int)=j:=by have h1:=emod_nonneg k (b:=(n:Int)) (by omega);have h2:=emod_lt_of_pos k (b:=(n:Int)) (by omega);exact⟨(k % (n:Int)).toNat,by omega,by omega⟩
theorem w4{k:Int}(h:0<n)(e:k % (n:Int)=j):dY (.int k) (.int (n:Int))=some (nW j):=by rw[w8 (by omega),e];rfl
theorem wZ{ce:Ce}{sl:Sl}{w:W}{r:Option (R W)}(h:body (ws.map some++List.replicate (n-ws.length) none) ce=some (.go (.rt w) sl ce'))(hf:fin ce ce' w=r):bO fin n body ws ce=r:=by unfold bO;rw[h];exact hf
theorem Hz{s:Src}{g:DG}{sl:Sl}{ce:Ce}(hst:s.Stays ce):gQ s g body [] sl ce=some (.go .nx sl ce):=by simp only[gQ,if_pos hst]
theorem p8{g:DG}{sl:Sl}{ce:Ce}{src:Src}(hi:di sl ce=some (.ok src ce0)):cD di g body sl ce=gQ src g body src.items sl ce0:=by simp only[cD,cL,hi]
theorem yQ{i:Nat}{sl:Sl}{ce:Ce}{w:W}(h:d sl ce=some (.ok w ce')):bf i d sl ce=some (.go .nx (sl.set i (some w)) ce'):=by simp only[bf,cL,h]
theorem wg{c:Sl->M Bool}{a b:DS}{sl:Sl}{ce:Ce}(h:c sl ce=some (.ok true ce')):bz c a b sl ce=a sl ce':=by simp only[bz,cL,h]
theorem we{c:Sl->M Bool}{a b:DS}{sl:Sl}{ce:Ce}(h:c sl ce=some (.ok false ce')):bz c a b sl ce=b sl ce':=by simp only[bz,cL,h]
theorem uf(n:Nat):(Src.rng 0 n).items=(List.range n).map nW:=by simp only[Src.items,Int.zero_add];rfl
theorem aK(n:Nat):∀l:List Nat,du n (l.map nW)
 | []=>by simp only[map_nil,du]
 | a::r=>by simp only[map_cons,du,nW,bc];exact⟨trivial,aK n r⟩
theorem DL(n:Nat)(b:List (List Nat)):bc n (wB b):=by
 simp only[wB,bc]
 induction b with
 | nil=>simp only[map_nil,du]
 | cons r b ih=>simp only[map_cons,du,wT,bc];exact⟨aK n r,ih⟩
def cG(r:List Nat):List Nat:=(f_ (dI r)).map Int.toNat
theorem oI(r:List Nat):(f_ (dI r)).map W.int=(cG r).map nW:=by unfold cG;rw[map_map];apply map_congr_left;intro x hx;have hx':=(jN (dI r)).subset hx;obtain⟨y,_,rfl⟩:=mem_map.mp hx';show W.int (y:Int)=W.int (((y:Int).toNat:Nat):Int);simp
theorem tZ(r:List Nat)(x:Nat):x∈cG r↔x∈r:=by
 unfold cG;constructor
 ·intro h;obtain⟨z,hz,rfl⟩:=mem_map.mp h;obtain⟨y,hy,rfl⟩:=mem_map.mp ((jN (dI r)).subset hz);simpa using hy
 ·intro h;refine mem_map.mpr ⟨(x:Int),(jN (dI r)).symm.subset (mem_map.mpr ⟨x,h,rfl⟩),by simp⟩
theorem Reach.trans{b:List (List Nat)}{ok:Nat->Prop}{s x:Nat}(h:Reach b ok s x)(h':Reach b ok x y):Reach b ok s y:=by
 induction h' with
 | refl=>exact h
 | step _ hy o ih=>exact .step ih hy o
theorem Reach.okOf{b:List (List Nat)}{ok:Nat->Prop}{s x:Nat}(hs:ok s)(h:Reach b ok s x):ok x:=by
 cases h with
 | refl=>exact hs
 | step _ _ o=>exact o
theorem Reach.symm{b:List (List Nat)}{ok:Nat->Prop}{s x:Nat}(sym:∀i j,j∈b.getD i []->i∈b.getD j [])(hs:ok s)(h:Reach b ok s x):Reach b ok x s:=by
 induction h with
 | refl=>exact .refl
 | step h hy o ih=>exact Reach.trans (.step .refl (sym _ _ hy) (h.okOf hs)) ih
theorem Paired.nth{α β:Type}{P:α->β->Prop}{l:List α}{m:List β}(h:PySem.Paired P l m):l.length=m.length/\∀(i:Nat) (a:α) (b:β),l[i]?=some a->m[i]?=some b->P a b:=by refine⟨length h,fun i a b h1 h2=>?_⟩;obtain⟨b',e,p⟩:=L2.Paired.at2 h i a h1;rw[h2] at e;cases e;exact p
def Run(s:DS)(sl:Sl)(ce:Ce)(Q:O->Prop):Prop:=∃o,s sl ce=some o/\Q o
def Nx(P:Sl->Ce->Prop):O->Prop
 | .go .nx sl ce=>P sl ce
 | .go .ct sl ce=>P sl ce
 | _=>False
def Rt(P:W->Ce->Prop):O->Prop
 | .go (.rt w) _ ce=>P w ce
 | _=>False
def NR(P:Sl->Ce->Prop)(T:W->Ce->Prop):O->Prop
 | .go .nx sl ce=>P sl ce
 | .go .ct sl ce=>P sl ce
 | .go (.rt w) _ ce=>T w ce
 | _=>False
section
variable {s a b:DS} {sl:Sl} {ce:Ce} {Q':O->Prop} {e:Sl->M W} {w x y:W} {i:Nat} {p q:Bool} {ta tb:Sl->M Bool}
theorem Run.mono(h:Run s sl ce Q)(m:∀o,Q o->Q' o):Run s sl ce Q':=by obtain⟨o,e,q⟩:=h;exact⟨o,e,m o q⟩
theorem DK{o:O}(h:s sl ce=some o)(q:Q o):Run s sl ce Q:=⟨o,h,q⟩
theorem fX(q:Q (.go .nx sl ce)):Run bI sl ce Q:=⟨_,rfl,q⟩
theorem oA(h:e sl ce=some (.ok w ce'))(q:Q (.go .nx (sl.set i (some w)) ce')):Run (bf i e) sl ce Q:=⟨_,yQ h,q⟩
theorem bQ(h:e sl ce=some (.ok w ce'))(q:Q (.go (.rt w) sl ce')):Run (a_ e) sl ce Q:=⟨_,by simp only[a_,cL,h],q⟩
theorem jh(h:e sl ce=some (.ok w ce'))(q:Q (.go .nx sl ce')):Run (c7 e) sl ce Q:=⟨_,by simp only[c7,cL,h],q⟩
theorem e8(h:ta sl ce=some (.ok p ce'))(ht:p=true->Run a sl ce' Q)(hf:p=false->Run b sl ce' Q):Run (bz ta a b) sl ce Q:=by
 cases p with
 | true=>obtain⟨o,e,q⟩:=ht rfl;exact⟨o,by rw[wg h];exact e,q⟩
 | false=>obtain⟨o,e,q⟩:=hf rfl;exact⟨o,by rw[we h];exact e,q⟩
theorem iV(h:a sl ce=some (.go .nx sl' ce'))(q:Run b sl' ce' Q):Run (ay a b) sl ce Q:=by obtain⟨o,e,q⟩:=q;exact⟨o,by rw[yF h];exact e,q⟩
theorem bL(h:e sl ce=some (.ok w ce'))(q:Run b (sl.set i (some w)) ce' Q):Run (ay (bf i e) b) sl ce Q:=iV (yQ h) q
theorem pI(h:e sl ce=some (.ok w ce'))(q:Run b sl ce' Q):Run (ay (c7 e) b) sl ce Q:=iV (by simp only[c7,cL,h]) q
theorem dH{c:DS}(h:Run c sl ce Q):Run (ay bI c) sl ce Q:=h
theorem iH{c:DS}(h:Run (a_ e) sl ce Q):Run (ay (a_ e) c) sl ce Q:=by
 obtain⟨o,e',q⟩:=h;refine⟨o,?_,q⟩;simp only[ay];simp only[a_,cL] at e' ⊢;cases h:e sl ce with
 | none=>rw[h] at e';cases e'
 | some r=>rw[h] at e';cases r<;>exact e'
theorem cI{c:DS}(h:ta sl ce=some (.ok p ce'))(ht:p=true->Run (ay a c) sl ce' Q)(hf:p=false->Run (ay b c) sl ce' Q):Run (ay (bz ta a b) c) sl ce Q:=by
 cases p with
 | true=>obtain⟨o,e,q⟩:=ht rfl;exact⟨o,by rw[<- e];simp only[ay,wg h],q⟩
 | false=>obtain⟨o,e,q⟩:=hf rfl;exact⟨o,by rw[<- e];simp only[ay,we h],q⟩
end
section
variable {α:Type} {en:α->W} {src:Src} {g:DG} {b:DS}
theorem qo(xs:List α)(R:List α->Sl->Ce->Prop)(T:W->Ce->Prop)(step:∀d x r sl ce,d++x::r=xs->R d sl ce->src.Stays ce/\∃sl1,g (en x) sl ce=some (sl1,ce)/\Run body sl1 ce (NR (R (d++[x])) T))(hst:∀sl ce,R xs sl ce->src.Stays ce) :
  ∀(r d:List α) (sl:Sl) (ce:Ce),d++r=xs->R d sl ce->Run (gQ src g body (r.map en)) sl ce fun o=>(∃sl' ce',o=.go .nx sl' ce'/\R xs sl' ce')\/∃w sl' ce',o=.go (.rt w) sl' ce'/\T w ce'
 | [],d,sl,ce,e,h=>by
  rw[append_nil] at e;subst e;exact⟨_,Hz (hst _ _ h),.inl ⟨_,_,rfl,h⟩⟩
 | x::r,d,sl,ce,e,h=>by
  obtain⟨hs,sl1,e1,o,e2,q⟩:=step d x r sl ce e h;have go:∀sl2 ce2,R (d++[x]) sl2 ce2->Run (gQ src g body (r.map en)) sl2 ce2 fun o=>(∃sl' ce',o=.go .nx sl' ce'/\R xs sl' ce')\/∃w sl' ce',o=.go (.rt w) sl' ce'/\T w ce':=fun sl2 ce2 h2=>qo xs R T step hst r (d++[x]) sl2 ce2 (by rw[append_assoc];exact e) h2;cases o with
  | ex x c=>exact q.elim
  | go f sl2 ce2 =>
   cases f with
   | nx =>
    obtain⟨o,e3,q3⟩:=go sl2 ce2 q;exact⟨o,by simp only[map_cons,gQ,if_pos hs,e1,e2];exact e3,q3⟩
   | ct =>
    obtain⟨o,e3,q3⟩:=go sl2 ce2 q;exact⟨o,by simp only[map_cons,gQ,if_pos hs,e1,e2];exact e3,q3⟩
   | bk=>exact q.elim
   | rt w=>exact⟨.go (.rt w) sl2 ce2,by simp only[map_cons,gQ,if_pos hs,e1,e2],.inr ⟨w,sl2,ce2,rfl,q⟩⟩
theorem yP{sl:Sl}{ce:Ce}{i:Nat}{xs:List α}(hi:di sl ce=some (.ok src ce0))(hx:src.items=xs.map en)(R:List α->Sl->Ce->Prop)(h0:R [] sl ce0)(step:∀d x r sl ce,d++x::r=xs->x∈xs->R d sl ce->src.Stays ce/\Run body (sl.set i (some (en x))) ce (Nx (R (d++[x]))))(hst:∀sl ce,R xs sl ce->src.Stays ce)(fin:∀sl ce,R xs sl ce->Q (.go .nx sl ce)):Run (cD di (gN i) body) sl ce Q:=by
 obtain⟨o,e,q⟩:=qo (g:=gN i) (body:=body) (en:=en) (src:=src) xs R (fun _ _=>False) (fun d x r sl ce e h=>by
  obtain⟨h1,h2⟩:=step d x r sl ce e (by rw[<- e];simp) h;exact⟨h1,_,rfl,h2.mono fun o q=>by
   cases o with
   | ex x c=>exact q.elim
   | go f sl2 ce2=>cases f<;>first|exact q|exact q.elim⟩) hst xs [] sl ce0 rfl h0
 rcases q with ⟨sl',ce',rfl,h⟩|⟨w,sl',ce',rfl,h⟩
 ·exact⟨_,by rw[p8 hi,hx];exact e,fin _ _ h⟩
 ·exact h.elim
theorem p7{sl:Sl}{ce:Ce}{i:Nat}{xs:List α}(hi:di sl ce=some (.ok src ce0))(hx:src.items=xs.map en)(R:List α->Sl->Ce->Prop)(h0:R [] sl ce0)(step:∀d x r sl ce,d++x::r=xs->x∈xs->R d sl ce->src.Stays ce/\Run body (sl.set i (some (en x))) ce (Nx (R (d++[x]))))(hst:∀sl ce,R xs sl ce->src.Stays ce)(fin:∀sl ce,R xs sl ce->Run b sl ce Q):Run (ay (cD di (gN i) body) b) sl ce Q:=by
 obtain⟨o,e,q⟩:=yP (Q:=fun o=>∃sl' ce',o=.go .nx sl' ce'/\Run b sl' ce' Q) (body:=body) (i:=i) hi hx R h0 step hst fun sl ce h=>⟨sl,ce,rfl,fin sl ce h⟩
 obtain⟨sl',ce',rfl,h⟩:=q;exact iV e h
theorem Ik{σ:Type}{c:Sl->M Bool}{sl:Sl}{ce:Ce}(R:σ->Sl->Ce->Prop)(m:σ->Nat)(s0:σ)(h0:R s0 sl ce)(hm:m s0<fu)(step:∀s sl ce,R s sl ce->∃p,c sl ce=some (.ok p ce)/\(p=true->Run body sl ce (Nx fun sl2 ce2=>∃s2,m s2<m s/\R s2 sl2 ce2))/\(p=false->Q (.go .nx sl ce))):Run (iW c body fu) sl ce Q:=by
 induction fu generalizing s0 sl ce with
 | zero=>exact absurd hm (not_lt_zero _)
 | succ fu ih =>
  obtain⟨p,e,ht,hf⟩:=step s0 sl ce h0;cases p with
  | false=>exact⟨_,by simp only[iW,cL,e],hf rfl⟩
  | true =>
   obtain⟨o,e2,q⟩:=ht rfl;cases o with
   | ex x c=>exact q.elim
   | go f sl2 ce2 =>
    cases f with
    | nx =>
     obtain⟨s2,hs,r⟩:=q;obtain⟨o,e3,q3⟩:=ih s2 r (by omega);exact⟨o,by simp only[iW,cL,e,e2];exact e3,q3⟩
    | ct =>
     obtain⟨s2,hs,r⟩:=q;obtain⟨o,e3,q3⟩:=ih s2 r (by omega);exact⟨o,by simp only[iW,cL,e,e2];exact e3,q3⟩
    | bk=>exact q.elim
    | rt w=>exact q.elim
theorem ET{a b:DS}{sl:Sl}{ce:Ce}(h:Run a sl ce fun o=>∃sl' ce',o=.go .nx sl' ce'/\Run b sl' ce' Q):Run (ay a b) sl ce Q:=by obtain⟨o,e,sl',ce',rfl,q⟩:=h;exact iV e q
end
section
variable {sl:Sl} {ce:Ce} {a b:Sl->M W} {w x y:W} {i:Nat} {p q:Bool} {ta tb:Sl->M Bool} {src:Src}
theorem ah(h:sl[i]?=some (some w)):ae i sl ce=some (.ok w ce):=by simp only[ae,h]
theorem av:dC w sl ce=some (.ok w ce):=rfl
theorem aY{f:W->W->Option W}(ha:a sl ce=some (.ok x c1))(hb:b sl c1=some (.ok y c2))(h:f x y=some w):aF f a b sl ce=some (.ok w c2):=by simp only[aF,az,look,ha,hb,h,map_some]
theorem aM{f:Ce->W->W->Option W}(ha:a sl ce=some (.ok x c1))(hb:b sl c1=some (.ok y c2))(h:f c2 x y=some w):aC f a b sl ce=some (.ok w c2):=by simp only[aC,az,look,ha,hb,h,map_some]
theorem eA{f:W->Option W}(ha:a sl ce=some (.ok x c1))(h:f x=some w):eQ f a sl ce=some (.ok w c1):=by simp only[eQ,az,look,ha,h,map_some]
theorem bp(ha:a sl ce=some (.ok (.bl p) c1)):dB a sl ce=some (.ok p c1):=by simp only[dB,az,look,ha,map_some]
theorem sN(ha:a sl ce=some (.ok x c1))(h:gy c1 x=some p):jD a sl ce=some (.ok p c1):=by simp only[jD,az,look,ha,h,map_some]
theorem kU(ha:ta sl ce=some (.ok p c1))(hb:p=true->tb sl c1=some (.ok q c1)):gX ta tb sl ce=some (.ok (p&&q) c1):=by
 cases p with
 | true=>simp only[gX,az,ha,hb rfl,Bool.true_and]
 | false=>simp only[gX,az,ha,Bool.false_and];rfl
theorem jI(ha:ta sl ce=some (.ok p c1))(hb:p=false->tb sl c1=some (.ok q c1)):gS ta tb sl ce=some (.ok (p||q) c1):=by
 cases p with
 | true=>simp only[gS,az,ha,Bool.true_or];rfl
 | false=>simp only[gS,az,ha,hb rfl,Bool.false_or]
theorem i3(ha:ta sl ce=some (.ok p c1)):fN ta sl ce=some (.ok (!p) c1):=by simp only[fN,az,ha];rfl
theorem aw:ak sl ce=some (.ok [] ce):=rfl
theorem ao(ha:a sl ce=some (.ok x c1))(hr:ra sl c1=some (.ok xs c2)):af a ra sl ce=some (.ok (x::xs) c2):=by simp only[af,az,ha,hr];rfl
theorem bX{f:List W->M W}(hr:ra sl ce=some (.ok ws c1))(h:f ws c1=some (.ok w c2)):bg f ra sl ce=some (.ok w c2):=by simp only[bg,az,hr,h]
theorem bE{f:List W->M W}(hr:ra sl ce=some (.ok ws c1))(hl:ws.length=n)(h:f ws c1=some (.ok w c2)):aP n f ra sl ce=some (.ok w c2):=by simp only[aP,az,hr,if_pos hl,h]
theorem eD(hr:ra sl ce=some (.ok ws c1))(hl:ws.length<=sizeLine):bK ra sl ce=some (.ok (.tup ws) c1):=by simp only[bK,az,hr,gH,if_pos hl]
theorem gD(hr:ra sl ce=some (.ok ws c1))(hl:ws.length<=sizeLine):eJ ra sl ce=some (.ok (.lst ws) c1):=by simp only[eJ,az,hr,gH,if_pos hl]
theorem gZ(hr:ra sl ce=some (.ok ws c1))(hl:ws.length<=sizeLine):dF ra sl ce=some (.ok (.cel c1.length) (c1++[.lst ws])):=by simp only[dF,az,hr,i8,if_pos hl]
theorem ES:mD sl ce=some (.ok (.cel ce.length) (ce++[.dct []])):=by simp[mD,i8]
theorem iC{f:W->List W->M W}(ha:a sl ce=some (.ok x c1))(hl:cH c1 x=some ys)(hr:ra sl c1=some (.ok ws c2))(h:f x ws c2=some (.ok w c3)):dM f a ra sl ce=some (.ok w c3):=by simp only[dM,az,ha,look,jA,hl,hr,h,map_some]
theorem wY{f:W->List W->M W}(ha:a sl ce=some (.ok x c1))(hl:cH c1 x=some ys)(h:f x [] c1=some (.ok w c3)):mn f a sl ce=some (.ok w c3):=by simp only[mn,az,ha,look,jA,hl,h,map_some]
theorem pH(ha:a sl ce=some (.ok x c1))(h:gR c1 x=some src):dA a sl ce=some (.ok src c1):=by simp only[dA,az,ha,look,h,map_some]
theorem wc(ha:a sl ce=some (.ok x c1))(h:rA x=some src):iP a sl ce=some (.ok src c1):=by simp only[iP,az,ha,look,h,map_some]
theorem sM(ha:ra sl ce=some (.ok [nW n] c1))(h:n<=1000):iQ ra sl ce=some (.ok (.rng 0 n) c1):=DM ha h
theorem wb{α:Type}{c:Sl->M Bool}{e:Sl->M W}{en:α->W}{zs:List α}{t:α->Bool}{g:α->W}(hi:di sl ce=some (.ok src c1))(hx:src.items=zs.map en)(hst:src.Stays c1)(hc:∀x∈zs,c (some (en x)::dP js sl) c1=some (.ok (t x) c1))(he:∀x∈zs,t x=true->e (some (en x)::dP js sl) c1=some (.ok (g x) c1))(hz:zs.length<=sizeLine)(hm:mk ((zs.filter t).map g) c1=some (.ok w c2)):eX mk js di c e sl ce=some (.ok w c2):=by
 have key:∀(l:List α) (ys:List W),(∀x∈l,x∈zs)->ys.length+l.length<=sizeLine->dS src (dP js sl) c e (l.map en) ys c1=some (.ok (ys++(l.filter t).map g) c1):=by
  intro l
  induction l with
  | nil=>intro ys _ _;simp only[map_nil,dS,if_pos hst,filter_nil,append_nil]
  | cons x r ih =>
   intro ys hl hz;simp only[length_cons] at hz;rw[map_cons,p9 ⟨hst,by omega⟩,g5 (hc x (hl x mem_cons_self))];cases ht:t x with
   | true =>
    show az (e (some (en x)::dP js sl)) (fun y=>dS src (dP js sl) c e (r.map en) (ys++[y])) c1=_;rw[g5 (he x (hl x mem_cons_self) ht),ih _ (fun y hy=>hl y (mem_cons_of_mem _ hy)) (by simp only[length_append,length_cons,length_nil];omega),filter_cons_of_pos ht,map_cons,append_assoc];rfl
   | false =>
    show dS src (dP js sl) c e (r.map en) ys c1=_;rw[ih _ (fun y hy=>hl y (mem_cons_of_mem _ hy)) (by omega),filter_cons_of_neg (by simp[ht])]
 show az (di sl) (fun s=>az (dS s (dP js sl) c e s.items []) mk) ce=_;rw[g5 hi,hx,g5 (key zs [] (fun _ h=>h) (by simpa using hz)),nil_append];exact hm
theorem nc(h:xs.length<=sizeLine):bW xs ce=some (.ok (.lst xs) ce):=if_pos h
theorem lU(h:xs.length<=sizeLine):fS xs ce=some (.ok (.cel ce.length) (ce++[.lst xs])):=if_pos h
theorem DJ{o i v:Sl->M W}{kvs:List (Key×W)}(h1:v sl ce=some (.ok w c1))(h2:o sl c1=some (.ok ow c2))(h3:i sl c2=some (.ok iw c3))(h4:fK iw=some key)(h5:kC c3 ow=some (k,kvs))(h6:kvs.length<sizeLine)(q:Q (.go .nx sl (c3.set k (.dct (ip kvs key w))))):Run (kG o i v) sl ce Q:=⟨_,w9 h1 h2 h3 h4 h5 h6,q⟩
theorem ER{o i v:Sl->M W}{s:DS}{kvs:List (Key×W)}(h1:v sl ce=some (.ok w c1))(h2:o sl c1=some (.ok ow c2))(h3:i sl c2=some (.ok iw c3))(h4:fK iw=some key)(h5:kC c3 ow=some (k,kvs))(h6:kvs.length<sizeLine)(q:Run s sl (c3.set k (.dct (ip kvs key w))) Q):Run (ay (kG o i v) s) sl ce Q:=iV (w9 h1 h2 h3 h4 h5 h6) q
end
structure Own (b ce:Ce) (l:List (Nat×C)):Prop where
 cut:∃t,ce=b++t
 get:∀p∈l,ce[p.1]?=some p.2
 ge:∀p∈l,b.length<=p.1
 nd:(l.map Prod.fst).Nodup
namespace Own
variable {b ce:Ce} {l:List (Nat×C)} {k1 k2 k3:Nat} {c c' q1 q2 q3:C}
theorem start(b:Ce):Own b b []:=⟨⟨[],by simp⟩,by simp,by simp,by simp⟩
theorem alloc(h:Own b ce l)(c:C):Own b (ce++[c]) ((ce.length,c)::l):=by
 obtain⟨⟨t,e⟩,h2,h3,h4⟩:=h;have lt:∀p∈l,p.1<ce.length:=fun p hp=>by
  have:=h2 p hp;exact(List.getElem?_eq_some_iff.mp this).1
 refine⟨⟨t++[c],by rw[e,append_assoc]⟩,fun p hp=>?_,fun p hp=>?_,?_⟩
 ·rcases mem_cons.mp hp with rfl|hp
  ·exact gr _ _
  ·rw[getElem?_append_left (lt p hp)];exact h2 p hp
 ·rcases mem_cons.mp hp with rfl|hp
  ·simp[e]
  ·exact h3 p hp
 ·simp only[map_cons,nodup_cons];exact⟨fun q=>by obtain⟨p,hp,e⟩:=mem_map.mp q;have:=lt p hp;omega,h4⟩
theorem perm{l':List (Nat×C)}(h:Own b ce l)(p:l.Perm l'):Own b ce l' :=
 ⟨h.cut,fun q hq=>h.get q (p.symm.subset hq),fun q hq=>h.ge q (p.symm.subset hq),(p.map _).nodup h.nd⟩
theorem g0(h:Own b ce ((k,c)::l)):ce[k]?=some c:=h.get _ mem_cons_self
theorem g1(h:Own b ce ((k1,q1)::(k,c)::l)):ce[k]?=some c:=h.get (k,c) (by simp)
theorem set0(h:Own b ce ((k,c)::l))(c':C):Own b (ce.set k c') ((k,c')::l):=by
 have hk:k<ce.length:=(List.getElem?_eq_some_iff.mp h.g0).1;obtain⟨⟨t,e⟩,h2,h3,h4⟩:=h;have hb:=h3 (k,c) mem_cons_self;have hn:∀p∈l,p.1≠k:=fun p hp q=>(nodup_cons.mp h4).1 (mem_map.mpr ⟨p,hp,q⟩);refine⟨⟨t.set (k-b.length) c',?_⟩,fun p hp=>?_,fun p hp=>?_,h4⟩
 ·rw[e,set_append_right _ _ hb]
 ·rcases mem_cons.mp hp with rfl|hp
  ·simp[hk]
  ·rw[getElem?_set_ne (Ne.symm (hn p hp))];exact h2 p (mem_cons_of_mem _ hp)
 ·rcases mem_cons.mp hp with rfl|hp
  ·exact hb
  ·exact h3 p (mem_cons_of_mem _ hp)
theorem set1(h:Own b ce ((k1,q1)::(k,c)::l))(c':C):Own b (ce.set k c') ((k1,q1)::(k,c')::l):=((h.perm (.swap _ _ _)).set0 c').perm (.swap _ _ _)
theorem finC(h:Own b ce l){w:W}(hb:bc b.length w):finC b ce w=some (.ok w b):=by obtain⟨t,rfl⟩:=h.cut;exact qp hb
theorem finO(h:Own b ce ((k,c)::l))(hb:e7 b.length c):finO b ce (.cel k)=some (.ok (.cel b.length) (b++[c])):=by have g:=h.g0;have ge:=h.ge _ mem_cons_self;obtain⟨t,rfl⟩:=h.cut;obtain⟨j,hj⟩:=exists_eq_add_of_le ge;have hj':k=b.length+j:=hj;subst hj';exact Hc (by rw[<- o7 b t j];exact g) hb
end Own
theorem n_{ce:Ce}{r:Option (R W)}(h:Run body (ws.map some++List.replicate (n-ws.length) none) ce (Rt fun w ce'=>fin ce ce' w=r)):bO fin n body ws ce=r:=by
 obtain⟨o,e,q⟩:=h;cases o with
 | ex x c=>exact q.elim
 | go f sl c=>cases f with
  | rt w=>exact wZ e q
  | nx=>exact q.elim
  | bk=>exact q.elim
  | ct=>exact q.elim
section
variable {ce:Ce} {b:List (List Nat)} {is:List Int}
abbrev wS(is:List Int):W:=.tup (is.map W.int)
abbrev wL(l:List Nat):W:=.lst (l.map nW)
abbrev sW(ns:List Int):W:=.lst (ns.map W.int)
theorem sL(h:p<b.length):aE ce (wB b) (nW p)=some (wT (b.getD p [])):=by rw[kJ (xs:=b.map wT) rfl,getElem?_map,getD_eq_getElem?_getD,getElem?_eq_getElem h];rfl
theorem sJ(h:p<l.length):aE ce (wL l) (nW p)=some (nW (l.getD p 0)):=by rw[kJ (xs:=l.map nW) rfl,getElem?_map,getD_eq_getElem?_getD,getElem?_eq_getElem h];rfl
theorem fV(h:p<is.length):aE ce (wS is) (nW p)=some (.int (is.getD p 0)):=by rw[kJ (xs:=is.map W.int) rfl,getElem?_map,getD_eq_getElem?_getD,getElem?_eq_getElem h];rfl
theorem wX(g:ce[k]?=some (.lst (l.map nW)))(h:p<l.length):aE ce (.cel k) (nW p)=some (nW (l.getD p 0)):=by rw[kJ (oh g),getElem?_map,getD_eq_getElem?_getD,getElem?_eq_getElem h];rfl
theorem EO(g:ce[k]?=some (.lst (l.map nW))):cg [.cel k] ce=some (.ok (nW l.length) ce):=by simp only[cg,oh g,length_map];rfl
theorem oy:cg [wL l] ce=some (.ok (nW l.length) ce):=by simp[cg];rfl
theorem kT:cg [wB b] ce=some (.ok (nW b.length) ce):=by simp[cg,wB];rfl
theorem DI(g:ce[k]?=some (.lst (l.map nW))):gc ng ce (nW p) (.cel k)=some (.bl (if ng then !decide (p∈l) else decide (p∈l))):=DP (oh g) ng
theorem Fq{F:List Nat}(g:ce[k]?=some (.dct (kvs F))):iR ng ce (nW p) (.cel k)=some (.bl (if ng then !decide (p∈F) else decide (p∈F))):=by have ky:fK (nW p)=some (.inl (p:Int)):=rfl;simp only[iR,ky,sC g,EU]
theorem j9{y:W}(g:ce[k]?=some (.lst xs))(h:xs.length<sizeLine):dO (.cel k) [y] ce=some (.ok .non (ce.set k (.lst (xs++[y])))):=vR (mW g) h
end
def ins(F:List Nat)(y:Nat):List Nat:=if y∈F then F else F++[y]
theorem eO{F:List Nat}{x:Nat}:x∈ins F y↔x∈F\/x=y:=by
 unfold ins;split
 ·rename_i h;exact⟨.inl,fun q=>q.elim id fun e=>e▸h⟩
 ·simp
theorem wW{F:List Nat}(h:F.Nodup):(ins F y).Nodup:=by
 unfold ins;split
 ·exact h
 ·rename_i hn;rw[nodup_append];exact⟨h,by simp,fun a ha b hb=>by rw[mem_singleton] at hb;subst hb;intro q;subst q;exact hn ha⟩
theorem yO(F:List Nat)(y:Nat):ip (kvs F) (.inl (y:Int)) (.bl true)=kvs (ins F y):=by
 unfold ins;split
 ·rename_i h;have e:((kvs F).any fun kv=>decide (kv.1=(.inl (y:Int):Key)))=true:=any_eq_true.mpr ⟨(.inl (y:Int),.bl true),mem_map.mpr ⟨y,h,rfl⟩,by simp⟩;unfold ip;rw[e];simp only[if_true]
  conv=>rhs;rw[<- map_id (kvs F)]
  apply map_congr_left;intro p hp;obtain⟨x,hx,rfl⟩:=mem_map.mp hp;simp only[id];split
  ·rename_i q;simp at q;rw[q]
  ·rfl
 ·rename_i h;exact tj F y h
theorem qm{F:List Nat}(nd:F.Nodup)(lt:∀x∈F,x<n):cG F=(List.range n).filter fun x=>decide (x∈F):=by
 have h:f_ (dI F)=dI ((List.range n).filter fun x=>decide (x∈F)):=by
  refine qB ((jN _).trans ?_) (qE _) ?_
  ·refine List.Perm.map _ (A3 nd (List.Pairwise.filter _ nodup_range) fun x=>?_);simp only[mem_filter,mem_range,decide_eq_true_eq];exact⟨fun h=>⟨lt x h,h⟩,fun h=>h.2⟩
  ·unfold dI;rw[pairwise_map];exact(List.Pairwise.filter _ pairwise_lt_range).imp fun h=>by omega
 unfold cG;rw[h];unfold dI;rw[map_map]
 conv=>rhs;rw[<- map_id (List.filter _ _)]
 apply map_congr_left;intro x _;simp
theorem yX{ce:Ce}{F:List Nat}(g:ce[k]?=some (.dct (kvs F)))(h:F.length<64):fE mk [.cel k] ce=mk ((cG F).map nW) ce:=by
 have l:cH ce (.cel k)=none:=by simp only[cH,g]
 have g':mq ce (.cel k)=some (kvs F):=by simp only[mq,g]
 simp only[fE,l,g',HB,nA,if_pos h,oI]
theorem Hy{ce:Ce}(g:ce[k]?=some (.lst (l.map nW)))(h:l.length<64):fE mk [.cel k] ce=mk ((cG l).map nW) ce:=by simp only[fE,ff g,t_,nA,if_pos h,oI]
inductive aZ (ce:Ce):W->List W->Prop where
 | fr (xs:List W):aZ ce (.lst xs) xs
 | cl {k:Nat} {xs:List W} (h:ce[k]?=some (.lst xs)):aZ ce (.cel k) xs
namespace aZ
variable {ce:Ce} {w:W}
theorem drf(h:aZ ce w xs):drf ce w=.lst xs:=by
 cases h with
 | fr=>rfl
 | cl h=>simp only[VS.drf,h]
theorem ty(h:aZ ce w xs):i6 ce w=some "list" := by
 cases h with
 | fr=>rfl
 | cl h=>simp only[i6,h]
theorem src(h:aZ ce w xs):∃s,gR ce w=some s/\s.items=xs/\s.Stays ce:=by
 cases h with
 | fr=>exact⟨.lst xs,rfl,rfl,trivial⟩
 | cl h=>exact⟨.cell _ xs,by simp only[gR,h],rfl,h⟩
theorem isL(h:aZ ce w xs):iz [w,.ty "list"] ce=some (.ok (.bl true) ce):=by simp only[iz,h.ty];rfl
theorem len(h:aZ ce w xs):cg [w] ce=some (.ok (nW xs.length) ce):=by
 cases h with
 | fr=>rfl
 | cl h=>simp only[cg,oh h];rfl
theorem eqI{l:List Int}(h:aZ ce w (l.map W.int))(h':aZ ce w' (m.map W.int))(ng:Bool):c6 ng ce w w'=some (.bl (if ng then !decide (l=m) else decide (l=m))):=by have c1:bG 8 (.lst (l.map W.int))=true:=nz l 7;have c2:bG 8 (.lst (m.map W.int))=true:=nz m 7;simp only[c6,h.drf,h'.drf,c1,c2,HA,Bool.and_self,if_true]
theorem eqN{m:List Nat}(h:aZ ce w (l.map nW))(h':aZ ce w' (m.map nW))(ng:Bool):c6 ng ce w w'=some (.bl (if ng then !decide (l=m) else decide (l=m))):=by
 rw[w6] at h h';rw[h.eqI h' ng];have inj:(dI l=dI m)↔l=m:=by unfold dI;exact⟨fun h=>by simpa using List.map_inj_right (f:=fun(x:Nat)=>(x:Int)) (fun x y h=>by have h:(x:Int)=(y:Int):=h;omega) |>.mp h,fun h=>by rw[h]⟩
 simp only[inj]
end aZ
theorem tY{ce:Ce}{w:W}(h:aZ ce w xs)(hz:xs.length<=sizeLine):gu [w] ce=some (.ok (.tup xs) ce):=by
 cases h with
 | fr=>exact if_pos hz
 | cl h=>simp only[gu,ff h];exact if_pos hz
theorem yN{ce:Ce}{w:W}(h:fz ce w=some xs):my mk [w] ce=mk xs ce:=by simp only[my,h]
def j5(di:Sl->M Src)(sl:Sl)(ce c1:Ce)(xs:List W):Prop:=∃s,di sl ce=some (.ok s c1)/\s.items=xs/\s.Stays c1
def bP(di:Sl->M Src)(sl:Sl)(ce c1:Ce)(xs:List W):Prop:=∃s,di sl ce=some (.ok s c1)/\s.items=xs/\∀c,s.Stays c
section
variable {sl:Sl} {ce:Ce} {a:Sl->M W} {w:W}
theorem bP.is(h:bP di sl ce c1 xs):j5 di sl ce c1 xs:=by obtain⟨s,h1,h2,h3⟩:=h;exact⟨s,h1,h2,h3 _⟩
theorem ja(h:a sl ce=some (.ok (.lst xs) c1)):bP (dA a) sl ce c1 xs:=⟨.lst xs,pH h rfl,rfl,fun _=>trivial⟩
theorem n6(h:a sl ce=some (.ok (.tup xs) c1)):bP (iP a) sl ce c1 xs:=⟨.tup xs,wc h rfl,rfl,fun _=>trivial⟩
theorem mV(h:a sl ce=some (.ok (wT l) c1)):bP (iP a) sl ce c1 (l.map nW):=n6 h
theorem kI(h:ra sl ce=some (.ok [nW n] c1))(hn:n<=1000):bP (iQ ra) sl ce c1 ((List.range n).map nW):=⟨.rng 0 n,sM h hn,uf n,fun _=>trivial⟩
theorem lJ(h:a sl ce=some (.ok w c1))(hw:aZ c1 w xs):j5 (dA a) sl ce c1 xs:=by obtain⟨s,h1,h2,h3⟩:=hw.src;exact⟨s,pH h h1,h2,h3⟩
variable {α:Type} {en:α->W} {zs:List α} {t:α->Bool} {g:α->W} {c:Sl->M Bool} {e:Sl->M W}
theorem uW(hi:j5 di sl ce c1 (zs.map en))(hz:zs.length<=sizeLine)(hc:∀x∈zs,c (some (en x)::dP js sl) c1=some (.ok (t x) c1))(he:∀x∈zs,t x=true->e (some (en x)::dP js sl) c1=some (.ok (g x) c1)) :
  eX bW js di c e sl ce=some (.ok (.lst ((zs.filter t).map g)) c1):=by
 obtain⟨s,h1,h2,h3⟩:=hi;exact wb h1 h2 h3 hc he hz (nc (by rw[length_map];exact le_trans (length_filter_le _ _) hz))
theorem uX(hi:j5 di sl ce c1 (zs.map en))(hz:zs.length<=sizeLine)(hc:∀x∈zs,c (some (en x)::dP js sl) c1=some (.ok (t x) c1))(he:∀x∈zs,t x=true->e (some (en x)::dP js sl) c1=some (.ok (g x) c1)) :
  eX fS js di c e sl ce=some (.ok (.cel c1.length) (c1++[.lst ((zs.filter t).map g)])):=by
 obtain⟨s,h1,h2,h3⟩:=hi;exact wb h1 h2 h3 hc he hz (lU (by rw[length_map];exact le_trans (length_filter_le _ _) hz))
theorem yW(zs:List α):zs.filter (fun _=>true)=zs:=filter_eq_self.mpr fun _ _=>rfl
theorem rH(hi:j5 di sl ce c1 (zs.map en))(hz:zs.length<=sizeLine)(he:∀x∈zs,e (some (en x)::dP js sl) c1=some (.ok (g x) c1)) :
  eX bW js di fo e sl ce=some (.ok (.lst (zs.map g)) c1):=by
 have h:=uW (t:=fun _=>true) (js:=js) hi hz (c:=fo) (fun _ _=>rfl) (fun x hx _=>he x hx);rwa [yW] at h
theorem vz(hi:j5 di sl ce c1 (zs.map en))(hz:zs.length<=sizeLine)(he:∀x∈zs,e (some (en x)::dP js sl) c1=some (.ok (g x) c1)) :
  eX fS js di fo e sl ce=some (.ok (.cel c1.length) (c1++[.lst (zs.map g)])):=by
 have h:=uX (t:=fun _=>true) (js:=js) hi hz (c:=fo) (fun _ _=>rfl) (fun x hx _=>he x hx);rwa [yW] at h
theorem wa{f:α->Int}(hi:j5 di sl ce c1 (zs.map en))(hz:zs.length<=sizeLine)(he:∀x∈zs,e (some (en x)::dP js sl) c1=some (.ok (.int (f x)) c1)):eX bW js di fo e sl ce=some (.ok (sW (zs.map f)) c1):=by rw[rH hi hz he,sW,map_map];rfl
theorem o6(hi:j5 di sl ce c1 (zs.map en))(hz:zs.length<=sizeLine)(hc:∀x∈zs,c (some (en x)::dP js sl) c1=some (.ok (t x) c1)):eX bW js di c (ae 0) sl ce=some (.ok (.lst ((zs.filter t).map en)) c1) :=
 uW hi hz hc fun _ _ _=>rfl
theorem vt(hi:j5 di sl ce c1 (zs.map en))(hz:zs.length<=sizeLine)(hc:∀x∈zs,c (some (en x)::dP js sl) c1=some (.ok (t x) c1)):eX fS js di c (ae 0) sl ce=some (.ok (.cel c1.length) (c1++[.lst ((zs.filter t).map en)])) :=
 uX hi hz hc fun _ _ _=>rfl
theorem nv{i:Nat}(hi:bP di sl ce c1 (zs.map en))(R:List α->Sl->Ce->Prop)(h0:R [] sl c1)(step:∀d x r sl ce,d++x::r=zs->x∈zs->R d sl ce->Run body (sl.set i (some (en x))) ce (Nx (R (d++[x]))))(fin:∀sl ce,R zs sl ce->Q (.go .nx sl ce)):Run (cD di (gN i) body) sl ce Q:=by obtain⟨s,h1,h2,h3⟩:=hi;exact yP h1 h2 R h0 (fun d x r sl ce e m h=>⟨h3 _,step d x r sl ce e m h⟩) (fun _ _ _=>h3 _) fin
theorem hJ{b:DS}{i:Nat}(hi:bP di sl ce c1 (zs.map en))(R:List α->Sl->Ce->Prop)(h0:R [] sl c1)(step:∀d x r sl ce,d++x::r=zs->x∈zs->R d sl ce->Run body (sl.set i (some (en x))) ce (Nx (R (d++[x]))))(fin:∀sl ce,R zs sl ce->Run b sl ce Q):Run (ay (cD di (gN i) body) b) sl ce Q:=by obtain⟨s,h1,h2,h3⟩:=hi;exact p7 h1 h2 R h0 (fun d x r sl ce e m h=>⟨h3 _,step d x r sl ce e m h⟩) (fun _ _ _=>h3 _) fin
end
theorem xQ(ce:Ce)(x y:Int)(ng:Bool):c6 ng ce (.int x) (.int y)=some (.bl (if ng then !decide (x=y) else decide (x=y))):=by have d1:drf ce (.int x)=.int x:=rfl;have d2:drf ce (.int y)=.int y:=rfl;have c:∀i:Int,bG 8 (.int i)=true:=fun _=>rfl;simp only[c6,d1,d2,c,Bool.and_self,if_true,yD]
theorem dE{ce:Ce}{w:W}{c':Ce}(sl:Sl)(e:ws.map some++List.replicate (n-ws.length) none=sl)(h:Run body sl ce (Rt fun v ce'=>fin ce ce' v=some (.ok w c'))):bO fin n body ws ce=some (.ok w c'):=by subst e;exact n_ h
section
variable {ce:Ce} {i j:Int} {w:W}
theorem kr:c6 false ce (.int i) (.int j)=some (.bl (decide (i=j))):=xQ _ _ _ _
theorem Bz:c6 true ce (.int i) (.int j)=some (.bl (!decide (i=j))):=xQ _ _ _ _
theorem vq(g:ce[k]?=some (.lst (l.map nW))):gc true ce (nW p) (.cel k)=some (.bl (!decide (p∈l))):=DI g
theorem CM(g:ce[k]?=some (.dct (kvs l))):iR true ce (nW p) (.cel k)=some (.bl (!decide (p∈l))):=Fq g
end
section
variable {x y:W} {i j:Int} {ce:Ce}
theorem m_(hx:x=.int i)(hy:y=.int j):cu x y=some (.int (i+j)):=by subst hx;subst hy;rfl
theorem tf(hx:x=.int i)(hy:y=.int j):fT x y=some (.int (i-j)):=by subst hx;subst hy;rfl
theorem lN(hx:x=.int i)(hy:y=.int j):iN x y=some (.bl (decide (i<j))):=by subst hx;subst hy;rfl
theorem sj(hx:x=.int i)(hy:y=.int j):iO x y=some (.bl (decide (j<i))):=by subst hx;subst hy;rfl
theorem gY(hx:x=.int i)(hy:y=.int j):dn x y=some (.bl (decide (i=j))):=by subst hx;subst hy;rfl
theorem s_(hx:x=.int i)(hy:y=.int j):jZ x y=some (.bl (!decide (i=j))):=by subst hx;subst hy;rfl
theorem p6(hx:x=.int i)(hy:y=.int j)(h:0<j):dY x y=some (.int (i % j)):=by subst hx;subst hy;exact w8 h
theorem xP(hx:x=.int i)(hy:y=.int j)(h:0<j/\j<1073741824):mv x y=some (.int (i / j)):=by subst hx;subst hy;exact DV h
theorem gA(hx:x=.int i)(hy:y=.int j)(h:cU i j):ee x y=some (.int (i*j)):=by subst hx;subst hy;exact Dq h
theorem DH(hx:x=.int i):fK x=some (.inl i):=by subst hx;rfl
theorem vp:iz [nW n,.ty "int"] ce=some (.ok (.bl true) ce):=rfl
theorem v_:iz [nW n,.ty "bool"] ce=some (.ok (.bl false) ce):=rfl
theorem Hx(h:l.length<64):fE mk [wL l] ce=mk ((cG l).map nW) ce:=by simp only[fE,DU,t_,nA,if_pos h,oI]
end
section
variable {ce:Ce} {w:W}
theorem pG:c6 false ce (.lst (l.map nW)) (.lst [])=some (.bl (decide (l=[]))):=(aZ.fr _).eqN (m:=[]) (.fr _) false
end
section
variable {ce:Ce} {sl:Sl} {a:Sl->M W} {α:Type} {en:α->W} {zs:List α}
theorem ql(l:List Nat):(cG l).length=l.length:=by rw[cG,length_map,(jN _).length_eq,nA]
theorem z7{σ:Type}{c:Sl->M Bool}{b:DS}(R:σ->Sl->Ce->Prop)(m:σ->Nat)(s0:σ)(h0:R s0 sl ce)(hm:m s0<fu)(step:∀s sl ce,R s sl ce->∃p,c sl ce=some (.ok p ce)/\(p=true->Run body sl ce (Nx fun sl2 ce2=>∃s2,m s2<m s/\R s2 sl2 ce2))/\(p=false->Run b sl ce Q)):Run (ay (iW c body fu) b) sl ce Q :=
 ET (Ik R m s0 h0 hm fun s sl ce h=>by
  obtain⟨p,e,ht,hf⟩:=step s sl ce h;exact⟨p,e,ht,fun q=>⟨sl,ce,rfl,hf q⟩⟩)
end
theorem p5(n:Nat):∀cs:List (List Nat),du n (cs.map wL)
 | []=>by simp only[map_nil,du]
 | a::r=>by simp only[map_cons,du,wL,bc];exact⟨aK n a,p5 n r⟩
section
variable {ce:Ce} {b:List (List Nat)}
theorem rY(g:ce[k]?=some (.lst (m.map W.int)))(h:m.length<=sizeLine):gu [.cel k] ce=some (.ok (wS m) ce):=tY (.cl g) (by rw[length_map];exact h)
theorem v9(h:b.length<=sizeLine):gu [.lst (b.map wT)] ce=some (.ok (wB b) ce):=tY (.fr _) (by rw[length_map];exact h)
theorem v8(h:m.length<=sizeLine):gu [sW m] ce=some (.ok (wS m) ce):=tY (.fr _) (by rw[length_map];exact h)
end
section
variable {ce:Ce} {l':List Nat}
end
def DF(K:Frag):R2:=fun x y H Q=>∃a b xs ys,x=.ref a/\y=.ref b/\dX K H a xs/\dX K H b ys/\xs.length+ys.length<=sizeLine /\
 (xs=[]->Q (.ref b) H)/\(ys=[]->Q (.ref a) H)/\(∀p,H p=none->Q (.ref p) (upd H p (.tup (xs++ys))))
theorem Hw:dN X (binaryOp .Add) (DF X.K):=by
 intro pins s σ H x y v u Q I rx ry h;obtain⟨a,b,xs,ys,rfl,rfl,ha,hb,hz,q0,q1,q2⟩:=h
 by_cases hx:xs=[]
 ·cases rx;cases ry;obtain⟨its,r1,p1,_⟩:=I.tuple ha;obtain⟨its2,r2,p2,_⟩:=I.tuple hb;obtain⟨⟨cls,dd,data,sl⟩,ho,hc,n,hd⟩:=id p1;obtain⟨⟨cls2,dd2,data2,sl2⟩,ho2,hc2,n2,hd2⟩:=id p2;simp only at hc hd hc2 hd2;subst hc hd hc2 hd2;have he:its=[]:=r1.nil_iff.mpr hx;exact concat_meets ⟨_,ho,rfl⟩ ⟨_,ho2,rfl⟩ noFill_tuple_add seq_tuple_add slot_tuple_add entry_tuple_add (args_tuple_add_2 _ _)
   (tuple_addW0 a b its.toArray its2.toArray n n2 dd dd2 sl sl2 (by simp[he])) ⟨ho,ho2,⟨.ref b,H,I,rfl,q0 hx⟩⟩
 ·exact Gk pins s σ H _ _ v u Q I rx ry ⟨a,b,xs,ys,rfl,rfl,ha,hb,hx,hz,q1,fun _=>q2⟩
section
variable {E:XK} {a b:Expr}
def rX(x y:W):M W:=fun ce=>match x,y with
 | .tup xs,.tup ys=>if xs.length+ys.length<=sizeLine then some (.ok (.tup (xs++ys)) ce) else none
 | _,_=>none
def iT(a b:Sl->M W):Sl->M W:=fun sl=>az (a sl) fun x=>az (b sl) fun y=>rX x y
theorem m9(ha:PE X a (ax G E da))(hb:PE X b (ax G E db)):PE X (.BinOp a .Add b pos) (ax G E (iT da db)):=by
 refine PE.imp (pw Hw ha hb) fun σ H Q h=>oq h fun F as sl ce H2 x y wx wy S rx ry P=>?_;revert P;unfold rX;cases wx<;>first|exact fun P=>P.elim|skip
 rename_i xs;cases wy<;>first|exact fun P=>P.elim|skip
 rename_i ys;dsimp only;split
 ·rename_i hl;intro P;simp only[Rep] at rx ry;obtain⟨p,vs,rfl,h1,r1⟩:=rx;obtain⟨p',us,rfl,h2,r2⟩:=ry;have P':aO G E Rep F as σ sl Q (gH (.tup (xs++ys)) (xs++ys).length ce):=by have:gH (.tup (xs++ys)) (xs++ys).length ce=some (.ok (.tup (xs++ys)) ce):=if_pos (by rw[length_append];exact hl);rw[this];exact P
  refine⟨p,p',vs,us,rfl,rfl,.inl (.inl (S.st.sub _ _ h1)),.inl (.inl (S.st.sub _ _ h2)),by rw[r1.length,r2.length];exact hl,fun e=>?_,fun e=>?_,(qa S (r1.append r2) P').2⟩
  ·have hx:xs=[]:=length_eq_zero_iff.mp (by rw[<- r1.length,e];rfl);subst hx;exact P.done S (by simp only[Rep,nil_append];exact⟨p',us,rfl,h2,r2⟩)
  ·have hx:ys=[]:=length_eq_zero_iff.mp (by rw[<- r2.length,e];rfl);subst hx;exact P.done S (by simp only[Rep,append_nil];exact⟨p,vs,rfl,h1,r1⟩)
 ·exact fun P=>P.elim
def KC(ng:Bool):W->W->Option W
 | .bl c,.bl d=>some (.bl (if ng then c != d else c==d))
 | _,_=>none
end
end VS
variable {b:List (List Nat)} {sl:Sl} {ce:Ce} {i:Nat} {vl:Nat->Int}
namespace VS
section
variable {a b:Sl->M W} {w x y:W} {i:Int} {p q:Bool}
theorem Hv(ha:a sl (ce++[.dct []])=some (.ok x (ce++[.dct []])))(hb:b sl (ce++[.dct []])=some (.ok y (ce++[.dct []])))(hk:fK x=some key):oi a b sl ce=some (.ok (.cel ce.length) (ce++[.dct [(key,y)]])):=by
 have g:(ce++[C.dct []])[ce.length]?=some (.dct []):=gr _ _;have s:(ce++[C.dct []]).set ce.length (.dct [(key,y)])=ce++[.dct [(key,y)]]:=by rw[Cs];rfl
 simp only[oi,az,ha,hb,ret,hk,g,s]
theorem DE(g:ce[k]?=some (.lst xs))(e:xs=ys++[y]):nK (.cel k) [] ce=some (.ok y (ce.set k (.lst ys))):=by subst e;simp[nK,mW g]
theorem Fp(g:ce[k]?=some (.lst xs)):gy ce (.cel k)=some (!xs.isEmpty):=by simp only[gy,g]
theorem GP(g:ce[k]?=some (.lst xs)):oj (.cel k) [] ce=some (.ok .non (ce.set k (.lst []))):=by simp only[oj,mW g]
theorem s9(g:ce[k]?=some (.lst xs))(h:cH ce w=some ys)(hz:xs.length+ys.length<=sizeLine):lp (.cel k) [w] ce=some (.ok .non (ce.set k (.lst (xs++ys)))):=by simp only[lp,mW g,h,if_pos hz]
theorem sZ(ha:a sl ce=some (.ok (.tup xs) c1))(hb:b sl c1=some (.ok (.tup ys) c2))(hz:xs.length+ys.length<=sizeLine):iT a b sl ce=some (.ok (.tup (xs++ys)) c2):=by simp only[iT,az,ha,hb,rX,if_pos hz]
theorem xO(h:xs.length<=sizeLine):nL xs ce=some (.ok (.tup xs) ce):=if_pos h
theorem xN(ha:a sl ce=some (.ok (.int i) c1)):kM a sl ce=some (.ok (some i) c1):=by simp only[kM,az,ha];rfl
theorem GO(ha:a sl ce=some (.ok (.tup xs) c1))(hb:b sl c1=some (.ok (nW n) c2))(h:n<xs.length)(hz:xs.length<=sizeLine):kD a kX (kM b) sl ce=some (.ok (.tup (xs.take n)) c2):=by
 have e1:HT.sIx xs.length 0 none=0:=rfl;have e2:HT.sIx xs.length xs.length (some (n:Int))=n:=by simp only[HT.sIx];rw[if_neg (by omega)];simp;omega
 have hb':=xN hb;have c:¬(HT.sIx xs.length 0 none=0/\HT.sIx xs.length xs.length (some (n:Int))=xs.length):=by rw[e1,e2];omega
 simp only[kD,az,ha,kX,ret,hb',slT,if_neg c,nM,e1,e2,drop_zero,sub_zero];rw[if_neg (by omega)];refine xO (xs:=xs.take n) ?_;rw[length_take];omega
theorem yV(ha:a sl ce=some (.ok (.tup xs) c1))(hb:b sl c1=some (.ok (.int i) c2))(e:i=(n:Int))(h0:0<n)(h:n<=xs.length)(hz:xs.length<=sizeLine):kD a (kM b) kX sl ce=some (.ok (.tup (xs.drop n)) c2):=by
 subst e;have e1:HT.sIx xs.length 0 (some (n:Int))=n:=by simp only[HT.sIx];rw[if_neg (by omega)];simp;omega
 have e2:HT.sIx xs.length xs.length none=xs.length:=rfl;have hb':=xN hb;have c:¬(HT.sIx xs.length 0 (some (n:Int))=0/\HT.sIx xs.length xs.length none=xs.length):=by rw[e1,e2];omega
 simp only[kD,az,ha,kX,ret,hb',slT,if_neg c,nM,e1,e2];rw[take_of_length_le (by rw[length_drop];omega)];rw[if_neg (by omega)];refine xO (xs:=xs.drop n) ?_;rw[length_drop];omega
variable {α:Type} {en:α->W} {zs:List α} {e:Sl->M W}
theorem HP{i:Nat}(hi:bP di sl ce c1 (zs.map en))(R:List α->Sl->Ce->Prop)(T:W->Ce->Prop)(h0:R [] sl c1)(step:∀d x r sl ce,d++x::r=zs->x∈zs->R d sl ce->Run body (sl.set i (some (en x))) ce (NR (R (d++[x])) T))(tell:∀w sl ce,T w ce->Q (.go (.rt w) sl ce))(fin:∀sl ce,R zs sl ce->Q (.go .nx sl ce)):Run (cD di (gN i) body) sl ce Q:=by
 obtain⟨s,h1,h2,h3⟩:=hi;obtain⟨o,e,q⟩:=qo (g:=gN i) (body:=body) (en:=en) (src:=s) zs R T (fun d x r sl ce e h=>⟨h3 _,_,rfl,step d x r sl ce e (by rw[<- e];simp) h⟩) (fun _ _ _=>h3 _) zs [] sl c1 rfl h0;rcases q with ⟨sl',ce',rfl,h⟩|⟨w,sl',ce',rfl,h⟩
 ·exact⟨_,by rw[p8 h1,h2];exact e,fin _ _ h⟩
 ·exact⟨_,by rw[p8 h1,h2];exact e,tell _ _ _ h⟩
theorem GN{a b:DS}(h:Run a sl ce fun o=>(∃sl' ce',o=.go .nx sl' ce'/\Run b sl' ce' Q)\/∃w sl' ce',o=.go (.rt w) sl' ce'/\Q o):Run (ay a b) sl ce Q:=by
 obtain⟨o,e,⟨sl',ce',rfl,q⟩|⟨w,sl',ce',rfl,q⟩⟩:=h
 ·exact iV e q
 ·exact⟨_,EV e,q⟩
theorem z6{b:DS}{i:Nat}(hi:bP di sl ce c1 (zs.map en))(R:List α->Sl->Ce->Prop)(T:W->Ce->Prop)(h0:R [] sl c1)(step:∀d x r sl ce,d++x::r=zs->x∈zs->R d sl ce->Run body (sl.set i (some (en x))) ce (NR (R (d++[x])) T))(tell:∀w sl ce,T w ce->Q (.go (.rt w) sl ce))(fin:∀sl ce,R zs sl ce->Run b sl ce Q):Run (ay (cD di (gN i) body) b) sl ce Q :=
 GN (HP hi R T h0 step (fun w sl ce h=>.inr ⟨w,sl,ce,rfl,tell w sl ce h⟩) fun sl ce h=>.inl ⟨sl,ce,rfl,fin sl ce h⟩)
end
inductive cP:Sl->Nat->Option W->Sl->Prop where
 | zero {x w:Option W} {r:Sl}:cP (x::r) 0 w (w::r)
 | succ {x w:Option W} {r r':Sl} {i:Nat} (h:cP r i w r'):cP (x::r) (i+1) w (x::r')
theorem cP.eq{w:Option W}(h:cP sl i w sl'):sl.set i w=sl':=by
 induction h with
 | zero=>rfl
 | succ _ ih=>rw[set_cons_succ,ih]
theorem Bp{b:DS}{w:Option W}(hs:cP sl i w sl')(h:Run b sl' ce Q):Run b (sl.set i w) ce Q:=by rw[hs.eq];exact h
section
variable {s x:Nat}
abbrev cW(vl:Nat->Int)(s y:Nat):Prop:=vl y=vl s
abbrev Sym(b:List (List Nat)):Prop:=∀i j,j∈b.getD i []->i∈b.getD j []
open Classical in
def aJ(b:List (List Nat))(vl:Nat->Int)(s:Nat):List Nat:=(List.range b.length).filter fun y=>decide (Reach b (cW vl s) s y)
def eK(b:List (List Nat))(vl:Nat->Int)(s:Nat):Bool:=(aJ b vl s).all fun y=>decide (s<=y)
def i7(b:List (List Nat))(vl:Nat->Int):List (List Nat):=((List.range b.length).filter (eK b vl)).map (aJ b vl)
theorem Reach.lt(hb:Bd b)(hs:s<b.length){ok:Nat->Prop}(h:Reach b ok s x):x<b.length:=by
 cases h with
 | refl=>exact hs
 | step _ hy _=>exact hb.get hy
open Classical in
theorem iZ(hb:Bd b)(hs:s<b.length):x∈aJ b vl s↔Reach b (cW vl s) s x:=by unfold aJ;rw[mem_filter,mem_range,decide_eq_true_eq];exact⟨fun h=>h.2,fun h=>⟨h.lt hb hs,h⟩⟩
theorem cb(h:x∈aJ b vl s):x<b.length:=mem_range.mp (mem_filter.mp h).1
theorem DD:(aJ b vl s).Nodup:=List.Pairwise.filter _ nodup_range
theorem Fo:(aJ b vl s).length<=b.length:=by have:=length_filter_le (fun y=>@decide (Reach b (cW vl s) s y) (Classical.propDecidable _)) (List.range b.length);rw[length_range] at this;exact this
theorem lY(hb:Bd b)(hs:s<b.length):s∈aJ b vl s:=(iZ hb hs).mpr .refl
theorem bY(hb:Bd b)(hs:s<b.length)(h:x∈aJ b vl s):vl x=vl s:=Reach.okOf (ok:=cW vl s) rfl ((iZ hb hs).mp h)
open Classical in
theorem Fn{F:List Nat}(c:Comp b (cW vl s) s F):cG F=aJ b vl s:=by rw[qm c.nd c.lt];unfold aJ;apply filter_congr;intro x _;rw[Bool.eq_iff_iff,decide_eq_true_eq,decide_eq_true_eq];exact c.mem x
theorem wV(h:vl x=vl s):cW vl x=cW vl s:=by funext y;unfold cW;rw[h]
open Classical in
theorem jg(hb:Bd b)(sym:Sym b)(hs:s<b.length)(h:x∈aJ b vl s):aJ b vl x=aJ b vl s:=by have v:=bY hb hs h;have r:=(iZ hb hs).mp h;unfold aJ;apply filter_congr;intro y _;rw[Bool.eq_iff_iff,decide_eq_true_eq,decide_eq_true_eq,wV v];exact⟨fun q=>r.trans q,fun q=>(Reach.symm (ok:=cW vl s) sym rfl r).trans q⟩
theorem yU(hb:Bd b)(sym:Sym b)(hs:s<b.length)(h:x∈aJ b vl s):s∈aJ b vl x:=by rw[jg hb sym hs h];exact lY hb hs
theorem zZ(hb:Bd b)(sym:Sym b)(hs:s<b.length):∃m,m∈aJ b vl s/\eK b vl m=true/\aJ b vl m=aJ b vl s:=by
 have key:∀(k:Nat) (s:Nat),s<=k->s<b.length->∃m,m∈aJ b vl s/\eK b vl m=true/\aJ b vl m=aJ b vl s:=by
  intro k
  induction k with
  | zero =>
   intro s hk hs;refine⟨s,lY hb hs,?_,rfl⟩;unfold eK;rw[all_eq_true];intro y _;exact decide_eq_true (by omega)
  | succ k ih =>
   intro s hk hs
   by_cases h:eK b vl s=true
   ·exact⟨s,lY hb hs,h,rfl⟩
   ·unfold eK at h;rw[all_eq_true] at h;obtain⟨y,hy⟩:=Classical.not_forall.mp h;obtain⟨hy,hn⟩:=Classical.not_imp.mp hy;have hn':¬s<=y:=fun q=>hn (decide_eq_true q);obtain⟨m,h1,h2,h3⟩:=ih y (by omega) (cb hy);have e:=jg hb sym hs hy;exact⟨m,by rw[<- e];exact h1,h2,by rw[h3,e]⟩
 exact key s s (le_refl _) hs
theorem ox(hb:Bd b){c:List Nat}:c∈i7 b vl↔∃s,s<b.length/\eK b vl s=true/\c=aJ b vl s:=by
 unfold i7;rw[mem_map];constructor
 ·rintro⟨s,hs,rfl⟩;obtain⟨h1,h2⟩:=mem_filter.mp hs;exact⟨s,mem_range.mp h1,h2,rfl⟩
 ·rintro⟨s,h1,h2,rfl⟩;exact⟨s,mem_filter.mpr ⟨mem_range.mpr h1,h2⟩,rfl⟩
theorem Fm:(i7 b vl).length<=b.length:=by unfold i7;rw[length_map];have:=length_filter_le (eK b vl) (List.range b.length);rw[length_range] at this;exact this
theorem qk(hb:Bd b)(hs:s<b.length)(h:eK b vl s=true):(aJ b vl s).getD 0 0=s:=by
 have hmem:=lY (vl:=vl) hb hs;unfold eK at h;rw[all_eq_true] at h;have f_:(aJ b vl s).Pairwise (·<·):=List.Pairwise.filter _ pairwise_lt_range;cases e:aJ b vl s with
 | nil=>rw[e] at hmem;simp at hmem
 | cons a r =>
  rw[e] at hmem h f_;have h1:s<=a:=of_decide_eq_true (h a (by simp));rcases mem_cons.mp hmem with h2|h2
  ·simp[h2]
  ·have:=(pairwise_cons.mp f_).1 s h2;omega
end
end VS
variable {v:V} {F H:Hp} {f:Addr} {w:World} {as:List Addr} {P:Program} {K:Frag} {mg:Str->Option Value} {base:Heap} {CX:jw} {fd:FuncData} {ps:List Str} {fe:XK->XK} {w2:W}
namespace VS
mutual
def fk(n:Nat)(ce:Ce):Nat->W->Option W
 | 0,.cel k=>if k<n then some (.cel k) else none
 | 0,.lst _=>none
 | 0,.tup _=>none
 | d+1,.cel k=>if k<n then some (.cel k) else match ce[k]? with
  | some (.lst xs)=>(iB n ce d xs).map .lst
  | _=>none
 | d+1,.lst xs=>(iB n ce d xs).map .lst
 | d+1,.tup xs=>(iB n ce d xs).map .tup
 | _,w=>some w
def iB(n:Nat)(ce:Ce):Nat->List W->Option (List W)
 | _,[]=>some []
 | d,x::xs=>match fk n ce d x,iB n ce d xs with
  | some y,some ys=>some (y::ys)
  | _,_=>none
end
section
variable {F2:Hp} {as2:List Addr}
theorem yT{d}(h:∀{w w2:W} {v:V},fk n ce d w=some w2->Rep F as w v->Rep F2 as2 w2 v):∀{ws ws2:List W} {vs:List V},iB n ce d ws=some ws2->aj F as ws vs->aj F2 as2 ws2 vs
 | [],ws2,vs,e,r=>by
  simp only[iB,Option.some.injEq] at e;subst e;simp only[aj] at r;subst r;exact .nil
 | x::xs,ws2,vs,e,r=>by
  simp only[iB] at e;simp only[aj] at r;obtain⟨v,r',rfl,q,s⟩:=r;split at e
  ·rename_i y ys e1 e2;cases e;exact .cons (h e1 q) (yT h e2 s)
  ·cases e
theorem yS(S:aB G F as H ce)(hF:∀a o,F a=some o->F2 a=some o)(hc:∀(k:Nat) (a:Addr) (xs:List W) (vs:List V),n<=k->as[k]?=some a->ce[k]?=some (.lst xs)->H a=some (.lst vs)->F2 a=some (.lst vs))(ha:∀(k:Nat) (a:Addr),k<n->as[k]?=some a->as2[k]?=some a):∀(d:Nat) {w w2:W} {v:V},fk n ce d w=some w2->Rep F as w v->Rep F2 as2 w2 v:=by
 have rd:∀{a:Addr} {o:HO},Rd F a o->Rd F2 a o:=fun r=>by
  rcases r with r|⟨u,r⟩
  ·exact .inl (hF _ _ r)
  ·exact .inr ⟨u,hF _ _ r⟩
 have low:∀{k:Nat} {v:V},k<n->Rep F as (.cel k) v->Rep F2 as2 (.cel k) v:=fun hk r=>by
  simp only[Rep] at r ⊢;obtain⟨a,rfl,q⟩:=r;exact⟨a,rfl,ha _ _ hk q⟩
 intro d
 induction d with
 | zero =>
  intro w w2 v e r;cases w<;>simp only[fk,Option.some.injEq,reduceCtorEq] at e
  case cel k =>
   split at e
   ·rename_i hk;cases e;exact low hk r
   ·cases e
  all_goals (subst e;simp only[Rep] at r ⊢;exact r)
 | succ d ih =>
  have ihs:∀{ws ws2:List W} {vs:List V},iB n ce d ws=some ws2->aj F as ws vs->aj F2 as2 ws2 vs:=fun e r=>yT ih e r;intro w w2 v e r;cases w<;>simp only[fk,Option.some.injEq] at e
  case cel k =>
   split at e
   ·rename_i hk;cases e;exact low hk r
   ·rename_i hk;split at e
    ·rename_i xs hx;obtain⟨ys,e1,rfl⟩:=map_eq_some_iff.mp e;simp only[Rep] at r;obtain⟨a,rfl,q⟩:=r;obtain⟨_,vs,h2,rs⟩:=S.cell _ _ _ q hx;simp only[Rep];exact⟨a,vs,rfl,.inl (hc k a xs vs (by omega) q hx h2),ihs e1 rs⟩
    ·cases e
  case lst xs =>
   obtain⟨ys,e1,rfl⟩:=map_eq_some_iff.mp e;simp only[Rep] at r ⊢;obtain⟨a,vs,rfl,h2,rs⟩:=r;exact⟨a,vs,rfl,rd h2,ihs e1 rs⟩
  case tup xs =>
   obtain⟨ys,e1,rfl⟩:=map_eq_some_iff.mp e;simp only[Rep] at r ⊢;obtain⟨a,vs,rfl,h2,rs⟩:=r;exact⟨a,vs,rfl,hF _ _ h2,ihs e1 rs⟩
  all_goals (subst e;simp only[Rep] at r ⊢;exact r)
end
open Classical in
def lB(d:List W->M W):List W->M W:=fun ws ce=>match d ws ce with
 | some (.ok w ce')=>if j6 ce ce' then match fk ce.length ce' 6 w with
  | some w2=>some (.ok w2 (ce'.take ce.length))
  | none=>none
  else none
 | r=>r
open Classical in
theorem xM{d:List W->M W}(h:au P w K mg base CX k f fd ps (hZ G fe n d)):au P w K mg base CX k f fd ps (hZ G fe n (lB d)):=by
 refine h.imp fun vs H Q E ⟨hl,F,as,ws,ce,S,rs,Pf⟩=>⟨hl,F,as,ws,ce,S,rs,?_⟩
 revert Pf;unfold lB;cases d ws ce with
 | none=>exact fun P=>P
 | some r=>cases r with
  | ex x ce'=>exact fun P=>P
  | ok w ce' =>
   dsimp only;intro Pf v H' F' as' l S' rv;split at Pf
   ·rename_i h1;split at Pf
    ·rename_i w2 e2;obtain⟨S2,l2⟩:=S.cut S' l h1
     let isC:Addr->Prop:=fun a=>∃(k:Nat) (xs:List W),ce.length<=k/\as'[k]?=some a/\ce'[k]?=some (.lst xs)
     let F2:Hp:=fun a=>if isC a then H' a else F' a
     have sub:∀a o,F' a=some o->F2 a=some o:=fun a o e=>by
      have:¬isC a:=by rintro⟨k,xs,_,e1,e3⟩;have:=(S'.cell k a _ e1 e3).1 rfl;rw[this] at e;cases e
      show(if isC a then H' a else F' a)=_;rw[if_neg this];exact e
     have l3:Le F' (as'.take ce.length) F2 (as'.take ce.length):=⟨sub,fun _ _ h=>h⟩
     refine Pf v H' F2 (as'.take ce.length) (l2.trans l3) ⟨fun b o e=>?_,S2.nd,S2.len,fun i b c e1 e3=>?_⟩ ?_
     ·have e:(if isC b then H' b else F' b)=some o:=e;split at e
      ·exact e
      ·exact S'.sub _ _ e
     ·obtain⟨p1,p2⟩:=S2.cell i b c e1 e3;refine⟨fun hn=>?_,p2.le l3 rfl⟩;show(if isC b then H' b else F' b)=none;rw[if_neg]
      ·exact p1 hn
      ·rintro⟨k,xs,hk,e4,_⟩;have hi:i<ce.length:=by have:=e9 e3;rw[length_take] at this;omega
       rw[jO hi] at e1;have a1:=e9 e4;have a2:=e9 e1;rw[getElem?_eq_getElem a1] at e4;rw[getElem?_eq_getElem a2] at e1;have:=pM S'.nd a1 a2 ((Option.some.inj e4).trans (Option.some.inj e1).symm);omega
     ·refine yS S' sub (fun k a xs vs hk e1 e3 e4=>?_) (fun k a hk e1=>by rw[jO hk];exact e1) 6 e2 rv;show(if isC a then H' a else F' a)=_;rw[if_pos ⟨k,xs,hk,e1,e3⟩];exact e4
    ·exact Pf.elim
   ·exact Pf.elim
def nO(ce:Ce)(w:W):Option W:=fk 0 ce 6 w
theorem zy{w:W}(S:aB G F as H ce)(r:Rep F as w v)(e:nO ce w=some w2):Rep H as w2 v :=
 yS S S.sub (fun k a xs vs _ _ _ h=>h) (fun k a hk _=>absurd hk (not_lt_zero _)) 6 e r
def nF(ng:Bool)(ce:Ce)(x y:W):Option W:=match nO ce x,nO ce y with
 | some x',some y'=>if (bG 8 x'&&bG 8 y')=true then some (.bl (if ng then !aN x' y' else aN x' y')) else none
 | _,_=>none
theorem Fj(ng:Bool):nI (pe ng) (nF ng):=by
 intro G F as H ce x y wx wy w S rx ry e Q q;unfold nF at e;split at e
 ·rename_i x' y' e1 e2;split at e
  ·rename_i hc;rw[and_eq_true] at hc;cases e;exact⟨as,_,_,zy S rx e1,zy S ry e2,hc.1,hc.2,q _ (by simp only[Rep])⟩
  ·cases e
 ·cases e
section
variable {E:XK} {a b:Expr}
theorem DC(hu:X.A.units+8<cLine)(ha:PE X a (ax G E da))(hb:PE X b (ax G E db)):PE X (.Compare a [.Eq] [b] pos) (ax G E (aC (nF false) da db)):=PE.imp (sQ (sH hu) ha hb (gC _)) (i4 (Fj false))
end
end VS
variable {q:Nat} {c:Ce}
namespace VS
section
variable {e o i:Sl->M W} {w x y:W} {b:DS} {ij:Int}
theorem sY(h:j<n):ixN n (j:Int)=some j:=by unfold ixN;rw[if_pos (by omega),if_pos (by omega)];simp
theorem vo(he:e sl ce=some (.ok w c1))(ho:o sl c1=some (.ok (.cel k) c2))(hi:i sl c2=some (.ok (.int ij) c3))(g:c3[k]?=some (.lst xs))(hj:ixN xs.length ij=some j) :
  gj e (j7 o i) sl ce=some (.go .nx sl (c3.set k (.lst (xs.set j w)))):=by
 simp only[gj,cL,he,j7,ho,hi,mW g,hj]
theorem zx(he:e sl ce=some (.ok w c1))(ho:o sl c1=some (.ok (.cel k) c2))(hi:i sl c2=some (.ok (.int ij) c3))(g:c3[k]?=some (.lst xs))(hj:ixN xs.length ij=some j)(q:Q (.go .nx sl (c3.set k (.lst (xs.set j w))))) :
  Run (gj e (j7 o i)) sl ce Q:=⟨_,vo he ho hi g hj,q⟩
theorem GL(he:e sl ce=some (.ok w c1))(ho:o sl c1=some (.ok (.cel k) c2))(hi:i sl c2=some (.ok (.int ij) c3))(g:c3[k]?=some (.lst xs))(hj:ixN xs.length ij=some j)(q:Run b sl (c3.set k (.lst (xs.set j w))) Q) :
  Run (ay (gj e (j7 o i)) b) sl ce Q:=iV (vo he ho hi g hj) q
abbrev g2(p q:Nat):DG:=gT 2 (eE (gN p) (eE (gN q) jc))
theorem wm:g2 p q (.tup [x,y]) sl ce=some ((sl.set p (some x)).set q (some y),ce):=rfl
theorem tX(he:e sl ce=some (.ok (.tup [x,y]) c1))(q':Run b ((sl.set p (some x)).set q (some y)) c1 Q):Run (ay (gj e (g2 p q)) b) sl ce Q :=
 iV (sl':=(sl.set p (some x)).set q (some y)) (ce':=c1) (by simp only[gj,cL,he,wm]) q'
variable {α:Type} {fa fb:α->W} {zs:List α}
theorem zw(hi:bP di sl ce c1 (zs.map fun z=>.tup [fa z,fb z]))(R:List α->Sl->Ce->Prop)(h0:R [] sl c1)(step:∀d x r sl ce,d++x::r=zs->x∈zs->R d sl ce->Run body ((sl.set p (some (fa x))).set q (some (fb x))) ce (Nx (R (d++[x]))))(fin:∀sl ce,R zs sl ce->Run b sl ce Q):Run (ay (cD di (g2 p q) body) b) sl ce Q:=by
 obtain⟨s,h1,h2,h3⟩:=hi;obtain⟨o,e,q'⟩:=qo (g:=g2 p q) (body:=body) (en:=fun z=>W.tup [fa z,fb z]) (src:=s) zs R (fun _ _=>False) (fun d x r sl ce e h=>⟨h3 _,_,wm,(step d x r sl ce e (by rw[<- e];simp) h).mono fun o q=>by
   cases o with
   | ex x c=>exact q.elim
   | go f sl2 ce2=>cases f<;>first|exact q|exact q.elim⟩) (fun _ _ _=>h3 _) zs [] sl c1 rfl h0
 rcases q' with ⟨sl',ce',rfl,h⟩|⟨w,sl',ce',rfl,h⟩
 ·exact iV (by rw[p8 h1,h2];exact e) (fin _ _ h)
 ·exact h.elim
end
structure il (ce b:Ce):Prop where
 len:b.length=ce.length
 cell:∀(k:Nat) (c:C),b[k]?=some c->ce[k]?=some c\/e7 ce.length c
theorem il.refl(ce:Ce):il ce ce:=⟨rfl,fun _ _ h=>.inl h⟩
theorem il.set{b:Ce}(h:il ce b)(k:Nat){x:C}(hx:e7 ce.length x):il ce (b.set k x) :=
 ⟨by rw[length_set];exact h.len,fun j c e=>by
  by_cases hj:k=j
  ·subst hj;have hk:k<b.length:=by have:=(List.getElem?_eq_some_iff.mp e).1;rwa [length_set] at this
   rw[getElem?_set_self hk] at e;cases e;exact .inr hx
  ·rw[getElem?_set_ne hj] at e;exact h.cell j c e⟩
theorem il.cut{b t:Ce}(h:il ce b):j6 ce (b++t):=⟨by rw[length_append,h.len];omega,fun k c hk e=>h.cell k c (by rwa [getElem?_append_left (by rw[h.len];exact hk)] at e)⟩
theorem il.take{b t:Ce}(h:il ce b):(b++t).take ce.length=b:=by rw[<- h.len];exact take_left
namespace Own
variable {b:Ce} {l:List (Nat×C)} {x:C} {w:W}
theorem finC'(h:Own b c l)(g:il ce b)(hb:bc ce.length w):VS.finC ce c w=some (.ok w b):=by obtain⟨⟨t,rfl⟩,_⟩:=h;simp only[VS.finC,g.take];exact if_pos ⟨g.cut,hb⟩
theorem frzD'{d:List W->M W}(e:d ws ce=some (.ok w c))(h:Own b c l)(g:il ce b)(ht:fk ce.length c 6 w=some w2):lB d ws ce=some (.ok w2 b):=by obtain⟨⟨t,rfl⟩,_⟩:=h;simp only[lB,e,ht,g.take];exact if_pos g.cut
end Own
def pW(p:Nat×Nat):W:=.tup [nW p.1,nW p.2]
def Cls(ce:Ce)(ks:List Nat)(cs:List (List Nat)):Prop:=PySem.Paired (fun k c=>ce[k]?=some (.lst (c.map nW))) ks cs
end VS
variable {e:Expr} {es:List Expr} {apos cpos:Pos} {dr:Sl->M (List W)}
namespace VS
open MeetsSeq (EqGives)
section
variable {E:XK} {o:Expr} {name:Str} {do':Sl->M W} {id:String} {rm:V->List V->Hp->VK->Prop} {fm:W->List W->M W}
end
section
variable {E:XK} {tg a:Expr}
end
end VS
namespace VS
section
variable {a b:Sl->M W} {w x y:W}
theorem si(ha:a sl ce=some (.ok (.bl true) c1))(hb:b sl c1=some (.ok w c2)):iq a b sl ce=some (.ok w c2):=by simp only[iq,az,ha,hb]
end
end VS
namespace VS
section
variable {E:XK} {a b:Expr}
end
end VS
variable {E:Value->Shared->Prop} {s:Shared} {prog:Program} {A:Around}
namespace VS
open HT
section
variable {E:XK} {a:Expr}
end
end VS
namespace VS
def jz:List W->M W:=fun ws ce=>match ws with
 | [.int i]=>some (.ok (.int i) ce)
 | [.bl k]=>some (.ok (.int (if k then 1 else 0)) ce)
 | _=>none
theorem wk{E:XK}:Bi G E (fun xs H Q=>(∃i,xs=[.int i]/\Q (.int i) H)\/∃k,xs=[.bl k]/\Q (.int (if k then 1 else 0)) H) jz:=by
 intro F as H σ sl ce ws vs Q S rs P;revert P;unfold jz;split
 ·intro P;obtain⟨v,rfl,r⟩:=gB rs;simp only[Rep] at r;subst r;exact .inl ⟨_,rfl,P.done S (by simp only[Rep])⟩
 ·intro P;obtain⟨v,rfl,r⟩:=gB rs;simp only[Rep] at r;subst r;exact .inr ⟨_,rfl,P.done S (by simp only[Rep])⟩
 ·exact fun P=>P.elim
end VS
variable {a:Addr} {h h':Heap} {N:Addr->Prop} {env:Env} {outer:List Env} {oe:Obj} {pins:List (Addr×Obj)} {qual:Str} {sp:Sp} {np pos':Pos} {th:Value->TS}
namespace L2
def DQ{α:Type}:Sem α->Prop
 | .pure _=>True
 | .raise _=>True
 | .unsupported _=>True
 | .finish _=>True
 | .rule _ k=>DQ (k ())
 | .at _ k=>DQ (k ())
 | .load _ _ k=>∀o,DQ (k o)
 | .update _ _ f k=>(∀o:Obj,(f o).dict=o.dict/\((f o).isFreed=true->o.isFreed=true))/\DQ (k ())
 | .alloc _ k=>∀a,DQ (k a)
 | .loadIfAlive _ k=>∀o,DQ (k o)
 | .point _ k=>DQ (k ())
 | .fresh k=>∀t,DQ (k t)
 | .ask k=>∀t,DQ (k t)
 | .handled _ k=>∀t,DQ (k t)
 | .stack k=>∀t,DQ (k t)
 | _=>False
theorem DQ.bind{α β:Type}:∀{t:Sem α} {f:α->Sem β},DQ t->(∀a,DQ (f a))->DQ (t >>= f):=by
 intro t f;show DQ t->(∀a,DQ (f a))->DQ (Sem.bind t f);intro ht hf
 induction t with
 | pure a=>exact hf a
 | raise v=>trivial
 | unsupported x=>trivial
 | finish x=>trivial
 | rule s k ih=>exact ih () ht
 | «at» s k ih=>exact ih () ht
 | load a p k ih=>exact fun o=>ih o (ht o)
 | update a p g k ih=>exact⟨ht.1,ih () ht.2⟩
 | alloc o k ih=>exact fun a=>ih a (ht a)
 | loadIfAlive a k ih=>exact fun o=>ih o (ht o)
 | point l k ih=>exact ih () ht
 | fresh k ih=>exact fun o=>ih o (ht o)
 | ask k ih=>exact fun o=>ih o (ht o)
 | handled b k ih=>exact fun o=>ih o (ht o)
 | stack k ih=>exact fun o=>ih o (ht o)
 | _=>exact ht.elim
def jV(e:Addr)(d:Option Addr)(h:Heap):Prop:=∃o,h.get? e=some o/\o.dict=d
theorem CL{e:Addr}{u:Obj}(x:h.get? e=some u):u.isFreed=false:=by
 unfold Heap.get? at x;split at x
 ·cases x
 ·rename_i y z;cases q:u.isFreed with
  | false=>rfl
  | true =>
   exfalso;obtain⟨c,d,dt,sl⟩:=u;unfold Obj.isFreed at q;cases dt<;>simp at q;exact z c d sl x
theorem jV.push{e:Addr}{d:Option Addr}(x:jV e d h)(o:Obj):jV e d (h.push o):=by obtain⟨u,e1,e2⟩:=x;exact⟨u,Heap.get?_push_of_some _ e1,e2⟩
theorem jV.update{e:Addr}{d:Option Addr}(x:jV e d h)(a:Addr)(f:Obj->Obj)(hf:∀o:Obj,(f o).dict=o.dict/\((f o).isFreed=true->o.isFreed=true)):jV e d (h.update a f):=by
 obtain⟨u,e1,e2⟩:=x
 by_cases q:e=a
 ·subst q;refine⟨f u,Heap.get?_update_self f e1 ?_,(hf u).1.trans e2⟩;cases q:(f u).isFreed with
  | false=>rfl
  | true =>
   have:=(hf u).2 q;rw[CL e1] at this;cases this
 ·exact⟨u,(Heap.get?_update_ne _ _ _ _ q).trans e1,e2⟩
theorem CK{α:Type}{M:Model}{Γ:PySem.Ctx}{e:Addr}{d:Option Addr}(t:Sem α):DQ t->∀(Q:α->Pos->Shared->Prop) (E:Value->Pos->Shared->Prop) (p:Pos) (s:Shared),Sem.wp M Γ t Q E p s->jV e d s.heap->Sem.wp M Γ t (fun a x s'=>Q a x s'/\jV e d s'.heap) E p s:=by
 induction t with
 | pure a=>intro _ Q E p s h x;simp only[Sem.wp] at h ⊢;exact⟨h,x⟩
 | raise v=>intro _ Q E p s h x;simp only[Sem.wp] at h ⊢;exact h
 | unsupported v=>intro _ Q E p s h x;simp only[Sem.wp] at h ⊢
 | finish v=>intro _ Q E p s h x;simp only[Sem.wp] at h ⊢
 | rule tag k ih=>intro dq Q E p s h x;simp only[Sem.wp] at h ⊢;exact ih () dq Q E p s h x
 | «at» p' k ih=>intro dq Q E p s h x;simp only[Sem.wp] at h ⊢;exact ih () dq Q E _ s h x
 | load a pt k ih =>
  intro dq Q E p s h x;simp only[Sem.wp] at h ⊢;obtain⟨o,e1,h⟩:=h;exact⟨o,e1,ih o (dq o) Q E p s h x⟩
 | update a pt f k ih =>
  intro dq Q E p s h x;simp only[Sem.wp] at h ⊢;exact⟨h.1,ih () dq.2 Q E p _ h.2 (x.update a f dq.1)⟩
 | alloc o k ih=>intro dq Q E p s h x;simp only[Sem.wp] at h ⊢;exact ih _ (dq _) Q E p _ h (x.push o)
 | loadIfAlive a k ih=>intro dq Q E p s h x;simp only[Sem.wp] at h ⊢;exact ih _ (dq _) Q E p _ h x
 | point l k ih=>intro dq Q E p s h x;simp only[Sem.wp] at h ⊢;exact ih () dq Q E p _ h x
 | fresh k ih=>intro dq Q E p s h x;simp only[Sem.wp] at h ⊢;exact ih _ (dq _) Q E p _ h x
 | ask k ih=>intro dq Q E p s h x;simp only[Sem.wp] at h ⊢;exact ih _ (dq _) Q E p _ h x
 | handled b k ih=>intro dq Q E p s h x;simp only[Sem.wp] at h ⊢;exact ih _ (dq _) Q E p _ h x
 | stack k ih=>intro dq Q E p s h x;simp only[Sem.wp] at h ⊢;exact ih _ (dq _) Q E p _ h x
 | _=>intro dq;exact dq.elim
theorem wU{α:Type}{M:Model}{t:Sem α}{Q:α->Shared->Prop}{e:Addr}{d:Option Addr}(dq:DQ t)(h:wpAny M A t Q E s)(x:jV e d s.heap):wpAny M A t (fun a s'=>Q a s'/\jV e d s'.heap) E s :=
 fun Γ p hin=>CK t dq _ _ p s (h Γ p hin) x
theorem Jo(v:Value):DQ (fieldsOf v):=by
 unfold fieldsOf;split
 ·exact DQ.bind (fun _=>trivial) fun o=>by
   split
   ·exact trivial
   ·exact trivial
 ·exact trivial
theorem qj(v:Value)(i:Nat):DQ (field v i):=by
 unfold field;exact DQ.bind (Jo v) fun o=>by
  split
  ·exact trivial
  ·exact trivial
theorem mh(g:Array Value->Array Value)(o:Obj):(Obj.mapFields g o).dict=o.dict/\((Obj.mapFields g o).isFreed=true->o.isFreed=true):=by obtain⟨c,d,dt,sl⟩:=o;cases dt<;>exact⟨rfl,fun h=>h⟩
theorem JT(a:Addr)(i:Nat)(v:Value):DQ (updateField a i v):=by
 unfold updateField;exact DQ.bind (fun _=>trivial) fun o=>by
  split
  ·split
   ·exact⟨mh _,trivial⟩
   ·exact trivial
  ·exact trivial
theorem uA(v:Value)(i:Nat)(x:Value):DQ (setField v i x):=by
 unfold setField;split
 ·exact JT _ _ _
 ·exact trivial
theorem Jv(e:Value)(f:Option Addr):DQ (setFlight e f):=by
 unfold setFlight;exact DQ.bind (qj _ _) fun tb=>by
  split
  ·exact uA _ _ _
  ·exact trivial
theorem HN(env:Env)(outer:List Env):DQ (behindIsImport env outer):=by
 unfold behindIsImport;split
 ·exact trivial
 ·split
  ·exact trivial
  ·exact DQ.bind (qj _ _) fun _=>trivial
theorem GK:DQ underTheClaimsCaller:=by unfold underTheClaimsCaller;exact DQ.bind (fun _=>trivial) fun _=>trivial
theorem Fi(env:Env)(b:Bool)(l:List Env):DQ (keptBack env b l):=by
 unfold keptBack;split
 ·split
  ·exact trivial
  ·exact DQ.bind GK fun _=>trivial
 ·exact trivial
theorem zv:∀l:List Env,DQ (readyFrames l)
 | []=>trivial
 | env::outer=>by
  rw[readyFrames.eq_2];split
  ·exact DQ.bind (fun _=>trivial) fun o=>by
    split
    ·exact trivial
    ·exact DQ.bind (HN _ _) fun b=>DQ.bind (Fi _ _ _) fun v=>DQ.bind ⟨fun o=>⟨rfl,fun h=>by obtain⟨c,d,dt,sl⟩:=o;cases dt<;>exact h⟩,trivial⟩ fun _=>zv outer
  ·exact trivial
theorem IY(env:Env):DQ (PySem.frameOf env):=by
 unfold PySem.frameOf;refine DQ.bind ?_ fun l=>DQ.bind ?_ fun o=>?_
 ·unfold frameEnvs;exact DQ.bind (fun _=>trivial) fun _=>trivial
 ·unfold frameObject;split
  ·exact trivial
  ·exact DQ.bind (zv _) fun _=>trivial
 ·split
  ·exact trivial
  ·exact trivial
theorem GJ(f:Addr)(b:Bool):DQ (entryPlaceOf f b):=by
 unfold entryPlaceOf;exact DQ.bind (fun _=>trivial) fun l=>by
  split
  ·exact trivial
  ·exact trivial
theorem Fh(t:String)(vs:List Value):DQ (newFields t vs):=by
 have a:DQ (newObjAsIs (.type t) (.fields vs.toArray)):=by unfold newObjAsIs;exact DQ.bind (fun _=>trivial) fun _=>trivial
 unfold newFields newObj;dsimp only;split
 ·exact DQ.bind trivial fun _=>a
 ·exact a
theorem Fg(e:Value)(env:Env):DQ (noteFrame e env):=by
 unfold noteFrame;split
 ·refine DQ.bind (qj _ _) fun hd=>?_;rename_i f _;have jp:∀x:Unit,DQ (do
   let a <- PySem.frameOf env
   let pl <- entryPlaceOf f (hd != Value.none)
   let b <- EntryCells.newEntry hd a Value.none (rawInt ↑f) Value.none pl
   setField e 1 b):=fun _=>DQ.bind (IY _) fun a=>DQ.bind (GJ _ _) fun pl=>DQ.bind (Fh _ _) fun b=>uA _ _ _
  dsimp only;split
  ·refine DQ.bind (qj _ _) fun x=>?_;split
   ·exact trivial
   ·exact DQ.bind (uA _ _ _) fun x=>jp x
  ·exact jp ()
 ·exact trivial
theorem aQ.there{o:HO}(x:aQ P w H h a o):∃u,h.get? a=some u:=by
 cases o with
 | lst xs=>obtain⟨_,_,_,_,e⟩:=x;exact⟨_,e⟩
 | tup xs=>obtain⟨_,_,_,u,e,_⟩:=x;exact⟨_,e⟩
 | dK kvs=>obtain⟨_,_,_,_,o,_,_,e,_⟩:=x;exact⟨_,e⟩
 | dT kvs=>obtain⟨_,_,_,_,o,_,_,e,_⟩:=x;exact⟨_,e⟩
 | set S n=>obtain⟨o,_,_,_,e,_⟩:=x;exact⟨_,e⟩
 | ins C dx fs=>obtain⟨_,_,_,e,_⟩:=x;exact⟨_,e⟩
 | own y=>exact x
 | xd fs=>obtain⟨_,⟨_,_,_,e,_⟩,_⟩:=x;exact⟨_,e⟩
 | rng lo hi=>obtain⟨_,_,_,e⟩:=x;exact⟨_,e⟩
 | frz ob u=>obtain⟨e,_⟩:=x;exact⟨_,e⟩
 | tbl ps=>exact⟨_,x⟩
 | met f y=>exact⟨_,x⟩
 | ext φ=>exact x.2.1
def Fl(N:Addr->Prop)(a:Addr)(cls:Value)(H:Hp)(h:Heap):Prop :=
 ∃oe vs a0,N a/\H a=none/\h.get? a=some oe/\VS.Tg cls oe/\oe.data=.fields vs/\vs[0]?=some a0 /\
  (vs[1]?=some .none\/∃T oT ts,vs[1]?=some (.ref T)/\N T/\H T=none/\T≠a/\h.get? T=some oT/\oT.data=.fields ts/\ts[3]?=some .none)
theorem Fl.mono{N':Addr->Prop}{cls:Value}(f:Fl N a cls H h)(k:∀b,N b->N' b):Fl N' a cls H h:=by obtain⟨oe,vs,a0,n,h1,h2,h3,h4,h5,h6⟩:=f;refine⟨oe,vs,a0,k _ n,h1,h2,h3,h4,h5,h6.imp id fun⟨T,oT,ts,e1,e2,e⟩=>⟨T,oT,ts,e1,k _ e2,e⟩⟩
theorem GI{M:Model}{B:Heap}{L:Addr}{vs:Array Value}{a0:Value}{Q:Unit->Shared->Prop}(hfr:A.frames=some (env::outer))(hl:s.heap.FunFrames B (env::outer))(hf:env.frame=some L)(he:s.heap.get? a=some oe)(hkb:B.StaysIn s.heap)(hen:B.get? a=none)(hd:oe.data=.fields vs)(h0:vs[0]?=some a0)(h1:vs[1]?=some .none\/∃T oT ts,vs[1]?=some (.ref T)/\B.get? T=none/\T≠a/\s.heap.get? T=some oT/\oT.data=.fields ts/\ts[3]?=some .none)(hQ:∀h',Heap.NotedW B (env::outer) a oe.cls a0 (rawInt L) s.heap h'->Q () { s with heap:=h' }):wpAny M A (noteFrame (.ref a) env) Q E s:=by
 rcases h1 with h1|⟨T,oT,ts,h1,hnT,hTe,hT,hdT,h3⟩
 ·unfold noteFrame;simp only[hf];refine wpAny_bind (wpAny_field he hd h1 ?_);rw[if_neg (by decide)];exact wpAny_entryW hfr hl hf he hkb hen hd (Array.getElem?_eq_some_iff.mp h1).1 h0 hQ
 ·exact wpAny_noteFrame_onW hfr hl hf ⟨oe,vs,T,oT,ts,he,⟨rfl,h0⟩,hd,h1,hnT,hTe,hT,hdT,h3⟩ hkb hen hQ
structure ju (stk:List Addr) (N:Addr->Prop) (H:Hp) (a:Addr) (cls:Value) (h h':Heap):Prop where
 keep:∀b o,h.get? b=some o->b∉stk->(H b≠none\/¬N b\/∀vs,o.data≠.fields vs)->h'.get? b=some o
 slot:∀b o,h.get? b=some o->b∈stk->∃sl,h'.get? b=some { o with slots:=sl }
 fl:Fl (fun b=>N b\/h.get? b=none) a cls H h'
theorem flown{M:Model}{A':Around}{σ:St}{cls:Value}{Q:Unit->Shared->Prop}(I:Inv X pins σ H s)(hst:X.stack=X.env::X.outer)(hf:X.env.frame=some X.env.locals)(f:Fl N a cls H s.heap)(hQ:∀h',ju (dj X.stack) N H a cls s.heap h'->Q () { s with heap:=h' }) :
  wpAny M X.A (noteFrame (.ref a) X.env) (fun _ s₂=>wpAny M A' (setFlight (.ref a) none) Q E s₂) E s:=by
 obtain⟨oe,vs,a0,na,ha,he,tg,hd,h0,h1⟩:=f;have hstk:=I.stack;have hfree:=I.stkFree;have hfr:=I.ok.frames;obtain⟨hid,hh1,hh2,hh3,hh4⟩:∃hid:List Addr,(∀b∈dj X.stack,b∈hid)/\a∈hid/\(∀b∈hid,b∈dj X.stack\/(N b/\H b=none/\∃o vs,s.heap.get? b=some o/\o.data=.fields vs)) /\
   (vs[1]?=some .none\/∃T oT ts,vs[1]?=some (.ref T)/\T∈hid/\T≠a/\s.heap.get? T=some oT/\oT.data=.fields ts/\ts[3]?=some .none):=by
  rcases h1 with h1|⟨T,oT,ts,h1,nT,hT,hTa,r⟩
  ·refine⟨dj X.stack++[a],fun b hb=>mem_append_left _ hb,mem_append_right _ (by simp),fun b hb=>?_,.inl h1⟩;rcases mem_append.mp hb with hb|hb
   ·exact .inl hb
   ·rw[mem_singleton] at hb;subst hb;exact .inr ⟨na,ha,_,_,he,hd⟩
  ·obtain⟨hT1,hT2,hT3⟩:=r;refine⟨dj X.stack++[a,T],fun b hb=>mem_append_left _ hb,mem_append_right _ (by simp),fun b hb=>?_,.inr ⟨T,oT,ts,h1,mem_append_right _ (by simp),hTa,hT1,hT2,hT3⟩⟩;rcases mem_append.mp hb with hb|hb
   ·exact .inl hb
   ·rcases mem_cons.mp hb with rfl|hb
    ·exact .inr ⟨na,ha,_,_,he,hd⟩
    ·rw[mem_singleton] at hb;subst hb;exact .inr ⟨nT,hT,_,_,hT1,hT2⟩
 have hin:∀env∈X.env::X.outer,∀b,env.frame=some b->b∈hid:=fun env he b hb=>hh1 b (mem_filterMap.mpr ⟨env,by rw[hst];exact he,hb⟩);have hl:s.heap.FunFrames (hideAll s.heap hid) (X.env::X.outer):=PySem.W.funFrames_hide (by rw[<- hst];exact hstk) hin;have n0:wpAny M X.A (noteFrame (.ref a) X.env) (fun _ s2=>∃h1,s2={ s with heap:=h1 }/\Heap.NotedW (hideAll s.heap hid) (X.env::X.outer) a oe.cls a0 (rawInt X.env.locals) s.heap h1) E s :=
  GI (by rw[hfr,hst]) hl hf he (fun b o q=>of_hideAll _ q) (hideAll_none _ hh2) hd h0 (hh4.imp id fun⟨T,oT,ts,e1,e2,e3,e4⟩=>⟨T,oT,ts,e1,hideAll_none _ e2,e3,e4⟩) fun h1 z=>⟨h1,rfl,z⟩
 refine wpAny_mono (wU (e:=a) (d:=oe.dict) (Fg _ _) n0 ⟨oe,he,rfl⟩) (fun _ s2 ⟨⟨h1,es,z⟩,dz⟩=>?_) fun _ _ z=>z;subst es;obtain⟨z1,z2,z3,z4⟩:=z;have n1:wpAny M A' (setFlight (.ref a) none) (fun _ s3=>∃h2,s3={ s with heap:=h2 }/\(hideAll s.heap hid).FlyingW (X.env::X.outer) a oe.cls a0 h2/\h1.UpToSlots h2) E { s with heap:=h1 } :=
  wpAny_landsW (base:=hideAll s.heap hid) (l:=X.env::X.outer) (cls:=oe.cls) (a0:=a0) ⟨z1,hideAll_none _ hh2,z2,z3⟩ fun h2 y1 y2=>⟨h2,rfl,y1,y2⟩
 refine wpAny_mono (wU (e:=a) (d:=oe.dict) (Jv _ _) n1 dz) (fun _ s3 ⟨⟨h2,es,y1,y2⟩,dz2⟩=>?_) fun _ _ z=>z;subst es;refine hQ h2 ?_;have up:∀b o,s.heap.get? b=some o->(∀vs,o.data≠.fields vs)->∃sl,h2.get? b=some { o with slots:=sl }:=fun b o e n=>by
  obtain⟨s1,e1⟩:=z4 b o e n;obtain⟨s2,e2⟩:=y2 b _ e1 n;exact⟨s2,e2⟩
 have sl:∀b o,s.heap.get? b=some o->b∈dj X.stack->∃sl,h2.get? b=some { o with slots:=sl }:=fun b o e hb=>by
  obtain⟨_,o',e',n⟩:=hstk.mem hb;rw[e] at e';cases e';exact up b o e n
 obtain⟨y1,y3,y4,oe',vs',T',oT',ts',t1,⟨t2,t3⟩,t4,t5,t6,t7,t8,t9,t10⟩:=y1;refine⟨fun b o e hb hc=>?_,sl,oe',vs',a0,.inl na,ha,t1,tg.same t2 (by obtain⟨u,e1,e2⟩:=dz2;rw[t1] at e1;cases e1;exact e2),t4,t3,.inr ⟨T',oT',ts',t5,?_,?_,t7,t8,t9,t10⟩⟩
 ·refine y1 b o (hideAll_get _ e fun hm=>?_);rcases hh3 b hm with q|⟨q1,q2,o',vs',q3,q4⟩
  ·exact hb q
  ·rcases hc with hc|hc|hc
   ·exact hc q2
   ·exact hc q1
   ·rw[e] at q3;cases q3;exact hc _ q4
 all_goals
  cases q:s.heap.get? T' with
  | none =>
   first
    | exact .inr q
    | (cases q2:H T' with
       | none=>rfl
       | some u=>obtain⟨u',e'⟩:=(I.hok T' u q2).there;rw[q] at e';cases e')
  | some o =>
   have hm:T'∈hid:=by apply Classical.byContradiction;intro hm;have:=hideAll_get _ q hm;rw[t6] at this;cases this
   rcases hh3 T' hm with hs|⟨q1,q2,_⟩
   ·exfalso;obtain⟨_,o',e',n⟩:=hstk.mem hs;rw[q] at e';cases e';obtain⟨s2,e2⟩:=up T' o q n;rw[t8] at e2;cases e2;exact n _ t9
   ·first|exact .inl q1|exact q2
def aX(P:Program)(w:World):jw:=fun outer H s E e s'=>∃a cls H',e=.ref a/\s'.os=s.os/\AllBare s'.gens/\Un (dj outer) [] H H' s.heap s'.heap/\cB P w H' s'.heap/\Fl (fun b=>s.heap.get? b=none) a cls H' s'.heap/\E cls none H'
def Nw(X:Cx)(pins:List (Addr×Obj))(b:Addr):Prop:=X.s₀.heap.get? b=none/\∀p∈X.pn++pins,p.1≠b
def gg(X:Cx)(E:XK):Prop:=∀(pins:List (Addr×Obj)) (σ:St) (H:Hp) (s:Shared) (a:Addr) (cls:Value),Inv X pins σ H s->Fl (Nw X pins) a cls H s.heap->E cls none H->X.xe (.ref a) s
theorem nR{σ:St}{b:Addr}(hx:X.ex=[])(I:Inv X pins σ H s)(h:s.heap.get? b=none):Nw X pins b:=by
 refine⟨?_,fun p hp e=>?_⟩
 ·cases q:X.s₀.heap.get? b with
  | none=>rfl
  | some o =>
   obtain⟨o',e⟩:=I.base.there b o q (by rw[hx];simp);rw[h] at e;cases e
 ·obtain⟨e1,_⟩:=I.pin p hp;rw[e,h] at e1;cases e1
theorem gg.passes{E:XK}(h:gg X E)(hx:X.ex=[]):jM (aX X.prog X.w) X E:=fun pins σ H s e s' I z=>by
 obtain⟨a,cls,H',rfl,ho,hg,u,hok,f,q⟩:=z;exact h pins σ H' s' a cls (I.call' ho u hok hg (fun b z=>absurd z (by simp))) (f.mono fun b hb=>nR hx I hb) q
theorem xK:jM (aX X.prog X.w) X E0:=fun _ _ _ _ _ _ _ z=>by
 obtain⟨_,_,_,_,_,_,_,_,_,q⟩:=z;exact q.elim
theorem aa{N:List Str}{scope:Scope}{cd:Value}{E:XK} :
  gg (iu (aX P w) P w K mg base N qual scope f cd A outer s H E) E:=by
 intro pins σ H1 s1 a cls I fl q;show wpAny (model P w) _ (leaving _ _) _ _ s1;unfold leaving;refine wpAny_bind (flown I rfl rfl fl fun h' F=>?_);have hb:=I.base;have hstk:=I.stack;have hlt:∀b o,s.heap.get? b=some o->b≠(iu (aX P w) P w K mg base N qual scope f cd A outer s H E).env.locals:=fun b o e q=>absurd (Heap.lt_size e) (by rw[q];exact not_lt.mpr I.ok.above);have hfs:∀b,b∈dj (iu (aX P w) P w K mg base N qual scope f cd A outer s H E).stack->b=(iu (aX P w) P w K mg base N qual scope f cd A outer s H E).env.locals\/b∈dj outer:=fun b hb=>mem_cons.mp (I.stkSub b hb);have hout:∀b,b∈dj outer->b∈dj (iu (aX P w) P w K mg base N qual scope f cd A outer s H E).stack:=fun b hb=>by
  obtain⟨env,h1,h2⟩:=mem_filterMap.mp hb;exact mem_filterMap.mpr ⟨env,mem_cons_of_mem _ h1,h2⟩
 refine⟨a,cls,H1,rfl,I.os,I.bare,⟨fun b o e n h1 h2=>?_,fun b o e n h1 h2=>?_,fun b o e n h2=>hb.free b o e n h2,fun b o e h2=>?_,hb.tups,hb.frzs,hb.tbls⟩,fun b o e=>?_,F.fl.mono fun b hb'=>?_,q⟩
 ·have e1:=hb.keep b o e n h1 h2;refine F.keep b o e1 (fun hm=>?_) (.inr<|.inl fun hn=>by have z:s.heap.get? b=none:=hn.1;rw[z] at e;cases e);rcases hfs b hm with z|z
  ·exact hlt b o e z
  ·exact h1 z
 ·obtain⟨sl,e1⟩:=hb.slot b o e n h1 h2;obtain⟨s2,e2⟩:=F.slot b _ e1 (hout b h1);exact⟨s2,e2⟩
 ·obtain⟨o',e1⟩:=hb.there b o e h2
  by_cases hm:b∈dj (iu (aX P w) P w K mg base N qual scope f cd A outer s H E).stack
  ·obtain⟨s2,e2⟩:=F.slot b o' e1 hm;exact⟨_,e2⟩
  ·exact⟨o',F.keep b o' e1 hm (.inr<|.inl fun hn=>by have z:s.heap.get? b=none:=hn.1;rw[z] at e;cases e)⟩
 ·refine(I.hok b o e).stay (fun c u hc r=>?_) (fun _ q=>q) fun _ _ q=>q;have hH:H1 c≠none:=by
   rcases hc with rfl|hc
   ·rw[e];simp
   ·rw[hc];simp
  exact F.keep c u r (fun hm=>hH (I.stkFree c hm)) (.inl hH)
 ·rcases hb' with hb'|hb'
  ·exact hb'.1
  ·exact(nR (pins:=pins) rfl I hb').1
theorem bV.okX{x:Str}{st:Stmt}{N:List Str}(F:bV K x qual st f fd)(S:aq N ps (bw st))(len:∀vs H Q E,sp vs H Q E->vs.length=ps.length)(hbody:∀(cdv:Value) (A:Around) (outer:List Env) (s:Shared) (H:Hp) (vs:List V) (Q:VK) (E:XK),bo k (A.deeper (envOfC qual (bw st) s.heap.objs.size f cdv))->sp vs H Q E ->
   ∃t,PSs (iu (aX P w) P w K mg base N qual (bw st) f cdv A outer s H E) (kY st) t/\t { nx:=fun _ H'=>Q .non H',rt:=Q } (start N vs) H):au P w K mg base (aX P w) (k+1) f fd ps sp:=by
 obtain⟨oc,od,kV,doc,pm,an,cdv,ct,osl,rfl,lk,hcd⟩:=F.ex;refine Ca lk hcd S len fun A outer s H vs Q E hr hsp=>?_;obtain⟨t,h,q⟩:=hbody cdv A outer s H vs Q E hr hsp;exact⟨t,h,q⟩
def uZ:List Value:=[.type "ValueError",.type "Exception",.type "BaseException",.type "object"]
def XC(K:Frag)(C:Addr):Prop:=excIn K C uZ "ValueError.__new__" = true
theorem XC.obj{C:Addr}(q:XC K C)(X:K.In h):∃bm N nm qn bs hdct sn sub ab col dd k0 k1 k2 k3 k5 mN,
  h.get? C=some (excClassObj nm qn C N bs bm hdct sn sub ab col dd k0 k1 k2 k3 k5 "ValueError.__new__")/\h.Ns N mN/\mN "__init__" = none/\OwnTail h uZ bm:=by
 unfold XC excIn at q;split at q
 case h_2=>cases q
 rename_i dd cd sl ho;split at q
 case h_2=>cases q
 rename_i C' bm k0 k1 k2 k3 n k5 hm hs;simp only[and_eq_true,beq_iff_eq,not_eq_true'] at q;obtain⟨⟨⟨⟨⟨rfl,rfl⟩,hdel⟩,ht⟩,hok⟩,hni⟩:=q;obtain⟨nm,bs,mro,ns,qn,hd,sn,sub,ab,col,del⟩:=cd;dsimp only at hm hdel hok hni;subst hm hdel;have hsl:sl=#[k0,k1,k2,k3,some (.builtin "ValueError.__new__"),k5]:=by obtain⟨l⟩:=sl;simp only at hs;rw[hs]
 subst hsl;exact⟨bm,ns,nm,qn,bs,hd,sn,sub,ab,col,dd,k0,k1,k2,k3,k5,_,X _ _ ho,.of_isNs (PySem.W.isNs_of_in X hok),PySem.W.nsMap_none_of_in X hok hni,PySem.W.tail_of_in X ht⟩
def PM(X:Cx)(e:Expr)(t:St->Prop):Prop:=∀(pins:List (Addr×Obj)) (s:Shared) (σ:St) (H:Hp),Inv X pins σ H s->t σ->wpAny (model X.prog X.w) X.A (eval e X.env) (fun u s'=>(∃y tk,u=.str y tk/\y.length<=1000)/\Inv X pins σ H s') X.xe s
def PX(X:Cx)(e:Expr)(t:St->Prop):Prop:=∀(pins:List (Addr×Obj)) (s:Shared) (σ:St) (H:Hp),Inv X pins σ H s->t σ->wpAny (model X.prog X.w) X.A (eval e X.env) (fun u s'=>Inv X pins σ H s') X.xe s
def qW(X:Cx)(es:List Expr)(t:St->Prop):Prop:=∀(out:Str) (pins:List (Addr×Obj)) (s:Shared) (σ:St) (H:Hp),out.length+1000*es.length<=sizeLine->Inv X pins σ H s->t σ->wpAny (model X.prog X.w) X.A (joinParts out (evalEach es X.env)) (fun u s'=>Inv X pins σ H s') X.xe s
theorem mU{x:Str}(hx:x.length<=1000:=by decide):PM X (.Constant (.str x) j pos) (fun _=>True):=fun pins s σ H I _=>Calls.Constant_str ⟨⟨x,_,rfl,hx⟩,I.tok _⟩
theorem wR{e:Expr}{pos:Pos}{n:Int}{σ:St}(hn:n.natAbs<1000)(I:Inv X pins σ H s)(tk:Tok) :
  wpAny (model X.prog X.w) X.A (formatField (.int n tk) Str.empty) (fun u s'=>(∃y tk,u=.str y tk/\y.length<=1000)/\Inv X pins σ H s') X.xe s:=by
 have hl:n.natAbs.log2<100:=by
  by_cases h0:n.natAbs=0
  ·rw[h0];decide
  ·exact(log2_lt h0).mpr (lt_of_lt_of_le hn (by decide))
 refine formatField_int_small (by omega) ⟨⟨_,_,rfl,?_⟩,I.tok _⟩;have e:=int_text_length_le (k:=100) (by decide) hl;show(Str.ofString (toString n)).length<=1000;rw[PySem.ofString_length];omega
theorem wQ{x:Str}{p:Pos}(i:Nat)(hN:X.N[i]?=some x:=by rfl)(hv:qU X.env.scope x:=by first|exact Or.inl rfl|exact Or.inr (Or.inl rfl)|exact Or.inr (Or.inr rfl))(hd:(x==("__debug__" : Str))=false:=by decide)(hcd:(x==("__classdict__" : Str))=false:=by decide):PM X (.FormattedValue (.Name x p) (-1) none pos) (fun σ=>∃n:Int,σ[i]?=some (some (.int n))/\n.natAbs<1000):=fun pins s σ H I ⟨n,e,hn⟩=>by
 refine FormattedValue_plain (aW (xp (pos:=p) hN hv hd hcd pins s σ H (fun v H'=>v=.int n/\H'=H) I ⟨.int n,e,rfl,rfl⟩) fun u s1 ⟨v,H1,I1,r,hv,hH⟩=>?_);subst hv;subst hH;obtain⟨tk,rfl⟩:∃tk,u=.int n tk:=r;exact wR (e:=.Name x p) (pos:=pos) hn I1 tk
theorem Ff{x:Str}{p:Pos}{n:Int}(hg:Gl X x)(hm:∃t,X.mg x=some (.int n t))(hn:n.natAbs<1000:=by decide)(hd:(x==("__debug__" : Str))=false:=by decide):PM X (.FormattedValue (.Name x p) (-1) none pos) (fun _=>True):=fun pins s σ H I _=>by
 obtain⟨tk,hm⟩:=hm;refine FormattedValue_plain (kZ I hg hm ?_ hd);exact wR (e:=.Name x p) (pos:=pos) hn I tk
theorem sX:qW X [] (fun _=>True):=fun out pins s σ H hl I _=>joinParts_nil (I.tok _) (by simpa using hl)
theorem kf{t t':St->Prop}(h1:PM X e t)(h2:qW X es t'):qW X (e::es) (fun σ=>t σ/\t' σ):=fun out pins s σ H hl I q=>by
 show wpAny _ _ (joinParts out (eval e X.env::evalEach es X.env)) _ _ _;refine joinParts_cons (aW (h1 pins s σ H I q.1) fun u s1 ⟨⟨y,tk,hu,hy⟩,I1⟩=>?_);subst hu;have hz:(out++y).length=out.length+y.length:=strLen_append _ _;simp only[length_cons] at hl;exact⟨by omega,h2 (out++y) pins s1 σ H (by omega) I1 q.2⟩
theorem sV{e1 e2:Expr}{t:St->Prop}(h:qW X (e1::e2::es) t)(hl:1000*(es.length+2)<=sizeLine:=by decide):PX X (.JoinedStr (e1::e2::es) pos) t:=fun pins s σ H I q =>
 JoinedStr_many (h Str.empty pins s σ H (by show 0+1000*(es.length+2)<=sizeLine;rw[zero_add];exact hl) I q)
theorem GH{E:XK}{C:Addr}{x:Str}{t:St->Prop}(hx:gg X E)(hex:X.ex=[])(xc:XC X.K C)(hg:Gl X x)(hm:X.mg x=some (.ref C))(hh:X.A.handled=none)(ha:PX X e t)(he:starEach [e] X.env=[(false,eval e X.env)]:=by rfl)(hd:(x==("__debug__" : Str))=false:=by decide) :
  PS X (.Raise (some (.Call (.Name x np) [e] [] cpos)) none pos) (fun _ σ H=>t σ/\E (.ref C) none H):=by
 intro pins s σ H D I hq;obtain⟨bm,N,nm,qn,bs,hdct,sn,sub,ab,col,dd,k0,k1,k2,k3,k5,mN,hC,hN,hni,T⟩:=xc.obj I.ok.mod.kin;refine wpAny_Raise_call_subU (C:=C) (nm:=nm) (q:=qn) (N:=N) (bs:=bs) (bm:=bm) (hdct:=hdct) (sn:=sn) (sub:=sub) (ab:=ab) (col:=col) (dd:=dd) (k0:=k0) (k1:=k1) (k2:=k2) (k3:=k3) (k5:=k5)
  excBase_ValueError (by decide) excBase_ValueError (mN:=mN) (T.hasType excBase_ValueError.hasBase) hh (by rw[he];rfl) hni (kZ I hg hm ⟨rfl,?_⟩ hd)
 rw[he];refine Calls.evalArgs_plain (Calls.spliced_cons (aW (ha pins s σ H I hq.1) fun u s1 I1=>Calls.spliced_nil ?_));refine⟨rfl,(by show 1<=sizeLine;decide),I1.bk _ _ hC,hN.keeps I1.bk,T.keeps I1.bk,fun h' b hm=>?_⟩;obtain⟨tt,e1,e2,e3⟩:=hm.there;refine hx pins σ H { s1 with heap:=h' } b (.ref C) (I1.kept (t':=s1.toks) hm.keeps) ⟨_,_,_,nR hex I1 hm.new,?_,e1,rfl,rfl,rfl,.inl rfl⟩ hq.2;cases q:H b with
 | none=>rfl
 | some o=>obtain⟨u,e⟩:=(I1.hok b o q).there;rw[hm.new] at e;cases e
section
variable {σ:St} {cls:Value}
theorem Inv.flown(I:Inv X pins σ H s)(hex:X.ex=[])(F:ju (dj X.stack) (Nw X pins) H a cls s.heap h'):Inv X pins σ H { s with heap:=h' }:=by
 have neL:∀b o,X.s₀.heap.get? b=some o->b≠X.env.locals:=fun b o e=>ne_of_lt (lt_of_lt_of_le (Heap.lt_size e) I.ok.above);have hs0:∀b o,X.s₀.heap.get? b=some o->¬Nw X pins b:=fun b o e n=>by rw[n.1] at e;cases e
 have stk:∀b,b≠X.env.locals->b∉X.fs->b∉dj X.stack:=fun b h1 h2=>I.stkNe h1 h2;have anyK:∀b o,s.heap.get? b=some o->(¬Nw X pins b\/∀vs,o.data≠.fields vs)->∃sl,h'.get? b=some { o with slots:=sl }:=fun b o e hn=>by
  by_cases hm:b∈dj X.stack
  ·exact F.slot b o e hm
  ·exact⟨o.slots,F.keep b o e hm (.inr hn)⟩
 have cellK:∀x c,X.env.cells.lookup x=some c->∀v,s.heap.IsCell c v->h'.IsCell c v:=fun x c e v ⟨o,ho,hd⟩=>by
  obtain⟨sl,q⟩:=anyK c o ho (.inr fun vs q=>by rw[hd] at q;cases q);exact⟨_,q,hd⟩
 refine⟨I.ok,I.os,I.bare,⟨fun b o e n hb hx=>?_,fun b o e n hb hx=>?_,I.base.free,fun b o e hx=>?_,I.base.tups,I.base.frzs,I.base.tbls⟩,?_,fun x c e=>?_,I.free,I.freeC,fun p hp=>?_,fun b o e=>?_,I.len⟩
 ·exact F.keep b o (I.base.keep b o e n hb hx) (stk b (neL b o e) hb) (.inr (.inl (hs0 b o e)))
 ·obtain⟨sl,e1⟩:=I.base.slot b o e n hb hx;obtain⟨sl',e2⟩:=anyK b _ e1 (.inl (hs0 b o e));exact⟨sl',e2⟩
 ·obtain⟨o',e1⟩:=I.base.there b o e hx;obtain⟨sl',e2⟩:=anyK b _ e1 (.inl (hs0 b o e));exact⟨_,e2⟩
 ·obtain⟨m,hn,hl⟩:=I.loc;obtain⟨oL,es,ep,hoL,hdL,r⟩:=id hn;obtain⟨sl,q⟩:=anyK _ oL hoL (.inr fun vs q=>by rw[hdL] at q;cases q);refine⟨m,⟨_,es,ep,q,hdL,r⟩,fun i x v e1 e2 e3=>?_⟩;obtain⟨u,r,l⟩:=hl i x v e1 e2 e3;refine⟨u,r,?_⟩;rcases l with l|⟨k,c,e,z⟩
  ·exact .inl l
  ·exact .inr ⟨k,c,e,cellK x c e _ z⟩
 ·obtain⟨v,z⟩:=I.cell x c e;exact⟨v,cellK x c e v z⟩
 ·obtain⟨e,n,ne,nf,d⟩:=I.pin p hp;exact⟨F.keep p.1 p.2 e (stk _ ne nf) (.inr (.inl fun hn=>hn.2 p hp rfl)),n,ne,nf,d⟩
 ·refine(I.hok b o e).stay (fun c u hc r=>?_) (fun _ q=>q) fun _ _ q=>q;have hH:H c≠none:=by
   rcases hc with rfl|hc
   ·rw[e];simp
   ·rw[hc];simp
  exact F.keep c u r (fun hm=>hH (I.stkFree c hm)) (.inl hH)
theorem Fl.nw(I:Inv X pins σ H s)(hex:X.ex=[])(F:ju (dj X.stack) (Nw X pins) H a cls s.heap h'):Fl (Nw X pins) a cls H h':=F.fl.mono fun b hb=>hb.elim id fun hb=>nR hex I hb
theorem JK{M:Model}{Q:Unit->Shared->Prop}(f:Fl N a cls H s.heap)(h:Q () s):wpAny M A (setFlight (.ref a) none) Q E s:=by
 obtain⟨oe,vs,a0,_,_,he,_,hd,h0,h1⟩:=f;unfold setFlight;rcases h1 with h1|⟨T,oT,ts,h1,_,_,_,hT,hdT,h3⟩
 ·refine wpAny_bind (wpAny_field he hd h1 ?_);rw[if_neg (by decide)];exact wpAny_pure h
 ·refine wpAny_bind (wpAny_field he hd h1 ?_);rw[if_pos (show(Value.ref T != Value.none)=true from by simp)];refine wpAny_setField hT hdT (Array.getElem?_eq_some_iff.mp h3).1 ?_;show Q () { s with heap:=s.heap.update T (Obj.mapFields (·.setIfInBounds 3 Value.none)) };rw[Heap.update_setField_same s.heap T oT ts 3 Value.none hT hdT h3];exact h
end
abbrev Cx.hnd(X:Cx)(a:Addr):Cx:={ X with A:=X.A.mark (some (.ref a)),calm:=false,xe:=fun _ _=>False }
section
variable {σ:St}
theorem Cx.Ok.hnd(ok:X.Ok)(a:Addr):(X.hnd a).Ok :=
 ⟨ok.mod,ok.kind,ok.glob,ok.blt,ok.above,ok.inj,ok.has,ok.cab,fun h=>absurd (show false=true from h) Bool.false_ne_true,ok.frames,ok.stk,ok.exf,ok.bs,ok.bsz,ok.noex,ok.exfs,ok.funs,ok.frf⟩
theorem Inv.hnd(I:Inv X pins σ H s)(a:Addr):Inv (X.hnd a) pins σ H s:=⟨I.ok.hnd a,I.os,I.bare,I.base,I.loc,I.cell,I.free,I.freeC,I.pin,I.hok,I.len⟩
theorem Inv.unhnd(ok:X.Ok)(I:Inv (X.hnd a) pins σ H s):Inv X pins σ H s:=⟨ok,I.os,I.bare,I.base,I.loc,I.cell,I.free,I.freeC,I.pin,I.hok,I.len⟩
theorem SP.unhnd{D:Ends}{f:Flow}{s':Shared}(ok:X.Ok)(h:SP (X.hnd a) pins D f s'):SP X pins D f s':=by
 cases f with
 | next=>obtain⟨σ',H',I,q⟩:=h;exact⟨σ',H',I.unhnd ok,q⟩
 | brk=>obtain⟨σ',H',I,q⟩:=h;exact⟨σ',H',I.unhnd ok,q⟩
 | cont=>obtain⟨σ',H',I,q⟩:=h;exact⟨σ',H',I.unhnd ok,q⟩
 | ret u=>obtain⟨v,σ',H',I,r,q⟩:=h;exact⟨v,σ',H',I.unhnd ok,r,q⟩
end
section
def PH(X:Cx)(h:ExceptHandler)(th:Value->TS):Prop:=∀(pins:List (Addr×Obj)) (s:Shared) (σ:St) (H:Hp) (D:Ends) (a:Addr) (cls:Value),Inv X pins σ H s->Fl (Nw X pins) a cls H s.heap->th cls D σ H ->
 wpAny (model X.prog X.w) X.A (handleBy (.ref a) X.env [h]) (SP X pins D) X.xe s
def XP(X:Cx)(pins:List (Addr×Obj))(σ:St)(E:XK)(e:Value)(s':Shared):Prop:=∃a cls H',e=.ref a/\Inv X pins σ H' s'/\Fl (Nw X pins) a cls H' s'.heap/\E cls none H'
def Bw(X:Cx)(e:Expr)(t:XK->TE):Prop:=∀(pins:List (Addr×Obj)) (s:Shared) (σ:St) (H:Hp) (Q:VK) (E:XK),Inv X pins σ H s->t E σ H Q->wpAny (model X.prog X.w) X.A (eval e X.env) (EP X pins σ Q) (XP X pins σ E) s
def PB(X:Cx)(b:List Stmt)(t:XK->TS):Prop:=∀(pins:List (Addr×Obj)) (s:Shared) (σ:St) (H:Hp) (D:Ends) (E:XK),Inv X pins σ H s->t E D σ H->wpAny (model X.prog X.w) X.A (execs b X.env) (SP X pins D) (XP X pins σ E) s
theorem D2{b:List Stmt}{h:ExceptHandler}{t:XK->TS}(hst:X.stack=X.env::X.outer)(hf:X.env.frame=some X.env.locals)(hex:X.ex=[])(hb:PB X b t)(hh:PH X h th) :
  PS X (.Try b [h] [] [] pos) (fun D σ H=>t (fun cls _ H'=>th cls D σ H') D σ H):=by
 intro pins s σ H D I q;refine wpAny_Try_except (wpAny_mono (hb pins s σ H D _ I q) (fun f s1 z=>?_) fun e s1 ⟨a,cls,H',e1,I1,fl,z⟩=>?_)
 ·cases f with
  | next=>exact wpAny_execs_nil z
  | brk=>exact z
  | cont=>exact z
  | ret u=>exact z
 ·subst e1;exact flown I1 hst hf fl fun h' F=>hh pins _ σ H' D a cls (I1.flown hex F) (Fl.nw I1 hex F) z
variable {x:Str} {p:Pos} {t:TA}
theorem GG(F:au X.prog X.w X.K X.mg X.base (aX X.prog X.w) k f fd ps sp)(hr:bo k X.A)(hex:X.ex=[])(hg:Gl X x)(hm:X.mg x=some (.ref f))(hk:keepIn X.K (.ref f)=true)(hb:Binds X.K fd ps [])(ha:PA X.nox (e::es) t)(hdb:(x==("__debug__" : Str))=false:=by decide)(he:starEach (e::es) X.env=(false,eval e X.env)::starEach es X.env:=by rfl)(hpl:(backTo pos (starEach es X.env)).any (·.1)=false:=by rfl) :
  Bw X (.Call (.Name x p) (e::es) [] pos) (fun E σ H Q=>t σ H fun vs H1=>sp vs H1 Q E):=by
 intro pins s σ H Q E I h;refine wpAny_Call_Name_kw (kZ I hg hm ?_ hdb);refine callWith_K (h₀:=X.base) I.ok.mod.kin hk (wpAny_mono (ha pos pins s σ H _ (I.wish _) h) (fun us s1 ⟨vs,H1,I1,r,q⟩=>⟨I1.unwish.kIn,?_⟩) fun _ _ z=>z.elim) he hpl;have I1:=I1.unwish;have hl:(us++[]).length=ps.length:=by rw[append_nil,<- r.length];exact F.len _ _ _ _ q
 have hb':=hb s1 us I1.kIn hl;rw[append_nil] at hb';refine wpAny_call (codeAny_mono (F.run X.A X.stack s1 H1 ⟨us,[]⟩ us vs Q E hr I1.env0 hb' r q) fun r s' hq=>?_);cases r with
 | error e =>
  obtain⟨a,cls,H',rfl,ho,hgn,u,hok,fl,z⟩:=hq;exact⟨a,cls,H',rfl,I1.call' ho u hok hgn (fun b z=>absurd z (by simp)),fl.mono fun b hb=>nR hex I1 hb,z⟩
 | ok fl =>
  cases fl with
  | ret u=>exact I1.after hq
  | next=>exact False.elim hq
  | brk=>exact False.elim hq
  | cont=>exact False.elim hq
variable {te:XK->TE}
theorem D1(hN:X.N.Nodup)(hi:X.N[i]?=some x)(hx:Loc X.env.scope x)(he:Bw X e te)(hs:swapsWith e (some (.Name x pos')) pos.line X.env=pure false:=by rfl)(hf:X.fn x=true\/X.env.scope.names.lookup x=some .local:=by first|exact .inl rfl|exact .inr rfl|assumption):PB X [.Assign [.Name x pos'] e pos] (fun E D σ H=>te E σ H fun v H1=>D.nx (σ.set i (some v)) H1):=by intro pins s σ H D E I h;refine wpAny_execs_cons (wpAny_Assign_Name (wpAny_mono (he pins s σ H _ E I h) (fun v s1 ⟨y,H1,I1,r1,q1⟩=>?_) fun _ _ z=>z) hs);exact tS I1 hN hi hx r1 (fun s2 I2=>wpAny_execs_nil ⟨_,H1,I2,q1⟩) hf
end
end L2
variable {g:Array GenState} {os:OsState}
namespace L2
open PySem.W PySem.Builtin PySem.Builtin.ObjectAttr PySem.Builtin.Getset_descriptor
section
variable {d:Drawn} {t:Nat} {C:Addr} {o:Obj}
def vn(K:Frag)(C:Addr):Bool:=findIn K (.ref C) "__getattribute__" == some (some (.builtin "BaseException.__getattribute__"))&&findIn K (.ref C) "__getattr__" == some none &&
 findIn K (.ref C) "__class__" == some (some (.builtin "object.__class__"))&&mroIn K C (.type "object")==some true&&mroIn K C (.type "BaseException")==some true&&(clsIn K C).isSome
end
end L2
namespace L2
end L2
variable {od:Option Addr} {nm cn:Str} {anc:List Str} {E':XK} {df:List W->M W} {hpos epos p2:Pos} {hd:d_->DS} {b0:Stmt} {suite:List Stmt}
namespace VS
def clOf(K:Frag)(nm:Str):Addr:=match nsIn K mainGlobals nm with
 | some (some (.ref C))=>C
 | _=>0
def qO(K:Frag):d_->Value->Option Addr->Hp->Prop:=fun x cv od F=>od=none/\match x.fld with
 | none=>cv=.ref (clOf K x.nm)
 | some (f,w)=>∃(D:Addr) (n:Int),cv=.int (D:Int) (clOf K x.nm)/\w=.int n/\F D=some (.ext (u9 D f n))
abbrev Gy(K:Frag):Ga:=⟨K,clOf K,qO K⟩
theorem D0{x:d_}{cv:Value}(h:qO K x cv od F):tgC cv=some (clOf K x.nm):=by
 obtain⟨_,h⟩:=h;split at h
 ·subst h;rfl
 ·obtain⟨D,n,rfl,_⟩:=h;rfl
abbrev lg:=List (Str×Bool×List Str)
def qZ(K:Frag)(tb:lg):Bool:=tb.all fun p=>nsIn K mainGlobals p.1==some (some (.ref (clOf K p.1)))&&(!p.2.1||excIn K (clOf K p.1) uZ "ValueError.__new__")&&vn K (clOf K p.1)&&kitOne K (.ref (clOf K p.1)) (.type "ValueError")==some true &&
 tb.all fun q=>kitOne K (.ref (clOf K p.1)) (.ref (clOf K q.1))==some (p.2.2.contains q.1)&&mroIn K (clOf K p.1) (.ref (clOf K q.1))==some (p.2.2.contains q.1)
structure XT (K:Frag) (mg:Str->Option Value) (tb:lg):Prop where
 ok:qZ K tb=true
 mg:∀p∈tb,mg p.1=some (.ref (clOf K p.1))
variable {tb:lg}
theorem BO(X:K.In h)(G:h.Ns mainGlobals mg)(ok:qZ K tb=true):XT K mg tb:=by refine⟨ok,fun p hp=>?_⟩;have:=all_eq_true.mp ok p hp;simp only[and_eq_true,beq_iff_eq] at this;exact mg_of X G this.1.1.1.1
theorem XT.x(T:XT K mg tb){fl:Bool}(h:(nm,fl,anc)∈tb):vn K (clOf K nm)=true/\kitOne K (.ref (clOf K nm)) (.type "ValueError")=some true /\
  ∀q∈tb,kitOne K (.ref (clOf K nm)) (.ref (clOf K q.1))=some (anc.contains q.1)/\mroIn K (clOf K nm) (.ref (clOf K q.1))=some (anc.contains q.1):=by
 have:=all_eq_true.mp T.ok _ h;simp only[and_eq_true,beq_iff_eq,all_eq_true] at this;exact⟨this.1.1.2,this.1.2,fun q hq=>this.2 q hq⟩
theorem XT.xc(T:XT K mg tb)(h:(nm,true,anc)∈tb):XC K (clOf K nm):=by have:=all_eq_true.mp T.ok _ h;simp only[Bool.not_true,Bool.false_or,and_eq_true,beq_iff_eq,all_eq_true] at this;exact this.1.1.1.2
def mL(tb:lg)(nm:Str):Option (List Str):=match tb.find? (fun p=>p.1==nm) with
 | some p=>some p.2.2
 | none=>none
theorem HM(h:mL tb nm=some anc):∃fl,(nm,fl,anc)∈tb:=by
 unfold mL at h;split at h
 ·rename_i p e;cases h;have h1:=mem_of_find?_eq_some e;have h2:=find?_some e;simp only[beq_iff_eq] at h2;obtain⟨a,b,c⟩:=p;dsimp only at h2;subst h2;exact⟨b,h1⟩
 ·cases h
def mm(tb:lg)(nm:Str):Option (List Str):=match tb.find? (fun p=>p.1==nm&&p.2.1) with
 | some p=>some p.2.2
 | none=>none
theorem qi(h:mm tb nm=some anc):(nm,true,anc)∈tb:=by
 unfold mm at h;split at h
 ·rename_i p e;cases h;have h1:=mem_of_find?_eq_some e;have h2:=find?_some e;simp only[and_eq_true,beq_iff_eq] at h2;obtain⟨a,b,c⟩:=p;dsimp only at h2;obtain⟨rfl,rfl⟩:=h2;exact h1
 ·cases h
def noX{α:Type}(m:M α):M α:=fun ce=>match m ce with
 | some (.ok a ce')=>some (.ok a ce')
 | _=>none
section
variable {α β:Type} {E:XK} {RP:Hp->List Addr->α->β->Prop}
theorem toT.noX{d:Sl->M α}{σ:VS.St}{H:Hp}{Q:β->Hp->Prop}(h:toT G E RP (fun sl=>VS.noX (d sl)) σ H Q):toT G E' RP d σ H Q:=by
 obtain⟨F,as,sl,ce,S,P⟩:=h;refine⟨F,as,sl,ce,S,?_⟩;unfold VS.noX at P;dsimp only at P;split at P
 ·rename_i a ce' e;rw[e];exact P
 ·exact(show False from P).elim
def iS{α:Type}(d:Sl->M α):Sl->M α:=fun sl=>noX (d sl)
theorem DZ(h:PE X e (ax G E0 d)):PE X e (ax G E (iS d)):=PE.imp h fun _ _ _ z=>z.noX
theorem DY{d:Sl->M Bool}(h:PT X e (cq G E0 d)):PT X e (cq G E (iS d)):=PT.imp h fun _ _ _ z=>z.noX
end
def nB(sl:Sl)(i:Nat):Bool:=match sl[i]? with
 | some (some (.int n))=>decide (n.natAbs<1000)
 | _=>false
def jf(nm:Str)(l:List Nat):DS:=fun sl ce=>if l.all (nB sl)=true then some (.ex ⟨nm,none⟩ ce) else none
section
variable {E:XK} {x:Str} {t:L2.St->Prop}
theorem tW(hx:gg X E)(hK:X.K=K)(T:XT K X.mg tb)(hm:mm tb x=some anc)(hex:X.ex=[])(hg:Gl X x)(hh:X.A.handled=none)(ha:PX X e t)(ht:∀σ:L2.St,(∀i∈l,∃n:Int,σ[i]?=some (some (.int n))/\n.natAbs<1000)->t σ)(he:starEach [e] X.env=[(false,eval e X.env)]:=by rfl)(hd:(x==("__debug__" : Str))=false:=by decide) :
  PS X (.Raise (some (.Call (.Name x np) [e] [] cpos)) none pos) (bq (Gy K) E (jf x l)):=by
 have hmem:=qi hm;have hx':=T.xc hmem;refine PS.imp (GH (E:=E) (C:=clOf K x) hx hex (by rw[hK];exact hx') hg (T.mg _ hmem) hh ha he hd) fun D σ H zz_=>bN zz_ fun F as sl ce S P=>?_;unfold jf at P;split at P
 ·rename_i h;refine⟨ht σ fun i hi=>?_,P H F as (.ref (clOf K x)) none .refl S.st ⟨rfl,rfl⟩⟩;have:=all_eq_true.mp h i hi;unfold nB at this;split at this
  ·rename_i n e;obtain⟨v,e1,e2⟩:=S.slot i _ e;simp only[Rep] at e2;subst e2;exact⟨n,e1,of_decide_eq_true this⟩
  ·cases this
 ·exact(show False from P).elim
end
def o5(d:DS):DS:=fun sl ce=>match d sl ce with
 | some (.go f sl' ce')=>some (.go f sl' ce')
 | _=>none
def vm(put:Option Nat)(sl:Sl)(w:W):Sl:=match put with
 | some i=>sl.set i (some w)
 | none=>sl
def By(put:Option Nat)(σ:VS.St)(v:V):VS.St:=match put with
 | some i=>σ.set i (some v)
 | none=>σ
def kB(c:Sl->M W)(put:Option Nat)(ok:d_->Bool)(hd:d_->DS):DS:=fun sl ce=>match c sl ce with
 | some (.ok w ce')=>some (.go .nx (vm put sl w) ce')
 | some (.ex x ce')=>if ok x=true then hd x sl ce' else none
 | none=>none
def m8(tb:lg)(cn:Str)(x:d_):Bool:=match mL tb x.nm with
 | some anc=>anc.contains cn&&tb.any (fun p=>p.1==cn)
 | none=>false
section
variable {E:XK} {x:Str} {p:Pos} {h:ExceptHandler} {ok:d_->Bool} {ds:DS}
def Bv(K:Frag)(E:XK)(X:Cx)(h:ExceptHandler)(ok:d_->Bool)(hd:d_->DS):Prop:=∃th:Value->TS,PH X h th/\∀D σ H F as sl ce (x:d_) (cv:Value),SR (Gy K) F as H σ sl ce->qO K x cv none F->ok x=true->bB (Gy K) E D F as (hd x sl ce)->th cv D σ H
theorem HL{D:Ends}(P:bB G E D F as (o5 ds sl ce)):bB G E' D F as (ds sl ce):=by
 unfold o5 at P;split at P
 ·rename_i e;rw[e];exact P
 ·exact(show False from P).elim
theorem Fe{G:Ga}{D:Ends}{σ:VS.St}{put:Option Nat}(hh:∀D σ H F as sl ce (x:d_) (cv:Value),SR (Gy K) F as H σ sl ce->qO K x cv none F->ok x=true->bB (Gy K) E D F as (hd x sl ce)->th cv D σ H)(S:SR (Gy K) F as H σ sl ce)(P:bB (Gy K) E D F as (kB (aP n df (iS dr)) put ok hd sl ce)) :
  fL (Gy K) E0 dr σ H fun vs H1=>hZ (Gy K) (fun E=>E) n df vs H1 (fun v H2=>D.nx (By put σ v) H2) (fun cls _ H'=>th cls D σ H'):=by
 refine⟨F,as,sl,ce,S,?_⟩;unfold kB aP iS noX az at P;dsimp only at P;cases e:dr sl ce with
 | none=>rw[e] at P;exact(show False from P).elim
 | some r=>cases r with
  | ex y ce'=>rw[e] at P;exact(show False from P).elim
  | ok ws ce1 =>
   rw[e] at P;dsimp only at P;intro vs H1 F1 as1 l1 S1 rs;split at P
   ·rename_i w ce2 e2;split at e2
    ·rename_i hl;refine⟨by rw[rs.length];exact hl,F1,as1,ws,ce1,S1.st,rs,?_⟩;rw[e2];intro v H2 F2 as2 l2 S2 rv;have S3:=S1.slots S2 l2;cases put with
     | none=>exact P σ H2 F2 as2 (l1.trans l2) S3
     | some i=>exact P _ H2 F2 as2 (l1.trans l2) (S3.put rv i)
    ·cases e2
   ·rename_i x ce2 e2;split at e2
    ·rename_i hl;refine⟨by rw[rs.length];exact hl,F1,as1,ws,ce1,S1.st,rs,?_⟩;rw[e2];split at P
     ·rename_i hok;intro H2 F2 as2 cv od l2 S2 hx;obtain⟨rfl,hx⟩:=hx;exact hh D σ H2 F2 as2 sl ce2 x cv (S1.slots S2 l2) ⟨rfl,hx⟩ hok (P.le (l1.trans l2))
     ·exact(show False from P).elim
    ·cases e2
   ·exact(show False from P).elim
theorem Fd{y:Str}(hst:X.stack=X.env::X.outer)(hf:X.env.frame=some X.env.locals)(hex:X.ex=[])(hN:X.N.Nodup)(hi:X.N[i]?=some y)(hx:Loc X.env.scope y)(Fk:au X.prog X.w X.K X.mg X.base (aX X.prog X.w) k f fd ps (hZ (Gy K) (fun E=>E) n df))(hr:bo k X.A)(hg:Gl X x)(hm:X.mg x=some (.ref f))(hk:keepIn X.K (.ref f)=true)(hb:Binds X.K fd ps [])(ha:PA X.nox (e::es) (fL (Gy K) E0 dr))(hh:Bv K E X h ok hd)(hdb:(x==("__debug__" : Str))=false:=by decide)(he:starEach (e::es) X.env=(false,eval e X.env)::starEach es X.env:=by rfl)(hpl:(backTo cpos (starEach es X.env)).any (·.1)=false:=by rfl)(hs:swapsWith (.Call (.Name x p) (e::es) [] cpos) (some (.Name y pos')) epos.line X.env=pure false:=by rfl)(hfn:X.fn y=true\/X.env.scope.names.lookup y=some .local:=by first|exact .inl rfl|exact .inr rfl|assumption) :
  PS X (.Try [.Assign [.Name y pos'] (.Call (.Name x p) (e::es) [] cpos) epos] [h] [] [] pos) (bq (Gy K) E (kB (aP n df (iS dr)) (some i) ok hd)):=by
 obtain⟨th,hh1,hh2⟩:=hh;exact PS.imp (D2 hst hf hex (D1 hN hi hx (GG Fk hr hex hg hm hk hb ha hdb he hpl) hs hfn) hh1) fun D σ H zz_=>bN zz_ fun F as sl ce S P=>Fe (G:=Gy K) hh2 S P
end
section
variable {E:XK} {p:Pos} {w:W}
end
theorem DX(F:au P w K mg base (aX P w) k f fd ps sp):au P w K mg base CX0 k f fd ps (fun vs H Q _=>sp vs H Q E0):=by
 refine⟨fun vs H Q E h=>F.len vs H Q E0 h,fun A outer s H args us vs Q E hr he hb hv hs=>codeAny_mono (F.run A outer s H args us vs Q E0 hr he hb hv hs) fun r s' h=>?_⟩;cases r with
 | error e=>obtain⟨_,_,_,_,_,_,_,_,_,z⟩:=h;exact z
 | ok fl=>cases fl<;>exact h
theorem Fc{G:Frag->Ga}{d:List W->M W}(nl:oY K=true)(h:au P w K mg base (aX P w) k f fd ps (hZ (G K) (fun E=>E) 1 d)):au P w K mg base CX0 k f fd ps (spLaw G d K):=(DX h).imp fun _ _ _ _ q=>q nl
def Xt(T:d_->Ce->Prop):O->Prop
 | .ex x ce=>T x ce
 | _=>False
section
variable {a b:DS} {x:d_}
theorem HK(h:l.all (nB sl)=true)(q:Q (.ex ⟨nm,none⟩ ce)):Run (jf nm l) sl ce Q:=⟨_,by unfold jf;rw[if_pos h],q⟩
theorem Fb(h:Run a sl ce (Xt fun x c=>Q (.ex x c))):Run (ay a b) sl ce Q:=by
 obtain⟨o,e,q⟩:=h;cases o with
 | ex x c=>exact⟨_,by simp only[ay,e],q⟩
 | go f sl' c=>exact(show False from q).elim
theorem Ai(h:l.all (nB sl)=true)(q:Q (.ex ⟨nm,none⟩ ce)):Run (ay (jf nm l) b) sl ce Q:=Fb (HK h q)
variable {f:List W->M W} {e:Sl->M W}
theorem pT{α:Type}{d:Sl->M α}{v:α}(h:d sl ce=some (.ok v c1)):iS d sl ce=some (.ok v c1):=by simp only[iS,noX,h]
theorem zu(sl:Sl)(e:ws.map some++List.replicate (n-ws.length) none=sl)(h:Run body sl ce (Xt fun y c'=>y=x/\∃t,c'=ce++t)):bO fin n body ws ce=some (.ex x ce):=by
 subst e;obtain⟨o,e,q⟩:=h;cases o with
 | go f sl' c=>exact(show False from q).elim
 | ex y c =>
  obtain⟨rfl,t,rfl⟩:=q;have hc:j6 ce (ce++t):=⟨by simp,fun k c hk e=>.inl (by rw[getElem?_append_left hk] at e;exact e)⟩
  simp only[bO,e];rw[if_pos hc];simp
theorem GF{c:Sl->M W}{put:Option Nat}{ok:d_->Bool}{w:W}(h:c sl ce=some (.ok w c1))(q:Run b (vm put sl w) c1 Q):Run (ay (kB c put ok hd) b) sl ce Q:=iV (by simp only[kB,h]) q
variable {α:Type} {en:α->W} {src:Src} {g:DG} {zs:List α}
end
end VS
namespace L2
end L2
namespace VS
section
variable {E:XK}
end
end VS
namespace L2
end L2
namespace VS
section
variable {E:XK}
end
end VS
namespace HT
end HT
variable {te:TE} {ts:TO}
namespace L2
section
variable {st:Expr}
end
end L2
variable {dc:Sl->M W}
namespace VS
section
variable {E:XK} {a:Expr}
end
theorem us1(h:∀a,bindArgs fd { pos:=[a] }=pure (ps.zip [a])):∀us:List Value,us.length=1->bindArgs fd { pos:=us }=pure (ps.zip us)
 | [a],_=>h a
theorem us2(h:∀a b,bindArgs fd { pos:=[a,b] }=pure (ps.zip [a,b])):∀us:List Value,us.length=2->bindArgs fd { pos:=us }=pure (ps.zip us)
 | [a,b],_=>h a b
theorem us3(h:∀a b c,bindArgs fd { pos:=[a,b,c] }=pure (ps.zip [a,b,c])):∀us:List Value,us.length=3->bindArgs fd { pos:=us }=pure (ps.zip us)
 | [a,b,c],_=>h a b c
theorem us4(h:∀a b c d,bindArgs fd { pos:=[a,b,c,d] }=pure (ps.zip [a,b,c,d])):∀us:List Value,us.length=4->bindArgs fd { pos:=us }=pure (ps.zip us)
 | [a,b,c,d],_=>h a b c d
theorem us5(h:∀a b c d e,bindArgs fd { pos:=[a,b,c,d,e] }=pure (ps.zip [a,b,c,d,e])):∀us:List Value,us.length=5->bindArgs fd { pos:=us }=pure (ps.zip us)
 | [a,b,c,d,e],_=>h a b c d e
def lI:List W->Option (List Key)
 | []=>some []
 | x::r=>match fK x,lI r with
  | some k,some ks=>some (k::ks)
  | _,_=>none
def kP:W->Option (List Key)
 | .tup xs=>lI xs
 | _=>none
def lA(ce:Ce):W->Option (Nat×List (List Key×W))
 | .cel k=>match ce[k]? with
  | some (.dtp xs)=>some (k,xs)
  | _=>none
 | _=>none
def valG{κ:Type}[DecidableEq κ](kvs:List (κ×W))(k:κ):Option W:=(kvs.find? fun kv=>decide (kv.1=k)).map (·.2)
section
variable {κ:Type} [DecidableEq κ] {kvs:List (κ×W)} {ps:List (κ×V)}
theorem aD.valG(r:aD F as kvs ps)(k:κ):(VS.valG kvs k=none/\gn ps k=none)\/∃w v,VS.valG kvs k=some w/\gn ps k=some v/\Rep F as w v:=by
 induction r with
 | nil=>exact .inl ⟨rfl,rfl⟩
 | @cons p q l1 l2 h t ih =>
  obtain⟨e,rv⟩:=h
  by_cases hk:p.1=k
  ·refine .inr ⟨p.2,q.2,?_,oN (by rw[<- e];exact hk),rv⟩;simp[VS.valG,find?_cons,hk]
  ·have e1:VS.valG (p::l1) k=VS.valG l1 k:=by simp only[VS.valG,find?_cons,hk,decide_false]
   rw[e1,oM (by rw[<- e];exact hk)];exact ih
end
section
variable {w:W}
theorem Ah:∀{ws:List W} {vs:List V} {ks:List Key},aj F as ws vs->lI ws=some ks->vs=ks.map kV
 | [],_,_,r,e=>by simp only[aj] at r;simp only[lI,Option.some.injEq] at e;subst e;exact r
 | x::ws,_,_,r,e=>by
  simp only[aj] at r;obtain⟨v,r',rfl,h,t⟩:=r;simp only[lI] at e;split at e
  ·rename_i k ks hk hks;cases e;rw[nk h hk,Ah t hks,map_cons]
  ·cases e
theorem tV{ks:List Key}(r:Rep F as w v)(e:kP w=some ks):∃b,v=.ref b/\F b=some (.tup (ks.map kV)):=by cases w<;>simp only[kP,reduceCtorEq] at e;simp only[Rep] at r;obtain⟨a,vs,rfl,h,q⟩:=r;rw[Ah q e] at h;exact⟨a,rfl,h⟩
theorem tU{xs:List (List Key×W)}(S:aB G F as H ce)(r:Rep F as w v)(e:lA ce w=some (k,xs)):∃a ps,v=.ref a/\as[k]?=some a/\H a=some (.dT ps)/\aD F as xs ps:=by
 cases w<;>simp only[lA,reduceCtorEq] at e;split at e
 ·rename_i hc;cases e;simp only[Rep] at r;obtain⟨a,rfl,h⟩:=r;obtain⟨_,ps,h2,rs⟩:=S.cell _ _ _ h hc;exact⟨a,ps,rfl,h,h2,rs⟩
 ·cases e
end
def lz(ng:Bool)(ce:Ce)(x y:W):Option W:=match kP x,lA ce y with
 | some k,some (_,kvs)=>some (.bl (if ng then !(valG kvs k).isSome else (valG kvs k).isSome))
 | _,_=>none
section
variable {E:XK} {a b c:Expr}
theorem GD(ng:Bool)(σ:L2.St)(H:Hp)(Q:VK)(h:ax G E (aC (lz ng) da db) σ H Q) :
  ax G E da σ H fun y H1=>ax G E db σ H1 fun x H2=>∃a o,x=.ref a/\c9 H2 a y o/\Q (.bl (if ng then !o.isSome else o.isSome)) H2:=by
 obtain⟨F,as,sl,ce,S,P⟩:=h;refine(step S P).mono fun x H1 zz_=>bu zz_ fun wx F1 as1 ce1 l1 S1 rx P1=>(step S1 P1).mono fun y H2 zz_=>bu zz_ fun wy F2 as2 ce2 l2 S2 ry P2=>?_;obtain⟨w,e,P3⟩:=jP P2;unfold lz at e;split at e
 ·rename_i k n kvs hk hd;cases e;obtain⟨a,ps,rfl,ha,hH,rk⟩:=tU S2.st ry hd;obtain⟨b,rfl,hb⟩:=tV (rx.le l2) hk;refine⟨a,_,rfl,c9.t hH (S2.st.sub _ _ hb),?_⟩;rcases rk.valG k with ⟨e1,e2⟩|⟨w,v,e1,e2,_⟩
  ·rw[e1] at P3;rw[e2];exact P3.done S2 (by simp only[Rep];cases ng<;>rfl)
  ·rw[e1] at P3;rw[e2];exact P3.done S2 (by simp only[Rep];cases ng<;>rfl)
 ·cases e
theorem Ap(hu:X.A.units+1<cLine)(ha:PE X a (ax G E da))(hb:PE X b (ax G E db))(h1:behindInMarks .NotIn b=false):PT X (.Compare a [.NotIn] [b] pos) (cq G E (dB (aC (lz true) da db))):=pE ⟨_,zP hu ha hb,GD true⟩ h1
end
section
variable {a b o i v:Sl->M W} {x y w:W}
theorem sg{xs:List (List Key×W)}(h:ce[k]?=some (.dtp xs)):lA ce (.cel k)=some (k,xs):=by simp only[lA,h]
end
end VS
namespace L2
open PySem.MeetsSeq
open PySem.AutoSeq1 (wpAny_loadPart')
end L2
namespace VS
section
variable {E:XK}
end
end VS
namespace L2
section
variable {st:Expr}
end
end L2
namespace VS
section
variable {E:XK} {a:Expr}
end
end VS
namespace L2
def Km(xs:Array Nat):Prop:=xs.toList.Pairwise (·<·)
structure Kl (t:SetTable):Prop where
 dum:t.dummies=#[]
 ris:t.plain=true->Km t.place
end L2
variable {I:Addr} {ep:Nat} {pos2:Pos}
namespace L2
def iv:Value->Int
 | .int k _=>k
 | _=>0
section
variable {ds:List Int} {led:Bool}
def KA(prog:Program)(w:World)(h:Heap)(a:Addr)(ds:List Int)(led:Bool):Prop :=
 ∃o es ep t,h.get? a=some o/\o.ExactSet/\o.data=.set es ep t/\ElemsOf (intKind prog w) es.toList/\es.size<scanBound/\t.fits es.size=true/\Kl t/\t.led=led/\(∀e∈es.toList,∃k tk,e.2=.int k tk)/\(es.toList.map fun e=>iv e.2).Perm ds
end
section
variable {R:Result->Shared->Prop} {fp wr:List Addr} {G:Array GenState->Array GenState->Prop} {P:Nat->Value->Prop} {St:Nat->Shared->Prop}
end
section
variable {o:Obj} {es:Array (Int×Value)} {t:SetTable}
end
section
variable {T:Addr} {o:Obj} {es:Array (Int×Value)} {t:SetTable} {sl sl':Nat} {x:Value} {Q:Option Value->Shared->Prop}
end
section
variable {T:Addr} {o:Obj} {es:Array (Int×Value)} {t:SetTable} {ds:List Int}
end
section
variable {ds:List Int}
end
section
variable {t:TA} {p:Pos}
end
end L2
namespace VS
section
variable {E:XK} {p:Pos}
end
end VS
namespace L2
open PySem.AutoSeq1 (wpAny_loadPart')
def rW(prog:Program)(w:World)(A:Around)(s:Shared)(x y:Value):Prop:=∀(E:Value->Shared->Prop) (Q:Bool->Shared->Prop),Q false s->wpAny (model prog w) A (oneLt' true x y) Q E s
theorem E_{st:SortSt}{x y p q:Value}{Q:Option Bool->SortSt->Prop}(hk:kindOf st=oneType')(hi:(arrOf st)[i]?=some (x,p))(hj:(arrOf st)[j]?=some (y,q))(hl:rW prog w A s x y)(h:Q (some false) st) :
  wpS (model prog w) A E s (ltAt' i j) Q st:=by
 rw[ltAt'_eq];refine wpS_bind (wpS_get ?_);show wpS _ _ _ _ (do let x <- elem' (arrOf st) i;let y <- elem' (arrOf st) j;lt' x y) Q st;rw[elem'_eq,elem'_eq,hi,hj];refine wpS_bind (wpS_pure (wpS_bind (wpS_pure ?_)));rw[lt'_eq];refine wpS_bind (wpS_get ?_);rw[hk,keyLt'_oneType];refine wpS_bind (wpS_lift (wpAny_attempt (hl _ _ ⟨rfl,?_⟩)));exact wpS_pure h
def rV(prog:Program)(w:World)(A:Around)(s:Shared)(arr:Array Keyed):Prop:=∀i,i+1<arr.size->∃x p y q,arr[i]?=some (x,p)/\arr[i+1]?=some (y,q)/\rW prog w A s y x
theorem IW{st:SortSt}{Q:Option Nat->SortSt->Prop}(hk:kindOf st=oneType')(R:rV prog w A s (arrOf st))(h1:1<=n)(hn:n=(arrOf st).size)(h:Q (some n) st):wpS (model prog w) A E s (countRun' 0 n) Q st:=by
 rw[countRun0_eq];refine wpS_bind (wpS_mono (Q:=fun c st'=>st'=st/\c=(none,n)) ?_ ?_)
 ·unfold ascLoop;refine wpS_forRange (I:=fun x c st'=>st'=st/\c=(none,x)) ?step ?fin ⟨rfl,rfl⟩
  case fin =>
   rintro c st' ⟨rfl,rfl⟩;rw[show max 1 n=n by omega];exact⟨rfl,rfl⟩
  case step =>
   rintro x c st' hax hxn ⟨rfl,rfl⟩;dsimp only;obtain⟨u,p,v,q,h1,h2,hl⟩:=R (x-1) (by omega);rw[show x-1+1=x by omega] at h2;refine wpS_bind (E_ hk h2 h1 hl ?_);simp only[false_eq_true,if_false];exact wpS_pure ⟨rfl,rfl⟩
 ·rintro c st' ⟨rfl,rfl⟩;dsimp only;rw[if_pos (by simp)];exact wpS_pure h
theorem wj:∀f n r:Nat,minRun' f n r<=n+r
 | 0,n,r=>le_refl _
 | f+1,n,r=>by
  rw[minRun'_succ];split
  ·exact le_refl _
  ·have:=wj f (n / 2) (max r (n % 2));omega
theorem HJ{st:SortSt}{Q:Unit->SortSt->Prop}(hB:SBase (arrOf st) st)(R:rV prog w A s (arrOf st))(h2:2<=(arrOf st).size)(h:∀st',arrOf st'=arrOf st->failedOf st'=none->Q () st'):wpS (model prog w) A E s sortRuns' Q st:=by
 rw[sortRuns'_eq];refine wpS_bind (wpS_get ?_);dsimp only;have hmr:=wj (arrOf st).size (arrOf st).size 0;generalize minRun' (arrOf st).size (arrOf st).size 0=mr at hmr ⊢;refine wpS_bind (wpS_mono (wpS_forRange
  (I:=fun x c st'=>(x=0/\c=(none,0)/\st'=st)\/(1<=x/\c=(none,(arrOf st).size)/\st'=setPending st #[(0,(arrOf st).size,0)]))
  (Q:=fun c st'=>c=(none,(arrOf st).size)/\st'=setPending st #[(0,(arrOf st).size,0)]) ?step ?fin (.inl ⟨rfl,rfl,rfl⟩)) ?post)
 case fin =>
  rintro c st' (⟨hx,_,_⟩|⟨_,hc,hD⟩)
  ·omega
  ·exact⟨hc,hD⟩
 case step =>
  rintro x c st' _ hx (⟨rfl,rfl,rfl⟩|⟨hx1,rfl,rfl⟩)
  ·dsimp only;rw[if_neg (by omega)];simp only[sub_zero,zero_add];refine wpS_bind (IW hB.kind R (by omega) rfl ?_);dsimp only;rw[if_neg (by omega)];refine wpS_bind (wpS_get ?_);have hb:(pendingOf st').back?=none:=by rw[hB.pend];rfl
   rw[hb];dsimp only;refine wpS_bind (wpS_modify (wpS_pure (.inr ⟨by omega,rfl,?_⟩)));show setPending st' ((pendingOf st').push (0,(arrOf st').size,0))=_;rw[hB.pend];rfl
  ·dsimp only;rw[if_pos (le_refl _)];exact wpS_pure ⟨rfl,rfl⟩
 case post =>
  rintro c st' ⟨rfl,rfl⟩;dsimp only;refine wpS_bind (wpS_mono (wpS_forRange (I:=fun _ c st''=>st''=setPending st #[(0,(arrOf st).size,0)]/\c=(none,())) (Q:=fun c st''=>st''=setPending st #[(0,(arrOf st).size,0)]/\c=(none,())) ?_ (fun _ _ hh=>hh) ⟨rfl,rfl⟩) ?_)
  ·rintro x c st'' _ _ ⟨rfl,rfl⟩;refine wpS_bind (wpS_get ?_);rw[if_pos (by exact le_refl 1)];exact wpS_pure ⟨rfl,rfl⟩
  ·rintro c st'' ⟨rfl,rfl⟩;exact wpS_pure (h _ rfl hB.failed)
end L2
variable {vs:List Value}
namespace L2
open PySem.MeetsSeq PySem.MeetsSeq3
open PySem.AutoSeq1 (wpAny_loadPart')
theorem sU{α β:Type}{f:α->Sem β}{c:α->β}:∀(vs:List α) {Q:List β->Shared->Prop},(∀v∈vs,∀Q':β->Shared->Prop,Q' (c v) s->wpAny (model prog w) A (f v) Q' E s)->Q (vs.map c) s->wpAny (model prog w) A (vs.mapM f) Q E s
 | [],Q,_,h=>by rw[mapM_nil];exact wpAny_pure h
 | v::vs,Q,hf,h=>by
  rw[mapM_cons];refine wpAny_bind (hf v mem_cons_self _ ?_);refine wpAny_bind (sU vs (fun u hu=>hf u (mem_cons_of_mem _ hu)) ?_);exact wpAny_pure h
theorem Jn(h0:vs≠[])(hT:∀v∈vs,s.TypeIs v "list"){Q:SortKind->Shared->Prop}(h:Q oneType' s):wpAny (model prog w) A (keyKind' vs.toArray) Q E s:=by
 obtain⟨v₁,cX,rfl⟩:∃v r,vs=v::r:=by cases vs with|nil=>exact absurd rfl h0|cons v r=>exact⟨v,r,rfl⟩
 rw[keyKind'_eq,mapM_toArray];refine wpAny_bind ?_;rw[map_eq_pure_bind];refine wpAny_bind (sU (c:=fun _=>(none:Option Value)) _ (fun v hv Q' hq=>?_) ?_)
 ·show wpAny _ _ (typeOf v >>= fun t=>if (t != Value.type "tuple")=true then pure none else _) _ _ s;refine wpAny_bind (wpAny_typeOf (hT v hv) ?_);rw[if_pos (by decide)];exact wpAny_pure hq
 refine wpAny_pure ?_;rw[if_neg (by simp),if_neg (by simp)];refine wpAny_bind ?_;rw[oneTypeOnly'_eq,mapM_toArray];refine wpAny_bind ?_;rw[map_eq_pure_bind];refine wpAny_bind (sU (c:=fun _=>Value.type "list") _ (fun v hv Q' hq=>wpAny_typeOf (hT v hv) hq) ?_);refine wpAny_pure ?_;have hall:((List.map (fun _=>Value.type "list") (v₁::cX)).toArray.all fun x=>x==Value.type "list")=true:=by simp only[all_toArray,all_map,all_eq_true];intro _ _;rfl
 have h0':(List.map (fun _=>Value.type "list") (v₁::cX)).toArray[0]?=some (Value.type "list"):=by simp
 rw[h0'];simp only[hall,if_true];exact wpAny_pure (wpAny_pure h)
end L2
namespace L2
def kS(h:Heap)(a:Addr)(vs:List Value):Heap:=((h.update a (Obj.mapSeq fun _=>#[])).push (seqObj "tuple" vs.toArray 0)).push (seqObj "list" #[] 0)
theorem E9{b:Addr}{o:Obj}(hb:h.get? b=some o)(hne:b≠a):(kS h a vs).get? b=some o:=by unfold kS;refine Heap.get?_push_of_some _ (Heap.get?_push_of_some _ ?_);exact(Heap.get?_update_other _ _ (Ne.symm hne)).trans hb
theorem HI(vs:List Value):(pairsOf vs).map (·.2)=vs.toArray:=by
 apply toList_inj.mp;rw[toList_map,pairsOf_toList]
 induction vs with
 | nil=>rfl
 | cons v vs ih=>simp only[zip_cons_cons,map_cons,ih]
theorem Jm{P:Fin->Shared->Prop}(ho:s.heap.get? a=some (seqObj "list" vs.toArray n))(hT:∀v∈vs,Shared.TypeIs { s with heap:=kS s.heap a vs } v "list")(R:rV prog w A { s with heap:=kS s.heap a vs } (pairsOf vs))(h64:vs.length<=sizeLine)(h:P (.done (.ret .none)) { s with heap:=sortedHeap s.heap a vs vs.toArray }) :
  wpAny (model prog w) A (Builtin.«list.sort» ⟨[.ref a],[]⟩) P E s:=by
 rw[list_sort_plain];have ha:a<s.heap.objs.size:=Heap.lt_size ho;refine wpAny_bind (listItems_at ho rfl ?_);refine wpAny_bind (listUpdate_at ho rfl ?_);obtain⟨e1,ho1⟩:∃e1,(s.heap.update a (Obj.mapSeq fun _=>#[])).get? a=some (seqObj "list" #[] e1):=⟨_,get?_update_seq ho (fun _=>#[])⟩
 refine wpAny_bind (seqEpoch_at ho1 rfl ?_);refine wpAny_bind (wpAny_newTuple ?_);refine wpAny_bind (wpAny_newList ?_);refine wpAny_holding ?_;have ho6:(((s.heap.update a (Obj.mapSeq fun _=>#[])).push (seqObj "tuple" vs.toArray 0)).push (seqObj "list" #[] 0)).get? a=some (seqObj "list" #[] e1):=by rw[Heap.get?_push_ne _ _ _ (by rw[size_push',Heap.size_update];exact ne_of_lt (lt_succ_of_lt ha)),Heap.get?_push_ne _ _ _ (by rw[Heap.size_update];exact ne_of_lt ha)];exact ho1
 show wpAny (model prog w) A _ P E { s with heap:=((s.heap.update a (Obj.mapSeq fun _=>#[])).push (seqObj "tuple" vs.toArray 0)).push (seqObj "list" #[] 0) };dsimp only;have hsz:vs.toArray.size=vs.length:=by simp
 have ps:=HI vs
 by_cases h2:vs.toArray.size<2
 ·rw[if_pos h2,if_pos h2];refine wpAny_bind (wpAny_pure ?_);rw[StateT.run_pure];refine wpAny_bind (wpAny_pure ?_);dsimp only;refine wpAny_bind (seqEpoch_at ho6 rfl ?_);refine wpAny_bind (listUpdate_at ho6 rfl ?_ (hsz2:=by rw[size_map];show(pairsOf vs).size<=_;rw[pairsOf_size];first|exact h64|exact le_succ_of_le h64));simp only[bne_self_eq_false,false_eq_true,if_false];refine wpAny_pure ?_;rw[<- ps] at h;exact h
 ·rw[if_neg h2,if_neg h2];have hne:vs≠[]:=fun e=>by subst e;simp at h2
  refine wpAny_bind (Jn (s:={ s with heap:=kS s.heap a vs }) hne hT ?_);have hps:(arrOf (SortSt.mk' oneType' (vs.toArray.zip vs.toArray) #[] 7 none))=pairsOf vs:=rfl;refine wpAny_bind (wpAny_mono (HJ (s:={ s with heap:=kS s.heap a vs }) (st:=SortSt.mk' oneType' (vs.toArray.zip vs.toArray) #[] 7 none)
   (Q:=fun _ st'=>arrOf st'=pairsOf vs/\failedOf st'=none) ⟨Array.Perm.refl _,rfl,rfl,rfl⟩ R (by rw[hps,pairsOf_size];omega) fun st' a1 a2=>⟨a1,a2⟩) ?_ fun _ _ e=>e)
  rintro⟨⟨⟩,st'⟩ s' ⟨rfl,hp,hf⟩;dsimp only;refine wpAny_bind (seqEpoch_at ho6 rfl ?_);refine wpAny_bind (listUpdate_at ho6 rfl ?_ (hsz2:=by show((arrOf st').map (·.2)).size<=_;rw[hp,size_map,pairsOf_size];exact le_succ_of_le h64));rw[hf];simp only[bne_self_eq_false,false_eq_true,if_false];refine wpAny_pure ?_;rw[<- ps,<- hp] at h;exact h
theorem IsList.old{p:Addr}{its:Array Value}(x:h.IsList p its)(e:∀o,h.get? p=some o->h'.get? p=some o):h'.IsList p its :=
 let ⟨o,ho,r⟩:=x;⟨o,e _ ho,r⟩
end L2
namespace VS
section
variable {E:XK}
end
section
variable {E:XK} {a b c:Expr}
end
section
variable {E:XK}
end
end VS
variable {S:Addr} {tpos:Pos}
namespace L2
theorem AI{M:Model}(X:K.In h)(xs:XC K S):PySem.W.Looks M h (isExcClass (.ref S)) true:=by
 obtain⟨bm,N,nm,qn,bs,hdct,sn,sub,ab,col,dd,k0,k1,k2,k3,k5,mN,hC,hN,hni,T⟩:=xs.obj X;have hcB:(Value.ref S::bm).contains (.type "BaseException")=true:=by rw[contains_cons,T.hasType excBase_ValueError.hasBase,Bool.or_true]
 intro A Q E s k q;obtain⟨hh,g,d,tk,os⟩:=s;have k:∀b o,h.get? b=some o->hh.get? b=some o:=k;have hC:=k _ _ hC;have f:=tc_notTuple;unfold isExcClass
 repeat (first|with_reducible refine wpAny_loadPart_at hC ?_|(with_reducible refine wpAny_isSubtype_exc hC ?_;rw[hcB])|wp_step)
 exact q
open PySem.W in
theorem JS{M:Model}{Q:Bool->Shared->Prop}{C S1 S2 tp:Addr}{b1 b2:Bool}(X:K.In s.heap)(he:s.heap.get? a=some oe)(hcls:oe.cls=.ref C)(x1:XC K S1)(x2:XC K S2)(hp:s.heap.get? tp=some { cls:=.type "tuple",data:=.seq [Value.ref S1,.ref S2].toArray })(m1:mroIn K C (.ref S1)=some b1)(m2:mroIn K C (.ref S2)=some b2)(h:Q (b1||b2) s):wpAny M A (excMatches (.ref a) (.ref tp)) Q E s:=by
 have e1:=AI (M:=M) X x1;have e2:=AI (M:=M) X x2;have S1':=looks_mroIn (M:=M) X m1;have S2':=looks_mroIn (M:=M) X m2;have LT0:Looks M s.heap (isInstance (.ref tp) (.type "tuple")) true:=((Looks.ld hp).andThen .now).andThen (Looks.of_pure isSubtype_tuple_tuple);have LT:Looks M s.heap (typeOf (.ref a)) (.ref C):=by rw[<- hcls];exact(Looks.ld he).andThen .now
 obtain⟨hh,g,d,tk,os⟩:=s;unfold excMatches;refine wpAny_bind (LT0.at ?_);dsimp only;rw[if_pos rfl]
 first
  | refine wpAny_bind (wpAny_seqItems hp rfl ?_)
  | refine wpAny_bind (wpAny_bind (wpAny_seqItems hp rfl (wpAny_pure ?_)))
 dsimp only[getD_some,Option.getD];cases b1<;>cases b2<;>((repeat (first|simp only[forIn_cons,forIn_nil,Bool.not_true,false_eq_true,if_false,if_true]|lk));exact h)
theorem Fl.push{cls:Value}{o:Obj}{x:HO}(f:Fl N a cls H h):Fl N a cls (upd H h.objs.size x) (h.push o):=by obtain⟨oe,vs,a0,n,h1,h2,h3,h4,h5,h6⟩:=f;refine⟨oe,vs,a0,n,by rw[cj (ne_of_lt (Heap.lt_size h2))];exact h1,Heap.get?_push_of_some _ h2,h3,h4,h5,h6.imp id ?_⟩;rintro⟨T,oT,ts,e1,e2,e3,e4,e5,e6⟩;exact⟨T,oT,ts,e1,e2,by rw[cj (ne_of_lt (Heap.lt_size e5))];exact e3,e4,Heap.get?_push_of_some _ e5,e6⟩
theorem DW{S1 S2:Addr}{c1 c2:Str}{p1:Pos}{x1}{ts:TS}(g1:Gl X c1)(m1:X.mg c1=some (.ref S1))(s1:XC X.K S1)(g2:Gl X c2)(m2:X.mg c2=some (.ref S2))(s2:XC X.K S2)(hs:∀a,PSs (X.hnd a) (b0::suite) ts)(d1:(c1==("__debug__" : Str))=false:=by decide)(d2:(c2==("__debug__" : Str))=false:=by decide)(st1:starEach [.Name c1 p1,.Name c2 p2] X.env=(false,eval (.Name c1 p1) X.env)::starEach [.Name c2 p2] X.env:=by rfl)(st2:starEach [.Name c2 p2] X.env=(false,eval (.Name c2 p2) X.env)::starEach [] X.env:=by rfl) :
  PH X (.ExceptHandler (some (.Tuple [.Name c1 p1,.Name c2 p2] x1 tpos)) none (b0::suite) hpos) (fun cls D σ H=>(∃C q1 q2,VS.tgC cls=some C/\mroIn X.K C (.ref S1)=some q1/\mroIn X.K C (.ref S2)=some q2/\(q1||q2)=true)/\∀t,H t=none->ts D σ (upd H t (.tup [V.ref S1,V.ref S2]))):=by
 intro pins s σ H D a cls I fl ⟨⟨C,q1,q2,hC,r1,r2,hq12⟩,hq⟩;refine wpAny_handleBy_cons (codeAny_handlers_test (wpAny_Tuple_spliced ?_)) (by intro q;cases q);show wpAny _ _ (spliced (backTo tpos (starEach [.Name c1 p1,.Name c2 p2] (X.hnd a).env))) _ _ s;have st1:starEach [.Name c1 p1,.Name c2 p2] (X.hnd a).env=(false,eval (.Name c1 p1) (X.hnd a).env)::starEach [.Name c2 p2] (X.hnd a).env:=st1;have st2:starEach [.Name c2 p2] (X.hnd a).env=(false,eval (.Name c2 p2) (X.hnd a).env)::starEach [] (X.hnd a).env:=st2;rw[st1];refine Calls.spliced_cons (kZ (X:=X.hnd a) (I.hnd a) g1 m1 ?_ d1);rw[st2];refine Calls.spliced_cons (kZ (X:=X.hnd a) (I.hnd a) g2 m2 ?_ d2);refine Calls.spliced_nil ⟨(show 2<=sizeLine by decide),?_⟩;obtain⟨oe,vs,a0,_,_,he,hc,_⟩:=id fl;have I':Inv X pins σ (upd H s.heap.objs.size (.tup [V.ref S1,V.ref S2])) { s with heap:=s.heap.push { cls:=.type "tuple",data:=.seq [Value.ref S1,.ref S2].toArray } } :=
  I.laid (t':=s.toks) (fun b u e=>Heap.get?_push_of_some _ e) (le_refl _) ⟨(show 2<=sizeLine by decide),[.ref S1,.ref S2],.cons rfl (.cons rfl .nil),⟨_,Heap.get?_push_size _ rfl,rfl,⟨_,rfl⟩,rfl⟩⟩
 refine JS I'.kIn (Heap.get?_push_of_some _ he) (hc.cls hC) s1 s2 (Heap.get?_push_size _ rfl) r1 r2 ?_;rw[hq12];have hf:H s.heap.objs.size=none:=I.hok.fresh (le_refl _);exact codeAny_handlers_suite (JK (fl.push (x:=.tup [V.ref S1,V.ref S2])) (wpAny_mono (hs a pins _ σ _ D (I'.hnd a) (hq _ hf)) (fun f s2 z=>z.unhnd I.ok) fun _ _ z=>z.elim))
end L2
variable {tb:lg}
namespace VS
section
variable {E:XK} {c1 c2:Str} {p1:Pos} {ds:DS}
theorem Ao(T:XT K mg tb){x:d_}(h:mL tb x.nm=some anc){an:List Str}(hc:mm tb cn=some an):mroIn K (clOf K x.nm) (.ref (clOf K cn))=some (anc.contains cn) :=
 ((T.x (HM h).choose_spec).2.2 _ (qi hc)).2
theorem C6{a1 a2:List Str}{x1}(hK:X.K=K)(T:XT K X.mg tb)(h1:mm tb c1=some a1)(h2:mm tb c2=some a2)(g1:Gl X c1)(g2:Gl X c2)(hs:∀a,PSs (X.hnd a) (b0::suite) (bq (Gy K) E0 ds))(d1:(c1==("__debug__" : Str))=false:=by decide)(d2:(c2==("__debug__" : Str))=false:=by decide)(st1:starEach [.Name c1 p1,.Name c2 p2] X.env=(false,eval (.Name c1 p1) X.env)::starEach [.Name c2 p2] X.env:=by rfl)(st2:starEach [.Name c2 p2] X.env=(false,eval (.Name c2 p2) X.env)::starEach [] X.env:=by rfl) :
  Bv K E X (.ExceptHandler (some (.Tuple [.Name c1 p1,.Name c2 p2] x1 tpos)) none (b0::suite) hpos) (fun x=>m8 tb c1 x||m8 tb c2 x) (fun _=>o5 ds):=by
 have e1:=qi h1;have e2:=qi h2;refine⟨_,DW g1 (T.mg _ e1) (by rw[hK];exact T.xc e1) g2 (T.mg _ e2) (by rw[hK];exact T.xc e2) hs d1 d2 st1 st2,fun D σ H F as sl ce x cv S xr hx P=>?_⟩;obtain⟨anc,ha⟩:∃anc,mL tb x.nm=some anc:=by
  cases q:mL tb x.nm with
  | some anc=>exact⟨anc,rfl⟩
  | none=>simp only[m8,q] at hx;cases hx
 refine⟨⟨_,anc.contains c1,anc.contains c2,D0 xr,by rw[hK];exact Ao T ha h1,by rw[hK];exact Ao T ha h2,by simp only[m8,ha,or_eq_true,and_eq_true] at hx;rw[or_eq_true];exact hx.imp And.left And.left⟩,fun t ht=>?_⟩;have keep:∀b o,H b=some o->upd H t (.tup [V.ref (clOf K c1),V.ref (clOf K c2)]) b=some o:=fun b o q=>by rw[cj (fO q ht)];exact q
 have S2:aB (Gy K) F as (upd H t (.tup [V.ref (clOf K c1),V.ref (clOf K c2)])) ce:=by refine⟨fun b o q=>keep b o (S.st.sub b o q),S.st.nd,S.st.len,fun j b c q1 q2=>?_⟩;obtain⟨z1,z2⟩:=S.st.cell j b c q1 q2;obtain⟨o,ho⟩:=z2.tracked;exact⟨z1,z2.le .refl (by rw[ho];exact keep b o ho)⟩
 exact⟨F,as,sl,ce,⟨S2,S.len,S.slot⟩,HL P⟩
end
end VS
variable {ta:TE}
namespace L2
section
variable {C:Addr} {x m:Str} {p:Pos} {o:Expr} {t:TA}
end
end L2
variable {value:Expr}
namespace VS
def putA(f:Str)(v:W):List (Str×W)->List (Str×W)
 | []=>[(f,v)]
 | (g,x)::r=>if g=f then (g,v)::r else (g,x)::putA f v r
section
variable {fs:List (Str×W)} {ps:List (Str×V)}
theorem aD.look{w:W}{f:Str}(r:aD F as fs ps)(e:fs.lookup f=some w):∃v,ps.lookup f=some v/\Rep F as w v:=by
 induction r with
 | nil=>cases e
 | @cons p q l1 l2 h t ih =>
  obtain⟨a,x⟩:=p;obtain⟨b,y⟩:=q;obtain⟨e1,rv⟩:=h;dsimp only at e1 rv;subst e1;rw[lookup_cons] at e ⊢;split at e
  ·rename_i h;cases e;exact⟨y,rfl,rv⟩
  ·rename_i h;exact ih e
theorem aD.lookN{f:Str}(r:aD F as fs ps)(e:fs.lookup f=none):ps.lookup f=none:=by
 induction r with
 | nil=>rfl
 | @cons p q l1 l2 h t ih =>
  obtain⟨a,x⟩:=p;obtain⟨b,y⟩:=q;obtain⟨e1,rv⟩:=h;dsimp only at e1 rv;subst e1;rw[lookup_cons] at e ⊢;split at e
  ·cases e
  ·exact ih e
theorem aD.putA{w:W}{v:V}(r:aD F as fs ps)(f:Str)(rv:Rep F as w v):aD F as (VS.putA f w fs) (fA f v ps):=by
 induction r with
 | nil=>exact .cons ⟨rfl,rv⟩ .nil
 | @cons p q l1 l2 h t ih =>
  obtain⟨a,x⟩:=p;obtain⟨b,y⟩:=q;obtain⟨e1,rx⟩:=h;dsimp only at e1 rx;subst e1;simp only[VS.putA,fA];split
  ·exact .cons ⟨rfl,rv⟩ t
  ·exact .cons ⟨rfl,rx⟩ ih
end
def j4(ce:Ce)(c:Str):W->Option (Nat×List (Str×W))
 | .cel k=>match ce[k]? with
  | some (.ins c' fs)=>if c'=c then some (k,fs) else none
  | _=>none
 | _=>none
section
variable {E:XK} {σ:VS.St} {w:W} {c:Str} {fs:List (Str×W)}
theorem tT(S:aB G F as H ce)(r:Rep F as w v)(h:j4 ce c w=some (k,fs)):∃a dx ps,v=.ref a/\as[k]?=some a/\H a=some (.ins (G.cl c) dx ps)/\aD F as fs ps:=by
 unfold j4 at h;split at h
 ·rename_i j;split at h
  ·rename_i c' fs' e;split at h
   ·rename_i hc;cases h;subst hc;simp only[Rep] at r;obtain⟨a,rfl,ha⟩:=r;obtain⟨_,dx,ps,h1,h2⟩:=S.cell _ a _ ha e;exact⟨a,dx,ps,rfl,ha,h1,h2⟩
   ·cases h
  ·cases h
 ·cases h
end
def iy(c f:Str)(d:Sl->M W):Sl->M W:=fun sl=>az (d sl) fun x=>look fun ce=>match j4 ce c x with
 | some p=>p.2.lookup f
 | none=>none
def jF(c f:Str)(d v:Sl->M W):DS:=fun sl ce=>cL (v sl ce) fun w ce1=>cL (d sl ce1) fun x ce2=>match j4 ce2 c x with
 | some (k,fs)=>if fs.length<1000 then some (.go .nx sl (ce2.set k (.ins c (putA f w fs)))) else none
 | none=>none
def iA(c m:Str)(n:Nat)(df:List W->M W)(d:Sl->M W)(dr:Sl->M (List W)):Sl->M W:=fun sl=>az (d sl) fun x=>az (look fun ce=>match j4 ce c x with
 | some p=>if p.2.lookup m=none then some () else none
 | none=>none) fun _=>az (dr sl) fun ws=>if ws.length+1=n then df (x::ws) else lK
def rT(k:Nat):Option (R W)->Option (R W)
 | some (.ok .non ce')=>some (.ok (.cel k) ce')
 | some (.ex x ce')=>some (.ex x ce')
 | _=>none
def pv(c:Str)(n:Nat)(df:List W->M W)(dr:Sl->M (List W)):Sl->M W:=fun sl=>az (dr sl) fun ws ce=>if ws.length+1=n then rT ce.length (df (.cel ce.length::ws) (ce++[.ins c []])) else none
section
variable {E E1:XK} {x c m:Str} {p:Pos} {o:Expr} {dv:Sl->M W}
theorem jH(hc:L2.Cls X.K (G.cl c))(hn:L2.NoAttr X.K (G.cl c) m)(he:PE X e (ax G E d))(hb:attributeBase e m X.env (eval e X.env)=eval e X.env:=by rfl):PE X (.Attribute e m pos) (ax G E (iy c m d)):=by
 refine PE.imp (Er he hb) fun σ H Q zz_=>bN zz_ fun F as sl ce S P=>(step S P).mono fun x H1 zz_=>bu zz_ fun wx F1 as1 ce1 l1 S1 rx P1=>?_;obtain⟨w,e1,P2⟩:=jP P1;split at e1
 ·rename_i q hq;obtain⟨j,fs⟩:=q;obtain⟨a,dx,ps,rfl,ha,hH,rk⟩:=tT S1.st rx hq;obtain⟨v,e4,rv⟩:=rk.look e1;exact⟨a,_,dx,ps,v,rfl,hH,hc,hn,e4,P2.done S1 rv⟩
 ·cases e1
theorem ou(hc:L2.Cls X.K (G.cl c))(hn:L2.NoAttr X.K (G.cl c) m)(ho:PE X o (ax G E d))(hv:PE X value (ax G E dv))(hs:swapsWith value (some (.Attribute o m pos')) pos.line X.env=pure false:=by rfl) :
  PS X (.Assign [.Attribute o m pos'] value pos) (bq G E (jF c m d dv)):=by
 refine PS.imp (Ep ho hv hs) fun D σ H zz_=>bN zz_ fun F as sl ce S P=>(iD S P).mono fun y H1 zz_=>bu zz_ fun wy F1 as1 ce1 l1 S1 ry P1=>(iD S1 P1).mono fun x H2 zz_=>bu zz_ fun wx F2 as2 ce2 l2 S2 rx P2=>?_;split at P2
 ·rename_i j fs hq;split at P2
  ·rename_i hl;obtain⟨a,dx,ps,rfl,ha,hH,rk⟩:=tT S2.st rx hq;refine⟨a,_,dx,ps,rfl,hH,hc,hn,by rw[<- Paired.length rk];exact hl,?_⟩;exact P2 _ _ _ _ .refl (S2.slots (S2.st.write (o:=.ins (G.cl c) dx (fA m y ps)) (c:=.ins c (putA m wy fs)) ha ⟨_,_,eB,rk.putA m (ry.le l2)⟩) .refl)
  ·exact(show False from P2).elim
 ·exact(show False from P2).elim
theorem GC{σ:VS.St}{Q:VK}(S:SR G F as H σ sl ce)(P:aO G E Rep F as σ sl Q (iA c m n df d dr sl ce)) :
  ax G E d σ H fun x H1=>∃a dx fs,x=.ref a/\H1 a=some (.ins (G.cl c) dx fs)/\fs.lookup m=none/\fL G E dr σ H1 fun vs H2=>vs.length+1=n/\∃F2 as2 ws ce2,SR G F2 as2 H2 σ sl ce2/\aj F2 as2 ws (x::vs)/\aO G E Rep F2 as2 σ sl Q (df ws ce2):=by
 refine(step S P).mono fun x H1 zz_=>bu zz_ fun wx F1 as1 ce1 l1 S1 rx P1=>?_;unfold az at P1;unfold look at P1;dsimp only at P1;split at P1
 ·rename_i u ce' e1;cases hq:j4 ce1 c wx with
  | none=>rw[hq] at e1;cases e1
  | some q =>
   obtain⟨j,fs⟩:=q;rw[hq] at e1;dsimp only at e1;split at e1
   ·rename_i hl;cases e1;obtain⟨a,dx,ps,rfl,ha,hH,rk⟩:=tT S1.st rx hq;refine⟨a,dx,ps,rfl,hH,rk.lookN hl,?_⟩;refine(step (RP:=aj) S1 P1).mono fun vs H2 zz_=>bu zz_ fun ws F2 as2 ce2 l2 S2 rs P2=>?_;split at P2
    ·rename_i hn;exact⟨by rw[rs.length];exact hn,F2,as2,wx::ws,ce2,S2,.cons (rx.le l2) rs,P2⟩
    ·exact(show False from P2).elim
   ·cases e1
 ·rename_i e1;cases hq:j4 ce1 c wx with
  | none=>rw[hq] at e1;cases e1
  | some q=>rw[hq] at e1;dsimp only at e1;split at e1<;>cases e1
 ·exact P1.elim
theorem kR{pl:Sem Bool}(hc:L2.Cls X.K (G.cl c))(hm:L2.Meth X.K (G.cl c) m f)(Fk:au X.prog X.w X.K X.mg X.base CX k f fd ps (hZ G fe n df))(hr:bo k X.A)(hb:Binds X.K fd ps [])(hx:jM CX X E1)(he:PE X o (ax G E d))(ha:PA X (e::es) (fL G E dr))(hfe:fe E1=E:=by rfl)(hst:starEach (e::es) X.env=(false,eval e X.env)::starEach es X.env:=by rfl)(hpl:(backTo pos (starEach es X.env)).any (·.1)=false:=by rfl)(ht:eval (.Call (.Attribute o m apos) (e::es) [] pos) X.env=(do
   let ov <- eval o X.env
   standAt apos.atName
   let (f,first) <- holding [ov] (getMethod ov m pl)
   callWith pos f first (backTo pos (starEach (e::es) X.env)) (backToKw pos (keywordEach [] X.env))):=by rfl) :
  PE X (.Call (.Attribute o m apos) (e::es) [] pos) (ax G E (iA c m n df d dr)):=by
 refine PE.imp (FG he hc hm Fk hr hb .nil hx ha hst hpl ht) fun σ H Q zz_=>bN zz_ fun F as sl ce S P=>(GC S P).mono fun x H1 h=>?_;obtain⟨a,dx,fs,e1,e2,e3,h⟩:=h;refine⟨a,dx,fs,e1,e2,e3,h.mono fun vs H2 h=>?_⟩;obtain⟨hn,F2,as2,ws,ce2,S2,rs,P2⟩:=h;rw[append_nil];exact⟨hn,F2,as2,ws,ce2,S2.st,rs,by rw[hfe];exact eY.of S2 P2⟩
theorem aB.other{q:Addr}{ho:HO}(S:aB G F as H ce)(hp:H q=none):aB G F as (upd H q ho) ce:=by
 refine⟨fun a u e=>?_,S.nd,S.len,fun k a c' h1 h2=>?_⟩
 ·rw[cj (fO (S.sub _ _ e) hp)];exact S.sub _ _ e
 ·obtain⟨q1,q2⟩:=S.cell k a c' h1 h2;obtain⟨u,hu⟩:=q2.tracked;exact⟨q1,q2.le .refl (cj (fO hu hp))⟩
theorem GB{σ:VS.St}{Q:VK}{vs:List V}{x dx:Addr}(S:SR G F as H σ sl ce)(rs:aj F as ws vs)(hx:H x=none)(hdx:H dx=none)(hne:dx≠x)(hl:ws.length+1=n)(P:aO G E Rep F as σ sl Q (rT ce.length (df (.cel ce.length::ws) (ce++[.ins c []])))):hZ G (fun _=>E) n df (.ref x::vs) (upd (upd H dx (.own x)) x (.ins (G.cl c) dx [])) (fun v H2=>v=.non/\Q (.ref x) H2) E:=by
 have hx':upd H dx (.own x) x=none:=by rw[cj (fun z=>hne z.symm)];exact hx
 obtain⟨S2,l2⟩:=(S.st.other (ho:=.own x) hdx).alloc (o:=.ins (G.cl c) dx []) hx' (c:=.ins c []) (fun as' _=>⟨dx,[],eB,.nil⟩);have hr:Rep F (as++[x]) (.cel ce.length) (.ref x):=by simp only[Rep];exact⟨x,rfl,by rw[<- S.st.len];simp⟩
 refine⟨by rw[length_cons,rs.length];exact hl,F,as++[x],_,_,S2,.cons hr (rs.le l2),?_⟩;revert P;cases df (.cel ce.length::ws) (ce++[.ins c []]) with
 | none=>exact fun P=>P
 | some r=>cases r with
  | ex y ce'=>exact fun P H' F' as' cv od l S' hx=>P H' F' as' cv od (l2.trans l) S' hx
  | ok w ce' =>
   cases w<;>first|exact fun P=>(show False from P).elim|skip
   intro P v H' F' as' l S' rv;simp only[Rep] at rv;exact⟨rv,P (.ref x) H' F' as' (l2.trans l) (S.slots S' (l2.trans l)) (hr.le l)⟩
theorem E8(M:L2.Mk X.K (G.cl c) f)(Fk:au X.prog X.w X.K X.mg X.base CX k f fd ps (hZ G fe n df))(hr:bo (k+1) X.A)(hg:Gl X c)(hm:X.mg c=some (.ref (G.cl c)))(hb:Binds X.K fd ps [])(hx:jM CX X E1)(ha:PA X (e::es) (fL G E dr))(hfe:fe E1=E:=by rfl)(hdb:(c==("__debug__" : Str))=false:=by decide)(he:starEach (e::es) X.env=(false,eval e X.env)::starEach es X.env:=by rfl)(hpl:(backTo pos (starEach es X.env)).any (·.1)=false:=by rfl) :
  PE X (.Call (.Name c p) (e::es) [] pos) (ax G E (pv c n df dr)):=by
 refine PE.imp (FF M Fk hr hg hm hb .nil hx ha hdb he hpl) fun σ H Q zz_=>bN zz_ fun F as sl ce S P=>(step (RP:=aj) S P).mono fun vs H1 zz_=>bu zz_ fun ws F1 as1 ce1 l1 S1 rs P1=>?_;intro y dy hy hdy hne;split at P1
 ·rename_i hn;rw[append_nil];have q:=GB S1 rs hy hdy hne hn P1;obtain⟨h1,F2,as2,ws2,ce2,S2,rs2,P2⟩:=q;exact⟨h1,F2,as2,ws2,ce2,S2,rs2,by rw[hfe];exact P2⟩
 ·exact(show False from P1).elim
end
section
variable {E:XK} {x c m:Str} {p:Pos} {o:Expr} {h:ExceptHandler} {ok:d_->Bool}
end
section
variable {a b:DS} {v:Sl->M W} {w u:W} {c f m:Str} {fs:List (Str×W)} {x:d_}
theorem p4{p:List (Str×W)}(h:p.length<=j):(putA f w p).length<=j+1:=by
 induction p generalizing j with
 | nil=>simp[putA]
 | cons a r ih =>
  obtain⟨g,y⟩:=a;rw[length_cons] at h;simp only[putA];split
  ·rw[length_cons];omega
  ·rw[length_cons];have:=ih (j:=j-1) (by omega);omega
theorem rS(g:ce[k]?=some (.ins c fs)):j4 ce c (.cel k)=some (k,fs):=by simp only[j4,g,if_true]
theorem jG(h:d sl ce=some (.ok (.cel k) c1))(g:c1[k]?=some (.ins c fs))(l:fs.lookup f=some w):iy c f d sl ce=some (.ok w c1):=by simp only[iy,az,h,look,rS g,l,map_some]
theorem wO(hv:v sl ce=some (.ok w c1))(h:d sl c1=some (.ok (.cel k) c2))(g:c2[k]?=some (.ins c fs))(hl:fs.length<1000):jF c f d v sl ce=some (.go .nx sl (c2.set k (.ins c (putA f w fs)))):=by simp only[jF,cL,hv,h,rS g,if_pos hl]
theorem GA(hv:v sl ce=some (.ok w c1))(h:d sl c1=some (.ok (.cel k) c2))(g:c2[k]?=some (.ins c fs))(hl:fs.length<1000)(q:Q (.go .nx sl (c2.set k (.ins c (putA f w fs))))):Run (jF c f d v) sl ce Q:=⟨_,wO hv h g hl,q⟩
theorem qh(hv:v sl ce=some (.ok w c1))(h:d sl c1=some (.ok (.cel k) c2))(g:c2[k]?=some (.ins c fs))(hl:fs.length<1000)(q:Run b sl (c2.set k (.ins c (putA f w fs))) Q):Run (ay (jF c f d v) b) sl ce Q:=iV (wO hv h g hl) q
theorem C5(h:d sl ce=some (.ok (.cel k) c1))(g:c1[k]?=some (.ins c fs))(l:fs.lookup m=none)(hr:dr sl c1=some (.ok ws c2))(hn:ws.length+1=n):iA c m n df d dr sl ce=df (.cel k::ws) c2:=by simp only[iA,az,h,look,rS g,l,if_true,map_some,hr,hn]
theorem kQ{r:Option (R W)}(h:d sl ce=some (.ok (.cel k) c1))(g:c1[k]?=some (.ins c fs))(l:fs.lookup m=none)(hr:dr sl c1=some (.ok ws c2))(hn:ws.length+1=n)(hf:df (.cel k::ws) c2=r):iA c m n df d dr sl ce=r:=(C5 h g l hr hn).trans hf
theorem FA(hr:dr sl ce=some (.ok ws c1))(hn:ws.length+1=n)(hf:df (.cel c1.length::ws) (c1++[.ins c []])=some (.ok .non c2)):pv c n df dr sl ce=some (.ok (.cel c1.length) c2):=by simp only[pv,az,hr,if_pos hn,hf,rT]
theorem C4{q:Bool}(h:d sl ce=some (.ok (.bl q) c1)):nN d sl ce=some (.ok (.bl (!q)) c1):=by simp only[nN,az,h,ret]
theorem BN{r:R W}(sl:Sl)(e:ws.map some++List.replicate (n-ws.length) none=sl)(h:Run body sl ce fun o=>∃sl' c',o=.go .nx sl' c'/\fin ce c' .non=some r):bO fin n body ws ce=some r:=by subst e;obtain⟨o,e,sl',c',rfl,hf⟩:=h;simp only[bO,e,hf]
end
theorem cM(hn:n=ps.length):au P w K mg base CX k f fd ps (hZ G fe n fun _ _=>none) :=
 ⟨fun vs H Q E h=>h.1.trans hn,fun A outer s H args us vs Q E hr he hb hv h=>by
  obtain⟨_,_,_,_,_,_,_,h⟩:=h;exact h.elim⟩
end VS
namespace L2
section
variable {c:Expr} {a b:List Stmt} {tc:TT} {ta tb:XK->TS}
end
end L2
namespace VS
section
variable {E:XK} {x y:Str} {p:Pos} {t:Expr} {h:ExceptHandler} {ok:d_->Bool} {sa sb:List Stmt} {da db d:DS} {c:Sl->M Bool}
end
section
variable {d b:DS} {ok:d_->Bool} {x:d_}
end
end VS
namespace L2
open AutoSeq1 (wpAny_loadPart')
end L2
namespace VS
section
variable {E:XK} {p:Pos}
end
end VS
variable {bm:List Value} {hdct ab:Bool} {sn:List Str} {col:Option Bool} {dd:Option Addr} {newId:String}
namespace L2
open PySem.W
section
variable {R:Result->Shared->Prop} {d:Drawn} {t:Nat}
variable {q:Str} {C N:Addr} {bs bmB:List Value} {sub:List Value} {k0 k1 k2 k3 k5:Option Value} {B Bn nid initId inN:String} {bmN:List Value}
end
def Kz(a C:Addr)(h:Heap):Prop:=∃t sl,h.get? a=some ⟨.ref C,none,.fields #[.ref t,.none,.none,.none,.bool false,.none],sl⟩
def Ko(a C:Addr)(h:Heap):Prop:=∃D t sl,h.get? a=some ⟨.ref C,some D,.fields #[.ref t,.none,.none,.none,.bool false,.none],sl⟩
end L2
variable {cd:ClassData} {tv:TE}
namespace L2
open PySem.W PySem.Builtin PySem.Builtin.ObjectAttr
section
variable {C:Addr}
end
section
variable {o:Expr} {f:Str} {C:Addr}
end
section
variable {M:Model} {q:Str} {C N:Addr} {bs:List Value} {sub:List Value} {k0 k1 k2 k3 k5:Option Value}
end
section
variable {σ:St} {φ:Heap->Prop}
end
end L2
namespace L2
open PySem.W
end L2
namespace VS
section
variable {E:XK} {x y:Str} {p:Pos}
end
end VS
namespace L2
open PySem.W
section
variable {o:Expr} {m:Str} {C:Addr}
end
end L2
namespace VS
section
variable {E:XK} {c m:Str} {o:Expr} {h:ExceptHandler} {ok:d_->Bool}
end
end VS
namespace L2
section
variable {σ:St}
end
end L2
namespace VS
section
variable {E:XK} {elts:List Expr} {x1:Nat} {p fpos:Pos} {l:Expr} {g:DG} {b:DS} {body:List Stmt}
end
end VS
namespace L2
end L2
namespace VS
section
variable {E:XK}
end
def cC(K:Frag)(x q:Str)(st:Stmt)(f:Addr):Prop:=∃fd,bV K x q st f fd
theorem fnk{x:Str}{st:Stmt}{oc:Value}{an:Option Addr}{osl:Array (Option Value)}{kV doc pm cdv ct:Value}(l:K.lookup f=some ⟨oc,od,.func (fnOf x qual (nq st) (kY st) (bw st) .none kV doc pm an cdv ct),osl⟩)(c:codeIn K cdv qual=true)(k:keepIn K (.ref f)=true):cC K x qual st f:=⟨_,xk l c k⟩
theorem cA{N P:List Str}{sc:Scope}(h1:sc.kind=.function:=by rfl)(h2:sc.isCoroutine=false:=by rfl)(h3:sc.isGenerator=false:=by rfl)(h4:N.Nodup:=by decide +kernel)(h5:N.take P.length=P:=by rfl)(h6:∀x∈P,sc.names.lookup x=some .local\/sc.names.lookup x=some .cell:=by decide +kernel)(h7:∀y∈sc.names,y.2≠.free:=by decide +kernel):aq N P sc:=⟨h1,h2,h3,h4,h5,h6,h7⟩
end VS
namespace L2
open PySem.W PySem.Builtin PySem.Builtin.ObjectAttr
def Lb(a C D:Addr)(h:Heap):Prop:=∃t sl,h.get? a=some ⟨.ref C,some D,.fields #[.ref t,.none,.none,.none,.bool false,.none],sl⟩
section
variable {C:Addr}
end
section
variable {o:Expr} {f:Str} {C:Addr}
end
end L2
namespace L2
open PySem.W
end L2
namespace VS
section
variable {E:XK} {x y fl:Str} {p:Pos}
end
end VS
namespace L2
open PySem.W PySem.Builtin PySem.Builtin.ObjectAttr PySem.Builtin.Getset_descriptor
section
variable {d:Drawn} {t:Nat} {C D:Addr} {o:Obj}
end
end L2
namespace L2
open PySem.W
section
variable {f:Str}
end
end L2
namespace VS
section
variable {E:XK} {f:Str}
end
end VS
namespace L2
open PySem.W
section
variable {R:Result->Shared->Prop} {it l:Addr} {items:Array Value} {parts:Nat->List Value}
end
end L2
namespace VS
section
variable {E:XK}
end
end VS
namespace L2
end L2
namespace VS
section
variable {E:XK}
end
section
variable {w:W}
end
section
variable {E:XK} {a b c:Expr}
end
section
variable {a b o i v:Sl->M W} {x y w:W}
end
end VS
variable {D:Nat->Heap->Prop} {ks:Nat->Value}
namespace L2
open PySem.W
theorem Ag:entryFor table "dict.update.loop" = some Builtin.«dict.update.loop»:=entryFor_of_tree (by kernel_rfl)
theorem Af:plainId "dict.update.loop" = true:=by decide +kernel
section
variable {R:Result->Shared->Prop} {it l d:Addr} {items:Array Value} {vs:Nat->Value}
def lM(h:Heap)(b:Addr)(u v:Value):Prop:=∃o n,h.get? b=some o/\o.cls=.type "tuple" /\ o.data=.seq #[u,v] n
theorem Jy{Q:List Value->Shared->Prop}{b:Addr}{u v:Value}(p:lM s.heap b u v)(h:Q [u,v] s):wpAny (model prog w) A (Builtin.Dict.pairItems (.ref b)) Q E s:=by
 obtain⟨o,n,ho,hc,hd⟩:=p;have hT:s.TypeIs (.ref b) "tuple" := ⟨o,ho,hc⟩
 unfold Builtin.Dict.pairItems;refine wpAny_bind (wpAny_typeOf hT ?_);rw[if_pos (by decide)];exact wpAny_bind (wpAny_seqItems ho hd (wpAny_pure h))
theorem HH(hA:A.handled=none)(hli:l≠it)(hld:l≠d)(hdi:d≠it)(hD:∀i h h',D i h->Heap.SameBut it h h'->D i h')(hE:∀i h h',D i h->(∀b o,b≠it->h.get? b=some o->h'.get? b=some o)->D i h')(hset:∀i (A':Around) (s:Shared) (Q:Unit->Shared->Prop) (E:Value->Shared->Prop),A'.units<=A.units+1->i<items.size->D i s.heap->(∀h' t',D (i+1) h'->Heap.SameBut d s.heap h'->Q () { s with heap:=h',toks:=t' })->wpAny (model prog w) A' (dictSet d (ks i) (vs i)) Q E s) :
  ∀(k i:Nat) (s:Shared) (z:Nat),items.size=i+k->s.heap.IsListIter it l i->s.heap.IsList l items->D i s.heap ->
  (∀j,i<=j->j<items.size->∃b,items[j]?=some (.ref b)/\b≠it/\b≠d/\lM s.heap b (ks j) (vs j)) ->
  (∀h' t',D items.size h'->(∀b o,b≠it->b≠d->s.heap.get? b=some o->h'.get? b=some o)->R (.ok (.ret .none)) { s with heap:=h',toks:=t' }) ->
  codeAny (model prog w) A (.builtin "dict.update.loop" ⟨[.ref d,.ref it,.int i z,.none],[]⟩) R s:=by
 intro k
 induction k with
 | zero =>
  intro i s z hk hI hL h0 hp hR;obtain⟨hh,g,dr,tk,os⟩:=s;refine codeAny_builtin Ag ?_;rw[Around.under_plainId Af _];unfold Builtin.«dict.update.loop»;dsimp only;have hn:items[i]?=none:=by simp;omega
  refine wpAny_bind (wpAny_pyNext_list_end (show A.in1.handled=none from hA) hI hL hn fun h' eb=>?_);refine wpAny_bind ?_;unfold Builtin.Dict.addKeywords;rw[forIn_nil];refine wpAny_pure (wpAny_pure ?_);rw[show items.size=i by omega] at hR;exact hR h' tk (hE _ _ _ h0 eb) fun b o h1 _ e=>eb b o h1 e
 | succ k ih =>
  intro i s z hk hI hL h0 hp hR;obtain⟨hh,g,dr,tk,os⟩:=s;refine codeAny_builtin Ag ?_;rw[Around.under_plainId Af _];unfold Builtin.«dict.update.loop»;dsimp only;obtain⟨b,hb,hbi,hbd,pb⟩:=hp i (le_refl _) (by omega);refine wpAny_bind (wpAny_pyNext_list_item hI hL hb fun h1 hI1 sb=>?_);have h01:D i h1:=hD _ _ _ h0 sb;have pb1:lM h1 b (ks i) (vs i):=by obtain⟨o,n,e,r⟩:=pb;exact⟨o,n,(sb.2 b hbi).trans e,r⟩
  refine wpAny_bind (wpAny_holding (wpAny_bind (wpAny_tryCatch (Jy (s:=⟨h1,g,dr,tk,os⟩) pb1 ?_))));dsimp only;refine wpAny_holding (hset i _ ⟨h1,g,dr,tk,os⟩ _ _ (le_refl _) (by omega) h01 fun h2 t2 h02 sd=>?_);refine wpAny_pure (And.intro (Code.quiet_builtin _ (by decide +kernel)) ?_);refine ih (i+1) ⟨h2,g,dr,t2,os⟩ 0 (by omega) (hI1.at fun o q=>(sd.2 it (Ne.symm hdi)).trans q) ?_ h02 (fun j h3 h4=>?_) fun h' t' hd' hk'=>?_
  ·obtain⟨o,q1,q2⟩:=hL;exact⟨o,(sd.2 l hld).trans ((sb.2 l hli).trans q1),q2⟩
  ·obtain⟨b2,e,n1,n2,o,n,e2,r⟩:=hp j (by omega) h4;exact⟨b2,e,n1,n2,o,n,(sd.2 b2 n2).trans ((sb.2 b2 n1).trans e2),r⟩
  ·exact hR h' t' hd' fun b o n1 n2 e=>hk' b o n1 n2 ((sd.2 b n2).trans ((sb.2 b n1).trans e))
end
theorem dR:mroOf (.type "dict")=pure [.type "dict",.type "object"]:=by rw[mroOf_type];kernel_rfl
theorem J5:typeLookup (.type "dict") "__new__" = pure (some (.builtin "dict.__new__")):=by rw[typeLookup_type,builtinLookup_eq_fast];kernel_rfl
theorem aS:TypeCalled "dict" "dict.__new__" "dict.__init__" :=
 ⟨by decide +kernel,by decide +kernel,⟨_,_,dR⟩,madeBy_type dR J5 (by decide +kernel),by decide +kernel,by rw[isSubtype_type];kernel_rfl,slot_dict_init⟩
theorem JJ(a:Value):checkTypeCall "dict" ⟨[a],[]⟩=pure ():=by kernel_rfl
theorem JR(a:Value):checkBuiltinCall "dict.__new__" ⟨[.type "dict",a],[]⟩=pure ():=by kernel_rfl
theorem JI:entryFor table "dict.__new__" = some Builtin.«dict.__new__»:=entryFor_of_tree (by kernel_rfl)
theorem Bl:plainId "dict.__new__" = true:=by decide +kernel
theorem JG:isSubtype (.type "dict") (.type "dict")=pure true:=by rw[isSubtype_type];kernel_rfl
theorem JH(a:Value){Q₁:Value->Shared->Prop}(h:Q₁ (.ref s.heap.objs.size) { s with heap:=s.heap.push { cls:=.type "dict",data:=.dict #[] } }) :
  codeAny (model prog w) A (.call (.builtin "dict.__new__") ⟨[.type "dict",a],[]⟩) (wants Q₁ E) s:=by
 refine codeAny_of_tree ?_;show wpAny _ A.in1 (do checkBuiltinCall "dict.__new__" ⟨[.type "dict",a],[]⟩;again (.builtin "dict.__new__" ⟨[.type "dict",a],[]⟩)) _ _ s;refine wpAny_bind (wpAny_of_eq (JR a) (wpAny_pure ⟨plainId_quiet Bl _,codeAny_builtin JI ?_⟩));rw[Around.under_plainId Bl _];unfold Builtin.«dict.__new__»;have hsub:=JG;have hm:=dR;obtain⟨hp,g,d,tk,os⟩:=s;dsimp only
 wp_walk
 exact h
theorem JQ:typeLookup (.type "list") "keys" = pure none:=am_miss_of_fast (by kernel_rfl)
theorem J_{o:Obj}{xs:Array Value}{Q:Option Value->Shared->Prop}(hx:s.heap.get? a=some o)(hc:o.cls=.type "list")(hdat:o.data=.seq xs k)(hd:o.dict=none)(hA:A.handled=none)(h:∀h' tk,(∀b ob,s.heap.get? b=some ob->h'.get? b=some ob)->Q none { s with heap:=h',toks:=tk }) :
  wpAny (model prog w) A (getAttr? (.ref a) "keys") Q E s:=by
 obtain⟨c,dct,dat,sl⟩:=o;simp only at hc hdat hd;subst hc hdat hd;obtain⟨hp,g,d,tk,os⟩:=s;have hT:∀tk',(⟨hp,g,d,tk',os⟩:Shared).TypeIs (.ref a) "list" := fun _=>⟨_,hx,rfl⟩
 have f1:=sub_AttributeError;have f3:=slot_list_getattribute.lookup;have f4:=slot_list_getattribute.bind (.ref a);have f5:=am_list_getattr_none;unfold getAttr? getAttrBy? getAttrBy
 repeat (any_goals (first|assumption|exact hT _|((with_reducible show wpAny _ _ (call (Value.builtin "list.__getattribute__") _ _) _ _ _);refine call_meets slot_list_getattribute (hT _) am_entry_list_getattribute (PySem.F.args_list_getattribute_2 _ _) (meets_getattribute_miss_list a xs k sl "keys" _ JQ (by decide +kernel) (by decide)) ⟨hx,hA,fun h' tk' e hx'=>?_⟩)|wp_step))
 obtain⟨t',u',he⟩:=hx'.there;have hTe:∀tk',(⟨h',g,d,tk',os⟩:Shared).TypeIs (.ref e) "AttributeError" := fun _=>⟨_,he,rfl⟩
 show wpAny _ _ (getattributeRaised _ _ _ _ _ _ _) _ _ _;unfold getattributeRaised
 repeat (any_goals (first|assumption|exact hTe _|wp_step))
 exact h h' tk' hx'.keeps
theorem Bk{l:Addr}{items:Array Value}{nl:Nat}{sl:Array (Option Value)}{vs:Nat->Value}{Q:Value->Shared->Prop}(hh:A.handled=none)(hol:s.heap.get? l=some { cls:=.type "list",dict:=none,data:=.seq items nl,slots:=sl })(hD:∀it,s.heap.objs.size<it->∀i h h',D i h->Heap.SameBut it h h'->D i h')(hE:∀it,s.heap.objs.size<it->∀i h h',D i h->(∀b o,b≠it->h.get? b=some o->h'.get? b=some o)->D i h')(hset:∀i (A':Around) (s':Shared) (Q:Unit->Shared->Prop) (E:Value->Shared->Prop),A'.units<=A.units+3->i<items.size->D i s'.heap->(∀h' t',D (i+1) h'->Heap.SameBut s.heap.objs.size s'.heap h'->Q () { s' with heap:=h',toks:=t' })->wpAny (model prog w) A' (dictSet s.heap.objs.size (ks i) (vs i)) Q E s')(h0:∀h1:Heap,(∀b ob,(s.heap.push { cls:=.type "dict",data:=.dict #[] }).get? b=some ob->h1.get? b=some ob)->D 0 h1)(hp:∀j,j<items.size->∃b,items[j]?=some (.ref b)/\lM s.heap b (ks j) (vs j))(h:∀(h':Heap) (tk:Nat),D items.size h'->(∀b o,b<s.heap.objs.size->s.heap.get? b=some o->h'.get? b=some o)->Q (.ref s.heap.objs.size) { s with heap:=h',toks:=tk }) :
  wpAny (model prog w) A (call (.type "dict") [.ref l]) Q E s:=by
 obtain⟨c,tl,hmro⟩:=aS.mro;have hmade:=aS.made;have hsub:=aS.sub;refine wpAny_call (codeAny_of_tree ?_);show wpAny _ _ (callAny (.type "dict") _) _ _ _;refine wpAny_pure ⟨Code.quiet_builtin _ (by decide +kernel),codeAny_builtin PySem.F.entry_type_call ?_⟩;rw[Around.under_plain (weight_type_call_type "dict" [.ref l] []) rfl];have h1:=aS.notType;have h2:=aS.canCreate;have hct:=JJ (.ref l)
 repeat (any_goals (first|assumption|wp_step))
 refine codeAny_mono (JH (.ref l) (E:=E) (Q₁:=fun obj s₁=>obj=.ref s.heap.objs.size/\s₁={ s with heap:=s.heap.push { cls:=.type "dict",data:=.dict #[] } }) ⟨rfl,rfl⟩) fun r s₁ hr=>?_;cases r with
 | error e=>exact hr
 | ok fl =>
  cases fl with
  | ret obj =>
   obtain⟨rfl,rfl⟩:=hr;have hS:(s.heap.push { cls:=.type "dict",data:=.dict #[] }).get? s.heap.objs.size=some { cls:=.type "dict",data:=.dict #[] }:=Heap.get?_push_size _ rfl;have hT:Shared.TypeIs { s with heap:=s.heap.push { cls:=.type "dict",data:=.dict #[] } } (.ref s.heap.objs.size) "dict" := ⟨_,hS,rfl⟩
   have hli:=aS.init.lookup;have hbi:=aS.init.bind (.ref s.heap.objs.size)
   repeat (any_goals (first|assumption|wp_step))
   refine codeAny_mono (codeAny_call_builtin_at (R:=wants (fun r s₂=>r=.none/\∃h' tk,s₂={ s with heap:=h',toks:=tk }/\D items.size h'/\(∀b o,b<s.heap.objs.size->s.heap.get? b=some o->h'.get? b=some o)) E) (plainId_quiet aS.init.plain _) PySem.F.entry_dict_init (slot_dict_init.check _ _ _ _ _ [.ref l] [] _ hT (PySem.F.args_dict_init_2 _ _) ?_)) fun r₂ s₂ hr₂=>?_
   ·have hol':(s.heap.push { cls:=.type "dict",data:=.dict #[] }).get? l=some { cls:=.type "list",dict:=none,data:=.seq items nl,slots:=sl }:=Heap.get?_push_of_some _ hol;have hl1:(s.heap.push { cls:=.type "dict",data:=.dict #[] }).IsList l items:=⟨_,hol',rfl,nl,rfl⟩
    have hTl:Shared.TypeIs { s with heap:=s.heap.push { cls:=.type "dict",data:=.dict #[] } } (.ref l) "list" := ⟨_,hol',rfl⟩
    have hlS:l<s.heap.objs.size:=Heap.lt_size hol;rw[Around.under_plainId aS.init.plain _];unfold Builtin.«dict.__init__» Builtin.Dict.updateCommon;generalize hU:Builtin.Dict.updateFrom=U
    wp_walk
    subst hU;unfold Builtin.Dict.updateFrom;refine wpAny_bind (wpAny_typeOf hTl ?_);rw[if_pos (by decide)];refine wpAny_bind (J_ (s:={ s with heap:=s.heap.push { cls:=.type "dict",data:=.dict #[] } }) hol' rfl rfl rfl (by simp[hh]) fun h3 t3 keep=>?_);simp only[isNone_none,if_true];refine wpAny_bind (wpAny_rule ?_);have l3:h3.IsList l items:=⟨_,keep _ _ hol',rfl,nl,rfl⟩
    refine wpAny_bind (wpAny_pyIter_list l3 ?_);have n3:s.heap.objs.size<h3.objs.size:=Heap.lt_size (keep _ _ hS);have nl3:l≠h3.objs.size:=ne_of_lt (lt_trans hlS n3);have nd3:s.heap.objs.size≠h3.objs.size:=ne_of_lt n3;refine wpAny_pure (And.intro (Code.quiet_builtin _ (by decide +kernel)) ?_);refine HH (d:=s.heap.objs.size) (it:=h3.objs.size) (l:=l) (items:=items) (D:=D) (ks:=ks) (vs:=vs) (show A.in1.handled=none by simp[hh]) nl3 (ne_of_lt hlS) nd3 (hD _ n3) (hE _ n3) (fun i A' s' Q E hA=>hset i A' s' Q E (by have z:A.in1.units=A.units+1:=rfl;omega)) items.size 0 _ 0 (by omega) ⟨_,Heap.get?_push_size _ rfl,rfl,rfl⟩ ?_ ?_ ?_ ?_
    ·exact⟨_,Heap.get?_push_of_some _ (keep _ _ hol'),rfl,nl,rfl⟩
    ·exact h0 _ fun b ob e=>Heap.get?_push_of_some _ (keep _ _ e)
    ·intro j _ hj;obtain⟨b,e1,o,n,e2,r⟩:=hp j hj;have hb:=Heap.lt_size e2;exact⟨b,e1,ne_of_lt (lt_trans hb n3),ne_of_lt hb,o,n,Heap.get?_push_of_some _ (keep _ _ (Heap.get?_push_of_some _ e2)),r⟩
    ·intro h4 t4 d4 k4;refine⟨rfl,h4,t4,rfl,d4,fun b o hb e=>k4 b o (ne_of_lt (lt_trans hb n3)) (ne_of_lt hb) (Heap.get?_push_of_some _ (keep _ _ (Heap.get?_push_of_some _ e)))⟩
   ·cases r₂ with
    | error e=>exact hr₂
    | ok fl₂ =>
     cases fl₂ with
     | ret r =>
      obtain⟨rfl,h',tk,rfl,hS',hk'⟩:=hr₂
      repeat (any_goals (first|assumption|wp_step))
      exact h _ _ hS' hk'
     | _=>exact hr₂
  | _=>exact hr
section
variable {K:Type} [DecidableEq K]
theorem HG{knd:HeapKind prog w K}{d:Addr}{xs:List (K×Addr×Value)}{Q:Value->Shared->Prop}(hd:(d==sysModules)=false)(hm:s.heap.DictOfH knd d xs)(hfit:(xs.length:Int)<2 ^ 63)(h:Q (.int xs.length (s.toks+1)) { s with toks:=s.toks+1+1 }):wpAny (model prog w) A (call (.builtin "len") [.ref d]) Q E s:=by
 obtain⟨o,es,ep,ho,hc,hdat,he,his,hn⟩:=hm;have hT:s.TypeIs (.ref d) "dict" := ⟨o,ho,hc.1⟩
 have hl:es.size=xs.length:=by rw[<- length_toList,he,length_map]
 refine Calls.call_function_entry kind_len plain_len entry_len (args_len1 _) ?_;unfold Builtin.«len»;refine wpAny_bind (m:=oneArg "len" _) (wpAny_pure ?_);refine wpAny_bind (m:=callSpecial? (.ref d) (Str.ofString "__len__")) (wpAny_callSpecial?_slot (name:=Str.ofString "__len__") hT F.slot_dict_len
  (call_meetsIn (S:=fun _ R s'=>s'=s/\R (.ok (.ret (.int xs.length s.toks))) { s with toks:=s.toks+1 }) F.slot_dict_len hT F.entry_dict_len (F.args_dict_len_1 _) (.of_wp fun A R s' ⟨e,h⟩=>by
   subst e;show wpAny _ _ (dictSize d >>= _) _ _ s';unfold dictSize;refine wpAny_bind (wpAny_bind (wpAny_dictEntries ho hdat (wpAny_pure ?_)));show wpAny _ _ (Builtin.Dict.pendingCount d >>= _) _ _ s';refine wpAny_bind (wpAny_pendingCount_other hd ?_);refine wpAny_ret_mkInt ?_;rw[add_zero,hl];exact h) ⟨rfl,?_⟩))
 show wpAny _ _ _ _ _ { s with toks:=s.toks+1 };refine wpAny_bind (wpAny_holding (wpAny_pure ?_));refine wpAny_bind (wpAny_letGo ?_);show wpAny _ _ (if ((xs.length:Nat):Int)<0 then _ else _) _ _ _;rw[if_neg (by omega)];show wpAny _ _ (if ((xs.length:Nat):Int)≥2 ^ 63 then _ else _) _ _ _;rw[if_neg (by omega)];exact wpAny_bind (wpAny_mkInt (wpAny_pure ⟨_,rfl,h⟩))
end
theorem HF:aT X (.builtin "len") (fun xs H Q=>∃a kvs,xs=[V.ref a]/\H a=some (.dT kvs)/\Q (.int kvs.length) H):=by intro pins s σ H xs us Q I r h;obtain⟨a,kvs,rfl,e,q⟩:=h;obtain⟨u,rfl,rx⟩:=iE r;cases rx;obtain⟨z,hd,ys,rel,dd⟩:=wu I.hok e;have hl:=Paired.length rel;refine HG hd dd (by rw[sizeLine_eq] at z;omega) ⟨.int kvs.length,H,(I.tok _),⟨_,by rw[hl]⟩,q⟩
section
variable {κ:Type} [DecidableEq κ]
theorem Ae{α:Type}{l:List α}{x:α}(h:l[i]?=some x):l.take (i+1)=l.take i++[x]:=by rw[take_add_one,h];rfl
theorem zt{α:Type}{l:List (κ×α)}{p:κ×α}(nd:(l.map (·.1)).Nodup)(h:l[i]?=some p):∀q∈l.take i,¬q.1=p.1:=by
 intro q hq e;obtain⟨j,hj⟩:=getElem?_of_mem hq;have hji:j<i:=by have:=(List.getElem?_eq_some_iff.mp hj).1;rw[length_take] at this;omega
 rw[getElem?_take_of_lt hji] at hj;have e1:(l.map (·.1))[j]?=some p.1:=by rw[getElem?_map,hj,map_some,e]
 have e2:(l.map (·.1))[i]?=some p.1:=by rw[getElem?_map,h];rfl
 have hlt:j<(l.map (·.1)).length:=(List.getElem?_eq_some_iff.mp e1).1;have:=(getElem?_inj hlt nd).mp (e1.trans e2.symm);omega
end
def sf(H:Hp):List V->List (Key×V)->Prop:=Paired fun u p=>∃b,u=.ref b/\H b=some (.tup [kV p.1,p.2])
def se(H:Hp):List V->List (List Key×V)->Prop:=Paired fun u p=>∃b c,u=.ref b/\H b=some (.tup [.ref c,p.2])/\H c=some (.tup (p.1.map kV))
def rZ(K:Frag):List V->Hp->VK->Prop:=fun xs H Q=>∃a us,xs=[V.ref a]/\cO K H a us /\
 ((∃kvs,sf H us kvs/\(kvs.map (·.1)).Nodup/\∀p,H p=none->Q (.ref p) (upd H p (.dK kvs)))\/∃kvs,se H us kvs/\(kvs.map (·.1)).Nodup/\∀p,H p=none->Q (.ref p) (upd H p (.dT kvs)))
theorem xJ{b:Addr}{x y:V}(ok:cB P w H h)(e:H b=some (.tup [x,y])):∃u v,RelV x u/\RelV y v/\lM h b u v:=by
 obtain⟨_,its,r,o,h1,h2,⟨n,h3⟩,_⟩:=(show aQ P w H h b (.tup [x,y]) from ok b _ e)
 cases r with
 | cons q t =>
  cases t with
  | cons q2 t2 =>
   cases t2;exact⟨_,_,q,q2,o,n,h1,h2,h3⟩
theorem Ad(ok:cB P w H h):∀{us:List V} {kvs:List (Key×V)} {its:List Value},sf H us kvs->Vals us its ->
  ∃zs:List (Key×Value×Value),KV kvs (zs.map fun z=>(z.1,z.2.2))/\zs.length=its.length/\∀(j:Nat) (z:Key×Value×Value),zs[j]?=some z->(dG P w).is z.1 z.2.1=true/\∃b,its[j]?=some (.ref b)/\lM h b z.2.1 z.2.2
 | _,_,_,.nil,.nil=>⟨[],.nil,rfl,fun j z e=>by simp at e⟩
 | _,_,_,.cons (b:=p) q t,.cons r s=>by
  obtain⟨b,rfl,hb⟩:=q;obtain⟨u,v,ru,rv,pa⟩:=xJ ok hb;obtain⟨zs,k1,k2,k3⟩:=Ad ok t s;cases r;refine⟨(p.1,u,v)::zs,.cons ⟨rfl,rv⟩ k1,by simp[k2],fun j z e=>?_⟩;cases j with
  | zero=>simp only[getElem?_cons_zero,Option.some.injEq] at e;subst e;exact⟨fx ru,b,rfl,pa⟩
  | succ j=>simp only[getElem?_cons_succ] at e ⊢;exact k3 j z e
theorem Ac(ok:cB P w H h):∀{us:List V} {kvs:List (List Key×V)} {its:List Value},se H us kvs->Vals us its ->
  ∃zs:List (List Key×Addr×Value),KT H kvs zs/\zs.length=its.length/\∀(j:Nat) (z:List Key×Addr×Value),zs[j]?=some z->(tupleKind (dG P w)).is h z.1 z.2.1/\∃b,its[j]?=some (.ref b)/\lM h b (.ref z.2.1) z.2.2
 | _,_,_,.nil,.nil=>⟨[],.nil,rfl,fun j z e=>by simp at e⟩
 | _,_,_,.cons (b:=p) q t,.cons r s=>by
  obtain⟨b,c,rfl,hb,hc⟩:=q;obtain⟨u,v,ru,rv,pa⟩:=xJ ok hb;obtain⟨zs,k1,k2,k3⟩:=Ac ok t s;cases r;cases ru;refine⟨(p.1,c,v)::zs,.cons ⟨rfl,hc,rv⟩ k1,by simp[k2],fun j z e=>?_⟩;cases j with
  | zero=>simp only[getElem?_cons_zero,Option.some.injEq] at e;subst e;exact⟨eV ok hc,b,rfl,pa⟩
  | succ j=>simp only[getElem?_cons_succ] at e ⊢;exact k3 j z e
theorem qD(hc:X.calm=true:=by rfl)(hu:X.A.units+4<cLine)(hK:X.K=K:=by rfl):aT X (.type "dict") (rZ K):=by
 subst hK;intro pins s σ H xs us' Q I r h;obtain⟨a,us,rfl,hq,h⟩:=h;obtain⟨u,rfl,rx⟩:=iE r;cases rx;obtain⟨its,rv,⟨⟨oc,od,odt,osl⟩,n,ho,e1,e2,e3⟩,hz⟩:=I.list hq;simp only at e1 e2 e3;subst e1 e2 e3;have hlen:=rv.length;have big:=I.big;have hS:(s.heap.objs.size==sysModules)=false:=beq_eq_false_iff_ne.mpr (Ne.symm (ne_of_lt big));have hits:its.toArray.size=its.length:=by simp
 have hd0:(s.heap.push { cls:=.type "dict",data:=.dict #[] }).get? s.heap.objs.size=some { cls:=.type "dict",data:=.dict #[] }:=Heap.get?_push_size _ rfl;rcases h with ⟨kvs,pk,nd,q⟩|⟨kvs,pk,nd,q⟩
 ·obtain⟨zs,k1,k2,k3⟩:=Ad I.hok pk rv;have hkz:kvs.length=zs.length:=by rw[Paired.length k1,length_map]
  have ndz:((zs.map fun z=>(z.1,z.2.2)).map (·.1)).Nodup:=by rw[<- KV.keys k1];exact nd
  have at':∀i,i<its.toArray.size->∃z,zs[i]?=some z:=fun i hi=>⟨_,getElem?_eq_getElem (by rw[hits] at hi;omega)⟩
  refine Bk (D:=fun i h=>h.DictOf (dG X.prog X.w) s.heap.objs.size ((zs.map fun z=>(z.1,z.2.2)).take i)) (ks:=fun i=>((zs[i]?).map (·.2.1)).getD .none) (vs:=fun i=>((zs[i]?).map (·.2.2)).getD .none) (I.ok.hd hc) ho ?_ ?_ ?_ ?_ ?_ ?_
  ·rintro it hit i h h' ⟨o,es,ep,e,r⟩ sb;exact⟨o,es,ep,(sb.2 _ (ne_of_lt hit)).trans e,r⟩
  ·rintro it hit i h h' ⟨o,es,ep,e,r⟩ sb;exact⟨o,es,ep,sb _ _ (ne_of_lt hit) e,r⟩
  ·intro i A' s' Q' E' hA hi dd hQ;obtain⟨z,hzi⟩:=at' i hi;have hzi':(zs.map fun z=>(z.1,z.2.2))[i]?=some (z.1,z.2.2):=by rw[getElem?_map,hzi];rfl
   simp only[hzi,map_some,getD_some];refine wpAny_dictSet_pairs (hsz:=by rw[length_take];simp only[length_map];omega) (k3 i z hzi).1 dd fun h' dd' sb=>hQ h' _ ?_ sb;rw[Ae hzi'];have hn:((zs.map fun z=>(z.1,z.2.2)).take i).any (fun kv=>decide (kv.1=z.1))=false:=by rw[any_eq_false];intro p hp;rw[decide_eq_true_eq];exact zt ndz hzi' p hp
   unfold stored at dd';rw[hn,if_neg Bool.false_ne_true] at dd';exact dd'
  ·intro h1 keep;exact⟨_,#[],0,keep _ _ hd0,⟨rfl,rfl,rfl⟩,rfl,fun e he=>by simp at he,by simp;exact .nil,by simp⟩
  ·intro j hj;obtain⟨z,hzj⟩:=at' j hj;simp only[hzj,map_some,getD_some];obtain⟨b,e,pa⟩:=(k3 j z hzj).2;exact⟨b,by simpa using e,pa⟩
  ·intro h' tk dd keep;rw[take_of_length_le (by rw[length_map];omega)] at dd;exact⟨.ref s.heap.objs.size,_,I.laid (t':=tk) (a:=s.heap.objs.size) (o:=.dK kvs) (fun b o e=>keep b o (Heap.lt_size e) e) (le_refl _) ⟨by omega,hS,_,k1,dd⟩,rfl,q _ I.fresh⟩
 ·obtain⟨zs,k1,k2,k3⟩:=Ac I.hok pk rv;have hkz:kvs.length=zs.length:=Paired.length k1;have keys:∀{l:List (List Key×V)} {m:List (List Key×Addr×Value)},KT H l m->l.map (·.1)=m.map (·.1):=by
   intro l m q
   induction q with
   | nil=>rfl
   | cons hq t ih=>rw[map_cons,map_cons,ih,hq.1]
  have ndz:(zs.map (·.1)).Nodup:=by rw[<- keys k1];exact nd
  have at':∀i,i<its.toArray.size->∃z,zs[i]?=some z:=fun i hi=>⟨_,getElem?_eq_getElem (by rw[hits] at hi;omega)⟩
  have kp:∀{h h':Heap} {k:List Key} {c:Addr},(tupleKind (dG X.prog X.w)).is h k c->(∀o,h.get? c=some o->h'.get? c=some o)->(tupleKind (dG X.prog X.w)).is h' k c:=by rintro h h' k c ⟨o,it,n,e,r⟩ f;exact⟨o,it,n,f _ e,r⟩
  refine Bk (D:=fun i h=>h.DictOfH (tupleKind (dG X.prog X.w)) s.heap.objs.size (zs.take i)/\∀z∈zs,(tupleKind (dG X.prog X.w)).is h z.1 z.2.1/\z.2.1<s.heap.objs.size) (ks:=fun i=>((zs[i]?).map fun z=>Value.ref z.2.1).getD .none) (vs:=fun i=>((zs[i]?).map (·.2.2)).getD .none) (I.ok.hd hc) ho ?_ ?_ ?_ ?_ ?_ ?_
  ·rintro it hit i h h' ⟨⟨o,es,ep,e,r1,r2,r3,r4,r5⟩,al⟩ sb;have al':∀z∈zs,(tupleKind (dG X.prog X.w)).is h' z.1 z.2.1/\z.2.1<s.heap.objs.size:=fun z hz=>⟨kp (al z hz).1 fun o q=>(sb.2 _ (ne_of_lt (lt_trans (al z hz).2 hit))).trans q,(al z hz).2⟩
   exact⟨⟨o,es,ep,(sb.2 _ (ne_of_lt hit)).trans e,r1,r2,r3,fun x hx=>(al' x (mem_of_mem_take hx)).1,r5⟩,al'⟩
  ·rintro it hit i h h' ⟨⟨o,es,ep,e,r1,r2,r3,r4,r5⟩,al⟩ sb;have al':∀z∈zs,(tupleKind (dG X.prog X.w)).is h' z.1 z.2.1/\z.2.1<s.heap.objs.size:=fun z hz=>⟨kp (al z hz).1 fun o q=>sb _ _ (ne_of_lt (lt_trans (al z hz).2 hit)) q,(al z hz).2⟩
   exact⟨⟨o,es,ep,sb _ _ (ne_of_lt hit) e,r1,r2,r3,fun x hx=>(al' x (mem_of_mem_take hx)).1,r5⟩,al'⟩
  ·rintro i A' s' Q' E' hA hi ⟨dd,al⟩ hQ;obtain⟨z,hzi⟩:=at' i hi;simp only[hzi,map_some,getD_some];refine wpAny_dictSet_heap (hsz:=by rw[length_take];omega) (show A'.units<cLine by omega) (al z (mem_of_getElem? hzi)).1 dd fun h' dd' sb=>hQ h' _ ⟨?_,fun z hz=>⟨kp (al z hz).1 fun o q=>(sb.2 _ (ne_of_lt (al z hz).2)).trans q,(al z hz).2⟩⟩ sb;rw[Ae hzi];have hn:atKey (zs.take i) z.1=none:=by unfold atKey;rw[map_eq_none_iff,find?_eq_none];intro p hp;rw[decide_eq_true_eq];exact zt ndz hzi p hp
   rw[storedH_new hn] at dd';exact dd'
  ·intro h1 keep;refine⟨⟨_,#[],0,keep _ _ hd0,⟨rfl,rfl,rfl⟩,rfl,rfl,fun x hx=>by simp at hx,by simp⟩,fun z hz=>?_⟩;obtain⟨j,hj⟩:=getElem?_of_mem hz;obtain⟨o,it,n,e,r⟩:=(k3 j z hj).1;exact⟨⟨o,it,n,keep _ _ (Heap.get?_push_of_some _ e),r⟩,Heap.lt_size e⟩
  ·intro j hj;obtain⟨z,hzj⟩:=at' j hj;simp only[hzj,map_some,getD_some];obtain⟨b,e,pa⟩:=(k3 j z hzj).2;exact⟨b,by simpa using e,pa⟩
  ·rintro h' tk ⟨dd,al⟩ keep;rw[take_of_length_le (by rw[hits];omega)] at dd;obtain⟨o,es,ep,f1,f2,f3,f4,f5,f6⟩:=dd;refine⟨.ref s.heap.objs.size,_,I.laid (t':=tk) (a:=s.heap.objs.size) (o:=.dT kvs) (fun b o e=>keep b o (Heap.lt_size e) e) (le_refl _) ⟨by omega,hS,zs,k1.keeps fun b ys e=>?_,o,es,ep,f1,f2,f3,f4,f6⟩,rfl,q _ I.fresh⟩;rw[cj (fun z=>by rw[z,I.fresh] at e;cases e)];exact e
end L2
variable {ns:List Int}
namespace L2
open PySem.MeetsSeq PySem.MeetsSeq3
open PySem.AutoSeq1 (wpAny_loadPart')
def fj:List Int->List Int->Bool
 | _,[]=>false
 | [],_::_=>true
 | x::xs,y::ys=>decide (x<y)||(decide (x=y)&&fj xs ys)
def IA(a:Array Value)(xs:List Int):Prop:=a.size=xs.length/\∀(j:Nat) (x:Int),xs[j]?=some x->∃t,a[j]?=some (Value.int x t)
theorem Gz(l b:Addr)(items items2:Array Value)(n n2:Nat)(dd dd2:Option Addr)(sl sl2:Array (Option Value)){ys xs:List Int}(h1:IA items ys)(h2:IA items2 xs)(k:Nat) :
  ∀i:Nat,ys.length-i=k->fj (xs.drop i) (ys.drop i)=true->Meets (Builtin.«list.__eq__.loop» ⟨[.ref l,.ref b,rawInt i,rawInt 0],[]⟩)
   (fun _ R s=>s.heap.get? l=some { cls:=.type "list",dict:=dd,data:=.seq items n,slots:=sl }/\s.heap.get? b=some { cls:=.type "list",dict:=dd2,data:=.seq items2 n2,slots:=sl2 }/\R (.ok (.ret (.bool false))) s):=by
 induction k with
 | zero =>
  intro i hk hlex;rw[show ys.drop i=[] by simp;omega] at hlex;cases e:xs.drop i<;>rw[e] at hlex<;>simp[fj] at hlex
 | succ k ih =>
  intro i hk hlex prog w A R s h;obtain⟨hp,g,d,tk,os⟩:=s;obtain⟨hl,hb,h⟩:=h
  wp_walk using wpAny_loadPart' hl,wpAny_loadPart' hb
  have hy:i<ys.length:=by omega
  obtain⟨t,ey⟩:=h1.2 i ys[i] (getElem?_eq_getElem hy);have hi1:items[((i:Nat):Int).toNat]?=some (.int ys[i] t):=ey;have dy:ys.drop i=ys[i]::ys.drop (i+1):=drop_eq_getElem_cons hy
  by_cases hx:i<xs.length
  ·obtain⟨u,ex⟩:=h2.2 i xs[i] (getElem?_eq_getElem hx);have hi2:items2[((i:Nat):Int).toNat]?=some (.int xs[i] u):=ex;have dx:xs.drop i=xs[i]::xs.drop (i+1):=drop_eq_getElem_cons hx;rw[dx,dy] at hlex;simp only[fj,or_eq_true,and_eq_true,decide_eq_true_eq] at hlex;have hc:((i:Int)+1)=((i+1:Nat):Int):=by push_cast;rfl
   rw[hi1,hi2];refine wpAny_bind (SeqAt.EqAt.int_int ys[i] t xs[i] u prog w _ _ ?_)
   by_cases e:xs[i]=ys[i]
   ·rw[show(ys[i]==xs[i])=true by simp[e]];have hlex':fj (xs.drop (i+1)) (ys.drop (i+1))=true:=by
     rcases hlex with q|q
     ·omega
     ·exact q.2
    wp_walk
    rw[hc];exact⟨plainId_quiet plain_eq_loop _,codeAny_builtin entry_eq_loop (by
     rw[Around.under_plainId plain_eq_loop _];exact ih (i+1) (by omega) hlex' prog w A R _ ⟨hl,hb,h⟩)⟩
   ·have hlt:xs[i]<ys[i]:=by
     rcases hlex with q|q
     ·exact q
     ·exact absurd q.1 e
    rw[show(ys[i]==xs[i])=false by simp;omega]
    wp_walk using wpAny_loadPart' hl,wpAny_loadPart' hb
    rw[hi1,hi2];have e:decide (ys[i]<xs[i])=false:=by simp;omega
    refine wpAny_bind (wpAny_richCompare_same (typeIs_int _ ys[i] t) (typeIs_int _ xs[i] u) slot_int_lt (call_int_lt ⟨by simp,?_⟩));rw[e];exact wpAny_pure h
  ·have s1:=h1.1;have s2:=h2.1;have hi2:items2[((i:Nat):Int).toNat]?=none:=by simp;omega
   rw[hi1,hi2]
   wp_walk using wpAny_loadPart' hl,wpAny_loadPart' hb
   show R (.ok (.ret (.bool (decide (items.size<items2.size))))) _;rw[show decide (items.size<items2.size)=false by simp;omega];exact h
theorem Gw(l b:Addr)(items items2:Array Value)(n n2:Nat)(dd dd2:Option Addr)(sl sl2:Array (Option Value)){ys xs:List Int}(h1:IA items ys)(h2:IA items2 xs)(hxy:fj xs ys=true) :
  Meets (Builtin.«list.__lt__» ⟨[.ref l,.ref b],[]⟩)
   (fun _ R s=>s.heap.get? l=some { cls:=.type "list",dict:=dd,data:=.seq items n,slots:=sl }/\s.heap.get? b=some { cls:=.type "list",dict:=dd2,data:=.seq items2 n2,slots:=sl2 }/\R (.ok (.ret (.bool false))) s):=by
 intro prog w A R s h;obtain⟨hp,g,d,tk,os⟩:=s;obtain⟨hl,hb,h⟩:=h;have f3:=AutoSeq1.sub_list_list
 wp_walk using wpAny_loadPart' hl,wpAny_loadPart' hb
 exact⟨plainId_quiet plain_eq_loop _,codeAny_builtin entry_eq_loop (by
  rw[Around.under_plainId plain_eq_loop _];exact Gz l b items items2 n n2 dd dd2 sl sl2 h1 h2 _ 0 rfl hxy prog w A R _ ⟨hl,hb,h⟩)⟩
theorem HE{x y:Addr}{xs ys:Array Value}{ms:List Int}(hu:A.units<cLine)(hx:s.heap.IsList x xs)(hy:s.heap.IsList y ys)(h1:IA xs ns)(h2:IA ys ms)(hab:fj ns ms=true):rW prog w A s (.ref y) (.ref x):=by intro E Q hQ;obtain⟨⟨cx,ddx,datx,slx⟩,hox,hcx,nx,hdx⟩:=hx;obtain⟨⟨cy,ddy,daty,sly⟩,hoy,hcy,ny,hdy⟩:=hy;simp only at hcx hdx hcy hdy;subst hcx hdx hcy hdy;rw[oneLt'_eq];simp only[if_true];refine wpAny_bind (wpAny_cRoomFor hu ?_);refine wpAny_bind (wpAny_callSpecialIfBound?_slot (name:=Str.ofString "__lt__") ⟨_,hoy,rfl⟩ slot_list_lt (call_meets slot_list_lt ⟨_,hoy,rfl⟩ PySem.F.entry_list_lt (PySem.F.args_list_lt_2 _ _) (Gw y x ys xs ny nx ddy ddx sly slx h2 h1 hab) ⟨hoy,hox,?_⟩));exact wpAny_truthy_bool hQ
end L2
namespace L2
def BM(K:Frag)(H:Hp)(us:List V)(nss:List (List Int)):Prop:=us.length=nss.length/\(∀(i:Nat) (u:V) (ns:List Int),us[i]?=some u->nss[i]?=some ns->∃p,u=.ref p/\cO K H p (ns.map V.int)) /\
 ∀(i:Nat) (a b:List Int),nss[i]?=some a->nss[i+1]?=some b->fj a b=true
def vL(K:Frag):List V->Hp->VK->Prop:=fun xs H Q=>∃(a:Addr) (us:List V) (nss:List (List Int)),xs=[.ref a]/\cO K H a us/\BM K H us nss/\∀l,H l=none->Q (.ref l) (upd H l (.lst us))
theorem vK:∀{ns:List Int} {js:List Value},Vals (ns.map V.int) js->IA js.toArray ns:=by intro ns js r;refine⟨by have:=r.length;rw[length_map] at this;simp[this],fun j x e=>?_⟩;obtain⟨u,h1,h2⟩:=r.get (i:=j) (x:=.int x) (by rw[getElem?_map,e];rfl);obtain⟨t,rfl⟩:=h2;exact⟨t,by simpa using h1⟩
theorem HD(hu:X.A.units+9<cLine)(hK:X.K=K:=by rfl):aT X (.builtin "sorted") (vL K):=by
 subst hK;intro pins s σ H xs us' Q I r h;obtain⟨a,us,nss,rfl,hq,⟨hn,hL,hR⟩,q⟩:=h;obtain⟨u,rfl,rx⟩:=iE r;cases rx;obtain⟨its,rv,pl,hz⟩:=I.list hq;have hlen:=rv.length;have hl:s.heap.IsList a its.toArray:=pl.isList;refine Calls.call_function_entry kind_sorted plain_sorted entry_sorted (args_sorted1 _) ?_;unfold Builtin.«sorted»;refine wpAny_bind (m:=checkCount "sorted" 1 1 _) (wpAny_pure ?_);refine wpAny_bind (collect_list hl ?_ (by omega));refine wpAny_bind (wpAny_newList ?_ (by omega));have hsz:((s.heap.push (seqObj "list" #[] 0)).update s.heap.objs.size (Obj.mapSeq (·++its.toArray))).objs.size=s.heap.objs.size+1:=by rw[Heap.size_update,size_push']
 have hoL:(((s.heap.push (seqObj "list" #[] 0)).update s.heap.objs.size (Obj.mapSeq (·++its.toArray))).push (seqObj "list" its.toArray 0)).get? (s.heap.objs.size+1)=some (seqObj "list" its.toArray 0):=by rw[<- hsz];exact Heap.get?_push_size _ rfl
 show wpAny _ _ _ _ _ { s with heap:=((s.heap.push (seqObj "list" #[] 0)).update s.heap.objs.size (Obj.mapSeq (·++its.toArray))).push (seqObj "list" its.toArray 0) };rw[hsz];have old:∀b o,s.heap.get? b=some o->(kS (((s.heap.push (seqObj "list" #[] 0)).update s.heap.objs.size (Obj.mapSeq (·++its.toArray))).push (seqObj "list" its.toArray 0)) (s.heap.objs.size+1) its).get? b=some o:=fun b o e=>by
  have hlt:=Heap.lt_size e;refine E9 (Heap.get?_push_of_some _ ?_) (ne_of_lt (lt_succ_of_lt hlt));exact(Heap.get?_update_other _ _ (ne_of_gt hlt)).trans (Heap.get?_push_of_some _ e)
 have lst:∀{p:Addr} {ws:List V},cO X.K H p ws->∃js:List Value,Vals ws js/\(kS (((s.heap.push (seqObj "list" #[] 0)).update s.heap.objs.size (Obj.mapSeq (·++its.toArray))).push (seqObj "list" its.toArray 0)) (s.heap.objs.size+1) its).IsList p js.toArray:=fun {p ws} hp=>by
  obtain⟨js,rj,pj,_⟩:=I.list hp;exact⟨js,rj,IsList.old pj.isList (old p)⟩
 refine wpAny_bind (wpAny_holding (wpAny_call_entry slot_list_sort ⟨_,hoL,rfl⟩ entry_list_sort (Jm hoL (fun v hv=>?_) (fun i hi=>?_) (by omega) ⟨_,rfl,?_⟩) (args_list_sort _)))
 ·obtain⟨i,hi⟩:=getElem?_of_mem hv;have hiu:i<us.length:=by have:=(List.getElem?_eq_some_iff.mp hi).1;omega
  obtain⟨p,e,hs⟩:=hL i us[i] nss[i] (getElem?_eq_getElem hiu) (getElem?_eq_getElem (by omega));obtain⟨x,hx,rx⟩:=rv.get (getElem?_eq_getElem hiu);rw[hi] at hx;cases hx;rw[e] at rx;cases rx;obtain⟨js,_,o,ho,hc,_⟩:=lst hs;exact⟨o,ho,hc⟩
 ·rw[pairsOf_size] at hi;have e1:=getElem?_eq_getElem (l:=us) (i:=i) (by omega);have e2:=getElem?_eq_getElem (l:=us) (i:=i+1) (by omega);have n1:=getElem?_eq_getElem (l:=nss) (i:=i) (by omega);have n2:=getElem?_eq_getElem (l:=nss) (i:=i+1) (by omega);obtain⟨p,ep,sp⟩:=hL i _ _ e1 n1;obtain⟨q',eq,sq⟩:=hL (i+1) _ _ e2 n2;have hlt:=hR i _ _ n1 n2;rw[ep] at e1;rw[eq] at e2;obtain⟨x,hx,rx⟩:=rv.get e1;obtain⟨y,hy,ry⟩:=rv.get e2;cases rx;cases ry;obtain⟨j1,v1,l1⟩:=lst sp;obtain⟨j2,v2,l2⟩:=lst sq;have pg:∀(j:Nat) (z:Value),its[j]?=some z->(pairsOf its)[j]?=some (z,z):=fun j z hz=>by
   rw[<- getElem?_toList,pairsOf_toList,(getElem?_zip_eq_some (z:=(z,z))).mpr ⟨hz,hz⟩]
  exact⟨_,_,_,_,pg i _ hx,pg (i+1) _ hy,HE (by show X.A.units+1+1<cLine;omega) l1 l2 (vK v1) (vK v2) hlt⟩
 ·refine wpAny_pure ⟨_,rfl,?_⟩;obtain⟨e,he⟩:=sortedAll_at s.heap its its.toArray;refine⟨.ref (s.heap.objs.size+1),_,I.laid (t':=s.toks) (a:=s.heap.objs.size+1) (o:=.lst us) (fun b o e=>sortedAll_old e) (le_succ _) ?_,rfl,q _ (I.hok.fresh (le_succ _))⟩;exact⟨hz,its,e,rv,he⟩
end L2
namespace VS
def kA(ce:Ce):List W->Option (List (List Int))
 | []=>some []
 | x::r=>match (cH ce x).bind jb,kA ce r with
  | some ns,some l=>some (ns::l)
  | _,_=>none
def kH:List (List Int)->Bool
 | a::b::r=>fj a b&&kH (b::r)
 | _=>true
theorem zr:∀{l:List (List Int)} (i:Nat) {a b:List Int},kH l=true->l[i]?=some a->l[i+1]?=some b->fj a b=true
 | [],i,a,b,_,e,_=>by simp at e
 | [x],i,a,b,_,e,e2=>by simp at e2
 | x::y::r,0,a,b,h,e,e2=>by
  simp only[kH,and_eq_true] at h;simp only[getElem?_cons_zero,getElem?_cons_succ,Option.some.injEq] at e e2;subst e e2;exact h.1
 | x::y::r,i+1,a,b,h,e,e2=>by
  simp only[kH,and_eq_true] at h;exact zr (l:=y::r) i h.2 (by simpa using e) (by simpa using e2)
def nQ(mk:List W->M W):List W->M W:=fun ws ce=>match ws with
 | [w]=>match cH ce w with
  | some xs=>match kA ce xs with
   | some nss=>if kH nss=true then mk xs ce else none
   | none=>none
  | none=>none
 | _=>none
section
variable {E:XK}
theorem zq(S:aB G F as H ce)(K:Frag):∀{xs:List W} {us:List V} {nss:List (List Int)},aj F as xs us->kA ce xs=some nss->us.length=nss.length/\∀(i:Nat) (u:V) (ns:List Int),us[i]?=some u->nss[i]?=some ns->∃p,u=.ref p/\cO K H p (ns.map V.int)
 | [],_,_,r,e=>by
  simp only[aj] at r;simp only[kA,Option.some.injEq] at e;subst r e;exact⟨rfl,fun i u ns e=>by simp at e⟩
 | x::xs,_,_,r,e=>by
  simp only[aj] at r;obtain⟨v,r',rfl,h,t⟩:=r;simp only[kA] at e;split at e
  ·rename_i ns l hn hl;cases e;obtain⟨i1,i2⟩:=zq S K t hl;refine⟨by simp[i1],fun i u ms e1 e2=>?_⟩;cases i with
   | zero =>
    simp only[getElem?_cons_zero,Option.some.injEq] at e1 e2;subst e1 e2;obtain⟨ys,hy,hi⟩:=bind_eq_some_iff.mp hn;obtain⟨p,qs,rfl,hp,rq⟩:=i5 S h hy;cases uc hi;cases rq.of_ints;exact⟨p,rfl,.inl hp⟩
   | succ i=>exact i2 i u ms (by simpa using e1) (by simpa using e2)
  ·cases e
theorem C3(K:Frag)(hm:jt G E mk):Bi G E (vL K) (nQ mk):=by
 intro F as H σ sl ce ws vs Q S rs P;unfold nQ at P;split at P
 ·rename_i w;obtain⟨v,rfl,r⟩:=gB rs;split at P
  ·rename_i xs hx;split at P
   ·rename_i nss hn;split at P
    ·rename_i hr;obtain⟨a,us,rfl,h,rs'⟩:=i5 S.st r hx;obtain⟨i1,i2⟩:=zq S.st K rs' hn;exact⟨a,us,nss,rfl,.inl h,⟨i1,i2,fun i a b e1 e2=>zr i hr e1 e2⟩,fun l hl=>(hm S rs' P).2 l hl⟩
    ·exact P.elim
   ·exact P.elim
  ·exact P.elim
 ·exact P.elim
end
def nE:W->Option (W×W)
 | .tup [k,v]=>some (k,v)
 | _=>none
def iM{κ:Type}(f:W->Option κ):List W->Option (List (κ×W))
 | []=>some []
 | x::r=>(nE x).bind fun p=>(f p.1).bind fun a=>(iM f r).map fun l=>(a,p.2)::l
open Classical in
def mK{κ:Type}(f:W->Option κ)(c:List (κ×W)->C):List W->M W:=fun ws ce=>match ws with
 | [w]=>match cH ce w with
  | some xs=>match iM f xs with
   | some kvs=>if (kvs.map (·.1)).Nodup then i8 (c kvs) 0 ce else none
   | none=>none
  | none=>none
 | _=>none
def mJ:List W->M W:=mK fK .dct
def lL:List W->M W:=mK kP .dtp
section
variable {E:XK}
theorem yh{x:W}{p:W×W}(r:Rep F as x v)(e:nE x=some p):∃b v1 v2,v=.ref b/\F b=some (.tup [v1,v2])/\Rep F as p.1 v1/\Rep F as p.2 v2:=by
 unfold nE at e;split at e
 ·cases e;simp only[Rep,aj] at r;obtain⟨b,vs,rfl,hb,v1,r1,rfl,q1,v2,r2,rfl,q2,rfl⟩:=r;exact⟨b,v1,v2,rfl,hb,q1,q2⟩
 ·cases e
theorem zo{κ:Type}{f:W->Option κ}{x:W}{r:List W}{kvs:List (κ×W)}(e:iM f (x::r)=some kvs):∃p a l,nE x=some p/\f p.1=some a/\iM f r=some l/\kvs=(a,p.2)::l:=by simp only[iM,bind_eq_some_iff,map_eq_some_iff] at e;obtain⟨p,h1,a,h2,l,h3,h4⟩:=e;exact⟨p,a,l,h1,h2,h3,h4.symm⟩
theorem yg(hs:∀b o,F b=some o->H b=some o):∀{xs:List W} {us:List V} {kvs:List (Key×W)},aj F as xs us->iM fK xs=some kvs->∃ps,sf H us ps/\aD F as kvs ps
 | [],_,_,r,e=>by
  simp only[aj] at r;simp only[iM,Option.some.injEq] at e;subst r e;exact⟨[],.nil,.nil⟩
 | x::xs,_,_,r,e=>by
  simp only[aj] at r;obtain⟨v,r',rfl,h,t⟩:=r;obtain⟨p,a,l,e1,e2,e3,rfl⟩:=zo e;obtain⟨b,v1,v2,rfl,hb,q1,q2⟩:=yh h e1;obtain⟨ps,k1,k2⟩:=yg hs t e3;cases nk q1 e2;exact⟨(a,v2)::ps,.cons ⟨b,rfl,hs _ _ hb⟩ k1,.cons ⟨rfl,q2⟩ k2⟩
theorem yf(hs:∀b o,F b=some o->H b=some o):∀{xs:List W} {us:List V} {kvs:List (List Key×W)},aj F as xs us->iM kP xs=some kvs->∃ps,se H us ps/\aD F as kvs ps
 | [],_,_,r,e=>by
  simp only[aj] at r;simp only[iM,Option.some.injEq] at e;subst r e;exact⟨[],.nil,.nil⟩
 | x::xs,_,_,r,e=>by
  simp only[aj] at r;obtain⟨v,r',rfl,h,t⟩:=r;obtain⟨p,a,l,e1,e2,e3,rfl⟩:=zo e;obtain⟨b,v1,v2,rfl,hb,q1,q2⟩:=yh h e1;obtain⟨ps,k1,k2⟩:=yf hs t e3;obtain⟨c,rfl,hc⟩:=tV q1 e2;exact⟨(a,v2)::ps,.cons ⟨b,c,rfl,hs _ _ hb,hs _ _ hc⟩ k1,.cons ⟨rfl,q2⟩ k2⟩
theorem aD.keysG{κ:Type}{kvs:List (κ×W)}{ps:List (κ×V)}(r:aD F as kvs ps):ps.map (·.1)=kvs.map (·.1):=by
 induction r with
 | nil=>rfl
 | cons h t ih=>rw[map_cons,map_cons,ih,h.1]
theorem wN(K:Frag):Bi G E (rZ K) mJ:=by
 intro F as H σ sl ce ws vs Q S rs P;unfold mJ mK at P;split at P
 ·rename_i w;obtain⟨v,rfl,r⟩:=gB rs;split at P
  ·rename_i xs hx;split at P
   ·rename_i kvs hk;split at P
    ·rename_i hn;obtain⟨a,us,rfl,h,rs'⟩:=i5 S.st r hx;obtain⟨ps,k1,k2⟩:=yg (fun b o e=>S.st.sub _ _ e) rs' hk;exact⟨a,us,rfl,.inl h,.inl ⟨ps,k1,by rw[k2.keysG];exact hn,(p_ (c:=.dct kvs) (o:=.dK ps) S (fun p as' l=>⟨ps,eB,k2.le l⟩) P).2⟩⟩
    ·exact P.elim
   ·exact P.elim
  ·exact P.elim
 ·exact P.elim
theorem ye(K:Frag):Bi G E (rZ K) lL:=by
 intro F as H σ sl ce ws vs Q S rs P;unfold lL mK at P;split at P
 ·rename_i w;obtain⟨v,rfl,r⟩:=gB rs;split at P
  ·rename_i xs hx;split at P
   ·rename_i kvs hk;split at P
    ·rename_i hn;obtain⟨a,us,rfl,h,rs'⟩:=i5 S.st r hx;obtain⟨ps,k1,k2⟩:=yf (fun b o e=>S.st.sub _ _ e) rs' hk;exact⟨a,us,rfl,.inl h,.inr ⟨ps,k1,by rw[k2.keysG];exact hn,(p_ (c:=.dtp kvs) (o:=.dT ps) S (fun p as' l=>⟨ps,eB,k2.le l⟩) P).2⟩⟩
    ·exact P.elim
   ·exact P.elim
  ·exact P.elim
 ·exact P.elim
end
def nU:List W->M W:=fun ws ce=>match ws with
 | [w]=>match lA ce w with
  | some (_,kvs)=>some (.ok (.int kvs.length) ce)
  | none=>none
 | _=>none
def i_(ce:Ce)(x y:W):Option W:=match kP y,lA ce x with
 | some k,some (_,kvs)=>valG kvs k
 | _,_=>none
section
variable {E:XK} {a b:Expr}
theorem C2:Bi G E (fun xs H Q=>∃a kvs,xs=[V.ref a]/\H a=some (.dT kvs)/\Q (.int kvs.length) H) nU:=by
 intro F as H σ sl ce ws vs Q S rs P;unfold nU at P;split at P
 ·rename_i w;obtain⟨v,rfl,r⟩:=gB rs;split at P
  ·rename_i n kvs hx;obtain⟨a,ps,rfl,ha,hH,rk⟩:=tU S.st r hx;exact⟨a,ps,rfl,hH,P.done S (by simp only[Rep];rw[Paired.length rk])⟩
  ·exact P.elim
 ·exact P.elim
theorem nu(hu:X.A.units+1<cLine)(ha:PE X a (ax G E da))(hb:PE X b (ax G E db))(hs:pf b):PE X (.Subscript a b pos) (ax G E (aC i_ da db)):=by
 refine PE.imp (yp hu ha hb hs) fun σ H Q zz_=>bN zz_ fun F as sl ce S P=>(step S P).mono fun x H1 zz_=>bu zz_ fun wx F1 as1 ce1 l1 S1 rx P1=>(step S1 P1).mono fun y H2 zz_=>bu zz_ fun wy F2 as2 ce2 l2 S2 ry P2=>?_;obtain⟨w,e,P3⟩:=jP P2;unfold i_ at e;split at e
 ·rename_i k n kvs hk hd;obtain⟨a,ps,rfl,ha,hH,rk⟩:=tU S2.st (rx.le l2) hd;obtain⟨b,rfl,hb⟩:=tV ry hk;rcases rk.valG k with ⟨e1,e2⟩|⟨w',v,e1,e2,rv⟩
  ·rw[e1] at e;cases e
  ·rw[e1] at e;cases e;exact⟨a,v,rfl,by rw[<- e2];exact c9.t hH (S2.st.sub _ _ hb),P3.done S2 rv⟩
 ·cases e
end
end VS
variable {r_p r_w r_v r_y:List W->M W} {fa:Addr}
namespace K38
def qT:lg:=[("StoneError",true,["StoneError"]),("NoLay",true,["NoLay", "StoneError"]),("NoBreath",true,["NoBreath", "StoneError"]),("TooMuch",true,["TooMuch", "StoneError"])]
def d_r(fu:Nat):List W->M W:=bO finC 1
 (a_ (aF fT (dC (.int 3)) (ae 0)))
def Au(fu:Nat):DS :=
 (bz (gX (dB (aC (iR true) (ae 6) (ae 3))) (dB (aC (c6 false) (aC aE (ae 1) (ae 6)) (aC aE (ae 1) (ae 2))))) (ay (kG (ae 3) (ae 6) (dC (.bl true)))
 (c7 (dM dO (ae 4) (af (ae 6) ak)))) bI)
def As(fu:Nat):DS :=
 (ay (bf 5 (mn nK (ae 4)))
 (cD (iP (aC aE (ae 0) (ae 5))) (gN 6) (Au fu)))
def d_aa(fu:Nat):List W->M W:=bO finO 7
 (ay (bf 3 (oi (ae 2) (dC (.bl true))))
 (ay (bf 4 (dF (af (ae 2) ak)))
 (ay (iW (jD (ae 4)) (As fu) fu)
 (a_ (bg (fE fS) (af (ae 3) ak))))))
def An(fu:Nat):DS :=
 (kG (ae 2) (ae 6) (dC (.bl true)))
def Am(fu:Nat):DS :=
 (bz (dB (aC (iR true) (ae 4) (ae 2))) (ay (bf 5 (aP 3 (bR (d_aa fu)) (af (ae 0) (af (ae 1) (af (ae 4) ak)))))
 (ay (c7 (dM dO (ae 3) (af (ae 5) ak)))
 (cD (dA (ae 5)) (gN 6) (An fu)))) bI)
def d_fa(fu:Nat):List W->M W:=bO finO 7
 (ay (bf 2 mD)
 (ay (bf 3 (dF ak))
 (ay (cD (iQ (af (bg cg (af (ae 0) ak)) ak)) (gN 4) (Am fu))
 (a_ (ae 3)))))
def d_ia(fu:Nat):List W->M W:=bO finO 3
 (a_ (aP 3 (d_aa fu) (af (ae 0) (af (ae 1) (af (ae 2) ak)))))
def d_ka(fu:Nat):List W->M W:=bO finC 2
 (a_ (eX bW [1] (dA (aP 2 (bR (d_fa fu)) (af (ae 0) (af (ae 1) ak)))) (dB (aC (c6 true) (aC aE (ae 1) (aC aE (ae 0) (dC (.int 0)))) (dC (.int 0)))) (ae 0)))
def Be(fu:Nat):DS :=
 (kG (ae 2) (ae 4) (dC (.bl true)))
def Bc(fu:Nat):DS :=
 (cD (iP (aC aE (ae 0) (ae 3))) (gN 4) (Be fu))
def d_f(fu:Nat):List W->M W:=bO finO 5
 (ay (bf 2 mD)
 (ay (cD (dA (ae 1)) (gN 3) (Bc fu))
 (a_ (bg (fE fS) (af (ae 2) ak)))))
def d_da(fu:Nat):List W->M W:=bO finO 3
 (a_ (eX fS [1] (dA (aP 2 (bR (d_f fu)) (af (ae 0) (af (ae 2) ak)))) (dB (aC (c6 false) (aC aE (ae 1) (ae 0)) (dC (.int 0)))) (ae 0)))
def zO(fu:Nat):DS :=
 (gj (ae 2) (j7 (ae 3) (ae 4)))
def d_ga(fu:Nat):List W->M W:=bO finC 5
 (ay (bf 3 (bg (my fS) (af (ae 0) ak)))
 (ay (cD (dA (ae 1)) (gN 4) (zO fu))
 (a_ (bg gu (af (ae 3) ak)))))
def A2(fu:Nat):DS :=
 (bz (gX (dB (aC (c6 false) (aC aE (ae 1) (aC aE (ae 4) (dC (.int 0)))) (ae 2))) (fN (jD (aP 3 (bR (d_da fu)) (af (ae 0) (af (ae 1) (af (ae 4) ak))))))) (c7 (dM lp (ae 3) (af (ae 4) ak))) bI)
def d_o(fu:Nat):List W->M W:=bO finO 5
 (ay (bf 3 (dF ak))
 (ay (cD (dA (aP 2 (d_ka fu) (af (ae 0) (af (ae 1) ak)))) (gN 4) (A2 fu))
 (a_ (bg (fE fS) (af (ae 3) ak)))))
def d_la(fu:Nat):List W->M W:=bO finC 7
 (ay (bz (dB (aC (c6 true) (aC aE (ae 1) (ae 3)) (dC (.int 0)))) (jf "NoLay" [3]) bI)
 (ay (bf 4 (aP 3 (d_ga fu) (af (ae 1) (af (eJ (af (ae 3) ak)) (af (ae 2) ak)))))
 (ay (bf 5 (aP 3 (bR (d_o fu)) (af (ae 0) (af (ae 4) (af (aP 1 (d_r fu) (af (ae 2) ak)) ak)))))
 (ay (bf 6 (aP 3 (d_ga fu) (af (ae 4) (af (ae 5) (af (dC (.int 0)) ak)))))
 (ay (bz (fN (jD (aP 3 (bR (d_da fu)) (af (ae 0) (af (ae 6) (af (aP 3 (bR (d_ia fu)) (af (ae 0) (af (ae 6) (af (ae 3) ak)))) ak)))))) (jf "NoBreath" [3]) bI)
 (a_ (bK (af (ae 6) (af (ae 5) ak)))))))))
def Al(fu:Nat):DS :=
 (ay (kB (aP 4 (d_la fu) (iS (af (ae 0) (af (ae 1) (af (ae 2) (af (ae 5) ak)))))) (some 6) (fun x=>m8 qT "NoLay" x||m8 qT "NoBreath" x) (fun _=>o5 u7))
 (c7 (dM dO (ae 4) (af (bK (af (ae 5) (af (aC aE (ae 6) (dC (.int 0))) (af (aC aE (ae 6) (dC (.int 1))) ak)))) ak))))
def d_ea(fu:Nat):List W->M W:=bO finO 7
 (ay (bf 4 (dF ak))
 (ay (cD (dA (ae 3)) (gN 5) (Al fu))
 (a_ (ae 4))))
def d_ca(fu:Nat):List W->M W:=bO finC 4
 (a_ (eX bW [1] (dA (aP 4 (bR (d_ea fu)) (af (ae 0) (af (aC aE (ae 1) (eQ gz (dC (.int 1)))) (af (ae 2) (af (ae 3) ak)))))) (dB (aC (gc true) (aC aE (ae 0) (dC (.int 1))) (ae 1))) (ae 0)))
def d_ja(fu:Nat):List W->M W:=bO finO 4
 (ay (bf 3 (eX fS [] (dA (aP 4 (d_ca fu) (af (ae 0) (af (ae 1) (af (ae 2) (af (bg (mP bW) (af (bg cg (af (ae 0) ak)) ak)) ak)))))) fo (bK (af (aC aE (ae 0) (dC (.int 0))) (af (aC aE (ae 0) (dC (.int 1))) ak)))))
 (ay (c7 (dM dO (ae 3) (af (bK (af (dC .non) (af (aC aE (ae 1) (eQ gz (dC (.int 1)))) ak))) ak)))
 (a_ (ae 3))))
def d_d(fu:Nat):List W->M W:=bO finC 2
 (a_ (aF qS (aF mv (aF cu (bg cg (af (ae 1) ak)) (dC (.int 1))) (dC (.int 2))) (iy "Chase" "most" (ae 0))))
def d_c(fu:Nat):List W->M W:=bO finC 2
 (a_ (aP 3 (bR (d_da fu)) (af (iy "Chase" "joined" (ae 0)) (af (ae 1) (af (aP 3 (bR (d_ia fu)) (af (iy "Chase" "joined" (ae 0)) (af (ae 1) (af (iy "Chase" "stone" (ae 0)) ak)))) ak)))))
def d_b(fu:Nat):List W->M W:=bO finC 3
 (ay (bf 2 (aP 4 (d_ca fu) (af (iy "Chase" "joined" (ae 0)) (af (ae 1) (af (iy "Chase" "hunter" (ae 0)) (af (iA "Chase" "breaths_at" 2 (d_c fu) (ae 0) (af (aC aE (ae 1) (eQ gz (dC (.int 1)))) ak)) ak))))))
 (a_ (eX bW [0] (dA (ae 2)) (iS (gS (dB (aC (c6 false) (aC aE (aC aE (ae 0) (dC (.int 1))) (iy "Chase" "stone" (ae 1))) (dC (.int 0)))) (dB (aF uY (bg cg (af (iA "Chase" "breaths_at" 2 (d_c fu) (ae 1) (af (aC aE (ae 0) (dC (.int 1))) ak)) ak)) (dC (.int 1)))))) (ae 0))))
def A1(fu:Nat)(r_p:List W->M W)(r_w:List W->M W):DS :=
 (ay (bz (dB (aC (c6 false) (aC aE (aC aE (ae 4) (dC (.int 1))) (iy "Chase" "stone" (ae 0))) (dC (.int 0)))) (a_ (bK (af (dC (.str "caught")) (af (dF (af (bK (af (ae 2) (af (aC aE (ae 4) (dC (.int 0))) ak))) ak)) ak)))) bI)
 (ay (bf 5 (iA "Chase" "run" 3 (lB r_w) (ae 0) (af (fR bW (ae 1) (eJ (af (aC aE (ae 4) (dC (.int 1))) ak))) (af (iT (ae 2) (bK (af (aC aE (ae 4) (dC (.int 0))) ak))) ak))))
 (ay (bz (dB (aC (c6 false) (aC aE (ae 5) (dC (.int 0))) (dC (.str "caught")))) (a_ (bK (af (dC (.str "caught")) (af (fR fS (eJ (af (bK (af (ae 2) (af (aC aE (ae 4) (dC (.int 0))) ak))) ak)) (aC aE (ae 5) (dC (.int 1)))) ak)))) bI)
 (c7 (dM lp (ae 3) (af (aC aE (ae 5) (dC (.int 1))) ak))))))
def qL(fu:Nat)(r_p:List W->M W)(r_w:List W->M W):List W->M W:=bO lr 6
 (ay (bz (dB (iA "Chase" "is_spent" 2 (d_d fu) (ae 0) (af (ae 2) ak))) (a_ (bK (af (dC (.str "free")) (af (dF ak) ak)))) bI)
 (ay (bf 3 (dF ak))
 (ay (cD (dA (iA "Chase" "hunter_lays" 2 (d_b fu) (ae 0) (af (ae 1) ak))) (gN 4) (A1 fu r_p r_w))
 (a_ (bK (af (dC (.str "free")) (af (ae 3) ak)))))))
def AH(fu:Nat)(r_p:List W->M W)(r_w:List W->M W):DS :=
 (ay (bf 5 (iA "Chase" "hunt" 3 (lB r_p) (ae 0) (af (fR bW (ae 1) (eJ (af (aC aE (ae 4) (dC (.int 1))) ak))) (af (iT (ae 2) (bK (af (aC aE (ae 4) (dC (.int 0))) ak))) ak))))
 (ay (bz (dB (aC (c6 false) (aC aE (ae 5) (dC (.int 0))) (dC (.str "free")))) (a_ (bK (af (dC (.str "free")) (af (fR fS (eJ (af (bK (af (ae 2) (af (aC aE (ae 4) (dC (.int 0))) ak))) ak)) (aC aE (ae 5) (dC (.int 1)))) ak)))) bI)
 (c7 (dM lp (ae 3) (af (aC aE (ae 5) (dC (.int 1))) ak)))))
def qK(fu:Nat)(r_p:List W->M W)(r_w:List W->M W):List W->M W:=bO lr 6
 (ay (bz (dB (iA "Chase" "is_spent" 2 (d_d fu) (ae 0) (af (ae 2) ak))) (a_ (bK (af (dC (.str "free")) (af (dF ak) ak)))) bI)
 (ay (bf 3 (dF ak))
 (ay (cD (dA (aP 3 (bR (d_ja fu)) (af (iy "Chase" "joined" (ae 0)) (af (ae 1) (af (iy "Chase" "runner" (ae 0)) ak))))) (gN 4) (AH fu r_p r_w))
 (a_ (bK (af (dC (.str "caught")) (af (ae 3) ak)))))))
def g9(fu:Nat):Nat->(List W->M W)×(List W->M W)
 | 0=>(fun _ _=>none,fun _ _=>none)
 | r+1=>(qL fu (g9 fu r).1 (g9 fu r).2,qK fu (g9 fu r).1 (g9 fu r).2)
def d_p(fu:Nat):List W->M W:=(g9 fu 10).1
def d_w(fu:Nat):List W->M W:=(g9 fu 10).2
def d_e(fu:Nat):List W->M W:=bO lr 5
 (ay (jF "Chase" "joined" (ae 0) (ae 1))
 (ay (jF "Chase" "hunter" (ae 0) (ae 2))
 (ay (jF "Chase" "runner" (ae 0) (aP 1 (d_r fu) (af (ae 2) ak)))
 (ay (jF "Chase" "stone" (ae 0) (ae 3))
 (jF "Chase" "most" (ae 0) (ae 4))))))
def d_ha(fu:Nat):List W->M W:=bO lr 5
 (ay (bz (dB (aF iO (bg cg (af (ae 0) ak)) (dC (.int 16)))) (jf "TooMuch" []) bI)
 (a_ (iA "Chase" "hunt" 3 (d_p fu) (pv "Chase" 5 (d_e fu) (af (ae 0) (af (ae 2) (af (ae 3) (af (ae 4) ak))))) (af (eJ (af (ae 1) ak)) (af (bK ak) ak)))))
def d_h(fu:Nat):List W->M W:=bO finC 2
 (ay (bz (dB (aF iN (ae 1) (bg cg (af (ae 0) ak)))) (a_ (aC aE (ae 0) (ae 1))) bI)
 (a_ (aF cu (aF ee (aF ee (dC (.int 71)) (ae 1)) (ae 1)) (aF ee (dC (.int 7)) (ae 1)))))
def d_ba(fu:Nat):List W->M W:=bO finC 3
 (ay (bf 2 (aF dY (aF ee (aF cu (aF dY (ae 0) (dC (.int 99991))) (dC (.int 1))) (aF cu (dC (.int 48271)) (aF ee (aF ee (dC (.int 2018)) (ae 1)) (ae 1)))) (dC (.int 65521))))
 (a_ (aF dY (aF cu (aF ee (ae 2) (ae 2)) (aF ee (dC (.int 7919)) (ae 1))) (dC (.int 65519)))))
def A0(fu:Nat):DS :=
 (ay (bf 8 (gK (aF dn (aF fT (ae 6) (ae 7)) (ae 3)) (iq (aF dn (aF fT (ae 6) (ae 7)) (dC (.int 1))) (aF iO (aF dY (ae 6) (ae 3)) (dC (.int 0))))))
 (ay (bf 9 (aF dn (aF dY (aP 2 (d_ba fu) (af (ae 0) (af (aF cu (aF cu (dC (.int 9)) (aF ee (dC (.int 17)) (ae 6))) (ae 7)) ak))) (dC (.int 7))) (dC (.int 0))))
 (ay (bz (dB (aF dn (aF dY (aP 2 (d_ba fu) (af (ae 0) (af (dC (.int 1)) ak))) (dC (.int 4))) (dC (.int 0)))) (bf 8 (gK (ae 8) (ae 9))) bI)
 (ay (bz (dB (aF dn (aF dY (aP 2 (d_ba fu) (af (ae 0) (af (dC (.int 1)) ak))) (dC (.int 4))) (dC (.int 1)))) (bf 8 (iq (ae 8) (nN (ae 9)))) bI)
 (bz (dB (ae 8)) (ay (c7 (dM dO (aC aE (ae 5) (ae 6)) (af (ae 7) ak)))
 (c7 (dM dO (aC aE (ae 5) (ae 7)) (af (ae 6) ak)))) bI)))))
def AZ(fu:Nat):DS :=
 (cD (iQ (af (ae 6) ak)) (gN 7) (A0 fu))
def d_t(fu:Nat):List W->M W:=bO finC 10
 (ay (bf 2 (eJ (af (bK (af (dC (.int 2)) (af (dC (.int 2)) ak))) (af (bK (af (dC (.int 3)) (af (dC (.int 2)) ak))) (af (bK (af (dC (.int 5)) (af (dC (.int 1)) ak))) (af (bK (af (dC (.int 3)) (af (dC (.int 3)) ak))) (af (bK (af (dC (.int 4)) (af (dC (.int 2)) ak))) (af (bK (af (dC (.int 2)) (af (dC (.int 4)) ak))) (af (bK (af (dC (.int 7)) (af (dC (.int 1)) ak))) (af (bK (af (dC (.int 3)) (af (dC (.int 4)) ak))) (af (bK (af (dC (.int 4)) (af (dC (.int 3)) ak))) (af (bK (af (dC (.int 6)) (af (dC (.int 2)) ak))) (af (bK (af (dC (.int 5)) (af (dC (.int 2)) ak))) (af (bK (af (dC (.int 4)) (af (dC (.int 4)) ak))) ak))))))))))))))
 (ay (gj (aC aE (ae 2) (aF dY (aP 2 (d_ba fu) (af (ae 0) (af (dC (.int 0)) ak))) (ae 1))) (gT 2 (eE (gN 3) (eE (gN 4) jc))))
 (ay (bf 5 (eX bW [] (iQ (af (aF ee (ae 3) (ae 4)) ak)) fo (dF ak)))
 (ay (cD (iQ (af (aF ee (ae 3) (ae 4)) ak)) (gN 6) (AZ fu))
 (a_ (bg gu (af (eX bW [] (dA (ae 5)) fo (bg gu (af (bg (fE bW) (af (ae 0) ak)) ak))) ak)))))))
def AY(fu:Nat):DS :=
 (bz (gX (dB (aF dn (aC aE (ae 1) (ae 5)) (aC aE (ae 1) (ae 2)))) (dB (aC (gc true) (ae 5) (ae 3)))) (c7 (dM dO (ae 3) (af (ae 5) ak))) bI)
def Ba(fu:Nat):DS :=
 (ay (cD (iP (aC aE (ae 0) (aC aE (ae 3) (ae 4)))) (gN 5) (AY fu))
 (bf 4 (aF cu (ae 4) (dC (.int 1)))))
def d_n(fu:Nat):List W->M W:=bO finO 6
 (ay (bf 3 (dF (af (ae 2) ak)))
 (ay (bf 4 (dC (.int 0)))
 (ay (iW (dB (aF iN (ae 4) (bg cg (af (ae 3) ak)))) (Ba fu) fu)
 (a_ (ae 3)))))
def Bj(fu:Nat):DS :=
 (bz (gX (dB (aF dn (aC aE (ae 1) (ae 5)) (dC (.int 0)))) (dB (aC (gc true) (ae 5) (ae 3)))) (c7 (dM dO (ae 3) (af (ae 5) ak))) bI)
def Bh(fu:Nat):DS :=
 (cD (iP (aC aE (ae 0) (ae 4))) (gN 5) (Bj fu))
def d_g(fu:Nat):List W->M W:=bO finO 6
 (ay (bf 3 (dF ak))
 (ay (cD (dA (ae 2)) (gN 4) (Bh fu))
 (a_ (ae 3))))
def AO(fu:Nat):DS :=
 (gj (dC (.int 0)) (j7 (ae 4) (ae 6)))
def AN(fu:Nat):DS :=
 (bz (dB (aF dn (aC aE (ae 4) (ae 6)) (aF fT (dC (.int 3)) (ae 2)))) (ay (bf 7 (aP 3 (bR (d_n fu)) (af (ae 0) (af (ae 4) (af (ae 6) ak)))))
 (bz (dB (aC (c6 false) (aP 3 (bR (d_g fu)) (af (ae 0) (af (ae 4) (af (ae 7) ak)))) (eJ ak))) (bf 5 (fR bW (ae 5) (ae 7))) bI)) bI)
def d_u(fu:Nat):List W->M W:=bO finC 8
 (ay (bz (dB (aF jZ (aC aE (ae 1) (ae 3)) (dC (.int 0)))) (a_ (dC .non)) bI)
 (ay (bf 4 (bg (my fS) (af (ae 1) ak)))
 (ay (gj (ae 2) (j7 (ae 4) (ae 3)))
 (ay (bf 5 (eJ ak))
 (ay (cD (iP (aC aE (ae 0) (ae 3))) (gN 6) (AN fu))
 (ay (cD (dA (ae 5)) (gN 6) (AO fu))
 (ay (bz (dB (aC (c6 false) (aP 3 (bR (d_g fu)) (af (ae 0) (af (ae 4) (af (aP 3 (bR (d_n fu)) (af (ae 0) (af (ae 4) (af (ae 3) ak)))) ak)))) (eJ ak))) (a_ (dC .non)) bI)
 (a_ (bg gu (af (ae 4) ak))))))))))
def A_(fu:Nat):DS :=
 (ay (bf 5 (aP 2 (d_h fu) (af (ae 0) (af (aF cu (aF cu (ae 1) (dC (.int 1))) (ae 4)) ak))))
 (ay (bf 6 (aP 4 (d_u fu) (af (ae 2) (af (ae 3) (af (aF cu (dC (.int 1)) (aF dY (aP 2 (d_ba fu) (af (ae 5) (af (aF cu (dC (.int 2)) (ae 4)) ak))) (dC (.int 2)))) (af (aF dY (aP 2 (d_ba fu) (af (ae 5) (af (dC (.int 3)) ak))) (bg cg (af (ae 2) ak))) ak))))))
 (bz (dB (eQ nV (ae 6))) (bf 3 (ae 6)) bI)))
def d_m(fu:Nat):List W->M W:=bO finC 7
 (ay (bf 3 (bg gu (af (eX bW [] (iP (ae 2)) fo (dC (.int 0))) ak)))
 (ay (cD (iQ (af (aF dY (aP 2 (d_ba fu) (af (aP 2 (d_h fu) (af (ae 0) (af (ae 1) ak))) (af (dC (.int 4)) ak))) (aF cu (bg cg (af (ae 2) ak)) (dC (.int 6)))) ak)) (gN 4) (A_ fu))
 (a_ (ae 3))))
def d_l(fu:Nat):List W->M W:=bO finC 5
 (ay (bf 4 (aP 4 (d_u fu) (af (ae 0) (af (aC aE (ae 1) (eQ gz (dC (.int 1)))) (af (ae 2) (af (ae 3) ak))))))
 (ay (bz (dB (aC (gc false) (ae 4) (ae 1))) (a_ (dC .non)) bI)
 (a_ (ae 4))))
def A9(fu:Nat):DS :=
 (ay (bf 5 (aP 4 (d_l fu) (af (ae 0) (af (ae 1) (af (ae 2) (af (ae 4) ak))))))
 (bz (dB (eQ nV (ae 5))) (c7 (dM dO (ae 3) (af (bK (af (ae 4) (af (fR bW (ae 1) (eJ (af (ae 5) ak))) ak))) ak))) bI))
def d_q(fu:Nat):List W->M W:=bO finC 6
 (ay (bf 3 (dF ak))
 (ay (cD (iQ (af (bg cg (af (ae 0) ak)) ak)) (gN 4) (A9 fu))
 (a_ (fR bW (ae 3) (eJ (af (bK (af (dC .non) (af (ae 1) ak))) ak))))))
def Aq(fu:Nat):DS :=
 (bz (dB (eQ rF (ae 2))) (c7 (dM dO (ae 1) (af (dC (.int 99)) ak))) (c7 (dM dO (ae 1) (af (ae 2) ak))))
def d_z(fu:Nat):List W->M W:=bO finO 3
 (ay (bf 1 (dF ak))
 (ay (cD (iP (ae 0)) (gN 2) (Aq fu))
 (a_ (ae 1))))
def AX(fu:Nat):DS :=
 (bz (gX (dB (eQ nV (ae 2))) (gS (fN (dB (bg iz (af (ae 2) (af (dC (.ty "int")) ak))))) (dB (bg iz (af (ae 2) (af (dC (.ty "bool")) ak)))))) (a_ (dC (.bl false))) bI)
def AW(fu:Nat):DS :=
 (ay (bz (gS (fN (dB (bg iz (af (ae 1) (af (dC (.ty "tuple")) ak))))) (gS (dB (aF jZ (bg cg (af (ae 1) ak)) (dC (.int 2)))) (fN (dB (bg iz (af (aC aE (ae 1) (dC (.int 0))) (af (dC (.ty "tuple")) ak))))))) (a_ (dC (.bl false))) bI)
 (cD (iP (iT (aC aE (ae 1) (dC (.int 0))) (bK (af (aC aE (ae 1) (dC (.int 1))) ak)))) (gN 2) (AX fu)))
def d_i(fu:Nat):List W->M W:=bO finC 4
 (ay (bz (fN (dB (bg iz (af (ae 0) (af (dC (.ty "list")) ak))))) (a_ (dC (.bl false))) bI)
 (ay (cD (dA (ae 0)) (gN 1) (AW fu))
 (ay (bf 3 (eX bW [] (dA (ae 0)) fo (iS (aP 1 (bR (d_z fu)) (af (aC aE (ae 0) (dC (.int 0))) ak)))))
 (a_ (iq (aC (nF false) (ae 3) (bg (nQ bW) (af (ae 3) ak))) (aF dn (bg nU (af (bg lL (af (ae 0) ak)) ak)) (bg cg (af (ae 0) ak))))))))
def d_a(fu:Nat):List W->M W:=bO finC 2
 (a_ (bg cg (af (aP 3 (bR (d_g fu)) (af (aC aE (ae 0) (dC (.int 0))) (af (ae 1) (af (aP 3 (bR (d_n fu)) (af (aC aE (ae 0) (dC (.int 0))) (af (ae 1) (af (aC aE (ae 0) (dC (.int 2))) ak)))) ak)))) ak)))
def AM(fu:Nat):DS :=
 (ay (bf 7 (aP 4 (d_l fu) (af (ae 2) (af (ae 1) (af (ae 3) (af (ae 6) ak))))))
 (bz (gX (dB (eQ nV (ae 7))) (gS (dB (aF dn (aC aE (ae 7) (ae 4)) (dC (.int 0)))) (dB (aF iN (aP 2 (d_a fu) (af (ae 0) (af (ae 7) ak))) (dC (.int 2)))))) (c7 (dM dO (ae 5) (af (bK (af (ae 6) (af (fR bW (ae 1) (eJ (af (ae 7) ak))) ak))) ak))) bI))
def d_x(fu:Nat):List W->M W:=bO finO 8
 (ay (gj (kD (ae 0) kX (kM (dC (.int 3)))) (gT 3 (eE (gN 2) (eE (gN 3) (eE (gN 4) jc)))))
 (ay (bf 5 (dF ak))
 (ay (cD (dA (bg (fE bW) (af (aP 3 (bR (d_g fu)) (af (ae 2) (af (aC aE (ae 1) (eQ gz (dC (.int 1)))) (af (aP 3 (bR (d_n fu)) (af (ae 2) (af (aC aE (ae 1) (eQ gz (dC (.int 1)))) (af (ae 4) ak)))) ak)))) ak))) (gN 6) (AM fu))
 (a_ (ae 5)))))
def AV(fu:Nat):DS :=
 (bz (dB (aF jZ (aC aE (ae 1) (ae 4)) (dC (.int 0)))) (ay (bf 5 (aF iN (bg cg (af (aP 3 (bR (d_g fu)) (af (ae 0) (af (ae 1) (af (aP 3 (bR (d_n fu)) (af (ae 0) (af (ae 1) (af (ae 4) ak)))) ak)))) ak)) (dC (.int 3))))
 (bf 3 (fR bW (ae 3) (mO bW (af (ae 4) ak) (aF cu (dC (.int 1)) (aF ee (dC (.int 6)) (bg jz (af (ae 5) ak)))))))) bI)
def d_j(fu:Nat):List W->M W:=bO finC 6
 (ay (bf 3 (eJ ak))
 (ay (cD (iQ (af (bg cg (af (ae 0) ak)) ak)) (gN 4) (AV fu))
 (ay (bz (dB (aC (c6 false) (ae 3) (eJ ak))) (a_ (dC .non)) bI)
 (a_ (aC aE (ae 3) (aF dY (aP 2 (d_ba fu) (af (ae 2) (af (dC (.int 5)) ak))) (bg cg (af (ae 3) ak))))))))
def uH(fu:Nat)(r_k:List W->M W):DS :=
 (ay (bz (dB (aF iO (aP 2 (d_a fu) (af (ae 0) (af (aC aE (ae 9) (eQ gz (dC (.int 1)))) ak))) (dC (.int 2)))) (a_ (dC (.bl false))) bI)
 (bz (fN (dB (aP 4 r_k (af (ae 0) (af (ae 9) (af (aF fT (ae 2) (dC (.int 1))) (af (iT (ae 3) (bK (af (aC i_ (ae 4) (ae 3)) (af (ae 8) ak)))) ak))))))) (a_ (dC (.bl false))) bI))
def qG(fu:Nat)(r_k:List W->M W):List W->M W:=bO finC 10
 (ay (gj (kD (ae 0) (kM (dC (.int 3))) kX) (gT 2 (eE (gN 4) (eE (gN 5) jc))))
 (ay (bf 6 (bg mJ (af (aP 2 (bR (d_x fu)) (af (ae 0) (af (ae 1) ak))) ak)))
 (ay (bz (gS (dB (aC (lz true) (ae 3) (ae 4))) (dB (aC (iR true) (aC i_ (ae 4) (ae 3)) (ae 6)))) (a_ (dC (.bl false))) bI)
 (ay (c7 (dM dO (ae 5) (af (ae 3) ak)))
 (ay (bf 7 (aC mB (ae 6) (aC i_ (ae 4) (ae 3))))
 (ay (bz (dB (aF dn (aC aE (aC aE (ae 7) (eQ gz (dC (.int 1)))) (aC aE (ae 0) (dC (.int 2)))) (dC (.int 0)))) (a_ (dC (.bl true))) bI)
 (ay (bz (dB (aF dn (ae 2) (dC (.int 1)))) (a_ (dC (.bl false))) bI)
 (ay (cD (dA (aP 3 (d_q fu) (af (aC aE (ae 0) (dC (.int 0))) (af (ae 7) (af (aF fT (dC (.int 3)) (aC aE (ae 0) (dC (.int 1)))) ak))))) (gT 2 (eE (gN 8) (eE (gN 9) jc))) (uH fu r_k))
 (a_ (dC (.bl true)))))))))))
def lZ(fu:Nat):Nat->(List W->M W)
 | 0=>(fun _ _=>none)
 | r+1=>(qG fu (lZ fu r))
def d_k(fu:Nat):List W->M W:=(lZ fu 10)
def qJ(fu:Nat)(r_v:List W->M W)(r_y:List W->M W):List W->M W:=bO finC 8
 (ay (gj (kD (ae 0) (kM (dC (.int 3))) kX) (gT 2 (eE (gN 4) (eE (gN 5) jc))))
 (ay (bf 6 (bg mJ (af (aP 3 (d_q fu) (af (aC aE (ae 0) (dC (.int 0))) (af (ae 1) (af (aF fT (dC (.int 3)) (aC aE (ae 0) (dC (.int 1)))) ak)))) ak)))
 (ay (bz (gS (dB (aC (lz true) (ae 3) (ae 4))) (dB (aC (iR true) (aC i_ (ae 4) (ae 3)) (ae 6)))) (a_ (dC (.bl false))) bI)
 (ay (c7 (dM dO (ae 5) (af (ae 3) ak)))
 (ay (bf 7 (aC mB (ae 6) (aC i_ (ae 4) (ae 3))))
 (a_ (gK (aF iO (aP 2 (d_a fu) (af (ae 0) (af (aC aE (ae 7) (eQ gz (dC (.int 1)))) ak))) (dC (.int 2))) (aP 4 r_y (af (ae 0) (af (ae 7) (af (ae 2) (af (iT (ae 3) (bK (af (aC i_ (ae 4) (ae 3)) ak))) ak))))))))))))
def AL(fu:Nat)(r_v:List W->M W)(r_y:List W->M W):DS :=
 (ay (bz (dB (aF dn (aC aE (aC aE (ae 5) (eQ gz (dC (.int 1)))) (aC aE (ae 0) (dC (.int 2)))) (dC (.int 0)))) (a_ (dC (.bl false))) bI)
 (bz (gX (dB (aF iO (ae 2) (dC (.int 1)))) (fN (dB (aP 4 r_v (af (ae 0) (af (ae 5) (af (aF fT (ae 2) (dC (.int 1))) (af (iT (ae 3) (bK (af (ae 4) ak))) ak)))))))) (a_ (dC (.bl false))) bI))
def qI(fu:Nat)(r_v:List W->M W)(r_y:List W->M W):List W->M W:=bO finC 6
 (ay (cD (dA (aP 2 (bR (d_x fu)) (af (ae 0) (af (ae 1) ak)))) (gT 2 (eE (gN 4) (eE (gN 5) jc))) (AL fu r_v r_y))
 (a_ (dC (.bl true))))
def g8(fu:Nat):Nat->(List W->M W)×(List W->M W)
 | 0=>(fun _ _=>none,fun _ _=>none)
 | r+1=>(qJ fu (g8 fu r).1 (g8 fu r).2,qI fu (g8 fu r).1 (g8 fu r).2)
def d_v(fu:Nat):List W->M W:=(g8 fu 10).1
def d_y(fu:Nat):List W->M W:=(g8 fu 10).2
def d_s(fu:Nat):List W->M W:=bO finC 7
 (ay (bz (gS (fN (dB (bg iz (af (ae 0) (af (dC (.ty "tuple")) ak))))) (gS (dB (aF jZ (bg cg (af (ae 0) ak)) (dC (.int 2)))) (fN (dB (aP 1 (d_i fu) (af (aC aE (ae 0) (dC (.int 1))) ak)))))) (a_ (dC (.bl false))) bI)
 (ay (bf 5 (bK (af (ae 1) (af (aF fT (dC (.int 3)) (aC aE (ae 2) (ae 3))) (af (ae 3) (af (bg lL (af (aC aE (ae 0) (dC (.int 1))) ak)) (af (dF ak) ak)))))))
 (ay (bz (dB (aC (c6 false) (aC aE (ae 0) (dC (.int 0))) (dC (.str "caught")))) (bf 6 (aP 4 (d_k fu) (af (ae 5) (af (eJ (af (ae 2) ak)) (af (ae 4) (af (bK ak) ak)))))) (bf 6 (iq (aC (c6 false) (aC aE (ae 0) (dC (.int 0))) (dC (.str "free"))) (aP 4 (d_y fu) (af (ae 5) (af (eJ (af (ae 2) ak)) (af (ae 4) (af (bK ak) ak))))))))
 (a_ (iq (ae 6) (aF dn (bg cg (af (aC aE (ae 5) (dC (.int 4))) ak)) (bg cg (af (aC aE (ae 0) (dC (.int 1))) ak))))))))
def wM(fu:Nat):DS :=
 (ay (bf 7 (aP 5 (d_ha fu) (af (ae 1) (af (ae 2) (af (aF fT (dC (.int 3)) (aC aE (ae 2) (ae 3))) (af (ae 3) (af (ae 5) ak)))))))
 (ay (bz (fN (dB (aP 5 (d_s fu) (af (ae 7) (af (ae 1) (af (ae 2) (af (ae 3) (af (ae 5) ak)))))))) (a_ (dC (.bl false))) bI)
 (c7 (mn oj (aC aE (ae 7) (dC (.int 1)))))))
def d_law(fu:Nat):List W->M W:=bO finC 8
 (ay (bf 1 (aP 2 (d_t fu) (af (aP 2 (d_h fu) (af (ae 0) (af (dC (.int 0)) ak))) (af (dC (.int 12)) ak))))
 (ay (bf 2 (aP 3 (d_m fu) (af (ae 0) (af (dC (.int 2)) (af (ae 1) ak)))))
 (ay (bf 3 (aP 3 (d_j fu) (af (ae 1) (af (ae 2) (af (aP 2 (d_h fu) (af (ae 0) (af (dC (.int 1)) ak))) ak)))))
 (ay (bz (dB (eQ rF (ae 3))) (a_ (dC (.bl true))) bI)
 (ay (bf 4 (aP 2 (d_h fu) (af (ae 0) (af (dC (.int 1)) ak))))
 (ay (bf 5 (aF cu (dC (.int 1)) (aF dY (aP 2 (d_ba fu) (af (ae 4) (af (dC (.int 6)) ak))) (aF cu (dC (.int 3)) (aF ee (dC (.int 2)) (bg jz (af (gK (aF iN (bg cg (af (ae 1) ak)) (dC (.int 10))) (aF dn (aF dY (aP 2 (d_ba fu) (af (ae 4) (af (dC (.int 7)) ak))) (dC (.int 8))) (dC (.int 5)))) ak)))))))
 (ay (cD (iQ (af (dC (.int 2)) ak)) (gN 6) (wM fu))
 (a_ (dC (.bl true))))))))))
def top(i:Nat):Stmt:=PySem.Challenge.pw_stonebreath_k38_whole_chases_walked.main.body.getD i (.Pass ⟨0,0,0,0⟩)
def mI(s:Stmt)(j:Nat):Stmt:=match s with
 | .ClassDef _ _ _ b _ _ _ _ _ _ _=>b.getD j (.Pass ⟨0,0,0,0⟩)
 | _=>.Pass ⟨0,0,0,0⟩
abbrev uK:Stmt:=top 1
abbrev uq:Stmt:=top 2
abbrev ue:Stmt:=top 3
abbrev sT:Stmt:=top 10
abbrev pS:Stmt:=top 11
abbrev qA:Stmt:=top 12
abbrev uT:Stmt:=top 13
abbrev sr:Stmt:=top 15
abbrev uj:Stmt:=top 16
abbrev qw:Stmt:=top 17
abbrev qd:Stmt:=top 18
abbrev ud:Stmt:=top 19
abbrev uJ:Stmt:=top 20
abbrev sS:Stmt:=top 23
abbrev uG:Stmt:=top 26
abbrev uo:Stmt:=top 27
abbrev oU:Stmt:=top 28
abbrev uI:Stmt:=top 29
abbrev uF:Stmt:=top 30
abbrev uz:Stmt:=top 31
abbrev qM:Stmt:=top 32
abbrev uE:Stmt:=top 33
abbrev uN:Stmt:=top 34
abbrev um:Stmt:=top 35
abbrev qH:Stmt:=top 36
abbrev uP:Stmt:=top 37
abbrev uy:Stmt:=top 38
abbrev uD:Stmt:=top 39
abbrev uC:Stmt:=top 40
abbrev ux:Stmt:=top 41
abbrev uw:Stmt:=top 42
abbrev uM:Stmt:=top 43
abbrev mH:Stmt:=top 44
abbrev uS:Stmt:=mI (top 24) 0
abbrev uL:Stmt:=mI (top 24) 1
abbrev uv:Stmt:=mI (top 24) 2
abbrev uR:Stmt:=mI (top 24) 3
abbrev qN:Stmt:=mI (top 24) 4
abbrev uO:Stmt:=mI (top 24) 5
theorem JF:aq ["hand"] ["hand"] (bw uK):=cA
theorem gb:aq ["board", "marks", "start", "found", "waiting", "point", "beside"] ["board", "marks", "start"] (bw uq):=cA
theorem fw:aq ["board", "marks", "met", "found", "start", "points", "point"] ["board", "marks"] (bw ue):=cA
theorem Gv:aq ["board", "stand", "point"] ["board", "stand", "point"] (bw sT):=cA
theorem Fz:aq ["board", "stand"] ["board", "stand"] (bw pS):=cA
theorem ko:aq ["board", "points", "found", "point", "beside"] ["board", "points"] (bw uT):=cA
theorem IV:aq ["board", "stand", "row"] ["board", "stand", "row"] (bw qA):=cA
theorem jo:aq ["stand", "points", "what", "changed", "point"] ["stand", "points", "what"] (bw ud):=cA
theorem me:aq ["board", "stand", "hand", "found", "row"] ["board", "stand", "hand"] (bw uJ):=cA
theorem h_:aq ["board", "stand", "hand", "point", "full", "taken", "behind"] ["board", "stand", "hand", "point"] (bw sr):=cA
theorem ic:aq ["board", "stand", "hand", "points", "found", "point", "told"] ["board", "stand", "hand", "points"] (bw uj):=cA
theorem Jr:aq ["board", "came", "hand", "points"] ["board", "came", "hand", "points"] (bw qw):=cA
theorem k9:aq ["board", "came", "hand", "found"] ["board", "came", "hand"] (bw qd):=cA
theorem JX:aq ["self", "deeds"] ["self", "deeds"] (bw uR):=cA
theorem Ka:aq ["self", "stand"] ["self", "stand"] (bw uO):=cA
theorem oX:aq ["self", "came", "lays"] ["self", "came"] (bw qN):=cA
theorem kj:aq ["self", "came", "deeds", "freeing", "lay", "told"] ["self", "came", "deeds"] (bw uL):=cA
theorem kg:aq ["self", "came", "deeds", "catching", "step", "told"] ["self", "came", "deeds"] (bw uv):=cA
theorem JW:aq ["self", "board", "hunter", "point", "most"] ["self", "board", "hunter", "point", "most"] (bw uS):=cA
theorem Gu:aq ["board", "stand", "hunter", "point", "most"] ["board", "stand", "hunter", "point", "most"] (bw sS):=cA
theorem JU:aq ["_law_script", "_law_k"] ["_law_script", "_law_k"] (bw uG):=cA
theorem k_:aq ["_law_cell", "_law_k", "_law_one"] ["_law_cell", "_law_k"] (bw uo):=cA
theorem eU:aq ["_law_cell", "_law_most", "_law_some", "_law_wide", "_law_high", "_law_joined", "_law_one", "_law_other", "_law_beside", "_law_drawn"] ["_law_cell", "_law_most"] (bw oU):=cA
theorem jl:aq ["_law_board_here", "_law_stand_here", "_law_point", "_law_found", "_law_at", "_law_other"] ["_law_board_here", "_law_stand_here", "_law_point"] (bw uI):=cA
theorem km:aq ["_law_board_here", "_law_stand_here", "_law_row", "_law_found", "_law_point", "_law_other"] ["_law_board_here", "_law_stand_here", "_law_row"] (bw uF):=cA
theorem gF:aq ["_law_board_here", "_law_stand_here", "_law_hand", "_law_point", "_law_there", "_law_taken", "_law_other", "_law_row"] ["_law_board_here", "_law_stand_here", "_law_hand", "_law_point"] (bw uz):=cA
theorem iL:aq ["_law_script", "_law_at", "_law_board_here", "_law_stand_here", "_law_k", "_law_cell", "_law_found"] ["_law_script", "_law_at", "_law_board_here"] (bw qM):=cA
theorem oW:aq ["_law_board_here", "_law_path", "_law_hand", "_law_point", "_law_found"] ["_law_board_here", "_law_path", "_law_hand", "_law_point"] (bw uE):=cA
theorem ki:aq ["_law_board_here", "_law_path", "_law_hand", "_law_found", "_law_point", "_law_stand_here"] ["_law_board_here", "_law_path", "_law_hand"] (bw uN):=cA
theorem ma:aq ["_law_deeds_here", "_law_found", "_law_deed"] ["_law_deeds_here"] (bw um):=cA
theorem kl:aq ["_law_web", "_law_row", "_law_deed", "_law_keys"] ["_law_web"] (bw qH):=cA
theorem J9:aq ["_law_hunt", "_law_stand_here"] ["_law_hunt", "_law_stand_here"] (bw uP):=cA
theorem gE:aq ["_law_hunt", "_law_path", "_law_board_here", "_law_hunter", "_law_point", "_law_found", "_law_other", "_law_stand_here"] ["_law_hunt", "_law_path"] (bw uy):=cA
theorem jm:aq ["_law_board_here", "_law_stand_here", "_law_cell", "_law_some", "_law_point", "_law_few"] ["_law_board_here", "_law_stand_here", "_law_cell"] (bw uD):=cA
theorem gG:aq ["_law_hunt", "_law_path", "_law_left", "_law_deeds_here", "_law_web", "_law_used", "_law_lays_here", "_law_further", "_law_deed", "_law_beyond"] ["_law_hunt", "_law_path", "_law_left", "_law_deeds_here"] (bw uC):=cA
theorem jk:aq ["_law_hunt", "_law_path", "_law_left", "_law_deeds_here", "_law_web", "_law_used", "_law_answers", "_law_beyond"] ["_law_hunt", "_law_path", "_law_left", "_law_deeds_here"] (bw ux):=cA
theorem md:aq ["_law_hunt", "_law_path", "_law_left", "_law_deeds_here", "_law_lay", "_law_further"] ["_law_hunt", "_law_path", "_law_left", "_law_deeds_here"] (bw uw):=cA
theorem kh:aq ["_law_found", "_law_board_here", "_law_stand_here", "_law_point", "_law_most", "_law_hunt", "_law_good"] ["_law_found", "_law_board_here", "_law_stand_here", "_law_point", "_law_most"] (bw uM):=cA
theorem cK:aq ["_law_script", "_law_board_here", "_law_stand_here", "_law_point", "_law_cell", "_law_most", "_law_k", "_law_found"] ["_law_script"] (bw mH):=cA
set_option genInjectivity false in
set_option genInjectivity false in
set_option genSizeOfSpec false in
structure qY where
 f_r:Addr
 d_r:FuncData
 f_aa:Addr
 d_aa:FuncData
 f_fa:Addr
 d_fa:FuncData
 f_ia:Addr
 d_ia:FuncData
 f_ka:Addr
 d_ka:FuncData
 f_da:Addr
 d_da:FuncData
 f_f:Addr
 d_f:FuncData
 f_la:Addr
 d_la:FuncData
 f_ea:Addr
 d_ea:FuncData
 f_ca:Addr
 d_ca:FuncData
 f_ja:Addr
 d_ja:FuncData
 f_ga:Addr
 d_ga:FuncData
 f_o:Addr
 d_o:FuncData
 f_ha:Addr
 d_ha:FuncData
 f_h:Addr
 d_h:FuncData
 f_ba:Addr
 d_ba:FuncData
 f_t:Addr
 d_t:FuncData
 f_n:Addr
 d_n:FuncData
 f_g:Addr
 d_g:FuncData
 f_u:Addr
 d_u:FuncData
 f_m:Addr
 d_m:FuncData
 f_l:Addr
 d_l:FuncData
 f_q:Addr
 d_q:FuncData
 f_z:Addr
 d_z:FuncData
 f_i:Addr
 d_i:FuncData
 f_a:Addr
 d_a:FuncData
 f_x:Addr
 d_x:FuncData
 f_j:Addr
 d_j:FuncData
 f_k:Addr
 d_k:FuncData
 f_v:Addr
 d_v:FuncData
 f_y:Addr
 d_y:FuncData
 f_s:Addr
 d_s:FuncData
 f_law:Addr
 d_law:FuncData
 f_e:Addr
 d_e:FuncData
 f_p:Addr
 d_p:FuncData
 f_w:Addr
 d_w:FuncData
 f_d:Addr
 d_d:FuncData
 f_b:Addr
 d_b:FuncData
 f_c:Addr
 d_c:FuncData
structure Txt (K:Frag) (mg:Str->Option Value) (A:qY):Prop where
 g_r:mg "other_hand" = some (.ref A.f_r)
 F_r:bV K "other_hand" "other_hand" uK A.f_r A.d_r
 b_r:Binds K A.d_r ["hand"] []
 g_aa:mg "patch_of" = some (.ref A.f_aa)
 F_aa:bV K "patch_of" "patch_of" uq A.f_aa A.d_aa
 b_aa:Binds K A.d_aa ["board", "marks", "start"] []
 g_fa:mg "patches" = some (.ref A.f_fa)
 F_fa:bV K "patches" "patches" ue A.f_fa A.d_fa
 b_fa:Binds K A.d_fa ["board", "marks"] []
 g_ia:mg "patch" = some (.ref A.f_ia)
 F_ia:bV K "patch" "patch" sT A.f_ia A.d_ia
 b_ia:Binds K A.d_ia ["board", "stand", "point"] []
 g_ka:mg "rows" = some (.ref A.f_ka)
 F_ka:bV K "rows" "rows" pS A.f_ka A.d_ka
 b_ka:Binds K A.d_ka ["board", "stand"] []
 g_da:mg "breaths" = some (.ref A.f_da)
 F_da:bV K "breaths" "breaths" qA A.f_da A.d_da
 b_da:Binds K A.d_da ["board", "stand", "row"] []
 g_f:mg "points_beside" = some (.ref A.f_f)
 F_f:bV K "points_beside" "points_beside" uT A.f_f A.d_f
 b_f:Binds K A.d_f ["board", "points"] []
 g_la:mg "laid" = some (.ref A.f_la)
 F_la:bV K "laid" "laid" sr A.f_la A.d_la
 b_la:Binds K A.d_la ["board", "stand", "hand", "point"] []
 g_ea:mg "lays_on" = some (.ref A.f_ea)
 F_ea:bV K "lays_on" "lays_on" uj A.f_ea A.d_ea
 b_ea:Binds K A.d_ea ["board", "stand", "hand", "points"] []
 g_ca:mg "new_lays" = some (.ref A.f_ca)
 F_ca:bV K "new_lays" "new_lays" qw A.f_ca A.d_ca
 b_ca:Binds K A.d_ca ["board", "came", "hand", "points"] []
 g_ja:mg "steps" = some (.ref A.f_ja)
 F_ja:bV K "steps" "steps" qd A.f_ja A.d_ja
 b_ja:Binds K A.d_ja ["board", "came", "hand"] []
 g_ga:mg "filled" = some (.ref A.f_ga)
 F_ga:bV K "filled" "filled" ud A.f_ga A.d_ga
 b_ga:Binds K A.d_ga ["stand", "points", "what"] []
 g_o:mg "breathless" = some (.ref A.f_o)
 F_o:bV K "breathless" "breathless" uJ A.f_o A.d_o
 b_o:Binds K A.d_o ["board", "stand", "hand"] []
 g_ha:mg "chase" = some (.ref A.f_ha)
 F_ha:bV K "chase" "chase" sS A.f_ha A.d_ha
 b_ha:Binds K A.d_ha ["board", "stand", "hunter", "point", "most"] []
 g_h:mg "_law_cell_at" = some (.ref A.f_h)
 F_h:bV K "_law_cell_at" "_law_cell_at" uG A.f_h A.d_h
 b_h:Binds K A.d_h ["_law_script", "_law_k"] []
 g_ba:mg "_law_mix" = some (.ref A.f_ba)
 F_ba:bV K "_law_mix" "_law_mix" uo A.f_ba A.d_ba
 b_ba:Binds K A.d_ba ["_law_cell", "_law_k"] []
 g_t:mg "_law_board" = some (.ref A.f_t)
 F_t:bV K "_law_board" "_law_board" oU A.f_t A.d_t
 b_t:Binds K A.d_t ["_law_cell", "_law_most"] []
 g_n:mg "_law_patch" = some (.ref A.f_n)
 F_n:bV K "_law_patch" "_law_patch" uI A.f_n A.d_n
 b_n:Binds K A.d_n ["_law_board_here", "_law_stand_here", "_law_point"] []
 g_g:mg "_law_breaths" = some (.ref A.f_g)
 F_g:bV K "_law_breaths" "_law_breaths" uF A.f_g A.d_g
 b_g:Binds K A.d_g ["_law_board_here", "_law_stand_here", "_law_row"] []
 g_u:mg "_law_laid" = some (.ref A.f_u)
 F_u:bV K "_law_laid" "_law_laid" uz A.f_u A.d_u
 b_u:Binds K A.d_u ["_law_board_here", "_law_stand_here", "_law_hand", "_law_point"] []
 g_m:mg "_law_stand" = some (.ref A.f_m)
 F_m:bV K "_law_stand" "_law_stand" qM A.f_m A.d_m
 b_m:Binds K A.d_m ["_law_script", "_law_at", "_law_board_here"] []
 g_l:mg "_law_behind" = some (.ref A.f_l)
 F_l:bV K "_law_behind" "_law_behind" uE A.f_l A.d_l
 b_l:Binds K A.d_l ["_law_board_here", "_law_path", "_law_hand", "_law_point"] []
 g_q:mg "_law_deeds" = some (.ref A.f_q)
 F_q:bV K "_law_deeds" "_law_deeds" uN A.f_q A.d_q
 b_q:Binds K A.d_q ["_law_board_here", "_law_path", "_law_hand"] []
 g_z:mg "_law_key" = some (.ref A.f_z)
 F_z:bV K "_law_key" "_law_key" um A.f_z A.d_z
 b_z:Binds K A.d_z ["_law_deeds_here"] []
 g_i:mg "_law_is_web" = some (.ref A.f_i)
 F_i:bV K "_law_is_web" "_law_is_web" qH A.f_i A.d_i
 b_i:Binds K A.d_i ["_law_web"] []
 g_a:mg "_law_breath_count" = some (.ref A.f_a)
 F_a:bV K "_law_breath_count" "_law_breath_count" uP A.f_a A.d_a
 b_a:Binds K A.d_a ["_law_hunt", "_law_stand_here"] []
 g_x:mg "_law_lays" = some (.ref A.f_x)
 F_x:bV K "_law_lays" "_law_lays" uy A.f_x A.d_x
 b_x:Binds K A.d_x ["_law_hunt", "_law_path"] []
 g_j:mg "_law_target" = some (.ref A.f_j)
 F_j:bV K "_law_target" "_law_target" uD A.f_j A.d_j
 b_j:Binds K A.d_j ["_law_board_here", "_law_stand_here", "_law_cell"] []
 g_k:mg "_law_caught" = some (.ref A.f_k)
 F_k:bV K "_law_caught" "_law_caught" uC A.f_k A.d_k
 b_k:Binds K A.d_k ["_law_hunt", "_law_path", "_law_left", "_law_deeds_here"] []
 g_v:mg "_law_kept" = some (.ref A.f_v)
 F_v:bV K "_law_kept" "_law_kept" ux A.f_v A.d_v
 b_v:Binds K A.d_v ["_law_hunt", "_law_path", "_law_left", "_law_deeds_here"] []
 g_y:mg "_law_free" = some (.ref A.f_y)
 F_y:bV K "_law_free" "_law_free" uw A.f_y A.d_y
 b_y:Binds K A.d_y ["_law_hunt", "_law_path", "_law_left", "_law_deeds_here"] []
 g_s:mg "_law_right" = some (.ref A.f_s)
 F_s:bV K "_law_right" "_law_right" uM A.f_s A.d_s
 b_s:Binds K A.d_s ["_law_found", "_law_board_here", "_law_stand_here", "_law_point", "_law_most"] []
 g_law:mg "law" = some (.ref A.f_law)
 F_law:bV K "law" "law" mH A.f_law A.d_law
 b_law:Binds K A.d_law ["_law_script"] []
 mt_e:L2.Meth K (clOf K "Chase") "__init__" A.f_e
 F_e:bV K "__init__" "Chase.__init__" uS A.f_e A.d_e
 b_e:Binds K A.d_e ["self", "board", "hunter", "point", "most"] []
 mt_p:L2.Meth K (clOf K "Chase") "hunt" A.f_p
 F_p:bV K "hunt" "Chase.hunt" uL A.f_p A.d_p
 b_p:Binds K A.d_p ["self", "came", "deeds"] []
 mt_w:L2.Meth K (clOf K "Chase") "run" A.f_w
 F_w:bV K "run" "Chase.run" uv A.f_w A.d_w
 b_w:Binds K A.d_w ["self", "came", "deeds"] []
 mt_d:L2.Meth K (clOf K "Chase") "is_spent" A.f_d
 F_d:bV K "is_spent" "Chase.is_spent" uR A.f_d A.d_d
 b_d:Binds K A.d_d ["self", "deeds"] []
 mt_b:L2.Meth K (clOf K "Chase") "hunter_lays" A.f_b
 F_b:bV K "hunter_lays" "Chase.hunter_lays" qN A.f_b A.d_b
 b_b:Binds K A.d_b ["self", "came"] []
 mt_c:L2.Meth K (clOf K "Chase") "breaths_at" A.f_c
 F_c:bV K "breaths_at" "Chase.breaths_at" uO A.f_c A.d_c
 b_c:Binds K A.d_c ["self", "stand"] []
 cls_Chase:L2.Cls K (clOf K "Chase")
 mk_Chase:L2.Mk K (clOf K "Chase") A.f_e
 gc_Chase:mg "Chase" = some (.ref (clOf K "Chase"))
 na_Chase_hunter:L2.NoAttr K (clOf K "Chase") "hunter"
 na_Chase_joined:L2.NoAttr K (clOf K "Chase") "joined"
 na_Chase_most:L2.NoAttr K (clOf K "Chase") "most"
 na_Chase_runner:L2.NoAttr K (clOf K "Chase") "runner"
 na_Chase_stone:L2.NoAttr K (clOf K "Chase") "stone"
 c_MOST_POINTS:∃t,mg "MOST_POINTS" = some (.int 16 t)
 n_bool:mg "bool" = none
 n_dict:mg "dict" = none
 n_int:mg "int" = none
 n_isinstance:mg "isinstance" = none
 n_len:mg "len" = none
 n_list:mg "list" = none
 n_range:mg "range" = none
 n_sorted:mg "sorted" = none
 n_tuple:mg "tuple" = none
 xt:XT K mg qT
 nl:oY K=true
section
seal L2.PSs L2.PS L2.PE L2.PT L2.PW L2.PA L2.PI L2.PG L2.PGs L2.PO L2.PIfs
variable {A:qY}
abbrev Gx(K:Frag):Ga:=Gy K
abbrev bj(K:Frag)(n:Nat)(d:List W->M W):Sp:=hZ (Gx K) (fun E=>E) n d
theorem cQ{x:Str}{st:Stmt}{N:List Str}{m:Nat}{d:DS}(F:bV K x qual st f fd)(S:aq N ps (bw st))(hf:n5 (Gx K) fin)(hb:∀(cdv:Value) (A:Around) (outer:List Env) (s:Shared) (H:Hp) (E:XK),bo k (A.deeper (envOfC qual (bw st) s.heap.objs.size f cdv))->PSs (iu (aX P w) P w K mg base N qual (bw st) f cdv A outer s H E) (kY st) (bq (Gx K) E d))(hn:n=ps.length:=by rfl)(hm:m=N.length:=by rfl):au P w K mg base (aX P w) (k+1) f fd ps (bj K n (bO fin m d)):=by subst hm;refine F.okX S (fun vs H Q E h=>h.1.trans hn) fun cdv Ar outer s H vs Q E hr h=>?_;obtain⟨_,F,as,ws,ce,S,rs,Pf⟩:=h;exact⟨_,hb cdv Ar outer s H E hr,ni hf N S rs Pf⟩
theorem A8(fu:Nat)(T:Txt K mg A):au P w K mg base (aX P w) 1 A.f_r A.d_r ["hand"] (bj K 1 (d_r fu)) :=
 cQ T.F_r JF eT fun cdv Ar outer s H E hr=>(aH (bt (jK aA (ag 0))))
theorem Ay(fu:Nat)(T:Txt K mg A):au P w K mg base (aX P w) 1 A.f_aa A.d_aa ["board", "marks", "start"] (bj K 3 (d_aa fu)) :=
 cQ T.F_aa gb iU fun cdv Ar outer s H E hr=>(aG (bD (i:=3) gb.nd rfl (Or.inl rfl) (Hd (ag 2) fg))
   (aG (bD (i:=4) gb.nd rfl (Or.inl rfl) (gq (ai (ag 2) ar)))
   (aG (yY fu PassesOwn.leaving (sI (ag 4)) (aG (bD (i:=5) gb.nd rfl (Or.inl rfl) (xw PySem.F.slot_list_pop PySem.F.type_list_pop EM Ct (ag 4)))
   (aH (dQ PassesOwn.leaving rfl (kF (aV (ag 0) (ag 5) (fun _ _=>rfl))) (cE (i:=6) gb.nd rfl (Or.inl rfl))
   (aH (b_ (PW.pt (lP (qx (hr.cmp 1) (ag 6) (ag 3) (by with_unfolding_all rfl)) (lV (jd (hr.cmp 8) (aV (ag 1) (ag 6) (fun _ _=>rfl)) (aV (ag 1) (ag 2) (fun _ _=>rfl)))))) (aG (sE (hr.cmp 1) (ag 3) (ag 6) fg)
   (aH (fP (fU PySem.F.slot_list_append PySem.F.type_list_append g7 gW (ag 4) (ai (ag 6) ar))))) cp))))))
   (aH (bt (cR (nZ rfl rfl) (nY K j0) rfl T.n_sorted boot_sorted (ai (ag 3) ar)))))))
theorem IU(fu:Nat)(T:Txt K mg A):au P w K mg base (aX P w) 2 A.f_fa A.d_fa ["board", "marks"] (bj K 2 (d_fa fu)) :=
 cQ T.F_fa fw iU fun cdv Ar outer s H E hr=>(aG (bD (i:=2) fw.nd rfl (Or.inl rfl) yH)
   (aG (bD (i:=3) fw.nd rfl (Or.inl rfl) (gq ar))
   (aG (dQ PassesOwn.leaving rfl (kL rfl T.n_range (ai (cR (fv rfl) (ft K) rfl T.n_len boot_len (ai (ag 0) ar)) ar)) (cE (i:=4) fw.nd rfl (Or.inl rfl))
   (aH (b_ (qx (hr.cmp 1) (ag 4) (ag 2) (by with_unfolding_all rfl)) (aG (bD (i:=5) fw.nd rfl (Or.inl rfl) (bh (eM (Ay fu T)) (hr.mono (by decide)) rfl T.g_aa T.F_aa.kp T.b_aa (aa.passes rfl) (ai (ag 0) (ai (ag 1) (ai (ag 4) ar)))))
   (aG (fP (fU PySem.F.slot_list_append PySem.F.type_list_append g7 gW (ag 3) (ai (ag 5) ar)))
   (aH (dQ PassesOwn.leaving rfl (fq (ag 5)) (cE (i:=6) fw.nd rfl (Or.inl rfl))
   (aH (sE (hr.cmp 1) (ag 2) (ag 6) fg)))))) cp)))
   (aH (bt (ag 3))))))
theorem zm(fu:Nat)(T:Txt K mg A):au P w K mg base (aX P w) 2 A.f_ia A.d_ia ["board", "stand", "point"] (bj K 3 (d_ia fu)) :=
 cQ T.F_ia Gv iU fun cdv Ar outer s H E hr=>(aH (bt (bh (Ay fu T) (hr.mono (by decide)) rfl T.g_aa T.F_aa.kp T.b_aa (aa.passes rfl) (ai (ag 0) (ai (ag 1) (ai (ag 2) ar))))))
theorem Fy(fu:Nat)(T:Txt K mg A):au P w K mg base (aX P w) 3 A.f_ka A.d_ka ["board", "stand"] (bj K 2 (d_ka fu)) :=
 cQ T.F_ka Fz eT fun cdv Ar outer s H E hr=>(aH (bt (mz fB (kc (N:=["board", "stand"]) (psc:=bw pS) (js:=[1]) (N':=["points", "stand"]) (by decide +kernel)) rfl rfl (fq (bh (eM (IU fu T)) (hr.mono (by decide)) rfl T.g_fa T.F_fa.kp T.b_fa (aa.passes rfl) (ai (ag 0) (ai (ag 1) ar)))) (fun _ _ _ _=>(qq (v3 (hr.cmp 8) (aV (ag 1) (aV (ag 0) aA (fun _ _=>rfl)) (fun _ _=>rfl)) aA))) (fun _ _ _ _=>(ag 0)))))
theorem J0(fu:Nat)(T:Txt K mg A):au P w K mg base (aX P w) 1 A.f_f A.d_f ["board", "points"] (bj K 2 (d_f fu)) :=
 cQ T.F_f ko iU fun cdv Ar outer s H E hr=>(aG (bD (i:=2) ko.nd rfl (Or.inl rfl) yH)
   (aG (dQ PassesOwn.leaving rfl (fq (ag 1)) (cE (i:=3) ko.nd rfl (Or.inl rfl))
   (aH (dQ PassesOwn.leaving rfl (kF (aV (ag 0) (ag 3) (fun _ _=>rfl))) (cE (i:=4) ko.nd rfl (Or.inl rfl))
   (aH (sE (hr.cmp 1) (ag 2) (ag 4) fg)))))
   (aH (bt (cR (nZ rfl rfl) (nY K j0) rfl T.n_sorted boot_sorted (ai (ag 2) ar))))))
theorem uk(fu:Nat)(T:Txt K mg A):au P w K mg base (aX P w) 2 A.f_da A.d_da ["board", "stand", "row"] (bj K 3 (d_da fu)) :=
 cQ T.F_da IV iU fun cdv Ar outer s H E hr=>(aH (bt (mz j0 (kc (N:=["board", "stand", "row"]) (psc:=bw qA) (js:=[1]) (N':=["point", "stand"]) (by decide +kernel)) rfl rfl (fq (bh (eM (J0 fu T)) (hr.mono (by decide)) rfl T.g_f T.F_f.kp T.b_f (aa.passes rfl) (ai (ag 0) (ai (ag 2) ar)))) (fun _ _ _ _=>(qq (jd (hr.cmp 8) (aV (ag 1) (ag 0) (fun _ _=>rfl)) aA))) (fun _ _ _ _=>(ag 0)))))
theorem zN(fu:Nat)(T:Txt K mg A):au P w K mg base (aX P w) 1 A.f_ga A.d_ga ["stand", "points", "what"] (bj K 3 (d_ga fu)) :=
 cQ T.F_ga jo eT fun cdv Ar outer s H E hr=>(aG (bD (i:=3) jo.nd rfl (Or.inl rfl) (iK (xy rfl rfl) (xx K j0) rfl T.n_list PyProof.Rows.boot_list (ai (ag 0) ar)))
   (aG (dQ PassesOwn.leaving rfl (fq (ag 1)) (cE (i:=4) jo.nd rfl (Or.inl rfl))
   (aH (lO (ag 2) (tq (E:=E0) (ag 3) (ag 4)))))
   (aH (bt (iK (n9 K) (oB K) rfl T.n_tuple boot_tuple (ai (ag 3) ar))))))
theorem JE(fu:Nat)(T:Txt K mg A):au P w K mg base (aX P w) 4 A.f_o A.d_o ["board", "stand", "hand"] (bj K 3 (d_o fu)) :=
 cQ T.F_o me iU fun cdv Ar outer s H E hr=>(aG (bD (i:=3) me.nd rfl (Or.inl rfl) (gq ar))
   (aG (dQ PassesOwn.leaving rfl (fq (bh (Fy fu T) (hr.mono (by decide)) rfl T.g_ka T.F_ka.kp T.b_ka (aa.passes rfl) (ai (ag 0) (ai (ag 1) ar)))) (cE (i:=4) me.nd rfl (Or.inl rfl))
   (aH (b_ (PW.pt (lP (jd (hr.cmp 8) (aV (ag 1) (aV (ag 4) aA (fun _ _=>rfl)) (fun _ _=>rfl)) (ag 2)) (lV (ji (sI (bh (eM (uk fu T)) (hr.mono (by decide)) rfl T.g_da T.F_da.kp T.b_da (aa.passes rfl) (ai (ag 0) (ai (ag 1) (ai (ag 4) ar))))))))) (aH (fP (fU slot_list_extend type_list_extend tm rL (ag 3) (ai (ag 4) ar)))) cp)))
   (aH (bt (cR (nZ rfl rfl) (nY K j0) rfl T.n_sorted boot_sorted (ai (ag 3) ar))))))
theorem Fx(fu:Nat)(T:Txt K mg A):au P w K mg base (aX P w) 5 A.f_la A.d_la ["board", "stand", "hand", "point"] (bj K 4 (d_la fu)) :=
 cQ T.F_la h_ eT fun cdv Ar outer s H E hr=>(aG (b_ (v3 (hr.cmp 8) (aV (ag 1) (ag 3) (fun _ _=>rfl)) aA) (aH (tW (l:=[3]) aa rfl T.xt rfl rfl rfl hr.hd (sV (kf mU (kf (wQ 3) (kf mU sX)))) (fun _ h=>⟨trivial,h 3 (by decide),trivial,trivial⟩))) cp)
   (aG (bD (i:=4) h_.nd rfl (Or.inl rfl) (bh (zN fu T) (hr.mono (by decide)) rfl T.g_ga T.F_ga.kp T.b_ga (aa.passes rfl) (ai (ag 1) (ai (fW (ai (ag 3) ar)) (ai (ag 2) ar)))))
   (aG (bD (i:=5) h_.nd rfl (Or.inl rfl) (bh (eM (JE fu T)) (hr.mono (by decide)) rfl T.g_o T.F_o.kp T.b_o (aa.passes rfl) (ai (ag 0) (ai (ag 4) (ai (bh (A8 fu T) (hr.mono (by decide)) rfl T.g_r T.F_r.kp T.b_r (aa.passes rfl) (ai (ag 2) ar)) ar)))))
   (aG (bD (i:=6) h_.nd rfl (Or.inl rfl) (bh (zN fu T) (hr.mono (by decide)) rfl T.g_ga T.F_ga.kp T.b_ga (aa.passes rfl) (ai (ag 4) (ai (ag 5) (ai aA ar)))))
   (aG (b_ (ji (sI (bh (eM (uk fu T)) (hr.mono (by decide)) rfl T.g_da T.F_da.kp T.b_da (aa.passes rfl) (ai (ag 0) (ai (ag 6) (ai (bh (eM (zm fu T)) (hr.mono (by decide)) rfl T.g_ia T.F_ia.kp T.b_ia (aa.passes rfl) (ai (ag 0) (ai (ag 6) (ai (ag 3) ar)))) ar)))))) (aH (tW (l:=[3]) aa rfl T.xt rfl rfl rfl hr.hd (sV (kf mU (kf (wQ 3) (kf mU sX)))) (fun _ h=>⟨trivial,h 3 (by decide),trivial,trivial⟩))) cp)
   (aH (bt (cw (ai (ag 6) (ai (ag 5) ar))))))))))
theorem IT(fu:Nat)(T:Txt K mg A):au P w K mg base (aX P w) 6 A.f_ea A.d_ea ["board", "stand", "hand", "points"] (bj K 4 (d_ea fu)) :=
 cQ T.F_ea ic iU fun cdv Ar outer s H E hr=>(aG (bD (i:=4) ic.nd rfl (Or.inl rfl) (gq ar))
   (aG (dQ PassesOwn.leaving rfl (fq (ag 3)) (cE (i:=5) ic.nd rfl (Or.inl rfl))
   (aG (Fd (i:=6) rfl rfl rfl ic.nd rfl (Or.inl rfl) (Fx fu T) (hr.mono (by decide)) rfl T.g_la T.F_la.kp T.b_la (ai (ag 0) (ai (ag 1) (ai (ag 2) (ai (ag 5) ar)))) (C6 rfl T.xt rfl rfl rfl rfl (fun _=>(aH Jp))))
   (aH (fP (fU PySem.F.slot_list_append PySem.F.type_list_append g7 gW (ag 4) (ai (cw (ai (ag 5) (ai (aV (ag 6) aA (fun _ _=>rfl)) (ai (aV (ag 6) aA (fun _ _=>rfl)) ar)))) ar))))))
   (aH (bt (ag 4)))))
theorem Ax(fu:Nat)(T:Txt K mg A):au P w K mg base (aX P w) 7 A.f_ca A.d_ca ["board", "came", "hand", "points"] (bj K 4 (d_ca fu)) :=
 cQ T.F_ca Jr eT fun cdv Ar outer s H E hr=>(aH (bt (mz fB (kc (N:=["board", "came", "hand", "points"]) (psc:=bw qw) (js:=[1]) (N':=["lay", "came"]) (by decide +kernel)) rfl rfl (fq (bh (eM (IT fu T)) (hr.mono (by decide)) rfl T.g_ea T.F_ea.kp T.b_ea (aa.passes rfl) (ai (ag 0) (ai (aV (ag 1) (jJ aA) (fun _ _=>rfl)) (ai (ag 2) (ai (ag 3) ar)))))) (fun _ _ _ _=>(qq (tQ (hr.cmp 9) (aV (ag 0) aA (fun _ _=>rfl)) (ag 1) (by with_unfolding_all rfl)))) (fun _ _ _ _=>(ag 0)))))
theorem Gs(fu:Nat)(T:Txt K mg A):au P w K mg base (aX P w) 8 A.f_ja A.d_ja ["board", "came", "hand"] (bj K 3 (d_ja fu)) :=
 cQ T.F_ja k9 iU fun cdv Ar outer s H E hr=>(aG (rN (k:=3) j0 (kc (N:=["board", "came", "hand", "found"]) (psc:=bw qd) (js:=[]) (N':=["lay"]) (by decide +kernel)) rfl rfl (fq (bh (Ax fu T) (hr.mono (by decide)) rfl T.g_ca T.F_ca.kp T.b_ca (aa.passes rfl) (ai (ag 0) (ai (ag 1) (ai (ag 2) (ai (EY fB rfl rfl T.n_list rfl T.n_range (ai (cR (fv rfl) (ft K) rfl T.n_len boot_len (ai (ag 0) ar)) ar)) ar)))))) (fun _ _ _ _=>oJ) (fun _ _ _ _=>(cw (ai (aV (ag 0) aA (fun _ _=>rfl)) (ai (aV (ag 0) aA (fun _ _=>rfl)) ar)))) k9.nd rfl rfl (by with_unfolding_all rfl))
   (aG (fP (fU PySem.F.slot_list_append PySem.F.type_list_append g7 gW (ag 3) (ai (cw (ai mZ (ai (aV (ag 1) (jJ aA) (fun _ _=>rfl)) ar))) ar)))
   (aH (bt (ag 3)))))
theorem Bg(fu:Nat)(T:Txt K mg A):au P w K mg base (aX P w) 1 A.f_d A.d_d ["self", "deeds"] (bj K 2 (d_d fu)) :=
 cQ T.F_d JX eT fun cdv Ar outer s H E hr=>(aH (bt (CA (DB (gv (cR (fv rfl) (ft K) rfl T.n_len boot_len (ai (ag 1) ar)) aA) aA) (jH T.cls_Chase T.na_Chase_most (ag 0)))))
theorem Bo(fu:Nat)(T:Txt K mg A):au P w K mg base (aX P w) 3 A.f_c A.d_c ["self", "stand"] (bj K 2 (d_c fu)) :=
 cQ T.F_c Ka eT fun cdv Ar outer s H E hr=>(aH (bt (bh (eM (uk fu T)) (hr.mono (by decide)) rfl T.g_da T.F_da.kp T.b_da (aa.passes rfl) (ai (jH T.cls_Chase T.na_Chase_joined (ag 0)) (ai (ag 1) (ai (bh (eM (zm fu T)) (hr.mono (by decide)) rfl T.g_ia T.F_ia.kp T.b_ia (aa.passes rfl) (ai (jH T.cls_Chase T.na_Chase_joined (ag 0)) (ai (ag 1) (ai (jH T.cls_Chase T.na_Chase_stone (ag 0)) ar)))) ar))))))
theorem J8(fu:Nat)(T:Txt K mg A):au P w K mg base (aX P w) 8 A.f_b A.d_b ["self", "came"] (bj K 2 (d_b fu)) :=
 cQ T.F_b oX eT fun cdv Ar outer s H E hr=>(aG (bD (i:=2) oX.nd rfl (Or.inl rfl) (bh (Ax fu T) (hr.mono (by decide)) rfl T.g_ca T.F_ca.kp T.b_ca (aa.passes rfl) (ai (jH T.cls_Chase T.na_Chase_joined (ag 0)) (ai (ag 1) (ai (jH T.cls_Chase T.na_Chase_hunter (ag 0)) (ai (kR T.cls_Chase T.mt_c (Bo fu T) (hr.mono (by decide)) T.b_c (aa.passes rfl) (ag 0) (ai (aV (ag 1) (jJ aA) (fun _ _=>rfl)) ar)) ar))))))
   (aH (bt (mz fB (kc (N:=["self", "came", "lays"]) (psc:=bw qN) (js:=[0]) (N':=["lay", "self"]) (by decide +kernel)) rfl rfl (fq (ag 2)) (fun _ _ _ _=>(qq (DY (PW.pt (j8 (jd (hr.cmp 8) (aV (aV (ag 0) aA (fun _ _=>rfl)) (jH T.cls_Chase T.na_Chase_stone (ag 1)) (fun _ _=>rfl)) aA) (lQ (Cw (cR (fv rfl) (ft K) rfl T.n_len boot_len (ai (kR T.cls_Chase T.mt_c (Bo fu T) (hr.mono (by decide)) T.b_c xK (ag 1) (ai (aV (ag 0) aA (fun _ _=>rfl)) ar)) ar)) aA))))))) (fun _ _ _ _=>(ag 0))))))
theorem eI(fu:Nat)(T:Txt K mg A)(j:Nat)(G_p:au P w K mg base (aX P w) (8+j) A.f_p A.d_p ["self", "came", "deeds"] (bj K 3 r_p))(G_w:au P w K mg base (aX P w) (8+j) A.f_w A.d_w ["self", "came", "deeds"] (bj K 3 r_w)):au P w K mg base (aX P w) (8+j+1) A.f_p A.d_p ["self", "came", "deeds"] (bj K 3 (qL fu r_p r_w)):=by
 have G_d:au P w K mg base (aX P w) (1) A.f_d A.d_d ["self", "deeds"] (bj K 2 (d_d fu)):=Bg fu T;have G_b:au P w K mg base (aX P w) (8) A.f_b A.d_b ["self", "came"] (bj K 2 (d_b fu)):=J8 fu T;refine T.F_p.okX (k:=8+j) kj (fun vs H Q E h=>h.1) (fun cdv Ar outer s H vs Q E hr h=>?_);obtain⟨_,F,as,ws,ce,S,rs,Pf⟩:=h;refine⟨bq (Gx K) E _,(aG (b_ (iF (kR T.cls_Chase T.mt_d G_d (hr.mono (by omega)) T.b_d (aa.passes rfl) (ag 0) (ai (ag 2) ar))) (aH (bt (cw (ai jj (ai (gq ar) ar))))) cp)
   (aG (bD (i:=3) kj.nd rfl (Or.inl rfl) (gq ar))
   (aG (dQ PassesOwn.leaving rfl (fq (kR T.cls_Chase T.mt_b G_b (hr.mono (by omega)) T.b_b (aa.passes rfl) (ag 0) (ai (ag 1) ar))) (cE (i:=4) kj.nd rfl (Or.inl rfl))
   (aG (b_ (jd (hr.cmp 8) (aV (aV (ag 4) aA (fun _ _=>rfl)) (jH T.cls_Chase T.na_Chase_stone (ag 0)) (fun _ _=>rfl)) aA) (aH (bt (cw (ai jj (ai (gq (ai (cw (ai (ag 2) (ai (aV (ag 4) aA (fun _ _=>rfl)) ar))) ar)) ar))))) cp)
   (aG (bD (i:=5) kj.nd rfl (Or.inl rfl) (kR T.cls_Chase T.mt_w (xM G_w) (hr.mono (by omega)) T.b_w (aa.passes rfl) (ag 0) (ai (ka fB (ag 1) (fW (ai (aV (ag 4) aA (fun _ _=>rfl)) ar))) (ai (m9 (ag 2) (cw (ai (aV (ag 4) aA (fun _ _=>rfl)) ar))) ar))))
   (aG (b_ (jd (hr.cmp 8) (aV (ag 5) aA (fun _ _=>rfl)) jj) (aH (bt (cw (ai jj (ai (ka j0 (fW (ai (cw (ai (ag 2) (ai (aV (ag 4) aA (fun _ _=>rfl)) ar))) ar)) (aV (ag 5) aA (fun _ _=>rfl))) ar))))) cp)
   (aH (fP (fU slot_list_extend type_list_extend tm rL (ag 3) (ai (aV (ag 5) aA (fun _ _=>rfl)) ar))))))))
   (aH (bt (cw (ai jj (ai (ag 3) ar)))))))),?_⟩
 exact ni (G:=Gx K) (E:=E) pB ["self", "came", "deeds", "freeing", "lay", "told"] S rs Pf
theorem JP(fu:Nat)(T:Txt K mg A)(j:Nat)(G_p:au P w K mg base (aX P w) (8+j) A.f_p A.d_p ["self", "came", "deeds"] (bj K 3 r_p))(G_w:au P w K mg base (aX P w) (8+j) A.f_w A.d_w ["self", "came", "deeds"] (bj K 3 r_w)):au P w K mg base (aX P w) (8+j+1) A.f_w A.d_w ["self", "came", "deeds"] (bj K 3 (qK fu r_p r_w)):=by
 have G_d:au P w K mg base (aX P w) (1) A.f_d A.d_d ["self", "deeds"] (bj K 2 (d_d fu)):=Bg fu T;have G_ja:au P w K mg base (aX P w) (8) A.f_ja A.d_ja ["board", "came", "hand"] (bj K 3 (d_ja fu)):=Gs fu T;refine T.F_w.okX (k:=8+j) kg (fun vs H Q E h=>h.1) (fun cdv Ar outer s H vs Q E hr h=>?_);obtain⟨_,F,as,ws,ce,S,rs,Pf⟩:=h;refine⟨bq (Gx K) E _,(aG (b_ (iF (kR T.cls_Chase T.mt_d G_d (hr.mono (by omega)) T.b_d (aa.passes rfl) (ag 0) (ai (ag 2) ar))) (aH (bt (cw (ai jj (ai (gq ar) ar))))) cp)
   (aG (bD (i:=3) kg.nd rfl (Or.inl rfl) (gq ar))
   (aG (dQ PassesOwn.leaving rfl (fq (bh (eM G_ja) (hr.mono (by omega)) rfl T.g_ja T.F_ja.kp T.b_ja (aa.passes rfl) (ai (jH T.cls_Chase T.na_Chase_joined (ag 0)) (ai (ag 1) (ai (jH T.cls_Chase T.na_Chase_runner (ag 0)) ar))))) (cE (i:=4) kg.nd rfl (Or.inl rfl))
   (aG (bD (i:=5) kg.nd rfl (Or.inl rfl) (kR T.cls_Chase T.mt_p (xM G_p) (hr.mono (by omega)) T.b_p (aa.passes rfl) (ag 0) (ai (ka fB (ag 1) (fW (ai (aV (ag 4) aA (fun _ _=>rfl)) ar))) (ai (m9 (ag 2) (cw (ai (aV (ag 4) aA (fun _ _=>rfl)) ar))) ar))))
   (aG (b_ (jd (hr.cmp 8) (aV (ag 5) aA (fun _ _=>rfl)) jj) (aH (bt (cw (ai jj (ai (ka j0 (fW (ai (cw (ai (ag 2) (ai (aV (ag 4) aA (fun _ _=>rfl)) ar))) ar)) (aV (ag 5) aA (fun _ _=>rfl))) ar))))) cp)
   (aH (fP (fU slot_list_extend type_list_extend tm rL (ag 3) (ai (aV (ag 5) aA (fun _ _=>rfl)) ar)))))))
   (aH (bt (cw (ai jj (ai (ag 3) ar)))))))),?_⟩
 exact ni (G:=Gx K) (E:=E) pB ["self", "came", "deeds", "catching", "step", "told"] S rs Pf
theorem Bf(fu:Nat)(T:Txt K mg A):∀j:Nat,(au P w K mg base (aX P w) (8+j) A.f_p A.d_p ["self", "came", "deeds"] (bj K 3 (g9 fu j).1))/\(au P w K mg base (aX P w) (8+j) A.f_w A.d_w ["self", "came", "deeds"] (bj K 3 (g9 fu j).2))
 | 0=>⟨cM rfl,cM rfl⟩
 | j+1=>by
  obtain⟨h0,h1⟩:=Bf fu T j;exact⟨eI fu T j h0 h1,JP fu T j h0 h1⟩
theorem JD(fu:Nat)(T:Txt K mg A):au P w K mg base (aX P w) (18) A.f_p A.d_p ["self", "came", "deeds"] (bj K 3 (d_p fu)):=(Bf fu T 10).1
theorem JV(fu:Nat)(T:Txt K mg A):au P w K mg base (aX P w) 2 A.f_e A.d_e ["self", "board", "hunter", "point", "most"] (bj K 5 (d_e fu)) :=
 cQ T.F_e JW pB fun cdv Ar outer s H E hr=>(aG (ou T.cls_Chase T.na_Chase_joined (ag 0) (ag 1))
   (aG (ou T.cls_Chase T.na_Chase_hunter (ag 0) (ag 2))
   (aG (ou T.cls_Chase T.na_Chase_runner (ag 0) (bh (A8 fu T) (hr.mono (by decide)) rfl T.g_r T.F_r.kp T.b_r (aa.passes rfl) (ai (ag 2) ar)))
   (aG (ou T.cls_Chase T.na_Chase_stone (ag 0) (ag 3))
   (aH (ou T.cls_Chase T.na_Chase_most (ag 0) (ag 4)))))))
theorem Gr(fu:Nat)(T:Txt K mg A):au P w K mg base (aX P w) 19 A.f_ha A.d_ha ["board", "stand", "hunter", "point", "most"] (bj K 5 (d_ha fu)) :=
 cQ T.F_ha Gu pB fun cdv Ar outer s H E hr=>(aG (b_ (rP (cR (fv rfl) (ft K) rfl T.n_len boot_len (ai (ag 0) ar)) (He rfl T.c_MOST_POINTS)) (aH (tW (l:=[]) aa rfl T.xt rfl rfl rfl hr.hd (sV (kf mU (kf (Ff rfl T.c_MOST_POINTS) (kf mU sX)))) (fun _ h=>⟨trivial,trivial,trivial,trivial⟩))) cp)
   (aH (bt (kR T.cls_Chase T.mt_p (JD fu T) (hr.mono (by decide)) T.b_p (aa.passes rfl) (E8 T.mk_Chase (JV fu T) (hr.mono (by decide)) rfl T.gc_Chase T.b_e (aa.passes rfl) (ai (ag 0) (ai (ag 2) (ai (ag 3) (ai (ag 4) ar))))) (ai (fW (ai (ag 1) ar)) (ai (cw ar) ar))))))
theorem oS(fu:Nat)(T:Txt K mg A):au P w K mg base (aX P w) 1 A.f_h A.d_h ["_law_script", "_law_k"] (bj K 2 (d_h fu)) :=
 cQ T.F_h JU eT fun cdv Ar outer s H E hr=>(aG (b_ (rQ (ag 1) (cR (fv rfl) (ft K) rfl T.n_len boot_len (ai (ag 0) ar))) (aH (bt (aV (ag 0) (ag 1) (fun _ _=>rfl)))) cp)
   (aH (bt (gv (iG (iG aA (ag 1)) (ag 1)) (iG aA (ag 1))))))
theorem jQ(fu:Nat)(T:Txt K mg A):au P w K mg base (aX P w) 1 A.f_ba A.d_ba ["_law_cell", "_law_k"] (bj K 2 (d_ba fu)) :=
 cQ T.F_ba k_ eT fun cdv Ar outer s H E hr=>(aG (bD (i:=2) k_.nd rfl (Or.inl rfl) (g6 (iG (gv (g6 (ag 0) aA) aA) (gv aA (iG (iG aA (ag 1)) (ag 1)))) aA))
   (aH (bt (g6 (gv (iG (ag 2) (ag 2)) (iG aA (ag 1))) aA))))
theorem JC(fu:Nat)(T:Txt K mg A):au P w K mg base (aX P w) 2 A.f_t A.d_t ["_law_cell", "_law_most"] (bj K 2 (d_t fu)) :=
 cQ T.F_t eU eT fun cdv Ar outer s H E hr=>(aG (bD (i:=2) eU.nd rfl (Or.inl rfl) (fW (ai (cw (ai aA (ai aA ar))) (ai (cw (ai aA (ai aA ar))) (ai (cw (ai aA (ai aA ar))) (ai (cw (ai aA (ai aA ar))) (ai (cw (ai aA (ai aA ar))) (ai (cw (ai aA (ai aA ar))) (ai (cw (ai aA (ai aA ar))) (ai (cw (ai aA (ai aA ar))) (ai (cw (ai aA (ai aA ar))) (ai (cw (ai aA (ai aA ar))) (ai (cw (ai aA (ai aA ar))) (ai (cw (ai aA (ai aA ar))) ar))))))))))))))
   (aG (lO (aV (ag 2) (g6 (bh (jQ fu T) (hr.mono (by decide)) rfl T.g_ba T.F_ba.kp T.b_ba (aa.passes rfl) (ai (ag 0) (ai aA ar))) (ag 1)) (fun _ _=>rfl)) (mY rfl (iJ (cE (i:=3) eU.nd rfl (Or.inl rfl)) (iJ (cE (i:=4) eU.nd rfl (Or.inl rfl)) nj))))
   (aG (rN (k:=5) fB (kc (N:=["_law_cell", "_law_most", "_law_some", "_law_wide", "_law_high", "_law_joined", "_law_one", "_law_other", "_law_beside", "_law_drawn"]) (psc:=bw oU) (js:=[]) (N':=["_law_k"]) (by decide +kernel)) rfl rfl (kL rfl T.n_range (ai (iG (ag 3) (ag 4)) ar)) (fun _ _ _ _=>oJ) (fun _ _ _ _=>(gq ar)) eU.nd rfl rfl (by with_unfolding_all rfl))
   (aG (dQ PassesOwn.leaving rfl (kL rfl T.n_range (ai (iG (ag 3) (ag 4)) ar)) (cE (i:=6) eU.nd rfl (Or.inl rfl))
   (aH (dQ PassesOwn.leaving rfl (kL rfl T.n_range (ai (ag 6) ar)) (cE (i:=7) eU.nd rfl (Or.inl rfl))
   (aG (bD (i:=8) eU.nd rfl (Or.inl rfl) (pC (mX (jK (ag 6) (ag 7)) (ag 3)) (kb (om (mX (jK (ag 6) (ag 7)) aA) (kb (v5 (g6 (ag 6) (ag 3)) aA))))))
   (aG (bD (i:=9) eU.nd rfl (Or.inl rfl) (mX (g6 (bh (jQ fu T) (hr.mono (by decide)) rfl T.g_ba T.F_ba.kp T.b_ba (aa.passes rfl) (ai (ag 0) (ai (gv (gv aA (iG aA (ag 6))) (ag 7)) ar))) aA) aA))
   (aG (b_ (j_ (g6 (bh (jQ fu T) (hr.mono (by decide)) rfl T.g_ba T.F_ba.kp T.b_ba (aa.passes rfl) (ai (ag 0) (ai aA ar))) aA) aA) (aH (bD (i:=8) eU.nd rfl (Or.inl rfl) (pC (ag 8) (kb (ag 9))))) cp)
   (aG (b_ (j_ (g6 (bh (jQ fu T) (hr.mono (by decide)) rfl T.g_ba T.F_ba.kp T.b_ba (aa.passes rfl) (ai (ag 0) (ai aA ar))) aA) aA) (aH (bD (i:=8) eU.nd rfl (Or.inl rfl) (om (ag 8) (kb (Dy (ag 9)))))) cp)
   (aH (b_ (iF (ag 8)) (aG (fP (fU PySem.F.slot_list_append PySem.F.type_list_append g7 gW (aV (ag 5) (ag 6) (fun _ _=>rfl)) (ai (ag 7) ar)))
   (aH (fP (fU PySem.F.slot_list_append PySem.F.type_list_append g7 gW (aV (ag 5) (ag 7) (fun _ _=>rfl)) (ai (ag 6) ar))))) cp)))))))))
   (aH (bt (iK (n9 K) (oB K) rfl T.n_tuple boot_tuple (ai (mz fB (kc (N:=["_law_cell", "_law_most", "_law_some", "_law_wide", "_law_high", "_law_joined", "_law_one", "_law_other", "_law_beside", "_law_drawn"]) (psc:=bw oU) (js:=[]) (N':=["_law_row"]) (by decide +kernel)) rfl rfl (fq (ag 5)) (fun _ _ _ _=>oJ) (fun _ _ _ _=>(iK (n9 K) (oB K) rfl T.n_tuple boot_tuple (ai (cR (nZ rfl rfl) (nY K fB) rfl T.n_sorted boot_sorted (ai (ag 0) ar)) ar)))) ar))))))))
theorem oQ(fu:Nat)(T:Txt K mg A):au P w K mg base (aX P w) 1 A.f_n A.d_n ["_law_board_here", "_law_stand_here", "_law_point"] (bj K 3 (d_n fu)) :=
 cQ T.F_n jl iU fun cdv Ar outer s H E hr=>(aG (bD (i:=3) jl.nd rfl (Or.inl rfl) (gq (ai (ag 2) ar)))
   (aG (bD (i:=4) jl.nd rfl (Or.inl rfl) aA)
   (aG (yY fu PassesOwn.leaving (rQ (ag 4) (cR (fv rfl) (ft K) rfl T.n_len boot_len (ai (ag 3) ar))) (aG (dQ PassesOwn.leaving rfl (kF (aV (ag 0) (aV (ag 3) (ag 4) (fun _ _=>rfl)) (fun _ _=>rfl))) (cE (i:=5) jl.nd rfl (Or.inl rfl))
   (aH (b_ (PW.pt (lP (j_ (aV (ag 1) (ag 5) (fun _ _=>rfl)) (aV (ag 1) (ag 2) (fun _ _=>rfl))) (lV (tQ (hr.cmp 9) (ag 5) (ag 3) (by with_unfolding_all rfl))))) (aH (fP (fU PySem.F.slot_list_append PySem.F.type_list_append g7 gW (ag 3) (ai (ag 5) ar)))) cp)))
   (aH (bD (i:=4) jl.nd rfl (Or.inl rfl) (gv (ag 4) aA)))))
   (aH (bt (ag 3))))))
theorem oR(fu:Nat)(T:Txt K mg A):au P w K mg base (aX P w) 1 A.f_g A.d_g ["_law_board_here", "_law_stand_here", "_law_row"] (bj K 3 (d_g fu)) :=
 cQ T.F_g km iU fun cdv Ar outer s H E hr=>(aG (bD (i:=3) km.nd rfl (Or.inl rfl) (gq ar))
   (aG (dQ PassesOwn.leaving rfl (fq (ag 2)) (cE (i:=4) km.nd rfl (Or.inl rfl))
   (aH (dQ PassesOwn.leaving rfl (kF (aV (ag 0) (ag 4) (fun _ _=>rfl))) (cE (i:=5) km.nd rfl (Or.inl rfl))
   (aH (b_ (PW.pt (lP (j_ (aV (ag 1) (ag 5) (fun _ _=>rfl)) aA) (lV (tQ (hr.cmp 9) (ag 5) (ag 3) (by with_unfolding_all rfl))))) (aH (fP (fU PySem.F.slot_list_append PySem.F.type_list_append g7 gW (ag 3) (ai (ag 5) ar)))) cp)))))
   (aH (bt (ag 3)))))
theorem AK(fu:Nat)(T:Txt K mg A):au P w K mg base (aX P w) 2 A.f_u A.d_u ["_law_board_here", "_law_stand_here", "_law_hand", "_law_point"] (bj K 4 (d_u fu)) :=
 cQ T.F_u gF eT fun cdv Ar outer s H E hr=>(aG (b_ (pK (aV (ag 1) (ag 3) (fun _ _=>rfl)) aA) (aH (bt mZ)) cp)
   (aG (bD (i:=4) gF.nd rfl (Or.inl rfl) (iK (xy rfl rfl) (xx K j0) rfl T.n_list PyProof.Rows.boot_list (ai (ag 1) ar)))
   (aG (lO (ag 2) (tq (E:=E0) (ag 4) (ag 3)))
   (aG (bD (i:=5) gF.nd rfl (Or.inl rfl) (fW ar))
   (aG (dQ PassesOwn.leaving rfl (kF (aV (ag 0) (ag 3) (fun _ _=>rfl))) (cE (i:=6) gF.nd rfl (Or.inl rfl))
   (aH (b_ (j_ (aV (ag 4) (ag 6) (fun _ _=>rfl)) (jK aA (ag 2))) (aG (bD (i:=7) gF.nd rfl (Or.inl rfl) (bh (eM (oQ fu T)) (hr.mono (by decide)) rfl T.g_n T.F_n.kp T.b_n (aa.passes rfl) (ai (ag 0) (ai (ag 4) (ai (ag 6) ar)))))
   (aH (b_ (jd (hr.cmp 8) (bh (eM (oR fu T)) (hr.mono (by decide)) rfl T.g_g T.F_g.kp T.b_g (aa.passes rfl) (ai (ag 0) (ai (ag 4) (ai (ag 7) ar)))) (fW ar)) (aH (bD (i:=5) gF.nd rfl (Or.inl rfl) (ka fB (ag 5) (ag 7)))) cp))) cp)))
   (aG (dQ PassesOwn.leaving rfl (fq (ag 5)) (cE (i:=6) gF.nd rfl (Or.inl rfl))
   (aH (lO aA (tq (E:=E0) (ag 4) (ag 6)))))
   (aG (b_ (jd (hr.cmp 8) (bh (eM (oR fu T)) (hr.mono (by decide)) rfl T.g_g T.F_g.kp T.b_g (aa.passes rfl) (ai (ag 0) (ai (ag 4) (ai (bh (eM (oQ fu T)) (hr.mono (by decide)) rfl T.g_n T.F_n.kp T.b_n (aa.passes rfl) (ai (ag 0) (ai (ag 4) (ai (ag 3) ar)))) ar)))) (fW ar)) (aH (bt mZ)) cp)
   (aH (bt (iK (n9 K) (oB K) rfl T.n_tuple boot_tuple (ai (ag 4) ar)))))))))))
theorem JB(fu:Nat)(T:Txt K mg A):au P w K mg base (aX P w) 3 A.f_m A.d_m ["_law_script", "_law_at", "_law_board_here"] (bj K 3 (d_m fu)) :=
 cQ T.F_m iL eT fun cdv Ar outer s H E hr=>(aG (bD (i:=3) iL.nd rfl (Or.inl rfl) (iK (n9 K) (oB K) rfl T.n_tuple boot_tuple (ai (mz fB (kc (N:=["_law_script", "_law_at", "_law_board_here", "_law_stand_here", "_law_k", "_law_cell", "_law_found"]) (psc:=bw qM) (js:=[]) (N':=["_law_point"]) (by decide +kernel)) rfl rfl (kF (ag 2)) (fun _ _ _ _=>oJ) (fun _ _ _ _=>aA)) ar)))
   (aG (dQ PassesOwn.leaving rfl (kL rfl T.n_range (ai (g6 (bh (jQ fu T) (hr.mono (by decide)) rfl T.g_ba T.F_ba.kp T.b_ba (aa.passes rfl) (ai (bh (oS fu T) (hr.mono (by decide)) rfl T.g_h T.F_h.kp T.b_h (aa.passes rfl) (ai (ag 0) (ai (ag 1) ar))) (ai aA ar))) (gv (cR (fv rfl) (ft K) rfl T.n_len boot_len (ai (ag 2) ar)) aA)) ar)) (cE (i:=4) iL.nd rfl (Or.inl rfl))
   (aG (bD (i:=5) iL.nd rfl (Or.inl rfl) (bh (oS fu T) (hr.mono (by decide)) rfl T.g_h T.F_h.kp T.b_h (aa.passes rfl) (ai (ag 0) (ai (gv (gv (ag 1) aA) (ag 4)) ar))))
   (aG (bD (i:=6) iL.nd rfl (Or.inl rfl) (bh (AK fu T) (hr.mono (by decide)) rfl T.g_u T.F_u.kp T.b_u (aa.passes rfl) (ai (ag 2) (ai (ag 3) (ai (gv aA (g6 (bh (jQ fu T) (hr.mono (by decide)) rfl T.g_ba T.F_ba.kp T.b_ba (aa.passes rfl) (ai (ag 5) (ai (gv aA (ag 4)) ar))) aA)) (ai (g6 (bh (jQ fu T) (hr.mono (by decide)) rfl T.g_ba T.F_ba.kp T.b_ba (aa.passes rfl) (ai (ag 5) (ai aA ar))) (cR (fv rfl) (ft K) rfl T.n_len boot_len (ai (ag 2) ar))) ar))))))
   (aH (b_ (qb (ag 6)) (aH (bD (i:=3) iL.nd rfl (Or.inl rfl) (ag 6))) cp)))))
   (aH (bt (ag 3)))))
theorem AU(fu:Nat)(T:Txt K mg A):au P w K mg base (aX P w) 3 A.f_l A.d_l ["_law_board_here", "_law_path", "_law_hand", "_law_point"] (bj K 4 (d_l fu)) :=
 cQ T.F_l oW eT fun cdv Ar outer s H E hr=>(aG (bD (i:=4) oW.nd rfl (Or.inl rfl) (bh (AK fu T) (hr.mono (by decide)) rfl T.g_u T.F_u.kp T.b_u (aa.passes rfl) (ai (ag 0) (ai (aV (ag 1) (jJ aA) (fun _ _=>rfl)) (ai (ag 2) (ai (ag 3) ar))))))
   (aG (b_ (Cy (hr.cmp 9) (ag 4) (ag 1) (by with_unfolding_all rfl)) (aH (bt mZ)) cp)
   (aH (bt (ag 4)))))
theorem A7(fu:Nat)(T:Txt K mg A):au P w K mg base (aX P w) 4 A.f_q A.d_q ["_law_board_here", "_law_path", "_law_hand"] (bj K 3 (d_q fu)) :=
 cQ T.F_q ki eT fun cdv Ar outer s H E hr=>(aG (bD (i:=3) ki.nd rfl (Or.inl rfl) (gq ar))
   (aG (dQ PassesOwn.leaving rfl (kL rfl T.n_range (ai (cR (fv rfl) (ft K) rfl T.n_len boot_len (ai (ag 0) ar)) ar)) (cE (i:=4) ki.nd rfl (Or.inl rfl))
   (aG (bD (i:=5) ki.nd rfl (Or.inl rfl) (bh (AU fu T) (hr.mono (by decide)) rfl T.g_l T.F_l.kp T.b_l (aa.passes rfl) (ai (ag 0) (ai (ag 1) (ai (ag 2) (ai (ag 4) ar))))))
   (aH (b_ (qb (ag 5)) (aH (fP (fU PySem.F.slot_list_append PySem.F.type_list_append g7 gW (ag 3) (ai (cw (ai (ag 4) (ai (ka fB (ag 1) (fW (ai (ag 5) ar))) ar))) ar)))) cp))))
   (aH (bt (ka fB (ag 3) (fW (ai (cw (ai mZ (ai (ag 1) ar))) ar)))))))
theorem Jq(fu:Nat)(T:Txt K mg A):au P w K mg base (aX P w) 1 A.f_z A.d_z ["_law_deeds_here"] (bj K 1 (d_z fu)) :=
 cQ T.F_z ma iU fun cdv Ar outer s H E hr=>(aG (bD (i:=1) ma.nd rfl (Or.inl rfl) (gq ar))
   (aG (dQ PassesOwn.leaving rfl (kF (ag 0)) (cE (i:=2) ma.nd rfl (Or.inl rfl))
   (aH (b_ (xg (ag 2)) (aH (fP (fU PySem.F.slot_list_append PySem.F.type_list_append g7 gW (ag 1) (ai aA ar)))) (aH (fP (fU PySem.F.slot_list_append PySem.F.type_list_append g7 gW (ag 1) (ai (ag 2) ar)))))))
   (aH (bt (ag 1)))))
theorem JO(fu:Nat)(T:Txt K mg A):au P w K mg base (aX P w) 2 A.f_i A.d_i ["_law_web"] (bj K 1 (d_i fu)) :=
 cQ T.F_i kl eT fun cdv Ar outer s H E hr=>(aG (b_ (ji (iF (cR (mx K) (mQ K) rfl T.n_isinstance boot_isinstance (ai (ag 0) (ai (mM rfl T.n_list PyProof.Rows.boot_list) ar))))) (aH (bt fg)) cp)
   (aG (dQ PassesOwn.leaving rfl (fq (ag 0)) (cE (i:=1) kl.nd rfl (Or.inl rfl))
   (aG (b_ (PW.pt (j8 (ji (iF (cR (mx K) (mQ K) rfl T.n_isinstance boot_isinstance (ai (ag 1) (ai (mM rfl T.n_tuple boot_tuple) ar))))) (j8 (pK (cR (fv rfl) (ft K) rfl T.n_len boot_len (ai (ag 1) ar)) aA) (lQ (ji (iF (cR (mx K) (mQ K) rfl T.n_isinstance boot_isinstance (ai (aV (ag 1) aA (fun _ _=>rfl)) (ai (mM rfl T.n_tuple boot_tuple) ar))))))))) (aH (bt fg)) cp)
   (aH (dQ PassesOwn.leaving rfl (kF (m9 (aV (ag 1) aA (fun _ _=>rfl)) (cw (ai (aV (ag 1) aA (fun _ _=>rfl)) ar)))) (cE (i:=2) kl.nd rfl (Or.inl rfl))
   (aH (b_ (PW.pt (lP (qb (ag 2)) (lV (PW.pt (j8 (ji (iF (cR (mx K) (mQ K) rfl T.n_isinstance boot_isinstance (ai (ag 2) (ai (mM rfl T.n_int boot_int) ar))))) (lQ (iF (cR (mx K) (mQ K) rfl T.n_isinstance boot_isinstance (ai (ag 2) (ai (mM rfl T.n_bool boot_bool) ar)))))))))) (aH (bt fg)) cp))))))
   (aG (rN (k:=3) fB (kc (N:=["_law_web", "_law_row", "_law_deed", "_law_keys"]) (psc:=bw qH) (js:=[]) (N':=["_law_row"]) (by decide +kernel)) rfl rfl (fq (ag 0)) (fun _ _ _ _=>oJ) (fun _ _ _ _=>(DZ (bh (eM (Jq fu T)) (hr.mono (by decide)) rfl T.g_z T.F_z.kp T.b_z xK (ai (aV (ag 0) aA (fun _ _=>rfl)) ar)))) kl.nd rfl rfl (by with_unfolding_all rfl))
   (aH (bt (om (DC (hr.cmp 8) (ag 3) (cR (HD (hr.cmp 9)) (C3 K fB) rfl T.n_sorted boot_sorted (ai (ag 3) ar))) (kb (mX (cR HF C2 rfl T.n_len boot_len (ai (iK (qD rfl (hr.cmp 4)) (ye K) rfl T.n_dict boot_dict (ai (ag 0) ar)) ar)) (cR (fv rfl) (ft K) rfl T.n_len boot_len (ai (ag 0) ar))))))))))
theorem uQ(fu:Nat)(T:Txt K mg A):au P w K mg base (aX P w) 2 A.f_a A.d_a ["_law_hunt", "_law_stand_here"] (bj K 2 (d_a fu)) :=
 cQ T.F_a J9 eT fun cdv Ar outer s H E hr=>(aH (bt (cR (fv rfl) (ft K) rfl T.n_len boot_len (ai (bh (eM (oR fu T)) (hr.mono (by decide)) rfl T.g_g T.F_g.kp T.b_g (aa.passes rfl) (ai (aV (ag 0) aA (fun _ _=>rfl)) (ai (ag 1) (ai (bh (eM (oQ fu T)) (hr.mono (by decide)) rfl T.g_n T.F_n.kp T.b_n (aa.passes rfl) (ai (aV (ag 0) aA (fun _ _=>rfl)) (ai (ag 1) (ai (aV (ag 0) aA (fun _ _=>rfl)) ar)))) ar)))) ar))))
theorem AJ(fu:Nat)(T:Txt K mg A):au P w K mg base (aX P w) 4 A.f_x A.d_x ["_law_hunt", "_law_path"] (bj K 2 (d_x fu)) :=
 cQ T.F_x gE iU fun cdv Ar outer s H E hr=>(aG (lO (sF (ag 0) tD (tw aA)) (mY rfl (iJ (cE (i:=2) gE.nd rfl (Or.inl rfl)) (iJ (cE (i:=3) gE.nd rfl (Or.inl rfl)) (iJ (cE (i:=4) gE.nd rfl (Or.inl rfl)) nj)))))
   (aG (bD (i:=5) gE.nd rfl (Or.inl rfl) (gq ar))
   (aG (dQ PassesOwn.leaving rfl (fq (cR (nZ rfl rfl) (nY K fB) rfl T.n_sorted boot_sorted (ai (bh (eM (oR fu T)) (hr.mono (by decide)) rfl T.g_g T.F_g.kp T.b_g (aa.passes rfl) (ai (ag 2) (ai (aV (ag 1) (jJ aA) (fun _ _=>rfl)) (ai (bh (eM (oQ fu T)) (hr.mono (by decide)) rfl T.g_n T.F_n.kp T.b_n (aa.passes rfl) (ai (ag 2) (ai (aV (ag 1) (jJ aA) (fun _ _=>rfl)) (ai (ag 4) ar)))) ar)))) ar))) (cE (i:=6) gE.nd rfl (Or.inl rfl))
   (aG (bD (i:=7) gE.nd rfl (Or.inl rfl) (bh (AU fu T) (hr.mono (by decide)) rfl T.g_l T.F_l.kp T.b_l (aa.passes rfl) (ai (ag 2) (ai (ag 1) (ai (ag 3) (ai (ag 6) ar))))))
   (aH (b_ (PW.pt (lP (qb (ag 7)) (lV (PW.pt (j8 (j_ (aV (ag 7) (ag 4) (fun _ _=>rfl)) aA) (lQ (rQ (bh (uQ fu T) (hr.mono (by decide)) rfl T.g_a T.F_a.kp T.b_a (aa.passes rfl) (ai (ag 0) (ai (ag 7) ar))) aA))))))) (aH (fP (fU PySem.F.slot_list_append PySem.F.type_list_append g7 gW (ag 5) (ai (cw (ai (ag 6) (ai (ka fB (ag 1) (fW (ai (ag 7) ar))) ar))) ar)))) cp))))
   (aH (bt (ag 5))))))
theorem JN(fu:Nat)(T:Txt K mg A):au P w K mg base (aX P w) 2 A.f_j A.d_j ["_law_board_here", "_law_stand_here", "_law_cell"] (bj K 3 (d_j fu)) :=
 cQ T.F_j jm eT fun cdv Ar outer s H E hr=>(aG (bD (i:=3) jm.nd rfl (Or.inl rfl) (fW ar))
   (aG (dQ PassesOwn.leaving rfl (kL rfl T.n_range (ai (cR (fv rfl) (ft K) rfl T.n_len boot_len (ai (ag 0) ar)) ar)) (cE (i:=4) jm.nd rfl (Or.inl rfl))
   (aH (b_ (pK (aV (ag 1) (ag 4) (fun _ _=>rfl)) aA) (aG (bD (i:=5) jm.nd rfl (Or.inl rfl) (v7 (cR (fv rfl) (ft K) rfl T.n_len boot_len (ai (bh (eM (oR fu T)) (hr.mono (by decide)) rfl T.g_g T.F_g.kp T.b_g (aa.passes rfl) (ai (ag 0) (ai (ag 1) (ai (bh (eM (oQ fu T)) (hr.mono (by decide)) rfl T.g_n T.F_n.kp T.b_n (aa.passes rfl) (ai (ag 0) (ai (ag 1) (ai (ag 4) ar)))) ar)))) ar)) aA))
   (aH (bD (i:=3) jm.nd rfl (Or.inl rfl) (ka fB (ag 3) (EW fB (ai (ag 4) ar) (gv aA (iG aA (iK zY wk rfl T.n_int boot_int (ai (ag 5) ar))))))))) cp)))
   (aG (b_ (jd (hr.cmp 8) (ag 3) (fW ar)) (aH (bt mZ)) cp)
   (aH (bt (aV (ag 3) (g6 (bh (jQ fu T) (hr.mono (by decide)) rfl T.g_ba T.F_ba.kp T.b_ba (aa.passes rfl) (ai (ag 2) (ai aA ar))) (cR (fv rfl) (ft K) rfl T.n_len boot_len (ai (ag 3) ar))) (fun _ _=>rfl)))))))
theorem JZ(fu:Nat)(T:Txt K mg A)(j:Nat){r_k:List W->M W}(G_k:au P w K mg base (aX P w) (4+j) A.f_k A.d_k ["_law_hunt", "_law_path", "_law_left", "_law_deeds_here"] (bj K 4 r_k)):au P w K mg base (aX P w) (4+j+1) A.f_k A.d_k ["_law_hunt", "_law_path", "_law_left", "_law_deeds_here"] (bj K 4 (qG fu r_k)):=by
 have G_q:au P w K mg base (aX P w) (4) A.f_q A.d_q ["_law_board_here", "_law_path", "_law_hand"] (bj K 3 (d_q fu)):=A7 fu T;have G_x:au P w K mg base (aX P w) (4) A.f_x A.d_x ["_law_hunt", "_law_path"] (bj K 2 (d_x fu)):=AJ fu T;have G_a:au P w K mg base (aX P w) (2) A.f_a A.d_a ["_law_hunt", "_law_stand_here"] (bj K 2 (d_a fu)):=uQ fu T;refine T.F_k.okX (k:=4+j) gG (fun vs H Q E h=>h.1) (fun cdv Ar outer s H vs Q E hr h=>?_);obtain⟨_,F,as,ws,ce,S,rs,Pf⟩:=h;refine⟨bq (Gx K) E _,(aG (lO (sF (ag 0) (tw aA) tD) (mY rfl (iJ (cE (i:=4) gG.nd rfl (Or.inl rfl)) (iJ (cE (i:=5) gG.nd rfl (Or.inl rfl)) nj))))
   (aG (bD (i:=6) gG.nd rfl (Or.inl rfl) (iK (qD rfl (hr.cmp 4)) (wN K) rfl T.n_dict boot_dict (ai (bh (eM G_x) (hr.mono (by omega)) rfl T.g_x T.F_x.kp T.b_x (aa.passes rfl) (ai (ag 0) (ai (ag 1) ar))) ar)))
   (aG (b_ (PW.pt (j8 (Ap (hr.cmp 1) (ag 3) (ag 4) (by with_unfolding_all rfl)) (lQ (qx (hr.cmp 1) (nu (hr.cmp 1) (ag 4) (ag 3) (fun _ _=>rfl)) (ag 6) (by with_unfolding_all rfl))))) (aH (bt fg)) cp)
   (aG (fP (fU PySem.F.slot_list_append PySem.F.type_list_append g7 gW (ag 5) (ai (ag 3) ar)))
   (aG (bD (i:=7) gG.nd rfl (Or.inl rfl) (yG (hr.cmp 1) (ag 6) (nu (hr.cmp 1) (ag 4) (ag 3) (fun _ _=>rfl)) (fun _ _=>rfl)))
   (aG (b_ (j_ (aV (aV (ag 7) (jJ aA) (fun _ _=>rfl)) (aV (ag 0) aA (fun _ _=>rfl)) (fun _ _=>rfl)) aA) (aH (bt fg)) cp)
   (aG (b_ (j_ (ag 2) aA) (aH (bt fg)) cp)
   (aG (dQ PassesOwn.leaving rfl (fq (bh G_q (hr.mono (by omega)) rfl T.g_q T.F_q.kp T.b_q (aa.passes rfl) (ai (aV (ag 0) aA (fun _ _=>rfl)) (ai (ag 7) (ai (jK aA (aV (ag 0) aA (fun _ _=>rfl))) ar))))) (mY rfl (iJ (cE (i:=8) gG.nd rfl (Or.inl rfl)) (iJ (cE (i:=9) gG.nd rfl (Or.inl rfl)) nj)))
   (aG (b_ (rP (bh G_a (hr.mono (by omega)) rfl T.g_a T.F_a.kp T.b_a (aa.passes rfl) (ai (ag 0) (ai (aV (ag 9) (jJ aA) (fun _ _=>rfl)) ar))) aA) (aH (bt fg)) cp)
   (aH (b_ (ji (iF (bh G_k (hr.mono (by omega)) rfl T.g_k T.F_k.kp T.b_k (aa.passes rfl) (ai (ag 0) (ai (ag 9) (ai (jK (ag 2) aA) (ai (m9 (ag 3) (cw (ai (nu (hr.cmp 1) (ag 4) (ag 3) (fun _ _=>rfl)) (ai (ag 8) ar)))) ar))))))) (aH (bt fg)) cp))))
   (aH (bt fg)))))))))),?_⟩
 exact ni (G:=Gx K) (E:=E) eT ["_law_hunt", "_law_path", "_law_left", "_law_deeds_here", "_law_web", "_law_used", "_law_lays_here", "_law_further", "_law_deed", "_law_beyond"] S rs Pf
theorem Bm(fu:Nat)(T:Txt K mg A):∀j:Nat,(au P w K mg base (aX P w) (4+j) A.f_k A.d_k ["_law_hunt", "_law_path", "_law_left", "_law_deeds_here"] (bj K 4 (lZ fu j)))
 | 0=>cM rfl
 | j+1=>by
  have h0:=Bm fu T j;exact JZ fu T j h0
theorem JM(fu:Nat)(T:Txt K mg A):au P w K mg base (aX P w) (14) A.f_k A.d_k ["_law_hunt", "_law_path", "_law_left", "_law_deeds_here"] (bj K 4 (d_k fu)):=(Bm fu T 10)
theorem ok__law_kept_F(fu:Nat)(T:Txt K mg A)(j:Nat)(G_v:au P w K mg base (aX P w) (4+j) A.f_v A.d_v ["_law_hunt", "_law_path", "_law_left", "_law_deeds_here"] (bj K 4 r_v))(G_y:au P w K mg base (aX P w) (4+j) A.f_y A.d_y ["_law_hunt", "_law_path", "_law_left", "_law_deeds_here"] (bj K 4 r_y)):au P w K mg base (aX P w) (4+j+1) A.f_v A.d_v ["_law_hunt", "_law_path", "_law_left", "_law_deeds_here"] (bj K 4 (qJ fu r_v r_y)):=by
 have G_q:au P w K mg base (aX P w) (4) A.f_q A.d_q ["_law_board_here", "_law_path", "_law_hand"] (bj K 3 (d_q fu)):=A7 fu T;have G_a:au P w K mg base (aX P w) (2) A.f_a A.d_a ["_law_hunt", "_law_stand_here"] (bj K 2 (d_a fu)):=uQ fu T;refine T.F_v.okX (k:=4+j) jk (fun vs H Q E h=>h.1) (fun cdv Ar outer s H vs Q E hr h=>?_);obtain⟨_,F,as,ws,ce,S,rs,Pf⟩:=h;refine⟨bq (Gx K) E _,(aG (lO (sF (ag 0) (tw aA) tD) (mY rfl (iJ (cE (i:=4) jk.nd rfl (Or.inl rfl)) (iJ (cE (i:=5) jk.nd rfl (Or.inl rfl)) nj))))
   (aG (bD (i:=6) jk.nd rfl (Or.inl rfl) (iK (qD rfl (hr.cmp 4)) (wN K) rfl T.n_dict boot_dict (ai (bh G_q (hr.mono (by omega)) rfl T.g_q T.F_q.kp T.b_q (aa.passes rfl) (ai (aV (ag 0) aA (fun _ _=>rfl)) (ai (ag 1) (ai (jK aA (aV (ag 0) aA (fun _ _=>rfl))) ar)))) ar)))
   (aG (b_ (PW.pt (j8 (Ap (hr.cmp 1) (ag 3) (ag 4) (by with_unfolding_all rfl)) (lQ (qx (hr.cmp 1) (nu (hr.cmp 1) (ag 4) (ag 3) (fun _ _=>rfl)) (ag 6) (by with_unfolding_all rfl))))) (aH (bt fg)) cp)
   (aG (fP (fU PySem.F.slot_list_append PySem.F.type_list_append g7 gW (ag 5) (ai (ag 3) ar)))
   (aG (bD (i:=7) jk.nd rfl (Or.inl rfl) (yG (hr.cmp 1) (ag 6) (nu (hr.cmp 1) (ag 4) (ag 3) (fun _ _=>rfl)) (fun _ _=>rfl)))
   (aH (bt (pC (v5 (bh G_a (hr.mono (by omega)) rfl T.g_a T.F_a.kp T.b_a (aa.passes rfl) (ai (ag 0) (ai (aV (ag 7) (jJ aA) (fun _ _=>rfl)) ar))) aA) (kb (bh G_y (hr.mono (by omega)) rfl T.g_y T.F_y.kp T.b_y (aa.passes rfl) (ai (ag 0) (ai (ag 7) (ai (ag 2) (ai (m9 (ag 3) (cw (ai (nu (hr.cmp 1) (ag 4) (ag 3) (fun _ _=>rfl)) ar))) ar)))))))))))))),?_⟩
 exact ni (G:=Gx K) (E:=E) eT ["_law_hunt", "_law_path", "_law_left", "_law_deeds_here", "_law_web", "_law_used", "_law_answers", "_law_beyond"] S rs Pf
theorem JL(fu:Nat)(T:Txt K mg A)(j:Nat)(G_v:au P w K mg base (aX P w) (4+j) A.f_v A.d_v ["_law_hunt", "_law_path", "_law_left", "_law_deeds_here"] (bj K 4 r_v))(G_y:au P w K mg base (aX P w) (4+j) A.f_y A.d_y ["_law_hunt", "_law_path", "_law_left", "_law_deeds_here"] (bj K 4 r_y)):au P w K mg base (aX P w) (4+j+1) A.f_y A.d_y ["_law_hunt", "_law_path", "_law_left", "_law_deeds_here"] (bj K 4 (qI fu r_v r_y)):=by
 have G_x:au P w K mg base (aX P w) (4) A.f_x A.d_x ["_law_hunt", "_law_path"] (bj K 2 (d_x fu)):=AJ fu T;refine T.F_y.okX (k:=4+j) md (fun vs H Q E h=>h.1) (fun cdv Ar outer s H vs Q E hr h=>?_);obtain⟨_,F,as,ws,ce,S,rs,Pf⟩:=h;refine⟨bq (Gx K) E _,(aG (dQ PassesOwn.leaving rfl (fq (bh (eM G_x) (hr.mono (by omega)) rfl T.g_x T.F_x.kp T.b_x (aa.passes rfl) (ai (ag 0) (ai (ag 1) ar)))) (mY rfl (iJ (cE (i:=4) md.nd rfl (Or.inl rfl)) (iJ (cE (i:=5) md.nd rfl (Or.inl rfl)) nj)))
   (aG (b_ (j_ (aV (aV (ag 5) (jJ aA) (fun _ _=>rfl)) (aV (ag 0) aA (fun _ _=>rfl)) (fun _ _=>rfl)) aA) (aH (bt fg)) cp)
   (aH (b_ (PW.pt (lP (rP (ag 2) aA) (lV (ji (iF (bh G_v (hr.mono (by omega)) rfl T.g_v T.F_v.kp T.b_v (aa.passes rfl) (ai (ag 0) (ai (ag 5) (ai (jK (ag 2) aA) (ai (m9 (ag 3) (cw (ai (ag 4) ar))) ar)))))))))) (aH (bt fg)) cp))))
   (aH (bt fg))),?_⟩
 exact ni (G:=Gx K) (E:=E) eT ["_law_hunt", "_law_path", "_law_left", "_law_deeds_here", "_law_lay", "_law_further"] S rs Pf
theorem Bb(fu:Nat)(T:Txt K mg A):∀j:Nat,(au P w K mg base (aX P w) (4+j) A.f_v A.d_v ["_law_hunt", "_law_path", "_law_left", "_law_deeds_here"] (bj K 4 (g8 fu j).1))/\(au P w K mg base (aX P w) (4+j) A.f_y A.d_y ["_law_hunt", "_law_path", "_law_left", "_law_deeds_here"] (bj K 4 (g8 fu j).2))
 | 0=>⟨cM rfl,cM rfl⟩
 | j+1=>by
  obtain⟨h0,h1⟩:=Bb fu T j;exact⟨ok__law_kept_F fu T j h0 h1,JL fu T j h0 h1⟩
theorem Jl(fu:Nat)(T:Txt K mg A):au P w K mg base (aX P w) (14) A.f_y A.d_y ["_law_hunt", "_law_path", "_law_left", "_law_deeds_here"] (bj K 4 (d_y fu)):=(Bb fu T 10).2
theorem JA(fu:Nat)(T:Txt K mg A):au P w K mg base (aX P w) 15 A.f_s A.d_s ["_law_found", "_law_board_here", "_law_stand_here", "_law_point", "_law_most"] (bj K 5 (d_s fu)) :=
 cQ T.F_s kh eT fun cdv Ar outer s H E hr=>(aG (b_ (PW.pt (j8 (ji (iF (cR (mx K) (mQ K) rfl T.n_isinstance boot_isinstance (ai (ag 0) (ai (mM rfl T.n_tuple boot_tuple) ar))))) (j8 (pK (cR (fv rfl) (ft K) rfl T.n_len boot_len (ai (ag 0) ar)) aA) (lQ (ji (iF (bh (JO fu T) (hr.mono (by decide)) rfl T.g_i T.F_i.kp T.b_i (aa.passes rfl) (ai (aV (ag 0) aA (fun _ _=>rfl)) ar)))))))) (aH (bt fg)) cp)
   (aG (bD (i:=5) kh.nd rfl (Or.inl rfl) (cw (ai (ag 1) (ai (jK aA (aV (ag 2) (ag 3) (fun _ _=>rfl))) (ai (ag 3) (ai (iK (qD rfl (hr.cmp 4)) (ye K) rfl T.n_dict boot_dict (ai (aV (ag 0) aA (fun _ _=>rfl)) ar)) (ai (gq ar) ar)))))))
   (aG (b_ (jd (hr.cmp 8) (aV (ag 0) aA (fun _ _=>rfl)) jj) (aH (bD (i:=6) kh.nd rfl (Or.inl rfl) (bh (JM fu T) (hr.mono (by decide)) rfl T.g_k T.F_k.kp T.b_k (aa.passes rfl) (ai (ag 5) (ai (fW (ai (ag 2) ar)) (ai (ag 4) (ai (cw ar) ar))))))) (aH (bD (i:=6) kh.nd rfl (Or.inl rfl) (om (Cz (hr.cmp 8) (aV (ag 0) aA (fun _ _=>rfl)) jj) (kb (bh (Jl fu T) (hr.mono (by decide)) rfl T.g_y T.F_y.kp T.b_y (aa.passes rfl) (ai (ag 5) (ai (fW (ai (ag 2) ar)) (ai (ag 4) (ai (cw ar) ar))))))))))
   (aH (bt (om (ag 6) (kb (mX (cR (fv rfl) (ft K) rfl T.n_len boot_len (ai (aV (ag 5) aA (fun _ _=>rfl)) ar)) (cR (fv rfl) (ft K) rfl T.n_len boot_len (ai (aV (ag 0) aA (fun _ _=>rfl)) ar))))))))))
theorem C1(fu:Nat)(T:Txt K mg A):au P w K mg base (aX P w) 20 A.f_law A.d_law ["_law_script"] (bj K 1 (d_law fu)) :=
 cQ T.F_law cK eT fun cdv Ar outer s H E hr=>(aG (bD (i:=1) cK.nd rfl (Or.inl rfl) (bh (JC fu T) (hr.mono (by decide)) rfl T.g_t T.F_t.kp T.b_t (aa.passes rfl) (ai (bh (oS fu T) (hr.mono (by decide)) rfl T.g_h T.F_h.kp T.b_h (aa.passes rfl) (ai (ag 0) (ai aA ar))) (ai aA ar))))
   (aG (bD (i:=2) cK.nd rfl (Or.inl rfl) (bh (JB fu T) (hr.mono (by decide)) rfl T.g_m T.F_m.kp T.b_m (aa.passes rfl) (ai (ag 0) (ai aA (ai (ag 1) ar)))))
   (aG (bD (i:=3) cK.nd rfl (Or.inl rfl) (bh (JN fu T) (hr.mono (by decide)) rfl T.g_j T.F_j.kp T.b_j (aa.passes rfl) (ai (ag 1) (ai (ag 2) (ai (bh (oS fu T) (hr.mono (by decide)) rfl T.g_h T.F_h.kp T.b_h (aa.passes rfl) (ai (ag 0) (ai aA ar))) ar)))))
   (aG (b_ (xg (ag 3)) (aH (bt fg)) cp)
   (aG (bD (i:=4) cK.nd rfl (Or.inl rfl) (bh (oS fu T) (hr.mono (by decide)) rfl T.g_h T.F_h.kp T.b_h (aa.passes rfl) (ai (ag 0) (ai aA ar))))
   (aG (bD (i:=5) cK.nd rfl (Or.inl rfl) (gv aA (g6 (bh (jQ fu T) (hr.mono (by decide)) rfl T.g_ba T.F_ba.kp T.b_ba (aa.passes rfl) (ai (ag 4) (ai aA ar))) (gv aA (iG aA (iK zY wk rfl T.n_int boot_int (ai (pC (v7 (cR (fv rfl) (ft K) rfl T.n_len boot_len (ai (ag 1) ar)) aA) (kb (mX (g6 (bh (jQ fu T) (hr.mono (by decide)) rfl T.g_ba T.F_ba.kp T.b_ba (aa.passes rfl) (ai (ag 4) (ai aA ar))) aA) aA))) ar)))))))
   (aG (dQ PassesOwn.leaving rfl (kL rfl T.n_range (ai aA ar)) (cE (i:=6) cK.nd rfl (Or.inl rfl))
   (aG (bD (i:=7) cK.nd rfl (Or.inl rfl) (bh (Gr fu T) (hr.mono (by decide)) rfl T.g_ha T.F_ha.kp T.b_ha (aa.passes rfl) (ai (ag 1) (ai (ag 2) (ai (jK aA (aV (ag 2) (ag 3) (fun _ _=>rfl))) (ai (ag 3) (ai (ag 5) ar)))))))
   (aG (b_ (ji (iF (bh (JA fu T) (hr.mono (by decide)) rfl T.g_s T.F_s.kp T.b_s (aa.passes rfl) (ai (ag 7) (ai (ag 1) (ai (ag 2) (ai (ag 3) (ai (ag 5) ar)))))))) (aH (bt fg)) cp)
   (aH (fP (xw PySem.F.slot_list_clear PySem.F.type_list_clear Hq EX (aV (ag 7) aA (fun _ _=>rfl))))))))
   (aH (bt fg)))))))))
end
theorem all_mk(X:K.In h)(G:h.Ns mainGlobals mg)(hfa:mg "law" = some (.ref fa)){f0:Addr}{f1:Addr}{f2:Addr}{f3:Addr}{f4:Addr}{f5:Addr}{f6:Addr}{f7:Addr}{f8:Addr}{f9:Addr}{f10:Addr}{f11:Addr}{f12:Addr}{f13:Addr}{f14:Addr}{f15:Addr}{f16:Addr}{f17:Addr}{f18:Addr}{f19:Addr}{f20:Addr}{f21:Addr}{f22:Addr}{f23:Addr}{f24:Addr}{f25:Addr}{f26:Addr}{f27:Addr}{f28:Addr}{f29:Addr}{f30:Addr}{f31:Addr}{f32:Addr}{od32 an32:Option Addr}{sl32:Array (Option Value)}{oc32 kV32 dc32 pm32 cd32 ct32:Value}{f33:Addr}{f34:Addr}{f35:Addr}{f36:Addr}{f37:Addr}{f38:Addr}{C_Chase:Addr}(ac_Chase:nsIn K mainGlobals "Chase" = some (some (.ref C_Chase)))(pg_Chase:plainGet K C_Chase Str.empty=true)(hd_Chase:hasDictIn K C_Chase=true)(po_Chase:plainOver K C_Chase=true)(sa_Chase:findIn K (.ref C_Chase) "__setattr__" = some (some (.builtin "object.__setattr__")))(mi_Chase:makesIn K C_Chase=true)(kc_Chase:keepIn K (.ref C_Chase)=true)(na_Chase_hunter:findIn K (.ref C_Chase) "hunter" = some none)(na_Chase_joined:findIn K (.ref C_Chase) "joined" = some none)(na_Chase_most:findIn K (.ref C_Chase) "most" = some none)(na_Chase_runner:findIn K (.ref C_Chase) "runner" = some none)(na_Chase_stone:findIn K (.ref C_Chase) "stone" = some none)(a0:nsIn K mainGlobals "other_hand" = some (some (.ref f0)))(l0:cC K "other_hand" "other_hand" uK f0)(a1:nsIn K mainGlobals "patch_of" = some (some (.ref f1)))(l1:cC K "patch_of" "patch_of" uq f1)(a2:nsIn K mainGlobals "patches" = some (some (.ref f2)))(l2:cC K "patches" "patches" ue f2)(a3:nsIn K mainGlobals "patch" = some (some (.ref f3)))(l3:cC K "patch" "patch" sT f3)(a4:nsIn K mainGlobals "rows" = some (some (.ref f4)))(l4:cC K "rows" "rows" pS f4)(a5:nsIn K mainGlobals "breaths" = some (some (.ref f5)))(l5:cC K "breaths" "breaths" qA f5)(a6:nsIn K mainGlobals "points_beside" = some (some (.ref f6)))(l6:cC K "points_beside" "points_beside" uT f6)(a7:nsIn K mainGlobals "laid" = some (some (.ref f7)))(l7:cC K "laid" "laid" sr f7)(a8:nsIn K mainGlobals "lays_on" = some (some (.ref f8)))(l8:cC K "lays_on" "lays_on" uj f8)(a9:nsIn K mainGlobals "new_lays" = some (some (.ref f9)))(l9:cC K "new_lays" "new_lays" qw f9)(a10:nsIn K mainGlobals "steps" = some (some (.ref f10)))(l10:cC K "steps" "steps" qd f10)(a11:nsIn K mainGlobals "filled" = some (some (.ref f11)))(l11:cC K "filled" "filled" ud f11)(a12:nsIn K mainGlobals "breathless" = some (some (.ref f12)))(l12:cC K "breathless" "breathless" uJ f12)(a13:nsIn K mainGlobals "chase" = some (some (.ref f13)))(l13:cC K "chase" "chase" sS f13)(a14:nsIn K mainGlobals "_law_cell_at" = some (some (.ref f14)))(l14:cC K "_law_cell_at" "_law_cell_at" uG f14)(a15:nsIn K mainGlobals "_law_mix" = some (some (.ref f15)))(l15:cC K "_law_mix" "_law_mix" uo f15)(a16:nsIn K mainGlobals "_law_board" = some (some (.ref f16)))(l16:cC K "_law_board" "_law_board" oU f16)(a17:nsIn K mainGlobals "_law_patch" = some (some (.ref f17)))(l17:cC K "_law_patch" "_law_patch" uI f17)(a18:nsIn K mainGlobals "_law_breaths" = some (some (.ref f18)))(l18:cC K "_law_breaths" "_law_breaths" uF f18)(a19:nsIn K mainGlobals "_law_laid" = some (some (.ref f19)))(l19:cC K "_law_laid" "_law_laid" uz f19)(a20:nsIn K mainGlobals "_law_stand" = some (some (.ref f20)))(l20:cC K "_law_stand" "_law_stand" qM f20)(a21:nsIn K mainGlobals "_law_behind" = some (some (.ref f21)))(l21:cC K "_law_behind" "_law_behind" uE f21)(a22:nsIn K mainGlobals "_law_deeds" = some (some (.ref f22)))(l22:cC K "_law_deeds" "_law_deeds" uN f22)(a23:nsIn K mainGlobals "_law_key" = some (some (.ref f23)))(l23:cC K "_law_key" "_law_key" um f23)(a24:nsIn K mainGlobals "_law_is_web" = some (some (.ref f24)))(l24:cC K "_law_is_web" "_law_is_web" qH f24)(a25:nsIn K mainGlobals "_law_breath_count" = some (some (.ref f25)))(l25:cC K "_law_breath_count" "_law_breath_count" uP f25)(a26:nsIn K mainGlobals "_law_lays" = some (some (.ref f26)))(l26:cC K "_law_lays" "_law_lays" uy f26)(a27:nsIn K mainGlobals "_law_target" = some (some (.ref f27)))(l27:cC K "_law_target" "_law_target" uD f27)(a28:nsIn K mainGlobals "_law_caught" = some (some (.ref f28)))(l28:cC K "_law_caught" "_law_caught" uC f28)(a29:nsIn K mainGlobals "_law_kept" = some (some (.ref f29)))(l29:cC K "_law_kept" "_law_kept" ux f29)(a30:nsIn K mainGlobals "_law_free" = some (some (.ref f30)))(l30:cC K "_law_free" "_law_free" uw f30)(a31:nsIn K mainGlobals "_law_right" = some (some (.ref f31)))(l31:cC K "_law_right" "_law_right" uM f31)(a32:nsIn K mainGlobals "law" = some (some (.ref f32)))(l32:K.lookup f32=some ⟨oc32,od32,.func (fnOf "law" "law" (nq mH) (kY mH) (bw mH) .none kV32 dc32 pm32 an32 cd32 ct32),sl32⟩)(c32:codeIn K cd32 "law" = true)(k32:keepIn K (.ref f32)=true)(a33:findIn K (.ref C_Chase) "__init__" = some (some (.ref f33)))(fn33:isFn K (.ref f33)=true)(l33:cC K "__init__" "Chase.__init__" uS f33)(a34:findIn K (.ref C_Chase) "hunt" = some (some (.ref f34)))(fn34:isFn K (.ref f34)=true)(l34:cC K "hunt" "Chase.hunt" uL f34)(a35:findIn K (.ref C_Chase) "run" = some (some (.ref f35)))(fn35:isFn K (.ref f35)=true)(l35:cC K "run" "Chase.run" uv f35)(a36:findIn K (.ref C_Chase) "is_spent" = some (some (.ref f36)))(fn36:isFn K (.ref f36)=true)(l36:cC K "is_spent" "Chase.is_spent" uR f36)(a37:findIn K (.ref C_Chase) "hunter_lays" = some (some (.ref f37)))(fn37:isFn K (.ref f37)=true)(l37:cC K "hunter_lays" "Chase.hunter_lays" qN f37)(a38:findIn K (.ref C_Chase) "breaths_at" = some (some (.ref f38)))(fn38:isFn K (.ref f38)=true)(l38:cC K "breaths_at" "Chase.breaths_at" uO f38){t0:Tok}(q0:nsIn K mainGlobals "MOST_POINTS" = some (some (.int 16 t0)))(z_bool:nsIn K mainGlobals "bool" = some none)(z_dict:nsIn K mainGlobals "dict" = some none)(z_int:nsIn K mainGlobals "int" = some none)(z_isinstance:nsIn K mainGlobals "isinstance" = some none)(z_len:nsIn K mainGlobals "len" = some none)(z_list:nsIn K mainGlobals "list" = some none)(z_range:nsIn K mainGlobals "range" = some none)(z_sorted:nsIn K mainGlobals "sorted" = some none)(z_tuple:nsIn K mainGlobals "tuple" = some none)(xt:qZ K qT=true)(nl:oY K=true)
  : ∃A:qY,Txt K mg A/\fa=A.f_law/\∀(s:Shared) (v:Value),BindsTo s A.d_law ⟨[v],[]⟩ [("_law_script",v)]:=by
 have e:=hfa.symm.trans (mg_of X G a32);cases e;have ec_Chase:C_Chase=clOf K "Chase" := by unfold VS.clOf;rw[ac_Chase]
 subst ec_Chase;obtain⟨d0,F0⟩:=l0;have b0:=F0.binds (ps:=["hand"]) fun _ _ _ _ _ _ us hl=>VS.us1 (fun _=>rfl) us hl;obtain⟨d1,F1⟩:=l1;have b1:=F1.binds (ps:=["board", "marks", "start"]) fun _ _ _ _ _ _ us hl=>VS.us3 (fun _ _ _=>rfl) us hl;obtain⟨d2,F2⟩:=l2;have b2:=F2.binds (ps:=["board", "marks"]) fun _ _ _ _ _ _ us hl=>VS.us2 (fun _ _=>rfl) us hl;obtain⟨d3,F3⟩:=l3;have b3:=F3.binds (ps:=["board", "stand", "point"]) fun _ _ _ _ _ _ us hl=>VS.us3 (fun _ _ _=>rfl) us hl;obtain⟨d4,F4⟩:=l4;have b4:=F4.binds (ps:=["board", "stand"]) fun _ _ _ _ _ _ us hl=>VS.us2 (fun _ _=>rfl) us hl;obtain⟨d5,F5⟩:=l5;have b5:=F5.binds (ps:=["board", "stand", "row"]) fun _ _ _ _ _ _ us hl=>VS.us3 (fun _ _ _=>rfl) us hl;obtain⟨d6,F6⟩:=l6;have b6:=F6.binds (ps:=["board", "points"]) fun _ _ _ _ _ _ us hl=>VS.us2 (fun _ _=>rfl) us hl;obtain⟨d7,F7⟩:=l7;have b7:=F7.binds (ps:=["board", "stand", "hand", "point"]) fun _ _ _ _ _ _ us hl=>VS.us4 (fun _ _ _ _=>rfl) us hl;obtain⟨d8,F8⟩:=l8;have b8:=F8.binds (ps:=["board", "stand", "hand", "points"]) fun _ _ _ _ _ _ us hl=>VS.us4 (fun _ _ _ _=>rfl) us hl;obtain⟨d9,F9⟩:=l9;have b9:=F9.binds (ps:=["board", "came", "hand", "points"]) fun _ _ _ _ _ _ us hl=>VS.us4 (fun _ _ _ _=>rfl) us hl;obtain⟨d10,F10⟩:=l10;have b10:=F10.binds (ps:=["board", "came", "hand"]) fun _ _ _ _ _ _ us hl=>VS.us3 (fun _ _ _=>rfl) us hl;obtain⟨d11,F11⟩:=l11;have b11:=F11.binds (ps:=["stand", "points", "what"]) fun _ _ _ _ _ _ us hl=>VS.us3 (fun _ _ _=>rfl) us hl;obtain⟨d12,F12⟩:=l12;have b12:=F12.binds (ps:=["board", "stand", "hand"]) fun _ _ _ _ _ _ us hl=>VS.us3 (fun _ _ _=>rfl) us hl;obtain⟨d13,F13⟩:=l13;have b13:=F13.binds (ps:=["board", "stand", "hunter", "point", "most"]) fun _ _ _ _ _ _ us hl=>VS.us5 (fun _ _ _ _ _=>rfl) us hl;obtain⟨d14,F14⟩:=l14;have b14:=F14.binds (ps:=["_law_script", "_law_k"]) fun _ _ _ _ _ _ us hl=>VS.us2 (fun _ _=>rfl) us hl;obtain⟨d15,F15⟩:=l15;have b15:=F15.binds (ps:=["_law_cell", "_law_k"]) fun _ _ _ _ _ _ us hl=>VS.us2 (fun _ _=>rfl) us hl;obtain⟨d16,F16⟩:=l16;have b16:=F16.binds (ps:=["_law_cell", "_law_most"]) fun _ _ _ _ _ _ us hl=>VS.us2 (fun _ _=>rfl) us hl;obtain⟨d17,F17⟩:=l17;have b17:=F17.binds (ps:=["_law_board_here", "_law_stand_here", "_law_point"]) fun _ _ _ _ _ _ us hl=>VS.us3 (fun _ _ _=>rfl) us hl;obtain⟨d18,F18⟩:=l18;have b18:=F18.binds (ps:=["_law_board_here", "_law_stand_here", "_law_row"]) fun _ _ _ _ _ _ us hl=>VS.us3 (fun _ _ _=>rfl) us hl;obtain⟨d19,F19⟩:=l19;have b19:=F19.binds (ps:=["_law_board_here", "_law_stand_here", "_law_hand", "_law_point"]) fun _ _ _ _ _ _ us hl=>VS.us4 (fun _ _ _ _=>rfl) us hl;obtain⟨d20,F20⟩:=l20;have b20:=F20.binds (ps:=["_law_script", "_law_at", "_law_board_here"]) fun _ _ _ _ _ _ us hl=>VS.us3 (fun _ _ _=>rfl) us hl;obtain⟨d21,F21⟩:=l21;have b21:=F21.binds (ps:=["_law_board_here", "_law_path", "_law_hand", "_law_point"]) fun _ _ _ _ _ _ us hl=>VS.us4 (fun _ _ _ _=>rfl) us hl;obtain⟨d22,F22⟩:=l22;have b22:=F22.binds (ps:=["_law_board_here", "_law_path", "_law_hand"]) fun _ _ _ _ _ _ us hl=>VS.us3 (fun _ _ _=>rfl) us hl;obtain⟨d23,F23⟩:=l23;have b23:=F23.binds (ps:=["_law_deeds_here"]) fun _ _ _ _ _ _ us hl=>VS.us1 (fun _=>rfl) us hl;obtain⟨d24,F24⟩:=l24;have b24:=F24.binds (ps:=["_law_web"]) fun _ _ _ _ _ _ us hl=>VS.us1 (fun _=>rfl) us hl;obtain⟨d25,F25⟩:=l25;have b25:=F25.binds (ps:=["_law_hunt", "_law_stand_here"]) fun _ _ _ _ _ _ us hl=>VS.us2 (fun _ _=>rfl) us hl;obtain⟨d26,F26⟩:=l26;have b26:=F26.binds (ps:=["_law_hunt", "_law_path"]) fun _ _ _ _ _ _ us hl=>VS.us2 (fun _ _=>rfl) us hl;obtain⟨d27,F27⟩:=l27;have b27:=F27.binds (ps:=["_law_board_here", "_law_stand_here", "_law_cell"]) fun _ _ _ _ _ _ us hl=>VS.us3 (fun _ _ _=>rfl) us hl;obtain⟨d28,F28⟩:=l28;have b28:=F28.binds (ps:=["_law_hunt", "_law_path", "_law_left", "_law_deeds_here"]) fun _ _ _ _ _ _ us hl=>VS.us4 (fun _ _ _ _=>rfl) us hl;obtain⟨d29,F29⟩:=l29;have b29:=F29.binds (ps:=["_law_hunt", "_law_path", "_law_left", "_law_deeds_here"]) fun _ _ _ _ _ _ us hl=>VS.us4 (fun _ _ _ _=>rfl) us hl;obtain⟨d30,F30⟩:=l30;have b30:=F30.binds (ps:=["_law_hunt", "_law_path", "_law_left", "_law_deeds_here"]) fun _ _ _ _ _ _ us hl=>VS.us4 (fun _ _ _ _=>rfl) us hl;obtain⟨d31,F31⟩:=l31;have b31:=F31.binds (ps:=["_law_found", "_law_board_here", "_law_stand_here", "_law_point", "_law_most"]) fun _ _ _ _ _ _ us hl=>VS.us5 (fun _ _ _ _ _=>rfl) us hl;have F32:=xk (st:=mH) l32 c32 k32;have b32:=F32.binds (ps:=["_law_script"]) fun _ _ _ _ _ _ us hl=>VS.us1 (fun _=>rfl) us hl;obtain⟨d33,F33⟩:=l33;have b33:=F33.binds (ps:=["self", "board", "hunter", "point", "most"]) fun _ _ _ _ _ _ us hl=>VS.us5 (fun _ _ _ _ _=>rfl) us hl;obtain⟨d34,F34⟩:=l34;have b34:=F34.binds (ps:=["self", "came", "deeds"]) fun _ _ _ _ _ _ us hl=>VS.us3 (fun _ _ _=>rfl) us hl;obtain⟨d35,F35⟩:=l35;have b35:=F35.binds (ps:=["self", "came", "deeds"]) fun _ _ _ _ _ _ us hl=>VS.us3 (fun _ _ _=>rfl) us hl;obtain⟨d36,F36⟩:=l36;have b36:=F36.binds (ps:=["self", "deeds"]) fun _ _ _ _ _ _ us hl=>VS.us2 (fun _ _=>rfl) us hl;obtain⟨d37,F37⟩:=l37;have b37:=F37.binds (ps:=["self", "came"]) fun _ _ _ _ _ _ us hl=>VS.us2 (fun _ _=>rfl) us hl;obtain⟨d38,F38⟩:=l38;have b38:=F38.binds (ps:=["self", "stand"]) fun _ _ _ _ _ _ us hl=>VS.us2 (fun _ _=>rfl) us hl;refine⟨⟨_,_,_,_,_,_,_,_,_,_,_,_,_,_,_,_,_,_,_,_,_,_,_,_,_,_,_,_,_,_,_,_,_,_,_,_,_,_,_,_,_,_,_,_,_,_,_,_,_,_,_,_,_,_,_,_,_,_,_,_,_,_,_,_,_,_,_,_,_,_,_,_,_,_,_,_,_,_⟩,⟨mg_of X G a0,F0,b0,mg_of X G a1,F1,b1,mg_of X G a2,F2,b2,mg_of X G a3,F3,b3,mg_of X G a4,F4,b4,mg_of X G a5,F5,b5,mg_of X G a6,F6,b6,mg_of X G a7,F7,b7,mg_of X G a8,F8,b8,mg_of X G a9,F9,b9,mg_of X G a10,F10,b10,mg_of X G a11,F11,b11,mg_of X G a12,F12,b12,mg_of X G a13,F13,b13,mg_of X G a14,F14,b14,mg_of X G a15,F15,b15,mg_of X G a16,F16,b16,mg_of X G a17,F17,b17,mg_of X G a18,F18,b18,mg_of X G a19,F19,b19,mg_of X G a20,F20,b20,mg_of X G a21,F21,b21,mg_of X G a22,F22,b22,mg_of X G a23,F23,b23,mg_of X G a24,F24,b24,mg_of X G a25,F25,b25,mg_of X G a26,F26,b26,mg_of X G a27,F27,b27,mg_of X G a28,F28,b28,mg_of X G a29,F29,b29,mg_of X G a30,F30,b30,mg_of X G a31,F31,b31,mg_of X G a32,F32,b32,⟨a33,fn33,F33.kp⟩,F33,b33,⟨a34,fn34,F34.kp⟩,F34,b34,⟨a35,fn35,F35.kp⟩,F35,b35,⟨a36,fn36,F36.kp⟩,F36,b36,⟨a37,fn37,F37.kp⟩,F37,b37,⟨a38,fn38,F38.kp⟩,F38,b38,⟨pg_Chase,hd_Chase,po_Chase,sa_Chase⟩,⟨mi_Chase,a33,fn33,kc_Chase⟩,mg_of X G ac_Chase,na_Chase_hunter,na_Chase_joined,na_Chase_most,na_Chase_runner,na_Chase_stone,⟨_,mg_of X G q0⟩,mg_none_of X G z_bool,mg_none_of X G z_dict,mg_none_of X G z_int,mg_none_of X G z_isinstance,mg_none_of X G z_len,mg_none_of X G z_list,mg_none_of X G z_range,mg_none_of X G z_sorted,mg_none_of X G z_tuple,BO X G xt,nl⟩,rfl,fun s v=>.of_eq rfl⟩
end K38
variable {o:Int} {r pts:List Nat} {u:List (List (Option Nat))} {st:Option Nat×List Int} {ds:List (Option Nat)} {ls:List (Nat×Nat)} {w1:W} {z most kd ku:Nat} {cm pre cm':List (List Int)} {d1 d2:Sl->M W}
namespace K38
def FU:Nat:=1000
theorem ba{w:Option W}{b:DS}(q:Run b sl' ce Q)(h:cP sl i w sl':=by repeat (first|exact cP.zero|apply cP.succ)):Run b (sl.set i w) ce Q:=Bp h q
local macro_rules|`(tactic| trivial)=>`(tactic| repeat' (first
 | with_reducible (refine Bp (by repeat (first|exact cP.zero|apply cP.succ)) ?_)
 | with_reducible (refine id (α:=_=some (R.ok _ _)) ?_;assumption)
 | (with_reducible apply ah);rfl
 |with_reducible first|exact av|apply aM|apply pT|apply aY|apply bp|apply bE|apply ao|exact aw|apply bX|apply kU|apply jI|apply i3|exact ev_yes|apply wc|apply pH|apply sM|exact kr|exact eqE0|exact eqE1|exact pG|exact eqEN1|exact Bz|exact inS0|exact inS1|exact inSL0|exact inSL1|exact inL0|exact inL1
 | with_reducible (apply inC0;assumption)
 | with_reducible (apply vq;assumption)
 | with_reducible (apply dinC0;assumption)
 | with_reducible (apply CM;assumption)
 | ((with_reducible apply wa);trivial;done)
 |with_reducible first|apply o6|apply vt|apply rH|apply uW|apply vz|apply uX|apply kI|apply ja|apply mV|apply n6|apply lJ|apply bP.is
 | with_reducible (refine id (α:=aZ _ _ _) ?_;first|assumption|exact .fr _|exact .cl (by assumption))
 |with_reducible first|apply iC|apply wY|apply gZ|apply gD|apply eD|apply Hv|exact lf_isB0|exact lf_isB1|exact eqB0|exact eqB1|exact isiB|exact lf_all
 | with_reducible (apply Fp;assumption)
 |with_reducible first|exact ES|apply eA|apply sN|apply ev_ifE|apply DJ|apply oA|apply bQ|apply jh|apply fX|apply e8|apply bL|apply pI|apply ER|apply cI|apply seq_seq|apply dH|apply iH
 | with_reducible (refine id (α:=_=_) ?_;assumption)
 | (refine id (α:=(_:Nat)<_) ?_;first|assumption|omega)
 | (refine id (α:=(_:Nat)<=_) ?_;first|assumption|omega|decide|(simp only[length_cons,length_nil];decide))
 | with_reducible (apply sL;first|assumption|omega)
 | with_reducible (apply fV;first|assumption|omega)
 | with_reducible (apply sJ;first|assumption|omega)
 | with_reducible (apply wX;assumption;first|assumption|omega)
 | with_reducible (apply ff;assumption)
 | with_reducible (apply j9;assumption;first|assumption|omega)
 | with_reducible (apply lf_sortCF;assumption;first|assumption|omega)
 | with_reducible (apply tupCN;assumption;first|assumption|omega)
 | with_reducible (apply tupCB;assumption;first|assumption|omega)
 | with_reducible (apply rY;assumption;first|assumption|omega)
 | with_reducible (apply tupLN;first|assumption|omega)
 | with_reducible (apply v9;first|assumption|omega)
 | with_reducible (apply v8;first|assumption|omega)
 | ((with_reducible apply gA);rfl;rfl;first|assumption|exact mul_small (.inr (by omega))|exact mul_small (.inl (by omega)))
 | with_reducible (apply lf_listL;first|assumption|omega)
 | with_reducible (apply lf_sortS;first|assumption|omega)
 |with_reducible exact eqLL0
 |with_reducible exact eqLL1
 | with_reducible (apply eqLC1;assumption)
 | with_reducible (apply eqSC1;assumption)
 |with_reducible first|exact kT|exact lf_lenS|exact oy
 | with_reducible (apply EO;assumption)
 | intro _
 | ((with_reducible apply m_)<;>rfl)
 | ((with_reducible apply tf)<;>rfl)
 | ((with_reducible apply lN)<;>rfl)
 | ((with_reducible apply lf_fLe)<;>rfl)
 | ((with_reducible apply sj)<;>rfl)
 | ((with_reducible apply lf_fGe)<;>rfl)
 | ((with_reducible apply gY)<;>rfl)
 | ((with_reducible apply s_)<;>rfl)
 | ((with_reducible apply lf_fNeg);rfl)
 | ((with_reducible apply DH);rfl)
 |with_reducible first|exact vp|exact v_|exact isiI|exact isiIB
 | ((with_reducible apply lf_min)<;>rfl)
 | ((with_reducible apply lf_max)<;>rfl)
 | ((with_reducible apply p6);rfl;rfl;omega)
 | ((with_reducible apply xP);rfl;rfl;omega)
 | (refine id (α:=(_:Nat)=_) ?_;rfl)
 | with_reducible rfl))
def rC(r:List Nat):C:=.lst (r.map nW)
def fZ(rows:List (List Nat))(p q:Nat):List (List Nat):=rows.set p (rows.getD p []++[q])
def kx(rows:List (List Nat))(p q:Nat):List (List Nat):=fZ (fZ rows p q) q p
theorem tN(rows:List (List Nat))(p q:Nat):(fZ rows p q).length=rows.length:=by simp[fZ]
theorem zl(rows:List (List Nat))(p q:Nat):(kx rows p q).length=rows.length:=by simp[kx,tN]
theorem m7{rows:List (List Nat)}(hp:p<rows.length)(q i:Nat):(fZ rows p q).getD i []=if i=p then rows.getD p []++[q] else rows.getD i []:=by
 unfold fZ;simp only[getD_eq_getElem?_getD]
 by_cases h:i=p
 ·subst h;simp[hp]
 ·rw[getElem?_set_ne (Ne.symm h)];simp[h]
structure Rows (n:Nat) (rows:List (List Nat)):Prop where
 len:rows.length=n
 bd:∀i j,j∈rows.getD i []->j<n
 sym:∀i j,j∈rows.getD i []->i∈rows.getD j []
section
variable {mS:Nat} {rows:List (List Nat)} {gs:Ce}
abbrev gi(ce:Ce)(n:Nat):W:=.lst ((List.range n).map fun i=>W.cel (ce.length+i))
abbrev bC(ce:Ce)(rows:List (List Nat))(gs:Ce):Ce:=ce++(rows.map rC++gs)
theorem wK(hp:p<rows.length):(bC ce rows gs)[ce.length+p]?=some (rC (rows.getD p [])):=by rw[o7,getElem?_append_left (by simpa using hp),getElem?_map,getD_eq_getElem?_getD];simp[hp]
theorem C0(hp:p<rows.length):(bC ce rows gs).set (ce.length+p) (.lst ((rows.getD p []).map nW++[nW q]))=bC ce (fZ rows p q) gs:=by
 rw[u5,set_append_left _ _ (by simpa using hp)];show _=ce++((rows.set p (rows.getD p []++[q])).map rC++gs);rw[map_set];have e:C.lst ((rows.getD p []).map nW++[nW q])=rC (rows.getD p []++[q]):=by simp only[rC,map_append,map_cons,map_nil]
 rw[e]
theorem CZ(c:Ce)(hp:p<n):aE c (gi ce n) (nW p)=some (W.cel (ce.length+p)):=by rw[kJ (xs:=(List.range n).map fun i=>W.cel (ce.length+i)) rfl,getElem?_map];simp[hp]
theorem Bt{a b:Nat}(h4:sl[mS]?=some (some (gi ce n)))(ha:sl[a]?=some (some (nW p)))(hb:sl[b]?=some (some (nW q)))(hr:rows.length=n)(hp:p<n)(hz:(rows.getD p []).length<sizeLine) :
  c7 (dM dO (aC aE (ae mS) (ae a)) (af (ae b) ak)) sl (bC ce rows gs)=some (.go .nx sl (bC ce (fZ rows p q) gs)):=by
 have hp':p<rows.length:=by omega
 have g:=wK (ce:=ce) (gs:=gs) hp';have e1:aC aE (ae mS) (ae a) sl (bC ce rows gs)=some (.ok (W.cel (ce.length+p)) (bC ce rows gs)):=by simp only[Ds,pA,pJ,h4,ha,xq,CZ _ hp,map_some]
 have e2:af (ae b) ak sl (bC ce rows gs)=some (.ok [nW q] (bC ce rows gs)):=by simp only[yE,pA,pJ,hb,w_,vU]
 have lq:jA (bC ce rows gs) (W.cel (ce.length+p))=some ():=by unfold jA;rw[ff (xs:=(rows.getD p []).map nW) g];rfl
 have ap:dO (W.cel (ce.length+p)) [nW q] (bC ce rows gs)=some (.ok .non (bC ce (fZ rows p q) gs)):=by rw[vR (mW (xs:=(rows.getD p []).map nW) g) (by rw[length_map];exact hz),C0 hp']
 generalize bC ce rows gs=c1 at *;generalize bC ce (fZ rows p q) gs=c2 at *;simp only[CP,CN,pA,Cr,xq,e1,e2,lq,ap,map_some]
theorem Kk{a b:Nat}(h4:sl[mS]?=some (some (gi ce n)))(ha:sl[a]?=some (some (nW p)))(hb:sl[b]?=some (some (nW q)))(hr:rows.length=n)(hp:p<n)(hq:q<n)(hz:∀i,(rows.getD i []).length<1000) :
  ay (c7 (dM dO (aC aE (ae mS) (ae a)) (af (ae b) ak))) (c7 (dM dO (aC aE (ae mS) (ae b)) (af (ae a) ak))) sl (bC ce rows gs)=some (.go .nx sl (bC ce (kx rows p q) gs)):=by
 have z:(1001:Nat)<sizeLine:=by decide
 rw[yF (Bt h4 ha hb hr hp (by have:=hz p;omega))];refine Bt h4 hb ha (by rw[tN];exact hr) hq ?_;rw[m7 (by omega)];split
 ·have:=hz p;rw[length_append,length_singleton];omega
 ·have:=hz q;omega
theorem IS(hp:p<rows.length)(h:(rows.getD p []).length<=60)(cs:Sl):bg gu (af (bg (fE bW) (af (ae 0) ak)) ak) (some (W.cel (ce.length+p))::cs) (bC ce rows gs)=some (.ok (wT (cG (rows.getD p []))) (bC ce rows gs)):=by
 have g:=wK (ce:=ce) (gs:=gs) hp;have hz:(61:Nat)<sizeLine:=by decide
 have l1:(f_ (dI (rows.getD p []))).length=(rows.getD p []).length:=by rw[(jN _).length_eq,nA]
 have so:fE bW [W.cel (ce.length+p)] (bC ce rows gs)=some (.ok (.lst ((cG (rows.getD p [])).map nW)) (bC ce rows gs)):=by simp only[fE,ff (xs:=(rows.getD p []).map nW) g,t_,nA];rw[if_pos (by omega),sD _ (by rw[length_map,l1];omega),oI]
 have tu:gu [.lst ((cG (rows.getD p [])).map nW)] (bC ce rows gs)=some (.ok (wT (cG (rows.getD p []))) (bC ce rows gs)):=by
  have e:((cG (rows.getD p [])).map nW).length=(rows.getD p []).length:=by rw[<- oI,length_map,l1]
  show nL _ _=_;rw[Dr _ (by rw[e];omega)];rfl
 generalize bC ce rows gs=c1 at *;simp only[CO,pA,yE,pJ,getElem?_cons_zero,w_,vU,so,tu]
theorem Jk(hr:rows.length=n)(h36:n<=36)(h:∀i,(rows.getD i []).length<=60)(h4:sl[mS]?=some (some (gi ce n))) :
  eX bW [] (dA (ae mS)) fo (bg gu (af (bg (fE bW) (af (ae 0) ak)) ak)) sl (bC ce rows gs)=some (.ok (.lst (((List.range n).map fun i=>cG (rows.getD i [])).map wT)) (bC ce rows gs)):=by
 have hz:=fJ;have hi:dA (ae mS) sl (bC ce rows gs)=some (.ok (.lst ((List.range n).map fun i=>W.cel (ce.length+i))) (bC ce rows gs)):=by show az (ae mS sl) (fun w=>look fun ce=>gR ce w) (bC ce rows gs)=_;rw[g5 (a:=gi ce n) (ce':=bC ce rows gs) (by simp only[pJ,h4])];rfl
 obtain⟨zs,e,pz⟩:=DO (mk:=bW) (js:=[]) (s:=.lst ((List.range n).map fun i=>W.cel (ce.length+i))) (e:=bg gu (af (bg (fE bW) (af (ae 0) ak)) ak)) hi trivial (fun x y=>∃i,i<n/\x=W.cel (ce.length+i)/\y=wT (cG (rows.getD i []))) (fun x hx=>by
  simp only[Src.items,mem_map,mem_range] at hx;obtain⟨i,hi,rfl⟩:=hx;exact⟨_,⟨i,hi,rfl,rfl⟩,IS (by omega) (h i) _⟩) (by simp only[Src.items,length_map,length_range];omega)
 rw[e];obtain⟨hl,hn⟩:=VS.Paired.nth pz;simp only[Src.items,length_map,length_range] at hl;have ez:zs=((List.range n).map fun i=>cG (rows.getD i [])).map wT:=by
  apply ext_getElem?;intro i
  by_cases hi:i<n
  ·have h1:((List.range n).map fun i=>W.cel (ce.length+i))[i]?=some (W.cel (ce.length+i)):=by simp[hi]
   have h2:zs[i]?=some (zs[i]'(by omega)):=getElem?_eq_getElem _;obtain⟨j,_,q1,q2⟩:=hn i _ _ h1 h2;have hij:i=j:=by injection q1 with q1;omega
   subst hij;rw[h2,q2];simp[hi]
  ·rw[getElem?_eq_none (by omega),getElem?_eq_none (by simp;omega)]
 rw[sD _ (by rw[<- hl];omega),ez]
theorem Gq(hi:di sl ce=some (.ok (.rng 0 n) ce))(h36:n<=36):eX bW [] di fo (dF ak) sl ce=some (.ok (gi ce n) (bC ce (List.replicate n []) [])):=by have hz:=fJ;show az (di sl) (fun s=>az (dS s (dP [] sl) fo (dF ak) s.items []) bW) ce=_;have al:=z8 (s:=.rng 0 n) (cs:=dP [] sl) (fun _=>trivial) (Src.rng 0 n).items [] ce (by rw[uf];simp;omega);rw[g5 hi,g5 al,uf,sD _ (by simp;omega)];simp[bC,rC,gi]
end
theorem jE{P:W->Ce->Prop}(sl:Sl)(e:ws.map some++List.replicate (n-ws.length) none=sl)(h:Run body sl ce (Rt fun v ce'=>∃w c',fin ce ce' v=some (.ok w c')/\P w c')):∃w c',bO fin n body ws ce=some (.ok w c')/\P w c':=by
 subst e;obtain⟨o,e,q⟩:=h;cases o with
 | ex x c=>exact q.elim
 | go f sl c=>cases f with
  | rt w =>
   obtain⟨w',c',h1,h2⟩:=q;exact⟨w',c',wZ e h1,h2⟩
  | nx=>exact q.elim
  | bk=>exact q.elim
  | ct=>exact q.elim
theorem tM{d:List Nat}(e:d++p::r=List.range n):d=List.range p:=by
 have hl:d.length<n:=by have:=congrArg List.length e;simp at this;omega
 have h1:(List.range n)[d.length]?=some p:=by rw[<- e];simp
 rw[getElem?_range hl] at h1;cases h1;have h2:(List.range n).take d.length=d:=by rw[<- e];simp
 rw[<- h2,take_range,min_eq_left (le_of_lt hl)];simp
structure LsOk (n:Nat) (ls:List (Nat×Nat)):Prop where
 nd:ls.Nodup
 lt:∀p∈ls,p.1<p.2/\p.2<n
theorem qc{a b:Sl->M W}{x y:W}(ha:a sl ce=some (.ok x c1))(hb:b sl c1=some (.ok y c2))(hx:cH c2 x=some xs)(hy:cH c2 y=some ys)(hz:xs.length+ys.length<=sizeLine) :
  fR bW a b sl ce=some (.ok (.lst (xs++ys)) c2):=by
 simp only[fR,az,ha,hb,o_,hx,hy,if_pos hz];exact nc (by rw[length_append];exact hz)
theorem A6{α β:Type}{f:α->β}{l:List α}(h:l.Nodup)(inj:∀x y,f x=f y->x=y):(l.map f).Nodup:=List.Pairwise.map f (fun a b hab e=>hab (inj a b e)) h
def dm(ls:List (Nat×Nat))(i:Nat):List Nat:=ls.filterMap fun p=>if p.1=i then some p.2 else if p.2=i then some p.1 else none
theorem tL(h:LsOk n ls):j∈dm ls i↔(i,j)∈ls\/(j,i)∈ls:=by
 unfold dm;rw[mem_filterMap];constructor
 ·rintro⟨⟨a,b⟩,hp,e⟩;simp only at e;split at e
  ·cases e;rename_i h1;subst h1;exact .inl hp
  ·split at e
   ·cases e;simp_all
   ·cases e
 ·rintro(hp|hp)
  ·exact⟨(i,j),hp,by simp⟩
  ·have:=(h.lt _ hp).1;simp only at this;refine⟨(j,i),hp,?_⟩;simp only;rw[if_neg (by omega)];simp
theorem wJ(h:LsOk n ls)(i:Nat):(dm ls i).Nodup:=by
 unfold dm;refine List.Pairwise.filterMap _ ?_ (List.Pairwise.and_mem.mp h.nd);rintro⟨a,b⟩ ⟨c,d⟩ ⟨h1,h2,hne⟩ x hx y hy e;subst e;have l1:=(h.lt _ h1).1;have l2:=(h.lt _ h2).1;simp only at hx hy l1 l2;apply hne;split at hx<;>split at hy
 ·cases hx;cases hy;simp_all
 ·split at hy
  ·cases hx;cases hy;simp_all;omega
  ·cases hy
 ·split at hx
  ·cases hx;cases hy;simp_all;omega
  ·cases hx
 ·split at hx
  ·split at hy
   ·cases hx;cases hy;simp_all
   ·cases hy
  ·cases hx
theorem pR(h:LsOk n ls)(hj:j∈dm ls i):j<n/\i<n:=by
 rcases(tL h).mp hj with hp|hp<;>(have:=h.lt _ hp;simp only at this;omega)
def gU(n:Nat)(ls:List (Nat×Nat)):List (List Nat):=(List.range n).map fun i=>cG (dm ls i)
theorem tP(n:Nat)(ls:List (Nat×Nat))(i:Nat):(gU n ls).getD i []=if i<n then cG (dm ls i) else []:=by
 unfold gU;rw[getD_eq_getElem?_getD,getElem?_map]
 by_cases h:i<n
 ·simp[h]
 ·rw[getElem?_eq_none (by simp;omega)];simp[h]
structure de (b:List (List Nat)):Prop where
 bd:Bd b
 sym:Sym b
 h36:b.length<=36
 pos:0<b.length
 row:∀i,(b.getD i []).length<=36
 f_:∀i,cG (b.getD i [])=b.getD i []
theorem IQ{m:List Nat}(h:l.Perm m):cG l=cG m:=by unfold cG;rw[Ig h]
theorem HS(l:List Nat):(cG l).Perm l:=by
 have h:(cG l).Perm ((dI l).map Int.toNat):=(jN (dI l)).map _;have e:(dI l).map Int.toNat=l:=by
  unfold dI;rw[map_map]
  conv=>rhs;rw[<- map_id l]
  apply map_congr_left;intro x _;simp
 rwa [e] at h
theorem HR(l:List Nat):cG (cG l)=cG l:=IQ (HS l)
theorem Fw(h:LsOk n ls)(h0:0<n)(h36:n<=36):de (gU n ls):=by
 have hl:(gU n ls).length=n:=by simp[gU]
 refine⟨fun r hr x hx=>?_,fun i j hj=>?_,by omega,by omega,fun i=>?_,fun i=>?_⟩
 ·obtain⟨i,hi,rfl⟩:=mem_map.mp hr;rw[hl];exact(pR h ((tZ _ _).mp hx)).1
 ·rw[tP] at hj ⊢;split at hj
  ·have hj:=(tZ _ _).mp hj;rw[if_pos (pR h hj).1];exact(tZ _ _).mpr ((tL h).mpr ((tL h).mp hj).symm)
  ·simp at hj
 ·rw[tP];split
  ·rw[ql];exact le_trans (fY (wJ h i) fun x hx=>(pR h hx).1) h36
  ·simp
 ·rw[tP];split
  ·exact HR _
  ·exact length_eq_zero_iff.mp (ql [])
theorem Fv(d:List (Nat×Nat))(p q i:Nat)(hpq:p≠q):dm (d++[(p,q)]) i=dm d i++((if i=p then [q] else [])++(if i=q then [p] else [])):=by
 unfold dm;rw[filterMap_append];congr 1
 by_cases h1:i=p
 ·subst h1;have:¬i=q:=hpq;simp[this]
 ·by_cases h2:i=q
  ·subst h2;simp[h1,hpq]
  ·have h1':¬p=i:=fun e=>h1 e.symm;have h2':¬q=i:=fun e=>h2 e.symm;simp[h1,h2,h1',h2']
theorem Gp(n:Nat)(d:List (Nat×Nat))(hp:p<n)(hq:q<n)(hpq:p≠q):kx ((List.range n).map (dm d)) p q=(List.range n).map (dm (d++[(p,q)])):=by
 have gd:∀(e:List (Nat×Nat)) (i:Nat),i<n->((List.range n).map (dm e)).getD i []=dm e i:=fun e i hi=>by simp[getD_eq_getElem?_getD,hi]
 apply ext_getElem?;intro i
 by_cases hi:i<n
 ·have e1:∀(l:List (List Nat)),l.length=n->l[i]?=some (l.getD i []):=fun l hl=>by
   rw[getD_eq_getElem?_getD,getElem?_eq_getElem (by omega)];rfl
  rw[e1 _ (by rw[zl];simp),e1 _ (by simp),gd _ i hi,Fv d p q i hpq];unfold kx;rw[m7 (by rw[tN];simpa using hq),m7 (by simpa using hp),m7 (by simpa using hp),gd _ _ hp,gd _ _ hq,gd _ _ hi];congr 1
  by_cases h1:i=q
  ·subst h1;rw[if_pos rfl,if_neg (Ne.symm hpq),if_pos rfl,if_neg (Ne.symm hpq)];simp
  ·rw[if_neg h1,if_neg h1]
   by_cases h2:i=p
   ·subst h2;simp
   ·simp[h2]
 ·rw[getElem?_eq_none (by rw[zl];simp;omega),getElem?_eq_none (by simp;omega)]
section
variable {mk:W} {s:Nat}
def Mk(b:List (List Nat))(mk:W)(vl:Nat->Int):Prop:=∀(ce:Ce) (x y:Nat),x<b.length->y<b.length->∃wx wy,aE ce mk (nW x)=some wx/\aE ce mk (nW y)=some wy/\c6 false ce wx wy=some (.bl (decide (vl x=vl y)))
theorem vk{is:List Int}(h:is.length=b.length):Mk b (wS is) (fun x=>is.getD x 0):=fun ce x y hx hy=>⟨_,_,fV (by omega),fV (by omega),kr⟩
theorem Aw(fu:Nat)(hfu:200<=fu)(hm:Mk b mk vl)(hb:Bd b)(h36:b.length<=36)(hs:s<b.length) :
  d_aa fu [wB b,mk,nW s] ce=some (.ok (.cel ce.length) (ce++[.lst ((aJ b vl s).map nW)])):=by
 have hz:=fJ;unfold d_aa;refine dE [some (wB b),some mk,some (nW s),none,none,none,none] rfl ?_;trivial;have O0:=((Own.start ce).alloc (C.dct (kvs [s]))).alloc (C.lst ([s].map nW));refine(?_:Run _ _ ((ce++[C.dct (kvs [s])])++[C.lst ([s].map nW)]) _);generalize h4:(ce++[C.dct (kvs [s])]).length=k4 at O0;have h4':∀x:Key×W,(ce++[C.dct [x]]).length=k4:=fun x=>by rw[<- h4];simp
 rw[h4'];generalize h3:ce.length=k3 at O0 ⊢;generalize (ce++[C.dct (kvs [s])])++[C.lst ([s].map nW)]=c0 at O0 ⊢;refine z7 (σ:=List Nat×List Nat) (fun st sl c=>∃x5 x6,sl=[some (wB b),some mk,some (nW s),some (.cel k3),some (.cel k4),x5,x6]/\Own ce c [(k4,C.lst (st.2.map nW)),(k3,C.dct (kvs st.1))]/\st.1.Nodup/\s∈st.1/\(∀x∈st.1,x<b.length)/\(∀x∈st.2,x∈st.1)/\st.2.length<=st.1.length/\(∀x∈st.1,Reach b (cW vl s) s x)/\∀x∈st.1,x∉st.2->∀y∈b.getD x [],cW vl s y->y∈st.1)
  (fun st=>st.2.length+2*(36-st.1.length)) ([s],[s]) ⟨_,_,rfl,O0,by simp,by simp,by simpa using hs,by simp,by simp,by simpa using Reach.refl,by simp⟩ (by show [s].length+2*(36-[s].length)<fu;simp;omega) ?_
 rintro⟨F,Wt⟩ sl c ⟨x5,x6,rfl,O,nd,hsF,lt,sub,hW,re,cl⟩;have g4:=O.g0;have g3:=O.g1;dsimp only at g4 g3 O nd hsF lt sub hW re cl;have hF36:F.length<=36:=le_trans (fY nd lt) h36;refine⟨!(Wt.map nW).isEmpty,by trivial,fun q=>?_,fun q=>?_⟩
 ·rcases eq_nil_or_concat Wt with rfl|⟨W0,p,hWt⟩
  ·simp at q
  ·rw[concat_eq_append] at hWt;subst hWt;have hpF:p∈F:=sub p (by simp);have hp:=lt p hpF;have pp:=DE (ys:=W0.map nW) (y:=nW p) g4 (by simp);have O1:=O.set0 (C.lst (W0.map nW));generalize c.set k4 (C.lst (W0.map nW))=c1 at O1 pp;unfold As;trivial;refine nv (zs:=b.getD p []) (en:=nW) (mV (by trivial)) (fun d sl c=>∃new x6,sl=[some (wB b),some mk,some (nW s),some (.cel k3),some (.cel k4),some (nW p),x6]/\Own ce c [(k4,C.lst ((W0++new).map nW)),(k3,C.dct (kvs (F++new)))]/\(F++new).Nodup/\(∀x∈new,x∈b.getD p []/\cW vl s x)/\∀x∈d,cW vl s x->x∈F++new)
    ⟨[],x6,rfl,by simpa using O1,by simpa using nd,by simp,by simp⟩ ?_ ?_
   ·rintro d y r sl c e hy ⟨new,x6,rfl,O,nd2,hnew,hd⟩;have g4:=O.g0;have g3:=O.g1;have gd:=sA g3;have hy':=hb.get hy;obtain⟨wx,wy,i1,i2,q1⟩:=hm c y s hy' hs;have lt2:∀x∈F++new,x<b.length:=fun x hx=>by
     rcases mem_append.mp hx with hx|hx
     ·exact lt x hx
     ·exact hb.get (hnew x hx).1
    have hl2:=fY nd2 lt2;have hk:(kvs (F++new)).length<sizeLine:=by rw[ur];omega
    have hw:((W0++new).map nW).length<sizeLine:=by rw[length_map,length_append];rw[length_append] at hl2;simp only[length_append,length_cons,length_nil] at hW;omega
    unfold Au;refine e8 (p:=!decide (y∈F++new)&&decide (vl y=vl s)) (ce':=c) (by trivial) (fun q=>?_) (fun q=>?_)
    ·simp only[and_eq_true,not_eq_true',decide_eq_false_iff_not,decide_eq_true_eq] at q;have O2:=O.set1 (C.dct (ip (kvs (F++new)) (.inl (y:Int)) (.bl true)));rw[tj _ _ q.1] at O2;have g4:=O2.g0;have e1:C.dct (kvs (F++new++[y]))=C.dct (ip (kvs (F++new)) (.inl (y:Int)) (.bl true)):=by rw[tj _ _ q.1]
     rw[e1] at g4;trivial;refine⟨new++[y],_,rfl,?_,?_,fun x hx=>?_,fun x hx o=>?_⟩
     ·have e2:(W0++(new++[y])).map nW=(W0++new).map nW++[nW y]:=by simp
      rw[<- e1,e2,<- append_assoc];exact O2.set0 _
     ·rw[<- append_assoc,nodup_append];exact⟨nd2,by simp,fun a ha c hc=>by rw[mem_singleton] at hc;subst hc;intro e;subst e;exact q.1 ha⟩
     ·rcases mem_append.mp hx with hx|hx
      ·exact hnew x hx
      ·rw[mem_singleton] at hx;subst hx;exact⟨hy,q.2⟩
     ·rw[<- append_assoc];rcases mem_append.mp hx with hx|hx
      ·exact mem_append_left _ (hd x hx o)
      ·rw[mem_singleton] at hx;subst hx;simp
    ·trivial;refine⟨new,_,rfl,O,nd2,hnew,fun x hx o=>?_⟩;rcases mem_append.mp hx with hx|hx
     ·exact hd x hx o
     ·rw[mem_singleton] at hx;subst hx;have o':vl x=vl s:=o;simp only[o',decide_true,Bool.and_true,not_eq_false',decide_eq_true_eq] at q;exact q
   ·rintro sl c ⟨new,x6,rfl,O,nd2,hnew,hd⟩;have lt2:∀x∈F++new,x<b.length:=fun x hx=>by
     rcases mem_append.mp hx with hx|hx
     ·exact lt x hx
     ·exact hb.get (hnew x hx).1
    have hl2:=fY nd2 lt2;simp only[length_append] at hl2;simp only[length_append,length_cons,length_nil] at hW;refine⟨(F++new,W0++new),?_,_,_,rfl,O,nd2,mem_append_left _ hsF,lt2,fun x hx=>?_,?_,fun x hx=>?_,fun x hx hn y hy o=>?_⟩
    ·show(W0++new).length+2*(36-(F++new).length)<(W0++[p]).length+2*(36-F.length);simp only[length_append,length_cons,length_nil];omega
    ·rcases mem_append.mp hx with hx|hx
     ·exact mem_append_left _ (sub x (by simp[hx]))
     ·exact mem_append_right _ hx
    ·show(W0++new).length<=(F++new).length;simp only[length_append];omega
    ·rcases mem_append.mp hx with hx|hx
     ·exact re x hx
     ·exact(re p hpF).step (hnew x hx).1 (hnew x hx).2
    ·rcases mem_append.mp hx with hx|hx
     ·by_cases hxp:x=p
      ·subst hxp;exact hd y hy o
      ·exact mem_append_left _ (cl x hx (fun q=>by rcases mem_append.mp q with q|q;exact hn (mem_append_left _ q);exact hxp (by simpa using q)) y hy o)
     ·exact absurd (mem_append_right _ hx) hn
 ·have hW0:Wt=[]:=by simpa using q
  subst hW0;have comp:Comp b (cW vl s) s F:=⟨nd,hsF,lt,fun x hx y hy o=>cl x hx (by simp) y hy o,re⟩
  trivial
  ·rw[yX g3 (by omega),lU (by rw[length_map,ql];omega)]
  ·rw[Fn comp];subst h3;exact(O.alloc _).finO (by simp only[e7];exact aK _ _)
theorem CY(fu:Nat)(hfu:200<=fu)(hm:Mk b mk vl)(hb:Bd b)(h36:b.length<=36)(hs:s<b.length):bR (d_aa fu) [wB b,mk,nW s] ce=some (.ok (wL (aJ b vl s)) ce) :=
 iI (Aw fu hfu hm hb h36 hs) (aK _ _)
end
section
variable {mk:W} {s:Nat}
theorem IP(fu:Nat)(hfu:200<=fu)(hm:Mk b mk vl)(hb:Bd b)(sym:Sym b)(h36:b.length<=36) :
  d_fa fu [wB b,mk] ce=some (.ok (.cel ce.length) (ce++[.lst ((i7 b vl).map wL)])):=by
 have hz:=fJ;unfold d_fa;refine dE [some (wB b),some mk,none,none,none,none,none] rfl ?_;trivial;have O0:=((Own.start ce).alloc (C.dct (kvs []))).alloc (C.lst []);refine(?_:Run _ _ ((ce++[C.dct (kvs [])])++[C.lst []]) _);generalize h3:(ce++[C.dct []]).length=k3;have h3':(ce++[C.dct (kvs [])]).length=k3:=h3;rw[h3'] at O0;generalize h2:ce.length=k2 at O0 ⊢;generalize (ce++[C.dct (kvs [])])++[C.lst []]=c0 at O0 ⊢;have hl':b.length<=1000:=by omega
 refine hJ (zs:=List.range b.length) (en:=nW) (kI (by trivial) hl')
  (fun d sl c=>∃S x4 x5 x6,sl=[some (wB b),some mk,some (.cel k2),some (.cel k3),x4,x5,x6]/\Own ce c [(k3,C.lst (((d.filter (eK b vl)).map (aJ b vl)).map wL)),(k2,C.dct (kvs S))]/\S.Nodup/\(∀x∈S,x<b.length)/\∀x,x∈S↔∃y∈d,x∈aJ b vl y)
  ⟨[],_,_,_,rfl,O0,by simp,by simp,by simp⟩ ?_ ?_
 ·rintro d p r sl c e hp ⟨S,x4,x5,x6,rfl,O,nd,lt,mem⟩;have hp':p<b.length:=mem_range.mp hp;have hd:=tM e;have g3:=O.g0;have g2:=O.g1;have key:p∈S↔¬eK b vl p=true:=by
   rw[mem];constructor
   ·rintro⟨y,hy,hpy⟩ hl;rw[hd] at hy;have hy':=mem_range.mp hy;unfold eK at hl;rw[all_eq_true] at hl;have:=of_decide_eq_true (hl y (yU hb sym (by omega) hpy));omega
   ·intro hl;unfold eK at hl;rw[all_eq_true] at hl;obtain⟨y,hy⟩:=Classical.not_forall.mp hl;obtain⟨hy,hn⟩:=Classical.not_imp.mp hy;have hn':¬p<=y:=fun q=>hn (decide_eq_true q);exact⟨y,by rw[hd];exact mem_range.mpr (by omega),yU hb sym hp' hy⟩
  unfold Am;have hdl:d.length<b.length:=by have:=congrArg List.length e;simp at this;omega
  have hm3:(((d.filter (eK b vl)).map (aJ b vl)).map wL).length<sizeLine:=by simp only[length_map];have:=length_filter_le (eK b vl) d;omega
  have e1:=fun c=>CY (ce:=c) fu hfu hm hb h36 hp';have e1c:=e1 c;trivial
  ·rename_i q;have q':p∉S:=by simpa using q
   have hl:eK b vl p=true:=Classical.byContradiction fun h=>q' (key.mpr h);have O1:=O.set0 (C.lst (((d.filter (eK b vl)).map (aJ b vl)).map wL++[wL (aJ b vl p)]));generalize c.set k3 (C.lst (((d.filter (eK b vl)).map (aJ b vl)).map wL++[wL (aJ b vl p)]))=c1 at O1 ⊢;have ef:((d++[p]).filter (eK b vl)).map (aJ b vl)=(d.filter (eK b vl)).map (aJ b vl)++[aJ b vl p]:=by rw[filter_append,filter_cons_of_pos hl];simp
   refine nv (zs:=aJ b vl p) (en:=nW) (ja (by trivial)) (fun d' sl c=>∃S' x6,sl=[some (wB b),some mk,some (.cel k2),some (.cel k3),some (nW p),some (wL (aJ b vl p)),x6]/\Own ce c [(k3,C.lst ((((d++[p]).filter (eK b vl)).map (aJ b vl)).map wL)),(k2,C.dct (kvs S'))]/\S'.Nodup/\(∀x∈S',x<b.length)/\∀x,x∈S'↔x∈S\/x∈d')
    ⟨S,x6,rfl,by rw[ef,map_append];exact O1,nd,lt,by simp⟩ ?_ ?_
   ·rintro d' y r' sl c e' hy ⟨S',x6,rfl,O,nd',lt',mem'⟩;have gd:=sA O.g1;have hS:=fY nd' lt';have hk:(kvs S').length<sizeLine:=by rw[ur];omega
    unfold An;trivial;refine⟨ins S' y,_,rfl,by rw[yO];exact O.set1 _,wW nd',fun x hx=>?_,fun x=>?_⟩
    ·rcases eO.mp hx with hx|rfl
     ·exact lt' x hx
     ·exact cb hy
    ·rw[eO,mem',mem_append,mem_singleton,or_assoc]
   ·rintro sl c ⟨S',x6,rfl,O,nd',lt',mem'⟩;refine⟨S',_,_,_,rfl,O,nd',lt',fun x=>?_⟩;rw[mem',mem];constructor
    ·rintro(⟨y,hy,h⟩|h)
     ·exact⟨y,mem_append_left _ hy,h⟩
     ·exact⟨p,by simp,h⟩
    ·rintro⟨y,hy,h⟩;rcases mem_append.mp hy with hy|hy
     ·exact .inl ⟨y,hy,h⟩
     ·rw[mem_singleton] at hy;subst hy;exact .inr h
  ·rename_i q;have q':p∈S:=by simpa using q
   have hl:¬eK b vl p=true:=key.mp q';refine⟨S,_,_,_,rfl,?_,nd,lt,fun x=>?_⟩
   ·rw[filter_append,filter_cons_of_neg hl,filter_nil,append_nil];exact O
   ·rw[mem];constructor
    ·rintro⟨y,hy,h⟩;exact⟨y,mem_append_left _ hy,h⟩
    ·rintro⟨y,hy,h⟩;rcases mem_append.mp hy with hy|hy
     ·exact⟨y,hy,h⟩
     ·rw[mem_singleton] at hy;subst hy;obtain⟨z,hz,hyz⟩:=(mem y).mp q';have hz':z<b.length:=by rw[hd] at hz;have:=mem_range.mp hz;omega
      exact⟨z,hz,by rw[<- jg hb sym hz' hyz];exact h⟩
 ·rintro sl c ⟨S,x4,x5,x6,rfl,O,nd,lt,mem⟩;trivial;subst h2;exact O.finO (by simp only[e7];exact p5 _ _)
theorem CW(fu:Nat)(hfu:200<=fu)(hm:Mk b mk vl)(hb:Bd b)(sym:Sym b)(h36:b.length<=36):bR (d_fa fu) [wB b,mk] ce=some (.ok (.lst ((i7 b vl).map wL)) ce) :=
 iI (IP fu hfu hm hb sym h36) (p5 _ _)
end
def gp(b:List (List Nat))(row:List Nat):List Nat:=(List.range b.length).filter fun y=>row.any fun p=>decide (y∈b.getD p [])
section
variable {b0:Ce} {row:List Nat}
theorem JY(fu:Nat)(hb:Bd b)(h36:b.length<=36)(hw:aZ ce w1 (row.map nW))(hr:∀p∈row,p<b.length) :
  d_f fu [wB b,w1] ce=some (.ok (.cel ce.length) (ce++[.lst ((gp b row).map nW)])):=by
 unfold d_f;have hz:=fJ;refine n_ ?_;simp only[map_cons,map_nil,cons_append,nil_append,length_cons,length_nil,List.replicate,Nat.reduceAdd,Nat.reduceSub];trivial;have O0:=(Own.start ce).alloc (C.dct []);obtain⟨s,hs,hsi,_⟩:=hw.src;have hst:∀{c1:Ce} {l:List (Nat×C)},Own ce c1 l->s.Stays c1:=by
  intro c1 l h;obtain⟨t,rfl⟩:=h.cut;cases hw with
  | fr=>simp only[gR] at hs;cases hs;exact True.intro
  | cl g =>
   simp only[gR,g] at hs;cases hs;show(ce++t)[_]?=_;rw[getElem?_append_left (List.getElem?_eq_some_iff.mp g).1];exact g
 have hs':∀{c1:Ce} {l:List (Nat×C)},Own ce c1 l->gR c1 w1=some s:=by
  intro c1 l h;obtain⟨t,rfl⟩:=h.cut;cases hw with
  | fr=>exact hs
  | cl g =>
   simp only[gR,g] at hs ⊢;rw[getElem?_append_left (List.getElem?_eq_some_iff.mp g).1,g];exact hs
 refine p7 (xs:=row) (en:=nW) (src:=s) (ce0:=ce++[C.dct []]) (by trivial;exact hs' O0) hsi
  (fun d sl c=>∃F x3 x4,sl=[some (wB b),some w1,some (.cel ce.length),x3,x4]/\Own ce c [(ce.length,C.dct (kvs F))]/\F.Nodup/\(∀x∈F,x<b.length)/\∀x,x∈F↔∃p∈d,x∈b.getD p [])
  ⟨[],none,none,rfl,O0,by simp,by simp,by simp⟩ ?_ (fun sl c h=>by obtain⟨_,_,_,_,O,_⟩:=h;exact hst O) ?_
 ·rintro d p r sl c e hp ⟨F,x3,x4,rfl,O,nd,lt,mem⟩;refine⟨hst O,?_⟩;have hp':=hr p hp;unfold Bc;refine nv (zs:=b.getD p []) (en:=nW) (mV (by trivial))
   (fun d' sl c=>∃F x4,sl=[some (wB b),some w1,some (.cel ce.length),some (nW p),x4]/\Own ce c [(ce.length,C.dct (kvs F))]/\F.Nodup/\(∀x∈F,x<b.length)/\∀x,x∈F↔(∃p∈d,x∈b.getD p [])\/x∈d')
   ⟨F,x4,rfl,O,nd,lt,by simpa using mem⟩ ?_ ?_
  ·rintro d' y r' sl c e' hy ⟨F,x4,rfl,O,nd,lt,mem⟩;unfold Be;have g:=sA O.g0;have hl:(kvs F).length<sizeLine:=by rw[ur];have:=fY nd lt;omega
   trivial;refine⟨ins F y,some (nW y),rfl,?_,wW nd,fun x hx=>?_,fun x=>?_⟩
   ·rw[yO];exact O.set0 _
   ·rcases eO.mp hx with hx|rfl
    ·exact lt x hx
    ·exact hb.get hy
   ·rw[eO,mem,mem_append,mem_singleton,or_assoc]
  ·rintro sl c ⟨F,x4,rfl,O,nd,lt,mem⟩;refine⟨F,some (nW p),x4,rfl,O,nd,lt,fun x=>?_⟩;rw[mem];constructor
   ·rintro(⟨q,hq,h⟩|h)
    ·exact⟨q,mem_append_left _ hq,h⟩
    ·exact⟨p,by simp,h⟩
   ·rintro⟨q,hq,h⟩;rcases mem_append.mp hq with hq|hq
    ·exact .inl ⟨q,hq,h⟩
    ·rw[mem_singleton] at hq;subst hq;exact .inr h
 ·rintro sl c ⟨F,x3,x4,rfl,O,nd,lt,mem⟩;have hl:=fY nd lt;have es:cG F=gp b row:=by rw[qm nd lt];unfold gp;apply filter_congr;intro x _;rw[Bool.eq_iff_iff];simp[mem]
  trivial
  ·rw[yX O.g0 (by omega),lU (by rw[es,length_map];unfold gp;have:=length_filter_le (fun y=>row.any fun p=>decide (y∈b.getD p [])) (List.range b.length);rw[length_range] at this;omega)]
  ·rw[es];exact((O.alloc _).finO (by simp only[e7];exact aK _ _))
end
def ck(b:List (List Nat))(is:List Int)(row:List Nat):List Nat:=(gp b row).filter fun p=>decide (is.getD p 0=0)
section
variable {row:List Nat} {is:List Int}
theorem Ak(h:y∈gp b row):y<b.length:=mem_range.mp (mem_filter.mp h).1
theorem Av:(gp b row).length<=b.length:=by have:=length_filter_le (fun y=>row.any fun p=>decide (y∈b.getD p [])) (List.range b.length);rw[length_range] at this;exact this
theorem CV(fu:Nat)(hb:Bd b)(h36:b.length<=36)(hw:aZ ce w1 (row.map nW))(hr:∀p∈row,p<b.length):bR (d_f fu) [wB b,w1] ce=some (.ok (wL (gp b row)) ce) :=
 iI (JY fu hb h36 hw hr) (aK _ _)
theorem Aj(fu:Nat)(hb:Bd b)(h36:b.length<=36)(hl:is.length=b.length)(hw:aZ ce w1 (row.map nW))(hr:∀p∈row,p<b.length) :
  d_da fu [wB b,wS is,w1] ce=some (.ok (.cel ce.length) (ce++[.lst ((ck b is row).map nW)])):=by
 unfold d_da;have hz:=fJ;have e1:=CV fu hb h36 hw hr;have h2:=Av (b:=b) (row:=row);refine dE [some (wB b),some (wS is),some w1] rfl ?_;refine bQ (vt (zs:=gp b row) (en:=nW) (t:=fun p=>decide (is.getD p 0=0)) (by trivial) (by omega) (fun p hp=>?_)) ?_
 ·have:=Ak hp;have hp':p<is.length:=by omega
  trivial
 ·exact(((Own.start ce).alloc _).finO (by simp only[e7];exact aK _ _))
end
open Classical in
def vT(T:List Nat):Nat->Int:=fun x=>if x∈T then 0 else 1
theorem vJ{x:Nat}(h:x∈T):vT T x=0:=if_pos h
theorem nS{s:Nat}(hs:s∈T):cW (vT T) s y↔y∈T:=by
 unfold cW;rw[vJ hs];constructor
 ·intro h
  by_cases hy:y∈T
  ·exact hy
  ·unfold vT at h;rw[if_neg hy] at h;omega
 ·exact vJ
def e_(is H:List Int):List Nat:=(List.range is.length).filter fun p=>decide (is.getD p 0∈H)
def jS(b:List (List Nat))(T:List Nat):List (List Nat):=(T.filter (eK b (vT T))).map (aJ b (vT T))
theorem CU{is H:List Int}{x:Nat}(h:x∈e_ is H):x<is.length:=mem_range.mp (mem_filter.mp h).1
theorem nr(is:List Int)(p q:Nat)(v:Int):(is.set p v).getD q 0=if p=q/\p<is.length then v else is.getD q 0:=by
 simp only[getD_eq_getElem?_getD,getElem?_set]
 by_cases h:p=q
 ·subst h
  by_cases h2:p<is.length
  ·simp[h2]
  ·simp[h2]
 ·simp[h]
abbrev vS(is:List Int):Nat->Int:=fun x=>is.getD x 0
abbrev vH(is:List Int)(h:Int):Nat->Int:=fun x=>if is.getD x 0=h then 1 else 0
theorem k7{ok ok':Nat->Prop}{s:Nat}(h:∀x y,Reach b ok s x->Reach b ok' s x->y∈b.getD x []->ok y->ok' y){x:Nat}(r:Reach b ok s x):Reach b ok' s x:=by
 induction r with
 | refl=>exact .refl
 | step r hy o ih=>exact ih.step hy (h _ _ r ih hy o)
open Classical in
theorem tK{vl':Nat->Int}{s:Nat}(e:∀y,Reach b (cW vl s) s y↔Reach b (cW vl' s) s y):aJ b vl s=aJ b vl' s:=by unfold aJ;apply filter_congr;intro y _;rw[Bool.eq_iff_iff,decide_eq_true_eq,decide_eq_true_eq];exact e y
theorem zk(hb:Bd b)(sym:Sym b){s t:Nat}(hs:s<b.length)(ht:t<b.length)(h1:q∈aJ b vl s)(h2:q∈aJ b vl t):aJ b vl s=aJ b vl t:=by rw[<- jg hb sym hs h1,<- jg hb sym ht h2]
def jW(b:List (List Nat))(is:List Int)(h:Int):Prop:=∀s,s<b.length->is.getD s 0=h->∃x y,Reach b (cW (vS is) s) s x/\y∈b.getD x []/\is.getD y 0=0
theorem lW{is:List Int}(hb:Bd b):y∈ck b is r↔(∃x∈r,y∈b.getD x [])/\is.getD y 0=0:=by
 unfold ck gp;rw[mem_filter,mem_filter,mem_range,any_eq_true,decide_eq_true_eq];constructor
 ·rintro⟨⟨_,x,hx,q⟩,h0⟩;exact⟨⟨x,hx,of_decide_eq_true q⟩,h0⟩
 ·rintro⟨⟨x,hx,q⟩,h0⟩;exact⟨⟨hb.get q,x,hx,decide_eq_true q⟩,h0⟩
theorem Fu(hb:Bd b):y∈gp b r↔∃x∈r,y∈b.getD x []:=by
 unfold gp;rw[mem_filter,mem_range,any_eq_true];constructor
 ·rintro⟨_,x,hx,q⟩;exact⟨x,hx,of_decide_eq_true q⟩
 ·rintro⟨x,hx,q⟩;exact⟨hb.get q,x,hx,decide_eq_true q⟩
theorem yd{is:List Int}(hb:Bd b):ck b is r=[]↔∀x∈r,∀y∈b.getD x [],is.getD y 0≠0:=by
 rw[eq_nil_iff_forall_not_mem];constructor
 ·intro h x hx y hy h0;exact h y ((lW hb).mpr ⟨⟨x,hx,hy⟩,h0⟩)
 ·intro h y hy;obtain⟨⟨x,hx,hy⟩,h0⟩:=(lW hb).mp hy;exact h x hx y hy h0
structure ll (b:List (List Nat)) (is:List Int) (h:Int) (d:List (List Nat)) (is':List Int) (D:List (List Nat)):Prop where
 len:is'.length=is.length
 sub:∀r∈D,r∈d
 zp:∀r∈D,∀q∈r,is'.getD q 0=0
 was:∀q,is'.getD q 0=is.getD q 0\/(is'.getD q 0=0/\∃r∈D,q∈r)
 fre:∀r∈d,r∈D\/∃x∈r,∃y∈b.getD x [],is'.getD y 0=0
 no:∀r∈D,∀x∈r,∀y∈b.getD x [],is.getD y 0≠0
theorem bS{is:List Int}{h:Int}:p∈e_ is [h]↔p<is.length/\is.getD p 0=h:=by unfold e_;rw[mem_filter,mem_range,decide_eq_true_eq,mem_singleton]
theorem pQ(hb:Bd b)(sym:Sym b)(hT:∀x∈T,x<b.length){s:Nat}(hs:s∈T):aJ b (vT T) s∈jS b T:=by obtain⟨m,h1,h2,h3⟩:=zZ (vl:=vT T) hb sym (hT s hs);have hm:m∈T:=(nS hs).mp (bY hb (hT s hs) h1);exact mem_map.mpr ⟨m,mem_filter.mpr ⟨hm,h2⟩,h3⟩
theorem pP{c:List Nat}(h:c∈jS b T):∃s∈T,c=aJ b (vT T) s:=by obtain⟨s,hs,rfl⟩:=mem_map.mp h;exact⟨s,(mem_filter.mp hs).1,rfl⟩
theorem oH{is:List Int}(hb:Bd b)(hl:is.length=b.length){s:Nat}(hs:s<b.length):aJ b (vT (e_ is [is.getD s 0])) s=aJ b (vS is) s:=by
 have hT:s∈e_ is [is.getD s 0]:=bS.mpr ⟨by omega,rfl⟩;refine tK fun y=>⟨fun r=>k7 (fun x y _ _ _ o=>?_) r,fun r=>k7 (fun x y _ _ hy o=>?_) r⟩
 ·exact(bS.mp ((nS hT).mp o)).2
 ·exact(nS hT).mpr (bS.mpr ⟨by rw[hl];exact hb.get hy,o⟩)
section
variable {is is':List Int} {h:Int} {D:List (List Nat)}
theorem ll.hand{d:List (List Nat)}(S:ll b is h d is' D)(hb:Bd b)(hl:is.length=b.length)(hd:∀r∈d,r∈jS b (e_ is [h]))(hr:r∈D)(hq:q∈r):is.getD q 0=h/\r=aJ b (vS is) q\/¬Sym b:=by
 by_cases sym:Sym b
 ·left;obtain⟨s,hs,rfl⟩:=pP (hd r (S.sub r hr));have hs':=bS.mp hs;have hsb:s<b.length:=by omega
  have e:=hs'.2;subst e;rw[oH hb hl hsb] at hq ⊢;exact⟨bY hb hsb hq,(jg hb sym hsb hq).symm⟩
 ·exact .inr sym
theorem ll.hand'{d:List (List Nat)}(S:ll b is h d is' D)(hb:Bd b)(sym:Sym b)(hl:is.length=b.length)(hd:∀r∈d,r∈jS b (e_ is [h]))(hr:r∈D)(hq:q∈r):is.getD q 0=h/\r=aJ b (vS is) q:=(S.hand hb hl hd hr hq).resolve_right (fun n=>n sym)
theorem ll.snd(S:ll b is h (jS b (e_ is [h])) is' D)(hb:Bd b)(sym:Sym b)(hl:is.length=b.length)(h0:h≠0):jW b is' h:=by
 intro s hs e;have es:is.getD s 0=h:=by
  rcases S.was s with q|q
  ·rw[<- q];exact e
  ·exact absurd (e.symm.trans q.1) h0
 have hr:aJ b (vS is) s∈jS b (e_ is [h]):=by have:=pQ (T:=e_ is [is.getD s 0]) hb sym (fun x hx=>by have:=(bS.mp hx).1;omega) (bS.mpr ⟨by omega,rfl⟩:s∈_);rwa [oH hb hl hs,es] at this
 have nD:aJ b (vS is) s∉D:=fun hD=>h0 (by rw[<- e];exact S.zp _ hD s (lY hb hs));rcases S.fre _ hr with q|⟨x,hx,y,hy,hy0⟩
 ·exact absurd q nD
 ·refine⟨x,y,?_,hy,hy0⟩;refine k7 (fun u z ru _ hz oz=>?_) ((iZ hb hs).mp hx);have hzr:z∈aJ b (vS is) s:=(iZ hb hs).mpr (ru.step hz oz);show is'.getD z 0=is'.getD s 0;rw[e];rcases S.was z with q|⟨_,r,hrD,hzr2⟩
  ·rw[q];exact oz.trans es
  ·obtain⟨_,er⟩:=S.hand' hb sym hl (fun r hr=>hr) hrD hzr2;rw[er,jg hb sym hs hzr] at hrD;exact absurd hrD nD
structure Lv (b:List (List Nat)) (is:List Int) (h:Int) (R C:List (List Nat)):Prop where
 row:∀r∈R,∃s,s<b.length/\is.getD s 0=h/\r=aJ b (vS is) s
 cl:∀c∈C,∃s,s<b.length/\is.getD s 0≠h/\c=aJ b (vH is h) s
 firm:∀r∈R,∃c1∈C,∃c2∈C,c1≠c2/\(∀p∈c1,is.getD p 0=0->p∈ck b is r)/\∀p∈c2,is.getD p 0=0->p∈ck b is r
 wall:∀c∈C,∀x∈c,∀y∈b.getD x [],is.getD y 0=h->∃r∈R,y∈r
structure bH (b:List (List Nat)) (is:List Int) (h o:Int) (p:Nat) (is':List Int) (D:List (List Nat)):Prop where
 hl:is.length=b.length
 hp:p<b.length
 p0:is.getD p 0=0
 sw:ll b (is.set p o) h (jS b (e_ (is.set p o) [h])) is' D
 br:∃x y,Reach b (cW (vS is') p) p x/\y∈b.getD x []/\is'.getD y 0=0
structure eZ (h o:Int):Prop where
 h0:h≠0
 o0:o≠0
 ho:o≠h
theorem bH.set1(L:bH b is h o p is' D)(q:Nat):(is.set p o).getD q 0=if q=p then o else is.getD q 0:=by
 rw[nr]
 by_cases e:q=p
 ·subst e;rw[if_pos ⟨rfl,by rw[L.hl];exact L.hp⟩,if_pos rfl]
 ·rw[if_neg (fun x=>e x.1.symm),if_neg e]
theorem bH.val(L:bH b is h o p is' D)(hb:Bd b)(sym:Sym b)(H:eZ h o)(q:Nat):is'.getD q 0=(if q=p then o else is.getD q 0)\/(is'.getD q 0=0/\is.getD q 0=h/\q≠p/\∃r∈D,q∈r):=by
 rcases L.sw.was q with e|⟨e,r,hr,hq⟩
 ·left;rw[e,L.set1]
 ·obtain⟨e1,_⟩:=L.sw.hand' hb sym (by rw[length_set];exact L.hl) (fun r hr=>hr) hr hq;rw[L.set1] at e1
  by_cases hqp:q=p
  ·rw[if_pos hqp] at e1;exact absurd e1 H.ho
  ·rw[if_neg hqp] at e1;exact .inr ⟨e,e1,hqp,r,hr,hq⟩
theorem bH.isO(L:bH b is h o p is' D)(hb:Bd b)(sym:Sym b)(H:eZ h o)(e:is.getD q 0=o):is'.getD q 0=o:=by
 rcases L.val hb sym H q with v|v
 ·rw[v];split
  ·rfl
  ·exact e
 ·exact absurd (e.symm.trans v.2.1) H.ho
theorem bH.isP(L:bH b is h o p is' D)(hb:Bd b)(sym:Sym b)(H:eZ h o):is'.getD p 0=o:=by
 rcases L.val hb sym H p with v|v
 ·rw[v,if_pos rfl]
 ·exact absurd rfl v.2.2.1
theorem bH.is0(L:bH b is h o p is' D)(hb:Bd b)(sym:Sym b)(H:eZ h o)(e:is.getD q 0=0)(hq:q≠p):is'.getD q 0=0:=by
 rcases L.val hb sym H q with v|v
 ·rw[v,if_neg hq];exact e
 ·exact v.1
theorem bH.snd(L:bH b is h o p is' D)(hb:Bd b)(sym:Sym b)(H:eZ h o)(N:jW b is o):jW b is' o:=by
 intro s hs e;have eP:=L.isP hb sym H
 by_cases hsp:Reach b (cW (vS is') s) s p
 ·obtain⟨x,y,r,hy,h0⟩:=L.br;refine⟨x,y,hsp.trans ?_,hy,h0⟩;have:cW (vS is') s=cW (vS is') p:=wV (vl:=vS is') (x:=s) (s:=p) (e.trans eP.symm);rw[this];exact r
 ·have hne:s≠p:=fun q=>hsp (by subst q;exact .refl);have es:is.getD s 0=o:=by
   rcases L.val hb sym H s with v|v
   ·rw[if_neg hne] at v;exact v.symm.trans e
   ·exact absurd (e.symm.trans v.1) H.o0
  obtain⟨x,y,r,hy,h0⟩:=N s hs es;have r':Reach b (cW (vS is') s) s x:=k7 (fun u z _ _ _ oz=>by
   show is'.getD z 0=is'.getD s 0;rw[e];exact L.isO hb sym H (oz.trans es)) r
  refine⟨x,y,r',hy,L.is0 hb sym H h0 fun q=>hsp ?_⟩;subst q;exact r'.step hy (eP.trans e.symm)
end
theorem Ju{t:Nat->Bool}{x:Nat}:x∈(List.range n).filter t↔x<n/\t x=true:=by rw[mem_filter,mem_range]
def lD(b:List (List Nat))(is:List Int)(o:Int)(p:Nat):List (List Nat):=(jS b (e_ (is.set p o) [3-o])).filter fun r=>decide (ck b (is.set p o) r=[])
def lT(b:List (List Nat))(is:List Int)(o:Int)(p:Nat):List Nat:=(List.range b.length).filter fun q=>(lD b is o p).any fun r=>decide (q∈r)
def lS(b:List (List Nat))(is:List Int)(o:Int)(p:Nat):List Int:=(List.range is.length).map fun q=>if q=p then o else if q∈lT b is o p then 0 else is.getD q 0
structure bU (b:List (List Nat)) (is:List Int) (o:Int) (p:Nat):Prop where
 bd:Bd b
 sym:Sym b
 hl:is.length=b.length
 hp:p<b.length
 p0:is.getD p 0=0
 H:eZ (3-o) o
 v:∀q,q<b.length->is.getD q 0=0\/is.getD q 0=3-o\/is.getD q 0=o
 nh:jW b is (3-o)
 no:jW b is o
section
variable {is:List Int}
theorem iX:(lS b is o p).length=is.length:=by simp[lS]
theorem bU.s1(A:bU b is o p)(q:Nat):(is.set p o).getD q 0=if q=p then o else is.getD q 0:=by
 rw[nr]
 by_cases e:q=p
 ·subst e;rw[if_pos ⟨rfl,by rw[A.hl];exact A.hp⟩,if_pos rfl]
 ·rw[if_neg (fun x=>e x.1.symm),if_neg e]
theorem bU.l1(A:bU b is o p):(is.set p o).length=b.length:=by rw[length_set];exact A.hl
theorem bU.get(A:bU b is o p)(hq:q<b.length):(lS b is o p).getD q 0=if q=p then o else if q∈lT b is o p then 0 else is.getD q 0:=by unfold lS;rw[getD_eq_getElem?_getD,getElem?_map,getElem?_range (by rw[A.hl];exact hq)];rfl
theorem bU.far(A:bU b is o p)(hq:¬q<b.length):(lS b is o p).getD q 0=0/\is.getD q 0=0:=by
 have h1:=A.hl;constructor
 ·rw[getD_eq_getElem?_getD,getElem?_eq_none (by rw[iX];omega)];rfl
 ·rw[getD_eq_getElem?_getD,getElem?_eq_none (by omega)];rfl
theorem bU.dead(A:bU b is o p):r∈lD b is o p↔∃s,s<b.length/\is.getD s 0=3-o/\r=aJ b (vS is) s/\∀x∈r,∀y∈b.getD x [],is.getD y 0=0->y=p:=by
 have hT:∀{s},s∈e_ (is.set p o) [3-o]↔s<b.length/\is.getD s 0=3-o:=fun {s}=>by
  rw[bS,A.l1,A.s1];constructor
  ·rintro⟨h1,h2⟩
   by_cases e:s=p
   ·rw[if_pos e] at h2;exact absurd h2 A.H.ho
   ·rw[if_neg e] at h2;exact⟨h1,h2⟩
  ·rintro⟨h1,h2⟩;have e:s≠p:=fun e=>by subst e;exact A.H.h0 (h2.symm.trans A.p0)
   exact⟨h1,by rw[if_neg e];exact h2⟩
 have hc:∀{s},s<b.length->is.getD s 0=3-o->aJ b (vT (e_ (is.set p o) [3-o])) s=aJ b (vS is) s:=fun {s} hs es=>by
  have hsT:=hT.mpr ⟨hs,es⟩;refine tK fun y=>⟨fun r=>k7 (fun u z _ _ hz oz=>?_) r,fun r=>k7 (fun u z _ _ hz oz=>?_) r⟩
  ·exact(hT.mp ((nS hsT).mp oz)).2.trans es.symm
  ·exact(nS hsT).mpr (hT.mpr ⟨A.bd.get hz,Eq.trans oz es⟩)
 have hb1:∀{r:List Nat},ck b (is.set p o) r=[]↔∀x∈r,∀y∈b.getD x [],is.getD y 0=0->y=p:=fun {r}=>by
  rw[yd A.bd];constructor
  ·intro h x hx y hy y0;apply Classical.byContradiction;intro hne;exact h x hx y hy (by rw[A.s1,if_neg hne];exact y0)
  ·intro h x hx y hy;rw[A.s1]
   by_cases e:y=p
   ·rw[if_pos e];exact A.H.o0
   ·rw[if_neg e];exact fun y0=>e (h x hx y hy y0)
 unfold lD;rw[mem_filter,decide_eq_true_eq,hb1];constructor
 ·rintro⟨h1,h2⟩;obtain⟨s,hs,rfl⟩:=pP h1;obtain⟨q1,q2⟩:=hT.mp hs;rw[hc q1 q2] at h2 ⊢;exact⟨s,q1,q2,rfl,h2⟩
 ·rintro⟨s,q1,q2,rfl,h2⟩;refine⟨?_,h2⟩;have:=pQ (T:=e_ (is.set p o) [3-o]) A.bd A.sym (fun x hx=>(hT.mp hx).1) (hT.mpr ⟨q1,q2⟩);rwa [hc q1 q2] at this
theorem bU.tk(A:bU b is o p):q∈lT b is o p↔∃r∈lD b is o p,q∈r:=by
 unfold lT;rw[Ju,any_eq_true];constructor
 ·rintro⟨_,r,hr,hq⟩;exact⟨r,hr,of_decide_eq_true hq⟩
 ·rintro⟨r,hr,hq⟩;obtain⟨s,hs,_,rfl,_⟩:=A.dead.mp hr;exact⟨cb hq,_,hr,decide_eq_true hq⟩
theorem bU.tkh(A:bU b is o p)(h:q∈lT b is o p):q<b.length/\is.getD q 0=3-o/\q≠p:=by obtain⟨r,hr,hq⟩:=A.tk.mp h;obtain⟨s,hs,es,rfl,_⟩:=A.dead.mp hr;have e:is.getD q 0=3-o:=(bY A.bd hs hq).trans es;exact⟨cb hq,e,fun e'=>by subst e';exact A.H.h0 (e.symm.trans A.p0)⟩
theorem bU.near(A:bU b is o p):q∈lT b is o p↔∃y∈b.getD p [],is.getD y 0=3-o/\(ck b is (aJ b (vS is) y)).erase p=[]/\q∈aJ b (vS is) y:=by
 have nd:∀r,(ck b is r).Nodup:=fun r=>List.Pairwise.filter _ (List.Pairwise.filter _ nodup_range);have er:∀y,y<b.length->((ck b is (aJ b (vS is) y)).erase p=[]↔∀x∈aJ b (vS is) y,∀z∈b.getD x [],is.getD z 0=0->z=p):=fun y hy=>by
  rw[eq_nil_iff_forall_not_mem];constructor
  ·intro h x hx z hz z0;apply Classical.byContradiction;intro hne;exact h z (((nd _).mem_erase_iff).mpr ⟨hne,(lW A.bd).mpr ⟨⟨x,hx,hz⟩,z0⟩⟩)
  ·intro h z hz;obtain⟨h1,h2⟩:=((nd _).mem_erase_iff).mp hz;obtain⟨⟨x,hx,hz⟩,z0⟩:=(lW A.bd).mp h2;exact h1 (h x hx z hz z0)
 rw[A.tk];constructor
 ·rintro⟨r,hr,hq⟩;obtain⟨s,hs,es,rfl,hd⟩:=A.dead.mp hr;obtain⟨u,w,ru,hw,w0⟩:=A.nh s hs es;have hu:u∈aJ b (vS is) s:=(iZ A.bd hs).mpr ru;have e:=hd u hu w hw w0;subst e;have hub:=cb hu;refine⟨u,A.sym _ _ hw,(bY A.bd hs hu).trans es,?_,?_⟩
  ·rw[er u hub,jg A.bd A.sym hs hu];exact hd
  ·rw[jg A.bd A.sym hs hu];exact hq
 ·rintro⟨y,hy,ey,h1,hq⟩;have hyb:=A.bd.get hy;exact⟨_,A.dead.mpr ⟨y,hyb,ey,rfl,(er y hyb).mp h1⟩,hq⟩
theorem bU.swp(A:bU b is o p):ll b (is.set p o) (3-o) (jS b (e_ (is.set p o) [3-o])) (lS b is o p) (lD b is o p):=by
 have low:∀y,(is.set p o).getD y 0=0->(lS b is o p).getD y 0=0:=fun y h0=>by
  by_cases hy:y<b.length
  ·rw[A.s1] at h0;rw[A.get hy]
   by_cases e:y=p
   ·rw[if_pos e] at h0;exact absurd h0 A.H.o0
   ·rw[if_neg e] at h0 ⊢;split
    ·rfl
    ·exact h0
  ·exact(A.far hy).1
 refine⟨by rw[iX,length_set],fun r hr=>(mem_filter.mp hr).1,fun r hr q hq=>?_,fun q=>?_,fun r hr=>?_,fun r hr=>?_⟩
 ·have ht:=A.tk.mpr ⟨r,hr,hq⟩;obtain⟨h1,_,h3⟩:=A.tkh ht;rw[A.get h1,if_neg h3,if_pos ht]
 ·by_cases hq:q<b.length
  ·rw[A.get hq,A.s1]
   by_cases e:q=p
   ·rw[if_pos e,if_pos e];exact .inl rfl
   ·rw[if_neg e,if_neg e]
    by_cases ht:q∈lT b is o p
    ·rw[if_pos ht];exact .inr ⟨rfl,A.tk.mp ht⟩
    ·rw[if_neg ht];exact .inl rfl
  ·left;rw[(A.far hq).1,A.s1,if_neg (fun e=>hq (by rw[e];exact A.hp)),(A.far hq).2]
 ·by_cases e:ck b (is.set p o) r=[]
  ·exact .inl (mem_filter.mpr ⟨hr,decide_eq_true e⟩)
  ·obtain⟨y,hy⟩:=exists_mem_of_ne_nil _ e;obtain⟨⟨x,hx,hy⟩,h0⟩:=(lW A.bd).mp hy;exact .inr ⟨x,hx,y,hy,low y h0⟩
 ·exact(yd A.bd).mp (of_decide_eq_true (mem_filter.mp hr).2)
def ik(b:List (List Nat))(is:List Int)(o:Int)(p:Nat):Prop:=ck b (lS b is o p) (aJ b (vS (lS b is o p)) p)≠[]
theorem bU.laid(A:bU b is o p)(h:ik b is o p):bH b is (3-o) o p (lS b is o p) (lD b is o p):=by refine⟨A.hl,A.hp,A.p0,A.swp,?_⟩;obtain⟨y,hy⟩:=exists_mem_of_ne_nil _ h;obtain⟨⟨x,hx,hy⟩,h0⟩:=(lW A.bd).mp hy;exact⟨x,y,(iZ A.bd A.hp).mp hx,hy,h0⟩
theorem bU.atP(A:bU b is o p):(lS b is o p).getD p 0=o:=by rw[A.get A.hp,if_pos rfl]
theorem bU.snd(A:bU b is o p)(h:ik b is o p):jW b (lS b is o p) o/\jW b (lS b is o p) (3-o) :=
 ⟨(A.laid h).snd A.bd A.sym A.H A.no,A.swp.snd A.bd A.sym A.l1 A.H.h0⟩
theorem bU.vals(A:bU b is o p):∀q,q<b.length->(lS b is o p).getD q 0=0\/(lS b is o p).getD q 0=3-o\/(lS b is o p).getD q 0=o:=fun q hq=>by
 rw[A.get hq];split
 ·exact .inr (.inr rfl)
 ·split
  ·exact .inl rfl
  ·exact A.v q hq
end
structure aL (b:List (List Nat)) (is:List Int) (o:Int):Prop where
 bd:Bd b
 sym:Sym b
 hl:is.length=b.length
 H:eZ (3-o) o
 v:∀q,q<b.length->is.getD q 0=0\/is.getD q 0=3-o\/is.getD q 0=o
 nh:jW b is (3-o)
 no:jW b is o
section
variable {is:List Int}
theorem aL.ly(P:aL b is o)(hp:p<b.length)(p0:is.getD p 0=0):bU b is o p:=⟨P.bd,P.sym,P.hl,hp,p0,P.H,P.v,P.nh,P.no⟩
theorem aL.next(P:aL b is o)(A:bU b is o p)(f:ik b is o p):aL b (lS b is o p) o :=
 ⟨P.bd,P.sym,by rw[iX];exact P.hl,P.H,A.vals,(A.snd f).2,(A.snd f).1⟩
inductive Way (b:List (List Nat)) (o:Int):List Int->List Int->Prop where
 | refl {is:List Int}:Way b o is is
 | step {is is':List Int} {p:Nat} (A:bU b is o p) (f:ik b is o p) (w:Way b o (lS b is o p) is'):Way b o is is'
theorem bU.hOf(A:bU b is o p)(e:(lS b is o p).getD z 0=3-o):is.getD z 0=3-o/\z∉lT b is o p/\z<b.length:=by
 by_cases hz:z<b.length
 ·rw[A.get hz] at e
  by_cases h1:z=p
  ·rw[if_pos h1] at e;exact absurd e A.H.ho
  ·rw[if_neg h1] at e
   by_cases h2:z∈lT b is o p
   ·rw[if_pos h2] at e;exact absurd e.symm A.H.h0
   ·rw[if_neg h2] at e;exact⟨e,h2,hz⟩
 ·exact absurd ((A.far hz).1.symm.trans e).symm A.H.h0
theorem bU.old(A:bU b is o p)(hp:z≠p)(ht:z∉lT b is o p):(lS b is o p).getD z 0=is.getD z 0:=by
 by_cases hz:z<b.length
 ·rw[A.get hz,if_neg hp,if_neg ht]
 ·rw[(A.far hz).1,(A.far hz).2]
theorem bU.whole(A:bU b is o p)(hz:z<b.length)(hy:y∈aJ b (vS is) z)(ht:y∈lT b is o p):z∈lT b is o p:=by obtain⟨r,hr,hyr⟩:=A.tk.mp ht;obtain⟨s,hs,es,rfl,hd⟩:=A.dead.mp hr;have e:aJ b (vS is) z=aJ b (vS is) s:=zk A.bd A.sym hz hs hy hyr;exact A.tk.mpr ⟨_,hr,by rw[<- e];exact lY A.bd hz⟩
theorem bU.row(A:bU b is o p)(e:(lS b is o p).getD z 0=3-o)(hy:y∈aJ b (vS is) z):(lS b is o p).getD y 0=3-o:=by obtain⟨e1,h2,hz⟩:=A.hOf e;have ey:is.getD y 0=3-o:=(bY A.bd hz hy).trans e1;rw[A.old (fun q=>by subst q;exact A.H.h0 (ey.symm.trans A.p0)) (fun q=>h2 (A.whole hz hy q))];exact ey
theorem bU.rowEq(A:bU b is o p)(e:(lS b is o p).getD z 0=3-o):aJ b (vS (lS b is o p)) z=aJ b (vS is) z:=by
 obtain⟨e1,h2,hz⟩:=A.hOf e;refine tK fun y=>⟨fun r=>k7 (fun u w _ _ _ ow=>?_) r,fun r=>k7 (fun u w ru _ hw ow=>?_) r⟩
 ·exact(A.hOf (Eq.trans ow e)).1.trans e1.symm
 ·exact(A.row e ((iZ A.bd hz).mpr (ru.step hw ow))).trans e.symm
structure u4 (b:List (List Nat)) (o:Int) (q:Nat) (i0 is:List Int):Prop where
 hs:∀z,is.getD z 0=3-o->i0.getD z 0=3-o
 row:∀z,is.getD z 0=3-o->∀y∈aJ b (vS i0) z,is.getD y 0=3-o
 chg:∀z,is.getD z 0≠i0.getD z 0->is.getD z 0≠3-o/\∃u∈aJ b (vS i0) q,∃w∈b.getD u [],is.getD w 0≠3-o/\Reach b (cW (vH is (3-o)) z) z w
theorem bU.tk0(A:bU b is o p)(ht:z∈lT b is o p):(lS b is o p).getD z 0=0:=by obtain⟨h1,_,h3⟩:=A.tkh ht;rw[A.get h1,if_neg h3,if_pos ht]
structure Lx (b:List (List Nat)) (o:Int) (q:Nat) (i0 is:List Int):Prop where
 q0:is.getD q 0=0
 hs:∀z,is.getD z 0=3-o->i0.getD z 0=3-o
 row:∀z,is.getD z 0=3-o->∀y∈aJ b (vS i0) z,is.getD y 0=3-o
 chg:∀z,is.getD z 0≠i0.getD z 0->is.getD z 0≠3-o/\Reach b (cW (vH is (3-o)) z) z q
theorem bU.brsL(A:bU b is o p)(hq:(lS b is o p).getD q 0=3-o):ck b (lS b is o p) (aJ b (vS (lS b is o p)) q)=(ck b is (aJ b (vS is) q)).filter fun y=>!decide (y=p):=by
 rw[A.rowEq hq];unfold ck;rw[filter_filter];apply filter_congr;intro y hy;obtain⟨hq1,hqt,hqb⟩:=A.hOf hq;obtain⟨x,hx,hyx⟩:=(Fu A.bd).mp hy;rw[Bool.eq_iff_iff];simp only[decide_eq_true_eq,and_eq_true,not_eq_true',decide_eq_false_iff_not];have nt:y∉lT b is o p:=fun ht=>by
  have ey:=(A.tkh ht).2.1;have:y∈aJ b (vS is) q:=(iZ A.bd hqb).mpr (((iZ A.bd hqb).mp hx).step hyx (ey.trans hq1.symm));exact hqt (A.whole hqb this ht)
 constructor
 ·intro h;have hyp:y≠p:=fun e=>by rw[e,A.atP] at h;exact A.H.o0 h
  rw[A.old hyp nt] at h;exact⟨hyp,h⟩
 ·rintro⟨hyp,h⟩;rw[A.old hyp nt];exact h
end
section
variable {is:List Int}
theorem CT(hb:Bd b):(i7 b vl).Nodup:=by unfold i7;refine List.Pairwise.map _ ?_ (List.Pairwise.and_mem.mp (List.Pairwise.filter _ nodup_range));rintro s t ⟨hs,ht,hne⟩ e;obtain⟨s1,s2⟩:=mem_filter.mp hs;obtain⟨t1,t2⟩:=mem_filter.mp ht;have a:=qk (vl:=vl) hb (mem_range.mp s1) s2;rw[e,qk hb (mem_range.mp t1) t2] at a;exact hne a.symm
theorem yc(hb:Bd b){c:List Nat}(h:c∈i7 b vl):0<c.length/\c.length<=b.length/\∀p∈c,p<b.length:=by obtain⟨s,hs,_,rfl⟩:=(ox hb).mp h;exact⟨length_pos_of_mem (lY hb hs),Fo,fun p hp=>cb hp⟩
theorem yb{c:List Nat}(h0:0<c.length)(h:∀p∈c,p<n):c.getD 0 0<n:=by rw[getD_eq_getElem?_getD,getElem?_eq_getElem h0];exact h _ (getElem_mem h0)
theorem wI{c:List Nat}(h0:0<c.length):aE ce (wL c) (.int 0)=some (nW (c.getD 0 0)):=sJ (p:=0) h0
def je(b:List (List Nat))(is:List Int):List (List Nat):=(i7 b (vS is)).filter fun c=>!decide (is.getD (c.getD 0 0) 0=0)
theorem Ft(fu:Nat)(hfu:200<=fu)(B:de b)(hl:is.length=b.length):d_ka fu [wB b,wS is] ce=some (.ok (.lst ((je b is).map wL)) ce):=by
 have hz:=fJ;have h36:=B.h36;have e1:=CW (ce:=ce) fu hfu (vk hl) B.bd B.sym h36;have hzl:(i7 b (vS is)).length<=sizeLine:=by have:=Fm (b:=b) (vl:=vS is);omega
 unfold d_ka;refine dE [some (wB b),some (wS is)] rfl ?_;refine bQ (o6 (zs:=i7 b (vS is)) (en:=wL) (t:=fun c=>!decide (is.getD (c.getD 0 0) 0=0)) (lJ (bE (ws:=[wB b,wS is]) (by trivial) rfl e1) (.fr _)) hzl (fun c hc=>?_)) ?_
 ·obtain⟨p0,_,p2⟩:=yc B.bd hc;have hh:c.getD 0 0<is.length:=by rw[hl];exact yb p0 p2
  have i1:=wI (ce:=ce) p0;have i2:=fV (ce:=ce) hh;trivial
 ·exact fD (by simp only[bc];exact p5 _ _)
end
section
variable {is:List Int}
theorem vI(fu:Nat)(B:de b)(hl:is.length=b.length)(hr:∀p∈r,p<b.length):bR (d_da fu) [wB b,wS is,wL r] ce=some (.ok (wL (ck b is r)) ce):=iI (Aj fu B.bd B.h36 hl (.fr _) hr) (aK _ _)
end
theorem zM{x y:List Int}(hl:x.length=y.length)(h:∀i,i<x.length->x.getD i 0=y.getD i 0):x=y:=by apply ext_getElem hl;intro i h1 h2;have:=h i h1;rw[getD_eq_getElem?_getD,getD_eq_getElem?_getD,getElem?_eq_getElem h1,getElem?_eq_getElem h2] at this;exact this
section
variable {is:List Int}
theorem zj(fu:Nat)(h:Int):d_r fu [.int h] ce=some (.ok (.int (3-h)) ce):=by unfold d_r;refine dE [some (.int h)] rfl ?_;refine bQ (w:=.int (3-h)) (ce':=ce) (by trivial) (fD (by simp only[bc]))
theorem IM(fu:Nat){v:Int}(hw:aZ ce w1 (pts.map nW))(hl:is.length<=36)(hp:∀q∈pts,q<is.length):∃is',d_ga fu [wS is,w1,.int v] ce=some (.ok (wS is') ce)/\is'.length=is.length/\(∀q∈pts,is'.getD q 0=v)/\∀q,q∉pts->is'.getD q 0=is.getD q 0:=by
 have hz:=fJ
 suffices hs:∃w c',d_ga fu [wS is,w1,.int v] ce=some (.ok w c')/\∃is',w=wS is'/\c'=ce/\is'.length=is.length/\(∀q∈pts,is'.getD q 0=v)/\∀q,q∉pts->is'.getD q 0=is.getD q 0 by
  obtain⟨w,c',e,is',rfl,rfl,h⟩:=hs;exact⟨is',e,h⟩
 obtain⟨s,hs,hsi,_⟩:=hw.src;have hst:∀{c1:Ce} {l:List (Nat×C)},Own ce c1 l->s.Stays c1:=by
  intro c1 l h;obtain⟨t,rfl⟩:=h.cut;cases hw with
  | fr=>simp only[gR] at hs;cases hs;exact True.intro
  | cl g =>
   simp only[gR,g] at hs;cases hs;show(ce++t)[_]?=_;rw[getElem?_append_left (List.getElem?_eq_some_iff.mp g).1];exact g
 have hs':∀{c1:Ce} {l:List (Nat×C)},Own ce c1 l->gR c1 w1=some s:=by
  intro c1 l h;obtain⟨t,rfl⟩:=h.cut;cases hw with
  | fr=>exact hs
  | cl g =>
   simp only[gR,g] at hs ⊢;rw[getElem?_append_left (List.getElem?_eq_some_iff.mp g).1,g];exact hs
 unfold d_ga;refine jE [some (wS is),some w1,some (.int v),none,none] rfl ?_;refine bL (w:=.cel ce.length) (ce':=ce++[.lst (is.map W.int)]) (bX (ao (by trivial) aw) (by rw[yN (xs:=is.map W.int) rfl,lU (by rw[length_map];omega)])) ?_;refine ba ?_;have O0:=(Own.start ce).alloc (C.lst (is.map W.int));generalize hk:ce.length=k3 at O0 ⊢;generalize ce++[C.lst (is.map W.int)]=c0 at O0 ⊢;refine p7 (xs:=pts) (en:=nW) (src:=s) (ce0:=c0) (pH (ah rfl) (hs' O0)) hsi
  (fun d sl c=>∃is' x4,sl=[some (wS is),some w1,some (.int v),some (.cel k3),x4]/\Own ce c [(k3,C.lst (is'.map W.int))]/\is'.length=is.length/\(∀q∈d,is'.getD q 0=v)/\∀q,q∉d->is'.getD q 0=is.getD q 0)
  ⟨is,_,rfl,O0,rfl,by simp,fun _ _=>rfl⟩ ?_ (fun sl c h=>by obtain⟨_,_,_,O,_⟩:=h;exact hst O) ?_
 ·rintro d u r sl c e hu ⟨is',x4,rfl,O,l',z1,z2⟩;refine⟨hst O,?_⟩;have hul:u<is'.length:=by rw[l'];exact hp u hu
  unfold zO;refine ba ?_;refine zx (w:=.int v) (k:=k3) (ij:=u) (j:=u) (by trivial) (by trivial) (by trivial) O.g0 (sY (by rw[length_map];exact hul)) ?_;refine⟨is'.set u v,_,rfl,by rw[map_set];exact O.set0 _,by rw[length_set];exact l',fun q hq=>?_,fun q hq=>?_⟩
  ·rw[nr];split
   ·rfl
   ·rename_i hn;rcases mem_append.mp hq with hq|hq
    ·exact z1 q hq
    ·rw[mem_singleton] at hq;exact absurd ⟨hq.symm,hul⟩ hn
  ·rw[nr,if_neg (fun x=>hq (by rw[<- x.1];simp))];exact z2 q fun x=>hq (mem_append_left _ x)
 ·rintro sl c ⟨is',x4,rfl,O,l',z1,z2⟩;refine bQ (w:=wS is') (ce':=c) (bX (ao (by trivial) aw) (rY O.g0 (by omega))) ?_;subst hk;exact⟨_,_,O.finC (by simp only[bc];exact bA _ _),is',rfl,rfl,l',z1,z2⟩
theorem zL(fu:Nat){v:Int}(hl:is.length<=36)(hp:∀q∈pts,q<is.length):∃is',d_ga fu [wS is,wL pts,.int v] ce=some (.ok (wS is') ce)/\is'.length=is.length/\(∀q∈pts,is'.getD q 0=v)/\∀q,q∉pts->is'.getD q 0=is.getD q 0:=IM fu (.fr _) hl hp
theorem ya:gy ce (wL l)=some (!decide (l=[])):=by show some (!(l.map nW).isEmpty)=_;cases l<;>simp
theorem Jt(fu:Nat)(hfu:200<=fu)(B:de b)(hl:is.length=b.length){h:Int}(h0:h≠0):d_o fu [wB b,wS is,.int h] ce=some (.ok (.cel ce.length) (ce++[.lst (((List.range b.length).filter fun q=>(je b is).any fun r=>decide (is.getD (r.getD 0 0) 0=h)&&(decide (ck b is r=[])&&decide (q∈r))).map nW)])):=by
 have hz:=fJ;have h36:=B.h36;have e1:=Ft (ce:=ce++[C.lst []]) fu hfu B hl;have rok:∀r∈je b is,0<r.length/\r.length<=b.length/\∀p∈r,p<b.length:=fun r hr=>yc B.bd (mem_filter.mp hr).1;have rnd:(je b is).Nodup:=List.Pairwise.filter _ (CT B.bd);have rnd1:∀r∈je b is,r.Nodup:=fun r hr=>by
  obtain⟨s,hs,_,rfl⟩:=(ox B.bd).mp (mem_filter.mp hr).1;exact DD
 have rmeet:∀r∈je b is,∀r'∈je b is,∀q,q∈r->q∈r'->r=r':=fun r hr r' hr' q h1 h2=>by
  obtain⟨s,hs,_,rfl⟩:=(ox B.bd).mp (mem_filter.mp hr).1;obtain⟨t,ht,_,rfl⟩:=(ox B.bd).mp (mem_filter.mp hr').1;exact zk B.bd B.sym hs ht h1 h2
 unfold d_o;refine dE [some (wB b),some (wS is),some (.int h),none,none] rfl ?_;refine bL (gZ aw (zero_le _)) ?_;refine ba ?_;have O0:=(Own.start ce).alloc (C.lst (([]:List Nat).map nW));refine(?_:Run _ _ (ce++[C.lst []]) _);generalize hk:ce.length=k3 at O0 ⊢;generalize hc0:ce++[C.lst []]=c0 at e1 ⊢;have O0:Own ce c0 [(k3,C.lst (([]:List Nat).map nW))]:=by rw[<- hc0];exact O0
 generalize je b is=R at *;refine hJ (zs:=R) (en:=wL) (c1:=c0) (ja (by trivial))
  (fun d sl c=>∃F x4,sl=[some (wB b),some (wS is),some (.int h),some (.cel k3),x4]/\Own ce c [(k3,C.lst (F.map nW))]/\F.Nodup/\(∀x∈F,x<b.length)/\∀x,x∈F↔∃r∈d,is.getD (r.getD 0 0) 0=h/\ck b is r=[]/\x∈r)
  ⟨[],_,rfl,O0,by simp,by simp,by simp⟩ ?_ ?_
 ·rintro d r cX sl c e hr ⟨F,x4,rfl,O,nd,lt,mem⟩;obtain⟨r0,r1,r2⟩:=rok r hr;have hh:r.getD 0 0<is.length:=by rw[hl];exact yb r0 r2
  have i1:=wI (ce:=c) r0;have i2:=fV (ce:=c) hh;have e2:=vI (ce:=c) fu B hl r2;have t2:=ya (ce:=c) (l:=ck b is r);have hdr:∀r'∈d,r'≠r:=fun r' hr' e'=>by
   subst e';rw[<- e] at rnd;exact(nodup_append.mp rnd).2.2 r' hr' r' (by simp) rfl
  have hdR:∀r'∈d,r'∈R:=fun r' hr'=>by rw[<- e];exact mem_append_left _ hr'
  unfold A2;refine ba ?_;refine e8 (p:=decide (is.getD (r.getD 0 0) 0=h)&&!(!decide (ck b is r=[]))) (ce':=c) (kU (by trivial) (fun _=>i3 (sN (bE (ws:=[wB b,wS is,wL r]) (by trivial) rfl e2) t2))) (fun q=>?_) (fun q=>?_)
  ·simp only[not_not,and_eq_true,decide_eq_true_eq] at q;have nd2:(F++r).Nodup:=by
    rw[nodup_append];refine⟨nd,?_,fun a ha b' hb' e'=>?_⟩
    ·exact rnd1 r hr
    ·subst e';obtain⟨r',hr',_,_,h3⟩:=(mem a).mp ha;exact hdr r' hr' (rmeet r' (hdR r' hr') r hr a h3 hb')
   have lt2:∀x∈F++r,x<b.length:=fun x hx=>by
    rcases mem_append.mp hx with hx|hx
    ·exact lt x hx
    ·exact r2 x hx
   have hl2:=fY nd2 lt2;rw[length_append] at hl2;refine jh (w:=.non) (ce':=c.set k3 (.lst (F.map nW++r.map nW))) (iC (ws:=[wL r]) (by trivial) (ff O.g0) (by trivial) (s9 O.g0 (ys:=r.map nW) rfl (by rw[length_map,length_map];omega))) ?_;refine⟨F++r,_,rfl,by rw[map_append];exact O.set0 _,nd2,lt2,fun x=>?_⟩;rw[mem_append,mem];constructor
   ·rintro(⟨r',hr',h⟩|hx)
    ·exact⟨r',mem_append_left _ hr',h⟩
    ·exact⟨r,by simp,q.1,q.2,hx⟩
   ·rintro⟨r',hr',h⟩;rcases mem_append.mp hr' with hr'|hr'
    ·exact .inl ⟨r',hr',h⟩
    ·rw[mem_singleton] at hr';subst hr';exact .inr h.2.2
  ·refine fX ?_;refine⟨F,_,rfl,O,nd,lt,fun x=>?_⟩;rw[mem];constructor
   ·rintro⟨r',hr',h⟩;exact⟨r',mem_append_left _ hr',h⟩
   ·rintro⟨r',hr',h⟩;rcases mem_append.mp hr' with hr'|hr'
    ·exact⟨r',hr',h⟩
    ·rw[mem_singleton] at hr';subst hr';rw[decide_eq_true h.1,decide_eq_true h.2.1] at q;cases q
 ·rintro sl c ⟨F,x4,rfl,O,nd,lt,mem⟩;have hl':=fY nd lt;have es:cG F=(List.range b.length).filter fun q=>R.any fun r=>decide (is.getD (r.getD 0 0) 0=h)&&(decide (ck b is r=[])&&decide (q∈r)):=by rw[qm nd lt];apply filter_congr;intro x _;rw[Bool.eq_iff_iff,any_eq_true,decide_eq_true_eq,mem];simp only[and_eq_true,decide_eq_true_eq]
  rw[<- es];refine bQ (bX (ao (by trivial) aw) ((Hy (mk:=fS) O.g0 (by omega)).trans (lU (by rw[length_map,ql];omega)))) ?_;subst hk;exact(O.alloc _).finO (by simp only[e7];exact aK _ _)
theorem zi(fu:Nat)(hfu:200<=fu)(B:de b)(hl:is.length=b.length)(hp:p<b.length):bR (d_ia fu) [wB b,wS is,nW p] ce=some (.ok (wL (aJ b (vS is) p)) ce):=by refine iI ?_ (aK _ _);have e1:=Aw (ce:=ce) fu hfu (vk hl) B.bd B.h36 hp;unfold d_ia;refine dE [some (wB b),some (wS is),some (nW p)] rfl ?_;refine bQ (bE (ws:=[wB b,wS is,nW p]) (by trivial) rfl e1) ?_;exact((Own.start ce).alloc _).finO (by simp only[e7];exact aK _ _)
theorem bU.rows(A:bU b is o p):(r∈je b (is.set p o)/\(is.set p o).getD (r.getD 0 0) 0=3-o)↔r∈jS b (e_ (is.set p o) [3-o]):=by
 have hT:∀{s},s∈e_ (is.set p o) [3-o]↔s<b.length/\(is.set p o).getD s 0=3-o:=fun {s}=>by rw[bS,A.l1]
 have hc:∀{s},s<b.length->(is.set p o).getD s 0=3-o->aJ b (vT (e_ (is.set p o) [3-o])) s=aJ b (vS (is.set p o)) s:=fun {s} hs es=>by
  have:=oH (is:=is.set p o) A.bd A.l1 hs;rwa [es] at this
 unfold je;rw[mem_filter,ox A.bd];constructor
 ·rintro⟨⟨⟨s,hs,hm,rfl⟩,_⟩,q⟩;rw[qk A.bd hs hm] at q;have:=pQ (T:=e_ (is.set p o) [3-o]) A.bd A.sym (fun x hx=>(hT.mp hx).1) (hT.mpr ⟨hs,q⟩);rwa [hc hs q] at this
 ·intro h;obtain⟨s,hs,rfl⟩:=pP h;obtain⟨q1,q2⟩:=hT.mp hs;rw[hc q1 q2];obtain⟨m,h1,h2,h3⟩:=zZ (vl:=vS (is.set p o)) A.bd A.sym q1;have hm:=cb h1;have em:(is.set p o).getD m 0=3-o:=(bY A.bd q1 h1).trans q2;rw[<- h3,qk A.bd hm h2,em];have h0:=A.H.h0;exact⟨⟨⟨m,hm,h2,rfl⟩,by simp[h0]⟩,rfl⟩
theorem bU.blist(A:bU b is o p):((List.range b.length).filter fun q=>(je b (is.set p o)).any fun r=>decide ((is.set p o).getD (r.getD 0 0) 0=3-o)&&(decide (ck b (is.set p o) r=[])&&decide (q∈r)))=lT b is o p:=by
 unfold lT;apply filter_congr;intro q _;rw[Bool.eq_iff_iff,any_eq_true,any_eq_true];simp only[and_eq_true,decide_eq_true_eq];constructor
 ·rintro⟨r,h1,h2,h3,h4⟩;exact⟨r,mem_filter.mpr ⟨A.rows.mp ⟨h1,h2⟩,decide_eq_true h3⟩,h4⟩
 ·rintro⟨r,h1,h4⟩;obtain⟨h1,h3⟩:=mem_filter.mp h1;obtain⟨h1,h2⟩:=A.rows.mpr h1;exact⟨r,h1,h2,of_decide_eq_true h3,h4⟩
theorem vG(h:sl[i]?=some (some (nW p)))(hp:p<1000):[i].all (nB sl)=true:=by simp only[all_cons,all_nil,Bool.and_true,nB,h,nW];exact decide_eq_true (by simpa using hp)
theorem zh(fu:Nat)(hfu:200<=fu)(B:de b)(P:aL b is o)(hp:p<b.length)(p0:is.getD p 0=0)(h:Run (ay (bz (fN (jD (aP 3 (bR (d_da fu)) (af (ae 0) (af (ae 6) (af (aP 3 (bR (d_ia fu)) (af (ae 0) (af (ae 6) (af (ae 3) ak)))) ak)))))) (jf "NoBreath" [3]) bI) (a_ (bK (af (ae 6) (af (ae 5) ak)))))
   [some (wB b),some (wS is),some (.int o),some (nW p),some (wS (is.set p o)),some (wL (lT b is o p)),some (wS (lS b is o p))] ce Q) :
  Run (ay (bz (dB (aC (c6 true) (aC aE (ae 1) (ae 3)) (dC (.int 0)))) (jf "NoLay" [3]) bI)
   (ay (bf 4 (aP 3 (d_ga fu) (af (ae 1) (af (eJ (af (ae 3) ak)) (af (ae 2) ak)))))
   (ay (bf 5 (aP 3 (bR (d_o fu)) (af (ae 0) (af (ae 4) (af (aP 1 (d_r fu) (af (ae 2) ak)) ak)))))
   (ay (bf 6 (aP 3 (d_ga fu) (af (ae 4) (af (ae 5) (af (dC (.int 0)) ak)))))
   (ay (bz (fN (jD (aP 3 (bR (d_da fu)) (af (ae 0) (af (ae 6) (af (aP 3 (bR (d_ia fu)) (af (ae 0) (af (ae 6) (af (ae 3) ak)))) ak)))))) (jf "NoBreath" [3]) bI)
   (a_ (bK (af (ae 6) (af (ae 5) ak)))))))))
   [some (wB b),some (wS is),some (.int o),some (nW p),none,none,none] ce Q:=by
 have hz:=fJ;have A:=P.ly hp p0;have h36:=B.h36;have hl:=P.hl;have jp:=fV (ce:=ce) (is:=is) (p:=p) (by omega);refine cI (p:=!decide (is.getD p 0=0)) (ce':=ce) (by trivial) (fun q=>by rw[decide_eq_true p0] at q;cases q) (fun _=>?_);refine dH ?_;obtain⟨is1,e1,l1,a1,b1⟩:=zL (ce:=ce) (is:=is) fu (pts:=[p]) (v:=o) (by omega) (fun q hq=>by rw[mem_singleton] at hq;subst hq;omega);have ei1:is1=is.set p o:=zM (by rw[l1,length_set]) fun q _=>by
  rw[A.s1]
  by_cases e:q=p
  ·rw[if_pos e,e];exact a1 p (by simp)
  ·rw[if_neg e];exact b1 q (by simpa using e)
 subst ei1;have z1:1<=sizeLine:=by decide
 refine bL (w:=wS (is.set p o)) (ce':=ce) (bE (ws:=[wS is,wL [p],.int o]) (ao (by trivial) (ao (gD (ws:=[nW p]) (by trivial) z1) (by trivial))) rfl e1) ?_;refine ba ?_;have e2:=Jt (ce:=ce) (is:=is.set p o) fu hfu B A.l1 (h:=3-o) A.H.h0;rw[A.blist] at e2;have e2f:=iI e2 (aK _ _);have e3:=zj (ce:=ce) fu o;refine bL (w:=wL (lT b is o p)) (ce':=ce) (bE (ws:=[wB b,wS (is.set p o),.int (3-o)]) (by trivial) rfl e2f) ?_;refine ba ?_;obtain⟨is2,e4,l2,a2,b2⟩:=zL (ce:=ce) (is:=is.set p o) fu (pts:=lT b is o p) (v:=0) (by rw[A.l1];omega) (fun q hq=>by rw[A.l1];exact(A.tkh hq).1);have ei2:is2=lS b is o p:=zM (by rw[l2,length_set,iX]) fun q hq=>by
  rw[l2,A.l1] at hq;rw[A.get hq]
  by_cases e:q=p
  ·rw[if_pos e,b2 q (fun h=>(A.tkh h).2.2 e),A.s1,if_pos e]
  ·rw[if_neg e]
   by_cases ht:q∈lT b is o p
   ·rw[if_pos ht];exact a2 q ht
   ·rw[if_neg ht,b2 q ht,A.s1,if_neg e]
 subst ei2;refine bL (w:=wS (lS b is o p)) (ce':=ce) (bE (ws:=[wS (is.set p o),wL (lT b is o p),.int 0]) (by trivial) rfl e4) ?_;refine ba ?_;exact h
theorem x_(fu:Nat)(hfu:200<=fu)(B:de b)(P:aL b is o)(hp:p<b.length){x1 x2 x4 x5:Option W} :
  fN (jD (aP 3 (bR (d_da fu)) (af (ae 0) (af (ae 6) (af (aP 3 (bR (d_ia fu)) (af (ae 0) (af (ae 6) (af (ae 3) ak)))) ak))))) [some (wB b),x1,x2,some (nW p),x4,x5,some (wS (lS b is o p))] ce=some (.ok (!(!decide (ck b (lS b is o p) (aJ b (vS (lS b is o p)) p)=[]))) ce):=by
 have hl:(lS b is o p).length=b.length:=by rw[iX];exact P.hl
 have e1:=zi (ce:=ce) fu hfu B hl hp;have e2:=vI (ce:=ce) (is:=lS b is o p) fu B hl (r:=aJ b (vS (lS b is o p)) p) (fun x hx=>cb hx);exact i3 (sN (bE (ws:=[wB b,wS (lS b is o p),wL (aJ b (vS (lS b is o p)) p)]) (ao (by trivial) (ao (by trivial) (ao (bE (ws:=[wB b,wS (lS b is o p),nW p]) (by trivial) rfl e1) aw))) rfl e2) ya)
theorem Fs(fu:Nat)(P:aL b is o)(h36:b.length<=36)(hp:p<b.length)(p0:¬is.getD p 0=0):d_la fu [wB b,wS is,.int o,nW p] ce=some (.ex ⟨"NoLay",none⟩ ce):=by have hl:=P.hl;have jp:=fV (ce:=ce) (is:=is) (p:=p) (by omega);unfold d_la;refine zu [some (wB b),some (wS is),some (.int o),some (nW p),none,none,none] rfl ?_;refine cI (p:=!decide (is.getD p 0=0)) (ce':=ce) (by trivial) (fun _=>Ai (vG (p:=p) rfl (by omega)) ⟨rfl,[],by simp⟩) (fun q=>by rw[decide_eq_false p0] at q;cases q)
theorem Ek(fu:Nat)(hfu:200<=fu)(B:de b)(P:aL b is o)(hp:p<b.length)(p0:is.getD p 0=0)(nf:¬ik b is o p):d_la fu [wB b,wS is,.int o,nW p] ce=some (.ex ⟨"NoBreath",none⟩ ce):=by have h36:=B.h36;have nf':ck b (lS b is o p) (aJ b (vS (lS b is o p)) p)=[]:=Classical.byContradiction nf;have eb:=x_ (ce:=ce) (o:=o) fu hfu B P hp (x1:=some (wS is)) (x2:=some (.int o)) (x4:=some (wS (is.set p o))) (x5:=some (wL (lT b is o p)));rw[decide_eq_true nf'] at eb;unfold d_la;refine zu [some (wB b),some (wS is),some (.int o),some (nW p),none,none,none] rfl ?_;refine zh fu hfu B P hp p0 ?_;exact cI (p:=!(!true)) (ce':=ce) eb (fun _=>Ai (vG (p:=p) rfl (by omega)) ⟨rfl,[],by simp⟩) (fun q=>by cases q)
theorem Ej(fu:Nat)(hfu:200<=fu)(B:de b)(P:aL b is o)(hp:p<b.length)(p0:is.getD p 0=0)(nf:ik b is o p):d_la fu [wB b,wS is,.int o,nW p] ce=some (.ok (.tup [wS (lS b is o p),wL (lT b is o p)]) ce):=by
 have z2:2<=sizeLine:=by decide
 have nf':¬ck b (lS b is o p) (aJ b (vS (lS b is o p)) p)=[]:=nf;have eb:=x_ (ce:=ce) (o:=o) fu hfu B P hp (x1:=some (wS is)) (x2:=some (.int o)) (x4:=some (wS (is.set p o))) (x5:=some (wL (lT b is o p)));rw[decide_eq_false nf'] at eb;unfold d_la;refine dE [some (wB b),some (wS is),some (.int o),some (nW p),none,none,none] rfl ?_;refine zh fu hfu B P hp p0 ?_;refine cI (p:=!(!false)) (ce':=ce) eb (fun q=>by cases q) (fun _=>dH ?_);refine bQ (w:=.tup [wS (lS b is o p),wL (lT b is o p)]) (ce':=ce) (eD (ws:=[wS (lS b is o p),wL (lT b is o p)]) (ao (ah rfl) (ao (ah rfl) aw)) z2) ?_;exact fD (by simp only[bc,du];exact⟨bA _ _,aK _ _,trivial⟩)
end
theorem zg{c:Sl->M W}{put:Option Nat}{ok:d_->Bool}{b:DS}{x:d_}(h:c sl ce=some (.ex x c1))(hok:ok x=true)(e:hd x sl c1=some (.go .ct sl' c2))(q:Q (.go .ct sl' c2)):Run (ay (kB c put ok hd) b) sl ce Q :=
 ⟨_,by simp only[ay,kB,h,hok,if_true,e],q⟩
section
variable {is:List Int}
def fi(b:List (List Nat))(is:List Int)(o:Int)(p:Nat):W:=.tup [nW p,wS (lS b is o p),wL (lT b is o p)]
open Classical in
def fc(b:List (List Nat))(is:List Int)(o:Int)(p:Nat):Bool:=decide (is.getD p 0=0/\ik b is o p)
open Classical in
theorem bJ:fc b is o p=true↔is.getD p 0=0/\ik b is o p:=by unfold fc;exact decide_eq_true_iff
theorem qf(n:Nat)(p:Nat):bc n (fi b is o p):=by simp only[bc,du,fi,nW];exact⟨trivial,bA _ _,aK _ _,trivial⟩
theorem g_{α:Type}{f:α->W}(n:Nat)(h:∀x,bc n (f x)):∀l:List α,du n (l.map f)
 | []=>by simp only[map_nil,du]
 | x::l=>by simp only[map_cons,du];exact⟨h x,g_ n h l⟩
theorem IL(fu:Nat)(hfu:200<=fu)(B:de b)(P:aL b is o)(hlt:∀p∈pts,p<b.length)(hlen:pts.length<=100) :
  bR (d_ea fu) [wB b,wS is,.int o,wL pts] ce=some (.ok (.lst ((pts.filter (fc b is o)).map (fi b is o))) ce):=by
 have hz:=fJ;have z200:200<sizeLine:=by decide
 have z3:3<=sizeLine:=by decide
 have h36:=B.h36;refine iI ?_ (g_ _ (qf _) _);unfold d_ea;refine dE [some (wB b),some (wS is),some (.int o),some (wL pts),none,none,none] rfl ?_;refine bL (gZ aw (zero_le _)) ?_;refine ba ?_;have O0:=(Own.start ce).alloc (C.lst []);refine hJ (zs:=pts) (en:=nW) (c1:=ce++[.lst []]) (ja (ah rfl))
  (fun d sl c=>∃x5 x6,sl=[some (wB b),some (wS is),some (.int o),some (wL pts),some (.cel ce.length),x5,x6]/\Own ce c [(ce.length,C.lst ((d.filter (fc b is o)).map (fi b is o)))])
  ⟨_,_,rfl,O0⟩ ?_ ?_
 ·rintro d x r sl c e hx ⟨x5,x6,rfl,O⟩;have hxb:=hlt x hx;have hdl:d.length<100:=by have:=congrArg List.length e;simp only[length_append,length_cons] at this;omega
  have go:aP 4 (d_la fu) (iS (af (ae 0) (af (ae 1) (af (ae 2) (af (ae 5) ak))))) [some (wB b),some (wS is),some (.int o),some (wL pts),some (.cel ce.length),some (nW x),x6] c=d_la fu [wB b,wS is,.int o,nW x] c:=by have:iS (af (ae 0) (af (ae 1) (af (ae 2) (af (ae 5) ak)))) [some (wB b),some (wS is),some (.int o),some (wL pts),some (.cel ce.length),some (nW x),x6] c=some (.ok [wB b,wS is,.int o,nW x] c):=pT (ao (ah rfl) (ao (ah rfl) (ao (ah rfl) (ao (ah rfl) aw))));simp only[aP,az,this];rfl
  unfold Al;refine ba ?_
  by_cases p0:is.getD x 0=0
  ·by_cases hf:ik b is o x
   ·have ec:fc b is o x=true:=bJ.mpr ⟨p0,hf⟩;refine GF (go.trans (Ej (ce:=c) fu hfu B P hxb p0 hf)) ?_;have ea:=j9 (y:=fi b is o x) O.g0 (by rw[length_map];exact lt_of_le_of_lt (length_filter_le _ _) (by omega));refine jh (w:=.non) (iC (ah rfl) (ff O.g0) (ao (eD (ws:=[nW x,wS (lS b is o x),wL (lT b is o x)]) (ao (ah rfl) (ao (aM (ah rfl) av (eS (xs:=[wS (lS b is o x),wL (lT b is o x)]) (j:=0) rfl rfl)) (ao (aM (ah rfl) av (eS (xs:=[wS (lS b is o x),wL (lT b is o x)]) (j:=1) rfl rfl)) aw))) z3) aw) ea) ?_;refine⟨_,_,rfl,?_⟩;rw[filter_append,filter_cons_of_pos ec,filter_nil,map_append];exact O.set0 _
   ·have ec:¬fc b is o x=true:=by intro q;exact hf (bJ.mp q).2
    refine zg (go.trans (Ek (ce:=c) fu hfu B P hxb p0 hf)) (by decide +kernel) rfl ?_;refine⟨_,_,rfl,?_⟩;rw[filter_append,filter_cons_of_neg ec,filter_nil,append_nil];exact O
  ·have ec:¬fc b is o x=true:=by intro q;exact p0 (bJ.mp q).1
   refine zg (go.trans (Fs (ce:=c) fu P h36 hxb p0)) (by decide +kernel) rfl ?_;refine⟨_,_,rfl,?_⟩;rw[filter_append,filter_cons_of_neg ec,filter_nil,append_nil];exact O
 ·rintro sl c ⟨x5,x6,rfl,O⟩;exact bQ (w:=.cel ce.length) (ce':=c) (ah rfl) (O.finO (by simp only[e7];exact g_ _ (qf _) _))
def aU(l:List (List Int)):W:=.lst (l.map wS)
theorem wH(x y:List Int):aN (wS x) (wS y)=decide (x=y):=by simp only[wS,aN,ug]
theorem wG(ng:Bool)(x:List Int)(l:List (List Int)):gc ng ce (wS x) (aU l)=some (.bl (if ng then !decide (x∈l) else decide (x∈l))):=by
 have h1:bG 8 (drf ce (wS x))=true:=nz x 7;have h2:(l.map wS).all (bG 8)=true:=by rw[all_eq_true];intro w hw;obtain⟨y,_,rfl⟩:=mem_map.mp hw;exact nz y 7
 have h3:(l.map wS).any (aN · (wS x))=decide (x∈l):=by
  rw[Bool.eq_iff_iff,any_eq_true,decide_eq_true_eq];constructor
  ·rintro⟨w,hw,e⟩;obtain⟨y,hy,rfl⟩:=mem_map.mp hw;rw[wH,decide_eq_true_eq] at e;subst e;exact hy
  ·exact fun h=>⟨wS x,mem_map.mpr ⟨x,h,rfl⟩,by rw[wH];simp⟩
 have h4:drf ce (wS x)=wS x:=rfl;simp only[gc,aU,fz,cH,h4] at *;simp only[h1,h2,h3,Bool.and_self,if_true]
open Classical in
def cV(b:List (List Nat))(cm:List (List Int))(is:List Int)(o:Int)(pts:List Nat):List Nat:=pts.filter fun p=>fc b is o p&&!decide (lS b is o p∈cm)
theorem iY{l:List (List Int)}:aE ce (aU (l++[is])) (.int (-1))=some (wS is):=by
 have:fz ce (aU (l++[is]))=some ((l++[is]).map wS):=rfl;have hl:((l++[is]).map wS).length=l.length+1:=by simp
 have hi:L2.ixN (l.length+1) (-1)=some l.length:=by unfold L2.ixN;rw[if_neg (by omega),if_pos (by omega)];congr 1;omega
 simp only[aE,this,L2.atI,hl,hi,bind_some];simp
theorem wF(fu:Nat)(hfu:200<=fu)(B:de b)(P:aL b is o){l:List (List Int)}(hlt:∀p∈pts,p<b.length)(hlen:pts.length<=100) :
  d_ca fu [wB b,aU (l++[is]),.int o,wL pts] ce=some (.ok (.lst ((cV b (l++[is]) is o pts).map (fi b is o))) ce):=by
 have z200:200<sizeLine:=by decide
 have e1:=IL (ce:=ce) fu hfu B P hlt hlen;unfold d_ca;refine dE [some (wB b),some (aU (l++[is])),some (.int o),some (wL pts)] rfl ?_;refine bQ (w:=.lst ((cV b (l++[is]) is o pts).map (fi b is o))) (ce':=ce) ?_ (fD (by simp only[bc];exact g_ _ (qf _) _));have:=o6 (zs:=pts.filter (fc b is o)) (en:=fi b is o) (c1:=ce) (js:=[1]) (sl:=[some (wB b),some (aU (l++[is])),some (.int o),some (wL pts)]) (ce:=ce) (di:=dA (aP 4 (bR (d_ea fu)) (af (ae 0) (af (aC aE (ae 1) (eQ gz (dC (.int 1)))) (af (ae 2) (af (ae 3) ak)))))) (c:=dB (aC (gc true) (aC aE (ae 0) (dC (.int 1))) (ae 1))) (t:=fun p=>!decide (lS b is o p∈l++[is]))
  (lJ (bE (ws:=[wB b,wS is,.int o,wL pts]) (ao (ah rfl) (ao (aM (ah rfl) (eA av rfl) iY) (ao (ah rfl) (ao (ah rfl) aw)))) rfl e1) (.fr _)) (le_trans (length_filter_le _ _) (by omega)) (fun p hp=>bp (aM (aM (ah rfl) av (eS (xs:=[nW p,wS (lS b is o p),wL (lT b is o p)]) (j:=1) rfl rfl)) (ah rfl) (wG true _ _)))
 rw[this,filter_filter];unfold cV;simp only[Bool.and_comm]
end
def dW:Option Nat->W
 | none=>.non
 | some p=>nW p
def aI(l:List (Option Nat)):W:=.tup (l.map dW)
abbrev bZ:=List (List (Option Nat)×Option Nat)
def bF(p:List (Option Nat)×Option Nat):W:=.tup [aI p.1,dW p.2]
def k8(l:bZ):W:=.lst (l.map bF)
def wd:Bool->PySem.Str
 | true => "caught"
 | false => "free"
theorem gJ(n:Nat)(d:Option Nat):bc n (dW d):=by cases d<;>simp only[dW,nW,bc]
def cf(b:List (List Nat))(q:Nat)(is:List Int):List Nat:=ck b is (aJ b (vS is) q)
open Classical in
def eW(b:List (List Nat))(o:Int)(q:Nat)(cm:List (List Int))(is:List Int):List Nat :=
 (cV b cm is o (cf b q is)).filter fun p=>decide ((lS b is o p).getD q 0=0)||decide (((cf b q (lS b is o p)).length:Int)<=1)
def stM(b:List (List Nat))(h:Int)(cm:List (List Int))(is:List Int):List (Option Nat×List Int) :=
 (cV b cm is h (List.range b.length)).map (fun p=>(some p,lS b is h p))++[(none,is)]
def cZ(g:Nat->Bool)(f:Nat->Bool×bZ)(ds:List (Option Nat)):List Nat->bZ->Bool×bZ
 | [],acc=>(false,acc)
 | p::ps,acc=>if g p=true then (true,[(ds,some p)]) else if (f p).1=true then (true,(ds,some p)::(f p).2) else cZ g f ds ps (acc++(f p).2)
def dJ(f:Option Nat×List Int->Bool×bZ)(ds:List (Option Nat)):List (Option Nat×List Int)->bZ->Bool×bZ
 | [],acc=>(true,acc)
 | st::ss,acc=>if (f st).1=false then (false,(ds,st.1)::(f st).2) else dJ f ds ss (acc++(f st).2)
def aR(b:List (List Nat))(o:Int)(q most:Nat):Nat->Bool->List (List Int)->List Int->List (Option Nat)->Bool×bZ
 | 0,_,_,_,_=>(false,[])
 | r+1,true,pre,is,ds=>if most<=(ds.length+1) / 2 then (false,[]) else cZ (fun p=>decide ((lS b is o p).getD q 0=0)) (fun p=>aR b o q most r false (pre++[is]) (lS b is o p) (ds++[some p])) ds (eW b o q (pre++[is]) is) []
 | r+1,false,pre,is,ds=>if most<=(ds.length+1) / 2 then (false,[]) else dJ (fun st=>aR b o q most r true (pre++[is]) st.2 (ds++[st.1])) ds (stM b (3-o) (pre++[is]) is) []
def lF:Nat->Bool->Nat
 | 0,_=>0
 | r+1,true=>16*lF r false
 | r+1,false=>lF r true+1
def lC:Nat->Bool->Nat
 | 0,_=>0
 | r+1,true=>lC r false+1
 | r+1,false=>17*lC r true
theorem xZ{g:Nat->Bool}{f:Nat->Bool×bZ}{ds:List (Option Nat)}{F C:Nat}(hf:∀p,(f p).1=false->(f p).2.length<=F)(hc:∀p,(f p).1=true->(f p).2.length<=C):∀(l:List Nat) (acc:bZ),
  ((cZ g f ds l acc).1=false->(cZ g f ds l acc).2.length<=acc.length+l.length*F)/\((cZ g f ds l acc).1=true->(cZ g f ds l acc).2.length<=C+1)
 | [],acc=>⟨fun _=>by simp[cZ],fun h=>by simp[cZ] at h⟩
 | p::ps,acc=>by
  unfold cZ;split
  ·exact⟨fun h=>by simp at h,fun _=>by simp⟩
  ·split
   ·rename_i _ h;exact⟨fun h'=>by simp at h',fun _=>by have:=hc p h;simp;omega⟩
   ·rename_i _ h;have h':(f p).1=false:=by cases e:(f p).1<;>simp_all
    obtain⟨i1,i2⟩:=xZ hf hc ps (acc++(f p).2);refine⟨fun q=>le_trans (i1 q) ?_,i2⟩;have:=hf p h';rw[length_append,length_cons,succ_mul];omega
theorem xY{f:Option Nat×List Int->Bool×bZ}{ds:List (Option Nat)}{F C:Nat}(hf:∀p,(f p).1=false->(f p).2.length<=F)(hc:∀p,(f p).1=true->(f p).2.length<=C):∀(l:List (Option Nat×List Int)) (acc:bZ),
  ((dJ f ds l acc).1=true->(dJ f ds l acc).2.length<=acc.length+l.length*C)/\((dJ f ds l acc).1=false->(dJ f ds l acc).2.length<=F+1)
 | [],acc=>⟨fun _=>by simp[dJ],fun h=>by simp[dJ] at h⟩
 | p::ps,acc=>by
  unfold dJ;split
  ·rename_i h;exact⟨fun h'=>by simp at h',fun _=>by have:=hf p h;simp;omega⟩
  ·rename_i h;have h':(f p).1=true:=by cases e:(f p).1<;>simp_all
   obtain⟨i1,i2⟩:=xY hf hc ps (acc++(f p).2);refine⟨fun q=>le_trans (i1 q) ?_,i2⟩;have:=hc p h';rw[length_append,length_cons,succ_mul];omega
theorem lX{is:List Int}{h:Int}:(cV b cm is h l).length<=l.length:=length_filter_le _ _
theorem tJ{is:List Int}:(cf b q is).length<=b.length:=le_trans (length_filter_le _ _) Av
theorem xX{is:List Int}:(eW b o q cm is).length<=b.length:=le_trans (length_filter_le _ _) (le_trans lX tJ)
theorem xW{is:List Int}{h:Int}:(stM b h cm is).length<=b.length+1:=by unfold stM;rw[length_append,length_map];have:=lX (b:=b) (cm:=cm) (is:=is) (h:=h) (l:=List.range b.length);rw[length_range] at this;simp only[length_cons,length_nil];omega
theorem ke(h16:b.length<=16):∀(r:Nat) (t:Bool) (pre:List (List Int)) (is:List Int) (ds:List (Option Nat)),
  ((aR b o q most r t pre is ds).1=false->(aR b o q most r t pre is ds).2.length<=lF r t)/\((aR b o q most r t pre is ds).1=true->(aR b o q most r t pre is ds).2.length<=lC r t)
 | 0,t,pre,is,ds=>⟨fun _=>by simp[aR],fun h=>by simp[aR] at h⟩
 | r+1,true,pre,is,ds=>by
  unfold aR;split
  ·exact⟨fun _=>by simp,fun h=>by simp at h⟩
  ·obtain⟨i1,i2⟩:=xZ (g:=fun p=>decide ((lS b is o p).getD q 0=0)) (ds:=ds) (f:=fun p=>aR b o q most r false (pre++[is]) (lS b is o p) (ds++[some p])) (F:=lF r false) (C:=lC r false) (fun p=>(ke h16 r false _ _ _).1) (fun p=>(ke h16 r false _ _ _).2) (eW b o q (pre++[is]) is) [];refine⟨fun h=>le_trans (i1 h) ?_,i2⟩;have:=xX (b:=b) (o:=o) (q:=q) (cm:=pre++[is]) (is:=is);simp only[lF,length_nil,zero_add];exact mul_le_mul_right _ (by omega)
 | r+1,false,pre,is,ds=>by
  unfold aR;split
  ·exact⟨fun _=>by simp,fun h=>by simp at h⟩
  ·obtain⟨i1,i2⟩:=xY (ds:=ds) (f:=fun st:Option Nat×List Int=>aR b o q most r true (pre++[is]) st.2 (ds++[st.1])) (F:=lF r true) (C:=lC r true) (fun p=>(ke h16 r true _ _ _).1) (fun p=>(ke h16 r true _ _ _).2) (stM b (3-o) (pre++[is]) is) [];refine⟨i2,fun h=>le_trans (i1 h) ?_⟩;have:=xW (b:=b) (h:=3-o) (cm:=pre++[is]) (is:=is);simp only[lC,length_nil,zero_add];exact mul_le_mul_right _ (by omega)
section
variable {is:List Int}
def jT(b:List (List Nat))(o:Int)(q most:Nat):List (PySem.Str×W):=[("joined",wB b),("hunter",.int o),("runner",.int (3-o)),("stone",nW q),("most",nW most)]
theorem aL.flip(P:aL b is o):aL b is (3-o):=by
 have e:3-(3-o)=o:=by omega
 refine⟨P.bd,P.sym,P.hl,⟨by rw[e];exact P.H.o0,P.H.h0,by rw[e];exact fun h=>P.H.ho h.symm⟩,fun q hq=>?_,by rw[e];exact P.no,P.nh⟩;rw[e];rcases P.v q hq with h|h|h
 ·exact .inl h
 ·exact .inr (.inr h)
 ·exact .inr (.inl h)
theorem aL.back(P:aL b is (3-o)):aL b is o:=by have:=P.flip;rwa [show 3-(3-o)=o by omega] at this
theorem qe(P:aL b is o)(hp:p<b.length)(h:fc b is o p=true):aL b (lS b is o p) o:=by obtain⟨p0,f⟩:=bJ.mp h;exact P.next (P.ly hp p0) f
theorem qv(h:p∈cV b cm is o l):p∈l/\fc b is o p=true:=by obtain⟨h1,h2⟩:=mem_filter.mp h;rw[and_eq_true] at h2;exact⟨h1,h2.1⟩
theorem fH(h:p∈cf b q is):p<b.length:=Ak (mem_filter.mp h).1
theorem oG(h:p∈eW b o q cm is):p<b.length/\fc b is o p=true:=by obtain⟨h1,h2⟩:=qv (mem_filter.mp h).1;exact⟨fH h1,h2⟩
theorem zf(fu:Nat)(g:c[k]?=some (.ins "Chase" (jT b o q most)))(ds:List (Option Nat)):d_d fu [.cel k,aI ds] c=some (.ok (.bl (decide (most<=(ds.length+1) / 2))) c):=by
 have l1:cg [aI ds] c=some (.ok (nW ds.length) c):=by simp[cg,aI];rfl
 have e1:cu (nW ds.length) (.int 1)=some (nW (ds.length+1)):=by simp[cu,i2,nW]
 have e2:mv (nW (ds.length+1)) (.int 2)=some (nW ((ds.length+1) / 2)):=by rw[show(nW ((ds.length+1) / 2))=W.int (((ds.length+1:Nat):Int) / 2) by simp[nW]];exact xP rfl rfl (by omega)
 have e3:qS (nW ((ds.length+1) / 2)) (nW most)=some (.bl (decide (most<=(ds.length+1) / 2))):=by show some (W.bl (decide ((most:Int)<=(((ds.length+1) / 2:Nat):Int))))=_;rw[show decide ((most:Int)<=(((ds.length+1) / 2:Nat):Int))=decide (most<=(ds.length+1) / 2) by rw[Bool.eq_iff_iff,decide_eq_true_eq,decide_eq_true_eq];omega]
 unfold d_d;refine dE [some (.cel k),some (aI ds)] rfl ?_;exact bQ (aY (aY (aY (bX (ws:=[aI ds]) (ao (ah rfl) aw) l1) av e1) av e2) (jG (ah rfl) g rfl) e3) (fD (by simp only[bc]))
theorem xV(fu:Nat)(hfu:200<=fu)(B:de b)(hl:is.length=b.length)(hq:q<b.length)(g:c[k]?=some (.ins "Chase" (jT b o q most))):d_c fu [.cel k,wS is] c=some (.ok (wL (cf b q is)) c):=by have e1:=zi (ce:=c) fu hfu B hl hq;have e2:=iI (Aj (ce:=c) (row:=aJ b (vS is) q) fu B.bd B.h36 hl (.fr _) (fun p hp=>cb hp)) (aK _ _);unfold d_c;refine dE [some (.cel k),some (wS is)] rfl ?_;exact bQ (bE (ws:=[wB b,wS is,wL (aJ b (vS is) q)]) (ao (jG (ah rfl) g rfl) (ao (ah rfl) (ao (bE (ws:=[wB b,wS is,nW q]) (ao (jG (ah rfl) g rfl) (ao (ah rfl) (ao (jG (ah rfl) g rfl) aw))) rfl e1) aw))) rfl e2) (fD (by simp only[bc];exact aK _ _))
theorem Gn(fu:Nat)(hfu:200<=fu)(B:de b)(P:aL b is o)(hq:q<b.length)(g:c[k]?=some (.ins "Chase" (jT b o q most))) :
  d_b fu [.cel k,aU (pre++[is])] c=some (.ok (.lst ((eW b o q (pre++[is]) is).map (fi b is o))) c):=by
 have z200:200<sizeLine:=by decide
 have h36:=B.h36;have bl:=tJ (b:=b) (q:=q) (is:=is);have e1:=xV (c:=c) (is:=is) fu hfu B P.hl hq g;have e2:=wF (ce:=c) (l:=pre) fu hfu B P (pts:=cf b q is) (fun p hp=>fH hp) (by omega);have nl:=lX (b:=b) (cm:=pre++[is]) (is:=is) (h:=o) (l:=cf b q is);unfold d_b;refine dE [some (.cel k),some (aU (pre++[is])),none] rfl ?_;refine bL (bE (ws:=[wB b,aU (pre++[is]),.int o,wL (cf b q is)]) (ao (jG (ah rfl) g rfl) (ao (ah rfl) (ao (jG (ah rfl) g rfl) (ao (kQ (ws:=[wS is]) (ah rfl) g rfl (ao (aM (ah rfl) (eA av rfl) iY) aw) rfl e1) aw)))) rfl e2) ?_;refine ba ?_;refine bQ (o6 (zs:=cV b (pre++[is]) is o (cf b q is)) (en:=fi b is o) (c1:=c) (t:=fun p=>decide ((lS b is o p).getD q 0=0)||decide (((cf b q (lS b is o p)).length:Int)<=1)) (lJ (ah rfl) (.fr _)) (by omega) (fun p hp=>?_)) (fD (by simp only[bc];exact g_ _ (qf _) _));have hl':(lS b is o p).length=b.length:=by rw[iX];exact P.hl
 have e3:=xV (c:=c) (is:=lS b is o p) fu hfu B hl' hq g;have i1:aE c (fi b is o p) (.int 1)=some (wS (lS b is o p)):=eS (xs:=[nW p,wS (lS b is o p),wL (lT b is o p)]) (j:=1) rfl rfl;have i2:=fV (ce:=c) (is:=lS b is o p) (p:=q) (by omega);have l1:=oy (ce:=c) (l:=cf b q (lS b is o p));refine pT (jI (bp (aM (aM (aM (x:=fi b is o p) (ah rfl) av i1) (jG (k:=k) (ah rfl) g rfl) i2) av kr)) (fun _=>bp (aY (bX (ws:=[wL (cf b q (lS b is o p))]) (ao (kQ (k:=k) (ws:=[wS (lS b is o p)]) (ah rfl) g rfl (ao (aM (x:=fi b is o p) (ah rfl) av i1) aw) rfl e3) aw) l1) av rfl)))
def gw(st:Option Nat×List Int):W:=.tup [dW st.1,wS st.2]
theorem xU(n:Nat)(st:Option Nat×List Int):bc n (gw st):=by simp only[gw,bc,du];exact⟨gJ n _,bA _ _,trivial⟩
theorem Ei(h:n<=1000):mP bW [nW n] c=some (.ok (wL (List.range n)) c):=by
 have z:2000<sizeLine:=by decide
 have r1:jB [nW n]=some (.rng 0 n):=by simp only[jB,nW];rw[if_pos ⟨by omega,by omega⟩,toNat_natCast]
 simp only[mP,r1];rw[if_pos (by omega)];have e:(List.range n).map (fun(i:Nat)=>W.int (0+(i:Int)))=(List.range n).map nW:=by apply map_congr_left;intro i _;simp[nW]
 rw[e,nc (by rw[length_map,length_range];omega)]
theorem Gm(fu:Nat)(hfu:200<=fu)(B:de b)(P:aL b is o):bR (d_ja fu) [wB b,aU (pre++[is]),.int o] c=some (.ok (.lst ((stM b o (pre++[is]) is).map gw)) c):=by
 have z200:200<sizeLine:=by decide
 have z2:2<=sizeLine:=by decide
 have h36:=B.h36;have e1:=wF (ce:=c) (l:=pre) fu hfu B P (pts:=List.range b.length) (fun p hp=>mem_range.mp hp) (by simp;omega);have nl:=lX (b:=b) (cm:=pre++[is]) (is:=is) (h:=o) (l:=List.range b.length);rw[length_range] at nl;refine iI ?_ (g_ _ (xU _) _);unfold d_ja;refine dE [some (wB b),some (aU (pre++[is])),some (.int o),none] rfl ?_;have e0:mP bW [nW b.length] c=some (.ok (wL (List.range b.length)) c):=Ei (by omega);generalize hN:cV b (pre++[is]) is o (List.range b.length)=N at *;refine bL (w:=.cel c.length) (ce':=c++[.lst (N.map fun p=>gw (some p,lS b is o p))]) (vz (zs:=N) (en:=fi b is o) (g:=fun p=>gw (some p,lS b is o p)) (lJ (bE (ws:=[wB b,aU (pre++[is]),.int o,wL (List.range b.length)]) (ao (ah rfl) (ao (ah rfl) (ao (ah rfl) (ao (bX (ws:=[nW b.length]) (ao (bX (ws:=[wB b]) (ao (ah rfl) aw) kT) aw) e0) aw)))) rfl e1) (.fr _)) (by omega) (fun p hp=>eD (ws:=[nW p,wS (lS b is o p)]) (ao (aM (x:=fi b is o p) (ah rfl) av (eS (xs:=[nW p,wS (lS b is o p),wL (lT b is o p)]) (j:=0) rfl rfl)) (ao (aM (x:=fi b is o p) (ah rfl) av (eS (xs:=[nW p,wS (lS b is o p),wL (lT b is o p)]) (j:=1) rfl rfl)) aw)) z2)) ?_;refine ba ?_;have O0:=(Own.start c).alloc (C.lst (N.map fun p=>gw (some p,lS b is o p)));have ea:=j9 (y:=gw (none,is)) O0.g0 (by rw[length_map];omega);refine pI (w:=.non) (iC (ah rfl) (ff O0.g0) (ao (eD (ws:=[.non,wS is]) (ao av (ao (aM (ah rfl) (eA av rfl) iY) aw)) z2) aw) ea) ?_;have O1:=O0.set0 (C.lst ((N.map fun p=>gw (some p,lS b is o p))++[gw (none,is)]));have es:(stM b o (pre++[is]) is).map gw=(N.map fun p=>gw (some p,lS b is o p))++[gw (none,is)]:=by unfold stM;rw[hN,map_append,map_map];rfl
 rw[es];refine bQ (w:=.cel c.length) (ah rfl) (O1.finO (by
  simp only[e7];rw[<- es];exact g_ _ (xU _) _))
theorem oP{α:Type}{f:α->W}{n d:Nat}{c:Ce}(h:∀x,fk n c d (f x)=some (f x)):∀l:List α,iB n c d (l.map f)=some (l.map f)
 | []=>by simp only[map_nil,iB]
 | x::l=>by simp only[map_cons,iB,h x,oP h l]
theorem xT(n d:Nat)(c:Ce)(x:Option Nat):fk n c d (dW x)=some (dW x):=by cases x<;>cases d<;>simp only[dW,nW,fk]
theorem Eh(n d:Nat)(c:Ce)(x:List (Option Nat)×Option Nat):fk n c (d+2) (bF x)=some (bF x):=by simp only[bF,aI,fk,iB,oP (xT n d c),xT,map_some]
theorem G2{w:PySem.Str}{l:bZ}(hn:n<=j)(g:c[j]?=some (.lst (l.map bF))):fk n c 6 (.tup [.str w,.cel j])=some (.tup [.str w,k8 l]):=by
 have h:¬j<n:=by omega
 simp only[fk,iB,if_neg h,g,oP (Eh n 2 c),map_some,k8]
def oV(h:Bool×bZ):W:=.tup [.str (wd h.1),k8 h.2]
theorem lim:∀r,r<=9->∀t,17*lF r t+17<sizeLine/\17*lC r t+17<sizeLine:=by decide +kernel
theorem vF(x y:PySem.Str):c6 false c (.str x) (.str y)=some (.bl (x==y)):=by simp[c6,drf,bG,aN]
theorem HQ(t:Bool):(wd t==("caught" : PySem.Str))=t:=by cases t<;>decide +kernel
theorem Eg(t:Bool):(wd t==("free" : PySem.Str))=!t:=by cases t<;>decide +kernel
theorem vj(h:Bool×bZ):aE c (oV h) (.int 0)=some (.str (wd h.1)):=eS (xs:=[.str (wd h.1),k8 h.2]) (j:=0) rfl rfl
theorem o4(h:Bool×bZ):aE c (oV h) (.int 1)=some (k8 h.2):=eS (xs:=[.str (wd h.1),k8 h.2]) (j:=1) rfl rfl
theorem pO{l:List (List Int)}(h1:d1 sl c=some (.ok (aU l) c))(h2:d2 sl c=some (.ok (wS is) c))(hl:l.length<=1000):fR bW d1 (eJ (af d2 ak)) sl c=some (.ok (aU (l++[is])) c):=by
 have z:2000<sizeLine:=by decide
 have z1:1<=sizeLine:=by decide
 have:=qc (sl:=sl) (ce:=c) (a:=d1) (b:=eJ (af d2 ak)) h1 (gD (ws:=[wS is]) (ao h2 aw) z1) (xs:=l.map wS) (ys:=[wS is]) rfl rfl (by rw[length_map];show l.length+1<=_;omega);rw[this];simp only[aU,map_append,map_cons,map_nil]
theorem pN{l:List (Option Nat)}{x:Option Nat}(h1:d1 sl c=some (.ok (aI l) c))(h2:d2 sl c=some (.ok (dW x) c))(hl:l.length<=1000):iT d1 (bK (af d2 ak)) sl c=some (.ok (aI (l++[x])) c):=by
 have z:2000<sizeLine:=by decide
 have z1:1<=sizeLine:=by decide
 have:=sZ (c1:=c) (xs:=l.map dW) (ys:=[dW x]) h1 (eD (ws:=[dW x]) (ao h2 aw) z1) (by rw[length_map];show l.length+1<=_;omega);rw[this];simp only[aI,map_append,map_cons,map_nil]
end
theorem tI{is:List Int}(P:aL b is o)(h:st∈stM b (3-o) cm is):aL b st.2 o:=by
 unfold stM at h;rcases mem_append.mp h with h|h
 ·obtain⟨p,hp,rfl⟩:=mem_map.mp h;obtain⟨h1,h2⟩:=qv hp;exact(qe P.flip (mem_range.mp h1) h2).back
 ·rw[mem_singleton] at h;subst h;exact P
theorem xS{α:Type}{zs d r:List α}{x:α}(e:d++x::r=zs):zs.drop d.length=x::r/\zs.drop (d++[x]).length=r:=by
 subst e;constructor
 ·simp
 ·rw[show d++x::r=(d++[x])++r by simp];simp only[drop_left]
theorem xR{a b:Sl->M W}{x y:W}(ha:a sl ce=some (.ok x c1))(hb:b sl c1=some (.ok y c2))(hx:cH c2 x=some xs)(hy:cH c2 y=some ys)(hz:xs.length+ys.length<=sizeLine) :
  fR fS a b sl ce=some (.ok (.cel c2.length) (c2++[.lst (xs++ys)])):=by
 simp only[fR,az,ha,hb,o_,hx,hy,if_pos hz];exact lU (by rw[length_append];exact hz)
def Raw(d:List W->M W)(ws:List W)(c:Ce)(X:Bool×bZ):Prop:=∃w c',d ws c=some (.ok w c')/\∃j l,w=.tup [.str (wd X.1),.cel j]/\Own c c' ((j,C.lst (X.2.map bF))::l)
theorem Raw.frz{d:List W->M W}{ws:List W}{c:Ce}{X:Bool×bZ}(h:Raw d ws c X):lB d ws c=some (.ok (oV X) c):=by obtain⟨w,c',e,j,l,rfl,O⟩:=h;exact Own.frzD' e O (il.refl c) (G2 (O.ge _ mem_cons_self) O.g0)
theorem sm(fu:Nat)(hfu:200<=fu)(B:de b)(h16:b.length<=16)(hq:q<b.length):∀(r:Nat) (t:Bool) (pre:List (List Int)) (is:List Int) (ds:List (Option Nat)) (c:Ce) (k:Nat),r<=10->aL b is o->c[k]?=some (.ins "Chase" (jT b o q most)) ->
  2*most<=ds.length+r->ds.length<2*most->pre.length=ds.length->ds.length+r<=100 ->
  Raw (if t=true then (g9 fu r).1 else (g9 fu r).2) [.cel k,aU (pre++[is]),aI ds] c (aR b o q most r t pre is ds)
 | 0,t,pre,is,ds,c,k,_,_,_,h1,h2,_,_=>by omega
 | r+1,true,pre,is,ds,c,k,hr,P,g,h1,h2,h3,h4=>by
  have z2:2<=sizeLine:=by decide
  have z1:1<=sizeLine:=by decide
  obtain⟨lm1,lm2⟩:=lim r (by omega) false;have hk:k<c.length:=(List.getElem?_eq_some_iff.mp g).1;rw[if_pos rfl];show ∃w c',qL fu (g9 fu r).1 (g9 fu r).2 _ c=some (.ok w c')/\_;unfold qL;refine jE [some (.cel k),some (aU (pre++[is])),some (aI ds),none,none,none] rfl ?_;refine cI (p:=decide (most<=(ds.length+1) / 2)) (ce':=c) (bp (kQ (ws:=[aI ds]) (ah rfl) g rfl (ao (ah rfl) aw) rfl (zf fu g ds))) (fun sp=>?_) (fun sp=>?_)
  ·have e0:aR b o q most (r+1) true pre is ds=(false,[]):=by unfold aR;rw[if_pos (of_decide_eq_true sp)]
   rw[e0];refine iH (bQ (w:=.tup [.str "free",.cel c.length]) (ce':=c++[.lst []]) (eD (ws:=[.str "free",.cel c.length]) (ao av (ao (gZ (ws:=[]) aw (zero_le _)) aw)) z2) ?_);exact⟨_,_,rfl,_,_,rfl,(Own.start c).alloc _⟩
  have nsp:=of_decide_eq_false sp;have e0:aR b o q most (r+1) true pre is ds=cZ (fun p=>decide ((lS b is o p).getD q 0=0)) (fun p=>aR b o q most r false (pre++[is]) (lS b is o p) (ds++[some p])) ds (eW b o q (pre++[is]) is) []:=by rw[aR];rw[if_neg nsp]
  rw[e0];generalize hG:(fun p=>decide ((lS b is o p).getD q 0=0))=G;generalize hF:(fun p=>aR b o q most r false (pre++[is]) (lS b is o p) (ds++[some p]))=F;have fF:∀p,(F p).1=false->(F p).2.length<=lF r false:=fun p=>by rw[<- hF];exact(ke h16 r false _ _ _).1
  have fC:∀p,(F p).1=true->(F p).2.length<=lC r false:=fun p=>by rw[<- hF];exact(ke h16 r false _ _ _).2
  refine dH ?_;refine bL (gZ aw (zero_le _)) ?_;refine ba ?_;have O0:=(Own.start c).alloc (C.lst (([]:bZ).map bF));refine(?_:Run _ _ (c++[C.lst (([]:bZ).map bF)]) _);have gO:∀{c':Ce} {l:List (Nat×C)},Own c c' l->c'[k]?=some (.ins "Chase" (jT b o q most)):=fun {c' l} O=>by
   obtain⟨t,rfl⟩:=O.cut;rw[getElem?_append_left hk];exact g
  generalize c++[C.lst (([]:bZ).map bF)]=c1 at O0 ⊢;have eh:=Gn (c:=c1) (pre:=pre) fu hfu B P hq (gO O0);have hll:=xX (b:=b) (o:=o) (q:=q) (cm:=pre++[is]) (is:=is);have hlm:∀p∈eW b o q (pre++[is]) is,p<b.length/\fc b is o p=true:=fun p hp=>oG hp;generalize eW b o q (pre++[is]) is=zs at eh hll hlm;refine z6 (zs:=zs) (en:=fi b is o) (c1:=c1) (ja (kQ (ws:=[aU (pre++[is])]) (ah rfl) (gO O0) rfl (ao (ah rfl) aw) rfl eh))
   (fun d sl c'=>∃x4 x5 acc,sl=[some (.cel k),some (aU (pre++[is])),some (aI ds),some (.cel c.length),x4,x5]/\Own c c' [(c.length,C.lst (acc.map bF))]/\acc.length<=d.length*lF r false/\cZ G F ds zs []=cZ G F ds (zs.drop d.length) acc)
   (fun w c'=>∃w2 c2,lr c c' w=some (.ok w2 c2)/\∃j l,w2=.tup [.str (wd (cZ G F ds zs []).1),.cel j]/\Own c c2 ((j,C.lst ((cZ G F ds zs []).2.map bF))::l))
   ⟨_,_,[],rfl,O0,by simp,by simp⟩ ?_ (fun w sl c' h=>h) ?_
  ·rintro d p cX sl c' e hp ⟨x4,x5,acc,rfl,O,al,eq⟩;have gk:=gO O;obtain⟨hpb,hcan⟩:=hlm p hp;have Pn:=qe P hpb hcan;have hdl:d.length<16:=by have:=congrArg List.length e;simp only[length_append,length_cons] at this;omega
   obtain⟨d1,d2⟩:=xS e;rw[d1] at eq;have i0:aE c' (fi b is o p) (.int 0)=some (dW (some p)):=eS (xs:=[nW p,wS (lS b is o p),wL (lT b is o p)]) (j:=0) rfl rfl;have i1:aE c' (fi b is o p) (.int 1)=some (wS (lS b is o p)):=eS (xs:=[nW p,wS (lS b is o p),wL (lT b is o p)]) (j:=1) rfl rfl;have i2:=fV (ce:=c') (is:=lS b is o p) (p:=q) (by rw[iX,P.hl];exact hq);have eg:G p=decide ((lS b is o p).getD q 0=0):=by rw[<- hG]
   unfold A1;refine ba ?_;have row:∀x5',bK (af (ae 2) (af (aC aE (ae 4) (dC (.int 0))) ak)) [some (.cel k),some (aU (pre++[is])),some (aI ds),some (.cel c.length),some (fi b is o p),x5'] c'=some (.ok (bF (ds,some p)) c'):=fun x5'=>eD (ws:=[aI ds,dW (some p)]) (ao (ah rfl) (ao (aM (ah rfl) av i0) aw)) z2;refine cI (p:=G p) (ce':=c') (by rw[eg];exact bp (aM (aM (aM (ah rfl) av i1) (jG (ah rfl) gk rfl) i2) av kr)) (fun q1=>?_) (fun q1=>?_)
   ·refine iH (bQ (w:=.tup [.str "caught",.cel c'.length]) (ce':=c'++[.lst [bF (ds,some p)]]) (eD (ws:=[.str "caught",.cel c'.length]) (ao av (ao (gZ (ws:=[bF (ds,some p)]) (ao (row _) aw) z1) aw)) z2) ?_);rw[eq,cZ,if_pos q1];exact⟨_,_,rfl,_,_,rfl,O.alloc _⟩
   refine dH ?_;have eF:F p=aR b o q most r false (pre++[is]) (lS b is o p) (ds++[some p]):=by rw[<- hF]
   have ih:=sm fu hfu B h16 hq r false (pre++[is]) (lS b is o p) (ds++[some p]) c' k (by omega) Pn gk (by simp only[length_append,length_cons,length_nil];omega) (by simp only[length_append,length_cons,length_nil];omega) (by simp only[length_append,length_cons,length_nil];omega) (by simp only[length_append,length_cons,length_nil];omega);rw[if_neg Bool.false_ne_true,<- eF] at ih;have ih:=ih.frz;refine bL (w:=oV (F p)) (ce':=c') (kQ (ws:=[aU (pre++[is]++[lS b is o p]),aI (ds++[some p])]) (ah rfl) gk rfl (ao (pO (ah rfl) (aM (ah rfl) av i1) (by simp only[length_append,length_cons,length_nil];omega)) (ao (pN (ah rfl) (aM (ah rfl) av i0) (by omega)) aw)) rfl ih) ?_;refine ba ?_;refine cI (p:=(F p).1) (ce':=c') (bp (aM (aM (ah rfl) av (vj _)) av ((vF _ _).trans (by rw[HQ])))) (fun q2=>?_) (fun q2=>?_)
   ·have hc:=fC p q2;refine iH (bQ (w:=.tup [.str "caught",.cel c'.length]) (ce':=c'++[.lst (bF (ds,some p)::(F p).2.map bF)]) (eD (ws:=[.str "caught",.cel c'.length]) (ao av (ao (xR (gD (ws:=[bF (ds,some p)]) (ao (row _) aw) z1) (aM (ah rfl) av (o4 _)) (xs:=[bF (ds,some p)]) (ys:=(F p).2.map bF) rfl rfl (by rw[length_map];simp only[length_cons,length_nil];omega)) aw)) z2) ?_);rw[eq,cZ,if_neg (by rw[q1];exact Bool.false_ne_true),if_pos q2];exact⟨_,_,rfl,_,_,rfl,O.alloc _⟩
   ·have hf:=fF p q2;refine dH ?_;have hm:d.length*lF r false<=16*lF r false:=mul_le_mul_right _ (by omega);refine jh (w:=.non) (ce':=c'.set c.length (.lst (acc.map bF++(F p).2.map bF))) (iC (ws:=[k8 (F p).2]) (ah rfl) (ff O.g0) (ao (aM (ah rfl) av (o4 _)) aw) (s9 O.g0 (ys:=(F p).2.map bF) rfl (by rw[length_map,length_map];omega))) ?_;refine⟨_,_,acc++(F p).2,rfl,by rw[map_append];exact O.set0 _,?_,?_⟩
    ·rw[length_append,length_append,length_cons,length_nil,add_mul];omega
    ·rw[eq,d2,cZ,if_neg (by rw[q1];exact Bool.false_ne_true),if_neg (by rw[q2];exact Bool.false_ne_true)]
  ·rintro sl c' ⟨x4,x5,acc,rfl,O,al,eq⟩;rw[drop_length] at eq;refine bQ (w:=.tup [.str "free",.cel c.length]) (ce':=c') (eD (ws:=[.str "free",.cel c.length]) (ao av (ao (ah rfl) aw)) z2) ?_;rw[eq,cZ];exact⟨_,_,rfl,_,_,rfl,O⟩
 | r+1,false,pre,is,ds,c,k,hr,P,g,h1,h2,h3,h4=>by
  have z2:2<=sizeLine:=by decide
  have z1:1<=sizeLine:=by decide
  obtain⟨lm1,lm2⟩:=lim r (by omega) true;have hk:k<c.length:=(List.getElem?_eq_some_iff.mp g).1;rw[if_neg Bool.false_ne_true];show ∃w c',qK fu (g9 fu r).1 (g9 fu r).2 _ c=some (.ok w c')/\_;unfold qK;refine jE [some (.cel k),some (aU (pre++[is])),some (aI ds),none,none,none] rfl ?_;refine cI (p:=decide (most<=(ds.length+1) / 2)) (ce':=c) (bp (kQ (ws:=[aI ds]) (ah rfl) g rfl (ao (ah rfl) aw) rfl (zf fu g ds))) (fun sp=>?_) (fun sp=>?_)
  ·have e0:aR b o q most (r+1) false pre is ds=(false,[]):=by unfold aR;rw[if_pos (of_decide_eq_true sp)]
   rw[e0];refine iH (bQ (w:=.tup [.str "free",.cel c.length]) (ce':=c++[.lst []]) (eD (ws:=[.str "free",.cel c.length]) (ao av (ao (gZ (ws:=[]) aw (zero_le _)) aw)) z2) ?_);exact⟨_,_,rfl,_,_,rfl,(Own.start c).alloc _⟩
  have nsp:=of_decide_eq_false sp;have e0:aR b o q most (r+1) false pre is ds=dJ (fun st=>aR b o q most r true (pre++[is]) st.2 (ds++[st.1])) ds (stM b (3-o) (pre++[is]) is) []:=by rw[aR];rw[if_neg nsp]
  rw[e0];generalize hF:(fun st:Option Nat×List Int=>aR b o q most r true (pre++[is]) st.2 (ds++[st.1]))=F;have fF:∀p,(F p).1=false->(F p).2.length<=lF r true:=fun p=>by rw[<- hF];exact(ke h16 r true _ _ _).1
  have fC:∀p,(F p).1=true->(F p).2.length<=lC r true:=fun p=>by rw[<- hF];exact(ke h16 r true _ _ _).2
  refine dH ?_;refine bL (gZ aw (zero_le _)) ?_;refine ba ?_;have O0:=(Own.start c).alloc (C.lst (([]:bZ).map bF));refine(?_:Run _ _ (c++[C.lst (([]:bZ).map bF)]) _);have gO:∀{c':Ce} {l:List (Nat×C)},Own c c' l->c'[k]?=some (.ins "Chase" (jT b o q most)):=fun {c' l} O=>by
   obtain⟨t,rfl⟩:=O.cut;rw[getElem?_append_left hk];exact g
  generalize c++[C.lst (([]:bZ).map bF)]=c1 at O0 ⊢;have eh:=Gm (c:=c1) (pre:=pre) fu hfu B P.flip;have hll:=xW (b:=b) (h:=3-o) (cm:=pre++[is]) (is:=is);have hlm:∀st∈stM b (3-o) (pre++[is]) is,aL b st.2 o:=fun st hs=>tI P hs;generalize stM b (3-o) (pre++[is]) is=zs at eh hll hlm;refine z6 (zs:=zs) (en:=gw) (c1:=c1) (ja (bE (ws:=[wB b,aU (pre++[is]),.int (3-o)]) (ao (jG (ah rfl) (gO O0) rfl) (ao (ah rfl) (ao (jG (ah rfl) (gO O0) rfl) aw))) rfl eh))
   (fun d sl c'=>∃x4 x5 acc,sl=[some (.cel k),some (aU (pre++[is])),some (aI ds),some (.cel c.length),x4,x5]/\Own c c' [(c.length,C.lst (acc.map bF))]/\acc.length<=d.length*lC r true/\dJ F ds zs []=dJ F ds (zs.drop d.length) acc)
   (fun w c'=>∃w2 c2,lr c c' w=some (.ok w2 c2)/\∃j l,w2=.tup [.str (wd (dJ F ds zs []).1),.cel j]/\Own c c2 ((j,C.lst ((dJ F ds zs []).2.map bF))::l))
   ⟨_,_,[],rfl,O0,by simp,by simp⟩ ?_ (fun w sl c' h=>h) ?_
  ·rintro d st cX sl c' e hst ⟨x4,x5,acc,rfl,O,al,eq⟩;have gk:=gO O;have Pn:=hlm st hst;have hdl:d.length<17:=by have:=congrArg List.length e;simp only[length_append,length_cons] at this;omega
   obtain⟨d1,d2⟩:=xS e;rw[d1] at eq;have i0:aE c' (gw st) (.int 0)=some (dW st.1):=eS (xs:=[dW st.1,wS st.2]) (j:=0) rfl rfl;have i1:aE c' (gw st) (.int 1)=some (wS st.2):=eS (xs:=[dW st.1,wS st.2]) (j:=1) rfl rfl;unfold AH;refine ba ?_;have row:∀x5',bK (af (ae 2) (af (aC aE (ae 4) (dC (.int 0))) ak)) [some (.cel k),some (aU (pre++[is])),some (aI ds),some (.cel c.length),some (gw st),x5'] c'=some (.ok (bF (ds,st.1)) c'):=fun x5'=>eD (ws:=[aI ds,dW st.1]) (ao (ah rfl) (ao (aM (ah rfl) av i0) aw)) z2;have eF:F st=aR b o q most r true (pre++[is]) st.2 (ds++[st.1]):=by rw[<- hF]
   have ih:=sm fu hfu B h16 hq r true (pre++[is]) st.2 (ds++[st.1]) c' k (by omega) Pn gk (by simp only[length_append,length_cons,length_nil];omega) (by simp only[length_append,length_cons,length_nil];omega) (by simp only[length_append,length_cons,length_nil];omega) (by simp only[length_append,length_cons,length_nil];omega);rw[if_pos rfl,<- eF] at ih;have ih:=ih.frz;refine bL (w:=oV (F st)) (ce':=c') (kQ (ws:=[aU (pre++[is]++[st.2]),aI (ds++[st.1])]) (ah rfl) gk rfl (ao (pO (ah rfl) (aM (ah rfl) av i1) (by simp only[length_append,length_cons,length_nil];omega)) (ao (pN (ah rfl) (aM (ah rfl) av i0) (by omega)) aw)) rfl ih) ?_;refine ba ?_;refine cI (p:=!(F st).1) (ce':=c') (bp (aM (aM (ah rfl) av (vj _)) av ((vF _ _).trans (by rw[Eg])))) (fun q2=>?_) (fun q2=>?_)
   ·have q2:(F st).1=false:=by simpa using q2
    have hc:=fF st q2;refine iH (bQ (w:=.tup [.str "free",.cel c'.length]) (ce':=c'++[.lst (bF (ds,st.1)::(F st).2.map bF)]) (eD (ws:=[.str "free",.cel c'.length]) (ao av (ao (xR (gD (ws:=[bF (ds,st.1)]) (ao (row _) aw) z1) (aM (ah rfl) av (o4 _)) (xs:=[bF (ds,st.1)]) (ys:=(F st).2.map bF) rfl rfl (by rw[length_map];simp only[length_cons,length_nil];omega)) aw)) z2) ?_);rw[eq,dJ,if_pos q2];exact⟨_,_,rfl,_,_,rfl,O.alloc _⟩
   ·have q2:(F st).1=true:=by simpa using q2
    have hf:=fC st q2;refine dH ?_;have hm:d.length*lC r true<=16*lC r true:=mul_le_mul_right _ (by omega);refine jh (w:=.non) (ce':=c'.set c.length (.lst (acc.map bF++(F st).2.map bF))) (iC (ws:=[k8 (F st).2]) (ah rfl) (ff O.g0) (ao (aM (ah rfl) av (o4 _)) aw) (s9 O.g0 (ys:=(F st).2.map bF) rfl (by rw[length_map,length_map];omega))) ?_;refine⟨_,_,acc++(F st).2,rfl,by rw[map_append];exact O.set0 _,?_,?_⟩
    ·rw[length_append,length_append,length_cons,length_nil,add_mul];omega
    ·rw[eq,d2,dJ,if_neg (by rw[q2];simp)]
  ·rintro sl c' ⟨x4,x5,acc,rfl,O,al,eq⟩;rw[drop_length] at eq;refine bQ (w:=.tup [.str "caught",.cel c.length]) (ce':=c') (eD (ws:=[.str "caught",.cel c.length]) (ao av (ao (ah rfl) aw)) z2) ?_;rw[eq,dJ];exact⟨_,_,rfl,_,_,rfl,O⟩
theorem G1(fu:Nat)(hfu:200<=fu)(B:de b)(h16:b.length<=16)(hq:q<b.length){is:List Int}(P:aL b is o)(m1:1<=most)(m5:most<=5)(c:Ce):Raw (d_ha fu) [wB b,wS is,.int o,nW q,nW most] c (aR b o q most 10 true [] is []):=by
 have z1:1<=sizeLine:=by decide
 have i1:d_e fu [.cel c.length,wB b,.int o,nW q,nW most] (c++[.ins "Chase" []])=some (.ok .non (c++[.ins "Chase" (jT b o q most)])):=by
  have eo:=zj (ce:=c++[.ins "Chase" [("joined",wB b),("hunter",.int o)]]) fu o;have sl1:∀(x y:C),(c++[x]).set c.length y=c++[y]:=fun x y=>by simp
  unfold d_e;refine BN [some (.cel c.length),some (wB b),some (.int o),some (nW q),some (nW most)] rfl ?_;refine qh (w:=wB b) (k:=c.length) (ah rfl) (ah rfl) (gr _ _) (lt_of_le_of_lt (le_refl 0) (by decide)) ?_;rw[sl1];refine qh (w:=.int o) (k:=c.length) (ah rfl) (ah rfl) (gr _ _) (lt_of_le_of_lt (p4 (le_refl 0)) (by decide)) ?_;rw[sl1];refine qh (w:=.int (3-o)) (k:=c.length) (bE (ws:=[.int o]) (ao (ah rfl) aw) rfl eo) (ah rfl) (gr _ _) (lt_of_le_of_lt (le_refl 2) (by decide)) ?_;rw[sl1];refine qh (w:=nW q) (k:=c.length) (ah rfl) (ah rfl) (gr _ _) (lt_of_le_of_lt (p4 (le_refl 2)) (by decide)) ?_;rw[sl1];refine GA (w:=nW most) (k:=c.length) (ah rfl) (ah rfl) (gr _ _) (lt_of_le_of_lt (p4 (p4 (le_refl 2))) (by decide)) ?_;rw[sl1];exact⟨_,_,rfl,rfl⟩
 have e2:=sm (most:=most) (o:=o) fu hfu B h16 hq 10 true [] is [] (c++[.ins "Chase" (jT b o q most)]) c.length (by omega) P (gr _ _) (by simp;omega) (by simp;omega) rfl (by simp);rw[if_pos rfl] at e2;obtain⟨w,c',e,j,l,rfl,O⟩:=e2;have e2':d_p fu [.cel c.length,aU ([]++[is]),aI []] (c++[.ins "Chase" (jT b o q most)])=some (.ok (.tup [.str (wd (aR b o q most 10 true [] is []).1),.cel j]) c'):=e;have O':Own c c' ((j,C.lst ((aR b o q most 10 true [] is []).2.map bF))::l):=by obtain⟨⟨t,ht⟩,h2,h3,h4⟩:=O;exact⟨⟨[.ins "Chase" (jT b o q most)]++t,by rw[ht,append_assoc]⟩,h2,fun p hp=>by have:=h3 p hp;rw[length_append] at this;simp only[length_cons,length_nil] at this;omega,h4⟩
 unfold d_ha;refine jE [some (wB b),some (wS is),some (.int o),some (nW q),some (nW most)] rfl ?_;refine cI (p:=false) (ce':=c) (bp (aY (bX (ws:=[wB b]) (ao (ah rfl) aw) kT) av (by show some (W.bl (decide ((16:Int)<(b.length:Int))))=_;rw[decide_eq_false (by omega)]))) (fun q=>by cases q) (fun _=>dH ?_);refine bQ (kQ (k:=c.length) (ws:=[aU ([]++[is]),aI []]) (FA (ws:=[wB b,.int o,nW q,nW most]) (by trivial) rfl i1) (gr _ _) rfl (ao (gD (ws:=[wS is]) (ao (ah rfl) aw) z1) (ao (eD aw (zero_le _)) aw)) rfl e2') ?_;exact⟨_,_,rfl,_,_,rfl,O'⟩
theorem ui{is:List Int}{r':List Nat}(h:∀x,x∈r↔x∈r'):ck b is r=ck b is r':=by unfold ck gp;congr 1;apply filter_congr;intro y _;rw[Bool.eq_iff_iff,any_eq_true,any_eq_true];exact⟨fun⟨x,hx,q⟩=>⟨x,(h x).mp hx,q⟩,fun⟨x,hx,q⟩=>⟨x,(h x).mpr hx,q⟩⟩
def cS(ce:Ce)(w:W)(is:List Int):Prop:=fz ce w=some (is.map W.int)
theorem cS.ix{w:W}{is:List Int}(h:cS ce w is)(hp:p<is.length):aE ce w (nW p)=some (.int (is.getD p 0)):=by rw[kJ h,getElem?_map,getD_eq_getElem?_getD,getElem?_eq_getElem hp];rfl
theorem o3(is:List Int):cS ce (wS is) is:=rfl
theorem vi{is:List Int}(g:ce[k]?=some (.lst (is.map W.int))):cS ce (.cel k) is:=oh g
theorem cS.app{w:W}{is:List Int}(h:cS ce w is)(t:Ce):cS (ce++t) w is:=by
 unfold cS at h ⊢;cases w<;>simp only[fz,cH] at h⊢<;> first|exact h|skip
 rename_i k;cases e:ce[k]? with
 | none=>rw[e] at h;cases h
 | some c=>rw[getElem?_append_left (List.getElem?_eq_some_iff.mp e).1,e];rw[e] at h;exact h
theorem cS.own{w:W}{is:List Int}(h:cS ce w is){l:List (Nat×C)}(O:Own ce c l):cS c w is:=by obtain⟨t,rfl⟩:=O.cut;exact h.app t
section
variable {is:List Int} {row:List Nat}
theorem Ef(fu:Nat)(hfu:200<=fu)(B:de b){w:W}(hw:cS ce w is)(hl:is.length=b.length){s:Nat}(hs:s<b.length):∃F,d_n fu [wB b,w,nW s] ce=some (.ok (.cel ce.length) (ce++[.lst (F.map nW)]))/\Comp b (cW (vS is) s) s F:=by
 have hz:=fJ;have h36:=B.h36;have hb:=B.bd
 suffices h:∃v c,d_n fu [wB b,w,nW s] ce=some (.ok v c)/\∃F,v=.cel ce.length/\c=ce++[.lst (F.map nW)]/\Comp b (cW (vS is) s) s F by
  obtain⟨v,c,e,F,rfl,rfl,q⟩:=h;exact⟨F,e,q⟩
 unfold d_n;refine jE [some (wB b),some (w),some (nW s),none,none,none] rfl ?_;refine bL (gZ (ws:=[nW s]) (by trivial) (by show 1<=sizeLine;omega)) ?_;refine ba ?_;have O0:=(Own.start ce).alloc (C.lst ([s].map nW));refine(?_:Run _ _ (ce++[C.lst ([s].map nW)]) _);generalize hk:ce.length=k3 at O0 ⊢;generalize ce++[C.lst ([s].map nW)]=c0 at O0 ⊢;refine bL (w:=nW 0) (ce':=c0) av ?_;refine ba ?_;refine z7 (σ:=List Nat×Nat) (fun st sl c=>∃x5,sl=[some (wB b),some (w),some (nW s),some (.cel k3),some (nW st.2),x5]/\Own ce c [(k3,C.lst (st.1.map nW))]/\st.1.Nodup/\s∈st.1/\(∀x∈st.1,x<b.length)/\st.2<=st.1.length/\(∀x∈st.1,Reach b (cW (vS is) s) s x)/\∀x∈st.1.take st.2,∀y∈b.getD x [],cW (vS is) s y->y∈st.1)
  (fun st=>36-st.2) ([s],0) ⟨_,rfl,O0,by simp,by simp,by simpa using hs,by simp,by simpa using Reach.refl,by simp⟩ (by show 36-0<fu;omega) ?_
 rintro⟨F,at'⟩ sl c ⟨x5,rfl,O,nd,hsF,lt,hat,re,cl⟩;dsimp only at O nd hsF lt hat re cl;have g3:=O.g0;have hF36:F.length<=36:=le_trans (fY nd lt) h36;have cmp:iN (nW at') (nW F.length)=some (.bl (decide ((at':Int)<(F.length:Int)))):=lN (i:=at') (j:=F.length) rfl rfl;refine⟨decide ((at':Int)<(F.length:Int)),by trivial,fun q=>?_,fun q=>?_⟩
 ·have hlt:at'<F.length:=by have:=of_decide_eq_true q;omega
  have hpF:F.getD at' 0∈F:=by rw[getD_eq_getElem?_getD,getElem?_eq_getElem hlt];exact getElem_mem hlt
  have ix:=wX (p:=at') g3 hlt;have etk:F.take (at'+1)=F.take at'++[F.getD at' 0]:=by rw[take_add_one,getElem?_eq_getElem hlt,getD_eq_getElem?_getD,getElem?_eq_getElem hlt];rfl
  generalize F.getD at' 0=p at hpF ix etk;have hp:=lt p hpF;unfold Ba;refine hJ (zs:=b.getD p []) (en:=nW) (c1:=c) (mV (by trivial))
   (fun d sl c=>∃new x5,sl=[some (wB b),some (w),some (nW s),some (.cel k3),some (nW at'),x5]/\Own ce c [(k3,C.lst ((F++new).map nW))]/\(F++new).Nodup/\(∀x∈new,x∈b.getD p []/\cW (vS is) s x)/\∀x∈d,cW (vS is) s x->x∈F++new)
   ⟨[],x5,rfl,by simpa using O,by simpa using nd,by simp,by simp⟩ ?_ ?_
  ·rintro d y r sl c e hy ⟨new,x5,rfl,O,nd2,hnew,hd⟩;have g3:=O.g0;have hy':=hb.get hy;have lt2:∀x∈F++new,x<b.length:=fun x hx=>by
    rcases mem_append.mp hx with hx|hx
    ·exact lt x hx
    ·exact hb.get (hnew x hx).1
   have hl2:=fY nd2 lt2;have hzw:((F++new).map nW).length<sizeLine:=by rw[length_map];omega
   have j1:=(hw.own O).ix (p:=y) (by omega);have j2:=(hw.own O).ix (p:=s) (by omega);unfold AY;refine ba ?_;refine e8 (p:=decide (is.getD y 0=is.getD s 0)&&!decide (y∈F++new)) (ce':=c) (by trivial) (fun q=>?_) (fun q=>?_)
   ·simp only[and_eq_true,not_eq_true',decide_eq_false_iff_not,decide_eq_true_eq] at q;trivial;refine⟨new++[y],_,rfl,?_,?_,fun x hx=>?_,fun x hx o=>?_⟩
    ·have e2:(F++(new++[y])).map nW=(F++new).map nW++[nW y]:=by simp
     rw[e2];exact O.set0 _
    ·rw[<- append_assoc,nodup_append];exact⟨nd2,by simp,fun a ha c hc=>by rw[mem_singleton] at hc;subst hc;intro e;subst e;exact q.2 ha⟩
    ·rcases mem_append.mp hx with hx|hx
     ·exact hnew x hx
     ·rw[mem_singleton] at hx;subst hx;exact⟨hy,q.1⟩
    ·rw[<- append_assoc];rcases mem_append.mp hx with hx|hx
     ·exact mem_append_left _ (hd x hx o)
     ·rw[mem_singleton] at hx;subst hx;simp
   ·refine fX ?_;refine⟨new,_,rfl,O,nd2,hnew,fun x hx o=>?_⟩;rcases mem_append.mp hx with hx|hx
    ·exact hd x hx o
    ·rw[mem_singleton] at hx;subst hx;have o':is.getD x 0=is.getD s 0:=o;rw[decide_eq_true o',Bool.true_and,not_eq_false',decide_eq_true_eq] at q;exact q
  ·rintro sl c ⟨new,x5,rfl,O,nd2,hnew,hd⟩;have lt2:∀x∈F++new,x<b.length:=fun x hx=>by
    rcases mem_append.mp hx with hx|hx
    ·exact lt x hx
    ·exact hb.get (hnew x hx).1
   have fa:cu (nW at') (.int 1)=some (nW (at'+1)):=m_ (i:=at') (j:=1) rfl rfl;refine oA (w:=nW (at'+1)) (ce':=c) (by trivial) ?_;refine⟨(F++new,at'+1),(by show 36-(at'+1)<36-at';omega),x5,rfl,O,nd2,mem_append_left _ hsF,lt2,by show at'+1<=(F++new).length;rw[length_append];omega,fun x hx=>?_,fun x hx y hy o=>?_⟩
   ·rcases mem_append.mp hx with hx|hx
    ·exact re x hx
    ·exact(re p hpF).step (hnew x hx).1 (hnew x hx).2
   ·rw[take_append_of_le_length (by omega),etk] at hx;rcases mem_append.mp hx with hx|hx
    ·exact mem_append_left _ (cl x hx y hy o)
    ·rw[mem_singleton] at hx;subst hx;exact hd y hy o
 ·have q':=of_decide_eq_false q;have eat:at'=F.length:=by omega
  subst eat;rw[take_length] at cl;refine bQ (w:=.cel k3) (ce':=c) (by trivial) ?_;subst hk;exact⟨_,_,O.finO (by simp only[e7];exact aK _ _),F,rfl,rfl,⟨nd,hsF,lt,cl,re⟩⟩
theorem qu(fu:Nat)(hfu:200<=fu)(B:de b){w:W}(hw:cS ce w is)(hl:is.length=b.length){s:Nat}(hs:s<b.length):∃F,bR (d_n fu) [wB b,w,nW s] ce=some (.ok (wL F) ce)/\(∀x,x∈F↔x∈aJ b (vS is) s)/\F.length<=36/\∀x∈F,x<b.length:=by obtain⟨F,e,h⟩:=Ef (ce:=ce) fu hfu B hw hl hs;exact⟨F,iI e (aK _ _),fun x=>by rw[iZ B.bd hs];exact h.mem x,le_trans (fY h.nd h.lt) B.h36,h.lt⟩
theorem pY(fu:Nat)(B:de b){w:W}(hw:cS ce w is)(hl:is.length=b.length)(hr:∀p∈row,p<b.length):∃F,bR (d_g fu) [wB b,w,wL row] ce=some (.ok (wL F) ce)/\F.length<=36/\F.Nodup/\∀y,y∈F↔y∈ck b is row:=by
 have hz:=fJ;have h36:=B.h36;have hb:=B.bd
 suffices h:∃v c,d_g fu [wB b,w,wL row] ce=some (.ok v c)/\∃F:List Nat,v=.cel ce.length/\c=ce++[.lst (F.map nW)]/\F.length<=36/\F.Nodup/\∀y,y∈F↔y∈ck b is row by
  obtain⟨v,c,e,F,rfl,rfl,q⟩:=h;exact⟨F,iI e (aK _ _),q⟩
 unfold d_g;refine jE [some (wB b),some w,some (wL row),none,none,none] rfl ?_;refine bL (gZ aw (zero_le _)) ?_;refine ba ?_;have O0:=(Own.start ce).alloc (C.lst (([]:List Nat).map nW));refine(?_:Run _ _ (ce++[C.lst (([]:List Nat).map nW)]) _);generalize hk:ce.length=k3 at O0 ⊢;generalize ce++[C.lst (([]:List Nat).map nW)]=c0 at O0 ⊢;refine hJ (zs:=row) (en:=nW) (c1:=c0) (ja (xs:=row.map nW) (ah rfl))
  (fun d sl c=>∃F x4 x5,sl=[some (wB b),some w,some (wL row),some (.cel k3),x4,x5]/\Own ce c [(k3,C.lst (F.map nW))]/\F.Nodup/\(∀x∈F,x<b.length)/\∀y,y∈F↔(∃x∈d,y∈b.getD x [])/\is.getD y 0=0)
  ⟨[],_,_,rfl,O0,by simp,by simp,by simp⟩ ?_ ?_
 ·rintro d p r sl c e hp ⟨F,x4,x5,rfl,O,nd,lt,mem⟩;have hpb:=hr p hp;have ib:=sL (ce:=c) (b:=b) hpb;unfold Bh;refine ba ?_;refine nv (zs:=b.getD p []) (en:=nW) (c1:=c) (mV (aM (ah rfl) (ah rfl) ib))
   (fun d' sl c=>∃F x5,sl=[some (wB b),some w,some (wL row),some (.cel k3),some (nW p),x5]/\Own ce c [(k3,C.lst (F.map nW))]/\F.Nodup/\(∀x∈F,x<b.length)/\∀y,y∈F↔((∃x∈d,y∈b.getD x [])\/y∈d')/\is.getD y 0=0)
   ⟨F,x5,rfl,O,nd,lt,fun y=>by rw[mem];simp⟩ ?_ ?_
  ·rintro d' y r' sl c e' hy ⟨F,x5,rfl,O,nd,lt,mem⟩;have hyb:=hb.get hy;have hFl:=fY nd lt;have j1:=(hw.own O).ix (p:=y) (by omega);have jn:=vq (p:=y) (l:=F) O.g0;have hzF:(F.map nW).length<sizeLine:=by rw[length_map];omega
   unfold Bj;refine ba ?_;refine e8 (p:=decide (is.getD y 0=0)&&!decide (y∈F)) (ce':=c) (kU (bp (aY (aM (ah rfl) (ah rfl) j1) av (gY rfl rfl))) (fun _=>bp (aM (ah rfl) (ah rfl) jn))) (fun q=>?_) (fun q=>?_)
   ·simp only[and_eq_true,not_eq_true',decide_eq_false_iff_not,decide_eq_true_eq] at q;refine jh (w:=.non) (iC (ah rfl) (ff O.g0) (ao (ah rfl) aw) (j9 (y:=nW y) O.g0 hzF)) ?_;refine⟨F++[y],_,rfl,by rw[map_append];exact O.set0 _,?_,fun x hx=>?_,fun z=>?_⟩
    ·rw[nodup_append];exact⟨nd,by simp,fun a ha c hc=>by rw[mem_singleton] at hc;subst hc;intro e;subst e;exact q.2 ha⟩
    ·rcases mem_append.mp hx with hx|hx
     ·exact lt x hx
     ·rw[mem_singleton] at hx;subst hx;exact hyb
    ·rw[mem_append,mem_append,mem,mem_singleton];constructor
     ·rintro(⟨h1|h1,h2⟩|rfl)
      ·exact⟨.inl h1,h2⟩
      ·exact⟨.inr (.inl h1),h2⟩
      ·exact⟨.inr (.inr rfl),q.1⟩
     ·rintro⟨h1|h1|rfl,h2⟩
      ·exact .inl ⟨.inl h1,h2⟩
      ·exact .inl ⟨.inr h1,h2⟩
      ·exact .inr rfl
   ·refine fX ?_;refine⟨F,_,rfl,O,nd,lt,fun z=>?_⟩;rw[mem,mem_append,mem_singleton];constructor
    ·rintro⟨h1|h1,h2⟩
     ·exact⟨.inl h1,h2⟩
     ·exact⟨.inr (.inl h1),h2⟩
    ·rintro⟨h1|h1|rfl,h2⟩
     ·exact⟨.inl h1,h2⟩
     ·exact⟨.inr h1,h2⟩
     ·rw[decide_eq_true h2,Bool.true_and,not_eq_false',decide_eq_true_eq] at q;exact(mem z).mp q
  ·rintro sl c ⟨F,x5,rfl,O,nd,lt,mem⟩;refine⟨F,_,_,rfl,O,nd,lt,fun y=>?_⟩;rw[mem];constructor
   ·rintro⟨⟨x,hx,h⟩|h,h2⟩
    ·exact⟨⟨x,mem_append_left _ hx,h⟩,h2⟩
    ·exact⟨⟨p,by simp,h⟩,h2⟩
   ·rintro⟨⟨x,hx,h⟩,h2⟩;rcases mem_append.mp hx with hx|hx
    ·exact⟨.inl ⟨x,hx,h⟩,h2⟩
    ·rw[mem_singleton] at hx;subst hx;exact⟨.inr h,h2⟩
 ·rintro sl c ⟨F,x4,x5,rfl,O,nd,lt,mem⟩;refine bQ (w:=.cel k3) (ce':=c) (ah rfl) ?_;subst hk;exact⟨_,_,O.finO (by simp only[e7];exact aK _ _),F,rfl,rfl,le_trans (fY nd lt) h36,nd,fun y=>by rw[mem,lW hb]⟩
end
section
variable {is:List Int}
theorem bU.law(A:bU b is o p):q∈lT b is o p↔∃y∈b.getD p [],(is.set p o).getD y 0=3-o/\ck b (is.set p o) (aJ b (vS (is.set p o)) y)=[]/\q∈aJ b (vS (is.set p o)) y:=by
 have hb:=A.bd;have sym:=A.sym;have l1:=A.l1;have hT:∀x∈e_ (is.set p o) [3-o],x<b.length:=fun x hx=>by have:=CU hx;omega
 rw[A.tk];constructor
 ·rintro⟨r,hr,hq⟩;obtain⟨s,hs,es,er,hf⟩:=A.dead.mp hr;obtain⟨x,y,rx,hy,y0⟩:=A.nh s hs es;have hx:x∈r:=by rw[er];exact(iZ hb hs).mpr rx
  have hxb:x<b.length:=by rw[er] at hx;exact cb hx
  have hyp:=hf x hx y hy y0;subst hyp;have ex:is.getD x 0=3-o:=by rw[er] at hx;exact(bY (vl:=vS is) hb hs hx).trans es
  have hxp:x≠y:=fun h=>by subst h;rw[ex] at y0;exact A.H.h0 y0
  have ex1:(is.set y o).getD x 0=3-o:=by rw[A.s1,if_neg hxp];exact ex
  have hm:=mem_filter.mp hr;obtain⟨s',hs',er'⟩:=pP hm.1;have hxT:x∈aJ b (vT (e_ (is.set y o) [3-o])) s':=by rw[<- er'];exact hx
  have e1:=jg hb sym (hT s' hs') hxT;have e2:=oH (is:=is.set y o) hb l1 hxb;rw[ex1,e1,<- er'] at e2;refine⟨x,sym _ _ hy,ex1,?_,?_⟩
  ·rw[<- e2];exact of_decide_eq_true hm.2
  ·rw[<- e2];exact hq
 ·rintro⟨y,hy,ey,hn,hq⟩;have hyb:=hb.get hy;have e2:=oH (is:=is.set p o) hb l1 hyb;rw[ey] at e2;refine⟨aJ b (vS (is.set p o)) y,mem_filter.mpr ⟨?_,decide_eq_true hn⟩,hq⟩;rw[<- e2];exact pQ hb sym hT (bS.mpr ⟨by omega,ey⟩)
theorem IK{x y:List Int}(hl:x.length=y.length)(h:∀i,i<x.length->x.getD i 0=y.getD i 0):x=y:=by apply ext_getElem hl;intro i h1 h2;have:=h i h1;rw[getD_eq_getElem?_getD,getD_eq_getElem?_getD,getElem?_eq_getElem h1,getElem?_eq_getElem h2] at this;exact this
open Classical in
def jx(b:List (List Nat))(is:List Int)(o:Int)(p:Nat):Option (List Int):=if is.getD p 0=0/\ik b is o p then some (lS b is o p) else none
def mf:Option (List Int)->W
 | none=>.non
 | some l=>wS l
theorem ze(fu:Nat)(hfu:200<=fu)(B:de b)(P:aL b is o)(hp:p<b.length):d_u fu [wB b,wS is,.int o,nW p] ce=some (.ok (mf (jx b is o p)) ce):=by
 have hz:=fJ;have z2000:2000<sizeLine:=by decide
 have h36:=B.h36;have hl:=P.hl;have hlz:is.length<=sizeLine:=by omega
 have hpl:p<is.length:=by omega
 have jp:=fV (ce:=ce) (is:=is) (p:=p) hpl;unfold d_u;refine dE [some (wB b),some (wS is),some (.int o),some (nW p),none,none,none,none] rfl ?_;refine cI (p:=!decide (is.getD p 0=0)) (ce':=ce) (bp (aY (aM (ah rfl) (ah rfl) jp) av (s_ rfl rfl))) (fun q=>?_) (fun q=>?_)
 ·refine iH (bQ (w:=.non) (ce':=ce) av ?_);unfold jx;rw[if_neg (fun z=>by rw[z.1] at q;simp at q)];exact fD (by simp only[bc])
 have p0:is.getD p 0=0:=by simpa using q
 have A:=P.ly hp p0;refine dH ?_;refine bL (w:=.cel ce.length) (ce':=ce++[.lst (is.map W.int)]) (bX (ao (ah rfl) aw) (by rw[yN (xs:=is.map W.int) rfl,lU (by rw[length_map];exact hlz)])) ?_;refine ba ?_;have O0:=(Own.start ce).alloc (C.lst (is.map W.int));generalize hk:ce.length=k4 at O0 ⊢;generalize ce++[C.lst (is.map W.int)]=c0 at O0 ⊢;refine GL (w:=.int o) (k:=k4) (ij:=p) (j:=p) (ah rfl) (ah rfl) (ah rfl) O0.g0 (sY (by rw[length_map];exact hpl)) ?_;have O1:=O0.set0 (C.lst ((is.map W.int).set p (.int o)));have es:(is.map W.int).set p (.int o)=(is.set p o).map W.int:=by rw[map_set]
 rw[es] at O1 ⊢;generalize c0.set k4 (C.lst ((is.set p o).map W.int))=c1 at O1 ⊢;have l1:=A.l1;refine bL (w:=.lst []) (ce':=c1) (gD (ws:=[]) aw (zero_le _)) ?_;refine ba ?_;have S1:cS c1 (.cel k4) (is.set p o):=vi O1.g0;have ib:=sL (ce:=c1) (b:=b) hp;have hrow:(b.getD p []).length<=36:=B.row p;refine hJ (zs:=b.getD p []) (en:=nW) (c1:=c1) (mV (aM (ah rfl) (ah rfl) ib))
  (fun d sl c=>∃T x6 x7,sl=[some (wB b),some (wS is),some (.int o),some (nW p),some (.cel k4),some (wL T),x6,x7]/\c=c1/\T.length<=36*d.length/\(∀x∈T,x<b.length)/\∀q,q∈T↔∃y∈d,(is.set p o).getD y 0=3-o/\ck b (is.set p o) (aJ b (vS (is.set p o)) y)=[]/\q∈aJ b (vS (is.set p o)) y)
  ⟨[],_,_,rfl,rfl,by simp,by simp,by simp⟩ ?_ ?_
 ·rintro d y r sl c e hy ⟨T,x6,x7,rfl,rfl,lT',ltT,mT⟩;have hyb:=B.bd.get hy;have hdl:d.length<36:=by have:=congrArg List.length e;simp only[length_append,length_cons] at this;omega
  have jy:=S1.ix (p:=y) (by omega);obtain⟨F,e1,mF,lF',ltF⟩:=qu (ce:=c) fu hfu B S1 l1 hyb;obtain⟨G,e2,lG,nG,mG⟩:=pY (ce:=c) (row:=F) fu B S1 l1 ltF;have eG:decide (G=[])=decide (ck b (is.set p o) (aJ b (vS (is.set p o)) y)=[]):=by
   have:G=[]↔ck b (is.set p o) (aJ b (vS (is.set p o)) y)=[]:=by rw[ui (r':=F) (fun x=>(mF x).symm),eq_nil_iff_forall_not_mem,eq_nil_iff_forall_not_mem];exact⟨fun h x hx=>h x ((mG x).mpr hx),fun h x hx=>h x ((mG x).mp hx)⟩
   rw[Bool.eq_iff_iff,decide_eq_true_eq,decide_eq_true_eq];exact this
  have noadd:¬((is.set p o).getD y 0=3-o/\ck b (is.set p o) (aJ b (vS (is.set p o)) y)=[])->∀q,q∈T↔∃y'∈d++[y],(is.set p o).getD y' 0=3-o/\ck b (is.set p o) (aJ b (vS (is.set p o)) y')=[]/\q∈aJ b (vS (is.set p o)) y':=fun hn q=>by
   rw[mT];constructor
   ·rintro⟨y',hy',h⟩;exact⟨y',mem_append_left _ hy',h⟩
   ·rintro⟨y',hy',h⟩;rcases mem_append.mp hy' with hy'|hy'
    ·exact⟨y',hy',h⟩
    ·rw[mem_singleton] at hy';subst hy';exact absurd ⟨h.1,h.2.1⟩ hn
  have up:T.length<=36*(d++[y]).length:=by simp only[length_append,length_cons,length_nil];omega
  unfold AN;refine ba ?_;refine e8 (p:=decide ((is.set p o).getD y 0=3-o)) (ce':=c) (bp (aY (aM (ah rfl) (ah rfl) jy) (aY av (ah rfl) rfl) (gY rfl rfl))) (fun q1=>?_) (fun q1=>?_)
  ·have q1:=of_decide_eq_true q1;refine bL (w:=wL F) (ce':=c) (bE (ws:=[wB b,.cel k4,nW y]) (ao (ah rfl) (ao (ah rfl) (ao (ah rfl) aw))) rfl e1) ?_;refine ba ?_;refine e8 (p:=decide (G=[])) (ce':=c) (bp (aM (bE (ws:=[wB b,.cel k4,wL F]) (ao (ah rfl) (ao (ah rfl) (ao (ah rfl) aw))) rfl e2) (gD (ws:=[]) aw (zero_le _)) pG)) (fun q2=>?_) (fun q2=>?_)
   ·have q2:ck b (is.set p o) (aJ b (vS (is.set p o)) y)=[]:=by rw[eG] at q2;exact of_decide_eq_true q2
    have ec:fR bW (ae 5) (ae 7) [some (wB b),some (wS is),some (.int o),some (nW p),some (.cel k4),some (wL T),some (nW y),some (wL F)] c=some (.ok (wL (T++F)) c):=by have:=qc (sl:=[some (wB b),some (wS is),some (.int o),some (nW p),some (.cel k4),some (wL T),some (nW y),some (wL F)]) (ce:=c) (a:=ae 5) (b:=ae 7) (ah rfl) (ah rfl) (xs:=T.map nW) (ys:=F.map nW) rfl rfl (by rw[length_map,length_map];omega);rw[this];simp only[wL,map_append]
    refine oA (w:=wL (T++F)) (ce':=c) ec ?_;refine⟨T++F,_,_,rfl,rfl,by simp only[length_append,length_cons,length_nil];omega,fun x hx=>?_,fun q=>?_⟩
    ·rcases mem_append.mp hx with hx|hx
     ·exact ltT x hx
     ·exact ltF x hx
    ·rw[mem_append,mT,mF];constructor
     ·rintro(⟨y',hy',h⟩|h)
      ·exact⟨y',mem_append_left _ hy',h⟩
      ·exact⟨y,by simp,q1,q2,h⟩
     ·rintro⟨y',hy',h⟩;rcases mem_append.mp hy' with hy'|hy'
      ·exact .inl ⟨y',hy',h⟩
      ·rw[mem_singleton] at hy';subst hy';exact .inr h.2.2
   ·refine fX ⟨T,_,_,rfl,rfl,up,ltT,noadd fun h=>?_⟩;rw[eG,decide_eq_true h.2] at q2;cases q2
  ·exact fX ⟨T,_,_,rfl,rfl,up,ltT,noadd fun h=>of_decide_eq_false q1 h.1⟩
 ·rintro sl c ⟨T,x6,x7,rfl,rfl,lT',ltT,mT⟩;have mT':∀q,q∈T↔q∈lT b is o p:=fun q=>by rw[mT,A.law]
  refine hJ (zs:=T) (en:=nW) (c1:=c) (ja (xs:=T.map nW) (ah rfl))
   (fun d sl c=>∃js x6,sl=[some (wB b),some (wS is),some (.int o),some (nW p),some (.cel k4),some (wL T),x6,x7]/\Own ce c [(k4,C.lst (js.map W.int))]/\js.length=b.length/\(∀q∈d,js.getD q 0=0)/\∀q,q∉d->js.getD q 0=(is.set p o).getD q 0)
   ⟨is.set p o,_,rfl,O1,l1,by simp,fun _ _=>rfl⟩ ?_ ?_
  ·rintro d y r sl c e hy ⟨js,x6,rfl,O,lj,z1,z2⟩;have hyl:y<js.length:=by rw[lj];exact ltT y hy
   unfold AO;refine ba ?_;refine zx (w:=.int 0) (k:=k4) (ij:=y) (j:=y) av (ah rfl) (ah rfl) O.g0 (sY (by rw[length_map];exact hyl)) ?_;refine⟨js.set y 0,_,rfl,by rw[map_set];exact O.set0 _,by rw[length_set];exact lj,fun q hq=>?_,fun q hq=>?_⟩
   ·rw[nr];split
    ·rfl
    ·rename_i hn;rcases mem_append.mp hq with hq|hq
     ·exact z1 q hq
     ·rw[mem_singleton] at hq;exact absurd ⟨hq.symm,hyl⟩ hn
   ·rw[nr,if_neg (fun x=>hq (by rw[<- x.1];simp))];exact z2 q fun x=>hq (mem_append_left _ x)
  ·rintro sl c ⟨js,x6,rfl,O,lj,z1,z2⟩;have ej:js=lS b is o p:=by
    refine IK (by rw[lj,iX];exact hl.symm) fun i hi=>?_;rw[A.get (by omega)]
    by_cases h:i∈T
    ·have h':=(mT' i).mp h;rw[z1 i h,if_neg (A.tkh h').2.2,if_pos h']
    ·have h':i∉lT b is o p:=fun z=>h ((mT' i).mpr z);rw[z2 i h,A.s1,if_neg h']
   subst ej;have S2:cS c (.cel k4) (lS b is o p):=vi O.g0;obtain⟨F,e1,mF,lF',ltF⟩:=qu (ce:=c) fu hfu B S2 lj hp;obtain⟨G,e2,lG,nG,mG⟩:=pY (ce:=c) (row:=F) fu B S2 lj ltF;have eG:G=[]↔¬ik b is o p:=by unfold ik;rw[ui (r:=aJ b (vS (lS b is o p)) p) (r':=F) (fun x=>(mF x).symm),Classical.not_not,eq_nil_iff_forall_not_mem,eq_nil_iff_forall_not_mem];exact⟨fun h x hx=>h x ((mG x).mpr hx),fun h x hx=>h x ((mG x).mp hx)⟩
   subst hk;refine cI (p:=decide (G=[])) (ce':=c) (bp (aM (bE (ws:=[wB b,.cel ce.length,wL F]) (ao (ah rfl) (ao (ah rfl) (ao (bE (ws:=[wB b,.cel ce.length,nW p]) (ao (ah rfl) (ao (ah rfl) (ao (ah rfl) aw))) rfl e1) aw))) rfl e2) (gD (ws:=[]) aw (zero_le _)) pG)) (fun q2=>?_) (fun q2=>?_)
   ·refine iH (bQ (w:=.non) (ce':=c) av ?_);unfold jx;rw[if_neg (fun z=>(eG.mp (of_decide_eq_true q2)) z.2)];exact O.finC (by simp only[bc])
   ·refine dH ?_;have hf:ik b is o p:=Classical.byContradiction fun h=>of_decide_eq_false q2 (eG.mpr h);refine bQ (w:=wS (lS b is o p)) (ce':=c) (bX (ao (ah rfl) aw) (rY O.g0 (by omega))) ?_;unfold jx;rw[if_pos ⟨p0,hf⟩];exact O.finC (by simp only[mf,bc];exact bA _ _)
end
theorem sk{x y:Sl->M W}{p q:Bool}(ha:x sl ce=some (.ok (.bl p) c1))(hb:p=false->y sl c1=some (.ok (.bl q) c1)):gK x y sl ce=some (.ok (.bl (p||q)) c1):=by
 cases p with
 | true=>simp only[gK,az,ha,VS.ret,Bool.true_or]
 | false=>simp only[gK,az,ha,hb rfl,Bool.false_or]
theorem yo{x y:Sl->M W}{p q:Bool}(ha:x sl ce=some (.ok (.bl p) c1))(hb:p=true->y sl c1=some (.ok (.bl q) c1)):iq x y sl ce=some (.ok (.bl (p&&q)) c1):=by
 cases p with
 | true=>simp only[iq,az,ha,hb rfl,Bool.true_and]
 | false=>simp only[iq,az,ha,VS.ret,Bool.false_and]
theorem CS(h:p<ns.length)(c:Ce){i:Int}(ei:i=(p:Int)):aE c (sW ns) (.int i)=some (.int (ns.getD p 0)):=by subst ei;show aE c (.lst (ns.map W.int)) (nW p)=_;rw[kJ (xs:=ns.map W.int) rfl,getElem?_map,getD_eq_getElem?_getD,getElem?_eq_getElem h];rfl
theorem pX(fu:Nat)(hk:k<=10000):∃v,d_h fu [sW ns,nW k] ce=some (.ok (.int v) ce):=by
 have l1:cg [sW ns] ce=some (.ok (nW ns.length) ce):=by simp[cg];rfl
 by_cases h:k<ns.length
 ·refine⟨ns.getD k 0,?_⟩;unfold d_h;refine dE [some (sW ns),some (nW k)] rfl ?_;refine cI (p:=true) (ce':=ce) (bp (aY (ah rfl) (bX (ws:=[sW ns]) (ao (ah rfl) aw) l1) ((lN (i:=k) (j:=ns.length) rfl rfl).trans (by rw[decide_eq_true (by omega)])))) (fun _=>?_) (fun q=>by cases q);exact iH (bQ (aM (ah rfl) (ah rfl) (CS h ce rfl)) (fD (by simp only[bc])))
 ·have m1:cU 71 (k:Int):=.inl (by omega);have m2:cU (71*(k:Int)) (k:Int):=.inl (by omega);have m3:cU 7 (k:Int):=.inl (by omega);refine⟨71*(k:Int)*(k:Int)+7*(k:Int),?_⟩;unfold d_h;refine dE [some (sW ns),some (nW k)] rfl ?_;refine cI (p:=false) (ce':=ce) (bp (aY (ah rfl) (bX (ws:=[sW ns]) (ao (ah rfl) aw) l1) ((lN (i:=k) (j:=ns.length) rfl rfl).trans (by rw[decide_eq_false (by omega)])))) (fun q=>by cases q) (fun _=>dH ?_);exact bQ (aY (aY (aY av (ah rfl) (gA rfl rfl m1)) (ah rfl) (gA rfl rfl m2)) (aY av (ah rfl) (gA rfl rfl m3)) rfl) (fD (by simp only[bc]))
theorem CQ(fu:Nat)(cc:Int)(hk:k<=10000):∃v:Nat,v<65519/\d_ba fu [.int cc,nW k] ce=some (.ok (nW v) ce):=by have m1:cU 2018 (k:Int):=.inl (by omega);have m2:cU (2018*(k:Int)) (k:Int):=.inl (by omega);have m3:cU (cc % 99991+1) (48271+2018*(k:Int)*(k:Int)):=.inl (by omega);have m4:cU 7919 (k:Int):=.inl (by omega);generalize hone:(cc % 99991+1)*(48271+2018*(k:Int)*(k:Int)) % 65521=one;have m5:cU one one:=.inl (by omega);obtain⟨v,hv,ev⟩:=yC (one*one+7919*(k:Int)) (n:=65519) (by omega);have e1:dY (.int (one*one+7919*(k:Int))) (.int 65519)=some (nW v):=w4 (n:=65519) (by omega) ev;refine⟨v,hv,?_⟩;unfold d_ba;refine dE [some (.int cc),some (nW k),none] rfl ?_;refine bL (w:=.int one) (ce':=ce) (aY (aY (aY (aY (ah rfl) av (p6 rfl rfl (by omega))) av rfl) (aY av (aY (aY av (ah rfl) (gA rfl rfl m1)) (ah rfl) (gA rfl rfl m2)) rfl) (gA rfl rfl m3)) av ((p6 rfl rfl (by omega)).trans (by rw[hone]))) ?_;refine ba ?_;exact bQ (aY (aY (aY (ah rfl) (ah rfl) (gA rfl rfl m5)) (aY av (ah rfl) (gA rfl rfl m4)) rfl) av e1) (fD (by simp only[bc,nW]))
theorem jX(fu:Nat)(cc:Int)(hk:k<=10000){m:Nat}(hm:0<m):∃v:Nat,v<m/\∀(sl:Sl) (a b:Sl->M W),a sl ce=some (.ok (.int cc) ce)->b sl ce=some (.ok (nW k) ce)->∀d:Sl->M W,d sl ce=some (.ok (nW m) ce)->aF dY (aP 2 (d_ba fu) (af a (af b ak))) d sl ce=some (.ok (nW v) ce):=by obtain⟨u,_,e⟩:=CQ (ce:=ce) fu cc hk;obtain⟨v,hv,ev⟩:=yC (u:Int) (n:=m) hm;exact⟨v,hv,fun sl a b ha hb d hd=>aY (bE (ws:=[.int cc,nW k]) (ao ha (ao hb aw)) rfl e) hd (w4 hm ev)⟩
theorem HV{rows:List (List Nat)}(hp:p<rows.length)(hq:q<rows.length)(hpq:p≠q):kx rows p q=kx rows q p:=by
 unfold kx;have e1:(fZ rows p q).getD q []=rows.getD q []:=by rw[m7 hp,if_neg (fun h=>hpq h.symm)]
 have e2:(fZ rows q p).getD p []=rows.getD p []:=by rw[m7 hq,if_neg hpq]
 show(fZ rows p q).set q ((fZ rows p q).getD q []++[p])=(fZ rows q p).set p ((fZ rows q p).getD p []++[q]);rw[e1,e2];unfold fZ;exact set_comm _ _ hpq
def fQ:List (Nat×Nat):=[(2,2),(3,2),(5,1),(3,3),(4,2),(2,4),(7,1),(3,4),(4,3),(6,2),(5,2),(4,4)]
theorem G0(n:Nat):(List.range n).map (dm [])=List.replicate n []:=by
 apply ext_getElem?;intro i
 by_cases hi:i<n
 ·simp[hi,dm]
 ·rw[getElem?_eq_none (by simp;omega),getElem?_eq_none (by simp;omega)]
theorem vE(n16:n<=16)(L:LsOk n ls)(i:Nat):(((List.range n).map (dm ls)).getD i []).length<=60:=by
 by_cases hi:i<n
 ·have:((List.range n).map (dm ls)).getD i []=dm ls i:=by simp[getD_eq_getElem?_getD,hi]
  rw[this];have:=fY (wJ L i) fun x hx=>(pR L hx).1;omega
 ·rw[getD_eq_getElem?_getD,getElem?_eq_none (by simp;omega)];simp
theorem Ee:((List.range n).map fun i=>cG (((List.range n).map (dm ls)).getD i []))=gU n ls:=by unfold gU;apply map_congr_left;intro i hi;have hi:=mem_range.mp hi;simp[getD_eq_getElem?_getD,hi]
theorem GZ(fu:Nat)(cc:Int)(m1:1<=most)(m12:most<=12):∃n ls,d_t fu [.int cc,nW most] ce=some (.ok (wB (gU n ls)) ce)/\4<=n/\n<=16/\LsOk n ls:=by
 have hz:=fJ;have z2:2<=sizeLine:=by decide
 obtain⟨i0,hi0,ei0⟩:=jX (ce:=ce) fu cc (k:=0) (by omega) (m:=most) (by omega);obtain⟨wd,hg,hw,s1,s2,s3,s4,s5⟩:∃wd hg:Nat,fQ[i0]?=some (wd,hg)/\2<=wd/\wd<=7/\hg<=4/\4<=wd*hg/\wd*hg<=16:=by
  have:∀i,i<12->∃p,fQ[i]?=some p/\2<=p.1/\p.1<=7/\p.2<=4/\4<=p.1*p.2/\p.1*p.2<=16:=by
   intro i hi;have hm:∀p∈fQ,2<=p.1/\p.1<=7/\p.2<=4/\4<=p.1*p.2/\p.1*p.2<=16:=by decide
   exact⟨fQ[i]'hi,getElem?_eq_getElem hi,hm _ (getElem_mem hi)⟩
  obtain⟨⟨a,b⟩,h⟩:=this i0 (by omega);exact⟨a,b,h⟩
 have hix:aE ce (.lst (fQ.map pW)) (nW i0)=some (pW (wd,hg)):=by rw[kJ (xs:=fQ.map pW) rfl,getElem?_map,hw];rfl
 have cm:cU (wd:Int) (hg:Int):=.inl (by omega);have emul:ee (nW wd) (nW hg)=some (nW (wd*hg)):=(gA (x:=nW wd) (y:=nW hg) (i:=wd) (j:=hg) rfl rfl cm).trans (by simp[nW]);generalize wd*hg=n at s4 s5 emul;have e17:∀k:Nat,k<16->cU 17 (k:Int):=fun k hk=>.inl (by omega)
 suffices hs:∃w c,d_t fu [.int cc,nW most] ce=some (.ok w c)/\∃ls,w=wB (gU n ls)/\c=ce/\LsOk n ls by
  obtain⟨w,c,e,ls,rfl,rfl,h⟩:=hs;exact⟨n,ls,e,s4,s5,h⟩
 unfold d_t;refine jE [some (.int cc),some (nW most),none,none,none,none,none,none,none,none] rfl ?_;refine bL (w:=.lst (fQ.map pW)) (ce':=ce) ?_ ?_
 ·have two:∀(sl:Sl) (x y:Nat),bK (af (dC (.int x)) (af (dC (.int y)) ak)) sl ce=some (.ok (pW (x,y)) ce):=fun sl x y=>eD (ws:=[nW x,nW y]) (ao av (ao av aw)) z2;refine gD (ws:=fQ.map pW) ?_ (by show 12<=sizeLine;decide);exact ao (two _ 2 2) (ao (two _ 3 2) (ao (two _ 5 1) (ao (two _ 3 3) (ao (two _ 4 2) (ao (two _ 2 4) (ao (two _ 7 1) (ao (two _ 3 4) (ao (two _ 4 3) (ao (two _ 6 2) (ao (two _ 5 2) (ao (two _ 4 4) aw)))))))))))
 refine ba ?_;refine tX (x:=nW wd) (y:=nW hg) (c1:=ce) (aM (ah rfl) (ei0 _ _ _ (ah rfl) av _ (ah rfl)) hix) ?_;refine(?_:Run _ [some (.int cc),some (nW most),some (.lst (fQ.map pW)),some (nW wd),some (nW hg),none,none,none,none,none] ce _);refine bL (Gq (ce:=ce) (n:=n) (sM (ao (aY (ah rfl) (ah rfl) emul) aw) (by omega)) (by omega)) ?_;refine ba ?_;have hn1000:n<=1000:=by omega
 refine hJ (zs:=List.range n) (en:=nW) (c1:=bC ce (List.replicate n []) []) (kI (ao (aY (ah rfl) (ah rfl) emul) aw) hn1000)
  (fun d sl c=>∃ls x6 x7 x8 x9,sl=[some (.int cc),some (nW most),some (.lst (fQ.map pW)),some (nW wd),some (nW hg),some (gi ce n),x6,x7,x8,x9]/\c=bC ce ((List.range n).map (dm ls)) []/\LsOk n ls/\∀p∈ls,p.2<d.length)
  ⟨[],_,_,_,_,rfl,by rw[G0],⟨by simp,by simp⟩,by simp⟩ ?_ ?_
 ·rintro d one r sl c e ho ⟨ls,x6,x7,x8,x9,rfl,rfl,L,hls⟩;have ho:=mem_range.mp ho;have ed:=tM e;rw[ed,length_range] at hls;unfold AZ;refine ba ?_;refine nv (zs:=List.range one) (en:=nW) (c1:=bC ce ((List.range n).map (dm ls)) []) (kI (ao (ah rfl) aw) (by omega))
   (fun d' sl c=>∃ls x7 x8 x9,sl=[some (.int cc),some (nW most),some (.lst (fQ.map pW)),some (nW wd),some (nW hg),some (gi ce n),some (nW one),x7,x8,x9]/\c=bC ce ((List.range n).map (dm ls)) []/\LsOk n ls/\∀p∈ls,p.2<one\/(p.2=one/\p.1<d'.length))
   ⟨ls,_,_,_,rfl,rfl,L,fun p hp=>.inl (hls p hp)⟩ ?_ ?_
  ·rintro d' ot r' sl c e' hot ⟨ls,x7,x8,x9,rfl,rfl,L,hls⟩;have hot:=mem_range.mp hot;have ed':=tM e';rw[ed',length_range] at hls;generalize hc1:bC ce ((List.range n).map (dm ls)) []=c1;obtain⟨v1,_,ev1⟩:=jX (ce:=c1) fu cc (k:=9+17*one+ot) (by omega) (m:=7) (by omega);obtain⟨v2,_,ev2⟩:=jX (ce:=c1) fu cc (k:=1) (by omega) (m:=4) (by omega);have m17:=e17 one (by omega);have ek:∀x8 x9,aF cu (aF cu (dC (.int 9)) (aF ee (dC (.int 17)) (ae 6))) (ae 7) [some (.int cc),some (nW most),some (.lst (fQ.map pW)),some (nW wd),some (nW hg),some (gi ce n),some (nW one),some (nW ot),x8,x9] c1=some (.ok (nW (9+17*one+ot)) c1):=fun x8 x9=>by
    have a1:cu (.int 9) (.int (17*(one:Int)))=some (nW (9+17*one)):=by simp[cu,i2,nW]
    have a2:cu (nW (9+17*one)) (nW ot)=some (nW (9+17*one+ot)):=by simp[cu,i2,nW]
    exact aY (aY av (aY av (ah rfl) (gA rfl rfl m17)) a1) (ah rfl) a2
   have tail:∀(β:Bool) (x9:Option W),Run (bz (dB (ae 8)) (ay (c7 (dM dO (aC aE (ae 5) (ae 6)) (af (ae 7) ak))) (c7 (dM dO (aC aE (ae 5) (ae 7)) (af (ae 6) ak)))) bI)
     [some (.int cc),some (nW most),some (.lst (fQ.map pW)),some (nW wd),some (nW hg),some (gi ce n),some (nW one),some (nW ot),some (.bl β),x9] c1
     (Nx fun sl c=>∃ls x7 x8 x9,sl=[some (.int cc),some (nW most),some (.lst (fQ.map pW)),some (nW wd),some (nW hg),some (gi ce n),some (nW one),x7,x8,x9]/\c=bC ce ((List.range n).map (dm ls)) []/\LsOk n ls/\∀p∈ls,p.2<one\/(p.2=one/\p.1<(d'++[ot]).length)):=by
    intro β x9;have hdl:(d'++[ot]).length=ot+1:=by rw[ed'];simp
    refine e8 (p:=β) (ce':=c1) (bp (ah rfl)) (fun _=>?_) (fun _=>?_)
    ·subst hc1;have hz2:∀i,(((List.range n).map (dm ls)).getD i []).length<1000:=fun i=>by have:=vE s5 L i;omega
     refine DK (Kk (ce:=ce) (n:=n) (mS:=5) (rows:=(List.range n).map (dm ls)) (gs:=[]) (sl:=[some (.int cc),some (nW most),some (.lst (fQ.map pW)),some (nW wd),some (nW hg),some (gi ce n),some (nW one),some (nW ot),some (.bl β),x9]) (a:=6) (b:=7) (p:=one) (q:=ot) rfl rfl rfl (by simp) (by omega) (by omega) hz2) ?_;refine⟨ls++[(ot,one)],_,_,_,rfl,?_,⟨?_,fun p hp=>?_⟩,fun p hp=>?_⟩
     ·rw[HV (by simp;omega) (by simp;omega) (by omega),Gp n ls (by omega) (by omega) (by omega)]
     ·rw[nodup_append];refine⟨L.nd,by simp,fun a ha c hc=>?_⟩;rw[mem_singleton] at hc;subst hc;intro e;subst e;have:=hls _ ha;simp only at this;omega
     ·rcases mem_append.mp hp with hp|hp
      ·exact L.lt p hp
      ·rw[mem_singleton] at hp;subst hp;exact⟨hot,ho⟩
     ·rw[hdl];rcases mem_append.mp hp with hp|hp
      ·have:=hls p hp;omega
      ·rw[mem_singleton] at hp;subst hp;exact .inr ⟨rfl,lt_succ_self _⟩
    ·subst hc1;exact fX ⟨ls,_,_,_,rfl,rfl,L,fun p hp=>by rw[hdl];have:=hls p hp;omega⟩
   have hwd:(0:Int)<(wd:Int):=by omega
   unfold A0;refine ba ?_;refine bL (sk (aY (aY (ah rfl) (ah rfl) (tf (i:=one) (j:=ot) rfl rfl)) (ah rfl) (gY rfl rfl)) (fun _=>yo (aY (aY (ah rfl) (ah rfl) (tf (i:=one) (j:=ot) rfl rfl)) av (gY rfl rfl)) (fun _=>aY (aY (ah rfl) (ah rfl) (p6 (i:=one) (j:=wd) rfl rfl hwd)) av (sj rfl rfl)))) ?_;refine ba ?_;generalize (decide ((one:Int)-(ot:Int)=(wd:Int))||(decide ((one:Int)-(ot:Int)=1)&&decide ((0:Int)<(one:Int) % (wd:Int))))=β;refine bL (aY (ev1 _ _ _ (ah rfl) (ek _ _) _ av) av (gY rfl rfl)) ?_;refine ba ?_;generalize decide ((v1:Int)=0)=δ;have mid:∀β:Bool,Run (ay (bz (dB (aF dn (aF dY (aP 2 (d_ba fu) (af (ae 0) (af (dC (.int 1)) ak))) (dC (.int 4))) (dC (.int 1)))) (bf 8 (iq (ae 8) (nN (ae 9)))) bI)
     (bz (dB (ae 8)) (ay (c7 (dM dO (aC aE (ae 5) (ae 6)) (af (ae 7) ak))) (c7 (dM dO (aC aE (ae 5) (ae 7)) (af (ae 6) ak)))) bI))
     [some (.int cc),some (nW most),some (.lst (fQ.map pW)),some (nW wd),some (nW hg),some (gi ce n),some (nW one),some (nW ot),some (.bl β),some (.bl δ)] c1
     (Nx fun sl c=>∃ls x7 x8 x9,sl=[some (.int cc),some (nW most),some (.lst (fQ.map pW)),some (nW wd),some (nW hg),some (gi ce n),some (nW one),x7,x8,x9]/\c=bC ce ((List.range n).map (dm ls)) []/\LsOk n ls/\∀p∈ls,p.2<one\/(p.2=one/\p.1<(d'++[ot]).length)):=by
    intro β;refine cI (p:=decide ((v2:Int)=1)) (ce':=c1) (bp (aY (ev2 _ _ _ (ah rfl) av _ av) av (gY rfl rfl))) (fun _=>?_) (fun _=>dH (tail β _));refine bL (yo (ah rfl) (fun _=>C4 (ah rfl))) ?_;exact tail _ _
   refine cI (p:=decide ((v2:Int)=0)) (ce':=c1) (bp (aY (ev2 _ _ _ (ah rfl) av _ av) av (gY rfl rfl))) (fun _=>?_) (fun _=>dH (mid β));refine bL (sk (ah rfl) (fun _=>ah rfl)) ?_;exact mid _
  ·rintro sl c ⟨ls,x7,x8,x9,rfl,rfl,L,hls⟩;refine⟨ls,_,_,_,_,rfl,rfl,L,fun p hp=>?_⟩;rw[ed,length_append,length_range,length_cons,length_nil];have:=hls p hp;omega
 ·rintro sl c ⟨ls,x6,x7,x8,x9,rfl,rfl,L,hls⟩;have er:=Jk (ce:=ce) (gs:=[]) (mS:=5) (rows:=(List.range n).map (dm ls)) (n:=n) (by simp) (by omega) (vE s5 L) (sl:=[some (.int cc),some (nW most),some (.lst (fQ.map pW)),some (nW wd),some (nW hg),some (gi ce n),x6,x7,x8,x9]) rfl;rw[Ee] at er;have hlb:(gU n ls).length<=sizeLine:=by simp[gU];omega
  refine bQ (bX (ao er aw) (v9 hlb)) ?_;have Oe:Own ce (bC ce ((List.range n).map (dm ls)) []) []:=⟨⟨_,rfl⟩,by simp,by simp,by simp⟩
  exact⟨_,_,Oe.finC (DL _ _),ls,rfl,rfl,L⟩
theorem Bx(B:de b):aL b (b.map fun _=>(0:Int)) 1:=by
 have z:∀q,(b.map fun _=>(0:Int)).getD q 0=0:=fun q=>by
  rw[getD_eq_getElem?_getD,getElem?_map];cases b[q]?<;>rfl
 exact⟨B.bd,B.sym,by simp,⟨by decide,by decide,by decide⟩,fun q _=>.inl (z q),fun s _ e=>by rw[z] at e;omega,fun s _ e=>by rw[z] at e;omega⟩
theorem aL.of1{is:List Int}(P:aL b is 1)(ho:o=1\/o=2):aL b is o:=by
 rcases ho with rfl|rfl
 ·exact P
 ·exact P.flip
theorem aL.to1{is:List Int}(P:aL b is o)(ho:o=1\/o=2):aL b is 1:=by
 rcases ho with rfl|rfl
 ·exact P
 ·exact P.flip
theorem GY{is js:List Int}(P:aL b is o)(hp:p<b.length)(h:jx b is o p=some js):aL b js o:=by
 unfold jx at h;split at h
 ·rename_i z;cases h;exact P.next (P.ly hp z.1) z.2
 ·cases h
theorem HU(fu:Nat)(hfu:200<=fu)(B:de b){at':Nat}(hat:at'<=100):∃is,d_m fu [sW ns,nW at',wB b] ce=some (.ok (wS is) ce)/\aL b is 1:=by
 have hz:=fJ;have h36:=B.h36;have pos:=B.pos;have hbz:b.length<=sizeLine:=by omega
 suffices hs:∃w c,d_m fu [sW ns,nW at',wB b] ce=some (.ok w c)/\∃is,w=wS is/\c=ce/\aL b is 1 by
  obtain⟨w,c,e,is,rfl,rfl,h⟩:=hs;exact⟨is,e,h⟩
 unfold d_m;refine jE [some (sW ns),some (nW at'),some (wB b),none,none,none,none] rfl ?_;refine bL (w:=wS (b.map fun _=>0)) (ce':=ce) (bX (ao (wa (zs:=b) (en:=wT) (f:=fun _=>0) (n6 (ah rfl)).is hbz (fun x hx=>av)) aw) (v8 (by rw[length_map];exact hbz))) ?_;refine ba ?_;obtain⟨c4,e4⟩:=pX (ce:=ce) fu (ns:=ns) (k:=at') (by omega);obtain⟨m,hm,em⟩:=jX (ce:=ce) fu c4 (k:=4) (by omega) (m:=b.length*1+6) (by omega);have e5:∀x3 x4 x5 x6,aF cu (bg cg (af (ae 2) ak)) (dC (.int 6)) [some (sW ns),some (nW at'),some (wB b),x3,x4,x5,x6] ce=some (.ok (nW (b.length*1+6)) ce):=fun x3 x4 x5 x6=>by
  have l1:=kT (ce:=ce) (b:=b);exact aY (bX (ws:=[wB b]) (ao (ah rfl) aw) l1) av ((m_ (x:=nW b.length) (y:=.int 6) (i:=b.length) (j:=6) rfl rfl).trans (by simp[nW]))
 have m1000:m<=1000:=by omega
 refine hJ (zs:=List.range m) (en:=nW) (c1:=ce) (kI (ao (em _ _ _ (bE (ws:=[sW ns,nW at']) (ao (ah rfl) (ao (ah rfl) aw)) rfl e4) av _ (e5 _ _ _ _)) aw) m1000)
  (fun d sl c=>∃is x4 x5 x6,sl=[some (sW ns),some (nW at'),some (wB b),some (wS is),x4,x5,x6]/\c=ce/\aL b is 1)
  ⟨_,_,_,_,rfl,rfl,Bx B⟩ ?_ ?_
 ·rintro d k r sl c e hk ⟨is,x4,x5,x6,rfl,rfl,P⟩;have hk:=mem_range.mp hk;have a1:cu (nW at') (.int 1)=some (nW (at'+1)):=m_ (i:=at') (j:=1) rfl rfl;have a2:cu (nW (at'+1)) (nW k)=some (nW (at'+1+k)):=(m_ (x:=nW (at'+1)) (y:=nW k) (i:=(at'+1:Nat)) (j:=k) rfl rfl).trans (by simp[nW]);have a3:cu (.int 2) (nW k)=some (nW (2+k)):=(m_ (x:=.int 2) (y:=nW k) (i:=2) (j:=k) rfl rfl).trans (by simp[nW]);obtain⟨c5,ec⟩:=pX (ce:=c) fu (ns:=ns) (k:=at'+1+k) (by omega);obtain⟨h2,hh2,eh2⟩:=jX (ce:=c) fu c5 (k:=2+k) (by omega) (m:=2) (by omega);obtain⟨p,hp,ep⟩:=jX (ce:=c) fu c5 (k:=3) (by omega) (m:=b.length) pos;have ho:(1:Int)+(h2:Int)=1\/(1:Int)+(h2:Int)=2:=by omega
  have Po:=P.of1 ho;have e6:=ze (ce:=c) fu hfu B Po hp;unfold A_;refine ba ?_;refine bL (w:=.int c5) (ce':=c) (bE (ws:=[sW ns,nW (at'+1+k)]) (ao (ah rfl) (ao (aY (aY (ah rfl) av a1) (ah rfl) a2) aw)) rfl ec) ?_;refine ba ?_;refine bL (w:=mf (jx b is (1+(h2:Int)) p)) (ce':=c) (bE (ws:=[wB b,wS is,.int (1+(h2:Int)),nW p]) (ao (ah rfl) (ao (ah rfl) (ao (aY av (eh2 _ _ _ (ah rfl) (aY av (ah rfl) a3) _ av) rfl) (ao (ep _ _ _ (ah rfl) av _ (bX (ws:=[wB b]) (ao (ah rfl) aw) kT)) aw)))) rfl e6) ?_;refine ba ?_;cases hl:jx b is (1+(h2:Int)) p with
  | none =>
   refine e8 (p:=false) (ce':=c) (bp (eA (ah rfl) rfl)) (fun q=>by cases q) (fun _=>fX ?_);exact⟨is,_,_,_,rfl,rfl,P⟩
  | some js =>
   refine e8 (p:=true) (ce':=c) (bp (eA (ah rfl) rfl)) (fun _=>?_) (fun q=>by cases q);refine oA (w:=wS js) (ce':=c) (ah rfl) ?_;exact⟨js,_,_,_,rfl,rfl,(GY Po hp hl).to1 ho⟩
 ·rintro sl c ⟨is,x4,x5,x6,rfl,rfl,P⟩;refine bQ (w:=wS is) (ce':=c) (ah rfl) ?_;exact⟨_,_,fD (by simp only[bc];exact bA _ _),is,rfl,rfl,P⟩
theorem qt{g:Nat->Bool}{f:Nat->Bool×bZ}{ds:List (Option Nat)}:∀(l:List Nat) (acc:bZ),(cZ g f ds l acc).1=true->∃p∈l,(g p=true/\cZ g f ds l acc=(true,[(ds,some p)]))\/(g p=false/\(f p).1=true/\cZ g f ds l acc=(true,(ds,some p)::(f p).2))
 | [],acc,h=>by simp[cZ] at h
 | p::ps,acc,h=>by
  unfold cZ at h ⊢
  by_cases h1:g p=true
  ·rw[if_pos h1];exact⟨p,mem_cons_self,.inl ⟨h1,rfl⟩⟩
  ·rw[if_neg h1] at h ⊢;have h1':g p=false:=by simpa using h1
   by_cases h2:(f p).1=true
   ·rw[if_pos h2];exact⟨p,mem_cons_self,.inr ⟨h1',h2,rfl⟩⟩
   ·rw[if_neg h2] at h ⊢;obtain⟨p',hp,r⟩:=qt ps _ h;exact⟨p',mem_cons_of_mem _ hp,r⟩
theorem qz{g:Nat->Bool}{f:Nat->Bool×bZ}{ds:List (Option Nat)}:∀(l:List Nat) (acc:bZ),(cZ g f ds l acc).1=false->(∀p∈l,g p=false/\(f p).1=false)/\cZ g f ds l acc=(false,acc++(l.map fun p=>(f p).2).flatten)
 | [],acc,h=>by simp[cZ]
 | p::ps,acc,h=>by
  unfold cZ at h ⊢
  by_cases h1:g p=true
  ·rw[if_pos h1] at h;cases h
  ·rw[if_neg h1] at h ⊢;have h1':g p=false:=by simpa using h1
   by_cases h2:(f p).1=true
   ·rw[if_pos h2] at h;cases h
   ·rw[if_neg h2] at h ⊢;have h2':(f p).1=false:=by simpa using h2
    obtain⟨r1,r2⟩:=qz ps _ h;refine⟨fun x hx=>?_,by rw[r2,map_cons,flatten_cons,append_assoc]⟩;rcases mem_cons.mp hx with rfl|hx
    ·exact⟨h1',h2'⟩
    ·exact r1 x hx
theorem qr{f:Option Nat×List Int->Bool×bZ}{ds:List (Option Nat)}:∀(l:List (Option Nat×List Int)) (acc:bZ),(dJ f ds l acc).1=true->(∀st∈l,(f st).1=true)/\dJ f ds l acc=(true,acc++(l.map fun p=>(f p).2).flatten)
 | [],acc,h=>by simp[dJ]
 | p::ps,acc,h=>by
  unfold dJ at h ⊢
  by_cases h1:(f p).1=false
  ·rw[if_pos h1] at h;cases h
  ·rw[if_neg h1] at h ⊢;have h1':(f p).1=true:=by simpa using h1
   obtain⟨r1,r2⟩:=qr ps _ h;refine⟨fun x hx=>?_,by rw[r2,map_cons,flatten_cons,append_assoc]⟩;rcases mem_cons.mp hx with rfl|hx
   ·exact h1'
   ·exact r1 x hx
theorem qy{f:Option Nat×List Int->Bool×bZ}{ds:List (Option Nat)}:∀(l:List (Option Nat×List Int)) (acc:bZ),(dJ f ds l acc).1=false->∃st∈l,(f st).1=false/\dJ f ds l acc=(false,(ds,st.1)::(f st).2)
 | [],acc,h=>by simp[dJ] at h
 | p::ps,acc,h=>by
  unfold dJ at h ⊢
  by_cases h1:(f p).1=false
  ·rw[if_pos h1];exact⟨p,mem_cons_self,h1,rfl⟩
  ·rw[if_neg h1] at h ⊢;obtain⟨st,hs,r⟩:=qy ps _ h;exact⟨st,mem_cons_of_mem _ hs,r⟩
def kN:Option Nat->Int
 | none=>99
 | some p=>p
def dZ(l:List (Option Nat)):List Int:=l.map kN
theorem tO:∀(a:List Int) {x y:List Int},fj x y=true->fj (a++x) (a++y)=true
 | [],_,_,h=>h
 | z::a,x,y,h=>by
  have:=tO a h;simp only[cons_append,fj,this,decide_true,Bool.and_self,Bool.or_true]
theorem yn:∀{x y:List Int},fj x y=true->x≠y
 | x,[],h,e=>by subst e;simp[fj] at h
 | [],y::ys,_,e=>by cases e
 | x::xs,y::ys,h,e=>by
  injection e with e1 e2;subst e1;simp only[fj,Int.lt_irrefl,decide_false,Bool.false_or,decide_true,Bool.true_and] at h;exact yn h e2
structure bT (ds:List (Option Nat)) (w:bZ):Prop where
 pre:∀e∈w,∃t,e.1=ds++t
 ris:w.Pairwise fun x y=>fj (dZ x.1) (dZ y.1)=true
theorem bT.nil(ds:List (Option Nat)):bT ds []:=⟨by simp,.nil⟩
theorem bT.head{d:Option Nat}{x:Option Nat}{w:bZ}(h:bT (ds++[x]) w):bT ds ((ds,d)::w):=by
 refine⟨fun e he=>?_,pairwise_cons.mpr ⟨fun e he=>?_,h.ris⟩⟩
 ·rcases mem_cons.mp he with rfl|he
  ·exact⟨[],by simp⟩
  ·obtain⟨t,e⟩:=h.pre e he;exact⟨x::t,by rw[e];simp⟩
 ·obtain⟨t,e⟩:=h.pre e he;rw[e];have:=tO (dZ ds) (x:=[]) (y:=kN x::dZ t) rfl;simpa[dZ] using this
theorem bT.flat{α:Type}{ds:List (Option Nat)}{k:α->Option Nat}{f:α->bZ}:∀{l:List α},(∀a∈l,bT (ds++[k a]) (f a))->l.Pairwise (fun a b=>kN (k a)<kN (k b))->bT ds (l.map f).flatten
 | [],_,_=>bT.nil ds
 | a::l,h,hp=>by
  rw[pairwise_cons] at hp;have ih:=bT.flat (l:=l) (fun x hx=>h x (mem_cons_of_mem _ hx)) hp.2;have h0:=h a mem_cons_self;rw[map_cons,flatten_cons];refine⟨fun e he=>?_,pairwise_append.mpr ⟨h0.ris,ih.ris,fun x hx y hy=>?_⟩⟩
  ·rcases mem_append.mp he with he|he
   ·obtain⟨t,e⟩:=h0.pre e he;exact⟨k a::t,by rw[e];simp⟩
   ·exact ih.pre e he
  ·obtain⟨t,e⟩:=h0.pre x hx;obtain⟨w,hw,hy⟩:=mem_flatten.mp hy;obtain⟨a',ha',rfl⟩:=mem_map.mp hw;obtain⟨t',e'⟩:=(h a' (mem_cons_of_mem _ ha')).pre y hy;rw[e,e'];have:fj (kN (k a)::dZ t) (kN (k a')::dZ t')=true:=by simp only[fj,decide_eq_true (hp.1 a' ha'),Bool.true_or]
   have:=tO (dZ ds) this;simpa[dZ] using this
theorem fG{is:List Int}:(cf b q is).Pairwise (·<·):=List.Pairwise.filter _ (List.Pairwise.filter _ pairwise_lt_range)
theorem ie{is:List Int}:(eW b o q cm is).Pairwise (·<·):=List.Pairwise.filter _ (List.Pairwise.filter _ fG)
theorem ym{is:List Int}{h:Int}(h16:b.length<=16):(stM b h cm is).Pairwise fun x y=>kN x.1<kN y.1:=by
 unfold stM;refine pairwise_append.mpr ⟨?_,pairwise_singleton _ _,fun x hx y hy=>?_⟩
 ·rw[pairwise_map];exact(List.Pairwise.filter _ pairwise_lt_range).imp fun {a b} h=>by show(a:Int)<(b:Int);omega
 ·obtain⟨p,hp,rfl⟩:=mem_map.mp hx;rw[mem_singleton] at hy;subst hy;have:=mem_range.mp (qv hp).1;show(p:Int)<99;omega
theorem oF(h16:b.length<=16):∀(r:Nat) (t:Bool) (pre:List (List Int)) (is:List Int) (ds:List (Option Nat)),bT ds (aR b o q most r t pre is ds).2
 | 0,_,_,_,ds=>bT.nil ds
 | r+1,true,pre,is,ds=>by
  unfold aR;split
  ·exact bT.nil ds
  ·cases e:(cZ (fun p=>decide ((lS b is o p).getD q 0=0)) (fun p=>aR b o q most r false (pre++[is]) (lS b is o p) (ds++[some p])) ds (eW b o q (pre++[is]) is) []).1 with
   | true =>
    obtain⟨p,hp,⟨_,h⟩|⟨_,_,h⟩⟩:=qt _ _ e
    ·rw[h];exact bT.head (x:=none) (bT.nil _)
    ·rw[h];exact bT.head (oF h16 r false _ _ _)
   | false =>
    obtain⟨_,h⟩:=qz _ _ e;rw[h];exact bT.flat (k:=some) (fun p _=>oF h16 r false _ _ _) (ie.imp fun {a b} h=>by show(a:Int)<(b:Int);omega)
 | r+1,false,pre,is,ds=>by
  unfold aR;split
  ·exact bT.nil ds
  ·cases e:(dJ (fun st=>aR b o q most r true (pre++[is]) st.2 (ds++[st.1])) ds (stM b (3-o) (pre++[is]) is) []).1 with
   | true =>
    obtain⟨_,h⟩:=qr _ _ e;rw[h];exact bT.flat (k:=Prod.fst) (fun st _=>oF h16 r true _ _ _) (ym h16)
   | false =>
    obtain⟨st,_,_,h⟩:=qy _ _ e;rw[h];exact bT.head (oF h16 r true _ _ _)
theorem zK{is:List Int}{h:Int}(e:∀x,x∈cm↔x∈cm'):cV b cm is h l=cV b cm' is h l:=by unfold cV;apply filter_congr;intro p _;rw[show decide (lS b is h p∈cm)=decide (lS b is h p∈cm') from decide_eq_decide.mpr (e _)]
theorem zH{is:List Int}(e:∀x,x∈cm↔x∈cm'):eW b o q cm is=eW b o q cm' is:=by unfold eW;rw[zK e]
theorem zG{is:List Int}{h:Int}(e:∀x,x∈cm↔x∈cm'):stM b h cm is=stM b h cm' is:=by unfold stM;rw[zK e]
theorem rK{is:List Int}(P:aL b is o)(hs:is.getD q 0=3-o)(hq:q<b.length)(hp:p<b.length)(hc:fc b is o p=true):((lS b is o p).getD q 0=0/\(cf b q is).length<=1)\/((lS b is o p).getD q 0=3-o/\(cf b q is).length<=(cf b q (lS b is o p)).length+1):=by
 obtain⟨p0,f⟩:=bJ.mp hc;have A:=P.ly hp p0;have nd:(cf b q is).Nodup:=fG.imp fun h=>ne_of_lt h
 by_cases ht:q∈lT b is o p
 ·refine .inl ⟨A.tk0 ht,?_⟩;obtain⟨y,hy,ey,er,hqy⟩:=A.near.mp ht;have hyb:y<b.length:=A.bd.get hy;have e:cf b q is=ck b is (aJ b (vS is) y):=by unfold cf;rw[jg A.bd A.sym hyb hqy]
  rw[<- e] at er;have:=length_erase (l:=cf b q is) (a:=p);rw[er] at this;split at this
  ·simp only[length_nil] at this;omega
  ·simp only[length_nil] at this;omega
 ·have hqp:q≠p:=fun e=>by rw[e] at hs;exact A.H.h0 (hs.symm.trans p0)
  have e1:(lS b is o p).getD q 0=3-o:=by rw[A.old hqp ht];exact hs
  refine .inr ⟨e1,?_⟩;have e2:=A.brsL e1;show _<=(ck b (lS b is o p) (aJ b (vS (lS b is o p)) q)).length+1;rw[e2];have:(cf b q is).filter (fun y=>!decide (y=p))=(cf b q is).erase p:=by
   rw[nd.erase_eq_filter];apply filter_congr;intro x _
   by_cases e:x=p<;>simp[e]
  show _<=((cf b q is).filter fun y=>!decide (y=p)).length+1;rw[this];have:=length_erase (l:=cf b q is) (a:=p);split at this<;>omega
theorem vD{is:List Int}(P:aL b is o)(hs:is.getD q 0=3-o)(hq:q<b.length)(h3:2<(cf b q is).length)(cm:List (List Int)):eW b o q cm is=[]:=by
 rw[eq_nil_iff_forall_not_mem];intro p hp;obtain⟨hpb,hc⟩:=oG hp;have h2:=(mem_filter.mp hp).2;rw[or_eq_true,decide_eq_true_eq,decide_eq_true_eq] at h2;rcases rK P hs hq hpb hc with ⟨_,h⟩|⟨e,h⟩
 ·omega
 ·rcases h2 with h2|h2
  ·rw[e] at h2;have:=P.H.h0;omega
  ·omega
theorem vC{is:List Int}(P:aL b is o)(hs:is.getD q 0=3-o)(h:st∈stM b (3-o) cm is):st.2.getD q 0=3-o:=by
 unfold stM at h;rcases mem_append.mp h with h|h
 ·obtain⟨p,hp,rfl⟩:=mem_map.mp h;obtain⟨h1,h2⟩:=qv hp;obtain⟨p0,f⟩:=bJ.mp h2;have A:=P.flip.ly (mem_range.mp h1) p0;have hqp:q≠p:=fun e=>by rw[e,p0] at hs;exact P.H.h0 hs.symm
  show(lS b is (3-o) p).getD q 0=_;rw[A.old hqp fun ht=>?_]
  ·exact hs
  ·have:=(A.tkh ht).2.1;rw[hs] at this;have hh:=P.H.ho;omega
 ·rw[mem_singleton] at h;subst h;exact hs
section
variable {is:List Int}
open Classical in
def i9(b:List (List Nat))(cm:List (List Int))(is:List Int)(o:Int)(p:Nat):Option (List Int):=if (fc b is o p&&!decide (lS b is o p∈cm))=true then some (lS b is o p) else none
theorem Ed(l:List (List Int)):gc false ce .non (aU l)=some (.bl false):=by
 have h2:(l.map wS).all (bG 8)=true:=by rw[all_eq_true];intro w hw;obtain⟨y,_,rfl⟩:=mem_map.mp hw;exact nz y 7
 have h3:(l.map wS).any (aN · .non)=false:=by rw[any_eq_false];intro w hw;obtain⟨y,_,rfl⟩:=mem_map.mp hw;simp[wS,aN]
 have h1:bG 8 (drf ce .non)=true:=rfl;have h4:drf ce .non=.non:=rfl;simp only[gc,aU,fz,cH,h4] at *;simp only[h1,h2,h3,Bool.and_self,if_true];rfl
theorem zJ(fu:Nat)(hfu:200<=fu)(B:de b)(P:aL b is o)(hp:p<b.length){l:List (List Int)}:d_l fu [wB b,aU (l++[is]),.int o,nW p] ce=some (.ok (mf (i9 b (l++[is]) is o p)) ce):=by
 have e1:=ze (ce:=ce) fu hfu B P hp;unfold d_l;refine dE [some (wB b),some (aU (l++[is])),some (.int o),some (nW p),none] rfl ?_;refine bL (bE (ws:=[wB b,wS is,.int o,nW p]) (ao (ah rfl) (ao (aM (ah rfl) (eA av rfl) iY) (ao (ah rfl) (ao (ah rfl) aw)))) rfl e1) ?_;refine ba ?_
 by_cases hc:is.getD p 0=0/\ik b is o p
 ·have e:jx b is o p=some (lS b is o p):=if_pos hc;rw[e];refine cI (p:=decide (lS b is o p∈l++[is])) (ce':=ce) (bp (aM (ah rfl) (ah rfl) (wG false _ _))) (fun h=>?_) (fun h=>?_)
  ·have e2:i9 b (l++[is]) is o p=none:=by unfold i9;rw[h];simp
   rw[e2];exact iH (bQ av (fD (by simp only[mf,bc])))
  ·have e2:i9 b (l++[is]) is o p=some (lS b is o p):=by unfold i9;rw[h,bJ.mpr hc];simp
   rw[e2];exact dH (bQ (ah rfl) (fD (by simp only[mf,bc];exact bA _ _)))
 ·have e:jx b is o p=none:=if_neg hc;have e2:i9 b (l++[is]) is o p=none:=by unfold i9;rw[show fc b is o p=false from eq_false_iff.mpr fun h=>hc (bJ.mp h)];simp
  rw[e,e2];refine cI (p:=false) (ce':=ce) (bp (aM (ah rfl) (ah rfl) (Ed _))) (fun h=>by cases h) (fun _=>?_);exact dH (bQ (ah rfl) (fD (by simp only[mf,bc])))
theorem zF{t:Nat->Bool}:(l++[p]).filter t=if t p=true then l.filter t++[p] else l.filter t:=by
 rw[filter_append];split
 ·rename_i h;simp only[filter_cons,h,if_true,filter_nil]
 ·rename_i h;simp only[filter_cons,if_neg h,filter_nil,append_nil]
theorem zE{d:List Nat}(h:(fc b is o p&&!decide (lS b is o p∈cm))=true):cV b cm is o (d++[p])=cV b cm is o d++[p]:=by unfold cV;rw[filter_append];congr 1;simp only[filter_cons,h,if_true,filter_nil]
theorem zD{d:List Nat}(h:¬(fc b is o p&&!decide (lS b is o p∈cm))=true):cV b cm is o (d++[p])=cV b cm is o d:=by unfold cV;rw[filter_append];simp only[filter_cons,if_neg h,filter_nil,append_nil]
def fh(x:Option Nat×List (List Int)):W:=.tup [dW x.1,aU x.2]
theorem Ec(n:Nat)(l:List (List Int)):bc n (aU l):=by simp only[aU,bc];exact g_ n (fun x=>by simp only[wS,bc];exact bA _ _) l
theorem tH(n:Nat)(x:Option Nat×List (List Int)):bc n (fh x):=by simp only[fh,bc,du];exact⟨gJ n _,Ec n _,trivial⟩
def nx(cm:List (List Int))(st:Option Nat×List Int):List (List Int):=match st.1 with
 | none=>cm
 | some _=>cm++[st.2]
def fy(b:List (List Nat))(h:Int)(cm:List (List Int))(is:List Int):List (Option Nat×List (List Int)):=(stM b h cm is).map fun st=>(st.1,nx cm st)
theorem zC(fu:Nat)(hfu:200<=fu)(B:de b)(P:aL b is o){l:List (List Int)}(hll:l.length<=100):d_q fu [wB b,aU (l++[is]),.int o] ce=some (.ok (.lst ((fy b o (l++[is]) is).map fh)) ce):=by
 have z200:200<sizeLine:=by decide
 have z2:2<=sizeLine:=by decide
 have z1:1<=sizeLine:=by decide
 have h36:=B.h36;have ed:(fy b o (l++[is]) is).map fh=((cV b (l++[is]) is o (List.range b.length)).map fun p=>fh (some p,l++[is]++[lS b is o p]))++[fh (none,l++[is])]:=by unfold fy stM;rw[map_append,map_append,map_map,map_map];rfl
 rw[ed];unfold d_q;refine dE [some (wB b),some (aU (l++[is])),some (.int o),none,none,none] rfl ?_;refine bL (gZ aw (zero_le _)) ?_;refine ba ?_;have O0:=(Own.start ce).alloc (C.lst []);refine hJ (zs:=List.range b.length) (en:=nW) (c1:=ce++[.lst []]) (kI (ao (bX (ws:=[wB b]) (ao (ah rfl) aw) kT) aw) (by omega))
  (fun d sl c=>∃x4 x5,sl=[some (wB b),some (aU (l++[is])),some (.int o),some (.cel ce.length),x4,x5]/\Own ce c [(ce.length,C.lst ((cV b (l++[is]) is o d).map fun p=>fh (some p,l++[is]++[lS b is o p])))])
  ⟨_,_,rfl,O0⟩ ?_ ?_
 ·rintro d p r sl c e hp ⟨x4,x5,rfl,O⟩;have hpb:=mem_range.mp hp;have hdl:d.length<100:=by have:=congrArg List.length e;simp only[length_append,length_cons,length_range] at this;omega
  have e1:=zJ (ce:=c) (l:=l) fu hfu B P hpb;unfold A9;refine ba ?_;refine bL (bE (ws:=[wB b,aU (l++[is]),.int o,nW p]) (ao (ah rfl) (ao (ah rfl) (ao (ah rfl) (ao (ah rfl) aw)))) rfl e1) ?_;refine ba ?_
  by_cases hb:(fc b is o p&&!decide (lS b is o p∈l++[is]))=true
  ·have e2:i9 b (l++[is]) is o p=some (lS b is o p):=if_pos hb;rw[e2];refine e8 (p:=true) (ce':=c) (bp (eA (ah rfl) rfl)) (fun _=>?_) (fun h=>by cases h);have hn:(cV b (l++[is]) is o d).length<=d.length:=lX;have ea:=j9 (y:=fh (some p,l++[is]++[lS b is o p])) O.g0 (by rw[length_map];omega);refine jh (w:=.non) (iC (ah rfl) (ff O.g0) (ao (eD (ws:=[nW p,aU (l++[is]++[lS b is o p])]) (ao (ah rfl) (ao (pO (ah rfl) (ah rfl) (by rw[length_append];simp only[length_cons,length_nil];omega)) aw)) z2) aw) ea) ?_;refine⟨_,_,rfl,?_⟩;have e3:cV b (l++[is]) is o (d++[p])=cV b (l++[is]) is o d++[p]:=zE hb;rw[e3,map_append];exact O.set0 _
  ·have e2:i9 b (l++[is]) is o p=none:=if_neg hb;rw[e2];refine e8 (p:=false) (ce':=c) (bp (eA (ah rfl) rfl)) (fun h=>by cases h) (fun _=>fX ?_);refine⟨_,_,rfl,?_⟩;have e3:cV b (l++[is]) is o (d++[p])=cV b (l++[is]) is o d:=zD hb;rw[e3];exact O
 ·rintro sl c ⟨x4,x5,rfl,O⟩;have hn:(cV b (l++[is]) is o (List.range b.length)).length<=b.length:=by have:=lX (b:=b) (cm:=l++[is]) (is:=is) (h:=o) (l:=List.range b.length);rwa [length_range] at this
  refine bQ (qc (ah rfl) (gD (ws:=[fh (none,l++[is])]) (ao (eD (ws:=[.non,aU (l++[is])]) (ao av (ao (ah rfl) aw)) z2) aw) z1) (ff O.g0) rfl (by rw[length_map];simp only[length_cons,length_nil];omega)) (O.finC ?_);rw[<- ed];simp only[bc];exact g_ _ (tH _) _
def cF(b:List (List Nat))(o:Int)(q kd ku:Nat):W:=.tup [wB b,.int o,nW q,.cel kd,.cel ku]
theorem bx:aE c (cF b o q kd ku) (.int 0)=some (wB b):=eS (xs:=[wB b,.int o,nW q,.cel kd,.cel ku]) (j:=0) rfl rfl
theorem mi:aE c (cF b o q kd ku) (.int 1)=some (.int o):=eS (xs:=[wB b,.int o,nW q,.cel kd,.cel ku]) (j:=1) rfl rfl
theorem qR:aE c (cF b o q kd ku) (.int 2)=some (nW q):=eS (xs:=[wB b,.int o,nW q,.cel kd,.cel ku]) (j:=2) rfl rfl
theorem xf(fu:Nat)(hfu:200<=fu)(B:de b)(hl:is.length=b.length)(hq:q<b.length):∃F G,bR (d_n fu) [wB b,wS is,nW q] ce=some (.ok (wL F) ce)/\bR (d_g fu) [wB b,wS is,wL F] ce=some (.ok (wL G) ce)/\G.length=(cf b q is).length/\cG G=cf b q is/\G.length<=36:=by
 obtain⟨F,e1,mF,lF',ltF⟩:=qu (ce:=ce) fu hfu B (o3 is) hl hq;obtain⟨G,e2,lG,nG,mG⟩:=pY (ce:=ce) (row:=F) fu B (o3 is) hl ltF;have em:∀y,y∈G↔y∈cf b q is:=fun y=>by rw[mG,ui mF];rfl
 have nd:(cf b q is).Nodup:=fG.imp fun h=>ne_of_lt h;have pm:G.Perm (cf b q is):=A3 nG nd em;refine⟨F,G,e1,e2,pm.length_eq,?_,lG⟩;rw[qm nG (fun x hx=>fH ((em x).mp hx)) (n:=b.length)];show _=(gp b _).filter _;unfold gp;rw[filter_filter];apply filter_congr;intro x hx;rw[Bool.eq_iff_iff,decide_eq_true_eq,em];unfold cf ck gp;rw[filter_filter,mem_filter];exact⟨fun h=>h.2,fun h=>⟨hx,h⟩⟩
theorem uh(fu:Nat)(hfu:200<=fu)(B:de b)(hl:is.length=b.length)(hq:q<b.length):d_a fu [cF b o q kd ku,wS is] ce=some (.ok (nW (cf b q is).length) ce):=by obtain⟨F,G,e1,e2,e3,_,_⟩:=xf (ce:=ce) fu hfu B hl hq;rw[<- e3];unfold d_a;refine dE [some (cF b o q kd ku),some (wS is)] rfl ?_;exact bQ (bX (ws:=[wL G]) (ao (bE (ws:=[wB b,wS is,wL F]) (ao (aM (ah rfl) av bx) (ao (ah rfl) (ao (bE (ws:=[wB b,wS is,nW q]) (ao (aM (ah rfl) av bx) (ao (ah rfl) (ao (aM (ah rfl) av qR) aw))) rfl e1) aw))) rfl e2) aw) oy) (fD (by simp only[nW,bc]))
theorem GX{e:Sl->M W}{x y z:W}{r:Nat}{b:DS}(he:e sl ce=some (.ok (.tup [x,y,z]) c1))(h:Run b (((sl.set p (some x)).set q (some y)).set r (some z)) c1 Q) :
  Run (ay (gj e (gT 3 (eE (gN p) (eE (gN q) (eE (gN r) jc))))) b) sl ce Q :=
 iV (sl':=((sl.set p (some x)).set q (some y)).set r (some z)) (ce':=c1) (by
  have:gT 3 (eE (gN p) (eE (gN q) (eE (gN r) jc))) (.tup [x,y,z]) sl c1=some (((sl.set p (some x)).set q (some y)).set r (some z),c1):=rfl;simp only[gj,cL,he,this]) h
def eN(b:List (List Nat))(o:Int)(q:Nat)(cm:List (List Int))(is:List Int):List (Option Nat×List (List Int)):=(eW b o q cm is).map fun p=>(some p,cm++[lS b is o p])
theorem yk(fu:Nat)(hfu:200<=fu)(B:de b)(P:aL b is o)(hq:q<b.length){l:List (List Int)}(hll:l.length<=100):bR (d_x fu) [cF b o q kd ku,aU (l++[is])] ce=some (.ok (.lst ((eN b o q (l++[is]) is).map fh)) ce):=by
 have z200:200<sizeLine:=by decide
 have z5:5<=sizeLine:=by decide
 have z2:2<=sizeLine:=by decide
 have h36:=B.h36;have hbq:=tJ (b:=b) (q:=q) (is:=is);refine iI ?_ (g_ _ (tH _) _);unfold d_x;refine dE [some (cF b o q kd ku),some (aU (l++[is])),none,none,none,none,none,none] rfl ?_;refine GX (x:=wB b) (y:=.int o) (z:=nW q) (c1:=ce) (GO (xs:=[wB b,.int o,nW q,.cel kd,.cel ku]) (n:=3) (ah rfl) av (by show 3<5;omega) z5) ?_;refine ba ?_;refine bL (gZ aw (zero_le _)) ?_;refine ba ?_;have O0:=(Own.start ce).alloc (C.lst []);obtain⟨F,G,e1,e2,e3,e4,lG⟩:=xf (ce:=ce++[.lst []]) fu hfu B P.hl hq;have e5:fE bW [wL G] (ce++[.lst []])=some (.ok (wL (cf b q is)) (ce++[.lst []])):=by rw[Hx (by omega),e4,nc (by rw[length_map];omega)]
 refine hJ (zs:=cf b q is) (en:=nW) (c1:=ce++[.lst []]) (ja (bX (ws:=[wL G]) (ao (bE (ws:=[wB b,wS is,wL F]) (ao (ah rfl) (ao (aM (ah rfl) (eA av rfl) iY) (ao (bE (ws:=[wB b,wS is,nW q]) (ao (ah rfl) (ao (aM (ah rfl) (eA av rfl) iY) (ao (ah rfl) aw))) rfl e1) aw))) rfl e2) aw) e5))
  (fun d sl c=>∃x6 x7,sl=[some (cF b o q kd ku),some (aU (l++[is])),some (wB b),some (.int o),some (nW q),some (.cel ce.length),x6,x7]/\Own ce c [(ce.length,C.lst ((((cV b (l++[is]) is o d).filter fun p=>decide ((lS b is o p).getD q 0=0)||decide (((cf b q (lS b is o p)).length:Int)<=1)).map fun p=>(some p,l++[is]++[lS b is o p])).map fh))])
  ⟨_,_,rfl,O0⟩ ?_ ?_
 ·rintro d p r sl c e hp ⟨x6,x7,rfl,O⟩;have hpb:=fH hp;have hdl:d.length<100:=by have:=congrArg List.length e;simp only[length_append,length_cons] at this;omega
  have e1:=zJ (ce:=c) (l:=l) fu hfu B P hpb;have hls:(lS b is o p).length=b.length:=by rw[iX];exact P.hl
  have e6:=uh (ce:=c) (o:=o) (kd:=kd) (ku:=ku) (is:=lS b is o p) fu hfu B hls hq;unfold AM;refine ba ?_;refine bL (bE (ws:=[wB b,aU (l++[is]),.int o,nW p]) (ao (ah rfl) (ao (ah rfl) (ao (ah rfl) (ao (ah rfl) aw)))) rfl e1) ?_;refine ba ?_
  by_cases hb:(fc b is o p&&!decide (lS b is o p∈l++[is]))=true
  ·have e2:i9 b (l++[is]) is o p=some (lS b is o p):=if_pos hb;rw[e2];have jq:=fV (ce:=c) (is:=lS b is o p) (p:=q) (by omega);have e3:cV b (l++[is]) is o (d++[p])=cV b (l++[is]) is o d++[p]:=zE hb;refine e8 (p:=(true&&(decide ((lS b is o p).getD q 0=0)||decide (((cf b q (lS b is o p)).length:Int)<2)))) (ce':=c) (kU (bp (eA (ah rfl) rfl)) (fun _=>jI (bp (aY (aM (ah rfl) (ah rfl) jq) av (gY rfl rfl))) (fun _=>bp (aY (bE (ws:=[cF b o q kd ku,wS (lS b is o p)]) (ao (ah rfl) (ao (ah rfl) aw)) rfl e6) av (lN rfl rfl))))) (fun ht=>?_) (fun hf=>fX ?_)
   ·have ht':(decide ((lS b is o p).getD q 0=0)||decide (((cf b q (lS b is o p)).length:Int)<=1))=true:=by rw[Bool.true_and,or_eq_true,decide_eq_true_eq,decide_eq_true_eq] at ht;rw[or_eq_true,decide_eq_true_eq,decide_eq_true_eq];omega
    have hn:((cV b (l++[is]) is o d).filter fun p=>decide ((lS b is o p).getD q 0=0)||decide (((cf b q (lS b is o p)).length:Int)<=1)).length<=d.length:=le_trans (length_filter_le _ _) lX;have ea:=j9 (y:=fh (some p,l++[is]++[lS b is o p])) O.g0 (by rw[length_map,length_map];omega);refine jh (w:=.non) (iC (ah rfl) (ff O.g0) (ao (eD (ws:=[nW p,aU (l++[is]++[lS b is o p])]) (ao (ah rfl) (ao (pO (ah rfl) (ah rfl) (by rw[length_append];simp only[length_cons,length_nil];omega)) aw)) z2) aw) ea) ?_;refine⟨_,_,rfl,?_⟩;rw[e3,zF,if_pos ht',map_append,map_append];exact O.set0 _
   ·have hf':¬(decide ((lS b is o p).getD q 0=0)||decide (((cf b q (lS b is o p)).length:Int)<=1))=true:=by rw[Bool.true_and,or_eq_false_iff,decide_eq_false_iff_not,decide_eq_false_iff_not] at hf;rw[or_eq_true,decide_eq_true_eq,decide_eq_true_eq];omega
    refine⟨_,_,rfl,?_⟩;rw[e3,zF,if_neg hf'];exact O
  ·have e2:i9 b (l++[is]) is o p=none:=if_neg hb;rw[e2];refine e8 (p:=(false&&false)) (ce':=c) (kU (bp (eA (ah rfl) rfl)) (fun h=>by cases h)) (fun h=>by cases h) (fun _=>fX ?_);refine⟨_,_,rfl,?_⟩;have e3:cV b (l++[is]) is o (d++[p])=cV b (l++[is]) is o d:=zD hb;rw[e3];exact O
 ·rintro sl c ⟨x6,x7,rfl,O⟩;exact bQ (w:=.cel ce.length) (ce':=c) (ah rfl) (O.finO (by simp only[e7];exact g_ _ (tH _) _))
end
def gI:Option Nat->Key
 | none=>.inr none
 | some p=>.inl p
theorem yj:∀{x y:Option Nat},gI x=gI y->x=y
 | none,none,_=>rfl
 | none,some _,e=>by cases e
 | some _,none,e=>by cases e
 | some p,some p',e=>by
  have:(p:Int)=p':=Sum.inl.inj e;rw[show p=p' by omega]
theorem zB:∀{x y:List (Option Nat)},x.map gI=y.map gI->x=y
 | [],[],_=>rfl
 | [],_::_,e=>by simp at e
 | _::_,[],e=>by simp at e
 | a::x,b::y,e=>by
  rw[map_cons,map_cons] at e;injection e with e1 e2;rw[yj e1,zB e2]
theorem pU(d:Option Nat):fK (dW d)=some (gI d):=by cases d<;>rfl
theorem yi:∀l:List (Option Nat),lI (l.map dW)=some (l.map gI)
 | []=>rfl
 | d::l=>by simp only[map_cons,lI,pU,yi l]
theorem tG(l:List (Option Nat)):kP (aI l)=some (l.map gI):=yi l
theorem oE{κ α:Type}[DecidableEq κ]{k:κ}{v:α}:∀{l:List (κ×α)},(l.map (·.1)).Nodup->(k,v)∈l->(l.find? fun kv=>decide (kv.1=k)).map (·.2)=some v
 | [],_,h=>by simp at h
 | x::l,nd,h=>by
  rw[map_cons,nodup_cons] at nd;rcases mem_cons.mp h with rfl|h
  ·simp
  ·have:¬x.1=k:=fun e=>nd.1 (by rw[e];exact mem_map.mpr ⟨_,h,rfl⟩);rw[find?_cons];simp only[this,decide_false];exact oE nd.2 h
def cN(L:List (Option Nat×List (List Int))):List (Key×W):=L.map fun x=>(gI x.1,aU x.2)
def cJ(w:bZ):List (List Key×W):=w.map fun e=>(e.1.map gI,dW e.2)
theorem vB:∀L:List (Option Nat×List (List Int)),iM fK (L.map fh)=some (cN L)
 | []=>rfl
 | x::L=>by
  have h:=vB L;rw[map_cons];unfold iM;rw[h];simp only[fh,nE,bind_some,pU];rfl
theorem vA:∀w:bZ,iM kP (w.map bF)=some (cJ w)
 | []=>rfl
 | x::w=>by
  have h:=vA w;rw[map_cons];unfold iM;rw[h];simp only[bF,nE,bind_some,tG];rfl
section
variable {L:List (Option Nat×List (List Int))} {w:bZ}
theorem su(nd:(L.map (·.1)).Nodup):((cN L).map (·.1)).Nodup:=by
 have:(cN L).map (·.1)=(L.map (·.1)).map gI:=by unfold cN;rw[map_map,map_map];rfl
 rw[this];exact A6 nd fun x y=>yj
theorem r_(nd:(w.map (·.1)).Nodup):((cJ w).map (·.1)).Nodup:=by
 have:(cJ w).map (·.1)=(w.map (·.1)).map (List.map gI):=by unfold cJ;rw[map_map,map_map];rfl
 rw[this];exact A6 nd fun x y=>zB
theorem xI(nd:(L.map (·.1)).Nodup):mJ [.lst (L.map fh)] c=some (.ok (.cel c.length) (c++[.dct (cN L)])):=by have h:cH c (.lst (L.map fh))=some (L.map fh):=rfl;simp only[mJ,mK,h,vB];rw[if_pos (su nd)];exact if_pos (zero_le _)
theorem zA{x:W}(h:cH c x=some (w.map bF))(nd:(w.map (·.1)).Nodup):lL [x] c=some (.ok (.cel c.length) (c++[.dtp (cJ w)])):=by simp only[lL,mK,h,vA];rw[if_pos (r_ nd)];exact if_pos (zero_le _)
theorem xb(g:c[k]?=some (.dct (cN L)))(nd:(L.map (·.1)).Nodup){d:Option Nat}{p:List (List Int)}(h:(d,p)∈L):mB c (.cel k) (dW d)=some (aU p):=by have:gm (cN L) (gI d)=some (aU p):=oE (su nd) (mem_map.mpr ⟨_,h,rfl⟩);simp only[mB,pU,sC g,this]
theorem vQ(g:c[k]?=some (.dct (cN L)))(nd:(L.map (·.1)).Nodup){d:Option Nat}{p:List (List Int)}(h:(d,p)∈L):iR true c (dW d) (.cel k)=some (.bl false):=by have:gm (cN L) (gI d)=some (aU p):=oE (su nd) (mem_map.mpr ⟨_,h,rfl⟩);simp only[iR,pU,sC g,this];rfl
theorem mR(g:c[k]?=some (.dtp (cJ w)))(nd:(w.map (·.1)).Nodup){d:Option Nat}(h:(ds,d)∈w):i_ c (.cel k) (aI ds)=some (dW d):=by have:valG (cJ w) (ds.map gI)=some (dW d):=oE (r_ nd) (mem_map.mpr ⟨_,h,rfl⟩);simp only[i_,tG,sg g,this]
theorem vP(g:c[k]?=some (.dtp (cJ w)))(nd:(w.map (·.1)).Nodup){d:Option Nat}(h:(ds,d)∈w):lz true c (aI ds) (.cel k)=some (.bl false):=by have:valG (cJ w) (ds.map gI)=some (dW d):=oE (r_ nd) (mem_map.mpr ⟨_,h,rfl⟩);simp only[lz,tG,sg g,this];rfl
end
theorem bT.nd{w:bZ}(h:bT ds w):(w.map (·.1)).Nodup:=by unfold List.Nodup;rw[pairwise_map];exact h.ris.imp fun {x y} q e=>yn q (congrArg dZ e)
theorem xH{α:Type}{f:α->Option Nat}{l:List α}(h:l.Pairwise fun x y=>kN (f x)<kN (f y)):(l.map f).Nodup:=by
 unfold List.Nodup;rw[pairwise_map];exact h.imp fun {x y} q e=>by have e':=congrArg kN e;omega
theorem De{is:List Int}:((eN b o q cm is).map (·.1)).Nodup:=by unfold eN;rw[map_map];exact xH (f:=some) (ie.imp fun {a b} h=>by show(a:Int)<(b:Int);omega)
theorem Dd(h16:b.length<=16){h:Int}{is:List Int}:((fy b h cm is).map (·.1)).Nodup:=by unfold fy;rw[map_map];exact xH (f:=Prod.fst) (ym h16)
structure gL (c:Ce) (kd ku:Nat) (WB:bZ) (u:List (List (Option Nat))):Prop where
 d:c[kd]?=some (.dtp (cJ WB))
 u:c[ku]?=some (.lst (u.map aI))
variable {WB:bZ}
theorem gL.lt(h:gL c kd ku WB u):ku<c.length:=(List.getElem?_eq_some_iff.mp h.u).1
theorem gL.ne(h:gL c kd ku WB u):ku≠kd:=fun e=>by
 have h1:=h.d;rw[<- e,h.u] at h1;cases h1
theorem gL.set(h:gL c kd ku WB u)(v:List (List (Option Nat))):gL (c.set ku (.lst (v.map aI))) kd ku WB v :=
 ⟨by rw[getElem?_set_ne h.ne];exact h.d,getElem?_set_self h.lt⟩
theorem gL.app(h:gL c kd ku WB u)(t:Ce):gL (c++t) kd ku WB u :=
 ⟨by rw[getElem?_append_left (List.getElem?_eq_some_iff.mp h.d).1];exact h.d,by rw[getElem?_append_left h.lt];exact h.u⟩
theorem xG(n:Nat)(l:List (Option Nat)):bc n (aI l):=by simp only[aI,bc];exact g_ n (gJ n) l
def la(P:List (List Int))(i:List Int)(st:Option Nat×List Int):List (List Int):=match st.1 with
 | none=>P
 | some _=>P++[i]
theorem xF{P:List (List Int)}{i:List Int}{h:Int}(hs:st∈stM b h cm i):nx (P++[i]) st=la P i st++[st.2]:=by
 unfold stM at hs;rcases mem_append.mp hs with hs|hs
 ·obtain⟨p,_,rfl⟩:=mem_map.mp hs;rfl
 ·rw[mem_singleton] at hs;subst hs;rfl
theorem xE{P:List (List Int)}{i:List Int}{h:Int}(hs:st∈stM b h cm i)(e:∀x,x∈P++[i]↔x∈pre++[i])(x:List Int):x∈la P i st++[st.2]↔x∈pre++[i]++[st.2]:=by
 unfold stM at hs;rcases mem_append.mp hs with hs|hs
 ·obtain⟨p,_,rfl⟩:=mem_map.mp hs;show x∈(P++[i])++[_]↔x∈(pre++[i])++[_];rw[mem_append (s:=P++[i]),mem_append (s:=pre++[i]),e]
 ·rw[mem_singleton] at hs;subst hs;show x∈P++[i]↔_;rw[mem_append (s:=pre++[i]),e];constructor
  ·exact .inl
  ·rintro(h|h)
   ·exact h
   ·rw[mem_singleton] at h;subst h;simp
theorem xD{P:List (List Int)}{i:List Int}:(la P i st).length<=P.length+1:=by
 unfold la;split
 ·omega
 ·simp
theorem IJ{R:Nat}{is:List Int}(P:aL b is o)(hs:is.getD q 0=3-o)(hq:q<b.length)(h:(aR b o q most R true pre is ds).1=true):¬2<(cf b q is).length:=fun h3=>by
 cases R with
 | zero=>simp[aR] at h
 | succ R =>
  unfold aR at h;split at h
  ·cases h
  ·rw[vD P hs hq h3] at h;simp[cZ] at h
theorem vO{R:Nat}{is:List Int}(h:¬most<=(ds.length+1) / 2):aR b o q most (R+1) true pre is ds=cZ (fun p=>decide ((lS b is o p).getD q 0=0)) (fun p=>aR b o q most R false (pre++[is]) (lS b is o p) (ds++[some p])) ds (eW b o q (pre++[is]) is) []:=by rw[aR];rw[if_neg h]
theorem vN{R:Nat}{is:List Int}(h:¬most<=(ds.length+1) / 2):aR b o q most (R+1) false pre is ds=dJ (fun st=>aR b o q most R true (pre++[is]) st.2 (ds++[st.1])) ds (stM b (3-o) (pre++[is]) is) []:=by rw[aR];rw[if_neg h]
theorem pV(c t:Ce)(h:k<c.length)(x:C):(c++t).set k x=c.set k x++t:=set_append_left _ _ h
theorem nJ(h:n<=10000000):n<sizeLine:=lt_of_le_of_lt h (by decide)
theorem zI(fu:Nat)(hfu:200<=fu)(B:de b)(h16:b.length<=16)(hq:q<b.length)(nd:(WB.map (·.1)).Nodup)(hz:WB.length<=10000000)(m5:most<=5) :
  ∀(L R r:Nat) (pre pth:List (List Int)) (is:List Int) (ds:List (Option Nat)) (c:Ce) (u:List (List (Option Nat))),L<=r->1<=L->ds.length+2*L=2*most->aL b is o->is.getD q 0=3-o->(∀x,x∈pth++[is]↔x∈pre++[is])->pth.length<=ds.length ->
   (aR b o q most R true pre is ds).1=true->(∀e∈(aR b o q most R true pre is ds).2,e∈WB)->gL c kd ku WB u->u.length+(aR b o q most R true pre is ds).2.length<=WB.length ->
   lZ fu r [cF b o q kd ku,aU (pth++[is]),nW L,aI ds] c=some (.ok (.bl true) (c.set ku (.lst ((u++(aR b o q most R true pre is ds).2.map (·.1)).map aI))))
 | 0,_,_,_,_,_,_,_,_,_,h1,_,_,_,_,_,_,_,_,_=>by omega
 | L+1,0,_,_,_,_,_,_,_,_,_,_,_,_,_,_,h,_,_,_=>by simp[aR] at h
 | L+1,R+1,0,_,_,_,_,_,_,hr,_,_,_,_,_,_,_,_,_,_=>by omega
 | L+1,R+1,r+1,pre,pth,is,ds,c,u,hr,hL,hd,P,hs,hm,hp1,ht,hsub,K,hu=>by
  have z5:5<=sizeLine:=by decide
  have nsp:¬most<=(ds.length+1) / 2:=by omega
  have e0:=vO (b:=b) (o:=o) (q:=q) (R:=R) (pre:=pre) (is:=is) nsp;rw[e0] at ht;have el:=yk (ce:=c) (kd:=kd) (ku:=ku) fu hfu B P hq (l:=pth) (by omega);have ehl:eW b o q (pth++[is]) is=eW b o q (pre++[is]) is:=zH hm;have ndl:=De (b:=b) (o:=o) (q:=q) (cm:=pth++[is]) (is:=is);have edi:=xI (c:=c) ndl;have core:∀p,p∈eW b o q (pre++[is]) is->(ds,some p)∈WB->∀(Q:W->Ce->Prop),
    Run (ay (bz (dB (aF dn (aC aE (aC aE (ae 7) (eQ gz (dC (.int 1)))) (aC aE (ae 0) (dC (.int 2)))) (dC (.int 0)))) (a_ (dC (.bl true))) bI)
     (ay (bz (dB (aF dn (ae 2) (dC (.int 1)))) (a_ (dC (.bl false))) bI)
     (ay (cD (dA (aP 3 (d_q fu) (af (aC aE (ae 0) (dC (.int 0))) (af (ae 7) (af (aF fT (dC (.int 3)) (aC aE (ae 0) (dC (.int 1)))) ak))))) (gT 2 (eE (gN 8) (eE (gN 9) jc))) (uH fu (lZ fu r)))
     (a_ (dC (.bl true)))))) [some (cF b o q kd ku),some (aU (pth++[is])),some (nW (L+1)),some (aI ds),some (.cel kd),some (.cel ku),some (.cel c.length),some (aU (pth++[is]++[lS b is o p])),none,none] (c.set ku (.lst ((u++[ds]).map aI))++[.dct (cN (eN b o q (pth++[is]) is))]) (Rt fun v ce'=>finC c ce' v=some (.ok (.bl true) (c.set ku (.lst ((u++(aR b o q most (R+1) true pre is ds).2.map (·.1)).map aI))))) ->
    lZ fu (r+1) [cF b o q kd ku,aU (pth++[is]),nW (L+1),aI ds] c=some (.ok (.bl true) (c.set ku (.lst ((u++(aR b o q most (R+1) true pre is ds).2.map (·.1)).map aI)))):=by
   intro p hp hw _ hrun;have hpl:(some p,pth++[is]++[lS b is o p])∈eN b o q (pth++[is]) is:=by unfold eN;rw[ehl];exact mem_map.mpr ⟨p,hp,rfl⟩
   have K1:=K.app [.dct (cN (eN b o q (pth++[is]) is))];have g1:(c++[C.dct (cN (eN b o q (pth++[is]) is))])[c.length]?=some (.dct (cN (eN b o q (pth++[is]) is))):=gr _ _;show qG fu (lZ fu r) _ c=_;unfold qG;refine dE [some (cF b o q kd ku),some (aU (pth++[is])),some (nW (L+1)),some (aI ds),none,none,none,none,none,none] rfl ?_;refine tX (x:=.cel kd) (y:=.cel ku) (c1:=c) (yV (xs:=[wB b,.int o,nW q,.cel kd,.cel ku]) (n:=3) (ah rfl) av rfl (by omega) (by show 3<=5;omega) z5) ?_;refine ba ?_;refine bL (bX (ws:=[.lst ((eN b o q (pth++[is]) is).map fh)]) (ao (bE (ws:=[cF b o q kd ku,aU (pth++[is])]) (ao (ah rfl) (ao (ah rfl) aw)) rfl el) aw) edi) ?_;refine ba ?_;refine cI (p:=(false||false)) (jI (bp (aM (ah rfl) (ah rfl) (vP K1.d nd hw))) (fun _=>bp (aM (aM (ah rfl) (ah rfl) (mR K1.d nd hw)) (ah rfl) (vQ g1 ndl hpl)))) (fun h=>by cases h) (fun _=>dH ?_);have ea:=j9 (y:=aI ds) K1.u (by rw[length_map];exact nJ (by omega));refine pI (w:=.non) (iC (ah rfl) (ff K1.u) (ao (ah rfl) aw) ea) ?_;rw[pV _ _ K.lt,show u.map aI++[aI ds]=(u++[ds]).map aI by simp];have K2:=(K.set (u++[ds])).app [.dct (cN (eN b o q (pth++[is]) is))];have g2:(c.set ku (.lst ((u++[ds]).map aI))++[C.dct (cN (eN b o q (pth++[is]) is))])[c.length]?=some (.dct (cN (eN b o q (pth++[is]) is))):=by have:=gr (c.set ku (.lst ((u++[ds]).map aI))) (C.dct (cN (eN b o q (pth++[is]) is)));rwa [length_set] at this
   refine bL (aM (ah rfl) (aM (ah rfl) (ah rfl) (mR K2.d nd hw)) (xb g2 ndl hpl)) ?_;refine ba ?_;exact hrun
  have fin:∀(X:List (List (Option Nat))) (t:Ce),finC c (c.set ku (.lst (X.map aI))++t) (.bl true)=some (.ok (.bl true) (c.set ku (.lst (X.map aI)))):=fun X t =>
   (⟨⟨t,rfl⟩,by simp,by simp,by simp⟩:Own (c.set ku (.lst (X.map aI))) (c.set ku (.lst (X.map aI))++t) []).finC' ((il.refl c).set ku (by simp only[e7];exact g_ _ (xG _) _)) (by simp only[bc])
  obtain⟨p,hp,⟨g,h⟩|⟨g,f1,h⟩⟩:=qt _ _ ht
  ·have hw:(ds,some p)∈WB:=hsub _ (by rw[e0,h];simp);obtain⟨hpb,hpc⟩:=oG hp;have hls:(lS b is o p).length=b.length:=by rw[iX];exact P.hl
   refine core p hp hw (fun _ _=>True) ?_;rw[e0,h];refine cI (p:=decide ((lS b is o p).getD q 0=0)) (bp (aY (aM (aM (ah rfl) (eA av rfl) iY) (aM (ah rfl) av qR) (fV (by omega))) av (gY rfl rfl))) (fun _=>?_) (fun hf=>by rw[hf] at g;cases g);exact iH (bQ av (fin _ _))
  ·have hw:(ds,some p)∈WB:=hsub _ (by rw[e0,h];simp);obtain⟨hpb,hpc⟩:=oG hp;have hls:(lS b is o p).length=b.length:=by rw[iX];exact P.hl
   have g':¬(lS b is o p).getD q 0=0:=of_decide_eq_false g;have hs':(lS b is o p).getD q 0=3-o:=by
    rcases rK P hs hq hpb hpc with ⟨z,_⟩|⟨z,_⟩
    ·exact absurd z g'
    ·exact z
   have Pn:=qe P hpb hpc;cases R with
   | zero=>simp[aR] at f1
   | succ R =>
    have nsp2:¬most<=((ds++[some p]).length+1) / 2:=fun q2=>by
     rw[aR,if_pos q2] at f1;cases f1
    have l1:(ds++[some p]).length=ds.length+1:=by simp
    have e2:=vN (b:=b) (o:=o) (q:=q) (R:=R) (pre:=pre++[is]) (is:=lS b is o p) nsp2;rw[e2] at f1;obtain⟨al,h2⟩:=qr _ _ f1;have e3:(aR b o q most (R+1+1) true pre is ds).2=(ds,some p)::((stM b (3-o) (pre++[is]++[lS b is o p]) (lS b is o p)).map fun st=>(aR b o q most R true (pre++[is]++[lS b is o p]) st.2 (ds++[some p]++[st.1])).2).flatten:=by rw[e0,h];show(ds,some p)::(aR b o q most (R+1) false (pre++[is]) (lS b is o p) (ds++[some p])).2=_;rw[e2,h2,nil_append]
    rw[e3] at hu hsub;refine core p hp hw (fun _ _=>True) ?_;rw[e3];refine cI (p:=decide ((lS b is o p).getD q 0=0)) (bp (aY (aM (aM (ah rfl) (eA av rfl) iY) (aM (ah rfl) av qR) (fV (by omega))) av (gY rfl rfl))) (fun hf=>absurd (of_decide_eq_true hf) g') (fun _=>dH ?_);refine cI (p:=decide (((L+1:Nat):Int)=1)) (bp (aY (ah rfl) av (gY rfl rfl))) (fun hf=>by have:=of_decide_eq_true hf;omega) (fun _=>dH ?_);generalize hzs:stM b (3-o) (pre++[is]++[lS b is o p]) (lS b is o p)=zs at hu hsub al ⊢;generalize hF:(fun st:Option Nat×List Int=>aR b o q most R true (pre++[is]++[lS b is o p]) st.2 (ds++[some p]++[st.1]))=F at al;have hF':∀st,aR b o q most R true (pre++[is]++[lS b is o p]) st.2 (ds++[some p]++[st.1])=F st:=fun st=>by rw[<- hF]
    simp only[hF'] at hu hsub ⊢;have hmm:∀x,x∈pth++[is]++[lS b is o p]↔x∈pre++[is]++[lS b is o p]:=fun x=>by rw[mem_append (s:=pth++[is]),mem_append (s:=pre++[is]),hm]
    generalize hC:c.set ku (.lst ((u++[ds]).map aI))++[C.dct (cN (eN b o q (pth++[is]) is))]=c1;have ed:=zC (ce:=c1) fu hfu B Pn.flip (l:=pth++[is]) (by rw[length_append];simp only[length_cons,length_nil];omega);have eL:(fy b (3-o) (pth++[is]++[lS b is o p]) (lS b is o p)).map fh=zs.map fun st=>.tup [dW st.1,aU (nx (pth++[is]++[lS b is o p]) st)]:=by unfold fy;rw[zG hmm,hzs,map_map];rfl
    rw[eL] at ed;refine zw (zs:=zs) (fa:=fun st=>dW st.1) (fb:=fun st=>aU (nx (pth++[is]++[lS b is o p]) st)) (c1:=c1) (ja (bE (ws:=[wB b,aU (pth++[is]++[lS b is o p]),.int (3-o)]) (ao (aM (ah rfl) av bx) (ao (ah rfl) (ao (aY av (aM (ah rfl) av mi) rfl) aw))) rfl ed))
     (fun d sl c'=>∃x8 x9,sl=[some (cF b o q kd ku),some (aU (pth++[is])),some (nW (L+1)),some (aI ds),some (.cel kd),some (.cel ku),some (.cel c.length),some (aU (pth++[is]++[lS b is o p])),x8,x9]/\c'=c.set ku (.lst ((u++[ds]++((d.map fun st=>(F st).2).flatten).map (·.1)).map aI))++[C.dct (cN (eN b o q (pth++[is]) is))])
     ⟨_,_,rfl,by rw[<- hC];simp⟩ ?_ ?_
    ·rintro d st rr sl c' e hst ⟨x8,x9,rfl,rfl⟩;have hst':=hst;rw[<- hzs] at hst';have hlast:=xF (P:=pth++[is]) hst';have Ps:=tI Pn hst';have hq2:=vC Pn hs' hst';have a1:(F st).1=true:=by rw[<- hF'];exact al st hst
     have few:=IJ (R:=R) (pre:=pre++[is]++[lS b is o p]) (ds:=ds++[some p]++[st.1]) Ps hq2 hq (by rw[hF'];exact a1);have K3:=(K.set (u++[ds]++((d.map fun st=>(F st).2).flatten).map (·.1))).app [.dct (cN (eN b o q (pth++[is]) is))];have hmem:(F st).2 ⊆ (zs.map fun st=>(F st).2).flatten:=fun x hx=>mem_flatten.mpr ⟨_,mem_map.mpr ⟨st,hst,rfl⟩,hx⟩;have hlen:(d.map fun st=>(F st).2).flatten.length+(F st).2.length<=(zs.map fun st=>(F st).2).flatten.length:=by rw[<- e,map_append,flatten_append,map_cons,flatten_cons,length_append,length_append];omega
     simp only[length_cons] at hu;have ih:=zI fu hfu B h16 hq nd hz m5 L R r (pre++[is]++[lS b is o p]) (la (pth++[is]) (lS b is o p) st) st.2 (ds++[some p]++[st.1]) (c.set ku (.lst ((u++[ds]++((d.map fun st=>(F st).2).flatten).map (·.1)).map aI))++[.dct (cN (eN b o q (pth++[is]) is))]) (u++[ds]++((d.map fun st=>(F st).2).flatten).map (·.1))
      (by omega) (by omega) (by simp only[length_append,length_cons,length_nil];omega) Ps hq2 (fun x=>xE hst' hmm x) (by have:=xD (P:=pth++[is]) (i:=lS b is o p) (st:=st);simp only[length_append,length_cons,length_nil] at this ⊢;omega)
      (by rw[hF'];exact a1) (by rw[hF'];exact fun x hx=>hsub x (mem_cons_of_mem _ (hmem hx))) K3 (by rw[hF'];simp only[length_append,length_cons,length_nil,length_map];omega)
     rw[hF',<- hlast,pV _ _ (by rw[length_set];exact K.lt),set_set] at ih;have ebc:=uh (ce:=c.set ku (.lst ((u++[ds]++((d.map fun st=>(F st).2).flatten).map (·.1)).map aI))++[.dct (cN (eN b o q (pth++[is]) is))]) (o:=o) (kd:=kd) (ku:=ku) fu hfu B Ps.hl hq;have eix:∀cc:Ce,aE cc (aU (nx (pth++[is]++[lS b is o p]) st)) (.int (-1))=some (wS st.2):=fun cc=>by rw[hlast];exact iY
     unfold uH;refine ba ?_;refine cI (p:=decide ((2:Int)<((cf b q st.2).length:Int))) (bp (aY (bE (ws:=[cF b o q kd ku,wS st.2]) (ao (ah rfl) (ao (aM (ah rfl) (eA av rfl) (eix _)) aw)) rfl ebc) av (sj rfl rfl))) (fun hf=>by have:=of_decide_eq_true hf;omega) (fun _=>dH ?_);have ecat:iT (ae 3) (bK (af (aC i_ (ae 4) (ae 3)) (af (ae 8) ak))) [some (cF b o q kd ku),some (aU (pth++[is])),some (nW (L+1)),some (aI ds),some (.cel kd),some (.cel ku),some (.cel c.length),some (aU (pth++[is]++[lS b is o p])),some (dW st.1),some (aU (nx (pth++[is]++[lS b is o p]) st))] (c.set ku (.lst ((u++[ds]++((d.map fun st=>(F st).2).flatten).map (·.1)).map aI))++[.dct (cN (eN b o q (pth++[is]) is))])=some (.ok (aI (ds++[some p]++[st.1])) (c.set ku (.lst ((u++[ds]++((d.map fun st=>(F st).2).flatten).map (·.1)).map aI))++[.dct (cN (eN b o q (pth++[is]) is))])):=by have:=sZ (xs:=ds.map dW) (ys:=[dW (some p),dW st.1]) (ah (i:=3) (sl:=[some (cF b o q kd ku),some (aU (pth++[is])),some (nW (L+1)),some (aI ds),some (.cel kd),some (.cel ku),some (.cel c.length),some (aU (pth++[is]++[lS b is o p])),some (dW st.1),some (aU (nx (pth++[is]++[lS b is o p]) st))]) rfl) (eD (ws:=[dW (some p),dW st.1]) (ao (aM (ah (i:=4) rfl) (ah (i:=3) rfl) (mR K3.d nd hw)) (ao (ah (i:=8) rfl) aw)) (show 2<=sizeLine by decide)) (by rw[length_map];exact le_of_lt (nJ (by simp only[length_cons,length_nil];omega)));rw[this];simp[aI]
     refine e8 (p:=!true) (i3 (bp (bE (ws:=[cF b o q kd ku,aU (nx (pth++[is]++[lS b is o p]) st),nW L,aI (ds++[some p]++[st.1])]) (ao (ah rfl) (ao (ah rfl) (ao (aY (ah rfl) av (by simp[fT,i2,nW])) (ao ecat aw)))) rfl ih))) (fun hf=>by cases hf) (fun _=>fX ?_);refine⟨_,_,rfl,?_⟩;simp only[map_append,flatten_append,map_cons,map_nil,flatten_cons,flatten_nil,append_nil,append_assoc]
    ·rintro sl c' ⟨x8,x9,rfl,rfl⟩;refine bQ av ?_;have:=fin (u++[ds]++((zs.map fun st=>(F st).2).flatten).map (·.1)) [.dct (cN (eN b o q (pth++[is]) is))];rw[map_cons,show u++ds::((zs.map fun st=>(F st).2).flatten).map (·.1)=u++[ds]++((zs.map fun st=>(F st).2).flatten).map (·.1) by simp];exact this
theorem vh{m:Nat}{j:Int}(h:j<(m:Int)):iO (nW m) (.int j)=some (.bl true):=by rw[show iO (nW m) (.int j)=some (.bl (decide (j<(m:Int)))) from rfl,decide_eq_true h]
theorem vg{m:Nat}{j:Int}(h:¬j<(m:Int)):iO (nW m) (.int j)=some (.bl false):=by rw[show iO (nW m) (.int j)=some (.bl (decide (j<(m:Int)))) from rfl,decide_eq_false h]
theorem GW{ta tb:Sl->M Bool}{q:Bool}(ha:ta sl ce=some (.ok true c1))(hb:tb sl c1=some (.ok q c2)):gX ta tb sl ce=some (.ok q c2):=by simp only[gX,az,ha,hb]
theorem Dc{x y:Sl->M W}{w:W}(ha:x sl ce=some (.ok (.bl false) c1))(hb:y sl c1=some (.ok w c2)):gK x y sl ce=some (.ok w c2):=by simp only[gK,az,ha,hb]
theorem C_{x y:Sl->M W}(ha:x sl ce=some (.ok (.bl true) c1)):gK x y sl ce=some (.ok (.bl true) c1):=by simp only[gK,az,ha];rfl
theorem GV{R:Nat}{is:List Int}(P:aL b is o)(hs:is.getD q 0=3-o)(hq:q<b.length)(h3:2<(cf b q is).length):(aR b o q most R true pre is ds).2=[]:=by
 cases R with
 | zero=>rfl
 | succ R =>
  unfold aR;split
  ·rfl
  ·rw[vD P hs hq h3];rfl
theorem gL.same(K:gL c kd ku WB u):c.set ku (.lst (u.map aI))=c:=by have h:=K.u;obtain⟨hk,e⟩:=List.getElem?_eq_some_iff.mp h;rw[<- e];exact set_getElem_self hk
theorem r9(X:List (List (Option Nat)))(t:Ce):finC c (c.set ku (.lst (X.map aI))++t) (.bl true)=some (.ok (.bl true) (c.set ku (.lst (X.map aI)))) :=
 (⟨⟨t,rfl⟩,by simp,by simp,by simp⟩:Own (c.set ku (.lst (X.map aI))) (c.set ku (.lst (X.map aI))++t) []).finC' ((il.refl c).set ku (by simp only[e7];exact g_ _ (xG _) _)) (by simp only[bc])
theorem sO(fu:Nat)(hfu:200<=fu)(B:de b)(h16:b.length<=16)(hq:q<b.length)(nd:(WB.map (·.1)).Nodup)(hz:WB.length<=10000000)(m5:most<=5):∀(r:Nat) (L R:Nat) (pre pth:List (List Int)) (is:List Int) (ds:List (Option Nat)) (c:Ce) (u:List (List (Option Nat))),1<=L->aL b is o->is.getD q 0=3-o->(∀x,x∈pth++[is]↔x∈pre++[is])->pth.length<=ds.length->gL c kd ku WB u ->
  (2*L<=r+1->ds.length+2*L=2*most->2*L<=R->(aR b o q most R true pre is ds).1=false->(∀e∈(aR b o q most R true pre is ds).2,e∈WB)->u.length+(aR b o q most R true pre is ds).2.length<=WB.length ->
   (g8 fu r).2 [cF b o q kd ku,aU (pth++[is]),nW L,aI ds] c=some (.ok (.bl true) (c.set ku (.lst ((u++(aR b o q most R true pre is ds).2.map (·.1)).map aI))))) /\
  (2*L<=r->ds.length+2*L+1=2*most->2*L+1<=R->(aR b o q most R false pre is ds).1=false->(∀e∈(aR b o q most R false pre is ds).2,e∈WB)->u.length+(aR b o q most R false pre is ds).2.length<=WB.length ->
   (g8 fu r).1 [cF b o q kd ku,aU (pth++[is]),nW L,aI ds] c=some (.ok (.bl true) (c.set ku (.lst ((u++(aR b o q most R false pre is ds).2.map (·.1)).map aI)))))
 | 0,L,R,pre,pth,is,ds,c,u,h1,P,hs,hm,hp1,K=>⟨fun h=>by omega,fun h=>by omega⟩
 | r+1,L,0,pre,pth,is,ds,c,u,h1,P,hs,hm,hp1,K=>⟨fun _ _ h=>by omega,fun _ _ h=>by omega⟩
 | r+1,L,R+1,pre,pth,is,ds,c,u,h1,P,hs,hm,hp1,K=>by
  have z5:5<=sizeLine:=by decide
  constructor
  ·intro hr hd hR ht hsub hu;have nsp:¬most<=(ds.length+1) / 2:=by omega
   have e0:=vO (b:=b) (o:=o) (q:=q) (R:=R) (pre:=pre) (is:=is) nsp;rw[e0] at ht hsub hu ⊢;have el:=yk (ce:=c) (kd:=kd) (ku:=ku) fu hfu B P hq (l:=pth) (by omega);obtain⟨al,hw⟩:=qz _ _ ht;rw[hw] at hsub hu ⊢;dsimp only at hsub hu ⊢;rw[nil_append] at hsub hu ⊢;have eL:(eN b o q (pth++[is]) is).map fh=(eW b o q (pre++[is]) is).map fun p=>.tup [nW p,aU (pth++[is]++[lS b is o p])]:=by unfold eN;rw[zH hm,map_map];rfl
   rw[eL] at el;generalize hF:(fun p=>aR b o q most R false (pre++[is]) (lS b is o p) (ds++[some p]))=F at al;have hF':∀p,aR b o q most R false (pre++[is]) (lS b is o p) (ds++[some p])=F p:=fun p=>by rw[<- hF]
   simp only[hF'] at hsub hu ⊢;show qI fu (g8 fu r).1 (g8 fu r).2 _ c=_;unfold qI;refine dE [some (cF b o q kd ku),some (aU (pth++[is])),some (nW L),some (aI ds),none,none] rfl ?_;have hmem:∀p∈eW b o q (pre++[is]) is,p<b.length/\fc b is o p=true:=fun p hp=>oG hp;generalize eW b o q (pre++[is]) is=zs at el al hsub hu hmem ⊢;refine zw (zs:=zs) (fa:=nW) (fb:=fun p=>aU (pth++[is]++[lS b is o p])) (c1:=c) (ja (bE (ws:=[cF b o q kd ku,aU (pth++[is])]) (ao (ah rfl) (ao (ah rfl) aw)) rfl el))
    (fun d sl c'=>∃x4 x5,sl=[some (cF b o q kd ku),some (aU (pth++[is])),some (nW L),some (aI ds),x4,x5]/\c'=c.set ku (.lst ((u++((d.map fun p=>(F p).2).flatten).map (·.1)).map aI)))
    ⟨_,_,rfl,by simp only[map_nil,flatten_nil,append_nil];exact K.same.symm⟩ ?_ ?_
   ·rintro d p rr sl c' e hp ⟨x4,x5,rfl,rfl⟩;obtain⟨hpb,hpc⟩:=hmem p hp;have hls:(lS b is o p).length=b.length:=by rw[iX];exact P.hl
    obtain⟨g,a1⟩:=al p hp;have g':¬(lS b is o p).getD q 0=0:=of_decide_eq_false g;have a1:(F p).1=false:=by rw[<- hF'];exact a1
    have hs':(lS b is o p).getD q 0=3-o:=by
     rcases rK P hs hq hpb hpc with ⟨z,_⟩|⟨z,_⟩
     ·exact absurd z g'
     ·exact z
    have Pn:=qe P hpb hpc;have K3:=K.set (u++((d.map fun p=>(F p).2).flatten).map (·.1));have hsb:(F p).2 ⊆ (zs.map fun p=>(F p).2).flatten:=fun x hx=>mem_flatten.mpr ⟨_,mem_map.mpr ⟨p,hp,rfl⟩,hx⟩;have hlen:(d.map fun p=>(F p).2).flatten.length+(F p).2.length<=(zs.map fun p=>(F p).2).flatten.length:=by rw[<- e,map_append,flatten_append,map_cons,flatten_cons,length_append,length_append];omega
    have hmm:∀x,x∈pth++[is]++[lS b is o p]↔x∈pre++[is]++[lS b is o p]:=fun x=>by rw[mem_append (s:=pth++[is]),mem_append (s:=pre++[is]),hm]
    unfold AL;refine ba ?_;refine cI (p:=decide ((lS b is o p).getD q 0=0)) (bp (aY (aM (aM (ah rfl) (eA av rfl) iY) (aM (ah rfl) av qR) (fV (by omega))) av (gY rfl rfl))) (fun hf=>absurd (of_decide_eq_true hf) g') (fun _=>dH ?_)
    by_cases hL1:L=1
    ·have eF:F p=(false,[]):=by
      rw[<- hF'];cases R with
      | zero=>rfl
      | succ R=>rw[aR,if_pos (by simp only[length_append,length_cons,length_nil];omega)]
     refine e8 (p:=(false&&false)) (kU (bp (aY (ah rfl) av (vg (by omega)))) (fun h=>by cases h)) (fun h=>by cases h) (fun _=>fX ?_);refine⟨_,_,rfl,?_⟩;simp only[map_append,flatten_append,map_cons,map_nil,flatten_cons,flatten_nil,append_nil,eF]
    ·obtain⟨L,rfl⟩:∃L',L=L'+1:=⟨L-1,by omega⟩
     have ih:=(sO fu hfu B h16 hq nd hz m5 r L R (pre++[is]) (pth++[is]) (lS b is o p) (ds++[some p]) (c.set ku (.lst ((u++((d.map fun p=>(F p).2).flatten).map (·.1)).map aI))) (u++((d.map fun p=>(F p).2).flatten).map (·.1))
      (by omega) Pn hs' hmm (by simp only[length_append,length_cons,length_nil];omega) K3).2 (by omega) (by simp only[length_append,length_cons,length_nil];omega) (by omega) (by rw[hF'];exact a1) (by rw[hF'];exact fun x hx=>hsub x (hsb hx)) (by rw[hF'];simp only[length_append,length_map];omega)
     rw[hF',set_set] at ih;refine e8 (p:=!true) (GW (bp (aY (ah rfl) av (vh (by omega)))) (i3 (bp (bE (ws:=[cF b o q kd ku,aU (pth++[is]++[lS b is o p]),nW L,aI (ds++[some p])]) (ao (ah rfl) (ao (ah rfl) (ao (aY (ah rfl) av (by simp[fT,i2,nW])) (ao (pN (x:=some p) (ah rfl) (ah rfl) (by omega)) aw)))) rfl ih)))) (fun hf=>by cases hf) (fun _=>fX ?_);refine⟨_,_,rfl,?_⟩;simp only[map_append,flatten_append,map_cons,map_nil,flatten_cons,flatten_nil,append_nil,append_assoc]
   ·rintro sl c' ⟨x4,x5,rfl,rfl⟩;refine bQ av ?_;have:=r9 (c:=c) (ku:=ku) (u++((zs.map fun p=>(F p).2).flatten).map (·.1)) [];rwa [append_nil] at this
  ·intro hr hd hR ht hsub hu;have nsp:¬most<=(ds.length+1) / 2:=by omega
   have e0:=vN (b:=b) (o:=o) (q:=q) (R:=R) (pre:=pre) (is:=is) nsp;rw[e0] at ht hsub hu ⊢;obtain⟨st,hst,a1,hw⟩:=qy _ _ ht;rw[hw] at hsub hu ⊢;dsimp only at hsub hu ⊢;have ed:=zC (ce:=c) fu hfu B P.flip (l:=pth) (by omega);have ndl:=Dd (b:=b) h16 (h:=3-o) (cm:=pth++[is]) (is:=is);have edi:=xI (c:=c) ndl;have hlast:=xF (P:=pth) hst;have Ps:=tI P hst;have hq2:=vC P hs hst;have hin:(st.1,la pth is st++[st.2])∈fy b (3-o) (pth++[is]) is:=by unfold fy;rw[zG hm,<- hlast];exact mem_map.mpr ⟨st,hst,rfl⟩
   have hwb:(ds,st.1)∈WB:=hsub _ mem_cons_self;have K1:=K.app [.dct (cN (fy b (3-o) (pth++[is]) is))];have g1:(c++[C.dct (cN (fy b (3-o) (pth++[is]) is))])[c.length]?=some (.dct (cN (fy b (3-o) (pth++[is]) is))):=gr _ _;have K2:=(K.set (u++[ds])).app [.dct (cN (fy b (3-o) (pth++[is]) is))];have g2:(c.set ku (.lst ((u++[ds]).map aI))++[C.dct (cN (fy b (3-o) (pth++[is]) is))])[c.length]?=some (.dct (cN (fy b (3-o) (pth++[is]) is))):=by have:=gr (c.set ku (.lst ((u++[ds]).map aI))) (C.dct (cN (fy b (3-o) (pth++[is]) is)));rwa [length_set] at this
   show qJ fu (g8 fu r).1 (g8 fu r).2 _ c=_;unfold qJ;refine dE [some (cF b o q kd ku),some (aU (pth++[is])),some (nW L),some (aI ds),none,none,none,none] rfl ?_;refine tX (x:=.cel kd) (y:=.cel ku) (c1:=c) (yV (xs:=[wB b,.int o,nW q,.cel kd,.cel ku]) (n:=3) (ah rfl) av rfl (by omega) (by show 3<=5;omega) z5) ?_;refine ba ?_;refine bL (bX (ws:=[.lst ((fy b (3-o) (pth++[is]) is).map fh)]) (ao (bE (ws:=[wB b,aU (pth++[is]),.int (3-o)]) (ao (aM (ah rfl) av bx) (ao (ah rfl) (ao (aY av (aM (ah rfl) av mi) rfl) aw))) rfl ed) aw) edi) ?_;refine ba ?_;refine cI (p:=(false||false)) (jI (bp (aM (ah rfl) (ah rfl) (vP K1.d nd hwb))) (fun _=>bp (aM (aM (ah rfl) (ah rfl) (mR K1.d nd hwb)) (ah rfl) (vQ g1 ndl hin)))) (fun h=>by cases h) (fun _=>dH ?_);have ea:=j9 (y:=aI ds) K1.u (by rw[length_map];exact nJ (by omega));refine pI (w:=.non) (iC (ah rfl) (ff K1.u) (ao (ah rfl) aw) ea) ?_;rw[pV _ _ K.lt,show u.map aI++[aI ds]=(u++[ds]).map aI by simp];refine bL (aM (ah rfl) (aM (ah rfl) (ah rfl) (mR K2.d nd hwb)) (xb g2 ndl hin)) ?_;refine ba ?_;have ebc:=uh (ce:=c.set ku (.lst ((u++[ds]).map aI))++[C.dct (cN (fy b (3-o) (pth++[is]) is))]) (o:=o) (kd:=kd) (ku:=ku) fu hfu B Ps.hl hq
   by_cases h3:2<(cf b q st.2).length
   ·rw[GV Ps hq2 hq h3,map_cons,map_nil];refine bQ (C_ (aY (bE (ws:=[cF b o q kd ku,wS st.2]) (ao (ah rfl) (ao (aM (ah rfl) (eA av rfl) iY) aw)) rfl ebc) av (vh (by omega)))) (r9 _ _)
   ·simp only[length_cons] at hu;have ih:=(sO fu hfu B h16 hq nd hz m5 r L R (pre++[is]) (la pth is st) st.2 (ds++[st.1]) (c.set ku (.lst ((u++[ds]).map aI))++[C.dct (cN (fy b (3-o) (pth++[is]) is))]) (u++[ds]) h1 Ps hq2 (fun x=>xE hst hm x)
     (by have:=xD (P:=pth) (i:=is) (st:=st);simp only[length_append,length_cons,length_nil];omega) K2).1 (by omega) (by simp only[length_append,length_cons,length_nil];omega) (by omega) a1 (fun x hx=>hsub x (mem_cons_of_mem _ hx)) (by simp only[length_append,length_cons,length_nil];omega)
    rw[pV _ _ (by rw[length_set];exact K.lt),set_set] at ih;refine bQ (Dc (aY (bE (ws:=[cF b o q kd ku,wS st.2]) (ao (ah rfl) (ao (aM (ah rfl) (eA av rfl) iY) aw)) rfl ebc) av (vg (by omega))) (bE (ws:=[cF b o q kd ku,aU (la pth is st++[st.2]),nW L,aI (ds++[st.1])]) (ao (ah rfl) (ao (ah rfl) (ao (ah rfl) (ao (pN (ah rfl) (aM (ah rfl) (ah rfl) (mR K2.d nd hwb)) (by omega)) aw)))) rfl ih)) ?_;have:=r9 (c:=c) (ku:=ku) (u++[ds]++(aR b o q most R true (pre++[is]) st.2 (ds++[st.1])).2.map (·.1)) [C.dct (cN (fy b (3-o) (pth++[is]) is))];rw[map_cons,show u++ds::(aR b o q most R true (pre++[is]) st.2 (ds++[st.1])).2.map (·.1)=u++[ds]++(aR b o q most R true (pre++[is]) st.2 (ds++[st.1])).2.map (·.1) by simp];exact this
section
variable {is:List Int}
theorem GU{α:Type}(n:Nat)(x:α):(List.replicate n [x]).flatten=List.replicate n x:=by
 induction n with
 | zero=>rfl
 | succ m ih=>simp only[replicate_succ,flatten_cons,ih];rfl
theorem GS{bb:Sl->M W}(ha:ra sl ce=some (.ok xs c1))(hl:xs.length<=sizeLine)(hb:bb sl c1=some (.ok (nW n) c2))(hz:xs.length*n<=sizeLine)(h63:n<=100000):mO bW ra bb sl ce=some (.ok (.lst (List.replicate n xs).flatten) c2):=by have t:((n:Int)).toNat=n:=toNat_natCast n;simp only[mO,az,ha,rn,if_pos hl,hb,o8,nW,t];rw[if_pos ⟨by omega,by omega,hz⟩];exact nc (by rw[L2.len_rep,mul_comm];exact hz)
theorem II(fu:Nat)(hfu:200<=fu)(B:de b)(hl:is.length=b.length)(cc:Int):∃w,d_j fu [wB b,wS is,.int cc] ce=some (.ok w ce)/\(w=.non\/∃q,w=nW q/\q<b.length/\is.getD q 0≠0):=by
 have hz:=fJ;have z2000:2000<sizeLine:=by decide
 have z1:1<=sizeLine:=by decide
 have h36:=B.h36
 suffices hs:∃w c,d_j fu [wB b,wS is,.int cc] ce=some (.ok w c)/\c=ce/\(w=.non\/∃q,w=nW q/\q<b.length/\is.getD q 0≠0) by
  obtain⟨w,c,e,rfl,h⟩:=hs;exact⟨w,e,h⟩
 unfold d_j;refine jE [some (wB b),some (wS is),some (.int cc),none,none,none] rfl ?_;refine bL (w:=.lst []) (ce':=ce) (gD (ws:=[]) aw (zero_le _)) ?_;refine ba ?_;refine hJ (zs:=List.range b.length) (en:=nW) (c1:=ce) (kI (ao (bX (ws:=[wB b]) (ao (ah rfl) aw) kT) aw) (by omega))
  (fun d sl c=>∃(T:List Nat) (x4 x5:Option W),sl=[some (wB b),some (wS is),some (.int cc),some (wL T),x4,x5]/\c=ce/\T.length<=7*d.length/\∀x∈T,x<b.length/\is.getD x 0≠0)
  ⟨[],_,_,rfl,rfl,by simp,by simp⟩ ?_ ?_
 ·rintro d p r sl c e hp ⟨T,x4,x5,rfl,rfl,lT,hT⟩;have hp:=mem_range.mp hp;have hdl:d.length<36:=by have:=congrArg List.length e;simp only[length_append,length_cons,length_range] at this;omega
  have jp:=fV (ce:=c) (is:=is) (p:=p) (by omega);unfold AV;refine ba ?_;refine e8 (p:=!decide (is.getD p 0=0)) (ce':=c) (bp (aY (aM (ah rfl) (ah rfl) jp) av (s_ rfl rfl))) (fun q=>?_) (fun _=>fX ⟨T,_,_,rfl,rfl,by simp only[length_append,length_cons,length_nil];omega,hT⟩);have hp0:is.getD p 0≠0:=by simpa using q
  obtain⟨F,e1,mF,lF',ltF⟩:=qu (ce:=c) fu hfu B (o3 is) hl hp;obtain⟨G,e2,lG,nG,mG⟩:=pY (ce:=c) (row:=F) fu B (o3 is) hl ltF;have l2:=oy (ce:=c) (l:=G);refine bL (w:=.bl (decide ((G.length:Int)<3))) (ce':=c) (aY (bX (ws:=[wL G]) (ao (bE (ws:=[wB b,wS is,wL F]) (ao (ah rfl) (ao (ah rfl) (ao (bE (ws:=[wB b,wS is,nW p]) (ao (ah rfl) (ao (ah rfl) (ao (ah rfl) aw))) rfl e1) aw))) rfl e2) aw) l2) av (lN (i:=G.length) (j:=3) rfl rfl)) ?_;refine ba ?_;generalize decide ((G.length:Int)<3)=β;obtain⟨k,hk7,ek⟩:∃k:Nat,k<=7/\∀(sl:Sl),sl[5]?=some (some (.bl β))->aF cu (dC (.int 1)) (aF ee (dC (.int 6)) (bg jz (af (ae 5) ak))) sl c=some (.ok (nW k) c):=by
   cases β with
   | true =>
    refine⟨7,by omega,fun sl hs=>aY (y:=.int 6) av (aY (y:=.int 1) av (bX (ws:=[.bl true]) (ao (ah hs) aw) rfl) (gA (i:=6) (j:=1) rfl rfl (.inl (by omega)))) rfl⟩
   | false =>
    refine⟨1,by omega,fun sl hs=>aY (y:=.int 0) av (aY (y:=.int 0) av (bX (ws:=[.bl false]) (ao (ah hs) aw) rfl) (gA (i:=6) (j:=0) rfl rfl (.inl (by omega)))) rfl⟩
  have er:mO bW (af (ae 4) ak) (aF cu (dC (.int 1)) (aF ee (dC (.int 6)) (bg jz (af (ae 5) ak)))) [some (wB b),some (wS is),some (.int cc),some (wL T),some (nW p),some (.bl β)] c=some (.ok (wL (List.replicate k p)) c):=by have:=GS (ce:=c) (n:=k) (ra:=af (ae 4) ak) (bb:=aF cu (dC (.int 1)) (aF ee (dC (.int 6)) (bg jz (af (ae 5) ak)))) (sl:=[some (wB b),some (wS is),some (.int cc),some (wL T),some (nW p),some (.bl β)]) (xs:=[nW p]) (ao (ah rfl) aw) z1 (ek _ rfl) (by simp only[length_cons,length_nil];omega) (by omega);rw[this,GU];simp only[wL,map_replicate]
  have ec:fR bW (ae 3) (mO bW (af (ae 4) ak) (aF cu (dC (.int 1)) (aF ee (dC (.int 6)) (bg jz (af (ae 5) ak))))) [some (wB b),some (wS is),some (.int cc),some (wL T),some (nW p),some (.bl β)] c=some (.ok (wL (T++List.replicate k p)) c):=by have:=qc (ce:=c) (ah (i:=3) (sl:=[some (wB b),some (wS is),some (.int cc),some (wL T),some (nW p),some (.bl β)]) rfl) er (xs:=T.map nW) (ys:=(List.replicate k p).map nW) rfl rfl (by rw[length_map,length_map,length_replicate];omega);rw[this];simp only[wL,map_append]
  refine oA (w:=wL (T++List.replicate k p)) (ce':=c) ec ?_;refine⟨T++List.replicate k p,_,_,rfl,rfl,by simp only[length_append,length_cons,length_nil,length_replicate];omega,fun x hx=>?_⟩;rcases mem_append.mp hx with hx|hx
  ·exact hT x hx
  ·rw[(mem_replicate.mp hx).2];exact⟨hp,hp0⟩
 ·rintro sl c ⟨T,x4,x5,rfl,rfl,lT,hT⟩;refine cI (p:=decide (T=[])) (ce':=c) (bp (aM (ah rfl) (gD (ws:=[]) aw (zero_le _)) pG)) (fun _=>?_) (fun q=>dH ?_)
  ·exact iH (bQ (w:=.non) (ce':=c) av ⟨_,_,fD (by simp only[bc]),rfl,.inl rfl⟩)
  ·have hT0:0<T.length:=length_pos_iff.mpr (of_decide_eq_false q);obtain⟨i,hi,ei⟩:=jX (ce:=c) fu cc (k:=5) (by omega) (m:=T.length) hT0;refine bQ (w:=nW (T.getD i 0)) (ce':=c) (aM (ah rfl) (ei _ _ _ (ah rfl) av _ (bX (ws:=[wL T]) (ao (ah rfl) aw) oy)) (sJ hi)) ?_;have hm:T.getD i 0∈T:=by rw[getD_eq_getElem?_getD,getElem?_eq_getElem hi];exact getElem_mem hi
   exact⟨_,_,fD (by simp only[bc,nW]),rfl,.inr ⟨_,rfl,hT _ hm⟩⟩
end
section
variable {w:bZ}
theorem C9(fu:Nat)(ds:List (Option Nat))(hl:ds.length<=1000):bR (d_z fu) [aI ds] ce=some (.ok (sW (dZ ds)) ce):=by
 have z2000:2000<sizeLine:=by decide
 refine iI ?_ (bA _ _);unfold d_z;refine dE [some (aI ds),none,none] rfl ?_;refine bL (gZ aw (zero_le _)) ?_;refine ba ?_;have O0:=(Own.start ce).alloc (C.lst []);refine hJ (zs:=ds) (en:=dW) (c1:=ce++[.lst []]) (n6 (ah rfl))
  (fun d sl c=>∃x2,sl=[some (aI ds),some (.cel ce.length),x2]/\Own ce c [(ce.length,C.lst ((dZ d).map W.int))]) ⟨_,rfl,O0⟩ ?_ ?_
 ·rintro d x r sl c e hx ⟨x2,rfl,O⟩;have hdl:d.length<1000:=by have:=congrArg List.length e;simp only[length_append,length_cons] at this;omega
  have ea:=fun y:W=>j9 (y:=y) O.g0 (by unfold dZ;rw[length_map,length_map];omega);unfold Aq;refine ba ?_;have fin:∀c',c'=c.set ce.length (.lst ((dZ d).map W.int++[W.int (kN x)]))->∃x2,[some (aI ds),some (.cel ce.length),some (dW x)]=[some (aI ds),some (.cel ce.length),x2]/\Own ce c' [(ce.length,C.lst ((dZ (d++[x])).map W.int))]:=fun c' e=>by
   subst e;refine⟨_,rfl,?_⟩;rw[show(dZ (d++[x])).map W.int=(dZ d).map W.int++[W.int (kN x)] by simp[dZ]];exact O.set0 _
  cases x with
  | none=>exact e8 (p:=true) (bp (eA (ah rfl) rfl)) (fun _=>jh (w:=.non) (iC (ah rfl) (ff O.g0) (ao av aw) (ea _)) (fin _ rfl)) (fun h=>by cases h)
  | some p=>exact e8 (p:=false) (bp (eA (ah rfl) rfl)) (fun h=>by cases h) (fun _=>jh (w:=.non) (iC (ah rfl) (ff O.g0) (ao (ah rfl) aw) (ea _)) (fin _ rfl))
 ·rintro sl c ⟨x2,rfl,O⟩;exact bQ (w:=.cel ce.length) (ce':=c) (ah rfl) (O.finO (by simp only[e7];exact bA _ _))
theorem vM(n:Nat):dn (nW n) (nW n)=some (.bl true):=by show some (W.bl (decide ((n:Int)=(n:Int))))=_;rw[decide_eq_true rfl]
def gx(w:bZ):List W:=w.map fun e=>sW (dZ e.1)
theorem xa:∀w:bZ,kA c (gx w)=some (w.map fun e=>dZ e.1)
 | []=>rfl
 | x::w=>by
  have h:=xa w;have i:∀l:List Int,jb (l.map W.int)=some l:=fun l=>by
   induction l with
   | nil=>rfl
   | cons a l ih=>simp only[map_cons,jb,ih,map_some]
  have e:cH c (sW (dZ x.1))=some ((dZ x.1).map W.int):=rfl;show kA c (sW (dZ x.1)::gx w)=_;simp only[kA,e,bind_some,i,h];rfl
theorem zz:∀{l:List (List Int)},l.Pairwise (fun x y=>fj x y=true)->kH l=true
 | [],_=>rfl
 | [_],_=>rfl
 | x::y::l,h=>by
  rw[pairwise_cons] at h;simp only[kH,h.1 y mem_cons_self,zz h.2,Bool.and_self]
theorem Eb(h:bT [] w)(hz:w.length<=10000000):nQ bW [.lst (gx w)] c=some (.ok (.lst (gx w)) c):=by have e:cH c (.lst (gx w))=some (gx w):=rfl;have r:kH (w.map fun e=>dZ e.1)=true:=zz (by rw[pairwise_map];exact h.ris);simp only[nQ,e,xa,r,if_true];exact nc (by unfold gx;rw[length_map];exact le_of_lt (nJ hz))
theorem C8:nF false c (.lst (gx w)) (.lst (gx w))=some (.bl true):=by
 have t1:∀(n d:Nat) (i:Int),fk n c d (.int i)=some (.int i):=fun n d i=>by cases d<;>simp only[fk]
 have t2:∀(n d:Nat) (l:List Int),fk n c (d+1) (sW l)=some (sW l):=fun n d l=>by simp only[sW,fk,oP (t1 n d),map_some]
 have hd:nO c (.lst (gx w))=some (.lst (gx w)):=by unfold gx;simp only[nO,fk];rw[oP (f:=fun e:List (Option Nat)×Option Nat=>sW (dZ e.1)) (fun x=>t2 0 4 _)];rfl
 have hc:bG 8 (.lst (gx w))=true:=by show(gx w).all (bG 7)=true;rw[all_eq_true];intro x hx;obtain⟨e,_,rfl⟩:=mem_map.mp hx;exact nz _ 6
 simp only[nF,hd,hc,Bool.and_self,if_true,y7 8 hc,false_eq_true,if_false]
theorem GR(fu:Nat)(g:c[j]?=some (.lst (w.map bF)))(h:bT [] w)(hz:w.length<=10000000)(hk:∀e∈w,e.1.length<=100):d_i fu [.cel j] c=some (.ok (.bl true) c):=by
 have z2:2<=sizeLine:=by decide
 have z1:1<=sizeLine:=by decide
 have z200:200<sizeLine:=by decide
 have Lg:aZ c (.cel j) (w.map bF):=.cl g;unfold d_i;refine dE [some (.cel j),none,none,none] rfl ?_;refine cI (p:=!true) (i3 (bp (bX (ws:=[.cel j,.ty "list"]) (ao (ah rfl) (ao av aw)) Lg.isL))) (fun h=>by cases h) (fun _=>dH ?_);obtain⟨s,hs1,hs2,hs3⟩:=lJ (a:=ae 0) (sl:=[some (.cel j),none,none,none]) (ce:=c) (ah rfl) Lg;refine p7 (en:=bF) (xs:=w) hs1 hs2 (fun d sl c'=>∃x1 x2,sl=[some (.cel j),x1,x2,none]/\c'=c) ⟨_,_,rfl,rfl⟩ ?_ (fun sl c' ⟨_,_,_,e⟩=>by rw[e];exact hs3) ?_
 ·rintro d e r sl c' ed he ⟨x1,x2,rfl,rfl⟩;refine⟨hs3,?_⟩;have i0:aE c' (bF e) (.int 0)=some (aI e.1):=eS (xs:=[aI e.1,dW e.2]) (j:=0) rfl rfl;have i1:aE c' (bF e) (.int 1)=some (dW e.2):=eS (xs:=[aI e.1,dW e.2]) (j:=1) rfl rfl;have isT:∀xs:List W,iz [.tup xs,.ty "tuple"] c'=some (.ok (.bl true) c'):=fun _=>rfl;have l2:cg [bF e] c'=some (.ok (.int 2) c'):=rfl;unfold AW;refine ba ?_;refine cI (p:=(!true||(!true||!true))) (jI (i3 (bp (bX (ws:=[bF e,.ty "tuple"]) (ao (ah rfl) (ao av aw)) (isT _)))) (fun _=>jI (bp (aY (bX (ws:=[bF e]) (ao (ah rfl) aw) l2) av rfl)) (fun _=>i3 (bp (bX (ws:=[aI e.1,.ty "tuple"]) (ao (aM (ah rfl) av i0) (ao av aw)) (isT _)))))) (fun h=>by cases h) (fun _=>dH ?_);have hk':=hk e he;have ecat:iT (aC aE (ae 1) (dC (.int 0))) (bK (af (aC aE (ae 1) (dC (.int 1))) ak)) [some (.cel j),some (bF e),x2,none] c'=some (.ok (.tup ((e.1++[e.2]).map dW)) c'):=by have:=sZ (c1:=c') (xs:=e.1.map dW) (ys:=[dW e.2]) (aM (ce:=c') (ah (i:=1) (sl:=[some (.cel j),some (bF e),x2,none]) rfl) av i0) (eD (ws:=[dW e.2]) (ao (aM (ah (i:=1) rfl) av i1) aw) z1) (by rw[length_map];show e.1.length+1<=_;omega);rw[this];simp
  refine nv (zs:=e.1++[e.2]) (en:=dW) (c1:=c') (n6 ecat) (fun d sl c2=>∃x2,sl=[some (.cel j),some (bF e),x2,none]/\c2=c') ⟨_,rfl,rfl⟩ ?_ ?_
  ·rintro d2 x r2 sl c2 e2 hx ⟨x2,rfl,rfl⟩;unfold AX;refine ba ?_;cases x with
   | none=>exact e8 (p:=(false&&false)) (kU (bp (eA (ah rfl) rfl)) (fun h=>by cases h)) (fun h=>by cases h) (fun _=>fX ⟨_,rfl,rfl⟩)
   | some p=>exact e8 (p:=(true&&(!true||false))) (kU (bp (eA (ah rfl) rfl)) (fun _=>jI (i3 (bp (bX (ws:=[nW p,.ty "int"]) (ao (ah rfl) (ao av aw)) vp))) (fun _=>bp (bX (ws:=[nW p,.ty "bool"]) (ao (ah rfl) (ao av aw)) v_)))) (fun h=>by cases h) (fun _=>fX ⟨_,rfl,rfl⟩)
  ·rintro sl c2 ⟨x2,rfl,rfl⟩;exact⟨_,_,rfl,rfl⟩
 ·rintro sl c' ⟨x1,x2,rfl,rfl⟩;refine bL (w:=.lst (gx w)) (ce':=c') (rH (zs:=w) (en:=bF) (g:=fun e=>sW (dZ e.1)) (lJ (ah rfl) Lg) (le_of_lt (nJ hz)) (fun e he=>pT (bE (ws:=[aI e.1]) (ao (aM (ah rfl) av (eS (xs:=[aI e.1,dW e.2]) (j:=0) rfl rfl)) aw) rfl (C9 fu e.1 (by have:=hk e he;omega))))) ?_;refine ba ?_;have g2:(c'++[C.dtp (cJ w)])[c'.length]?=some (.dtp (cJ w)):=gr _ _;have g3:(c'++[C.dtp (cJ w)])[j]?=some (.lst (w.map bF)):=by rw[getElem?_append_left (List.getElem?_eq_some_iff.mp g).1];exact g
  have l1:nU [.cel c'.length] (c'++[C.dtp (cJ w)])=some (.ok (nW w.length) (c'++[C.dtp (cJ w)])):=by simp only[nU,sg g2];unfold cJ;rw[length_map];rfl
  have l2:=(aZ.cl g3:aZ (c'++[C.dtp (cJ w)]) (.cel j) (w.map bF)).len;rw[length_map] at l2;refine bQ (si (aM (ah rfl) (bX (ws:=[.lst (gx w)]) (ao (ah rfl) aw) (Eb h hz)) C8) (aY (bX (ws:=[.cel c'.length]) (ao (bX (ws:=[.cel j]) (ao (ah rfl) aw) (zA (ff g) h.nd)) aw) l1) (bX (ws:=[.cel j]) (ao (ah rfl) aw) l2) (vM _))) ?_;exact qp (by simp only[bc])
theorem n8(h16:b.length<=16):∀(r:Nat) (t:Bool) (pre:List (List Int)) (is:List Int) (ds:List (Option Nat)),∀e∈(aR b o q most r t pre is ds).2,e.1.length<=ds.length+r
 | 0,_,_,_,_,e,h=>by simp[aR] at h
 | r+1,true,pre,is,ds,e,h=>by
  unfold aR at h;split at h
  ·simp at h
  ·cases e1:(cZ (fun p=>decide ((lS b is o p).getD q 0=0)) (fun p=>aR b o q most r false (pre++[is]) (lS b is o p) (ds++[some p])) ds (eW b o q (pre++[is]) is) []).1 with
   | true =>
    obtain⟨p,hp,⟨_,h'⟩|⟨_,_,h'⟩⟩:=qt _ _ e1
    ·rw[h'] at h;simp only[mem_singleton] at h;subst h;show ds.length<=_;omega
    ·rw[h'] at h;rcases mem_cons.mp h with rfl|h
     ·show ds.length<=_;omega
     ·have:=n8 h16 r false _ _ _ e h;simp only[length_append,length_cons,length_nil] at this;omega
   | false =>
    obtain⟨_,h'⟩:=qz _ _ e1;rw[h'] at h;dsimp only at h;rw[nil_append] at h;obtain⟨l,hl,he⟩:=mem_flatten.mp h;obtain⟨p,_,rfl⟩:=mem_map.mp hl;have:=n8 h16 r false _ _ _ e he;simp only[length_append,length_cons,length_nil] at this;omega
 | r+1,false,pre,is,ds,e,h=>by
  unfold aR at h;split at h
  ·simp at h
  ·cases e1:(dJ (fun st=>aR b o q most r true (pre++[is]) st.2 (ds++[st.1])) ds (stM b (3-o) (pre++[is]) is) []).1 with
   | true =>
    obtain⟨_,h'⟩:=qr _ _ e1;rw[h'] at h;dsimp only at h;rw[nil_append] at h;obtain⟨l,hl,he⟩:=mem_flatten.mp h;obtain⟨p,_,rfl⟩:=mem_map.mp hl;have:=n8 h16 r true _ _ _ e he;simp only[length_append,length_cons,length_nil] at this;omega
   | false =>
    obtain⟨st,_,_,h'⟩:=qy _ _ e1;rw[h'] at h;rcases mem_cons.mp h with rfl|h
    ·show ds.length<=_;omega
    ·have:=n8 h16 r true _ _ _ e h;simp only[length_append,length_cons,length_nil] at this;omega
end
section
variable {is:List Int}
theorem GQ(fu:Nat)(hfu:200<=fu)(B:de b)(h16:b.length<=16)(hq:q<b.length)(P:aL b is (3-is.getD q 0))(m1:1<=most)(m5:most<=5)(g:c[j]?=some (.lst ((aR b (3-is.getD q 0) q most 10 true [] is []).2.map bF))) :
  d_s fu [.tup [.str (wd (aR b (3-is.getD q 0) q most 10 true [] is []).1),.cel j],wB b,wS is,nW q,nW most] c=some (.ok (.bl true) c):=by
 have z5:5<=sizeLine:=by decide
 have z1:1<=sizeLine:=by decide
 have hs:is.getD q 0=3-(3-is.getD q 0):=by omega
 have jq:=fun c:Ce=>fV (ce:=c) (is:=is) (p:=q) (by rw[P.hl];exact hq);have hw:=oF (b:=b) (o:=3-is.getD q 0) (q:=q) (most:=most) h16 10 true [] is [];have hk:∀e∈(aR b (3-is.getD q 0) q most 10 true [] is []).2,e.1.length<=100:=fun e he=>by
  have:=n8 h16 10 true [] is [] e he;simp only[length_nil] at this;omega
 have hz:(aR b (3-is.getD q 0) q most 10 true [] is []).2.length<=10000000:=by
  obtain⟨h1,h2⟩:=ke (b:=b) (o:=3-is.getD q 0) (q:=q) (most:=most) h16 10 true [] is [];have k1:lF 10 true<=10000000:=by decide +kernel
  have k2:lC 10 true<=10000000:=by decide +kernel
  cases e:(aR b (3-is.getD q 0) q most 10 true [] is []).1 with
  | true=>exact le_trans (h2 e) k2
  | false=>exact le_trans (h1 e) k1
 have hC:=zI (o:=3-is.getD q 0) (WB:=(aR b (3-is.getD q 0) q most 10 true [] is []).2) (kd:=c.length) (ku:=c.length+1) fu hfu B h16 hq hw.nd hz m5 most 10 10 [] [] is [];have hFr:=sO (o:=3-is.getD q 0) (WB:=(aR b (3-is.getD q 0) q most 10 true [] is []).2) (kd:=c.length) (ku:=c.length+1) fu hfu B h16 hq hw.nd hz m5 10 most 10 [] [] is [];generalize hX:aR b (3-is.getD q 0) q most 10 true [] is []=X at *;have f0:∀c:Ce,aE c (.tup [.str (wd X.1),.cel j]) (.int 0)=some (.str (wd X.1)):=fun c=>eS (xs:=[.str (wd X.1),.cel j]) (j:=0) rfl rfl;have f1:∀c:Ce,aE c (.tup [.str (wd X.1),.cel j]) (.int 1)=some (.cel j):=fun c=>eS (xs:=[.str (wd X.1),.cel j]) (j:=1) rfl rfl;have ew:=GR fu g hw hz hk;have hj:j<c.length:=(List.getElem?_eq_some_iff.mp g).1;unfold d_s;refine dE [some (.tup [.str (wd X.1),.cel j]),some (wB b),some (wS is),some (nW q),some (nW most),none,none] rfl ?_;have l2:cg [.tup [.str (wd X.1),.cel j]] c=some (.ok (.int 2) c):=rfl;refine cI (p:=(!true||(!true||!true))) (jI (i3 (bp (bX (ws:=[.tup [.str (wd X.1),.cel j],.ty "tuple"]) (ao (ah rfl) (ao av aw)) rfl))) (fun _=>jI (bp (aY (bX (ws:=[.tup [.str (wd X.1),.cel j]]) (ao (ah rfl) aw) l2) av rfl)) (fun _=>i3 (bp (bE (ws:=[.cel j]) (ao (aM (ah rfl) av (f1 _)) aw) rfl ew))))) (fun h=>by cases h) (fun _=>dH ?_);have l1:(c++[C.dtp (cJ X.2)]).length=c.length+1:=by simp
 have eh:∀sl:Sl,sl[0]?=some (some (.tup [.str (wd X.1),.cel j]))->sl[1]?=some (some (wB b))->sl[2]?=some (some (wS is))->sl[3]?=some (some (nW q))->bK (af (ae 1) (af (aF fT (dC (.int 3)) (aC aE (ae 2) (ae 3))) (af (ae 3) (af (bg lL (af (aC aE (ae 0) (dC (.int 1))) ak)) (af (dF ak) ak))))) sl c=some (.ok (cF b (3-is.getD q 0) q c.length (c.length+1)) (c++[C.dtp (cJ X.2)]++[C.lst []])):=fun sl s0 s1 s2 s3=>by
  exact eD (ws:=[wB b,.int (3-is.getD q 0),nW q,.cel c.length,.cel (c.length+1)]) (ao (ah (sl:=sl) (ce:=c) s1) (ao (aY av (aM (ah s2) (ah s3) (jq _)) rfl) (ao (ah s3) (ao (bX (ws:=[.cel j]) (ao (aM (ah s0) av (f1 _)) aw) (zA (ff g) hw.nd)) (ao (show dF ak sl (c++[C.dtp (cJ X.2)])=some (.ok (.cel (c.length+1)) (c++[C.dtp (cJ X.2)]++[C.lst []])) by rw[gZ aw (zero_le _),l1]) aw))))) z5
 refine bL (eh _ rfl rfl rfl rfl) ?_;refine ba ?_;have K:gL (c++[C.dtp (cJ X.2)]++[C.lst []]) c.length (c.length+1) X.2 []:=by
  refine⟨?_,?_⟩
  ·rw[getElem?_append_left (by rw[l1];omega)];exact gr _ _
  ·have:=gr (c++[C.dtp (cJ X.2)]) (C.lst []);rwa [l1] at this
 have g2:∀y:C,((c++[C.dtp (cJ X.2)]++[C.lst []]).set (c.length+1) y)[j]?=some (.lst (X.2.map bF)):=fun y=>by
  rw[getElem?_set_ne (by omega),getElem?_append_left (by rw[l1];omega),getElem?_append_left hj];exact g
 have K9:=K.set (X.2.map (·.1));have fin:finC c ((c++[C.dtp (cJ X.2)]++[C.lst []]).set (c.length+1) (C.lst ((X.2.map (·.1)).map aI))) (.bl true)=some (.ok (.bl true) c):=by
  have:(c++[C.dtp (cJ X.2)]++[C.lst []]).set (c.length+1) (C.lst ((X.2.map (·.1)).map aI))=c++[C.dtp (cJ X.2),C.lst ((X.2.map (·.1)).map aI)]:=by rw[append_assoc,set_append_right _ _ (by omega)];simp
  rw[this];exact qp (by simp only[bc])
 have last:∀x:W,x=.bl true->Run (a_ (iq (ae 6) (aF dn (bg cg (af (aC aE (ae 5) (dC (.int 4))) ak)) (bg cg (af (aC aE (ae 0) (dC (.int 1))) ak))))) [some (.tup [.str (wd X.1),.cel j]),some (wB b),some (wS is),some (nW q),some (nW most),some (cF b (3-is.getD q 0) q c.length (c.length+1)),some x] ((c++[C.dtp (cJ X.2)]++[C.lst []]).set (c.length+1) (C.lst ((X.2.map (·.1)).map aI))) (Rt fun v ce'=>finC c ce' v=some (.ok (.bl true) c)):=by rintro x rfl;have h4:aE ((c++[C.dtp (cJ X.2)]++[C.lst []]).set (c.length+1) (C.lst ((X.2.map (·.1)).map aI))) (cF b (3-is.getD q 0) q c.length (c.length+1)) (.int 4)=some (.cel (c.length+1)):=eS (xs:=[wB b,.int (3-is.getD q 0),nW q,.cel c.length,.cel (c.length+1)]) (j:=4) rfl rfl;have n1:=(aZ.cl K9.u).len;have n2:=(aZ.cl (g2 (C.lst ((X.2.map (·.1)).map aI)))).len;simp only[length_map] at n1 n2;exact bQ (si (ah rfl) (aY (bX (ws:=[.cel (c.length+1)]) (ao (aM (ah rfl) av h4) aw) n1) (bX (ws:=[.cel j]) (ao (aM (ah rfl) av (f1 _)) aw) n2) (vM _))) fin
 cases hb:X.1 with
 | true =>
  have hC':=hC (c++[C.dtp (cJ X.2)]++[C.lst []]) [] (by omega) m1 (by simp) P hs (fun x=>Iff.rfl) (by simp) hb (fun e he=>he) K (by simp);rw[nil_append] at hC';have hC2:d_k fu [cF b (3-is.getD q 0) q c.length (c.length+1),aU ([]++[is]),nW most,aI []] (c++[C.dtp (cJ X.2)]++[C.lst []])=some (.ok (.bl true) ((c++[C.dtp (cJ X.2)]++[C.lst []]).set (c.length+1) (C.lst ((X.2.map (·.1)).map aI)))):=by unfold d_k;exact hC'
  rw[hb] at last f0 f1;refine cI (p:=true) (bp (aM (aM (ah rfl) av (f0 _)) av rfl)) (fun _=>?_) (fun h=>by cases h);refine bL (w:=.bl true) (bE (ws:=[cF b (3-is.getD q 0) q c.length (c.length+1),aU ([]++[is]),nW most,aI []]) (ao (ah rfl) (ao (gD (ws:=[wS is]) (ao (ah rfl) aw) z1) (ao (ah rfl) (ao (eD aw (zero_le _)) aw)))) rfl hC2) ?_;refine ba ?_;exact last _ rfl
 | false =>
  have hF':=(hFr (c++[C.dtp (cJ X.2)]++[C.lst []]) [] m1 P hs (fun x=>Iff.rfl) (by simp) K).1 (by omega) (by simp) (by omega) hb (fun e he=>he) (by simp);rw[nil_append] at hF';have hF2:d_y fu [cF b (3-is.getD q 0) q c.length (c.length+1),aU ([]++[is]),nW most,aI []] (c++[C.dtp (cJ X.2)]++[C.lst []])=some (.ok (.bl true) ((c++[C.dtp (cJ X.2)]++[C.lst []]).set (c.length+1) (C.lst ((X.2.map (·.1)).map aI)))):=by unfold d_y;exact hF'
  rw[hb] at last f0 f1;refine cI (p:=false) (bp (aM (aM (ah rfl) av (f0 _)) av rfl)) (fun h=>by cases h) (fun _=>?_);refine bL (w:=.bl true) (si (aM (aM (ah rfl) av (f0 _)) av rfl) (bE (ws:=[cF b (3-is.getD q 0) q c.length (c.length+1),aU ([]++[is]),nW most,aI []]) (ao (ah rfl) (ao (gD (ws:=[wS is]) (ao (ah rfl) aw) z1) (ao (ah rfl) (ao (eD aw (zero_le _)) aw)))) rfl hF2)) ?_;refine ba ?_;exact last _ rfl
end
theorem main(ns:List Int)(_h:ns.length<=63):∃ce',d_law FU [.lst (ns.map W.int)] []=some (.ok (.bl true) ce'):=by
 have hz:=fJ;have hfu:200<=FU:=by decide
 have z2:2<=sizeLine:=by decide
 obtain⟨v0,c0⟩:=pX (ce:=[]) FU (ns:=ns) (k:=0) (by omega);obtain⟨v1,c1⟩:=pX (ce:=[]) FU (ns:=ns) (k:=1) (by omega);obtain⟨n,ls,eb,n4,n16,L⟩:=GZ (ce:=[]) FU v0 (most:=12) (by omega) (by omega);have B:=Fw L (by omega) (by omega);have bl:(gU n ls).length=n:=by simp[gU]
 generalize gU n ls=b at eb B bl;obtain⟨is,es,P⟩:=HU (ce:=[]) FU hfu B (ns:=ns) (at':=2) (by omega);obtain⟨w,et,hw⟩:=II (ce:=[]) FU hfu B P.hl v1
 suffices hs:∃w c,d_law FU [.lst (ns.map W.int)] []=some (.ok w c)/\w=.bl true by
  obtain⟨w,c,e,rfl⟩:=hs;exact⟨c,e⟩
 have hsn:(.lst (ns.map W.int):W)=sW ns:=rfl;unfold d_law;refine jE [some (sW ns),none,none,none,none,none,none,none] rfl ?_;have c0':d_h FU [sW ns,.int 0] []=some (.ok (.int v0) []):=c0;have c1':d_h FU [sW ns,.int 1] []=some (.ok (.int v1) []):=c1;have eb':d_t FU [.int v0,.int 12] []=some (.ok (wB b) []):=eb;have es':d_m FU [sW ns,.int 2,wB b] []=some (.ok (wS is) []):=es;refine bL (w:=wB b) (ce':=[]) (bE (ws:=[.int v0,.int 12]) (ao (bE (ws:=[sW ns,.int 0]) (ao (ah rfl) (ao av aw)) rfl c0') (ao av aw)) rfl eb') ?_;refine ba ?_;refine bL (w:=wS is) (ce':=[]) (bE (ws:=[sW ns,.int 2,wB b]) (ao (ah rfl) (ao av (ao (ah rfl) aw))) rfl es') ?_;refine ba ?_;refine bL (w:=w) (ce':=[]) (bE (ws:=[wB b,wS is,.int v1]) (ao (ah rfl) (ao (ah rfl) (ao (bE (ws:=[sW ns,.int 1]) (ao (ah rfl) (ao av aw)) rfl c1') aw))) rfl et) ?_;refine ba ?_;rcases hw with rfl|⟨q,rfl,hq,hq0⟩
 ·refine cI (p:=true) (ce':=[]) (bp (eA (ah rfl) rfl)) (fun _=>?_) (fun q=>by cases q);exact iH (bQ (w:=.bl true) (ce':=[]) av ⟨_,_,fD (by simp only[bc]),rfl⟩)
 refine cI (p:=false) (ce':=[]) (bp (eA (ah rfl) rfl)) (fun q=>by cases q) (fun _=>dH ?_);refine bL (w:=.int v1) (ce':=[]) (bE (ws:=[sW ns,.int 1]) (ao (ah rfl) (ao av aw)) rfl c1') ?_;refine ba ?_;obtain⟨u,hu,eu⟩:=jX (ce:=[]) FU v1 (k:=7) (by omega) (m:=8) (by omega);have ho:3-is.getD q 0=1\/3-is.getD q 0=2:=by have:=P.v q hq;omega
 have Po:=P.of1 ho;obtain⟨m,m1,m5,em⟩:∃m:Nat,1<=m/\m<=5/\aF cu (dC (.int 1)) (aF dY (aP 2 (d_ba FU) (af (ae 4) (af (dC (.int 6)) ak))) (aF cu (dC (.int 3)) (aF ee (dC (.int 2)) (bg jz (af (gK (aF iN (bg cg (af (ae 1) ak)) (dC (.int 10))) (aF dn (aF dY (aP 2 (d_ba FU) (af (ae 4) (af (dC (.int 7)) ak))) (dC (.int 8))) (dC (.int 5)))) ak))))) [some (sW ns),some (wB b),some (wS is),some (nW q),some (.int v1),none,none,none] []=some (.ok (nW m) []):=by
  have eβ:gK (aF iN (bg cg (af (ae 1) ak)) (dC (.int 10))) (aF dn (aF dY (aP 2 (d_ba FU) (af (ae 4) (af (dC (.int 7)) ak))) (dC (.int 8))) (dC (.int 5))) [some (sW ns),some (wB b),some (wS is),some (nW q),some (.int v1),none,none,none] []=some (.ok (.bl (decide ((b.length:Int)<10)||decide ((u:Int)=5))) []):=sk (aY (bX (ws:=[wB b]) (ao (ah rfl) aw) kT) av (lN rfl rfl)) (fun _=>aY (eu _ _ _ (ah rfl) av _ av) av (gY rfl rfl));generalize (decide ((b.length:Int)<10)||decide ((u:Int)=5))=β at eβ;obtain⟨k,k3,k5,ek⟩:∃k:Nat,0<k/\k<=5/\aF cu (dC (.int 3)) (aF ee (dC (.int 2)) (bg jz (af (gK (aF iN (bg cg (af (ae 1) ak)) (dC (.int 10))) (aF dn (aF dY (aP 2 (d_ba FU) (af (ae 4) (af (dC (.int 7)) ak))) (dC (.int 8))) (dC (.int 5)))) ak))) [some (sW ns),some (wB b),some (wS is),some (nW q),some (.int v1),none,none,none] []=some (.ok (nW k) []):=by
   cases β with
   | true=>exact⟨5,by omega,by omega,aY (y:=.int 2) av (aY (y:=.int 1) av (bX (ws:=[.bl true]) (ao eβ aw) rfl) (gA (i:=2) (j:=1) rfl rfl (.inl (by omega)))) rfl⟩
   | false=>exact⟨3,by omega,by omega,aY (y:=.int 0) av (aY (y:=.int 0) av (bX (ws:=[.bl false]) (ao eβ aw) rfl) (gA (i:=2) (j:=0) rfl rfl (.inl (by omega)))) rfl⟩
  obtain⟨v,hv,ev⟩:=jX (ce:=[]) FU v1 (k:=6) (by omega) (m:=k) k3;exact⟨v+1,by omega,by omega,aY av (ev _ _ _ (ah rfl) av _ ek) (by show some (W.int (1+(v:Int)))=some (W.int ((v+1:Nat):Int));rw[show(1+(v:Int))=((v+1:Nat):Int) by omega])⟩
 refine bL (w:=nW m) (ce':=[]) em ?_;refine ba ?_;refine hJ (zs:=List.range 2) (en:=nW) (c1:=[]) (kI (n:=2) (ao av aw) (by omega))
  (fun d sl c=>∃x6 x7,sl=[some (sW ns),some (wB b),some (wS is),some (nW q),some (.int v1),some (nW m),x6,x7]) ⟨_,_,rfl⟩ ?_ ?_
 ·rintro d k r sl c e hk ⟨x6,x7,rfl⟩;have jq:=fV (ce:=c) (is:=is) (p:=q) (by rw[P.hl];exact hq);obtain⟨w,c',e1,j,l,rfl,O⟩:=G1 (most:=m) FU hfu B (by omega) hq Po m1 m5 c;have e2:=GQ (most:=m) FU hfu B (by omega) hq Po m1 m5 O.g0;unfold wM;refine ba ?_;refine bL (bE (ws:=[wB b,wS is,.int (3-is.getD q 0),nW q,nW m]) (ao (ah rfl) (ao (ah rfl) (ao (aY av (aM (ah rfl) (ah rfl) jq) rfl) (ao (ah rfl) (ao (ah rfl) aw))))) rfl e1) ?_;refine ba ?_;refine cI (p:=!true) (i3 (bp (bE (ws:=[.tup [.str (wd (aR b (3-is.getD q 0) q m 10 true [] is []).1),.cel j],wB b,wS is,nW q,nW m]) (ao (ah rfl) (ao (ah rfl) (ao (ah rfl) (ao (ah rfl) (ao (ah rfl) aw))))) rfl e2))) (fun h=>by cases h) (fun _=>dH ?_);refine jh (w:=.non) (wY (aM (ah rfl) av (eS (xs:=[.str (wd (aR b (3-is.getD q 0) q m 10 true [] is []).1),.cel j]) (j:=1) rfl rfl)) (ff O.g0) (GP O.g0)) ?_;exact⟨_,_,rfl⟩
 ·rintro sl c ⟨x6,x7,rfl⟩;exact bQ (w:=.bl true) av ⟨_,_,(⟨⟨c,rfl⟩,by simp,by simp,by simp⟩:Own [] c []).finC (by simp only[bc]),rfl⟩
end K38
namespace K38
theorem fin_mk{l:PySem.W.OpenLaw}(z:∃A:qY,Txt K mg A/\fa=A.f_law/\∀(s:Shared) (v:Value),BindsTo s A.d_law ⟨[v],[]⟩ [("_law_script",v)]) :
  ∃fd:FuncData,(∀(s:Shared) (u:Value),BindsTo s fd ⟨[u],[]⟩ [("_law_script",u)])/\∀base:Heap,K.In base->base.Ns mainGlobals mg->au l.prog w K mg base CX0 20 fa fd ["_law_script"] (spLaw Gx (d_law FU) K):=by
 obtain⟨A,T,e,b⟩:=z;subst e;exact⟨A.d_law,b,fun base _ _=>Fc T.nl (C1 FU T)⟩
end K38
open PySem.W
namespace PySem.W.Fast
theorem tw1429583444925725822:True:=⟨⟩
theorem tw8478623397008779810:True:=⟨⟩
theorem tw2598845224693323894:True:=⟨⟩
theorem tw3918719424735512035:True:=⟨⟩
theorem tw18412609684538656714:True:=⟨⟩
theorem tw18153027194667976131:True:=⟨⟩
theorem tw4552138791583399166:True:=⟨⟩
theorem tw1469302661744515026:True:=⟨⟩
theorem tw8904957154137477263:True:=⟨⟩
theorem tw9508560805347000521:True:=⟨⟩
theorem tw4152404034487727446:True:=⟨⟩
theorem tw250409288571019953:True:=⟨⟩
theorem tw283469271035180798:True:=⟨⟩
theorem tw14485457703963626307:True:=⟨⟩
theorem tw7043086250519626728:True:=⟨⟩
theorem tw2523448031030806537:True:=⟨⟩
theorem tw11416367814893495741:True:=⟨⟩
theorem tw11105270414721816579:True:=⟨⟩
theorem tw2583503527884679829:True:=⟨⟩
theorem tw16258962937405039985:True:=⟨⟩
theorem tw8431962961634090861:True:=⟨⟩
theorem tw13004964329228056797:True:=⟨⟩
theorem tw4236477219392965095:True:=⟨⟩
theorem tw294135225597772756:True:=⟨⟩
theorem tw10603184270783938023:True:=⟨⟩
theorem tw17210752375924848061:True:=⟨⟩
theorem tw14140138487992850668:True:=⟨⟩
theorem tw17550279379948609977:True:=⟨⟩
theorem tw9626200847702320864:True:=⟨⟩
theorem tw3552693433506324687:True:=⟨⟩
theorem tw4554125054429609179:True:=⟨⟩
theorem tw17596587824413840438:True:=⟨⟩
theorem tw8589038315224546400:True:=⟨⟩
theorem tw12898576698802673270:True:=⟨⟩
theorem tw3841163378184903222:True:=⟨⟩
theorem tw9914584214222361749:True:=⟨⟩
theorem tw1304665550913076512:True:=⟨⟩
theorem tw11571499994207472322:True:=⟨⟩
theorem tw13097178400347959271:True:=⟨⟩
theorem tw18217952503062298716:True:=⟨⟩
theorem tw2848740789157575412:True:=⟨⟩
theorem tw16213465248217522967:True:=⟨⟩
theorem tw9236748188286935172:True:=⟨⟩
theorem tw4336892911740057289:True:=⟨⟩
theorem tw4223391924086013470:True:=⟨⟩
theorem tw5829737112903812645:True:=⟨⟩
theorem tw4964657519650936708:True:=⟨⟩
theorem tw16284338179454048442:True:=⟨⟩
theorem tw6505170336451010203:True:=⟨⟩
theorem tw9734099069232216557:True:=⟨⟩
theorem tw3035123587856909505:True:=⟨⟩
theorem tw13467563109433344198:True:=⟨⟩
theorem tw694325831685439521:True:=⟨⟩
theorem tw10396292234442874582:True:=⟨⟩
theorem tw1683387850705531859:True:=⟨⟩
theorem tw15642381006469946331:True:=⟨⟩
theorem tw7057535801230958988:True:=⟨⟩
theorem tw750900993736177160:True:=⟨⟩
theorem tw885911682172827102:True:=⟨⟩
theorem tw11430402472944386777:True:=⟨⟩
theorem tw6955257633892984847:True:=⟨⟩
theorem tw12760587865377723511:True:=⟨⟩
theorem tw1978447125330330861:True:=⟨⟩
theorem tw9345981979394593789:True:=⟨⟩
theorem tw14723789746237616019:True:=⟨⟩
theorem tw3181055720009634112:True:=⟨⟩
theorem tw2576023595198217178:True:=⟨⟩
theorem tw4105227071468619926:True:=⟨⟩
theorem tw14713489980615185346:True:=⟨⟩
theorem tw9943338862689977416:True:=⟨⟩
theorem tw1165052828468899669:True:=⟨⟩
theorem tw9204672480699532837:True:=⟨⟩
theorem tw7041816303057737938:True:=⟨⟩
theorem tw13316215352013251930:True:=⟨⟩
theorem tw1465590353679701264:True:=⟨⟩
theorem tw12239860165753326812:True:=⟨⟩
theorem tw4323017077541761665:True:=⟨⟩
theorem tw17189860624321775814:True:=⟨⟩
theorem tw18399392516004365340:True:=⟨⟩
theorem tw8129810866837051930:True:=⟨⟩
end PySem.W.Fast
theorem PySem.W.Fast.te2434971343281501015 : True := trivial
theorem PySem.W.Fast.tw1488931876259276935 : True := trivial
theorem PySem.W.Fast.tw17951757872296614083 : True := trivial
theorem PySem.W.Fast.tw8149955121684307654 : True := trivial
theorem PySem.W.Fast.tw17215105162714565963 : True := trivial
theorem PySem.W.Fast.tw7588733202710657357 : True := trivial
theorem PySem.W.Fast.tw12965854535701546413 : True := trivial
theorem PySem.W.Fast.tw9406457731194183283 : True := trivial
theorem PySem.W.Fast.tw4415474035543861685 : True := trivial
theorem PySem.W.Fast.tw6996265014228956021 : True := trivial
theorem PySem.W.Fast.tw8242408890861007318 : True := trivial
set_option maxRecDepth 100000 in
theorem PySem.Challenge.cw_stonebreath_k38_whole_chases_walked_holds : PySem.Challenge.rw_stonebreath_k38_whole_chases_walked.Holds := by
 w_on;o_law;k_head;(case hw=>w_witness2)
 k_fill
 refine L2.walk_ofK (l:=PySem.Challenge.rw_stonebreath_k38_whole_chases_walked) (n:=63) (k:=20) (x := "_law_script") (CX:=L2.CX0) (sp:=VS.spLaw K38.Gx (K38.d_law K38.FU)) rfl (by decide) rfl ⟨rfl,by decide,by decide⟩ (fun w h Y=>PySem.W.kIn_of Y) ?F (VS.law_sp K38.main) (fun _ _ _ _ z=>z)
 case F =>
  intro w mg fa h KX G hmg
  refine' K38.fin_mk (K38.all_mk KX G hmg ?ac_Chase ?pg_Chase ?hd_Chase ?po_Chase ?sa_Chase ?mi_Chase ?kc_Chase ?na_Chase_hunter ?na_Chase_joined ?na_Chase_most ?na_Chase_runner ?na_Chase_stone ?a0 ?l0 ?a1 ?l1 ?a2 ?l2 ?a3 ?l3 ?a4 ?l4 ?a5 ?l5 ?a6 ?l6 ?a7 ?l7 ?a8 ?l8 ?a9 ?l9 ?a10 ?l10 ?a11 ?l11 ?a12 ?l12 ?a13 ?l13 ?a14 ?l14 ?a15 ?l15 ?a16 ?l16 ?a17 ?l17 ?a18 ?l18 ?a19 ?l19 ?a20 ?l20 ?a21 ?l21 ?a22 ?l22 ?a23 ?l23 ?a24 ?l24 ?a25 ?l25 ?a26 ?l26 ?a27 ?l27 ?a28 ?l28 ?a29 ?l29 ?a30 ?l30 ?a31 ?l31 ?a32 ?l32 ?c32 ?k32 ?a33 ?fn33 ?l33 ?a34 ?fn34 ?l34 ?a35 ?fn35 ?l35 ?a36 ?fn36 ?l36 ?a37 ?fn37 ?l37 ?a38 ?fn38 ?l38 ?q0 ?z_bool ?z_dict ?z_int ?z_isinstance ?z_len ?z_list ?z_range ?z_sorted ?z_tuple ?xt ?nl)
  (case ac_Chase=>k_is);(case pg_Chase=>k_is);(case hd_Chase=>k_is);(case po_Chase=>k_is);(case sa_Chase=>k_is);(case mi_Chase=>k_is);(case kc_Chase=>k_is);(case na_Chase_hunter=>k_is);(case na_Chase_joined=>k_is);(case na_Chase_most=>k_is);(case na_Chase_runner=>k_is);(case na_Chase_stone=>k_is);(case a0=>k_is);(case l0=>exact VS.fnk (by k_is) (by k_is) (by k_is));(case a1=>k_is);(case l1=>exact VS.fnk (by k_is) (by k_is) (by k_is));(case a2=>k_is);(case l2=>exact VS.fnk (by k_is) (by k_is) (by k_is));(case a3=>k_is);(case l3=>exact VS.fnk (by k_is) (by k_is) (by k_is));(case a4=>k_is);(case l4=>exact VS.fnk (by k_is) (by k_is) (by k_is));(case a5=>k_is);(case l5=>exact VS.fnk (by k_is) (by k_is) (by k_is));(case a6=>k_is);(case l6=>exact VS.fnk (by k_is) (by k_is) (by k_is));(case a7=>k_is);(case l7=>exact VS.fnk (by k_is) (by k_is) (by k_is));(case a8=>k_is);(case l8=>exact VS.fnk (by k_is) (by k_is) (by k_is));(case a9=>k_is);(case l9=>exact VS.fnk (by k_is) (by k_is) (by k_is));(case a10=>k_is);(case l10=>exact VS.fnk (by k_is) (by k_is) (by k_is));(case a11=>k_is);(case l11=>exact VS.fnk (by k_is) (by k_is) (by k_is));(case a12=>k_is);(case l12=>exact VS.fnk (by k_is) (by k_is) (by k_is));(case a13=>k_is);(case l13=>exact VS.fnk (by k_is) (by k_is) (by k_is));(case a14=>k_is);(case l14=>exact VS.fnk (by k_is) (by k_is) (by k_is));(case a15=>k_is);(case l15=>exact VS.fnk (by k_is) (by k_is) (by k_is));(case a16=>k_is);(case l16=>exact VS.fnk (by k_is) (by k_is) (by k_is));(case a17=>k_is);(case l17=>exact VS.fnk (by k_is) (by k_is) (by k_is));(case a18=>k_is);(case l18=>exact VS.fnk (by k_is) (by k_is) (by k_is));(case a19=>k_is);(case l19=>exact VS.fnk (by k_is) (by k_is) (by k_is));(case a20=>k_is);(case l20=>exact VS.fnk (by k_is) (by k_is) (by k_is));(case a21=>k_is);(case l21=>exact VS.fnk (by k_is) (by k_is) (by k_is));(case a22=>k_is);(case l22=>exact VS.fnk (by k_is) (by k_is) (by k_is));(case a23=>k_is);(case l23=>exact VS.fnk (by k_is) (by k_is) (by k_is));(case a24=>k_is);(case l24=>exact VS.fnk (by k_is) (by k_is) (by k_is));(case a25=>k_is);(case l25=>exact VS.fnk (by k_is) (by k_is) (by k_is));(case a26=>k_is);(case l26=>exact VS.fnk (by k_is) (by k_is) (by k_is));(case a27=>k_is);(case l27=>exact VS.fnk (by k_is) (by k_is) (by k_is));(case a28=>k_is);(case l28=>exact VS.fnk (by k_is) (by k_is) (by k_is));(case a29=>k_is);(case l29=>exact VS.fnk (by k_is) (by k_is) (by k_is));(case a30=>k_is);(case l30=>exact VS.fnk (by k_is) (by k_is) (by k_is));(case a31=>k_is);(case l31=>exact VS.fnk (by k_is) (by k_is) (by k_is));(case a32=>k_is);(case l32=>k_is);(case c32=>k_is);(case k32=>k_is);(case a33=>k_is);(case fn33=>k_is);(case l33=>exact VS.fnk (by k_is) (by k_is) (by k_is));(case a34=>k_is);(case fn34=>k_is);(case l34=>exact VS.fnk (by k_is) (by k_is) (by k_is));(case a35=>k_is);(case fn35=>k_is);(case l35=>exact VS.fnk (by k_is) (by k_is) (by k_is));(case a36=>k_is);(case fn36=>k_is);(case l36=>exact VS.fnk (by k_is) (by k_is) (by k_is));(case a37=>k_is);(case fn37=>k_is);(case l37=>exact VS.fnk (by k_is) (by k_is) (by k_is));(case a38=>k_is);(case fn38=>k_is);(case l38=>exact VS.fnk (by k_is) (by k_is) (by k_is));(case q0=>k_is);(case z_bool=>k_is);(case z_dict=>k_is);(case z_int=>k_is);(case z_isinstance=>k_is);(case z_len=>k_is);(case z_list=>k_is);(case z_range=>k_is);(case z_sorted=>k_is);(case z_tuple=>k_is);(case xt=>kernel_rfl);(case nl=>kernel_rfl)
